import PyProof.Rows.All
import Wide.All
import OpenK.AllK
import Wide.FinOn
import HandS.ForMost
import HandS.Exc
import HandS.TryOnly
import HandS.TryMany
import HandS.ExcOwn
import HandS.Small
import HandS.IsInst
import HandS.CallLocal
import HandS.Lambda
import HandS.Wide
import HandS.TupAny
import HandS.Deep
import HandS.NoneIn
import KE.KDictDisplayH
import HandS.Style
import HandS.More
import HandS.MapSum
import HandS.Zip
import HandS.Sort
import KE.SortData
import HandS.EndTab
import PySem.Challenge.RW_helpedcalls_k00_whole_objects
import HandS.Head0
import HandS.Head1
import HandS.Head2
import HandS.HeadEnd
import HandS.HeadHook1
import HandS.HeadHook2
import HandS.HeadHook3
import HandS.HeadHook4
import HandS.HeadWalk
import HandS.Defaults
/-! part DA -/
set_option Elab.async false
set_option linter.all false
set_option maxRecDepth 100000
set_option maxHeartbeats 4000000
/-! A verified reading of plain Python: values as data (PyData), a store of mutable lists, defs by name. -/
namespace DD
open PySem PySem.Spec PyProof.Rows L2 LamX

/-- a value: data, a mutable object of the store, a def by its name -/
inductive Vl where
  | d (x : PyData) | m (n : Nat) | f (x : Str) | r (lo hi : Int)
/-- a mutable object: a list, a dict -/
inductive MO where
  | l (xs : List PyData)
  | k (kvs : List (NestedKey × PyData))
abbrev Sto := List MO
abbrev Ev := List (Option Vl)
/-- what a computation gives: an answer or an exception's class -/
def M (α : Type) := Sto → Option (Except Str α × Sto)
instance : Monad M where
  pure a := fun S => some (.ok a, S)
  bind m g := fun S => match m S with
    | none => none
    | some (.error e, S') => some (.error e, S')
    | some (.ok a, S') => g a S'
def M.fail {α : Type} : M α := fun _ => none
def M.lift {α : Type} (o : Option α) : M α := fun S => o.map fun a => (.ok a, S)
theorem M.pure_run {α : Type} (a : α) (S : Sto) : (pure a : M α) S = some (.ok a, S) := rfl
theorem M.bind_run {α β : Type} (m : M α) (g : α → M β) (S : Sto) : (m >>= g) S = match m S with
    | none => none
    | some (.error e, S') => some (.error e, S')
    | some (.ok a, S') => g a S' := rfl

/-! ### data and the abstract heap -/
/-- the live objects: those of the store by their numbers, hidden ones (a comprehension's list while it is filled) -/
structure Lv where
  st : List Addr
  hid : List Addr
def Lv.no (r : Lv) (a : Addr) : Prop := a ∉ r.st ∧ a ∉ r.hid
def Lv.yes (r : Lv) (a : Addr) : Prop := a ∈ r.st ∨ a ∈ r.hid
/-- a list of the written part -/
def KL (K : PySem.W.Frag) (a : Addr) (xs : List V) : Prop :=
  ∃ (o : Obj) (its : Array Value) (n : Nat), K.lookup a = some o ∧ o.cls = .type "list" ∧ o.dict = none ∧ o.data = .seq its n ∧ its.size ≤ sizeLine ∧ Vals xs its.toList
/-- a list that nobody changes any more: not among the live ones r -/
def SqF (K : PySem.W.Frag) (r : Lv) (H : Hp) (a : Addr) (xs : List V) : Prop :=
  (H a = some (.lst xs) ∧ r.no a) ∨ (∃ o, H a = some (.frz o (.lst xs))) ∨ KL K a xs
theorem SqF.sq {K : PySem.W.Frag} {r : Lv} {H : Hp} {a : Addr} {xs : List V} (h : SqF K r H a xs) : SqL K H a xs := by
  rcases h with ⟨h, _⟩ | ⟨o, h⟩ | h
  · exact .inl (.inl h)
  · exact .inl (.inr ⟨o, h⟩)
  · exact .inr h
mutual
inductive Rp (K : PySem.W.Frag) (r : Lv) (H : Hp) : V → PyData → Prop
  | non : Rp K r H .non .none
  | bl (b : Bool) : Rp K r H (.bl b) (.bool b)
  | int (i : Int) : Rp K r H (.int i) (.int i)
  | str (x : Str) : Rp K r H (.str x) (.str x)
  | lst {a : Addr} {xs : List V} {ds : List PyData} : SqF K r H a xs → RpAll K r H xs ds → Rp K r H (.ref a) (.list ds)
  | tup {a : Addr} {xs : List V} {ds : List PyData} : SqT K H a xs → RpAll K r H xs ds → Rp K r H (.ref a) (.tuple ds)
inductive RpAll (K : PySem.W.Frag) (r : Lv) (H : Hp) : List V → List PyData → Prop
  | nil : RpAll K r H [] []
  | cons {v : V} {vs : List V} {d : PyData} {ds : List PyData} : Rp K r H v d → RpAll K r H vs ds → RpAll K r H (v :: vs) (d :: ds)
end
section
variable {K : PySem.W.Frag} {r r' : Lv} {H H' : Hp}
theorem RpAll.length : ∀ {vs : List V} {ds : List PyData}, RpAll K r H vs ds → vs.length = ds.length
  | _, _, .nil => rfl
  | _, _, .cons _ t => by simp [RpAll.length t]
theorem RpAll.get : ∀ {vs : List V} {ds : List PyData} {i : Nat} {d : PyData}, RpAll K r H vs ds → ds[i]? = some d → ∃ v, vs[i]? = some v ∧ Rp K r H v d
  | _, _, _, _, .nil, e => by simp at e
  | _, _, 0, _, .cons h _, e => by simp at e; subst e; exact ⟨_, rfl, h⟩
  | _, _, i + 1, d, .cons _ t, e => by
    obtain ⟨v, h1, h2⟩ := RpAll.get (i := i) (d := d) t (by simpa using e)
    exact ⟨v, by simpa using h1, h2⟩
theorem RpAll.getV : ∀ {vs : List V} {ds : List PyData} {i : Nat} {v : V}, RpAll K r H vs ds → vs[i]? = some v → ∃ d, ds[i]? = some d ∧ Rp K r H v d
  | _, _, _, _, .nil, e => by simp at e
  | _, _, 0, _, .cons h _, e => by simp at e; subst e; exact ⟨_, rfl, h⟩
  | _, _, i + 1, v, .cons _ t, e => by
    obtain ⟨d, h1, h2⟩ := RpAll.getV (i := i) (v := v) t (by simpa using e)
    exact ⟨d, by simpa using h1, h2⟩
theorem RpAll.append : ∀ {vs us : List V} {ds es : List PyData}, RpAll K r H vs ds → RpAll K r H us es → RpAll K r H (vs ++ us) (ds ++ es)
  | _, _, _, _, .nil, s => s
  | _, _, _, _, .cons h t, s => .cons h (RpAll.append t s)
theorem RpAll.take : ∀ {vs : List V} {ds : List PyData} (n : Nat), RpAll K r H vs ds → RpAll K r H (vs.take n) (ds.take n)
  | _, _, 0, _ => .nil
  | _, _, _ + 1, .nil => .nil
  | _, _, n + 1, .cons h t => .cons h (RpAll.take n t)
theorem RpAll.drop : ∀ {vs : List V} {ds : List PyData} (n : Nat), RpAll K r H vs ds → RpAll K r H (vs.drop n) (ds.drop n)
  | _, _, 0, h => h
  | _, _, _ + 1, .nil => .nil
  | _, _, n + 1, .cons _ t => RpAll.drop n t
theorem RpAll.set {v : V} {d : PyData} (h : Rp K r H v d) : ∀ {vs : List V} {ds : List PyData} (n : Nat), RpAll K r H vs ds → RpAll K r H (vs.set n v) (ds.set n d)
  | _, _, _, .nil => .nil
  | _, _, 0, .cons _ t => .cons h t
  | _, _, n + 1, .cons q t => .cons q (RpAll.set h n t)
mutual
theorem Rp.dp : ∀ {v : V} {d : PyData}, Rp K r H v d → Dp K H v d
  | _, _, .non => .non
  | _, _, .bl b => .bl b
  | _, _, .int i => .int i
  | _, _, .str x => .str x
  | _, _, .lst h t => .lst h.sq (RpAll.dp t)
  | _, _, .tup h t => .tup h (RpAll.dp t)
theorem RpAll.dp : ∀ {vs : List V} {ds : List PyData}, RpAll K r H vs ds → DpAll K H vs ds
  | _, _, .nil => .nil
  | _, _, .cons h t => .cons (Rp.dp h) (RpAll.dp t)
end
mutual
theorem Rp.map (hl : ∀ a xs, SqF K r H a xs → SqF K r' H' a xs) (ht : ∀ a xs, SqT K H a xs → SqT K H' a xs) : ∀ {v : V} {d : PyData}, Rp K r H v d → Rp K r' H' v d
  | _, _, .non => .non
  | _, _, .bl b => .bl b
  | _, _, .int i => .int i
  | _, _, .str x => .str x
  | _, _, .lst h t => .lst (hl _ _ h) (RpAll.map hl ht t)
  | _, _, .tup h t => .tup (ht _ _ h) (RpAll.map hl ht t)
theorem RpAll.map (hl : ∀ a xs, SqF K r H a xs → SqF K r' H' a xs) (ht : ∀ a xs, SqT K H a xs → SqT K H' a xs) : ∀ {vs : List V} {ds : List PyData}, RpAll K r H vs ds → RpAll K r' H' vs ds
  | _, _, .nil => .nil
  | _, _, .cons h t => .cons (Rp.map hl ht h) (RpAll.map hl ht t)
end
end
/-- a key carried by value -/
def nkeyV : Option Key → NestedKey
  | none => .none
  | some (.inl i) => .num i
  | some (.inr x) => .text x
/-- a dict's object at a: keys by value, or keys that are tuples -/
def DForm (wd : World) (a : Addr) (kvs : List (NestedKey × Addr × V)) (h : Heap) : Prop :=
  kvs.length ≤ sizeLine ∧ (a == sysModules) = false ∧
  ((∃ vs : List (Option Key × Value), Paired (fun (p : NestedKey × Addr × V) (q : Option Key × Value) => p.1 = nkeyV q.1 ∧ RelV p.2.2 q.2) kvs vs ∧ ∀ P : Program, h.DictOf (noneKind P wd) a vs) ∨
   ((∀ p ∈ kvs, ∃ ks, p.1 = .tup ks) ∧ ∃ xs : List (NestedKey × Addr × Value), Paired (fun (p : NestedKey × Addr × V) (q : NestedKey × Addr × Value) => p.1 = q.1 ∧ p.2.1 = q.2.1 ∧ RelV p.2.2 q.2.2) kvs xs ∧
     ∃ o es ep, h.get? a = some o ∧ o.ExactDict ∧ o.data = .dict es ep ∧ es.toList = xs.map (fun x => (⟨x.1.hash wd, .ref x.2.1, x.2.2⟩ : DictEntry)) ∧ (xs.map (·.1)).Nodup))
theorem DForm.obj {wd : World} {a : Addr} {kvs : List (NestedKey × Addr × V)} {h : Heap} (x : DForm wd a kvs h) : ∃ o es ep, h.get? a = some o ∧ o.data = .dict es ep := by
  obtain ⟨_, _, ⟨vs, _, d⟩ | ⟨_, xs, _, o, es, ep, e, _, e2, _⟩⟩ := x
  · obtain ⟨o, es, ep, e, _, e2, _⟩ := d default
    exact ⟨o, es, ep, e, e2⟩
  · exact ⟨o, es, ep, e, e2⟩
abbrev HoD (wd : World) (a : Addr) (kvs : List (NestedKey × Addr × V)) : HO := .ext (DForm wd a kvs)
theorem codeO_hoD {c a : Addr} {q : Str} {wd : World} {kvs : List (NestedKey × Addr × V)} (e : CodeO c q = HoD wd a kvs) : False := by
  unfold LamX.CodeO HoD at e
  have e2 := HO.ext.inj e
  have h := congrFun e2 ⟨(List.replicate (c + 1) { cls := .none, data := .fields #[.none, .str q 0] }).toArray, {}⟩
  have l : ∃ (oc : Obj) (vs : Array Value) (t : Tok), Heap.get? ⟨(List.replicate (c + 1) ({ cls := .none, data := .fields #[.none, .str q 0] } : Obj)).toArray, {}⟩ c = some oc ∧ oc.data = .fields vs ∧ vs[1]? = some (.str q t) :=
    ⟨{ cls := .none, data := .fields #[.none, .str q 0] }, #[.none, .str q 0], 0, by simp [Heap.get?], rfl, rfl⟩
  rw [h] at l
  obtain ⟨o, es, ep, h1, h2⟩ := l.obj
  unfold Heap.get? at h1
  have : ∀ x : Nat, (List.replicate (c + 1) ({ cls := .none, data := .fields #[.none, .str q 0] } : Obj)).toArray[x]? = none ∨ (List.replicate (c + 1) ({ cls := .none, data := .fields #[.none, .str q 0] } : Obj)).toArray[x]? = some { cls := .none, data := .fields #[.none, .str q 0] } := fun x => by
    simp only [List.getElem?_toArray, List.getElem?_replicate]
    split
    · exact .inr rfl
    · exact .inl rfl
  rcases this a with z | z
  · simp only [z] at h1; cases h1
  · simp only [z] at h1
    cases h1
    cases h2
/-- what may be live -/
def MutL : Option HO → Prop
  | some (.lst _) => True
  | some (.ext φ) => ∃ wd a kvs, φ = DForm wd a kvs
  | _ => False
/-- nothing stands at a (where lambdas are made: or a table) -/
def Nt (lam : Bool) (H : Hp) (a : Addr) : Prop := H a = none ∨ (lam = true ∧ ∃ ps, H a = some (.tbl ps))
theorem Nt.clash {lam : Bool} {H : Hp} {a : Addr} {o : HO} (h : Nt lam H a) (e : H a = some o) : lam = true ∧ ∃ ps, o = .tbl ps := by
  rcases h with h | ⟨l, ps, h⟩
  · rw [h] at e; cases e
  · rw [h] at e; exact ⟨l, ps, (Option.some.inj e).symm⟩
/-- from (r, H) on to (r', H'): the live ones grow, all that is not live stands (but tables, where lambdas are made) -/
structure Ext (lam : Bool) (r r' : Lv) (H H' : Hp) : Prop where
  pre : ∃ new, r' = ⟨r.st ++ new, r.hid⟩ ∧ ∀ a ∈ new, Nt lam H a
  keep : ∀ a o, H a = some o → a ∉ r.st → H' a = some o ∨ (lam = true ∧ ∃ ps, o = .tbl ps)
  dom : ∀ a, H' a = none → Nt lam H a
  mu : ∀ a, r.yes a → MutL (H a)
section
variable {K : PySem.W.Frag} {lam : Bool} {r r1 r2 : Lv} {H H1 H2 : Hp}
theorem Ext.back (a : Ext lam r r1 H H1) (mu : ∀ x, r.yes x → MutL (H1 x)) {x : Addr} (h : Nt lam H1 x) : Nt lam H x := by
  rcases h with h | ⟨l, ps, h⟩
  · exact a.dom x h
  · cases q : H x with
    | none => exact .inl q
    | some o =>
      rcases a.keep x o q (fun hm => by have z := mu x (.inl hm); rw [h] at z; exact z) with z | z
      · rw [h] at z
        exact .inr ⟨l, ps, by rw [q]; exact z.symm⟩
      · obtain ⟨_, ps', z⟩ := z
        exact .inr ⟨l, ps', by rw [q, z]⟩
theorem Ext.trans (a : Ext lam r r1 H H1) (b : Ext lam r1 r2 H1 H2) : Ext lam r r2 H H2 where
  pre := by
    have mu1 := b.mu
    have bk : ∀ {x : Addr}, Nt lam H1 x → Nt lam H x := fun {x} h => a.back (fun y hy => by
      obtain ⟨n1, rfl, _⟩ := a.pre
      exact mu1 y (hy.elim (fun z => .inl (List.mem_append_left _ z)) .inr)) h
    obtain ⟨n1, rfl, h1⟩ := a.pre
    obtain ⟨n2, rfl, h2⟩ := b.pre
    refine ⟨n1 ++ n2, by rw [List.append_assoc], fun x hx => ?_⟩
    rcases List.mem_append.mp hx with hx | hx
    · exact h1 x hx
    · exact bk (h2 x hx)
  keep := fun x o e hx => by
    rcases a.keep x o e hx with q | q
    · by_cases hm : x ∈ r1.st
      · obtain ⟨n1, rfl, h1⟩ := a.pre
        rcases List.mem_append.mp hm with hm | hm
        · exact absurd hm hx
        · exact .inr ((h1 x hm).clash e)
      · exact b.keep x o q hm
    · exact .inr q
  dom := fun x e => a.back (fun y hy => by
      obtain ⟨n1, rfl, _⟩ := a.pre
      exact b.mu y (hy.elim (fun z => .inl (List.mem_append_left _ z)) .inr)) (b.dom x e)
  mu := a.mu
theorem Ext.refl (mu : ∀ a, r.yes a → MutL (H a)) : Ext lam r r H H := ⟨⟨[], by simp, by simp⟩, fun _ _ e _ => .inl e, fun _ e => .inl e, mu⟩
theorem Nt.up {a : Addr} (h : Nt false H a) : Nt lam H a := h.elim .inl fun q => absurd q.1 (by decide)
theorem Ext.up (a : Ext false r r1 H H1) : Ext lam r r1 H H1 := ⟨by obtain ⟨n, e, h⟩ := a.pre; exact ⟨n, e, fun x hx => (h x hx).up⟩, fun x o e hx => (a.keep x o e hx).elim .inl fun q => absurd q.1 (by decide), fun x e => (a.dom x e).up, a.mu⟩
theorem Ext.new {p : Addr} {o : HO} (mu : ∀ a, r.yes a → MutL (H a)) (hp : H p = none) : Ext lam r r H (upd H p o) := by
  refine ⟨⟨[], by simp, by simp⟩, fun x u e _ => .inl ?_, fun x e => .inl ?_, mu⟩
  · rw [upd_ne (ne_of_none e hp)]; exact e
  · by_cases hx : x = p
    · rw [hx, upd_same] at e; cases e
    · rw [upd_ne hx] at e; exact e
/-- a live one more -/
theorem Ext.newL {p : Addr} {o : HO} (mu : ∀ a, r.yes a → MutL (H a)) (hp : H p = none) : Ext lam r ⟨r.st ++ [p], r.hid⟩ H (upd H p o) := by
  have q := Ext.new (lam := lam) (o := o) mu hp
  exact ⟨⟨[p], rfl, fun a ha => by have e : a = p := by simpa using ha
                                   rw [e]; exact .inl hp⟩, q.keep, q.dom, mu⟩
/-- a live one is changed -/
theorem Ext.put {p : Addr} {o : HO} (mu : ∀ a, r.yes a → MutL (H a)) (hp : p ∈ r.st) : Ext lam r r H (upd H p o) := by
  refine ⟨⟨[], by simp, by simp⟩, fun x u e hx => .inl ?_, fun x e => .inl ?_, mu⟩
  · rw [upd_ne (fun z => hx (by rw [z]; exact hp))]; exact e
  · by_cases hx : x = p
    · rw [hx, upd_same] at e; cases e
    · rw [upd_ne hx] at e; exact e
theorem Ext.sqf (e : Ext lam r r1 H H1) {a : Addr} {xs : List V} (h : SqF K r H a xs) : SqF K r1 H1 a xs := by
  rcases h with ⟨h, hn⟩ | ⟨o, h⟩ | h
  · refine .inl ⟨?_, ?_⟩
    · rcases e.keep a _ h hn.1 with q | ⟨_, ps, q⟩
      · exact q
      · cases q
    · obtain ⟨n, rfl, hf⟩ := e.pre
      refine ⟨fun hm => ?_, hn.2⟩
      rcases List.mem_append.mp hm with hm | hm
      · exact hn.1 hm
      · obtain ⟨_, ps, z⟩ := (hf a hm).clash h
        cases z
  · refine .inr (.inl ⟨o, ?_⟩)
    rcases e.keep a _ h (fun hm => by have := e.mu a (.inl hm); rw [h] at this; exact this) with q | ⟨_, ps, q⟩
    · exact q
    · cases q
  · exact .inr (.inr h)
theorem Ext.sqt (e : Ext lam r r1 H H1) {a : Addr} {xs : List V} (h : SqT K H a xs) : SqT K H1 a xs := by
  rcases h with (h | ⟨o, h⟩) | h
  · rcases e.keep a _ h (fun hm => by have := e.mu a (.inl hm); rw [h] at this; exact this) with q | ⟨_, ps, q⟩
    · exact .inl (.inl q)
    · cases q
  · rcases e.keep a _ h (fun hm => by have := e.mu a (.inl hm); rw [h] at this; exact this) with q | ⟨_, ps, q⟩
    · exact .inl (.inr ⟨o, q⟩)
    · cases q
  · exact .inr h
theorem Rp.ext {v : V} {d : PyData} (h : Rp K r H v d) (e : Ext lam r r1 H H1) : Rp K r1 H1 v d := h.map (fun _ _ q => e.sqf q) fun _ _ q => e.sqt q
theorem RpAll.ext {vs : List V} {ds : List PyData} (h : RpAll K r H vs ds) (e : Ext lam r r1 H H1) : RpAll K r1 H1 vs ds := h.map (fun _ _ q => e.sqf q) fun _ _ q => e.sqt q
end
/-- a dict's entries and what they are read as -/
inductive RpKV (K : PySem.W.Frag) (r : Lv) (H : Hp) : List (NestedKey × Addr × V) → List (NestedKey × PyData) → Prop
  | nil : RpKV K r H [] []
  | cons {k : NestedKey} {b : Addr} {v : V} {d : PyData} {ps : List (NestedKey × Addr × V)} {qs : List (NestedKey × PyData)} : (∀ ks, k = .tup ks → Rp K r H (.ref b) k.data ∧ k.depth ≤ 8) → Rp K r H v d → RpKV K r H ps qs → RpKV K r H ((k, b, v) :: ps) ((k, d) :: qs)
theorem RpKV.map {K : PySem.W.Frag} {r r' : Lv} {H H' : Hp} (hl : ∀ a xs, SqF K r H a xs → SqF K r' H' a xs) (ht : ∀ a xs, SqT K H a xs → SqT K H' a xs) {ps : List (NestedKey × Addr × V)} {qs : List (NestedKey × PyData)} (h : RpKV K r H ps qs) : RpKV K r' H' ps qs := by
  induction h with
  | nil => exact .nil
  | cons h1 h2 _ ih => exact .cons (fun ks e => ⟨(h1 ks e).1.map hl ht, (h1 ks e).2⟩) (h2.map hl ht) ih
theorem RpKV.length {K : PySem.W.Frag} {r : Lv} {H : Hp} {ps : List (NestedKey × Addr × V)} {qs : List (NestedKey × PyData)} (h : RpKV K r H ps qs) : ps.length = qs.length := by
  induction h with
  | nil => rfl
  | cons _ _ _ ih => simp [ih]
/-- at a stands a mutable object -/
def MoR (wd : World) (K : PySem.W.Frag) (r : Lv) (H : Hp) (a : Addr) : MO → Prop
  | .l xs => ∃ vs, H a = some (.lst vs) ∧ RpAll K r H vs xs
  | .k kvs => ∃ ps, H a = some (HoD wd a ps) ∧ RpKV K r H ps kvs
theorem MoR.mut {wd : World} {K : PySem.W.Frag} {r : Lv} {H : Hp} {a : Addr} {o : MO} (h : MoR wd K r H a o) : MutL (H a) := by
  cases o with
  | l xs => obtain ⟨vs, e, _⟩ := h; rw [e]; exact True.intro
  | k kvs => obtain ⟨ps, e, _⟩ := h; rw [e]; exact ⟨wd, a, ps, rfl⟩
theorem MoR.map {wd : World} {K : PySem.W.Frag} {r r' : Lv} {H H' : Hp} {a : Addr} {o : MO} (h : MoR wd K r H a o) (ho : ∀ u, H a = some u → H' a = some u) (hl : ∀ a xs, SqF K r H a xs → SqF K r' H' a xs) (ht : ∀ a xs, SqT K H a xs → SqT K H' a xs) : MoR wd K r' H' a o := by
  cases o with
  | l xs => obtain ⟨vs, e, q⟩ := h; exact ⟨vs, ho _ e, q.map hl ht⟩
  | k kvs => obtain ⟨ps, e, q⟩ := h; exact ⟨ps, ho _ e, q.map hl ht⟩
/-- the store -/
structure StoRel (wd : World) (K : PySem.W.Frag) (r : Lv) (H : Hp) (S : Sto) : Prop where
  nd : r.st.Nodup
  len : r.st.length = S.length
  ob : ∀ (n : Nat) (a : Addr) (o : MO), r.st[n]? = some a → S[n]? = some o → MoR wd K r H a o
  hid : ∀ a ∈ r.hid, MutL (H a)
  apart : ∀ a ∈ r.hid, a ∉ r.st
section
variable {wd : World} {K : PySem.W.Frag} {lam : Bool} {r r1 r2 : Lv} {H H1 H2 : Hp} {S S' : Sto}
theorem StoRel.at_ (s : StoRel wd K r H S) (n : Nat) (a : Addr) (xs : List PyData) (h1 : r.st[n]? = some a) (h2 : S[n]? = some (.l xs)) : ∃ vs, H a = some (.lst vs) ∧ RpAll K r H vs xs := s.ob n a _ h1 h2
theorem StoRel.mu (s : StoRel wd K r H S) : ∀ a, r.yes a → MutL (H a) := fun a ha => by
  rcases ha with ha | ha
  · obtain ⟨n, hn, e⟩ := List.mem_iff_getElem.mp ha
    have h2 : n < S.length := by rw [← s.len]; exact hn
    exact (s.ob n a _ (by rw [List.getElem?_eq_getElem hn, e]) (List.getElem?_eq_getElem h2)).mut
  · exact s.hid a ha
theorem StoRel.refl (s : StoRel wd K r H S) : Ext lam r r H H := Ext.refl s.mu
theorem StoRel.no (s : StoRel wd K r H S) {p : Addr} (hp : H p = none) : r.no p := by
  refine ⟨fun hm => ?_, fun hm => ?_⟩
  · have z := s.mu p (.inl hm)
    rw [hp] at z; exact z
  · have z := s.mu p (.inr hm)
    rw [hp] at z; exact z
theorem StoRel.new {p : Addr} {o : HO} (s : StoRel wd K r H S) (hp : H p = none) : StoRel wd K r (upd H p o) S := by
  have E : Ext false r r H (upd H p o) := Ext.new s.mu hp
  exact ⟨s.nd, s.len, fun n a m h1 h2 => (s.ob n a m h1 h2).map (fun u e => by rw [upd_ne (ne_of_none e hp)]; exact e) (fun _ _ q => E.sqf q) fun _ _ q => E.sqt q,
    fun a ha => by rw [upd_ne (fun (z : a = p) => (s.no hp).2 (z ▸ ha))]; exact s.hid a ha, s.apart⟩
theorem StoRel.newO {p : Addr} {o : HO} {m : MO} (s : StoRel wd K r H S) (hp : H p = none) (h : ∀ r' H', Ext false r r' H H' → H' p = some o → MoR wd K r' H' p m) : StoRel wd K ⟨r.st ++ [p], r.hid⟩ (upd H p o) (S ++ [m]) := by
  have e := Ext.newL (lam := false) (o := o) s.mu hp
  refine ⟨?_, by simp [s.len], fun n a y h1 h2 => ?_, fun a ha => ?_, fun a ha hm => ?_⟩
  · show (r.st ++ [p]).Nodup
    rw [List.nodup_append]
    refine ⟨s.nd, by simp, fun a ha b hb q => ?_⟩
    have hb' : b = p := by simpa using hb
    subst hb'; subst q
    exact (s.no hp).1 ha
  · have h1 : (r.st ++ [p])[n]? = some a := h1
    by_cases hn : n < r.st.length
    · rw [List.getElem?_append_left hn] at h1
      rw [List.getElem?_append_left (by rw [← s.len]; exact hn)] at h2
      exact (s.ob n a y h1 h2).map (fun u q => by rw [upd_ne (ne_of_none q hp)]; exact q) (fun _ _ q => e.sqf q) fun _ _ q => e.sqt q
    · have hn2 : n = r.st.length := by
        have := (List.getElem?_eq_some_iff.mp h1).1
        simp at this; omega
      subst hn2
      rw [List.getElem?_append_right (Nat.le_refl _)] at h1
      rw [s.len, List.getElem?_append_right (Nat.le_refl _)] at h2
      simp at h1 h2
      subst h1; subst h2
      exact h _ _ e upd_same
  · rw [upd_ne (fun (z : a = p) => (s.no hp).2 (z ▸ ha))]; exact s.hid a ha
  · have hm : a ∈ r.st ++ [p] := hm
    rcases List.mem_append.mp hm with hm | hm
    · exact s.apart a ha hm
    · have e : a = p := by simpa using hm
      exact (s.no hp).2 (e ▸ ha)
theorem StoRel.newL {p : Addr} {vs : List V} {xs : List PyData} (s : StoRel wd K r H S) (hp : H p = none) (h : RpAll K r H vs xs) : StoRel wd K ⟨r.st ++ [p], r.hid⟩ (upd H p (.lst vs)) (S ++ [.l xs]) :=
  s.newO hp fun r' H' E e => ⟨vs, e, h.ext E⟩
theorem StoRel.putO {n : Nat} {p : Addr} {o : HO} {m : MO} (s : StoRel wd K r H S) (hp : r.st[n]? = some p) (h : ∀ H', Ext false r r H H' → H' p = some o → MoR wd K r H' p m) : StoRel wd K r (upd H p o) (S.set n m) := by
  have hm : p ∈ r.st := List.mem_of_getElem? hp
  have e := Ext.put (lam := false) (o := o) s.mu hm
  obtain ⟨hlt, hget⟩ := List.getElem?_eq_some_iff.mp hp
  refine ⟨s.nd, by simp [s.len], fun i a y h1 h2 => ?_, fun a ha => ?_, s.apart⟩
  · by_cases hn : i = n
    · subst hn
      rw [hp] at h1; cases h1
      rw [List.getElem?_set_self (by rw [← s.len]; exact hlt)] at h2
      cases h2
      exact h _ e upd_same
    · rw [List.getElem?_set_ne (Ne.symm hn)] at h2
      refine (s.ob i a y h1 h2).map (fun u q => ?_) (fun _ _ q => e.sqf q) fun _ _ q => e.sqt q
      rw [upd_ne ?_]
      · exact q
      · rintro rfl
        obtain ⟨hlt2, hget2⟩ := List.getElem?_eq_some_iff.mp h1
        exact hn ((List.getElem_inj s.nd).mp (hget2.trans hget.symm))
  · rw [upd_ne (fun (z : a = p) => s.apart a ha (z ▸ hm))]; exact s.hid a ha
theorem StoRel.put {n : Nat} {p : Addr} {vs : List V} {xs : List PyData} (s : StoRel wd K r H S) (hp : r.st[n]? = some p) (h : RpAll K r H vs xs) : StoRel wd K r (upd H p (.lst vs)) (S.set n (.l xs)) :=
  s.putO hp fun H' E e => ⟨vs, e, h.ext E⟩
/-! a list is hidden while it is filled -/
def Lv.hide (r : Lv) (D : Addr) : Lv := ⟨r.st, D :: r.hid⟩
theorem sqf_hide {D a : Addr} {xs : List V} (hb : SqF K r H a xs) (hD : H D = none) : SqF K (r.hide D) (upd H D (.lst [])) a xs := by
  rcases hb with ⟨hb, hn⟩ | ⟨o, hb⟩ | hb
  · refine .inl ⟨by rw [upd_ne (ne_of_none hb hD)]; exact hb, hn.1, fun hm => ?_⟩
    have hm : a ∈ D :: r.hid := hm
    rcases List.mem_cons.mp hm with z | z
    · rw [z, hD] at hb; cases hb
    · exact hn.2 z
  · exact .inr (.inl ⟨o, by rw [upd_ne (ne_of_none hb hD)]; exact hb⟩)
  · exact .inr (.inr hb)
theorem StoRel.hide {D : Addr} (s : StoRel wd K r H S) (hD : H D = none) : StoRel wd K (r.hide D) (upd H D (.lst [])) S := by
  have e : Ext false r r H (upd H D (.lst [])) := Ext.new s.mu hD
  refine ⟨s.nd, s.len, fun n a m h1 h2 => (s.ob n a m h1 h2).map (fun u q => by rw [upd_ne (ne_of_none q hD)]; exact q) (fun _ _ q => sqf_hide q hD) fun _ _ q => e.sqt q, fun a ha => ?_, fun a ha => ?_⟩
  · have ha : a ∈ D :: r.hid := ha
    by_cases z : a = D
    · rw [z, upd_same]; exact True.intro
    · rw [upd_ne z]
      exact s.hid a ((List.mem_cons.mp ha).resolve_left z)
  · have ha : a ∈ D :: r.hid := ha
    rcases List.mem_cons.mp ha with z | z
    · rw [z]; exact (s.no hD).1
    · exact s.apart a z
theorem Rp.hide {D : Addr} {v : V} {d : PyData} (h : Rp K r H v d) (hD : H D = none) : Rp K (r.hide D) (upd H D (.lst [])) v d := by
  refine h.map (fun b ys hb => ?_) fun b ys hb => ?_
  · rcases hb with ⟨hb, hn⟩ | ⟨o, hb⟩ | hb
    · refine .inl ⟨by rw [upd_ne (ne_of_none hb hD)]; exact hb, hn.1, fun hm => ?_⟩
      have hm : b ∈ D :: r.hid := hm
      rcases List.mem_cons.mp hm with z | z
      · rw [z, hD] at hb; cases hb
      · exact hn.2 z
    · exact .inr (.inl ⟨o, by rw [upd_ne (ne_of_none hb hD)]; exact hb⟩)
    · exact .inr (.inr hb)
  · rcases hb with (hb | ⟨o, hb⟩) | hb
    · exact .inl (.inl (by rw [upd_ne (ne_of_none hb hD)]; exact hb))
    · exact .inl (.inr ⟨o, by rw [upd_ne (ne_of_none hb hD)]; exact hb⟩)
    · exact .inr hb
theorem RpAll.show {D : Addr} {vs : List V} {ds : List PyData} (h : RpAll K (r.hide D) H vs ds) : RpAll K r H vs ds := h.map (fun b ys hb => by
  rcases hb with ⟨hb, hn⟩ | hb
  · exact .inl ⟨hb, hn.1, fun hm => hn.2 (List.mem_cons_of_mem _ hm)⟩
  · exact .inr hb) fun b ys hb => hb
theorem sqf_show {D b : Addr} {ys : List V} (hb : SqF K (r.hide D) H b ys) : SqF K r H b ys := by
  rcases hb with ⟨hb, hn⟩ | hb
  · exact .inl ⟨hb, hn.1, fun hm => hn.2 (List.mem_cons_of_mem _ hm)⟩
  · exact .inr hb
theorem StoRel.show {D : Addr} (s : StoRel wd K (r.hide D) H S) : StoRel wd K r H S :=
  ⟨s.nd, s.len, fun n a m h1 h2 => (s.ob n a m h1 h2).map (fun _ q => q) (fun _ _ q => sqf_show q) fun _ _ q => q, fun a ha => s.hid a (List.mem_cons_of_mem _ ha), fun a ha => s.apart a (List.mem_cons_of_mem _ ha)⟩
/-- the hidden list grows -/
theorem sqf_putH {D b : Addr} {xs ys : List V} (mu : ∀ a, r.yes a → MutL (H a)) (hD : D ∈ r.hid) (hb : SqF K r H b ys) : SqF K r (upd H D (.lst xs)) b ys := by
  have hl := mu D (.inr hD)
  rcases hb with ⟨hb, hn⟩ | ⟨o, hb⟩ | hb
  · exact .inl ⟨by rw [upd_ne (fun (z : b = D) => hn.2 (z ▸ hD))]; exact hb, hn⟩
  · refine .inr (.inl ⟨o, ?_⟩)
    rw [upd_ne (fun z => by rw [← z, hb] at hl; exact hl)]; exact hb
  · exact .inr (.inr hb)
theorem sqt_putH {D b : Addr} {xs ys : List V} (mu : ∀ a, r.yes a → MutL (H a)) (hD : D ∈ r.hid) (hb : SqT K H b ys) : SqT K (upd H D (.lst xs)) b ys := by
  have hl := mu D (.inr hD)
  rcases hb with (hb | ⟨o, hb⟩) | hb
  · exact .inl (.inl (by rw [upd_ne (fun z => by rw [← z, hb] at hl; exact hl)]; exact hb))
  · exact .inl (.inr ⟨o, by rw [upd_ne (fun z => by rw [← z, hb] at hl; exact hl)]; exact hb⟩)
  · exact .inr hb
theorem Ext.putH {D : Addr} {xs : List V} (mu : ∀ a, r.yes a → MutL (H a)) (hD : D ∈ r.hid) : ∀ {vs : List V} {ds : List PyData}, RpAll K r H vs ds → RpAll K r (upd H D (.lst xs)) vs ds := fun {vs ds} h =>
  h.map (fun b ys hb => sqf_putH mu hD hb) fun b ys hb => sqt_putH mu hD hb
theorem StoRel.putH {D : Addr} {xs : List V} (s : StoRel wd K r H S) (hD : D ∈ r.hid) : StoRel wd K r (upd H D (.lst xs)) S :=
  ⟨s.nd, s.len, fun n a m h1 h2 => (s.ob n a m h1 h2).map (fun u q => by rw [upd_ne (fun (z : a = D) => s.apart D hD (z ▸ List.mem_of_getElem? h1))]; exact q) (fun _ _ q => sqf_putH s.mu hD q) fun _ _ q => sqt_putH s.mu hD q, fun a ha => by
    by_cases z : a = D
    · rw [z, upd_same]; exact True.intro
    · rw [upd_ne z]; exact s.hid a ha, s.apart⟩
/-- from ahead of the hiding to a state within -/
theorem Ext.under {D : Addr} {r' : Lv} {r0 : Lv} {H0 : Hp} (a : Ext lam r0 r H0 H) (b : Ext lam (r.hide D) r' H H1) : ∃ r1, r' = r1.hide D ∧ Ext lam r0 r1 H0 H1 := by
  have bk : ∀ {x : Addr}, Nt lam H x → Nt lam H0 x := fun {x} h => a.back (fun y hy => by
    have mu := b.mu y
    obtain ⟨n1, rfl, _⟩ := a.pre
    exact mu (hy.elim (fun z => .inl (List.mem_append_left _ z)) fun z => .inr (List.mem_cons_of_mem _ z))) h
  obtain ⟨n2, rfl, h2⟩ := b.pre
  refine ⟨⟨r.st ++ n2, r.hid⟩, rfl, ?_⟩
  obtain ⟨n1, rfl, h1⟩ := a.pre
  refine ⟨⟨n1 ++ n2, by rw [List.append_assoc], fun x hx => ?_⟩, fun x o e hx => ?_, fun x e => bk (b.dom x e), a.mu⟩
  · rcases List.mem_append.mp hx with hx | hx
    · exact h1 x hx
    · exact bk (h2 x hx)
  · rcases a.keep x o e hx with q | q
    · by_cases hm : x ∈ r0.st ++ n1
      · rcases List.mem_append.mp hm with hm | hm
        · exact absurd hm hx
        · exact .inr ((h1 x hm).clash e)
      · exact b.keep x o q hm
    · exact .inr q
theorem Ext.fresh {D : Addr} {o : HO} {r0 : Lv} {H0 : Hp} (a : Ext lam r0 r H0 H) (hD : H0 D = none) : Ext lam r0 r H0 (upd H D o) := by
  refine ⟨a.pre, fun x u e hx => ?_, fun x e => ?_, a.mu⟩
  · rw [upd_ne (ne_of_none e hD)]; exact a.keep x u e hx
  · by_cases z : x = D
    · rw [z, upd_same] at e; cases e
    · rw [upd_ne z] at e; exact a.dom x e
end

/-! ### values, slots, runs -/
structure Cf where
  T : List (Addr × Str) := []
  lam : Bool := false
def Rw (K : PySem.W.Frag) (mg : Str → Option Value) (r : Lv) (H : Hp) : V → Vl → Prop
  | v, .d x => Rp K r H v x
  | v, .m n => ∃ a, r.st[n]? = some a ∧ v = .ref a
  | v, .f x => ∃ a, mg x = some (.ref a) ∧ v = .ref a
  | v, .r lo hi => ∃ a, H a = some (.rng lo hi) ∧ v = .ref a
inductive RwAll (K : PySem.W.Frag) (mg : Str → Option Value) (r : Lv) (H : Hp) : List V → List Vl → Prop
  | nil : RwAll K mg r H [] []
  | cons {v : V} {vs : List V} {w : Vl} {ws : List Vl} : Rw K mg r H v w → RwAll K mg r H vs ws → RwAll K mg r H (v :: vs) (w :: ws)
def EvR (K : PySem.W.Frag) (mg : Str → Option Value) (r : Lv) (σ : L2.St) (H : Hp) (ev : Ev) : Prop :=
  ∀ (i : Nat) (w : Vl), ev[i]? = some (some w) → ∃ v, σ[i]? = some (some v) ∧ Rw K mg r H v w
section
variable {K : PySem.W.Frag} {mg : Str → Option Value} {lam : Bool} {r r1 r2 : Lv} {H H1 H2 : Hp} {S S' : Sto} {σ : L2.St} {ev : Ev}
theorem Rw.ext {v : V} : ∀ {w : Vl}, Rw K mg r H v w → Ext lam r r1 H H1 → Rw K mg r1 H1 v w
  | .d x, h, e => Rp.ext (show Rp K r H v x from h) e
  | .m n, ⟨a, h, q⟩, e => by
    obtain ⟨l, rfl, _⟩ := e.pre
    exact ⟨a, by rw [List.getElem?_append_left (List.getElem?_eq_some_iff.mp h).1]; exact h, q⟩
  | .f x, h, _ => h
  | .r lo hi, ⟨a, h, q⟩, e => by
    refine ⟨a, ?_, q⟩
    rcases e.keep a _ h (fun hm => by have := e.mu a (.inl hm); rw [h] at this; exact this) with z | ⟨_, ps, z⟩
    · exact z
    · cases z
theorem RwAll.ext : ∀ {vs : List V} {ws : List Vl}, RwAll K mg r H vs ws → Ext lam r r1 H H1 → RwAll K mg r1 H1 vs ws
  | _, _, .nil, _ => .nil
  | _, _, .cons h t, e => .cons (h.ext e) (RwAll.ext t e)
theorem RwAll.length : ∀ {vs : List V} {ws : List Vl}, RwAll K mg r H vs ws → vs.length = ws.length
  | _, _, .nil => rfl
  | _, _, .cons _ t => by simp [RwAll.length t]
theorem EvR.ext (h : EvR K mg r σ H ev) (e : Ext lam r r1 H H1) : EvR K mg r1 σ H1 ev := fun i w q => by
  obtain ⟨v, h1, h2⟩ := h i w q
  exact ⟨v, h1, h2.ext e⟩
theorem EvR.set {i : Nat} {v : V} {w : Vl} (h : EvR K mg r σ H ev) (hw : Rw K mg r H v w) (hl : i < σ.length) : EvR K mg r (σ.set i (some v)) H (ev.set i (some w)) := fun j u q => by
  by_cases hj : i = j
  · subst hj
    have hi : i < ev.length := by
      have := (List.getElem?_eq_some_iff.mp q).1
      simpa using this
    rw [List.getElem?_set_self hi] at q
    cases q
    exact ⟨v, by rw [List.getElem?_set_self hl], hw⟩
  · rw [List.getElem?_set_ne hj] at q
    obtain ⟨v', h1, h2⟩ := h j u q
    exact ⟨v', by rw [List.getElem?_set_ne hj]; exact h1, h2⟩
theorem tabs_ext {T : List (Addr × Str)} (e : Ext false r r1 H H1) (t : Tabs T H) : Tabs T H1 := by
  have kp : ∀ a o, H a = some o → ¬ MutL (some o) → H1 a = some o := fun a o h n => by
    rcases e.keep a o h (fun hm => n (by rw [← h]; exact e.mu a (.inl hm))) with q | q
    · exact q
    · exact absurd q.1 (by decide)
  intro p hp
  obtain ⟨ps, h1, h2, h3⟩ := t p hp
  refine ⟨ps, kp _ _ h1 (fun z => z), h2, fun pos cv hc => ?_⟩
  obtain ⟨c, e1, e2⟩ := h3 pos cv hc
  refine ⟨c, e1, kp _ _ e2 fun z => ?_⟩
  obtain ⟨wd, a, kvs, z⟩ := (show ∃ wd a kvs, _ = DForm wd a kvs from z)
  exact codeO_hoD (c := c) (q := _) (by unfold LamX.CodeO; exact congrArg HO.ext z)
end
end DD
/-! part DB -/
set_option Elab.async false
set_option linter.all false
set_option maxRecDepth 100000
set_option maxHeartbeats 4000000
namespace DD
open PySem PySem.Spec PyProof.Rows L2 LamX

section
variable {α β γ δ : Type}
/-- a run from (r, H, S): what it wants -/
def tRun (X : Cx) (c : Cf) (W : WX) (R : Lv → Hp → β → α → Prop) (r : Lv) (σ : L2.St) (H : Hp) (S : Sto) (m : M α) (Q : β → Hp → Prop) : Prop :=
  ∃ o S', m S = some (o, S') ∧ match o with
    | .ok a => ∀ r' b H', Ext c.lam r r' H H' → StoRel X.w X.K r' H' S' → Tabs c.T H' → R r' H' b a → Q b H'
    | .error x => ∃ C, X.mg x = some (.ref C) ∧ ∀ r' H', Ext c.lam r r' H H' → StoRel X.w X.K r' H' S' → Tabs c.T H' → W (.ref C) none σ H'
structure Rel (X : Cx) (c : Cf) (r : Lv) (σ : L2.St) (H : Hp) (ev : Ev) (S : Sto) : Prop where
  sto : StoRel X.w X.K r H S
  tabs : Tabs c.T H
  ev : EvR X.K X.mg r σ H ev
  len : σ.length = X.N.length
def tX (X : Cx) (c : Cf) (W : WX) (R : Lv → Hp → β → α → Prop) (f : Ev → M α) : L2.St → Hp → (β → Hp → Prop) → Prop := fun σ H Q =>
  ∃ r ev S, Rel X c r σ H ev S ∧ tRun X c W R r σ H S (f ev) Q
variable {X : Cx} {c : Cf} {W : WX} {r r1 r2 : Lv} {σ : L2.St} {H H1 H2 : Hp} {S S1 S2 : Sto} {ev : Ev}
theorem Rel.ext (x : Rel X c r σ H ev S) (e : Ext c.lam r r1 H H1) (s : StoRel X.w X.K r1 H1 S1) (t : Tabs c.T H1) : Rel X c r1 σ H1 ev S1 := ⟨s, t, x.ev.ext e, x.len⟩
theorem tRun.mono {R : Lv → Hp → β → α → Prop} {m : M α} {Q Q' : β → Hp → Prop} (h : tRun X c W R r σ H S m Q) (k : ∀ b H', Q b H' → Q' b H') : tRun X c W R r σ H S m Q' := by
  obtain ⟨o, S', e, h⟩ := h
  refine ⟨o, S', e, ?_⟩
  cases o with
  | ok a => exact fun r' b H' h1 h2 h3 h4 => k _ _ (h r' b H' h1 h2 h3 h4)
  | error x => exact h
theorem tRun.bind {R : Lv → Hp → β → α → Prop} {R1 : Lv → Hp → δ → γ → Prop} {m : M γ} {g : γ → M α} {Q : β → Hp → Prop} (h : tRun X c W R r σ H S (m >>= g) Q) :
    tRun X c W R1 r σ H S m (fun b H1 => ∃ r1 S1 a, Ext c.lam r r1 H H1 ∧ StoRel X.w X.K r1 H1 S1 ∧ Tabs c.T H1 ∧ R1 r1 H1 b a ∧ tRun X c W R r1 σ H1 S1 (g a) Q) := by
  obtain ⟨o, S', e, h⟩ := h
  rw [M.bind_run] at e
  cases q : m S with
  | none => rw [q] at e; cases e
  | some p =>
    obtain ⟨o1, S1⟩ := p
    rw [q] at e
    cases o1 with
    | error x =>
      have e' : (Except.error x, S1) = (o, S') := Option.some.inj e
      cases e'
      exact ⟨.error x, _, q, h⟩
    | ok a =>
      refine ⟨.ok a, S1, q, fun r1 b H1 e1 s1 t1 q1 => ⟨r1, S1, a, e1, s1, t1, q1, o, S', e, ?_⟩⟩
      cases o with
      | ok a' => exact fun r' b' H' e2 s2 t2 q2 => h r' b' H' (e1.trans e2) s2 t2 q2
      | error x =>
        obtain ⟨C, hC, h⟩ := h
        exact ⟨C, hC, fun r' H' e2 s2 t2 => h r' H' (e1.trans e2) s2 t2⟩
theorem tX.of {R : Lv → Hp → β → α → Prop} {f : Ev → M α} {Q Q' : β → Hp → Prop} (x : Rel X c r σ H ev S) (h : tRun X c W R r σ H S (f ev) Q) (k : ∀ b H', Q b H' → Q' b H') : tX X c W R f σ H Q' := ⟨r, ev, S, x, h.mono k⟩
/-- nothing is laid: the answer is there -/
theorem tRun.pure {R : Lv → Hp → β → α → Prop} {m : M α} {a : α} {b : β} {Q : β → Hp → Prop} (h : tRun X c W R r σ H S m Q) (e : m S = some (.ok a, S)) (s : StoRel X.w X.K r H S) (t : Tabs c.T H) (q : R r H b a) : Q b H := by
  obtain ⟨o, S', e', h⟩ := h
  rw [e] at e'
  cases e'
  exact h r b H s.refl s t q
/-- a new object -/
theorem tRun.new {R : Lv → Hp → β → α → Prop} {m : M α} {a : α} {b : β} {p : Addr} {o : HO} {Q : β → Hp → Prop} (h : tRun X c W R r σ H S m Q) (e : m S = some (.ok a, S)) (s : StoRel X.w X.K r H S) (t : Tabs c.T H) (hp : H p = none) (q : R r (upd H p o) b a) : Q b (upd H p o) := by
  obtain ⟨o', S', e', h⟩ := h
  rw [e] at e'
  cases e'
  have x : Ext false r r H (upd H p o) := Ext.new s.mu hp
  exact h r b _ x.up (s.new hp) (tabs_ext x t) q
end

/-! ### the judgements -/
abbrev tE (X : Cx) (c : Cf) (W : WX) (f : Ev → M Vl) : TE := tX X c W (Rw X.K X.mg) f
def Rb : Lv → Hp → Bool → Bool → Prop := fun _ _ b a => b = a
abbrev tT (X : Cx) (c : Cf) (W : WX) (f : Ev → M Bool) : TT := tX X c W Rb f
abbrev tAs (X : Cx) (c : Cf) (W : WX) (f : Ev → M (List Vl)) : TA := tX X c W (RwAll X.K X.mg) f
def QE (X : Cx) (c : Cf) (W : WX) (e : Expr) (f : Ev → M Vl) : Prop := PE X e (tE X c W f)
def QT (X : Cx) (c : Cf) (W : WX) (e : Expr) (f : Ev → M Bool) : Prop := PT X e (tT X c W f)
def QW (X : Cx) (c : Cf) (W : WX) (e : Expr) (f : Ev → M Bool) : Prop := PW X e (tT X c W f)
def QA (X : Cx) (c : Cf) (W : WX) (es : List Expr) (f : Ev → M (List Vl)) : Prop := PA X es (tAs X c W f)
theorem pe_weak {X : Cx} {e : Expr} {t t' : TE} (h : PE X e t) (k : ∀ σ H Q, t' σ H Q → t σ H Q) : PE X e t' := ⟨fun pins s σ H Q I q => h.run pins s σ H Q I (k _ _ _ q)⟩
theorem pt_weak {X : Cx} {e : Expr} {t t' : TT} (h : PT X e t) (k : ∀ σ H Q, t' σ H Q → t σ H Q) : PT X e t' := ⟨fun pins s σ H Q I q => h.run pins s σ H Q I (k _ _ _ q)⟩
theorem pw_weak {X : Cx} {e : Expr} {t t' : TT} (h : PW X e t) (k : ∀ σ H Q, t' σ H Q → t σ H Q) : PW X e t' := ⟨fun wh pins s σ H Q I q => h.run wh pins s σ H Q I (k _ _ _ q)⟩
theorem pa_weak {X : Cx} {e : List Expr} {t t' : TA} (h : PA X e t) (k : ∀ σ H Q, t' σ H Q → t σ H Q) : PA X e t' := ⟨fun pos pins s σ H Q I q => h.run pos pins s σ H Q I (k _ _ _ q)⟩

/-! ### names, constants, tests -/
def fVar (i : Nat) : Ev → M Vl := fun ev => match ev[i]? with
  | some (some w) => pure w
  | _ => M.fail
def fC (x : PyData) : Ev → M Vl := fun _ => pure (.d x)
def fB (f : Ev → M Vl) : Ev → M Bool := fun ev => do
  match ← f ev with
  | .d (.bool b) => pure b
  | _ => M.fail
def fV (f : Ev → M Bool) : Ev → M Vl := fun ev => do
  let b ← f ev
  pure (.d (.bool b))
def fNot (f : Ev → M Bool) : Ev → M Bool := fun ev => do
  let b ← f ev
  pure (!b)
def fAnd (f g : Ev → M Bool) : Ev → M Bool := fun ev => do
  if ← f ev then g ev else pure false
def fOr (f g : Ev → M Bool) : Ev → M Bool := fun ev => do
  if ← f ev then pure true else g ev
def fIte (t : Ev → M Bool) (f g : Ev → M Vl) : Ev → M Vl := fun ev => do
  if ← t ev then f ev else g ev
section
variable {X : Cx} {c : Cf} {W : WX} {e a b : Expr} {f g : Ev → M Vl} {t u : Ev → M Bool} {pos : Pos} {rest : List Expr}
theorem fail_run {α β : Type} {c : Cf} {R : Lv → Hp → β → α → Prop} {r : Lv} {σ : L2.St} {H : Hp} {S : Sto} {Q : β → Hp → Prop} (h : tRun X c W R r σ H S M.fail Q) : False := by
  obtain ⟨_, _, e, _⟩ := h
  cases e
theorem qe_var (i : Nat) {x : Str} (hN : X.N[i]? = some x := by rfl) (hv : Vis X.env.scope x := by first | exact Or.inl rfl | exact Or.inr (Or.inl rfl) | exact Or.inr (Or.inr rfl)) (hd : (x == ("__debug__" : Str)) = false := by decide)
    (hcd : (x == ("__classdict__" : Str)) = false := by decide) : QE X c W (.Name x pos) (fVar i) := by
  refine pe_weak (pe_var hN hv hd hcd) fun σ H Q h => ?_
  obtain ⟨r, ev, S, x, h⟩ := h
  unfold fVar at h
  split at h
  · rename_i w q
    obtain ⟨v, h1, h2⟩ := x.ev i w q
    exact ⟨v, h1, h.pure rfl x.sto x.tabs h2⟩
  · exact (fail_run h).elim
theorem qe_const {v : V} {d : PyData} (h : PE X e (tC v)) (k : ∀ r H, Rp X.K r H v d) : QE X c W e (fC d) := by
  refine pe_weak h fun σ H Q h => ?_
  obtain ⟨r, ev, S, x, h⟩ := h
  exact h.pure rfl x.sto x.tabs (k r H)
theorem qe_int {i j} : QE X c W (.Constant (.int i) j pos) (fC (.int i)) := qe_const pe_int fun _ _ => .int i
theorem qe_bl {i j} : QE X c W (.Constant (.bool i) j pos) (fC (.bool i)) := qe_const pe_bl fun _ _ => .bl i
theorem qe_str {i j} : QE X c W (.Constant (.str i) j pos) (fC (.str i)) := qe_const pe_str fun _ _ => .str i
theorem qe_non {j} : QE X c W (.Constant .none j pos) (fC .none) := qe_const pe_non fun _ _ => .non
theorem qt_val (h : QE X c W e f) (he : ∀ whole, isTrue e X.env whole = (do let v ← whole; standAt e.pos; holding [v] (truthy v)) := by intro _; rfl) : QT X c W e (fB f) := by
  refine pt_weak (pt_val h he) fun σ H Q h => ?_
  obtain ⟨r, ev, S, x, h⟩ := h
  refine tX.of x h.bind fun b H1 ⟨r1, S1, w, e1, s1, t1, q1, h1⟩ => ?_
  try dsimp only at h1
  split at h1
  · rename_i b'
    cases q1
    exact ⟨b', rfl, h1.pure rfl s1 t1 rfl⟩
  · exact (fail_run h1).elim
theorem qt_not (h : QT X c W e t) : QT X c W (.UnaryOp .Not e pos) (fNot t) := by
  refine pt_weak (pt_not h) fun σ H Q h => ?_
  obtain ⟨r, ev, S, x, h⟩ := h
  refine tX.of x h.bind fun b H1 ⟨r1, S1, w, e1, s1, t1, q1, h1⟩ => ?_
  cases q1
  exact h1.pure rfl s1 t1 rfl
theorem QW.qt (h : QW X c W e t) : QT X c W e t := PW.pt h
theorem qw_and1 (h : QT X c W a t) : QW X c W (.BoolOp .And [a] pos) t := pw_and1 h
theorem qw_or1 (h : QT X c W a t) : QW X c W (.BoolOp .Or [a] pos) t := pw_or1 h
theorem qw_and (h : QT X c W a t) (k : QW X c W (.BoolOp .And (b :: rest) pos) u) : QW X c W (.BoolOp .And (a :: b :: rest) pos) (fAnd t u) := by
  refine pw_weak (pw_and h k) fun σ H Q h => ?_
  obtain ⟨r, ev, S, x, h⟩ := h
  refine tX.of x h.bind fun b H1 ⟨r1, S1, w, e1, s1, t1, q1, h1⟩ => ?_
  cases q1
  cases b with
  | true => exact ⟨r1, ev, S1, x.ext e1 s1 t1, h1⟩
  | false => exact h1.pure rfl s1 t1 rfl
theorem qw_or (h : QT X c W a t) (k : QW X c W (.BoolOp .Or (b :: rest) pos) u) : QW X c W (.BoolOp .Or (a :: b :: rest) pos) (fOr t u) := by
  refine pw_weak (pw_or h k) fun σ H Q h => ?_
  obtain ⟨r, ev, S, x, h⟩ := h
  refine tX.of x h.bind fun b H1 ⟨r1, S1, w, e1, s1, t1, q1, h1⟩ => ?_
  cases q1
  cases b with
  | false => exact ⟨r1, ev, S1, x.ext e1 s1 t1, h1⟩
  | true => exact h1.pure rfl s1 t1 rfl
theorem qe_ite {cc : Expr} (h : QT X c W cc t) (ha : QE X c W a f) (hb : QE X c W b g) : QE X c W (.IfExp cc a b pos) (fIte t f g) := by
  refine pe_weak (pe_ifExp h ha hb) fun σ H Q h => ?_
  obtain ⟨r, ev, S, x, h⟩ := h
  refine tX.of x h.bind fun b H1 ⟨r1, S1, w, e1, s1, t1, q1, h1⟩ => ?_
  cases q1
  cases b with
  | true => exact ⟨r1, ev, S1, x.ext e1 s1 t1, h1⟩
  | false => exact ⟨r1, ev, S1, x.ext e1 s1 t1, h1⟩
/-- and, or, not as values: bools -/
def fAndV (f g : Ev → M Vl) : Ev → M Vl := fun ev => do
  match ← f ev with
  | .d (.bool true) => g ev
  | .d (.bool false) => pure (.d (.bool false))
  | _ => M.fail
def fOrV (f g : Ev → M Vl) : Ev → M Vl := fun ev => do
  match ← f ev with
  | .d (.bool false) => g ev
  | .d (.bool true) => pure (.d (.bool true))
  | _ => M.fail
def fNotV (f : Ev → M Vl) : Ev → M Vl := fun ev => do
  match ← f ev with
  | .d (.bool b) => pure (.d (.bool !b))
  | _ => M.fail
theorem qe_one {op} (h : QE X c W a f) : QE X c W (.BoolOp op [a] pos) f := pe_one h
theorem qe_and (h : QE X c W a f) (k : QE X c W (.BoolOp .And (b :: rest) pos) g) : QE X c W (.BoolOp .And (a :: b :: rest) pos) (fAndV f g) := by
  refine pe_weak (pe_and h k) fun σ H Q h => ?_
  obtain ⟨r, ev, S, x, h⟩ := h
  refine tX.of x h.bind fun b H1 ⟨r1, S1, w, e1, s1, t1, q1, h1⟩ => ?_
  try dsimp only at h1
  split at h1
  · cases q1
    exact ⟨true, rfl, ⟨r1, ev, S1, x.ext e1 s1 t1, h1⟩⟩
  · cases q1
    exact ⟨false, rfl, h1.pure rfl s1 t1 (.bl false)⟩
  · exact (fail_run h1).elim
theorem qe_or (h : QE X c W a f) (k : QE X c W (.BoolOp .Or (b :: rest) pos) g) : QE X c W (.BoolOp .Or (a :: b :: rest) pos) (fOrV f g) := by
  refine pe_weak (pe_or h k) fun σ H Q h => ?_
  obtain ⟨r, ev, S, x, h⟩ := h
  refine tX.of x h.bind fun b H1 ⟨r1, S1, w, e1, s1, t1, q1, h1⟩ => ?_
  try dsimp only at h1
  split at h1
  · cases q1
    exact ⟨false, rfl, ⟨r1, ev, S1, x.ext e1 s1 t1, h1⟩⟩
  · cases q1
    exact ⟨true, rfl, h1.pure rfl s1 t1 (.bl true)⟩
  · exact (fail_run h1).elim
theorem qe_not (h : QE X c W a f) : QE X c W (.UnaryOp .Not a pos) (fNotV f) := by
  refine pe_weak (pe_not h) fun σ H Q h => ?_
  obtain ⟨r, ev, S, x, h⟩ := h
  refine tX.of x h.bind fun b H1 ⟨r1, S1, w, e1, s1, t1, q1, h1⟩ => ?_
  try dsimp only at h1
  split at h1
  · cases q1
    exact ⟨_, rfl, h1.pure rfl s1 t1 (.bl _)⟩
  · exact (fail_run h1).elim
end
end DD
/-! part DC -/
set_option Elab.async false
set_option linter.all false
set_option maxRecDepth 100000
set_option maxHeartbeats 4000000
namespace DD
open PySem PySem.Spec PyProof.Rows L2 LamX

/-! ### a value read as data: a mutable list as it stands -/
def rd : Vl → M PyData
  | .d a => pure a
  | .m n => fun S => match S[n]? with
    | some (.l xs) => some (.ok (.list xs), S)
    | _ => none
  | .f _ => M.fail
  | .r _ _ => M.fail
def Rq (K : PySem.W.Frag) (r : Lv) (H : Hp) (v : V) (d : PyData) : Prop :=
  Rp K r H v d ∨ ∃ a vs ds, v = .ref a ∧ d = .list ds ∧ H a = some (.lst vs) ∧ RpAll K r H vs ds
def RdL (H : Hp) (a : Addr) (vs : List V) : Prop := Rd H a (.lst vs)
section
variable {α β : Type} {X : Cx} {c : Cf} {W : WX} {K : PySem.W.Frag} {r r1 : Lv} {σ : L2.St} {H H1 : Hp} {S : Sto} {v : V} {d : PyData}
theorem Rq.dp (h : Rq K r H v d) : Dp K H v d := by
  rcases h with h | ⟨a, vs, ds, rfl, rfl, h, t⟩
  · exact h.dp
  · exact .lst (.inl (.inl h)) t.dp
theorem Rq.list {ds : List PyData} (h : Rq K r H v (.list ds)) : ∃ a vs, v = .ref a ∧ SqL K H a vs ∧ RpAll K r H vs ds := by
  rcases h with h | ⟨a, vs, ds', rfl, e, h, t⟩
  · cases h with
    | lst h t => exact ⟨_, _, rfl, h.sq, t⟩
  · cases e
    exact ⟨a, vs, rfl, .inl (.inl h), t⟩
theorem Rq.tup {ds : List PyData} (h : Rq K r H v (.tuple ds)) : ∃ a vs, v = .ref a ∧ SqT K H a vs ∧ RpAll K r H vs ds := by
  rcases h with h | ⟨a, vs, ds', rfl, e, h, t⟩
  · cases h with
    | tup h t => exact ⟨_, _, rfl, h, t⟩
  · cases e
theorem Rq.int {i : Int} (h : Rq K r H v (.int i)) : v = .int i := by
  rcases h with h | ⟨a, vs, ds', rfl, e, h, t⟩
  · cases h; rfl
  · cases e
theorem Rq.bool {i : Bool} (h : Rq K r H v (.bool i)) : v = .bl i := by
  rcases h with h | ⟨a, vs, ds', rfl, e, h, t⟩
  · cases h; rfl
  · cases e
theorem Rq.str {i : Str} (h : Rq K r H v (.str i)) : v = .str i := by
  rcases h with h | ⟨a, vs, ds', rfl, e, h, t⟩
  · cases h; rfl
  · cases e
theorem Rq.none (h : Rq K r H v .none) : v = .non := by
  rcases h with h | ⟨a, vs, ds', rfl, e, h, t⟩
  · cases h; rfl
  · cases e
theorem rd_run {R : Lv → Hp → β → α → Prop} {g : PyData → M α} {w : Vl} {Q : β → Hp → Prop} (h : tRun X c W R r σ H S (rd w >>= g) Q) (s : StoRel X.w X.K r H S) (q : Rw X.K X.mg r H v w) :
    ∃ d, Rq X.K r H v d ∧ tRun X c W R r σ H S (g d) Q := by
  cases w with
  | d x => exact ⟨x, .inl q, h⟩
  | f x =>
    obtain ⟨_, _, e, _⟩ := h
    cases e
  | r lo hi =>
    obtain ⟨_, _, e, _⟩ := h
    cases e
  | m n =>
    obtain ⟨a, h1, rfl⟩ := q
    obtain ⟨o, S', e, h⟩ := h
    rw [M.bind_run] at e
    have e2 : rd (.m n) S = match S[n]? with
      | some (.l xs) => some (.ok (.list xs), S)
      | _ => none := rfl
    cases q : S[n]? with
    | none => rw [e2, q] at e; cases e
    | some u =>
      cases u with
      | l xs =>
        rw [e2, q] at e
        obtain ⟨vs, h2, h3⟩ := s.at_ n a xs h1 q
        exact ⟨.list xs, .inr ⟨a, vs, xs, rfl, rfl, h2, h3⟩, o, S', e, h⟩
      | k kvs => rw [e2, q] at e; cases e
theorem lift_run {R : Lv → Hp → β → α → Prop} {γ : Type} {g : γ → M α} {o : Option γ} {Q : β → Hp → Prop} (h : tRun X c W R r σ H S (M.lift o >>= g) Q) : ∃ x, o = some x ∧ tRun X c W R r σ H S (g x) Q := by
  cases o with
  | none =>
    obtain ⟨_, _, e, _⟩ := h
    cases e
  | some x => exact ⟨x, rfl, h⟩
/-- what an answer's data ask: any place and heap that bear them -/
def Acc (X : Cx) (r : Lv) (H : Hp) (S : Sto) (d : PyData) (Q : VK) : Prop := ∀ v H', Ext false r r H H' → StoRel X.w X.K r H' S → Rp X.K r H' v d → Q v H'
theorem Acc.here {Q : VK} (a : Acc X r H S d Q) (s : StoRel X.w X.K r H S) (q : Rp X.K r H v d) : Q v H := a v H s.refl s q
theorem Acc.new {Q : VK} {p : Addr} {o : HO} (a : Acc X r H S d Q) (s : StoRel X.w X.K r H S) (hp : H p = none) (q : Rp X.K r (upd H p o) v d) : Q v (upd H p o) := a v _ (Ext.new s.mu hp) (s.new hp) q
theorem acc_of {Q : VK} (h : tRun X c W (Rw X.K X.mg) r σ H S (pure (.d d)) Q) (t : Tabs c.T H) : Acc X r H S d Q := fun v H' e s q => by
  obtain ⟨o, S', e', h⟩ := h
  cases e'
  exact h r v H' e.up s (tabs_ext e t) q
end

/-! ### operations -/
def fOp (op : PyData → PyData → Option PyData) (f g : Ev → M Vl) : Ev → M Vl := fun ev => do
  let x ← f ev
  let y ← g ev
  let a ← rd x
  let b ← rd y
  let z ← M.lift (op a b)
  pure (.d z)
def fUn (op : PyData → Option PyData) (f : Ev → M Vl) : Ev → M Vl := fun ev => do
  let x ← f ev
  let a ← rd x
  let z ← M.lift (op a)
  pure (.d z)
def OpD (X : Cx) (R : R2) (op : PyData → PyData → Option PyData) : Prop := ∀ r H S x y a b z Q, StoRel X.w X.K r H S → Rq X.K r H x a → Rq X.K r H y b → op a b = some z → Acc X r H S z Q → R x y H Q
def UnD (X : Cx) (R : V → Hp → VK → Prop) (op : PyData → Option PyData) : Prop := ∀ r H S x a z Q, StoRel X.w X.K r H S → Rq X.K r H x a → op a = some z → Acc X r H S z Q → R x H Q
/-- an operation on values that is read as op -/
def OpQ (X : Cx) (f : Value → Value → Sem Value) (op : PyData → PyData → Option PyData) : Prop := ∃ R, OpR X f R ∧ OpD X R op
def IxQ (X : Cx) (op : PyData → PyData → Option PyData) : Prop := ∃ R, IxR X R ∧ OpD X R op
def UnQ (X : Cx) (f : Value → Sem Value) (op : PyData → Option PyData) : Prop := ∃ R, UnR X f R ∧ UnD X R op
section
variable {X : Cx} {c : Cf} {W : WX} {e a b : Expr} {f g h : Ev → M Vl} {pos : Pos}
theorem op_weak {R : R2} {op : PyData → PyData → Option PyData} (hd : OpD X R op) {σ : L2.St} {H : Hp} {Q : VK} (h : tE X c W (fOp op f g) σ H Q) : tOp R (tE X c W f) (tE X c W g) σ H Q := by
  obtain ⟨r, ev, S, x, h⟩ := h
  refine tX.of x h.bind fun v H1 ⟨r1, S1, w, e1, s1, t1, q1, h1⟩ => ?_
  have x1 := x.ext e1 s1 t1
  refine tX.of x1 h1.bind fun u H2 ⟨r2, S2, y, e2, s2, t2, q2, h2⟩ => ?_
  obtain ⟨a, qa, h3⟩ := rd_run h2 s2 (q1.ext e2)
  obtain ⟨b, qb, h4⟩ := rd_run h3 s2 q2
  obtain ⟨z, ez, h5⟩ := lift_run h4
  exact hd r2 H2 S2 v u a b z Q s2 qa qb ez (acc_of h5 t2)
theorem qe_op {o : Operator} {op : PyData → PyData → Option PyData} (hq : OpQ X (binaryOp o) op) (ha : QE X c W a f) (hb : QE X c W b g) : QE X c W (.BinOp a o b pos) (fOp op f g) := by
  obtain ⟨R, h1, h2⟩ := hq
  exact pe_weak (pe_op h1 ha hb) fun σ H Q h => op_weak h2 h
theorem qe_cmp {o : CmpOp} {op : PyData → PyData → Option PyData} (hq : OpQ X (compareOp o) op) (ha : QE X c W a f) (hb : QE X c W b g) (hm : behindInMarks o b = false := by first | exact nomark _ (by decide) (by decide) | with_unfolding_all rfl) : QE X c W (.Compare a [o] [b] pos) (fOp op f g) := by
  obtain ⟨R, h1, h2⟩ := hq
  exact pe_weak (pe_cmpR h1 ha hb hm) fun σ H Q h => op_weak h2 h
theorem fB_of {F : Ev → M Vl} {σ : L2.St} {H : Hp} {Q : Bool → Hp → Prop} (h : tT X c W (fB F) σ H Q) : tE X c W F σ H (fun x H1 => ∃ k, x = .bl k ∧ Q k H1) := by
  obtain ⟨r, ev, S, x, h⟩ := h
  refine tX.of x h.bind fun v H1 ⟨r1, S1, w, e1, s1, t1, q1, h1⟩ => ?_
  try dsimp only at h1
  split at h1
  · cases q1
    exact ⟨_, rfl, h1.pure rfl s1 t1 rfl⟩
  · exact (fail_run h1).elim
theorem qt_cmp {o : CmpOp} {op : PyData → PyData → Option PyData} (hq : OpQ X (compareOp o) op) (ha : QE X c W a f) (hb : QE X c W b g) (hm : behindInMarks o b = false := by first | exact nomark _ (by decide) (by decide) | with_unfolding_all rfl) : QT X c W (.Compare a [o] [b] pos) (fB (fOp op f g)) := by
  obtain ⟨R, h1, h2⟩ := hq
  exact pt_weak (pt_cmpR h1 ha hb hm) fun σ H Q h => op_weak h2 (fB_of h)
theorem qe_ix {op : PyData → PyData → Option PyData} (hq : IxQ X op) (ha : QE X c W a f) (hb : QE X c W b g) (hs : PlainIx b := by exact fun _ _ => rfl) : QE X c W (.Subscript a b pos) (fOp op f g) := by
  obtain ⟨R, h1, h2⟩ := hq
  exact pe_weak (pe_ix h1 ha hb hs) fun σ H Q h => op_weak h2 h
theorem qe_un {o : UnaryOp} {op : PyData → Option PyData} (hq : UnQ X (unaryOp o) op) (ha : QE X c W a f) : QE X c W (.UnaryOp o a pos) (fUn op f) := by
  obtain ⟨R, h1, h2⟩ := hq
  refine pe_weak (pe_un h1 ha) fun σ H Q h => ?_
  obtain ⟨r, ev, S, x, h⟩ := h
  refine tX.of x h.bind fun v H1 ⟨r1, S1, w, e1, s1, t1, q1, h3⟩ => ?_
  obtain ⟨a, qa, h3⟩ := rd_run h3 s1 q1
  obtain ⟨z, ez, h5⟩ := lift_run h3
  exact h2 r1 H1 S1 v a z Q s1 qa ez (acc_of h5 t1)
/-- a o1 b o2 c -/
def fChain (op op' : PyData → PyData → Option PyData) (f g h : Ev → M Vl) : Ev → M Vl := fun ev => do
  let x ← f ev
  let y ← g ev
  let a ← rd x
  let b ← rd y
  let t ← M.lift (op a b)
  match t with
  | .bool false => pure (.d (.bool false))
  | .bool true =>
    let z ← h ev
    let b ← rd y
    let c ← rd z
    let u ← M.lift (op' b c)
    pure (.d u)
  | _ => M.fail
/-- a comparison lays nothing -/
def OpB (X : Cx) (R : R2) (op : PyData → PyData → Option PyData) : Prop := ∀ r H S x y a b z Q, StoRel X.w X.K r H S → Rq X.K r H x a → Rq X.K r H y b → op a b = some z → (∀ k, z = .bool k → Q (.bl k) H) → R x y H Q
def CmQ (X : Cx) (f : Value → Value → Sem Value) (op : PyData → PyData → Option PyData) : Prop := ∃ R, OpR X f R ∧ OpB X R op ∧ ∀ a b z, op a b = some z → ∃ k, z = .bool k
theorem CmQ.op {F : Value → Value → Sem Value} {op : PyData → PyData → Option PyData} (h : CmQ X F op) : OpQ X F op := by
  obtain ⟨R, h1, h2, h3⟩ := h
  refine ⟨R, h1, fun r H S x y a b z Q s qa qb e A => h2 r H S x y a b z Q s qa qb e fun k hk => ?_⟩
  subst hk
  exact A.here s (.bl k)
theorem chain_weak {R R' : R2} {op op' : PyData → PyData → Option PyData} (hb1 : OpB X R op) (hd : OpB X R' op') (hz : ∀ a b z, op' a b = some z → ∃ k, z = .bool k) {σ : L2.St} {H : Hp} {Q : VK} (hh : tE X c W (fChain op op' f g h) σ H Q) : tChain R R' (tE X c W f) (tE X c W g) (tE X c W h) σ H Q := by
  obtain ⟨r, ev, S, x, hh⟩ := hh
  refine tX.of x hh.bind fun v H1 ⟨r1, S1, w, e1, s1, t1, q1, h1⟩ => ?_
  have x1 := x.ext e1 s1 t1
  refine tX.of x1 h1.bind fun u H2 ⟨r2, S2, y, e2, s2, t2, q2, h2⟩ => ?_
  have x2 := x1.ext e2 s2 t2
  obtain ⟨a, qa, h3⟩ := rd_run h2 s2 (q1.ext e2)
  obtain ⟨b, qb, h4⟩ := rd_run h3 s2 q2
  obtain ⟨z, ez, h5⟩ := lift_run h4
  refine hb1 r2 H2 S2 v u a b z _ s2 qa qb ez fun k hk => ⟨k, rfl, ?_⟩
  subst hk
  cases k with
  | false => exact h5.pure rfl s2 t2 (.bl false)
  | true =>
    refine tX.of x2 h5.bind fun v3 H3 ⟨r3, S3, w3, e3, s3, t3, q3, h6⟩ => ?_
    obtain ⟨b', qb', h7⟩ := rd_run h6 s3 (q2.ext e3)
    obtain ⟨c', qc', h8⟩ := rd_run h7 s3 q3
    obtain ⟨z', ez', h9⟩ := lift_run h8
    refine hd r3 H3 S3 u v3 b' c' z' Q s3 qb' qc' ez' fun k hk => ?_
    subst hk
    exact h9.pure rfl s3 t3 (.bl k)
theorem qe_chain {cc : Expr} {o o' : CmpOp} {op op' : PyData → PyData → Option PyData} (hq : CmQ X (compareOp o) op) (hq' : CmQ X (compareOp o') op') (ha : QE X c W a f) (hb : QE X c W b g) (hc : QE X c W cc h)
    (hm : lastMarks [o, o'] [b, cc] = false := by with_unfolding_all rfl) : QE X c W (.Compare a [o, o'] [b, cc] pos) (fChain op op' f g h) := by
  obtain ⟨R, h1, h2, _⟩ := hq
  obtain ⟨R', h1', h2', h3'⟩ := hq'
  exact pe_weak (pe_chain h1 h1' ha hb hc hm) fun σ H Q h => chain_weak h2 h2' h3' h
theorem qt_chain {cc : Expr} {o o' : CmpOp} {op op' : PyData → PyData → Option PyData} (hq : CmQ X (compareOp o) op) (hq' : CmQ X (compareOp o') op') (ha : QE X c W a f) (hb : QE X c W b g) (hc : QE X c W cc h)
    (hm : lastMarks [o, o'] [b, cc] = false := by with_unfolding_all rfl) : QT X c W (.Compare a [o, o'] [b, cc] pos) (fB (fChain op op' f g h)) := by
  obtain ⟨R, h1, h2, _⟩ := hq
  obtain ⟨R', h1', h2', h3'⟩ := hq'
  exact pt_weak (pt_chain h1 h1' ha hb hc hm) fun σ H Q h => chain_weak h2 h2' h3' (fB_of h)
end
end DD
/-! part DO -/
set_option Elab.async false
set_option linter.all false
set_option maxRecDepth 100000
set_option maxHeartbeats 4000000
namespace DD
open PySem PySem.Spec PyProof.Rows L2 LamX
section
variable {X : Cx} {r : Lv} {H : Hp} {S : Sto} {K : PySem.W.Frag}

/-! ### list + list, list * int, of lists that are read -/
theorem lstR {X : Cx} {pins : List (Addr × Obj)} {σ : L2.St} {H : Hp} {s : Shared} {l : Addr} {xs : List V} (I : Inv X pins σ H s) (hH : Rd H l (.lst xs)) : xs.length ≤ sizeLine ∧ ∃ (its : List Value) (n : Nat), Vals xs its ∧ xs.length = its.length ∧ s.heap.get? l = some { cls := .type "list", data := .seq its.toArray n } := by
  obtain ⟨z, its, n, r, e⟩ := hH.ok I.hok
  exact ⟨z, its, n, r, r.length, e⟩
def rCatR (K : PySem.W.Frag) : R2 := fun x y H Q => ∃ l b xs zs, x = .ref l ∧ y = .ref b ∧ SqL K H l xs ∧ SqL K H b zs ∧ xs.length + zs.length ≤ sizeLine ∧ ∀ p, H p = none → Q (.ref p) (upd H p (.lst (xs ++ zs)))
theorem op_catR : OpR X (binaryOp .Add) (rCatR X.K) := by
  intro pins s σ H x y v u Q I rx ry h
  obtain ⟨l, b, xs, zs, rfl, rfl, hH, hB, hz, q⟩ := h
  cases rx
  cases ry
  obtain ⟨its, r, pl, _⟩ := I.list hH
  obtain ⟨its2, r2, pl2, _⟩ := I.list hB
  obtain ⟨⟨cls, dd, data, sl⟩, ho, hc, n, hd⟩ := pl.isList
  obtain ⟨⟨cls2, dd2, data2, sl2⟩, ho2, hc2, n2, hd2⟩ := pl2.isList
  simp only at hc hd hc2 hd2
  subst hc hd hc2 hd2
  have hl := r.length
  have hl2 := r2.length
  have e : its.toArray ++ its2.toArray = (its ++ its2).toArray := by simp
  refine concat_meets ⟨_, ho, rfl⟩ ⟨_, ho2, rfl⟩ noFill_list_add seq_list_add PySem.F.slot_list_add PySem.F.entry_list_add (PySem.F.args_list_add_2 _ _) (list_addW l b its.toArray its2.toArray n n2 dd dd2 sl sl2 (by rw [List.size_toArray, List.size_toArray]; omega)) ⟨ho, ho2, ?_⟩
  rw [e]
  exact ⟨.ref _, _, I.lnew (t' := s.toks) (r.append r2) (by rw [List.length_append]; omega), rfl, q _ I.fresh⟩
def rRepR : R2 := fun x y H Q => ∃ l k xs, x = .ref l ∧ y = .int k ∧ Rd H l (.lst xs) ∧ -(2 ^ 63) ≤ k ∧ k < 2 ^ 63 ∧ xs.length * k.toNat ≤ sizeLine ∧
  ∀ p, H p = none → Q (.ref p) (upd H p (.lst (List.replicate k.toNat xs).flatten))
theorem op_repR : OpR X (binaryOp .Mult) rRepR := by
  intro pins s σ H x y v u Q I rx ry h
  obtain ⟨l, k, xs, rfl, rfl, hH, h1, h2, hz, q⟩ := h
  cases rx
  obtain ⟨t, rfl⟩ := ry
  obtain ⟨z, its, n, r, hl, e⟩ := lstR I hH
  have hlen : its.toArray.size * k.toNat ≤ sizeLine := by rw [List.size_toArray, ← hl]; exact hz
  have hcap : ¬ its.toArray.size * k.toNat > (2 ^ 63 - 1) / 8 := by
    have : (sizeLine : Nat) ≤ (2 ^ 63 - 1) / 8 := by decide
    omega
  have hfit : ¬ (!Builtin.List.listFitsIndex k) = true := by
    rw [fitsIndex_both h1 h2]
    exact Bool.false_ne_true
  have hlong : ¬ Builtin.List.listTooLong (its.toArray.size * k.toNat) = true := by
    rw [notLongL hlen]
    exact Bool.false_ne_true
  have hnew : List.foldl (fun x1 x2 => x1 ++ x2) #[] (List.replicate (if its.toArray.isEmpty = true then 0 else k.toNat) its.toArray) = (List.replicate k.toNat its).flatten.toArray := by
    have f0 : ∀ m : Nat, List.foldl (fun x1 x2 => x1 ++ x2) #[] (List.replicate m its.toArray) = (List.replicate m its).flatten.toArray := fun m => by
      have := foldl_rep its m []
      rw [List.nil_append] at this
      exact this
    rw [f0]
    cases its with
    | nil => simp
    | cons a r' => rw [if_neg (by simp)]
  refine wpAny_binaryOp_repeat_ref (T := "list") (U := "int") (by decide) ⟨_, e, rfl⟩ (fun s' => typeIs_int s' k t) noFill_list_mul F.fills_int_mul F.slot_int_rmul repeat_list F.slot_int_index.lookup
    (call_meets F.slot_int_rmul (typeIs_int s k t) F.entry_int_rmul (F.args_int_rmul_2 _ _) (int___rmul___int_list k t l its.toArray n)
      ⟨e, rfl, ⟨_, e, rfl⟩, call_meets F.slot_list_mul ⟨_, e, rfl⟩ F.entry_list_mul (F.args_list_mul_2 _ _) (AutoListH.list___mul___list_int_3 l its.toArray n k t hfit hcap hlong) ⟨e, ?_⟩⟩)
  rw [hnew]
  exact ⟨.ref _, _, I.lnew (t' := s.toks) (r.rep k.toNat) (by rw [PyProof.Rows.lm_len_rep_flat, Nat.mul_comm]; exact hz), rfl, q _ I.fresh⟩
theorem RpAll.rep {vs : List V} {ds : List PyData} (h : RpAll K r H vs ds) : ∀ n : Nat, RpAll K r H (List.replicate n vs).flatten (List.replicate n ds).flatten
  | 0 => .nil
  | n + 1 => by
    rw [List.replicate_succ, List.flatten_cons, List.replicate_succ, List.flatten_cons]
    exact h.append (RpAll.rep h n)

/-! ### arithmetic -/
def addP : PyData → PyData → Option PyData
  | .int i, .int j => some (.int (i + j))
  | .tuple xs, .tuple ys => if xs.length + ys.length ≤ 1000000 then some (.tuple (xs ++ ys)) else none
  | .list xs, .list ys => if xs.length + ys.length ≤ 1000000 then some (.list (xs ++ ys)) else none
  | _, _ => none
theorem szl {n : Nat} (h : n ≤ 1000000) : n ≤ sizeLine := by rw [sizeLine_eq]; omega
theorem q_add : OpQ X (binaryOp .Add) addP := by
  refine ⟨_, op_add.or (op_catA.or op_catR), fun r H S x y a b z Q s qa qb e A => ?_⟩
  cases a <;> cases b <;> simp only [addP] at e <;> try cases e
  · cases qa.int; cases qb.int
    exact .inl ⟨_, _, rfl, rfl, A.here s (.int _)⟩
  · rename_i xs ys
    split at e
    · rename_i hz
      cases e
      obtain ⟨a, vs, rfl, h1, h2⟩ := qa.list
      obtain ⟨b, us, rfl, h3, h4⟩ := qb.list
      refine .inr (.inr ⟨a, b, vs, us, rfl, rfl, h1, h3, by rw [h2.length, h4.length]; exact szl hz, fun p hp => ?_⟩)
      have E : Ext false r r H (upd H p (.lst (vs ++ us))) := Ext.new s.mu hp
      exact A.new s hp (.lst (.inl ⟨upd_same, s.no hp⟩) ((h2.append h4).ext E))
    · cases e
  · rename_i xs ys
    split at e
    · rename_i hz
      cases e
      obtain ⟨a, vs, rfl, h1, h2⟩ := qa.tup
      obtain ⟨b, us, rfl, h3, h4⟩ := qb.tup
      refine .inr (.inl ⟨a, b, vs, us, rfl, rfl, h1, h3, by rw [h2.length, h4.length]; exact szl hz, fun e1 => ?_, fun _ e2 => ?_, fun _ _ p hp => ?_⟩)
      · subst e1
        cases h2
        exact A.here s (.tup h3 h4)
      · subst e2
        cases h4
        rw [List.append_nil] at A
        exact A.here s (.tup h1 h2)
      · have E : Ext false r r H (upd H p (.tup (vs ++ us))) := Ext.new s.mu hp
        exact A.new s hp (.tup (.inl (.inl upd_same)) ((h2.append h4).ext E))
    · cases e
def subP : PyData → PyData → Option PyData
  | .int i, .int j => some (.int (i - j))
  | _, _ => none
theorem q_sub : OpQ X (binaryOp .Sub) subP := by
  refine ⟨_, op_sub, fun r H S x y a b z Q s qa qb e A => ?_⟩
  cases a <;> cases b <;> simp only [subP] at e <;> try cases e
  cases qa.int; cases qb.int
  exact ⟨_, _, rfl, rfl, A.here s (.int _)⟩
def mulP : PyData → PyData → Option PyData
  | .int i, .int j => if i.natAbs < 2 ^ 60 ∨ j.natAbs < 2 ^ 60 then some (.int (i * j)) else none
  | _, _ => none
theorem q_mul : OpQ X (binaryOp .Mult) mulP := by
  refine ⟨_, op_mul, fun r H S x y a b z Q s qa qb e A => ?_⟩
  cases a <;> cases b <;> simp only [mulP] at e <;> try cases e
  split at e
  · rename_i h
    cases e
    cases qa.int; cases qb.int
    refine ⟨_, _, rfl, rfl, ?_, A.here s (.int _)⟩
    unfold CMul
    rcases h with h | h
    · exact .inl ⟨by omega, by omega⟩
    · exact .inr ⟨by omega, by omega⟩
  · cases e
def modP : PyData → PyData → Option PyData
  | .int i, .int j => if 0 < j then some (.int (i % j)) else none
  | _, _ => none
theorem q_mod : OpQ X (binaryOp .Mod) modP := by
  refine ⟨_, op_mod, fun r H S x y a b z Q s qa qb e A => ?_⟩
  cases a <;> cases b <;> simp only [modP] at e <;> try cases e
  split at e
  · rename_i h
    cases e
    cases qa.int; cases qb.int
    exact ⟨_, _, rfl, rfl, h, A.here s (.int _)⟩
  · cases e
def fdivP : PyData → PyData → Option PyData
  | .int i, .int j => if 0 < j ∧ j < 2 ^ 60 then some (.int (i / j)) else none
  | _, _ => none
theorem q_fdiv : OpQ X (binaryOp .FloorDiv) fdivP := by
  refine ⟨_, op_fdivW, fun r H S x y a b z Q s qa qb e A => ?_⟩
  cases a <;> cases b <;> simp only [fdivP] at e <;> try cases e
  split at e
  · rename_i h
    cases e
    cases qa.int; cases qb.int
    exact ⟨_, _, rfl, rfl, wide_div (b := 60) h.1 (by omega) (by decide) (by decide), A.here s (.int _)⟩
  · cases e
def powP : PyData → PyData → Option PyData
  | .int i, .int j => if 0 ≤ j ∧ j ≤ 64 ∧ i.natAbs < 2 ^ 64 then some (.int (i ^ j.toNat)) else none
  | _, _ => none
theorem q_pow : OpQ X (binaryOp .Pow) powP := by
  refine ⟨_, op_pow, fun r H S x y a b z Q s qa qb e A => ?_⟩
  cases a <;> cases b <;> simp only [powP] at e <;> try cases e
  split at e
  · rename_i h
    cases e
    cases qa.int; cases qb.int
    exact ⟨_, _, rfl, rfl, ⟨h.1, by omega, h.2.2⟩, A.here s (.int _)⟩
  · cases e
def negP : PyData → Option PyData
  | .int i => some (.int (-i))
  | _ => none
theorem q_neg : UnQ X (unaryOp .USub) negP := by
  refine ⟨_, un_neg, fun r H S x a z Q s qa e A => ?_⟩
  cases a <;> simp only [negP] at e <;> try cases e
  cases qa.int
  exact ⟨_, rfl, A.here s (.int _)⟩

/-! ### comparisons -/
def eqP (a b : PyData) : Option PyData := if SeqAt.shaped a = true ∧ SeqAt.shaped b = true then some (.bool (PyData.eqv a b)) else none
def neP (a b : PyData) : Option PyData := if SeqAt.shaped a = true ∧ SeqAt.shaped b = true then some (.bool (!PyData.eqv a b)) else none
theorem q_eq (hu : X.A.units + 64 < cLine) : CmQ X (compareOp .Eq) eqP := by
  refine ⟨_, op_eqD hu, fun r H S x y a b z Q s qa qb e A => ?_, fun a b z e => ?_⟩
  · unfold eqP at e
    split at e
    · rename_i h
      cases e
      exact ⟨a, b, qa.dp, qb.dp, h.1, h.2, A _ rfl⟩
    · cases e
  · unfold eqP at e
    split at e
    · cases e; exact ⟨_, rfl⟩
    · cases e
theorem q_ne (hu : X.A.units + 64 < cLine) : CmQ X (compareOp .NotEq) neP := by
  refine ⟨_, op_neD hu, fun r H S x y a b z Q s qa qb e A => ?_, fun a b z e => ?_⟩
  · unfold neP at e
    split at e
    · rename_i h
      cases e
      exact ⟨a, b, qa.dp, qb.dp, h.1, h.2, A _ rfl⟩
    · cases e
  · unfold neP at e
    split at e
    · cases e; exact ⟨_, rfl⟩
    · cases e
def cmpP (p : Int → Int → Bool) : PyData → PyData → Option PyData
  | .int i, .int j => some (.bool (p i j))
  | _, _ => none
theorem q_cmp {o : CmpOp} {p : Int → Int → Bool} (h : OpR X (compareOp o) (rI0 fun i j => .bl (p i j))) : CmQ X (compareOp o) (cmpP p) := by
  refine ⟨_, h, fun r H S x y a b z Q s qa qb e A => ?_, fun a b z e => ?_⟩
  · cases a <;> cases b <;> simp only [cmpP] at e <;> try cases e
    cases qa.int; cases qb.int
    exact ⟨_, _, rfl, rfl, A _ rfl⟩
  · cases a <;> cases b <;> simp only [cmpP] at e <;> try cases e
    exact ⟨_, rfl⟩
abbrev ltP := cmpP fun i j => decide (i < j)
abbrev leP := cmpP fun i j => decide (i ≤ j)
abbrev gtP := cmpP fun i j => decide (j < i)
abbrev geP := cmpP fun i j => decide (j ≤ i)
theorem q_lt : CmQ X (compareOp .Lt) ltP := q_cmp op_lt
theorem q_le : CmQ X (compareOp .LtE) leP := q_cmp op_le
theorem q_gt : CmQ X (compareOp .Gt) gtP := q_cmp op_gt
theorem q_ge : CmQ X (compareOp .GtE) geP := q_cmp op_ge
def isNon : PyData → Bool
  | .none => true
  | _ => false
/-- is: None or bools beside it -/
def isP : PyData → PyData → Option PyData
  | a, .none => some (.bool (isNon a))
  | .bool a, .bool b => some (.bool (decide (a = b)))
  | _, _ => none
def isNotP : PyData → PyData → Option PyData
  | a, .none => some (.bool (!isNon a))
  | .bool a, .bool b => some (.bool (!decide (a = b)))
  | _, _ => none
theorem Rq.isNon {x : V} {a : PyData} (q : Rq K r H x a) : decide (x = .non) = isNon a := by
  cases a with
  | none => cases q.none; rfl
  | bool b => cases q.bool; rfl
  | int b => cases q.int; rfl
  | str b => cases q.str; rfl
  | list b => obtain ⟨_, _, rfl, _⟩ := q.list; rfl
  | tuple b => obtain ⟨_, _, rfl, _⟩ := q.tup; rfl
  | dict b =>
    rcases q with q | ⟨_, _, _, _, e, _⟩
    · cases q
    · cases e
theorem q_is : CmQ X (compareOp .Is) isP := by
  refine ⟨_, op_isN.or op_isBl, fun r H S x y a b z Q s qa qb e A => ?_, fun a b z e => ?_⟩
  · unfold isP at e
    split at e
    · cases e
      cases qb.none
      refine .inl ⟨rfl, ?_⟩
      rw [qa.isNon]; exact A _ rfl
    · cases e
      cases qa.bool; cases qb.bool
      exact .inr ⟨_, _, rfl, rfl, A _ rfl⟩
    · cases e
  · unfold isP at e
    split at e
    · cases e; exact ⟨_, rfl⟩
    · cases e; exact ⟨_, rfl⟩
    · cases e
theorem q_isNot : CmQ X (compareOp .IsNot) isNotP := by
  refine ⟨_, op_notN.or op_notBl, fun r H S x y a b z Q s qa qb e A => ?_, fun a b z e => ?_⟩
  · unfold isNotP at e
    split at e
    · cases e
      cases qb.none
      refine .inl ⟨rfl, ?_⟩
      rw [qa.isNon]; exact A _ rfl
    · cases e
      cases qa.bool; cases qb.bool
      exact .inr ⟨_, _, rfl, rfl, A _ rfl⟩
    · cases e
  · unfold isNotP at e
    split at e
    · cases e; exact ⟨_, rfl⟩
    · cases e; exact ⟨_, rfl⟩
    · cases e
/-! in -/
def flatD : PyData → Bool
  | .none | .bool _ | .int _ | .str _ => true
  | _ => false
def anyEq (a : PyData) (ds : List PyData) : Bool := ds.any fun z => PyData.eqv z a
def inP (neg : Bool) : PyData → PyData → Option PyData
  | a, .list ds => if SeqAt.shaped a = true ∧ SeqAt.shaped (.list ds) = true then some (.bool (if neg then !anyEq a ds else anyEq a ds)) else none
  | a, .tuple ds => if flatD a = true ∧ ds.all flatD = true then some (.bool (if neg then !anyEq a ds else anyEq a ds)) else none
  | _, _ => none
theorem Rp.flat {x : V} {a : PyData} (q : Rp K r H x a) (f : flatD a = true) : flatV x = true := by
  cases q <;> first | rfl | cases f
theorem Rp.eqv {x y : V} {a b : PyData} (q : Rp K r H x a) (f : flatD a = true) (q2 : Rp K r H y b) (f2 : flatD b = true) : eqV x y = PyData.eqv a b := by
  cases q <;> first | (cases f; done) | (cases q2 <;> first | (cases f2; done) | (simp [eqV, PyData.eqv]))
theorem RpAll.flat : ∀ {vs : List V} {ds : List PyData}, RpAll K r H vs ds → ds.all flatD = true → vs.all flatV = true
  | _, _, .nil, _ => rfl
  | _, _, .cons h t, f => by
    rw [List.all_cons, Bool.and_eq_true] at f ⊢
    exact ⟨h.flat f.1, RpAll.flat t f.2⟩
theorem RpAll.anyEq {x : V} {a : PyData} (q : Rp K r H x a) (f : flatD a = true) : ∀ {vs : List V} {ds : List PyData}, RpAll K r H vs ds → ds.all flatD = true → inV x vs = anyEq a ds
  | _, _, .nil, _ => rfl
  | _, _, .cons h t, g => by
    rw [List.all_cons, Bool.and_eq_true] at g
    have := RpAll.anyEq q f t g.2
    unfold inV DD.anyEq at this ⊢
    rw [List.any_cons, List.any_cons, h.eqv g.1 q f, this]
theorem Rq.flat {x : V} {a : PyData} (q : Rq K r H x a) (f : flatD a = true) : Rp K r H x a := by
  rcases q with q | ⟨_, _, _, _, rfl, _⟩
  · exact q
  · cases f
theorem q_in (hu : X.A.units + 65 < cLine) : CmQ X (compareOp .In) (inP false) := by
  refine ⟨_, (op_inD hu).or op_in_seq, fun r H S x y a b z Q s qa qb e A => ?_, fun a b z e => ?_⟩
  · unfold inP at e
    split at e
    · split at e
      · rename_i h
        cases e
        exact .inl ⟨a, _, qa.dp, qb.dp, h.1, h.2, A _ rfl⟩
      · cases e
    · rename_i ds
      split at e
      · rename_i h
        cases e
        obtain ⟨b, us, rfl, h3, h4⟩ := qb.tup
        have f := qa.flat h.1
        refine .inr ⟨b, us, rfl, .inr h3, f.flat h.1, h4.flat h.2, ?_⟩
        have := A _ rfl
        simp only [Bool.false_eq_true, if_false] at this ⊢
        rw [h4.anyEq f h.1 h.2]
        exact this
      · cases e
    · cases e
  · unfold inP at e
    split at e
    · split at e
      · cases e; exact ⟨_, rfl⟩
      · cases e
    · split at e
      · cases e; exact ⟨_, rfl⟩
      · cases e
    · cases e
theorem q_notIn (hu : X.A.units + 65 < cLine) : CmQ X (compareOp .NotIn) (inP true) := by
  refine ⟨_, (op_notInD hu).or op_notIn_seq, fun r H S x y a b z Q s qa qb e A => ?_, fun a b z e => ?_⟩
  · unfold inP at e
    split at e
    · split at e
      · rename_i h
        cases e
        exact .inl ⟨a, _, qa.dp, qb.dp, h.1, h.2, A _ rfl⟩
      · cases e
    · rename_i ds
      split at e
      · rename_i h
        cases e
        obtain ⟨b, us, rfl, h3, h4⟩ := qb.tup
        have f := qa.flat h.1
        refine .inr ⟨b, us, rfl, .inr h3, f.flat h.1, h4.flat h.2, ?_⟩
        have := A _ rfl
        simp only [if_true] at this ⊢
        rw [h4.anyEq f h.1 h.2]
        exact this
      · cases e
    · cases e
  · unfold inP at e
    split at e
    · split at e
      · cases e; exact ⟨_, rfl⟩
      · cases e
    · split at e
      · cases e; exact ⟨_, rfl⟩
      · cases e
    · cases e
/-! an item -/
def ixP : PyData → PyData → Option PyData
  | .list xs, .int i => atI xs i
  | .tuple xs, .int i => atI xs i
  | _, _ => none
theorem RpAll.atI {vs : List V} {ds : List PyData} {i : Int} {d : PyData} (h : RpAll K r H vs ds) (e : L2.atI ds i = some d) : ∃ v, L2.atI vs i = some v ∧ Rp K r H v d := by
  unfold L2.atI at e ⊢
  rw [h.length]
  cases q : ixN ds.length i with
  | none => rw [q] at e; cases e
  | some j =>
    rw [q] at e
    obtain ⟨v, h1, h2⟩ := h.get (show ds[j]? = some d from e)
    exact ⟨v, h1, h2⟩
theorem q_ix : IxQ X ixP := by
  refine ⟨_, ix_list.or ix_tup, fun r H S x y a b z Q s qa qb e A => ?_⟩
  cases a <;> cases b <;> simp only [ixP] at e <;> try cases e
  · rename_i xs i
    cases qb.int
    obtain ⟨a, vs, rfl, h1, h2⟩ := qa.list
    obtain ⟨v, e1, q⟩ := h2.atI e
    exact .inl ⟨a, vs, i, v, rfl, rfl, h1, e1, A.here s q⟩
  · rename_i xs i
    cases qb.int
    obtain ⟨a, vs, rfl, h1, h2⟩ := qa.tup
    obtain ⟨v, e1, q⟩ := h2.atI e
    exact .inr ⟨a, vs, i, v, rfl, rfl, h1, e1, A.here s q⟩
end
end DD
/-! part DP -/
set_option Elab.async false
set_option linter.all false
set_option maxRecDepth 100000
set_option maxHeartbeats 4000000
namespace DD
open PySem PySem.Spec PyProof.Rows L2 LamX

/-! ### argument lists, displays -/
def fNil : Ev → M (List Vl) := fun _ => pure []
def fCons (f : Ev → M Vl) (g : Ev → M (List Vl)) : Ev → M (List Vl) := fun ev => do
  let w ← f ev
  let ws ← g ev
  pure (w :: ws)
def dats : List Vl → Option (List PyData)
  | [] => some []
  | .d x :: ws => (dats ws).map (x :: ·)
  | _ :: _ => none
def rdAll : List Vl → M (List PyData)
  | [] => pure []
  | w :: ws => do
    let d ← rd w
    let ds ← rdAll ws
    pure (d :: ds)
def fTup (f : Ev → M (List Vl)) : Ev → M Vl := fun ev => do
  let ws ← f ev
  let ds ← M.lift (dats ws)
  if ds.length ≤ 1000 then pure (.d (.tuple ds)) else M.fail
def fLst (f : Ev → M (List Vl)) : Ev → M Vl := fun ev => do
  let ws ← f ev
  let ds ← M.lift (dats ws)
  if ds.length ≤ 1000 then pure (.d (.list ds)) else M.fail
def M.newL (ds : List PyData) : M Vl := fun S => some (.ok (.m S.length), S ++ [.l ds])
/-- a list that will be changed -/
def fMut (f : Ev → M (List Vl)) : Ev → M Vl := fun ev => do
  let ws ← f ev
  let ds ← M.lift (dats ws)
  if ds.length ≤ 1000 then M.newL ds else M.fail
inductive RqAll (K : PySem.W.Frag) (r : Lv) (H : Hp) : List V → List PyData → Prop
  | nil : RqAll K r H [] []
  | cons {v : V} {vs : List V} {d : PyData} {ds : List PyData} : Rq K r H v d → RqAll K r H vs ds → RqAll K r H (v :: vs) (d :: ds)
section
variable {α β : Type} {X : Cx} {c : Cf} {W : WX} {e a b : Expr} {es : List Expr} {f g : Ev → M Vl} {fs : Ev → M (List Vl)} {pos : Pos} {r : Lv} {σ : L2.St} {H : Hp} {S : Sto} {K : PySem.W.Frag} {mg : Str → Option Value}
theorem dats_ok : ∀ {vs : List V} {ws : List Vl} {ds : List PyData}, RwAll K mg r H vs ws → dats ws = some ds → RpAll K r H vs ds
  | _, [], _, .nil, e => by cases e; exact .nil
  | _, .d x :: ws, ds, .cons h t, e => by
    unfold dats at e
    cases q : dats ws with
    | none => rw [q] at e; cases e
    | some l =>
      rw [q] at e
      cases e
      exact .cons h (dats_ok t q)
  | _, .m n :: ws, ds, .cons h t, e => by cases e
  | _, .f n :: ws, ds, .cons h t, e => by cases e
theorem rdAll_run {R : Lv → Hp → β → α → Prop} {Q : β → Hp → Prop} : ∀ {ws : List Vl} {vs : List V} {g : List PyData → M α}, tRun X c W R r σ H S (rdAll ws >>= g) Q → StoRel X.w X.K r H S → RwAll X.K X.mg r H vs ws →
    ∃ ds, RqAll X.K r H vs ds ∧ tRun X c W R r σ H S (g ds) Q
  | [], _, g, h, s, .nil => ⟨[], .nil, h⟩
  | w :: ws, _, g, h, s, .cons q t => by
    have h' : tRun X c W R r σ H S (rd w >>= fun d => rdAll ws >>= fun ds => g (d :: ds)) Q := by
      obtain ⟨o, S', e, h⟩ := h
      refine ⟨o, S', ?_, h⟩
      rw [← e]
      simp only [rdAll, M.bind_run]
      cases rd w S with
      | none => rfl
      | some p =>
        obtain ⟨o1, S1⟩ := p
        cases o1 with
        | error x => rfl
        | ok d =>
          simp only
          cases rdAll ws S1 with
          | none => rfl
          | some p2 =>
            obtain ⟨o2, S2⟩ := p2
            cases o2 <;> rfl
    obtain ⟨d, qd, h1⟩ := rd_run h' s q
    obtain ⟨ds, qds, h2⟩ := rdAll_run h1 s t
    exact ⟨d :: ds, .cons qd qds, h2⟩
theorem qa_nil : QA X c W [] fNil := pa_weak pa_nil fun σ H Q h => by
  obtain ⟨r, ev, S, x, h⟩ := h
  exact h.pure rfl x.sto x.tabs .nil
theorem qa_cons (ha : QE X c W e f) (hr : QA X c W es fs) (hs : starEach (e :: es) X.env = (false, eval e X.env) :: starEach es X.env := by rfl) : QA X c W (e :: es) (fCons f fs) := pa_weak (pa_cons ha hr hs) fun σ H Q h => by
  obtain ⟨r, ev, S, x, h⟩ := h
  refine tX.of x h.bind fun v H1 ⟨r1, S1, w, e1, s1, t1, q1, h1⟩ => ?_
  have x1 := x.ext e1 s1 t1
  refine tX.of x1 h1.bind fun vs H2 ⟨r2, S2, ws, e2, s2, t2, q2, h2⟩ => ?_
  exact h2.pure rfl s2 t2 (.cons (q1.ext e2) q2)
theorem small1 {n : Nat} (h : n ≤ 1000) : n ≤ sizeLine := by rw [sizeLine_eq]; omega
theorem qe_tup {x1} (ha : QA X c W es fs) : QE X c W (.Tuple es x1 pos) (fTup fs) := pe_weak (pe_tup ha) fun σ H Q h => by
  obtain ⟨r, ev, S, x, h⟩ := h
  refine tX.of x h.bind fun vs H1 ⟨r1, S1, ws, e1, s1, t1, q1, h1⟩ => ?_
  obtain ⟨ds, ed, h2⟩ := lift_run h1
  have q2 := dats_ok q1 ed
  split at h2
  · rename_i hz
    refine ⟨by rw [q2.length]; exact small1 hz, fun p hp => ?_⟩
    exact h2.new rfl s1 t1 hp (show Rp X.K r1 _ _ _ from .tup (.inl (.inl upd_same)) (q2.ext (Ext.new (lam := false) s1.mu hp)))
  · exact (fail_run h2).elim
theorem notin_new {p : Addr} (s : StoRel wd K r H S) (hp : H p = none) : r.no p := s.no hp
theorem qe_lst (ha : QA X c W es fs) : QE X c W (.List es pos) (fLst fs) := pe_weak (pe_lst ha) fun σ H Q h => by
  obtain ⟨r, ev, S, x, h⟩ := h
  refine tX.of x h.bind fun vs H1 ⟨r1, S1, ws, e1, s1, t1, q1, h1⟩ => ?_
  obtain ⟨ds, ed, h2⟩ := lift_run h1
  have q2 := dats_ok q1 ed
  split at h2
  · rename_i hz
    refine ⟨by rw [q2.length]; exact small1 hz, fun p hp => ?_⟩
    exact h2.new rfl s1 t1 hp (show Rp X.K r1 _ _ _ from .lst (.inl ⟨upd_same, notin_new s1 hp⟩) (q2.ext (Ext.new (lam := false) s1.mu hp)))
  · exact (fail_run h2).elim
theorem qe_mut (ha : QA X c W es fs) : QE X c W (.List es pos) (fMut fs) := pe_weak (pe_lst ha) fun σ H Q h => by
  obtain ⟨r, ev, S, x, h⟩ := h
  refine tX.of x h.bind fun vs H1 ⟨r1, S1, ws, e1, s1, t1, q1, h1⟩ => ?_
  obtain ⟨ds, ed, h2⟩ := lift_run h1
  have q2 := dats_ok q1 ed
  split at h2
  · rename_i hz
    refine ⟨by rw [q2.length]; exact small1 hz, fun p hp => ?_⟩
    obtain ⟨o, S', e', h3⟩ := h2
    cases e'
    have E : Ext false r1 ⟨r1.st ++ [p], r1.hid⟩ H1 (upd H1 p (.lst vs)) := Ext.newL s1.mu hp
    exact h3 ⟨r1.st ++ [p], r1.hid⟩ (.ref p) _ E.up (s1.newL hp q2) (tabs_ext E t1) ⟨p, by show (r1.st ++ [p])[S1.length]? = some p; rw [← s1.len, List.getElem?_append_right (Nat.le_refl _)]; simp, rfl⟩
  · exact (fail_run h2).elim

/-! ### built-ins -/
def fCall (fn : List PyData → Option PyData) (fs : Ev → M (List Vl)) : Ev → M Vl := fun ev => do
  let ws ← fs ev
  let ds ← rdAll ws
  let z ← M.lift (fn ds)
  pure (.d z)
def CallQ (X : Cx) (f : Value) (fn : List PyData → Option PyData) : Prop := ∃ R, CallR X f R ∧
  ∀ r H S vs ds z Q, StoRel X.w X.K r H S → RqAll X.K r H vs ds → fn ds = some z → Acc X r H S z Q → R vs H Q
theorem cb_weak {R : List V → Hp → VK → Prop} {fn : List PyData → Option PyData} (hd : ∀ r H S vs ds z Q, StoRel X.w X.K r H S → RqAll X.K r H vs ds → fn ds = some z → Acc X r H S z Q → R vs H Q) {Q : VK} (h : tE X c W (fCall fn fs) σ H Q) : tCB R (tAs X c W fs) σ H Q := by
  obtain ⟨r, ev, S, x, h⟩ := h
  refine tX.of x h.bind fun vs H1 ⟨r1, S1, ws, e1, s1, t1, q1, h1⟩ => ?_
  obtain ⟨ds, qd, h2⟩ := rdAll_run h1 s1 q1
  obtain ⟨z, ez, h3⟩ := lift_run h2
  exact hd r1 H1 S1 vs ds z Q s1 qd ez (acc_of h3 t1)
theorem qe_callB {x : Str} {p : Pos} {id : String} {fn : List PyData → Option PyData} (hq : CallQ X (.builtin id) fn) (hg : Gl X x) (hm : X.mg x = none) (hv : bootBuiltins x = some (.builtin id)) (ha : QA X c W (e :: es) fs) (hn : x ≠ "__name__" := by decide) (hdb : (x == ("__debug__" : Str)) = false := by decide)
    (he : starEach (e :: es) X.env = (false, eval e X.env) :: starEach es X.env := by rfl) (hpl : (backTo pos (starEach es X.env)).any (·.1) = false := by rfl) : QE X c W (.Call (.Name x p) (e :: es) [] pos) (fCall fn fs) := by
  obtain ⟨R, h1, h2⟩ := hq
  exact pe_weak (pe_callB h1 hg hm hv ha hn hdb he hpl) fun σ H Q h => cb_weak h2 h
theorem qe_callTy {x : Str} {p : Pos} {T : String} {fn : List PyData → Option PyData} (hq : CallQ X (.type T) fn) (hg : Gl X x) (hm : X.mg x = none) (hv : bootBuiltins x = some (.type T)) (ha : QA X c W (e :: es) fs) (hn : x ≠ "__name__" := by decide) (hdb : (x == ("__debug__" : Str)) = false := by decide)
    (he : starEach (e :: es) X.env = (false, eval e X.env) :: starEach es X.env := by rfl) (hpl : (backTo pos (starEach es X.env)).any (·.1) = false := by rfl) : QE X c W (.Call (.Name x p) (e :: es) [] pos) (fCall fn fs) := by
  obtain ⟨R, h1, h2⟩ := hq
  exact pe_weak (pe_callTy h1 hg hm hv ha hn hdb he hpl) fun σ H Q h => cb_weak h2 h
end
section
variable {X : Cx} {r : Lv} {H : Hp} {S : Sto} {K : PySem.W.Frag}
theorem RqAll.one {vs : List V} {d : PyData} (h : RqAll K r H vs [d]) : ∃ v, vs = [v] ∧ Rq K r H v d := by
  cases h with
  | cons q t => cases t; exact ⟨_, rfl, q⟩
def lenP : List PyData → Option PyData
  | [.list xs] => some (.int xs.length)
  | [.tuple xs] => some (.int xs.length)
  | [.str x] => if x.length ≤ 1000000 then some (.int x.length) else none
  | _ => none
theorem q_len : CallQ X (.builtin "len") lenP := by
  refine ⟨_, call_len_seq.or call_len_str, fun r H S vs ds z Q s qs e A => ?_⟩
  unfold lenP at e
  split at e
  · cases e
    obtain ⟨v, rfl, q⟩ := qs.one
    obtain ⟨a, us, rfl, h1, h2⟩ := q.list
    refine .inl ⟨a, us, rfl, .inl h1, ?_⟩
    rw [h2.length]
    exact A.here s (.int _)
  · cases e
    obtain ⟨v, rfl, q⟩ := qs.one
    obtain ⟨a, us, rfl, h1, h2⟩ := q.tup
    refine .inl ⟨a, us, rfl, .inr h1, ?_⟩
    rw [h2.length]
    exact A.here s (.int _)
  · split at e
    · rename_i hz
      cases e
      obtain ⟨v, rfl, q⟩ := qs.one
      cases q.str
      exact .inr ⟨_, rfl, szl hz, A.here s (.int _)⟩
    · cases e
  · cases e
def intP : List PyData → Option PyData
  | [.int i] => some (.int i)
  | [.bool b] => some (.int (if b then 1 else 0))
  | _ => none
theorem q_int : CallQ X (.type "int") intP := by
  refine ⟨_, call_int1, fun r H S vs ds z Q s qs e A => ?_⟩
  unfold intP at e
  split at e
  · cases e
    obtain ⟨v, rfl, q⟩ := qs.one
    cases q.int
    exact .inl ⟨_, rfl, A.here s (.int _)⟩
  · cases e
    obtain ⟨v, rfl, q⟩ := qs.one
    cases q.bool
    exact .inr ⟨_, rfl, A.here s (.int _)⟩
  · cases e
def tupleP : List PyData → Option PyData
  | [.list xs] => some (.tuple xs)
  | [.tuple xs] => some (.tuple xs)
  | _ => none
theorem q_tuple : CallQ X (.type "tuple") tupleP := by
  refine ⟨_, call_tuple_of, fun r H S vs ds z Q s qs e A => ?_⟩
  unfold tupleP at e
  split at e
  · cases e
    obtain ⟨v, rfl, q⟩ := qs.one
    obtain ⟨a, us, rfl, h1, h2⟩ := q.list
    refine ⟨a, us, rfl, .inl ⟨h1, fun l hl => ?_⟩⟩
    exact A.new s hl (.tup (.inl (.inl upd_same)) (h2.ext (Ext.new (lam := false) s.mu hl)))
  · cases e
    obtain ⟨v, rfl, q⟩ := qs.one
    obtain ⟨a, us, rfl, h1, h2⟩ := q.tup
    exact ⟨a, us, rfl, .inr ⟨h1, A.here s (.tup h1 h2)⟩⟩
  · cases e
def listP : List PyData → Option PyData
  | [.list xs] => some (.list xs)
  | [.tuple xs] => some (.list xs)
  | _ => none
theorem q_list : CallQ X (.type "list") listP := by
  refine ⟨_, call_list_of, fun r H S vs ds z Q s qs e A => ?_⟩
  unfold listP at e
  split at e
  · cases e
    obtain ⟨v, rfl, q⟩ := qs.one
    obtain ⟨a, us, rfl, h1, h2⟩ := q.list
    refine ⟨a, us, rfl, .inl h1, fun l hl => ?_⟩
    exact A.new s hl (.lst (.inl ⟨upd_same, notin_new s hl⟩) (h2.ext (Ext.new (lam := false) s.mu hl)))
  · cases e
    obtain ⟨v, rfl, q⟩ := qs.one
    obtain ⟨a, us, rfl, h1, h2⟩ := q.tup
    refine ⟨a, us, rfl, .inr h1, fun l hl => ?_⟩
    exact A.new s hl (.lst (.inl ⟨upd_same, notin_new s hl⟩) (h2.ext (Ext.new (lam := false) s.mu hl)))
  · cases e
def boolsD : List PyData → Option (List Bool)
  | [] => some []
  | .bool b :: ds => (boolsD ds).map (b :: ·)
  | _ :: _ => none
theorem boolsD_ok : ∀ {vs : List V} {ds : List PyData} {bs : List Bool}, RpAll K r H vs ds → boolsD ds = some bs → vs = bs.map V.bl
  | _, [], _, .nil, e => by cases e; rfl
  | _, d :: ds, bs, .cons h t, e => by
    cases d <;> simp only [boolsD] at e <;> try cases e
    rename_i b
    cases q : boolsD ds with
    | none => rw [q] at e; cases e
    | some l =>
      rw [q] at e
      cases e
      cases h
      rw [boolsD_ok t q]; rfl
def allP : List PyData → Option PyData
  | [.list xs] => (boolsD xs).map fun bs => .bool (bs.all id)
  | _ => none
def anyP : List PyData → Option PyData
  | [.list xs] => (boolsD xs).map fun bs => .bool (bs.any id)
  | _ => none
theorem q_all (hc : X.calm = true) : CallQ X (.builtin "all") allP := by
  refine ⟨_, cr_all hc, fun r H S vs ds z Q s qs e A => ?_⟩
  unfold allP at e
  split at e
  · obtain ⟨v, rfl, q⟩ := qs.one
    obtain ⟨a, us, rfl, h1, h2⟩ := q.list
    obtain ⟨bs, eb, rfl⟩ := Option.map_eq_some_iff.mp e
    refine ⟨a, bs, rfl, ?_, A.here s (.bl _)⟩
    rw [← boolsD_ok h2 eb]; exact h1
  · cases e
theorem q_any (hc : X.calm = true) : CallQ X (.builtin "any") anyP := by
  refine ⟨_, cr_any hc, fun r H S vs ds z Q s qs e A => ?_⟩
  unfold anyP at e
  split at e
  · obtain ⟨v, rfl, q⟩ := qs.one
    obtain ⟨a, us, rfl, h1, h2⟩ := q.list
    obtain ⟨bs, eb, rfl⟩ := Option.map_eq_some_iff.mp e
    refine ⟨a, bs, rfl, ?_, A.here s (.bl _)⟩
    rw [← boolsD_ok h2 eb]; exact h1
  · cases e
def intsD : List PyData → Option (List Int)
  | [] => some []
  | .int b :: ds => (intsD ds).map (b :: ·)
  | _ :: _ => none
theorem intsD_ok : ∀ {vs : List V} {ds : List PyData} {bs : List Int}, RpAll K r H vs ds → intsD ds = some bs → vs = bs.map V.int ∧ ds = bs.map PyData.int
  | _, [], _, .nil, e => by cases e; exact ⟨rfl, rfl⟩
  | _, d :: ds, bs, .cons h t, e => by
    cases d <;> simp only [intsD] at e <;> try cases e
    rename_i b
    cases q : intsD ds with
    | none => rw [q] at e; cases e
    | some l =>
      rw [q] at e
      cases e
      cases h
      obtain ⟨h1, h2⟩ := intsD_ok t q
      rw [h1, h2]; exact ⟨rfl, rfl⟩
def sumP : List PyData → Option PyData
  | [.list xs] => (intsD xs).map fun ns => .int ns.sum
  | [.tuple xs] => (intsD xs).map fun ns => .int ns.sum
  | _ => none
end
end DD
/-! part DS -/
set_option Elab.async false
set_option linter.all false
set_option maxRecDepth 100000
set_option maxHeartbeats 4000000
namespace DD
open PySem PySem.Spec PyProof.Rows L2 LamX

/-! ### isinstance -/
inductive Ty where
  | int | bool | str | tup | lst
def Ty.nm : Ty → String
  | .int => "int" | .bool => "bool" | .str => "str" | .tup => "tuple" | .lst => "list"
def isiB : Ty → PyData → Bool
  | .int, .int _ => true
  | .int, .bool _ => true
  | .bool, .bool _ => true
  | .str, .str _ => true
  | .tup, .tuple _ => true
  | .lst, .list _ => true
  | _, _ => false
def tyN : PyData → String
  | .none => "NoneType" | .bool _ => "bool" | .int _ => "int" | .str _ => "str" | .list _ => "list" | .tuple _ => "tuple" | .dict _ => "dict"
theorem kitB_is (T : Ty) (d : PyData) : kitB (tyN d) T.nm = some (isiB T d) := by
  cases T <;> cases d <;> simp only [tyN, Ty.nm, isiB] <;> decide +kernel
def isiP (T : Ty) (d : PyData) : Option PyData := some (.bool (isiB T d))
def isiP2 (T U : Ty) (d : PyData) : Option PyData := some (.bool (isiB T d || isiB U d))
section
variable {X : Cx} {c : Cf} {W : WX} {e : Expr} {f : Ev → M Vl} {r : Lv} {H : Hp} {K : PySem.W.Frag}
theorem Rq.ty {x : V} {d : PyData} (q : Rq K r H x d) : TyX K H x (.type (tyN d)) := by
  rcases q with q | ⟨a, vs, ds, rfl, rfl, h, _⟩
  · cases q with
    | non => exact .base .non
    | bl b => exact .base (.bl b)
    | int i => exact .base (.int i)
    | str i => exact .base (.str i)
    | lst h _ =>
      rcases h with ⟨h, _⟩ | ⟨o, h⟩ | ⟨o, its, n, h1, h2, _⟩
      · exact .base (.lst h)
      · exact .base (.frz h)
      · exact .kList h1 h2
    | tup h _ =>
      rcases h with (h | ⟨o, h⟩) | ⟨o, its, n, h1, h2, h3⟩
      · exact .base (.tup h)
      · exact .fTuple h
      · exact .kTuple h1 h2
  · exact .base (.lst h)
theorem qe_isi (T : Ty) {p p2 pos : Pos} (ha : QE X c W e f) (hg : Gl X "isinstance") (hm : X.mg "isinstance" = none) (hgT : Gl X (Str.ofString T.nm)) (hmT : X.mg (Str.ofString T.nm) = none)
    (hbT : bootBuiltins (Str.ofString T.nm) = some (.type T.nm)) (hnT : Str.ofString T.nm ≠ "__name__") (hdT : (Str.ofString T.nm == ("__debug__" : Str)) = false)
    (hs : starEach (e :: [.Name (Str.ofString T.nm) p2]) X.env = (false, eval e X.env) :: starEach [.Name (Str.ofString T.nm) p2] X.env := by rfl)
    (hpl : (backTo pos (starEach [.Name (Str.ofString T.nm) p2] X.env)).any (·.1) = false := by rfl) :
    QE X c W (.Call (.Name "isinstance" p) [e, .Name (Str.ofString T.nm) p2] [] pos) (fUn (isiP T) f) := by
  have h := pe_callB (X := X) (pos := pos) (p := p) call_isi hg hm boot_isinstance (pa_cons ha (pa_cons (pe_bltn (v := .ty T.nm) (pos := p2) hgT hmT hbT rfl hnT hdT) pa_nil (by rfl)) hs) (by decide) (by decide) hs hpl
  refine pe_weak h fun σ H Q h => ?_
  obtain ⟨r, ev, S, x, h⟩ := h
  refine tX.of x h.bind fun v H1 ⟨r1, S1, w, e1, s1, t1, q1, h1⟩ => ?_
  obtain ⟨d, qd, h2⟩ := rd_run h1 s1 q1
  obtain ⟨z, ez, h3⟩ := lift_run h2
  cases ez
  exact ⟨v, .ty T.nm, _, _, _, rfl, .ty _, qd.ty, kit_ty (kitB_is T d), (acc_of h3 t1).here s1 (.bl _)⟩
theorem qe_isi2 (T U : Ty) {p p2 p3 p4 pos : Pos} {k : Nat} (ha : QE X c W e f) (hg : Gl X "isinstance") (hm : X.mg "isinstance" = none) (hgT : Gl X (Str.ofString T.nm)) (hmT : X.mg (Str.ofString T.nm) = none)
    (hbT : bootBuiltins (Str.ofString T.nm) = some (.type T.nm)) (hnT : Str.ofString T.nm ≠ "__name__") (hdT : (Str.ofString T.nm == ("__debug__" : Str)) = false)
    (hgU : Gl X (Str.ofString U.nm)) (hmU : X.mg (Str.ofString U.nm) = none) (hbU : bootBuiltins (Str.ofString U.nm) = some (.type U.nm)) (hnU : Str.ofString U.nm ≠ "__name__") (hdU : (Str.ofString U.nm == ("__debug__" : Str)) = false)
    (hs : starEach (e :: [.Tuple [.Name (Str.ofString T.nm) p2, .Name (Str.ofString U.nm) p3] k p4]) X.env = (false, eval e X.env) :: starEach [.Tuple [.Name (Str.ofString T.nm) p2, .Name (Str.ofString U.nm) p3] k p4] X.env := by rfl)
    (hpl : (backTo pos (starEach [.Tuple [.Name (Str.ofString T.nm) p2, .Name (Str.ofString U.nm) p3] k p4] X.env)).any (·.1) = false := by rfl) :
    QE X c W (.Call (.Name "isinstance" p) [e, .Tuple [.Name (Str.ofString T.nm) p2, .Name (Str.ofString U.nm) p3] k p4] [] pos) (fUn (isiP2 T U) f) := by
  have h := pe_callB (X := X) (pos := pos) (p := p) call_isiT hg hm boot_isinstance (pa_cons ha (pa_cons (pe_tup (x1 := k) (pos := p4) (pa_cons (pe_bltn (v := .ty T.nm) (pos := p2) hgT hmT hbT rfl hnT hdT) (pa_cons (pe_bltn (v := .ty U.nm) (pos := p3) hgU hmU hbU rfl hnU hdU) pa_nil (by rfl)) (by rfl))) pa_nil (by rfl)) hs) (by decide) (by decide) hs hpl
  refine pe_weak h fun σ H Q h => ?_
  obtain ⟨r, ev, S, x, h⟩ := h
  refine tX.of x h.bind fun v H1 ⟨r1, S1, w, e1, s1, t1, q1, h1⟩ => ?_
  obtain ⟨d, qd, h2⟩ := rd_run h1 s1 q1
  obtain ⟨z, ez, h3⟩ := lift_run h2
  cases ez
  refine ⟨by show 2 ≤ sizeLine; decide, fun tp hp => ?_⟩
  have E : Ext false r1 r1 H1 (upd H1 tp (.tup [.ty T.nm, .ty U.nm])) := Ext.new s1.mu hp
  have qd' : Rq X.K r1 (upd H1 tp (.tup [.ty T.nm, .ty U.nm])) v d := by
    rcases qd with q | ⟨a, vs, ds, rfl, rfl, h, t⟩
    · exact .inl (q.ext E)
    · exact .inr ⟨a, vs, ds, rfl, rfl, by rw [upd_ne (ne_of_none h hp)]; exact h, t.ext E⟩
  refine ⟨v, tp, _, _, _, isiB T d || isiB U d, rfl, upd_same, .cons (.ty _) (.cons (.ty _) .nil), qd'.ty, ?_, (acc_of h3 t1).new s1 hp (.bl _)⟩
  refine kitAny_cons (kit_ty (kitB_is T d)) (fun hb => ?_) fun hb => by rw [hb]; rfl
  rw [hb, Bool.false_or]
  refine kitAny_cons (kit_ty (kitB_is U d)) (fun hb2 => ?_) fun hb2 => by rw [hb2]
  rw [hb2]; exact kitAny_nil
end

/-! ### defs -/
def spM (wd : World) (K : PySem.W.Frag) (mg : Str → Option Value) (n : Nat) (m : List Vl → M Vl) : Sp := fun vs H Q E => vs.length = n ∧ ∃ r S ws o S', StoRel wd K r H S ∧ RwAll K mg r H vs ws ∧ m ws S = some (o, S') ∧ match o with
  | .ok w => ∀ v H', Ext false r r H H' → StoRel wd K r H' S' → Rw K mg r H' v w → Q v H'
  | .error x => ∃ C, mg x = some (.ref C) ∧ ∀ H', Ext false r r H H' → StoRel wd K r H' S' → E (.ref C) none H'
/-- at x stands a def of n parameters that is read as m, at level k -/
def Has (P : Program) (w : World) (K : PySem.W.Frag) (mg : Str → Option Value) (base : Heap) (k : Nat) (x : Str) (n : Nat) (m : List Vl → M Vl) : Prop :=
  ∃ f fd ps, mg x = some (.ref f) ∧ PySem.W.keepIn K (.ref f) = true ∧ Binds K fd ps [] ∧ FnOk P w K mg base (L2.CX P w) k f fd ps (spM w K mg n m)
abbrev HasX (X : Cx) (k : Nat) (x : Str) (n : Nat) (m : List Vl → M Vl) : Prop := Has X.prog X.w X.K X.mg X.base k x n m
def fDef (n : Nat) (m : List Vl → M Vl) (fs : Ev → M (List Vl)) : Ev → M Vl := fun ev => do
  let ws ← fs ev
  if ws.length = n then m ws else M.fail
section
variable {X : Cx} {c : Cf} {W : WX} {e : Expr} {es : List Expr} {f : Ev → M Vl} {fs : Ev → M (List Vl)}
theorem Has.mono {P : Program} {w : World} {K : PySem.W.Frag} {mg : Str → Option Value} {base : Heap} {k j n : Nat} {x : Str} {m : List Vl → M Vl} (h : Has P w K mg base k x n m) (hj : k ≤ j) : Has P w K mg base j x n m := by
  obtain ⟨f, fd, ps, h1, h2, h3, h4⟩ := h
  exact ⟨f, fd, ps, h1, h2, h3, h4.mono hj⟩
theorem sp_of {r : Lv} {σ : L2.St} {H : Hp} {S : Sto} {n : Nat} {m : List Vl → M Vl} {vs : List V} {ws : List Vl} {Q : VK} (h : tRun X c W (Rw X.K X.mg) r σ H S (m ws) Q) (s : StoRel X.w X.K r H S) (t : Tabs c.T H) (q : RwAll X.K X.mg r H vs ws) (hn : ws.length = n) : spM X.w X.K X.mg n m vs H Q (WE W σ) := by
  obtain ⟨o, S', e, h⟩ := h
  refine ⟨by rw [q.length]; exact hn, r, S, ws, o, S', s, q, e, ?_⟩
  cases o with
  | ok w => exact fun v H' E s' q' => h r v H' E.up s' (tabs_ext E t) q'
  | error x =>
    obtain ⟨C, hC, h⟩ := h
    exact ⟨C, hC, fun H' E s' => h r H' E.up s' (tabs_ext E t)⟩
theorem qe_call {x : Str} {k n : Nat} {m : List Vl → M Vl} {p pos : Pos} (F : HasX X k x n m) (hr : Room k X.A) (tk : Takes X W) (hg : Gl X x) (ha : QA X c W (e :: es) fs) (hdb : (x == ("__debug__" : Str)) = false := by decide)
    (he : starEach (e :: es) X.env = (false, eval e X.env) :: starEach es X.env := by rfl) (hpl : (backTo pos (starEach es X.env)).any (·.1) = false := by rfl) : QE X c W (.Call (.Name x p) (e :: es) [] pos) (fDef n m fs) := by
  obtain ⟨f, fd, ps, h1, h2, h3, h4⟩ := F
  refine pe_weak (pe_callS h4 hr hg h1 h2 h3 (fun σ => passAt tk σ) ha hdb he hpl) fun σ H Q h => ?_
  obtain ⟨r, ev, S, x, h⟩ := h
  refine tX.of x h.bind fun vs H1 ⟨r1, S1, ws, e1, s1, t1, q1, h1⟩ => ?_
  split at h1
  · rename_i hn
    exact sp_of h1 s1 t1 q1 hn
  · exact (fail_run h1).elim
end

/-! ### slices -/
def cutD (xs : List PyData) (lo hi : Option Int) : List PyData := (xs.drop (HT.sIx xs.length 0 lo)).take (HT.sIx xs.length xs.length hi - HT.sIx xs.length 0 lo)
def slP (lo hi : Option Int) : PyData → Option PyData
  | .list xs => some (.list (cutD xs lo hi))
  | .tuple xs => some (.tuple (cutD xs lo hi))
  | _ => none
def oI (f : Ev → M Vl) : Ev → M (Option Int) := fun ev => do
  match ← f ev with
  | .d (.int i) => pure (some i)
  | _ => M.fail
def oN : Ev → M (Option Int) := fun _ => pure none
def fSl (f : Ev → M Vl) (lo hi : Ev → M (Option Int)) : Ev → M Vl := fun ev => do
  let x ← f ev
  let l ← lo ev
  let u ← hi ev
  let a ← rd x
  let z ← M.lift (slP l u a)
  pure (.d z)
def Ro : Lv → Hp → Option Int → Option Int → Prop := fun _ _ b a => b = a
def QO (X : Cx) (c : Cf) (W : WX) (o : Option Expr) (f : Ev → M (Option Int)) : Prop := PO X o (tX X c W Ro f)
section
variable {X : Cx} {c : Cf} {W : WX} {e : Expr} {f : Ev → M Vl}
theorem po_weak {X : Cx} {o : Option Expr} {t t' : TO} (h : PO X o t) (k : ∀ σ H Q, t' σ H Q → t σ H Q) : PO X o t' := by
  obtain ⟨h⟩ := h
  exact ⟨fun pins s σ H Q I q => h pins s σ H Q I (k _ _ _ q)⟩
theorem qo_none : QO X c W none oN := po_weak po_none fun σ H Q h => by
  obtain ⟨r, ev, S, x, h⟩ := h
  exact h.pure rfl x.sto x.tabs rfl
theorem qo_some (h : QE X c W e f) : QO X c W (some e) (oI f) := po_weak (po_some h) fun σ H Q h => by
  obtain ⟨r, ev, S, x, h⟩ := h
  refine tX.of x h.bind fun v H1 ⟨r1, S1, w, e1, s1, t1, q1, h1⟩ => ?_
  try dsimp only at h1
  split at h1
  · cases q1
    exact ⟨_, rfl, h1.pure rfl s1 t1 rfl⟩
  · exact (fail_run h1).elim
def rSlR (K : PySem.W.Frag) : V → Option Int → Option Int → Hp → VK → Prop := fun x l u H Q => rSlA K x l u H Q ∨ rSlL K x l u H Q
theorem RpAll.cut {K : PySem.W.Frag} {r : Lv} {H : Hp} {vs : List V} {ds : List PyData} (h : RpAll K r H vs ds) (lo hi : Option Int) : RpAll K r H (cutV vs lo hi) (cutD ds lo hi) := by
  unfold cutV cutD
  rw [h.length]
  exact (h.drop _).take _
theorem qe_slice {lo hi : Option Expr} {fl fh : Ev → M (Option Int)} {pos p2 : Pos} (he : QE X c W e f) (hl : QO X c W lo fl) (hh : QO X c W hi fh) : QE X c W (.Subscript e (.Slice lo hi none p2) pos) (fSl f fl fh) := by
  refine pe_weak (pe_slice (sl_tupA.or sl_list) he hl hh) fun σ H Q h => ?_
  obtain ⟨r, ev, S, x, h⟩ := h
  refine tX.of x h.bind fun v H1 ⟨r1, S1, w, e1, s1, t1, q1, h1⟩ => ?_
  have x1 := x.ext e1 s1 t1
  refine tX.of x1 h1.bind fun l H2 ⟨r2, S2, l', e2, s2, t2, q2, h2⟩ => ?_
  have x2 := x1.ext e2 s2 t2
  refine tX.of x2 h2.bind fun u H3 ⟨r3, S3, u', e3, s3, t3, q3, h3⟩ => ?_
  cases q2; cases q3
  obtain ⟨a, qa, h4⟩ := rd_run h3 s3 ((q1.ext e2).ext e3)
  obtain ⟨z, ez, h5⟩ := lift_run h4
  have A := acc_of h5 t3
  unfold slP at ez
  split at ez
  · cases ez
    obtain ⟨a, vs, rfl, h1, h2⟩ := qa.list
    refine .inr ⟨a, vs, rfl, h1, fun p hp => ?_⟩
    exact A.new s3 hp (.lst (.inl ⟨upd_same, notin_new s3 hp⟩) ((h2.cut _ _).ext (Ext.new (lam := false) s3.mu hp)))
  · cases ez
    obtain ⟨a, vs, rfl, h1, h2⟩ := qa.tup
    refine .inl ⟨a, vs, rfl, h1, fun hw => ?_, fun _ p hp => ?_⟩
    · refine A.here s3 (.tup h1 ?_)
      unfold cutD
      rw [h2.length] at hw
      rw [hw.1, hw.2]
      simpa using h2
    · exact A.new s3 hp (.tup (.inl (.inl upd_same)) ((h2.cut _ _).ext (Ext.new (lam := false) s3.mu hp)))
  · cases ez
end
end DD
/-! part DT -/
set_option Elab.async false
set_option linter.all false
set_option maxRecDepth 100000
set_option maxHeartbeats 4000000
namespace DD
open PySem PySem.Spec PyProof.Rows L2 LamX

inductive Fl where
  | nx | bk | ct | rt (w : Vl) | ex (x : Str)
abbrev SM := Ev → Sto → Option (Fl × Ev × Sto)
def endP (X : Cx) (c : Cf) (W : WX) (r : Lv) (H : Hp) (D : Ends) (ev : Ev) (S : Sto) : Fl → Prop
  | .nx => ∀ r' σ' H', Ext c.lam r r' H H' → Rel X c r' σ' H' ev S → D.nx σ' H'
  | .bk => ∀ r' σ' H', Ext c.lam r r' H H' → Rel X c r' σ' H' ev S → D.bk σ' H'
  | .ct => ∀ r' σ' H', Ext c.lam r r' H H' → Rel X c r' σ' H' ev S → D.ct σ' H'
  | .rt w => ∀ r' v H', Ext c.lam r r' H H' → StoRel X.w X.K r' H' S → Tabs c.T H' → Rw X.K X.mg r' H' v w → D.rt v H'
  | .ex x => ∃ C, X.mg x = some (.ref C) ∧ ∀ r' σ' H', Ext c.lam r r' H H' → Rel X c r' σ' H' ev S → W (.ref C) none σ' H'
/-- from (r, σ, H, ev, S) -/
def sRun (X : Cx) (c : Cf) (W : WX) (r : Lv) (H : Hp) (D : Ends) (o : Option (Fl × Ev × Sto)) : Prop := ∃ fl ev' S', o = some (fl, ev', S') ∧ endP X c W r H D ev' S' fl
def tS (X : Cx) (c : Cf) (W : WX) (f : SM) : TS := fun D σ H => ∃ r ev S, Rel X c r σ H ev S ∧ sRun X c W r H D (f ev S)
def QS (X : Cx) (c : Cf) (W : WX) (st : Stmt) (f : SM) : Prop := PS X st (tS X c W f)
def QSs (X : Cx) (c : Cf) (W : WX) (st : List Stmt) (f : SM) : Prop := PSs X st (tS X c W f)
theorem ps_weak {X : Cx} {st : Stmt} {t t' : TS} (h : PS X st t) (k : ∀ D σ H, t' D σ H → t D σ H) : PS X st t' := ⟨fun pins s σ H D I q => h.run pins s σ H D I (k _ _ _ q)⟩
theorem pss_weak {X : Cx} {st : List Stmt} {t t' : TS} (h : PSs X st t) (k : ∀ D σ H, t' D σ H → t D σ H) : PSs X st t' := ⟨fun pins s σ H D I q => h.run pins s σ H D I (k _ _ _ q)⟩
section
variable {X : Cx} {c : Cf} {W : WX} {r r1 r2 : Lv} {σ : L2.St} {H H1 H2 : Hp} {S S1 : Sto} {ev : Ev} {D : Ends}
theorem endP.ext {fl : Fl} (e : Ext c.lam r r1 H H1) (h : endP X c W r H D ev S fl) : endP X c W r1 H1 D ev S fl := by
  cases fl with
  | nx => exact fun r' σ' H' e' x => h r' σ' H' (e.trans e') x
  | bk => exact fun r' σ' H' e' x => h r' σ' H' (e.trans e') x
  | ct => exact fun r' σ' H' e' x => h r' σ' H' (e.trans e') x
  | rt w => exact fun r' v H' e' s t q => h r' v H' (e.trans e') s t q
  | ex x =>
    obtain ⟨C, hC, h⟩ := h
    exact ⟨C, hC, fun r' σ' H' e' x => h r' σ' H' (e.trans e') x⟩
theorem sRun.ext {o : Option (Fl × Ev × Sto)} (e : Ext c.lam r r1 H H1) (h : sRun X c W r H D o) : sRun X c W r1 H1 D o := by
  obtain ⟨fl, ev', S', e1, h⟩ := h
  exact ⟨fl, ev', S', e1, h.ext e⟩
/-- an expression first: what it gives, then the rest; what it raises leaves -/
def onE {α : Type} (m : M α) (ev : Ev) (k : α → Sto → Option (Fl × Ev × Sto)) (S : Sto) : Option (Fl × Ev × Sto) := match m S with
  | none => none
  | some (.error x, S') => some (.ex x, ev, S')
  | some (.ok a, S') => k a S'
theorem sRun.onE {α β : Type} {R : Lv → Hp → β → α → Prop} {m : M α} {k : α → Sto → Option (Fl × Ev × Sto)} (x : Rel X c r σ H ev S) (h : sRun X c W r H D (onE m ev k S)) :
    tRun X c W R r σ H S m (fun b H1 => ∃ r1 S1 a, Ext c.lam r r1 H H1 ∧ Rel X c r1 σ H1 ev S1 ∧ R r1 H1 b a ∧ sRun X c W r1 H1 D (k a S1)) := by
  obtain ⟨fl, ev', S', e, h⟩ := h
  unfold DD.onE at e
  cases q : m S with
  | none => rw [q] at e; cases e
  | some p =>
    obtain ⟨o, S1⟩ := p
    rw [q] at e
    cases o with
    | error y =>
      cases e
      obtain ⟨C, hC, h⟩ := h
      exact ⟨.error y, _, q, C, hC, fun r' H' e s t => h r' σ H' e (x.ext e s t)⟩
    | ok a =>
      exact ⟨.ok a, S1, q, fun r' b H' e1 s1 t1 q1 => ⟨r', S1, a, e1, x.ext e1 s1 t1, q1, fl, ev', S', e, h.ext e1⟩⟩
theorem sRun.nx (h : sRun X c W r H D (some (.nx, ev, S))) (x : Rel X c r σ H ev S) : D.nx σ H := by
  obtain ⟨fl, ev', S', e, h⟩ := h
  cases e
  exact h r σ H x.sto.refl x
/-! the statements -/
def sPass : SM := fun ev S => some (.nx, ev, S)
def sBreak : SM := fun ev S => some (.bk, ev, S)
def sCont : SM := fun ev S => some (.ct, ev, S)
def sSeq (f g : SM) : SM := fun ev S => match f ev S with
  | some (.nx, ev', S') => g ev' S'
  | o => o
def sExpr (f : Ev → M Vl) : SM := fun ev => onE (f ev) ev fun _ S => some (.nx, ev, S)
def sRet (f : Ev → M Vl) : SM := fun ev => onE (f ev) ev fun w S => some (.rt w, ev, S)
def sRetN : SM := fun ev S => some (.rt (.d .none), ev, S)
def sIf (t : Ev → M Bool) (f g : SM) : SM := fun ev => onE (t ev) ev fun b S => if b then f ev S else g ev S
def sSet (i : Nat) (f : Ev → M Vl) : SM := fun ev => onE (f ev) ev fun w S => some (.nx, ev.set i (some w), S)
def sRaise (x : Str) : SM := fun ev S => some (.ex x, ev, S)
variable {st : Stmt} {rest sts sts2 : List Stmt} {f g : SM} {fe ge : Ev → M Vl} {e a b : Expr} {pos : Pos} {t : Ev → M Bool}
theorem qss_nil : QSs X c W [] sPass := pss_weak pss_nil fun D σ H ⟨r, ev, S, x, h⟩ => h.nx x
theorem seq_weak {D : Ends} {σ : L2.St} {H : Hp} (h : tS X c W (sSeq f g) D σ H) : tSeq (tS X c W f) (tS X c W g) D σ H := by
  obtain ⟨r, ev, S, x, fl, ev', S', e, h⟩ := h
  unfold sSeq at e
  cases q : f ev S with
  | none => rw [q] at e; cases e
  | some p =>
    obtain ⟨fl1, ev1, S1⟩ := p
    rw [q] at e
    refine ⟨r, ev, S, x, fl1, ev1, S1, q, ?_⟩
    cases fl1 with
    | nx => exact fun r' σ' H' e1 x1 => ⟨r', ev1, S1, x1, fl, ev', S', e, h.ext e1⟩
    | bk => cases e; exact h
    | ct => cases e; exact h
    | rt w => cases e; exact h
    | ex y => cases e; exact h
theorem qss_cons (h1 : QS X c W st f) (h2 : QSs X c W rest g) : QSs X c W (st :: rest) (sSeq f g) := pss_weak (pss_cons h1 h2) fun D σ H h => seq_weak h
theorem qss_one (h1 : QS X c W st f) : QSs X c W [st] f := pss_weak (pss_one h1) fun D σ H h => h
theorem qs_pass : QS X c W (.Pass pos) sPass := ps_weak ps_pass fun D σ H ⟨r, ev, S, x, h⟩ => h.nx x
theorem qs_break : QS X c W (.Break pos) sBreak := ps_weak ps_break fun D σ H ⟨r, ev, S, x, fl, ev', S', e, h⟩ => by
  cases e
  exact h r σ H x.sto.refl x
theorem qs_continue : QS X c W (.Continue pos) sCont := ps_weak ps_continue fun D σ H ⟨r, ev, S, x, fl, ev', S', e, h⟩ => by
  cases e
  exact h r σ H x.sto.refl x
theorem qs_expr (he : QE X c W e fe) (hs : swapsWith e none pos.line X.env = pure false := by rfl) : QS X c W (.Expr e pos) (sExpr fe) := ps_weak (ps_expr he hs) fun D σ H ⟨r, ev, S, x, h⟩ =>
  tX.of x (h.onE x) fun v H1 ⟨r1, S1, w, e1, x1, q1, h1⟩ => h1.nx x1
theorem qs_ret (he : QE X c W e fe) : QS X c W (.Return (some e) pos) (sRet fe) := ps_weak (ps_ret he) fun D σ H ⟨r, ev, S, x, h⟩ =>
  tX.of x (h.onE x) fun v H1 ⟨r1, S1, w, e1, x1, q1, fl, ev', S', e', h1⟩ => by
    cases e'
    exact h1 r1 v H1 x1.sto.refl x1.sto x1.tabs q1
theorem qs_retN : QS X c W (.Return none pos) sRetN := ps_weak ps_retN fun D σ H ⟨r, ev, S, x, fl, ev', S', e', h1⟩ => by
  cases e'
  exact h1 r .non H x.sto.refl x.sto x.tabs (show Rp X.K r H .non .none from .non)
theorem qs_if {cc : Expr} (hc : QT X c W cc t) (ha : QSs X c W sts f) (hb : QSs X c W sts2 g) : QS X c W (.If cc sts sts2 pos) (sIf t f g) := ps_weak (ps_if hc ha hb) fun D σ H ⟨r, ev, S, x, h⟩ =>
  tX.of x (h.onE x) fun v H1 ⟨r1, S1, w, e1, x1, q1, h1⟩ => by
    cases q1
    cases v with
    | true => exact ⟨r1, ev, S1, x1, h1⟩
    | false => exact ⟨r1, ev, S1, x1, h1⟩
theorem Rel.set {i : Nat} {x : Str} {v : V} {w : Vl} (q : Rel X c r σ H ev S) (hi : X.N[i]? = some x) (hw : Rw X.K X.mg r H v w) : Rel X c r (σ.set i (some v)) H (ev.set i (some w)) S :=
  ⟨q.sto, q.tabs, q.ev.set hw (by rw [q.len]; exact (List.getElem?_eq_some_iff.mp hi).1), by rw [List.length_set]; exact q.len⟩
theorem qs_set (i : Nat) {x : Str} {pos' : Pos} (hN : X.N.Nodup) (he : QE X c W e fe) (hi : X.N[i]? = some x := by rfl) (hx : Loc X.env.scope x := by first | exact Or.inl rfl | exact Or.inr rfl)
    (hs : swapsWith e (some (.Name x pos')) pos.line X.env = pure false := by rfl) (hf : X.fn x = true ∨ X.env.scope.names.lookup x = some .local := by first | exact .inl rfl | exact .inr rfl | assumption) :
    QS X c W (.Assign [.Name x pos'] e pos) (sSet i fe) := ps_weak (ps_set hN hi hx he hs hf) fun D σ H ⟨r, ev, S, x', h⟩ =>
  tX.of x' (h.onE x') fun v H1 ⟨r1, S1, w, e1, x1, q1, h1⟩ => h1.nx (x1.set hi q1)
/-- X(), X an own exception class without own __init__ -/
theorem pmk_own0 {C : Addr} {bmB : List Value} {B newId initId : String} {x : Str} {p : Pos} (F : ExcBaseFacts B newId initId bmB) (q : PySem.W.excIn X.K C bmB newId = true) (gC : X.mg x = some (.ref C))
    (kC : PySem.W.keepIn X.K (.ref C) = true) (r : Raises X (.ref C)) (hg : Gl X x) (hdb : (x == ("__debug__" : Str)) = false := by decide) :
    PMk X (.Call (.Name x p) [] [] pos) (fun σ H Q => Q (.ref C) none H) := by
  intro pins s σ H Q I h
  refine wpAny_Call_Name_kw (ld_glob I hg gC ?_ hdb)
  refine PySem.W.callWith_K0 I.kIn kC ?_
  show wpAny _ _ (call (.ref C) []) _ _ _
  obtain ⟨bm, N, nm, qn, bs, hdct, sn, sub, ab, col, dd, k0, k1, k2, k3, k5, mN, hC, hN, hni, T⟩ := exc_obj I.kIn q
  refine wpAny_call_exc_subT F T hC hN hni (fun h' e hm => ?_) (by show 0 ≤ sizeLine; omega)
  exact mk_of I hm r h (I.hok.gone hm.new)
/-- an own error class without __init__, over ValueError -/
structure Exo (K : PySem.W.Frag) (mg : Str → Option Value) (x : Str) : Prop where
  ex : ∃ C, mg x = some (.ref C) ∧ PySem.W.excIn K C [.type "ValueError", .type "Exception", .type "BaseException", .type "object"] "ValueError.__new__" = true ∧ PySem.W.keepIn K (.ref C) = true ∧ PySem.W.subIn K (.ref C) (.type "BaseException") = some true ∧ PySem.W.typeIn K (.ref C) = some (.type "type")
theorem qs_raise {x : Str} {p p2 : Pos} (hc : X.calm = true) (tk : Takes X W) (E : Exo X.K X.mg x) (hg : Gl X x) (hdb : (x == ("__debug__" : Str)) = false := by decide) : QS X c W (.Raise (some (.Call (.Name x p) [] [] p2)) none pos) (sRaise x) := by
  obtain ⟨C, gC, xC, kC, sC, tC⟩ := E.ex
  refine ps_weak (ps_raise hc tk (pmk_own0 PySem.F.excBase_ValueError xC gC kC (raises_own sC tC) hg hdb)) fun D σ H ⟨r, ev, S, x', fl, ev', S', e', h1⟩ => ?_
  cases e'
  obtain ⟨C', gC', h⟩ := h1
  rw [gC] at gC'
  cases gC'
  exact h r σ H x'.sto.refl x'
end
end DD
/-! part DU -/
set_option Elab.async false
set_option linter.all false
set_option maxRecDepth 100000
set_option maxHeartbeats 4000000
namespace DD
open PySem PySem.Spec PyProof.Rows L2 LamX

/-! ### mutable lists -/
/-- a mutable list's place -/
def mutAt : Vl → M (Nat × List PyData)
  | .m n => fun S => match S[n]? with
    | some (.l xs) => some (.ok (n, xs), S)
    | _ => none
  | _ => M.fail
def putAt (n : Nat) (xs : List PyData) : M Vl := fun S => some (.ok (.d .none), S.set n (.l xs))
def datOf : Vl → Option PyData
  | .d x => some x
  | _ => none
def intOf : Vl → Option Int
  | .d (.int i) => some i
  | _ => none
section
variable {α β : Type} {X : Cx} {c : Cf} {W : WX} {r r1 r2 : Lv} {σ : L2.St} {H H1 H2 : Hp} {S S1 : Sto} {ev : Ev} {D : Ends} {fe ge he : Ev → M Vl} {e a b o i : Expr} {es : List Expr} {pos tpos : Pos}
theorem mutAt_run {R : Lv → Hp → β → α → Prop} {g : Nat × List PyData → M α} {w : Vl} {v : V} {Q : β → Hp → Prop} (h : tRun X c W R r σ H S (mutAt w >>= g) Q) (s : StoRel X.w X.K r H S) (q : Rw X.K X.mg r H v w) :
    ∃ n a xs vs, r.st[n]? = some a ∧ v = .ref a ∧ S[n]? = some (.l xs) ∧ H a = some (.lst vs) ∧ RpAll X.K r H vs xs ∧ w = .m n ∧ tRun X c W R r σ H S (g (n, xs)) Q := by
  cases w with
  | d x => obtain ⟨_, _, e, _⟩ := h; cases e
  | f x => obtain ⟨_, _, e, _⟩ := h; cases e
  | r lo hi => obtain ⟨_, _, e, _⟩ := h; cases e
  | m n =>
    obtain ⟨a, h1, rfl⟩ := q
    obtain ⟨o, S', e, h⟩ := h
    rw [M.bind_run] at e
    have e2 : mutAt (.m n) S = match S[n]? with
      | some (.l xs) => some (.ok (n, xs), S)
      | _ => none := rfl
    cases q : S[n]? with
    | none => rw [e2, q] at e; cases e
    | some u =>
      cases u with
      | l xs =>
        rw [e2, q] at e
        obtain ⟨vs, h2, h3⟩ := s.at_ n a xs h1 q
        exact ⟨n, a, xs, vs, h1, rfl, q, h2, h3, rfl, o, S', e, h⟩
      | k kvs => rw [e2, q] at e; cases e
theorem putAt_run {n : Nat} {a : Addr} {ys : List PyData} {us : List V} {Q : VK} (h : tRun X c W (Rw X.K X.mg) r σ H S (putAt n ys) Q) (s : StoRel X.w X.K r H S) (t : Tabs c.T H) (hr : r.st[n]? = some a) (q : RpAll X.K r H us ys) : Q .non (upd H a (.lst us)) := by
  obtain ⟨o, S', e, h⟩ := h
  cases e
  have E : Ext false r r H (upd H a (.lst us)) := Ext.put s.mu (List.mem_of_getElem? hr)
  exact h r .non _ E.up (s.put hr q) (tabs_ext E t) (show Rp X.K _ _ _ _ from .non)
theorem datOf_ok {w : Vl} {v : V} {d : PyData} {K : PySem.W.Frag} {mg : Str → Option Value} (q : Rw K mg r H v w) (h : datOf w = some d) : Rp K r H v d := by
  cases w with
  | d x => cases h; exact q
  | m n => cases h
  | f n => cases h
  | r lo hi => cases h
theorem intOf_ok {w : Vl} {v : V} {d : Int} {K : PySem.W.Frag} {mg : Str → Option Value} (q : Rw K mg r H v w) (h : intOf w = some d) : v = .int d := by
  cases w with
  | d x =>
    cases x <;> simp only [intOf] at h <;> try cases h
    cases q; rfl
  | m n => cases h
  | f n => cases h
  | r lo hi => cases h
theorem two_run {R : Lv → Hp → β → α → Prop} {γ : Type} {m : M γ} {g : γ → M α} {o : Except Str γ} {Q : β → Hp → Prop} (h : tRun X c W R r σ H S (m >>= g) Q) {a : γ} (e : m S = some (.ok a, S)) : tRun X c W R r σ H S (g a) Q := by
  obtain ⟨o, S', e', h⟩ := h
  rw [M.bind_run, e] at e'
  exact ⟨o, S', e', h⟩
/-- o.append(e) -/
def fAppend (fo fe : Ev → M Vl) : Ev → M Vl := fun ev => do
  let x ← fo ev
  let _ ← mutAt x
  let y ← fe ev
  let d ← M.lift (datOf y)
  let p ← mutAt x
  if p.2.length < 1000000 then putAt p.1 (p.2 ++ [d]) else M.fail
theorem qe_append {apos cpos : Pos} (ho : QE X c W o fe) (ha : QE X c W e ge)
    (hbase : attributeBase o "append" X.env (eval o X.env) = eval o X.env := by rfl)
    (hfew : ((backTo cpos (starEach [e] X.env)).all (fun x => !x.1) && (backToKw cpos (keywordEach [] X.env)).all (fun x => x.1.isSome)
      && decide (([e] : List Expr).length + ([] : List Keyword).length + (if ([] : List Keyword).isEmpty then 0 else 1) < 30)) = true := by rfl)
    (hline : (apos.endLine == cpos.line) = true := by rfl) (hs : starEach [e] X.env = (false, eval e X.env) :: starEach [] X.env := by rfl) (hplain : (backTo cpos (starEach [] X.env)).any (·.1) = false := by rfl) :
    QE X c W (.Call (.Attribute o "append" apos) [e] [] cpos) (fAppend fe ge) := by
  have hh := pe_bm (X := X) (cpos := cpos) (apos := apos) PySem.F.plainAttrs_list PySem.F.slot_list_append PySem.F.type_list_append mt_append ho (pa_cons ha pa_nil hs) hbase hfew hline hs hplain
  refine pe_weak hh fun σ H Q h => ?_
  obtain ⟨r, ev, S, x, h⟩ := h
  refine tX.of x h.bind fun v H1 ⟨r1, S1, w, e1, s1, t1, q1, h1⟩ => ?_
  have x1 := x.ext e1 s1 t1
  obtain ⟨n0, a0, xs0, vs0, hr0, rfl, hs0, hH0, hq0, rfl, h1⟩ := mutAt_run h1 s1 q1
  refine ⟨.inl ⟨rfl, _, .inl (.inl hH0)⟩, ?_⟩
  refine tX.of x1 h1.bind fun u H2 ⟨r2, S2, y, e2, s2, t2, q2, h2⟩ => ?_
  obtain ⟨d, ed, h3⟩ := lift_run h2
  obtain ⟨n, a, xs, vs, ra, ev2, sn, ha, hr, _, h4⟩ := mutAt_run h3 s2 (q1.ext e2)
  cases ev2
  dsimp only at h4
  split at h4
  · rename_i hz
    refine ⟨a0, vs, u, rfl, rfl, ha, by rw [hr.length, sizeLine_eq]; omega, ?_⟩
    exact putAt_run h4 s2 t2 ra (hr.append (.cons (datOf_ok q2 ed) .nil))
  · exact (fail_run h4).elim
/-- o[i] = e: e, o, i in this sequence -/
def fPut (fe fo fi : Ev → M Vl) : Ev → M Vl := fun ev => do
  let y ← fe ev
  let d ← M.lift (datOf y)
  let x ← fo ev
  let k ← fi ev
  let k ← M.lift (intOf k)
  let p ← mutAt x
  let j ← M.lift (ixN p.2.length k)
  putAt p.1 (p.2.set j d)
theorem qs_put {tpos : Pos} (hv : QE X c W e fe) (ho : QE X c W o ge) (hi : QE X c W i he)
    (ha : ∀ v, assign (.Subscript o i tpos) X.env v = (do
      let ov ← holding [v] (eval o X.env)
      let iv ← holding [v, ov] (eval i X.env)
      standAt tpos
      holding [v, ov, iv] (setItem ov iv v)
      release [v, ov, iv] []) := by intro _; rfl)
    (hs : swapsWithSole [.Subscript o i tpos] e pos.line X.env = pure false := by rfl) (hw : swappedStores [.Subscript o i tpos] e X.env = pure none := by rfl)
    (h1 : (assignEach [.Subscript o i tpos] X.env).map (·.2) = [assign (.Subscript o i tpos) X.env] := by rfl) : QS X c W (.Assign [.Subscript o i tpos] e pos) (sExpr (fPut fe ge he)) := by
  refine ps_weak (ps_asg hv (pg_sub ho hi set_list ha) hs hw h1) fun D σ H ⟨r, ev, S, x, h⟩ => ?_
  have h := h.onE (R := Rw X.K X.mg) x
  refine tX.of x h.bind fun v H1 ⟨r1, S1, w, e1, s1, t1, q1, h1⟩ => ?_
  have x1 := x.ext e1 s1 t1
  obtain ⟨d, ed, h2⟩ := lift_run h1
  refine tX.of x1 h2.bind fun ov H2 ⟨r2, S2, y, e2, s2, t2, q2, h3⟩ => ?_
  have x2 := x1.ext e2 s2 t2
  refine tX.of x2 h3.bind fun iv H3 ⟨r3, S3, k, e3, s3, t3, q3, h4⟩ => ?_
  obtain ⟨k', ek, h5⟩ := lift_run h4
  obtain ⟨n, a, xs, vs, ra, ev2, sn, ha, hr, _, h6⟩ := mutAt_run h5 s3 (q2.ext e3)
  obtain ⟨j, ej, h7⟩ := lift_run h6
  subst ev2
  have ek' := intOf_ok q3 ek
  subst ek'
  refine ⟨a, vs, k', j, rfl, rfl, ha, by rw [hr.length]; exact ej, ?_⟩
  have := putAt_run h7 s3 t3 ra (hr.set (datOf_ok ((q1.ext e2).ext e3) ed) j)
  obtain ⟨r', S', w', E, x', _, q'⟩ := this
  exact q'.nx x'
/-- name op= e, ints -/
def ipQ (X : Cx) (op : Operator) (p : PyData → PyData → Option PyData) : Prop := ∃ R, PIp X op R ∧ OpD X R p
theorem q_iadd : ipQ X .Add (fun x y => match x, y with | .int i, .int j => some (.int (i + j)) | _, _ => none) := by
  refine ⟨_, ip_add, fun r H S x y a b z Q s qa qb e A => ?_⟩
  cases a <;> cases b <;> simp only at e <;> try cases e
  cases qa.int; cases qb.int
  exact ⟨_, _, rfl, rfl, A.here s (.int _)⟩
theorem q_isub : ipQ X .Sub (fun x y => match x, y with | .int i, .int j => some (.int (i - j)) | _, _ => none) := by
  refine ⟨_, ip_sub, fun r H S x y a b z Q s qa qb e A => ?_⟩
  cases a <;> cases b <;> simp only at e <;> try cases e
  cases qa.int; cases qb.int
  exact ⟨_, _, rfl, rfl, A.here s (.int _)⟩
theorem qs_aug (k : Nat) {x : Str} {op : Operator} {p : PyData → PyData → Option PyData} {pos' : Pos} (hp : ipQ X op p) (hN : X.N.Nodup) (hv : QE X c W e fe) (hi : X.N[k]? = some x := by rfl) (hx : Loc X.env.scope x := by first | exact Or.inl rfl | exact Or.inr rfl)
    (hf : X.fn x = true ∨ X.env.scope.names.lookup x = some .local := by first | exact .inl rfl | exact .inr rfl | assumption) :
    QS X c W (.AugAssign (.Name x pos') op e pos) (sSet k (fOp p (fVar k) fe)) := by
  obtain ⟨R, h1, h2⟩ := hp
  refine ps_weak (ps_aug hN hi hx hv h1 hf) fun D σ H ⟨r, ev, S, x', h⟩ => ?_
  have h := h.onE (R := Rw X.K X.mg) x'
  have hb := h.bind (R1 := Rw X.K X.mg)
  unfold fVar at hb
  split at hb
  · rename_i w q
    obtain ⟨v, g1, g2⟩ := x'.ev k w q
    refine ⟨v, g1, ?_⟩
    obtain ⟨r1, S1, w1, e1, s1, t1, q1, h3⟩ := hb.pure rfl x'.sto x'.tabs g2
    have x1 := x'.ext e1 s1 t1
    refine tX.of x1 h3.bind fun u H2 ⟨r2, S2, y, e2, s2, t2, q2, h4⟩ => ?_
    obtain ⟨a, qa, h5⟩ := rd_run h4 s2 (q1.ext e2)
    obtain ⟨b, qb, h6⟩ := rd_run h5 s2 q2
    obtain ⟨z, ez, h7⟩ := lift_run h6
    refine h2 r2 H2 S2 v u a b z _ s2 qa qb ez (fun v' H' E s' q' => ?_)
    obtain ⟨r3, S3, w3, e3, x3, q3, h8⟩ := (acc_of h7 t2) v' H' E s' q'
    exact h8.nx (x3.set hi q3)
  · exact (fail_run hb).elim
/-- o[i] op= e -/
def fPutOp (p : PyData → PyData → Option PyData) (fo fi fe : Ev → M Vl) : Ev → M Vl := fun ev => do
  let x ← fo ev
  let k ← fi ev
  let k ← M.lift (intOf k)
  let q ← mutAt x
  let old ← M.lift (if 0 ≤ k then q.2[k.toNat]? else none)
  let y ← fe ev
  let b ← rd y
  let z ← M.lift (p old b)
  let q ← mutAt x
  let j ← M.lift (ixN q.2.length k)
  putAt q.1 (q.2.set j z)
def rGetL (K : PySem.W.Frag) : R2 := fun x y H Q => ∃ p xs i v, x = .ref p ∧ y = .int i ∧ SqL K H p xs ∧ 0 ≤ i ∧ xs[i.toNat]? = some v ∧ Q v H
theorem get_list : PGet X (rGetL X.K) := by
  intro pins s σ H o i ov iv Q I ro ri h
  obtain ⟨p, xs, k, v, rfl, rfl, hq, h0, e, q⟩ := h
  cases ro
  obtain ⟨t, rfl⟩ := ri
  obtain ⟨its, r, pl, hz⟩ := I.list hq
  obtain ⟨u, hu, ru⟩ := r.get e
  have hl := (List.getElem?_eq_some_iff.mp e).1
  have hn := line63
  exact wpAny_getItem_list pl.isList h0 (by omega) (by simpa using hu) ⟨v, H, I, ru, q⟩
/-- an operation in place of ints: its answer is an int -/
theorem qs_putop {op : Operator} {p : Int → Int → Int} (hp : PIp X op (ipI p)) (ho : QE X c W o fe) (hi : QE X c W i ge) (hv : QE X c W e he)
    (ha : ∀ ov iv new, augStore i ov iv new = (do holding [new, ov, iv] (setItem ov iv new); release [new, ov, iv] []; pure .next) := by intros; rfl) :
    QS X c W (.AugAssign (.Subscript o i tpos) op e pos) (sExpr (fPutOp (fun x y => match x, y with | .int i, .int j => some (.int (p i j)) | _, _ => none) fe ge he)) := by
  refine ps_weak (ps_augS ho hi get_list hv hp set_list ha) fun D σ H ⟨r, ev, S, x, h⟩ => ?_
  have h := h.onE (R := Rw X.K X.mg) x
  refine tX.of x h.bind fun ov H1 ⟨r1, S1, w, e1, s1, t1, q1, h1⟩ => ?_
  have x1 := x.ext e1 s1 t1
  refine tX.of x1 h1.bind fun iv H2 ⟨r2, S2, k, e2, s2, t2, q2, h2⟩ => ?_
  have x2 := x1.ext e2 s2 t2
  obtain ⟨k', ek, h3⟩ := lift_run h2
  have ek' := intOf_ok q2 ek
  subst ek'
  obtain ⟨n0, a0, xs0, vs0, hr0, rfl, hs0, hH0, hq0, rfl, h4⟩ := mutAt_run h3 s2 (q1.ext e2)
  obtain ⟨old, eo, h5⟩ := lift_run h4
  split at eo
  · rename_i h0
    obtain ⟨vo, ev1, qo⟩ := hq0.get eo
    refine ⟨a0, vs0, k', vo, rfl, rfl, .inl (.inl hH0), h0, ev1, ?_⟩
    refine tX.of x2 h5.bind fun y H3 ⟨r3, S3, w3, e3, s3, t3, q3, h6⟩ => ?_
    obtain ⟨b, qb, h7⟩ := rd_run h6 s3 q3
    obtain ⟨z, ez, h8⟩ := lift_run h7
    obtain ⟨n, a, xs, vs, ra, ev2, sn, ha, hr, _, h9⟩ := mutAt_run h8 s3 ((q1.ext e2).ext e3)
    obtain ⟨j, ej, h10⟩ := lift_run h9
    cases ev2
    cases old <;> cases b <;> simp only at ez <;> try cases ez
    have q0 := qo.ext e3
    cases q0
    cases qb.int
    refine ⟨_, _, rfl, rfl, a0, vs, k', j, rfl, rfl, ha, by rw [hr.length]; exact ej, ?_⟩
    have := putAt_run h10 s3 t3 ra (hr.set (Rp.int _) j)
    obtain ⟨r', S', w', E, x', _, q'⟩ := this
    exact q'.nx x'
  · cases eo
end
end DD
/-! part DV -/
set_option Elab.async false
set_option linter.all false
set_option maxRecDepth 100000
set_option maxHeartbeats 4000000
namespace DD
open PySem PySem.Spec PyProof.Rows L2 LamX

/-! ### targets -/
def SameBut (is : List Nat) (σ σ' : L2.St) : Prop := σ'.length = σ.length ∧ ∀ j, j ∉ is → σ'[j]? = σ[j]?
theorem SameBut.refl (is : List Nat) (σ : L2.St) : SameBut is σ σ := ⟨rfl, fun _ _ => rfl⟩
theorem SameBut.trans {is js : List Nat} {σ σ1 σ2 : L2.St} (a : SameBut is σ σ1) (b : SameBut js σ1 σ2) : SameBut (is ++ js) σ σ2 :=
  ⟨b.1.trans a.1, fun j hj => (b.2 j fun h => hj (List.mem_append_right _ h)).trans (a.2 j fun h => hj (List.mem_append_left _ h))⟩
theorem SameBut.set (i : Nat) (σ : L2.St) (v : Option V) : SameBut [i] σ (σ.set i v) := ⟨List.length_set, fun j hj => List.getElem?_set_ne (fun e => hj (by simp [e]))⟩
theorem wipe_at {σ : L2.St} {j : Nat} : ∀ {vs : List Nat}, j ∈ vs → (wipe σ vs)[j]? = if j < σ.length then some none else none
  | [], h => by cases h
  | v :: vs, h => by
    unfold wipe
    by_cases e : v = j
    · subst e
      by_cases hl : v < σ.length
      · rw [List.getElem?_set_self (by rw [wipe_length]; exact hl), if_pos hl]
      · rw [List.getElem?_eq_none (by rw [List.length_set, wipe_length]; omega), if_neg hl]
    · rw [List.getElem?_set_ne e]
      exact wipe_at ((List.mem_cons.mp h).resolve_left (Ne.symm e))
theorem wipe_eq {σ σ' : L2.St} {is vs : List Nat} (h : SameBut is σ σ') (hs : ∀ i ∈ is, i ∈ vs) : wipe σ' vs = wipe σ vs := by
  refine List.ext_getElem? fun j => ?_
  by_cases hj : j ∈ vs
  · rw [wipe_at hj, wipe_at hj, h.1]
  · rw [wipe_out hj, wipe_out hj]
    exact h.2 j fun z => hj (hs j z)
theorem wipe_wipe (σ : L2.St) (vs : List Nat) : wipe (wipe σ vs) vs = wipe σ vs := by
  refine List.ext_getElem? fun j => ?_
  by_cases hj : j ∈ vs
  · rw [wipe_at hj, wipe_at hj, wipe_length]
  · rw [wipe_out hj]
def wipeE (ev : Ev) : List Nat → Ev
  | [] => ev
  | v :: vs => (wipeE ev vs).set v none
theorem wipeE_some {ev : Ev} {i : Nat} {x : Vl} : ∀ {vs : List Nat}, (wipeE ev vs)[i]? = some (some x) → ev[i]? = some (some x) ∧ i ∉ vs
  | [], h => ⟨h, by simp⟩
  | v :: vs, h => by
    unfold wipeE at h
    by_cases hi : v = i
    · subst hi
      by_cases hv : v < (wipeE ev vs).length
      · rw [List.getElem?_set_self hv] at h; cases h
      · rw [List.getElem?_eq_none (by simpa using hv)] at h; cases h
    · rw [List.getElem?_set_ne hi] at h
      obtain ⟨h1, h2⟩ := wipeE_some h
      exact ⟨h1, by simp only [List.mem_cons, not_or]; exact ⟨fun e => hi e.symm, h2⟩⟩
theorem EvR.wipe {K : PySem.W.Frag} {mg : Str → Option Value} {r : Lv} {σ : L2.St} {H : Hp} {ev : Ev} (h : EvR K mg r σ H ev) (vs : List Nat) : EvR K mg r (L2.wipe σ vs) H (wipeE ev vs) := fun i w q => by
  obtain ⟨h1, h2⟩ := wipeE_some q
  obtain ⟨v, h3, h4⟩ := h i w h1
  exact ⟨v, by rw [wipe_out h2]; exact h3, h4⟩
def tG (X : Cx) (c : Cf) (g : Vl → Ev → Option Ev) (is : List Nat) : TG := fun v σ H Q => ∃ r ev S w ev', Rel X c r σ H ev S ∧ Rw X.K X.mg r H v w ∧ g w ev = some ev' ∧ ∀ σ', Rel X c r σ' H ev' S → SameBut is σ σ' → Q σ' H
def tGs (X : Cx) (c : Cf) (g : List PyData → Ev → Option Ev) (is : List Nat) : TGs := fun vs σ H Q => ∃ r ev S ds ev', Rel X c r σ H ev S ∧ RpAll X.K r H vs ds ∧ g ds ev = some ev' ∧ ∀ σ', Rel X c r σ' H ev' S → SameBut is σ σ' → Q σ' H
def QG (X : Cx) (c : Cf) (t : Expr) (g : Vl → Ev → Option Ev) (is : List Nat) : Prop := PG X t (tG X c g is)
def QGs (X : Cx) (c : Cf) (t : List Expr) (g : List PyData → Ev → Option Ev) (is : List Nat) : Prop := PGs X t (tGs X c g is)
def gN (i : Nat) : Vl → Ev → Option Ev := fun w ev => some (ev.set i (some w))
def gsNil : List PyData → Ev → Option Ev := fun ds ev => match ds with
  | [] => some ev
  | _ => none
def gsCons (g : Vl → Ev → Option Ev) (gs : List PyData → Ev → Option Ev) : List PyData → Ev → Option Ev := fun ds ev => match ds with
  | [] => none
  | d :: ds => match g (.d d) ev with
    | some ev' => gs ds ev'
    | none => none
def gT (n : Nat) (gs : List PyData → Ev → Option Ev) : Vl → Ev → Option Ev := fun w ev => match w with
  | .d (.tuple ds) => if ds.length = n then gs ds ev else none
  | _ => none
section
variable {X : Cx} {c : Cf} {W : WX} {e : Expr} {es : List Expr} {pos : Pos} {g : Vl → Ev → Option Ev} {gs : List PyData → Ev → Option Ev} {is js : List Nat} {fe : Ev → M Vl} {fs : Ev → M (List Vl)}
theorem pg_weak {t t' : TG} (h : PG X e t) (k : ∀ v σ H Q, t' v σ H Q → t v σ H Q) : PG X e t' := ⟨fun pins s σ H v u Q I r q => h.run pins s σ H v u Q I r (k _ _ _ _ q)⟩
theorem pgs_weak {t t' : TGs} (h : PGs X es t) (k : ∀ v σ H Q, t' v σ H Q → t v σ H Q) : PGs X es t' := ⟨fun pins s σ H v u Q I r q => h.run pins s σ H v u Q I r (k _ _ _ _ q)⟩
theorem qg_name (i : Nat) {x : Str} (hN : X.N.Nodup) (hi : X.N[i]? = some x := by rfl) (hx : Loc X.env.scope x := by first | exact Or.inl rfl | exact Or.inr rfl)
    (hf : X.fn x = true ∨ X.env.scope.names.lookup x = some .local := by first | exact .inl rfl | exact .inr rfl | assumption) : QG X c (.Name x pos) (gN i) [i] := pg_weak (pg_name hN hi hx hf) fun v σ H Q ⟨r, ev, S, w, ev', x', q, e, h⟩ => by
  cases e
  exact h _ (x'.set hi q) (.set i σ _)
theorem qgs_nil : QGs X c [] gsNil [] := pgs_weak pgs_nil fun v σ H Q ⟨r, ev, S, ds, ev', x', q, e, h⟩ => by
  cases q with
  | nil => cases e; exact ⟨rfl, h _ x' (.refl _ _)⟩
  | cons a b => cases e
theorem qgs_cons (h1 : QG X c e g is) (h2 : QGs X c es gs js) (hs : (assignEach (e :: es) X.env).map (·.2) = assign e X.env :: (assignEach es X.env).map (·.2) := by rfl) : QGs X c (e :: es) (gsCons g gs) (is ++ js) := pgs_weak (pgs_cons h1 h2 hs) fun v σ H Q ⟨r, ev, S, ds, ev', x', q, e, h⟩ => by
  cases q with
  | nil => cases e
  | @cons v vs d ds a b =>
    simp only [gsCons] at e
    split at e
    · rename_i ev1 e1
      exact ⟨v, vs, rfl, r, ev, S, .d d, ev1, x', a, e1, fun σ1 x1 s1 => ⟨r, ev1, S, ds, ev', x1, b, e, fun σ2 x2 s2 => h σ2 x2 (s1.trans s2)⟩⟩
    · cases e
theorem qg_tup {k n : Nat} (hc : X.calm = true) (h : QGs X c es gs is) (hn : (assignEach es X.env).length = n := by rfl) (hst : (assignEach es X.env).findIdx? (·.1) = none := by rfl) : QG X c (.Tuple es k pos) (gT n gs) is := pg_weak (pg_tup hc h hn hst) fun v σ H Q ⟨r, ev, S, w, ev', x', q, e, h⟩ => by
  cases w with
  | m n => cases e
  | f n => cases e
  | r lo hi => cases e
  | d d =>
    cases d <;> simp only [gT] at e <;> try cases e
    split at e
    · rename_i hl
      cases q with
      | tup h1 h2 => exact ⟨_, _, rfl, h1, by rw [h2.length]; exact hl, r, ev, S, _, ev', x', h2, e, h⟩
    · cases e
def sAsg (g : Vl → Ev → Option Ev) (f : Ev → M Vl) : SM := fun ev => onE (f ev) ev fun w S => match g w ev with
  | some ev' => some (.nx, ev', S)
  | none => none
theorem qs_asg {tg : Expr} (he : QE X c W e fe) (hg : QG X c tg g is) (hs : swapsWithSole [tg] e pos.line X.env = pure false := by rfl) (hw : swappedStores [tg] e X.env = pure none := by rfl)
    (h1 : (assignEach [tg] X.env).map (·.2) = [assign tg X.env] := by rfl) : QS X c W (.Assign [tg] e pos) (sAsg g fe) := ps_weak (ps_asg he hg hs hw h1) fun D σ H ⟨r, ev, S, x, h⟩ =>
  tX.of x (h.onE x) fun v H1 ⟨r1, S1, w, e1, x1, q1, h1⟩ => by
    cases q : g w ev with
    | none =>
      rw [q] at h1
      obtain ⟨_, _, _, z, _⟩ := h1
      cases z
    | some ev' =>
      rw [q] at h1
      exact ⟨r1, ev, S1, w, ev', x1, q1, q, fun σ' x' _ => h1.nx x'⟩
def sPar (i j : Nat) (f : Ev → M (List Vl)) : SM := fun ev => onE (f ev) ev fun ws S => match ws with
  | [a, b] => some (.nx, (ev.set i (some a)).set j (some b), S)
  | _ => none
def sPar3 (i j k : Nat) (f : Ev → M (List Vl)) : SM := fun ev => onE (f ev) ev fun ws S => match ws with
  | [a, b, c] => some (.nx, ((ev.set i (some a)).set j (some b)).set k (some c), S)
  | _ => none
theorem none_run {W : WX} {r : Lv} {H : Hp} {D : Ends} (h : sRun X c W r H D none) : False := by
  obtain ⟨_, _, _, z, _⟩ := h
  cases z
theorem qs_par (i j : Nat) {x y : Str} {a b : Expr} {px py pt : Pos} {kt k2 pt2} (hc : X.calm = true) (hN : X.N.Nodup) (ha : QA X c W [a, b] fs) (hi : X.N[i]? = some x := by rfl) (hj : X.N[j]? = some y := by rfl) (hij : i ≠ j := by decide)
    (hx : X.env.scope.names.lookup x = some .local := by rfl) (hy : X.env.scope.names.lookup y = some .local := by rfl)
    (hw : swappedStores [.Tuple [.Name x px, .Name y py] kt pt] (.Tuple [a, b] k2 pt2) X.env = pure (some [x, y]) := by rfl)
    (hs : swapsWithSole [.Tuple [.Name x px, .Name y py] kt pt] (.Tuple [a, b] k2 pt2) pos.line X.env = pure false := by rfl) :
    QS X c W (.Assign [.Tuple [.Name x px, .Name y py] kt pt] (.Tuple [a, b] k2 pt2) pos) (sPar i j fs) := ps_weak (ps_par hc hN hi hj hij hx hy ha hw hs) fun D σ H ⟨r, ev, S, x', h⟩ =>
  tX.of x' (h.onE x') fun vs H1 ⟨r1, S1, ws, e1, x1, q1, h1⟩ => by
    try dsimp only at h1
    split at h1
    · cases q1 with
      | cons a t =>
        cases t with
        | cons b t =>
          cases t
          exact ⟨_, _, rfl, h1.nx ((x1.set hi a).set hj b)⟩
    · exact (none_run h1).elim
theorem qs_par3 (i j l : Nat) {x y z : Str} {a b d : Expr} {px py pz pt : Pos} {kt k2 pt2} (hc : X.calm = true) (hN : X.N.Nodup) (ha : QA X c W [a, b, d] fs) (hi : X.N[i]? = some x := by rfl) (hj : X.N[j]? = some y := by rfl) (hl : X.N[l]? = some z := by rfl)
    (hij : i ≠ j := by decide) (hil : i ≠ l := by decide) (hjl : j ≠ l := by decide)
    (hx : X.env.scope.names.lookup x = some .local := by rfl) (hy : X.env.scope.names.lookup y = some .local := by rfl) (hz : X.env.scope.names.lookup z = some .local := by rfl)
    (hw : swappedStores [.Tuple [.Name x px, .Name y py, .Name z pz] kt pt] (.Tuple [a, b, d] k2 pt2) X.env = pure (some [x, y, z]) := by rfl)
    (hs : swapsWithSole [.Tuple [.Name x px, .Name y py, .Name z pz] kt pt] (.Tuple [a, b, d] k2 pt2) pos.line X.env = pure false := by rfl) :
    QS X c W (.Assign [.Tuple [.Name x px, .Name y py, .Name z pz] kt pt] (.Tuple [a, b, d] k2 pt2) pos) (sPar3 i j l fs) := ps_weak (ps_par3 hc hN hi hj hl hij hil hjl hx hy hz ha hw hs) fun D σ H ⟨r, ev, S, x', h⟩ =>
  tX.of x' (h.onE x') fun vs H1 ⟨r1, S1, ws, e1, x1, q1, h1⟩ => by
    try dsimp only at h1
    split at h1
    · cases q1 with
      | cons a t =>
        cases t with
        | cons b t =>
          cases t with
          | cons d t =>
            cases t
            exact ⟨_, _, _, rfl, h1.nx (((x1.set hi a).set hj b).set hl d)⟩
    · exact (none_run h1).elim
end
end DD
/-! part DW -/
set_option Elab.async false
set_option linter.all false
set_option maxRecDepth 100000
set_option maxHeartbeats 4000000
namespace DD
open PySem PySem.Spec PyProof.Rows L2 LamX

/-! ### what is walked -/
/-- J yields ds; F: what must stay of the heap -/
structure Yields (wd : World) (K : PySem.W.Frag) (J : It) (ds : List PyData) (F : Lv → Hp → Prop) : Prop where
  go : ∀ r H i, F r H → i < ds.length → J.go i H
  yld : ∀ r H S i d x H', F r H → StoRel wd K r H S → ds[i]? = some d → J.yld i H x H' → Ext false r r H H' ∧ StoRel wd K r H' S ∧ Rp K r H' x d
  stop : ∀ r H, F r H → J.stop ds.length H
  ext : ∀ lam r r' H H', F r H → Ext lam r r' H H' → F r' H'
  hide : ∀ r H S D, F r H → StoRel wd K r H S → H D = none → F (r.hide D) (upd H D (.lst []))
  putH : ∀ r H S D xs, F r H → StoRel wd K r H S → D ∈ r.hid → F r (upd H D (.lst xs))
def RI (wd : World) (K : PySem.W.Frag) : Lv → Hp → It → List PyData → Prop := fun r H J ds => ∃ F, Yields wd K J ds F ∧ F r H
def QI (X : Cx) (c : Cf) (W : WX) (tg it : Expr) (f : Ev → M (List PyData)) : Prop := PI X tg it (tX X c W (RI X.w X.K) f)
def itemsOf : Vl → Option (List PyData)
  | .d (.list xs) => some xs
  | .d (.tuple xs) => some xs
  | _ => none
def fItems (f : Ev → M Vl) : Ev → M (List PyData) := fun ev => do
  let w ← f ev
  M.lift (itemsOf w)
def intsL (lo : Int) (n : Nat) : List PyData := (List.range n).map fun i => .int (lo + (i : Nat))
def rng1P : List PyData → Option (List PyData)
  | [.int j] => if -1000000 ≤ j ∧ j ≤ 1000000 then some (intsL 0 j.toNat) else none
  | _ => none
def rng2P : List PyData → Option (List PyData)
  | [.int i, .int j] => if -1000000 ≤ i ∧ i ≤ 1000000 ∧ -1000000 ≤ j ∧ j ≤ 1000000 then some (intsL i (j - i).toNat) else none
  | _ => none
def fRange (p : List PyData → Option (List PyData)) (f : Ev → M (List Vl)) : Ev → M (List PyData) := fun ev => do
  let ws ← f ev
  let ds ← rdAll ws
  M.lift (p ds)
section
variable {X : Cx} {c : Cf} {W : WX} {tg e a b : Expr} {fe : Ev → M Vl} {fs : Ev → M (List Vl)} {K : PySem.W.Frag} {wd : World} {pos : Pos}
theorem pi_weak {t t' : TI} (h : PI X tg e t) (k : ∀ σ H R, t' σ H R → t σ H R) : PI X tg e t' := ⟨fun pins s σ H R I q => h.run pins s σ H R I (k _ _ _ q)⟩
/-- a list or a tuple -/
def iSq (K : PySem.W.Frag) (tl : TE) : TI := fun σ H R => tl σ H fun x H1 => ∃ a, x = .ref a ∧ (((∃ xs, SqL K H1 a xs) ∧ R (Itl K a) H1) ∨ ((∃ xs, SqT K H1 a xs) ∧ R (Itt K a) H1))
theorem pi_sq {tl : TE} (hl : PE X e tl) : PI X tg e (iSq X.K tl) := by
  refine ⟨fun pins s σ H R I h => ?_⟩
  refine thn (hl.run pins s σ H _ I h) fun v s1 ⟨x, H1, I1, r1, q1⟩ => ?_
  obtain ⟨a, e, q⟩ := q1
  subst e
  cases r1
  rcases q with ⟨⟨xs, hq⟩, q⟩ | ⟨⟨xs, hq⟩, q⟩
  · obtain ⟨its, rv, p, hz⟩ := I1.list hq
    refine wpAny_pyIter_list p.isList ?_
    refine ⟨s1.heap.objs.size, [s1.heap.objs.size], _, _, H1, rfl, I1.kept (t' := s1.toks) fun b o e => Heap.get?_push_of_some _ e, turn_list a _, ⟨_, Heap.get?_push_size _ rfl, rfl, rfl⟩, fun b hb => ?_, q⟩
    have e : b = s1.heap.objs.size := by simpa using hb
    subst e
    exact I1.fpOk (Nat.le_refl _) (I1.hok.fresh (Nat.le_refl _))
  · obtain ⟨its, rv, p, hz⟩ := I1.tuple hq
    refine wpAny_pyIter_tuple (show s1.heap.IsTuple a its.toArray from p) ?_
    refine ⟨s1.heap.objs.size, [s1.heap.objs.size], _, _, H1, rfl, I1.kept (t' := s1.toks) fun b o e => Heap.get?_push_of_some _ e, turn_tuple a _, ⟨_, Heap.get?_push_size _ rfl, rfl, rfl⟩, fun b hb => ?_, q⟩
    have e : b = s1.heap.objs.size := by simpa using hb
    subst e
    exact I1.fpOk (Nat.le_refl _) (I1.hok.fresh (Nat.le_refl _))
theorem SqF.hide {r : Lv} {H : Hp} {D l : Addr} {xs : List V} (h : SqF K r H l xs) (hD : H D = none) : SqF K (r.hide D) (upd H D (.lst [])) l xs := by
  rcases h with ⟨hb, hn⟩ | ⟨o, hb⟩ | hb
  · refine .inl ⟨by rw [upd_ne (ne_of_none hb hD)]; exact hb, hn.1, fun hm => ?_⟩
    have hm : l ∈ D :: r.hid := hm
    rcases List.mem_cons.mp hm with z | z
    · rw [z, hD] at hb; cases hb
    · exact hn.2 z
  · exact .inr (.inl ⟨o, by rw [upd_ne (ne_of_none hb hD)]; exact hb⟩)
  · exact .inr (.inr hb)
theorem SqF.putH {r : Lv} {H : Hp} {S : Sto} {D l : Addr} {xs ys : List V} (h : SqF K r H l xs) (s : StoRel wd K r H S) (hD : D ∈ r.hid) : SqF K r (upd H D (.lst ys)) l xs := by
  have hl := s.mu D (.inr hD)
  rcases h with ⟨hb, hn⟩ | ⟨o, hb⟩ | hb
  · exact .inl ⟨by rw [upd_ne (fun (z : l = D) => hn.2 (z ▸ hD))]; exact hb, hn⟩
  · refine .inr (.inl ⟨o, ?_⟩)
    rw [upd_ne (fun z => by rw [← z, hb] at hl; exact hl)]; exact hb
  · exact .inr (.inr hb)
theorem RpAll.hide {r : Lv} {H : Hp} {D : Addr} : ∀ {vs : List V} {ds : List PyData}, RpAll K r H vs ds → H D = none → RpAll K (r.hide D) (upd H D (.lst [])) vs ds
  | _, _, .nil, _ => .nil
  | _, _, .cons h t, hD => .cons (h.hide hD) (RpAll.hide t hD)
theorem sqt_ne {H : Hp} {D l : Addr} {xs ys : List V} (h : SqT K H l xs) (hl : MutL (H D) ∨ H D = none) : SqT K (upd H D (.lst ys)) l xs := by
  rcases h with (hb | ⟨o, hb⟩) | hb
  · refine .inl (.inl ?_)
    rw [upd_ne (fun z => by rw [← z, hb] at hl; rcases hl with hl | hl; exact hl; cases hl)]; exact hb
  · refine .inl (.inr ⟨o, ?_⟩)
    rw [upd_ne (fun z => by rw [← z, hb] at hl; rcases hl with hl | hl; exact hl; cases hl)]; exact hb
  · exact .inr hb
theorem yields_list {l : Addr} {ds : List PyData} {vs : List V} : Yields wd K (Itl K l) ds (fun r H => SqF K r H l vs ∧ RpAll K r H vs ds) where
  go := fun r H i ⟨h1, h2⟩ hi => ⟨vs, vs[i]'(by rw [h2.length]; exact hi), h1.sq, List.getElem?_eq_getElem _⟩
  yld := fun r H S i d x H' ⟨h1, h2⟩ s hd ⟨e, y⟩ => by
    subst e
    obtain ⟨v, hv, q⟩ := h2.get hd
    have := y vs h1.sq
    rw [hv] at this
    cases this
    exact ⟨s.refl, s, q⟩
  stop := fun r H ⟨h1, h2⟩ => ⟨vs, h1.sq, by rw [h2.length]; exact Nat.le_refl _⟩
  ext := fun lam r r' H H' ⟨h1, h2⟩ e => ⟨e.sqf h1, h2.ext e⟩
  hide := fun r H S D ⟨h1, h2⟩ s hD => ⟨h1.hide hD, h2.hide hD⟩
  putH := fun r H S D xs ⟨h1, h2⟩ s hD => ⟨h1.putH s hD, Ext.putH s.mu hD h2⟩
theorem yields_tup {l : Addr} {ds : List PyData} {vs : List V} : Yields wd K (Itt K l) ds (fun r H => SqT K H l vs ∧ RpAll K r H vs ds) where
  go := fun r H i ⟨h1, h2⟩ hi => ⟨vs, vs[i]'(by rw [h2.length]; exact hi), h1, List.getElem?_eq_getElem _⟩
  yld := fun r H S i d x H' ⟨h1, h2⟩ s hd ⟨e, y⟩ => by
    subst e
    obtain ⟨v, hv, q⟩ := h2.get hd
    have := y vs h1
    rw [hv] at this
    cases this
    exact ⟨s.refl, s, q⟩
  stop := fun r H ⟨h1, h2⟩ => ⟨vs, h1, by rw [h2.length]; exact Nat.le_refl _⟩
  ext := fun lam r r' H H' ⟨h1, h2⟩ e => ⟨e.sqt h1, h2.ext e⟩
  hide := fun r H S D ⟨h1, h2⟩ s hD => ⟨sqt_ne h1 (.inr hD), h2.hide hD⟩
  putH := fun r H S D xs ⟨h1, h2⟩ s hD => ⟨sqt_ne h1 (.inl (s.mu D (.inr hD))), Ext.putH s.mu hD h2⟩
theorem yields_range {lo : Int} {n : Nat} : Yields wd K (Itr lo n) (intsL lo n) (fun _ _ => True) where
  go := fun r H i _ hi => by show i < n; simpa [intsL] using hi
  yld := fun r H S i d x H' _ s hd ⟨e, y⟩ => by
    subst e; subst y
    unfold intsL at hd
    rw [List.getElem?_map] at hd
    cases q : (List.range n)[i]? with
    | none => rw [q] at hd; cases hd
    | some j =>
      rw [q] at hd
      have hj := (List.getElem?_eq_some_iff.mp q)
      obtain ⟨h1, h2⟩ := hj
      rw [List.getElem_range] at h2
      subst h2
      cases hd
      exact ⟨s.refl, s, .int _⟩
  stop := fun r H _ => by show n ≤ (intsL lo n).length; simp [intsL]
  ext := fun _ _ _ _ _ _ _ => True.intro
  hide := fun _ _ _ _ _ _ _ => True.intro
  putH := fun _ _ _ _ _ _ _ _ => True.intro
theorem tX_last {α β : Type} {R : Lv → Hp → β → α → Prop} {r : Lv} {σ : L2.St} {H : Hp} {S : Sto} {o : Option α} {b : β} {Q : β → Hp → Prop} (h : tRun X c W R r σ H S (M.lift o) Q) : ∃ x, o = some x ∧ tRun X c W R r σ H S (pure x) Q := by
  cases o with
  | none =>
    obtain ⟨_, _, e, _⟩ := h
    cases e
  | some x => exact ⟨x, rfl, h⟩
theorem qi_sq (he : QE X c W e fe) : QI X c W tg e (fItems fe) := pi_weak (pi_sq he) fun σ H R h => by
  obtain ⟨r, ev, S, x, h⟩ := h
  refine tX.of x h.bind fun v H1 ⟨r1, S1, w, e1, s1, t1, q1, h1⟩ => ?_
  obtain ⟨ds, ed, h2⟩ := tX_last (b := Itr 0 0) h1
  unfold itemsOf at ed
  split at ed
  · cases ed
    cases q1 with
    | lst g1 g2 => exact ⟨_, rfl, .inl ⟨⟨_, g1.sq⟩, h2.pure rfl s1 t1 ⟨_, yields_list, g1, g2⟩⟩⟩
  · cases ed
    cases q1 with
    | tup g1 g2 => exact ⟨_, rfl, .inr ⟨⟨_, g1⟩, h2.pure rfl s1 t1 ⟨_, yields_tup, g1, g2⟩⟩⟩
  · cases ed
theorem RqAll.two {r : Lv} {H : Hp} {vs : List V} {d d2 : PyData} (h : RqAll K r H vs [d, d2]) : ∃ v u, vs = [v, u] ∧ Rq K r H v d ∧ Rq K r H u d2 := by
  cases h with
  | cons q t =>
    cases t with
    | cons q2 t => cases t; exact ⟨_, _, rfl, q, q2⟩
theorem qi_range1 {p : Pos} (hg : Gl X "range") (hm : X.mg "range" = none) (ha : QA X c W [a] fs) (hs : starEach [a] X.env = [(false, eval a X.env)] := by rfl) : QI X c W tg (.Call (.Name "range" p) [a] [] pos) (fRange rng1P fs) := pi_weak (pi_range1 hg hm ha hs) fun σ H R h => by
  obtain ⟨r, ev, S, x, h⟩ := h
  refine tX.of x h.bind fun vs H1 ⟨r1, S1, ws, e1, s1, t1, q1, h1⟩ => ?_
  obtain ⟨ds, qd, h2⟩ := rdAll_run h1 s1 q1
  obtain ⟨z, ez, h3⟩ := tX_last (b := Itr 0 0) h2
  unfold rng1P at ez
  split at ez
  · split at ez
    · rename_i hb
      cases ez
      obtain ⟨v, rfl, q⟩ := qd.one
      cases q.int
      exact ⟨_, rfl, by omega, by omega, h3.pure rfl s1 t1 ⟨_, yields_range, True.intro⟩⟩
    · cases ez
  · cases ez
theorem qi_range2 {p : Pos} (hg : Gl X "range") (hm : X.mg "range" = none) (ha : QA X c W [a, b] fs) (hs : starEach [a, b] X.env = [(false, eval a X.env), (false, eval b X.env)] := by rfl) (hs2 : starEach [b] X.env = [(false, eval b X.env)] := by rfl) : QI X c W tg (.Call (.Name "range" p) [a, b] [] pos) (fRange rng2P fs) := pi_weak (pi_range2 hg hm ha hs hs2) fun σ H R h => by
  obtain ⟨r, ev, S, x, h⟩ := h
  refine tX.of x h.bind fun vs H1 ⟨r1, S1, ws, e1, s1, t1, q1, h1⟩ => ?_
  obtain ⟨ds, qd, h2⟩ := rdAll_run h1 s1 q1
  obtain ⟨z, ez, h3⟩ := tX_last (b := Itr 0 0) h2
  unfold rng2P at ez
  split at ez
  · split at ez
    · rename_i hb
      cases ez
      obtain ⟨v, u, rfl, q, q2⟩ := qd.two
      cases q.int
      cases q2.int
      exact ⟨_, _, rfl, by omega, h3.pure rfl s1 t1 ⟨_, yields_range, True.intro⟩⟩
    · cases ez
  · cases ez

/-! ### for, while -/
def loopF (g : Vl → Ev → Option Ev) (fb : SM) : List PyData → SM
  | [] => fun ev S => some (.nx, ev, S)
  | d :: ds => fun ev S => match g (.d d) ev with
    | none => none
    | some ev1 => match fb ev1 S with
      | none => none
      | some (.nx, ev2, S2) => loopF g fb ds ev2 S2
      | some (.ct, ev2, S2) => loopF g fb ds ev2 S2
      | some (.bk, ev2, S2) => some (.nx, ev2, S2)
      | some (.rt w, ev2, S2) => some (.rt w, ev2, S2)
      | some (.ex x, ev2, S2) => some (.ex x, ev2, S2)
def sFor (fi : Ev → M (List PyData)) (g : Vl → Ev → Option Ev) (fb : SM) : SM := fun ev => onE (fi ev) ev fun ds S => loopF g fb ds ev S
def sWhile (t : Ev → M Bool) (fb : SM) : Nat → SM
  | 0 => fun _ _ => none
  | n + 1 => fun ev => onE (t ev) ev fun b S => match b with
    | false => some (.nx, ev, S)
    | true => match fb ev S with
      | none => none
      | some (.nx, ev2, S2) => sWhile t fb n ev2 S2
      | some (.ct, ev2, S2) => sWhile t fb n ev2 S2
      | some (.bk, ev2, S2) => some (.nx, ev2, S2)
      | some (.rt w, ev2, S2) => some (.rt w, ev2, S2)
      | some (.ex x, ev2, S2) => some (.ex x, ev2, S2)
theorem Rel.ext' {r r1 : Lv} {σ : L2.St} {H H1 : Hp} {ev : Ev} {S : Sto} (x : Rel X c r σ H ev S) (e : Ext false r r1 H H1) (s : StoRel X.w X.K r1 H1 S) : Rel X c r1 σ H1 ev S := x.ext e.up s (tabs_ext e x.tabs)
theorem qs_for {it : Expr} {body : List Stmt} {fi : Ev → M (List PyData)} {g : Vl → Ev → Option Ev} {is : List Nat} {fb : SM} (hp : PassesOwn (model X.prog X.w) X.A X.env X.xe) (hc : X.calm = true) (hi : QI X c W tg it fi) (hg : QG X c tg g is) (hb : QSs X c W body fb)
    (hs : ∀ x, foldedSetIterable it X.env x = pure x := by intro _; rfl) : QS X c W (.For tg it body [] pos) (sFor fi g fb) := by
  refine ps_weak (ps_for hp hc hi hg hb hs) fun D σ H ⟨r, ev, S, x, h⟩ => ?_
  refine tX.of x (h.onE x) fun J H1 ⟨r1, S1, ds, e1, x1, ⟨F, Y, z1⟩, h1⟩ => ?_
  refine ⟨fun i m σ H => m = ds.length - i ∧ i ≤ ds.length ∧ ∃ r ev S, Rel X c r σ H ev S ∧ F r H ∧ sRun X c W r H D (loopF g fb (ds.drop i) ev S), ⟨_, rfl, Nat.zero_le _, r1, ev, S1, x1, z1, h1⟩, ?_⟩
  rintro i m σ H ⟨rfl, hi, r, ev, S, x, z, h⟩
  by_cases hl : i < ds.length
  · refine .inr ⟨Y.go _ _ _ z hl, fun σ' H' => ∃ r ev S, Rel X c r σ' H' ev S ∧ F r H' ∧ sRun X c W r H' D (loopF g fb (ds.drop (i + 1)) ev S), fun σ' H' q => ⟨ds.length - (i + 1), by omega, rfl, hl, q⟩, fun v H' y => ?_⟩
    have hd : ds[i]? = some ds[i] := List.getElem?_eq_getElem hl
    obtain ⟨E, s', q⟩ := Y.yld _ _ _ _ _ _ _ z x.sto hd y
    have z' := Y.ext _ _ _ _ _ z E
    have x' := x.ext' E s'
    have h' := h.ext E.up
    rw [List.drop_eq_getElem_cons hl] at h'
    simp only [loopF] at h'
    split at h'
    · exact (none_run h').elim
    · rename_i ev1 eg
      refine ⟨r, ev, S, .d ds[i], ev1, x', q, eg, fun σ1 x1 _ => ⟨r, ev1, S, x1, ?_⟩⟩
      cases eb : fb ev1 S with
      | none =>
        rw [eb] at h'
        exact (none_run h').elim
      | some p =>
        obtain ⟨fl, ev2, S2⟩ := p
        rw [eb] at h'
        refine ⟨fl, ev2, S2, rfl, ?_⟩
        cases fl with
        | nx => exact fun r' σ' H'' e' x'' => ⟨r', ev2, S2, x'', Y.ext _ _ _ _ _ z' e', h'.ext e'⟩
        | ct => exact fun r' σ' H'' e' x'' => ⟨r', ev2, S2, x'', Y.ext _ _ _ _ _ z' e', h'.ext e'⟩
        | bk =>
          obtain ⟨fl, ev3, S3, e3, h3⟩ := h'
          cases e3
          exact fun r' σ' H'' e' x'' => h3 r' σ' H'' e' x''
        | rt w =>
          obtain ⟨fl, ev3, S3, e3, h3⟩ := h'
          cases e3
          exact h3
        | ex y =>
          obtain ⟨fl, ev3, S3, e3, h3⟩ := h'
          cases e3
          exact h3
  · have e : i = ds.length := by omega
    subst e
    rw [List.drop_length] at h
    exact .inl ⟨Y.stop _ _ z, h.nx x⟩
theorem qs_while {cc : Expr} {body : List Stmt} {t : Ev → M Bool} {fb : SM} (n : Nat) (hp : PassesOwn (model X.prog X.w) X.A X.env X.xe) (hc : QT X c W cc t) (hb : QSs X c W body fb) : QS X c W (.While cc body [] pos) (sWhile t fb n) := by
  refine ps_weak (ps_while hp hc hb) fun D σ H ⟨r, ev, S, x, h⟩ => ?_
  refine ⟨fun m σ H => ∃ r ev S, Rel X c r σ H ev S ∧ sRun X c W r H D (sWhile t fb m ev S), ⟨n, r, ev, S, x, h⟩, ?_⟩
  rintro m σ H ⟨r, ev, S, x, h⟩
  cases m with
  | zero => exact (none_run h).elim
  | succ m =>
    refine tX.of x (h.onE x) fun b H1 ⟨r1, S1, b', e1, x1, q1, h1⟩ => ?_
    cases q1
    cases b with
    | false =>
      rw [if_neg (by decide)]
      exact h1.nx x1
    | true =>
      rw [if_pos rfl]
      refine ⟨fun σ' H' => ∃ r ev S, Rel X c r σ' H' ev S ∧ sRun X c W r H' D (sWhile t fb m ev S), fun σ' H' q => ⟨m, by omega, q⟩, r1, ev, S1, x1, ?_⟩
      try dsimp only at h1
      cases eb : fb ev S1 with
      | none =>
        rw [eb] at h1
        exact (none_run h1).elim
      | some p =>
        obtain ⟨fl, ev2, S2⟩ := p
        rw [eb] at h1
        refine ⟨fl, ev2, S2, rfl, ?_⟩
        cases fl with
        | nx => exact fun r' σ' H'' e' x'' => ⟨r', ev2, S2, x'', h1.ext e'⟩
        | ct => exact fun r' σ' H'' e' x'' => ⟨r', ev2, S2, x'', h1.ext e'⟩
        | bk =>
          obtain ⟨fl, ev3, S3, e3, h3⟩ := h1
          cases e3
          exact fun r' σ' H'' e' x'' => h3 r' σ' H'' e' x''
        | rt w =>
          obtain ⟨fl, ev3, S3, e3, h3⟩ := h1
          cases e3
          exact h3
        | ex y =>
          obtain ⟨fl, ev3, S3, e3, h3⟩ := h1
          cases e3
          exact h3
end
end DD
/-! part DX -/
set_option Elab.async false
set_option linter.all false
set_option maxRecDepth 100000
set_option maxHeartbeats 4000000
namespace DD
open PySem PySem.Spec PyProof.Rows L2 LamX

/-! ### list comprehensions -/
def compL (g : Vl → Ev → Option Ev) (t : Ev → M Bool) (el : Ev → M Vl) (ev : Ev) : List PyData → Sto → Option (List PyData × Sto)
  | [], S => some ([], S)
  | d :: ds, S => match g (.d d) ev with
    | none => none
    | some ev1 => match t ev1 S with
      | some (.ok true, S1) => match el ev1 S1 with
        | some (.ok (.d z), S2) => match compL g t el ev ds S2 with
          | some (zs, S3) => some (z :: zs, S3)
          | none => none
        | _ => none
      | some (.ok false, S1) => compL g t el ev ds S1
      | _ => none
def fYes : Ev → M Bool := fun _ => pure true
def fComp (fi : Ev → M (List PyData)) (g : Vl → Ev → Option Ev) (t : Ev → M Bool) (el : Ev → M Vl) (own : List Nat) : Ev → M Vl := fun ev => do
  let ds ← fi ev
  fun S => match compL g t el (wipeE ev own) ds S with
    | some (zs, S') => if zs.length ≤ 1000000 then some (.ok (.d (.list zs)), S') else none
    | none => none
def QTs (X : Cx) (c : Cf) (W : WX) (ifs : List Expr) (t : Ev → M Bool) : Prop := PTs X ifs (tT X c W t)
abbrev W0 : WX := fun _ _ _ _ => False
section
variable {X : Cx} {c : Cf} {W : WX} {e : Expr} {pos : Pos} {K : PySem.W.Frag} {wd : World} {mg : Str → Option Value} {r : Lv} {H : Hp} {S : Sto} {σ : L2.St} {ev : Ev} {D : Addr}
theorem pts_weak {X : Cx} {ifs : List Expr} {t t' : TT} (h : PTs X ifs t) (k : ∀ σ H Q, t' σ H Q → t σ H Q) : PTs X ifs t' := ⟨fun pins s σ H Q I q => h.run pins s σ H Q I (k _ _ _ q)⟩
theorem qts_nil : QTs X c W [] fYes := pts_weak pts_nil fun σ H Q ⟨r, ev, S, x, h⟩ => h.pure (a := true) rfl x.sto x.tabs rfl
theorem qts_one {t : Ev → M Bool} (h : QT X c W e t) : QTs X c W [e] t := pts_one h
theorem EvR.hide (h : EvR K mg r σ H ev) (hD : H D = none) : EvR K mg (r.hide D) σ (upd H D (.lst [])) ev := fun i w q => by
  obtain ⟨v, h1, h2⟩ := h i w q
  refine ⟨v, h1, ?_⟩
  cases w with
  | d x => exact Rp.hide (show Rp K r H v x from h2) hD
  | m n => exact h2
  | f x => exact h2
  | r lo hi =>
    obtain ⟨a, g1, g2⟩ := h2
    exact ⟨a, by rw [upd_ne (ne_of_none g1 hD)]; exact g1, g2⟩
theorem EvR.putH {xs : List V} (h : EvR K mg r σ H ev) (s : StoRel wd K r H S) (hD : D ∈ r.hid) : EvR K mg r σ (upd H D (.lst xs)) ev := fun i w q => by
  obtain ⟨v, h1, h2⟩ := h i w q
  refine ⟨v, h1, ?_⟩
  cases w with
  | d x =>
    have := Ext.putH (xs := xs) s.mu hD (RpAll.cons (show Rp K r H v x from h2) .nil)
    cases this with
    | cons a _ => exact a
  | m n => exact h2
  | f x => exact h2
  | r lo hi =>
    obtain ⟨a, g1, g2⟩ := h2
    exact ⟨a, by rw [upd_ne (fun z => by have := s.mu D (.inr hD); rw [← z, g1] at this; exact this)]; exact g1, g2⟩
theorem tabs_put {T : List (Addr × Str)} {ys xs : List V} (t : Tabs T H) (hD : H D = some (.lst ys)) : Tabs T (upd H D (.lst xs)) := by
  have kp : ∀ a o, H a = some o → (∀ xs, o ≠ .lst xs) → upd H D (.lst xs) a = some o := fun a o h n => by
    rw [upd_ne (fun (z : a = D) => by rw [z, hD] at h; exact n ys (Option.some.inj h).symm)]
    exact h
  intro p hp
  obtain ⟨ps, h1, h2, h3⟩ := t p hp
  refine ⟨ps, kp _ _ h1 (fun xs => by intro z; cases z), h2, fun pos cv hc => ?_⟩
  obtain ⟨cc, e1, e2⟩ := h3 pos cv hc
  exact ⟨cc, e1, kp _ _ e2 (fun xs => by intro z; unfold LamX.CodeO at z; cases z)⟩
/-- what a comprehension has come to: behind i items -/
structure CompI (X : Cx) (c : Cf) (r1 : Lv) (H1 : Hp) (D : Addr) (F : Lv → Hp → Prop) (σ0 : L2.St) (evw : Ev) (r : Lv) (H : Hp) (S : Sto) (acc : List PyData) : Prop where
  ext : Ext c.lam r1 r H1 H
  sto : StoRel X.w X.K (r.hide D) H S
  tabs : Tabs c.T H
  f : F (r.hide D) H
  at_ : ∃ accV, H D = some (.lst accV) ∧ RpAll X.K (r.hide D) H accV acc
  ev : EvR X.K X.mg (r.hide D) σ0 H evw
theorem CompI.start {r1 : Lv} {H1 : Hp} {S1 : Sto} {F : Lv → Hp → Prop} {J : It} {ds : List PyData} {vs : List Nat} (Y : Yields X.w X.K J ds F) (z : F r1 H1) (s : StoRel X.w X.K r1 H1 S1) (t : Tabs c.T H1) (q : EvR X.K X.mg r1 σ H1 ev) (hD : H1 D = none) :
    CompI X c r1 H1 D F (L2.wipe σ vs) (wipeE ev vs) r1 (upd H1 D (.lst [])) S1 [] :=
  ⟨Ext.new s.mu hD, s.hide hD, tabs_ext (Ext.new (lam := false) s.mu hD) t, Y.hide _ _ _ _ z s hD, ⟨[], upd_same, .nil⟩, (q.wipe vs).hide hD⟩
/-- a step within: the live ones may grow -/
theorem CompI.step {r1 r : Lv} {H1 H H' : Hp} {F : Lv → Hp → Prop} {J : It} {ds acc : List PyData} {evw : Ev} {σ0 : L2.St} {S' : Sto} {r' : Lv} (Y : Yields X.w X.K J ds F) (C : CompI X c r1 H1 D F σ0 evw r H S acc) (E : Ext c.lam (r.hide D) r' H H') (s : StoRel X.w X.K r' H' S') (t : Tabs c.T H') :
    ∃ r2, r' = r2.hide D ∧ CompI X c r1 H1 D F σ0 evw r2 H' S' acc := by
  obtain ⟨r2, rfl, e2⟩ := C.ext.under E
  obtain ⟨accV, h1, h2⟩ := C.at_
  refine ⟨r2, rfl, e2, s, t, Y.ext _ _ _ _ _ C.f E, ⟨accV, ?_, h2.ext E⟩, C.ev.ext E⟩
  rcases E.keep D _ h1 (C.sto.apart D List.mem_cons_self) with q | ⟨_, ps, q⟩
  · exact q
  · cases q
theorem CompI.put {r1 r : Lv} {H1 H : Hp} {F : Lv → Hp → Prop} {J : It} {ds acc : List PyData} {evw : Ev} {σ0 : L2.St} {z : PyData} {v : V} (Y : Yields X.w X.K J ds F) (C : CompI X c r1 H1 D F σ0 evw r H S acc) (q : Rp X.K (r.hide D) H v z) (hD : H1 D = none) :
    ∀ accV, H D = some (.lst accV) → CompI X c r1 H1 D F σ0 evw r (upd H D (.lst (accV ++ [v]))) S (acc ++ [z]) := fun accV hV => by
  obtain ⟨accV', h1, h2⟩ := C.at_
  rw [hV] at h1
  cases h1
  have hm : D ∈ (r.hide D).hid := List.mem_cons_self
  exact ⟨C.ext.fresh hD, C.sto.putH hm, tabs_put C.tabs hV, Y.putH _ _ _ _ _ C.f C.sto hm, ⟨_, upd_same, Ext.putH C.sto.mu hm (h2.append (.cons q .nil))⟩, C.ev.putH C.sto hm⟩
theorem CompI.done {r1 r : Lv} {H1 H : Hp} {F : Lv → Hp → Prop} {acc : List PyData} {evw : Ev} {σ0 : L2.St} (C : CompI X c r1 H1 D F σ0 evw r H S acc) (n1 : r1.no D) : StoRel X.w X.K r H S ∧ Rp X.K r H (.ref D) (.list acc) := by
  obtain ⟨accV, h1, h2⟩ := C.at_
  refine ⟨C.sto.show, .lst (.inl ⟨h1, C.sto.apart D List.mem_cons_self, ?_⟩) h2.show⟩
  obtain ⟨n, rfl, _⟩ := C.ext.pre
  exact n1.2
theorem comp_weak {fi : Ev → M (List PyData)} {g : Vl → Ev → Option Ev} {t : Ev → M Bool} {el : Ev → M Vl} {own is : List Nat} (hi : ∀ i ∈ is, i ∈ own) {Q : VK} (h : tE X c W (fComp fi g t el own) σ H Q) :
    tLc (tX X c W (RI X.w X.K) fi) (tG X c g is) (tT X c W0 t) (tE X c W0 el) own σ H Q := by
  obtain ⟨r, ev, S, x, h⟩ := h
  refine tX.of x h.bind fun J H1 ⟨r1, S1, ds, e1, s1, t1, ⟨F, Y, z1⟩, h1⟩ D hD => ?_
  have x1 := x.ext e1 s1 t1
  obtain ⟨o, Se, eo, hq⟩ := h1
  dsimp only at eo
  cases ec : compL g t el (wipeE ev own) ds S1 with
  | none => rw [ec] at eo; cases eo
  | some p =>
    obtain ⟨zs, Sx⟩ := p
    rw [ec] at eo
    dsimp only at eo
    split at eo
    · rename_i hz
      cases eo
      refine ⟨fun i m H => m = ds.length - i ∧ i ≤ ds.length ∧ ∃ r S acc rest, CompI X c r1 H1 D F (L2.wipe σ own) (wipeE ev own) r H S acc ∧ compL g t el (wipeE ev own) (ds.drop i) S = some (rest, Se) ∧ acc ++ rest = zs, ⟨_, rfl, Nat.zero_le _, r1, S1, [], zs, CompI.start Y z1 s1 t1 x1.ev hD, ec, rfl⟩, ?_⟩
      rintro i m H2 ⟨rfl, hil, r, S, acc, rest, C, e2, e3⟩
      by_cases hl : i < ds.length
      · refine .inr ⟨Y.go _ _ _ C.f hl, fun H' => ∃ r S acc rest, CompI X c r1 H1 D F (L2.wipe σ own) (wipeE ev own) r H' S acc ∧ compL g t el (wipeE ev own) (ds.drop (i + 1)) S = some (rest, Se) ∧ acc ++ rest = zs, fun H' q => ⟨ds.length - (i + 1), by omega, rfl, hl, q⟩, fun v H' y => ?_⟩
        have hd : ds[i]? = some ds[i] := List.getElem?_eq_getElem hl
        obtain ⟨E, s', q⟩ := Y.yld _ _ _ _ _ _ _ C.f C.sto hd y
        obtain ⟨r2, er2, C'⟩ := C.step Y E.up s' (tabs_ext E C.tabs)
        rw [List.drop_eq_getElem_cons hl] at e2
        simp only [compL] at e2
        have xb : Rel X c (r.hide D) (L2.wipe σ own) H' (wipeE ev own) S := ⟨s', tabs_ext E C.tabs, C.ev.ext E, by rw [wipe_length]; exact x.len⟩
        have hr2 : r2.hide D = r.hide D := er2.symm
        split at e2
        · cases e2
        · rename_i ev1 eg
          refine ⟨r.hide D, wipeE ev own, S, .d ds[i], ev1, xb, q, eg, fun σ2 x2 sb => ⟨?_, ?_⟩⟩
          · rw [wipe_eq sb hi, wipe_wipe]
          · split at e2
            · rename_i S2 et
              refine ⟨r.hide D, ev1, S, x2, .ok true, S2, et, fun r3 b H3 E3 s3 t3 q3 => ?_⟩
              cases q3
              rw [if_pos rfl]
              rw [← hr2] at E3
              obtain ⟨r4, rfl, C3⟩ := C'.step Y E3 s3 t3
              have x3 : Rel X c (r4.hide D) σ2 H3 ev1 S2 := by
                rw [← hr2] at x2
                exact x2.ext E3 s3 t3
              split at e2
              · rename_i z S4 ee
                refine ⟨r4.hide D, ev1, S2, x3, .ok (.d z), S4, ee, fun r5 v5 H5 E5 s5 t5 q5 => ?_⟩
                obtain ⟨r6, rfl, C5⟩ := C3.step Y E5 s5 t5
                split at e2
                · rename_i zs' S6 er
                  cases e2
                  obtain ⟨accV, hV, hR⟩ := C5.at_
                  have hlen : accV.length < sizeLine := by
                    rw [hR.length, sizeLine_eq]
                    have := congrArg List.length e3
                    simp at this
                    omega
                  have q5' : Rp X.K (r6.hide D) H5 v5 z := by
                    exact q5
                  exact ⟨accV, hV, hlen, r6, S4, acc ++ [z], zs', C5.put Y q5' hD accV hV, er, by rw [← e3]; simp⟩
                · cases e2
              · cases e2
            · rename_i S2 et
              refine ⟨r.hide D, ev1, S, x2, .ok false, S2, et, fun r3 b H3 E3 s3 t3 q3 => ?_⟩
              cases q3
              rw [if_neg (by decide)]
              rw [← hr2] at E3
              obtain ⟨r4, rfl, C3⟩ := C'.step Y E3 s3 t3
              exact ⟨r4, S2, acc, rest, C3, e2, e3⟩
            · cases e2
      · have e : i = ds.length := by omega
        subst e
        rw [List.drop_length] at e2
        cases e2
        rw [List.append_nil] at e3
        subst e3
        obtain ⟨sd, qd⟩ := C.done (s1.no hD)
        exact .inl ⟨Y.stop _ _ C.f, hq r (.ref D) H2 C.ext sd C.tabs qd⟩
    · cases eo
end
section
variable {X : Cx} {c : Cf} {W : WX} {pos : Pos} {s : Shared} {H0 : Hp} {scope : Scope} {cenv : Env} {fp : List Addr}
theorem rel_blk : Rel (X.blk s H0 scope cenv fp) c = Rel X c := by
  funext r σ H ev S
  exact propext ⟨fun h => ⟨h.1, h.2, h.3, h.4⟩, fun h => ⟨h.1, h.2, h.3, h.4⟩⟩
theorem tX_blk {α β : Type} {R : Lv → Hp → β → α → Prop} {f : Ev → M α} : tX (X.blk s H0 scope cenv fp) c W R f = tX X c W R f := by
  unfold tX
  rw [rel_blk]
  rfl
theorem tG_blk {g : Vl → Ev → Option Ev} {is : List Nat} : tG (X.blk s H0 scope cenv fp) c g is = tG X c g is := by
  unfold tG
  rw [rel_blk]
theorem pts_blk {ifs : List Expr} {t : Ev → M Bool} (h : QTs (X.blk s H0 scope cenv fp) c W0 ifs t) : PTs (X.blk s H0 scope cenv fp) ifs (tT X c W0 t) := by
  have e : tT (X.blk s H0 scope cenv fp) c W0 t = tT X c W0 t := tX_blk
  unfold QTs at h
  rw [e] at h
  exact h
theorem pe_blk {e : Expr} {t : Ev → M Vl} (h : QE (X.blk s H0 scope cenv fp) c W0 e t) : PE (X.blk s H0 scope cenv fp) e (tE X c W0 t) := by
  have q : tE (X.blk s H0 scope cenv fp) c W0 t = tE X c W0 t := tX_blk
  unfold QE at h
  rw [q] at h
  exact h
theorem pi_blk {tg e : Expr} {t : Ev → M (List PyData)} (h : QI (X.blk s H0 scope cenv fp) c W0 tg e t) : PI (X.blk s H0 scope cenv fp) tg e (tX X c W0 (RI X.w X.K) t) := by
  have q : tX (X.blk s H0 scope cenv fp) c W0 (RI (X.blk s H0 scope cenv fp).w (X.blk s H0 scope cenv fp).K) t = tX X c W0 (RI X.w X.K) t := tX_blk
  unfold QI at h
  rw [q] at h
  exact h
theorem pg_blk {tg : Expr} {g : Vl → Ev → Option Ev} {is : List Nat} (h : QG (X.blk s H0 scope cenv fp) c tg g is) : PG (X.blk s H0 scope cenv fp) tg (tG X c g is) := by
  unfold QG at h
  rw [tG_blk] at h
  exact h
end
section
variable {X : Cx} {c : Cf} {W : WX} {pos : Pos}
theorem qe_comp {elt tg it : Expr} {ifs : List Expr} {scope : Scope} {own : List (Str × Nat)} {fi : Ev → M (List PyData)} {g : Vl → Ev → Option Ev} {t : Ev → M Bool} {el : Ev → M Vl} {is : List Nat} (hc : X.calm = true) (hN : X.N.Nodup) (hi : QI X c W tg it fi) (ok : BlkOk X.N X.env.scope scope own)
    (hg : ∀ (s : Shared) (H : Hp) (C : Addr) (cl : List (Str × Addr)) (fp : List Addr), QG (X.blk s H scope (compEnvC scope cl C X.env) fp) c tg g is) (ht : ∀ (s : Shared) (H : Hp) (C : Addr) (cl : List (Str × Addr)) (fp : List Addr), QTs (X.blk s H scope (compEnvC scope cl C X.env) fp) c W0 ifs t)
    (he : ∀ (s : Shared) (H : Hp) (C : Addr) (cl : List (Str × Addr)) (fp : List Addr), QE (X.blk s H scope (compEnvC scope cl C X.env) fp) c W0 elt el) (his : ∀ i ∈ is, i ∈ own.map (·.2) := by decide) (hs : ∀ x, foldedSetIterable it X.env x = pure x := by intro _; rfl) :
    QE X c W (.ListComp elt [⟨tg, it, ifs, 0⟩] scope pos) (fComp fi g t el (own.map (·.2))) := by
  refine pe_weak (pe_lc (wi := tX X c W (RI X.w X.K) fi) (g := tG X c g is) (tt := tT X c W0 t) (te := tE X c W0 el) hc hN hi ok (fun s H C cl fp => pg_blk (hg s H C cl fp)) (fun s H C cl fp => pts_blk (ht s H C cl fp)) (fun s H C cl fp => pe_blk (he s H C cl fp)) hs) fun σ H Q h => ?_
  exact comp_weak his h
theorem qs_comp (i : Nat) {y : Str} {py : Pos} {elt tg it : Expr} {ifs : List Expr} {scope : Scope} {own : List (Str × Nat)} {pos spos : Pos} {fi : Ev → M (List PyData)} {g : Vl → Ev → Option Ev} {t : Ev → M Bool} {el : Ev → M Vl} {is : List Nat} (hc : X.calm = true) (hN : X.N.Nodup) (hi : QI X c W tg it fi) (ok : BlkOk X.N X.env.scope scope own)
    (hg : ∀ (s : Shared) (H : Hp) (C : Addr) (cl : List (Str × Addr)) (fp : List Addr), QG (X.blk s H scope (compEnvC scope cl C X.env) fp) c tg g is) (ht : ∀ (s : Shared) (H : Hp) (C : Addr) (cl : List (Str × Addr)) (fp : List Addr), QTs (X.blk s H scope (compEnvC scope cl C X.env) fp) c W0 ifs t)
    (he : ∀ (s : Shared) (H : Hp) (C : Addr) (cl : List (Str × Addr)) (fp : List Addr), QE (X.blk s H scope (compEnvC scope cl C X.env) fp) c W0 elt el)
    (hsw : swapsWith (.ListComp elt [⟨tg, it, ifs, 0⟩] scope pos) (some (.Name y py)) spos.line X.env = pure true)
    (his : ∀ i ∈ is, i ∈ own.map (·.2) := by decide) (hy : X.N[i]? = some y := by rfl) (hyl : X.env.scope.names.lookup y = some .local := by rfl) (hs : ∀ x, foldedSetIterable it X.env x = pure x := by intro _; rfl) :
    QS X c W (.Assign [.Name y py] (.ListComp elt [⟨tg, it, ifs, 0⟩] scope pos) spos) (sSet i (fComp fi g t el (own.map (·.2)))) := by
  refine ps_weak (ps_setLc (wi := tX X c W (RI X.w X.K) fi) (g := tG X c g is) (tt := tT X c W0 t) (te := tE X c W0 el) hc hN hy hyl hsw hi ok (fun s H C cl fp => pg_blk (hg s H C cl fp)) (fun s H C cl fp => pts_blk (ht s H C cl fp)) (fun s H C cl fp => pe_blk (he s H C cl fp)) hs) fun D σ H ⟨r, ev, S, x, h⟩ => ?_
  have h := tX.of x (h.onE (R := Rw X.K X.mg) x) fun v H1 q => q
  refine comp_weak his ?_
  obtain ⟨r0, ev0, S0, x0, h⟩ := h
  exact ⟨r0, ev0, S0, x0, h.mono fun v H1 ⟨r1, S1, w, e1, x1, q1, h1⟩ => h1.nx (x1.set hy q1)⟩
end
end DD
/-! part DY -/
set_option Elab.async false
set_option linter.all false
set_option maxRecDepth 100000
set_option maxHeartbeats 4000000
namespace DD
open PySem PySem.Spec PyProof.Rows L2 LamX

/-! ### defs by their bodies -/
def startE (n : Nat) (ws : List Vl) : Ev := ws.map some ++ List.replicate (n - ws.length) none
/-- what a def hands back: its own mutable list is frozen -/
def fin (n : Nat) (w : Vl) (S : Sto) : Option (Except Str Vl × Sto) := match w with
  | .m k => if k < n then some (.ok (.m k), S.take n) else match S[k]? with
    | some (.l xs) => some (.ok (.d (.list xs)), S.take n)
    | _ => none
  | .d x => some (.ok (.d x), S.take n)
  | .f x => some (.ok (.f x), S.take n)
  | .r lo hi => some (.ok (.r lo hi), S.take n)
def mDef (n : Nat) (f : SM) : List Vl → M Vl := fun ws S => match f (startE n ws) S with
  | some (.nx, _, S') => fin S.length (.d .none) S'
  | some (.rt w, _, S') => fin S.length w S'
  | some (.ex x, _, S') => some (.error x, S'.take S.length)
  | _ => none
def cf0 : Cf := ⟨[], false⟩
section
variable {wd : World} {K : PySem.W.Frag} {mg : Str → Option Value} {r r' : Lv} {H H' : Hp} {S S' : Sto}
theorem start_ev {N : List Str} : ∀ {vs : List V} {ws : List Vl}, RwAll K mg r H vs ws → vs.length ≤ N.length → EvR K mg r (L2.start N vs) H (startE N.length ws) := fun {vs ws} q hl i w e => by
  unfold startE at e
  unfold L2.start
  have hlen := q.length
  by_cases hi : i < ws.length
  · rw [List.getElem?_append_left (by simpa using hi), List.getElem?_map] at e
    rw [List.getElem?_append_left (by simpa [hlen] using hi), List.getElem?_map]
    have get : ∀ {vs : List V} {ws : List Vl} {i : Nat} {w : Vl}, RwAll K mg r H vs ws → ws[i]? = some w → ∃ v, vs[i]? = some v ∧ Rw K mg r H v w := by
      intro vs ws i w q
      induction q generalizing i with
      | nil => intro e; simp at e
      | @cons v vs w0 ws h t ih =>
        intro e
        cases i with
        | zero => simp at e; subst e; exact ⟨_, rfl, h⟩
        | succ i => exact ih (by simpa using e)
    cases e2 : ws[i]? with
    | none => rw [e2] at e; cases e
    | some w' =>
      rw [e2] at e
      cases e
      obtain ⟨v, h1, h2⟩ := get q e2
      exact ⟨v, by rw [h1]; rfl, h2⟩
  · rw [List.getElem?_append_right (by simpa using hi), List.getElem?_replicate] at e
    split at e <;> cases e
theorem start_len {N : List Str} {vs : List V} (h : vs.length ≤ N.length) : (L2.start N vs).length = N.length := by
  unfold L2.start
  simp
  omega
theorem Ext.cut (e : Ext false r r' H H') : Ext false r r H H' := ⟨⟨[], by simp, by simp⟩, e.keep, e.dom, e.mu⟩
theorem Rp.cut {v : V} {d : PyData} (e : ∃ new, r' = ⟨r.st ++ new, r.hid⟩) (h : Rp K r' H v d) : Rp K r H v d := by
  obtain ⟨n, rfl⟩ := e
  refine h.map (fun a xs h => ?_) fun a xs h => h
  rcases h with ⟨h, hn⟩ | h
  · exact .inl ⟨h, fun hm => hn.1 (List.mem_append_left _ hm), hn.2⟩
  · exact .inr h
theorem RpAll.cut' {v : List V} {d : List PyData} (e : ∃ new, r' = ⟨r.st ++ new, r.hid⟩) (h : RpAll K r' H v d) : RpAll K r H v d := by
  obtain ⟨n, rfl⟩ := e
  refine h.map (fun a xs h => ?_) fun a xs h => h
  rcases h with ⟨h, hn⟩ | h
  · exact .inl ⟨h, fun hm => hn.1 (List.mem_append_left _ hm), hn.2⟩
  · exact .inr h
theorem StoRel.cut (e : ∃ new, r' = ⟨r.st ++ new, r.hid⟩) (s : StoRel wd K r' H S') : StoRel wd K r H (S'.take r.st.length) := by
  obtain ⟨n, rfl⟩ := e
  have hl : r.st.length + n.length = S'.length := by have := s.len; simpa using this
  refine ⟨(List.nodup_append.mp s.nd).1, by rw [List.length_take]; omega, fun m a xs h1 h2 => ?_, s.hid, fun a ha hm => s.apart a ha (List.mem_append_left _ hm)⟩
  have hm := (List.getElem?_eq_some_iff.mp h1).1
  rw [List.getElem?_take_of_lt hm] at h2
  exact (s.ob m a xs (by show (r.st ++ n)[m]? = some a; rw [List.getElem?_append_left hm]; exact h1) h2).map (fun _ q => q) (fun b ys h => by
    rcases h with ⟨h, hn⟩ | h
    · exact .inl ⟨h, fun hm => hn.1 (List.mem_append_left _ hm), hn.2⟩
    · exact .inr h) fun _ _ q => q
end
theorem fin_ok {wd : World} {K : PySem.W.Frag} {mg : Str → Option Value} {r r' : Lv} {H H' : Hp} {S S' : Sto} {w : Vl} {o : Except Str Vl} {So : Sto} {v : V} (hlen : r.st.length = S.length) (e : Ext false r r' H H') (s : StoRel wd K r' H' S') (q : Rw K mg r' H' v w) (hf : fin S.length w S' = some (o, So)) :
    ∃ w', o = .ok w' ∧ Ext false r r H H' ∧ StoRel wd K r H' So ∧ Rw K mg r H' v w' := by
  have pre : ∃ new, r' = ⟨r.st ++ new, r.hid⟩ := by obtain ⟨n, h, _⟩ := e.pre; exact ⟨n, h⟩
  have sc := s.cut pre
  rw [hlen] at sc
  cases w with
  | d x =>
    cases hf
    exact ⟨_, rfl, e.cut, sc, Rp.cut pre q⟩
  | f x =>
    cases hf
    exact ⟨_, rfl, e.cut, sc, q⟩
  | r lo hi =>
    cases hf
    exact ⟨_, rfl, e.cut, sc, q⟩
  | m k =>
    obtain ⟨a, h1, rfl⟩ := q
    obtain ⟨n, rfl⟩ := pre
    have h1 : (r.st ++ n)[k]? = some a := h1
    simp only [fin] at hf
    split at hf
    · rename_i hk
      cases hf
      refine ⟨_, rfl, e.cut, sc, a, ?_, rfl⟩
      rw [List.getElem?_append_left (by rw [hlen]; exact hk)] at h1
      exact h1
    · rename_i hk
      split at hf
      · rename_i xs hx
        cases hf
        obtain ⟨vs, h3, h4⟩ := s.at_ k a xs h1 hx
        refine ⟨_, rfl, e.cut, sc, .lst (.inl ⟨h3, fun hm => ?_, fun hm => s.apart a hm (List.mem_of_getElem? h1)⟩) (h4.cut' ⟨n, rfl⟩)⟩
        have nd : (r.st ++ n).Nodup := s.nd
        obtain ⟨hlt, hget⟩ := List.getElem?_eq_some_iff.mp h1
        rw [List.getElem_append_right (by rw [hlen]; omega)] at hget
        exact (List.nodup_append.mp nd).2.2 a hm a (hget ▸ List.getElem_mem _) rfl
      · cases hf
section
variable {P : Program} {w : World} {K : PySem.W.Frag} {mg : Str → Option Value} {base : Heap}
/-- a def of the text, by the reading of its body -/
theorem has_def {x qual : Str} {st : Stmt} {f : Addr} {fd : FuncData} {N ps : List Str} {k : Nat} {fb : SM} (F : Fun K x qual st f fd) (hg : mg x = some (.ref f)) (S : FnScope N ps (defScope st)) (b : Binds K fd ps [])
    (hb : ∀ (cdv : Value) (A : Around) (outer : List Env) (s : Shared) (H : Hp) (E : XK), Room k (A.deeper (envOfC qual (defScope st) s.heap.objs.size f cdv)) →
      QSs (cxOf (L2.CX P w) P w K mg base N qual (defScope st) f cdv A outer s H E) cf0 (fun cls d _ H => E cls d H) (defBody st) fb) : Has P w K mg base (k + 1) x ps.length (mDef N.length fb) := by
  have hpl : ps.length ≤ N.length := by have := congrArg List.length S.pre; rw [List.length_take] at this; omega
  refine ⟨f, fd, ps, hg, F.kp, b, ?_⟩
  obtain ⟨oc, od, kV, doc, pm, an, cdv, ct, osl, rfl, lk, hcd⟩ := F.ex
  refine fn_of lk hcd S (fun vs H Q E h => h.1) fun A outer s H vs Q E hr hsp => ⟨_, hb cdv A outer s H E hr, ?_⟩
  obtain ⟨hn, r, Sx, ws, o, S', sto, q, e, h⟩ := hsp
  unfold mDef at e
  cases ef : fb (startE N.length ws) Sx with
  | none => rw [ef] at e; cases e
  | some p =>
    obtain ⟨fl, ev', S2⟩ := p
    rw [ef] at e
    have rel : Rel (cxOf (L2.CX P w) P w K mg base N qual (defScope st) f cdv A outer s H E) cf0 r (L2.start N vs) H (startE N.length ws) Sx := ⟨sto, fun p hp => absurd hp (by simp [cf0]), start_ev q (by omega), start_len (by omega)⟩
    refine ⟨r, _, Sx, rel, fl, ev', S2, ef, ?_⟩
    cases fl with
    | nx =>
      intro r' σ' H' E' x'
      obtain ⟨w', rfl, h1, h2, h3⟩ := fin_ok (K := K) (mg := mg) (v := .non) (w := .d .none) sto.len E' x'.sto (show Rp K r' H' .non .none from .non) e
      exact h .non H' h1 h2 h3
    | bk => cases e
    | ct => cases e
    | rt w0 =>
      intro r' v H' E' s' _ q'
      obtain ⟨w', rfl, h1, h2, h3⟩ := fin_ok sto.len E' s' q' e
      exact h v H' h1 h2 h3
    | ex y =>
      cases e
      obtain ⟨C, hC, h⟩ := h
      refine ⟨C, hC, fun r' σ' H' E' x' => h H' E'.cut ?_⟩
      have pre : ∃ new, r' = ⟨r.st ++ new, r.hid⟩ := by obtain ⟨n, h, _⟩ := E'.pre; exact ⟨n, h⟩
      have sc := x'.sto.cut pre
      rw [sto.len] at sc
      exact sc
end
end DD
/-! part DZ -/
set_option Elab.async false
set_option linter.all false
set_option maxRecDepth 100000
set_option maxHeartbeats 4000000
namespace DD
open PySem PySem.Spec PyProof.Rows L2 LamX

theorem hu64 {k : Nat} {A : Around} (hr : Room k A) : A.units + 64 < cLine := by have := hr.un; omega
theorem hu65 {k : Nat} {A : Around} (hr : Room k A) : A.units + 65 < cLine := by have := hr.un; omega
/-- a def of the text -/
def DefAt (K : PySem.W.Frag) (mg : Str → Option Value) (x : Str) (st : Stmt) (ps : List Str) : Prop := ∃ f fd, Fun K x x st f fd ∧ mg x = some (.ref f) ∧ Binds K fd ps []
section
variable {P : Program} {w : World} {K : PySem.W.Frag} {mg : Str → Option Value} {base : Heap}
theorem has_of {x : Str} {st : Stmt} {N ps : List Str} {k : Nat} {fb : SM} (D : DefAt K mg x st ps) (S : FnScope N ps (defScope st))
    (hb : ∀ (f : Addr) (cdv : Value) (A : Around) (outer : List Env) (s : Shared) (H : Hp) (E : XK), Room k (A.deeper (envOfC x (defScope st) s.heap.objs.size f cdv)) →
      QSs (cxOf (L2.CX P w) P w K mg base N x (defScope st) f cdv A outer s H E) cf0 (fun cls d _ H => E cls d H) (defBody st) fb) : Has P w K mg base (k + 1) x ps.length (mDef N.length fb) := by
  obtain ⟨f, fd, F, hg, b⟩ := D
  exact has_def F hg S b fun cdv A outer s H E hr => hb f cdv A outer s H E hr
theorem has_fail {x : Str} {st : Stmt} {ps : List Str} {k : Nat} (D : DefAt K mg x st ps) : Has P w K mg base k x ps.length (fun _ => M.fail) := by
  obtain ⟨f, fd, F, hg, b⟩ := D
  refine ⟨f, fd, ps, hg, F.kp, b, ⟨fun vs H Q E h => h.1, fun A outer s H args us vs Q E hr he hb hv hs => ?_⟩⟩
  obtain ⟨_, r, S, ws, o, S', _, _, e, _⟩ := hs
  cases e
end

/-! ### [..] * n -/
def fRep (fs : Ev → M (List Vl)) (g : Ev → M Vl) : Ev → M Vl := fun ev => do
  let ws ← fs ev
  let ds ← M.lift (dats ws)
  if ds.length ≤ 1000 then do
    let y ← g ev
    let k ← M.lift (intOf y)
    if -1000000 ≤ k ∧ k ≤ 1000000 ∧ ds.length * k.toNat ≤ 1000000 then pure (.d (.list (List.replicate k.toNat ds).flatten)) else M.fail
  else M.fail
section
variable {X : Cx} {c : Cf} {W : WX} {e : Expr} {es : List Expr} {b : Expr} {f g : Ev → M Vl} {fs : Ev → M (List Vl)} {pos pos2 : Pos}
theorem qe_rep (ha : QA X c W es fs) (hb : QE X c W b g) : QE X c W (.BinOp (.List es pos2) .Mult b pos) (fRep fs g) := by
  refine pe_weak (pe_op op_repR (pe_lst ha) hb) fun σ H Q h => ?_
  obtain ⟨r, ev, S, x, h⟩ := h
  refine tX.of x h.bind fun vs H1 ⟨r1, S1, ws, e1, s1, t1, q1, h1⟩ => ?_
  obtain ⟨ds, ed, h2⟩ := lift_run h1
  have q2 := dats_ok q1 ed
  have x1 := x.ext e1 s1 t1
  split at h2
  · rename_i hz
    refine ⟨by rw [q2.length]; exact small1 hz, fun p hp => ?_⟩
    have E : Ext false r1 r1 H1 (upd H1 p (.lst vs)) := Ext.new s1.mu hp
    have x2 : Rel X c r1 σ (upd H1 p (.lst vs)) ev S1 := x1.ext' E (s1.new hp)
    have q3 := q2.ext E
    obtain ⟨o, S', eo, ho⟩ := h2
    have h2' : tRun X c W (Rw X.K X.mg) r1 σ (upd H1 p (.lst vs)) S1 _ Q := ⟨o, S', eo, by
      cases o with
      | ok w => exact fun r' v H' e' s' t' q' => ho r' v H' (E.up.trans e') s' t' q'
      | error y =>
        obtain ⟨C, hC, ho⟩ := ho
        exact ⟨C, hC, fun r' H' e' s' t' => ho r' H' (E.up.trans e') s' t'⟩⟩
    refine tX.of x2 h2'.bind fun y H3 ⟨r3, S3, w3, e3, s3, t3, q4, h3⟩ => ?_
    obtain ⟨k, ek, h4⟩ := lift_run h3
    have ek' := intOf_ok q4 ek
    subst ek'
    split at h4
    · rename_i hb
      have hP : H3 p = some (.lst vs) := by
        rcases e3.keep p _ upd_same (s1.no hp).1 with q | ⟨_, ps, q⟩
        · exact q
        · cases q
      refine ⟨p, k, vs, rfl, rfl, .inl hP, by omega, by omega, by rw [q2.length]; exact szl hb.2.2, fun p2 hp2 => ?_⟩
      exact (acc_of h4 t3).new s3 hp2 (.lst (.inl ⟨upd_same, s3.no hp2⟩) (((q3.ext e3).rep k.toNat).ext (Ext.new (lam := false) s3.mu hp2)))
    · exact (fail_run h4).elim
  · exact (fail_run h2).elim

/-! ### written tables of defs, by text keys -/
/-- at x stands a written dict: texts to defs -/
structure Tab (K : PySem.W.Frag) (w : World) (mg : Str → Option Value) (x : Str) (tb : List (Str × Str)) : Prop where
  ex : ∃ d es n, mg x = some (.ref d) ∧ KDict K w d es n ∧ ∀ z, ∃ r, PySem.W.nsIn K d z = some r ∧ match tb.lookup z with
    | some f => ∃ a, r = some (.ref a) ∧ mg f = some (.ref a)
    | none => r = none
def fTab (tb : List (Str × Str)) (f : Ev → M Vl) : Ev → M Vl := fun ev => do
  let y ← f ev
  match y with
  | .d (.str z) => match tb.lookup z with
    | some g => pure (.f g)
    | none => M.fail
  | _ => M.fail
def fInTab (neg : Bool) (tb : List (Str × Str)) (f : Ev → M Vl) : Ev → M Vl := fun ev => do
  let y ← f ev
  match y with
  | .d (.str z) => pure (.d (.bool (if neg then !(tb.lookup z).isSome else (tb.lookup z).isSome)))
  | _ => M.fail
theorem qe_tab {x : Str} {tb : List (Str × Str)} {p : Pos} (T : Tab X.K X.w X.mg x tb) (hg : Gl X x) (hb : QE X c W b f) (hd : (x == ("__debug__" : Str)) = false := by decide) (hs : PlainIx b := by exact fun _ _ => rfl) : QE X c W (.Subscript (.Name x p) b pos) (fTab tb f) := by
  obtain ⟨d, es, n, hm, D, hz⟩ := T.ex
  have hi : IxR X (fun x y H Q => ∃ (z : Str) (u0 : Value) (v0 : V), x = .ref d ∧ y = .str z ∧ PySem.W.nsIn X.K d z = some (some u0) ∧ RelV v0 u0 ∧ Q v0 H) := by
    intro value slice pins s σ H x y v u Q I rx ry h hs
    have hh := op_item_kd D pins s σ H x y v u Q I rx ry h
    obtain ⟨z, u0, v0, rfl, rfl, _⟩ := h
    cases rx
    exact tail_any (kd_type D I) slot_dict_getitem.lookup hh hs
  refine pe_weak (pe_ix hi (pe_glob (v := .ref d) hg hm rfl hd) hb hs) fun σ H Q h => ?_
  obtain ⟨r, ev, S, x', h⟩ := h
  refine tX.of x' h.bind fun v H1 ⟨r1, S1, w, e1, s1, t1, q1, h1⟩ => ?_
  try dsimp only at h1
  split at h1
  · rename_i z
    obtain ⟨r0, h2, h3⟩ := hz z
    cases el : tb.lookup z with
    | none =>
      rw [el] at h1
      exact (fail_run h1).elim
    | some g =>
      rw [el] at h1 h3
      obtain ⟨a, rfl, hg2⟩ := h3
      cases q1
      exact ⟨z, _, .ref a, rfl, rfl, h2, rfl, h1.pure rfl s1 t1 ⟨a, hg2, rfl⟩⟩
  · exact (fail_run h1).elim
theorem inTab_weak {neg : Bool} {x : Str} {tb : List (Str × Str)} {d : Addr} {σ : L2.St} {H : Hp} {Q : VK} (hz : ∀ z, ∃ r, PySem.W.nsIn X.K d z = some r ∧ match tb.lookup z with
    | some f => ∃ a, r = some (.ref a) ∧ X.mg f = some (.ref a)
    | none => r = none) (h : tE X c W (fInTab neg tb f) σ H Q) : tOp (fun x y H Q => ∃ (z : Str) (r : Option Value), x = .str z ∧ y = .ref d ∧ PySem.W.nsIn X.K d z = some r ∧ Q (.bl (if neg then !r.isSome else r.isSome)) H) (tE X c W f) (tC (.ref d)) σ H Q := by
  obtain ⟨r, ev, S, x', h⟩ := h
  refine tX.of x' h.bind fun v H1 ⟨r1, S1, w, e1, s1, t1, q1, h1⟩ => ?_
  try dsimp only at h1
  split at h1
  · rename_i z
    obtain ⟨r0, h2, h3⟩ := hz z
    cases q1
    refine ⟨z, r0, rfl, rfl, h2, ?_⟩
    have e : r0.isSome = (tb.lookup z).isSome := by
      cases el : tb.lookup z with
      | none => rw [el] at h3; subst h3; rfl
      | some g => rw [el] at h3; obtain ⟨a, rfl, _⟩ := h3; rfl
    rw [e]
    exact h1.pure rfl s1 t1 (.bl _)
  · exact (fail_run h1).elim
theorem op_inTab {neg : Bool} {d : Addr} {es : Array DictEntry} {n : Nat} (D : KDict X.K X.w d es n) : OpR X (compareOp (if neg then .NotIn else .In)) (fun x y H Q => ∃ (z : Str) (r : Option Value), x = .str z ∧ y = .ref d ∧ PySem.W.nsIn X.K d z = some r ∧ Q (.bl (if neg then !r.isSome else r.isSome)) H) := by
  cases neg with
  | true => exact op_notIn_kd D
  | false => exact op_in_kd D
theorem qe_inTab (neg : Bool) {x : Str} {tb : List (Str × Str)} {p : Pos} (T : Tab X.K X.w X.mg x tb) (hg : Gl X x) (ha : QE X c W e f) (hd : (x == ("__debug__" : Str)) = false := by decide)
    (hm : behindInMarks (if neg then .NotIn else .In) (.Name x p) = false := by with_unfolding_all rfl) : QE X c W (.Compare e [if neg then .NotIn else .In] [.Name x p] pos) (fInTab neg tb f) := by
  obtain ⟨d, es, n, hmg, D, hz⟩ := T.ex
  exact pe_weak (pe_cmpR (op_inTab D) ha (pe_glob (v := .ref d) hg hmg rfl hd) hm) fun σ H Q h => inTab_weak (x := x) hz h
theorem qt_inTab (neg : Bool) {x : Str} {tb : List (Str × Str)} {p : Pos} (T : Tab X.K X.w X.mg x tb) (hg : Gl X x) (ha : QE X c W e f) (hd : (x == ("__debug__" : Str)) = false := by decide)
    (hm : behindInMarks (if neg then .NotIn else .In) (.Name x p) = false := by with_unfolding_all rfl) : QT X c W (.Compare e [if neg then .NotIn else .In] [.Name x p] pos) (fB (fInTab neg tb f)) := by
  obtain ⟨d, es, n, hmg, D, hz⟩ := T.ex
  exact pt_weak (pt_cmpR (op_inTab D) ha (pe_glob (v := .ref d) hg hmg rfl hd) hm) fun σ H Q h => inTab_weak (x := x) hz (fB_of h)

/-! ### a local name that holds a def -/
/-- the defs that it may hold, with their readings -/
def vlook (vt : List (Str × Nat × (List Vl → M Vl))) (g : Str) : Option (Nat × (List Vl → M Vl)) := vt.lookup g
def fCallV (i : Nat) (vt : List (Str × Nat × (List Vl → M Vl))) (fs : Ev → M (List Vl)) : Ev → M Vl := fun ev => do
  let w ← fVar i ev
  match w with
  | .f g => match vlook vt g with
    | some (n, m) => do
      let ws ← fs ev
      if ws.length = n then m ws else M.fail
    | none => M.fail
  | _ => M.fail
def VtOk (X : Cx) (k : Nat) (vt : List (Str × Nat × (List Vl → M Vl))) : Prop := ∀ g n m, vlook vt g = some (n, m) → HasX X k g n m
theorem vt_nil {k : Nat} : VtOk X k [] := fun g n m h => by cases h
theorem vt_cons {k : Nat} {g0 : Str} {n0 : Nat} {m0 : List Vl → M Vl} {vt : List (Str × Nat × (List Vl → M Vl))} (h : HasX X k g0 n0 m0) (t : VtOk X k vt) : VtOk X k ((g0, n0, m0) :: vt) := fun g n m e => by
  unfold vlook at e
  rw [List.lookup_cons] at e
  split at e
  · rename_i hg
    cases e
    have : g = g0 := by simpa using hg
    subst this
    exact h
  · exact t g n m e
theorem qe_callV (i : Nat) {k : Nat} {x : Str} {p : Pos} {vt : List (Str × Nat × (List Vl → M Vl))} (V : VtOk X k vt) (hr : Room k X.A) (tk : Takes X W) (ha : QA X c W (e :: es) fs) (hN : X.N[i]? = some x := by rfl)
    (hv : Vis X.env.scope x := by first | exact Or.inl rfl | exact Or.inr (Or.inl rfl) | exact Or.inr (Or.inr rfl)) (hdb : (x == ("__debug__" : Str)) = false := by decide) (hcd : (x == ("__classdict__" : Str)) = false := by decide)
    (he : starEach (e :: es) X.env = (false, eval e X.env) :: starEach es X.env := by rfl) (hpl : (backTo pos (starEach es X.env)).any (·.1) = false := by rfl) : QE X c W (.Call (.Name x p) (e :: es) [] pos) (fCallV i vt fs) := by
  refine ⟨fun pins s σ H Q I h => ?_⟩
  obtain ⟨r, ev, S, x', h⟩ := h
  have hb := h.bind (R1 := Rw X.K X.mg)
  unfold fVar at hb
  split at hb
  · rename_i w q
    obtain ⟨v, g1, g2⟩ := x'.ev i w q
    obtain ⟨r1, S1, w1, e1, s1, t1, q1, h3⟩ := hb.pure rfl x'.sto x'.tabs g2
    have x1 := x'.ext e1 s1 t1
    try dsimp only at h3
    split at h3
    · rename_i g
      split at h3
      · rename_i n m el
        obtain ⟨f, fd, ps, k1, k2, k3, k4⟩ := V g n m el
        obtain ⟨a, ha1, hv1⟩ := q1
        rw [k1] at ha1
        cases ha1
        subst hv1
        refine wpAny_Call_Name_kw (thn ((pe_var (pos := p) hN hv hdb hcd).run pins s σ H (fun v H1 => v = .ref f ∧ H1 = H) I ⟨.ref f, g1, rfl, rfl⟩) fun u s2 ⟨v, H1, I1, r1', q1'⟩ => ?_)
        obtain ⟨rfl, rfl⟩ := q1'
        cases r1'
        have hA := tX.of (R := RwAll X.K X.mg) x1 h3.bind fun vs H1 q => q
        refine PySem.W.callWith_K (h₀ := X.base) I.ok.mod.kin k2 (thn (ha.run pos pins s2 σ _ _ I1 hA) fun us s3 ⟨vs, H2, I2, r2, q2⟩ => ⟨I2.kIn, ?_⟩) he hpl
        obtain ⟨r3, S3, ws, e3, s3', t3, q3, h4⟩ := q2
        split at h4
        · rename_i hn
          exact run_fnS k4 hr k3 (passAt tk σ) I2 r2 (sp_of h4 s3' t3 q3 hn)
        · exact (fail_run h4).elim
      · exact (fail_run h3).elim
    · exact (fail_run h3).elim
  · exact (fail_run hb).elim
/-- a def's name as a value -/
def fFn (x : Str) : Ev → M Vl := fun _ => pure (.f x)
theorem qe_fn {x : Str} (D : ∃ a, X.mg x = some (.ref a)) (hg : Gl X x) (hd : (x == ("__debug__" : Str)) = false := by decide) : QE X c W (.Name x pos) (fFn x) := by
  obtain ⟨a, ha⟩ := D
  refine pe_weak (pe_glob (v := .ref a) hg ha rfl hd) fun σ H Q ⟨r, ev, S, x', h⟩ => h.pure rfl x'.sto x'.tabs ⟨a, ha, rfl⟩
end
end DD
/-! part DQ -/
set_option Elab.async false
set_option linter.all false
set_option maxRecDepth 100000
set_option maxHeartbeats 4000000
namespace DD
open PySem PySem.Spec PyProof.Rows L2 LamX

/-! ### sum -/
theorem preSum_ints (ns : List Int) : ∀ n, n ≤ ns.length → preSum (fun i => ns.getD i 0) n = (ns.take n).sum
  | 0, _ => by simp [preSum]
  | n + 1, h => by
    have hn : n < ns.length := by omega
    rw [preSum, preSum_ints ns n (by omega), List.take_succ, List.sum_append]
    simp [List.getD, List.getElem?_eq_getElem hn]
section
variable {X : Cx} {K : PySem.W.Frag} {r : Lv} {H : Hp} {S : Sto}
def rSumT (K : PySem.W.Frag) : List V → Hp → VK → Prop := fun vs H Q => ∃ (a : Addr) (ns : List Int), vs = [V.ref a] ∧ SqT K H a (ns.map V.int) ∧ Q (.int ns.sum) H
theorem cr_sumT (hc : X.calm = true) : CallR X (.builtin "sum") (rSumT X.K) := by
  intro pins s σ H vs us Q I r h
  obtain ⟨a, ns, rfl, hs, q⟩ := h
  obtain ⟨its, rv, hl, _⟩ := I.tuple hs
  rw [Vals.ref1 r]
  have hi := rv.ints
  have hlt : a < s.heap.objs.size := by obtain ⟨_, e, _⟩ := id hl; exact Heap.lt_size e
  have hlen := rv.length
  refine call_sum_walkG (wpAny_pyIter_tuple (show s.heap.IsTuple a its.toArray from hl) ?_)
  have hT2 : (s.heap.push { cls := .type "tuple_iterator", data := .fields #[.ref a, .int 0 0] }).IsTuple a its.toArray := by
    obtain ⟨o, e, c⟩ := id hl
    exact ⟨o, Heap.get?_push_of_some _ e, c⟩
  refine ⟨_, _, _, _, _, _, fun i => ns.getD i 0, rfl, Walks.tuple (A := X.A.in1) (I.ok.hd hc) s.heap.objs.size a (Nat.ne_of_lt hlt) its.toArray, ⟨⟨_, Heap.get?_push_size _ rfl, rfl, rfl⟩, hT2⟩, fun b hb => ?_, fun i v hv => ?_, fun h' tk t' hk => ?_⟩
  · rw [Heap.size_push]
    rcases List.mem_cons.mp hb with e | hb
    · rw [e]; exact Nat.lt_succ_self _
    · have e : b = a := by simpa using hb
      rw [e]; exact Nat.lt_succ_of_lt hlt
  · have hv' : its[i]? = some v := by simpa using hv
    have : ∀ {us : List Value} {ns : List Int} {i : Nat} {v : Value}, Vals (ns.map V.int) us → us[i]? = some v → ∃ t, v = .int (ns.getD i 0) t := by
      intro us ns
      induction ns generalizing us with
      | nil => intro i v h e; cases h; simp at e
      | cons n ns ih =>
        intro i v h e
        cases h with
        | cons a b =>
          cases i with
          | zero => simp at e; subst e; obtain ⟨t, rfl⟩ := a; exact ⟨t, rfl⟩
          | succ i => exact ih b (by simpa using e)
    exact this rv hv'
  · refine ⟨.int _, H, I.kept fun b o eo => hk b o (fun hmem => ?_) (Heap.get?_push_of_some _ eo), ⟨_, rfl⟩, ?_⟩
    · rcases List.mem_cons.mp hmem with e1 | hmem
      · exact absurd (e1 ▸ Heap.lt_size eo) (Nat.lt_irrefl _)
      · cases hmem
    · have e : its.toArray.size = ns.length := by rw [List.size_toArray, ← hlen, List.length_map]
      rw [e, preSum_ints ns _ (Nat.le_refl _), List.take_length]
      exact q
theorem q_sum (hc : X.calm = true) : CallQ X (.builtin "sum") sumP := by
  refine ⟨_, (cr_sum hc).or (cr_sumT hc), fun r H S vs ds z Q s qs e A => ?_⟩
  unfold sumP at e
  split at e
  · obtain ⟨v, rfl, q⟩ := qs.one
    obtain ⟨a, us, rfl, h1, h2⟩ := q.list
    obtain ⟨ns, eb, rfl⟩ := Option.map_eq_some_iff.mp e
    refine .inl ⟨a, ns, rfl, ?_, A.here s (.int _)⟩
    rw [← (intsD_ok h2 eb).1]; exact h1
  · obtain ⟨v, rfl, q⟩ := qs.one
    obtain ⟨a, us, rfl, h1, h2⟩ := q.tup
    obtain ⟨ns, eb, rfl⟩ := Option.map_eq_some_iff.mp e
    refine .inr ⟨a, ns, rfl, ?_, A.here s (.int _)⟩
    rw [← (intsD_ok h2 eb).1]; exact h1
  · cases e
end

/-! ### list(x) that will be changed -/
def fMutL (f : Ev → M (List Vl)) : Ev → M Vl := fun ev => do
  let ws ← f ev
  let ds ← rdAll ws
  match ds with
  | [.list xs] => M.newL xs
  | [.tuple xs] => M.newL xs
  | _ => M.fail
section
variable {X : Cx} {c : Cf} {W : WX} {e : Expr} {es : List Expr} {fs : Ev → M (List Vl)} {pos : Pos}
theorem newL_run {r : Lv} {σ : L2.St} {H : Hp} {S : Sto} {xs : List PyData} {vs : List V} {Q : VK} {l : Addr} (h : tRun X c W (Rw X.K X.mg) r σ H S (M.newL xs) Q) (s : StoRel X.w X.K r H S) (t : Tabs c.T H) (hl : H l = none) (q : RpAll X.K r H vs xs) : Q (.ref l) (upd H l (.lst vs)) := by
  obtain ⟨o, S', e', h3⟩ := h
  cases e'
  have E : Ext false r ⟨r.st ++ [l], r.hid⟩ H (upd H l (.lst vs)) := Ext.newL s.mu hl
  exact h3 ⟨r.st ++ [l], r.hid⟩ (.ref l) _ E.up (s.newL hl q) (tabs_ext E t) ⟨l, by show (r.st ++ [l])[S.length]? = some l; rw [← s.len, List.getElem?_append_right (Nat.le_refl _)]; simp, rfl⟩
theorem qe_mutL {p : Pos} (hg : Gl X "list") (hm : X.mg "list" = none) (ha : QA X c W [e] fs) (he : starEach [e] X.env = (false, eval e X.env) :: starEach [] X.env := by rfl) (hpl : (backTo pos (starEach [] X.env)).any (·.1) = false := by rfl) :
    QE X c W (.Call (.Name "list" p) [e] [] pos) (fMutL fs) := pe_weak (pe_callTy call_list_of hg hm PyProof.Rows.boot_list ha (by decide) (by decide) he hpl) fun σ H Q h => by
  obtain ⟨r, ev, S, x, h⟩ := h
  refine tX.of x h.bind fun vs H1 ⟨r1, S1, ws, e1, s1, t1, q1, h1⟩ => ?_
  obtain ⟨ds, qd, h2⟩ := rdAll_run h1 s1 q1
  try dsimp only at h2
  split at h2
  · obtain ⟨v, rfl, q⟩ := qd.one
    obtain ⟨a, us, rfl, g1, g2⟩ := q.list
    exact ⟨a, us, rfl, .inl g1, fun l hl => newL_run h2 s1 t1 hl g2⟩
  · obtain ⟨v, rfl, q⟩ := qd.one
    obtain ⟨a, us, rfl, g1, g2⟩ := q.tup
    exact ⟨a, us, rfl, .inr g1, fun l hl => newL_run h2 s1 t1 hl g2⟩
  · exact (fail_run h2).elim
end

/-! ### zip of two lists or two tuples, walked -/
def zipD : List PyData → List PyData → List PyData
  | a :: as, b :: bs => .tuple [a, b] :: zipD as bs
  | _, _ => []
theorem zipD_get : ∀ {as bs : List PyData} {i : Nat} {d : PyData}, (zipD as bs)[i]? = some d → ∃ a b, as[i]? = some a ∧ bs[i]? = some b ∧ d = .tuple [a, b]
  | a :: as, b :: bs, 0, d, h => by simp [zipD] at h; exact ⟨a, b, rfl, rfl, h.symm⟩
  | a :: as, b :: bs, i + 1, d, h => by
    obtain ⟨x, y, h1, h2, h3⟩ := zipD_get (as := as) (bs := bs) (i := i) (d := d) (by simpa [zipD] using h)
    exact ⟨x, y, by simpa using h1, by simpa using h2, h3⟩
  | [], _, _, _, h => by simp [zipD] at h
  | _ :: _, [], _, _, h => by simp [zipD] at h
theorem zipD_len : ∀ {as bs : List PyData}, (zipD as bs).length = min as.length bs.length
  | a :: as, b :: bs => by simp [zipD, zipD_len (as := as) (bs := bs)]
  | [], _ => by simp [zipD]
  | _ :: _, [] => by simp [zipD]
def zipP : List PyData → Option (List PyData)
  | [.list as, .list bs] => some (zipD as bs)
  | [.tuple as, .tuple bs] => some (zipD as bs)
  | _ => none
def fZip (f : Ev → M (List Vl)) : Ev → M (List PyData) := fun ev => do
  let ws ← f ev
  let a ← M.lift (dats ws)
  M.lift (zipP a)
end DD
/-! part DR -/
set_option Elab.async false
set_option linter.all false
set_option maxRecDepth 100000
set_option maxHeartbeats 4000000
namespace DD
open PySem PySem.Spec PyProof.Rows L2 LamX RZ

/-! ### zip, walked -/
theorem yields_zip {a b : Addr} {ds es : List PyData} {vs us : List V} {K : PySem.W.Frag} {wd : World} : Yields wd K (Itz K a b) (zipD ds es) (fun r H => (SqF K r H a vs ∧ RpAll K r H vs ds) ∧ (SqF K r H b us ∧ RpAll K r H us es)) where
  go := fun r H i ⟨⟨h1, h2⟩, h3, h4⟩ hi => by
    rw [zipD_len] at hi
    exact ⟨vs, us, vs[i]'(by rw [h2.length]; omega), us[i]'(by rw [h4.length]; omega), h1.sq, h3.sq, List.getElem?_eq_getElem _, List.getElem?_eq_getElem _⟩
  yld := fun r H S i d x H' ⟨⟨h1, h2⟩, h3, h4⟩ s hd y => by
    obtain ⟨T, x', y', rfl, hT, rfl, f1, f2⟩ := y
    obtain ⟨p, q, hp, hq, rfl⟩ := zipD_get hd
    obtain ⟨v, hv, qv⟩ := h2.get hp
    obtain ⟨u, hu, qu⟩ := h4.get hq
    have g1 := f1 vs h1.sq
    have g2 := f2 us h3.sq
    rw [hv] at g1
    rw [hu] at g2
    cases g1; cases g2
    have E := Ext.new (lam := false) (o := HO.tup [x', y']) s.mu hT
    exact ⟨E, s.new hT, .tup (.inl (.inl upd_same)) (.cons (qv.ext E) (.cons (qu.ext E) .nil))⟩
  stop := fun r H ⟨⟨h1, h2⟩, h3, h4⟩ => ⟨vs, us, h1.sq, h3.sq, by rw [zipD_len, h2.length, h4.length]; omega⟩
  ext := fun lam r r' H H' ⟨⟨h1, h2⟩, h3, h4⟩ e => ⟨⟨e.sqf h1, h2.ext e⟩, e.sqf h3, h4.ext e⟩
  hide := fun r H S D ⟨⟨h1, h2⟩, h3, h4⟩ s hD => ⟨⟨h1.hide hD, h2.hide hD⟩, h3.hide hD, h4.hide hD⟩
  putH := fun r H S D xs ⟨⟨h1, h2⟩, h3, h4⟩ s hD => ⟨⟨h1.putH s hD, Ext.putH s.mu hD h2⟩, h3.putH s hD, Ext.putH s.mu hD h4⟩
theorem yields_zipT {a b : Addr} {ds es : List PyData} {vs us : List V} {K : PySem.W.Frag} {wd : World} : Yields wd K (ItzT K a b) (zipD ds es) (fun r H => (SqT K H a vs ∧ RpAll K r H vs ds) ∧ (SqT K H b us ∧ RpAll K r H us es)) where
  go := fun r H i ⟨⟨h1, h2⟩, h3, h4⟩ hi => by
    rw [zipD_len] at hi
    exact ⟨vs, us, vs[i]'(by rw [h2.length]; omega), us[i]'(by rw [h4.length]; omega), h1, h3, List.getElem?_eq_getElem _, List.getElem?_eq_getElem _⟩
  yld := fun r H S i d x H' ⟨⟨h1, h2⟩, h3, h4⟩ s hd y => by
    obtain ⟨T, x', y', rfl, hT, rfl, f1, f2⟩ := y
    obtain ⟨p, q, hp, hq, rfl⟩ := zipD_get hd
    obtain ⟨v, hv, qv⟩ := h2.get hp
    obtain ⟨u, hu, qu⟩ := h4.get hq
    have g1 := f1 vs h1
    have g2 := f2 us h3
    rw [hv] at g1
    rw [hu] at g2
    cases g1; cases g2
    have E := Ext.new (lam := false) (o := HO.tup [x', y']) s.mu hT
    exact ⟨E, s.new hT, .tup (.inl (.inl upd_same)) (.cons (qv.ext E) (.cons (qu.ext E) .nil))⟩
  stop := fun r H ⟨⟨h1, h2⟩, h3, h4⟩ => ⟨vs, us, h1, h3, by rw [zipD_len, h2.length, h4.length]; omega⟩
  ext := fun lam r r' H H' ⟨⟨h1, h2⟩, h3, h4⟩ e => ⟨⟨e.sqt h1, h2.ext e⟩, e.sqt h3, h4.ext e⟩
  hide := fun r H S D ⟨⟨h1, h2⟩, h3, h4⟩ s hD => ⟨⟨sqt_ne h1 (.inr hD), h2.hide hD⟩, sqt_ne h3 (.inr hD), h4.hide hD⟩
  putH := fun r H S D xs ⟨⟨h1, h2⟩, h3, h4⟩ s hD => ⟨⟨sqt_ne h1 (.inl (s.mu D (.inr hD))), Ext.putH s.mu hD h2⟩, sqt_ne h3 (.inl (s.mu D (.inr hD))), Ext.putH s.mu hD h4⟩
section
variable {X : Cx} {c : Cf} {W : WX} {a b : Expr} {fs : Ev → M (List Vl)}
theorem qi_zip {p pos tpos : Pos} {elts : List Expr} {kk : Nat} (hg : Gl X "zip") (hm : X.mg "zip" = none) (ha : QA X c W [a, b] fs) (hs : starEach [a, b] X.env = (false, eval a X.env) :: starEach [b] X.env := by rfl) (hpl : (backTo pos (starEach [b] X.env)).any (·.1) = false := by rfl) :
    QI X c W (.Tuple elts kk tpos) (.Call (.Name "zip" p) [a, b] [] pos) (fZip fs) := pi_weak (pi_zipA hg hm ha hs hpl) fun σ H R h => by
  obtain ⟨r, ev, S, x, h⟩ := h
  refine tX.of x h.bind fun vs H1 ⟨r1, S1, ws, e1, s1, t1, q1, h1⟩ => ?_
  obtain ⟨ds, ed, h2⟩ := lift_run h1
  have q2 := dats_ok q1 ed
  obtain ⟨z, ez, h3⟩ := tX_last (b := Itr 0 0) h2
  unfold zipP at ez
  split at ez
  · cases ez
    cases q2 with
    | cons q t =>
      cases t with
      | cons q' t =>
        cases t
        cases q with
        | lst g1 g2 =>
          cases q' with
          | lst g3 g4 => exact ⟨_, _, _, _, rfl, .inl ⟨g1.sq, g3.sq, h3.pure rfl s1 t1 ⟨_, yields_zip, ⟨g1, g2⟩, g3, g4⟩⟩⟩
  · cases ez
    cases q2 with
    | cons q t =>
      cases t with
      | cons q' t =>
        cases t
        cases q with
        | tup g1 g2 =>
          cases q' with
          | tup g3 g4 => exact ⟨_, _, _, _, rfl, .inr ⟨g1, g3, h3.pure rfl s1 t1 ⟨_, yields_zipT, ⟨g1, g2⟩, g3, g4⟩⟩⟩
  · cases ez
end
end DD
/-! part DN -/
set_option Elab.async false
set_option linter.all false
set_option maxRecDepth 100000
set_option maxHeartbeats 4000000
namespace DD
open PySem PySem.Spec PyProof.Rows L2 LamX

/-! ### list comprehensions of several clauses: the turns of the clause at a depth -/
theorem compTurnN_more (elt : Expr) (gens : List Comprehension) (scope : Scope) (pos : Pos) (depth : Nat) (t0 i0 t1 i1 : Expr) (ifs0 ifs1 : List Expr) (it acc : Value) (env : Env)
    (h0 : gens[depth]? = some ⟨t0, i0, ifs0, 0⟩) (h1 : gens[depth + 1]? = some ⟨t1, i1, ifs1, 0⟩) :
    compTurn (.ListComp elt gens scope pos) depth it acc env = (do
      standAt i0.pos
      match ← pyNext it with
      | none => pure (.done .next)
      | some v =>
        letOwnedTupleGo t0 it v
        assign t0 env v
        let mut ok := true
        for c in ifs0 do
          if ok then ok ← isTrue c env (eval c env)
        if ok then
          let x ← eval i1 env
          standAt i1.pos
          let x ← foldedSetIterable i1 env x
          let _ ← runOwn (.compStart (.ListComp elt gens scope pos) (depth + 1) (← holding [x] (pyIter x)) acc env) env
        again (.compLoop (.ListComp elt gens scope pos) depth it acc env)) := by
  unfold compTurn
  simp only [h0, h1]
  rfl
theorem compTurnN_last (elt : Expr) (gens : List Comprehension) (scope : Scope) (pos : Pos) (depth : Nat) (t0 i0 : Expr) (ifs0 : List Expr) (it acc : Value) (env : Env)
    (h0 : gens[depth]? = some ⟨t0, i0, ifs0, 0⟩) (h1 : gens[depth + 1]? = none) :
    compTurn (.ListComp elt gens scope pos) depth it acc env = (do
      standAt i0.pos
      match ← pyNext it with
      | none => pure (.done .next)
      | some v =>
        letOwnedTupleGo t0 it v
        assign t0 env v
        let mut ok := true
        for c in ifs0 do
          if ok then ok ← isTrue c env (eval c env)
        if ok then
          (do let _ ← call (.builtin "list.append") [acc, ← eval elt env])
        again (.compLoop (.ListComp elt gens scope pos) depth it acc env)) := by
  unfold compTurn
  simp only [h0, h1]
  rfl
/-- what a turn does behind its tests: the item, or the next clause's loop -/
def EmitW (P : Program) (w : World) (A : Around) (elt : Expr) (gens : List Comprehension) (scope : Scope) (pos : Pos) (depth : Nat) (acc : Value) (env : Env) (R : Shared → Prop) (s : Shared) : Prop :=
  match gens[depth + 1]? with
  | none => wpAny (model P w) A (eval elt env) (fun x s4 => wpAny (model P w) A (call (.builtin "list.append") [acc, x]) (fun _ s5 => R s5) (fun _ _ => False) s4) (fun _ _ => False) s
  | some g => g.is_async = 0 ∧ (∀ x, foldedSetIterable g.iter env x = pure x) ∧ wpAny (model P w) A (eval g.iter env) (fun x s4 => wpAny (model P w) A (pyIter x) (fun it1 s5 =>
      codeAny (model P w) A (.compStart (.ListComp elt gens scope pos) (depth + 1) it1 acc env) (fun r s' => match r with
        | .ok _ => R s'
        | .error _ => False) s5) (fun _ _ => False) s4) (fun _ _ => False) s
section
variable {P : Program} {w : World} {A : Around} {R : Result → Shared → Prop} {s : Shared} {elt : Expr} {gens : List Comprehension} {scope : Scope} {pos : Pos} {depth : Nat} {t0 i0 : Expr} {ifs0 : List Expr} {it acc : Value} {env : Env}
theorem compLoopN (h0 : gens[depth]? = some ⟨t0, i0, ifs0, 0⟩) (ha : ∀ g, gens[depth + 1]? = some g → g.is_async = 0) (I : Nat → Shared → Prop)
    (turn : ∀ n s, I n s → wpAny (model P w) A (pyNext it) (fun r s1 => match r with
      | none => R (.ok .next) s1
      | some v => wpAny (model P w) A (letOwnedTupleGo t0 it v) (fun _ s1' => wpAny (model P w) A (assign t0 env v) (fun _ s2 =>
          wpAny (model P w) A (forIn ifs0 true fun c r => if r = true then do let ok ← isTrue c env (eval c env); pure (ForInStep.yield ok) else pure (ForInStep.yield r)) (fun ok s3 =>
            if ok = true then EmitW P w A elt gens scope pos depth acc env (fun s => ∃ m, m < n ∧ I m s) s3
            else ∃ m, m < n ∧ I m s3) (fun _ _ => False) s2) (fun _ _ => False) s1') (fun _ _ => False) s1) (fun _ _ => False) s)
    (n : Nat) (h : I n s) :
    codeAny (model P w) A (.compLoop (.ListComp elt gens scope pos) depth it acc env) R s := by
  refine codeAny_loop rfl I (fun n s hI => ?_) n h
  show wpAny _ A ((compTurn (.ListComp elt gens scope pos) depth it acc env).onRaise (fun x => do noteFrame x env; theTreesLotGoes x)) _ _ s
  refine wpAny_noted ?_
  unfold EmitW at turn
  cases h1 : gens[depth + 1]? with
  | none =>
    rw [h1] at turn
    rw [compTurnN_last elt gens scope pos depth t0 i0 ifs0 it acc env h0 h1]
    refine wpAny_bind (wpAny_standAt (wpAny_bind (wpAny_mono (turn n s hI) (fun r s1 g1 => ?_) fun _ _ h' => h'.elim)))
    cases r with
    | none => exact wpAny_pure g1
    | some v =>
      refine wpAny_bind (wpAny_mono g1 (fun _ s1' g1' => ?_) fun _ _ h' => h'.elim)
      refine wpAny_bind (wpAny_mono g1' (fun _ s2 g2 => wpAny_bind (wpAny_mono g2 (fun ok s3 g3 => ?_) fun _ _ h' => h'.elim)) fun _ _ h' => h'.elim)
      cases ok with
      | false => exact wpAny_pure ⟨rfl, g3⟩
      | true =>
        exact wpAny_bind (wpAny_bind (wpAny_mono g3 (fun x s4 h₄ => wpAny_bind (wpAny_mono h₄ (fun _ s5 h₅ => wpAny_pure (wpAny_pure ⟨rfl, h₅⟩)) fun _ _ h' => h'.elim)) fun _ _ h' => h'.elim))
  | some g =>
    obtain ⟨t1, i1, ifs1, as⟩ := g
    rw [h1] at turn
    have as0 : as = 0 := ha _ h1
    subst as0
    · rw [compTurnN_more elt gens scope pos depth t0 i0 t1 i1 ifs0 ifs1 it acc env h0 h1]
      refine wpAny_bind (wpAny_standAt (wpAny_bind (wpAny_mono (turn n s hI) (fun r s1 g1 => ?_) fun _ _ h' => h'.elim)))
      cases r with
      | none => exact wpAny_pure g1
      | some v =>
        refine wpAny_bind (wpAny_mono g1 (fun _ s1' g1' => ?_) fun _ _ h' => h'.elim)
        refine wpAny_bind (wpAny_mono g1' (fun _ s2 g2 => wpAny_bind (wpAny_mono g2 (fun ok s3 g3 => ?_) fun _ _ h' => h'.elim)) fun _ _ h' => h'.elim)
        cases ok with
        | false => exact wpAny_pure ⟨rfl, g3⟩
        | true =>
          obtain ⟨_, hs, g3⟩ := g3
          refine wpAny_bind (wpAny_mono g3 (fun x s4 g4 => ?_) fun _ _ h' => h'.elim)
          refine wpAny_bind (wpAny_standAt (wpAny_bind (wpAny_of_eq (hs x) (wpAny_bind (wpAny_holding (wpAny_mono g4 (fun it1 s5 g5 => ?_) fun _ _ h' => h'.elim))))))
          refine wpAny_bind (wpAny_runOwn ?_)
          rw [Around.mark_none]
          refine codeAny_mono g5 fun r s' hr => ?_
          cases r with
          | ok f =>
            first
              | exact wpAny_pure ⟨rfl, hr⟩
              | exact wpAny_bind (wpAny_pure (wpAny_pure ⟨rfl, hr⟩))
          | error e => exact hr.elim
theorem compStartN_ok (h0 : gens[depth]? = some ⟨t0, i0, ifs0, 0⟩) (hl : codeAny (model P w) A (.compLoop (.ListComp elt gens scope pos) depth it acc env) R s)
    (h : wpAny (model P w) A (pyIter it) (fun it' s' => codeAny (model P w) A (.compLoop (.ListComp elt gens scope pos) depth it' acc env) R s')
      (notedBy (model P w) A env fun x s' => R (.error x) s') s) :
    codeAny (model P w) A (.compStart (.ListComp elt gens scope pos) depth it acc env) R s := by
  refine codeAny_of_tree ?_
  show wpAny _ _ ((compStart (.ListComp elt gens scope pos) depth it acc env).onRaise (fun x => do noteFrame x env; standAt theWindowsPlace)) _ _ s
  refine wpAny_notedAt ?_
  unfold compStart
  have e0 : (clausesOf (.ListComp elt gens scope pos))[depth]? = some ⟨t0, i0, ifs0, 0⟩ := h0
  simp only [e0]
  show wpAny _ _ (ask >>= _) _ _ s
  refine wpAny_bind (wpAny_askSetting (wpAny_ite ?_))
  split
  · first
      | exact wpAny_bind (wpAny_pure (wpAny_pure (And.intro rfl hl)))
      | exact wpAny_pure (And.intro rfl hl)
  · first
      | exact wpAny_bind (wpAny_rule (wpAny_bind (wpAny_standAt (wpAny_bind (wpAny_mono h (fun it' s' h' => wpAny_pure (And.intro rfl h')) fun _ _ x => x)))))
      | (refine wpAny_bind (wpAny_rule ?_); show wpAny _ _ (standAt i0.pos >>= _) _ _ s; exact wpAny_bind (wpAny_standAt (wpAny_bind (wpAny_mono h (fun it' s' h' => wpAny_pure (And.intro rfl h')) fun _ _ x => x))))
end
/-! ### the judgement of what a turn does behind its tests -/
abbrev TB := L2.St → Hp → (Hp → Prop) → Prop
/-- slots that know what others know -/
def SubS (a b : L2.St) : Prop := a.length = b.length ∧ ∀ (j : Nat) v, a[j]? = some (some v) → b[j]? = some (some v)
structure PB (X : Cx) (elt : Expr) (gens : List Comprehension) (scope : Scope) (pos : Pos) (depth : Nat) (D : Addr) (is : List Nat) (b : TB) : Prop where
  run : ∀ (pins : List (Addr × Obj)) (s : Shared) (σ : L2.St) (H : Hp) (N : Hp → Prop), Inv X pins σ H s → b σ H N →
    EmitW X.prog X.w X.A elt gens scope pos depth (.ref D) X.env (fun s' => ∃ σ' H', Inv X pins σ' H' s' ∧ SubS (L2.wipe σ is) σ' ∧ N H') s
def bLast (te : TE) (D : Addr) : TB := fun σ H N => te σ H fun y H4 => ∃ acc, H4 D = some (.lst acc) ∧ acc.length < sizeLine ∧ N (upd H4 D (.lst (acc ++ [y])))
def bMore (wi : TI) (g : TG) (tt : TT) (b : TB) (is : List Nat) : TB := fun σ H N => wi σ H fun J H4 => ∃ W : Nat → Nat → Hp → Prop, (∃ m, W 0 m H4) ∧ ∀ j k H, W j k H →
  (J.stop j H ∧ N H) ∨ (J.go j H ∧ ∃ Nx : Hp → Prop, (∀ H', Nx H' → ∃ k', k' < k ∧ W (j + 1) k' H') ∧ ∀ x H', J.yld j H x H' → g x (L2.wipe σ is) H' fun σ3 H5 => L2.wipe σ3 is = L2.wipe σ is ∧ tt σ3 H5 fun b1 H6 =>
    if b1 = true then b σ3 H6 Nx else Nx H6)
section
variable {X : Cx} {elt : Expr} {gens : List Comprehension} {scope : Scope} {pos : Pos} {depth : Nat} {D : Addr}
theorem wipe_sub (σ : L2.St) (is : List Nat) : SubS (L2.wipe σ is) σ := ⟨wipe_length _ _, fun j v e => (wipe_some e).1⟩
theorem pb_last {te : TE} (hx : X.xe = fun _ _ => False) (he : PE X elt te) (h1 : gens[depth + 1]? = none) (is : List Nat) : PB X elt gens scope pos depth D is (bLast te D) := by
  refine ⟨fun pins s σ H N I h => ?_⟩
  unfold EmitW
  rw [h1]
  have z := he.run pins s σ H _ I h
  rw [hx] at z
  exact thnF z fun z s2 ⟨yv, H2, I2, r2, acc, hD2, hz2, nx⟩ => app_ok I2 hD2 hz2 r2 fun s3 I3 => ⟨σ, _, I3, wipe_sub σ is, nx⟩
theorem SubS.trans {a b c : L2.St} (h : SubS a b) (k : SubS b c) : SubS a c := ⟨h.1.trans k.1, fun j v e => k.2 j v (h.2 j v e)⟩
theorem wipe_subs {σ : L2.St} {is js : List Nat} (h : ∀ i ∈ js, i ∈ is) : SubS (L2.wipe σ is) (L2.wipe σ js) := ⟨by rw [wipe_length, wipe_length], fun j v e => by
  obtain ⟨e1, e2⟩ := wipe_some e
  rw [wipe_out fun z => e2 (h j z)]
  exact e1⟩
/-- a clause's loop: τ are the slots at each turn's start, G what holds at its end -/
theorem loopN {tg iter : Expr} {ifs : List Expr} {g : TG} {tt : TT} {b : TB} {is js : List Nat} {pins : List (Addr × Obj)} {s : Shared} {τ : L2.St} {H : Hp} {fp : List Addr} {it : Addr} {tn : Nat → Heap → Prop} {J : It} {W : Nat → Nat → Hp → Prop} {m0 : Nat} {G : Hp → Prop} {R : Result → Shared → Prop}
    (hx : X.xe = fun _ _ => False) (hc : X.calm = true) (h1 : gens[depth]? = some ⟨tg, iter, ifs, 0⟩) (h2 : ∀ g, gens[depth + 1]? = some g → g.is_async = 0) (hj : ∀ i ∈ js, i ∈ is)
    (hg : PG X tg g) (ht : PTs X ifs tt) (hb : PB X elt gens scope pos depth D js b) (T : Turn X.prog X.w X.K tg J fp it tn) (I : Inv X pins τ H s) (st : tn 0 s.heap) (nf : ∀ b ∈ fp, H b = none) (w0 : W 0 m0 H)
    (stat : ∀ {σ' : L2.St} {H' : Hp} {s' : Shared}, Inv X pins σ' H' s' → (∀ b ∈ fp, H' b = none) → ∀ b ∈ fp, FpOk X pins H' b)
    (turn : ∀ j k H, W j k H → (J.stop j H ∧ G H) ∨ (J.go j H ∧ ∃ Nx : Hp → Prop, (∀ H', Nx H' → ∃ k', k' < k ∧ W (j + 1) k' H') ∧ ∀ x H', J.yld j H x H' → g x τ H' fun σ3 H5 => L2.wipe σ3 is = τ ∧ tt σ3 H5 fun b1 H6 => if b1 = true then b σ3 H6 Nx else Nx H6))
    (hR : ∀ H' s', Inv X pins τ H' s' → G H' → R (.ok .next) s') : codeAny (model X.prog X.w) X.A (.compLoop (.ListComp elt gens scope pos) depth (.ref it) (.ref D) X.env) R s := by
  refine compLoopN h1 h2 (fun k s' => ∃ j H', Inv X pins τ H' s' ∧ tn j s'.heap ∧ (∀ b ∈ fp, H' b = none) ∧ W j k H') ?_ m0 ⟨0, H, I, st, nf, w0⟩
  rintro k sa ⟨j, Ha, Ia, sta, na, wa⟩
  rcases turn j k Ha wa with ⟨stop, nx⟩ | ⟨go, Nx, hNx, step⟩
  · exact thnF (T.done X rfl rfl rfl hc j _ sa τ Ha (fun _ _ => False) Ia (stat Ia na) sta stop) fun r sb ⟨hr, Ib⟩ => by subst hr; exact hR _ _ Ib nx
  · refine thnF (T.item X rfl rfl rfl hc j _ sa τ Ha (fun _ _ => False) Ia (stat Ia na) sta go) fun r sb ⟨u, hr, hu⟩ => ?_
    subst hr
    refine thnF hu fun _ sc ⟨x, Hc, Ic, rc, yc, stc, nc⟩ => ?_
    have zg := hg.run _ sc τ Hc x u _ (Ic.pinned (stat Ic nc) (T.obj _ _ stc)) rc (step x Hc yc)
    rw [hx] at zg
    refine thnF zg fun _ sd ⟨σd, Hd, Id, hwd, qd⟩ => ?_
    have zt := ht.run _ sd σd Hd _ Id qd
    rw [hx] at zt
    refine thnF zt fun ok se ⟨He, Ie, qe⟩ => ?_
    have fin : ∀ {σ9 : L2.St} {s' : Shared} {H' : Hp}, Inv X (pins ++ pinsAt fp sc.heap) σ9 H' s' → SubS (L2.wipe σd js) σ9 → Nx H' → ∃ m, m < k ∧ ∃ j H', Inv X pins τ H' s' ∧ tn j s'.heap ∧ (∀ b ∈ fp, H' b = none) ∧ W j m H' := fun {σ9 s' H'} I' sb nx => by
      obtain ⟨m', hm, w'⟩ := hNx H' nx
      have sb' : SubS τ σ9 := by rw [← hwd]; exact (wipe_subs hj).trans sb
      have keepF : ∀ b ∈ fp, ∀ o, sc.heap.get? b = some o → s'.heap.get? b = some o ∧ H' b = none := fun b hb o e => by
        have z := I'.pin (b, o) (List.mem_append_right _ (List.mem_append_right _ (mem_pinsAt hb e)))
        exact ⟨z.1, z.2.1⟩
      refine ⟨m', hm, j + 1, H', I'.unpinned.weak sb'.1 sb'.2, T.keep _ _ _ stc fun b hb o e => (keepF b hb o e).1, fun b hb => ?_, w'⟩
      obtain ⟨o, e, _⟩ := T.obj _ _ stc b hb
      exact (keepF b hb o e).2
    cases ok with
    | false =>
      rw [if_neg (by decide)] at qe ⊢
      exact fin Ie (wipe_sub _ _) qe
    | true =>
      rw [if_pos rfl] at qe ⊢
      have zb := hb.run _ se σd He _ Ie qe
      unfold EmitW at zb ⊢
      cases hn : gens[depth + 1]? with
      | none =>
        rw [hn] at zb
        exact thnF zb fun x _ h10 => thnF h10 fun _ _ ⟨σ', H', I', sb, nx⟩ => fin I' sb nx
      | some g2 =>
        rw [hn] at zb
        obtain ⟨e1, e2, zb⟩ := zb
        refine ⟨e1, e2, thnF zb fun x _ h10 => thnF h10 fun _ _ h11 => codeAny_mono h11 fun r s' hr => ?_⟩
        cases r with
        | ok f =>
          obtain ⟨σ', H', I', sb, nx⟩ := hr
          exact fin I' sb nx
        | error e => exact hr.elim
theorem pb_more {tg iter : Expr} {ifs : List Expr} {wi : TI} {g : TG} {tt : TT} {b : TB} {is js : List Nat} (hx : X.xe = fun _ _ => False) (hc : X.calm = true) (h1 : gens[depth + 1]? = some ⟨tg, iter, ifs, 0⟩) (h2 : ∀ g, gens[depth + 2]? = some g → g.is_async = 0) (hj : ∀ i ∈ js, i ∈ is)
    (hi : PI X tg iter wi) (hg : PG X tg g) (ht : PTs X ifs tt) (hs : ∀ x, foldedSetIterable iter X.env x = pure x) (hb : PB X elt gens scope pos (depth + 1) D js b) : PB X elt gens scope pos depth D is (bMore wi g tt b is) := by
  refine ⟨fun pins s σ H N I h => ?_⟩
  unfold EmitW
  rw [h1]
  refine ⟨rfl, hs, ?_⟩
  have z := hi.run pins s σ H _ I h
  rw [hx] at z
  refine thnF z fun xv s1 ha => thnF ha fun itv s2 hb2 => ?_
  obtain ⟨it, fp, tn, J, H2, e, I2, T, st2, f2, W, ⟨m0, w0⟩, turn⟩ := hb2
  subst e
  have loop := loopN (R := fun r s' => match r with
      | .ok _ => ∃ σ' H', Inv X pins σ' H' s' ∧ SubS (L2.wipe σ is) σ' ∧ N H'
      | .error _ => False) hx hc h1 h2 hj hg ht hb T (I2.weak (wipe_length σ is) (fun j v e => (wipe_some e).1)) st2 (fun b hb => (f2 b hb).1) w0 (fun _ hn b hb => ⟨hn b hb, (f2 b hb).2⟩) turn fun H' s' I' nx => ⟨_, _, I', ⟨rfl, fun _ _ e => e⟩, nx⟩
  exact compStartN_ok h1 loop (T.self X.A 0 _ _ _ st2 loop)
/-- all clauses: the reading of the first one's turns -/
def tLcN (wi : TI) (g : TG) (tt : TT) (b : Addr → TB) (vs : List Nat) : TE := fun σ H Q => wi σ H fun J H1 => ∀ D, H1 D = none → ∃ W : Nat → Nat → Hp → Prop, (∃ m, W 0 m (upd H1 D (.lst []))) ∧ ∀ i m H, W i m H →
  (J.stop i H ∧ Q (.ref D) H) ∨ (J.go i H ∧ ∃ Nx : Hp → Prop, (∀ H', Nx H' → ∃ m', m' < m ∧ W (i + 1) m' H') ∧ ∀ x H', J.yld i H x H' → g x (L2.wipe σ vs) H' fun σ2 H2 => L2.wipe σ2 vs = L2.wipe σ vs ∧ tt σ2 H2 fun ok H3 => if ok = true then b D σ2 H3 Nx else Nx H3)
theorem lcN_core {pins : List (Addr × Obj)} {s : Shared} {σ : L2.St} {H : Hp} {Q : VK} {tg iter : Expr} {ifs : List Expr} {rest : List Comprehension} {own : List (Str × Nat)} {pos' : Pos} {wi : TI} {g : TG} {tt : TT} {b : Addr → TB} {js : List Nat} {use : Option (Value → Sem Unit)} {Qf : Value → Shared → Prop}
    (hc : X.calm = true) (hN : X.N.Nodup) (I : Inv X pins σ H s) (hi : PI X tg iter wi) (ok : BlkOk X.N X.env.scope scope own) (hj : ∀ i ∈ js, i ∈ own.map (·.2)) (h2 : ∀ g, rest[0]? = some g → g.is_async = 0)
    (hg : ∀ (s : Shared) (H : Hp) (C : Addr) (cl : List (Str × Addr)) (fp : List Addr), PG (X.blk s H scope (compEnvC scope cl C X.env) fp) tg g) (ht : ∀ (s : Shared) (H : Hp) (C : Addr) (cl : List (Str × Addr)) (fp : List Addr), PTs (X.blk s H scope (compEnvC scope cl C X.env) fp) ifs tt)
    (hb : ∀ (s : Shared) (H : Hp) (C : Addr) (cl : List (Str × Addr)) (fp : List Addr) (D : Addr), PB (X.blk s H scope (compEnvC scope cl C X.env) fp) elt (⟨tg, iter, ifs, 0⟩ :: rest) scope pos 0 D js (b D)) (hs : ∀ x, foldedSetIterable iter X.env x = pure x)
    (h : tLcN wi g tt b (own.map (·.2)) σ H Q)
    (hRR : ∀ D C s' m H', Inv X pins σ H' s' → Q (.ref D) H' → s'.heap.Ns C m → FpOk X pins H' C → compPost (model X.prog X.w) X.A X.xe use Qf (.ref D) C (.ok .next) s') :
    wpAny (model X.prog X.w) X.A (comprehension (.ListComp elt (⟨tg, iter, ifs, 0⟩ :: rest) scope pos) scope X.env pos' (newList []) false (eval iter X.env) use) Qf X.xe s := by
  have cells : ∀ y ∈ scope.names, y.2 = .free → ∃ c, X.env.cells.lookup y.1 = some c := fun y hy e => (ok.free y hy e).elim (fun k => I.ok.has _ (.inl k)) fun k => I.ok.has _ (.inr k)
  refine wpAny_comprehension_free (use := use) rfl hs (closure_ok cells) ok.kind (fun y hy e => by rw [ok.uniq y hy, e]) (thn (hi.run pins s σ H _ I h) fun xv sa hx => thn hx fun itv sb hy => ?_)
  obtain ⟨it, fp, tn, J, Hb, e, Ib, T, stb, fb, q⟩ := hy
  subst e
  refine wpAny_newObj_type (newEnv_comp ?_) (by show 0 ≤ sizeLine; decide)
  have hDn : Hb sb.heap.objs.size = none := Ib.hok.fresh (Nat.le_refl _)
  obtain ⟨W, ⟨m0, w0⟩, turn⟩ := q _ hDn
  have ap : ∀ b ∈ fp, b < sb.heap.objs.size := fun b hb => by
    obtain ⟨o, e, _⟩ := T.obj _ _ stb b hb
    exact Heap.lt_size e
  obtain ⟨sc, hsc⟩ : ∃ sc : Shared, sc = { sb with heap := sb.heap.push { cls := .type "list", data := .seq ([] : List Value).toArray } } := ⟨_, rfl⟩
  have Ic : Inv X pins σ (upd Hb sb.heap.objs.size (.lst [])) sc := by
    rw [hsc]
    exact Ib.laid (t' := sb.toks) (fun b o e => Heap.get?_push_of_some _ e) (Nat.le_refl _) ⟨Nat.zero_le _, [], 0, .nil, Heap.get?_push_size _ rfl⟩
  have stc : tn 0 sc.heap := T.keep _ _ _ stb fun b _ o e => by rw [hsc]; exact Heap.get?_push_of_some _ e
  have fc : ∀ b ∈ fp, FpOk X pins (upd Hb sb.heap.objs.size (.lst [])) b ∧ b < sc.heap.objs.size := fun b hb => by
    refine ⟨⟨?_, (fb b hb).2⟩, by rw [hsc]; show b < (sb.heap.push _).objs.size; rw [Heap.size_push]; exact Nat.lt_succ_of_lt (ap b hb)⟩
    rw [upd_ne (Nat.ne_of_lt (ap b hb))]
    exact (fb b hb).1
  rw [← hsc]
  generalize sb.heap.objs.size = D at w0 turn Ic fc ⊢
  generalize (upd Hb D (.lst []) : Hp) = Hc at w0 Ic fc
  have Id := block_start Ic ok hN fc
  -- the block's own context
  have pg := hg sc Hc sc.heap.objs.size (cellsFrom (sc.heap.objs.size + 1) scope.names (cloFrom X.env.cells scope.names [])) fp
  have pt := ht sc Hc sc.heap.objs.size (cellsFrom (sc.heap.objs.size + 1) scope.names (cloFrom X.env.cells scope.names [])) fp
  have pb := hb sc Hc sc.heap.objs.size (cellsFrom (sc.heap.objs.size + 1) scope.names (cloFrom X.env.cells scope.names [])) fp D
  obtain ⟨sd, hsd⟩ : ∃ sd : Shared, sd = { sc with heap := pushCells (sc.heap.push { cls := .type "dict", data := .dict #[] }) scope.names } := ⟨_, rfl⟩
  have std : tn 0 sd.heap := T.keep _ _ _ stc fun b _ o e => by rw [hsd]; exact pushCells_keeps _ _ _ _ (Heap.get?_push_of_some _ e)
  rw [← hsd] at Id
  show codeAny _ _ (.compStart (.ListComp elt (⟨tg, iter, ifs, 0⟩ :: rest) scope pos) 0 (.ref it) (.ref D) (compEnvC scope (cellsFrom (sc.heap.objs.size + 1) scope.names (cloFrom X.env.cells scope.names [])) sc.heap.objs.size X.env)) (compPost (model X.prog X.w) X.A X.xe use Qf (.ref D) sc.heap.objs.size) { sc with heap := pushCells (sc.heap.push { cls := .type "dict", data := .dict #[] }) scope.names }
  rw [← hsd]
  obtain ⟨ce, hce⟩ : ∃ ce : Env, ce = compEnvC scope (cellsFrom (sc.heap.objs.size + 1) scope.names (cloFrom X.env.cells scope.names [])) sc.heap.objs.size X.env := ⟨_, rfl⟩
  have cL : ce.locals = sc.heap.objs.size := by rw [hce]; rfl
  rw [← hce] at Id pg pt pb ⊢
  have loop := loopN (X := X.blk sc Hc scope ce fp) (R := compPost (model X.prog X.w) X.A X.xe use Qf (.ref D) sc.heap.objs.size) (G := Q (.ref D)) rfl hc rfl (by simpa using h2) hj pg pt pb T Id std (fun b hb => (fc b hb).1.1) w0
    (fun I' hn b hb => ⟨hn b hb, (I'.ok.exf b hb).1, I'.ok.exfs b hb, .inl hb, fun x c e => (I'.ok.exf b hb).2 x c e, fun p hp => absurd (show p ∈ ([] : List (Addr × Obj)) ++ [] from hp) (by simp)⟩) turn fun H' s' I' qq => by
      have Ie : Inv X pins σ H' s' := Ic.call' (ch := fp) I'.os I'.base I'.hok I'.bare fun b hb => ⟨(fc b hb).1.2.2.2.1, (fc b hb).1.2.1, (fc b hb).1.2.2.2.2.1, (fc b hb).1.2.2.2.2.2⟩
      have nC : H' ce.locals = none := I'.free
      rw [cL] at nC
      obtain ⟨m, hn, _⟩ := I'.loc
      have hn : s'.heap.Ns ce.locals m := hn
      rw [cL] at hn
      exact hRR D sc.heap.objs.size s' m H' Ie qq hn (Ic.fpOk (Nat.le_refl _) nC)
  exact codeAny_compStart_list loop (T.self X.A 0 _ _ _ std loop)
theorem pe_lcN {tg iter : Expr} {ifs : List Expr} {rest : List Comprehension} {own : List (Str × Nat)} {wi : TI} {g : TG} {tt : TT} {b : Addr → TB} {js : List Nat} (hc : X.calm = true) (hN : X.N.Nodup) (hi : PI X tg iter wi) (ok : BlkOk X.N X.env.scope scope own) (hj : ∀ i ∈ js, i ∈ own.map (·.2)) (h2 : ∀ g, rest[0]? = some g → g.is_async = 0)
    (hg : ∀ (s : Shared) (H : Hp) (C : Addr) (cl : List (Str × Addr)) (fp : List Addr), PG (X.blk s H scope (compEnvC scope cl C X.env) fp) tg g) (ht : ∀ (s : Shared) (H : Hp) (C : Addr) (cl : List (Str × Addr)) (fp : List Addr), PTs (X.blk s H scope (compEnvC scope cl C X.env) fp) ifs tt)
    (hb : ∀ (s : Shared) (H : Hp) (C : Addr) (cl : List (Str × Addr)) (fp : List Addr) (D : Addr), PB (X.blk s H scope (compEnvC scope cl C X.env) fp) elt (⟨tg, iter, ifs, 0⟩ :: rest) scope pos 0 D js (b D)) (hs : ∀ x, foldedSetIterable iter X.env x = pure x := by intro _; rfl) :
    PE X (.ListComp elt (⟨tg, iter, ifs, 0⟩ :: rest) scope pos) (tLcN wi g tt b (own.map (·.2))) := by
  refine ⟨fun pins s σ H Q I h => ?_⟩
  rw [eval_ListComp]
  exact lcN_core hc hN I hi ok hj h2 hg ht hb hs h fun D C s' m H' I' q hn f => ⟨m, hn, fun h'' sb => ⟨.ref D, H', I'.turned (t' := s'.toks) (fun b o hb e => (sb.2 b hb).trans e) f.1 f.2.1 f.2.2.2.1 f.2.2.2.2.1 f.2.2.2.2.2, rfl, q⟩⟩
end
end DD
/-! part DM -/
set_option Elab.async false
set_option linter.all false
set_option maxRecDepth 100000
set_option maxHeartbeats 4000000
namespace DD
open PySem PySem.Spec PyProof.Rows L2 LamX

/-! ### comprehensions of several clauses, read -/
abbrev BM := Ev → Sto → Option (List PyData × Sto)
def bdE (el : Ev → M Vl) : BM := fun ev S => match el ev S with
  | some (.ok (.d z), S') => some ([z], S')
  | _ => none
def compB (g : Vl → Ev → Option Ev) (t : Ev → M Bool) (bd : BM) (ev : Ev) : List PyData → Sto → Option (List PyData × Sto)
  | [], S => some ([], S)
  | d :: ds, S => match g (.d d) ev with
    | none => none
    | some ev1 => match t ev1 S with
      | some (.ok true, S1) => match bd ev1 S1 with
        | some (z, S2) => match compB g t bd ev ds S2 with
          | some (zs, S3) => some (z ++ zs, S3)
          | none => none
        | none => none
      | some (.ok false, S1) => compB g t bd ev ds S1
      | _ => none
def bdC (fi : Ev → M (List PyData)) (g : Vl → Ev → Option Ev) (t : Ev → M Bool) (bd : BM) (is : List Nat) : BM := fun ev S => match fi ev S with
  | some (.ok ds, S1) => compB g t bd (wipeE ev is) ds S1
  | _ => none
def fCompN (fi : Ev → M (List PyData)) (g : Vl → Ev → Option Ev) (t : Ev → M Bool) (bd : BM) (own : List Nat) : Ev → M Vl := fun ev => do
  let ds ← fi ev
  fun S => match compB g t bd (wipeE ev own) ds S with
    | some (zs, S') => if zs.length ≤ 1000000 then some (.ok (.d (.list zs)), S') else none
    | none => none
/-- what may stand beside a hidden list that grows -/
structure Stab (wd : World) (K : PySem.W.Frag) (F : Lv → Hp → Prop) : Prop where
  ext : ∀ lam r r' H H', F r H → Ext lam r r' H H' → F r' H'
  putH : ∀ r H S D xs, F r H → StoRel wd K r H S → D ∈ r.hid → F r (upd H D (.lst xs))
theorem Yields.stab {wd : World} {K : PySem.W.Frag} {J : It} {ds : List PyData} {F : Lv → Hp → Prop} (Y : Yields wd K J ds F) : Stab wd K F := ⟨fun lam r r' H H' h e => Y.ext lam r r' H H' h e, fun r H S D xs h s hD => Y.putH r H S D xs h s hD⟩
theorem Stab.and {wd : World} {K : PySem.W.Frag} {F G : Lv → Hp → Prop} (a : Stab wd K F) (b : Stab wd K G) : Stab wd K fun r H => F r H ∧ G r H := ⟨fun lam r r' H H' h e => ⟨a.ext lam r r' H H' h.1 e, b.ext lam r r' H H' h.2 e⟩, fun r H S D xs h s hD => ⟨a.putH r H S D xs h.1 s hD, b.putH r H S D xs h.2 s hD⟩⟩
theorem stab_ev {wd : World} {K : PySem.W.Frag} {mg : Str → Option Value} {σ : L2.St} {ev : Ev} : Stab wd K fun r H => EvR K mg r σ H ev := ⟨fun lam r r' H H' h e => h.ext e, fun r H S D xs h s hD => h.putH s hD⟩
/-- what a comprehension has come to; G stands beside it -/
structure CompG (X : Cx) (c : Cf) (r1 : Lv) (H1 : Hp) (D : Addr) (G : Lv → Hp → Prop) (r : Lv) (H : Hp) (S : Sto) (acc : List PyData) : Prop where
  ext : Ext c.lam r1 r H1 H
  sto : StoRel X.w X.K (r.hide D) H S
  tabs : Tabs c.T H
  g : G (r.hide D) H
  at_ : ∃ accV, H D = some (.lst accV) ∧ RpAll X.K (r.hide D) H accV acc
section
variable {X : Cx} {c : Cf} {r1 r : Lv} {H1 H H' : Hp} {D : Addr} {G G' : Lv → Hp → Prop} {S S' : Sto} {acc : List PyData}
theorem CompG.step {r' : Lv} (Z : Stab X.w X.K G) (C : CompG X c r1 H1 D G r H S acc) (E : Ext c.lam (r.hide D) r' H H') (s : StoRel X.w X.K r' H' S') (t : Tabs c.T H') : ∃ r2, r' = r2.hide D ∧ CompG X c r1 H1 D G r2 H' S' acc := by
  obtain ⟨r2, rfl, e2⟩ := C.ext.under E
  obtain ⟨accV, h1, h2⟩ := C.at_
  refine ⟨r2, rfl, e2, s, t, Z.ext _ _ _ _ _ C.g E, ⟨accV, ?_, h2.ext E⟩⟩
  rcases E.keep D _ h1 (C.sto.apart D List.mem_cons_self) with q | ⟨_, ps, q⟩
  · exact q
  · cases q
theorem CompG.put {z : PyData} {v : V} (Z : Stab X.w X.K G) (C : CompG X c r1 H1 D G r H S acc) (q : Rp X.K (r.hide D) H v z) (hD : H1 D = none) : ∀ accV, H D = some (.lst accV) → CompG X c r1 H1 D G r (upd H D (.lst (accV ++ [v]))) S (acc ++ [z]) := fun accV hV => by
  obtain ⟨accV', h1, h2⟩ := C.at_
  rw [hV] at h1
  cases h1
  have hm : D ∈ (r.hide D).hid := List.mem_cons_self
  exact ⟨C.ext.fresh hD, C.sto.putH hm, tabs_put C.tabs hV, Z.putH _ _ _ _ _ C.g C.sto hm, ⟨_, upd_same, Ext.putH C.sto.mu hm (h2.append (.cons q .nil))⟩⟩
theorem CompG.to (C : CompG X c r1 H1 D G r H S acc) (h : G' (r.hide D) H) : CompG X c r1 H1 D G' r H S acc := ⟨C.ext, C.sto, C.tabs, h, C.at_⟩
/-- behind a turn's tests: the mirror bd, then N -/
def tB (X : Cx) (c : Cf) (bd : BM) (D : Addr) : TB := fun σ H N => ∃ r1 H1 G r ev S acc z S', H1 D = none ∧ Stab X.w X.K G ∧ CompG X c r1 H1 D G r H S acc ∧ EvR X.K X.mg (r.hide D) σ H ev ∧ σ.length = X.N.length ∧ bd ev S = some (z, S') ∧ acc.length + z.length ≤ 1000000 ∧ ∀ r' H', CompG X c r1 H1 D G r' H' S' (acc ++ z) → N H'
def QB (X : Cx) (c : Cf) (elt : Expr) (gens : List Comprehension) (scope : Scope) (pos : Pos) (depth : Nat) (js : List Nat) (bd : BM) : Prop := ∀ D, PB X elt gens scope pos depth D js (tB X c bd D)
theorem pb_weak {elt : Expr} {gens : List Comprehension} {scope : Scope} {pos : Pos} {depth : Nat} {js : List Nat} {b b' : TB} (h : PB X elt gens scope pos depth D js b) (k : ∀ σ H N, b' σ H N → b σ H N) : PB X elt gens scope pos depth D js b' := ⟨fun pins s σ H N I q => h.run pins s σ H N I (k _ _ _ q)⟩
theorem CompG.rel {σ : L2.St} {ev : Ev} (C : CompG X c r1 H1 D G r H S acc) (e : EvR X.K X.mg (r.hide D) σ H ev) (hl : σ.length = X.N.length) : Rel X c (r.hide D) σ H ev S := ⟨C.sto, C.tabs, e, hl⟩
variable {elt : Expr} {gens : List Comprehension} {scope : Scope} {pos : Pos} {depth : Nat}
theorem qb_last {el : Ev → M Vl} (hx : X.xe = fun _ _ => False) (he : QE X c W0 elt el) (js : List Nat) (h1 : gens[depth + 1]? = none := by rfl) : QB X c elt gens scope pos depth js (bdE el) := fun D =>
  pb_weak (pb_last hx he h1 js) fun σ H N ⟨r1, H1, G, r, ev, S, acc, z, S', hD, Z, C, e, hl, eb, hz, hN⟩ => by
    unfold bdE at eb
    split at eb
    · rename_i z0 S2 ee
      cases eb
      refine ⟨r.hide D, ev, S, C.rel e hl, .ok (.d z0), _, ee, fun r' v H' E s t q => ?_⟩
      obtain ⟨r2, rfl, C2⟩ := C.step Z E s t
      obtain ⟨accV, hV, hR⟩ := C2.at_
      refine ⟨accV, hV, ?_, hN _ _ (C2.put Z q hD accV hV)⟩
      rw [hR.length, sizeLine_eq]
      simp at hz
      omega
    · cases eb
/-- a clause's turns, read: the invariant of its loop -/
theorem turns {g : Vl → Ev → Option Ev} {t : Ev → M Bool} {bd : BM} {J : It} {ds : List PyData} {F G : Lv → Hp → Prop} {ev : Ev} {τ : L2.St} {is js : List Nat} {Se : Sto} {zs : List PyData} {Gd : Hp → Prop} (hD : H1 D = none) (Y : Yields X.w X.K J ds F) (Z : Stab X.w X.K G) (hl : τ.length = X.N.length) (his : ∀ i ∈ js, i ∈ is) (hw : L2.wipe τ is = τ)
    (hd : ∀ r H, CompG X c r1 H1 D (fun r H => (F r H ∧ EvR X.K X.mg r τ H ev) ∧ G r H) r H Se zs → Gd H) (hz : zs.length ≤ 1000000) :
    let W : Nat → Nat → Hp → Prop := fun i m H => m = ds.length - i ∧ i ≤ ds.length ∧ ∃ r S acc rest, CompG X c r1 H1 D (fun r H => (F r H ∧ EvR X.K X.mg r τ H ev) ∧ G r H) r H S acc ∧ compB g t bd ev (ds.drop i) S = some (rest, Se) ∧ acc ++ rest = zs
    ∀ j k H, W j k H → (J.stop j H ∧ Gd H) ∨ (J.go j H ∧ ∃ Nx : Hp → Prop, (∀ H', Nx H' → ∃ k', k' < k ∧ W (j + 1) k' H') ∧ ∀ x H', J.yld j H x H' → tG X c g js x τ H' fun σ3 H5 => L2.wipe σ3 is = τ ∧ tT X c W0 t σ3 H5 fun b1 H6 => if b1 = true then tB X c bd D σ3 H6 Nx else Nx H6) := by
  intro W
  have Zz : Stab X.w X.K (fun r H => (F r H ∧ EvR X.K X.mg r τ H ev) ∧ G r H) := (Y.stab.and stab_ev).and Z
  rintro i m H2 ⟨rfl, hil, r, S, acc, rest, C, e2, e3⟩
  by_cases hlt : i < ds.length
  · refine .inr ⟨Y.go _ _ _ C.g.1.1 hlt, fun H' => ∃ r S acc rest, CompG X c r1 H1 D (fun r H => (F r H ∧ EvR X.K X.mg r τ H ev) ∧ G r H) r H' S acc ∧ compB g t bd ev (ds.drop (i + 1)) S = some (rest, Se) ∧ acc ++ rest = zs, fun H' q => ⟨ds.length - (i + 1), by omega, rfl, hlt, q⟩, fun v H' y => ?_⟩
    have hdi : ds[i]? = some ds[i] := List.getElem?_eq_getElem hlt
    obtain ⟨E, s', q⟩ := Y.yld _ _ _ _ _ _ _ C.g.1.1 C.sto hdi y
    obtain ⟨r2, er2, C'⟩ := C.step Zz E.up s' (tabs_ext E C.tabs)
    have hr2 : r2.hide D = r.hide D := er2.symm
    rw [← hr2] at q
    rw [List.drop_eq_getElem_cons hlt] at e2
    simp only [compB] at e2
    split at e2
    · cases e2
    · rename_i ev1 eg
      refine ⟨r2.hide D, ev, S, .d ds[i], ev1, C'.rel C'.g.1.2 hl, q, eg, fun σ2 x2 sb => ⟨?_, ?_⟩⟩
      · rw [wipe_eq sb his, hw]
      · split at e2
        · rename_i S2 et
          refine ⟨r2.hide D, ev1, S, x2, .ok true, S2, et, fun r3 b H3 E3 s3 t3 q3 => ?_⟩
          cases q3
          rw [if_pos rfl]
          obtain ⟨r4, rfl, C3⟩ := C'.step Zz E3 s3 t3
          split at e2
          · rename_i z S4 eb
            split at e2
            · rename_i zs' S6 er
              cases e2
              refine ⟨r1, H1, _, r4, ev1, S2, acc, z, S4, hD, Zz, C3, x2.ev.ext E3, x2.len, eb, ?_, fun r' H'' C4 => ⟨r', S4, acc ++ z, zs', C4, er, by rw [← e3]; simp⟩⟩
              have := congrArg List.length e3
              simp at this
              omega
            · cases e2
          · cases e2
        · rename_i S2 et
          refine ⟨r2.hide D, ev1, S, x2, .ok false, S2, et, fun r3 b H3 E3 s3 t3 q3 => ?_⟩
          cases q3
          rw [if_neg (by decide)]
          obtain ⟨r4, rfl, C3⟩ := C'.step Zz E3 s3 t3
          exact ⟨r4, S2, acc, rest, C3, e2, e3⟩
        · cases e2
  · have e : i = ds.length := by omega
    subst e
    rw [List.drop_length] at e2
    cases e2
    rw [List.append_nil] at e3
    subst e3
    exact .inl ⟨Y.stop _ _ C.g.1.1, hd _ _ C⟩
theorem qb_more {tg iter : Expr} {ifs : List Expr} {fi : Ev → M (List PyData)} {g : Vl → Ev → Option Ev} {t : Ev → M Bool} {bd : BM} {ks is js : List Nat} (hx : X.xe = fun _ _ => False) (hc : X.calm = true) (hi : QI X c W0 tg iter fi) (hg : QG X c tg g ks) (ht : QTs X c W0 ifs t) (hb : QB X c elt gens scope pos (depth + 1) js bd)
    (h1 : gens[depth + 1]? = some ⟨tg, iter, ifs, 0⟩ := by rfl) (h2 : ∀ g, gens[depth + 2]? = some g → g.is_async = 0 := by intro g e; cases e <;> rfl) (hj : ∀ i ∈ js, i ∈ is := by decide) (hk : ∀ i ∈ ks, i ∈ is := by decide) (hs : ∀ x, foldedSetIterable iter X.env x = pure x := by intro _; rfl) :
    QB X c elt gens scope pos depth is (bdC fi g t bd is) := fun D => pb_weak (pb_more hx hc h1 h2 hj hi hg ht hs (hb D)) fun σ H N ⟨r1, H1, G, r, ev, S, acc, z, S', hD, Z, C, e, hl, eb, hz, hN⟩ => by
  unfold bdC at eb
  split at eb
  · rename_i ds S1 ef
    refine ⟨r.hide D, ev, S, C.rel e hl, .ok ds, S1, ef, fun r' J H4 E s t4 ⟨F, Y, zf⟩ => ?_⟩
    obtain ⟨r2, rfl, C2⟩ := C.step Z E s t4
    have T := turns (J := J) (g := g) (t := t) (bd := bd) (c := c) (ds := ds) (F := F) (G := G) (ev := wipeE ev is) (τ := L2.wipe σ is) (is := is) (js := ks) (Se := S') (zs := acc ++ z) (Gd := N) hD Y Z (by rw [wipe_length]; exact hl) hk (wipe_wipe σ is) (fun r' H' C' => hN r' H' (C'.to C'.g.2)) (by simp; exact hz)
    exact ⟨_, ⟨ds.length - 0, rfl, Nat.zero_le _, r2, S1, acc, z, C2.to ⟨⟨zf, (e.ext E).wipe is⟩, C2.g⟩, eb, rfl⟩, T⟩
  · cases eb
theorem compN_weak {fi : Ev → M (List PyData)} {g : Vl → Ev → Option Ev} {t : Ev → M Bool} {bd : BM} {own ks : List Nat} {W : WX} {σ : L2.St} {Q : VK} (hk : ∀ i ∈ ks, i ∈ own) (h : tE X c W (fCompN fi g t bd own) σ H Q) :
    tLcN (tX X c W (RI X.w X.K) fi) (tG X c g ks) (tT X c W0 t) (fun D => tB X c bd D) own σ H Q := by
  obtain ⟨r, ev, S, x, h⟩ := h
  refine tX.of x h.bind fun J H1 ⟨r1, S1, ds, e1, s1, t1, ⟨F, Y, z1⟩, h1⟩ D hD => ?_
  have x1 := x.ext e1 s1 t1
  obtain ⟨o, Se, eo, hq⟩ := h1
  dsimp only at eo
  cases ec : compB g t bd (wipeE ev own) ds S1 with
  | none => rw [ec] at eo; cases eo
  | some p =>
    obtain ⟨zs, Sx⟩ := p
    rw [ec] at eo
    dsimp only at eo
    split at eo
    · rename_i hz
      cases eo
      have T := turns (J := J) (g := g) (t := t) (bd := bd) (c := c) (ds := ds) (F := F) (G := fun _ _ => True) (ev := wipeE ev own) (τ := L2.wipe σ own) (is := own) (js := ks) (Se := Se) (zs := zs) (Gd := Q (.ref D)) (r1 := r1) (H1 := H1) hD Y ⟨fun _ _ _ _ _ _ _ => trivial, fun _ _ _ _ _ _ _ _ => trivial⟩ (by rw [wipe_length]; exact x1.len) hk (wipe_wipe σ own) (fun r' H' C' => by
        obtain ⟨accV, g1, g2⟩ := C'.at_
        refine hq r' (.ref D) H' C'.ext C'.sto.show C'.tabs (.lst (.inl ⟨g1, C'.sto.apart D List.mem_cons_self, ?_⟩) g2.show)
        obtain ⟨n, rfl, _⟩ := C'.ext.pre
        exact (s1.no hD).2) hz
      refine ⟨_, ⟨ds.length - 0, rfl, Nat.zero_le _, r1, S1, [], zs, ⟨Ext.new s1.mu hD, s1.hide hD, tabs_ext (Ext.new (lam := false) s1.mu hD) t1, ⟨⟨Y.hide _ _ _ _ z1 s1 hD, (x1.ev.wipe own).hide hD⟩, trivial⟩, [], upd_same, .nil⟩, ec, rfl⟩, T⟩
    · cases eo
end
section
variable {X : Cx} {c : Cf} {W : WX} {s : Shared} {H0 : Hp} {scope : Scope} {cenv : Env} {fp : List Addr}
theorem tB_blk {bd : BM} {D : Addr} : tB (X.blk s H0 scope cenv fp) c bd D = tB X c bd D := by
  unfold tB
  have e : ∀ r1 H1 G r H S acc, CompG (X.blk s H0 scope cenv fp) c r1 H1 D G r H S acc = CompG X c r1 H1 D G r H S acc := fun r1 H1 G r H S acc => propext ⟨fun h => ⟨h.1, h.2, h.3, h.4, h.5⟩, fun h => ⟨h.1, h.2, h.3, h.4, h.5⟩⟩
  simp only [e]
theorem qb_blk {elt : Expr} {gens : List Comprehension} {sc2 : Scope} {pos : Pos} {depth : Nat} {js : List Nat} {bd : BM} (h : QB (X.blk s H0 scope cenv fp) c elt gens sc2 pos depth js bd) (D : Addr) : PB (X.blk s H0 scope cenv fp) elt gens sc2 pos depth D js (tB X c bd D) := by
  have := h D
  rw [tB_blk] at this
  exact this
end
theorem qe_compN {X : Cx} {c : Cf} {W : WX} {pos : Pos} {elt tg it : Expr} {ifs : List Expr} {rest : List Comprehension} {scope : Scope} {own : List (Str × Nat)} {fi : Ev → M (List PyData)} {g : Vl → Ev → Option Ev} {t : Ev → M Bool} {bd : BM} {ks js : List Nat} (hc : X.calm = true) (hN : X.N.Nodup) (hi : QI X c W tg it fi) (ok : BlkOk X.N X.env.scope scope own)
    (hg : ∀ (s : Shared) (H : Hp) (C : Addr) (cl : List (Str × Addr)) (fp : List Addr), QG (X.blk s H scope (compEnvC scope cl C X.env) fp) c tg g ks) (ht : ∀ (s : Shared) (H : Hp) (C : Addr) (cl : List (Str × Addr)) (fp : List Addr), QTs (X.blk s H scope (compEnvC scope cl C X.env) fp) c W0 ifs t)
    (hb : ∀ (s : Shared) (H : Hp) (C : Addr) (cl : List (Str × Addr)) (fp : List Addr), QB (X.blk s H scope (compEnvC scope cl C X.env) fp) c elt (⟨tg, it, ifs, 0⟩ :: rest) scope pos 0 js bd)
    (h2 : ∀ g, rest[0]? = some g → g.is_async = 0 := by intro g e; cases e <;> rfl) (hj : ∀ i ∈ js, i ∈ own.map (·.2) := by decide) (hk : ∀ i ∈ ks, i ∈ own.map (·.2) := by decide) (hs : ∀ x, foldedSetIterable it X.env x = pure x := by intro _; rfl) :
    QE X c W (.ListComp elt (⟨tg, it, ifs, 0⟩ :: rest) scope pos) (fCompN fi g t bd (own.map (·.2))) := by
  refine pe_weak (pe_lcN (wi := tX X c W (RI X.w X.K) fi) (g := tG X c g ks) (tt := tT X c W0 t) (b := fun D => tB X c bd D) hc hN hi ok hj h2 (fun s H C cl fp => pg_blk (hg s H C cl fp)) (fun s H C cl fp => pts_blk (ht s H C cl fp)) (fun s H C cl fp D => qb_blk (hb s H C cl fp) D) hs) fun σ H Q h => compN_weak hk h
end DD
/-! part DE -/
set_option Elab.async false
set_option linter.all false
set_option maxRecDepth 100000
set_option maxHeartbeats 4000000
namespace DD
open PySem PySem.Spec PyProof.Rows L2 LamX

/-! ### keys of dicts -/
mutual
def keyN : PyData → Option NestedKey
  | .none => some .none
  | .int i => some (.num i)
  | .str x => some (.text x)
  | .tuple ds => match keysN ds with
    | some ks => some (.tup ks)
    | none => none
  | _ => none
def keysN : List PyData → Option (List NestedKey)
  | [] => some []
  | d :: ds => match keyN d, keysN ds with
    | some k, some ks => some (k :: ks)
    | _, _ => none
end
mutual
theorem keyN_data : ∀ {d : PyData} {k : NestedKey}, keyN d = some k → k.data = d
  | .none, _, h => by cases h; rfl
  | .int i, _, h => by cases h; rfl
  | .str x, _, h => by cases h; rfl
  | .tuple ds, k, h => by
    rw [keyN] at h
    cases e : keysN ds with
    | none => rw [e] at h; cases h
    | some ks =>
      rw [e] at h
      cases h
      rw [NestedKey.data, keysN_data e]
  | .bool b, _, h => by cases h
  | .list b, _, h => by cases h
  | .dict b, _, h => by cases h
theorem keysN_data : ∀ {ds : List PyData} {ks : List NestedKey}, keysN ds = some ks → NestedKey.datas ks = ds
  | [], _, h => by cases h; rfl
  | d :: ds, _, h => by
    rw [keysN] at h
    cases e : keyN d with
    | none => rw [e] at h; cases h
    | some k =>
      cases e2 : keysN ds with
      | none => rw [e, e2] at h; cases h
      | some ks =>
        rw [e, e2] at h
        cases h
        rw [NestedKey.datas, keyN_data e, keysN_data e2]
end
section
variable {X : Cx} {pins : List (Addr × Obj)} {σ : L2.St} {r : Lv} {H : Hp} {s : Shared}
mutual
theorem nested_of (I : Inv X pins σ H s) : ∀ {k : NestedKey} {v : V} {u : Value}, Rp X.K r H v k.data → RelV v u → NestedIs s.heap k u
  | .none, v, u, q, rv => by
    rw [NestedKey.data] at q
    cases q
    cases rv
    exact .none
  | .num i, v, u, q, rv => by
    rw [NestedKey.data] at q
    cases q
    obtain ⟨t, rfl⟩ := rv
    exact .int i t
  | .text x, v, u, q, rv => by
    rw [NestedKey.data] at q
    cases q
    obtain ⟨t, rfl⟩ := rv
    exact .text x t
  | .tup ks, v, u, q, rv => by
    rw [NestedKey.data] at q
    cases q with
    | tup h t =>
      cases rv
      obtain ⟨its, rs, ⟨o, e, c, n, d⟩, _⟩ := I.tuple h
      exact .tup e c d (by simpa using nestedAll_of I t rs)
theorem nestedAll_of (I : Inv X pins σ H s) : ∀ {ks : List NestedKey} {vs : List V} {us : List Value}, RpAll X.K r H vs (NestedKey.datas ks) → Vals vs us → NestedAll s.heap ks us
  | [], _, _, q, rs => by
    rw [NestedKey.datas] at q
    cases q
    cases rs
    exact .nil
  | k :: ks, _, _, q, rs => by
    rw [NestedKey.datas] at q
    cases q with
    | cons q t =>
      cases rs with
      | cons a b => exact .cons (nested_of I q a) (nestedAll_of I t b)
end
end
def isTupK : NestedKey → Bool
  | .tup _ => true
  | _ => false
def lookK (kvs : List (NestedKey × PyData)) (k : NestedKey) : Option PyData := (kvs.find? fun p => decide (p.1 = k)).map (·.2)
def putKV (kvs : List (NestedKey × PyData)) (k : NestedKey) (d : PyData) : List (NestedKey × PyData) :=
  if kvs.any (fun p => decide (p.1 = k)) then kvs.map (fun p => if p.1 = k then (p.1, d) else p) else kvs ++ [(k, d)]
def lookV (ps : List (NestedKey × Addr × V)) (k : NestedKey) : Option V := (ps.find? fun p => decide (p.1 = k)).map (·.2.2)
def putVV (ps : List (NestedKey × Addr × V)) (k : NestedKey) (b : Addr) (v : V) : List (NestedKey × Addr × V) :=
  if ps.any (fun p => decide (p.1 = k)) then ps.map (fun p => if p.1 = k then (p.1, p.2.1, v) else p) else ps ++ [(k, b, v)]
/-- all keys of k's flavour -/
def flav (k : NestedKey) (kvs : List (NestedKey × PyData)) : Bool := kvs.all fun p => isTupK p.1 == isTupK k
section
variable {K : PySem.W.Frag} {r : Lv} {H : Hp} {ps : List (NestedKey × Addr × V)} {qs : List (NestedKey × PyData)}
theorem RpKV.look (h : RpKV K r H ps qs) (k : NestedKey) : (lookV ps k = none ∧ lookK qs k = none) ∨ ∃ v d, lookV ps k = some v ∧ lookK qs k = some d ∧ Rp K r H v d := by
  induction h with
  | nil => exact .inl ⟨rfl, rfl⟩
  | @cons j b v d ps qs h1 h2 t ih =>
    unfold lookV lookK at ih ⊢
    rw [List.find?_cons, List.find?_cons]
    by_cases e : j = k
    · simp only [e, decide_true]
      exact .inr ⟨v, d, rfl, rfl, h2⟩
    · simp only [e, decide_false]
      exact ih
theorem RpKV.isSome (h : RpKV K r H ps qs) (k : NestedKey) : (lookV ps k).isSome = (lookK qs k).isSome := by
  rcases h.look k with ⟨a, b⟩ | ⟨v, d, a, b, _⟩ <;> rw [a, b] <;> rfl
theorem RpKV.any (h : RpKV K r H ps qs) (k : NestedKey) : (ps.any fun p => decide (p.1 = k)) = (qs.any fun p => decide (p.1 = k)) := by
  induction h with
  | nil => rfl
  | cons _ _ _ ih => rw [List.any_cons, List.any_cons, ih]
theorem RpKV.put {k : NestedKey} {b : Addr} {v : V} {d : PyData} (h : RpKV K r H ps qs) (hk : ∀ ks, k = .tup ks → Rp K r H (.ref b) k.data ∧ k.depth ≤ 8) (q : Rp K r H v d) : RpKV K r H (putVV ps k b v) (putKV qs k d) := by
  unfold putVV putKV
  rw [h.any k]
  split
  · have mp : ∀ {ps qs}, RpKV K r H ps qs → RpKV K r H (ps.map (fun p => if p.1 = k then (p.1, p.2.1, v) else p)) (qs.map (fun p => if p.1 = k then (p.1, d) else p)) := by
      intro ps qs h
      induction h with
      | nil => exact .nil
      | @cons j b v d ps qs h1 h2 t ih =>
        rw [List.map_cons, List.map_cons]
        by_cases e : j = k
        · rw [if_pos e, if_pos e]
          exact .cons h1 q ih
        · rw [if_neg e, if_neg e]
          exact .cons h1 h2 ih
    exact mp h
  · have ap : ∀ {ps qs}, RpKV K r H ps qs → RpKV K r H (ps ++ [(k, b, v)]) (qs ++ [(k, d)]) := by
      intro ps qs h
      induction h with
      | nil => exact .cons hk q .nil
      | cons h1 h2 t ih => exact .cons h1 h2 ih
    exact ap h
theorem RpKV.flav_t (h : RpKV K r H ps qs) {k : NestedKey} (f : flav k qs = true) : ∀ p ∈ ps, isTupK p.1 = isTupK k := by
  induction h with
  | nil => intro p hp; cases hp
  | cons h1 h2 t ih =>
    unfold flav at f ih
    rw [List.all_cons, Bool.and_eq_true] at f
    intro p hp
    rcases List.mem_cons.mp hp with e | hp
    · rw [e]; exact eq_of_beq f.1
    · exact ih f.2 p hp
end

/-! ### the forms of a dict's object -/
def KVn (ps : List (NestedKey × Addr × V)) (vs : List (Option Key × Value)) : Prop := Paired (fun (p : NestedKey × Addr × V) (q : Option Key × Value) => p.1 = nkeyV q.1 ∧ RelV p.2.2 q.2) ps vs
def KTn (ps : List (NestedKey × Addr × V)) (xs : List (NestedKey × Addr × Value)) : Prop := Paired (fun (p : NestedKey × Addr × V) (q : NestedKey × Addr × Value) => p.1 = q.1 ∧ p.2.1 = q.2.1 ∧ RelV p.2.2 q.2.2) ps xs
theorem nkeyV_inj {a b : Option Key} (h : nkeyV a = nkeyV b) : a = b := by
  rcases a with _ | (i | x) <;> rcases b with _ | (j | y) <;> cases h <;> rfl
theorem nkeyV_tup {a : Option Key} {ks : List NestedKey} : nkeyV a ≠ .tup ks := by
  rcases a with _ | (i | x) <;> intro h <;> cases h
theorem nkeyV_of {k : NestedKey} (h : isTupK k = false) : ∃ j, k = nkeyV j := by
  cases k with
  | none => exact ⟨none, rfl⟩
  | num i => exact ⟨some (.inl i), rfl⟩
  | text x => exact ⟨some (.inr x), rfl⟩
  | tup ks => cases h
theorem nkeyV_is {k : NestedKey} {j : Option Key} (h : k = nkeyV j) {d : PyData} (e : keyN d = some k) {K : PySem.W.Frag} {r : Lv} {H : Hp} {v : V} {u : Value} {P : Program} {w : World} (q : Rp K r H v d) (rv : RelV v u) : (noneKind P w).is j u = true := by
  have hd := keyN_data e
  subst h
  rcases j with _ | (i | x)
  · have e2 : NestedKey.none.data = d := hd
    rw [NestedKey.data] at e2
    subst e2
    cases q
    cases rv
    rfl
  · have e2 : (NestedKey.num i).data = d := hd
    rw [NestedKey.data] at e2
    subst e2
    cases q
    exact kV_is (P := P) (w := w) (k := .inl i) rv
  · have e2 : (NestedKey.text x).data = d := hd
    rw [NestedKey.data] at e2
    subst e2
    cases q
    exact kV_is (P := P) (w := w) (k := .inr x) rv
section
variable {P : Program} {wd : World} {a : Addr} {ps : List (NestedKey × Addr × V)} {h h' : Heap} {H : Hp}
theorem DForm.stay (x : DForm wd a ps h) (k : ∀ o, h.get? a = some o → h'.get? a = some o) : DForm wd a ps h' := by
  obtain ⟨z, y, d⟩ := x
  refine ⟨z, y, ?_⟩
  rcases d with ⟨vs, r, d⟩ | ⟨t, xs, r, o, es, ep, e, c⟩
  · refine .inl ⟨vs, r, fun P => ?_⟩
    obtain ⟨o, es, ep, e, c⟩ := d P
    exact ⟨o, es, ep, k _ e, c⟩
  · exact .inr ⟨t, xs, r, o, es, ep, k _ e, c⟩
theorem hoD_ok (x : DForm wd a ps h) : ObjOk P wd H h a (HoD wd a ps) := ⟨x, by obtain ⟨o, es, ep, e, _⟩ := x.obj; exact ⟨o, e⟩, fun h1 h2 y k => DForm.stay y k⟩
theorem dform_val (x : DForm wd a ps h) (f : ∀ p ∈ ps, isTupK p.1 = false) : ∃ vs, KVn ps vs ∧ ∀ P : Program, h.DictOf (noneKind P wd) a vs := by
  obtain ⟨z, y, ⟨vs, r, d⟩ | ⟨t, xs, r, o, es, ep, e, c, d, hes, _⟩⟩ := x
  · exact ⟨vs, r, d⟩
  · cases ps with
    | cons p ps =>
      obtain ⟨ks, hk⟩ := t p List.mem_cons_self
      have := f p List.mem_cons_self
      rw [hk] at this
      cases this
    | nil =>
      cases r
      refine ⟨[], .nil, fun P => ⟨o, es, ep, e, c, d, ?_⟩⟩
      have : es = #[] := by
        rw [List.map_nil] at hes
        exact Array.toList_eq_nil_iff.mp hes
      subst this
      exact ⟨fun x hx => by simp at hx, .nil, List.nodup_nil⟩
end
section
variable {X : Cx} {pins : List (Addr × Obj)} {σ : L2.St} {r : Lv} {H : Hp} {s : Shared} {a : Addr} {ps : List (NestedKey × Addr × V)} {qs : List (NestedKey × PyData)}
theorem dform_at (I : Inv X pins σ H s) (e : H a = some (HoD X.w a ps)) : DForm X.w a ps s.heap := (show ObjOk X.prog X.w H s.heap a (HoD X.w a ps) from I.hok a _ e).1
theorem ktn_is (I : Inv X pins σ H s) (q : RpKV X.K r H ps qs) (t : ∀ p ∈ ps, isTupK p.1 = true) : ∀ {xs : List (NestedKey × Addr × Value)}, KTn ps xs → ∀ x ∈ xs, (nestedKind X.prog X.w).is s.heap x.1 x.2.1 := by
  induction q with
  | nil => intro xs h x hx; cases h; cases hx
  | @cons k b v d ps qs h1 h2 _ ih =>
    intro xs h x hx
    cases h with
    | @cons _ y _ ys hy hys =>
      rcases List.mem_cons.mp hx with e | hx
      · subst e
        have hk := t _ List.mem_cons_self
        cases k with
        | tup ks =>
          obtain ⟨g1, g2⟩ := h1 ks rfl
          have e1 : NestedKey.tup ks = x.1 := hy.1
          have e2 : b = x.2.1 := hy.2.1
          rw [← e1, ← e2]
          exact ⟨nested_of I g1 (show RelV (.ref b) (.ref b) from rfl), g2⟩
        | none => cases hk
        | num _ => cases hk
        | text _ => cases hk
      · exact ih (fun p hp => t p (List.mem_cons_of_mem _ hp)) hys x hx
theorem dform_tup (I : Inv X pins σ H s) (e : H a = some (HoD X.w a ps)) (q : RpKV X.K r H ps qs) (t : ∀ p ∈ ps, isTupK p.1 = true) : ∃ xs, KTn ps xs ∧ s.heap.DictOfH (nestedKind X.prog X.w) a xs := by
  obtain ⟨z, y, ⟨vs, rr, d⟩ | ⟨_, xs, rr, o, es, ep, e1, c, d, hes, nd⟩⟩ := dform_at I e
  · cases rr with
    | cons h1 _ =>
      have := t _ List.mem_cons_self
      rw [h1.1] at this
      rename_i b _ _ _
      obtain ⟨b1, b2⟩ := b
      rcases b1 with _ | (i | x) <;> cases this
    | nil =>
      obtain ⟨o, es, ep, e1, c, d, _, hp, _⟩ := d X.prog
      refine ⟨[], .nil, o, es, ep, e1, c, d, ?_, fun x hx => (nomatch hx), List.nodup_nil⟩
      cases hp' : es.toList with
      | nil => rfl
      | cons e es' => rw [hp'] at hp; cases hp
  · exact ⟨xs, rr, o, es, ep, e1, c, d, hes, ktn_is I q t rr, nd⟩
end

/-! ### what a dict holds -/
section
variable {K : PySem.W.Frag} {P : Program} {w : World} {ps : List (NestedKey × Addr × V)}
theorem KVn.val {vs : List (Option Key × Value)} (h : KVn ps vs) (j : Option Key) : RelO (lookV ps (nkeyV j)) (valueAt vs j) := by
  unfold KVn at h
  induction h with
  | nil => exact True.intro
  | @cons p q ps qs hh t ih =>
    unfold lookV valueAt at ih ⊢
    rw [List.find?_cons, List.find?_cons]
    by_cases e : q.1 = j
    · have e2 : p.1 = nkeyV j := by rw [hh.1, e]
      simp only [e, e2, decide_true]
      exact hh.2
    · have e2 : ¬ p.1 = nkeyV j := fun z => e (nkeyV_inj (hh.1.symm.trans z))
      simp only [e, e2, decide_false]
      exact ih
theorem KVn.any {vs : List (Option Key × Value)} (h : KVn ps vs) (j : Option Key) : (ps.any fun p => decide (p.1 = nkeyV j)) = (vs.any fun q => decide (q.1 = j)) := by
  unfold KVn at h
  induction h with
  | nil => rfl
  | @cons p q ps qs hh t ih =>
    rw [List.any_cons, List.any_cons, ih]
    congr 1
    by_cases e : q.1 = j
    · rw [decide_eq_true e, decide_eq_true (by rw [hh.1, e])]
    · rw [decide_eq_false e, decide_eq_false fun z => e (nkeyV_inj (hh.1.symm.trans z))]
theorem KVn.put {vs : List (Option Key × Value)} (h : KVn ps vs) (j : Option Key) {b : Addr} {v : V} {u : Value} (r : RelV v u) : KVn (putVV ps (nkeyV j) b v) (stored vs j u) := by
  unfold putVV stored
  rw [h.any j]
  split
  · have mp : ∀ {ps : List (NestedKey × Addr × V)} {vs : List (Option Key × Value)}, KVn ps vs → KVn (ps.map (fun p => if p.1 = nkeyV j then (p.1, p.2.1, v) else p)) (vs.map (fun q => if q.1 = j then (q.1, u) else q)) := by
      intro ps vs h
      unfold KVn at h
      induction h with
      | nil => exact .nil
      | @cons p q ps qs hh t ih =>
        rw [List.map_cons, List.map_cons]
        by_cases e : q.1 = j
        · rw [if_pos e, if_pos (by rw [hh.1, e])]
          exact .cons ⟨hh.1, r⟩ ih
        · rw [if_neg e, if_neg fun z => e (nkeyV_inj (hh.1.symm.trans z))]
          exact .cons hh ih
    exact mp h
  · exact Paired.snoc h ⟨rfl, r⟩
theorem KTn.val {xs : List (NestedKey × Addr × Value)} (h : KTn ps xs) (k : NestedKey) : RelO (lookV ps k) ((atKey xs k).map (·.2)) := by
  unfold KTn at h
  induction h with
  | nil => exact True.intro
  | @cons p q ps qs hh t ih =>
    unfold lookV atKey at ih ⊢
    rw [List.find?_cons, List.find?_cons]
    by_cases e : q.1 = k
    · have e2 : p.1 = k := by rw [hh.1, e]
      simp only [e, e2, decide_true]
      exact hh.2.2
    · have e2 : ¬ p.1 = k := fun z => e (hh.1.symm.trans z)
      simp only [e, e2, decide_false]
      exact ih
theorem KTn.any {xs : List (NestedKey × Addr × Value)} (h : KTn ps xs) (k : NestedKey) : (ps.any fun p => decide (p.1 = k)) = (atKey xs k).isSome := by
  unfold KTn at h
  induction h with
  | nil => rfl
  | @cons p q ps qs hh t ih =>
    unfold atKey at ih ⊢
    rw [List.any_cons, List.find?_cons]
    by_cases e : q.1 = k
    · have e2 : p.1 = k := by rw [hh.1, e]
      simp [e, e2]
    · have e2 : ¬ p.1 = k := fun z => e (hh.1.symm.trans z)
      simp only [e, e2, decide_false, Bool.false_or]
      exact ih
theorem KTn.put {xs : List (NestedKey × Addr × Value)} (h : KTn ps xs) (k : NestedKey) {b : Addr} {v : V} {u : Value} (r : RelV v u) : KTn (putVV ps k b v) (storedH xs k b u) := by
  unfold putVV storedH
  rw [h.any k]
  split
  · have mp : ∀ {ps : List (NestedKey × Addr × V)} {xs : List (NestedKey × Addr × Value)}, KTn ps xs → KTn (ps.map (fun p => if p.1 = k then (p.1, p.2.1, v) else p)) (xs.map (PySem.putAt k u)) := by
      intro ps xs h
      unfold KTn at h
      induction h with
      | nil => exact .nil
      | @cons p q ps qs hh t ih =>
        rw [List.map_cons, List.map_cons]
        unfold PySem.putAt
        by_cases e : q.1 = k
        · rw [if_pos e, if_pos (by rw [hh.1, e])]
          exact .cons ⟨hh.1, hh.2.1, r⟩ ih
        · rw [if_neg e, if_neg fun z => e (hh.1.symm.trans z)]
          exact .cons hh ih
    exact mp h
  · exact Paired.snoc h ⟨rfl, rfl, r⟩
theorem RelO.isSome {v : Option V} {u : Option Value} (h : RelO v u) : v.isSome = u.isSome := RelO.isSome_eq h
end
theorem dictOf_P {P P' : Program} {w : World} {h : Heap} {a : Addr} {vs : List (Option Key × Value)} (d : h.DictOf (noneKind P w) a vs) : h.DictOf (noneKind P' w) a vs := by
  obtain ⟨o, es, ep, g1, g2, g3, g4, g5, g6⟩ := d
  refine ⟨o, es, ep, g1, g2, g3, fun e he => g4 e he, ?_, g6⟩
  have pr : ∀ {es : List DictEntry} {vs : List (Option Key × Value)}, Pairs (noneKind P w) es vs → Pairs (noneKind P' w) es vs := by
    intro es vs h
    induction h with
    | nil => exact .nil
    | cons a b _ ih => exact .cons a b ih
  exact pr g5
/-- a key there, of the dict's flavour -/
structure KeyAt (X : Cx) (r : Lv) (H : Hp) (x : V) (a : Addr) (ps : List (NestedKey × Addr × V)) (qs : List (NestedKey × PyData)) (k : NestedKey) : Prop where
  at_ : H a = some (HoD X.w a ps)
  kv : RpKV X.K r H ps qs
  key : ∃ d, Rp X.K r H x d ∧ keyN d = some k
  depth : k.depth ≤ 8
  fl : flav k qs = true
section
variable {X : Cx} {pins : List (Addr × Obj)} {σ : L2.St} {r : Lv} {H : Hp} {s : Shared} {a : Addr} {ps : List (NestedKey × Addr × V)} {qs : List (NestedKey × PyData)} {x : V} {u : Value} {k : NestedKey} {A : Around} {E : Value → Shared → Prop}
/-- of which flavour -/
theorem KeyAt.cases (c : KeyAt X r H x a ps qs k) (I : Inv X pins σ H s) (ru : RelV x u) :
    (∃ j vs, k = nkeyV j ∧ (noneKind X.prog X.w).is j u = true ∧ KVn ps vs ∧ (∀ P : Program, s.heap.DictOf (noneKind P X.w) a vs)) ∨
    (∃ b ks xs, x = .ref b ∧ u = .ref b ∧ k = .tup ks ∧ Rp X.K r H (.ref b) k.data ∧ (nestedKind X.prog X.w).is s.heap k b ∧ KTn ps xs ∧ s.heap.DictOfH (nestedKind X.prog X.w) a xs) := by
  obtain ⟨d, q, e⟩ := c.key
  have fl := c.kv.flav_t c.fl
  cases ht : isTupK k with
  | false =>
    obtain ⟨j, hj⟩ := nkeyV_of ht
    obtain ⟨vs, h1, h2⟩ := dform_val (dform_at I c.at_) fun p hp => by rw [fl p hp, ht]
    exact .inl ⟨j, vs, hj, nkeyV_is hj e q ru, h1, h2⟩
  | true =>
    have q' := q
    rw [← keyN_data e] at q'
    obtain ⟨xs, h1, h2⟩ := dform_tup I c.at_ c.kv fun p hp => by rw [fl p hp, ht]
    cases k with
    | none => cases ht
    | num _ => cases ht
    | text _ => cases ht
    | tup ks =>
      have q2 := q'
      rw [NestedKey.data] at q2
      cases q2 with
      | tup g1 g2 =>
        cases ru
        exact .inr ⟨_, ks, xs, rfl, rfl, rfl, q', ⟨nested_of I q' rfl, c.depth⟩, h1, h2⟩
theorem KeyAt.sys (c : KeyAt X r H x a ps qs k) (I : Inv X pins σ H s) : (a == sysModules) = false := (dform_at I c.at_).2.1
theorem KeyAt.typeIs (c : KeyAt X r H x a ps qs k) (I : Inv X pins σ H s) : s.TypeIs (.ref a) "dict" := by
  obtain ⟨_, _, ⟨vs, _, d⟩ | ⟨_, xs, _, o, es, ep, e, c, _⟩⟩ := dform_at I c.at_
  · exact (d X.prog).typeIs
  · exact ⟨o, e, c.1⟩
variable (hu : A.units + 64 < cLine)
include hu
theorem kd_in {Q : Value → Shared → Prop} (I : Inv X pins σ H s) (c : KeyAt X r H x a ps qs k) (ru : RelV x u) (h : ∀ s', Inv X pins σ H s' → Q (.bool (lookK qs k).isSome) s') : wpAny (model X.prog X.w) A (compareOp .In u (.ref a)) Q E s := by
  rcases c.cases I ru with ⟨j, vs, e, hk, kv, dd⟩ | ⟨b, ks, xs, e1, e2, e3, q, hk, kt, dd⟩
  · refine wpAny_in_of hk (c.sys I) (dd X.prog).mapOf ?_
    rw [← (kv.val j).isSome_eq, ← e, c.kv.isSome]
    exact h _ (I.tok _)
  · subst e2
    refine wpAny_in_heap (show A.in1.units + 8 < cLine by show A.units + 1 + 8 < cLine; omega) hk (c.sys I) dd ?_
    have z := (kt.val k).isSome_eq
    rw [Option.isSome_map] at z
    rw [← z, c.kv.isSome]
    exact h _ (I.tok _)
theorem kd_notIn {Q : Value → Shared → Prop} (I : Inv X pins σ H s) (c : KeyAt X r H x a ps qs k) (ru : RelV x u) (h : ∀ s', Inv X pins σ H s' → Q (.bool (!(lookK qs k).isSome)) s') : wpAny (model X.prog X.w) A (compareOp .NotIn u (.ref a)) Q E s := by
  rcases c.cases I ru with ⟨j, vs, e, hk, kv, dd⟩ | ⟨b, ks, xs, e1, e2, e3, q, hk, kt, dd⟩
  · refine wpAny_notIn_of hk (c.sys I) (dd X.prog).mapOf ?_
    rw [← (kv.val j).isSome_eq, ← e, c.kv.isSome]
    exact h _ (I.tok _)
  · subst e2
    refine wpAny_notIn_heap (show A.in1.units + 8 < cLine by show A.units + 1 + 8 < cLine; omega) hk (c.sys I) dd ?_
    have z := (kt.val k).isSome_eq
    rw [Option.isSome_map] at z
    rw [← z, c.kv.isSome]
    exact h _ (I.tok _)
theorem kd_get {Q : Value → Shared → Prop} {d : PyData} (I : Inv X pins σ H s) (c : KeyAt X r H x a ps qs k) (ru : RelV x u) (hd : lookK qs k = some d) (h : ∀ v w' s', Inv X pins σ H s' → RelV v w' → Rp X.K r H v d → Q w' s') : wpAny (model X.prog X.w) A (getItem (.ref a) u) Q E s := by
  obtain ⟨v, d', hv, hd', qv⟩ : ∃ v d', lookV ps k = some v ∧ lookK qs k = some d' ∧ Rp X.K r H v d' := by
    rcases c.kv.look k with ⟨_, z⟩ | z
    · rw [hd] at z; cases z
    · exact z
  rw [hd] at hd'
  cases hd'
  rcases c.cases I ru with ⟨j, vs, e, hk, kv, dd⟩ | ⟨b, ks, xs, e1, e2, e3, q, hk, kt, dd⟩
  · obtain ⟨w', hw, rw'⟩ := RelO.some_of (v := v) (o := valueAt vs j) (by rw [← hv, e]; exact kv.val j)
    exact wpAny_getItem_of hk (dd X.prog).mapOf hw (h v w' _ (I.tok _) rw' qv)
  · subst e2
    obtain ⟨w', hw, rw'⟩ := RelO.some_of (v := v) (o := (atKey xs k).map (·.2)) (by rw [← hv]; exact kt.val k)
    obtain ⟨p, hp, hp2⟩ := Option.map_eq_some_iff.mp hw
    refine wpAny_getItem_heap (show A.in1.units + 8 < cLine by show A.units + 1 + 8 < cLine; omega) hk dd hp ?_
    rw [hp2]
    exact h v w' _ (I.tok _) rw' qv
/-- the key's own tuple -/
theorem kd_set {Q : Unit → Shared → Prop} {v : V} {z : Value} (I : Inv X pins σ H s) (c : KeyAt X r H x a ps qs k) (ru : RelV x u) (rz : RelV v z) (hl : ps.length < sizeLine)
    (h : ∀ b s', (∀ ks, k = .tup ks → Rp X.K r H (.ref b) k.data ∧ k.depth ≤ 8) → Inv X pins σ (upd H a (HoD X.w a (putVV ps k b v))) s' → Q () s') : wpAny (model X.prog X.w) A (setItem (.ref a) u z) Q E s := by
  have len : ∀ b, (putVV ps k b v).length ≤ sizeLine := fun b => by
    unfold putVV
    split
    · rw [List.length_map]; omega
    · rw [List.length_append]; exact Nat.succ_le_of_lt hl
  have wr : ∀ {h' : Heap} {t' : Nat} {b : Addr}, Heap.SameBut a s.heap h' → DForm X.w a (putVV ps k b v) h' → Inv X pins σ (upd H a (HoD X.w a (putVV ps k b v))) { s with heap := h', toks := t' } := fun {h' t' b} hs df => by
    obtain ⟨o, _, _, e, _⟩ := df.obj
    exact d_write I (by rw [c.at_]; exact True.intro) hs ⟨o, e⟩ (hoD_ok df)
  rcases c.cases I ru with ⟨j, vs, e, hk, kv, dd⟩ | ⟨b, ks, xs, e1, e2, e3, q, hk, kt, dd⟩
  · have hz : vs.length ≤ sizeLine := by rw [← Paired.length kv]; omega
    refine wpAny_setItem_pairs (hsz := hz) hk (dd X.prog) fun h' dd' hs => h 0 _ (fun ks ek => ?_) (wr hs ⟨len 0, c.sys I, .inl ⟨stored vs j z, ?_, fun P => dictOf_P dd'⟩⟩)
    · rw [e] at ek; exact absurd ek nkeyV_tup
    · rw [e]; exact kv.put j rz
  · subst e2
    have hz : xs.length ≤ sizeLine := by rw [← Paired.length kt]; omega
    refine wpAny_setItem_heap (hsz := hz) (show A.in1.units + 8 < cLine by show A.units + 1 + 8 < cLine; omega) hk dd fun h' dd' hs => h b _ (fun ks ek => ⟨q, c.depth⟩) (wr hs ⟨len b, c.sys I, .inr ⟨?_, storedH xs k b z, kt.put k rz, ?_⟩⟩)
    · have ft := c.kv.flav_t c.fl
      intro p hp
      have : isTupK p.1 = true := by
        have e9 : isTupK k = true := by rw [e3]; rfl
        unfold putVV at hp
        split at hp
        · obtain ⟨p0, hp0, rfl⟩ := List.mem_map.mp hp
          split
          · rename_i e0
            show isTupK p0.1 = true
            rw [e0]; exact e9
          · rw [ft p0 hp0]; exact e9
        · rcases List.mem_append.mp hp with hp | hp
          · rw [ft p hp]; exact e9
          · have : p = (k, b, v) := by simpa using hp
            rw [this]; exact e9
      cases hq : p.1 with
      | tup ks => exact ⟨ks, rfl⟩
      | none => rw [hq] at this; cases this
      | num _ => rw [hq] at this; cases this
      | text _ => rw [hq] at this; cases this
    · obtain ⟨o, es, ep, g1, g2, g3, g4, _, g5⟩ := dd'
      exact ⟨o, es, ep, g1, g2, g3, g4, g5⟩
end
end DD
/-! part DF -/
set_option Elab.async false
set_option linter.all false
set_option maxRecDepth 100000
set_option maxHeartbeats 4000000
namespace DD
open PySem PySem.Spec PyProof.Rows L2 LamX

/-! ### a dict's place -/
def dictAt : Vl → M (Nat × List (NestedKey × PyData))
  | .m n => fun S => match S[n]? with
    | some (.k kvs) => some (.ok (n, kvs), S)
    | _ => none
  | _ => M.fail
/-- a key for it -/
def keyFor (kvs : List (NestedKey × PyData)) (w : Vl) : Option NestedKey := match datOf w with
  | some d => match keyN d with
    | some k => if decide (k.depth ≤ 8) && flav k kvs then some k else none
    | none => none
  | none => none
section
variable {α β : Type} {X : Cx} {c : Cf} {W : WX} {r r1 : Lv} {σ : L2.St} {H H1 : Hp} {S S1 : Sto} {ev : Ev}
theorem dictAt_run {R : Lv → Hp → β → α → Prop} {g : Nat × List (NestedKey × PyData) → M α} {w : Vl} {v : V} {Q : β → Hp → Prop} (h : tRun X c W R r σ H S (dictAt w >>= g) Q) (s : StoRel X.w X.K r H S) (q : Rw X.K X.mg r H v w) :
    ∃ n a kvs ps, r.st[n]? = some a ∧ v = .ref a ∧ S[n]? = some (.k kvs) ∧ H a = some (HoD X.w a ps) ∧ RpKV X.K r H ps kvs ∧ w = .m n ∧ tRun X c W R r σ H S (g (n, kvs)) Q := by
  cases w with
  | d x => obtain ⟨_, _, e, _⟩ := h; cases e
  | f x => obtain ⟨_, _, e, _⟩ := h; cases e
  | r lo hi => obtain ⟨_, _, e, _⟩ := h; cases e
  | m n =>
    obtain ⟨a, h1, rfl⟩ := q
    obtain ⟨o, S', e, h⟩ := h
    rw [M.bind_run] at e
    have e2 : dictAt (.m n) S = match S[n]? with
      | some (.k kvs) => some (.ok (n, kvs), S)
      | _ => none := rfl
    cases q : S[n]? with
    | none => rw [e2, q] at e; cases e
    | some u =>
      cases u with
      | l xs => rw [e2, q] at e; cases e
      | k kvs =>
        rw [e2, q] at e
        obtain ⟨ps, h2, h3⟩ := s.ob n a _ h1 q
        exact ⟨n, a, kvs, ps, h1, rfl, q, h2, h3, rfl, o, S', e, h⟩
theorem keyFor_at {K : PySem.W.Frag} {mg : Str → Option Value} {x : V} {w : Vl} {a : Addr} {ps : List (NestedKey × Addr × V)} {kvs : List (NestedKey × PyData)} {k : NestedKey} (e : keyFor kvs w = some k) (q : Rw X.K mg r H x w) (h1 : H a = some (HoD X.w a ps)) (h2 : RpKV X.K r H ps kvs) : KeyAt X r H x a ps kvs k := by
  unfold keyFor at e
  cases ed : datOf w with
  | none => rw [ed] at e; cases e
  | some d =>
    rw [ed] at e
    simp only at e
    cases ek : keyN d with
    | none => rw [ek] at e; cases e
    | some j =>
      rw [ek] at e
      simp only at e
      split at e
      · rename_i hb
        cases e
        rw [Bool.and_eq_true, decide_eq_true_eq] at hb
        exact ⟨h1, h2, ⟨d, datOf_ok q ed, ek⟩, hb.1, hb.2⟩
      · cases e
end

/-! ### k in d, d[k], d.get(k, x), d[k] = v -/
def fDIn (neg : Bool) (fe fd : Ev → M Vl) : Ev → M Vl := fun ev => do
  let x ← fe ev
  let y ← fd ev
  let p ← dictAt y
  let k ← M.lift (keyFor p.2 x)
  pure (.d (.bool (if neg then !(lookK p.2 k).isSome else (lookK p.2 k).isSome)))
def fDGet (fd fe : Ev → M Vl) : Ev → M Vl := fun ev => do
  let y ← fd ev
  let x ← fe ev
  let p ← dictAt y
  let k ← M.lift (keyFor p.2 x)
  let z ← M.lift (lookK p.2 k)
  pure (.d z)
def fDGet2 (fd fe fz : Ev → M Vl) : Ev → M Vl := fun ev => do
  let y ← fd ev
  let _ ← dictAt y
  let x ← fe ev
  let z ← fz ev
  let p ← dictAt y
  let k ← M.lift (keyFor p.2 x)
  match lookK p.2 k with
  | some d => pure (.d d)
  | none => pure z
def putDict (n : Nat) (kvs : List (NestedKey × PyData)) : M Vl := fun S => some (.ok (.d .none), S.set n (.k kvs))
def fDSet (fv fd fe : Ev → M Vl) : Ev → M Vl := fun ev => do
  let v ← fv ev
  let z ← M.lift (datOf v)
  let y ← fd ev
  let x ← fe ev
  let p ← dictAt y
  let k ← M.lift (keyFor p.2 x)
  if p.2.length < 1000000 then putDict p.1 (putKV p.2 k z) else M.fail
section
variable {X : Cx} {c : Cf} {W : WX} {e a b o i : Expr} {f g h fe fd fz : Ev → M Vl} {pos tpos : Pos}
def rDIn (X : Cx) (neg : Bool) : R2 := fun x y H Q => ∃ r a ps kvs k, y = .ref a ∧ KeyAt X r H x a ps kvs k ∧ Q (.bl (if neg then !(lookK kvs k).isSome else (lookK kvs k).isSome)) H
theorem op_dIn (hu : X.A.units + 64 < cLine) (neg : Bool) : OpR X (compareOp (if neg then .NotIn else .In)) (rDIn X neg) := by
  intro pins s σ H x y v u Q I rx ry h
  obtain ⟨r, a, ps, kvs, k, rfl, ka, q⟩ := h
  cases ry
  cases neg with
  | false => exact kd_in hu I ka rx fun s' I' => ⟨.bl _, H, I', rfl, q⟩
  | true => exact kd_notIn hu I ka rx fun s' I' => ⟨.bl _, H, I', rfl, q⟩
theorem dIn_weak {neg : Bool} {σ : L2.St} {H : Hp} {Q : VK} (hh : tE X c W (fDIn neg f g) σ H Q) : tOp (rDIn X neg) (tE X c W f) (tE X c W g) σ H Q := by
  obtain ⟨r, ev, S, x, hh⟩ := hh
  refine tX.of x hh.bind fun v H1 ⟨r1, S1, w, e1, s1, t1, q1, h1⟩ => ?_
  have x1 := x.ext e1 s1 t1
  refine tX.of x1 h1.bind fun u H2 ⟨r2, S2, y, e2, s2, t2, q2, h2⟩ => ?_
  obtain ⟨n, a, kvs, ps, g1, rfl, g2, g3, g4, rfl, h3⟩ := dictAt_run h2 s2 q2
  obtain ⟨k, ek, h4⟩ := lift_run h3
  exact ⟨r2, a, ps, kvs, k, rfl, keyFor_at (K := X.K) ek (q1.ext e2) g3 g4, h4.pure rfl s2 t2 (.bl _)⟩
theorem qe_dIn (neg : Bool) (hu : X.A.units + 64 < cLine) (ha : QE X c W a f) (hb : QE X c W b g) (hm : behindInMarks (if neg then .NotIn else .In) b = false := by first | exact nomark _ (by decide) (by decide) | with_unfolding_all rfl) :
    QE X c W (.Compare a [if neg then .NotIn else .In] [b] pos) (fDIn neg f g) := pe_weak (pe_cmpR (op_dIn hu neg) ha hb hm) fun σ H Q h => dIn_weak h
theorem qt_dIn (neg : Bool) (hu : X.A.units + 64 < cLine) (ha : QE X c W a f) (hb : QE X c W b g) (hm : behindInMarks (if neg then .NotIn else .In) b = false := by first | exact nomark _ (by decide) (by decide) | with_unfolding_all rfl) :
    QT X c W (.Compare a [if neg then .NotIn else .In] [b] pos) (fB (fDIn neg f g)) := pt_weak (pt_cmpR (op_dIn hu neg) ha hb hm) fun σ H Q h => dIn_weak (fB_of h)
def rDGet (X : Cx) : R2 := fun x y H Q => ∃ r a ps kvs k d, x = .ref a ∧ KeyAt X r H y a ps kvs k ∧ lookK kvs k = some d ∧ ∀ v, Rp X.K r H v d → Q v H
theorem ix_dGet (hu : X.A.units + 64 < cLine) : IxR X (rDGet X) := by
  intro value slice pins s σ H x y v u Q I rx ry h hs
  obtain ⟨r, a, ps, kvs, k, d, rfl, ka, ed, q⟩ := h
  cases rx
  exact tail_any (ka.typeIs I) slot_dict_getitem.lookup (kd_get hu I ka ry ed fun v w' s' I' rw' qv => ⟨v, H, I', rw', q v qv⟩) hs
theorem qe_dGet (hu : X.A.units + 64 < cLine) (ha : QE X c W a f) (hb : QE X c W b g) (hs : PlainIx b := by exact fun _ _ => rfl) : QE X c W (.Subscript a b pos) (fDGet f g) :=
  pe_weak (pe_ix (ix_dGet hu) ha hb hs) fun σ H Q hh => by
    obtain ⟨r, ev, S, x, hh⟩ := hh
    refine tX.of x hh.bind fun v H1 ⟨r1, S1, w, e1, s1, t1, q1, h1⟩ => ?_
    have x1 := x.ext e1 s1 t1
    refine tX.of x1 h1.bind fun u H2 ⟨r2, S2, y, e2, s2, t2, q2, h2⟩ => ?_
    obtain ⟨n, a, kvs, ps, g1, rfl, g2, g3, g4, rfl, h3⟩ := dictAt_run h2 s2 (q1.ext e2)
    obtain ⟨k, ek, h4⟩ := lift_run h3
    obtain ⟨d, ed, h5⟩ := lift_run h4
    exact ⟨r2, a, ps, kvs, k, d, rfl, keyFor_at (K := X.K) ek q2 g3 g4, ed, fun v qv => h5.pure rfl s2 t2 qv⟩
def rSetD (X : Cx) : TSet := fun x y v H Q => ∃ r a ps kvs k, x = .ref a ∧ KeyAt X r H y a ps kvs k ∧ ps.length < sizeLine ∧ ∀ b, (∀ ks, k = .tup ks → Rp X.K r H (.ref b) k.data ∧ k.depth ≤ 8) → Q (upd H a (HoD X.w a (putVV ps k b v)))
theorem set_dict (hu : X.A.units + 64 < cLine) : PSet X (rSetD X) := by
  intro pins s σ H x y v ov iv u Q I ro ri rv h
  obtain ⟨r, a, ps, kvs, k, rfl, ka, hl, q⟩ := h
  cases ro
  exact kd_set hu I ka ri rv hl fun b s' hb I' => ⟨_, I', q b hb⟩
theorem qs_dSet {tpos : Pos} (hu : X.A.units + 64 < cLine) (hv : QE X c W e f) (ho : QE X c W o g) (hi : QE X c W i h)
    (ha : ∀ v, assign (.Subscript o i tpos) X.env v = (do
      let ov ← holding [v] (eval o X.env)
      let iv ← holding [v, ov] (eval i X.env)
      standAt tpos
      holding [v, ov, iv] (setItem ov iv v)
      release [v, ov, iv] []) := by intro _; rfl)
    (hs : swapsWithSole [.Subscript o i tpos] e pos.line X.env = pure false := by rfl) (hw : swappedStores [.Subscript o i tpos] e X.env = pure none := by rfl)
    (h1 : (assignEach [.Subscript o i tpos] X.env).map (·.2) = [assign (.Subscript o i tpos) X.env] := by rfl) : QS X c W (.Assign [.Subscript o i tpos] e pos) (sExpr (fDSet f g h)) := by
  refine ps_weak (ps_asg hv (pg_sub ho hi (set_dict hu) ha) hs hw h1) fun D σ H ⟨r, ev, S, x, hh⟩ => ?_
  have hh := hh.onE (R := Rw X.K X.mg) x
  refine tX.of x hh.bind fun v H1 ⟨r1, S1, w, e1, s1, t1, q1, h1⟩ => ?_
  have x1 := x.ext e1 s1 t1
  obtain ⟨z, ez, h2⟩ := lift_run h1
  refine tX.of x1 h2.bind fun ov H2 ⟨r2, S2, y, e2, s2, t2, q2, h3⟩ => ?_
  have x2 := x1.ext e2 s2 t2
  refine tX.of x2 h3.bind fun iv H3 ⟨r3, S3, k0, e3, s3, t3, q3, h4⟩ => ?_
  obtain ⟨n, a, kvs, ps, g1, rfl, g2, g3, g4, rfl, h5⟩ := dictAt_run h4 s3 (q2.ext e3)
  obtain ⟨k, ek, h6⟩ := lift_run h5
  dsimp only at h6
  split at h6
  · rename_i hz
    refine ⟨r3, a, ps, kvs, k, rfl, keyFor_at (K := X.K) ek q3 g3 g4, by rw [g4.length, sizeLine_eq]; exact Nat.lt_of_lt_of_le hz (by omega), fun b hb => ?_⟩
    obtain ⟨o', S', e', h7⟩ := h6
    cases e'
    have E : Ext false r3 r3 H3 (upd H3 a (HoD X.w a (putVV ps k b v))) := Ext.put s3.mu (List.mem_of_getElem? g1)
    have st := s3.putO (o := HoD X.w a (putVV ps k b v)) (m := .k (putKV kvs k z)) g1 fun H' E' e' => ⟨_, e', RpKV.map (fun _ _ q => E'.sqf q) (fun _ _ q => E'.sqt q) (g4.put hb (datOf_ok ((q1.ext e2).ext e3) ez))⟩
    obtain ⟨r', S', w', E9, x', _, q'⟩ := h7 r3 .non _ E.up st (tabs_ext E t3) (show Rp X.K _ _ _ _ from .non)
    exact q'.nx x'
  · exact (fail_run h6).elim
end
end DD
/-! part DG -/
set_option Elab.async false
set_option linter.all false
set_option maxRecDepth 100000
set_option maxHeartbeats 4000000
namespace DD
open PySem PySem.Spec PyProof.Rows L2 LamX

/-! ### d.get(k, x) -/
section
variable {X : Cx} {pins : List (Addr × Obj)} {σ : L2.St} {r : Lv} {H : Hp} {s : Shared} {a : Addr} {ps : List (NestedKey × Addr × V)} {qs : List (NestedKey × PyData)} {x z : V} {u t : Value} {k : NestedKey} {A : Around} {E : Value → Shared → Prop}
theorem hoD_type (I : Inv X pins σ H s) (e : H a = some (HoD X.w a ps)) : s.TypeIs (.ref a) "dict" ∧ ∀ b, Value.ref a = .ref b → ∃ ob, s.heap.get? b = some ob ∧ ob.dict = none := by
  obtain ⟨_, _, ⟨vs, _, d⟩ | ⟨_, xs, _, o, es, ep, e, c, _⟩⟩ := dform_at I e
  · obtain ⟨o, _, _, e, c, _⟩ := d X.prog
    exact ⟨⟨o, e, c.1⟩, fun b q => by cases q; exact ⟨o, e, c.2.1⟩⟩
  · exact ⟨⟨o, e, c.1⟩, fun b q => by cases q; exact ⟨o, e, c.2.1⟩⟩
theorem kd_get2 (hu : A.units + 64 < cLine) {Q : Value → Shared → Prop} (I : Inv X pins σ H s) (c : KeyAt X r H x a ps qs k) (ru : RelV x u) (rt : RelV z t)
    (h1 : ∀ d v w' s', lookK qs k = some d → Inv X pins σ H s' → RelV v w' → Rp X.K r H v d → Q w' s') (h2 : ∀ s', lookK qs k = none → Inv X pins σ H s' → Q t s') : wpAny (model X.prog X.w) A (call (.builtin "dict.get") [.ref a, u, t]) Q E s := by
  have fin : ∀ {o : Option Value} {s' : Shared}, RelO (lookV ps k) o → Inv X pins σ H s' → Q (o.getD t) s' := fun {o s'} ro I' => by
    rcases c.kv.look k with ⟨e1, e2⟩ | ⟨v, d, e1, e2, q⟩
    · rw [e1] at ro
      cases o with
      | none => exact h2 _ e2 I'
      | some w => exact ro.elim
    · rw [e1] at ro
      obtain ⟨w', hw, rw'⟩ := RelO.some_of ro
      subst hw
      exact h1 d v w' _ e2 I' rw' q
  rcases c.cases I ru with ⟨j, vs, e, hk, kv, dd⟩ | ⟨b, ks, xs, e1, e2, e3, q, hk, kt, dd⟩
  · exact call_meetsIn PySem.F.slot_dict_get (c.typeIs I) PySem.F.entry_dict_get (PySem.F.args_dict_get_3 _ _ _) (meets_dict_get_default (noneKind X.prog X.w) a hk (c.sys I) t) ⟨_, (dd X.prog).mapOf, fin (by rw [e]; exact kv.val j) (I.tok _)⟩
  · subst e2
    exact call_meetsIn PySem.F.slot_dict_get (c.typeIs I) PySem.F.entry_dict_get (PySem.F.args_dict_get_3 _ _ _) (meetsH_dict_get_default (nestedKind X.prog X.w) a b (c.sys I) t)
      ⟨show A.in1.units + 8 < cLine by show A.units + 1 + 8 < cLine; omega, k, xs, hk, dd, fin (kt.val k) (I.tok _)⟩
end
def tGet2 (X : Cx) (td ty tx : TE) : TE := fun σ H Q => td σ H fun x H1 => ∃ a ps, x = .ref a ∧ H1 a = some (HoD X.w a ps) ∧ ty σ H1 fun y H2 => tx σ H2 fun z H3 => ∃ r ps kvs k, KeyAt X r H3 y a ps kvs k ∧ (∀ d v, lookK kvs k = some d → Rp X.K r H3 v d → Q v H3) ∧ (lookK kvs k = none → Q z H3)
section
variable {X : Cx} {c : Cf} {W : WX} {o e f : Expr} {apos cpos : Pos} {td ty tx : TE} {fd fe fz : Ev → M Vl}
theorem pe_get2 (hu : X.A.units + 64 < cLine) (ho : PE X o td) (he : PE X e ty) (hf : PE X f tx) (m : M2 X o "get" apos e f cpos) : PE X (.Call (.Attribute o "get" apos) [e, f] [] cpos) (tGet2 X td ty tx) := by
  refine ⟨fun pins s σ H Q I h => wpAny_Call_method m.base m.few m.line PySem.F.plainAttrs_dict PySem.F.slot_dict_get PySem.F.type_dict_get (thn (ho.run pins s σ H _ I h) fun u s1 ⟨x, H1, I1, rx, a, ps, ex, hd, q1⟩ => ?_)⟩
  subst ex
  cases rx
  obtain ⟨t1, t2⟩ := hoD_type I1 hd
  refine ⟨t1, t2, ?_⟩
  rw [m.trees]
  exact Calls.callWith_builtin rfl (Calls.evalArgs_plain (Calls.spliced_cons (thn (he.run pins s1 σ H1 _ I1 q1) fun iv s2 ⟨y, H2, I2, ry, q2⟩ =>
    Calls.spliced_cons (thn (hf.run pins s2 σ H2 _ I2 q2) fun fv s3 ⟨z, H3, I3, rz, r, ps', kvs, k, ka, g1, g2⟩ => Calls.spliced_nil
      (kd_get2 hu I3 ka ry rz (fun d v w' s' ed I' rw' qv => ⟨v, H3, I', rw', g1 d v ed qv⟩) fun s' ed I' => ⟨z, H3, I', rz, g2 ed⟩)))))
theorem qe_dGet2 (hu : X.A.units + 64 < cLine) (ho : QE X c W o fd) (he : QE X c W e fe) (hf : QE X c W f fz)
    (hbase : attributeBase o "get" X.env (eval o X.env) = eval o X.env := by rfl)
    (hfew : ((backTo cpos (starEach [e, f] X.env)).all (fun x => !x.1) && (backToKw cpos (keywordEach [] X.env)).all (fun x => x.1.isSome)
      && decide (([e, f] : List Expr).length + ([] : List Keyword).length + (if ([] : List Keyword).isEmpty then 0 else 1) < 30)) = true := by rfl)
    (hline : (apos.endLine == cpos.line) = true := by rfl) (htrees : backTo cpos (starEach [e, f] X.env) = [(false, eval e X.env), (false, eval f X.env)] := by rfl) :
    QE X c W (.Call (.Attribute o "get" apos) [e, f] [] cpos) (fDGet2 fd fe fz) := pe_weak (pe_get2 hu ho he hf ⟨hbase, hfew, hline, htrees⟩) fun σ H Q hh => by
  obtain ⟨r, ev, S, x, hh⟩ := hh
  refine tX.of x hh.bind fun v H1 ⟨r1, S1, w, e1, s1, t1, q1, h1⟩ => ?_
  have x1 := x.ext e1 s1 t1
  obtain ⟨n, a, kvs, ps, g1, rfl, g2, g3, g4, rfl, h2⟩ := dictAt_run h1 s1 q1
  refine ⟨a, ps, rfl, g3, tX.of x1 h2.bind fun y H2 ⟨r2, S2, y', e2, s2, t2, q2, h3⟩ => ?_⟩
  have x2 := x1.ext e2 s2 t2
  refine tX.of x2 h3.bind fun z H3 ⟨r3, S3, z', e3, s3, t3, q3, h4⟩ => ?_
  obtain ⟨n', a', kvs', ps', g1', ea, g2', g3', g4', en, h5⟩ := dictAt_run h4 s3 ((q1.ext e2).ext e3)
  cases ea
  obtain ⟨k, ek, h6⟩ := lift_run h5
  refine ⟨r3, ps', kvs', k, keyFor_at (K := X.K) ek (q2.ext e3) g3' g4', fun d v ed qv => ?_, fun ed => ?_⟩
  · dsimp only at h6
    rw [ed] at h6
    exact h6.pure rfl s3 t3 qv
  · dsimp only at h6
    rw [ed] at h6
    exact h6.pure rfl s3 t3 q3
end

/-! ### displays -/
def fPairs : List ((Ev → M Vl) × (Ev → M Vl)) → Ev → M (List (Vl × Vl))
  | [], _ => pure []
  | (f, g) :: r, ev => do
    let x ← f ev
    let y ← g ev
    let t ← fPairs r ev
    pure ((x, y) :: t)
/-- the pairs as a dict's: keys of one flavour -/
def asKV : List (Vl × Vl) → Option (List (NestedKey × PyData))
  | [] => some []
  | (x, y) :: r => match datOf x, datOf y, asKV r with
    | some d, some z, some t => match keyN d with
      | some k => if decide (k.depth ≤ 8) && flav k t then some ((k, z) :: t) else none
      | none => none
    | _, _, _ => none
def mergeKV (kvs more : List (NestedKey × PyData)) : List (NestedKey × PyData) := more.foldl (fun acc p => putKV acc p.1 p.2) kvs
def M.newK (kvs : List (NestedKey × PyData)) : M Vl := fun S => some (.ok (.m S.length), S ++ [.k kvs])
def fDisp (ps : List ((Ev → M Vl) × (Ev → M Vl))) : Ev → M Vl := fun ev => do
  let ws ← fPairs ps ev
  let kvs ← M.lift (asKV ws)
  if kvs.length ≤ 1000 then M.newK (mergeKV [] kvs) else M.fail
inductive RPr (K : PySem.W.Frag) (mg : Str → Option Value) (r : Lv) (H : Hp) : List (V × V) → List (Vl × Vl) → Prop
  | nil : RPr K mg r H [] []
  | cons {x y : V} {a b : Vl} {vs : List (V × V)} {ws : List (Vl × Vl)} : Rw K mg r H x a → Rw K mg r H y b → RPr K mg r H vs ws → RPr K mg r H ((x, y) :: vs) ((a, b) :: ws)
theorem pairs_run {X : Cx} {c : Cf} {W : WX} : ∀ (ps : List ((Ev → M Vl) × (Ev → M Vl))) {σ : L2.St} {H : Hp} {Q : List (V × V) → Hp → Prop}, tX X c W (RPr X.K X.mg) (fPairs ps) σ H Q → tPairs (ps.map fun p => (tE X c W p.1, tE X c W p.2)) σ H Q
  | [], σ, H, Q, h => by
    obtain ⟨r, ev, S, x, h⟩ := h
    exact h.pure rfl x.sto x.tabs .nil
  | (f, g) :: ps, σ, H, Q, h => by
    obtain ⟨r, ev, S, x, h⟩ := h
    refine tX.of x h.bind fun v H1 ⟨r1, S1, w, e1, s1, t1, q1, h1⟩ => ?_
    have x1 := x.ext e1 s1 t1
    refine tX.of x1 h1.bind fun u H2 ⟨r2, S2, y, e2, s2, t2, q2, h2⟩ => ?_
    have x2 := x1.ext e2 s2 t2
    exact pairs_run ps (tX.of x2 h2.bind fun vs H3 ⟨r3, S3, ws, e3, s3, t3, q3, h3⟩ => h3.pure rfl s3 t3 (.cons ((q1.ext e2).ext e3) (q2.ext e3) q3))
/-- a hidden dict joins the store -/
theorem Ext.join {lam : Bool} {r0 r : Lv} {H0 H : Hp} {D : Addr} {o : HO} (a : Ext lam r0 r H0 H) (hD : H0 D = none) : Ext lam r0 ⟨r.st ++ [D], r.hid⟩ H0 (upd H D o) := by
  have f := a.fresh (o := o) hD
  refine ⟨?_, f.keep, f.dom, f.mu⟩
  obtain ⟨n, rfl, hn⟩ := f.pre
  refine ⟨n ++ [D], by rw [List.append_assoc], fun x hx => ?_⟩
  rcases List.mem_append.mp hx with hx | hx
  · exact hn x hx
  · have : x = D := by simpa using hx
    rw [this]; exact .inl hD
theorem sqf_upd {K : PySem.W.Frag} {r : Lv} {H : Hp} {D a : Addr} {o : HO} {φ : Heap → Prop} {xs : List V} (hD : H D = some (.ext φ)) (h : SqF K r H a xs) : SqF K ⟨r.st ++ [D], r.hid⟩ (upd H D o) a xs := by
  rcases h with ⟨h, hn⟩ | ⟨o', h⟩ | h
  · have ne : a ≠ D := fun e => by rw [e, hD] at h; cases h
    refine .inl ⟨by rw [upd_ne ne]; exact h, fun hm => ?_, hn.2⟩
    rcases List.mem_append.mp hm with hm | hm
    · exact hn.1 hm
    · exact ne (by simpa using hm)
  · exact .inr (.inl ⟨o', by rw [upd_ne (fun e => by rw [e, hD] at h; cases h)]; exact h⟩)
  · exact .inr (.inr h)
theorem sqt_upd {K : PySem.W.Frag} {H : Hp} {D a : Addr} {o : HO} {φ : Heap → Prop} {xs : List V} (hD : H D = some (.ext φ)) (h : SqT K H a xs) : SqT K (upd H D o) a xs := by
  rcases h with (h | ⟨o', h⟩) | h
  · exact .inl (.inl (by rw [upd_ne (fun e => by rw [e, hD] at h; cases h)]; exact h))
  · exact .inl (.inr ⟨o', by rw [upd_ne (fun e => by rw [e, hD] at h; cases h)]; exact h⟩)
  · exact .inr h
theorem StoRel.join {wd : World} {K : PySem.W.Frag} {r : Lv} {H : Hp} {S : Sto} {D : Addr} {φ : Heap → Prop} {ps : List (NestedKey × Addr × V)} {kvs : List (NestedKey × PyData)} (s : StoRel wd K r H S) (hD : H D = some (.ext φ)) (hn : r.no D) (q : RpKV K r H ps kvs) :
    StoRel wd K ⟨r.st ++ [D], r.hid⟩ (upd H D (HoD wd D ps)) (S ++ [.k kvs]) := by
  refine ⟨?_, by simp [s.len], fun n a m h1 h2 => ?_, fun a ha => ?_, fun a ha hm => ?_⟩
  · show (r.st ++ [D]).Nodup
    rw [List.nodup_append]
    refine ⟨s.nd, by simp, fun a ha b hb e => ?_⟩
    have hb' : b = D := by simpa using hb
    subst hb'; subst e
    exact hn.1 ha
  · have h1 : (r.st ++ [D])[n]? = some a := h1
    by_cases hlt : n < r.st.length
    · rw [List.getElem?_append_left hlt] at h1
      rw [List.getElem?_append_left (by rw [← s.len]; exact hlt)] at h2
      have ne : a ≠ D := fun e => hn.1 (e ▸ List.mem_of_getElem? h1)
      exact (s.ob n a m h1 h2).map (fun u e => by rw [upd_ne ne]; exact e) (fun _ _ q => sqf_upd hD q) fun _ _ q => sqt_upd hD q
    · have hn2 : n = r.st.length := by
        have := (List.getElem?_eq_some_iff.mp h1).1
        simp at this; omega
      subst hn2
      rw [List.getElem?_append_right (Nat.le_refl _)] at h1
      rw [s.len, List.getElem?_append_right (Nat.le_refl _)] at h2
      simp at h1 h2
      subst h1; subst h2
      exact ⟨ps, upd_same, RpKV.map (fun _ _ q => sqf_upd hD q) (fun _ _ q => sqt_upd hD q) q⟩
  · rw [upd_ne (fun (z : a = D) => hn.2 (z ▸ ha))]; exact s.hid a ha
  · have hm : a ∈ r.st ++ [D] := hm
    rcases List.mem_append.mp hm with hm | hm
    · exact s.apart a ha hm
    · have e : a = D := by simpa using hm
      exact hn.2 (e ▸ ha)

def mergeVV (acc more : List (NestedKey × Addr × V)) : List (NestedKey × Addr × V) := more.foldl (fun acc p => putVV acc p.1 p.2.1 p.2.2) acc
theorem mergeVV_len : ∀ (more acc : List (NestedKey × Addr × V)), (mergeVV acc more).length ≤ acc.length + more.length
  | [], acc => by show acc.length ≤ acc.length + 0; omega
  | p :: r, acc => by
    have h1 := mergeVV_len r (putVV acc p.1 p.2.1 p.2.2)
    have h2 : (putVV acc p.1 p.2.1 p.2.2).length ≤ acc.length + 1 := by
      unfold putVV
      split
      · rw [List.length_map]; omega
      · rw [List.length_append]; exact Nat.le_refl _
    show (mergeVV (putVV acc p.1 p.2.1 p.2.2) r).length ≤ _
    rw [List.length_cons]; omega
theorem RpKV.merge {K : PySem.W.Frag} {r : Lv} {H : Hp} {more : List (NestedKey × Addr × V)} {qs : List (NestedKey × PyData)} (h : RpKV K r H more qs) : ∀ {acc : List (NestedKey × Addr × V)} {as : List (NestedKey × PyData)}, RpKV K r H acc as → RpKV K r H (mergeVV acc more) (mergeKV as qs) := by
  induction h with
  | nil => intro acc as q; exact q
  | cons h1 h2 t ih => intro acc as q; exact ih (q.put h1 h2)
theorem KVn.merge {more : List (NestedKey × Addr × V)} {rs : List (Option Key × Value)} (h : KVn more rs) : ∀ {acc : List (NestedKey × Addr × V)} {vs : List (Option Key × Value)}, KVn acc vs → KVn (mergeVV acc more) (merged vs rs) := by
  unfold KVn at h
  induction h with
  | nil => intro acc as q; exact q
  | @cons p q ps qs hh t ih =>
    intro acc vs z
    have e : KVn (putVV acc p.1 p.2.1 p.2.2) (stored vs q.1 q.2) := by rw [hh.1]; exact z.put q.1 hh.2
    exact ih e
theorem KTn.merge {more : List (NestedKey × Addr × V)} {xs : List (NestedKey × Addr × Value)} (h : KTn more xs) : ∀ {acc : List (NestedKey × Addr × V)} {vs : List (NestedKey × Addr × Value)}, KTn acc vs → KTn (mergeVV acc more) (storedAllH vs xs) := by
  unfold KTn at h
  induction h with
  | nil => intro acc as q; exact q
  | @cons p q ps qs hh t ih =>
    intro acc vs z
    have e : KTn (putVV acc p.1 p.2.1 p.2.2) (storedH vs q.1 q.2.1 q.2.2) := by rw [hh.1, hh.2.1]; exact z.put q.1 hh.2.2
    exact ih e
theorem mergeVV_tup {more : List (NestedKey × Addr × V)} (h : ∀ p ∈ more, isTupK p.1 = true) : ∀ {acc : List (NestedKey × Addr × V)}, (∀ p ∈ acc, isTupK p.1 = true) → ∀ p ∈ mergeVV acc more, isTupK p.1 = true := by
  induction more with
  | nil => intro acc q; exact q
  | cons x r ih =>
    intro acc q
    refine ih (fun p hp => h p (List.mem_cons_of_mem _ hp)) (acc := putVV acc x.1 x.2.1 x.2.2) ?_
    intro p hp
    unfold putVV at hp
    split at hp
    · obtain ⟨p0, hp0, rfl⟩ := List.mem_map.mp hp
      split
      · exact q p0 hp0
      · exact q p0 hp0
    · rcases List.mem_append.mp hp with hp | hp
      · exact q p hp
      · have : p = (x.1, x.2.1, x.2.2) := by simpa using hp
        rw [this]; exact h x List.mem_cons_self
/-- of which flavour the pairs' keys are -/
def allTup (kvs : List (NestedKey × PyData)) : Bool := match kvs with
  | (k, _) :: _ => isTupK k
  | [] => false
section
variable {X : Cx} {pins : List (Addr × Obj)} {σ : L2.St} {r : Lv} {H : Hp} {s : Shared} {mg : Str → Option Value}
theorem asKV_cons {x y : Vl} {ws : List (Vl × Vl)} {kvs : List (NestedKey × PyData)} (h : asKV ((x, y) :: ws) = some kvs) : ∃ d z t k, datOf x = some d ∧ datOf y = some z ∧ asKV ws = some t ∧ keyN d = some k ∧ k.depth ≤ 8 ∧ flav k t = true ∧ kvs = (k, z) :: t := by
  rw [asKV] at h
  split at h
  · rename_i d z t h1 h2 h3
    split at h
    · rename_i k hk
      split at h
      · rename_i hb
        cases h
        rw [Bool.and_eq_true, decide_eq_true_eq] at hb
        exact ⟨d, z, t, k, h1, h2, h3, hk, hb.1, hb.2, rfl⟩
      · cases h
    · cases h
  · cases h
theorem flav_all {k : NestedKey} {t : List (NestedKey × PyData)} (h : flav k t = true) : ∀ p ∈ t, isTupK p.1 = isTupK k := fun p hp => eq_of_beq (List.all_eq_true.mp h p hp)
theorem disp_val (I : Inv X pins σ H s) : ∀ {vps : List (V × V)} {ws : List (Vl × Vl)} {vs : List (Value × Value)} {kvs : List (NestedKey × PyData)}, RPr X.K mg r H vps ws → VV vps vs → asKV ws = some kvs → (∀ p ∈ kvs, isTupK p.1 = false) →
    ∃ (rs : List (Option Key × Value)) (ps : List (NestedKey × Addr × V)), Carries (noneKind X.prog X.w) vs rs ∧ KVn ps rs ∧ RpKV X.K r H ps kvs
  | _, _, _, _, .nil, .nil, e, _ => by cases e; exact ⟨[], [], True.intro, .nil, .nil⟩
  | _, _, _, _, @RPr.cons _ _ _ _ x y a b vps ws qa qb t, @Paired.cons _ _ _ _ bb _ bs hh rv, e, f => by
    obtain ⟨d, z, t', k, h1, h2, h3, h4, h5, h6, rfl⟩ := asKV_cons e
    obtain ⟨rs, ps, g1, g2, g3⟩ := disp_val I t rv h3 fun p hp => f p (List.mem_cons_of_mem _ hp)
    obtain ⟨j, hj⟩ := nkeyV_of (f _ List.mem_cons_self)
    obtain ⟨b1, b2⟩ := bb
    refine ⟨(j, b2) :: rs, (k, 0, y) :: ps, ⟨nkeyV_is hj h4 (datOf_ok qa h1) hh.1, rfl, g1⟩, .cons ⟨hj, hh.2⟩ g2, .cons (fun ks ek => ?_) (datOf_ok qb h2) g3⟩
    have hj' : k = nkeyV j := hj
    rw [hj'] at ek
    exact absurd ek nkeyV_tup
theorem disp_tup (I : Inv X pins σ H s) : ∀ {vps : List (V × V)} {ws : List (Vl × Vl)} {vs : List (Value × Value)} {kvs : List (NestedKey × PyData)}, RPr X.K mg r H vps ws → VV vps vs → asKV ws = some kvs → (∀ p ∈ kvs, isTupK p.1 = true) →
    ∃ (xs : List (NestedKey × Addr × Value)) (ps : List (NestedKey × Addr × V)), CarriesH (nestedKind X.prog X.w) s.heap vs xs ∧ KTn ps xs ∧ RpKV X.K r H ps kvs ∧ ∀ p ∈ ps, isTupK p.1 = true
  | _, _, _, _, .nil, .nil, e, _ => by cases e; exact ⟨[], [], True.intro, .nil, .nil, fun p hp => nomatch hp⟩
  | _, _, _, _, @RPr.cons _ _ _ _ x y a b vps ws qa qb t, @Paired.cons _ _ _ _ bb _ bs hh rv, e, f => by
    obtain ⟨d, z, t', k, h1, h2, h3, h4, h5, h6, rfl⟩ := asKV_cons e
    obtain ⟨xs, ps, g1, g2, g3, g4⟩ := disp_tup I t rv h3 fun p hp => f p (List.mem_cons_of_mem _ hp)
    obtain ⟨b1, b2⟩ := bb
    have q := datOf_ok qa h1
    rw [← keyN_data h4] at q
    have hk := f _ List.mem_cons_self
    cases k with
    | none => cases hk
    | num _ => cases hk
    | text _ => cases hk
    | tup ks =>
      have q2 := q
      rw [NestedKey.data] at q2
      cases q2 with
      | @tup A _ _ l1 l2 =>
        have e1 : b1 = .ref A := hh.1
        subst e1
        refine ⟨(.tup ks, A, b2) :: xs, (.tup ks, A, y) :: ps, ⟨rfl, rfl, ⟨nested_of I q rfl, h5⟩, g1⟩, .cons ⟨rfl, rfl, hh.2⟩ g2, .cons (fun ks' ek => ⟨q, h5⟩) (datOf_ok qb h2) g3, fun p hp => ?_⟩
        rcases List.mem_cons.mp hp with e | hp
        · rw [e]; rfl
        · exact g4 p hp
end
theorem tRun.bindE {α γ β δ : Type} {X : Cx} {c : Cf} {W : WX} {r : Lv} {σ : L2.St} {H : Hp} {S : Sto} {R : Lv → Hp → β → α → Prop} {R1 : Lv → Hp → δ → γ → Prop} {m : M γ} {g : γ → M α} {Q : β → Hp → Prop} (h : tRun X c W R r σ H S (m >>= g) Q) :
    tRun X c W R1 r σ H S m (fun b H1 => ∃ r1 S1 a, m S = some (.ok a, S1) ∧ Ext c.lam r r1 H H1 ∧ StoRel X.w X.K r1 H1 S1 ∧ Tabs c.T H1 ∧ R1 r1 H1 b a ∧ tRun X c W R r1 σ H1 S1 (g a) Q) := by
  obtain ⟨o, S', e, hh⟩ := h.bind (R1 := R1)
  refine ⟨o, S', e, ?_⟩
  cases o with
  | error x => exact hh
  | ok a =>
    intro r' b H' E s t q
    obtain ⟨r1, S1, a', E1, s1, t1, q1, h1⟩ := hh r' b H' E s t q
    refine ⟨r', S', a, e, E, s, t, q, ?_⟩
    obtain ⟨o2, S2, e2, h2⟩ := id h
    rw [M.bind_run, e] at e2
    refine ⟨o2, S2, e2, ?_⟩
    cases o2 with
    | ok w => exact fun r'' v H'' E' s' t' q' => h2 r'' v H'' (E.trans E') s' t' q'
    | error y =>
      obtain ⟨C, hC, h2⟩ := h2
      exact ⟨C, hC, fun r'' H'' E' s' t' => h2 r'' H'' (E.trans E') s' t'⟩
theorem run_next {α γ β : Type} {X : Cx} {c : Cf} {W : WX} {r : Lv} {σ : L2.St} {H : Hp} {S S1 : Sto} {R : Lv → Hp → β → α → Prop} {m : M γ} {g : γ → M α} {Q : β → Hp → Prop} (h : tRun X c W R r σ H S (m >>= g) Q) {a : γ} (e : m S = some (.ok a, S1)) : tRun X c W R r σ H S1 (g a) Q := by
  obtain ⟨o, S', e', h⟩ := h
  rw [M.bind_run, e] at e'
  exact ⟨o, S', e', h⟩
/-- the start moved on -/
theorem tRun.on {α β : Type} {X : Cx} {c : Cf} {W : WX} {r r1 : Lv} {σ : L2.St} {H H1 : Hp} {S : Sto} {R : Lv → Hp → β → α → Prop} {m : M α} {Q : β → Hp → Prop} (h : tRun X c W R r σ H S m Q) (E : Ext c.lam r r1 H H1) : tRun X c W R r1 σ H1 S m Q := by
  obtain ⟨o2, S2, e2, h2⟩ := h
  refine ⟨o2, S2, e2, ?_⟩
  cases o2 with
  | ok w => exact fun r'' v H'' E' s' t' q' => h2 r'' v H'' (E.trans E') s' t' q'
  | error y =>
    obtain ⟨C, hC, h2⟩ := h2
    exact ⟨C, hC, fun r'' H'' E' s' t' => h2 r'' H'' (E.trans E') s' t'⟩

theorem tabs_ho {T : List (Addr × Str)} {wd : World} {H : Hp} {D a : Addr} {ps : List (NestedKey × Addr × V)} {o : HO} (t : Tabs T H) (hD : H D = some (HoD wd a ps)) : Tabs T (upd H D o) := by
  intro p hp
  obtain ⟨us, h1, h2, h3⟩ := t p hp
  refine ⟨us, by rw [upd_ne (fun z => by rw [z, hD] at h1; cases h1)]; exact h1, h2, fun pos cv hc => ?_⟩
  obtain ⟨cc, e1, e2⟩ := h3 pos cv hc
  refine ⟨cc, e1, ?_⟩
  rw [upd_ne (fun z => by rw [z, hD] at e2; exact codeO_hoD (Option.some.inj e2).symm)]
  exact e2
theorem dform_empty {P : Program} {wd : World} {h : Heap} (hb : sysModules < h.objs.size) : DForm wd h.objs.size [] (h.push { cls := .type "dict", data := .dict #[] }) :=
  ⟨Nat.zero_le _, beq_eq_false_iff_ne.mpr (Ne.symm (Nat.ne_of_lt hb)), .inl ⟨[], .nil, fun P => Heap.DictOf.new h⟩⟩
section
variable {X : Cx} {c : Cf} {W : WX} {pos : Pos}
theorem qpp_nil : PPs X pos [] [] (([] : List ((Ev → M Vl) × (Ev → M Vl))).map fun p => (tE X c W p.1, tE X c W p.2)) := pps_nil
theorem qpp_cons {k v : Expr} {ks : List (Option Expr)} {vs : List Expr} {f g : Ev → M Vl} {ps : List ((Ev → M Vl) × (Ev → M Vl))} (hk : QE X c W k f) (hv : QE X c W v g) (hr : PPs X pos ks vs (ps.map fun p => (tE X c W p.1, tE X c W p.2))) :
    PPs X pos (some k :: ks) (v :: vs) (((f, g) :: ps).map fun p => (tE X c W p.1, tE X c W p.2)) := pps_cons hk hv hr
theorem qe_disp {keys : List (Option Expr)} {values : List Expr} {ps : List ((Ev → M Vl) × (Ev → M Vl))} (hu : X.A.units + 64 < cLine) (hp : PPs X pos keys values (ps.map fun p => (tE X c W p.1, tE X c W p.2))) (hall : keys.all (·.isSome) = true := by rfl) (hl : keys.length = values.length := by rfl) (h0 : keys ≠ [] := by simp) (h15 : keys.length ≤ 15 := by decide) :
    QE X c W (.Dict keys values pos) (fDisp ps) := by
  refine ⟨fun pins s σ H Q I h => ?_⟩
  obtain ⟨r, ev, S, x, h⟩ := h
  have hn := I.hok.fresh (Nat.le_refl s.heap.objs.size)
  obtain ⟨p, hpq⟩ : ∃ p, p = s.heap.objs.size := ⟨_, rfl⟩
  have I1 : Inv X pins σ (upd H p (HoD X.w p [])) { s with heap := s.heap.push { cls := .type "dict", data := .dict #[] } } := by
    rw [hpq]
    exact I.laid (t' := s.toks) (fun _ _ q => Heap.get?_push_of_some _ q) (Nat.le_refl _) (hoD_ok (dform_empty (P := X.prog) I.big))
  rw [← hpq] at hn
  have E1 : Ext false r r H (upd H p (HoD X.w p [])) := Ext.new x.sto.mu hn
  have x1 : Rel X c r σ (upd H p (HoD X.w p [])) ev S := x.ext' E1 (x.sto.new hn)
  have hb := (h.on E1.up).bindE (R1 := RPr X.K X.mg)
  -- what follows the pairs
  have fin : ∀ {H2 : Hp} {s2 : Shared} {h' : Heap} {t' : Nat} {r2 : Lv} {S2 : Sto} {ws : List (Vl × Vl)} {kvs : List (NestedKey × PyData)} {vps : List (NestedKey × Addr × V)}, Inv X pins σ H2 s2 → Ext c.lam r r2 (upd H p (HoD X.w p [])) H2 → StoRel X.w X.K r2 H2 S2 → Tabs c.T H2 → asKV ws = some kvs →
      tRun X c W (Rw X.K X.mg) r σ H S2 (do let kvs ← M.lift (asKV ws); if kvs.length ≤ 1000 then M.newK (mergeKV [] kvs) else M.fail) Q → RpKV X.K r2 H2 vps kvs → Heap.SameBut p s2.heap h' → (kvs.length ≤ 1000 → DForm X.w p (mergeVV [] vps) h') → EP X pins σ Q (.ref p) { s2 with heap := h', toks := t' } := by
    intro H2 s2 h' t' r2 S2 ws kvs vps I2 E2 st2 tb2 ek hr qk sb df
    have hD : H2 p = some (HoD X.w p []) := by
      rcases E2.keep p _ upd_same (fun hm => (x.sto.no hn).1 hm) with z | ⟨_, ps, z⟩
      · exact z
      · cases z
    have Ef : Ext c.lam r r2 H H2 := E1.up.trans E2
    have nn : r2.no p := by
      obtain ⟨n, rfl, hf⟩ := E2.pre
      refine ⟨fun hm => ?_, (x.sto.no hn).2⟩
      rcases List.mem_append.mp hm with hm | hm
      · exact (x.sto.no hn).1 hm
      · obtain ⟨_, ps, z⟩ := (hf p hm).clash upd_same
        cases z
    obtain ⟨kvs', ek', hr2⟩ := lift_run hr
    rw [ek] at ek'
    cases ek'
    split at hr2
    · rename_i hz
      obtain ⟨o, _, _, eo, _⟩ := (df hz).obj
      refine ⟨.ref p, upd H2 p (HoD X.w p (mergeVV [] vps)), d_write I2 (by rw [hD]; exact True.intro) sb ⟨o, eo⟩ (hoD_ok (df hz)), rfl, ?_⟩
      obtain ⟨o', S', e', hq⟩ := hr2
      cases e'
      exact hq ⟨r2.st ++ [p], r2.hid⟩ (.ref p) _ (Ef.join hn) (st2.join hD nn (qk.merge .nil)) (tabs_ho tb2 hD) ⟨p, by show (r2.st ++ [p])[S2.length]? = some p; rw [← st2.len, List.getElem?_append_right (Nat.le_refl _)]; simp, rfl⟩
    · exact (fail_run hr2).elim
  have sys : (p == sysModules) = false := by
    rw [hpq]
    exact beq_eq_false_iff_ne.mpr (Ne.symm (Nat.ne_of_lt I.big))
  have len : ∀ {vps : List (NestedKey × Addr × V)} {kvs : List (NestedKey × PyData)} {r2 : Lv} {H2 : Hp}, RpKV X.K r2 H2 vps kvs → kvs.length ≤ 1000 → (mergeVV [] vps).length ≤ sizeLine := fun {vps kvs r2 H2} q hz => by
    have h1 := mergeVV_len vps []
    have h2 := q.length
    rw [List.length_nil] at h1
    rw [sizeLine_eq]; omega
  by_cases ft : ∃ ws S1 kvs, fPairs ps ev S = some (.ok ws, S1) ∧ asKV ws = some kvs ∧ allTup kvs = true
  · obtain ⟨ws0, S0, kvs0, f1, f2, f3⟩ := ft
    have hn2 := pairTrees_length keys values X.env pos hall hl
    rw [arm_eval_Dict, zip_pairTrees keys values X.env pos hall hl, dictDisplay_pairs (pairTrees keys values X.env pos) (fun he => by rw [he] at hn2; exact h0 (List.length_eq_zero_iff.mp hn2.symm)) (by omega)]
    refine wpAny_bind (wpAny_standAt (wpAny_bind (wpAny_subDictH (knd := nestedKind X.prog X.w) (Q := fun d s' => wpAny (model X.prog X.w) X.A (pure (Value.ref d)) (EP X pins σ Q) X.xe s') (show X.A.units + 8 < cLine by omega) (by omega)
      (thn (hp.run pins _ σ _ _ I1 (pairs_run ps (tX.of x1 hb fun _ _ z => z))) fun vs s2 ⟨vps, H2, I2, rel, r2, S2, ws, e2, E2, st2, tb2, q2, _⟩ => ?_))))
    rw [f1] at e2
    cases e2
    have ht : ∀ p ∈ kvs0, isTupK p.1 = true := fun p hp => by
      cases kvs0 with
      | nil => cases hp
      | cons q t =>
        cases ws0 with
        | nil => cases f2
        | cons w ws' =>
          obtain ⟨d, z, t', k, _, _, _, _, _, hf, he⟩ := asKV_cons (x := w.1) (y := w.2) f2
          cases he
          rcases List.mem_cons.mp hp with e | hp
          · rw [e]; exact f3
          · rw [flav_all hf p hp]; exact f3
    obtain ⟨xs, vps', g1, g2, g3, g4⟩ := disp_tup I2 q2 rel f2 ht
    have hD2 : H2 p = some (HoD X.w p []) := by
      rcases E2.keep p _ upd_same (fun hm => (x.sto.no hn).1 hm) with z | ⟨_, ps, z⟩
      · exact z
      · cases z
    obtain ⟨xs0, k0, dd0⟩ := dform_tup (r := r2) (qs := []) I2 hD2 .nil (fun p hp => nomatch hp)
    cases k0
    rw [← hpq]
    refine ⟨xs, g1, dd0, fun h' tk dd sb => wpAny_pure (fin I2 E2 st2 tb2 f2 (run_next (γ := List (Vl × Vl)) (m := fPairs ps ev) (g := fun ws => do let kvs ← M.lift (asKV ws); if kvs.length ≤ 1000 then M.newK (mergeKV [] kvs) else M.fail) h f1) g3 sb fun hz => ⟨len g3 hz, sys, .inr ⟨fun p hp => ?_, storedAllH [] xs, g2.merge .nil, ?_⟩⟩)⟩
    · have := mergeVV_tup g4 (acc := []) (fun p hp => nomatch hp) p hp
      cases hq : p.1 with
      | tup ks => exact ⟨ks, rfl⟩
      | none => rw [hq] at this; cases this
      | num _ => rw [hq] at this; cases this
      | text _ => rw [hq] at this; cases this
    · obtain ⟨o, es, ep, l1, l2, l3, l4, _, l5⟩ := dd
      exact ⟨o, es, ep, l1, l2, l3, l4, l5⟩
  · refine wpAny_Dict_walk (knd := noneKind X.prog X.w) hall hl h0 h15 (thn (hp.run pins _ σ _ _ I1 (pairs_run ps (tX.of x1 hb fun _ _ z => z))) fun vs s2 ⟨vps, H2, I2, rel, r2, S2, ws, e2, E2, st2, tb2, q2, hr⟩ => ?_)
    obtain ⟨kvs, ek, _⟩ := lift_run hr
    have ht : ∀ p ∈ kvs, isTupK p.1 = false := fun p hp => by
      cases ws with
      | nil => cases ek; cases hp
      | cons w ws' =>
        obtain ⟨d, z, t', k, _, _, _, _, _, hf, he⟩ := asKV_cons (x := w.1) (y := w.2) ek
        have hk : isTupK k = false := by
          cases hk : isTupK k with
          | false => rfl
          | true => exact absurd ⟨_, _, kvs, e2, ek, by rw [he]; exact hk⟩ ft
        rw [he] at hp
        rcases List.mem_cons.mp hp with e | hp
        · rw [e]; exact hk
        · rw [flav_all hf p hp]; exact hk
    obtain ⟨rs, vps', g1, g2, g3⟩ := disp_val I2 q2 rel ek ht
    have hD2 : H2 p = some (HoD X.w p []) := by
      rcases E2.keep p _ upd_same (fun hm => (x.sto.no hn).1 hm) with z | ⟨_, ps, z⟩
      · exact z
      · cases z
    obtain ⟨vs0, k0, dd0⟩ := dform_val (dform_at I2 hD2) (fun p hp => nomatch hp)
    cases k0
    rw [← hpq]
    exact ⟨rs, g1, dd0 X.prog, fun h' dd sb => fin I2 E2 st2 tb2 ek (run_next (γ := List (Vl × Vl)) (m := fPairs ps ev) (g := fun ws => do let kvs ← M.lift (asKV ws); if kvs.length ≤ 1000 then M.newK (mergeKV [] kvs) else M.fail) h e2) g3 sb fun hz => ⟨len g3 hz, sys, .inl ⟨merged [] rs, g2.merge .nil, fun P => dictOf_P dd⟩⟩⟩
end
end DD
/-! part DH -/
set_option Elab.async false
set_option linter.all false
set_option maxRecDepth 100000
set_option maxHeartbeats 4000000
namespace DD
open PySem PySem.Spec PyProof.Rows L2 LamX

/-! ### ranges as values -/
def fRngV (f : Ev → M (List Vl)) : Ev → M Vl := fun ev => do
  let ws ← f ev
  let ds ← rdAll ws
  match ds with
  | [.int j] => pure (.r 0 j)
  | _ => M.fail
def rngOf : Vl → Option (List PyData)
  | .r lo hi => if -1000000 ≤ lo ∧ lo ≤ 1000000 ∧ -1000000 ≤ hi ∧ hi ≤ 1000000 then some (intsL lo (hi - lo).toNat) else none
  | _ => none
def fItemsR (f : Ev → M Vl) : Ev → M (List PyData) := fun ev => do
  let w ← f ev
  M.lift (rngOf w)
section
variable {X : Cx} {c : Cf} {W : WX} {e tg : Expr} {fe : Ev → M Vl} {fs : Ev → M (List Vl)} {pos : Pos}
theorem cr_rng1 : CallR X (.type "range") (fun vs H Q => ∃ j, vs = [V.int j] ∧ ∀ p, H p = none → Q (.ref p) (upd H p (.rng 0 j))) := by
  intro pins s σ H vs us Q I r h
  obtain ⟨j, rfl, q⟩ := h
  cases r with
  | cons a t =>
    cases t
    obtain ⟨k, rfl⟩ := a
    exact call_range_1 ⟨.ref s.heap.objs.size, upd H s.heap.objs.size (.rng 0 j), I.laid (t' := s.toks + 1 + 1) (fun b o e => Heap.get?_push_of_some _ e) (Nat.le_refl _) ⟨s.toks, k, s.toks + 1, Heap.get?_push_size _ rfl⟩, rfl, q _ (I.hok.fresh (Nat.le_refl _))⟩
theorem qe_rng1 {p : Pos} (hg : Gl X "range") (hm : X.mg "range" = none) (ha : QA X c W [e] fs) (he : starEach [e] X.env = (false, eval e X.env) :: starEach [] X.env := by rfl) (hpl : (backTo pos (starEach [] X.env)).any (·.1) = false := by rfl) :
    QE X c W (.Call (.Name "range" p) [e] [] pos) (fRngV fs) := pe_weak (pe_callTy cr_rng1 hg hm boot_range ha (by decide) (by decide) he hpl) fun σ H Q h => by
  obtain ⟨r, ev, S, x, h⟩ := h
  refine tX.of x h.bind fun vs H1 ⟨r1, S1, ws, e1, s1, t1, q1, h1⟩ => ?_
  obtain ⟨ds, qd, h2⟩ := rdAll_run h1 s1 q1
  try dsimp only at h2
  split at h2
  · obtain ⟨v, rfl, q⟩ := qd.one
    cases q.int
    exact ⟨_, rfl, fun p hp => h2.new rfl s1 t1 hp ⟨p, upd_same, rfl⟩⟩
  · exact (fail_run h2).elim
theorem pi_rngV {tl : TE} (hl : PE X e tl) : PI X tg e (fun σ H R => tl σ H fun x H1 => ∃ a lo hi, x = .ref a ∧ H1 a = some (.rng lo hi) ∧ -(2 ^ 62) ≤ lo ∧ lo < 2 ^ 62 ∧ -(2 ^ 62) ≤ hi ∧ hi < 2 ^ 62 ∧ R (Itr lo (hi - lo).toNat) H1) := by
  refine ⟨fun pins s σ H R I h => thn (hl.run pins s σ H _ I h) fun v s1 ⟨x, H1, I1, r1, a, lo, hi, ex, ha, l1, l2, l3, l4, q⟩ => ?_⟩
  subst ex
  cases r1
  obtain ⟨t, u, k, ho⟩ := (show ∃ t u v, s1.heap.get? a = some { cls := .type "range", data := .fields #[.int lo t, .int hi u, .int 1 v] } from I1.hok a _ ha)
  refine wpAny_pyIter_range (show IsRange s1.heap a lo hi 1 t u k from ho) (small_one l1 l2 l3 l4) ⟨s1.heap.objs.size, [s1.heap.objs.size], _, _, H1, rfl, I1.kept (t' := s1.toks) fun b o e => Heap.get?_push_of_some _ e, turn_range _ lo (hi - lo).toNat, ?_, fun b hb => ?_, q⟩
  · have e1 : lo + ((0 : Nat) : Int) * 1 = lo := by simp
    have e2 : (((hi - lo).toNat : Nat) : Int) - ((0 : Nat) : Int) = Builtin.Range.rangeSize lo hi 1 := by rw [rangeSize_one]; split <;> omega
    show IsRangeIter _ _ (lo + ((0 : Nat) : Int) * 1) ((((hi - lo).toNat : Nat) : Int) - ((0 : Nat) : Int)) 1
    rw [e1, e2]
    exact Heap.get?_push_size _ rfl
  · have e : b = s1.heap.objs.size := by simpa using hb
    subst e
    exact I1.fpOk (Nat.le_refl _) (I1.hok.fresh (Nat.le_refl _))
theorem qi_rngV (he : QE X c W e fe) : QI X c W tg e (fItemsR fe) := pi_weak (pi_rngV he) fun σ H R h => by
  obtain ⟨r, ev, S, x, h⟩ := h
  refine tX.of x h.bind fun v H1 ⟨r1, S1, w, e1, s1, t1, q1, h1⟩ => ?_
  obtain ⟨ds, ed, h2⟩ := tX_last (b := Itr 0 0) h1
  unfold rngOf at ed
  split at ed
  · split at ed
    · rename_i hb
      cases ed
      obtain ⟨a, ha, rfl⟩ := q1
      exact ⟨a, _, _, rfl, ha, by omega, by omega, by omega, by omega, h2.pure rfl s1 t1 ⟨_, yields_range, True.intro⟩⟩
    · cases ed
  · cases ed
end
end DD
/-! part DI -/
set_option Elab.async false
set_option linter.all false
set_option maxRecDepth 100000
set_option maxHeartbeats 4000000
namespace DD
open PySem PySem.Spec PyProof.Rows L2 LamX PySem.W

/-! ### sorted -/
def alikeB (ds : List PyData) : Bool := ds.all fun d => ds.all fun e => alike d e
def tupB : PyData → Bool
  | .tuple (_ :: _) => true
  | _ => false
def plainB : PyData → Bool
  | .none => false
  | .tuple _ => false
  | _ => true
def sortB (ds : List PyData) : Bool := alikeB ds && (ds.all tupB || ds.all plainB) && ds.all (fun d => decide (d.depth ≤ 32)) && decide (ds.length ≤ 1000000)
def msM {α} (le : α → α → Bool) : Nat → List α → List α → List α
  | 0, xs, ys => xs ++ ys
  | n+1, [], ys => ys
  | n+1, xs, [] => xs
  | n+1, x :: xs, y :: ys => if le x y then x :: msM le n xs (y :: ys) else y :: msM le n (x :: xs) ys
theorem msM_eq {α} (le : α → α → Bool) : ∀ n (xs ys : List α), xs.length + ys.length ≤ n → msM le n xs ys = List.merge xs ys le
  | 0, xs, ys, h => by
    have h1 : xs = [] := List.eq_nil_of_length_eq_zero (by omega)
    have h2 : ys = [] := List.eq_nil_of_length_eq_zero (by omega)
    subst h1; subst h2; simp [msM]
  | n+1, [], ys, h => by simp [msM]
  | n+1, x :: xs, [], h => by simp [msM]
  | n+1, x :: xs, y :: ys, h => by
    simp only [msM, List.merge]
    simp only [List.length_cons] at h
    rw [msM_eq le n xs (y :: ys) (by simp only [List.length_cons]; omega), msM_eq le n (x :: xs) ys (by simp only [List.length_cons]; omega)]
def msF {α} (le : α → α → Bool) : Nat → List α → List α
  | 0, xs => xs
  | n+1, [] => []
  | n+1, [a] => [a]
  | n+1, a :: b :: xs =>
    let l := a :: b :: xs
    let k := (l.length + 1) / 2
    msM le l.length (msF le n (l.take k)) (msF le n (l.drop k))
theorem msF_eq {α} (le : α → α → Bool) : ∀ n (xs : List α), xs.length ≤ n → msF le n xs = xs.mergeSort le
  | 0, xs, h => by
    have h1 : xs = [] := List.eq_nil_of_length_eq_zero (by omega)
    subst h1; simp [msF]
  | n+1, [], h => by simp [msF]
  | n+1, [a], h => by simp [msF]
  | n+1, a :: b :: xs, h => by
    simp only [List.length_cons] at h
    rw [List.mergeSort]
    simp only [msF, List.MergeSort.Internal.splitInTwo_fst, List.MergeSort.Internal.splitInTwo_snd]
    rw [msF_eq le n _ (by simp only [List.length_take, List.length_cons]; omega), msF_eq le n _ (by simp only [List.length_drop, List.length_cons]; omega), msM_eq _ _ _ _ (by simp only [List.length_mergeSort, List.length_take, List.length_drop, List.length_cons]; omega)]
def sortD (ds : List PyData) : List PyData := msF (dataLe false id) ds.length ds
theorem sortD_eq (ds : List PyData) : sortD ds = ds.mergeSort (dataLe false id) := msF_eq _ _ _ (Nat.le_refl _)
def sortedP : List PyData → Option PyData
  | [.list ds] => if sortB ds then some (.list (sortD ds)) else none
  | _ => none
theorem alikeB_ok {ds : List PyData} (h : alikeB ds = true) : AllAlike (ds.map id) := by
  rw [List.map_id]
  intro d hd e he
  exact List.all_eq_true.mp (List.all_eq_true.mp h d hd) e he
theorem sortable_ok {ds : List PyData} (h : (ds.all tupB || ds.all plainB) = true) : Sortable (ds.map id) := by
  rw [List.map_id]
  rcases Bool.or_eq_true _ _ ▸ h with h | h
  · refine .inl fun d hd => ?_
    have := List.all_eq_true.mp h d hd
    unfold tupB at this
    split at this
    · exact ⟨_, _, rfl⟩
    · cases this
  · refine .inr fun d hd => ?_
    have := List.all_eq_true.mp h d hd
    refine ⟨fun e => ?_, fun xs e => ?_⟩ <;> (subst e; cases this)
def rSortD (K : PySem.W.Frag) : List V → Hp → VK → Prop := fun vs H Q => ∃ r a xs ds, vs = [V.ref a] ∧ SqL K H a xs ∧ RpAll K r H xs ds ∧ sortB ds = true ∧ ∀ zs p, RpAll K r H zs (sortD ds) → H p = none → Q (.ref p) (upd H p (.lst zs))
section
variable {X : Cx} {c : Cf} {W : WX} {r : Lv} {H : Hp} {K : PySem.W.Frag}
theorem each_back : ∀ {out : List Value} {ds : List PyData}, EachIs (fun v d => ∃ x, RelV x v ∧ Rp K r H x d) out ds → ∃ zs, Vals zs out ∧ RpAll K r H zs ds
  | _, _, .nil => ⟨[], .nil, .nil⟩
  | _, _, .cons ⟨x, h1, h2⟩ t => by
    obtain ⟨zs, g1, g2⟩ := each_back t
    exact ⟨x :: zs, .cons h1 g1, .cons h2 g2⟩
theorem each_of {pins : List (Addr × Obj)} {σ : L2.St} {s : Shared} (I : Inv X pins σ H s) : ∀ {xs : List V} {us : List Value} {ds : List PyData}, Vals xs us → RpAll X.K r H xs ds → EachIs (fun v d => ∃ x, RelV x v ∧ Rp X.K r H x d) us ds ∧ EachIs (fun v d => ∃ as, Reads s.heap v (id d) as) us ds
  | _, _, _, .nil, .nil => ⟨.nil, .nil⟩
  | _, _, _, .cons a t, .cons b u => by
    obtain ⟨h1, h2⟩ := each_of I t u
    exact ⟨.cons ⟨_, a, b⟩ h1, .cons (Dp.reads I _ _ _ b.dp a) h2⟩
theorem cr_sortD (hu : X.A.units + 64 < cLine) : CallR X (.builtin "sorted") (rSortD X.K) := by
  intro pins s σ H vs us Q I rv h
  obtain ⟨r, a, xs, ds, rfl, hs, hx, hb, q⟩ := h
  obtain ⟨its, rv2, pl, hz⟩ := I.list hs
  rw [Vals.ref1 rv]
  unfold sortB at hb
  simp only [Bool.and_eq_true, decide_eq_true_eq] at hb
  obtain ⟨⟨⟨b1, b2⟩, b3⟩, b4⟩ := hb
  obtain ⟨e1, e2⟩ := each_of I rv2 hx
  refine sorted_data (enc := id) pl.isList e1 e2 (alikeB_ok b1) (sortable_ok b2) (by rw [sizeLine_eq]; omega) (fun d hd => ?_) fun out hl ho => ?_
  · have := of_decide_eq_true (List.all_eq_true.mp b3 d hd)
    show X.A.units + 2 + d.depth < cLine
    omega
  · obtain ⟨zs, g1, g2⟩ := each_back ho
    obtain ⟨ep, he⟩ := PyProof.Rows.sortedAll_at s.heap its out.toArray
    exact ⟨.ref _, upd H (s.heap.objs.size + 1) (.lst zs), I.laid (t' := s.toks) (fun _ _ => PyProof.Rows.sortedAll_old) (Nat.le_succ _) ⟨by rw [g1.length, hl, sizeLine_eq]; omega, out, ep, g1, he⟩, rfl, q zs _ (sortD_eq ds ▸ g2) (I.hok.fresh (Nat.le_succ _))⟩
theorem q_sorted (hu : X.A.units + 64 < cLine) : CallQ X (.builtin "sorted") sortedP := by
  refine ⟨_, cr_sortD hu, fun r H S vs ds z Q s qs e A => ?_⟩
  unfold sortedP at e
  split at e
  · split at e
    · rename_i hb
      cases e
      obtain ⟨v, rfl, q⟩ := qs.one
      obtain ⟨a, us, rfl, h1, h2⟩ := q.list
      exact ⟨r, a, us, _, rfl, h1, h2, hb, fun zs p hz hp => A.new s hp (.lst (.inl ⟨upd_same, notin_new s hp⟩) (hz.ext (Ext.new (lam := false) s.mu hp)))⟩
    · cases e
  · cases e
end
end DD
/-! part DJ -/
set_option Elab.async false
set_option linter.all false
set_option maxRecDepth 100000
set_option maxHeartbeats 4000000
namespace DD
open PySem PySem.Spec PyProof.Rows L2 LamX

/-! ### a, b, .. = x, y, .. by way of a tuple -/
def setAll : List Nat → List Vl → Ev → Option Ev
  | [], [], ev => some ev
  | i :: is, w :: ws, ev => setAll is ws (ev.set i (some w))
  | _, _, _ => none
def sParN (is : List Nat) (f : Ev → M (List Vl)) : SM := fun ev => onE (f ev) ev fun ws S => if ws.length ≤ 1000 then (match setAll is ws ev with
  | some ev' => some (.nx, ev', S)
  | none => none) else none
def tGw (X : Cx) (c : Cf) (is : List Nat) : TGs := fun vs σ H Q => ∃ r ev S ws ev', Rel X c r σ H ev S ∧ RwAll X.K X.mg r H vs ws ∧ setAll is ws ev = some ev' ∧ ∀ σ', Rel X c r σ' H ev' S → Q σ' H
def QGw (X : Cx) (c : Cf) (t : List Expr) (is : List Nat) : Prop := PGs X t (tGw X c is)
section
variable {X : Cx} {c : Cf} {W : WX} {e : Expr} {es : List Expr} {pos : Pos} {fs : Ev → M (List Vl)}
theorem qgw_nil : QGw X c [] [] := pgs_weak pgs_nil fun v σ H Q ⟨r, ev, S, ws, ev', x', q, e, h⟩ => by
  cases q with
  | nil => cases e; exact ⟨rfl, h _ x'⟩
  | cons a b => cases e
theorem qgw_cons (i : Nat) {x : Str} {is : List Nat} {p : Pos} (hN : X.N.Nodup) (h2 : QGw X c es is) (hi : X.N[i]? = some x := by rfl) (hx : Loc X.env.scope x := by first | exact Or.inl rfl | exact Or.inr rfl)
    (hf : X.fn x = true ∨ X.env.scope.names.lookup x = some .local := by first | exact .inl rfl | exact .inr rfl | assumption)
    (hs : (assignEach (.Name x p :: es) X.env).map (·.2) = assign (.Name x p) X.env :: (assignEach es X.env).map (·.2) := by rfl) : QGw X c (.Name x p :: es) (i :: is) := pgs_weak (pgs_cons (pg_name hN hi hx hf) h2 hs) fun v σ H Q ⟨r, ev, S, ws, ev', x', q, e, h⟩ => by
  cases q with
  | nil => cases e
  | cons a b =>
    refine ⟨_, _, rfl, ?_⟩
    have e : setAll is _ (ev.set i (some _)) = some ev' := e
    have x2 := x'.set hi a
    exact ⟨r, _, S, _, ev', x2, b, e, h⟩
theorem qs_parN {tes : List Expr} {is : List Nat} {kt k2 : Nat} {pt pt2 : Pos} (hc : X.calm = true) (ha : QA X c W es fs) (hg : QGw X c tes is) (hs : swapsWithSole [.Tuple tes kt pt] (.Tuple es k2 pt2) pos.line X.env = pure false := by rfl) (hw : swappedStores [.Tuple tes kt pt] (.Tuple es k2 pt2) X.env = pure none := by rfl)
    (h1 : (assignEach [.Tuple tes kt pt] X.env).map (·.2) = [assign (.Tuple tes kt pt) X.env] := by rfl) (hn : (assignEach tes X.env).length = is.length := by rfl) (hst : (assignEach tes X.env).findIdx? (·.1) = none := by rfl) :
    QS X c W (.Assign [.Tuple tes kt pt] (.Tuple es k2 pt2) pos) (sParN is fs) := ps_weak (ps_asg (pe_tup ha) (pg_tup hc hg hn hst) hs hw h1) fun D σ H ⟨r, ev, S, x', h⟩ =>
  tX.of x' (h.onE x') fun vs H1 ⟨r1, S1, ws, e1, x1, q1, h1⟩ => by
    try dsimp only at h1
    split at h1
    · rename_i hz
      cases es : setAll is ws ev with
      | none =>
        rw [es] at h1
        exact (none_run h1).elim
      | some ev' =>
        rw [es] at h1
        refine ⟨by rw [q1.length, sizeLine_eq]; omega, fun p hp => ?_⟩
        have E : Ext false r1 r1 H1 (upd H1 p (.tup vs)) := Ext.new x1.sto.mu hp
        have x2 := x1.ext' E (x1.sto.new hp)
        have hl : ∀ {is : List Nat} {ws : List Vl} {ev ev' : Ev}, setAll is ws ev = some ev' → ws.length = is.length := by
          intro is
          induction is with
          | nil => intro ws ev ev' e; cases ws with
            | nil => rfl
            | cons a b => cases e
          | cons i is ih => intro ws ev ev' e; cases ws with
            | nil => cases e
            | cons a b => simp [ih (show setAll is b (ev.set i (some a)) = some ev' from e)]
        exact ⟨p, vs, rfl, .inl (.inl upd_same), by rw [q1.length, hl es], r1, ev, S1, ws, ev', x2, q1.ext E, es, fun σ' x3 => (h1.ext E.up).nx x3⟩
    · exact (none_run h1).elim
end
end DD
/-! part DL -/
set_option Elab.async false
set_option linter.all false
set_option maxRecDepth 100000
set_option maxHeartbeats 4000000
namespace DD
open PySem PySem.Spec PyProof.Rows L2 LamX

/-! ### a def that calls what it is handed and tells by a text which error came: try: f() / except E: return 'e' .. / return None -/
/-- the clause's text that an exception of the class cls meets -/
def catchW (K : PySem.W.Frag) : List (Str × Addr × Str) → Value → (Str → Prop) → Prop
  | [], _, _ => False
  | (_, C, z) :: r, cls, k => ∃ b, PySem.W.exmOne K cls (.ref C) = some b ∧ (b = true → k z) ∧ (b = false → catchW K r cls k)
inductive HndT (X : Cx) (sg : Scope) : List ExceptHandler → List (Str × Addr × Str) → Prop
  | nil : HndT X sg [] []
  | cons {e z : Str} {C : Addr} {j : Nat} {p4 p5 p6 p7 : Pos} {hds : List ExceptHandler} {l : List (Str × Addr × Str)} (hge : sg.names.lookup e = some .globalImplicit) (hme : X.mg e = some (.ref C)) (hde : (e == ("__debug__" : Str)) = false) (t : HndT X sg hds l) :
      HndT X sg (.ExceptHandler (some (.Name e p4)) none [.Return (some (.Constant (.str z) j p5)) p6] p7 :: hds) ((e, C, z) :: l)
def TTref (K : PySem.W.Frag) (l : List (Str × Addr × Str)) : (XK → Hp → VK → Prop) → Hp → VK → Prop := fun tl H Q => tl (fun cls _ H' => catchW K l cls fun z => Q (.str z) H') H (fun _ H' => Q .non H')
def tsOf (l : List (Str × Addr × Str)) : List (Value × (Addr → Value → Option Addr → TS)) := l.map fun q => (.ref q.2.1, fun _ _ _ D σ H => D.rt (.str q.2.2) H)
theorem hnds_ok {X X' : Cx} {sg : Scope} (hK : X'.mg = X.mg) (hs : ∀ e, sg.names.lookup e = some .globalImplicit → Gl X' e) : ∀ {hds : List ExceptHandler} {l : List (Str × Addr × Str)}, HndT X sg hds l → HdsOk X' hds (tsOf l)
  | _, _, .nil => .nil
  | _, _, .cons hge hme hde t => .cons ⟨hs _ hge, hde, .inl (by rw [hK]; exact hme)⟩ (fun a oe cls d pn _ _ => pss_one (ps_ret pe_str)) (hnds_ok hK hs t)
theorem catch_many {K : PySem.W.Frag} {Wo : WX} {D : Ends} {cls : Value} {d : Option Addr} {σ : L2.St} {H : Hp} : ∀ {l : List (Str × Addr × Str)}, catchW K l cls (fun z => D.rt (.str z) H) → wMany K Wo D (tsOf l) cls d σ H
  | [], h => h.elim
  | (_, C, z) :: r, ⟨b, e1, e2, e3⟩ => ⟨b, e1, fun hb a _ => e2 hb, fun hb => catch_many (e3 hb)⟩
theorem ref_gives {X : Cx} {Ng : List Str} {x a q : Str} {sg : Scope} {g : Addr} {cdg : Value} {j : Nat} {p1 p2 p3 p8 p9 p10 : Pos} {h0 : ExceptHandler} {hds : List ExceptHandler} {l : List (Str × Addr × Str)} (ht : HndT X sg (h0 :: hds) l) (hs : ∀ f : Addr, (L2.start Ng [V.ref f])[0]? = some (some (V.ref f))) :
    GivesTo X Ng x sg g cdg [.Try [.Expr (.Call (.Name a p1) [] [] p2) p3] (h0 :: hds) [] [] p8, .Return (some (.Constant .none j p9)) p10] a q (TTref X.K l) := by
  intro f c' s H Q tl act hc h
  refine ⟨_, pss_cons (ps_try_many (X := (cxOf C8.CX0 X.prog X.w X.K X.mg X.base Ng x sg g cdg X.A X.stack s H C8.E0).nox) (l := tsOf l)
      (tb := fun W D σ H => ∃ Ech : XK, (∀ cls d σ' H', Ech cls d H' → W cls d σ' H') ∧ σ[0]? = some (some (.ref f)) ∧ H c' = some (CodeO c' q) ∧ tl Ech H (fun _ H' => D.nx σ H'))
      rfl rfl takes0 (fun W pn xe tk _ => ?_) (hnds_ok (X := X) (X' := (cxOf C8.CX0 X.prog X.w X.K X.mg X.base Ng x sg g cdg X.A X.stack s H C8.E0).nox) (sg := sg) rfl (fun e he => he) ht)) (pss_one (ps_ret pe_non)), ?_⟩
  · refine ⟨fun pins s' σ H' D I h' => ?_⟩
    obtain ⟨Ech, hW, h1, h2, h3⟩ := h'
    have hq := pss_one (ps_expr (pos := p3) (act W pn xe Ech p1 p2 tk hW) (by rfl))
    exact hq.run pins s' σ H' D I ⟨h1, h2, h3⟩
  · exact ⟨fun cls _ H' => catchW X.K l cls fun z => Q (.str z) H', fun cls d σ' H' hw => catch_many hw, hs f, hc, h⟩

def fRefused (l : List (Str × Str)) (f : Ev → M Vl) : Ev → M Vl := fun ev S => match f ev S with
  | some (.ok _, S') => some (.ok (.d .none), S')
  | some (.error x, S') => match l.lookup x with
    | some z => some (.ok (.d (.str z)), S')
    | none => none
  | none => none
/-- the def that tells, where it stands -/
structure RefAt (K : PySem.W.Frag) (mg : Str → Option Value) (x : Str) (st : Stmt) (a : Str) (Ng : List Str) (l : List (Str × Addr × Str)) : Prop where
  d : DefAt K mg x st [a]
  sc : FnScope Ng [a] (defScope st)
  ng : Ng[0]? = some a
  vis : Vis (defScope st) a
  one : Ng.length = 1
  hnd : ∀ X : Cx, X.mg = mg → ∃ h0 hds p1 p2 p3 p8 j p9 p10, defBody st = [.Try [.Expr (.Call (.Name a p1) [] [] p2) p3] (h0 :: hds) [] [] p8, .Return (some (.Constant .none j p9)) p10] ∧ HndT X (defScope st) (h0 :: hds) l
  exm : ∀ p ∈ l, ∀ q ∈ l, PySem.W.exmOne K (.ref p.2.1) (.ref q.2.1) = some (decide (p.1 = q.1))
  glo : ∀ p ∈ l, mg p.1 = some (.ref p.2.1)
def nmOf (l : List (Str × Addr × Str)) : List (Str × Str) := l.map fun q => (q.1, q.2.2)
theorem catch_hit {K : PySem.W.Frag} {x z : Str} {C : Addr} {k : Str → Prop} : ∀ {l : List (Str × Addr × Str)}, (∀ q ∈ l, PySem.W.exmOne K (.ref C) (.ref q.2.1) = some (decide (x = q.1))) → (nmOf l).lookup x = some z → k z → catchW K l (.ref C) k
  | [], _, h, _ => by cases h
  | (e, D, y) :: r, hx, h, hk => by
    have h2 : ((e, y) :: nmOf r).lookup x = some z := h
    rw [List.lookup_cons] at h2
    refine ⟨_, hx _ List.mem_cons_self, fun hb => ?_, fun hb => ?_⟩
    · have e1 : x = e := of_decide_eq_true hb
      subst e1
      simp at h2
      subst h2
      exact hk
    · have e1 : ¬ x = e := of_decide_eq_false hb
      have e2 : (x == e) = false := by simpa using e1
      rw [e2] at h2
      exact catch_hit (fun q hq => hx q (List.mem_cons_of_mem _ hq)) h2 hk
theorem lookup_mem' {x z : Str} : ∀ {l : List (Str × Addr × Str)}, (nmOf l).lookup x = some z → ∃ p ∈ l, p.1 = x
  | [], h => by cases h
  | (e, D, y) :: r, h => by
    have h2 : ((e, y) :: nmOf r).lookup x = some z := h
    rw [List.lookup_cons] at h2
    by_cases q : x = e
    · exact ⟨_, List.mem_cons_self, q.symm⟩
    · have e2 : (x == e) = false := by simpa using q
      rw [e2] at h2
      obtain ⟨p, hp, e⟩ := lookup_mem' h2
      exact ⟨p, List.mem_cons_of_mem _ hp, e⟩
theorem ext_of_extN {lam : Bool} {r : Lv} {H H1 : Hp} (hl : lam = true) (mu : ∀ a, r.yes a → MutL (H a)) (e : ExtN H H1) : Ext lam r r H H1 := by
  refine ⟨⟨[], by simp, by simp⟩, fun a o h _ => ?_, fun a h => ?_, mu⟩
  · by_cases ht : ∃ ps, o = .tbl ps
    · exact .inr ⟨hl, ht⟩
    · exact .inl (e a o h fun ps z => ht ⟨ps, z⟩)
  · cases q : H a with
    | none => exact .inl q
    | some o =>
      by_cases ht : ∃ ps, o = .tbl ps
      · exact .inr ⟨hl, by obtain ⟨ps, z⟩ := ht; exact ⟨ps, by rw [q, z]⟩⟩
      · have := e a o q fun ps z => ht ⟨ps, z⟩
        rw [h] at this
        cases this
theorem stoRel_extN {wd : World} {K : PySem.W.Frag} {r : Lv} {H H1 : Hp} {S : Sto} (s : StoRel wd K r H S) (e : ExtN H H1) : StoRel wd K r H1 S := by
  have E : Ext true r r H H1 := ext_of_extN rfl s.mu e
  have kp : ∀ a u, H a = some u → MutL (H a) → H1 a = some u := fun a u q m => e a u q fun ps z => by
    rw [q, z] at m; exact m
  refine ⟨s.nd, s.len, fun n a m h1 h2 => ?_, fun a ha => ?_, s.apart⟩
  · have mo := s.ob n a m h1 h2
    exact mo.map (fun u q => kp a u q mo.mut) (fun _ _ q => E.sqf q) fun _ _ q => E.sqt q
  · have m := s.hid a ha
    cases q : H a with
    | none => rw [q] at m; exact m.elim
    | some u => rw [kp a u q m, ← q]; exact m
section
variable {X : Cx} {c : Cf} {W : WX} {A : Around} {outer : List Env} {s : Shared} {H0 : Hp} {E : XK} {scope : Scope} {f0 c0 : Addr}
theorem rel_lam : Rel (lamCx X A outer s H0 E scope f0 c0) c = Rel X c := by
  funext r σ H ev S
  exact propext ⟨fun h => ⟨h.1, h.2, h.3, h.4⟩, fun h => ⟨h.1, h.2, h.3, h.4⟩⟩
theorem tE_lam {W' : WX} {f : Ev → M Vl} : tE (lamCx X A outer s H0 E scope f0 c0) c W' f = tE X c W' f := by
  unfold tE tX
  rw [rel_lam]
  rfl
end
theorem qe_refused {X : Cx} {c : Cf} {W : WX} {x a : Str} {st : Stmt} {Ng : List Str} {l : List (Str × Addr × Str)} {C P : Addr} {k : Nat} {body : Expr} {scope : Scope} {p lpos pos : Pos} {params : Arguments} {f : Ev → M Vl} (F : RefAt X.K X.mg x st a Ng l) (hg : Gl X x)
    (hl : c.lam = true) (TB : TabB X.base X.mg C P) (hcode : X.env.code = .ref C) (hT : c.T = [(P, X.env.qual ++ "<lambda>")]) (hr : Room (k + 2) X.A) (L : LamS X.env.scope scope)
    (hbody : ∀ (A : Around) (outer : List Env) (s : Shared) (H : Hp) (E : XK) (f0 c0 : Addr), Room k (A.deeper (lamEnv X scope s.heap.objs.size f0 c0)) → QE (lamCx X A outer s H E scope f0 c0) c (fun cls d _ H => E cls d H) body f)
    (hdef : defaultsOf params X.env = ([], []) := by rfl) (hbind : ∀ (q : Str) (cl : List (Str × Addr)) (pm cv ctv : Value), bindArgs (PySem.W.kla_fn "<lambda>" q params body scope cl pm cv ctv) ⟨[], []⟩ = pure [] := by intros; rfl)
    (hdb : (x == ("__debug__" : Str)) = false := by decide) (hd : (a == ("__debug__" : Str)) = false := by decide) (hcd : (a == ("__classdict__" : Str)) = false := by decide) :
    QE X c W (.Call (.Name x p) [.Lambda params body scope lpos] [] pos) (fRefused (nmOf l) f) := by
  obtain ⟨g, fd, Fu, hm, bi⟩ := F.d
  obtain ⟨oc, od, kV, doc, pm, an, cdv, ct, osl, rfl, lk, hcg⟩ := Fu.ex
  obtain ⟨h0, hds, p1, p2, p3, p8, j, p9, p10, hbd, ht⟩ := F.hnd X rfl
  have hG : GivesTo X Ng x (defScope st) g cdv (defBody st) a (X.env.qual ++ "<lambda>") (TTref X.K l) := by
    rw [hbd]
    refine ref_gives ht fun f => ?_
    unfold L2.start
    simp
  have hu : ∀ q ∈ c.T, q.1 = P → q.2 = X.env.qual ++ "<lambda>" := fun q hq _ => by
    rw [hT] at hq
    have e : q = (P, X.env.qual ++ "<lambda>") := by simpa using hq
    rw [e]
  refine pe_weak (pe_lamcall (T := c.T) (t := fun E => tE X c (fun cls d _ H => E cls d H) f) hg hm Fu.kp lk hcg bi F.sc F.ng F.vis hG TB hcode (by rw [hT]; exact List.mem_cons_self) hu hr L hdef hbind (fun A outer s H E f0 c0 hr' => by
    have z := hbody A outer s H E f0 c0 hr'
    unfold QE at z
    rw [tE_lam] at z
    exact z) hdb hd hcd) fun σ H Q h => ?_
  obtain ⟨r, ev, S, x', h⟩ := h
  refine ⟨x'.tabs, fun H1 eN t1 => ?_⟩
  have E1 : Ext c.lam r r H H1 := ext_of_extN hl x'.sto.mu eN
  have x1 := x'.ext E1 (stoRel_extN x'.sto eN) t1
  have h1 := h.on E1
  obtain ⟨o, S', e, hq⟩ := h1
  unfold fRefused at e
  refine ⟨r, ev, S, x1, ?_⟩
  cases ef : f ev S with
  | none => rw [ef] at e; cases e
  | some q =>
    obtain ⟨o1, S1⟩ := q
    cases o1 with
    | ok w =>
      rw [ef] at e
      cases e
      exact ⟨.ok w, _, ef, fun r' v H' E' s' t' _ => hq r' .non H' E' s' t' (show Rp X.K _ _ _ _ from .non)⟩
    | error y =>
      rw [ef] at e
      dsimp only at e
      split at e
      · rename_i z hz
        cases e
        obtain ⟨q, hq1, hq2⟩ := lookup_mem' hz
        subst hq2
        refine ⟨.error q.1, _, ef, q.2.1, F.glo q hq1, fun r' H' E' s' t' => ?_⟩
        exact catch_hit (fun q2 h2 => F.exm q hq1 q2 h2) hz (hq r' (.str z) H' E' s' t' (show Rp X.K _ _ _ _ from .str z))
      · cases e
end DD
/-! part DK -/
set_option Elab.async false
set_option linter.all false
set_option maxRecDepth 100000
set_option maxHeartbeats 4000000
namespace DD
open PySem PySem.Spec PyProof.Rows L2 LamX

/-! ### comprehensions over values of any kind (defs) -/
structure YieldsV (wd : World) (K : PySem.W.Frag) (mg : Str → Option Value) (J : It) (ds : List Vl) (F : Lv → Hp → Prop) : Prop where
  go : ∀ r H i, F r H → i < ds.length → J.go i H
  yld : ∀ r H S i d x H', F r H → StoRel wd K r H S → ds[i]? = some d → J.yld i H x H' → Ext false r r H H' ∧ StoRel wd K r H' S ∧ Rw K mg r H' x d
  stop : ∀ r H, F r H → J.stop ds.length H
  ext : ∀ lam r r' H H', F r H → Ext lam r r' H H' → F r' H'
  hide : ∀ r H S D, F r H → StoRel wd K r H S → H D = none → F (r.hide D) (upd H D (.lst []))
  putH : ∀ r H S D xs, F r H → StoRel wd K r H S → D ∈ r.hid → F r (upd H D (.lst xs))
def RIV (wd : World) (K : PySem.W.Frag) (mg : Str → Option Value) : Lv → Hp → It → List Vl → Prop := fun r H J ds => ∃ F, YieldsV wd K mg J ds F ∧ F r H
def QIV (X : Cx) (c : Cf) (W : WX) (tg it : Expr) (f : Ev → M (List Vl)) : Prop := PI X tg it (tX X c W (RIV X.w X.K X.mg) f)
def compV (g : Vl → Ev → Option Ev) (t : Ev → M Bool) (el : Ev → M Vl) (ev : Ev) : List Vl → Sto → Option (List PyData × Sto)
  | [], S => some ([], S)
  | d :: ds, S => match g d ev with
    | none => none
    | some ev1 => match t ev1 S with
      | some (.ok true, S1) => match el ev1 S1 with
        | some (.ok (.d z), S2) => match compV g t el ev ds S2 with
          | some (zs, S3) => some (z :: zs, S3)
          | none => none
        | _ => none
      | some (.ok false, S1) => compV g t el ev ds S1
      | _ => none
def fCompV (fi : Ev → M (List Vl)) (g : Vl → Ev → Option Ev) (t : Ev → M Bool) (el : Ev → M Vl) (own : List Nat) : Ev → M Vl := fun ev => do
  let ds ← fi ev
  fun S => match compV g t el (wipeE ev own) ds S with
    | some (zs, S') => if zs.length ≤ 1000000 then some (.ok (.d (.list zs)), S') else none
    | none => none
section
variable {X : Cx} {c : Cf} {W : WX} {e : Expr} {pos : Pos} {K : PySem.W.Frag} {wd : World} {mg : Str → Option Value} {r : Lv} {H : Hp} {S : Sto} {σ : L2.St} {ev : Ev} {D : Addr}
/-- what a comprehension has come to: behind i items -/
structure CompV (X : Cx) (c : Cf) (r1 : Lv) (H1 : Hp) (D : Addr) (F : Lv → Hp → Prop) (σ0 : L2.St) (evw : Ev) (r : Lv) (H : Hp) (S : Sto) (acc : List PyData) : Prop where
  ext : Ext c.lam r1 r H1 H
  sto : StoRel X.w X.K (r.hide D) H S
  tabs : Tabs c.T H
  f : F (r.hide D) H
  at_ : ∃ accV, H D = some (.lst accV) ∧ RpAll X.K (r.hide D) H accV acc
  ev : EvR X.K X.mg (r.hide D) σ0 H evw
theorem CompV.start {r1 : Lv} {H1 : Hp} {S1 : Sto} {F : Lv → Hp → Prop} {J : It} {ds : List Vl} {vs : List Nat} (Y : YieldsV X.w X.K X.mg J ds F) (z : F r1 H1) (s : StoRel X.w X.K r1 H1 S1) (t : Tabs c.T H1) (q : EvR X.K X.mg r1 σ H1 ev) (hD : H1 D = none) :
    CompV X c r1 H1 D F (L2.wipe σ vs) (wipeE ev vs) r1 (upd H1 D (.lst [])) S1 [] :=
  ⟨Ext.new s.mu hD, s.hide hD, tabs_ext (Ext.new (lam := false) s.mu hD) t, Y.hide _ _ _ _ z s hD, ⟨[], upd_same, .nil⟩, (q.wipe vs).hide hD⟩
/-- a step within: the live ones may grow -/
theorem CompV.step {r1 r : Lv} {H1 H H' : Hp} {F : Lv → Hp → Prop} {J : It} {ds : List Vl} {acc : List PyData} {evw : Ev} {σ0 : L2.St} {S' : Sto} {r' : Lv} (Y : YieldsV X.w X.K X.mg J ds F) (C : CompV X c r1 H1 D F σ0 evw r H S acc) (E : Ext c.lam (r.hide D) r' H H') (s : StoRel X.w X.K r' H' S') (t : Tabs c.T H') :
    ∃ r2, r' = r2.hide D ∧ CompV X c r1 H1 D F σ0 evw r2 H' S' acc := by
  obtain ⟨r2, rfl, e2⟩ := C.ext.under E
  obtain ⟨accV, h1, h2⟩ := C.at_
  refine ⟨r2, rfl, e2, s, t, Y.ext _ _ _ _ _ C.f E, ⟨accV, ?_, h2.ext E⟩, C.ev.ext E⟩
  rcases E.keep D _ h1 (C.sto.apart D List.mem_cons_self) with q | ⟨_, ps, q⟩
  · exact q
  · cases q
theorem CompV.put {r1 r : Lv} {H1 H : Hp} {F : Lv → Hp → Prop} {J : It} {ds : List Vl} {acc : List PyData} {evw : Ev} {σ0 : L2.St} {z : PyData} {v : V} (Y : YieldsV X.w X.K X.mg J ds F) (C : CompV X c r1 H1 D F σ0 evw r H S acc) (q : Rp X.K (r.hide D) H v z) (hD : H1 D = none) :
    ∀ accV, H D = some (.lst accV) → CompV X c r1 H1 D F σ0 evw r (upd H D (.lst (accV ++ [v]))) S (acc ++ [z]) := fun accV hV => by
  obtain ⟨accV', h1, h2⟩ := C.at_
  rw [hV] at h1
  cases h1
  have hm : D ∈ (r.hide D).hid := List.mem_cons_self
  exact ⟨C.ext.fresh hD, C.sto.putH hm, tabs_put C.tabs hV, Y.putH _ _ _ _ _ C.f C.sto hm, ⟨_, upd_same, Ext.putH C.sto.mu hm (h2.append (.cons q .nil))⟩, C.ev.putH C.sto hm⟩
theorem CompV.done {r1 r : Lv} {H1 H : Hp} {F : Lv → Hp → Prop} {acc : List PyData} {evw : Ev} {σ0 : L2.St} (C : CompV X c r1 H1 D F σ0 evw r H S acc) (n1 : r1.no D) : StoRel X.w X.K r H S ∧ Rp X.K r H (.ref D) (.list acc) := by
  obtain ⟨accV, h1, h2⟩ := C.at_
  refine ⟨C.sto.show, .lst (.inl ⟨h1, C.sto.apart D List.mem_cons_self, ?_⟩) h2.show⟩
  obtain ⟨n, rfl, _⟩ := C.ext.pre
  exact n1.2
theorem compV_weak {fi : Ev → M (List Vl)} {g : Vl → Ev → Option Ev} {t : Ev → M Bool} {el : Ev → M Vl} {own is : List Nat} (hi : ∀ i ∈ is, i ∈ own) {Q : VK} (h : tE X c W (fCompV fi g t el own) σ H Q) :
    tLc (tX X c W (RIV X.w X.K X.mg) fi) (tG X c g is) (tT X c W0 t) (tE X c W0 el) own σ H Q := by
  obtain ⟨r, ev, S, x, h⟩ := h
  refine tX.of x h.bind fun J H1 ⟨r1, S1, ds, e1, s1, t1, ⟨F, Y, z1⟩, h1⟩ D hD => ?_
  have x1 := x.ext e1 s1 t1
  obtain ⟨o, Se, eo, hq⟩ := h1
  dsimp only at eo
  cases ec : compV g t el (wipeE ev own) ds S1 with
  | none => rw [ec] at eo; cases eo
  | some p =>
    obtain ⟨zs, Sx⟩ := p
    rw [ec] at eo
    dsimp only at eo
    split at eo
    · rename_i hz
      cases eo
      refine ⟨fun i m H => m = ds.length - i ∧ i ≤ ds.length ∧ ∃ r S acc rest, CompV X c r1 H1 D F (L2.wipe σ own) (wipeE ev own) r H S acc ∧ compV g t el (wipeE ev own) (ds.drop i) S = some (rest, Se) ∧ acc ++ rest = zs, ⟨_, rfl, Nat.zero_le _, r1, S1, [], zs, CompV.start Y z1 s1 t1 x1.ev hD, ec, rfl⟩, ?_⟩
      rintro i m H2 ⟨rfl, hil, r, S, acc, rest, C, e2, e3⟩
      by_cases hl : i < ds.length
      · refine .inr ⟨Y.go _ _ _ C.f hl, fun H' => ∃ r S acc rest, CompV X c r1 H1 D F (L2.wipe σ own) (wipeE ev own) r H' S acc ∧ compV g t el (wipeE ev own) (ds.drop (i + 1)) S = some (rest, Se) ∧ acc ++ rest = zs, fun H' q => ⟨ds.length - (i + 1), by omega, rfl, hl, q⟩, fun v H' y => ?_⟩
        have hd : ds[i]? = some ds[i] := List.getElem?_eq_getElem hl
        obtain ⟨E, s', q⟩ := Y.yld _ _ _ _ _ _ _ C.f C.sto hd y
        obtain ⟨r2, er2, C'⟩ := C.step Y E.up s' (tabs_ext E C.tabs)
        rw [List.drop_eq_getElem_cons hl] at e2
        simp only [compV] at e2
        have xb : Rel X c (r.hide D) (L2.wipe σ own) H' (wipeE ev own) S := ⟨s', tabs_ext E C.tabs, C.ev.ext E, by rw [wipe_length]; exact x.len⟩
        have hr2 : r2.hide D = r.hide D := er2.symm
        split at e2
        · cases e2
        · rename_i ev1 eg
          refine ⟨r.hide D, wipeE ev own, S, ds[i], ev1, xb, q, eg, fun σ2 x2 sb => ⟨?_, ?_⟩⟩
          · rw [wipe_eq sb hi, wipe_wipe]
          · split at e2
            · rename_i S2 et
              refine ⟨r.hide D, ev1, S, x2, .ok true, S2, et, fun r3 b H3 E3 s3 t3 q3 => ?_⟩
              cases q3
              rw [if_pos rfl]
              rw [← hr2] at E3
              obtain ⟨r4, rfl, C3⟩ := C'.step Y E3 s3 t3
              have x3 : Rel X c (r4.hide D) σ2 H3 ev1 S2 := by
                rw [← hr2] at x2
                exact x2.ext E3 s3 t3
              split at e2
              · rename_i z S4 ee
                refine ⟨r4.hide D, ev1, S2, x3, .ok (.d z), S4, ee, fun r5 v5 H5 E5 s5 t5 q5 => ?_⟩
                obtain ⟨r6, rfl, C5⟩ := C3.step Y E5 s5 t5
                split at e2
                · rename_i zs' S6 er
                  cases e2
                  obtain ⟨accV, hV, hR⟩ := C5.at_
                  have hlen : accV.length < sizeLine := by
                    rw [hR.length, sizeLine_eq]
                    have := congrArg List.length e3
                    simp at this
                    omega
                  have q5' : Rp X.K (r6.hide D) H5 v5 z := by
                    exact q5
                  exact ⟨accV, hV, hlen, r6, S4, acc ++ [z], zs', C5.put Y q5' hD accV hV, er, by rw [← e3]; simp⟩
                · cases e2
              · cases e2
            · rename_i S2 et
              refine ⟨r.hide D, ev1, S, x2, .ok false, S2, et, fun r3 b H3 E3 s3 t3 q3 => ?_⟩
              cases q3
              rw [if_neg (by decide)]
              rw [← hr2] at E3
              obtain ⟨r4, rfl, C3⟩ := C'.step Y E3 s3 t3
              exact ⟨r4, S2, acc, rest, C3, e2, e3⟩
            · cases e2
      · have e : i = ds.length := by omega
        subst e
        rw [List.drop_length] at e2
        cases e2
        rw [List.append_nil] at e3
        subst e3
        obtain ⟨sd, qd⟩ := C.done (s1.no hD)
        exact .inl ⟨Y.stop _ _ C.f, hq r (.ref D) H2 C.ext sd C.tabs qd⟩
    · cases eo
end
section
variable {X : Cx} {c : Cf} {W : WX} {pos : Pos}
theorem qe_compV {elt tg it : Expr} {ifs : List Expr} {scope : Scope} {own : List (Str × Nat)} {fi : Ev → M (List Vl)} {g : Vl → Ev → Option Ev} {t : Ev → M Bool} {el : Ev → M Vl} {is : List Nat} (hc : X.calm = true) (hN : X.N.Nodup) (hi : QIV X c W tg it fi) (ok : BlkOk X.N X.env.scope scope own)
    (hg : ∀ (s : Shared) (H : Hp) (C : Addr) (cl : List (Str × Addr)) (fp : List Addr), QG (X.blk s H scope (compEnvC scope cl C X.env) fp) c tg g is) (ht : ∀ (s : Shared) (H : Hp) (C : Addr) (cl : List (Str × Addr)) (fp : List Addr), QTs (X.blk s H scope (compEnvC scope cl C X.env) fp) c W0 ifs t)
    (he : ∀ (s : Shared) (H : Hp) (C : Addr) (cl : List (Str × Addr)) (fp : List Addr), QE (X.blk s H scope (compEnvC scope cl C X.env) fp) c W0 elt el) (his : ∀ i ∈ is, i ∈ own.map (·.2) := by decide) (hs : ∀ x, foldedSetIterable it X.env x = pure x := by intro _; rfl) :
    QE X c W (.ListComp elt [⟨tg, it, ifs, 0⟩] scope pos) (fCompV fi g t el (own.map (·.2))) := by
  refine pe_weak (pe_lc (wi := tX X c W (RIV X.w X.K X.mg) fi) (g := tG X c g is) (tt := tT X c W0 t) (te := tE X c W0 el) hc hN hi ok (fun s H C cl fp => pg_blk (hg s H C cl fp)) (fun s H C cl fp => pts_blk (ht s H C cl fp)) (fun s H C cl fp => pe_blk (he s H C cl fp)) hs) fun σ H Q h => ?_
  exact compV_weak his h
theorem qs_compV (i : Nat) {y : Str} {py : Pos} {elt tg it : Expr} {ifs : List Expr} {scope : Scope} {own : List (Str × Nat)} {pos spos : Pos} {fi : Ev → M (List Vl)} {g : Vl → Ev → Option Ev} {t : Ev → M Bool} {el : Ev → M Vl} {is : List Nat} (hc : X.calm = true) (hN : X.N.Nodup) (hi : QIV X c W tg it fi) (ok : BlkOk X.N X.env.scope scope own)
    (hg : ∀ (s : Shared) (H : Hp) (C : Addr) (cl : List (Str × Addr)) (fp : List Addr), QG (X.blk s H scope (compEnvC scope cl C X.env) fp) c tg g is) (ht : ∀ (s : Shared) (H : Hp) (C : Addr) (cl : List (Str × Addr)) (fp : List Addr), QTs (X.blk s H scope (compEnvC scope cl C X.env) fp) c W0 ifs t)
    (he : ∀ (s : Shared) (H : Hp) (C : Addr) (cl : List (Str × Addr)) (fp : List Addr), QE (X.blk s H scope (compEnvC scope cl C X.env) fp) c W0 elt el)
    (hsw : swapsWith (.ListComp elt [⟨tg, it, ifs, 0⟩] scope pos) (some (.Name y py)) spos.line X.env = pure true)
    (his : ∀ i ∈ is, i ∈ own.map (·.2) := by decide) (hy : X.N[i]? = some y := by rfl) (hyl : X.env.scope.names.lookup y = some .local := by rfl) (hs : ∀ x, foldedSetIterable it X.env x = pure x := by intro _; rfl) :
    QS X c W (.Assign [.Name y py] (.ListComp elt [⟨tg, it, ifs, 0⟩] scope pos) spos) (sSet i (fCompV fi g t el (own.map (·.2)))) := by
  refine ps_weak (ps_setLc (wi := tX X c W (RIV X.w X.K X.mg) fi) (g := tG X c g is) (tt := tT X c W0 t) (te := tE X c W0 el) hc hN hy hyl hsw hi ok (fun s H C cl fp => pg_blk (hg s H C cl fp)) (fun s H C cl fp => pts_blk (ht s H C cl fp)) (fun s H C cl fp => pe_blk (he s H C cl fp)) hs) fun D σ H ⟨r, ev, S, x, h⟩ => ?_
  have h := tX.of x (h.onE (R := Rw X.K X.mg) x) fun v H1 q => q
  refine compV_weak his ?_
  obtain ⟨r0, ev0, S0, x0, h⟩ := h
  exact ⟨r0, ev0, S0, x0, h.mono fun v H1 ⟨r1, S1, w, e1, x1, q1, h1⟩ => h1.nx (x1.set hy q1)⟩
end
/-! ### a list of defs -/
def allF : List Vl → Bool
  | [] => true
  | .f _ :: r => allF r
  | _ :: _ => false
def fFns (f : Ev → M (List Vl)) : Ev → M (List Vl) := fun ev => do
  let ws ← f ev
  if allF ws && decide (ws.length ≤ 1000) then pure ws else M.fail
inductive FnsV (mg : Str → Option Value) : List V → List Vl → Prop
  | nil : FnsV mg [] []
  | cons {x : Str} {a : Addr} {vs : List V} {ws : List Vl} : mg x = some (.ref a) → FnsV mg vs ws → FnsV mg (.ref a :: vs) (.f x :: ws)
theorem fnsV_of {K : PySem.W.Frag} {mg : Str → Option Value} {r : Lv} {H : Hp} : ∀ {vs : List V} {ws : List Vl}, RwAll K mg r H vs ws → allF ws = true → FnsV mg vs ws
  | _, _, .nil, _ => .nil
  | _, w :: ws, .cons h t, e => by
    cases w with
    | f x =>
      obtain ⟨a, h1, rfl⟩ := h
      exact .cons h1 (fnsV_of t e)
    | d _ => cases e
    | m _ => cases e
    | r _ _ => cases e
theorem FnsV.get {mg : Str → Option Value} {K : PySem.W.Frag} {r : Lv} {H : Hp} : ∀ {vs : List V} {ws : List Vl} {i : Nat} {w : Vl}, FnsV mg vs ws → ws[i]? = some w → ∃ v, vs[i]? = some v ∧ Rw K mg r H v w
  | _, _, _, _, .nil, e => by simp at e
  | _, _, 0, _, .cons h t, e => by simp at e; subst e; exact ⟨_, rfl, _, h, rfl⟩
  | _, _, i + 1, w, .cons h t, e => by
    obtain ⟨v, h1, h2⟩ := FnsV.get (K := K) (r := r) (H := H) (i := i) (w := w) t (by simpa using e)
    exact ⟨v, by simpa using h1, h2⟩
theorem FnsV.length {mg : Str → Option Value} {vs : List V} {ws : List Vl} (h : FnsV mg vs ws) : vs.length = ws.length := by
  induction h with
  | nil => rfl
  | cons _ _ ih => simp [ih]
theorem yields_fns {wd : World} {K : PySem.W.Frag} {mg : Str → Option Value} {l : Addr} {ds : List Vl} {vs : List V} (q : FnsV mg vs ds) : YieldsV wd K mg (Itl K l) ds (fun r H => SqF K r H l vs) where
  go := fun r H i h1 hi => ⟨vs, vs[i]'(by rw [q.length]; exact hi), h1.sq, List.getElem?_eq_getElem _⟩
  yld := fun r H S i d x H' h1 s hd ⟨e, y⟩ => by
    subst e
    obtain ⟨v, hv, qv⟩ := q.get (K := K) (r := r) (H := H') hd
    have := y vs h1.sq
    rw [hv] at this
    cases this
    exact ⟨s.refl, s, qv⟩
  stop := fun r H h1 => ⟨vs, h1.sq, by rw [q.length]; exact Nat.le_refl _⟩
  ext := fun lam r r' H H' h1 e => e.sqf h1
  hide := fun r H S D h1 s hD => h1.hide hD
  putH := fun r H S D xs h1 s hD => h1.putH s hD
theorem qi_fns {X : Cx} {c : Cf} {W : WX} {tg : Expr} {es : List Expr} {fs : Ev → M (List Vl)} {pos : Pos} (ha : QA X c W es fs) : QIV X c W tg (.List es pos) (fFns fs) := pi_weak (pi_sq (pe_lst ha)) fun σ H R h => by
  obtain ⟨r, ev, S, x, h⟩ := h
  refine tX.of x h.bind fun vs H1 ⟨r1, S1, ws, e1, s1, t1, q1, h1⟩ => ?_
  split at h1
  · rename_i hb
    rw [Bool.and_eq_true, decide_eq_true_eq] at hb
    refine ⟨by rw [q1.length, sizeLine_eq]; omega, fun p hp => ⟨p, rfl, .inl ⟨⟨vs, .inl (.inl upd_same)⟩, ?_⟩⟩⟩
    exact h1.new rfl s1 t1 hp ⟨_, yields_fns (fnsV_of q1 hb.1), .inl ⟨upd_same, s1.no hp⟩⟩
  · exact (fail_run h1).elim
theorem DefAt.glo {K : PySem.W.Frag} {mg : Str → Option Value} {x : Str} {st : Stmt} {ps : List Str} (D : DefAt K mg x st ps) : ∃ a, mg x = some (.ref a) := by
  obtain ⟨f, fd, _, h, _⟩ := D
  exact ⟨f, h⟩
def RefN (K : PySem.W.Frag) (mg : Str → Option Value) (x : Str) (st : Stmt) (a : Str) (Ng : List Str) (nm : List (Str × Str)) : Prop := ∃ l, nmOf l = nm ∧ RefAt K mg x st a Ng l
theorem qe_refN {X : Cx} {c : Cf} {W : WX} {x a : Str} {st : Stmt} {Ng : List Str} {nm : List (Str × Str)} {C P : Addr} {k : Nat} {body : Expr} {scope : Scope} {p lpos pos : Pos} {params : Arguments} {f : Ev → M Vl} (F : RefN X.K X.mg x st a Ng nm) (hg : Gl X x)
    (hl : c.lam = true) (TB : TabB X.base X.mg C P) (hcode : X.env.code = .ref C) (hT : c.T = [(P, X.env.qual ++ "<lambda>")]) (hr : Room (k + 2) X.A) (L : LamS X.env.scope scope)
    (hbody : ∀ (A : Around) (outer : List Env) (s : Shared) (H : Hp) (E : XK) (f0 c0 : Addr), Room k (A.deeper (lamEnv X scope s.heap.objs.size f0 c0)) → QE (lamCx X A outer s H E scope f0 c0) c (fun cls d _ H => E cls d H) body f)
    (hdef : defaultsOf params X.env = ([], []) := by rfl) (hbind : ∀ (q : Str) (cl : List (Str × Addr)) (pm cv ctv : Value), bindArgs (PySem.W.kla_fn "<lambda>" q params body scope cl pm cv ctv) ⟨[], []⟩ = pure [] := by intros; rfl)
    (hdb : (x == ("__debug__" : Str)) = false := by decide) (hd : (a == ("__debug__" : Str)) = false := by decide) (hcd : (a == ("__classdict__" : Str)) = false := by decide) :
    QE X c W (.Call (.Name x p) [.Lambda params body scope lpos] [] pos) (fRefused nm f) := by
  obtain ⟨l, rfl, F⟩ := F
  exact qe_refused F hg hl TB hcode hT hr L hbody hdef hbind hdb hd hcd
end DD
/-! part G1 -/
set_option Elab.async false
set_option linter.all false
set_option maxRecDepth 100000
set_option maxHeartbeats 4000000
namespace K00
open PySem PySem.Spec PyProof.Rows L2 LamX DD
def top (i : Nat) : Stmt := PySem.Challenge.pw_helpedcalls_k00_whole_objects.main.body.getD i (.Pass ⟨0, 0, 0, 0⟩)
def tab_FORMS : List (Str × Str) := [("counter", "_has_size"), ("register", "_has_size"), ("stack", "_has_room_and_size"), ("queue", "_has_room_and_size"), ("set", "_has_size"), ("agree", "_has_size"), ("bank", "_has_amounts"), ("table", "_has_rows")]
def tab_CALLS : List (Str × Str) := [("counter", "_counter_calls"), ("register", "_register_calls"), ("stack", "_stack_calls"), ("queue", "_queue_calls"), ("set", "_set_calls"), ("agree", "_agree_calls"), ("bank", "_bank_calls"), ("table", "_table_calls")]
def tab_STEPS : List (Str × Str) := [("counter", "_counter_step"), ("register", "_register_step"), ("stack", "_stack_step"), ("queue", "_queue_step"), ("set", "_set_step"), ("agree", "_agree_step"), ("bank", "_bank_step"), ("table", "_table_step")]
abbrev s_is_integer : Stmt := top 6
theorem sc_is_integer : FnScope ["value"] ["value"] (defScope s_is_integer) := ⟨rfl, rfl, rfl, by decide +kernel, rfl, by decide +kernel, by decide +kernel⟩
def b_is_integer : SM := (sRet (fAndV (fUn (isiP .int) (fVar 0)) (fNotV (fUn (isiP .bool) (fVar 0)))))
def m_is_integer : List Vl → M Vl := mDef 1 b_is_integer
abbrev s_is_within : Stmt := top 7
theorem sc_is_within : FnScope ["value", "low", "high"] ["value", "low", "high"] (defScope s_is_within) := ⟨rfl, rfl, rfl, by decide +kernel, rfl, by decide +kernel, by decide +kernel⟩
def b_is_within : SM := (sRet (fAndV (fDef 1 m_is_integer (fCons (fVar 0) fNil)) (fChain leP leP (fVar 1) (fVar 0) (fVar 2))))
def m_is_within : List Vl → M Vl := mDef 3 b_is_within
abbrev s_are_within : Stmt := top 8
theorem sc_are_within : FnScope ["value", "low", "high", "part"] ["value", "low", "high"] (defScope s_are_within) := ⟨rfl, rfl, rfl, by decide +kernel, rfl, by decide +kernel, by decide +kernel⟩
def b_are_within : SM := (sRet (fAndV (fUn (isiP .tup) (fVar 0)) (fCall allP (fCons (fComp (fItems (fVar 0)) (gN 3) fYes (fDef 3 m_is_within (fCons (fVar 3) (fCons (fVar 1) (fCons (fVar 2) fNil)))) [3]) fNil))))
def m_are_within : List Vl → M Vl := mDef 4 b_are_within
abbrev s_same : Stmt := top 9
theorem sc_same : FnScope ["one", "other", "left", "right"] ["one", "other"] (defScope s_same) := ⟨rfl, rfl, rfl, by decide +kernel, rfl, by decide +kernel, by decide +kernel⟩
def b_same (self : List Vl → M Vl) : SM := (sSeq (sIf (fB (fUn (isiP .tup) (fVar 0))) (sSeq (sIf (fOr (fNot (fB (fUn (isiP .tup) (fVar 1)))) (fB (fOp neP (fCall lenP (fCons (fVar 0) fNil)) (fCall lenP (fCons (fVar 1) fNil))))) (sRet (fC (.bool false))) sPass) (sRet (fCall allP (fCons (fComp (fZip (fCons (fVar 0) (fCons (fVar 1) fNil))) (gT 2 (gsCons (gN 2) (gsCons (gN 3) gsNil))) fYes (fDef 2 self (fCons (fVar 2) (fCons (fVar 3) fNil))) [2, 3]) fNil)))) sPass) (sSeq (sIf (fB (fOp isP (fVar 0) (fC .none))) (sRet (fOp isP (fVar 1) (fC .none))) sPass) (sSeq (sIf (fB (fUn (isiP .bool) (fVar 0))) (sRet (fAndV (fUn (isiP .bool) (fVar 1)) (fOp eqP (fVar 0) (fVar 1)))) sPass) (sSeq (sIf (fB (fUn (isiP .int) (fVar 0))) (sRet (fAndV (fDef 1 m_is_integer (fCons (fVar 1) fNil)) (fOp eqP (fVar 0) (fVar 1)))) sPass) (sRet (fAndV (fUn (isiP .str) (fVar 0)) (fAndV (fUn (isiP .str) (fVar 1)) (fOp eqP (fVar 0) (fVar 1)))))))))
def m_same : Nat → List Vl → M Vl
  | 0 => fun _ => M.fail
  | n + 1 => mDef 4 (b_same (m_same n))
abbrev s_has_size : Stmt := top 11
theorem sc_has_size : FnScope ["value"] ["value"] (defScope s_has_size) := ⟨rfl, rfl, rfl, by decide +kernel, rfl, by decide +kernel, by decide +kernel⟩
def b_has_size : SM := (sRet (fAndV (fOp eqP (fCall lenP (fCons (fVar 0) fNil)) (fC (.int 2))) (fDef 3 m_is_within (fCons (fOp ixP (fVar 0) (fC (.int 1))) (fCons (fC (.int 2)) (fCons (fC (.int 5)) fNil))))))
def m_has_size : List Vl → M Vl := mDef 1 b_has_size
abbrev s_has_room_and_size : Stmt := top 12
theorem sc_has_room_and_size : FnScope ["value"] ["value"] (defScope s_has_room_and_size) := ⟨rfl, rfl, rfl, by decide +kernel, rfl, by decide +kernel, by decide +kernel⟩
def b_has_room_and_size : SM := (sRet (fAndV (fOp eqP (fCall lenP (fCons (fVar 0) fNil)) (fC (.int 3))) (fAndV (fDef 3 m_is_within (fCons (fOp ixP (fVar 0) (fC (.int 1))) (fCons (fC (.int 1)) (fCons (fC (.int 3)) fNil)))) (fDef 3 m_is_within (fCons (fOp ixP (fVar 0) (fC (.int 2))) (fCons (fC (.int 1)) (fCons (fC (.int 3)) fNil)))))))
def m_has_room_and_size : List Vl → M Vl := mDef 1 b_has_room_and_size
abbrev s_has_amounts : Stmt := top 13
theorem sc_has_amounts : FnScope ["value"] ["value"] (defScope s_has_amounts) := ⟨rfl, rfl, rfl, by decide +kernel, rfl, by decide +kernel, by decide +kernel⟩
def b_has_amounts : SM := (sRet (fAndV (fOp eqP (fCall lenP (fCons (fVar 0) fNil)) (fC (.int 2))) (fAndV (fDef 3 m_are_within (fCons (fOp ixP (fVar 0) (fC (.int 1))) (fCons (fC (.int 0)) (fCons (fC (.int 5)) fNil)))) (fChain leP leP (fC (.int 2)) (fCall lenP (fCons (fOp ixP (fVar 0) (fC (.int 1))) fNil)) (fC (.int 3))))))
def m_has_amounts : List Vl → M Vl := mDef 1 b_has_amounts
abbrev s_is_pair : Stmt := top 14
theorem sc_is_pair : FnScope ["value", "many"] ["value", "many"] (defScope s_is_pair) := ⟨rfl, rfl, rfl, by decide +kernel, rfl, by decide +kernel, by decide +kernel⟩
def b_is_pair : SM := (sSeq (sIf (fOr (fNot (fB (fUn (isiP .tup) (fVar 0)))) (fB (fOp neP (fCall lenP (fCons (fVar 0) fNil)) (fC (.int 2))))) (sRet (fC (.bool false))) sPass) (sRet (fAndV (fDef 3 m_is_within (fCons (fOp ixP (fVar 0) (fC (.int 0))) (fCons (fC (.int 0)) (fCons (fOp subP (fVar 1) (fC (.int 1))) fNil)))) (fDef 3 m_is_within (fCons (fOp ixP (fVar 0) (fC (.int 1))) (fCons (fC (.int 0)) (fCons (fC (.int 9)) fNil)))))))
def m_is_pair : List Vl → M Vl := mDef 2 b_is_pair
abbrev s_is_row : Stmt := top 15
theorem sc_is_row : FnScope ["value", "many", "pair"] ["value", "many"] (defScope s_is_row) := ⟨rfl, rfl, rfl, by decide +kernel, rfl, by decide +kernel, by decide +kernel⟩
def b_is_row : SM := (sSeq (sIf (fOr (fNot (fB (fUn (isiP .tup) (fVar 0)))) (fNot (fB (fChain leP leP (fC (.int 1)) (fCall lenP (fCons (fVar 0) fNil)) (fC (.int 4)))))) (sRet (fC (.bool false))) sPass) (sRet (fCall allP (fCons (fComp (fItems (fVar 0)) (gN 2) fYes (fDef 2 m_is_pair (fCons (fVar 2) (fCons (fVar 1) fNil))) [2]) fNil))))
def m_is_row : List Vl → M Vl := mDef 3 b_is_row
abbrev s_has_rows : Stmt := top 16
theorem sc_has_rows : FnScope ["value", "rows", "row"] ["value"] (defScope s_has_rows) := ⟨rfl, rfl, rfl, by decide +kernel, rfl, by decide +kernel, by decide +kernel⟩
def b_has_rows : SM := (sSeq (sIf (fOr (fB (fOp neP (fCall lenP (fCons (fVar 0) fNil)) (fC (.int 2)))) (fNot (fB (fUn (isiP .tup) (fOp ixP (fVar 0) (fC (.int 1))))))) (sRet (fC (.bool false))) sPass) (sSeq (sSet 1 (fOp ixP (fVar 0) (fC (.int 1)))) (sSeq (sIf (fOr (fNot (fB (fChain leP leP (fC (.int 1)) (fCall lenP (fCons (fVar 1) fNil)) (fC (.int 6))))) (fNot (fB (fCall allP (fCons (fComp (fItems (fVar 1)) (gN 2) fYes (fDef 2 m_is_row (fCons (fVar 2) (fCons (fCall lenP (fCons (fVar 1) fNil)) fNil))) [2]) fNil))))) (sRet (fC (.bool false))) sPass) (sRet (fCall allP (fCons (fComp (fItems (fVar 1)) (gN 2) fYes (fOp eqP (fCall lenP (fCons (fVar 2) fNil)) (fCall lenP (fCons (fOp ixP (fVar 1) (fC (.int 0))) fNil))) [2]) fNil))))))
def m_has_rows : List Vl → M Vl := mDef 3 b_has_rows
abbrev s_has_form : Stmt := top 18
theorem sc_has_form : FnScope ["value", "form"] ["value"] (defScope s_has_form) := ⟨rfl, rfl, rfl, by decide +kernel, rfl, by decide +kernel, by decide +kernel⟩
def b_has_form : SM := (sSeq (sIf (fOr (fNot (fB (fUn (isiP .tup) (fVar 0)))) (fOr (fB (fOp eqP (fCall lenP (fCons (fVar 0) fNil)) (fC (.int 0)))) (fNot (fB (fUn (isiP .str) (fOp ixP (fVar 0) (fC (.int 0)))))))) (sRet (fC (.bool false))) sPass) (sSeq (sIf (fB (fInTab true tab_FORMS (fOp ixP (fVar 0) (fC (.int 0))))) (sRet (fC (.bool false))) sPass) (sSeq (sSet 1 (fTab tab_FORMS (fOp ixP (fVar 0) (fC (.int 0))))) (sRet (fCallV 1 [("_has_size", 1, m_has_size), ("_has_room_and_size", 1, m_has_room_and_size), ("_has_amounts", 1, m_has_amounts), ("_has_rows", 1, m_has_rows)] (fCons (fVar 0) fNil))))))
def m_has_form : List Vl → M Vl := mDef 2 b_has_form
abbrev s_counter_calls : Stmt := top 20
theorem sc_counter_calls : FnScope ["thing", "k"] ["thing"] (defScope s_counter_calls) := ⟨rfl, rfl, rfl, by decide +kernel, rfl, by decide +kernel, by decide +kernel⟩
def b_counter_calls : SM := (sRet (fOp addP (fComp (fRange rng2P (fCons (fC (.int 1)) (fCons (fOp ixP (fVar 0) (fC (.int 1))) fNil))) (gN 1) fYes (fTup (fCons (fC (.str "add")) (fCons (fVar 1) fNil))) [1]) (fLst (fCons (fTup (fCons (fC (.str "look")) fNil)) fNil))))
def m_counter_calls : List Vl → M Vl := mDef 2 b_counter_calls
abbrev s_counter_step : Stmt := top 21
theorem sc_counter_step : FnScope ["thing", "state", "call"] ["thing", "state", "call"] (defScope s_counter_step) := ⟨rfl, rfl, rfl, by decide +kernel, rfl, by decide +kernel, by decide +kernel⟩
def b_counter_step : SM := (sSeq (sIf (fB (fOp eqP (fOp ixP (fVar 2) (fC (.int 0))) (fC (.str "look")))) (sRet (fTup (fCons (fVar 1) (fCons (fVar 1) fNil)))) sPass) (sRet (fTup (fCons (fOp modP (fOp addP (fVar 1) (fOp ixP (fVar 2) (fC (.int 1)))) (fOp ixP (fVar 0) (fC (.int 1)))) (fCons (fVar 1) fNil)))))
def m_counter_step : List Vl → M Vl := mDef 3 b_counter_step
abbrev s_register_calls : Stmt := top 22
theorem sc_register_calls : FnScope ["thing", "puts", "k"] ["thing"] (defScope s_register_calls) := ⟨rfl, rfl, rfl, by decide +kernel, rfl, by decide +kernel, by decide +kernel⟩
def b_register_calls : SM := (sSeq (sSet 1 (fComp (fRange rng1P (fCons (fOp ixP (fVar 0) (fC (.int 1))) fNil)) (gN 2) fYes (fTup (fCons (fC (.str "put")) (fCons (fVar 2) fNil))) [2])) (sRet (fOp addP (fOp addP (fLst (fCons (fTup (fCons (fC (.str "look")) fNil)) fNil)) (fVar 1)) (fComp (fRange rng1P (fCons (fOp ixP (fVar 0) (fC (.int 1))) fNil)) (gN 2) fYes (fTup (fCons (fC (.str "trade")) (fCons (fVar 2) fNil))) [2]))))
def m_register_calls : List Vl → M Vl := mDef 3 b_register_calls
abbrev s_register_step : Stmt := top 23
theorem sc_register_step : FnScope ["thing", "state", "call"] ["thing", "state", "call"] (defScope s_register_step) := ⟨rfl, rfl, rfl, by decide +kernel, rfl, by decide +kernel, by decide +kernel⟩
def b_register_step : SM := (sSeq (sIf (fB (fOp eqP (fOp ixP (fVar 2) (fC (.int 0))) (fC (.str "look")))) (sRet (fTup (fCons (fVar 1) (fCons (fVar 1) fNil)))) sPass) (sSeq (sIf (fB (fOp eqP (fOp ixP (fVar 2) (fC (.int 0))) (fC (.str "put")))) (sRet (fTup (fCons (fOp ixP (fVar 2) (fC (.int 1))) (fCons (fC .none) fNil)))) sPass) (sRet (fTup (fCons (fOp ixP (fVar 2) (fC (.int 1))) (fCons (fVar 1) fNil))))))
def m_register_step : List Vl → M Vl := mDef 3 b_register_step
abbrev s_stack_calls : Stmt := top 24
theorem sc_stack_calls : FnScope ["thing", "k"] ["thing"] (defScope s_stack_calls) := ⟨rfl, rfl, rfl, by decide +kernel, rfl, by decide +kernel, by decide +kernel⟩
def b_stack_calls : SM := (sRet (fOp addP (fLst (fCons (fTup (fCons (fC (.str "pop")) fNil)) fNil)) (fComp (fRange rng1P (fCons (fOp ixP (fVar 0) (fC (.int 2))) fNil)) (gN 1) fYes (fTup (fCons (fC (.str "push")) (fCons (fVar 1) fNil))) [1])))
def m_stack_calls : List Vl → M Vl := mDef 2 b_stack_calls
abbrev s_put_at_end : Stmt := top 28
theorem sc_put_at_end : FnScope ["thing", "state", "k"] ["thing", "state", "k"] (defScope s_put_at_end) := ⟨rfl, rfl, rfl, by decide +kernel, rfl, by decide +kernel, by decide +kernel⟩
def b_put_at_end : SM := (sSeq (sIf (fB (fOp eqP (fCall lenP (fCons (fVar 1) fNil)) (fOp ixP (fVar 0) (fC (.int 1))))) (sRet (fTup (fCons (fVar 1) (fCons (fC (.bool false)) fNil)))) sPass) (sRet (fTup (fCons (fOp addP (fVar 1) (fTup (fCons (fVar 2) fNil))) (fCons (fC (.bool true)) fNil)))))
def m_put_at_end : List Vl → M Vl := mDef 3 b_put_at_end
abbrev s_stack_step : Stmt := top 25
theorem sc_stack_step : FnScope ["thing", "state", "call"] ["thing", "state", "call"] (defScope s_stack_step) := ⟨rfl, rfl, rfl, by decide +kernel, rfl, by decide +kernel, by decide +kernel⟩
def b_stack_step : SM := (sSeq (sIf (fB (fOp eqP (fOp ixP (fVar 2) (fC (.int 0))) (fC (.str "push")))) (sRet (fDef 3 m_put_at_end (fCons (fVar 0) (fCons (fVar 1) (fCons (fOp ixP (fVar 2) (fC (.int 1))) fNil))))) sPass) (sSeq (sIf (fB (fOp eqP (fCall lenP (fCons (fVar 1) fNil)) (fC (.int 0)))) (sRet (fTup (fCons (fVar 1) (fCons (fC .none) fNil)))) sPass) (sRet (fTup (fCons (fSl (fVar 1) oN (oI (fUn negP (fC (.int 1))))) (fCons (fOp ixP (fVar 1) (fUn negP (fC (.int 1)))) fNil))))))
def m_stack_step : List Vl → M Vl := mDef 3 b_stack_step
abbrev s_queue_calls : Stmt := top 26
theorem sc_queue_calls : FnScope ["thing", "k"] ["thing"] (defScope s_queue_calls) := ⟨rfl, rfl, rfl, by decide +kernel, rfl, by decide +kernel, by decide +kernel⟩
def b_queue_calls : SM := (sRet (fOp addP (fComp (fRange rng1P (fCons (fOp ixP (fVar 0) (fC (.int 2))) fNil)) (gN 1) fYes (fTup (fCons (fC (.str "enter")) (fCons (fVar 1) fNil))) [1]) (fLst (fCons (fTup (fCons (fC (.str "leave")) fNil)) fNil))))
def m_queue_calls : List Vl → M Vl := mDef 2 b_queue_calls
abbrev s_queue_step : Stmt := top 27
theorem sc_queue_step : FnScope ["thing", "state", "call"] ["thing", "state", "call"] (defScope s_queue_step) := ⟨rfl, rfl, rfl, by decide +kernel, rfl, by decide +kernel, by decide +kernel⟩
def b_queue_step : SM := (sSeq (sIf (fB (fOp eqP (fOp ixP (fVar 2) (fC (.int 0))) (fC (.str "enter")))) (sRet (fDef 3 m_put_at_end (fCons (fVar 0) (fCons (fVar 1) (fCons (fOp ixP (fVar 2) (fC (.int 1))) fNil))))) sPass) (sSeq (sIf (fB (fOp eqP (fCall lenP (fCons (fVar 1) fNil)) (fC (.int 0)))) (sRet (fTup (fCons (fVar 1) (fCons (fC .none) fNil)))) sPass) (sRet (fTup (fCons (fSl (fVar 1) (oI (fC (.int 1))) oN) (fCons (fOp ixP (fVar 1) (fC (.int 0))) fNil))))))
def m_queue_step : List Vl → M Vl := mDef 3 b_queue_step
abbrev s_set_calls : Stmt := top 29
theorem sc_set_calls : FnScope ["thing", "word", "k"] ["thing"] (defScope s_set_calls) := ⟨rfl, rfl, rfl, by decide +kernel, rfl, by decide +kernel, by decide +kernel⟩
def b_set_calls : SM := (sRet (fCompN (fItems (fTup (fCons (fC (.str "add")) (fCons (fC (.str "drop")) (fCons (fC (.str "has")) fNil))))) (gN 1) fYes (bdC (fRange rng1P (fCons (fOp ixP (fVar 0) (fC (.int 1))) fNil)) (gN 2) fYes (bdE (fTup (fCons (fVar 1) (fCons (fVar 2) fNil)))) [2]) [1, 2]))
def m_set_calls : List Vl → M Vl := mDef 3 b_set_calls
abbrev s_set_step : Stmt := top 30
theorem sc_set_step : FnScope ["thing", "state", "call", "held", "others", "word", "k", "member"] ["thing", "state", "call"] (defScope s_set_step) := ⟨rfl, rfl, rfl, by decide +kernel, rfl, by decide +kernel, by decide +kernel⟩
def b_set_step : SM := (sSeq (sAsg (gT 2 (gsCons (gN 5) (gsCons (gN 6) gsNil))) (fVar 2)) (sSeq (sSet 3 (fOp (inP false) (fVar 6) (fVar 1))) (sSeq (sIf (fB (fOp eqP (fVar 5) (fC (.str "has")))) (sRet (fTup (fCons (fVar 1) (fCons (fVar 3) fNil)))) sPass) (sSeq (sSet 4 (fComp (fItems (fVar 1)) (gN 7) (fB (fOp neP (fVar 7) (fVar 6))) (fVar 7) [7])) (sSeq (sIf (fB (fOp eqP (fVar 5) (fC (.str "drop")))) (sRet (fTup (fCons (fCall tupleP (fCons (fVar 4) fNil)) (fCons (fVar 3) fNil)))) sPass) (sRet (fTup (fCons (fCall tupleP (fCons (fCall sortedP (fCons (fOp addP (fVar 4) (fLst (fCons (fVar 6) fNil))) fNil)) fNil)) (fCons (fNotV (fVar 3)) fNil)))))))))
def m_set_step : List Vl → M Vl := mDef 8 b_set_step
abbrev s_agree_calls : Stmt := top 31
theorem sc_agree_calls : FnScope ["thing", "k"] ["thing"] (defScope s_agree_calls) := ⟨rfl, rfl, rfl, by decide +kernel, rfl, by decide +kernel, by decide +kernel⟩
def b_agree_calls : SM := (sRet (fComp (fRange rng1P (fCons (fOp ixP (fVar 0) (fC (.int 1))) fNil)) (gN 1) fYes (fTup (fCons (fC (.str "decide")) (fCons (fVar 1) fNil))) [1]))
def m_agree_calls : List Vl → M Vl := mDef 2 b_agree_calls
abbrev s_agree_step : Stmt := top 32
theorem sc_agree_step : FnScope ["thing", "state", "call", "told"] ["thing", "state", "call"] (defScope s_agree_step) := ⟨rfl, rfl, rfl, by decide +kernel, rfl, by decide +kernel, by decide +kernel⟩
def b_agree_step : SM := (sSeq (sSet 3 (fIte (fB (fOp isP (fVar 1) (fC .none))) (fOp ixP (fVar 2) (fC (.int 1))) (fVar 1))) (sRet (fTup (fCons (fVar 3) (fCons (fVar 3) fNil)))))
def m_agree_step : List Vl → M Vl := mDef 4 b_agree_step
abbrev s_bank_calls : Stmt := top 33
theorem sc_bank_calls : FnScope ["thing", "places", "looks", "a", "b", "k"] ["thing"] (defScope s_bank_calls) := ⟨rfl, rfl, rfl, by decide +kernel, rfl, by decide +kernel, by decide +kernel⟩
def b_bank_calls : SM := (sSeq (sSet 1 (fRngV (fCons (fCall lenP (fCons (fOp ixP (fVar 0) (fC (.int 1))) fNil)) fNil))) (sSeq (sSet 2 (fComp (fItemsR (fVar 1)) (gN 3) fYes (fTup (fCons (fC (.str "look")) (fCons (fVar 3) fNil))) [3])) (sRet (fOp addP (fVar 2) (fCompN (fItemsR (fVar 1)) (gN 3) fYes (bdC (fItemsR (fVar 1)) (gN 4) (fB (fOp neP (fVar 3) (fVar 4))) (bdC (fRange rng2P (fCons (fC (.int 1)) (fCons (fC (.int 4)) fNil))) (gN 5) fYes (bdE (fTup (fCons (fC (.str "move")) (fCons (fVar 3) (fCons (fVar 4) (fCons (fVar 5) fNil)))))) [5]) [4, 5]) [3, 4, 5])))))
def m_bank_calls : List Vl → M Vl := mDef 6 b_bank_calls
abbrev s_bank_step : Stmt := top 34
theorem sc_bank_step : FnScope ["thing", "state", "call", "amounts", "_", "giver", "taker", "many"] ["thing", "state", "call"] (defScope s_bank_step) := ⟨rfl, rfl, rfl, by decide +kernel, rfl, by decide +kernel, by decide +kernel⟩
def b_bank_step : SM := (sSeq (sIf (fB (fOp eqP (fOp ixP (fVar 2) (fC (.int 0))) (fC (.str "look")))) (sRet (fTup (fCons (fVar 1) (fCons (fOp ixP (fVar 1) (fOp ixP (fVar 2) (fC (.int 1)))) fNil)))) sPass) (sSeq (sAsg (gT 4 (gsCons (gN 4) (gsCons (gN 5) (gsCons (gN 6) (gsCons (gN 7) gsNil))))) (fVar 2)) (sSeq (sIf (fB (fOp ltP (fOp ixP (fVar 1) (fVar 5)) (fVar 7))) (sRet (fTup (fCons (fVar 1) (fCons (fC (.bool false)) fNil)))) sPass) (sSeq (sSet 3 (fMutL (fCons (fVar 1) fNil))) (sSeq (sExpr (fPutOp (fun x y => match x, y with | .int i, .int j => some (.int (i - j)) | _, _ => none) (fVar 3) (fVar 5) (fVar 7))) (sSeq (sExpr (fPutOp (fun x y => match x, y with | .int i, .int j => some (.int (i + j)) | _, _ => none) (fVar 3) (fVar 6) (fVar 7))) (sRet (fTup (fCons (fCall tupleP (fCons (fVar 3) fNil)) (fCons (fC (.bool true)) fNil))))))))))
def m_bank_step : List Vl → M Vl := mDef 8 b_bank_step
abbrev s_table_calls : Stmt := top 35
theorem sc_table_calls : FnScope ["thing", "c"] ["thing"] (defScope s_table_calls) := ⟨rfl, rfl, rfl, by decide +kernel, rfl, by decide +kernel, by decide +kernel⟩
def b_table_calls : SM := (sRet (fComp (fRange rng1P (fCons (fCall lenP (fCons (fOp ixP (fOp ixP (fVar 0) (fC (.int 1))) (fC (.int 0))) fNil)) fNil)) (gN 1) fYes (fTup (fCons (fC (.str "do")) (fCons (fVar 1) fNil))) [1]))
def m_table_calls : List Vl → M Vl := mDef 2 b_table_calls
abbrev s_table_step : Stmt := top 36
theorem sc_table_step : FnScope ["thing", "state", "call"] ["thing", "state", "call"] (defScope s_table_step) := ⟨rfl, rfl, rfl, by decide +kernel, rfl, by decide +kernel, by decide +kernel⟩
def b_table_step : SM := (sRet (fOp ixP (fOp ixP (fOp ixP (fVar 0) (fC (.int 1))) (fVar 1)) (fOp ixP (fVar 2) (fC (.int 1)))))
def m_table_step : List Vl → M Vl := mDef 3 b_table_step
abbrev s_call_rows : Stmt := top 39
theorem sc_call_rows : FnScope ["thing", "action"] ["thing"] (defScope s_call_rows) := ⟨rfl, rfl, rfl, by decide +kernel, rfl, by decide +kernel, by decide +kernel⟩
def b_call_rows : SM := (sSeq (sSet 1 (fTab tab_CALLS (fOp ixP (fVar 0) (fC (.int 0))))) (sRet (fCallV 1 [("_counter_calls", 1, m_counter_calls), ("_register_calls", 1, m_register_calls), ("_stack_calls", 1, m_stack_calls), ("_queue_calls", 1, m_queue_calls), ("_set_calls", 1, m_set_calls), ("_agree_calls", 1, m_agree_calls), ("_bank_calls", 1, m_bank_calls), ("_table_calls", 1, m_table_calls)] (fCons (fVar 0) fNil))))
def m_call_rows : List Vl → M Vl := mDef 2 b_call_rows
abbrev s_step : Stmt := top 40
theorem sc_step : FnScope ["thing", "state", "call", "action"] ["thing", "state", "call"] (defScope s_step) := ⟨rfl, rfl, rfl, by decide +kernel, rfl, by decide +kernel, by decide +kernel⟩
def b_step : SM := (sSeq (sSet 3 (fTab tab_STEPS (fOp ixP (fVar 0) (fC (.int 0))))) (sRet (fCallV 3 [("_counter_step", 3, m_counter_step), ("_register_step", 3, m_register_step), ("_stack_step", 3, m_stack_step), ("_queue_step", 3, m_queue_step), ("_set_step", 3, m_set_step), ("_agree_step", 3, m_agree_step), ("_bank_step", 3, m_bank_step), ("_table_step", 3, m_table_step)] (fCons (fVar 0) (fCons (fVar 1) (fCons (fVar 2) fNil))))))
def m_step : List Vl → M Vl := mDef 4 b_step
abbrev s_start : Stmt := top 41
theorem sc_start : FnScope ["thing"] ["thing"] (defScope s_start) := ⟨rfl, rfl, rfl, by decide +kernel, rfl, by decide +kernel, by decide +kernel⟩
def b_start : SM := (sSeq (sIf (fB (fOp eqP (fOp ixP (fVar 0) (fC (.int 0))) (fC (.str "agree")))) (sRet (fC .none)) sPass) (sSeq (sIf (fB (fOp eqP (fOp ixP (fVar 0) (fC (.int 0))) (fC (.str "bank")))) (sRet (fOp ixP (fVar 0) (fC (.int 1)))) sPass) (sSeq (sIf (fB (fOp (inP false) (fOp ixP (fVar 0) (fC (.int 0))) (fTup (fCons (fC (.str "stack")) (fCons (fC (.str "queue")) (fCons (fC (.str "set")) fNil)))))) (sRet (fTup fNil)) sPass) (sRet (fC (.int 0))))))
def m_start : List Vl → M Vl := mDef 1 b_start
abbrev s_reached : Stmt := top 42
theorem sc_reached : FnScope ["thing", "rows", "found", "met", "at", "call", "behind"] ["thing"] (defScope s_reached) := ⟨rfl, rfl, rfl, by decide +kernel, rfl, by decide +kernel, by decide +kernel⟩
def b_reached : SM := (sSeq (sSet 1 (fDef 1 m_call_rows (fCons (fVar 0) fNil))) (sSeq (sSet 2 (fMut (fCons (fDef 1 m_start (fCons (fVar 0) fNil)) fNil))) (sSeq (sSet 3 (fDisp [((fOp ixP (fVar 2) (fC (.int 0))), (fC (.bool true)))])) (sSeq (sSet 4 (fC (.int 0))) (sSeq (sWhile (fB (fOp ltP (fVar 4) (fCall lenP (fCons (fVar 2) fNil)))) (sSeq (sFor (fItems (fVar 1)) (gN 5) (sSeq (sSet 6 (fOp ixP (fDef 3 m_step (fCons (fVar 0) (fCons (fOp ixP (fVar 2) (fVar 4)) (fCons (fVar 5) fNil)))) (fC (.int 0)))) (sIf (fB (fDIn true (fVar 6) (fVar 3))) (sSeq (sExpr (fDSet (fC (.bool true)) (fVar 3) (fVar 6))) (sExpr (fAppend (fVar 2) (fVar 6)))) sPass))) (sSet 4 (fOp (fun x y => match x, y with | .int i, .int j => some (.int (i + j)) | _, _ => none) (fVar 4) (fC (.int 1))))) 100000) (sRet (fVar 2)))))))
def m_reached : List Vl → M Vl := mDef 7 b_reached
abbrev s_run : Stmt := top 43
theorem sc_run : FnScope ["thing", "row", "state", "answers", "call", "answer"] ["thing", "row"] (defScope s_run) := ⟨rfl, rfl, rfl, by decide +kernel, rfl, by decide +kernel, by decide +kernel⟩
def b_run : SM := (sSeq (sSet 2 (fDef 1 m_start (fCons (fVar 0) fNil))) (sSeq (sSet 3 (fMut fNil)) (sSeq (sFor (fItems (fVar 1)) (gN 4) (sSeq (sAsg (gT 2 (gsCons (gN 2) (gsCons (gN 5) gsNil))) (fDef 3 m_step (fCons (fVar 0) (fCons (fVar 2) (fCons (fVar 4) fNil))))) (sExpr (fAppend (fVar 3) (fVar 5))))) (sRet (fTup (fCons (fCall tupleP (fCons (fVar 3) fNil)) (fCons (fVar 2) fNil)))))))
def m_run : List Vl → M Vl := mDef 6 b_run
abbrev s_has_call : Stmt := top 45
theorem sc_has_call : FnScope ["thing", "value", "call"] ["thing", "value"] (defScope s_has_call) := ⟨rfl, rfl, rfl, by decide +kernel, rfl, by decide +kernel, by decide +kernel⟩
def b_has_call : SM := (sRet (fCall anyP (fCons (fComp (fItems (fDef 1 m_call_rows (fCons (fVar 0) fNil))) (gN 2) fYes (fDef 2 (m_same 12) (fCons (fVar 2) (fCons (fVar 1) fNil))) [2]) fNil)))
def m_has_call : List Vl → M Vl := mDef 3 b_has_call
abbrev s_is_ascending : Stmt := top 47
theorem sc_is_ascending : FnScope ["row", "k"] ["row"] (defScope s_is_ascending) := ⟨rfl, rfl, rfl, by decide +kernel, rfl, by decide +kernel, by decide +kernel⟩
def b_is_ascending : SM := (sRet (fCall allP (fCons (fComp (fRange rng1P (fCons (fOp subP (fCall lenP (fCons (fVar 0) fNil)) (fC (.int 1))) fNil)) (gN 1) fYes (fOp ltP (fOp ixP (fVar 0) (fVar 1)) (fOp ixP (fVar 0) (fOp addP (fVar 1) (fC (.int 1))))) [1]) fNil)))
def m_is_ascending : List Vl → M Vl := mDef 2 b_is_ascending
abbrev s_has_state : Stmt := top 46
theorem sc_has_state : FnScope ["thing", "value", "kind", "total", "state"] ["thing", "value"] (defScope s_has_state) := ⟨rfl, rfl, rfl, by decide +kernel, rfl, by decide +kernel, by decide +kernel⟩
def b_has_state : SM := (sSeq (sSet 2 (fOp ixP (fVar 0) (fC (.int 0)))) (sSeq (sIf (fB (fOp (inP false) (fVar 2) (fTup (fCons (fC (.str "counter")) (fCons (fC (.str "register")) fNil))))) (sRet (fDef 3 m_is_within (fCons (fVar 1) (fCons (fC (.int 0)) (fCons (fOp subP (fOp ixP (fVar 0) (fC (.int 1))) (fC (.int 1))) fNil))))) sPass) (sSeq (sIf (fB (fOp eqP (fVar 2) (fC (.str "agree")))) (sRet (fOrV (fOp isP (fVar 1) (fC .none)) (fDef 3 m_is_within (fCons (fVar 1) (fCons (fC (.int 0)) (fCons (fOp subP (fOp ixP (fVar 0) (fC (.int 1))) (fC (.int 1))) fNil)))))) sPass) (sSeq (sIf (fB (fOp (inP false) (fVar 2) (fTup (fCons (fC (.str "stack")) (fCons (fC (.str "queue")) fNil))))) (sRet (fAndV (fDef 3 m_are_within (fCons (fVar 1) (fCons (fC (.int 0)) (fCons (fOp subP (fOp ixP (fVar 0) (fC (.int 2))) (fC (.int 1))) fNil)))) (fOp leP (fCall lenP (fCons (fVar 1) fNil)) (fOp ixP (fVar 0) (fC (.int 1)))))) sPass) (sSeq (sIf (fB (fOp eqP (fVar 2) (fC (.str "set")))) (sRet (fAndV (fDef 3 m_are_within (fCons (fVar 1) (fCons (fC (.int 0)) (fCons (fOp subP (fOp ixP (fVar 0) (fC (.int 1))) (fC (.int 1))) fNil)))) (fDef 1 m_is_ascending (fCons (fVar 1) fNil)))) sPass) (sSeq (sIf (fB (fOp eqP (fVar 2) (fC (.str "bank")))) (sSeq (sSet 3 (fCall sumP (fCons (fOp ixP (fVar 0) (fC (.int 1))) fNil))) (sRet (fAndV (fDef 3 m_are_within (fCons (fVar 1) (fCons (fC (.int 0)) (fCons (fVar 3) fNil)))) (fAndV (fOp eqP (fCall lenP (fCons (fVar 1) fNil)) (fCall lenP (fCons (fOp ixP (fVar 0) (fC (.int 1))) fNil))) (fOp eqP (fCall sumP (fCons (fVar 1) fNil)) (fVar 3)))))) sPass) (sRet (fCall anyP (fCons (fComp (fItems (fDef 1 m_reached (fCons (fVar 0) fNil))) (gN 4) fYes (fDef 2 (m_same 12) (fCons (fVar 4) (fCons (fVar 1) fNil))) [4]) fNil)))))))))
def m_has_state : List Vl → M Vl := mDef 5 b_has_state
abbrev s_check_object : Stmt := top 48
theorem sc_check_object : FnScope ["value"] ["value"] (defScope s_check_object) := ⟨rfl, rfl, rfl, by decide +kernel, rfl, by decide +kernel, by decide +kernel⟩
def b_check_object : SM := (sIf (fNot (fB (fDef 1 m_has_form (fCons (fVar 0) fNil)))) (sRaise "BadObject") sPass)
def m_check_object : List Vl → M Vl := mDef 1 b_check_object
abbrev s_check_call : Stmt := top 49
theorem sc_check_call : FnScope ["thing", "value"] ["thing", "value"] (defScope s_check_call) := ⟨rfl, rfl, rfl, by decide +kernel, rfl, by decide +kernel, by decide +kernel⟩
def b_check_call : SM := (sIf (fNot (fB (fDef 2 m_has_call (fCons (fVar 0) (fCons (fVar 1) fNil))))) (sRaise "BadCall") sPass)
def m_check_call : List Vl → M Vl := mDef 2 b_check_call
abbrev s_check_calls : Stmt := top 50
theorem sc_check_calls : FnScope ["thing", "value", "call"] ["thing", "value"] (defScope s_check_calls) := ⟨rfl, rfl, rfl, by decide +kernel, rfl, by decide +kernel, by decide +kernel⟩
def b_check_calls : SM := (sSeq (sIf (fNot (fB (fUn (isiP .tup) (fVar 1)))) (sRaise "BadCall") sPass) (sFor (fItems (fVar 1)) (gN 2) (sExpr (fDef 2 m_check_call (fCons (fVar 0) (fCons (fVar 2) fNil))))))
def m_check_calls : List Vl → M Vl := mDef 3 b_check_calls
abbrev s_check_state : Stmt := top 51
theorem sc_check_state : FnScope ["thing", "value"] ["thing", "value"] (defScope s_check_state) := ⟨rfl, rfl, rfl, by decide +kernel, rfl, by decide +kernel, by decide +kernel⟩
def b_check_state : SM := (sIf (fNot (fB (fDef 2 m_has_state (fCons (fVar 0) (fCons (fVar 1) fNil))))) (sRaise "BadState") sPass)
def m_check_state : List Vl → M Vl := mDef 2 b_check_state
abbrev s_is_object : Stmt := top 53
theorem sc_is_object : FnScope ["value"] ["value"] (defScope s_is_object) := ⟨rfl, rfl, rfl, by decide +kernel, rfl, by decide +kernel, by decide +kernel⟩
def b_is_object : SM := (sRet (fDef 1 m_has_form (fCons (fVar 0) fNil)))
def m_is_object : List Vl → M Vl := mDef 1 b_is_object
abbrev s_calls : Stmt := top 54
theorem sc_calls : FnScope ["thing"] ["thing"] (defScope s_calls) := ⟨rfl, rfl, rfl, by decide +kernel, rfl, by decide +kernel, by decide +kernel⟩
def b_calls : SM := (sSeq (sExpr (fDef 1 m_check_object (fCons (fVar 0) fNil))) (sRet (fCall tupleP (fCons (fDef 1 m_call_rows (fCons (fVar 0) fNil)) fNil))))
def m_calls : List Vl → M Vl := mDef 1 b_calls
abbrev s_is_call : Stmt := top 55
theorem sc_is_call : FnScope ["thing", "value"] ["thing", "value"] (defScope s_is_call) := ⟨rfl, rfl, rfl, by decide +kernel, rfl, by decide +kernel, by decide +kernel⟩
def b_is_call : SM := (sSeq (sExpr (fDef 1 m_check_object (fCons (fVar 0) fNil))) (sRet (fDef 2 m_has_call (fCons (fVar 0) (fCons (fVar 1) fNil)))))
def m_is_call : List Vl → M Vl := mDef 2 b_is_call
abbrev s_first_state : Stmt := top 56
theorem sc_first_state : FnScope ["thing"] ["thing"] (defScope s_first_state) := ⟨rfl, rfl, rfl, by decide +kernel, rfl, by decide +kernel, by decide +kernel⟩
def b_first_state : SM := (sSeq (sExpr (fDef 1 m_check_object (fCons (fVar 0) fNil))) (sRet (fDef 1 m_start (fCons (fVar 0) fNil))))
def m_first_state : List Vl → M Vl := mDef 1 b_first_state
abbrev s_states : Stmt := top 57
theorem sc_states : FnScope ["thing"] ["thing"] (defScope s_states) := ⟨rfl, rfl, rfl, by decide +kernel, rfl, by decide +kernel, by decide +kernel⟩
def b_states : SM := (sSeq (sExpr (fDef 1 m_check_object (fCons (fVar 0) fNil))) (sRet (fCall tupleP (fCons (fDef 1 m_reached (fCons (fVar 0) fNil)) fNil))))
def m_states : List Vl → M Vl := mDef 1 b_states
abbrev s_applied : Stmt := top 58
theorem sc_applied : FnScope ["thing", "state", "call"] ["thing", "state", "call"] (defScope s_applied) := ⟨rfl, rfl, rfl, by decide +kernel, rfl, by decide +kernel, by decide +kernel⟩
def b_applied : SM := (sSeq (sExpr (fDef 1 m_check_object (fCons (fVar 0) fNil))) (sSeq (sExpr (fDef 2 m_check_state (fCons (fVar 0) (fCons (fVar 1) fNil)))) (sSeq (sExpr (fDef 2 m_check_call (fCons (fVar 0) (fCons (fVar 2) fNil)))) (sRet (fDef 3 m_step (fCons (fVar 0) (fCons (fVar 1) (fCons (fVar 2) fNil))))))))
def m_applied : List Vl → M Vl := mDef 3 b_applied
abbrev s_replayed : Stmt := top 59
theorem sc_replayed : FnScope ["thing", "row"] ["thing", "row"] (defScope s_replayed) := ⟨rfl, rfl, rfl, by decide +kernel, rfl, by decide +kernel, by decide +kernel⟩
def b_replayed : SM := (sSeq (sExpr (fDef 1 m_check_object (fCons (fVar 0) fNil))) (sSeq (sExpr (fDef 2 m_check_calls (fCons (fVar 0) (fCons (fVar 1) fNil)))) (sRet (fDef 2 m_run (fCons (fVar 0) (fCons (fVar 1) fNil))))))
def m_replayed : List Vl → M Vl := mDef 2 b_replayed
abbrev s_Ltaken : Stmt := top 61
theorem sc_Ltaken : FnScope ["row", "many", "cell", "found"] ["row", "many"] (defScope s_Ltaken) := ⟨rfl, rfl, rfl, by decide +kernel, rfl, by decide +kernel, by decide +kernel⟩
def b_Ltaken : SM := (sSeq (sIf (fB (fOp gtP (fOp ixP (fVar 0) (fC (.int 3))) (fC (.int 0)))) (sSeq (sSet 3 (fOp modP (fCall intP (fCons (fOp ixP (fVar 0) (fC (.int 3))) fNil)) (fVar 1))) (sSeq (sExpr (fPut (fOp fdivP (fOp ixP (fVar 0) (fC (.int 3))) (fVar 1)) (fVar 0) (fC (.int 3)))) (sRet (fVar 3)))) sPass) (sSeq (sExpr (fPut (fOp addP (fOp ixP (fVar 0) (fC (.int 1))) (fC (.int 1))) (fVar 0) (fC (.int 1)))) (sSeq (sIf (fB (fOp gtP (fOp ixP (fVar 0) (fC (.int 1))) (fCall lenP (fCons (fOp ixP (fVar 0) (fC (.int 0))) fNil)))) (sSeq (sExpr (fPut (fOp modP (fCall intP (fCons (fOp addP (fOp mulP (fOp ixP (fVar 0) (fC (.int 2))) (fC (.int 48271))) (fC (.int 11))) fNil)) (fC (.int 2147483647))) (fVar 0) (fC (.int 2)))) (sRet (fOp modP (fCall intP (fCons (fOp fdivP (fOp ixP (fVar 0) (fC (.int 2))) (fC (.int 7))) fNil)) (fVar 1)))) sPass) (sSeq (sSet 2 (fOp ixP (fOp ixP (fVar 0) (fC (.int 0))) (fOp subP (fOp ixP (fVar 0) (fC (.int 1))) (fC (.int 1))))) (sSeq (sExpr (fPut (fOp modP (fCall intP (fCons (fOp addP (fOp addP (fOp mulP (fOp ixP (fVar 0) (fC (.int 2))) (fC (.int 48271))) (fVar 2)) (fC (.int 11))) fNil)) (fC (.int 2147483647))) (fVar 0) (fC (.int 2)))) (sSeq (sIf (fB (fOp geP (fVar 2) (fOp powP (fC (.int 10)) (fC (.int 18))))) (sExpr (fPut (fOp fdivP (fVar 2) (fVar 1)) (fVar 0) (fC (.int 3)))) sPass) (sRet (fOp modP (fCall intP (fCons (fVar 2) fNil)) (fVar 1)))))))))
def m_Ltaken : List Vl → M Vl := mDef 4 b_Ltaken
abbrev s_Lpick : Stmt := top 62
theorem sc_Lpick : FnScope ["row", "things"] ["row", "things"] (defScope s_Lpick) := ⟨rfl, rfl, rfl, by decide +kernel, rfl, by decide +kernel, by decide +kernel⟩
def b_Lpick : SM := (sRet (fOp ixP (fVar 1) (fDef 2 m_Ltaken (fCons (fVar 0) (fCons (fCall lenP (fCons (fVar 1) fNil)) fNil)))))
def m_Lpick : List Vl → M Vl := mDef 2 b_Lpick
abbrev s_Lalike : Stmt := top 63
theorem sc_Lalike : FnScope ["found", "due", "k"] ["found", "due"] (defScope s_Lalike) := ⟨rfl, rfl, rfl, by decide +kernel, rfl, by decide +kernel, by decide +kernel⟩
def b_Lalike (self : List Vl → M Vl) : SM := (sSeq (sIf (fB (fUn (isiP2 .tup .lst) (fVar 1))) (sSeq (sIf (fOr (fNot (fB (fUn (isiP2 .tup .lst) (fVar 0)))) (fB (fOp neP (fUn (isiP .lst) (fVar 0)) (fUn (isiP .lst) (fVar 1))))) (sRet (fC (.bool false))) sPass) (sSeq (sIf (fB (fOp neP (fCall lenP (fCons (fVar 0) fNil)) (fCall lenP (fCons (fVar 1) fNil)))) (sRet (fC (.bool false))) sPass) (sRet (fOp eqP (fComp (fRange rng1P (fCons (fCall lenP (fCons (fVar 1) fNil)) fNil)) (gN 2) (fNot (fB (fDef 2 self (fCons (fOp ixP (fVar 0) (fVar 2)) (fCons (fOp ixP (fVar 1) (fVar 2)) fNil))))) (fVar 2) [2]) (fLst fNil))))) sPass) (sSeq (sIf (fOr (fB (fOp isP (fVar 1) (fC .none))) (fB (fUn (isiP .str) (fVar 1)))) (sRet (fAndV (fOp eqP (fVar 0) (fVar 1)) (fOp eqP (fUn (isiP .str) (fVar 0)) (fUn (isiP .str) (fVar 1))))) sPass) (sRet (fAndV (fUn (isiP .int) (fVar 0)) (fAndV (fOp eqP (fUn (isiP .bool) (fVar 0)) (fUn (isiP .bool) (fVar 1))) (fOp eqP (fVar 0) (fVar 1)))))))
def m_Lalike : Nat → List Vl → M Vl
  | 0 => fun _ => M.fail
  | n + 1 => mDef 3 (b_Lalike (m_Lalike n))
abbrev s_Lobject : Stmt := top 64
theorem sc_Lobject : FnScope ["row", "kind", "k", "many", "wide", "rows", "j"] ["row"] (defScope s_Lobject) := ⟨rfl, rfl, rfl, by decide +kernel, rfl, by decide +kernel, by decide +kernel⟩
def b_Lobject : SM := (sSeq (sSet 1 (fDef 2 m_Ltaken (fCons (fVar 0) (fCons (fC (.int 9)) fNil)))) (sSeq (sIf (fB (fOp ltP (fVar 1) (fC (.int 2)))) (sRet (fTup (fCons (fOp ixP (fLst (fCons (fC (.str "counter")) (fCons (fC (.str "register")) fNil))) (fVar 1)) (fCons (fOp addP (fC (.int 2)) (fDef 2 m_Ltaken (fCons (fVar 0) (fCons (fC (.int 3)) fNil)))) fNil)))) sPass) (sSeq (sIf (fB (fOp ltP (fVar 1) (fC (.int 4)))) (sRet (fTup (fCons (fOp ixP (fLst (fCons (fC (.str "stack")) (fCons (fC (.str "queue")) fNil))) (fOp subP (fVar 1) (fC (.int 2)))) (fCons (fOp addP (fC (.int 1)) (fDef 2 m_Ltaken (fCons (fVar 0) (fCons (fC (.int 2)) fNil)))) (fCons (fOp addP (fC (.int 1)) (fDef 2 m_Ltaken (fCons (fVar 0) (fCons (fC (.int 2)) fNil)))) fNil))))) sPass) (sSeq (sIf (fB (fOp ltP (fVar 1) (fC (.int 6)))) (sRet (fTup (fCons (fOp ixP (fLst (fCons (fC (.str "set")) (fCons (fC (.str "agree")) fNil))) (fOp subP (fVar 1) (fC (.int 4)))) (fCons (fOp addP (fC (.int 2)) (fDef 2 m_Ltaken (fCons (fVar 0) (fCons (fC (.int 2)) fNil)))) fNil)))) sPass) (sSeq (sIf (fB (fOp eqP (fVar 1) (fC (.int 6)))) (sRet (fTup (fCons (fC (.str "bank")) (fCons (fCall tupleP (fCons (fComp (fRange rng1P (fCons (fOp addP (fC (.int 2)) (fDef 2 m_Ltaken (fCons (fVar 0) (fCons (fC (.int 2)) fNil)))) fNil)) (gN 2) fYes (fDef 2 m_Ltaken (fCons (fVar 0) (fCons (fC (.int 6)) fNil))) [2]) fNil)) fNil)))) sPass) (sSeq (sParN [3, 4, 5] (fCons (fOp addP (fC (.int 1)) (fDef 2 m_Ltaken (fCons (fVar 0) (fCons (fC (.int 4)) fNil)))) (fCons (fOp addP (fC (.int 1)) (fDef 2 m_Ltaken (fCons (fVar 0) (fCons (fC (.int 3)) fNil)))) (fCons (fMut fNil) fNil)))) (sSeq (sFor (fRange rng1P (fCons (fVar 3) fNil)) (gN 2) (sExpr (fAppend (fVar 5) (fCall tupleP (fCons (fComp (fRange rng1P (fCons (fVar 4) fNil)) (gN 6) fYes (fTup (fCons (fDef 2 m_Ltaken (fCons (fVar 0) (fCons (fVar 3) fNil))) (fCons (fDef 2 m_Ltaken (fCons (fVar 0) (fCons (fC (.int 4)) fNil))) fNil))) [6]) fNil))))) (sRet (fTup (fCons (fC (.str "table")) (fCons (fCall tupleP (fCons (fVar 5) fNil)) fNil)))))))))))
def m_Lobject : List Vl → M Vl := mDef 7 b_Lobject
abbrev s_Lcalls : Stmt := top 65
theorem sc_Lcalls : FnScope ["thing", "name", "words", "word", "more", "found", "one", "low", "high", "other", "k"] ["thing"] (defScope s_Lcalls) := ⟨rfl, rfl, rfl, by decide +kernel, rfl, by decide +kernel, by decide +kernel⟩
def b_Lcalls : SM := (sSeq (sSet 1 (fOp ixP (fVar 0) (fC (.int 0)))) (sSeq (sIf (fB (fOp eqP (fVar 1) (fC (.str "bank")))) (sSeq (sSet 5 (fComp (fRange rng1P (fCons (fCall lenP (fCons (fOp ixP (fVar 0) (fC (.int 1))) fNil)) fNil)) (gN 10) fYes (fTup (fCons (fC (.str "look")) (fCons (fVar 10) fNil))) [10])) (sSeq (sFor (fRange rng1P (fCons (fCall lenP (fCons (fOp ixP (fVar 0) (fC (.int 1))) fNil)) fNil)) (gN 6) (sFor (fRange rng1P (fCons (fCall lenP (fCons (fOp ixP (fVar 0) (fC (.int 1))) fNil)) fNil)) (gN 9) (sIf (fB (fOp neP (fVar 6) (fVar 9))) (sSet 5 (fOp addP (fVar 5) (fComp (fItems (fLst (fCons (fC (.int 1)) (fCons (fC (.int 2)) (fCons (fC (.int 3)) fNil))))) (gN 10) fYes (fTup (fCons (fC (.str "move")) (fCons (fVar 6) (fCons (fVar 9) (fCons (fVar 10) fNil))))) [10]))) sPass))) (sRet (fCall sortedP (fCons (fVar 5) fNil))))) sPass) (sSeq (sIf (fB (fOp eqP (fVar 1) (fC (.str "table")))) (sRet (fComp (fRange rng1P (fCons (fCall lenP (fCons (fOp ixP (fOp ixP (fVar 0) (fC (.int 1))) (fC (.int 0))) fNil)) fNil)) (gN 10) fYes (fTup (fCons (fC (.str "do")) (fCons (fVar 10) fNil))) [10])) sPass) (sSeq (sSet 2 (fDGet (fDisp [((fC (.str "counter")), (fLst (fCons (fC (.str "add")) fNil))), ((fC (.str "register")), (fLst (fCons (fC (.str "put")) (fCons (fC (.str "trade")) fNil)))), ((fC (.str "stack")), (fLst (fCons (fC (.str "push")) fNil))), ((fC (.str "queue")), (fLst (fCons (fC (.str "enter")) fNil))), ((fC (.str "set")), (fLst (fCons (fC (.str "add")) (fCons (fC (.str "drop")) (fCons (fC (.str "has")) fNil))))), ((fC (.str "agree")), (fLst (fCons (fC (.str "decide")) fNil)))]) (fVar 1))) (sSeq (sPar3 7 8 5 (fCons (fCall intP (fCons (fOp eqP (fVar 1) (fC (.str "counter"))) fNil)) (fCons (fOp ixP (fVar 0) (fUn negP (fC (.int 1)))) (fCons (fLst fNil) fNil)))) (sSeq (sFor (fItems (fVar 2)) (gN 3) (sSet 5 (fOp addP (fVar 5) (fComp (fRange rng2P (fCons (fVar 7) (fCons (fVar 8) fNil))) (gN 10) fYes (fTup (fCons (fVar 3) (fCons (fVar 10) fNil))) [10])))) (sSeq (sSet 4 (fDisp [((fC (.str "counter")), (fLst (fCons (fTup (fCons (fC (.str "look")) fNil)) fNil))), ((fC (.str "register")), (fLst (fCons (fTup (fCons (fC (.str "look")) fNil)) fNil))), ((fC (.str "stack")), (fLst (fCons (fTup (fCons (fC (.str "pop")) fNil)) fNil))), ((fC (.str "queue")), (fLst (fCons (fTup (fCons (fC (.str "leave")) fNil)) fNil)))])) (sRet (fCall sortedP (fCons (fOp addP (fVar 5) (fDGet2 (fVar 4) (fVar 1) (fLst fNil))) fNil))))))))))
def m_Lcalls : List Vl → M Vl := mDef 11 b_Lcalls
abbrev s_Lfirst : Stmt := top 66
theorem sc_Lfirst : FnScope ["thing"] ["thing"] (defScope s_Lfirst) := ⟨rfl, rfl, rfl, by decide +kernel, rfl, by decide +kernel, by decide +kernel⟩
def b_Lfirst : SM := (sSeq (sIf (fB (fOp (inP false) (fOp ixP (fVar 0) (fC (.int 0))) (fLst (fCons (fC (.str "stack")) (fCons (fC (.str "queue")) (fCons (fC (.str "set")) fNil)))))) (sRet (fTup fNil)) sPass) (sRet (fIte (fB (fOp eqP (fOp ixP (fVar 0) (fC (.int 0))) (fC (.str "bank")))) (fOp ixP (fVar 0) (fC (.int 1))) (fIte (fB (fOp eqP (fOp ixP (fVar 0) (fC (.int 0))) (fC (.str "agree")))) (fC .none) (fC (.int 0))))))
def m_Lfirst : List Vl → M Vl := mDef 1 b_Lfirst
abbrev s_Ldo : Stmt := top 67
theorem sc_Ldo : FnScope ["thing", "state", "call", "name", "word", "left", "one", "k"] ["thing", "state", "call"] (defScope s_Ldo) := ⟨rfl, rfl, rfl, by decide +kernel, rfl, by decide +kernel, by decide +kernel⟩
def b_Ldo : SM := (sSeq (sPar 3 4 (fCons (fOp ixP (fVar 0) (fC (.int 0))) (fCons (fOp ixP (fVar 2) (fC (.int 0))) fNil))) (sSeq (sIf (fB (fOp eqP (fVar 3) (fC (.str "table")))) (sRet (fOp ixP (fOp ixP (fOp ixP (fVar 0) (fC (.int 1))) (fVar 1)) (fOp ixP (fVar 2) (fC (.int 1))))) sPass) (sSeq (sIf (fB (fOp eqP (fVar 4) (fC (.str "look")))) (sRet (fTup (fCons (fVar 1) (fCons (fIte (fB (fOp eqP (fVar 3) (fC (.str "bank")))) (fOp ixP (fVar 1) (fOp ixP (fVar 2) (fC (.int 1)))) (fVar 1)) fNil)))) sPass) (sSeq (sIf (fB (fOp eqP (fVar 3) (fC (.str "counter")))) (sRet (fTup (fCons (fOp modP (fCall intP (fCons (fOp addP (fVar 1) (fOp ixP (fVar 2) (fC (.int 1)))) fNil)) (fOp ixP (fVar 0) (fC (.int 1)))) (fCons (fVar 1) fNil)))) sPass) (sSeq (sIf (fB (fOp eqP (fVar 3) (fC (.str "register")))) (sRet (fTup (fCons (fOp ixP (fVar 2) (fC (.int 1))) (fCons (fIte (fB (fOp eqP (fVar 4) (fC (.str "put")))) (fC .none) (fVar 1)) fNil)))) sPass) (sSeq (sIf (fB (fOp eqP (fVar 3) (fC (.str "agree")))) (sRet (fIte (fB (fOp isNotP (fVar 1) (fC .none))) (fTup (fCons (fVar 1) (fCons (fVar 1) fNil))) (fTup (fCons (fOp ixP (fVar 2) (fC (.int 1))) (fCons (fOp ixP (fVar 2) (fC (.int 1))) fNil))))) sPass) (sSeq (sIf (fB (fOp eqP (fVar 3) (fC (.str "set")))) (sSeq (sSet 5 (fComp (fItems (fVar 1)) (gN 6) (fB (fOp neP (fVar 6) (fOp ixP (fVar 2) (fC (.int 1))))) (fVar 6) [6])) (sRet (fTup (fCons (fIte (fB (fOp eqP (fVar 4) (fC (.str "has")))) (fVar 1) (fCall tupleP (fCons (fCall sortedP (fCons (fOp addP (fVar 5) (fIte (fB (fOp eqP (fVar 4) (fC (.str "add")))) (fLst (fCons (fOp ixP (fVar 2) (fC (.int 1))) fNil)) (fLst fNil))) fNil)) fNil))) (fCons (fOp neP (fOp (inP false) (fOp ixP (fVar 2) (fC (.int 1))) (fVar 1)) (fOp eqP (fVar 4) (fC (.str "add")))) fNil))))) sPass) (sSeq (sIf (fB (fOp eqP (fVar 3) (fC (.str "bank")))) (sSeq (sIf (fB (fOp ltP (fOp ixP (fVar 1) (fOp ixP (fVar 2) (fC (.int 1)))) (fOp ixP (fVar 2) (fC (.int 3))))) (sRet (fTup (fCons (fVar 1) (fCons (fC (.bool false)) fNil)))) sPass) (sRet (fTup (fCons (fCall tupleP (fCons (fComp (fRange rng1P (fCons (fCall lenP (fCons (fVar 1) fNil)) fNil)) (gN 7) fYes (fOp addP (fOp subP (fOp ixP (fVar 1) (fVar 7)) (fOp mulP (fOp ixP (fVar 2) (fC (.int 3))) (fCall intP (fCons (fOp eqP (fVar 7) (fOp ixP (fVar 2) (fC (.int 1)))) fNil)))) (fOp mulP (fOp ixP (fVar 2) (fC (.int 3))) (fCall intP (fCons (fOp eqP (fVar 7) (fOp ixP (fVar 2) (fC (.int 2)))) fNil)))) [7]) fNil)) (fCons (fC (.bool true)) fNil))))) sPass) (sSeq (sIf (fB (fOp (inP false) (fVar 4) (fLst (fCons (fC (.str "push")) (fCons (fC (.str "enter")) fNil))))) (sRet (fIte (fB (fOp ltP (fCall lenP (fCons (fVar 1) fNil)) (fOp ixP (fVar 0) (fC (.int 1))))) (fTup (fCons (fOp addP (fVar 1) (fTup (fCons (fOp ixP (fVar 2) (fC (.int 1))) fNil))) (fCons (fC (.bool true)) fNil))) (fTup (fCons (fVar 1) (fCons (fC (.bool false)) fNil))))) sPass) (sSeq (sIf (fB (fOp eqP (fVar 1) (fTup fNil))) (sRet (fTup (fCons (fVar 1) (fCons (fC .none) fNil)))) sPass) (sRet (fIte (fB (fOp eqP (fVar 4) (fC (.str "pop")))) (fTup (fCons (fSl (fVar 1) oN (oI (fUn negP (fC (.int 1))))) (fCons (fOp ixP (fVar 1) (fUn negP (fC (.int 1)))) fNil))) (fTup (fCons (fSl (fVar 1) (oI (fC (.int 1))) oN) (fCons (fOp ixP (fVar 1) (fC (.int 0))) fNil)))))))))))))))
def m_Ldo : List Vl → M Vl := mDef 8 b_Ldo
abbrev s_Lstates : Stmt := top 68
theorem sc_Lstates : FnScope ["thing", "found", "at", "call", "there"] ["thing"] (defScope s_Lstates) := ⟨rfl, rfl, rfl, by decide +kernel, rfl, by decide +kernel, by decide +kernel⟩
def b_Lstates : SM := (sSeq (sPar 1 2 (fCons (fMut (fCons (fDef 1 m_Lfirst (fCons (fVar 0) fNil)) fNil)) (fCons (fC (.int 0)) fNil))) (sSeq (sWhile (fB (fOp ltP (fVar 2) (fCall lenP (fCons (fVar 1) fNil)))) (sSeq (sFor (fItems (fDef 1 m_Lcalls (fCons (fVar 0) fNil))) (gN 3) (sSeq (sSet 4 (fOp ixP (fDef 3 m_Ldo (fCons (fVar 0) (fCons (fOp ixP (fVar 1) (fVar 2)) (fCons (fVar 3) fNil)))) (fC (.int 0)))) (sIf (fB (fOp (inP true) (fVar 4) (fVar 1))) (sExpr (fAppend (fVar 1) (fVar 4))) sPass))) (sSet 2 (fOp addP (fVar 2) (fC (.int 1))))) 100000) (sRet (fVar 1))))
def m_Lstates : List Vl → M Vl := mDef 5 b_Lstates
abbrev s_Lsmall : Stmt := top 69
theorem sc_Lsmall : FnScope ["row", "most", "turn", "thing"] ["row", "most"] (defScope s_Lsmall) := ⟨rfl, rfl, rfl, by decide +kernel, rfl, by decide +kernel, by decide +kernel⟩
def b_Lsmall : SM := (sSeq (sFor (fRange rng1P (fCons (fC (.int 6)) fNil)) (gN 2) (sSeq (sSet 3 (fDef 1 m_Lobject (fCons (fVar 0) fNil))) (sIf (fB (fOp leP (fCall lenP (fCons (fDef 1 m_Lstates (fCons (fVar 3) fNil)) fNil)) (fVar 1))) (sRet (fVar 3)) sPass))) (sRet (fTup (fCons (fC (.str "counter")) (fCons (fC (.int 2)) fNil)))))
def m_Lsmall : List Vl → M Vl := mDef 4 b_Lsmall
abbrev s_Lis_number : Stmt := top 70
theorem sc_Lis_number : FnScope ["value", "low", "high"] ["value", "low", "high"] (defScope s_Lis_number) := ⟨rfl, rfl, rfl, by decide +kernel, rfl, by decide +kernel, by decide +kernel⟩
def b_Lis_number : SM := (sRet (fAndV (fUn (isiP .int) (fVar 0)) (fAndV (fNotV (fUn (isiP .bool) (fVar 0))) (fChain leP leP (fVar 1) (fVar 0) (fVar 2)))))
def m_Lis_number : List Vl → M Vl := mDef 3 b_Lis_number
abbrev s_Lis_rows : Stmt := top 71
theorem sc_Lis_rows : FnScope ["value", "line", "one"] ["value"] (defScope s_Lis_rows) := ⟨rfl, rfl, rfl, by decide +kernel, rfl, by decide +kernel, by decide +kernel⟩
def b_Lis_rows : SM := (sSeq (sIf (fOr (fNot (fB (fUn (isiP .tup) (fVar 0)))) (fOr (fNot (fB (fChain leP leP (fC (.int 1)) (fCall lenP (fCons (fVar 0) fNil)) (fC (.int 6))))) (fB (fOp neP (fComp (fItems (fVar 0)) (gN 2) (fNot (fB (fUn (isiP .tup) (fVar 2)))) (fVar 2) [2]) (fLst fNil))))) (sRet (fC (.bool false))) sPass) (sSeq (sIf (fOr (fNot (fB (fChain leP leP (fC (.int 1)) (fCall lenP (fCons (fOp ixP (fVar 0) (fC (.int 0))) fNil)) (fC (.int 4))))) (fB (fOp neP (fComp (fItems (fVar 0)) (gN 2) (fB (fOp neP (fCall lenP (fCons (fVar 2) fNil)) (fCall lenP (fCons (fOp ixP (fVar 0) (fC (.int 0))) fNil)))) (fVar 2) [2]) (fLst fNil)))) (sRet (fC (.bool false))) sPass) (sSeq (sFor (fItems (fVar 0)) (gN 1) (sFor (fItems (fVar 1)) (gN 2) (sIf (fOr (fNot (fB (fUn (isiP .tup) (fVar 2)))) (fOr (fB (fOp neP (fCall lenP (fCons (fVar 2) fNil)) (fC (.int 2)))) (fOr (fNot (fB (fDef 3 m_Lis_number (fCons (fOp ixP (fVar 2) (fC (.int 0))) (fCons (fC (.int 0)) (fCons (fOp subP (fCall lenP (fCons (fVar 0) fNil)) (fC (.int 1))) fNil)))))) (fNot (fB (fDef 3 m_Lis_number (fCons (fOp ixP (fVar 2) (fC (.int 1))) (fCons (fC (.int 0)) (fCons (fC (.int 9)) fNil))))))))) (sRet (fC (.bool false))) sPass))) (sRet (fC (.bool true))))))
def m_Lis_rows : List Vl → M Vl := mDef 3 b_Lis_rows
abbrev s_Lis_object : Stmt := top 72
theorem sc_Lis_object : FnScope ["value", "good", "one"] ["value"] (defScope s_Lis_object) := ⟨rfl, rfl, rfl, by decide +kernel, rfl, by decide +kernel, by decide +kernel⟩
def b_Lis_object : SM := (sSeq (sIf (fOr (fNot (fB (fUn (isiP .tup) (fVar 0)))) (fOr (fB (fOp (inP true) (fCall lenP (fCons (fVar 0) fNil)) (fLst (fCons (fC (.int 2)) (fCons (fC (.int 3)) fNil))))) (fNot (fB (fUn (isiP .str) (fOp ixP (fVar 0) (fC (.int 0)))))))) (sRet (fC (.bool false))) sPass) (sSeq (sIf (fB (fOp (inP false) (fOp ixP (fVar 0) (fC (.int 0))) (fLst (fCons (fC (.str "counter")) (fCons (fC (.str "register")) (fCons (fC (.str "set")) (fCons (fC (.str "agree")) fNil))))))) (sRet (fAndV (fOp eqP (fCall lenP (fCons (fVar 0) fNil)) (fC (.int 2))) (fDef 3 m_Lis_number (fCons (fOp ixP (fVar 0) (fC (.int 1))) (fCons (fC (.int 2)) (fCons (fC (.int 5)) fNil)))))) sPass) (sSeq (sIf (fB (fOp (inP false) (fOp ixP (fVar 0) (fC (.int 0))) (fLst (fCons (fC (.str "stack")) (fCons (fC (.str "queue")) fNil))))) (sRet (fAndV (fOp eqP (fCall lenP (fCons (fVar 0) fNil)) (fC (.int 3))) (fAndV (fDef 3 m_Lis_number (fCons (fOp ixP (fVar 0) (fC (.int 1))) (fCons (fC (.int 1)) (fCons (fC (.int 3)) fNil)))) (fDef 3 m_Lis_number (fCons (fOp ixP (fVar 0) (fC (.int 2))) (fCons (fC (.int 1)) (fCons (fC (.int 3)) fNil))))))) sPass) (sSeq (sIf (fB (fOp eqP (fOp ixP (fVar 0) (fC (.int 0))) (fC (.str "bank")))) (sSeq (sSet 1 (fAndV (fOp eqP (fCall lenP (fCons (fVar 0) fNil)) (fC (.int 2))) (fAndV (fUn (isiP .tup) (fOp ixP (fVar 0) (fC (.int 1)))) (fOp (inP false) (fCall lenP (fCons (fOp ixP (fVar 0) (fC (.int 1))) fNil)) (fLst (fCons (fC (.int 2)) (fCons (fC (.int 3)) fNil))))))) (sRet (fAndV (fVar 1) (fOp eqP (fComp (fItems (fOp ixP (fVar 0) (fC (.int 1)))) (gN 2) (fNot (fB (fDef 3 m_Lis_number (fCons (fVar 2) (fCons (fC (.int 0)) (fCons (fC (.int 5)) fNil)))))) (fVar 2) [2]) (fLst fNil))))) sPass) (sRet (fAndV (fOp eqP (fOp ixP (fVar 0) (fC (.int 0))) (fC (.str "table"))) (fAndV (fOp eqP (fCall lenP (fCons (fVar 0) fNil)) (fC (.int 2))) (fDef 1 m_Lis_rows (fCons (fOp ixP (fVar 0) (fC (.int 1))) fNil)))))))))
def m_Lis_object : List Vl → M Vl := mDef 3 b_Lis_object
abbrev s_Lbent : Stmt := top 73
theorem sc_Lbent : FnScope ["row", "thing", "found", "turn"] ["row", "thing"] (defScope s_Lbent) := ⟨rfl, rfl, rfl, by decide +kernel, rfl, by decide +kernel, by decide +kernel⟩
def b_Lbent : SM := (sSeq (sSet 2 (fLst (fCons (fVar 1) (fCons (fCall listP (fCons (fVar 1) fNil)) (fCons (fOp addP (fVar 1) (fTup (fCons (fC (.int 1)) fNil))) (fCons (fSl (fVar 1) oN (oI (fC (.int 1)))) (fCons (fTup (fCons (fOp ixP (fVar 1) (fC (.int 0))) (fCons (fC (.bool true)) fNil))) (fCons (fTup (fCons (fOp ixP (fVar 1) (fC (.int 0))) (fCons (fC (.int 6)) fNil))) (fCons (fTup (fCons (fOp ixP (fVar 1) (fC (.int 0))) (fCons (fC (.int 1)) fNil))) (fCons (fTup (fCons (fOp ixP (fVar 1) (fC (.int 0))) (fCons (fC (.int 2)) fNil))) (fCons (fTup (fCons (fOp ixP (fVar 1) (fC (.int 0))) (fCons (fC (.int 3)) (fCons (fC (.int 3)) fNil)))) (fCons (fTup (fCons (fOp ixP (fVar 1) (fC (.int 0))) (fCons (fC (.int 2)) (fCons (fC (.int 4)) fNil)))) fNil)))))))))))) (sSeq (sSet 2 (fOp addP (fVar 2) (fLst (fCons (fTup (fCons (fOp ixP (fVar 1) (fC (.int 0))) (fCons (fTup (fCons (fC (.int 1)) (fCons (fC (.int 2)) fNil))) fNil))) (fCons (fTup (fCons (fOp ixP (fVar 1) (fC (.int 0))) (fCons (fTup (fCons (fC (.int 1)) fNil)) fNil))) (fCons (fTup (fCons (fOp ixP (fVar 1) (fC (.int 0))) (fCons (fTup (fCons (fC (.int 6)) (fCons (fC (.int 1)) fNil))) fNil))) (fCons (fTup (fCons (fOp ixP (fVar 1) (fC (.int 0))) (fCons (fTup (fCons (fTup (fCons (fC (.int 0)) (fCons (fC (.int 1)) fNil))) fNil)) fNil))) (fCons (fTup (fCons (fOp ixP (fVar 1) (fC (.int 0))) (fCons (fTup (fCons (fTup (fCons (fTup (fCons (fC (.int 0)) (fCons (fC (.int 1)) fNil))) fNil)) fNil)) fNil))) (fCons (fTup (fCons (fOp ixP (fVar 1) (fC (.int 0))) (fCons (fTup (fCons (fTup (fCons (fTup (fCons (fC (.int 1)) (fCons (fC (.int 1)) fNil))) fNil)) fNil)) fNil))) (fCons (fTup (fCons (fOp ixP (fVar 1) (fC (.int 0))) (fCons (fTup (fCons (fTup (fCons (fTup (fCons (fC (.int 0)) (fCons (fC (.int 10)) fNil))) fNil)) fNil)) fNil))) fNil)))))))))) (sSeq (sSet 2 (fOp addP (fVar 2) (fLst (fCons (fTup (fCons (fOp ixP (fVar 1) (fC (.int 0))) (fCons (fTup (fCons (fTup (fCons (fTup (fCons (fC (.int 0)) (fCons (fC (.int 1)) fNil))) fNil)) (fCons (fTup (fCons (fTup (fCons (fC (.int 1)) (fCons (fC (.int 0)) fNil))) (fCons (fTup (fCons (fC (.int 0)) (fCons (fC (.int 0)) fNil))) fNil))) fNil))) fNil))) (fCons (fTup (fCons (fC (.str "heap")) (fCons (fC (.int 2)) fNil))) (fCons (fC .none) (fCons (fC (.int 3)) (fCons (fTup fNil) (fCons (fC (.str "counter")) (fCons (fTup (fCons (fC (.int 1)) (fCons (fC (.int 2)) fNil))) (fCons (fTup (fCons (fOp ixP (fVar 1) (fC (.int 0))) (fCons (fTup (fCons (fTup (fCons (fTup (fCons (fC (.int 0)) (fCons (fC (.bool true)) fNil))) fNil)) fNil)) fNil))) (fCons (fTup (fCons (fOp ixP (fVar 1) (fC (.int 0))) (fCons (fTup fNil) fNil))) (fCons (fTup (fCons (fOp ixP (fVar 1) (fC (.int 0))) (fCons (fTup (fCons (fTup fNil) fNil)) fNil))) fNil))))))))))))) (sRet (fComp (fRange rng1P (fCons (fC (.int 6)) fNil)) (gN 3) fYes (fDef 2 m_Lpick (fCons (fVar 0) (fCons (fVar 2) fNil))) [3])))))
def m_Lbent : List Vl → M Vl := mDef 4 b_Lbent
structure Txt (K : PySem.W.Frag) (mg : Str → Option Value) (w : World) : Prop where
  n_all : mg "all" = none
  n_any : mg "any" = none
  n_bool : mg "bool" = none
  n_int : mg "int" = none
  n_isinstance : mg "isinstance" = none
  n_len : mg "len" = none
  n_list : mg "list" = none
  n_range : mg "range" = none
  n_sorted : mg "sorted" = none
  n_str : mg "str" = none
  n_sum : mg "sum" = none
  n_tuple : mg "tuple" = none
  n_zip : mg "zip" = none
  t_FORMS : Tab K w mg "_FORMS" tab_FORMS
  t_CALLS : Tab K w mg "_CALLS" tab_CALLS
  t_STEPS : Tab K w mg "_STEPS" tab_STEPS
  e_SharedError : Exo K mg "SharedError"
  e_BadObject : Exo K mg "BadObject"
  e_BadCall : Exo K mg "BadCall"
  e_BadState : Exo K mg "BadState"
  d_is_integer : DefAt K mg "is_integer" s_is_integer ["value"]
  d_is_within : DefAt K mg "is_within" s_is_within ["value", "low", "high"]
  d_are_within : DefAt K mg "are_within" s_are_within ["value", "low", "high"]
  d_same : DefAt K mg "same" s_same ["one", "other"]
  d_has_size : DefAt K mg "_has_size" s_has_size ["value"]
  d_has_room_and_size : DefAt K mg "_has_room_and_size" s_has_room_and_size ["value"]
  d_has_amounts : DefAt K mg "_has_amounts" s_has_amounts ["value"]
  d_is_pair : DefAt K mg "_is_pair" s_is_pair ["value", "many"]
  d_is_row : DefAt K mg "_is_row" s_is_row ["value", "many"]
  d_has_rows : DefAt K mg "_has_rows" s_has_rows ["value"]
  d_has_form : DefAt K mg "has_form" s_has_form ["value"]
  d_counter_calls : DefAt K mg "_counter_calls" s_counter_calls ["thing"]
  d_counter_step : DefAt K mg "_counter_step" s_counter_step ["thing", "state", "call"]
  d_register_calls : DefAt K mg "_register_calls" s_register_calls ["thing"]
  d_register_step : DefAt K mg "_register_step" s_register_step ["thing", "state", "call"]
  d_stack_calls : DefAt K mg "_stack_calls" s_stack_calls ["thing"]
  d_put_at_end : DefAt K mg "_put_at_end" s_put_at_end ["thing", "state", "k"]
  d_stack_step : DefAt K mg "_stack_step" s_stack_step ["thing", "state", "call"]
  d_queue_calls : DefAt K mg "_queue_calls" s_queue_calls ["thing"]
  d_queue_step : DefAt K mg "_queue_step" s_queue_step ["thing", "state", "call"]
  d_set_calls : DefAt K mg "_set_calls" s_set_calls ["thing"]
  d_set_step : DefAt K mg "_set_step" s_set_step ["thing", "state", "call"]
  d_agree_calls : DefAt K mg "_agree_calls" s_agree_calls ["thing"]
  d_agree_step : DefAt K mg "_agree_step" s_agree_step ["thing", "state", "call"]
  d_bank_calls : DefAt K mg "_bank_calls" s_bank_calls ["thing"]
  d_bank_step : DefAt K mg "_bank_step" s_bank_step ["thing", "state", "call"]
  d_table_calls : DefAt K mg "_table_calls" s_table_calls ["thing"]
  d_table_step : DefAt K mg "_table_step" s_table_step ["thing", "state", "call"]
  d_call_rows : DefAt K mg "call_rows" s_call_rows ["thing"]
  d_step : DefAt K mg "step" s_step ["thing", "state", "call"]
  d_start : DefAt K mg "start" s_start ["thing"]
  d_reached : DefAt K mg "reached" s_reached ["thing"]
  d_run : DefAt K mg "run" s_run ["thing", "row"]
  d_has_call : DefAt K mg "has_call" s_has_call ["thing", "value"]
  d_is_ascending : DefAt K mg "_is_ascending" s_is_ascending ["row"]
  d_has_state : DefAt K mg "has_state" s_has_state ["thing", "value"]
  d_check_object : DefAt K mg "check_object" s_check_object ["value"]
  d_check_call : DefAt K mg "check_call" s_check_call ["thing", "value"]
  d_check_calls : DefAt K mg "check_calls" s_check_calls ["thing", "value"]
  d_check_state : DefAt K mg "check_state" s_check_state ["thing", "value"]
  d_is_object : DefAt K mg "is_object" s_is_object ["value"]
  d_calls : DefAt K mg "calls" s_calls ["thing"]
  d_is_call : DefAt K mg "is_call" s_is_call ["thing", "value"]
  d_first_state : DefAt K mg "first_state" s_first_state ["thing"]
  d_states : DefAt K mg "states" s_states ["thing"]
  d_applied : DefAt K mg "applied" s_applied ["thing", "state", "call"]
  d_replayed : DefAt K mg "replayed" s_replayed ["thing", "row"]
  d_Ltaken : DefAt K mg "_law_taken" s_Ltaken ["row", "many"]
  d_Lpick : DefAt K mg "_law_pick" s_Lpick ["row", "things"]
  d_Lalike : DefAt K mg "_law_alike" s_Lalike ["found", "due"]
  d_Lobject : DefAt K mg "_law_object" s_Lobject ["row"]
  d_Lcalls : DefAt K mg "_law_calls" s_Lcalls ["thing"]
  d_Lfirst : DefAt K mg "_law_first" s_Lfirst ["thing"]
  d_Ldo : DefAt K mg "_law_do" s_Ldo ["thing", "state", "call"]
  d_Lstates : DefAt K mg "_law_states" s_Lstates ["thing"]
  d_Lsmall : DefAt K mg "_law_small" s_Lsmall ["row", "most"]
  d_Lis_number : DefAt K mg "_law_is_number" s_Lis_number ["value", "low", "high"]
  d_Lis_rows : DefAt K mg "_law_is_rows" s_Lis_rows ["value"]
  d_Lis_object : DefAt K mg "_law_is_object" s_Lis_object ["value"]
  d_Lbent : DefAt K mg "_law_bent" s_Lbent ["row", "thing"]
theorem ok_is_integer {P : Program} {w : World} {K : PySem.W.Frag} {mg : Str → Option Value} {base : Heap} (T : Txt K mg w) : Has P w K mg base 1 "is_integer" 1 m_is_integer := has_of (N := ["value"]) (ps := ["value"]) (k := 0) T.d_is_integer sc_is_integer fun f cdv A outer s H E hr => (qss_one (qs_ret (qe_and (qe_isi .int (qe_var 0) rfl T.n_isinstance rfl T.n_int PyProof.Rows.boot_int (by decide) (by decide)) (qe_one (qe_not (qe_isi .bool (qe_var 0) rfl T.n_isinstance rfl T.n_bool PyProof.Rows.boot_bool (by decide) (by decide)))))))
theorem ok_is_within {P : Program} {w : World} {K : PySem.W.Frag} {mg : Str → Option Value} {base : Heap} (T : Txt K mg w) : Has P w K mg base 2 "is_within" 3 m_is_within := has_of (N := ["value", "low", "high"]) (ps := ["value", "low", "high"]) (k := 1) T.d_is_within sc_is_within fun f cdv A outer s H E hr => (qss_one (qs_ret (qe_and (qe_call (ok_is_integer T) (hr.mono (by decide)) (takes_of rfl rfl rfl rfl) rfl (qa_cons (qe_var 0) qa_nil)) (qe_one (qe_chain q_le q_le (qe_var 1) (qe_var 0) (qe_var 2))))))
theorem ok_are_within {P : Program} {w : World} {K : PySem.W.Frag} {mg : Str → Option Value} {base : Heap} (T : Txt K mg w) : Has P w K mg base 3 "are_within" 3 m_are_within := has_of (N := ["value", "low", "high", "part"]) (ps := ["value", "low", "high"]) (k := 2) T.d_are_within sc_are_within fun f cdv A outer s H E hr => (qss_one (qs_ret (qe_and (qe_isi .tup (qe_var 0) rfl T.n_isinstance rfl T.n_tuple PyProof.Rows.boot_tuple (by decide) (by decide)) (qe_one (qe_callB (q_all rfl) rfl T.n_all boot_all (qa_cons (qe_comp (own := [("part", 3)]) rfl sc_are_within.nd (qi_sq (qe_var 0)) (blkOk_by (N := ["value", "low", "high", "part"]) (sc := defScope s_are_within) (own := [("part", 3)]) (by decide +kernel)) (fun _ _ _ _ _ => (qg_name 3 sc_are_within.nd)) (fun _ _ _ _ _ => qts_nil) (fun _ _ _ _ _ => (qe_call (ok_is_within T) (hr.mono (by decide)) takes0 rfl (qa_cons (qe_var 3) (qa_cons (qe_var 1) (qa_cons (qe_var 2) qa_nil)))))) qa_nil))))))
theorem okr_same {P : Program} {w : World} {K : PySem.W.Frag} {mg : Str → Option Value} {base : Heap} (T : Txt K mg w) : ∀ n : Nat, Has P w K mg base (1 + n) "same" 2 (m_same n)
  | 0 => has_fail T.d_same
  | n + 1 => has_of (N := ["one", "other", "left", "right"]) (ps := ["one", "other"]) (k := 1 + n) T.d_same sc_same fun f cdv A outer s H E hr => have hself := okr_same T n; (qss_cons (qs_if (qt_val (qe_isi .tup (qe_var 0) rfl T.n_isinstance rfl T.n_tuple PyProof.Rows.boot_tuple (by decide) (by decide))) (qss_cons (qs_if (QW.qt (qw_or (qt_not (qt_val (qe_isi .tup (qe_var 1) rfl T.n_isinstance rfl T.n_tuple PyProof.Rows.boot_tuple (by decide) (by decide)))) (qw_or1 (qt_cmp (q_ne (hu64 hr)).op (qe_callB q_len rfl T.n_len PySem.boot_len (qa_cons (qe_var 0) qa_nil)) (qe_callB q_len rfl T.n_len PySem.boot_len (qa_cons (qe_var 1) qa_nil)))))) (qss_one (qs_ret qe_bl)) qss_nil) (qss_one (qs_ret (qe_callB (q_all rfl) rfl T.n_all boot_all (qa_cons (qe_comp (own := [("left", 2), ("right", 3)]) rfl sc_same.nd (qi_zip rfl T.n_zip (qa_cons (qe_var 0) (qa_cons (qe_var 1) qa_nil))) (blkOk_by (N := ["one", "other", "left", "right"]) (sc := defScope s_same) (own := [("left", 2), ("right", 3)]) (by decide +kernel)) (fun _ _ _ _ _ => (qg_tup rfl (qgs_cons (qg_name 2 sc_same.nd) (qgs_cons (qg_name 3 sc_same.nd) qgs_nil)))) (fun _ _ _ _ _ => qts_nil) (fun _ _ _ _ _ => (qe_call hself (hr.mono (by omega)) takes0 rfl (qa_cons (qe_var 2) (qa_cons (qe_var 3) qa_nil))))) qa_nil))))) qss_nil) (qss_cons (qs_if (qt_cmp q_is.op (qe_var 0) qe_non) (qss_one (qs_ret (qe_cmp q_is.op (qe_var 1) qe_non))) qss_nil) (qss_cons (qs_if (qt_val (qe_isi .bool (qe_var 0) rfl T.n_isinstance rfl T.n_bool PyProof.Rows.boot_bool (by decide) (by decide))) (qss_one (qs_ret (qe_and (qe_isi .bool (qe_var 1) rfl T.n_isinstance rfl T.n_bool PyProof.Rows.boot_bool (by decide) (by decide)) (qe_one (qe_cmp (q_eq (hu64 hr)).op (qe_var 0) (qe_var 1)))))) qss_nil) (qss_cons (qs_if (qt_val (qe_isi .int (qe_var 0) rfl T.n_isinstance rfl T.n_int PyProof.Rows.boot_int (by decide) (by decide))) (qss_one (qs_ret (qe_and (qe_call (ok_is_integer T) (hr.mono (by omega)) (takes_of rfl rfl rfl rfl) rfl (qa_cons (qe_var 1) qa_nil)) (qe_one (qe_cmp (q_eq (hu64 hr)).op (qe_var 0) (qe_var 1)))))) qss_nil) (qss_one (qs_ret (qe_and (qe_isi .str (qe_var 0) rfl T.n_isinstance rfl T.n_str PyProof.Rows.boot_str (by decide) (by decide)) (qe_and (qe_isi .str (qe_var 1) rfl T.n_isinstance rfl T.n_str PyProof.Rows.boot_str (by decide) (by decide)) (qe_one (qe_cmp (q_eq (hu64 hr)).op (qe_var 0) (qe_var 1)))))))))))
theorem ok_same {P : Program} {w : World} {K : PySem.W.Frag} {mg : Str → Option Value} {base : Heap} (T : Txt K mg w) : Has P w K mg base 13 "same" 2 (m_same 12) := okr_same T 12
theorem ok_has_size {P : Program} {w : World} {K : PySem.W.Frag} {mg : Str → Option Value} {base : Heap} (T : Txt K mg w) : Has P w K mg base 3 "_has_size" 1 m_has_size := has_of (N := ["value"]) (ps := ["value"]) (k := 2) T.d_has_size sc_has_size fun f cdv A outer s H E hr => (qss_one (qs_ret (qe_and (qe_cmp (q_eq (hu64 hr)).op (qe_callB q_len rfl T.n_len PySem.boot_len (qa_cons (qe_var 0) qa_nil)) qe_int) (qe_one (qe_call (ok_is_within T) (hr.mono (by decide)) (takes_of rfl rfl rfl rfl) rfl (qa_cons (qe_ix q_ix (qe_var 0) qe_int) (qa_cons qe_int (qa_cons qe_int qa_nil))))))))
theorem ok_has_room_and_size {P : Program} {w : World} {K : PySem.W.Frag} {mg : Str → Option Value} {base : Heap} (T : Txt K mg w) : Has P w K mg base 3 "_has_room_and_size" 1 m_has_room_and_size := has_of (N := ["value"]) (ps := ["value"]) (k := 2) T.d_has_room_and_size sc_has_room_and_size fun f cdv A outer s H E hr => (qss_one (qs_ret (qe_and (qe_cmp (q_eq (hu64 hr)).op (qe_callB q_len rfl T.n_len PySem.boot_len (qa_cons (qe_var 0) qa_nil)) qe_int) (qe_and (qe_call (ok_is_within T) (hr.mono (by decide)) (takes_of rfl rfl rfl rfl) rfl (qa_cons (qe_ix q_ix (qe_var 0) qe_int) (qa_cons qe_int (qa_cons qe_int qa_nil)))) (qe_one (qe_call (ok_is_within T) (hr.mono (by decide)) (takes_of rfl rfl rfl rfl) rfl (qa_cons (qe_ix q_ix (qe_var 0) qe_int) (qa_cons qe_int (qa_cons qe_int qa_nil)))))))))
theorem ok_has_amounts {P : Program} {w : World} {K : PySem.W.Frag} {mg : Str → Option Value} {base : Heap} (T : Txt K mg w) : Has P w K mg base 4 "_has_amounts" 1 m_has_amounts := has_of (N := ["value"]) (ps := ["value"]) (k := 3) T.d_has_amounts sc_has_amounts fun f cdv A outer s H E hr => (qss_one (qs_ret (qe_and (qe_cmp (q_eq (hu64 hr)).op (qe_callB q_len rfl T.n_len PySem.boot_len (qa_cons (qe_var 0) qa_nil)) qe_int) (qe_and (qe_call (ok_are_within T) (hr.mono (by decide)) (takes_of rfl rfl rfl rfl) rfl (qa_cons (qe_ix q_ix (qe_var 0) qe_int) (qa_cons qe_int (qa_cons qe_int qa_nil)))) (qe_one (qe_chain q_le q_le qe_int (qe_callB q_len rfl T.n_len PySem.boot_len (qa_cons (qe_ix q_ix (qe_var 0) qe_int) qa_nil)) qe_int))))))
theorem ok_is_pair {P : Program} {w : World} {K : PySem.W.Frag} {mg : Str → Option Value} {base : Heap} (T : Txt K mg w) : Has P w K mg base 3 "_is_pair" 2 m_is_pair := has_of (N := ["value", "many"]) (ps := ["value", "many"]) (k := 2) T.d_is_pair sc_is_pair fun f cdv A outer s H E hr => (qss_cons (qs_if (QW.qt (qw_or (qt_not (qt_val (qe_isi .tup (qe_var 0) rfl T.n_isinstance rfl T.n_tuple PyProof.Rows.boot_tuple (by decide) (by decide)))) (qw_or1 (qt_cmp (q_ne (hu64 hr)).op (qe_callB q_len rfl T.n_len PySem.boot_len (qa_cons (qe_var 0) qa_nil)) qe_int)))) (qss_one (qs_ret qe_bl)) qss_nil) (qss_one (qs_ret (qe_and (qe_call (ok_is_within T) (hr.mono (by decide)) (takes_of rfl rfl rfl rfl) rfl (qa_cons (qe_ix q_ix (qe_var 0) qe_int) (qa_cons qe_int (qa_cons (qe_op q_sub (qe_var 1) qe_int) qa_nil)))) (qe_one (qe_call (ok_is_within T) (hr.mono (by decide)) (takes_of rfl rfl rfl rfl) rfl (qa_cons (qe_ix q_ix (qe_var 0) qe_int) (qa_cons qe_int (qa_cons qe_int qa_nil)))))))))
theorem ok_is_row {P : Program} {w : World} {K : PySem.W.Frag} {mg : Str → Option Value} {base : Heap} (T : Txt K mg w) : Has P w K mg base 4 "_is_row" 2 m_is_row := has_of (N := ["value", "many", "pair"]) (ps := ["value", "many"]) (k := 3) T.d_is_row sc_is_row fun f cdv A outer s H E hr => (qss_cons (qs_if (QW.qt (qw_or (qt_not (qt_val (qe_isi .tup (qe_var 0) rfl T.n_isinstance rfl T.n_tuple PyProof.Rows.boot_tuple (by decide) (by decide)))) (qw_or1 (qt_not (qt_chain q_le q_le qe_int (qe_callB q_len rfl T.n_len PySem.boot_len (qa_cons (qe_var 0) qa_nil)) qe_int))))) (qss_one (qs_ret qe_bl)) qss_nil) (qss_one (qs_ret (qe_callB (q_all rfl) rfl T.n_all boot_all (qa_cons (qe_comp (own := [("pair", 2)]) rfl sc_is_row.nd (qi_sq (qe_var 0)) (blkOk_by (N := ["value", "many", "pair"]) (sc := defScope s_is_row) (own := [("pair", 2)]) (by decide +kernel)) (fun _ _ _ _ _ => (qg_name 2 sc_is_row.nd)) (fun _ _ _ _ _ => qts_nil) (fun _ _ _ _ _ => (qe_call (ok_is_pair T) (hr.mono (by decide)) takes0 rfl (qa_cons (qe_var 2) (qa_cons (qe_var 1) qa_nil))))) qa_nil)))))
theorem ok_has_rows {P : Program} {w : World} {K : PySem.W.Frag} {mg : Str → Option Value} {base : Heap} (T : Txt K mg w) : Has P w K mg base 5 "_has_rows" 1 m_has_rows := has_of (N := ["value", "rows", "row"]) (ps := ["value"]) (k := 4) T.d_has_rows sc_has_rows fun f cdv A outer s H E hr => (qss_cons (qs_if (QW.qt (qw_or (qt_cmp (q_ne (hu64 hr)).op (qe_callB q_len rfl T.n_len PySem.boot_len (qa_cons (qe_var 0) qa_nil)) qe_int) (qw_or1 (qt_not (qt_val (qe_isi .tup (qe_ix q_ix (qe_var 0) qe_int) rfl T.n_isinstance rfl T.n_tuple PyProof.Rows.boot_tuple (by decide) (by decide))))))) (qss_one (qs_ret qe_bl)) qss_nil) (qss_cons (qs_set 1 sc_has_rows.nd (qe_ix q_ix (qe_var 0) qe_int)) (qss_cons (qs_if (QW.qt (qw_or (qt_not (qt_chain q_le q_le qe_int (qe_callB q_len rfl T.n_len PySem.boot_len (qa_cons (qe_var 1) qa_nil)) qe_int)) (qw_or1 (qt_not (qt_val (qe_callB (q_all rfl) rfl T.n_all boot_all (qa_cons (qe_comp (own := [("row", 2)]) rfl sc_has_rows.nd (qi_sq (qe_var 1)) (blkOk_by (N := ["value", "rows", "row"]) (sc := defScope s_has_rows) (own := [("row", 2)]) (by decide +kernel)) (fun _ _ _ _ _ => (qg_name 2 sc_has_rows.nd)) (fun _ _ _ _ _ => qts_nil) (fun _ _ _ _ _ => (qe_call (ok_is_row T) (hr.mono (by decide)) takes0 rfl (qa_cons (qe_var 2) (qa_cons (qe_callB q_len rfl T.n_len PySem.boot_len (qa_cons (qe_var 1) qa_nil)) qa_nil))))) qa_nil))))))) (qss_one (qs_ret qe_bl)) qss_nil) (qss_one (qs_ret (qe_callB (q_all rfl) rfl T.n_all boot_all (qa_cons (qe_comp (own := [("row", 2)]) rfl sc_has_rows.nd (qi_sq (qe_var 1)) (blkOk_by (N := ["value", "rows", "row"]) (sc := defScope s_has_rows) (own := [("row", 2)]) (by decide +kernel)) (fun _ _ _ _ _ => (qg_name 2 sc_has_rows.nd)) (fun _ _ _ _ _ => qts_nil) (fun _ _ _ _ _ => (qe_cmp (q_eq (hu64 hr)).op (qe_callB q_len rfl T.n_len PySem.boot_len (qa_cons (qe_var 2) qa_nil)) (qe_callB q_len rfl T.n_len PySem.boot_len (qa_cons (qe_ix q_ix (qe_var 1) qe_int) qa_nil))))) qa_nil)))))))
theorem ok_has_form {P : Program} {w : World} {K : PySem.W.Frag} {mg : Str → Option Value} {base : Heap} (T : Txt K mg w) : Has P w K mg base 6 "has_form" 1 m_has_form := has_of (N := ["value", "form"]) (ps := ["value"]) (k := 5) T.d_has_form sc_has_form fun f cdv A outer s H E hr => (qss_cons (qs_if (QW.qt (qw_or (qt_not (qt_val (qe_isi .tup (qe_var 0) rfl T.n_isinstance rfl T.n_tuple PyProof.Rows.boot_tuple (by decide) (by decide)))) (qw_or (qt_cmp (q_eq (hu64 hr)).op (qe_callB q_len rfl T.n_len PySem.boot_len (qa_cons (qe_var 0) qa_nil)) qe_int) (qw_or1 (qt_not (qt_val (qe_isi .str (qe_ix q_ix (qe_var 0) qe_int) rfl T.n_isinstance rfl T.n_str PyProof.Rows.boot_str (by decide) (by decide)))))))) (qss_one (qs_ret qe_bl)) qss_nil) (qss_cons (qs_if (qt_inTab true T.t_FORMS rfl (qe_ix q_ix (qe_var 0) qe_int)) (qss_one (qs_ret qe_bl)) qss_nil) (qss_cons (qs_set 1 sc_has_form.nd (qe_tab T.t_FORMS rfl (qe_ix q_ix (qe_var 0) qe_int))) (qss_one (qs_ret (qe_callV 1 (vt_cons (Has.mono (ok_has_size T) (by decide)) (vt_cons (Has.mono (ok_has_room_and_size T) (by decide)) (vt_cons (Has.mono (ok_has_amounts T) (by decide)) (vt_cons (Has.mono (ok_has_rows T) (by decide)) vt_nil)))) hr (takes_of rfl rfl rfl rfl) (qa_cons (qe_var 0) qa_nil)))))))
theorem ok_counter_calls {P : Program} {w : World} {K : PySem.W.Frag} {mg : Str → Option Value} {base : Heap} (T : Txt K mg w) : Has P w K mg base 1 "_counter_calls" 1 m_counter_calls := has_of (N := ["thing", "k"]) (ps := ["thing"]) (k := 0) T.d_counter_calls sc_counter_calls fun f cdv A outer s H E hr => (qss_one (qs_ret (qe_op q_add (qe_comp (own := [("k", 1)]) rfl sc_counter_calls.nd (qi_range2 rfl T.n_range (qa_cons qe_int (qa_cons (qe_ix q_ix (qe_var 0) qe_int) qa_nil))) (blkOk_by (N := ["thing", "k"]) (sc := defScope s_counter_calls) (own := [("k", 1)]) (by decide +kernel)) (fun _ _ _ _ _ => (qg_name 1 sc_counter_calls.nd)) (fun _ _ _ _ _ => qts_nil) (fun _ _ _ _ _ => (qe_tup (qa_cons qe_str (qa_cons (qe_var 1) qa_nil))))) (qe_lst (qa_cons (qe_tup (qa_cons qe_str qa_nil)) qa_nil)))))
theorem ok_counter_step {P : Program} {w : World} {K : PySem.W.Frag} {mg : Str → Option Value} {base : Heap} (T : Txt K mg w) : Has P w K mg base 1 "_counter_step" 3 m_counter_step := has_of (N := ["thing", "state", "call"]) (ps := ["thing", "state", "call"]) (k := 0) T.d_counter_step sc_counter_step fun f cdv A outer s H E hr => (qss_cons (qs_if (qt_cmp (q_eq (hu64 hr)).op (qe_ix q_ix (qe_var 2) qe_int) qe_str) (qss_one (qs_ret (qe_tup (qa_cons (qe_var 1) (qa_cons (qe_var 1) qa_nil))))) qss_nil) (qss_one (qs_ret (qe_tup (qa_cons (qe_op q_mod (qe_op q_add (qe_var 1) (qe_ix q_ix (qe_var 2) qe_int)) (qe_ix q_ix (qe_var 0) qe_int)) (qa_cons (qe_var 1) qa_nil))))))
theorem ok_register_calls {P : Program} {w : World} {K : PySem.W.Frag} {mg : Str → Option Value} {base : Heap} (T : Txt K mg w) : Has P w K mg base 1 "_register_calls" 1 m_register_calls := has_of (N := ["thing", "puts", "k"]) (ps := ["thing"]) (k := 0) T.d_register_calls sc_register_calls fun f cdv A outer s H E hr => (qss_cons (qs_comp (own := [("k", 2)]) 1 rfl sc_register_calls.nd (qi_range1 rfl T.n_range (qa_cons (qe_ix q_ix (qe_var 0) qe_int) qa_nil)) (blkOk_by (N := ["thing", "puts", "k"]) (sc := defScope s_register_calls) (own := [("k", 2)]) (by decide +kernel)) (fun _ _ _ _ _ => (qg_name 2 sc_register_calls.nd)) (fun _ _ _ _ _ => qts_nil) (fun _ _ _ _ _ => (qe_tup (qa_cons qe_str (qa_cons (qe_var 2) qa_nil)))) (sw_true rfl rfl rfl (by decide +kernel))) (qss_one (qs_ret (qe_op q_add (qe_op q_add (qe_lst (qa_cons (qe_tup (qa_cons qe_str qa_nil)) qa_nil)) (qe_var 1)) (qe_comp (own := [("k", 2)]) rfl sc_register_calls.nd (qi_range1 rfl T.n_range (qa_cons (qe_ix q_ix (qe_var 0) qe_int) qa_nil)) (blkOk_by (N := ["thing", "puts", "k"]) (sc := defScope s_register_calls) (own := [("k", 2)]) (by decide +kernel)) (fun _ _ _ _ _ => (qg_name 2 sc_register_calls.nd)) (fun _ _ _ _ _ => qts_nil) (fun _ _ _ _ _ => (qe_tup (qa_cons qe_str (qa_cons (qe_var 2) qa_nil)))))))))
theorem ok_register_step {P : Program} {w : World} {K : PySem.W.Frag} {mg : Str → Option Value} {base : Heap} (T : Txt K mg w) : Has P w K mg base 1 "_register_step" 3 m_register_step := has_of (N := ["thing", "state", "call"]) (ps := ["thing", "state", "call"]) (k := 0) T.d_register_step sc_register_step fun f cdv A outer s H E hr => (qss_cons (qs_if (qt_cmp (q_eq (hu64 hr)).op (qe_ix q_ix (qe_var 2) qe_int) qe_str) (qss_one (qs_ret (qe_tup (qa_cons (qe_var 1) (qa_cons (qe_var 1) qa_nil))))) qss_nil) (qss_cons (qs_if (qt_cmp (q_eq (hu64 hr)).op (qe_ix q_ix (qe_var 2) qe_int) qe_str) (qss_one (qs_ret (qe_tup (qa_cons (qe_ix q_ix (qe_var 2) qe_int) (qa_cons qe_non qa_nil))))) qss_nil) (qss_one (qs_ret (qe_tup (qa_cons (qe_ix q_ix (qe_var 2) qe_int) (qa_cons (qe_var 1) qa_nil)))))))
theorem ok_stack_calls {P : Program} {w : World} {K : PySem.W.Frag} {mg : Str → Option Value} {base : Heap} (T : Txt K mg w) : Has P w K mg base 1 "_stack_calls" 1 m_stack_calls := has_of (N := ["thing", "k"]) (ps := ["thing"]) (k := 0) T.d_stack_calls sc_stack_calls fun f cdv A outer s H E hr => (qss_one (qs_ret (qe_op q_add (qe_lst (qa_cons (qe_tup (qa_cons qe_str qa_nil)) qa_nil)) (qe_comp (own := [("k", 1)]) rfl sc_stack_calls.nd (qi_range1 rfl T.n_range (qa_cons (qe_ix q_ix (qe_var 0) qe_int) qa_nil)) (blkOk_by (N := ["thing", "k"]) (sc := defScope s_stack_calls) (own := [("k", 1)]) (by decide +kernel)) (fun _ _ _ _ _ => (qg_name 1 sc_stack_calls.nd)) (fun _ _ _ _ _ => qts_nil) (fun _ _ _ _ _ => (qe_tup (qa_cons qe_str (qa_cons (qe_var 1) qa_nil))))))))
theorem ok_put_at_end {P : Program} {w : World} {K : PySem.W.Frag} {mg : Str → Option Value} {base : Heap} (T : Txt K mg w) : Has P w K mg base 1 "_put_at_end" 3 m_put_at_end := has_of (N := ["thing", "state", "k"]) (ps := ["thing", "state", "k"]) (k := 0) T.d_put_at_end sc_put_at_end fun f cdv A outer s H E hr => (qss_cons (qs_if (qt_cmp (q_eq (hu64 hr)).op (qe_callB q_len rfl T.n_len PySem.boot_len (qa_cons (qe_var 1) qa_nil)) (qe_ix q_ix (qe_var 0) qe_int)) (qss_one (qs_ret (qe_tup (qa_cons (qe_var 1) (qa_cons qe_bl qa_nil))))) qss_nil) (qss_one (qs_ret (qe_tup (qa_cons (qe_op q_add (qe_var 1) (qe_tup (qa_cons (qe_var 2) qa_nil))) (qa_cons qe_bl qa_nil))))))
theorem ok_stack_step {P : Program} {w : World} {K : PySem.W.Frag} {mg : Str → Option Value} {base : Heap} (T : Txt K mg w) : Has P w K mg base 2 "_stack_step" 3 m_stack_step := has_of (N := ["thing", "state", "call"]) (ps := ["thing", "state", "call"]) (k := 1) T.d_stack_step sc_stack_step fun f cdv A outer s H E hr => (qss_cons (qs_if (qt_cmp (q_eq (hu64 hr)).op (qe_ix q_ix (qe_var 2) qe_int) qe_str) (qss_one (qs_ret (qe_call (ok_put_at_end T) (hr.mono (by decide)) (takes_of rfl rfl rfl rfl) rfl (qa_cons (qe_var 0) (qa_cons (qe_var 1) (qa_cons (qe_ix q_ix (qe_var 2) qe_int) qa_nil)))))) qss_nil) (qss_cons (qs_if (qt_cmp (q_eq (hu64 hr)).op (qe_callB q_len rfl T.n_len PySem.boot_len (qa_cons (qe_var 1) qa_nil)) qe_int) (qss_one (qs_ret (qe_tup (qa_cons (qe_var 1) (qa_cons qe_non qa_nil))))) qss_nil) (qss_one (qs_ret (qe_tup (qa_cons (qe_slice (qe_var 1) qo_none (qo_some (qe_un q_neg qe_int))) (qa_cons (qe_ix q_ix (qe_var 1) (qe_un q_neg qe_int)) qa_nil)))))))
theorem ok_queue_calls {P : Program} {w : World} {K : PySem.W.Frag} {mg : Str → Option Value} {base : Heap} (T : Txt K mg w) : Has P w K mg base 1 "_queue_calls" 1 m_queue_calls := has_of (N := ["thing", "k"]) (ps := ["thing"]) (k := 0) T.d_queue_calls sc_queue_calls fun f cdv A outer s H E hr => (qss_one (qs_ret (qe_op q_add (qe_comp (own := [("k", 1)]) rfl sc_queue_calls.nd (qi_range1 rfl T.n_range (qa_cons (qe_ix q_ix (qe_var 0) qe_int) qa_nil)) (blkOk_by (N := ["thing", "k"]) (sc := defScope s_queue_calls) (own := [("k", 1)]) (by decide +kernel)) (fun _ _ _ _ _ => (qg_name 1 sc_queue_calls.nd)) (fun _ _ _ _ _ => qts_nil) (fun _ _ _ _ _ => (qe_tup (qa_cons qe_str (qa_cons (qe_var 1) qa_nil))))) (qe_lst (qa_cons (qe_tup (qa_cons qe_str qa_nil)) qa_nil)))))
theorem ok_queue_step {P : Program} {w : World} {K : PySem.W.Frag} {mg : Str → Option Value} {base : Heap} (T : Txt K mg w) : Has P w K mg base 2 "_queue_step" 3 m_queue_step := has_of (N := ["thing", "state", "call"]) (ps := ["thing", "state", "call"]) (k := 1) T.d_queue_step sc_queue_step fun f cdv A outer s H E hr => (qss_cons (qs_if (qt_cmp (q_eq (hu64 hr)).op (qe_ix q_ix (qe_var 2) qe_int) qe_str) (qss_one (qs_ret (qe_call (ok_put_at_end T) (hr.mono (by decide)) (takes_of rfl rfl rfl rfl) rfl (qa_cons (qe_var 0) (qa_cons (qe_var 1) (qa_cons (qe_ix q_ix (qe_var 2) qe_int) qa_nil)))))) qss_nil) (qss_cons (qs_if (qt_cmp (q_eq (hu64 hr)).op (qe_callB q_len rfl T.n_len PySem.boot_len (qa_cons (qe_var 1) qa_nil)) qe_int) (qss_one (qs_ret (qe_tup (qa_cons (qe_var 1) (qa_cons qe_non qa_nil))))) qss_nil) (qss_one (qs_ret (qe_tup (qa_cons (qe_slice (qe_var 1) (qo_some qe_int) qo_none) (qa_cons (qe_ix q_ix (qe_var 1) qe_int) qa_nil)))))))
theorem ok_set_calls {P : Program} {w : World} {K : PySem.W.Frag} {mg : Str → Option Value} {base : Heap} (T : Txt K mg w) : Has P w K mg base 1 "_set_calls" 1 m_set_calls := has_of (N := ["thing", "word", "k"]) (ps := ["thing"]) (k := 0) T.d_set_calls sc_set_calls fun f cdv A outer s H E hr => (qss_one (qs_ret (qe_compN (own := [("word", 1), ("k", 2)]) rfl sc_set_calls.nd (qi_sq (qe_tup (qa_cons qe_str (qa_cons qe_str (qa_cons qe_str qa_nil))))) (blkOk_by (N := ["thing", "word", "k"]) (sc := defScope s_set_calls) (own := [("word", 1), ("k", 2)]) (by decide +kernel)) (fun _ _ _ _ _ => (qg_name 1 sc_set_calls.nd)) (fun _ _ _ _ _ => qts_nil) (fun _ _ _ _ _ => (qb_more (is := [2]) rfl rfl (qi_range1 rfl T.n_range (qa_cons (qe_ix q_ix (qe_var 0) qe_int) qa_nil)) (qg_name 2 sc_set_calls.nd) qts_nil (qb_last rfl (qe_tup (qa_cons (qe_var 1) (qa_cons (qe_var 2) qa_nil))) []))))))
theorem ok_set_step {P : Program} {w : World} {K : PySem.W.Frag} {mg : Str → Option Value} {base : Heap} (T : Txt K mg w) : Has P w K mg base 1 "_set_step" 3 m_set_step := has_of (N := ["thing", "state", "call", "held", "others", "word", "k", "member"]) (ps := ["thing", "state", "call"]) (k := 0) T.d_set_step sc_set_step fun f cdv A outer s H E hr => (qss_cons (qs_asg (qe_var 2) (qg_tup rfl (qgs_cons (qg_name 5 sc_set_step.nd) (qgs_cons (qg_name 6 sc_set_step.nd) qgs_nil)))) (qss_cons (qs_set 3 sc_set_step.nd (qe_cmp (q_in (hu65 hr)).op (qe_var 6) (qe_var 1))) (qss_cons (qs_if (qt_cmp (q_eq (hu64 hr)).op (qe_var 5) qe_str) (qss_one (qs_ret (qe_tup (qa_cons (qe_var 1) (qa_cons (qe_var 3) qa_nil))))) qss_nil) (qss_cons (qs_comp (own := [("member", 7)]) 4 rfl sc_set_step.nd (qi_sq (qe_var 1)) (blkOk_by (N := ["thing", "state", "call", "held", "others", "word", "k", "member"]) (sc := defScope s_set_step) (own := [("member", 7)]) (by decide +kernel)) (fun _ _ _ _ _ => (qg_name 7 sc_set_step.nd)) (fun _ _ _ _ _ => (qts_one (qt_cmp (q_ne (hu64 hr)).op (qe_var 7) (qe_var 6)))) (fun _ _ _ _ _ => (qe_var 7)) (sw_true rfl rfl rfl (by decide +kernel))) (qss_cons (qs_if (qt_cmp (q_eq (hu64 hr)).op (qe_var 5) qe_str) (qss_one (qs_ret (qe_tup (qa_cons (qe_callTy q_tuple rfl T.n_tuple PyProof.Rows.boot_tuple (qa_cons (qe_var 4) qa_nil)) (qa_cons (qe_var 3) qa_nil))))) qss_nil) (qss_one (qs_ret (qe_tup (qa_cons (qe_callTy q_tuple rfl T.n_tuple PyProof.Rows.boot_tuple (qa_cons (qe_callB (q_sorted (hu64 hr)) rfl T.n_sorted PyProof.Rows.boot_sorted (qa_cons (qe_op q_add (qe_var 4) (qe_lst (qa_cons (qe_var 6) qa_nil))) qa_nil)) qa_nil)) (qa_cons (qe_not (qe_var 3)) qa_nil))))))))))
theorem ok_agree_calls {P : Program} {w : World} {K : PySem.W.Frag} {mg : Str → Option Value} {base : Heap} (T : Txt K mg w) : Has P w K mg base 1 "_agree_calls" 1 m_agree_calls := has_of (N := ["thing", "k"]) (ps := ["thing"]) (k := 0) T.d_agree_calls sc_agree_calls fun f cdv A outer s H E hr => (qss_one (qs_ret (qe_comp (own := [("k", 1)]) rfl sc_agree_calls.nd (qi_range1 rfl T.n_range (qa_cons (qe_ix q_ix (qe_var 0) qe_int) qa_nil)) (blkOk_by (N := ["thing", "k"]) (sc := defScope s_agree_calls) (own := [("k", 1)]) (by decide +kernel)) (fun _ _ _ _ _ => (qg_name 1 sc_agree_calls.nd)) (fun _ _ _ _ _ => qts_nil) (fun _ _ _ _ _ => (qe_tup (qa_cons qe_str (qa_cons (qe_var 1) qa_nil)))))))
theorem ok_agree_step {P : Program} {w : World} {K : PySem.W.Frag} {mg : Str → Option Value} {base : Heap} (T : Txt K mg w) : Has P w K mg base 1 "_agree_step" 3 m_agree_step := has_of (N := ["thing", "state", "call", "told"]) (ps := ["thing", "state", "call"]) (k := 0) T.d_agree_step sc_agree_step fun f cdv A outer s H E hr => (qss_cons (qs_set 3 sc_agree_step.nd (qe_ite (qt_cmp q_is.op (qe_var 1) qe_non) (qe_ix q_ix (qe_var 2) qe_int) (qe_var 1))) (qss_one (qs_ret (qe_tup (qa_cons (qe_var 3) (qa_cons (qe_var 3) qa_nil))))))
theorem ok_bank_calls {P : Program} {w : World} {K : PySem.W.Frag} {mg : Str → Option Value} {base : Heap} (T : Txt K mg w) : Has P w K mg base 1 "_bank_calls" 1 m_bank_calls := has_of (N := ["thing", "places", "looks", "a", "b", "k"]) (ps := ["thing"]) (k := 0) T.d_bank_calls sc_bank_calls fun f cdv A outer s H E hr => (qss_cons (qs_set 1 sc_bank_calls.nd (qe_rng1 rfl T.n_range (qa_cons (qe_callB q_len rfl T.n_len PySem.boot_len (qa_cons (qe_ix q_ix (qe_var 0) qe_int) qa_nil)) qa_nil))) (qss_cons (qs_comp (own := [("a", 3)]) 2 rfl sc_bank_calls.nd (qi_rngV (qe_var 1)) (blkOk_by (N := ["thing", "places", "looks", "a", "b", "k"]) (sc := defScope s_bank_calls) (own := [("a", 3)]) (by decide +kernel)) (fun _ _ _ _ _ => (qg_name 3 sc_bank_calls.nd)) (fun _ _ _ _ _ => qts_nil) (fun _ _ _ _ _ => (qe_tup (qa_cons qe_str (qa_cons (qe_var 3) qa_nil)))) (sw_true rfl rfl rfl (by decide +kernel))) (qss_one (qs_ret (qe_op q_add (qe_var 2) (qe_compN (own := [("a", 3), ("b", 4), ("k", 5)]) rfl sc_bank_calls.nd (qi_rngV (qe_var 1)) (blkOk_by (N := ["thing", "places", "looks", "a", "b", "k"]) (sc := defScope s_bank_calls) (own := [("a", 3), ("b", 4), ("k", 5)]) (by decide +kernel)) (fun _ _ _ _ _ => (qg_name 3 sc_bank_calls.nd)) (fun _ _ _ _ _ => qts_nil) (fun _ _ _ _ _ => (qb_more (is := [4, 5]) rfl rfl (qi_rngV (qe_var 1)) (qg_name 4 sc_bank_calls.nd) (qts_one (qt_cmp (q_ne (hu64 hr)).op (qe_var 3) (qe_var 4))) (qb_more (is := [5]) rfl rfl (qi_range2 rfl T.n_range (qa_cons qe_int (qa_cons qe_int qa_nil))) (qg_name 5 sc_bank_calls.nd) qts_nil (qb_last rfl (qe_tup (qa_cons qe_str (qa_cons (qe_var 3) (qa_cons (qe_var 4) (qa_cons (qe_var 5) qa_nil))))) []))))))))))
theorem ok_bank_step {P : Program} {w : World} {K : PySem.W.Frag} {mg : Str → Option Value} {base : Heap} (T : Txt K mg w) : Has P w K mg base 1 "_bank_step" 3 m_bank_step := has_of (N := ["thing", "state", "call", "amounts", "_", "giver", "taker", "many"]) (ps := ["thing", "state", "call"]) (k := 0) T.d_bank_step sc_bank_step fun f cdv A outer s H E hr => (qss_cons (qs_if (qt_cmp (q_eq (hu64 hr)).op (qe_ix q_ix (qe_var 2) qe_int) qe_str) (qss_one (qs_ret (qe_tup (qa_cons (qe_var 1) (qa_cons (qe_ix q_ix (qe_var 1) (qe_ix q_ix (qe_var 2) qe_int)) qa_nil))))) qss_nil) (qss_cons (qs_asg (qe_var 2) (qg_tup rfl (qgs_cons (qg_name 4 sc_bank_step.nd) (qgs_cons (qg_name 5 sc_bank_step.nd) (qgs_cons (qg_name 6 sc_bank_step.nd) (qgs_cons (qg_name 7 sc_bank_step.nd) qgs_nil)))))) (qss_cons (qs_if (qt_cmp q_lt.op (qe_ix q_ix (qe_var 1) (qe_var 5)) (qe_var 7)) (qss_one (qs_ret (qe_tup (qa_cons (qe_var 1) (qa_cons qe_bl qa_nil))))) qss_nil) (qss_cons (qs_set 3 sc_bank_step.nd (qe_mutL rfl T.n_list (qa_cons (qe_var 1) qa_nil))) (qss_cons (qs_putop ip_sub (qe_var 3) (qe_var 5) (qe_var 7)) (qss_cons (qs_putop ip_add (qe_var 3) (qe_var 6) (qe_var 7)) (qss_one (qs_ret (qe_tup (qa_cons (qe_callTy q_tuple rfl T.n_tuple PyProof.Rows.boot_tuple (qa_cons (qe_var 3) qa_nil)) (qa_cons qe_bl qa_nil)))))))))))
theorem ok_table_calls {P : Program} {w : World} {K : PySem.W.Frag} {mg : Str → Option Value} {base : Heap} (T : Txt K mg w) : Has P w K mg base 1 "_table_calls" 1 m_table_calls := has_of (N := ["thing", "c"]) (ps := ["thing"]) (k := 0) T.d_table_calls sc_table_calls fun f cdv A outer s H E hr => (qss_one (qs_ret (qe_comp (own := [("c", 1)]) rfl sc_table_calls.nd (qi_range1 rfl T.n_range (qa_cons (qe_callB q_len rfl T.n_len PySem.boot_len (qa_cons (qe_ix q_ix (qe_ix q_ix (qe_var 0) qe_int) qe_int) qa_nil)) qa_nil)) (blkOk_by (N := ["thing", "c"]) (sc := defScope s_table_calls) (own := [("c", 1)]) (by decide +kernel)) (fun _ _ _ _ _ => (qg_name 1 sc_table_calls.nd)) (fun _ _ _ _ _ => qts_nil) (fun _ _ _ _ _ => (qe_tup (qa_cons qe_str (qa_cons (qe_var 1) qa_nil)))))))
theorem ok_table_step {P : Program} {w : World} {K : PySem.W.Frag} {mg : Str → Option Value} {base : Heap} (T : Txt K mg w) : Has P w K mg base 1 "_table_step" 3 m_table_step := has_of (N := ["thing", "state", "call"]) (ps := ["thing", "state", "call"]) (k := 0) T.d_table_step sc_table_step fun f cdv A outer s H E hr => (qss_one (qs_ret (qe_ix q_ix (qe_ix q_ix (qe_ix q_ix (qe_var 0) qe_int) (qe_var 1)) (qe_ix q_ix (qe_var 2) qe_int))))
theorem ok_call_rows {P : Program} {w : World} {K : PySem.W.Frag} {mg : Str → Option Value} {base : Heap} (T : Txt K mg w) : Has P w K mg base 2 "call_rows" 1 m_call_rows := has_of (N := ["thing", "action"]) (ps := ["thing"]) (k := 1) T.d_call_rows sc_call_rows fun f cdv A outer s H E hr => (qss_cons (qs_set 1 sc_call_rows.nd (qe_tab T.t_CALLS rfl (qe_ix q_ix (qe_var 0) qe_int))) (qss_one (qs_ret (qe_callV 1 (vt_cons (Has.mono (ok_counter_calls T) (by decide)) (vt_cons (Has.mono (ok_register_calls T) (by decide)) (vt_cons (Has.mono (ok_stack_calls T) (by decide)) (vt_cons (Has.mono (ok_queue_calls T) (by decide)) (vt_cons (Has.mono (ok_set_calls T) (by decide)) (vt_cons (Has.mono (ok_agree_calls T) (by decide)) (vt_cons (Has.mono (ok_bank_calls T) (by decide)) (vt_cons (Has.mono (ok_table_calls T) (by decide)) vt_nil)))))))) hr (takes_of rfl rfl rfl rfl) (qa_cons (qe_var 0) qa_nil)))))
theorem ok_step {P : Program} {w : World} {K : PySem.W.Frag} {mg : Str → Option Value} {base : Heap} (T : Txt K mg w) : Has P w K mg base 3 "step" 3 m_step := has_of (N := ["thing", "state", "call", "action"]) (ps := ["thing", "state", "call"]) (k := 2) T.d_step sc_step fun f cdv A outer s H E hr => (qss_cons (qs_set 3 sc_step.nd (qe_tab T.t_STEPS rfl (qe_ix q_ix (qe_var 0) qe_int))) (qss_one (qs_ret (qe_callV 3 (vt_cons (Has.mono (ok_counter_step T) (by decide)) (vt_cons (Has.mono (ok_register_step T) (by decide)) (vt_cons (Has.mono (ok_stack_step T) (by decide)) (vt_cons (Has.mono (ok_queue_step T) (by decide)) (vt_cons (Has.mono (ok_set_step T) (by decide)) (vt_cons (Has.mono (ok_agree_step T) (by decide)) (vt_cons (Has.mono (ok_bank_step T) (by decide)) (vt_cons (Has.mono (ok_table_step T) (by decide)) vt_nil)))))))) hr (takes_of rfl rfl rfl rfl) (qa_cons (qe_var 0) (qa_cons (qe_var 1) (qa_cons (qe_var 2) qa_nil)))))))
theorem ok_start {P : Program} {w : World} {K : PySem.W.Frag} {mg : Str → Option Value} {base : Heap} (T : Txt K mg w) : Has P w K mg base 1 "start" 1 m_start := has_of (N := ["thing"]) (ps := ["thing"]) (k := 0) T.d_start sc_start fun f cdv A outer s H E hr => (qss_cons (qs_if (qt_cmp (q_eq (hu64 hr)).op (qe_ix q_ix (qe_var 0) qe_int) qe_str) (qss_one (qs_ret qe_non)) qss_nil) (qss_cons (qs_if (qt_cmp (q_eq (hu64 hr)).op (qe_ix q_ix (qe_var 0) qe_int) qe_str) (qss_one (qs_ret (qe_ix q_ix (qe_var 0) qe_int))) qss_nil) (qss_cons (qs_if (qt_cmp (q_in (hu65 hr)).op (qe_ix q_ix (qe_var 0) qe_int) (qe_tup (qa_cons qe_str (qa_cons qe_str (qa_cons qe_str qa_nil))))) (qss_one (qs_ret (qe_tup qa_nil))) qss_nil) (qss_one (qs_ret qe_int)))))
theorem ok_reached {P : Program} {w : World} {K : PySem.W.Frag} {mg : Str → Option Value} {base : Heap} (T : Txt K mg w) : Has P w K mg base 4 "reached" 1 m_reached := has_of (N := ["thing", "rows", "found", "met", "at", "call", "behind"]) (ps := ["thing"]) (k := 3) T.d_reached sc_reached fun f cdv A outer s H E hr => (qss_cons (qs_set 1 sc_reached.nd (qe_call (ok_call_rows T) (hr.mono (by decide)) (takes_of rfl rfl rfl rfl) rfl (qa_cons (qe_var 0) qa_nil))) (qss_cons (qs_set 2 sc_reached.nd (qe_mut (qa_cons (qe_call (ok_start T) (hr.mono (by decide)) (takes_of rfl rfl rfl rfl) rfl (qa_cons (qe_var 0) qa_nil)) qa_nil))) (qss_cons (qs_set 3 sc_reached.nd (qe_disp (hu64 hr) (qpp_cons (qe_ix q_ix (qe_var 2) qe_int) qe_bl qpp_nil))) (qss_cons (qs_set 4 sc_reached.nd qe_int) (qss_cons (qs_while 100000 (passes_of rfl) (qt_cmp q_lt.op (qe_var 4) (qe_callB q_len rfl T.n_len PySem.boot_len (qa_cons (qe_var 2) qa_nil))) (qss_cons (qs_for (passes_of rfl) rfl (qi_sq (qe_var 1)) (qg_name 5 sc_reached.nd) (qss_cons (qs_set 6 sc_reached.nd (qe_ix q_ix (qe_call (ok_step T) (hr.mono (by decide)) (takes_of rfl rfl rfl rfl) rfl (qa_cons (qe_var 0) (qa_cons (qe_ix q_ix (qe_var 2) (qe_var 4)) (qa_cons (qe_var 5) qa_nil)))) qe_int)) (qss_one (qs_if (qt_dIn true (hu64 hr) (qe_var 6) (qe_var 3)) (qss_cons (qs_dSet (hu64 hr) qe_bl (qe_var 3) (qe_var 6)) (qss_one (qs_expr (qe_append (qe_var 2) (qe_var 6))))) qss_nil)))) (qss_one (qs_aug 4 q_iadd sc_reached.nd qe_int)))) (qss_one (qs_ret (qe_var 2))))))))
theorem ok_run {P : Program} {w : World} {K : PySem.W.Frag} {mg : Str → Option Value} {base : Heap} (T : Txt K mg w) : Has P w K mg base 4 "run" 2 m_run := has_of (N := ["thing", "row", "state", "answers", "call", "answer"]) (ps := ["thing", "row"]) (k := 3) T.d_run sc_run fun f cdv A outer s H E hr => (qss_cons (qs_set 2 sc_run.nd (qe_call (ok_start T) (hr.mono (by decide)) (takes_of rfl rfl rfl rfl) rfl (qa_cons (qe_var 0) qa_nil))) (qss_cons (qs_set 3 sc_run.nd (qe_mut qa_nil)) (qss_cons (qs_for (passes_of rfl) rfl (qi_sq (qe_var 1)) (qg_name 4 sc_run.nd) (qss_cons (qs_asg (qe_call (ok_step T) (hr.mono (by decide)) (takes_of rfl rfl rfl rfl) rfl (qa_cons (qe_var 0) (qa_cons (qe_var 2) (qa_cons (qe_var 4) qa_nil)))) (qg_tup rfl (qgs_cons (qg_name 2 sc_run.nd) (qgs_cons (qg_name 5 sc_run.nd) qgs_nil)))) (qss_one (qs_expr (qe_append (qe_var 3) (qe_var 5)))))) (qss_one (qs_ret (qe_tup (qa_cons (qe_callTy q_tuple rfl T.n_tuple PyProof.Rows.boot_tuple (qa_cons (qe_var 3) qa_nil)) (qa_cons (qe_var 2) qa_nil))))))))
theorem ok_has_call {P : Program} {w : World} {K : PySem.W.Frag} {mg : Str → Option Value} {base : Heap} (T : Txt K mg w) : Has P w K mg base 14 "has_call" 2 m_has_call := has_of (N := ["thing", "value", "call"]) (ps := ["thing", "value"]) (k := 13) T.d_has_call sc_has_call fun f cdv A outer s H E hr => (qss_one (qs_ret (qe_callB (q_any rfl) rfl T.n_any boot_any (qa_cons (qe_comp (own := [("call", 2)]) rfl sc_has_call.nd (qi_sq (qe_call (ok_call_rows T) (hr.mono (by decide)) (takes_of rfl rfl rfl rfl) rfl (qa_cons (qe_var 0) qa_nil))) (blkOk_by (N := ["thing", "value", "call"]) (sc := defScope s_has_call) (own := [("call", 2)]) (by decide +kernel)) (fun _ _ _ _ _ => (qg_name 2 sc_has_call.nd)) (fun _ _ _ _ _ => qts_nil) (fun _ _ _ _ _ => (qe_call (ok_same T) (hr.mono (by decide)) takes0 rfl (qa_cons (qe_var 2) (qa_cons (qe_var 1) qa_nil))))) qa_nil))))
theorem ok_is_ascending {P : Program} {w : World} {K : PySem.W.Frag} {mg : Str → Option Value} {base : Heap} (T : Txt K mg w) : Has P w K mg base 1 "_is_ascending" 1 m_is_ascending := has_of (N := ["row", "k"]) (ps := ["row"]) (k := 0) T.d_is_ascending sc_is_ascending fun f cdv A outer s H E hr => (qss_one (qs_ret (qe_callB (q_all rfl) rfl T.n_all boot_all (qa_cons (qe_comp (own := [("k", 1)]) rfl sc_is_ascending.nd (qi_range1 rfl T.n_range (qa_cons (qe_op q_sub (qe_callB q_len rfl T.n_len PySem.boot_len (qa_cons (qe_var 0) qa_nil)) qe_int) qa_nil)) (blkOk_by (N := ["row", "k"]) (sc := defScope s_is_ascending) (own := [("k", 1)]) (by decide +kernel)) (fun _ _ _ _ _ => (qg_name 1 sc_is_ascending.nd)) (fun _ _ _ _ _ => qts_nil) (fun _ _ _ _ _ => (qe_cmp q_lt.op (qe_ix q_ix (qe_var 0) (qe_var 1)) (qe_ix q_ix (qe_var 0) (qe_op q_add (qe_var 1) qe_int))))) qa_nil))))
theorem ok_has_state {P : Program} {w : World} {K : PySem.W.Frag} {mg : Str → Option Value} {base : Heap} (T : Txt K mg w) : Has P w K mg base 14 "has_state" 2 m_has_state := has_of (N := ["thing", "value", "kind", "total", "state"]) (ps := ["thing", "value"]) (k := 13) T.d_has_state sc_has_state fun f cdv A outer s H E hr => (qss_cons (qs_set 2 sc_has_state.nd (qe_ix q_ix (qe_var 0) qe_int)) (qss_cons (qs_if (qt_cmp (q_in (hu65 hr)).op (qe_var 2) (qe_tup (qa_cons qe_str (qa_cons qe_str qa_nil)))) (qss_one (qs_ret (qe_call (ok_is_within T) (hr.mono (by decide)) (takes_of rfl rfl rfl rfl) rfl (qa_cons (qe_var 1) (qa_cons qe_int (qa_cons (qe_op q_sub (qe_ix q_ix (qe_var 0) qe_int) qe_int) qa_nil)))))) qss_nil) (qss_cons (qs_if (qt_cmp (q_eq (hu64 hr)).op (qe_var 2) qe_str) (qss_one (qs_ret (qe_or (qe_cmp q_is.op (qe_var 1) qe_non) (qe_one (qe_call (ok_is_within T) (hr.mono (by decide)) (takes_of rfl rfl rfl rfl) rfl (qa_cons (qe_var 1) (qa_cons qe_int (qa_cons (qe_op q_sub (qe_ix q_ix (qe_var 0) qe_int) qe_int) qa_nil)))))))) qss_nil) (qss_cons (qs_if (qt_cmp (q_in (hu65 hr)).op (qe_var 2) (qe_tup (qa_cons qe_str (qa_cons qe_str qa_nil)))) (qss_one (qs_ret (qe_and (qe_call (ok_are_within T) (hr.mono (by decide)) (takes_of rfl rfl rfl rfl) rfl (qa_cons (qe_var 1) (qa_cons qe_int (qa_cons (qe_op q_sub (qe_ix q_ix (qe_var 0) qe_int) qe_int) qa_nil)))) (qe_one (qe_cmp q_le.op (qe_callB q_len rfl T.n_len PySem.boot_len (qa_cons (qe_var 1) qa_nil)) (qe_ix q_ix (qe_var 0) qe_int)))))) qss_nil) (qss_cons (qs_if (qt_cmp (q_eq (hu64 hr)).op (qe_var 2) qe_str) (qss_one (qs_ret (qe_and (qe_call (ok_are_within T) (hr.mono (by decide)) (takes_of rfl rfl rfl rfl) rfl (qa_cons (qe_var 1) (qa_cons qe_int (qa_cons (qe_op q_sub (qe_ix q_ix (qe_var 0) qe_int) qe_int) qa_nil)))) (qe_one (qe_call (ok_is_ascending T) (hr.mono (by decide)) (takes_of rfl rfl rfl rfl) rfl (qa_cons (qe_var 1) qa_nil)))))) qss_nil) (qss_cons (qs_if (qt_cmp (q_eq (hu64 hr)).op (qe_var 2) qe_str) (qss_cons (qs_set 3 sc_has_state.nd (qe_callB (q_sum rfl) rfl T.n_sum PyProof.Rows.boot_sum (qa_cons (qe_ix q_ix (qe_var 0) qe_int) qa_nil))) (qss_one (qs_ret (qe_and (qe_call (ok_are_within T) (hr.mono (by decide)) (takes_of rfl rfl rfl rfl) rfl (qa_cons (qe_var 1) (qa_cons qe_int (qa_cons (qe_var 3) qa_nil)))) (qe_and (qe_cmp (q_eq (hu64 hr)).op (qe_callB q_len rfl T.n_len PySem.boot_len (qa_cons (qe_var 1) qa_nil)) (qe_callB q_len rfl T.n_len PySem.boot_len (qa_cons (qe_ix q_ix (qe_var 0) qe_int) qa_nil))) (qe_one (qe_cmp (q_eq (hu64 hr)).op (qe_callB (q_sum rfl) rfl T.n_sum PyProof.Rows.boot_sum (qa_cons (qe_var 1) qa_nil)) (qe_var 3)))))))) qss_nil) (qss_one (qs_ret (qe_callB (q_any rfl) rfl T.n_any boot_any (qa_cons (qe_comp (own := [("state", 4)]) rfl sc_has_state.nd (qi_sq (qe_call (ok_reached T) (hr.mono (by decide)) (takes_of rfl rfl rfl rfl) rfl (qa_cons (qe_var 0) qa_nil))) (blkOk_by (N := ["thing", "value", "kind", "total", "state"]) (sc := defScope s_has_state) (own := [("state", 4)]) (by decide +kernel)) (fun _ _ _ _ _ => (qg_name 4 sc_has_state.nd)) (fun _ _ _ _ _ => qts_nil) (fun _ _ _ _ _ => (qe_call (ok_same T) (hr.mono (by decide)) takes0 rfl (qa_cons (qe_var 4) (qa_cons (qe_var 1) qa_nil))))) qa_nil))))))))))
theorem ok_check_object {P : Program} {w : World} {K : PySem.W.Frag} {mg : Str → Option Value} {base : Heap} (T : Txt K mg w) : Has P w K mg base 7 "check_object" 1 m_check_object := has_of (N := ["value"]) (ps := ["value"]) (k := 6) T.d_check_object sc_check_object fun f cdv A outer s H E hr => (qss_one (qs_if (qt_not (qt_val (qe_call (ok_has_form T) (hr.mono (by decide)) (takes_of rfl rfl rfl rfl) rfl (qa_cons (qe_var 0) qa_nil)))) (qss_one (qs_raise rfl (takes_of rfl rfl rfl rfl) T.e_BadObject rfl)) qss_nil))
theorem ok_check_call {P : Program} {w : World} {K : PySem.W.Frag} {mg : Str → Option Value} {base : Heap} (T : Txt K mg w) : Has P w K mg base 15 "check_call" 2 m_check_call := has_of (N := ["thing", "value"]) (ps := ["thing", "value"]) (k := 14) T.d_check_call sc_check_call fun f cdv A outer s H E hr => (qss_one (qs_if (qt_not (qt_val (qe_call (ok_has_call T) (hr.mono (by decide)) (takes_of rfl rfl rfl rfl) rfl (qa_cons (qe_var 0) (qa_cons (qe_var 1) qa_nil))))) (qss_one (qs_raise rfl (takes_of rfl rfl rfl rfl) T.e_BadCall rfl)) qss_nil))
theorem ok_check_calls {P : Program} {w : World} {K : PySem.W.Frag} {mg : Str → Option Value} {base : Heap} (T : Txt K mg w) : Has P w K mg base 16 "check_calls" 2 m_check_calls := has_of (N := ["thing", "value", "call"]) (ps := ["thing", "value"]) (k := 15) T.d_check_calls sc_check_calls fun f cdv A outer s H E hr => (qss_cons (qs_if (qt_not (qt_val (qe_isi .tup (qe_var 1) rfl T.n_isinstance rfl T.n_tuple PyProof.Rows.boot_tuple (by decide) (by decide)))) (qss_one (qs_raise rfl (takes_of rfl rfl rfl rfl) T.e_BadCall rfl)) qss_nil) (qss_one (qs_for (passes_of rfl) rfl (qi_sq (qe_var 1)) (qg_name 2 sc_check_calls.nd) (qss_one (qs_expr (qe_call (ok_check_call T) (hr.mono (by decide)) (takes_of rfl rfl rfl rfl) rfl (qa_cons (qe_var 0) (qa_cons (qe_var 2) qa_nil))))))))
theorem ok_check_state {P : Program} {w : World} {K : PySem.W.Frag} {mg : Str → Option Value} {base : Heap} (T : Txt K mg w) : Has P w K mg base 15 "check_state" 2 m_check_state := has_of (N := ["thing", "value"]) (ps := ["thing", "value"]) (k := 14) T.d_check_state sc_check_state fun f cdv A outer s H E hr => (qss_one (qs_if (qt_not (qt_val (qe_call (ok_has_state T) (hr.mono (by decide)) (takes_of rfl rfl rfl rfl) rfl (qa_cons (qe_var 0) (qa_cons (qe_var 1) qa_nil))))) (qss_one (qs_raise rfl (takes_of rfl rfl rfl rfl) T.e_BadState rfl)) qss_nil))
theorem ok_is_object {P : Program} {w : World} {K : PySem.W.Frag} {mg : Str → Option Value} {base : Heap} (T : Txt K mg w) : Has P w K mg base 7 "is_object" 1 m_is_object := has_of (N := ["value"]) (ps := ["value"]) (k := 6) T.d_is_object sc_is_object fun f cdv A outer s H E hr => (qss_one (qs_ret (qe_call (ok_has_form T) (hr.mono (by decide)) (takes_of rfl rfl rfl rfl) rfl (qa_cons (qe_var 0) qa_nil))))
theorem ok_calls {P : Program} {w : World} {K : PySem.W.Frag} {mg : Str → Option Value} {base : Heap} (T : Txt K mg w) : Has P w K mg base 8 "calls" 1 m_calls := has_of (N := ["thing"]) (ps := ["thing"]) (k := 7) T.d_calls sc_calls fun f cdv A outer s H E hr => (qss_cons (qs_expr (qe_call (ok_check_object T) (hr.mono (by decide)) (takes_of rfl rfl rfl rfl) rfl (qa_cons (qe_var 0) qa_nil))) (qss_one (qs_ret (qe_callTy q_tuple rfl T.n_tuple PyProof.Rows.boot_tuple (qa_cons (qe_call (ok_call_rows T) (hr.mono (by decide)) (takes_of rfl rfl rfl rfl) rfl (qa_cons (qe_var 0) qa_nil)) qa_nil)))))
theorem ok_is_call {P : Program} {w : World} {K : PySem.W.Frag} {mg : Str → Option Value} {base : Heap} (T : Txt K mg w) : Has P w K mg base 15 "is_call" 2 m_is_call := has_of (N := ["thing", "value"]) (ps := ["thing", "value"]) (k := 14) T.d_is_call sc_is_call fun f cdv A outer s H E hr => (qss_cons (qs_expr (qe_call (ok_check_object T) (hr.mono (by decide)) (takes_of rfl rfl rfl rfl) rfl (qa_cons (qe_var 0) qa_nil))) (qss_one (qs_ret (qe_call (ok_has_call T) (hr.mono (by decide)) (takes_of rfl rfl rfl rfl) rfl (qa_cons (qe_var 0) (qa_cons (qe_var 1) qa_nil))))))
theorem ok_first_state {P : Program} {w : World} {K : PySem.W.Frag} {mg : Str → Option Value} {base : Heap} (T : Txt K mg w) : Has P w K mg base 8 "first_state" 1 m_first_state := has_of (N := ["thing"]) (ps := ["thing"]) (k := 7) T.d_first_state sc_first_state fun f cdv A outer s H E hr => (qss_cons (qs_expr (qe_call (ok_check_object T) (hr.mono (by decide)) (takes_of rfl rfl rfl rfl) rfl (qa_cons (qe_var 0) qa_nil))) (qss_one (qs_ret (qe_call (ok_start T) (hr.mono (by decide)) (takes_of rfl rfl rfl rfl) rfl (qa_cons (qe_var 0) qa_nil)))))
theorem ok_states {P : Program} {w : World} {K : PySem.W.Frag} {mg : Str → Option Value} {base : Heap} (T : Txt K mg w) : Has P w K mg base 8 "states" 1 m_states := has_of (N := ["thing"]) (ps := ["thing"]) (k := 7) T.d_states sc_states fun f cdv A outer s H E hr => (qss_cons (qs_expr (qe_call (ok_check_object T) (hr.mono (by decide)) (takes_of rfl rfl rfl rfl) rfl (qa_cons (qe_var 0) qa_nil))) (qss_one (qs_ret (qe_callTy q_tuple rfl T.n_tuple PyProof.Rows.boot_tuple (qa_cons (qe_call (ok_reached T) (hr.mono (by decide)) (takes_of rfl rfl rfl rfl) rfl (qa_cons (qe_var 0) qa_nil)) qa_nil)))))
theorem ok_applied {P : Program} {w : World} {K : PySem.W.Frag} {mg : Str → Option Value} {base : Heap} (T : Txt K mg w) : Has P w K mg base 16 "applied" 3 m_applied := has_of (N := ["thing", "state", "call"]) (ps := ["thing", "state", "call"]) (k := 15) T.d_applied sc_applied fun f cdv A outer s H E hr => (qss_cons (qs_expr (qe_call (ok_check_object T) (hr.mono (by decide)) (takes_of rfl rfl rfl rfl) rfl (qa_cons (qe_var 0) qa_nil))) (qss_cons (qs_expr (qe_call (ok_check_state T) (hr.mono (by decide)) (takes_of rfl rfl rfl rfl) rfl (qa_cons (qe_var 0) (qa_cons (qe_var 1) qa_nil)))) (qss_cons (qs_expr (qe_call (ok_check_call T) (hr.mono (by decide)) (takes_of rfl rfl rfl rfl) rfl (qa_cons (qe_var 0) (qa_cons (qe_var 2) qa_nil)))) (qss_one (qs_ret (qe_call (ok_step T) (hr.mono (by decide)) (takes_of rfl rfl rfl rfl) rfl (qa_cons (qe_var 0) (qa_cons (qe_var 1) (qa_cons (qe_var 2) qa_nil)))))))))
theorem ok_replayed {P : Program} {w : World} {K : PySem.W.Frag} {mg : Str → Option Value} {base : Heap} (T : Txt K mg w) : Has P w K mg base 17 "replayed" 2 m_replayed := has_of (N := ["thing", "row"]) (ps := ["thing", "row"]) (k := 16) T.d_replayed sc_replayed fun f cdv A outer s H E hr => (qss_cons (qs_expr (qe_call (ok_check_object T) (hr.mono (by decide)) (takes_of rfl rfl rfl rfl) rfl (qa_cons (qe_var 0) qa_nil))) (qss_cons (qs_expr (qe_call (ok_check_calls T) (hr.mono (by decide)) (takes_of rfl rfl rfl rfl) rfl (qa_cons (qe_var 0) (qa_cons (qe_var 1) qa_nil)))) (qss_one (qs_ret (qe_call (ok_run T) (hr.mono (by decide)) (takes_of rfl rfl rfl rfl) rfl (qa_cons (qe_var 0) (qa_cons (qe_var 1) qa_nil)))))))
theorem ok_Ltaken {P : Program} {w : World} {K : PySem.W.Frag} {mg : Str → Option Value} {base : Heap} (T : Txt K mg w) : Has P w K mg base 1 "_law_taken" 2 m_Ltaken := has_of (N := ["row", "many", "cell", "found"]) (ps := ["row", "many"]) (k := 0) T.d_Ltaken sc_Ltaken fun f cdv A outer s H E hr => (qss_cons (qs_if (qt_cmp q_gt.op (qe_ix q_ix (qe_var 0) qe_int) qe_int) (qss_cons (qs_set 3 sc_Ltaken.nd (qe_op q_mod (qe_callTy q_int rfl T.n_int PyProof.Rows.boot_int (qa_cons (qe_ix q_ix (qe_var 0) qe_int) qa_nil)) (qe_var 1))) (qss_cons (qs_put (qe_op q_fdiv (qe_ix q_ix (qe_var 0) qe_int) (qe_var 1)) (qe_var 0) qe_int) (qss_one (qs_ret (qe_var 3))))) qss_nil) (qss_cons (qs_put (qe_op q_add (qe_ix q_ix (qe_var 0) qe_int) qe_int) (qe_var 0) qe_int) (qss_cons (qs_if (qt_cmp q_gt.op (qe_ix q_ix (qe_var 0) qe_int) (qe_callB q_len rfl T.n_len PySem.boot_len (qa_cons (qe_ix q_ix (qe_var 0) qe_int) qa_nil))) (qss_cons (qs_put (qe_op q_mod (qe_callTy q_int rfl T.n_int PyProof.Rows.boot_int (qa_cons (qe_op q_add (qe_op q_mul (qe_ix q_ix (qe_var 0) qe_int) qe_int) qe_int) qa_nil)) qe_int) (qe_var 0) qe_int) (qss_one (qs_ret (qe_op q_mod (qe_callTy q_int rfl T.n_int PyProof.Rows.boot_int (qa_cons (qe_op q_fdiv (qe_ix q_ix (qe_var 0) qe_int) qe_int) qa_nil)) (qe_var 1))))) qss_nil) (qss_cons (qs_set 2 sc_Ltaken.nd (qe_ix q_ix (qe_ix q_ix (qe_var 0) qe_int) (qe_op q_sub (qe_ix q_ix (qe_var 0) qe_int) qe_int))) (qss_cons (qs_put (qe_op q_mod (qe_callTy q_int rfl T.n_int PyProof.Rows.boot_int (qa_cons (qe_op q_add (qe_op q_add (qe_op q_mul (qe_ix q_ix (qe_var 0) qe_int) qe_int) (qe_var 2)) qe_int) qa_nil)) qe_int) (qe_var 0) qe_int) (qss_cons (qs_if (qt_cmp q_ge.op (qe_var 2) (qe_op q_pow qe_int qe_int)) (qss_one (qs_put (qe_op q_fdiv (qe_var 2) (qe_var 1)) (qe_var 0) qe_int)) qss_nil) (qss_one (qs_ret (qe_op q_mod (qe_callTy q_int rfl T.n_int PyProof.Rows.boot_int (qa_cons (qe_var 2) qa_nil)) (qe_var 1))))))))))
theorem ok_Lpick {P : Program} {w : World} {K : PySem.W.Frag} {mg : Str → Option Value} {base : Heap} (T : Txt K mg w) : Has P w K mg base 2 "_law_pick" 2 m_Lpick := has_of (N := ["row", "things"]) (ps := ["row", "things"]) (k := 1) T.d_Lpick sc_Lpick fun f cdv A outer s H E hr => (qss_one (qs_ret (qe_ix q_ix (qe_var 1) (qe_call (ok_Ltaken T) (hr.mono (by decide)) (takes_of rfl rfl rfl rfl) rfl (qa_cons (qe_var 0) (qa_cons (qe_callB q_len rfl T.n_len PySem.boot_len (qa_cons (qe_var 1) qa_nil)) qa_nil))))))
theorem okr_Lalike {P : Program} {w : World} {K : PySem.W.Frag} {mg : Str → Option Value} {base : Heap} (T : Txt K mg w) : ∀ n : Nat, Has P w K mg base (0 + n) "_law_alike" 2 (m_Lalike n)
  | 0 => has_fail T.d_Lalike
  | n + 1 => has_of (N := ["found", "due", "k"]) (ps := ["found", "due"]) (k := 0 + n) T.d_Lalike sc_Lalike fun f cdv A outer s H E hr => have hself := okr_Lalike T n; (qss_cons (qs_if (qt_val (qe_isi2 .tup .lst (qe_var 1) rfl T.n_isinstance rfl T.n_tuple PyProof.Rows.boot_tuple (by decide) (by decide) rfl T.n_list PyProof.Rows.boot_list (by decide) (by decide))) (qss_cons (qs_if (QW.qt (qw_or (qt_not (qt_val (qe_isi2 .tup .lst (qe_var 0) rfl T.n_isinstance rfl T.n_tuple PyProof.Rows.boot_tuple (by decide) (by decide) rfl T.n_list PyProof.Rows.boot_list (by decide) (by decide)))) (qw_or1 (qt_cmp (q_ne (hu64 hr)).op (qe_isi .lst (qe_var 0) rfl T.n_isinstance rfl T.n_list PyProof.Rows.boot_list (by decide) (by decide)) (qe_isi .lst (qe_var 1) rfl T.n_isinstance rfl T.n_list PyProof.Rows.boot_list (by decide) (by decide)))))) (qss_one (qs_ret qe_bl)) qss_nil) (qss_cons (qs_if (qt_cmp (q_ne (hu64 hr)).op (qe_callB q_len rfl T.n_len PySem.boot_len (qa_cons (qe_var 0) qa_nil)) (qe_callB q_len rfl T.n_len PySem.boot_len (qa_cons (qe_var 1) qa_nil))) (qss_one (qs_ret qe_bl)) qss_nil) (qss_one (qs_ret (qe_cmp (q_eq (hu64 hr)).op (qe_comp (own := [("k", 2)]) rfl sc_Lalike.nd (qi_range1 rfl T.n_range (qa_cons (qe_callB q_len rfl T.n_len PySem.boot_len (qa_cons (qe_var 1) qa_nil)) qa_nil)) (blkOk_by (N := ["found", "due", "k"]) (sc := defScope s_Lalike) (own := [("k", 2)]) (by decide +kernel)) (fun _ _ _ _ _ => (qg_name 2 sc_Lalike.nd)) (fun _ _ _ _ _ => (qts_one (qt_not (qt_val (qe_call hself (hr.mono (by omega)) takes0 rfl (qa_cons (qe_ix q_ix (qe_var 0) (qe_var 2)) (qa_cons (qe_ix q_ix (qe_var 1) (qe_var 2)) qa_nil))))))) (fun _ _ _ _ _ => (qe_var 2))) (qe_lst qa_nil)))))) qss_nil) (qss_cons (qs_if (QW.qt (qw_or (qt_cmp q_is.op (qe_var 1) qe_non) (qw_or1 (qt_val (qe_isi .str (qe_var 1) rfl T.n_isinstance rfl T.n_str PyProof.Rows.boot_str (by decide) (by decide)))))) (qss_one (qs_ret (qe_and (qe_cmp (q_eq (hu64 hr)).op (qe_var 0) (qe_var 1)) (qe_one (qe_cmp (q_eq (hu64 hr)).op (qe_isi .str (qe_var 0) rfl T.n_isinstance rfl T.n_str PyProof.Rows.boot_str (by decide) (by decide)) (qe_isi .str (qe_var 1) rfl T.n_isinstance rfl T.n_str PyProof.Rows.boot_str (by decide) (by decide))))))) qss_nil) (qss_one (qs_ret (qe_and (qe_isi .int (qe_var 0) rfl T.n_isinstance rfl T.n_int PyProof.Rows.boot_int (by decide) (by decide)) (qe_and (qe_cmp (q_eq (hu64 hr)).op (qe_isi .bool (qe_var 0) rfl T.n_isinstance rfl T.n_bool PyProof.Rows.boot_bool (by decide) (by decide)) (qe_isi .bool (qe_var 1) rfl T.n_isinstance rfl T.n_bool PyProof.Rows.boot_bool (by decide) (by decide))) (qe_one (qe_cmp (q_eq (hu64 hr)).op (qe_var 0) (qe_var 1)))))))))
theorem ok_Lalike {P : Program} {w : World} {K : PySem.W.Frag} {mg : Str → Option Value} {base : Heap} (T : Txt K mg w) : Has P w K mg base 12 "_law_alike" 2 (m_Lalike 12) := okr_Lalike T 12
theorem ok_Lobject {P : Program} {w : World} {K : PySem.W.Frag} {mg : Str → Option Value} {base : Heap} (T : Txt K mg w) : Has P w K mg base 2 "_law_object" 1 m_Lobject := has_of (N := ["row", "kind", "k", "many", "wide", "rows", "j"]) (ps := ["row"]) (k := 1) T.d_Lobject sc_Lobject fun f cdv A outer s H E hr => (qss_cons (qs_set 1 sc_Lobject.nd (qe_call (ok_Ltaken T) (hr.mono (by decide)) (takes_of rfl rfl rfl rfl) rfl (qa_cons (qe_var 0) (qa_cons qe_int qa_nil)))) (qss_cons (qs_if (qt_cmp q_lt.op (qe_var 1) qe_int) (qss_one (qs_ret (qe_tup (qa_cons (qe_ix q_ix (qe_lst (qa_cons qe_str (qa_cons qe_str qa_nil))) (qe_var 1)) (qa_cons (qe_op q_add qe_int (qe_call (ok_Ltaken T) (hr.mono (by decide)) (takes_of rfl rfl rfl rfl) rfl (qa_cons (qe_var 0) (qa_cons qe_int qa_nil)))) qa_nil))))) qss_nil) (qss_cons (qs_if (qt_cmp q_lt.op (qe_var 1) qe_int) (qss_one (qs_ret (qe_tup (qa_cons (qe_ix q_ix (qe_lst (qa_cons qe_str (qa_cons qe_str qa_nil))) (qe_op q_sub (qe_var 1) qe_int)) (qa_cons (qe_op q_add qe_int (qe_call (ok_Ltaken T) (hr.mono (by decide)) (takes_of rfl rfl rfl rfl) rfl (qa_cons (qe_var 0) (qa_cons qe_int qa_nil)))) (qa_cons (qe_op q_add qe_int (qe_call (ok_Ltaken T) (hr.mono (by decide)) (takes_of rfl rfl rfl rfl) rfl (qa_cons (qe_var 0) (qa_cons qe_int qa_nil)))) qa_nil)))))) qss_nil) (qss_cons (qs_if (qt_cmp q_lt.op (qe_var 1) qe_int) (qss_one (qs_ret (qe_tup (qa_cons (qe_ix q_ix (qe_lst (qa_cons qe_str (qa_cons qe_str qa_nil))) (qe_op q_sub (qe_var 1) qe_int)) (qa_cons (qe_op q_add qe_int (qe_call (ok_Ltaken T) (hr.mono (by decide)) (takes_of rfl rfl rfl rfl) rfl (qa_cons (qe_var 0) (qa_cons qe_int qa_nil)))) qa_nil))))) qss_nil) (qss_cons (qs_if (qt_cmp (q_eq (hu64 hr)).op (qe_var 1) qe_int) (qss_one (qs_ret (qe_tup (qa_cons qe_str (qa_cons (qe_callTy q_tuple rfl T.n_tuple PyProof.Rows.boot_tuple (qa_cons (qe_comp (own := [("k", 2)]) rfl sc_Lobject.nd (qi_range1 rfl T.n_range (qa_cons (qe_op q_add qe_int (qe_call (ok_Ltaken T) (hr.mono (by decide)) (takes_of rfl rfl rfl rfl) rfl (qa_cons (qe_var 0) (qa_cons qe_int qa_nil)))) qa_nil)) (blkOk_by (N := ["row", "kind", "k", "many", "wide", "rows", "j"]) (sc := defScope s_Lobject) (own := [("k", 2)]) (by decide +kernel)) (fun _ _ _ _ _ => (qg_name 2 sc_Lobject.nd)) (fun _ _ _ _ _ => qts_nil) (fun _ _ _ _ _ => (qe_call (ok_Ltaken T) (hr.mono (by decide)) takes0 rfl (qa_cons (qe_var 0) (qa_cons qe_int qa_nil))))) qa_nil)) qa_nil))))) qss_nil) (qss_cons (qs_parN rfl (qa_cons (qe_op q_add qe_int (qe_call (ok_Ltaken T) (hr.mono (by decide)) (takes_of rfl rfl rfl rfl) rfl (qa_cons (qe_var 0) (qa_cons qe_int qa_nil)))) (qa_cons (qe_op q_add qe_int (qe_call (ok_Ltaken T) (hr.mono (by decide)) (takes_of rfl rfl rfl rfl) rfl (qa_cons (qe_var 0) (qa_cons qe_int qa_nil)))) (qa_cons (qe_mut qa_nil) qa_nil))) (qgw_cons 3 sc_Lobject.nd (qgw_cons 4 sc_Lobject.nd (qgw_cons 5 sc_Lobject.nd qgw_nil)))) (qss_cons (qs_for (passes_of rfl) rfl (qi_range1 rfl T.n_range (qa_cons (qe_var 3) qa_nil)) (qg_name 2 sc_Lobject.nd) (qss_one (qs_expr (qe_append (qe_var 5) (qe_callTy q_tuple rfl T.n_tuple PyProof.Rows.boot_tuple (qa_cons (qe_comp (own := [("j", 6)]) rfl sc_Lobject.nd (qi_range1 rfl T.n_range (qa_cons (qe_var 4) qa_nil)) (blkOk_by (N := ["row", "kind", "k", "many", "wide", "rows", "j"]) (sc := defScope s_Lobject) (own := [("j", 6)]) (by decide +kernel)) (fun _ _ _ _ _ => (qg_name 6 sc_Lobject.nd)) (fun _ _ _ _ _ => qts_nil) (fun _ _ _ _ _ => (qe_tup (qa_cons (qe_call (ok_Ltaken T) (hr.mono (by decide)) takes0 rfl (qa_cons (qe_var 0) (qa_cons (qe_var 3) qa_nil))) (qa_cons (qe_call (ok_Ltaken T) (hr.mono (by decide)) takes0 rfl (qa_cons (qe_var 0) (qa_cons qe_int qa_nil))) qa_nil))))) qa_nil)))))) (qss_one (qs_ret (qe_tup (qa_cons qe_str (qa_cons (qe_callTy q_tuple rfl T.n_tuple PyProof.Rows.boot_tuple (qa_cons (qe_var 5) qa_nil)) qa_nil))))))))))))
theorem ok_Lcalls {P : Program} {w : World} {K : PySem.W.Frag} {mg : Str → Option Value} {base : Heap} (T : Txt K mg w) : Has P w K mg base 1 "_law_calls" 1 m_Lcalls := has_of (N := ["thing", "name", "words", "word", "more", "found", "one", "low", "high", "other", "k"]) (ps := ["thing"]) (k := 0) T.d_Lcalls sc_Lcalls fun f cdv A outer s H E hr => (qss_cons (qs_set 1 sc_Lcalls.nd (qe_ix q_ix (qe_var 0) qe_int)) (qss_cons (qs_if (qt_cmp (q_eq (hu64 hr)).op (qe_var 1) qe_str) (qss_cons (qs_comp (own := [("k", 10)]) 5 rfl sc_Lcalls.nd (qi_range1 rfl T.n_range (qa_cons (qe_callB q_len rfl T.n_len PySem.boot_len (qa_cons (qe_ix q_ix (qe_var 0) qe_int) qa_nil)) qa_nil)) (blkOk_by (N := ["thing", "name", "words", "word", "more", "found", "one", "low", "high", "other", "k"]) (sc := defScope s_Lcalls) (own := [("k", 10)]) (by decide +kernel)) (fun _ _ _ _ _ => (qg_name 10 sc_Lcalls.nd)) (fun _ _ _ _ _ => qts_nil) (fun _ _ _ _ _ => (qe_tup (qa_cons qe_str (qa_cons (qe_var 10) qa_nil)))) (sw_true rfl rfl rfl (by decide +kernel))) (qss_cons (qs_for (passes_of rfl) rfl (qi_range1 rfl T.n_range (qa_cons (qe_callB q_len rfl T.n_len PySem.boot_len (qa_cons (qe_ix q_ix (qe_var 0) qe_int) qa_nil)) qa_nil)) (qg_name 6 sc_Lcalls.nd) (qss_one (qs_for (passes_of rfl) rfl (qi_range1 rfl T.n_range (qa_cons (qe_callB q_len rfl T.n_len PySem.boot_len (qa_cons (qe_ix q_ix (qe_var 0) qe_int) qa_nil)) qa_nil)) (qg_name 9 sc_Lcalls.nd) (qss_one (qs_if (qt_cmp (q_ne (hu64 hr)).op (qe_var 6) (qe_var 9)) (qss_one (qs_set 5 sc_Lcalls.nd (qe_op q_add (qe_var 5) (qe_comp (own := [("k", 10)]) rfl sc_Lcalls.nd (qi_sq (qe_lst (qa_cons qe_int (qa_cons qe_int (qa_cons qe_int qa_nil))))) (blkOk_by (N := ["thing", "name", "words", "word", "more", "found", "one", "low", "high", "other", "k"]) (sc := defScope s_Lcalls) (own := [("k", 10)]) (by decide +kernel)) (fun _ _ _ _ _ => (qg_name 10 sc_Lcalls.nd)) (fun _ _ _ _ _ => qts_nil) (fun _ _ _ _ _ => (qe_tup (qa_cons qe_str (qa_cons (qe_var 6) (qa_cons (qe_var 9) (qa_cons (qe_var 10) qa_nil)))))))))) qss_nil))))) (qss_one (qs_ret (qe_callB (q_sorted (hu64 hr)) rfl T.n_sorted PyProof.Rows.boot_sorted (qa_cons (qe_var 5) qa_nil)))))) qss_nil) (qss_cons (qs_if (qt_cmp (q_eq (hu64 hr)).op (qe_var 1) qe_str) (qss_one (qs_ret (qe_comp (own := [("k", 10)]) rfl sc_Lcalls.nd (qi_range1 rfl T.n_range (qa_cons (qe_callB q_len rfl T.n_len PySem.boot_len (qa_cons (qe_ix q_ix (qe_ix q_ix (qe_var 0) qe_int) qe_int) qa_nil)) qa_nil)) (blkOk_by (N := ["thing", "name", "words", "word", "more", "found", "one", "low", "high", "other", "k"]) (sc := defScope s_Lcalls) (own := [("k", 10)]) (by decide +kernel)) (fun _ _ _ _ _ => (qg_name 10 sc_Lcalls.nd)) (fun _ _ _ _ _ => qts_nil) (fun _ _ _ _ _ => (qe_tup (qa_cons qe_str (qa_cons (qe_var 10) qa_nil))))))) qss_nil) (qss_cons (qs_set 2 sc_Lcalls.nd (qe_dGet (hu64 hr) (qe_disp (hu64 hr) (qpp_cons qe_str (qe_lst (qa_cons qe_str qa_nil)) (qpp_cons qe_str (qe_lst (qa_cons qe_str (qa_cons qe_str qa_nil))) (qpp_cons qe_str (qe_lst (qa_cons qe_str qa_nil)) (qpp_cons qe_str (qe_lst (qa_cons qe_str qa_nil)) (qpp_cons qe_str (qe_lst (qa_cons qe_str (qa_cons qe_str (qa_cons qe_str qa_nil)))) (qpp_cons qe_str (qe_lst (qa_cons qe_str qa_nil)) qpp_nil))))))) (qe_var 1))) (qss_cons (qs_par3 7 8 5 rfl sc_Lcalls.nd (qa_cons (qe_callTy q_int rfl T.n_int PyProof.Rows.boot_int (qa_cons (qe_cmp (q_eq (hu64 hr)).op (qe_var 1) qe_str) qa_nil)) (qa_cons (qe_ix q_ix (qe_var 0) (qe_un q_neg qe_int)) (qa_cons (qe_lst qa_nil) qa_nil)))) (qss_cons (qs_for (passes_of rfl) rfl (qi_sq (qe_var 2)) (qg_name 3 sc_Lcalls.nd) (qss_one (qs_set 5 sc_Lcalls.nd (qe_op q_add (qe_var 5) (qe_comp (own := [("k", 10)]) rfl sc_Lcalls.nd (qi_range2 rfl T.n_range (qa_cons (qe_var 7) (qa_cons (qe_var 8) qa_nil))) (blkOk_by (N := ["thing", "name", "words", "word", "more", "found", "one", "low", "high", "other", "k"]) (sc := defScope s_Lcalls) (own := [("k", 10)]) (by decide +kernel)) (fun _ _ _ _ _ => (qg_name 10 sc_Lcalls.nd)) (fun _ _ _ _ _ => qts_nil) (fun _ _ _ _ _ => (qe_tup (qa_cons (qe_var 3) (qa_cons (qe_var 10) qa_nil))))))))) (qss_cons (qs_set 4 sc_Lcalls.nd (qe_disp (hu64 hr) (qpp_cons qe_str (qe_lst (qa_cons (qe_tup (qa_cons qe_str qa_nil)) qa_nil)) (qpp_cons qe_str (qe_lst (qa_cons (qe_tup (qa_cons qe_str qa_nil)) qa_nil)) (qpp_cons qe_str (qe_lst (qa_cons (qe_tup (qa_cons qe_str qa_nil)) qa_nil)) (qpp_cons qe_str (qe_lst (qa_cons (qe_tup (qa_cons qe_str qa_nil)) qa_nil)) qpp_nil)))))) (qss_one (qs_ret (qe_callB (q_sorted (hu64 hr)) rfl T.n_sorted PyProof.Rows.boot_sorted (qa_cons (qe_op q_add (qe_var 5) (qe_dGet2 (hu64 hr) (qe_var 4) (qe_var 1) (qe_lst qa_nil))) qa_nil)))))))))))
theorem ok_Lfirst {P : Program} {w : World} {K : PySem.W.Frag} {mg : Str → Option Value} {base : Heap} (T : Txt K mg w) : Has P w K mg base 1 "_law_first" 1 m_Lfirst := has_of (N := ["thing"]) (ps := ["thing"]) (k := 0) T.d_Lfirst sc_Lfirst fun f cdv A outer s H E hr => (qss_cons (qs_if (qt_cmp (q_in (hu65 hr)).op (qe_ix q_ix (qe_var 0) qe_int) (qe_lst (qa_cons qe_str (qa_cons qe_str (qa_cons qe_str qa_nil))))) (qss_one (qs_ret (qe_tup qa_nil))) qss_nil) (qss_one (qs_ret (qe_ite (qt_cmp (q_eq (hu64 hr)).op (qe_ix q_ix (qe_var 0) qe_int) qe_str) (qe_ix q_ix (qe_var 0) qe_int) (qe_ite (qt_cmp (q_eq (hu64 hr)).op (qe_ix q_ix (qe_var 0) qe_int) qe_str) qe_non qe_int)))))
theorem ok_Ldo {P : Program} {w : World} {K : PySem.W.Frag} {mg : Str → Option Value} {base : Heap} (T : Txt K mg w) : Has P w K mg base 1 "_law_do" 3 m_Ldo := has_of (N := ["thing", "state", "call", "name", "word", "left", "one", "k"]) (ps := ["thing", "state", "call"]) (k := 0) T.d_Ldo sc_Ldo fun f cdv A outer s H E hr => (qss_cons (qs_par 3 4 rfl sc_Ldo.nd (qa_cons (qe_ix q_ix (qe_var 0) qe_int) (qa_cons (qe_ix q_ix (qe_var 2) qe_int) qa_nil))) (qss_cons (qs_if (qt_cmp (q_eq (hu64 hr)).op (qe_var 3) qe_str) (qss_one (qs_ret (qe_ix q_ix (qe_ix q_ix (qe_ix q_ix (qe_var 0) qe_int) (qe_var 1)) (qe_ix q_ix (qe_var 2) qe_int)))) qss_nil) (qss_cons (qs_if (qt_cmp (q_eq (hu64 hr)).op (qe_var 4) qe_str) (qss_one (qs_ret (qe_tup (qa_cons (qe_var 1) (qa_cons (qe_ite (qt_cmp (q_eq (hu64 hr)).op (qe_var 3) qe_str) (qe_ix q_ix (qe_var 1) (qe_ix q_ix (qe_var 2) qe_int)) (qe_var 1)) qa_nil))))) qss_nil) (qss_cons (qs_if (qt_cmp (q_eq (hu64 hr)).op (qe_var 3) qe_str) (qss_one (qs_ret (qe_tup (qa_cons (qe_op q_mod (qe_callTy q_int rfl T.n_int PyProof.Rows.boot_int (qa_cons (qe_op q_add (qe_var 1) (qe_ix q_ix (qe_var 2) qe_int)) qa_nil)) (qe_ix q_ix (qe_var 0) qe_int)) (qa_cons (qe_var 1) qa_nil))))) qss_nil) (qss_cons (qs_if (qt_cmp (q_eq (hu64 hr)).op (qe_var 3) qe_str) (qss_one (qs_ret (qe_tup (qa_cons (qe_ix q_ix (qe_var 2) qe_int) (qa_cons (qe_ite (qt_cmp (q_eq (hu64 hr)).op (qe_var 4) qe_str) qe_non (qe_var 1)) qa_nil))))) qss_nil) (qss_cons (qs_if (qt_cmp (q_eq (hu64 hr)).op (qe_var 3) qe_str) (qss_one (qs_ret (qe_ite (qt_cmp q_isNot.op (qe_var 1) qe_non) (qe_tup (qa_cons (qe_var 1) (qa_cons (qe_var 1) qa_nil))) (qe_tup (qa_cons (qe_ix q_ix (qe_var 2) qe_int) (qa_cons (qe_ix q_ix (qe_var 2) qe_int) qa_nil)))))) qss_nil) (qss_cons (qs_if (qt_cmp (q_eq (hu64 hr)).op (qe_var 3) qe_str) (qss_cons (qs_comp (own := [("one", 6)]) 5 rfl sc_Ldo.nd (qi_sq (qe_var 1)) (blkOk_by (N := ["thing", "state", "call", "name", "word", "left", "one", "k"]) (sc := defScope s_Ldo) (own := [("one", 6)]) (by decide +kernel)) (fun _ _ _ _ _ => (qg_name 6 sc_Ldo.nd)) (fun _ _ _ _ _ => (qts_one (qt_cmp (q_ne (hu64 hr)).op (qe_var 6) (qe_ix q_ix (qe_var 2) qe_int)))) (fun _ _ _ _ _ => (qe_var 6)) (sw_true rfl rfl rfl (by decide +kernel))) (qss_one (qs_ret (qe_tup (qa_cons (qe_ite (qt_cmp (q_eq (hu64 hr)).op (qe_var 4) qe_str) (qe_var 1) (qe_callTy q_tuple rfl T.n_tuple PyProof.Rows.boot_tuple (qa_cons (qe_callB (q_sorted (hu64 hr)) rfl T.n_sorted PyProof.Rows.boot_sorted (qa_cons (qe_op q_add (qe_var 5) (qe_ite (qt_cmp (q_eq (hu64 hr)).op (qe_var 4) qe_str) (qe_lst (qa_cons (qe_ix q_ix (qe_var 2) qe_int) qa_nil)) (qe_lst qa_nil))) qa_nil)) qa_nil))) (qa_cons (qe_cmp (q_ne (hu64 hr)).op (qe_cmp (q_in (hu65 hr)).op (qe_ix q_ix (qe_var 2) qe_int) (qe_var 1)) (qe_cmp (q_eq (hu64 hr)).op (qe_var 4) qe_str)) qa_nil)))))) qss_nil) (qss_cons (qs_if (qt_cmp (q_eq (hu64 hr)).op (qe_var 3) qe_str) (qss_cons (qs_if (qt_cmp q_lt.op (qe_ix q_ix (qe_var 1) (qe_ix q_ix (qe_var 2) qe_int)) (qe_ix q_ix (qe_var 2) qe_int)) (qss_one (qs_ret (qe_tup (qa_cons (qe_var 1) (qa_cons qe_bl qa_nil))))) qss_nil) (qss_one (qs_ret (qe_tup (qa_cons (qe_callTy q_tuple rfl T.n_tuple PyProof.Rows.boot_tuple (qa_cons (qe_comp (own := [("k", 7)]) rfl sc_Ldo.nd (qi_range1 rfl T.n_range (qa_cons (qe_callB q_len rfl T.n_len PySem.boot_len (qa_cons (qe_var 1) qa_nil)) qa_nil)) (blkOk_by (N := ["thing", "state", "call", "name", "word", "left", "one", "k"]) (sc := defScope s_Ldo) (own := [("k", 7)]) (by decide +kernel)) (fun _ _ _ _ _ => (qg_name 7 sc_Ldo.nd)) (fun _ _ _ _ _ => qts_nil) (fun _ _ _ _ _ => (qe_op q_add (qe_op q_sub (qe_ix q_ix (qe_var 1) (qe_var 7)) (qe_op q_mul (qe_ix q_ix (qe_var 2) qe_int) (qe_callTy q_int rfl T.n_int PyProof.Rows.boot_int (qa_cons (qe_cmp (q_eq (hu64 hr)).op (qe_var 7) (qe_ix q_ix (qe_var 2) qe_int)) qa_nil)))) (qe_op q_mul (qe_ix q_ix (qe_var 2) qe_int) (qe_callTy q_int rfl T.n_int PyProof.Rows.boot_int (qa_cons (qe_cmp (q_eq (hu64 hr)).op (qe_var 7) (qe_ix q_ix (qe_var 2) qe_int)) qa_nil)))))) qa_nil)) (qa_cons qe_bl qa_nil)))))) qss_nil) (qss_cons (qs_if (qt_cmp (q_in (hu65 hr)).op (qe_var 4) (qe_lst (qa_cons qe_str (qa_cons qe_str qa_nil)))) (qss_one (qs_ret (qe_ite (qt_cmp q_lt.op (qe_callB q_len rfl T.n_len PySem.boot_len (qa_cons (qe_var 1) qa_nil)) (qe_ix q_ix (qe_var 0) qe_int)) (qe_tup (qa_cons (qe_op q_add (qe_var 1) (qe_tup (qa_cons (qe_ix q_ix (qe_var 2) qe_int) qa_nil))) (qa_cons qe_bl qa_nil))) (qe_tup (qa_cons (qe_var 1) (qa_cons qe_bl qa_nil)))))) qss_nil) (qss_cons (qs_if (qt_cmp (q_eq (hu64 hr)).op (qe_var 1) (qe_tup qa_nil)) (qss_one (qs_ret (qe_tup (qa_cons (qe_var 1) (qa_cons qe_non qa_nil))))) qss_nil) (qss_one (qs_ret (qe_ite (qt_cmp (q_eq (hu64 hr)).op (qe_var 4) qe_str) (qe_tup (qa_cons (qe_slice (qe_var 1) qo_none (qo_some (qe_un q_neg qe_int))) (qa_cons (qe_ix q_ix (qe_var 1) (qe_un q_neg qe_int)) qa_nil))) (qe_tup (qa_cons (qe_slice (qe_var 1) (qo_some qe_int) qo_none) (qa_cons (qe_ix q_ix (qe_var 1) qe_int) qa_nil))))))))))))))))
theorem ok_Lstates {P : Program} {w : World} {K : PySem.W.Frag} {mg : Str → Option Value} {base : Heap} (T : Txt K mg w) : Has P w K mg base 2 "_law_states" 1 m_Lstates := has_of (N := ["thing", "found", "at", "call", "there"]) (ps := ["thing"]) (k := 1) T.d_Lstates sc_Lstates fun f cdv A outer s H E hr => (qss_cons (qs_par 1 2 rfl sc_Lstates.nd (qa_cons (qe_mut (qa_cons (qe_call (ok_Lfirst T) (hr.mono (by decide)) (takes_of rfl rfl rfl rfl) rfl (qa_cons (qe_var 0) qa_nil)) qa_nil)) (qa_cons qe_int qa_nil))) (qss_cons (qs_while 100000 (passes_of rfl) (qt_cmp q_lt.op (qe_var 2) (qe_callB q_len rfl T.n_len PySem.boot_len (qa_cons (qe_var 1) qa_nil))) (qss_cons (qs_for (passes_of rfl) rfl (qi_sq (qe_call (ok_Lcalls T) (hr.mono (by decide)) (takes_of rfl rfl rfl rfl) rfl (qa_cons (qe_var 0) qa_nil))) (qg_name 3 sc_Lstates.nd) (qss_cons (qs_set 4 sc_Lstates.nd (qe_ix q_ix (qe_call (ok_Ldo T) (hr.mono (by decide)) (takes_of rfl rfl rfl rfl) rfl (qa_cons (qe_var 0) (qa_cons (qe_ix q_ix (qe_var 1) (qe_var 2)) (qa_cons (qe_var 3) qa_nil)))) qe_int)) (qss_one (qs_if (qt_cmp (q_notIn (hu65 hr)).op (qe_var 4) (qe_var 1)) (qss_one (qs_expr (qe_append (qe_var 1) (qe_var 4)))) qss_nil)))) (qss_one (qs_set 2 sc_Lstates.nd (qe_op q_add (qe_var 2) qe_int))))) (qss_one (qs_ret (qe_var 1)))))
theorem ok_Lsmall {P : Program} {w : World} {K : PySem.W.Frag} {mg : Str → Option Value} {base : Heap} (T : Txt K mg w) : Has P w K mg base 3 "_law_small" 2 m_Lsmall := has_of (N := ["row", "most", "turn", "thing"]) (ps := ["row", "most"]) (k := 2) T.d_Lsmall sc_Lsmall fun f cdv A outer s H E hr => (qss_cons (qs_for (passes_of rfl) rfl (qi_range1 rfl T.n_range (qa_cons qe_int qa_nil)) (qg_name 2 sc_Lsmall.nd) (qss_cons (qs_set 3 sc_Lsmall.nd (qe_call (ok_Lobject T) (hr.mono (by decide)) (takes_of rfl rfl rfl rfl) rfl (qa_cons (qe_var 0) qa_nil))) (qss_one (qs_if (qt_cmp q_le.op (qe_callB q_len rfl T.n_len PySem.boot_len (qa_cons (qe_call (ok_Lstates T) (hr.mono (by decide)) (takes_of rfl rfl rfl rfl) rfl (qa_cons (qe_var 3) qa_nil)) qa_nil)) (qe_var 1)) (qss_one (qs_ret (qe_var 3))) qss_nil)))) (qss_one (qs_ret (qe_tup (qa_cons qe_str (qa_cons qe_int qa_nil))))))
theorem ok_Lis_number {P : Program} {w : World} {K : PySem.W.Frag} {mg : Str → Option Value} {base : Heap} (T : Txt K mg w) : Has P w K mg base 1 "_law_is_number" 3 m_Lis_number := has_of (N := ["value", "low", "high"]) (ps := ["value", "low", "high"]) (k := 0) T.d_Lis_number sc_Lis_number fun f cdv A outer s H E hr => (qss_one (qs_ret (qe_and (qe_isi .int (qe_var 0) rfl T.n_isinstance rfl T.n_int PyProof.Rows.boot_int (by decide) (by decide)) (qe_and (qe_not (qe_isi .bool (qe_var 0) rfl T.n_isinstance rfl T.n_bool PyProof.Rows.boot_bool (by decide) (by decide))) (qe_one (qe_chain q_le q_le (qe_var 1) (qe_var 0) (qe_var 2)))))))
theorem ok_Lis_rows {P : Program} {w : World} {K : PySem.W.Frag} {mg : Str → Option Value} {base : Heap} (T : Txt K mg w) : Has P w K mg base 2 "_law_is_rows" 1 m_Lis_rows := has_of (N := ["value", "line", "one"]) (ps := ["value"]) (k := 1) T.d_Lis_rows sc_Lis_rows fun f cdv A outer s H E hr => (qss_cons (qs_if (QW.qt (qw_or (qt_not (qt_val (qe_isi .tup (qe_var 0) rfl T.n_isinstance rfl T.n_tuple PyProof.Rows.boot_tuple (by decide) (by decide)))) (qw_or (qt_not (qt_chain q_le q_le qe_int (qe_callB q_len rfl T.n_len PySem.boot_len (qa_cons (qe_var 0) qa_nil)) qe_int)) (qw_or1 (qt_cmp (q_ne (hu64 hr)).op (qe_comp (own := [("one", 2)]) rfl sc_Lis_rows.nd (qi_sq (qe_var 0)) (blkOk_by (N := ["value", "line", "one"]) (sc := defScope s_Lis_rows) (own := [("one", 2)]) (by decide +kernel)) (fun _ _ _ _ _ => (qg_name 2 sc_Lis_rows.nd)) (fun _ _ _ _ _ => (qts_one (qt_not (qt_val (qe_isi .tup (qe_var 2) rfl T.n_isinstance rfl T.n_tuple PyProof.Rows.boot_tuple (by decide) (by decide)))))) (fun _ _ _ _ _ => (qe_var 2))) (qe_lst qa_nil)))))) (qss_one (qs_ret qe_bl)) qss_nil) (qss_cons (qs_if (QW.qt (qw_or (qt_not (qt_chain q_le q_le qe_int (qe_callB q_len rfl T.n_len PySem.boot_len (qa_cons (qe_ix q_ix (qe_var 0) qe_int) qa_nil)) qe_int)) (qw_or1 (qt_cmp (q_ne (hu64 hr)).op (qe_comp (own := [("one", 2)]) rfl sc_Lis_rows.nd (qi_sq (qe_var 0)) (blkOk_by (N := ["value", "line", "one"]) (sc := defScope s_Lis_rows) (own := [("one", 2)]) (by decide +kernel)) (fun _ _ _ _ _ => (qg_name 2 sc_Lis_rows.nd)) (fun _ _ _ _ _ => (qts_one (qt_cmp (q_ne (hu64 hr)).op (qe_callB q_len rfl T.n_len PySem.boot_len (qa_cons (qe_var 2) qa_nil)) (qe_callB q_len rfl T.n_len PySem.boot_len (qa_cons (qe_ix q_ix (qe_var 0) qe_int) qa_nil))))) (fun _ _ _ _ _ => (qe_var 2))) (qe_lst qa_nil))))) (qss_one (qs_ret qe_bl)) qss_nil) (qss_cons (qs_for (passes_of rfl) rfl (qi_sq (qe_var 0)) (qg_name 1 sc_Lis_rows.nd) (qss_one (qs_for (passes_of rfl) rfl (qi_sq (qe_var 1)) (qg_name 2 sc_Lis_rows.nd) (qss_one (qs_if (QW.qt (qw_or (qt_not (qt_val (qe_isi .tup (qe_var 2) rfl T.n_isinstance rfl T.n_tuple PyProof.Rows.boot_tuple (by decide) (by decide)))) (qw_or (qt_cmp (q_ne (hu64 hr)).op (qe_callB q_len rfl T.n_len PySem.boot_len (qa_cons (qe_var 2) qa_nil)) qe_int) (qw_or (qt_not (qt_val (qe_call (ok_Lis_number T) (hr.mono (by decide)) (takes_of rfl rfl rfl rfl) rfl (qa_cons (qe_ix q_ix (qe_var 2) qe_int) (qa_cons qe_int (qa_cons (qe_op q_sub (qe_callB q_len rfl T.n_len PySem.boot_len (qa_cons (qe_var 0) qa_nil)) qe_int) qa_nil)))))) (qw_or1 (qt_not (qt_val (qe_call (ok_Lis_number T) (hr.mono (by decide)) (takes_of rfl rfl rfl rfl) rfl (qa_cons (qe_ix q_ix (qe_var 2) qe_int) (qa_cons qe_int (qa_cons qe_int qa_nil))))))))))) (qss_one (qs_ret qe_bl)) qss_nil))))) (qss_one (qs_ret qe_bl)))))
theorem ok_Lis_object {P : Program} {w : World} {K : PySem.W.Frag} {mg : Str → Option Value} {base : Heap} (T : Txt K mg w) : Has P w K mg base 3 "_law_is_object" 1 m_Lis_object := has_of (N := ["value", "good", "one"]) (ps := ["value"]) (k := 2) T.d_Lis_object sc_Lis_object fun f cdv A outer s H E hr => (qss_cons (qs_if (QW.qt (qw_or (qt_not (qt_val (qe_isi .tup (qe_var 0) rfl T.n_isinstance rfl T.n_tuple PyProof.Rows.boot_tuple (by decide) (by decide)))) (qw_or (qt_cmp (q_notIn (hu65 hr)).op (qe_callB q_len rfl T.n_len PySem.boot_len (qa_cons (qe_var 0) qa_nil)) (qe_lst (qa_cons qe_int (qa_cons qe_int qa_nil)))) (qw_or1 (qt_not (qt_val (qe_isi .str (qe_ix q_ix (qe_var 0) qe_int) rfl T.n_isinstance rfl T.n_str PyProof.Rows.boot_str (by decide) (by decide)))))))) (qss_one (qs_ret qe_bl)) qss_nil) (qss_cons (qs_if (qt_cmp (q_in (hu65 hr)).op (qe_ix q_ix (qe_var 0) qe_int) (qe_lst (qa_cons qe_str (qa_cons qe_str (qa_cons qe_str (qa_cons qe_str qa_nil)))))) (qss_one (qs_ret (qe_and (qe_cmp (q_eq (hu64 hr)).op (qe_callB q_len rfl T.n_len PySem.boot_len (qa_cons (qe_var 0) qa_nil)) qe_int) (qe_one (qe_call (ok_Lis_number T) (hr.mono (by decide)) (takes_of rfl rfl rfl rfl) rfl (qa_cons (qe_ix q_ix (qe_var 0) qe_int) (qa_cons qe_int (qa_cons qe_int qa_nil)))))))) qss_nil) (qss_cons (qs_if (qt_cmp (q_in (hu65 hr)).op (qe_ix q_ix (qe_var 0) qe_int) (qe_lst (qa_cons qe_str (qa_cons qe_str qa_nil)))) (qss_one (qs_ret (qe_and (qe_cmp (q_eq (hu64 hr)).op (qe_callB q_len rfl T.n_len PySem.boot_len (qa_cons (qe_var 0) qa_nil)) qe_int) (qe_and (qe_call (ok_Lis_number T) (hr.mono (by decide)) (takes_of rfl rfl rfl rfl) rfl (qa_cons (qe_ix q_ix (qe_var 0) qe_int) (qa_cons qe_int (qa_cons qe_int qa_nil)))) (qe_one (qe_call (ok_Lis_number T) (hr.mono (by decide)) (takes_of rfl rfl rfl rfl) rfl (qa_cons (qe_ix q_ix (qe_var 0) qe_int) (qa_cons qe_int (qa_cons qe_int qa_nil))))))))) qss_nil) (qss_cons (qs_if (qt_cmp (q_eq (hu64 hr)).op (qe_ix q_ix (qe_var 0) qe_int) qe_str) (qss_cons (qs_set 1 sc_Lis_object.nd (qe_and (qe_cmp (q_eq (hu64 hr)).op (qe_callB q_len rfl T.n_len PySem.boot_len (qa_cons (qe_var 0) qa_nil)) qe_int) (qe_and (qe_isi .tup (qe_ix q_ix (qe_var 0) qe_int) rfl T.n_isinstance rfl T.n_tuple PyProof.Rows.boot_tuple (by decide) (by decide)) (qe_one (qe_cmp (q_in (hu65 hr)).op (qe_callB q_len rfl T.n_len PySem.boot_len (qa_cons (qe_ix q_ix (qe_var 0) qe_int) qa_nil)) (qe_lst (qa_cons qe_int (qa_cons qe_int qa_nil)))))))) (qss_one (qs_ret (qe_and (qe_var 1) (qe_one (qe_cmp (q_eq (hu64 hr)).op (qe_comp (own := [("one", 2)]) rfl sc_Lis_object.nd (qi_sq (qe_ix q_ix (qe_var 0) qe_int)) (blkOk_by (N := ["value", "good", "one"]) (sc := defScope s_Lis_object) (own := [("one", 2)]) (by decide +kernel)) (fun _ _ _ _ _ => (qg_name 2 sc_Lis_object.nd)) (fun _ _ _ _ _ => (qts_one (qt_not (qt_val (qe_call (ok_Lis_number T) (hr.mono (by decide)) takes0 rfl (qa_cons (qe_var 2) (qa_cons qe_int (qa_cons qe_int qa_nil)))))))) (fun _ _ _ _ _ => (qe_var 2))) (qe_lst qa_nil))))))) qss_nil) (qss_one (qs_ret (qe_and (qe_cmp (q_eq (hu64 hr)).op (qe_ix q_ix (qe_var 0) qe_int) qe_str) (qe_and (qe_cmp (q_eq (hu64 hr)).op (qe_callB q_len rfl T.n_len PySem.boot_len (qa_cons (qe_var 0) qa_nil)) qe_int) (qe_one (qe_call (ok_Lis_rows T) (hr.mono (by decide)) (takes_of rfl rfl rfl rfl) rfl (qa_cons (qe_ix q_ix (qe_var 0) qe_int) qa_nil)))))))))))
theorem ok_Lbent {P : Program} {w : World} {K : PySem.W.Frag} {mg : Str → Option Value} {base : Heap} (T : Txt K mg w) : Has P w K mg base 3 "_law_bent" 2 m_Lbent := has_of (N := ["row", "thing", "found", "turn"]) (ps := ["row", "thing"]) (k := 2) T.d_Lbent sc_Lbent fun f cdv A outer s H E hr => (qss_cons (qs_set 2 sc_Lbent.nd (qe_lst (qa_cons (qe_var 1) (qa_cons (qe_callTy q_list rfl T.n_list PyProof.Rows.boot_list (qa_cons (qe_var 1) qa_nil)) (qa_cons (qe_op q_add (qe_var 1) (qe_tup (qa_cons qe_int qa_nil))) (qa_cons (qe_slice (qe_var 1) qo_none (qo_some qe_int)) (qa_cons (qe_tup (qa_cons (qe_ix q_ix (qe_var 1) qe_int) (qa_cons qe_bl qa_nil))) (qa_cons (qe_tup (qa_cons (qe_ix q_ix (qe_var 1) qe_int) (qa_cons qe_int qa_nil))) (qa_cons (qe_tup (qa_cons (qe_ix q_ix (qe_var 1) qe_int) (qa_cons qe_int qa_nil))) (qa_cons (qe_tup (qa_cons (qe_ix q_ix (qe_var 1) qe_int) (qa_cons qe_int qa_nil))) (qa_cons (qe_tup (qa_cons (qe_ix q_ix (qe_var 1) qe_int) (qa_cons qe_int (qa_cons qe_int qa_nil)))) (qa_cons (qe_tup (qa_cons (qe_ix q_ix (qe_var 1) qe_int) (qa_cons qe_int (qa_cons qe_int qa_nil)))) qa_nil)))))))))))) (qss_cons (qs_set 2 sc_Lbent.nd (qe_op q_add (qe_var 2) (qe_lst (qa_cons (qe_tup (qa_cons (qe_ix q_ix (qe_var 1) qe_int) (qa_cons (qe_tup (qa_cons qe_int (qa_cons qe_int qa_nil))) qa_nil))) (qa_cons (qe_tup (qa_cons (qe_ix q_ix (qe_var 1) qe_int) (qa_cons (qe_tup (qa_cons qe_int qa_nil)) qa_nil))) (qa_cons (qe_tup (qa_cons (qe_ix q_ix (qe_var 1) qe_int) (qa_cons (qe_tup (qa_cons qe_int (qa_cons qe_int qa_nil))) qa_nil))) (qa_cons (qe_tup (qa_cons (qe_ix q_ix (qe_var 1) qe_int) (qa_cons (qe_tup (qa_cons (qe_tup (qa_cons qe_int (qa_cons qe_int qa_nil))) qa_nil)) qa_nil))) (qa_cons (qe_tup (qa_cons (qe_ix q_ix (qe_var 1) qe_int) (qa_cons (qe_tup (qa_cons (qe_tup (qa_cons (qe_tup (qa_cons qe_int (qa_cons qe_int qa_nil))) qa_nil)) qa_nil)) qa_nil))) (qa_cons (qe_tup (qa_cons (qe_ix q_ix (qe_var 1) qe_int) (qa_cons (qe_tup (qa_cons (qe_tup (qa_cons (qe_tup (qa_cons qe_int (qa_cons qe_int qa_nil))) qa_nil)) qa_nil)) qa_nil))) (qa_cons (qe_tup (qa_cons (qe_ix q_ix (qe_var 1) qe_int) (qa_cons (qe_tup (qa_cons (qe_tup (qa_cons (qe_tup (qa_cons qe_int (qa_cons qe_int qa_nil))) qa_nil)) qa_nil)) qa_nil))) qa_nil)))))))))) (qss_cons (qs_set 2 sc_Lbent.nd (qe_op q_add (qe_var 2) (qe_lst (qa_cons (qe_tup (qa_cons (qe_ix q_ix (qe_var 1) qe_int) (qa_cons (qe_tup (qa_cons (qe_tup (qa_cons (qe_tup (qa_cons qe_int (qa_cons qe_int qa_nil))) qa_nil)) (qa_cons (qe_tup (qa_cons (qe_tup (qa_cons qe_int (qa_cons qe_int qa_nil))) (qa_cons (qe_tup (qa_cons qe_int (qa_cons qe_int qa_nil))) qa_nil))) qa_nil))) qa_nil))) (qa_cons (qe_tup (qa_cons qe_str (qa_cons qe_int qa_nil))) (qa_cons qe_non (qa_cons qe_int (qa_cons (qe_tup qa_nil) (qa_cons qe_str (qa_cons (qe_tup (qa_cons qe_int (qa_cons qe_int qa_nil))) (qa_cons (qe_tup (qa_cons (qe_ix q_ix (qe_var 1) qe_int) (qa_cons (qe_tup (qa_cons (qe_tup (qa_cons (qe_tup (qa_cons qe_int (qa_cons qe_bl qa_nil))) qa_nil)) qa_nil)) qa_nil))) (qa_cons (qe_tup (qa_cons (qe_ix q_ix (qe_var 1) qe_int) (qa_cons (qe_tup qa_nil) qa_nil))) (qa_cons (qe_tup (qa_cons (qe_ix q_ix (qe_var 1) qe_int) (qa_cons (qe_tup (qa_cons (qe_tup qa_nil) qa_nil)) qa_nil))) qa_nil))))))))))))) (qss_one (qs_ret (qe_comp (own := [("turn", 3)]) rfl sc_Lbent.nd (qi_range1 rfl T.n_range (qa_cons qe_int qa_nil)) (blkOk_by (N := ["row", "thing", "found", "turn"]) (sc := defScope s_Lbent) (own := [("turn", 3)]) (by decide +kernel)) (fun _ _ _ _ _ => (qg_name 3 sc_Lbent.nd)) (fun _ _ _ _ _ => qts_nil) (fun _ _ _ _ _ => (qe_call (ok_Lpick T) (hr.mono (by decide)) takes0 rfl (qa_cons (qe_var 0) (qa_cons (qe_var 2) qa_nil))))))))))
end K00
/-! part G2 -/
set_option Elab.async false
set_option linter.all false
set_option maxRecDepth 100000
set_option maxHeartbeats 4000000
namespace K00
open PySem PySem.Spec PyProof.Rows L2 LamX DD
abbrev s_law : Stmt := top 75
abbrev s_Lrefused : Stmt := top 74
def refN : List (Str × Str) := [("BadObject", "object"), ("BadState", "state"), ("BadCall", "call")]
structure TxtL (K : PySem.W.Frag) (mg : Str → Option Value) (w : World) : Prop extends Txt K mg w where
  r_ref : RefN K mg "_law_refused" s_Lrefused "work" ["work"] refN
theorem sc_law : FnScope ["script", "row", "thing", "value", "turn", "some", "call", "names", "line", "good", "made", "state", "answers", "told", "answer", "ask", "one"] ["script"] (defScope s_law) := ⟨rfl, rfl, rfl, by decide +kernel, rfl, by decide +kernel, by decide +kernel⟩
def b_law : SM := (sSeq (sSet 1 (fMut (fCons (fVar 0) (fCons (fC (.int 0)) (fCons (fC (.int 16000)) (fCons (fC (.int 0)) fNil)))))) (sSeq (sSet 2 (fDef 1 m_Lobject (fCons (fVar 1) fNil))) (sSeq (sParN [7, 8] (fCons (fDef 1 m_Lcalls (fCons (fVar 2) fNil)) (fCons (fDef 1 m_Lstates (fCons (fVar 2) fNil)) fNil))) (sSeq (sIf (fOr (fB (fOp isNotP (fDef 1 m_is_object (fCons (fVar 2) fNil)) (fC (.bool true)))) (fOr (fNot (fB (fDef 2 (m_Lalike 12) (fCons (fDef 1 m_calls (fCons (fVar 2) fNil)) (fCons (fCall tupleP (fCons (fVar 7) fNil)) fNil))))) (fNot (fB (fDef 2 (m_Lalike 12) (fCons (fDef 1 m_first_state (fCons (fVar 2) fNil)) (fCons (fDef 1 m_Lfirst (fCons (fVar 2) fNil)) fNil))))))) (sRet (fC (.bool false))) sPass) (sSeq (sIf (fNot (fB (fDef 2 (m_Lalike 12) (fCons (fDef 1 m_states (fCons (fVar 2) fNil)) (fCons (fCall tupleP (fCons (fVar 8) fNil)) fNil))))) (sRet (fC (.bool false))) sPass) (sSeq (sFor (fItems (fDef 2 m_Lbent (fCons (fVar 1) (fCons (fVar 2) fNil)))) (gN 3) (sSeq (sSet 9 (fDef 1 m_Lis_object (fCons (fVar 3) fNil))) (sSeq (sIf (fNot (fB (fDef 2 (m_Lalike 12) (fCons (fDef 1 m_is_object (fCons (fVar 3) fNil)) (fCons (fVar 9) fNil))))) (sRet (fC (.bool false))) sPass) (sIf (fNot (fB (fVar 9))) (sSeq (sSet 13 (fCompV (fFns (fCons (fFn "calls") (fCons (fFn "first_state") (fCons (fFn "states") fNil)))) (gN 15) fYes (fRefused refN (fCallV 15 [("calls", 1, m_calls), ("first_state", 1, m_first_state), ("states", 1, m_states)] (fCons (fVar 3) fNil))) [15])) (sIf (fB (fOp neP (fOp addP (fVar 13) (fLst (fCons (fRefused refN (fDef 2 m_is_call (fCons (fVar 3) (fCons (fC (.int 1)) fNil)))) fNil))) (fRep (fCons (fC (.str "object")) fNil) (fC (.int 4))))) (sRet (fC (.bool false))) sPass)) sPass)))) (sSeq (sFor (fRange rng1P (fCons (fC (.int 8)) fNil)) (gN 4) (sSeq (sPar 11 6 (fCons (fDef 2 m_Lpick (fCons (fVar 1) (fCons (fVar 8) fNil))) (fCons (fDef 2 m_Lpick (fCons (fVar 1) (fCons (fVar 7) fNil))) fNil))) (sIf (fNot (fB (fDef 2 (m_Lalike 12) (fCons (fDef 3 m_applied (fCons (fVar 2) (fCons (fVar 11) (fCons (fVar 6) fNil)))) (fCons (fDef 3 m_Ldo (fCons (fVar 2) (fCons (fVar 11) (fCons (fVar 6) fNil)))) fNil))))) (sRet (fC (.bool false))) sPass))) (sSeq (sSet 5 (fLst (fCons (fTup fNil) (fCons (fTup (fCons (fC (.str "add")) fNil)) (fCons (fTup (fCons (fC (.str "look")) (fCons (fC (.int 1)) (fCons (fC (.int 2)) fNil)))) (fCons (fOp addP (fOp ixP (fVar 7) (fC (.int 0))) (fTup (fCons (fC (.int 1)) fNil))) (fCons (fCall listP (fCons (fOp ixP (fVar 7) (fC (.int 0))) fNil)) (fCons (fSl (fOp ixP (fVar 7) (fC (.int 0))) oN (oI (fC (.int 1)))) (fCons (fTup (fCons (fOp ixP (fOp ixP (fVar 7) (fC (.int 0))) (fC (.int 0))) (fCons (fC (.bool true)) fNil))) (fCons (fC .none) (fCons (fC (.str "look")) (fCons (fTup (fCons (fC (.str "do")) (fCons (fC (.int 9)) fNil))) (fCons (fTup (fCons (fC (.str "move")) (fCons (fC (.int 0)) (fCons (fC (.int 0)) (fCons (fC (.int 1)) fNil))))) fNil))))))))))))) (sSeq (sFor (fItems (fOp addP (fVar 5) (fVar 7))) (gN 3) (sSeq (sSet 9 (fAndV (fOp (inP false) (fVar 3) (fVar 7)) (fDef 2 (m_Lalike 12) (fCons (fVar 3) (fCons (fOp ixP (fComp (fItems (fVar 7)) (gN 16) (fB (fOp eqP (fVar 16) (fVar 3))) (fVar 16) [16]) (fC (.int 0))) fNil))))) (sSeq (sIf (fNot (fB (fDef 2 (m_Lalike 12) (fCons (fDef 2 m_is_call (fCons (fVar 2) (fCons (fVar 3) fNil))) (fCons (fVar 9) fNil))))) (sRet (fC (.bool false))) sPass) (sIf (fAnd (fNot (fB (fVar 9))) (fB (fOp neP (fRefused refN (fDef 3 m_applied (fCons (fVar 2) (fCons (fOp ixP (fVar 8) (fC (.int 0))) (fCons (fVar 3) fNil))))) (fC (.str "call"))))) (sRet (fC (.bool false))) sPass)))) (sSeq (sFor (fItems (fLst (fCons (fTup (fCons (fC (.int 9)) (fCons (fC (.int 9)) fNil))) (fCons (fC (.str "x")) (fCons (fLst (fCons (fC (.int 0)) fNil)) (fCons (fUn negP (fC (.int 1))) (fCons (fC (.int 77)) (fCons (fTup (fCons (fTup fNil) fNil)) fNil)))))))) (gN 3) (sIf (fB (fOp neP (fRefused refN (fDef 3 m_applied (fCons (fVar 2) (fCons (fVar 3) (fCons (fOp ixP (fVar 7) (fC (.int 0))) fNil))))) (fC (.str "state")))) (sRet (fC (.bool false))) sPass)) (sSeq (sPar3 10 11 12 (fCons (fCall tupleP (fCons (fComp (fRange rng1P (fCons (fDef 2 m_Ltaken (fCons (fVar 1) (fCons (fC (.int 9)) fNil))) fNil)) (gN 4) fYes (fDef 2 m_Lpick (fCons (fVar 1) (fCons (fVar 7) fNil))) [4]) fNil)) (fCons (fOp ixP (fVar 8) (fC (.int 0))) (fCons (fTup fNil) fNil)))) (sSeq (sFor (fItems (fVar 10)) (gN 6) (sSeq (sAsg (gT 2 (gsCons (gN 11) (gsCons (gN 14) gsNil))) (fDef 3 m_Ldo (fCons (fVar 2) (fCons (fVar 11) (fCons (fVar 6) fNil))))) (sSet 12 (fOp addP (fVar 12) (fTup (fCons (fVar 14) fNil)))))) (sSeq (sIf (fNot (fB (fDef 2 (m_Lalike 12) (fCons (fDef 2 m_replayed (fCons (fVar 2) (fCons (fVar 10) fNil))) (fCons (fTup (fCons (fVar 12) (fCons (fVar 11) fNil))) fNil))))) (sRet (fC (.bool false))) sPass) (sRet (fOp eqP (fComp (fItems (fLst (fCons (fC .none) (fCons (fCall listP (fCons (fVar 10) fNil)) (fCons (fOp addP (fVar 10) (fTup (fCons (fC .none) fNil))) (fCons (fTup (fCons (fOp addP (fSl (fOp ixP (fVar 7) (fC (.int 0))) oN (oI (fC (.int 1)))) (fTup (fCons (fC (.int 9)) (fCons (fC (.int 9)) fNil)))) fNil)) fNil)))))) (gN 3) fYes (fRefused refN (fDef 2 m_replayed (fCons (fVar 2) (fCons (fVar 3) fNil)))) [3]) (fRep (fCons (fC (.str "call")) fNil) (fC (.int 4))))))))))))))))))
def cL (P : Addr) : Cf := ⟨[(P, ("law" ++ ".<locals>.") ++ "<lambda>")], true⟩
theorem ok_body {P : Program} {w : World} {K : PySem.W.Frag} {mg : Str → Option Value} {base : Heap} (U : TxtL K mg w) {C PT : Addr} (TB : TabB base mg C PT) (f : Addr) (cdv : Value) (hc : cdv = .ref C) (A : Around) (outer : List Env) (s : Shared) (H : Hp) (E : XK) (hr : Room 19 (A.deeper (envOfC "law" (defScope s_law) s.heap.objs.size f cdv))) : QSs (cxOf (L2.CX P w) P w K mg base ["script", "row", "thing", "value", "turn", "some", "call", "names", "line", "good", "made", "state", "answers", "told", "answer", "ask", "one"] "law" (defScope s_law) f cdv A outer s H E) (cL PT) (fun cls d _ H => E cls d H) (defBody s_law) b_law := by
  have T := U.toTxt
  exact (qss_cons (qs_set 1 sc_law.nd (qe_mut (qa_cons (qe_var 0) (qa_cons qe_int (qa_cons qe_int (qa_cons qe_int qa_nil)))))) (qss_cons (qs_set 2 sc_law.nd (qe_call (ok_Lobject T) (hr.mono (by decide)) (takes_of rfl rfl rfl rfl) rfl (qa_cons (qe_var 1) qa_nil))) (qss_cons (qs_parN rfl (qa_cons (qe_call (ok_Lcalls T) (hr.mono (by decide)) (takes_of rfl rfl rfl rfl) rfl (qa_cons (qe_var 2) qa_nil)) (qa_cons (qe_call (ok_Lstates T) (hr.mono (by decide)) (takes_of rfl rfl rfl rfl) rfl (qa_cons (qe_var 2) qa_nil)) qa_nil)) (qgw_cons 7 sc_law.nd (qgw_cons 8 sc_law.nd qgw_nil))) (qss_cons (qs_if (QW.qt (qw_or (qt_cmp q_isNot.op (qe_call (ok_is_object T) (hr.mono (by decide)) (takes_of rfl rfl rfl rfl) rfl (qa_cons (qe_var 2) qa_nil)) qe_bl) (qw_or (qt_not (qt_val (qe_call (ok_Lalike T) (hr.mono (by decide)) (takes_of rfl rfl rfl rfl) rfl (qa_cons (qe_call (ok_calls T) (hr.mono (by decide)) (takes_of rfl rfl rfl rfl) rfl (qa_cons (qe_var 2) qa_nil)) (qa_cons (qe_callTy q_tuple rfl T.n_tuple PyProof.Rows.boot_tuple (qa_cons (qe_var 7) qa_nil)) qa_nil))))) (qw_or1 (qt_not (qt_val (qe_call (ok_Lalike T) (hr.mono (by decide)) (takes_of rfl rfl rfl rfl) rfl (qa_cons (qe_call (ok_first_state T) (hr.mono (by decide)) (takes_of rfl rfl rfl rfl) rfl (qa_cons (qe_var 2) qa_nil)) (qa_cons (qe_call (ok_Lfirst T) (hr.mono (by decide)) (takes_of rfl rfl rfl rfl) rfl (qa_cons (qe_var 2) qa_nil)) qa_nil))))))))) (qss_one (qs_ret qe_bl)) qss_nil) (qss_cons (qs_if (qt_not (qt_val (qe_call (ok_Lalike T) (hr.mono (by decide)) (takes_of rfl rfl rfl rfl) rfl (qa_cons (qe_call (ok_states T) (hr.mono (by decide)) (takes_of rfl rfl rfl rfl) rfl (qa_cons (qe_var 2) qa_nil)) (qa_cons (qe_callTy q_tuple rfl T.n_tuple PyProof.Rows.boot_tuple (qa_cons (qe_var 8) qa_nil)) qa_nil))))) (qss_one (qs_ret qe_bl)) qss_nil) (qss_cons (qs_for (passes_of rfl) rfl (qi_sq (qe_call (ok_Lbent T) (hr.mono (by decide)) (takes_of rfl rfl rfl rfl) rfl (qa_cons (qe_var 1) (qa_cons (qe_var 2) qa_nil)))) (qg_name 3 sc_law.nd) (qss_cons (qs_set 9 sc_law.nd (qe_call (ok_Lis_object T) (hr.mono (by decide)) (takes_of rfl rfl rfl rfl) rfl (qa_cons (qe_var 3) qa_nil))) (qss_cons (qs_if (qt_not (qt_val (qe_call (ok_Lalike T) (hr.mono (by decide)) (takes_of rfl rfl rfl rfl) rfl (qa_cons (qe_call (ok_is_object T) (hr.mono (by decide)) (takes_of rfl rfl rfl rfl) rfl (qa_cons (qe_var 3) qa_nil)) (qa_cons (qe_var 9) qa_nil))))) (qss_one (qs_ret qe_bl)) qss_nil) (qss_one (qs_if (qt_not (qt_val (qe_var 9))) (qss_cons (qs_compV (own := [("ask", 15)]) 13 rfl sc_law.nd (qi_fns (qa_cons (qe_fn T.d_calls.glo rfl) (qa_cons (qe_fn T.d_first_state.glo rfl) (qa_cons (qe_fn T.d_states.glo rfl) qa_nil)))) (blkOk_by (N := ["script", "row", "thing", "value", "turn", "some", "call", "names", "line", "good", "made", "state", "answers", "told", "answer", "ask", "one"]) (sc := defScope s_law) (own := [("ask", 15)]) (by decide +kernel)) (fun _ _ _ _ _ => (qg_name 15 sc_law.nd)) (fun _ _ _ _ _ => qts_nil) (fun _ _ _ _ _ => (qe_refN (k := 17) U.r_ref rfl rfl TB hc rfl (hr.mono (by decide)) (lamS_by (by rfl)) (fun A outer s H E f0 c0 hr => (qe_callV 15 (vt_cons (Has.mono (ok_calls T) (by decide)) (vt_cons (Has.mono (ok_first_state T) (by decide)) (vt_cons (Has.mono (ok_states T) (by decide)) vt_nil))) hr (takes_of rfl rfl rfl rfl) (qa_cons (qe_var 3) qa_nil))))) (sw_true rfl rfl rfl (by decide +kernel))) (qss_one (qs_if (qt_cmp (q_ne (hu64 hr)).op (qe_op q_add (qe_var 13) (qe_lst (qa_cons (qe_refN (k := 17) U.r_ref rfl rfl TB hc rfl (hr.mono (by decide)) (lamS_by (by rfl)) (fun A outer s H E f0 c0 hr => (qe_call (ok_is_call T) (hr.mono (by decide)) (takes_of rfl rfl rfl rfl) rfl (qa_cons (qe_var 3) (qa_cons qe_int qa_nil))))) qa_nil))) (qe_rep (qa_cons qe_str qa_nil) qe_int)) (qss_one (qs_ret qe_bl)) qss_nil))) qss_nil))))) (qss_cons (qs_for (passes_of rfl) rfl (qi_range1 rfl T.n_range (qa_cons qe_int qa_nil)) (qg_name 4 sc_law.nd) (qss_cons (qs_par 11 6 rfl sc_law.nd (qa_cons (qe_call (ok_Lpick T) (hr.mono (by decide)) (takes_of rfl rfl rfl rfl) rfl (qa_cons (qe_var 1) (qa_cons (qe_var 8) qa_nil))) (qa_cons (qe_call (ok_Lpick T) (hr.mono (by decide)) (takes_of rfl rfl rfl rfl) rfl (qa_cons (qe_var 1) (qa_cons (qe_var 7) qa_nil))) qa_nil))) (qss_one (qs_if (qt_not (qt_val (qe_call (ok_Lalike T) (hr.mono (by decide)) (takes_of rfl rfl rfl rfl) rfl (qa_cons (qe_call (ok_applied T) (hr.mono (by decide)) (takes_of rfl rfl rfl rfl) rfl (qa_cons (qe_var 2) (qa_cons (qe_var 11) (qa_cons (qe_var 6) qa_nil)))) (qa_cons (qe_call (ok_Ldo T) (hr.mono (by decide)) (takes_of rfl rfl rfl rfl) rfl (qa_cons (qe_var 2) (qa_cons (qe_var 11) (qa_cons (qe_var 6) qa_nil)))) qa_nil))))) (qss_one (qs_ret qe_bl)) qss_nil)))) (qss_cons (qs_set 5 sc_law.nd (qe_lst (qa_cons (qe_tup qa_nil) (qa_cons (qe_tup (qa_cons qe_str qa_nil)) (qa_cons (qe_tup (qa_cons qe_str (qa_cons qe_int (qa_cons qe_int qa_nil)))) (qa_cons (qe_op q_add (qe_ix q_ix (qe_var 7) qe_int) (qe_tup (qa_cons qe_int qa_nil))) (qa_cons (qe_callTy q_list rfl T.n_list PyProof.Rows.boot_list (qa_cons (qe_ix q_ix (qe_var 7) qe_int) qa_nil)) (qa_cons (qe_slice (qe_ix q_ix (qe_var 7) qe_int) qo_none (qo_some qe_int)) (qa_cons (qe_tup (qa_cons (qe_ix q_ix (qe_ix q_ix (qe_var 7) qe_int) qe_int) (qa_cons qe_bl qa_nil))) (qa_cons qe_non (qa_cons qe_str (qa_cons (qe_tup (qa_cons qe_str (qa_cons qe_int qa_nil))) (qa_cons (qe_tup (qa_cons qe_str (qa_cons qe_int (qa_cons qe_int (qa_cons qe_int qa_nil))))) qa_nil))))))))))))) (qss_cons (qs_for (passes_of rfl) rfl (qi_sq (qe_op q_add (qe_var 5) (qe_var 7))) (qg_name 3 sc_law.nd) (qss_cons (qs_set 9 sc_law.nd (qe_and (qe_cmp (q_in (hu65 hr)).op (qe_var 3) (qe_var 7)) (qe_one (qe_call (ok_Lalike T) (hr.mono (by decide)) (takes_of rfl rfl rfl rfl) rfl (qa_cons (qe_var 3) (qa_cons (qe_ix q_ix (qe_comp (own := [("one", 16)]) rfl sc_law.nd (qi_sq (qe_var 7)) (blkOk_by (N := ["script", "row", "thing", "value", "turn", "some", "call", "names", "line", "good", "made", "state", "answers", "told", "answer", "ask", "one"]) (sc := defScope s_law) (own := [("one", 16)]) (by decide +kernel)) (fun _ _ _ _ _ => (qg_name 16 sc_law.nd)) (fun _ _ _ _ _ => (qts_one (qt_cmp (q_eq (hu64 hr)).op (qe_var 16) (qe_var 3)))) (fun _ _ _ _ _ => (qe_var 16))) qe_int) qa_nil)))))) (qss_cons (qs_if (qt_not (qt_val (qe_call (ok_Lalike T) (hr.mono (by decide)) (takes_of rfl rfl rfl rfl) rfl (qa_cons (qe_call (ok_is_call T) (hr.mono (by decide)) (takes_of rfl rfl rfl rfl) rfl (qa_cons (qe_var 2) (qa_cons (qe_var 3) qa_nil))) (qa_cons (qe_var 9) qa_nil))))) (qss_one (qs_ret qe_bl)) qss_nil) (qss_one (qs_if (QW.qt (qw_and (qt_not (qt_val (qe_var 9))) (qw_and1 (qt_cmp (q_ne (hu64 hr)).op (qe_refN (k := 17) U.r_ref rfl rfl TB hc rfl (hr.mono (by decide)) (lamS_by (by rfl)) (fun A outer s H E f0 c0 hr => (qe_call (ok_applied T) (hr.mono (by decide)) (takes_of rfl rfl rfl rfl) rfl (qa_cons (qe_var 2) (qa_cons (qe_ix q_ix (qe_var 8) qe_int) (qa_cons (qe_var 3) qa_nil)))))) qe_str)))) (qss_one (qs_ret qe_bl)) qss_nil))))) (qss_cons (qs_for (passes_of rfl) rfl (qi_sq (qe_lst (qa_cons (qe_tup (qa_cons qe_int (qa_cons qe_int qa_nil))) (qa_cons qe_str (qa_cons (qe_lst (qa_cons qe_int qa_nil)) (qa_cons (qe_un q_neg qe_int) (qa_cons qe_int (qa_cons (qe_tup (qa_cons (qe_tup qa_nil) qa_nil)) qa_nil)))))))) (qg_name 3 sc_law.nd) (qss_one (qs_if (qt_cmp (q_ne (hu64 hr)).op (qe_refN (k := 17) U.r_ref rfl rfl TB hc rfl (hr.mono (by decide)) (lamS_by (by rfl)) (fun A outer s H E f0 c0 hr => (qe_call (ok_applied T) (hr.mono (by decide)) (takes_of rfl rfl rfl rfl) rfl (qa_cons (qe_var 2) (qa_cons (qe_var 3) (qa_cons (qe_ix q_ix (qe_var 7) qe_int) qa_nil)))))) qe_str) (qss_one (qs_ret qe_bl)) qss_nil))) (qss_cons (qs_par3 10 11 12 rfl sc_law.nd (qa_cons (qe_callTy q_tuple rfl T.n_tuple PyProof.Rows.boot_tuple (qa_cons (qe_comp (own := [("turn", 4)]) rfl sc_law.nd (qi_range1 rfl T.n_range (qa_cons (qe_call (ok_Ltaken T) (hr.mono (by decide)) (takes_of rfl rfl rfl rfl) rfl (qa_cons (qe_var 1) (qa_cons qe_int qa_nil))) qa_nil)) (blkOk_by (N := ["script", "row", "thing", "value", "turn", "some", "call", "names", "line", "good", "made", "state", "answers", "told", "answer", "ask", "one"]) (sc := defScope s_law) (own := [("turn", 4)]) (by decide +kernel)) (fun _ _ _ _ _ => (qg_name 4 sc_law.nd)) (fun _ _ _ _ _ => qts_nil) (fun _ _ _ _ _ => (qe_call (ok_Lpick T) (hr.mono (by decide)) takes0 rfl (qa_cons (qe_var 1) (qa_cons (qe_var 7) qa_nil))))) qa_nil)) (qa_cons (qe_ix q_ix (qe_var 8) qe_int) (qa_cons (qe_tup qa_nil) qa_nil)))) (qss_cons (qs_for (passes_of rfl) rfl (qi_sq (qe_var 10)) (qg_name 6 sc_law.nd) (qss_cons (qs_asg (qe_call (ok_Ldo T) (hr.mono (by decide)) (takes_of rfl rfl rfl rfl) rfl (qa_cons (qe_var 2) (qa_cons (qe_var 11) (qa_cons (qe_var 6) qa_nil)))) (qg_tup rfl (qgs_cons (qg_name 11 sc_law.nd) (qgs_cons (qg_name 14 sc_law.nd) qgs_nil)))) (qss_one (qs_set 12 sc_law.nd (qe_op q_add (qe_var 12) (qe_tup (qa_cons (qe_var 14) qa_nil))))))) (qss_cons (qs_if (qt_not (qt_val (qe_call (ok_Lalike T) (hr.mono (by decide)) (takes_of rfl rfl rfl rfl) rfl (qa_cons (qe_call (ok_replayed T) (hr.mono (by decide)) (takes_of rfl rfl rfl rfl) rfl (qa_cons (qe_var 2) (qa_cons (qe_var 10) qa_nil))) (qa_cons (qe_tup (qa_cons (qe_var 12) (qa_cons (qe_var 11) qa_nil))) qa_nil))))) (qss_one (qs_ret qe_bl)) qss_nil) (qss_one (qs_ret (qe_cmp (q_eq (hu64 hr)).op (qe_comp (own := [("value", 3)]) rfl sc_law.nd (qi_sq (qe_lst (qa_cons qe_non (qa_cons (qe_callTy q_list rfl T.n_list PyProof.Rows.boot_list (qa_cons (qe_var 10) qa_nil)) (qa_cons (qe_op q_add (qe_var 10) (qe_tup (qa_cons qe_non qa_nil))) (qa_cons (qe_tup (qa_cons (qe_op q_add (qe_slice (qe_ix q_ix (qe_var 7) qe_int) qo_none (qo_some qe_int)) (qe_tup (qa_cons qe_int (qa_cons qe_int qa_nil)))) qa_nil)) qa_nil)))))) (blkOk_by (N := ["script", "row", "thing", "value", "turn", "some", "call", "names", "line", "good", "made", "state", "answers", "told", "answer", "ask", "one"]) (sc := defScope s_law) (own := [("value", 3)]) (by decide +kernel)) (fun _ _ _ _ _ => (qg_name 3 sc_law.nd)) (fun _ _ _ _ _ => qts_nil) (fun _ _ _ _ _ => (qe_refN (k := 17) U.r_ref rfl rfl TB hc rfl (hr.mono (by decide)) (lamS_by (by rfl)) (fun A outer s H E f0 c0 hr => (qe_call (ok_replayed T) (hr.mono (by decide)) (takes_of rfl rfl rfl rfl) rfl (qa_cons (qe_var 2) (qa_cons (qe_var 3) qa_nil))))))) (qe_rep (qa_cons qe_str qa_nil) qe_int)))))))))))))))))
end K00
/-! part HD -/
set_option Elab.async false
set_option linter.all false
set_option maxRecDepth 100000
set_option maxHeartbeats 0
namespace K00
open PySem PySem.Spec PyProof.Rows L2 LamX DD
def dd_is_integer : He.DefD := ⟨("is_integer", none), "is_integer", "is_integer", defArgs s_is_integer, defBody s_is_integer, defScope s_is_integer, [], []⟩
def dd_is_within : He.DefD := ⟨("is_within", none), "is_within", "is_within", defArgs s_is_within, defBody s_is_within, defScope s_is_within, [], []⟩
def dd_are_within : He.DefD := ⟨("are_within", none), "are_within", "are_within", defArgs s_are_within, defBody s_are_within, defScope s_are_within, [], []⟩
def dd_same : He.DefD := ⟨("same", none), "same", "same", defArgs s_same, defBody s_same, defScope s_same, [], []⟩
def dd_has_size : He.DefD := ⟨("_has_size", none), "_has_size", "_has_size", defArgs s_has_size, defBody s_has_size, defScope s_has_size, [], []⟩
def dd_has_room_and_size : He.DefD := ⟨("_has_room_and_size", none), "_has_room_and_size", "_has_room_and_size", defArgs s_has_room_and_size, defBody s_has_room_and_size, defScope s_has_room_and_size, [], []⟩
def dd_has_amounts : He.DefD := ⟨("_has_amounts", none), "_has_amounts", "_has_amounts", defArgs s_has_amounts, defBody s_has_amounts, defScope s_has_amounts, [], []⟩
def dd_is_pair : He.DefD := ⟨("_is_pair", none), "_is_pair", "_is_pair", defArgs s_is_pair, defBody s_is_pair, defScope s_is_pair, [], []⟩
def dd_is_row : He.DefD := ⟨("_is_row", none), "_is_row", "_is_row", defArgs s_is_row, defBody s_is_row, defScope s_is_row, [], []⟩
def dd_has_rows : He.DefD := ⟨("_has_rows", none), "_has_rows", "_has_rows", defArgs s_has_rows, defBody s_has_rows, defScope s_has_rows, [], []⟩
def dd_has_form : He.DefD := ⟨("has_form", none), "has_form", "has_form", defArgs s_has_form, defBody s_has_form, defScope s_has_form, [], []⟩
def dd_counter_calls : He.DefD := ⟨("_counter_calls", none), "_counter_calls", "_counter_calls", defArgs s_counter_calls, defBody s_counter_calls, defScope s_counter_calls, [], []⟩
def dd_counter_step : He.DefD := ⟨("_counter_step", none), "_counter_step", "_counter_step", defArgs s_counter_step, defBody s_counter_step, defScope s_counter_step, [], []⟩
def dd_register_calls : He.DefD := ⟨("_register_calls", none), "_register_calls", "_register_calls", defArgs s_register_calls, defBody s_register_calls, defScope s_register_calls, [], []⟩
def dd_register_step : He.DefD := ⟨("_register_step", none), "_register_step", "_register_step", defArgs s_register_step, defBody s_register_step, defScope s_register_step, [], []⟩
def dd_stack_calls : He.DefD := ⟨("_stack_calls", none), "_stack_calls", "_stack_calls", defArgs s_stack_calls, defBody s_stack_calls, defScope s_stack_calls, [], []⟩
def dd_put_at_end : He.DefD := ⟨("_put_at_end", none), "_put_at_end", "_put_at_end", defArgs s_put_at_end, defBody s_put_at_end, defScope s_put_at_end, [], []⟩
def dd_stack_step : He.DefD := ⟨("_stack_step", none), "_stack_step", "_stack_step", defArgs s_stack_step, defBody s_stack_step, defScope s_stack_step, [], []⟩
def dd_queue_calls : He.DefD := ⟨("_queue_calls", none), "_queue_calls", "_queue_calls", defArgs s_queue_calls, defBody s_queue_calls, defScope s_queue_calls, [], []⟩
def dd_queue_step : He.DefD := ⟨("_queue_step", none), "_queue_step", "_queue_step", defArgs s_queue_step, defBody s_queue_step, defScope s_queue_step, [], []⟩
def dd_set_calls : He.DefD := ⟨("_set_calls", none), "_set_calls", "_set_calls", defArgs s_set_calls, defBody s_set_calls, defScope s_set_calls, [], []⟩
def dd_set_step : He.DefD := ⟨("_set_step", none), "_set_step", "_set_step", defArgs s_set_step, defBody s_set_step, defScope s_set_step, [], []⟩
def dd_agree_calls : He.DefD := ⟨("_agree_calls", none), "_agree_calls", "_agree_calls", defArgs s_agree_calls, defBody s_agree_calls, defScope s_agree_calls, [], []⟩
def dd_agree_step : He.DefD := ⟨("_agree_step", none), "_agree_step", "_agree_step", defArgs s_agree_step, defBody s_agree_step, defScope s_agree_step, [], []⟩
def dd_bank_calls : He.DefD := ⟨("_bank_calls", none), "_bank_calls", "_bank_calls", defArgs s_bank_calls, defBody s_bank_calls, defScope s_bank_calls, [], []⟩
def dd_bank_step : He.DefD := ⟨("_bank_step", none), "_bank_step", "_bank_step", defArgs s_bank_step, defBody s_bank_step, defScope s_bank_step, [], []⟩
def dd_table_calls : He.DefD := ⟨("_table_calls", none), "_table_calls", "_table_calls", defArgs s_table_calls, defBody s_table_calls, defScope s_table_calls, [], []⟩
def dd_table_step : He.DefD := ⟨("_table_step", none), "_table_step", "_table_step", defArgs s_table_step, defBody s_table_step, defScope s_table_step, [], []⟩
def dd_call_rows : He.DefD := ⟨("call_rows", none), "call_rows", "call_rows", defArgs s_call_rows, defBody s_call_rows, defScope s_call_rows, [], []⟩
def dd_step : He.DefD := ⟨("step", none), "step", "step", defArgs s_step, defBody s_step, defScope s_step, [], []⟩
def dd_start : He.DefD := ⟨("start", none), "start", "start", defArgs s_start, defBody s_start, defScope s_start, [], []⟩
def dd_reached : He.DefD := ⟨("reached", none), "reached", "reached", defArgs s_reached, defBody s_reached, defScope s_reached, [], []⟩
def dd_run : He.DefD := ⟨("run", none), "run", "run", defArgs s_run, defBody s_run, defScope s_run, [], []⟩
def dd_has_call : He.DefD := ⟨("has_call", none), "has_call", "has_call", defArgs s_has_call, defBody s_has_call, defScope s_has_call, [], []⟩
def dd_is_ascending : He.DefD := ⟨("_is_ascending", none), "_is_ascending", "_is_ascending", defArgs s_is_ascending, defBody s_is_ascending, defScope s_is_ascending, [], []⟩
def dd_has_state : He.DefD := ⟨("has_state", none), "has_state", "has_state", defArgs s_has_state, defBody s_has_state, defScope s_has_state, [], []⟩
def dd_check_object : He.DefD := ⟨("check_object", none), "check_object", "check_object", defArgs s_check_object, defBody s_check_object, defScope s_check_object, [], []⟩
def dd_check_call : He.DefD := ⟨("check_call", none), "check_call", "check_call", defArgs s_check_call, defBody s_check_call, defScope s_check_call, [], []⟩
def dd_check_calls : He.DefD := ⟨("check_calls", none), "check_calls", "check_calls", defArgs s_check_calls, defBody s_check_calls, defScope s_check_calls, [], []⟩
def dd_check_state : He.DefD := ⟨("check_state", none), "check_state", "check_state", defArgs s_check_state, defBody s_check_state, defScope s_check_state, [], []⟩
def dd_is_object : He.DefD := ⟨("is_object", none), "is_object", "is_object", defArgs s_is_object, defBody s_is_object, defScope s_is_object, [], []⟩
def dd_calls : He.DefD := ⟨("calls", none), "calls", "calls", defArgs s_calls, defBody s_calls, defScope s_calls, [], []⟩
def dd_is_call : He.DefD := ⟨("is_call", none), "is_call", "is_call", defArgs s_is_call, defBody s_is_call, defScope s_is_call, [], []⟩
def dd_first_state : He.DefD := ⟨("first_state", none), "first_state", "first_state", defArgs s_first_state, defBody s_first_state, defScope s_first_state, [], []⟩
def dd_states : He.DefD := ⟨("states", none), "states", "states", defArgs s_states, defBody s_states, defScope s_states, [], []⟩
def dd_applied : He.DefD := ⟨("applied", none), "applied", "applied", defArgs s_applied, defBody s_applied, defScope s_applied, [], []⟩
def dd_replayed : He.DefD := ⟨("replayed", none), "replayed", "replayed", defArgs s_replayed, defBody s_replayed, defScope s_replayed, [], []⟩
def dd_Ltaken : He.DefD := ⟨("_law_taken", none), "_law_taken", "_law_taken", defArgs s_Ltaken, defBody s_Ltaken, defScope s_Ltaken, [], []⟩
def dd_Lpick : He.DefD := ⟨("_law_pick", none), "_law_pick", "_law_pick", defArgs s_Lpick, defBody s_Lpick, defScope s_Lpick, [], []⟩
def dd_Lalike : He.DefD := ⟨("_law_alike", none), "_law_alike", "_law_alike", defArgs s_Lalike, defBody s_Lalike, defScope s_Lalike, [], []⟩
def dd_Lobject : He.DefD := ⟨("_law_object", none), "_law_object", "_law_object", defArgs s_Lobject, defBody s_Lobject, defScope s_Lobject, [], []⟩
def dd_Lcalls : He.DefD := ⟨("_law_calls", none), "_law_calls", "_law_calls", defArgs s_Lcalls, defBody s_Lcalls, defScope s_Lcalls, [], []⟩
def dd_Lfirst : He.DefD := ⟨("_law_first", none), "_law_first", "_law_first", defArgs s_Lfirst, defBody s_Lfirst, defScope s_Lfirst, [], []⟩
def dd_Ldo : He.DefD := ⟨("_law_do", none), "_law_do", "_law_do", defArgs s_Ldo, defBody s_Ldo, defScope s_Ldo, [], []⟩
def dd_Lstates : He.DefD := ⟨("_law_states", none), "_law_states", "_law_states", defArgs s_Lstates, defBody s_Lstates, defScope s_Lstates, [], []⟩
def dd_Lsmall : He.DefD := ⟨("_law_small", none), "_law_small", "_law_small", defArgs s_Lsmall, defBody s_Lsmall, defScope s_Lsmall, [], []⟩
def dd_Lis_number : He.DefD := ⟨("_law_is_number", none), "_law_is_number", "_law_is_number", defArgs s_Lis_number, defBody s_Lis_number, defScope s_Lis_number, [], []⟩
def dd_Lis_rows : He.DefD := ⟨("_law_is_rows", none), "_law_is_rows", "_law_is_rows", defArgs s_Lis_rows, defBody s_Lis_rows, defScope s_Lis_rows, [], []⟩
def dd_Lis_object : He.DefD := ⟨("_law_is_object", none), "_law_is_object", "_law_is_object", defArgs s_Lis_object, defBody s_Lis_object, defScope s_Lis_object, [], []⟩
def dd_Lbent : He.DefD := ⟨("_law_bent", none), "_law_bent", "_law_bent", defArgs s_Lbent, defBody s_Lbent, defScope s_Lbent, [], []⟩
def dd_Lrefused : He.DefD := ⟨("_law_refused", none), "_law_refused", "_law_refused", defArgs s_Lrefused, defBody s_Lrefused, defScope s_Lrefused, [], []⟩
def dd_law : He.DefD := ⟨("law", none), "law", "law", defArgs s_law, defBody s_law, defScope s_law, [], []⟩
def fns0 : List He.DefD := [dd_is_integer, dd_is_within, dd_are_within, dd_same, dd_has_size, dd_has_room_and_size, dd_has_amounts, dd_is_pair, dd_is_row, dd_has_rows, dd_has_form, dd_counter_calls, dd_counter_step, dd_register_calls, dd_register_step, dd_stack_calls, dd_put_at_end, dd_stack_step, dd_queue_calls, dd_queue_step, dd_set_calls, dd_set_step, dd_agree_calls, dd_agree_step, dd_bank_calls, dd_bank_step, dd_table_calls, dd_table_step, dd_call_rows, dd_step]
def fns1 : List He.DefD := [dd_start, dd_reached, dd_run, dd_has_call, dd_is_ascending, dd_has_state, dd_check_object, dd_check_call, dd_check_calls, dd_check_state, dd_is_object, dd_calls, dd_is_call, dd_first_state, dd_states, dd_applied, dd_replayed, dd_Ltaken, dd_Lpick, dd_Lalike, dd_Lobject, dd_Lcalls, dd_Lfirst, dd_Ldo, dd_Lstates, dd_Lsmall, dd_Lis_number, dd_Lis_rows, dd_Lis_object, dd_Lbent]
def fns2 : List He.DefD := [dd_Lrefused, dd_law]
def fns : List He.DefD := fns0 ++ fns1 ++ fns2
def fas0 : List He.Fa := [.glo "is_integer", .glo "is_within", .glo "are_within", .glo "same", .glo "_has_size", .glo "_has_room_and_size", .glo "_has_amounts", .glo "_is_pair", .glo "_is_row", .glo "_has_rows", .glo "has_form", .glo "_counter_calls", .glo "_counter_step", .glo "_register_calls", .glo "_register_step", .glo "_stack_calls", .glo "_put_at_end", .glo "_stack_step", .glo "_queue_calls", .glo "_queue_step", .glo "_set_calls", .glo "_set_step", .glo "_agree_calls", .glo "_agree_step", .glo "_bank_calls", .glo "_bank_step", .glo "_table_calls", .glo "_table_step", .glo "call_rows", .glo "step"]
def fas1 : List He.Fa := [.glo "start", .glo "reached", .glo "run", .glo "has_call", .glo "_is_ascending", .glo "has_state", .glo "check_object", .glo "check_call", .glo "check_calls", .glo "check_state", .glo "is_object", .glo "calls", .glo "is_call", .glo "first_state", .glo "states", .glo "applied", .glo "replayed", .glo "_law_taken", .glo "_law_pick", .glo "_law_alike", .glo "_law_object", .glo "_law_calls", .glo "_law_first", .glo "_law_do", .glo "_law_states", .glo "_law_small", .glo "_law_is_number", .glo "_law_is_rows", .glo "_law_is_object", .glo "_law_bent"]
def fas2 : List He.Fa := [.glo "_law_refused", .glo "law", .free "all", .free "any", .free "int", .free "isinstance", .free "len", .free "list", .free "range", .free "sorted", .free "sum", .free "tuple", .free "zip", .free "bool", .free "str", .glo "SharedError", .glo "BadObject", .glo "BadCall", .glo "BadState", .exc "SharedError", .exc "BadObject", .exc "BadCall", .exc "BadState", .glo "_FORMS", .glo "_CALLS", .glo "_STEPS", .exm "BadObject" "BadObject" true, .exm "BadObject" "BadState" false, .exm "BadObject" "BadCall" false, .exm "BadState" "BadObject" false]
def fas3 : List He.Fa := [.exm "BadState" "BadState" true, .exm "BadState" "BadCall" false, .exm "BadCall" "BadObject" false, .exm "BadCall" "BadState" false, .exm "BadCall" "BadCall" true]
def fas : List He.Fa := fas0 ++ fas1 ++ fas2 ++ fas3
def tsK : List He.Tab := [(fun K => He.ga K "_FORMS", ["counter", "register", "stack", "queue", "set", "agree", "bank", "table"]), (fun K => He.ga K "_CALLS", ["counter", "register", "stack", "queue", "set", "agree", "bank", "table"]), (fun K => He.ga K "_STEPS", ["counter", "register", "stack", "queue", "set", "agree", "bank", "table"])]
def tfK : List He.Defn := [("law", none)]
def exK (K : PySem.W.Frag) : Bool := He.valsB K (He.ga K "_FORMS") [("counter", .glo "_has_size"), ("register", .glo "_has_size"), ("stack", .glo "_has_room_and_size"), ("queue", .glo "_has_room_and_size"), ("set", .glo "_has_size"), ("agree", .glo "_has_size"), ("bank", .glo "_has_amounts"), ("table", .glo "_has_rows")] && He.valsB K (He.ga K "_CALLS") [("counter", .glo "_counter_calls"), ("register", .glo "_register_calls"), ("stack", .glo "_stack_calls"), ("queue", .glo "_queue_calls"), ("set", .glo "_set_calls"), ("agree", .glo "_agree_calls"), ("bank", .glo "_bank_calls"), ("table", .glo "_table_calls")] && He.valsB K (He.ga K "_STEPS") [("counter", .glo "_counter_step"), ("register", .glo "_register_step"), ("stack", .glo "_stack_step"), ("queue", .glo "_queue_step"), ("set", .glo "_set_step"), ("agree", .glo "_agree_step"), ("bank", .glo "_bank_step"), ("table", .glo "_table_step")]
def loose0 : List PySem.Str := ["__name__", "SharedError", "BadObject", "BadCall", "BadState", "is_integer", "is_within", "are_within", "same", "_has_size", "_has_room_and_size", "_has_amounts", "_is_pair", "_is_row", "_has_rows", "_FORMS", "has_form", "_counter_calls", "_counter_step", "_register_calls", "_register_step", "_stack_calls", "_stack_step", "_queue_calls", "_queue_step"]
def loose1 : List PySem.Str := ["_put_at_end", "_set_calls", "_set_step", "_agree_calls", "_agree_step", "_bank_calls", "_bank_step", "_table_calls", "_table_step", "_CALLS", "_STEPS", "call_rows", "step", "start", "reached", "run", "has_call", "has_state", "_is_ascending", "check_object", "check_call", "check_calls", "check_state", "is_object", "calls"]
def loose2 : List PySem.Str := ["is_call", "first_state", "states", "applied", "replayed", "_law_taken", "_law_pick", "_law_alike", "_law_object", "_law_calls", "_law_first", "_law_do", "_law_states", "_law_small", "_law_is_number", "_law_is_rows", "_law_is_object", "_law_bent", "_law_refused"]
def loose : List PySem.Str := loose0 ++ loose1 ++ loose2
abbrev RO : PySem.W.OpenRow := PySem.W.OpenLaw.row PySem.Challenge.rw_helpedcalls_k00_whole_objects
abbrev hk : PySem.W.Hook := He.hookX 6 fas fns tsK tfK exK
def ob (s : PySem.W.SharedT) : He.AlX := He.obsX 6 fas fns tsK tfK exK (HandSHeadRun.getT s)
theorem ob_eq (s : PySem.W.SharedT) : ob s = hk.obs s.abs := He.obsX_eq (HandSHeadRun.getT_eq s)
theorem run_f (w : World) : HandSHeadRun.RunEq RO (PySem.W.view RO.prog [75]) hk ob 20000 loose (w.withFollow "special-get-raises" false) := by
  intro os
  kernel_rfl
theorem run_t (w : World) : HandSHeadRun.RunEq RO (PySem.W.view RO.prog [75]) hk ob 20000 loose (w.withFollow "special-get-raises" true) := by
  intro os
  kernel_rfl
theorem headrun (w : World) : HandSHeadRun.RunEq RO (PySem.W.view RO.prog [75]) hk ob 20000 loose w :=
  PySem.W.byRow2 "special-get-raises" (P := fun w => HandSHeadRun.RunEq RO (PySem.W.view RO.prog [75]) hk ob 20000 loose w) run_f run_t w
end K00
/-! part DZZ -/
set_option Elab.async false
set_option linter.all false
set_option maxRecDepth 100000
set_option maxHeartbeats 4000000
namespace DD
open PySem PySem.Spec PyProof.Rows L2 LamX

/-! ### from a head's facts to the text's -/
section
variable {K : PySem.W.Frag} {h : Heap} {mg : Str → Option Value} {w : World}
theorem fun_of {x : Str} {st : Stmt} {f : Addr} {fd : FuncData} (F : FunD K x x (defArgs st) (defBody st) (defScope st) [] [] f fd) : Fun K x x st f fd := by
  obtain ⟨oc, od, dV, kV, doc, pm, an, cdv, ct, osl, e, lk, hc, hD, hK⟩ := F.ex
  rcases hD with ⟨_, rfl⟩ | ⟨z, _⟩
  · exact ⟨⟨oc, od, kV, doc, pm, an, cdv, ct, osl, e, lk, hc⟩, F.kp⟩
  · exact absurd rfl z
theorem defAt_of (X : K.In h) (G : h.Ns mainGlobals mg) {x : Str} {st : Stmt} {ps : List Str} (F : ∃ fd, FunD K x x (defArgs st) (defBody st) (defScope st) [] [] (He.fAd K (x, none)) fd) (c : (He.Fa.glo x).ok K = true)
    (hb : ∀ (kV doc pm : Value) (an : Option Addr) (cdv ct : Value) (us : List Value), us.length = ps.length → bindArgs (PySem.W.fnOf x x (defArgs st) (defBody st) (defScope st) .none kV doc pm an cdv ct) ⟨us, []⟩ = pure (ps.zip us)) : DefAt K mg x st ps := by
  obtain ⟨fd, F⟩ := F
  exact ⟨_, fd, fun_of F, He.glo_ok X G c, F.bindsN hb⟩
theorem exo_of (X : K.In h) (G : h.Ns mainGlobals mg) {x : Str} (c : (He.Fa.glo x).ok K = true) (d : (He.Fa.exc x).ok K = true) : Exo K mg x := by
  obtain ⟨h1, h2, h3, h4⟩ := He.exc_ok d
  exact ⟨He.ga K x, He.glo_ok X G c, h1, h2, h3, h4⟩
theorem find_none {z : Str} {hs : Params} : ∀ {l : List DictEntry} {ks : List Str}, l.map He.keyOf = He.keysIn hs ks → z ∉ ks → l.find? (·.key.isStr z) = none ∧ l.any (·.refKey) = false
  | [], _, _, _ => ⟨rfl, rfl⟩
  | e :: l, [], h, _ => by cases h
  | e :: l, k :: ks, h, hz => by
    have h1 : He.keyOf e :: l.map He.keyOf = some (k, PyData.keyHash hs k) :: He.keysIn hs ks := h
    injection h1 with h2 h3
    obtain ⟨g1, g2⟩ := find_none h3 fun m => hz (List.mem_cons_of_mem _ m)
    unfold He.keyOf at h2
    split at h2
    · rename_i x t q
      have h4 := (Prod.mk.inj (Option.some.inj h2)).1
      subst h4
      have n1 : e.key.isStr z = false := by
        rw [q]
        show (x == z) = false
        exact beq_eq_false_iff_ne.mpr fun e => hz (e ▸ List.mem_cons_self)
      refine ⟨by rw [List.find?_cons, n1]; exact g1, ?_⟩
      rw [List.any_cons, g2, Bool.or_false]
      unfold DictEntry.refKey
      rw [q]
    · cases h2
theorem lookup_some {q : Str × Str} : ∀ {tb : List (Str × Str)}, q ∈ tb → (tb.lookup q.1).isSome = true
  | (k, v) :: tb, hq => by
    rw [List.lookup_cons]
    cases hb : (q.1 == k) with
    | true => rfl
    | false =>
      rcases List.mem_cons.mp hq with z | z
      · rw [z] at hb; simp at hb
      · exact lookup_some z
theorem tab_of (X : K.In h) (G : h.Ns mainGlobals mg) {x : Str} {ks : List Str} {tb : List (Str × Str)} (c : (He.Fa.glo x).ok K = true) (d : He.dicW K (He.ga K x) = some (He.keysIn w.params ks)) (v : He.valsB K (He.ga K x) (tb.map fun q => (q.1, He.Dv.glo q.2)) = true)
    (hk : tb.map (·.1) = ks) (hg : ∀ q ∈ tb, mg q.2 = some (.ref (He.ga K q.2))) : Tab K w mg x tb := by
  obtain ⟨es, n, D⟩ := He.dicW_ok d
  refine ⟨He.ga K x, es, n, He.glo_ok X G c, D, fun z => ?_⟩
  cases e : tb.lookup z with
  | some f =>
    have hm := PySem.mem_of_lookup e
    obtain ⟨u, h1, h2⟩ := He.valsB_ok v (q := (z, He.Dv.glo f)) (List.mem_map.mpr ⟨(z, f), hm, rfl⟩)
    have h3 : u = .ref (He.ga K f) := h2
    exact ⟨_, h1, _, by rw [h3], hg _ hm⟩
  | none =>
    have hz : z ∉ ks := fun hm => by
      rw [← hk] at hm
      obtain ⟨q, hq, rfl⟩ := List.mem_map.mp hm
      have : (tb.lookup q.1).isSome = true := by
        exact lookup_some hq
      rw [e] at this
      cases this
    refine ⟨none, ?_, rfl⟩
    unfold He.dicW at d
    unfold PySem.W.nsIn
    obtain ⟨lk, _⟩ := D
    rw [lk] at d ⊢
    dsimp only at d ⊢
    split at d
    · obtain ⟨g1, g2⟩ := find_none (Option.some.inj d) hz
      rw [g1, g2]
      rfl
    · cases d
end
theorem says_tab {fa : List He.Fa} {fn : List He.DefD} {ts : List He.Tab} {w : World} {K : PySem.W.Frag} (c : He.SaysT fa fn ts w K) (i : Nat) {t : He.Tab} (h : ts[i]? = some t := by rfl) : He.dicW K (t.1 K) = some (He.keysIn w.params t.2) := by
  have e : ts.map (fun t => He.dicW K (t.1 K)) = ts.map fun t => some (He.keysIn w.params t.2) := congrArg (fun z : He.AlT => z.2) c
  have e2 := congrArg (fun l => l[i]?) e
  simp only [List.getElem?_map, h, Option.map_some] at e2
  exact Option.some.inj e2
theorem all_nil {α : Type} {p : α → Prop} : ∀ q ∈ ([] : List α), p q := fun q h => by cases h
theorem all_cons {α : Type} {p : α → Prop} {a : α} {l : List α} (h : p a) (t : ∀ q ∈ l, p q) : ∀ q ∈ a :: l, p q := fun q hq => by
  rcases List.mem_cons.mp hq with e | e
  · rw [e]; exact h
  · exact t q e
/-- the script as the reading sees it -/
theorem rp_script {K : PySem.W.Frag} {H : Hp} {a : Addr} {ns : List Int} (h : SqL K H a (ns.map V.int)) : Rp K ⟨[], []⟩ H (.ref a) (.list (ns.map PyData.int)) := by
  have all : ∀ ns : List Int, RpAll K ⟨[], []⟩ H (ns.map V.int) (ns.map PyData.int) := fun ns => by
    induction ns with
    | nil => exact .nil
    | cons n ns ih => exact .cons (.int n) ih
  refine .lst ?_ (all ns)
  rcases h with (h | ⟨o, h⟩) | h
  · exact .inl ⟨h, by simp [Lv.no]⟩
  · exact .inr (.inl ⟨o, h⟩)
  · exact .inr (.inr h)
theorem sto_nil {wd : World} {K : PySem.W.Frag} {H : Hp} : StoRel wd K ⟨[], []⟩ H [] := ⟨List.nodup_nil, rfl, fun n a o h => (by simp at h), fun a h => (by cases h), fun a h => (by cases h)⟩
end DD
/-! part G3 -/
set_option Elab.async false
set_option linter.all false
set_option maxRecDepth 100000
set_option maxHeartbeats 0
namespace K00
open PySem PySem.Spec PyProof.Rows L2 LamX DD
theorem sc_Lrefused : FnScope ["work"] ["work"] (defScope s_Lrefused) := ⟨rfl, rfl, rfl, by decide +kernel, rfl, by decide +kernel, by decide +kernel⟩
section
variable {K : PySem.W.Frag} {h : Heap} {mg : Str → Option Value} {w : World} (X : K.In h) (G : h.Ns mainGlobals mg) (c : He.SaysX fas fns tsK tfK exK w h K)
include X G c
theorem x_is_integer : DefAt K mg "is_integer" s_is_integer ["value"] := defAt_of X G (c.t.d.def_ 0 (d := dd_is_integer) rfl) (c.t.d.fact 0 (f := He.Fa.glo "is_integer") rfl) (fun _ _ _ _ _ _ us hl => match us, hl with | [_], _ => rfl)
theorem x_is_within : DefAt K mg "is_within" s_is_within ["value", "low", "high"] := defAt_of X G (c.t.d.def_ 1 (d := dd_is_within) rfl) (c.t.d.fact 1 (f := He.Fa.glo "is_within") rfl) (fun _ _ _ _ _ _ us hl => match us, hl with | [_, _, _], _ => rfl)
theorem x_are_within : DefAt K mg "are_within" s_are_within ["value", "low", "high"] := defAt_of X G (c.t.d.def_ 2 (d := dd_are_within) rfl) (c.t.d.fact 2 (f := He.Fa.glo "are_within") rfl) (fun _ _ _ _ _ _ us hl => match us, hl with | [_, _, _], _ => rfl)
theorem x_same : DefAt K mg "same" s_same ["one", "other"] := defAt_of X G (c.t.d.def_ 3 (d := dd_same) rfl) (c.t.d.fact 3 (f := He.Fa.glo "same") rfl) (fun _ _ _ _ _ _ us hl => match us, hl with | [_, _], _ => rfl)
theorem x_has_size : DefAt K mg "_has_size" s_has_size ["value"] := defAt_of X G (c.t.d.def_ 4 (d := dd_has_size) rfl) (c.t.d.fact 4 (f := He.Fa.glo "_has_size") rfl) (fun _ _ _ _ _ _ us hl => match us, hl with | [_], _ => rfl)
theorem x_has_room_and_size : DefAt K mg "_has_room_and_size" s_has_room_and_size ["value"] := defAt_of X G (c.t.d.def_ 5 (d := dd_has_room_and_size) rfl) (c.t.d.fact 5 (f := He.Fa.glo "_has_room_and_size") rfl) (fun _ _ _ _ _ _ us hl => match us, hl with | [_], _ => rfl)
theorem x_has_amounts : DefAt K mg "_has_amounts" s_has_amounts ["value"] := defAt_of X G (c.t.d.def_ 6 (d := dd_has_amounts) rfl) (c.t.d.fact 6 (f := He.Fa.glo "_has_amounts") rfl) (fun _ _ _ _ _ _ us hl => match us, hl with | [_], _ => rfl)
theorem x_is_pair : DefAt K mg "_is_pair" s_is_pair ["value", "many"] := defAt_of X G (c.t.d.def_ 7 (d := dd_is_pair) rfl) (c.t.d.fact 7 (f := He.Fa.glo "_is_pair") rfl) (fun _ _ _ _ _ _ us hl => match us, hl with | [_, _], _ => rfl)
theorem x_is_row : DefAt K mg "_is_row" s_is_row ["value", "many"] := defAt_of X G (c.t.d.def_ 8 (d := dd_is_row) rfl) (c.t.d.fact 8 (f := He.Fa.glo "_is_row") rfl) (fun _ _ _ _ _ _ us hl => match us, hl with | [_, _], _ => rfl)
theorem x_has_rows : DefAt K mg "_has_rows" s_has_rows ["value"] := defAt_of X G (c.t.d.def_ 9 (d := dd_has_rows) rfl) (c.t.d.fact 9 (f := He.Fa.glo "_has_rows") rfl) (fun _ _ _ _ _ _ us hl => match us, hl with | [_], _ => rfl)
theorem x_has_form : DefAt K mg "has_form" s_has_form ["value"] := defAt_of X G (c.t.d.def_ 10 (d := dd_has_form) rfl) (c.t.d.fact 10 (f := He.Fa.glo "has_form") rfl) (fun _ _ _ _ _ _ us hl => match us, hl with | [_], _ => rfl)
theorem x_counter_calls : DefAt K mg "_counter_calls" s_counter_calls ["thing"] := defAt_of X G (c.t.d.def_ 11 (d := dd_counter_calls) rfl) (c.t.d.fact 11 (f := He.Fa.glo "_counter_calls") rfl) (fun _ _ _ _ _ _ us hl => match us, hl with | [_], _ => rfl)
theorem x_counter_step : DefAt K mg "_counter_step" s_counter_step ["thing", "state", "call"] := defAt_of X G (c.t.d.def_ 12 (d := dd_counter_step) rfl) (c.t.d.fact 12 (f := He.Fa.glo "_counter_step") rfl) (fun _ _ _ _ _ _ us hl => match us, hl with | [_, _, _], _ => rfl)
theorem x_register_calls : DefAt K mg "_register_calls" s_register_calls ["thing"] := defAt_of X G (c.t.d.def_ 13 (d := dd_register_calls) rfl) (c.t.d.fact 13 (f := He.Fa.glo "_register_calls") rfl) (fun _ _ _ _ _ _ us hl => match us, hl with | [_], _ => rfl)
theorem x_register_step : DefAt K mg "_register_step" s_register_step ["thing", "state", "call"] := defAt_of X G (c.t.d.def_ 14 (d := dd_register_step) rfl) (c.t.d.fact 14 (f := He.Fa.glo "_register_step") rfl) (fun _ _ _ _ _ _ us hl => match us, hl with | [_, _, _], _ => rfl)
theorem x_stack_calls : DefAt K mg "_stack_calls" s_stack_calls ["thing"] := defAt_of X G (c.t.d.def_ 15 (d := dd_stack_calls) rfl) (c.t.d.fact 15 (f := He.Fa.glo "_stack_calls") rfl) (fun _ _ _ _ _ _ us hl => match us, hl with | [_], _ => rfl)
theorem x_put_at_end : DefAt K mg "_put_at_end" s_put_at_end ["thing", "state", "k"] := defAt_of X G (c.t.d.def_ 16 (d := dd_put_at_end) rfl) (c.t.d.fact 16 (f := He.Fa.glo "_put_at_end") rfl) (fun _ _ _ _ _ _ us hl => match us, hl with | [_, _, _], _ => rfl)
theorem x_stack_step : DefAt K mg "_stack_step" s_stack_step ["thing", "state", "call"] := defAt_of X G (c.t.d.def_ 17 (d := dd_stack_step) rfl) (c.t.d.fact 17 (f := He.Fa.glo "_stack_step") rfl) (fun _ _ _ _ _ _ us hl => match us, hl with | [_, _, _], _ => rfl)
theorem x_queue_calls : DefAt K mg "_queue_calls" s_queue_calls ["thing"] := defAt_of X G (c.t.d.def_ 18 (d := dd_queue_calls) rfl) (c.t.d.fact 18 (f := He.Fa.glo "_queue_calls") rfl) (fun _ _ _ _ _ _ us hl => match us, hl with | [_], _ => rfl)
theorem x_queue_step : DefAt K mg "_queue_step" s_queue_step ["thing", "state", "call"] := defAt_of X G (c.t.d.def_ 19 (d := dd_queue_step) rfl) (c.t.d.fact 19 (f := He.Fa.glo "_queue_step") rfl) (fun _ _ _ _ _ _ us hl => match us, hl with | [_, _, _], _ => rfl)
theorem x_set_calls : DefAt K mg "_set_calls" s_set_calls ["thing"] := defAt_of X G (c.t.d.def_ 20 (d := dd_set_calls) rfl) (c.t.d.fact 20 (f := He.Fa.glo "_set_calls") rfl) (fun _ _ _ _ _ _ us hl => match us, hl with | [_], _ => rfl)
theorem x_set_step : DefAt K mg "_set_step" s_set_step ["thing", "state", "call"] := defAt_of X G (c.t.d.def_ 21 (d := dd_set_step) rfl) (c.t.d.fact 21 (f := He.Fa.glo "_set_step") rfl) (fun _ _ _ _ _ _ us hl => match us, hl with | [_, _, _], _ => rfl)
theorem x_agree_calls : DefAt K mg "_agree_calls" s_agree_calls ["thing"] := defAt_of X G (c.t.d.def_ 22 (d := dd_agree_calls) rfl) (c.t.d.fact 22 (f := He.Fa.glo "_agree_calls") rfl) (fun _ _ _ _ _ _ us hl => match us, hl with | [_], _ => rfl)
theorem x_agree_step : DefAt K mg "_agree_step" s_agree_step ["thing", "state", "call"] := defAt_of X G (c.t.d.def_ 23 (d := dd_agree_step) rfl) (c.t.d.fact 23 (f := He.Fa.glo "_agree_step") rfl) (fun _ _ _ _ _ _ us hl => match us, hl with | [_, _, _], _ => rfl)
theorem x_bank_calls : DefAt K mg "_bank_calls" s_bank_calls ["thing"] := defAt_of X G (c.t.d.def_ 24 (d := dd_bank_calls) rfl) (c.t.d.fact 24 (f := He.Fa.glo "_bank_calls") rfl) (fun _ _ _ _ _ _ us hl => match us, hl with | [_], _ => rfl)
theorem x_bank_step : DefAt K mg "_bank_step" s_bank_step ["thing", "state", "call"] := defAt_of X G (c.t.d.def_ 25 (d := dd_bank_step) rfl) (c.t.d.fact 25 (f := He.Fa.glo "_bank_step") rfl) (fun _ _ _ _ _ _ us hl => match us, hl with | [_, _, _], _ => rfl)
theorem x_table_calls : DefAt K mg "_table_calls" s_table_calls ["thing"] := defAt_of X G (c.t.d.def_ 26 (d := dd_table_calls) rfl) (c.t.d.fact 26 (f := He.Fa.glo "_table_calls") rfl) (fun _ _ _ _ _ _ us hl => match us, hl with | [_], _ => rfl)
theorem x_table_step : DefAt K mg "_table_step" s_table_step ["thing", "state", "call"] := defAt_of X G (c.t.d.def_ 27 (d := dd_table_step) rfl) (c.t.d.fact 27 (f := He.Fa.glo "_table_step") rfl) (fun _ _ _ _ _ _ us hl => match us, hl with | [_, _, _], _ => rfl)
theorem x_call_rows : DefAt K mg "call_rows" s_call_rows ["thing"] := defAt_of X G (c.t.d.def_ 28 (d := dd_call_rows) rfl) (c.t.d.fact 28 (f := He.Fa.glo "call_rows") rfl) (fun _ _ _ _ _ _ us hl => match us, hl with | [_], _ => rfl)
theorem x_step : DefAt K mg "step" s_step ["thing", "state", "call"] := defAt_of X G (c.t.d.def_ 29 (d := dd_step) rfl) (c.t.d.fact 29 (f := He.Fa.glo "step") rfl) (fun _ _ _ _ _ _ us hl => match us, hl with | [_, _, _], _ => rfl)
theorem x_start : DefAt K mg "start" s_start ["thing"] := defAt_of X G (c.t.d.def_ 30 (d := dd_start) rfl) (c.t.d.fact 30 (f := He.Fa.glo "start") rfl) (fun _ _ _ _ _ _ us hl => match us, hl with | [_], _ => rfl)
theorem x_reached : DefAt K mg "reached" s_reached ["thing"] := defAt_of X G (c.t.d.def_ 31 (d := dd_reached) rfl) (c.t.d.fact 31 (f := He.Fa.glo "reached") rfl) (fun _ _ _ _ _ _ us hl => match us, hl with | [_], _ => rfl)
theorem x_run : DefAt K mg "run" s_run ["thing", "row"] := defAt_of X G (c.t.d.def_ 32 (d := dd_run) rfl) (c.t.d.fact 32 (f := He.Fa.glo "run") rfl) (fun _ _ _ _ _ _ us hl => match us, hl with | [_, _], _ => rfl)
theorem x_has_call : DefAt K mg "has_call" s_has_call ["thing", "value"] := defAt_of X G (c.t.d.def_ 33 (d := dd_has_call) rfl) (c.t.d.fact 33 (f := He.Fa.glo "has_call") rfl) (fun _ _ _ _ _ _ us hl => match us, hl with | [_, _], _ => rfl)
theorem x_is_ascending : DefAt K mg "_is_ascending" s_is_ascending ["row"] := defAt_of X G (c.t.d.def_ 34 (d := dd_is_ascending) rfl) (c.t.d.fact 34 (f := He.Fa.glo "_is_ascending") rfl) (fun _ _ _ _ _ _ us hl => match us, hl with | [_], _ => rfl)
theorem x_has_state : DefAt K mg "has_state" s_has_state ["thing", "value"] := defAt_of X G (c.t.d.def_ 35 (d := dd_has_state) rfl) (c.t.d.fact 35 (f := He.Fa.glo "has_state") rfl) (fun _ _ _ _ _ _ us hl => match us, hl with | [_, _], _ => rfl)
theorem x_check_object : DefAt K mg "check_object" s_check_object ["value"] := defAt_of X G (c.t.d.def_ 36 (d := dd_check_object) rfl) (c.t.d.fact 36 (f := He.Fa.glo "check_object") rfl) (fun _ _ _ _ _ _ us hl => match us, hl with | [_], _ => rfl)
theorem x_check_call : DefAt K mg "check_call" s_check_call ["thing", "value"] := defAt_of X G (c.t.d.def_ 37 (d := dd_check_call) rfl) (c.t.d.fact 37 (f := He.Fa.glo "check_call") rfl) (fun _ _ _ _ _ _ us hl => match us, hl with | [_, _], _ => rfl)
theorem x_check_calls : DefAt K mg "check_calls" s_check_calls ["thing", "value"] := defAt_of X G (c.t.d.def_ 38 (d := dd_check_calls) rfl) (c.t.d.fact 38 (f := He.Fa.glo "check_calls") rfl) (fun _ _ _ _ _ _ us hl => match us, hl with | [_, _], _ => rfl)
theorem x_check_state : DefAt K mg "check_state" s_check_state ["thing", "value"] := defAt_of X G (c.t.d.def_ 39 (d := dd_check_state) rfl) (c.t.d.fact 39 (f := He.Fa.glo "check_state") rfl) (fun _ _ _ _ _ _ us hl => match us, hl with | [_, _], _ => rfl)
theorem x_is_object : DefAt K mg "is_object" s_is_object ["value"] := defAt_of X G (c.t.d.def_ 40 (d := dd_is_object) rfl) (c.t.d.fact 40 (f := He.Fa.glo "is_object") rfl) (fun _ _ _ _ _ _ us hl => match us, hl with | [_], _ => rfl)
theorem x_calls : DefAt K mg "calls" s_calls ["thing"] := defAt_of X G (c.t.d.def_ 41 (d := dd_calls) rfl) (c.t.d.fact 41 (f := He.Fa.glo "calls") rfl) (fun _ _ _ _ _ _ us hl => match us, hl with | [_], _ => rfl)
theorem x_is_call : DefAt K mg "is_call" s_is_call ["thing", "value"] := defAt_of X G (c.t.d.def_ 42 (d := dd_is_call) rfl) (c.t.d.fact 42 (f := He.Fa.glo "is_call") rfl) (fun _ _ _ _ _ _ us hl => match us, hl with | [_, _], _ => rfl)
theorem x_first_state : DefAt K mg "first_state" s_first_state ["thing"] := defAt_of X G (c.t.d.def_ 43 (d := dd_first_state) rfl) (c.t.d.fact 43 (f := He.Fa.glo "first_state") rfl) (fun _ _ _ _ _ _ us hl => match us, hl with | [_], _ => rfl)
theorem x_states : DefAt K mg "states" s_states ["thing"] := defAt_of X G (c.t.d.def_ 44 (d := dd_states) rfl) (c.t.d.fact 44 (f := He.Fa.glo "states") rfl) (fun _ _ _ _ _ _ us hl => match us, hl with | [_], _ => rfl)
theorem x_applied : DefAt K mg "applied" s_applied ["thing", "state", "call"] := defAt_of X G (c.t.d.def_ 45 (d := dd_applied) rfl) (c.t.d.fact 45 (f := He.Fa.glo "applied") rfl) (fun _ _ _ _ _ _ us hl => match us, hl with | [_, _, _], _ => rfl)
theorem x_replayed : DefAt K mg "replayed" s_replayed ["thing", "row"] := defAt_of X G (c.t.d.def_ 46 (d := dd_replayed) rfl) (c.t.d.fact 46 (f := He.Fa.glo "replayed") rfl) (fun _ _ _ _ _ _ us hl => match us, hl with | [_, _], _ => rfl)
theorem x_Ltaken : DefAt K mg "_law_taken" s_Ltaken ["row", "many"] := defAt_of X G (c.t.d.def_ 47 (d := dd_Ltaken) rfl) (c.t.d.fact 47 (f := He.Fa.glo "_law_taken") rfl) (fun _ _ _ _ _ _ us hl => match us, hl with | [_, _], _ => rfl)
theorem x_Lpick : DefAt K mg "_law_pick" s_Lpick ["row", "things"] := defAt_of X G (c.t.d.def_ 48 (d := dd_Lpick) rfl) (c.t.d.fact 48 (f := He.Fa.glo "_law_pick") rfl) (fun _ _ _ _ _ _ us hl => match us, hl with | [_, _], _ => rfl)
theorem x_Lalike : DefAt K mg "_law_alike" s_Lalike ["found", "due"] := defAt_of X G (c.t.d.def_ 49 (d := dd_Lalike) rfl) (c.t.d.fact 49 (f := He.Fa.glo "_law_alike") rfl) (fun _ _ _ _ _ _ us hl => match us, hl with | [_, _], _ => rfl)
theorem x_Lobject : DefAt K mg "_law_object" s_Lobject ["row"] := defAt_of X G (c.t.d.def_ 50 (d := dd_Lobject) rfl) (c.t.d.fact 50 (f := He.Fa.glo "_law_object") rfl) (fun _ _ _ _ _ _ us hl => match us, hl with | [_], _ => rfl)
theorem x_Lcalls : DefAt K mg "_law_calls" s_Lcalls ["thing"] := defAt_of X G (c.t.d.def_ 51 (d := dd_Lcalls) rfl) (c.t.d.fact 51 (f := He.Fa.glo "_law_calls") rfl) (fun _ _ _ _ _ _ us hl => match us, hl with | [_], _ => rfl)
theorem x_Lfirst : DefAt K mg "_law_first" s_Lfirst ["thing"] := defAt_of X G (c.t.d.def_ 52 (d := dd_Lfirst) rfl) (c.t.d.fact 52 (f := He.Fa.glo "_law_first") rfl) (fun _ _ _ _ _ _ us hl => match us, hl with | [_], _ => rfl)
theorem x_Ldo : DefAt K mg "_law_do" s_Ldo ["thing", "state", "call"] := defAt_of X G (c.t.d.def_ 53 (d := dd_Ldo) rfl) (c.t.d.fact 53 (f := He.Fa.glo "_law_do") rfl) (fun _ _ _ _ _ _ us hl => match us, hl with | [_, _, _], _ => rfl)
theorem x_Lstates : DefAt K mg "_law_states" s_Lstates ["thing"] := defAt_of X G (c.t.d.def_ 54 (d := dd_Lstates) rfl) (c.t.d.fact 54 (f := He.Fa.glo "_law_states") rfl) (fun _ _ _ _ _ _ us hl => match us, hl with | [_], _ => rfl)
theorem x_Lsmall : DefAt K mg "_law_small" s_Lsmall ["row", "most"] := defAt_of X G (c.t.d.def_ 55 (d := dd_Lsmall) rfl) (c.t.d.fact 55 (f := He.Fa.glo "_law_small") rfl) (fun _ _ _ _ _ _ us hl => match us, hl with | [_, _], _ => rfl)
theorem x_Lis_number : DefAt K mg "_law_is_number" s_Lis_number ["value", "low", "high"] := defAt_of X G (c.t.d.def_ 56 (d := dd_Lis_number) rfl) (c.t.d.fact 56 (f := He.Fa.glo "_law_is_number") rfl) (fun _ _ _ _ _ _ us hl => match us, hl with | [_, _, _], _ => rfl)
theorem x_Lis_rows : DefAt K mg "_law_is_rows" s_Lis_rows ["value"] := defAt_of X G (c.t.d.def_ 57 (d := dd_Lis_rows) rfl) (c.t.d.fact 57 (f := He.Fa.glo "_law_is_rows") rfl) (fun _ _ _ _ _ _ us hl => match us, hl with | [_], _ => rfl)
theorem x_Lis_object : DefAt K mg "_law_is_object" s_Lis_object ["value"] := defAt_of X G (c.t.d.def_ 58 (d := dd_Lis_object) rfl) (c.t.d.fact 58 (f := He.Fa.glo "_law_is_object") rfl) (fun _ _ _ _ _ _ us hl => match us, hl with | [_], _ => rfl)
theorem x_Lbent : DefAt K mg "_law_bent" s_Lbent ["row", "thing"] := defAt_of X G (c.t.d.def_ 59 (d := dd_Lbent) rfl) (c.t.d.fact 59 (f := He.Fa.glo "_law_bent") rfl) (fun _ _ _ _ _ _ us hl => match us, hl with | [_, _], _ => rfl)
theorem x_Lrefused : DefAt K mg "_law_refused" s_Lrefused ["work"] := defAt_of X G (c.t.d.def_ 60 (d := dd_Lrefused) rfl) (c.t.d.fact 60 (f := He.Fa.glo "_law_refused") rfl) (fun _ _ _ _ _ _ us hl => match us, hl with | [_], _ => rfl)
theorem x_law : DefAt K mg "law" s_law ["script"] := defAt_of X G (c.t.d.def_ 61 (d := dd_law) rfl) (c.t.d.fact 61 (f := He.Fa.glo "law") rfl) (fun _ _ _ _ _ _ us hl => match us, hl with | [_], _ => rfl)
theorem x_t_FORMS : Tab K w mg "_FORMS" tab_FORMS := tab_of X G (c.t.d.fact 83 (f := He.Fa.glo "_FORMS") rfl) (says_tab c.t 0 (t := (fun K => He.ga K "_FORMS", ["counter", "register", "stack", "queue", "set", "agree", "bank", "table"])) rfl) (by exact (He.ba (He.ba c.more).1).1) rfl (all_cons (He.glo_ok X G (c.t.d.fact 4 (f := He.Fa.glo "_has_size") rfl)) (all_cons (He.glo_ok X G (c.t.d.fact 4 (f := He.Fa.glo "_has_size") rfl)) (all_cons (He.glo_ok X G (c.t.d.fact 5 (f := He.Fa.glo "_has_room_and_size") rfl)) (all_cons (He.glo_ok X G (c.t.d.fact 5 (f := He.Fa.glo "_has_room_and_size") rfl)) (all_cons (He.glo_ok X G (c.t.d.fact 4 (f := He.Fa.glo "_has_size") rfl)) (all_cons (He.glo_ok X G (c.t.d.fact 4 (f := He.Fa.glo "_has_size") rfl)) (all_cons (He.glo_ok X G (c.t.d.fact 6 (f := He.Fa.glo "_has_amounts") rfl)) (all_cons (He.glo_ok X G (c.t.d.fact 9 (f := He.Fa.glo "_has_rows") rfl)) all_nil))))))))
theorem x_t_CALLS : Tab K w mg "_CALLS" tab_CALLS := tab_of X G (c.t.d.fact 84 (f := He.Fa.glo "_CALLS") rfl) (says_tab c.t 1 (t := (fun K => He.ga K "_CALLS", ["counter", "register", "stack", "queue", "set", "agree", "bank", "table"])) rfl) (by exact (He.ba (He.ba c.more).1).2) rfl (all_cons (He.glo_ok X G (c.t.d.fact 11 (f := He.Fa.glo "_counter_calls") rfl)) (all_cons (He.glo_ok X G (c.t.d.fact 13 (f := He.Fa.glo "_register_calls") rfl)) (all_cons (He.glo_ok X G (c.t.d.fact 15 (f := He.Fa.glo "_stack_calls") rfl)) (all_cons (He.glo_ok X G (c.t.d.fact 18 (f := He.Fa.glo "_queue_calls") rfl)) (all_cons (He.glo_ok X G (c.t.d.fact 20 (f := He.Fa.glo "_set_calls") rfl)) (all_cons (He.glo_ok X G (c.t.d.fact 22 (f := He.Fa.glo "_agree_calls") rfl)) (all_cons (He.glo_ok X G (c.t.d.fact 24 (f := He.Fa.glo "_bank_calls") rfl)) (all_cons (He.glo_ok X G (c.t.d.fact 26 (f := He.Fa.glo "_table_calls") rfl)) all_nil))))))))
theorem x_t_STEPS : Tab K w mg "_STEPS" tab_STEPS := tab_of X G (c.t.d.fact 85 (f := He.Fa.glo "_STEPS") rfl) (says_tab c.t 2 (t := (fun K => He.ga K "_STEPS", ["counter", "register", "stack", "queue", "set", "agree", "bank", "table"])) rfl) (by exact (He.ba c.more).2) rfl (all_cons (He.glo_ok X G (c.t.d.fact 12 (f := He.Fa.glo "_counter_step") rfl)) (all_cons (He.glo_ok X G (c.t.d.fact 14 (f := He.Fa.glo "_register_step") rfl)) (all_cons (He.glo_ok X G (c.t.d.fact 17 (f := He.Fa.glo "_stack_step") rfl)) (all_cons (He.glo_ok X G (c.t.d.fact 19 (f := He.Fa.glo "_queue_step") rfl)) (all_cons (He.glo_ok X G (c.t.d.fact 21 (f := He.Fa.glo "_set_step") rfl)) (all_cons (He.glo_ok X G (c.t.d.fact 23 (f := He.Fa.glo "_agree_step") rfl)) (all_cons (He.glo_ok X G (c.t.d.fact 25 (f := He.Fa.glo "_bank_step") rfl)) (all_cons (He.glo_ok X G (c.t.d.fact 27 (f := He.Fa.glo "_table_step") rfl)) all_nil))))))))
theorem x_ref : RefN K mg "_law_refused" s_Lrefused "work" ["work"] refN := ⟨[("BadObject", He.ga K "BadObject", "object"), ("BadState", He.ga K "BadState", "state"), ("BadCall", He.ga K "BadCall", "call")], rfl, ⟨x_Lrefused X G c, sc_Lrefused, rfl, Or.inl rfl, rfl, fun Y hX => ⟨_, _, _, _, _, _, _, _, _, rfl, (.cons rfl (by rw [hX]; exact He.glo_ok X G (c.t.d.fact 76 (f := He.Fa.glo "BadObject") rfl)) (by decide) (.cons rfl (by rw [hX]; exact He.glo_ok X G (c.t.d.fact 78 (f := He.Fa.glo "BadState") rfl)) (by decide) (.cons rfl (by rw [hX]; exact He.glo_ok X G (c.t.d.fact 77 (f := He.Fa.glo "BadCall") rfl)) (by decide) .nil)))⟩, (all_cons (all_cons ((He.exm_ok (c.t.d.fact 86 (f := He.Fa.exm "BadObject" "BadObject" true) rfl)).trans (by rfl)) (all_cons ((He.exm_ok (c.t.d.fact 87 (f := He.Fa.exm "BadObject" "BadState" false) rfl)).trans (by rfl)) (all_cons ((He.exm_ok (c.t.d.fact 88 (f := He.Fa.exm "BadObject" "BadCall" false) rfl)).trans (by rfl)) all_nil))) (all_cons (all_cons ((He.exm_ok (c.t.d.fact 89 (f := He.Fa.exm "BadState" "BadObject" false) rfl)).trans (by rfl)) (all_cons ((He.exm_ok (c.t.d.fact 90 (f := He.Fa.exm "BadState" "BadState" true) rfl)).trans (by rfl)) (all_cons ((He.exm_ok (c.t.d.fact 91 (f := He.Fa.exm "BadState" "BadCall" false) rfl)).trans (by rfl)) all_nil))) (all_cons (all_cons ((He.exm_ok (c.t.d.fact 92 (f := He.Fa.exm "BadCall" "BadObject" false) rfl)).trans (by rfl)) (all_cons ((He.exm_ok (c.t.d.fact 93 (f := He.Fa.exm "BadCall" "BadState" false) rfl)).trans (by rfl)) (all_cons ((He.exm_ok (c.t.d.fact 94 (f := He.Fa.exm "BadCall" "BadCall" true) rfl)).trans (by rfl)) all_nil))) all_nil))), (all_cons (He.glo_ok X G (c.t.d.fact 76 (f := He.Fa.glo "BadObject") rfl)) (all_cons (He.glo_ok X G (c.t.d.fact 78 (f := He.Fa.glo "BadState") rfl)) (all_cons (He.glo_ok X G (c.t.d.fact 77 (f := He.Fa.glo "BadCall") rfl)) all_nil)))⟩⟩
theorem txt : TxtL K mg w where
  n_all := He.free_ok X G (c.t.d.fact 62 (f := He.Fa.free "all") rfl)
  n_any := He.free_ok X G (c.t.d.fact 63 (f := He.Fa.free "any") rfl)
  n_bool := He.free_ok X G (c.t.d.fact 73 (f := He.Fa.free "bool") rfl)
  n_int := He.free_ok X G (c.t.d.fact 64 (f := He.Fa.free "int") rfl)
  n_isinstance := He.free_ok X G (c.t.d.fact 65 (f := He.Fa.free "isinstance") rfl)
  n_len := He.free_ok X G (c.t.d.fact 66 (f := He.Fa.free "len") rfl)
  n_list := He.free_ok X G (c.t.d.fact 67 (f := He.Fa.free "list") rfl)
  n_range := He.free_ok X G (c.t.d.fact 68 (f := He.Fa.free "range") rfl)
  n_sorted := He.free_ok X G (c.t.d.fact 69 (f := He.Fa.free "sorted") rfl)
  n_str := He.free_ok X G (c.t.d.fact 74 (f := He.Fa.free "str") rfl)
  n_sum := He.free_ok X G (c.t.d.fact 70 (f := He.Fa.free "sum") rfl)
  n_tuple := He.free_ok X G (c.t.d.fact 71 (f := He.Fa.free "tuple") rfl)
  n_zip := He.free_ok X G (c.t.d.fact 72 (f := He.Fa.free "zip") rfl)
  t_FORMS := x_t_FORMS X G c
  t_CALLS := x_t_CALLS X G c
  t_STEPS := x_t_STEPS X G c
  e_SharedError := exo_of X G (c.t.d.fact 75 (f := He.Fa.glo "SharedError") rfl) (c.t.d.fact 79 (f := He.Fa.exc "SharedError") rfl)
  e_BadObject := exo_of X G (c.t.d.fact 76 (f := He.Fa.glo "BadObject") rfl) (c.t.d.fact 80 (f := He.Fa.exc "BadObject") rfl)
  e_BadCall := exo_of X G (c.t.d.fact 77 (f := He.Fa.glo "BadCall") rfl) (c.t.d.fact 81 (f := He.Fa.exc "BadCall") rfl)
  e_BadState := exo_of X G (c.t.d.fact 78 (f := He.Fa.glo "BadState") rfl) (c.t.d.fact 82 (f := He.Fa.exc "BadState") rfl)
  d_is_integer := x_is_integer X G c
  d_is_within := x_is_within X G c
  d_are_within := x_are_within X G c
  d_same := x_same X G c
  d_has_size := x_has_size X G c
  d_has_room_and_size := x_has_room_and_size X G c
  d_has_amounts := x_has_amounts X G c
  d_is_pair := x_is_pair X G c
  d_is_row := x_is_row X G c
  d_has_rows := x_has_rows X G c
  d_has_form := x_has_form X G c
  d_counter_calls := x_counter_calls X G c
  d_counter_step := x_counter_step X G c
  d_register_calls := x_register_calls X G c
  d_register_step := x_register_step X G c
  d_stack_calls := x_stack_calls X G c
  d_put_at_end := x_put_at_end X G c
  d_stack_step := x_stack_step X G c
  d_queue_calls := x_queue_calls X G c
  d_queue_step := x_queue_step X G c
  d_set_calls := x_set_calls X G c
  d_set_step := x_set_step X G c
  d_agree_calls := x_agree_calls X G c
  d_agree_step := x_agree_step X G c
  d_bank_calls := x_bank_calls X G c
  d_bank_step := x_bank_step X G c
  d_table_calls := x_table_calls X G c
  d_table_step := x_table_step X G c
  d_call_rows := x_call_rows X G c
  d_step := x_step X G c
  d_start := x_start X G c
  d_reached := x_reached X G c
  d_run := x_run X G c
  d_has_call := x_has_call X G c
  d_is_ascending := x_is_ascending X G c
  d_has_state := x_has_state X G c
  d_check_object := x_check_object X G c
  d_check_call := x_check_call X G c
  d_check_calls := x_check_calls X G c
  d_check_state := x_check_state X G c
  d_is_object := x_is_object X G c
  d_calls := x_calls X G c
  d_is_call := x_is_call X G c
  d_first_state := x_first_state X G c
  d_states := x_states X G c
  d_applied := x_applied X G c
  d_replayed := x_replayed X G c
  d_Ltaken := x_Ltaken X G c
  d_Lpick := x_Lpick X G c
  d_Lalike := x_Lalike X G c
  d_Lobject := x_Lobject X G c
  d_Lcalls := x_Lcalls X G c
  d_Lfirst := x_Lfirst X G c
  d_Ldo := x_Ldo X G c
  d_Lstates := x_Lstates X G c
  d_Lsmall := x_Lsmall X G c
  d_Lis_number := x_Lis_number X G c
  d_Lis_rows := x_Lis_rows X G c
  d_Lis_object := x_Lis_object X G c
  d_Lbent := x_Lbent X G c
  r_ref := x_ref X G c
end
def lawP (ns : List Int) : Prop := ∃ ev S, b_law (startE 17 [.d (.list (ns.map PyData.int))]) [] = some (.rt (.d (.bool true)), ev, S)
def spLaw (K : PySem.W.Frag) (PT : Addr) : Sp := fun vs H Q _ => ∃ (a : Addr) (ns : List Int), vs = [.ref a] ∧ SqL K H a (ns.map V.int) ∧ H PT = some (.tbl #[]) ∧ lawP ns ∧ ∀ H', Q (.bl true) H'
theorem law_fn {P : Program} {w : World} {K : PySem.W.Frag} {mg : Str → Option Value} {base : Heap} (U : TxtL K mg w) {fd : FuncData} (F : Fun K "law" "law" s_law (He.fAd K ("law", none)) fd) (TB : TabB base mg (He.cT K ("law", none)).1 (He.cT K ("law", none)).2) :
    FnOk P w K mg base (L2.CX P w) 20 (He.fAd K ("law", none)) fd ["script"] (spLaw K (He.cT K ("law", none)).2) := by
  obtain ⟨oc, od, kV, doc, pm, an, cdv, ct, osl, rfl, lk, hcd⟩ := F.ex
  obtain ⟨c, rfl⟩ := He.codeIn_ref hcd
  have hc : He.codeOf K ("law", none) = c := He.codeOf_eq lk rfl
  refine fn_of lk hcd sc_law (fun vs H Q E h => by obtain ⟨a, ns, rfl, _⟩ := h; rfl) fun A outer s H vs Q E hr hsp => ⟨_, ok_body U TB _ _ (by show Value.ref c = .ref (He.codeOf K ("law", none)); rw [hc]) A outer s H E hr, ?_⟩
  obtain ⟨a, ns, rfl, hS, hT, ⟨ev, S, e⟩, hQ⟩ := hsp
  refine ⟨⟨[], []⟩, _, [], ⟨sto_nil, fun p hp => ?_, start_ev (N := ["script", "row", "thing", "value", "turn", "some", "call", "names", "line", "good", "made", "state", "answers", "told", "answer", "ask", "one"]) (.cons (show Rw K mg ⟨[], []⟩ H (.ref a) (.d (.list (ns.map PyData.int))) from rp_script hS) .nil) (Nat.le_of_ble_eq_true rfl), start_len (Nat.le_of_ble_eq_true rfl)⟩, _, ev, S, e, fun r' v H' E' s' _ q' => ?_⟩
  · have e : p = ((He.cT K ("law", none)).2, (("law" : Str) ++ ".<locals>.") ++ "<lambda>") := by simpa [cL] using hp
    rw [e]
    exact TabS.nil hT
  · have q2 : Rp K r' H' v (.bool true) := q'
    cases q2
    exact hQ H'
theorem law_at {l : PySem.W.OpenLaw} {w : World} {K : PySem.W.Frag} {h : Heap} {mg : Str → Option Value} {fa : Addr} (X : K.In h) (G : h.Ns mainGlobals mg) (hfa : mg ("law" : Str) = some (.ref fa)) (c : He.SaysX fas fns tsK tfK exK w h K) (pu : ∀ ns : List Int, ns.length ≤ 63 → (∀ z ∈ ns, Builtin.Int.intBits z ≤ 1048576) → lawP ns) :
    LawAtS l w K (L2.CX l.prog w) 20 63 "script" mg fa h := by
  have U := txt X G c
  obtain ⟨fd, FD⟩ := c.t.d.def_ 61 (d := dd_law) rfl
  have e := hfa.symm.trans (He.glo_ok X G (c.t.d.fact 61 (f := He.Fa.glo "law") rfl))
  cases e
  refine ⟨fd, [He.cT K ("law", none)], spLaw K (He.cT K ("law", none)).2, fun p hp => ?_, fun p hp => ?_, fun p hp => ?_, fun s v => FD.bindsA (ps := ["script"]) (fun _ _ _ _ _ _ us hl => match us, hl with | [_], _ => rfl) s [v] rfl, fun H a ns hl hb hH hS => ⟨a, ns, rfl, hS, hH _ List.mem_cons_self, pu ns hl hb, fun _ => rfl⟩, fun base hB hG hT => law_fn U (fun_of FD) (hT _ List.mem_cons_self)⟩
  · have e : p = He.cT K ("law", none) := by simpa using hp
    rw [e]; exact c.empty _ List.mem_cons_self
  · have e : p = He.cT K ("law", none) := by simpa using hp
    rw [e]; exact c.out _ List.mem_cons_self
  · have e : p = He.cT K ("law", none) := by simpa using hp
    rw [e]; exact PySem.W.codeHd_of_K X (c.hd _ List.mem_cons_self)
theorem cx_no {P : Program} {w : World} {H : Hp} {s : Shared} {e : Value} {s' : Shared} (h : L2.CX P w [] H s (fun _ _ _ => False) e s') : False := by
  obtain ⟨_, _, _, _, _, _, _, _, _, _, _, _, z⟩ := h
  exact z
end K00
/-! part MB -/
set_option linter.all false
set_option maxRecDepth 100000
set_option maxHeartbeats 1000000
namespace DD
open PySem
/-! ### mirrors, run by rewriting -/
abbrev R (α : Type) := Option (Except Str α × Sto)
def rb {α β : Type} (r : R α) (k : α → Sto → R β) : R β := match r with
  | none => none
  | some (.error e, S') => some (.error e, S')
  | some (.ok a, S') => k a S'
theorem rb_ok {α β : Type} (a : α) (S : Sto) (k : α → Sto → R β) : rb (some (.ok a, S)) k = k a S := rfl
theorem rb_err {α β : Type} (e : Str) (S : Sto) (k : α → Sto → R β) : rb (some (.error e, S)) k = some (.error e, S) := rfl
def rl {α β : Type} (o : Option α) (k : α → R β) : R β := match o with
  | none => none
  | some a => k a
theorem rl_some {α β : Type} (a : α) (k : α → R β) : rl (some a) k = k a := rfl
def rs (r : Option (Fl × Ev × Sto)) (k : Ev → Sto → Option (Fl × Ev × Sto)) : Option (Fl × Ev × Sto) := match r with
  | none => none
  | some (.nx, ev, S) => k ev S
  | some p => some p
theorem rs_nx (ev : Ev) (S : Sto) (k : Ev → Sto → Option (Fl × Ev × Sto)) : rs (some (.nx, ev, S)) k = k ev S := rfl
theorem rs_rt (w : Vl) (ev : Ev) (S : Sto) (k : Ev → Sto → Option (Fl × Ev × Sto)) : rs (some (.rt w, ev, S)) k = some (.rt w, ev, S) := rfl
theorem rs_ex (w : Str) (ev : Ev) (S : Sto) (k : Ev → Sto → Option (Fl × Ev × Sto)) : rs (some (.ex w, ev, S)) k = some (.ex w, ev, S) := rfl
theorem bind_rb {α β : Type} (m : M α) (g : α → M β) (S : Sto) : (m >>= g) S = rb (m S) fun a S' => g a S' := by
  rw [M.bind_run]; unfold rb; rfl
theorem pure_r {α : Type} (a : α) (S : Sto) : (pure a : M α) S = some (.ok a, S) := rfl
theorem lift_r {α β : Type} (o : Option α) (k : α → Sto → R β) (S : Sto) : rb (M.lift o S) k = rl o fun a => k a S := by cases o <;> rfl
theorem rd_d {β : Type} (d : PyData) (S : Sto) (k : PyData → Sto → R β) : rb (rd (.d d) S) k = k d S := rfl
def listOf : MO → Option (List PyData)
  | .l xs => some xs
  | _ => none
theorem rd_m {β : Type} (n : Nat) (S : Sto) (k : PyData → Sto → R β) : rb (rd (.m n) S) k = rl (S[n]?) fun o => rl (listOf o) fun xs => k (.list xs) S := by
  unfold rd
  cases h : S[n]? with
  | none => simp [h, rb, rl]
  | some o => cases o <;> simp [h, rb, rl, listOf]
section
variable {f g h : Ev → M Vl} {t u : Ev → M Bool} {fs : Ev → M (List Vl)} {ev : Ev} {S : Sto} {a b : SM} {op p : PyData → PyData → Option PyData} {fn : List PyData → Option PyData}
theorem r_var (i : Nat) : fVar i ev S = rl (ev[i]?) fun o => rl o fun w => some (.ok w, S) := by
  unfold fVar rl
  cases h : ev[i]? with
  | none => rfl
  | some o => cases o <;> rfl
theorem r_c (d : PyData) : fC d ev S = some (.ok (.d d), S) := rfl
theorem r_op : fOp op f g ev S = rb (f ev S) fun x S1 => rb (g ev S1) fun y S2 => rb (rd x S2) fun a S3 => rb (rd y S3) fun b S4 => rl (op a b) fun z => some (.ok (.d z), S4) := by
  unfold fOp
  simp only [bind_rb, lift_r, pure_r]
theorem r_un {op : PyData → Option PyData} : fUn op f ev S = rb (f ev S) fun x S1 => rb (rd x S1) fun a S3 => rl (op a) fun z => some (.ok (.d z), S3) := by
  unfold fUn
  simp only [bind_rb, lift_r, pure_r]
def boolOf : Vl → Option Bool
  | .d (.bool b) => some b
  | _ => none
theorem r_fB : fB f ev S = rb (f ev S) fun x S1 => rl (boolOf x) fun b => some (.ok b, S1) := by
  unfold fB
  simp only [bind_rb]
  congr 1
  funext x S1
  unfold boolOf rl
  split <;> simp_all [pure_r] <;> first | rfl | (split <;> simp_all) | skip
  all_goals rfl
theorem r_not : fNot t ev S = rb (t ev S) fun b S1 => some (.ok (!b), S1) := by
  unfold fNot
  simp only [bind_rb, pure_r]
theorem r_and : fAnd t u ev S = rb (t ev S) fun b S1 => bif b then u ev S1 else some (.ok false, S1) := by
  unfold fAnd
  simp only [bind_rb]
  congr 1
  funext b S1
  cases b <;> rfl
theorem r_or : fOr t u ev S = rb (t ev S) fun b S1 => bif b then some (.ok true, S1) else u ev S1 := by
  unfold fOr
  simp only [bind_rb]
  congr 1
  funext b S1
  cases b <;> rfl
theorem r_ite : fIte t f g ev S = rb (t ev S) fun b S1 => bif b then f ev S1 else g ev S1 := by
  unfold fIte
  simp only [bind_rb]
  congr 1
  funext b S1
  cases b <;> rfl
theorem r_nil : fNil ev S = some (.ok [], S) := rfl
theorem r_cons : fCons f fs ev S = rb (f ev S) fun x S1 => rb (fs ev S1) fun xs S2 => some (.ok (x :: xs), S2) := by
  unfold fCons
  simp only [bind_rb, pure_r]
theorem r_tup : fTup fs ev S = rb (fs ev S) fun ws S1 => rl (dats ws) fun ds => if ds.length ≤ 1000 then some (.ok (.d (.tuple ds)), S1) else none := by
  unfold fTup
  simp only [bind_rb, lift_r]
  congr 1
  funext ws S1
  congr 1
  funext ds
  split <;> rfl
theorem r_lst : fLst fs ev S = rb (fs ev S) fun ws S1 => rl (dats ws) fun ds => if ds.length ≤ 1000 then some (.ok (.d (.list ds)), S1) else none := by
  unfold fLst
  simp only [bind_rb, lift_r]
  congr 1
  funext ws S1
  congr 1
  funext ds
  split <;> rfl
theorem r_call : fCall fn fs ev S = rb (fs ev S) fun ws S1 => rb (rdAll ws S1) fun ds S2 => rl (fn ds) fun z => some (.ok (.d z), S2) := by
  unfold fCall
  simp only [bind_rb, lift_r, pure_r]
theorem rdAll_nil {β : Type} (k : List PyData → Sto → R β) : rb (rdAll [] S) k = k [] S := rfl
theorem rb_rb {α β γ : Type} (r : R α) (k : α → Sto → R β) (k2 : β → Sto → R γ) : rb (rb r k) k2 = rb r fun a S => rb (k a S) k2 := by
  cases r with
  | none => rfl
  | some p =>
    obtain ⟨o, S⟩ := p
    cases o <;> rfl
theorem rdAll_cons {β : Type} (w : Vl) (ws : List Vl) (k : List PyData → Sto → R β) : rb (rdAll (w :: ws) S) k = rb (rd w S) fun d S1 => rb (rdAll ws S1) fun ds S2 => k (d :: ds) S2 := by
  show rb (((rd w) >>= fun d => (rdAll ws) >>= fun ds => pure (d :: ds)) S) k = _
  simp only [bind_rb, pure_r, rb_rb, rb_ok]
theorem r_def {n : Nat} {m : List Vl → M Vl} : fDef n m fs ev S = rb (fs ev S) fun ws S1 => if ws.length = n then m ws S1 else none := by
  unfold fDef
  simp only [bind_rb]
  congr 1
  funext ws S1
  split <;> rfl
/-! statements -/
theorem s_seq : sSeq a b ev S = rs (a ev S) fun ev1 S1 => b ev1 S1 := by
  unfold sSeq rs
  cases h : a ev S with
  | none => rfl
  | some p =>
    obtain ⟨fl, e, S'⟩ := p
    cases fl <;> rfl
def ro {α : Type} (r : R α) (ev : Ev) (k : α → Sto → Option (Fl × Ev × Sto)) : Option (Fl × Ev × Sto) := match r with
  | none => none
  | some (.error x, S') => some (.ex x, ev, S')
  | some (.ok a, S') => k a S'
theorem ro_ok {α : Type} (a : α) (S : Sto) (ev : Ev) (k : α → Sto → Option (Fl × Ev × Sto)) : ro (some (.ok a, S)) ev k = k a S := rfl
theorem ro_err {α : Type} (a : Str) (S : Sto) (ev : Ev) (k : α → Sto → Option (Fl × Ev × Sto)) : ro (some (.error a, S)) ev k = some (.ex a, ev, S) := rfl
theorem onE_r {α : Type} (m : M α) (k : α → Sto → Option (Fl × Ev × Sto)) : onE m ev k S = ro (m S) ev k := rfl
theorem s_if : sIf t a b ev S = ro (t ev S) ev fun c S1 => bif c then a ev S1 else b ev S1 := by
  show onE (t ev) ev _ S = _
  rw [onE_r]
  congr 1
  funext c S1
  cases c <;> rfl
theorem s_ret : sRet f ev S = ro (f ev S) ev fun w S1 => some (.rt w, ev, S1) := rfl
theorem s_expr : sExpr f ev S = ro (f ev S) ev fun _ S1 => some (.nx, ev, S1) := rfl
theorem s_set (i : Nat) : sSet i f ev S = ro (f ev S) ev fun w S1 => some (.nx, ev.set i (some w), S1) := rfl
theorem s_pass : sPass ev S = some (.nx, ev, S) := rfl
theorem s_raise (x : Str) : sRaise x ev S = some (.ex x, ev, S) := rfl
end

section
variable {f g h fo fi fe : Ev → M Vl} {t u : Ev → M Bool} {fs : Ev → M (List Vl)} {ev : Ev} {S : Sto} {a b : SM}
theorem mut_m {β : Type} (n : Nat) (k : Nat × List PyData → Sto → R β) : rb (mutAt (.m n) S) k = rl (S[n]?) fun o => rl (listOf o) fun xs => k (n, xs) S := by
  unfold mutAt
  cases h : S[n]? with
  | none => simp [h, rb, rl]
  | some o => cases o <;> simp [h, rb, rl, listOf]
theorem r_append : fAppend fo fe ev S = rb (fo ev S) fun x S1 => rb (mutAt x S1) fun _ S2 => rb (fe ev S2) fun y S3 => rl (datOf y) fun d => rb (mutAt x S3) fun q S4 => if q.2.length < 1000000 then some (.ok (.d .none), S4.set q.1 (.l (q.2 ++ [d]))) else none := by
  unfold fAppend
  simp only [bind_rb, lift_r]
  congr 1; funext x S1
  congr 1; funext _ S2
  congr 1; funext y S3
  congr 1; funext d
  congr 1; funext q S4
  split <;> rfl
theorem r_put : fPut fe fo fi ev S = rb (fe ev S) fun y S1 => rl (datOf y) fun d => rb (fo ev S1) fun x S2 => rb (fi ev S2) fun k S3 => rl (intOf k) fun k => rb (mutAt x S3) fun q S4 => rl (L2.ixN q.2.length k) fun j => some (.ok (.d .none), S4.set q.1 (.l (q.2.set j d))) := by
  unfold fPut
  simp only [bind_rb, lift_r]
  rfl
end

/-! operations, run -/
section
variable {xs : List PyData} {i j : Int} {α : Type} {a b c d : α} {x : PyData}
theorem p_ixl : ixP (.list xs) (.int i) = L2.atI xs i := rfl
theorem p_ixt : ixP (.tuple xs) (.int i) = L2.atI xs i := rfl
theorem p_gt : gtP (.int i) (.int j) = some (.bool (decide (j < i))) := rfl
theorem p_lt : ltP (.int i) (.int j) = some (.bool (decide (i < j))) := rfl
theorem p_le : leP (.int i) (.int j) = some (.bool (decide (i ≤ j))) := rfl
theorem p_ge : geP (.int i) (.int j) = some (.bool (decide (j ≤ i))) := rfl
theorem p_add : addP (.int i) (.int j) = some (.int (i + j)) := rfl
theorem p_sub : subP (.int i) (.int j) = some (.int (i - j)) := rfl
theorem p_mul (h : j.natAbs < 2 ^ 60) : mulP (.int i) (.int j) = some (.int (i * j)) := if_pos (.inr h)
theorem p_mod (h : 0 < j) : modP (.int i) (.int j) = some (.int (i % j)) := if_pos h
theorem p_fdiv (h : 0 < j) (h2 : j < 2 ^ 60) : fdivP (.int i) (.int j) = some (.int (i / j)) := if_pos ⟨h, h2⟩
theorem p_int : intP [.int i] = some (.int i) := rfl
theorem p_lenl : lenP [.list xs] = some (.int xs.length) := rfl
theorem p_lent : lenP [.tuple xs] = some (.int xs.length) := rfl
theorem bool_of (b : Bool) : boolOf (.d (.bool b)) = some b := rfl
theorem dat_of (x : PyData) : datOf (.d x) = some x := rfl
theorem int_of (i : Int) : intOf (.d (.int i)) = some i := rfl
theorem list_of : listOf (.l xs) = some xs := rfl
theorem at4_0 : L2.atI [a, b, c, d] 0 = some a := rfl
theorem at4_1 : L2.atI [a, b, c, d] 1 = some b := rfl
theorem at4_2 : L2.atI [a, b, c, d] 2 = some c := rfl
theorem at4_3 : L2.atI [a, b, c, d] 3 = some d := rfl
theorem ix4_0 : L2.ixN 4 0 = some 0 := rfl
theorem ix4_1 : L2.ixN 4 1 = some 1 := rfl
theorem ix4_2 : L2.ixN 4 2 = some 2 := rfl
theorem ix4_3 : L2.ixN 4 3 = some 3 := rfl
end
end DD
/-! part MC -/
set_option linter.all false
set_option maxRecDepth 100000
set_option maxHeartbeats 1000000
namespace DD
open PySem
section
variable {f g h : Ev → M Vl} {t u : Ev → M Bool} {fs : Ev → M (List Vl)} {ev : Ev} {S : Sto} {a b : SM} {fi : Ev → M (List PyData)} {gg : Vl → Ev → Option Ev} {own : List Nat}
theorem r_items : fItems f ev S = rb (f ev S) fun w S1 => rl (itemsOf w) fun ds => some (.ok ds, S1) := by
  unfold fItems
  simp only [bind_rb]
  congr 1
  funext w S1
  cases itemsOf w <;> rfl
theorem r_range {p : List PyData → Option (List PyData)} : fRange p fs ev S = rb (fs ev S) fun ws S1 => rb (rdAll ws S1) fun ds S2 => rl (p ds) fun xs => some (.ok xs, S2) := by
  unfold fRange
  simp only [bind_rb]
  congr 1
  funext w S1
  congr 1
  funext w S2
  cases p w <;> rfl
def compR (r : Option (List PyData × Sto)) : R Vl := match r with
  | some (zs, S') => if zs.length ≤ 1000000 then some (.ok (.d (.list zs)), S') else none
  | none => none
theorem compR_some (zs : List PyData) (S : Sto) (h : zs.length ≤ 1000000) : compR (some (zs, S)) = some (.ok (.d (.list zs)), S) := if_pos h
theorem r_comp : fComp fi gg t f own ev S = rb (fi ev S) fun ds S1 => compR (compL gg t f (wipeE ev own) ds S1) := bind_rb (fi ev) (fun ds S1 => compR (compL gg t f (wipeE ev own) ds S1)) S
theorem s_for : sFor fi gg a ev S = ro (fi ev S) ev fun ds S1 => loopF gg a ds ev S1 := rfl
theorem loop_nil : loopF gg a [] ev S = some (.nx, ev, S) := rfl
theorem loop_cons (d : PyData) (ds : List PyData) : loopF gg a (d :: ds) ev S = (match gg (.d d) ev with
    | none => none
    | some ev1 => match a ev1 S with
      | none => none
      | some (.nx, ev2, S2) => loopF gg a ds ev2 S2
      | some (.ct, ev2, S2) => loopF gg a ds ev2 S2
      | some (.bk, ev2, S2) => some (.nx, ev2, S2)
      | some (.rt w, ev2, S2) => some (.rt w, ev2, S2)
      | some (.ex x, ev2, S2) => some (.ex x, ev2, S2)) := rfl
theorem r_andV : fAndV f g ev S = rb (f ev S) fun x S1 => rl (boolOf x) fun b => bif b then g ev S1 else some (.ok (.d (.bool false)), S1) := by
  unfold fAndV
  simp only [bind_rb]
  congr 1
  funext x S1
  unfold boolOf rl
  split <;> simp_all [pure_r] <;> first | rfl | (split <;> simp_all) | skip
  all_goals first | rfl | (rename_i b _ ; cases b <;> rfl) | skip
theorem r_orV : fOrV f g ev S = rb (f ev S) fun x S1 => rl (boolOf x) fun b => bif b then some (.ok (.d (.bool true)), S1) else g ev S1 := by
  unfold fOrV
  simp only [bind_rb]
  congr 1
  funext x S1
  unfold boolOf rl
  split <;> simp_all [pure_r] <;> first | rfl | (split <;> simp_all) | skip
  all_goals first | rfl | (rename_i b _ ; cases b <;> rfl) | skip
theorem yes_r : fYes ev S = some (.ok true, S) := rfl
/-- a comprehension that chooses nothing -/
theorem comp_none {i : Nat} : ∀ {ds : List PyData}, (∀ d ∈ ds, t (ev.set i (some (.d d))) S = some (.ok false, S)) → compL (gN i) t f ev ds S = some ([], S)
  | [], _ => rfl
  | d :: ds, h => by
    show (match t (ev.set i (some (.d d))) S with | some (.ok true, S1) => _ | some (.ok false, S1) => compL (gN i) t f ev ds S1 | _ => none) = _
    rw [h d (List.mem_cons_self ..)]
    exact comp_none fun d hd => h d (List.mem_cons_of_mem _ hd)
end
end DD
namespace K00
open DD PySem
/-- values as the law makes them, at most n deep -/
def plainN : Nat → PyData → Bool
  | _, .none => true
  | _, .bool _ => true
  | _, .int _ => true
  | _, .str x => SeqAt.shaped (.str x)
  | n + 1, .tuple xs => xs.all (plainN n) && decide (xs.length ≤ 1000000)
  | n + 1, .list xs => xs.all (plainN n) && decide (xs.length ≤ 1000000)
  | _, _ => false
theorem isi_tl (d : PyData) : isiP2 .tup .lst d = some (.bool (isiB .tup d || isiB .lst d)) := rfl
end K00
/-! part M1 -/
set_option linter.all false
set_option maxRecDepth 100000
set_option maxHeartbeats 1000000
namespace K00
open DD PySem
/-- the row of draws -/
def rowL (ns : List Int) (p s q : Int) : MO := .l [.list (ns.map PyData.int), .int p, .int s, .int q]


theorem fin_d (n : Nat) (x : PyData) (S : Sto) : fin n (.d x) S = some (.ok (.d x), S.take n) := rfl
theorem p_pow (i j : Int) (h : 0 ≤ j ∧ j ≤ 64 ∧ i.natAbs < 2 ^ 64) : powP (.int i) (.int j) = some (.int (i ^ j.toNat)) := if_pos h
theorem p_pow18 : powP (.int 10) (.int 18) = some (.int (10 ^ 18)) := p_pow 10 18 (by decide)
theorem atI_map {ns : List Int} {p : Int} (hp : 0 ≤ p) (h : p < ns.length) : ∃ c, ns[p.toNat]? = some c ∧ L2.atI (ns.map PyData.int) p = some (.int c) := by
  have hl : p.toNat < ns.length := by omega
  refine ⟨ns[p.toNat], List.getElem?_eq_getElem hl, ?_⟩
  unfold L2.atI L2.ixN
  rw [if_pos hp, List.length_map, if_pos h]
  simp [List.getElem?_eq_getElem hl]
theorem taken (T : Sto) (ns : List Int) (p s q many : Int) (hp : 0 ≤ p) (hm : 0 < many) (hm2 : many < 2 ^ 60) : ∃ v p' s' q', m_Ltaken [.m 0, .d (.int many)] (rowL ns p s q :: T) = some (.ok (.d (.int v)), rowL ns p' s' q' :: T) ∧ 0 ≤ v ∧ v < many ∧ 0 ≤ p' := by
  by_cases hq : 0 < q
  · refine ⟨q % many, p, s, q / many, ?_, Int.emod_nonneg _ (by omega), Int.emod_lt_of_pos _ hm, hp⟩
    unfold m_Ltaken mDef b_Ltaken
    simp only [s_seq, s_if, s_set, s_expr, s_ret, s_pass, r_fB, r_op, r_var, r_c, r_call, r_cons, r_nil, r_put, rdAll_cons, rdAll_nil, startE, rb_ok, rl_some, ro_ok, rs_nx, rs_rt, List.map, List.replicate, List.getElem?_cons_zero, List.getElem?_cons_succ, List.cons_append, List.nil_append, rd_m, mut_m, rowL, list_of, rd_d, p_ixl, at4_0, at4_1, at4_2, at4_3, ix4_0, ix4_1, ix4_2, ix4_3, p_gt, p_ge, p_add, p_sub, p_lenl, p_mul (j := 48271) (by decide), p_mod hm, p_mod (j := 2147483647) (by decide), p_fdiv hm hm2, p_fdiv (j := 7) (by decide) (by decide), p_int, bool_of, dat_of, int_of, decide_true, decide_false, cond_true, cond_false, List.set, List.length_cons, List.length_nil, Nat.zero_add, Nat.reduceAdd, Nat.reduceSub, List.set_cons_zero, List.set_cons_succ, fin_d, List.length_map, List.take_succ_cons, List.take_zero, List.take_nil, List.take_length, p_pow18, hq]
  · by_cases hl : (ns.length : Int) < p + 1
    · refine ⟨(s * 48271 + 11) % 2147483647 / 7 % many, p + 1, (s * 48271 + 11) % 2147483647, q, ?_, Int.emod_nonneg _ (by omega), Int.emod_lt_of_pos _ hm, by omega⟩
      unfold m_Ltaken mDef b_Ltaken
      simp only [s_seq, s_if, s_set, s_expr, s_ret, s_pass, r_fB, r_op, r_var, r_c, r_call, r_cons, r_nil, r_put, rdAll_cons, rdAll_nil, startE, rb_ok, rl_some, ro_ok, rs_nx, rs_rt, List.map, List.replicate, List.getElem?_cons_zero, List.getElem?_cons_succ, List.cons_append, List.nil_append, rd_m, mut_m, rowL, list_of, rd_d, p_ixl, at4_0, at4_1, at4_2, at4_3, ix4_0, ix4_1, ix4_2, ix4_3, p_gt, p_ge, p_add, p_sub, p_lenl, p_mul (j := 48271) (by decide), p_mod hm, p_mod (j := 2147483647) (by decide), p_fdiv hm hm2, p_fdiv (j := 7) (by decide) (by decide), p_int, bool_of, dat_of, int_of, decide_true, decide_false, cond_true, cond_false, List.set, List.length_cons, List.length_nil, Nat.zero_add, Nat.reduceAdd, Nat.reduceSub, List.set_cons_zero, List.set_cons_succ, fin_d, List.length_map, List.take_succ_cons, List.take_zero, List.take_nil, List.take_length, p_pow18, hq, hl]
    · obtain ⟨c, hc, ha⟩ := atI_map (ns := ns) (p := p) hp (by omega)
      have ha' : L2.atI (ns.map PyData.int) (p + 1 - 1) = some (.int c) := by rw [Int.add_sub_cancel]; exact ha
      by_cases hb : 10 ^ 18 ≤ c
      · refine ⟨c % many, p + 1, (s * 48271 + c + 11) % 2147483647, c / many, ?_, Int.emod_nonneg _ (by omega), Int.emod_lt_of_pos _ hm, by omega⟩
        unfold m_Ltaken mDef b_Ltaken
        simp only [s_seq, s_if, s_set, s_expr, s_ret, s_pass, r_fB, r_op, r_var, r_c, r_call, r_cons, r_nil, r_put, rdAll_cons, rdAll_nil, startE, rb_ok, rl_some, ro_ok, rs_nx, rs_rt, List.map, List.replicate, List.getElem?_cons_zero, List.getElem?_cons_succ, List.cons_append, List.nil_append, rd_m, mut_m, rowL, list_of, rd_d, p_ixl, at4_0, at4_1, at4_2, at4_3, ix4_0, ix4_1, ix4_2, ix4_3, p_gt, p_ge, p_add, p_sub, p_lenl, p_mul (j := 48271) (by decide), p_mod hm, p_mod (j := 2147483647) (by decide), p_fdiv hm hm2, p_fdiv (j := 7) (by decide) (by decide), p_int, bool_of, dat_of, int_of, decide_true, decide_false, cond_true, cond_false, List.set, List.length_cons, List.length_nil, Nat.zero_add, Nat.reduceAdd, Nat.reduceSub, List.set_cons_zero, List.set_cons_succ, fin_d, List.length_map, List.take_succ_cons, List.take_zero, List.take_nil, List.take_length, p_pow18, hq, hl, ha', hb]
      · refine ⟨c % many, p + 1, (s * 48271 + c + 11) % 2147483647, q, ?_, Int.emod_nonneg _ (by omega), Int.emod_lt_of_pos _ hm, by omega⟩
        unfold m_Ltaken mDef b_Ltaken
        simp only [s_seq, s_if, s_set, s_expr, s_ret, s_pass, r_fB, r_op, r_var, r_c, r_call, r_cons, r_nil, r_put, rdAll_cons, rdAll_nil, startE, rb_ok, rl_some, ro_ok, rs_nx, rs_rt, List.map, List.replicate, List.getElem?_cons_zero, List.getElem?_cons_succ, List.cons_append, List.nil_append, rd_m, mut_m, rowL, list_of, rd_d, p_ixl, at4_0, at4_1, at4_2, at4_3, ix4_0, ix4_1, ix4_2, ix4_3, p_gt, p_ge, p_add, p_sub, p_lenl, p_mul (j := 48271) (by decide), p_mod hm, p_mod (j := 2147483647) (by decide), p_fdiv hm hm2, p_fdiv (j := 7) (by decide) (by decide), p_int, bool_of, dat_of, int_of, decide_true, decide_false, cond_true, cond_false, List.set, List.length_cons, List.length_nil, Nat.zero_add, Nat.reduceAdd, Nat.reduceSub, List.set_cons_zero, List.set_cons_succ, fin_d, List.length_map, List.take_succ_cons, List.take_zero, List.take_nil, List.take_length, p_pow18, hq, hl, ha', hb]
end K00
/-! part MCx -/
set_option linter.all false
set_option maxRecDepth 100000
set_option maxHeartbeats 1000000
namespace K00
open DD PySem
theorem sh_none : SeqAt.shaped .none = true := rfl
theorem sh_bool (b : Bool) : SeqAt.shaped (.bool b) = true := rfl
theorem sh_int (b : Int) : SeqAt.shaped (.int b) = true := rfl
theorem sh_nil : SeqAt.shaped (.list []) = true := rfl
theorem eq_bb (a b : Bool) : eqP (.bool a) (.bool b) = some (.bool (a == b)) := rfl
theorem ne_bb (a b : Bool) : neP (.bool a) (.bool b) = some (.bool (!(a == b))) := rfl
theorem eq_ii (a b : Int) : eqP (.int a) (.int b) = some (.bool (a == b)) := rfl
theorem ne_ii (a b : Int) : neP (.int a) (.int b) = some (.bool (!(a == b))) := rfl
theorem eq_ss (a b : Str) (h : SeqAt.shaped (.str a) = true) (g : SeqAt.shaped (.str b) = true) : eqP (.str a) (.str b) = some (.bool (a == b)) := if_pos ⟨h, g⟩
theorem eq_nn : eqP .none .none = some (.bool true) := rfl
theorem eq_ll : eqP (.list []) (.list []) = some (.bool true) := rfl
theorem is_nn : isP .none .none = some (.bool true) := rfl
theorem is_n (d : PyData) : isP d .none = some (.bool (isNon d)) := by cases d <;> rfl
theorem isi_t (d : PyData) (T : Ty) : isiP T d = some (.bool (isiB T d)) := rfl
theorem rng1 (n : Nat) (h : n ≤ 1000000) : rng1P [.int n] = some (intsL 0 n) := if_pos ⟨by omega, by omega⟩
theorem mem_ints {lo : Int} {n : Nat} {d : PyData} (h : d ∈ intsL lo n) : ∃ i : Nat, i < n ∧ d = .int (lo + i) := by
  unfold intsL at h
  obtain ⟨i, h1, rfl⟩ := List.mem_map.mp h
  exact ⟨i, List.mem_range.mp h1, rfl⟩
theorem atI_nat {α : Type} (xs : List α) (i : Nat) (h : i < xs.length) : L2.atI xs (0 + (i : Int)) = some xs[i] := by
  unfold L2.atI L2.ixN
  rw [if_pos (by omega), if_pos (by omega)]
  have : ((0 : Int) + (i : Int)).toNat = i := by omega
  simp [this, List.getElem?_eq_getElem h]
theorem len_data (d : PyData) (k : List PyData) (h : d = .tuple k ∨ d = .list k) : lenP [d] = some (.int k.length) := by
  rcases h with rfl | rfl <;> rfl
theorem dats_nil : dats [] = some [] := rfl
theorem wipe1 (a b : Option Vl) : wipeE [a, b, none] [2] = [a, b, none] := rfl
theorem rb_none' {α β : Type} (k : α → Sto → R β) : rb (none : R α) k = none := rfl
theorem alike_test (n : Nat) (xs : List PyData) (d : PyData) (S : Sto) (hd : d = .tuple xs ∨ d = .list xs) (i : Nat) (hi : i < xs.length) (h : m_Lalike (n + 1) [.d xs[i], .d xs[i]] S = some (.ok (.d (.bool true)), S)) :
    fNot (fB (fDef 2 (m_Lalike (n + 1)) (fCons (fOp ixP (fVar 0) (fVar 2)) (fCons (fOp ixP (fVar 1) (fVar 2)) fNil)))) [some (.d d), some (.d d), some (.d (.int (0 + (i : Int))))] S = some (.ok false, S) := by
  rcases hd with rfl | rfl <;>
  simp only [r_not, r_fB, r_def, r_cons, r_nil, r_op, r_var, rb_ok, rl_some, rd_d, List.getElem?_cons_zero, List.getElem?_cons_succ, p_ixl, p_ixt, atI_nat xs i hi, List.length_cons, List.length_nil, if_true, h, bool_of, Bool.not_true]
theorem alike_comp (n : Nat) (xs : List PyData) (d : PyData) (S : Sto) (hd : d = .tuple xs ∨ d = .list xs) (hx : xs.all (plainN n) = true) (ih : ∀ (v : PyData) (S : Sto), plainN n v = true → m_Lalike (n + 1) [Vl.d v, Vl.d v] S = some (Except.ok (Vl.d (PyData.bool true)), S)) :
    compL (gN 2) (fNot (fB (fDef 2 (m_Lalike (n + 1)) (fCons (fOp ixP (fVar 0) (fVar 2)) (fCons (fOp ixP (fVar 1) (fVar 2)) fNil))))) (fVar 2) [some (.d d), some (.d d), none] (intsL 0 xs.length) S = some ([], S) :=
  comp_none fun e he => by
    obtain ⟨i, hi, rfl⟩ := mem_ints he
    exact alike_test n xs d S hd i hi (ih _ S (List.all_eq_true.mp hx _ (List.getElem_mem hi)))
theorem alike_refl : ∀ n v S, plainN n v = true → m_Lalike (n + 1) [.d v, .d v] S = some (.ok (.d (.bool true)), S) := by
  intro n
  induction n with
  | zero =>
    intro v S h
    cases v <;> first | (cases h; done) | skip
    case str x =>
      have hs : SeqAt.shaped (.str x) = true := h
      unfold m_Lalike mDef b_Lalike
      simp only [s_seq, s_if, s_set, s_expr, s_ret, s_pass, r_fB, r_op, r_un, r_var, r_c, r_call, r_cons, r_nil, r_or, r_not, r_andV, rdAll_cons, rdAll_nil, startE, rb_ok, rl_some, ro_ok, rs_nx, rs_rt, List.map, List.replicate, List.getElem?_cons_zero, List.getElem?_cons_succ, List.cons_append, List.nil_append, rd_d, bool_of, fin_d, isi_tl, isi_t, isiB, is_n, isNon, eq_bb, eq_ii, eq_nn, ne_bb, ne_ii, p_lenl, p_lent, cond_true, cond_false, Bool.or_false, Bool.false_or, Bool.or_true, Bool.not_true, Bool.not_false, beq_self_eq_true, List.take_length, List.length_cons, List.length_nil, r_comp, r_range, r_lst, dats_nil, eq_ll, eq_ss x x hs hs]
    all_goals
      unfold m_Lalike mDef b_Lalike
      simp only [s_seq, s_if, s_set, s_expr, s_ret, s_pass, r_fB, r_op, r_un, r_var, r_c, r_call, r_cons, r_nil, r_or, r_not, r_andV, rdAll_cons, rdAll_nil, startE, rb_ok, rl_some, ro_ok, rs_nx, rs_rt, List.map, List.replicate, List.getElem?_cons_zero, List.getElem?_cons_succ, List.cons_append, List.nil_append, rd_d, bool_of, fin_d, isi_tl, isi_t, isiB, is_n, isNon, eq_bb, eq_ii, eq_nn, ne_bb, ne_ii, p_lenl, p_lent, cond_true, cond_false, Bool.or_false, Bool.false_or, Bool.or_true, Bool.not_true, Bool.not_false, beq_self_eq_true, List.take_length, List.length_cons, List.length_nil, r_comp, r_range, r_lst, dats_nil, eq_ll]
  | succ n ih =>
    intro v S h
    cases v <;> first | (cases h; done) | skip
    case str x =>
      have hs : SeqAt.shaped (.str x) = true := h
      unfold m_Lalike mDef b_Lalike
      simp only [s_seq, s_if, s_set, s_expr, s_ret, s_pass, r_fB, r_op, r_un, r_var, r_c, r_call, r_cons, r_nil, r_or, r_not, r_andV, rdAll_cons, rdAll_nil, startE, rb_ok, rl_some, ro_ok, rs_nx, rs_rt, List.map, List.replicate, List.getElem?_cons_zero, List.getElem?_cons_succ, List.cons_append, List.nil_append, rd_d, bool_of, fin_d, isi_tl, isi_t, isiB, is_n, isNon, eq_bb, eq_ii, eq_nn, ne_bb, ne_ii, p_lenl, p_lent, cond_true, cond_false, Bool.or_false, Bool.false_or, Bool.or_true, Bool.not_true, Bool.not_false, beq_self_eq_true, List.take_length, List.length_cons, List.length_nil, r_comp, r_range, r_lst, dats_nil, eq_ll, eq_ss x x hs hs]
    case tuple xs =>
      obtain ⟨h1, h2⟩ := Bool.and_eq_true_iff.mp (show (xs.all (plainN n) && decide (xs.length ≤ 1000000)) = true from h)
      unfold m_Lalike mDef b_Lalike
      simp only [s_seq, s_if, s_set, s_expr, s_ret, s_pass, r_fB, r_op, r_un, r_var, r_c, r_call, r_cons, r_nil, r_or, r_not, r_andV, rdAll_cons, rdAll_nil, startE, rb_ok, rl_some, ro_ok, rs_nx, rs_rt, List.map, List.replicate, List.getElem?_cons_zero, List.getElem?_cons_succ, List.cons_append, List.nil_append, rd_d, bool_of, fin_d, isi_tl, isi_t, isiB, is_n, isNon, eq_bb, eq_ii, eq_nn, ne_bb, ne_ii, p_lenl, p_lent, cond_true, cond_false, Bool.or_false, Bool.false_or, Bool.or_true, Bool.not_true, Bool.not_false, beq_self_eq_true, List.take_length, List.length_cons, List.length_nil, r_comp, r_range, r_lst, dats_nil, eq_ll, rng1 _ (of_decide_eq_true h2), wipe1, alike_comp n xs _ S (.inl rfl) h1 ih, compR_some [] _ (Nat.zero_le _), Nat.zero_le, if_true]
    case list xs =>
      obtain ⟨h1, h2⟩ := Bool.and_eq_true_iff.mp (show (xs.all (plainN n) && decide (xs.length ≤ 1000000)) = true from h)
      unfold m_Lalike mDef b_Lalike
      simp only [s_seq, s_if, s_set, s_expr, s_ret, s_pass, r_fB, r_op, r_un, r_var, r_c, r_call, r_cons, r_nil, r_or, r_not, r_andV, rdAll_cons, rdAll_nil, startE, rb_ok, rl_some, ro_ok, rs_nx, rs_rt, List.map, List.replicate, List.getElem?_cons_zero, List.getElem?_cons_succ, List.cons_append, List.nil_append, rd_d, bool_of, fin_d, isi_tl, isi_t, isiB, is_n, isNon, eq_bb, eq_ii, eq_nn, ne_bb, ne_ii, p_lenl, p_lent, cond_true, cond_false, Bool.or_false, Bool.false_or, Bool.or_true, Bool.not_true, Bool.not_false, beq_self_eq_true, List.take_length, List.length_cons, List.length_nil, r_comp, r_range, r_lst, dats_nil, eq_ll, rng1 _ (of_decide_eq_true h2), wipe1, alike_comp n xs _ S (.inr rfl) h1 ih, compR_some [] _ (Nat.zero_le _), Nat.zero_le, if_true]
    all_goals
      unfold m_Lalike mDef b_Lalike
      simp only [s_seq, s_if, s_set, s_expr, s_ret, s_pass, r_fB, r_op, r_un, r_var, r_c, r_call, r_cons, r_nil, r_or, r_not, r_andV, rdAll_cons, rdAll_nil, startE, rb_ok, rl_some, ro_ok, rs_nx, rs_rt, List.map, List.replicate, List.getElem?_cons_zero, List.getElem?_cons_succ, List.cons_append, List.nil_append, rd_d, bool_of, fin_d, isi_tl, isi_t, isiB, is_n, isNon, eq_bb, eq_ii, eq_nn, ne_bb, ne_ii, p_lenl, p_lent, cond_true, cond_false, Bool.or_false, Bool.false_or, Bool.or_true, Bool.not_true, Bool.not_false, beq_self_eq_true, List.take_length, List.length_cons, List.length_nil, r_comp, r_range, r_lst, dats_nil, eq_ll]
end K00
/-! part K1 -/
set_option linter.all false
set_option maxRecDepth 100000
set_option maxHeartbeats 4000000
namespace K00
open DD PySem PySem.W
mutual
def sm : PyData → PyData → Bool
  | .none, .none => true
  | .bool a, .bool b => decide (a = b)
  | .int a, .int b => decide (a = b)
  | .str a, .str b => decide (a = b)
  | .list xs, .list ys => sms xs ys
  | .tuple xs, .tuple ys => sms xs ys
  | _, _ => false
def sms : List PyData → List PyData → Bool
  | [], [] => true
  | x :: xs, y :: ys => sm x y && sms xs ys
  | _, _ => false
end
mutual
theorem sm_eq : ∀ a b, sm a b = true → a = b
  | .none, b, h => by cases b <;> first | rfl | (unfold sm at h; cases h)
  | .bool a, b, h => by
    cases b <;> unfold sm at h <;> first | (cases h; done) | (rw [of_decide_eq_true h])
  | .int a, b, h => by
    cases b <;> unfold sm at h <;> first | (cases h; done) | (rw [of_decide_eq_true h])
  | .str a, b, h => by
    cases b <;> unfold sm at h <;> first | (cases h; done) | (rw [of_decide_eq_true h])
  | .list xs, b, h => by
    cases b <;> unfold sm at h <;> first | (cases h; done) | (rw [sms_eq _ _ h])
  | .tuple xs, b, h => by
    cases b <;> unfold sm at h <;> first | (cases h; done) | (rw [sms_eq _ _ h])
  | .dict xs, b, h => by cases b <;> unfold sm at h <;> cases h
theorem sms_eq : ∀ a b, sms a b = true → a = b
  | [], b, h => by cases b <;> first | rfl | (unfold sms at h; cases h)
  | x :: xs, b, h => by
    cases b with
    | nil => unfold sms at h; cases h
    | cons y ys =>
      unfold sms at h
      obtain ⟨h1, h2⟩ := Bool.and_eq_true_iff.mp h
      rw [sm_eq _ _ h1, sms_eq _ _ h2]
end
def okD (x : MO) (v : PyData) : R Vl := some (.ok (.d v), [x])
def erD (x : MO) (e : Str) : R Vl := some (.error e, [x])
def getV : R Vl → PyData
  | some (.ok (.d v), _) => v
  | _ => .none
def getL : R Vl → List PyData
  | some (.ok (.d (.list v)), _) => v
  | _ => []
def x0 : MO := .l []
def callsOf (t : PyData) : List PyData := getL (m_Lcalls [.d t] [x0])
def statesOf (t : PyData) : List PyData := getL (m_Lstates [.d t] [x0])
def resOf (q : PyData × PyData × PyData) : PyData := getV (m_Ldo [.d q.1, .d q.2.1, .d q.2.2] [x0])
def small1 : List PyData := ([2, 3, 4].map fun n => .tuple [.str "counter", .int n]) ++ [2, 3, 4].map fun n => .tuple [.str "register", .int n]
def small2 : List PyData := [1, 2].flatMap fun n => [1, 2].flatMap fun m => [.tuple [.str "stack", .int n, .int m], .tuple [.str "queue", .int n, .int m]]
def small3 : List PyData := ([2, 3].map fun n => .tuple [.str "set", .int n]) ++ [2, 3].map fun n => .tuple [.str "agree", .int n]
def small : List PyData := small1 ++ (small2 ++ small3)
theorem each {α β : Type} {l : List α} {f g : α → β} (h : l.map f = l.map g) : ∀ a ∈ l, f a = g a := List.map_inj_left.mp h
structure Row where
  t : PyData
  C : List PyData
  L : List PyData
  st : List (PyData × PyData × PyData × PyData)
def row0 : Row := ⟨.tuple [.str "counter", .int (2)], [.tuple [.str "add", .int (1)], .tuple [.str "look"]], [.int (0), .int (1)], [(.int (0), .tuple [.str "add", .int (1)], .int (1), .int (0)), (.int (0), .tuple [.str "look"], .int (0), .int (0)), (.int (1), .tuple [.str "add", .int (1)], .int (0), .int (1)), (.int (1), .tuple [.str "look"], .int (1), .int (1))]⟩
def row1 : Row := ⟨.tuple [.str "counter", .int (3)], [.tuple [.str "add", .int (1)], .tuple [.str "add", .int (2)], .tuple [.str "look"]], [.int (0), .int (1), .int (2)], [(.int (0), .tuple [.str "add", .int (1)], .int (1), .int (0)), (.int (0), .tuple [.str "add", .int (2)], .int (2), .int (0)), (.int (0), .tuple [.str "look"], .int (0), .int (0)), (.int (1), .tuple [.str "add", .int (1)], .int (2), .int (1)), (.int (1), .tuple [.str "add", .int (2)], .int (0), .int (1)), (.int (1), .tuple [.str "look"], .int (1), .int (1)), (.int (2), .tuple [.str "add", .int (1)], .int (0), .int (2)), (.int (2), .tuple [.str "add", .int (2)], .int (1), .int (2)), (.int (2), .tuple [.str "look"], .int (2), .int (2))]⟩
def row2 : Row := ⟨.tuple [.str "counter", .int (4)], [.tuple [.str "add", .int (1)], .tuple [.str "add", .int (2)], .tuple [.str "add", .int (3)], .tuple [.str "look"]], [.int (0), .int (1), .int (2), .int (3)], [(.int (0), .tuple [.str "add", .int (1)], .int (1), .int (0)), (.int (0), .tuple [.str "add", .int (2)], .int (2), .int (0)), (.int (0), .tuple [.str "add", .int (3)], .int (3), .int (0)), (.int (0), .tuple [.str "look"], .int (0), .int (0)), (.int (1), .tuple [.str "add", .int (1)], .int (2), .int (1)), (.int (1), .tuple [.str "add", .int (2)], .int (3), .int (1)), (.int (1), .tuple [.str "add", .int (3)], .int (0), .int (1)), (.int (1), .tuple [.str "look"], .int (1), .int (1)), (.int (2), .tuple [.str "add", .int (1)], .int (3), .int (2)), (.int (2), .tuple [.str "add", .int (2)], .int (0), .int (2)), (.int (2), .tuple [.str "add", .int (3)], .int (1), .int (2)), (.int (2), .tuple [.str "look"], .int (2), .int (2)), (.int (3), .tuple [.str "add", .int (1)], .int (0), .int (3)), (.int (3), .tuple [.str "add", .int (2)], .int (1), .int (3)), (.int (3), .tuple [.str "add", .int (3)], .int (2), .int (3)), (.int (3), .tuple [.str "look"], .int (3), .int (3))]⟩
def row3 : Row := ⟨.tuple [.str "register", .int (2)], [.tuple [.str "look"], .tuple [.str "put", .int (0)], .tuple [.str "put", .int (1)], .tuple [.str "trade", .int (0)], .tuple [.str "trade", .int (1)]], [.int (0), .int (1)], [(.int (0), .tuple [.str "look"], .int (0), .int (0)), (.int (0), .tuple [.str "put", .int (0)], .int (0), .none), (.int (0), .tuple [.str "put", .int (1)], .int (1), .none), (.int (0), .tuple [.str "trade", .int (0)], .int (0), .int (0)), (.int (0), .tuple [.str "trade", .int (1)], .int (1), .int (0)), (.int (1), .tuple [.str "look"], .int (1), .int (1)), (.int (1), .tuple [.str "put", .int (0)], .int (0), .none), (.int (1), .tuple [.str "put", .int (1)], .int (1), .none), (.int (1), .tuple [.str "trade", .int (0)], .int (0), .int (1)), (.int (1), .tuple [.str "trade", .int (1)], .int (1), .int (1))]⟩
def row4 : Row := ⟨.tuple [.str "register", .int (3)], [.tuple [.str "look"], .tuple [.str "put", .int (0)], .tuple [.str "put", .int (1)], .tuple [.str "put", .int (2)], .tuple [.str "trade", .int (0)], .tuple [.str "trade", .int (1)], .tuple [.str "trade", .int (2)]], [.int (0), .int (1), .int (2)], [(.int (0), .tuple [.str "look"], .int (0), .int (0)), (.int (0), .tuple [.str "put", .int (0)], .int (0), .none), (.int (0), .tuple [.str "put", .int (1)], .int (1), .none), (.int (0), .tuple [.str "put", .int (2)], .int (2), .none), (.int (0), .tuple [.str "trade", .int (0)], .int (0), .int (0)), (.int (0), .tuple [.str "trade", .int (1)], .int (1), .int (0)), (.int (0), .tuple [.str "trade", .int (2)], .int (2), .int (0)), (.int (1), .tuple [.str "look"], .int (1), .int (1)), (.int (1), .tuple [.str "put", .int (0)], .int (0), .none), (.int (1), .tuple [.str "put", .int (1)], .int (1), .none), (.int (1), .tuple [.str "put", .int (2)], .int (2), .none), (.int (1), .tuple [.str "trade", .int (0)], .int (0), .int (1)), (.int (1), .tuple [.str "trade", .int (1)], .int (1), .int (1)), (.int (1), .tuple [.str "trade", .int (2)], .int (2), .int (1)), (.int (2), .tuple [.str "look"], .int (2), .int (2)), (.int (2), .tuple [.str "put", .int (0)], .int (0), .none), (.int (2), .tuple [.str "put", .int (1)], .int (1), .none), (.int (2), .tuple [.str "put", .int (2)], .int (2), .none), (.int (2), .tuple [.str "trade", .int (0)], .int (0), .int (2)), (.int (2), .tuple [.str "trade", .int (1)], .int (1), .int (2)), (.int (2), .tuple [.str "trade", .int (2)], .int (2), .int (2))]⟩
def row5 : Row := ⟨.tuple [.str "register", .int (4)], [.tuple [.str "look"], .tuple [.str "put", .int (0)], .tuple [.str "put", .int (1)], .tuple [.str "put", .int (2)], .tuple [.str "put", .int (3)], .tuple [.str "trade", .int (0)], .tuple [.str "trade", .int (1)], .tuple [.str "trade", .int (2)], .tuple [.str "trade", .int (3)]], [.int (0), .int (1), .int (2), .int (3)], [(.int (0), .tuple [.str "look"], .int (0), .int (0)), (.int (0), .tuple [.str "put", .int (0)], .int (0), .none), (.int (0), .tuple [.str "put", .int (1)], .int (1), .none), (.int (0), .tuple [.str "put", .int (2)], .int (2), .none), (.int (0), .tuple [.str "put", .int (3)], .int (3), .none), (.int (0), .tuple [.str "trade", .int (0)], .int (0), .int (0)), (.int (0), .tuple [.str "trade", .int (1)], .int (1), .int (0)), (.int (0), .tuple [.str "trade", .int (2)], .int (2), .int (0)), (.int (0), .tuple [.str "trade", .int (3)], .int (3), .int (0)), (.int (1), .tuple [.str "look"], .int (1), .int (1)), (.int (1), .tuple [.str "put", .int (0)], .int (0), .none), (.int (1), .tuple [.str "put", .int (1)], .int (1), .none), (.int (1), .tuple [.str "put", .int (2)], .int (2), .none), (.int (1), .tuple [.str "put", .int (3)], .int (3), .none), (.int (1), .tuple [.str "trade", .int (0)], .int (0), .int (1)), (.int (1), .tuple [.str "trade", .int (1)], .int (1), .int (1)), (.int (1), .tuple [.str "trade", .int (2)], .int (2), .int (1)), (.int (1), .tuple [.str "trade", .int (3)], .int (3), .int (1)), (.int (2), .tuple [.str "look"], .int (2), .int (2)), (.int (2), .tuple [.str "put", .int (0)], .int (0), .none), (.int (2), .tuple [.str "put", .int (1)], .int (1), .none), (.int (2), .tuple [.str "put", .int (2)], .int (2), .none), (.int (2), .tuple [.str "put", .int (3)], .int (3), .none), (.int (2), .tuple [.str "trade", .int (0)], .int (0), .int (2)), (.int (2), .tuple [.str "trade", .int (1)], .int (1), .int (2)), (.int (2), .tuple [.str "trade", .int (2)], .int (2), .int (2)), (.int (2), .tuple [.str "trade", .int (3)], .int (3), .int (2)), (.int (3), .tuple [.str "look"], .int (3), .int (3)), (.int (3), .tuple [.str "put", .int (0)], .int (0), .none), (.int (3), .tuple [.str "put", .int (1)], .int (1), .none), (.int (3), .tuple [.str "put", .int (2)], .int (2), .none), (.int (3), .tuple [.str "put", .int (3)], .int (3), .none), (.int (3), .tuple [.str "trade", .int (0)], .int (0), .int (3)), (.int (3), .tuple [.str "trade", .int (1)], .int (1), .int (3)), (.int (3), .tuple [.str "trade", .int (2)], .int (2), .int (3)), (.int (3), .tuple [.str "trade", .int (3)], .int (3), .int (3))]⟩
def row6 : Row := ⟨.tuple [.str "stack", .int (1), .int (1)], [.tuple [.str "pop"], .tuple [.str "push", .int (0)]], [.tuple [], .tuple [.int (0)]], [(.tuple [], .tuple [.str "pop"], .tuple [], .none), (.tuple [], .tuple [.str "push", .int (0)], .tuple [.int (0)], .bool true), (.tuple [.int (0)], .tuple [.str "pop"], .tuple [], .int (0)), (.tuple [.int (0)], .tuple [.str "push", .int (0)], .tuple [.int (0)], .bool false)]⟩
def row7 : Row := ⟨.tuple [.str "queue", .int (1), .int (1)], [.tuple [.str "enter", .int (0)], .tuple [.str "leave"]], [.tuple [], .tuple [.int (0)]], [(.tuple [], .tuple [.str "enter", .int (0)], .tuple [.int (0)], .bool true), (.tuple [], .tuple [.str "leave"], .tuple [], .none), (.tuple [.int (0)], .tuple [.str "enter", .int (0)], .tuple [.int (0)], .bool false), (.tuple [.int (0)], .tuple [.str "leave"], .tuple [], .int (0))]⟩
def row8 : Row := ⟨.tuple [.str "stack", .int (1), .int (2)], [.tuple [.str "pop"], .tuple [.str "push", .int (0)], .tuple [.str "push", .int (1)]], [.tuple [], .tuple [.int (0)], .tuple [.int (1)]], [(.tuple [], .tuple [.str "pop"], .tuple [], .none), (.tuple [], .tuple [.str "push", .int (0)], .tuple [.int (0)], .bool true), (.tuple [], .tuple [.str "push", .int (1)], .tuple [.int (1)], .bool true), (.tuple [.int (0)], .tuple [.str "pop"], .tuple [], .int (0)), (.tuple [.int (0)], .tuple [.str "push", .int (0)], .tuple [.int (0)], .bool false), (.tuple [.int (0)], .tuple [.str "push", .int (1)], .tuple [.int (0)], .bool false), (.tuple [.int (1)], .tuple [.str "pop"], .tuple [], .int (1)), (.tuple [.int (1)], .tuple [.str "push", .int (0)], .tuple [.int (1)], .bool false), (.tuple [.int (1)], .tuple [.str "push", .int (1)], .tuple [.int (1)], .bool false)]⟩
def row9 : Row := ⟨.tuple [.str "queue", .int (1), .int (2)], [.tuple [.str "enter", .int (0)], .tuple [.str "enter", .int (1)], .tuple [.str "leave"]], [.tuple [], .tuple [.int (0)], .tuple [.int (1)]], [(.tuple [], .tuple [.str "enter", .int (0)], .tuple [.int (0)], .bool true), (.tuple [], .tuple [.str "enter", .int (1)], .tuple [.int (1)], .bool true), (.tuple [], .tuple [.str "leave"], .tuple [], .none), (.tuple [.int (0)], .tuple [.str "enter", .int (0)], .tuple [.int (0)], .bool false), (.tuple [.int (0)], .tuple [.str "enter", .int (1)], .tuple [.int (0)], .bool false), (.tuple [.int (0)], .tuple [.str "leave"], .tuple [], .int (0)), (.tuple [.int (1)], .tuple [.str "enter", .int (0)], .tuple [.int (1)], .bool false), (.tuple [.int (1)], .tuple [.str "enter", .int (1)], .tuple [.int (1)], .bool false), (.tuple [.int (1)], .tuple [.str "leave"], .tuple [], .int (1))]⟩
def row10 : Row := ⟨.tuple [.str "stack", .int (2), .int (1)], [.tuple [.str "pop"], .tuple [.str "push", .int (0)]], [.tuple [], .tuple [.int (0)], .tuple [.int (0), .int (0)]], [(.tuple [], .tuple [.str "pop"], .tuple [], .none), (.tuple [], .tuple [.str "push", .int (0)], .tuple [.int (0)], .bool true), (.tuple [.int (0)], .tuple [.str "pop"], .tuple [], .int (0)), (.tuple [.int (0)], .tuple [.str "push", .int (0)], .tuple [.int (0), .int (0)], .bool true), (.tuple [.int (0), .int (0)], .tuple [.str "pop"], .tuple [.int (0)], .int (0)), (.tuple [.int (0), .int (0)], .tuple [.str "push", .int (0)], .tuple [.int (0), .int (0)], .bool false)]⟩
def row11 : Row := ⟨.tuple [.str "queue", .int (2), .int (1)], [.tuple [.str "enter", .int (0)], .tuple [.str "leave"]], [.tuple [], .tuple [.int (0)], .tuple [.int (0), .int (0)]], [(.tuple [], .tuple [.str "enter", .int (0)], .tuple [.int (0)], .bool true), (.tuple [], .tuple [.str "leave"], .tuple [], .none), (.tuple [.int (0)], .tuple [.str "enter", .int (0)], .tuple [.int (0), .int (0)], .bool true), (.tuple [.int (0)], .tuple [.str "leave"], .tuple [], .int (0)), (.tuple [.int (0), .int (0)], .tuple [.str "enter", .int (0)], .tuple [.int (0), .int (0)], .bool false), (.tuple [.int (0), .int (0)], .tuple [.str "leave"], .tuple [.int (0)], .int (0))]⟩
def row12 : Row := ⟨.tuple [.str "stack", .int (2), .int (2)], [.tuple [.str "pop"], .tuple [.str "push", .int (0)], .tuple [.str "push", .int (1)]], [.tuple [], .tuple [.int (0)], .tuple [.int (1)], .tuple [.int (0), .int (0)], .tuple [.int (0), .int (1)], .tuple [.int (1), .int (0)], .tuple [.int (1), .int (1)]], [(.tuple [], .tuple [.str "pop"], .tuple [], .none), (.tuple [], .tuple [.str "push", .int (0)], .tuple [.int (0)], .bool true), (.tuple [], .tuple [.str "push", .int (1)], .tuple [.int (1)], .bool true), (.tuple [.int (0)], .tuple [.str "pop"], .tuple [], .int (0)), (.tuple [.int (0)], .tuple [.str "push", .int (0)], .tuple [.int (0), .int (0)], .bool true), (.tuple [.int (0)], .tuple [.str "push", .int (1)], .tuple [.int (0), .int (1)], .bool true), (.tuple [.int (1)], .tuple [.str "pop"], .tuple [], .int (1)), (.tuple [.int (1)], .tuple [.str "push", .int (0)], .tuple [.int (1), .int (0)], .bool true), (.tuple [.int (1)], .tuple [.str "push", .int (1)], .tuple [.int (1), .int (1)], .bool true), (.tuple [.int (0), .int (0)], .tuple [.str "pop"], .tuple [.int (0)], .int (0)), (.tuple [.int (0), .int (0)], .tuple [.str "push", .int (0)], .tuple [.int (0), .int (0)], .bool false), (.tuple [.int (0), .int (0)], .tuple [.str "push", .int (1)], .tuple [.int (0), .int (0)], .bool false), (.tuple [.int (0), .int (1)], .tuple [.str "pop"], .tuple [.int (0)], .int (1)), (.tuple [.int (0), .int (1)], .tuple [.str "push", .int (0)], .tuple [.int (0), .int (1)], .bool false), (.tuple [.int (0), .int (1)], .tuple [.str "push", .int (1)], .tuple [.int (0), .int (1)], .bool false), (.tuple [.int (1), .int (0)], .tuple [.str "pop"], .tuple [.int (1)], .int (0)), (.tuple [.int (1), .int (0)], .tuple [.str "push", .int (0)], .tuple [.int (1), .int (0)], .bool false), (.tuple [.int (1), .int (0)], .tuple [.str "push", .int (1)], .tuple [.int (1), .int (0)], .bool false), (.tuple [.int (1), .int (1)], .tuple [.str "pop"], .tuple [.int (1)], .int (1)), (.tuple [.int (1), .int (1)], .tuple [.str "push", .int (0)], .tuple [.int (1), .int (1)], .bool false), (.tuple [.int (1), .int (1)], .tuple [.str "push", .int (1)], .tuple [.int (1), .int (1)], .bool false)]⟩
def row13 : Row := ⟨.tuple [.str "queue", .int (2), .int (2)], [.tuple [.str "enter", .int (0)], .tuple [.str "enter", .int (1)], .tuple [.str "leave"]], [.tuple [], .tuple [.int (0)], .tuple [.int (1)], .tuple [.int (0), .int (0)], .tuple [.int (0), .int (1)], .tuple [.int (1), .int (0)], .tuple [.int (1), .int (1)]], [(.tuple [], .tuple [.str "enter", .int (0)], .tuple [.int (0)], .bool true), (.tuple [], .tuple [.str "enter", .int (1)], .tuple [.int (1)], .bool true), (.tuple [], .tuple [.str "leave"], .tuple [], .none), (.tuple [.int (0)], .tuple [.str "enter", .int (0)], .tuple [.int (0), .int (0)], .bool true), (.tuple [.int (0)], .tuple [.str "enter", .int (1)], .tuple [.int (0), .int (1)], .bool true), (.tuple [.int (0)], .tuple [.str "leave"], .tuple [], .int (0)), (.tuple [.int (1)], .tuple [.str "enter", .int (0)], .tuple [.int (1), .int (0)], .bool true), (.tuple [.int (1)], .tuple [.str "enter", .int (1)], .tuple [.int (1), .int (1)], .bool true), (.tuple [.int (1)], .tuple [.str "leave"], .tuple [], .int (1)), (.tuple [.int (0), .int (0)], .tuple [.str "enter", .int (0)], .tuple [.int (0), .int (0)], .bool false), (.tuple [.int (0), .int (0)], .tuple [.str "enter", .int (1)], .tuple [.int (0), .int (0)], .bool false), (.tuple [.int (0), .int (0)], .tuple [.str "leave"], .tuple [.int (0)], .int (0)), (.tuple [.int (0), .int (1)], .tuple [.str "enter", .int (0)], .tuple [.int (0), .int (1)], .bool false), (.tuple [.int (0), .int (1)], .tuple [.str "enter", .int (1)], .tuple [.int (0), .int (1)], .bool false), (.tuple [.int (0), .int (1)], .tuple [.str "leave"], .tuple [.int (1)], .int (0)), (.tuple [.int (1), .int (0)], .tuple [.str "enter", .int (0)], .tuple [.int (1), .int (0)], .bool false), (.tuple [.int (1), .int (0)], .tuple [.str "enter", .int (1)], .tuple [.int (1), .int (0)], .bool false), (.tuple [.int (1), .int (0)], .tuple [.str "leave"], .tuple [.int (0)], .int (1)), (.tuple [.int (1), .int (1)], .tuple [.str "enter", .int (0)], .tuple [.int (1), .int (1)], .bool false), (.tuple [.int (1), .int (1)], .tuple [.str "enter", .int (1)], .tuple [.int (1), .int (1)], .bool false), (.tuple [.int (1), .int (1)], .tuple [.str "leave"], .tuple [.int (1)], .int (1))]⟩
def row14 : Row := ⟨.tuple [.str "set", .int (2)], [.tuple [.str "add", .int (0)], .tuple [.str "add", .int (1)], .tuple [.str "drop", .int (0)], .tuple [.str "drop", .int (1)], .tuple [.str "has", .int (0)], .tuple [.str "has", .int (1)]], [.tuple [], .tuple [.int (0)], .tuple [.int (1)], .tuple [.int (0), .int (1)]], [(.tuple [], .tuple [.str "add", .int (0)], .tuple [.int (0)], .bool true), (.tuple [], .tuple [.str "add", .int (1)], .tuple [.int (1)], .bool true), (.tuple [], .tuple [.str "drop", .int (0)], .tuple [], .bool false), (.tuple [], .tuple [.str "drop", .int (1)], .tuple [], .bool false), (.tuple [], .tuple [.str "has", .int (0)], .tuple [], .bool false), (.tuple [], .tuple [.str "has", .int (1)], .tuple [], .bool false), (.tuple [.int (0)], .tuple [.str "add", .int (0)], .tuple [.int (0)], .bool false), (.tuple [.int (0)], .tuple [.str "add", .int (1)], .tuple [.int (0), .int (1)], .bool true), (.tuple [.int (0)], .tuple [.str "drop", .int (0)], .tuple [], .bool true), (.tuple [.int (0)], .tuple [.str "drop", .int (1)], .tuple [.int (0)], .bool false), (.tuple [.int (0)], .tuple [.str "has", .int (0)], .tuple [.int (0)], .bool true), (.tuple [.int (0)], .tuple [.str "has", .int (1)], .tuple [.int (0)], .bool false), (.tuple [.int (1)], .tuple [.str "add", .int (0)], .tuple [.int (0), .int (1)], .bool true), (.tuple [.int (1)], .tuple [.str "add", .int (1)], .tuple [.int (1)], .bool false), (.tuple [.int (1)], .tuple [.str "drop", .int (0)], .tuple [.int (1)], .bool false), (.tuple [.int (1)], .tuple [.str "drop", .int (1)], .tuple [], .bool true), (.tuple [.int (1)], .tuple [.str "has", .int (0)], .tuple [.int (1)], .bool false), (.tuple [.int (1)], .tuple [.str "has", .int (1)], .tuple [.int (1)], .bool true), (.tuple [.int (0), .int (1)], .tuple [.str "add", .int (0)], .tuple [.int (0), .int (1)], .bool false), (.tuple [.int (0), .int (1)], .tuple [.str "add", .int (1)], .tuple [.int (0), .int (1)], .bool false), (.tuple [.int (0), .int (1)], .tuple [.str "drop", .int (0)], .tuple [.int (1)], .bool true), (.tuple [.int (0), .int (1)], .tuple [.str "drop", .int (1)], .tuple [.int (0)], .bool true), (.tuple [.int (0), .int (1)], .tuple [.str "has", .int (0)], .tuple [.int (0), .int (1)], .bool true), (.tuple [.int (0), .int (1)], .tuple [.str "has", .int (1)], .tuple [.int (0), .int (1)], .bool true)]⟩
def row15 : Row := ⟨.tuple [.str "set", .int (3)], [.tuple [.str "add", .int (0)], .tuple [.str "add", .int (1)], .tuple [.str "add", .int (2)], .tuple [.str "drop", .int (0)], .tuple [.str "drop", .int (1)], .tuple [.str "drop", .int (2)], .tuple [.str "has", .int (0)], .tuple [.str "has", .int (1)], .tuple [.str "has", .int (2)]], [.tuple [], .tuple [.int (0)], .tuple [.int (1)], .tuple [.int (2)], .tuple [.int (0), .int (1)], .tuple [.int (0), .int (2)], .tuple [.int (1), .int (2)], .tuple [.int (0), .int (1), .int (2)]], [(.tuple [], .tuple [.str "add", .int (0)], .tuple [.int (0)], .bool true), (.tuple [], .tuple [.str "add", .int (1)], .tuple [.int (1)], .bool true), (.tuple [], .tuple [.str "add", .int (2)], .tuple [.int (2)], .bool true), (.tuple [], .tuple [.str "drop", .int (0)], .tuple [], .bool false), (.tuple [], .tuple [.str "drop", .int (1)], .tuple [], .bool false), (.tuple [], .tuple [.str "drop", .int (2)], .tuple [], .bool false), (.tuple [], .tuple [.str "has", .int (0)], .tuple [], .bool false), (.tuple [], .tuple [.str "has", .int (1)], .tuple [], .bool false), (.tuple [], .tuple [.str "has", .int (2)], .tuple [], .bool false), (.tuple [.int (0)], .tuple [.str "add", .int (0)], .tuple [.int (0)], .bool false), (.tuple [.int (0)], .tuple [.str "add", .int (1)], .tuple [.int (0), .int (1)], .bool true), (.tuple [.int (0)], .tuple [.str "add", .int (2)], .tuple [.int (0), .int (2)], .bool true), (.tuple [.int (0)], .tuple [.str "drop", .int (0)], .tuple [], .bool true), (.tuple [.int (0)], .tuple [.str "drop", .int (1)], .tuple [.int (0)], .bool false), (.tuple [.int (0)], .tuple [.str "drop", .int (2)], .tuple [.int (0)], .bool false), (.tuple [.int (0)], .tuple [.str "has", .int (0)], .tuple [.int (0)], .bool true), (.tuple [.int (0)], .tuple [.str "has", .int (1)], .tuple [.int (0)], .bool false), (.tuple [.int (0)], .tuple [.str "has", .int (2)], .tuple [.int (0)], .bool false), (.tuple [.int (1)], .tuple [.str "add", .int (0)], .tuple [.int (0), .int (1)], .bool true), (.tuple [.int (1)], .tuple [.str "add", .int (1)], .tuple [.int (1)], .bool false), (.tuple [.int (1)], .tuple [.str "add", .int (2)], .tuple [.int (1), .int (2)], .bool true), (.tuple [.int (1)], .tuple [.str "drop", .int (0)], .tuple [.int (1)], .bool false), (.tuple [.int (1)], .tuple [.str "drop", .int (1)], .tuple [], .bool true), (.tuple [.int (1)], .tuple [.str "drop", .int (2)], .tuple [.int (1)], .bool false), (.tuple [.int (1)], .tuple [.str "has", .int (0)], .tuple [.int (1)], .bool false), (.tuple [.int (1)], .tuple [.str "has", .int (1)], .tuple [.int (1)], .bool true), (.tuple [.int (1)], .tuple [.str "has", .int (2)], .tuple [.int (1)], .bool false), (.tuple [.int (2)], .tuple [.str "add", .int (0)], .tuple [.int (0), .int (2)], .bool true), (.tuple [.int (2)], .tuple [.str "add", .int (1)], .tuple [.int (1), .int (2)], .bool true), (.tuple [.int (2)], .tuple [.str "add", .int (2)], .tuple [.int (2)], .bool false), (.tuple [.int (2)], .tuple [.str "drop", .int (0)], .tuple [.int (2)], .bool false), (.tuple [.int (2)], .tuple [.str "drop", .int (1)], .tuple [.int (2)], .bool false), (.tuple [.int (2)], .tuple [.str "drop", .int (2)], .tuple [], .bool true), (.tuple [.int (2)], .tuple [.str "has", .int (0)], .tuple [.int (2)], .bool false), (.tuple [.int (2)], .tuple [.str "has", .int (1)], .tuple [.int (2)], .bool false), (.tuple [.int (2)], .tuple [.str "has", .int (2)], .tuple [.int (2)], .bool true), (.tuple [.int (0), .int (1)], .tuple [.str "add", .int (0)], .tuple [.int (0), .int (1)], .bool false), (.tuple [.int (0), .int (1)], .tuple [.str "add", .int (1)], .tuple [.int (0), .int (1)], .bool false), (.tuple [.int (0), .int (1)], .tuple [.str "add", .int (2)], .tuple [.int (0), .int (1), .int (2)], .bool true), (.tuple [.int (0), .int (1)], .tuple [.str "drop", .int (0)], .tuple [.int (1)], .bool true), (.tuple [.int (0), .int (1)], .tuple [.str "drop", .int (1)], .tuple [.int (0)], .bool true), (.tuple [.int (0), .int (1)], .tuple [.str "drop", .int (2)], .tuple [.int (0), .int (1)], .bool false), (.tuple [.int (0), .int (1)], .tuple [.str "has", .int (0)], .tuple [.int (0), .int (1)], .bool true), (.tuple [.int (0), .int (1)], .tuple [.str "has", .int (1)], .tuple [.int (0), .int (1)], .bool true), (.tuple [.int (0), .int (1)], .tuple [.str "has", .int (2)], .tuple [.int (0), .int (1)], .bool false), (.tuple [.int (0), .int (2)], .tuple [.str "add", .int (0)], .tuple [.int (0), .int (2)], .bool false), (.tuple [.int (0), .int (2)], .tuple [.str "add", .int (1)], .tuple [.int (0), .int (1), .int (2)], .bool true), (.tuple [.int (0), .int (2)], .tuple [.str "add", .int (2)], .tuple [.int (0), .int (2)], .bool false), (.tuple [.int (0), .int (2)], .tuple [.str "drop", .int (0)], .tuple [.int (2)], .bool true), (.tuple [.int (0), .int (2)], .tuple [.str "drop", .int (1)], .tuple [.int (0), .int (2)], .bool false), (.tuple [.int (0), .int (2)], .tuple [.str "drop", .int (2)], .tuple [.int (0)], .bool true), (.tuple [.int (0), .int (2)], .tuple [.str "has", .int (0)], .tuple [.int (0), .int (2)], .bool true), (.tuple [.int (0), .int (2)], .tuple [.str "has", .int (1)], .tuple [.int (0), .int (2)], .bool false), (.tuple [.int (0), .int (2)], .tuple [.str "has", .int (2)], .tuple [.int (0), .int (2)], .bool true), (.tuple [.int (1), .int (2)], .tuple [.str "add", .int (0)], .tuple [.int (0), .int (1), .int (2)], .bool true), (.tuple [.int (1), .int (2)], .tuple [.str "add", .int (1)], .tuple [.int (1), .int (2)], .bool false), (.tuple [.int (1), .int (2)], .tuple [.str "add", .int (2)], .tuple [.int (1), .int (2)], .bool false), (.tuple [.int (1), .int (2)], .tuple [.str "drop", .int (0)], .tuple [.int (1), .int (2)], .bool false), (.tuple [.int (1), .int (2)], .tuple [.str "drop", .int (1)], .tuple [.int (2)], .bool true), (.tuple [.int (1), .int (2)], .tuple [.str "drop", .int (2)], .tuple [.int (1)], .bool true), (.tuple [.int (1), .int (2)], .tuple [.str "has", .int (0)], .tuple [.int (1), .int (2)], .bool false), (.tuple [.int (1), .int (2)], .tuple [.str "has", .int (1)], .tuple [.int (1), .int (2)], .bool true), (.tuple [.int (1), .int (2)], .tuple [.str "has", .int (2)], .tuple [.int (1), .int (2)], .bool true), (.tuple [.int (0), .int (1), .int (2)], .tuple [.str "add", .int (0)], .tuple [.int (0), .int (1), .int (2)], .bool false), (.tuple [.int (0), .int (1), .int (2)], .tuple [.str "add", .int (1)], .tuple [.int (0), .int (1), .int (2)], .bool false), (.tuple [.int (0), .int (1), .int (2)], .tuple [.str "add", .int (2)], .tuple [.int (0), .int (1), .int (2)], .bool false), (.tuple [.int (0), .int (1), .int (2)], .tuple [.str "drop", .int (0)], .tuple [.int (1), .int (2)], .bool true), (.tuple [.int (0), .int (1), .int (2)], .tuple [.str "drop", .int (1)], .tuple [.int (0), .int (2)], .bool true), (.tuple [.int (0), .int (1), .int (2)], .tuple [.str "drop", .int (2)], .tuple [.int (0), .int (1)], .bool true), (.tuple [.int (0), .int (1), .int (2)], .tuple [.str "has", .int (0)], .tuple [.int (0), .int (1), .int (2)], .bool true), (.tuple [.int (0), .int (1), .int (2)], .tuple [.str "has", .int (1)], .tuple [.int (0), .int (1), .int (2)], .bool true), (.tuple [.int (0), .int (1), .int (2)], .tuple [.str "has", .int (2)], .tuple [.int (0), .int (1), .int (2)], .bool true)]⟩
def row16 : Row := ⟨.tuple [.str "agree", .int (2)], [.tuple [.str "decide", .int (0)], .tuple [.str "decide", .int (1)]], [.none, .int (0), .int (1)], [(.none, .tuple [.str "decide", .int (0)], .int (0), .int (0)), (.none, .tuple [.str "decide", .int (1)], .int (1), .int (1)), (.int (0), .tuple [.str "decide", .int (0)], .int (0), .int (0)), (.int (0), .tuple [.str "decide", .int (1)], .int (0), .int (0)), (.int (1), .tuple [.str "decide", .int (0)], .int (1), .int (1)), (.int (1), .tuple [.str "decide", .int (1)], .int (1), .int (1))]⟩
def row17 : Row := ⟨.tuple [.str "agree", .int (3)], [.tuple [.str "decide", .int (0)], .tuple [.str "decide", .int (1)], .tuple [.str "decide", .int (2)]], [.none, .int (0), .int (1), .int (2)], [(.none, .tuple [.str "decide", .int (0)], .int (0), .int (0)), (.none, .tuple [.str "decide", .int (1)], .int (1), .int (1)), (.none, .tuple [.str "decide", .int (2)], .int (2), .int (2)), (.int (0), .tuple [.str "decide", .int (0)], .int (0), .int (0)), (.int (0), .tuple [.str "decide", .int (1)], .int (0), .int (0)), (.int (0), .tuple [.str "decide", .int (2)], .int (0), .int (0)), (.int (1), .tuple [.str "decide", .int (0)], .int (1), .int (1)), (.int (1), .tuple [.str "decide", .int (1)], .int (1), .int (1)), (.int (1), .tuple [.str "decide", .int (2)], .int (1), .int (1)), (.int (2), .tuple [.str "decide", .int (0)], .int (2), .int (2)), (.int (2), .tuple [.str "decide", .int (1)], .int (2), .int (2)), (.int (2), .tuple [.str "decide", .int (2)], .int (2), .int (2))]⟩
def rows : List Row := [row0, row1, row2, row3, row4, row5, row6, row7, row8, row9, row10, row11, row12, row13, row14, row15, row16, row17]
theorem r_small : small = rows.map (·.t) := by kernel_rfl
theorem r_calls (x : MO) : rows.map (fun r => m_Lcalls [.d r.t] [x]) = rows.map fun r => okD x (.list r.C) := by kernel_rfl
theorem r_states (x : MO) : rows.map (fun r => m_Lstates [.d r.t] [x]) = rows.map fun r => okD x (.list r.L) := by kernel_rfl
theorem r_isobj (x : MO) : rows.map (fun r => m_is_object [.d r.t] [x]) = rows.map fun r => okD x (.bool true) := by kernel_rfl
theorem r_scalls (x : MO) : rows.map (fun r => m_calls [.d r.t] [x]) = rows.map fun r => okD x (.tuple r.C) := by kernel_rfl
theorem r_sstates (x : MO) : rows.map (fun r => m_states [.d r.t] [x]) = rows.map fun r => okD x (.tuple r.L) := by kernel_rfl
theorem r_first (x : MO) : rows.map (fun r => m_first_state [.d r.t] [x]) = rows.map fun r => okD x (r.L.headD .none) := by kernel_rfl
theorem r_lfirst (x : MO) : rows.map (fun r => m_Lfirst [.d r.t] [x]) = rows.map fun r => okD x (r.L.headD .none) := by kernel_rfl
end K00
/-! part K2 -/
set_option linter.all false
set_option maxRecDepth 100000
set_option maxHeartbeats 4000000
namespace K00
open DD PySem PySem.W
/-- the steps of every small thing: the thing, state, call, state behind, answer -/
def steps : List (PyData × PyData × PyData × PyData × PyData) := rows.flatMap fun r => r.st.map fun q => (r.t, q)
def pairs : List (PyData × PyData) := rows.flatMap fun r => r.C.map fun c => (r.t, c)
theorem k_do (x : MO) : steps.map (fun q => m_Ldo [.d q.1, .d q.2.1, .d q.2.2.1] [x]) = steps.map fun q => okD x (.tuple [q.2.2.2.1, q.2.2.2.2]) := by kernel_rfl
theorem k_step (x : MO) : steps.map (fun q => m_step [.d q.1, .d q.2.1, .d q.2.2.1] [x]) = steps.map fun q => okD x (.tuple [q.2.2.2.1, q.2.2.2.2]) := by kernel_rfl
theorem k_iscall (x : MO) : pairs.map (fun q => m_is_call [.d q.1, .d q.2] [x]) = pairs.map fun q => okD x (.bool true) := by kernel_rfl
theorem k_chkcall (x : MO) : pairs.map (fun q => m_check_call [.d q.1, .d q.2] [x]) = pairs.map fun q => okD x .none := by kernel_rfl
/-- every state with every call has its step; a step leads to a state; all is plain; the one call equal to a call is itself -/
def fine (r : Row) : Bool :=
  (r.L.all fun s => r.C.all fun c => r.st.any fun q => sm q.1 s && sm q.2.1 c) &&
  (r.st.all fun q => r.L.any (fun s => sm s q.2.2.1) && plainN 3 q.2.2.2) &&
  r.C.all (plainN 3) && r.L.all (plainN 3) && !r.C.isEmpty && !r.L.isEmpty && decide (r.C.length ≤ 1000) && decide (r.L.length ≤ 1000) &&
  r.C.all (fun c => match r.C.filter fun z => PyData.eqv z c with | z :: _ => sm z c | [] => false)
theorem k_fine : rows.all fine = true := by kernel_rfl
end K00
/-! part K3 -/
set_option linter.all false
set_option maxRecDepth 100000
set_option maxHeartbeats 4000000
namespace K00
open DD PySem PySem.W
theorem k_applied (x : MO) : steps.map (fun q => m_applied [.d q.1, .d q.2.1, .d q.2.2.1] [x]) = steps.map fun q => okD x (.tuple [q.2.2.2.1, q.2.2.2.2]) := by kernel_rfl
def wrongS : List PyData := [.tuple [.int 9, .int 9], .str "x", .list [.int 0], .int (-1), .int 77, .tuple [.tuple []]]
def wrongs : List (PyData × PyData × PyData) := rows.flatMap fun r => wrongS.map fun v => (r.t, v, r.C.headD .none)
theorem k_wrong (x : MO) : wrongs.map (fun q => m_applied [.d q.1, .d q.2.1, .d q.2.2] [x]) = wrongs.map fun q => erD x "BadState" := by kernel_rfl
end K00
/-! part K4 -/
set_option linter.all false
set_option maxRecDepth 100000
set_option maxHeartbeats 4000000
namespace K00
open DD PySem PySem.W
/-- what is asked of is_call beside the calls; h :: cs the first call -/
def oddC (h : PyData) (cs : List PyData) : List PyData := [.tuple [], .tuple [.str "add"], .tuple [.str "look", .int 1, .int 2], .tuple (h :: cs ++ [.int 1]), .list (h :: cs), .tuple ((h :: cs).take 1), .tuple [h, .bool true], .none, .str "look", .tuple [.str "do", .int 9], .tuple [.str "move", .int 0, .int 0, .int 1]]
def oddOf (C : List PyData) : List PyData := match C with
  | .tuple (h :: cs) :: _ => oddC h cs
  | _ => []
def firstEq (C : List PyData) (v : PyData) : Option PyData := (C.filter fun z => PyData.eqv z v).head?
/-- the law's own word on a value: is it a call -/
def goodC (C : List PyData) (v : PyData) : Bool := match firstEq C v with
  | some z => sm v z
  | none => false
structure Ask where
  t : PyData
  s : PyData
  v : PyData
  g : Bool
def asks : List Ask := rows.flatMap fun r => (oddOf r.C).map fun v => ⟨r.t, r.L.headD .none, v, goodC r.C v⟩
theorem k_ask (x : MO) : asks.map (fun q => m_is_call [.d q.t, .d q.v] [x]) = asks.map fun q => okD x (.bool q.g) := by kernel_rfl
theorem k_askbad (x : MO) : (asks.filter fun q => !q.g).map (fun q => m_applied [.d q.t, .d q.s, .d q.v] [x]) = (asks.filter fun q => !q.g).map fun q => erD x "BadCall" := by kernel_rfl
/-- likeness to the first equal call -/
def likes : List (PyData × PyData) := rows.flatMap fun r => (oddOf r.C).flatMap fun v => match firstEq r.C v with
  | some z => [(v, z)]
  | none => []
theorem k_like (x : MO) : likes.map (fun q => m_Lalike 12 [.d q.1, .d q.2] [x]) = likes.map fun q => okD x (.bool (sm q.1 q.2)) := by kernel_rfl
/-- membership as the law's `in` reads it -/
theorem k_in (x : MO) : (rows.flatMap fun r => (oddOf r.C).map fun v => inP false v (.list r.C)) = rows.flatMap fun r => (oddOf r.C).map fun v => some (.bool (firstEq r.C v).isSome) := by kernel_rfl
end K00
/-! part K5 -/
set_option linter.all false
set_option maxRecDepth 100000
set_option maxHeartbeats 4000000
namespace K00
open DD PySem PySem.W
/-- the bent things -/
def bentC (k : PyData) (ks : List PyData) : List PyData :=
  [.tuple (k :: ks), .list (k :: ks), .tuple (k :: ks ++ [.int 1]), .tuple ((k :: ks).take 1), .tuple [k, .bool true], .tuple [k, .int 6], .tuple [k, .int 1], .tuple [k, .int 2], .tuple [k, .int 3, .int 3], .tuple [k, .int 2, .int 4]] ++
  [.tuple [k, .tuple [.int 1, .int 2]], .tuple [k, .tuple [.int 1]], .tuple [k, .tuple [.int 6, .int 1]], .tuple [k, .tuple [.tuple [.int 0, .int 1]]], .tuple [k, .tuple [.tuple [.tuple [.int 0, .int 1]]]], .tuple [k, .tuple [.tuple [.tuple [.int 1, .int 1]]]], .tuple [k, .tuple [.tuple [.tuple [.int 0, .int 10]]]]] ++
  [.tuple [k, .tuple [.tuple [.tuple [.int 0, .int 1]], .tuple [.tuple [.int 1, .int 0], .tuple [.int 0, .int 0]]]], .tuple [.str "heap", .int 2], .none, .int 3, .tuple [], .str "counter", .tuple [.int 1, .int 2], .tuple [k, .tuple [.tuple [.tuple [.int 0, .bool true]]]], .tuple [k, .tuple []], .tuple [k, .tuple [.tuple []]]]
/-- those that do not tell the thing but by its kind -/
def bentK (k : PyData) : List PyData := ((bentC k []).drop 4)
def kinds : List PyData := [.str "counter", .str "register", .str "stack", .str "queue", .str "set", .str "agree", .str "bank", .str "table"]
def bentT (t : PyData) : List PyData := match t with
  | .tuple (k :: ks) => (bentC k ks).take 4
  | _ => []
def bents : List PyData := kinds.flatMap bentK ++ rows.flatMap fun r => bentT r.t
def yes : R Vl → Bool
  | some (.ok (.d (.bool true)), _) => true
  | _ => false
def isOb (v : PyData) : Bool := yes (m_Lis_object [.d v] [x0])
theorem k_lis (x : MO) : bents.map (fun v => m_Lis_object [.d v] [x]) = bents.map fun v => okD x (.bool (isOb v)) := by kernel_rfl
theorem k_iso (x : MO) : bents.map (fun v => m_is_object [.d v] [x]) = bents.map fun v => okD x (.bool (isOb v)) := by kernel_rfl
def wrongO : List PyData := bents.filter fun v => !isOb v
theorem k_o1 (x : MO) : wrongO.map (fun v => m_calls [.d v] [x]) = wrongO.map fun v => erD x "BadObject" := by kernel_rfl
theorem k_o2 (x : MO) : wrongO.map (fun v => m_first_state [.d v] [x]) = wrongO.map fun v => erD x "BadObject" := by kernel_rfl
theorem k_o3 (x : MO) : wrongO.map (fun v => m_states [.d v] [x]) = wrongO.map fun v => erD x "BadObject" := by kernel_rfl
theorem k_o4 (x : MO) : wrongO.map (fun v => m_is_call [.d v, .d (.int 1)] [x]) = wrongO.map fun v => erD x "BadObject" := by kernel_rfl
end K00
/-! part M2 -/
set_option linter.all false
set_option maxRecDepth 100000
set_option maxHeartbeats 1000000
namespace K00
open DD PySem
theorem atI_int {α : Type} (xs : List α) (v : Int) (h0 : 0 ≤ v) (h : v < xs.length) : ∃ z, z ∈ xs ∧ L2.atI xs v = some z := by
  have hl : v.toNat < xs.length := by omega
  refine ⟨xs[v.toNat], List.getElem_mem hl, ?_⟩
  unfold L2.atI L2.ixN
  rw [if_pos h0, if_pos h]
  simp [List.getElem?_eq_getElem hl]
/-- _law_pick chooses one of the list -/
theorem pick (T : Sto) (ns : List Int) (p s q : Int) (xs : List PyData) (hp : 0 ≤ p) (hx : xs ≠ []) (hl : xs.length < 2 ^ 60) : ∃ z p' s' q', m_Lpick [.m 0, .d (.list xs)] (rowL ns p s q :: T) = some (.ok (.d z), rowL ns p' s' q' :: T) ∧ z ∈ xs ∧ 0 ≤ p' := by
  have hpos : 0 < xs.length := List.length_pos_iff.mpr hx
  obtain ⟨v, p', s', q', h, h0, h1, h2⟩ := taken T ns p s q xs.length hp (by omega) (by omega)
  obtain ⟨z, hz, ha⟩ := atI_int xs v h0 h1
  refine ⟨z, p', s', q', ?_, hz, h2⟩
  unfold m_Lpick mDef b_Lpick
  simp only [s_ret, r_op, r_var, r_def, r_call, r_cons, r_nil, rdAll_cons, rdAll_nil, startE, rb_ok, rl_some, ro_ok, List.map, List.replicate, List.getElem?_cons_zero, List.getElem?_cons_succ, List.cons_append, List.nil_append, rd_d, p_lenl, p_ixl, List.length_cons, List.length_nil, Nat.zero_add, Nat.reduceAdd, Nat.reduceSub, if_true, h, ha, fin_d, List.take_succ_cons, List.take_length]
end K00
/-! part M3 -/
set_option linter.all false
set_option maxRecDepth 100000
set_option maxHeartbeats 2000000
namespace K00
open DD PySem
/-- a comprehension whose items draw -/
theorem comp_draw {P : PyData → Prop} {i : Nat} {el : Ev → M Vl} {ev : Ev} {T : Sto} {ns : List Int} : ∀ {ds : List PyData}, (∀ d ∈ ds, ∀ p s q, 0 ≤ p → ∃ z p' s' q', el (ev.set i (some (.d d))) (rowL ns p s q :: T) = some (.ok (.d z), rowL ns p' s' q' :: T) ∧ P z ∧ 0 ≤ p') →
    ∀ p s q, 0 ≤ p → ∃ zs p' s' q', compL (gN i) fYes el ev ds (rowL ns p s q :: T) = some (zs, rowL ns p' s' q' :: T) ∧ zs.length = ds.length ∧ (∀ z ∈ zs, P z) ∧ 0 ≤ p'
  | [], _, p, s, q, hp => ⟨[], p, s, q, rfl, rfl, fun z hz => (by cases hz), hp⟩
  | d :: ds, h, p, s, q, hp => by
    obtain ⟨z, p1, s1, q1, e1, hz, hp1⟩ := h d (List.mem_cons_self ..) p s q hp
    obtain ⟨zs, p2, s2, q2, e2, hl, hzs, hp2⟩ := comp_draw (fun d hd => h d (List.mem_cons_of_mem _ hd)) p1 s1 q1 hp1
    refine ⟨z :: zs, p2, s2, q2, ?_, by rw [List.length_cons, List.length_cons, hl], ?_, hp2⟩
    · show (match el (ev.set i (some (.d d))) (rowL ns p s q :: T) with | some (.ok (.d z), S2) => (match compL (gN i) fYes el ev ds S2 with | some (zs, S3) => some (z :: zs, S3) | none => none) | _ => none) = _
      rw [e1]
      show (match compL (gN i) fYes el ev ds (rowL ns p1 s1 q1 :: T) with | some (zs, S3) => some (z :: zs, S3) | none => none) = _
      rw [e2]
    · intro y hy
      cases hy with
      | head => exact hz
      | tail _ hy => exact hzs y hy
def bankT (as : List PyData) : PyData := .tuple [.str "bank", .tuple as]
def isBank (t : PyData) : Prop := ∃ as, t = bankT as ∧ (as.length = 2 ∨ as.length = 3) ∧ ∀ a ∈ as, ∃ i : Int, a = .int i ∧ 0 ≤ i ∧ i < 6
theorem atS_0 {a b : PyData} : L2.atI [a, b] 0 = some a := rfl
theorem atS_1 {a b : PyData} : L2.atI [a, b] 1 = some b := rfl
theorem dats_2 (a b : PyData) : dats [.d a, .d b] = some [a, b] := rfl
theorem dats_3 (a b c : PyData) : dats [.d a, .d b, .d c] = some [a, b, c] := rfl
end K00
/-! part M4 -/
set_option linter.all false
set_option maxRecDepth 100000
set_option maxHeartbeats 2000000
namespace K00
open DD PySem
theorem mem_small {t : PyData} (h : small.any (fun z => sm z t) = true) : t ∈ small := by
  obtain ⟨z, hz, e⟩ := List.any_eq_true.mp h
  exact sm_eq _ _ e ▸ hz
theorem object_low (ns : List Int) (p s q : Int) (hp : 0 ≤ p) (v p1 s1 q1 : Int) (h1 : m_Ltaken [.m 0, .d (.int 9)] [rowL ns p s q] = some (.ok (.d (.int v)), [rowL ns p1 s1 q1])) (hp1 : 0 ≤ p1) (hv0 : 0 ≤ v) (hv : v < 6) :
    ∃ t p' s' q', m_Lobject [.m 0] [rowL ns p s q] = some (.ok (.d t), [rowL ns p' s' q']) ∧ t ∈ small ∧ 0 ≤ p' := by
  by_cases c1 : v < 2
  · obtain ⟨u, p2, s2, q2, h2, hu0, hu, hp2⟩ := taken [] ns p1 s1 q1 3 hp1 (by decide) (by decide)
    refine ⟨.tuple [if v = 0 then .str "counter" else .str "register", .int (2 + u)], p2, s2, q2, ?_, ?_, hp2⟩
    · unfold m_Lobject mDef b_Lobject
      rcases (show v = 0 ∨ v = 1 by omega) with rfl | rfl <;>
      simp only [s_seq, s_if, s_set, s_expr, s_ret, s_pass, r_fB, r_op, r_var, r_c, r_call, r_def, r_cons, r_nil, r_tup, r_lst, rdAll_cons, rdAll_nil, startE, rb_ok, rl_some, ro_ok, rs_nx, rs_rt, List.map, List.replicate, List.getElem?_cons_zero, List.getElem?_cons_succ, List.cons_append, List.nil_append, List.set_cons_zero, List.set_cons_succ, rd_d, p_ixl, p_lt, p_add, p_sub, bool_of, cond_true, cond_false, List.length_cons, List.length_nil, Nat.zero_add, Nat.reduceAdd, Nat.reduceSub, Nat.reduceLeDiff, Int.reduceLT, decide_true, decide_false, if_true, if_false, ↓reduceIte, Int.reduceEq, h1, h2, dats_2, dats_3, atS_0, atS_1, fin_d, List.take_succ_cons, List.take_zero, List.take_nil]
    · apply mem_small
      rcases (show v = 0 ∨ v = 1 by omega) with rfl | rfl <;> rcases (show u = 0 ∨ u = 1 ∨ u = 2 by omega) with rfl | rfl | rfl <;> kernel_rfl
  · by_cases c2 : v < 4
    · obtain ⟨u, p2, s2, q2, h2, hu0, hu, hp2⟩ := taken [] ns p1 s1 q1 2 hp1 (by decide) (by decide)
      obtain ⟨w, p3, s3, q3, h3, hw0, hw, hp3⟩ := taken [] ns p2 s2 q2 2 hp2 (by decide) (by decide)
      refine ⟨.tuple [if v = 2 then .str "stack" else .str "queue", .int (1 + u), .int (1 + w)], p3, s3, q3, ?_, ?_, hp3⟩
      · unfold m_Lobject mDef b_Lobject
        rcases (show v = 2 ∨ v = 3 by omega) with rfl | rfl <;>
        simp only [s_seq, s_if, s_set, s_expr, s_ret, s_pass, r_fB, r_op, r_var, r_c, r_call, r_def, r_cons, r_nil, r_tup, r_lst, rdAll_cons, rdAll_nil, startE, rb_ok, rl_some, ro_ok, rs_nx, rs_rt, List.map, List.replicate, List.getElem?_cons_zero, List.getElem?_cons_succ, List.cons_append, List.nil_append, List.set_cons_zero, List.set_cons_succ, rd_d, p_ixl, p_lt, p_add, p_sub, bool_of, cond_true, cond_false, List.length_cons, List.length_nil, Nat.zero_add, Nat.reduceAdd, Nat.reduceSub, Nat.reduceLeDiff, Int.reduceLT, Int.reduceSub, decide_true, decide_false, if_true, if_false, ↓reduceIte, Int.reduceEq, h1, h2, h3, dats_2, dats_3, atS_0, atS_1, fin_d, List.take_succ_cons, List.take_zero, List.take_nil]
      · apply mem_small
        rcases (show v = 2 ∨ v = 3 by omega) with rfl | rfl <;> rcases (show u = 0 ∨ u = 1 by omega) with rfl | rfl <;> rcases (show w = 0 ∨ w = 1 by omega) with rfl | rfl <;> kernel_rfl
    · obtain ⟨u, p2, s2, q2, h2, hu0, hu, hp2⟩ := taken [] ns p1 s1 q1 2 hp1 (by decide) (by decide)
      refine ⟨.tuple [if v = 4 then .str "set" else .str "agree", .int (2 + u)], p2, s2, q2, ?_, ?_, hp2⟩
      · unfold m_Lobject mDef b_Lobject
        rcases (show v = 4 ∨ v = 5 by omega) with rfl | rfl <;>
        simp only [s_seq, s_if, s_set, s_expr, s_ret, s_pass, r_fB, r_op, r_var, r_c, r_call, r_def, r_cons, r_nil, r_tup, r_lst, rdAll_cons, rdAll_nil, startE, rb_ok, rl_some, ro_ok, rs_nx, rs_rt, List.map, List.replicate, List.getElem?_cons_zero, List.getElem?_cons_succ, List.cons_append, List.nil_append, List.set_cons_zero, List.set_cons_succ, rd_d, p_ixl, p_lt, p_add, p_sub, bool_of, cond_true, cond_false, List.length_cons, List.length_nil, Nat.zero_add, Nat.reduceAdd, Nat.reduceSub, Nat.reduceLeDiff, Int.reduceLT, Int.reduceSub, decide_true, decide_false, if_true, if_false, ↓reduceIte, Int.reduceEq, h1, h2, dats_2, dats_3, atS_0, atS_1, fin_d, List.take_succ_cons, List.take_zero, List.take_nil]
      · apply mem_small
        rcases (show v = 4 ∨ v = 5 by omega) with rfl | rfl <;> rcases (show u = 0 ∨ u = 1 by omega) with rfl | rfl <;> kernel_rfl
end K00
/-! part M5 -/
set_option linter.all false
set_option maxRecDepth 100000
set_option maxHeartbeats 2000000
namespace K00
open DD PySem
theorem len_ints (n : Nat) : (intsL 0 n).length = n := by unfold intsL; rw [List.length_map, List.length_range]
theorem object_bank (ns : List Int) (p s q : Int) (hp : 0 ≤ p) (p1 s1 q1 : Int) (h1 : m_Ltaken [.m 0, .d (.int 9)] [rowL ns p s q] = some (.ok (.d (.int 6)), [rowL ns p1 s1 q1])) (hp1 : 0 ≤ p1) :
    ∃ t p' s' q', m_Lobject [.m 0] [rowL ns p s q] = some (.ok (.d t), [rowL ns p' s' q']) ∧ isBank t ∧ 0 ≤ p' := by
  obtain ⟨u, p2, s2, q2, h2, hu0, hu, hp2⟩ := taken [] ns p1 s1 q1 2 hp1 (by decide) (by decide)
  have hn : ∃ n : Nat, (2 + u = (n : Int)) ∧ (n = 2 ∨ n = 3) := ⟨(2 + u).toNat, by omega, by omega⟩
  obtain ⟨n, hn, hn2⟩ := hn
  obtain ⟨zs, p3, s3, q3, h3, hl, hz, hp3⟩ := comp_draw (P := fun z => ∃ i : Int, z = .int i ∧ 0 ≤ i ∧ i < 6) (i := 2) (el := fDef 2 m_Ltaken (fCons (fVar 0) (fCons (fC (.int 6)) fNil))) (ev := [some (.m 0), some (.d (.int 6)), none, none, none, none, none]) (T := []) (ns := ns) (ds := intsL 0 n) (fun d hd p s q hp => by
    obtain ⟨w, p', s', q', h, h0, hw, hp'⟩ := taken [] ns p s q 6 hp (by decide) (by decide)
    refine ⟨.int w, p', s', q', ?_, ⟨w, rfl, h0, hw⟩, hp'⟩
    simp only [r_def, r_cons, r_nil, r_var, r_c, rb_ok, rl_some, List.set_cons_zero, List.set_cons_succ, List.getElem?_cons_zero, List.length_cons, List.length_nil, if_true, h]) p2 s2 q2 hp2
  have hl' : zs.length = n := by rw [hl, len_ints]
  refine ⟨bankT zs, p3, s3, q3, ?_, ⟨zs, rfl, by omega, hz⟩, hp3⟩
  unfold m_Lobject mDef b_Lobject
  have hw : wipeE [some (.m 0), some (.d (.int 6)), none, none, none, none, none] [2] = [some (.m 0), some (.d (.int 6)), none, none, none, none, none] := rfl
  simp only [s_seq, s_if, s_set, s_expr, s_ret, s_pass, r_fB, r_op, r_var, r_c, r_call, r_def, r_cons, r_nil, r_tup, r_lst, r_comp, r_range, rdAll_cons, rdAll_nil, startE, rb_ok, rl_some, ro_ok, rs_nx, rs_rt, List.map, List.replicate, List.getElem?_cons_zero, List.getElem?_cons_succ, List.cons_append, List.nil_append, List.set_cons_zero, List.set_cons_succ, rd_d, p_ixl, p_lt, p_add, p_sub, bool_of, cond_true, cond_false, List.length_cons, List.length_nil, Nat.zero_add, Nat.reduceAdd, Nat.reduceSub, Nat.reduceLeDiff, Int.reduceLT, Int.reduceSub, decide_true, decide_false, if_true, if_false, ↓reduceIte, Int.reduceEq, h1, h2, hn, eq_ii, BEq.rfl, rng1 n (by omega), hw, h3, compR_some zs _ (by omega), dats_2, dats_3, atS_0, atS_1, fin_d, List.take_succ_cons, List.take_zero, List.take_nil, tupleP, bankT]
end K00
/-! part M6 -/
set_option linter.all false
set_option maxRecDepth 100000
set_option maxHeartbeats 2000000
namespace DD
open PySem
section
variable {fs : Ev → M (List Vl)} {ev : Ev} {S : Sto}
theorem r_mut0 : fMut fNil ev S = some (.ok (.m S.length), S ++ [.l []]) := rfl
theorem s_parN (is : List Nat) : sParN is fs ev S = ro (fs ev S) ev fun ws S => if ws.length ≤ 1000 then (match setAll is ws ev with
  | some ev' => some (.nx, ev', S)
  | none => none) else none := rfl
end
end DD
namespace K00
open DD PySem
def isCell (n : Nat) (c : PyData) : Prop := ∃ a b : Int, c = .tuple [.int a, .int b] ∧ 0 ≤ a ∧ a < n ∧ 0 ≤ b ∧ b < 4
def isLine (n m : Nat) (r : PyData) : Prop := ∃ cs, r = .tuple cs ∧ cs.length = m ∧ ∀ c ∈ cs, isCell n c
def tableT (rs : List PyData) : PyData := .tuple [.str "table", .tuple rs]
def isTable (t : PyData) : Prop := ∃ rs n m, t = tableT rs ∧ rs.length = n ∧ 1 ≤ n ∧ n ≤ 4 ∧ 1 ≤ m ∧ m ≤ 3 ∧ ∀ r ∈ rs, isLine n m r
def evT (v : Int) (o : Option Vl) (n m : Nat) : Ev := [some (.m 0), some (.d (.int v)), o, some (.d (.int n)), some (.d (.int m)), some (.m 1), none]
variable {v : Int}
theorem cell_draw (ns : List Int) (T : Sto) (o : Option Vl) (n m : Nat) (hn : 1 ≤ n) (hn4 : n ≤ 4) (d : PyData) (p s q : Int) (hp : 0 ≤ p) : ∃ z p' s' q', (fTup (fCons (fDef 2 m_Ltaken (fCons (fVar 0) (fCons (fVar 3) fNil))) (fCons (fDef 2 m_Ltaken (fCons (fVar 0) (fCons (fC (.int 4)) fNil))) fNil))) ((evT v o n m).set 6 (some (.d d))) (rowL ns p s q :: T) = some (.ok (.d z), rowL ns p' s' q' :: T) ∧ isCell n z ∧ 0 ≤ p' := by
  obtain ⟨a, p1, s1, q1, h1, ha0, ha, hp1⟩ := taken T ns p s q n hp (by omega) (by omega)
  obtain ⟨b, p2, s2, q2, h2, hb0, hb, hp2⟩ := taken T ns p1 s1 q1 4 hp1 (by decide) (by decide)
  refine ⟨_, p2, s2, q2, ?_, ⟨a, b, rfl, ha0, ha, hb0, hb⟩, hp2⟩
  simp only [evT, r_tup, r_def, r_cons, r_nil, r_var, r_c, rb_ok, rl_some, List.set_cons_zero, List.set_cons_succ, List.getElem?_cons_zero, List.getElem?_cons_succ, List.length_cons, List.length_nil, if_true, h1, h2, dats_2, Nat.zero_add, Nat.reduceAdd, Nat.reduceLeDiff]
def tabBody : SM := sExpr (fAppend (fVar 5) (fCall tupleP (fCons (fComp (fRange rng1P (fCons (fVar 4) fNil)) (gN 6) fYes (fTup (fCons (fDef 2 m_Ltaken (fCons (fVar 0) (fCons (fVar 3) fNil))) (fCons (fDef 2 m_Ltaken (fCons (fVar 0) (fCons (fC (.int 4)) fNil))) fNil))) [6]) fNil)))
theorem row_draw (ns : List Int) (o : Option Vl) (n m : Nat) (hn : 1 ≤ n) (hn4 : n ≤ 4) (hm : m ≤ 3) (acc : List PyData) (hacc : acc.length < 1000) (p s q : Int) (hp : 0 ≤ p) : ∃ z p' s' q', tabBody (evT v o n m) [rowL ns p s q, .l acc] = some (.nx, evT v o n m, [rowL ns p' s' q', .l (acc ++ [z])]) ∧ isLine n m z ∧ 0 ≤ p' := by
  obtain ⟨zs, p1, s1, q1, h1, hl, hz, hp1⟩ := comp_draw (P := isCell n) (i := 6) (ev := evT v o n m) (T := [.l acc]) (ns := ns) (ds := intsL 0 m) (fun d hd p s q hp => cell_draw ns [.l acc] o n m hn hn4 d p s q hp) p s q hp
  have hl' : zs.length = m := by rw [hl, len_ints]
  refine ⟨.tuple zs, p1, s1, q1, ?_, ⟨zs, rfl, hl', hz⟩, hp1⟩
  have hw : wipeE (evT v o n m) [6] = evT v o n m := rfl
  have e5 : (evT v o n m)[5]? = some (some (.m 1)) := rfl
  have e4 : (evT v o n m)[4]? = some (some (.d (.int m))) := rfl
  unfold tabBody
  simp only [s_expr, r_append, r_var, r_call, r_comp, r_range, r_cons, r_nil, rdAll_cons, rdAll_nil, rb_ok, rl_some, ro_ok, e5, e4, rd_d, rng1 m (by omega), hw, h1, compR_some zs _ (by omega), mut_m, list_of, List.getElem?_cons_zero, List.getElem?_cons_succ, tupleP, dat_of, show acc.length < 1000000 by omega, if_true, List.set_cons_zero, List.set_cons_succ]
theorem tab_loop (ns : List Int) (n m : Nat) (hn : 1 ≤ n) (hn4 : n ≤ 4) (hm : m ≤ 3) : ∀ (ds acc : List PyData) (o : Option Vl) (p s q : Int), acc.length + ds.length < 1000 → (∀ r ∈ acc, isLine n m r) → 0 ≤ p →
    ∃ rs o' p' s' q', loopF (gN 2) tabBody ds (evT v o n m) [rowL ns p s q, .l acc] = some (.nx, evT v o' n m, [rowL ns p' s' q', .l rs]) ∧ rs.length = acc.length + ds.length ∧ (∀ r ∈ rs, isLine n m r) ∧ 0 ≤ p'
  | [], acc, o, p, s, q, hl, ha, hp => ⟨acc, o, p, s, q, rfl, rfl, ha, hp⟩
  | d :: ds, acc, o, p, s, q, hl, ha, hp => by
    rw [List.length_cons] at hl
    obtain ⟨z, p1, s1, q1, h1, hz, hp1⟩ := row_draw ns (some (.d d)) n m hn hn4 hm acc (by omega) p s q hp
    obtain ⟨rs, o', p2, s2, q2, h2, hr, hrs, hp2⟩ := tab_loop ns n m hn hn4 hm ds (acc ++ [z]) (some (.d d)) p1 s1 q1 (by rw [List.length_append, List.length_cons, List.length_nil]; omega) (fun r hr => by
      rcases List.mem_append.mp hr with h | h
      · exact ha r h
      · rw [List.mem_singleton.mp h]; exact hz) hp1
    refine ⟨rs, o', p2, s2, q2, ?_, by rw [hr, List.length_append, List.length_cons, List.length_cons, List.length_nil]; omega, hrs, hp2⟩
    rw [loop_cons]
    show (match tabBody (evT v (some (.d d)) n m) [rowL ns p s q, .l acc] with
      | none => none
      | some (.nx, ev2, S2) => loopF (gN 2) tabBody ds ev2 S2
      | some (.ct, ev2, S2) => loopF (gN 2) tabBody ds ev2 S2
      | some (.bk, ev2, S2) => some (.nx, ev2, S2)
      | some (.rt w, ev2, S2) => some (.rt w, ev2, S2)
      | some (.ex x, ev2, S2) => some (.ex x, ev2, S2)) = _
    rw [h1]
    exact h2
theorem object_table (ns : List Int) (p s q : Int) (hp : 0 ≤ p) (p1 s1 q1 : Int) (hv : v = 7 ∨ v = 8) (h1 : m_Ltaken [.m 0, .d (.int 9)] [rowL ns p s q] = some (.ok (.d (.int v)), [rowL ns p1 s1 q1])) (hp1 : 0 ≤ p1) :
    ∃ t p' s' q', m_Lobject [.m 0] [rowL ns p s q] = some (.ok (.d t), [rowL ns p' s' q']) ∧ isTable t ∧ 0 ≤ p' := by
  obtain ⟨a, p2, s2, q2, h2, ha0, ha, hp2⟩ := taken [] ns p1 s1 q1 4 hp1 (by decide) (by decide)
  obtain ⟨b, p3, s3, q3, h3, hb0, hb, hp3⟩ := taken [] ns p2 s2 q2 3 hp2 (by decide) (by decide)
  obtain ⟨n, hn⟩ : ∃ n : Nat, 1 + a = (n : Int) := ⟨(1 + a).toNat, by omega⟩
  obtain ⟨m, hm⟩ : ∃ m : Nat, 1 + b = (m : Int) := ⟨(1 + b).toNat, by omega⟩
  obtain ⟨rs, o', p4, s4, q4, h4, hl, hr, hp4⟩ := tab_loop (v := v) ns n m (by omega) (by omega) (by omega) (intsL 0 n) [] none p3 s3 q3 (by rw [len_ints, List.length_nil]; omega) (fun r hr => (by cases hr)) hp3
  rw [len_ints, List.length_nil, Nat.zero_add] at hl
  refine ⟨tableT rs, p4, s4, q4, ?_, ⟨rs, n, m, rfl, hl, by omega, by omega, by omega, by omega, hr⟩, hp4⟩
  have ee : evT v none n m = [some (.m 0), some (.d (.int v)), none, some (.d (.int n)), some (.d (.int m)), some (.m 1), none] := rfl
  rw [ee] at h4
  unfold tabBody at h4
  unfold m_Lobject mDef b_Lobject
  rcases hv with rfl | rfl <;>
  simp only [s_seq, s_if, s_set, s_ret, s_pass, s_for, s_parN, r_mut0, setAll, r_fB, r_op, r_var, r_c, r_call, r_def, r_cons, r_nil, r_tup, r_range, rdAll_cons, rdAll_nil, startE, rb_ok, rl_some, ro_ok, rs_nx, rs_rt, List.map, List.replicate, List.getElem?_cons_zero, List.getElem?_cons_succ, List.cons_append, List.nil_append, List.set_cons_zero, List.set_cons_succ, rd_d, rd_m, list_of, p_ixl, p_lt, p_add, p_sub, bool_of, cond_true, cond_false, List.length_cons, List.length_nil, Nat.zero_add, Nat.reduceAdd, Nat.reduceSub, Nat.reduceLeDiff, Int.reduceLT, Int.reduceSub, decide_true, decide_false, if_true, if_false, ↓reduceIte, Int.reduceEq, Int.reduceBEq, h1, h2, h3, hn, hm, eq_ii, rng1 n (by omega), h4, dats_2, dats_3, fin_d, List.take_succ_cons, List.take_zero, List.take_nil, tupleP, tableT, evT]
/-- the law's object: small, a bank or a table -/
theorem object (ns : List Int) (p s q : Int) (hp : 0 ≤ p) : ∃ t p' s' q', m_Lobject [.m 0] [rowL ns p s q] = some (.ok (.d t), [rowL ns p' s' q']) ∧ (t ∈ small ∨ isBank t ∨ isTable t) ∧ 0 ≤ p' := by
  obtain ⟨v, p1, s1, q1, h1, hv0, hv, hp1⟩ := taken [] ns p s q 9 hp (by decide) (by decide)
  by_cases c1 : v < 6
  · obtain ⟨t, p', s', q', h, ht, hp'⟩ := object_low ns p s q hp v p1 s1 q1 h1 hp1 hv0 c1
    exact ⟨t, p', s', q', h, .inl ht, hp'⟩
  · by_cases c2 : v = 6
    · subst c2
      obtain ⟨t, p', s', q', h, ht, hp'⟩ := object_bank ns p s q hp p1 s1 q1 h1 hp1
      exact ⟨t, p', s', q', h, .inr (.inl ht), hp'⟩
    · obtain ⟨t, p', s', q', h, ht, hp'⟩ := object_table ns p s q hp p1 s1 q1 (by omega) h1 hp1
      exact ⟨t, p', s', q', h, .inr (.inr ht), hp'⟩
end K00
/-! part K6a -/
set_option linter.all false
set_option maxRecDepth 100000
set_option maxHeartbeats 4000000
namespace K00
open DD PySem PySem.W
def badR (C : List PyData) : PyData := match C with
  | .tuple (h :: cs) :: _ => .tuple ((h :: cs).take 1 ++ [.int 9, .int 9])
  | _ => .none
theorem k_chkobj (x : MO) : rows.map (fun r => m_check_object [.d r.t] [x]) = rows.map fun r => okD x .none := by kernel_rfl
theorem k_cnone (x : MO) : rows.map (fun r => m_check_call [.d r.t, .d .none] [x]) = rows.map fun r => erD x "BadCall" := by kernel_rfl
theorem k_cbad (x : MO) : rows.map (fun r => m_check_call [.d r.t, .d (badR r.C)] [x]) = rows.map fun r => erD x "BadCall" := by kernel_rfl
theorem k_start (x : MO) : rows.map (fun r => m_start [.d r.t] [x]) = rows.map fun r => okD x (r.L.headD .none) := by kernel_rfl
def headT (C : List PyData) : Bool := match C with
  | .tuple (_ :: _) :: _ => true
  | _ => false
theorem k_head : (rows.all fun r => headT r.C) = true := by kernel_rfl
end K00
/-! part K6b -/
set_option linter.all false
set_option maxRecDepth 100000
set_option maxHeartbeats 400000
namespace K00
open DD PySem PySem.W
/-- a bent thing is told as the law tells it, and refused if it is none -/
def BentOk (v : PyData) : Prop := ∃ g, (∀ x, m_is_object [.d v] [x] = okD x (.bool g) ∧ m_Lis_object [.d v] [x] = okD x (.bool g)) ∧ (g = false → ∀ x, m_calls [.d v] [x] = erD x "BadObject" ∧ m_first_state [.d v] [x] = erD x "BadObject" ∧ m_states [.d v] [x] = erD x "BadObject" ∧ m_is_call [.d v, .d (.int 1)] [x] = erD x "BadObject")
theorem bent_ok {v : PyData} (h : v ∈ bents) : BentOk v := ⟨isOb v, fun x => ⟨each (k_iso x) v h, each (k_lis x) v h⟩, fun g x => by
  have hw : v ∈ wrongO := List.mem_filter.mpr ⟨h, by rw [g]; rfl⟩
  exact ⟨each (k_o1 x) v hw, each (k_o2 x) v hw, each (k_o3 x) v hw, each (k_o4 x) v hw⟩⟩
end K00
/-! part K6c -/
set_option linter.all false
set_option maxRecDepth 100000
set_option maxHeartbeats 200000
namespace K00
open DD PySem PySem.W
theorem bents_split (k : PyData) (ks : List PyData) : bentC k ks = (bentC k ks).take 4 ++ bentK k := by
  have : bentK k = (bentC k ks).drop 4 := rfl
  rw [this, List.take_append_drop]
/-- what the law needs to know of a thing -/
structure Good (t : PyData) (C L : List PyData) : Prop where
  lc : ∀ x, m_Lcalls [.d t] [x] = okD x (.list C)
  ls : ∀ x, m_Lstates [.d t] [x] = okD x (.list L)
  io : ∀ x, m_is_object [.d t] [x] = okD x (.bool true)
  ca : ∀ x, m_calls [.d t] [x] = okD x (.tuple C)
  sa : ∀ x, m_states [.d t] [x] = okD x (.tuple L)
  fs : ∀ x, m_first_state [.d t] [x] = okD x (L.headD .none)
  lf : ∀ x, m_Lfirst [.d t] [x] = okD x (L.headD .none)
  start : ∀ x, m_start [.d t] [x] = okD x (L.headD .none)
  co : ∀ x, m_check_object [.d t] [x] = okD x .none
  hL : L ≠ []
  lenC : C.length ≤ 1000
  lenL : L.length ≤ 1000
  plC : ∀ c ∈ C, plainN 3 c = true
  plL : ∀ s ∈ L, plainN 3 s = true
  step : ∀ s ∈ L, ∀ c ∈ C, ∃ s' a, s' ∈ L ∧ plainN 3 a = true ∧ ∀ x, m_applied [.d t, .d s, .d c] [x] = okD x (.tuple [s', a]) ∧ m_Ldo [.d t, .d s, .d c] [x] = okD x (.tuple [s', a]) ∧ m_step [.d t, .d s, .d c] [x] = okD x (.tuple [s', a])
  ic : ∀ c ∈ C, ∀ x, m_is_call [.d t, .d c] [x] = okD x (.bool true)
  cc : ∀ c ∈ C, ∀ x, m_check_call [.d t, .d c] [x] = okD x .none
  one : ∀ c ∈ C, firstEq C c = some c
  hC : ∃ h cs C', C = .tuple (h :: cs) :: C'
  odd : ∀ v ∈ oddOf C, ∀ x, m_is_call [.d t, .d v] [x] = okD x (.bool (goodC C v)) ∧ (goodC C v = false → m_applied [.d t, .d (L.headD .none), .d v] [x] = erD x "BadCall") ∧ ∀ z, firstEq C v = some z → m_Lalike 12 [.d v, .d z] [x] = okD x (.bool (sm v z))
  oddIn : ∀ v ∈ oddOf C, inP false v (.list C) = some (.bool (firstEq C v).isSome)
  wr : ∀ v ∈ wrongS, ∀ x, m_applied [.d t, .d v, .d (C.headD .none)] [x] = erD x "BadState"
  cn : ∀ x, m_check_call [.d t, .d .none] [x] = erD x "BadCall"
  cb : ∀ x, m_check_call [.d t, .d (badR C)] [x] = erD x "BadCall"
  bent : ∃ k ks, t = .tuple (k :: ks) ∧ ∀ v ∈ bentC k ks, BentOk v
def kindT (t : PyData) : Bool := match t with
  | .tuple (k :: _) => kinds.any (fun z => sm z k)
  | _ => false
theorem k_kind : (rows.all fun r => kindT r.t) = true := by kernel_rfl
theorem k_oddin : rows.map (fun r => (oddOf r.C).map fun v => inP false v (.list r.C)) = rows.map fun r => (oddOf r.C).map fun v => some (.bool (firstEq r.C v).isSome) := by kernel_rfl
theorem good_row (r : Row) (hr : r ∈ rows) : Good r.t r.C r.L := by
  have hf := List.all_eq_true.mp k_fine r hr
  unfold fine at hf
  simp only [Bool.and_eq_true] at hf
  obtain ⟨⟨⟨⟨⟨⟨⟨⟨f1, f2⟩, f3⟩, f4⟩, f5⟩, f6⟩, f7⟩, f8⟩, f9⟩ := hf
  refine ⟨fun x => each (r_calls x) r hr, fun x => each (r_states x) r hr, fun x => each (r_isobj x) r hr, fun x => each (r_scalls x) r hr, fun x => each (r_sstates x) r hr, fun x => each (r_first x) r hr, fun x => each (r_lfirst x) r hr, fun x => each (k_start x) r hr, fun x => each (k_chkobj x) r hr, ?_, of_decide_eq_true f7, of_decide_eq_true f8, List.all_eq_true.mp f3, List.all_eq_true.mp f4, ?_, ?_, ?_, ?_, ?_, ?_, ?_, ?_, fun x => each (k_cnone x) r hr, fun x => each (k_cbad x) r hr, ?_⟩
  · intro e; rw [e] at f6; cases f6
  · intro s hs c hc
    obtain ⟨q, hq, e⟩ := List.any_eq_true.mp (List.all_eq_true.mp (List.all_eq_true.mp f1 s hs) c hc)
    obtain ⟨e1, e2⟩ := Bool.and_eq_true_iff.mp e
    have g := List.all_eq_true.mp f2 q hq
    obtain ⟨g1, g2⟩ := Bool.and_eq_true_iff.mp g
    obtain ⟨z, hz, ez⟩ := List.any_eq_true.mp g1
    have hst : (r.t, q) ∈ steps := List.mem_flatMap.mpr ⟨r, hr, List.mem_map.mpr ⟨q, hq, rfl⟩⟩
    have es := sm_eq _ _ e1
    have ec := sm_eq _ _ e2
    refine ⟨q.2.2.1, q.2.2.2, sm_eq _ _ ez ▸ hz, g2, fun x => ?_⟩
    rw [← es, ← ec]
    have h1 := each (k_applied x) _ hst
    have h2 := each (k_do x) _ hst
    have h3 := each (k_step x) _ hst
    exact ⟨h1, h2, h3⟩
  · intro c hc x
    have h1 := each (k_iscall x) (r.t, c) (List.mem_flatMap.mpr ⟨r, hr, List.mem_map.mpr ⟨c, hc, rfl⟩⟩)
    exact h1
  · intro c hc x
    have h1 := each (k_chkcall x) (r.t, c) (List.mem_flatMap.mpr ⟨r, hr, List.mem_map.mpr ⟨c, hc, rfl⟩⟩)
    exact h1
  · intro c hc
    have g := List.all_eq_true.mp f9 c hc
    unfold firstEq
    split at g
    · rename_i z zs e
      rw [e, sm_eq _ _ g]
      rfl
    · cases g
  · have g := List.all_eq_true.mp k_head r hr
    unfold headT at g
    split at g
    · rename_i h cs C' e
      exact ⟨h, cs, C', e⟩
    · cases g
  · intro v hv x
    have ha : (⟨r.t, r.L.headD .none, v, goodC r.C v⟩ : Ask) ∈ asks := List.mem_flatMap.mpr ⟨r, hr, List.mem_map.mpr ⟨v, hv, rfl⟩⟩
    have h1 := each (k_ask x) _ ha
    refine ⟨h1, fun g => ?_, fun z hz => ?_⟩
    · have h2 := each (k_askbad x) _ (List.mem_filter.mpr ⟨ha, by show (!goodC r.C v) = true; rw [g]; rfl⟩)
      exact h2
    have h3 := each (k_like x) (v, z) (List.mem_flatMap.mpr ⟨r, hr, List.mem_flatMap.mpr ⟨v, hv, by rw [hz]; exact List.mem_singleton.mpr rfl⟩⟩)
    exact h3
  · intro v hv
    have h1 := each k_oddin r hr
    have h2 := each h1 v hv
    exact h2
  · intro v hv x
    have h1 := each (k_wrong x) (r.t, v, r.C.headD .none) (List.mem_flatMap.mpr ⟨r, hr, List.mem_map.mpr ⟨v, hv, rfl⟩⟩)
    exact h1
  · have g := List.all_eq_true.mp k_kind r hr
    unfold kindT at g
    split at g
    · rename_i k ks e
      refine ⟨k, ks, e, fun v hv => bent_ok ?_⟩
      rw [bents_split] at hv
      rcases List.mem_append.mp hv with h | h
      · exact List.mem_append.mpr (.inr (List.mem_flatMap.mpr ⟨r, hr, by rw [e]; exact h⟩))
      · obtain ⟨z, hz, ez⟩ := List.any_eq_true.mp g
        exact List.mem_append.mpr (.inl (List.mem_flatMap.mpr ⟨k, sm_eq _ _ ez ▸ hz, h⟩))
    · cases g
theorem good_small {t : PyData} (h : t ∈ small) : ∃ C L, Good t C L := by
  rw [r_small] at h
  obtain ⟨r, hr, rfl⟩ := List.mem_map.mp h
  exact ⟨r.C, r.L, good_row r hr⟩
end K00
/-! part N1 -/
set_option linter.all false
set_option maxRecDepth 100000
set_option maxHeartbeats 2000000
namespace DD
open PySem
section
variable {fs : Ev → M (List Vl)} {ev : Ev} {S : Sto}
def par2 (i j : Nat) (ev : Ev) (S : Sto) : List Vl → Option (Fl × Ev × Sto)
  | [a, b] => some (.nx, (ev.set i (some a)).set j (some b), S)
  | _ => none
theorem s_par (i j : Nat) : sPar i j fs ev S = ro (fs ev S) ev fun ws S => par2 i j ev S ws := rfl
theorem par2_ok (i j : Nat) (a b : Vl) : par2 i j ev S [a, b] = some (.nx, (ev.set i (some a)).set j (some b), S) := rfl
end
end DD
namespace K00
open DD PySem
/-- the law's own names: row, thing, names, line stand; the others are holes -/
def evL (t : PyData) (C L : List PyData) (h : Nat → Option Vl) : Ev := [h 0, some (.m 0), some (.d t), h 3, h 4, h 5, h 6, some (.d (.list C)), some (.d (.list L)), h 9, h 10, h 11, h 12, h 13, h 14, h 15, h 16]
def hu (h : Nat → Option Vl) (i : Nat) (w : Option Vl) : Nat → Option Vl := fun j => if j = i then w else h j
section
variable {t : PyData} {C L : List PyData} {h : Nat → Option Vl} {w : Option Vl}
theorem e1 : (evL t C L h)[1]? = some (some (.m 0)) := rfl
theorem e2 : (evL t C L h)[2]? = some (some (.d t)) := rfl
theorem e3 : (evL t C L h)[3]? = some (h 3) := rfl
theorem e6 : (evL t C L h)[6]? = some (h 6) := rfl
theorem e7 : (evL t C L h)[7]? = some (some (.d (.list C))) := rfl
theorem e8 : (evL t C L h)[8]? = some (some (.d (.list L))) := rfl
theorem e11 : (evL t C L h)[11]? = some (h 11) := rfl
theorem set3 : (evL t C L h).set 3 w = evL t C L (hu h 3 w) := rfl
theorem set4 : (evL t C L h).set 4 w = evL t C L (hu h 4 w) := rfl
theorem set6 : (evL t C L h).set 6 w = evL t C L (hu h 6 w) := rfl
theorem set9 : (evL t C L h).set 9 w = evL t C L (hu h 9 w) := rfl
theorem set11 : (evL t C L h).set 11 w = evL t C L (hu h 11 w) := rfl
theorem hu_6 : hu h 6 w 6 = w := rfl
theorem hu_11_6 {u : Option Vl} : hu (hu h 11 u) 6 w 11 = u := rfl
end
def turnBody : SM := (sSeq (sPar 11 6 (fCons (fDef 2 m_Lpick (fCons (fVar 1) (fCons (fVar 8) fNil))) (fCons (fDef 2 m_Lpick (fCons (fVar 1) (fCons (fVar 7) fNil))) fNil))) (sIf (fNot (fB (fDef 2 (m_Lalike 12) (fCons (fDef 3 m_applied (fCons (fVar 2) (fCons (fVar 11) (fCons (fVar 6) fNil)))) (fCons (fDef 3 m_Ldo (fCons (fVar 2) (fCons (fVar 11) (fCons (fVar 6) fNil)))) fNil))))) (sRet (fC (.bool false))) sPass))
theorem plain_up : ∀ (n : Nat) (v : PyData), plainN n v = true → plainN (n + 1) v = true
  | n, .none, _ => rfl
  | n, .bool _, _ => rfl
  | n, .int _, _ => rfl
  | 0, .str x, h => h
  | n + 1, .str x, h => h
  | 0, .tuple xs, h => by cases h
  | 0, .list xs, h => by cases h
  | n + 1, .tuple xs, h => by
    obtain ⟨h1, h2⟩ := Bool.and_eq_true_iff.mp (show (xs.all (plainN n) && decide (xs.length ≤ 1000000)) = true from h)
    exact Bool.and_eq_true_iff.mpr ⟨List.all_eq_true.mpr fun x hx => plain_up n x (List.all_eq_true.mp h1 x hx), h2⟩
  | n + 1, .list xs, h => by
    obtain ⟨h1, h2⟩ := Bool.and_eq_true_iff.mp (show (xs.all (plainN n) && decide (xs.length ≤ 1000000)) = true from h)
    exact Bool.and_eq_true_iff.mpr ⟨List.all_eq_true.mpr fun x hx => plain_up n x (List.all_eq_true.mp h1 x hx), h2⟩
  | 0, .dict _, h => by cases h
  | n + 1, .dict _, h => by cases h
theorem plain_le {n : Nat} {v : PyData} (h : plainN n v = true) : ∀ k, plainN (n + k) v = true
  | 0 => h
  | k + 1 => plain_up _ _ (plain_le h k)
theorem plain_pair {a b : PyData} (ha : plainN 3 a = true) (hb : plainN 3 b = true) : plainN 4 (.tuple [a, b]) = true := by
  show ([a, b].all (plainN 3) && decide (2 ≤ 1000000)) = true
  simp [ha, hb]
theorem turn_one {t : PyData} {C L : List PyData} (G : Good t C L) (ns : List Int) (p s q : Int) (hp : 0 ≤ p) (h : Nat → Option Vl) : ∃ h' p' s' q', turnBody (evL t C L h) [rowL ns p s q] = some (.nx, evL t C L h', [rowL ns p' s' q']) ∧ 0 ≤ p' := by
  obtain ⟨c1, cs, C', hc⟩ := G.hC
  obtain ⟨st, p1, s1, q1, h1, hst, hp1⟩ := pick [] ns p s q L hp G.hL (by have := G.lenL; omega)
  obtain ⟨c, p2, s2, q2, h2, hcm, hp2⟩ := pick [] ns p1 s1 q1 C hp1 (by rw [hc]; exact List.cons_ne_nil _ _) (by have := G.lenC; omega)
  obtain ⟨s', a, hs', ha, hx⟩ := G.step st hst c hcm
  obtain ⟨x1, x2, x3⟩ := hx (rowL ns p2 s2 q2)
  have hal := alike_refl 11 (.tuple [s', a]) [rowL ns p2 s2 q2] (plain_le (plain_pair (G.plL s' hs') ha) 7)
  refine ⟨hu (hu h 11 (some (.d st))) 6 (some (.d c)), p2, s2, q2, ?_, hp2⟩
  unfold okD at x1 x2
  unfold turnBody
  simp only [s_seq, s_if, s_par, par2_ok, s_ret, s_pass, r_fB, r_var, r_def, r_cons, r_nil, r_not, rb_ok, rl_some, ro_ok, rs_nx, e1, e2, e7, e8, e6, e11, set11, set6, hu_6, hu_11_6, bool_of, Bool.not_true, cond_true, cond_false, List.length_cons, List.length_nil, Nat.zero_add, Nat.reduceAdd, if_true, h1, h2, x1, x2, hal]
theorem turns {t : PyData} {C L : List PyData} (G : Good t C L) (ns : List Int) : ∀ (ds : List PyData) (p s q : Int) (hp : 0 ≤ p) (h : Nat → Option Vl), ∃ h' p' s' q', loopF (gN 4) turnBody ds (evL t C L h) [rowL ns p s q] = some (.nx, evL t C L h', [rowL ns p' s' q']) ∧ 0 ≤ p'
  | [], p, s, q, hp, h => ⟨h, p, s, q, rfl, hp⟩
  | d :: ds, p, s, q, hp, h => by
    obtain ⟨h1, p1, s1, q1, e, hp1⟩ := turn_one G ns p s q hp (hu h 4 (some (.d d)))
    obtain ⟨h2, p2, s2, q2, e', hp2⟩ := turns G ns ds p1 s1 q1 hp1 h1
    refine ⟨h2, p2, s2, q2, ?_, hp2⟩
    rw [loop_cons]
    show (match turnBody (evL t C L (hu h 4 (some (.d d)))) [rowL ns p s q] with
      | none => none
      | some (.nx, ev2, S2) => loopF (gN 4) turnBody ds ev2 S2
      | some (.ct, ev2, S2) => loopF (gN 4) turnBody ds ev2 S2
      | some (.bk, ev2, S2) => some (.nx, ev2, S2)
      | some (.rt w, ev2, S2) => some (.rt w, ev2, S2)
      | some (.ex x, ev2, S2) => some (.ex x, ev2, S2)) = _
    rw [e]
    exact e'
end K00
/-! part N2 -/
set_option linter.all false
set_option maxRecDepth 100000
set_option maxHeartbeats 2000000
namespace DD
open PySem
section
variable {fs : Ev → M (List Vl)} {f g : Ev → M Vl} {ev ev1 : Ev} {S : Sto}
def refR (l : List (Str × Str)) : R Vl → R Vl
  | some (.ok _, S') => some (.ok (.d .none), S')
  | some (.error x, S') => match l.lookup x with
    | some z => some (.ok (.d (.str z)), S')
    | none => none
  | none => none
theorem r_refused (l : List (Str × Str)) : fRefused l f ev S = refR l (f ev S) := by
  unfold fRefused refR
  cases h : f ev S with
  | none => rfl
  | some p => obtain ⟨o, S'⟩ := p; cases o <;> rfl
theorem compV_step {gg : Vl → Ev → Option Ev} {t : Ev → M Bool} {d : Vl} {ds : List Vl} {z : PyData} {zs : List PyData} (hg : gg d ev = some ev1) (ht : t ev1 S = some (.ok true, S)) (he : f ev1 S = some (.ok (.d z), S)) (hr : compV gg t f ev ds S = some (zs, S)) : compV gg t f ev (d :: ds) S = some (z :: zs, S) := by
  show (match gg d ev with
    | none => none
    | some ev1 => match t ev1 S with
      | some (.ok true, S1) => match f ev1 S1 with
        | some (.ok (.d z), S2) => match compV gg t f ev ds S2 with
          | some (zs, S3) => some (z :: zs, S3)
          | none => none
        | _ => none
      | some (.ok false, S1) => compV gg t f ev ds S1
      | _ => none) = _
  rw [hg]
  show (match t ev1 S with
      | some (.ok true, S1) => match f ev1 S1 with
        | some (.ok (.d z), S2) => match compV gg t f ev ds S2 with
          | some (zs, S3) => some (z :: zs, S3)
          | none => none
        | _ => none
      | some (.ok false, S1) => compV gg t f ev ds S1
      | _ => none) = _
  rw [ht]
  show (match f ev1 S with
        | some (.ok (.d z), S2) => match compV gg t f ev ds S2 with
          | some (zs, S3) => some (z :: zs, S3)
          | none => none
        | _ => none) = _
  rw [he]
  show (match compV gg t f ev ds S with
          | some (zs, S3) => some (z :: zs, S3)
          | none => none) = _
  rw [hr]
theorem r_compV {fi : Ev → M (List Vl)} {gg : Vl → Ev → Option Ev} {t : Ev → M Bool} {own : List Nat} : fCompV fi gg t f own ev S = rb (fi ev S) fun ds S1 => compR (compV gg t f (wipeE ev own) ds S1) := bind_rb (fi ev) (fun ds S1 => compR (compV gg t f (wipeE ev own) ds S1)) S
end
end DD
namespace K00
open DD PySem
theorem ref_object (S : Sto) : refR refN (some (.error "BadObject", S)) = some (.ok (.d (.str "object")), S) := rfl
theorem ref_call (S : Sto) : refR refN (some (.error "BadCall", S)) = some (.ok (.d (.str "call")), S) := rfl
theorem ref_state (S : Sto) : refR refN (some (.error "BadState", S)) = some (.ok (.d (.str "state")), S) := rfl
def askV : List (Str × Nat × (List Vl → M Vl)) := [("calls", 1, m_calls), ("first_state", 1, m_first_state), ("states", 1, m_states)]
theorem callv {nm : Str} {m : List Vl → M Vl} {v : PyData} {ev : Ev} {S : Sto} (hl : vlook askV nm = some (1, m)) (h15 : ev[15]? = some (some (.f nm))) (h3 : ev[3]? = some (some (.d v))) (hm : m [.d v] S = some (.error "BadObject", S)) : fRefused refN (fCallV 15 askV (fCons (fVar 3) fNil)) ev S = some (.ok (.d (.str "object")), S) := by
  rw [r_refused]
  have : fCallV 15 askV (fCons (fVar 3) fNil) ev S = m [.d v] S := by
    unfold fCallV
    rw [bind_rb, r_var, h15]
    simp only [rl_some, rb_ok]
    rw [hl]
    simp only [bind_rb, r_cons, r_nil, r_var, h3, rl_some, rb_ok, List.length_cons, List.length_nil, Nat.zero_add, if_true]
  rw [this, hm]
  exact ref_object S
theorem told (t : PyData) (C L : List PyData) (h : Nat → Option Vl) (v : PyData) (S : Sto) (hv : h 3 = some (.d v)) (m1 : m_calls [.d v] S = some (.error "BadObject", S)) (m2 : m_first_state [.d v] S = some (.error "BadObject", S)) (m3 : m_states [.d v] S = some (.error "BadObject", S)) :
    fCompV (fFns (fCons (fFn "calls") (fCons (fFn "first_state") (fCons (fFn "states") fNil)))) (gN 15) fYes (fRefused refN (fCallV 15 askV (fCons (fVar 3) fNil))) [15] (evL t C L h) S = some (.ok (.d (.list [.str "object", .str "object", .str "object"])), S) := by
  rw [r_compV]
  show compR (compV (gN 15) fYes (fRefused refN (fCallV 15 askV (fCons (fVar 3) fNil))) (evL t C L (hu h 15 none)) [.f "calls", .f "first_state", .f "states"] S) = _
  have hh : ∀ w, (evL t C L (hu (hu h 15 none) 15 w))[3]? = some (some (.d v)) := fun w => congrArg some hv
  rw [compV_step (ev1 := evL t C L (hu (hu h 15 none) 15 (some (.f "calls")))) rfl rfl (callv rfl rfl (hh _) m1) (compV_step (ev1 := evL t C L (hu (hu h 15 none) 15 (some (.f "first_state")))) rfl rfl (callv rfl rfl (hh _) m2) (compV_step (ev1 := evL t C L (hu (hu h 15 none) 15 (some (.f "states")))) rfl rfl (callv rfl rfl (hh _) m3) rfl))]
  rfl
end K00
/-! part N3 -/
set_option linter.all false
set_option maxRecDepth 100000
set_option maxHeartbeats 2000000
namespace K00
open DD PySem
def bentBody : SM := (sSeq (sSet 9 (fDef 1 m_Lis_object (fCons (fVar 3) fNil))) (sSeq (sIf (fNot (fB (fDef 2 (m_Lalike 12) (fCons (fDef 1 m_is_object (fCons (fVar 3) fNil)) (fCons (fVar 9) fNil))))) (sRet (fC (.bool false))) sPass) (sIf (fNot (fB (fVar 9))) (sSeq (sSet 13 (fCompV (fFns (fCons (fFn "calls") (fCons (fFn "first_state") (fCons (fFn "states") fNil)))) (gN 15) fYes (fRefused refN (fCallV 15 [("calls", 1, m_calls), ("first_state", 1, m_first_state), ("states", 1, m_states)] (fCons (fVar 3) fNil))) [15])) (sIf (fB (fOp neP (fOp addP (fVar 13) (fLst (fCons (fRefused refN (fDef 2 m_is_call (fCons (fVar 3) (fCons (fC (.int 1)) fNil)))) fNil))) (fRep (fCons (fC (.str "object")) fNil) (fC (.int 4))))) (sRet (fC (.bool false))) sPass)) sPass)))
theorem rep4 (x : Str) (ev : Ev) (S : Sto) : fRep (fCons (fC (.str x)) fNil) (fC (.int 4)) ev S = some (.ok (.d (.list [.str x, .str x, .str x, .str x])), S) := rfl
theorem ne_obj : neP (.list [.str "object", .str "object", .str "object", .str "object"]) (.list [.str "object", .str "object", .str "object", .str "object"]) = some (.bool false) := by kernel_rfl
theorem add_obj (a b c d : PyData) : addP (.list [a, b, c]) (.list [d]) = some (.list [a, b, c, d]) := rfl
theorem dats_1 (a : PyData) : dats [.d a] = some [a] := rfl
section
variable {t : PyData} {C L : List PyData} {h : Nat → Option Vl} {w : Option Vl}
theorem e9 : (evL t C L h)[9]? = some (h 9) := rfl
theorem e13 : (evL t C L h)[13]? = some (h 13) := rfl
theorem set13 : (evL t C L h).set 13 w = evL t C L (hu h 13 w) := rfl
theorem hu_9_3 : hu h 9 w 3 = h 3 := rfl
theorem hu_9 : hu h 9 w 9 = w := rfl
theorem hu_13 : hu h 13 w 13 = w := rfl
theorem hu_13_3 : hu h 13 w 3 = h 3 := rfl
end
theorem bent_one (t : PyData) (C L : List PyData) (h : Nat → Option Vl) (v : PyData) (x : MO) (hv : h 3 = some (.d v)) (B : BentOk v) : ∃ h', bentBody (evL t C L h) [x] = some (.nx, evL t C L h', [x]) := by
  obtain ⟨g, hg, hb⟩ := B
  obtain ⟨g1, g2⟩ := hg x
  unfold okD at g1 g2
  have hal := alike_refl 11 (.bool g) [x] rfl
  cases g with
  | true =>
    refine ⟨hu h 9 (some (.d (.bool true))), ?_⟩
    unfold bentBody
    simp only [s_seq, s_if, s_set, s_ret, s_pass, r_fB, r_var, r_def, r_cons, r_nil, r_not, rb_ok, rl_some, ro_ok, rs_nx, e3, e9, set9, hu_9_3, hu_9, hv, bool_of, Bool.not_true, Bool.not_false, cond_true, cond_false, List.length_cons, List.length_nil, Nat.zero_add, Nat.reduceAdd, if_true, g1, g2, hal]
  | false =>
    obtain ⟨m1, m2, m3, m4⟩ := hb rfl x
    unfold erD at m1 m2 m3 m4
    have ht := told t C L (hu h 9 (some (.d (.bool false)))) v [x] hv m1 m2 m3
    unfold askV at ht
    refine ⟨hu (hu h 9 (some (.d (.bool false)))) 13 (some (.d (.list [.str "object", .str "object", .str "object"]))), ?_⟩
    unfold bentBody
    simp only [s_seq, s_if, s_set, s_ret, s_pass, r_fB, r_var, r_c, r_def, r_cons, r_nil, r_lst, r_not, r_op, r_refused, rb_ok, rl_some, ro_ok, rs_nx, e3, e9, e13, set9, set13, hu_9_3, hu_9, hu_13, hu_13_3, hv, bool_of, rd_d, Bool.not_true, Bool.not_false, cond_true, cond_false, List.length_cons, List.length_nil, Nat.zero_add, Nat.reduceAdd, Nat.reduceLeDiff, if_true, g1, g2, hal, m4, ref_object, rep4, add_obj, ne_obj, dats_1]
    rw [ht]
    simp only [s_seq, s_if, s_set, s_ret, s_pass, r_fB, r_var, r_c, r_def, r_cons, r_nil, r_lst, r_not, r_op, r_refused, rb_ok, rl_some, ro_ok, rs_nx, e3, e9, e13, set9, set13, hu_9_3, hu_9, hu_13, hu_13_3, hv, bool_of, rd_d, Bool.not_true, Bool.not_false, cond_true, cond_false, List.length_cons, List.length_nil, Nat.zero_add, Nat.reduceAdd, Nat.reduceLeDiff, if_true, g1, g2, hal, m4, ref_object, rep4, add_obj, ne_obj, dats_1]
theorem bents_loop (t : PyData) (C L : List PyData) (x : MO) : ∀ (ds : List PyData) (h : Nat → Option Vl), (∀ v ∈ ds, BentOk v) → ∃ h', loopF (gN 3) bentBody ds (evL t C L h) [x] = some (.nx, evL t C L h', [x])
  | [], h, _ => ⟨h, rfl⟩
  | d :: ds, h, B => by
    obtain ⟨h1, e⟩ := bent_one t C L (hu h 3 (some (.d d))) d x rfl (B d (List.mem_cons_self ..))
    obtain ⟨h2, e'⟩ := bents_loop t C L x ds h1 fun v hv => B v (List.mem_cons_of_mem _ hv)
    refine ⟨h2, ?_⟩
    rw [loop_cons]
    show (match bentBody (evL t C L (hu h 3 (some (.d d)))) [x] with
      | none => none
      | some (.nx, ev2, S2) => loopF (gN 3) bentBody ds ev2 S2
      | some (.ct, ev2, S2) => loopF (gN 3) bentBody ds ev2 S2
      | some (.bk, ev2, S2) => some (.nx, ev2, S2)
      | some (.rt w, ev2, S2) => some (.rt w, ev2, S2)
      | some (.ex x, ev2, S2) => some (.ex x, ev2, S2)) = _
    rw [e]
    exact e'
end K00
/-! part N4 -/
set_option linter.all false
set_option maxRecDepth 100000
set_option maxHeartbeats 2000000
namespace K00
open DD PySem
theorem atI_head {xs : List PyData} (h : xs ≠ []) : L2.atI xs 0 = some (xs.headD .none) := by
  cases xs with
  | nil => exact absurd rfl h
  | cons a l =>
    unfold L2.atI L2.ixN
    rw [if_pos (by omega), if_pos (by simp)]
    rfl
theorem ne_state : neP (.str "state") (.str "state") = some (.bool false) := by kernel_rfl
theorem ne_call : neP (.str "call") (.str "call") = some (.bool false) := by kernel_rfl
theorem Good.neC {t : PyData} {C L : List PyData} (G : Good t C L) : C ≠ [] := by
  obtain ⟨a, b, c, e⟩ := G.hC
  rw [e]
  exact List.cons_ne_nil _ _
def wrBody : SM := (sIf (fB (fOp neP (fRefused refN (fDef 3 m_applied (fCons (fVar 2) (fCons (fVar 3) (fCons (fOp ixP (fVar 7) (fC (.int 0))) fNil))))) (fC (.str "state")))) (sRet (fC (.bool false))) sPass)
theorem wr_one {t : PyData} {C L : List PyData} (G : Good t C L) (h : Nat → Option Vl) (v : PyData) (x : MO) (hv : h 3 = some (.d v)) (hm : v ∈ wrongS) : wrBody (evL t C L h) [x] = some (.nx, evL t C L h, [x]) := by
  have m := G.wr v hm x
  unfold erD at m
  unfold wrBody
  simp only [s_if, s_ret, s_pass, r_fB, r_var, r_c, r_def, r_cons, r_nil, r_op, r_refused, rb_ok, rl_some, ro_ok, e2, e3, e7, hv, bool_of, rd_d, p_ixl, atI_head G.neC, cond_true, cond_false, List.length_cons, List.length_nil, Nat.zero_add, Nat.reduceAdd, if_true, m, ref_state, ne_state]
theorem wr_loop {t : PyData} {C L : List PyData} (G : Good t C L) (x : MO) : ∀ (ds : List PyData) (h : Nat → Option Vl), (∀ v ∈ ds, v ∈ wrongS) → ∃ h', loopF (gN 3) wrBody ds (evL t C L h) [x] = some (.nx, evL t C L h', [x])
  | [], h, _ => ⟨h, rfl⟩
  | d :: ds, h, B => by
    have e := wr_one G (hu h 3 (some (.d d))) d x rfl (B d (List.mem_cons_self ..))
    obtain ⟨h2, e'⟩ := wr_loop G x ds (hu h 3 (some (.d d))) fun v hv => B v (List.mem_cons_of_mem _ hv)
    refine ⟨h2, ?_⟩
    rw [loop_cons]
    show (match wrBody (evL t C L (hu h 3 (some (.d d)))) [x] with
      | none => none
      | some (.nx, ev2, S2) => loopF (gN 3) wrBody ds ev2 S2
      | some (.ct, ev2, S2) => loopF (gN 3) wrBody ds ev2 S2
      | some (.bk, ev2, S2) => some (.nx, ev2, S2)
      | some (.rt w, ev2, S2) => some (.rt w, ev2, S2)
      | some (.ex x, ev2, S2) => some (.ex x, ev2, S2)) = _
    rw [e]
    exact e'
/-- the first step of the law's body: the checks before the loops -/
def doBody : SM := (sSeq (sAsg (gT 2 (gsCons (gN 11) (gsCons (gN 14) gsNil))) (fDef 3 m_Ldo (fCons (fVar 2) (fCons (fVar 11) (fCons (fVar 6) fNil))))) (sSet 12 (fOp addP (fVar 12) (fTup (fCons (fVar 14) fNil)))))
section
variable {t : PyData} {C L : List PyData} {h : Nat → Option Vl} {w : Option Vl}
theorem e12 : (evL t C L h)[12]? = some (h 12) := rfl
theorem e14 : (evL t C L h)[14]? = some (h 14) := rfl
theorem set12 : (evL t C L h).set 12 w = evL t C L (hu h 12 w) := rfl
theorem set14 : (evL t C L h).set 14 w = evL t C L (hu h 14 w) := rfl
end
theorem s_asg {g : Vl → Ev → Option Ev} {f : Ev → M Vl} {ev : Ev} {S : Sto} : sAsg g f ev S = ro (f ev S) ev fun w S => (match g w ev with
  | some ev' => some (.nx, ev', S)
  | none => none) := rfl
/-- the law's own fold over the calls: state and answers -/
theorem do_loop {t : PyData} {C L : List PyData} (G : Good t C L) (x : MO) : ∀ (cs : List PyData) (h : Nat → Option Vl) (s : PyData) (as : List PyData), (∀ c ∈ cs, c ∈ C) → s ∈ L → as.length + cs.length ≤ 1000 → h 11 = some (.d s) → h 12 = some (.d (.tuple as)) →
    ∃ h' s' bs, loopF (gN 6) doBody cs (evL t C L h) [x] = some (.nx, evL t C L h', [x]) ∧ s' ∈ L ∧ h' 11 = some (.d s') ∧ h' 12 = some (.d (.tuple (as ++ bs))) ∧ h' 10 = h 10 ∧ bs.length = cs.length ∧ (∀ b ∈ bs, plainN 3 b = true)
  | [], h, s, as, _, hs, _, h1, h2 => ⟨h, s, [], rfl, hs, h1, by rw [List.append_nil]; exact h2, rfl, rfl, fun b hb => by cases hb⟩
  | c :: cs, h, s, as, hc, hs, hl, h1, h2 => by
    rw [List.length_cons] at hl
    obtain ⟨s', a, hs', ha, hx⟩ := G.step s hs c (hc c (List.mem_cons_self ..))
    have m := (hx x).2.1
    unfold okD at m
    have e : doBody (evL t C L (hu h 6 (some (.d c)))) [x] = some (.nx, evL t C L (hu (hu (hu (hu h 6 (some (.d c))) 11 (some (.d s'))) 14 (some (.d a))) 12 (some (.d (.tuple (as ++ [a]))))), [x]) := by
      have k1 : hu h 6 (some (.d c)) 11 = some (.d s) := h1
      have k2 : hu (hu (hu h 6 (some (.d c))) 11 (some (.d s'))) 14 (some (.d a)) 12 = some (.d (.tuple as)) := h2
      have k3 : hu (hu (hu h 6 (some (.d c))) 11 (some (.d s'))) 14 (some (.d a)) 14 = some (.d a) := rfl
      have kg : gT 2 (gsCons (gN 11) (gsCons (gN 14) gsNil)) (.d (.tuple [s', a])) (evL t C L (hu h 6 (some (.d c)))) = some (evL t C L (hu (hu (hu h 6 (some (.d c))) 11 (some (.d s'))) 14 (some (.d a)))) := rfl
      have ka : addP (.tuple as) (.tuple [a]) = some (.tuple (as ++ [a])) := by
        show (if as.length + [a].length ≤ 1000000 then some (PyData.tuple (as ++ [a])) else none) = _
        exact if_pos (by simp only [List.length_cons, List.length_nil]; omega)
      unfold doBody
      simp only [s_seq, s_asg, s_set, r_var, r_def, r_cons, r_nil, r_op, r_tup, rb_ok, rl_some, ro_ok, rs_nx, e2, e6, e11, e12, e14, hu_6, k1, k2, k3, kg, ka, set12, rd_d, dats_1, List.length_cons, List.length_nil, Nat.zero_add, Nat.reduceAdd, Nat.reduceLeDiff, if_true, m]
    obtain ⟨h', s2, bs, e', g1, g2, g3, g4, g5, g6⟩ := do_loop G x cs _ s' (as ++ [a]) (fun c h => hc c (List.mem_cons_of_mem _ h)) hs' (by rw [List.length_append, List.length_cons, List.length_nil]; omega) (rfl : hu (hu (hu (hu h 6 (some (.d c))) 11 (some (.d s'))) 14 (some (.d a))) 12 (some (.d (.tuple (as ++ [a])))) 11 = some (.d s')) rfl
    refine ⟨h', s2, a :: bs, ?_, g1, g2, by rw [g3, List.append_assoc]; rfl, g4, by rw [List.length_cons, List.length_cons, g5], ?_⟩
    · rw [loop_cons]
      show (match doBody (evL t C L (hu h 6 (some (.d c)))) [x] with
      | none => none
      | some (.nx, ev2, S2) => loopF (gN 6) doBody cs ev2 S2
      | some (.ct, ev2, S2) => loopF (gN 6) doBody cs ev2 S2
      | some (.bk, ev2, S2) => some (.nx, ev2, S2)
      | some (.rt w, ev2, S2) => some (.rt w, ev2, S2)
      | some (.ex x, ev2, S2) => some (.ex x, ev2, S2)) = _
      rw [e]
      exact e'
    · intro b hb
      cases hb with
      | head => exact ha
      | tail _ hb => exact g6 b hb
end K00
/-! part N5 -/
set_option linter.all false
set_option maxRecDepth 100000
set_option maxHeartbeats 2000000
namespace DD
open PySem
/-- a comprehension that keeps what is chosen -/
theorem comp_filter {i : Nat} {t : Ev → M Bool} {f : Ev → M Vl} {ev : Ev} {S : Sto} {p : PyData → Bool} : ∀ {ds : List PyData}, (∀ d ∈ ds, t (ev.set i (some (.d d))) S = some (.ok (p d), S)) → (∀ d ∈ ds, f (ev.set i (some (.d d))) S = some (.ok (.d d), S)) → compL (gN i) t f ev ds S = some (ds.filter p, S)
  | [], _, _ => rfl
  | d :: ds, h, k => by
    have ih := comp_filter (fun d hd => h d (List.mem_cons_of_mem _ hd)) (fun d hd => k d (List.mem_cons_of_mem _ hd))
    have h1 := h d (List.mem_cons_self ..)
    have k1 := k d (List.mem_cons_self ..)
    show (match t (ev.set i (some (.d d))) S with
      | some (.ok true, S1) => match f (ev.set i (some (.d d))) S1 with
        | some (.ok (.d z), S2) => match compL (gN i) t f ev ds S2 with
          | some (zs, S3) => some (z :: zs, S3)
          | none => none
        | _ => none
      | some (.ok false, S1) => compL (gN i) t f ev ds S1
      | _ => none) = _
    rw [h1]
    cases hp : p d with
    | true =>
      show (match f (ev.set i (some (.d d))) S with
        | some (.ok (.d z), S2) => match compL (gN i) t f ev ds S2 with
          | some (zs, S3) => some (z :: zs, S3)
          | none => none
        | _ => none) = _
      rw [k1]
      show (match compL (gN i) t f ev ds S with
          | some (zs, S3) => some (d :: zs, S3)
          | none => none) = _
      rw [ih, List.filter_cons_of_pos hp]
    | false =>
      show compL (gN i) t f ev ds S = _
      rw [ih, List.filter_cons_of_neg (by rw [hp]; exact Bool.false_ne_true)]
end DD
namespace K00
open DD PySem
def askBody : SM := (sSeq (sSet 9 (fAndV (fOp (inP false) (fVar 3) (fVar 7)) (fDef 2 (m_Lalike 12) (fCons (fVar 3) (fCons (fOp ixP (fComp (fItems (fVar 7)) (gN 16) (fB (fOp eqP (fVar 16) (fVar 3))) (fVar 16) [16]) (fC (.int 0))) fNil))))) (sSeq (sIf (fNot (fB (fDef 2 (m_Lalike 12) (fCons (fDef 2 m_is_call (fCons (fVar 2) (fCons (fVar 3) fNil))) (fCons (fVar 9) fNil))))) (sRet (fC (.bool false))) sPass) (sIf (fAnd (fNot (fB (fVar 9))) (fB (fOp neP (fRefused refN (fDef 3 m_applied (fCons (fVar 2) (fCons (fOp ixP (fVar 8) (fC (.int 0))) (fCons (fVar 3) fNil))))) (fC (.str "call"))))) (sRet (fC (.bool false))) sPass)))
/-- what is asked of one value -/
structure AskOk (t : PyData) (C L : List PyData) (v : PyData) : Prop where
  isin : inP false v (.list C) = some (.bool (firstEq C v).isSome)
  eqs : ∀ z ∈ C, eqP z v = some (.bool (PyData.eqv z v))
  ic : ∀ x, m_is_call [.d t, .d v] [x] = okD x (.bool (goodC C v))
  bad : goodC C v = false → ∀ x, m_applied [.d t, .d (L.headD .none), .d v] [x] = erD x "BadCall"
  like : ∀ z, firstEq C v = some z → ∀ x, m_Lalike 12 [.d v, .d z] [x] = okD x (.bool (sm v z))
section
variable {t : PyData} {C L : List PyData} {h : Nat → Option Vl} {w : Option Vl}
theorem e16 : (evL t C L h)[16]? = some (h 16) := rfl
theorem set16 : (evL t C L h).set 16 w = evL t C L (hu h 16 w) := rfl
theorem wipe16 : wipeE (evL t C L h) [16] = evL t C L (hu h 16 none) := rfl
theorem hu_16_16_3 {u : Option Vl} : hu (hu h 16 u) 16 w 3 = h 3 := rfl
theorem hu_16 : hu h 16 w 16 = w := rfl
theorem its_l {xs : List PyData} : itemsOf (.d (.list xs)) = some xs := rfl
end
theorem ask_one {t : PyData} {C L : List PyData} (G : Good t C L) (h : Nat → Option Vl) (v : PyData) (x : MO) (hv : h 3 = some (.d v)) (A : AskOk t C L v) : ∃ h', askBody (evL t C L h) [x] = some (.nx, evL t C L h', [x]) := by
  have hal : ∀ g, m_Lalike 12 [.d (.bool g), .d (.bool g)] [x] = some (.ok (.d (.bool true)), [x]) := fun g => alike_refl 11 (.bool g) [x] rfl
  have hc : compL (gN 16) (fB (fOp eqP (fVar 16) (fVar 3))) (fVar 16) (evL t C L (hu h 16 none)) C [x] = some (C.filter (fun z => PyData.eqv z v), [x]) := by
    refine comp_filter (fun d hd => ?_) (fun d hd => ?_)
    · simp only [r_fB, r_op, r_var, set16, e16, e3, hu_16, hu_16_16_3, hv, rl_some, rb_ok, rd_d, A.eqs d hd, bool_of]
    · simp only [r_var, set16, e16, hu_16, rl_some]
  have i1 := A.ic x
  have i2 := A.isin
  unfold okD at i1
  have hl : (C.filter fun z => PyData.eqv z v).length ≤ 1000000 := Nat.le_trans (List.length_filter_le _ _) (by have := G.lenC; omega)
  have hL := atI_head G.hL
  cases q : firstEq C v with
  | none =>
    have gf : goodC C v = false := by unfold goodC; rw [q]
    have m := A.bad gf x
    unfold erD at m
    rw [q] at i2
    rw [gf] at i1
    have i2' : inP false v (.list C) = some (.bool false) := i2
    refine ⟨hu h 9 (some (.d (.bool false))), ?_⟩
    unfold askBody
    simp only [s_seq, s_if, s_set, s_ret, s_pass, r_fB, r_var, r_c, r_def, r_cons, r_nil, r_not, r_and, r_andV, r_op, r_refused, rb_ok, rl_some, ro_ok, rs_nx, e2, e3, e7, e8, e9, set9, hu_9_3, hu_9, hv, bool_of, rd_d, Bool.not_true, Bool.not_false, cond_true, cond_false, List.length_cons, List.length_nil, Nat.zero_add, Nat.reduceAdd, if_true, i1, i2', hal, p_ixl, hL, m, ref_call, ne_call]
  | some z =>
    have m := A.like z q x
    unfold okD at m
    have gz : goodC C v = sm v z := by unfold goodC; rw [q]
    rw [q] at i2
    have i2' : inP false v (.list C) = some (.bool true) := i2
    have ha : L2.atI (C.filter fun z => PyData.eqv z v) 0 = some z := by
      unfold firstEq at q
      cases hf : C.filter fun z => PyData.eqv z v with
      | nil => rw [hf] at q; cases q
      | cons a l =>
        rw [hf] at q
        cases q
        exact atI_head (List.cons_ne_nil _ _)
    refine ⟨hu h 9 (some (.d (.bool (sm v z)))), ?_⟩
    rw [gz] at i1
    unfold askBody
    cases gs : sm v z with
    | true =>
      rw [gs] at m i1
      simp only [s_seq, s_if, s_set, s_ret, s_pass, r_fB, r_var, r_c, r_def, r_cons, r_nil, r_not, r_and, r_andV, r_op, r_comp, r_items, its_l, wipe16, hc, compR_some _ _ hl, ha, r_refused, rb_ok, rl_some, ro_ok, rs_nx, e2, e3, e7, e8, e9, set9, hu_9_3, hu_9, hv, bool_of, rd_d, Bool.not_true, Bool.not_false, cond_true, cond_false, List.length_cons, List.length_nil, Nat.zero_add, Nat.reduceAdd, if_true, i1, i2', hal, p_ixl, m]
    | false =>
      have mb := A.bad (gz.trans gs) x
      unfold erD at mb
      rw [gs] at m i1
      simp only [s_seq, s_if, s_set, s_ret, s_pass, r_fB, r_var, r_c, r_def, r_cons, r_nil, r_not, r_and, r_andV, r_op, r_comp, r_items, its_l, wipe16, hc, compR_some _ _ hl, ha, r_refused, rb_ok, rl_some, ro_ok, rs_nx, e2, e3, e7, e8, e9, set9, hu_9_3, hu_9, hv, bool_of, rd_d, Bool.not_true, Bool.not_false, cond_true, cond_false, List.length_cons, List.length_nil, Nat.zero_add, Nat.reduceAdd, if_true, i1, i2', hal, p_ixl, m, hL, mb, ref_call, ne_call]
end K00
/-! part N6 -/
set_option linter.all false
set_option maxRecDepth 100000
set_option maxHeartbeats 2000000
namespace K00
open DD PySem PySem.W
theorem ask_loop {t : PyData} {C L : List PyData} (G : Good t C L) (x : MO) : ∀ (ds : List PyData) (h : Nat → Option Vl), (∀ v ∈ ds, AskOk t C L v) → ∃ h', loopF (gN 3) askBody ds (evL t C L h) [x] = some (.nx, evL t C L h', [x])
  | [], h, _ => ⟨h, rfl⟩
  | d :: ds, h, B => by
    obtain ⟨h1, e⟩ := ask_one G (hu h 3 (some (.d d))) d x rfl (B d (List.mem_cons_self ..))
    obtain ⟨h2, e'⟩ := ask_loop G x ds h1 fun v hv => B v (List.mem_cons_of_mem _ hv)
    refine ⟨h2, ?_⟩
    rw [loop_cons]
    show (match askBody (evL t C L (hu h 3 (some (.d d)))) [x] with
      | none => none
      | some (.nx, ev2, S2) => loopF (gN 3) askBody ds ev2 S2
      | some (.ct, ev2, S2) => loopF (gN 3) askBody ds ev2 S2
      | some (.bk, ev2, S2) => some (.nx, ev2, S2)
      | some (.rt w, ev2, S2) => some (.rt w, ev2, S2)
      | some (.ex x, ev2, S2) => some (.ex x, ev2, S2)) = _
    rw [e]
    exact e'
/-- the values whose likeness is read: the odd ones and the calls -/
theorem k_eqs : rows.map (fun r => (oddOf r.C ++ r.C).map fun v => r.C.map fun z => eqP z v) = rows.map fun r => (oddOf r.C ++ r.C).map fun v => r.C.map fun z => some (.bool (PyData.eqv z v)) := by kernel_rfl
theorem k_inC : rows.map (fun r => r.C.map fun v => inP false v (.list r.C)) = rows.map fun r => r.C.map fun v => some (.bool (firstEq r.C v).isSome) := by kernel_rfl
theorem plain_self (v : PyData) : ∀ z, sm v z = true → sm v v = true := fun z h => by rw [← sm_eq _ _ h] at h; exact h
theorem k_self : (rows.all fun r => r.C.all fun c => sm c c) = true := by kernel_rfl
theorem ask_row (r : Row) (hr : r ∈ rows) : ∀ v ∈ oddOf r.C ++ r.C, AskOk r.t r.C r.L v := by
  intro v hv
  have G := good_row r hr
  have he : ∀ z ∈ r.C, eqP z v = some (.bool (PyData.eqv z v)) := by
    have h1 := each k_eqs r hr
    have h2 := each h1 v hv
    have h3 := each h2
    exact h3
  rcases List.mem_append.mp hv with h | h
  · exact ⟨G.oddIn v h, he, fun x => (G.odd v h x).1, fun g x => (G.odd v h x).2.1 g, fun z hz x => (G.odd v h x).2.2 z hz⟩
  · have hs : sm v v = true := List.all_eq_true.mp (List.all_eq_true.mp k_self r hr) v h
    have hg : goodC r.C v = true := by unfold goodC; rw [G.one v h]; exact hs
    refine ⟨?_, he, fun x => ?_, fun g => ?_, fun z hz x => ?_⟩
    · have h1 := each k_inC r hr
      have h2 := each h1 v h
      exact h2
    · rw [hg]; exact G.ic v h x
    · rw [hg] at g; cases g
    · have ez : z = v := by have := G.one v h; rw [hz] at this; exact Option.some.inj this
      subst ez
      have h1 := alike_refl 11 z [x] (plain_le (G.plC z h) 8)
      rw [hs]
      exact h1
end K00
/-! part N7 -/
set_option linter.all false
set_option maxRecDepth 100000
set_option maxHeartbeats 2000000
namespace K00
open DD PySem PySem.W
def ckBody : SM := (sExpr (fDef 2 m_check_call (fCons (fVar 0) (fCons (fVar 2) fNil))))
def evC (t v : PyData) (o : Option Vl) : Ev := [some (.d t), some (.d v), o]
theorem ck_loop {t : PyData} {C L : List PyData} (G : Good t C L) (v : PyData) (x : MO) : ∀ (ds : List PyData) (o : Option Vl), (∀ c ∈ ds, c ∈ C) → ∃ o', loopF (gN 2) ckBody ds (evC t v o) [x] = some (.nx, evC t v o', [x])
  | [], o, _ => ⟨o, rfl⟩
  | d :: ds, o, B => by
    have m := G.cc d (B d (List.mem_cons_self ..)) x
    unfold okD at m
    have e : ckBody (evC t v (some (.d d))) [x] = some (.nx, evC t v (some (.d d)), [x]) := by
      unfold ckBody evC
      simp only [s_expr, r_def, r_cons, r_nil, r_var, rl_some, rb_ok, ro_ok, List.getElem?_cons_zero, List.getElem?_cons_succ, List.length_cons, List.length_nil, Nat.zero_add, Nat.reduceAdd, if_true, m]
    obtain ⟨o2, e'⟩ := ck_loop G v x ds (some (.d d)) fun v hv => B v (List.mem_cons_of_mem _ hv)
    refine ⟨o2, ?_⟩
    rw [loop_cons]
    show (match ckBody (evC t v (some (.d d))) [x] with
      | none => none
      | some (.nx, ev2, S2) => loopF (gN 2) ckBody ds ev2 S2
      | some (.ct, ev2, S2) => loopF (gN 2) ckBody ds ev2 S2
      | some (.bk, ev2, S2) => some (.nx, ev2, S2)
      | some (.rt w, ev2, S2) => some (.rt w, ev2, S2)
      | some (.ex x, ev2, S2) => some (.ex x, ev2, S2)) = _
    rw [e]
    exact e'
theorem its_t {xs : List PyData} : itemsOf (.d (.tuple xs)) = some xs := rfl
theorem isi_tup (xs : List PyData) : isiP .tup (.tuple xs) = some (.bool true) := rfl
theorem check_calls_ok {t : PyData} {C L : List PyData} (G : Good t C L) (cs : List PyData) (h : ∀ c ∈ cs, c ∈ C) (x : MO) : m_check_calls [.d t, .d (.tuple cs)] [x] = okD x .none := by
  obtain ⟨o', e⟩ := ck_loop G (.tuple cs) x cs none h
  unfold ckBody evC at e
  unfold m_check_calls mDef b_check_calls okD
  simp only [s_seq, s_if, s_pass, s_for, r_fB, r_not, r_un, r_var, r_items, its_t, isi_tup, startE, rl_some, rb_ok, ro_ok, rs_nx, rd_d, bool_of, Bool.not_true, cond_true, cond_false, List.map, List.replicate, List.cons_append, List.nil_append, List.getElem?_cons_zero, List.getElem?_cons_succ, List.length_cons, List.length_nil, Nat.zero_add, Nat.reduceAdd, Nat.reduceSub, e, fin_d, List.take_succ_cons, List.take_zero]
/-- a first call that is none ends it -/
theorem check_calls_bad {t : PyData} {C L : List PyData} (G : Good t C L) (cs : List PyData) (b : PyData) (h : ∀ c ∈ cs, c ∈ C) (x : MO) (hb : m_check_call [.d t, .d b] [x] = erD x "BadCall") : m_check_calls [.d t, .d (.tuple (cs ++ [b]))] [x] = erD x "BadCall" := by
  unfold erD at hb
  have key : ∀ (ds : List PyData) (o : Option Vl), (∀ c ∈ ds, c ∈ C) → ∃ ev', loopF (gN 2) ckBody (ds ++ [b]) (evC t (.tuple (cs ++ [b])) o) [x] = some (.ex "BadCall", ev', [x]) := by
    intro ds
    induction ds with
    | nil =>
      intro o _
      refine ⟨evC t (.tuple (cs ++ [b])) (some (.d b)), ?_⟩
      have e : ckBody (evC t (.tuple (cs ++ [b])) (some (.d b))) [x] = some (.ex "BadCall", evC t (.tuple (cs ++ [b])) (some (.d b)), [x]) := by
        unfold ckBody evC
        simp only [s_expr, r_def, r_cons, r_nil, r_var, rl_some, rb_ok, ro_err, List.getElem?_cons_zero, List.getElem?_cons_succ, List.length_cons, List.length_nil, Nat.zero_add, Nat.reduceAdd, if_true, hb]
      rw [List.nil_append, loop_cons]
      show (match ckBody (evC t (.tuple (cs ++ [b])) (some (.d b))) [x] with
      | none => none
      | some (.nx, ev2, S2) => loopF (gN 2) ckBody [] ev2 S2
      | some (.ct, ev2, S2) => loopF (gN 2) ckBody [] ev2 S2
      | some (.bk, ev2, S2) => some (.nx, ev2, S2)
      | some (.rt w, ev2, S2) => some (.rt w, ev2, S2)
      | some (.ex x, ev2, S2) => some (.ex x, ev2, S2)) = _
      rw [e]
    | cons d ds ih =>
      intro o B
      have m := G.cc d (B d (List.mem_cons_self ..)) x
      unfold okD at m
      have e : ckBody (evC t (.tuple (cs ++ [b])) (some (.d d))) [x] = some (.nx, evC t (.tuple (cs ++ [b])) (some (.d d)), [x]) := by
        unfold ckBody evC
        simp only [s_expr, r_def, r_cons, r_nil, r_var, rl_some, rb_ok, ro_ok, List.getElem?_cons_zero, List.getElem?_cons_succ, List.length_cons, List.length_nil, Nat.zero_add, Nat.reduceAdd, if_true, m]
      obtain ⟨ev', e'⟩ := ih (some (.d d)) fun v hv => B v (List.mem_cons_of_mem _ hv)
      refine ⟨ev', ?_⟩
      rw [List.cons_append, loop_cons]
      show (match ckBody (evC t (.tuple (cs ++ [b])) (some (.d d))) [x] with
      | none => none
      | some (.nx, ev2, S2) => loopF (gN 2) ckBody (ds ++ [b]) ev2 S2
      | some (.ct, ev2, S2) => loopF (gN 2) ckBody (ds ++ [b]) ev2 S2
      | some (.bk, ev2, S2) => some (.nx, ev2, S2)
      | some (.rt w, ev2, S2) => some (.rt w, ev2, S2)
      | some (.ex x, ev2, S2) => some (.ex x, ev2, S2)) = _
      rw [e]
      exact e'
  obtain ⟨ev', e⟩ := key cs none h
  unfold ckBody evC at e
  unfold m_check_calls mDef b_check_calls erD
  simp only [s_seq, s_if, s_pass, s_for, r_fB, r_not, r_un, r_var, r_items, its_t, isi_tup, startE, rl_some, rb_ok, ro_ok, rs_nx, rd_d, bool_of, Bool.not_true, cond_true, cond_false, List.map, List.replicate, List.cons_append, List.nil_append, List.getElem?_cons_zero, List.getElem?_cons_succ, List.length_cons, List.length_nil, Nat.zero_add, Nat.reduceAdd, Nat.reduceSub, e, List.take_succ_cons, List.take_zero]
theorem k_step2 (x y : MO) : steps.map (fun q => m_step [.d q.1, .d q.2.1, .d q.2.2.1] [x, y]) = steps.map fun q => some (.ok (.d (.tuple [q.2.2.2.1, q.2.2.2.2])), [x, y]) := by kernel_rfl
end K00
/-! part N8 -/
set_option linter.all false
set_option maxRecDepth 100000
set_option maxHeartbeats 2000000
namespace K00
open DD PySem PySem.W
/-- a run of calls: from a state, by calls, to a state, with answers -/
inductive Walk (t : PyData) : PyData → List PyData → PyData → List PyData → Prop
  | nil (s : PyData) : Walk t s [] s []
  | cons {s c s1 a s2 : PyData} {cs bs : List PyData} : (∀ x, m_Ldo [.d t, .d s, .d c] [x] = okD x (.tuple [s1, a])) → (∀ x y, m_step [.d t, .d s, .d c] [x, y] = some (.ok (.d (.tuple [s1, a])), [x, y])) → Walk t s1 cs s2 bs → Walk t s (c :: cs) s2 (a :: bs)
def Step2 (t : PyData) (C L : List PyData) : Prop := ∀ s ∈ L, ∀ c ∈ C, ∃ s1 a, s1 ∈ L ∧ plainN 3 a = true ∧ (∀ x, m_Ldo [.d t, .d s, .d c] [x] = okD x (.tuple [s1, a])) ∧ ∀ x y, m_step [.d t, .d s, .d c] [x, y] = some (.ok (.d (.tuple [s1, a])), [x, y])
theorem walk_ex {t : PyData} {C L : List PyData} (G : Step2 t C L) : ∀ (cs : List PyData) (s : PyData), (∀ c ∈ cs, c ∈ C) → s ∈ L → ∃ s2 bs, Walk t s cs s2 bs ∧ s2 ∈ L ∧ (∀ b ∈ bs, plainN 3 b = true) ∧ bs.length = cs.length
  | [], s, _, hs => ⟨s, [], .nil s, hs, (fun b hb => by cases hb), rfl⟩
  | c :: cs, s, hc, hs => by
    obtain ⟨s1, a, h1, ha, k1, k2⟩ := G s hs c (hc c (List.mem_cons_self ..))
    obtain ⟨s2, bs, w, g1, g2, g3⟩ := walk_ex G cs s1 (fun c h => hc c (List.mem_cons_of_mem _ h)) h1
    refine ⟨s2, a :: bs, .cons k1 k2 w, g1, fun b hb => ?_, by rw [List.length_cons, List.length_cons, g3]⟩
    cases hb with
    | head => exact ha
    | tail _ hb => exact g2 b hb
def runBody : SM := (sSeq (sAsg (gT 2 (gsCons (gN 2) (gsCons (gN 5) gsNil))) (fDef 3 m_step (fCons (fVar 0) (fCons (fVar 2) (fCons (fVar 4) fNil))))) (sExpr (fAppend (fVar 3) (fVar 5))))
def evR (t v s : PyData) (o p : Option Vl) : Ev := [some (.d t), some (.d v), some (.d s), some (.m 1), o, p]
theorem run_walk {t : PyData} (v : PyData) (x : MO) : ∀ {cs : List PyData} {s s2 : PyData} {bs : List PyData} (as : List PyData) (o p : Option Vl), Walk t s cs s2 bs → as.length + cs.length ≤ 1000 → ∃ o' p', loopF (gN 4) runBody cs (evR t v s o p) [x, .l as] = some (.nx, evR t v s2 o' p', [x, .l (as ++ bs)])
  | _, _, _, _, as, o, p, .nil s, _ => ⟨o, p, by rw [List.append_nil]; rfl⟩
  | _, _, _, _, as, o, p, .cons (s := s) (c := c) (s1 := s1) (a := a) (s2 := s2) (cs := cs) (bs := bs) k1 k2 w, hl => by
    rw [List.length_cons] at hl
    have m := k2 x (.l as)
    have kg : gT 2 (gsCons (gN 2) (gsCons (gN 5) gsNil)) (.d (.tuple [s1, a])) (evR t v s (some (.d c)) p) = some (evR t v s1 (some (.d c)) (some (.d a))) := rfl
    have e : runBody (evR t v s (some (.d c)) p) [x, .l as] = some (.nx, evR t v s1 (some (.d c)) (some (.d a)), [x, .l (as ++ [a])]) := by
      have q0 : ∀ s p, (evR t v s (some (.d c)) p)[0]? = some (some (.d t)) := fun _ _ => rfl
      have q2 : ∀ s p, (evR t v s (some (.d c)) p)[2]? = some (some (.d s)) := fun _ _ => rfl
      have q3 : ∀ s p, (evR t v s (some (.d c)) p)[3]? = some (some (.m 1)) := fun _ _ => rfl
      have q4 : ∀ s p, (evR t v s (some (.d c)) p)[4]? = some (some (.d c)) := fun _ _ => rfl
      have q5 : ∀ s p, (evR t v s (some (.d c)) p)[5]? = some p := fun _ _ => rfl
      unfold runBody
      simp only [s_seq, s_asg, s_expr, r_append, r_var, r_def, r_cons, r_nil, rb_ok, rl_some, ro_ok, rs_nx, q0, q2, q3, q4, q5, kg, mut_m, list_of, dat_of, List.getElem?_cons_zero, List.getElem?_cons_succ, List.length_cons, List.length_nil, Nat.zero_add, Nat.reduceAdd, if_true, m, show as.length < 1000000 by omega, List.set_cons_zero, List.set_cons_succ]
    obtain ⟨o', p', e'⟩ := run_walk v x (as ++ [a]) (some (.d c)) (some (.d a)) w (by rw [List.length_append, List.length_cons, List.length_nil]; omega)
    refine ⟨o', p', ?_⟩
    rw [loop_cons]
    show (match runBody (evR t v s (some (.d c)) p) [x, .l as] with
      | none => none
      | some (.nx, ev2, S2) => loopF (gN 4) runBody cs ev2 S2
      | some (.ct, ev2, S2) => loopF (gN 4) runBody cs ev2 S2
      | some (.bk, ev2, S2) => some (.nx, ev2, S2)
      | some (.rt w, ev2, S2) => some (.rt w, ev2, S2)
      | some (.ex x, ev2, S2) => some (.ex x, ev2, S2)) = _
    rw [e]
    show loopF (gN 4) runBody cs (evR t v s1 (some (.d c)) (some (.d a))) [x, .l (as ++ [a])] = _
    rw [e', List.append_assoc]
    rfl
end K00
/-! part N9 -/
set_option linter.all false
set_option maxRecDepth 100000
set_option maxHeartbeats 2000000
namespace K00
open DD PySem PySem.W
theorem run_ok {t : PyData} {C L : List PyData} (G : Good t C L) {cs bs : List PyData} {s2 : PyData} (w : Walk t (L.headD .none) cs s2 bs) (hl : cs.length ≤ 1000) (x : MO) : m_run [.d t, .d (.tuple cs)] [x] = okD x (.tuple [.tuple bs, s2]) := by
  obtain ⟨o', p', e⟩ := run_walk (.tuple cs) x [] none none w (by rw [List.length_nil]; omega)
  have m := G.start x
  unfold okD at m
  unfold runBody evR at e
  rw [List.nil_append] at e
  unfold m_run mDef b_run okD
  simp only [s_seq, s_set, s_ret, s_for, r_mut0, r_var, r_def, r_cons, r_nil, r_items, r_call, r_tup, its_t, startE, rdAll_cons, rdAll_nil, rl_some, rb_ok, ro_ok, rs_nx, rd_d, rd_m, list_of, List.map, List.replicate, List.cons_append, List.nil_append, List.getElem?_cons_zero, List.getElem?_cons_succ, List.set_cons_zero, List.set_cons_succ, List.length_cons, List.length_nil, Nat.zero_add, Nat.reduceAdd, Nat.reduceSub, Nat.reduceLeDiff, if_true, m, e, tupleP, dats_2, fin_d, List.take_succ_cons, List.take_zero]
theorem replayed_ok {t : PyData} {C L : List PyData} (G : Good t C L) {cs bs : List PyData} {s2 : PyData} (w : Walk t (L.headD .none) cs s2 bs) (hl : cs.length ≤ 1000) (hc : ∀ c ∈ cs, c ∈ C) (x : MO) : m_replayed [.d t, .d (.tuple cs)] [x] = okD x (.tuple [.tuple bs, s2]) := by
  have m1 := G.co x
  have m2 := check_calls_ok G cs hc x
  have m3 := run_ok G w hl x
  unfold okD at m1 m2 m3
  unfold m_replayed mDef b_replayed okD
  simp only [s_seq, s_expr, s_ret, r_var, r_def, r_cons, r_nil, startE, rl_some, rb_ok, ro_ok, rs_nx, List.map, List.replicate, List.cons_append, List.nil_append, List.getElem?_cons_zero, List.getElem?_cons_succ, List.length_cons, List.length_nil, Nat.zero_add, Nat.reduceAdd, Nat.reduceSub, if_true, m1, m2, m3, fin_d, List.take_succ_cons, List.take_zero]
theorem replayed_bad {t : PyData} {C L : List PyData} (G : Good t C L) (v : PyData) (x : MO) (hb : m_check_calls [.d t, .d v] [x] = erD x "BadCall") : m_replayed [.d t, .d v] [x] = erD x "BadCall" := by
  have m1 := G.co x
  unfold okD at m1
  unfold erD at hb
  unfold m_replayed mDef b_replayed erD
  simp only [s_seq, s_expr, s_ret, r_var, r_def, r_cons, r_nil, startE, rl_some, rb_ok, ro_ok, ro_err, rs_nx, rs_ex, List.map, List.replicate, List.cons_append, List.nil_append, List.getElem?_cons_zero, List.getElem?_cons_succ, List.length_cons, List.length_nil, Nat.zero_add, Nat.reduceAdd, Nat.reduceSub, if_true, m1, hb, List.take_succ_cons, List.take_zero]
/-- what is no tuple is no run of calls -/
theorem check_calls_other (t v : PyData) (hv : isiB .tup v = false) (x : MO) : m_check_calls [.d t, .d v] [x] = erD x "BadCall" := by
  have h : isiP .tup v = some (.bool false) := by rw [isi_t, hv]
  unfold m_check_calls mDef b_check_calls erD
  simp only [s_seq, s_if, s_raise, r_fB, r_not, r_un, r_var, startE, rl_some, rb_ok, ro_ok, rs_nx, rs_ex, rd_d, bool_of, Bool.not_false, cond_true, List.map, List.replicate, List.cons_append, List.nil_append, List.getElem?_cons_zero, List.getElem?_cons_succ, List.length_cons, List.length_nil, Nat.zero_add, Nat.reduceAdd, Nat.reduceSub, h, List.take_succ_cons, List.take_zero]
theorem step2_row (r : Row) (hr : r ∈ rows) : Step2 r.t r.C r.L := by
  have hf := List.all_eq_true.mp k_fine r hr
  unfold fine at hf
  simp only [Bool.and_eq_true] at hf
  obtain ⟨⟨⟨⟨⟨⟨⟨⟨f1, f2⟩, f3⟩, f4⟩, f5⟩, f6⟩, f7⟩, f8⟩, f9⟩ := hf
  intro s hs c hc
  obtain ⟨q, hq, e⟩ := List.any_eq_true.mp (List.all_eq_true.mp (List.all_eq_true.mp f1 s hs) c hc)
  obtain ⟨e1, e2⟩ := Bool.and_eq_true_iff.mp e
  obtain ⟨g1, g2⟩ := Bool.and_eq_true_iff.mp (List.all_eq_true.mp f2 q hq)
  obtain ⟨z, hz, ez⟩ := List.any_eq_true.mp g1
  have hst : (r.t, q) ∈ steps := List.mem_flatMap.mpr ⟨r, hr, List.mem_map.mpr ⟨q, hq, rfl⟩⟩
  have es := sm_eq _ _ e1
  have ec := sm_eq _ _ e2
  refine ⟨q.2.2.1, q.2.2.2, sm_eq _ _ ez ▸ hz, g2, fun x => ?_, fun x y => ?_⟩
  · rw [← es, ← ec]
    have h2 := each (k_do x) _ hst
    exact h2
  · rw [← es, ← ec]
    have h2 := each (k_step2 x y) _ hst
    exact h2
end K00
/-! part N10 -/
set_option linter.all false
set_option maxRecDepth 100000
set_option maxHeartbeats 2000000
namespace K00
open DD PySem PySem.W
/-- the law's own fold, over a run -/
theorem do_walk {t : PyData} {C L : List PyData} (x : MO) : ∀ {cs : List PyData} {s s2 : PyData} {bs : List PyData} (h : Nat → Option Vl) (as : List PyData), Walk t s cs s2 bs → as.length + cs.length ≤ 1000 → h 11 = some (.d s) → h 12 = some (.d (.tuple as)) →
    ∃ h', loopF (gN 6) doBody cs (evL t C L h) [x] = some (.nx, evL t C L h', [x]) ∧ h' 11 = some (.d s2) ∧ h' 12 = some (.d (.tuple (as ++ bs))) ∧ h' 10 = h 10
  | _, _, _, _, h, as, .nil s, _, h1, h2 => ⟨h, rfl, h1, by rw [List.append_nil]; exact h2, rfl⟩
  | _, _, _, _, h, as, .cons (s := s) (c := c) (s1 := s') (a := a) (s2 := s2) (cs := cs) (bs := bs) k1 k2 w, hl, h1, h2 => by
    rw [List.length_cons] at hl
    have m := k1 x
    unfold okD at m
    have e : doBody (evL t C L (hu h 6 (some (.d c)))) [x] = some (.nx, evL t C L (hu (hu (hu (hu h 6 (some (.d c))) 11 (some (.d s'))) 14 (some (.d a))) 12 (some (.d (.tuple (as ++ [a]))))), [x]) := by
      have k1 : hu h 6 (some (.d c)) 11 = some (.d s) := h1
      have k2 : hu (hu (hu h 6 (some (.d c))) 11 (some (.d s'))) 14 (some (.d a)) 12 = some (.d (.tuple as)) := h2
      have k3 : hu (hu (hu h 6 (some (.d c))) 11 (some (.d s'))) 14 (some (.d a)) 14 = some (.d a) := rfl
      have kg : gT 2 (gsCons (gN 11) (gsCons (gN 14) gsNil)) (.d (.tuple [s', a])) (evL t C L (hu h 6 (some (.d c)))) = some (evL t C L (hu (hu (hu h 6 (some (.d c))) 11 (some (.d s'))) 14 (some (.d a)))) := rfl
      have ka : addP (.tuple as) (.tuple [a]) = some (.tuple (as ++ [a])) := by
        show (if as.length + [a].length ≤ 1000000 then some (PyData.tuple (as ++ [a])) else none) = _
        exact if_pos (by simp only [List.length_cons, List.length_nil]; omega)
      unfold doBody
      simp only [s_seq, s_asg, s_set, r_var, r_def, r_cons, r_nil, r_op, r_tup, rb_ok, rl_some, ro_ok, rs_nx, e2, e6, e11, e12, e14, hu_6, k1, k2, k3, kg, ka, set12, rd_d, dats_1, List.length_cons, List.length_nil, Nat.zero_add, Nat.reduceAdd, Nat.reduceLeDiff, if_true, m]
    obtain ⟨h', e', g2, g3, g4⟩ := do_walk (C := C) (L := L) x (hu (hu (hu (hu h 6 (some (.d c))) 11 (some (.d s'))) 14 (some (.d a))) 12 (some (.d (.tuple (as ++ [a]))))) (as ++ [a]) w (by rw [List.length_append, List.length_cons, List.length_nil]; omega) rfl rfl
    refine ⟨h', ?_, g2, by rw [g3, List.append_assoc]; rfl, g4⟩
    rw [loop_cons]
    show (match doBody (evL t C L (hu h 6 (some (.d c)))) [x] with
      | none => none
      | some (.nx, ev2, S2) => loopF (gN 6) doBody cs ev2 S2
      | some (.ct, ev2, S2) => loopF (gN 6) doBody cs ev2 S2
      | some (.bk, ev2, S2) => some (.nx, ev2, S2)
      | some (.rt w, ev2, S2) => some (.rt w, ev2, S2)
      | some (.ex x, ev2, S2) => some (.ex x, ev2, S2)) = _
    rw [e]
    exact e'
end K00
/-! part N11 -/
set_option linter.all false
set_option maxRecDepth 100000
set_option maxHeartbeats 2000000
namespace K00
open DD PySem PySem.W
/-- a comprehension of picks from a list -/
theorem comp_pick {ev : Ev} {T : Sto} {ns : List Int} (i j : Nat) (xs : List PyData) (hx : xs ≠ []) (hl : xs.length ≤ 1000) (ds : List PyData) (h1 : ∀ w, (ev.set i w)[1]? = some (some (.m 0))) (hj : ∀ w, (ev.set i w)[j]? = some (some (.d (.list xs)))) (p s q : Int) (hp : 0 ≤ p) : ∃ zs p' s' q', compL (gN i) fYes (fDef 2 m_Lpick (fCons (fVar 1) (fCons (fVar j) fNil))) ev ds (rowL ns p s q :: T) = some (zs, rowL ns p' s' q' :: T) ∧ zs.length = ds.length ∧ (∀ z ∈ zs, z ∈ xs) ∧ 0 ≤ p' :=
  comp_draw (P := fun z => z ∈ xs) (fun d hd p s q hp => by
    obtain ⟨z, p', s', q', e, hz, hp'⟩ := pick T ns p s q xs hp hx (by omega)
    refine ⟨z, p', s', q', ?_, hz, hp'⟩
    simp only [r_def, r_cons, r_nil, r_var, h1, hj, rl_some, rb_ok, List.length_cons, List.length_nil, Nat.zero_add, Nat.reduceAdd, if_true, e]) p s q hp
/-- all of a thing's calls, or states, as a tuple are like themselves -/
theorem alike_all {xs : List PyData} (h : ∀ c ∈ xs, plainN 3 c = true) (hl : xs.length ≤ 1000) (S : Sto) : m_Lalike 12 [.d (.tuple xs), .d (.tuple xs)] S = some (.ok (.d (.bool true)), S) := by
  have h4 : plainN 4 (.tuple xs) = true := by
    show (xs.all (plainN 3) && decide (xs.length ≤ 1000000)) = true
    rw [List.all_eq_true.mpr h]
    simp only [Bool.true_and, decide_eq_true_eq]
    omega
  exact alike_refl 11 _ S (plain_le h4 7)
end K00
/-! part N12 -/
set_option linter.all false
set_option maxRecDepth 100000
set_option maxHeartbeats 2000000
namespace K00
open DD PySem PySem.W
def bt1 : SM := (sSet 2 (fLst (fCons (fVar 1) (fCons (fCall listP (fCons (fVar 1) fNil)) (fCons (fOp addP (fVar 1) (fTup (fCons (fC (.int 1)) fNil))) (fCons (fSl (fVar 1) oN (oI (fC (.int 1)))) (fCons (fTup (fCons (fOp ixP (fVar 1) (fC (.int 0))) (fCons (fC (.bool true)) fNil))) (fCons (fTup (fCons (fOp ixP (fVar 1) (fC (.int 0))) (fCons (fC (.int 6)) fNil))) (fCons (fTup (fCons (fOp ixP (fVar 1) (fC (.int 0))) (fCons (fC (.int 1)) fNil))) (fCons (fTup (fCons (fOp ixP (fVar 1) (fC (.int 0))) (fCons (fC (.int 2)) fNil))) (fCons (fTup (fCons (fOp ixP (fVar 1) (fC (.int 0))) (fCons (fC (.int 3)) (fCons (fC (.int 3)) fNil)))) (fCons (fTup (fCons (fOp ixP (fVar 1) (fC (.int 0))) (fCons (fC (.int 2)) (fCons (fC (.int 4)) fNil)))) fNil))))))))))))
def bt2 : SM := (sSet 2 (fOp addP (fVar 2) (fLst (fCons (fTup (fCons (fOp ixP (fVar 1) (fC (.int 0))) (fCons (fTup (fCons (fC (.int 1)) (fCons (fC (.int 2)) fNil))) fNil))) (fCons (fTup (fCons (fOp ixP (fVar 1) (fC (.int 0))) (fCons (fTup (fCons (fC (.int 1)) fNil)) fNil))) (fCons (fTup (fCons (fOp ixP (fVar 1) (fC (.int 0))) (fCons (fTup (fCons (fC (.int 6)) (fCons (fC (.int 1)) fNil))) fNil))) (fCons (fTup (fCons (fOp ixP (fVar 1) (fC (.int 0))) (fCons (fTup (fCons (fTup (fCons (fC (.int 0)) (fCons (fC (.int 1)) fNil))) fNil)) fNil))) (fCons (fTup (fCons (fOp ixP (fVar 1) (fC (.int 0))) (fCons (fTup (fCons (fTup (fCons (fTup (fCons (fC (.int 0)) (fCons (fC (.int 1)) fNil))) fNil)) fNil)) fNil))) (fCons (fTup (fCons (fOp ixP (fVar 1) (fC (.int 0))) (fCons (fTup (fCons (fTup (fCons (fTup (fCons (fC (.int 1)) (fCons (fC (.int 1)) fNil))) fNil)) fNil)) fNil))) (fCons (fTup (fCons (fOp ixP (fVar 1) (fC (.int 0))) (fCons (fTup (fCons (fTup (fCons (fTup (fCons (fC (.int 0)) (fCons (fC (.int 10)) fNil))) fNil)) fNil)) fNil))) fNil))))))))))
def bt3 : SM := (sSet 2 (fOp addP (fVar 2) (fLst (fCons (fTup (fCons (fOp ixP (fVar 1) (fC (.int 0))) (fCons (fTup (fCons (fTup (fCons (fTup (fCons (fC (.int 0)) (fCons (fC (.int 1)) fNil))) fNil)) (fCons (fTup (fCons (fTup (fCons (fC (.int 1)) (fCons (fC (.int 0)) fNil))) (fCons (fTup (fCons (fC (.int 0)) (fCons (fC (.int 0)) fNil))) fNil))) fNil))) fNil))) (fCons (fTup (fCons (fC (.str "heap")) (fCons (fC (.int 2)) fNil))) (fCons (fC .none) (fCons (fC (.int 3)) (fCons (fTup fNil) (fCons (fC (.str "counter")) (fCons (fTup (fCons (fC (.int 1)) (fCons (fC (.int 2)) fNil))) (fCons (fTup (fCons (fOp ixP (fVar 1) (fC (.int 0))) (fCons (fTup (fCons (fTup (fCons (fTup (fCons (fC (.int 0)) (fCons (fC (.bool true)) fNil))) fNil)) fNil)) fNil))) (fCons (fTup (fCons (fOp ixP (fVar 1) (fC (.int 0))) (fCons (fTup fNil) fNil))) (fCons (fTup (fCons (fOp ixP (fVar 1) (fC (.int 0))) (fCons (fTup (fCons (fTup fNil) fNil)) fNil))) fNil)))))))))))))
def bt4 : SM := (sRet (fComp (fRange rng1P (fCons (fC (.int 6)) fNil)) (gN 3) fYes (fDef 2 m_Lpick (fCons (fVar 0) (fCons (fVar 2) fNil))) [3]))
theorem b_Lbent_eq : b_Lbent = sSeq bt1 (sSeq bt2 (sSeq bt3 bt4)) := rfl
theorem bt_run1 (k a : PyData) (S : Sto) : sSeq bt1 (sSeq bt2 bt3) [some (.m 0), some (.d (.tuple [k, a])), none, none] S = some (.nx, [some (.m 0), some (.d (.tuple [k, a])), some (.d (.list (bentC k [a]))), none], S) := by kernel_rfl
theorem bt_run2 (k a b : PyData) (S : Sto) : sSeq bt1 (sSeq bt2 bt3) [some (.m 0), some (.d (.tuple [k, a, b])), none, none] S = some (.nx, [some (.m 0), some (.d (.tuple [k, a, b])), some (.d (.list (bentC k [a, b]))), none], S) := by kernel_rfl
end K00
/-! part N13 -/
set_option linter.all false
set_option maxRecDepth 100000
set_option maxHeartbeats 2000000
namespace K00
open DD PySem PySem.W
theorem seq3 (a b c d : SM) (ev ev' : Ev) (S S' : Sto) (h : sSeq a (sSeq b c) ev S = some (.nx, ev', S')) : sSeq a (sSeq b (sSeq c d)) ev S = d ev' S' := by
  simp only [s_seq] at h ⊢
  cases h1 : a ev S with
  | none => rw [h1] at h; cases h
  | some p =>
    obtain ⟨f1, x1, y1⟩ := p
    rw [h1] at h
    cases f1 <;> first | (cases h; done) | skip
    rw [rs_nx] at h ⊢
    cases h2 : b x1 y1 with
    | none => rw [h2] at h; cases h
    | some p =>
      obtain ⟨f2, x2, y2⟩ := p
      rw [h2] at h
      cases f2 <;> first | (cases h; done) | skip
      rw [rs_nx] at h ⊢
      rw [h, rs_nx]
theorem bent_pick (t : PyData) (xs : List PyData) (hx : xs ≠ []) (hl : xs.length ≤ 1000) (hrun : ∀ S, sSeq bt1 (sSeq bt2 bt3) [some (.m 0), some (.d t), none, none] S = some (.nx, [some (.m 0), some (.d t), some (.d (.list xs)), none], S)) (ns : List Int) (p s q : Int) (hp : 0 ≤ p) : ∃ zs p' s' q', m_Lbent [.m 0, .d t] [rowL ns p s q] = some (.ok (.d (.list zs)), [rowL ns p' s' q']) ∧ (∀ z ∈ zs, z ∈ xs) ∧ 0 ≤ p' := by
  obtain ⟨zs, p', s', q', e, hlen, hz, hp'⟩ := comp_draw (P := fun z => z ∈ xs) (i := 3) (el := fDef 2 m_Lpick (fCons (fVar 0) (fCons (fVar 2) fNil))) (ev := [some (.m 0), some (.d t), some (.d (.list xs)), none]) (T := []) (ns := ns) (ds := intsL 0 6) (fun d hd p s q hp => by
    obtain ⟨z, p', s', q', e, hz, hp'⟩ := pick [] ns p s q xs hp hx (by omega)
    refine ⟨z, p', s', q', ?_, hz, hp'⟩
    simp only [r_def, r_cons, r_nil, r_var, rl_some, rb_ok, List.set_cons_zero, List.set_cons_succ, List.getElem?_cons_zero, List.getElem?_cons_succ, List.length_cons, List.length_nil, Nat.zero_add, Nat.reduceAdd, if_true, e]) p s q hp
  refine ⟨zs, p', s', q', ?_, hz, hp'⟩
  have hw : wipeE [some (.m 0), some (.d t), some (.d (.list xs)), none] [3] = [some (.m 0), some (.d t), some (.d (.list xs)), none] := rfl
  have h6 : rng1P [.int 6] = some (intsL 0 6) := rng1 6 (by decide)
  rw [len_ints] at hlen
  have hb : b_Lbent [some (.m 0), some (.d t), none, none] [rowL ns p s q] = bt4 [some (.m 0), some (.d t), some (.d (.list xs)), none] [rowL ns p s q] := by
    rw [b_Lbent_eq]
    exact seq3 bt1 bt2 bt3 bt4 _ _ _ _ (hrun _)
  unfold m_Lbent mDef
  simp only [startE, List.map, List.replicate, List.cons_append, List.nil_append, List.length_cons, List.length_nil, Nat.zero_add, Nat.reduceAdd, Nat.reduceSub, hb]
  unfold bt4
  simp only [s_ret, r_comp, r_range, r_cons, r_nil, r_c, rdAll_cons, rdAll_nil, rb_ok, rl_some, ro_ok, rd_d, h6, hw, e, compR_some zs _ (by omega), fin_d, List.take_succ_cons, List.take_zero]
theorem bent1 (k a : PyData) (ns : List Int) (p s q : Int) (hp : 0 ≤ p) : ∃ zs p' s' q', m_Lbent [.m 0, .d (.tuple [k, a])] [rowL ns p s q] = some (.ok (.d (.list zs)), [rowL ns p' s' q']) ∧ (∀ z ∈ zs, z ∈ bentC k [a]) ∧ 0 ≤ p' :=
  bent_pick _ _ (by unfold bentC; exact List.cons_ne_nil _ _) (by unfold bentC; simp) (bt_run1 k a) ns p s q hp
theorem bent2 (k a b : PyData) (ns : List Int) (p s q : Int) (hp : 0 ≤ p) : ∃ zs p' s' q', m_Lbent [.m 0, .d (.tuple [k, a, b])] [rowL ns p s q] = some (.ok (.d (.list zs)), [rowL ns p' s' q']) ∧ (∀ z ∈ zs, z ∈ bentC k [a, b]) ∧ 0 ≤ p' :=
  bent_pick _ _ (by unfold bentC; exact List.cons_ne_nil _ _) (by unfold bentC; simp) (bt_run2 k a b) ns p s q hp
end K00
/-! part N14 -/
set_option linter.all false
set_option maxRecDepth 100000
set_option maxHeartbeats 2000000
namespace K00
open DD PySem PySem.W
def lw1 : SM := (sSet 1 (fMut (fCons (fVar 0) (fCons (fC (.int 0)) (fCons (fC (.int 16000)) (fCons (fC (.int 0)) fNil))))))
def lw2 : SM := (sSet 2 (fDef 1 m_Lobject (fCons (fVar 1) fNil)))
def lw3 : SM := (sParN [7, 8] (fCons (fDef 1 m_Lcalls (fCons (fVar 2) fNil)) (fCons (fDef 1 m_Lstates (fCons (fVar 2) fNil)) fNil)))
def lw4 : SM := (sIf (fOr (fB (fOp isNotP (fDef 1 m_is_object (fCons (fVar 2) fNil)) (fC (.bool true)))) (fOr (fNot (fB (fDef 2 (m_Lalike 12) (fCons (fDef 1 m_calls (fCons (fVar 2) fNil)) (fCons (fCall tupleP (fCons (fVar 7) fNil)) fNil))))) (fNot (fB (fDef 2 (m_Lalike 12) (fCons (fDef 1 m_first_state (fCons (fVar 2) fNil)) (fCons (fDef 1 m_Lfirst (fCons (fVar 2) fNil)) fNil))))))) (sRet (fC (.bool false))) sPass)
def lw5 : SM := (sIf (fNot (fB (fDef 2 (m_Lalike 12) (fCons (fDef 1 m_states (fCons (fVar 2) fNil)) (fCons (fCall tupleP (fCons (fVar 8) fNil)) fNil))))) (sRet (fC (.bool false))) sPass)
def lw6 : SM := (sFor (fItems (fDef 2 m_Lbent (fCons (fVar 1) (fCons (fVar 2) fNil)))) (gN 3) (sSeq (sSet 9 (fDef 1 m_Lis_object (fCons (fVar 3) fNil))) (sSeq (sIf (fNot (fB (fDef 2 (m_Lalike 12) (fCons (fDef 1 m_is_object (fCons (fVar 3) fNil)) (fCons (fVar 9) fNil))))) (sRet (fC (.bool false))) sPass) (sIf (fNot (fB (fVar 9))) (sSeq (sSet 13 (fCompV (fFns (fCons (fFn "calls") (fCons (fFn "first_state") (fCons (fFn "states") fNil)))) (gN 15) fYes (fRefused refN (fCallV 15 [("calls", 1, m_calls), ("first_state", 1, m_first_state), ("states", 1, m_states)] (fCons (fVar 3) fNil))) [15])) (sIf (fB (fOp neP (fOp addP (fVar 13) (fLst (fCons (fRefused refN (fDef 2 m_is_call (fCons (fVar 3) (fCons (fC (.int 1)) fNil)))) fNil))) (fRep (fCons (fC (.str "object")) fNil) (fC (.int 4))))) (sRet (fC (.bool false))) sPass)) sPass))))
def lw7 : SM := (sFor (fRange rng1P (fCons (fC (.int 8)) fNil)) (gN 4) (sSeq (sPar 11 6 (fCons (fDef 2 m_Lpick (fCons (fVar 1) (fCons (fVar 8) fNil))) (fCons (fDef 2 m_Lpick (fCons (fVar 1) (fCons (fVar 7) fNil))) fNil))) (sIf (fNot (fB (fDef 2 (m_Lalike 12) (fCons (fDef 3 m_applied (fCons (fVar 2) (fCons (fVar 11) (fCons (fVar 6) fNil)))) (fCons (fDef 3 m_Ldo (fCons (fVar 2) (fCons (fVar 11) (fCons (fVar 6) fNil)))) fNil))))) (sRet (fC (.bool false))) sPass)))
def lw8 : SM := (sSet 5 (fLst (fCons (fTup fNil) (fCons (fTup (fCons (fC (.str "add")) fNil)) (fCons (fTup (fCons (fC (.str "look")) (fCons (fC (.int 1)) (fCons (fC (.int 2)) fNil)))) (fCons (fOp addP (fOp ixP (fVar 7) (fC (.int 0))) (fTup (fCons (fC (.int 1)) fNil))) (fCons (fCall listP (fCons (fOp ixP (fVar 7) (fC (.int 0))) fNil)) (fCons (fSl (fOp ixP (fVar 7) (fC (.int 0))) oN (oI (fC (.int 1)))) (fCons (fTup (fCons (fOp ixP (fOp ixP (fVar 7) (fC (.int 0))) (fC (.int 0))) (fCons (fC (.bool true)) fNil))) (fCons (fC .none) (fCons (fC (.str "look")) (fCons (fTup (fCons (fC (.str "do")) (fCons (fC (.int 9)) fNil))) (fCons (fTup (fCons (fC (.str "move")) (fCons (fC (.int 0)) (fCons (fC (.int 0)) (fCons (fC (.int 1)) fNil))))) fNil)))))))))))))
def lw9 : SM := (sFor (fItems (fOp addP (fVar 5) (fVar 7))) (gN 3) (sSeq (sSet 9 (fAndV (fOp (inP false) (fVar 3) (fVar 7)) (fDef 2 (m_Lalike 12) (fCons (fVar 3) (fCons (fOp ixP (fComp (fItems (fVar 7)) (gN 16) (fB (fOp eqP (fVar 16) (fVar 3))) (fVar 16) [16]) (fC (.int 0))) fNil))))) (sSeq (sIf (fNot (fB (fDef 2 (m_Lalike 12) (fCons (fDef 2 m_is_call (fCons (fVar 2) (fCons (fVar 3) fNil))) (fCons (fVar 9) fNil))))) (sRet (fC (.bool false))) sPass) (sIf (fAnd (fNot (fB (fVar 9))) (fB (fOp neP (fRefused refN (fDef 3 m_applied (fCons (fVar 2) (fCons (fOp ixP (fVar 8) (fC (.int 0))) (fCons (fVar 3) fNil))))) (fC (.str "call"))))) (sRet (fC (.bool false))) sPass))))
def lw10 : SM := (sFor (fItems (fLst (fCons (fTup (fCons (fC (.int 9)) (fCons (fC (.int 9)) fNil))) (fCons (fC (.str "x")) (fCons (fLst (fCons (fC (.int 0)) fNil)) (fCons (fUn negP (fC (.int 1))) (fCons (fC (.int 77)) (fCons (fTup (fCons (fTup fNil) fNil)) fNil)))))))) (gN 3) (sIf (fB (fOp neP (fRefused refN (fDef 3 m_applied (fCons (fVar 2) (fCons (fVar 3) (fCons (fOp ixP (fVar 7) (fC (.int 0))) fNil))))) (fC (.str "state")))) (sRet (fC (.bool false))) sPass))
def lw11 : SM := (sPar3 10 11 12 (fCons (fCall tupleP (fCons (fComp (fRange rng1P (fCons (fDef 2 m_Ltaken (fCons (fVar 1) (fCons (fC (.int 9)) fNil))) fNil)) (gN 4) fYes (fDef 2 m_Lpick (fCons (fVar 1) (fCons (fVar 7) fNil))) [4]) fNil)) (fCons (fOp ixP (fVar 8) (fC (.int 0))) (fCons (fTup fNil) fNil))))
def lw12 : SM := (sFor (fItems (fVar 10)) (gN 6) (sSeq (sAsg (gT 2 (gsCons (gN 11) (gsCons (gN 14) gsNil))) (fDef 3 m_Ldo (fCons (fVar 2) (fCons (fVar 11) (fCons (fVar 6) fNil))))) (sSet 12 (fOp addP (fVar 12) (fTup (fCons (fVar 14) fNil))))))
def lw13 : SM := (sIf (fNot (fB (fDef 2 (m_Lalike 12) (fCons (fDef 2 m_replayed (fCons (fVar 2) (fCons (fVar 10) fNil))) (fCons (fTup (fCons (fVar 12) (fCons (fVar 11) fNil))) fNil))))) (sRet (fC (.bool false))) sPass)
def lw14 : SM := (sRet (fOp eqP (fComp (fItems (fLst (fCons (fC .none) (fCons (fCall listP (fCons (fVar 10) fNil)) (fCons (fOp addP (fVar 10) (fTup (fCons (fC .none) fNil))) (fCons (fTup (fCons (fOp addP (fSl (fOp ixP (fVar 7) (fC (.int 0))) oN (oI (fC (.int 1)))) (fTup (fCons (fC (.int 9)) (fCons (fC (.int 9)) fNil)))) fNil)) fNil)))))) (gN 3) fYes (fRefused refN (fDef 2 m_replayed (fCons (fVar 2) (fCons (fVar 3) fNil)))) [3]) (fRep (fCons (fC (.str "call")) fNil) (fC (.int 4)))))
theorem b_law_eq : b_law = sSeq lw1 (sSeq lw2 (sSeq lw3 (sSeq lw4 (sSeq lw5 (sSeq lw6 (sSeq lw7 (sSeq lw8 (sSeq lw9 (sSeq lw10 (sSeq lw11 (sSeq lw12 (sSeq lw13 (lw14))))))))))))) := rfl
/-- what the law needs to know of a thing, whole -/
structure Whole (t : PyData) (C L : List PyData) : Prop where
  G : Good t C L
  st : Step2 t C L
  ask : ∀ v ∈ oddOf C ++ C, AskOk t C L v
  sz : ∀ xs, PyData.tuple xs ∈ C → xs.length ≤ 100
  bent : ∀ (ns : List Int) (p s q : Int), 0 ≤ p → ∃ zs p' s' q', m_Lbent [.m 0, .d t] [rowL ns p s q] = some (.ok (.d (.list zs)), [rowL ns p' s' q']) ∧ (∀ z ∈ zs, BentOk z) ∧ 0 ≤ p'
def h00 (v : Vl) : Nat → Option Vl := fun j => if j = 0 then some v else none
theorem isNot_tt : isNotP (.bool true) (.bool true) = some (.bool false) := rfl
theorem lw3_run {t : PyData} {C L : List PyData} (W : Whole t C L) (v : Vl) (x : MO) : lw3 [some v, some (.m 0), some (.d t), none, none, none, none, none, none, none, none, none, none, none, none, none, none] [x] = some (.nx, evL t C L (h00 v), [x]) := by
  have m1 := W.G.lc x
  have m2 := W.G.ls x
  unfold okD at m1 m2
  unfold lw3
  simp only [s_parN, r_def, r_cons, r_nil, r_var, rl_some, rb_ok, ro_ok, List.getElem?_cons_zero, List.getElem?_cons_succ, List.length_cons, List.length_nil, Nat.zero_add, Nat.reduceAdd, Nat.reduceLeDiff, if_true, m1, m2, setAll, List.set_cons_zero, List.set_cons_succ]
  rfl
theorem lw4_run {t : PyData} {C L : List PyData} (W : Whole t C L) (h : Nat → Option Vl) (x : MO) : lw4 (evL t C L h) [x] = some (.nx, evL t C L h, [x]) := by
  have m1 := W.G.io x
  have m2 := W.G.ca x
  have m3 := W.G.fs x
  have m4 := W.G.lf x
  unfold okD at m1 m2 m3 m4
  have a1 := alike_all W.G.plC W.G.lenC [x]
  have hp : plainN 3 (L.headD .none) = true := by
    cases hL : L with
    | nil => exact absurd hL W.G.hL
    | cons a l => exact W.G.plL a (by rw [hL]; exact List.mem_cons_self ..)
  have a2 := alike_refl 11 _ [x] (plain_le hp 8)
  unfold lw4
  simp only [s_if, s_ret, s_pass, r_or, r_not, r_fB, r_op, r_var, r_c, r_def, r_call, r_cons, r_nil, rdAll_cons, rdAll_nil, rl_some, rb_ok, ro_ok, rd_d, e2, e7, e8, bool_of, isNot_tt, tupleP, Bool.not_true, cond_true, cond_false, List.length_cons, List.length_nil, Nat.zero_add, Nat.reduceAdd, if_true, m1, m2, m3, m4, a1, a2]
theorem lw5_run {t : PyData} {C L : List PyData} (W : Whole t C L) (h : Nat → Option Vl) (x : MO) : lw5 (evL t C L h) [x] = some (.nx, evL t C L h, [x]) := by
  have m1 := W.G.sa x
  unfold okD at m1
  have a1 := alike_all W.G.plL W.G.lenL [x]
  unfold lw5
  simp only [s_if, s_ret, s_pass, r_or, r_not, r_fB, r_op, r_var, r_c, r_def, r_call, r_cons, r_nil, rdAll_cons, rdAll_nil, rl_some, rb_ok, ro_ok, rd_d, e2, e7, e8, bool_of, isNot_tt, tupleP, Bool.not_true, cond_true, cond_false, List.length_cons, List.length_nil, Nat.zero_add, Nat.reduceAdd, if_true, m1, a1]
theorem lw6_run {t : PyData} {C L : List PyData} (W : Whole t C L) (h : Nat → Option Vl) (ns : List Int) (p s q : Int) (hp : 0 ≤ p) : ∃ h' p' s' q', lw6 (evL t C L h) [rowL ns p s q] = some (.nx, evL t C L h', [rowL ns p' s' q']) ∧ 0 ≤ p' := by
  obtain ⟨zs, p', s', q', e, hz, hp'⟩ := W.bent ns p s q hp
  obtain ⟨h', el⟩ := bents_loop t C L (rowL ns p' s' q') zs h hz
  refine ⟨h', p', s', q', ?_, hp'⟩
  unfold bentBody at el
  unfold lw6
  simp only [s_for, r_items, r_def, r_cons, r_nil, r_var, rl_some, rb_ok, ro_ok, e1, e2, its_l, List.length_cons, List.length_nil, Nat.zero_add, Nat.reduceAdd, if_true, e, el]
theorem lw7_run {t : PyData} {C L : List PyData} (W : Whole t C L) (h : Nat → Option Vl) (ns : List Int) (p s q : Int) (hp : 0 ≤ p) : ∃ h' p' s' q', lw7 (evL t C L h) [rowL ns p s q] = some (.nx, evL t C L h', [rowL ns p' s' q']) ∧ 0 ≤ p' := by
  obtain ⟨h', p', s', q', el, hp'⟩ := turns W.G ns (intsL 0 8) p s q hp h
  refine ⟨h', p', s', q', ?_, hp'⟩
  have h8 : rng1P [.int 8] = some (intsL 0 8) := rng1 8 (by decide)
  unfold turnBody at el
  unfold lw7
  simp only [s_for, r_range, r_cons, r_nil, r_c, rdAll_cons, rdAll_nil, rd_d, rl_some, rb_ok, ro_ok, h8, el]
end K00
/-! part N15 -/
set_option linter.all false
set_option maxRecDepth 100000
set_option maxHeartbeats 2000000
namespace K00
open DD PySem PySem.W
theorem add_ll {xs ys : List PyData} (h : xs.length + ys.length ≤ 1000000) : addP (.list xs) (.list ys) = some (.list (xs ++ ys)) := if_pos h
theorem add_tt {xs ys : List PyData} (h : xs.length + ys.length ≤ 1000000) : addP (.tuple xs) (.tuple ys) = some (.tuple (xs ++ ys)) := if_pos h
section
variable {t : PyData} {C L : List PyData} {h : Nat → Option Vl} {w : Option Vl}
theorem e5 : (evL t C L h)[5]? = some (h 5) := rfl
theorem e10 : (evL t C L h)[10]? = some (h 10) := rfl
theorem set5 : (evL t C L h).set 5 w = evL t C L (hu h 5 w) := rfl
theorem hu_5 : hu h 5 w 5 = w := rfl
end
theorem odd_len (C : List PyData) : (oddOf C).length ≤ 11 := by
  unfold oddOf
  split
  · unfold oddC; simp
  · simp
theorem lw9_run {t : PyData} {C L : List PyData} (W : Whole t C L) (h : Nat → Option Vl) (h5 : h 5 = some (.d (.list (oddOf C)))) (x : MO) : ∃ h', lw9 (evL t C L h) [x] = some (.nx, evL t C L h', [x]) := by
  obtain ⟨h', el⟩ := ask_loop W.G x (oddOf C ++ C) h W.ask
  refine ⟨h', ?_⟩
  have hl := odd_len C
  have hc := W.G.lenC
  unfold askBody at el
  unfold lw9
  simp only [s_for, r_items, r_op, r_var, rl_some, rb_ok, ro_ok, e5, e7, h5, rd_d, add_ll (show (oddOf C).length + C.length ≤ 1000000 by omega), its_l, el]
theorem neg1 : negP (.int 1) = some (.int (-1)) := rfl
theorem lw10_run {t : PyData} {C L : List PyData} (W : Whole t C L) (h : Nat → Option Vl) (x : MO) : ∃ h', lw10 (evL t C L h) [x] = some (.nx, evL t C L h', [x]) := by
  obtain ⟨h', el⟩ := wr_loop W.G x wrongS h fun v hv => hv
  refine ⟨h', ?_⟩
  unfold wrBody at el
  have hf : (fItems (fLst (fCons (fTup (fCons (fC (.int 9)) (fCons (fC (.int 9)) fNil))) (fCons (fC (.str "x")) (fCons (fLst (fCons (fC (.int 0)) fNil)) (fCons (fUn negP (fC (.int 1))) (fCons (fC (.int 77)) (fCons (fTup (fCons (fTup fNil) fNil)) fNil)))))))) (evL t C L h) [x] = some (.ok wrongS, [x]) := rfl
  unfold lw10
  simp only [s_for, hf, ro_ok, el]
end K00
/-! part N16 -/
set_option linter.all false
set_option maxRecDepth 100000
set_option maxHeartbeats 2000000
namespace DD
open PySem
def par3 (i j k : Nat) (ev : Ev) (S : Sto) : List Vl → Option (Fl × Ev × Sto)
  | [a, b, c] => some (.nx, ((ev.set i (some a)).set j (some b)).set k (some c), S)
  | _ => none
theorem s_par3 {fs : Ev → M (List Vl)} {ev : Ev} {S : Sto} (i j k : Nat) : sPar3 i j k fs ev S = ro (fs ev S) ev fun ws S => par3 i j k ev S ws := rfl
theorem par3_ok {ev : Ev} {S : Sto} (i j k : Nat) (a b c : Vl) : par3 i j k ev S [a, b, c] = some (.nx, ((ev.set i (some a)).set j (some b)).set k (some c), S) := rfl
end DD
namespace K00
open DD PySem PySem.W
section
variable {t : PyData} {C L : List PyData} {h : Nat → Option Vl} {w : Option Vl}
theorem set10 : (evL t C L h).set 10 w = evL t C L (hu h 10 w) := rfl
theorem wipe4 : wipeE (evL t C L h) [4] = evL t C L (hu h 4 none) := rfl
end
theorem tup_nil (S : Sto) : some (Except.ok (Vl.d (PyData.tuple [])), S) = (some (.ok (.d (.tuple [])), S) : R Vl) := rfl
theorem lw11_run {t : PyData} {C L : List PyData} (W : Whole t C L) (h : Nat → Option Vl) (ns : List Int) (p s q : Int) (hp : 0 ≤ p) : ∃ made h' p' s' q', lw11 (evL t C L h) [rowL ns p s q] = some (.nx, evL t C L h', [rowL ns p' s' q']) ∧ h' 10 = some (.d (.tuple made)) ∧ h' 11 = some (.d (L.headD .none)) ∧ h' 12 = some (.d (.tuple [])) ∧ made.length ≤ 8 ∧ (∀ c ∈ made, c ∈ C) ∧ 0 ≤ p' := by
  obtain ⟨v, p1, s1, q1, h1, hv0, hv, hp1⟩ := taken [] ns p s q 9 hp (by decide) (by decide)
  obtain ⟨n, hn⟩ : ∃ n : Nat, v = (n : Int) := ⟨v.toNat, by omega⟩
  subst hn
  obtain ⟨zs, p2, s2, q2, e, hl, hz, hp2⟩ := comp_pick (T := []) (ns := ns) (ev := evL t C L (hu h 4 none)) 4 7 C W.G.neC W.G.lenC (intsL 0 n) (fun _ => rfl) (fun _ => rfl) p1 s1 q1 hp1
  rw [len_ints] at hl
  refine ⟨zs, hu (hu (hu h 10 (some (.d (.tuple zs)))) 11 (some (.d (L.headD .none)))) 12 (some (.d (.tuple []))), p2, s2, q2, ?_, rfl, rfl, rfl, by omega, hz, hp2⟩
  have hL := atI_head W.G.hL
  unfold lw11
  simp only [s_par3, par3_ok, r_cons, r_nil, r_call, r_comp, r_range, r_def, r_var, r_c, r_op, r_tup, rdAll_cons, rdAll_nil, rl_some, rb_ok, ro_ok, rd_d, e1, e7, e8, h1, rng1 n (by omega), wipe4, e, compR_some zs _ (by omega), tupleP, p_ixl, hL, dats_nil, set10, set11, set12, List.length_cons, List.length_nil, Nat.zero_add, Nat.reduceAdd, Nat.zero_le, if_true]
theorem lw12_run {t : PyData} {C L : List PyData} (h : Nat → Option Vl) (x : MO) {made bs : List PyData} {s0 s2 : PyData} (w : Walk t s0 made s2 bs) (hl : made.length ≤ 8) (h10 : h 10 = some (.d (.tuple made))) (h11 : h 11 = some (.d s0)) (h12 : h 12 = some (.d (.tuple []))) : ∃ h', lw12 (evL t C L h) [x] = some (.nx, evL t C L h', [x]) ∧ h' 10 = some (.d (.tuple made)) ∧ h' 11 = some (.d s2) ∧ h' 12 = some (.d (.tuple bs)) := by
  obtain ⟨h', el, g1, g2, g3⟩ := do_walk (C := C) (L := L) x h [] w (by rw [List.length_nil]; omega) h11 h12
  refine ⟨h', ?_, g3.trans h10, g1, g2⟩
  unfold doBody at el
  unfold lw12
  simp only [s_for, r_items, r_var, rl_some, rb_ok, ro_ok, e10, h10, its_t, el]
theorem lw13_run {t : PyData} {C L : List PyData} (W : Whole t C L) (h : Nat → Option Vl) (x : MO) {made bs : List PyData} {s2 : PyData} (w : Walk t (L.headD .none) made s2 bs) (hl : made.length ≤ 8) (hc : ∀ c ∈ made, c ∈ C) (hs : plainN 3 s2 = true) (hb : ∀ b ∈ bs, plainN 3 b = true) (hbl : bs.length ≤ 8) (h10 : h 10 = some (.d (.tuple made))) (h11 : h 11 = some (.d s2)) (h12 : h 12 = some (.d (.tuple bs))) : lw13 (evL t C L h) [x] = some (.nx, evL t C L h, [x]) := by
  have m := replayed_ok W.G w (by omega) hc x
  unfold okD at m
  have h4 : plainN 4 (.tuple bs) = true := by
    show (bs.all (plainN 3) && decide (bs.length ≤ 1000000)) = true
    rw [List.all_eq_true.mpr hb]
    simp only [Bool.true_and, decide_eq_true_eq]
    omega
  have h5 : plainN 5 (.tuple [.tuple bs, s2]) = true := by
    show ([PyData.tuple bs, s2].all (plainN 4) && decide (2 ≤ 1000000)) = true
    simp [h4, plain_up 3 s2 hs]
  have a1 := alike_refl 11 _ [x] (plain_le h5 6)
  unfold lw13
  simp only [s_if, s_ret, s_pass, r_not, r_fB, r_var, r_c, r_def, r_tup, r_cons, r_nil, rl_some, rb_ok, ro_ok, e2, e10, e11, e12, h10, h11, h12, dats_2, bool_of, Bool.not_true, cond_true, cond_false, List.length_cons, List.length_nil, Nat.zero_add, Nat.reduceAdd, Nat.reduceLeDiff, if_true, m, a1]
end K00
/-! part N17 -/
set_option linter.all false
set_option maxRecDepth 100000
set_option maxHeartbeats 2000000
namespace DD
open PySem
theorem comp_same {i : Nat} {f : Ev → M Vl} {ev : Ev} {S : Sto} {z : PyData} : ∀ {ds : List PyData}, (∀ d ∈ ds, f (ev.set i (some (.d d))) S = some (.ok (.d z), S)) → compL (gN i) fYes f ev ds S = some (List.replicate ds.length z, S)
  | [], _ => rfl
  | d :: ds, h => by
    show (match f (ev.set i (some (.d d))) S with
        | some (.ok (.d z), S2) => match compL (gN i) fYes f ev ds S2 with
          | some (zs, S3) => some (z :: zs, S3)
          | none => none
        | _ => none) = _
    rw [h d (List.mem_cons_self ..)]
    show (match compL (gN i) fYes f ev ds S with
          | some (zs, S3) => some (z :: zs, S3)
          | none => none) = _
    rw [comp_same fun d hd => h d (List.mem_cons_of_mem _ hd)]
    rfl
theorem r_sl1 {f : Ev → M Vl} {ev : Ev} {S : Sto} (k : Int) : fSl f oN (oI (fC (.int k))) ev S = rb (f ev S) fun x S1 => rb (rd x S1) fun a S2 => rl (slP none (some k) a) fun z => some (.ok (.d z), S2) := by
  unfold fSl
  rw [bind_rb]
  congr 1
  funext x S1
  show ((rd x >>= fun a => M.lift (slP none (some k) a) >>= fun z => pure (Vl.d z)) S1) = _
  rw [bind_rb]
  congr 1
  funext a S2
  cases slP none (some k) a <;> rfl
end DD
namespace K00
open DD PySem PySem.W
theorem sl_head (c : PyData) (cs : List PyData) : slP none (some 1) (.tuple (c :: cs)) = some (.tuple [c]) := by
  show some (PyData.tuple (((c :: cs).drop (HT.sIx (c :: cs).length 0 none)).take (HT.sIx (c :: cs).length (c :: cs).length (some 1) - HT.sIx (c :: cs).length 0 none))) = _
  have h0 : HT.sIx (c :: cs).length 0 none = 0 := rfl
  have h1 : HT.sIx (c :: cs).length (c :: cs).length (some 1) = 1 := by
    unfold HT.sIx
    simp
    try omega
  rw [h0, h1]
  rfl
end K00
/-! part N18 -/
set_option linter.all false
set_option maxRecDepth 100000
set_option maxHeartbeats 2000000
namespace K00
open DD PySem PySem.W
theorem eq_calls : eqP (.list [.str "call", .str "call", .str "call", .str "call"]) (.list [.str "call", .str "call", .str "call", .str "call"]) = some (.bool true) := by kernel_rfl
theorem list_t (xs : List PyData) : listP [.tuple xs] = some (.list xs) := rfl
theorem dats_4 (a b c d : PyData) : dats [.d a, .d b, .d c, .d d] = some [a, b, c, d] := rfl
section
variable {t : PyData} {C L : List PyData} {h : Nat → Option Vl} {w : Option Vl}
theorem wipe3 : wipeE (evL t C L h) [3] = evL t C L (hu h 3 none) := rfl
theorem hu_33 {u : Option Vl} : hu (hu h 3 u) 3 w 3 = w := rfl
theorem hu_3 : hu h 3 w 3 = w := rfl
end
theorem lw14_run {t : PyData} {C L : List PyData} (W : Whole t C L) (h : Nat → Option Vl) (x : MO) {made : List PyData} (hl : made.length ≤ 8) (hc : ∀ c ∈ made, c ∈ C) (h10 : h 10 = some (.d (.tuple made))) : ∃ ev, lw14 (evL t C L h) [x] = some (.rt (.d (.bool true)), ev, [x]) := by
  obtain ⟨hd, cs, C', hC⟩ := W.G.hC
  have hb : badR C = .tuple ([hd] ++ [.int 9, .int 9]) := by rw [hC]; rfl
  have h0 : L2.atI C 0 = some (.tuple (hd :: cs)) := by rw [atI_head W.G.neC, hC]; rfl
  have cm : compL (gN 3) fYes (fRefused refN (fDef 2 m_replayed (fCons (fVar 2) (fCons (fVar 3) fNil)))) (evL t C L (hu h 3 none)) [.none, .list made, .tuple (made ++ [.none]), .tuple [badR C]] [x] = some ([.str "call", .str "call", .str "call", .str "call"], [x]) := by
    refine comp_same (z := .str "call") fun d hd => ?_
    have key : m_replayed [.d t, .d d] [x] = some (.error "BadCall", [x]) := by
      have := replayed_bad W.G d x ?_
      · unfold erD at this; exact this
      · rcases List.mem_cons.mp hd with rfl | hd
        · exact check_calls_other t _ rfl x
        · rcases List.mem_cons.mp hd with rfl | hd
          · exact check_calls_other t _ rfl x
          · rcases List.mem_cons.mp hd with rfl | hd
            · exact check_calls_bad W.G made _ hc x (W.G.cn x)
            · rw [List.mem_singleton.mp hd]
              exact check_calls_bad W.G [] _ (fun c hc => by cases hc) x (W.G.cb x)
    simp only [r_refused, r_def, r_cons, r_nil, r_var, set3, e2, e3, hu_33, hu_3, rl_some, rb_ok, List.length_cons, List.length_nil, Nat.zero_add, Nat.reduceAdd, if_true, key, ref_call]
  refine ⟨evL t C L h, ?_⟩
  rw [hb] at cm
  unfold lw14
  simp only [s_ret, r_op, r_comp, r_items, r_lst, r_tup, r_cons, r_nil, r_c, r_var, r_call, r_sl1, rdAll_cons, rdAll_nil, rl_some, rb_ok, ro_ok, rd_d, e7, e10, h10, p_ixl, h0, sl_head, list_t, add_tt (show made.length + [PyData.none].length ≤ 1000000 by simp only [List.length_cons, List.length_nil]; omega), add_tt (show [hd].length + [PyData.int 9, PyData.int 9].length ≤ 1000000 by simp only [List.length_cons, List.length_nil]; omega), dats_1, dats_2, dats_4, its_l, wipe3, cm, compR_some _ _ (show [PyData.str "call", .str "call", .str "call", .str "call"].length ≤ 1000000 by decide), rep4, eq_calls, List.length_cons, List.length_nil, Nat.zero_add, Nat.reduceAdd, Nat.reduceLeDiff, if_true]
theorem lw8_run {t : PyData} {C L : List PyData} (W : Whole t C L) (h : Nat → Option Vl) (x : MO) : lw8 (evL t C L h) [x] = some (.nx, evL t C L (hu h 5 (some (.d (.list (oddOf C))))), [x]) := by
  obtain ⟨hd, cs, C', hC⟩ := W.G.hC
  have h0 : L2.atI C 0 = some (.tuple (hd :: cs)) := by rw [atI_head W.G.neC, hC]; rfl
  have hh : L2.atI (hd :: cs) 0 = some hd := atI_head (List.cons_ne_nil _ _)
  have ho : oddOf C = oddC hd cs := by rw [hC]; rfl
  have hz := W.sz (hd :: cs) (by rw [hC]; exact List.mem_cons_self ..)
  rw [ho]
  have ha : addP (.tuple (hd :: cs)) (.tuple [.int 1]) = some (.tuple (hd :: cs ++ [.int 1])) := add_tt (by simp only [List.length_cons, List.length_nil] at hz ⊢; omega)
  unfold lw8
  simp only [s_set, r_op, r_lst, r_tup, r_cons, r_nil, r_c, r_var, r_call, r_sl1, rdAll_cons, rdAll_nil, rl_some, rb_ok, ro_ok, rd_d, e7, p_ixl, p_ixt, h0, hh, sl_head, list_t, ha, dats_nil, dats_1, dats_2, dats_3, dats_4, set5, List.length_cons, List.length_nil, Nat.zero_add, Nat.zero_le, Nat.reduceAdd, Nat.reduceLeDiff, if_true]
  rfl
end K00
/-! part N19 -/
set_option linter.all false
set_option maxRecDepth 100000
set_option maxHeartbeats 2000000
namespace K00
open DD PySem PySem.W
theorem seq_nx {a b : SM} {ev ev' : Ev} {S S' : Sto} (h : a ev S = some (.nx, ev', S')) : sSeq a b ev S = b ev' S' := by rw [s_seq, h, rs_nx]
def ev1 (v : Vl) : Ev := [some v, some (.m 0), none, none, none, none, none, none, none, none, none, none, none, none, none, none, none]
def ev2 (v : Vl) (t : PyData) : Ev := [some v, some (.m 0), some (.d t), none, none, none, none, none, none, none, none, none, none, none, none, none, none]
theorem lw1_run (ns : List Int) : lw1 (startE 17 [.d (.list (ns.map PyData.int))]) [] = some (.nx, ev1 (.d (.list (ns.map PyData.int))), [rowL ns 0 16000 0]) := rfl
theorem lw2_run (v : Vl) (t : PyData) (S S' : Sto) (h : m_Lobject [.m 0] S = some (.ok (.d t), S')) : lw2 (ev1 v) S = some (.nx, ev2 v t, S') := by
  unfold lw2 ev1
  simp only [s_set, r_def, r_cons, r_nil, r_var, rl_some, rb_ok, ro_ok, List.getElem?_cons_zero, List.getElem?_cons_succ, List.length_cons, List.length_nil, Nat.zero_add, if_true, h]
  rfl
/-- the law, if all that it can draw is whole -/
theorem law_of (hW : ∀ t, (t ∈ small ∨ isBank t ∨ isTable t) → ∃ C L, Whole t C L) (ns : List Int) : ∃ ev S, b_law (startE 17 [.d (.list (ns.map PyData.int))]) [] = some (.rt (.d (.bool true)), ev, S) := by
  obtain ⟨t, p1, s1, q1, ho, ht, hp1⟩ := object ns 0 16000 0 (Int.le_refl 0)
  obtain ⟨C, L, W⟩ := hW t ht
  rw [b_law_eq, seq_nx (lw1_run ns), seq_nx (lw2_run _ t _ _ ho)]
  rw [seq_nx (show lw3 (ev2 (.d (.list (ns.map PyData.int))) t) [rowL ns p1 s1 q1] = _ from lw3_run W _ _), seq_nx (lw4_run W _ _), seq_nx (lw5_run W _ _)]
  obtain ⟨h6, p2, s2, q2, r6, hp2⟩ := lw6_run W (h00 (.d (.list (ns.map PyData.int)))) ns p1 s1 q1 hp1
  rw [seq_nx r6]
  obtain ⟨h7, p3, s3, q3, r7, hp3⟩ := lw7_run W h6 ns p2 s2 q2 hp2
  rw [seq_nx r7, seq_nx (lw8_run W h7 _)]
  obtain ⟨h9, r9⟩ := lw9_run W (hu h7 5 (some (.d (.list (oddOf C))))) rfl (rowL ns p3 s3 q3)
  rw [seq_nx r9]
  obtain ⟨h10, r10⟩ := lw10_run W h9 (rowL ns p3 s3 q3)
  rw [seq_nx r10]
  obtain ⟨made, h11, p4, s4, q4, r11, a10, a11, a12, hm, hc, hp4⟩ := lw11_run W h10 ns p3 s3 q3 hp3
  rw [seq_nx r11]
  have hL0 : L.headD .none ∈ L := by
    cases hL : L with
    | nil => exact absurd hL W.G.hL
    | cons a l => exact List.mem_cons_self ..
  obtain ⟨sx, bs, w, hsx, hbs, hbl⟩ := walk_ex W.st made (L.headD .none) hc hL0
  obtain ⟨h12, r12, b10, b11, b12⟩ := lw12_run (C := C) (L := L) h11 (rowL ns p4 s4 q4) w hm a10 a11 a12
  rw [seq_nx r12, seq_nx (lw13_run W h12 _ w hm hc (W.G.plL sx hsx) hbs (by omega) b10 b11 b12)]
  obtain ⟨ev, r14⟩ := lw14_run W h12 (rowL ns p4 s4 q4) hm hc b10
  exact ⟨ev, _, r14⟩
theorem k_sz : (rows.all fun r => r.C.all fun c => match c with | .tuple xs => decide (xs.length ≤ 100) | _ => true) = true := by kernel_rfl
theorem k_two : (rows.all fun r => match r.t with | .tuple [_, _] => true | .tuple [_, _, _] => true | _ => false) = true := by kernel_rfl
theorem whole_row (r : Row) (hr : r ∈ rows) : Whole r.t r.C r.L := by
  have G := good_row r hr
  refine ⟨G, step2_row r hr, ask_row r hr, fun xs h => ?_, fun ns p s q hp => ?_⟩
  · have := List.all_eq_true.mp (List.all_eq_true.mp k_sz r hr) _ h
    exact of_decide_eq_true this
  · obtain ⟨k, ks, ek, hb⟩ := G.bent
    have h2 := List.all_eq_true.mp k_two r hr
    rw [ek] at h2 ⊢
    match ks, h2, hb with
    | [a], _, hb =>
      obtain ⟨zs, p', s', q', e, hz, hp'⟩ := bent1 k a ns p s q hp
      exact ⟨zs, p', s', q', e, fun z h => hb z (hz z h), hp'⟩
    | [a, b], _, hb =>
      obtain ⟨zs, p', s', q', e, hz, hp'⟩ := bent2 k a b ns p s q hp
      exact ⟨zs, p', s', q', e, fun z h => hb z (hz z h), hp'⟩
theorem whole_small {t : PyData} (h : t ∈ small) : ∃ C L, Whole t C L := by
  rw [r_small] at h
  obtain ⟨r, hr, rfl⟩ := List.mem_map.mp h
  exact ⟨r.C, r.L, whole_row r hr⟩
end K00
/-! part P1 -/
set_option linter.all false
set_option maxRecDepth 100000
set_option maxHeartbeats 1000000
namespace DD
open PySem
section
variable {S T : Sto} {a b c : MO}
theorem at_k : (S ++ a :: T)[S.length]? = some a := by simp
theorem at_k1 : (S ++ a :: b :: T)[S.length + 1]? = some b := by simp [List.getElem?_append_right]
theorem set_k : (S ++ a :: T).set S.length c = S ++ c :: T := by simp [List.set_append_right]
theorem set_k1 : (S ++ a :: b :: T).set (S.length + 1) c = S ++ a :: c :: T := by simp [List.set_append_right]
theorem take_k : (S ++ T).take S.length = S := by simp
theorem app_k : (S ++ T) ++ [c] = S ++ (T ++ [c]) := List.append_assoc ..
theorem len_k1 : (S ++ [a]).length = S.length + 1 := by simp
end
def kvOf : MO → Option (List (NestedKey × PyData))
  | .k xs => some xs
  | _ => none
theorem dict_m {β : Type} (n : Nat) (S : Sto) (k : Nat × List (NestedKey × PyData) → Sto → R β) : rb (dictAt (.m n) S) k = rl (S[n]?) fun o => rl (kvOf o) fun xs => k (n, xs) S := by
  unfold dictAt
  cases h : S[n]? with
  | none => simp [h, rb, rl]
  | some o => cases o <;> simp [h, rb, rl, kvOf]
section
variable {f g h fo fi fe fd fv : Ev → M Vl} {t u : Ev → M Bool} {fs : Ev → M (List Vl)} {ev : Ev} {S : Sto} {a b : SM}
theorem r_dIn (neg : Bool) : fDIn neg fe fd ev S = rb (fe ev S) fun x S1 => rb (fd ev S1) fun y S2 => rb (dictAt y S2) fun p S3 => rl (keyFor p.2 x) fun k => some (.ok (.d (.bool (if neg then !(lookK p.2 k).isSome else (lookK p.2 k).isSome))), S3) := by
  unfold fDIn
  simp only [bind_rb, lift_r, pure_r]
theorem r_dSet : fDSet fv fd fe ev S = rb (fv ev S) fun v S1 => rl (datOf v) fun z => rb (fd ev S1) fun y S2 => rb (fe ev S2) fun x S3 => rb (dictAt y S3) fun p S4 => rl (keyFor p.2 x) fun k => if p.2.length < 1000000 then some (.ok (.d .none), S4.set p.1 (.k (putKV p.2 k z))) else none := by
  unfold fDSet
  simp only [bind_rb, lift_r]
  congr 1; funext v S1
  congr 1; funext z
  congr 1; funext y S2
  congr 1; funext x S3
  congr 1; funext p S4
  congr 1; funext k
  split <;> rfl
theorem r_disp1 : fDisp [(f, g)] ev S = rb (f ev S) fun x S1 => rb (g ev S1) fun y S2 => rl (asKV [(x, y)]) fun kvs => if kvs.length ≤ 1000 then some (.ok (.m S2.length), S2 ++ [.k (mergeKV [] kvs)]) else none := by
  unfold fDisp fPairs fPairs
  simp only [bind_rb, lift_r, pure_r, rb_rb, rb_ok]
  congr 1; funext v S1
  congr 1; funext z S2
  congr 1; funext y
  split <;> rfl
theorem r_mut1 : fMut (fCons f fNil) ev S = rb (f ev S) fun x S1 => rl (datOf x) fun d => some (.ok (.m S1.length), S1 ++ [.l [d]]) := by
  unfold fMut
  simp only [bind_rb, r_cons, r_nil, rb_rb, rb_ok, lift_r]
  congr 1; funext v S1
  cases v <;> rfl
theorem wh_step (n : Nat) : sWhile t a (n + 1) ev S = ro (t ev S) ev fun c S1 => bif c then (match a ev S1 with
      | none => none
      | some (.nx, ev2, S2) => sWhile t a n ev2 S2
      | some (.ct, ev2, S2) => sWhile t a n ev2 S2
      | some (.bk, ev2, S2) => some (.nx, ev2, S2)
      | some (.rt w, ev2, S2) => some (.rt w, ev2, S2)
      | some (.ex x, ev2, S2) => some (.ex x, ev2, S2)) else some (.nx, ev, S1) := by
  show onE (t ev) ev _ S = _
  rw [onE_r]
  congr 1
  funext c S1
  cases c <;> rfl
end
end DD
namespace K00
open DD PySem PySem.W
theorem nodup_len {α : Type} : ∀ {l U : List α}, l.Nodup → (∀ a ∈ l, a ∈ U) → l.length ≤ U.length
  | [], _, _, _ => Nat.zero_le _
  | a :: l, U, h, hs => by
    obtain ⟨s, t, rfl⟩ := List.append_of_mem (hs a (List.mem_cons_self ..))
    have hn := List.nodup_cons.mp h
    have := nodup_len (U := s ++ t) hn.2 (fun b hb => by
      have h2 := hs b (List.mem_cons_of_mem _ hb)
      rcases List.mem_append.mp h2 with h3 | h3
      · exact List.mem_append.mpr (.inl h3)
      · rcases List.mem_cons.mp h3 with rfl | h4
        · exact absurd hb hn.1
        · exact List.mem_append.mpr (.inr h4))
    simp only [List.length_append, List.length_cons] at *
    omega
/-- a search: one more state -/
def addS (found : List PyData) (n : PyData) : List PyData := if anyEq n found then found else found ++ [n]
def expand (f : PyData → PyData → PyData × PyData) (C : List PyData) (s : PyData) (found : List PyData) : List PyData := C.foldl (fun acc c => addS acc (f s c).1) found
inductive Run (f : PyData → PyData → PyData × PyData) (C : List PyData) : Nat → List PyData → List PyData → Prop
  | done {i : Nat} {found : List PyData} : found.length ≤ i → Run f C i found found
  | go {i : Nat} {found L : List PyData} {s : PyData} : found[i]? = some s → Run f C (i + 1) (expand f C s found) L → Run f C i found L
/-- a thing by its calls, states within a told list, and one pure step -/
structure Sys (t : PyData) (C U : List PyData) (s0 : PyData) (f : PyData → PyData → PyData × PyData) : Prop where
  lfirst : ∀ S : Sto, S.length ≤ 3 → m_Lfirst [.d t] S = some (.ok (.d s0), S)
  start : ∀ S : Sto, S.length ≤ 3 → m_start [.d t] S = some (.ok (.d s0), S)
  lcalls : ∀ S : Sto, S.length ≤ 3 → m_Lcalls [.d t] S = some (.ok (.d (.list C)), S)
  rows : ∀ S : Sto, S.length ≤ 3 → m_call_rows [.d t] S = some (.ok (.d (.list C)), S)
  ldo : ∀ s ∈ U, ∀ c ∈ C, ∀ S : Sto, S.length ≤ 3 → m_Ldo [.d t, .d s, .d c] S = some (.ok (.d (.tuple [(f s c).1, (f s c).2])), S)
  step : ∀ s ∈ U, ∀ c ∈ C, ∀ S : Sto, S.length ≤ 3 → m_step [.d t, .d s, .d c] S = some (.ok (.d (.tuple [(f s c).1, (f s c).2])), S)
  inU : ∀ s ∈ U, ∀ c ∈ C, (f s c).1 ∈ U
  u0 : s0 ∈ U
  eqv : ∀ a ∈ U, ∀ b ∈ U, PyData.eqv a b = true ↔ a = b
  sh : ∀ a ∈ U, SeqAt.shaped a = true
  shl : ∀ l : List PyData, (∀ a ∈ l, a ∈ U) → l.length ≤ 1000 → SeqAt.shaped (.list l) = true
  key : ∃ b, ∀ a ∈ U, ∃ k, keyN a = some k ∧ k.depth ≤ 8 ∧ isTupK k = b
  lenU : U.length ≤ 1000
section
variable {t : PyData} {C U : List PyData} {s0 : PyData} {f : PyData → PyData → PyData × PyData}
theorem any_mem (Y : Sys t C U s0 f) {found : List PyData} (hf : ∀ a ∈ found, a ∈ U) {n : PyData} (hn : n ∈ U) : anyEq n found = true ↔ n ∈ found := by
  unfold anyEq
  rw [List.any_eq_true]
  constructor
  · rintro ⟨z, hz, e⟩
    exact ((Y.eqv z (hf z hz) n hn).mp e) ▸ hz
  · intro h
    exact ⟨n, h, (Y.eqv n hn n hn).mpr rfl⟩
structure Fd (U : List PyData) (s0 : PyData) (found : List PyData) : Prop where
  sub : ∀ a ∈ found, a ∈ U
  nd : found.Nodup
  hd : found[0]? = some s0
theorem Fd.len (Y : Sys t C U s0 f) {found : List PyData} (F : Fd U s0 found) : found.length ≤ 1000 := Nat.le_trans (nodup_len F.nd F.sub) Y.lenU
theorem addS_fd (Y : Sys t C U s0 f) {found : List PyData} (F : Fd U s0 found) {n : PyData} (hn : n ∈ U) : Fd U s0 (addS found n) ∧ n ∈ addS found n ∧ ∃ more, addS found n = found ++ more := by
  unfold addS
  by_cases h : anyEq n found = true
  · rw [if_pos h]
    exact ⟨F, (any_mem Y F.sub hn).mp h, [], (List.append_nil _).symm⟩
  · rw [if_neg h]
    have hni : n ∉ found := fun hm => h ((any_mem Y F.sub hn).mpr hm)
    refine ⟨⟨fun a ha => ?_, ?_, ?_⟩, List.mem_append.mpr (.inr (List.mem_singleton.mpr rfl)), [n], rfl⟩
    · rcases List.mem_append.mp ha with h1 | h1
      · exact F.sub a h1
      · rw [List.mem_singleton.mp h1]; exact hn
    · rw [List.nodup_append]
      refine ⟨F.nd, List.nodup_cons.mpr ⟨List.not_mem_nil, List.nodup_nil⟩, fun a ha b hb e => ?_⟩
      rw [List.mem_singleton.mp hb] at e
      exact hni (e ▸ ha)
    · have := F.hd
      rw [List.getElem?_append_left]
      · exact this
      · cases found with
        | nil => cases this
        | cons x xs => exact Nat.succ_pos _
theorem expand_fd (Y : Sys t C U s0 f) {s : PyData} (hs : s ∈ U) : ∀ (cs : List PyData) (found : List PyData), (∀ c ∈ cs, c ∈ C) → Fd U s0 found → Fd U s0 (expand f cs s found) ∧ (∀ c ∈ cs, (f s c).1 ∈ expand f cs s found) ∧ ∃ more, expand f cs s found = found ++ more
  | [], found, _, F => ⟨F, fun c hc => (by cases hc), [], (List.append_nil _).symm⟩
  | c :: cs, found, hc, F => by
    obtain ⟨F1, m1, more1, e1⟩ := addS_fd Y F (Y.inU s hs c (hc c (List.mem_cons_self ..)))
    obtain ⟨F2, m2, more2, e2⟩ := expand_fd Y hs cs (addS found (f s c).1) (fun c hc' => hc c (List.mem_cons_of_mem _ hc')) F1
    refine ⟨F2, fun c' hc' => ?_, more1 ++ more2, ?_⟩
    · rcases List.mem_cons.mp hc' with rfl | h
      · show _ ∈ expand f cs s (addS found (f s c').1)
        rw [e2]
        exact List.mem_append.mpr (.inl m1)
      · exact m2 c' h
    · show expand f cs s (addS found (f s c).1) = _
      rw [e2, e1, List.append_assoc]
/-- the search ends, closed -/
theorem run_ex (Y : Sys t C U s0 f) : ∀ (n i : Nat) (found : List PyData), U.length < n + i → Fd U s0 found → (∀ j s, j < i → found[j]? = some s → ∀ c ∈ C, (f s c).1 ∈ found) → ∃ L, Run f C i found L ∧ Fd U s0 L ∧ (∀ s ∈ L, ∀ c ∈ C, (f s c).1 ∈ L)
  | 0, i, found, hn, F, hc => by
    have hl := nodup_len F.nd F.sub
    refine ⟨found, .done (by omega), F, fun s hs c hcc => ?_⟩
    obtain ⟨j, hj, e⟩ := List.getElem_of_mem hs
    exact hc j s (by omega) (e ▸ List.getElem?_eq_getElem hj) c hcc
  | n + 1, i, found, hn, F, hc => by
    by_cases hl : i < found.length
    · have hs : found[i] ∈ U := F.sub _ (List.getElem_mem hl)
      obtain ⟨F1, m1, more, e1⟩ := expand_fd Y hs C found (fun c h => h) F
      obtain ⟨L, R, FL, cl⟩ := run_ex Y n (i + 1) (expand f C found[i] found) (by omega) F1 (fun j s hj hjs c hcc => by
        by_cases hji : j = i
        · subst hji
          rw [e1, List.getElem?_append_left hl, List.getElem?_eq_getElem hl] at hjs
          cases hjs
          exact m1 c hcc
        · rw [e1, List.getElem?_append_left (by omega)] at hjs
          have := hc j s (by omega) hjs c hcc
          rw [e1]
          exact List.mem_append.mpr (.inl this))
      exact ⟨L, .go (List.getElem?_eq_getElem hl) R, FL, cl⟩
    · refine ⟨found, .done (by omega), F, fun s hs c hcc => ?_⟩
      obtain ⟨j, hj, e⟩ := List.getElem_of_mem hs
      exact hc j s (by omega) (e ▸ List.getElem?_eq_getElem hj) c hcc
end
end K00
/-! part P2 -/
set_option linter.all false
set_option maxRecDepth 100000
set_option maxHeartbeats 1000000
namespace K00
open DD PySem PySem.W
theorem addS_len (found : List PyData) (n : PyData) : found.length ≤ (addS found n).length := by
  unfold addS
  split
  · exact Nat.le_refl _
  · rw [List.length_append]; omega
theorem expand_len (f : PyData → PyData → PyData × PyData) (s : PyData) : ∀ (cs found : List PyData), found.length ≤ (expand f cs s found).length
  | [], found => Nat.le_refl _
  | c :: cs, found => Nat.le_trans (addS_len found (f s c).1) (expand_len f s cs (addS found (f s c).1))
theorem run_len {f : PyData → PyData → PyData × PyData} {C : List PyData} {i : Nat} {found L : List PyData} (R : Run f C i found L) : found.length ≤ L.length := by
  induction R with
  | done _ => exact Nat.le_refl _
  | go _ _ ih => exact Nat.le_trans (expand_len _ _ _ _) ih
def lsTest : Ev → M Bool := (fB (fOp ltP (fVar 2) (fCall lenP (fCons (fVar 1) fNil))))
def lsIn : SM := (sSeq (sSet 4 (fOp ixP (fDef 3 m_Ldo (fCons (fVar 0) (fCons (fOp ixP (fVar 1) (fVar 2)) (fCons (fVar 3) fNil)))) (fC (.int 0)))) (sIf (fB (fOp (inP true) (fVar 4) (fVar 1))) (sExpr (fAppend (fVar 1) (fVar 4))) sPass))
def lsBody : SM := sSeq (sFor (fItems (fDef 1 m_Lcalls (fCons (fVar 0) fNil))) (gN 3) lsIn) (sSet 2 (fOp addP (fVar 2) (fC (.int 1))))
def evS (t : PyData) (k i : Nat) (o3 o4 : Option Vl) : Ev := [some (.d t), some (.m k), some (.d (.int i)), o3, o4]
theorem atI_get {xs : List PyData} {i : Nat} {s : PyData} (h : xs[i]? = some s) : L2.atI xs (i : Int) = some s := by
  have hi : i < xs.length := (List.getElem?_eq_some_iff.mp h).1
  unfold L2.atI L2.ixN
  rw [if_pos (by omega), if_pos (by omega)]
  simpa using h
theorem at_pair0 {a b : PyData} : ixP (.tuple [a, b]) (.int 0) = some a := rfl
section
variable {t : PyData} {C U : List PyData} {s0 : PyData} {f : PyData → PyData → PyData × PyData}
theorem lenS1 {S : Sto} (hS : S.length ≤ 2) (a : MO) : (S ++ [a]).length ≤ 3 := by rw [List.length_append]; simp; omega
theorem lenS2 {S : Sto} (hS : S.length ≤ 1) (a b : MO) : (S ++ [a, b]).length ≤ 3 := by rw [List.length_append]; simp; omega
theorem ls_in (Y : Sys t C U s0 f) {S : Sto} (hS : S.length ≤ 2) {found : List PyData} (F : Fd U s0 found) {i : Nat} {s c : PyData} (hs : found[i]? = some s) (hc : c ∈ C) (o4 : Option Vl) :
    lsIn (evS t S.length i (some (.d c)) o4) (S ++ [.l found]) = some (.nx, evS t S.length i (some (.d c)) (some (.d (f s c).1)), S ++ [.l (addS found (f s c).1)]) := by
  have hsU : s ∈ U := F.sub _ (List.mem_of_getElem? hs)
  have hn := Y.inU s hsU c hc
  have m := Y.ldo s hsU c hc (S ++ [.l found]) (lenS1 hS _)
  have hl := F.len Y
  have hin : inP true (f s c).1 (.list found) = some (.bool (!anyEq (f s c).1 found)) := if_pos ⟨Y.sh _ hn, Y.shl _ F.sub hl⟩
  have ha := atI_get hs
  unfold lsIn evS
  cases h : anyEq (f s c).1 found with
  | true =>
    rw [h] at hin
    have ea : addS found (f s c).1 = found := if_pos h
    rw [ea]
    simp only [s_seq, s_set, s_if, s_pass, r_fB, r_op, r_def, r_cons, r_nil, r_var, r_c, rb_ok, rl_some, ro_ok, rs_nx, rd_d, rd_m, at_k, list_of, p_ixl, ha, m, at_pair0, hin, bool_of, Bool.not_true, Bool.not_false, cond_true, cond_false, List.getElem?_cons_zero, List.getElem?_cons_succ, List.set_cons_zero, List.set_cons_succ, List.length_cons, List.length_nil, Nat.zero_add, Nat.reduceAdd, if_true]
  | false =>
    rw [h] at hin
    have ea : addS found (f s c).1 = found ++ [(f s c).1] := if_neg (by rw [h]; exact Bool.false_ne_true)
    rw [ea]
    simp only [s_seq, s_set, s_if, s_expr, s_pass, r_append, mut_m, r_fB, r_op, r_def, r_cons, r_nil, r_var, r_c, rb_ok, rl_some, ro_ok, rs_nx, rd_d, rd_m, at_k, set_k, list_of, dat_of, p_ixl, ha, m, at_pair0, hin, bool_of, Bool.not_true, Bool.not_false, cond_true, cond_false, List.getElem?_cons_zero, List.getElem?_cons_succ, List.set_cons_zero, List.set_cons_succ, List.length_cons, List.length_nil, Nat.zero_add, Nat.reduceAdd, if_true, show found.length < 1000000 by omega]
theorem addS_get {found : List PyData} {i : Nat} {s : PyData} (n : PyData) (h : found[i]? = some s) : (addS found n)[i]? = some s := by
  unfold addS
  split
  · exact h
  · rw [List.getElem?_append_left (List.getElem?_eq_some_iff.mp h).1]; exact h
theorem ls_for (Y : Sys t C U s0 f) {S : Sto} (hS : S.length ≤ 2) {i : Nat} {s : PyData} : ∀ (cs found : List PyData) (o3 o4 : Option Vl), (∀ c ∈ cs, c ∈ C) → Fd U s0 found → found[i]? = some s → ∃ p3 p4, loopF (gN 3) lsIn cs (evS t S.length i o3 o4) (S ++ [.l found]) = some (.nx, evS t S.length i p3 p4, S ++ [.l (expand f cs s found)])
  | [], found, o3, o4, _, _, _ => ⟨o3, o4, rfl⟩
  | c :: cs, found, o3, o4, hc, F, hs => by
    have hcC := hc c (List.mem_cons_self ..)
    have e := ls_in Y hS F hs hcC o4
    have F1 := (addS_fd Y F (Y.inU s (F.sub _ (List.mem_of_getElem? hs)) c hcC)).1
    obtain ⟨p3, p4, e2⟩ := ls_for Y hS cs (addS found (f s c).1) (some (.d c)) (some (.d (f s c).1)) (fun c h => hc c (List.mem_cons_of_mem _ h)) F1 (addS_get _ hs)
    refine ⟨p3, p4, ?_⟩
    rw [loop_cons]
    show (match lsIn (evS t S.length i (some (.d c)) o4) (S ++ [.l found]) with
      | none => none
      | some (.nx, ev2, S2) => loopF (gN 3) lsIn cs ev2 S2
      | some (.ct, ev2, S2) => loopF (gN 3) lsIn cs ev2 S2
      | some (.bk, ev2, S2) => some (.nx, ev2, S2)
      | some (.rt w, ev2, S2) => some (.rt w, ev2, S2)
      | some (.ex x, ev2, S2) => some (.ex x, ev2, S2)) = _
    rw [e]
    exact e2
theorem ls_test {S : Sto} {found : List PyData} (i : Nat) (o3 o4 : Option Vl) : lsTest (evS t S.length i o3 o4) (S ++ [.l found]) = some (.ok (decide (i < found.length)), S ++ [.l found]) := by
  unfold lsTest evS
  simp only [r_fB, r_op, r_call, r_cons, r_nil, r_var, rb_ok, rl_some, rd_d, rd_m, rdAll_cons, rdAll_nil, at_k, list_of, p_lenl, p_lt, bool_of, List.getElem?_cons_zero, List.getElem?_cons_succ, Int.ofNat_lt]
theorem ls_body (Y : Sys t C U s0 f) {S : Sto} (hS : S.length ≤ 2) {i : Nat} {s : PyData} (found : List PyData) (o3 o4 : Option Vl) (F : Fd U s0 found) (hs : found[i]? = some s) : ∃ p3 p4, lsBody (evS t S.length i o3 o4) (S ++ [.l found]) = some (.nx, evS t S.length (i + 1) p3 p4, S ++ [.l (expand f C s found)]) := by
  obtain ⟨p3, p4, e⟩ := ls_for Y hS C found o3 o4 (fun c h => h) F hs
  refine ⟨p3, p4, ?_⟩
  have m := Y.lcalls (S ++ [.l found]) (lenS1 hS _)
  unfold evS at e
  unfold lsBody evS
  simp only [s_seq, s_for, s_set, r_items, r_op, r_def, r_cons, r_nil, r_var, r_c, rb_ok, rl_some, ro_ok, rs_nx, rd_d, its_l, m, e, p_add, List.getElem?_cons_zero, List.getElem?_cons_succ, List.set_cons_zero, List.set_cons_succ, List.length_cons, List.length_nil, Nat.zero_add, Nat.reduceAdd, if_true]
  rfl
theorem ls_while (Y : Sys t C U s0 f) {S : Sto} (hS : S.length ≤ 2) {i : Nat} {found L : List PyData} (R : Run f C i found L) : ∀ (n : Nat) (o3 o4 : Option Vl), Fd U s0 found → i ≤ found.length → L.length < n + i → ∃ j p3 p4, sWhile lsTest lsBody n (evS t S.length i o3 o4) (S ++ [.l found]) = some (.nx, evS t S.length j p3 p4, S ++ [.l L]) := by
  induction R with
  | done h =>
    intro n o3 o4 F hi hn
    rename_i i found
    obtain ⟨m, rfl⟩ : ∃ m, n = m + 1 := ⟨n - 1, by omega⟩
    refine ⟨i, o3, o4, ?_⟩
    rw [wh_step, ls_test, ro_ok, decide_eq_false (by omega)]
    rfl
  | go h R ih =>
    intro n o3 o4 F hi hn
    rename_i i found L s
    have hl : i < found.length := (List.getElem?_eq_some_iff.mp h).1
    have h1 := run_len R
    have h2 := expand_len f s C found
    obtain ⟨m, rfl⟩ : ∃ m, n = m + 1 := ⟨n - 1, by omega⟩
    obtain ⟨p3, p4, e⟩ := ls_body Y hS found o3 o4 F h
    have F1 := (expand_fd Y (F.sub _ (List.mem_of_getElem? h)) C found (fun c h => h) F).1
    obtain ⟨j, q3, q4, e2⟩ := ih m p3 p4 F1 (by omega) (by omega)
    refine ⟨j, q3, q4, ?_⟩
    rw [wh_step, ls_test, ro_ok, decide_eq_true hl, cond_true, e]
    exact e2
theorem fin_m {S : Sto} (xs : List PyData) (T : Sto) : fin S.length (.m S.length) (S ++ .l xs :: T) = some (.ok (.d (.list xs)), S) := by
  unfold fin
  simp only [Nat.lt_irrefl, if_false, at_k, take_k]
theorem fd0 (Y : Sys t C U s0 f) : Fd U s0 [s0] := ⟨fun a h => List.mem_singleton.mp h ▸ Y.u0, List.nodup_cons.mpr ⟨List.not_mem_nil, List.nodup_nil⟩, rfl⟩
theorem lstates_run (Y : Sys t C U s0 f) {L : List PyData} (R : Run f C 0 [s0] L) (FL : Fd U s0 L) {S : Sto} (hS : S.length ≤ 2) : m_Lstates [.d t] S = some (.ok (.d (.list L)), S) := by
  have hl := FL.len Y
  obtain ⟨j, p3, p4, e⟩ := ls_while Y hS R 100000 none none (fd0 Y) (Nat.zero_le _) (by omega)
  have m := Y.lfirst S (by omega)
  unfold lsTest lsBody lsIn evS at e
  rw [show ((0 : Nat) : Int) = 0 from rfl] at e
  unfold m_Lstates mDef b_Lstates
  simp only [s_seq, s_par, par2_ok, s_ret, r_mut1, r_def, r_cons, r_nil, r_var, r_c, startE, rb_ok, rl_some, ro_ok, rs_nx, dat_of, List.map, List.replicate, List.cons_append, List.nil_append, List.getElem?_cons_zero, List.getElem?_cons_succ, List.set_cons_zero, List.set_cons_succ, List.length_cons, List.length_nil, Nat.zero_add, Nat.reduceAdd, Nat.reduceSub, if_true, m]
  rw [e]
  simp only [rs_nx, r_var, List.getElem?_cons_zero, List.getElem?_cons_succ, rl_some, ro_ok, fin_m]
end
end K00
/-! part P3 -/
set_option linter.all false
set_option maxRecDepth 100000
set_option maxHeartbeats 1000000
namespace K00
open DD PySem PySem.W
def kOf (s : PyData) : NestedKey := (keyN s).getD .none
def kvsOf (found : List PyData) : List (NestedKey × PyData) := found.map fun s => (kOf s, .bool true)
def rcTest : Ev → M Bool := (fB (fOp ltP (fVar 4) (fCall lenP (fCons (fVar 2) fNil))))
def rcIn : SM := (sSeq (sSet 6 (fOp ixP (fDef 3 m_step (fCons (fVar 0) (fCons (fOp ixP (fVar 2) (fVar 4)) (fCons (fVar 5) fNil)))) (fC (.int 0)))) (sIf (fB (fDIn true (fVar 6) (fVar 3))) (sSeq (sExpr (fDSet (fC (.bool true)) (fVar 3) (fVar 6))) (sExpr (fAppend (fVar 2) (fVar 6)))) sPass))
def incP : PyData → PyData → Option PyData := fun x y => match x, y with | .int i, .int j => some (.int (i + j)) | _, _ => none
def rcBody : SM := (sSeq (sFor (fItems (fVar 1)) (gN 5) rcIn) (sSet 4 (fOp (fun x y => match x, y with | .int i, .int j => some (.int (i + j)) | _, _ => none) (fVar 4) (fC (.int 1)))))
def evQ (t : PyData) (C : List PyData) (k i : Nat) (o5 o6 : Option Vl) : Ev := [some (.d t), some (.d (.list C)), some (.m k), some (.m (k + 1)), some (.d (.int i)), o5, o6]
section
variable {t : PyData} {C U : List PyData} {s0 : PyData} {f : PyData → PyData → PyData × PyData}
theorem kOf_inj (Y : Sys t C U s0 f) {a b : PyData} (ha : a ∈ U) (hb : b ∈ U) (h : kOf a = kOf b) : a = b := by
  obtain ⟨z, hz⟩ := Y.key
  obtain ⟨k, e, _⟩ := hz a ha
  obtain ⟨l, e2, _⟩ := hz b hb
  unfold kOf at h
  rw [e, e2] at h
  have h' : k = l := h
  rw [← keyN_data e, ← keyN_data e2, h']
theorem look_some (Y : Sys t C U s0 f) {found : List PyData} (hf : ∀ a ∈ found, a ∈ U) {n : PyData} (hn : n ∈ U) : (lookK (kvsOf found) (kOf n)).isSome = anyEq n found := by
  rw [Bool.eq_iff_iff, any_mem Y hf hn]
  unfold lookK kvsOf
  rw [Option.isSome_map, List.find?_isSome]
  constructor
  · rintro ⟨p, hp, e⟩
    obtain ⟨z, hz, rfl⟩ := List.mem_map.mp hp
    exact (kOf_inj Y (hf z hz) hn (of_decide_eq_true e)) ▸ hz
  · intro h
    exact ⟨(kOf n, .bool true), List.mem_map.mpr ⟨n, h, rfl⟩, decide_eq_true rfl⟩
theorem key_for (Y : Sys t C U s0 f) {found : List PyData} (hf : ∀ a ∈ found, a ∈ U) {n : PyData} (hn : n ∈ U) : keyFor (kvsOf found) (.d n) = some (kOf n) := by
  obtain ⟨b, hb⟩ := Y.key
  obtain ⟨k, e, hd, ht⟩ := hb n hn
  have ek : kOf n = k := by unfold kOf; rw [e]; rfl
  unfold keyFor
  simp only [dat_of, e]
  rw [ek, if_pos]
  rw [Bool.and_eq_true]
  refine ⟨decide_eq_true hd, ?_⟩
  unfold flav kvsOf
  rw [List.all_eq_true]
  intro p hp
  obtain ⟨z, hz, rfl⟩ := List.mem_map.mp hp
  obtain ⟨l, e2, _, ht2⟩ := hb z (hf z hz)
  show (isTupK (kOf z) == isTupK k) = true
  have : kOf z = l := by unfold kOf; rw [e2]; rfl
  rw [this, ht, ht2]
  cases b <;> rfl
theorem put_new (Y : Sys t C U s0 f) {found : List PyData} (hf : ∀ a ∈ found, a ∈ U) {n : PyData} (hn : n ∈ U) (h : anyEq n found = false) : putKV (kvsOf found) (kOf n) (.bool true) = kvsOf (found ++ [n]) := by
  unfold putKV
  rw [if_neg]
  · unfold kvsOf
    rw [List.map_append]
    rfl
  · intro h2
    rw [List.any_eq_true] at h2
    obtain ⟨p, hp, e⟩ := h2
    unfold kvsOf at hp
    obtain ⟨z, hz, rfl⟩ := List.mem_map.mp hp
    have := kOf_inj Y (hf z hz) hn (of_decide_eq_true e)
    rw [(any_mem Y hf hn).mpr (this ▸ hz)] at h
    cases h
theorem rc_in (Y : Sys t C U s0 f) {S : Sto} (hS : S.length ≤ 1) {found : List PyData} (F : Fd U s0 found) {i : Nat} {s c : PyData} (hs : found[i]? = some s) (hc : c ∈ C) (o6 : Option Vl) :
    rcIn (evQ t C S.length i (some (.d c)) o6) (S ++ [.l found, .k (kvsOf found)]) = some (.nx, evQ t C S.length i (some (.d c)) (some (.d (f s c).1)), S ++ [.l (addS found (f s c).1), .k (kvsOf (addS found (f s c).1))]) := by
  have hsU : s ∈ U := F.sub _ (List.mem_of_getElem? hs)
  have hn := Y.inU s hsU c hc
  have m := Y.step s hsU c hc (S ++ [.l found, .k (kvsOf found)]) (lenS2 hS _ _)
  have hl := F.len Y
  have hk := key_for Y F.sub hn
  have hlk := look_some Y F.sub hn
  have ha := atI_get hs
  unfold rcIn evQ
  cases h : anyEq (f s c).1 found with
  | true =>
    rw [h] at hlk
    have ea : addS found (f s c).1 = found := if_pos h
    rw [ea]
    simp only [s_seq, s_set, s_if, s_pass, r_fB, r_dIn, dict_m, kvOf, at_k1, hk, hlk, r_op, r_def, r_cons, r_nil, r_var, r_c, rb_ok, rl_some, ro_ok, rs_nx, rd_d, rd_m, at_k, list_of, p_ixl, ha, m, at_pair0, bool_of, Bool.not_true, Bool.not_false, cond_true, cond_false, List.getElem?_cons_zero, List.getElem?_cons_succ, List.set_cons_zero, List.set_cons_succ, List.length_cons, List.length_nil, Nat.zero_add, Nat.reduceAdd, if_true]
  | false =>
    rw [h] at hlk
    have ea : addS found (f s c).1 = found ++ [(f s c).1] := if_neg (by rw [h]; exact Bool.false_ne_true)
    have hp := put_new Y F.sub hn h
    have hkl : (kvsOf found).length < 1000000 := by unfold kvsOf; rw [List.length_map]; omega
    rw [ea]
    simp only [s_seq, s_set, s_if, s_expr, s_pass, r_fB, r_dIn, r_dSet, dict_m, kvOf, at_k1, set_k1, hk, hlk, hp, hkl, r_append, mut_m, r_op, r_def, r_cons, r_nil, r_var, r_c, rb_ok, rl_some, ro_ok, rs_nx, rd_d, rd_m, at_k, set_k, list_of, dat_of, p_ixl, ha, m, at_pair0, bool_of, Bool.not_true, Bool.not_false, cond_true, cond_false, List.getElem?_cons_zero, List.getElem?_cons_succ, List.set_cons_zero, List.set_cons_succ, List.length_cons, List.length_nil, Nat.zero_add, Nat.reduceAdd, if_true, show found.length < 1000000 by omega]
theorem rc_for (Y : Sys t C U s0 f) {S : Sto} (hS : S.length ≤ 1) {i : Nat} {s : PyData} : ∀ (cs found : List PyData) (o5 o6 : Option Vl), (∀ c ∈ cs, c ∈ C) → Fd U s0 found → found[i]? = some s → ∃ p5 p6, loopF (gN 5) rcIn cs (evQ t C S.length i o5 o6) (S ++ [.l found, .k (kvsOf found)]) = some (.nx, evQ t C S.length i p5 p6, S ++ [.l (expand f cs s found), .k (kvsOf (expand f cs s found))])
  | [], found, o5, o6, _, _, _ => ⟨o5, o6, rfl⟩
  | c :: cs, found, o5, o6, hc, F, hs => by
    have hcC := hc c (List.mem_cons_self ..)
    have e := rc_in Y hS F hs hcC o6
    have F1 := (addS_fd Y F (Y.inU s (F.sub _ (List.mem_of_getElem? hs)) c hcC)).1
    obtain ⟨p5, p6, e2⟩ := rc_for Y hS cs (addS found (f s c).1) (some (.d c)) (some (.d (f s c).1)) (fun c h => hc c (List.mem_cons_of_mem _ h)) F1 (addS_get _ hs)
    refine ⟨p5, p6, ?_⟩
    rw [loop_cons]
    show (match rcIn (evQ t C S.length i (some (.d c)) o6) (S ++ [.l found, .k (kvsOf found)]) with
      | none => none
      | some (.nx, ev2, S2) => loopF (gN 5) rcIn cs ev2 S2
      | some (.ct, ev2, S2) => loopF (gN 5) rcIn cs ev2 S2
      | some (.bk, ev2, S2) => some (.nx, ev2, S2)
      | some (.rt w, ev2, S2) => some (.rt w, ev2, S2)
      | some (.ex x, ev2, S2) => some (.ex x, ev2, S2)) = _
    rw [e]
    exact e2
theorem rc_test {S : Sto} {found : List PyData} {q : MO} (i : Nat) (o5 o6 : Option Vl) : rcTest (evQ t C S.length i o5 o6) (S ++ [.l found, q]) = some (.ok (decide (i < found.length)), S ++ [.l found, q]) := by
  unfold rcTest evQ
  simp only [r_fB, r_op, r_call, r_cons, r_nil, r_var, rb_ok, rl_some, rd_d, rd_m, rdAll_cons, rdAll_nil, at_k, list_of, p_lenl, p_lt, bool_of, List.getElem?_cons_zero, List.getElem?_cons_succ, Int.ofNat_lt]
theorem rc_body (Y : Sys t C U s0 f) {S : Sto} (hS : S.length ≤ 1) {i : Nat} {s : PyData} (found : List PyData) (o5 o6 : Option Vl) (F : Fd U s0 found) (hs : found[i]? = some s) : ∃ p5 p6, rcBody (evQ t C S.length i o5 o6) (S ++ [.l found, .k (kvsOf found)]) = some (.nx, evQ t C S.length (i + 1) p5 p6, S ++ [.l (expand f C s found), .k (kvsOf (expand f C s found))]) := by
  obtain ⟨p5, p6, e⟩ := rc_for Y hS C found o5 o6 (fun c h => h) F hs
  refine ⟨p5, p6, ?_⟩
  unfold evQ at e
  unfold rcBody evQ
  simp only [s_seq, s_for, s_set, r_items, r_op, r_def, r_cons, r_nil, r_var, r_c, rb_ok, rl_some, ro_ok, rs_nx, rd_d, its_l, e, List.getElem?_cons_zero, List.getElem?_cons_succ, List.set_cons_zero, List.set_cons_succ, List.length_cons, List.length_nil, Nat.zero_add, Nat.reduceAdd, if_true]
  rfl
theorem rc_while (Y : Sys t C U s0 f) {S : Sto} (hS : S.length ≤ 1) {i : Nat} {found L : List PyData} (R : Run f C i found L) : ∀ (n : Nat) (o5 o6 : Option Vl), Fd U s0 found → i ≤ found.length → L.length < n + i → ∃ j p5 p6, sWhile rcTest rcBody n (evQ t C S.length i o5 o6) (S ++ [.l found, .k (kvsOf found)]) = some (.nx, evQ t C S.length j p5 p6, S ++ [.l L, .k (kvsOf L)]) := by
  induction R with
  | done h =>
    intro n o5 o6 F hi hn
    rename_i i found
    obtain ⟨m, rfl⟩ : ∃ m, n = m + 1 := ⟨n - 1, by omega⟩
    refine ⟨i, o5, o6, ?_⟩
    rw [wh_step, rc_test, ro_ok, decide_eq_false (by omega)]
    rfl
  | go h R ih =>
    intro n o5 o6 F hi hn
    rename_i i found L s
    have hl : i < found.length := (List.getElem?_eq_some_iff.mp h).1
    have h1 := run_len R
    have h2 := expand_len f s C found
    obtain ⟨m, rfl⟩ : ∃ m, n = m + 1 := ⟨n - 1, by omega⟩
    obtain ⟨p5, p6, e⟩ := rc_body Y hS found o5 o6 F h
    have F1 := (expand_fd Y (F.sub _ (List.mem_of_getElem? h)) C found (fun c h => h) F).1
    obtain ⟨j, q5, q6, e2⟩ := ih m p5 p6 F1 (by omega) (by omega)
    refine ⟨j, q5, q6, ?_⟩
    rw [wh_step, rc_test, ro_ok, decide_eq_true hl, cond_true, e]
    exact e2
theorem as_kv (Y : Sys t C U s0 f) : asKV [(.d s0, .d (.bool true))] = some [(kOf s0, .bool true)] := by
  obtain ⟨b, hb⟩ := Y.key
  obtain ⟨k, e, hd, ht⟩ := hb s0 Y.u0
  have ek : kOf s0 = k := by unfold kOf; rw [e]; rfl
  unfold asKV asKV
  simp only [dat_of, e, ek]
  rw [if_pos]
  rw [Bool.and_eq_true]
  exact ⟨decide_eq_true hd, rfl⟩
theorem merge1 (k : NestedKey) (d : PyData) : mergeKV [] [(k, d)] = [(k, d)] := rfl
theorem app1 {S : Sto} {a b : MO} : (S ++ [a]) ++ [b] = S ++ [a, b] := by simp
theorem b_reached_eq : b_reached = (sSeq (sSet 1 (fDef 1 m_call_rows (fCons (fVar 0) fNil))) (sSeq (sSet 2 (fMut (fCons (fDef 1 m_start (fCons (fVar 0) fNil)) fNil))) (sSeq (sSet 3 (fDisp [((fOp ixP (fVar 2) (fC (.int 0))), (fC (.bool true)))])) (sSeq (sSet 4 (fC (.int 0))) (sSeq (sWhile rcTest rcBody 100000) (sRet (fVar 2))))))) := rfl
theorem reached_run (Y : Sys t C U s0 f) {L : List PyData} (R : Run f C 0 [s0] L) (FL : Fd U s0 L) {S : Sto} (hS : S.length ≤ 1) : m_reached [.d t] S = some (.ok (.d (.list L)), S) := by
  have hl := FL.len Y
  obtain ⟨j, p5, p6, e⟩ := rc_while Y hS R 100000 none none (fd0 Y) (Nat.zero_le _) (by omega)
  have m := Y.start S (by omega)
  have m2 := Y.rows S (by omega)
  have hkv := as_kv Y
  have h1 : L2.atI [s0] 0 = some s0 := rfl
  have hkk : kvsOf [s0] = [(kOf s0, .bool true)] := rfl
  rw [hkk] at e
  unfold evQ at e
  rw [show ((0 : Nat) : Int) = 0 from rfl] at e
  unfold m_reached mDef
  rw [b_reached_eq]
  simp only [s_seq, s_set, s_ret, r_mut1, r_disp1, r_def, r_op, r_cons, r_nil, r_var, r_c, startE, rb_ok, rl_some, ro_ok, rs_nx, rd_m, rd_d, at_k, list_of, p_ixl, h1, hkv, merge1, app1, len_k1, dat_of, List.map, List.replicate, List.cons_append, List.nil_append, List.getElem?_cons_zero, List.getElem?_cons_succ, List.set_cons_zero, List.set_cons_succ, List.length_cons, List.length_nil, Nat.zero_add, Nat.reduceAdd, Nat.reduceSub, Nat.reduceLeDiff, if_true, m, m2]
  rw [e]
  simp only [rs_nx, r_var, List.getElem?_cons_zero, List.getElem?_cons_succ, rl_some, ro_ok, fin_m]
end
end K00
/-! part P4 -/
set_option linter.all false
set_option maxRecDepth 100000
set_option maxHeartbeats 1000000
namespace K00
open DD PySem PySem.W
def askL (C : List PyData) : List PyData := oddOf C ++ C ++ [.none, badR C]
/-- what a list of calls is, alone -/
structure CF (C : List PyData) : Prop where
  lenC : C.length ≤ 1000
  plC : ∀ c ∈ C, plainN 3 c = true
  one : ∀ c ∈ C, firstEq C c = some c
  hC : ∃ h cs C', C = .tuple (h :: cs) :: C'
  isin : ∀ v ∈ oddOf C ++ C, inP false v (.list C) = some (.bool (firstEq C v).isSome)
  eqs : ∀ v ∈ oddOf C ++ C, ∀ z ∈ C, eqP z v = some (.bool (PyData.eqv z v))
  self : ∀ c ∈ C, sm c c = true
  sz : ∀ xs, PyData.tuple xs ∈ C → xs.length ≤ 100
  like : ∀ v ∈ oddOf C, ∀ z, firstEq C v = some z → ∀ x, m_Lalike 12 [.d v, .d z] [x] = okD x (.bool (sm v z))
  same : ∀ v ∈ askL C, ∀ c ∈ C, ∀ x, m_same 12 [.d c, .d v] [x] = okD x (.bool (sm c v))
  any : ∀ v ∈ askL C, C.any (fun c => sm c v) = goodC C v
  bn : goodC C .none = false
  bb : goodC C (badR C) = false
structure Parts (t : PyData) (C U : List PyData) (s0 : PyData) (f : PyData → PyData → PyData × PyData) : Prop where
  Y : Sys t C U s0 f
  cf : CF C
  form : ∀ x, m_has_form [.d t] [x] = okD x (.bool true)
  lform : ∀ x, m_Lis_object [.d t] [x] = okD x (.bool true)
  pl : ∀ s ∈ U, plainN 3 s = true
  pla : ∀ s ∈ U, ∀ c ∈ C, plainN 3 (f s c).2 = true
  st : ∀ L, (∀ S : Sto, S.length ≤ 1 → m_reached [.d t] S = some (.ok (.d (.list L)), S)) → Fd U s0 L → (∀ s ∈ L, ∀ x, m_has_state [.d t, .d s] [x] = okD x (.bool true)) ∧ ∀ v ∈ wrongS, ∀ x, m_has_state [.d t, .d v] [x] = okD x (.bool false)
  bent : ∃ k a, t = .tuple [k, a] ∧ (k = .str "bank" ∨ k = .str "table")
/-- a comprehension that maps -/
theorem comp_map {i : Nat} {f : Ev → M Vl} {ev : Ev} {S : Sto} {g : PyData → PyData} : ∀ {ds : List PyData}, (∀ d ∈ ds, f (ev.set i (some (.d d))) S = some (.ok (.d (g d)), S)) → compL (gN i) fYes f ev ds S = some (ds.map g, S)
  | [], _ => rfl
  | d :: ds, h => by
    show (match f (ev.set i (some (.d d))) S with | some (.ok (.d z), S2) => (match compL (gN i) fYes f ev ds S2 with | some (zs, S3) => some (z :: zs, S3) | none => none) | _ => none) = _
    rw [h d (List.mem_cons_self ..)]
    show (match compL (gN i) fYes f ev ds S with | some (zs, S3) => some (g d :: zs, S3) | none => none) = _
    rw [comp_map fun d hd => h d (List.mem_cons_of_mem _ hd)]
    rfl
theorem bools_map (ds : List PyData) (g : PyData → Bool) : boolsD (ds.map fun d => .bool (g d)) = some (ds.map g) := by
  induction ds with
  | nil => rfl
  | cons d ds ih => simp only [List.map_cons, boolsD, ih]; rfl
theorem any_map (ds : List PyData) (g : PyData → Bool) : anyP [.list (ds.map fun d => .bool (g d))] = some (.bool (ds.any g)) := by
  show (boolsD (ds.map fun d => .bool (g d))).map (fun bs => PyData.bool (bs.any id)) = _
  rw [bools_map]
  simp only [Option.map, List.any_map]
  rfl
theorem all_map (ds : List PyData) (g : PyData → Bool) : allP [.list (ds.map fun d => .bool (g d))] = some (.bool (ds.all g)) := by
  show (boolsD (ds.map fun d => .bool (g d))).map (fun bs => PyData.bool (bs.all id)) = _
  rw [bools_map]
  simp only [Option.map, List.all_map]
  rfl
theorem has_call_run {t : PyData} {C : List PyData} (x : MO) (hr : m_call_rows [.d t] [x] = okD x (.list C)) (hl : C.length ≤ 1000) (v : PyData) (g : PyData → Bool) (hs : ∀ c ∈ C, m_same 12 [.d c, .d v] [x] = okD x (.bool (g c))) : m_has_call [.d t, .d v] [x] = okD x (.bool (C.any g)) := by
  unfold okD at hr
  have hw : wipeE [some (.d t), some (.d v), none] [2] = [some (.d t), some (.d v), none] := rfl
  have hc : compL (gN 2) fYes (fDef 2 (m_same 12) (fCons (fVar 2) (fCons (fVar 1) fNil))) [some (.d t), some (.d v), none] C [x] = some (C.map fun c => .bool (g c), [x]) := by
    refine comp_map (g := fun c => .bool (g c)) fun d hd => ?_
    have h := hs d hd
    unfold okD at h
    simp only [r_def, r_cons, r_nil, r_var, rb_ok, rl_some, List.set_cons_zero, List.set_cons_succ, List.getElem?_cons_zero, List.getElem?_cons_succ, List.length_cons, List.length_nil, Nat.zero_add, Nat.reduceAdd, if_true, h]
  unfold m_has_call mDef b_has_call okD
  simp only [s_ret, r_call, r_comp, r_items, r_def, r_cons, r_nil, r_var, startE, rdAll_cons, rdAll_nil, rb_ok, rl_some, ro_ok, rd_d, its_l, hw, hc, compR_some _ _ (show (C.map fun c => PyData.bool (g c)).length ≤ 1000000 by rw [List.length_map]; omega), any_map, hr, List.map_cons, List.map_nil, List.replicate, List.cons_append, List.nil_append, List.getElem?_cons_zero, List.getElem?_cons_succ, List.length_cons, List.length_nil, Nat.zero_add, Nat.reduceAdd, Nat.reduceSub, if_true, fin_d, List.take_succ_cons, List.take_zero]
section
variable {t v s c : PyData} {x : MO}
theorem co_of (h : m_has_form [.d t] [x] = okD x (.bool true)) : m_check_object [.d t] [x] = okD x .none := by
  unfold okD at h
  unfold m_check_object mDef b_check_object okD
  simp only [s_if, s_pass, r_not, r_fB, r_def, r_cons, r_nil, r_var, startE, rb_ok, rl_some, ro_ok, bool_of, Bool.not_true, cond_false, h, List.map, List.replicate, List.cons_append, List.nil_append, List.getElem?_cons_zero, List.length_cons, List.length_nil, Nat.zero_add, Nat.sub_self, if_true, fin_d, List.take_succ_cons, List.take_zero]
theorem io_of (h : m_has_form [.d t] [x] = okD x (.bool true)) : m_is_object [.d t] [x] = okD x (.bool true) := by
  unfold okD at h
  unfold m_is_object mDef b_is_object okD
  simp only [s_ret, r_def, r_cons, r_nil, r_var, startE, rb_ok, rl_some, ro_ok, h, List.map, List.replicate, List.cons_append, List.nil_append, List.getElem?_cons_zero, List.length_cons, List.length_nil, Nat.zero_add, Nat.sub_self, if_true, fin_d, List.take_succ_cons, List.take_zero]
theorem cc_of {g : Bool} (h : m_has_call [.d t, .d v] [x] = okD x (.bool g)) : m_check_call [.d t, .d v] [x] = if g then okD x .none else erD x "BadCall" := by
  unfold okD at h
  unfold m_check_call mDef b_check_call okD erD
  cases g <;>
  simp only [s_if, s_pass, s_raise, r_not, r_fB, r_def, r_cons, r_nil, r_var, startE, rb_ok, rl_some, ro_ok, bool_of, Bool.not_true, Bool.not_false, cond_false, cond_true, h, List.map, List.replicate, List.cons_append, List.nil_append, List.getElem?_cons_zero, List.getElem?_cons_succ, List.length_cons, List.length_nil, Nat.zero_add, Nat.reduceAdd, Nat.sub_self, if_true, if_false, Bool.false_eq_true, fin_d, List.take_succ_cons, List.take_zero]
theorem cs_of {g : Bool} (h : m_has_state [.d t, .d v] [x] = okD x (.bool g)) : m_check_state [.d t, .d v] [x] = if g then okD x .none else erD x "BadState" := by
  unfold okD at h
  unfold m_check_state mDef b_check_state okD erD
  cases g <;>
  simp only [s_if, s_pass, s_raise, r_not, r_fB, r_def, r_cons, r_nil, r_var, startE, rb_ok, rl_some, ro_ok, bool_of, Bool.not_true, Bool.not_false, cond_false, cond_true, h, List.map, List.replicate, List.cons_append, List.nil_append, List.getElem?_cons_zero, List.getElem?_cons_succ, List.length_cons, List.length_nil, Nat.zero_add, Nat.reduceAdd, Nat.sub_self, if_true, if_false, Bool.false_eq_true, fin_d, List.take_succ_cons, List.take_zero]
theorem ic_of {g : Bool} (h1 : m_check_object [.d t] [x] = okD x .none) (h : m_has_call [.d t, .d v] [x] = okD x (.bool g)) : m_is_call [.d t, .d v] [x] = okD x (.bool g) := by
  unfold okD at h h1
  unfold m_is_call mDef b_is_call okD
  simp only [s_seq, s_expr, s_ret, r_def, r_cons, r_nil, r_var, startE, rb_ok, rl_some, ro_ok, rs_nx, h, h1, List.map, List.replicate, List.cons_append, List.nil_append, List.getElem?_cons_zero, List.getElem?_cons_succ, List.length_cons, List.length_nil, Nat.zero_add, Nat.reduceAdd, Nat.sub_self, if_true, fin_d, List.take_succ_cons, List.take_zero]
theorem ap_of {w : PyData} (h1 : m_check_object [.d t] [x] = okD x .none) (h2 : m_check_state [.d t, .d s] [x] = okD x .none) (h3 : m_check_call [.d t, .d c] [x] = okD x .none) (h4 : m_step [.d t, .d s, .d c] [x] = okD x w) : m_applied [.d t, .d s, .d c] [x] = okD x w := by
  unfold okD at h1 h2 h3 h4
  unfold m_applied mDef b_applied okD
  simp only [s_seq, s_expr, s_ret, r_def, r_cons, r_nil, r_var, startE, rb_ok, rl_some, ro_ok, rs_nx, h1, h2, h3, h4, List.map, List.replicate, List.cons_append, List.nil_append, List.getElem?_cons_zero, List.getElem?_cons_succ, List.length_cons, List.length_nil, Nat.zero_add, Nat.reduceAdd, Nat.sub_self, if_true, fin_d, List.take_succ_cons, List.take_zero]
theorem ap_state (h1 : m_check_object [.d t] [x] = okD x .none) (h2 : m_check_state [.d t, .d s] [x] = erD x "BadState") : m_applied [.d t, .d s, .d c] [x] = erD x "BadState" := by
  unfold okD at h1
  unfold erD at h2
  unfold m_applied mDef b_applied erD
  simp only [s_seq, s_expr, s_ret, r_def, r_cons, r_nil, r_var, startE, rb_ok, rl_some, ro_ok, ro_err, rs_nx, rs_ex, h1, h2, List.map, List.replicate, List.cons_append, List.nil_append, List.getElem?_cons_zero, List.getElem?_cons_succ, List.length_cons, List.length_nil, Nat.zero_add, Nat.reduceAdd, Nat.sub_self, if_true, fin_d, List.take_succ_cons, List.take_zero]
theorem ap_call (h1 : m_check_object [.d t] [x] = okD x .none) (h2 : m_check_state [.d t, .d s] [x] = okD x .none) (h3 : m_check_call [.d t, .d c] [x] = erD x "BadCall") : m_applied [.d t, .d s, .d c] [x] = erD x "BadCall" := by
  unfold okD at h1 h2
  unfold erD at h3
  unfold m_applied mDef b_applied erD
  simp only [s_seq, s_expr, s_ret, r_def, r_cons, r_nil, r_var, startE, rb_ok, rl_some, ro_ok, ro_err, rs_nx, rs_ex, h1, h2, h3, List.map, List.replicate, List.cons_append, List.nil_append, List.getElem?_cons_zero, List.getElem?_cons_succ, List.length_cons, List.length_nil, Nat.zero_add, Nat.reduceAdd, Nat.sub_self, if_true, fin_d, List.take_succ_cons, List.take_zero]
theorem ca_of {C : List PyData} (h1 : m_check_object [.d t] [x] = okD x .none) (h2 : m_call_rows [.d t] [x] = okD x (.list C)) : m_calls [.d t] [x] = okD x (.tuple C) := by
  unfold okD at h1 h2
  unfold m_calls mDef b_calls okD
  simp only [s_seq, s_expr, s_ret, r_call, r_def, r_cons, r_nil, r_var, rdAll_cons, rdAll_nil, rd_d, tupleP, startE, rb_ok, rl_some, ro_ok, rs_nx, h1, h2, List.map, List.replicate, List.cons_append, List.nil_append, List.getElem?_cons_zero, List.getElem?_cons_succ, List.length_cons, List.length_nil, Nat.zero_add, Nat.reduceAdd, Nat.sub_self, if_true, fin_d, List.take_succ_cons, List.take_zero]
theorem sa_of {C : List PyData} (h1 : m_check_object [.d t] [x] = okD x .none) (h2 : m_reached [.d t] [x] = okD x (.list C)) : m_states [.d t] [x] = okD x (.tuple C) := by
  unfold okD at h1 h2
  unfold m_states mDef b_states okD
  simp only [s_seq, s_expr, s_ret, r_call, r_def, r_cons, r_nil, r_var, rdAll_cons, rdAll_nil, rd_d, tupleP, startE, rb_ok, rl_some, ro_ok, rs_nx, h1, h2, List.map, List.replicate, List.cons_append, List.nil_append, List.getElem?_cons_zero, List.getElem?_cons_succ, List.length_cons, List.length_nil, Nat.zero_add, Nat.reduceAdd, Nat.sub_self, if_true, fin_d, List.take_succ_cons, List.take_zero]
theorem fs_of (h1 : m_check_object [.d t] [x] = okD x .none) (h2 : m_start [.d t] [x] = okD x s) : m_first_state [.d t] [x] = okD x s := by
  unfold okD at h1 h2
  unfold m_first_state mDef b_first_state okD
  simp only [s_seq, s_expr, s_ret, r_def, r_cons, r_nil, r_var, startE, rb_ok, rl_some, ro_ok, rs_nx, h1, h2, List.map, List.replicate, List.cons_append, List.nil_append, List.getElem?_cons_zero, List.getElem?_cons_succ, List.length_cons, List.length_nil, Nat.zero_add, Nat.reduceAdd, Nat.sub_self, if_true, fin_d, List.take_succ_cons, List.take_zero]
end
end K00
/-! part P5 -/
set_option linter.all false
set_option maxRecDepth 100000
set_option maxHeartbeats 1000000
namespace K00
open DD PySem PySem.W
/-- bent things of one payload -/
theorem bent3 (k a : PyData) (hk : k = .str "bank" ∨ k = .str "table") : ∀ v ∈ [PyData.list [k, a], .tuple [k, a, .int 1], .tuple [k]], BentOk v := by
  intro v hv
  refine ⟨false, ?_⟩
  simp only [List.mem_cons, List.not_mem_nil, or_false] at hv
  rcases hk with rfl | rfl <;> rcases hv with rfl | rfl | rfl <;> exact ⟨fun x => ⟨by kernel_rfl, by kernel_rfl⟩, fun _ x => ⟨by kernel_rfl, by kernel_rfl, by kernel_rfl, by kernel_rfl⟩⟩
theorem bents_kind (k : PyData) (hk : k = .str "bank" ∨ k = .str "table") : ∀ v ∈ bentK k, BentOk v := by
  intro v hv
  refine bent_ok (List.mem_append.mpr (.inl (List.mem_flatMap.mpr ⟨k, ?_, hv⟩)))
  rcases hk with rfl | rfl <;> simp [kinds]
theorem whole_of {t : PyData} {C U : List PyData} {s0 : PyData} {f : PyData → PyData → PyData × PyData} (P : Parts t C U s0 f) : ∃ L, Whole t C L := by
  have Y := P.Y
  obtain ⟨L, R, FL, cl⟩ := run_ex Y (U.length + 1) 0 [s0] (by omega) (fd0 Y) (fun j s hj => absurd hj (Nat.not_lt_zero _))
  have hre : ∀ S : Sto, S.length ≤ 1 → m_reached [.d t] S = some (.ok (.d (.list L)), S) := fun S hS => reached_run Y R FL hS
  obtain ⟨st, wr⟩ := P.st L hre FL
  have hd : L.headD .none = s0 := by
    have := FL.hd
    cases L with
    | nil => cases this
    | cons a l => exact Option.some.inj this
  have hne : L ≠ [] := by
    intro e
    have := FL.hd
    rw [e] at this
    cases this
  have hL0 : L.headD .none ∈ L := by
    cases L with
    | nil => exact absurd rfl hne
    | cons a l => exact List.mem_cons_self ..
  have co : ∀ x, m_check_object [.d t] [x] = okD x .none := fun x => co_of (P.form x)
  have hcall : ∀ v ∈ askL C, ∀ x, m_has_call [.d t, .d v] [x] = okD x (.bool (goodC C v)) := fun v hv x => by
    rw [← P.cf.any v hv]
    exact has_call_run x (Y.rows [x] (by simp)) P.cf.lenC v _ fun c hc => P.cf.same v hv c hc x
  have inC : ∀ c ∈ C, c ∈ askL C := fun c hc => List.mem_append.mpr (.inl (List.mem_append.mpr (.inr hc)))
  have inO : ∀ c ∈ oddOf C, c ∈ askL C := fun c hc => List.mem_append.mpr (.inl (List.mem_append.mpr (.inl hc)))
  have inN : PyData.none ∈ askL C := List.mem_append.mpr (.inr (List.mem_cons_self ..))
  have inB : badR C ∈ askL C := List.mem_append.mpr (.inr (List.mem_cons_of_mem _ (List.mem_cons_self ..)))
  have gC : ∀ c ∈ C, goodC C c = true := fun c hc => by unfold goodC; rw [P.cf.one c hc]; exact P.cf.self c hc
  have cs : ∀ s ∈ L, ∀ x, m_check_state [.d t, .d s] [x] = okD x .none := fun s hs x => by
    have := cs_of (st s hs x)
    rwa [if_pos rfl] at this
  have ccg : ∀ v ∈ askL C, goodC C v = true → ∀ x, m_check_call [.d t, .d v] [x] = okD x .none := fun v hv g x => by
    have := cc_of (hcall v hv x)
    rwa [if_pos g] at this
  have ccb : ∀ v ∈ askL C, goodC C v = false → ∀ x, m_check_call [.d t, .d v] [x] = erD x "BadCall" := fun v hv g x => by
    have := cc_of (hcall v hv x)
    rwa [if_neg (by rw [g]; exact Bool.false_ne_true)] at this
  have ic : ∀ v ∈ askL C, ∀ x, m_is_call [.d t, .d v] [x] = okD x (.bool (goodC C v)) := fun v hv x => ic_of (co x) (hcall v hv x)
  have apb : ∀ v ∈ askL C, goodC C v = false → ∀ x, m_applied [.d t, .d (L.headD .none), .d v] [x] = erD x "BadCall" := fun v hv g x => ap_call (co x) (cs _ hL0 x) (ccb v hv g x)
  have hsU : ∀ s ∈ L, s ∈ U := FL.sub
  have io : ∀ x, m_is_object [.d t] [x] = okD x (.bool true) := fun x => io_of (P.form x)
  obtain ⟨k, a, et, hk⟩ := P.bent
  have B : ∀ v ∈ bentC k [a], BentOk v := by
    intro v hv
    rw [bents_split] at hv
    rcases List.mem_append.mp hv with h | h
    · have h' : v = .tuple [k, a] ∨ v ∈ [PyData.list [k, a], .tuple [k, a, .int 1], .tuple [k]] := by
        have e : (bentC k [a]).take 4 = .tuple [k, a] :: [PyData.list [k, a], .tuple [k, a, .int 1], .tuple [k]] := rfl
        rw [e] at h
        exact List.mem_cons.mp h
      rcases h' with rfl | h'
      · rw [← et]
        exact ⟨true, fun x => ⟨io x, P.lform x⟩, fun h => by cases h⟩
      · exact K00.bent3 k a hk v h'
    · exact bents_kind k hk v h
  refine ⟨L, ⟨?_, ?_, ?_, P.cf.sz, ?_⟩⟩
  · refine { lc := fun x => Y.lcalls [x] (by simp), ls := fun x => lstates_run Y R FL (S := [x]) (by simp), io := io, ca := fun x => ca_of (co x) (Y.rows [x] (by simp)), sa := fun x => sa_of (co x) (hre [x] (by simp)), fs := fun x => by rw [hd]; exact fs_of (co x) (Y.start [x] (by simp)), lf := fun x => by rw [hd]; exact Y.lfirst [x] (by simp), start := fun x => by rw [hd]; exact Y.start [x] (by simp), co := co, hL := hne, lenC := P.cf.lenC, lenL := FL.len Y, plC := P.cf.plC, plL := fun s hs => P.pl s (hsU s hs), step := ?_, ic := fun c hc x => by rw [← gC c hc]; exact ic c (inC c hc) x, cc := fun c hc x => ccg c (inC c hc) (gC c hc) x, one := P.cf.one, hC := P.cf.hC, odd := fun v hv x => ⟨ic v (inO v hv) x, fun g => apb v (inO v hv) g x, fun z hz => P.cf.like v hv z hz x⟩, oddIn := fun v hv => P.cf.isin v (List.mem_append.mpr (.inl hv)), wr := fun v hv x => ap_state (co x) (by have := cs_of (wr v hv x); rwa [if_neg Bool.false_ne_true] at this), cn := fun x => ccb _ inN P.cf.bn x, cb := fun x => ccb _ inB P.cf.bb x, bent := ⟨k, [a], et, B⟩ }
    intro s hs c hc
    refine ⟨(f s c).1, (f s c).2, cl s hs c hc, P.pla s (hsU s hs) c hc, fun x => ?_⟩
    have h1 := Y.step s (hsU s hs) c hc [x] (by simp)
    have h2 := Y.ldo s (hsU s hs) c hc [x] (by simp)
    exact ⟨ap_of (co x) (cs s hs x) (ccg c (inC c hc) (gC c hc) x) h1, h2, h1⟩
  · intro s hs c hc
    exact ⟨(f s c).1, (f s c).2, cl s hs c hc, P.pla s (hsU s hs) c hc, fun x => Y.ldo s (hsU s hs) c hc [x] (by simp), fun x y => Y.step s (hsU s hs) c hc [x, y] (by simp)⟩
  · intro v hv
    have hv' : v ∈ askL C := List.mem_append.mpr (.inl hv)
    refine ⟨P.cf.isin v hv, P.cf.eqs v hv, ic v hv', fun g x => apb v hv' g x, fun z hz x => ?_⟩
    rcases List.mem_append.mp hv with h | h
    · exact P.cf.like v h z hz x
    · have e1 := P.cf.one v h
      rw [hz] at e1
      have e2 : z = v := Option.some.inj e1
      subst e2
      have := alike_refl 11 z [x] (plain_le (P.cf.plC z h) 8)
      rw [P.cf.self z h]
      exact this
  · intro ns p s q hp
    subst et
    obtain ⟨zs, p', s', q', e, hz, hp'⟩ := bent1 k a ns p s q hp
    exact ⟨zs, p', s', q', e, fun z h => B z (hz z h), hp'⟩
end K00
/-! part P6 -/
set_option linter.all false
set_option maxRecDepth 100000
set_option maxHeartbeats 4000000
namespace DD
open PySem
section
variable {f g h fo fi fe fd fv : Ev → M Vl} {t u : Ev → M Bool} {fs : Ev → M (List Vl)} {ev : Ev} {S : Sto} {a b : SM}
def seqOf : List PyData → Option (List PyData)
  | [.list xs] => some xs
  | [.tuple xs] => some xs
  | _ => none
theorem r_mutL : fMutL fs ev S = rb (fs ev S) fun ws S1 => rb (rdAll ws S1) fun ds S2 => rl (seqOf ds) fun xs => some (.ok (.m S2.length), S2 ++ [.l xs]) := by
  unfold fMutL
  simp only [bind_rb]
  congr 1; funext ws S1
  congr 1; funext ds S2
  rcases ds with _ | ⟨d, _ | ⟨e, l⟩⟩
  · rfl
  · cases d <;> rfl
  · cases d <;> rfl
theorem r_putOp {p : PyData → PyData → Option PyData} : fPutOp p fo fi fe ev S = rb (fo ev S) fun x S1 => rb (fi ev S1) fun k S2 => rl (intOf k) fun k => rb (mutAt x S2) fun q S3 => rl (if 0 ≤ k then q.2[k.toNat]? else none) fun old => rb (fe ev S3) fun y S4 => rb (rd y S4) fun b S5 => rl (p old b) fun z => rb (mutAt x S5) fun q S6 => rl (L2.ixN q.2.length k) fun j => some (.ok (.d .none), S6.set q.1 (.l (q.2.set j z))) := by
  unfold fPutOp
  simp only [bind_rb, lift_r]
  rfl
def tabOf (tb : List (Str × Str)) : Vl → Option Str
  | .d (.str z) => tb.lookup z
  | _ => none
theorem r_tab (tb : List (Str × Str)) : fTab tb f ev S = rb (f ev S) fun y S1 => rl (tabOf tb y) fun g => some (.ok (.f g), S1) := by
  unfold fTab
  simp only [bind_rb]
  congr 1; funext y S1
  cases y with
  | d x =>
    cases x with
    | str z =>
      show (match tb.lookup z with | some g => pure (.f g) | none => M.fail : M Vl) S1 = rl (tb.lookup z) fun g => some (.ok (.f g), S1)
      cases h : tb.lookup z <;> simp only [rl] <;> rfl
    | _ => rfl
  | _ => rfl
def fnOf (vt : List (Str × Nat × (List Vl → M Vl))) : Vl → Option (Nat × (List Vl → M Vl))
  | .f g => vlook vt g
  | _ => none
theorem r_callV (i : Nat) (vt : List (Str × Nat × (List Vl → M Vl))) : fCallV i vt fs ev S = rb (fVar i ev S) fun w S1 => rl (fnOf vt w) fun p => rb (fs ev S1) fun ws S2 => if ws.length = p.1 then p.2 ws S2 else none := by
  unfold fCallV
  simp only [bind_rb]
  congr 1; funext y S1
  cases y with
  | f g =>
    show (match vlook vt g with | some (n, m) => (do let ws ← fs ev; if ws.length = n then m ws else M.fail) | none => M.fail : M Vl) S1 = rl (vlook vt g) fun p => rb (fs ev S1) fun ws S2 => if ws.length = p.1 then p.2 ws S2 else none
    cases h : vlook vt g with
    | none => rfl
    | some p =>
      obtain ⟨n, m⟩ := p
      show ((fs ev >>= fun ws => if ws.length = n then m ws else M.fail) : M Vl) S1 = rb (fs ev S1) fun ws S2 => if ws.length = n then m ws S2 else none
      rw [bind_rb]
      congr 1; funext ws S2
      split <;> rfl
  | _ => rfl
def asgT (o : Option Ev) (k : Ev → Option (Fl × Ev × Sto)) : Option (Fl × Ev × Sto) := match o with
  | some ev => k ev
  | none => none
def clL (r : R Vl) (k : PyData → Sto → Option (List PyData × Sto)) : Option (List PyData × Sto) := match r with
  | some (.ok (.d z), S2) => k z S2
  | _ => none
theorem clL_ok (z : PyData) (S : Sto) (k : PyData → Sto → Option (List PyData × Sto)) : clL (some (.ok (.d z), S)) k = k z S := rfl
def cl2 (r : Option (List PyData × Sto)) (k : List PyData → Sto → Option (List PyData × Sto)) : Option (List PyData × Sto) := match r with
  | some (zs, S3) => k zs S3
  | none => none
theorem cl2_ok (z : List PyData) (S : Sto) (k : List PyData → Sto → Option (List PyData × Sto)) : cl2 (some (z, S)) k = k z S := rfl
theorem comp_consY (i : Nat) (d : PyData) (ds : List PyData) : compL (gN i) fYes f ev (d :: ds) S = clL (f (ev.set i (some (.d d))) S) fun z S2 => cl2 (compL (gN i) fYes f ev ds S2) fun zs S3 => some (z :: zs, S3) := rfl
theorem comp_nilY (i : Nat) : compL (gN i) t f ev [] S = some ([], S) := rfl
theorem fin_d0 (x : PyData) (S T : Sto) : fin S.length (.d x) (S ++ T) = some (.ok (.d x), S) := by show some (_, (S ++ T).take S.length) = _; rw [take_k]
theorem fin_d1 (x : PyData) (S : Sto) : fin S.length (.d x) S = some (.ok (.d x), S) := by show some (_, S.take S.length) = _; rw [List.take_length]
end
end DD
/-! part P7 -/
set_option linter.all false
set_option maxRecDepth 100000
set_option maxHeartbeats 4000000
namespace K00
open DD PySem PySem.W
theorem tab_bank : tab_STEPS.lookup ("bank" : Str) = some ("_bank_step" : Str) := rfl
theorem wipe_1 (ev : Ev) (i : Nat) : wipeE ev [i] = ev.set i none := rfl
theorem compR_ok (zs : List PyData) (S : Sto) : compR (some (zs, S)) = if zs.length ≤ 1000000 then some (.ok (.d (.list zs)), S) else none := rfl
theorem int_t : intP [.bool true] = some (.int 1) := rfl
theorem int_f : intP [.bool false] = some (.int 0) := rfl
theorem rngc2 : rng1P [.int ((2 : Nat) : Int)] = some [.int 0, .int 1] := rfl
theorem rngc3 : rng1P [.int ((3 : Nat) : Int)] = some [.int 0, .int 1, .int 2] := rfl
theorem a2_0 {a b : PyData} : L2.atI [a, b] 0 = some a := rfl
theorem a2_1 {a b : PyData} : L2.atI [a, b] 1 = some b := rfl
theorem a3_0 {a b c : PyData} : L2.atI [a, b, c] 0 = some a := rfl
theorem a3_1 {a b c : PyData} : L2.atI [a, b, c] 1 = some b := rfl
theorem a3_2 {a b c : PyData} : L2.atI [a, b, c] 2 = some c := rfl
theorem a4_0 {a b c d : PyData} : L2.atI [a, b, c, d] 0 = some a := rfl
theorem a4_1 {a b c d : PyData} : L2.atI [a, b, c, d] 1 = some b := rfl
theorem a4_2 {a b c d : PyData} : L2.atI [a, b, c, d] 2 = some c := rfl
theorem a4_3 {a b c d : PyData} : L2.atI [a, b, c, d] 3 = some d := rfl
theorem i2_0 : L2.ixN 2 0 = some 0 := rfl
theorem i2_1 : L2.ixN 2 1 = some 1 := rfl
theorem i3_0 : L2.ixN 3 0 = some 0 := rfl
theorem i3_1 : L2.ixN 3 1 = some 1 := rfl
theorem i3_2 : L2.ixN 3 2 = some 2 := rfl
theorem eq_bank_bank : eqP (.str "bank") (.str "bank") = some (.bool true) := by kernel_rfl
theorem eq_bank_table : eqP (.str "bank") (.str "table") = some (.bool false) := by kernel_rfl
theorem eq_bank_counter : eqP (.str "bank") (.str "counter") = some (.bool false) := by kernel_rfl
theorem eq_bank_register : eqP (.str "bank") (.str "register") = some (.bool false) := by kernel_rfl
theorem eq_bank_agree : eqP (.str "bank") (.str "agree") = some (.bool false) := by kernel_rfl
theorem eq_bank_set : eqP (.str "bank") (.str "set") = some (.bool false) := by kernel_rfl
theorem eq_move_look : eqP (.str "move") (.str "look") = some (.bool false) := by kernel_rfl
theorem eq_look_look : eqP (.str "look") (.str "look") = some (.bool true) := by kernel_rfl
theorem m_mul1 (k : Int) : mulP (.int k) (.int 1) = some (.int (k * 1)) := p_mul (by decide)
theorem m_mul0 (k : Int) : mulP (.int k) (.int 0) = some (.int (k * 0)) := p_mul (by decide)
theorem gT4 (a b c d : PyData) (ev : Ev) : gT 4 (gsCons (gN 4) (gsCons (gN 5) (gsCons (gN 6) (gsCons (gN 7) gsNil)))) (.d (.tuple [a, b, c, d])) ev = some ((((ev.set 4 (some (.d a))).set 5 (some (.d b))).set 6 (some (.d c))).set 7 (some (.d d))) := rfl
theorem getl0 {a : PyData} {l : List PyData} : (a :: l)[(0:Int).toNat]? = some a := rfl
theorem getl1 {a b : PyData} {l : List PyData} : (a :: b :: l)[(1:Int).toNat]? = some b := rfl
theorem getl2 {a b c : PyData} {l : List PyData} : (a :: b :: c :: l)[(2:Int).toNat]? = some c := rfl
theorem ge0 : (0:Int) ≤ 0 := by decide
theorem ge1 : (0:Int) ≤ 1 := by decide
theorem ge2 : (0:Int) ≤ 2 := by decide
theorem bs2_look0 (as : PyData) (x y : Int) (S : Sto) : m_bank_step [.d (.tuple [.str "bank", as]), .d (.tuple [.int x, .int y]), .d (.tuple [.str "look", .int 0])] S = some (.ok (.d (.tuple [.tuple [.int x, .int y], .int x])), S) := by
  unfold m_bank_step mDef b_bank_step
  simp only [s_seq, s_set, s_if, s_par, par2_ok, s_expr, s_ret, s_pass, s_asg, r_tab, tabOf, r_callV, DD.fnOf, r_mutL, seqOf, r_putOp, r_mut1, r_append, r_call, r_comp, r_range, r_items, r_un, r_not, r_and, r_or, r_andV, r_orV, r_ite, r_tup, r_lst, mut_m, r_fB, r_op, r_def, r_cons, r_nil, r_var, r_c, rdAll_cons, rdAll_nil, startE, rb_ok, rl_some, ro_ok, rs_nx, rs_rt, rd_d, rd_m, at_k, set_k, list_of, dat_of, int_of, bool_of, p_ixl, p_ixt, p_lt, p_add, p_sub, p_int, p_lent, p_lenl, tupleP, Bool.not_true, Bool.not_false, cond_true, cond_false, List.map, List.replicate, List.cons_append, List.nil_append, List.getElem?_cons_zero, List.getElem?_cons_succ, List.set_cons_zero, List.set_cons_succ, List.length_cons, List.length_nil, Nat.zero_add, Nat.reduceAdd, Nat.reduceSub, Nat.reduceLeDiff, Nat.sub_self, if_true, if_false, ↓reduceIte, reduceCtorEq, fin_d0, fin_d1, dats_nil, dats_1, dats_2, dats_3, dats_4, tab_bank, int_t, int_f, rngc2, rngc3, a2_0, a2_1, a3_0, a3_1, a3_2, a4_0, a4_1, a4_2, a4_3, i2_0, i2_1, i3_0, i3_1, i3_2, eq_bank_bank, eq_bank_table, eq_bank_counter, eq_bank_register, eq_bank_agree, eq_bank_set, eq_move_look, eq_look_look, m_mul1, m_mul0, gT4, getl0, getl1, getl2, ge0, ge1, ge2, eq_ii, ne_ii, comp_consY, comp_nilY, clL_ok, cl2_ok, Int.reduceBEq, Int.mul_one, Int.mul_zero, Int.sub_zero, Int.add_zero, compR_ok, wipe_1, Nat.reduceLT, Int.reduceAdd]
theorem ld2_look0 (as : PyData) (x y : Int) (S : Sto) : m_Ldo [.d (.tuple [.str "bank", as]), .d (.tuple [.int x, .int y]), .d (.tuple [.str "look", .int 0])] S = some (.ok (.d (.tuple [.tuple [.int x, .int y], .int x])), S) := by
  unfold m_Ldo mDef b_Ldo
  simp only [s_seq, s_set, s_if, s_par, par2_ok, s_expr, s_ret, s_pass, s_asg, r_tab, tabOf, r_callV, DD.fnOf, r_mutL, seqOf, r_putOp, r_mut1, r_append, r_call, r_comp, r_range, r_items, r_un, r_not, r_and, r_or, r_andV, r_orV, r_ite, r_tup, r_lst, mut_m, r_fB, r_op, r_def, r_cons, r_nil, r_var, r_c, rdAll_cons, rdAll_nil, startE, rb_ok, rl_some, ro_ok, rs_nx, rs_rt, rd_d, rd_m, at_k, set_k, list_of, dat_of, int_of, bool_of, p_ixl, p_ixt, p_lt, p_add, p_sub, p_int, p_lent, p_lenl, tupleP, Bool.not_true, Bool.not_false, cond_true, cond_false, List.map, List.replicate, List.cons_append, List.nil_append, List.getElem?_cons_zero, List.getElem?_cons_succ, List.set_cons_zero, List.set_cons_succ, List.length_cons, List.length_nil, Nat.zero_add, Nat.reduceAdd, Nat.reduceSub, Nat.reduceLeDiff, Nat.sub_self, if_true, if_false, ↓reduceIte, reduceCtorEq, fin_d0, fin_d1, dats_nil, dats_1, dats_2, dats_3, dats_4, tab_bank, int_t, int_f, rngc2, rngc3, a2_0, a2_1, a3_0, a3_1, a3_2, a4_0, a4_1, a4_2, a4_3, i2_0, i2_1, i3_0, i3_1, i3_2, eq_bank_bank, eq_bank_table, eq_bank_counter, eq_bank_register, eq_bank_agree, eq_bank_set, eq_move_look, eq_look_look, m_mul1, m_mul0, gT4, getl0, getl1, getl2, ge0, ge1, ge2, eq_ii, ne_ii, comp_consY, comp_nilY, clL_ok, cl2_ok, Int.reduceBEq, Int.mul_one, Int.mul_zero, Int.sub_zero, Int.add_zero, compR_ok, wipe_1, Nat.reduceLT, Int.reduceAdd]
theorem bs2_look1 (as : PyData) (x y : Int) (S : Sto) : m_bank_step [.d (.tuple [.str "bank", as]), .d (.tuple [.int x, .int y]), .d (.tuple [.str "look", .int 1])] S = some (.ok (.d (.tuple [.tuple [.int x, .int y], .int y])), S) := by
  unfold m_bank_step mDef b_bank_step
  simp only [s_seq, s_set, s_if, s_par, par2_ok, s_expr, s_ret, s_pass, s_asg, r_tab, tabOf, r_callV, DD.fnOf, r_mutL, seqOf, r_putOp, r_mut1, r_append, r_call, r_comp, r_range, r_items, r_un, r_not, r_and, r_or, r_andV, r_orV, r_ite, r_tup, r_lst, mut_m, r_fB, r_op, r_def, r_cons, r_nil, r_var, r_c, rdAll_cons, rdAll_nil, startE, rb_ok, rl_some, ro_ok, rs_nx, rs_rt, rd_d, rd_m, at_k, set_k, list_of, dat_of, int_of, bool_of, p_ixl, p_ixt, p_lt, p_add, p_sub, p_int, p_lent, p_lenl, tupleP, Bool.not_true, Bool.not_false, cond_true, cond_false, List.map, List.replicate, List.cons_append, List.nil_append, List.getElem?_cons_zero, List.getElem?_cons_succ, List.set_cons_zero, List.set_cons_succ, List.length_cons, List.length_nil, Nat.zero_add, Nat.reduceAdd, Nat.reduceSub, Nat.reduceLeDiff, Nat.sub_self, if_true, if_false, ↓reduceIte, reduceCtorEq, fin_d0, fin_d1, dats_nil, dats_1, dats_2, dats_3, dats_4, tab_bank, int_t, int_f, rngc2, rngc3, a2_0, a2_1, a3_0, a3_1, a3_2, a4_0, a4_1, a4_2, a4_3, i2_0, i2_1, i3_0, i3_1, i3_2, eq_bank_bank, eq_bank_table, eq_bank_counter, eq_bank_register, eq_bank_agree, eq_bank_set, eq_move_look, eq_look_look, m_mul1, m_mul0, gT4, getl0, getl1, getl2, ge0, ge1, ge2, eq_ii, ne_ii, comp_consY, comp_nilY, clL_ok, cl2_ok, Int.reduceBEq, Int.mul_one, Int.mul_zero, Int.sub_zero, Int.add_zero, compR_ok, wipe_1, Nat.reduceLT, Int.reduceAdd]
theorem ld2_look1 (as : PyData) (x y : Int) (S : Sto) : m_Ldo [.d (.tuple [.str "bank", as]), .d (.tuple [.int x, .int y]), .d (.tuple [.str "look", .int 1])] S = some (.ok (.d (.tuple [.tuple [.int x, .int y], .int y])), S) := by
  unfold m_Ldo mDef b_Ldo
  simp only [s_seq, s_set, s_if, s_par, par2_ok, s_expr, s_ret, s_pass, s_asg, r_tab, tabOf, r_callV, DD.fnOf, r_mutL, seqOf, r_putOp, r_mut1, r_append, r_call, r_comp, r_range, r_items, r_un, r_not, r_and, r_or, r_andV, r_orV, r_ite, r_tup, r_lst, mut_m, r_fB, r_op, r_def, r_cons, r_nil, r_var, r_c, rdAll_cons, rdAll_nil, startE, rb_ok, rl_some, ro_ok, rs_nx, rs_rt, rd_d, rd_m, at_k, set_k, list_of, dat_of, int_of, bool_of, p_ixl, p_ixt, p_lt, p_add, p_sub, p_int, p_lent, p_lenl, tupleP, Bool.not_true, Bool.not_false, cond_true, cond_false, List.map, List.replicate, List.cons_append, List.nil_append, List.getElem?_cons_zero, List.getElem?_cons_succ, List.set_cons_zero, List.set_cons_succ, List.length_cons, List.length_nil, Nat.zero_add, Nat.reduceAdd, Nat.reduceSub, Nat.reduceLeDiff, Nat.sub_self, if_true, if_false, ↓reduceIte, reduceCtorEq, fin_d0, fin_d1, dats_nil, dats_1, dats_2, dats_3, dats_4, tab_bank, int_t, int_f, rngc2, rngc3, a2_0, a2_1, a3_0, a3_1, a3_2, a4_0, a4_1, a4_2, a4_3, i2_0, i2_1, i3_0, i3_1, i3_2, eq_bank_bank, eq_bank_table, eq_bank_counter, eq_bank_register, eq_bank_agree, eq_bank_set, eq_move_look, eq_look_look, m_mul1, m_mul0, gT4, getl0, getl1, getl2, ge0, ge1, ge2, eq_ii, ne_ii, comp_consY, comp_nilY, clL_ok, cl2_ok, Int.reduceBEq, Int.mul_one, Int.mul_zero, Int.sub_zero, Int.add_zero, compR_ok, wipe_1, Nat.reduceLT, Int.reduceAdd]
theorem bs2_move01 (as : PyData) (x y k : Int) (S : Sto) : m_bank_step [.d (.tuple [.str "bank", as]), .d (.tuple [.int x, .int y]), .d (.tuple [.str "move", .int 0, .int 1, .int k])] S = some (.ok (.d (if x < k then (.tuple [.tuple [.int x, .int y], .bool false]) else (.tuple [.tuple [.int (x - k), .int (y + k)], .bool true]))), S) := by
  unfold m_bank_step mDef b_bank_step
  by_cases h : x < k
  · simp only [s_seq, s_set, s_if, s_par, par2_ok, s_expr, s_ret, s_pass, s_asg, r_tab, tabOf, r_callV, DD.fnOf, r_mutL, seqOf, r_putOp, r_mut1, r_append, r_call, r_comp, r_range, r_items, r_un, r_not, r_and, r_or, r_andV, r_orV, r_ite, r_tup, r_lst, mut_m, r_fB, r_op, r_def, r_cons, r_nil, r_var, r_c, rdAll_cons, rdAll_nil, startE, rb_ok, rl_some, ro_ok, rs_nx, rs_rt, rd_d, rd_m, at_k, set_k, list_of, dat_of, int_of, bool_of, p_ixl, p_ixt, p_lt, p_add, p_sub, p_int, p_lent, p_lenl, tupleP, Bool.not_true, Bool.not_false, cond_true, cond_false, List.map, List.replicate, List.cons_append, List.nil_append, List.getElem?_cons_zero, List.getElem?_cons_succ, List.set_cons_zero, List.set_cons_succ, List.length_cons, List.length_nil, Nat.zero_add, Nat.reduceAdd, Nat.reduceSub, Nat.reduceLeDiff, Nat.sub_self, if_true, if_false, ↓reduceIte, reduceCtorEq, fin_d0, fin_d1, dats_nil, dats_1, dats_2, dats_3, dats_4, tab_bank, int_t, int_f, rngc2, rngc3, a2_0, a2_1, a3_0, a3_1, a3_2, a4_0, a4_1, a4_2, a4_3, i2_0, i2_1, i3_0, i3_1, i3_2, eq_bank_bank, eq_bank_table, eq_bank_counter, eq_bank_register, eq_bank_agree, eq_bank_set, eq_move_look, eq_look_look, m_mul1, m_mul0, gT4, getl0, getl1, getl2, ge0, ge1, ge2, eq_ii, ne_ii, comp_consY, comp_nilY, clL_ok, cl2_ok, Int.reduceBEq, Int.mul_one, Int.mul_zero, Int.sub_zero, Int.add_zero, compR_ok, wipe_1, Nat.reduceLT, Int.reduceAdd, h, decide_true]
  · simp only [s_seq, s_set, s_if, s_par, par2_ok, s_expr, s_ret, s_pass, s_asg, r_tab, tabOf, r_callV, DD.fnOf, r_mutL, seqOf, r_putOp, r_mut1, r_append, r_call, r_comp, r_range, r_items, r_un, r_not, r_and, r_or, r_andV, r_orV, r_ite, r_tup, r_lst, mut_m, r_fB, r_op, r_def, r_cons, r_nil, r_var, r_c, rdAll_cons, rdAll_nil, startE, rb_ok, rl_some, ro_ok, rs_nx, rs_rt, rd_d, rd_m, at_k, set_k, list_of, dat_of, int_of, bool_of, p_ixl, p_ixt, p_lt, p_add, p_sub, p_int, p_lent, p_lenl, tupleP, Bool.not_true, Bool.not_false, cond_true, cond_false, List.map, List.replicate, List.cons_append, List.nil_append, List.getElem?_cons_zero, List.getElem?_cons_succ, List.set_cons_zero, List.set_cons_succ, List.length_cons, List.length_nil, Nat.zero_add, Nat.reduceAdd, Nat.reduceSub, Nat.reduceLeDiff, Nat.sub_self, if_true, if_false, ↓reduceIte, reduceCtorEq, fin_d0, fin_d1, dats_nil, dats_1, dats_2, dats_3, dats_4, tab_bank, int_t, int_f, rngc2, rngc3, a2_0, a2_1, a3_0, a3_1, a3_2, a4_0, a4_1, a4_2, a4_3, i2_0, i2_1, i3_0, i3_1, i3_2, eq_bank_bank, eq_bank_table, eq_bank_counter, eq_bank_register, eq_bank_agree, eq_bank_set, eq_move_look, eq_look_look, m_mul1, m_mul0, gT4, getl0, getl1, getl2, ge0, ge1, ge2, eq_ii, ne_ii, comp_consY, comp_nilY, clL_ok, cl2_ok, Int.reduceBEq, Int.mul_one, Int.mul_zero, Int.sub_zero, Int.add_zero, compR_ok, wipe_1, Nat.reduceLT, Int.reduceAdd, h, decide_false]
theorem ld2_move01 (as : PyData) (x y k : Int) (S : Sto) : m_Ldo [.d (.tuple [.str "bank", as]), .d (.tuple [.int x, .int y]), .d (.tuple [.str "move", .int 0, .int 1, .int k])] S = some (.ok (.d (if x < k then (.tuple [.tuple [.int x, .int y], .bool false]) else (.tuple [.tuple [.int (x - k), .int (y + k)], .bool true]))), S) := by
  unfold m_Ldo mDef b_Ldo
  by_cases h : x < k
  · simp only [s_seq, s_set, s_if, s_par, par2_ok, s_expr, s_ret, s_pass, s_asg, r_tab, tabOf, r_callV, DD.fnOf, r_mutL, seqOf, r_putOp, r_mut1, r_append, r_call, r_comp, r_range, r_items, r_un, r_not, r_and, r_or, r_andV, r_orV, r_ite, r_tup, r_lst, mut_m, r_fB, r_op, r_def, r_cons, r_nil, r_var, r_c, rdAll_cons, rdAll_nil, startE, rb_ok, rl_some, ro_ok, rs_nx, rs_rt, rd_d, rd_m, at_k, set_k, list_of, dat_of, int_of, bool_of, p_ixl, p_ixt, p_lt, p_add, p_sub, p_int, p_lent, p_lenl, tupleP, Bool.not_true, Bool.not_false, cond_true, cond_false, List.map, List.replicate, List.cons_append, List.nil_append, List.getElem?_cons_zero, List.getElem?_cons_succ, List.set_cons_zero, List.set_cons_succ, List.length_cons, List.length_nil, Nat.zero_add, Nat.reduceAdd, Nat.reduceSub, Nat.reduceLeDiff, Nat.sub_self, if_true, if_false, ↓reduceIte, reduceCtorEq, fin_d0, fin_d1, dats_nil, dats_1, dats_2, dats_3, dats_4, tab_bank, int_t, int_f, rngc2, rngc3, a2_0, a2_1, a3_0, a3_1, a3_2, a4_0, a4_1, a4_2, a4_3, i2_0, i2_1, i3_0, i3_1, i3_2, eq_bank_bank, eq_bank_table, eq_bank_counter, eq_bank_register, eq_bank_agree, eq_bank_set, eq_move_look, eq_look_look, m_mul1, m_mul0, gT4, getl0, getl1, getl2, ge0, ge1, ge2, eq_ii, ne_ii, comp_consY, comp_nilY, clL_ok, cl2_ok, Int.reduceBEq, Int.mul_one, Int.mul_zero, Int.sub_zero, Int.add_zero, compR_ok, wipe_1, Nat.reduceLT, Int.reduceAdd, h, decide_true]
  · simp only [s_seq, s_set, s_if, s_par, par2_ok, s_expr, s_ret, s_pass, s_asg, r_tab, tabOf, r_callV, DD.fnOf, r_mutL, seqOf, r_putOp, r_mut1, r_append, r_call, r_comp, r_range, r_items, r_un, r_not, r_and, r_or, r_andV, r_orV, r_ite, r_tup, r_lst, mut_m, r_fB, r_op, r_def, r_cons, r_nil, r_var, r_c, rdAll_cons, rdAll_nil, startE, rb_ok, rl_some, ro_ok, rs_nx, rs_rt, rd_d, rd_m, at_k, set_k, list_of, dat_of, int_of, bool_of, p_ixl, p_ixt, p_lt, p_add, p_sub, p_int, p_lent, p_lenl, tupleP, Bool.not_true, Bool.not_false, cond_true, cond_false, List.map, List.replicate, List.cons_append, List.nil_append, List.getElem?_cons_zero, List.getElem?_cons_succ, List.set_cons_zero, List.set_cons_succ, List.length_cons, List.length_nil, Nat.zero_add, Nat.reduceAdd, Nat.reduceSub, Nat.reduceLeDiff, Nat.sub_self, if_true, if_false, ↓reduceIte, reduceCtorEq, fin_d0, fin_d1, dats_nil, dats_1, dats_2, dats_3, dats_4, tab_bank, int_t, int_f, rngc2, rngc3, a2_0, a2_1, a3_0, a3_1, a3_2, a4_0, a4_1, a4_2, a4_3, i2_0, i2_1, i3_0, i3_1, i3_2, eq_bank_bank, eq_bank_table, eq_bank_counter, eq_bank_register, eq_bank_agree, eq_bank_set, eq_move_look, eq_look_look, m_mul1, m_mul0, gT4, getl0, getl1, getl2, ge0, ge1, ge2, eq_ii, ne_ii, comp_consY, comp_nilY, clL_ok, cl2_ok, Int.reduceBEq, Int.mul_one, Int.mul_zero, Int.sub_zero, Int.add_zero, compR_ok, wipe_1, Nat.reduceLT, Int.reduceAdd, h, decide_false]
theorem bs2_move10 (as : PyData) (x y k : Int) (S : Sto) : m_bank_step [.d (.tuple [.str "bank", as]), .d (.tuple [.int x, .int y]), .d (.tuple [.str "move", .int 1, .int 0, .int k])] S = some (.ok (.d (if y < k then (.tuple [.tuple [.int x, .int y], .bool false]) else (.tuple [.tuple [.int (x + k), .int (y - k)], .bool true]))), S) := by
  unfold m_bank_step mDef b_bank_step
  by_cases h : y < k
  · simp only [s_seq, s_set, s_if, s_par, par2_ok, s_expr, s_ret, s_pass, s_asg, r_tab, tabOf, r_callV, DD.fnOf, r_mutL, seqOf, r_putOp, r_mut1, r_append, r_call, r_comp, r_range, r_items, r_un, r_not, r_and, r_or, r_andV, r_orV, r_ite, r_tup, r_lst, mut_m, r_fB, r_op, r_def, r_cons, r_nil, r_var, r_c, rdAll_cons, rdAll_nil, startE, rb_ok, rl_some, ro_ok, rs_nx, rs_rt, rd_d, rd_m, at_k, set_k, list_of, dat_of, int_of, bool_of, p_ixl, p_ixt, p_lt, p_add, p_sub, p_int, p_lent, p_lenl, tupleP, Bool.not_true, Bool.not_false, cond_true, cond_false, List.map, List.replicate, List.cons_append, List.nil_append, List.getElem?_cons_zero, List.getElem?_cons_succ, List.set_cons_zero, List.set_cons_succ, List.length_cons, List.length_nil, Nat.zero_add, Nat.reduceAdd, Nat.reduceSub, Nat.reduceLeDiff, Nat.sub_self, if_true, if_false, ↓reduceIte, reduceCtorEq, fin_d0, fin_d1, dats_nil, dats_1, dats_2, dats_3, dats_4, tab_bank, int_t, int_f, rngc2, rngc3, a2_0, a2_1, a3_0, a3_1, a3_2, a4_0, a4_1, a4_2, a4_3, i2_0, i2_1, i3_0, i3_1, i3_2, eq_bank_bank, eq_bank_table, eq_bank_counter, eq_bank_register, eq_bank_agree, eq_bank_set, eq_move_look, eq_look_look, m_mul1, m_mul0, gT4, getl0, getl1, getl2, ge0, ge1, ge2, eq_ii, ne_ii, comp_consY, comp_nilY, clL_ok, cl2_ok, Int.reduceBEq, Int.mul_one, Int.mul_zero, Int.sub_zero, Int.add_zero, compR_ok, wipe_1, Nat.reduceLT, Int.reduceAdd, h, decide_true]
  · simp only [s_seq, s_set, s_if, s_par, par2_ok, s_expr, s_ret, s_pass, s_asg, r_tab, tabOf, r_callV, DD.fnOf, r_mutL, seqOf, r_putOp, r_mut1, r_append, r_call, r_comp, r_range, r_items, r_un, r_not, r_and, r_or, r_andV, r_orV, r_ite, r_tup, r_lst, mut_m, r_fB, r_op, r_def, r_cons, r_nil, r_var, r_c, rdAll_cons, rdAll_nil, startE, rb_ok, rl_some, ro_ok, rs_nx, rs_rt, rd_d, rd_m, at_k, set_k, list_of, dat_of, int_of, bool_of, p_ixl, p_ixt, p_lt, p_add, p_sub, p_int, p_lent, p_lenl, tupleP, Bool.not_true, Bool.not_false, cond_true, cond_false, List.map, List.replicate, List.cons_append, List.nil_append, List.getElem?_cons_zero, List.getElem?_cons_succ, List.set_cons_zero, List.set_cons_succ, List.length_cons, List.length_nil, Nat.zero_add, Nat.reduceAdd, Nat.reduceSub, Nat.reduceLeDiff, Nat.sub_self, if_true, if_false, ↓reduceIte, reduceCtorEq, fin_d0, fin_d1, dats_nil, dats_1, dats_2, dats_3, dats_4, tab_bank, int_t, int_f, rngc2, rngc3, a2_0, a2_1, a3_0, a3_1, a3_2, a4_0, a4_1, a4_2, a4_3, i2_0, i2_1, i3_0, i3_1, i3_2, eq_bank_bank, eq_bank_table, eq_bank_counter, eq_bank_register, eq_bank_agree, eq_bank_set, eq_move_look, eq_look_look, m_mul1, m_mul0, gT4, getl0, getl1, getl2, ge0, ge1, ge2, eq_ii, ne_ii, comp_consY, comp_nilY, clL_ok, cl2_ok, Int.reduceBEq, Int.mul_one, Int.mul_zero, Int.sub_zero, Int.add_zero, compR_ok, wipe_1, Nat.reduceLT, Int.reduceAdd, h, decide_false]
theorem ld2_move10 (as : PyData) (x y k : Int) (S : Sto) : m_Ldo [.d (.tuple [.str "bank", as]), .d (.tuple [.int x, .int y]), .d (.tuple [.str "move", .int 1, .int 0, .int k])] S = some (.ok (.d (if y < k then (.tuple [.tuple [.int x, .int y], .bool false]) else (.tuple [.tuple [.int (x + k), .int (y - k)], .bool true]))), S) := by
  unfold m_Ldo mDef b_Ldo
  by_cases h : y < k
  · simp only [s_seq, s_set, s_if, s_par, par2_ok, s_expr, s_ret, s_pass, s_asg, r_tab, tabOf, r_callV, DD.fnOf, r_mutL, seqOf, r_putOp, r_mut1, r_append, r_call, r_comp, r_range, r_items, r_un, r_not, r_and, r_or, r_andV, r_orV, r_ite, r_tup, r_lst, mut_m, r_fB, r_op, r_def, r_cons, r_nil, r_var, r_c, rdAll_cons, rdAll_nil, startE, rb_ok, rl_some, ro_ok, rs_nx, rs_rt, rd_d, rd_m, at_k, set_k, list_of, dat_of, int_of, bool_of, p_ixl, p_ixt, p_lt, p_add, p_sub, p_int, p_lent, p_lenl, tupleP, Bool.not_true, Bool.not_false, cond_true, cond_false, List.map, List.replicate, List.cons_append, List.nil_append, List.getElem?_cons_zero, List.getElem?_cons_succ, List.set_cons_zero, List.set_cons_succ, List.length_cons, List.length_nil, Nat.zero_add, Nat.reduceAdd, Nat.reduceSub, Nat.reduceLeDiff, Nat.sub_self, if_true, if_false, ↓reduceIte, reduceCtorEq, fin_d0, fin_d1, dats_nil, dats_1, dats_2, dats_3, dats_4, tab_bank, int_t, int_f, rngc2, rngc3, a2_0, a2_1, a3_0, a3_1, a3_2, a4_0, a4_1, a4_2, a4_3, i2_0, i2_1, i3_0, i3_1, i3_2, eq_bank_bank, eq_bank_table, eq_bank_counter, eq_bank_register, eq_bank_agree, eq_bank_set, eq_move_look, eq_look_look, m_mul1, m_mul0, gT4, getl0, getl1, getl2, ge0, ge1, ge2, eq_ii, ne_ii, comp_consY, comp_nilY, clL_ok, cl2_ok, Int.reduceBEq, Int.mul_one, Int.mul_zero, Int.sub_zero, Int.add_zero, compR_ok, wipe_1, Nat.reduceLT, Int.reduceAdd, h, decide_true]
  · simp only [s_seq, s_set, s_if, s_par, par2_ok, s_expr, s_ret, s_pass, s_asg, r_tab, tabOf, r_callV, DD.fnOf, r_mutL, seqOf, r_putOp, r_mut1, r_append, r_call, r_comp, r_range, r_items, r_un, r_not, r_and, r_or, r_andV, r_orV, r_ite, r_tup, r_lst, mut_m, r_fB, r_op, r_def, r_cons, r_nil, r_var, r_c, rdAll_cons, rdAll_nil, startE, rb_ok, rl_some, ro_ok, rs_nx, rs_rt, rd_d, rd_m, at_k, set_k, list_of, dat_of, int_of, bool_of, p_ixl, p_ixt, p_lt, p_add, p_sub, p_int, p_lent, p_lenl, tupleP, Bool.not_true, Bool.not_false, cond_true, cond_false, List.map, List.replicate, List.cons_append, List.nil_append, List.getElem?_cons_zero, List.getElem?_cons_succ, List.set_cons_zero, List.set_cons_succ, List.length_cons, List.length_nil, Nat.zero_add, Nat.reduceAdd, Nat.reduceSub, Nat.reduceLeDiff, Nat.sub_self, if_true, if_false, ↓reduceIte, reduceCtorEq, fin_d0, fin_d1, dats_nil, dats_1, dats_2, dats_3, dats_4, tab_bank, int_t, int_f, rngc2, rngc3, a2_0, a2_1, a3_0, a3_1, a3_2, a4_0, a4_1, a4_2, a4_3, i2_0, i2_1, i3_0, i3_1, i3_2, eq_bank_bank, eq_bank_table, eq_bank_counter, eq_bank_register, eq_bank_agree, eq_bank_set, eq_move_look, eq_look_look, m_mul1, m_mul0, gT4, getl0, getl1, getl2, ge0, ge1, ge2, eq_ii, ne_ii, comp_consY, comp_nilY, clL_ok, cl2_ok, Int.reduceBEq, Int.mul_one, Int.mul_zero, Int.sub_zero, Int.add_zero, compR_ok, wipe_1, Nat.reduceLT, Int.reduceAdd, h, decide_false]
theorem bs3_look0 (as : PyData) (x y z : Int) (S : Sto) : m_bank_step [.d (.tuple [.str "bank", as]), .d (.tuple [.int x, .int y, .int z]), .d (.tuple [.str "look", .int 0])] S = some (.ok (.d (.tuple [.tuple [.int x, .int y, .int z], .int x])), S) := by
  unfold m_bank_step mDef b_bank_step
  simp only [s_seq, s_set, s_if, s_par, par2_ok, s_expr, s_ret, s_pass, s_asg, r_tab, tabOf, r_callV, DD.fnOf, r_mutL, seqOf, r_putOp, r_mut1, r_append, r_call, r_comp, r_range, r_items, r_un, r_not, r_and, r_or, r_andV, r_orV, r_ite, r_tup, r_lst, mut_m, r_fB, r_op, r_def, r_cons, r_nil, r_var, r_c, rdAll_cons, rdAll_nil, startE, rb_ok, rl_some, ro_ok, rs_nx, rs_rt, rd_d, rd_m, at_k, set_k, list_of, dat_of, int_of, bool_of, p_ixl, p_ixt, p_lt, p_add, p_sub, p_int, p_lent, p_lenl, tupleP, Bool.not_true, Bool.not_false, cond_true, cond_false, List.map, List.replicate, List.cons_append, List.nil_append, List.getElem?_cons_zero, List.getElem?_cons_succ, List.set_cons_zero, List.set_cons_succ, List.length_cons, List.length_nil, Nat.zero_add, Nat.reduceAdd, Nat.reduceSub, Nat.reduceLeDiff, Nat.sub_self, if_true, if_false, ↓reduceIte, reduceCtorEq, fin_d0, fin_d1, dats_nil, dats_1, dats_2, dats_3, dats_4, tab_bank, int_t, int_f, rngc2, rngc3, a2_0, a2_1, a3_0, a3_1, a3_2, a4_0, a4_1, a4_2, a4_3, i2_0, i2_1, i3_0, i3_1, i3_2, eq_bank_bank, eq_bank_table, eq_bank_counter, eq_bank_register, eq_bank_agree, eq_bank_set, eq_move_look, eq_look_look, m_mul1, m_mul0, gT4, getl0, getl1, getl2, ge0, ge1, ge2, eq_ii, ne_ii, comp_consY, comp_nilY, clL_ok, cl2_ok, Int.reduceBEq, Int.mul_one, Int.mul_zero, Int.sub_zero, Int.add_zero, compR_ok, wipe_1, Nat.reduceLT, Int.reduceAdd]
theorem ld3_look0 (as : PyData) (x y z : Int) (S : Sto) : m_Ldo [.d (.tuple [.str "bank", as]), .d (.tuple [.int x, .int y, .int z]), .d (.tuple [.str "look", .int 0])] S = some (.ok (.d (.tuple [.tuple [.int x, .int y, .int z], .int x])), S) := by
  unfold m_Ldo mDef b_Ldo
  simp only [s_seq, s_set, s_if, s_par, par2_ok, s_expr, s_ret, s_pass, s_asg, r_tab, tabOf, r_callV, DD.fnOf, r_mutL, seqOf, r_putOp, r_mut1, r_append, r_call, r_comp, r_range, r_items, r_un, r_not, r_and, r_or, r_andV, r_orV, r_ite, r_tup, r_lst, mut_m, r_fB, r_op, r_def, r_cons, r_nil, r_var, r_c, rdAll_cons, rdAll_nil, startE, rb_ok, rl_some, ro_ok, rs_nx, rs_rt, rd_d, rd_m, at_k, set_k, list_of, dat_of, int_of, bool_of, p_ixl, p_ixt, p_lt, p_add, p_sub, p_int, p_lent, p_lenl, tupleP, Bool.not_true, Bool.not_false, cond_true, cond_false, List.map, List.replicate, List.cons_append, List.nil_append, List.getElem?_cons_zero, List.getElem?_cons_succ, List.set_cons_zero, List.set_cons_succ, List.length_cons, List.length_nil, Nat.zero_add, Nat.reduceAdd, Nat.reduceSub, Nat.reduceLeDiff, Nat.sub_self, if_true, if_false, ↓reduceIte, reduceCtorEq, fin_d0, fin_d1, dats_nil, dats_1, dats_2, dats_3, dats_4, tab_bank, int_t, int_f, rngc2, rngc3, a2_0, a2_1, a3_0, a3_1, a3_2, a4_0, a4_1, a4_2, a4_3, i2_0, i2_1, i3_0, i3_1, i3_2, eq_bank_bank, eq_bank_table, eq_bank_counter, eq_bank_register, eq_bank_agree, eq_bank_set, eq_move_look, eq_look_look, m_mul1, m_mul0, gT4, getl0, getl1, getl2, ge0, ge1, ge2, eq_ii, ne_ii, comp_consY, comp_nilY, clL_ok, cl2_ok, Int.reduceBEq, Int.mul_one, Int.mul_zero, Int.sub_zero, Int.add_zero, compR_ok, wipe_1, Nat.reduceLT, Int.reduceAdd]
theorem bs3_look1 (as : PyData) (x y z : Int) (S : Sto) : m_bank_step [.d (.tuple [.str "bank", as]), .d (.tuple [.int x, .int y, .int z]), .d (.tuple [.str "look", .int 1])] S = some (.ok (.d (.tuple [.tuple [.int x, .int y, .int z], .int y])), S) := by
  unfold m_bank_step mDef b_bank_step
  simp only [s_seq, s_set, s_if, s_par, par2_ok, s_expr, s_ret, s_pass, s_asg, r_tab, tabOf, r_callV, DD.fnOf, r_mutL, seqOf, r_putOp, r_mut1, r_append, r_call, r_comp, r_range, r_items, r_un, r_not, r_and, r_or, r_andV, r_orV, r_ite, r_tup, r_lst, mut_m, r_fB, r_op, r_def, r_cons, r_nil, r_var, r_c, rdAll_cons, rdAll_nil, startE, rb_ok, rl_some, ro_ok, rs_nx, rs_rt, rd_d, rd_m, at_k, set_k, list_of, dat_of, int_of, bool_of, p_ixl, p_ixt, p_lt, p_add, p_sub, p_int, p_lent, p_lenl, tupleP, Bool.not_true, Bool.not_false, cond_true, cond_false, List.map, List.replicate, List.cons_append, List.nil_append, List.getElem?_cons_zero, List.getElem?_cons_succ, List.set_cons_zero, List.set_cons_succ, List.length_cons, List.length_nil, Nat.zero_add, Nat.reduceAdd, Nat.reduceSub, Nat.reduceLeDiff, Nat.sub_self, if_true, if_false, ↓reduceIte, reduceCtorEq, fin_d0, fin_d1, dats_nil, dats_1, dats_2, dats_3, dats_4, tab_bank, int_t, int_f, rngc2, rngc3, a2_0, a2_1, a3_0, a3_1, a3_2, a4_0, a4_1, a4_2, a4_3, i2_0, i2_1, i3_0, i3_1, i3_2, eq_bank_bank, eq_bank_table, eq_bank_counter, eq_bank_register, eq_bank_agree, eq_bank_set, eq_move_look, eq_look_look, m_mul1, m_mul0, gT4, getl0, getl1, getl2, ge0, ge1, ge2, eq_ii, ne_ii, comp_consY, comp_nilY, clL_ok, cl2_ok, Int.reduceBEq, Int.mul_one, Int.mul_zero, Int.sub_zero, Int.add_zero, compR_ok, wipe_1, Nat.reduceLT, Int.reduceAdd]
theorem ld3_look1 (as : PyData) (x y z : Int) (S : Sto) : m_Ldo [.d (.tuple [.str "bank", as]), .d (.tuple [.int x, .int y, .int z]), .d (.tuple [.str "look", .int 1])] S = some (.ok (.d (.tuple [.tuple [.int x, .int y, .int z], .int y])), S) := by
  unfold m_Ldo mDef b_Ldo
  simp only [s_seq, s_set, s_if, s_par, par2_ok, s_expr, s_ret, s_pass, s_asg, r_tab, tabOf, r_callV, DD.fnOf, r_mutL, seqOf, r_putOp, r_mut1, r_append, r_call, r_comp, r_range, r_items, r_un, r_not, r_and, r_or, r_andV, r_orV, r_ite, r_tup, r_lst, mut_m, r_fB, r_op, r_def, r_cons, r_nil, r_var, r_c, rdAll_cons, rdAll_nil, startE, rb_ok, rl_some, ro_ok, rs_nx, rs_rt, rd_d, rd_m, at_k, set_k, list_of, dat_of, int_of, bool_of, p_ixl, p_ixt, p_lt, p_add, p_sub, p_int, p_lent, p_lenl, tupleP, Bool.not_true, Bool.not_false, cond_true, cond_false, List.map, List.replicate, List.cons_append, List.nil_append, List.getElem?_cons_zero, List.getElem?_cons_succ, List.set_cons_zero, List.set_cons_succ, List.length_cons, List.length_nil, Nat.zero_add, Nat.reduceAdd, Nat.reduceSub, Nat.reduceLeDiff, Nat.sub_self, if_true, if_false, ↓reduceIte, reduceCtorEq, fin_d0, fin_d1, dats_nil, dats_1, dats_2, dats_3, dats_4, tab_bank, int_t, int_f, rngc2, rngc3, a2_0, a2_1, a3_0, a3_1, a3_2, a4_0, a4_1, a4_2, a4_3, i2_0, i2_1, i3_0, i3_1, i3_2, eq_bank_bank, eq_bank_table, eq_bank_counter, eq_bank_register, eq_bank_agree, eq_bank_set, eq_move_look, eq_look_look, m_mul1, m_mul0, gT4, getl0, getl1, getl2, ge0, ge1, ge2, eq_ii, ne_ii, comp_consY, comp_nilY, clL_ok, cl2_ok, Int.reduceBEq, Int.mul_one, Int.mul_zero, Int.sub_zero, Int.add_zero, compR_ok, wipe_1, Nat.reduceLT, Int.reduceAdd]
theorem bs3_look2 (as : PyData) (x y z : Int) (S : Sto) : m_bank_step [.d (.tuple [.str "bank", as]), .d (.tuple [.int x, .int y, .int z]), .d (.tuple [.str "look", .int 2])] S = some (.ok (.d (.tuple [.tuple [.int x, .int y, .int z], .int z])), S) := by
  unfold m_bank_step mDef b_bank_step
  simp only [s_seq, s_set, s_if, s_par, par2_ok, s_expr, s_ret, s_pass, s_asg, r_tab, tabOf, r_callV, DD.fnOf, r_mutL, seqOf, r_putOp, r_mut1, r_append, r_call, r_comp, r_range, r_items, r_un, r_not, r_and, r_or, r_andV, r_orV, r_ite, r_tup, r_lst, mut_m, r_fB, r_op, r_def, r_cons, r_nil, r_var, r_c, rdAll_cons, rdAll_nil, startE, rb_ok, rl_some, ro_ok, rs_nx, rs_rt, rd_d, rd_m, at_k, set_k, list_of, dat_of, int_of, bool_of, p_ixl, p_ixt, p_lt, p_add, p_sub, p_int, p_lent, p_lenl, tupleP, Bool.not_true, Bool.not_false, cond_true, cond_false, List.map, List.replicate, List.cons_append, List.nil_append, List.getElem?_cons_zero, List.getElem?_cons_succ, List.set_cons_zero, List.set_cons_succ, List.length_cons, List.length_nil, Nat.zero_add, Nat.reduceAdd, Nat.reduceSub, Nat.reduceLeDiff, Nat.sub_self, if_true, if_false, ↓reduceIte, reduceCtorEq, fin_d0, fin_d1, dats_nil, dats_1, dats_2, dats_3, dats_4, tab_bank, int_t, int_f, rngc2, rngc3, a2_0, a2_1, a3_0, a3_1, a3_2, a4_0, a4_1, a4_2, a4_3, i2_0, i2_1, i3_0, i3_1, i3_2, eq_bank_bank, eq_bank_table, eq_bank_counter, eq_bank_register, eq_bank_agree, eq_bank_set, eq_move_look, eq_look_look, m_mul1, m_mul0, gT4, getl0, getl1, getl2, ge0, ge1, ge2, eq_ii, ne_ii, comp_consY, comp_nilY, clL_ok, cl2_ok, Int.reduceBEq, Int.mul_one, Int.mul_zero, Int.sub_zero, Int.add_zero, compR_ok, wipe_1, Nat.reduceLT, Int.reduceAdd]
theorem ld3_look2 (as : PyData) (x y z : Int) (S : Sto) : m_Ldo [.d (.tuple [.str "bank", as]), .d (.tuple [.int x, .int y, .int z]), .d (.tuple [.str "look", .int 2])] S = some (.ok (.d (.tuple [.tuple [.int x, .int y, .int z], .int z])), S) := by
  unfold m_Ldo mDef b_Ldo
  simp only [s_seq, s_set, s_if, s_par, par2_ok, s_expr, s_ret, s_pass, s_asg, r_tab, tabOf, r_callV, DD.fnOf, r_mutL, seqOf, r_putOp, r_mut1, r_append, r_call, r_comp, r_range, r_items, r_un, r_not, r_and, r_or, r_andV, r_orV, r_ite, r_tup, r_lst, mut_m, r_fB, r_op, r_def, r_cons, r_nil, r_var, r_c, rdAll_cons, rdAll_nil, startE, rb_ok, rl_some, ro_ok, rs_nx, rs_rt, rd_d, rd_m, at_k, set_k, list_of, dat_of, int_of, bool_of, p_ixl, p_ixt, p_lt, p_add, p_sub, p_int, p_lent, p_lenl, tupleP, Bool.not_true, Bool.not_false, cond_true, cond_false, List.map, List.replicate, List.cons_append, List.nil_append, List.getElem?_cons_zero, List.getElem?_cons_succ, List.set_cons_zero, List.set_cons_succ, List.length_cons, List.length_nil, Nat.zero_add, Nat.reduceAdd, Nat.reduceSub, Nat.reduceLeDiff, Nat.sub_self, if_true, if_false, ↓reduceIte, reduceCtorEq, fin_d0, fin_d1, dats_nil, dats_1, dats_2, dats_3, dats_4, tab_bank, int_t, int_f, rngc2, rngc3, a2_0, a2_1, a3_0, a3_1, a3_2, a4_0, a4_1, a4_2, a4_3, i2_0, i2_1, i3_0, i3_1, i3_2, eq_bank_bank, eq_bank_table, eq_bank_counter, eq_bank_register, eq_bank_agree, eq_bank_set, eq_move_look, eq_look_look, m_mul1, m_mul0, gT4, getl0, getl1, getl2, ge0, ge1, ge2, eq_ii, ne_ii, comp_consY, comp_nilY, clL_ok, cl2_ok, Int.reduceBEq, Int.mul_one, Int.mul_zero, Int.sub_zero, Int.add_zero, compR_ok, wipe_1, Nat.reduceLT, Int.reduceAdd]
theorem bs3_move01 (as : PyData) (x y z k : Int) (S : Sto) : m_bank_step [.d (.tuple [.str "bank", as]), .d (.tuple [.int x, .int y, .int z]), .d (.tuple [.str "move", .int 0, .int 1, .int k])] S = some (.ok (.d (if x < k then (.tuple [.tuple [.int x, .int y, .int z], .bool false]) else (.tuple [.tuple [.int (x - k), .int (y + k), .int z], .bool true]))), S) := by
  unfold m_bank_step mDef b_bank_step
  by_cases h : x < k
  · simp only [s_seq, s_set, s_if, s_par, par2_ok, s_expr, s_ret, s_pass, s_asg, r_tab, tabOf, r_callV, DD.fnOf, r_mutL, seqOf, r_putOp, r_mut1, r_append, r_call, r_comp, r_range, r_items, r_un, r_not, r_and, r_or, r_andV, r_orV, r_ite, r_tup, r_lst, mut_m, r_fB, r_op, r_def, r_cons, r_nil, r_var, r_c, rdAll_cons, rdAll_nil, startE, rb_ok, rl_some, ro_ok, rs_nx, rs_rt, rd_d, rd_m, at_k, set_k, list_of, dat_of, int_of, bool_of, p_ixl, p_ixt, p_lt, p_add, p_sub, p_int, p_lent, p_lenl, tupleP, Bool.not_true, Bool.not_false, cond_true, cond_false, List.map, List.replicate, List.cons_append, List.nil_append, List.getElem?_cons_zero, List.getElem?_cons_succ, List.set_cons_zero, List.set_cons_succ, List.length_cons, List.length_nil, Nat.zero_add, Nat.reduceAdd, Nat.reduceSub, Nat.reduceLeDiff, Nat.sub_self, if_true, if_false, ↓reduceIte, reduceCtorEq, fin_d0, fin_d1, dats_nil, dats_1, dats_2, dats_3, dats_4, tab_bank, int_t, int_f, rngc2, rngc3, a2_0, a2_1, a3_0, a3_1, a3_2, a4_0, a4_1, a4_2, a4_3, i2_0, i2_1, i3_0, i3_1, i3_2, eq_bank_bank, eq_bank_table, eq_bank_counter, eq_bank_register, eq_bank_agree, eq_bank_set, eq_move_look, eq_look_look, m_mul1, m_mul0, gT4, getl0, getl1, getl2, ge0, ge1, ge2, eq_ii, ne_ii, comp_consY, comp_nilY, clL_ok, cl2_ok, Int.reduceBEq, Int.mul_one, Int.mul_zero, Int.sub_zero, Int.add_zero, compR_ok, wipe_1, Nat.reduceLT, Int.reduceAdd, h, decide_true]
  · simp only [s_seq, s_set, s_if, s_par, par2_ok, s_expr, s_ret, s_pass, s_asg, r_tab, tabOf, r_callV, DD.fnOf, r_mutL, seqOf, r_putOp, r_mut1, r_append, r_call, r_comp, r_range, r_items, r_un, r_not, r_and, r_or, r_andV, r_orV, r_ite, r_tup, r_lst, mut_m, r_fB, r_op, r_def, r_cons, r_nil, r_var, r_c, rdAll_cons, rdAll_nil, startE, rb_ok, rl_some, ro_ok, rs_nx, rs_rt, rd_d, rd_m, at_k, set_k, list_of, dat_of, int_of, bool_of, p_ixl, p_ixt, p_lt, p_add, p_sub, p_int, p_lent, p_lenl, tupleP, Bool.not_true, Bool.not_false, cond_true, cond_false, List.map, List.replicate, List.cons_append, List.nil_append, List.getElem?_cons_zero, List.getElem?_cons_succ, List.set_cons_zero, List.set_cons_succ, List.length_cons, List.length_nil, Nat.zero_add, Nat.reduceAdd, Nat.reduceSub, Nat.reduceLeDiff, Nat.sub_self, if_true, if_false, ↓reduceIte, reduceCtorEq, fin_d0, fin_d1, dats_nil, dats_1, dats_2, dats_3, dats_4, tab_bank, int_t, int_f, rngc2, rngc3, a2_0, a2_1, a3_0, a3_1, a3_2, a4_0, a4_1, a4_2, a4_3, i2_0, i2_1, i3_0, i3_1, i3_2, eq_bank_bank, eq_bank_table, eq_bank_counter, eq_bank_register, eq_bank_agree, eq_bank_set, eq_move_look, eq_look_look, m_mul1, m_mul0, gT4, getl0, getl1, getl2, ge0, ge1, ge2, eq_ii, ne_ii, comp_consY, comp_nilY, clL_ok, cl2_ok, Int.reduceBEq, Int.mul_one, Int.mul_zero, Int.sub_zero, Int.add_zero, compR_ok, wipe_1, Nat.reduceLT, Int.reduceAdd, h, decide_false]
theorem ld3_move01 (as : PyData) (x y z k : Int) (S : Sto) : m_Ldo [.d (.tuple [.str "bank", as]), .d (.tuple [.int x, .int y, .int z]), .d (.tuple [.str "move", .int 0, .int 1, .int k])] S = some (.ok (.d (if x < k then (.tuple [.tuple [.int x, .int y, .int z], .bool false]) else (.tuple [.tuple [.int (x - k), .int (y + k), .int z], .bool true]))), S) := by
  unfold m_Ldo mDef b_Ldo
  by_cases h : x < k
  · simp only [s_seq, s_set, s_if, s_par, par2_ok, s_expr, s_ret, s_pass, s_asg, r_tab, tabOf, r_callV, DD.fnOf, r_mutL, seqOf, r_putOp, r_mut1, r_append, r_call, r_comp, r_range, r_items, r_un, r_not, r_and, r_or, r_andV, r_orV, r_ite, r_tup, r_lst, mut_m, r_fB, r_op, r_def, r_cons, r_nil, r_var, r_c, rdAll_cons, rdAll_nil, startE, rb_ok, rl_some, ro_ok, rs_nx, rs_rt, rd_d, rd_m, at_k, set_k, list_of, dat_of, int_of, bool_of, p_ixl, p_ixt, p_lt, p_add, p_sub, p_int, p_lent, p_lenl, tupleP, Bool.not_true, Bool.not_false, cond_true, cond_false, List.map, List.replicate, List.cons_append, List.nil_append, List.getElem?_cons_zero, List.getElem?_cons_succ, List.set_cons_zero, List.set_cons_succ, List.length_cons, List.length_nil, Nat.zero_add, Nat.reduceAdd, Nat.reduceSub, Nat.reduceLeDiff, Nat.sub_self, if_true, if_false, ↓reduceIte, reduceCtorEq, fin_d0, fin_d1, dats_nil, dats_1, dats_2, dats_3, dats_4, tab_bank, int_t, int_f, rngc2, rngc3, a2_0, a2_1, a3_0, a3_1, a3_2, a4_0, a4_1, a4_2, a4_3, i2_0, i2_1, i3_0, i3_1, i3_2, eq_bank_bank, eq_bank_table, eq_bank_counter, eq_bank_register, eq_bank_agree, eq_bank_set, eq_move_look, eq_look_look, m_mul1, m_mul0, gT4, getl0, getl1, getl2, ge0, ge1, ge2, eq_ii, ne_ii, comp_consY, comp_nilY, clL_ok, cl2_ok, Int.reduceBEq, Int.mul_one, Int.mul_zero, Int.sub_zero, Int.add_zero, compR_ok, wipe_1, Nat.reduceLT, Int.reduceAdd, h, decide_true]
  · simp only [s_seq, s_set, s_if, s_par, par2_ok, s_expr, s_ret, s_pass, s_asg, r_tab, tabOf, r_callV, DD.fnOf, r_mutL, seqOf, r_putOp, r_mut1, r_append, r_call, r_comp, r_range, r_items, r_un, r_not, r_and, r_or, r_andV, r_orV, r_ite, r_tup, r_lst, mut_m, r_fB, r_op, r_def, r_cons, r_nil, r_var, r_c, rdAll_cons, rdAll_nil, startE, rb_ok, rl_some, ro_ok, rs_nx, rs_rt, rd_d, rd_m, at_k, set_k, list_of, dat_of, int_of, bool_of, p_ixl, p_ixt, p_lt, p_add, p_sub, p_int, p_lent, p_lenl, tupleP, Bool.not_true, Bool.not_false, cond_true, cond_false, List.map, List.replicate, List.cons_append, List.nil_append, List.getElem?_cons_zero, List.getElem?_cons_succ, List.set_cons_zero, List.set_cons_succ, List.length_cons, List.length_nil, Nat.zero_add, Nat.reduceAdd, Nat.reduceSub, Nat.reduceLeDiff, Nat.sub_self, if_true, if_false, ↓reduceIte, reduceCtorEq, fin_d0, fin_d1, dats_nil, dats_1, dats_2, dats_3, dats_4, tab_bank, int_t, int_f, rngc2, rngc3, a2_0, a2_1, a3_0, a3_1, a3_2, a4_0, a4_1, a4_2, a4_3, i2_0, i2_1, i3_0, i3_1, i3_2, eq_bank_bank, eq_bank_table, eq_bank_counter, eq_bank_register, eq_bank_agree, eq_bank_set, eq_move_look, eq_look_look, m_mul1, m_mul0, gT4, getl0, getl1, getl2, ge0, ge1, ge2, eq_ii, ne_ii, comp_consY, comp_nilY, clL_ok, cl2_ok, Int.reduceBEq, Int.mul_one, Int.mul_zero, Int.sub_zero, Int.add_zero, compR_ok, wipe_1, Nat.reduceLT, Int.reduceAdd, h, decide_false]
theorem bs3_move02 (as : PyData) (x y z k : Int) (S : Sto) : m_bank_step [.d (.tuple [.str "bank", as]), .d (.tuple [.int x, .int y, .int z]), .d (.tuple [.str "move", .int 0, .int 2, .int k])] S = some (.ok (.d (if x < k then (.tuple [.tuple [.int x, .int y, .int z], .bool false]) else (.tuple [.tuple [.int (x - k), .int y, .int (z + k)], .bool true]))), S) := by
  unfold m_bank_step mDef b_bank_step
  by_cases h : x < k
  · simp only [s_seq, s_set, s_if, s_par, par2_ok, s_expr, s_ret, s_pass, s_asg, r_tab, tabOf, r_callV, DD.fnOf, r_mutL, seqOf, r_putOp, r_mut1, r_append, r_call, r_comp, r_range, r_items, r_un, r_not, r_and, r_or, r_andV, r_orV, r_ite, r_tup, r_lst, mut_m, r_fB, r_op, r_def, r_cons, r_nil, r_var, r_c, rdAll_cons, rdAll_nil, startE, rb_ok, rl_some, ro_ok, rs_nx, rs_rt, rd_d, rd_m, at_k, set_k, list_of, dat_of, int_of, bool_of, p_ixl, p_ixt, p_lt, p_add, p_sub, p_int, p_lent, p_lenl, tupleP, Bool.not_true, Bool.not_false, cond_true, cond_false, List.map, List.replicate, List.cons_append, List.nil_append, List.getElem?_cons_zero, List.getElem?_cons_succ, List.set_cons_zero, List.set_cons_succ, List.length_cons, List.length_nil, Nat.zero_add, Nat.reduceAdd, Nat.reduceSub, Nat.reduceLeDiff, Nat.sub_self, if_true, if_false, ↓reduceIte, reduceCtorEq, fin_d0, fin_d1, dats_nil, dats_1, dats_2, dats_3, dats_4, tab_bank, int_t, int_f, rngc2, rngc3, a2_0, a2_1, a3_0, a3_1, a3_2, a4_0, a4_1, a4_2, a4_3, i2_0, i2_1, i3_0, i3_1, i3_2, eq_bank_bank, eq_bank_table, eq_bank_counter, eq_bank_register, eq_bank_agree, eq_bank_set, eq_move_look, eq_look_look, m_mul1, m_mul0, gT4, getl0, getl1, getl2, ge0, ge1, ge2, eq_ii, ne_ii, comp_consY, comp_nilY, clL_ok, cl2_ok, Int.reduceBEq, Int.mul_one, Int.mul_zero, Int.sub_zero, Int.add_zero, compR_ok, wipe_1, Nat.reduceLT, Int.reduceAdd, h, decide_true]
  · simp only [s_seq, s_set, s_if, s_par, par2_ok, s_expr, s_ret, s_pass, s_asg, r_tab, tabOf, r_callV, DD.fnOf, r_mutL, seqOf, r_putOp, r_mut1, r_append, r_call, r_comp, r_range, r_items, r_un, r_not, r_and, r_or, r_andV, r_orV, r_ite, r_tup, r_lst, mut_m, r_fB, r_op, r_def, r_cons, r_nil, r_var, r_c, rdAll_cons, rdAll_nil, startE, rb_ok, rl_some, ro_ok, rs_nx, rs_rt, rd_d, rd_m, at_k, set_k, list_of, dat_of, int_of, bool_of, p_ixl, p_ixt, p_lt, p_add, p_sub, p_int, p_lent, p_lenl, tupleP, Bool.not_true, Bool.not_false, cond_true, cond_false, List.map, List.replicate, List.cons_append, List.nil_append, List.getElem?_cons_zero, List.getElem?_cons_succ, List.set_cons_zero, List.set_cons_succ, List.length_cons, List.length_nil, Nat.zero_add, Nat.reduceAdd, Nat.reduceSub, Nat.reduceLeDiff, Nat.sub_self, if_true, if_false, ↓reduceIte, reduceCtorEq, fin_d0, fin_d1, dats_nil, dats_1, dats_2, dats_3, dats_4, tab_bank, int_t, int_f, rngc2, rngc3, a2_0, a2_1, a3_0, a3_1, a3_2, a4_0, a4_1, a4_2, a4_3, i2_0, i2_1, i3_0, i3_1, i3_2, eq_bank_bank, eq_bank_table, eq_bank_counter, eq_bank_register, eq_bank_agree, eq_bank_set, eq_move_look, eq_look_look, m_mul1, m_mul0, gT4, getl0, getl1, getl2, ge0, ge1, ge2, eq_ii, ne_ii, comp_consY, comp_nilY, clL_ok, cl2_ok, Int.reduceBEq, Int.mul_one, Int.mul_zero, Int.sub_zero, Int.add_zero, compR_ok, wipe_1, Nat.reduceLT, Int.reduceAdd, h, decide_false]
theorem ld3_move02 (as : PyData) (x y z k : Int) (S : Sto) : m_Ldo [.d (.tuple [.str "bank", as]), .d (.tuple [.int x, .int y, .int z]), .d (.tuple [.str "move", .int 0, .int 2, .int k])] S = some (.ok (.d (if x < k then (.tuple [.tuple [.int x, .int y, .int z], .bool false]) else (.tuple [.tuple [.int (x - k), .int y, .int (z + k)], .bool true]))), S) := by
  unfold m_Ldo mDef b_Ldo
  by_cases h : x < k
  · simp only [s_seq, s_set, s_if, s_par, par2_ok, s_expr, s_ret, s_pass, s_asg, r_tab, tabOf, r_callV, DD.fnOf, r_mutL, seqOf, r_putOp, r_mut1, r_append, r_call, r_comp, r_range, r_items, r_un, r_not, r_and, r_or, r_andV, r_orV, r_ite, r_tup, r_lst, mut_m, r_fB, r_op, r_def, r_cons, r_nil, r_var, r_c, rdAll_cons, rdAll_nil, startE, rb_ok, rl_some, ro_ok, rs_nx, rs_rt, rd_d, rd_m, at_k, set_k, list_of, dat_of, int_of, bool_of, p_ixl, p_ixt, p_lt, p_add, p_sub, p_int, p_lent, p_lenl, tupleP, Bool.not_true, Bool.not_false, cond_true, cond_false, List.map, List.replicate, List.cons_append, List.nil_append, List.getElem?_cons_zero, List.getElem?_cons_succ, List.set_cons_zero, List.set_cons_succ, List.length_cons, List.length_nil, Nat.zero_add, Nat.reduceAdd, Nat.reduceSub, Nat.reduceLeDiff, Nat.sub_self, if_true, if_false, ↓reduceIte, reduceCtorEq, fin_d0, fin_d1, dats_nil, dats_1, dats_2, dats_3, dats_4, tab_bank, int_t, int_f, rngc2, rngc3, a2_0, a2_1, a3_0, a3_1, a3_2, a4_0, a4_1, a4_2, a4_3, i2_0, i2_1, i3_0, i3_1, i3_2, eq_bank_bank, eq_bank_table, eq_bank_counter, eq_bank_register, eq_bank_agree, eq_bank_set, eq_move_look, eq_look_look, m_mul1, m_mul0, gT4, getl0, getl1, getl2, ge0, ge1, ge2, eq_ii, ne_ii, comp_consY, comp_nilY, clL_ok, cl2_ok, Int.reduceBEq, Int.mul_one, Int.mul_zero, Int.sub_zero, Int.add_zero, compR_ok, wipe_1, Nat.reduceLT, Int.reduceAdd, h, decide_true]
  · simp only [s_seq, s_set, s_if, s_par, par2_ok, s_expr, s_ret, s_pass, s_asg, r_tab, tabOf, r_callV, DD.fnOf, r_mutL, seqOf, r_putOp, r_mut1, r_append, r_call, r_comp, r_range, r_items, r_un, r_not, r_and, r_or, r_andV, r_orV, r_ite, r_tup, r_lst, mut_m, r_fB, r_op, r_def, r_cons, r_nil, r_var, r_c, rdAll_cons, rdAll_nil, startE, rb_ok, rl_some, ro_ok, rs_nx, rs_rt, rd_d, rd_m, at_k, set_k, list_of, dat_of, int_of, bool_of, p_ixl, p_ixt, p_lt, p_add, p_sub, p_int, p_lent, p_lenl, tupleP, Bool.not_true, Bool.not_false, cond_true, cond_false, List.map, List.replicate, List.cons_append, List.nil_append, List.getElem?_cons_zero, List.getElem?_cons_succ, List.set_cons_zero, List.set_cons_succ, List.length_cons, List.length_nil, Nat.zero_add, Nat.reduceAdd, Nat.reduceSub, Nat.reduceLeDiff, Nat.sub_self, if_true, if_false, ↓reduceIte, reduceCtorEq, fin_d0, fin_d1, dats_nil, dats_1, dats_2, dats_3, dats_4, tab_bank, int_t, int_f, rngc2, rngc3, a2_0, a2_1, a3_0, a3_1, a3_2, a4_0, a4_1, a4_2, a4_3, i2_0, i2_1, i3_0, i3_1, i3_2, eq_bank_bank, eq_bank_table, eq_bank_counter, eq_bank_register, eq_bank_agree, eq_bank_set, eq_move_look, eq_look_look, m_mul1, m_mul0, gT4, getl0, getl1, getl2, ge0, ge1, ge2, eq_ii, ne_ii, comp_consY, comp_nilY, clL_ok, cl2_ok, Int.reduceBEq, Int.mul_one, Int.mul_zero, Int.sub_zero, Int.add_zero, compR_ok, wipe_1, Nat.reduceLT, Int.reduceAdd, h, decide_false]
theorem bs3_move10 (as : PyData) (x y z k : Int) (S : Sto) : m_bank_step [.d (.tuple [.str "bank", as]), .d (.tuple [.int x, .int y, .int z]), .d (.tuple [.str "move", .int 1, .int 0, .int k])] S = some (.ok (.d (if y < k then (.tuple [.tuple [.int x, .int y, .int z], .bool false]) else (.tuple [.tuple [.int (x + k), .int (y - k), .int z], .bool true]))), S) := by
  unfold m_bank_step mDef b_bank_step
  by_cases h : y < k
  · simp only [s_seq, s_set, s_if, s_par, par2_ok, s_expr, s_ret, s_pass, s_asg, r_tab, tabOf, r_callV, DD.fnOf, r_mutL, seqOf, r_putOp, r_mut1, r_append, r_call, r_comp, r_range, r_items, r_un, r_not, r_and, r_or, r_andV, r_orV, r_ite, r_tup, r_lst, mut_m, r_fB, r_op, r_def, r_cons, r_nil, r_var, r_c, rdAll_cons, rdAll_nil, startE, rb_ok, rl_some, ro_ok, rs_nx, rs_rt, rd_d, rd_m, at_k, set_k, list_of, dat_of, int_of, bool_of, p_ixl, p_ixt, p_lt, p_add, p_sub, p_int, p_lent, p_lenl, tupleP, Bool.not_true, Bool.not_false, cond_true, cond_false, List.map, List.replicate, List.cons_append, List.nil_append, List.getElem?_cons_zero, List.getElem?_cons_succ, List.set_cons_zero, List.set_cons_succ, List.length_cons, List.length_nil, Nat.zero_add, Nat.reduceAdd, Nat.reduceSub, Nat.reduceLeDiff, Nat.sub_self, if_true, if_false, ↓reduceIte, reduceCtorEq, fin_d0, fin_d1, dats_nil, dats_1, dats_2, dats_3, dats_4, tab_bank, int_t, int_f, rngc2, rngc3, a2_0, a2_1, a3_0, a3_1, a3_2, a4_0, a4_1, a4_2, a4_3, i2_0, i2_1, i3_0, i3_1, i3_2, eq_bank_bank, eq_bank_table, eq_bank_counter, eq_bank_register, eq_bank_agree, eq_bank_set, eq_move_look, eq_look_look, m_mul1, m_mul0, gT4, getl0, getl1, getl2, ge0, ge1, ge2, eq_ii, ne_ii, comp_consY, comp_nilY, clL_ok, cl2_ok, Int.reduceBEq, Int.mul_one, Int.mul_zero, Int.sub_zero, Int.add_zero, compR_ok, wipe_1, Nat.reduceLT, Int.reduceAdd, h, decide_true]
  · simp only [s_seq, s_set, s_if, s_par, par2_ok, s_expr, s_ret, s_pass, s_asg, r_tab, tabOf, r_callV, DD.fnOf, r_mutL, seqOf, r_putOp, r_mut1, r_append, r_call, r_comp, r_range, r_items, r_un, r_not, r_and, r_or, r_andV, r_orV, r_ite, r_tup, r_lst, mut_m, r_fB, r_op, r_def, r_cons, r_nil, r_var, r_c, rdAll_cons, rdAll_nil, startE, rb_ok, rl_some, ro_ok, rs_nx, rs_rt, rd_d, rd_m, at_k, set_k, list_of, dat_of, int_of, bool_of, p_ixl, p_ixt, p_lt, p_add, p_sub, p_int, p_lent, p_lenl, tupleP, Bool.not_true, Bool.not_false, cond_true, cond_false, List.map, List.replicate, List.cons_append, List.nil_append, List.getElem?_cons_zero, List.getElem?_cons_succ, List.set_cons_zero, List.set_cons_succ, List.length_cons, List.length_nil, Nat.zero_add, Nat.reduceAdd, Nat.reduceSub, Nat.reduceLeDiff, Nat.sub_self, if_true, if_false, ↓reduceIte, reduceCtorEq, fin_d0, fin_d1, dats_nil, dats_1, dats_2, dats_3, dats_4, tab_bank, int_t, int_f, rngc2, rngc3, a2_0, a2_1, a3_0, a3_1, a3_2, a4_0, a4_1, a4_2, a4_3, i2_0, i2_1, i3_0, i3_1, i3_2, eq_bank_bank, eq_bank_table, eq_bank_counter, eq_bank_register, eq_bank_agree, eq_bank_set, eq_move_look, eq_look_look, m_mul1, m_mul0, gT4, getl0, getl1, getl2, ge0, ge1, ge2, eq_ii, ne_ii, comp_consY, comp_nilY, clL_ok, cl2_ok, Int.reduceBEq, Int.mul_one, Int.mul_zero, Int.sub_zero, Int.add_zero, compR_ok, wipe_1, Nat.reduceLT, Int.reduceAdd, h, decide_false]
theorem ld3_move10 (as : PyData) (x y z k : Int) (S : Sto) : m_Ldo [.d (.tuple [.str "bank", as]), .d (.tuple [.int x, .int y, .int z]), .d (.tuple [.str "move", .int 1, .int 0, .int k])] S = some (.ok (.d (if y < k then (.tuple [.tuple [.int x, .int y, .int z], .bool false]) else (.tuple [.tuple [.int (x + k), .int (y - k), .int z], .bool true]))), S) := by
  unfold m_Ldo mDef b_Ldo
  by_cases h : y < k
  · simp only [s_seq, s_set, s_if, s_par, par2_ok, s_expr, s_ret, s_pass, s_asg, r_tab, tabOf, r_callV, DD.fnOf, r_mutL, seqOf, r_putOp, r_mut1, r_append, r_call, r_comp, r_range, r_items, r_un, r_not, r_and, r_or, r_andV, r_orV, r_ite, r_tup, r_lst, mut_m, r_fB, r_op, r_def, r_cons, r_nil, r_var, r_c, rdAll_cons, rdAll_nil, startE, rb_ok, rl_some, ro_ok, rs_nx, rs_rt, rd_d, rd_m, at_k, set_k, list_of, dat_of, int_of, bool_of, p_ixl, p_ixt, p_lt, p_add, p_sub, p_int, p_lent, p_lenl, tupleP, Bool.not_true, Bool.not_false, cond_true, cond_false, List.map, List.replicate, List.cons_append, List.nil_append, List.getElem?_cons_zero, List.getElem?_cons_succ, List.set_cons_zero, List.set_cons_succ, List.length_cons, List.length_nil, Nat.zero_add, Nat.reduceAdd, Nat.reduceSub, Nat.reduceLeDiff, Nat.sub_self, if_true, if_false, ↓reduceIte, reduceCtorEq, fin_d0, fin_d1, dats_nil, dats_1, dats_2, dats_3, dats_4, tab_bank, int_t, int_f, rngc2, rngc3, a2_0, a2_1, a3_0, a3_1, a3_2, a4_0, a4_1, a4_2, a4_3, i2_0, i2_1, i3_0, i3_1, i3_2, eq_bank_bank, eq_bank_table, eq_bank_counter, eq_bank_register, eq_bank_agree, eq_bank_set, eq_move_look, eq_look_look, m_mul1, m_mul0, gT4, getl0, getl1, getl2, ge0, ge1, ge2, eq_ii, ne_ii, comp_consY, comp_nilY, clL_ok, cl2_ok, Int.reduceBEq, Int.mul_one, Int.mul_zero, Int.sub_zero, Int.add_zero, compR_ok, wipe_1, Nat.reduceLT, Int.reduceAdd, h, decide_true]
  · simp only [s_seq, s_set, s_if, s_par, par2_ok, s_expr, s_ret, s_pass, s_asg, r_tab, tabOf, r_callV, DD.fnOf, r_mutL, seqOf, r_putOp, r_mut1, r_append, r_call, r_comp, r_range, r_items, r_un, r_not, r_and, r_or, r_andV, r_orV, r_ite, r_tup, r_lst, mut_m, r_fB, r_op, r_def, r_cons, r_nil, r_var, r_c, rdAll_cons, rdAll_nil, startE, rb_ok, rl_some, ro_ok, rs_nx, rs_rt, rd_d, rd_m, at_k, set_k, list_of, dat_of, int_of, bool_of, p_ixl, p_ixt, p_lt, p_add, p_sub, p_int, p_lent, p_lenl, tupleP, Bool.not_true, Bool.not_false, cond_true, cond_false, List.map, List.replicate, List.cons_append, List.nil_append, List.getElem?_cons_zero, List.getElem?_cons_succ, List.set_cons_zero, List.set_cons_succ, List.length_cons, List.length_nil, Nat.zero_add, Nat.reduceAdd, Nat.reduceSub, Nat.reduceLeDiff, Nat.sub_self, if_true, if_false, ↓reduceIte, reduceCtorEq, fin_d0, fin_d1, dats_nil, dats_1, dats_2, dats_3, dats_4, tab_bank, int_t, int_f, rngc2, rngc3, a2_0, a2_1, a3_0, a3_1, a3_2, a4_0, a4_1, a4_2, a4_3, i2_0, i2_1, i3_0, i3_1, i3_2, eq_bank_bank, eq_bank_table, eq_bank_counter, eq_bank_register, eq_bank_agree, eq_bank_set, eq_move_look, eq_look_look, m_mul1, m_mul0, gT4, getl0, getl1, getl2, ge0, ge1, ge2, eq_ii, ne_ii, comp_consY, comp_nilY, clL_ok, cl2_ok, Int.reduceBEq, Int.mul_one, Int.mul_zero, Int.sub_zero, Int.add_zero, compR_ok, wipe_1, Nat.reduceLT, Int.reduceAdd, h, decide_false]
theorem bs3_move12 (as : PyData) (x y z k : Int) (S : Sto) : m_bank_step [.d (.tuple [.str "bank", as]), .d (.tuple [.int x, .int y, .int z]), .d (.tuple [.str "move", .int 1, .int 2, .int k])] S = some (.ok (.d (if y < k then (.tuple [.tuple [.int x, .int y, .int z], .bool false]) else (.tuple [.tuple [.int x, .int (y - k), .int (z + k)], .bool true]))), S) := by
  unfold m_bank_step mDef b_bank_step
  by_cases h : y < k
  · simp only [s_seq, s_set, s_if, s_par, par2_ok, s_expr, s_ret, s_pass, s_asg, r_tab, tabOf, r_callV, DD.fnOf, r_mutL, seqOf, r_putOp, r_mut1, r_append, r_call, r_comp, r_range, r_items, r_un, r_not, r_and, r_or, r_andV, r_orV, r_ite, r_tup, r_lst, mut_m, r_fB, r_op, r_def, r_cons, r_nil, r_var, r_c, rdAll_cons, rdAll_nil, startE, rb_ok, rl_some, ro_ok, rs_nx, rs_rt, rd_d, rd_m, at_k, set_k, list_of, dat_of, int_of, bool_of, p_ixl, p_ixt, p_lt, p_add, p_sub, p_int, p_lent, p_lenl, tupleP, Bool.not_true, Bool.not_false, cond_true, cond_false, List.map, List.replicate, List.cons_append, List.nil_append, List.getElem?_cons_zero, List.getElem?_cons_succ, List.set_cons_zero, List.set_cons_succ, List.length_cons, List.length_nil, Nat.zero_add, Nat.reduceAdd, Nat.reduceSub, Nat.reduceLeDiff, Nat.sub_self, if_true, if_false, ↓reduceIte, reduceCtorEq, fin_d0, fin_d1, dats_nil, dats_1, dats_2, dats_3, dats_4, tab_bank, int_t, int_f, rngc2, rngc3, a2_0, a2_1, a3_0, a3_1, a3_2, a4_0, a4_1, a4_2, a4_3, i2_0, i2_1, i3_0, i3_1, i3_2, eq_bank_bank, eq_bank_table, eq_bank_counter, eq_bank_register, eq_bank_agree, eq_bank_set, eq_move_look, eq_look_look, m_mul1, m_mul0, gT4, getl0, getl1, getl2, ge0, ge1, ge2, eq_ii, ne_ii, comp_consY, comp_nilY, clL_ok, cl2_ok, Int.reduceBEq, Int.mul_one, Int.mul_zero, Int.sub_zero, Int.add_zero, compR_ok, wipe_1, Nat.reduceLT, Int.reduceAdd, h, decide_true]
  · simp only [s_seq, s_set, s_if, s_par, par2_ok, s_expr, s_ret, s_pass, s_asg, r_tab, tabOf, r_callV, DD.fnOf, r_mutL, seqOf, r_putOp, r_mut1, r_append, r_call, r_comp, r_range, r_items, r_un, r_not, r_and, r_or, r_andV, r_orV, r_ite, r_tup, r_lst, mut_m, r_fB, r_op, r_def, r_cons, r_nil, r_var, r_c, rdAll_cons, rdAll_nil, startE, rb_ok, rl_some, ro_ok, rs_nx, rs_rt, rd_d, rd_m, at_k, set_k, list_of, dat_of, int_of, bool_of, p_ixl, p_ixt, p_lt, p_add, p_sub, p_int, p_lent, p_lenl, tupleP, Bool.not_true, Bool.not_false, cond_true, cond_false, List.map, List.replicate, List.cons_append, List.nil_append, List.getElem?_cons_zero, List.getElem?_cons_succ, List.set_cons_zero, List.set_cons_succ, List.length_cons, List.length_nil, Nat.zero_add, Nat.reduceAdd, Nat.reduceSub, Nat.reduceLeDiff, Nat.sub_self, if_true, if_false, ↓reduceIte, reduceCtorEq, fin_d0, fin_d1, dats_nil, dats_1, dats_2, dats_3, dats_4, tab_bank, int_t, int_f, rngc2, rngc3, a2_0, a2_1, a3_0, a3_1, a3_2, a4_0, a4_1, a4_2, a4_3, i2_0, i2_1, i3_0, i3_1, i3_2, eq_bank_bank, eq_bank_table, eq_bank_counter, eq_bank_register, eq_bank_agree, eq_bank_set, eq_move_look, eq_look_look, m_mul1, m_mul0, gT4, getl0, getl1, getl2, ge0, ge1, ge2, eq_ii, ne_ii, comp_consY, comp_nilY, clL_ok, cl2_ok, Int.reduceBEq, Int.mul_one, Int.mul_zero, Int.sub_zero, Int.add_zero, compR_ok, wipe_1, Nat.reduceLT, Int.reduceAdd, h, decide_false]
theorem ld3_move12 (as : PyData) (x y z k : Int) (S : Sto) : m_Ldo [.d (.tuple [.str "bank", as]), .d (.tuple [.int x, .int y, .int z]), .d (.tuple [.str "move", .int 1, .int 2, .int k])] S = some (.ok (.d (if y < k then (.tuple [.tuple [.int x, .int y, .int z], .bool false]) else (.tuple [.tuple [.int x, .int (y - k), .int (z + k)], .bool true]))), S) := by
  unfold m_Ldo mDef b_Ldo
  by_cases h : y < k
  · simp only [s_seq, s_set, s_if, s_par, par2_ok, s_expr, s_ret, s_pass, s_asg, r_tab, tabOf, r_callV, DD.fnOf, r_mutL, seqOf, r_putOp, r_mut1, r_append, r_call, r_comp, r_range, r_items, r_un, r_not, r_and, r_or, r_andV, r_orV, r_ite, r_tup, r_lst, mut_m, r_fB, r_op, r_def, r_cons, r_nil, r_var, r_c, rdAll_cons, rdAll_nil, startE, rb_ok, rl_some, ro_ok, rs_nx, rs_rt, rd_d, rd_m, at_k, set_k, list_of, dat_of, int_of, bool_of, p_ixl, p_ixt, p_lt, p_add, p_sub, p_int, p_lent, p_lenl, tupleP, Bool.not_true, Bool.not_false, cond_true, cond_false, List.map, List.replicate, List.cons_append, List.nil_append, List.getElem?_cons_zero, List.getElem?_cons_succ, List.set_cons_zero, List.set_cons_succ, List.length_cons, List.length_nil, Nat.zero_add, Nat.reduceAdd, Nat.reduceSub, Nat.reduceLeDiff, Nat.sub_self, if_true, if_false, ↓reduceIte, reduceCtorEq, fin_d0, fin_d1, dats_nil, dats_1, dats_2, dats_3, dats_4, tab_bank, int_t, int_f, rngc2, rngc3, a2_0, a2_1, a3_0, a3_1, a3_2, a4_0, a4_1, a4_2, a4_3, i2_0, i2_1, i3_0, i3_1, i3_2, eq_bank_bank, eq_bank_table, eq_bank_counter, eq_bank_register, eq_bank_agree, eq_bank_set, eq_move_look, eq_look_look, m_mul1, m_mul0, gT4, getl0, getl1, getl2, ge0, ge1, ge2, eq_ii, ne_ii, comp_consY, comp_nilY, clL_ok, cl2_ok, Int.reduceBEq, Int.mul_one, Int.mul_zero, Int.sub_zero, Int.add_zero, compR_ok, wipe_1, Nat.reduceLT, Int.reduceAdd, h, decide_true]
  · simp only [s_seq, s_set, s_if, s_par, par2_ok, s_expr, s_ret, s_pass, s_asg, r_tab, tabOf, r_callV, DD.fnOf, r_mutL, seqOf, r_putOp, r_mut1, r_append, r_call, r_comp, r_range, r_items, r_un, r_not, r_and, r_or, r_andV, r_orV, r_ite, r_tup, r_lst, mut_m, r_fB, r_op, r_def, r_cons, r_nil, r_var, r_c, rdAll_cons, rdAll_nil, startE, rb_ok, rl_some, ro_ok, rs_nx, rs_rt, rd_d, rd_m, at_k, set_k, list_of, dat_of, int_of, bool_of, p_ixl, p_ixt, p_lt, p_add, p_sub, p_int, p_lent, p_lenl, tupleP, Bool.not_true, Bool.not_false, cond_true, cond_false, List.map, List.replicate, List.cons_append, List.nil_append, List.getElem?_cons_zero, List.getElem?_cons_succ, List.set_cons_zero, List.set_cons_succ, List.length_cons, List.length_nil, Nat.zero_add, Nat.reduceAdd, Nat.reduceSub, Nat.reduceLeDiff, Nat.sub_self, if_true, if_false, ↓reduceIte, reduceCtorEq, fin_d0, fin_d1, dats_nil, dats_1, dats_2, dats_3, dats_4, tab_bank, int_t, int_f, rngc2, rngc3, a2_0, a2_1, a3_0, a3_1, a3_2, a4_0, a4_1, a4_2, a4_3, i2_0, i2_1, i3_0, i3_1, i3_2, eq_bank_bank, eq_bank_table, eq_bank_counter, eq_bank_register, eq_bank_agree, eq_bank_set, eq_move_look, eq_look_look, m_mul1, m_mul0, gT4, getl0, getl1, getl2, ge0, ge1, ge2, eq_ii, ne_ii, comp_consY, comp_nilY, clL_ok, cl2_ok, Int.reduceBEq, Int.mul_one, Int.mul_zero, Int.sub_zero, Int.add_zero, compR_ok, wipe_1, Nat.reduceLT, Int.reduceAdd, h, decide_false]
theorem bs3_move20 (as : PyData) (x y z k : Int) (S : Sto) : m_bank_step [.d (.tuple [.str "bank", as]), .d (.tuple [.int x, .int y, .int z]), .d (.tuple [.str "move", .int 2, .int 0, .int k])] S = some (.ok (.d (if z < k then (.tuple [.tuple [.int x, .int y, .int z], .bool false]) else (.tuple [.tuple [.int (x + k), .int y, .int (z - k)], .bool true]))), S) := by
  unfold m_bank_step mDef b_bank_step
  by_cases h : z < k
  · simp only [s_seq, s_set, s_if, s_par, par2_ok, s_expr, s_ret, s_pass, s_asg, r_tab, tabOf, r_callV, DD.fnOf, r_mutL, seqOf, r_putOp, r_mut1, r_append, r_call, r_comp, r_range, r_items, r_un, r_not, r_and, r_or, r_andV, r_orV, r_ite, r_tup, r_lst, mut_m, r_fB, r_op, r_def, r_cons, r_nil, r_var, r_c, rdAll_cons, rdAll_nil, startE, rb_ok, rl_some, ro_ok, rs_nx, rs_rt, rd_d, rd_m, at_k, set_k, list_of, dat_of, int_of, bool_of, p_ixl, p_ixt, p_lt, p_add, p_sub, p_int, p_lent, p_lenl, tupleP, Bool.not_true, Bool.not_false, cond_true, cond_false, List.map, List.replicate, List.cons_append, List.nil_append, List.getElem?_cons_zero, List.getElem?_cons_succ, List.set_cons_zero, List.set_cons_succ, List.length_cons, List.length_nil, Nat.zero_add, Nat.reduceAdd, Nat.reduceSub, Nat.reduceLeDiff, Nat.sub_self, if_true, if_false, ↓reduceIte, reduceCtorEq, fin_d0, fin_d1, dats_nil, dats_1, dats_2, dats_3, dats_4, tab_bank, int_t, int_f, rngc2, rngc3, a2_0, a2_1, a3_0, a3_1, a3_2, a4_0, a4_1, a4_2, a4_3, i2_0, i2_1, i3_0, i3_1, i3_2, eq_bank_bank, eq_bank_table, eq_bank_counter, eq_bank_register, eq_bank_agree, eq_bank_set, eq_move_look, eq_look_look, m_mul1, m_mul0, gT4, getl0, getl1, getl2, ge0, ge1, ge2, eq_ii, ne_ii, comp_consY, comp_nilY, clL_ok, cl2_ok, Int.reduceBEq, Int.mul_one, Int.mul_zero, Int.sub_zero, Int.add_zero, compR_ok, wipe_1, Nat.reduceLT, Int.reduceAdd, h, decide_true]
  · simp only [s_seq, s_set, s_if, s_par, par2_ok, s_expr, s_ret, s_pass, s_asg, r_tab, tabOf, r_callV, DD.fnOf, r_mutL, seqOf, r_putOp, r_mut1, r_append, r_call, r_comp, r_range, r_items, r_un, r_not, r_and, r_or, r_andV, r_orV, r_ite, r_tup, r_lst, mut_m, r_fB, r_op, r_def, r_cons, r_nil, r_var, r_c, rdAll_cons, rdAll_nil, startE, rb_ok, rl_some, ro_ok, rs_nx, rs_rt, rd_d, rd_m, at_k, set_k, list_of, dat_of, int_of, bool_of, p_ixl, p_ixt, p_lt, p_add, p_sub, p_int, p_lent, p_lenl, tupleP, Bool.not_true, Bool.not_false, cond_true, cond_false, List.map, List.replicate, List.cons_append, List.nil_append, List.getElem?_cons_zero, List.getElem?_cons_succ, List.set_cons_zero, List.set_cons_succ, List.length_cons, List.length_nil, Nat.zero_add, Nat.reduceAdd, Nat.reduceSub, Nat.reduceLeDiff, Nat.sub_self, if_true, if_false, ↓reduceIte, reduceCtorEq, fin_d0, fin_d1, dats_nil, dats_1, dats_2, dats_3, dats_4, tab_bank, int_t, int_f, rngc2, rngc3, a2_0, a2_1, a3_0, a3_1, a3_2, a4_0, a4_1, a4_2, a4_3, i2_0, i2_1, i3_0, i3_1, i3_2, eq_bank_bank, eq_bank_table, eq_bank_counter, eq_bank_register, eq_bank_agree, eq_bank_set, eq_move_look, eq_look_look, m_mul1, m_mul0, gT4, getl0, getl1, getl2, ge0, ge1, ge2, eq_ii, ne_ii, comp_consY, comp_nilY, clL_ok, cl2_ok, Int.reduceBEq, Int.mul_one, Int.mul_zero, Int.sub_zero, Int.add_zero, compR_ok, wipe_1, Nat.reduceLT, Int.reduceAdd, h, decide_false]
theorem ld3_move20 (as : PyData) (x y z k : Int) (S : Sto) : m_Ldo [.d (.tuple [.str "bank", as]), .d (.tuple [.int x, .int y, .int z]), .d (.tuple [.str "move", .int 2, .int 0, .int k])] S = some (.ok (.d (if z < k then (.tuple [.tuple [.int x, .int y, .int z], .bool false]) else (.tuple [.tuple [.int (x + k), .int y, .int (z - k)], .bool true]))), S) := by
  unfold m_Ldo mDef b_Ldo
  by_cases h : z < k
  · simp only [s_seq, s_set, s_if, s_par, par2_ok, s_expr, s_ret, s_pass, s_asg, r_tab, tabOf, r_callV, DD.fnOf, r_mutL, seqOf, r_putOp, r_mut1, r_append, r_call, r_comp, r_range, r_items, r_un, r_not, r_and, r_or, r_andV, r_orV, r_ite, r_tup, r_lst, mut_m, r_fB, r_op, r_def, r_cons, r_nil, r_var, r_c, rdAll_cons, rdAll_nil, startE, rb_ok, rl_some, ro_ok, rs_nx, rs_rt, rd_d, rd_m, at_k, set_k, list_of, dat_of, int_of, bool_of, p_ixl, p_ixt, p_lt, p_add, p_sub, p_int, p_lent, p_lenl, tupleP, Bool.not_true, Bool.not_false, cond_true, cond_false, List.map, List.replicate, List.cons_append, List.nil_append, List.getElem?_cons_zero, List.getElem?_cons_succ, List.set_cons_zero, List.set_cons_succ, List.length_cons, List.length_nil, Nat.zero_add, Nat.reduceAdd, Nat.reduceSub, Nat.reduceLeDiff, Nat.sub_self, if_true, if_false, ↓reduceIte, reduceCtorEq, fin_d0, fin_d1, dats_nil, dats_1, dats_2, dats_3, dats_4, tab_bank, int_t, int_f, rngc2, rngc3, a2_0, a2_1, a3_0, a3_1, a3_2, a4_0, a4_1, a4_2, a4_3, i2_0, i2_1, i3_0, i3_1, i3_2, eq_bank_bank, eq_bank_table, eq_bank_counter, eq_bank_register, eq_bank_agree, eq_bank_set, eq_move_look, eq_look_look, m_mul1, m_mul0, gT4, getl0, getl1, getl2, ge0, ge1, ge2, eq_ii, ne_ii, comp_consY, comp_nilY, clL_ok, cl2_ok, Int.reduceBEq, Int.mul_one, Int.mul_zero, Int.sub_zero, Int.add_zero, compR_ok, wipe_1, Nat.reduceLT, Int.reduceAdd, h, decide_true]
  · simp only [s_seq, s_set, s_if, s_par, par2_ok, s_expr, s_ret, s_pass, s_asg, r_tab, tabOf, r_callV, DD.fnOf, r_mutL, seqOf, r_putOp, r_mut1, r_append, r_call, r_comp, r_range, r_items, r_un, r_not, r_and, r_or, r_andV, r_orV, r_ite, r_tup, r_lst, mut_m, r_fB, r_op, r_def, r_cons, r_nil, r_var, r_c, rdAll_cons, rdAll_nil, startE, rb_ok, rl_some, ro_ok, rs_nx, rs_rt, rd_d, rd_m, at_k, set_k, list_of, dat_of, int_of, bool_of, p_ixl, p_ixt, p_lt, p_add, p_sub, p_int, p_lent, p_lenl, tupleP, Bool.not_true, Bool.not_false, cond_true, cond_false, List.map, List.replicate, List.cons_append, List.nil_append, List.getElem?_cons_zero, List.getElem?_cons_succ, List.set_cons_zero, List.set_cons_succ, List.length_cons, List.length_nil, Nat.zero_add, Nat.reduceAdd, Nat.reduceSub, Nat.reduceLeDiff, Nat.sub_self, if_true, if_false, ↓reduceIte, reduceCtorEq, fin_d0, fin_d1, dats_nil, dats_1, dats_2, dats_3, dats_4, tab_bank, int_t, int_f, rngc2, rngc3, a2_0, a2_1, a3_0, a3_1, a3_2, a4_0, a4_1, a4_2, a4_3, i2_0, i2_1, i3_0, i3_1, i3_2, eq_bank_bank, eq_bank_table, eq_bank_counter, eq_bank_register, eq_bank_agree, eq_bank_set, eq_move_look, eq_look_look, m_mul1, m_mul0, gT4, getl0, getl1, getl2, ge0, ge1, ge2, eq_ii, ne_ii, comp_consY, comp_nilY, clL_ok, cl2_ok, Int.reduceBEq, Int.mul_one, Int.mul_zero, Int.sub_zero, Int.add_zero, compR_ok, wipe_1, Nat.reduceLT, Int.reduceAdd, h, decide_false]
theorem bs3_move21 (as : PyData) (x y z k : Int) (S : Sto) : m_bank_step [.d (.tuple [.str "bank", as]), .d (.tuple [.int x, .int y, .int z]), .d (.tuple [.str "move", .int 2, .int 1, .int k])] S = some (.ok (.d (if z < k then (.tuple [.tuple [.int x, .int y, .int z], .bool false]) else (.tuple [.tuple [.int x, .int (y + k), .int (z - k)], .bool true]))), S) := by
  unfold m_bank_step mDef b_bank_step
  by_cases h : z < k
  · simp only [s_seq, s_set, s_if, s_par, par2_ok, s_expr, s_ret, s_pass, s_asg, r_tab, tabOf, r_callV, DD.fnOf, r_mutL, seqOf, r_putOp, r_mut1, r_append, r_call, r_comp, r_range, r_items, r_un, r_not, r_and, r_or, r_andV, r_orV, r_ite, r_tup, r_lst, mut_m, r_fB, r_op, r_def, r_cons, r_nil, r_var, r_c, rdAll_cons, rdAll_nil, startE, rb_ok, rl_some, ro_ok, rs_nx, rs_rt, rd_d, rd_m, at_k, set_k, list_of, dat_of, int_of, bool_of, p_ixl, p_ixt, p_lt, p_add, p_sub, p_int, p_lent, p_lenl, tupleP, Bool.not_true, Bool.not_false, cond_true, cond_false, List.map, List.replicate, List.cons_append, List.nil_append, List.getElem?_cons_zero, List.getElem?_cons_succ, List.set_cons_zero, List.set_cons_succ, List.length_cons, List.length_nil, Nat.zero_add, Nat.reduceAdd, Nat.reduceSub, Nat.reduceLeDiff, Nat.sub_self, if_true, if_false, ↓reduceIte, reduceCtorEq, fin_d0, fin_d1, dats_nil, dats_1, dats_2, dats_3, dats_4, tab_bank, int_t, int_f, rngc2, rngc3, a2_0, a2_1, a3_0, a3_1, a3_2, a4_0, a4_1, a4_2, a4_3, i2_0, i2_1, i3_0, i3_1, i3_2, eq_bank_bank, eq_bank_table, eq_bank_counter, eq_bank_register, eq_bank_agree, eq_bank_set, eq_move_look, eq_look_look, m_mul1, m_mul0, gT4, getl0, getl1, getl2, ge0, ge1, ge2, eq_ii, ne_ii, comp_consY, comp_nilY, clL_ok, cl2_ok, Int.reduceBEq, Int.mul_one, Int.mul_zero, Int.sub_zero, Int.add_zero, compR_ok, wipe_1, Nat.reduceLT, Int.reduceAdd, h, decide_true]
  · simp only [s_seq, s_set, s_if, s_par, par2_ok, s_expr, s_ret, s_pass, s_asg, r_tab, tabOf, r_callV, DD.fnOf, r_mutL, seqOf, r_putOp, r_mut1, r_append, r_call, r_comp, r_range, r_items, r_un, r_not, r_and, r_or, r_andV, r_orV, r_ite, r_tup, r_lst, mut_m, r_fB, r_op, r_def, r_cons, r_nil, r_var, r_c, rdAll_cons, rdAll_nil, startE, rb_ok, rl_some, ro_ok, rs_nx, rs_rt, rd_d, rd_m, at_k, set_k, list_of, dat_of, int_of, bool_of, p_ixl, p_ixt, p_lt, p_add, p_sub, p_int, p_lent, p_lenl, tupleP, Bool.not_true, Bool.not_false, cond_true, cond_false, List.map, List.replicate, List.cons_append, List.nil_append, List.getElem?_cons_zero, List.getElem?_cons_succ, List.set_cons_zero, List.set_cons_succ, List.length_cons, List.length_nil, Nat.zero_add, Nat.reduceAdd, Nat.reduceSub, Nat.reduceLeDiff, Nat.sub_self, if_true, if_false, ↓reduceIte, reduceCtorEq, fin_d0, fin_d1, dats_nil, dats_1, dats_2, dats_3, dats_4, tab_bank, int_t, int_f, rngc2, rngc3, a2_0, a2_1, a3_0, a3_1, a3_2, a4_0, a4_1, a4_2, a4_3, i2_0, i2_1, i3_0, i3_1, i3_2, eq_bank_bank, eq_bank_table, eq_bank_counter, eq_bank_register, eq_bank_agree, eq_bank_set, eq_move_look, eq_look_look, m_mul1, m_mul0, gT4, getl0, getl1, getl2, ge0, ge1, ge2, eq_ii, ne_ii, comp_consY, comp_nilY, clL_ok, cl2_ok, Int.reduceBEq, Int.mul_one, Int.mul_zero, Int.sub_zero, Int.add_zero, compR_ok, wipe_1, Nat.reduceLT, Int.reduceAdd, h, decide_false]
theorem ld3_move21 (as : PyData) (x y z k : Int) (S : Sto) : m_Ldo [.d (.tuple [.str "bank", as]), .d (.tuple [.int x, .int y, .int z]), .d (.tuple [.str "move", .int 2, .int 1, .int k])] S = some (.ok (.d (if z < k then (.tuple [.tuple [.int x, .int y, .int z], .bool false]) else (.tuple [.tuple [.int x, .int (y + k), .int (z - k)], .bool true]))), S) := by
  unfold m_Ldo mDef b_Ldo
  by_cases h : z < k
  · simp only [s_seq, s_set, s_if, s_par, par2_ok, s_expr, s_ret, s_pass, s_asg, r_tab, tabOf, r_callV, DD.fnOf, r_mutL, seqOf, r_putOp, r_mut1, r_append, r_call, r_comp, r_range, r_items, r_un, r_not, r_and, r_or, r_andV, r_orV, r_ite, r_tup, r_lst, mut_m, r_fB, r_op, r_def, r_cons, r_nil, r_var, r_c, rdAll_cons, rdAll_nil, startE, rb_ok, rl_some, ro_ok, rs_nx, rs_rt, rd_d, rd_m, at_k, set_k, list_of, dat_of, int_of, bool_of, p_ixl, p_ixt, p_lt, p_add, p_sub, p_int, p_lent, p_lenl, tupleP, Bool.not_true, Bool.not_false, cond_true, cond_false, List.map, List.replicate, List.cons_append, List.nil_append, List.getElem?_cons_zero, List.getElem?_cons_succ, List.set_cons_zero, List.set_cons_succ, List.length_cons, List.length_nil, Nat.zero_add, Nat.reduceAdd, Nat.reduceSub, Nat.reduceLeDiff, Nat.sub_self, if_true, if_false, ↓reduceIte, reduceCtorEq, fin_d0, fin_d1, dats_nil, dats_1, dats_2, dats_3, dats_4, tab_bank, int_t, int_f, rngc2, rngc3, a2_0, a2_1, a3_0, a3_1, a3_2, a4_0, a4_1, a4_2, a4_3, i2_0, i2_1, i3_0, i3_1, i3_2, eq_bank_bank, eq_bank_table, eq_bank_counter, eq_bank_register, eq_bank_agree, eq_bank_set, eq_move_look, eq_look_look, m_mul1, m_mul0, gT4, getl0, getl1, getl2, ge0, ge1, ge2, eq_ii, ne_ii, comp_consY, comp_nilY, clL_ok, cl2_ok, Int.reduceBEq, Int.mul_one, Int.mul_zero, Int.sub_zero, Int.add_zero, compR_ok, wipe_1, Nat.reduceLT, Int.reduceAdd, h, decide_true]
  · simp only [s_seq, s_set, s_if, s_par, par2_ok, s_expr, s_ret, s_pass, s_asg, r_tab, tabOf, r_callV, DD.fnOf, r_mutL, seqOf, r_putOp, r_mut1, r_append, r_call, r_comp, r_range, r_items, r_un, r_not, r_and, r_or, r_andV, r_orV, r_ite, r_tup, r_lst, mut_m, r_fB, r_op, r_def, r_cons, r_nil, r_var, r_c, rdAll_cons, rdAll_nil, startE, rb_ok, rl_some, ro_ok, rs_nx, rs_rt, rd_d, rd_m, at_k, set_k, list_of, dat_of, int_of, bool_of, p_ixl, p_ixt, p_lt, p_add, p_sub, p_int, p_lent, p_lenl, tupleP, Bool.not_true, Bool.not_false, cond_true, cond_false, List.map, List.replicate, List.cons_append, List.nil_append, List.getElem?_cons_zero, List.getElem?_cons_succ, List.set_cons_zero, List.set_cons_succ, List.length_cons, List.length_nil, Nat.zero_add, Nat.reduceAdd, Nat.reduceSub, Nat.reduceLeDiff, Nat.sub_self, if_true, if_false, ↓reduceIte, reduceCtorEq, fin_d0, fin_d1, dats_nil, dats_1, dats_2, dats_3, dats_4, tab_bank, int_t, int_f, rngc2, rngc3, a2_0, a2_1, a3_0, a3_1, a3_2, a4_0, a4_1, a4_2, a4_3, i2_0, i2_1, i3_0, i3_1, i3_2, eq_bank_bank, eq_bank_table, eq_bank_counter, eq_bank_register, eq_bank_agree, eq_bank_set, eq_move_look, eq_look_look, m_mul1, m_mul0, gT4, getl0, getl1, getl2, ge0, ge1, ge2, eq_ii, ne_ii, comp_consY, comp_nilY, clL_ok, cl2_ok, Int.reduceBEq, Int.mul_one, Int.mul_zero, Int.sub_zero, Int.add_zero, compR_ok, wipe_1, Nat.reduceLT, Int.reduceAdd, h, decide_false]
theorem step_bank (as s c : PyData) (v : PyData) (S : Sto) (h : m_bank_step [.d (.tuple [.str "bank", as]), .d s, .d c] S = some (.ok (.d v), S)) : m_step [.d (.tuple [.str "bank", as]), .d s, .d c] S = some (.ok (.d v), S) := by
  unfold m_step mDef b_step
  have hv : vlook [("_counter_step", 3, m_counter_step), ("_register_step", 3, m_register_step), ("_stack_step", 3, m_stack_step), ("_queue_step", 3, m_queue_step), ("_set_step", 3, m_set_step), ("_agree_step", 3, m_agree_step), ("_bank_step", 3, m_bank_step), ("_table_step", 3, m_table_step)] "_bank_step" = some (3, m_bank_step) := rfl
  simp only [s_seq, s_set, s_if, s_par, par2_ok, s_expr, s_ret, s_pass, s_asg, r_tab, tabOf, r_callV, DD.fnOf, r_mutL, seqOf, r_putOp, r_mut1, r_append, r_call, r_comp, r_range, r_items, r_un, r_not, r_and, r_or, r_andV, r_orV, r_ite, r_tup, r_lst, mut_m, r_fB, r_op, r_def, r_cons, r_nil, r_var, r_c, rdAll_cons, rdAll_nil, startE, rb_ok, rl_some, ro_ok, rs_nx, rs_rt, rd_d, rd_m, at_k, set_k, list_of, dat_of, int_of, bool_of, p_ixl, p_ixt, p_lt, p_add, p_sub, p_int, p_lent, p_lenl, tupleP, Bool.not_true, Bool.not_false, cond_true, cond_false, List.map, List.replicate, List.cons_append, List.nil_append, List.getElem?_cons_zero, List.getElem?_cons_succ, List.set_cons_zero, List.set_cons_succ, List.length_cons, List.length_nil, Nat.zero_add, Nat.reduceAdd, Nat.reduceSub, Nat.reduceLeDiff, Nat.sub_self, if_true, if_false, ↓reduceIte, reduceCtorEq, fin_d0, fin_d1, dats_nil, dats_1, dats_2, dats_3, dats_4, a2_0, tab_bank, hv, h]
end K00
/-! part P8 -/
set_option linter.all false
set_option maxRecDepth 100000
set_option maxHeartbeats 4000000
namespace K00
open DD PySem PySem.W
def lookC (a : Int) : PyData := .tuple [.str "look", .int a]
def moveC (a b k : Int) : PyData := .tuple [.str "move", .int a, .int b, .int k]
def movesC (a b : Int) : List PyData := [moveC a b 1, moveC a b 2, moveC a b 3]
def C2 : List PyData := [lookC 0, lookC 1] ++ (movesC 0 1 ++ movesC 1 0)
def C3 : List PyData := [lookC 0, lookC 1, lookC 2] ++ (movesC 0 1 ++ (movesC 0 2 ++ (movesC 1 0 ++ (movesC 1 2 ++ (movesC 2 0 ++ movesC 2 1)))))
def T1 : List PyData := [.tuple [.str "do", .int 0]]
def T2 : List PyData := [.tuple [.str "do", .int 0], .tuple [.str "do", .int 1]]
def T3 : List PyData := [.tuple [.str "do", .int 0], .tuple [.str "do", .int 1], .tuple [.str "do", .int 2]]
def Cs : List (List PyData) := [C2, C3, T1, T2, T3]
def okC (C : List PyData) : Bool :=
  decide (C.length ≤ 1000) && C.all (plainN 3) &&
  C.all (fun c => match C.filter fun z => PyData.eqv z c with | z :: _ => sm z c | [] => false) && headT C &&
  C.all (fun c => sm c c) && C.all (fun c => match c with | .tuple xs => decide (xs.length ≤ 100) | _ => true) &&
  (askL C).all (fun v => C.any (fun c => sm c v) == goodC C v) && !goodC C .none && !goodC C (badR C)
theorem k_okC : Cs.all okC = true := by kernel_rfl
theorem k_isinC : Cs.map (fun C => (oddOf C ++ C).map fun v => inP false v (.list C)) = Cs.map fun C => (oddOf C ++ C).map fun v => some (.bool (firstEq C v).isSome) := by kernel_rfl
theorem k_eqsC : Cs.map (fun C => (oddOf C ++ C).map fun v => C.map fun z => eqP z v) = Cs.map fun C => (oddOf C ++ C).map fun v => C.map fun z => some (.bool (PyData.eqv z v)) := by kernel_rfl
def likesC : List (PyData × PyData) := Cs.flatMap fun C => (oddOf C).flatMap fun v => match firstEq C v with
  | some z => [(v, z)]
  | none => []
theorem k_likeC (x : MO) : likesC.map (fun q => m_Lalike 12 [.d q.1, .d q.2] [x]) = likesC.map fun q => okD x (.bool (sm q.1 q.2)) := by kernel_rfl
def samesC : List (PyData × PyData) := Cs.flatMap fun C => (askL C).flatMap fun v => C.map fun c => (c, v)
theorem k_sameC (x : MO) : samesC.map (fun q => m_same 12 [.d q.1, .d q.2] [x]) = samesC.map fun q => okD x (.bool (sm q.1 q.2)) := by kernel_rfl
theorem cf_of {C : List PyData} (hC : C ∈ Cs) : CF C := by
  have g := List.all_eq_true.mp k_okC C hC
  unfold okC at g
  simp only [Bool.and_eq_true] at g
  obtain ⟨⟨⟨⟨⟨⟨⟨⟨g1, g2⟩, g3⟩, g4⟩, g5⟩, g6⟩, g7⟩, g8⟩, g9⟩ := g
  refine ⟨of_decide_eq_true g1, List.all_eq_true.mp g2, fun c hc => ?_, ?_, fun v hv => ?_, fun v hv => ?_, List.all_eq_true.mp g5, fun xs h => ?_, fun v hv z hz x => ?_, fun v hv c hc x => ?_, fun v hv => ?_, ?_, ?_⟩
  · have e := List.all_eq_true.mp g3 c hc
    unfold firstEq
    split at e
    · rename_i z zs e2
      rw [e2, sm_eq _ _ e]
      rfl
    · cases e
  · unfold headT at g4
    split at g4
    · rename_i h cs C'
      exact ⟨h, cs, C', rfl⟩
    · cases g4
  · have h1 := each k_isinC C hC
    have h2 := each h1 v hv
    exact h2
  · have h1 := each k_eqsC C hC
    have h2 := each h1 v hv
    have h3 := each h2
    exact h3
  · exact of_decide_eq_true (List.all_eq_true.mp g6 _ h)
  · have h1 := each (k_likeC x) (v, z) (List.mem_flatMap.mpr ⟨C, hC, List.mem_flatMap.mpr ⟨v, hv, by rw [hz]; exact List.mem_singleton.mpr rfl⟩⟩)
    exact h1
  · have h1 := each (k_sameC x) (c, v) (List.mem_flatMap.mpr ⟨C, hC, List.mem_flatMap.mpr ⟨v, hv, List.mem_map.mpr ⟨c, hc, rfl⟩⟩⟩)
    exact h1
  · exact eq_of_beq (List.all_eq_true.mp g7 v hv)
  · cases h : goodC C .none with
    | false => rfl
    | true => rw [h] at g8; cases g8
  · cases h : goodC C (badR C) with
    | false => rfl
    | true => rw [h] at g9; cases g9
end K00
/-! part P9 -/
set_option linter.all false
set_option maxRecDepth 100000
set_option maxHeartbeats 4000000
namespace DD
open PySem
def chK (op' : PyData → PyData → Option PyData) (t : PyData) (k1 : Sto → R Vl) (S : Sto) : R Vl := match t with
  | .bool false => some (.ok (.d (.bool false)), S)
  | .bool true => k1 S
  | _ => none
theorem chK_t (op' : PyData → PyData → Option PyData) (k1 : Sto → R Vl) (S : Sto) : chK op' (.bool true) k1 S = k1 S := rfl
theorem chK_f (op' : PyData → PyData → Option PyData) (k1 : Sto → R Vl) (S : Sto) : chK op' (.bool false) k1 S = some (.ok (.d (.bool false)), S) := rfl
theorem r_chain {op op' : PyData → PyData → Option PyData} {f g h : Ev → M Vl} {ev : Ev} {S : Sto} : fChain op op' f g h ev S = rb (f ev S) fun x S1 => rb (g ev S1) fun y S2 => rb (rd x S2) fun a S3 => rb (rd y S3) fun b S4 => rl (op a b) fun t => chK op' t (fun S4 => rb (h ev S4) fun z S5 => rb (rd y S5) fun b S6 => rb (rd z S6) fun c S7 => rl (op' b c) fun u => some (.ok (.d u), S7)) S4 := by
  unfold fChain
  simp only [bind_rb, lift_r]
  congr 1; funext x S1
  congr 1; funext y S2
  congr 1; funext a S3
  congr 1; funext b S4
  congr 1; funext t
  cases t with
  | bool b =>
    cases b with
    | true => simp only [chK, bind_rb, lift_r, pure_r]
    | false => rfl
  | _ => rfl
theorem r_notV {f : Ev → M Vl} {ev : Ev} {S : Sto} : fNotV f ev S = rb (f ev S) fun x S1 => rl (boolOf x) fun b => some (.ok (.d (.bool (!b))), S1) := by
  unfold fNotV
  simp only [bind_rb]
  congr 1; funext x S1
  unfold boolOf rl
  cases x with
  | d x => cases x <;> rfl
  | _ => rfl
end DD
namespace K00
open DD PySem PySem.W
theorem sh_cases {P : Sto → Prop} (h0 : P []) (h1 : ∀ x, P [x]) (h2 : ∀ x y, P [x, y]) (h3 : ∀ x y z, P [x, y, z]) : ∀ S : Sto, S.length ≤ 3 → P S
  | [], _ => h0
  | [x], _ => h1 x
  | [x, y], _ => h2 x y
  | [x, y, z], _ => h3 x y z
  | _ :: _ :: _ :: _ :: _, h => by simp at h
theorem shaped_list {l : List PyData} (h : ∀ a ∈ l, PyData.canLay0 a = true ∧ PyData.depth a ≤ 3) : SeqAt.shaped (.list l) = true := by
  have key : PyData.canLayAll0 l = true ∧ PyData.depthAll l ≤ 3 := by
    induction l with
    | nil => exact ⟨rfl, Nat.zero_le _⟩
    | cons a l ih =>
      obtain ⟨i1, i2⟩ := ih fun b hb => h b (List.mem_cons_of_mem _ hb)
      obtain ⟨a1, a2⟩ := h a (List.mem_cons_self ..)
      unfold PyData.canLayAll0 PyData.depthAll
      exact ⟨by rw [a1, i1]; rfl, Nat.max_le.mpr ⟨a2, i2⟩⟩
  unfold SeqAt.shaped PyData.canLay0 PyData.depth
  rw [key.1]
  simp only [Bool.true_and]
  exact decide_eq_true (by have := key.2; omega)
theorem is_int_run (x : Int) (S : Sto) : m_is_integer [.d (.int x)] S = some (.ok (.d (.bool true)), S) := by
  have h1 : isiP .int (.int x) = some (.bool true) := rfl
  have h2 : isiP .bool (.int x) = some (.bool false) := rfl
  unfold m_is_integer mDef b_is_integer
  simp only [s_ret, r_andV, r_notV, r_un, r_var, startE, rb_ok, rl_some, ro_ok, rd_d, h1, h2, bool_of, Bool.not_false, cond_true, List.map, List.replicate, List.cons_append, List.nil_append, List.getElem?_cons_zero, List.length_cons, List.length_nil, Nat.zero_add, Nat.sub_self, fin_d1]
theorem within_run (x lo hi : Int) (S : Sto) : m_is_within [.d (.int x), .d (.int lo), .d (.int hi)] S = some (.ok (.d (.bool (decide (lo ≤ x) && decide (x ≤ hi)))), S) := by
  have h := is_int_run x S
  unfold m_is_within mDef b_is_within
  by_cases h1 : lo ≤ x
  · simp only [s_ret, r_andV, r_chain, r_def, r_cons, r_nil, r_var, startE, rb_ok, rl_some, ro_ok, rd_d, p_le, h, h1, decide_true, Bool.true_and, chK_t, bool_of, cond_true, List.map, List.replicate, List.cons_append, List.nil_append, List.getElem?_cons_zero, List.getElem?_cons_succ, List.length_cons, List.length_nil, Nat.zero_add, Nat.reduceAdd, Nat.sub_self, if_true, fin_d1]
  · simp only [s_ret, r_andV, r_chain, r_def, r_cons, r_nil, r_var, startE, rb_ok, rl_some, ro_ok, rd_d, p_le, h, h1, decide_false, Bool.false_and, chK_f, bool_of, cond_true, List.map, List.replicate, List.cons_append, List.nil_append, List.getElem?_cons_zero, List.getElem?_cons_succ, List.length_cons, List.length_nil, Nat.zero_add, Nat.reduceAdd, Nat.sub_self, if_true, fin_d1]
def inI (lo hi : Int) : PyData → Bool
  | .int x => decide (lo ≤ x) && decide (x ≤ hi)
  | _ => false
theorem are_within_run (xs : List PyData) (hx : ∀ d ∈ xs, ∃ i : Int, d = .int i) (hl : xs.length ≤ 1000) (lo hi : Int) (S : Sto) : m_are_within [.d (.tuple xs), .d (.int lo), .d (.int hi)] S = some (.ok (.d (.bool (xs.all (inI lo hi)))), S) := by
  have h1 : isiP .tup (.tuple xs) = some (.bool true) := rfl
  have hw : wipeE [some (.d (.tuple xs)), some (.d (.int lo)), some (.d (.int hi)), none] [3] = [some (.d (.tuple xs)), some (.d (.int lo)), some (.d (.int hi)), none] := rfl
  have hc : compL (gN 3) fYes (fDef 3 m_is_within (fCons (fVar 3) (fCons (fVar 1) (fCons (fVar 2) fNil)))) [some (.d (.tuple xs)), some (.d (.int lo)), some (.d (.int hi)), none] xs S = some (xs.map fun c => .bool (inI lo hi c), S) := by
    refine comp_map (g := fun c => .bool (inI lo hi c)) fun d hd => ?_
    obtain ⟨i, rfl⟩ := hx d hd
    have h := within_run i lo hi S
    simp only [r_def, r_cons, r_nil, r_var, rb_ok, rl_some, List.set_cons_zero, List.set_cons_succ, List.getElem?_cons_zero, List.getElem?_cons_succ, List.length_cons, List.length_nil, Nat.zero_add, Nat.reduceAdd, if_true, h, inI]
  unfold m_are_within mDef b_are_within
  simp only [s_ret, r_andV, r_un, r_call, r_comp, r_items, r_cons, r_nil, r_var, startE, rdAll_cons, rdAll_nil, rb_ok, rl_some, ro_ok, rd_d, its_t, h1, bool_of, cond_true, hw, hc, compR_some _ _ (show (xs.map fun c => PyData.bool (inI lo hi c)).length ≤ 1000000 by rw [List.length_map]; omega), all_map, List.map_cons, List.map_nil, List.replicate, List.cons_append, List.nil_append, List.getElem?_cons_zero, List.getElem?_cons_succ, List.length_cons, List.length_nil, Nat.zero_add, Nat.reduceAdd, Nat.reduceSub, if_true, fin_d1]
end K00
/-! part P10 -/
set_option linter.all false
set_option maxRecDepth 100000
set_option maxHeartbeats 4000000
namespace K00
open DD PySem PySem.W
def six : List PyData := [.int 0, .int 1, .int 2, .int 3, .int 4, .int 5]
def banks : List PyData := (six.flatMap fun a => six.map fun b => bankT [a, b]) ++ six.flatMap fun a => six.flatMap fun b => six.map fun c => bankT [a, b, c]
theorem k_bform (x : MO) : banks.map (fun t => m_has_form [.d t] [x]) = banks.map fun _ => okD x (.bool true) := by kernel_rfl
theorem k_blform (x : MO) : banks.map (fun t => m_Lis_object [.d t] [x]) = banks.map fun _ => okD x (.bool true) := by kernel_rfl
def bwrongs : List (PyData × PyData) := banks.flatMap fun t => wrongS.map fun v => (t, v)
theorem k_bwrong (x : MO) : bwrongs.map (fun q => m_has_state [.d q.1, .d q.2] [x]) = bwrongs.map fun _ => okD x (.bool false) := by kernel_rfl
theorem six_mem {i : Int} (h0 : 0 ≤ i) (h : i < 6) : PyData.int i ∈ six := by
  unfold six
  simp only [List.mem_cons, PyData.int.injEq, List.not_mem_nil, or_false]
  omega
theorem has_state_bank (as : List PyData) (v : PyData) (T : Int) (xs : List PyData) (x : MO) (hv : v = .tuple xs) (hs : sumP [.tuple as] = some (.int T)) (hsx : sumP [.tuple xs] = some (.int T)) (hx : ∀ d ∈ xs, ∃ i : Int, d = .int i) (hl : xs.length ≤ 1000) (hle : xs.length = as.length) (hin : xs.all (inI 0 T) = true) : m_has_state [.d (bankT as), .d v] [x] = okD x (.bool true) := by
  subst hv
  have h := are_within_run xs hx hl 0 T [x]
  rw [hin] at h
  have e1 : eqP (.str "bank") (.str "bank") = some (.bool true) := by kernel_rfl
  have e2 : eqP (.str "bank") (.str "agree") = some (.bool false) := by kernel_rfl
  have e3 : eqP (.str "bank") (.str "set") = some (.bool false) := by kernel_rfl
  have i1 : inP false (.str "bank") (.tuple [.str "counter", .str "register"]) = some (.bool false) := by kernel_rfl
  have i2 : inP false (.str "bank") (.tuple [.str "stack", .str "queue"]) = some (.bool false) := by kernel_rfl
  have e4 : eqP (.int xs.length) (.int as.length) = some (.bool true) := by rw [eq_ii, hle]; simp
  have e5 : eqP (.int T) (.int T) = some (.bool true) := by rw [eq_ii]; simp
  unfold bankT
  unfold m_has_state mDef b_has_state okD
  simp only [s_seq, s_set, s_if, s_ret, s_pass, r_fB, r_andV, r_op, r_call, r_tup, r_def, r_cons, r_nil, r_var, r_c, rdAll_cons, rdAll_nil, startE, rb_ok, rl_some, ro_ok, rs_nx, rs_rt, rd_d, p_ixt, a2_0, a2_1, p_lent, dats_2, e1, e2, e3, e4, e5, i1, i2, hs, hsx, h, bool_of, cond_true, cond_false, List.map, List.replicate, List.cons_append, List.nil_append, List.getElem?_cons_zero, List.getElem?_cons_succ, List.set_cons_zero, List.set_cons_succ, List.length_cons, List.length_nil, Nat.zero_add, Nat.reduceAdd, Nat.reduceSub, Nat.reduceLeDiff, if_true, fin_d, List.take_succ_cons, List.take_zero]
def amt (xs : List PyData) (a : Int) : Int := match L2.atI xs a with
  | some (.int i) => i
  | _ => 0
def bankF : PyData → PyData → PyData × PyData
  | .tuple xs, .tuple [_, .int a] => (.tuple xs, .int (amt xs a))
  | .tuple xs, .tuple [_, .int a, .int b, .int k] => if amt xs a < k then (.tuple xs, .bool false) else (.tuple ((xs.set a.toNat (.int (amt xs a - k))).set b.toNat (.int (amt xs b + k))), .bool true)
  | s, _ => (s, .none)

def U2 (T : Nat) : List PyData := (List.range 16).map (fun i : Nat => PyData.tuple [.int (i : Int), .int ((T : Int) - (i : Int))]) |>.filter fun d => match d with | .tuple [.int x, .int y] => decide (0 ≤ y) | _ => false
theorem memU2 {T : Nat} (hT : T ≤ 15) {s : PyData} : s ∈ U2 T ↔ ∃ x y : Int, s = PyData.tuple [.int x, .int y] ∧ 0 ≤ x ∧ 0 ≤ y ∧ x + y = T := by
  unfold U2
  rw [List.mem_filter]
  constructor
  · rintro ⟨h, g⟩
    obtain ⟨i, hi, rfl⟩ := List.mem_map.mp h
    have g' := of_decide_eq_true g
    exact ⟨i, _, rfl, by omega, g', by omega⟩
  · rintro ⟨x, y, rfl, hx, hy, e⟩
    refine ⟨List.mem_map.mpr ⟨x.toNat, List.mem_range.mpr (by omega), ?_⟩, decide_eq_true hy⟩
    have e1 : ((x.toNat : Nat) : Int) = x := by omega
    rw [e1, show (T : Int) - x = y by omega]
theorem lenU2 {T : Nat} : (U2 T).length ≤ 1000 := by
  unfold U2
  refine Nat.le_trans (List.length_filter_le _ _) ?_
  simp
theorem lc2 (p q : PyData) : ∀ S : Sto, S.length ≤ 3 → m_Lcalls [.d (bankT [p, q])] S = some (.ok (.d (.list C2)), S) := sh_cases (by kernel_rfl) (fun _ => by kernel_rfl) (fun _ _ => by kernel_rfl) (fun _ _ _ => by kernel_rfl)
theorem rw2 (p q : PyData) : ∀ S : Sto, S.length ≤ 3 → m_call_rows [.d (bankT [p, q])] S = some (.ok (.d (.list C2)), S) := sh_cases (by kernel_rfl) (fun _ => by kernel_rfl) (fun _ _ => by kernel_rfl) (fun _ _ _ => by kernel_rfl)
theorem lf2 (p q : PyData) : ∀ S : Sto, S.length ≤ 3 → m_Lfirst [.d (bankT [p, q])] S = some (.ok (.d (.tuple [p, q])), S) := sh_cases (by kernel_rfl) (fun _ => by kernel_rfl) (fun _ _ => by kernel_rfl) (fun _ _ _ => by kernel_rfl)
theorem sr2 (p q : PyData) : ∀ S : Sto, S.length ≤ 3 → m_start [.d (bankT [p, q])] S = some (.ok (.d (.tuple [p, q])), S) := sh_cases (by kernel_rfl) (fun _ => by kernel_rfl) (fun _ _ => by kernel_rfl) (fun _ _ _ => by kernel_rfl)
theorem callC2 {c : PyData} (h : c ∈ C2) : c = lookC 0 ∨ c = lookC 1 ∨ (∃ k : Int, 1 ≤ k ∧ c = moveC 0 1 k) ∨ (∃ k : Int, 1 ≤ k ∧ c = moveC 1 0 k) := by
  unfold C2 movesC at h
  simp only [List.mem_append, List.mem_cons, List.not_mem_nil, or_false] at h
  have k1 : (1 : Int) ≤ 1 := by decide
  have k2 : (1 : Int) ≤ 2 := by decide
  have k3 : (1 : Int) ≤ 3 := by decide
  rcases h with h | h
  · rcases h with h | h
    all_goals (subst h; simp)
  · rcases h with h | h
    all_goals (rcases h with h | h | h)
    all_goals (subst h)
    · exact .inr (.inr (.inl ⟨1, k1, rfl⟩))
    · exact .inr (.inr (.inl ⟨2, k2, rfl⟩))
    · exact .inr (.inr (.inl ⟨3, k3, rfl⟩))
    · exact .inr (.inr (.inr (⟨1, k1, rfl⟩)))
    · exact .inr (.inr (.inr (⟨2, k2, rfl⟩)))
    · exact .inr (.inr (.inr (⟨3, k3, rfl⟩)))
theorem stepB2 (p q : PyData) {T : Nat} (hT : T ≤ 15) : ∀ s ∈ U2 T, ∀ c ∈ C2, ∀ S : Sto, S.length ≤ 3 → m_step [.d (bankT [p, q]), .d s, .d c] S = some (.ok (.d (.tuple [(bankF s c).1, (bankF s c).2])), S) := by
  intro s hs c hc S _
  obtain ⟨x, y, rfl, _⟩ := (memU2 hT).mp hs
  rcases callC2 hc with rfl | rfl | ⟨k, _, rfl⟩ | ⟨k, _, rfl⟩
  · exact step_bank _ _ _ _ S (bs2_look0 _ x y S)
  · exact step_bank _ _ _ _ S (bs2_look1 _ x y S)
  · have h := step_bank (.tuple [p, q]) _ _ _ S (bs2_move01 (.tuple [p, q]) x y k S)
    rw [show bankT [p, q] = .tuple [.str "bank", .tuple [p, q]] from rfl, show moveC 0 1 k = .tuple [.str "move", .int 0, .int 1, .int k] from rfl, h]
    by_cases hk : x < k
    · have e : bankF (PyData.tuple [.int x, .int y]) (.tuple [.str "move", .int 0, .int 1, .int k]) = (PyData.tuple [.int x, .int y], .bool false) := if_pos hk
      rw [if_pos hk, e]
    · have e : bankF (PyData.tuple [.int x, .int y]) (.tuple [.str "move", .int 0, .int 1, .int k]) = _ := if_neg hk
      rw [if_neg hk, e]
      rfl
  · have h := step_bank (.tuple [p, q]) _ _ _ S (bs2_move10 (.tuple [p, q]) x y k S)
    rw [show bankT [p, q] = .tuple [.str "bank", .tuple [p, q]] from rfl, show moveC 1 0 k = .tuple [.str "move", .int 1, .int 0, .int k] from rfl, h]
    by_cases hk : y < k
    · have e : bankF (PyData.tuple [.int x, .int y]) (.tuple [.str "move", .int 1, .int 0, .int k]) = (PyData.tuple [.int x, .int y], .bool false) := if_pos hk
      rw [if_pos hk, e]
    · have e : bankF (PyData.tuple [.int x, .int y]) (.tuple [.str "move", .int 1, .int 0, .int k]) = _ := if_neg hk
      rw [if_neg hk, e]
      rfl
theorem ldoB2 (p q : PyData) {T : Nat} (hT : T ≤ 15) : ∀ s ∈ U2 T, ∀ c ∈ C2, ∀ S : Sto, S.length ≤ 3 → m_Ldo [.d (bankT [p, q]), .d s, .d c] S = some (.ok (.d (.tuple [(bankF s c).1, (bankF s c).2])), S) := by
  intro s hs c hc S _
  obtain ⟨x, y, rfl, _⟩ := (memU2 hT).mp hs
  rcases callC2 hc with rfl | rfl | ⟨k, _, rfl⟩ | ⟨k, _, rfl⟩
  · exact ld2_look0 _ x y S
  · exact ld2_look1 _ x y S
  · have h := ld2_move01 (.tuple [p, q]) x y k S
    rw [show bankT [p, q] = .tuple [.str "bank", .tuple [p, q]] from rfl, show moveC 0 1 k = .tuple [.str "move", .int 0, .int 1, .int k] from rfl, h]
    by_cases hk : x < k
    · have e : bankF (PyData.tuple [.int x, .int y]) (.tuple [.str "move", .int 0, .int 1, .int k]) = (PyData.tuple [.int x, .int y], .bool false) := if_pos hk
      rw [if_pos hk, e]
    · have e : bankF (PyData.tuple [.int x, .int y]) (.tuple [.str "move", .int 0, .int 1, .int k]) = _ := if_neg hk
      rw [if_neg hk, e]
      rfl
  · have h := ld2_move10 (.tuple [p, q]) x y k S
    rw [show bankT [p, q] = .tuple [.str "bank", .tuple [p, q]] from rfl, show moveC 1 0 k = .tuple [.str "move", .int 1, .int 0, .int k] from rfl, h]
    by_cases hk : y < k
    · have e : bankF (PyData.tuple [.int x, .int y]) (.tuple [.str "move", .int 1, .int 0, .int k]) = (PyData.tuple [.int x, .int y], .bool false) := if_pos hk
      rw [if_pos hk, e]
    · have e : bankF (PyData.tuple [.int x, .int y]) (.tuple [.str "move", .int 1, .int 0, .int k]) = _ := if_neg hk
      rw [if_neg hk, e]
      rfl
theorem inB2 {T : Nat} (hT : T ≤ 15) : ∀ s ∈ U2 T, ∀ c ∈ C2, (bankF s c).1 ∈ U2 T ∧ plainN 3 (bankF s c).2 = true := by
  intro s hs c hc
  obtain ⟨x, y, rfl, hx, hy, e⟩ := (memU2 hT).mp hs
  rcases callC2 hc with rfl | rfl | ⟨k, hk1, rfl⟩ | ⟨k, hk1, rfl⟩
  · exact ⟨hs, rfl⟩
  · exact ⟨hs, rfl⟩
  · by_cases hk : x < k
    · have e : bankF (PyData.tuple [.int x, .int y]) (moveC 0 1 k) = (PyData.tuple [.int x, .int y], .bool false) := if_pos hk
      rw [e]; exact ⟨hs, rfl⟩
    · have e2 : bankF (PyData.tuple [.int x, .int y]) (moveC 0 1 k) = (.tuple [.int (x - k), .int (y + k)], .bool true) := if_neg hk
      rw [e2]
      exact ⟨(memU2 hT).mpr ⟨(x - k), (y + k), rfl, by omega, by omega, by omega⟩, rfl⟩
  · by_cases hk : y < k
    · have e : bankF (PyData.tuple [.int x, .int y]) (moveC 1 0 k) = (PyData.tuple [.int x, .int y], .bool false) := if_pos hk
      rw [e]; exact ⟨hs, rfl⟩
    · have e2 : bankF (PyData.tuple [.int x, .int y]) (moveC 1 0 k) = (.tuple [.int (x + k), .int (y - k)], .bool true) := if_neg hk
      rw [e2]
      exact ⟨(memU2 hT).mpr ⟨(x + k), (y - k), rfl, by omega, by omega, by omega⟩, rfl⟩
theorem eqvB2 {x y x' y' : Int} : PyData.eqv (PyData.tuple [.int x, .int y]) (PyData.tuple [.int x', .int y']) = true ↔ PyData.tuple [.int x, .int y] = PyData.tuple [.int x', .int y'] := by
  simp [PyData.eqv, PyData.eqvAll]
theorem sysB2 (p q : Int) {T : Nat} (hT : T ≤ 15) (hp : 0 ≤ p) ( hq : 0 ≤ q) (hs : p + q = T) : Sys (bankT [.int p, .int q]) C2 (U2 T) (.tuple [.int p, .int q]) bankF where
  lfirst := lf2 (.int p) (.int q)
  start := sr2 (.int p) (.int q)
  lcalls := lc2 (.int p) (.int q)
  rows := rw2 (.int p) (.int q)
  ldo := ldoB2 _ _ hT
  step := stepB2 _ _ hT
  inU := fun s h c hc => (inB2 hT s h c hc).1
  u0 := (memU2 hT).mpr ⟨p, q, rfl, hp, hq, hs⟩
  eqv := fun s h u g => by
    obtain ⟨x, y, rfl, _⟩ := (memU2 hT).mp h
    obtain ⟨x', y', rfl, _⟩ := (memU2 hT).mp g
    exact eqvB2
  sh := fun s h => by
    obtain ⟨x, y, rfl, _⟩ := (memU2 hT).mp h
    rfl
  shl := fun l h _ => shaped_list fun s hs => by
    obtain ⟨x, y, rfl, _⟩ := (memU2 hT).mp (h s hs)
    exact ⟨rfl, by simp [PyData.depth, PyData.depthAll]⟩
  key := ⟨true, fun s h => by
    obtain ⟨x, y, rfl, _⟩ := (memU2 hT).mp h
    exact ⟨_, rfl, by simp [NestedKey.depth, NestedKey.depthAll], rfl⟩⟩
  lenU := lenU2
theorem partsB2 (p q : Int) (hp : 0 ≤ p) (hq : 0 ≤ q) (hp6 : p < 6) (hq6 : q < 6) : ∃ U s0 f, Parts (bankT [.int p, .int q]) C2 U s0 f := by
  obtain ⟨T, hT⟩ : ∃ T : Nat, p + q = (T : Int) := ⟨(p + q).toNat, by omega⟩
  have hT15 : T ≤ 15 := by omega
  have hm : bankT [.int p, .int q] ∈ banks := List.mem_append.mpr (.inl (List.mem_flatMap.mpr ⟨_, six_mem hp hp6, List.mem_map.mpr ⟨_, six_mem hq hq6, rfl⟩⟩))
  refine ⟨U2 T, _, bankF, ⟨sysB2 p q hT15 hp hq hT, cf_of (by simp [Cs]), fun w => each (k_bform w) _ hm, fun w => each (k_blform w) _ hm, fun s h => ?_, fun s h c hc => (inB2 hT15 s h c hc).2, fun L hre F => ⟨fun s h w => ?_, fun v hv w => ?_⟩, ⟨.str "bank", _, rfl, .inl rfl⟩⟩⟩
  · obtain ⟨x, y, rfl, _⟩ := (memU2 hT15).mp h
    rfl
  · obtain ⟨x, y, rfl, gx, gy, e⟩ := (memU2 hT15).mp (F.sub s h)
    refine has_state_bank _ _ (T : Int) _ w rfl ?_ ?_ ?_ (by simp) (by simp) ?_
    · show some (PyData.int [p, q].sum) = _
      rw [show [p, q].sum = (T : Int) by simp; omega]
    · show some (PyData.int [x, y].sum) = _
      rw [show [x, y].sum = (T : Int) by simp; omega]
    · intro d hd
      simp only [List.mem_cons, List.not_mem_nil, or_false] at hd
      rcases hd with rfl | rfl <;> exact ⟨_, rfl⟩
    · simp only [List.all_cons, List.all_nil, inI, Bool.and_true, Bool.and_eq_true, decide_eq_true_eq]
      omega
  · have h1 := each (k_bwrong w) (_, v) (List.mem_flatMap.mpr ⟨_, hm, List.mem_map.mpr ⟨v, hv, rfl⟩⟩)
    exact h1
def U3 (T : Nat) : List PyData := ((List.range 16).flatMap fun i : Nat => (List.range 16).map fun j : Nat => PyData.tuple [.int (i : Int), .int (j : Int), .int ((T : Int) - (i : Int) - (j : Int))]) |>.filter fun d => match d with | .tuple [.int x, .int y, .int z] => decide (0 ≤ z) | _ => false
theorem memU3 {T : Nat} (hT : T ≤ 15) {s : PyData} : s ∈ U3 T ↔ ∃ x y z : Int, s = PyData.tuple [.int x, .int y, .int z] ∧ 0 ≤ x ∧ 0 ≤ y ∧ 0 ≤ z ∧ x + y + z = T := by
  unfold U3
  rw [List.mem_filter]
  constructor
  · rintro ⟨h, g⟩
    obtain ⟨i, hi, h⟩ := List.mem_flatMap.mp h
    obtain ⟨j, hj, rfl⟩ := List.mem_map.mp h
    have g' := of_decide_eq_true g
    exact ⟨i, j, _, rfl, by omega, by omega, g', by omega⟩
  · rintro ⟨x, y, z, rfl, hx, hy, hz, e⟩
    refine ⟨List.mem_flatMap.mpr ⟨x.toNat, List.mem_range.mpr (by omega), List.mem_map.mpr ⟨y.toNat, List.mem_range.mpr (by omega), ?_⟩⟩, decide_eq_true hz⟩
    have e1 : ((x.toNat : Nat) : Int) = x := by omega
    have e2 : ((y.toNat : Nat) : Int) = y := by omega
    rw [e1, e2, show (T : Int) - x - y = z by omega]
theorem lenU3 {T : Nat} : (U3 T).length ≤ 1000 := by
  unfold U3
  refine Nat.le_trans (List.length_filter_le _ _) ?_
  simp [List.length_flatMap]
  decide
theorem lc3 (p q r : PyData) : ∀ S : Sto, S.length ≤ 3 → m_Lcalls [.d (bankT [p, q, r])] S = some (.ok (.d (.list C3)), S) := sh_cases (by kernel_rfl) (fun _ => by kernel_rfl) (fun _ _ => by kernel_rfl) (fun _ _ _ => by kernel_rfl)
theorem rw3 (p q r : PyData) : ∀ S : Sto, S.length ≤ 3 → m_call_rows [.d (bankT [p, q, r])] S = some (.ok (.d (.list C3)), S) := sh_cases (by kernel_rfl) (fun _ => by kernel_rfl) (fun _ _ => by kernel_rfl) (fun _ _ _ => by kernel_rfl)
theorem lf3 (p q r : PyData) : ∀ S : Sto, S.length ≤ 3 → m_Lfirst [.d (bankT [p, q, r])] S = some (.ok (.d (.tuple [p, q, r])), S) := sh_cases (by kernel_rfl) (fun _ => by kernel_rfl) (fun _ _ => by kernel_rfl) (fun _ _ _ => by kernel_rfl)
theorem sr3 (p q r : PyData) : ∀ S : Sto, S.length ≤ 3 → m_start [.d (bankT [p, q, r])] S = some (.ok (.d (.tuple [p, q, r])), S) := sh_cases (by kernel_rfl) (fun _ => by kernel_rfl) (fun _ _ => by kernel_rfl) (fun _ _ _ => by kernel_rfl)
theorem callC3 {c : PyData} (h : c ∈ C3) : c = lookC 0 ∨ c = lookC 1 ∨ c = lookC 2 ∨ (∃ k : Int, 1 ≤ k ∧ c = moveC 0 1 k) ∨ (∃ k : Int, 1 ≤ k ∧ c = moveC 0 2 k) ∨ (∃ k : Int, 1 ≤ k ∧ c = moveC 1 0 k) ∨ (∃ k : Int, 1 ≤ k ∧ c = moveC 1 2 k) ∨ (∃ k : Int, 1 ≤ k ∧ c = moveC 2 0 k) ∨ (∃ k : Int, 1 ≤ k ∧ c = moveC 2 1 k) := by
  unfold C3 movesC at h
  simp only [List.mem_append, List.mem_cons, List.not_mem_nil, or_false] at h
  have k1 : (1 : Int) ≤ 1 := by decide
  have k2 : (1 : Int) ≤ 2 := by decide
  have k3 : (1 : Int) ≤ 3 := by decide
  rcases h with h | h
  · rcases h with h | h | h
    all_goals (subst h; simp)
  · rcases h with h | h | h | h | h | h
    all_goals (rcases h with h | h | h)
    all_goals (subst h)
    · exact .inr (.inr (.inr (.inl ⟨1, k1, rfl⟩)))
    · exact .inr (.inr (.inr (.inl ⟨2, k2, rfl⟩)))
    · exact .inr (.inr (.inr (.inl ⟨3, k3, rfl⟩)))
    · exact .inr (.inr (.inr (.inr (.inl ⟨1, k1, rfl⟩))))
    · exact .inr (.inr (.inr (.inr (.inl ⟨2, k2, rfl⟩))))
    · exact .inr (.inr (.inr (.inr (.inl ⟨3, k3, rfl⟩))))
    · exact .inr (.inr (.inr (.inr (.inr (.inl ⟨1, k1, rfl⟩)))))
    · exact .inr (.inr (.inr (.inr (.inr (.inl ⟨2, k2, rfl⟩)))))
    · exact .inr (.inr (.inr (.inr (.inr (.inl ⟨3, k3, rfl⟩)))))
    · exact .inr (.inr (.inr (.inr (.inr (.inr (.inl ⟨1, k1, rfl⟩))))))
    · exact .inr (.inr (.inr (.inr (.inr (.inr (.inl ⟨2, k2, rfl⟩))))))
    · exact .inr (.inr (.inr (.inr (.inr (.inr (.inl ⟨3, k3, rfl⟩))))))
    · exact .inr (.inr (.inr (.inr (.inr (.inr (.inr (.inl ⟨1, k1, rfl⟩)))))))
    · exact .inr (.inr (.inr (.inr (.inr (.inr (.inr (.inl ⟨2, k2, rfl⟩)))))))
    · exact .inr (.inr (.inr (.inr (.inr (.inr (.inr (.inl ⟨3, k3, rfl⟩)))))))
    · exact .inr (.inr (.inr (.inr (.inr (.inr (.inr (.inr (⟨1, k1, rfl⟩))))))))
    · exact .inr (.inr (.inr (.inr (.inr (.inr (.inr (.inr (⟨2, k2, rfl⟩))))))))
    · exact .inr (.inr (.inr (.inr (.inr (.inr (.inr (.inr (⟨3, k3, rfl⟩))))))))
theorem stepB3 (p q r : PyData) {T : Nat} (hT : T ≤ 15) : ∀ s ∈ U3 T, ∀ c ∈ C3, ∀ S : Sto, S.length ≤ 3 → m_step [.d (bankT [p, q, r]), .d s, .d c] S = some (.ok (.d (.tuple [(bankF s c).1, (bankF s c).2])), S) := by
  intro s hs c hc S _
  obtain ⟨x, y, z, rfl, _⟩ := (memU3 hT).mp hs
  rcases callC3 hc with rfl | rfl | rfl | ⟨k, _, rfl⟩ | ⟨k, _, rfl⟩ | ⟨k, _, rfl⟩ | ⟨k, _, rfl⟩ | ⟨k, _, rfl⟩ | ⟨k, _, rfl⟩
  · exact step_bank _ _ _ _ S (bs3_look0 _ x y z S)
  · exact step_bank _ _ _ _ S (bs3_look1 _ x y z S)
  · exact step_bank _ _ _ _ S (bs3_look2 _ x y z S)
  · have h := step_bank (.tuple [p, q, r]) _ _ _ S (bs3_move01 (.tuple [p, q, r]) x y z k S)
    rw [show bankT [p, q, r] = .tuple [.str "bank", .tuple [p, q, r]] from rfl, show moveC 0 1 k = .tuple [.str "move", .int 0, .int 1, .int k] from rfl, h]
    by_cases hk : x < k
    · have e : bankF (PyData.tuple [.int x, .int y, .int z]) (.tuple [.str "move", .int 0, .int 1, .int k]) = (PyData.tuple [.int x, .int y, .int z], .bool false) := if_pos hk
      rw [if_pos hk, e]
    · have e : bankF (PyData.tuple [.int x, .int y, .int z]) (.tuple [.str "move", .int 0, .int 1, .int k]) = _ := if_neg hk
      rw [if_neg hk, e]
      rfl
  · have h := step_bank (.tuple [p, q, r]) _ _ _ S (bs3_move02 (.tuple [p, q, r]) x y z k S)
    rw [show bankT [p, q, r] = .tuple [.str "bank", .tuple [p, q, r]] from rfl, show moveC 0 2 k = .tuple [.str "move", .int 0, .int 2, .int k] from rfl, h]
    by_cases hk : x < k
    · have e : bankF (PyData.tuple [.int x, .int y, .int z]) (.tuple [.str "move", .int 0, .int 2, .int k]) = (PyData.tuple [.int x, .int y, .int z], .bool false) := if_pos hk
      rw [if_pos hk, e]
    · have e : bankF (PyData.tuple [.int x, .int y, .int z]) (.tuple [.str "move", .int 0, .int 2, .int k]) = _ := if_neg hk
      rw [if_neg hk, e]
      rfl
  · have h := step_bank (.tuple [p, q, r]) _ _ _ S (bs3_move10 (.tuple [p, q, r]) x y z k S)
    rw [show bankT [p, q, r] = .tuple [.str "bank", .tuple [p, q, r]] from rfl, show moveC 1 0 k = .tuple [.str "move", .int 1, .int 0, .int k] from rfl, h]
    by_cases hk : y < k
    · have e : bankF (PyData.tuple [.int x, .int y, .int z]) (.tuple [.str "move", .int 1, .int 0, .int k]) = (PyData.tuple [.int x, .int y, .int z], .bool false) := if_pos hk
      rw [if_pos hk, e]
    · have e : bankF (PyData.tuple [.int x, .int y, .int z]) (.tuple [.str "move", .int 1, .int 0, .int k]) = _ := if_neg hk
      rw [if_neg hk, e]
      rfl
  · have h := step_bank (.tuple [p, q, r]) _ _ _ S (bs3_move12 (.tuple [p, q, r]) x y z k S)
    rw [show bankT [p, q, r] = .tuple [.str "bank", .tuple [p, q, r]] from rfl, show moveC 1 2 k = .tuple [.str "move", .int 1, .int 2, .int k] from rfl, h]
    by_cases hk : y < k
    · have e : bankF (PyData.tuple [.int x, .int y, .int z]) (.tuple [.str "move", .int 1, .int 2, .int k]) = (PyData.tuple [.int x, .int y, .int z], .bool false) := if_pos hk
      rw [if_pos hk, e]
    · have e : bankF (PyData.tuple [.int x, .int y, .int z]) (.tuple [.str "move", .int 1, .int 2, .int k]) = _ := if_neg hk
      rw [if_neg hk, e]
      rfl
  · have h := step_bank (.tuple [p, q, r]) _ _ _ S (bs3_move20 (.tuple [p, q, r]) x y z k S)
    rw [show bankT [p, q, r] = .tuple [.str "bank", .tuple [p, q, r]] from rfl, show moveC 2 0 k = .tuple [.str "move", .int 2, .int 0, .int k] from rfl, h]
    by_cases hk : z < k
    · have e : bankF (PyData.tuple [.int x, .int y, .int z]) (.tuple [.str "move", .int 2, .int 0, .int k]) = (PyData.tuple [.int x, .int y, .int z], .bool false) := if_pos hk
      rw [if_pos hk, e]
    · have e : bankF (PyData.tuple [.int x, .int y, .int z]) (.tuple [.str "move", .int 2, .int 0, .int k]) = _ := if_neg hk
      rw [if_neg hk, e]
      rfl
  · have h := step_bank (.tuple [p, q, r]) _ _ _ S (bs3_move21 (.tuple [p, q, r]) x y z k S)
    rw [show bankT [p, q, r] = .tuple [.str "bank", .tuple [p, q, r]] from rfl, show moveC 2 1 k = .tuple [.str "move", .int 2, .int 1, .int k] from rfl, h]
    by_cases hk : z < k
    · have e : bankF (PyData.tuple [.int x, .int y, .int z]) (.tuple [.str "move", .int 2, .int 1, .int k]) = (PyData.tuple [.int x, .int y, .int z], .bool false) := if_pos hk
      rw [if_pos hk, e]
    · have e : bankF (PyData.tuple [.int x, .int y, .int z]) (.tuple [.str "move", .int 2, .int 1, .int k]) = _ := if_neg hk
      rw [if_neg hk, e]
      rfl
theorem ldoB3 (p q r : PyData) {T : Nat} (hT : T ≤ 15) : ∀ s ∈ U3 T, ∀ c ∈ C3, ∀ S : Sto, S.length ≤ 3 → m_Ldo [.d (bankT [p, q, r]), .d s, .d c] S = some (.ok (.d (.tuple [(bankF s c).1, (bankF s c).2])), S) := by
  intro s hs c hc S _
  obtain ⟨x, y, z, rfl, _⟩ := (memU3 hT).mp hs
  rcases callC3 hc with rfl | rfl | rfl | ⟨k, _, rfl⟩ | ⟨k, _, rfl⟩ | ⟨k, _, rfl⟩ | ⟨k, _, rfl⟩ | ⟨k, _, rfl⟩ | ⟨k, _, rfl⟩
  · exact ld3_look0 _ x y z S
  · exact ld3_look1 _ x y z S
  · exact ld3_look2 _ x y z S
  · have h := ld3_move01 (.tuple [p, q, r]) x y z k S
    rw [show bankT [p, q, r] = .tuple [.str "bank", .tuple [p, q, r]] from rfl, show moveC 0 1 k = .tuple [.str "move", .int 0, .int 1, .int k] from rfl, h]
    by_cases hk : x < k
    · have e : bankF (PyData.tuple [.int x, .int y, .int z]) (.tuple [.str "move", .int 0, .int 1, .int k]) = (PyData.tuple [.int x, .int y, .int z], .bool false) := if_pos hk
      rw [if_pos hk, e]
    · have e : bankF (PyData.tuple [.int x, .int y, .int z]) (.tuple [.str "move", .int 0, .int 1, .int k]) = _ := if_neg hk
      rw [if_neg hk, e]
      rfl
  · have h := ld3_move02 (.tuple [p, q, r]) x y z k S
    rw [show bankT [p, q, r] = .tuple [.str "bank", .tuple [p, q, r]] from rfl, show moveC 0 2 k = .tuple [.str "move", .int 0, .int 2, .int k] from rfl, h]
    by_cases hk : x < k
    · have e : bankF (PyData.tuple [.int x, .int y, .int z]) (.tuple [.str "move", .int 0, .int 2, .int k]) = (PyData.tuple [.int x, .int y, .int z], .bool false) := if_pos hk
      rw [if_pos hk, e]
    · have e : bankF (PyData.tuple [.int x, .int y, .int z]) (.tuple [.str "move", .int 0, .int 2, .int k]) = _ := if_neg hk
      rw [if_neg hk, e]
      rfl
  · have h := ld3_move10 (.tuple [p, q, r]) x y z k S
    rw [show bankT [p, q, r] = .tuple [.str "bank", .tuple [p, q, r]] from rfl, show moveC 1 0 k = .tuple [.str "move", .int 1, .int 0, .int k] from rfl, h]
    by_cases hk : y < k
    · have e : bankF (PyData.tuple [.int x, .int y, .int z]) (.tuple [.str "move", .int 1, .int 0, .int k]) = (PyData.tuple [.int x, .int y, .int z], .bool false) := if_pos hk
      rw [if_pos hk, e]
    · have e : bankF (PyData.tuple [.int x, .int y, .int z]) (.tuple [.str "move", .int 1, .int 0, .int k]) = _ := if_neg hk
      rw [if_neg hk, e]
      rfl
  · have h := ld3_move12 (.tuple [p, q, r]) x y z k S
    rw [show bankT [p, q, r] = .tuple [.str "bank", .tuple [p, q, r]] from rfl, show moveC 1 2 k = .tuple [.str "move", .int 1, .int 2, .int k] from rfl, h]
    by_cases hk : y < k
    · have e : bankF (PyData.tuple [.int x, .int y, .int z]) (.tuple [.str "move", .int 1, .int 2, .int k]) = (PyData.tuple [.int x, .int y, .int z], .bool false) := if_pos hk
      rw [if_pos hk, e]
    · have e : bankF (PyData.tuple [.int x, .int y, .int z]) (.tuple [.str "move", .int 1, .int 2, .int k]) = _ := if_neg hk
      rw [if_neg hk, e]
      rfl
  · have h := ld3_move20 (.tuple [p, q, r]) x y z k S
    rw [show bankT [p, q, r] = .tuple [.str "bank", .tuple [p, q, r]] from rfl, show moveC 2 0 k = .tuple [.str "move", .int 2, .int 0, .int k] from rfl, h]
    by_cases hk : z < k
    · have e : bankF (PyData.tuple [.int x, .int y, .int z]) (.tuple [.str "move", .int 2, .int 0, .int k]) = (PyData.tuple [.int x, .int y, .int z], .bool false) := if_pos hk
      rw [if_pos hk, e]
    · have e : bankF (PyData.tuple [.int x, .int y, .int z]) (.tuple [.str "move", .int 2, .int 0, .int k]) = _ := if_neg hk
      rw [if_neg hk, e]
      rfl
  · have h := ld3_move21 (.tuple [p, q, r]) x y z k S
    rw [show bankT [p, q, r] = .tuple [.str "bank", .tuple [p, q, r]] from rfl, show moveC 2 1 k = .tuple [.str "move", .int 2, .int 1, .int k] from rfl, h]
    by_cases hk : z < k
    · have e : bankF (PyData.tuple [.int x, .int y, .int z]) (.tuple [.str "move", .int 2, .int 1, .int k]) = (PyData.tuple [.int x, .int y, .int z], .bool false) := if_pos hk
      rw [if_pos hk, e]
    · have e : bankF (PyData.tuple [.int x, .int y, .int z]) (.tuple [.str "move", .int 2, .int 1, .int k]) = _ := if_neg hk
      rw [if_neg hk, e]
      rfl
theorem inB3 {T : Nat} (hT : T ≤ 15) : ∀ s ∈ U3 T, ∀ c ∈ C3, (bankF s c).1 ∈ U3 T ∧ plainN 3 (bankF s c).2 = true := by
  intro s hs c hc
  obtain ⟨x, y, z, rfl, hx, hy, hz, e⟩ := (memU3 hT).mp hs
  rcases callC3 hc with rfl | rfl | rfl | ⟨k, hk1, rfl⟩ | ⟨k, hk1, rfl⟩ | ⟨k, hk1, rfl⟩ | ⟨k, hk1, rfl⟩ | ⟨k, hk1, rfl⟩ | ⟨k, hk1, rfl⟩
  · exact ⟨hs, rfl⟩
  · exact ⟨hs, rfl⟩
  · exact ⟨hs, rfl⟩
  · by_cases hk : x < k
    · have e : bankF (PyData.tuple [.int x, .int y, .int z]) (moveC 0 1 k) = (PyData.tuple [.int x, .int y, .int z], .bool false) := if_pos hk
      rw [e]; exact ⟨hs, rfl⟩
    · have e2 : bankF (PyData.tuple [.int x, .int y, .int z]) (moveC 0 1 k) = (.tuple [.int (x - k), .int (y + k), .int z], .bool true) := if_neg hk
      rw [e2]
      exact ⟨(memU3 hT).mpr ⟨(x - k), (y + k), z, rfl, by omega, by omega, by omega, by omega⟩, rfl⟩
  · by_cases hk : x < k
    · have e : bankF (PyData.tuple [.int x, .int y, .int z]) (moveC 0 2 k) = (PyData.tuple [.int x, .int y, .int z], .bool false) := if_pos hk
      rw [e]; exact ⟨hs, rfl⟩
    · have e2 : bankF (PyData.tuple [.int x, .int y, .int z]) (moveC 0 2 k) = (.tuple [.int (x - k), .int y, .int (z + k)], .bool true) := if_neg hk
      rw [e2]
      exact ⟨(memU3 hT).mpr ⟨(x - k), y, (z + k), rfl, by omega, by omega, by omega, by omega⟩, rfl⟩
  · by_cases hk : y < k
    · have e : bankF (PyData.tuple [.int x, .int y, .int z]) (moveC 1 0 k) = (PyData.tuple [.int x, .int y, .int z], .bool false) := if_pos hk
      rw [e]; exact ⟨hs, rfl⟩
    · have e2 : bankF (PyData.tuple [.int x, .int y, .int z]) (moveC 1 0 k) = (.tuple [.int (x + k), .int (y - k), .int z], .bool true) := if_neg hk
      rw [e2]
      exact ⟨(memU3 hT).mpr ⟨(x + k), (y - k), z, rfl, by omega, by omega, by omega, by omega⟩, rfl⟩
  · by_cases hk : y < k
    · have e : bankF (PyData.tuple [.int x, .int y, .int z]) (moveC 1 2 k) = (PyData.tuple [.int x, .int y, .int z], .bool false) := if_pos hk
      rw [e]; exact ⟨hs, rfl⟩
    · have e2 : bankF (PyData.tuple [.int x, .int y, .int z]) (moveC 1 2 k) = (.tuple [.int x, .int (y - k), .int (z + k)], .bool true) := if_neg hk
      rw [e2]
      exact ⟨(memU3 hT).mpr ⟨x, (y - k), (z + k), rfl, by omega, by omega, by omega, by omega⟩, rfl⟩
  · by_cases hk : z < k
    · have e : bankF (PyData.tuple [.int x, .int y, .int z]) (moveC 2 0 k) = (PyData.tuple [.int x, .int y, .int z], .bool false) := if_pos hk
      rw [e]; exact ⟨hs, rfl⟩
    · have e2 : bankF (PyData.tuple [.int x, .int y, .int z]) (moveC 2 0 k) = (.tuple [.int (x + k), .int y, .int (z - k)], .bool true) := if_neg hk
      rw [e2]
      exact ⟨(memU3 hT).mpr ⟨(x + k), y, (z - k), rfl, by omega, by omega, by omega, by omega⟩, rfl⟩
  · by_cases hk : z < k
    · have e : bankF (PyData.tuple [.int x, .int y, .int z]) (moveC 2 1 k) = (PyData.tuple [.int x, .int y, .int z], .bool false) := if_pos hk
      rw [e]; exact ⟨hs, rfl⟩
    · have e2 : bankF (PyData.tuple [.int x, .int y, .int z]) (moveC 2 1 k) = (.tuple [.int x, .int (y + k), .int (z - k)], .bool true) := if_neg hk
      rw [e2]
      exact ⟨(memU3 hT).mpr ⟨x, (y + k), (z - k), rfl, by omega, by omega, by omega, by omega⟩, rfl⟩
theorem eqvB3 {x y z x' y' z' : Int} : PyData.eqv (PyData.tuple [.int x, .int y, .int z]) (PyData.tuple [.int x', .int y', .int z']) = true ↔ PyData.tuple [.int x, .int y, .int z] = PyData.tuple [.int x', .int y', .int z'] := by
  simp [PyData.eqv, PyData.eqvAll]
theorem sysB3 (p q r : Int) {T : Nat} (hT : T ≤ 15) (hp : 0 ≤ p) ( hq : 0 ≤ q) ( hr : 0 ≤ r) (hs : p + q + r = T) : Sys (bankT [.int p, .int q, .int r]) C3 (U3 T) (.tuple [.int p, .int q, .int r]) bankF where
  lfirst := lf3 (.int p) (.int q) (.int r)
  start := sr3 (.int p) (.int q) (.int r)
  lcalls := lc3 (.int p) (.int q) (.int r)
  rows := rw3 (.int p) (.int q) (.int r)
  ldo := ldoB3 _ _ _ hT
  step := stepB3 _ _ _ hT
  inU := fun s h c hc => (inB3 hT s h c hc).1
  u0 := (memU3 hT).mpr ⟨p, q, r, rfl, hp, hq, hr, hs⟩
  eqv := fun s h u g => by
    obtain ⟨x, y, z, rfl, _⟩ := (memU3 hT).mp h
    obtain ⟨x', y', z', rfl, _⟩ := (memU3 hT).mp g
    exact eqvB3
  sh := fun s h => by
    obtain ⟨x, y, z, rfl, _⟩ := (memU3 hT).mp h
    rfl
  shl := fun l h _ => shaped_list fun s hs => by
    obtain ⟨x, y, z, rfl, _⟩ := (memU3 hT).mp (h s hs)
    exact ⟨rfl, by simp [PyData.depth, PyData.depthAll]⟩
  key := ⟨true, fun s h => by
    obtain ⟨x, y, z, rfl, _⟩ := (memU3 hT).mp h
    exact ⟨_, rfl, by simp [NestedKey.depth, NestedKey.depthAll], rfl⟩⟩
  lenU := lenU3
theorem partsB3 (p q r : Int) (hp : 0 ≤ p) (hq : 0 ≤ q) (hr : 0 ≤ r) (hp6 : p < 6) (hq6 : q < 6) (hr6 : r < 6) : ∃ U s0 f, Parts (bankT [.int p, .int q, .int r]) C3 U s0 f := by
  obtain ⟨T, hT⟩ : ∃ T : Nat, p + q + r = (T : Int) := ⟨(p + q + r).toNat, by omega⟩
  have hT15 : T ≤ 15 := by omega
  have hm : bankT [.int p, .int q, .int r] ∈ banks := List.mem_append.mpr (.inr (List.mem_flatMap.mpr ⟨_, six_mem hp hp6, List.mem_flatMap.mpr ⟨_, six_mem hq hq6, List.mem_map.mpr ⟨_, six_mem hr hr6, rfl⟩⟩⟩))
  refine ⟨U3 T, _, bankF, ⟨sysB3 p q r hT15 hp hq hr hT, cf_of (by simp [Cs]), fun w => each (k_bform w) _ hm, fun w => each (k_blform w) _ hm, fun s h => ?_, fun s h c hc => (inB3 hT15 s h c hc).2, fun L hre F => ⟨fun s h w => ?_, fun v hv w => ?_⟩, ⟨.str "bank", _, rfl, .inl rfl⟩⟩⟩
  · obtain ⟨x, y, z, rfl, _⟩ := (memU3 hT15).mp h
    rfl
  · obtain ⟨x, y, z, rfl, gx, gy, gz, e⟩ := (memU3 hT15).mp (F.sub s h)
    refine has_state_bank _ _ (T : Int) _ w rfl ?_ ?_ ?_ (by simp) (by simp) ?_
    · show some (PyData.int [p, q, r].sum) = _
      rw [show [p, q, r].sum = (T : Int) by simp; omega]
    · show some (PyData.int [x, y, z].sum) = _
      rw [show [x, y, z].sum = (T : Int) by simp; omega]
    · intro d hd
      simp only [List.mem_cons, List.not_mem_nil, or_false] at hd
      rcases hd with rfl | rfl | rfl <;> exact ⟨_, rfl⟩
    · simp only [List.all_cons, List.all_nil, inI, Bool.and_true, Bool.and_eq_true, decide_eq_true_eq]
      omega
  · have h1 := each (k_bwrong w) (_, v) (List.mem_flatMap.mpr ⟨_, hm, List.mem_map.mpr ⟨v, hv, rfl⟩⟩)
    exact h1
theorem whole_bank {t : PyData} (h : isBank t) : ∃ C L, Whole t C L := by
  obtain ⟨as, rfl, hl, hi⟩ := h
  rcases hl with hl | hl
  · match as, hl, hi with
    | [u, v], _, hi =>
      obtain ⟨a, rfl, ha, ha6⟩ := hi u (by simp)
      obtain ⟨b, rfl, hb, hb6⟩ := hi v (by simp)
      obtain ⟨U, s0, f, P⟩ := partsB2 a b ha hb ha6 hb6
      obtain ⟨L, W⟩ := whole_of P
      exact ⟨C2, L, W⟩
  · match as, hl, hi with
    | [u, v, w], _, hi =>
      obtain ⟨a, rfl, ha, ha6⟩ := hi u (by simp)
      obtain ⟨b, rfl, hb, hb6⟩ := hi v (by simp)
      obtain ⟨c, rfl, hc, hc6⟩ := hi w (by simp)
      obtain ⟨U, s0, f, P⟩ := partsB3 a b c ha hb hc ha6 hb6 hc6
      obtain ⟨L, W⟩ := whole_of P
      exact ⟨C3, L, W⟩
end K00
/-! part P11 -/
set_option linter.all false
set_option maxRecDepth 100000
set_option maxHeartbeats 4000000
namespace DD
open PySem
def tabIn (tb : List (Str × Str)) : Vl → Option Bool
  | .d (.str z) => some (tb.lookup z).isSome
  | _ => none
theorem r_inTab {f : Ev → M Vl} {ev : Ev} {S : Sto} (neg : Bool) (tb : List (Str × Str)) : fInTab neg tb f ev S = rb (f ev S) fun y S1 => rl (tabIn tb y) fun b => some (.ok (.d (.bool (if neg then !b else b))), S1) := by
  unfold fInTab
  simp only [bind_rb]
  congr 1; funext y S1
  cases y with
  | d x => cases x <;> rfl
  | _ => rfl
end DD
namespace K00
open DD PySem PySem.W
theorem len2 (a b : PyData) : lenP [.tuple [a, b]] = some (.int 2) := rfl
theorem ne22' : neP (.int ((2 : Nat) : Int)) (.int 2) = some (.bool false) := rfl
theorem ne22 : neP (.int 2) (.int 2) = some (.bool false) := rfl
theorem eq22 : eqP (.int 2) (.int 2) = some (.bool true) := rfl
theorem is_pair_run {n : Nat} {c : PyData} (hc : isCell n c) (S : Sto) : m_is_pair [.d c, .d (.int n)] S = some (.ok (.d (.bool true)), S) := by
  obtain ⟨a, b, rfl, ha0, ha, hb0, hb⟩ := hc
  have h1 := within_run a 0 ((n : Int) - 1) S
  have h2 := within_run b 0 9 S
  rw [decide_eq_true ha0, decide_eq_true (show a ≤ (n : Int) - 1 by omega)] at h1
  rw [decide_eq_true hb0, decide_eq_true (show b ≤ (9 : Int) by omega)] at h2
  unfold m_is_pair mDef b_is_pair
  simp only [s_seq, s_set, s_if, s_par, par2_ok, s_expr, s_ret, s_pass, s_for, r_tab, tabOf, r_callV, DD.fnOf, r_call, r_comp, r_range, r_items, r_un, r_not, r_and, r_or, r_andV, r_ite, r_tup, r_lst, r_fB, r_op, r_def, r_cons, r_nil, r_var, r_c, r_chain, chK_t, rdAll_cons, rdAll_nil, startE, rb_ok, rl_some, ro_ok, rs_nx, rs_rt, rd_d, bool_of, p_ixl, p_ixt, p_lt, p_le, p_add, p_sub, p_int, tupleP, its_t, its_l, Bool.not_true, Bool.not_false, cond_true, cond_false, List.map_cons, List.map_nil, List.replicate, List.cons_append, List.nil_append, List.getElem?_cons_zero, List.getElem?_cons_succ, List.set_cons_zero, List.set_cons_succ, List.length_cons, List.length_nil, Nat.zero_add, Nat.reduceAdd, Nat.reduceSub, Nat.reduceLeDiff, Nat.sub_self, if_true, if_false, ↓reduceIte, reduceCtorEq, fin_d1, dats_nil, dats_1, dats_2, decide_true, isi_tup, wipe_1, len2, ne22, a2_0, a2_1, h1, h2, Bool.and_self]
theorem all_yes {n : Nat} {xs : List PyData} {i : Nat} {f : Ev → M Vl} {ev : Ev} {S : Sto} (h : ∀ d ∈ xs, f (ev.set i (some (.d d))) S = some (.ok (.d (.bool true)), S)) : compL (gN i) fYes f ev xs S = some (xs.map fun _ => .bool true, S) := comp_map (g := fun _ => .bool true) h
theorem all_true (xs : List PyData) : allP [.list (xs.map fun _ => .bool true)] = some (.bool true) := by
  rw [all_map xs fun _ => true]
  simp
theorem is_row_run {n m : Nat} {r : PyData} (hm : 1 ≤ m) (hm3 : m ≤ 3) (hr : isLine n m r) (S : Sto) : m_is_row [.d r, .d (.int n)] S = some (.ok (.d (.bool true)), S) := by
  obtain ⟨cs, rfl, hl, hc⟩ := hr
  have h1 : (1 : Int) ≤ cs.length := by omega
  have h4 : (cs.length : Int) ≤ 4 := by omega
  have hcm : compL (gN 2) fYes (fDef 2 m_is_pair (fCons (fVar 2) (fCons (fVar 1) fNil))) [some (.d (.tuple cs)), some (.d (.int n)), none] cs S = some (cs.map fun _ => .bool true, S) := all_yes (n := n) fun d hd => by
    have h := is_pair_run (hc d hd) S
    simp only [s_seq, s_set, s_if, s_par, par2_ok, s_expr, s_ret, s_pass, s_for, r_tab, tabOf, r_callV, DD.fnOf, r_call, r_comp, r_range, r_items, r_un, r_not, r_and, r_or, r_andV, r_ite, r_tup, r_lst, r_fB, r_op, r_def, r_cons, r_nil, r_var, r_c, r_chain, chK_t, rdAll_cons, rdAll_nil, startE, rb_ok, rl_some, ro_ok, rs_nx, rs_rt, rd_d, bool_of, p_ixl, p_ixt, p_lt, p_le, p_add, p_sub, p_int, tupleP, its_t, its_l, Bool.not_true, Bool.not_false, cond_true, cond_false, List.map_cons, List.map_nil, List.replicate, List.cons_append, List.nil_append, List.getElem?_cons_zero, List.getElem?_cons_succ, List.set_cons_zero, List.set_cons_succ, List.length_cons, List.length_nil, Nat.zero_add, Nat.reduceAdd, Nat.reduceSub, Nat.reduceLeDiff, Nat.sub_self, if_true, if_false, ↓reduceIte, reduceCtorEq, fin_d1, dats_nil, dats_1, dats_2, decide_true, isi_tup, wipe_1, h]
  unfold m_is_row mDef b_is_row
  simp only [s_seq, s_set, s_if, s_par, par2_ok, s_expr, s_ret, s_pass, s_for, r_tab, tabOf, r_callV, DD.fnOf, r_call, r_comp, r_range, r_items, r_un, r_not, r_and, r_or, r_andV, r_ite, r_tup, r_lst, r_fB, r_op, r_def, r_cons, r_nil, r_var, r_c, r_chain, chK_t, rdAll_cons, rdAll_nil, startE, rb_ok, rl_some, ro_ok, rs_nx, rs_rt, rd_d, bool_of, p_ixl, p_ixt, p_lt, p_le, p_add, p_sub, p_int, tupleP, its_t, its_l, Bool.not_true, Bool.not_false, cond_true, cond_false, List.map_cons, List.map_nil, List.replicate, List.cons_append, List.nil_append, List.getElem?_cons_zero, List.getElem?_cons_succ, List.set_cons_zero, List.set_cons_succ, List.length_cons, List.length_nil, Nat.zero_add, Nat.reduceAdd, Nat.reduceSub, Nat.reduceLeDiff, Nat.sub_self, if_true, if_false, ↓reduceIte, reduceCtorEq, fin_d1, dats_nil, dats_1, dats_2, decide_true, isi_tup, wipe_1, p_lent, h1, h4, hcm, compR_some _ _ (show (cs.map fun _ => PyData.bool true).length ≤ 1000000 by rw [List.length_map]; omega), all_true]
structure TabOk (rs : List PyData) (n m : Nat) : Prop where
  hn : rs.length = n
  n1 : 1 ≤ n
  n4 : n ≤ 4
  m1 : 1 ≤ m
  m3 : m ≤ 3
  hr : ∀ r ∈ rs, isLine n m r
theorem TabOk.head {rs : List PyData} {n m : Nat} (T : TabOk rs n m) : ∃ cs, L2.atI rs 0 = some (.tuple cs) ∧ cs.length = m := by
  cases rs with
  | nil => have := T.hn; have := T.n1; simp at *; omega
  | cons r l =>
    obtain ⟨cs, rfl, hl, _⟩ := T.hr r (List.mem_cons_self ..)
    exact ⟨cs, atI_head (List.cons_ne_nil _ _), hl⟩
theorem eq_len (m : Nat) : eqP (.int m) (.int m) = some (.bool true) := by rw [eq_ii]; simp
theorem ne_len (m : Nat) : neP (.int m) (.int m) = some (.bool false) := by rw [ne_ii]; simp
theorem has_rows_run {rs : List PyData} {n m : Nat} (T : TabOk rs n m) (S : Sto) : m_has_rows [.d (tableT rs)] S = some (.ok (.d (.bool true)), S) := by
  obtain ⟨cs0, h0, l0⟩ := T.head
  have hn := T.hn
  have n1 := T.n1
  have n4 := T.n4
  have h1 : (1 : Int) ≤ rs.length := by omega
  have h6 : (rs.length : Int) ≤ 6 := by omega
  have c1 : compL (gN 2) fYes (fDef 2 m_is_row (fCons (fVar 2) (fCons (fCall lenP (fCons (fVar 1) fNil)) fNil))) [some (.d (.tuple [.str "table", .tuple rs])), some (.d (.tuple rs)), none] rs S = some (rs.map fun _ => .bool true, S) := all_yes (n := n) fun d hd => by
    have h := is_row_run T.m1 T.m3 (T.hr d hd) S
    simp only [s_seq, s_set, s_if, s_par, par2_ok, s_expr, s_ret, s_pass, s_for, r_tab, tabOf, r_callV, DD.fnOf, r_call, r_comp, r_range, r_items, r_un, r_not, r_and, r_or, r_andV, r_ite, r_tup, r_lst, r_fB, r_op, r_def, r_cons, r_nil, r_var, r_c, r_chain, chK_t, rdAll_cons, rdAll_nil, startE, rb_ok, rl_some, ro_ok, rs_nx, rs_rt, rd_d, bool_of, p_ixl, p_ixt, p_lt, p_le, p_add, p_sub, p_int, tupleP, its_t, its_l, Bool.not_true, Bool.not_false, cond_true, cond_false, List.map_cons, List.map_nil, List.replicate, List.cons_append, List.nil_append, List.getElem?_cons_zero, List.getElem?_cons_succ, List.set_cons_zero, List.set_cons_succ, List.length_cons, List.length_nil, Nat.zero_add, Nat.reduceAdd, Nat.reduceSub, Nat.reduceLeDiff, Nat.sub_self, if_true, if_false, ↓reduceIte, reduceCtorEq, fin_d1, dats_nil, dats_1, dats_2, decide_true, isi_tup, wipe_1, p_lent, hn, h]
  have c2 : compL (gN 2) fYes (fOp eqP (fCall lenP (fCons (fVar 2) fNil)) (fCall lenP (fCons (fOp ixP (fVar 1) (fC (.int 0))) fNil))) [some (.d (.tuple [.str "table", .tuple rs])), some (.d (.tuple rs)), none] rs S = some (rs.map fun _ => .bool true, S) := all_yes (n := n) fun d hd => by
    obtain ⟨cs, rfl, hl, _⟩ := T.hr d hd
    simp only [s_seq, s_set, s_if, s_par, par2_ok, s_expr, s_ret, s_pass, s_for, r_tab, tabOf, r_callV, DD.fnOf, r_call, r_comp, r_range, r_items, r_un, r_not, r_and, r_or, r_andV, r_ite, r_tup, r_lst, r_fB, r_op, r_def, r_cons, r_nil, r_var, r_c, r_chain, chK_t, rdAll_cons, rdAll_nil, startE, rb_ok, rl_some, ro_ok, rs_nx, rs_rt, rd_d, bool_of, p_ixl, p_ixt, p_lt, p_le, p_add, p_sub, p_int, tupleP, its_t, its_l, Bool.not_true, Bool.not_false, cond_true, cond_false, List.map_cons, List.map_nil, List.replicate, List.cons_append, List.nil_append, List.getElem?_cons_zero, List.getElem?_cons_succ, List.set_cons_zero, List.set_cons_succ, List.length_cons, List.length_nil, Nat.zero_add, Nat.reduceAdd, Nat.reduceSub, Nat.reduceLeDiff, Nat.sub_self, if_true, if_false, ↓reduceIte, reduceCtorEq, fin_d1, dats_nil, dats_1, dats_2, decide_true, isi_tup, wipe_1, p_lent, h0, l0, hl, eq_len]
  unfold tableT
  unfold m_has_rows mDef b_has_rows
  simp only [s_seq, s_set, s_if, s_par, par2_ok, s_expr, s_ret, s_pass, s_for, r_tab, tabOf, r_callV, DD.fnOf, r_call, r_comp, r_range, r_items, r_un, r_not, r_and, r_or, r_andV, r_ite, r_tup, r_lst, r_fB, r_op, r_def, r_cons, r_nil, r_var, r_c, r_chain, chK_t, rdAll_cons, rdAll_nil, startE, rb_ok, rl_some, ro_ok, rs_nx, rs_rt, rd_d, bool_of, p_ixl, p_ixt, p_lt, p_le, p_add, p_sub, p_int, tupleP, its_t, its_l, Bool.not_true, Bool.not_false, cond_true, cond_false, List.map_cons, List.map_nil, List.replicate, List.cons_append, List.nil_append, List.getElem?_cons_zero, List.getElem?_cons_succ, List.set_cons_zero, List.set_cons_succ, List.length_cons, List.length_nil, Nat.zero_add, Nat.reduceAdd, Nat.reduceSub, Nat.reduceLeDiff, Nat.sub_self, if_true, if_false, ↓reduceIte, reduceCtorEq, fin_d1, dats_nil, dats_1, dats_2, decide_true, isi_tup, wipe_1, len2, ne22, ne22', a2_1, p_lent, h1, h6, c1, c2, compR_some _ _ (show (rs.map fun _ => PyData.bool true).length ≤ 1000000 by rw [List.length_map]; omega), all_true]
theorem tab_form : tab_FORMS.lookup ("table" : Str) = some ("_has_rows" : Str) := rfl
theorem isi_str (x : Str) : isiP .str (.str x) = some (.bool true) := rfl
theorem has_form_table {rs : List PyData} {n m : Nat} (T : TabOk rs n m) (S : Sto) : m_has_form [.d (tableT rs)] S = some (.ok (.d (.bool true)), S) := by
  have h := has_rows_run T S
  unfold tableT at h ⊢
  have e20 : eqP (.int 2) (.int 0) = some (.bool false) := rfl
  have hv : vlook [("_has_size", 1, m_has_size), ("_has_room_and_size", 1, m_has_room_and_size), ("_has_amounts", 1, m_has_amounts), ("_has_rows", 1, m_has_rows)] "_has_rows" = some (1, m_has_rows) := rfl
  unfold m_has_form mDef b_has_form
  simp only [s_seq, s_set, s_if, s_par, par2_ok, s_expr, s_ret, s_pass, s_for, r_tab, tabOf, r_callV, DD.fnOf, r_call, r_comp, r_range, r_items, r_un, r_not, r_and, r_or, r_andV, r_ite, r_tup, r_lst, r_fB, r_op, r_def, r_cons, r_nil, r_var, r_c, r_chain, chK_t, rdAll_cons, rdAll_nil, startE, rb_ok, rl_some, ro_ok, rs_nx, rs_rt, rd_d, bool_of, p_ixl, p_ixt, p_lt, p_le, p_add, p_sub, p_int, tupleP, its_t, its_l, Bool.not_true, Bool.not_false, cond_true, cond_false, List.map_cons, List.map_nil, List.replicate, List.cons_append, List.nil_append, List.getElem?_cons_zero, List.getElem?_cons_succ, List.set_cons_zero, List.set_cons_succ, List.length_cons, List.length_nil, Nat.zero_add, Nat.reduceAdd, Nat.reduceSub, Nat.reduceLeDiff, Nat.sub_self, if_true, if_false, ↓reduceIte, reduceCtorEq, fin_d1, dats_nil, dats_1, dats_2, decide_true, isi_tup, wipe_1, r_inTab, DD.tabIn, tab_form, Option.isSome_some, len2, e20, a2_0, isi_str, hv, h]
theorem lis_num_run (x lo hi : Int) (h1 : lo ≤ x) (h2 : x ≤ hi) (S : Sto) : m_Lis_number [.d (.int x), .d (.int lo), .d (.int hi)] S = some (.ok (.d (.bool true)), S) := by
  have i1 : isiP .int (.int x) = some (.bool true) := rfl
  have i2 : isiP .bool (.int x) = some (.bool false) := rfl
  unfold m_Lis_number mDef b_Lis_number
  simp only [s_seq, s_set, s_if, s_par, par2_ok, s_expr, s_ret, s_pass, s_for, r_tab, tabOf, r_callV, DD.fnOf, r_call, r_comp, r_range, r_items, r_un, r_not, r_and, r_or, r_andV, r_ite, r_tup, r_lst, r_fB, r_op, r_def, r_cons, r_nil, r_var, r_c, r_chain, chK_t, rdAll_cons, rdAll_nil, startE, rb_ok, rl_some, ro_ok, rs_nx, rs_rt, rd_d, bool_of, p_ixl, p_ixt, p_lt, p_le, p_add, p_sub, p_int, tupleP, its_t, its_l, Bool.not_true, Bool.not_false, cond_true, cond_false, List.map_cons, List.map_nil, List.replicate, List.cons_append, List.nil_append, List.getElem?_cons_zero, List.getElem?_cons_succ, List.set_cons_zero, List.set_cons_succ, List.length_cons, List.length_nil, Nat.zero_add, Nat.reduceAdd, Nat.reduceSub, Nat.reduceLeDiff, Nat.sub_self, if_true, if_false, ↓reduceIte, reduceCtorEq, fin_d1, dats_nil, dats_1, dats_2, decide_true, isi_tup, wipe_1, r_notV, i1, i2, h1, h2]
def lrIn : SM := (sIf (fOr (fNot (fB (fUn (isiP .tup) (fVar 2)))) (fOr (fB (fOp neP (fCall lenP (fCons (fVar 2) fNil)) (fC (.int 2)))) (fOr (fNot (fB (fDef 3 m_Lis_number (fCons (fOp ixP (fVar 2) (fC (.int 0))) (fCons (fC (.int 0)) (fCons (fOp subP (fCall lenP (fCons (fVar 0) fNil)) (fC (.int 1))) fNil)))))) (fNot (fB (fDef 3 m_Lis_number (fCons (fOp ixP (fVar 2) (fC (.int 1))) (fCons (fC (.int 0)) (fCons (fC (.int 9)) fNil))))))))) (sRet (fC (.bool false))) sPass)
theorem lr_in {rs : List PyData} {n m : Nat} (T : TabOk rs n m) (S : Sto) (o1 : Option Vl) : ∀ (cs : List PyData) (o2 : Option Vl), (∀ c ∈ cs, isCell n c) → ∃ o2', loopF (gN 2) lrIn cs [some (.d (.tuple rs)), o1, o2] S = some (.nx, [some (.d (.tuple rs)), o1, o2'], S)
  | [], o2, _ => ⟨o2, rfl⟩
  | c :: cs, o2, hc => by
    obtain ⟨o2', e⟩ := lr_in T S o1 cs (some (.d c)) fun c h => hc c (List.mem_cons_of_mem _ h)
    refine ⟨o2', ?_⟩
    obtain ⟨a, b, rfl, ha0, ha, hb0, hb⟩ := hc c (List.mem_cons_self ..)
    have h1 := lis_num_run a 0 ((n : Int) - 1) ha0 (by omega) S
    have h2 := lis_num_run b 0 9 hb0 (by omega) S
    have e1 : lrIn [some (.d (.tuple rs)), o1, some (.d (.tuple [.int a, .int b]))] S = some (.nx, [some (.d (.tuple rs)), o1, some (.d (.tuple [.int a, .int b]))], S) := by
      unfold lrIn
      simp only [s_seq, s_set, s_if, s_par, par2_ok, s_expr, s_ret, s_pass, s_for, r_tab, tabOf, r_callV, DD.fnOf, r_call, r_comp, r_range, r_items, r_un, r_not, r_and, r_or, r_andV, r_ite, r_tup, r_lst, r_fB, r_op, r_def, r_cons, r_nil, r_var, r_c, r_chain, chK_t, rdAll_cons, rdAll_nil, startE, rb_ok, rl_some, ro_ok, rs_nx, rs_rt, rd_d, bool_of, p_ixl, p_ixt, p_lt, p_le, p_add, p_sub, p_int, tupleP, its_t, its_l, Bool.not_true, Bool.not_false, cond_true, cond_false, List.map_cons, List.map_nil, List.replicate, List.cons_append, List.nil_append, List.getElem?_cons_zero, List.getElem?_cons_succ, List.set_cons_zero, List.set_cons_succ, List.length_cons, List.length_nil, Nat.zero_add, Nat.reduceAdd, Nat.reduceSub, Nat.reduceLeDiff, Nat.sub_self, if_true, if_false, ↓reduceIte, reduceCtorEq, fin_d1, dats_nil, dats_1, dats_2, decide_true, isi_tup, wipe_1, p_lent, T.hn, ne22, show ((2 : Nat) : Int) = 2 from rfl, a2_0, a2_1, h1, h2]
    rw [loop_cons]
    show (match lrIn [some (.d (.tuple rs)), o1, some (.d (.tuple [.int a, .int b]))] S with
      | none => none
      | some (.nx, ev2, S2) => loopF (gN 2) lrIn cs ev2 S2
      | some (.ct, ev2, S2) => loopF (gN 2) lrIn cs ev2 S2
      | some (.bk, ev2, S2) => some (.nx, ev2, S2)
      | some (.rt w, ev2, S2) => some (.rt w, ev2, S2)
      | some (.ex x, ev2, S2) => some (.ex x, ev2, S2)) = _
    rw [e1]
    exact e
def lrOut : SM := sFor (fItems (fVar 1)) (gN 2) lrIn
theorem lr_out {rs : List PyData} {n m : Nat} (T : TabOk rs n m) (S : Sto) : ∀ (ls : List PyData) (o1 o2 : Option Vl), (∀ r ∈ ls, isLine n m r) → ∃ o1' o2', loopF (gN 1) lrOut ls [some (.d (.tuple rs)), o1, o2] S = some (.nx, [some (.d (.tuple rs)), o1', o2'], S)
  | [], o1, o2, _ => ⟨o1, o2, rfl⟩
  | r :: ls, o1, o2, hr => by
    obtain ⟨cs, rfl, hl, hc⟩ := hr r (List.mem_cons_self ..)
    obtain ⟨o2', e1⟩ := lr_in T S (some (.d (.tuple cs))) cs o2 hc
    obtain ⟨p1, p2, e⟩ := lr_out T S ls (some (.d (.tuple cs))) o2' fun c h => hr c (List.mem_cons_of_mem _ h)
    refine ⟨p1, p2, ?_⟩
    have e2 : lrOut [some (.d (.tuple rs)), some (.d (.tuple cs)), o2] S = some (.nx, [some (.d (.tuple rs)), some (.d (.tuple cs)), o2'], S) := by
      unfold lrOut
      simp only [s_seq, s_set, s_if, s_par, par2_ok, s_expr, s_ret, s_pass, s_for, r_tab, tabOf, r_callV, DD.fnOf, r_call, r_comp, r_range, r_items, r_un, r_not, r_and, r_or, r_andV, r_ite, r_tup, r_lst, r_fB, r_op, r_def, r_cons, r_nil, r_var, r_c, r_chain, chK_t, rdAll_cons, rdAll_nil, startE, rb_ok, rl_some, ro_ok, rs_nx, rs_rt, rd_d, bool_of, p_ixl, p_ixt, p_lt, p_le, p_add, p_sub, p_int, tupleP, its_t, its_l, Bool.not_true, Bool.not_false, cond_true, cond_false, List.map_cons, List.map_nil, List.replicate, List.cons_append, List.nil_append, List.getElem?_cons_zero, List.getElem?_cons_succ, List.set_cons_zero, List.set_cons_succ, List.length_cons, List.length_nil, Nat.zero_add, Nat.reduceAdd, Nat.reduceSub, Nat.reduceLeDiff, Nat.sub_self, if_true, if_false, ↓reduceIte, reduceCtorEq, fin_d1, dats_nil, dats_1, dats_2, decide_true, isi_tup, wipe_1, e1]
    rw [loop_cons]
    show (match lrOut [some (.d (.tuple rs)), some (.d (.tuple cs)), o2] S with
      | none => none
      | some (.nx, ev2, S2) => loopF (gN 1) lrOut ls ev2 S2
      | some (.ct, ev2, S2) => loopF (gN 1) lrOut ls ev2 S2
      | some (.bk, ev2, S2) => some (.nx, ev2, S2)
      | some (.rt w, ev2, S2) => some (.rt w, ev2, S2)
      | some (.ex x, ev2, S2) => some (.ex x, ev2, S2)) = _
    rw [e2]
    exact e
theorem ne_nil : neP (.list []) (.list []) = some (.bool false) := by kernel_rfl
theorem lis_rows_run {rs : List PyData} {n m : Nat} (T : TabOk rs n m) (S : Sto) : m_Lis_rows [.d (.tuple rs)] S = some (.ok (.d (.bool true)), S) := by
  obtain ⟨cs0, h0, l0⟩ := T.head
  have hn := T.hn
  have n1 := T.n1
  have n4 := T.n4
  have m1 := T.m1
  have m3 := T.m3
  have h1 : (1 : Int) ≤ rs.length := by omega
  have h6 : (rs.length : Int) ≤ 6 := by omega
  have g1 : (1 : Int) ≤ cs0.length := by omega
  have g4 : (cs0.length : Int) ≤ 4 := by omega
  have c1 : compL (gN 2) (fNot (fB (fUn (isiP .tup) (fVar 2)))) (fVar 2) [some (.d (.tuple rs)), none, none] rs S = some ([], S) := comp_none fun d hd => by
    obtain ⟨cs, rfl, hl, _⟩ := T.hr d hd
    simp only [s_seq, s_set, s_if, s_par, par2_ok, s_expr, s_ret, s_pass, s_for, r_tab, tabOf, r_callV, DD.fnOf, r_call, r_comp, r_range, r_items, r_un, r_not, r_and, r_or, r_andV, r_ite, r_tup, r_lst, r_fB, r_op, r_def, r_cons, r_nil, r_var, r_c, r_chain, chK_t, rdAll_cons, rdAll_nil, startE, rb_ok, rl_some, ro_ok, rs_nx, rs_rt, rd_d, bool_of, p_ixl, p_ixt, p_lt, p_le, p_add, p_sub, p_int, tupleP, its_t, its_l, Bool.not_true, Bool.not_false, cond_true, cond_false, List.map_cons, List.map_nil, List.replicate, List.cons_append, List.nil_append, List.getElem?_cons_zero, List.getElem?_cons_succ, List.set_cons_zero, List.set_cons_succ, List.length_cons, List.length_nil, Nat.zero_add, Nat.reduceAdd, Nat.reduceSub, Nat.reduceLeDiff, Nat.sub_self, if_true, if_false, ↓reduceIte, reduceCtorEq, fin_d1, dats_nil, dats_1, dats_2, decide_true, isi_tup, wipe_1]
  have c2 : compL (gN 2) (fB (fOp neP (fCall lenP (fCons (fVar 2) fNil)) (fCall lenP (fCons (fOp ixP (fVar 0) (fC (.int 0))) fNil)))) (fVar 2) [some (.d (.tuple rs)), none, none] rs S = some ([], S) := comp_none fun d hd => by
    obtain ⟨cs, rfl, hl, _⟩ := T.hr d hd
    simp only [s_seq, s_set, s_if, s_par, par2_ok, s_expr, s_ret, s_pass, s_for, r_tab, tabOf, r_callV, DD.fnOf, r_call, r_comp, r_range, r_items, r_un, r_not, r_and, r_or, r_andV, r_ite, r_tup, r_lst, r_fB, r_op, r_def, r_cons, r_nil, r_var, r_c, r_chain, chK_t, rdAll_cons, rdAll_nil, startE, rb_ok, rl_some, ro_ok, rs_nx, rs_rt, rd_d, bool_of, p_ixl, p_ixt, p_lt, p_le, p_add, p_sub, p_int, tupleP, its_t, its_l, Bool.not_true, Bool.not_false, cond_true, cond_false, List.map_cons, List.map_nil, List.replicate, List.cons_append, List.nil_append, List.getElem?_cons_zero, List.getElem?_cons_succ, List.set_cons_zero, List.set_cons_succ, List.length_cons, List.length_nil, Nat.zero_add, Nat.reduceAdd, Nat.reduceSub, Nat.reduceLeDiff, Nat.sub_self, if_true, if_false, ↓reduceIte, reduceCtorEq, fin_d1, dats_nil, dats_1, dats_2, decide_true, isi_tup, wipe_1, p_lent, h0, l0, hl, ne_len]
  obtain ⟨p1, p2, e⟩ := lr_out T S rs none none T.hr
  unfold lrOut lrIn at e
  unfold m_Lis_rows mDef b_Lis_rows
  simp only [s_seq, s_set, s_if, s_par, par2_ok, s_expr, s_ret, s_pass, s_for, r_tab, tabOf, r_callV, DD.fnOf, r_call, r_comp, r_range, r_items, r_un, r_not, r_and, r_or, r_andV, r_ite, r_tup, r_lst, r_fB, r_op, r_def, r_cons, r_nil, r_var, r_c, r_chain, chK_t, rdAll_cons, rdAll_nil, startE, rb_ok, rl_some, ro_ok, rs_nx, rs_rt, rd_d, bool_of, p_ixl, p_ixt, p_lt, p_le, p_add, p_sub, p_int, tupleP, its_t, its_l, Bool.not_true, Bool.not_false, cond_true, cond_false, List.map_cons, List.map_nil, List.replicate, List.cons_append, List.nil_append, List.getElem?_cons_zero, List.getElem?_cons_succ, List.set_cons_zero, List.set_cons_succ, List.length_cons, List.length_nil, Nat.zero_add, Nat.reduceAdd, Nat.reduceSub, Nat.reduceLeDiff, Nat.sub_self, if_true, if_false, ↓reduceIte, reduceCtorEq, fin_d1, dats_nil, dats_1, dats_2, decide_true, isi_tup, wipe_1, p_lent, h1, h6, g1, g4, h0, c1, c2, compR_some [] _ (Nat.zero_le _), ne_nil, e]
theorem lis_object_table {rs : List PyData} {n m : Nat} (T : TabOk rs n m) (S : Sto) : m_Lis_object [.d (tableT rs)] S = some (.ok (.d (.bool true)), S) := by
  have h := lis_rows_run T S
  have i1 : inP true (.int 2) (.list [.int 2, .int 3]) = some (.bool false) := by kernel_rfl
  have i2 : inP false (.str "table") (.list [.str "counter", .str "register", .str "set", .str "agree"]) = some (.bool false) := by kernel_rfl
  have i3 : inP false (.str "table") (.list [.str "stack", .str "queue"]) = some (.bool false) := by kernel_rfl
  have e1 : eqP (.str "table") (.str "bank") = some (.bool false) := by kernel_rfl
  have e2 : eqP (.str "table") (.str "table") = some (.bool true) := by kernel_rfl
  unfold tableT
  unfold m_Lis_object mDef b_Lis_object
  simp only [s_seq, s_set, s_if, s_par, par2_ok, s_expr, s_ret, s_pass, s_for, r_tab, tabOf, r_callV, DD.fnOf, r_call, r_comp, r_range, r_items, r_un, r_not, r_and, r_or, r_andV, r_ite, r_tup, r_lst, r_fB, r_op, r_def, r_cons, r_nil, r_var, r_c, r_chain, chK_t, rdAll_cons, rdAll_nil, startE, rb_ok, rl_some, ro_ok, rs_nx, rs_rt, rd_d, bool_of, p_ixl, p_ixt, p_lt, p_le, p_add, p_sub, p_int, tupleP, its_t, its_l, Bool.not_true, Bool.not_false, cond_true, cond_false, List.map_cons, List.map_nil, List.replicate, List.cons_append, List.nil_append, List.getElem?_cons_zero, List.getElem?_cons_succ, List.set_cons_zero, List.set_cons_succ, List.length_cons, List.length_nil, Nat.zero_add, Nat.reduceAdd, Nat.reduceSub, Nat.reduceLeDiff, Nat.sub_self, if_true, if_false, ↓reduceIte, reduceCtorEq, fin_d1, dats_nil, dats_1, dats_2, decide_true, isi_tup, wipe_1, len2, eq22, a2_0, a2_1, dats_4, isi_str, i1, i2, i3, e1, e2, h]
end K00
/-! part P12 -/
set_option linter.all false
set_option maxRecDepth 100000
set_option maxHeartbeats 4000000
namespace K00
open DD PySem PySem.W
def tC (m : Nat) : List PyData := (intsL 0 m).map fun d => .tuple [.str "do", d]
theorem tab_calls : tab_CALLS.lookup ("table" : Str) = some ("_table_calls" : Str) := rfl
theorem tab_steps : tab_STEPS.lookup ("table" : Str) = some ("_table_step" : Str) := rfl
theorem do_comp {i : Nat} {ev : Ev} {S : Sto} {xs : List PyData} (h : ∀ w, (ev.set i (some w))[i]? = some (some w)) : compL (gN i) fYes (fTup (fCons (fC (.str "do")) (fCons (fVar i) fNil))) ev xs S = some (xs.map fun d => .tuple [.str "do", d], S) := comp_map (g := fun d => .tuple [.str "do", d]) fun d hd => by
  simp only [s_seq, s_set, s_if, s_par, par2_ok, s_expr, s_ret, s_pass, s_for, r_tab, tabOf, r_callV, DD.fnOf, r_call, r_comp, r_range, r_items, r_un, r_not, r_and, r_or, r_andV, r_ite, r_tup, r_lst, r_fB, r_op, r_def, r_cons, r_nil, r_var, r_c, r_chain, chK_t, rdAll_cons, rdAll_nil, startE, rb_ok, rl_some, ro_ok, rs_nx, rs_rt, rd_d, bool_of, p_ixl, p_ixt, p_lt, p_le, p_add, p_sub, p_int, tupleP, its_t, its_l, Bool.not_true, Bool.not_false, cond_true, cond_false, List.map_cons, List.map_nil, List.replicate, List.cons_append, List.nil_append, List.getElem?_cons_zero, List.getElem?_cons_succ, List.set_cons_zero, List.set_cons_succ, List.length_cons, List.length_nil, Nat.zero_add, Nat.reduceAdd, Nat.reduceSub, Nat.reduceLeDiff, Nat.sub_self, if_true, if_false, ↓reduceIte, reduceCtorEq, fin_d1, dats_nil, dats_1, dats_2, decide_true, isi_tup, wipe_1, h]
theorem tC_len (m : Nat) : (tC m).length = m := by unfold tC; rw [List.length_map, len_ints]
theorem table_calls_run {rs : List PyData} {n m : Nat} (T : TabOk rs n m) (S : Sto) : m_table_calls [.d (tableT rs)] S = some (.ok (.d (.list (tC m))), S) := by
  obtain ⟨cs0, h0, l0⟩ := T.head
  have m3 := T.m3
  have hc : compL (gN 1) fYes (fTup (fCons (fC (.str "do")) (fCons (fVar 1) fNil))) [some (.d (.tuple [.str "table", .tuple rs])), none] (intsL 0 m) S = some (tC m, S) := do_comp fun w => rfl
  have hl : (tC m).length ≤ 1000000 := by rw [tC_len]; omega
  unfold tableT
  unfold m_table_calls mDef b_table_calls
  simp only [s_seq, s_set, s_if, s_par, par2_ok, s_expr, s_ret, s_pass, s_for, r_tab, tabOf, r_callV, DD.fnOf, r_call, r_comp, r_range, r_items, r_un, r_not, r_and, r_or, r_andV, r_ite, r_tup, r_lst, r_fB, r_op, r_def, r_cons, r_nil, r_var, r_c, r_chain, chK_t, rdAll_cons, rdAll_nil, startE, rb_ok, rl_some, ro_ok, rs_nx, rs_rt, rd_d, bool_of, p_ixl, p_ixt, p_lt, p_le, p_add, p_sub, p_int, tupleP, its_t, its_l, Bool.not_true, Bool.not_false, cond_true, cond_false, List.map_cons, List.map_nil, List.replicate, List.cons_append, List.nil_append, List.getElem?_cons_zero, List.getElem?_cons_succ, List.set_cons_zero, List.set_cons_succ, List.length_cons, List.length_nil, Nat.zero_add, Nat.reduceAdd, Nat.reduceSub, Nat.reduceLeDiff, Nat.sub_self, if_true, if_false, ↓reduceIte, reduceCtorEq, fin_d1, dats_nil, dats_1, dats_2, decide_true, isi_tup, wipe_1, a2_1, h0, l0, p_lent, rng1 m (by omega), hc, compR_some _ _ hl]
theorem call_rows_table {rs : List PyData} {n m : Nat} (T : TabOk rs n m) (S : Sto) : m_call_rows [.d (tableT rs)] S = some (.ok (.d (.list (tC m))), S) := by
  have h := table_calls_run T S
  have hv : vlook [("_counter_calls", 1, m_counter_calls), ("_register_calls", 1, m_register_calls), ("_stack_calls", 1, m_stack_calls), ("_queue_calls", 1, m_queue_calls), ("_set_calls", 1, m_set_calls), ("_agree_calls", 1, m_agree_calls), ("_bank_calls", 1, m_bank_calls), ("_table_calls", 1, m_table_calls)] "_table_calls" = some (1, m_table_calls) := rfl
  unfold tableT at h ⊢
  unfold m_call_rows mDef b_call_rows
  simp only [s_seq, s_set, s_if, s_par, par2_ok, s_expr, s_ret, s_pass, s_for, r_tab, tabOf, r_callV, DD.fnOf, r_call, r_comp, r_range, r_items, r_un, r_not, r_and, r_or, r_andV, r_ite, r_tup, r_lst, r_fB, r_op, r_def, r_cons, r_nil, r_var, r_c, r_chain, chK_t, rdAll_cons, rdAll_nil, startE, rb_ok, rl_some, ro_ok, rs_nx, rs_rt, rd_d, bool_of, p_ixl, p_ixt, p_lt, p_le, p_add, p_sub, p_int, tupleP, its_t, its_l, Bool.not_true, Bool.not_false, cond_true, cond_false, List.map_cons, List.map_nil, List.replicate, List.cons_append, List.nil_append, List.getElem?_cons_zero, List.getElem?_cons_succ, List.set_cons_zero, List.set_cons_succ, List.length_cons, List.length_nil, Nat.zero_add, Nat.reduceAdd, Nat.reduceSub, Nat.reduceLeDiff, Nat.sub_self, if_true, if_false, ↓reduceIte, reduceCtorEq, fin_d1, dats_nil, dats_1, dats_2, decide_true, isi_tup, wipe_1, a2_0, tab_calls, hv, h]
theorem eq_table_bank : eqP (.str "table") (.str "bank") = some (.bool false) := by kernel_rfl
theorem eq_table_table : eqP (.str "table") (.str "table") = some (.bool true) := by kernel_rfl
theorem lcalls_table {rs : List PyData} {n m : Nat} (T : TabOk rs n m) (S : Sto) : m_Lcalls [.d (tableT rs)] S = some (.ok (.d (.list (tC m))), S) := by
  obtain ⟨cs0, h0, l0⟩ := T.head
  have m3 := T.m3
  have hc : compL (gN 10) fYes (fTup (fCons (fC (.str "do")) (fCons (fVar 10) fNil))) [some (.d (.tuple [.str "table", .tuple rs])), some (.d (.str "table")), none, none, none, none, none, none, none, none, none] (intsL 0 m) S = some (tC m, S) := do_comp fun w => rfl
  have hl : (tC m).length ≤ 1000000 := by rw [tC_len]; omega
  unfold tableT
  unfold m_Lcalls mDef b_Lcalls
  simp only [s_seq, s_set, s_if, s_par, par2_ok, s_expr, s_ret, s_pass, s_for, r_tab, tabOf, r_callV, DD.fnOf, r_call, r_comp, r_range, r_items, r_un, r_not, r_and, r_or, r_andV, r_ite, r_tup, r_lst, r_fB, r_op, r_def, r_cons, r_nil, r_var, r_c, r_chain, chK_t, rdAll_cons, rdAll_nil, startE, rb_ok, rl_some, ro_ok, rs_nx, rs_rt, rd_d, bool_of, p_ixl, p_ixt, p_lt, p_le, p_add, p_sub, p_int, tupleP, its_t, its_l, Bool.not_true, Bool.not_false, cond_true, cond_false, List.map_cons, List.map_nil, List.replicate, List.cons_append, List.nil_append, List.getElem?_cons_zero, List.getElem?_cons_succ, List.set_cons_zero, List.set_cons_succ, List.length_cons, List.length_nil, Nat.zero_add, Nat.reduceAdd, Nat.reduceSub, Nat.reduceLeDiff, Nat.sub_self, if_true, if_false, ↓reduceIte, reduceCtorEq, fin_d1, dats_nil, dats_1, dats_2, decide_true, isi_tup, wipe_1, eq_table_bank, eq_table_table, a2_0, a2_1, h0, l0, p_lent, rng1 m (by omega), hc, compR_some _ _ hl]
theorem tstep_run {rs cs : List PyData} {i j : Int} {z : PyData} (h1 : L2.atI rs i = some (.tuple cs)) (h2 : L2.atI cs j = some z) (S : Sto) : m_step [.d (tableT rs), .d (.int i), .d (.tuple [.str "do", .int j])] S = some (.ok (.d z), S) ∧ m_Ldo [.d (tableT rs), .d (.int i), .d (.tuple [.str "do", .int j])] S = some (.ok (.d z), S) := by
  have h : m_table_step [.d (tableT rs), .d (.int i), .d (.tuple [.str "do", .int j])] S = some (.ok (.d z), S) := by
    unfold tableT
    unfold m_table_step mDef b_table_step
    simp only [s_seq, s_set, s_if, s_par, par2_ok, s_expr, s_ret, s_pass, s_for, r_tab, tabOf, r_callV, DD.fnOf, r_call, r_comp, r_range, r_items, r_un, r_not, r_and, r_or, r_andV, r_ite, r_tup, r_lst, r_fB, r_op, r_def, r_cons, r_nil, r_var, r_c, r_chain, chK_t, rdAll_cons, rdAll_nil, startE, rb_ok, rl_some, ro_ok, rs_nx, rs_rt, rd_d, bool_of, p_ixl, p_ixt, p_lt, p_le, p_add, p_sub, p_int, tupleP, its_t, its_l, Bool.not_true, Bool.not_false, cond_true, cond_false, List.map_cons, List.map_nil, List.replicate, List.cons_append, List.nil_append, List.getElem?_cons_zero, List.getElem?_cons_succ, List.set_cons_zero, List.set_cons_succ, List.length_cons, List.length_nil, Nat.zero_add, Nat.reduceAdd, Nat.reduceSub, Nat.reduceLeDiff, Nat.sub_self, if_true, if_false, ↓reduceIte, reduceCtorEq, fin_d1, dats_nil, dats_1, dats_2, decide_true, isi_tup, wipe_1, a2_1, h1, h2]
  have hv : vlook [("_counter_step", 3, m_counter_step), ("_register_step", 3, m_register_step), ("_stack_step", 3, m_stack_step), ("_queue_step", 3, m_queue_step), ("_set_step", 3, m_set_step), ("_agree_step", 3, m_agree_step), ("_bank_step", 3, m_bank_step), ("_table_step", 3, m_table_step)] "_table_step" = some (3, m_table_step) := rfl
  unfold tableT at h ⊢
  constructor
  · unfold m_step mDef b_step
    simp only [s_seq, s_set, s_if, s_par, par2_ok, s_expr, s_ret, s_pass, s_for, r_tab, tabOf, r_callV, DD.fnOf, r_call, r_comp, r_range, r_items, r_un, r_not, r_and, r_or, r_andV, r_ite, r_tup, r_lst, r_fB, r_op, r_def, r_cons, r_nil, r_var, r_c, r_chain, chK_t, rdAll_cons, rdAll_nil, startE, rb_ok, rl_some, ro_ok, rs_nx, rs_rt, rd_d, bool_of, p_ixl, p_ixt, p_lt, p_le, p_add, p_sub, p_int, tupleP, its_t, its_l, Bool.not_true, Bool.not_false, cond_true, cond_false, List.map_cons, List.map_nil, List.replicate, List.cons_append, List.nil_append, List.getElem?_cons_zero, List.getElem?_cons_succ, List.set_cons_zero, List.set_cons_succ, List.length_cons, List.length_nil, Nat.zero_add, Nat.reduceAdd, Nat.reduceSub, Nat.reduceLeDiff, Nat.sub_self, if_true, if_false, ↓reduceIte, reduceCtorEq, fin_d1, dats_nil, dats_1, dats_2, decide_true, isi_tup, wipe_1, a2_0, tab_steps, hv, h]
  · unfold m_Ldo mDef b_Ldo
    simp only [s_seq, s_set, s_if, s_par, par2_ok, s_expr, s_ret, s_pass, s_for, r_tab, tabOf, r_callV, DD.fnOf, r_call, r_comp, r_range, r_items, r_un, r_not, r_and, r_or, r_andV, r_ite, r_tup, r_lst, r_fB, r_op, r_def, r_cons, r_nil, r_var, r_c, r_chain, chK_t, rdAll_cons, rdAll_nil, startE, rb_ok, rl_some, ro_ok, rs_nx, rs_rt, rd_d, bool_of, p_ixl, p_ixt, p_lt, p_le, p_add, p_sub, p_int, tupleP, its_t, its_l, Bool.not_true, Bool.not_false, cond_true, cond_false, List.map_cons, List.map_nil, List.replicate, List.cons_append, List.nil_append, List.getElem?_cons_zero, List.getElem?_cons_succ, List.set_cons_zero, List.set_cons_succ, List.length_cons, List.length_nil, Nat.zero_add, Nat.reduceAdd, Nat.reduceSub, Nat.reduceLeDiff, Nat.sub_self, if_true, if_false, ↓reduceIte, reduceCtorEq, fin_d1, dats_nil, dats_1, dats_2, decide_true, isi_tup, wipe_1, a2_0, a2_1, eq_table_table, h1, h2]
def tabF (rs : List PyData) : PyData → PyData → PyData × PyData
  | .int i, .tuple [_, .int j] => match L2.atI rs i with
    | some (.tuple cs) => match L2.atI cs j with
      | some (.tuple [x, y]) => (x, y)
      | _ => (.none, .none)
    | _ => (.none, .none)
  | _, _ => (.none, .none)
def tU (n : Nat) : List PyData := (List.range n).map fun i : Nat => PyData.int (i : Int)
theorem mem_tU {n : Nat} {s : PyData} : s ∈ tU n ↔ ∃ i : Int, s = .int i ∧ 0 ≤ i ∧ i < n := by
  unfold tU
  rw [List.mem_map]
  constructor
  · rintro ⟨i, hi, rfl⟩
    have := List.mem_range.mp hi
    exact ⟨i, rfl, by omega, by omega⟩
  · rintro ⟨i, rfl, h0, h⟩
    exact ⟨i.toNat, List.mem_range.mpr (by omega), by rw [show ((i.toNat : Nat) : Int) = i by omega]⟩
theorem mem_tC {m : Nat} {c : PyData} (h : c ∈ tC m) : ∃ j : Int, c = .tuple [.str "do", .int j] ∧ 0 ≤ j ∧ j < m := by
  unfold tC at h
  obtain ⟨d, hd, rfl⟩ := List.mem_map.mp h
  obtain ⟨i, hi, rfl⟩ := mem_ints hd
  exact ⟨0 + (i : Int), rfl, by omega, by omega⟩
theorem tab_at {rs : List PyData} {n m : Nat} (T : TabOk rs n m) {s c : PyData} (hs : s ∈ tU n) (hc : c ∈ tC m) : ∃ (i j : Int) (cs : List PyData) (x y : Int), s = .int i ∧ c = .tuple [.str "do", .int j] ∧ L2.atI rs i = some (.tuple cs) ∧ L2.atI cs j = some (.tuple [.int x, .int y]) ∧ 0 ≤ x ∧ x < n := by
  obtain ⟨i, rfl, hi0, hi⟩ := mem_tU.mp hs
  obtain ⟨j, rfl, hj0, hj⟩ := mem_tC hc
  obtain ⟨r, hr, h1⟩ := atI_int rs i hi0 (by rw [T.hn]; exact hi)
  obtain ⟨cs, rfl, hl, hcs⟩ := T.hr r hr
  obtain ⟨z, hz, h2⟩ := atI_int cs j hj0 (by rw [hl]; exact hj)
  obtain ⟨x, y, rfl, hx0, hx, _⟩ := hcs z hz
  exact ⟨i, j, cs, x, y, rfl, rfl, h1, h2, hx0, hx⟩
theorem tabF_at {rs cs : List PyData} {i j x y : Int} (h1 : L2.atI rs i = some (.tuple cs)) (h2 : L2.atI cs j = some (.tuple [.int x, .int y])) : tabF rs (.int i) (.tuple [.str "do", .int j]) = (.int x, .int y) := by
  unfold tabF
  simp only [h1, h2]
theorem tC_in {m : Nat} (h1 : 1 ≤ m) (h3 : m ≤ 3) : tC m ∈ Cs := by
  rcases (show m = 1 ∨ m = 2 ∨ m = 3 by omega) with rfl | rfl | rfl
  · exact .tail _ (.tail _ (.head _))
  · exact .tail _ (.tail _ (.tail _ (.head _)))
  · exact .tail _ (.tail _ (.tail _ (.tail _ (.head _))))
def four : List PyData := [.int 0, .int 1, .int 2, .int 3]
theorem four_mem {n : Nat} (hn : n ≤ 4) {s : PyData} (h : s ∈ tU n) : s ∈ four := by
  obtain ⟨i, rfl, h0, h⟩ := mem_tU.mp h
  unfold four
  simp only [List.mem_cons, PyData.int.injEq, List.not_mem_nil, or_false]
  omega
def fours : List (PyData × PyData) := four.flatMap fun s => (four ++ wrongS).map fun v => (s, v)
theorem k_fours (x : MO) : fours.map (fun q => m_same 12 [.d q.1, .d q.2] [x]) = fours.map fun q => okD x (.bool (sm q.1 q.2)) := by kernel_rfl
theorem k_fwrong : (four.all fun s => wrongS.all fun v => !sm s v) = true := by kernel_rfl
theorem has_state_table {rs : List PyData} {L : List PyData} (v : PyData) (x : MO) (hL : L.length ≤ 1000) (hr : m_reached [.d (tableT rs)] [x] = some (.ok (.d (.list L)), [x])) (hs : ∀ s ∈ L, m_same 12 [.d s, .d v] [x] = okD x (.bool (sm s v))) : m_has_state [.d (tableT rs), .d v] [x] = okD x (.bool (L.any fun s => sm s v)) := by
  have e1 : eqP (.str "table") (.str "agree") = some (.bool false) := by kernel_rfl
  have e2 : eqP (.str "table") (.str "set") = some (.bool false) := by kernel_rfl
  have i1 : inP false (.str "table") (.tuple [.str "counter", .str "register"]) = some (.bool false) := by kernel_rfl
  have i2 : inP false (.str "table") (.tuple [.str "stack", .str "queue"]) = some (.bool false) := by kernel_rfl
  unfold tableT at hr ⊢
  have hc : compL (gN 4) fYes (fDef 2 (m_same 12) (fCons (fVar 4) (fCons (fVar 1) fNil))) [some (.d (.tuple [.str "table", .tuple rs])), some (.d v), some (.d (.str "table")), none, none] L [x] = some (L.map fun s => .bool (sm s v), [x]) := comp_map (g := fun s => .bool (sm s v)) fun d hd => by
    have h := hs d hd
    unfold okD at h
    simp only [s_seq, s_set, s_if, s_par, par2_ok, s_expr, s_ret, s_pass, s_for, r_tab, tabOf, r_callV, DD.fnOf, r_call, r_comp, r_range, r_items, r_un, r_not, r_and, r_or, r_andV, r_ite, r_tup, r_lst, r_fB, r_op, r_def, r_cons, r_nil, r_var, r_c, r_chain, chK_t, rdAll_cons, rdAll_nil, startE, rb_ok, rl_some, ro_ok, rs_nx, rs_rt, rd_d, bool_of, p_ixl, p_ixt, p_lt, p_le, p_add, p_sub, p_int, tupleP, its_t, its_l, Bool.not_true, Bool.not_false, cond_true, cond_false, List.map_cons, List.map_nil, List.replicate, List.cons_append, List.nil_append, List.getElem?_cons_zero, List.getElem?_cons_succ, List.set_cons_zero, List.set_cons_succ, List.length_cons, List.length_nil, Nat.zero_add, Nat.reduceAdd, Nat.reduceSub, Nat.reduceLeDiff, Nat.sub_self, if_true, if_false, ↓reduceIte, reduceCtorEq, fin_d1, dats_nil, dats_1, dats_2, decide_true, isi_tup, wipe_1, h]
  unfold m_has_state mDef b_has_state okD
  simp only [s_seq, s_set, s_if, s_par, par2_ok, s_expr, s_ret, s_pass, s_for, r_tab, tabOf, r_callV, DD.fnOf, r_call, r_comp, r_range, r_items, r_un, r_not, r_and, r_or, r_andV, r_ite, r_tup, r_lst, r_fB, r_op, r_def, r_cons, r_nil, r_var, r_c, r_chain, chK_t, rdAll_cons, rdAll_nil, startE, rb_ok, rl_some, ro_ok, rs_nx, rs_rt, rd_d, bool_of, p_ixl, p_ixt, p_lt, p_le, p_add, p_sub, p_int, tupleP, its_t, its_l, Bool.not_true, Bool.not_false, cond_true, cond_false, List.map_cons, List.map_nil, List.replicate, List.cons_append, List.nil_append, List.getElem?_cons_zero, List.getElem?_cons_succ, List.set_cons_zero, List.set_cons_succ, List.length_cons, List.length_nil, Nat.zero_add, Nat.reduceAdd, Nat.reduceSub, Nat.reduceLeDiff, Nat.sub_self, if_true, if_false, ↓reduceIte, reduceCtorEq, fin_d1, dats_nil, dats_1, dats_2, decide_true, isi_tup, wipe_1, List.map, a2_0, eq_table_bank, e1, e2, i1, i2, hr, hc, compR_some _ _ (show (L.map fun s => PyData.bool (sm s v)).length ≤ 1000000 by rw [List.length_map]; omega), any_map, fin_d, List.take_succ_cons, List.take_zero]
theorem sysT {rs : List PyData} {n m : Nat} (T : TabOk rs n m) : Sys (tableT rs) (tC m) (tU n) (.int 0) (tabF rs) where
  lfirst := sh_cases (by kernel_rfl) (fun _ => by kernel_rfl) (fun _ _ => by kernel_rfl) (fun _ _ _ => by kernel_rfl)
  start := sh_cases (by kernel_rfl) (fun _ => by kernel_rfl) (fun _ _ => by kernel_rfl) (fun _ _ _ => by kernel_rfl)
  lcalls := fun S _ => lcalls_table T S
  rows := fun S _ => call_rows_table T S
  ldo := fun s hs c hc S _ => by
    obtain ⟨i, j, cs, x, y, rfl, rfl, h1, h2, _⟩ := tab_at T hs hc
    rw [tabF_at h1 h2]
    exact (tstep_run h1 h2 S).2
  step := fun s hs c hc S _ => by
    obtain ⟨i, j, cs, x, y, rfl, rfl, h1, h2, _⟩ := tab_at T hs hc
    rw [tabF_at h1 h2]
    exact (tstep_run h1 h2 S).1
  inU := fun s hs c hc => by
    obtain ⟨i, j, cs, x, y, rfl, rfl, h1, h2, hx0, hx⟩ := tab_at T hs hc
    rw [tabF_at h1 h2]
    exact mem_tU.mpr ⟨x, rfl, hx0, hx⟩
  u0 := mem_tU.mpr ⟨0, rfl, by decide, by have := T.n1; omega⟩
  eqv := fun s h u g => by
    obtain ⟨i, rfl, _⟩ := mem_tU.mp h
    obtain ⟨j, rfl, _⟩ := mem_tU.mp g
    simp [PyData.eqv]
  sh := fun s h => by
    obtain ⟨i, rfl, _⟩ := mem_tU.mp h
    rfl
  shl := fun l h _ => shaped_list fun s hs => by
    obtain ⟨i, rfl, _⟩ := mem_tU.mp (h s hs)
    exact ⟨rfl, Nat.zero_le _⟩
  key := ⟨false, fun s h => by
    obtain ⟨i, rfl, _⟩ := mem_tU.mp h
    exact ⟨_, rfl, by simp [NestedKey.depth], rfl⟩⟩
  lenU := by unfold tU; rw [List.length_map, List.length_range]; have := T.n4; omega
theorem whole_table {t : PyData} (h : isTable t) : ∃ C L, Whole t C L := by
  obtain ⟨rs, n, m, rfl, hn, n1, n4, m1, m3, hr⟩ := h
  have T : TabOk rs n m := ⟨hn, n1, n4, m1, m3, hr⟩
  have Y := sysT T
  have P : Parts (tableT rs) (tC m) (tU n) (.int 0) (tabF rs) := by
    refine ⟨Y, cf_of (tC_in m1 m3), fun x => has_form_table T [x], fun x => lis_object_table T [x], fun s h => ?_, fun s hs c hc => ?_, fun L hre F => ⟨fun s h x => ?_, fun v hv x => ?_⟩, ⟨.str "table", _, rfl, .inr rfl⟩⟩
    · obtain ⟨i, rfl, _⟩ := mem_tU.mp h
      rfl
    · obtain ⟨i, j, cs, x, y, rfl, rfl, h1, h2, _⟩ := tab_at T hs hc
      rw [tabF_at h1 h2]
      rfl
    · have h1 := has_state_table s x (F.len Y) (hre [x] (by simp)) fun u hu => each (k_fours x) (u, s) (List.mem_flatMap.mpr ⟨u, four_mem n4 (F.sub u hu), List.mem_map.mpr ⟨s, List.mem_append.mpr (.inl (four_mem n4 (F.sub s h))), rfl⟩⟩)
      rw [h1]
      have : (L.any fun u => sm u s) = true := List.any_eq_true.mpr ⟨s, h, by
        obtain ⟨i, rfl, _⟩ := mem_tU.mp (F.sub s h)
        simp [sm]⟩
      rw [this]
    · have h1 := has_state_table v x (F.len Y) (hre [x] (by simp)) fun u hu => each (k_fours x) (u, v) (List.mem_flatMap.mpr ⟨u, four_mem n4 (F.sub u hu), List.mem_map.mpr ⟨v, List.mem_append.mpr (.inr hv), rfl⟩⟩)
      rw [h1]
      have : (L.any fun u => sm u v) = false := by
        rw [List.any_eq_false]
        intro u hu
        have := List.all_eq_true.mp (List.all_eq_true.mp k_fwrong u (four_mem n4 (F.sub u hu))) v hv
        simpa using this
      rw [this]
  obtain ⟨L, W⟩ := whole_of P
  exact ⟨tC m, L, W⟩
theorem law_all (ns : List Int) : ∃ ev S, b_law (startE 17 [.d (.list (ns.map PyData.int))]) [] = some (.rt (.d (.bool true)), ev, S) := law_of (fun t h => by
  rcases h with h | h | h
  · exact whole_small h
  · exact whole_bank h
  · exact whole_table h) ns
end K00
/-! part G4 -/
set_option Elab.async false
set_option linter.all false
open PySem PySem.W PySem.Calls PyProof.Rows
theorem K00.pure_law (ns : List Int) (_ : ns.length ≤ 63) (_ : ∀ z ∈ ns, Builtin.Int.intBits z ≤ 1048576) : K00.lawP ns := K00.law_all ns
set_option maxRecDepth 100000 in
set_option maxHeartbeats 0 in
theorem PySem.Challenge.cw_helpedcalls_k00_whole_objects_holds : PySem.Challenge.rw_helpedcalls_k00_whole_objects.Holds := by
  w_on; o_law
  refine HandSHeadRun.head_any (r := OpenLaw.row PySem.Challenge.rw_helpedcalls_k00_whole_objects) (q := view (OpenLaw.row PySem.Challenge.rw_helpedcalls_k00_whole_objects).prog [75]) (H := K00.hk) (ob := K00.ob) (M := 20000) (loose := K00.loose) (d := HandSHeadRun.topDef (OpenLaw.row PySem.Challenge.rw_helpedcalls_k00_whole_objects).prog 75) (kwd := []) K00.ob_eq
    (by kernel_rfl) (fun s => by kernel_rfl) K00.headrun (by kernel_rfl) (by kernel_rfl) (by kernel_rfl) (by rfl) (by first | assumption | decide +kernel) (by decide +kernel) ⟨rfl, rfl, rfl, rfl, rfl, by decide +kernel⟩ ?hw ?hc
  case hw => w_witness2
  case hc =>
    refine LamX.walk_ofTsE (l := PySem.Challenge.rw_helpedcalls_k00_whole_objects) (n := 63) (k := 20) (x := "script") (CX := fun w => L2.CX (PySem.Challenge.rw_helpedcalls_k00_whole_objects).prog w) rfl (by decide) (by kernel_rfl) ⟨rfl, by decide, by decide⟩ ?F (fun _ _ _ _ _ z => K00.cx_no z)
    intro w mg fa h Y G hmg0
    obtain ⟨K, KX, c⟩ := Y
    have hmg : mg ("law" : PySem.Str) = some (.ref fa) := by
      have e : (HandSHeadRun.topDef (OpenLaw.row PySem.Challenge.rw_helpedcalls_k00_whole_objects).prog 75).name = ("law" : PySem.Str) := by kernel_rfl
      rw [← e]
      exact hmg0
    exact ⟨K, KX, K00.law_at KX G hmg c K00.pure_law⟩
