import PyProof.Rows.All
import Wide.All
import OpenK.AllK
import Wide.FinOn
import KE.KEqDict
import KE.KPairComp
import KE.KDictList
import KE.KRevSl
import PyProof.Rows.SetFrom
import KE.KRevIter
import KE.KDictOf
import KE.KSortAsk
import KE.KSortTup
import PyProof.Rows.SortRev
import KE.KDictSum
import PySem.Challenge.RW_hydrahouse_k64_weights
set_option bootstrap.genMatcherCode false
-- CHANGE: your row's module here, as the last of these rows
set_option Elab.async false
set_option linter.all false
set_option maxRecDepth 100000
/-! THE HAND LAYER, for ints, bools, texts, own classes, LISTS and tuples (index, slices, in, append, pop ..), calls, loops. Paste it whole ahead of your own text; what your proof does not reach may be deleted. -/
namespace L2
open PySem PySem.Spec PyProof.Rows
noncomputable abbrev Key := Sum Int Str
noncomputable def keyIs : Key → Value → Bool
  | .inl k, v => Value.isInt k v
  | .inr x, v => Value.isStrOf x v
noncomputable def keyH (w : World) : Key → Int
  | .inl k => hashInt k
  | .inr x => hashStr w x
theorem keyIs_shape : ∀ {k : Key} {v : Value}, keyIs k v = true → (∃ i t, k = Sum.inl i ∧ v = Value.int i t) ∨ (∃ x t, k = Sum.inr x ∧ v = Value.str x t)
  | .inl i, v, h => by
    obtain ⟨t, e⟩ := Value.isInt_shape (k := i) (v := v) h
    exact .inl ⟨i, t, rfl, e⟩
  | .inr x, v, h => by
    obtain ⟨t, e⟩ := Value.isStrOf_shape (x := x) (v := v) h
    exact .inr ⟨x, t, rfl, e⟩
theorem keyIs_int (i : Int) (t : Tok) : keyIs (.inl i) (.int i t) = true := by simp [keyIs, Value.isInt]
theorem keyIs_str (x : Str) (t : Tok) : keyIs (.inr x) (.str x t) = true := by simp [keyIs, Value.isStrOf]
theorem key_ll (a b : Int) : decide ((Sum.inl a : Key) = Sum.inl b) = (a == b) := by
  by_cases e : a = b
  · subst e; simp
  · have h : ¬ (Sum.inl a : Key) = Sum.inl b := fun q => e (Sum.inl.inj q)
    rw [decide_eq_false h]
    exact (beq_eq_false_iff_ne.mpr e).symm
theorem key_rr (a b : Str) : decide ((Sum.inr a : Key) = Sum.inr b) = decide (a = b) := by
  by_cases e : a = b
  · subst e; simp
  · have h : ¬ (Sum.inr a : Key) = Sum.inr b := fun q => e (Sum.inr.inj q)
    rw [decide_eq_false h, decide_eq_false e]
theorem key_lr (a : Int) (b : Str) : decide ((Sum.inl a : Key) = Sum.inr b) = false := decide_eq_false (fun q => nomatch q)
theorem key_rl (a : Str) (b : Int) : decide ((Sum.inr a : Key) = Sum.inl b) = false := decide_eq_false (fun q => nomatch q)
noncomputable def mixKind (prog : Program) (w : World) : PySem.KeyKind prog w Key where
  is := keyIs
  hash := keyH w
  inj := fun v a b ha hb => by
    rcases keyIs_shape ha with ⟨i, t, rfl, rfl⟩ | ⟨x, t, rfl, rfl⟩
    · rcases keyIs_shape hb with ⟨j, u, rfl, e⟩ | ⟨y, u, rfl, e⟩
      · injection e with e1 _; rw [e1]
      · exact nomatch e
    · rcases keyIs_shape hb with ⟨j, u, rfl, e⟩ | ⟨y, u, rfl, e⟩
      · exact nomatch e
      · injection e with e1 _; rw [e1]
  byValue := fun k v h => by
    rcases keyIs_shape h with ⟨i, t, rfl, rfl⟩ | ⟨x, t, rfl, rfl⟩ <;> rfl
  pyHash := fun hv h => by
    rcases keyIs_shape hv with ⟨i, t, rfl, rfl⟩ | ⟨x, t, rfl, rfl⟩
    · exact wpAny_pyHash_int h
    · exact wpAny_pyHash_str h
  eqBool := fun hu hv h => by
    rcases keyIs_shape hu with ⟨i, t, rfl, rfl⟩ | ⟨x, t, rfl, rfl⟩
    · rcases keyIs_shape hv with ⟨j, u, rfl, rfl⟩ | ⟨y, u, rfl, rfl⟩
      · rw [key_ll] at h; exact wpAny_eqBool_int h
      · rw [key_lr] at h; exact SeqAt.EqAt.int_str i t y u _ _ _ _ h
    · rcases keyIs_shape hv with ⟨j, u, rfl, rfl⟩ | ⟨y, u, rfl, rfl⟩
      · rw [key_rl] at h; exact SeqAt.EqAt.str_int x t j u _ _ _ _ h
      · rw [key_rr] at h; exact wpAny_eqBool_str h
  «strs» := fun k x t v h => by
    rcases keyIs_shape h with ⟨i, u, rfl, e⟩ | ⟨y, u, rfl, e⟩
    · exact nomatch e
    · injection e with e1 _
      subst e1
      cases v <;> rfl
theorem mixKind_int (prog : Program) (w : World) (i : Int) (t : Tok) : (mixKind prog w).is (.inl i) (.int i t) = true := keyIs_int i t
theorem mixKind_str (prog : Program) (w : World) (x : Str) (t : Tok) : (mixKind prog w).is (.inr x) (.str x t) = true := keyIs_str x t
end L2
namespace L2
open PySem PySem.Spec PyProof.Rows
inductive V where
  | non | bl (b : Bool) | int (i : Int) | str (x : Str) | byt (b : Array UInt8) | flt (b : UInt64) | ref (a : Addr) | ty (n : String)
  deriving DecidableEq
noncomputable def RelV : V → Value → Prop
  | .non, u => u = Value.none
  | .bl b, u => u = Value.bool b
  | .int i, u => ∃ t, u = Value.int i t
  | .str x, u => ∃ t, u = Value.str x t
  | .byt b, u => ∃ t, u = Value.bytes b t
  | .flt b, u => ∃ t, u = Value.float b t
  | .ref a, u => u = Value.ref a
  | .ty n, u => u = Value.type n
noncomputable abbrev Vals : List V → List Value → Prop := Paired RelV
theorem Vals.length {xs : List V} {us : List Value} (r : Vals xs us) : xs.length = us.length := Paired.length r
theorem Vals.get : ∀ {xs : List V} {us : List Value} {i : Nat} {x : V}, Vals xs us → xs[i]? = some x → ∃ u, us[i]? = some u ∧ RelV x u
  | _, _, _, _, .nil, e => by simp at e
  | _, _, 0, _, .cons r _, e => by simp at e; subst e; exact ⟨_, rfl, r⟩
  | _, _, i + 1, x, .cons _ t, e => by
    obtain ⟨u, h1, h2⟩ := Vals.get (i := i) (x := x) t (by simpa using e)
    exact ⟨u, by simpa using h1, h2⟩
theorem Vals.append : ∀ {xs ys : List V} {us ws : List Value}, Vals xs us → Vals ys ws → Vals (xs ++ ys) (us ++ ws)
  | _, _, _, _, .nil, s => s
  | _, _, _, _, .cons r t, s => .cons r (Vals.append t s)
theorem Vals.take : ∀ {xs : List V} {us : List Value} (n : Nat), Vals xs us → Vals (xs.take n) (us.take n)
  | _, _, 0, _ => .nil
  | _, _, _ + 1, .nil => .nil
  | _, _, n + 1, .cons r t => .cons r (Vals.take n t)
theorem Vals.drop : ∀ {xs : List V} {us : List Value} (n : Nat), Vals xs us → Vals (xs.drop n) (us.drop n)
  | _, _, 0, r => r
  | _, _, _ + 1, .nil => .nil
  | _, _, n + 1, .cons _ t => Vals.drop n t
noncomputable def RelO : Option V → Option Value → Prop
  | some v, some u => RelV v u
  | none, none => True
  | _, _ => False
noncomputable def KV {κ : Type} : List (κ × V) → List (κ × Value) → Prop := Paired fun (p : κ × V) (q : κ × Value) => p.1 = q.1 ∧ RelV p.2 q.2
noncomputable def kV : Key → V
  | .inl i => .int i
  | .inr x => .str x
inductive HO where
  | lst (xs : List V)
  | tup (xs : List V)
  | dK (kvs : List (Key × V)) | dT (kvs : List (List Key × V))
  | set (S : Int → Bool) (n : Nat)
  | ins (C dx : Addr) (fs : List (Str × V))
  | own (x : Addr)
  | xd (fs : List (Str × V))
  | met (f x : Addr)
  | rng (lo hi : Int)
  | frz (o : Obj) (u : HO)
  | tbl (ps : Array Value)
  | ext (φ : Heap → Prop)
noncomputable abbrev Hp := Addr → Option HO
noncomputable def upd (H : Hp) (a : Addr) (o : HO) : Hp := fun b => if b = a then some o else H b
theorem upd_same {H : Hp} {a : Addr} {o : HO} : upd H a o a = some o := by unfold upd; rw [if_pos rfl]
theorem upd_ne {H : Hp} {a b : Addr} {o : HO} (h : b ≠ a) : upd H a o b = H b := by unfold upd; rw [if_neg h]
theorem ne_of {H : Hp} {a b : Addr} {o u : HO} (h : H a = some o) (h' : H b = some u) (d : o ≠ u) : a ≠ b := by
  intro e; subst e; rw [h] at h'; exact d (Option.some.inj h')
theorem ne_of_none {H : Hp} {a b : Addr} {o : HO} (h : H a = some o) (h' : H b = none) : a ≠ b := by
  intro e; subst e; rw [h] at h'; cases h'
section
variable (P : Program) (w : World)
noncomputable def ObjOk (H : Hp) (h : Heap) (a : Addr) : HO → Prop
  | .lst xs => xs.length ≤ sizeLine ∧ ∃ (its : List Value) (n : Nat), Vals xs its ∧ h.get? a = some { cls := .type "list", data := .seq its.toArray n }
  | .tup xs => xs.length ≤ sizeLine ∧ ∃ its : List Value, Vals xs its ∧ IsTup h a its.toArray
  | .dK kvs => kvs.length ≤ sizeLine ∧ (a == sysModules) = false ∧ ∃ vs, KV kvs vs ∧ h.DictOf (mixKind P w) a vs
  | .dT kvs => kvs.length ≤ sizeLine ∧ (a == sysModules) = false ∧ ∃ xs : List (List Key × Addr × Value),
      Paired (fun (p : List Key × V) (q : List Key × Addr × Value) => p.1 = q.1 ∧ H q.2.1 = some (.tup (p.1.map kV)) ∧ RelV p.2 q.2.2) kvs xs ∧
      ∃ o es ep, h.get? a = some o ∧ o.ExactDict ∧ o.data = .dict es ep ∧ es.toList = xs.map (entryOfKey (tupleKind (mixKind P w))) ∧ (xs.map (·.1)).Nodup
  | .set S n => h.SetOf (intKind P w) a S n
  | .ins C dx fs => H dx = some (.own a) ∧ fs.length ≤ 1000 ∧ dx ≠ a ∧ h.get? a = some (PySem.W.instObj C dx) ∧
      ∃ mA, h.Ns1 dx mA ∧ (∀ f, RelO (fs.lookup f) (mA f)) ∧ PySem.Within mA (fs.map (·.1))
  | .own _ => ∃ o, h.get? a = some o
  | .xd fs => ∃ mA, h.Ns1 a mA ∧ ∀ f, RelO (fs.lookup f) (mA f)
  | .rng lo hi => ∃ t u v, h.get? a = some { cls := .type "range", data := .fields #[.int lo t, .int hi u, .int 1 v] }
  | .frz o u => h.get? a = some o ∧ ObjOk H h a u
  | .tbl ps => h.get? a = some { cls := .none, data := .fields ps }
  | .met f x => h.get? a = some (PySem.W.methodObj (.ref f) (.ref x))
  | .ext φ => φ h ∧ (∃ o, h.get? a = some o) ∧ ∀ h1 h2 : Heap, φ h1 → (∀ o, h1.get? a = some o → h2.get? a = some o) → φ h2
noncomputable def HOk (H : Hp) (h : Heap) : Prop := ∀ a o, H a = some o → ObjOk P w H h a o
end
section
variable {P : Program} {w : World} {H H' : Hp} {h h' : Heap} {a : Addr} {o : HO}
theorem ObjOk.lt (x : ObjOk P w H h a o) : a < h.objs.size := by
  cases o with
  | lst xs => obtain ⟨_, _, _, _, e⟩ := x; exact Heap.lt_size e
  | tup xs => obtain ⟨_, _, _, p⟩ := x; exact p.lt
  | dK kvs => obtain ⟨_, _, _, _, o, _, _, e, _⟩ := x; exact Heap.lt_size e
  | dT kvs => obtain ⟨_, _, _, _, o, _, _, e, _⟩ := x; exact Heap.lt_size e
  | set S n => obtain ⟨o, _, _, _, e, _⟩ := x; exact Heap.lt_size e
  | ins C dx fs => obtain ⟨_, _, _, e, _⟩ := x; exact Heap.lt_size e
  | own y => obtain ⟨_, e⟩ := x; exact Heap.lt_size e
  | xd fs => obtain ⟨_, ⟨_, _, _, e, _⟩, _⟩ := x; exact Heap.lt_size e
  | rng lo hi => obtain ⟨_, _, _, e⟩ := x; exact Heap.lt_size e
  | frz ob u => obtain ⟨e, _⟩ := x; exact Heap.lt_size e
  | tbl ps => exact Heap.lt_size (show h.get? a = some _ from x)
  | met f y => exact Heap.lt_size (show h.get? a = some _ from x)
  | ext φ => obtain ⟨_, ⟨_, e⟩, _⟩ := x; exact Heap.lt_size e
theorem Paired.mapP {α β : Type} {F G : α → β → Prop} : ∀ {l₁ : List α} {l₂ : List β}, Paired F l₁ l₂ → (∀ a b, F a b → G a b) → Paired G l₁ l₂
  | _, _, .nil, _ => .nil
  | _, _, .cons r t, f => .cons (f _ _ r) (Paired.mapP t f)
theorem ObjOk.stay (x : ObjOk P w H h a o) (k : ∀ b u, (b = a ∨ H b = some (.own a)) → h.get? b = some u → h'.get? b = some u)
    (ho : ∀ b, H b = some (.own a) → H' b = some (.own a)) (ht : ∀ b xs, H b = some (.tup xs) → H' b = some (.tup xs)) : ObjOk P w H' h' a o := by
  induction o with
  | lst xs => obtain ⟨z, its, n, r, e⟩ := x; exact ⟨z, its, n, r, k _ _ (.inl rfl) e⟩
  | tup xs => obtain ⟨z, its, r, ob, e, c⟩ := x; exact ⟨z, its, r, ob, k _ _ (.inl rfl) e, c⟩
  | dK kvs => obtain ⟨z, y, vs, r, ob, es, ep, e, c⟩ := x; exact ⟨z, y, vs, r, ob, es, ep, k _ _ (.inl rfl) e, c⟩
  | dT kvs =>
    obtain ⟨z, y, xs, r, ob, es, ep, e, c⟩ := x
    exact ⟨z, y, xs, Paired.mapP r fun p q z => ⟨z.1, ht _ _ z.2.1, z.2.2⟩, ob, es, ep, k _ _ (.inl rfl) e, c⟩
  | set S n => obtain ⟨ob, es, ep, t, e, c⟩ := x; exact ⟨ob, es, ep, t, k _ _ (.inl rfl) e, c⟩
  | ins C dx fs =>
    obtain ⟨d, z, ne, e, mA, ⟨od, es, ep, e2, c⟩, r⟩ := x
    exact ⟨ho _ d, z, ne, k _ _ (.inl rfl) e, mA, ⟨od, es, ep, k _ _ (.inr d) e2, c⟩, r⟩
  | own y => obtain ⟨ob, e⟩ := x; exact ⟨ob, k _ _ (.inl rfl) e⟩
  | xd fs => obtain ⟨mA, ⟨od, es, ep, e, c⟩, r⟩ := x; exact ⟨mA, ⟨od, es, ep, k _ _ (.inl rfl) e, c⟩, r⟩
  | rng lo hi => obtain ⟨t, u, v, e⟩ := x; exact ⟨t, u, v, k _ _ (.inl rfl) e⟩
  | frz ob u ih => obtain ⟨e, q⟩ := x; exact ⟨k _ _ (.inl rfl) e, ih q⟩
  | tbl ps =>
    have e : h.get? a = some { cls := .none, data := .fields ps } := x
    show h'.get? a = some { cls := .none, data := .fields ps }
    exact k a _ (.inl rfl) e
  | met f y =>
    have e : h.get? a = some (PySem.W.methodObj (.ref f) (.ref y)) := x
    show h'.get? a = some (PySem.W.methodObj (.ref f) (.ref y))
    exact k a _ (.inl rfl) e
  | ext φ => obtain ⟨p, ⟨o, e⟩, st⟩ := x; exact ⟨st _ _ p fun o q => k _ _ (.inl rfl) q, ⟨o, k _ _ (.inl rfl) e⟩, st⟩
theorem HOk.lt (x : HOk P w H h) (e : H a = some o) : a < h.objs.size := (x a o e).lt
theorem HOk.fresh (x : HOk P w H h) (e : h.objs.size ≤ a) : H a = none := by
  cases q : H a with
  | none => rfl
  | some u => exact absurd (Nat.lt_of_lt_of_le (x.lt q) e) (Nat.lt_irrefl _)
theorem HOk.kept (x : HOk P w H h) (k : ∀ b u, h.get? b = some u → h'.get? b = some u) : HOk P w H h' := fun a o e =>
  (x a o e).stay (fun b u _ q => k b u q) (fun _ q => q) fun _ _ q => q
theorem HOk.laid (x : HOk P w H h) (k : ∀ b u, h.get? b = some u → h'.get? b = some u) (hp : h.objs.size ≤ a) (new : ObjOk P w (upd H a o) h' a o) : HOk P w (upd H a o) h' := fun b u e => by
  have hn := x.fresh hp
  by_cases hb : b = a
  · subst hb; rw [upd_same] at e; cases e; exact new
  · rw [upd_ne hb] at e
    exact (x b u e).stay (fun c v _ q => k c v q) (fun c q => by rw [upd_ne (ne_of_none q hn)]; exact q) fun c xs q => by rw [upd_ne (ne_of_none q hn)]; exact q
end
noncomputable def Rd (H : Hp) (a : Addr) (u : HO) : Prop := H a = some u ∨ ∃ o, H a = some (.frz o u)
theorem Rd.ok {P : Program} {w : World} {H : Hp} {h : Heap} {a : Addr} {u : HO} (r : Rd H a u) (x : HOk P w H h) : ObjOk P w H h a u := by
  rcases r with r | ⟨o, r⟩
  · exact x a u r
  · obtain ⟨_, q⟩ := x a _ r
    exact q
noncomputable def Mut : Option HO → Prop
  | some (.lst _) => True
  | some (.dK _) => True
  | some (.dT _) => True
  | some (.set _ _) => True
  | some (.ins _ _ _) => True
  | some (.ext _) => True
  | _ => False
section
variable {P : Program} {w : World} {H : Hp} {h h' : Heap} {x e : Addr} {o' : HO}
theorem HOk.write (ok : HOk P w H h) (mu : Mut (H x)) (he : e = x ∨ H e = some (.own x)) (k : ∀ b u, b ≠ e → h.get? b = some u → h'.get? b = some u) (heo : ∃ u, h'.get? e = some u)
    (new : ObjOk P w (upd H x o') h' x o') : HOk P w (upd H x o') h' := fun b u q => by
  have nown : ∀ c y, H c = some (.own y) → c ≠ x := fun c y r z => by subst z; rw [r] at mu; exact mu
  have ntup : ∀ c xs, H c = some (.tup xs) → c ≠ x := fun c xs r z => by subst z; rw [r] at mu; exact mu
  by_cases hb : b = x
  · subst hb; rw [upd_same] at q; cases q; exact new
  · rw [upd_ne hb] at q
    by_cases hbe : b = e
    · have q' : H b = some (.own x) := by
        rcases he with z | z
        · exact absurd (hbe.trans z) hb
        · rw [hbe]; exact z
      rw [q] at q'; cases q'
      obtain ⟨v, hv⟩ := heo
      exact ⟨v, by rw [hbe]; exact hv⟩
    · refine (ok b u q).stay (fun c v hc r => k c v ?_ r) (fun c r => by rw [upd_ne (nown c b r)]; exact r) fun c xs r => by rw [upd_ne (ntup c xs r)]; exact r
      rcases hc with rfl | hc
      · exact hbe
      · rintro rfl
        rcases he with z | z
        · exact nown c b hc z
        · rw [hc] at z; cases z; exact hb rfl
end
structure Un (fs ex : List Addr) (H H' : Hp) (h h' : Heap) : Prop where
  keep : ∀ b o, h.get? b = some o → H b = none → b ∉ fs → b ∉ ex → h'.get? b = some o
  slot : ∀ b o, h.get? b = some o → H b = none → b ∈ fs → b ∉ ex → ∃ sl, h'.get? b = some { o with slots := sl }
  free : ∀ b o, h.get? b = some o → H b = none → b ∉ ex → H' b = none
  there : ∀ b o, h.get? b = some o → b ∉ ex → ∃ o', h'.get? b = some o'
  tups : ∀ b xs, H b = some (.tup xs) → H' b = some (.tup xs)
  frzs : ∀ b o u, H b = some (.frz o u) → H' b = some (.frz o u)
  tbls : ∀ b ps, H b = some (.tbl ps) → ∃ more, H' b = some (.tbl (ps ++ more))
section
variable {fs fs' ex ex' : List Addr} {H H1 H2 : Hp} {h h1 h2 h' : Heap} {a x e : Addr} {o : HO}
theorem Un.any (u : Un fs ex H H1 h h1) {b : Addr} {ob : Obj} (q : h.get? b = some ob) (n : H b = none) (hx : b ∉ ex) : ∃ sl, h1.get? b = some { ob with slots := sl } := by
  by_cases hb : b ∈ fs
  · exact u.slot b ob q n hb hx
  · exact ⟨ob.slots, u.keep b ob q n hb hx⟩
theorem Un.kept (k : ∀ b u, h.get? b = some u → h'.get? b = some u) : Un fs ex H H h h' :=
  ⟨fun b ob q _ _ _ => k b ob q, fun b ob q _ _ _ => ⟨ob.slots, k b ob q⟩, fun _ _ _ n _ => n, fun b ob q _ => ⟨ob, k b ob q⟩, fun _ _ q => q, fun _ _ _ q => q, fun _ ps q => ⟨#[], by rw [q]; simp⟩⟩
theorem Un.refl : Un fs ex H H h h := Un.kept fun _ _ q => q
theorem Un.laid (k : ∀ b u, h.get? b = some u → h'.get? b = some u) (hp : h.objs.size ≤ a) (hn : H a = none) : Un fs ex H (upd H a o) h h' where
  keep := fun b u q _ _ _ => k b u q
  slot := fun b u q _ _ _ => ⟨u.slots, k b u q⟩
  free := fun b u q n _ => by rw [upd_ne (Nat.ne_of_lt (Nat.lt_of_lt_of_le (Heap.lt_size q) hp))]; exact n
  there := fun b u q _ => ⟨u, k b u q⟩
  tups := fun b xs q => by rw [upd_ne (ne_of_none q hn)]; exact q
  frzs := fun b u xs q => by rw [upd_ne (ne_of_none q hn)]; exact q
  tbls := fun b ps q => ⟨#[], by rw [upd_ne (ne_of_none q hn), q]; simp⟩
theorem Un.write (mu : Mut (H x)) (he : e = x ∨ H e = some (.own x)) (k : ∀ b u, b ≠ e → h.get? b = some u → h'.get? b = some u) (heo : ∃ u, h'.get? e = some u) : Un fs ex H (upd H x o) h h' := by
  have hx : ∀ b, H b = none → b ≠ x := fun b n z => by subst z; rw [n] at mu; exact mu
  have hb : ∀ b, H b = none → b ≠ e := fun b n z => by
    subst z
    rcases he with r | r
    · exact hx b n r
    · rw [n] at r; cases r
  have hm : ∀ b u, H b = some u → ¬ Mut (some u) → b ≠ x := fun b u q nm z => by subst z; rw [q] at mu; exact nm mu
  refine ⟨fun b u q n _ _ => k b u (hb b n) q, fun b u q n _ _ => ⟨u.slots, k b u (hb b n) q⟩, fun b u q n _ => by rw [upd_ne (hx b n)]; exact n, fun b u q _ => ?_,
    fun b xs q => by rw [upd_ne (hm b _ q fun z => z)]; exact q, fun b u xs q => by rw [upd_ne (hm b _ q fun z => z)]; exact q, fun b ps q => ⟨#[], by rw [upd_ne (hm b _ q fun z => z), q]; simp⟩⟩
  by_cases hbe : b = e
  · subst hbe; exact heo
  · exact ⟨u, k b u hbe q⟩
end
noncomputable def trk (h : Heap) (H : Hp) : List Addr := (List.range h.objs.size).filter fun a => (H a).isSome
noncomputable def hidT (h : Heap) (H : Hp) : Heap := PySem.W.hideAll h (trk h H)
theorem hidT_size (h : Heap) (H : Hp) : (hidT h H).objs.size = h.objs.size := PySem.W.hideAll_size _ _
theorem hidT_get {h : Heap} {H : Hp} {b : Addr} {o : Obj} (e : h.get? b = some o) (n : H b = none) : (hidT h H).get? b = some o :=
  PySem.W.hideAll_get _ e fun hm => by
    have q : (H b).isSome = true := (List.mem_filter.mp hm).2
    rw [n] at q; simp at q
theorem of_hidT {h : Heap} {H : Hp} {b : Addr} {o : Obj} (e : (hidT h H).get? b = some o) : h.get? b = some o ∧ H b = none := by
  have e' : h.get? b = some o := PySem.W.of_hideAll (trk h H) e
  refine ⟨e', ?_⟩
  cases q : H b with
  | none => rfl
  | some x =>
    have hm : b ∈ trk h H := List.mem_filter.mpr ⟨List.mem_range.mpr (Heap.lt_size e'), by simp [q]⟩
    have z : (hidT h H).get? b = none := PySem.W.hideAll_none (trk h H) hm
    rw [z] at e; cases e
noncomputable def allNews (g h : Heap) (L : Addr) : List (Addr × Obj) := (List.range h.objs.size).filterMap fun a => if a = L ∨ (g.get? a).isSome = true then none else (h.get? a).map fun o => (a, o)
noncomputable def rest (g h : Heap) (L d : Addr) : List (Addr × Obj) := (allNews g h L).filter fun p => decide (p.1 ≠ d)
end L2
namespace L2
open PySem PySem.Spec PyProof.Rows
structure Mod (K : PySem.W.Frag) (mg : Str → Option Value) (base : Heap) : Prop where
  kin : K.In base
  glob : base.Ns mainGlobals mg
  blt : ∃ mb, base.Ns builtinsNs mb ∧ ∀ x : Str, x ≠ "__name__" → mb x = bootBuiltins x
  nolimit : base.NoLimit
structure Cx where
  prog : Program
  w : World
  K : PySem.W.Frag
  mg : Str → Option Value
  base : Heap
  A : Around
  N : List Str
  s₀ : Shared
  H₀ : Hp
  env : Env
  outer : List Env
  stack : List Env
  ex : List Addr
  fn : Str → Bool
  calm : Bool
  pn : List (Addr × Obj)
  xe : Value → Shared → Prop
noncomputable def frs (l : List Env) : List Addr := l.filterMap (·.frame)
noncomputable abbrev Cx.fs (X : Cx) : List Addr := frs X.outer
noncomputable def Vis (sc : Scope) (x : Str) : Prop := sc.names.lookup x = some .local ∨ sc.names.lookup x = some .cell ∨ sc.names.lookup x = some .free
noncomputable def Loc (sc : Scope) (x : Str) : Prop := sc.names.lookup x = some .local ∨ sc.names.lookup x = some .cell
noncomputable def Look (env : Env) (h : Heap) (m : Str → Option Value) (x : Str) (u : Value) : Prop :=
  (env.kindOf x = some .local ∧ m x = some u) ∨ ((env.kindOf x = some .cell ∨ env.kindOf x = some .free) ∧ ∃ c, env.cells.lookup x = some c ∧ h.IsCell c (some u))
structure Cx.Ok (X : Cx) : Prop where
  mod : Mod X.K X.mg X.base
  kind : X.env.scope.kind = .function
  glob : X.env.globals = mainGlobals
  blt : X.env.builtins = builtinsNs
  above : X.s₀.heap.objs.size ≤ X.env.locals
  inj : ∀ x y c, X.env.cells.lookup x = some c → X.env.cells.lookup y = some c → x = y
  has : ∀ x, (X.env.kindOf x = some .cell ∨ X.env.kindOf x = some .free) → ∃ c, X.env.cells.lookup x = some c
  cab : ∀ x c, X.fn x = true → X.env.cells.lookup x = some c → X.s₀.heap.objs.size ≤ c
  hd : X.calm = true → X.A.handled = none
  frames : X.A.frames = some X.stack
  stk : X.stack = X.outer ∨ (X.stack = X.env :: X.outer ∧ X.env.frame = some X.env.locals)
  exf : ∀ b ∈ X.ex, b ≠ X.env.locals ∧ ∀ x c, X.env.cells.lookup x = some c → c ≠ b
  bs : ∀ b o, X.base.get? b = some o → X.s₀.heap.get? b = some o ∧ X.H₀ b = none
  bsz : X.base.objs.size ≤ X.s₀.heap.objs.size
  noex : ∀ b o, X.base.get? b = some o → b ∉ X.ex
  exfs : ∀ b ∈ X.ex, b ∉ X.fs
  funs : X.s₀.heap.FunFrames X.base X.outer
  frf : ∀ b ∈ X.fs, X.H₀ b = none
structure Inv (X : Cx) (pins : List (Addr × Obj)) (σ : List (Option V)) (H : Hp) (s : Shared) : Prop where
  ok : X.Ok
  os : s.os = X.s₀.os
  bare : AllBare s.gens
  base : Un X.fs X.ex X.H₀ H X.s₀.heap s.heap
  loc : ∃ m, s.heap.Ns X.env.locals m ∧ ∀ (i : Nat) (x : Str) (v : V), X.N[i]? = some x → σ[i]? = some (some v) → Vis X.env.scope x → ∃ u, RelV v u ∧ Look X.env s.heap m x u
  cell : ∀ x c, X.env.cells.lookup x = some c → ∃ v, s.heap.IsCell c v
  free : H X.env.locals = none
  freeC : ∀ x c, X.env.cells.lookup x = some c → H c = none
  pin : ∀ p ∈ X.pn ++ pins, s.heap.get? p.1 = some p.2 ∧ H p.1 = none ∧ p.1 ≠ X.env.locals ∧ p.1 ∉ X.fs ∧ ∀ v, p.2.data ≠ .cell v
  hok : HOk X.prog X.w H s.heap
  len : σ.length = X.N.length
section
variable {X : Cx} {pins : List (Addr × Obj)} {σ : List (Option V)} {H H' : Hp} {s : Shared} {h' : Heap}
theorem Cx.Ok.nofr (ok : X.Ok) {b : Addr} {o : Obj} (e : X.base.get? b = some o) : b ∉ X.fs := fun hb => by
  have := (ok.funs.mem hb).1
  rw [e] at this; cases this
theorem Inv.bs (I : Inv X pins σ H s) : ∀ b o, X.base.get? b = some o → s.heap.get? b = some o ∧ H b = none := fun b o e =>
  ⟨I.base.keep b o (I.ok.bs b o e).1 (I.ok.bs b o e).2 (I.ok.nofr e) (I.ok.noex b o e), I.base.free b o (I.ok.bs b o e).1 (I.ok.bs b o e).2 (I.ok.noex b o e)⟩
theorem Inv.bk (I : Inv X pins σ H s) : ∀ b o, X.base.get? b = some o → s.heap.get? b = some o := fun b o e => (I.bs b o e).1
theorem Inv.mod (I : Inv X pins σ H s) : Mod X.K X.mg X.base := I.ok.mod
theorem Inv.kIn (I : Inv X pins σ H s) : X.K.In s.heap := I.ok.mod.kin.keeps I.bk
theorem Inv.lt (I : Inv X pins σ H s) : X.env.locals < s.heap.objs.size := let ⟨_, hn, _⟩ := I.loc; hn.lt
theorem Inv.sz (I : Inv X pins σ H s) : X.s₀.heap.objs.size ≤ s.heap.objs.size := Nat.le_trans I.ok.above (Nat.le_of_lt I.lt)
theorem Inv.nofs (I : Inv X pins σ H s) {a : Addr} (h : s.heap.objs.size ≤ a) : a ∉ X.fs := fun hb => by
  obtain ⟨_, o, ho, _⟩ := I.ok.funs.mem hb
  exact absurd (Nat.lt_of_lt_of_le (Heap.lt_size ho) (Nat.le_trans I.sz h)) (Nat.lt_irrefl _)
theorem Inv.cne (I : Inv X pins σ H s) : ∀ x c, X.env.cells.lookup x = some c → c ≠ X.env.locals := fun x c e z => by
  obtain ⟨v, o, ho, hd⟩ := I.cell x c e
  obtain ⟨m, ⟨o', es, ep, ho', hd', _⟩, _⟩ := I.loc
  rw [z, ho'] at ho; cases ho; rw [hd'] at hd; cases hd
theorem Inv.funs (I : Inv X pins σ H s) : s.heap.FunFrames X.base X.outer := by
  have all : ∀ (l : List Env), (∀ b ∈ frs l, b ∈ X.fs) → X.s₀.heap.FunFrames X.base l → s.heap.FunFrames X.base l := by
    intro l
    induction l with
    | nil => intro _ _; trivial
    | cons env r ih =>
      intro hs hl
      obtain ⟨hk, ⟨L, o, hf, hn, ho, hd⟩, hr⟩ := hl
      have hL : L ∈ X.fs := hs L (by unfold frs; rw [List.filterMap_cons, hf]; exact List.mem_cons_self)
      obtain ⟨sl, e⟩ := I.base.slot L o ho (I.ok.frf L hL) hL fun z => I.ok.exfs L z hL
      exact ⟨hk, ⟨L, _, hf, hn, e, hd⟩, ih (fun b hb => hs b (by unfold frs; rw [List.filterMap_cons, hf]; exact List.mem_cons_of_mem _ hb)) hr⟩
  exact all X.outer (fun _ hb => hb) I.ok.funs
theorem Inv.stack (I : Inv X pins σ H s) : s.heap.FunFrames X.base X.stack := by
  rcases I.ok.stk with e | ⟨e, hf⟩
  · rw [e]; exact I.funs
  · rw [e]
    obtain ⟨m, hn, _⟩ := I.loc
    refine .cons (by rw [I.ok.kind]; decide) hf hn ?_ I.funs
    exact Heap.get?_none_of_le (Nat.le_trans I.ok.bsz I.ok.above)
theorem Inv.stkSub (I : Inv X pins σ H s) : ∀ b ∈ frs X.stack, b ∈ X.env.locals :: X.fs := fun b hb => by
  rcases I.ok.stk with e | ⟨e, hf⟩
  · rw [e] at hb; exact List.mem_cons_of_mem _ hb
  · rw [e] at hb
    unfold frs at hb
    rw [List.filterMap_cons, hf] at hb
    exact hb
theorem Inv.stkFree (I : Inv X pins σ H s) : ∀ b ∈ frs X.stack, H b = none := fun b hb => by
  rcases List.mem_cons.mp (I.stkSub b hb) with e | hb
  · rw [e]; exact I.free
  · obtain ⟨_, o, ho, _⟩ := I.ok.funs.mem hb
    exact I.base.free b o ho (I.ok.frf b hb) fun z => I.ok.exfs b z hb
theorem Inv.step {g' : Array GenState} {t' : Nat} {d' : Drawn} {ch : List Addr} (I : Inv X pins σ H s)
    (hch : ∀ b ∈ ch, (b ∈ X.ex ∨ X.s₀.heap.objs.size ≤ b) ∧ b ≠ X.env.locals ∧ (∀ x c, X.env.cells.lookup x = some c → c ≠ b) ∧ ∀ p ∈ X.pn ++ pins, p.1 ≠ b)
    (keep : ∀ b o, b ≠ X.env.locals → b ∉ X.fs → b ∉ ch → s.heap.get? b = some o → H b = none → h'.get? b = some o)
    (slot : ∀ b o, b ≠ X.env.locals → b ∈ X.fs → b ∉ ch → s.heap.get? b = some o → H b = none → ∃ sl, h'.get? b = some { o with slots := sl }) (free : ∀ b o, b ∉ ch → s.heap.get? b = some o → H b = none → H' b = none)
    (there : ∀ b o, b ∉ ch → s.heap.get? b = some o → ∃ o', h'.get? b = some o')
    (tups : ∀ b xs, H b = some (.tup xs) → H' b = some (.tup xs)) (frzs : ∀ b o u, H b = some (.frz o u) → H' b = some (.frz o u)) (tbls : ∀ b ps, H b = some (.tbl ps) → ∃ more, H' b = some (.tbl (ps ++ more)))
    (ns : ∀ m, s.heap.Ns X.env.locals m → h'.Ns X.env.locals m) (hok : HOk X.prog X.w H' h') (hg : AllBare g') :
    Inv X pins σ H' { s with heap := h', gens := g', drawn := d', toks := t' } := by
  have neL : ∀ b o, X.s₀.heap.get? b = some o → b ≠ X.env.locals := fun b o e => Nat.ne_of_lt (Nat.lt_of_lt_of_le (Heap.lt_size e) I.ok.above)
  have neC : ∀ b o, X.s₀.heap.get? b = some o → b ∉ X.ex → b ∉ ch := fun b o e hx hb => by
    rcases (hch b hb).1 with z | z
    · exact hx z
    · exact absurd (Nat.lt_of_lt_of_le (Heap.lt_size e) z) (Nat.lt_irrefl _)
  have cellK : ∀ x c, X.env.cells.lookup x = some c → ∀ v, s.heap.IsCell c v → h'.IsCell c v := fun x c e v ⟨o, ho, hd⟩ => by
    have nch : c ∉ ch := fun z => (hch c z).2.2.1 x c e rfl
    by_cases hc : c ∈ X.fs
    · obtain ⟨sl, q⟩ := slot c o (I.cne x c e) hc nch ho (I.freeC x c e)
      exact ⟨_, q, hd⟩
    · exact ⟨o, keep c o (I.cne x c e) hc nch ho (I.freeC x c e), hd⟩
  refine ⟨I.ok, I.os, hg, ⟨fun b o e n hb hx => ?_, fun b o e n hb hx => ?_, fun b o e n hx => ?_, fun b o e hx => ?_, fun b xs e => tups b xs (I.base.tups b xs e), fun b o xs e => frzs b o xs (I.base.frzs b o xs e), fun b ps e => ?_⟩, ?_, fun x c e => ?_, ?_, fun x c e => ?_, fun p hp => ?_, hok, I.len⟩
  · exact keep b o (neL b o e) hb (neC b o e hx) (I.base.keep b o e n hb hx) (I.base.free b o e n hx)
  · obtain ⟨sl, e1⟩ := I.base.slot b o e n hb hx
    obtain ⟨sl', e2⟩ := slot b _ (neL b o e) hb (neC b o e hx) e1 (I.base.free b o e n hx)
    exact ⟨sl', e2⟩
  · obtain ⟨o', e1⟩ := I.base.there b o e hx
    exact free b o' (neC b o e hx) e1 (I.base.free b o e n hx)
  · obtain ⟨o', e1⟩ := I.base.there b o e hx
    exact there b o' (neC b o e hx) e1
  · obtain ⟨m1, e1⟩ := I.base.tbls b ps e
    obtain ⟨m2, e2⟩ := tbls b _ e1
    exact ⟨m1 ++ m2, by rw [e2, Array.append_assoc]⟩
  · obtain ⟨m, hn, hl⟩ := I.loc
    refine ⟨m, ns m hn, fun i x v e1 e2 e3 => ?_⟩
    obtain ⟨u, r, l⟩ := hl i x v e1 e2 e3
    refine ⟨u, r, ?_⟩
    rcases l with l | ⟨k, c, e, z⟩
    · exact .inl l
    · exact .inr ⟨k, c, e, cellK x c e _ z⟩
  · obtain ⟨v, z⟩ := I.cell x c e
    exact ⟨v, cellK x c e v z⟩
  · obtain ⟨m, ⟨o, _, _, ho, _⟩, _⟩ := I.loc
    exact free _ o (fun z => (hch _ z).2.1 rfl) ho I.free
  · obtain ⟨v, o, ho, hd⟩ := I.cell x c e
    exact free c o (fun z => (hch c z).2.2.1 x c e rfl) ho (I.freeC x c e)
  · obtain ⟨e, n, ne, nf, d⟩ := I.pin p hp
    have nch : p.1 ∉ ch := fun z => (hch p.1 z).2.2.2 p hp rfl
    exact ⟨keep p.1 p.2 ne nf nch e n, free p.1 p.2 nch e n, ne, nf, d⟩
theorem Inv.un {t' : Nat} (I : Inv X pins σ H s) (u : Un X.fs [] H H' s.heap h') (hok : HOk X.prog X.w H' h') : Inv X pins σ H' { s with heap := h', toks := t' } := by
  obtain ⟨m, ⟨o, es, ep, ho, r⟩, _⟩ := id I.loc
  obtain ⟨sl, hL⟩ := u.any ho I.free (by simp)
  exact I.step (g' := s.gens) (d' := s.drawn) (ch := []) (fun _ z => nomatch z) (fun b o _ hb _ e n => u.keep b o e n hb (by simp)) (fun b o _ hb _ e n => u.slot b o e n hb (by simp)) (fun b o _ e n => u.free b o e n (by simp)) (fun b o _ e => u.there b o e (by simp)) u.tups u.frzs u.tbls (fun m' hm => by
    obtain ⟨o', es', ep', ho', r'⟩ := hm
    rw [ho] at ho'; cases ho'
    exact ⟨_, es', ep', hL, r'⟩) hok I.bare
theorem Inv.call {g' : Array GenState} {t' : Nat} {d' : Drawn} {ch : List Addr} (I : Inv X pins σ H s) (u : Un (frs X.stack) ch H H' s.heap h') (hok : HOk X.prog X.w H' h') (hg : AllBare g')
    (hch : ∀ b ∈ ch, (b ∈ X.ex ∨ X.s₀.heap.objs.size ≤ b) ∧ b ≠ X.env.locals ∧ (∀ x c, X.env.cells.lookup x = some c → c ≠ b) ∧ ∀ p ∈ X.pn ++ pins, p.1 ≠ b) :
    Inv X pins σ H' { s with heap := h', gens := g', drawn := d', toks := t' } := by
  obtain ⟨m, ⟨o, es, ep, ho, r⟩, _⟩ := id I.loc
  obtain ⟨sl, hL⟩ := u.any ho I.free fun z => (hch _ z).2.1 rfl
  exact I.step (ch := ch) hch (fun b o hL hb hc e n => u.keep b o e n (fun z => (List.mem_cons.mp (I.stkSub b z)).elim hL hb) hc) (fun b o _ _ hc e n => u.any e n hc) (fun b o hc e n => u.free b o e n hc) (fun b o hc e => u.there b o e hc) u.tups u.frzs u.tbls (fun m' hm => by
    obtain ⟨o', es', ep', ho', r'⟩ := hm
    rw [ho] at ho'; cases ho'
    exact ⟨_, es', ep', hL, r'⟩) hok hg
theorem Inv.turned {t' : Nat} {it : Addr} (I : Inv X pins σ H s) (k : ∀ b o, b ≠ it → s.heap.get? b = some o → h'.get? b = some o) (hn : H it = none) (hL : it ≠ X.env.locals)
    (h1 : it ∈ X.ex ∨ X.s₀.heap.objs.size ≤ it) (h2 : ∀ x c, X.env.cells.lookup x = some c → c ≠ it) (h3 : ∀ p ∈ X.pn ++ pins, p.1 ≠ it) : Inv X pins σ H { s with heap := h', toks := t' } := by
  have nit : ∀ b u, H b = some u → b ≠ it := fun b u e z => by rw [z, hn] at e; cases e
  refine I.step (g' := s.gens) (d' := s.drawn) (ch := [it]) (fun b hb => ?_) (fun b o _ _ hc e _ => k b o (fun z => hc (by simp [z])) e) (fun b o _ _ hc e _ => ⟨o.slots, k b o (fun z => hc (by simp [z])) e⟩) (fun _ _ _ _ n => n)
    (fun b o hc e => ⟨o, k b o (fun z => hc (by simp [z])) e⟩) (fun _ _ e => e) (fun _ _ _ e => e) (fun b ps e => ⟨#[], by rw [e]; simp⟩) (fun m hm => ?_) (fun b u e => ?_) I.bare
  · have e : b = it := by simpa using hb
    subst e
    exact ⟨h1, hL, h2, h3⟩
  · obtain ⟨o, es, ep, ho, r⟩ := hm
    exact ⟨o, es, ep, k _ o (Ne.symm hL) ho, r⟩
  · refine (I.hok b u e).stay (fun c v hc q => k c v ?_ q) (fun _ q => q) fun _ _ q => q
    rcases hc with z | z
    · rw [z]; exact nit b u e
    · exact nit c _ z
theorem Inv.tok (I : Inv X pins σ H s) (t : Nat) : Inv X pins σ H { s with toks := t } := I.un (h' := s.heap) (t' := t) Un.refl I.hok
theorem Inv.kept {t' : Nat} (I : Inv X pins σ H s) (k : ∀ b u, s.heap.get? b = some u → h'.get? b = some u) : Inv X pins σ H { s with heap := h', toks := t' } := I.un (Un.kept k) (I.hok.kept k)
theorem Inv.laid {a : Addr} {o : HO} {t' : Nat} (I : Inv X pins σ H s) (k : ∀ b u, s.heap.get? b = some u → h'.get? b = some u) (hp : s.heap.objs.size ≤ a) (new : ObjOk X.prog X.w (upd H a o) h' a o) :
    Inv X pins σ (upd H a o) { s with heap := h', toks := t' } := I.un (Un.laid k hp (I.hok.fresh hp)) (I.hok.laid k hp new)
theorem Inv.write {x e : Addr} {o : HO} {t' : Nat} (I : Inv X pins σ H s) (mu : Mut (H x)) (he : e = x ∨ H e = some (.own x)) (k : ∀ b u, b ≠ e → s.heap.get? b = some u → h'.get? b = some u) (heo : ∃ u, h'.get? e = some u)
    (new : ObjOk X.prog X.w (upd H x o) h' x o) : Inv X pins σ (upd H x o) { s with heap := h', toks := t' } := I.un (Un.write mu he k heo) (I.hok.write mu he k heo new)
theorem Inv.pins_of {pins' : List (Addr × Obj)} (I : Inv X pins σ H s) (h : ∀ p ∈ pins', s.heap.get? p.1 = some p.2 ∧ H p.1 = none ∧ p.1 ≠ X.env.locals ∧ p.1 ∉ X.fs ∧ ∀ v, p.2.data ≠ .cell v) : Inv X pins' σ H s :=
  ⟨I.ok, I.os, I.bare, I.base, I.loc, I.cell, I.free, I.freeC, fun p hp => (List.mem_append.mp hp).elim (fun z => I.pin p (List.mem_append_left _ z)) (h p), I.hok, I.len⟩
theorem nodup_ix {N : List Str} (hN : N.Nodup) {i j : Nat} {x : Str} (a : N[i]? = some x) (b : N[j]? = some x) : i = j := by
  obtain ⟨h1, e1⟩ := List.getElem?_eq_some_iff.mp a
  obtain ⟨h2, e2⟩ := List.getElem?_eq_some_iff.mp b
  exact (List.getElem_inj hN).mp (e1.trans e2.symm)
theorem store_ok2 {M : Model} {A : Around} {E : Value → Shared → Prop} {i : Nat} {x : Str} {v : V} {u : Value} {Q : Unit → Shared → Prop} (I : Inv X pins σ H s) (hN : X.N.Nodup) (hi : X.N[i]? = some x) (hx : Loc X.env.scope x) (r : RelV v u)
    (h : ∀ s', Inv X pins (σ.set i (some v)) H s' → (∃ a, Heap.SameBut a s.heap s'.heap ∧ (a = X.env.locals ∨ X.env.cells.lookup x = some a)) → Q () s') (hf : X.fn x = true ∨ X.env.scope.names.lookup x = some .local := by first | exact .inl rfl | exact .inr rfl | assumption) : wpAny M A (storeName X.env x u) Q E s := by
  obtain ⟨m, hn, hl⟩ := id I.loc
  have hcls : (X.env.scope.kind == .class || (X.env.scope.kind == .module && X.env.locals != X.env.globals)) = false := by rw [I.ok.kind]; rfl
  have hiσ : i < σ.length := by rw [I.len]; exact (List.getElem?_eq_some_iff.mp hi).1
  have cne := I.cne
  have tracked : ∀ {a : Addr} {h' : Heap}, (∃ o, s.heap.get? a = some o ∧ H a = none) → Heap.SameBut a s.heap h' → HOk X.prog X.w H h' := fun {a h'} ha hs b ob e => by
    obtain ⟨_, _, hfree⟩ := ha
    refine (I.hok b ob e).stay (fun c w' hc q => (hs.2 c ?_).trans q) (fun _ q => q) fun _ _ q => q
    rintro rfl
    rcases hc with rfl | hc
    · rw [hfree] at e; cases e
    · rw [hfree] at hc; cases hc
  rcases hx with hk | hk
  · refine wpAny_storeName_local hk hn (fun h' hn' hs => ?_) hcls
    obtain ⟨oL, _, _, hoL, _⟩ := id hn
    refine h _ ⟨I.ok, I.os, I.bare, ⟨fun b o e n hb hx => ?_, fun b o e n hb hx => ?_, I.base.free, fun b o e hx => ?_, I.base.tups, I.base.frzs, I.base.tbls⟩, ⟨_, hn', fun j y v' e1 e2 e3 => ?_⟩, fun y c e => ?_, I.free, I.freeC, fun p hp => ?_, tracked ⟨oL, hoL, I.free⟩ hs, by simpa using I.len⟩ ⟨_, hs, .inl rfl⟩
    · exact (hs.2 b (Nat.ne_of_lt (Nat.lt_of_lt_of_le (Heap.lt_size e) I.ok.above))).trans (I.base.keep b o e n hb hx)
    · obtain ⟨sl, e1⟩ := I.base.slot b o e n hb hx
      exact ⟨sl, (hs.2 b (Nat.ne_of_lt (Nat.lt_of_lt_of_le (Heap.lt_size e) I.ok.above))).trans e1⟩
    · obtain ⟨o', e1⟩ := I.base.there b o e hx
      exact ⟨o', (hs.2 b (Nat.ne_of_lt (Nat.lt_of_lt_of_le (Heap.lt_size e) I.ok.above))).trans e1⟩
    · by_cases hj : j = i
      · subst hj
        rw [hi] at e1; cases e1
        rw [List.getElem?_set_self hiσ] at e2
        cases e2
        exact ⟨u, r, .inl ⟨hk, by simp⟩⟩
      · rw [List.getElem?_set_ne (Ne.symm hj)] at e2
        obtain ⟨u', r', q⟩ := hl j y v' e1 e2 e3
        refine ⟨u', r', ?_⟩
        rcases q with ⟨k, e⟩ | ⟨k, c, e, z⟩
        · refine .inl ⟨k, ?_⟩
          have : y ≠ x := fun e => hj (nodup_ix hN e1 (e ▸ hi))
          simp [this, e]
        · exact .inr ⟨k, c, e, z.sameBut hs (cne y c e)⟩
    · obtain ⟨w', z⟩ := I.cell y c e
      exact ⟨w', z.sameBut hs (cne y c e)⟩
    · obtain ⟨e, n, ne, nf, d⟩ := I.pin p hp
      exact ⟨(hs.2 p.1 ne).trans e, n, ne, nf, d⟩
  · have hfn : X.fn x = true := by
      rcases hf with z | z
      · exact z
      · rw [z] at hk; cases hk
    obtain ⟨c, hc⟩ := I.ok.has x (.inl hk)
    obtain ⟨w', z⟩ := I.cell x c hc
    refine wpAny_storeName_cell I.ok.kind hk hc z (fun h' hc' hs => ?_)
    obtain ⟨oc, hoc, hocd⟩ := id z
    refine h { s with heap := h' } ⟨I.ok, I.os, I.bare, ⟨fun b o e n hb hx => ?_, fun b o e n hb hx => ?_, I.base.free, fun b o e hx => ?_, I.base.tups, I.base.frzs, I.base.tbls⟩, ⟨m, hn.sameBut hs (Ne.symm (cne x c hc)), fun j y v' e1 e2 e3 => ?_⟩, fun y c' e => ?_, I.free, I.freeC, fun p hp => ?_, tracked ⟨oc, hoc, I.freeC x c hc⟩ hs, by simpa using I.len⟩ ⟨c, hs, .inr hc⟩
    · exact (hs.2 b (Nat.ne_of_lt (Nat.lt_of_lt_of_le (Heap.lt_size e) (I.ok.cab x c hfn hc)))).trans (I.base.keep b o e n hb hx)
    · obtain ⟨sl, e1⟩ := I.base.slot b o e n hb hx
      exact ⟨sl, (hs.2 b (Nat.ne_of_lt (Nat.lt_of_lt_of_le (Heap.lt_size e) (I.ok.cab x c hfn hc)))).trans e1⟩
    · obtain ⟨o', e1⟩ := I.base.there b o e hx
      exact ⟨o', (hs.2 b (Nat.ne_of_lt (Nat.lt_of_lt_of_le (Heap.lt_size e) (I.ok.cab x c hfn hc)))).trans e1⟩
    · by_cases hj : j = i
      · subst hj
        rw [hi] at e1; cases e1
        rw [List.getElem?_set_self hiσ] at e2
        cases e2
        exact ⟨u, r, .inr ⟨.inl hk, c, hc, hc'⟩⟩
      · rw [List.getElem?_set_ne (Ne.symm hj)] at e2
        obtain ⟨u', r', q⟩ := hl j y v' e1 e2 e3
        refine ⟨u', r', ?_⟩
        rcases q with q | ⟨k, c', e, z'⟩
        · exact .inl q
        · refine .inr ⟨k, c', e, z'.sameBut hs ?_⟩
          rintro rfl
          exact hj (nodup_ix hN e1 (I.ok.inj _ _ _ e hc ▸ hi))
    · by_cases hcc : c' = c
      · subst hcc; exact ⟨_, hc'⟩
      · obtain ⟨w2, z2⟩ := I.cell y c' e
        exact ⟨w2, z2.sameBut hs hcc⟩
    · obtain ⟨e, n, ne, nf, d⟩ := I.pin p hp
      refine ⟨(hs.2 p.1 ?_).trans e, n, ne, nf, d⟩
      intro q
      rw [q, hoc] at e
      have q' : oc = p.2 := Option.some.inj e
      exact d w' (by rw [← q']; exact hocd)
theorem store_ok {M : Model} {A : Around} {E : Value → Shared → Prop} {i : Nat} {x : Str} {v : V} {u : Value} {Q : Unit → Shared → Prop} (I : Inv X pins σ H s) (hN : X.N.Nodup) (hi : X.N[i]? = some x) (hx : Loc X.env.scope x) (r : RelV v u)
    (h : ∀ s', Inv X pins (σ.set i (some v)) H s' → Q () s') (hf : X.fn x = true ∨ X.env.scope.names.lookup x = some .local := by first | exact .inl rfl | exact .inr rfl | assumption) : wpAny M A (storeName X.env x u) Q E s :=
  store_ok2 I hN hi hx r (fun s' I' _ => h s' I') hf
theorem Inv.call' {s' : Shared} {ch : List Addr} (I : Inv X pins σ H s) (ho : s'.os = s.os) (u : Un (frs X.stack) ch H H' s.heap s'.heap) (hok : HOk X.prog X.w H' s'.heap) (hg : AllBare s'.gens)
    (hch : ∀ b ∈ ch, (b ∈ X.ex ∨ X.s₀.heap.objs.size ≤ b) ∧ b ≠ X.env.locals ∧ (∀ x c, X.env.cells.lookup x = some c → c ≠ b) ∧ ∀ p ∈ X.pn ++ pins, p.1 ≠ b) : Inv X pins σ H' s' := by
  obtain ⟨h', g', d', t', o'⟩ := s'
  have e : o' = s.os := ho
  subst e
  exact I.call (g' := g') (t' := t') (d' := d') u hok hg hch
end
noncomputable abbrev XK := Value → Option Addr → Hp → Prop
noncomputable abbrev St := List (Option V)
noncomputable abbrev VK := V → Hp → Prop
noncomputable abbrev TE := St → Hp → VK → Prop
noncomputable abbrev TT := St → Hp → (Bool → Hp → Prop) → Prop
noncomputable abbrev TA := St → Hp → (List V → Hp → Prop) → Prop
structure Ends where
  nx : St → Hp → Prop
  rt : VK
  bk : St → Hp → Prop := fun _ _ => False
  ct : St → Hp → Prop := fun _ _ => False
noncomputable abbrev TS := Ends → St → Hp → Prop
noncomputable def EP (X : Cx) (pins : List (Addr × Obj)) (σ : St) (Q : VK) (u : Value) (s' : Shared) : Prop := ∃ v H', Inv X pins σ H' s' ∧ RelV v u ∧ Q v H'
noncomputable def TP (X : Cx) (pins : List (Addr × Obj)) (σ : St) (Q : Bool → Hp → Prop) (b : Bool) (s' : Shared) : Prop := ∃ H', Inv X pins σ H' s' ∧ Q b H'
noncomputable def AP (X : Cx) (pins : List (Addr × Obj)) (σ : St) (Q : List V → Hp → Prop) (us : List Value) (s' : Shared) : Prop := ∃ vs H', Inv X pins σ H' s' ∧ Vals vs us ∧ Q vs H'
noncomputable def SP (X : Cx) (pins : List (Addr × Obj)) (D : Ends) (f : Flow) (s' : Shared) : Prop :=
  match f with
  | .next => ∃ σ' H', Inv X pins σ' H' s' ∧ D.nx σ' H'
  | .brk => ∃ σ' H', Inv X pins σ' H' s' ∧ D.bk σ' H'
  | .cont => ∃ σ' H', Inv X pins σ' H' s' ∧ D.ct σ' H'
  | .ret u => ∃ v σ' H', Inv X pins σ' H' s' ∧ RelV v u ∧ D.rt v H'
noncomputable def PE (X : Cx) (e : Expr) (t : TE) : Prop :=
  ∀ (pins : List (Addr × Obj)) (s : Shared) (σ : St) (H : Hp) (Q : VK), Inv X pins σ H s → t σ H Q → wpAny (model X.prog X.w) X.A (eval e X.env) (EP X pins σ Q) X.xe s
noncomputable def PT (X : Cx) (e : Expr) (t : TT) : Prop :=
  ∀ (pins : List (Addr × Obj)) (s : Shared) (σ : St) (H : Hp) (Q : Bool → Hp → Prop), Inv X pins σ H s → t σ H Q → wpAny (model X.prog X.w) X.A (isTrue e X.env (eval e X.env)) (TP X pins σ Q) X.xe s
noncomputable def PW (X : Cx) (e : Expr) (t : TT) : Prop :=
  ∀ (whole : Sem Value) (pins : List (Addr × Obj)) (s : Shared) (σ : St) (H : Hp) (Q : Bool → Hp → Prop), Inv X pins σ H s → t σ H Q → wpAny (model X.prog X.w) X.A (isTrue e X.env whole) (TP X pins σ Q) X.xe s
theorem PW.pt {X : Cx} {e : Expr} {t : TT} (h : PW X e t) : PT X e t := h _
noncomputable def PA (X : Cx) (es : List Expr) (t : TA) : Prop :=
  ∀ (pos : Pos) (pins : List (Addr × Obj)) (s : Shared) (σ : St) (H : Hp) (Q : List V → Hp → Prop), Inv X pins σ H s → t σ H Q → wpAny (model X.prog X.w) X.A (spliced (backTo pos (starEach es X.env))) (AP X pins σ Q) X.xe s
noncomputable def PS (X : Cx) (st : Stmt) (t : TS) : Prop :=
  ∀ (pins : List (Addr × Obj)) (s : Shared) (σ : St) (H : Hp) (D : Ends), Inv X pins σ H s → t D σ H → wpAny (model X.prog X.w) X.A (exec st X.env) (SP X pins D) X.xe s
noncomputable def PSs (X : Cx) (st : List Stmt) (t : TS) : Prop :=
  ∀ (pins : List (Addr × Obj)) (s : Shared) (σ : St) (H : Hp) (D : Ends), Inv X pins σ H s → t D σ H → wpAny (model X.prog X.w) X.A (execs st X.env) (SP X pins D) X.xe s
theorem thn {α : Type} {t : Sem α} {Q Q' : α → Shared → Prop} {M : Model} {A : Around} {E : Value → Shared → Prop} {s : Shared} (h : wpAny M A t Q E s) (hQ : ∀ a s, Q a s → Q' a s) : wpAny M A t Q' E s := wpAny_mono h hQ fun _ _ x => x
end L2
namespace L2
open PySem PySem.Spec PyProof.Rows
section
variable {X : Cx}
noncomputable def tVar (i : Nat) : TE := fun σ H Q => ∃ v, σ[i]? = some (some v) ∧ Q v H
noncomputable def tC (v : V) : TE := fun _ H Q => Q v H
theorem pe_var {i : Nat} {x : Str} {pos : Pos} (hN : X.N[i]? = some x) (hv : Vis X.env.scope x) (hd : (x == ("__debug__" : Str)) = false := by decide) (hcd : (x == ("__classdict__" : Str)) = false := by decide) : PE X (.Name x pos) (tVar i) := by
  intro pins s σ H Q I h
  obtain ⟨v, e, h⟩ := h
  obtain ⟨m, hn, hl⟩ := I.loc
  obtain ⟨u, r, l⟩ := hl i x v hN e hv
  have fin : EP X pins σ Q u s := ⟨v, H, I, r, h⟩
  rcases l with ⟨hk, hm⟩ | ⟨hk, c, hc, hcell⟩
  · exact wpAny_Name (wpAny_loadName_local I.ok.kind hk hn hm fin) hd
  · rcases hk with hk | hk
    · exact wpAny_Name (wpAny_loadName_cell I.ok.kind hk hc hcell fin) hd
    · exact wpAny_Name (wpAny_loadName_free I.ok.kind hk hc hcell fin hcd) hd
theorem pe_int {i j pos} : PE X (.Constant (.int i) j pos) (tC (.int i)) := fun _ _ _ H _ I h => wpAny_Constant_int ⟨.int i, H, I.tok _, ⟨_, rfl⟩, h⟩
theorem pe_bl {b j pos} : PE X (.Constant (.bool b) j pos) (tC (.bl b)) := fun _ _ _ H _ I h => Constant_bool ⟨.bl b, H, I, rfl, h⟩
theorem pe_str {x j pos} : PE X (.Constant (.str x) j pos) (tC (.str x)) := fun _ _ _ H _ I h => Calls.Constant_str ⟨.str x, H, I.tok _, ⟨_, rfl⟩, h⟩
noncomputable def Gl (X : Cx) (x : Str) : Prop := X.env.kindOf x = some .globalImplicit
theorem ld_glob {E : Value → Shared → Prop} {pins : List (Addr × Obj)} {s : Shared} {σ : St} {H : Hp} {x : Str} {u : Value} {pos : Pos} {Q : Value → Shared → Prop} (I : Inv X pins σ H s) (hg : Gl X x) (hm : X.mg x = some u) (h : Q u s)
    (hd : (x == ("__debug__" : Str)) = false := by decide) : wpAny (model X.prog X.w) X.A (eval (.Name x pos) X.env) Q E s :=
  Calls.Name_function_global I.ok.kind hg (Calls.loadGlobal_global (by rw [I.ok.glob]; exact I.mod.glob.keeps I.bk) hm h) hd
theorem ld_blt {E : Value → Shared → Prop} {pins : List (Addr × Obj)} {s : Shared} {σ : St} {H : Hp} {x : Str} {u : Value} {pos : Pos} {Q : Value → Shared → Prop} (I : Inv X pins σ H s) (hg : Gl X x) (hm : X.mg x = none) (hv : bootBuiltins x = some u) (h : Q u s)
    (hn : x ≠ "__name__" := by decide) (hd : (x == ("__debug__" : Str)) = false := by decide) : wpAny (model X.prog X.w) X.A (eval (.Name x pos) X.env) Q E s := by
  obtain ⟨mb, h1, h2⟩ := I.mod.blt
  exact Calls.Name_function_global I.ok.kind hg (Calls.loadGlobal_builtin (by rw [I.ok.glob]; exact I.mod.glob.keeps I.bk) hm (by rw [I.ok.blt]; exact h1.keeps I.bk) ((h2 x hn).trans hv) h) hd
theorem pe_glob {x : Str} {v : V} {u : Value} {pos : Pos} (hg : Gl X x) (hm : X.mg x = some u) (r : RelV v u) (hd : (x == ("__debug__" : Str)) = false := by decide) : PE X (.Name x pos) (tC v) :=
  fun _ _ _ H _ I h => ld_glob I hg hm ⟨v, H, I, r, h⟩ hd
theorem pe_bltn {x : Str} {v : V} {u : Value} {pos : Pos} (hg : Gl X x) (hm : X.mg x = none) (hv : bootBuiltins x = some u) (r : RelV v u) (hn : x ≠ "__name__" := by decide) (hd : (x == ("__debug__" : Str)) = false := by decide) : PE X (.Name x pos) (tC v) :=
  fun _ _ _ H _ I h => ld_blt I hg hm hv ⟨v, H, I, r, h⟩ hn hd
variable {a b : Expr} {ta tb : TE} {pos : Pos}
noncomputable def tB (t : TE) : TT := fun σ H Q => t σ H fun x H1 => ∃ c, x = .bl c ∧ Q c H1
theorem pt_val {e : Expr} {t : TE} (h : PE X e t) (he : ∀ whole, isTrue e X.env whole = (do let v ← whole; standAt e.pos; holding [v] (truthy v)) := by intro _; rfl) : PT X e (tB t) := by
  intro pins s σ H Q I hw
  refine isTrue_plain (thn (h pins s σ H _ I hw) fun v s1 ⟨x, H1, I1, r1, q1⟩ => ?_) (he _)
  obtain ⟨d, rfl, q⟩ := q1
  cases r1
  exact wpAny_truthy_bool ⟨H1, I1, q⟩
variable {tA tB' : TT} {rest : List Expr}
noncomputable def tAnd (t u : TT) : TT := fun σ H Q => t σ H fun c H1 => if c = true then u σ H1 Q else Q false H1
noncomputable def tOr (t u : TT) : TT := fun σ H Q => t σ H fun c H1 => if c = true then Q true H1 else u σ H1 Q
noncomputable def tNot (t : TT) : TT := fun σ H Q => t σ H fun c H1 => Q (!c) H1
theorem pw_and1 (ha : PT X a tA) : PW X (.BoolOp .And [a] pos) tA := by
  intro wh pins s σ H Q I h
  refine isTrue_and (thn (ha pins s σ H Q I h) fun c s1 e => ?_)
  cases c with
  | true => exact isTrue_and_nil e
  | false => exact e
theorem pw_or1 (ha : PT X a tA) : PW X (.BoolOp .Or [a] pos) tA := by
  intro wh pins s σ H Q I h
  refine isTrue_or (thn (ha pins s σ H Q I h) fun c s1 e => ?_)
  cases c with
  | false => exact isTrue_or_nil e
  | true => exact e
theorem pw_and (ha : PT X a tA) (hb : PW X (.BoolOp .And (b :: rest) pos) tB') : PW X (.BoolOp .And (a :: b :: rest) pos) (tAnd tA tB') := by
  intro wh pins s σ H Q I h
  refine isTrue_and (thn (ha pins s σ H _ I h) fun c s1 ⟨H1, I1, q1⟩ => ?_)
  cases c with
  | true => exact hb wh pins s1 σ H1 Q I1 q1
  | false => exact ⟨H1, I1, q1⟩
theorem pw_or (ha : PT X a tA) (hb : PW X (.BoolOp .Or (b :: rest) pos) tB') : PW X (.BoolOp .Or (a :: b :: rest) pos) (tOr tA tB') := by
  intro wh pins s σ H Q I h
  refine isTrue_or (thn (ha pins s σ H _ I h) fun c s1 ⟨H1, I1, q1⟩ => ?_)
  cases c with
  | true => exact ⟨H1, I1, q1⟩
  | false => exact hb wh pins s1 σ H1 Q I1 q1
theorem pt_not (ha : PT X a tA) : PT X (.UnaryOp .Not a pos) (tNot tA) := by
  intro pins s σ H Q I h
  exact isTrue_not (ha pins s σ H (fun c H1 => Q (!c) H1) I h)
noncomputable def tAndV (ta tb : TE) : TE := fun σ H Q => ta σ H fun x H1 => ∃ c, x = .bl c ∧ if c = true then tb σ H1 Q else Q (.bl false) H1
noncomputable def tNotV (ta : TE) : TE := fun σ H Q => ta σ H fun x H1 => ∃ c, x = .bl c ∧ Q (.bl (!c)) H1
theorem pe_one {op} {t : TE} (h : PE X a t) : PE X (.BoolOp op [a] pos) t := fun pins s σ H Q I hw => BoolOp_one (h pins s σ H Q I hw)
theorem pe_and (ha : PE X a ta) (hb : PE X (.BoolOp .And (b :: rest) pos) tb) : PE X (.BoolOp .And (a :: b :: rest) pos) (tAndV ta tb) := by
  intro pins s σ H Q I h
  refine BoolOp_and (thn (ha pins s σ H _ I h) fun v s1 ⟨x, H1, I1, r1, q1⟩ => ?_)
  obtain ⟨c, rfl, q1⟩ := q1
  cases r1
  refine wpAny_truthy_bool ?_
  cases c with
  | true => exact hb pins s1 σ H1 Q I1 q1
  | false => exact ⟨.bl false, H1, I1, rfl, q1⟩
theorem pe_not (ha : PE X a ta) : PE X (.UnaryOp .Not a pos) (tNotV ta) := by
  intro pins s σ H Q I h
  refine UnaryOp_ (thn (ha pins s σ H _ I h) fun v s1 ⟨x, H1, I1, r1, q1⟩ => ?_)
  obtain ⟨c, rfl, q1⟩ := q1
  cases r1
  exact not_of (wpAny_truthy_bool ⟨.bl (!c), H1, I1, rfl, q1⟩)
noncomputable def tIf (t : TT) (ta tb : TE) : TE := fun σ H Q => t σ H fun c H1 => if c = true then ta σ H1 Q else tb σ H1 Q
theorem pe_ifExp {c : Expr} (hc : PT X c tA) (ha : PE X a ta) (hb : PE X b tb) : PE X (.IfExp c a b pos) (tIf tA ta tb) := by
  intro pins s σ H Q I h
  refine wpAny_IfExp (thn (hc pins s σ H _ I h) fun d s1 ⟨H1, I1, q1⟩ => ?_)
  cases d with
  | true => exact ha pins s1 σ H1 Q I1 q1
  | false => exact hb pins s1 σ H1 Q I1 q1
end
end L2
namespace L2
open PySem PySem.Spec PyProof.Rows
noncomputable def SqL (K : PySem.W.Frag) (H : Hp) (a : Addr) (xs : List V) : Prop :=
  Rd H a (.lst xs) ∨
    ∃ (o : Obj) (its : Array Value) (n : Nat), K.lookup a = some o ∧ o.cls = .type "list" ∧ o.dict = none ∧ o.data = .seq its n ∧ its.size ≤ sizeLine ∧ Vals xs its.toList
noncomputable def SqT (K : PySem.W.Frag) (H : Hp) (a : Addr) (xs : List V) : Prop :=
  Rd H a (.tup xs) ∨
    ∃ (o : Obj) (its : Array Value) (n : Nat), K.lookup a = some o ∧ o.cls = .type "tuple" ∧ o.data = .seq its n ∧ its.size ≤ sizeLine ∧ Vals xs its.toList
noncomputable def absV : Value → Option V
  | .none => some .non
  | .bool b => some (.bl b)
  | .int i _ => some (.int i)
  | .str x _ => some (.str x)
  | .bytes b _ => some (.byt b)
  | .float b _ => some (.flt b)
  | .ref a => some (.ref a)
  | .type n => some (.ty n)
  | _ => none
theorem RelV.abs {x : V} {u : Value} (r : RelV x u) : absV u = some x := by
  cases x with
  | non => cases r; rfl
  | bl _ => cases r; rfl
  | int _ => obtain ⟨t, rfl⟩ := r; rfl
  | str _ => obtain ⟨t, rfl⟩ := r; rfl
  | byt _ => obtain ⟨t, rfl⟩ := r; rfl
  | flt _ => obtain ⟨t, rfl⟩ := r; rfl
  | ref _ => cases r; rfl
  | ty _ => cases r; rfl
theorem RelV.inj {x y : V} {u : Value} (r : RelV x u) (q : RelV y u) : x = y := Option.some.inj (r.abs.symm.trans q.abs)
theorem Vals.inj : ∀ {xs ys : List V} {us : List Value}, Vals xs us → Vals ys us → xs = ys
  | _, _, _, .nil, .nil => rfl
  | _, _, _, .cons r t, .cons r' t' => by rw [r.inj r', Vals.inj t t']
section
variable {X : Cx} {pins : List (Addr × Obj)} {σ : St} {H : Hp} {s : Shared} {a : Addr} {xs ys : List V}
theorem SqL.of {K : PySem.W.Frag} (h : H a = some (.lst xs)) : SqL K H a xs := .inl (.inl h)
theorem SqT.of {K : PySem.W.Frag} (h : H a = some (.tup xs)) : SqT K H a xs := .inl (.inl h)
theorem Inv.list (I : Inv X pins σ H s) (h : SqL X.K H a xs) : ∃ its : List Value, Vals xs its ∧ PlainL s.heap a its.toArray ∧ xs.length ≤ sizeLine := by
  rcases h with h | ⟨o, its, n, hk, hc, hd, hs, hz, r⟩
  · obtain ⟨z, its, n, r, e⟩ := h.ok I.hok
    exact ⟨its, r, ⟨_, n, e, rfl, rfl, rfl⟩, z⟩
  · refine ⟨its.toList, r, ⟨o, n, I.kIn a o hk, hc, hd, by simpa using hs⟩, ?_⟩
    have e := r.length
    simp only [Array.length_toList] at e
    (clear I hk hc hd hs r; omega)
theorem Inv.tuple (I : Inv X pins σ H s) (h : SqT X.K H a xs) : ∃ its : List Value, Vals xs its ∧ IsTup s.heap a its.toArray ∧ xs.length ≤ sizeLine := by
  rcases h with h | ⟨o, its, n, hk, hc, hs, hz, r⟩
  · obtain ⟨z, its, r, p⟩ := h.ok I.hok
    exact ⟨its, r, p, z⟩
  · refine ⟨its.toList, r, ⟨o, I.kIn a o hk, hc, n, by simpa using hs⟩, ?_⟩
    have e := r.length
    simp only [Array.length_toList] at e
    (clear I hk hc hs r; omega)
theorem Inv.list_inj (I : Inv X pins σ H s) (h : SqL X.K H a xs) (h' : SqL X.K H a ys) : xs = ys := by
  obtain ⟨its, r, ⟨o, n, e, _, _, d⟩, _⟩ := I.list h
  obtain ⟨its', r', ⟨o', n', e', _, _, d'⟩, _⟩ := I.list h'
  rw [e] at e'; cases e'
  rw [d] at d'
  injection d' with d1 _
  have : its = its' := by simpa using congrArg Array.toList d1
  subst this
  exact r.inj r'
theorem Inv.tuple_inj (I : Inv X pins σ H s) (h : SqT X.K H a xs) (h' : SqT X.K H a ys) : xs = ys := by
  obtain ⟨its, r, ⟨o, e, _, n, d⟩, _⟩ := I.tuple h
  obtain ⟨its', r', ⟨o', e', _, n', d'⟩, _⟩ := I.tuple h'
  rw [e] at e'; cases e'
  rw [d] at d'
  injection d' with d1 _
  have : its = its' := by simpa using congrArg Array.toList d1
  subst this
  exact r.inj r'
end
noncomputable abbrev Cx.wish (X : Cx) (E : Value → Shared → Prop) : Cx := { X with xe := E }
noncomputable abbrev Cx.nox (X : Cx) : Cx := X.wish fun _ _ => False
theorem Cx.Ok.wish {X : Cx} (ok : X.Ok) (E : Value → Shared → Prop) : (X.wish E).Ok :=
  ⟨ok.mod, ok.kind, ok.glob, ok.blt, ok.above, ok.inj, ok.has, ok.cab, ok.hd, ok.frames, ok.stk, ok.exf, ok.bs, ok.bsz, ok.noex, ok.exfs, ok.funs, ok.frf⟩
theorem Cx.Ok.unwish {X : Cx} {E : Value → Shared → Prop} (ok : (X.wish E).Ok) : X.Ok :=
  ⟨ok.mod, ok.kind, ok.glob, ok.blt, ok.above, ok.inj, ok.has, ok.cab, ok.hd, ok.frames, ok.stk, ok.exf, ok.bs, ok.bsz, ok.noex, ok.exfs, ok.funs, ok.frf⟩
section
variable {X : Cx} {pins : List (Addr × Obj)} {σ : St} {H : Hp} {s : Shared} {E : Value → Shared → Prop}
theorem Inv.wish (I : Inv X pins σ H s) (E : Value → Shared → Prop) : Inv (X.wish E) pins σ H s := ⟨I.ok.wish E, I.os, I.bare, I.base, I.loc, I.cell, I.free, I.freeC, I.pin, I.hok, I.len⟩
theorem Inv.unwish (I : Inv (X.wish E) pins σ H s) : Inv X pins σ H s := ⟨I.ok.unwish, I.os, I.bare, I.base, I.loc, I.cell, I.free, I.freeC, I.pin, I.hok, I.len⟩
theorem SP.unwish {D : Ends} {f : Flow} {s' : Shared} (h : SP (X.wish E) pins D f s') : SP X pins D f s' := by
  cases f with
  | next => obtain ⟨σ', H', I, q⟩ := h; exact ⟨σ', H', I.unwish, q⟩
  | brk => obtain ⟨σ', H', I, q⟩ := h; exact ⟨σ', H', I.unwish, q⟩
  | cont => obtain ⟨σ', H', I, q⟩ := h; exact ⟨σ', H', I.unwish, q⟩
  | ret u => obtain ⟨v, σ', H', I, r, q⟩ := h; exact ⟨v, σ', H', I.unwish, r, q⟩
theorem PSs.nox {st : List Stmt} {t : TS} (h : PSs X.nox st t) : PSs X st t := fun pins s σ H D I hw =>
  wpAny_mono (h pins s σ H D (I.wish _) hw) (fun _ _ q => q.unwish) fun _ _ z => False.elim z
end
section
variable {X : Cx} {st : Stmt} {rest : List Stmt} {t u : TS} {e : Expr} {te : TE} {pos : Pos}
noncomputable def tNext : TS := fun D σ H => D.nx σ H
noncomputable def tSeq (t u : TS) : TS := fun D σ H => t { D with nx := u D } σ H
theorem pss_nil : PSs X [] tNext := fun _ _ σ H _ I h => wpAny_execs_nil ⟨σ, H, I, h⟩
theorem pss_cons (h1 : PS X st t) (h2 : PSs X rest u) : PSs X (st :: rest) (tSeq t u) := by
  intro pins s σ H D I h
  refine wpAny_execs_cons (thn (h1 pins s σ H { D with nx := u D } I h) fun f s1 q => ?_)
  cases f with
  | next =>
    obtain ⟨σ', H', I', q⟩ := q
    exact h2 pins s1 σ' H' D I' q
  | ret v => exact q
  | brk => exact q
  | cont => exact q
theorem pss_one (h1 : PS X st t) : PSs X [st] t := by
  intro pins s σ H D I h
  refine wpAny_execs_cons (thn (h1 pins s σ H D I h) fun f s1 q => ?_)
  cases f with
  | next => exact wpAny_execs_nil q
  | ret v => exact q
  | brk => exact q
  | cont => exact q
theorem Inv.quiet {pins : List (Addr × Obj)} {σ : St} {H : Hp} {s : Shared} (I : Inv X pins σ H s) : interactive X.env = false := by simp [interactive, I.ok.kind]
noncomputable def tDrop (te : TE) : TS := fun D σ H => te σ H fun _ H1 => D.nx σ H1
theorem ps_expr (he : PE X e te) (hs : swapsWith e none pos.line X.env = pure false := by rfl) : PS X (.Expr e pos) (tDrop te) := by
  intro pins s σ H D I h
  exact wpAny_Expr_any (thn (he pins s σ H _ I h) fun v s1 ⟨x, H1, I1, r1, q1⟩ => ⟨σ, H1, I1, q1⟩) I.quiet hs
noncomputable def tRet (te : TE) : TS := fun D σ H => te σ H D.rt
theorem ps_ret (he : PE X e te) : PS X (.Return (some e) pos) (tRet te) := by
  intro pins s σ H D I h
  exact wpAny_Return_some (thn (he pins s σ H _ I h) fun v s1 ⟨x, H1, I1, r1, q1⟩ => ⟨x, σ, H1, I1, r1, q1⟩)
noncomputable def tIfS (c : TT) (t u : TS) : TS := fun D σ H => c σ H fun b H1 => if b = true then t D σ H1 else u D σ H1
theorem ps_if {c : Expr} {a b : List Stmt} {tc : TT} (hc : PT X c tc) (ha : PSs X a t) (hb : PSs X b u) : PS X (.If c a b pos) (tIfS tc t u) := by
  intro pins s σ H D I h
  refine wpAny_If (thn (hc pins s σ H _ I h) fun d s1 ⟨H1, I1, q1⟩ => ?_)
  cases d with
  | true => exact ha pins s1 σ H1 D I1 q1
  | false => exact hb pins s1 σ H1 D I1 q1
end
noncomputable abbrev TG := V → St → Hp → (St → Hp → Prop) → Prop
noncomputable abbrev TGs := List V → St → Hp → (St → Hp → Prop) → Prop
noncomputable def PG (X : Cx) (target : Expr) (t : TG) : Prop :=
  ∀ (pins : List (Addr × Obj)) (s : Shared) (σ : St) (H : Hp) (v : V) (u : Value) (Q : St → Hp → Prop), Inv X pins σ H s → RelV v u → t v σ H Q →
    wpAny (model X.prog X.w) X.A (assign target X.env u) (fun _ s' => ∃ σ' H', Inv X pins σ' H' s' ∧ Q σ' H') X.xe s
noncomputable def PGs (X : Cx) (ts : List Expr) (t : TGs) : Prop :=
  ∀ (pins : List (Addr × Obj)) (s : Shared) (σ : St) (H : Hp) (vs : List V) (us : List Value) (Q : St → Hp → Prop), Inv X pins σ H s → Vals vs us → t vs σ H Q →
    wpAny (model X.prog X.w) X.A (assignInOrder ((assignEach ts X.env).map (·.2)) us) (fun _ s' => ∃ σ' H', Inv X pins σ' H' s' ∧ Q σ' H') X.xe s
section
variable {X : Cx} {pos : Pos}
noncomputable def gName (i : Nat) : TG := fun v σ H Q => Q (σ.set i (some v)) H
theorem pg_name {i : Nat} {x : Str} (hN : X.N.Nodup) (hi : X.N[i]? = some x) (hx : Loc X.env.scope x) (hf : X.fn x = true ∨ X.env.scope.names.lookup x = some .local := by first | exact .inl rfl | exact .inr rfl | assumption) : PG X (.Name x pos) (gName i) := by
  intro pins s σ H v u Q I r h
  exact wpAny_assign_Name (store_ok I hN hi hx r (fun s' I' => ⟨_, H, I', h⟩) hf)
noncomputable def gNil : TGs := fun vs σ H Q => vs = [] ∧ Q σ H
noncomputable def gCons (t : TG) (u : TGs) : TGs := fun vs σ H Q => ∃ v r, vs = v :: r ∧ t v σ H fun σ' H' => u r σ' H' Q
theorem pgs_nil : PGs X [] gNil := by
  intro pins s σ H vs us Q I r h
  obtain ⟨e, h⟩ := h
  subst e
  cases r
  exact assignInOrder_nil ⟨σ, H, I, h⟩
theorem pgs_cons {e : Expr} {es : List Expr} {t : TG} {u : TGs} (h1 : PG X e t) (h2 : PGs X es u)
    (hs : (assignEach (e :: es) X.env).map (·.2) = assign e X.env :: (assignEach es X.env).map (·.2) := by rfl) : PGs X (e :: es) (gCons t u) := by
  intro pins s σ H vs us Q I r h
  obtain ⟨v, vr, e1, h⟩ := h
  subst e1
  cases r with
  | cons r rr =>
    rw [hs]
    refine assignInOrder_cons (thn (h1 pins s σ H _ _ _ I r h) fun _ s1 ⟨σ1, H1, I1, q1⟩ => ?_)
    exact h2 pins s1 σ1 H1 _ _ Q I1 rr q1
noncomputable def gTup (K : PySem.W.Frag) (n : Nat) (t : TGs) : TG := fun v σ H Q => ∃ a xs, v = .ref a ∧ SqT K H a xs ∧ xs.length = n ∧ t xs σ H Q
theorem pg_tup {es : List Expr} {k : Nat} {t : TGs} {n : Nat} (hc : X.calm = true) (h : PGs X es t)
    (hn : (assignEach es X.env).length = n := by rfl) (hst : (assignEach es X.env).findIdx? (·.1) = none := by rfl) : PG X (.Tuple es k pos) (gTup X.K n t) := by
  intro pins s σ H v u Q I r hw
  obtain ⟨a, xs, e1, hq, hl, hw⟩ := hw
  subst e1
  cases r
  obtain ⟨its, rv, ht, hz⟩ := I.tuple hq
  refine assign_Tuple_tuple (I.ok.hd hc) ht (by simp [hn, ← hl, rv.length]) hst fun h' hx => ?_
  have I1 : Inv X pins σ H { s with heap := h' } := I.kept (t' := s.toks) fun b o e => hx b o (Nat.ne_of_lt (Heap.lt_size e)) e
  exact h pins _ σ H xs _ Q I1 (by simpa using rv) hw
noncomputable def tAsg (te : TE) (g : TG) : TS := fun D σ H => te σ H fun x H1 => g x σ H1 D.nx
theorem ps_set {i : Nat} {x : Str} {e : Expr} {te : TE} {pos' : Pos} (hN : X.N.Nodup) (hi : X.N[i]? = some x) (hx : Loc X.env.scope x) (he : PE X e te) (hs : swapsWith e (some (.Name x pos')) pos.line X.env = pure false := by rfl) (hf : X.fn x = true ∨ X.env.scope.names.lookup x = some .local := by first | exact .inl rfl | exact .inr rfl | assumption) :
    PS X (.Assign [.Name x pos'] e pos) (tAsg te (gName i)) := by
  intro pins s σ H D I h
  refine wpAny_Assign_Name (thn (he pins s σ H _ I h) fun v s1 ⟨y, H1, I1, r1, q1⟩ => ?_) hs
  exact store_ok I1 hN hi hx r1 (fun s2 I2 => ⟨_, H1, I2, q1⟩) hf
end
section
variable {X : Cx} {pos : Pos}
noncomputable def tWhile (c : TT) (tb : TS) : TS := fun D σ H => ∃ W : Nat → St → Hp → Prop, (∃ m, W m σ H) ∧ ∀ m σ H, W m σ H →
  c σ H fun b H1 => if b = true then ∃ N : St → Hp → Prop, (∀ σ' H', N σ' H' → ∃ m', m' < m ∧ W m' σ' H') ∧ tb { D with nx := N, ct := N, bk := D.nx } σ H1 else D.nx σ H1
theorem ps_while {c : Expr} {body : List Stmt} {tc : TT} {tb : TS} (hp : PassesOwn (model X.prog X.w) X.A X.env X.xe) (hc : PT X c tc) (hb : PSs X body tb) : PS X (.While c body [] pos) (tWhile tc tb) := by
  intro pins s σ H D I h
  obtain ⟨W, ⟨m0, w0⟩, turn⟩ := h
  refine wpAny_While (codeAny_whileLoop (fun n s' => ∃ σ' H', Inv X pins σ' H' s' ∧ W n σ' H') ?_ m0 ⟨σ, H, I, w0⟩)
  rintro n s1 ⟨σ1, H1, I1, w1⟩
  refine wpAny_passesOwn hp (thn (hc pins s1 σ1 H1 _ I1 (turn n σ1 H1 w1)) fun b s2 ⟨H2, I2, q2⟩ => ?_)
  cases b with
  | true =>
    obtain ⟨N, hN, q2⟩ := q2
    rw [if_pos rfl]
    refine wpAny_passesOwn hp (thn (hb pins s2 σ1 H2 _ I2 q2) fun f s3 q3 => ?_)
    cases f with
    | next =>
      obtain ⟨σ3, H3, I3, n3⟩ := q3
      obtain ⟨m', hm, w3⟩ := hN σ3 H3 n3
      exact ⟨m', hm, σ3, H3, I3, w3⟩
    | cont =>
      obtain ⟨σ3, H3, I3, n3⟩ := q3
      obtain ⟨m', hm, w3⟩ := hN σ3 H3 n3
      exact ⟨m', hm, σ3, H3, I3, w3⟩
    | brk => exact q3
    | ret v => exact q3
  | false =>
    rw [if_neg Bool.false_ne_true]
    exact wpAny_execs_nil ⟨σ1, H2, I2, q2⟩
end
structure It where
  go : Nat → Hp → Prop
  yld : Nat → Hp → V → Hp → Prop
  stop : Nat → Hp → Prop
noncomputable def FpOk (X : Cx) (pins : List (Addr × Obj)) (H : Hp) (b : Addr) : Prop :=
  H b = none ∧ b ≠ X.env.locals ∧ b ∉ X.fs ∧ (b ∈ X.ex ∨ X.s₀.heap.objs.size ≤ b) ∧ (∀ x c, X.env.cells.lookup x = some c → c ≠ b) ∧ ∀ p ∈ X.pn ++ pins, p.1 ≠ b
theorem Inv.fpOk {X : Cx} {pins : List (Addr × Obj)} {σ : St} {H H' : Hp} {s : Shared} {b : Addr} (I : Inv X pins σ H s) (hb : s.heap.objs.size ≤ b) (hn : H' b = none) : FpOk X pins H' b := by
  refine ⟨hn, Nat.ne_of_gt (Nat.lt_of_lt_of_le I.lt hb), I.nofs hb, .inr (Nat.le_trans I.sz hb), fun x c e z => ?_, fun p hp z => ?_⟩
  · obtain ⟨v, q⟩ := I.cell x c e
    exact absurd (Nat.lt_of_lt_of_le q.lt (by rw [z]; exact hb)) (Nat.lt_irrefl _)
  · exact absurd (Nat.lt_of_lt_of_le (Heap.lt_size (I.pin p hp).1) (by rw [z]; exact hb)) (Nat.lt_irrefl _)
structure Turn (P : Program) (w : World) (K : PySem.W.Frag) (tg : Expr) (J : It) (fp : List Addr) (it : Addr) (tn : Nat → Heap → Prop) : Prop where
  mem : it ∈ fp
  obj : ∀ i h, tn i h → ∀ b ∈ fp, ∃ o, h.get? b = some o ∧ ∀ v, o.data ≠ .cell v
  keep : ∀ i h h', tn i h → (∀ b ∈ fp, ∀ o, h.get? b = some o → h'.get? b = some o) → tn i h'
  item : ∀ (X : Cx), X.prog = P → X.w = w → X.K = K → X.calm = true → ∀ (i : Nat) (pins : List (Addr × Obj)) (s : Shared) (σ : St) (H : Hp) (E : Value → Shared → Prop), Inv X pins σ H s → (∀ b ∈ fp, FpOk X pins H b) → tn i s.heap → J.go i H →
    wpAny (model P w) X.A (pyNext (.ref it)) (fun r s1 => ∃ u, r = some u ∧
      wpAny (model P w) X.A (letOwnedTupleGo tg (.ref it) u) (fun _ s2 => ∃ x H', Inv X pins σ H' s2 ∧ RelV x u ∧ J.yld i H x H' ∧ tn (i + 1) s2.heap ∧ ∀ b ∈ fp, H' b = none) E s1) E s
  done : ∀ (X : Cx), X.prog = P → X.w = w → X.K = K → X.calm = true → ∀ (i : Nat) (pins : List (Addr × Obj)) (s : Shared) (σ : St) (H : Hp) (E : Value → Shared → Prop), Inv X pins σ H s → (∀ b ∈ fp, FpOk X pins H b) → tn i s.heap → J.stop i H →
    wpAny (model P w) X.A (pyNext (.ref it)) (fun r s1 => r = none ∧ Inv X pins σ H s1) E s
  self : ∀ (A : Around) (i : Nat) (s : Shared) (Q : Value → Shared → Prop) (E : Value → Shared → Prop), tn i s.heap → Q (.ref it) s → wpAny (model P w) A (pyIter (.ref it)) Q E s
noncomputable abbrev TI := St → Hp → (It → Hp → Prop) → Prop
noncomputable def PIE (X : Cx) (pins : List (Addr × Obj)) (σ : St) (tg : Expr) (R : It → Hp → Prop) (itv : Value) (s2 : Shared) : Prop :=
  ∃ (it : Addr) (fp : List Addr) (tn : Nat → Heap → Prop) (J : It) (H' : Hp), itv = .ref it ∧ Inv X pins σ H' s2 ∧ Turn X.prog X.w X.K tg J fp it tn ∧ tn 0 s2.heap ∧ (∀ b ∈ fp, FpOk X pins H' b) ∧ R J H'
noncomputable def PI (X : Cx) (tg iter : Expr) (wi : TI) : Prop :=
  ∀ (pins : List (Addr × Obj)) (s : Shared) (σ : St) (H : Hp) (R : It → Hp → Prop), Inv X pins σ H s → wi σ H R →
    wpAny (model X.prog X.w) X.A (eval iter X.env) (fun v s1 => wpAny (model X.prog X.w) X.A (pyIter v) (PIE X pins σ tg R) X.xe s1) X.xe s
theorem go_of {M : Model} {A : Around} {E : Value → Shared → Prop} {s : Shared} {tg : Expr} {it : Addr} {u : Value} {o : Obj} {n : String} {vs : Array Value} {Q : Unit → Shared → Prop} (ho : s.heap.get? it = some o) (hc : o.cls = .type n) (hd : o.data = .fields vs)
    (hn : ["enumerate", "zip", "dict_itemiterator", "dict_reverseitemiterator", "odict_iterator", "itertools.zip_longest", "itertools.pairwise"].contains n = false) (hQ : Q () s) : wpAny M A (letOwnedTupleGo tg (.ref it) u) Q E s := by
  unfold letOwnedTupleGo
  cases tg <;> first
    | exact wpAny_pure hQ
    | (cases u <;> first
        | exact wpAny_pure hQ
        | (refine wpAny_bind (wpAny_load ho ?_)
           rw [hc, hd]
           show wpAny M A (if (["enumerate", "zip", "dict_itemiterator", "dict_reverseitemiterator", "odict_iterator", "itertools.zip_longest", "itertools.pairwise"].contains n && vs[0]? == some (rawInt _)) = true then _ else _) Q E s
           rw [if_neg (by intro h; rw [hn, Bool.false_and] at h; cases h)]
           exact wpAny_pure hQ))
noncomputable def Itl (K : PySem.W.Frag) (a : Addr) : It :=
  ⟨fun i H => ∃ xs x, SqL K H a xs ∧ xs[i]? = some x, fun i H x H' => H' = H ∧ ∀ xs, SqL K H a xs → xs[i]? = some x, fun i H => ∃ xs, SqL K H a xs ∧ xs.length ≤ i⟩
noncomputable def Itt (K : PySem.W.Frag) (a : Addr) : It :=
  ⟨fun i H => ∃ xs x, SqT K H a xs ∧ xs[i]? = some x, fun i H x H' => H' = H ∧ ∀ xs, SqT K H a xs → xs[i]? = some x, fun i H => ∃ xs, SqT K H a xs ∧ xs.length ≤ i⟩
noncomputable def Itr (lo : Int) (n : Nat) : It := ⟨fun i _ => i < n, fun i H x H' => H' = H ∧ x = .int (lo + i), fun i _ => n ≤ i⟩
theorem turn_list {P : Program} {w : World} {K : PySem.W.Frag} {tg : Expr} (a it : Addr) : Turn P w K tg (Itl K a) [it] it (fun i h => h.IsListIter it a i) where
  mem := by simp
  obj := fun i h st b hb => by
    have e : b = it := by simpa using hb
    subst e
    obtain ⟨o, e, c, d⟩ := st
    exact ⟨o, e, fun v z => by rw [d] at z; cases z⟩
  keep := fun i h h' st k => st.at fun o e => k it (by simp) o e
  item := by
    intro X hP hw hK hc i pins s σ H E I hf st hg
    subst hP hw hK
    obtain ⟨xs, x, hq, hx⟩ := hg
    obtain ⟨its, rv, p, hz⟩ := I.list hq
    obtain ⟨u, hu, ru⟩ := rv.get hx
    obtain ⟨f0, f1, f2, f3, f4, f5⟩ := hf it (by simp)
    refine wpAny_pyNext_list_item st p.isList (x := u) (by simpa using hu) fun h' st' sb => ?_
    have I1 : Inv X pins σ H { s with heap := h' } := I.turned (t' := s.toks) (fun b o hb e => (sb.2 b hb).trans e) f0 f1 f3 f4 f5
    obtain ⟨o, e, c, d⟩ := id st'
    exact ⟨u, rfl, go_of (s := { s with heap := h' }) e c d (by decide) ⟨x, H, I1, ru, ⟨rfl, fun ys hy => by rw [I.list_inj hy hq]; exact hx⟩, st', fun b hb => (hf b hb).1⟩⟩
  done := by
    intro X hP hw hK hc i pins s σ H E I hf st hg
    subst hP hw hK
    obtain ⟨xs, hq, hx⟩ := hg
    obtain ⟨its, rv, p, hz⟩ := I.list hq
    obtain ⟨f0, f1, f2, f3, f4, f5⟩ := hf it (by simp)
    have hl := rv.length
    exact wpAny_pyNext_list_end (I.ok.hd hc) st p.isList (by simp; (clear hc I hf st hq rv p hz f0 f1 f2 f3 f4 f5; omega)) fun h' eb => ⟨rfl, I.turned (t' := s.toks) (fun b o hb e => eb b o hb e) f0 f1 f3 f4 f5⟩
  self := fun _ _ _ _ _ st h => wpAny_pyIter_listiter st h
theorem turn_tuple {P : Program} {w : World} {K : PySem.W.Frag} {tg : Expr} (a it : Addr) : Turn P w K tg (Itt K a) [it] it (fun i h => h.IsTupleIter it a i) where
  mem := by simp
  obj := fun i h st b hb => by
    have e : b = it := by simpa using hb
    subst e
    obtain ⟨o, e, c, d⟩ := st
    exact ⟨o, e, fun v z => by rw [d] at z; cases z⟩
  keep := fun i h h' st k => st.at fun o e => k it (by simp) o e
  item := by
    intro X hP hw hK hc i pins s σ H E I hf st hg
    subst hP hw hK
    obtain ⟨xs, x, hq, hx⟩ := hg
    obtain ⟨its, rv, p, hz⟩ := I.tuple hq
    obtain ⟨u, hu, ru⟩ := rv.get hx
    obtain ⟨f0, f1, f2, f3, f4, f5⟩ := hf it (by simp)
    refine wpAny_pyNext_tuple_item st (show s.heap.IsTuple a its.toArray from p) (x := u) (by simpa using hu) fun h' st' sb => ?_
    have I1 : Inv X pins σ H { s with heap := h' } := I.turned (t' := s.toks) (fun b o hb e => (sb.2 b hb).trans e) f0 f1 f3 f4 f5
    obtain ⟨o, e, c, d⟩ := id st'
    exact ⟨u, rfl, go_of (s := { s with heap := h' }) e c d (by decide) ⟨x, H, I1, ru, ⟨rfl, fun ys hy => by rw [I.tuple_inj hy hq]; exact hx⟩, st', fun b hb => (hf b hb).1⟩⟩
  done := by
    intro X hP hw hK hc i pins s σ H E I hf st hg
    subst hP hw hK
    obtain ⟨xs, hq, hx⟩ := hg
    obtain ⟨its, rv, p, hz⟩ := I.tuple hq
    obtain ⟨f0, f1, f2, f3, f4, f5⟩ := hf it (by simp)
    have hl := rv.length
    exact wpAny_pyNext_tuple_end (I.ok.hd hc) st (show s.heap.IsTuple a its.toArray from p) (by simp; (clear hc I hf st hq rv p hz f0 f1 f2 f3 f4 f5; omega)) fun h' eb => ⟨rfl, I.turned (t' := s.toks) (fun b o hb e => eb b o hb e) f0 f1 f3 f4 f5⟩
  self := fun _ _ _ _ _ st h => wpAny_pyIter_tupleiter st h
theorem turn_range {P : Program} {w : World} {K : PySem.W.Frag} {tg : Expr} (it : Addr) (lo : Int) (n : Nat) : Turn P w K tg (Itr lo n) [it] it (fun i h => IsRangeIter h it (lo + (i : Nat) * 1) ((n : Int) - (i : Nat)) 1) where
  mem := by simp
  obj := fun i h st b hb => by
    have e : b = it := by simpa using hb
    subst e
    exact ⟨_, st, fun v z => by
      have z' : Data.fields _ = Data.cell v := z
      cases z'⟩
  keep := fun i h h' st k => k it (by simp) _ st
  item := by
    intro X hP hw hK hc i pins s σ H E I hf st hg
    subst hP hw hK
    obtain ⟨f0, f1, f2, f3, f4, f5⟩ := hf it (by simp)
    have W := Walks.range (prog := X.prog) (w := X.w) (I.ok.hd hc) it lo 1 n
    refine W.item i s _ _ hg st fun v h' tk hv st' kk => ?_
    obtain ⟨t, rfl⟩ := hv
    have I1 : Inv X pins σ H { s with heap := h', toks := tk } := I.turned (fun b o hb e => kk b o (by simpa using hb) e) f0 f1 f3 f4 f5
    refine ⟨_, rfl, go_of (s := { s with heap := h', toks := tk }) (n := "range_iterator") st' rfl rfl (by decide) ⟨.int (lo + i), H, I1, ⟨t, ?_⟩, ⟨rfl, rfl⟩, st', fun b hb => (hf b hb).1⟩⟩
    rw [Int.mul_one]
  done := by
    intro X hP hw hK hc i pins s σ H E I hf st hg
    subst hP hw hK
    obtain ⟨f0, f1, f2, f3, f4, f5⟩ := hf it (by simp)
    exact wpAny_pyNext_range_end (I.ok.hd hc) st (by have : n ≤ i := hg; (clear hc I hf st hg f0 f1 f2 f3 f4 f5; omega)) fun h' eb => ⟨rfl, I.turned (t' := s.toks) (fun b o hb e => eb b o hb e) f0 f1 f3 f4 f5⟩
  self := fun _ _ _ _ _ st h => wpAny_pyIter_rangeiter st h
end L2
namespace L2
open PySem PySem.Spec PyProof.Rows
section
variable {X : Cx} {tg : Expr}
theorem range_it {pins : List (Addr × Obj)} {σ : St} {H : Hp} {s : Shared} {R : It → Hp → Prop} {E : Value → Shared → Prop} {lo hi : Int} {t u v : Tok} {tk : Nat} (I : Inv X pins σ H s) (h1 : -(2 ^ 62) ≤ lo) (h2 : lo < 2 ^ 62) (h3 : -(2 ^ 62) ≤ hi) (h4 : hi < 2 ^ 62)
    (q : R (Itr lo (hi - lo).toNat) H) : wpAny (model X.prog X.w) X.A (pyIter (.ref s.heap.objs.size)) (PIE X pins σ tg R) E { s with heap := s.heap.push { cls := .type "range", data := .fields #[.int lo t, .int hi u, .int 1 v] }, toks := tk } := by
  refine wpAny_pyIter_range (IsRange.new ..) (small_one h1 h2 h3 h4) ?_
  have I1 : Inv X pins σ H { s with heap := s.heap.push { cls := .type "range", data := .fields #[.int lo t, .int hi u, .int 1 v] }, toks := tk } := I.kept fun b o e => Heap.get?_push_of_some _ e
  refine ⟨(s.heap.push { cls := .type "range", data := .fields #[.int lo t, .int hi u, .int 1 v] }).objs.size, [(s.heap.push { cls := .type "range", data := .fields #[.int lo t, .int hi u, .int 1 v] }).objs.size], _, _, H, rfl,
    I1.kept (t' := tk) fun b o e => Heap.get?_push_of_some _ e, turn_range _ lo (hi - lo).toNat, ?_, fun b hb => ?_, q⟩
  · have e1 : lo + ((0 : Nat) : Int) * 1 = lo := by simp
    have e2 : (((hi - lo).toNat : Nat) : Int) - ((0 : Nat) : Int) = Builtin.Range.rangeSize lo hi 1 := by rw [rangeSize_one]; split <;> (clear I h1 h2 h3 h4 q I1 e1; omega)
    show IsRangeIter _ _ (lo + ((0 : Nat) : Int) * 1) ((((hi - lo).toNat : Nat) : Int) - ((0 : Nat) : Int)) 1
    rw [e1, e2]
    exact Heap.get?_push_size _ rfl
  · have e : b = (s.heap.push { cls := .type "range", data := .fields #[.int lo t, .int hi u, .int 1 v] }).objs.size := by simpa using hb
    subst e
    exact I1.fpOk (Nat.le_refl _) (I1.hok.fresh (Nat.le_refl _))
noncomputable def iRng1 (ta : TA) : TI := fun σ H R => ta σ H fun vs H1 => ∃ j : Int, vs = [.int j] ∧ -(2 ^ 62) ≤ j ∧ j < 2 ^ 62 ∧ R (Itr 0 j.toNat) H1
theorem pi_range1 {a : Expr} {ta : TA} {p pos : Pos} (hg : Gl X "range") (hm : X.mg "range" = none) (ha : PA X [a] ta) (hs : starEach [a] X.env = [(false, eval a X.env)] := by rfl) : PI X tg (.Call (.Name "range" p) [a] [] pos) (iRng1 ta) := by
  intro pins s σ H R I h
  refine Call_ (ld_blt I hg hm boot_range (PyProof.Rows.callWith_type1 (thn (ha pos pins s σ H _ I h) fun us s1 ⟨vs, H1, I1, r1, q1⟩ => ?_) hs rfl))
  obtain ⟨j, e, q1, q2, q⟩ := q1
  subst e
  cases r1 with
  | cons r rr =>
    cases rr
    obtain ⟨t, rfl⟩ := r
    exact call_range_1 (range_it I1 (by (clear hg hm ha hs I h I1 q1 q2 q; omega)) (by (clear hg hm ha hs I h I1 q1 q2 q; omega)) q1 q2 (by simpa using q))
noncomputable def tFor (wi : TI) (g : TG) (tb : TS) : TS := fun D σ H => wi σ H fun J H1 => ∃ W : Nat → Nat → St → Hp → Prop, (∃ m, W 0 m σ H1) ∧ ∀ i m σ H, W i m σ H →
  (J.stop i H ∧ D.nx σ H) ∨ (J.go i H ∧ ∃ N : St → Hp → Prop, (∀ σ' H', N σ' H' → ∃ m', m' < m ∧ W (i + 1) m' σ' H') ∧ ∀ x H', J.yld i H x H' → g x σ H' fun σ2 H2 => tb { D with nx := N, ct := N, bk := D.nx } σ2 H2)
noncomputable def pinsAt (fp : List Addr) (h : Heap) : List (Addr × Obj) := fp.filterMap fun b => (h.get? b).map fun o => (b, o)
theorem mem_pinsAt {fp : List Addr} {h : Heap} {b : Addr} {o : Obj} (hb : b ∈ fp) (e : h.get? b = some o) : (b, o) ∈ pinsAt fp h := List.mem_filterMap.mpr ⟨b, hb, by rw [e]; rfl⟩
theorem of_pinsAt {fp : List Addr} {h : Heap} {p : Addr × Obj} (hp : p ∈ pinsAt fp h) : p.1 ∈ fp ∧ h.get? p.1 = some p.2 := by
  obtain ⟨b, hb, e⟩ := List.mem_filterMap.mp hp
  cases q : h.get? b with
  | none => rw [q] at e; cases e
  | some o =>
    rw [q] at e
    have e' : (b, o) = p := Option.some.inj e
    subst e'
    exact ⟨hb, q⟩
theorem Inv.pinned {pins : List (Addr × Obj)} {σ : St} {H : Hp} {s : Shared} {fp : List Addr} (I : Inv X pins σ H s) (hf : ∀ b ∈ fp, FpOk X pins H b) (ho : ∀ b ∈ fp, ∃ o, s.heap.get? b = some o ∧ ∀ v, o.data ≠ .cell v) : Inv X (pins ++ pinsAt fp s.heap) σ H s :=
  I.pins_of fun p hp => (List.mem_append.mp hp).elim (fun z => I.pin p (List.mem_append_right _ z)) fun z => by
    obtain ⟨hb, e⟩ := of_pinsAt z
    obtain ⟨f0, f1, f2, _⟩ := hf p.1 hb
    obtain ⟨o, e', d⟩ := ho p.1 hb
    rw [e] at e'; cases e'
    exact ⟨e, f0, f1, f2, d⟩
theorem Inv.unpinned {pins pl : List (Addr × Obj)} {σ : St} {H : Hp} {s : Shared} (I : Inv X (pins ++ pl) σ H s) : Inv X pins σ H s := I.pins_of fun p hp => I.pin p (List.mem_append_right _ (List.mem_append_left _ hp))
theorem ps_for {iter : Expr} {body : List Stmt} {wi : TI} {g : TG} {tb : TS} {pos : Pos} (hp : PassesOwn (model X.prog X.w) X.A X.env X.xe) (hc : X.calm = true) (hi : PI X tg iter wi) (hg : PG X tg g) (hb : PSs X body tb)
    (hs : ∀ x, foldedSetIterable iter X.env x = pure x := by intro _; rfl) : PS X (.For tg iter body [] pos) (tFor wi g tb) := by
  intro pins s σ H D I h
  refine wpAny_For (thn (hi pins s σ H _ I h) fun v s1 h1 => thn h1 fun itv s2 h2 => ?_) hs
  obtain ⟨it, fp, tn, J, H2, e, I2, T, st2, f2, W, ⟨m0, w0⟩, turn⟩ := h2
  subst e
  -- what stays true of the iterator's objects through the loop
  have stat : ∀ {H' : Hp}, (∀ b ∈ fp, H' b = none) → ∀ b ∈ fp, FpOk X pins H' b := fun hn b hb => ⟨hn b hb, (f2 b hb).2⟩
  refine codeAny_forLoop_any (fun n s' => ∃ i σ' H', Inv X pins σ' H' s' ∧ tn i s'.heap ∧ (∀ b ∈ fp, H' b = none) ∧ W i n σ' H') ?_ m0 ⟨0, σ, H2, I2, st2, fun b hb => (f2 b hb).1, w0⟩
  rintro n s3 ⟨i, σ3, H3, I3, st3, fr3, w3⟩
  rcases turn i n σ3 H3 w3 with ⟨stop, qn⟩ | ⟨go, N, hN, step⟩
  · refine wpAny_passesOwn hp (thn (T.done X rfl rfl rfl hc i pins s3 σ3 H3 X.xe I3 (stat fr3) st3 stop) fun r s4 ⟨hr, I4⟩ => ?_)
    subst hr
    exact wpAny_execs_nil ⟨σ3, H3, I4, qn⟩
  · refine wpAny_passesOwn hp (thn (T.item X rfl rfl rfl hc i pins s3 σ3 H3 X.xe I3 (stat fr3) st3 go) fun r s4 ⟨u, hr, h4⟩ => ?_)
    subst hr
    refine wpAny_passesOwn hp (thn h4 fun _ s5 ⟨x, H5, I5, r5, y5, st5, fr5⟩ => ?_)
    have I5' := I5.pinned (stat fr5) (T.obj _ _ st5)
    refine wpAny_passesOwn hp (thn (hg _ s5 σ3 H5 x u _ I5' r5 (step x H5 y5)) fun _ s6 ⟨σ6, H6, I6, q6⟩ => ?_)
    refine wpAny_passesOwn hp (thn (hb _ s6 σ6 H6 _ I6 q6) fun f s7 q7 => ?_)
    have again : ∀ {σ7 : St} {H7 : Hp}, Inv X (pins ++ pinsAt fp s5.heap) σ7 H7 s7 → N σ7 H7 → ∃ m, m < n ∧ ∃ i σ' H', Inv X pins σ' H' s7 ∧ tn i s7.heap ∧ (∀ b ∈ fp, H' b = none) ∧ W i m σ' H' := fun {σ7 H7} I7 n7 => by
      obtain ⟨m', hm, w7⟩ := hN σ7 H7 n7
      refine ⟨m', hm, i + 1, σ7, H7, I7.unpinned, T.keep _ _ _ st5 fun b hb o e => (I7.pin (b, o) (List.mem_append_right _ (List.mem_append_right _ (mem_pinsAt hb e)))).1, fun b hb => ?_, w7⟩
      obtain ⟨o, e, d⟩ := T.obj _ _ st5 b hb
      exact (I7.pin (b, o) (List.mem_append_right _ (List.mem_append_right _ (mem_pinsAt hb e)))).2.1
    cases f with
    | next => obtain ⟨σ7, H7, I7, n7⟩ := q7; exact again I7 n7
    | cont => obtain ⟨σ7, H7, I7, n7⟩ := q7; exact again I7 n7
    | brk => obtain ⟨σ7, H7, I7, q7⟩ := q7; exact ⟨σ7, H7, I7.unpinned, q7⟩
    | ret v => obtain ⟨x7, σ7, H7, I7, r7, q7⟩ := q7; exact ⟨x7, σ7, H7, I7.unpinned, r7, q7⟩
end
end L2
namespace L2
open PySem PySem.Spec PyProof.Rows
noncomputable abbrev R2 := V → V → Hp → VK → Prop
noncomputable def OpR (X : Cx) (f : Value → Value → Sem Value) (r : R2) : Prop :=
  ∀ (pins : List (Addr × Obj)) (s : Shared) (σ : St) (H : Hp) (x y : V) (v u : Value) (Q : VK), Inv X pins σ H s → RelV x v → RelV y u → r x y H Q →
    wpAny (model X.prog X.w) X.A (f v u) (EP X pins σ Q) X.xe s
noncomputable def UnR (X : Cx) (f : Value → Sem Value) (r : V → Hp → VK → Prop) : Prop :=
  ∀ (pins : List (Addr × Obj)) (s : Shared) (σ : St) (H : Hp) (x : V) (v : Value) (Q : VK), Inv X pins σ H s → RelV x v → r x H Q →
    wpAny (model X.prog X.w) X.A (f v) (EP X pins σ Q) X.xe s
noncomputable def CallR (X : Cx) (f : Value) (r : List V → Hp → VK → Prop) : Prop :=
  ∀ (pins : List (Addr × Obj)) (s : Shared) (σ : St) (H : Hp) (xs : List V) (us : List Value) (Q : VK), Inv X pins σ H s → Vals xs us → r xs H Q →
    wpAny (model X.prog X.w) X.A (call f us) (EP X pins σ Q) X.xe s
noncomputable def tOp (r : R2) (ta tb : TE) : TE := fun σ H Q => ta σ H fun x H1 => tb σ H1 fun y H2 => r x y H2 Q
noncomputable def tUn (r : V → Hp → VK → Prop) (ta : TE) : TE := fun σ H Q => ta σ H fun x H1 => r x H1 Q
noncomputable def rI (C : Int → Int → Prop) (g : Int → Int → V) : R2 := fun x y H Q => ∃ i j, x = .int i ∧ y = .int j ∧ C i j ∧ Q (g i j) H
noncomputable def rI0 (g : Int → Int → V) : R2 := fun x y H Q => ∃ i j, x = .int i ∧ y = .int j ∧ Q (g i j) H
noncomputable def rU (g : Int → V) : V → Hp → VK → Prop := fun x H Q => ∃ i, x = .int i ∧ Q (g i) H
section
variable {X : Cx} {a b c : Expr} {ta tb tc : TE} {pos : Pos}
theorem binT (ha : PE X a ta) (hb : PE X b tb) {pins : List (Addr × Obj)} {s : Shared} {σ : St} {H : Hp} {R : V → V → Hp → Prop} (I : Inv X pins σ H s)
    (h : ta σ H fun x H1 => tb σ H1 fun y H2 => R x y H2) {Q : Value → Shared → Prop} {f : Value → Value → Sem Value}
    (hf : ∀ v u s2 x y H2, Inv X pins σ H2 s2 → RelV x v → RelV y u → R x y H2 → wpAny (model X.prog X.w) X.A (f v u) Q X.xe s2) :
    wpAny (model X.prog X.w) X.A (eval a X.env) (fun v s₁ => wpAny (model X.prog X.w) X.A (eval b X.env) (fun u s₂ => wpAny (model X.prog X.w) X.A (f v u) Q X.xe s₂) X.xe s₁) X.xe s := by
  refine thn (ha pins s σ H _ I h) fun v s1 ⟨x, H1, I1, r1, q1⟩ => ?_
  refine thn (hb pins s1 σ H1 _ I1 q1) fun u s2 ⟨y, H2, I2, r2, q2⟩ => ?_
  exact hf v u s2 x y H2 I2 r1 r2 q2
theorem pe_op {op : Operator} {r : R2} (ho : OpR X (binaryOp op) r) (ha : PE X a ta) (hb : PE X b tb) : PE X (.BinOp a op b pos) (tOp r ta tb) := by
  intro pins s σ H Q I h
  exact wpAny_BinOp (binT ha hb I h fun v u s2 x y H2 I2 rx ry q => ho pins s2 σ H2 x y v u Q I2 rx ry q)
theorem pe_un {op : UnaryOp} {r : V → Hp → VK → Prop} (ho : UnR X (unaryOp op) r) (ha : PE X a ta) : PE X (.UnaryOp op a pos) (tUn r ta) := by
  intro pins s σ H Q I h
  exact UnaryOp_ (thn (ha pins s σ H _ I h) fun v s1 ⟨x, H1, I1, r1, q1⟩ => ho pins s1 σ H1 x v Q I1 r1 q1)
theorem opI {f : Value → Value → Sem Value} {C : Int → Int → Prop} {g : Int → Int → Int}
    (rule : ∀ (i j : Int) (t u : Tok) (s : Shared) (Q : Value → Shared → Prop) (E : Value → Shared → Prop), C i j → Q (.int (g i j) s.toks) { s with toks := s.toks + 1 } → wpAny (model X.prog X.w) X.A (f (.int i t) (.int j u)) Q E s) :
    OpR X f (rI C fun i j => .int (g i j)) := by
  intro pins s σ H x y v u Q I rx ry h
  obtain ⟨i, j, rfl, rfl, hc, q⟩ := h
  obtain ⟨t, rfl⟩ := rx
  obtain ⟨t', rfl⟩ := ry
  exact rule i j t t' s _ _ hc ⟨.int (g i j), H, I.tok _, ⟨_, rfl⟩, q⟩
theorem opI0 {f : Value → Value → Sem Value} {g : Int → Int → Int}
    (rule : ∀ (i j : Int) (t u : Tok) (s : Shared) (Q : Value → Shared → Prop) (E : Value → Shared → Prop), Q (.int (g i j) s.toks) { s with toks := s.toks + 1 } → wpAny (model X.prog X.w) X.A (f (.int i t) (.int j u)) Q E s) :
    OpR X f (rI0 fun i j => .int (g i j)) := by
  intro pins s σ H x y v u Q I rx ry h
  obtain ⟨i, j, rfl, rfl, q⟩ := h
  obtain ⟨t, rfl⟩ := rx
  obtain ⟨t', rfl⟩ := ry
  exact rule i j t t' s _ _ ⟨.int (g i j), H, I.tok _, ⟨_, rfl⟩, q⟩
theorem opB0 {f : Value → Value → Sem Value} {g : Int → Int → Bool}
    (rule : ∀ (i j : Int) (t u : Tok) (s : Shared) (Q : Value → Shared → Prop) (E : Value → Shared → Prop), Q (.bool (g i j)) s → wpAny (model X.prog X.w) X.A (f (.int i t) (.int j u)) Q E s) :
    OpR X f (rI0 fun i j => .bl (g i j)) := by
  intro pins s σ H x y v u Q I rx ry h
  obtain ⟨i, j, rfl, rfl, q⟩ := h
  obtain ⟨t, rfl⟩ := rx
  obtain ⟨t', rfl⟩ := ry
  exact rule i j t t' s _ _ ⟨.bl (g i j), H, I, rfl, q⟩
noncomputable def CDiv (i j : Int) : Prop := 0 < j ∧ j < 1073741824
noncomputable def CPow (i j : Int) : Prop := 0 ≤ j ∧ j ≤ 1000000 ∧ i.natAbs < 2 ^ 64
noncomputable def CMul (i j : Int) : Prop := (-(2 ^ 64) < i ∧ i < 2 ^ 64) ∨ (-(2 ^ 64) < j ∧ j < 2 ^ 64)
theorem CMul.ok {i j : Int} (h : CMul i j) : IntMulOk i j := by
  rcases h with ⟨h1, h2⟩ | ⟨h1, h2⟩
  · exact .of_left (intBits_le_64 h1 h2)
  · exact .of_right (intBits_le_64 h1 h2)
theorem op_add : OpR X (binaryOp .Add) (rI0 fun i j => .int (i + j)) := opI0 fun _ _ _ _ _ _ _ q => add_int q
theorem op_mod : OpR X (binaryOp .Mod) (rI (fun _ j => 0 < j) fun i j => .int (i % j)) := opI fun i j _ _ _ _ _ hc q => by
  have h1 : (0 : Int) < j := hc
  exact mod_int' (by (clear q h1; omega)) (by rw [Int.fmod_eq_emod_of_nonneg i (by (clear q h1; omega))]; exact q)
theorem unI {f : Value → Sem Value} {g : Int → Int}
    (rule : ∀ (i : Int) (t : Tok) (s : Shared) (Q : Value → Shared → Prop) (E : Value → Shared → Prop), Q (.int (g i) s.toks) { s with toks := s.toks + 1 } → wpAny (model X.prog X.w) X.A (f (.int i t)) Q E s) :
    UnR X f (rU fun i => .int (g i)) := by
  intro pins s σ H x v Q I rx h
  obtain ⟨i, rfl, q⟩ := h
  obtain ⟨t, rfl⟩ := rx
  exact rule i t s _ _ ⟨.int (g i), H, I.tok _, ⟨_, rfl⟩, q⟩
theorem un_neg : UnR X (unaryOp .USub) (rU fun i => .int (-i)) := unI fun _ _ _ _ _ q => neg_int q
end
section
variable {X : Cx} {a b c : Expr} {ta tb tc : TE} {pos : Pos}
theorem op_lt : OpR X (compareOp .Lt) (rI0 fun i j => .bl (decide (i < j))) := opB0 fun _ _ _ _ _ _ _ q => lt_int q
theorem op_gt : OpR X (compareOp .Gt) (rI0 fun i j => .bl (decide (j < i))) := opB0 fun _ _ _ _ _ _ _ q => gt_int q
theorem op_ge : OpR X (compareOp .GtE) (rI0 fun i j => .bl (decide (j ≤ i))) := opB0 fun _ _ _ _ _ _ _ q => ge_int q
theorem nomark (b : Expr) {op : CmpOp} (h : op ≠ .In := by decide) (h2 : op ≠ .NotIn := by decide) : behindInMarks op b = false := by
  have e1 : (op == CmpOp.In) = false := by cases op <;> first | rfl | exact absurd rfl h
  have e2 : (op == CmpOp.NotIn) = false := by cases op <;> first | rfl | exact absurd rfl h2
  cases b <;> simp [behindInMarks, e1, e2]
theorem pe_cmpR {op : CmpOp} {r : R2} (ho : OpR X (compareOp op) r) (ha : PE X a ta) (hb : PE X b tb) (hm : behindInMarks op b = false) : PE X (.Compare a [op] [b] pos) (tOp r ta tb) := by
  intro pins s σ H Q I h
  exact wpAny_Compare1 (binT ha hb I h fun v u s2 x y H2 I2 rx ry q => ho pins s2 σ H2 x y v u Q I2 rx ry q) hm
noncomputable def tTest (t : TE) : TT := fun σ H Q => t σ H fun x H' => ∃ k, x = .bl k ∧ Q k H'
theorem pt_cmpR {op : CmpOp} {r : R2} (ho : OpR X (compareOp op) r) (ha : PE X a ta) (hb : PE X b tb) (hm : behindInMarks op b = false) : PT X (.Compare a [op] [b] pos) (tTest (tOp r ta tb)) := by
  intro pins s σ H Q I h
  refine wpAny_isTrue_Compare1 (thn (ha pins s σ H _ I h) fun v s1 ⟨x, H1, I1, r1, q1⟩ => thn (hb pins s1 σ H1 _ I1 q1) fun u s2 ⟨y, H2, I2, r2, q2⟩ =>
    thn (ho pins s2 σ H2 x y v u _ I2 r1 r2 q2) fun c s3 ⟨z, H3, I3, r3, k, e, q3⟩ => ?_) hm
  subst e
  cases r3
  exact wpAny_truthy_bool ⟨H3, I3, q3⟩
theorem line63 : (sizeLine : Nat) < 2 ^ 63 := by rw [sizeLine_eq]; decide
theorem op_add_str : OpR X (binaryOp .Add) (fun x y H Q => ∃ i j, x = .str i ∧ y = .str j ∧ i.length + j.length ≤ sizeLine ∧ Q (.str (i ++ j)) H) := by
  intro pins s σ H x y v u Q I rx ry h
  obtain ⟨i, j, rfl, rfl, hz, q⟩ := h
  obtain ⟨t, rfl⟩ := rx
  obtain ⟨t', rfl⟩ := ry
  exact add_str (fun t' tk => ⟨.str (i ++ j), H, I.tok _, ⟨_, rfl⟩, q⟩) hz
theorem vals1 {x : V} {us : List Value} (r : Vals [x] us) : ∃ u, us = [u] ∧ RelV x u := by
  cases r with
  | cons r1 r2 => cases r2; exact ⟨_, rfl, r1⟩
theorem vals2 {x y : V} {us : List Value} (r : Vals [x, y] us) : ∃ u w', us = [u, w'] ∧ RelV x u ∧ RelV y w' := by
  cases r with
  | cons r1 r2 =>
    cases r2 with
    | cons r3 r4 => cases r4; exact ⟨_, _, rfl, r1, r3⟩
end
end L2
namespace L2
open PySem PySem.Spec PyProof.Rows
structure ObjM (h : Heap) (x dx C : Addr) (mA : Str → Option Value) : Prop where
  obj : h.get? x = some (PySem.W.instObj C dx)
  ns : h.Ns1 dx mA
  ne : dx ≠ x
theorem lookIn_ns {h : Heap} {dx : Addr} {mA : Str → Option Value} (n : h.Ns1 dx mA) : ∃ od, h.get? dx = some od ∧ ∀ name, PySem.W.lookIn name od = some (mA name) := by
  obtain ⟨o, es, ep, ho, hd, hk, _, hm⟩ := n
  refine ⟨o, ho, fun name => ?_⟩
  have e := hm name
  unfold nsFind findBy at e
  rw [← Array.find?_toList] at e
  unfold PySem.W.lookIn
  rw [hd]
  dsimp only
  split
  · rename_i y q
    rw [q] at e
    exact congrArg some e
  · rename_i q
    rw [q] at e
    have a : es.toList.any (·.refKey) = false := by
      rw [List.any_eq_false]
      intro y hy
      obtain ⟨z, t, hkey⟩ := hk y (Array.mem_toList_iff.mp hy)
      simp [DictEntry.refKey, hkey]
    have a' : ¬ es.toList.any (·.refKey) = true := by rw [a]; exact Bool.false_ne_true
    rw [if_neg a']
    exact congrArg some e
theorem ObjM.look {h : Heap} {x dx C : Addr} {mA : Str → Option Value} (I : ObjM h x dx C mA) : ∃ od, PySem.W.InstAt h x (PySem.W.instObj C dx) C (some od) ∧ ∀ name, PySem.W.lookIn name od = some (mA name) :=
  let ⟨od, ho, hl⟩ := lookIn_ns I.ns
  ⟨od, ⟨I.obj, rfl, rfl, ho⟩, hl⟩
section
variable {prog : Program} {w : World} {A : Around} {E : Value → Shared → Prop} {s : Shared} {K : PySem.W.Frag} {x dx C f : Addr} {mA : Str → Option Value} {name : Str} {v : Value}
theorem get_map {expr : Bool} {Q : Value → Shared → Prop} (X : K.In s.heap) (I : ObjM s.heap x dx C mA) (hg : PySem.W.plainGet K C name = true) (hh : PySem.W.hasDictIn K C = true)
    (ha : PySem.W.findIn K (.ref C) name = some none) (hv : mA name = some v) (hv' : PySem.W.handedIn v = true) (h : Q v { s with toks := s.toks + 1 }) :
    wpAny (model prog w) A (getAttr (.ref x) name expr) Q E s := by
  obtain ⟨od, J, hl⟩ := I.look
  exact PySem.W.get_value X J (PySem.W.plainGet_of hg).1 (PySem.W.findObj_own hh ha rfl (by rw [hl, hv])) hv' h
theorem get_meth {pl : Sem Bool} {Q : Value × List Value → Shared → Prop} (X : K.In s.heap) (I : ObjM s.heap x dx C mA) (hg : PySem.W.plainGet K C name = true)
    (hf : PySem.W.findIn K (.ref C) name = some (some (.ref f))) (ht : PySem.W.isFn K (.ref f) = true) (hv : mA name = none) (h : Q (.ref f, [.ref x]) s) :
    wpAny (model prog w) A (getMethod (.ref x) name pl) Q E s := by
  obtain ⟨od, J, hl⟩ := I.look
  exact PySem.W.method_fn X J (PySem.W.plainGet_of hg).1 (PySem.W.plainGet_of hg).2 hf (beq_iff_eq.mp ht) (by show (PySem.W.lookIn name od).map (·.isSome) = some false; rw [hl, hv]; rfl) h
theorem set_map {ns : List Str} {Q : Unit → Shared → Prop} (X : K.In s.heap) (I : ObjM s.heap x dx C mA)
    (hs : PySem.W.findIn K (.ref C) "__setattr__" = some (some (.builtin "object.__setattr__"))) (hp : PySem.W.plainOver K C = true) (ht : PySem.W.takerIn K C name = some none) (hh : PySem.W.hasDictIn K C = true)
    (hw : PySem.Within mA ns) (hsz : ns.length ≤ sizeLine)
    (h : ∀ h', ObjM h' x dx C (fun y => if y = name then some v else mA y) → Heap.SameBut dx s.heap h' → Q () { s with heap := h', toks := s.toks + 2 }) :
    wpAny (model prog w) A (setAttr (.ref x) name v) Q E s := by
  obtain ⟨od, J, hl⟩ := I.look
  refine PySem.W.set_plain X J hs (PySem.W.osa_open (s := { s with toks := s.toks + 1 }) (r := none) X J hp ht fun b => ?_)
  obtain ⟨cd, hc, hd'⟩ := PySem.W.any_some hh
  have hx : s.heap.get? x = some ⟨.ref C, some dx, .plain, #[]⟩ := I.obj
  refine wpAny_bind (wpAny_pure (wpAny_bind (wpAny_bind (wpAny_loadPart hx (wpAny_bind (PySem.W.Looks.here (s := { s with toks := s.toks + 1 }) (PySem.W.looks_clsIn X hc) ?_))))))
  rw [hd']
  refine wpAny_pure (a := some dx) (wpAny_bind (wpAny_pure (wpAny_bind ?_)))
  refine wpAny_nsSet1 (s := { s with toks := s.toks + 1 }) I.ns fun h' hn2 hs2 => ?_
  obtain ⟨oD, esD, epD, hoD, hdD, hcD⟩ := hn2.count (PySem.Within.cons name v hw)
  refine wpAny_bind (wpAny_lookBehind hoD (by rw [hdD]; exact pastItsLine_dict (Nat.le_trans hcD (by rw [List.length_cons]; (clear X I hs hp ht hh hw h J hl hc hd' hx hn2 hs2 hoD hdD hcD; omega)))) ?_)
  exact wpAny_pure (h _ ⟨(hs2.2 _ (Ne.symm I.ne)).trans I.obj, hn2, I.ne⟩ hs2)
theorem make_map {R : Result → Shared → Prop} {vs : List Value} {kw : List (Str × Value)} (X : K.In s.heap) (hm : PySem.W.makesIn K C = true)
    (hi : PySem.W.findIn K (.ref C) "__init__" = some (some (.ref f))) (hf : PySem.W.typeIn K (.ref f) = some (.type "function"))
    (h : codeAny (model prog w) (A.under (.builtin "type.__call__" ⟨.ref C :: vs, kw⟩)) (.call (.ref f) ⟨.ref (s.heap.objs.size + 1) :: vs, kw⟩) (PySem.W.InitBack (s.heap.objs.size + 1) R)
      { s with heap := (s.heap.push PySem.W.emptyDict).push (PySem.W.instObj C s.heap.objs.size) }) :
    codeAny (model prog w) A (.call (.ref C) ⟨vs, kw⟩) R s := by
  obtain ⟨hh, g, d, t, os⟩ := s
  exact PySem.W.make_core (PySem.W.makes_of X hm) (PySem.W.looks_findIn X hi) (fun self => PySem.W.bind_fn X self hf) (.inl rfl) h
end
noncomputable def putF (f : Str) (v : V) : List (Str × V) → List (Str × V)
  | [] => [(f, v)]
  | (g, x) :: r => if g = f then (g, v) :: r else (g, x) :: putF f v r
theorem lookup_putF (f g : Str) (v : V) : ∀ fs : List (Str × V), (putF f v fs).lookup g = if g = f then some v else fs.lookup g
  | [] => by
    show List.lookup g [(f, v)] = _
    by_cases h : g = f
    · have hb : (g == f) = true := beq_iff_eq.mpr h
      simp only [List.lookup, hb, if_pos h]
    · have hb : (g == f) = false := beq_eq_false_iff_ne.mpr h
      simp only [List.lookup, hb, if_neg h]
  | (k, x) :: r => by
    have ih := lookup_putF f g v r
    rw [show putF f v ((k, x) :: r) = (if k = f then (k, v) :: r else (k, x) :: putF f v r) from rfl]
    by_cases hk : k = f
    · rw [if_pos hk]
      by_cases h : g = k
      · have hb : (g == k) = true := beq_iff_eq.mpr h
        simp only [List.lookup, hb, if_pos (h.trans hk)]
      · have hb : (g == k) = false := beq_eq_false_iff_ne.mpr h
        simp only [List.lookup, hb, if_neg (fun e : g = f => h (e.trans hk.symm))]
    · rw [if_neg hk]
      by_cases h : g = k
      · have hb : (g == k) = true := beq_iff_eq.mpr h
        simp only [List.lookup, hb, if_neg (fun e : g = f => hk (h.symm.trans e))]
      · have hb : (g == k) = false := beq_eq_false_iff_ne.mpr h
        simp only [List.lookup, hb]
        exact ih
theorem keys_putF (f : Str) (v : V) : ∀ fs : List (Str × V), f ∈ (putF f v fs).map (·.1) ∧ ∀ g, g ∈ fs.map (·.1) → g ∈ (putF f v fs).map (·.1)
  | [] => ⟨by simp [putF], fun g h => by simp at h⟩
  | (k, x) :: r => by
    obtain ⟨i1, i2⟩ := keys_putF f v r
    rw [show putF f v ((k, x) :: r) = (if k = f then (k, v) :: r else (k, x) :: putF f v r) from rfl]
    by_cases hk : k = f
    · rw [if_pos hk]
      subst hk
      exact ⟨by simp, fun g h => by simpa using h⟩
    · rw [if_neg hk]
      refine ⟨?_, fun g h => ?_⟩
      · rw [List.map_cons]
        exact List.mem_cons_of_mem _ i1
      · rw [List.map_cons] at h ⊢
        rcases List.mem_cons.mp h with e | e
        · exact List.mem_cons.mpr (.inl e)
        · exact List.mem_cons_of_mem _ (i2 g e)
theorem length_putF (f : Str) (v : V) : ∀ fs : List (Str × V), (putF f v fs).length ≤ fs.length + 1
  | [] => by simp [putF]
  | (k, x) :: r => by
    have ih := length_putF f v r
    rw [show putF f v ((k, x) :: r) = (if k = f then (k, v) :: r else (k, x) :: putF f v r) from rfl]
    by_cases hk : k = f
    · rw [if_pos hk, List.length_cons, List.length_cons]; (clear ih hk; omega)
    · rw [if_neg hk, List.length_cons, List.length_cons]; (clear hk; omega)
theorem RelO.some_of {v : V} {o : Option Value} (r : RelO (some v) o) : ∃ u, o = some u ∧ RelV v u := by
  cases o with
  | none => exact (show False from r).elim
  | some u => exact ⟨u, rfl, r⟩
theorem RelO.none_of {o : Option Value} (r : RelO none o) : o = none := by
  cases o with
  | none => rfl
  | some u => exact (show False from r).elim
theorem handed_of {v : V} {u : Value} (r : RelV v u) : PySem.W.handedIn u = true := by
  cases v with
  | non => cases (show u = Value.none from r); rfl
  | bl b => cases (show u = Value.bool b from r); rfl
  | int i => obtain ⟨t, e⟩ := (show ∃ t, u = Value.int i t from r); cases e; rfl
  | str x => obtain ⟨t, e⟩ := (show ∃ t, u = Value.str x t from r); cases e; rfl
  | byt b => obtain ⟨t, e⟩ := (show ∃ t, u = Value.bytes b t from r); cases e; rfl
  | flt b => obtain ⟨t, e⟩ := (show ∃ t, u = Value.float b t from r); cases e; rfl
  | ref a => cases (show u = Value.ref a from r); rfl
  | ty n => cases (show u = Value.type n from r); rfl
section
variable {P : Program} {w : World} {H H' : Hp} {h h' : Heap} {a C dx : Addr} {fs fs' : List (Str × V)}
theorem ins_get (hok : HOk P w H h) (e : H a = some (.ins C dx fs)) : ∃ mA, ObjM h a dx C mA ∧ (∀ f, RelO (fs.lookup f) (mA f)) ∧ PySem.Within mA (fs.map (·.1)) ∧ fs.length ≤ 1000 ∧ H dx = some (.own a) := by
  obtain ⟨d, z, ne, ob, mA, n, r, q⟩ := (show ObjOk P w H h a (.ins C dx fs) from hok a _ e)
  exact ⟨mA, ⟨ob, n, ne⟩, r, q, z, d⟩
end
structure Cls (K : PySem.W.Frag) (C : Addr) : Prop where
  pg : PySem.W.plainGet K C Str.empty = true
  hd : PySem.W.hasDictIn K C = true
  po : PySem.W.plainOver K C = true
  sa : PySem.W.findIn K (.ref C) "__setattr__" = some (some (.builtin "object.__setattr__"))
theorem Cls.get {K : PySem.W.Frag} {C : Addr} (c : Cls K C) (f : Str) : PySem.W.plainGet K C f = true := c.pg
noncomputable def NoAttr (K : PySem.W.Frag) (C : Addr) (f : Str) : Prop := PySem.W.findIn K (.ref C) f = some none
theorem NoAttr.taker {K : PySem.W.Frag} {C : Addr} {f : Str} (n : NoAttr K C f) : PySem.W.takerIn K C f = some none := by
  unfold PySem.W.takerIn
  rw [show PySem.W.findIn K (.ref C) f = some none from n]
  rfl
structure Con (K : PySem.W.Frag) (C : Addr) (f : Str) (v : V) (u : Value) : Prop where
  at_ : PySem.W.findIn K (.ref C) f = some (some u)
  rel : RelV v u
  get : PySem.W.specialIn K u "__get__" = some none
  cp : PySem.W.copiedNames.contains f = false
structure Meth (K : PySem.W.Frag) (C : Addr) (m : Str) (f : Addr) : Prop where
  at_ : PySem.W.findIn K (.ref C) m = some (some (.ref f))
  fn : PySem.W.isFn K (.ref f) = true
  kp : PySem.W.keepIn K (.ref f) = true
section
variable {X : Cx} {pins : List (Addr × Obj)} {σ : St} {H : Hp} {s : Shared} {a C dx : Addr} {fs : List (Str × V)} {f : Str} {v : V} {A : Around} {E : Value → Shared → Prop}
theorem getattr_ok {b : Bool} {Q : Value → Shared → Prop} (I : Inv X pins σ H s) (e : H a = some (.ins C dx fs)) (c : Cls X.K C) (n : NoAttr X.K C f) (l : fs.lookup f = some v)
    (h : ∀ u s', Inv X pins σ H s' → RelV v u → Q u s') : wpAny (model X.prog X.w) A (getAttr (.ref a) f b) Q E s := by
  obtain ⟨mA, O, r, _, _, _⟩ := ins_get I.hok e
  obtain ⟨u, hu, ru⟩ := RelO.some_of (v := v) (o := mA f) (by rw [← l]; exact r f)
  exact get_map I.kIn O (c.get f) c.hd n hu (handed_of ru) (h u _ (I.tok _) ru)
theorem getmeth_ok {m : Str} {g : Addr} {pl : Sem Bool} {Q : Value × List Value → Shared → Prop} (I : Inv X pins σ H s) (e : H a = some (.ins C dx fs)) (c : Cls X.K C) (k : Meth X.K C m g) (l : fs.lookup m = none)
    (h : Q (.ref g, [.ref a]) s) : wpAny (model X.prog X.w) A (getMethod (.ref a) m pl) Q E s := by
  obtain ⟨mA, O, r, _, _, _⟩ := ins_get I.hok e
  have hn : mA m = none := RelO.none_of (by rw [← l]; exact r m)
  exact get_meth I.kIn O (c.get m) k.at_ k.fn hn h
theorem setattr_ok {y : V} {u : Value} {Q : Unit → Shared → Prop} (I : Inv X pins σ H s) (e : H a = some (.ins C dx fs)) (c : Cls X.K C) (n : NoAttr X.K C f) (hl : fs.length < 1000) (ry : RelV y u)
    (h : ∀ s', Inv X pins σ (upd H a (.ins C dx (putF f y fs))) s' → Q () s') : wpAny (model X.prog X.w) A (setAttr (.ref a) f u) Q E s := by
  obtain ⟨mA, O, r, wi, _, ho⟩ := ins_get I.hok e
  have hz : (fs.map (·.1)).length ≤ sizeLine := by rw [List.length_map, sizeLine_eq]; exact Nat.le_trans (by assumption) (Nat.le_of_ble_eq_true rfl)
  refine set_map I.kIn O c.sa c.po n.taker c.hd wi hz fun h' O' sb => h _ ?_
  have hd : ∃ o, h'.get? dx = some o := let ⟨o, _, _, e', _⟩ := O'.ns; ⟨o, e'⟩
  refine I.write (x := a) (e := dx) (by rw [e]; exact True.intro) (.inr ho) (fun b q hb z => (sb.2 b hb).trans z) hd ?_
  refine ⟨by rw [upd_ne O.ne]; exact ho, ?_, O.ne, O'.obj, _, O'.ns, fun g => ?_, fun g hg => ?_⟩
  · have := length_putF f y fs; (clear I e c n ry h O r wi ho hz O' sb hd; omega)
  · show RelO ((putF f y fs).lookup g) (if g = f then some u else mA g)
    rw [lookup_putF]
    by_cases q : g = f
    · rw [if_pos q, if_pos q]; exact ry
    · rw [if_neg q, if_neg q]; exact r g
  · by_cases q : g = f
    · rw [q]; exact (keys_putF f y fs).1
    · refine (keys_putF f y fs).2 g (wi g fun z => hg ?_)
      show (if g = f then some u else mA g) = none
      rw [if_neg q]; exact z
theorem Inv.made (I : Inv X pins σ H s) : Inv X pins σ (upd (upd H s.heap.objs.size (.own (s.heap.objs.size + 1))) (s.heap.objs.size + 1) (.ins C s.heap.objs.size []))
    { s with heap := (s.heap.push PySem.W.emptyDict).push (PySem.W.instObj C s.heap.objs.size) } := by
  have e1 : (s.heap.push PySem.W.emptyDict).get? s.heap.objs.size = some PySem.W.emptyDict := Heap.get?_push_size s.heap rfl
  have e2 : ((s.heap.push PySem.W.emptyDict).push (PySem.W.instObj C s.heap.objs.size)).get? (s.heap.objs.size + 1) = some (PySem.W.instObj C s.heap.objs.size) := by
    have := Heap.get?_push_size (s.heap.push PySem.W.emptyDict) (o := PySem.W.instObj C s.heap.objs.size) rfl
    rwa [Heap.size_push] at this
  have e3 : (s.heap.push PySem.W.emptyDict).Ns s.heap.objs.size (fun _ => none) := ⟨PySem.W.emptyDict, #[], _, e1, rfl, (fun e he => absurd he (by simp)), fun _ => rfl⟩
  have I1 := I.laid (a := s.heap.objs.size) (o := .own (s.heap.objs.size + 1)) (h' := s.heap.push PySem.W.emptyDict) (t' := s.toks) (fun b u q => Heap.get?_push_of_some _ q) (Nat.le_refl _) ⟨_, e1⟩
  refine I1.laid (a := s.heap.objs.size + 1) (o := .ins C s.heap.objs.size []) (t' := s.toks) (fun b u q => Heap.get?_push_of_some _ q) (Nat.le_of_eq (Heap.size_push _ _)) ?_
  have ne : s.heap.objs.size ≠ s.heap.objs.size + 1 := Nat.ne_of_lt (Nat.lt_succ_self _)
  refine ⟨by rw [upd_ne ne, upd_same], Nat.zero_le _, ne, e2, fun _ => none, (Heap.Ns1.of_empty e3).at fun o q => Heap.get?_push_of_some _ q, fun _ => True.intro, fun y hy => absurd rfl hy⟩
theorem attr_of {prog : Program} {w : World} {env : Env} {e : Expr} {f : Str} {pos : Pos} {s : Shared} {Q : Value → Shared → Prop} (hb : attributeBase e f env (eval e env) = eval e env)
    (h : wpAny (model prog w) A (eval e env) (fun o s₁ => wpAny (model prog w) A (getAttr o f true) Q E s₁) E s) : wpAny (model prog w) A (eval (.Attribute e f pos) env) Q E s :=
  Attribute_any_ h (by rw [arm_eval_Attribute, hb])
end
noncomputable def tFld (K : PySem.W.Frag) (ta : TE) (f : Str) : TE := fun σ H Q => ta σ H fun x H1 => ∃ a C dx fs v, x = .ref a ∧ H1 a = some (.ins C dx fs) ∧ Cls K C ∧ NoAttr K C f ∧ fs.lookup f = some v ∧ Q v H1
noncomputable def sFld (K : PySem.W.Frag) (ta tv : TE) (f : Str) : TS := fun D σ H => tv σ H fun y H1 => ta σ H1 fun x H2 => ∃ a C dx fs, x = .ref a ∧ H2 a = some (.ins C dx fs) ∧ Cls K C ∧ NoAttr K C f ∧ fs.length < 1000 ∧
  D.nx σ (upd H2 a (.ins C dx (putF f y fs)))
section
variable {X : Cx} {o e value : Expr} {f : Str} {pos pos' tpos : Pos} {ta tv : TE}
theorem pe_fld (he : PE X e ta) (hb : attributeBase e f X.env (eval e X.env) = eval e X.env) : PE X (.Attribute e f pos) (tFld X.K ta f) := by
  intro pins s σ H Q I h
  refine attr_of hb (thn (he pins s σ H _ I h) fun u s1 ⟨x, H1, I1, rx, a, C, dx, fs, v, ex, ea, c, n, l, q⟩ => ?_)
  subst ex
  obtain rfl : u = Value.ref a := rx
  exact getattr_ok I1 ea c n l fun u' s2 I2 ru => ⟨v, H1, I2, ru, q⟩
theorem ps_fld (ha : PE X o ta) (hv : PE X value tv) (hs : swapsWith value (some (.Attribute o f pos')) pos.line X.env = pure false) : PS X (.Assign [.Attribute o f pos'] value pos) (sFld X.K ta tv f) := by
  intro pins s σ H D I h
  refine plainObj_wpAny_Assign_Attribute (thn (hv pins s σ H _ I h) fun u s1 ⟨y, H1, I1, ry, q⟩ => thn (ha pins s1 σ H1 _ I1 q) fun ov s2 ⟨x, H2, I2, rx, a, C, dx, fs, ex, ea, c, n, l, q2⟩ => ?_) hs
  subst ex
  obtain rfl : ov = Value.ref a := rx
  exact setattr_ok I2 ea c n l ry fun s3 I3 => ⟨σ, _, I3, q2⟩
end
section
variable {X : Cx} {pins : List (Addr × Obj)} {σ : St} {H : Hp} {s : Shared} {A : Around} {E : Value → Shared → Prop} {Q : Value → Shared → Prop} {c : Value} {b : Bool}
inductive TyOf (K : PySem.W.Frag) (H : Hp) : V → Value → Prop where
  | non : TyOf K H .non (.type "NoneType")
  | bl (x : Bool) : TyOf K H (.bl x) (.type "bool")
  | int (i : Int) : TyOf K H (.int i) (.type "int")
  | str (x : Str) : TyOf K H (.str x) (.type "str")
  | flt (x : UInt64) : TyOf K H (.flt x) (.type "float")
  | lst {a : Addr} {xs : List V} (e : H a = some (.lst xs)) : TyOf K H (.ref a) (.type "list")
  | frz {a : Addr} {o : Obj} {xs : List V} (e : H a = some (.frz o (.lst xs))) : TyOf K H (.ref a) (.type "list")
  | tup {a : Addr} {xs : List V} (e : H a = some (.tup xs)) : TyOf K H (.ref a) (.type "tuple")
  | dK {a : Addr} {kvs : List (Key × V)} (e : H a = some (.dK kvs)) : TyOf K H (.ref a) (.type "dict")
  | dT {a : Addr} {kvs : List (List Key × V)} (e : H a = some (.dT kvs)) : TyOf K H (.ref a) (.type "dict")
  | ins {a C dx : Addr} {fs : List (Str × V)} (e : H a = some (.ins C dx fs)) (cl : Cls K C) (ha : PySem.W.findIn K (.ref C) "__class__" = some (some (.builtin "object.__class__")))
      (hn : PySem.W.specialIn K (.builtin "object.__class__") "__get__" = some (some (.builtin "getset_descriptor.__get__"))) (htk : PySem.W.takesIn K (.builtin "object.__class__") = some true)
      (hm : PySem.W.mroIn K C (.type "object") = some true) : TyOf K H (.ref a) (.ref C)
theorem isinst_ok {x : V} {u t : Value} (I : Inv X pins σ H s) (rx : RelV x u) (ty : TyOf X.K H x t) (e : PySem.W.kitOne X.K t c = some b) (h : ∀ tk, Q (.bool b) { s with toks := tk }) :
    wpAny (model X.prog X.w) A (call (.builtin "isinstance") [u, c]) Q E s := by
  cases ty with
  | non => cases (show u = Value.none from rx); exact PySem.W.kia_one PySem.W.kitx_none I.kIn True.intro e (fun z => nomatch z) h
  | bl y => cases (show u = Value.bool y from rx); exact PySem.W.kia_one PySem.W.kitx_bool I.kIn True.intro e (fun z => nomatch z) h
  | int i => obtain ⟨t, q⟩ := (show ∃ t, u = Value.int i t from rx); cases q; exact PySem.W.kia_one PySem.W.kitx_int I.kIn True.intro e (fun z => nomatch z) h
  | str y => obtain ⟨t, q⟩ := (show ∃ t, u = Value.str y t from rx); cases q; exact PySem.W.kia_one PySem.W.kitx_str I.kIn True.intro e (fun z => nomatch z) h
  | flt y => obtain ⟨t, q⟩ := (show ∃ t, u = Value.float y t from rx); cases q; exact PySem.W.kia_one PySem.W.kitx_float I.kIn True.intro e (fun z => nomatch z) h
  | @lst a xs ea =>
    cases (show u = Value.ref a from rx)
    obtain ⟨_, _, n, _, h1⟩ := (show ObjOk X.prog X.w H s.heap a (.lst xs) from I.hok a _ ea)
    exact PySem.W.kia_one PySem.W.kitx_list I.kIn ⟨_, h1, rfl⟩ e (fun z => nomatch z) h
  | @frz a ob xs ea =>
    cases (show u = Value.ref a from rx)
    obtain ⟨_, _, _, n, _, h1⟩ := (show ObjOk X.prog X.w H s.heap a (.frz ob (.lst xs)) from I.hok a _ ea)
    exact PySem.W.kia_one PySem.W.kitx_list I.kIn ⟨_, h1, rfl⟩ e (fun z => nomatch z) h
  | @tup a xs ea =>
    cases (show u = Value.ref a from rx)
    obtain ⟨_, _, _, p⟩ := (show ObjOk X.prog X.w H s.heap a (.tup xs) from I.hok a _ ea)
    obtain ⟨o, h1, h2, _⟩ := p
    exact PySem.W.kia_one PySem.W.kitx_tuple I.kIn ⟨o, h1, h2⟩ e (fun z => nomatch z) h
  | @dK a kvs ea =>
    cases (show u = Value.ref a from rx)
    obtain ⟨_, _, vs, _, p⟩ := (show ObjOk X.prog X.w H s.heap a (.dK kvs) from I.hok a _ ea)
    obtain ⟨o, es, ep, h1, h2, _⟩ := p
    exact PySem.W.kia_one PySem.W.kitx_dict I.kIn ⟨o, h1, h2.1⟩ e (fun z => nomatch z) h
  | @dT a kvs ea =>
    cases (show u = Value.ref a from rx)
    obtain ⟨_, _, xs, _, o, es, ep, h1, h2, _⟩ := (show ObjOk X.prog X.w H s.heap a (.dT kvs) from I.hok a _ ea)
    exact PySem.W.kia_one PySem.W.kitx_dict I.kIn ⟨o, h1, h2.1⟩ e (fun z => nomatch z) h
  | @ins a C dx fs ea cl ha hn htk hm =>
    cases (show u = Value.ref a from rx)
    obtain ⟨mA, O, _⟩ := ins_get I.hok ea
    obtain ⟨od, J, _⟩ := O.look
    exact PySem.W.kia_one (PySem.W.kitx_own (cl.get _) cl.hd ha hn htk hm) I.kIn J e (fun z => nomatch z) h
end
end L2
namespace L2
open PySem PySem.Spec PyProof.Rows
structure Room (k : Nat) (A : Around) : Prop where
  hd : A.handled = none
  dp : A.depth + 3 * k + 5 < recursionLimit
  un : A.units + 16 * k + 200 < cLine
theorem Room.mono {j k : Nat} {A : Around} (r : Room k A) (h : j ≤ k) : Room j A := ⟨r.hd, by have := r.dp; (clear r; omega), by have := r.un; (clear r; omega)⟩
theorem Room.deeper {k : Nat} {A : Around} (r : Room (k + 1) A) (env : Env) : Room k (A.deeper env) :=
  ⟨r.hd, by have := r.dp; show A.depth + 1 + 3 * k + 5 < _; (clear r; omega), by have := r.un; show A.units + 3 + 16 * k + 200 < _; (clear r; omega)⟩
theorem make_depth {A : Around} {C : Addr} {us : List Value} {kw : List (Str × Value)} : (A.under (.builtin "type.__call__" ⟨.ref C :: us, kw⟩)).depth = A.depth + 1 := by
  first | rfl | simp [Around.under, Code.weight, Code.isCreation, Code.isGuard, Code.isCaller, Code.frames, Code.isFrame, guardIds]
theorem make_units {A : Around} {C : Addr} {us : List Value} {kw : List (Str × Value)} : (A.under (.builtin "type.__call__" ⟨.ref C :: us, kw⟩)).units = A.units + 1 := by
  first | rfl | simp [Around.under, Code.cUnits, Code.frames, Code.isFrame]
theorem Room.make {k : Nat} {A : Around} (r : Room (k + 1) A) (C : Addr) (us : List Value) (kw : List (Str × Value)) : Room k (A.under (.builtin "type.__call__" ⟨.ref C :: us, kw⟩)) :=
  ⟨r.hd, by have := r.dp; rw [make_depth]; (clear r; omega), by have := r.un; rw [make_units]; (clear r; omega)⟩
theorem Room.depth {k : Nat} {A : Around} (r : Room k A) : A.depth < recursionLimit := by have := r.dp; (clear r; omega)
noncomputable def tNil : TA := fun _ H Q => Q [] H
noncomputable def tCons (ta : TE) (tr : TA) : TA := fun σ H Q => ta σ H fun x H1 => tr σ H1 fun xs H2 => Q (x :: xs) H2
section
variable {X : Cx} {e : Expr} {es : List Expr} {te : TE} {t : TA} {pos : Pos}
theorem pa_nil : PA X [] tNil := fun _ _ _ _ H Q I h => Calls.spliced_nil ⟨[], H, I, .nil, h⟩
theorem pa_cons (ha : PE X e te) (hr : PA X es t) (hs : starEach (e :: es) X.env = (false, eval e X.env) :: starEach es X.env := by rfl) : PA X (e :: es) (tCons te t) := by
  intro pos pins s σ H Q I h
  rw [hs]
  show wpAny _ _ (spliced ((false, eval e X.env) :: backTo pos (starEach es X.env))) _ _ s
  refine Calls.spliced_cons (thn (ha pins s σ H _ I h) fun u s1 ⟨x, H1, I1, r1, q1⟩ => ?_)
  exact thn (hr pos pins s1 σ H1 _ I1 q1) fun us s2 ⟨xs, H2, I2, r2, q2⟩ => ⟨x :: xs, H2, I2, .cons r1 r2, q2⟩
noncomputable def tTup (t : TA) : TE := fun σ H Q => t σ H fun xs H1 => xs.length ≤ sizeLine ∧ ∀ p, H1 p = none → Q (.ref p) (upd H1 p (.tup xs))
noncomputable def tLst (t : TA) : TE := fun σ H Q => t σ H fun xs H1 => xs.length ≤ sizeLine ∧ ∀ p, H1 p = none → Q (.ref p) (upd H1 p (.lst xs))
theorem pe_tup {x1} (h : PA X es t) : PE X (.Tuple es x1 pos) (tTup t) := by
  intro pins s σ H Q I hq
  refine wpAny_Tuple_spliced (thn (h pos pins s σ H _ I hq) fun us s1 ⟨xs, H1, I1, r, z, q⟩ => ⟨by rw [← r.length]; exact z, ?_⟩)
  have hf : H1 s1.heap.objs.size = none := I1.hok.fresh (Nat.le_refl _)
  refine ⟨.ref s1.heap.objs.size, upd H1 s1.heap.objs.size (.tup xs), I1.laid (t' := s1.toks) (fun b u e => Heap.get?_push_of_some _ e) (Nat.le_refl _) ?_, rfl, q _ hf⟩
  exact ⟨z, us, r, ⟨_, Heap.get?_push_size _ rfl, rfl, _, rfl⟩⟩
theorem pe_lst (h : PA X es t) : PE X (.List es pos) (tLst t) := by
  intro pins s σ H Q I hq
  refine wpAny_List_spliced (thn (h pos pins s σ H _ I hq) fun us s1 ⟨xs, H1, I1, r, z, q⟩ => ⟨by rw [← r.length]; exact z, ?_⟩)
  have hf : H1 s1.heap.objs.size = none := I1.hok.fresh (Nat.le_refl _)
  refine ⟨.ref s1.heap.objs.size, upd H1 s1.heap.objs.size (.lst xs), I1.laid (t' := s1.toks) (fun b u e => Heap.get?_push_of_some _ e) (Nat.le_refl _) ?_, rfl, q _ hf⟩
  exact ⟨z, us, 0, r, Heap.get?_push_size _ rfl⟩
end
noncomputable abbrev Sp := List V → Hp → VK → XK → Prop
noncomputable abbrev CXT := List Env → Hp → Shared → XK → Value → Shared → Prop
structure Env0 (P : Program) (w : World) (K : PySem.W.Frag) (mg : Str → Option Value) (base : Heap) (A : Around) (outer : List Env) (s : Shared) (H : Hp) : Prop where
  frames : A.frames = some outer
  mod : Mod K mg base
  bs : ∀ b o, base.get? b = some o → s.heap.get? b = some o ∧ H b = none
  bsz : base.objs.size ≤ s.heap.objs.size
  funs : s.heap.FunFrames base outer
  frf : ∀ b ∈ frs outer, H b = none
  hok : HOk P w H s.heap
  bare : AllBare s.gens
noncomputable def CE (outer : List Env) (P : Program) (w : World) (H : Hp) (s : Shared) (Q : VK) (u : Value) (s' : Shared) : Prop :=
  ∃ v H', s'.os = s.os ∧ AllBare s'.gens ∧ Un (frs outer) [] H H' s.heap s'.heap ∧ HOk P w H' s'.heap ∧ RelV v u ∧ Q v H'
noncomputable def CR (CX : CXT) (outer : List Env) (P : Program) (w : World) (H : Hp) (s : Shared) (Q : VK) (E : XK) (r : Result) (s' : Shared) : Prop :=
  match r with
  | .ok (.ret u) => CE outer P w H s Q u s'
  | .ok _ => False
  | .error e => CX outer H s E e s'
structure FnOk (P : Program) (w : World) (K : PySem.W.Frag) (mg : Str → Option Value) (base : Heap) (CX : CXT) (k : Nat) (f : Addr) (fd : FuncData) (ps : List Str) (sp : Sp) : Prop where
  len : ∀ vs H Q E, sp vs H Q E → vs.length = ps.length
  run : ∀ (A : Around) (outer : List Env) (s : Shared) (H : Hp) (args : Args) (us : List Value) (vs : List V) (Q : VK) (E : XK), Room k A → Env0 P w K mg base A outer s H → BindsTo s fd args (ps.zip us) → Vals vs us → sp vs H Q E →
    codeAny (model P w) A (.call (.ref f) args) (CR CX outer P w H s Q E) s
theorem Env0.make {P : Program} {w : World} {K : PySem.W.Frag} {mg : Str → Option Value} {base : Heap} {A : Around} {outer : List Env} {s : Shared} {H : Hp} (e : Env0 P w K mg base A outer s H) (C : Addr) (us : List Value) (kw : List (Str × Value)) :
    Env0 P w K mg base (A.under (.builtin "type.__call__" ⟨.ref C :: us, kw⟩)) outer s H := ⟨by first | exact e.frames | (simpa [Around.under, Code.envs, Code.isFrame, pushEnvs] using e.frames), e.mod, e.bs, e.bsz, e.funs, e.frf, e.hok, e.bare⟩
section
variable {X : Cx} {pins : List (Addr × Obj)} {σ : St} {H : Hp} {s s' : Shared}
theorem Inv.env0 (I : Inv X pins σ H s) : Env0 X.prog X.w X.K X.mg X.base X.A X.stack s H :=
  ⟨I.ok.frames, I.ok.mod, I.bs, Nat.le_trans I.ok.bsz I.sz, I.stack, I.stkFree, I.hok, I.bare⟩
theorem Inv.after {Q : VK} {u : Value} (I : Inv X pins σ H s) (h : CE X.stack X.prog X.w H s Q u s') : EP X pins σ Q u s' := by
  obtain ⟨v, H', os, bare, un, hok, r, q⟩ := h
  obtain ⟨hh, g, d, t, os'⟩ := s'
  obtain rfl : os' = s.os := os
  exact ⟨v, H', I.call (h' := hh) (g' := g) (d' := d) (t' := t) (ch := []) un hok bare (fun b z => absurd z (by simp)), r, q⟩
end
noncomputable def tCall (sp : Sp) (dvs : List V) (E : XK) (t : TA) : TE := fun σ H Q => t σ H fun vs H1 => sp (vs ++ dvs) H1 Q E
noncomputable def tMeth (C : Addr) (m : Str) (sp : Sp) (dvs : List V) (E : XK) (ta : TE) (t : TA) : TE := fun σ H Q => ta σ H fun x H1 => ∃ a dx fs, x = .ref a ∧ H1 a = some (.ins C dx fs) ∧ fs.lookup m = none ∧
  t σ H1 fun vs H2 => sp (x :: (vs ++ dvs)) H2 Q E
noncomputable def tMake (C : Addr) (sp : Sp) (dvs : List V) (E : XK) (t : TA) : TE := fun σ H Q => t σ H fun vs H1 => ∀ x dx, H1 x = none → H1 dx = none → dx ≠ x →
  sp (.ref x :: (vs ++ dvs)) (upd (upd H1 dx (.own x)) x (.ins C dx [])) (fun v H2 => v = .non ∧ Q (.ref x) H2) E
noncomputable def Binds (K : PySem.W.Frag) (fd : FuncData) (ps : List Str) (ds : List Value) : Prop :=
  ∀ (s : Shared) (us : List Value), K.In s.heap → (us ++ ds).length = ps.length → BindsTo s fd ⟨us, []⟩ (ps.zip (us ++ ds))
theorem Binds.all {K : PySem.W.Frag} {fd : FuncData} {ps : List Str} (h : ∀ us : List Value, us.length = ps.length → bindArgs fd ⟨us, []⟩ = pure (ps.zip us)) : Binds K fd ps [] := fun s us _ hl => by
  rw [List.append_nil] at hl ⊢
  exact .of_eq (h us hl)
noncomputable def Passes (CX : CXT) (X : Cx) (E : XK) : Prop := ∀ (pins : List (Addr × Obj)) (σ : St) (H : Hp) (s : Shared) (e : Value) (s' : Shared), Inv X pins σ H s → CX X.stack H s E e s' → X.xe e s'
section
variable {X : Cx} {CX : CXT} {k : Nat} {f C : Addr} {fd : FuncData} {ps : List Str} {sp : Sp} {dvs : List V} {ds : List Value} {E : XK} {x m : Str} {p pos apos : Pos} {e o : Expr} {es : List Expr} {ta : TE} {t : TA}
theorem run_fn {pins : List (Addr × Obj)} {σ : St} {H : Hp} {s : Shared} {Q : VK} {us : List Value} {vs : List V} (F : FnOk X.prog X.w X.K X.mg X.base CX k f fd ps sp) (hr : Room k X.A) (hb : Binds X.K fd ps ds) (hd : Vals dvs ds) (hx : Passes CX X E)
    (I : Inv X pins σ H s) (r : Vals vs us) (h : sp (vs ++ dvs) H Q E) : wpAny (model X.prog X.w) X.A (call (.ref f) us) (EP X pins σ Q) X.xe s := by
  have r2 : Vals (vs ++ dvs) (us ++ ds) := r.append hd
  have hl : (us ++ ds).length = ps.length := by rw [← r2.length]; exact F.len _ _ _ _ h
  refine wpAny_call (codeAny_mono (F.run X.A X.stack s H ⟨us, []⟩ (us ++ ds) (vs ++ dvs) Q E hr I.env0 (hb s us I.kIn hl) r2 h) fun r s' hq => ?_)
  cases r with
  | error e => exact hx pins σ H s e s' I hq
  | ok fl =>
    cases fl with
    | ret u => exact I.after hq
    | next => exact False.elim hq
    | brk => exact False.elim hq
    | cont => exact False.elim hq
theorem pe_call (F : FnOk X.prog X.w X.K X.mg X.base CX k f fd ps sp) (hr : Room k X.A) (hg : Gl X x) (hm : X.mg x = some (.ref f)) (hk : PySem.W.keepIn X.K (.ref f) = true) (hb : Binds X.K fd ps ds) (hd : Vals dvs ds) (hx : Passes CX X E)
    (ha : PA X (e :: es) t) (hdb : (x == ("__debug__" : Str)) = false := by decide) (he : starEach (e :: es) X.env = (false, eval e X.env) :: starEach es X.env := by rfl) (hpl : (backTo pos (starEach es X.env)).any (·.1) = false := by rfl) :
    PE X (.Call (.Name x p) (e :: es) [] pos) (tCall sp dvs E t) := by
  intro pins s σ H Q I h
  refine wpAny_Call_Name_kw (ld_glob I hg hm ?_ hdb)
  refine PySem.W.callWith_K (h₀ := X.base) I.ok.mod.kin hk (thn (ha pos pins s σ H _ I h) fun us s1 ⟨vs, H1, I1, r, q⟩ => ⟨I1.kIn, ?_⟩) he hpl
  exact run_fn F hr hb hd hx I1 r q
theorem pe_call0 (F : FnOk X.prog X.w X.K X.mg X.base CX k f fd ps sp) (hr : Room k X.A) (hg : Gl X x) (hm : X.mg x = some (.ref f)) (hk : PySem.W.keepIn X.K (.ref f) = true) (hb : Binds X.K fd ps ds) (hd : Vals dvs ds) (hx : Passes CX X E)
    (hdb : (x == ("__debug__" : Str)) = false := by decide) : PE X (.Call (.Name x p) [] [] pos) (tCall sp dvs E tNil) := by
  intro pins s σ H Q I h
  refine wpAny_Call_Name_kw (ld_glob I hg hm ?_ hdb)
  exact PySem.W.callWith_K0 I.kIn hk (run_fn (us := []) F hr hb hd hx I .nil h)
theorem pe_meth0 {pl : Sem Bool} (he : PE X o ta) (c : Cls X.K C) (hm : Meth X.K C m f) (F : FnOk X.prog X.w X.K X.mg X.base CX k f fd ps sp) (hr : Room k X.A) (hb : Binds X.K fd ps ds) (hd : Vals dvs ds) (hx : Passes CX X E)
    (ht : eval (.Call (.Attribute o m apos) [] [] pos) X.env = (do
      let ov ← eval o X.env
      standAt apos.atName
      let (f, first) ← holding [ov] (getMethod ov m pl)
      callWith pos f first (backTo pos (starEach [] X.env)) (backToKw pos (keywordEach [] X.env))) := by rfl) :
    PE X (.Call (.Attribute o m apos) [] [] pos) (tMeth C m sp dvs E ta tNil) := by
  intro pins s σ H Q I h
  refine PySem.W.methodCall_KW (pl := pl) (thn (he pins s σ H _ I h) fun u s1 ⟨x, H1, I1, rx, a, dx, fs, ex, ea, l, q⟩ => ?_) ht
  subst ex
  obtain rfl : u = Value.ref a := rx
  refine getmeth_ok I1 ea c hm l ?_
  exact PySem.W.callWith_K0 (first := [.ref a]) I1.kIn hm.kp (run_fn (us := [.ref a]) (vs := [.ref a]) F hr hb hd hx I1 (.cons rfl .nil) q)
structure Mk (K : PySem.W.Frag) (C f : Addr) : Prop where
  makes : PySem.W.makesIn K C = true
  init : PySem.W.findIn K (.ref C) "__init__" = some (some (.ref f))
  fn : PySem.W.isFn K (.ref f) = true
  kp : PySem.W.keepIn K (.ref C) = true
theorem run_make {pins : List (Addr × Obj)} {σ : St} {H : Hp} {s : Shared} {Q : VK} {us : List Value} {vs : List V} (M : Mk X.K C f) (F : FnOk X.prog X.w X.K X.mg X.base CX k f fd ps sp) (hr : Room (k + 1) X.A) (hb : Binds X.K fd ps ds) (hd : Vals dvs ds)
    (hx : Passes CX X E) (I : Inv X pins σ H s) (r : Vals vs us)
    (h : ∀ x dx, H x = none → H dx = none → dx ≠ x → sp (.ref x :: (vs ++ dvs)) (upd (upd H dx (.own x)) x (.ins C dx [])) (fun v H2 => v = .non ∧ Q (.ref x) H2) E) :
    wpAny (model X.prog X.w) X.A (call (.ref C) us) (EP X pins σ Q) X.xe s := by
  have hq := h (s.heap.objs.size + 1) s.heap.objs.size (I.hok.fresh (Nat.le_succ _)) (I.hok.fresh (Nat.le_refl _)) (Nat.ne_of_lt (Nat.lt_succ_self _))
  have I2 := Inv.made (C := C) I
  have r2 : Vals (V.ref (s.heap.objs.size + 1) :: (vs ++ dvs)) (Value.ref (s.heap.objs.size + 1) :: (us ++ ds)) := .cons rfl (r.append hd)
  have hl : (Value.ref (s.heap.objs.size + 1) :: us ++ ds).length = ps.length := by
    have e := r2.length
    rw [F.len _ _ _ _ hq] at e
    exact e.symm
  refine wpAny_call (make_map (f := f) I.kIn M.makes M.init (beq_iff_eq.mp M.fn) (codeAny_mono (F.run _ X.stack _ _ ⟨Value.ref (s.heap.objs.size + 1) :: us, []⟩ (Value.ref (s.heap.objs.size + 1) :: (us ++ ds)) _ _ E (hr.make C us [])
    (I2.env0.make C us []) (hb _ (Value.ref (s.heap.objs.size + 1) :: us) I2.kIn hl) r2 hq) fun r s' hq' => ?_))
  cases r with
  | error e => exact hx pins σ _ _ e s' I2 hq'
  | ok fl =>
    cases fl with
    | ret u =>
      obtain ⟨v, H', I3, rv, ev, q3⟩ := I2.after hq'
      subst ev
      exact ⟨rv, ⟨V.ref (s.heap.objs.size + 1), H', I3, rfl, q3⟩⟩
    | next => exact False.elim hq'
    | brk => exact False.elim hq'
    | cont => exact False.elim hq'
theorem pe_make (M : Mk X.K C f) (F : FnOk X.prog X.w X.K X.mg X.base CX k f fd ps sp) (hr : Room (k + 1) X.A) (hg : Gl X x) (hm : X.mg x = some (.ref C)) (hb : Binds X.K fd ps ds) (hd : Vals dvs ds) (hx : Passes CX X E)
    (ha : PA X (e :: es) t) (hdb : (x == ("__debug__" : Str)) = false := by decide) (he : starEach (e :: es) X.env = (false, eval e X.env) :: starEach es X.env := by rfl) (hpl : (backTo pos (starEach es X.env)).any (·.1) = false := by rfl) :
    PE X (.Call (.Name x p) (e :: es) [] pos) (tMake C sp dvs E t) := by
  intro pins s σ H Q I h
  refine wpAny_Call_Name_kw (ld_glob I hg hm ?_ hdb)
  refine PySem.W.callWith_K (h₀ := X.base) I.ok.mod.kin M.kp (thn (ha pos pins s σ H _ I h) fun us s1 ⟨vs, H1, I1, r, q⟩ => ⟨I1.kIn, ?_⟩) he hpl
  exact run_make M F hr hb hd hx I1 r q
end
section
variable {X : Cx} {CX : CXT} {k : Nat} {f C : Addr} {fd : FuncData} {ps ks : List Str} {sp : Sp} {E : XK} {x m : Str} {p pos apos kpos : Pos} {e o : Expr} {es : List Expr} {kws : List Keyword} {te ta : TE} {t tk : TA} {nm : Option Str}
structure KBinds (K : PySem.W.Frag) (fd : FuncData) (ps ks : List Str) (g : List Value → List Value → List Value) (gV : List V → List V → List V) : Prop where
  to : ∀ (s : Shared) (us ws : List Value), K.In s.heap → (g us ws).length = ps.length → BindsTo s fd ⟨us, ks.zip ws⟩ (ps.zip (g us ws))
  rel : ∀ {vs : List V} {us : List Value} {zs : List V} {ws : List Value}, Vals vs us → Vals zs ws → Vals (gV vs zs) (g us ws)
variable {g : List Value → List Value → List Value} {gV : List V → List V → List V}
end
structure FnScope (N P : List Str) (sc : Scope) : Prop where
  kind : sc.kind = .function
  co : sc.isCoroutine = false
  gen : sc.isGenerator = false
  nd : N.Nodup
  pre : N.take P.length = P
  par : ∀ x ∈ P, sc.names.lookup x = some .local ∨ sc.names.lookup x = some .cell
  nofree : ∀ y ∈ sc.names, y.2 ≠ .free
theorem bindL_out {kindOf : Str → Option NameKind} {x : Str} : ∀ {binds : List (Str × Value)} {m : Str → Option Value}, (∀ v, (x, v) ∉ binds) → bindL kindOf binds m x = m x
  | [], _, _ => rfl
  | (n, v) :: r, m, h => by
    unfold bindL
    rw [bindL_out fun w hw => h w (List.mem_cons_of_mem _ hw)]
    split
    · have : x ≠ n := by rintro rfl; exact h v List.mem_cons_self
      simp [this]
    · rfl
theorem bindC_out {kindOf : Str → Option NameKind} {x : Str} : ∀ {binds : List (Str × Value)} {m : Str → Option Value}, (∀ v, (x, v) ∉ binds) → bindC kindOf binds m x = m x
  | [], _, _ => rfl
  | (n, v) :: r, m, h => by
    unfold bindC
    rw [bindC_out fun w hw => h w (List.mem_cons_of_mem _ hw)]
    split
    · rfl
    · have : x ≠ n := by rintro rfl; exact h v List.mem_cons_self
      simp [this]
theorem bindL_get {kindOf : Str → Option NameKind} {x : Str} {v : Value} : ∀ {P : List Str} {vs : List Value} {i : Nat} {m : Str → Option Value}, P.Nodup → P[i]? = some x → vs[i]? = some v → kindOf x = some .local →
    bindL kindOf (P.zip vs) m x = some v
  | [], _, _, _, _, h, _, _ => by simp at h
  | _ :: _, [], _, _, _, _, h, _ => by simp at h
  | p :: P, w :: vs, 0, m, nd, h1, h2, hk => by
    simp at h1 h2; subst h1; subst h2
    show bindL kindOf ((p, w) :: P.zip vs) m p = _
    unfold bindL
    rw [bindL_out fun v hv => (List.nodup_cons.mp nd).1 (List.of_mem_zip hv).1, if_pos hk]
    simp
  | p :: P, w :: vs, i + 1, m, nd, h1, h2, hk => by
    show bindL kindOf ((p, w) :: P.zip vs) m x = _
    unfold bindL
    exact bindL_get (i := i) (List.nodup_cons.mp nd).2 (by simpa using h1) (by simpa using h2) hk
theorem bindC_get {kindOf : Str → Option NameKind} {x : Str} {v : Value} : ∀ {P : List Str} {vs : List Value} {i : Nat} {m : Str → Option Value}, P.Nodup → P[i]? = some x → vs[i]? = some v → kindOf x ≠ some .local →
    bindC kindOf (P.zip vs) m x = some v
  | [], _, _, _, _, h, _, _ => by simp at h
  | _ :: _, [], _, _, _, _, h, _ => by simp at h
  | p :: P, w :: vs, 0, m, nd, h1, h2, hk => by
    simp at h1 h2; subst h1; subst h2
    show bindC kindOf ((p, w) :: P.zip vs) m p = _
    unfold bindC
    rw [bindC_out fun v hv => (List.nodup_cons.mp nd).1 (List.of_mem_zip hv).1, if_neg hk]
    simp
  | p :: P, w :: vs, i + 1, m, nd, h1, h2, hk => by
    show bindC kindOf ((p, w) :: P.zip vs) m x = _
    unfold bindC
    exact bindC_get (i := i) (List.nodup_cons.mp nd).2 (by simpa using h1) (by simpa using h2) hk
noncomputable def start (N : List Str) (vs : List V) : St := vs.map some ++ List.replicate (N.length - vs.length) none
noncomputable def cxOf (CX : CXT) (P : Program) (w : World) (K : PySem.W.Frag) (mg : Str → Option Value) (base : Heap) (N : List Str) (qual : Str) (scope : Scope) (f : Addr) (cd : Value) (A : Around) (outer : List Env) (s : Shared) (H : Hp) (E : XK) : Cx where
  prog := P
  w := w
  K := K
  mg := mg
  base := base
  A := A.deeper (envOfC qual scope s.heap.objs.size f cd)
  N := N
  s₀ := s
  H₀ := H
  env := envOfC qual scope s.heap.objs.size f cd
  outer := outer
  stack := envOfC qual scope s.heap.objs.size f cd :: outer
  ex := []
  calm := true
  fn := fun _ => true
  pn := []
  xe := fun e s' => wpAny (model P w) (A.deeper (envOfC qual scope s.heap.objs.size f cd)) (leaving (envOfC qual scope s.heap.objs.size f cd) e) (fun _ s'' => CX outer H s E e s'') (fun e' s'' => CX outer H s E e' s'') s'
theorem cell_has {sc : Scope} {n : Nat} {x : Str} (h : sc.names.lookup x = some .cell) : ∃ c, (cellsFrom n sc.names []).lookup x = some c := by
  have q := PySem.W.cellsFrom_some sc.names n [] (.inl h)
  exact Option.isSome_iff_exists.mp q
theorem inv_start {CX : CXT} {P : Program} {w : World} {K : PySem.W.Frag} {mg : Str → Option Value} {base : Heap} {N ps : List Str} {qual : Str} {scope : Scope} {f : Addr} {cd : Value} {A : Around} {outer : List Env} {s s1 : Shared} {H : Hp} {E : XK} {us : List Value} {vs : List V}
    (S : FnScope N ps scope) (hd : A.handled = none) (e0 : Env0 P w K mg base A outer s H) (hl : vs.length = ps.length) (r : Vals vs us)
    (x : InCallC s s.heap.objs.size (bindL (envOfC qual scope s.heap.objs.size f cd).kindOf (ps.zip us) fun _ => none) (cellsFrom (s.heap.objs.size + 1) scope.names []) (bindC (envOfC qual scope s.heap.objs.size f cd).kindOf (ps.zip us) fun _ => none) s1) :
    Inv (cxOf CX P w K mg base N qual scope f cd A outer s H E) [] (start N vs) H s1 := by
  have hpl : ps.length ≤ N.length := by have := congrArg List.length S.pre; rw [List.length_take] at this; (clear S hd e0 hl r x; omega)
  obtain ⟨h1, tk, rfl, hk⟩ := x.done
  have noA : ∀ b : Addr, b ∉ (cxOf CX P w K mg base N qual scope f cd A outer s H E).ex := fun b z => absurd (show b ∈ ([] : List Addr) from z) (by simp)
  refine ⟨⟨e0.mod, S.kind, rfl, rfl, Nat.le_refl _, fun y z c h1 h2 => ?_, fun y hy => ?_, fun y c _ h => ?_, fun _ => hd, Around.frames_deeper e0.frames, .inr ⟨rfl, rfl⟩, fun b z => absurd z (noA b), e0.bs, e0.bsz, fun b _ _ => noA b, fun b z => absurd z (noA b), e0.funs, e0.frf⟩,
    rfl, e0.bare, Un.kept hk, ⟨_, x.toInCall.ns, fun i y v h1 h2 h3 => ?_⟩, fun y c h => ⟨_, x.cell y c h⟩, e0.hok.fresh (Nat.le_refl _), fun y c h => ?_, fun p hp => absurd (show p ∈ ([] : List (Addr × Obj)) from hp) (by simp), e0.hok.kept hk, ?_⟩
  · exact name_of_addr x.apart (PySem.mem_of_lookup h1) (PySem.mem_of_lookup h2)
  · have hy : scope.names.lookup y = some .cell ∨ scope.names.lookup y = some .free := hy
    rcases hy with hy | hy
    · exact cell_has hy
    · exact absurd rfl (S.nofree _ (PySem.mem_of_lookup hy))
  · exact Nat.le_of_lt (x.above y c (PySem.mem_of_lookup h))
  · have hi : i < vs.length := by
      unfold start at h2
      by_cases hi : i < vs.length
      · exact hi
      · rw [List.getElem?_append_right (by simpa using hi)] at h2
        rw [List.getElem?_replicate] at h2
        split at h2 <;> cases h2
    have ha : vs[i]? = some v := by
      unfold start at h2
      rw [List.getElem?_append_left (by simpa using hi), List.getElem?_map] at h2
      cases e : vs[i]? with
      | none => rw [e] at h2; cases h2
      | some a => rw [e] at h2; cases h2; rfl
    obtain ⟨u, hu, rv⟩ := r.get ha
    have hp : ps[i]? = some y := by
      rw [← S.pre, List.getElem?_take_of_lt (by (clear S hd e0 r hpl hk x noA h1 h2 h3 ha hu rv; omega))]; exact h1
    have ndP : ps.Nodup := by rw [← S.pre]; exact S.nd.sublist (List.take_sublist _ _)
    refine ⟨u, rv, ?_⟩
    rcases S.par y (List.mem_of_getElem? hp) with k | k
    · exact .inl ⟨k, bindL_get ndP hp hu k⟩
    · obtain ⟨c, e⟩ := cell_has (n := s.heap.objs.size + 1) k
      refine .inr ⟨.inl k, c, e, ?_⟩
      have q := x.cell y c e
      rw [bindC_get ndP hp hu (by show scope.names.lookup y ≠ _; rw [k]; decide)] at q
      exact q
  · exact e0.hok.fresh (Nat.le_of_lt (x.above y c (PySem.mem_of_lookup h)))
  · unfold start
    show _ = N.length
    rw [List.length_append, List.length_map, List.length_replicate]
    (clear S hd e0 r hk x noA; omega)
theorem fn_of {CX : CXT} {P : Program} {w : World} {K : PySem.W.Frag} {mg : Str → Option Value} {base : Heap} {k : Nat} {f : Addr} {name qual : Str} {params : Arguments} {body : List Stmt} {scope : Scope} {dV kV doc pm cdv ct oc : Value} {an od : Option Addr}
    {osl : Array (Option Value)} {N ps : List Str} {sp : Sp} (lk : K.lookup f = some ⟨oc, od, .func (PySem.W.fnOf name qual params body scope dV kV doc pm an cdv ct), osl⟩) (hcd : PySem.W.codeIn K cdv qual = true) (S : FnScope N ps scope)
    (len : ∀ vs H Q E, sp vs H Q E → vs.length = ps.length)
    (hbody : ∀ (A : Around) (outer : List Env) (s : Shared) (H : Hp) (vs : List V) (Q : VK) (E : XK), Room k (A.deeper (envOfC qual scope s.heap.objs.size f cdv)) → sp vs H Q E →
      ∃ t, PSs (cxOf CX P w K mg base N qual scope f cdv A outer s H E) body t ∧ t { nx := fun _ H' => Q .non H', rt := Q } (start N vs) H) :
    FnOk P w K mg base CX (k + 1) f (PySem.W.fnOf name qual params body scope dV kV doc pm an cdv ct) ps sp := by
  refine ⟨len, fun A outer s H args us vs Q E hr e0 hb r hsp => ?_⟩
  have hl := len _ _ _ _ hsp
  have KX : K.In s.heap := e0.mod.kin.keeps fun b o e => (e0.bs b o e).1
  have lim : s.heap.NoLimit := e0.mod.nolimit.keeps fun b o e => (e0.bs b o e).1
  have hkind : ∀ y ∈ ps.zip us, scope.names.lookup y.1 = some .local ∨ (scope.names.lookup y.1 = some .cell ∧ ((cellsFrom (s.heap.objs.size + 1) scope.names []).lookup y.1).isSome = true) := fun ⟨n, v⟩ hy => by
    rcases S.par n (List.of_mem_zip hy).1 with q | q
    · exact .inl q
    · exact .inr ⟨q, PySem.W.cellsFrom_some _ _ _ (.inl q)⟩
  refine codeAny_call_function hr.depth (KX _ _ lk) rfl S.co S.gen rfl (PySem.W.codeRec_of KX hcd) (hb _ _ _ _ ?_)
  refine wpAny_newFunctionEnv_cells S.kind hkind fun env he s1 x => ?_
  subst he
  refine ⟨lim.keeps x.toInCall.keep, codeAny_func ?_⟩
  obtain ⟨t, ht, hq⟩ := hbody A outer s H vs Q E (hr.deeper _) hsp
  have I : Inv (cxOf CX P w K mg base N qual scope f cdv A outer s H E) [] (start N vs) H s1 := inv_start S hr.hd e0 hl r x
  refine wpAny_mono (ht [] s1 (start N vs) H _ I hq) (fun fl s' hs => ?_) fun e s' hs => hs
  have fin : ∀ {σ' : St} {H' : Hp} {v : V} {u : Value}, Inv (cxOf CX P w K mg base N qual scope f cdv A outer s H E) [] σ' H' s' → RelV v u → Q v H' → CE outer P w H s Q u s' :=
    fun {σ' H' v u} J rv q => ⟨v, H', J.os, J.bare, J.base, J.hok, rv, q⟩
  cases fl with
  | ret u =>
    obtain ⟨v, σ', H', J, rv, q⟩ := hs
    exact fin J rv q
  | next =>
    obtain ⟨σ', H', J, q⟩ := hs
    exact fin (v := V.non) (u := Value.none) J rfl q
  | brk =>
    obtain ⟨_, _, _, q⟩ := hs
    exact False.elim q
  | cont =>
    obtain ⟨_, _, _, q⟩ := hs
    exact False.elim q
end L2
namespace L2
open PySem PySem.Spec PyProof.Rows
section
variable {X : Cx} {x : Str} {p pos : Pos} {e : Expr} {es : List Expr} {t : TA} {id T : String} {r : List V → Hp → VK → Prop}
noncomputable def tCB (r : List V → Hp → VK → Prop) (t : TA) : TE := fun σ H Q => t σ H fun vs H1 => r vs H1 Q
theorem pe_callB (hc : CallR X (.builtin id) r) (hg : Gl X x) (hm : X.mg x = none) (hv : bootBuiltins x = some (.builtin id)) (ha : PA X (e :: es) t) (hn : x ≠ "__name__" := by decide) (hdb : (x == ("__debug__" : Str)) = false := by decide)
    (he : starEach (e :: es) X.env = (false, eval e X.env) :: starEach es X.env := by rfl) (hpl : (backTo pos (starEach es X.env)).any (·.1) = false := by rfl) : PE X (.Call (.Name x p) (e :: es) [] pos) (tCB r t) := by
  intro pins s σ H Q I h
  refine wpAny_Call_Name_kw (ld_blt I hg hm hv ?_ hn hdb)
  exact PyProof.Rows.callWith_builtin1 (thn (ha pos pins s σ H _ I h) fun us s1 ⟨vs, H1, I1, r1, q1⟩ => hc pins s1 σ H1 vs us Q I1 r1 q1) he hpl
theorem pe_callTy (hc : CallR X (.type T) r) (hg : Gl X x) (hm : X.mg x = none) (hv : bootBuiltins x = some (.type T)) (ha : PA X (e :: es) t) (hn : x ≠ "__name__" := by decide) (hdb : (x == ("__debug__" : Str)) = false := by decide)
    (he : starEach (e :: es) X.env = (false, eval e X.env) :: starEach es X.env := by rfl) (hpl : (backTo pos (starEach es X.env)).any (·.1) = false := by rfl) : PE X (.Call (.Name x p) (e :: es) [] pos) (tCB r t) := by
  intro pins s σ H Q I h
  refine wpAny_Call_Name_kw (ld_blt I hg hm hv ?_ hn hdb)
  exact PyProof.Rows.callWith_type1 (thn (ha pos pins s σ H _ I h) fun us s1 ⟨vs, H1, I1, r1, q1⟩ => hc pins s1 σ H1 vs us Q I1 r1 q1) he hpl
end
end L2
namespace HT
open PySem PyProof.Rows
theorem rcLt_int (A : Around) (s : Shared) (a : Int) (t : Tok) (c : Int) (u : Tok) (prog : Program) (w : World) (E : Value → Shared → Prop) (Q : Value → Shared → Prop) (h : Q (.bool (decide (a < c))) s) :
    wpAny (model prog w) A (richCompare .Lt (.int a t) (.int c u)) Q E s :=
  (PyProof.Rows.lt_int h : wpAny (model prog w) A (compareOp .Lt (.int a t) (.int c u)) Q E s)
section
open PySem.SeqAt
open PySem.AutoSeq1 (wpAny_loadPart')
open PySem.MeetsSeq PySem.MeetsSeq2 PySem.MeetsSeq3
end
section
variable {prog : Program} {w : World} {A : Around} {E : Value → Shared → Prop} {s : Shared}
theorem cat_tup {t b : Addr} {vs ws : List Value} {Q : Value → Shared → Prop} (ht : IsTup s.heap t vs.toArray) (hb : IsTup s.heap b ws.toArray) (hv : vs ≠ [])
    (h1 : ws = [] → Q (.ref t) s) (h2 : ws ≠ [] → Q (.ref s.heap.objs.size) { s with heap := s.heap.push { cls := .type "tuple", data := .seq (vs ++ ws).toArray } })
    (hsz : vs.length + ws.length ≤ sizeLine) : wpAny (model prog w) A (binaryOp .Add (.ref t) (.ref b)) Q E s := by
  obtain ⟨⟨cls, dd, data, sl⟩, ho, hc, n, hd⟩ := id ht
  obtain ⟨⟨cls2, dd2, data2, sl2⟩, ho2, hc2, n2, hd2⟩ := id hb
  simp only at hc hd hc2 hd2
  subst hc hd hc2 hd2
  have e : vs.toArray ++ ws.toArray = (vs ++ ws).toArray := by simp
  by_cases hw : ws = []
  · exact concat_meets ⟨_, ho, rfl⟩ ⟨_, ho2, rfl⟩ noFill_tuple_add seq_tuple_add PySem.F.slot_tuple_add PySem.F.entry_tuple_add (PySem.F.args_tuple_add_2 _ _)
      (tuple_addW1 t b vs.toArray ws.toArray n n2 dd dd2 sl sl2 (by simpa using hv) (by simp [hw])) ⟨ho, ho2, h1 hw⟩
  · refine concat_meets ⟨_, ho, rfl⟩ ⟨_, ho2, rfl⟩ noFill_tuple_add seq_tuple_add PySem.F.slot_tuple_add PySem.F.entry_tuple_add (PySem.F.args_tuple_add_2 _ _)
      (tuple_addW2 t b vs.toArray ws.toArray n n2 dd dd2 sl sl2 (by simpa using hv) (by simpa using hw) (by rw [List.size_toArray, List.size_toArray]; exact hsz)) ⟨ho, ho2, ?_⟩
    rw [e]
    exact h2 hw
noncomputable def sIx (n d : Nat) : Option Int → Nat
  | none => d
  | some v => if v < 0 then (v + (n : Int)).toNat else min v.toNat n
theorem sIx_none (n d : Nat) : sIx n d none = d := rfl
theorem sIx_nat (n d k : Nat) : sIx n d (some (k : Int)) = min k n := by
  show (if (k : Int) < 0 then ((k : Int) + (n : Int)).toNat else min (k : Int).toNat n) = min k n
  rw [if_neg (by omega), Int.toNat_natCast]
theorem sIx_le (n d : Nat) (hd : d ≤ n) (o : Option Int) : sIx n d o ≤ n := by
  cases o with
  | none => exact hd
  | some v =>
    show (if v < 0 then (v + (n : Int)).toNat else min v.toNat n) ≤ n
    by_cases hv : v < 0
    · rw [if_pos hv]; omega
    · rw [if_neg hv]; exact Nat.min_le_right _ _
theorem clip_eq (v : Int) (n d : Nat) : (if v < 0 then max (v + (n : Int)) 0 else min v (n : Int)) = ((sIx n d (some v) : Nat) : Int) := by
  show (if v < 0 then max (v + (n : Int)) 0 else min v (n : Int)) = (((if v < 0 then (v + (n : Int)).toNat else min v.toNat n) : Nat) : Int)
  by_cases hv : v < 0
  · simp only [if_pos hv]; (clear hv; omega)
  · simp only [if_neg hv]; omega
theorem adjust_gen (lo hi : Option Int) (n : Nat) : Builtin.Slice.sliceAdjust lo hi 1 (n : Int) = (((sIx n 0 lo : Nat) : Int), ((sIx n n hi : Nat) : Int)) := by
  have h1 : ¬ ((1 : Int) < 0) := by omega
  unfold Builtin.Slice.sliceAdjust
  simp only [h1, if_false]
  refine Prod.ext ?_ ?_
  · cases lo with
    | none => rfl
    | some v => exact clip_eq v n 0
  · cases hi with
    | none => rfl
    | some v => exact clip_eq v n n
theorem places_gen (i j : Nat) : Builtin.Slice.slicePlaces (i : Int) (j : Int) 1 = j - i := by
  unfold Builtin.Slice.slicePlaces
  have h1 : (1 : Int) > 0 := by omega
  simp only [h1, if_true, Int.ediv_one]
  split <;> (clear h1; omega)
theorem slicePart_ {v : Value} {o : Option Int} {Q : Option Int → Shared → Prop} (p : IsPart v o) (h : Q o s) : wpAny (model prog w) A (Builtin.Slice.slicePartIndex v) Q E s := by
  cases p with
  | none => exact slicePart_none h
  | int i t => exact slicePart_int h
theorem sliceApplied_gen {sl : Addr} {vl vu : Value} {lo hi : Option Int} {n : Nat} {Q : Int × Int × Nat → Shared → Prop} (hs : s.heap.IsSliceOf sl vl vu .none) (pl : IsPart vl lo) (pu : IsPart vu hi)
    (h : Q (((sIx n 0 lo : Nat) : Int), 1, sIx n n hi - sIx n 0 lo) s) : wpAny (model prog w) A (Builtin.Slice.sliceApplied (.ref sl) (pure (n : Int))) Q E s := by
  obtain ⟨os, hos, hcs, hds⟩ := id hs
  unfold Builtin.Slice.sliceApplied Builtin.Slice.sliceFields
  refine wpAny_bind (wpAny_bind (wpAny_field hos hds (x := vl) rfl (wpAny_bind (wpAny_field hos hds (x := vu) rfl (wpAny_bind (wpAny_field hos hds (x := .none) rfl (wpAny_pure ?_)))))))
  refine wpAny_bind (slicePart_none ?_)
  show wpAny _ _ (if ((1 : Int) == 0) = true then _ else _) _ _ s
  rw [if_neg (by decide)]
  refine wpAny_bind (slicePart_ pl (wpAny_bind (slicePart_ pu (wpAny_bind (wpAny_pure ?_)))))
  show wpAny _ _ (match Builtin.Slice.sliceAdjust lo hi 1 (n : Int) with | (lo, hi) => pure (lo, (1 : Int), Builtin.Slice.slicePlaces lo hi 1)) _ _ s
  rw [adjust_gen lo hi n]
  show wpAny _ _ (pure (((sIx n 0 lo : Nat) : Int), (1 : Int), Builtin.Slice.slicePlaces ((sIx n 0 lo : Nat) : Int) ((sIx n n hi : Nat) : Int) 1)) _ _ s
  rw [places_gen]
  exact wpAny_pure h
theorem pick_gen (xs : Array Value) (i k : Nat) : ((List.range k).filterMap fun (m : Nat) => xs[((i : Int) + (m : Int) * 1).toNat]?).toArray = ((xs.toList.drop i).take k).toArray := by
  have e : (fun (m : Nat) => xs[((i : Int) + (m : Int) * 1).toNat]?) = fun m => xs[i + m]? := by
    funext m
    have : ((i : Int) + (m : Int) * 1).toNat = i + m := by omega
    rw [this]
  rw [e]
  have := pick_run xs i k
  rw [List.filterMap_map] at this
  have e2 : ((fun x => xs[x]?) ∘ fun x => i + x) = fun m => xs[i + m]? := rfl
  rw [e2] at this
  rw [this]
theorem getItem_tuple_cut {t sl : Addr} {items : Array Value} {vl vu : Value} {lo hi : Option Int} {Q : Value → Shared → Prop} (ht : IsTup s.heap t items) (hs : s.heap.IsSliceOf sl vl vu .none) (pl : IsPart vl lo) (pu : IsPart vu hi)
    (hw : ¬ (sIx items.size 0 lo = 0 ∧ sIx items.size items.size hi = items.size))
    (h : Q (.ref s.heap.objs.size) { s with heap := s.heap.push { cls := .type "tuple", data := .seq ((items.toList.drop (sIx items.size 0 lo)).take (sIx items.size items.size hi - sIx items.size 0 lo)).toArray } })
    (hsz : items.size ≤ sizeLine) : wpAny (model prog w) A (getItem (.ref t) (.ref sl)) Q E s := by
  have htake : sizeOk (.seq ((items.toList.drop (sIx items.size 0 lo)).take (sIx items.size items.size hi - sIx items.size 0 lo)).toArray) := by
    show ((items.toList.drop (sIx items.size 0 lo)).take (sIx items.size items.size hi - sIx items.size 0 lo)).toArray.size ≤ sizeLine
    rw [List.size_toArray, List.length_take, List.length_drop, Array.length_toList]
    (clear ht hs pl pu hw h; omega)
  have hj : sIx items.size items.size hi ≤ items.size := sIx_le _ _ (Nat.le_refl _) hi
  obtain ⟨os, hos, hcs, hds⟩ := id hs
  have hTs : s.TypeIs (.ref sl) "slice" := ⟨os, hos, hcs⟩
  unfold getItem
  try with_reducible refine wpAny_holding ?_
  first | refine wpAny_bind (wpAny_pure ?_) | skip
  refine wpAny_bind (wpAny_sequenceKey ht.typeIs (by decide) ?_)
  refine wpAny_bind (wpAny_callSpecial?_slot (name := Str.ofString "__getitem__") ht.typeIs PyProof.Rows.slot_tuple_getitem
    (wpAny_call_entry PyProof.Rows.slot_tuple_getitem ht.typeIs entry_tuple_getitem ?_ (args_tuple_getitem _ _)))
  show wpAny _ _ (Builtin.Tuple.tupleItemsOf (.ref t) >>= _) _ _ s
  refine wpAny_bind (tupleItemsOf_ ht ?_)
  refine wpAny_bind (wpAny_typeOf hTs ?_)
  rw [if_pos (by decide)]
  refine wpAny_bind (sliceApplied_gen hs pl pu ?_)
  have hno : ¬ ((((sIx items.size 0 lo : Nat) : Int) == 0 && (1 : Int) == 1 && (sIx items.size items.size hi - sIx items.size 0 lo) == items.size) = true) := by
    intro q
    rw [Bool.and_eq_true, Bool.and_eq_true] at q
    have q1 : ((sIx items.size 0 lo : Nat) : Int) = 0 := eq_of_beq q.1.1
    have q2 : sIx items.size items.size hi - sIx items.size 0 lo = items.size := eq_of_beq q.2
    exact hw ⟨by (clear ht hs pl pu hw h hsz htake hj hos hcs hds hTs q q2; omega), by (clear ht hs pl pu hw h hsz htake hos hcs hds hTs q; omega)⟩
  show wpAny _ _ (if (((sIx items.size 0 lo : Nat) : Int) == 0 && (1 : Int) == 1 && (sIx items.size items.size hi - sIx items.size 0 lo) == items.size) = true then _ else _) _ _ s
  rw [if_neg hno, pick_gen]
  first
    | exact wpAny_bind (m := Builtin.Tuple.tupleExact _) (wpAny_newObj_type (wpAny_pure ⟨_, rfl, wpAny_pure h⟩) htake)
    | exact wpAny_bind (m := Builtin.Tuple.tupleExact _) (wpAny_newObj_type (wpAny_bind (wpAny_pure (wpAny_pure ⟨_, rfl, wpAny_pure h⟩))) htake)
    | exact wpAny_bind (wpAny_bind (m := Builtin.Tuple.tupleExact _) (wpAny_newObj_type (wpAny_pure (wpAny_pure ⟨_, rfl, wpAny_pure h⟩)) htake))
    | exact wpAny_bind (wpAny_bind (m := Builtin.Tuple.tupleExact _) (wpAny_newObj_type (wpAny_pure ⟨_, rfl, wpAny_pure h⟩) htake))
end
end HT
namespace L2
open PySem PySem.Spec PyProof.Rows
noncomputable abbrev TO := St → Hp → (Option Int → Hp → Prop) → Prop
noncomputable def PO (X : Cx) (e : Option Expr) (t : TO) : Prop :=
  ∀ (pins : List (Addr × Obj)) (s : Shared) (σ : St) (H : Hp) (Q : Option Int → Hp → Prop), Inv X pins σ H s → t σ H Q →
    wpAny (model X.prog X.w) X.A (evalPart e X.env) (fun u s' => ∃ o H', Inv X pins σ H' s' ∧ IsPart u o ∧ Q o H') X.xe s
noncomputable def tNoPart : TO := fun _ H Q => Q none H
noncomputable def tPart (t : TE) : TO := fun σ H Q => t σ H fun x H1 => ∃ i, x = .int i ∧ Q (some i) H1
theorem intsAre_of {ns : List Int} : ∀ {us : List Value}, Vals (ns.map V.int) us → IntsAre us ns := by
  induction ns with
  | nil => intro us r; rw [List.map_nil] at r; cases r; exact .nil
  | cons n ns ih =>
    intro us r
    rw [List.map_cons] at r
    cases r with
    | cons r1 r2 =>
      obtain ⟨t, e⟩ := r1
      subst e
      exact .cons n t (ih r2)
section
variable {X : Cx} {e : Expr} {te : TE} {lo hi : Option Expr} {tl th : TO} {pos p2 : Pos}
theorem po_none : PO X none tNoPart := by
  intro pins s σ H Q I h
  rw [evalPart_none]
  exact wpAny_pure ⟨none, H, I, .none, h⟩
theorem po_some (h : PE X e te) : PO X (some e) (tPart te) := by
  intro pins s σ H Q I hw
  rw [evalPart_some]
  refine thn (h pins s σ H _ I hw) fun u s1 ⟨x, H1, I1, r1, q1⟩ => ?_
  obtain ⟨i, rfl, q⟩ := q1
  obtain ⟨t, rfl⟩ := r1
  exact ⟨some i, H1, I1, .int i t, q⟩
noncomputable def SlR (X : Cx) (r : V → Option Int → Option Int → Hp → VK → Prop) : Prop :=
  ∀ (pins : List (Addr × Obj)) (s : Shared) (σ : St) (H : Hp) (x : V) (v vl vu : Value) (lo hi : Option Int) (sl : Addr) (Q : VK), Inv X pins σ H s → RelV x v → s.heap.IsSliceOf sl vl vu .none → IsPart vl lo → IsPart vu hi → r x lo hi H Q →
    ∃ T id, typeLookup (.type T) "__getitem__" = pure (some (.builtin id)) ∧ s.TypeIs v T ∧ wpAny (model X.prog X.w) X.A (getItem v (.ref sl)) (EP X pins σ Q) X.xe s
noncomputable def tSl (r : V → Option Int → Option Int → Hp → VK → Prop) (te : TE) (tl th : TO) : TE := fun σ H Q => te σ H fun x H1 => tl σ H1 fun l H2 => th σ H2 fun u H3 => r x l u H3 Q
theorem pe_slice {r : V → Option Int → Option Int → Hp → VK → Prop} (hr : SlR X r) (he : PE X e te) (hl : PO X lo tl) (hu : PO X hi th) : PE X (.Subscript e (.Slice lo hi none p2) pos) (tSl r te tl th) := by
  intro pins s σ H Q I h
  refine Subscript_ (thn (he pins s σ H _ I h) fun v s1 ⟨x, H1, I1, r1, q1⟩ => ?_)
  refine wpAny_Slice (thn (hl pins s1 σ H1 _ I1 q1) fun vl s2 ⟨l, H2, I2, pl, q2⟩ => thn (hu pins s2 σ H2 _ I2 q2) fun vu s3 ⟨u, H3, I3, pu, q3⟩ => ?_)
  rw [evalPart_none]
  refine wpAny_pure ?_
  have I4 : Inv X pins σ H3 { s3 with heap := s3.heap.push { cls := .type "slice", data := .fields #[vl, vu, .none] } } := I3.kept (t' := s3.toks) fun b ob q => Heap.get?_push_of_some _ q
  obtain ⟨T, id, hT, ht, hg⟩ := hr pins { s3 with heap := s3.heap.push { cls := .type "slice", data := .fields #[vl, vu, .none] } } σ H3 x v vl vu l u s3.heap.objs.size Q I4 r1 (Heap.IsSliceOf.new ..) pl pu q3
  show wpAny (model X.prog X.w) X.A (subscriptTail e (.Slice lo hi none p2) v (.ref s3.heap.objs.size)) (EP X pins σ Q) X.xe { s3 with heap := s3.heap.push { cls := .type "slice", data := .fields #[vl, vu, .none] } }
  exact tail_any (ops := [.ref s3.heap.objs.size, v]) ht hT hg (by with_unfolding_all rfl)
noncomputable def cutV (xs : List V) (lo hi : Option Int) : List V := (xs.drop (HT.sIx xs.length 0 lo)).take (HT.sIx xs.length xs.length hi - HT.sIx xs.length 0 lo)
theorem cutV_length (xs : List V) (lo hi : Option Int) : (cutV xs lo hi).length ≤ xs.length := by
  unfold cutV
  rw [List.length_take, List.length_drop]
  omega
noncomputable def rSlT (K : PySem.W.Frag) : V → Option Int → Option Int → Hp → VK → Prop := fun x lo hi H Q => ∃ a xs, x = .ref a ∧ SqT K H a xs ∧
  ¬ (HT.sIx xs.length 0 lo = 0 ∧ HT.sIx xs.length xs.length hi = xs.length) ∧ ∀ p, H p = none → Q (.ref p) (upd H p (.tup (cutV xs lo hi)))
theorem sl_tup : SlR X (rSlT X.K) := by
  intro pins s σ H x v vl vu lo hi sl Q I rx hs pl pu h
  obtain ⟨a, xs, rfl, hx, hw, q⟩ := h
  cases rx
  obtain ⟨its, r, ht, hz⟩ := I.tuple hx
  have hlen : its.toArray.size = xs.length := by rw [List.size_toArray]; exact r.length.symm
  refine ⟨"tuple", _, PyProof.Rows.slot_tuple_getitem.lookup, ht.typeIs, ?_⟩
  refine HT.getItem_tuple_cut ht hs pl pu (by rw [hlen]; exact hw) ?_ (by rw [hlen]; exact hz)
  rw [hlen]
  refine ⟨.ref s.heap.objs.size, _, I.laid (t' := s.toks) (o := .tup (cutV xs lo hi)) (fun b ob q => Heap.get?_push_of_some _ q) (Nat.le_refl _) ?_, rfl, q _ (I.hok.fresh (Nat.le_refl _))⟩
  exact ⟨Nat.le_trans (cutV_length xs lo hi) hz, _, (r.drop (HT.sIx xs.length 0 lo)).take (HT.sIx xs.length xs.length hi - HT.sIx xs.length 0 lo), IsTup.new _ _⟩
noncomputable def rCatT (K : PySem.W.Frag) : R2 := fun x y H Q => ∃ a b xs ys, x = .ref a ∧ y = .ref b ∧ SqT K H a xs ∧ SqT K H b ys ∧ xs ≠ [] ∧ xs.length + ys.length ≤ sizeLine ∧
  (ys = [] → Q (.ref a) H) ∧ (ys ≠ [] → ∀ p, H p = none → Q (.ref p) (upd H p (.tup (xs ++ ys))))
theorem Vals.nil_iff {xs : List V} {us : List Value} (r : Vals xs us) : us = [] ↔ xs = [] := by
  cases r with
  | nil => simp
  | cons _ _ => simp
theorem op_catT : OpR X (binaryOp .Add) (rCatT X.K) := by
  intro pins s σ H x y v u Q I rx ry h
  obtain ⟨a, b, xs, ys, rfl, rfl, ha, hb, hx, hz, q1, q2⟩ := h
  cases rx
  cases ry
  obtain ⟨its, r1, p1, _⟩ := I.tuple ha
  obtain ⟨its2, r2, p2, _⟩ := I.tuple hb
  refine HT.cat_tup p1 p2 (fun z => hx (r1.nil_iff.mp z)) (fun z => ⟨.ref a, H, I, rfl, q1 (r2.nil_iff.mp z)⟩) (fun z => ?_) (by rw [← r1.length, ← r2.length]; exact hz)
  refine ⟨.ref s.heap.objs.size, _, I.laid (t' := s.toks) (o := .tup (xs ++ ys)) (fun b ob q => Heap.get?_push_of_some _ q) (Nat.le_refl _) ?_, rfl, q2 (fun w => z (r2.nil_iff.mpr w)) _ (I.hok.fresh (Nat.le_refl _))⟩
  exact ⟨by rw [List.length_append]; exact hz, _, r1.append r2, IsTup.new _ _⟩
end
end L2
namespace L2
open PySem PySem.Spec PyProof.Rows
noncomputable def ixN (n : Nat) (i : Int) : Option Nat := if 0 ≤ i then (if i < n then some i.toNat else none) else if -(n : Int) ≤ i then some (i + n).toNat else none
noncomputable def atI {α : Type} (xs : List α) (i : Int) : Option α := (ixN xs.length i).bind fun j => xs[j]?
theorem ixN_seq {n : Nat} {i : Int} {j : Nat} (h : ixN n i = some j) : seqIndex? i n = some j ∧ j < n ∧ -(n : Int) ≤ i ∧ i < n := by
  unfold ixN at h
  by_cases h0 : 0 ≤ i
  · rw [if_pos h0] at h
    by_cases h1 : i < n
    · rw [if_pos h1] at h
      have e : i.toNat = j := Option.some.inj h
      exact ⟨by rw [seqIndex_of h0 h1, e], by (clear h; omega), by (clear h h1 e; omega), h1⟩
    · rw [if_neg h1] at h; cases h
  · rw [if_neg h0] at h
    by_cases h1 : -(n : Int) ≤ i
    · rw [if_pos h1] at h
      have e : (i + n).toNat = j := Option.some.inj h
      exact ⟨by rw [seqIndex_neg (by (clear h h1 e; omega)) h1, e], by (clear h; omega), h1, by (clear h e; omega)⟩
    · rw [if_neg h1] at h; cases h
theorem atI_get {α : Type} {xs : List α} {i : Int} {v : α} (h : atI xs i = some v) : ∃ j, seqIndex? i xs.length = some j ∧ xs[j]? = some v ∧ j < xs.length ∧ -(xs.length : Int) ≤ i ∧ i < xs.length := by
  unfold atI at h
  cases e : ixN xs.length i with
  | none => rw [e] at h; cases h
  | some j =>
    rw [e] at h
    obtain ⟨h1, h2, h3, h4⟩ := ixN_seq e
    exact ⟨j, h1, h, h2, h3, h4⟩
theorem atI_nat {α : Type} {xs : List α} {j : Nat} {v : α} (h : xs[j]? = some v) : atI xs (j : Int) = some v := by
  have hj : j < xs.length := (List.getElem?_eq_some_iff.mp h).1
  have e : ixN xs.length (j : Int) = some j := by
    unfold ixN
    rw [if_pos (by (clear h hj; omega)), if_pos (by (clear h; omega))]; simp
  unfold atI; rw [e]; exact h
noncomputable def PlainIx (b : Expr) : Prop := ∀ o i, subscripted b false o i = operate [o, i] (getItem o i)
noncomputable def IxR (X : Cx) (r : R2) : Prop :=
  ∀ (value slice : Expr) (pins : List (Addr × Obj)) (s : Shared) (σ : St) (H : Hp) (x y : V) (v u : Value) (Q : VK), Inv X pins σ H s → RelV x v → RelV y u → r x y H Q →
    subscripted slice false v u = operate [v, u] (getItem v u) → wpAny (model X.prog X.w) X.A (subscriptTail value slice v u) (EP X pins σ Q) X.xe s
noncomputable def MtR (X : Cx) (id : String) (r : V → List V → Hp → VK → Prop) : Prop :=
  ∀ (pins : List (Addr × Obj)) (s : Shared) (σ : St) (H : Hp) (x : V) (xs : List V) (v : Value) (us : List Value) (Q : VK), Inv X pins σ H s → RelV x v → Vals xs us → r x xs H Q →
    wpAny (model X.prog X.w) X.A (call (.builtin id) (v :: us)) (EP X pins σ Q) X.xe s
section
variable {X : Cx} {a b : Expr} {ta tb : TE} {pos : Pos}
theorem pe_ix {r : R2} (hr : IxR X r) (ha : PE X a ta) (hb : PE X b tb) (hs : PlainIx b) : PE X (.Subscript a b pos) (tOp r ta tb) := by
  intro pins s σ H Q I h
  exact Subscript_ (binT ha hb I h fun v u s2 x y H2 I2 rx ry q => hr a b pins s2 σ H2 x y v u Q I2 rx ry q (hs _ _))
noncomputable def rIxL (K : PySem.W.Frag) : R2 := fun x y H Q => ∃ p xs i v, x = .ref p ∧ y = .int i ∧ SqL K H p xs ∧ atI xs i = some v ∧ Q v H
noncomputable def rIxT (K : PySem.W.Frag) : R2 := fun x y H Q => ∃ p xs i v, x = .ref p ∧ y = .int i ∧ SqT K H p xs ∧ atI xs i = some v ∧ Q v H
noncomputable def rIxS : R2 := fun x y H Q => ∃ z i c, x = .str z ∧ y = .int i ∧ z.length ≤ sizeLine ∧ atI z.cps.toList i = some c ∧ Q (.str ⟨#[c]⟩) H
theorem ix_list : IxR X (rIxL X.K) := by
  intro value slice pins s σ H x y v u Q I rx ry h hs
  obtain ⟨p, xs, i, z, rfl, rfl, hq, he, q⟩ := h
  cases rx
  obtain ⟨t, rfl⟩ := ry
  obtain ⟨its, r, pl, hz⟩ := I.list hq
  obtain ⟨j, h1, h2, h3, h4, h5⟩ := atI_get he
  obtain ⟨w, ew, rw'⟩ := r.get h2
  have hl := r.length
  have hn := line63
  have fin : EP X pins σ Q w s := ⟨z, H, I, rw', q⟩
  by_cases h0 : 0 ≤ i
  · have hj : i.toNat = j := by
      rw [seqIndex_of h0 h5] at h1
      exact Option.some.inj h1
    exact item_listR pl.isList h0 (by (clear I hq he q hs r pl h1 h2 h3 h4 ew rw' fin h0 hj; omega)) (by rw [hj]; simpa using ew) fin hs
  · have hj : (i + (its.toArray.size : Int)).toNat = j := by
      rw [seqIndex_neg (by (clear I hq he q hs r pl hz h1 h2 h3 h4 h5 ew rw' hl hn fin; omega)) h4] at h1
      rw [List.size_toArray, ← hl]
      exact Option.some.inj h1
    exact subscriptTail_builtinR (x := w) pl.isList.typeIs slot_list_getitem.lookup
      (wpAny_getItem_list_neg (Q := fun r s' => r = w ∧ EP X pins σ Q r s') pl.isList (by (clear I hq he q hs r pl hz h1 h2 h3 h4 h5 ew rw' hl hn fin hj; omega)) (by rw [List.size_toArray] <;> (clear I hq he q hs r pl hz h1 h2 h3 h5 ew rw' hn fin h0 hj; omega)) (by (clear I hq he q hs r pl h1 h2 h3 h5 ew rw' fin h0 hj; omega)) (by rw [hj]; simpa using ew) ⟨rfl, fin⟩) hs
theorem ix_tup : IxR X (rIxT X.K) := by
  intro value slice pins s σ H x y v u Q I rx ry h hs
  obtain ⟨p, xs, i, z, rfl, rfl, hq, he, q⟩ := h
  cases rx
  obtain ⟨t, rfl⟩ := ry
  obtain ⟨its, r, pl, hz⟩ := I.tuple hq
  obtain ⟨j, h1, h2, h3, h4, h5⟩ := atI_get he
  obtain ⟨w, ew, rw'⟩ := r.get h2
  have hl := r.length
  have hn := line63
  have fin : EP X pins σ Q w s := ⟨z, H, I, rw', q⟩
  exact subscriptTail_builtinR (x := w) pl.typeIs slot_tuple_getitem.lookup
    (getItem_tuple (j := j) (Q := fun r s' => r = w ∧ EP X pins σ Q r s') pl (by (clear I hq he q hs r pl h1 h2 h5 ew rw' fin; omega)) (by (clear I hq he q hs r pl h1 h2 h4 ew rw' fin; omega)) (by rw [List.size_toArray, ← hl]; exact h1) (by simpa using ew) ⟨rfl, fin⟩) hs
theorem ix_str : IxR X rIxS := by
  intro value slice pins s σ H x y v u Q I rx ry h hs
  obtain ⟨z, i, c, rfl, rfl, hz, he, q⟩ := h
  obtain ⟨t, rfl⟩ := rx
  obtain ⟨t', rfl⟩ := ry
  obtain ⟨j, h1, h2, h3, h4, h5⟩ := atI_get he
  have hl : z.cps.toList.length = z.length := by simp [Str.length]
  rw [hl] at h1 h4 h5
  have hn := line63
  exact tail_any (typeIs_str s z t) slot_str_getitem.lookup (getItem_str (c := c) (by
    have e1 : decide (i < -(2 ^ 63 : Int)) = false := decide_eq_false (by (clear I he q hs h1 h2 h3 h5; omega))
    have e2 : decide (i ≥ 2 ^ 63) = false := decide_eq_false (by (clear I he q hs h1 h2 h3 h4 e1; omega))
    rw [e1, e2, Bool.or_false]) (by rw [h1]; simpa using h2) ⟨.str ⟨#[c]⟩, H, I.tok _, ⟨_, rfl⟩, q⟩) hs
theorem slice_bounds (lo hi : Option Int) (n : Nat) : (sliceBounds lo hi none n).1 = ((HT.sIx n 0 lo : Nat) : Int) ∧ (sliceBounds lo hi none n).2.1 = ((HT.sIx n n hi : Nat) : Int) ∧ (sliceBounds lo hi none n).2.2 = 1 := by
  refine ⟨?_, ?_, rfl⟩
  · cases lo with
    | none => simp [sliceBounds, HT.sIx]
    | some i =>
      simp only [sliceBounds, HT.sIx, Option.getD_none, show (1 : Int) > 0 by decide, if_true]
      by_cases h : i < 0
      · simp only [h, if_true] <;> omega
      · simp only [h, if_false] <;> omega
  · cases hi with
    | none => simp [sliceBounds, HT.sIx]
    | some i =>
      simp only [sliceBounds, HT.sIx, Option.getD_none, show (1 : Int) > 0 by decide, if_true]
      by_cases h : i < 0
      · simp only [h, if_true] <;> omega
      · simp only [h, if_false] <;> omega
theorem slicePick_cut (its : List Value) (lo hi : Option Int) : slicePick its.toArray lo hi none = ((its.drop (HT.sIx its.length 0 lo)).take (HT.sIx its.length its.length hi - HT.sIx its.length 0 lo)).toArray := by
  obtain ⟨h1, h2, h3⟩ := slice_bounds lo hi its.toArray.size
  unfold slicePick
  rw [h1, h2, h3]
  simp only [sliceRange_one, pick_run, List.size_toArray] <;> rfl
noncomputable def rSlL (K : PySem.W.Frag) : V → Option Int → Option Int → Hp → VK → Prop := fun x lo hi H Q => ∃ a xs, x = .ref a ∧ SqL K H a xs ∧ ∀ p, H p = none → Q (.ref p) (upd H p (.lst (cutV xs lo hi)))
theorem sl_list : SlR X (rSlL X.K) := by
  intro pins s σ H x v vl vu lo hi sl Q I rx hs pl pu h
  obtain ⟨a, xs, rfl, hx, q⟩ := h
  cases rx
  obtain ⟨its, r, ht, hz⟩ := I.list hx
  have hlen := r.length
  refine ⟨"list", _, slot_list_getitem.lookup, ht.isList.typeIs, ?_⟩
  refine wpAny_getItem_list_slice ht.isList hs pl pu .none (by simp) ?_ (by rw [List.size_toArray] <;> (clear I hs pl pu hx q r ht; omega))
  rw [slicePick_cut, ← hlen]
  refine ⟨.ref s.heap.objs.size, _, I.laid (t' := s.toks) (o := .lst (cutV xs lo hi)) (fun b ob q => Heap.get?_push_of_some _ q) (Nat.le_refl _) ?_, rfl, q _ (I.hok.fresh (Nat.le_refl _))⟩
  exact ⟨Nat.le_trans (cutV_length xs lo hi) hz, _, 0, (r.drop (HT.sIx xs.length 0 lo)).take (HT.sIx xs.length xs.length hi - HT.sIx xs.length 0 lo), Heap.get?_push_size _ rfl⟩
theorem call_len_seq : CallR X (.builtin "len") (fun xs H Q => ∃ p ys, xs = [.ref p] ∧ (SqL X.K H p ys ∨ SqT X.K H p ys) ∧ Q (.int ys.length) H) := by
  intro pins s σ H xs us Q I r h
  obtain ⟨p, ys, rfl, hq, q⟩ := h
  obtain ⟨u, rfl, rx⟩ := vals1 r
  cases rx
  have hn := line63
  rcases hq with hq | hq
  · obtain ⟨its, r', pl, hz⟩ := I.list hq
    have hlen := r'.length
    exact Calls.call_len_list pl.isList (by simp only [List.size_toArray] <;> (clear I q r hq r' pl; omega)) ⟨.int ys.length, H, I.tok _, ⟨s.toks + 1, by rw [List.size_toArray, hlen]⟩, q⟩
  · obtain ⟨its, r', pl, hz⟩ := I.tuple hq
    have hlen := r'.length
    exact len_tuple pl (by simp only [List.size_toArray] <;> (clear I q r hq r' pl; omega)) ⟨.int ys.length, H, I.tok _, ⟨s.toks + 1, by rw [List.size_toArray, hlen]⟩, q⟩
theorem call_len_str : CallR X (.builtin "len") (fun xs H Q => ∃ z, xs = [.str z] ∧ z.length ≤ sizeLine ∧ Q (.int z.length) H) := by
  intro pins s σ H xs us Q I r h
  obtain ⟨z, rfl, hz, q⟩ := h
  obtain ⟨u, rfl, t, rfl⟩ := vals1 r
  have hn := line63
  exact len_str (by (clear I q r; omega)) ⟨.int z.length, H, I.tok _, ⟨_, rfl⟩, q⟩
theorem call_list_of : CallR X (.type "list") (fun xs H Q => ∃ p ys, xs = [.ref p] ∧ (SqL X.K H p ys ∨ SqT X.K H p ys) ∧ ∀ l, H l = none → Q (.ref l) (upd H l (.lst ys))) := by
  intro pins s σ H xs us Q I r h
  obtain ⟨p, ys, rfl, hq, q⟩ := h
  obtain ⟨u, rfl, rx⟩ := vals1 r
  cases rx
  have fin : ∀ (its : List Value), Vals ys its → ys.length ≤ sizeLine → ∀ (h' : Heap) (c' : Nat), (∀ b o', s.heap.get? b = some o' → h'.get? b = some o') →
      h'.get? s.heap.objs.size = some { cls := .type "list", dict := none, data := .seq its.toArray c', slots := #[] } → EP X pins σ Q (.ref s.heap.objs.size) { s with heap := h' } := fun its r' hz h' c' kp e =>
    ⟨.ref s.heap.objs.size, _, I.laid (t' := s.toks) kp (Nat.le_refl _) (show ObjOk X.prog X.w _ h' _ (.lst ys) from ⟨hz, its, c', r', e⟩), rfl, q _ (I.hok.fresh (Nat.le_refl _))⟩
  rcases hq with hq | hq
  · obtain ⟨its, r', pl, hz⟩ := I.list hq
    have hlen := r'.length
    obtain ⟨o, ho, hc, n, hd⟩ := pl.isList
    exact call_list_seq p (.inl rfl) ho hc hd (fun h' c' kp e => fin its r' hz h' c' kp e) (by simp only [List.size_toArray] <;> (clear I q r fin hq r' pl ho hc hd; omega))
  · obtain ⟨its, r', pl, hz⟩ := I.tuple hq
    have hlen := r'.length
    obtain ⟨o, ho, hc, n, hd⟩ := pl
    exact call_list_seq p (.inr rfl) ho hc hd (fun h' c' kp e => fin its r' hz h' c' kp e) (by simp only [List.size_toArray] <;> (clear I q r fin hq r' ho hc hd; omega))
theorem call_tuple_of : CallR X (.type "tuple") (fun xs H Q => ∃ p ys, xs = [.ref p] ∧ ((SqL X.K H p ys ∧ ∀ l, H l = none → Q (.ref l) (upd H l (.tup ys))) ∨ (SqT X.K H p ys ∧ Q (.ref p) H))) := by
  intro pins s σ H xs us Q I r h
  obtain ⟨p, ys, rfl, h⟩ := h
  obtain ⟨u, rfl, rx⟩ := vals1 r
  cases rx
  rcases h with ⟨hq, q⟩ | ⟨hq, q⟩
  · obtain ⟨its, r', pl, hz⟩ := I.list hq
    have hlen := r'.length
    refine call_tuple_list pl.isList (fun h' kp => ?_) (by simp only [List.size_toArray] <;> (clear I r hq q r' pl; omega))
    have I1 : Inv X pins σ H { s with heap := h' } := I.kept (t' := s.toks) kp
    have I2 : Inv X pins σ (upd H h'.objs.size (.tup ys)) { s with heap := h'.push { cls := .type "tuple", data := .seq its.toArray } } :=
      I1.laid (t' := s.toks) (fun b o e => Heap.get?_push_of_some _ e) (Nat.le_refl _) (show ObjOk X.prog X.w _ _ _ (.tup ys) from ⟨hz, its, r', IsTup.new _ _⟩)
    exact ⟨.ref h'.objs.size, _, I2, rfl, q _ (I1.hok.fresh (Nat.le_refl _))⟩
  · obtain ⟨its, r', pl, hz⟩ := I.tuple hq
    exact call_tuple_same pl ⟨.ref p, H, I, rfl, q⟩
noncomputable def tyV (K : PySem.W.Frag) (T : String) (x : V) (H : Hp) : Prop := match x with
  | .str _ => T = "str"
  | .int _ => T = "int"
  | .ref p => (T = "list" ∧ ∃ xs, SqL K H p xs) ∨ (T = "tuple" ∧ ∃ o, K.lookup p = some o ∧ o.cls = .type "tuple" ∧ o.dict = none) ∨
      (T = "dict" ∧ ((∃ kvs, H p = some (.dK kvs)) ∨ ∃ kvs, H p = some (.dT kvs))) ∨ (T = "set" ∧ ∃ S n, H p = some (.set S n))
  | _ => False
theorem tyV_is {pins : List (Addr × Obj)} {σ : St} {H : Hp} {s : Shared} {T : String} {x : V} {v : Value} (I : Inv X pins σ H s) (r : RelV x v) (ty : tyV X.K T x H) :
    s.TypeIs v T ∧ ∀ a, v = .ref a → ∃ ob, s.heap.get? a = some ob ∧ ob.dict = none := by
  cases x with
  | str z =>
    obtain ⟨t, rfl⟩ := r
    cases (show T = "str" from ty)
    exact ⟨typeIs_str s z t, fun _ e => nomatch e⟩
  | int i =>
    obtain ⟨t, rfl⟩ := r
    cases (show T = "int" from ty)
    exact ⟨typeIs_int s i t, fun _ e => nomatch e⟩
  | ref p =>
    cases r
    rcases ty with ⟨rfl, xs, hq⟩ | ⟨rfl, o, hk, hc, hd⟩ | ⟨rfl, hk⟩ | ⟨rfl, S, n, hk⟩
    · obtain ⟨its, _, pl, _⟩ := I.list hq
      refine ⟨pl.isList.typeIs, fun a e => ?_⟩
      cases e
      obtain ⟨o, n, e, c, hd, _⟩ := pl
      exact ⟨o, e, hd⟩
    · refine ⟨⟨o, I.kIn p o hk, hc⟩, fun a e => ?_⟩
      cases e
      exact ⟨o, I.kIn _ o hk, hd⟩
    · have z : ∃ o, s.heap.get? p = some o ∧ o.ExactDict := by
        rcases hk with ⟨kvs, hk⟩ | ⟨kvs, hk⟩
        · obtain ⟨_, _, _, _, o, _, _, e, ex, _⟩ := I.hok p _ hk
          exact ⟨o, e, ex⟩
        · obtain ⟨_, _, _, _, o, _, _, e, ex, _⟩ := I.hok p _ hk
          exact ⟨o, e, ex⟩
      obtain ⟨o, e, ex⟩ := z
      refine ⟨⟨o, e, ex.1⟩, fun a e2 => ?_⟩
      cases e2
      exact ⟨o, e, ex.2.1⟩
    · obtain ⟨o, _, _, _, e, ex, _⟩ := I.hok p _ hk
      refine ⟨⟨o, e, ex.1⟩, fun a e2 => ?_⟩
      cases e2
      exact ⟨o, e, ex.2.1⟩
  | _ => exact False.elim ty
noncomputable def tBM (K : PySem.W.Frag) (T : String) (r : V → List V → Hp → VK → Prop) (to : TE) (t : TA) : TE := fun σ H Q => to σ H fun x H1 => tyV K T x H1 ∧ t σ H1 fun xs H2 => r x xs H2 Q
variable {o e : Expr} {es : List Expr} {to : TE} {t : TA} {name : Str} {apos cpos : Pos} {T id : String} {r : V → List V → Hp → VK → Prop}
theorem pe_bm (pa : PlainAttrs T) (slot : Slot T name id) (hty : typeOf (.builtin id) = pure (.type "method_descriptor")) (hm : MtR X id r) (ho : PE X o to) (ha : PA X (e :: es) t)
    (hbase : attributeBase o name X.env (eval o X.env) = eval o X.env := by rfl)
    (hfew : ((backTo cpos (starEach (e :: es) X.env)).all (fun x => !x.1) && (backToKw cpos (keywordEach [] X.env)).all (fun x => x.1.isSome)
      && decide ((e :: es).length + ([] : List Keyword).length + (if ([] : List Keyword).isEmpty then 0 else 1) < 30)) = true := by rfl)
    (hline : (apos.endLine == cpos.line) = true := by rfl) (hs : starEach (e :: es) X.env = (false, eval e X.env) :: starEach es X.env := by rfl) (hplain : (backTo cpos (starEach es X.env)).any (·.1) = false := by rfl) :
    PE X (.Call (.Attribute o name apos) (e :: es) [] cpos) (tBM X.K T r to t) := by
  intro pins s σ H Q I h
  refine wpAny_Call_method_late hbase hfew hline rfl (thn (ho pins s σ H _ I h) fun v s1 ⟨x, H1, I1, r1, ty, q1⟩ => ?_)
  obtain ⟨h1, h2⟩ := tyV_is I1 r1 ty
  refine ⟨T, id, pa, slot, hty, h1, h2, ?_⟩
  have hA := ha cpos pins s1 σ H1 _ I1 q1
  rw [hs] at hA ⊢
  refine Calls.callWith_builtin (by show (false || (backTo cpos (starEach es X.env)).any (·.1)) = false; rw [hplain] <;> rfl) (Calls.evalArgs_plain ?_)
  exact thn hA fun us s2 ⟨vs, H2, I2, r2, q2⟩ => hm pins s2 σ H2 x vs v us Q I2 r1 r2 q2
end
end L2
namespace L2
open PySem PySem.Spec PyProof.Rows
noncomputable def MtM (X : Cx) (id : String) (r : V → List V → Hp → VK → Prop) : Prop :=
  ∀ (pins : List (Addr × Obj)) (s : Shared) (σ : St) (H : Hp) (x : V) (xs : List V) (v : Value) (us : List Value) (Q : VK), Inv X pins σ H s → RelV x v → Vals xs us → r x xs H Q →
    wpAny (model X.prog X.w) X.A (call (.builtin id) (v :: us)) (EP X pins σ Q) X.xe s
theorem Vals.one : ∀ {x : V} {us : List Value}, Vals [x] us → ∃ u, us = [u] ∧ RelV x u
  | _, _, .cons r .nil => ⟨_, rfl, r⟩
theorem Vals.rep {xs : List V} {us : List Value} (h : Vals xs us) : ∀ k : Nat, Vals (List.replicate k xs).flatten (List.replicate k us).flatten
  | 0 => .nil
  | k + 1 => by
    rw [List.replicate_succ, List.replicate_succ, List.flatten_cons, List.flatten_cons]
    exact Vals.append h (Vals.rep h k)
theorem foldl_rep (its : List Value) : ∀ (k : Nat) (acc : List Value),
    List.foldl (fun x1 x2 => x1 ++ x2) acc.toArray (List.replicate k its.toArray) = (acc ++ (List.replicate k its).flatten).toArray
  | 0, acc => by simp
  | k + 1, acc => by
    have e : acc.toArray ++ its.toArray = (acc ++ its).toArray := by simp
    have e2 : (acc ++ its) ++ (List.replicate k its).flatten = acc ++ (List.replicate (k + 1) its).flatten := by
      rw [List.replicate_succ, List.flatten_cons, List.append_assoc]
    rw [← e2, ← foldl_rep its k (acc ++ its), ← e, List.replicate_succ, List.foldl_cons]
section
variable {X : Cx} {pins : List (Addr × Obj)} {σ : St} {H : Hp} {s : Shared} {l b : Addr} {xs ys zs : List V}
theorem Inv.lset {its its' : List Value} {n : Nat} {f : Array Value → Array Value} {t' : Nat} (I : Inv X pins σ H s) (hH : H l = some (.lst xs))
    (e : s.heap.get? l = some { cls := .type "list", data := .seq its.toArray n }) (hf : f its.toArray = its'.toArray) (hv : Vals ys its') (hz : ys.length ≤ sizeLine) :
    Inv X pins σ (upd H l (.lst ys)) { s with heap := s.heap.update l (Obj.mapSeq f), toks := t' } := by
  have q := PySem.IsL.update e f
  rw [hf] at q
  refine I.write (x := l) (e := l) (by rw [hH]; exact trivial) (.inl rfl) (fun b' u hb hu => (Heap.get?_update_other s.heap (Obj.mapSeq f) (Ne.symm hb)).trans hu) ⟨_, q⟩ ?_
  exact ⟨hz, its', _, hv, q⟩
theorem Inv.lnew {its : List Value} {t' : Nat} (I : Inv X pins σ H s) (hv : Vals ys its) (hz : ys.length ≤ sizeLine) :
    Inv X pins σ (upd H s.heap.objs.size (.lst ys)) { s with heap := s.heap.push { cls := .type "list", data := .seq its.toArray }, toks := t' } :=
  I.laid (fun _ _ q => Heap.get?_push_of_some _ q) (Nat.le_refl _) ⟨hz, its, 0, hv, Heap.get?_push_size _ rfl⟩
theorem Inv.fresh (I : Inv X pins σ H s) : H s.heap.objs.size = none := I.hok.fresh (Nat.le_refl _)
theorem Inv.lstM (I : Inv X pins σ H s) (hH : H l = some (.lst xs)) : xs.length ≤ sizeLine ∧ ∃ (its : List Value) (n : Nat), Vals xs its ∧ xs.length = its.length ∧ s.heap.get? l = some { cls := .type "list", data := .seq its.toArray n } := by
  obtain ⟨z, its, n, r, e⟩ := I.hok l _ hH
  exact ⟨z, its, n, r, r.length, e⟩
theorem notLongL {n : Nat} (h : n ≤ sizeLine) : Builtin.List.listTooLong n = false := by
  unfold Builtin.List.listTooLong
  exact decide_eq_false (by omega)
end
section
variable {X : Cx}
noncomputable def rAppend : V → List V → Hp → VK → Prop := fun x vs H Q => ∃ l xs y, x = .ref l ∧ vs = [y] ∧ H l = some (.lst xs) ∧ xs.length < sizeLine ∧ Q .non (upd H l (.lst (xs ++ [y])))
theorem mt_append : MtM X "list.append" rAppend := by
  intro pins s σ H x vs v us Q I rx rv h
  obtain ⟨l, xs, y, rfl, rfl, hH, hz, q⟩ := h
  cases rx
  obtain ⟨u, rfl, ru⟩ := rv.one
  obtain ⟨z, its, n, r, hl, e⟩ := I.lstM hH
  refine call_meets F.slot_list_append ⟨_, e, rfl⟩ F.entry_list_append (F.args_list_append_2 _ _) (PySem.list_append l its.toArray n u (by rw [List.size_toArray]; (clear I hH q ru rv z r e; omega))) ⟨e, ?_⟩
  refine ⟨.non, _, I.lset (its' := its ++ [u]) hH e (by simp) (r.append (.cons ru .nil)) ?_, rfl, q⟩
  rw [List.length_append, List.length_singleton]
  assumption
noncomputable def rCat : R2 := fun x y H Q => ∃ l b xs zs, x = .ref l ∧ y = .ref b ∧ H l = some (.lst xs) ∧ H b = some (.lst zs) ∧ xs.length + zs.length ≤ sizeLine ∧ ∀ p, H p = none → Q (.ref p) (upd H p (.lst (xs ++ zs)))
theorem op_cat : OpR X (binaryOp .Add) rCat := by
  intro pins s σ H x y v u Q I rx ry h
  obtain ⟨l, b, xs, zs, rfl, rfl, hH, hB, hz, q⟩ := h
  cases rx
  cases ry
  obtain ⟨z, its, n, r, hl, e⟩ := I.lstM hH
  obtain ⟨z2, its2, n2, r2, hl2, e2⟩ := I.lstM hB
  refine PySem.P.add_list e e2 ?_ (by rw [List.size_toArray, List.size_toArray]; (clear I hH hB q z r e z2 r2 e2; omega))
  have ea : its.toArray ++ its2.toArray = (its ++ its2).toArray := by simp
  rw [ea]
  exact ⟨.ref _, _, I.lnew (t' := s.toks) (r.append r2) (by rw [List.length_append]; assumption), rfl, q _ I.fresh⟩
noncomputable def rRep : R2 := fun x y H Q => ∃ l k xs, x = .ref l ∧ y = .int k ∧ H l = some (.lst xs) ∧ -(2 ^ 63) ≤ k ∧ k < 2 ^ 63 ∧ xs.length * k.toNat ≤ sizeLine ∧
  ∀ p, H p = none → Q (.ref p) (upd H p (.lst (List.replicate k.toNat xs).flatten))
theorem len_rep {α : Type} (xs : List α) (k : Nat) : (List.replicate k xs).flatten.length = k * xs.length := by
  induction k with
  | zero => simp
  | succ k ih => rw [List.replicate_succ, List.flatten_cons, List.length_append, ih, Nat.succ_mul, Nat.add_comm]
theorem op_rep : OpR X (binaryOp .Mult) rRep := by
  intro pins s σ H x y v u Q I rx ry h
  obtain ⟨l, k, xs, rfl, rfl, hH, h1, h2, hz, q⟩ := h
  cases rx
  obtain ⟨t, rfl⟩ := ry
  obtain ⟨z, its, n, r, hl, e⟩ := I.lstM hH
  have hlen : its.toArray.size * k.toNat ≤ sizeLine := by rw [List.size_toArray, ← hl]; exact hz
  have hcap : ¬ its.toArray.size * k.toNat > (2 ^ 63 - 1) / 8 := by
    have : (sizeLine : Nat) ≤ (2 ^ 63 - 1) / 8 := by decide
    (clear I hH h1 h2 hz q z r hl e; omega)
  have hfit : ¬ (!Builtin.List.listFitsIndex k) = true := by
    rw [fitsIndex_both h1 h2]
    exact Bool.false_ne_true
  have hlong : ¬ Builtin.List.listTooLong (its.toArray.size * k.toNat) = true := by
    rw [notLongL hlen]
    exact Bool.false_ne_true
  have hnew : List.foldl (fun x1 x2 => x1 ++ x2) #[] (List.replicate (if its.toArray.isEmpty = true then 0 else k.toNat) its.toArray) = (List.replicate k.toNat its).flatten.toArray := by
    have f0 : ∀ m : Nat, List.foldl (fun x1 x2 => x1 ++ x2) #[] (List.replicate m its.toArray) = (List.replicate m its).flatten.toArray := fun m => by
      have := foldl_rep its m []
      rw [List.nil_append] at this
      exact this
    rw [f0]
    cases its with
    | nil => simp
    | cons a r' => rw [if_neg (by simp)]
  refine wpAny_binaryOp_repeat_ref (T := "list") (U := "int") (by decide) ⟨_, e, rfl⟩ (fun s' => typeIs_int s' k t) noFill_list_mul F.fills_int_mul F.slot_int_rmul repeat_list F.slot_int_index.lookup
    (call_meets F.slot_int_rmul (typeIs_int s k t) F.entry_int_rmul (F.args_int_rmul_2 _ _) (int___rmul___int_list k t l its.toArray n)
      ⟨e, rfl, ⟨_, e, rfl⟩, call_meets F.slot_list_mul ⟨_, e, rfl⟩ F.entry_list_mul (F.args_list_mul_2 _ _) (AutoListH.list___mul___list_int_3 l its.toArray n k t hfit hcap hlong) ⟨e, ?_⟩⟩)
  rw [hnew]
  exact ⟨.ref _, _, I.lnew (t' := s.toks) (r.rep k.toNat) (by rw [len_rep, Nat.mul_comm]; exact hz), rfl, q _ I.fresh⟩
end
section
variable {prog : Program} {w : World} {A : Around} {E : Value → Shared → Prop} {s : Shared}
set_option maxRecDepth 100000 in
end
section
variable {X : Cx}
end
end L2
namespace Att
open PySem PySem.W PySem.Calls PyProof.Rows
theorem ints_of_wellAll {P : Params} {h : Heap} : ∀ (ns : List Int) (vs : List Value), WellAll P h vs (ns.map WData.int) → IntsAre vs ns := by
  intro ns
  induction ns with
  | nil =>
    intro vs w
    rw [List.map_nil] at w
    cases w
    exact .nil
  | cons n ns ih =>
    intro vs w
    rw [List.map_cons] at w
    cases w with
    | cons a b =>
      cases a
      exact .cons _ _ (ih _ b)
theorem script_of {l : OpenLaw} {n : Nat} (hn : l.most = some n) {P : Params} {h : Heap} {args : List WData} {vals : List Value}
    (hpre : l.row.toRowW.claim.pre args = true) (hwl : WellAll P h vals args) :
    ∃ a vs ns, vals = [Value.ref a] ∧ args = [WData.list (ns.map WData.int)] ∧ h.get? a = some { cls := .type "list", data := .seq vs.toArray } ∧ IntsAre vs ns ∧ ns.length ≤ n := by
  have hsh : WShape.hasAll [] args [.list .int] = true := (pre_splitW hpre).1
  have hc : l.pre.holds [] { args := args } = true := (pre_splitW hpre).2
  obtain ⟨d, r, rfl, h1, h2⟩ := hasAllW_cons hsh
  obtain rfl := hasAllW_nil h2
  obtain ⟨xs, rfl, h3⟩ := hasW_list h1
  obtain ⟨ns, rfl⟩ := items_int h3
  have hlen : ns.length ≤ n := by
    unfold OpenLaw.pre at hc
    have h4 : (WTm.not (.lt (.lit (.int (n : Int))) (.len (.arg 0)))).holds [] { args := [.list (ns.map .int)] } = true := by
      have h4 := (holds_andW hc).1
      rw [hn] at h4
      exact h4
    have h5 := condW_of h4 (w_not (w_lt w_lit (w_len_list (w_arg rfl))))
    rw [List.length_map] at h5
    refine Nat.le_of_not_lt fun q => ?_
    have q' : (n : Int) < ((ns.length : Nat) : Int) := by (clear hn h2 h3 h1 hpre hwl hsh hc h4 h5; omega)
    first
      | (rw [decide_eq_true q'] at h5; exact absurd h5 (by decide))
      | (simp at h5; omega)
  cases hwl with
  | cons w1 w2 =>
    cases w2
    cases w1 with
    | list ho hall => exact ⟨_, _, ns, rfl, rfl, ho, ints_of_wellAll ns _ hall, hlen⟩
theorem post_true (l : OpenLaw) (args : List WData) : l.row.toRowW.claim.post args (.bool true) args = true :=
  postW_of (r := l.row.toRowW) (X := (true == true))
    (show WShape.has [] (.bool true) .bool = true by first | rfl | decide | simp [WShape.has, WShape.arms, WShape.armsAll])
    (show (WTm.eq .res (.lit (.bool true))).value [] { args := args, res := some (.bool true), after := args } = some (.bool (true == true)) from w_eq_bool (w_res rfl) w_lit) rfl
section
variable {prog : Program} {w : World} {A : Around} {E : Value → Shared → Prop} {s : Shared} {K : Frag}
end
end Att
namespace L2
open PySem PySem.Spec PyProof.Rows
theorem vals_ints : ∀ {vs : List Value} {ns : List Int}, IntsAre vs ns → Vals (ns.map V.int) vs
  | _, _, .nil => .nil
  | _, _, .cons n t h => .cons ⟨t, rfl⟩ (vals_ints h)
noncomputable def Only (H : Hp) : Prop := ∀ b, H b = none ∨ ∃ o xs, H b = some (.frz o (.lst xs))
theorem law_call {P : Program} {w : World} {K : PySem.W.Frag} {mg mb : Str → Option Value} {CX : CXT} {k : Nat} {fa a : Addr} {fd : FuncData} {x : Str} {sp : Sp} {s₁ : Shared} {vs : List Value} {ns : List Int}
    (KX : K.In s₁.heap) (hns : s₁.heap.Ns mainGlobals mg) (hb : s₁.heap.Ns builtinsNs mb) (hbb : ∀ x : Str, x ≠ "__name__" → mb x = bootBuiltins x) (hlim : s₁.heap.NoLimit) (hg : s₁.gens = #[])
    (ha : s₁.heap.get? a = some { cls := .type "list", data := .seq vs.toArray }) (hi : IntsAre vs ns) (hl : ns.length ≤ sizeLine) (hr : Room k callerA)
    (F : ∀ base : Heap, K.In base → base.Ns mainGlobals mg → FnOk P w K mg base CX k fa fd [x] sp) (hbind : ∀ (s : Shared) (u : Value), BindsTo s fd ⟨[u], []⟩ [(x, u)])
    (hsp : ∀ H : Hp, Only H → SqL K H a (ns.map V.int) → sp [.ref a] H (fun v _ => v = .bl true) fun _ _ _ => False)
    (hCX : ∀ H e s', CX [] H s₁ (fun _ _ _ => False) e s' → False) :
    codeAny (model P w) callerA (.call (.ref fa) ⟨[.ref a], []⟩) (fun r s' => r = .ok (.ret (.bool true)) ∧ OldK s₁.heap s'.heap ∧ s'.os = s₁.os ∧ AllBare s'.gens) s₁ := by
  have rv := vals_ints hi
  have lenV := hi.length
  -- from an abstract heap in which nothing but the script may be tracked
  have core : ∀ H : Hp, Only H → SqL K H a (ns.map V.int) → HOk P w H s₁.heap → (∀ b, H b ≠ none → b = a) → (H a ≠ none → K.lookup a = none) →
      codeAny (model P w) callerA (.call (.ref fa) ⟨[.ref a], []⟩) (fun r s' => r = .ok (.ret (.bool true)) ∧ OldK s₁.heap s'.heap ∧ s'.os = s₁.os ∧ AllBare s'.gens) s₁ := by
    intro H hO hS hok hA hK
    have base_of : ∀ {b : Addr} {o : Obj}, s₁.heap.get? b = some o → H b = none → (hidT s₁.heap H).get? b = some o := fun e n => hidT_get e n
    have noA : ∀ {b : Addr} {o : Obj} {es : Array DictEntry} {ep : Nat}, s₁.heap.get? b = some o → o.data = .dict es ep → H b = none := fun {b o es ep} e d => by
      cases q : H b with
      | none => rfl
      | some u =>
        have e' : b = a := hA b (by rw [q]; simp)
        subst e'
        rw [ha] at e; cases e
        have d' : Data.seq vs.toArray _ = Data.dict es ep := d
        cases d'
    have nsK : ∀ {b : Addr} {m : Str → Option Value}, s₁.heap.Ns b m → (hidT s₁.heap H).Ns b m := fun {b m} ⟨o, es, ep, e, d, r⟩ => ⟨o, es, ep, base_of e (noA e d), d, r⟩
    have hKb : K.In (hidT s₁.heap H) := fun b o e => base_of (KX b o e) (by
      cases q : H b with
      | none => rfl
      | some u =>
        have e' : b = a := hA b (by rw [q]; simp)
        subst e'
        rw [hK (by rw [q]; simp)] at e; cases e)
    have hM : Mod K mg (hidT s₁.heap H) := ⟨hKb, nsK hns, ⟨mb, nsK hb, hbb⟩, let ⟨mc, h1, h2⟩ := hlim; ⟨mc, nsK h1, h2⟩⟩
    have e0 : Env0 P w K mg (hidT s₁.heap H) callerA [] s₁ H := ⟨rfl, hM, fun b o e => of_hidT e, Nat.le_of_eq (hidT_size _ _), trivial, fun b hb => absurd (show b ∈ ([] : List Addr) from hb) (by simp), hok, .of_eq hg⟩
    refine codeAny_mono ((F _ hKb (nsK hns)).run callerA [] s₁ H ⟨[.ref a], []⟩ [.ref a] [.ref a] _ _ hr e0 (hbind s₁ (.ref a)) (.cons rfl .nil) (hsp H hO hS)) fun r s' h => ?_
    cases r with
    | error e => exact (hCX H e s' h).elim
    | ok fl =>
      cases fl with
      | next => exact False.elim h
      | brk => exact False.elim h
      | cont => exact False.elim h
      | ret u =>
        obtain ⟨v, H', os, bare, un, hok', r', q⟩ := h
        have q' : v = .bl true := q
        subst q'
        obtain rfl : u = Value.bool true := r'
        refine ⟨rfl, OldK.of_keep fun b o e => ?_, os, bare⟩
        cases q : H b with
        | none => exact un.keep b o e q (by intro z; exact absurd (show b ∈ ([] : List Addr) from z) (by simp)) (by simp)
        | some u =>
          rcases hO b with z | ⟨ob, xs, z⟩
          · rw [q] at z; cases z
          · have z2 := un.frzs b ob _ z
            obtain ⟨e1, _⟩ := hok b _ z
            obtain ⟨e2, _⟩ := hok' b _ z2
            rw [e] at e1; cases e1
            exact e2
  cases hk : K.lookup a with
  | some o =>
    -- the script is one of the module's own objects
    have e := KX a o hk
    rw [ha] at e
    cases e
    refine core (fun _ => none) (fun _ => .inl rfl) (.inr ⟨_, vs.toArray, _, hk, rfl, rfl, rfl, by rw [List.size_toArray, lenV]; exact hl, by simpa using rv⟩) (fun b u z => by have z' : (none : Option HO) = some u := z; cases z') (fun b z => absurd rfl z) fun z => absurd rfl z
  | none =>
    refine core (fun b => if b = a then some (.frz { cls := .type "list", data := .seq vs.toArray } (.lst (ns.map V.int))) else none) (fun b => ?_) (.inl (.inr ⟨{ cls := .type "list", data := .seq vs.toArray }, if_pos rfl⟩)) (fun b u z => ?_) (fun b z => ?_) fun _ => hk
    · by_cases hb : b = a
      · exact .inr ⟨_, _, if_pos hb⟩
      · exact .inl (if_neg hb)
    · by_cases hb : b = a
      · have z' := (if_pos hb).symm.trans z
        cases z'
        subst hb
        exact ⟨ha, by rw [List.length_map]; exact hl, vs, _, rv, ha⟩
      · have z' := (if_neg hb).symm.trans z
        cases z'
    · by_cases hb : b = a
      · exact hb
      · exact absurd (if_neg hb) z
end L2
namespace L2
open PySem PySem.Spec PyProof.Rows
end L2
namespace L2
open PySem PySem.Spec PyProof.Rows
noncomputable def defArgs (s : Stmt) : Arguments := match s with
  | .FunctionDef _ a _ _ _ _ _ _ _ _ => a
  | _ => { posonlyargs := [], args := [], vararg := none, kwonlyargs := [], kw_defaults := [], kwarg := none, defaults := [] }
noncomputable def defBody (s : Stmt) : List Stmt := match s with
  | .FunctionDef _ _ b _ _ _ _ _ _ _ => b
  | _ => []
noncomputable def defScope (s : Stmt) : Scope := match s with
  | .FunctionDef _ _ _ _ _ _ sc _ _ _ => sc
  | _ => { kind := .function, names := [], isGenerator := false, isCoroutine := false }
noncomputable abbrev CX0 : CXT := fun _ _ _ _ _ _ => False
noncomputable abbrev E0 : XK := fun _ _ _ => False
theorem pass0 {X : Cx} : Passes CX0 X E0 := fun _ _ _ _ _ _ _ h => h.elim
structure Fun (K : PySem.W.Frag) (x qual : Str) (st : Stmt) (f : Addr) (fd : FuncData) : Prop where
  ex : ∃ (oc : Value) (od : Option Addr) (kV doc pm : Value) (an : Option Addr) (cdv ct : Value) (osl : Array (Option Value)),
    fd = PySem.W.fnOf x qual (defArgs st) (defBody st) (defScope st) .none kV doc pm an cdv ct ∧ K.lookup f = some ⟨oc, od, .func fd, osl⟩ ∧ PySem.W.codeIn K cdv qual = true
  kp : PySem.W.keepIn K (.ref f) = true
section
variable {P : Program} {w : World} {K : PySem.W.Frag} {mg : Str → Option Value} {base : Heap}
theorem Fun.ok {x qual : Str} {st : Stmt} {f : Addr} {fd : FuncData} {N ps : List Str} {k : Nat} {sp : Sp} (F : Fun K x qual st f fd) (S : FnScope N ps (defScope st)) (len : ∀ vs H Q E, sp vs H Q E → vs.length = ps.length)
    (hbody : ∀ (cdv : Value) (A : Around) (outer : List Env) (s : Shared) (H : Hp) (vs : List V) (Q : VK) (E : XK), Room k (A.deeper (envOfC qual (defScope st) s.heap.objs.size f cdv)) → sp vs H Q E →
      ∃ t, PSs (cxOf CX0 P w K mg base N qual (defScope st) f cdv A outer s H E).nox (defBody st) t ∧ t { nx := fun _ H' => Q .non H', rt := Q } (start N vs) H) : FnOk P w K mg base CX0 (k + 1) f fd ps sp := by
  obtain ⟨oc, od, kV, doc, pm, an, cdv, ct, osl, rfl, lk, hcd⟩ := F.ex
  refine fn_of lk hcd S len fun A outer s H vs Q E hr hsp => ?_
  obtain ⟨t, h, q⟩ := hbody cdv A outer s H vs Q E hr hsp
  exact ⟨t, h.nox, q⟩
theorem Fun.binds {x qual : Str} {st : Stmt} {f : Addr} {fd : FuncData} {ps : List Str} (F : Fun K x qual st f fd)
    (h : ∀ (kV doc pm : Value) (an : Option Addr) (cdv ct : Value) (us : List Value), us.length = ps.length → bindArgs (PySem.W.fnOf x qual (defArgs st) (defBody st) (defScope st) .none kV doc pm an cdv ct) ⟨us, []⟩ = pure (ps.zip us)) : Binds K fd ps [] := by
  obtain ⟨oc, od, kV, doc, pm, an, cdv, ct, osl, rfl, lk, hcd⟩ := F.ex
  exact .all (h kV doc pm an cdv ct)
theorem fun_mk {x qual : Str} {st : Stmt} {f : Addr} {oc : Value} {od an : Option Addr} {osl : Array (Option Value)} {kV doc pm cdv ct : Value} (l : K.lookup f = some ⟨oc, od, .func (PySem.W.fnOf x qual (defArgs st) (defBody st) (defScope st) .none kV doc pm an cdv ct), osl⟩)
    (c : PySem.W.codeIn K cdv qual = true) (k : PySem.W.keepIn K (.ref f) = true) : Fun K x qual st f (PySem.W.fnOf x qual (defArgs st) (defBody st) (defScope st) .none kV doc pm an cdv ct) := ⟨⟨oc, od, kV, doc, pm, an, cdv, ct, osl, rfl, l, c⟩, k⟩
end
section
variable {X : Cx}
end
end L2
set_option maxRecDepth 100000
set_option linter.all false
namespace L2
open PySem PySem.Spec PyProof.Rows
section
variable {κ : Type} [DecidableEq κ]
noncomputable def valV (kvs : List (κ × V)) (k : κ) : Option V := (kvs.find? fun kv => decide (kv.1 = k)).map (·.2)
theorem valV_pos {p : κ × V} {r : List (κ × V)} {k : κ} (e : p.1 = k) : valV (p :: r) k = some p.2 := by simp [valV, List.find?_cons, e]
theorem valV_neg {p : κ × V} {r : List (κ × V)} {k : κ} (e : ¬ p.1 = k) : valV (p :: r) k = valV r k := by simp [valV, List.find?_cons, e]
theorem KV.val {kvs : List (κ × V)} {vs : List (κ × Value)} (r : KV kvs vs) (k : κ) : RelO (valV kvs k) (valueAt vs k) := by
  unfold KV at r
  induction r with
  | nil => exact True.intro
  | @cons p q ps qs h t ih =>
    obtain ⟨h1, h2⟩ := h
    by_cases e : p.1 = k
    · have e' : q.1 = k := h1.symm.trans e
      have b : valueAt (q :: qs) k = some q.2 := by simp [valueAt, List.find?_cons, e']
      rw [valV_pos e, b]; exact h2
    · have e' : ¬ q.1 = k := fun z => e (h1.trans z)
      have b : valueAt (q :: qs) k = valueAt qs k := by simp [valueAt, List.find?_cons, e']
      rw [valV_neg e, b]; exact ih
theorem KV.length {kvs : List (κ × V)} {vs : List (κ × Value)} (r : KV kvs vs) : kvs.length = vs.length := Paired.length r
end
theorem kV_is {P : Program} {w : World} {k : Key} {u : Value} (r : RelV (kV k) u) : (mixKind P w).is k u = true := by
  cases k with
  | inl i => obtain ⟨t, e⟩ := (show ∃ t, u = Value.int i t from r); subst e; exact mixKind_int P w i t
  | inr x => obtain ⟨t, e⟩ := (show ∃ t, u = Value.str x t from r); subst e; exact mixKind_str P w x t
theorem items_are {P : Program} {w : World} : ∀ {ks : List Key} {us : List Value}, Vals (ks.map kV) us → ItemsAre (mixKind P w) ks us
  | [], _, r => by rw [List.map_nil] at r; cases r; exact .nil
  | k :: ks, _, r => by
    rw [List.map_cons] at r
    cases r with
    | cons h t => exact .cons (kV_is h) (items_are t)
noncomputable abbrev KT (H : Hp) : List (List Key × V) → List (List Key × Addr × Value) → Prop := Paired fun p q => p.1 = q.1 ∧ H q.2.1 = some (.tup (p.1.map kV)) ∧ RelV p.2 q.2.2
section
variable {P : Program} {w : World} {H : Hp} {h : Heap} {a : Addr}
theorem rd_of {u : HO} (ok : HOk P w H h) (e : Rd H a u) : ObjOk P w H h a u := e.ok ok
theorem dk_rd {kvs : List (Key × V)} (ok : HOk P w H h) (e : Rd H a (.dK kvs)) : kvs.length ≤ sizeLine ∧ (a == sysModules) = false ∧ ∃ vs, KV kvs vs ∧ h.DictOf (mixKind P w) a vs :=
  show ObjOk P w H h a (.dK kvs) from rd_of ok e
theorem key_of {ks : List Key} (ok : HOk P w H h) (e : H a = some (.tup (ks.map kV))) : (tupleKind (mixKind P w)).is h ks a := by
  obtain ⟨_, its, r, o, h1, h2, n, h3⟩ := (show ObjOk P w H h a (.tup (ks.map kV)) from ok a _ e)
  exact ⟨o, its.toArray, n, h1, h2, h3, by simpa using items_are r⟩
theorem dt_rd {kvs : List (List Key × V)} (ok : HOk P w H h) (e : Rd H a (.dT kvs)) : kvs.length ≤ sizeLine ∧ (a == sysModules) = false ∧
    ∃ xs, KT H kvs xs ∧ h.DictOfH (tupleKind (mixKind P w)) a xs := by
  obtain ⟨z, y, xs, r, o, es, ep, h1, h2, h3, h4, h5⟩ := (show ObjOk P w H h a (.dT kvs) from rd_of ok e)
  refine ⟨z, y, xs, r, o, es, ep, h1, h2, h3, h4, fun x hx => ?_, h5⟩
  have all : ∀ {l : List (List Key × V)} {m : List (List Key × Addr × Value)}, KT H l m → ∀ x ∈ m, (tupleKind (mixKind P w)).is h x.1 x.2.1 := by
    intro l m q
    induction q with
    | nil => intro x hx; exact nomatch hx
    | @cons p q ps qs hq t ih =>
      intro x hx
      rcases List.mem_cons.mp hx with e | hx
      · subst e
        exact key_of ok (by rw [← hq.1]; exact hq.2.1)
      · exact ih x hx
  exact all r x hx
theorem dt_of {kvs : List (List Key × V)} (ok : HOk P w H h) (e : H a = some (.dT kvs)) : kvs.length ≤ sizeLine ∧ (a == sysModules) = false ∧
    ∃ xs, KT H kvs xs ∧ h.DictOfH (tupleKind (mixKind P w)) a xs := dt_rd ok (.inl e)
end
section
variable {X : Cx} {pins : List (Addr × Obj)} {σ : St} {H : Hp} {s : Shared} {a : Addr} {y v : V} {u r : Value} {o : Option V} {A : Around} {E : Value → Shared → Prop}
theorem Inv.bigD (I : Inv X pins σ H s) : sysModules < s.heap.objs.size := by
  have h : mainGlobals < s.heap.objs.size := (I.mod.glob.keeps I.bk).lt
  exact Nat.lt_trans (by decide) h
theorem d_write {h' : Heap} {t' : Nat} {ob : HO} (I : Inv X pins σ H s) (mu : Mut (H a)) (hs : Heap.SameBut a s.heap h') (he : ∃ q, h'.get? a = some q) (new : ObjOk X.prog X.w (upd H a ob) h' a ob) :
    Inv X pins σ (upd H a ob) { s with heap := h', toks := t' } :=
  I.write (x := a) (e := a) mu (.inl rfl) (fun b q hb z => (hs.2 b hb).trans z) he new
end
section
variable {X : Cx} {pins : List (Addr × Obj)} {σ : St} {H : Hp} {s : Shared} {a : Addr} {kvs : List (Key × V)} {k : Key} {u : Value} {A : Around} {E : Value → Shared → Prop}
theorem d_len {Q : Value → Shared → Prop} (I : Inv X pins σ H s) (e : Rd H a (.dK kvs)) (h : ∀ t s', Inv X pins σ H s' → Q (.int kvs.length t) s') : wpAny (model X.prog X.w) A (call (.builtin "len") [.ref a]) Q E s := by
  obtain ⟨z, hd, vs, rel, dd⟩ := dk_rd I.hok e
  refine call_len_dict hd dd (by rw [← rel.length]; rw [sizeLine_eq] at z; (clear I e h hd rel dd; omega)) ?_
  rw [← rel.length]
  exact h _ _ (I.tok _)
end
section
variable {X : Cx} {o i e value : Expr} {pos pos' tpos : Pos} {td ty tv : TE}
end
section
variable {X : Cx} {pos : Pos}
end
noncomputable abbrev VV : List (V × V) → List (Value × Value) → Prop := Paired fun p q => RelV p.1 q.1 ∧ RelV p.2 q.2
structure M1 (X : Cx) (o : Expr) (m : Str) (apos : Pos) (e : Expr) (cpos : Pos) : Prop where
  base : attributeBase o m X.env (eval o X.env) = eval o X.env
  few : ((backTo cpos (starEach [e] X.env)).all (fun x => !x.1) && (backToKw cpos (keywordEach [] X.env)).all (fun x => x.1.isSome)
    && decide (([e] : List Expr).length + ([] : List Keyword).length + (if ([] : List Keyword).isEmpty then 0 else 1) < 30)) = true
  line : (apos.endLine == cpos.line) = true
  trees : backTo cpos (starEach [e] X.env) = [(false, eval e X.env)]
structure M2 (X : Cx) (o : Expr) (m : Str) (apos : Pos) (e f : Expr) (cpos : Pos) : Prop where
  base : attributeBase o m X.env (eval o X.env) = eval o X.env
  few : ((backTo cpos (starEach [e, f] X.env)).all (fun x => !x.1) && (backToKw cpos (keywordEach [] X.env)).all (fun x => x.1.isSome)
    && decide (([e, f] : List Expr).length + ([] : List Keyword).length + (if ([] : List Keyword).isEmpty then 0 else 1) < 30)) = true
  line : (apos.endLine == cpos.line) = true
  trees : backTo cpos (starEach [e, f] X.env) = [(false, eval e X.env), (false, eval f X.env)]
section
variable {X : Cx} {pins : List (Addr × Obj)} {σ : St} {H : Hp} {s : Shared} {a : Addr} {y d : V} {u r : Value} {o : Option V} {A : Around} {E : Value → Shared → Prop}
end
section
variable {X : Cx} {o e f : Expr} {apos cpos : Pos} {td ty tx : TE}
end
section
variable {X : Cx} {pins : List (Addr × Obj)} {σ : St} {H : Hp} {s : Shared} {a : Addr} {kvs : List (Key × V)} {A : Around} {E : Value → Shared → Prop}
end
section
variable {X : Cx} {pins : List (Addr × Obj)} {σ : St} {H : Hp} {s : Shared} {a : Addr} {y : V} {u : Value} {A : Around} {E : Value → Shared → Prop}
end
end L2
namespace L2
open PySem PySem.Spec PyProof.Rows
inductive W where
  | non | bl (b : Bool) | int (i : Int) | str (x : Str) | ref (a : Addr) | tup (xs : List W) | scr (ns : List Int)
inductive GO where
  | lst (ws : List W)
  | dct
  | exc (C : Addr)
  | dic (kvs : List (Key × W))
  | fdc (o : Obj) (us : List (Key × V)) (kvs : List (Key × W))
  | ins (C : Addr) (fs : List (Str × W))
  | tbl (ps : Array Value)
  | any (P : Hp → Addr → Prop)
noncomputable abbrev Gp := Addr → Option GO
noncomputable def updG (G : Gp) (a : Addr) (g : GO) : Gp := fun b => if b = a then some g else G b
theorem updG_same {G : Gp} {a : Addr} {g : GO} : updG G a g a = some g := by unfold updG; rw [if_pos rfl]
theorem updG_ne {G : Gp} {a b : Addr} {g : GO} (h : b ≠ a) : updG G a g b = G b := by unfold updG; rw [if_neg h]
noncomputable def Scr (K : PySem.W.Frag) (H : Hp) (a : Addr) (ns : List Int) : Prop :=
  (∃ o, H a = some (.frz o (.lst (ns.map V.int)))) ∨
    ∃ (o : Obj) (its : Array Value) (n : Nat), K.lookup a = some o ∧ o.cls = .type "list" ∧ o.dict = none ∧ o.data = .seq its n ∧ its.size ≤ sizeLine ∧ Vals (ns.map V.int) its.toList
theorem Scr.sq {K : PySem.W.Frag} {H : Hp} {a : Addr} {ns : List Int} (h : Scr K H a ns) : SqL K H a (ns.map V.int) := by
  rcases h with ⟨o, h⟩ | h
  · exact .inl (.inr ⟨o, h⟩)
  · exact .inr h
structure TLe (H H1 : Hp) : Prop where
  tup : ∀ a xs, H a = some (.tup xs) → H1 a = some (.tup xs)
  frz : ∀ a o xs, H a = some (.frz o (.lst xs)) → H1 a = some (.frz o (.lst xs))
theorem TLe.refl (H : Hp) : TLe H H := ⟨fun _ _ h => h, fun _ _ _ h => h⟩
theorem TLe.trans {H H1 H2 : Hp} (a : TLe H H1) (b : TLe H1 H2) : TLe H H2 :=
  ⟨fun x xs h => b.tup x xs (a.tup x xs h), fun x o u h => b.frz x o u (a.frz x o u h)⟩
theorem TLe.new {H : Hp} {p : Addr} (hp : H p = none) (o : HO) : TLe H (upd H p o) :=
  ⟨fun _ _ h => by rw [upd_ne (ne_of_none h hp)]; exact h, fun _ _ _ h => by rw [upd_ne (ne_of_none h hp)]; exact h⟩
theorem TLe.lst {H : Hp} {p : Addr} {xs : List V} (hp : H p = some (.lst xs)) (o : HO) : TLe H (upd H p o) :=
  ⟨fun _ _ h => by rw [upd_ne (ne_of h hp (by intro z; cases z))]; exact h, fun _ _ _ h => by rw [upd_ne (ne_of h hp (by intro z; cases z))]; exact h⟩
mutual
inductive Rep (K : PySem.W.Frag) (H : Hp) : W → V → Prop where
  | non : Rep K H .non .non
  | bl (b : Bool) : Rep K H (.bl b) (.bl b)
  | int (i : Int) : Rep K H (.int i) (.int i)
  | str (x : Str) : Rep K H (.str x) (.str x)
  | ref (a : Addr) : Rep K H (.ref a) (.ref a)
  | tup {a : Addr} {ws : List W} {xs : List V} (h : H a = some (.tup xs)) (r : Reps K H ws xs) : Rep K H (.tup ws) (.ref a)
  | scr {a : Addr} {ns : List Int} (h : Scr K H a ns) : Rep K H (.scr ns) (.ref a)
inductive Reps (K : PySem.W.Frag) (H : Hp) : List W → List V → Prop where
  | nil : Reps K H [] []
  | cons {w : W} {v : V} {ws : List W} {vs : List V} (r : Rep K H w v) (rs : Reps K H ws vs) : Reps K H (w :: ws) (v :: vs)
end
section
variable {K : PySem.W.Frag} {H H1 : Hp}
theorem Scr.mono {a : Addr} {ns : List Int} (t : TLe H H1) (h : Scr K H a ns) : Scr K H1 a ns := by
  rcases h with ⟨o, h⟩ | h
  · exact .inl ⟨o, t.frz _ _ _ h⟩
  · exact .inr h
mutual
theorem Rep.mono (t : TLe H H1) : ∀ {w : W} {v : V}, Rep K H w v → Rep K H1 w v
  | _, _, .non => .non
  | _, _, .bl b => .bl b
  | _, _, .int i => .int i
  | _, _, .str x => .str x
  | _, _, .ref a => .ref a
  | _, _, .tup h r => .tup (t.tup _ _ h) (Reps.mono t r)
  | _, _, .scr h => .scr (h.mono t)
theorem Reps.mono (t : TLe H H1) : ∀ {ws : List W} {vs : List V}, Reps K H ws vs → Reps K H1 ws vs
  | _, _, .nil => .nil
  | _, _, .cons r rs => .cons (Rep.mono t r) (Reps.mono t rs)
end
theorem Reps.length : ∀ {ws : List W} {vs : List V}, Reps K H ws vs → ws.length = vs.length
  | _, _, .nil => rfl
  | _, _, .cons _ rs => congrArg (· + 1) rs.length
theorem Reps.append : ∀ {ws us : List W} {vs xs : List V}, Reps K H ws vs → Reps K H us xs → Reps K H (ws ++ us) (vs ++ xs)
  | _, _, _, _, .nil, s => s
  | _, _, _, _, .cons r rs, s => .cons r (rs.append s)
theorem Reps.take : ∀ {ws : List W} {vs : List V} (n : Nat), Reps K H ws vs → Reps K H (ws.take n) (vs.take n)
  | _, _, 0, _ => .nil
  | _, _, _ + 1, .nil => .nil
  | _, _, n + 1, .cons r rs => .cons r (rs.take n)
theorem Reps.drop : ∀ {ws : List W} {vs : List V} (n : Nat), Reps K H ws vs → Reps K H (ws.drop n) (vs.drop n)
  | _, _, 0, r => r
  | _, _, _ + 1, .nil => .nil
  | _, _, n + 1, .cons _ rs => rs.drop n
theorem Reps.get : ∀ {ws : List W} {vs : List V} {i : Nat} {w : W}, Reps K H ws vs → ws[i]? = some w → ∃ v, vs[i]? = some v ∧ Rep K H w v
  | _, _, _, _, .nil, e => by simp at e
  | _, _, 0, _, .cons r _, e => by simp at e; subst e; exact ⟨_, rfl, r⟩
  | _, _, i + 1, w, .cons _ rs, e => by
    obtain ⟨v, h1, h2⟩ := Reps.get (i := i) (w := w) rs (by simpa using e)
    exact ⟨v, by simpa using h1, h2⟩
theorem Reps.ints : ∀ ns : List Int, Reps K H (ns.map W.int) (ns.map V.int)
  | [] => .nil
  | n :: ns => .cons (.int n) (Reps.ints ns)
end
noncomputable abbrev bmV : List Value := [.type "ValueError", .type "Exception", .type "BaseException", .type "object"]
structure XC (K : PySem.W.Frag) (C : Addr) (bm : List Value) : Prop where
  obj : ∀ h : Heap, K.In h → ∃ N nm qn bs hdct sn sub ab col dd k0 k1 k2 k3 k5 mN, h.get? C = some (excClassObj nm qn C N bs bm hdct sn sub ab col dd k0 k1 k2 k3 k5 "ValueError.__new__") ∧ h.Ns N mN ∧ mN "__init__" = none ∧ OwnTail h bmV bm
  mro : ∀ v, PySem.W.mroIn K C v = some ((Value.ref C :: bm).contains v)
structure XQ (K : PySem.W.Frag) (C : Addr) : Prop where
  ga : PySem.W.findIn K (.ref C) "__getattribute__" = some (some (.builtin "BaseException.__getattribute__"))
  gx : PySem.W.findIn K (.ref C) "__getattr__" = some none
  gc : PySem.W.findIn K (.ref C) "__class__" = some (some (.builtin "object.__class__"))
structure XD (K : PySem.W.Frag) (D : Addr) : Prop where
  cls : ∃ cd, PySem.W.clsIn K D = some cd
  ty : PySem.W.typeIn K (.ref D) = some (.type "type")
  ins : PySem.W.instIn K (.ref D) (.type "type") = some true
structure XO (K : PySem.W.Frag) (C : Addr) : Prop where
  c : ∃ bm, XC K C bm
  q : XQ K C
  d : XD K C
noncomputable def GOk (K : PySem.W.Frag) (H : Hp) (a : Addr) : GO → Prop
  | .lst ws => ws.length ≤ 100000 ∧ ∃ xs, H a = some (.lst xs) ∧ Reps K H ws xs
  | .dct => H a = some (.dK [])
  | .exc C => XO K C ∧ H a = some (.ext fun h => ∃ o, h.get? a = some o ∧ o.cls = .ref C)
  | .dic kvs => kvs.length ≤ 100000 ∧ ∃ kvs', H a = some (.dK kvs') ∧ kvs'.map (·.1) = kvs.map (·.1) ∧ Reps K H (kvs.map (·.2)) (kvs'.map (·.2))
  | .fdc o us kvs => kvs.length ≤ 100000 ∧ H a = some (.frz o (.dK us)) ∧ us.map (·.1) = kvs.map (·.1) ∧ Reps K H (kvs.map (·.2)) (us.map (·.2))
  | .ins C fs => fs.length ≤ 100 ∧ ∃ dx fs', H a = some (.ins C dx fs') ∧ fs'.map (·.1) = fs.map (·.1) ∧ Reps K H (fs.map (·.2)) (fs'.map (·.2))
  | .tbl ps => H a = some (.tbl ps)
  | .any P => P H a ∧ (∃ o, H a = some o) ∧ ∀ H1 H2 : Hp, TLe H1 H2 → H2 a = H1 a → P H1 a → P H2 a
noncomputable def RelG (K : PySem.W.Frag) (H : Hp) (G : Gp) : Prop := ∀ a g, G a = some g → GOk K H a g
section
variable {K : PySem.W.Frag} {H H1 : Hp} {G : Gp} {p a : Addr} {g : GO}
theorem GOk.has (h : GOk K H a g) : ∃ o, H a = some o := by
  cases g with
  | lst ws => obtain ⟨_, _, e, _⟩ := h; exact ⟨_, e⟩
  | dct => exact ⟨_, h⟩
  | exc C => exact ⟨_, h.2⟩
  | dic kvs => obtain ⟨_, _, e, _⟩ := h; exact ⟨_, e⟩
  | fdc o us kvs => obtain ⟨_, e, _⟩ := h; exact ⟨_, e⟩
  | ins C fs => obtain ⟨_, _, _, e, _⟩ := h; exact ⟨_, e⟩
  | tbl ps => exact ⟨_, h⟩
  | any P => exact h.2.1
theorem GOk.mono (t : TLe H H1) (e : H1 a = H a) (h : GOk K H a g) : GOk K H1 a g := by
  cases g with
  | lst ws => obtain ⟨l, xs, e1, r⟩ := h; exact ⟨l, xs, e.trans e1, r.mono t⟩
  | dct => exact e.trans h
  | exc C => exact ⟨h.1, e.trans h.2⟩
  | dic kvs => obtain ⟨l, xs, e1, n, r⟩ := h; exact ⟨l, xs, e.trans e1, n, r.mono t⟩
  | fdc o us kvs => obtain ⟨l, e1, n, r⟩ := h; exact ⟨l, e.trans e1, n, r.mono t⟩
  | ins C fs => obtain ⟨l, dx, xs, e1, n, r⟩ := h; exact ⟨l, dx, xs, e.trans e1, n, r.mono t⟩
  | tbl ps => exact e.trans h
  | any P => exact ⟨h.2.2 _ _ t e h.1, (let ⟨o, e1⟩ := h.2.1; ⟨o, e.trans e1⟩), h.2.2⟩
theorem RelG.fresh (h : RelG K H G) (hp : H p = none) : G p = none := by
  cases e : G p with
  | none => rfl
  | some g =>
    obtain ⟨o, e1⟩ := (h p _ e).has
    rw [hp] at e1; cases e1
theorem RelG.upd (h : RelG K H G) (t : TLe H (upd H p o)) (hG : G p = none) : RelG K (L2.upd H p o) G := fun a g e => by
  have hne : a ≠ p := fun z => by rw [z, hG] at e; cases e
  exact (h a g e).mono t (upd_ne hne)
theorem RelG.keep (h : RelG K H G) (hp : H p = none) (o : HO) : RelG K (L2.upd H p o) G := h.upd (TLe.new hp o) (h.fresh hp)
theorem RelG.lay (h : RelG K H G) {o : HO} (t : TLe H (L2.upd H p o)) (n : GOk K (L2.upd H p o) p g) : RelG K (L2.upd H p o) (updG G p g) := fun a g' e => by
  by_cases hb : a = p
  · subst hb
    rw [updG_same] at e; cases e
    exact n
  · rw [updG_ne hb] at e
    exact (h a g' e).mono t (upd_ne hb)
theorem RelG.put (h : RelG K H G) {xs : List V} {ws : List W} (t : TLe H (L2.upd H p (.lst xs))) (r : Reps K H ws xs) (hl : ws.length ≤ 100000) : RelG K (L2.upd H p (.lst xs)) (updG G p (.lst ws)) := h.lay t ⟨hl, xs, upd_same, r.mono t⟩
noncomputable def GLe (G0 G : Gp) : Prop := ∀ a g, G0 a = some g → G a = some g
theorem RelG.le {G0 : Gp} (h : RelG K H G) (l : GLe G0 G) : RelG K H G0 := fun a g e => h a g (l a g e)
theorem GLe.refl (G : Gp) : GLe G G := fun _ _ h => h
theorem GLe.trans {G0 G1 G2 : Gp} (a : GLe G0 G1) (b : GLe G1 G2) : GLe G0 G2 := fun x g h => b x g (a x g h)
theorem GLe.new {g : GO} (hp : G p = none) : GLe G (updG G p g) := fun a u e => by
  rw [updG_ne (fun z => by rw [z, hp] at e; cases e)]; exact e
end
noncomputable abbrev WSt := List (Option W)
noncomputable def RelSt (K : PySem.W.Frag) (H : Hp) (τ : WSt) (σ : St) : Prop := τ.length = σ.length ∧ ∀ (i : Nat) (w : W), τ[i]? = some (some w) → ∃ v, σ[i]? = some (some v) ∧ Rep K H w v
section
variable {K : PySem.W.Frag} {H H1 : Hp} {τ : WSt} {σ : St}
theorem RelSt.mono (t : TLe H H1) (h : RelSt K H τ σ) : RelSt K H1 τ σ := ⟨h.1, fun i w e => let ⟨v, e1, r⟩ := h.2 i w e; ⟨v, e1, r.mono t⟩⟩
theorem RelSt.set (h : RelSt K H τ σ) {w : W} {v : V} (r : Rep K H w v) (i : Nat) : RelSt K H (τ.set i (some w)) (σ.set i (some v)) := by
  refine ⟨by simpa using h.1, fun j u e => ?_⟩
  by_cases hj : i = j
  · subst hj
    by_cases hl : i < τ.length
    · rw [List.getElem?_set_self hl] at e
      cases e
      exact ⟨v, List.getElem?_set_self (by rw [← h.1]; exact hl), r⟩
    · rw [List.getElem?_eq_none (by simpa using hl)] at e; cases e
  · rw [List.getElem?_set_ne hj] at e
    obtain ⟨u', e1, r1⟩ := h.2 j u e
    exact ⟨u', by rw [List.getElem?_set_ne hj]; exact e1, r1⟩
theorem RelSt.start {N : List Str} {ws : List W} {vs : List V} (r : Reps K H ws vs) : RelSt K H (ws.map some ++ List.replicate (N.length - ws.length) none) (L2.start N vs) := by
  unfold L2.start
  refine ⟨by simp [r.length], fun i w e => ?_⟩
  by_cases hi : i < ws.length
  · rw [List.getElem?_append_left (by simpa using hi), List.getElem?_map] at e
    cases e1 : ws[i]? with
    | none => rw [e1] at e; cases e
    | some u =>
      rw [e1] at e; cases e
      obtain ⟨v, e2, rv⟩ := r.get e1
      refine ⟨v, ?_, rv⟩
      rw [List.getElem?_append_left (by simpa [← r.length] using hi), List.getElem?_map, e2]
      rfl
  · rw [List.getElem?_append_right (by simpa using hi), List.getElem?_replicate] at e
    split at e <;> cases e
end
noncomputable abbrev WK := W → Gp → Prop
noncomputable abbrev WE := WSt → Gp → WK → Prop
noncomputable abbrev WT := WSt → Gp → (Bool → Gp → Prop) → Prop
noncomputable abbrev WA := WSt → Gp → (List W → Gp → Prop) → Prop
structure WEnds where
  nx : WSt → Gp → Prop
  rt : WK
  bk : WSt → Gp → Prop := fun _ _ => False
  ct : WSt → Gp → Prop := fun _ _ => False
noncomputable abbrev WS := WEnds → WSt → Gp → Prop
noncomputable abbrev WG := W → WSt → Gp → (WSt → Gp → Prop) → Prop
noncomputable abbrev WGs := List W → WSt → Gp → (WSt → Gp → Prop) → Prop
noncomputable def LEx (K : PySem.W.Frag) (t : WE) : TE := fun σ H Q => ∃ τ G q, RelSt K H τ σ ∧ RelG K H G ∧ t τ G q ∧ ∀ v H1 w G1, TLe H H1 → Rep K H1 w v → RelG K H1 G1 → q w G1 → Q v H1
noncomputable def LTx (K : PySem.W.Frag) (t : WT) : TT := fun σ H Q => ∃ τ G q, RelSt K H τ σ ∧ RelG K H G ∧ t τ G q ∧ ∀ b H1 G1, TLe H H1 → RelG K H1 G1 → q b G1 → Q b H1
noncomputable def LA (K : PySem.W.Frag) (t : WA) : TA := fun σ H Q => ∃ τ G q, RelSt K H τ σ ∧ RelG K H G ∧ t τ G q ∧ ∀ vs H1 ws G1, TLe H H1 → Reps K H1 ws vs → RelG K H1 G1 → q ws G1 → Q vs H1
structure LEnds (K : PySem.W.Frag) (H : Hp) (d : WEnds) (D : Ends) : Prop where
  nx : ∀ σ1 H1 τ1 G1, TLe H H1 → RelSt K H1 τ1 σ1 → RelG K H1 G1 → d.nx τ1 G1 → D.nx σ1 H1
  rt : ∀ v H1 w G1, TLe H H1 → Rep K H1 w v → RelG K H1 G1 → d.rt w G1 → D.rt v H1
  bk : ∀ σ1 H1 τ1 G1, TLe H H1 → RelSt K H1 τ1 σ1 → RelG K H1 G1 → d.bk τ1 G1 → D.bk σ1 H1
  ct : ∀ σ1 H1 τ1 G1, TLe H H1 → RelSt K H1 τ1 σ1 → RelG K H1 G1 → d.ct τ1 G1 → D.ct σ1 H1
noncomputable def LS (K : PySem.W.Frag) (t : WS) : TS := fun D σ H => ∃ τ G d, RelSt K H τ σ ∧ RelG K H G ∧ t d τ G ∧ LEnds K H d D
theorem LEx.el {K : PySem.W.Frag} {t : WE} {σ : St} {H : Hp} {Q : VK} {P : Prop} (h : LEx K t σ H Q) (k : ∀ (τ : WSt) (G : Gp) (q : WK), RelSt K H τ σ → RelG K H G → t τ G q → (∀ v H1 w G1, TLe H H1 → Rep K H1 w v → RelG K H1 G1 → q w G1 → Q v H1) → P) : P := by
  obtain ⟨τ, G, q, a, b, c, d⟩ := h
  exact k τ G q a b c d
theorem LTx.el {K : PySem.W.Frag} {t : WT} {σ : St} {H : Hp} {Q : Bool → Hp → Prop} {P : Prop} (h : LTx K t σ H Q) (k : ∀ (τ : WSt) (G : Gp) (q : Bool → Gp → Prop), RelSt K H τ σ → RelG K H G → t τ G q → (∀ b H1 G1, TLe H H1 → RelG K H1 G1 → q b G1 → Q b H1) → P) : P := by
  obtain ⟨τ, G, q, a, b, c, d⟩ := h
  exact k τ G q a b c d
theorem LA.el {K : PySem.W.Frag} {t : WA} {σ : St} {H : Hp} {Q : List V → Hp → Prop} {P : Prop} (h : LA K t σ H Q) (k : ∀ (τ : WSt) (G : Gp) (q : List W → Gp → Prop), RelSt K H τ σ → RelG K H G → t τ G q → (∀ vs H1 ws G1, TLe H H1 → Reps K H1 ws vs → RelG K H1 G1 → q ws G1 → Q vs H1) → P) : P := by
  obtain ⟨τ, G, q, a, b, c, d⟩ := h
  exact k τ G q a b c d
theorem LS.el {K : PySem.W.Frag} {t : WS} {D : Ends} {σ : St} {H : Hp} {P : Prop} (h : LS K t D σ H) (k : ∀ (τ : WSt) (G : Gp) (d : WEnds), RelSt K H τ σ → RelG K H G → t d τ G → LEnds K H d D → P) : P := by
  obtain ⟨τ, G, q, a, b, c, d⟩ := h
  exact k τ G q a b c d
noncomputable def LG (K : PySem.W.Frag) (t : WG) : TG := fun v σ H Q => ∃ w τ G q, Rep K H w v ∧ RelSt K H τ σ ∧ RelG K H G ∧ t w τ G q ∧ ∀ σ1 H1 τ1 G1, TLe H H1 → RelSt K H1 τ1 σ1 → RelG K H1 G1 → q τ1 G1 → Q σ1 H1
noncomputable def LGs (K : PySem.W.Frag) (t : WGs) : TGs := fun vs σ H Q => ∃ ws τ G q, Reps K H ws vs ∧ RelSt K H τ σ ∧ RelG K H G ∧ t ws τ G q ∧ ∀ σ1 H1 τ1 G1, TLe H H1 → RelSt K H1 τ1 σ1 → RelG K H1 G1 → q τ1 G1 → Q σ1 H1
noncomputable def QE (X : Cx) (e : Expr) (t : WE) : Prop := PE X e (LEx X.K t)
noncomputable def QT (X : Cx) (e : Expr) (t : WT) : Prop := PT X e (LTx X.K t)
noncomputable def QW (X : Cx) (e : Expr) (t : WT) : Prop := PW X e (LTx X.K t)
noncomputable def QA (X : Cx) (es : List Expr) (t : WA) : Prop := PA X es (LA X.K t)
noncomputable def QS (X : Cx) (st : Stmt) (t : WS) : Prop := PS X st (LS X.K t)
noncomputable def QSs (X : Cx) (st : List Stmt) (t : WS) : Prop := PSs X st (LS X.K t)
noncomputable def QG (X : Cx) (e : Expr) (t : WG) : Prop := PG X e (LG X.K t)
noncomputable def QGs (X : Cx) (es : List Expr) (t : WGs) : Prop := PGs X es (LGs X.K t)
section
variable {X : Cx}
theorem PE.imp {e : Expr} {t t' : TE} (h : PE X e t) (f : ∀ σ H Q, t' σ H Q → t σ H Q) : PE X e t' := fun pins s σ H Q I q => h pins s σ H Q I (f _ _ _ q)
theorem PT.imp {e : Expr} {t t' : TT} (h : PT X e t) (f : ∀ σ H Q, t' σ H Q → t σ H Q) : PT X e t' := fun pins s σ H Q I q => h pins s σ H Q I (f _ _ _ q)
theorem PW.imp {e : Expr} {t t' : TT} (h : PW X e t) (f : ∀ σ H Q, t' σ H Q → t σ H Q) : PW X e t' := fun wh pins s σ H Q I q => h wh pins s σ H Q I (f _ _ _ q)
theorem PA.imp {e : List Expr} {t t' : TA} (h : PA X e t) (f : ∀ σ H Q, t' σ H Q → t σ H Q) : PA X e t' := fun pos pins s σ H Q I q => h pos pins s σ H Q I (f _ _ _ q)
theorem PS.imp {e : Stmt} {t t' : TS} (h : PS X e t) (f : ∀ D σ H, t' D σ H → t D σ H) : PS X e t' := fun pins s σ H D I q => h pins s σ H D I (f _ _ _ q)
theorem PSs.imp {e : List Stmt} {t t' : TS} (h : PSs X e t) (f : ∀ D σ H, t' D σ H → t D σ H) : PSs X e t' := fun pins s σ H D I q => h pins s σ H D I (f _ _ _ q)
theorem PG.imp {e : Expr} {t t' : TG} (h : PG X e t) (f : ∀ v σ H Q, t' v σ H Q → t v σ H Q) : PG X e t' := fun pins s σ H v u Q I r q => h pins s σ H v u Q I r (f _ _ _ _ q)
theorem PGs.imp {e : List Expr} {t t' : TGs} (h : PGs X e t) (f : ∀ v σ H Q, t' v σ H Q → t v σ H Q) : PGs X e t' := fun pins s σ H v u Q I r q => h pins s σ H v u Q I r (f _ _ _ _ q)
noncomputable def wVar (i : Nat) : WE := fun τ G q => match τ[i]? with | some (some w) => q w G | _ => False
noncomputable def wC (w : W) : WE := fun _ G q => q w G
theorem qe_var (i : Nat) {x : Str} {pos : Pos} (hN : X.N[i]? = some x) (hv : Vis X.env.scope x) (hd : (x == ("__debug__" : Str)) = false := by decide) (hcd : (x == ("__classdict__" : Str)) = false := by decide) : QE X (.Name x pos) (wVar i) := by
  refine (pe_var hN hv hd hcd).imp fun σ H Q z0 => z0.el fun τ G q hs hg ht hQ => ?_
  unfold wVar at ht
  split at ht
  · rename_i w e
    obtain ⟨v, e1, r⟩ := hs.2 i w e
    exact ⟨v, e1, hQ v H w G (TLe.refl H) r hg ht⟩
  · exact ht.elim
theorem qe_const {e : Expr} {v : V} {w : W} (h : PE X e (tC v)) (r : ∀ H, Rep X.K H w v) : QE X e (wC w) :=
  h.imp fun σ H Q z0 => z0.el fun τ G q hs hg ht hQ => hQ v H w G (TLe.refl H) (r H) hg ht
theorem qe_int {i j pos} : QE X (.Constant (.int i) j pos) (wC (.int i)) := qe_const pe_int fun _ => .int i
theorem qe_bl {b j pos} : QE X (.Constant (.bool b) j pos) (wC (.bl b)) := qe_const pe_bl fun _ => .bl b
theorem qe_str {x j pos} : QE X (.Constant (.str x) j pos) (wC (.str x)) := qe_const pe_str fun _ => .str x
noncomputable abbrev W2 := W → W → Gp → WK → Prop
noncomputable def LR (K : PySem.W.Frag) (r : W2) : R2 := fun x y H Q => ∃ wx wy G q, Rep K H wx x ∧ Rep K H wy y ∧ RelG K H G ∧ r wx wy G q ∧ ∀ v H1 w G1, TLe H H1 → Rep K H1 w v → RelG K H1 G1 → q w G1 → Q v H1
noncomputable def QOp (X : Cx) (f : Value → Value → Sem Value) (r : W2) : Prop := OpR X f (LR X.K r)
noncomputable def QIx (X : Cx) (r : W2) : Prop := IxR X (LR X.K r)
noncomputable def wOp (r : W2) (ta tb : WE) : WE := fun τ G q => ta τ G fun x G1 => tb τ G1 fun y G2 => r x y G2 q
theorem LEx.op {K : PySem.W.Frag} {r : W2} {ta tb : WE} {σ : St} {H : Hp} {Q : VK} (h : LEx K (wOp r ta tb) σ H Q) : tOp (LR K r) (LEx K ta) (LEx K tb) σ H Q := by
  obtain ⟨τ, G, q, hs, hg, ht, hQ⟩ := h
  refine ⟨τ, G, _, hs, hg, ht, fun v H1 w G1 t1 r1 g1 q1 => ?_⟩
  refine ⟨τ, G1, _, hs.mono t1, g1, q1, fun v2 H2 w2 G2 t2 r2 g2 q2 => ?_⟩
  exact ⟨w, w2, G2, q, r1.mono t2, r2, g2, q2, fun v3 H3 w3 G3 t3 r3 g3 q3 => hQ v3 H3 w3 G3 ((t1.trans t2).trans t3) r3 g3 q3⟩
theorem qe_op {op : Operator} {r : W2} {a b : Expr} {ta tb : WE} {pos : Pos} (ho : QOp X (binaryOp op) r) (ha : QE X a ta) (hb : QE X b tb) : QE X (.BinOp a op b pos) (wOp r ta tb) :=
  (pe_op ho ha hb).imp fun _ _ _ h => h.op
theorem qe_cmp {op : CmpOp} {r : W2} {a b : Expr} {ta tb : WE} {pos : Pos} (ho : QOp X (compareOp op) r) (ha : QE X a ta) (hb : QE X b tb) (hm : behindInMarks op b = false) : QE X (.Compare a [op] [b] pos) (wOp r ta tb) :=
  (pe_cmpR ho ha hb hm).imp fun _ _ _ h => h.op
theorem qe_ix {r : W2} {a b : Expr} {ta tb : WE} {pos : Pos} (ho : QIx X r) (ha : QE X a ta) (hb : QE X b tb) (hs : PlainIx b) : QE X (.Subscript a b pos) (wOp r ta tb) :=
  (pe_ix ho ha hb hs).imp fun _ _ _ h => h.op
noncomputable def wTest (t : WE) : WT := fun τ G q => t τ G fun x G1 => match x with | .bl b => q b G1 | _ => False
theorem LTx.test {K : PySem.W.Frag} {t : WE} {σ : St} {H : Hp} {Q : Bool → Hp → Prop} (h : LTx K (wTest t) σ H Q) : tTest (LEx K t) σ H Q := by
  obtain ⟨τ, G, q, hs, hg, ht, hQ⟩ := h
  refine ⟨τ, G, _, hs, hg, ht, fun v H1 w G1 t1 r1 g1 q1 => ?_⟩
  split at q1
  · rename_i b
    cases r1
    exact ⟨b, rfl, hQ b H1 G1 t1 g1 q1⟩
  · exact q1.elim
theorem qt_cmp {op : CmpOp} {r : W2} {a b : Expr} {ta tb : WE} {pos : Pos} (ho : QOp X (compareOp op) r) (ha : QE X a ta) (hb : QE X b tb) (hm : behindInMarks op b = false) : QT X (.Compare a [op] [b] pos) (wTest (wOp r ta tb)) :=
  (pt_cmpR ho ha hb hm).imp fun σ H Q h => by
    obtain ⟨τ, G, q, hs, hg, ht, hQ⟩ := h.test
    exact LEx.op ⟨τ, G, q, hs, hg, ht, hQ⟩
theorem qt_val {e : Expr} {t : WE} (h : QE X e t) (he : ∀ whole, isTrue e X.env whole = (do let v ← whole; standAt e.pos; holding [v] (truthy v)) := by intro _; rfl) : QT X e (wTest t) :=
  (pt_val h he).imp fun σ H Q h => h.test
noncomputable def wAnd (t u : WT) : WT := fun τ G q => t τ G fun c G1 => if c = true then u τ G1 q else q false G1
noncomputable def wOr (t u : WT) : WT := fun τ G q => t τ G fun c G1 => if c = true then q true G1 else u τ G1 q
noncomputable def wNot (t : WT) : WT := fun τ G q => t τ G fun c G1 => q (!c) G1
theorem qw_and1 {a : Expr} {t : WT} {pos : Pos} (ha : QT X a t) : QW X (.BoolOp .And [a] pos) t := pw_and1 ha
theorem qw_or1 {a : Expr} {t : WT} {pos : Pos} (ha : QT X a t) : QW X (.BoolOp .Or [a] pos) t := pw_or1 ha
theorem qw_and {a b : Expr} {rest : List Expr} {t u : WT} {pos : Pos} (ha : QT X a t) (hb : QW X (.BoolOp .And (b :: rest) pos) u) : QW X (.BoolOp .And (a :: b :: rest) pos) (wAnd t u) :=
  (pw_and ha hb).imp fun σ H Q z0 => z0.el fun τ G q hs hg ht hQ => ⟨τ, G, _, hs, hg, ht, fun c H1 G1 t1 g1 q1 => by
    cases c with
    | true => rw [if_pos rfl] at q1 ⊢; exact ⟨τ, G1, q, hs.mono t1, g1, q1, fun b H2 G2 t2 g2 q2 => hQ b H2 G2 (t1.trans t2) g2 q2⟩
    | false => rw [if_neg Bool.false_ne_true] at q1 ⊢; exact hQ false H1 G1 t1 g1 q1⟩
theorem qw_or {a b : Expr} {rest : List Expr} {t u : WT} {pos : Pos} (ha : QT X a t) (hb : QW X (.BoolOp .Or (b :: rest) pos) u) : QW X (.BoolOp .Or (a :: b :: rest) pos) (wOr t u) :=
  (pw_or ha hb).imp fun σ H Q z0 => z0.el fun τ G q hs hg ht hQ => ⟨τ, G, _, hs, hg, ht, fun c H1 G1 t1 g1 q1 => by
    cases c with
    | true => rw [if_pos rfl] at q1 ⊢; exact hQ true H1 G1 t1 g1 q1
    | false => rw [if_neg Bool.false_ne_true] at q1 ⊢; exact ⟨τ, G1, q, hs.mono t1, g1, q1, fun b H2 G2 t2 g2 q2 => hQ b H2 G2 (t1.trans t2) g2 q2⟩⟩
theorem qt_w {e : Expr} {t : WT} (h : QW X e t) : QT X e t := PW.pt h
theorem qt_not {a : Expr} {t : WT} {pos : Pos} (ha : QT X a t) : QT X (.UnaryOp .Not a pos) (wNot t) :=
  (pt_not ha).imp fun σ H Q z0 => z0.el fun τ G q hs hg ht hQ => ⟨τ, G, _, hs, hg, ht, fun c H1 G1 t1 g1 q1 => hQ (!c) H1 G1 t1 g1 q1⟩
noncomputable def wAndV (ta tb : WE) : WE := fun τ G q => ta τ G fun x G1 => match x with | .bl c => if c = true then tb τ G1 q else q (.bl false) G1 | _ => False
noncomputable def wOrV (ta tb : WE) : WE := fun τ G q => ta τ G fun x G1 => match x with | .bl c => if c = true then q (.bl true) G1 else tb τ G1 q | _ => False
noncomputable def wNotV (ta : WE) : WE := fun τ G q => ta τ G fun x G1 => match x with | .bl c => q (.bl (!c)) G1 | _ => False
theorem qe_one {a : Expr} {op} {t : WE} {pos : Pos} (h : QE X a t) : QE X (.BoolOp op [a] pos) t := pe_one h
theorem qe_and {a b : Expr} {rest : List Expr} {ta tb : WE} {pos : Pos} (ha : QE X a ta) (hb : QE X (.BoolOp .And (b :: rest) pos) tb) : QE X (.BoolOp .And (a :: b :: rest) pos) (wAndV ta tb) :=
  (pe_and ha hb).imp fun σ H Q z0 => z0.el fun τ G q hs hg ht hQ => ⟨τ, G, _, hs, hg, ht, fun v H1 w G1 t1 r1 g1 q1 => by
    split at q1
    · rename_i c
      cases r1
      refine ⟨c, rfl, ?_⟩
      cases c with
      | true => rw [if_pos rfl] at q1 ⊢; exact ⟨τ, G1, q, hs.mono t1, g1, q1, fun v2 H2 w2 G2 t2 r2 g2 q2 => hQ v2 H2 w2 G2 (t1.trans t2) r2 g2 q2⟩
      | false => rw [if_neg Bool.false_ne_true] at q1 ⊢; exact hQ _ H1 _ G1 t1 (.bl false) g1 q1
    · exact q1.elim⟩
theorem qe_not {a : Expr} {ta : WE} {pos : Pos} (ha : QE X a ta) : QE X (.UnaryOp .Not a pos) (wNotV ta) :=
  (pe_not ha).imp fun σ H Q z0 => z0.el fun τ G q hs hg ht hQ => ⟨τ, G, _, hs, hg, ht, fun v H1 w G1 t1 r1 g1 q1 => by
    split at q1
    · rename_i c
      cases r1
      exact ⟨c, rfl, hQ _ H1 _ G1 t1 (.bl _) g1 q1⟩
    · exact q1.elim⟩
noncomputable def wIfE (c : WT) (ta tb : WE) : WE := fun τ G q => c τ G fun b G1 => if b = true then ta τ G1 q else tb τ G1 q
theorem qe_ifExp {c a b : Expr} {tc : WT} {ta tb : WE} {pos : Pos} (hc : QT X c tc) (ha : QE X a ta) (hb : QE X b tb) : QE X (.IfExp c a b pos) (wIfE tc ta tb) :=
  (pe_ifExp hc ha hb).imp fun σ H Q z0 => z0.el fun τ G q hs hg ht hQ => ⟨τ, G, _, hs, hg, ht, fun c H1 G1 t1 g1 q1 => by
    cases c with
    | true => rw [if_pos rfl] at q1 ⊢; exact ⟨τ, G1, q, hs.mono t1, g1, q1, fun v2 H2 w2 G2 t2 r2 g2 q2 => hQ v2 H2 w2 G2 (t1.trans t2) r2 g2 q2⟩
    | false => rw [if_neg Bool.false_ne_true] at q1 ⊢; exact ⟨τ, G1, q, hs.mono t1, g1, q1, fun v2 H2 w2 G2 t2 r2 g2 q2 => hQ v2 H2 w2 G2 (t1.trans t2) r2 g2 q2⟩⟩
noncomputable def wNil : WA := fun _ G q => q [] G
noncomputable def wCons (ta : WE) (tr : WA) : WA := fun τ G q => ta τ G fun x G1 => tr τ G1 fun xs G2 => q (x :: xs) G2
theorem qa_nil : QA X [] wNil := pa_nil.imp fun σ H Q z0 => z0.el fun τ G q hs hg ht hQ => hQ [] H [] G (TLe.refl H) .nil hg ht
theorem qa_cons {e : Expr} {es : List Expr} {te : WE} {t : WA} (ha : QE X e te) (hr : QA X es t) (hs : starEach (e :: es) X.env = (false, eval e X.env) :: starEach es X.env := by rfl) : QA X (e :: es) (wCons te t) :=
  (pa_cons ha hr hs).imp fun σ H Q z0 => z0.el fun τ G q hs hg ht hQ => ⟨τ, G, _, hs, hg, ht, fun v H1 w G1 t1 r1 g1 q1 =>
    ⟨τ, G1, _, hs.mono t1, g1, q1, fun vs H2 ws G2 t2 r2 g2 q2 => hQ (v :: vs) H2 (w :: ws) G2 (t1.trans t2) (.cons (r1.mono t2) r2) g2 q2⟩⟩
theorem line_le {n : Nat} (h : n ≤ 100000) : n ≤ sizeLine := by rw [sizeLine_eq]; exact Nat.le_trans (by assumption) (Nat.le_of_ble_eq_true rfl)
noncomputable def wTup (t : WA) : WE := fun τ G q => t τ G fun ws G1 => ws.length ≤ 100000 ∧ q (.tup ws) G1
noncomputable def wLst (t : WA) : WE := fun τ G q => t τ G fun ws G1 => ws.length ≤ 100000 ∧ ∀ p, G1 p = none → q (.ref p) (updG G1 p (.lst ws))
theorem qe_tup {es : List Expr} {x1} {t : WA} {pos : Pos} (h : QA X es t) : QE X (.Tuple es x1 pos) (wTup t) :=
  (pe_tup h).imp fun σ H Q z0 => z0.el fun τ G q hs hg ht hQ => ⟨τ, G, _, hs, hg, ht, fun vs H1 ws G1 t1 r1 g1 q1 =>
    ⟨by rw [← r1.length]; exact line_le q1.1, fun p hp => hQ _ _ _ G1 (t1.trans (TLe.new hp _)) (.tup upd_same (r1.mono (TLe.new hp _))) (g1.keep hp _) q1.2⟩⟩
theorem qe_lst {es : List Expr} {t : WA} {pos : Pos} (h : QA X es t) : QE X (.List es pos) (wLst t) :=
  (pe_lst h).imp fun σ H Q z0 => z0.el fun τ G q hs hg ht hQ => ⟨τ, G, _, hs, hg, ht, fun vs H1 ws G1 t1 r1 g1 q1 =>
    ⟨by rw [← r1.length]; exact line_le q1.1, fun p hp => hQ _ _ _ _ (t1.trans (TLe.new hp _)) (.ref p) (g1.put (TLe.new hp _) r1 q1.1) (q1.2 p (g1.fresh hp))⟩⟩
noncomputable def wNext : WS := fun d τ G => d.nx τ G
noncomputable def wSeq (t u : WS) : WS := fun d τ G => t { d with nx := u d } τ G
theorem LEnds.mono {K : PySem.W.Frag} {H H1 : Hp} {d : WEnds} {D : Ends} (l : LEnds K H d D) (t : TLe H H1) : LEnds K H1 d D :=
  ⟨fun σ2 H2 τ2 G2 t2 => l.nx σ2 H2 τ2 G2 (t.trans t2), fun v H2 w G2 t2 => l.rt v H2 w G2 (t.trans t2), fun σ2 H2 τ2 G2 t2 => l.bk σ2 H2 τ2 G2 (t.trans t2), fun σ2 H2 τ2 G2 t2 => l.ct σ2 H2 τ2 G2 (t.trans t2)⟩
theorem qss_nil : QSs X [] wNext := pss_nil.imp fun D σ H z0 => z0.el fun τ G d hs hg ht l => l.nx σ H τ G (TLe.refl H) hs hg ht
theorem qss_cons {st : Stmt} {rest : List Stmt} {t u : WS} (h1 : QS X st t) (h2 : QSs X rest u) : QSs X (st :: rest) (wSeq t u) :=
  (pss_cons h1 h2).imp fun D σ H z0 => z0.el fun τ G d hs hg ht l => ⟨τ, G, _, hs, hg, ht, ⟨fun σ1 H1 τ1 G1 t1 s1 g1 q1 => ⟨τ1, G1, d, s1, g1, q1, l.mono t1⟩, l.rt, l.bk, l.ct⟩⟩
theorem qss_one {st : Stmt} {t : WS} (h1 : QS X st t) : QSs X [st] t := pss_one h1
noncomputable def wDrop (te : WE) : WS := fun d τ G => te τ G fun _ G1 => d.nx τ G1
theorem qs_expr {e : Expr} {te : WE} {pos : Pos} (he : QE X e te) (hs : swapsWith e none pos.line X.env = pure false := by rfl) : QS X (.Expr e pos) (wDrop te) :=
  (ps_expr he hs).imp fun D σ H z0 => z0.el fun τ G d hs hg ht l => ⟨τ, G, _, hs, hg, ht, fun v H1 w G1 t1 r1 g1 q1 => l.nx σ H1 τ G1 t1 (hs.mono t1) g1 q1⟩
noncomputable def wRet (te : WE) : WS := fun d τ G => te τ G d.rt
theorem qs_ret {e : Expr} {te : WE} {pos : Pos} (he : QE X e te) : QS X (.Return (some e) pos) (wRet te) :=
  (ps_ret he).imp fun D σ H z0 => z0.el fun τ G d hs hg ht l => ⟨τ, G, _, hs, hg, ht, fun v H1 w G1 t1 r1 g1 q1 => l.rt v H1 w G1 t1 r1 g1 q1⟩
noncomputable def wIf (c : WT) (t u : WS) : WS := fun d τ G => c τ G fun b G1 => if b = true then t d τ G1 else u d τ G1
theorem qs_if {c : Expr} {a b : List Stmt} {tc : WT} {t u : WS} {pos : Pos} (hc : QT X c tc) (ha : QSs X a t) (hb : QSs X b u) : QS X (.If c a b pos) (wIf tc t u) :=
  (ps_if hc ha hb).imp fun D σ H z0 => z0.el fun τ G d hs hg ht l => ⟨τ, G, _, hs, hg, ht, fun c H1 G1 t1 g1 q1 => by
    cases c with
    | true => rw [if_pos rfl] at q1 ⊢; exact ⟨τ, G1, d, hs.mono t1, g1, q1, l.mono t1⟩
    | false => rw [if_neg Bool.false_ne_true] at q1 ⊢; exact ⟨τ, G1, d, hs.mono t1, g1, q1, l.mono t1⟩⟩
noncomputable def hName (i : Nat) : WG := fun w τ G q => q (τ.set i (some w)) G
theorem qg_name (i : Nat) {x : Str} {pos : Pos} (hN : X.N.Nodup) (hi : X.N[i]? = some x) (hx : Loc X.env.scope x) (hf : X.fn x = true ∨ X.env.scope.names.lookup x = some .local := by first | exact .inl rfl | exact .inr rfl | assumption) : QG X (.Name x pos) (hName i) :=
  (pg_name hN hi hx hf).imp fun v σ H Q ⟨w, τ, G, q, r, hs, hg, ht, hQ⟩ => hQ _ H _ G (TLe.refl H) (hs.set r i) hg ht
noncomputable def hNil : WGs := fun ws τ G q => match ws with | [] => q τ G | _ => False
noncomputable def hCons (t : WG) (u : WGs) : WGs := fun ws τ G q => match ws with | w :: r => t w τ G fun τ1 G1 => u r τ1 G1 q | [] => False
theorem qgs_nil : QGs X [] hNil := pgs_nil.imp fun vs σ H Q ⟨ws, τ, G, q, r, hs, hg, ht, hQ⟩ => by
  unfold hNil at ht
  cases r with
  | nil => exact ⟨rfl, hQ σ H τ G (TLe.refl H) hs hg ht⟩
  | cons _ _ => exact ht.elim
theorem qgs_cons {e : Expr} {es : List Expr} {t : WG} {u : WGs} (h1 : QG X e t) (h2 : QGs X es u)
    (hs : (assignEach (e :: es) X.env).map (·.2) = assign e X.env :: (assignEach es X.env).map (·.2) := by rfl) : QGs X (e :: es) (hCons t u) :=
  (pgs_cons h1 h2 hs).imp fun vs σ H Q ⟨ws, τ, G, q, r, hs, hg, ht, hQ⟩ => by
    unfold hCons at ht
    cases r with
    | nil => exact ht.elim
    | cons r rs =>
      exact ⟨_, _, rfl, _, τ, G, _, r, hs, hg, ht, fun σ1 H1 τ1 G1 t1 s1 g1 q1 => ⟨_, τ1, G1, q, rs.mono t1, s1, g1, q1, fun σ2 H2 τ2 G2 t2 => hQ σ2 H2 τ2 G2 (t1.trans t2)⟩⟩
noncomputable def hTup (n : Nat) (t : WGs) : WG := fun w τ G q => match w with | .tup ws => ws.length = n ∧ t ws τ G q | _ => False
theorem qg_tup {es : List Expr} {k : Nat} {t : WGs} {pos : Pos} (hc : X.calm = true) (h : QGs X es t)
    (hn : (assignEach es X.env).length = es.length := by rfl) (hst : (assignEach es X.env).findIdx? (·.1) = none := by rfl) : QG X (.Tuple es k pos) (hTup es.length t) :=
  (pg_tup hc h hn hst).imp fun v σ H Q ⟨w, τ, G, q, r, hs, hg, ht, hQ⟩ => by
    unfold hTup at ht
    cases r with
    | tup h r => exact ⟨_, _, rfl, SqT.of h, by rw [← r.length]; exact ht.1, _, τ, G, q, r, hs, hg, ht.2, hQ⟩
    | _ => exact ht.elim
noncomputable def wAsg (te : WE) (g : WG) : WS := fun d τ G => te τ G fun x G1 => g x τ G1 d.nx
theorem qs_set (i : Nat) {x : Str} {e : Expr} {te : WE} {pos' pos : Pos} (hN : X.N.Nodup) (hi : X.N[i]? = some x) (hx : Loc X.env.scope x) (he : QE X e te) (hs : swapsWith e (some (.Name x pos')) pos.line X.env = pure false := by rfl) (hf : X.fn x = true ∨ X.env.scope.names.lookup x = some .local := by first | exact .inl rfl | exact .inr rfl | assumption) :
    QS X (.Assign [.Name x pos'] e pos) (wAsg te (hName i)) :=
  (ps_set hN hi hx he hs hf).imp fun D σ H z0 => z0.el fun τ G d hs hg ht l =>
    ⟨τ, G, _, hs, hg, ht, fun v H1 w G1 t1 r1 g1 q1 => l.nx _ H1 _ G1 t1 ((hs.mono t1).set r1 i) g1 q1⟩
noncomputable def wWhile (c : WT) (tb : WS) : WS := fun d τ G => ∃ I : Nat → WSt → Gp → Prop, (∃ m, I m τ G) ∧ ∀ m τ G, I m τ G →
  c τ G fun b G1 => if b = true then ∃ N : WSt → Gp → Prop, (∀ τ1 G1, N τ1 G1 → ∃ m1, m1 < m ∧ I m1 τ1 G1) ∧ tb { d with nx := N, ct := N, bk := d.nx } τ G1 else d.nx τ G1
theorem qs_while {c : Expr} {body : List Stmt} {tc : WT} {tb : WS} {pos : Pos} (hp : PassesOwn (model X.prog X.w) X.A X.env X.xe) (hc : QT X c tc) (hb : QSs X body tb) : QS X (.While c body [] pos) (wWhile tc tb) :=
  (ps_while hp hc hb).imp fun D σ H ⟨τ, G, d, hs, hg, ⟨I, ⟨m, i0⟩, turn⟩, l⟩ => by
    refine ⟨fun m σ1 H1 => ∃ τ1 G1, TLe H H1 ∧ RelSt X.K H1 τ1 σ1 ∧ RelG X.K H1 G1 ∧ I m τ1 G1, ⟨m, τ, G, TLe.refl H, hs, hg, i0⟩, ?_⟩
    rintro m1 σ1 H1 ⟨τ1, G1, t1, s1, g1, i1⟩
    refine ⟨τ1, G1, _, s1, g1, turn m1 τ1 G1 i1, fun b H2 G2 t2 g2 q2 => ?_⟩
    cases b with
    | true =>
      rw [if_pos rfl] at q2 ⊢
      obtain ⟨N, hN, q2⟩ := q2
      refine ⟨fun σ3 H3 => ∃ τ3 G3, TLe H H3 ∧ RelSt X.K H3 τ3 σ3 ∧ RelG X.K H3 G3 ∧ N τ3 G3, ?_, τ1, G2, _, s1.mono t2, g2, q2, ?_⟩
      · rintro σ3 H3 ⟨τ3, G3, t3, s3, g3, n3⟩
        obtain ⟨m3, hm, i3⟩ := hN τ3 G3 n3
        exact ⟨m3, hm, τ3, G3, t3, s3, g3, i3⟩
      · have tt := t1.trans t2
        exact ⟨fun σ3 H3 τ3 G3 t3 s3 g3 q3 => ⟨τ3, G3, tt.trans t3, s3, g3, q3⟩, fun v H3 w G3 t3 => l.rt v H3 w G3 (tt.trans t3), fun σ3 H3 τ3 G3 t3 => l.nx σ3 H3 τ3 G3 (tt.trans t3), fun σ3 H3 τ3 G3 t3 s3 g3 q3 => ⟨τ3, G3, tt.trans t3, s3, g3, q3⟩⟩
    | false =>
      rw [if_neg Bool.false_ne_true] at q2 ⊢
      exact l.nx σ1 H2 τ1 G2 (t1.trans t2) (s1.mono t2) g2 q2
end
end L2
namespace L2
open PySem PySem.Spec PyProof.Rows
section
variable {X : Cx}
noncomputable abbrev WX := Value → Gp → Prop
noncomputable abbrev WSp := List W → Gp → WK → WX → Prop
noncomputable def LSp (K : PySem.W.Frag) (sp : WSp) : Sp := fun vs H Q E => ∃ ws G q e, Reps K H ws vs ∧ RelG K H G ∧ sp ws G q e ∧ (∀ v H1 w G1, TLe H H1 → Rep K H1 w v → RelG K H1 G1 → q w G1 → Q v H1) ∧
  ∀ c d H1 G1, TLe H H1 → RelG K H1 G1 → e c G1 → E c d H1
noncomputable abbrev WFn (P : Program) (w : World) (K : PySem.W.Frag) (mg : Str → Option Value) (base : Heap) (k : Nat) (f : Addr) (fd : FuncData) (ps : List Str) (sp : WSp) : Prop := FnOk P w K mg base CX0 k f fd ps (LSp K sp)
noncomputable def wCall (sp : WSp) (dws : List W) (t : WA) : WE := fun τ G q => t τ G fun ws G1 => sp (ws ++ dws) G1 q fun _ _ => False
theorem LEx.call {K : PySem.W.Frag} {sp : WSp} {dws : List W} {dvs : List V} {t : WA} {σ : St} {H : Hp} {Q : VK} {E : XK} (hd : ∀ H, Reps K H dws dvs) (h : LEx K (wCall sp dws t) σ H Q) : tCall (LSp K sp) dvs E (LA K t) σ H Q := by
  obtain ⟨τ, G, q, hs, hg, ht, hQ⟩ := h
  exact ⟨τ, G, _, hs, hg, ht, fun vs H1 ws G1 t1 r1 g1 q1 => ⟨ws ++ dws, G1, q, _, r1.append (hd H1), g1, q1, fun v H2 w G2 t2 => hQ v H2 w G2 (t1.trans t2), fun _ _ _ _ _ _ z => z.elim⟩⟩
theorem qe_call {k : Nat} {f : Addr} {fd : FuncData} {ps : List Str} {sp : WSp} {x : Str} {p pos : Pos} {e : Expr} {es : List Expr} {t : WA} (F : WFn X.prog X.w X.K X.mg X.base k f fd ps sp) (hr : Room k X.A) (hg : Gl X x) (hm : X.mg x = some (.ref f))
    (hk : PySem.W.keepIn X.K (.ref f) = true) (hb : Binds X.K fd ps []) (ha : QA X (e :: es) t) (hdb : (x == ("__debug__" : Str)) = false := by decide)
    (he : starEach (e :: es) X.env = (false, eval e X.env) :: starEach es X.env := by rfl) (hpl : (backTo pos (starEach es X.env)).any (·.1) = false := by rfl) : QE X (.Call (.Name x p) (e :: es) [] pos) (wCall sp [] t) :=
  (pe_call F hr hg hm hk hb .nil pass0 ha hdb he hpl).imp fun _ _ _ h => h.call fun _ => .nil
theorem qe_call0 {k : Nat} {f : Addr} {fd : FuncData} {ps : List Str} {sp : WSp} {x : Str} {p pos : Pos} (F : WFn X.prog X.w X.K X.mg X.base k f fd ps sp) (hr : Room k X.A) (hg : Gl X x) (hm : X.mg x = some (.ref f))
    (hk : PySem.W.keepIn X.K (.ref f) = true) (hb : Binds X.K fd ps []) (hdb : (x == ("__debug__" : Str)) = false := by decide) : QE X (.Call (.Name x p) [] [] pos) (wCall sp [] wNil) :=
  (pe_call0 F hr hg hm hk hb .nil pass0 hdb).imp fun _ _ _ h => by
    obtain ⟨τ, G, q, hs, hg, ht, hQ⟩ := h
    exact ⟨[], G, q, _, .nil, hg, ht, hQ, fun _ _ _ _ _ _ z => z.elim⟩
noncomputable def wStart (N : List Str) (ws : List W) : WSt := ws.map some ++ List.replicate (N.length - ws.length) none
theorem WFn.none {P : Program} {w : World} {K : PySem.W.Frag} {mg : Str → Option Value} {base : Heap} {k : Nat} {f : Addr} {fd : FuncData} {ps : List Str} {sp : WSp} (h : ∀ ws G q e, ¬ sp ws G q e) : WFn P w K mg base k f fd ps sp :=
  ⟨fun _ _ _ _ ⟨_, _, _, _, _, _, z, _⟩ => absurd z (h _ _ _ _), fun _ _ _ _ _ _ _ _ _ _ _ _ _ ⟨_, _, _, _, _, _, z, _⟩ => absurd z (h _ _ _ _)⟩
theorem fn3 {P : Program} {w : World} {K : PySem.W.Frag} {mg : Str → Option Value} {base : Heap} {x qual : Str} {st : Stmt} {f : Addr} {fd : FuncData} {N ps : List Str} {k : Nat} {sp : WSp} (F : Fun K x qual st f fd) (S : FnScope N ps (defScope st)) (len : ∀ ws G q e, sp ws G q e → ws.length = ps.length)
    (hbody : ∀ (cdv : Value) (A : Around) (outer : List Env) (s : Shared) (H : Hp) (E : XK), Room k (A.deeper (envOfC qual (defScope st) s.heap.objs.size f cdv)) →
      ∃ t, QSs (cxOf CX0 P w K mg base N qual (defScope st) f cdv A outer s H E).nox (defBody st) t ∧
        ∀ (ws : List W) (G : Gp) (q : WK) (e : WX), sp ws G q e → t { nx := fun _ G1 => ∃ G0, GLe G0 G1 ∧ q .non G0, rt := fun w G1 => ∃ G0, GLe G0 G1 ∧ q w G0 } (wStart N ws) G) : WFn P w K mg base (k + 1) f fd ps sp := by
  refine F.ok S (fun vs H Q E ⟨ws, G, q, e, r, g, z, _⟩ => by rw [← r.length]; exact len _ _ _ _ z) (fun cdv A outer s H vs Q E hr ⟨ws, G, q, e, r, g, z, hQ, _⟩ => ?_)
  obtain ⟨t, ht, hq⟩ := hbody cdv A outer s H E hr
  exact ⟨_, ht, _, G, _, RelSt.start r, g, hq ws G q e z, ⟨fun σ1 H1 τ1 G1 t1 s1 g1 ⟨G0, l, q1⟩ => hQ .non H1 .non G0 t1 .non (g1.le l) q1, fun v H1 w G1 t1 r1 g1 ⟨G0, l, q1⟩ => hQ v H1 w G0 t1 r1 (g1.le l) q1, fun _ _ _ _ _ _ _ z => z.elim, fun _ _ _ _ _ _ _ z => z.elim⟩⟩
noncomputable def LCall (K : PySem.W.Frag) (r : List W → Gp → WK → Prop) : List V → Hp → VK → Prop := fun vs H Q => ∃ ws G q, Reps K H ws vs ∧ RelG K H G ∧ r ws G q ∧ ∀ v H1 w G1, TLe H H1 → Rep K H1 w v → RelG K H1 G1 → q w G1 → Q v H1
noncomputable def QCall (X : Cx) (f : Value) (r : List W → Gp → WK → Prop) : Prop := CallR X f (LCall X.K r)
noncomputable def wCB (r : List W → Gp → WK → Prop) (t : WA) : WE := fun τ G q => t τ G fun ws G1 => r ws G1 q
theorem LEx.cb {K : PySem.W.Frag} {r : List W → Gp → WK → Prop} {t : WA} {σ : St} {H : Hp} {Q : VK} (h : LEx K (wCB r t) σ H Q) : tCB (LCall K r) (LA K t) σ H Q := by
  obtain ⟨τ, G, q, hs, hg, ht, hQ⟩ := h
  exact ⟨τ, G, _, hs, hg, ht, fun vs H1 ws G1 t1 r1 g1 q1 => ⟨ws, G1, q, r1, g1, q1, fun v H2 w G2 t2 => hQ v H2 w G2 (t1.trans t2)⟩⟩
theorem qe_callB {id : String} {r : List W → Gp → WK → Prop} {x : Str} {p pos : Pos} {e : Expr} {es : List Expr} {t : WA} (hc : QCall X (.builtin id) r) (hg : Gl X x) (hm : X.mg x = none) (hv : bootBuiltins x = some (.builtin id)) (ha : QA X (e :: es) t)
    (hn : x ≠ "__name__" := by decide) (hdb : (x == ("__debug__" : Str)) = false := by decide)
    (he : starEach (e :: es) X.env = (false, eval e X.env) :: starEach es X.env := by rfl) (hpl : (backTo pos (starEach es X.env)).any (·.1) = false := by rfl) : QE X (.Call (.Name x p) (e :: es) [] pos) (wCB r t) :=
  (pe_callB hc hg hm hv ha hn hdb he hpl).imp fun _ _ _ h => h.cb
theorem qe_callTy {T : String} {r : List W → Gp → WK → Prop} {x : Str} {p pos : Pos} {e : Expr} {es : List Expr} {t : WA} (hc : QCall X (.type T) r) (hg : Gl X x) (hm : X.mg x = none) (hv : bootBuiltins x = some (.type T)) (ha : QA X (e :: es) t)
    (hn : x ≠ "__name__" := by decide) (hdb : (x == ("__debug__" : Str)) = false := by decide)
    (he : starEach (e :: es) X.env = (false, eval e X.env) :: starEach es X.env := by rfl) (hpl : (backTo pos (starEach es X.env)).any (·.1) = false := by rfl) : QE X (.Call (.Name x p) (e :: es) [] pos) (wCB r t) :=
  (pe_callTy hc hg hm hv ha hn hdb he hpl).imp fun _ _ _ h => h.cb
theorem Reps.one {K : PySem.W.Frag} {H : Hp} {w : W} {vs : List V} (r : Reps K H [w] vs) : ∃ v, vs = [v] ∧ Rep K H w v := by
  cases r with
  | cons r rs => cases rs; exact ⟨_, rfl, r⟩
noncomputable def cLen : List W → Gp → WK → Prop := fun ws G q => match ws with
  | [.tup xs] => q (.int xs.length) G
  | [.scr ns] => q (.int ns.length) G
  | [.ref a] => ∃ xs, G a = some (.lst xs) ∧ q (.int xs.length) G
  | _ => False
theorem q_len : QCall X (.builtin "len") cLen := by
  intro pins s σ H xs us Q I r ⟨ws, G, q, rw', g, h, hQ⟩
  cases rw' with
  | nil => exact False.elim h
  | cons r1 rr' =>
    cases rr' with
    | cons _ _ => cases r1 <;> exact False.elim h
    | nil =>
      cases r1 with
      | tup hh rr => exact call_len_seq pins s σ H _ us Q I r ⟨_, _, rfl, .inr (SqT.of hh), hQ _ H _ G (TLe.refl H) (by rw [rr.length]; exact .int _) g h⟩
      | scr hh => exact call_len_seq pins s σ H _ us Q I r ⟨_, _, rfl, .inl hh.sq, hQ _ H _ G (TLe.refl H) (by rw [List.length_map]; exact .int _) g h⟩
      | ref a =>
        obtain ⟨ys, e, h⟩ := h
        obtain ⟨_, zs, e1, rr⟩ := g a _ e
        exact call_len_seq pins s σ H _ us Q I r ⟨_, _, rfl, .inl (SqL.of e1), hQ _ H _ G (TLe.refl H) (by rw [rr.length]; exact .int _) g h⟩
      | _ => exact False.elim h
noncomputable def cTuple : List W → Gp → WK → Prop := fun ws G q => match ws with
  | [.tup xs] => q (.tup xs) G
  | [.ref a] => ∃ xs, G a = some (.lst xs) ∧ q (.tup xs) G
  | _ => False
theorem q_tuple : QCall X (.type "tuple") cTuple := by
  intro pins s σ H xs us Q I r ⟨ws, G, q, rw', g, h, hQ⟩
  cases rw' with
  | nil => exact False.elim h
  | cons r1 rr' =>
    cases rr' with
    | cons _ _ => cases r1 <;> exact False.elim h
    | nil =>
      cases r1 with
      | tup hh rr => exact call_tuple_of pins s σ H _ us Q I r ⟨_, _, rfl, .inr ⟨SqT.of hh, hQ _ H _ G (TLe.refl H) (.tup hh rr) g h⟩⟩
      | ref a =>
        obtain ⟨ys, e, h⟩ := h
        obtain ⟨_, zs, e1, rr⟩ := g a _ e
        exact call_tuple_of pins s σ H _ us Q I r ⟨_, _, rfl, .inl ⟨SqL.of e1, fun l hl => hQ _ _ _ G (TLe.new hl _) (.tup upd_same (rr.mono (TLe.new hl _))) (g.keep hl _) h⟩⟩
      | _ => exact False.elim h
noncomputable def cList : List W → Gp → WK → Prop := fun ws G q => match ws with
  | [.tup xs] => xs.length ≤ 100000 ∧ ∀ p, G p = none → q (.ref p) (updG G p (.lst xs))
  | [.ref a] => ∃ xs, G a = some (.lst xs) ∧ ∀ p, G p = none → q (.ref p) (updG G p (.lst xs))
  | _ => False
theorem q_list : QCall X (.type "list") cList := by
  intro pins s σ H xs us Q I r ⟨ws, G, q, rw', g, h, hQ⟩
  unfold cList at h
  split at h
  · rename_i ys
    obtain ⟨v, rfl, r1⟩ := rw'.one
    cases r1 with
    | tup hh rr => exact call_list_of pins s σ H _ us Q I r ⟨_, _, rfl, .inr (SqT.of hh), fun l hl => hQ _ _ _ _ (TLe.new hl _) (.ref l) (g.put (TLe.new hl _) rr h.1) (h.2 l (g.fresh hl))⟩
  · rename_i a
    obtain ⟨ys, e, h⟩ := h
    obtain ⟨v, rfl, r1⟩ := rw'.one
    cases r1
    obtain ⟨hl, zs, e1, rr⟩ := g a _ e
    exact call_list_of pins s σ H _ us Q I r ⟨_, _, rfl, .inl (SqL.of e1), fun l hl' => hQ _ _ _ _ (TLe.new hl' _) (.ref l) (g.put (TLe.new hl' _) rr hl) (h l (g.fresh hl'))⟩
  · exact h.elim
noncomputable def cInt : List W → Gp → WK → Prop := fun ws G q => match ws with
  | [.int i] => q (.int i) G
  | [.bl b] => q (.int (if b then 1 else 0)) G
  | _ => False
noncomputable def cMax : List W → Gp → WK → Prop := fun ws G q => match ws with
  | [.int i, .int j] => q (.int (if j > i then j else i)) G
  | _ => False
noncomputable def vAdd : W2 := fun x y G q => match x, y with
  | .int i, .int j => q (.int (i + j)) G
  | .tup xs, .tup ys => xs.length + ys.length ≤ 100000 ∧ q (.tup (xs ++ ys)) G
  | .ref a, .ref b => ∃ xs ys, G a = some (.lst xs) ∧ G b = some (.lst ys) ∧ xs.length + ys.length ≤ 100000 ∧ ∀ p, G p = none → q (.ref p) (updG G p (.lst (xs ++ ys)))
  | _, _ => False
theorem cat0 {pins : List (Addr × Obj)} {σ : St} {H : Hp} {s : Shared} {a b : Addr} {ys : List V} {Q : VK} (I : Inv X pins σ H s) (ha : H a = some (.tup [])) (hb : H b = some (.tup ys)) (q : Q (.ref b) H) : wpAny (model X.prog X.w) X.A (binaryOp .Add (.ref a) (.ref b)) (EP X pins σ Q) X.xe s := by
  obtain ⟨its, r1, p1, _⟩ := I.tuple (SqT.of ha)
  obtain ⟨its2, r2, p2, _⟩ := I.tuple (SqT.of hb)
  cases r1
  obtain ⟨⟨cls, dd, data, sl⟩, ho, hc, n, hd⟩ := id p1
  obtain ⟨⟨cls2, dd2, data2, sl2⟩, ho2, hc2, n2, hd2⟩ := id p2
  simp only at hc hd hc2 hd2
  subst hc hd hc2 hd2
  exact concat_meets ⟨_, ho, rfl⟩ ⟨_, ho2, rfl⟩ noFill_tuple_add seq_tuple_add PySem.F.slot_tuple_add PySem.F.entry_tuple_add (PySem.F.args_tuple_add_2 _ _)
    (tuple_addW0 a b #[] its2.toArray n n2 dd dd2 sl sl2 rfl) ⟨ho, ho2, ⟨.ref b, H, I, rfl, q⟩⟩
theorem q_add : QOp X (binaryOp .Add) vAdd := by
  intro pins s σ H x y v u Q I rx ry ⟨wx, wy, G, q, r1, r2, g, h, hQ⟩
  cases r1 with
  | int i =>
    cases r2 with
    | int j => exact op_add pins s σ H _ _ v u Q I rx ry ⟨_, _, rfl, rfl, hQ _ H _ G (TLe.refl H) (.int _) g h⟩
    | _ => exact False.elim h
  | @tup a ws xs ha ra =>
    cases r2 with
    | @tup b us ys hb rb =>
      cases xs with
      | nil =>
        cases ra
        cases rx
        cases ry
        exact cat0 I ha hb (hQ _ H _ G (TLe.refl H) (.tup hb rb) g h.2)
      | cons x0 xr =>
        refine op_catT pins s σ H _ _ v u Q I rx ry ⟨a, b, _, _, rfl, rfl, SqT.of ha, SqT.of hb, by simp, by rw [← ra.length, ← rb.length]; exact line_le h.1, fun e => ?_, fun _ p hp => ?_⟩
        · subst e
          cases rb
          have h2 := h.2
          rw [List.append_nil] at h2
          exact hQ _ H _ G (TLe.refl H) (.tup ha ra) g h2
        · exact hQ _ _ _ G (TLe.new hp _) (.tup upd_same ((ra.append rb).mono (TLe.new hp _))) (g.keep hp _) h.2
    | _ => exact False.elim h
  | ref a =>
    cases r2 with
    | ref b =>
      obtain ⟨xs, ys, ea, eb, hl, h⟩ := h
      obtain ⟨_, xs', ha, ra⟩ := g _ _ ea
      obtain ⟨_, ys', hb, rb⟩ := g _ _ eb
      refine op_cat pins s σ H _ _ v u Q I rx ry ⟨_, _, _, _, rfl, rfl, ha, hb, by rw [← ra.length, ← rb.length]; exact line_le hl, fun p hp => ?_⟩
      exact hQ _ _ _ _ (TLe.new hp _) (.ref p) (g.put (TLe.new hp _) (ra.append rb) (by rw [List.length_append]; exact hl)) (h p (g.fresh hp))
    | _ => exact False.elim h
  | _ => exact False.elim h
noncomputable def vInt (C : Int → Int → Prop) (f : Int → Int → W) : W2 := fun x y G q => match x, y with
  | .int i, .int j => C i j ∧ q (f i j) G
  | _, _ => False
theorem q_rint {f : Value → Value → Sem Value} {C : Int → Int → Prop} {g : Int → Int → Int} (h : OpR X f (rI C fun i j => .int (g i j))) : QOp X f (vInt C fun i j => .int (g i j)) := by
  intro pins s σ H x y v u Q I rx ry ⟨wx, wy, G, q, r1, r2, gg, hh, hQ⟩
  unfold vInt at hh
  split at hh
  · cases r1
    cases r2
    exact h pins s σ H _ _ v u Q I rx ry ⟨_, _, rfl, rfl, hh.1, hQ _ H _ G (TLe.refl H) (.int _) gg hh.2⟩
  · exact hh.elim
noncomputable def vInt0 (f : Int → Int → W) : W2 := fun x y G q => match x, y with
  | .int i, .int j => q (f i j) G
  | _, _ => False
theorem q_rbl {f : Value → Value → Sem Value} {g : Int → Int → Bool} (h : OpR X f (rI0 fun i j => .bl (g i j))) : QOp X f (vInt0 fun i j => .bl (g i j)) := by
  intro pins s σ H x y v u Q I rx ry ⟨wx, wy, G, q, r1, r2, gg, hh, hQ⟩
  unfold vInt0 at hh
  split at hh
  · cases r1
    cases r2
    exact h pins s σ H _ _ v u Q I rx ry ⟨_, _, rfl, rfl, hQ _ H _ G (TLe.refl H) (.bl _) gg hh⟩
  · exact hh.elim
noncomputable abbrev vMod : W2 := vInt (fun _ j => 0 < j) fun i j => .int (i % j)
theorem q_mod : QOp X (binaryOp .Mod) vMod := q_rint op_mod
noncomputable abbrev vGt : W2 := vInt0 fun i j => .bl (decide (j < i))
noncomputable abbrev vGe : W2 := vInt0 fun i j => .bl (decide (j ≤ i))
theorem q_gt : QOp X (compareOp .Gt) vGt := q_rbl op_gt
theorem q_ge : QOp X (compareOp .GtE) vGe := q_rbl op_ge
noncomputable def rIx3 : W2 := fun x y G q => match x, y with
  | .tup xs, .int i => ∃ w, atI xs i = some w ∧ q w G
  | .scr ns, .int i => ∃ n, atI ns i = some n ∧ q (.int n) G
  | .ref a, .int i => ∃ xs w, G a = some (.lst xs) ∧ atI xs i = some w ∧ q w G
  | _, _ => False
theorem Reps.at {K : PySem.W.Frag} {H : Hp} {ws : List W} {vs : List V} {i : Int} {w : W} (r : Reps K H ws vs) (e : atI ws i = some w) : ∃ v, atI vs i = some v ∧ Rep K H w v := by
  unfold atI at e ⊢
  rw [r.length] at e
  cases h : ixN vs.length i with
  | none => rw [h] at e; cases e
  | some j =>
    rw [h] at e
    exact r.get e
theorem atI_map {α β : Type} (f : α → β) (xs : List α) (i : Int) : atI (xs.map f) i = (atI xs i).map f := by
  unfold atI
  rw [List.length_map]
  cases ixN xs.length i with
  | none => rfl
  | some j => simp
theorem q_ix : QIx X rIx3 := by
  intro value slice pins s σ H x y v u Q I rx ry ⟨wx, wy, G, q, r1, r2, g, h, hQ⟩ hsl
  cases r2 with
  | int i =>
    cases r1 with
    | tup hh rr =>
      obtain ⟨w, e, h⟩ := h
      obtain ⟨v', e', r'⟩ := rr.at e
      exact ix_tup value slice pins s σ H _ _ v u Q I rx ry ⟨_, _, _, v', rfl, rfl, SqT.of hh, e', hQ _ H _ G (TLe.refl H) r' g h⟩ hsl
    | scr hh =>
      obtain ⟨n, e, h⟩ := h
      exact ix_list value slice pins s σ H _ _ v u Q I rx ry ⟨_, _, _, .int n, rfl, rfl, hh.sq, by rw [atI_map, e]; rfl, hQ _ H _ G (TLe.refl H) (.int n) g h⟩ hsl
    | ref a =>
      obtain ⟨xs, w, ea, e, h⟩ := h
      obtain ⟨_, zs, e1, rr⟩ := g _ _ ea
      obtain ⟨v', e', r'⟩ := rr.at e
      exact ix_list value slice pins s σ H _ _ v u Q I rx ry ⟨_, _, _, v', rfl, rfl, SqL.of e1, e', hQ _ H _ G (TLe.refl H) r' g h⟩ hsl
    | _ => exact False.elim h
  | _ => cases r1 <;> exact False.elim h
end
end L2
namespace L2
open PySem PySem.Spec PyProof.Rows
mutual
noncomputable def W.flat : W → Bool
  | .tup xs => W.flats xs
  | .ref _ => false
  | .scr _ => false
  | _ => true
noncomputable def W.flats : List W → Bool
  | [] => true
  | x :: xs => W.flat x && W.flats xs
end
mutual
noncomputable def W.dep : W → Nat
  | .tup xs => W.deps xs + 1
  | _ => 0
noncomputable def W.deps : List W → Nat
  | [] => 0
  | x :: xs => max (W.dep x) (W.deps xs)
end
mutual
noncomputable def W.eq : W → W → Bool
  | .non, .non => true
  | .bl a, .bl b => a == b
  | .bl a, .int j => (if a then 1 else 0) == j
  | .int i, .bl b => i == (if b then 1 else 0)
  | .int i, .int j => i == j
  | .str x, .str y => x == y
  | .tup xs, .tup ys => W.eqs xs ys
  | _, _ => false
noncomputable def W.eqs : List W → List W → Bool
  | [], [] => true
  | x :: xs, y :: ys => W.eq x y && W.eqs xs ys
  | _, _ => false
end
theorem noFT {P : Prop} (h : false = true) : P := Bool.noConfusion h
theorem W.eq_int (i j : Int) : (W.int i).eq (W.int j) = (i == j) := rfl
theorem W.eq_tup (xs ys : List W) : (W.tup xs).eq (W.tup ys) = W.eqs xs ys := rfl
mutual
theorem W.eq_refl : ∀ w : W, w.flat = true → w.eq w = true
  | .non, _ => rfl
  | .bl b, _ => beq_self_eq_true b
  | .int i, _ => beq_self_eq_true i
  | .str x, _ => beq_self_eq_true x
  | .tup xs, h => W.eqs_refl xs h
  | .ref _, h => noFT h
  | .scr _, h => noFT h
theorem W.eqs_refl : ∀ ws : List W, W.flats ws = true → W.eqs ws ws = true
  | [], _ => rfl
  | x :: xs, h => by
    have h' : x.flat = true ∧ W.flats xs = true := (Bool.and_eq_true _ _).mp h
    exact (Bool.and_eq_true _ _).mpr ⟨W.eq_refl x h'.1, W.eqs_refl xs h'.2⟩
end
mutual
theorem Rep.inj {K : PySem.W.Frag} {H : Hp} : ∀ {w u : W} {v : V}, w.flat = true → u.flat = true → Rep K H w v → Rep K H u v → w = u := by
  intro w u v h1 h2 r1 r2
  cases r1 with
  | non => cases r2; rfl
  | bl _ => cases r2; rfl
  | int _ => cases r2; rfl
  | str _ => cases r2; rfl
  | ref _ => exact noFT h1
  | scr _ => exact noFT h1
  | tup e1 r1 =>
    cases r2 with
    | ref _ => exact noFT h2
    | scr _ => exact noFT h2
    | tup e2 r2 =>
      rw [e1] at e2; cases e2
      rw [Reps.inj h1 h2 r1 r2]
theorem Reps.inj {K : PySem.W.Frag} {H : Hp} : ∀ {ws us : List W} {vs : List V}, W.flats ws = true → W.flats us = true → Reps K H ws vs → Reps K H us vs → ws = us := by
  intro ws us vs h1 h2 r1 r2
  cases r1 with
  | nil => cases r2; rfl
  | cons r1 s1 =>
    cases r2 with
    | cons r2 s2 =>
      simp only [W.flats, Bool.and_eq_true] at h1 h2
      rw [Rep.inj h1.1 h2.1 r1 r2, Reps.inj h1.2 h2.2 s1 s2]
end
theorem W.flats_get : ∀ {ws : List W} {j : Nat} {w : W}, W.flats ws = true → ws[j]? = some w → w.flat = true
  | [], _, _, _, e => by simp at e
  | x :: xs, 0, w, h, e => by
    have h' : x.flat = true ∧ W.flats xs = true := by simpa [W.flats] using h
    simp at e; subst e; exact h'.1
  | x :: xs, j + 1, w, h, e => by
    have h' : x.flat = true ∧ W.flats xs = true := by simpa [W.flats] using h
    exact W.flats_get h'.2 (by simpa using e)
theorem W.deps_get : ∀ {ws : List W} {j : Nat} {w : W}, ws[j]? = some w → w.dep ≤ W.deps ws
  | [], _, _, e => by simp at e
  | x :: xs, 0, w, e => by simp at e; subst e; simp [W.deps]; omega
  | x :: xs, j + 1, w, e => by
    have := W.deps_get (ws := xs) (j := j) (w := w) (by simpa using e)
    simp only [W.deps]; (clear e; omega)
theorem W.eqs_iff : ∀ (ws us : List W), W.eqs ws us = true ↔ ws.length = us.length ∧ ∀ (j : Nat) (a b : W), ws[j]? = some a → us[j]? = some b → W.eq a b = true
  | [], [] => by simp [W.eqs]
  | [], _ :: _ => by simp [W.eqs]
  | _ :: _, [] => by simp [W.eqs]
  | x :: xs, y :: ys => by
    rw [W.eqs, Bool.and_eq_true, W.eqs_iff xs ys]
    constructor
    · rintro ⟨h1, h2, h3⟩
      refine ⟨by simp [h2], fun j a b ea eb => ?_⟩
      cases j with
      | zero => simp at ea eb; subst ea eb; exact h1
      | succ j => exact h3 j a b (by simpa using ea) (by simpa using eb)
    · rintro ⟨h1, h2⟩
      exact ⟨h2 0 x y rfl rfl, by simpa using h1, fun j a b ea eb => h2 (j + 1) a b (by simpa using ea) (by simpa using eb)⟩
noncomputable def eqAtJ (ws us : List W) (j : Nat) : Bool := match ws[j]?, us[j]? with | some a, some b => W.eq a b | _, _ => true
theorem eqs_range (ws us : List W) : ((List.range (min ws.length us.length)).all (eqAtJ ws us) && (ws.length == us.length)) = W.eqs ws us := by
  rw [Bool.eq_iff_iff, Bool.and_eq_true, W.eqs_iff, List.all_eq_true, beq_iff_eq]
  constructor
  · rintro ⟨h1, h2⟩
    refine ⟨h2, fun j a b ea eb => ?_⟩
    have hj : j < ws.length := (List.getElem?_eq_some_iff.mp ea).1
    have := h1 j (List.mem_range.mpr (by (clear h1 ea eb; omega)))
    unfold eqAtJ at this
    rw [ea, eb] at this
    exact this
  · rintro ⟨h1, h2⟩
    refine ⟨fun j _ => ?_, h1⟩
    unfold eqAtJ
    split
    · rename_i a b ea eb; exact h2 j a b ea eb
    · rfl
section
variable {X : Cx} {pins : List (Addr × Obj)} {σ : St} {H : Hp} {s : Shared}
theorem Inv.tupH {a : Addr} {xs : List V} (I : Inv X pins σ H s) (h : H a = some (.tup xs)) : ∃ its : List Value, Vals xs its ∧ s.heap.IsTuple a its.toArray ∧ xs.length ≤ sizeLine := I.tuple (SqT.of h)
theorem eq_rep (I : Inv X pins σ H s) : ∀ (n : Nat) (A : Around) {w1 w2 : W} {v1 v2 : V} {u1 u2 : Value}, w1.dep < n → w1.flat = true → w2.flat = true → A.units + n < cLine → Rep X.K H w1 v1 → Rep X.K H w2 v2 → RelV v1 u1 → RelV v2 u2 →
    SeqAt.EqAt A s u1 u2 (w1.eq w2) ∧ SeqAt.RcAt A s u1 u2 (w1.eq w2) ∧ SeqAt.RcNeAt A s u1 u2 (!(w1.eq w2)) := by
  intro n
  induction n with
  | zero => intro A w1 w2 v1 v2 u1 u2 h; (clear I; omega)
  | succ n ih =>
    intro A w1 w2 v1 v2 u1 u2 hd f1 f2 hu r1 r2 q1 q2
    have hu0 : A.units < cLine := by (clear I ih f1 f2 r1 r2 q1 q2; omega)
    have hui : A.in1.units + n < cLine := by show A.units + 1 + n < cLine; (clear I ih hd f1 f2 r1 r2 q1 q2 hu0; omega)
    cases r1 with
    | ref a => exact noFT f1
    | scr a => exact noFT f1
    | non =>
      cases (show u1 = Value.none from q1)
      cases r2 with
      | ref a => exact noFT f2
      | scr a => exact noFT f2
      | non => cases (show u2 = Value.none from q2); exact ⟨SeqAt.EqAt.same _, SeqAt.RcAt.none_none, SeqAt.RcNeAt.none_none⟩
      | bl b => cases (show u2 = Value.bool b from q2); exact ⟨SeqAt.EqAt.none_bool b, SeqAt.RcAt.none_bool b, SeqAt.RcNeAt.none_bool b⟩
      | int b => obtain ⟨t, rfl⟩ := q2; exact ⟨SeqAt.EqAt.none_int b t, SeqAt.RcAt.none_int b t, SeqAt.RcNeAt.none_int b t⟩
      | str b => obtain ⟨t, rfl⟩ := q2; exact ⟨SeqAt.EqAt.none_str b t, SeqAt.RcAt.none_str b t, SeqAt.RcNeAt.none_str b t⟩
      | tup h r =>
        cases (show u2 = Value.ref _ from q2)
        obtain ⟨its, _, p, _⟩ := Inv.tupH I h
        exact ⟨SeqAt.EqAt.none_tuple p hu0, SeqAt.RcAt.none_tuple p hu0, SeqAt.RcNeAt.none_tuple p hu0⟩
    | bl a =>
      cases (show u1 = Value.bool a from q1)
      cases r2 with
      | ref a => exact noFT f2
      | scr a => exact noFT f2
      | non => cases (show u2 = Value.none from q2); exact ⟨SeqAt.EqAt.bool_none a, SeqAt.RcAt.bool_none a, SeqAt.RcNeAt.bool_none a⟩
      | bl b => cases (show u2 = Value.bool b from q2); exact ⟨SeqAt.EqAt.bool_bool a b, SeqAt.RcAt.bool_bool a b, SeqAt.RcNeAt.bool_bool a b⟩
      | int b => obtain ⟨t, rfl⟩ := q2; exact ⟨SeqAt.EqAt.bool_int a b t, SeqAt.RcAt.bool_int a b t, SeqAt.RcNeAt.bool_int a b t⟩
      | str b => obtain ⟨t, rfl⟩ := q2; exact ⟨SeqAt.EqAt.bool_str a b t, SeqAt.RcAt.bool_str a b t, SeqAt.RcNeAt.bool_str a b t⟩
      | tup h r =>
        cases (show u2 = Value.ref _ from q2)
        obtain ⟨its, _, p, _⟩ := Inv.tupH I h
        exact ⟨SeqAt.EqAt.bool_tuple a p hu0, SeqAt.RcAt.bool_tuple a p hu0, SeqAt.RcNeAt.bool_tuple a p hu0⟩
    | int a =>
      obtain ⟨ta, rfl⟩ := q1
      cases r2 with
      | ref a => exact noFT f2
      | scr a => exact noFT f2
      | non => cases (show u2 = Value.none from q2); exact ⟨SeqAt.EqAt.int_none a ta, SeqAt.RcAt.int_none a ta, SeqAt.RcNeAt.int_none a ta⟩
      | bl b => cases (show u2 = Value.bool b from q2); exact ⟨SeqAt.EqAt.int_bool a ta b, SeqAt.RcAt.int_bool a ta b, SeqAt.RcNeAt.int_bool a ta b⟩
      | int b => obtain ⟨t, rfl⟩ := q2; exact ⟨SeqAt.EqAt.int_int a ta b t, SeqAt.RcAt.int_int a ta b t, SeqAt.RcNeAt.int_int a ta b t⟩
      | str b => obtain ⟨t, rfl⟩ := q2; exact ⟨SeqAt.EqAt.int_str a ta b t, SeqAt.RcAt.int_str a ta b t, SeqAt.RcNeAt.int_str a ta b t⟩
      | tup h r =>
        cases (show u2 = Value.ref _ from q2)
        obtain ⟨its, _, p, _⟩ := Inv.tupH I h
        exact ⟨SeqAt.EqAt.int_tuple a ta p hu0, SeqAt.RcAt.int_tuple a ta p hu0, SeqAt.RcNeAt.int_tuple a ta p hu0⟩
    | str a =>
      obtain ⟨ta, rfl⟩ := q1
      cases r2 with
      | ref a => exact noFT f2
      | scr a => exact noFT f2
      | non => cases (show u2 = Value.none from q2); exact ⟨SeqAt.EqAt.str_none a ta, SeqAt.RcAt.str_none a ta, SeqAt.RcNeAt.str_none a ta⟩
      | bl b => cases (show u2 = Value.bool b from q2); exact ⟨SeqAt.EqAt.str_bool a ta b, SeqAt.RcAt.str_bool a ta b, SeqAt.RcNeAt.str_bool a ta b⟩
      | int b => obtain ⟨t, rfl⟩ := q2; exact ⟨SeqAt.EqAt.str_int a ta b t, SeqAt.RcAt.str_int a ta b t, SeqAt.RcNeAt.str_int a ta b t⟩
      | str b => obtain ⟨t, rfl⟩ := q2; exact ⟨SeqAt.EqAt.str_str a ta b t, SeqAt.RcAt.str_str a ta b t, SeqAt.RcNeAt.str_str a ta b t⟩
      | tup h r =>
        cases (show u2 = Value.ref _ from q2)
        obtain ⟨its, _, p, _⟩ := Inv.tupH I h
        exact ⟨SeqAt.EqAt.str_tuple a ta p hu0, SeqAt.RcAt.str_tuple a ta p hu0, SeqAt.RcNeAt.str_tuple a ta p hu0⟩
    | @tup a ws xs h r =>
      cases (show u1 = Value.ref _ from q1)
      obtain ⟨its, rv, p, _⟩ := Inv.tupH I h
      cases r2 with
      | ref a => exact noFT f2
      | scr a => exact noFT f2
      | non => cases (show u2 = Value.none from q2); exact ⟨SeqAt.EqAt.tuple_none p hu0, SeqAt.RcAt.tuple_none p hu0, SeqAt.RcNeAt.tuple_none p hu0⟩
      | bl b => cases (show u2 = Value.bool b from q2); exact ⟨SeqAt.EqAt.tuple_bool b p hu0, SeqAt.RcAt.tuple_bool b p hu0, SeqAt.RcNeAt.tuple_bool b p hu0⟩
      | int b => obtain ⟨t, rfl⟩ := q2; exact ⟨SeqAt.EqAt.tuple_int b t p hu0, SeqAt.RcAt.tuple_int b t p hu0, SeqAt.RcNeAt.tuple_int b t p hu0⟩
      | str b => obtain ⟨t, rfl⟩ := q2; exact ⟨SeqAt.EqAt.tuple_str b t p hu0, SeqAt.RcAt.tuple_str b t p hu0, SeqAt.RcNeAt.tuple_str b t p hu0⟩
      | @tup b us ys h2 r2 =>
        cases (show u2 = Value.ref _ from q2)
        obtain ⟨its2, rv2, p2, _⟩ := Inv.tupH I h2
        have g1 : W.flats ws = true := f1
        have g2 : W.flats us = true := f2
        have hd' : W.deps ws < n := by simp only [W.dep] at hd; (clear I ih hu hu0 hui h r f1 q1 rv p h2 r2 f2 q2 rv2 p2 g1 g2; omega)
        have e1 : its.length = ws.length := by rw [← rv.length, r.length]
        have e2 : its2.length = us.length := by rw [← rv2.length, r2.length]
        have he : ∀ j (h1 : j < its.toArray.size) (h2 : j < its2.toArray.size), SeqAt.EqAt A.in1 s its.toArray[j] its2.toArray[j] (eqAtJ ws us j) := fun j j1 j2 => by
          rw [List.size_toArray] at j1 j2
          have ea : ws[j]? = some ws[j] := List.getElem?_eq_getElem (by (clear I ih hu hu0 hui h r hd f1 q1 rv p h2 r2 f2 q2 rv2 p2 g1 g2 hd' e2 j2; omega))
          have eb : us[j]? = some us[j] := List.getElem?_eq_getElem (by (clear I ih hu hu0 hui h r hd f1 q1 rv p h2 r2 f2 q2 rv2 p2 g1 g2 hd' e1 j1 ea; omega))
          obtain ⟨va, ea1, ra⟩ := r.get ea
          obtain ⟨vb, eb1, rb⟩ := r2.get eb
          obtain ⟨ua, ea2, qa⟩ := rv.get ea1
          obtain ⟨ub, eb2, qb⟩ := rv2.get eb1
          have za : its.toArray[j] = ua := by
            have := (List.getElem?_eq_some_iff.mp ea2).2
            simpa using this
          have zb : its2.toArray[j] = ub := by
            have := (List.getElem?_eq_some_iff.mp eb2).2
            simpa using this
          rw [za, zb]
          have := (ih A.in1 (w1 := ws[j]) (w2 := us[j]) (Nat.lt_of_le_of_lt (W.deps_get ea) hd') (W.flats_get g1 ea) (W.flats_get g2 eb) hui ra rb qa qb).1
          unfold eqAtJ
          rw [ea, eb]
          exact this
        have er := eqs_range ws us
        have c1 := SeqAt.RcAt.tuples p p2 hu0 he
        have c2 := SeqAt.RcNeAt.tuples p p2 hu0 he
        rw [List.size_toArray, List.size_toArray, e1, e2, er] at c1 c2
        have ee : (W.tup ws).eq (W.tup us) = W.eqs ws us := rfl
        rw [ee]
        refine ⟨?_, c1, c2⟩
        by_cases hab : a = b
        · subst hab
          have z := Rep.inj f1 f2 (Rep.tup h r) (Rep.tup h2 r2)
          have t : W.eqs ws us = true := by
            cases z
            exact W.eqs_refl ws g1
          rw [t]
          exact SeqAt.EqAt.same _
        · exact SeqAt.EqAt.of_refs hab c1
end
section
variable {X : Cx}
noncomputable def rEq3 : W2 := fun x y G q => x.flat = true ∧ y.flat = true ∧ x.dep ≤ 150 ∧ q (.bl (x.eq y)) G
noncomputable def rNe3 : W2 := fun x y G q => x.flat = true ∧ y.flat = true ∧ x.dep ≤ 150 ∧ q (.bl (!(x.eq y))) G
theorem q_eq {k : Nat} (hr : Room k X.A) : QOp X (compareOp .Eq) rEq3 := by
  intro pins s σ H x y v u Q I rx ry ⟨wx, wy, G, q, r1, r2, g, ⟨f1, f2, hd, h⟩, hQ⟩
  exact (eq_rep I 151 X.A (by (clear hr I rx ry r1 r2 g f1 f2 h hQ; omega)) f1 f2 (by have := hr.un; (clear hr I rx ry r1 r2 g f1 f2 hd h hQ; omega)) r1 r2 rx ry).2.1 X.prog X.w X.xe _ ⟨.bl _, H, I, rfl, hQ _ H _ G (TLe.refl H) (.bl _) g h⟩
theorem q_ne {k : Nat} (hr : Room k X.A) : QOp X (compareOp .NotEq) rNe3 := by
  intro pins s σ H x y v u Q I rx ry ⟨wx, wy, G, q, r1, r2, g, ⟨f1, f2, hd, h⟩, hQ⟩
  exact (eq_rep I 151 X.A (by (clear hr I rx ry r1 r2 g f1 f2 h hQ; omega)) f1 f2 (by have := hr.un; (clear hr I rx ry r1 r2 g f1 f2 hd h hQ; omega)) r1 r2 rx ry).2.2 X.prog X.w X.xe _ ⟨.bl _, H, I, rfl, hQ _ H _ G (TLe.refl H) (.bl _) g h⟩
noncomputable def rSub3 : W2 := fun x y G q => match x, y with
  | .int i, .int j => q (.int (i - j)) G
  | .bl a, .bl b => q (.int (b2i a - b2i b)) G
  | _, _ => False
noncomputable def isNon : W → Bool
  | .non => true
  | _ => false
noncomputable def rIsN (neg : Bool) : W2 := fun x y G q => y = .non ∧ q (.bl (neg ^^ isNon x)) G
noncomputable abbrev WO := WSt → Gp → (Option Int → Gp → Prop) → Prop
noncomputable def LO (K : PySem.W.Frag) (t : WO) : TO := fun σ H Q => ∃ τ G q, RelSt K H τ σ ∧ RelG K H G ∧ t τ G q ∧ ∀ o H1 G1, TLe H H1 → RelG K H1 G1 → q o G1 → Q o H1
noncomputable def QO (X : Cx) (e : Option Expr) (t : WO) : Prop := PO X e (LO X.K t)
theorem PO.imp {e : Option Expr} {t t' : TO} (h : PO X e t) (f : ∀ σ H Q, t' σ H Q → t σ H Q) : PO X e t' := fun pins s σ H Q I q => h pins s σ H Q I (f _ _ _ q)
noncomputable def wNoPart : WO := fun _ G q => q none G
noncomputable def wPart (t : WE) : WO := fun τ G q => t τ G fun x G1 => match x with | .int i => q (some i) G1 | _ => False
theorem qo_none : QO X none wNoPart := po_none.imp fun σ H Q ⟨τ, G, q, hs, hg, ht, hQ⟩ => hQ none H G (TLe.refl H) hg ht
theorem qo_some {e : Expr} {te : WE} (h : QE X e te) : QO X (some e) (wPart te) :=
  (po_some h).imp fun σ H Q ⟨τ, G, q, hs, hg, ht, hQ⟩ => ⟨τ, G, _, hs, hg, ht, fun v H1 w G1 t1 r1 g1 q1 => by
    split at q1
    · cases r1
      exact ⟨_, rfl, hQ _ H1 G1 t1 g1 q1⟩
    · exact q1.elim⟩
noncomputable def cutW (xs : List W) (lo hi : Option Int) : List W := (xs.drop (HT.sIx xs.length 0 lo)).take (HT.sIx xs.length xs.length hi - HT.sIx xs.length 0 lo)
theorem Reps.cut {K : PySem.W.Frag} {H : Hp} {ws : List W} {vs : List V} (r : Reps K H ws vs) (lo hi : Option Int) : Reps K H (cutW ws lo hi) (cutV vs lo hi) := by
  unfold cutW cutV
  rw [r.length]
  exact (r.drop _).take _
noncomputable abbrev W3 := W → Option Int → Option Int → Gp → WK → Prop
noncomputable def rSl3 : W3 := fun x lo hi G q => match x with
  | .tup xs => q (.tup (cutW xs lo hi)) G
  | .scr ns => ns.length ≤ 100000 ∧ ∀ p, G p = none → q (.ref p) (updG G p (.lst (cutW (ns.map W.int) lo hi)))
  | .ref a => ∃ xs, G a = some (.lst xs) ∧ ∀ p, G p = none → q (.ref p) (updG G p (.lst (cutW xs lo hi)))
  | _ => False
theorem cutW_length (xs : List W) (lo hi : Option Int) : (cutW xs lo hi).length ≤ xs.length := by
  unfold cutW
  rw [List.length_take, List.length_drop]
  exact Nat.le_trans (Nat.min_le_right _ _) (Nat.sub_le _ _)
theorem cutW_whole {xs : List W} {lo hi : Option Int} (h : HT.sIx xs.length 0 lo = 0 ∧ HT.sIx xs.length xs.length hi = xs.length) : cutW xs lo hi = xs := by
  unfold cutW
  rw [h.1, h.2, List.drop_zero, Nat.sub_zero, List.take_length]
theorem tup_whole {prog : Program} {w : World} {A : Around} {E : Value → Shared → Prop} {s : Shared} {t sl : Addr} {items : Array Value} {vl vu : Value} {lo hi : Option Int} {Q : Value → Shared → Prop} (ht : IsTup s.heap t items) (hs : s.heap.IsSliceOf sl vl vu .none) (pl : IsPart vl lo) (pu : IsPart vu hi)
    (hw : HT.sIx items.size 0 lo = 0 ∧ HT.sIx items.size items.size hi = items.size) (h : Q (.ref t) s) : wpAny (model prog w) A (getItem (.ref t) (.ref sl)) Q E s := by
  obtain ⟨os, hos, hcs, hds⟩ := id hs
  have hTs : s.TypeIs (.ref sl) "slice" := ⟨os, hos, hcs⟩
  unfold getItem
  try with_reducible refine wpAny_holding ?_
  first | refine wpAny_bind (wpAny_pure ?_) | skip
  refine wpAny_bind (wpAny_sequenceKey ht.typeIs (by decide) ?_)
  refine wpAny_bind (wpAny_callSpecial?_slot (name := Str.ofString "__getitem__") ht.typeIs PyProof.Rows.slot_tuple_getitem
    (wpAny_call_entry PyProof.Rows.slot_tuple_getitem ht.typeIs entry_tuple_getitem ?_ (args_tuple_getitem _ _)))
  show wpAny _ _ (Builtin.Tuple.tupleItemsOf (.ref t) >>= _) _ _ s
  refine wpAny_bind (tupleItemsOf_ ht ?_)
  refine wpAny_bind (wpAny_typeOf hTs ?_)
  rw [if_pos (by decide)]
  refine wpAny_bind (HT.sliceApplied_gen hs pl pu ?_)
  have hyes : (((HT.sIx items.size 0 lo : Nat) : Int) == 0 && (1 : Int) == 1 && (HT.sIx items.size items.size hi - HT.sIx items.size 0 lo) == items.size) = true := by
    rw [hw.1, hw.2]; simp
  show wpAny _ _ (if (((HT.sIx items.size 0 lo : Nat) : Int) == 0 && (1 : Int) == 1 && (HT.sIx items.size items.size hi - HT.sIx items.size 0 lo) == items.size) = true then _ else _) _ _ s
  rw [if_pos hyes]
  refine wpAny_bind ?_
  show wpAny _ _ (typeOf (.ref t) >>= _) _ _ s
  refine wpAny_bind (wpAny_typeOf ht.typeIs (wpAny_pure ?_))
  rw [if_pos (by simp)]
  exact wpAny_bind (wpAny_rule (wpAny_pure ⟨_, rfl, wpAny_pure h⟩))
noncomputable def LSl (K : PySem.W.Frag) (r : W3) : V → Option Int → Option Int → Hp → VK → Prop := fun x lo hi H Q => ∃ w G q, Rep K H w x ∧ RelG K H G ∧ r w lo hi G q ∧ ∀ v H1 w G1, TLe H H1 → Rep K H1 w v → RelG K H1 G1 → q w G1 → Q v H1
theorem q_sl : SlR X (LSl X.K rSl3) := by
  intro pins s σ H x v vl vu lo hi sl Q I rx hs pl pu ⟨w, G, q, r, g, h, hQ⟩
  unfold rSl3 at h
  split at h
  · cases r with
    | @tup a ws xs hh rr =>
      by_cases hw : HT.sIx xs.length 0 lo = 0 ∧ HT.sIx xs.length xs.length hi = xs.length
      · cases rx
        obtain ⟨its, rv, ht, hz⟩ := I.tuple (SqT.of hh)
        have hlen : its.toArray.size = xs.length := by rw [List.size_toArray]; exact rv.length.symm
        refine ⟨"tuple", _, PyProof.Rows.slot_tuple_getitem.lookup, ht.typeIs, ?_⟩
        refine tup_whole ht hs pl pu (by rw [hlen]; exact hw) ⟨.ref a, H, I, rfl, ?_⟩
        rw [cutW_whole (by rw [rr.length]; exact hw)] at h
        exact hQ _ H _ G (TLe.refl H) (.tup hh rr) g h
      · exact sl_tup pins s σ H _ v vl vu lo hi sl Q I rx hs pl pu ⟨a, xs, rfl, SqT.of hh, hw, fun p hp => hQ _ _ _ G (TLe.new hp _) (.tup upd_same ((rr.cut lo hi).mono (TLe.new hp _))) (g.keep hp _) h⟩
  · rename_i ns
    cases r with
    | scr hh =>
      refine sl_list pins s σ H _ v vl vu lo hi sl Q I rx hs pl pu ⟨_, _, rfl, hh.sq, fun p hp => hQ _ _ _ _ (TLe.new hp _) (.ref p) (g.put (TLe.new hp _) ((Reps.ints ns).cut lo hi) ?_) (h.2 p (g.fresh hp))⟩
      exact Nat.le_trans (cutW_length _ _ _) (by rw [List.length_map]; exact h.1)
  · obtain ⟨xs, e, h⟩ := h
    cases r
    obtain ⟨hl, zs, e1, rr⟩ := g _ _ e
    exact sl_list pins s σ H _ v vl vu lo hi sl Q I rx hs pl pu ⟨_, zs, rfl, SqL.of e1, fun p hp => hQ _ _ _ _ (TLe.new hp _) (.ref p) (g.put (TLe.new hp _) (rr.cut lo hi) (Nat.le_trans (cutW_length _ _ _) hl)) (h p (g.fresh hp))⟩
  · exact h.elim
noncomputable def wSl (te : WE) (tl th : WO) : WE := fun τ G q => te τ G fun x G1 => tl τ G1 fun l G2 => th τ G2 fun u G3 => rSl3 x l u G3 q
theorem boot_isi : bootBuiltins "isinstance" = some (.builtin "isinstance") := by decide +kernel
noncomputable def tyN (G : Gp) : W → Option String
  | .non => some "NoneType"
  | .bl _ => some "bool"
  | .int _ => some "int"
  | .str _ => some "str"
  | .tup _ => some "tuple"
  | .ref a => match G a with | some (.lst _) => some "list" | some .dct => some "dict" | some (.dic _) => some "dict" | _ => none
  | .scr _ => none
noncomputable def subN : String → String → Bool
  | "int", "int" => true
  | "bool", "int" => true
  | "bool", "bool" => true
  | "tuple", "tuple" => true
  | "list", "list" => true
  | "str", "str" => true
  | _, _ => false
noncomputable def isiT (T : String) : Prop := T = "int" ∨ T = "bool" ∨ T = "tuple" ∨ T = "list" ∨ T = "str"
theorem kit_of {K : PySem.W.Frag} {t T : String} (ht : t = "NoneType" ∨ t = "bool" ∨ t = "int" ∨ t = "str" ∨ t = "tuple" ∨ t = "list" ∨ t = "dict") (hT : isiT T) : PySem.W.kitOne K (.type t) (.type T) = some (subN t T) := by
  rcases ht with rfl | rfl | rfl | rfl | rfl | rfl | rfl <;> rcases hT with rfl | rfl | rfl | rfl | rfl <;> first | rfl | kernel_rfl | decide +kernel
noncomputable def wIsi (T : String) (te : WE) : WE := fun τ G q => te τ G fun x G1 => match tyN G1 x with | some t => q (.bl (subN t T)) G1 | none => False
theorem tyOf_rep {K : PySem.W.Frag} {H : Hp} {G : Gp} {w : W} {v : V} {t : String} (g : RelG K H G) (r : Rep K H w v) (e : tyN G w = some t) : TyOf K H v (.type t) ∧ (t = "NoneType" ∨ t = "bool" ∨ t = "int" ∨ t = "str" ∨ t = "tuple" ∨ t = "list" ∨ t = "dict") := by
  unfold tyN at e
  cases r with
  | non => cases e; exact ⟨.non, by simp⟩
  | bl b => cases e; exact ⟨.bl b, by simp⟩
  | int i => cases e; exact ⟨.int i, by simp⟩
  | str x => cases e; exact ⟨.str x, by simp⟩
  | tup h _ => cases e; exact ⟨.tup h, by simp⟩
  | scr h => cases e
  | ref a =>
    simp only at e
    split at e
    · rename_i ws e1
      cases e
      obtain ⟨_, xs, e2, _⟩ := g a _ e1
      exact ⟨.lst e2, by simp⟩
    · rename_i e1
      cases e
      exact ⟨.dK (g a _ e1), by simp⟩
    · rename_i kvs e1
      cases e
      obtain ⟨_, kvs', e2, _⟩ := g a _ e1
      exact ⟨.dK e2, by simp⟩
    · cases e
theorem q_isi {T : String} (hT : isiT T) {pins : List (Addr × Obj)} {σ : St} {H : Hp} {s : Shared} {v : V} {u : Value} {w : W} {G : Gp} {q : WK} {Q : VK} (I : Inv X pins σ H s) (ru : RelV v u) (r : Rep X.K H w v) (g : RelG X.K H G)
    (h : match tyN G w with | some t => q (.bl (subN t T)) G | none => False) (hQ : ∀ v H1 w G1, TLe H H1 → Rep X.K H1 w v → RelG X.K H1 G1 → q w G1 → Q v H1) :
    wpAny (model X.prog X.w) X.A (call (.builtin "isinstance") [u, .type T]) (EP X pins σ Q) X.xe s := by
  split at h
  · rename_i t e
    obtain ⟨ty, hk⟩ := tyOf_rep g r e
    exact isinst_ok I ru ty (kit_of hk hT) fun tk => ⟨.bl _, H, I.tok tk, rfl, hQ _ H _ G (TLe.refl H) (.bl _) g h⟩
  · exact h.elim
theorem qe_isi {T : String} {x : Str} {e : Expr} {te : WE} {p p2 pos : Pos} (hT : isiT T) (hv : bootBuiltins x = some (.type T)) (hm : X.mg x = none) (hgx : Gl X x) (hm1 : X.mg "isinstance" = none) (hg1 : Gl X "isinstance") (he : QE X e te) (hn : x ≠ "__name__" := by decide) (hd : (x == ("__debug__" : Str)) = false := by decide)
    (hs1 : starEach [e, .Name x p2] X.env = (false, eval e X.env) :: starEach [.Name x p2] X.env := by rfl) (hs2 : starEach [.Name x p2] X.env = (false, eval (.Name x p2) X.env) :: starEach [] X.env := by rfl)
    (hpl : (backTo pos (starEach [.Name x p2] X.env)).any (·.1) = false := by rfl) : QE X (.Call (.Name "isinstance" p) [e, .Name x p2] [] pos) (wIsi T te) := by
  have hb : PE X (.Name x p2) (tC (.ty T)) := pe_bltn hgx hm hv rfl hn hd
  have ha : PA X [e, .Name x p2] (tCons (LEx X.K te) (tCons (tC (.ty T)) tNil)) := pa_cons he (pa_cons hb pa_nil hs2) hs1
  have hc : CallR X (.builtin "isinstance") (fun vs H Q => ∃ (v : V) (w : W) (G : Gp) (q : WK), vs = [v, .ty T] ∧ Rep X.K H w v ∧ RelG X.K H G ∧ (match tyN G w with | some t => q (.bl (subN t T)) G | none => False) ∧ ∀ v H1 w G1, TLe H H1 → Rep X.K H1 w v → RelG X.K H1 G1 → q w G1 → Q v H1) := by
    intro pins s σ H xs us Q I r ⟨v, w, G, q, e1, r1, g1, h, hQ⟩
    subst e1
    obtain ⟨u, u2, rfl, ru, ru2⟩ := vals2 r
    cases (show u2 = Value.type T from ru2)
    exact q_isi hT I ru r1 g1 h hQ
  exact (pe_callB hc hg1 hm1 boot_isi ha (by decide) (by decide) hs1 hpl).imp fun σ H Q z0 => z0.el fun τ G q hs hg ht hQ => ⟨τ, G, _, hs, hg, ht, fun v H1 w G1 t1 r1 g1 q1 =>
    ⟨v, w, G1, q, rfl, r1, g1, q1, fun v2 H2 w2 G2 t2 => hQ v2 H2 w2 G2 (t1.trans t2)⟩⟩
noncomputable def cSum : List W → Gp → WK → Prop := fun ws G q => match ws with
  | [.ref a] => ∃ ns : List Int, G a = some (.lst (ns.map W.int)) ∧ q (.int ns.sum) G
  | _ => False
theorem Reps.ints_of {K : PySem.W.Frag} {H : Hp} : ∀ {ns : List Int} {vs : List V}, Reps K H (ns.map W.int) vs → vs = ns.map V.int
  | [], _, r => by cases r; rfl
  | n :: ns, _, r => by
    cases r with
    | cons r rs =>
      cases r
      rw [Reps.ints_of rs]
      rfl
noncomputable def wApp (to te : WE) : WE := fun τ G q => to τ G fun x G1 => match x with
  | .ref a => (∃ xs, G1 a = some (.lst xs)) ∧ te τ G1 fun y G2 => ∃ ys, G2 a = some (.lst ys) ∧ ys.length + 1 ≤ 100000 ∧ q .non (updG G2 a (.lst (ys ++ [y])))
  | _ => False
theorem qe_app {o e : Expr} {to te : WE} {apos cpos : Pos} (ho : QE X o to) (he : QE X e te)
    (hbase : attributeBase o "append" X.env (eval o X.env) = eval o X.env := by rfl)
    (hfew : ((backTo cpos (starEach [e] X.env)).all (fun x => !x.1) && (backToKw cpos (keywordEach [] X.env)).all (fun x => x.1.isSome)
      && decide (([e] : List Expr).length + ([] : List Keyword).length + (if ([] : List Keyword).isEmpty then 0 else 1) < 30)) = true := by rfl)
    (hline : (apos.endLine == cpos.line) = true := by rfl) (hs : starEach [e] X.env = (false, eval e X.env) :: starEach [] X.env := by rfl) :
    QE X (.Call (.Attribute o "append" apos) [e] [] cpos) (wApp to te) :=
  (pe_bm PySem.F.plainAttrs_list PySem.F.slot_list_append PySem.F.type_list_append mt_append ho (pa_cons he pa_nil hs) hbase hfew hline hs rfl).imp fun σ H Q z0 => z0.el fun τ G q hs hg ht hQ =>
    ⟨τ, G, _, hs, hg, ht, fun v H1 w G1 t1 r1 g1 q1 => by
      split at q1
      · rename_i a
        cases r1
        obtain ⟨⟨xs, e1⟩, q1⟩ := q1
        obtain ⟨_, xs', h1, _⟩ := g1 a _ e1
        refine ⟨.inl ⟨rfl, xs', SqL.of h1⟩, τ, G1, _, hs.mono t1, g1, q1, fun v2 H2 w2 G2 t2 r2 g2 q2 => ?_⟩
        obtain ⟨ys, e2, hl, q2⟩ := q2
        obtain ⟨_, ys', h2, rr⟩ := g2 a _ e2
        refine ⟨a, ys', v2, rfl, rfl, h2, ?_, ?_⟩
        · rw [← rr.length]
          exact line_le hl
        · exact hQ _ _ _ _ ((t1.trans t2).trans (TLe.lst h2 _)) .non (g2.put (TLe.lst h2 _) (rr.append (.cons r2 .nil)) (by rw [List.length_append]; exact hl)) q2
      · exact q1.elim⟩
end
end L2
namespace L2
open PySem PySem.Spec PyProof.Rows
structure Itn (K : PySem.W.Frag) (J : It) (ws : List W) (C : Gp → Prop) (H0 : Hp) : Prop where
  stop : ∀ i H G, TLe H0 H → RelG K H G → C G → ws.length ≤ i → J.stop i H
  go : ∀ i w H G, TLe H0 H → RelG K H G → C G → ws[i]? = some w → J.go i H ∧ ∀ x H', J.yld i H x H' → TLe H H' ∧ Rep K H' w x ∧ RelG K H' G
noncomputable abbrev WI := WSt → Gp → (List W → (Gp → Prop) → Gp → Prop) → Prop
noncomputable def LI (K : PySem.W.Frag) (t : WI) : TI := fun σ H R => ∃ τ G r, RelSt K H τ σ ∧ RelG K H G ∧ t τ G r ∧ ∀ J H1 ws C G1, TLe H H1 → RelG K H1 G1 → Itn K J ws C H1 → r ws C G1 → R J H1
noncomputable def QI (X : Cx) (tg iter : Expr) (t : WI) : Prop := PI X tg iter (LI X.K t)
section
variable {X : Cx} {tg : Expr}
theorem PI.imp {e : Expr} {t t' : TI} (h : PI X tg e t) (f : ∀ σ H R, t' σ H R → t σ H R) : PI X tg e t' := fun pins s σ H R I q => h pins s σ H R I (f _ _ _ q)
theorem itn_tup {K : PySem.W.Frag} {a : Addr} {ws : List W} {xs : List V} {H : Hp} (h : H a = some (.tup xs)) (r : Reps K H ws xs) : Itn K (Itt K a) ws (fun _ => True) H where
  stop := fun i H1 G t g _ hl => ⟨xs, SqT.of (t.tup _ _ h), by rw [← r.length]; exact hl⟩
  go := fun i w H1 G t g _ e => by
    obtain ⟨v, e1, rv⟩ := r.get e
    refine ⟨⟨xs, v, SqT.of (t.tup _ _ h), e1⟩, fun x H' ⟨eH, hy⟩ => ?_⟩
    subst eH
    have e2 := hy xs (SqT.of (t.tup _ _ h))
    rw [e1] at e2; cases e2
    exact ⟨TLe.refl _, rv.mono t, g⟩
theorem itn_lst {K : PySem.W.Frag} {a : Addr} {ws : List W} {H : Hp} : Itn K (Itl K a) ws (fun G => G a = some (.lst ws)) H where
  stop := fun i H1 G t g e hl => by
    obtain ⟨_, xs, h1, r⟩ := g a _ e
    exact ⟨xs, SqL.of h1, by rw [← r.length]; exact hl⟩
  go := fun i w H1 G t g eG e => by
    obtain ⟨_, xs, h1, r⟩ := g a _ eG
    obtain ⟨v, e1, rv⟩ := r.get e
    refine ⟨⟨xs, v, SqL.of h1, e1⟩, fun x H' ⟨eH, hy⟩ => ?_⟩
    subst eH
    have e2 := hy xs (SqL.of h1)
    rw [e1] at e2; cases e2
    exact ⟨TLe.refl _, rv, g⟩
theorem itn_scr {K : PySem.W.Frag} {a : Addr} {ns : List Int} {H : Hp} (h : Scr K H a ns) : Itn K (Itl K a) (ns.map W.int) (fun _ => True) H where
  stop := fun i H1 G t g _ hl => ⟨_, (h.mono t).sq, by simpa using hl⟩
  go := fun i w H1 G t g _ e => by
    have r : Reps K H1 (ns.map W.int) (ns.map V.int) := Reps.ints ns
    obtain ⟨v, e1, rv⟩ := r.get e
    refine ⟨⟨_, v, (h.mono t).sq, e1⟩, fun x H' ⟨eH, hy⟩ => ?_⟩
    subst eH
    have e2 := hy _ (h.mono t).sq
    rw [e1] at e2; cases e2
    exact ⟨TLe.refl _, rv, g⟩
noncomputable def jSeq (te : WE) : WI := fun τ G r => te τ G fun x G1 => match x with
  | .tup ws => r ws (fun _ => True) G1
  | .scr ns => r (ns.map W.int) (fun _ => True) G1
  | .ref a => ∃ ws, G1 a = some (.lst ws) ∧ r ws (fun G => G a = some (.lst ws)) G1
  | _ => False
noncomputable def upW (n : Nat) : List W := (List.range n).map fun (i : Nat) => W.int (i : Int)
theorem itn_rng {K : PySem.W.Frag} {n : Nat} {H : Hp} : Itn K (Itr 0 n) (upW n) (fun _ => True) H where
  stop := fun i H1 G t g _ hl => by have h : n ≤ i := by simpa [upW] using hl
                                    exact h
  go := fun i w H1 G t g _ e => by
    unfold upW at e
    rw [List.getElem?_map] at e
    have hi : i < n := by
      cases h : (List.range n)[i]? with
      | none => rw [h] at e; cases e
      | some k =>
        have := (List.getElem?_eq_some_iff.mp h).1
        simpa using this
    rw [List.getElem?_range hi] at e
    cases e
    refine ⟨hi, fun x H' ⟨eH, hy⟩ => ?_⟩
    subst eH
    subst hy
    exact ⟨TLe.refl _, by simpa using Rep.int _, g⟩
noncomputable def jRng (ta : WA) : WI := fun τ G r => ta τ G fun ws G1 => match ws with
  | [.int j] => -(2 ^ 62) ≤ j ∧ j < 2 ^ 62 ∧ r (upW j.toNat) (fun _ => True) G1
  | _ => False
theorem qi_range {a : Expr} {ta : WA} {p pos : Pos} (hg : Gl X "range") (hm : X.mg "range" = none) (ha : QA X [a] ta) (hs : starEach [a] X.env = [(false, eval a X.env)] := by rfl) : QI X tg (.Call (.Name "range" p) [a] [] pos) (jRng ta) :=
  (pi_range1 hg hm ha hs).imp fun σ H R ⟨τ, G, r, hs, hg, ht, hR⟩ => ⟨τ, G, _, hs, hg, ht, fun vs H1 ws G1 t1 r1 g1 q1 => by
    split at q1
    · obtain ⟨v, rfl, r2⟩ := r1.one
      cases r2 with
      | int j => exact ⟨_, rfl, q1.1, q1.2.1, hR _ H1 _ _ G1 t1 g1 itn_rng q1.2.2⟩
    · exact q1.elim⟩
noncomputable def loopW (C : Gp → Prop) (g : WG) (tb : WS) (d : WEnds) : List W → WSt → Gp → Prop
  | [], τ, G => C G ∧ d.nx τ G
  | w :: ws, τ, G => C G ∧ g w τ G fun τ2 G2 => tb { d with nx := loopW C g tb d ws, ct := loopW C g tb d ws, bk := d.nx } τ2 G2
noncomputable def wFor (wi : WI) (g : WG) (tb : WS) : WS := fun d τ G => wi τ G fun ws C G1 => loopW C g tb d ws τ G1
theorem qs_for {iter : Expr} {body : List Stmt} {wi : WI} {g : WG} {tb : WS} {pos : Pos} (hp : PassesOwn (model X.prog X.w) X.A X.env X.xe) (hc : X.calm = true) (hi : QI X tg iter wi) (hg : QG X tg g) (hb : QSs X body tb)
    (hs : ∀ x, foldedSetIterable iter X.env x = pure x := by intro _; rfl) : QS X (.For tg iter body [] pos) (wFor wi g tb) :=
  (ps_for hp hc hi hg hb hs).imp fun D σ H z0 => z0.el fun τ G d hs hg ht l => ⟨τ, G, _, hs, hg, ht, fun J H1 ws C G1 t1 g1 it q1 => by
    refine ⟨fun i m σ2 H2 => ∃ τ2 G2, m = ws.length - i ∧ i ≤ ws.length ∧ TLe H1 H2 ∧ RelSt X.K H2 τ2 σ2 ∧ RelG X.K H2 G2 ∧ loopW C g tb d (ws.drop i) τ2 G2, ⟨ws.length, τ, G1, by simp, Nat.zero_le _, TLe.refl _, hs.mono t1, g1, by simpa using q1⟩, ?_⟩
    rintro i m σ2 H2 ⟨τ2, G2, rfl, hi, t2, s2, g2, q2⟩
    by_cases hlt : i < ws.length
    · have ed : ws.drop i = ws[i] :: ws.drop (i + 1) := List.drop_eq_getElem_cons hlt
      rw [ed] at q2
      obtain ⟨c2, q2⟩ := q2
      obtain ⟨go, yl⟩ := it.go i ws[i] H2 G2 t2 g2 c2 (List.getElem?_eq_getElem hlt)
      refine .inr ⟨go, fun σ3 H3 => ∃ τ3 G3, TLe H1 H3 ∧ RelSt X.K H3 τ3 σ3 ∧ RelG X.K H3 G3 ∧ loopW C g tb d (ws.drop (i + 1)) τ3 G3, ?_, fun x H' hy => ?_⟩
      · rintro σ3 H3 ⟨τ3, G3, t3, s3, g3, q3⟩
        exact ⟨ws.length - (i + 1), by (clear hp hc hb z0 hs hg ht l t1 g1 it q1 hi t2 s2 g2 ed c2 q2 go yl t3 s3 g3 q3; omega), τ3, G3, rfl, hlt, t3, s3, g3, q3⟩
      · obtain ⟨tx, rx, gx⟩ := yl x H' hy
        refine ⟨ws[i], τ2, G2, _, rx, s2.mono tx, gx, q2, fun σ3 H3 τ3 G3 t3 s3 g3 q3 => ?_⟩
        have tt := (t2.trans tx).trans t3
        have t0 := t1.trans tt
        exact ⟨τ3, G3, _, s3, g3, q3, ⟨fun σ4 H4 τ4 G4 t4 s4 g4 q4 => ⟨τ4, G4, tt.trans t4, s4, g4, q4⟩, fun v H4 w G4 t4 => l.rt v H4 w G4 (t0.trans t4), fun σ4 H4 τ4 G4 t4 => l.nx σ4 H4 τ4 G4 (t0.trans t4), fun σ4 H4 τ4 G4 t4 s4 g4 q4 => ⟨τ4, G4, tt.trans t4, s4, g4, q4⟩⟩⟩
    · have e : i = ws.length := by (clear hp hc hb z0 hs hg ht l t1 g1 it q1 t2 s2 g2 q2; omega)
      subst e
      rw [List.drop_length] at q2
      exact .inl ⟨it.stop _ H2 G2 t2 g2 q2.1 (Nat.le_refl _), l.nx σ2 H2 τ2 G2 (t1.trans t2) s2 g2 q2.2⟩⟩
end
end L2
namespace L2
open PySem PySem.Spec PyProof.Rows
section
variable {prog : Program} {w : World} {A : Around} {E : Value → Shared → Prop} {s : Shared}
structure ZA (z p r i j a b : Addr) : Prop where
  zp : p ≠ z
  zr : r ≠ z
  zi : i ≠ z
  zj : j ≠ z
  pr : p ≠ r
  pi : p ≠ i
  pj : p ≠ j
  ri : r ≠ i
  rj : r ≠ j
  ij : i ≠ j
  az : a ≠ z
  ar : a ≠ r
  ai : a ≠ i
  aj : a ≠ j
  bz : b ≠ z
  br : b ≠ r
  bi : b ≠ i
  bj : b ≠ j
structure ZT (z p r i j a b : Addr) (n : Nat) (f : Value) (h : Heap) : Prop where
  hz : IsZip h z p r f
  hp : IsPair h p (.ref i) (.ref j)
  hr : ∃ x y, IsPair h r x y
  hi : h.IsTupleIter i a n
  hj : h.IsTupleIter j b n
end
end L2
namespace L2
open PySem PySem.Spec PyProof.Rows
section
variable {prog : Program} {w : World} {A : Around} {R : Result → Shared → Prop} {s : Shared}
noncomputable abbrev nox : Value → Shared → Prop := fun _ _ => False
noncomputable abbrev tests (ifs : List Expr) (env : Env) : Sem Bool := forIn ifs true fun c r => if r = true then do let ok ← isTrue c env (eval c env); pure (ForInStep.yield ok) else pure (ForInStep.yield r)
theorem comp_loop {elt tg iter : Expr} {ifs : List Expr} {scope : Scope} {pos : Pos} {it acc : Value} {env : Env} (I : Nat → Shared → Prop)
    (turn : ∀ n s, I n s → wpAny (model prog w) A (pyNext it) (fun r s1 => match r with
      | none => R (.ok .next) s1
      | some v => wpAny (model prog w) A (letOwnedTupleGo tg it v) (fun _ s2 => wpAny (model prog w) A (assign tg env v) (fun _ s3 => wpAny (model prog w) A (tests ifs env) (fun ok s4 =>
          if ok = true then wpAny (model prog w) A (eval elt env) (fun x s5 => wpAny (model prog w) A (call (.builtin "list.append") [acc, x]) (fun _ s6 => ∃ m, m < n ∧ I m s6) nox s5) nox s4
          else ∃ m, m < n ∧ I m s4) nox s3) nox s2) nox s1) nox s) (n : Nat) (h : I n s) :
    codeAny (model prog w) A (.compLoop (.ListComp elt [⟨tg, iter, ifs, 0⟩] scope pos) 0 it acc env) R s := by
  refine codeAny_loop rfl I (fun n s hI => ?_) n h
  show wpAny _ A ((compTurn (.ListComp elt [⟨tg, iter, ifs, 0⟩] scope pos) 0 it acc env).onRaise (fun x => do noteFrame x env; theTreesLotGoes x)) _ _ s
  refine wpAny_noted ?_; rw [compTurn_list]
  refine wpAny_bind (wpAny_standAt (wpAny_bind (wpAny_mono (turn n s hI) (fun r s1 h1 => ?_) fun _ _ z => z.elim)))
  cases r with
  | none => exact wpAny_pure h1
  | some v =>
    refine wpAny_bind (wpAny_mono h1 (fun _ s2 h2 => wpAny_bind (wpAny_mono h2 (fun _ s3 h3 => wpAny_bind (wpAny_mono h3 (fun ok s4 h4 => ?_) fun _ _ z => z.elim)) fun _ _ z => z.elim)) fun _ _ z => z.elim)
    cases ok with
    | false => exact wpAny_pure ⟨rfl, h4⟩
    | true =>
      refine wpAny_bind (wpAny_bind (wpAny_mono h4 (fun x s5 h5 => ?_) fun _ _ z => z.elim))
      exact wpAny_bind (wpAny_mono h5 (fun _ s6 h6 => wpAny_pure (wpAny_pure ⟨rfl, h6⟩)) fun _ _ z => z.elim)
end
noncomputable def clOf (env : Env) : List (Str × NameKind) → List (Str × Addr) → List (Str × Addr)
  | [], cs => cs
  | (n, k) :: r, cs => if k == .free then clOf env r ((n, (env.cells.lookup n).getD 0) :: cs) else clOf env r cs
theorem closure_of {env : Env} {scope : Scope} (h : ∀ y ∈ scope.names, y.2 = .free → ∃ c, env.cells.lookup y.1 = some c) : closureFor scope env = pure (clOf env scope.names []) := by
  unfold closureFor
  have key : ∀ (l : List (Str × NameKind)) (cs : List (Str × Addr)), (∀ y ∈ l, y.2 = .free → ∃ c, env.cells.lookup y.1 = some c) →
      (forIn l cs fun (x : Str × NameKind) (r : List (Str × Addr)) => (if (x.2 == NameKind.free) = true then (do let y ← cellOf env x.1; pure (ForInStep.yield ((x.1, y) :: r))) else pure (ForInStep.yield r) : Sem (ForInStep (List (Str × Addr))))) = (pure (clOf env l cs) : Sem (List (Str × Addr))) := by
    intro l
    induction l with
    | nil => intro cs _; rfl
    | cons y r ih =>
      intro cs hl
      obtain ⟨n, k⟩ := y
      rw [List.forIn_cons]
      unfold clOf
      by_cases hk : (k == NameKind.free) = true
      · have hk' : k = .free := by simpa using hk
        obtain ⟨c, hc⟩ := hl (n, k) List.mem_cons_self hk'
        simp only [hk, if_true]
        have e : cellOf env n = pure c := by unfold cellOf; rw [hc]
        rw [e, hc]
        simp only [pure_bind, Option.getD_some]
        exact ih _ fun y hy => hl y (List.mem_cons_of_mem _ hy)
      · simp only [hk, if_false, Bool.false_eq_true]
        simp only [pure_bind]
        exact ih _ fun y hy => hl y (List.mem_cons_of_mem _ hy)
  have := key scope.names [] h
  simp only [bind_pure]
  exact this
theorem clOf_lookup {env : Env} : ∀ {l : List (Str × NameKind)} {cs : List (Str × Addr)}, (∀ y ∈ l, y.2 = .free → ∃ c, env.cells.lookup y.1 = some c) → (∀ x c, cs.lookup x = some c → env.cells.lookup x = some c) → ∀ x c, (clOf env l cs).lookup x = some c → env.cells.lookup x = some c
  | [], _, _, hc, x, c, e => hc x c e
  | (n, k) :: r, cs, hl, hc, x, c, e => by
    unfold clOf at e
    have hr : ∀ y ∈ r, y.2 = .free → ∃ c, env.cells.lookup y.1 = some c := fun y hy => hl y (List.mem_cons_of_mem _ hy)
    split at e
    · rename_i hk
      obtain ⟨c0, hc0⟩ := hl (n, k) List.mem_cons_self (by simpa using hk)
      refine clOf_lookup hr (fun x' c' e' => ?_) x c e
      rw [List.lookup_cons] at e'
      cases hx : x' == n with
      | true =>
        rw [hx] at e'
        have : x' = n := by simpa using hx
        subst this
        rw [hc0] at e'
        simp at e'
        subst e'
        exact hc0
      | false => rw [hx] at e'; exact hc x' c' e'
    · exact clOf_lookup hr hc x c e
theorem clOf_has {env : Env} : ∀ {l : List (Str × NameKind)} {cs : List (Str × Addr)} {x : Str}, ((x, NameKind.free) ∈ l ∨ ∃ c, cs.lookup x = some c) → ∃ c, (clOf env l cs).lookup x = some c
  | [], _, _, h => by
    rcases h with h | h
    · simp at h
    · exact h
  | (n, k) :: r, cs, x, h => by
    unfold clOf
    have keep : (∃ c, cs.lookup x = some c) → ∃ c, ((n, (env.cells.lookup n).getD 0) :: cs).lookup x = some c := fun ⟨c, e⟩ => by
      rw [List.lookup_cons]
      cases hx : x == n with
      | true => exact ⟨_, rfl⟩
      | false => exact ⟨c, e⟩
    split
    · rename_i hk
      refine clOf_has ?_
      rcases h with h | h
      · rcases List.mem_cons.mp h with h | h
        · cases h
          exact .inr ⟨(env.cells.lookup n).getD 0, by rw [List.lookup_cons]; simp⟩
        · exact .inl h
      · exact .inr (keep h)
    · rename_i hk
      refine clOf_has ?_
      rcases h with h | h
      · rcases List.mem_cons.mp h with h | h
        · cases h
          exact absurd rfl hk
        · exact .inl h
      · exact .inr h
theorem relabel_lookup {env : Env} : ∀ {l : List (Str × NameKind)} {x : Str} {k : NameKind}, (l.map fun (n, k) => if (k == NameKind.free && env.scope.kind == .function && env.kindOf n == some .cell) then (n, NameKind.cell) else (n, k)).lookup x = some k → (k = .cell ∨ k = .free) → (∀ y ∈ l, y.2 ≠ .cell) → (x, NameKind.free) ∈ l
  | [], _, _, e, _, _ => by simp at e
  | (n, k0) :: r, x, k, e, hk, hc => by
    rw [List.map_cons, List.lookup_cons] at e
    have hr : ∀ y ∈ r, y.2 ≠ .cell := fun y hy => hc y (List.mem_cons_of_mem _ hy)
    have hn : (if (k0 == NameKind.free && env.scope.kind == .function && env.kindOf n == some .cell) = true then (n, NameKind.cell) else (n, k0)).1 = n := by split <;> rfl
    rw [hn] at e
    cases hx : x == n with
    | false => rw [hx] at e; exact List.mem_cons_of_mem _ (relabel_lookup e hk hr)
    | true =>
      rw [hx] at e
      have hxn : x = n := by simpa using hx
      subst hxn
      have e' : (if (k0 == NameKind.free && env.scope.kind == .function && env.kindOf x == some .cell) = true then (x, NameKind.cell) else (x, k0)).2 = k := Option.some.inj e
      by_cases hf : k0 = .free
      · subst hf; exact List.mem_cons_self
      · rw [if_neg (by simp [hf])] at e'
        have e'' : k0 = k := e'
        subst e''
        rcases hk with h | h
        · exact absurd h (hc _ List.mem_cons_self)
        · exact absurd h hf
theorem relabel_local {env : Env} : ∀ {l : List (Str × NameKind)} {x : Str}, (l.map fun (n, k) => if (k == NameKind.free && env.scope.kind == .function && env.kindOf n == some .cell) then (n, NameKind.cell) else (n, k)).lookup x = some .local → l.lookup x = some .local
  | [], _, e => by simp at e
  | (n, k0) :: r, x, e => by
    rw [List.map_cons, List.lookup_cons] at e
    rw [List.lookup_cons]
    have hn : (if (k0 == NameKind.free && env.scope.kind == .function && env.kindOf n == some .cell) = true then (n, NameKind.cell) else (n, k0)).1 = n := by split <;> rfl
    rw [hn] at e
    cases hx : x == n with
    | false => rw [hx] at e; exact relabel_local e
    | true =>
      rw [hx] at e
      have e' : (if (k0 == NameKind.free && env.scope.kind == .function && env.kindOf n == some .cell) = true then (n, NameKind.cell) else (n, k0)).2 = NameKind.local := Option.some.inj e
      split at e'
      · cases e'
      · exact congrArg some e'
noncomputable def bCx (X : Cx) (N : List Str) (scope : Scope) (C : Addr) (fp : List Addr) (s₀ : Shared) (H₀ : Hp) : Cx where
  prog := X.prog
  w := X.w
  K := X.K
  mg := X.mg
  base := X.base
  A := X.A
  N := N
  s₀ := s₀
  H₀ := H₀
  env := compEnvC scope (clOf X.env scope.names []) C X.env
  outer := X.stack
  stack := X.stack
  ex := fp
  fn := fun _ => false
  calm := X.calm
  pn := []
  xe := nox
structure CompSc (X : Cx) (scope : Scope) (N : List Str) (fv : List (Option Nat)) : Prop where
  kind : scope.kind = .function
  nocell : ∀ y ∈ scope.names, y.2 ≠ .cell
  names : ∀ x ∈ scope.names, x.2 = .local → scope.names.lookup x.1 = some .local
  free : ∀ y ∈ scope.names, y.2 = .free → X.env.scope.names.lookup y.1 = some .cell
  fvs : ∀ (i j : Nat) (x : Str), N[i]? = some x → fv[i]? = some (some j) → X.N[j]? = some x ∧ X.env.scope.names.lookup x = some .cell ∧ (x, NameKind.free) ∈ scope.names
  len : fv.length = N.length
  fvl : ∀ {x : Str}, (x, NameKind.free) ∈ scope.names → scope.names.lookup x ≠ some .local
noncomputable def pick {α : Type} (fv : List (Option Nat)) (σ : List (Option α)) : List (Option α) := fv.map fun o => o.bind fun j => (σ[j]?).join
theorem pick_get {α : Type} {fv : List (Option Nat)} {σ : List (Option α)} {i : Nat} {v : α} (h : (pick fv σ)[i]? = some (some v)) : ∃ j, fv[i]? = some (some j) ∧ σ[j]? = some (some v) := by
  unfold pick at h
  rw [List.getElem?_map] at h
  cases e : fv[i]? with
  | none => rw [e] at h; cases h
  | some o =>
    rw [e] at h
    cases o with
    | none => cases h
    | some j =>
      have h' : (σ[j]?).join = some v := Option.some.inj h
      refine ⟨j, rfl, ?_⟩
      cases e2 : σ[j]? with
      | none => rw [e2] at h'; cases h'
      | some o => rw [e2] at h'; exact congrArg some h'
theorem pick_rel {K : PySem.W.Frag} {H : Hp} {τ : WSt} {σ : St} {fv : List (Option Nat)} (h : RelSt K H τ σ) : RelSt K H (pick fv τ) (pick fv σ) := by
  refine ⟨by simp [pick], fun i w e => ?_⟩
  obtain ⟨j, ej, ew⟩ := pick_get e
  obtain ⟨v, ev, r⟩ := h.2 j w ew
  refine ⟨v, ?_, r⟩
  unfold pick
  rw [List.getElem?_map, ej]
  show some ((σ[j]?).join) = _
  rw [ev]
  rfl
section
variable {X : Cx} {pins : List (Addr × Obj)} {σ : St} {H H2 : Hp} {s s2 : Shared} {scope : Scope} {N : List Str} {fv : List (Option Nat)} {fp : List Addr} {C D : Addr}
theorem CompSc.cells (S : CompSc X scope N fv) (I : Inv X pins σ H s) : ∀ y ∈ scope.names, y.2 = .free → ∃ c, X.env.cells.lookup y.1 = some c := fun y hy hk => I.ok.has y.1 (.inl (S.free y hy hk))
theorem block_inv {h4 : Heap} {t4 : Nat} {m : Str → Option Value} (I : Inv X pins σ H2 s2) (S : CompSc X scope N fv) (hf : ∀ b ∈ fp, FpOk X pins H2 b) (hfo : ∀ b ∈ fp, b < s2.heap.objs.size) (keep : ∀ b o, s2.heap.get? b = some o → h4.get? b = some o)
    (hC : s2.heap.objs.size ≤ C) (ns : h4.Ns C m) : Inv (bCx X N scope C fp s2 H2) [] (pick fv σ) H2 { s2 with heap := h4, toks := t4 } := by
  have look : ∀ x c, (clOf X.env scope.names []).lookup x = some c → X.env.cells.lookup x = some c := clOf_lookup (S.cells I) (fun x c e => by simp at e)
  refine ⟨⟨I.ok.mod, S.kind, I.ok.glob, I.ok.blt, hC, fun x y c e1 e2 => I.ok.inj x y c (look x c e1) (look y c e2), fun x hx => ?_, fun x c h => absurd (show false = true from h) Bool.false_ne_true, I.ok.hd, I.ok.frames, .inl rfl, fun b hb => ?_, I.bs, Nat.le_trans I.ok.bsz I.sz, fun b o e hb => ?_, fun b hb hx => ?_, I.stack, I.stkFree⟩,
    rfl, I.bare, Un.kept keep, ⟨m, ns, fun i x v e1 e2 e3 => ?_⟩, fun x c e => ?_, I.hok.fresh hC, fun x c e => I.freeC x c (look x c e), fun p hp => absurd (show p ∈ ([] : List (Addr × Obj)) from hp) (by simp), I.hok.kept keep, ?_⟩
  · rcases hx with hx | hx
    · exact clOf_has (.inl (relabel_lookup hx (.inl rfl) S.nocell))
    · exact clOf_has (.inl (relabel_lookup hx (.inr rfl) S.nocell))
  · exact ⟨Nat.ne_of_lt (Nat.lt_of_lt_of_le (hfo b hb) hC), fun x c e => (hf b hb).2.2.2.2.1 x c (look x c e)⟩
  · rcases (hf b hb).2.2.2.1 with z | z
    · exact I.ok.noex b o e z
    · exact absurd (Nat.lt_of_lt_of_le (Heap.lt_size e) (Nat.le_trans I.ok.bsz z)) (Nat.lt_irrefl _)
  · rcases List.mem_cons.mp (I.stkSub b hx) with z | z
    · exact (hf b hb).2.1 z
    · exact (hf b hb).2.2.1 z
  · obtain ⟨j, ej, ev⟩ := pick_get e2
    obtain ⟨h1, h2, h3⟩ := S.fvs i j x e1 ej
    obtain ⟨m0, _, hl⟩ := I.loc
    obtain ⟨u, r, l⟩ := hl j x v h1 ev (.inr (.inl h2))
    refine ⟨u, r, .inr ?_⟩
    rcases l with ⟨k, _⟩ | ⟨_, c, ec, o, ho, hd⟩
    · exact absurd (h2.symm.trans k) (by intro z; cases z)
    · obtain ⟨c', ec'⟩ := clOf_has (env := X.env) (l := scope.names) (cs := []) (x := x) (.inl h3)
      have e' := look x c' ec'
      rw [ec] at e'
      cases e'
      refine ⟨?_, c, ec', o, keep _ _ ho, hd⟩
      rcases e3 with e3 | e3 | e3
      · exact absurd (relabel_local e3) fun z => S.fvl h3 z
      · exact .inl e3
      · exact .inr e3
  · obtain ⟨v, o, ho, hd⟩ := I.cell x c (look x c e)
    exact ⟨v, o, keep _ _ ho, hd⟩
  · show (pick fv σ).length = N.length
    unfold pick
    rw [List.length_map, S.len]
end
end L2
namespace L2
open PySem PySem.Spec PyProof.Rows
noncomputable def compW (C : Gp → Prop) (g : WG) (tt : WT) (te : WE) : List W → WSt → Gp → List W → (List W → Gp → Prop) → Prop
  | [], _, G, acc, q => C G ∧ q acc G
  | w :: ws, τ, G, acc, q => C G ∧ g w τ G fun τ2 G2 => tt τ2 G2 fun b G3 => if b = true then te τ2 G3 fun v G4 => acc.length + 1 ≤ 100000 ∧ compW C g tt te ws τ2 G4 (acc ++ [v]) q else compW C g tt te ws τ2 G3 acc q
noncomputable def QTs (X : Cx) (ifs : List Expr) (t : WT) : Prop :=
  ∀ (pins : List (Addr × Obj)) (s : Shared) (σ : St) (H : Hp) (Q : Bool → Hp → Prop), Inv X pins σ H s → LTx X.K t σ H Q → wpAny (model X.prog X.w) X.A (tests ifs X.env) (TP X pins σ Q) X.xe s
noncomputable def wTrue : WT := fun _ G q => q true G
theorem qts_nil {X : Cx} : QTs X [] wTrue := fun pins s σ H Q I ⟨τ, G, q, hs, hg, ht, hQ⟩ => wpAny_tests_nil ⟨H, I, hQ true H G (TLe.refl H) hg ht⟩
theorem RelG.track {K : PySem.W.Frag} {H : Hp} {G : Gp} {p : Addr} {xs : List V} {ws : List W} (h : RelG K H G) (e : H p = some (.lst xs)) (r : Reps K H ws xs) (hl : ws.length ≤ 100000) : RelG K H (updG G p (.lst ws)) := fun a g ea => by
  by_cases hb : a = p
  · subst hb
    rw [updG_same] at ea; cases ea
    exact ⟨hl, xs, e, r⟩
  · rw [updG_ne hb] at ea
    exact h a g ea
section
variable {X : Cx} {pins : List (Addr × Obj)} {σ : St} {H2 : Hp} {s2 : Shared} {scope : Scope} {N : List Str} {fv : List (Option Nat)} {fp : List Addr} {tg elt iter : Expr} {ifs : List Expr} {pos : Pos} {J : It} {it : Addr} {tn : Nat → Heap → Prop}
  {g : WG} {tt : WT} {te : WE} {ws : List W} {Cd : Gp → Prop} {τ : WSt} {G : Gp} {q : List W → Gp → Prop}
structure CompEnd (X : Cx) (pins : List (Addr × Obj)) (σ : St) (H2 : Hp) (s2 : Shared) (G : Gp) (q : List W → Gp → Prop) (D C : Addr) (s' : Shared) : Prop where
  ex : ∃ (Hf : Hp) (Gf : Gp) (rs : List W), (∃ m, s'.heap.Ns C m) ∧ Inv X pins σ Hf s' ∧ Hf C = none ∧ s2.heap.objs.size ≤ C ∧ TLe H2 Hf ∧ RelG X.K Hf (updG Gf D (.lst rs)) ∧ G D = none ∧ Gf D = none ∧ q rs Gf
structure CompI (Y : Cx) (fp : List Addr) (tn : Nat → Heap → Prop) (ws : List W) (H2 : Hp) (D : Addr) (R : List W → WSt → Gp → List W → Prop) (n : Nat) (s : Shared) (i : Nat) (σ1 : St) (H1 : Hp) (τ1 : WSt) (G1 : Gp) (acc : List W) (vs : List V) (its : List Value) : Prop where
  hn : n = ws.length - i
  hi : i ≤ ws.length
  inv : Inv Y [] σ1 H1 s
  st : tn i s.heap
  fr : ∀ b ∈ fp, H1 b = none
  hd : H1 D = none
  pl : s.heap.PlainList D its.toArray
  rv : Vals vs its
  ra : Reps Y.K H1 acc vs
  tl : TLe H2 H1
  rs : RelSt Y.K H1 τ1 σ1
  rg : RelG Y.K H1 G1
  cw : R (ws.drop i) τ1 G1 acc
  hl : acc.length ≤ 100000
theorem comp_block (I : Inv X pins σ H2 s2) (S : CompSc X scope N fv) (hc : X.calm = true) (T : Turn X.prog X.w X.K tg J fp it tn) (st : tn 0 s2.heap) (hf : ∀ b ∈ fp, FpOk X pins H2 b)
    (hg : ∀ C, QG (bCx X N scope C fp s2 H2) tg g) (htt : ∀ C, QTs (bCx X N scope C fp s2 H2) ifs tt) (hte : ∀ C, QE (bCx X N scope C fp s2 H2) elt te)
    (itn : Itn X.K J ws Cd H2) (hs : RelSt X.K H2 τ σ) (gr : RelG X.K H2 G) (hw : compW Cd g tt te ws (pick fv τ) G [] q) {RR : Value → Addr → Result → Shared → Prop} {E : Value → Shared → Prop}
    (hRR : ∀ D C s', CompEnd X pins σ H2 s2 G q D C s' → RR (.ref D) C (.ok .next) s') :
    wpAny (model X.prog X.w) X.A (newList []) (fun acc s3 => wpAny (model X.prog X.w) X.A (newFunctionEnv scope X.env.globals (clOf X.env scope.names []) [] X.env.qual none .none (some X.env)) (fun cenv s4 =>
      codeAny (model X.prog X.w) X.A (.compStart (.ListComp elt [⟨tg, iter, ifs, 0⟩] scope pos) 0 (.ref it) acc { cenv with scope := relabel scope X.env }) (RR acc cenv.locals) s4) E s3) E s2 := by
  have hfo : ∀ b ∈ fp, b < s2.heap.objs.size := fun b hb => let ⟨o, e, _⟩ := T.obj _ _ st b hb; Heap.lt_size e
  refine wpAny_newObj_type (wpAny_newFunctionEnv S.nocell (by intro y hy; simp at hy) (fun h1 hns1 hsb1 => ?_) S.kind)
  dsimp only at hns1 hsb1 ⊢
  generalize hP : s2.heap.push { cls := .type "list", dict := none, data := .seq ([] : List Value).toArray } = P at hns1 hsb1 ⊢
  generalize hD : s2.heap.objs.size = D at *
  have hC : P.objs.size = D + 1 := by rw [← hP, Heap.size_push, hD]
  generalize hCC : P.objs.size = C at *
  have hDC : D ≠ C := by rw [hC]; exact Nat.ne_of_lt (Nat.lt_succ_self _)
  have hDleC : D ≤ C := by rw [hC]; exact Nat.le_succ _
  have old : ∀ b o, s2.heap.get? b = some o → h1.get? b = some o := fun b o e => hsb1.extBut b o (Nat.ne_of_lt (Nat.lt_of_lt_of_le (Heap.lt_size e) (by rw [hD]; exact hDleC))) (Heap.get?_push_of_some _ (hP ▸ Heap.get?_push_of_some _ e))
  have hacc : h1.PlainList D #[] := ⟨0, hsb1.extBut _ _ hDC (Heap.get?_push_of_some _ (by rw [← hP, ← hD]; exact Heap.get?_push_size _ rfl))⟩
  have look : ∀ x c, (clOf X.env scope.names []).lookup x = some c → X.env.cells.lookup x = some c := clOf_lookup (S.cells I) (fun x c e => by simp at e)
  have cD : ∀ x c, (clOf X.env scope.names []).lookup x = some c → c ≠ D := fun x c e z => by
    obtain ⟨v, o, ho, _⟩ := I.cell x c (look x c e)
    exact absurd (Heap.lt_size ho) (by rw [z, hD]; exact Nat.lt_irrefl _)
  have sD : D ∉ frs X.stack := fun hb => by
    rcases List.mem_cons.mp (I.stkSub D hb) with z | z
    · exact absurd I.lt (by rw [← z, hD]; exact Nat.lt_irrefl _)
    · exact I.nofs (by rw [hD]; exact Nat.le_refl _) z
  have fD : D ∉ fp := fun hb => absurd (hfo D hb) (Nat.lt_irrefl _)
  have fpX : ∀ {H1 : Hp} {ps : List (Addr × Obj)}, (∀ b ∈ fp, H1 b = none) → (∀ p ∈ ps, p.1 ∉ fp) → ∀ b ∈ fp, FpOk (bCx X N scope C fp s2 H2) ps H1 b := fun {H1 ps} hn hp b hb => by
    refine ⟨hn b hb, Nat.ne_of_lt (Nat.lt_of_lt_of_le (hfo b hb) hDleC), fun hx => ?_, .inl hb, fun x c e => (hf b hb).2.2.2.2.1 x c (look x c e), fun p hp' z => hp p hp' (z ▸ hb)⟩
    rcases List.mem_cons.mp (I.stkSub b hx) with z | z
    · exact (hf b hb).2.1 z
    · exact (hf b hb).2.2.1 z
  have J0 : Inv (bCx X N scope C fp s2 H2) [] (pick fv σ) H2 { s2 with heap := h1, toks := s2.toks + ([] : List (Str × Value)).length } := block_inv I S hf (by rw [hD]; exact hfo) old (by rw [hD]; exact hDleC) hns1
  have loop : codeAny (model X.prog X.w) X.A (.compLoop (.ListComp elt [⟨tg, iter, ifs, 0⟩] scope pos) 0 (.ref it) (.ref D) (bCx X N scope C fp s2 H2).env) (RR (.ref D) C) { s2 with heap := h1, toks := s2.toks + ([] : List (Str × Value)).length } := by
    refine comp_loop (fun n s => ∃ i σ1 H1 τ1 G1 acc vs its, CompI (bCx X N scope C fp s2 H2) fp tn ws H2 D (fun l τ1 G1 acc => compW Cd g tt te l τ1 G1 acc q) n s i σ1 H1 τ1 G1 acc vs its) ?_ ws.length
      ⟨0, _, H2, _, G, [], [], [], by simp, Nat.zero_le _, J0, T.keep _ _ _ st fun b _ o e => old b o e, fun b hb => (hf b hb).1, I.hok.fresh (by rw [hD]; exact Nat.le_refl _), hacc, .nil, .nil, TLe.refl _, pick_rel hs, gr, by simpa using hw, by simp⟩
    rintro n s ⟨i, σ1, H1, τ1, G1, acc, vs, its, rfl, hi, J1, st1, fr1, d1, pl1, rv1, ra1, t1, s1, g1, q1, hl1⟩
    obtain ⟨kk, eD⟩ := pl1
    have J1p : Inv (bCx X N scope C fp s2 H2) [(D, { cls := .type "list", data := .seq its.toArray kk })] σ1 H1 s := J1.pins_of fun p hp => by
      have e := List.mem_singleton.mp hp
      subst e
      exact ⟨eD, d1, hDC, sD, fun v z => by cases z⟩
    have pnf : ∀ p ∈ [((D, { cls := .type "list", data := .seq its.toArray kk }) : Addr × Obj)], p.1 ∉ fp := fun p hp => by
      have e := List.mem_singleton.mp hp
      subst e
      exact fD
    by_cases hlt : i < ws.length
    · have ed : ws.drop i = ws[i] :: ws.drop (i + 1) := List.drop_eq_getElem_cons hlt
      rw [ed] at q1
      obtain ⟨c1, q1⟩ := q1
      obtain ⟨go, yl⟩ := itn.go i ws[i] H1 G1 t1 g1 c1 (List.getElem?_eq_getElem hlt)
      refine thn (T.item (bCx X N scope C fp s2 H2) rfl rfl rfl hc i _ s σ1 H1 nox J1p (fpX fr1 pnf) st1 go) fun r s4 ⟨u, hr, h4⟩ => ?_
      subst hr
      refine thn h4 fun _ s5 ⟨x, H5, I5, r5, y5, st5, fr5⟩ => ?_
      obtain ⟨tx, rx, gx⟩ := yl x H5 y5
      have I5' := I5.pinned (fpX fr5 pnf) (T.obj _ _ st5)
      refine thn (hg C _ s5 σ1 H5 x u (fun σ6 H6 => ∃ τ6 G6, TLe H5 H6 ∧ RelSt X.K H6 τ6 σ6 ∧ RelG X.K H6 G6 ∧ tt τ6 G6 fun b G3 => if b = true then te τ6 G3 fun v G4 => acc.length + 1 ≤ 100000 ∧ compW Cd g tt te (ws.drop (i + 1)) τ6 G4 (acc ++ [v]) q else compW Cd g tt te (ws.drop (i + 1)) τ6 G3 acc q) I5' r5
        ⟨ws[i], τ1, G1, _, rx, s1.mono tx, gx, q1, fun σ6 H6 τ6 G6 t6 s6 g6 q6 => ⟨τ6, G6, t6, s6, g6, q6⟩⟩) fun _ s6 ⟨σ6, H6, I6, τ6, G6, t6, rs6, g6, q6⟩ => ?_
      refine thn (htt C _ s6 σ6 H6 (fun b H7 => ∃ G7, TLe H6 H7 ∧ RelG X.K H7 G7 ∧ (if b = true then te τ6 G7 fun v G4 => acc.length + 1 ≤ 100000 ∧ compW Cd g tt te (ws.drop (i + 1)) τ6 G4 (acc ++ [v]) q else compW Cd g tt te (ws.drop (i + 1)) τ6 G7 acc q)) I6
        ⟨τ6, G6, _, rs6, g6, q6, fun b H7 G7 t7 g7 q7 => ⟨G7, t7, g7, q7⟩⟩) fun ok s7 ⟨H7, I7, G7, t7, g7, q7⟩ => ?_
      have t17 : TLe H1 H7 := (tx.trans t6).trans t7
      -- what the pins keep up to a later state
      have keepFp : ∀ {σ8 : St} {H8 : Hp} {s8 : Shared}, Inv (bCx X N scope C fp s2 H2) ([(D, { cls := .type "list", data := .seq its.toArray kk })] ++ pinsAt fp s5.heap) σ8 H8 s8 → tn (i + 1) s8.heap ∧ (∀ b ∈ fp, H8 b = none) ∧ H8 D = none ∧ s8.heap.get? D = some { cls := .type "list", data := .seq its.toArray kk } ∧ ∀ b ∈ fp, ∃ o, s8.heap.get? b = some o := fun {σ8 H8 s8} I8 => by
        refine ⟨T.keep _ _ _ st5 fun b hb o e => (I8.pin (b, o) (List.mem_append_right _ (List.mem_append_right _ (mem_pinsAt hb e)))).1, fun b hb => ?_, (I8.pin (D, _) (List.mem_append_right _ (List.mem_append_left _ List.mem_cons_self))).2.1, (I8.pin (D, _) (List.mem_append_right _ (List.mem_append_left _ List.mem_cons_self))).1, fun b hb => ?_⟩
        · obtain ⟨o, e, _⟩ := T.obj _ _ st5 b hb
          exact (I8.pin (b, o) (List.mem_append_right _ (List.mem_append_right _ (mem_pinsAt hb e)))).2.1
        · obtain ⟨o, e, _⟩ := T.obj _ _ st5 b hb
          exact ⟨o, (I8.pin (b, o) (List.mem_append_right _ (List.mem_append_right _ (mem_pinsAt hb e)))).1⟩
      cases ok with
      | false =>
        rw [if_neg Bool.false_ne_true] at q7 ⊢
        obtain ⟨k1, k2, k3, k4, _⟩ := keepFp I7
        exact ⟨ws.length - (i + 1), by (clear I S hc T st hf hg htt hte itn hs gr hw hRR hP hD hfo hCC hns1 hsb1 hC hDC hDleC old hacc look cD sD fD fpX J0 hi J1 st1 fr1 d1 rv1 ra1 t1 s1 g1 hl1 eD J1p pnf ed c1 q1 go yl h4 I5 r5 y5 st5 fr5 tx rx gx I5' I6 t6 rs6 g6 q6 I7 t7 g7 t17 keepFp q7 k1 k2 k3 k4; omega), i + 1, σ6, H7, τ6, G7, acc, vs, its, rfl, hlt, I7.pins_of fun p hp => absurd hp (by simp), k1, k2, k3, ⟨kk, k4⟩, rv1, ra1.mono t17, t1.trans t17, rs6.mono t7, g7, q7, hl1⟩
      | true =>
        rw [if_pos rfl] at q7 ⊢
        refine thn (hte C _ s7 σ6 H7 (fun v H8 => ∃ w8 G8, TLe H7 H8 ∧ Rep X.K H8 w8 v ∧ RelG X.K H8 G8 ∧ acc.length + 1 ≤ 100000 ∧ compW Cd g tt te (ws.drop (i + 1)) τ6 G8 (acc ++ [w8]) q) I7
          ⟨τ6, G7, _, rs6.mono t7, g7, q7, fun v H8 w8 G8 t8 r8 g8 q8 => ⟨w8, G8, t8, r8, g8, q8⟩⟩) fun u8 s8 ⟨v8, H8, I8, rv8, w8, G8, t8, r8, g8, hl8, q8⟩ => ?_
        obtain ⟨k1, k2, k3, k4, k5⟩ := keepFp I8
        have t18 : TLe H1 H8 := t17.trans t8
        refine wpAny_list_append_plain ⟨kk, k4⟩ (fun h9 pl9 sb9 => ?_) (by rw [List.size_toArray, ← rv1.length, ← ra1.length]; exact line_le hl1)
        have I9 : Inv (bCx X N scope C fp s2 H2) [] σ6 H8 { s8 with heap := h9 } := (I8.pins_of (pins' := []) fun p hp => absurd hp (by simp)).turned (t' := s8.toks) (fun b o hb e => (sb9.2 b hb).trans e) k3 hDC (.inr (by show s2.heap.objs.size ≤ D; rw [hD]; exact Nat.le_refl _)) (fun x c e => cD x c e) fun p hp => absurd (show p ∈ ([] : List (Addr × Obj)) from hp) (by simp)
        refine ⟨ws.length - (i + 1), by (clear I S hc T st hf hg htt hte itn hs gr hw hRR hP hD hfo hCC hns1 hsb1 hC hDC hDleC old hacc look cD sD fD fpX J0 hi J1 st1 fr1 d1 rv1 ra1 t1 s1 g1 hl1 eD J1p pnf ed c1 q1 go yl h4 I5 r5 y5 st5 fr5 tx rx gx I5' I6 t6 rs6 g6 q6 I7 t7 g7 t17 keepFp q7 I8 rv8 t8 r8 g8 hl8 q8 k1 k2 k3 k4 k5 t18 pl9 sb9 I9; omega), i + 1, σ6, H8, τ6, G8, acc ++ [w8], vs ++ [v8], its ++ [u8], rfl, hlt, I9, T.keep _ _ _ k1 fun b hb o e => (sb9.2 b (fun z => fD (z ▸ hb))).trans e, k2, k3, by simpa using pl9, rv1.append (.cons rv8 .nil), (ra1.mono t18).append (.cons r8 .nil), t1.trans t18, (rs6.mono t7).mono t8, g8, q8, by rw [List.length_append]; exact hl8⟩
    · have e : i = ws.length := by (clear I S hc T st hf hg htt hte itn hs gr hw hRR hP hD hfo hCC hns1 hsb1 hC hDC hDleC old hacc look cD sD fD fpX J0 J1 st1 fr1 d1 rv1 ra1 t1 s1 g1 q1 hl1 eD J1p pnf; omega)
      subst e
      rw [List.drop_length] at q1
      refine thn (T.done (bCx X N scope C fp s2 H2) rfl rfl rfl hc _ _ s σ1 H1 nox J1p (fpX fr1 pnf) st1 (itn.stop _ H1 G1 t1 g1 q1.1 (Nat.le_refl _))) fun r s4 ⟨hr, I4⟩ => ?_
      subst hr
      have eD4 := (I4.pin (D, _) (List.mem_append_right _ List.mem_cons_self)).1
      have zl : vs.length ≤ sizeLine := by rw [← ra1.length]; exact line_le hl1
      have hb2 : ∀ b o, s2.heap.get? b = some o → b ≠ D := fun b o e => by
        have := Heap.lt_size e
        rw [hD] at this
        exact Nat.ne_of_lt this
      refine hRR D C s4 ⟨upd H1 D (.lst vs), G1, acc, let ⟨m, hn, _⟩ := I4.loc; ⟨m, hn⟩, ?_, ?_, by rw [hD]; exact hDleC, t1.trans (TLe.new d1 _), ?_, gr.fresh (I.hok.fresh (by rw [hD]; exact Nat.le_refl _)), g1.fresh d1, q1.2⟩
      · refine I.call' (ch := fp) I4.os ⟨fun b o e n hb hx => I4.base.keep b o e n hb hx, fun b o e n hb hx => I4.base.slot b o e n hb hx, fun b o e n hx => ?_, fun b o e hx => I4.base.there b o e hx, fun b xs e => ?_, fun b o u e => ?_, fun b ps e => ?_⟩ ?_ I4.bare fun b hb => ⟨(hf b hb).2.2.2.1, (hf b hb).2.1, fun x c e => (hf b hb).2.2.2.2.1 x c e, fun p hp => (hf b hb).2.2.2.2.2 p hp⟩
        · rw [upd_ne (hb2 b o e)]; exact I4.base.free b o e n hx
        · rw [upd_ne (ne_of_none (I4.base.tups b xs e) d1)]; exact I4.base.tups b xs e
        · rw [upd_ne (ne_of_none (I4.base.frzs b o u e) d1)]; exact I4.base.frzs b o u e
        · obtain ⟨more, e'⟩ := I4.base.tbls b ps e
          exact ⟨more, by rw [upd_ne (ne_of_none e' d1)]; exact e'⟩
        · intro b u e
          by_cases hbD : b = D
          · subst hbD
            rw [upd_same] at e; cases e
            exact ⟨zl, its, kk, rv1, eD4⟩
          · rw [upd_ne hbD] at e
            exact (I4.hok b u e).stay (fun c v _ q => q) (fun c q => by rw [upd_ne (ne_of_none q d1)]; exact q) fun c xs q => by rw [upd_ne (ne_of_none q d1)]; exact q
      · rw [upd_ne (Ne.symm hDC)]; exact I4.free
      · exact (g1.upd (TLe.new d1 _) (g1.fresh d1)).track upd_same (ra1.mono (TLe.new d1 _)) hl1
  exact codeAny_compStart_list loop (T.self _ 0 _ _ _ (T.keep _ _ _ st fun b _ o e => old b o e) loop)
noncomputable def wComp (wi : WI) (fv : List (Option Nat)) (g : WG) (tt : WT) (te : WE) : WE := fun τ G q => wi τ G fun ws Cd G1 => compW Cd g tt te ws (pick fv τ) G1 [] fun rs G2 => ∀ p, G1 p = none → q (.ref p) (updG G2 p (.lst rs))
theorem qe_comp {wi : WI} (S : CompSc X scope N fv) (hc : X.calm = true) (hi : QI X tg iter wi) (hg : ∀ C fp s2 H2, QG (bCx X N scope C fp s2 H2) tg g) (htt : ∀ C fp s2 H2, QTs (bCx X N scope C fp s2 H2) ifs tt) (hte : ∀ C fp s2 H2, QE (bCx X N scope C fp s2 H2) elt te)
    (hs : ∀ x, foldedSetIterable iter X.env x = pure x := by intro _; rfl) : QE X (.ListComp elt [⟨tg, iter, ifs, 0⟩] scope pos) (wComp wi fv g tt te) := by
  intro pins s σ H Q I ⟨τ, G, q, hτ, hG, ht, hQ⟩
  rw [eval_ListComp]
  refine wpAny_comprehension_free (use := none) rfl hs (closure_of (S.cells I)) S.kind S.names (thn (hi pins s σ H (fun J H1 => ∃ ws Cd G1, TLe H H1 ∧ RelG X.K H1 G1 ∧ Itn X.K J ws Cd H1 ∧ compW Cd g tt te ws (pick fv τ) G1 [] fun rs G2 => ∀ p, G1 p = none → q (.ref p) (updG G2 p (.lst rs))) I
    ⟨τ, G, _, hτ, hG, ht, fun J H1 ws C G1 t1 g1 it r1 => ⟨ws, C, G1, t1, g1, it, r1⟩⟩) fun v s1 h1 => thn h1 fun itv s2 h2 => ?_)
  obtain ⟨it, fp, tn, J, H2, e, I2, T, st2, f2, ws, Cd, G1, t1, g1, itn, hw⟩ := h2
  subst e
  refine comp_block (RR := fun acc C => compPost (model X.prog X.w) X.A X.xe none (EP X pins σ Q) acc C) I2 S hc T st2 f2 (fun C => hg C fp s2 H2) (fun C => htt C fp s2 H2) (fun C => hte C fp s2 H2) itn (hτ.mono t1) g1 hw fun D C s' ⟨Hf, Gf, rs, ⟨m, hn⟩, I5, hC, hCs, t5, g5, hD, hD2, q5⟩ => ?_
  refine ⟨m, hn, fun h' sb => ?_⟩
  have hlt : C ≠ X.env.locals := fun z => absurd I2.lt (Nat.not_lt.mpr (z ▸ hCs))
  have I6 : Inv X pins σ Hf { s' with heap := h' } := I5.turned (t' := s'.toks) (fun b o hb e => (sb.2 b hb).trans e) hC hlt (.inr (Nat.le_trans I2.sz hCs)) (fun x c e z => by
    obtain ⟨v, o, ho, _⟩ := I2.cell x c e
    exact absurd (Heap.lt_size ho) (Nat.not_lt.mpr (z ▸ hCs))) fun p hp z => absurd (Heap.lt_size (I2.pin p hp).1) (Nat.not_lt.mpr (z ▸ hCs))
  exact ⟨.ref D, Hf, I6, rfl, hQ _ Hf _ _ (t1.trans t5) (.ref D) g5 (q5 D hD)⟩
theorem qs_comp (i : Nat) {y : Str} {py spos : Pos} {wi : WI} (S : CompSc X scope N fv) (hc : X.calm = true) (hN : X.N.Nodup) (hiN : X.N[i]? = some y) (hy : Loc X.env.scope y) (hi : QI X tg iter wi) (hg : ∀ C fp s2 H2, QG (bCx X N scope C fp s2 H2) tg g) (htt : ∀ C fp s2 H2, QTs (bCx X N scope C fp s2 H2) ifs tt) (hte : ∀ C fp s2 H2, QE (bCx X N scope C fp s2 H2) elt te)
    (hsw : swapsWith (.ListComp elt [⟨tg, iter, ifs, 0⟩] scope pos) (some (.Name y py)) spos.line X.env = pure true := by rfl) (hs : ∀ x, foldedSetIterable iter X.env x = pure x := by intro _; rfl) (hfn : X.fn y = true ∨ X.env.scope.names.lookup y = some .local := by first | exact .inl rfl | exact .inr rfl | assumption) :
    QS X (.Assign [.Name y py] (.ListComp elt [⟨tg, iter, ifs, 0⟩] scope pos) spos) (wAsg (wComp wi fv g tt te) (hName i)) := by
  intro pins s σ H D0 I ⟨τ, G, d, hτ, hG, ht, l⟩
  rw [exec_Assign_Name_used _ _ _ _ hsw]
  refine wpAny_bind (wpAny_standAt (wpAny_bind ?_))
  show wpAny _ _ (do let _ ← comprehension (.ListComp elt [⟨tg, iter, ifs, 0⟩] scope pos) scope X.env _ (newList []) false (eval iter X.env) (some (assign (.Name y py) X.env))) _ _ s
  refine wpAny_bind (wpAny_mono (wpAny_comprehension_free (use := some (assign (.Name y py) X.env)) (Q := fun _ s' => SP X pins D0 .next s') rfl hs (closure_of (S.cells I)) S.kind S.names (thn (hi pins s σ H (fun J H1 => ∃ ws Cd G1, TLe H H1 ∧ RelG X.K H1 G1 ∧ Itn X.K J ws Cd H1 ∧ compW Cd g tt te ws (pick fv τ) G1 [] fun rs G2 => ∀ p, G1 p = none → hName i (.ref p) τ (updG G2 p (.lst rs)) d.nx) I
    ⟨τ, G, _, hτ, hG, ht, fun J H1 ws C G1 t1 g1 it r1 => ⟨ws, C, G1, t1, g1, it, r1⟩⟩) fun v s1 h1 => thn h1 fun itv s2 h2 => ?_)) (fun _ s' hq => wpAny_pure (wpAny_pure hq)) fun _ _ e => e)
  obtain ⟨it, fp, tn, J, H2, e, I2, T, st2, f2, ws, Cd, G1, t1, g1, itn, hw⟩ := h2
  subst e
  refine comp_block (RR := fun acc C => compPost (model X.prog X.w) X.A X.xe (some (assign (.Name y py) X.env)) (fun _ s' => SP X pins D0 .next s') acc C) I2 S hc T st2 f2 (fun C => hg C fp s2 H2) (fun C => htt C fp s2 H2) (fun C => hte C fp s2 H2) itn (hτ.mono t1) g1 hw fun D C s' ⟨Hf, Gf, rs, ⟨m, hn⟩, I5, hC, hCs, t5, g5, hD, hD2, q5⟩ => ?_
  have hlt : C ≠ X.env.locals := fun z => absurd I2.lt (Nat.not_lt.mpr (z ▸ hCs))
  have hcell : ∀ x c, X.env.cells.lookup x = some c → c ≠ C := fun x c e z => by
    obtain ⟨v, o, ho, _⟩ := I2.cell x c e
    exact absurd (Heap.lt_size ho) (Nat.not_lt.mpr (z ▸ hCs))
  show wpAny _ _ (assign (.Name y py) X.env (.ref D)) _ _ s'
  refine wpAny_assign_Name (store_ok2 I5 hN hiN hy (v := .ref D) rfl (fun s6 I6 ⟨a, sb6, ha⟩ => ?_) hfn)
  have haC : C ≠ a := by
    rcases ha with z | z
    · rw [z]; exact hlt
    · exact Ne.symm (hcell y a z)
  refine ⟨m, hn.sameBut sb6 haC, fun h' sb => ?_⟩
  have I7 : Inv X pins (σ.set i (some (.ref D))) Hf { s6 with heap := h' } := I6.turned (t' := s6.toks) (fun b o hb e => (sb.2 b hb).trans e) hC hlt (.inr (Nat.le_trans I2.sz hCs)) hcell fun p hp z => absurd (Heap.lt_size (I2.pin p hp).1) (Nat.not_lt.mpr (z ▸ hCs))
  exact ⟨_, Hf, I7, l.nx _ Hf _ _ (t1.trans t5) ((hτ.mono (t1.trans t5)).set (.ref D) i) g5 (q5 D hD)⟩
noncomputable def wComp2 (wi : WI) (fv : List (Option Nat)) (g : WG) (tt : WT) (te : WE) : WE := fun τ G q => wi τ G fun ws Cd G1 => compW Cd g tt te ws (pick fv τ) G1 [] fun rs G2 => ∀ p, G1 p = none → G2 p = none → q (.ref p) (updG G2 p (.lst rs))
theorem qe_comp2 {wi : WI} (S : CompSc X scope N fv) (hc : X.calm = true) (hi : QI X tg iter wi) (hg : ∀ C fp s2 H2, QG (bCx X N scope C fp s2 H2) tg g) (htt : ∀ C fp s2 H2, QTs (bCx X N scope C fp s2 H2) ifs tt) (hte : ∀ C fp s2 H2, QE (bCx X N scope C fp s2 H2) elt te)
    (hs : ∀ x, foldedSetIterable iter X.env x = pure x := by intro _; rfl) : QE X (.ListComp elt [⟨tg, iter, ifs, 0⟩] scope pos) (wComp2 wi fv g tt te) := by
  intro pins s σ H Q I ⟨τ, G, q, hτ, hG, ht, hQ⟩
  rw [eval_ListComp]
  refine wpAny_comprehension_free (use := none) rfl hs (closure_of (S.cells I)) S.kind S.names (thn (hi pins s σ H (fun J H1 => ∃ ws Cd G1, TLe H H1 ∧ RelG X.K H1 G1 ∧ Itn X.K J ws Cd H1 ∧ compW Cd g tt te ws (pick fv τ) G1 [] fun rs G2 => ∀ p, G1 p = none → G2 p = none → q (.ref p) (updG G2 p (.lst rs))) I
    ⟨τ, G, _, hτ, hG, ht, fun J H1 ws C G1 t1 g1 it r1 => ⟨ws, C, G1, t1, g1, it, r1⟩⟩) fun v s1 h1 => thn h1 fun itv s2 h2 => ?_)
  obtain ⟨it, fp, tn, J, H2, e, I2, T, st2, f2, ws, Cd, G1, t1, g1, itn, hw⟩ := h2
  subst e
  refine comp_block (RR := fun acc C => compPost (model X.prog X.w) X.A X.xe none (EP X pins σ Q) acc C) I2 S hc T st2 f2 (fun C => hg C fp s2 H2) (fun C => htt C fp s2 H2) (fun C => hte C fp s2 H2) itn (hτ.mono t1) g1 hw fun D C s' ⟨Hf, Gf, rs, ⟨m, hn⟩, I5, hC, hCs, t5, g5, hD, hD2, q5⟩ => ?_
  refine ⟨m, hn, fun h' sb => ?_⟩
  have hlt : C ≠ X.env.locals := fun z => absurd I2.lt (Nat.not_lt.mpr (z ▸ hCs))
  have I6 : Inv X pins σ Hf { s' with heap := h' } := I5.turned (t' := s'.toks) (fun b o hb e => (sb.2 b hb).trans e) hC hlt (.inr (Nat.le_trans I2.sz hCs)) (fun x c e z => by
    obtain ⟨v, o, ho, _⟩ := I2.cell x c e
    exact absurd (Heap.lt_size ho) (Nat.not_lt.mpr (z ▸ hCs))) fun p hp z => absurd (Heap.lt_size (I2.pin p hp).1) (Nat.not_lt.mpr (z ▸ hCs))
  exact ⟨.ref D, Hf, I6, rfl, hQ _ Hf _ _ (t1.trans t5) (.ref D) g5 (q5 D hD hD2)⟩
theorem qs_comp2 (i : Nat) {y : Str} {py spos : Pos} {wi : WI} (S : CompSc X scope N fv) (hc : X.calm = true) (hN : X.N.Nodup) (hiN : X.N[i]? = some y) (hy : Loc X.env.scope y) (hi : QI X tg iter wi) (hg : ∀ C fp s2 H2, QG (bCx X N scope C fp s2 H2) tg g) (htt : ∀ C fp s2 H2, QTs (bCx X N scope C fp s2 H2) ifs tt) (hte : ∀ C fp s2 H2, QE (bCx X N scope C fp s2 H2) elt te)
    (hsw : swapsWith (.ListComp elt [⟨tg, iter, ifs, 0⟩] scope pos) (some (.Name y py)) spos.line X.env = pure true := by rfl) (hs : ∀ x, foldedSetIterable iter X.env x = pure x := by intro _; rfl) (hfn : X.fn y = true ∨ X.env.scope.names.lookup y = some .local := by first | exact .inl rfl | exact .inr rfl | assumption) :
    QS X (.Assign [.Name y py] (.ListComp elt [⟨tg, iter, ifs, 0⟩] scope pos) spos) (wAsg (wComp2 wi fv g tt te) (hName i)) := by
  intro pins s σ H D0 I ⟨τ, G, d, hτ, hG, ht, l⟩
  rw [exec_Assign_Name_used _ _ _ _ hsw]
  refine wpAny_bind (wpAny_standAt (wpAny_bind ?_))
  show wpAny _ _ (do let _ ← comprehension (.ListComp elt [⟨tg, iter, ifs, 0⟩] scope pos) scope X.env _ (newList []) false (eval iter X.env) (some (assign (.Name y py) X.env))) _ _ s
  refine wpAny_bind (wpAny_mono (wpAny_comprehension_free (use := some (assign (.Name y py) X.env)) (Q := fun _ s' => SP X pins D0 .next s') rfl hs (closure_of (S.cells I)) S.kind S.names (thn (hi pins s σ H (fun J H1 => ∃ ws Cd G1, TLe H H1 ∧ RelG X.K H1 G1 ∧ Itn X.K J ws Cd H1 ∧ compW Cd g tt te ws (pick fv τ) G1 [] fun rs G2 => ∀ p, G1 p = none → G2 p = none → hName i (.ref p) τ (updG G2 p (.lst rs)) d.nx) I
    ⟨τ, G, _, hτ, hG, ht, fun J H1 ws C G1 t1 g1 it r1 => ⟨ws, C, G1, t1, g1, it, r1⟩⟩) fun v s1 h1 => thn h1 fun itv s2 h2 => ?_)) (fun _ s' hq => wpAny_pure (wpAny_pure hq)) fun _ _ e => e)
  obtain ⟨it, fp, tn, J, H2, e, I2, T, st2, f2, ws, Cd, G1, t1, g1, itn, hw⟩ := h2
  subst e
  refine comp_block (RR := fun acc C => compPost (model X.prog X.w) X.A X.xe (some (assign (.Name y py) X.env)) (fun _ s' => SP X pins D0 .next s') acc C) I2 S hc T st2 f2 (fun C => hg C fp s2 H2) (fun C => htt C fp s2 H2) (fun C => hte C fp s2 H2) itn (hτ.mono t1) g1 hw fun D C s' ⟨Hf, Gf, rs, ⟨m, hn⟩, I5, hC, hCs, t5, g5, hD, hD2, q5⟩ => ?_
  have hlt : C ≠ X.env.locals := fun z => absurd I2.lt (Nat.not_lt.mpr (z ▸ hCs))
  have hcell : ∀ x c, X.env.cells.lookup x = some c → c ≠ C := fun x c e z => by
    obtain ⟨v, o, ho, _⟩ := I2.cell x c e
    exact absurd (Heap.lt_size ho) (Nat.not_lt.mpr (z ▸ hCs))
  show wpAny _ _ (assign (.Name y py) X.env (.ref D)) _ _ s'
  refine wpAny_assign_Name (store_ok2 I5 hN hiN hy (v := .ref D) rfl (fun s6 I6 ⟨a, sb6, ha⟩ => ?_) hfn)
  have haC : C ≠ a := by
    rcases ha with z | z
    · rw [z]; exact hlt
    · exact Ne.symm (hcell y a z)
  refine ⟨m, hn.sameBut sb6 haC, fun h' sb => ?_⟩
  have I7 : Inv X pins (σ.set i (some (.ref D))) Hf { s6 with heap := h' } := I6.turned (t' := s6.toks) (fun b o hb e => (sb.2 b hb).trans e) hC hlt (.inr (Nat.le_trans I2.sz hCs)) hcell fun p hp z => absurd (Heap.lt_size (I2.pin p hp).1) (Nat.not_lt.mpr (z ▸ hCs))
  exact ⟨_, Hf, I7, l.nx _ Hf _ _ (t1.trans t5) ((hτ.mono (t1.trans t5)).set (.ref D) i) g5 (q5 D hD hD2)⟩
end
end L2
namespace L2
open PySem PySem.Spec PyProof.Rows
section
variable {P : Program} {w : World} {K : PySem.W.Frag}
end
noncomputable def zipW : List W → List W → List W
  | x :: xs, y :: ys => .tup [x, y] :: zipW xs ys
  | _, _ => []
section
variable {X : Cx}
noncomputable def jZip (ta : WA) : WI := fun τ G r => ta τ G fun ws G1 => match ws with
  | [.tup xs, .tup ys] => r (zipW xs ys) (fun _ => True) G1
  | _ => False
noncomputable def wNeg (te : WE) : WE := fun τ G q => te τ G fun x G1 => match x with | .int i => q (.int (-i)) G1 | _ => False
theorem qe_neg {a : Expr} {ta : WE} {pos : Pos} (ha : QE X a ta) : QE X (.UnaryOp .USub a pos) (wNeg ta) :=
  (pe_un un_neg ha).imp fun σ H Q z0 => z0.el fun τ G q hs hg ht hQ => ⟨τ, G, _, hs, hg, ht, fun v H1 w G1 t1 r1 g1 q1 => by
    split at q1
    · cases r1
      exact ⟨_, rfl, hQ _ H1 _ G1 t1 (.int _) g1 q1⟩
    · exact q1.elim⟩
noncomputable def Fx (P : Program) (w : World) (K : PySem.W.Frag) (mg : Str → Option Value) (base : Heap) (x : Str) (ps : List Str) (k : Nat) (sp : WSp) : Prop :=
  ∃ (f : Addr) (fd : FuncData), WFn P w K mg base k f fd ps sp ∧ mg x = some (.ref f) ∧ PySem.W.keepIn K (.ref f) = true ∧ Binds K fd ps []
theorem qe_fx {x : Str} {ps : List Str} {k : Nat} {sp : WSp} {p pos : Pos} {e : Expr} {es : List Expr} {t : WA} (F : Fx X.prog X.w X.K X.mg X.base x ps k sp) (hr : Room k X.A) (hg : Gl X x) (ha : QA X (e :: es) t) (hdb : (x == ("__debug__" : Str)) = false := by decide)
    (he : starEach (e :: es) X.env = (false, eval e X.env) :: starEach es X.env := by rfl) (hpl : (backTo pos (starEach es X.env)).any (·.1) = false := by rfl) : QE X (.Call (.Name x p) (e :: es) [] pos) (wCall sp [] t) := by
  obtain ⟨f, fd, h1, h2, h3, h4⟩ := F
  exact qe_call h1 hr hg h2 h3 h4 ha hdb he hpl
theorem qe_fx0 {x : Str} {ps : List Str} {k : Nat} {sp : WSp} {p pos : Pos} (F : Fx X.prog X.w X.K X.mg X.base x ps k sp) (hr : Room k X.A) (hg : Gl X x) (hdb : (x == ("__debug__" : Str)) = false := by decide) : QE X (.Call (.Name x p) [] [] pos) (wCall sp [] wNil) := by
  obtain ⟨f, fd, h1, h2, h3, h4⟩ := F
  exact qe_call0 h1 hr hg h2 h3 h4 hdb
noncomputable def compN (scope : Scope) : List Str := scope.names.map (·.1)
noncomputable def compFv (N : List Str) (scope : Scope) : List (Option Nat) := scope.names.map fun y => if y.2 == .free then N.findIdx? (· == y.1) else none
noncomputable def compOk (outer scope : Scope) : Bool :=
  scope.kind == .function && scope.names.all (fun y => y.2 != .cell) && scope.names.all (fun y => y.2 != .local || scope.names.lookup y.1 == some .local) &&
    scope.names.all (fun y => y.2 != .free || (outer.names.lookup y.1 == some .cell && scope.names.lookup y.1 != some .local))
theorem compSc {scope : Scope} (h : compOk X.env.scope scope = true) : CompSc X scope (compN scope) (compFv X.N scope) := by
  unfold compOk at h
  simp only [Bool.and_eq_true, List.all_eq_true, Bool.or_eq_true, bne_iff_ne, beq_iff_eq, ne_eq] at h
  obtain ⟨⟨⟨h1, h2⟩, h3⟩, h4⟩ := h
  refine ⟨h1, h2, fun x hx hk => (h3 x hx).resolve_left fun z => z hk, fun y hy hk => ((h4 y hy).resolve_left fun z => z hk).1, fun i j x e1 e2 => ?_, by simp [compN, compFv], fun {x} hx => ((h4 _ hx).resolve_left fun z => z rfl).2⟩
  unfold compN at e1
  unfold compFv at e2
  rw [List.getElem?_map] at e1 e2
  cases e : scope.names[i]? with
  | none => rw [e] at e1; cases e1
  | some y =>
    rw [e] at e1 e2
    have e1' : y.1 = x := Option.some.inj e1
    have e2' : (if (y.2 == NameKind.free) = true then X.N.findIdx? (· == y.1) else none) = some j := Option.some.inj e2
    have hm : y ∈ scope.names := List.mem_of_getElem? e
    split at e2'
    · rename_i hk
      have hk' : y.2 = .free := by simpa using hk
      have hy : y = (x, NameKind.free) := by rw [← e1', ← hk']
      have := List.findIdx?_eq_some_iff_getElem.mp e2'
      obtain ⟨hj, hj2, _⟩ := this
      refine ⟨?_, ?_, hy ▸ hm⟩
      · rw [List.getElem?_eq_getElem hj]
        have : X.N[j] = y.1 := by simpa using hj2
        rw [this, e1']
      · have := ((h4 y hm).resolve_left fun z => z hk').1
        rw [e1'] at this
        exact this
    · cases e2'
theorem qg_nameB (i : Nat) {N : List Str} {scope : Scope} {C : Addr} {fp : List Addr} {s2 : Shared} {H2 : Hp} {x : Str} {pos : Pos} (hN : N.Nodup) (hi : N[i]? = some x) (hx : Loc (bCx X N scope C fp s2 H2).env.scope x) (hf : (bCx X N scope C fp s2 H2).fn x = true ∨ (bCx X N scope C fp s2 H2).env.scope.names.lookup x = some .local := by first | exact .inl rfl | exact .inr rfl) :
    QG (bCx X N scope C fp s2 H2) (.Name x pos) (hName i) := qg_name (X := bCx X N scope C fp s2 H2) i hN hi hx hf
theorem b_tuple : bootBuiltins "tuple" = some (.type "tuple") := by decide +kernel
theorem b_list : bootBuiltins "list" = some (.type "list") := by decide +kernel
theorem b_max : bootBuiltins "max" = some (.builtin "max") := by decide +kernel
theorem bodyOf {body : List Stmt} {R : WS → Prop} {t : WS} (h : QSs X body t) (g : R t) : ∃ t, QSs X body t ∧ R t := ⟨t, h, g⟩
end
end L2
namespace L2
open PySem PySem.Spec PyProof.Rows
mutual
noncomputable def W.lt : W → W → Bool
  | .int i, .int j => decide (i < j)
  | .tup xs, .tup ys => W.lts xs ys
  | _, _ => false
noncomputable def W.lts : List W → List W → Bool
  | [], [] => false
  | [], _ :: _ => true
  | _ :: _, [] => false
  | x :: xs, y :: ys => if W.eq x y = true then W.lts xs ys else W.lt x y
end
mutual
noncomputable def W.ord : W → W → Bool
  | .int _, .int _ => true
  | .tup xs, .tup ys => W.ords xs ys
  | _, _ => false
noncomputable def W.ords : List W → List W → Bool
  | x :: xs, y :: ys => if W.eq x y = true then W.ords xs ys else W.ord x y
  | _, _ => true
end
noncomputable def LtAt (A : Around) (s : Shared) (y x : Value) (b : Bool) : Prop :=
  ∀ (prog : Program) (w : World) (E : Value → Shared → Prop) (Q : Value → Shared → Prop), Q (.bool b) s → wpAny (model prog w) A (richCompare .Lt y x) Q E s
inductive CmpL (A : Around) (s : Shared) : List Value → List Value → Bool → Prop where
  | nn : CmpL A s [] [] false
  | nc {y : Value} {ys : List Value} : CmpL A s [] (y :: ys) true
  | cn {x : Value} {xs : List Value} : CmpL A s (x :: xs) [] false
  | eq {x y : Value} {xs ys : List Value} {r : Bool} (h : SeqAt.EqAt A s x y true) (t : CmpL A s xs ys r) : CmpL A s (x :: xs) (y :: ys) r
  | ne {x y : Value} {xs ys : List Value} {r : Bool} (h : SeqAt.EqAt A s x y false) (t : LtAt A s x y r) : CmpL A s (x :: xs) (y :: ys) r
section
open PySem.SeqAt
open PySem.AutoSeq1 (wpAny_loadPart')
open PySem.MeetsSeq PySem.MeetsSeq2 PySem.MeetsSeq3
theorem tuple_ltAt (l b : Addr) (items items2 : Array Value) (n n2 : Nat) (dd dd2 : Option Addr) (sl sl2 : Array (Option Value)) (r : Bool) :
    Meets (Builtin.«tuple.__lt__» ⟨[.ref l, .ref b], []⟩)
      (fun A R s => s.heap.get? l = some { cls := .type "tuple", dict := dd, data := .seq items n, slots := sl } ∧ s.heap.get? b = some { cls := .type "tuple", dict := dd2, data := .seq items2 n2, slots := sl2 } ∧
        CmpL A.in1 s items.toList items2.toList r ∧ R (.ok (.ret (.bool r))) s) :=
  .of_wp fun prog w A R s h => by
    obtain ⟨hp, g, d, tk, os⟩ := s; obtain ⟨hl, hb, hc, h⟩ := h
    have f2 := AutoSeq1.sub_tuple_tuple
    wp_walk using wpAny_loadPart' hl, wpAny_loadPart' hb, wpAny_forIn_list _ (fun rest b s' => b.1 = none ∧ s' = ⟨hp, g, d, tk, os⟩ ∧ ∃ (vs ws : List Value), rest = vs.zip ws ∧
      CmpL A.in1 ⟨hp, g, d, tk, os⟩ vs ws r ∧ vs.length + items2.size = ws.length + items.size) _
    case turn =>
      rintro ⟨y, x⟩ rest b s' ⟨hb', rfl, vs, ws, hz, hC, hlen⟩
      cases hC with
      | nn => rw [List.zip_nil_left] at hz; cases hz
      | nc => rw [List.zip_nil_left] at hz; cases hz
      | cn => rw [List.zip_nil_right] at hz; cases hz
      | eq he ht =>
        rw [List.zip_cons_cons] at hz
        injection hz with hyx hrest
        injection hyx with hy hx
        subst hy hx
        simp only [List.length_cons] at hlen
        refine wpAny_bind (he prog w _ _ ?_)
        wp_walk
        exact ⟨rfl, rfl, _, _, hrest, ht, by (clear hl hb hc h f2 hb' ht hrest he; omega)⟩
      | ne he ht =>
        rw [List.zip_cons_cons] at hz
        injection hz with hyx hrest
        injection hyx with hy hx
        subst hy hx
        refine wpAny_bind (he prog w _ _ ?_)
        have hri := ht prog w
        wp_walk using hri
        exact ⟨_, rfl, by simpa using h⟩
    case fin =>
      rintro ⟨b1, b2⟩ s' ⟨hb', rfl, vs, ws, hz, hC, hlen⟩
      simp only at hb'
      subst hb'
      have hv : r = decide (items.size < items2.size) := by
        cases hC with
        | nn => simp only [List.length_nil] at hlen; exact (decide_eq_false (by (clear hl hb f2 hz hc h; omega))).symm
        | nc => simp only [List.length_nil, List.length_cons] at hlen; exact (decide_eq_true (by (clear hl hb f2 hz hc h; omega))).symm
        | cn => simp only [List.length_nil, List.length_cons] at hlen; exact (decide_eq_false (by (clear hl hb f2 hz hc h; omega))).symm
        | eq he ht => rw [List.zip_cons_cons] at hz; cases hz
        | ne he ht => rw [List.zip_cons_cons] at hz; cases hz
      rw [hv] at h
      wp_walk
      exact ⟨_, rfl, by simpa [Builtin.Tuple.tupleCompareSizes] using h⟩
    case h =>
      exact ⟨rfl, rfl, _, _, rfl, hc, by simp; (clear hl hb hc h f2; omega)⟩
end
theorem LtAt.tuples {A : Around} {s : Shared} {l b : Addr} {items items2 : Array Value} {r : Bool} (hl : s.heap.IsTuple l items) (hb : s.heap.IsTuple b items2) (hu : A.units < cLine)
    (hc : CmpL A.in1 s items.toList items2.toList r) : LtAt A s (.ref l) (.ref b) r := fun prog w E Q h => by
  obtain ⟨⟨cls, dd, data, sl⟩, ho, hcl, n, hd⟩ := id hl
  obtain ⟨⟨cls2, dd2, data2, sl2⟩, ho2, hc2, n2, hd2⟩ := id hb
  simp only at hcl hd hc2 hd2
  subst hcl hd hc2 hd2
  exact richCompare_meets_room (op := .Lt) ⟨_, ho, rfl⟩ ⟨_, ho2, rfl⟩ PySem.F.slot_tuple_lt PySem.F.entry_tuple_lt (PySem.F.args_tuple_lt_2 _ _) (tuple_ltAt l b items items2 n n2 dd dd2 sl sl2 r)
    ⟨ho, ho2, hc, show Value.bool r ≠ Value.notImplemented ∧ Q (.bool r) s from ⟨(fun x => nomatch x), h⟩⟩ hu
section
variable {X : Cx} {pins : List (Addr × Obj)} {σ : St} {H : Hp} {s : Shared}
theorem ltL_rep (I : Inv X pins σ H s) (n : Nat) (A : Around)
    (ih : ∀ {w1 w2 : W} {v1 v2 : V} {u1 u2 : Value}, w1.dep < n → w1.flat = true → w2.flat = true → W.ord w1 w2 = true → Rep X.K H w1 v1 → Rep X.K H w2 v2 → RelV v1 u1 → RelV v2 u2 → LtAt A s u1 u2 (w1.lt w2)) (hu : A.units + n < cLine) :
    ∀ {ws us : List W} {xs ys : List V} {its its2 : List Value}, W.deps ws < n → W.flats ws = true → W.flats us = true → W.ords ws us = true → Reps X.K H ws xs → Reps X.K H us ys → Vals xs its → Vals ys its2 → CmpL A s its its2 (W.lts ws us) := by
  intro ws
  induction ws with
  | nil =>
    intro us xs ys its its2 hd f1 f2 ho r1 r2 q1 q2
    cases r1
    cases q1
    cases r2 with
    | nil => cases q2; simpa [W.lts] using CmpL.nn
    | cons _ _ => cases q2; simpa [W.lts] using CmpL.nc
  | cons x xs IH =>
    intro us vs1 vs2 its its2 hd f1 f2 ho r1 r2 q1 q2
    cases r1 with
    | cons r1 s1 =>
      cases q1 with
      | cons q1 t1 =>
        cases r2 with
        | nil => cases q2; simpa [W.lts] using CmpL.cn
        | @cons y ys _ _ r2 s2 =>
          cases q2 with
          | cons q2 t2 =>
            simp only [W.deps] at hd
            simp only [W.flats, Bool.and_eq_true] at f1 f2
            have e := (eq_rep I n A (w1 := x) (w2 := y) (by (clear I ih hu IH r1 s1 q1 t1 r2 s2 ho q2 t2 f1 f2; omega)) f1.1 f2.1 hu r1 r2 q1 q2).1
            rw [W.ords] at ho
            rw [W.lts]
            cases he : W.eq x y with
            | true =>
              rw [he] at e ho
              rw [if_pos rfl] at ho ⊢
              exact .eq e (IH (by (clear I ih hu IH r1 s1 q1 t1 r2 s2 ho q2 t2 f1 f2 e he; omega)) f1.2 f2.2 ho s1 s2 t1 t2)
            | false =>
              rw [he] at e ho
              rw [if_neg Bool.false_ne_true] at ho ⊢
              exact .ne e (ih (by (clear I ih hu IH r1 s1 q1 t1 r2 s2 ho q2 t2 f1 f2 e he; omega)) f1.1 f2.1 ho r1 r2 q1 q2)
theorem lt_rep (I : Inv X pins σ H s) : ∀ (n : Nat) (A : Around) {w1 w2 : W} {v1 v2 : V} {u1 u2 : Value}, w1.dep < n → w1.flat = true → w2.flat = true → W.ord w1 w2 = true → A.units + n < cLine → Rep X.K H w1 v1 → Rep X.K H w2 v2 → RelV v1 u1 → RelV v2 u2 →
    LtAt A s u1 u2 (w1.lt w2) := by
  intro n
  induction n with
  | zero => intro A w1 w2 v1 v2 u1 u2 h; (clear I; omega)
  | succ n ih =>
    intro A w1 w2 v1 v2 u1 u2 hd f1 f2 ho hu r1 r2 q1 q2
    cases r1 with
    | ref a => simp [W.flat] at f1
    | scr a => simp [W.flat] at f1
    | non => simp [W.ord] at ho
    | bl b => simp [W.ord] at ho
    | str b => simp [W.ord] at ho
    | int a =>
      cases r2 with
      | int b =>
        obtain ⟨t, rfl⟩ := q1
        obtain ⟨t', rfl⟩ := q2
        rw [W.lt]
        exact fun prog w E Q h => HT.rcLt_int A s a t b t' prog w E Q h
      | _ => simp [W.ord] at ho
    | @tup a ws xs h r =>
      cases r2 with
      | @tup b us ys h2 r2 =>
        cases (show u1 = Value.ref _ from q1)
        cases (show u2 = Value.ref _ from q2)
        obtain ⟨its, rv, p, _⟩ := Inv.tupH I h
        obtain ⟨its2, rv2, p2, _⟩ := Inv.tupH I h2
        have g1 : W.flats ws = true := by simpa [W.flat] using f1
        have g2 : W.flats us = true := by simpa [W.flat] using f2
        have ho' : W.ords ws us = true := by simpa [W.ord] using ho
        have hd' : W.deps ws < n := by simp only [W.dep] at hd; (clear I ih hu h r f1 h2 r2 f2 ho q1 q2 rv p rv2 p2 g1 g2 ho'; omega)
        have hui : A.in1.units + n < cLine := by show A.units + 1 + n < cLine; (clear I ih h r hd f1 h2 r2 f2 ho q1 q2 rv p rv2 p2 g1 g2 ho' hd'; omega)
        rw [W.lt]
        exact LtAt.tuples p p2 (by (clear I ih h r hd f1 h2 r2 f2 ho q1 q2 rv p rv2 p2 g1 g2 ho' hd' hui; omega)) (ltL_rep I n A.in1 (fun h1 h2 h3 h4 => ih A.in1 h1 h2 h3 h4 hui) hui hd' g1 g2 ho' r r2 rv rv2)
      | _ => simp [W.ord] at ho
end
section
variable {X : Cx}
noncomputable def rLt3 : W2 := fun x y G q => match x, y with
  | .int i, .int j => q (.bl (decide (i < j))) G
  | .tup xs, .tup ys => W.flats xs = true ∧ W.flats ys = true ∧ W.deps xs ≤ 149 ∧ W.ords xs ys = true ∧ q (.bl (W.lts xs ys)) G
  | _, _ => False
theorem q_lt3 {k : Nat} (hr : Room k X.A) : QOp X (compareOp .Lt) rLt3 := by
  intro pins s σ H x y v u Q I rx ry ⟨wx, wy, G, q, r1, r2, g, h, hQ⟩
  unfold rLt3 at h
  split at h
  · cases r1
    cases r2
    exact op_lt pins s σ H _ _ v u Q I rx ry ⟨_, _, rfl, rfl, hQ _ H _ G (TLe.refl H) (.bl _) g h⟩
  · rename_i xs ys
    obtain ⟨f1, f2, hd, ho, h⟩ := h
    have z := lt_rep I 151 X.A (w1 := .tup xs) (w2 := .tup ys) (by simp only [W.dep]; (clear hr I rx ry g hQ r1 r2 f1 f2 ho h; omega)) (by simpa [W.flat] using f1) (by simpa [W.flat] using f2) (by simpa [W.ord] using ho) (by have := hr.un; (clear hr I rx ry g hQ r1 r2 f1 f2 hd ho h; omega)) r1 r2 rx ry
    rw [W.lt] at z
    exact z X.prog X.w X.xe _ ⟨.bl _, H, I, rfl, hQ _ H _ G (TLe.refl H) (.bl _) g h⟩
  · exact h.elim
end
end L2
namespace L2
open PySem PySem.Spec PyProof.Rows
section
variable {X : Cx}
end
end L2
namespace L2
open PySem PySem.Spec PyProof.Rows
section
variable {X : Cx} {pins : List (Addr × Obj)} {σ : St} {H : Hp} {s : Shared}
theorem eqJ (I : Inv X pins σ H s) {n : Nat} {A : Around} {ws us : List W} {xs ys : List V} {its its2 : List Value} (hd : W.deps ws < n) (g1 : W.flats ws = true) (g2 : W.flats us = true) (hu : A.in1.units + n < cLine) (r : Reps X.K H ws xs) (r2 : Reps X.K H us ys) (rv : Vals xs its) (rv2 : Vals ys its2) :
    ∀ j (h1 : j < its.toArray.size) (h2 : j < its2.toArray.size), SeqAt.EqAt A.in1 s its.toArray[j] its2.toArray[j] (eqAtJ ws us j) := fun j j1 j2 => by
  have e1 : its.length = ws.length := by rw [← rv.length, r.length]
  have e2 : its2.length = us.length := by rw [← rv2.length, r2.length]
  rw [List.size_toArray] at j1 j2
  have ea : ws[j]? = some ws[j] := List.getElem?_eq_getElem (by (clear I hd g1 g2 hu r r2 rv rv2 j2 e2; omega))
  have eb : us[j]? = some us[j] := List.getElem?_eq_getElem (by (clear I hd g1 g2 hu r r2 rv rv2 j1 e1 ea; omega))
  obtain ⟨va, ea1, ra⟩ := r.get ea
  obtain ⟨vb, eb1, rb⟩ := r2.get eb
  obtain ⟨ua, ea2, qa⟩ := rv.get ea1
  obtain ⟨ub, eb2, qb⟩ := rv2.get eb1
  have za : its.toArray[j] = ua := by
    have := (List.getElem?_eq_some_iff.mp ea2).2
    simpa using this
  have zb : its2.toArray[j] = ub := by
    have := (List.getElem?_eq_some_iff.mp eb2).2
    simpa using this
  rw [za, zb]
  have := (eq_rep I n A.in1 (w1 := ws[j]) (w2 := us[j]) (Nat.lt_of_le_of_lt (W.deps_get ea) hd) (W.flats_get g1 ea) (W.flats_get g2 eb) hu ra rb qa qb).1
  unfold eqAtJ
  rw [ea, eb]
  exact this
theorem eqs_len {ws us : List W} (h : ws.length ≠ us.length) : W.eqs ws us = false := by
  cases e : W.eqs ws us with
  | false => rfl
  | true => exact absurd ((W.eqs_iff ws us).mp e).1 h
end
section
variable {X : Cx}
noncomputable def rEq4 : W2 := fun x y G q => match x, y with
  | .ref a, .ref b => ∃ xs ys, G a = some (.lst xs) ∧ G b = some (.lst ys) ∧ W.flats xs = true ∧ W.flats ys = true ∧ W.deps xs ≤ 149 ∧ q (.bl (W.eqs xs ys)) G
  | x, y => rEq3 x y G q
noncomputable def rNe4 : W2 := fun x y G q => match x, y with
  | .ref a, .ref b => ∃ xs ys, G a = some (.lst xs) ∧ G b = some (.lst ys) ∧ W.flats xs = true ∧ W.flats ys = true ∧ W.deps xs ≤ 149 ∧ q (.bl (!(W.eqs xs ys))) G
  | x, y => rNe3 x y G q
theorem q_eq4 {k : Nat} (hr : Room k X.A) : QOp X (compareOp .Eq) rEq4 := by
  intro pins s σ H x y v u Q I rx ry ⟨wx, wy, G, q, r1, r2, g, h, hQ⟩
  unfold rEq4 at h
  split at h
  · obtain ⟨ws, us, ea, eb, f1, f2, hd, h⟩ := h
    cases r1
    cases r2
    cases rx
    cases ry
    obtain ⟨_, xs, e1, ra⟩ := g _ _ ea
    obtain ⟨_, ys, e2, rb⟩ := g _ _ eb
    obtain ⟨its, rv, p, _⟩ := I.list (SqL.of e1)
    obtain ⟨its2, rv2, p2, _⟩ := I.list (SqL.of e2)
    have l1 : its.length = ws.length := by rw [← rv.length, ra.length]
    have l2 : its2.length = us.length := by rw [← rv2.length, rb.length]
    have hu := hr.un
    have fin : EP X pins σ Q (.bool (W.eqs ws us)) s := ⟨.bl _, H, I, rfl, hQ _ H _ G (TLe.refl H) (.bl _) g h⟩
    by_cases hl : ws.length = us.length
    · have c1 := SeqAt.RcAt.lists p.isList p2.isList (by rw [List.size_toArray, List.size_toArray, l1, l2, hl]) (A := X.A) (by (clear hr I g hQ ea eb f1 f2 hd h e1 ra e2 rb rv p rv2 p2 l1 l2 fin hl; omega)) (eqJ I (n := 150) (by (clear hr I g hQ ea eb f1 f2 h e1 ra e2 rb rv p rv2 p2 l1 l2 hu fin hl; omega)) f1 f2 (by show X.A.units + 1 + 150 < cLine; (clear hr I g hQ ea eb f1 f2 hd h e1 ra e2 rb rv p rv2 p2 l1 l2 fin hl; omega)) ra rb rv rv2)
      have er := eqs_range ws us
      rw [← hl, Nat.min_self, beq_self_eq_true, Bool.and_true] at er
      rw [List.size_toArray, l1, er] at c1
      exact c1 X.prog X.w X.xe _ fin
    · rw [eqs_len hl] at fin
      exact SeqAt.RcAt.lists_lengths p.isList p2.isList (by rw [List.size_toArray, List.size_toArray, l1, l2]; simpa using hl) (A := X.A) (by (clear hr I g hQ ea eb f1 f2 hd h e1 ra e2 rb rv p rv2 p2 l1 l2 fin hl; omega)) X.prog X.w X.xe _ fin
  · exact q_eq hr pins s σ H x y v u Q I rx ry ⟨wx, wy, G, q, r1, r2, g, h, hQ⟩
theorem q_ne4 {k : Nat} (hr : Room k X.A) : QOp X (compareOp .NotEq) rNe4 := by
  intro pins s σ H x y v u Q I rx ry ⟨wx, wy, G, q, r1, r2, g, h, hQ⟩
  unfold rNe4 at h
  split at h
  · obtain ⟨ws, us, ea, eb, f1, f2, hd, h⟩ := h
    cases r1
    cases r2
    cases rx
    cases ry
    obtain ⟨_, xs, e1, ra⟩ := g _ _ ea
    obtain ⟨_, ys, e2, rb⟩ := g _ _ eb
    obtain ⟨its, rv, p, _⟩ := I.list (SqL.of e1)
    obtain ⟨its2, rv2, p2, _⟩ := I.list (SqL.of e2)
    have l1 : its.length = ws.length := by rw [← rv.length, ra.length]
    have l2 : its2.length = us.length := by rw [← rv2.length, rb.length]
    have hu := hr.un
    have fin : EP X pins σ Q (.bool (!(W.eqs ws us))) s := ⟨.bl _, H, I, rfl, hQ _ H _ G (TLe.refl H) (.bl _) g h⟩
    by_cases hl : ws.length = us.length
    · have c1 := SeqAt.RcNeAt.lists p.isList p2.isList (by rw [List.size_toArray, List.size_toArray, l1, l2, hl]) (A := X.A) (by (clear hr I g hQ ea eb f1 f2 hd h e1 ra e2 rb rv p rv2 p2 l1 l2 fin hl; omega)) (eqJ I (n := 150) (by (clear hr I g hQ ea eb f1 f2 h e1 ra e2 rb rv p rv2 p2 l1 l2 hu fin hl; omega)) f1 f2 (by show X.A.units + 1 + 150 < cLine; (clear hr I g hQ ea eb f1 f2 hd h e1 ra e2 rb rv p rv2 p2 l1 l2 fin hl; omega)) ra rb rv rv2)
      have er := eqs_range ws us
      rw [← hl, Nat.min_self, beq_self_eq_true, Bool.and_true] at er
      rw [List.size_toArray, l1, er] at c1
      exact c1 X.prog X.w X.xe _ fin
    · rw [eqs_len hl] at fin
      exact SeqAt.RcNeAt.lists_lengths p.isList p2.isList (by rw [List.size_toArray, List.size_toArray, l1, l2]; simpa using hl) (A := X.A) (by (clear hr I g hQ ea eb f1 f2 hd h e1 ra e2 rb rv p rv2 p2 l1 l2 fin hl; omega)) X.prog X.w X.xe _ fin
  · exact q_ne hr pins s σ H x y v u Q I rx ry ⟨wx, wy, G, q, r1, r2, g, h, hQ⟩
end
end L2
namespace L2
open PySem PySem.Spec PyProof.Rows
structure CR3 (lo hi c : Int) : Prop where
  c0 : 0 < c
  c1 : c < 1000
  l0 : -(2 ^ 40) ≤ lo
  l1 : lo < 2 ^ 40
  h0 : -(2 ^ 40) ≤ hi
  h1 : hi < 2 ^ 40
noncomputable def rsz (lo hi c : Int) : Int := Builtin.Range.rangeSize lo hi c
section
variable {X : Cx} {tg : Expr}
noncomputable def upS (lo c : Int) (n : Nat) : List W := (List.range n).map fun (i : Nat) => W.int (lo + (i : Int) * c)
noncomputable def jRng3 (ta : WA) : WI := fun τ G r => ta τ G fun ws G1 => match ws with
  | [.int lo, .int hi, .int c] => CR3 lo hi c ∧ r (upS lo c (rsz lo hi c).toNat) (fun _ => True) G1
  | _ => False
noncomputable def upL (lo : Int) (n : Nat) : List W := (List.range n).map fun (i : Nat) => W.int (lo + (i : Int))
noncomputable def jRng2 (ta : WA) : WI := fun τ G r => ta τ G fun ws G1 => match ws with
  | [.int i, .int j] => (-(2 ^ 62) ≤ i ∧ i < 2 ^ 62 ∧ -(2 ^ 62) ≤ j ∧ j < 2 ^ 62) ∧ r (upL i (j - i).toNat) (fun _ => True) G1
  | _ => False
end
section
variable {X : Cx}
noncomputable def cMin : List W → Gp → WK → Prop := fun ws G q => match ws with
  | [.int i, .int j] => q (.int (if j < i then j else i)) G
  | _ => False
noncomputable def BigM (i j : Int) : Prop := i.natAbs < 2 ^ 4000 ∧ j.natAbs < 2 ^ 4000
noncomputable def BigD (j : Int) : Prop := 0 < j ∧ j.natAbs < 2 ^ 4000
noncomputable def CMulB (i j : Int) : Prop := CMul i j ∨ BigM i j
theorem CMulB.ok {i j : Int} (h : CMulB i j) : IntMulOk i j := by
  rcases h with h | ⟨h1, h2⟩
  · exact h.ok
  · have b1 := PyProof.Rows.intBits_le h1
    have b2 := PyProof.Rows.intBits_le h2
    unfold IntMulOk Builtin.Int.intTooBig
    have : ¬ (((Builtin.Int.intBits i + Builtin.Int.intBits j : Int)) > bitsLine) := by
      have hb : (8000 : Int) ≤ bitsLine := by decide
      (clear h1 h2; omega)
    simp [this]
noncomputable def CDivB (i j : Int) : Prop := CDiv i j ∨ BigD j
theorem op_fdivB : OpR X (binaryOp .FloorDiv) (rI CDivB fun i j => .int (i / j)) := opI fun i j _ _ _ _ _ hc q => by
  rcases hc with hc | ⟨h0, h1⟩
  · have h1 : (0 : Int) < j := hc.1
    have h2 : j < 1073741824 := hc.2
    exact floordiv_int (by (clear q hc; omega)) (by rw [Int.fdiv_eq_ediv_of_nonneg i (by (clear q hc; omega))]; exact q) (.inl (PyProof.noPylong_small (by (clear q hc; omega))))
  · refine floordiv_int (by (clear q h1; omega)) (by rw [Int.fdiv_eq_ediv_of_nonneg i (by (clear q h1; omega))]; exact q) (.inl (PyProof.noPylong_of_log2 ?_))
    have hne : j.natAbs ≠ 0 := by (clear q h1; omega)
    exact Nat.lt_of_lt_of_le ((Nat.log2_lt hne).mpr h1) (by decide)
noncomputable abbrev vDivB : W2 := vInt CDivB fun i j => .int (i / j)
theorem q_divB : QOp X (binaryOp .FloorDiv) vDivB := q_rint op_fdivB
end
end L2
namespace L2
open PySem PySem.Spec PyProof.Rows
section
variable {X : Cx}
noncomputable def wPar (i j : Nat) (ta : WA) : WS := fun d τ G => ta τ G fun ws G1 => match ws with
  | [v, w] => d.nx ((τ.set i (some v)).set j (some w)) G1
  | _ => False
end
end L2
namespace L2
open PySem PySem.Spec PyProof.Rows
structure FunD (K : PySem.W.Frag) (x qual : Str) (st : Stmt) (f : Addr) (fd : FuncData) (T : Addr) (ds : List Value) : Prop where
  ex : ∃ (oc : Value) (od : Option Addr) (kV doc pm : Value) (an : Option Addr) (cdv ct : Value) (osl : Array (Option Value)) (ot : Obj) (nt : Nat),
    fd = PySem.W.fnOf x qual (defArgs st) (defBody st) (defScope st) (.ref T) kV doc pm an cdv ct ∧ K.lookup f = some ⟨oc, od, .func fd, osl⟩ ∧ PySem.W.codeIn K cdv qual = true ∧ K.lookup T = some ot ∧ ot.data = .seq ds.toArray nt
  kp : PySem.W.keepIn K (.ref f) = true
section
variable {P : Program} {w : World} {K : PySem.W.Frag} {mg : Str → Option Value} {base : Heap} {x qual : Str} {st : Stmt} {f T : Addr} {fd : FuncData} {ds : List Value}
theorem fun_mkD {oc : Value} {od an : Option Addr} {osl : Array (Option Value)} {kV doc pm cdv ct : Value} {ot : Obj} {nt : Nat} (l : K.lookup f = some ⟨oc, od, .func (PySem.W.fnOf x qual (defArgs st) (defBody st) (defScope st) (.ref T) kV doc pm an cdv ct), osl⟩)
    (c : PySem.W.codeIn K cdv qual = true) (k : PySem.W.keepIn K (.ref f) = true) (t : K.lookup T = some ot) (h : ot.data = .seq ds.toArray nt) : FunD K x qual st f (PySem.W.fnOf x qual (defArgs st) (defBody st) (defScope st) (.ref T) kV doc pm an cdv ct) T ds :=
  ⟨⟨oc, od, kV, doc, pm, an, cdv, ct, osl, ot, nt, rfl, l, c, t, h⟩, k⟩
theorem FunD.binds {ps : List Str} {es : List Value} (F : FunD K x qual st f fd T ds)
    (h : ∀ (kV doc pm : Value) (an : Option Addr) (cdv ct : Value) (us : List Value), (us ++ es).length = ps.length → ∃ k, bindArgs (PySem.W.fnOf x qual (defArgs st) (defBody st) (defScope st) (.ref T) kV doc pm an cdv ct) ⟨us, []⟩ = seqItems? (.ref T) >>= k ∧ k (some ds.toArray) = pure (ps.zip (us ++ es))) : Binds K fd ps es := by
  obtain ⟨oc, od, kV, doc, pm, an, cdv, ct, osl, ot, nt, rfl, lk, hcd, ht, hd⟩ := F.ex
  intro s us KX hl
  obtain ⟨k, h1, h2⟩ := h kV doc pm an cdv ct us hl
  exact BindsTo.of_defaults (T := T) rfl (KX _ _ ht) hd h1 h2
theorem fn3D {N ps : List Str} {k : Nat} {sp : WSp} (F : FunD K x qual st f fd T ds) (S : FnScope N ps (defScope st)) (len : ∀ ws G q e, sp ws G q e → ws.length = ps.length)
    (hbody : ∀ (cdv : Value) (A : Around) (outer : List Env) (s : Shared) (H : Hp) (E : XK), Room k (A.deeper (envOfC qual (defScope st) s.heap.objs.size f cdv)) →
      ∃ t, QSs (cxOf CX0 P w K mg base N qual (defScope st) f cdv A outer s H E).nox (defBody st) t ∧
        ∀ (ws : List W) (G : Gp) (q : WK) (e : WX), sp ws G q e → t { nx := fun _ G1 => ∃ G0, GLe G0 G1 ∧ q .non G0, rt := fun w G1 => ∃ G0, GLe G0 G1 ∧ q w G0 } (wStart N ws) G) : WFn P w K mg base (k + 1) f fd ps sp := by
  obtain ⟨oc, od, kV, doc, pm, an, cdv, ct, osl, ot, nt, rfl, lk, hcd, ht, hd⟩ := F.ex
  refine fn_of lk hcd S (fun vs H Q E ⟨ws, G, q, e, r, g, z, _⟩ => by rw [← r.length]; exact len _ _ _ _ z) (fun A outer s H vs Q E hr ⟨ws, G, q, e, r, g, z, hQ, _⟩ => ?_)
  obtain ⟨t, ht, hq⟩ := hbody cdv A outer s H E hr
  have ht' : PSs (cxOf CX0 P w K mg base N qual (defScope st) f cdv A outer s H E).nox (defBody st) (LS K t) := ht
  exact ⟨_, ht'.nox, _, G, _, RelSt.start r, g, hq ws G q e z, ⟨fun σ1 H1 τ1 G1 t1 s1 g1 ⟨G0, l, q1⟩ => hQ .non H1 .non G0 t1 .non (g1.le l) q1, fun v H1 w G1 t1 r1 g1 ⟨G0, l, q1⟩ => hQ v H1 w G0 t1 r1 (g1.le l) q1, fun _ _ _ _ _ _ _ z => z.elim, fun _ _ _ _ _ _ _ z => z.elim⟩⟩
noncomputable def Fxd (P : Program) (w : World) (K : PySem.W.Frag) (mg : Str → Option Value) (base : Heap) (x : Str) (ps : List Str) (k : Nat) (sp : WSp) (dws : List W) : Prop :=
  ∃ (f : Addr) (fd : FuncData) (ds : List Value) (dvs : List V), WFn P w K mg base k f fd ps sp ∧ mg x = some (.ref f) ∧ PySem.W.keepIn K (.ref f) = true ∧ Binds K fd ps ds ∧ Vals dvs ds ∧ ∀ H, Reps K H dws dvs
noncomputable def DfD (K : PySem.W.Frag) (mg : Str → Option Value) (x : Str) (st : Stmt) (ps : List Str) (dws : List W) : Prop :=
  ∃ (f : Addr) (fd : FuncData) (T : Addr) (ds : List Value) (dvs : List V), FunD K x x st f fd T ds ∧ Binds K fd ps [] ∧ Binds K fd ps ds ∧ mg x = some (.ref f) ∧ Vals dvs ds ∧ ∀ H, Reps K H dws dvs
theorem DfD.fx {ps : List Str} {k : Nat} {sp : WSp} {dws : List W} (D : DfD K mg x st ps dws) (h : ∀ (f : Addr) (fd : FuncData) (T : Addr) (ds : List Value), FunD K x x st f fd T ds → WFn P w K mg base k f fd ps sp) : Fx P w K mg base x ps k sp := by
  obtain ⟨f, fd, T, ds, dvs, F, b, b', m, _, _⟩ := D
  exact ⟨f, fd, h f fd T ds F, m, F.kp, b⟩
theorem DfD.fxd {ps : List Str} {k : Nat} {sp : WSp} {dws : List W} (D : DfD K mg x st ps dws) (h : ∀ (f : Addr) (fd : FuncData) (T : Addr) (ds : List Value), FunD K x x st f fd T ds → WFn P w K mg base k f fd ps sp) : Fxd P w K mg base x ps k sp dws := by
  obtain ⟨f, fd, T, ds, dvs, F, b, b', m, v, r⟩ := D
  exact ⟨f, fd, ds, dvs, h f fd T ds F, m, F.kp, b', v, r⟩
end
section
variable {X : Cx}
theorem qe_fxn {x : Str} {ps : List Str} {k : Nat} {sp : WSp} {p pos : Pos} {e : Expr} {es : List Expr} {t : WA} (F : Fx X.prog X.w X.K X.mg X.base x ps k sp) (hr : Room k X.A) (hg : Gl X x) (ha : QA X (e :: es) t) (_hn : (e :: es).length = ps.length := by rfl) (hdb : (x == ("__debug__" : Str)) = false := by decide)
    (he : starEach (e :: es) X.env = (false, eval e X.env) :: starEach es X.env := by rfl) (hpl : (backTo pos (starEach es X.env)).any (·.1) = false := by rfl) : QE X (.Call (.Name x p) (e :: es) [] pos) (wCall sp [] t) := qe_fx F hr hg ha hdb he hpl
theorem qe_fxd {x : Str} {ps : List Str} {k : Nat} {sp : WSp} {dws : List W} {p pos : Pos} {e : Expr} {es : List Expr} {t : WA} (F : Fxd X.prog X.w X.K X.mg X.base x ps k sp dws) (hr : Room k X.A) (hg : Gl X x) (ha : QA X (e :: es) t) (_hn : (e :: es).length + dws.length = ps.length := by rfl) (hdb : (x == ("__debug__" : Str)) = false := by decide)
    (he : starEach (e :: es) X.env = (false, eval e X.env) :: starEach es X.env := by rfl) (hpl : (backTo pos (starEach es X.env)).any (·.1) = false := by rfl) : QE X (.Call (.Name x p) (e :: es) [] pos) (wCall sp dws t) := by
  obtain ⟨f, fd, ds, dvs, h1, h2, h3, h4, h5, h6⟩ := F
  exact (pe_call h1 hr hg h2 h3 h4 h5 pass0 ha hdb he hpl).imp fun _ _ _ h => h.call h6
noncomputable def wNever : WS := fun _ _ _ => False
theorem qs_never {st : Stmt} : QS X st wNever := fun _ _ _ _ _ _ ⟨_, _, _, _, _, z, _⟩ => z.elim
end
end L2
namespace L2
open PySem PySem.Spec PyProof.Rows
variable {X : Cx}
noncomputable def cMax4 : List W → Gp → WK → Prop := fun ws G q => match ws with
  | [.int i, .int j] => q (.int (if j > i then j else i)) G
  | [.int i, .int j, .int k] => q (.int (if j > i then (if k > j then k else j) else if k > i then k else i)) G
  | [.ref a] => ∃ ns : List Int, G a = some (.lst (ns.map W.int)) ∧ ns ≠ [] ∧ ∀ m : Int, m ∈ ns → (∀ x, x ∈ ns → x ≤ m) → q (.int m) G
  | _ => False
theorem qe_gint {x : Str} {i : Int} {t : Tok} {pos : Pos} (hg : Gl X x) (hm : X.mg x = some (.int i t)) (hd : (x == ("__debug__" : Str)) = false := by decide) : QE X (.Name x pos) (wC (.int i)) := qe_const (pe_glob (v := .int i) hg hm ⟨t, rfl⟩ hd) fun _ => .int i
end L2
namespace L2
open PySem PySem.Spec PyProof.Rows
section
variable {M : Model} {A : Around} {E : Value → Shared → Prop} {K : PySem.W.Frag} {C D a : Addr} {bm bmD : List Value} {oe : Obj}
end
structure Fl (P : Program) (w : World) (fs : List Addr) (H H' : Hp) (h0 h : Heap) (a T : Addr) (c fl : Value) : Prop where
  un : Un fs [] H H' h0 h
  hok : HOk P w H' h
  na : h0.get? a = none
  nT : h0.get? T = none
  ha : H' a = none
  hT : H' T = none
  tr : ∃ oe vs oT ts a0, h.get? a = some oe ∧ (oe.cls = c ∧ vs[0]? = some a0) ∧ oe.data = .fields vs ∧ vs[1]? = some (.ref T) ∧ T ≠ a ∧ h.get? T = some oT ∧ oT.data = .fields ts ∧ ts[3]? = some fl
section
variable {P : Program} {w : World} {fs : List Addr} {H H' : Hp} {h0 h h' : Heap} {a T : Addr} {c fl fl' : Value}
end
noncomputable def CX1 (P : Program) (w : World) : CXT := fun outer H s E e s' => ∃ a T C H', e = .ref a ∧ s'.os = s.os ∧ AllBare s'.gens ∧ Fl P w (frs outer) H H' s.heap s'.heap a T (.ref C) .none ∧ E (.ref C) none H'
noncomputable abbrev RFn (P : Program) (w : World) (K : PySem.W.Frag) (mg : Str → Option Value) (base : Heap) (k : Nat) (f : Addr) (fd : FuncData) (ps : List Str) (sp : WSp) : Prop := FnOk P w K mg base (CX1 P w) k f fd ps (LSp K sp)
section
variable {P : Program} {w : World} {K : PySem.W.Frag} {mg : Str → Option Value} {base : Heap} {N : List Str} {qual : Str} {scope : Scope} {f : Addr} {cdv : Value} {A : Around} {outer : List Env} {s : Shared} {H : Hp} {E : XK}
noncomputable def wRaise (C : Addr) (e : WX) : WS := fun _ _ G => e (.ref C) G
end
noncomputable def wNevers : WS := fun _ _ _ => False
section
variable {X : Cx} {pins : List (Addr × Obj)} {σ : St} {H : Hp} {s : Shared} {a : Addr} {oe : Obj}
end
section
variable {X : Cx} {pins : List (Addr × Obj)} {σ : St} {H0 H : Hp} {s0 s : Shared} {a T : Addr} {c fl : Value}
variable {C D : Addr} {bm bmD : List Value} {x : Str} {p pos : Pos} {name : Option Str} {body : List Stmt} {rest : List ExceptHandler} {b0 : Stmt} {th : WS}
noncomputable def wAs (i : Nat) (ts : Addr → WS) : WS := fun d τ G => ∀ a, G a = none → ts a { nx := fun τ1 G1 => d.nx (τ1.set i none) G1, rt := d.rt, bk := fun τ1 G1 => d.bk (τ1.set i none) G1, ct := fun τ1 G1 => d.ct (τ1.set i none) G1 } (τ.set i (some (.ref a))) G
noncomputable def wTry (sp : WSp) (dws : List W) (t : WA) (C : Addr) (th : WS) : WS := fun d τ G => t τ G fun ws G1 => sp (ws ++ dws) G1 (fun _ G2 => d.nx τ G2) fun c G2 => c = .ref C ∧ th d τ G2
end
section
variable {X : Cx} {a : Addr} {oe : Obj} {C D : Addr} {bm bmD : List Value}
noncomputable def wIsx (i : Nat) (a : Addr) : WE := fun τ G q => τ[i]? = some (some (.ref a)) ∧ q (.bl true) G
theorem vals2' {x y : V} {us : List Value} (r : Vals [x, y] us) : ∃ u v, us = [u, v] ∧ RelV x u ∧ RelV y v := by
  cases r with
  | cons r1 r =>
    cases r with
    | cons r2 r => cases r; exact ⟨_, _, rfl, r1, r2⟩
end
end L2
namespace L2
open PySem PySem.Spec PyProof.Rows
section
variable {prog : Program} {w : World} {A : Around} {R : Result → Shared → Prop} {I : Addr} {fp wr : List Addr} {n : Nat} {P : Nat → Value → Prop} {St : Nat → Heap → Prop} {kw : List (Str × Value)}
theorem args_maxD (a d : Value) : argsOk "max" ⟨[a], [("default", d)]⟩ := by unfold argsOk; kernel_rfl
theorem loopD (W : Walks prog w A.in1 I fp wr n P St) (bt : Nat → Nat → Bool) (hcmp : CmpOf prog w A.in1 .Gt P bt) (S : Addr) (hSf : S ∉ fp) :
    ∀ (k j : Nat) (s : Shared) (vb : Value) (c : Nat), n - (j + 1) = k → j + 1 ≤ n → St (j + 1) s.heap → P (argBest bt j) vb → s.heap.get? S = some { cls := .type "list", dict := none, data := .seq #[vb, vb] c, slots := #[] } →
      (∀ v h' tk, P (argBest bt (n - 1)) v → (∀ b o, b ∉ wr → b ≠ S → s.heap.get? b = some o → h'.get? b = some o) → R (.ok (.ret v)) { s with heap := h', toks := tk }) →
      codeAny (model prog w) A (.builtin "max.loop" ⟨[.ref I, .none, .ref S], kw⟩) R s := by
  have nw : S ∉ wr := fun z => hSf (W.sub _ z)
  have nm : (toString "max" ++ toString ".loop" : String) = "max.loop" := by decide
  intro k
  induction k with
  | zero =>
    intro j s vb c hk hj hst hb hS hR
    have hin : j + 1 = n := by (clear W hcmp hSf nw nm hst hb hS hR; omega)
    refine (codeAny_builtin F.entry_max_loop ?_); rw [Around.under_plainId F.plain_max_loop _]
    show wpAny _ A.in1 (seqItems? (Value.ref S) >>= _) _ _ s
    refine wpAny_bind (wpAny_seqItems hS rfl (?_ : wpAny _ A.in1 (tryCatch (pyNext (.ref I)) _ >>= _) _ _ s))
    refine wpAny_bind (wpAny_tryCatch (W.done s _ _ (hin ▸ hst) fun h1 tk k1 => (?_ : wpAny _ A.in1 (updateSeq S (fun _ => #[]) >>= _) _ _ _)))
    refine wpAny_bind (wpAny_updateSeq (k1 S _ nw hS) rfl (wpAny_bind (wpAny_letGo (wpAny_pure ?_))))
    exact hR vb _ tk (by rw [← hin]; exact hb) fun b o n1 n2 e => (Heap.get?_update_other _ _ (Ne.symm n2)).trans (k1 b o n1 e)
  | succ k ih =>
    intro j s vb c hk hj hst hb hS hR
    have hlt : j + 1 < n := by (clear W hcmp hSf nw nm ih hst hb hS hR; omega)
    refine (codeAny_builtin F.entry_max_loop ?_); rw [Around.under_plainId F.plain_max_loop _]
    show wpAny _ A.in1 (seqItems? (Value.ref S) >>= _) _ _ s
    refine wpAny_bind (wpAny_seqItems hS rfl (?_ : wpAny _ A.in1 (tryCatch (pyNext (.ref I)) _ >>= _) _ _ s))
    refine wpAny_bind (wpAny_tryCatch (W.item (j + 1) s _ _ hlt hst fun v h1 tk hP hst1 k1 => (?_ : wpAny _ A.in1 (tryCatch (holding [v, v] (richCompare .Gt v vb >>= _)) _ >>= _) _ _ _)))
    have hS1 := k1 S _ nw hS
    refine wpAny_bind (wpAny_tryCatch (wpAny_holding (wpAny_bind (hcmp (j + 1) (argBest bt j) v vb _ _ _ hP hb (wpAny_bind (wpAny_holding (wpAny_truthy_bool (wpAny_bind (wpAny_letGo (wpAny_pure ?_))))))))))
    cases e0 : bt (j + 1) (argBest bt j) with
    | true =>
      simp only [if_true]
      refine wpAny_bind (wpAny_updateSeq hS1 rfl (wpAny_bind (wpAny_letGo ?_)))
      rw [nm]
      refine wpAny_pure ⟨plainId_quiet F.plain_max_loop _, ih (j + 1) _ v _ (by (clear W hcmp hSf nw nm ih hj hst hb hS hR hP hst1 k1 hS1 e0; omega)) hlt (W.frame _ _ _ hst1 fun b hf o e => ?_) (by simp only [argBest, e0, if_true]; exact hP) (Heap.get?_update_self _ hS1 rfl) fun v2 h2 tk2 hP2 k2 => ?_⟩
      · exact (Heap.get?_update_other _ _ (fun z : S = b => hSf (by rw [z]; exact hf))).trans e
      · exact hR v2 h2 tk2 hP2 fun b o n1 n2 e => k2 b o n1 n2 ((Heap.get?_update_other _ _ (Ne.symm n2)).trans (k1 b o n1 e))
    | false =>
      simp only [if_false, Bool.false_eq_true]
      refine wpAny_bind (wpAny_letGo ?_)
      rw [nm]
      refine wpAny_pure ⟨plainId_quiet F.plain_max_loop _, ih (j + 1) _ vb c (by (clear W hcmp hSf nw nm ih hj hst hb hS hR hP hst1 k1 hS1 e0; omega)) hlt hst1 (by simp only [argBest, e0, if_false, Bool.false_eq_true]; exact hb) hS1 fun v2 h2 tk2 hP2 k2 => ?_⟩
      exact hR v2 h2 tk2 hP2 fun b o n1 n2 e => k2 b o n1 n2 (k1 b o n1 e)
end
section
variable {prog : Program} {w : World} {A : Around} {E : Value → Shared → Prop} {s : Shared} {l : Addr} {xs : Array (Int × Tok)} {d : Value}
theorem maxD_list {Q : Value → Shared → Prop} (hh : A.handled = none) (hl : s.heap.IsList l (intItems xs))
    (h0 : xs.size = 0 → ∀ h' tk, (∀ b o, s.heap.get? b = some o → h'.get? b = some o) → Q d { s with heap := h', toks := tk })
    (h1 : 0 < xs.size → ∀ v h' tk, (intItems xs)[argBest (fun i j => decide (numAt xs i > numAt xs j)) (xs.size - 1)]? = some v → (∀ b o, s.heap.get? b = some o → h'.get? b = some o) → Q v { s with heap := h', toks := tk }) :
    wpAny (model prog w) A (call (.builtin "max") [.ref l] [("default", d)]) Q E s := by
  have nm : (toString "max" ++ toString ".loop" : String) = "max.loop" := by decide
  have body : wpAny (model prog w) A.in1 (Builtin.«max» ⟨[.ref l], [("default", d)]⟩) (fun fin s' => match fin with
      | .done f => (match (Except.ok f : Result) with | .ok (.ret v) => Q v s' | .ok _ => False | .error e => E e s')
      | .again c' => c'.quiet = true ∧ codeAny (model prog w) A c' (fun r s' => match r with | .ok (.ret v) => Q v s' | .ok _ => False | .error e => E e s') s') E s := by
    show wpAny _ A.in1 (Builtin.Builtins.bindParams "max" ["key", "default"] 0 ⟨[], [("default", d)]⟩ >>= _) _ _ s
    refine wpAny_bind (wpAny_of_eq (show Builtin.Builtins.bindParams "max" ["key", "default"] 0 ⟨[], [("default", d)]⟩ = pure [none, some d] from rfl) (wpAny_bind (wpAny_pure (wpAny_bind (iter_intList hl fun s2 e st hfp hlI => ?_)))))
    subst e
    have Wk := Walks.list (prog := prog) (w := w) (A := A.in1) hh s.heap.objs.size l hlI (intItems xs)
    refine wpAny_bind (wpAny_newObj_type ?_)
    rw [nm]
    have hSf : (s.heap.push { cls := .type "list_iterator", data := .fields #[.ref l, .int 0 0] }).objs.size ∉ [s.heap.objs.size, l] := fun z => Nat.lt_irrefl _ (hfp _ z)
    have nw : (s.heap.push { cls := .type "list_iterator", data := .fields #[.ref l, .int 0 0] }).objs.size ∉ [s.heap.objs.size] := fun z => hSf (Wk.sub _ z)
    have st1 := Wk.frame _ _ _ st fun b _ o e => Heap.get?_push_of_some (h := s.heap.push { cls := .type "list_iterator", data := .fields #[.ref l, .int 0 0] }) { cls := .type "list", data := .seq #[] } e
    have hS : ((s.heap.push { cls := .type "list_iterator", data := .fields #[.ref l, .int 0 0] }).push { cls := .type "list", data := .seq #[] }).get? (s.heap.push { cls := .type "list_iterator", data := .fields #[.ref l, .int 0 0] }).objs.size = some { cls := .type "list", dict := none, data := .seq #[] 0, slots := #[] } := Heap.get?_push_size _ rfl
    have old : ∀ b o, s.heap.get? b = some o → b ∉ [s.heap.objs.size] ∧ b ≠ (s.heap.push { cls := .type "list_iterator", data := .fields #[.ref l, .int 0 0] }).objs.size ∧ ((s.heap.push { cls := .type "list_iterator", data := .fields #[.ref l, .int 0 0] }).push { cls := .type "list", data := .seq #[] }).get? b = some o := fun b o e => by
      have hb := Heap.lt_size e
      refine ⟨fun z => ?_, fun z => ?_, Heap.get?_push_of_some _ (Heap.get?_push_of_some _ e)⟩
      · rw [List.mem_singleton.mp z] at hb; exact Nat.lt_irrefl _ hb
      · rw [z, Heap.size_push] at hb; exact absurd hb (Nat.not_lt.mpr (Nat.le_succ _))
    refine wpAny_pure ⟨plainId_quiet F.plain_max_loop _, ?_⟩
    refine (codeAny_builtin F.entry_max_loop ?_); rw [Around.under_plainId F.plain_max_loop _]
    show wpAny _ A.in1 (seqItems? (Value.ref (s.heap.push { cls := .type "list_iterator", data := .fields #[.ref l, .int 0 0] }).objs.size) >>= _) _ _ _
    refine wpAny_bind (wpAny_seqItems hS rfl (?_ : wpAny _ A.in1 (tryCatch (pyNext (.ref s.heap.objs.size)) _ >>= _) _ _ _))
    have hsz : (intItems xs).size = xs.size := by simp [intItems]
    by_cases hz : xs.size = 0
    · refine wpAny_bind (wpAny_tryCatch (Wk.done _ _ _ ((hsz.trans hz).symm ▸ st1) fun h' tk k1 => ?_))
      refine wpAny_bind (wpAny_rule (wpAny_pure ?_))
      exact h0 hz h' tk fun b o e => k1 b o (old b o e).1 (old b o e).2.2
    · have hp : 0 < xs.size := Nat.pos_of_ne_zero hz
      refine wpAny_bind (wpAny_tryCatch (Wk.item 0 _ _ _ (by rw [hsz]; exact hp) st1 fun v h' tk hP hst' k1 => (?_ : wpAny _ A.in1 (updateSeq (s.heap.push { cls := .type "list_iterator", data := .fields #[.ref l, .int 0 0] }).objs.size (fun _ => #[v, v]) >>= _) _ _ _)))
      have hS1 := k1 _ _ nw hS
      refine wpAny_bind (wpAny_updateSeq hS1 rfl ?_)
      rw [nm]
      refine wpAny_pure ⟨plainId_quiet F.plain_max_loop _, loopD Wk _ (CmpOf.ints_gt (numAt xs) fun _ _ => intItems_at) _ hSf _ 0 _ v _ rfl (by rw [hsz]; exact hp) (Wk.frame _ _ _ hst' fun b hf o e => ?_) hP (Heap.get?_update_self _ hS1 rfl) fun v2 h2 tk2 hP2 k2 => ?_⟩
      · exact (Heap.get?_update_other _ _ (fun z => hSf (by rw [z]; exact hf))).trans e
      · refine h1 hp v2 h2 tk2 (by rw [← hsz]; exact hP2) fun b o e => k2 b o (old b o e).1 (old b o e).2.1 ((Heap.get?_update_other _ _ (Ne.symm (old b o e).2.1)).trans (k1 b o (old b o e).1 (old b o e).2.2))
  have ha := args_maxD (.ref l) d
  refine wpAny_call (codeAny_call_builtin F.plain_max F.entry_max ?_)
  simp only [F.kind_max, checkBuiltinCall]
  cases sg : Manifest.signature? "max" with
  | none => exact wpAny_pure body
  | some sig =>
    simp only [argsOk, sg] at ha
    show wpAny _ A.in1 (Bind.checkArgs "max" sig ⟨[.ref l], [("default", d)]⟩) _ _ s
    rw [show Bind.checkArgs "max" sig ⟨[.ref l], [("default", d)]⟩ = pure () from ha]
    exact wpAny_pure body
end
section
variable {X : Cx}
noncomputable def wMaxD (te : WE) (d : Int) : WE := fun τ G q => te τ G fun x G1 => match x with
  | .ref a => ∃ ns : List Int, G1 a = some (.lst (ns.map W.int)) ∧ (ns = [] → q (.int d) G1) ∧ ∀ m : Int, m ∈ ns → (∀ x, x ∈ ns → x ≤ m) → q (.int m) G1
  | _ => False
theorem qe_maxD {e : Expr} {te : WE} {d : Int} {j} {p pos kp cp : Pos} (hc : X.calm = true) (hg : Gl X "max") (hm : X.mg "max" = none) (he : QE X e te)
    (hs1 : starEach [e] X.env = (false, eval e X.env) :: starEach [] X.env := by rfl) (hb1 : backTo pos (starEach [e] X.env) = (false, eval e X.env) :: backTo pos (starEach [] X.env) := by rfl) (hpl : (backTo pos (starEach [e] X.env)).any (·.1) = false := by rfl) :
    QE X (.Call (.Name "max" p) [e] [⟨some "default", .Constant (.int d) j cp, kp⟩] pos) (wMaxD te d) := by
  intro pins s σ H Q I ⟨τ, G, q, hs, hgG, ht, hQ⟩
  refine wpAny_Call_Name_kw (ld_blt I hg hm b_max ?_)
  have go := (pa_cons he pa_nil hs1) pos pins s σ H (fun vs H1 => ∃ v w G1, vs = [v] ∧ TLe H H1 ∧ Rep X.K H1 w v ∧ RelG X.K H1 G1 ∧ (match w with
      | .ref a => ∃ ns : List Int, G1 a = some (.lst (ns.map W.int)) ∧ (ns = [] → q (.int d) G1) ∧ ∀ m : Int, m ∈ ns → (∀ x, x ∈ ns → x ≤ m) → q (.int m) G1
      | _ => False)) I ⟨τ, G, _, hs, hgG, ht, fun v H1 w G1 t1 r1 g1 q1 => ⟨v, w, G1, rfl, t1, r1, g1, q1⟩⟩
  refine callWith_kw (thn go fun us s1 ⟨vs, H1, I1, rv, v, w, G1, ev, t1, rw1, g1, hw⟩ => kws_cons ?_) hb1 hpl rfl rfl
  subst ev
  refine thn (pe_int (X := X) (i := d) (j := j) (pos := cp) pins s1 σ H1 (fun v H2 => v = .int d ∧ H2 = H1) I1 ⟨rfl, rfl⟩) fun u2 s2 ⟨v2, H2, I2, rv2, e1, e2⟩ => kws_nil ?_
  subst e1 e2
  obtain ⟨td, rfl⟩ := rv2
  show wpAny _ _ (call (.builtin "max") us [("default", .int d td)]) _ _ s2
  split at hw
  · rename_i a
    obtain ⟨ns, e, h0, h1⟩ := hw
    cases rw1
    obtain ⟨_, zs, e1, rr⟩ := g1 a _ e
    obtain rfl := rr.ints_of
    obtain ⟨u, rfl, ru⟩ := vals1 rv
    cases (show u = Value.ref a from ru)
    obtain ⟨its, ri, pl, hz⟩ := I2.list (SqL.of e1)
    have hi : IntsAre its ns := L2.intsAre_of ri
    obtain ⟨ys, ey⟩ := hi.allInts.items
    have hn : (ys.toList.map (·.1)) = ns := by rw [← nums_intItems, ← ey, ← hi.numsOf]
    have hl : s2.heap.IsList a (intItems ys) := by rw [← ey]; exact pl.isList
    have hsz : ys.size = ns.length := by rw [← hn]; simp
    refine maxD_list (I2.ok.hd hc) hl (fun hz h' tk hk => ⟨.int d, H2, I2.kept hk, ⟨_, rfl⟩, hQ _ H2 _ G1 t1 (.int _) g1 (h0 ?_)⟩) fun hpos v h' tk hv hk => ?_
    · exact List.eq_nil_of_length_eq_zero (hsz.symm.trans hz)
    · have ab := argBest_gt (numAt ys) (ys.size - 1)
      generalize argBest (fun i j => decide (numAt ys i > numAt ys j)) (ys.size - 1) = ix at hv ab
      have hix : ix < ys.size := by (clear hc hg hm he hs1 hb1 hpl I hs hgG ht hQ go I2 I1 t1 g1 e h0 h1 e1 rr ru rv ri pl hz hi ey hn hl hk hv; omega)
      have hna : ∀ j (hj : j < ys.size), numAt ys j = ns[j]'(by (clear hc hg hm he hs1 hb1 hpl I hs hgG ht hQ go I2 I1 t1 g1 e h0 h1 e1 rr ru rv ri pl hz hi ey hn hl hpos hk hv ab hix; omega)) := fun j hj => by
        unfold numAt
        rw [Array.getElem?_eq_getElem hj]
        simp [← hn]
      have hv2 : v = Value.int (ys[ix].1) (ys[ix].2) := by
        unfold intItems at hv
        rw [Array.getElem?_map, Array.getElem?_eq_getElem hix] at hv
        simpa using hv.symm
      have hm : ys[ix].1 = ns[ix]'(by (clear hc hg hm he hs1 hb1 hpl I hs hgG ht hQ go I2 I1 t1 g1 e h0 h1 e1 rr ru rv ri pl hz hi ey hn hl hpos hk hv ab hna hv2; omega)) := by
        have := hna ix hix
        unfold numAt at this
        rw [Array.getElem?_eq_getElem hix] at this
        simpa using this
      rw [hm] at hv2
      subst hv2
      refine ⟨.int _, H2, I2.kept hk, ⟨_, rfl⟩, hQ _ H2 _ G1 t1 (.int _) g1 (h1 _ (List.getElem_mem _) fun x hx => ?_)⟩
      obtain ⟨j, hj, rfl⟩ := List.mem_iff_getElem.mp hx
      have := ab.2 j (by (clear hc hg he hs1 hb1 hpl I hs hgG ht hQ go I2 I1 t1 g1 e h0 h1 e1 rr ru rv ri pl hz hi ey hn hl hk ab hna hm hv hx; omega))
      rw [hna j (by (clear hc hg he hs1 hb1 hpl I hs hgG ht hQ go I2 I1 t1 g1 e h0 h1 e1 rr ru rv ri pl hz hi ey hn hl hpos hk ab hna hm hv hx this; omega)), hna ix hix] at this
      exact this
  · exact hw.elim
noncomputable def rIsB (neg : Bool) : W2 := fun x y G q => match x, y with
  | .bl a, .bl b => q (.bl (neg ^^ (a == b))) G
  | _, _ => False
end
end L2
namespace L2
open PySem PySem.Spec PyProof.Rows
section
variable {P : Program} {w : World} {K : PySem.W.Frag} {mg : Str → Option Value} {base : Heap} {N : List Str} {qual : Str} {scope : Scope} {f : Addr} {cdv : Value} {A : Around} {outer : List Env} {s : Shared} {H : Hp} {E : XK}
noncomputable def wCallX (sp : WSp) (dws : List W) (t : WA) (e : WX) : WE := fun τ G q => t τ G fun ws G1 => sp (ws ++ dws) G1 q e
end
section
variable {X : Cx} {pins : List (Addr × Obj)} {σ : St} {H : Hp} {s : Shared}
noncomputable def wDct : WE := fun _ G q => ∀ p, G p = none → q (.ref p) (updG G p .dct)
end
end L2
namespace L2
open PySem PySem.Spec PyProof.Rows
section
variable {prog : Program} {w : World} {A : Around} {E : Value → Shared → Prop} {s : Shared} {I l : Addr} {items : Array Value}
end
section
variable {X : Cx}
noncomputable def wTupRev (te : WE) : WE := fun τ G q => te τ G fun x G1 => match x with
  | .ref a => ∃ ws, G1 a = some (.lst ws) ∧ q (.tup ws.reverse) G1
  | _ => False
end
end L2
namespace L2
open PySem PySem.Spec PyProof.Rows
noncomputable def CRG (lo hi c : Int) : Prop := CR3 lo hi c ∨ (c = -1 ∧ -(2 ^ 40) ≤ lo ∧ lo < 2 ^ 40 ∧ -(2 ^ 40) ≤ hi ∧ hi < 2 ^ 40)
section
variable {X : Cx} {tg : Expr}
noncomputable def jRngG (ta : WA) : WI := fun τ G r => ta τ G fun ws G1 => match ws with
  | [.int lo, .int hi, .int c] => CRG lo hi c ∧ r (upS lo c (rsz lo hi c).toNat) (fun _ => True) G1
  | _ => False
noncomputable def bits (i : Int) : Int := (Builtin.Int.intBits i : Nat)
noncomputable def wBits (to : WE) : WE := fun τ G q => to τ G fun x G1 => match x with
  | .int i => q (.int (bits i)) G1
  | _ => False
noncomputable def BigP (i j : Int) : Prop := 0 ≤ j ∧ j ≤ 1000 ∧ i.natAbs < 2 ^ 4000
noncomputable def CPowB (i j : Int) : Prop := CPow i j ∨ BigP i j
noncomputable abbrev vPowB : W2 := vInt CPowB fun i j => .int (i ^ j.toNat)
theorem op_powB : OpR X (binaryOp .Pow) (rI CPowB fun i j => .int (i ^ j.toNat)) := opI fun i j _ _ _ _ _ hc q => by
  rcases hc with hc | ⟨h0, h1, h2⟩
  · exact pow_int_small hc.1 hc.2.1 hc.2.2 q
  · refine pow_int h0 ?_ q
    have b1 := PyProof.Rows.intBits_le h2
    have b2 : (Builtin.Int.intBits i : Int) * j ≤ 4000 * 1000 := Int.mul_le_mul (by (clear q h0 h1 h2; omega)) h1 h0 (by decide)
    have hb : (4000000 : Int) ≤ bitsLine := by decide
    first | (clear q h0 h1 h2 b1 hb; omega) | (simp [Builtin.Int.intTooBig]; omega)
theorem q_powB : QOp X (binaryOp .Pow) vPowB := q_rint op_powB
end
end L2
namespace L2
open PySem PySem.Spec PyProof.Rows
section
variable {X : Cx} {C : Addr} {th : WS} {x : Str} {p pos : Pos}
noncomputable def wTryA (i : Nat) (sp : WSp) (dws : List W) (t : WA) (C : Addr) (th : WS) : WS := fun d τ G => t τ G fun ws G1 => sp (ws ++ dws) G1 (fun v G2 => d.nx (τ.set i (some v)) G2) fun c G2 => c = .ref C ∧ th d τ G2
end
end L2
set_option maxRecDepth 100000
namespace L2
open PySem PySem.Spec PyProof.Rows
section
variable {X : Cx}
end
theorem noFill_tuple_mul : fillsNumberSlot (.type "tuple") "mul" = pure false :=
  PySem.fillsNumberSlot_seq (id := "tuple.__mul__") (r := some (.builtin "tuple.__rmul__")) F.slot_tuple_mul.lookup (by decide +kernel) F.slot_tuple_rmul.lookup (by decide +kernel)
theorem repeat_tuple : seqRepeat? (.type "tuple") = pure (some (.builtin "tuple.__mul__")) := by
  unfold seqRepeat?
  rw [PySem.seqSlot_of (T := "tuple") (name := "__mul__") (id := "tuple.__mul__") F.slot_tuple_mul.lookup (by decide +kernel), PySem.seqSlot_of (T := "tuple") (name := "__rmul__") (id := "tuple.__rmul__") F.slot_tuple_rmul.lookup (by decide +kernel)]
  rfl
theorem int_rmul_tuple (a : Int) (t : Tok) (l : Addr) (items : Array Value) (n : Nat) (dd : Option Addr) (sl : Array (Option Value)) :
    Meets (Builtin.«int.__rmul__» ⟨[.int a t, .ref l], []⟩) (fun _ R s => s.heap.get? l = some { cls := .type "tuple", dict := dd, data := .seq items n, slots := sl } ∧ R (.ok (.ret Value.notImplemented)) s) :=
  .of_wp fun prog w A R s h => by obtain ⟨hp, g, d, tk, os⟩ := s; obtain ⟨hl, h⟩ := h; wp_walk; exact ⟨_, rfl, h⟩
theorem tuple_mul1 (l : Addr) (items : Array Value) (n : Nat) (dd : Option Addr) (sl : Array (Option Value)) (u : Tok) :
    Meets (Builtin.«tuple.__mul__» ⟨[.ref l, .int 1 u], []⟩) (fun _ R s => s.heap.get? l = some { cls := .type "tuple", dict := dd, data := .seq items n, slots := sl } ∧ R (.ok (.ret (.ref l))) s) :=
  .of_wp fun prog w A R s h => by
    obtain ⟨hp, g, d, tk, os⟩ := s; obtain ⟨hl, h⟩ := h
    wp_walk
    exact ⟨_, rfl, h⟩
theorem tuple_mulN (l : Addr) (items : Array Value) (n : Nat) (dd : Option Addr) (sl : Array (Option Value)) (x : Int) (u : Tok) (h0 : items.isEmpty = false) (h1 : (x == 1) = false) (h2 : 0 < x) (hf : (decide (x < -(2 ^ 63)) || decide (x ≥ 2 ^ 63)) = false) (hm : decide ((items.size : Int) * x > (2 ^ 63 - 1) / 8) = false) (ht : Builtin.Tuple.tupleTooMany ((items.size : Int) * x) = false) (hsz : ((List.replicate x.toNat items).foldl (· ++ ·) #[]).size ≤ sizeLine) :
    Meets (Builtin.«tuple.__mul__» ⟨[.ref l, .int x u], []⟩) (fun _ R s => s.heap.get? l = some { cls := .type "tuple", dict := dd, data := .seq items n, slots := sl } ∧ R (.ok (.ret (.ref s.heap.objs.size))) { s with heap := s.heap.push { cls := .type "tuple", data := .seq ((List.replicate x.toNat items).foldl (· ++ ·) #[]) } }) :=
  .of_wp fun prog w A R s h => by
    obtain ⟨hp, g, d, tk, os⟩ := s; obtain ⟨hl, h⟩ := h
    have c1 : (items.isEmpty || x == 1) = false := by rw [h0, h1]; rfl
    have c2 : (decide (x ≤ 0) || items.isEmpty) = false := by rw [h0, decide_eq_false (by (clear h0 h1 hf hm ht hsz hl h c1; omega))]; rfl
    wp_walk
    refine wpAny_ite_false (by rw [hf]; rfl) ?_
    wp_walk
    refine wpAny_ite_false hm ?_
    wp_walk
    exact ⟨_, rfl, h⟩
theorem tuple_mul0 (l : Addr) (items : Array Value) (n : Nat) (dd : Option Addr) (sl : Array (Option Value)) (u : Tok) (h0 : items.isEmpty = false) :
    Meets (Builtin.«tuple.__mul__» ⟨[.ref l, .int 0 u], []⟩) (fun _ R s => s.heap.get? l = some { cls := .type "tuple", dict := dd, data := .seq items n, slots := sl } ∧ R (.ok (.ret (.ref s.heap.objs.size))) { s with heap := s.heap.push { cls := .type "tuple", data := .seq #[] } }) :=
  .of_wp fun prog w A R s h => by
    obtain ⟨hp, g, d, tk, os⟩ := s; obtain ⟨hl, h⟩ := h
    have c1 : (items.isEmpty || (0 : Int) == 1) = false := by rw [h0]; rfl
    wp_walk
    exact ⟨_, rfl, h⟩
section
variable {X : Cx}
noncomputable def rRepT (K : PySem.W.Frag) : R2 := fun x y H Q => ∃ a k xs, x = .ref a ∧ y = .int k ∧ SqT K H a xs ∧ xs ≠ [] ∧ 0 ≤ k ∧ k ≤ 100000 ∧ xs.length * k.toNat ≤ sizeLine ∧
  (k = 1 → Q (.ref a) H) ∧ (k ≠ 1 → ∀ p, H p = none → Q (.ref p) (upd H p (.tup (List.replicate k.toNat xs).flatten)))
theorem op_repT : OpR X (binaryOp .Mult) (rRepT X.K) := by
  intro pins s σ H x y v u Q I rx ry h
  obtain ⟨a, k, xs, rfl, rfl, ha, hx, h0, h1, hz, q1, q2⟩ := h
  cases rx
  obtain ⟨t, rfl⟩ := ry
  obtain ⟨its, r1, p1, _⟩ := I.tuple ha
  have hl := r1.length
  obtain ⟨⟨cls, dd, data, sl⟩, ho, hc, n, hd⟩ := id p1
  simp only at hc hd
  subst hc hd
  have he : its.toArray.isEmpty = false := by
    cases its with
    | nil => exact absurd (r1.nil_iff.mp rfl) hx
    | cons _ _ => rfl
  refine wpAny_binaryOp_repeat_ref (T := "tuple") (U := "int") (by decide) ⟨_, ho, rfl⟩ (fun s' => typeIs_int s' k t) noFill_tuple_mul F.fills_int_mul F.slot_int_rmul repeat_tuple F.slot_int_index.lookup
    (call_meets F.slot_int_rmul (typeIs_int s k t) F.entry_int_rmul (F.args_int_rmul_2 _ _) (int_rmul_tuple k t a its.toArray n dd sl) ⟨ho, rfl, ⟨_, ho, rfl⟩, ?_⟩)
  by_cases hk1 : k = 1
  · subst hk1
    exact call_meets F.slot_tuple_mul ⟨_, ho, rfl⟩ F.entry_tuple_mul (F.args_tuple_mul_2 _ _) (tuple_mul1 a its.toArray n dd sl t) ⟨ho, ⟨.ref a, H, I, rfl, q1 rfl⟩⟩
  · by_cases hk0 : k = 0
    · subst hk0
      refine call_meets F.slot_tuple_mul ⟨_, ho, rfl⟩ F.entry_tuple_mul (F.args_tuple_mul_2 _ _) (tuple_mul0 a its.toArray n dd sl t he) ⟨ho, ?_⟩
      refine ⟨.ref s.heap.objs.size, _, I.laid (t' := s.toks) (o := .tup []) (fun b ob q => Heap.get?_push_of_some _ q) (Nat.le_refl _) ?_, rfl, q2 (by decide) _ (I.hok.fresh (Nat.le_refl _))⟩
      exact ⟨Nat.zero_le _, [], .nil, IsTup.new _ _⟩
    · have hsz : (its.toArray.size : Int) * k ≤ (sizeLine : Int) := by
        rw [List.size_toArray, ← hl, ← Int.toNat_of_nonneg h0]
        exact_mod_cast hz
      have hnew : List.foldl (fun x1 x2 => x1 ++ x2) #[] (List.replicate k.toNat its.toArray) = (List.replicate k.toNat its).flatten.toArray := by
        have := foldl_rep its k.toNat []
        rw [List.nil_append] at this
        exact this
      refine call_meets F.slot_tuple_mul ⟨_, ho, rfl⟩ F.entry_tuple_mul (F.args_tuple_mul_2 _ _) (tuple_mulN a its.toArray n dd sl k t he (by simpa using hk1) (by (clear I ha hx hz q1 q2 r1 p1 hl ho he hk1 hsz hnew; omega)) ?_ ?_ ?_ ?_) ⟨ho, ?_⟩
      · rw [decide_eq_false (by (clear I ha hx hz q1 q2 r1 p1 hl ho he hk1 hk0 hsz hnew; omega)), decide_eq_false (by (clear I ha hx hz q1 q2 r1 p1 hl ho he hk1 hk0 hsz hnew; omega))]; rfl
      · refine decide_eq_false (Int.not_lt.mpr (Int.le_trans hsz ?_))
        decide
      · unfold Builtin.Tuple.tupleTooMany
        exact decide_eq_false (Int.not_lt.mpr hsz)
      · rw [hnew, List.size_toArray, len_rep, Nat.mul_comm, ← hl]
        exact hz
      · rw [hnew]
        refine ⟨.ref s.heap.objs.size, _, I.laid (t' := s.toks) (o := .tup (List.replicate k.toNat xs).flatten) (fun b ob q => Heap.get?_push_of_some _ q) (Nat.le_refl _) ?_, rfl, q2 hk1 _ (I.hok.fresh (Nat.le_refl _))⟩
        exact ⟨by rw [len_rep, Nat.mul_comm]; exact hz, _, r1.rep k.toNat, IsTup.new _ _⟩
end
end L2
namespace L2
open PySem PySem.Spec PyProof.Rows
section
variable {X : Cx}
end
end L2
namespace L2
open PySem PySem.Spec PyProof.Rows
noncomputable abbrev WEx := Addr → WSt → Gp → Prop
noncomputable def XP (X : Cx) (pins : List (Addr × Obj)) (H : Hp) (ex : WEx) (e : Value) (s' : Shared) : Prop :=
  ∃ a T C H0 s0 σ H' τ G, e = .ref a ∧ Inv X pins σ H0 s0 ∧ Fl X.prog X.w (frs X.stack) H0 H' s0.heap s'.heap a T (.ref C) .none ∧ s'.os = s0.os ∧ AllBare s'.gens ∧ TLe H H' ∧ RelSt X.K H' τ σ ∧ RelG X.K H' G ∧ ex C τ G
section
variable {X : Cx} {x : Str} {p pos : Pos}
noncomputable def wSeqY (t u : WEx → WS) : WEx → WS := fun ex => wSeq (t ex) (u ex)
noncomputable def wIfY (c : WT) (t u : WEx → WS) : WEx → WS := fun ex => wIf c (t ex) (u ex)
noncomputable def wCallY (i : Nat) (sp : WSp) (dws : List W) (t : WA) : WEx → WS := fun ex d τ G => t τ G fun ws G1 => sp (ws ++ dws) G1 (fun v G2 => d.nx (τ.set i (some v)) G2) fun c G2 => ∀ C, c = .ref C → ex C τ G2
noncomputable def wDoY (sp : WSp) (dws : List W) (t : WA) : WEx → WS := fun ex d τ G => t τ G fun ws G1 => sp (ws ++ dws) G1 (fun _ G2 => d.nx τ G2) fun c G2 => ∀ C, c = .ref C → ex C τ G2
noncomputable def wTryY (t : WEx → WS) (cs : List (Addr × WS)) : WS := fun d τ G => t (fun C τ1 G1 => ∃ th, (C, th) ∈ cs ∧ th d τ1 G1) d τ G
end
end L2
namespace L2
open PySem PySem.Spec PyProof.Rows
theorem slot_rv_next : Slot "reversed" "__next__" "reversed.__next__" :=
  .of (owner := "reversed") (n := "__next__") (by rw [typeLookup_type, builtinLookup_eq_fast]; kernel_rfl) (by decide +kernel) (by decide +kernel) (by decide +kernel)
    (by first | exact .inl (by decide +kernel) | exact .inr (by decide +kernel)) (by rw [isSubtype_type]; kernel_rfl)
theorem entry_rv_next : entryFor table "reversed.__next__" = some Builtin.«reversed.__next__» := entryFor_of_tree (by kernel_rfl)
theorem args_rv_next (a : Value) : argsOk "reversed.__next__" ⟨[a], []⟩ := by unfold argsOk; kernel_rfl
theorem slot_rv_iter : Slot "reversed" "__iter__" "reversed.__iter__" :=
  .of (owner := "reversed") (n := "__iter__") (by rw [typeLookup_type, builtinLookup_eq_fast]; kernel_rfl) (by decide +kernel) (by decide +kernel) (by decide +kernel)
    (by first | exact .inl (by decide +kernel) | exact .inr (by decide +kernel)) (by rw [isSubtype_type]; kernel_rfl)
theorem args_rv_iter (a : Value) : argsOk "reversed.__iter__" ⟨[a], []⟩ := by unfold argsOk; kernel_rfl
theorem entry_rv_iter : entryFor table "reversed.__iter__" = some Builtin.«dict_keyiterator.__iter__» :=
  entryFor_alias (id' := "dict_keyiterator.__iter__") (by kernel_rfl) (by first | rfl | decide +kernel | (unfold String.splitOn; simp +decide [String.splitOnAux])) (by decide +kernel) (by kernel_rfl)
theorem slot_rv_init : Slot "reversed" "__init__" "object.__init__" :=
  .of (owner := "object") (n := "__init__") (by rw [typeLookup_type, builtinLookup_eq_fast]; kernel_rfl) (by decide +kernel) (by decide +kernel) (by decide +kernel)
    (by first | exact .inl (by decide +kernel) | exact .inr (by decide +kernel)) (by rw [isSubtype_type]; kernel_rfl)
theorem called_rv : TypeCalled "reversed" "reversed.__new__" "object.__init__" :=
  ⟨by decide +kernel, by decide +kernel, ⟨_, _, F.mro_reversed⟩, F.made_reversed, by decide +kernel, by rw [isSubtype_type]; kernel_rfl, slot_rv_init⟩
theorem tup_norev : typeLookup (.type "tuple") "__reversed__" = pure none := by (rw [typeLookup_type, builtinLookup_eq_fast]); kernel_rfl
theorem tup_nodict : isSubtype (.type "tuple") (.type "dict") = pure false := by rw [isSubtype_type]; kernel_rfl
noncomputable def rvObj (a : Addr) (i : Int) : Obj := { cls := .type "reversed", data := .fields #[.ref a, rawInt i] }
noncomputable def IsRv (h : Heap) (it a : Addr) (i : Int) : Prop := ∃ o, h.get? it = some o ∧ o.cls = .type "reversed" ∧ o.data = .fields #[.ref a, rawInt i]
theorem IsRv.at {h h' : Heap} {it a : Addr} {i : Int} (x : IsRv h it a i) (e : ∀ o, h.get? it = some o → h'.get? it = some o) : IsRv h' it a i := let ⟨o, ho, r⟩ := x; ⟨o, e _ ho, r⟩
theorem seqIndex?_nat {i n : Nat} (h : i < n) : seqIndex? (i : Int) n = some i := by
  unfold seqIndex?
  have h0 : ¬ ((i : Int) < 0) := by (clear h; omega)
  have h1 : (0 : Int) ≤ (i : Int) := by (clear h h0; omega)
  have h2 : (i : Int) < (n : Int) := by (clear h0 h1; omega)
  simp only [h0, if_false, h1, h2, decide_true, Bool.and_true, if_true, Int.toNat_natCast]
section
variable {prog : Program} {w : World} {A : Around} {E : Value → Shared → Prop} {s : Shared}
theorem IsRv.typeIs {it a : Addr} {i : Int} (x : IsRv s.heap it a i) : s.TypeIs (.ref it) "reversed" := let ⟨o, ho, hc, _⟩ := x; ⟨o, ho, hc⟩
theorem call_reversed_tuple {l : Addr} {items : Array Value} {Q : Value → Shared → Prop} (hl : IsTup s.heap l items) (hfit : (items.size : Int) < 2 ^ 63)
    (h : ∀ tk, Q (.ref s.heap.objs.size) { s with heap := s.heap.push (rvObj l ((items.size : Int) - 1)), toks := tk }) : wpAny (model prog w) A (call (.type "reversed") [.ref l]) Q E s := by
  refine callType_new called_rv (by decide) (F.typeCall_reversed_1 _) (F.newCall_reversed_1 _) (fun obj => F.args_object_init_2 obj _) F.entry_reversed_new
    (S := fun A R s1 => s1 = s ∧ ∀ tk, R (.ok (.ret (.ref s.heap.objs.size))) { s with heap := s.heap.push (rvObj l ((items.size : Int) - 1)), toks := tk }) ?_ ⟨rfl, fun tk => ⟨⟨_, Heap.get?_push_size _ rfl, rfl⟩, h tk⟩⟩
  refine .of_wp fun prog w A R s1 hs => ?_
  obtain ⟨rfl, hs⟩ := hs
  unfold Builtin.«reversed.__new__»
  refine wpAny_bind (wpAny_of_eq (newClass_reversed _) ?_)
  try dsimp only
  refine wpAny_bind (wpAny_of_eq (a := ()) (by first | rfl | kernel_rfl) ?_)
  refine wpAny_bind (wpAny_of_eq (a := ()) (by first | rfl | kernel_rfl) ?_)
  try dsimp only
  refine wpAny_bind (wpAny_specialOf hl.typeIs tup_norev ?_)
  try dsimp only
  k_delta "hasItemSlot"
  refine wpAny_bind (wpAny_bind (wpAny_isInstance hl.typeIs tup_nodict ?_))
  simp only [Bool.false_eq_true, if_false]
  refine wpAny_bind (wpAny_specialOf hl.typeIs slot_tuple_getitem.lookup ?_)
  try dsimp only
  rw [if_pos (by decide)]
  refine wpAny_pure ?_
  simp only [Bool.not_true, Bool.false_eq_true, if_false]
  refine wpAny_bind (len_tuple hl hfit ?_)
  refine wpAny_bind (wpAny_of_eq (a := some (items.size : Int)) rfl ?_)
  try dsimp only
  unfold Builtin.SmallTypes.newRecord
  refine wpAny_bind (wpAny_newObj_type (wpAny_pure ⟨_, rfl, ?_⟩))
  exact hs _
theorem pyIter_rv {it l : Addr} {i : Int} {Q : Value → Shared → Prop} (hit : IsRv s.heap it l i) (h : Q (.ref it) s) : wpAny (model prog w) A (pyIter (.ref it)) Q E s := by
  refine wpAny_pyIter_slot hit.typeIs slot_rv_iter (wpAny_call_entry slot_rv_iter hit.typeIs entry_rv_iter ?_ (args_rv_iter _))
  show wpAny _ _ (ret (.ref it)) _ _ s
  exact wpAny_pure ⟨_, rfl, "reversed", _, hit.typeIs, slot_rv_next.lookup, h⟩
theorem next_rv {it l : Addr} {i : Nat} {items : Array Value} {x : Value} {Q : Option Value → Shared → Prop} (hit : IsRv s.heap it l (i : Int)) (hl : IsTup s.heap l items) (hi : (i : Int) < 2 ^ 63) (hx : items[i]? = some x)
    (hQ : ∀ h' tk, IsRv h' it l ((i : Int) - 1) → Heap.SameBut it s.heap h' → Q (some x) { s with heap := h', toks := tk }) : wpAny (model prog w) A (pyNext (.ref it)) Q E s := by
  obtain ⟨o, ho, hc, hd⟩ := id hit
  unfold pyNext
  refine wpAny_bind (wpAny_attempt (wpAny_callSpecial?_slot (name := Str.ofString "__next__") hit.typeIs slot_rv_next
    (wpAny_call_entry slot_rv_next hit.typeIs entry_rv_next ?_ (args_rv_next _))))
  unfold Builtin.«reversed.__next__»
  refine wpAny_bind (wpAny_of_eq (a := (Value.ref it, [])) rfl ?_)
  try dsimp only
  refine wpAny_bind (wpAny_field ho hd (x := .ref l) rfl ?_)
  refine wpAny_bind (wpAny_field ho hd (x := rawInt (i : Int)) rfl ?_)
  show wpAny _ _ (if (i : Int) < 0 then _ else _) _ _ s
  rw [if_neg (by (clear hit hl hx hQ ho hc hd; omega))]
  refine wpAny_bind (wpAny_specialOf hl.typeIs slot_tuple_getitem.lookup ?_)
  simp only [Option.isNone_some, Bool.false_eq_true, if_false]
  refine wpAny_bind (wpAny_mkInt ?_)
  have hz : i < items.size := by
    rcases Nat.lt_or_ge i items.size with h | h
    · exact h
    · rw [Array.getElem?_eq_none h] at hx; cases hx
  have hl' : IsTup ({ s with toks := s.toks + 1 } : Shared).heap l items := hl
  refine wpAny_bind (wpAny_attempt (getItem_tuple (s := { s with toks := s.toks + 1 }) hl' (by (clear hit hl hx hQ ho hc hd hz hl'; omega)) hi (seqIndex?_nat hz) hx ?_))
  try dsimp only
  refine wpAny_bind (wpAny_field (s := { s with toks := s.toks + 1 }) ho hd (x := rawInt (i : Int)) rfl ?_)
  refine wpAny_bind (wpAny_setField (s := { s with toks := s.toks + 1 }) ho hd (by simp) ?_)
  refine wpAny_pure ⟨x, rfl, wpAny_pure (hQ _ _ ?_ (Heap.SameBut.update ..))⟩
  exact ⟨_, Heap.get?_update_self _ ho (Obj.isFreed_of_fields (Obj.data_mapFields hd _)), (Obj.cls_mapFields ..).trans hc, by
    rw [Obj.data_mapFields hd]; simp⟩
theorem next_rv_end {it l : Addr} {Q : Option Value → Shared → Prop} (hh : A.handled = none) (hit : IsRv s.heap it l (-1))
    (hQ : ∀ h', Heap.ExtBut it s.heap h' → Q none { s with heap := h' }) : wpAny (model prog w) A (pyNext (.ref it)) Q E s := by
  obtain ⟨o, ho, hc, hd⟩ := id hit
  unfold pyNext
  refine wpAny_bind (wpAny_attempt (wpAny_callSpecial?_slot (name := Str.ofString "__next__") hit.typeIs slot_rv_next
    (wpAny_call_entry slot_rv_next hit.typeIs entry_rv_next ?_ (args_rv_next _))))
  unfold Builtin.«reversed.__next__»
  refine wpAny_bind (wpAny_of_eq (a := (Value.ref it, [])) rfl ?_)
  try dsimp only
  refine wpAny_bind (wpAny_field ho hd (x := .ref l) rfl ?_)
  refine wpAny_bind (wpAny_field ho hd (x := rawInt (-1)) rfl ?_)
  show wpAny _ _ (if (-1 : Int) < 0 then _ else _) _ _ s
  rw [if_pos (by decide)]
  refine wpAny_bind (wpAny_rule ?_)
  k_delta "reversedEnd"
  refine wpAny_bind (wpAny_bind (wpAny_setField ho hd (by simp) ?_))
  have ho1 := Heap.get?_update_self (h := s.heap) (fun o : Obj => o.mapFields fun vs => vs.set! 1 (rawInt (-1))) ho (Obj.isFreed_of_fields (Obj.data_mapFields hd _))
  refine wpAny_setField ho1 (Obj.data_mapFields hd _) (by simp) ?_
  unfold Builtin.SmallTypes.stopIteration
  refine wpAny_bind ?_
  first
  | show wpAny _ _ (newExc (.type "StopIteration") [] >>= _) _ _ _
  | (refine wpAny_bind ?_; show wpAny _ _ (newExc (.type "StopIteration") [] >>= _) _ _ _)
  refine wpAny_bind ?_
  simp only [newExc, newTuple]
  refine wpAny_bind (wpAny_newObj_type ?_ (by size_fits))
  refine wpAny_bind (m := firstArgMember _ _) (wpAny_of_eq (a := Value.none) (by first | rfl | (simp only [firstArgMember]; rfl)) ?_)
  refine wpAny_newObj_type ?_ (by size_fits)
  simp only [raiseNew]
  refine wpAny_bind (wpAny_handled ?_)
  first | rw [show A.in1.handled = none from hh] | rw [hh]
  refine wpAny_bind (wpAny_pure (wpAny_throw ?_))
  refine wpAny_bind (wpAny_isInstance (T := "StopIteration") (b := true) ⟨_, Heap.get?_push_size _ rfl, rfl⟩ isSubtype_stop ?_)
  refine wpAny_pure (hQ _ ((Heap.ExtBut.push (Heap.ExtBut.push ?_ _) _)))
  exact fun b o hb e => ((Heap.SameBut.update _ _ _).2 b hb).trans (((Heap.SameBut.update _ _ _).2 b hb).trans e)
end
noncomputable def Itv (K : PySem.W.Frag) (a : Addr) (n : Nat) : It :=
  ⟨fun i H => ∃ xs x, SqT K H a xs ∧ xs.length = n ∧ i < n ∧ xs[n - 1 - i]? = some x, fun i H x H' => H' = H ∧ ∀ xs, SqT K H a xs → xs[n - 1 - i]? = some x, fun i H => ∃ xs, SqT K H a xs ∧ xs.length = n ∧ n ≤ i⟩
theorem turn_rv {P : Program} {w : World} {K : PySem.W.Frag} {tg : Expr} (a it : Addr) (n : Nat) (hn : (n : Int) < 2 ^ 63) : Turn P w K tg (Itv K a n) [it] it (fun i h => i ≤ n ∧ IsRv h it a ((n : Int) - 1 - (i : Int))) where
  mem := by simp
  obj := fun i h st b hb => by
    have e : b = it := by simpa using hb
    subst e
    obtain ⟨_, o, e, c, d⟩ := st
    exact ⟨o, e, fun v z => by rw [d] at z; cases z⟩
  keep := fun i h h' st k => ⟨st.1, st.2.at fun o e => k it (by simp) o e⟩
  item := by
    intro X hP hw hK hc i pins s σ H E I hf st hg
    subst hP hw hK
    obtain ⟨xs, x, hq, hl, hi, hx⟩ := hg
    obtain ⟨its, rv, p, hz⟩ := I.tuple hq
    obtain ⟨u, hu, ru⟩ := rv.get hx
    obtain ⟨f0, f1, f2, f3, f4, f5⟩ := hf it (by simp)
    have st1 : IsRv s.heap it a ((n - 1 - i : Nat) : Int) := by have := st.2; rw [show (n : Int) - 1 - (i : Int) = ((n - 1 - i : Nat) : Int) by (clear hn hc I hf st hq hx rv p hz hu ru f0 f1 f2 f3 f4 f5 this; omega)] at this; exact this
    refine next_rv st1 p (by (clear hc I hf st hq hx rv p hz hu ru f0 f1 f2 f3 f4 f5 st1; omega)) (x := u) (by simpa using hu) fun h' tk st' sb => ?_
    have I1 : Inv X pins σ H { s with heap := h', toks := tk } := I.turned (t' := tk) (fun b o hb e => (sb.2 b hb).trans e) f0 f1 f3 f4 f5
    obtain ⟨o, e, c, d⟩ := id st'
    exact ⟨u, rfl, go_of (s := { s with heap := h', toks := tk }) e c d (by decide) ⟨x, H, I1, ru, ⟨rfl, fun ys hy => by rw [I.tuple_inj hy hq]; exact hx⟩, ⟨by assumption, by rw [show (n : Int) - 1 - ((i + 1 : Nat) : Int) = ((n - 1 - i : Nat) : Int) - 1 by (clear hn hc I hf st hq hx rv p hz hu ru f0 f1 f2 f3 f4 f5 st1 st' sb I1 e c d; omega)]; exact st'⟩, fun b hb => (hf b hb).1⟩⟩
  done := by
    intro X hP hw hK hc i pins s σ H E I hf st hg
    subst hP hw hK
    obtain ⟨xs, hq, hl, hi⟩ := hg
    obtain ⟨f0, f1, f2, f3, f4, f5⟩ := hf it (by simp)
    have st1 : IsRv s.heap it a (-1) := by have := st.2; rw [show (n : Int) - 1 - (i : Int) = -1 by have := st.1; (clear hn hc I hf hq f0 f1 f2 f3 f4 f5 this; omega)] at this; exact this
    exact next_rv_end (I.ok.hd hc) st1 fun h' eb => ⟨rfl, I.turned (t' := s.toks) (fun b o hb e => eb b o hb e) f0 f1 f3 f4 f5⟩
  self := fun _ _ _ _ _ st h => pyIter_rv st.2 h
theorem itn_rv {K : PySem.W.Frag} {a : Addr} {ws : List W} {xs : List V} {H : Hp} (h : H a = some (.tup xs)) (r : Reps K H ws xs) : Itn K (Itv K a xs.length) ws.reverse (fun _ => True) H where
  stop := fun i H1 G t g _ hl => ⟨xs, SqT.of (t.tup _ _ h), rfl, by rw [← r.length]; simpa using hl⟩
  go := fun i w H1 G t g _ e => by
    have hl := r.length
    have hi : i < ws.length := by
      rcases Nat.lt_or_ge i ws.length with z | z
      · exact z
      · rw [List.getElem?_eq_none (by simpa using z)] at e; cases e
    rw [List.getElem?_reverse hi] at e
    obtain ⟨v, e1, rv⟩ := r.get e
    rw [hl] at e1
    refine ⟨⟨xs, v, SqT.of (t.tup _ _ h), rfl, by (clear h r t g e e1 rv; omega), e1⟩, fun x H' ⟨eH, hy⟩ => ?_⟩
    subst eH
    have e2 := hy xs (SqT.of (t.tup _ _ h))
    rw [e1] at e2; cases e2
    exact ⟨TLe.refl _, rv.mono t, g⟩
noncomputable def jRev (ta : WA) : WI := fun τ G r => ta τ G fun ws G1 => match ws with
  | [.tup xs] => r xs.reverse (fun _ => True) G1
  | _ => False
theorem boot_rv : bootBuiltins "reversed" = some (.type "reversed") := by decide +kernel
theorem qi_rev {X : Cx} {tg a : Expr} {ta : WA} {p pos : Pos} (hg : Gl X "reversed") (hm : X.mg "reversed" = none) (ha : QA X [a] ta) (hs : starEach [a] X.env = [(false, eval a X.env)] := by rfl) :
    QI X tg (.Call (.Name "reversed" p) [a] [] pos) (jRev ta) := by
  intro pins s σ H R I ⟨τ, G, r, hτ, hG, ht, hR⟩
  refine Call_ (ld_blt I hg hm boot_rv (PyProof.Rows.callWith_type1 (thn (ha pos pins s σ H (fun vs H1 => ∃ ws G1, TLe H H1 ∧ Reps X.K H1 ws vs ∧ RelG X.K H1 G1 ∧ match ws with | [.tup xs] => r xs.reverse (fun _ => True) G1 | _ => False) I ⟨τ, G, _, hτ, hG, ht, fun vs H1 ws G1 t1 r1 g1 q1 => ⟨ws, G1, t1, r1, g1, q1⟩⟩) fun us s1 ⟨vs, H1, I1, ru, ws, G1, t1, r1, g1, q1⟩ => ?_) (by rw [hs]; rfl) (by rfl)))
  split at q1
  · rename_i xs
    cases r1 with
    | cons ra rn =>
      cases rn
      cases ra with
      | @tup pa _ xs' ha' ra =>
        cases ru with
        | cons w1 wn =>
          cases wn
          cases (show _ = Value.ref pa from w1)
          obtain ⟨its, rv, p1, hz⟩ := I1.tuple (SqT.of ha')
          have hl := rv.length
          have hsz : xs'.length ≤ 9223372036854775807 := by
            have : sizeLine ≤ 9223372036854775807 := by decide
            exact Nat.le_trans (by assumption) (Nat.le_of_ble_eq_true rfl)
          refine call_reversed_tuple p1 (by simp; (clear hg hm ha hs I hτ hG ht hR I1 t1 g1 q1 ha' ra w1 rv p1 hz; omega)) fun tk => ?_
          have st0 : IsRv (s1.heap.push (rvObj pa ((its.toArray.size : Int) - 1))) s1.heap.objs.size pa ((xs'.length : Int) - 1 - ((0 : Nat) : Int)) := ⟨_, Heap.get?_push_size _ rfl, rfl, by
            rw [show ((xs'.length : Int) - 1 - ((0 : Nat) : Int)) = (its.toArray.size : Int) - 1 by simp; (clear hg hm ha hs I hτ hG ht hR I1 t1 g1 q1 ha' ra w1 rv p1 hz hsz; omega)]; rfl⟩
          refine pyIter_rv (s := { s1 with heap := s1.heap.push (rvObj pa ((its.toArray.size : Int) - 1)), toks := tk }) st0 ?_
          refine ⟨s1.heap.objs.size, [s1.heap.objs.size], _, _, H1, rfl, I1.kept (t' := tk) fun b o e => Heap.get?_push_of_some _ e, turn_rv pa _ xs'.length (by (clear hg hm ha hs I hτ hG ht hR I1 t1 g1 q1 ha' ra w1 rv p1 hz st0; omega)), ⟨Nat.zero_le _, st0⟩, fun b hb => ?_, hR _ H1 _ _ G1 t1 g1 (itn_rv ha' ra) q1⟩
          have e : b = s1.heap.objs.size := by simpa using hb
          subst e
          exact I1.fpOk (Nat.le_refl _) (I1.hok.fresh (Nat.le_refl _))
  · exact q1.elim
end L2
namespace L2
open PySem PySem.Spec PyProof.Rows
noncomputable def enumW : Nat → List W → List W
  | _, [] => []
  | i, x :: xs => .tup [.int (i : Int), x] :: enumW (i + 1) xs
section
variable {prog : Program} {w : World} {A : Around} {E : Value → Shared → Prop} {s : Shared}
end
noncomputable def jEnum (ta : WA) : WI := fun τ G r => ta τ G fun ws G1 => match ws with
  | [.tup xs] => r (enumW 0 xs) (fun _ => True) G1
  | _ => False
end L2
namespace L2
open PySem PySem.Spec PyProof.Rows
mutual
noncomputable def W.ge : W → W → Bool
  | .int i, .int j => decide (i ≥ j)
  | .tup xs, .tup ys => W.ges xs ys
  | _, _ => false
noncomputable def W.ges : List W → List W → Bool
  | [], [] => true
  | [], _ :: _ => false
  | _ :: _, [] => true
  | x :: xs, y :: ys => if W.eq x y = true then W.ges xs ys else W.ge x y
end
noncomputable def GeAt (A : Around) (s : Shared) (y x : Value) (b : Bool) : Prop :=
  ∀ (prog : Program) (w : World) (E : Value → Shared → Prop) (Q : Value → Shared → Prop), Q (.bool b) s → wpAny (model prog w) A (richCompare .GtE y x) Q E s
inductive CmpG (A : Around) (s : Shared) : List Value → List Value → Bool → Prop where
  | nn : CmpG A s [] [] true
  | nc {y : Value} {ys : List Value} : CmpG A s [] (y :: ys) false
  | cn {x : Value} {xs : List Value} : CmpG A s (x :: xs) [] true
  | eq {x y : Value} {xs ys : List Value} {r : Bool} (h : SeqAt.EqAt A s x y true) (t : CmpG A s xs ys r) : CmpG A s (x :: xs) (y :: ys) r
  | ne {x y : Value} {xs ys : List Value} {r : Bool} (h : SeqAt.EqAt A s x y false) (t : GeAt A s x y r) : CmpG A s (x :: xs) (y :: ys) r
section
open PySem.SeqAt
open PySem.AutoSeq1 (wpAny_loadPart')
open PySem.MeetsSeq PySem.MeetsSeq2 PySem.MeetsSeq3
end
section
variable {X : Cx} {pins : List (Addr × Obj)} {σ : St} {H : Hp} {s : Shared}
end
section
variable {X : Cx}
noncomputable def rGe3 : W2 := fun x y G q => match x, y with
  | .int i, .int j => q (.bl (decide (i ≥ j))) G
  | .tup xs, .tup ys => W.flats xs = true ∧ W.flats ys = true ∧ W.deps xs ≤ 149 ∧ W.ords xs ys = true ∧ q (.bl (W.ges xs ys)) G
  | _, _ => False
end
section
variable {X : Cx}
noncomputable def wExt (to te : WE) : WE := fun τ G q => to τ G fun x G1 => match x with
  | .ref a => (∃ xs, G1 a = some (.lst xs)) ∧ te τ G1 fun y G2 => match y with
    | .ref b => ∃ ys zs, G2 a = some (.lst ys) ∧ G2 b = some (.lst zs) ∧ ys.length + zs.length ≤ 100000 ∧ q .non (updG G2 a (.lst (ys ++ zs)))
    | _ => False
  | _ => False
end
end L2
namespace L2
open PySem PySem.Spec PyProof.Rows
section
variable {prog : Program} {w : World} {A : Around} {E : Value → Shared → Prop} {h : Heap} {g : Array GenState} {d : Drawn} {t : Nat} {os : OsState} {a C : Addr} {o : Obj} {K : PySem.W.Frag} {bm : List Value}
end
section
variable {prog : Program} {w : World} {A : Around} {E : Value → Shared → Prop} {s : Shared} {a C D : Addr} {o : Obj} {K : PySem.W.Frag} {bm : List Value}
end
section
variable {X : Cx} {a : Addr} {oe : Obj} {C D : Addr} {bm : List Value}
noncomputable def wIsn (i : Nat) (a : Addr) : WE := fun τ G q => τ[i]? = some (some (.ref a)) ∧ q (.bl false) G
end
end L2
namespace L2
open PySem PySem.Spec PyProof.Rows
end L2
namespace L2
open PySem PySem.Spec PyProof.Rows
noncomputable def jEnumL (ta : WA) : WI := fun τ G r => ta τ G fun ws G1 => match ws with
  | [.ref a] => ∃ l, G1 a = some (.lst l) ∧ r (enumW 0 l) (fun G => G a = some (.lst l)) G1
  | _ => False
end L2
set_option maxRecDepth 100000
namespace L2
open PySem PySem.Spec PyProof.Rows
section
variable {prog : Program} {w : World} {A : Around} {E : Value → Shared → Prop} {s : Shared} {I l : Addr} {items : Array Value}
end
section
variable {X : Cx}
noncomputable def wTupRvT (te : WE) : WE := fun τ G q => te τ G fun x G1 => match x with
  | .tup ws => q (.tup ws.reverse) G1
  | _ => False
end
end L2
namespace L2
open PySem PySem.Spec PyProof.Rows
section
variable {X : Cx}
noncomputable def rIsA (neg : Bool) : W2 := fun x y G q => match y with
  | .non => q (.bl (neg ^^ isNon x)) G
  | .bl b => match x with
    | .bl a => q (.bl (neg ^^ (a == b))) G
    | _ => False
  | _ => False
end
end L2
set_option maxRecDepth 100000
namespace L2
open PySem PySem.Spec PyProof.Rows
section
variable {X : Cx} {pins : List (Addr × Obj)} {σ : St} {H0 H : Hp} {s0 s : Shared} {a T C D : Addr}
variable {bm bmD : List Value} {x : Str} {p pos : Pos} {name : Option Str} {body : List Stmt} {rest : List ExceptHandler} {b0 : Stmt} {th : WS}
end
end L2
set_option maxRecDepth 100000
namespace L2
open PySem PySem.Spec PyProof.Rows
structure RoomN (k : Nat) (A : Around) : Prop where
  dp : A.depth + 3 * k + 5 < recursionLimit
  un : A.units + 16 * k + 200 < cLine
structure FnN (P : Program) (w : World) (K : PySem.W.Frag) (mg : Str → Option Value) (base : Heap) (CX : CXT) (k : Nat) (f : Addr) (fd : FuncData) (ps : List Str) (sp : Sp) : Prop where
  len : ∀ vs H Q E, sp vs H Q E → vs.length = ps.length
  run : ∀ (A : Around) (outer : List Env) (s : Shared) (H : Hp) (args : Args) (us : List Value) (vs : List V) (Q : VK) (E : XK), RoomN k A → Env0 P w K mg base A outer s H → BindsTo s fd args (ps.zip us) → Vals vs us → sp vs H Q E →
    codeAny (model P w) A (.call (.ref f) args) (CR CX outer P w H s Q E) s
section
variable {X : Cx}
end
end L2
namespace L2
open PySem PySem.Spec PyProof.Rows
section
variable {P : Program} {w : World} {K : PySem.W.Frag} {mg : Str → Option Value} {base : Heap} {k : Nat} {f : Addr} {fd : FuncData} {ps : List Str} {sp sp' : WSp}
end
end L2
set_option maxRecDepth 100000
namespace L2
open PySem PySem.Spec PyProof.Rows
theorem TLe.ins {H : Hp} {p C dx : Addr} {fs : List (Str × V)} (hp : H p = some (.ins C dx fs)) (o : HO) : TLe H (upd H p o) :=
  ⟨fun _ _ h => by rw [upd_ne (ne_of h hp (by intro z; cases z))]; exact h, fun _ _ _ h => by rw [upd_ne (ne_of h hp (by intro z; cases z))]; exact h⟩
noncomputable def putW (f : Str) (v : W) : List (Str × W) → List (Str × W)
  | [] => [(f, v)]
  | (g, x) :: r => if g = f then (g, v) :: r else (g, x) :: putW f v r
section
variable {K : PySem.W.Frag} {H : Hp}
theorem flds_lookup {f : Str} {w : W} : ∀ {fs : List (Str × W)} {fs' : List (Str × V)}, fs'.map (·.1) = fs.map (·.1) → Reps K H (fs.map (·.2)) (fs'.map (·.2)) → fs.lookup f = some w → ∃ v, fs'.lookup f = some v ∧ Rep K H w v
  | [], _, _, _, e => by cases e
  | (g, x) :: r, [], n, _, _ => by cases n
  | (g, x) :: r, (g', x') :: r', n, rs, e => by
    rw [List.map_cons, List.map_cons, List.cons.injEq] at n
    obtain ⟨n1, n2⟩ := n
    have n1 : g' = g := n1
    subst n1
    cases rs with
    | cons r1 r2 =>
      rw [List.lookup_cons] at e ⊢
      cases h : f == g' with
      | true => rw [h] at e; cases e; exact ⟨x', rfl, r1⟩
      | false => rw [h] at e; exact flds_lookup n2 r2 e
theorem flds_none {f : Str} : ∀ {fs : List (Str × W)} {fs' : List (Str × V)}, fs'.map (·.1) = fs.map (·.1) → fs.lookup f = none → fs'.lookup f = none
  | [], [], _, _ => rfl
  | [], _ :: _, n, _ => by cases n
  | _ :: _, [], n, _ => by cases n
  | (g, x) :: r, (g', x') :: r', n, e => by
    rw [List.map_cons, List.map_cons, List.cons.injEq] at n
    obtain ⟨n1, n2⟩ := n
    have n1 : g' = g := n1
    subst n1
    rw [List.lookup_cons] at e ⊢
    cases h : f == g' with
    | true => rw [h] at e; cases e
    | false => rw [h] at e; exact flds_none n2 e
theorem flds_put {f : Str} {w : W} {v : V} (rv : Rep K H w v) : ∀ {fs : List (Str × W)} {fs' : List (Str × V)}, fs'.map (·.1) = fs.map (·.1) → Reps K H (fs.map (·.2)) (fs'.map (·.2)) → (putF f v fs').map (·.1) = (putW f w fs).map (·.1) ∧ Reps K H ((putW f w fs).map (·.2)) ((putF f v fs').map (·.2)) ∧ (putW f w fs).length ≤ fs.length + 1
  | [], [], _, _ => ⟨rfl, .cons rv .nil, Nat.le_refl _⟩
  | [], _ :: _, n, _ => by cases n
  | _ :: _, [], n, _ => by cases n
  | (g, x) :: r, (g', x') :: r', n, rs => by
    rw [List.map_cons, List.map_cons, List.cons.injEq] at n
    obtain ⟨n1, n2⟩ := n
    have n1 : g' = g := n1
    subst n1
    cases rs with
    | cons r1 r2 =>
      obtain ⟨a1, a2, a3⟩ := flds_put (f := f) rv n2 r2
      unfold putF putW
      by_cases h : g' = f
      · rw [if_pos h, if_pos h]
        refine ⟨?_, .cons rv r2, by simp⟩
        rw [List.map_cons, List.map_cons, n2]
      · rw [if_neg h, if_neg h]
        refine ⟨?_, .cons r1 a2, by simp; assumption⟩
        rw [List.map_cons, List.map_cons, a1]
end
section
variable {X : Cx}
noncomputable def wFld (K : PySem.W.Frag) (to : WE) (f : Str) : WE := fun τ G q => to τ G fun x G1 => ∃ a C fs v, x = .ref a ∧ G1 a = some (.ins C fs) ∧ (Cls K C ∧ NoAttr K C f) ∧ fs.lookup f = some v ∧ q v G1
theorem qe_fld {o : Expr} {to : WE} {f : Str} {pos : Pos} (ho : QE X o to) (hb : attributeBase o f X.env (eval o X.env) = eval o X.env := by rfl) : QE X (.Attribute o f pos) (wFld X.K to f) :=
  (pe_fld ho hb).imp fun σ H Q z0 => z0.el fun τ G q hs hg ht hQ => ⟨τ, G, _, hs, hg, ht, fun v H1 w G1 t1 r1 g1 q1 => by
    obtain ⟨a, C, fs, v', rfl, hG, hc, hl, q1⟩ := q1
    cases r1
    obtain ⟨_, dx, fs', hH, hn, hr⟩ := g1 a _ hG
    obtain ⟨v2, hv2, rv2⟩ := flds_lookup hn hr hl
    exact ⟨a, C, dx, fs', v2, rfl, hH, hc.1, hc.2, hv2, hQ v2 H1 v' G1 t1 rv2 g1 q1⟩⟩
noncomputable def wFldS (K : PySem.W.Frag) (to te : WE) (f : Str) : WS := fun d τ G => te τ G fun y G1 => to τ G1 fun x G2 => ∃ a C fs, x = .ref a ∧ G2 a = some (.ins C fs) ∧ (Cls K C ∧ NoAttr K C f) ∧ fs.length < 100 ∧ d.nx τ (updG G2 a (.ins C (putW f y fs)))
theorem qs_fld {o e : Expr} {to te : WE} {f : Str} {pos pos' : Pos} (ho : QE X o to) (he : QE X e te) (hs : swapsWith e (some (.Attribute o f pos')) pos.line X.env = pure false := by rfl) : QS X (.Assign [.Attribute o f pos'] e pos) (wFldS X.K to te f) :=
  (ps_fld ho he hs).imp fun D σ H z0 => z0.el fun τ G d rs rg ht l => ⟨τ, G, _, rs, rg, ht, fun y H1 w G1 t1 r1 g1 q1 => ⟨τ, G1, _, rs.mono t1, g1, q1, fun v H2 w2 G2 t2 r2 g2 q2 => by
    obtain ⟨a, C, fs, rfl, hG, hc, hlen, q2⟩ := q2
    cases r2
    obtain ⟨_, dx, fs', hH, hn, hr⟩ := g2 a _ hG
    obtain ⟨a1, a2, a3⟩ := flds_put (f := f) (r1.mono t2) hn hr
    have tl := TLe.ins hH (.ins C dx (putF f y fs'))
    have hlen' : fs'.length = fs.length := by simpa using congrArg List.length hn
    refine ⟨a, C, dx, fs', rfl, hH, hc.1, hc.2, by (clear ho he hs z0 rs rg ht l t1 r1 g1 q1 t2 g2 hG hc q2 hH hn hr a1 a2 a3 tl; omega), l.nx σ _ τ _ ((t1.trans t2).trans tl) (((rs.mono t1).mono t2).mono tl) (g2.lay (g := .ins C (putW f w fs)) tl ⟨by (clear ho he hs z0 rs rg ht l t1 r1 g1 q1 t2 g2 hG hc q2 hH hn hr a1 a2 tl; omega), dx, _, upd_same, a1, a2.mono tl⟩) q2⟩⟩⟩
noncomputable def wMake (C : Addr) (sp : WSp) (dws : List W) (t : WA) : WE := fun τ G q => t τ G fun ws G1 => ∀ p, G1 p = none → sp (.ref p :: (ws ++ dws)) (updG G1 p (.ins C [])) (fun v G2 => v = .non ∧ q (.ref p) G2) fun _ _ => False
theorem LEx.make {K : PySem.W.Frag} {C : Addr} {sp : WSp} {dws : List W} {dvs : List V} {t : WA} {σ : St} {H : Hp} {Q : VK} {E : XK} (hd : ∀ H, Reps K H dws dvs) (h : LEx K (wMake C sp dws t) σ H Q) : tMake C (LSp K sp) dvs E (LA K t) σ H Q := by
  obtain ⟨τ, G, q, hs, hg, ht, hQ⟩ := h
  refine ⟨τ, G, _, hs, hg, ht, fun vs H1 ws G1 t1 r1 g1 q1 x dx hx hdx hne => ?_⟩
  have hdx' : upd H1 dx (.own x) x = none := by rw [upd_ne (Ne.symm hne)]; exact hx
  have tl := (TLe.new hdx (.own x)).trans (TLe.new hdx' (.ins C dx []))
  have g2 : RelG K (upd (upd H1 dx (.own x)) x (.ins C dx [])) (updG G1 x (.ins C [])) := (g1.keep hdx (.own x)).lay (TLe.new hdx' _) ⟨by simp, dx, [], upd_same, rfl, .nil⟩
  exact ⟨.ref x :: (ws ++ dws), _, _, _, .cons (.ref x) ((r1.mono tl).append (hd _)), g2, q1 x (g1.fresh hx), fun v H2 w G2 t2 r2 g2 q2 => by
    obtain ⟨e, q2⟩ := q2
    subst e
    cases r2
    exact ⟨rfl, hQ _ H2 _ G2 ((t1.trans tl).trans t2) (.ref x) g2 q2⟩, fun _ _ _ _ _ _ z => z.elim⟩
theorem qe_make {C f : Addr} {fd : FuncData} {k : Nat} {x : Str} {ps : List Str} {sp : WSp} {p pos : Pos} {e : Expr} {es : List Expr} {t : WA} (M : Mk X.K C f) (F : WFn X.prog X.w X.K X.mg X.base k f fd ps sp) (hr : Room (k + 1) X.A) (hg : Gl X x) (hm : X.mg x = some (.ref C)) (hb : Binds X.K fd ps [])
    (ha : QA X (e :: es) t) (hdb : (x == ("__debug__" : Str)) = false := by decide) (he : starEach (e :: es) X.env = (false, eval e X.env) :: starEach es X.env := by rfl) (hpl : (backTo pos (starEach es X.env)).any (·.1) = false := by rfl) :
    QE X (.Call (.Name x p) (e :: es) [] pos) (wMake C sp [] t) :=
  (pe_make (dvs := []) M F hr hg hm hb .nil (pass0 (X := X)) ha hdb he hpl).imp fun _ _ _ h => LEx.make (fun _ => .nil) h
noncomputable def wMeth (C : Addr) (m : Str) (sp : WSp) (dws : List W) (to : WE) (t : WA) : WE := fun τ G q => to τ G fun x G1 => ∃ a fs, x = .ref a ∧ G1 a = some (.ins C fs) ∧ fs.lookup m = none ∧ t τ G1 fun ws G2 => sp (x :: (ws ++ dws)) G2 q fun _ _ => False
structure Mt (P : Program) (w : World) (K : PySem.W.Frag) (mg : Str → Option Value) (base : Heap) (C : Addr) (m : Str) (ps : List Str) (k : Nat) (sp : WSp) (dws : List W) : Prop where
  ex : ∃ (f : Addr) (fd : FuncData) (ds : List Value) (dvs : List V), Meth K C m f ∧ WFn P w K mg base k f fd ps sp ∧ Binds K fd ps ds ∧ Vals dvs ds ∧ ∀ H, Reps K H dws dvs
  cl : Cls K C
theorem qe_meth0 {C : Addr} {m : Str} {k : Nat} {ps : List Str} {sp : WSp} {dws : List W} {o : Expr} {to : WE} {apos pos : Pos} {pl : Sem Bool} (ho : QE X o to) (M : Mt X.prog X.w X.K X.mg X.base C m ps k sp dws) (hr : Room k X.A)
    (ht : eval (.Call (.Attribute o m apos) [] [] pos) X.env = (do
      let ov ← eval o X.env
      standAt apos.atName
      let (f, first) ← holding [ov] (getMethod ov m pl)
      callWith pos f first (backTo pos (starEach [] X.env)) (backToKw pos (keywordEach [] X.env))) := by rfl) : QE X (.Call (.Attribute o m apos) [] [] pos) (wMeth C m sp dws to wNil) := by
  obtain ⟨⟨f, fd, ds, dvs, hm, F, hb, hd, hrep⟩, c⟩ := M
  refine (pe_meth0 (pl := pl) ho c hm F hr hb hd (pass0 (X := X)) ht).imp fun σ H Q z0 => z0.el fun τ G q hs hg ht hQ => ?_
  refine ⟨τ, G, _, hs, hg, ht, fun x H1 w G1 t1 r1 g1 q1 => ?_⟩
  obtain ⟨a, fs, rfl, hG, hl, q1⟩ := q1
  cases r1
  obtain ⟨_, dx, fs', hH, hn, _⟩ := g1 a _ hG
  exact ⟨a, dx, fs', rfl, hH, flds_none hn hl, .ref a :: ([] ++ dws), G1, q, _, .cons (.ref a) (hrep _), g1, q1, fun v H3 w3 G3 t3 => hQ v H3 w3 G3 (t1.trans t3), fun _ _ _ _ _ _ z => z.elim⟩
noncomputable def wPop (to : WE) : WE := fun τ G q => to τ G fun x G1 => match x with
  | .ref a => ∃ ys y, G1 a = some (.lst (ys ++ [y])) ∧ q y (updG G1 a (.lst ys))
  | _ => False
noncomputable def clsB : Stmt → List Stmt
  | .ClassDef _ _ _ b _ _ _ _ _ _ _ => b
  | _ => []
noncomputable def Md (K : PySem.W.Frag) (C : Addr) (m qual : Str) (st : Stmt) (ps : List Str) : Prop := ∃ (f : Addr) (fd : FuncData), Meth K C m f ∧ Fun K m qual st f fd ∧ Binds K fd ps []
noncomputable def MdI (K : PySem.W.Frag) (C : Addr) (qual : Str) (st : Stmt) (ps : List Str) : Prop := ∃ (f : Addr) (fd : FuncData), Mk K C f ∧ Fun K "__init__" qual st f fd ∧ Binds K fd ps []
section
variable {P : Program} {w : World} {K : PySem.W.Frag} {mg : Str → Option Value} {base : Heap} {C : Addr} {m qual : Str} {st : Stmt} {ps : List Str} {k : Nat} {sp : WSp} {dws : List W}
theorem Md.mt (D : Md K C m qual st ps) (c : Cls K C) (h : ∀ (f : Addr) (fd : FuncData), Fun K m qual st f fd → WFn P w K mg base k f fd ps sp) : Mt P w K mg base C m ps k sp [] := by
  obtain ⟨f, fd, hm, F, b⟩ := D
  exact ⟨⟨f, fd, [], [], hm, h f fd F, b, .nil, fun _ => .nil⟩, c⟩
noncomputable def New (P : Program) (w : World) (K : PySem.W.Frag) (mg : Str → Option Value) (base : Heap) (x : Str) (C : Addr) (ps : List Str) (k : Nat) (sp : WSp) : Prop := ∃ (f : Addr) (fd : FuncData), Mk K C f ∧ WFn P w K mg base k f fd ps sp ∧ mg x = some (.ref C) ∧ Binds K fd ps []
theorem MdI.new {x : Str} (D : MdI K C qual st ps) (hm : mg x = some (.ref C)) (h : ∀ (f : Addr) (fd : FuncData), Fun K "__init__" qual st f fd → WFn P w K mg base k f fd ps sp) : New P w K mg base x C ps k sp := by
  obtain ⟨f, fd, M, F, b⟩ := D
  exact ⟨f, fd, M, h f fd F, hm, b⟩
end
theorem qe_new {C : Addr} {k : Nat} {x : Str} {ps : List Str} {sp : WSp} {p pos : Pos} {e : Expr} {es : List Expr} {t : WA} (M : New X.prog X.w X.K X.mg X.base x C ps k sp) (hr : Room (k + 1) X.A) (hg : Gl X x)
    (ha : QA X (e :: es) t) (hdb : (x == ("__debug__" : Str)) = false := by decide) (he : starEach (e :: es) X.env = (false, eval e X.env) :: starEach es X.env := by rfl) (hpl : (backTo pos (starEach es X.env)).any (·.1) = false := by rfl) :
    QE X (.Call (.Name x p) (e :: es) [] pos) (wMake C sp [] t) := by
  obtain ⟨f, fd, M, F, hm, b⟩ := M
  exact qe_make M F hr hg hm b ha hdb he hpl
noncomputable def wBrk : WS := fun d τ G => d.bk τ G
noncomputable def wCnt : WS := fun d τ G => d.ct τ G
theorem lnZ {α : Type} {p : List α → Prop} (h : p []) (us : List α) (e : us.length = 0) : p us := by
  rw [List.eq_nil_of_length_eq_zero e]; exact h
theorem lnS {α : Type} {n : Nat} {p : List α → Prop} (h : ∀ a, ∀ us : List α, us.length = n → p (a :: us)) (us : List α) (e : us.length = n + 1) : p us := by
  cases us with
  | nil => exact absurd e (Nat.succ_ne_zero n).symm
  | cons a us => exact h a us (Nat.succ.inj e)
end
end L2
set_option linter.all false
set_option maxRecDepth 100000
namespace L2
open PySem PySem.Spec PyProof.Rows
structure RMt (P : Program) (w : World) (K : PySem.W.Frag) (mg : Str → Option Value) (base : Heap) (C : Addr) (m : Str) (ps : List Str) (k : Nat) (sp : WSp) (dws : List W) : Prop where
  ex : ∃ (f : Addr) (fd : FuncData) (ds : List Value) (dvs : List V), Meth K C m f ∧ RFn P w K mg base k f fd ps sp ∧ Binds K fd ps ds ∧ Vals dvs ds ∧ ∀ H, Reps K H dws dvs
  cl : Cls K C
section
variable {X : Cx} {x : Str} {p pos : Pos}
end
end L2
set_option linter.all false
set_option maxRecDepth 100000
namespace L2
open PySem PySem.Spec PyProof.Rows
section
variable {X : Cx} {p pos : Pos}
noncomputable def wSome (S : Addr → Prop) (t : Addr → WE) : WE := fun τ G q => ∃ C, S C ∧ t C τ G q
theorem qe_some {S : Addr → Prop} {t : Addr → WE} {e : Expr} (h : ∀ C, S C → QE X e (t C)) : QE X e (wSome S t) := fun pins s σ H Q I ⟨τ, G, q, a, b, ⟨C, hC, ht⟩, d⟩ => h C hC pins s σ H Q I ⟨τ, G, q, a, b, ht, d⟩
noncomputable def wIsI (K : PySem.W.Frag) (D : Addr) (te : WE) : WE := fun τ G q => te τ G fun x G1 => ∃ a C fs, x = .ref a ∧ G1 a = some (.ins C fs) ∧ PySem.W.mroIn K C (.ref D) = some true ∧ q (.bl true) G1
noncomputable def cAll : List W → Gp → WK → Prop := fun ws G q => match ws with
  | [.ref a] => ∃ bs : List Bool, G a = some (.lst (bs.map W.bl)) ∧ q (.bl (bs.all id)) G
  | _ => False
end
end L2
set_option linter.all false
set_option maxRecDepth 100000
namespace L2
open PySem PySem.Spec PyProof.Rows
noncomputable def Itw (K : PySem.W.Frag) (a : Addr) (n : Nat) : It :=
  ⟨fun i H => ∃ xs x, SqL K H a xs ∧ xs.length = n ∧ i < n ∧ xs[n - 1 - i]? = some x, fun i H x H' => H' = H ∧ ∀ xs, SqL K H a xs → xs[n - 1 - i]? = some x, fun i H => ∃ xs, SqL K H a xs ∧ xs.length = n ∧ n ≤ i⟩
theorem turn_rl {P : Program} {w : World} {K : PySem.W.Frag} {tg : Expr} (a it : Addr) (n : Nat) : Turn P w K tg (Itw K a n) [it] it (fun i h => i ≤ n ∧ h.IsRevIter it a ((n : Int) - 1 - (i : Int))) where
  mem := by simp
  obj := fun i h st b hb => by
    have e : b = it := by simpa using hb
    subst e
    obtain ⟨_, o, e, c, d⟩ := st
    exact ⟨o, e, fun v z => by rw [d] at z; cases z⟩
  keep := fun i h h' st k => ⟨st.1, st.2.at fun o e => k it (by simp) o e⟩
  item := by
    intro X hP hw hK hc i pins s σ H E I hf st hg
    subst hP hw hK
    obtain ⟨xs, x, hq, hl, hi, hx⟩ := hg
    obtain ⟨its, rv, p, hz⟩ := I.list hq
    obtain ⟨u, hu, ru⟩ := rv.get hx
    obtain ⟨f0, f1, f2, f3, f4, f5⟩ := hf it (by simp)
    have st1 : s.heap.IsRevIter it a ((n - 1 - i : Nat) : Int) := by have := st.2; rw [show (n : Int) - 1 - (i : Int) = ((n - 1 - i : Nat) : Int) by (clear hc I hf st hq hx rv p hz hu ru f0 f1 f2 f3 f4 f5 this; omega)] at this; exact this
    refine wpAny_pyNext_rev_item st1 p.isList (x := u) (by simpa using hu) fun h' st' sb => ?_
    have I1 : Inv X pins σ H { s with heap := h' } := I.turned (t' := s.toks) (fun b o hb e => (sb.2 b hb).trans e) f0 f1 f3 f4 f5
    obtain ⟨o, e, c, d⟩ := id st'
    exact ⟨u, rfl, go_of (s := { s with heap := h' }) e c d (by decide) ⟨x, H, I1, ru, ⟨rfl, fun ys hy => by rw [I.list_inj hy hq]; exact hx⟩, ⟨by assumption, by rw [show (n : Int) - 1 - ((i + 1 : Nat) : Int) = ((n - 1 - i : Nat) : Int) - 1 by (clear hc I hf st hq hx rv p hz hu ru f0 f1 f2 f3 f4 f5 st1 st' sb I1 e c d; omega)]; exact st'⟩, fun b hb => (hf b hb).1⟩⟩
  done := by
    intro X hP hw hK hc i pins s σ H E I hf st hg
    subst hP hw hK
    obtain ⟨xs, hq, hl, hi⟩ := hg
    obtain ⟨f0, f1, f2, f3, f4, f5⟩ := hf it (by simp)
    have st1 : s.heap.IsRevIter it a (-1) := by have := st.2; rw [show (n : Int) - 1 - (i : Int) = -1 by have := st.1; (clear hc I hf hq f0 f1 f2 f3 f4 f5 this; omega)] at this; exact this
    exact wpAny_pyNext_rev_end (I.ok.hd hc) st1 fun h' eb => ⟨rfl, I.turned (t' := s.toks) (fun b o hb e => eb b o hb e) f0 f1 f3 f4 f5⟩
  self := fun _ _ _ _ _ st h => wpAny_pyIter_revIter st.2 h
theorem itn_rl {K : PySem.W.Frag} {a : Addr} {ws : List W} {H : Hp} {n : Nat} (hn : ws.length = n) : Itn K (Itw K a n) ws.reverse (fun G => G a = some (.lst ws)) H where
  stop := fun i H1 G t g eG hl => by
    obtain ⟨_, xs, h1, r⟩ := g a _ eG
    exact ⟨xs, SqL.of h1, by rw [← r.length]; exact hn, by simp at hl; (clear t g eG h1 r; omega)⟩
  go := fun i w H1 G t g eG e => by
    obtain ⟨_, xs, h1, r⟩ := g a _ eG
    have hl := r.length
    have hi : i < ws.length := by
      rcases Nat.lt_or_ge i ws.length with z | z
      · exact z
      · rw [List.getElem?_eq_none (by simpa using z)] at e; cases e
    rw [List.getElem?_reverse hi] at e
    obtain ⟨v, e1, rv⟩ := r.get e
    rw [hn] at e1
    refine ⟨⟨xs, v, SqL.of h1, by (clear t g eG e h1 r hi e1 rv; omega), by (clear t g eG e h1 r e1 rv; omega), e1⟩, fun x H' ⟨eH, hy⟩ => ?_⟩
    subst eH
    have e2 := hy xs (SqL.of h1)
    rw [e1] at e2; cases e2
    exact ⟨TLe.refl _, rv, g⟩
noncomputable def jRevL (ta : WA) : WI := fun τ G r => ta τ G fun ws G1 => match ws with
  | [.ref a] => ∃ xs, G1 a = some (.lst xs) ∧ r xs.reverse (fun G => G a = some (.lst xs)) G1
  | _ => False
theorem qi_revL {X : Cx} {tg a : Expr} {ta : WA} {p pos : Pos} (hg : Gl X "reversed") (hm : X.mg "reversed" = none) (ha : QA X [a] ta) (hs : starEach [a] X.env = [(false, eval a X.env)] := by rfl) :
    QI X tg (.Call (.Name "reversed" p) [a] [] pos) (jRevL ta) := by
  intro pins s σ H R I ⟨τ, G, r, hτ, hG, ht, hR⟩
  refine Call_ (ld_blt I hg hm boot_rv (PyProof.Rows.callWith_type1 (thn (ha pos pins s σ H (fun vs H1 => ∃ ws G1, TLe H H1 ∧ Reps X.K H1 ws vs ∧ RelG X.K H1 G1 ∧ match ws with | [.ref a] => ∃ xs, G1 a = some (.lst xs) ∧ r xs.reverse (fun G => G a = some (.lst xs)) G1 | _ => False) I ⟨τ, G, _, hτ, hG, ht, fun vs H1 ws G1 t1 r1 g1 q1 => ⟨ws, G1, t1, r1, g1, q1⟩⟩) fun us s1 ⟨vs, H1, I1, ru, ws, G1, t1, r1, g1, q1⟩ => ?_) (by rw [hs]; rfl) (by rfl)))
  split at q1
  · rename_i pa
    obtain ⟨ws, eG, q1⟩ := q1
    cases r1 with
    | cons ra rn =>
      cases rn
      cases ra
      cases ru with
      | cons w1 wn =>
        cases wn
        cases (show _ = Value.ref pa from w1)
        obtain ⟨_, xs', h1, rr⟩ := g1 _ _ eG
        obtain ⟨its, rv, p1, hz⟩ := I1.list (SqL.of h1)
        have hl := rv.length
        have hr := rr.length
        refine call_reversed_list p1.isList ?_
        have st0 : (s1.heap.push (revObj pa ((its.toArray.size : Int) - 1))).IsRevIter s1.heap.objs.size pa ((ws.length : Int) - 1 - ((0 : Nat) : Int)) := ⟨_, Heap.get?_push_size _ rfl, rfl, by
          rw [show ((ws.length : Int) - 1 - ((0 : Nat) : Int)) = (its.toArray.size : Int) - 1 by simp; (clear hg hm ha hs I hτ hG ht hR I1 t1 g1 eG q1 w1 h1 rr rv p1 hz; omega)]; rfl⟩
        refine wpAny_pyIter_revIter (s := { s1 with heap := s1.heap.push (revObj pa ((its.toArray.size : Int) - 1)) }) st0 ?_
        refine ⟨s1.heap.objs.size, [s1.heap.objs.size], _, _, H1, rfl, I1.kept (t' := s1.toks) fun b o e => Heap.get?_push_of_some _ e, turn_rl pa _ ws.length, ⟨Nat.zero_le _, st0⟩, fun b hb => ?_, hR _ H1 _ _ G1 t1 g1 (itn_rl rfl) q1⟩
        have e : b = s1.heap.objs.size := by simpa using hb
        subst e
        exact I1.fpOk (Nat.le_refl _) (I1.hok.fresh (Nat.le_refl _))
  · exact q1.elim
end L2
set_option linter.all false
namespace L2
open PySem PySem.Spec PyProof.Rows
section
variable {X : Cx}
noncomputable def wClrL (to : WE) : WE := fun τ G q => to τ G fun x G1 => match x with
  | .ref a => ∃ ys, G1 a = some (.lst ys) ∧ q .non (updG G1 a (.lst []))
  | _ => False
theorem txt_eq (x y : Str) : (W.str x).eq (.str y) = decide (x = y) := by
  simp only [W.eq]
  rw [Bool.eq_iff_iff, beq_iff_eq, decide_eq_true_eq]
theorem txt_flat (x : Str) : (W.str x).flat = true := rfl
theorem txt_dep (x : Str) : (W.str x).dep = 0 := rfl
theorem l_self (x : Str) : decide (x = x) = true := decide_eq_true rfl
theorem lits3 : decide (Str.ofString "plain" = Str.ofString "times") = false ∧ decide (Str.ofString "plain" = Str.ofString "while") = false ∧ decide (Str.ofString "times" = Str.ofString "plain") = false ∧ decide (Str.ofString "times" = Str.ofString "while") = false ∧ decide (Str.ofString "while" = Str.ofString "plain") = false ∧ decide (Str.ofString "while" = Str.ofString "times") = false := by decide +kernel
end
end L2
namespace Nm
inductive O where
  | z
  | c (e : O) (n : Int) (r : O)
  deriving DecidableEq
namespace O
noncomputable def cmp : O → O → Int
  | z, z => 0
  | z, c _ _ _ => -1
  | c _ _ _, z => 1
  | c e n r, c e' n' r' =>
    if cmp e e' ≠ 0 then cmp e e' else if n < n' then -1 else if n' < n then 1 else cmp r r'
noncomputable def size : O → Nat
  | z => 0
  | c e _ r => 1 + size e + size r
noncomputable def dp : O → Nat
  | z => 0
  | c e _ r => max (dp e + 1) (dp r)
noncomputable def len : O → Nat
  | z => 0
  | c _ _ r => len r + 1
noncomputable def app : O → O → O
  | z, b => b
  | c e n r, b => c e n (app r b)
noncomputable def filt (p : O → Int → Bool) : O → O
  | z => z
  | c e n r => if p e n then c e n (filt p r) else filt p r
noncomputable def same (x : O) : O → Int
  | z => 0
  | c e n r => if e = x then n + same x r else same x r
noncomputable def init : O → O
  | z => z
  | c _ _ z => z
  | c e n r => c e n (init r)
noncomputable def last : O → O
  | z => z
  | c e n z => c e n z
  | c _ _ r => last r
theorem cmp_self : ∀ a : O, cmp a a = 0
  | z => rfl
  | c e n r => by simp [cmp, cmp_self e, cmp_self r]
theorem cmp_eq : ∀ a b : O, cmp a b = 0 → a = b
  | z, z, _ => rfl
  | z, c _ _ _, h => by simp [cmp] at h
  | c _ _ _, z, h => by simp [cmp] at h
  | c e n r, c e' n' r', h => by
    unfold cmp at h
    by_cases he : cmp e e' = 0
    · rw [if_neg (by simpa using he)] at h
      by_cases h1 : n < n'
      · rw [if_pos h1] at h; (clear he h1; omega)
      · rw [if_neg h1] at h
        by_cases h2 : n' < n
        · rw [if_pos h2] at h; (clear he h1 h2; omega)
        · rw [if_neg h2] at h
          have := cmp_eq e e' he
          have := cmp_eq r r' h
          have : n = n' := by (clear h he this; omega)
          subst_vars
          rfl
    · rw [if_pos he] at h; exact absurd h he
theorem cmp_range : ∀ a b : O, cmp a b = -1 ∨ cmp a b = 0 ∨ cmp a b = 1
  | z, z => by simp [cmp]
  | z, c _ _ _ => by simp [cmp]
  | c _ _ _, z => by simp [cmp]
  | c e n r, c e' n' r' => by
    have h1 := cmp_range e e'
    have h2 := cmp_range r r'
    unfold cmp
    split
    · exact h1
    · split
      · exact .inl rfl
      · split
        · exact .inr (.inr rfl)
        · exact h2
theorem cmp_swap : ∀ a b : O, cmp b a = - cmp a b
  | z, z => rfl
  | z, c _ _ _ => rfl
  | c _ _ _, z => rfl
  | c e n r, c e' n' r' => by
    have h1 := cmp_swap e e'
    have h2 := cmp_swap r r'
    unfold cmp
    rw [h1, h2]
    by_cases he : cmp e e' = 0
    · rcases Int.lt_trichotomy n n' with k | k | k
      · have k' : ¬ n' < n := by (clear h1 h2 he; omega)
        simp [he, k, k']
      · subst k
        simp [he]
      · have k' : ¬ n < n' := by (clear h1 h2 he; omega)
        simp [he, k, k']
    · have he' : ¬ - cmp e e' = 0 := by (clear h1 h2; omega)
      simp [he, he']
theorem cmp_trans : ∀ a b d : O, cmp a b < 0 → cmp b d < 0 → cmp a d < 0
  | z, z, _, h, _ => by simp [cmp] at h
  | z, c _ _ _, z, _, h => by simp [cmp] at h
  | z, c _ _ _, c _ _ _, _, _ => by simp [cmp]
  | c _ _ _, z, _, h, _ => by simp [cmp] at h
  | c _ _ _, c _ _ _, z, _, h => by simp [cmp] at h
  | c e n r, c e' n' r', c f m t, h1, h2 => by
    have ih1 := cmp_trans e e' f
    have ih2 := cmp_trans r r' t
    have r1 := cmp_range e e'
    have r2 := cmp_range e' f
    unfold cmp at h1 h2 ⊢
    by_cases k1 : cmp e e' = 0
    · have e1 := cmp_eq e e' k1
      subst e1
      rw [if_neg (by (clear ih2 ih1 r1 r2 h1 h2; omega))] at h1
      by_cases k2 : cmp e f = 0
      · rw [if_neg (by (clear ih2 ih1 r1 r2 h1 h2 k1; omega))] at h2 ⊢
        by_cases a1 : n < n'
        · by_cases a2 : n' < m
          · rw [if_pos (by (clear ih2 ih1 r1 r2 h1 h2 k1 k2; omega))]; (clear ih2 ih1 r1 r2 h1 h2 k1 k2 a1 a2; omega)
          · rw [if_neg a2] at h2
            by_cases a3 : m < n'
            · rw [if_pos a3] at h2; (clear ih2 ih1 r1 r2 h1 k1 k2 a1 a2 a3; omega)
            · rw [if_pos (by (clear ih2 ih1 r1 r2 h1 h2 k1 k2; omega))]; (clear ih2 ih1 r1 r2 h1 h2 k1 k2 a1 a2 a3; omega)
        · rw [if_neg a1] at h1
          by_cases a2 : n' < n
          · rw [if_pos a2] at h1; (clear ih2 ih1 r1 r2 h2 k1 k2 a1 a2; omega)
          · rw [if_neg a2] at h1
            by_cases a3 : n' < m
            · rw [if_pos (by (clear ih2 ih1 r1 r2 h1 h2 k1 k2; omega))]; (clear ih2 ih1 r1 r2 h1 h2 k1 k2 a1 a2 a3; omega)
            · rw [if_neg a3] at h2
              by_cases a4 : m < n'
              · rw [if_pos a4] at h2; (clear ih2 ih1 r1 r2 h1 k1 k2 a1 a2 a3 a4; omega)
              · rw [if_neg a4] at h2
                rw [if_neg (by (clear ih2 ih1 r1 r2 h1 h2 k1 k2; omega)), if_neg (by (clear ih2 ih1 r1 r2 h1 h2 k1 k2; omega))]
                exact ih2 h1 h2
      · rw [if_pos k2] at h2 ⊢; exact h2
    · rw [if_pos k1] at h1
      by_cases k2 : cmp e' f = 0
      · have e2 := cmp_eq e' f k2
        subst e2
        rw [if_pos k1]; exact h1
      · rw [if_pos k2] at h2
        have := ih1 h1 h2
        rw [if_pos (by (clear ih1 ih2 r1 r2 h1 h2 k1 k2; omega))]; exact this
noncomputable def Lt (e : O) : O → Prop
  | z => True
  | c x _ r => cmp x e < 0 ∧ Lt e r
noncomputable def NF : O → Prop
  | z => True
  | c e n r => NF e ∧ 1 ≤ n ∧ Lt e r ∧ NF r
theorem Lt.app {e : O} : ∀ {a b : O}, Lt e a → Lt e b → Lt e (app a b)
  | z, _, _, h => h
  | c _ _ _, _, h1, h2 => ⟨h1.1, Lt.app h1.2 h2⟩
theorem Lt.filt {e : O} (p : O → Int → Bool) : ∀ {a : O}, Lt e a → Lt e (O.filt p a)
  | z, _ => trivial
  | c _ _ _, h => by
    unfold O.filt
    split
    · exact ⟨h.1, Lt.filt p h.2⟩
    · exact Lt.filt p h.2
theorem same_nonneg (x : O) : ∀ {a : O}, NF a → 0 ≤ same x a
  | z, _ => by simp [same]
  | c e n r, h => by
    have h1 := h.2.1
    have h2 := same_nonneg x h.2.2.2
    unfold same
    split <;> omega
theorem NF.join {e : O} {n : Int} {b : O} (he : NF e) (hn : 1 ≤ n) (hb : NF b) (hl : Lt e b) (hx : ∀ x, 0 < cmp x e → Lt x b) : ∀ {a : O}, NF a → NF (O.app (O.filt (fun x _ => decide (0 < cmp x e)) a) (c e n b))
  | z, _ => ⟨he, hn, hl, hb⟩
  | c x k r, h => by
    unfold O.filt
    split
    · rename_i hp
      have hp' : 0 < cmp x e := by simpa using hp
      have hs := cmp_swap x e
      exact ⟨h.1, h.2.1, Lt.app (h.2.2.1.filt _) ⟨by (clear he hn hb hl hx h hp; omega), hx x hp'⟩, NF.join he hn hb hl hx h.2.2.2⟩
    · exact NF.join he hn hb hl hx h.2.2.2
end O
end Nm
namespace Nm
namespace O
theorem not_lt_self (a : O) : ¬ cmp a a < 0 := by rw [cmp_self]; omega
theorem same_z (x : O) : same x z = 0 := rfl
theorem same_eq (e : O) (n : Int) (r : O) : same e (c e n r) = n + same e r := by simp [same]
theorem same_ne {x e : O} (h : e ≠ x) (n : Int) (r : O) : same x (c e n r) = same x r := by simp [same, h]
theorem same_of_Lt {e x : O} (hx : ¬ cmp x e < 0) : ∀ {r : O}, Lt e r → same x r = 0
  | z, _ => rfl
  | c y n t, h => by
    have hy : y ≠ x := fun k => hx (k ▸ h.1)
    rw [same_ne hy]
    exact same_of_Lt hx h.2
theorem same_self {e : O} {n : Int} {r : O} (h : Lt e r) : same e (c e n r) = n := by
  rw [same_eq, same_of_Lt (not_lt_self e) h]; (clear h; omega)
theorem same_above {x e : O} {n : Int} {r : O} (h : Lt e r) (hx : 0 < cmp x e) : same x (c e n r) = 0 := by
  have hne : e ≠ x := fun k => by subst k; rw [cmp_self] at hx; (clear h; omega)
  rw [same_ne hne, same_of_Lt (by (clear h hne; omega)) h]
theorem same_ext : ∀ {a b : O}, NF a → NF b → (∀ x, same x a = same x b) → a = b
  | z, z, _, _, _ => rfl
  | z, c e n r, _, hb, h => by
    have := h e
    rw [same_self hb.2.2.1, same_z] at this
    have := hb.2.1
    (clear hb h; omega)
  | c e n r, z, ha, _, h => by
    have := h e
    rw [same_self ha.2.2.1, same_z] at this
    have := ha.2.1
    (clear ha h; omega)
  | c e n r, c e' n' r', ha, hb, h => by
    rcases cmp_range e e' with k | k | k
    · have h1 := h e'
      rw [same_self hb.2.2.1, same_above ha.2.2.1 (by have := cmp_swap e e'; (clear ha hb h h1; omega))] at h1
      have := hb.2.1
      (clear ha hb h k; omega)
    · have k' := cmp_eq _ _ k
      subst k'
      have h1 := h e
      rw [same_self ha.2.2.1, same_self hb.2.2.1] at h1
      subst h1
      have hr : r = r' := same_ext ha.2.2.2 hb.2.2.2 fun x => by
        by_cases hx : e = x
        · subst hx
          rw [same_of_Lt (not_lt_self e) ha.2.2.1, same_of_Lt (not_lt_self e) hb.2.2.1]
        · have := h x
          rw [same_ne hx, same_ne hx] at this
          exact this
      rw [hr]
    · have h1 := h e
      rw [same_self ha.2.2.1, same_above hb.2.2.1 (by (clear ha hb h h1; omega))] at h1
      have := ha.2.1
      (clear ha hb h k; omega)
theorem lt_of_first {x : O} : ∀ {a b : O}, NF a → NF b → same x a < same x b → (∀ y, 0 < cmp y x → same y a = same y b) → cmp a b < 0
  | z, z, _, _, h, _ => by simp [same] at h
  | z, c _ _ _, _, _, _, _ => by simp [cmp]
  | c e n r, z, ha, _, h, _ => by
    have := same_nonneg x ha
    rw [same_z] at h
    (clear ha; omega)
  | c e n r, c e' n' r', ha, hb, h, hy => by
    rcases cmp_range e e' with k | k | k
    · rw [cmp, if_pos (by (clear ha hb h hy; omega))]; (clear ha hb h hy; omega)
    · have k' := cmp_eq _ _ k
      subst k'
      rw [cmp, if_neg (by (clear ha hb h hy; omega))]
      rcases cmp_range x e with q | q | q
      · have hne : e ≠ x := fun z => by subst z; rw [cmp_self] at q; (clear ha hb k h hy; omega)
        have h1 := hy e (by have := cmp_swap x e; (clear ha hb h hy k hne; omega))
        rw [same_self ha.2.2.1, same_self hb.2.2.1] at h1
        subst h1
        rw [if_neg (by (clear ha k q hne hb h hy; omega)), if_neg (by (clear ha k q hne hb h hy; omega))]
        rw [same_ne hne, same_ne hne] at h
        refine lt_of_first ha.2.2.2 hb.2.2.2 h fun y hyx => ?_
        by_cases hye : e = y
        · subst hye
          rw [same_of_Lt (not_lt_self e) ha.2.2.1, same_of_Lt (not_lt_self e) hb.2.2.1]
        · have := hy y hyx
          rw [same_ne hye, same_ne hye] at this
          exact this
      · have q' := cmp_eq _ _ q
        subst q'
        rw [same_self ha.2.2.1, same_self hb.2.2.1] at h
        rw [if_pos h]; (clear ha hb h hy k q; omega)
      · rw [same_above ha.2.2.1 (by (clear ha hb h hy k; omega)), same_above hb.2.2.1 (by (clear ha hb h hy k; omega))] at h
        (clear ha hb hy k q; omega)
    · have hn := ha.2.1
      rcases cmp_range e x with q | q | q
      · have qx : 0 < cmp x e := by have := cmp_swap e x; (clear ha hb h hy k hn; omega)
        have qx' : 0 < cmp x e' := by
          have := cmp_trans e' e x (by have := cmp_swap e e'; (clear ha hb h hy hn q qx; omega)) (by (clear ha hb h hy k hn qx; omega))
          have := cmp_swap e' x
          (clear ha hb h hy k hn q qx; omega)
        rw [same_above ha.2.2.1 qx, same_above hb.2.2.1 qx'] at h
        (clear ha hb hy k hn q qx qx'; omega)
      · have q' := cmp_eq _ _ q
        subst q'
        rw [same_self ha.2.2.1, same_above hb.2.2.1 (by (clear ha hb hn h hy q; omega))] at h
        (clear ha hb k hy q; omega)
      · have h1 := hy e (by (clear ha hb h hy k hn; omega))
        rw [same_self ha.2.2.1, same_above hb.2.2.1 (by (clear ha hb h hy hn q h1; omega))] at h1
        (clear ha hb h hy k q; omega)
theorem first_of_lt : ∀ {a b : O}, NF a → NF b → cmp a b < 0 → ∃ x, same x a < same x b ∧ ∀ y, 0 < cmp y x → same y a = same y b
  | z, z, _, _, h => by simp [cmp] at h
  | z, c e n r, _, hb, _ => by
    refine ⟨e, ?_, fun y hy => ?_⟩
    · rw [same_self hb.2.2.1, same_z]; have := hb.2.1; assumption
    · rw [same_above hb.2.2.1 hy, same_z]
  | c _ _ _, z, _, _, h => by simp [cmp] at h
  | c e n r, c e' n' r', ha, hb, h => by
    rcases cmp_range e e' with k | k | k
    · refine ⟨e', ?_, fun y hy => ?_⟩
      · rw [same_self hb.2.2.1, same_above ha.2.2.1 (by have := cmp_swap e e'; (clear ha hb h; omega))]; have := hb.2.1; assumption
      · have hy2 : 0 < cmp y e := by
          have := cmp_trans e e' y (by (clear ha hb h hy; omega)) (by have := cmp_swap y e'; (clear ha hb h k; omega))
          have := cmp_swap e y
          (clear ha hb h k hy; omega)
        rw [same_above hb.2.2.1 hy, same_above ha.2.2.1 hy2]
    · have k' := cmp_eq _ _ k
      subst k'
      rw [cmp, if_neg (by (clear ha hb h; omega))] at h
      by_cases h1 : n < n'
      · refine ⟨e, ?_, fun y hy => ?_⟩
        · rw [same_self ha.2.2.1, same_self hb.2.2.1]; exact h1
        · rw [same_above hb.2.2.1 hy, same_above ha.2.2.1 hy]
      · rw [if_neg h1] at h
        by_cases h2 : n' < n
        · rw [if_pos h2] at h; (clear ha hb k h1 h2; omega)
        · rw [if_neg h2] at h
          have hn : n = n' := by (clear ha hb h k; omega)
          subst hn
          obtain ⟨x, hx, hy⟩ := first_of_lt ha.2.2.2 hb.2.2.2 h
          have hxe : cmp x e < 0 := by
            refine Classical.byContradiction fun q => ?_
            rw [same_of_Lt q ha.2.2.1, same_of_Lt q hb.2.2.1] at hx
            (clear ha h k hb h1 h2 hy q; omega)
          have hne : e ≠ x := fun z => by subst z; rw [cmp_self] at hxe; (clear ha h k hb h1 h2 hx hy; omega)
          refine ⟨x, by rw [same_ne hne, same_ne hne]; exact hx, fun y hyx => ?_⟩
          by_cases hye : e = y
          · subst hye
            rw [same_self ha.2.2.1, same_self hb.2.2.1]
          · rw [same_ne hye, same_ne hye]; exact hy y hyx
    · rw [cmp, if_pos (by (clear ha hb h; omega))] at h; (clear ha hb; omega)
noncomputable def plusO : O → O → O
  | a, z => a
  | a, c e n r => app (filt (fun x _ => decide (0 < cmp x e)) a) (c e (same e a + n) r)
theorem same_app : ∀ (x a b : O), same x (app a b) = same x a + same x b
  | x, z, b => by simp [app, same]
  | x, c e n r, b => by
    have := same_app x r b
    show same x (c e n (app r b)) = _
    by_cases h : e = x
    · subst h; rw [same_eq, same_eq, this]; (clear this; omega)
    · rw [same_ne h, same_ne h, this]
theorem same_filt (p : O → Bool) : ∀ (x a : O), same x (filt (fun y _ => p y) a) = if p x then same x a else 0
  | x, z => by simp [filt, same]
  | x, c e n r => by
    have ih := same_filt p x r
    unfold filt
    by_cases hp : p e = true
    · rw [if_pos hp]
      by_cases h : e = x
      · subst h; rw [same_eq, same_eq, ih, if_pos hp, if_pos hp]
      · rw [same_ne h, same_ne h, ih]
    · rw [if_neg hp, ih]
      by_cases h : e = x
      · subst h; rw [if_neg hp, if_neg hp]
      · rw [same_ne h]
theorem NF.join' {e : O} {n : Int} {b : O} (he : NF e) (hn : 1 ≤ n) (hb : NF b) (hl : Lt e b) {a : O} (ha : NF a) : NF (O.app (O.filt (fun x _ => decide (0 < cmp x e)) a) (c e n b)) := by
  refine NF.join he hn hb hl (fun x hx => ?_) ha
  have : ∀ {b : O}, Lt e b → Lt x b := by
    intro b
    induction b with
    | z => exact fun _ => trivial
    | c y m t _ ih => exact fun h => ⟨cmp_trans y e x h.1 (by have := cmp_swap x e; (clear he hn hb hl ha ih h; omega)), ih h.2⟩
  exact this hl
theorem NF.plus {a b : O} (ha : NF a) (hb : NF b) : NF (plusO a b) := by
  cases b with
  | z => exact ha
  | c e n r =>
    have := same_nonneg e ha
    exact NF.join' hb.1 (by have := hb.2.1; (clear ha hb; omega)) hb.2.2.2 hb.2.2.1 ha
theorem same_plus {a e : O} {n : Int} {r : O} (hr : Lt e r) (x : O) : same x (plusO a (c e n r)) = if 0 < cmp x e then same x a else if cmp x e < 0 then same x (c e n r) else same x a + same x (c e n r) := by
  show same x (app _ _) = _
  rw [same_app, same_filt (fun y => decide (0 < cmp y e))]
  by_cases h1 : 0 < cmp x e
  · rw [if_pos (by simpa using h1), if_pos h1, same_above hr h1]; (clear hr h1; omega)
  · rw [if_neg (by simpa using h1), if_neg h1]
    by_cases h2 : cmp x e < 0
    · have hne : e ≠ x := fun z => by subst z; rw [cmp_self] at h2; (clear hr h1; omega)
      rw [if_pos h2, same_ne hne, same_ne hne]; (clear hr h1 h2 hne; omega)
    · have : cmp x e = 0 := by (clear hr; omega)
      have h3 := cmp_eq _ _ this
      subst h3
      rw [if_neg h2, same_self hr, same_self hr]; (clear hr h1 h2 this; omega)
end O
end Nm
namespace Nm
namespace O
noncomputable def Cov (b y : O) : Prop := ∃ w, cmp y w < 0 ∧ same w b ≠ 0
theorem cov_z (y : O) : ¬ Cov z y := fun ⟨_, _, h⟩ => h rfl
theorem cov_c {e : O} {n : Int} {r y : O} (hn : 1 ≤ n) (hr : Lt e r) : Cov (c e n r) y ↔ cmp y e < 0 := by
  constructor
  · rintro ⟨w, hw, hs⟩
    have : ¬ 0 < cmp w e := fun k => hs (same_above hr k)
    rcases cmp_range w e with k | k | k
    · exact cmp_trans y w e hw (by (clear hn hr hw hs this; omega))
    · rw [cmp_eq _ _ k] at hw; exact hw
    · (clear hn hr hw hs; omega)
  · intro h
    exact ⟨e, h, by rw [same_self hr]; (clear hr h; omega)⟩
theorem same_plus_cov {a b y : O} (hb : NF b) (h : Cov b y) : same y (plusO a b) = same y b := by
  cases b with
  | z => exact absurd h (cov_z y)
  | c e n r =>
    have h' := (cov_c hb.2.1 hb.2.2.1).mp h
    rw [same_plus hb.2.2.1, if_neg (by (clear hb h; omega)), if_pos h']
theorem same_plus_bare {a b y : O} (hb : NF b) (h : ¬ Cov b y) : same y (plusO a b) = same y b + same y a := by
  cases b with
  | z => show same y a = 0 + same y a; (clear hb h; omega)
  | c e n r =>
    have h' : ¬ cmp y e < 0 := fun k => h ((cov_c hb.2.1 hb.2.2.1).mpr k)
    rw [same_plus hb.2.2.1]
    by_cases k : 0 < cmp y e
    · rw [if_pos k, same_above hb.2.2.1 k]; (clear hb h h' k; omega)
    · rw [if_neg k, if_neg h']; (clear hb h h' k; omega)
theorem cov_plus {b d y : O} (hb : NF b) (hd : NF d) : Cov (plusO b d) y ↔ Cov b y ∨ Cov d y := by
  constructor
  · rintro ⟨w, hw, hs⟩
    by_cases k : Cov d w
    · rw [same_plus_cov hd k] at hs
      exact .inr ⟨w, hw, hs⟩
    · rw [same_plus_bare hd k] at hs
      by_cases q : same w d = 0
      · exact .inl ⟨w, hw, by (clear hb hd hw k; omega)⟩
      · exact .inr ⟨w, hw, q⟩
  · have right : Cov d y → Cov (plusO b d) y := by
      rintro ⟨w, hw, hs⟩
      refine ⟨w, hw, ?_⟩
      by_cases k : Cov d w
      · rw [same_plus_cov hd k]; exact hs
      · rw [same_plus_bare hd k]
        have := same_nonneg w hb
        have := same_nonneg w hd
        (clear hb hd hw k; omega)
    rintro (⟨w, hw, hs⟩ | h)
    · by_cases k : Cov d w
      · obtain ⟨v, hv, hs'⟩ := k
        exact right ⟨v, cmp_trans _ _ _ hw hv, hs'⟩
      · refine ⟨w, hw, ?_⟩
        rw [same_plus_bare hd k]
        have := same_nonneg w hb
        have := same_nonneg w hd
        (clear hb hd right hw k; omega)
    · exact right h
theorem plus_assoc {a b d : O} (ha : NF a) (hb : NF b) (hd : NF d) : plusO (plusO a b) d = plusO a (plusO b d) := by
  refine same_ext ((ha.plus hb).plus hd) (ha.plus (hb.plus hd)) fun y => ?_
  by_cases k : Cov d y
  · rw [same_plus_cov hd k, same_plus_cov (hb.plus hd) ((cov_plus hb hd).mpr (.inr k)), same_plus_cov hd k]
  · rw [same_plus_bare hd k]
    by_cases q : Cov b y
    · rw [same_plus_cov hb q, same_plus_cov (hb.plus hd) ((cov_plus hb hd).mpr (.inl q)), same_plus_bare hd k]
    · rw [same_plus_bare hb q, same_plus_bare (hb.plus hd) (fun z => ((cov_plus hb hd).mp z).elim q k), same_plus_bare hd k]
      (clear ha hb hd k q; omega)
theorem cov_alike {b d x y : O} (h : ∀ y, 0 < cmp y x → same y b = same y d) (hy : ¬ cmp y x < 0) : Cov b y ↔ Cov d y := by
  have go : ∀ w, cmp y w < 0 → 0 < cmp w x := fun w hw => by
    have hs := cmp_swap w x
    rcases cmp_range y x with k | k | k
    · (clear h hw hs; omega)
    · rw [cmp_eq _ _ k] at hw; (clear h hy k; omega)
    · have h3 := cmp_trans x y w (by have := cmp_swap y x; (clear h hy hw hs; omega)) hw
      (clear h hy hw k; omega)
  constructor
  · rintro ⟨w, hw, hs⟩
    exact ⟨w, hw, by rw [← h w (go w hw)]; exact hs⟩
  · rintro ⟨w, hw, hs⟩
    exact ⟨w, hw, by rw [h w (go w hw)]; exact hs⟩
theorem plus_lt {a b d : O} (ha : NF a) (hb : NF b) (hd : NF d) (h : cmp b d < 0) : cmp (plusO a b) (plusO a d) < 0 := by
  obtain ⟨x, hx, hy⟩ := first_of_lt hb hd h
  refine lt_of_first (x := x) (ha.plus hb) (ha.plus hd) ?_ fun y hyx => ?_
  · have q := cov_alike hy (not_lt_self x)
    by_cases k : Cov b x
    · rw [same_plus_cov hb k, same_plus_cov hd (q.mp k)]; exact hx
    · rw [same_plus_bare hb k, same_plus_bare hd (fun z => k (q.mpr z))]; (clear ha hb hd h hy q k; omega)
  · have q := cov_alike (y := y) hy (by (clear ha hb hd h hx hy; omega))
    by_cases k : Cov b y
    · rw [same_plus_cov hb k, same_plus_cov hd (q.mp k)]; exact hy y hyx
    · rw [same_plus_bare hb k, same_plus_bare hd (fun z => k (q.mpr z)), hy y hyx]
theorem cmp_of_lt {f : O → O} {b d : O} (h1 : cmp b d < 0 → cmp (f b) (f d) < 0) (h2 : cmp d b < 0 → cmp (f d) (f b) < 0) : cmp (f b) (f d) = cmp b d := by
  rcases cmp_range b d with k | k | k
  · have := h1 (by (clear h1 h2; omega))
    rcases cmp_range (f b) (f d) with q | q | q <;> (clear h1 h2; omega)
  · rw [cmp_eq _ _ k, cmp_self, cmp_self]
  · have := h2 (by have := cmp_swap b d; (clear h1 h2; omega))
    have := cmp_swap (f d) (f b)
    rcases cmp_range (f b) (f d) with q | q | q <;> (clear h1 h2; omega)
theorem cmp_plus {a b d : O} (ha : NF a) (hb : NF b) (hd : NF d) : cmp (plusO a b) (plusO a d) = cmp b d := cmp_of_lt (plus_lt ha hb hd) (plus_lt ha hd hb)
noncomputable def mergeO : O → O → O
  | z, b => b
  | c e n r, z => c e n r
  | c e n r, c e' n' r' => if 0 < cmp e e' then c e n (mergeO r (c e' n' r')) else if cmp e e' < 0 then c e' n' (mergeO (c e n r) r') else c e (n + n') (mergeO r r')
termination_by a b => a.len + b.len
decreasing_by all_goals (simp only [len]; omega)
theorem Lt.mono {e f : O} (h : cmp e f < 0) : ∀ {r : O}, Lt e r → Lt f r
  | z, _ => trivial
  | c _ _ _, k => ⟨cmp_trans _ _ _ k.1 h, Lt.mono h k.2⟩
end O
end Nm
namespace Nm
namespace O
noncomputable def getP : O → Nat → Option (O × Int)
  | z, _ => none
  | c e n _, 0 => some (e, n)
  | c _ _ r, i + 1 => getP r i
theorem getP_none : ∀ {a : O} {i : Nat}, getP a i = none ↔ a.len ≤ i
  | z, i => by simp [getP, len]
  | c e n r, 0 => by simp [getP, len]
  | c e n r, i + 1 => by
    have := getP_none (a := r) (i := i)
    simp only [getP, len, this]; (clear this; omega)
theorem getP_some {a : O} {i : Nat} (h : i < a.len) : ∃ e n, getP a i = some (e, n) := by
  cases k : getP a i with
  | none => rw [getP_none] at k; omega
  | some p => exact ⟨p.1, p.2, rfl⟩
theorem getP_size : ∀ {a : O} {i : Nat} {e : O} {n : Int}, getP a i = some (e, n) → e.size < a.size ∧ e.dp < a.dp
  | z, _, _, _, h => by simp [getP] at h
  | c e n r, 0, _, _, h => by simp [getP] at h; obtain ⟨rfl, rfl⟩ := h; simp only [size, dp]; omega
  | c e n r, i + 1, x, m, h => by
    have := getP_size (a := r) (i := i) (e := x) (n := m) (by simpa [getP] using h)
    simp only [size, dp]; (clear h; omega)
noncomputable def stay (e a : O) : Nat := (filt (fun x _ => decide (0 < cmp x e)) a).len
theorem filt_above_z {y e : O} (h : ¬ 0 < cmp y e) : ∀ {r : O}, Lt y r → filt (fun x _ => decide (0 < cmp x e)) r = z
  | z, _ => rfl
  | c x n t, k => by
    have hx : ¬ 0 < cmp x e := fun q => by
      have h1 := cmp_swap x e
      have h2 := cmp_trans e x y (by (clear h k; omega)) k.1
      have h3 := cmp_swap e y
      (clear k q h1; omega)
    unfold filt
    rw [if_neg (by simpa using hx)]
    exact filt_above_z h k.2
theorem filt_c (p : O → Int → Bool) (e : O) (n : Int) (r : O) : filt p (c e n r) = if p e n then c e n (filt p r) else filt p r := rfl
theorem stay_c_pos {e y : O} {n : Int} {r : O} (h : 0 < cmp y e) : stay e (c y n r) = stay e r + 1 := by
  unfold stay
  rw [filt_c, if_pos (by simpa using h)]
  rfl
theorem stay_c_neg {e y : O} {n : Int} {r : O} (h : ¬ 0 < cmp y e) (hr : Lt y r) : stay e (c y n r) = 0 := by
  unfold stay
  rw [filt_c, if_neg (by simpa using h), filt_above_z h hr]
  rfl
theorem stay_le {e : O} : ∀ {a : O}, stay e a ≤ a.len
  | z => Nat.le_refl _
  | c y n r => by
    have := stay_le (e := e) (a := r)
    unfold stay at this ⊢
    unfold filt
    split <;> simp only [len] <;> omega
theorem above_iff {e : O} : ∀ {a : O} {i : Nat} {x : O} {n : Int}, NF a → getP a i = some (x, n) → (0 < cmp x e ↔ i < stay e a)
  | z, _, _, _, _, h => by simp [getP] at h
  | c y m r, 0, x, n, ha, h => by
    simp [getP] at h
    obtain ⟨rfl, rfl⟩ := h
    by_cases k : 0 < cmp y e
    · rw [stay_c_pos k]; exact ⟨fun _ => by (clear ha k; omega), fun _ => k⟩
    · rw [stay_c_neg k ha.2.2.1]; exact ⟨fun q => absurd q k, fun q => by (clear ha k; omega)⟩
  | c y m r, i + 1, x, n, ha, h => by
    have h' : getP r i = some (x, n) := by simpa [getP] using h
    have ih := above_iff (e := e) ha.2.2.2 h'
    by_cases k : 0 < cmp y e
    · rw [stay_c_pos k, ih]; (clear ha h h' ih k; omega)
    · rw [stay_c_neg k ha.2.2.1]
      constructor
      · intro q
        have z0 : stay e r = 0 := by unfold stay; rw [filt_above_z k ha.2.2.1]; rfl
        have := ih.mp q
        (clear ha h h' ih k q; omega)
      · intro q; (clear ha h h' ih k; omega)
theorem same_stay {e : O} : ∀ {a : O}, NF a → same e a = match getP a (stay e a) with | some (x, m) => if x = e then m else 0 | none => 0
  | z, _ => rfl
  | c y n r, ha => by
    by_cases k : 0 < cmp y e
    · have hne : y ≠ e := fun q => by subst q; rw [cmp_self] at k; (clear ha; omega)
      rw [stay_c_pos k, same_ne hne, same_stay ha.2.2.2]
      rfl
    · rw [stay_c_neg k ha.2.2.1]
      show _ = if y = e then n else 0
      by_cases q : y = e
      · subst q
        rw [if_pos rfl, same_self ha.2.2.1]
      · rw [if_neg q, same_ne q]
        refine same_of_Lt (fun hl => ?_) ha.2.2.1
        have h1 := cmp_swap e y
        (clear ha q; omega)
noncomputable def takeO : Nat → O → O
  | 0, _ => z
  | _ + 1, z => z
  | i + 1, c e n r => c e n (takeO i r)
theorem take_stay {e : O} : ∀ {a : O}, NF a → takeO (stay e a) a = filt (fun x _ => decide (0 < cmp x e)) a
  | z, _ => rfl
  | c y n r, ha => by
    by_cases k : 0 < cmp y e
    · rw [stay_c_pos k, filt_c, if_pos (by simpa using k), takeO, take_stay ha.2.2.2]
    · rw [stay_c_neg k ha.2.2.1, filt_c, if_neg (by simpa using k), filt_above_z k ha.2.2.1]
      rfl
end O
end Nm
namespace Nm
namespace O
noncomputable def mx : O → Int
  | z => 0
  | c e n r => max n (max (mx e) (mx r))
theorem mx_c (e : O) (n : Int) (r : O) : mx (c e n r) = max n (max (mx e) (mx r)) := rfl
theorem mx_nonneg : ∀ a : O, 0 ≤ mx a
  | z => Int.le_refl _
  | c e n r => by have := mx_nonneg r; rw [mx_c]; omega
theorem mx_app : ∀ a b : O, mx (app a b) = max (mx a) (mx b)
  | z, b => by have := mx_nonneg b; show mx b = max 0 (mx b); omega
  | c e n r, b => by
    show mx (c e n (app r b)) = _
    rw [mx_c, mx_app r b, mx_c, Int.max_assoc, Int.max_assoc]
theorem mx_filt (p : O → Int → Bool) : ∀ a : O, mx (filt p a) ≤ mx a
  | z => Int.le_refl _
  | c e n r => by
    have := mx_filt p r
    rw [filt_c]
    split
    · rw [mx_c, mx_c]; omega
    · rw [mx_c]; omega
theorem same_le_mx (x : O) : ∀ {a : O}, NF a → same x a ≤ mx a
  | z, _ => Int.le_refl _
  | c e n r, h => by
    have h1 := same_le_mx x h.2.2.2
    rw [mx_c]
    by_cases k : e = x
    · subst k
      rw [same_self h.2.2.1]; (clear h h1; omega)
    · rw [same_ne k]; (clear h k; omega)
theorem dp_app : ∀ a b : O, dp (app a b) = max (dp a) (dp b)
  | z, b => by show dp b = max 0 (dp b); omega
  | c e n r, b => by
    show dp (c e n (app r b)) = _
    simp only [dp, dp_app r b]; rw [Nat.max_assoc]
theorem dp_filt (p : O → Int → Bool) : ∀ a : O, dp (filt p a) ≤ dp a
  | z => Nat.le_refl _
  | c e n r => by
    have := dp_filt p r
    rw [filt_c]
    split <;> simp only [dp] <;> omega
theorem dp_plus (a b : O) : dp (plusO a b) ≤ max (dp a) (dp b) := by
  cases b with
  | z => show dp a ≤ _; omega
  | c e n r =>
    show dp (app _ _) ≤ _
    rw [dp_app]
    have := dp_filt (fun x _ => decide (0 < cmp x e)) a
    simp only [dp]
    omega
structure Good (B : Int) (o : O) : Prop where
  nf : NF o
  sz : o.size ≤ 24
  mx : O.mx o ≤ B
end O
end Nm
namespace Nm
namespace O
theorem z_plus : ∀ a : O, plusO z a = a
  | z => rfl
  | c e n r => by
    simp [plusO, filt, app, same]
theorem plus_z (a : O) : plusO a z = a := rfl
theorem plus_c (a e : O) (n : Int) (r : O) : plusO a (c e n r) = app (filt (fun x _ => decide (0 < cmp x e)) a) (c e (same e a + n) r) := rfl
theorem z_lt {a : O} (h : a ≠ z) : cmp z a < 0 := by
  cases a with
  | z => exact absurd rfl h
  | c _ _ _ => simp [cmp]
theorem lt_plus {e f : O} (he : NF e) (hf : NF f) (h : f ≠ z) : cmp e (plusO e f) < 0 := by
  have := cmp_plus (b := z) he trivial hf
  rw [plus_z] at this
  have := z_lt h
  (clear he hf h; omega)
noncomputable def mulP (e : O) (n : Int) (r : O) : O → O
  | z => z
  | c f d t => if f = z then c e (n * d) r else c (plusO e f) d (mulP e n r t)
noncomputable def timesO : O → O → O
  | z, _ => z
  | c e n r, b => mulP e n r b
theorem mulP_c (e : O) (n : Int) (r f : O) (d : Int) (t : O) : mulP e n r (c f d t) = if f = z then c e (n * d) r else c (plusO e f) d (mulP e n r t) := rfl
theorem times_z (a : O) : timesO a z = z := by cases a <;> rfl
theorem mulP_Lt {e : O} {n : Int} {r : O} (he : NF e) (hr : Lt e r) {f : O} (hf : NF f) (h0 : f ≠ z) : ∀ {t : O}, NF t → Lt f t → Lt (plusO e f) (mulP e n r t)
  | z, _, _ => trivial
  | c g d u, ht, hl => by
    rw [mulP_c]
    split
    · exact ⟨lt_plus he hf h0, hr.mono (lt_plus he hf h0)⟩
    · exact ⟨by rw [cmp_plus he ht.1 hf]; exact hl.1, mulP_Lt he hr hf h0 ht.2.2.2 hl.2⟩
theorem one_le_mul {a b : Int} (ha : 1 ≤ a) (hb : 1 ≤ b) : 1 ≤ a * b := by
  have := Int.mul_le_mul ha hb (by (clear ha hb; omega)) (by (clear hb; omega))
  simpa using this
theorem mulP_NF {e : O} {n : Int} {r : O} (h : NF (c e n r)) : ∀ {t : O}, NF t → NF (mulP e n r t)
  | z, _ => trivial
  | c g d u, ht => by
    rw [mulP_c]
    split
    · exact ⟨h.1, one_le_mul h.2.1 ht.2.1, h.2.2.1, h.2.2.2⟩
    · rename_i hg
      exact ⟨h.1.plus ht.1, ht.2.1, mulP_Lt h.1 h.2.2.1 ht.1 hg ht.2.2.2 ht.2.2.1, mulP_NF h ht.2.2.2⟩
theorem NF.times {a b : O} (ha : NF a) (hb : NF b) : NF (timesO a b) := by
  cases a with
  | z => exact trivial
  | c e n r => exact mulP_NF ha hb
theorem Lt_z {t : O} (h : Lt z t) : t = z := by
  cases t with
  | z => rfl
  | c x _ _ =>
    have := h.1
    cases x <;> simp [cmp] at this
section
variable {e : O} {n : Int} {r : O}
end
end O
end Nm
namespace Nm
namespace O
section
variable {e : O} {n : Int} {r : O}
end
end O
end Nm
namespace Nm
namespace O
end O
end Nm
namespace Nm
namespace O
noncomputable def hw : O → Nat
  | z => 0
  | c e _ r => max (len r + 1) (max (hw e) (hw r))
theorem hw_c (e : O) (n : Int) (r : O) : hw (c e n r) = max (len r + 1) (max (hw e) (hw r)) := rfl
theorem len_le_hw : ∀ a : O, len a ≤ hw a
  | z => Nat.le_refl _
  | c e n r => by rw [hw_c]; simp only [len]; omega
theorem len_app' : ∀ a b : O, (app a b).len = a.len + b.len
  | z, b => by simp [app, len]
  | c e n r, b => by have := len_app' r b; simp only [app, len]; omega
theorem len_filt' (p : O → Int → Bool) : ∀ a : O, (a.filt p).len ≤ a.len
  | z => Nat.le_refl _
  | c e n r => by
    have := len_filt' p r
    rw [filt_c]
    split <;> simp only [len] <;> omega
theorem hw_app : ∀ a b : O, hw (app a b) ≤ max (len a + len b) (max (hw a) (hw b))
  | z, b => by show hw b ≤ _; omega
  | c e n r, b => by
    have ih := hw_app r b
    show hw (c e n (app r b)) ≤ _
    have l0 : len (c e n r) = len r + 1 := rfl
    have b1 : hw e ≤ hw (c e n r) := Nat.le_trans (Nat.le_max_left _ _) (Nat.le_max_right _ _)
    have b2 : hw r ≤ hw (c e n r) := Nat.le_trans (Nat.le_max_right _ _) (Nat.le_max_right _ _)
    have c1 : len (c e n r) + len b ≤ max (len (c e n r) + len b) (max (hw (c e n r)) (hw b)) := Nat.le_max_left _ _
    have c2 : hw (c e n r) ≤ max (len (c e n r) + len b) (max (hw (c e n r)) (hw b)) := Nat.le_trans (Nat.le_max_left _ _) (Nat.le_max_right _ _)
    have c3 : hw b ≤ max (len (c e n r) + len b) (max (hw (c e n r)) (hw b)) := Nat.le_trans (Nat.le_max_right _ _) (Nat.le_max_right _ _)
    generalize max (len (c e n r) + len b) (max (hw (c e n r)) (hw b)) = R at c1 c2 c3 ⊢
    rw [hw_c, len_app']
    refine Nat.max_le.mpr ⟨by (clear ih b1 b2 c2 c3; omega), Nat.max_le.mpr ⟨Nat.le_trans b1 c2, Nat.le_trans ih (Nat.max_le.mpr ⟨by (clear ih b1 b2 c2 c3; omega), Nat.max_le.mpr ⟨Nat.le_trans b2 c2, c3⟩⟩)⟩⟩
theorem hw_filt (p : O → Int → Bool) : ∀ a : O, hw (filt p a) ≤ hw a
  | z => Nat.le_refl _
  | c e n r => by
    have ih := hw_filt p r
    have h := len_filt' p r
    rw [filt_c]
    split
    · rw [hw_c, hw_c]; omega
    · rw [hw_c]; (clear h; omega)
theorem hw_plus (a b : O) : hw (plusO a b) ≤ hw a + hw b := by
  cases b with
  | z => show hw a ≤ _; omega
  | c e n r =>
    rw [plus_c]
    have h1 := hw_app (filt (fun x _ => decide (0 < cmp x e)) a) (c e (same e a + n) r)
    have h2 := hw_filt (fun x _ => decide (0 < cmp x e)) a
    have h3 := len_filt' (fun x _ => decide (0 < cmp x e)) a
    have h4 := len_le_hw a
    have h5 := len_le_hw (c e n r)
    have e1 : hw (c e (same e a + n) r) = hw (c e n r) := rfl
    have e2 : len (c e (same e a + n) r) = len (c e n r) := rfl
    rw [e1, e2] at h1
    exact Nat.le_trans h1 (Nat.max_le.mpr ⟨by (clear h1 h2; omega), Nat.max_le.mpr ⟨by (clear h1 h3 h4 h5 e2; omega), by (clear h1 h3 h4 h5 e1 e2; omega)⟩⟩)
theorem len_mul (e : O) (n : Int) (r : O) : ∀ b : O, (mulP e n r b).len ≤ b.len + r.len
  | z => by simp [mulP, len]
  | c f d t => by
    have ih := len_mul e n r t
    rw [mulP_c]
    split <;> simp only [len] <;> omega
theorem hw_mul (e : O) (n : Int) (r : O) : ∀ b : O, hw (mulP e n r b) ≤ hw (c e n r) + hw b
  | z => by simp [mulP, hw]
  | c f d t => by
    have ih := hw_mul e n r t
    have h1 := hw_plus e f
    have h2 := len_mul e n r t
    have h3 := len_le_hw t
    have h4 : hw e ≤ hw (c e n r) := Nat.le_trans (Nat.le_max_left _ _) (Nat.le_max_right _ _)
    have h5 : len r + 1 ≤ hw (c e n r) := Nat.le_max_left _ _
    have h6 : hw f ≤ hw (c f d t) := Nat.le_trans (Nat.le_max_left _ _) (Nat.le_max_right _ _)
    have h7 : hw t ≤ hw (c f d t) := Nat.le_trans (Nat.le_max_right _ _) (Nat.le_max_right _ _)
    have h8 : len t + 1 ≤ hw (c f d t) := Nat.le_max_left _ _
    rw [mulP_c]
    split
    · have e1 : hw (c e (n * d) r) = hw (c e n r) := rfl
      rw [e1]; (clear ih h1 h2 h3 h4 h5 h6 h7 h8 e1; omega)
    · rw [hw_c (plusO e f)]
      exact Nat.max_le.mpr ⟨by (clear ih h1 h3 h4 h6 h7; omega), Nat.max_le.mpr ⟨by (clear ih h2 h3 h5 h7 h8; omega), by (clear h1 h2 h3 h4 h5 h6 h8; omega)⟩⟩
theorem hw_times (a b : O) : hw (timesO a b) ≤ hw a + hw b := by
  cases a with
  | z => show hw z ≤ _; exact Nat.zero_le _
  | c e n r => exact hw_mul e n r b
theorem dp_mul' (e : O) (n : Int) (r : O) : ∀ b : O, (mulP e n r b).dp ≤ max (dp (c e n r)) (b.dp)
  | z => by simp [mulP, dp]
  | c f d t => by
    have ih := dp_mul' e n r t
    have h := dp_plus e f
    have h1 : dp e + 1 ≤ dp (c e n r) := Nat.le_max_left _ _
    have h2 : dp f + 1 ≤ dp (c f d t) := Nat.le_max_left _ _
    have h3 : dp t ≤ dp (c f d t) := Nat.le_max_right _ _
    rw [mulP_c]
    split
    · have e1 : dp (c e (n * d) r) = dp (c e n r) := rfl
      rw [e1]; exact Nat.le_max_left _ _
    · refine Nat.max_le.mpr ⟨?_, Nat.le_trans ih (Nat.max_le.mpr ⟨Nat.le_max_left _ _, Nat.le_trans h3 (Nat.le_max_right _ _)⟩)⟩
      rcases Nat.le_total (dp e) (dp f) with k | k
      · rw [Nat.max_eq_right k] at h
        exact Nat.le_trans (Nat.succ_le_succ h) (Nat.le_trans h2 (Nat.le_max_right _ _))
      · rw [Nat.max_eq_left k] at h
        exact Nat.le_trans (Nat.succ_le_succ h) (Nat.le_trans h1 (Nat.le_max_left _ _))
theorem dp_times (a b : O) : dp (timesO a b) ≤ max (dp a) (dp b) := by
  cases a with
  | z => show dp z ≤ _; exact Nat.zero_le _
  | c e n r => exact dp_mul' e n r b
theorem mx_plus {a b : O} (ha : NF a) : mx (plusO a b) ≤ mx a + mx b := by
  have h0 := mx_nonneg a
  cases b with
  | z => show mx a ≤ mx a + 0; (clear ha h0; omega)
  | c e n r =>
    rw [plus_c, mx_app, mx_c, mx_c]
    have h2 := mx_filt (fun x _ => decide (0 < cmp x e)) a
    have h3 := same_le_mx e ha
    have h4 := mx_nonneg e
    have h5 := mx_nonneg r
    (clear ha h4; omega)
theorem mx_mul {e : O} {n : Int} {r : O} (h : NF (c e n r)) : ∀ {b : O}, NF b → mx (mulP e n r b) ≤ (mx (c e n r) + 1) * (mx b + 1)
  | z, _ => by
    have := mx_nonneg (c e n r)
    show (0 : Int) ≤ (mx (c e n r) + 1) * (0 + 1)
    (clear h; omega)
  | c f d t, hb => by
    have ih := mx_mul h hb.2.2.2
    have hp := mx_plus (a := e) (b := f) h.1
    have n0 := mx_nonneg (c e n r)
    have n1 := mx_nonneg f
    have n2 := mx_nonneg t
    have hd := hb.2.1
    have hn := h.2.1
    obtain ⟨A, hA⟩ : ∃ A, A = mx (c e n r) := ⟨_, rfl⟩
    rw [← hA] at ih n0 ⊢
    rw [mx_c] at hA
    have k1 : (A + 1) * (mx t + 1) ≤ (A + 1) * (mx (c f d t) + 1) := Int.mul_le_mul_of_nonneg_left (by rw [mx_c]; (clear h hb hp n1 n2 hd hn n0 ih hA; omega)) (by (clear h hb hp n1 n2 hd hn ih; omega))
    have k2 : (A + 1) * 1 + (mx (c f d t)) ≤ (A + 1) * (mx (c f d t) + 1) := by
      have : 1 * mx (c f d t) ≤ (A + 1) * mx (c f d t) := Int.mul_le_mul_of_nonneg_right (by (clear h hb hp n1 n2 hd hn ih k1; omega)) (mx_nonneg _)
      rw [Int.mul_add]
      (clear h hb hp n1 n2 hd hn n0 ih hA k1; omega)
    have k3 : n * d ≤ (A + 1) * (mx (c f d t) + 1) := Int.mul_le_mul (by (clear h hb hp n1 n2 hd hn n0 ih k1 k2; omega)) (by rw [mx_c]; (clear h hb hp n1 n2 hd hn n0 ih hA k1 k2; omega)) (by (clear h hb hp n1 n2 hn n0 ih hA k1 k2; omega)) (by (clear h hb hp n1 n2 hd hn ih k1 k2; omega))
    have k4 : mx (c f d t) = max d (max (mx f) (mx t)) := rfl
    rw [mulP_c]
    split
    · rw [mx_c]; (clear h hb hp n1 hn n0 ih k1; omega)
    · rw [mx_c]; (clear h hb n1 n2 hd hn k3; omega)
end O
end Nm
namespace Nm
namespace O
noncomputable def lessO : O → O
  | z => z
  | c e n z => if n = 1 then z else c e (n - 1) z
  | c e n (c e' n' r') => c e n (lessO (c e' n' r'))
noncomputable def lastE : O → O
  | z => z
  | c e _ z => e
  | c _ _ (c e' n' r') => lastE (c e' n' r')
noncomputable def Lim (a : O) : Prop := a ≠ z ∧ same z a = 0
inductive Lad : O → Int → O → Prop where
  | suc {a : O} {n : Int} (h0 : a ≠ z) (h : lastE a = z) : Lad a n (lessO a)
  | lim {a : O} {n : Int} {o : O} (h0 : a ≠ z) (h : Lim (lastE a)) (k : Lad (lastE a) n o) : Lad a n (app (lessO a) (c o 1 z))
  | one {a : O} {n : Int} (h0 : a ≠ z) (h : lastE a ≠ z) (h' : ¬ Lim (lastE a)) : Lad a n (app (lessO a) (if n = 0 then z else c (lessO (lastE a)) n z))
end O
end Nm
namespace Nm
namespace O
end O
end Nm
namespace Nm
namespace O
structure Rg (a b : O) (n : Int) : Prop where
  pos : 0 ≤ n
  pass : ∀ o, Lad a n o → cmp b o < 0
  least : 0 < n → ∀ o, Lad a (n - 1) o → ¬ cmp b o < 0
end O
end Nm
namespace Nm
namespace O
end O
end Nm
namespace Nm
namespace O
end O
end Nm
namespace Nm
namespace O
noncomputable def wh (m : Int) : O := if m = 0 then z else c z m z
theorem NF.wh {m : Int} (h : 0 ≤ m) : NF (wh m) := by
  unfold O.wh
  split
  · exact trivial
  · exact ⟨trivial, by omega, trivial, trivial⟩
theorem wh_pos {m : Int} (h : 0 < m) : wh m = c z m z := by unfold wh; rw [if_neg (by omega)]
end O
end Nm
namespace Nm
namespace O
noncomputable abbrev one : O := c z 1 z
noncomputable abbrev lim (b : O) : O := filt (fun y _ => decide (¬ y = z)) b
theorem times_mx {a b : O} (ha : NF a) (hb : NF b) : mx (timesO a b) ≤ (mx a + 1) * (mx b + 1) := by
  cases a with
  | z =>
    have := mx_nonneg b
    show (0 : Int) ≤ (0 + 1) * (mx b + 1)
    (clear hb ha; omega)
  | c e n r => exact mx_mul ha hb
end O
end Nm
namespace Nm
namespace O
section
variable {x : O} {n m : Int}
end
end O
end Nm
namespace Nm
namespace O
noncomputable abbrev w1 : O := c one 1 z
end O
end Nm
namespace Nm
namespace O
end O
end Nm
namespace Nm
namespace O
noncomputable def ot : O → Int
  | z => 0
  | c _ n r => max n (ot r)
end O
end Nm
namespace Nm
namespace O
end O
end Nm
namespace Nm
namespace O
noncomputable def val (b : Nat) : O → Nat
  | z => 0
  | c e n r => n.toNat * b ^ val b e + val b r
structure Wr (b : Nat) (a : O) : Prop where
  nf : NF a
  mx : O.mx a < b
end O
end Nm
namespace Nm
namespace O
noncomputable def tp (b : Nat) : O → Nat
  | z => 0
  | c e _ _ => val b e + 1
end O
end Nm
namespace Nm
namespace O
open Classical in
noncomputable def rep (b s : Nat) : O := if h : ∃ o, Wr b o ∧ val b o = s then choose h else z
noncomputable def tl (b : Nat) : Nat → O
  | 0 => z
  | s + 1 => c (rep b s) ((b : Int) - 1) (tl b s)
end O
end Nm
namespace Nm
namespace O
inductive Wy (b : Nat) : O → Prop where
  | z : Wy b z
  | c {a : O} (h0 : a ≠ O.z) (nf : NF a) (w : Wr b (lessO a)) (k : Wy b (lastE a)) : Wy b a
end O
end Nm
namespace Nm
namespace O
end O
end Nm
namespace Nm
namespace O
noncomputable def xb (b : Nat) : Nat := if b * b ≤ 55 then b else 54 / b + 1
noncomputable def topO (b : Nat) : O := if b < 56 then c (c z 1 z) (xb b : Int) z else c z 55 z
structure Rw (b k : Nat) (a : O) : Prop where
  wr : Wr (b + k) a
  top : Lt (topO b) a
  tp : O.tp (b + k) a ≤ 200
end O
end Nm
namespace Nm
namespace O
structure Hi (b : Nat) (a p e : O) (n : Int) : Prop where
  app : a = O.app p (c e n z)
  wp : Wr b p
  we : Wr b e
  n1 : 1 ≤ n
  n2 : n < b
  last : lastE a = e
  div : ∃ q, val b p = q * b ^ (val b e + 1)
  lt : p ≠ z → cmp e (lastE p) < 0
  dp : p.dp ≤ a.dp
  de : e.dp < a.dp
  top : ∀ x, Lt x a → Lt x p
end O
end Nm
namespace Nm
namespace O
end O
end Nm
namespace Nm
inductive Tr where
  | z
  | c (b r : Tr)
namespace Tr
noncomputable def pts : Tr → Nat
  | z => 1
  | c b r => pts b + pts r
noncomputable def dp : Tr → Nat
  | z => 0
  | c b r => max (dp b + 1) (dp r)
noncomputable def len : Tr → Nat
  | z => 0
  | c _ r => len r + 1
noncomputable def sm (f : Nat → Nat) : Nat → Nat
  | 0 => 0
  | n + 1 => sm f n + f n
structure Hang (n M : Nat) (ch : Nat → List Nat) (ds : Nat → Nat) : Prop where
  pos : 1 ≤ n
  d0 : ds 0 = 0
  in_ : ∀ v, v < n → ∀ j, j ∈ ch v → v < j ∧ j < n ∧ ds j = ds v + 1
  dp : ∀ v, v < n → ds v ≤ M
  sum : ∀ f : Nat → Nat, sm (fun v => ((ch v).map f).sum) n + f 0 = sm f n
  len : ∀ v, v < n → (ch v).length ≤ n
structure Grown (n M k : Nat) (ch : Nat → List Nat) (ds : Nat → Nat) (t : Nat → Tr) : Prop where
  pts : ∀ v, k ≤ v → v < n → Tr.pts (t v) = 1 + ((ch v).map fun j => Tr.pts (t j)).sum
  dp : ∀ v, k ≤ v → v < n → Tr.dp (t v) + ds v ≤ M
end Tr
end Nm
namespace Nm
namespace Tr
open O
noncomputable def nO : Tr → O
  | z => .z
  | c b r => mergeO (.c (nO b) 1 .z) (nO r)
noncomputable def app : Tr → Tr → Tr
  | z, u => u
  | c b r, u => c b (app r u)
noncomputable def getT : Tr → Nat → Option Tr
  | z, _ => none
  | c b _, 0 => some b
  | c _ r, i + 1 => getT r i
noncomputable def setT : Tr → Nat → Tr → Tr
  | z, _, _ => z
  | c _ r, 0, u => app u r
  | c b r, i + 1, u => c b (setT r i u)
noncomputable def reps (b : Tr) : Nat → Tr
  | 0 => z
  | n + 1 => c b (reps b n)
noncomputable def cutT (m : Nat) : Tr → List Nat → Tr
  | t, [] => t
  | t, [i] => setT t i z
  | t, [i, j] => match getT t i with
    | some b => setT t i (reps (setT b j z) (1 + m))
    | none => t
  | t, i :: j :: k :: w => match getT t i with
    | some b => setT t i (c (cutT m b (j :: k :: w)) z)
    | none => t
end Tr
end Nm
namespace Nm
namespace Tr
open O
end Tr
end Nm
namespace Nm
namespace Tr
open O
end Tr
end Nm
namespace Nm
namespace Tr
end Tr
end Nm
namespace Nm
namespace Tr
open O
end Tr
end Nm
namespace Nm
namespace Tr
noncomputable def isz : Tr → Bool
  | z => true
  | c _ _ => false
noncomputable def bare : Tr → Nat
  | z => 0
  | c b r => (if isz b = true then 1 else bare b) + bare r
end Tr
end Nm
namespace Nm
namespace O
inductive Ru (n : Int) : O → O → Prop
  | less {a : O} : a ≠ .z → lastE a = .z → Ru n a (lessO a)
  | succ {a : O} : a ≠ .z → lastE a ≠ .z → lastE (lastE a) = .z → Ru n a (O.app (lessO a) (.c (lessO (lastE a)) n .z))
  | lim {a o : O} : a ≠ .z → lastE a ≠ .z → lastE (lastE a) ≠ .z → Ru n (lastE a) o → Ru n a (O.app (lessO a) (.c o 1 .z))
end O
namespace Tr
open O
noncomputable def LeastAt (t : Tr) (i : Nat) (b : Tr) : Prop := getT t i = some b ∧ ∀ j d, getT t j = some d → (j ≤ i → 0 ≤ cmp (nO d) (nO b)) ∧ (i < j → 0 < cmp (nO d) (nO b))
noncomputable def Lst : Tr → List Nat → Prop
  | t, [] => t = z
  | t, i :: w => ∃ b, LeastAt t i b ∧ Lst b w
end Tr
end Nm
namespace Nm
namespace O
end O
end Nm
namespace Nm
namespace O
structure Bd (d s : Nat) (m : Int) (o : O) : Prop where
  nf : o.NF
  dp : o.dp ≤ d
  sz : o.size ≤ s
  mx : O.mx o ≤ m
end O
end Nm
namespace Nm
namespace O
end O
end Nm
namespace Nm
namespace O
end O
end Nm
namespace Nm
namespace O
end O
end Nm
namespace Nm
namespace O
end O
end Nm
namespace Nm
namespace O
noncomputable def e1 : O := c z 1 z
inductive Far (B k l : Nat) : Prop
  | two : B = 2 → k = 16 → l < 2 → Far B k l
  | three : B = 3 → k = 27 → l < 3 → Far B k l
end O
end Nm
namespace Nm
namespace O
end O
end Nm
namespace Nm
namespace O
inductive Dn (f : Nat → Int) (a : O) : List O → O → Prop where
  | one : Dn f a [a] a
  | step {os : List O} {b o : O} (h : Dn f a os b) (hb : b ≠ z) (l : Lad b (f (os.length - 1)) o) : Dn f a (os ++ [o]) o
end O
end Nm
namespace Nm
namespace Tr
instance decZ : (t : Tr) → Decidable (t = z)
  | z => .isTrue rfl
  | c _ _ => .isFalse (fun h => by cases h)
noncomputable def low : List Tr → Tr
  | [] => z
  | [t] => t
  | _ :: u :: l => low (u :: l)
noncomputable def step (ls : List Tr) (s : Nat) : Option (List Tr) :=
  if s = 40 ∧ low ls = z ∧ ls.length ≤ 41 then some (z :: ls)
  else if s = 41 then
    match ls with
    | t :: u :: l => some (u.app (c t z) :: l)
    | _ => none
  else none
structure Bg (ls : List Tr) : Prop where
  ne : ls ≠ []
  lo : low ls = z ∨ ∃ b, ls = [c b z]
  len : ls.length ≤ 42
noncomputable def rtS : List Nat → Bool → Int → Int → Option (Int × Int)
  | [], _, d, m => some (d, m)
  | s :: cs, f, d, m =>
    if ¬ (s = 40 ∨ s = 41) ∨ (f = false ∧ d = 0) then none
    else
      let d' := d + 1 - 2 * (if s = 41 then 1 else 0)
      if d' < 0 then none else rtS cs false d' (max m d')
noncomputable def rt (l : List Nat) : Bool := match rtS l true 0 0 with
  | none => false
  | some (d, m) => decide (l ≠ []) && decide (d = 0) && decide (l.length ≤ 1200) && decide (m ≤ 41)
end Tr
end Nm
namespace Nm
namespace Tr
open O
inductive Fel (f : Nat → Nat) (t : Tr) : List Tr → Tr → Prop
  | one : Fel f t [t] t
  | step {ts : List Tr} {u : Tr} {w : List Nat} (h : Fel f t ts u) (hz : u ≠ z) (hw : w ≠ []) (hl : Lst u w) (hp : pts (cutT (f (ts.length - 1)) u w) ≤ 60) : Fel f t (ts ++ [cutT (f (ts.length - 1)) u w]) (cutT (f (ts.length - 1)) u w)
section
variable {f : Nat → Nat} {t u : Tr} {ts : List Tr}
end
end Tr
end Nm
namespace Nm
set_option linter.all false
section
variable {α : Type} [DecidableEq α] {β : Type}
noncomputable def gT (t : List (α × β)) (k : α) : Option β := (t.find? fun p => decide (p.1 = k)).map (·.2)
noncomputable abbrev Tab (α : Type) := List (α × List α)
noncomputable def oth (T : Tab α) (k : α) : List α := (gT T k).getD []
noncomputable def mxs (R : List (α × Nat)) : List α → Option Nat
  | [] => some 0
  | o :: l => match gT R o, mxs R l with
    | some x, some y => some (max (x + 1) y)
    | _, _ => none
noncomputable def Cl (T : Tab α) (R : List (α × Nat)) : Prop := ∀ k r, gT R k = some r → mxs R (oth T k) = some r
noncomputable def Kind (T : Tab α) (k : α) : Prop := k ∈ T.map (·.1) ∨ ∃ e, e ∈ T ∧ k ∈ e.2
structure RankOk (T : Tab α) (R : List (α × Nat)) : Prop where
  nd : (R.map (·.1)).Nodup
  cl : Cl T R
  ks : ∀ k, k ∈ R.map (·.1) ↔ Kind T k
noncomputable def wt (p : α → Bool) : Tab α → Nat
  | [] => 0
  | e :: T => (if p e.1 = true then e.2.length + 2 else 0) + wt p T
end
end Nm
namespace Nm
open O
mutual
inductive Rw (α : Type) where
  | set (b : α) (n : Int)
  | copy (b o : α)
  | add (b o : α)
  | less (b : α)
  | times (b : α) (rs : Rws α)
  | count (rs : Rws α) (n : Int)
inductive Rws (α : Type) where
  | nil
  | cons (r : Rw α) (rs : Rws α)
end
noncomputable def om : O := .c (O.wh 1) 1 .z
section
variable {α : Type}
mutual
noncomputable def Rw.wt : Rw α → O
  | .times _ rs => O.timesO (O.plusO rs.wt (O.wh 1)) om
  | .count rs n => O.plusO (O.timesO (O.plusO rs.wt (O.wh 1)) (O.wh n)) (O.wh 1)
  | _ => O.wh 1
noncomputable def Rws.wt : Rws α → O
  | .nil => .z
  | .cons r rs => O.plusO rs.wt r.wt
end
noncomputable def Rws.rnd (rs : Rws α) : O := O.plusO rs.wt (O.wh 1)
mutual
noncomputable def Rw.hb : Rw α → Nat
  | .times _ rs => rs.hb + 2
  | .count rs _ => rs.hb + 3
  | _ => 1
noncomputable def Rws.hb : Rws α → Nat
  | .nil => 0
  | .cons r rs => rs.hb + r.hb
end
mutual
noncomputable def Rw.mb : Rw α → Nat
  | .times _ rs => (rs.mb + 2) * 2
  | .count rs n => (rs.mb + 2) * (n.toNat + 1) + 1
  | _ => 1
noncomputable def Rws.mb : Rws α → Nat
  | .nil => 0
  | .cons r rs => rs.mb + r.mb
end
mutual
noncomputable def Rw.lb : Rw α → Nat
  | .count rs _ => rs.lb + 2
  | _ => 1
noncomputable def Rws.lb : Rws α → Nat
  | .nil => 0
  | .cons r rs => rs.lb + r.lb
end
mutual
noncomputable def Rw.nn : Rw α → Prop
  | .times _ rs => rs.nn
  | .count rs n => rs.nn ∧ 0 ≤ n
  | _ => True
noncomputable def Rws.nn : Rws α → Prop
  | .nil => True
  | .cons r rs => r.nn ∧ rs.nn
end
mutual
noncomputable def Rw.dt : Rw α → Nat
  | .times _ rs => rs.dt + 1
  | .count rs _ => rs.dt + 1
  | _ => 0
noncomputable def Rws.dt : Rws α → Nat
  | .nil => 0
  | .cons r rs => max r.dt rs.dt
end
noncomputable def Rws.L : Rws α → List (Rw α)
  | .nil => []
  | .cons r rs => r :: rs.L
noncomputable def Rws.of : List (Rw α) → Rws α
  | [] => .nil
  | r :: rs => .cons r (Rws.of rs)
structure Wb (o : O) (h m l : Nat) : Prop where
  nf : o.NF
  dp : o.dp ≤ 3
  hw : O.hw o ≤ h
  mx : O.mx o ≤ m
  ln : o.len ≤ l
theorem len_plus (a b : O) : (O.plusO a b).len ≤ a.len + b.len := by
  cases b with
  | z => show a.len ≤ _; omega
  | c e n r =>
    rw [O.plus_c, O.len_app']
    have := O.len_filt' (fun x _ => decide (0 < O.cmp x e)) a
    show _ + (r.len + 1) ≤ a.len + (r.len + 1)
    omega
theorem Wb.wh {n : Int} (h : 0 ≤ n) : Wb (O.wh n) 1 n.toNat 1 := by
  by_cases h0 : n = 0
  · subst h0
    exact ⟨trivial, Nat.zero_le _, Nat.zero_le _, Int.le_refl _, Nat.zero_le _⟩
  · rw [O.wh_pos (by omega)]
    refine ⟨⟨trivial, by omega, trivial, trivial⟩, Nat.le_of_ble_eq_true rfl, Nat.le_of_ble_eq_true rfl, ?_, Nat.le_of_ble_eq_true rfl⟩
    show max n (max 0 0) ≤ _
    (clear h0; omega)
theorem om_nf : O.NF om := ⟨O.NF.wh (by decide), by decide, trivial, trivial⟩
end
end Nm
namespace Nm
open O
noncomputable def rk (os : List O) (o : O) : Nat := (os.filter fun x => decide (cmp x o < 0)).length
theorem filter_le {α : Type} {p q : α → Bool} : ∀ {l : List α}, (∀ x, x ∈ l → p x = true → q x = true) → (l.filter p).length ≤ (l.filter q).length
  | [], _ => Nat.le_refl _
  | x :: l, h => by
    have ih := filter_le (p := p) (q := q) (l := l) fun y hy => h y (List.mem_cons_of_mem _ hy)
    have hx := h x List.mem_cons_self
    rw [List.filter_cons, List.filter_cons]
    by_cases e : p x = true
    · rw [if_pos e, if_pos (hx e)]
      simp only [List.length_cons]
      (clear h hx e; omega)
    · rw [if_neg e]
      split
      · simp only [List.length_cons]; (clear h hx e; omega)
      · exact ih
theorem filter_lt {α : Type} {p q : α → Bool} : ∀ {l : List α} {a : α}, a ∈ l → p a = false → q a = true → (∀ x, x ∈ l → p x = true → q x = true) → (l.filter p).length < (l.filter q).length
  | x :: l, a, ha, h1, h2, h => by
    rw [List.filter_cons, List.filter_cons]
    rcases List.mem_cons.mp ha with rfl | ha
    · have ih := filter_le (p := p) (q := q) (l := l) fun y hy => h y (List.mem_cons_of_mem _ hy)
      rw [if_neg (by rw [h1]; exact Bool.false_ne_true), if_pos h2]
      simp only [List.length_cons]
      (clear h1 h2 ha h; omega)
    · have ih := filter_lt (p := p) (q := q) ha h1 h2 fun y hy => h y (List.mem_cons_of_mem _ hy)
      have hx := h x List.mem_cons_self
      by_cases e : p x = true
      · rw [if_pos e, if_pos (hx e)]
        simp only [List.length_cons]
        (clear h1 h2 h ha hx e; omega)
      · rw [if_neg e]
        split
        · simp only [List.length_cons]; (clear h1 h2 h ha hx e; omega)
        · exact ih
theorem rk_lt {os : List O} {a b : O} (ha : a ∈ os) (h : cmp a b < 0) : rk os a < rk os b := by
  unfold rk
  refine filter_lt ha ?_ (decide_eq_true h) fun x _ hx => ?_
  · rw [cmp_self]; rfl
  · exact decide_eq_true (cmp_trans x a b (of_decide_eq_true hx) h)
theorem rk_len {os : List O} {a : O} (ha : a ∈ os) : rk os a < os.length := by
  have h := filter_lt (p := fun x => decide (cmp x a < 0)) (q := fun _ => true) ha (by rw [cmp_self]; rfl) rfl fun _ _ _ => rfl
  have e : (os.filter fun _ => true) = os := List.filter_eq_self.mpr fun _ _ => rfl
  unfold rk
  rw [e] at h
  exact h
theorem rk_iff {os : List O} {a b : O} (ha : a ∈ os) (hb : b ∈ os) : rk os a < rk os b ↔ cmp a b < 0 := by
  constructor
  · intro h
    rcases cmp_range a b with e | e | e
    · (clear ha hb h; omega)
    · rw [cmp_eq a b e] at h; (clear ha hb e; omega)
    · have : cmp b a < 0 := by rw [cmp_swap]; (clear ha hb h; omega)
      have := rk_lt hb this
      (clear ha hb e; omega)
  · exact rk_lt ha
theorem rk_inj {os : List O} {a b : O} (ha : a ∈ os) (hb : b ∈ os) (h : rk os a = rk os b) : a = b := by
  rcases cmp_range a b with e | e | e
  · have := rk_lt ha (show cmp a b < 0 by (clear ha hb h; omega)); (clear ha hb e; omega)
  · exact cmp_eq a b e
  · have := rk_lt hb (show cmp b a < 0 by rw [cmp_swap]; (clear ha hb h; omega)); (clear ha hb e; omega)
theorem perm_of {α : Type} [DecidableEq α] : ∀ {l m : List α}, l.Nodup → (∀ x, x ∈ l → x ∈ m) → m.length = l.length → l.Perm m
  | [], m, _, _, e => by rw [List.eq_nil_of_length_eq_zero e]
  | x :: l, m, hn, hs, e => by
    rw [List.nodup_cons] at hn
    have hx := hs x List.mem_cons_self
    have h1 := List.perm_cons_erase hx
    refine List.Perm.trans (List.Perm.cons x (perm_of (m := m.erase x) hn.2 (fun y hy => ?_) ?_)) h1.symm
    · exact (List.mem_erase_of_ne (fun (z : y = x) => hn.1 (by rw [← z]; exact hy))).mpr (hs y (List.mem_cons_of_mem _ hy))
    · rw [List.length_erase_of_mem hx, e]; rfl
noncomputable def Desc (l : List O) : Prop := l.Pairwise fun a b => cmp b a < 0
theorem desc_of {os : List O} {n : Nat} (hn : os.length = n) (hd : os.Nodup) {p : List Nat} (hp : (p.map fun i => (os.map (rk os)).getD i 0) = List.range n) (hi : ∀ i, i ∈ p → i < n) :
    Desc ((p.map fun i => os.getD i .z).reverse) ∧ ((p.map fun i => os.getD i .z).reverse).Perm os := by
  have hm : ∀ i, i ∈ p → os.getD i .z ∈ os := fun i h => by
    have hi' := hi i h
    rw [List.getD_eq_getElem?_getD, List.getElem?_eq_getElem (by (clear hd hp hi h; omega))]
    exact List.getElem_mem _
  have he : ∀ i, i ∈ p → (os.map (rk os)).getD i 0 = rk os (os.getD i .z) := fun i h => by
    have hi' := hi i h
    rw [List.getD_eq_getElem?_getD, List.getD_eq_getElem?_getD, List.getElem?_map, List.getElem?_eq_getElem (by (clear hd hp hi hm h; omega))]
    rfl
  have hr : (p.map fun i => os.getD i .z).map (rk os) = List.range n := by
    rw [List.map_map, ← hp]
    exact List.map_congr_left fun i h => (he i h).symm
  have hmem : ∀ x, x ∈ (p.map fun i => os.getD i .z) → x ∈ os := fun x hx => by
    obtain ⟨i, h1, rfl⟩ := List.mem_map.mp hx
    exact hm i h1
  generalize (p.map fun i => os.getD i .z) = asc at hr hmem
  have hlen : asc.length = n := by have := congrArg List.length hr; simpa using this
  have hpw : asc.Pairwise fun a b => cmp a b < 0 := by
    have h1 : (asc.map (rk os)).Pairwise (· < ·) := by rw [hr]; exact List.pairwise_lt_range
    rw [List.pairwise_map] at h1
    exact h1.imp_of_mem fun {a b} ha hb h => (rk_iff (hmem a ha) (hmem b hb)).mp h
  constructor
  · unfold Desc
    rw [List.pairwise_reverse]
    exact hpw
  · refine (List.reverse_perm asc).trans (perm_of ?_ hmem (by (clear hd hp hi hm he hr hmem hpw; omega)))
    exact hpw.imp fun {a b} h z => by rw [z, cmp_self] at h; (clear hn hd hp hi hm he hr hmem hlen hpw z; omega)
end Nm
namespace Nm
open O
mutual
inductive Rq (α : Type) where
  | set (b : α) (n : Int)
  | copy (b o : α)
  | add (b o : α)
  | less (b : α)
  | times (b : α) (rs : Rqs α)
  | count (rs : Rqs α) (n : Int)
  | whl (b : α) (hs : List (O × List α)) (rs : Rqs α)
  | bear (b : α) (hs : List (O × List α)) (rs : Rqs α) (o : O)
inductive Rqs (α : Type) where
  | nil
  | cons (r : Rq α) (rs : Rqs α)
end
section
variable {α : Type}
noncomputable def hgt : List (O × List α) → O
  | [] => .z
  | p :: _ => O.plusO p.1 (O.wh 1)
noncomputable def hpw (hs : List (O × List α)) : O := .c (hgt hs) 1 .z
mutual
noncomputable def Rq.wt : Rq α → O
  | .times _ rs => O.timesO (O.plusO rs.wt (O.wh 1)) om
  | .count rs n => O.plusO (O.timesO (O.plusO rs.wt (O.wh 1)) (O.wh n)) (O.wh 1)
  | .whl _ hs rs => O.plusO (O.timesO (O.plusO rs.wt (O.wh 2)) (hpw hs)) (O.wh 1)
  | .bear _ _ rs o => O.plusO (O.timesO (O.plusO rs.wt (O.wh 2)) o) (O.wh 1)
  | _ => O.wh 1
noncomputable def Rqs.wt : Rqs α → O
  | .nil => .z
  | .cons r rs => O.plusO rs.wt r.wt
end
noncomputable def Rqs.rnd (rs : Rqs α) : O := O.plusO rs.wt (O.wh 1)
noncomputable def Rqs.rnw (rs : Rqs α) : O := O.plusO rs.wt (O.wh 2)
mutual
noncomputable def Rq.hb : Rq α → Nat
  | .times _ rs => rs.hb + 2
  | .count rs _ => rs.hb + 3
  | .whl _ hs rs => rs.hb + hw (hpw hs) + 2
  | .bear _ _ rs o => rs.hb + hw o + 2
  | _ => 1
noncomputable def Rqs.hb : Rqs α → Nat
  | .nil => 0
  | .cons r rs => rs.hb + r.hb
end
mutual
noncomputable def Rq.mb : Rq α → Nat
  | .times _ rs => (rs.mb + 2) * 2
  | .count rs n => (rs.mb + 2) * (n.toNat + 1) + 1
  | .whl _ hs rs => (rs.mb + 3) * ((mx (hpw hs)).toNat + 1) + 1
  | .bear _ _ rs o => (rs.mb + 3) * ((mx o).toNat + 1) + 1
  | _ => 1
noncomputable def Rqs.mb : Rqs α → Nat
  | .nil => 0
  | .cons r rs => rs.mb + r.mb
end
mutual
noncomputable def Rq.lb : Rq α → Nat
  | .count rs _ => rs.lb + 2
  | .whl _ hs rs => match hs with
    | [] => rs.lb + 2
    | _ :: _ => 2
  | .bear _ _ rs o => rs.lb + 1 + o.len + 1
  | _ => 1
noncomputable def Rqs.lb : Rqs α → Nat
  | .nil => 0
  | .cons r rs => rs.lb + r.lb
end
noncomputable def Eok (d : Nat) (hs : List (O × List α)) : Prop := ∀ p, p ∈ hs → p.1.NF ∧ p.1.dp ≤ d ∧ O.hw p.1 ≤ 100
mutual
noncomputable def Rq.nn : Rq α → Prop
  | .times _ rs => rs.nn
  | .count rs n => rs.nn ∧ 0 ≤ n
  | .whl _ hs rs => rs.nn ∧ Eok 3 hs
  | .bear _ hs rs o => rs.nn ∧ Eok 3 hs ∧ o.NF ∧ o.dp ≤ 4
  | _ => True
noncomputable def Rqs.nn : Rqs α → Prop
  | .nil => True
  | .cons r rs => r.nn ∧ rs.nn
end
mutual
noncomputable def Rq.dt : Rq α → Nat
  | .times _ rs => rs.dt + 1
  | .count rs _ => rs.dt + 1
  | .whl _ _ rs => rs.dt + 1
  | .bear _ _ rs _ => rs.dt + 1
  | _ => 0
noncomputable def Rqs.dt : Rqs α → Nat
  | .nil => 0
  | .cons r rs => max r.dt rs.dt
end
noncomputable def Rqs.L : Rqs α → List (Rq α)
  | .nil => []
  | .cons r rs => r :: rs.L
noncomputable def Rqs.of : List (Rq α) → Rqs α
  | [] => .nil
  | r :: rs => .cons r (Rqs.of rs)
theorem Rqs.of_L : ∀ rs : Rqs α, Rqs.of rs.L = rs
  | .nil => rfl
  | .cons r rs => by rw [Rqs.L, Rqs.of, Rqs.of_L rs]
theorem Rqs.L_of : ∀ rs : List (Rq α), (Rqs.of rs).L = rs
  | [] => rfl
  | r :: rs => by rw [Rqs.of, Rqs.L, Rqs.L_of rs]
noncomputable def sumQ : List (Rq α) → O
  | [] => .z
  | r :: rs => O.plusO (sumQ rs) r.wt
theorem sumQ_of : ∀ rs : List (Rq α), (Rqs.of rs).wt = sumQ rs
  | [] => rfl
  | r :: rs => by rw [Rqs.of, Rqs.wt, sumQ, sumQ_of rs]
structure Wq (o : O) (h m l : Nat) : Prop where
  nf : o.NF
  dp : o.dp ≤ 4
  hw : O.hw o ≤ h
  mx : O.mx o ≤ m
  ln : o.len ≤ l
theorem Wq.plus {a b : O} {h m l h' m' l' : Nat} (x : Wq a h m l) (y : Wq b h' m' l') : Wq (O.plusO a b) (h + h') (m + m') (l + l') := by
  refine ⟨x.nf.plus y.nf, ?_, ?_, ?_, ?_⟩
  · exact Nat.le_trans (O.dp_plus a b) (Nat.max_le.mpr ⟨x.dp, y.dp⟩)
  · have := O.hw_plus a b
    have := x.hw
    have := y.hw
    (clear x y; omega)
  · have := O.mx_plus (b := b) x.nf
    have := x.mx
    have := y.mx
    (clear x y; omega)
  · have := len_plus a b
    have := x.ln
    have := y.ln
    (clear x y; omega)
theorem Wq.z : Wq .z 0 0 0 := ⟨trivial, Nat.zero_le _, Nat.le_refl _, Int.le_refl _, Nat.le_refl _⟩
theorem Wq.of {o : O} {h m l : Nat} (x : Wb o h m l) : Wq o h m l := ⟨x.nf, Nat.le_succ_of_le x.dp, x.hw, x.mx, x.ln⟩
theorem Wq.wh {n : Int} (h : 0 ≤ n) : Wq (O.wh n) 1 n.toNat 1 := .of (.wh h)
theorem len_mulP (e : O) (n : Int) (r : O) : ∀ b : O, (O.mulP e n r b).len ≤ r.len + 1 + b.len
  | .z => Nat.zero_le _
  | .c f d t => by
    rw [O.mulP_c]
    split
    · show r.len + 1 ≤ r.len + 1 + (t.len + 1); omega
    · have := len_mulP e n r t
      show (O.mulP e n r t).len + 1 ≤ r.len + 1 + (t.len + 1)
      omega
theorem len_times (a b : O) : (O.timesO a b).len ≤ a.len + b.len := by
  cases a with
  | z => exact Nat.zero_le _
  | c e n r => exact len_mulP e n r b
theorem Wq.times {a b : O} {h m l : Nat} (x : Wq a h m l) (hb : b.NF) (hd : b.dp ≤ 4) {k : Nat} (hk : (O.timesO a b).len ≤ k) : Wq (O.timesO a b) (h + O.hw b) ((m + 1) * ((O.mx b).toNat + 1)) k := by
  refine ⟨x.nf.times hb, ?_, ?_, ?_, hk⟩
  · exact Nat.le_trans (O.dp_times a b) (Nat.max_le.mpr ⟨x.dp, hd⟩)
  · have := O.hw_times a b
    have := x.hw
    (clear x hb hd hk; omega)
  · have h1 := O.times_mx x.nf hb
    have h2 := x.mx
    have h5 := O.mx_nonneg b
    have h3 : (O.mx a + 1) * (O.mx b + 1) ≤ ((m : Int) + 1) * (((O.mx b).toNat : Int) + 1) := Int.mul_le_mul (by (clear x hb hd hk h1 h5; omega)) (by (clear x hb hd hk h1 h2; omega)) (by (clear x hb hd hk h1 h2; omega)) (by (clear x hb hd hk h1 h2 h5; omega))
    have h4 : (((m + 1) * ((O.mx b).toNat + 1) : Nat) : Int) = ((m : Int) + 1) * (((O.mx b).toNat : Int) + 1) := by simp
    (clear x hb hd hk h2 h5; omega)
theorem Wq.omega {a : O} {h m l : Nat} (x : Wq a h m l) : Wq (O.timesO a om) (h + 1) ((m + 1) * 2) 1 := by
  refine x.times (b := om) om_nf (by decide) ?_
  cases a with
  | z => exact Nat.zero_le _
  | c e n r =>
    show (O.mulP e n r (.c (O.wh 1) 1 .z)).len ≤ 1
    rw [O.mulP_c, if_neg (by decide)]
    exact Nat.le_refl _
theorem Wq.many {a : O} {h m l : Nat} (x : Wq a h m l) {n : Int} (hn : 0 ≤ n) : Wq (O.timesO a (O.wh n)) (h + 1) ((m + 1) * (n.toNat + 1)) l := by
  have y := Wb.wh hn
  have hk : (O.timesO a (O.wh n)).len ≤ l := by
    by_cases h0 : n = 0
    · subst h0
      rw [show O.wh 0 = .z from rfl, O.times_z]
      exact Nat.zero_le _
    · rw [O.wh_pos (by (clear x y; omega))]
      cases a with
      | z => exact Nat.zero_le _
      | c e k r =>
        show (O.mulP e k r (.c .z n .z)).len ≤ l
        rw [O.mulP_c, if_pos rfl]
        exact x.ln
  have z := x.times y.nf (Nat.le_succ_of_le y.dp) hk
  refine ⟨z.nf, z.dp, Nat.le_trans z.hw (Nat.add_le_add_left y.hw _), Int.le_trans z.mx ?_, z.ln⟩
  have h5 := y.mx
  exact Int.ofNat_le.mpr (Nat.mul_le_mul_left _ (by (clear x hn y hk z; omega)))
theorem hgt_ok {hs : List (O × List α)} (h : Eok 3 hs) : (hgt hs).NF ∧ (hgt hs).dp ≤ 3 := by
  cases hs with
  | nil => exact ⟨trivial, Nat.zero_le _⟩
  | cons p hs =>
    obtain ⟨h1, h2, _⟩ := h p List.mem_cons_self
    have y := Wb.wh (n := 1) (by decide)
    exact ⟨h1.plus y.nf, Nat.le_trans (O.dp_plus p.1 (O.wh 1)) (Nat.max_le.mpr ⟨h2, y.dp⟩)⟩
theorem hpw_ok {hs : List (O × List α)} (h : Eok 3 hs) : (hpw hs).NF ∧ (hpw hs).dp ≤ 4 := by
  obtain ⟨h1, h2⟩ := hgt_ok h
  refine ⟨⟨h1, by decide, trivial, trivial⟩, ?_⟩
  show max ((hgt hs).dp + 1) 0 ≤ 4
  (clear h h1; omega)
theorem hgt_ne (p : O × List α) (hs : List (O × List α)) : hgt (p :: hs) ≠ .z := by
  show O.plusO p.1 (O.wh 1) ≠ .z
  rw [O.wh_pos (by decide), O.plus_c]
  intro h
  have := congrArg O.len h
  rw [O.len_app'] at this
  simp [O.len] at this
theorem len_hpw (a : O) (hs : List (O × List α)) : (O.timesO a (hpw hs)).len ≤ match hs with
    | [] => a.len
    | _ :: _ => 1 := by
  cases a with
  | z => exact Nat.zero_le _
  | c e n r =>
    cases hs with
    | nil =>
      show (O.mulP e n r (.c .z 1 .z)).len ≤ _
      rw [O.mulP_c, if_pos rfl]
      exact Nat.le_refl _
    | cons p hs =>
      show (O.mulP e n r (.c (hgt (p :: hs)) 1 .z)).len ≤ 1
      rw [O.mulP_c, if_neg (hgt_ne p hs)]
      exact Nat.le_refl _
mutual
theorem Rq.wq : ∀ r : Rq α, r.nn → Wq r.wt r.hb r.mb r.lb
  | .set _ _, _ => Wq.wh (n := 1) (by decide)
  | .copy _ _, _ => Wq.wh (n := 1) (by decide)
  | .add _ _, _ => Wq.wh (n := 1) (by decide)
  | .less _, _ => Wq.wh (n := 1) (by decide)
  | .times _ rs, h => by
    have := ((Rqs.wq rs h).plus (Wq.wh (n := 1) (by decide))).omega
    exact this
  | .count rs n, h => by
    have := (((Rqs.wq rs h.1).plus (Wq.wh (n := 1) (by decide))).many h.2).plus (Wq.wh (n := 1) (by decide))
    exact this
  | .whl _ hs rs, h => by
    obtain ⟨h1, h2⟩ := hpw_ok h.2
    have x := (Rqs.wq rs h.1).plus (Wq.wh (n := 2) (by decide))
    have y := (x.times h1 h2 (len_hpw _ hs)).plus (Wq.wh (n := 1) (by decide))
    refine ⟨y.nf, y.dp, ?_, y.mx, ?_⟩
    · refine Nat.le_trans y.hw ?_
      show _ ≤ rs.hb + O.hw (hpw hs) + 2
      (clear h h1 h2 x y; omega)
    · have h3 := y.ln
      cases hs with
      | nil =>
        have h4 := x.ln
        simp only at h3
        show _ ≤ rs.lb + 2
        exact Nat.le_trans h3 (by (clear x h h1 h2 y h3; omega))
      | cons p hs => exact h3
  | .bear _ _ rs o, h => by
    have x := (Rqs.wq rs h.1).plus (Wq.wh (n := 2) (by decide))
    have y := (x.times h.2.2.1 h.2.2.2 (Nat.le_trans (len_times _ o) (Nat.add_le_add_right x.ln _))).plus (Wq.wh (n := 1) (by decide))
    refine ⟨y.nf, y.dp, ?_, y.mx, y.ln⟩
    refine Nat.le_trans y.hw ?_
    show _ ≤ rs.hb + O.hw o + 2
    (clear h x y; omega)
theorem Rqs.wq : ∀ rs : Rqs α, rs.nn → Wq rs.wt rs.hb rs.mb rs.lb
  | .nil, _ => Wq.z
  | .cons r rs, h => (Rqs.wq rs h.2).plus (Rq.wq r h.1)
end
theorem Rqs.rb {rs : Rqs α} (h : rs.nn) : Wq rs.rnd (rs.hb + 1) (rs.mb + 1) (rs.lb + 1) := (rs.wq h).plus (Wq.wh (n := 1) (by decide))
theorem Rqs.rbw {rs : Rqs α} (h : rs.nn) : Wq rs.rnw (rs.hb + 1) (rs.mb + 2) (rs.lb + 1) := (rs.wq h).plus (Wq.wh (n := 2) (by decide))
noncomputable def mostO (o : O) (l : List O) : O := l.foldl (fun a x => if cmp x a = 1 then x else a) o
theorem most_ge : ∀ (l : List O) (o : O), mostO o l ∈ o :: l ∧ ∀ x, x ∈ o :: l → cmp x (mostO o l) ≤ 0
  | [], o => ⟨List.mem_cons_self, fun x hx => by rw [List.mem_singleton.mp hx]; show cmp o o ≤ 0; rw [cmp_self]; decide⟩
  | y :: l, o => by
    obtain ⟨h1, h2⟩ := most_ge l (if cmp y o = 1 then y else o)
    have e : mostO o (y :: l) = mostO (if cmp y o = 1 then y else o) l := rfl
    rw [e]
    have hm := h2 _ List.mem_cons_self
    refine ⟨?_, fun x hx => ?_⟩
    · rcases List.mem_cons.mp h1 with h | h
      · rw [h]
        split
        · exact List.mem_cons_of_mem _ List.mem_cons_self
        · exact List.mem_cons_self
      · exact List.mem_cons_of_mem _ (List.mem_cons_of_mem _ h)
    · have key : ∀ a b m : O, cmp a b ≤ 0 → cmp b m ≤ 0 → cmp a m ≤ 0 := fun a b m h3 h4 => by
        rcases cmp_range a b with e1 | e1 | e1
        · rcases cmp_range b m with e2 | e2 | e2
          · have := cmp_trans a b m (by (clear h1 h2 e hm hx h3 h4 e2; omega)) (by (clear h1 h2 e hm hx h3 h4 e1; omega)); (clear h1 h2 e hm hx h3 h4 e1 e2; omega)
          · rw [← cmp_eq b m e2]; exact h3
          · (clear h1 h2 e hm hx h3 e1; omega)
        · rw [cmp_eq a b e1]; exact h4
        · (clear h1 h2 e hm hx h4; omega)
      rcases List.mem_cons.mp hx with rfl | hx
      · refine key _ _ _ ?_ hm
        split
        · rename_i h; rw [cmp_swap, h]; decide
        · rw [cmp_self]; decide
      · rcases List.mem_cons.mp hx with rfl | hx
        · refine key _ _ _ ?_ hm
          split
          · rw [cmp_self]; decide
          · rename_i h
            rcases cmp_range x o with e1 | e1 | e1 <;> (clear key h1 h2 e hm hx; omega)
        · exact h2 x (List.mem_cons_of_mem _ hx)
theorem most_desc {o k : O} {l ks : List O} (hd : Desc (k :: ks)) (hm : ∀ x, x ∈ k :: ks ↔ x ∈ o :: l) : mostO o l = k := by
  obtain ⟨h1, h2⟩ := most_ge l o
  have h3 := h2 k ((hm k).mp List.mem_cons_self)
  have h4 := (hm _).mpr h1
  rcases List.mem_cons.mp h4 with h | h
  · exact h
  · have h5 := (List.pairwise_cons.mp hd).1 _ h
    have h6 := cmp_swap (mostO o l) k
    (clear hd hm h1 h2 h4 h; omega)
noncomputable def insO (o : O) : List O → List O
  | [] => [o]
  | x :: l => if cmp o x = 0 then x :: l else if cmp o x = 1 then o :: x :: l else x :: insO o l
theorem mem_insO {x o : O} : ∀ {l : List O}, x ∈ insO o l ↔ x = o ∨ x ∈ l
  | [] => by simp [insO]
  | y :: l => by
    unfold insO
    split
    · rename_i h
      have := cmp_eq o y h
      subst this
      simp
    · split
      · simp
      · rw [List.mem_cons, List.mem_cons, mem_insO (l := l)]
        constructor
        · rintro (h | h | h)
          · exact .inr (.inl h)
          · exact .inl h
          · exact .inr (.inr h)
        · rintro (h | h | h)
          · exact .inr (.inl h)
          · exact .inl h
          · exact .inr (.inr h)
theorem Desc.insO {o : O} : ∀ {l : List O}, Desc l → Desc (insO o l)
  | [], _ => List.pairwise_singleton _ _
  | y :: l, h => by
    obtain ⟨h1, h2⟩ := List.pairwise_cons.mp h
    unfold Nm.insO
    split
    · exact h
    · rename_i e0
      split
      · rename_i e1
        refine List.pairwise_cons.mpr ⟨fun x hx => ?_, h⟩
        have e2 : cmp y o < 0 := by rw [cmp_swap, e1]; decide
        rcases List.mem_cons.mp hx with rfl | hx
        · exact e2
        · exact cmp_trans x y o (h1 x hx) e2
      · rename_i e1
        refine List.pairwise_cons.mpr ⟨fun x hx => ?_, Desc.insO h2⟩
        rcases mem_insO.mp hx with rfl | hx
        · rcases cmp_range x y with e | e | e <;> (clear h h1 h2 hx; omega)
        · exact h1 x hx
noncomputable def descO (l : List O) : List O := l.foldr insO []
theorem mem_descO {x : O} : ∀ {l : List O}, x ∈ descO l ↔ x ∈ l
  | [] => Iff.rfl
  | y :: l => by
    show x ∈ insO y (descO l) ↔ _
    rw [mem_insO, mem_descO (l := l), List.mem_cons]
theorem desc_descO : ∀ l : List O, Desc (descO l)
  | [] => List.Pairwise.nil
  | _ :: l => (desc_descO l).insO
theorem Desc.uniq : ∀ {l m : List O}, Desc l → Desc m → (∀ x, x ∈ l ↔ x ∈ m) → l = m
  | [], [], _, _, _ => rfl
  | [], y :: m, _, _, h => (nomatch (h y).mpr List.mem_cons_self)
  | x :: l, [], _, _, h => (nomatch (h x).mp List.mem_cons_self)
  | x :: l, y :: m, h1, h2, h => by
    obtain ⟨a1, a2⟩ := List.pairwise_cons.mp h1
    obtain ⟨b1, b2⟩ := List.pairwise_cons.mp h2
    have e : x = y := by
      rcases List.mem_cons.mp ((h x).mp List.mem_cons_self) with e | e
      · exact e
      · rcases List.mem_cons.mp ((h y).mpr List.mem_cons_self) with e' | e'
        · exact e'.symm
        · have p := b1 x e
          have q := a1 y e'
          rw [cmp_swap] at q
          (clear h1 h2 h a1 a2 b1 b2 e e'; omega)
    subst e
    have := Desc.uniq (l := l) (m := m) a2 b2 fun z => by
      constructor
      · intro hz
        rcases List.mem_cons.mp ((h z).mp (List.mem_cons_of_mem _ hz)) with rfl | e
        · have := a1 z hz; rw [cmp_self] at this; (clear a2 b2 hz h1 a1 h2 h b1; omega)
        · exact e
      · intro hz
        rcases List.mem_cons.mp ((h z).mpr (List.mem_cons_of_mem _ hz)) with rfl | e
        · have := b1 z hz; rw [cmp_self] at this; (clear a2 b2 hz h1 a1 h2 h b1; omega)
        · exact e
    rw [this]
noncomputable def namesO (ms : List (O × α)) (o : O) : List α := (ms.filter fun m => decide (m.1 = o)).map (·.2)
theorem names_snoc (ms : List (O × α)) (m : O × α) (o : O) : namesO (ms ++ [m]) o = namesO ms o ++ (if m.1 = o then [m.2] else []) := by
  unfold namesO
  rw [List.filter_append, List.map_append]
  congr 1
  by_cases h : m.1 = o
  · rw [if_pos h, List.filter_cons_of_pos (by simpa using h)]; rfl
  · rw [if_neg h, List.filter_cons_of_neg (by simpa using h)]; rfl
theorem names_none {ms : List (O × α)} {o : O} (h : o ∉ ms.map (·.1)) : namesO ms o = [] := by
  unfold namesO
  rw [List.filter_eq_nil_iff.mpr fun m hm => by simp only [decide_eq_true_eq]; exact fun e => h (List.mem_map.mpr ⟨m, hm, e⟩)]
  rfl
noncomputable def hof (ms : List (O × α)) : List (O × List α) := (descO (ms.map (·.1))).map fun o => (o, namesO ms o)
theorem hof_as {ms : List (O × α)} {ks : List O} (h1 : Desc ks) (h2 : ∀ o, o ∈ ks ↔ o ∈ ms.map (·.1)) : (ks.map fun o => (o, namesO ms o)) = hof ms := by
  unfold hof
  rw [Desc.uniq h1 (desc_descO _) fun x => (h2 x).trans mem_descO.symm]
theorem hgt_hof (m : O × α) (ms : List (O × α)) : hgt (hof (m :: ms)) = O.plusO (mostO m.1 ((m :: ms).map (·.1))) (O.wh 1) := by
  have hd := desc_descO ((m :: ms).map (·.1))
  have hm : ∀ x, x ∈ descO ((m :: ms).map (·.1)) ↔ x ∈ m.1 :: (m :: ms).map (·.1) := fun x => by
    rw [mem_descO, List.map_cons]
    simp
  unfold hof
  cases e : descO ((m :: ms).map (·.1)) with
  | nil => exact absurd ((hm m.1).mpr List.mem_cons_self) (by rw [e]; exact fun h => nomatch h)
  | cons k ks =>
    rw [e] at hd hm
    rw [most_desc hd hm]
    rfl
theorem hof_mem {ms : List (O × α)} {p : O × List α} (h : p ∈ hof ms) : p.1 ∈ ms.map (·.1) := by
  obtain ⟨o, ho, rfl⟩ := List.mem_map.mp h
  exact mem_descO.mp ho
end
end Nm
namespace Nm
noncomputable abbrev PJ := Int × Int
end Nm
namespace Nm
open O
structure Tp (t : O) : Prop where
  nf : NF t
  ne : t ≠ z
  dp : t.dp ≤ 2
  hw : hw t ≤ 1
  mx : mx t ≤ 2
structure Pr (p : PJ) : Prop where
  a0 : 0 ≤ p.1
  a1 : p.1 ≤ 3
  b0 : 0 ≤ p.2
  b1 : p.2 ≤ 10 ^ 12
structure Lim (D H : Nat) (M : Int) (o : O) : Prop where
  nf : NF o
  dp : o.dp ≤ D
  hw : hw o ≤ H
  mx : mx o ≤ M
end Nm
namespace L2
open PySem PySem.Spec PyProof.Rows Nm
noncomputable def encP : O → List W
  | .z => []
  | .c e n r => .tup [.tup (encP e), .int n] :: encP r
noncomputable def enc (o : O) : W := .tup (encP o)
noncomputable def prt (e : O) (n : Int) : W := .tup [enc e, .int n]
theorem encP_z : encP .z = [] := rfl
theorem encP_c (e : O) (n : Int) (r : O) : encP (.c e n r) = prt e n :: encP r := rfl
theorem encP_length : ∀ a : O, (encP a).length = a.len
  | .z => rfl
  | .c e n r => by rw [encP_c, List.length_cons, encP_length r]; rfl
theorem prt_flat {e : O} {n : Int} (h : W.flats (encP e) = true) : (prt e n).flat = true := by
  simp [prt, enc, W.flat, W.flats, h]
theorem encP_flat : ∀ a : O, W.flats (encP a) = true
  | .z => by simp [encP, W.flats]
  | .c e n r => by
    rw [encP_c]
    simp [W.flats, prt_flat (encP_flat e), encP_flat r]
theorem enc_flat (a : O) : (enc a).flat = true := by simp [enc, W.flat, encP_flat a]
theorem encP_dep : ∀ a : O, W.deps (encP a) ≤ 2 * a.dp
  | .z => by simp [encP, W.deps]
  | .c e n r => by
    have h1 := encP_dep e
    have h2 := encP_dep r
    rw [encP_c]
    simp only [W.deps, prt, enc, W.dep, O.dp]
    omega
theorem enc_dep (a : O) : (enc a).dep ≤ 2 * a.dp + 1 := by
  have := encP_dep a
  simp only [enc, W.dep]
  omega
theorem encP_eq : ∀ a b : O, W.eqs (encP a) (encP b) = decide (a = b)
  | .z, .z => by simp [encP, W.eqs]
  | .z, .c _ _ _ => by simp [encP, W.eqs]
  | .c _ _ _, .z => by simp [encP, W.eqs]
  | .c e n r, .c e' n' r' => by
    have h1 := encP_eq e e'
    have h2 := encP_eq r r'
    simp only [encP, W.eqs, W.eq_tup, W.eq_int, h1, h2, Bool.and_true]
    rw [Bool.eq_iff_iff]
    simp only [Bool.and_eq_true, decide_eq_true_eq, beq_iff_eq, O.c.injEq]
    constructor
    · rintro ⟨⟨a, b⟩, c⟩; exact ⟨a, b, c⟩
    · rintro ⟨a, b, c⟩; exact ⟨⟨a, b⟩, c⟩
theorem enc_eq (a b : O) : (enc a).eq (enc b) = decide (a = b) := encP_eq a b
theorem prt_eq (e e' : O) (n n' : Int) : (prt e n).eq (prt e' n') = (decide (e = e') && decide (n = n')) := by
  have := enc_eq e e'
  simp only [prt, W.eq_tup, W.eq_int, W.eqs, this, Bool.and_true]
  congr 1
end L2
namespace L2
open PySem PySem.Spec PyProof.Rows Nm
theorem tup_eq (a b : O) : (W.tup (encP a)).eq (W.tup (encP b)) = decide (a = b) := enc_eq a b
theorem tup_flat (a : O) : (W.tup (encP a)).flat = true := enc_flat a
theorem tup_dep (a : O) : (W.tup (encP a)).dep ≤ 2 * a.dp + 1 := enc_dep a
theorem encP_inj {a b : O} (h : encP a = encP b) : a = b := by
  have := encP_eq a b
  rw [h, W.eqs_refl _ (encP_flat b)] at this
  simpa using this.symm
theorem encP_app : ∀ a b : O, encP (a.app b) = encP a ++ encP b
  | .z, b => by simp [O.app, encP]
  | .c e n r, b => by
    show encP (.c e n (r.app b)) = _
    rw [encP_c, encP_c, encP_app r b]
    rfl
theorem atI0 {α : Type} (x : α) (xs : List α) : atI (x :: xs) 0 = some x := by
  simp [atI, ixN]
theorem atI1 {α : Type} (x y : α) (xs : List α) : atI (x :: y :: xs) 1 = some y := by
  have h : (1 : Int) < ((xs.length : Int) + 1 + 1) := by omega
  simp [atI, ixN, h]
theorem int_flat (i : Int) : (W.int i).flat = true := by simp [W.flat]
theorem int_dep (i : Int) : (W.int i).dep = 0 := by simp [W.dep]
theorem int_eq (i j : Int) : (W.int i).eq (W.int j) = (i == j) := rfl
theorem nil_flat : (W.tup []).flat = true := by simp [W.flat, W.flats]
theorem nil_dep : (W.tup []).dep = 1 := by simp [W.dep, W.deps]
theorem tup_nil_eq (a : O) : (W.tup (encP a)).eq (W.tup []) = decide (a = .z) := enc_eq a .z
theorem beqZ (i j : Int) : (i == j) = decide (i = j) := by
  by_cases h : i = j <;> simp [h]
theorem GLe.done {G : Gp} {q : Gp → Prop} (h : q G) : ∃ G0, GLe G0 G ∧ q G0 := ⟨G, GLe.refl G, h⟩
theorem loopW_ind {C : Gp → Prop} {g : WG} {tb : WS} {d : WEnds} (Iv : List W → WSt → Gp → Prop) (stop : ∀ τ G, Iv [] τ G → C G ∧ d.nx τ G)
    (step : ∀ w ws τ G (k : WSt → Gp → Prop), Iv (w :: ws) τ G → (∀ τ3 G3, Iv ws τ3 G3 → k τ3 G3) → C G ∧ g w τ G fun τ2 G2 => tb { d with nx := k, ct := k, bk := d.nx } τ2 G2) : ∀ ws τ G, Iv ws τ G → loopW C g tb d ws τ G
  | [], τ, G, h => stop τ G h
  | w :: ws, τ, G, h => step w ws τ G _ h fun τ3 G3 h3 => loopW_ind Iv stop step ws τ3 G3 h3
end L2
namespace L2
open PySem PySem.Spec PyProof.Rows Nm
theorem encP_get : ∀ (a : O) (i : Nat), (encP a)[i]? = (a.getP i).map fun p => prt p.1 p.2
  | .z, i => by simp [encP, O.getP]
  | .c e n r, 0 => by rw [encP_c]; rfl
  | .c e n r, i + 1 => by
    rw [encP_c]
    simpa [O.getP] using encP_get r i
theorem encP_at {a : O} {i : Nat} {e : O} {n : Int} (h : a.getP i = some (e, n)) : atI (encP a) (i : Int) = some (prt e n) := atI_nat (by rw [encP_get, h]; rfl)
theorem encP_take : ∀ (i : Nat) (a : O), (encP a).take i = encP (O.takeO i a)
  | 0, a => by simp [O.takeO, encP]
  | i + 1, .z => by simp [encP, O.takeO]
  | i + 1, .c e n r => by
    rw [encP_c, List.take_succ_cons, encP_take i r]
    rfl
theorem cut_to (xs : List W) (k : Nat) : cutW xs none (some (k : Int)) = xs.take k := by
  unfold cutW
  rw [HT.sIx_none, HT.sIx_nat, List.drop_zero, Nat.sub_zero]
  rcases Nat.le_total k xs.length with h | h
  · rw [Nat.min_eq_left h]
  · rw [Nat.min_eq_right h, List.take_length, List.take_of_length_le h]
theorem cut_from (xs : List W) (k : Nat) : cutW xs (some (k : Int)) none = xs.drop k := by
  unfold cutW
  rw [HT.sIx_none, HT.sIx_nat]
  rcases Nat.le_total k xs.length with h | h
  · rw [Nat.min_eq_left h]
    exact List.take_of_length_le (by rw [List.length_drop]; (clear h; omega))
  · rw [Nat.min_eq_right h, List.drop_length, List.drop_of_length_le h]
    simp
theorem cut_to1 (xs : List W) : cutW xs none (some (-1)) = xs.take (xs.length - 1) := by
  unfold cutW
  have e : HT.sIx xs.length xs.length (some (-1)) = xs.length - 1 := by
    show (if (-1 : Int) < 0 then ((-1 : Int) + (xs.length : Int)).toNat else min (-1 : Int).toNat xs.length) = _
    rw [if_pos (by omega)]
    omega
  rw [HT.sIx_none, e, List.drop_zero, Nat.sub_zero]
theorem take_init : ∀ a : O, O.takeO (a.len - 1) a = O.init a
  | .z => rfl
  | .c _ _ .z => rfl
  | .c e n (.c e' n' r') => by
    have h := take_init (.c e' n' r')
    simp only [O.len, Nat.add_sub_cancel] at h ⊢
    rw [O.takeO, h]
    simp [O.init]
theorem cut_init (a : O) : cutW (encP a) none (some (-1)) = encP (O.init a) := by rw [cut_to1, encP_length, encP_take, take_init]
theorem last_c : ∀ {a : O}, a ≠ .z → ∃ e n, O.last a = .c e n .z ∧ a.getP (a.len - 1) = some (e, n)
  | .z, h => absurd rfl h
  | .c e n .z, _ => ⟨e, n, rfl, rfl⟩
  | .c e n (.c e' n' r'), _ => by
    obtain ⟨x, m, h1, h2⟩ := last_c (a := .c e' n' r') (by simp)
    refine ⟨x, m, ?_, ?_⟩
    · rw [← h1]; simp [O.last]
    · simp only [O.len, Nat.add_sub_cancel] at h2 ⊢
      rw [← h2]
      simp [O.getP]
theorem atI_neg1 {xs : List W} {w : W} (h : xs[xs.length - 1]? = some w) : atI xs (-1) = some w := by
  have hl : xs.length - 1 < xs.length := (List.getElem?_eq_some_iff.mp h).1
  unfold atI ixN
  rw [if_neg (by (clear h hl; omega)), if_pos (by (clear h; omega))]
  show xs[((-1 : Int) + (xs.length : Int)).toNat]? = some w
  rw [← h]
  congr 1
  (clear h; omega)
theorem encP_at_last {a : O} {e : O} {n : Int} (h : a.getP (a.len - 1) = some (e, n)) : atI (encP a) (-1) = some (prt e n) := atI_neg1 (by rw [encP_length, encP_get, h]; rfl)
theorem lts_encP : ∀ a b : O, W.ords (encP a) (encP b) = true ∧ W.lts (encP a) (encP b) = decide (O.cmp a b < 0)
  | .z, .z => by simp [encP, W.ords, W.lts, O.cmp]
  | .z, .c _ _ _ => by simp [encP, W.ords, W.lts, O.cmp]
  | .c _ _ _, .z => by simp [encP, W.ords, W.lts, O.cmp]
  | .c e n r, .c e' n' r' => by
    obtain ⟨o1, l1⟩ := lts_encP e e'
    obtain ⟨o2, l2⟩ := lts_encP r r'
    rw [encP_c, encP_c, W.ords, W.lts, prt_eq]
    by_cases h : (decide (e = e') && decide (n = n')) = true
    · rw [if_pos h, if_pos h]
      have h' : e = e' ∧ n = n' := by simpa using h
      obtain ⟨rfl, rfl⟩ := h'
      refine ⟨o2, ?_⟩
      rw [l2, O.cmp, if_neg (by rw [O.cmp_self]; simp), if_neg (by (clear o2 l2 o1 l1 h; omega)), if_neg (by (clear o2 l2 o1 l1 h; omega))]
    · rw [if_neg h, if_neg h]
      have ee : (W.tup (encP e)).eq (W.tup (encP e')) = decide (e = e') := tup_eq e e'
      unfold prt enc
      rw [W.ord, W.lt, W.ords, W.lts, ee]
      by_cases q : e = e'
      · subst q
        rw [if_pos (by simp), if_pos (by simp), W.ords, W.lts]
        have hn : ¬ n = n' := fun z => h (by simp [z])
        rw [int_eq, if_neg (by simpa using hn), if_neg (by simpa using hn), W.ord, W.lt]
        refine ⟨rfl, ?_⟩
        rw [O.cmp, if_neg (by rw [O.cmp_self]; simp)]
        by_cases k : n < n'
        · rw [if_pos k]; simp [k]
        · rw [if_neg k, if_pos (by (clear o2 l2 o1 l1 h ee; omega))]; simp [k]
      · rw [if_neg (by simpa using q), if_neg (by simpa using q), W.ord, W.lt]
        refine ⟨o1, ?_⟩
        rw [l1, O.cmp, if_pos (fun z => q (O.cmp_eq _ _ z))]
theorem encP_deps (a : O) (h : a.dp ≤ 70) : W.deps (encP a) ≤ 149 := by
  have := encP_dep a
  omega
end L2
namespace L2
open PySem PySem.Spec PyProof.Rows Nm
noncomputable def Df (K : PySem.W.Frag) (mg : Str → Option Value) (x : Str) (st : Stmt) (ps : List Str) : Prop := ∃ (f : Addr) (fd : FuncData), Fun K x x st f fd ∧ Binds K fd ps [] ∧ mg x = some (.ref f)
theorem Df.fx {P : Program} {w : World} {K : PySem.W.Frag} {mg : Str → Option Value} {base : Heap} {x : Str} {st : Stmt} {ps : List Str} {k : Nat} {sp : WSp} (D : Df K mg x st ps) (h : ∀ (f : Addr) (fd : FuncData), Fun K x x st f fd → WFn P w K mg base k f fd ps sp) : Fx P w K mg base x ps k sp := by
  obtain ⟨f, fd, F, b, m⟩ := D
  exact ⟨f, fd, h f fd F, m, F.kp, b⟩
theorem scr_of {K : PySem.W.Frag} {H : Hp} {a : Addr} {ns : List Int} (hO : Only H) (hS : SqL K H a (ns.map V.int)) : Scr K H a ns := by
  rcases hS with (h | h) | h
  · rcases hO a with z | ⟨o, xs, z⟩
    · rw [z] at h; cases h
    · rw [z] at h; cases h
  · exact .inl h
  · exact .inr h
theorem mod_in {i j : Int} (h : 0 < j) : 0 ≤ i % j ∧ i % j < j := ⟨Int.emod_nonneg _ (by omega), Int.emod_lt_of_pos _ h⟩
theorem cpow10 (j : Int) : CPow 10 j = (0 ≤ j ∧ j ≤ 1000000) := by
  unfold CPow
  have : (10 : Int).natAbs < 2 ^ 64 := by decide
  simp [this]
theorem seqU {t u : WS} {d : WEnds} {τ : WSt} {G : Gp} (h : ∀ U : WS, U = u → t { d with nx := U d } τ G) : wSeq t u d τ G := h u rfl
theorem updG_ne' {G : Gp} {a b : Addr} {g g' : GO} (h : G b = some g') (ha : G a = none) : updG G a g b = some g' := by
  rw [updG_ne (fun z => by rw [z, ha] at h; cases h)]; exact h
theorem len_filt (p : O → Int → Bool) : ∀ a : O, (a.filt p).len ≤ a.len
  | .z => Nat.le_refl _
  | .c e n r => by
    have := len_filt p r
    rw [O.filt_c]
    split <;> simp only [O.len] <;> omega
theorem tyN_int (G : Gp) (i : Int) : tyN G (.int i) = some "int" := rfl
theorem tyN_bl (G : Gp) (b : Bool) : tyN G (.bl b) = some "bool" := rfl
theorem tyN_tup (G : Gp) (ws : List W) : tyN G (.tup ws) = some "tuple" := rfl
theorem tyN_non (G : Gp) : tyN G .non = some "NoneType" := rfl
theorem subN_ii : subN "int" "int" = true := by decide
theorem subN_ib : subN "int" "bool" = false := by decide
theorem subN_it : subN "int" "tuple" = false := by decide
theorem subN_bi : subN "bool" "int" = true := by decide
theorem subN_bb : subN "bool" "bool" = true := by decide
theorem subN_bt : subN "bool" "tuple" = false := by decide
theorem subN_tt : subN "tuple" "tuple" = true := by decide
theorem subN_ti : subN "tuple" "int" = false := by decide
theorem subN_tb : subN "tuple" "bool" = false := by decide
theorem subN_ll : subN "list" "list" = true := by decide
theorem subN_nt : subN "NoneType" "tuple" = false := by decide
theorem cast_0 : ((0 : Nat) : Int) = 0 := rfl
theorem cast_1 : ((1 : Nat) : Int) = 1 := rfl
theorem cast_2 : ((2 : Nat) : Int) = 2 := rfl
theorem cast_3 : ((3 : Nat) : Int) = 3 := rfl
theorem atI2 {α : Type} (x y v : α) (xs : List α) : atI (x :: y :: v :: xs) 2 = some v := atI_nat (j := 2) rfl
theorem upW_drop (n i : Nat) (h : i < n) : (upW n).drop i = .int (i : Int) :: (upW n).drop (i + 1) := by
  have hl : i < (upW n).length := by simp [upW, h]
  rw [List.drop_eq_getElem_cons hl]
  congr 1
  simp [upW]
theorem loop_up {C : Gp → Prop} {g : WG} {tb : WS} {d : WEnds} {τ : WSt} {G : Gp} (n : Nat) (Iv : Nat → WSt → Gp → Prop) (h0 : Iv 0 τ G) (stop : ∀ τ G, Iv n τ G → C G ∧ d.nx τ G)
    (step : ∀ (i : Nat) τ G (k : WSt → Gp → Prop), i < n → Iv i τ G → (∀ τ3 G3, Iv (i + 1) τ3 G3 → k τ3 G3) → C G ∧ g (.int (i : Int)) τ G fun τ2 G2 => tb { d with nx := k, ct := k, bk := d.nx } τ2 G2) : loopW C g tb d (upW n) τ G := by
  refine loopW_ind (fun ws τ G => ∃ i, i ≤ n ∧ ws = (upW n).drop i ∧ Iv i τ G) ?_ ?_ _ _ _ ⟨0, Nat.zero_le _, rfl, h0⟩
  · rintro τ G ⟨i, hi, hw, hI⟩
    have : i = n := by
      rcases Nat.lt_or_ge i n with k | k
      · rw [upW_drop n i k] at hw; cases hw
      · (clear h0 stop step hw hI; omega)
    subst this
    exact stop τ G hI
  · rintro w ws τ G k ⟨i, hi, hw, hI⟩ hk
    have hlt : i < n := by
      rcases Nat.lt_or_ge i n with j | j
      · exact j
      · rw [List.drop_of_length_le (by simp [upW]; assumption)] at hw; cases hw
    rw [upW_drop n i hlt] at hw
    cases hw
    exact step i τ G k hlt hI fun τ3 G3 h3 => hk τ3 G3 ⟨i + 1, hlt, rfl, h3⟩
noncomputable def AllP (Pd : O → Int → Prop) : O → Prop
  | .z => True
  | .c e n r => Pd e n ∧ AllP Pd r
theorem AllP.imp {Pd Pd' : O → Int → Prop} (h : ∀ e n, Pd e n → Pd' e n) : ∀ {a : O}, AllP Pd a → AllP Pd' a
  | .z, _ => trivial
  | .c _ _ _, k => ⟨h _ _ k.1, AllP.imp h k.2⟩
theorem allP_hw : ∀ a : O, AllP (fun e _ => e.dp < a.dp ∧ O.hw e ≤ O.hw a) a
  | .z => trivial
  | .c e n r => ⟨by rw [O.hw_c]; simp only [O.dp]; omega, (allP_hw r).imp fun x m h => by rw [O.hw_c]; simp only [O.dp]; omega⟩
noncomputable def mapP (p : O → Int → Bool) (f : O → Int → W) : O → List W
  | .z => []
  | .c e n r => if p e n then f e n :: mapP p f r else mapP p f r
theorem comp_enc {C : Gp → Prop} {tt : WT} {te : WE} {i : Nat} {τ0 : WSt} {G : Gp} {q : List W → Gp → Prop} {Pd : O → Int → Prop} (p : O → Int → Bool) (f : O → Int → W) (hC : C G) : ∀ {a : O} {acc : List W} {τ : WSt}, AllP Pd a →
    (∀ e n, Pd e n → ∀ k : Bool → Gp → Prop, k (p e n) G → tt (τ0.set i (some (prt e n))) G k) → (∀ e n, Pd e n → p e n = true → ∀ k : W → Gp → Prop, k (f e n) G → te (τ0.set i (some (prt e n))) G k) → acc.length + a.len ≤ 100000 → (∀ x, τ.set i x = τ0.set i x) →
    q (acc ++ mapP p f a) G → compW C (hName i) tt te (encP a) τ G acc q
  | .z, acc, τ, _, _, _, _, _, hq => ⟨hC, by simpa [mapP] using hq⟩
  | .c e n r, acc, τ, hP, ht, he, hl, hτ, hq => by
    rw [encP_c]
    refine ⟨hC, ?_⟩
    show tt (τ.set i (some (prt e n))) G _
    rw [hτ]
    refine ht e n hP.1 _ ?_
    have hτ' : ∀ x, (τ0.set i (some (prt e n))).set i x = τ0.set i x := fun x => List.set_set ..
    simp only [O.len] at hl
    rw [mapP] at hq
    cases hp : p e n with
    | true =>
      rw [if_pos rfl]
      refine he e n hP.1 hp _ ⟨by (clear hC hP ht he hτ hq hτ' hp; omega), ?_⟩
      rw [hp, if_pos rfl] at hq
      exact comp_enc p f hC hP.2 ht he (by rw [List.length_append]; simp; (clear hC hP ht he hτ hq hτ' hp; omega)) hτ' (by simpa using hq)
    | false =>
      rw [if_neg Bool.false_ne_true]
      rw [hp, if_neg Bool.false_ne_true] at hq
      exact comp_enc p f hC hP.2 ht he (by (clear hC hP ht he hτ hq hτ' hp; omega)) hτ' hq
end L2
namespace L2
open PySem PySem.Spec PyProof.Rows Nm
noncomputable def cap : Int := (10 ^ 172) ^ 7
theorem cap_big {i : Int} (h0 : 0 ≤ i) (h : i ≤ cap) : i.natAbs < 2 ^ 4000 := by
  have h2 : cap < ((2 ^ 4000 : Nat) : Int) := by decide +kernel
  generalize (2 : Nat) ^ 4000 = B at h2 ⊢
  omega
theorem bigC {i j : Int} (h1 : 0 ≤ i) (h2 : i ≤ cap) (h3 : 0 ≤ j) (h4 : j ≤ cap) : BigM i j := ⟨cap_big h1 h2, cap_big h3 h4⟩
end L2
namespace Nm
namespace O
end O
end Nm
namespace L2
open PySem PySem.Spec PyProof.Rows Nm
section
variable {P : Program} {w : World} {K : PySem.W.Frag} {mg : Str → Option Value} {base : Heap} {x : Str} {st : Stmt} {ps : List Str} {k : Nat} {sp : WSp}
end
end L2
namespace L2
open PySem PySem.Spec PyProof.Rows PySem.W
@[irreducible] def Cell (i : Int) : Prop := i.natAbs < 2 ^ 1048576
theorem weight_mem : ∀ {ns : List Int} {n : Int}, n ∈ ns → WData.weight (.int n) ≤ WData.weightAll (ns.map WData.int)
  | m :: ns, n, h => by
    rw [List.map_cons, WData.weightAll]
    rcases List.mem_cons.mp h with rfl | h
    · (clear h; omega)
    · have := weight_mem h; (clear h; omega)
theorem cell_of {n : Int} (h : WData.weight (.int n) ≤ 1048576) : Cell n := by
  unfold WData.weight at h
  unfold Cell
  generalize 1048576 = a at h ⊢
  by_cases h0 : n = 0
  · subst h0
    exact Nat.two_pow_pos a
  · rw [if_neg (by simpa using h0)] at h
    have : n.natAbs ≠ 0 := by (clear h; omega)
    exact (Nat.log2_lt this).mp (by assumption)
theorem cells_of {ns : List Int} (h : WData.layableAll [.list (ns.map WData.int)] = true) : ∀ n, n ∈ ns → Cell n := by
  intro n hn
  have h1 : WData.layable (.list (ns.map WData.int)) = true := (List.all_eq_true.mp h) _ List.mem_cons_self
  have h2 : WData.weight (.list (ns.map WData.int)) ≤ 2 ^ 20 := by
    have := (Bool.and_eq_true_iff.mp h1).2
    exact of_decide_eq_true this
  have h3 : WData.weight (.list (ns.map WData.int)) = WData.weightAll (ns.map WData.int) := by rw [WData.weight]
  have := weight_mem hn
  exact cell_of (by (clear h hn h1; omega))
@[irreducible] def Wide (i : Int) : Prop := i.natAbs < 2 ^ 1048577
set_option exponentiation.threshold 500 in
noncomputable def CellM (i j : Int) : Prop := (Wide i ∧ j.natAbs < 2 ^ 4000) ∨ (i.natAbs < 2 ^ 4000 ∧ Wide j)
noncomputable def CMulC (i j : Int) : Prop := CMulB i j ∨ CellM i j
theorem CMulC.ok {i j : Int} (h : CMulC i j) : IntMulOk i j := by
  have key : ∀ {x y : Int}, Wide x → y.natAbs < 2 ^ 4000 → ¬ (((Builtin.Int.intBits x + Builtin.Int.intBits y : Int)) > bitsLine) := fun {x y} h1 h2 => by
    unfold Wide at h1
    have b1 := PyProof.Rows.intBits_le h1
    have b2 := PyProof.Rows.intBits_le h2
    have hb : (1053000 : Int) ≤ bitsLine := by decide
    (clear h h1 h2; omega)
  rcases h with h | ⟨h1, h2⟩ | ⟨h1, h2⟩
  · exact h.ok
  · have := key h1 h2
    unfold IntMulOk Builtin.Int.intTooBig
    simp [this]
  · have := key h2 h1
    rw [Int.add_comm] at this
    unfold IntMulOk Builtin.Int.intTooBig
    simp [this]
section
variable {X : Cx}
theorem op_mulC : OpR X (binaryOp .Mult) (rI CMulC fun i j => .int (i * j)) := opI fun _ _ _ _ _ _ _ hc q => mul_int q hc.ok
end
noncomputable def spLawC : WSp := fun ws _ q _ => ∃ ns : List Int, ws = [.scr ns] ∧ ns.length ≤ 63 ∧ (∀ n, n ∈ ns → Cell n) ∧ ∀ G', q (.bl true) G'
theorem law_startC {K : PySem.W.Frag} {H : Hp} {a : Addr} {ns : List Int} (hO : Only H) (hS : SqL K H a (ns.map V.int)) (hl : ns.length ≤ 63) (hc : ∀ n, n ∈ ns → Cell n) : LSp K spLawC [.ref a] H (fun v _ => v = .bl true) fun _ _ _ => False :=
  ⟨[.scr ns], fun _ => none, fun w _ => w = .bl true, fun _ _ => False, .cons (.scr (scr_of hO hS)) .nil, fun _ _ e => (by cases e), ⟨ns, rfl, hl, hc, fun _ => rfl⟩, fun v H1 w G1 _ r _ e => (by subst e; cases r; rfl), fun _ _ _ _ _ _ z => z⟩
theorem attC {l : OpenLaw} {n : Nat} {q : Program} {loose : List Str} {XP : (Str → Option Value) → Heap → Prop} {YP : World → Heap → Prop} {d : DefRec}
    (hn : l.most = some n) (hdf : d.params.defaults = [])
    (call : ∀ (w : World) (s₀ s₁ : Shared) (mg mb : Str → Option Value) (fa : Addr) (a : Addr) (vs : List Value) (ns : List Int),
      Ground q loose [] XP w s₀ mg mb s₁.heap → YP w s₁.heap → mg d.name = some (.ref fa) →
      s₁.heap.get? a = some { cls := .type "list", data := .seq vs.toArray } → IntsAre vs ns → ns.length ≤ n → (∀ n, n ∈ ns → Cell n) → s₁.gens = #[] →
      codeAny (model l.prog w) callerA (.call (.ref fa) ⟨[.ref a], []⟩) (fun r s' => r = .ok (.ret (.bool true)) ∧ OldK s₁.heap s'.heap ∧ s'.os = s₁.os ∧ AllBare s'.gens) s₁) :
    WalkO q loose XP YP l.row.toRowW d [] (fun f vs => PySem.call f vs) := by
  intro w s₀ s₁ mg mb G Y fa o pm cd doc dV kV ho hd hcd hD hmg hg args vals as hpre hlay hrd hwl hlo
  obtain rfl : dV = .none := Dflts.none hD hdf
  obtain rfl : kV = .none := Dflts.noKw hD
  obtain ⟨a, vs, ns, ea, rfl, hobj, hints, hlen⟩ := Att.script_of hn hpre hwl
  subst ea
  refine enter_call (codeAny_mono (call w s₀ s₁ mg mb fa a vs ns G Y hmg hobj hints hlen (cells_of hlay) hg) fun r s' hq => ?_)
  obtain ⟨rfl, h2, h3, h4⟩ := hq
  exact ⟨.inl ⟨.bool true, .bool true, [], rfl, fun _ => rfl, .bool true, Att.post_true l _, fun _ => ⟨List.Pairwise.nil, fun _ hm => (nomatch hm)⟩⟩, h2, h3, h4⟩
theorem walk_ofC {l : PySem.W.OpenLaw} {n k : Nat} {q : Program} {loose : List Str} {XP : (Str → Option Value) → Heap → Prop} {YP : World → Heap → Prop} {d : DefRec} {K : Params → PySem.W.Frag} {CX : World → CXT} {sp : World → Sp} {x : Str}
    (hn : l.most = some n) (hn2 : n ≤ sizeLine) (hdf : d.params.defaults = []) (hr : Room k callerA)
    (hY : ∀ (w : World) (h : Heap), YP w h → (K w.params).In h)
    (F : ∀ (w : World) (mg : Str → Option Value) (fa : Addr) (h : Heap), (K w.params).In h → h.Ns mainGlobals mg → mg d.name = some (.ref fa) →
      ∃ fd : FuncData, (∀ (s : Shared) (u : Value), BindsTo s fd ⟨[u], []⟩ [(x, u)]) ∧
        ∀ base : Heap, (K w.params).In base → base.Ns mainGlobals mg → FnOk l.prog w (K w.params) mg base (CX w) k fa fd [x] (sp w))
    (hsp : ∀ (w : World) (H : Hp) (a : Addr) (ns : List Int), ns.length ≤ n → (∀ n, n ∈ ns → Cell n) → Only H → SqL (K w.params) H a (ns.map V.int) → sp w [.ref a] H (fun v _ => v = .bl true) fun _ _ _ => False)
    (hCX : ∀ (w : World) (H : Hp) (s : Shared) (e : Value) (s' : Shared), CX w [] H s (fun _ _ _ => False) e s' → False) :
    PySem.W.WalkO q loose XP YP l.row.toRowW d [] (fun f vs => PySem.call f vs) := by
  refine attC hn hdf fun w s₀ s₁ mg mb fa a vs ns G Y hmg hobj hints hlen hc hg => ?_
  have KX := hY w _ Y
  obtain ⟨fd, hb, hF⟩ := F w mg fa _ KX G.T.g hmg
  exact law_call KX G.T.g G.T.b G.T.builtins G.T.nolimit hg hobj hints (Nat.le_trans hlen hn2) hr hF hb (fun H hO hS => hsp w H a ns hlen hc hO hS) fun H e s' => hCX w H s₁ e s'
end L2
namespace L2
open PySem PySem.Spec PyProof.Rows
theorem Reps.rep {K : PySem.W.Frag} {H : Hp} {ws : List W} {vs : List V} (r : Reps K H ws vs) : ∀ k : Nat, Reps K H (List.replicate k ws).flatten (List.replicate k vs).flatten
  | 0 => .nil
  | k + 1 => by
    rw [List.replicate_succ, List.flatten_cons, List.replicate_succ, List.flatten_cons]
    exact r.append (Reps.rep r k)
section
variable {X : Cx}
noncomputable def vMulT : W2 := fun x y G q => match x, y with
  | .int i, .int j => CMulC i j ∧ q (.int (i * j)) G
  | .ref a, .int k => ∃ xs, G a = some (.lst xs) ∧ 0 ≤ k ∧ k ≤ 100000 ∧ xs.length * k.toNat ≤ 100000 ∧ ∀ p, G p = none → q (.ref p) (updG G p (.lst (List.replicate k.toNat xs).flatten))
  | .tup xs, .int k => xs ≠ [] ∧ 0 ≤ k ∧ k ≤ 100000 ∧ xs.length * k.toNat ≤ 100000 ∧ q (.tup (List.replicate k.toNat xs).flatten) G
  | _, _ => False
theorem q_mulT : QOp X (binaryOp .Mult) vMulT := by
  intro pins s σ H x y v u Q I rx ry ⟨wx, wy, G, q, r1, r2, g, h, hQ⟩
  cases r2 with
  | int k =>
    cases r1 with
    | int i => exact op_mulC pins s σ H _ _ v u Q I rx ry ⟨_, _, rfl, rfl, h.1, hQ _ H _ G (TLe.refl H) (.int _) g h.2⟩
    | ref a =>
      obtain ⟨xs, ea, h0, h1, hl, h⟩ := h
      obtain ⟨_, xs', ha, ra⟩ := g _ _ ea
      refine op_rep pins s σ H _ _ v u Q I rx ry ⟨_, _, _, rfl, rfl, ha, Int.le_trans (by decide) h0, Int.lt_of_le_of_lt h1 (by decide), by rw [← ra.length]; exact line_le hl, fun p hp => ?_⟩
      exact hQ _ _ _ _ (TLe.new hp _) (.ref p) (g.put (TLe.new hp _) (ra.rep _) (by rw [len_rep, Nat.mul_comm]; exact hl)) (h p (g.fresh hp))
    | @tup a ws xs ha ra =>
      obtain ⟨hne, h0, h1, hl, h⟩ := h
      refine op_repT pins s σ H _ _ v u Q I rx ry ⟨a, _, _, rfl, rfl, SqT.of ha, fun z => ?_, h0, h1, by rw [← ra.length]; exact line_le hl, fun e => ?_, fun _ p hp => ?_⟩
      · subst z
        cases ra
        exact hne rfl
      · subst e
        have e1 : ∀ zs : List W, (List.replicate (Int.toNat 1) zs).flatten = zs := fun zs => by simp
        rw [e1] at h
        exact hQ _ H _ G (TLe.refl H) (.tup ha ra) g h
      · exact hQ _ _ _ G (TLe.new hp _) (.tup upd_same ((ra.rep _).mono (TLe.new hp _))) (g.keep hp _) h
    | _ => exact False.elim h
  | _ => cases r1 <;> exact False.elim h
end
end L2
namespace L2
open PySem PySem.Spec PyProof.Rows
end L2
namespace Nm
namespace O
end O
end Nm
set_option linter.all false
set_option maxRecDepth 100000
namespace L2
open PySem PySem.Spec PyProof.Rows
section
variable {X : Cx}
noncomputable def vAddS : W2 := fun x y G q => match x, y with
  | .str a, .str b => a.length + b.length ≤ 100000 ∧ q (.str (a ++ b)) G
  | x, y => vAdd x y G q
theorem q_addS : QOp X (binaryOp .Add) vAddS := by
  intro pins s σ H x y v u Q I rx ry ⟨wx, wy, G, q, r1, r2, g, h, hQ⟩
  unfold vAddS at h
  split at h
  · cases r1
    cases r2
    exact op_add_str pins s σ H _ _ v u Q I rx ry ⟨_, _, rfl, rfl, line_le h.1, hQ _ H _ G (TLe.refl H) (.str _) g h.2⟩
  · exact q_add pins s σ H x y v u Q I rx ry ⟨wx, wy, G, q, r1, r2, g, h, hQ⟩
noncomputable def vMulS : W2 := fun x y G q => match x, y with
  | .str a, .int k => 0 ≤ k ∧ k ≤ 100000 ∧ a.length * k.toNat ≤ 100000 ∧ ∀ z : Str, z.length ≤ a.length * k.toNat → q (.str z) G
  | x, y => vMulT x y G q
theorem len_foldl (a : Array Nat) : ∀ (n : Nat) (b : Array Nat), (List.foldl (fun x1 x2 => x1 ++ x2) b (List.replicate n a)).size = b.size + a.size * n
  | 0, b => by simp
  | n + 1, b => by
    rw [List.replicate_succ, List.foldl_cons, len_foldl a n, Array.size_append, Nat.mul_succ]
    omega
theorem mul_len (x : Str) {n : Int} (h : 0 ≤ n) : (Txt.mul x n).length ≤ x.length * n.toNat := by
  unfold Txt.mul
  split
  · exact Nat.zero_le _
  · split
    · rename_i h1 h2
      have : 1 ≤ n.toNat := by (clear h h2; omega)
      exact Nat.le_mul_of_pos_right _ this
    · show Array.size _ ≤ x.cps.size * n.toNat
      rw [len_foldl]
      simp
theorem q_mulS : QOp X (binaryOp .Mult) vMulS := by
  intro pins s σ H x y v u Q I rx ry ⟨wx, wy, G, q, r1, r2, g, h, hQ⟩
  unfold vMulS at h
  split at h
  · rename_i a k
    obtain ⟨h0, h1, hl, h⟩ := h
    cases r1
    cases r2
    obtain ⟨t, rfl⟩ := rx
    obtain ⟨t', rfl⟩ := ry
    refine SB.mul ?_ fun t' tk => ⟨.str _, H, I.tok _, ⟨_, rfl⟩, hQ _ H _ G (TLe.refl H) (.str _) g (h _ (mul_len a h0))⟩
    have hk : (k.toNat : Int) = k := by (clear I g hQ hl h; omega)
    refine ⟨?_, fun h2 h3 => ?_, fun h2 h3 => ?_⟩
    · have e1 : decide (k < -(2 ^ 63 : Int)) = false := decide_eq_false (by (clear I g hQ hl h; omega))
      have e2 : decide (k ≥ 2 ^ 63) = false := decide_eq_false (by (clear I g hQ hl h e1; omega))
      rw [e1, e2, Bool.or_false]
    · have h4 : ((a.length * k.toNat : Nat) : Int) ≤ ((100000 : Nat) : Int) := Int.ofNat_le.mpr hl
      rw [Int.natCast_mul, hk] at h4
      have h5 : (a.length : Int) ≤ (2 ^ 63 - 1) / k := by
        rw [Int.le_ediv_iff_mul_le (by (clear I g hQ hl h h3 h4; omega))]
        exact Int.le_trans h4 (by decide)
      exact Int.not_lt.mpr h5
    · exact decide_eq_false (Nat.not_lt.mpr (line_le hl))
  · exact q_mulT pins s σ H x y v u Q I rx ry ⟨wx, wy, G, q, r1, r2, g, h, hQ⟩
noncomputable def rIxS3 : W2 := fun x y G q => match x, y with
  | .str z, .int i => z.length ≤ 100000 ∧ ∃ c, atI z.cps.toList i = some c ∧ q (.str ⟨#[c]⟩) G
  | x, y => rIx3 x y G q
theorem q_ixS : QIx X rIxS3 := by
  intro value slice pins s σ H x y v u Q I rx ry ⟨wx, wy, G, q, r1, r2, g, h, hQ⟩ hsl
  unfold rIxS3 at h
  split at h
  · obtain ⟨hz, c, e, h⟩ := h
    cases r1
    cases r2
    exact ix_str value slice pins s σ H _ _ v u Q I rx ry ⟨_, _, c, rfl, rfl, line_le hz, e, hQ _ H _ G (TLe.refl H) (.str _) g h⟩ hsl
  · exact q_ix value slice pins s σ H x y v u Q I rx ry ⟨wx, wy, G, q, r1, r2, g, h, hQ⟩ hsl
noncomputable def rSlS : W3 := fun x lo hi G q => match x with
  | .str z => z.length ≤ 100000 ∧ ∀ y : Str, y.length ≤ z.length → q (.str y) G
  | x => rSl3 x lo hi G q
theorem part_of {vl : Value} {lo : Option Int} (p : IsPart vl lo) : ∃ l : Option (Int × Tok), vl = partValue l := by
  cases p with
  | none => exact ⟨none, rfl⟩
  | int i t => exact ⟨some (i, t), rfl⟩
theorem q_slS : SlR X (LSl X.K rSlS) := by
  intro pins s σ H x v vl vu lo hi sl Q I rx hs pl pu ⟨w, G, q, r, g, h, hQ⟩
  unfold rSlS at h
  split at h
  · rename_i z
    obtain ⟨hz, h⟩ := h
    cases r
    obtain ⟨t, rfl⟩ := rx
    refine ⟨"str", _, slot_str_getitem.lookup, typeIs_str s z t, ?_⟩
    obtain ⟨l, rfl⟩ := part_of pl
    obtain ⟨u, rfl⟩ := part_of pu
    refine wpAny_getItem_str_slice (l := l) (u := u) (st := none) ?_ rfl ?_
    · obtain ⟨o, e1, e2, e3⟩ := hs
      exact ⟨o, e1, e2, e3⟩
    · have hle := Txt.slice_le z (l.map (·.1)) (u.map (·.1))
      unfold sliceMade
      split
      · exact ⟨.str z, H, I, ⟨_, rfl⟩, hQ _ H _ G (TLe.refl H) (.str _) g (h _ (Nat.le_refl _))⟩
      · rename_i hn
        unfold Txt.slice at hle
        split at hle
        · rename_i hy
          exact absurd hy hn
        · exact ⟨Nat.le_trans hle (line_le hz), .str _, H, I.tok _, ⟨_, rfl⟩, hQ _ H _ G (TLe.refl H) (.str _) g (h _ hle)⟩
  · exact q_sl pins s σ H x v vl vu lo hi sl Q I rx hs pl pu ⟨w, G, q, r, g, h, hQ⟩
noncomputable def wSlS (te : WE) (tl th : WO) : WE := fun τ G q => te τ G fun x G1 => tl τ G1 fun l G2 => th τ G2 fun u G3 => rSlS x l u G3 q
theorem qe_sliceS {e : Expr} {lo hi : Option Expr} {te : WE} {tl th : WO} {pos p2 : Pos} (he : QE X e te) (hl : QO X lo tl) (hu : QO X hi th) : QE X (.Subscript e (.Slice lo hi none p2) pos) (wSlS te tl th) :=
  (pe_slice q_slS he hl hu).imp fun σ H Q z0 => z0.el fun τ G q hs hg ht hQ => ⟨τ, G, _, hs, hg, ht, fun v H1 w G1 t1 r1 g1 q1 => ⟨τ, G1, _, hs.mono t1, g1, q1, fun l H2 G2 t2 g2 q2 =>
    ⟨τ, G2, _, (hs.mono t1).mono t2, g2, q2, fun u H3 G3 t3 g3 q3 => ⟨w, G3, q, (r1.mono t2).mono t3, g3, q3, fun v4 H4 w4 G4 t4 => hQ v4 H4 w4 G4 (((t1.trans t2).trans t3).trans t4)⟩⟩⟩⟩
noncomputable def cLenS : List W → Gp → WK → Prop := fun ws G q => match ws with
  | [.str z] => z.length ≤ 100000 ∧ q (.int z.length) G
  | ws => cLen ws G q
theorem q_lenS : QCall X (.builtin "len") cLenS := by
  intro pins s σ H xs us Q I r ⟨ws, G, q, rw', g, h, hQ⟩
  unfold cLenS at h
  split at h
  · obtain ⟨v, rfl, r1⟩ := rw'.one
    cases r1
    exact call_len_str pins s σ H _ us Q I r ⟨_, rfl, line_le h.1, hQ _ H _ G (TLe.refl H) (.int _) g h.2⟩
  · exact q_len pins s σ H xs us Q I r ⟨ws, G, q, rw', g, h, hQ⟩
noncomputable def rNinS : W2 := fun x y G q => match x, y with
  | .str a, .str b => ∃ c, a = ⟨#[c]⟩ ∧ q (.bl (!(decide (c ∈ b.cps.toList)))) G
  | _, _ => False
noncomputable def Its (x : Str) : It := ⟨fun i _ => i < x.cps.toList.length, fun i H y H' => H' = H ∧ ∃ c, x.cps.toList[i]? = some c ∧ y = .str ⟨#[c]⟩, fun i _ => x.cps.toList.length ≤ i⟩
theorem walks_str {P : Program} {w : World} {A : Around} (hA : A.handled = none) (it : Addr) (x : Str) (t : Tok) : Walks P w A it [it] [it] x.cps.size (SignAt x) (fun i h => h.IsStrIter it (strIterType x) x t i) := by
  unfold strIterType
  split
  · exact Walks.strAscii hA it x t
  · exact Walks.strWide hA it x t
theorem turn_str {P : Program} {w : World} {K : PySem.W.Frag} {tg : Expr} (it : Addr) (x : Str) (t : Tok) : Turn P w K tg (Its x) [it] it (fun i h => i ≤ x.cps.size ∧ h.IsStrIter it (strIterType x) x t i) where
  mem := by simp
  obj := fun i h st b hb => by
    have e : b = it := by simpa using hb
    subst e
    obtain ⟨_, o, e1, e2, e3⟩ := st
    exact ⟨_, e1, fun v z => by rw [e3] at z; cases z⟩
  keep := fun i h h' st k => by
    obtain ⟨hi, o, e1, e2, e3⟩ := st
    exact ⟨hi, o, k it (by simp) _ e1, e2, e3⟩
  item := by
    intro X hP hw hK hc i pins s σ H E I hf st hg
    subst hP hw hK
    obtain ⟨f0, f1, f2, f3, f4, f5⟩ := hf it (by simp)
    have hg' : i < x.cps.size := by
      have h : i < x.cps.toList.length := hg
      simpa using h
    refine (walks_str (I.ok.hd hc) it x t).item i s _ _ hg' st.2 fun v h' tk hv st' kk => ?_
    obtain ⟨c, u, e, rfl⟩ := hv
    have I1 : Inv X pins σ H { s with heap := h', toks := tk } := I.turned (fun b o hb e => kk b o (by simpa using hb) e) f0 f1 f3 f4 f5
    obtain ⟨o, e1, e2, e3⟩ := id st'
    refine ⟨_, rfl, go_of (s := { s with heap := h', toks := tk }) (n := strIterType x) e1 e2 e3 ?_ ⟨.str ⟨#[c]⟩, H, I1, ⟨u, rfl⟩, ⟨rfl, c, by simpa using e, rfl⟩, ⟨hg', st'⟩, fun b hb => (hf b hb).1⟩⟩
    unfold strIterType
    split <;> decide
  done := by
    intro X hP hw hK hc i pins s σ H E I hf st hg
    subst hP hw hK
    obtain ⟨f0, f1, f2, f3, f4, f5⟩ := hf it (by simp)
    have hg' : x.cps.size ≤ i := by
      have h : x.cps.toList.length ≤ i := hg
      simpa using h
    have hi : i = x.cps.size := Nat.le_antisymm st.1 hg'
    subst hi
    exact (walks_str (I.ok.hd hc) it x t).done s _ _ st.2 fun h' tk kk => ⟨rfl, I.turned (t' := tk) (fun b o hb e => kk b o (by simpa using hb) e) f0 f1 f3 f4 f5⟩
  self := fun A i s Q E st h => by
    obtain ⟨_, o, e1, e2, e3⟩ := st
    unfold strIterType at e2
    split at e2
    · exact wpAny_pyIter_striter_ascii ⟨o, e1, e2, e3⟩ h
    · exact wpAny_pyIter_striter_wide ⟨o, e1, e2, e3⟩ h
noncomputable def sgs (l : List Nat) : List W := l.map fun c => .str ⟨#[c]⟩
theorem itn_str {K : PySem.W.Frag} {x : Str} {H : Hp} : Itn K (Its x) (sgs x.cps.toList) (fun _ => True) H where
  stop := fun i H1 G t g _ hl => by
    have h : x.cps.toList.length ≤ i := by simpa [sgs] using hl
    exact h
  go := fun i w H1 G t g _ e => by
    unfold sgs at e
    rw [List.getElem?_map] at e
    cases h : x.cps.toList[i]? with
    | none => rw [h] at e; cases e
    | some c =>
      rw [h] at e
      cases e
      refine ⟨(List.getElem?_eq_some_iff.mp h).1, fun y H' ⟨eH, c', hc, hy⟩ => ?_⟩
      subst eH hy
      rw [h] at hc
      cases hc
      exact ⟨TLe.refl _, .str _, g⟩
variable {tg : Expr}
theorem pi_seqS {l : Expr} {tl : TE} (hl : PE X l tl) : PI X tg l (fun σ H R => tl σ H fun x H1 => (∃ z, x = .str z ∧ R (Its z) H1) ∨ ∃ a, x = .ref a ∧ (((∃ xs, SqL X.K H1 a xs) ∧ R (Itl X.K a) H1) ∨ ((∃ xs, SqT X.K H1 a xs) ∧ R (Itt X.K a) H1))) := by
  intro pins s σ H R I h
  refine thn (hl pins s σ H _ I h) fun v s1 ⟨x, H1, I1, r1, q1⟩ => ?_
  rcases q1 with ⟨z, rfl, q⟩ | ⟨a, e, q1⟩
  · obtain ⟨t, rfl⟩ := r1
    refine wpAny_pyIter_strU ?_
    refine ⟨s1.heap.objs.size, [s1.heap.objs.size], _, _, H1, rfl, I1.kept (t' := s1.toks) fun b o e => Heap.get?_push_of_some _ e, turn_str _ z t, ⟨Nat.zero_le _, _, Heap.get?_push_size _ rfl, rfl, rfl⟩, fun b hb => ?_, q⟩
    have e : b = s1.heap.objs.size := by simpa using hb
    subst e
    exact I1.fpOk (Nat.le_refl _) (I1.hok.fresh (Nat.le_refl _))
  · subst e
    cases r1
    rcases q1 with ⟨⟨xs, hq⟩, q⟩ | ⟨⟨xs, hq⟩, q⟩
    · obtain ⟨its, rv, p, hz⟩ := I1.list hq
      refine wpAny_pyIter_list p.isList ?_
      refine ⟨s1.heap.objs.size, [s1.heap.objs.size], _, _, H1, rfl, I1.kept (t' := s1.toks) fun b o e => Heap.get?_push_of_some _ e, turn_list a _, ⟨_, Heap.get?_push_size _ rfl, rfl, rfl⟩, fun b hb => ?_, q⟩
      have e : b = s1.heap.objs.size := by simpa using hb
      subst e
      exact I1.fpOk (Nat.le_refl _) (I1.hok.fresh (Nat.le_refl _))
    · obtain ⟨its, rv, p, hz⟩ := I1.tuple hq
      refine wpAny_pyIter_tuple (show s1.heap.IsTuple a its.toArray from p) ?_
      refine ⟨s1.heap.objs.size, [s1.heap.objs.size], _, _, H1, rfl, I1.kept (t' := s1.toks) fun b o e => Heap.get?_push_of_some _ e, turn_tuple a _, ⟨_, Heap.get?_push_size _ rfl, rfl, rfl⟩, fun b hb => ?_, q⟩
      have e : b = s1.heap.objs.size := by simpa using hb
      subst e
      exact I1.fpOk (Nat.le_refl _) (I1.hok.fresh (Nat.le_refl _))
noncomputable def jSeqS (te : WE) : WI := fun τ G r => te τ G fun x G1 => match x with
  | .str z => r (sgs z.cps.toList) (fun _ => True) G1
  | .tup ws => r ws (fun _ => True) G1
  | .scr ns => r (ns.map W.int) (fun _ => True) G1
  | .ref a => ∃ ws, G1 a = some (.lst ws) ∧ r ws (fun G => G a = some (.lst ws)) G1
  | _ => False
theorem qi_seqS {l : Expr} {te : WE} (hl : QE X l te) : QI X tg l (jSeqS te) :=
  (pi_seqS hl).imp fun σ H R ⟨τ, G, r, hs, hg, ht, hR⟩ => ⟨τ, G, _, hs, hg, ht, fun v H1 w G1 t1 r1 g1 q1 => by
    split at q1
    · cases r1
      exact .inl ⟨_, rfl, hR _ H1 _ _ G1 t1 g1 itn_str q1⟩
    · cases r1 with
      | tup h rr => exact .inr ⟨_, rfl, .inr ⟨⟨_, SqT.of h⟩, hR _ H1 _ _ G1 t1 g1 (itn_tup h rr) q1⟩⟩
    · cases r1 with
      | scr h => exact .inr ⟨_, rfl, .inl ⟨⟨_, h.sq⟩, hR _ H1 _ _ G1 t1 g1 (itn_scr h) q1⟩⟩
    · obtain ⟨ws, e, q1⟩ := q1
      cases r1
      obtain ⟨_, xs, h1, _⟩ := g1 _ _ e
      exact .inr ⟨_, rfl, .inl ⟨⟨xs, SqL.of h1⟩, hR _ H1 _ _ G1 t1 g1 itn_lst q1⟩⟩
    · exact q1.elim⟩
noncomputable def catS (ts : List Str) : Str := ⟨(ts.map fun t => t.cps.toList).flatten.toArray⟩
noncomputable def wJoin (te : WE) : WE := fun τ G q => te τ G fun y G2 => ∃ a ts, y = .ref a ∧ G2 a = some (.lst (ts.map W.str)) ∧ (ts.map fun t => t.length).sum ≤ 100000 ∧ q (.str (catS ts)) G2
noncomputable def wCount (to te : WE) : WE := fun τ G q => to τ G fun x G1 => (∃ z, x = .str z) ∧ te τ G1 fun y G2 => ∃ z c, x = .str z ∧ y = .str ⟨#[c]⟩ ∧ q (.int ((z.cps.toList.count c : Nat) : Int)) G2
noncomputable def wFst (a b : Str) (te : WE) : WE := fun τ G q => te τ G fun x G1 => ∃ z, x = .str z ∧ a.length + z.length + b.length ≤ 100000 ∧ q (.str (a ++ z ++ b)) G1
end
end L2
set_option linter.all false
namespace L2
open PySem PySem.Spec PyProof.Rows Nm
theorem comp_by {β : Type} {C : Gp → Prop} {te : WE} {i : Nat} {τ0 : WSt} {G : Gp} {q : List W → Gp → Prop} (key val : β → W) (hC : C G) : ∀ {ps : List β} {acc : List W} {τ : WSt},
    (∀ p, p ∈ ps → ∀ k : W → Gp → Prop, k (val p) G → te (τ0.set i (some (key p))) G k) → acc.length + ps.length ≤ 100000 → (∀ x, τ.set i x = τ0.set i x) → q (acc ++ ps.map val) G → compW C (hName i) wTrue te (ps.map key) τ G acc q
  | [], acc, τ, _, _, _, hq => ⟨hC, by simpa using hq⟩
  | p :: ps, acc, τ, ht, hl, hτ, hq => by
    refine ⟨hC, ?_⟩
    show te (τ.set i (some (key p))) G _
    rw [hτ]
    refine ht p List.mem_cons_self _ ?_
    rw [List.length_cons] at hl
    refine ⟨by (clear hC ht hτ hq; omega), comp_by key val hC (fun u hu => ht u (List.mem_cons_of_mem _ hu)) (by rw [List.length_append]; simp only [List.length_cons, List.length_nil]; (clear hC ht hτ hq; omega)) (fun x => ?_) (by simpa using hq)⟩
    rw [List.set_set]
theorem comp_ind {C : Gp → Prop} {te : WE} {i : Nat} {τ0 : WSt} {q : List W → Gp → Prop} (Iv : List W → List W → Gp → Prop) (stop : ∀ acc G, Iv [] acc G → C G ∧ q acc G)
    (step : ∀ x ws acc G (k : WK), Iv (x :: ws) acc G → (∀ v G1, Iv ws (acc ++ [v]) G1 → acc.length + 1 ≤ 100000 → k v G1) → C G ∧ te (τ0.set i (some x)) G k) : ∀ {ws acc : List W} {τ : WSt} {G : Gp}, Iv ws acc G → acc.length + ws.length ≤ 100000 → (∀ x, τ.set i x = τ0.set i x) → compW C (hName i) wTrue te ws τ G acc q
  | [], acc, τ, G, hI, _, _ => stop acc G hI
  | x :: ws, acc, τ, G, hI, hl, hτ => by
    rw [List.length_cons] at hl
    obtain ⟨h1, h2⟩ := step x ws acc G (fun v G4 => acc.length + 1 ≤ 100000 ∧ compW C (hName i) wTrue te ws (τ0.set i (some x)) G4 (acc ++ [v]) q) hI fun v G1 hv hn => ⟨hn, comp_ind Iv stop step hv (by rw [List.length_append]; simp only [List.length_cons, List.length_nil]; (clear stop step hI hτ hv hn; omega)) fun y => List.set_set ..⟩
    refine ⟨h1, ?_⟩
    show te (τ.set i (some x)) G _
    rw [hτ]
    exact h2
theorem ifD {c : WT} {t u : WS} {d : WEnds} {τ : WSt} {G : Gp} (h : ∀ (T V : WS) (D : WEnds), T = t → V = u → D = d → wIf c T V D τ G) : wIf c t u d τ G := h t u d rfl rfl rfl
theorem fresh_of {G G' : Gp} {p : Addr} (h : GLe G G') (hp : G' p = none) : G p = none := by
  cases e : G p with
  | none => rfl
  | some g => rw [h _ _ e] at hp; cases hp
theorem iteI {c A B : Prop} {d : Decidable c} (h1 : c → A) (h2 : ¬ c → B) : @ite Prop c d A B := by
  cases d with
  | isTrue h => exact h1 h
  | isFalse h => exact h2 h
end L2
set_option linter.all false
set_option maxRecDepth 100000
namespace L2
open PySem PySem.Spec PyProof.Rows
section
variable {X : Cx} {pins : List (Addr × Obj)} {σ : St} {H : Hp} {s : Shared} {a : Addr} {o : Obj} {kvs : List (Key × V)}
theorem rel_key {k : Key} {v : Value} (h : keyIs k v = true) : RelV (kV k) v := by
  rcases keyIs_shape h with ⟨i, t, rfl, rfl⟩ | ⟨x, t, rfl, rfl⟩
  · exact ⟨t, rfl⟩
  · exact ⟨t, rfl⟩
variable {tg : Expr}
end
end L2
set_option linter.all false
set_option maxRecDepth 100000
namespace L2
open PySem PySem.Spec PyProof.Rows
noncomputable def valW (kvs : List (Key × W)) (k : Key) : Option W := (kvs.find? fun kv => decide (kv.1 = k)).map (·.2)
noncomputable def putD (kvs : List (Key × W)) (k : Key) (w : W) : List (Key × W) :=
  if (kvs.any fun kv => decide (kv.1 = k)) = true then kvs.map (fun kv => if kv.1 = k then (kv.1, w) else kv) else kvs ++ [(k, w)]
inductive DP (K : PySem.W.Frag) (H : Hp) : List (Key × W) → List (Key × V) → Prop where
  | nil : DP K H [] []
  | cons {k : Key} {w : W} {v : V} {kvs : List (Key × W)} {us : List (Key × V)} (r : Rep K H w v) (t : DP K H kvs us) : DP K H ((k, w) :: kvs) ((k, v) :: us)
section
variable {K : PySem.W.Frag} {H H1 : Hp}
theorem DP.of : ∀ {kvs : List (Key × W)} {us : List (Key × V)}, us.map (·.1) = kvs.map (·.1) → Reps K H (kvs.map (·.2)) (us.map (·.2)) → DP K H kvs us
  | [], [], _, _ => .nil
  | [], _ :: _, h, _ => by simp at h
  | _ :: _, [], h, _ => by simp at h
  | (k, w) :: kvs, (k', v) :: us, h, r => by
    simp only [List.map_cons, List.cons.injEq] at h
    obtain ⟨rfl, h⟩ := h
    cases r with
    | cons r rs => exact .cons r (DP.of h rs)
theorem DP.keys {kvs : List (Key × W)} {us : List (Key × V)} (d : DP K H kvs us) : us.map (·.1) = kvs.map (·.1) := by
  induction d with
  | nil => rfl
  | cons r t ih => rw [List.map_cons, List.map_cons, ih]
theorem DP.len {kvs : List (Key × W)} {us : List (Key × V)} (d : DP K H kvs us) : us.length = kvs.length := by
  have := congrArg List.length d.keys
  simpa using this
theorem DP.val {kvs : List (Key × W)} {us : List (Key × V)} (d : DP K H kvs us) (k : Key) : (valW kvs k = none ∧ valV us k = none) ∨ ∃ w v, valW kvs k = some w ∧ valV us k = some v ∧ Rep K H w v := by
  induction d with
  | nil => exact .inl ⟨rfl, rfl⟩
  | @cons k' w v kvs us r t ih =>
    by_cases e : k' = k
    · exact .inr ⟨w, v, by simp [valW, List.find?_cons, e], valV_pos e, r⟩
    · rw [show valW ((k', w) :: kvs) k = valW kvs k by simp [valW, List.find?_cons, e], valV_neg (p := (k', v)) e]
      exact ih
end
noncomputable def GD (G : Gp) (a : Addr) (kvs : List (Key × W)) : Prop := G a = some (.dic kvs) ∨ ∃ o us, G a = some (.fdc o us kvs)
section
variable {K : PySem.W.Frag} {H : Hp} {G : Gp} {a : Addr} {kvs : List (Key × W)}
theorem GD.rd (h : GD G a kvs) (g : RelG K H G) : kvs.length ≤ 100000 ∧ ∃ us, Rd H a (.dK us) ∧ DP K H kvs us := by
  rcases h with h | ⟨o, us, h⟩
  · obtain ⟨l, us, e, n, r⟩ := g a _ h
    exact ⟨l, us, .inl e, DP.of n r⟩
  · obtain ⟨l, e, n, r⟩ := g a _ h
    exact ⟨l, us, .inr ⟨o, e⟩, DP.of n r⟩
end
section
variable {X : Cx} {pins : List (Addr × Obj)} {σ : St} {H : Hp} {s : Shared} {A : Around} {E : Value → Shared → Prop}
noncomputable def rIxD : W2 := fun x y G q => match x, y with
  | .ref a, .str z => ∃ kvs w, GD G a kvs ∧ valW kvs (.inr z) = some w ∧ q w G
  | x, y => rIxS3 x y G q
theorem q_ixD : QIx X rIxD := by
  intro value slice pins s σ H x y v u Q I rx ry ⟨wx, wy, G, q, r1, r2, g, h, hQ⟩ hsl
  unfold rIxD at h
  split at h
  · rename_i a z
    obtain ⟨kvs, w, hd, hv, h⟩ := h
    cases r1
    cases r2
    cases rx
    obtain ⟨_, us, rd, dp⟩ := hd.rd g
    obtain ⟨hl, hm, vs, rel, dd⟩ := dk_rd I.hok rd
    rcases dp.val (.inr z) with ⟨e, _⟩ | ⟨w', v', e, e', r⟩
    · rw [e] at hv; cases hv
    · rw [e] at hv; cases hv
      obtain ⟨u', hw, ru⟩ := RelO.some_of (v := v') (o := valueAt vs (.inr z)) (by rw [← e']; exact rel.val (.inr z))
      exact tail_any dd.typeIs PySem.F.slot_dict_getitem.lookup (wpAny_getItem_of (kV_is (P := X.prog) (w := X.w) (k := .inr z) ry) dd.mapOf hw ⟨v', H, I.tok _, ru, hQ _ H _ G (TLe.refl H) r g h⟩) hsl
  · exact q_ixS value slice pins s σ H x y v u Q I rx ry ⟨wx, wy, G, q, r1, r2, g, h, hQ⟩ hsl
structure InL (ws : List W) (x : W) : Prop where
  fx : x.flat = true
  fs : W.flats ws = true
  hd : W.deps ws ≤ 149
inductive InW (G : Gp) (a : Addr) : W → Bool → Prop where
  | dic {kvs : List (Key × W)} {z : Str} (h : GD G a kvs) : InW G a (.str z) (valW kvs (.inr z)).isSome
  | lst {ws : List W} {x : W} (h : G a = some (.lst ws)) (l : InL ws x) : InW G a x (ws.any fun w => w.eq x)
noncomputable def rInD : W2 := fun x y G q => match y with
  | .ref a => ∃ b, InW G a x b ∧ q (.bl b) G
  | _ => False
noncomputable def rNinD : W2 := fun x y G q => match y with
  | .ref a => ∃ b, InW G a x b ∧ q (.bl (!b)) G
  | _ => False
open Classical in
noncomputable def wDicN : WE := fun _ G q => ∀ p, G p = none → q (.ref p) (updG G p (.dic []))
noncomputable def wDPut (tv to ti : WE) : WS := fun d τ G => tv τ G fun w G1 => to τ G1 fun x G2 => ti τ G2 fun y G3 => ∃ a z kvs, x = .ref a ∧ y = .str z ∧ G3 a = some (.dic kvs) ∧ kvs.length + 1 ≤ 100000 ∧ d.nx τ (updG G3 a (.dic (putD kvs (.inr z) w)))
noncomputable def WEnds.th (a : Addr) (d : WEnds) : WEnds where
  nx := fun τ G => ∃ o us kvs, G a = some (.fdc o us kvs) ∧ d.nx τ (updG G a (.dic kvs))
  rt := fun w G => ∃ o us kvs, G a = some (.fdc o us kvs) ∧ d.rt w (updG G a (.dic kvs))
  bk := fun τ G => ∃ o us kvs, G a = some (.fdc o us kvs) ∧ d.bk τ (updG G a (.dic kvs))
  ct := fun τ G => ∃ o us kvs, G a = some (.fdc o us kvs) ∧ d.ct τ (updG G a (.dic kvs))
noncomputable def Ends.th (a : Addr) (d : Ends) : Ends where
  nx := fun τ G => ∃ o us, G a = some (.frz o (.dK us)) ∧ d.nx τ (upd G a (.dK us))
  rt := fun w G => ∃ o us, G a = some (.frz o (.dK us)) ∧ d.rt w (upd G a (.dK us))
  bk := fun τ G => ∃ o us, G a = some (.frz o (.dK us)) ∧ d.bk τ (upd G a (.dK us))
  ct := fun τ G => ∃ o us, G a = some (.frz o (.dK us)) ∧ d.ct τ (upd G a (.dK us))
noncomputable def wThaw (t : WS) : WS := fun d τ G => ∃ a kvs, G a = some (.dic kvs) ∧ t (d.th a) τ G
noncomputable def kW : Key → W
  | .inl i => .int i
  | .inr x => .str x
theorem rep_kW {K : PySem.W.Frag} (k : Key) : Rep K H (kW k) (kV k) := by
  cases k with
  | inl i => exact .int i
  | inr x => exact .str x
variable {tg : Expr}
noncomputable def jKeys (i : Nat) : WI := fun τ G r => match τ[i]? with
  | some (some (.ref a)) => ∃ kvs, G a = some (.dic kvs) ∧ ∀ o us, r (kvs.map fun p => kW p.1) (fun G => G a = some (.fdc o us kvs)) (updG G a (.fdc o us kvs))
  | _ => False
noncomputable def jVals (i : Nat) : WI := fun τ G r => match τ[i]? with
  | some (some (.ref a)) => ∃ kvs, G a = some (.dic kvs) ∧ ∀ o us, r (kvs.map (·.2)) (fun G => G a = some (.fdc o us kvs)) (updG G a (.fdc o us kvs))
  | _ => False
end
end L2
set_option linter.all false
set_option maxRecDepth 100000
namespace L2
open PySem PySem.Spec PyProof.Rows
section
variable {X : Cx} {elts : List Expr} {k : Nat} {tp : Pos}
noncomputable def jItems (i : Nat) : WI := fun τ G r => match τ[i]? with
  | some (some (.ref a)) => ∃ kvs, G a = some (.dic kvs) ∧ ∀ o us, r (kvs.map fun p => .tup [kW p.1, p.2]) (fun G => G a = some (.fdc o us kvs)) (updG G a (.fdc o us kvs))
  | _ => False
end
end L2
set_option linter.all false
set_option maxRecDepth 100000
namespace L2
open PySem PySem.Spec PyProof.Rows
section
variable {X : Cx} {pins : List (Addr × Obj)} {σ : St} {H : Hp} {s : Shared}
noncomputable def isD (t : String) : Bool := t == "dict"
noncomputable def wIsD (te : WE) : WE := fun τ G q => te τ G fun x G1 => match tyN G1 x with | some t => q (.bl (isD t)) G1 | none => False
inductive LenW (G : Gp) (a : Addr) : Nat → Prop where
  | lst {ws : List W} (h : G a = some (.lst ws)) : LenW G a ws.length
  | dic {kvs : List (Key × W)} (h : GD G a kvs) : LenW G a kvs.length
noncomputable def cLenD : List W → Gp → WK → Prop := fun ws G q => match ws with
  | [.ref a] => ∃ n : Nat, LenW G a n ∧ q (.int n) G
  | ws => cLenS ws G q
theorem q_lenD : QCall X (.builtin "len") cLenD := by
  intro pins s σ H xs us Q I r ⟨ws, G, q, rw', g, h, hQ⟩
  unfold cLenD at h
  split at h
  · obtain ⟨n, hn, h⟩ := h
    cases hn with
    | lst e => exact q_len pins s σ H xs us Q I r ⟨_, G, q, rw', g, ⟨_, e, h⟩, hQ⟩
    | dic hd =>
      obtain ⟨v, rfl, r1⟩ := rw'.one
      cases r1
      obtain ⟨u, rfl, ru⟩ := vals1 r
      cases ru
      obtain ⟨_, us, rd, dp⟩ := hd.rd g
      refine d_len I rd fun t s' I' => ⟨.int us.length, H, I', ⟨t, rfl⟩, hQ _ H _ G (TLe.refl H) ?_ g h⟩
      rw [dp.len]; exact .int _
  · exact q_lenS pins s σ H xs us Q I r ⟨ws, G, q, rw', g, h, hQ⟩
inductive ItsW (G : Gp) (a : Addr) : List W → Prop where
  | lst {ws : List W} (h : G a = some (.lst ws)) : ItsW G a ws
  | dic {kvs : List (Key × W)} (h : GD G a kvs) : ItsW G a (kvs.map fun p => kW p.1)
noncomputable def cListD : List W → Gp → WK → Prop := fun ws G q => match ws with
  | [.ref a] => ∃ ws, ItsW G a ws ∧ ∀ p, G p = none → q (.ref p) (updG G p (.lst ws))
  | ws => cList ws G q
theorem vals_of {P : Program} {w : World} : ∀ {us : List (Key × V)} {vs : List (Key × Value)} {its : List Value}, KV us vs → its.length = vs.length → (∀ (j : Nat) (v : Value), its[j]? = some v → ∃ (k : Key) (x : Value), vs[j]? = some (k, x) ∧ (mixKind P w).is k v = true) → Vals (us.map fun p => kV p.1) its
  | [], _, [], .nil, _, _ => .nil
  | [], _, _ :: _, .nil, h, _ => by simp at h
  | _ :: _, _, [], .cons _ _, h, _ => by simp at h
  | p :: us, _, u :: its, .cons r t, h, hv => by
    obtain ⟨k, x, e1, e2⟩ := hv 0 u rfl
    cases e1
    refine .cons ?_ (vals_of (P := P) (w := w) t (by simpa using h) fun j v e => by simpa using hv (j + 1) v (by simpa using e))
    show RelV (kV p.1) u
    rw [show p.1 = k from r.1]
    exact rel_key e2
theorem q_listD (hc : X.calm = true) : QCall X (.type "list") cListD := by
  intro pins s σ H xs us Q I r ⟨ws, G, q, rw', g, h, hQ⟩
  unfold cListD at h
  split at h
  · rename_i a
    obtain ⟨ws, hw, h⟩ := h
    cases hw with
    | lst e => exact q_list pins s σ H xs us Q I r ⟨_, G, q, rw', g, ⟨_, e, h⟩, hQ⟩
    | dic hd =>
      obtain ⟨v, rfl, r1⟩ := rw'.one
      cases r1
      obtain ⟨u, rfl, ru⟩ := vals1 r
      cases ru
      obtain ⟨hl, us, rd, dp⟩ := hd.rd g
      obtain ⟨zl, hm, vs, rel, dd⟩ := dk_rd I.hok rd
      obtain ⟨ep, hat⟩ := dd.dictAt
      refine PySem.W.kdl_call (PySem.W.kdl_dict (knd := mixKind X.prog X.w) (kvs := vs) (ep := ep) hm) (I.ok.hd hc) hat (by rw [← rel.length]; exact zl) fun h' tk acc' c' kp e hacc => ?_
      have rv : Vals (us.map fun p => kV p.1) acc'.toList := vals_of (P := X.prog) (w := X.w) rel (by rw [Array.length_toList]; exact hacc.1) fun j v e => hacc.2 j v (by rw [← Array.getElem?_toList]; exact e)
      have hsz : (us.map fun p => kV p.1).length ≤ sizeLine := by rw [List.length_map]; exact zl
      have hp := I.hok.fresh (Nat.le_refl s.heap.objs.size)
      have e' : h'.get? s.heap.objs.size = some { cls := .type "list", data := .seq acc'.toList.toArray c' } := by simpa using e
      refine ⟨.ref s.heap.objs.size, _, I.laid (t' := tk) (fun b o q => kp b o q) (Nat.le_refl _) (show ObjOk X.prog X.w _ h' _ (.lst (us.map fun p => kV p.1)) from ⟨hsz, acc'.toList, c', rv, e'⟩), rfl, ?_⟩
      have rr : ∀ {kvs : List (Key × W)} {us : List (Key × V)}, DP X.K H kvs us → Reps X.K H (kvs.map fun p => kW p.1) (us.map fun p => kV p.1) := by
          intro kvs us d
          induction d with
          | nil => exact .nil
          | cons r t ih => exact .cons (rep_kW _) ih
      exact hQ _ _ _ _ (TLe.new hp _) (.ref _) (g.put (TLe.new hp _) (rr dp) (by rw [List.length_map]; exact hl)) (h _ (g.fresh hp))
  · exact q_list pins s σ H xs us Q I r ⟨ws, G, q, rw', g, h, hQ⟩
noncomputable def wDGet (to tk td : WE) : WE := fun τ G q => to τ G fun x G1 => match x with
  | .ref a => (∃ kvs, G1 a = some (.dic kvs)) ∧ tk τ G1 fun y G2 => td τ G2 fun d G3 => ∃ z kvs, y = .str z ∧ G3 a = some (.dic kvs) ∧ q ((valW kvs (.inr z)).getD d) G3
  | _ => False
noncomputable def wDClr (to : WE) : WE := fun τ G q => to τ G fun x G1 => match x with
  | .ref a => ∃ ys, G1 a = some (.dic ys) ∧ q .non (updG G1 a (.dic []))
  | _ => False
inductive SameV (G : Gp) : W → W → Prop where
  | int (i : Int) : SameV G (.int i) (.int i)
  | lst {a b : Addr} {ws us : List W} (ea : G a = some (.lst ws)) (eb : G b = some (.lst us)) (f1 : W.flats ws = true) (f2 : W.flats us = true) (hd : W.deps ws ≤ 8) (he : W.eqs ws us = true) : SameV G (.ref a) (.ref b)
inductive EqD (G : Gp) (a b : Addr) : Bool → Prop where
  | lst {ws us : List W} (ea : G a = some (.lst ws)) (eb : G b = some (.lst us)) (f1 : W.flats ws = true) (f2 : W.flats us = true) (hd : W.deps ws ≤ 149) : EqD G a b (W.eqs ws us)
  | dic {kvs us : List (Key × W)} (ea : GD G a kvs) (eb : GD G b us) (hl : kvs.length = us.length) (hv : ∀ p, p ∈ kvs → ∃ w', valW us p.1 = some w' ∧ SameV G p.2 w') : EqD G a b true
noncomputable def rEqD : W2 := fun x y G q => match x, y with
  | .ref a, .ref b => ∃ r, EqD G a b r ∧ q (.bl r) G
  | x, y => rEq3 x y G q
noncomputable def rNeD : W2 := fun x y G q => match x, y with
  | .ref a, .ref b => ∃ r, EqD G a b r ∧ q (.bl (!r)) G
  | x, y => rNe3 x y G q
theorem same_at {A : Around} (hu : A.units + 20 < cLine) {G : Gp} {w1 w2 : W} {v1 v2 : V} {u1 u2 : Value} (I : Inv X pins σ H s) (g : RelG X.K H G) (h : SameV G w1 w2) (r1 : Rep X.K H w1 v1) (r2 : Rep X.K H w2 v2) (q1 : RelV v1 u1) (q2 : RelV v2 u2) : SeqAt.EqAt A s u1 u2 true := by
  cases h with
  | int i =>
    cases r1
    cases r2
    have := (eq_rep I 10 A (w1 := .int i) (w2 := .int i) (by show 0 < 10; decide) rfl rfl (by (clear I g q1 q2; omega)) (.int i) (.int i) q1 q2).1
    rw [int_eq] at this
    simpa using this
  | @lst a b ws us ea eb f1 f2 hd he =>
    cases r1
    cases r2
    cases q1
    cases q2
    by_cases hne : a = b
    · subst hne; exact SeqAt.EqAt.same _
    obtain ⟨_, xs, e1, ra⟩ := g _ _ ea
    obtain ⟨_, ys, e2, rb⟩ := g _ _ eb
    obtain ⟨its, rv, p, _⟩ := I.list (SqL.of e1)
    obtain ⟨its2, rv2, p2, _⟩ := I.list (SqL.of e2)
    have l1 : its.length = ws.length := by rw [← rv.length, ra.length]
    have l2 : its2.length = us.length := by rw [← rv2.length, rb.length]
    have hl : ws.length = us.length := by
      by_cases hl : ws.length = us.length
      · exact hl
      · rw [eqs_len hl] at he; cases he
    have c1 := SeqAt.RcAt.lists p.isList p2.isList (by rw [List.size_toArray, List.size_toArray, l1, l2, hl]) (A := A) (by (clear I g ea eb f1 f2 hd he hne e1 ra e2 rb rv p rv2 p2 l1 l2 hl; omega)) (eqJ I (n := 10) (by (clear hu I g ea eb f1 f2 he hne e1 ra e2 rb rv p rv2 p2 l1 l2 hl; omega)) f1 f2 (by show A.units + 1 + 10 < cLine; (clear I g ea eb f1 f2 hd he hne e1 ra e2 rb rv p rv2 p2 l1 l2 hl; omega)) ra rb rv rv2)
    have er := eqs_range ws us
    rw [← hl, Nat.min_self, beq_self_eq_true, Bool.and_true] at er
    rw [List.size_toArray, l1, er, he] at c1
    exact SeqAt.EqAt.of_refs hne c1
theorem hits_of {A : Around} (hu : A.units + 20 < cLine) {G : Gp} (I : Inv X pins σ H s) (g : RelG X.K H G) {kb : List (Key × Value)} {us : List (Key × W)} {ub : List (Key × V)} (db : DP X.K H us ub) (rb : KV ub kb) :
    ∀ {kvs : List (Key × W)} {ua : List (Key × V)} {ka : List (Key × Value)}, DP X.K H kvs ua → KV ua ka → (∀ p, p ∈ kvs → ∃ w', valW us p.1 = some w' ∧ SameV G p.2 w') → PySem.W.KeqHits A s kb ka true := by
  intro kvs ua ka d
  induction d generalizing ka with
  | nil =>
    intro r _
    cases r
    exact .nil
  | @cons k w v kvs ua rw' t ih =>
    intro r hv
    cases r with
    | @cons _ b _ bs r1 rt =>
      obtain ⟨b1, b2⟩ := b
      obtain ⟨e1, r2⟩ := r1
      cases (show k = b1 from e1)
      obtain ⟨w', hw, sv⟩ := hv _ List.mem_cons_self
      rcases db.val k with ⟨e, _⟩ | ⟨w2, v2, e, e', r3⟩
      · rw [e] at hw; cases hw
      · rw [e] at hw; cases hw
        obtain ⟨y, hy, ry⟩ := RelO.some_of (v := v2) (o := valueAt kb k) (by rw [← e']; exact rb.val k)
        exact .hit (e := true) (b := true) hy (same_at hu I g sv rw' r3 r2 ry) (ih rt fun p hp => hv p (List.mem_cons_of_mem _ hp))
theorem q_eqD {k : Nat} (hr : Room k X.A) : QOp X (compareOp .Eq) rEqD := by
  intro pins s σ H x y v u Q I rx ry ⟨wx, wy, G, q, r1, r2, g, h, hQ⟩
  unfold rEqD at h
  split at h
  · obtain ⟨r, he, h⟩ := h
    cases he with
    | lst ea eb f1 f2 hd => exact q_eq4 hr pins s σ H x y v u Q I rx ry ⟨_, _, G, q, r1, r2, g, ⟨_, _, ea, eb, f1, f2, hd, h⟩, hQ⟩
    | dic ea eb hl hv =>
      cases r1
      cases r2
      cases rx
      cases ry
      have hu := hr.un
      obtain ⟨_, ua, ra, da⟩ := ea.rd g
      obtain ⟨_, ub, rb, db⟩ := eb.rd g
      obtain ⟨_, ma, ka, qa, dda⟩ := dk_rd I.hok ra
      obtain ⟨_, mb, kb, qb, ddb⟩ := dk_rd I.hok rb
      have hlen : ka.length = kb.length := by rw [← qa.length, ← qb.length, da.len, db.len, hl]
      refine PySem.W.keq_eq ma mb dda ddb (by (clear hr I g hQ ea eb hl hv h ra da rb db ma qa dda mb qb ddb hlen; omega)) (fun _ => hits_of (A := X.A.in1) (by show X.A.units + 1 + 20 < cLine; (clear hr I g hQ ea eb hl hv h ra da rb db ma qa dda mb qb ddb hlen; omega)) I g db qb da qa hv) ?_
      rw [hlen, beq_self_eq_true, Bool.true_and]
      exact ⟨.bl _, H, I, rfl, hQ _ H _ G (TLe.refl H) (.bl _) g h⟩
  · exact q_eq hr pins s σ H x y v u Q I rx ry ⟨wx, wy, G, q, r1, r2, g, h, hQ⟩
theorem q_neD {k : Nat} (hr : Room k X.A) : QOp X (compareOp .NotEq) rNeD := by
  intro pins s σ H x y v u Q I rx ry ⟨wx, wy, G, q, r1, r2, g, h, hQ⟩
  unfold rNeD at h
  split at h
  · obtain ⟨r, he, h⟩ := h
    cases he with
    | lst ea eb f1 f2 hd => exact q_ne4 hr pins s σ H x y v u Q I rx ry ⟨_, _, G, q, r1, r2, g, ⟨_, _, ea, eb, f1, f2, hd, h⟩, hQ⟩
    | dic ea eb hl hv =>
      cases r1
      cases r2
      cases rx
      cases ry
      have hu := hr.un
      obtain ⟨_, ua, ra, da⟩ := ea.rd g
      obtain ⟨_, ub, rb, db⟩ := eb.rd g
      obtain ⟨_, ma, ka, qa, dda⟩ := dk_rd I.hok ra
      obtain ⟨_, mb, kb, qb, ddb⟩ := dk_rd I.hok rb
      have hlen : ka.length = kb.length := by rw [← qa.length, ← qb.length, da.len, db.len, hl]
      refine PySem.W.keq_ne ma mb dda ddb (by (clear hr I g hQ ea eb hl hv h ra da rb db ma qa dda mb qb ddb hlen; omega)) (fun _ => hits_of (A := X.A.in1) (by show X.A.units + 1 + 20 < cLine; (clear hr I g hQ ea eb hl hv h ra da rb db ma qa dda mb qb ddb hlen; omega)) I g db qb da qa hv) ?_
      rw [hlen, beq_self_eq_true, Bool.true_and]
      exact ⟨.bl _, H, I, rfl, hQ _ H _ G (TLe.refl H) (.bl _) g h⟩
  · exact q_ne hr pins s σ H x y v u Q I rx ry ⟨wx, wy, G, q, r1, r2, g, h, hQ⟩
structure Fst (ws : List W) (x : W) (j : Nat) : Prop where
  hit : ∃ w, ws[j]? = some w ∧ w.eq x = true
  no : ∀ m w, m < j → ws[m]? = some w → w.eq x = false
noncomputable def wIdx (to te : WE) : WE := fun τ G q => to τ G fun x G1 => match x with
  | .ref a => (∃ ws, G1 a = some (.lst ws)) ∧ te τ G1 fun y G2 => ∃ ws j, G2 a = some (.lst ws) ∧ InL ws y ∧ Fst ws y j ∧ q (.int (j : Nat)) G2
  | _ => False
noncomputable def wRevL (te : WE) : WE := fun τ G q => te τ G fun x G1 => match x with
  | .ref a => ∃ ws, G1 a = some (.lst ws) ∧ ∀ p, G1 p = none → q (.ref p) (updG G1 p (.lst ws.reverse))
  | _ => False
end
end L2
set_option linter.all false
set_option maxRecDepth 100000
namespace L2
open PySem PySem.Spec PyProof.Rows
section
variable {prog : Program} {w : World} {A : Around} {R : Result → Shared → Prop} {I : Addr} {fp wr : List Addr} {Gn : Array GenState → Array GenState → Prop} {n : Nat} {P : Nat → Value → Prop} {St : Nat → Shared → Prop}
end
section
variable {prog : Program} {w : World} {A : Around} {E : Value → Shared → Prop} {s : Shared}
set_option maxHeartbeats 3200000 in
end
section
variable {X : Cx}
noncomputable def wLenSet (te : WE) : WE := fun τ G q => te τ G fun x G1 => match x with
  | .ref a => ∃ ts : List Str, G1 a = some (.lst (ts.map W.str)) ∧ ts.Nodup ∧ ts.length ≤ 1000 ∧ q (.int (ts.length : Nat)) G1
  | _ => False
end
end L2
set_option linter.all false
set_option maxRecDepth 100000
namespace L2
open PySem PySem.Spec PyProof.Rows
section
variable {X : Cx} {pins : List (Addr × Obj)} {σ : St} {H : Hp} {s : Shared}
set_option maxHeartbeats 4000000 in
inductive DSrc (G : Gp) (a : Addr) (kvs : List (Key × W)) : Prop where
  | dic (h : GD G a kvs) : DSrc G a kvs
  | lst {ps : List (Key × W)} (h : G a = some (.lst (ps.map fun p => .tup [kW p.1, p.2]))) (e : kvs = ps.foldl (fun a p => putD a p.1 p.2) []) : DSrc G a kvs
noncomputable def cDic : List W → Gp → WK → Prop := fun ws G q => match ws with
  | [.ref a] => ∃ kvs, DSrc G a kvs ∧ ∀ p, G p = none → q (.ref p) (updG G p (.dic kvs))
  | _ => False
end
end L2
set_option linter.all false
set_option maxRecDepth 100000
namespace L2
open PySem PySem.Spec PyProof.Rows
section
variable {prog : Program} {w : World} {A : Around} {s : Shared}
noncomputable def EqIn (prog : Program) (w : World) (A : Around) (s : Shared) (u v : Value) : Prop := ∀ (E : Value → Shared → Prop) (Q : Bool → Shared → Prop), Q true s → wpAny (model prog w) A (eqBool u v) Q E s
theorem EqIn.of {u v : Value} (h : SeqAt.EqAt A s u v true) : EqIn prog w A s u v := fun E Q q => h prog w E Q q
theorem EqIn.refs {l b : Addr} (h : l ≠ b → ∀ (E : Value → Shared → Prop) (Q : Value → Shared → Prop), Q (.bool true) s → wpAny (model prog w) A (richCompare .Eq (.ref l) (.ref b)) Q E s) : EqIn prog w A s (.ref l) (.ref b) := by
  by_cases hne : l = b
  · subst hne
    exact .of (SeqAt.EqAt.same _)
  · exact fun E Q q => wpAny_holding (wpAny_ite_split (fun hab => absurd (by have := eq_of_beq hab; injection this) hne) fun _ => wpAny_bind (h hne E _ (wpAny_truthy_bool q)))
theorem rc_pair {l b : Addr} {x1 x2 y1 y2 : Value} (hl : s.heap.IsTuple l #[x1, x2]) (hb : s.heap.IsTuple b #[y1, y2]) (hu : A.units < cLine) (h1 : EqIn prog w A.in1 s x1 y1) (h2 : EqIn prog w A.in1 s x2 y2) (E : Value → Shared → Prop) (Q : Value → Shared → Prop) (q : Q (.bool true) s) :
    wpAny (model prog w) A (richCompare .Eq (.ref l) (.ref b)) Q E s := by
  obtain ⟨o1, e1, c1, n1, d1⟩ := id hl
  obtain ⟨o2, e2, c2, n2, d2⟩ := id hb
  refine wpAny_richCompare_same_room (T := "tuple") ⟨o1, e1, c1⟩ ⟨o2, e2, c2⟩ PySem.F.slot_tuple_eq (wpAny_call_entry PySem.F.slot_tuple_eq ⟨o1, e1, c1⟩ PySem.F.entry_tuple_eq ?_ (PySem.F.args_tuple_eq_2 _ _)) hu
  unfold Builtin.«tuple.__eq__»
  k_delta "compare"
  refine wpAny_bind ?_
  unfold slotArgs
  refine wpAny_ite_false (by rfl) (wpAny_ite_false (by rfl) (wpAny_pure ?_))
  dsimp only
  refine wpAny_bind (wpAny_isInstance (T := "tuple") (b := true) ⟨o2, e2, c2⟩ (by rfl) ?_)
  refine wpAny_ite_false (by rfl) ?_
  refine wpAny_bind (wpAny_tupleItemsOf e1 d1 ?_)
  refine wpAny_bind (wpAny_tupleItemsOf e2 d2 ?_)
  rw [show (#[x1, x2] : Array Value).toList.zip (#[y1, y2] : Array Value).toList = [(x1, y1), (x2, y2)] from rfl]
  simp only [List.forIn_cons, List.forIn_nil]
  refine wpAny_bind (wpAny_bind (wpAny_bind (h1 _ _ ?_)))
  refine wpAny_ite_false (by rfl) (wpAny_pure ?_)
  dsimp only
  refine wpAny_bind (wpAny_bind (h2 _ _ ?_))
  refine wpAny_ite_false (by rfl) (wpAny_pure ?_)
  refine wpAny_pure ?_
  dsimp only
  exact wpAny_pure ⟨.bool true, rfl, (fun z => nomatch z), q⟩
theorem eq_loop {c : Int} {r : Bool} (hc : (c = 2 ∧ r = true) ∨ (c = 3 ∧ r = false)) {l b : Addr} {items items2 : Array Value} {o1 o2 : Obj} {n1 n2 : Nat} (e1 : s.heap.get? l = some o1) (d1 : o1.data = .seq items n1) (e2 : s.heap.get? b = some o2) (d2 : o2.data = .seq items2 n2) (hz : items.size = items2.size) {R : Result → Shared → Prop}
    (he : ∀ (j : Nat) (u v : Value), items[j]? = some u → items2[j]? = some v → EqIn prog w A.in1 s u v) (hR : R (.ok (.ret (.bool r))) s) :
    ∀ (m i : Nat) (t t' : Tok), i + m = items.size → codeAny (model prog w) A (.builtin "list.__eq__.loop" ⟨[.ref l, .ref b, .int (i : Int) t, .int c t'], []⟩) R s
  | 0, i, t, t', hi => by
    refine codeAny_builtin PySem.MeetsSeq3.entry_eq_loop ?_
    have n1 : items[i]? = none := by simp; (clear hc e1 d1 e2 d2 he hR; omega)
    unfold Builtin.«list.__eq__.loop»
    k_delta "cmpOps"
    rcases hc with ⟨rfl, rfl⟩ | ⟨rfl, rfl⟩
    · dsimp only
      rw [show (([CmpOp.Lt, CmpOp.LtE, CmpOp.Eq, CmpOp.NotEq, CmpOp.Gt, CmpOp.GtE] : List CmpOp)[Int.toNat 2]?) = some CmpOp.Eq from rfl]
      refine wpAny_bind (wpAny_listItems e1 d1 (wpAny_bind (wpAny_listItems e2 d2 ?_)))
      rw [Int.toNat_natCast, n1]
      refine wpAny_bind (wpAny_listItems e1 d1 (wpAny_bind (wpAny_listItems e2 d2 ?_)))
      refine wpAny_pure ?_
      show R (Except.ok (Flow.ret (Value.bool (items.size == items2.size)))) s
      rw [hz, beq_self_eq_true]
      exact hR
    · dsimp only
      rw [show (([CmpOp.Lt, CmpOp.LtE, CmpOp.Eq, CmpOp.NotEq, CmpOp.Gt, CmpOp.GtE] : List CmpOp)[Int.toNat 3]?) = some CmpOp.NotEq from rfl]
      refine wpAny_bind (wpAny_listItems e1 d1 (wpAny_bind (wpAny_listItems e2 d2 ?_)))
      rw [Int.toNat_natCast, n1]
      refine wpAny_bind (wpAny_listItems e1 d1 (wpAny_bind (wpAny_listItems e2 d2 ?_)))
      refine wpAny_pure ?_
      show R (Except.ok (Flow.ret (Value.bool (items.size != items2.size)))) s
      rw [hz, bne_self_eq_false]
      exact hR
  | m + 1, i, t, t', hi => by
    have ih := eq_loop hc e1 d1 e2 d2 hz he hR m (i + 1) 0 0 (by (clear hc e1 d1 e2 d2 he hR; omega))
    refine codeAny_builtin PySem.MeetsSeq3.entry_eq_loop ?_
    have l1 : i < items.size := by (clear hc e1 d1 e2 d2 he hR ih; omega)
    have n1 : items[i]? = some items[i] := by simp
    have n2 : items2[i]? = some (items2[i]'(by (clear hc e1 d1 e2 d2 he hR ih l1 n1; omega))) := by simp
    unfold Builtin.«list.__eq__.loop»
    k_delta "cmpOps"
    rcases hc with ⟨rfl, rfl⟩ | ⟨rfl, rfl⟩
    · dsimp only
      rw [show (([CmpOp.Lt, CmpOp.LtE, CmpOp.Eq, CmpOp.NotEq, CmpOp.Gt, CmpOp.GtE] : List CmpOp)[Int.toNat 2]?) = some CmpOp.Eq from rfl]
      refine wpAny_bind (wpAny_listItems e1 d1 (wpAny_bind (wpAny_listItems e2 d2 ?_)))
      rw [Int.toNat_natCast, n1, n2]
      refine wpAny_bind (he i _ _ n1 n2 _ _ ?_)
      refine wpAny_ite_true (by rfl) ?_
      exact wpAny_pure ⟨PySem.plainId_quiet PySem.MeetsSeq3.plain_eq_loop _, ih⟩
    · dsimp only
      rw [show (([CmpOp.Lt, CmpOp.LtE, CmpOp.Eq, CmpOp.NotEq, CmpOp.Gt, CmpOp.GtE] : List CmpOp)[Int.toNat 3]?) = some CmpOp.NotEq from rfl]
      refine wpAny_bind (wpAny_listItems e1 d1 (wpAny_bind (wpAny_listItems e2 d2 ?_)))
      rw [Int.toNat_natCast, n1, n2]
      refine wpAny_bind (he i _ _ n1 n2 _ _ ?_)
      refine wpAny_ite_true (by rfl) ?_
      exact wpAny_pure ⟨PySem.plainId_quiet PySem.MeetsSeq3.plain_eq_loop _, ih⟩
theorem rc_list {op : CmpOp} {r : Bool} (hop : (op = .Eq ∧ r = true) ∨ (op = .NotEq ∧ r = false)) {l b : Addr} {items items2 : Array Value} (hl : s.heap.IsList l items) (hb : s.heap.IsList b items2) (hz : items.size = items2.size) (hu : A.units < cLine)
    (he : ∀ (j : Nat) (u v : Value), items[j]? = some u → items2[j]? = some v → EqIn prog w A.in1 s u v) (E : Value → Shared → Prop) (Q : Value → Shared → Prop) (q : Q (.bool r) s) :
    wpAny (model prog w) A (richCompare op (.ref l) (.ref b)) Q E s := by
  obtain ⟨o1, e1, c1, n1, d1⟩ := id hl
  obtain ⟨o2, e2, c2, n2, d2⟩ := id hb
  rcases hop with ⟨rfl, rfl⟩ | ⟨rfl, rfl⟩
  · refine wpAny_richCompare_same_room (T := "list") ⟨o1, e1, c1⟩ ⟨o2, e2, c2⟩ PySem.F.slot_list_eq (call_meetsIn PySem.F.slot_list_eq ⟨o1, e1, c1⟩ PySem.F.entry_list_eq (PySem.F.args_list_eq_2 _ _) (S := fun A' R s' => A' = A ∧ s' = s ∧ R (.ok (.ret (.bool true))) s) ?_ ⟨rfl, rfl, (fun z => nomatch z), q⟩) hu
    rintro A' R s' ⟨rfl, rfl, hR⟩
    unfold Builtin.«list.__eq__»
    k_delta "listCompare"
    refine wpAny_bind ?_
    unfold slotArgs
    refine wpAny_ite_false (by rfl) (wpAny_ite_false (by rfl) (wpAny_pure ?_))
    dsimp only
    refine wpAny_bind (wpAny_isInstance (T := "list") (b := true) ⟨o2, e2, c2⟩ PySem.AutoSeq1.sub_list_list ?_)
    refine wpAny_ite_false (by rfl) ?_
    refine wpAny_ite_true (by rfl) ?_
    refine wpAny_bind (wpAny_listItems e1 d1 (wpAny_bind (wpAny_listItems e2 d2 ?_)))
    refine wpAny_ite_false (by rw [hz, bne_self_eq_false]; rfl) ?_
    exact wpAny_pure ⟨PySem.plainId_quiet PySem.MeetsSeq3.plain_eq_loop _, eq_loop (.inl ⟨rfl, rfl⟩) e1 d1 e2 d2 hz he hR items.size 0 0 0 (by (clear hz c1 d1 c2 d2 hu hl hb e1 e2 q he hR; omega))⟩
  · refine wpAny_richCompare_same_room (T := "list") ⟨o1, e1, c1⟩ ⟨o2, e2, c2⟩ PySem.F.slot_list_ne (call_meetsIn PySem.F.slot_list_ne ⟨o1, e1, c1⟩ PySem.F.entry_list_ne (PySem.F.args_list_ne_2 _ _) (S := fun A' R s' => A' = A ∧ s' = s ∧ R (.ok (.ret (.bool false))) s) ?_ ⟨rfl, rfl, (fun z => nomatch z), q⟩) hu
    rintro A' R s' ⟨rfl, rfl, hR⟩
    unfold Builtin.«list.__ne__»
    k_delta "listCompare"
    refine wpAny_bind ?_
    unfold slotArgs
    refine wpAny_ite_false (by rfl) (wpAny_ite_false (by rfl) (wpAny_pure ?_))
    dsimp only
    refine wpAny_bind (wpAny_isInstance (T := "list") (b := true) ⟨o2, e2, c2⟩ PySem.AutoSeq1.sub_list_list ?_)
    refine wpAny_ite_false (by rfl) ?_
    refine wpAny_ite_true (by rfl) ?_
    refine wpAny_bind (wpAny_listItems e1 d1 (wpAny_bind (wpAny_listItems e2 d2 ?_)))
    refine wpAny_ite_false (by rw [hz, bne_self_eq_false]; rfl) ?_
    exact wpAny_pure ⟨PySem.plainId_quiet PySem.MeetsSeq3.plain_eq_loop _, eq_loop (.inr ⟨rfl, rfl⟩) e1 d1 e2 d2 hz he hR items.size 0 0 0 (by (clear hz c1 d1 c2 d2 hu hl hb e1 e2 q he hR; omega))⟩
end
section
variable {X : Cx} {pins : List (Addr × Obj)} {σ : St} {H : Hp} {s : Shared}
inductive SameG (G : Gp) : Nat → W → W → Prop where
  | flat {n : Nat} {x y : W} (f1 : x.flat = true) (f2 : y.flat = true) (hd : x.dep ≤ 140) (he : x.eq y = true) : SameG G n x y
  | same {n : Nat} {a : Addr} : SameG G n (.ref a) (.ref a)
  | dic {n : Nat} {a b : Addr} {kvs us : List (Key × W)} (ea : GD G a kvs) (eb : GD G b us) (hl : kvs.length = us.length) (hv : ∀ p, p ∈ kvs → ∃ w', valW us p.1 = some w' ∧ SameV G p.2 w') : SameG G n (.ref a) (.ref b)
  | pair {n : Nat} {x1 x2 y1 y2 : W} (h1 : SameG G n x1 y1) (h2 : SameG G n x2 y2) : SameG G (n + 1) (.tup [x1, x2]) (.tup [y1, y2])
theorem same_deep {G : Gp} (I : Inv X pins σ H s) (g : RelG X.K H G) {n : Nat} {w1 w2 : W} (h : SameG G n w1 w2) : ∀ {A : Around} {v1 v2 : V} {u1 u2 : Value}, A.units + n + 160 < cLine → Rep X.K H w1 v1 → Rep X.K H w2 v2 → RelV v1 u1 → RelV v2 u2 → EqIn X.prog X.w A s u1 u2 := by
  induction h with
  | @flat n x y f1 f2 hd he =>
    intro A v1 v2 u1 u2 hu r1 r2 q1 q2
    have := (eq_rep I 150 A (w1 := x) (w2 := y) (by (clear I g f1 f2 he hu r1 r2 q1 q2; omega)) f1 f2 (by (clear I g f1 f2 hd he r1 r2 q1 q2; omega)) r1 r2 q1 q2).1
    rw [he] at this
    exact .of this
  | same =>
    intro A v1 v2 u1 u2 hu r1 r2 q1 q2
    cases r1
    cases r2
    cases q1
    cases q2
    exact .of (SeqAt.EqAt.same _)
  | @dic n a b kvs us ea eb hl hv =>
    intro A v1 v2 u1 u2 hu r1 r2 q1 q2
    cases r1
    cases r2
    cases q1
    cases q2
    obtain ⟨_, ua, ra, da⟩ := ea.rd g
    obtain ⟨_, ub, rb, db⟩ := eb.rd g
    obtain ⟨_, ma, ka, qa, dda⟩ := dk_rd I.hok ra
    obtain ⟨_, mb, kb, qb, ddb⟩ := dk_rd I.hok rb
    have hlen : ka.length = kb.length := by rw [← qa.length, ← qb.length, da.len, db.len, hl]
    refine EqIn.refs fun hne E Q q => ?_
    refine PySem.W.keq_eq ma mb dda ddb (by (clear I g ea eb hl hv ra da rb db ma qa dda mb qb ddb hlen hne q; omega)) (fun _ => hits_of (A := A.in1) (by show A.units + 1 + 20 < cLine; (clear I g ea eb hl hv ra da rb db ma qa dda mb qb ddb hlen hne q; omega)) I g db qb da qa hv) ?_
    rw [hlen, beq_self_eq_true, Bool.true_and]
    exact q
  | @pair n x1 x2 y1 y2 h1 h2 ih1 ih2 =>
    intro A v1 v2 u1 u2 hu r1 r2 q1 q2
    cases r1 with
    | @tup a _ xs hT rr =>
      cases r2 with
      | @tup b _ ys hT2 rr2 =>
        cases (show u1 = Value.ref a from q1)
        cases (show u2 = Value.ref b from q2)
        obtain ⟨its, rv, hp, _⟩ := I.tuple (SqT.of hT)
        obtain ⟨its2, rv2, hp2, _⟩ := I.tuple (SqT.of hT2)
        cases rr with
        | cons a1 rr =>
          cases rr with
          | cons a2 rr =>
            cases rr
            cases rr2 with
            | cons b1 rr2 =>
              cases rr2 with
              | cons b2 rr2 =>
                cases rr2
                obtain ⟨p1, p2, rfl, c1, c2⟩ := vals2' rv
                obtain ⟨t1, t2, rfl, d1, d2⟩ := vals2' rv2
                exact EqIn.refs fun hne E Q q => rc_pair hp hp2 (by (clear I g h1 h2 ih1 ih2 q1 q2 a1 a2 hT b1 b2 hT2 hp rv c1 c2 hp2 rv2 d1 d2 hne q; omega)) (ih1 (A := A.in1) (by show A.units + 1 + n + 160 < cLine; (clear I g h1 h2 ih1 ih2 q1 q2 a1 a2 hT b1 b2 hT2 hp rv c1 c2 hp2 rv2 d1 d2 hne q; omega)) a1 b1 c1 d1) (ih2 (A := A.in1) (by show A.units + 1 + n + 160 < cLine; (clear I g h1 h2 ih1 ih2 q1 q2 a1 a2 hT b1 b2 hT2 hp rv c1 c2 hp2 rv2 d1 d2 hne q; omega)) a2 b2 c2 d2) E Q q
inductive EqX (G : Gp) (a b : Addr) : Bool → Prop where
  | old {r : Bool} (h : EqD G a b r) : EqX G a b r
  | nil {ws : List W} (ea : G a = some (.lst ws)) (eb : G b = some (.lst [])) : EqX G a b ws.isEmpty
  | deep {ws us : List W} (ea : G a = some (.lst ws)) (eb : G b = some (.lst us)) (hl : ws.length = us.length) (he : ∀ (j : Nat) (x y : W), ws[j]? = some x → us[j]? = some y → SameG G 9 x y) : EqX G a b true
noncomputable def rEqG : W2 := fun x y G q => match x, y with
  | .ref a, .ref b => ∃ r, EqX G a b r ∧ q (.bl r) G
  | x, y => rEq3 x y G q
noncomputable def rNeG : W2 := fun x y G q => match x, y with
  | .ref a, .ref b => ∃ r, EqX G a b r ∧ q (.bl (!r)) G
  | x, y => rNe3 x y G q
theorem deep_rc {k : Nat} (hr : Room k X.A) {op : CmpOp} {r : Bool} (hop : (op = .Eq ∧ r = true) ∨ (op = .NotEq ∧ r = false)) {G : Gp} (I : Inv X pins σ H s) (g : RelG X.K H G) {a b : Addr} {ws us : List W} (ea : G a = some (.lst ws)) (eb : G b = some (.lst us)) (hl : ws.length = us.length)
    (he : ∀ (j : Nat) (x y : W), ws[j]? = some x → us[j]? = some y → SameG G 9 x y) (E : Value → Shared → Prop) (Q : Value → Shared → Prop) (q : Q (.bool r) s) : wpAny (model X.prog X.w) X.A (richCompare op (.ref a) (.ref b)) Q E s := by
  have hu := hr.un
  obtain ⟨_, xs, e1, ra⟩ := g _ _ ea
  obtain ⟨_, ys, e2, rb⟩ := g _ _ eb
  obtain ⟨its, rv, p, _⟩ := I.list (SqL.of e1)
  obtain ⟨its2, rv2, p2, _⟩ := I.list (SqL.of e2)
  have l1 : its.length = ws.length := by rw [← rv.length, ra.length]
  have l2 : its2.length = us.length := by rw [← rv2.length, rb.length]
  refine rc_list hop p.isList p2.isList (by rw [List.size_toArray, List.size_toArray, l1, l2, hl]) (by (clear hr hop I g ea eb hl he q e1 ra e2 rb rv p rv2 p2 l1 l2; omega)) (fun j u v hj hv => ?_) E Q q
  rw [List.getElem?_toArray] at hj hv
  have j1 : j < ws.length := by
    rw [← l1]
    exact (List.getElem?_eq_some_iff.mp hj).1
  have gw := List.getElem?_eq_getElem j1
  have gu := List.getElem?_eq_getElem (show j < us.length by (clear hr hop I g ea eb he q hu e1 ra e2 rb rv p rv2 p2 hj hv gw; omega))
  obtain ⟨x, hx, rx⟩ := ra.get gw
  obtain ⟨y, hy, ry⟩ := rb.get gu
  obtain ⟨u', hu', qu⟩ := rv.get hx
  obtain ⟨v', hv', qv⟩ := rv2.get hy
  rw [hj] at hu'
  rw [hv] at hv'
  cases hu'
  cases hv'
  exact same_deep I g (he j _ _ gw gu) (A := X.A.in1) (by show X.A.units + 1 + 9 + 160 < cLine; (clear hr hop I g ea eb hl he q e1 ra e2 rb rv p rv2 p2 l1 l2 hj hv j1 gw gu hx rx hy ry qu qv; omega)) rx ry qu qv
theorem nil_rc {k : Nat} (hr : Room k X.A) {G : Gp} (I : Inv X pins σ H s) (g : RelG X.K H G) {a b : Addr} {x : W} {ws : List W} (ea : G a = some (.lst (x :: ws))) (eb : G b = some (.lst [])) (E : Value → Shared → Prop) (Q : Value → Shared → Prop) :
    (Q (.bool false) s → wpAny (model X.prog X.w) X.A (richCompare .Eq (.ref a) (.ref b)) Q E s) ∧ (Q (.bool true) s → wpAny (model X.prog X.w) X.A (richCompare .NotEq (.ref a) (.ref b)) Q E s) := by
  have hu := hr.un
  obtain ⟨_, xs, e1, ra⟩ := g _ _ ea
  obtain ⟨_, ys, e2, rb⟩ := g _ _ eb
  obtain ⟨its, rv, p, _⟩ := I.list (SqL.of e1)
  obtain ⟨its2, rv2, p2, _⟩ := I.list (SqL.of e2)
  have l1 : its.length = (x :: ws).length := by rw [← rv.length, ra.length]
  have l2 : its2.length = ([] : List W).length := by rw [← rv2.length, rb.length]
  have ne : (its.toArray.size != its2.toArray.size) = true := by rw [List.size_toArray, List.size_toArray, l1, l2]; simp
  exact ⟨fun q => SeqAt.RcAt.lists_lengths p.isList p2.isList (by simpa using ne) (A := X.A) (by (clear hr I g ea eb e1 ra e2 rb rv p rv2 p2 l1 l2 ne q; omega)) X.prog X.w E Q q, fun q => SeqAt.RcNeAt.lists_lengths p.isList p2.isList (by simpa using ne) (A := X.A) (by (clear hr I g ea eb e1 ra e2 rb rv p rv2 p2 l1 l2 ne q; omega)) X.prog X.w E Q q⟩
theorem q_eqG {k : Nat} (hr : Room k X.A) : QOp X (compareOp .Eq) rEqG := by
  intro pins s σ H x y v u Q I rx ry ⟨wx, wy, G, q, r1, r2, g, h, hQ⟩
  unfold rEqG at h
  split at h
  · rename_i a b
    obtain ⟨r, he, h⟩ := h
    have fin : EP X pins σ Q (.bool r) s := ⟨.bl _, H, I, rfl, hQ _ H _ G (TLe.refl H) (.bl _) g h⟩
    cases he with
    | old he => exact q_eqD hr pins s σ H x y v u Q I rx ry ⟨_, _, G, q, r1, r2, g, ⟨r, he, h⟩, hQ⟩
    | @nil ws ea eb =>
      cases r1
      cases r2
      cases rx
      cases ry
      cases ws with
      | nil => exact deep_rc hr (.inl ⟨rfl, rfl⟩) I g ea eb rfl (fun j x y z => by cases z) X.xe _ fin
      | cons x ws => exact (nil_rc hr I g ea eb X.xe _).1 fin
    | deep ea eb hl he =>
      cases r1
      cases r2
      cases rx
      cases ry
      exact deep_rc hr (.inl ⟨rfl, rfl⟩) I g ea eb hl he X.xe _ fin
  · exact q_eq hr pins s σ H x y v u Q I rx ry ⟨wx, wy, G, q, r1, r2, g, h, hQ⟩
theorem q_neG {k : Nat} (hr : Room k X.A) : QOp X (compareOp .NotEq) rNeG := by
  intro pins s σ H x y v u Q I rx ry ⟨wx, wy, G, q, r1, r2, g, h, hQ⟩
  unfold rNeG at h
  split at h
  · rename_i a b
    obtain ⟨r, he, h⟩ := h
    have fin : EP X pins σ Q (.bool (!r)) s := ⟨.bl _, H, I, rfl, hQ _ H _ G (TLe.refl H) (.bl _) g h⟩
    cases he with
    | old he => exact q_neD hr pins s σ H x y v u Q I rx ry ⟨_, _, G, q, r1, r2, g, ⟨r, he, h⟩, hQ⟩
    | @nil ws ea eb =>
      cases r1
      cases r2
      cases rx
      cases ry
      cases ws with
      | nil => exact deep_rc hr (.inr ⟨rfl, rfl⟩) I g ea eb rfl (fun j x y z => by cases z) X.xe _ fin
      | cons x ws => exact (nil_rc hr I g ea eb X.xe _).2 fin
    | deep ea eb hl he =>
      cases r1
      cases r2
      cases rx
      cases ry
      exact deep_rc hr (.inr ⟨rfl, rfl⟩) I g ea eb hl he X.xe _ fin
  · exact q_ne hr pins s σ H x y v u Q I rx ry ⟨wx, wy, G, q, r1, r2, g, h, hQ⟩
end
end L2
set_option linter.all false
set_option maxRecDepth 100000
namespace L2
open PySem PySem.Spec PyProof.Rows Nm
mutual
inductive KIs (h : Heap) : Nat → W → Value → Prop where
  | int {d : Nat} (n : Int) (t : Tok) : KIs h d (.int n) (.int n t)
  | tup {d : Nat} {a : Addr} {o : Obj} {items : Array Value} {n : Nat} {ws : List W} (gO : h.get? a = some o) (hc : o.cls = .type "tuple") (dO : o.data = .seq items n) (hs : KIss h d ws items.toList) : KIs h (d + 1) (.tup ws) (.ref a)
inductive KIss (h : Heap) : Nat → List W → List Value → Prop where
  | nil {d : Nat} : KIss h d [] []
  | cons {d : Nat} {w : W} {v : Value} {ws : List W} {vs : List Value} (r : KIs h d w v) (rs : KIss h d ws vs) : KIss h d (w :: ws) (v :: vs)
end
section
variable {h h' : Heap}
mutual
theorem KIs.inj : ∀ {d d' : Nat} {w w' : W} {v : Value}, KIs h d w v → KIs h d' w' v → w = w'
  | _, _, _, _, _, .int n t, .int _ _ => rfl
  | _, _, _, _, _, .tup gO hc dO hs, .tup gO' hc' dO' hs' => by
    cases gO.symm.trans gO'
    rw [dO] at dO'
    injection dO' with e1 _
    subst e1
    rw [KIss.inj hs hs']
theorem KIss.inj : ∀ {d d' : Nat} {ws ws' : List W} {vs : List Value}, KIss h d ws vs → KIss h d' ws' vs → ws = ws'
  | _, _, _, _, _, .nil, .nil => rfl
  | _, _, _, _, _, .cons r rs, .cons r' rs' => by rw [KIs.inj r r', KIss.inj rs rs']
end
mutual
theorem KIs.keeps (k : ∀ a o items n, h.get? a = some o → o.data = .seq items n → h'.get? a = some o) : ∀ {d : Nat} {w : W} {v : Value}, KIs h d w v → KIs h' d w v
  | _, _, _, .int n t => .int n t
  | _, _, _, .tup gO hc dO hs => .tup (k _ _ _ _ gO dO) hc dO (KIss.keeps k hs)
theorem KIss.keeps (k : ∀ a o items n, h.get? a = some o → o.data = .seq items n → h'.get? a = some o) : ∀ {d : Nat} {ws : List W} {vs : List Value}, KIss h d ws vs → KIss h' d ws vs
  | _, _, _, .nil => .nil
  | _, _, _, .cons r rs => .cons (KIs.keeps k r) (KIss.keeps k rs)
end
end
section
variable (P : Program) (w : World)
mutual
noncomputable def hashW : W → Int
  | .int n => (mixKind P w).hash (.inl n)
  | .tup ws => reduceHash (Builtin.Tuple.tupleHashOf (hashWs ws))
  | _ => 0
noncomputable def hashWs : List W → List Int
  | [] => []
  | x :: xs => hashW x :: hashWs xs
end
mutual
noncomputable def drwW : W → Nat
  | .int _ => 1
  | .tup ws => drwWs ws + 1
  | _ => 0
noncomputable def drwWs : List W → Nat
  | [] => 0
  | x :: xs => drwW x + drwWs xs
end
end
theorem drw_app (xs ys : List W) : drwWs (xs ++ ys) = drwWs xs + drwWs ys := by
  induction xs with
  | nil => simp [drwWs]
  | cons x xs ih => show drwW x + drwWs (xs ++ ys) = _; rw [ih]; simp [drwWs, Nat.add_assoc]
theorem hash_app (P : Program) (w : World) (xs ys : List W) : hashWs P w (xs ++ ys) = hashWs P w xs ++ hashWs P w ys := by
  induction xs with
  | nil => rfl
  | cons x xs ih => show hashW P w x :: hashWs P w (xs ++ ys) = _; rw [ih]; rfl
section
variable {prog : Program} {w : World}
theorem kTup_type {s : Shared} {a : Addr} {o : Obj} (gO : s.heap.get? a = some o) (hc : o.cls = .type "tuple") : s.TypeIs (.ref a) "tuple" := ⟨o, gO, hc⟩
theorem hash_tup {A : Around} {E : Value → Shared → Prop} {s : Shared} {d : Nat} {ws : List W} {a : Addr} {o : Obj} {items : Array Value} {n : Nat} {Q : Int → Shared → Prop} (hu : A.units + d + 1 < cLine) (gO : s.heap.get? a = some o) (hc : o.cls = .type "tuple") (dO : o.data = .seq items n) (hi : KIss s.heap d ws items.toList)
    (ih : ∀ (x : W) (v : Value) (A' : Around) (E' : Value → Shared → Prop) (tk : Nat) (Q' : Int → Shared → Prop), x ∈ ws → KIs s.heap d x v → A'.units + d < cLine → Q' (hashW prog w x) { s with toks := tk + drwW x } → wpAny (model prog w) A' (pyHash v) Q' E' { s with toks := tk })
    (h : Q (hashW prog w (.tup ws)) { s with toks := s.toks + drwW (.tup ws) }) : wpAny (model prog w) A (pyHash (.ref a)) Q E s := by
  have tp := kTup_type gO hc
  unfold pyHash
  first | unfold pyHashByItsType | skip
  first | refine wpAny_bind (wpAny_cRoomFor_or (.inr (by (clear gO hc dO hi ih h tp; omega))) ?_) | skip
  refine wpAny_bind (wpAny_specialOf tp F.slot_tuple_hash.lookup ?_)
  rw [show (some (Value.builtin "tuple.__hash__") == some Value.none) = false from by rw [beq_builtin_none], if_neg Bool.false_ne_true]
  refine wpAny_bind (wpAny_specialOf tp F.slot_tuple_hash.lookup ?_)
  show wpAny _ _ (callSpecialIfBoundUnlessNone? (.ref a) "__hash__" _ >>= _) Q E s
  refine wpAny_bind (wpAny_callSpecialIfBoundUnlessNone?_slot tp F.slot_tuple_hash (wpAny_call_entry F.slot_tuple_hash tp F.entry_tuple_hash ?_ (F.args_tuple_hash_1 _)))
  show wpAny _ _ (Builtin.Tuple.tupleItemsOf (.ref a) >>= _) _ _ s
  refine wpAny_bind (wpAny_tupleItemsOf gO dO ?_)
  refine wpAny_bind ?_
  rw [← Array.forIn_toList]
  refine wpAny_forIn_list _
    (fun rest (b : Array Int) s' => ∃ done left, ws = done ++ left ∧ KIss s.heap d left rest ∧ b.toList = hashWs prog w done ∧ s' = { s with toks := s.toks + drwWs done })
    _ ?_ ?_ _ _ ⟨[], ws, rfl, hi, rfl, rfl⟩
  · rintro x rest b s' ⟨done, left, rfl, hL, hB, rfl⟩
    cases hL with
    | @cons _ k _ ks' _ h1 hL' =>
      refine wpAny_bind (ih k x _ _ _ _ (by simp) h1 (by first | omega | (show A.units + 1 + d < cLine; (clear gO hc dO tp hB hi ih h h1 hL'; omega))) ?_)
      have e1 : b.toList ++ [hashW prog w k] = hashWs prog w (done ++ [k]) := by rw [hB, hash_app]; rfl
      have e2 : s.toks + drwWs done + drwW k = s.toks + drwWs (done ++ [k]) := by rw [drw_app]; simp [drwWs, Nat.add_assoc]
      first
        | exact wpAny_pure ⟨done ++ [k], ks', by simp, hL', by simpa using e1, by rw [← e2]⟩
        | exact wpAny_bind (wpAny_pure (wpAny_pure ⟨done ++ [k], ks', by simp, hL', by simpa using e1, by rw [← e2]⟩))
  · rintro b s' ⟨done, left, rfl, hL, hB, rfl⟩
    cases hL
    rw [List.append_nil] at h
    show wpAny _ _ (retInt (Builtin.Tuple.tupleHashOf b.toList)) _ _ _
    rw [hB]
    refine wpAny_ret_mkInt ?_
    have h : Q (reduceHash (Builtin.Tuple.tupleHashOf (hashWs prog w done))) { s with toks := s.toks + (drwWs done + 1) } := h
    generalize hashWs prog w done = hs at h ⊢
    show wpAny _ _ (if (decide (-(2 : Int) ^ 63 ≤ Builtin.Tuple.tupleHashOf hs) && decide (Builtin.Tuple.tupleHashOf hs < 2 ^ 63)) = true then _ else _) Q E _
    unfold reduceHash at h
    by_cases hR : (decide (-(2 : Int) ^ 63 ≤ Builtin.Tuple.tupleHashOf hs) && decide (Builtin.Tuple.tupleHashOf hs < 2 ^ 63)) = true
    · rw [if_pos hR]
      rw [if_pos hR] at h
      exact wpAny_pure (by simpa [Nat.add_assoc] using h)
    · rw [if_neg hR]
      rw [if_neg hR] at h
      exact wpAny_bind (wpAny_rule (wpAny_pure (by simpa [Nat.add_assoc] using h)))
theorem KIs.hash {s : Shared} : ∀ (d : Nat) {x : W} {v : Value}, KIs s.heap d x v → ∀ {A : Around} {E : Value → Shared → Prop} {tk : Nat} {Q : Int → Shared → Prop}, A.units + d < cLine → Q (hashW prog w x) { s with toks := tk + drwW x } → wpAny (model prog w) A (pyHash v) Q E { s with toks := tk }
  | _, _, _, .int n t, A, E, tk, Q, hu, h => (mixKind prog w).pyHash (k := .inl n) (mixKind_int prog w n t) h
  | d + 1, _, _, .tup (ws := ws) gO hc dO hs, A, E, tk, Q, hu, h =>
    hash_tup (s := { s with toks := tk }) (d := d) (ws := ws) (by assumption) gO hc dO hs (fun x v A' E' tk' Q' _ hk hu' hq => KIs.hash d hk hu' hq) h
noncomputable def eqK (p : Prop) : Bool := @decide p (Classical.propDecidable p)
theorem eqK_t {p : Prop} (h : p) : eqK p = true := @decide_eq_true p (Classical.propDecidable p) h
theorem eqK_f {p : Prop} (h : ¬ p) : eqK p = false := @decide_eq_false p (Classical.propDecidable p) h
inductive Sh : W → W → Prop where
  | int (n m : Int) : Sh (.int n) (.int m)
  | tup {xs ys : List W} (h : ∀ p, p ∈ xs.zip ys → Sh p.1 p.2) : Sh (.tup xs) (.tup ys)
theorem eq_tup {A : Around} {E : Value → Shared → Prop} {s : Shared} {d : Nat} {x y : List W} {a b : Addr} {oa ob : Obj} {xs ys : Array Value} {na nb : Nat} {R : PySem.Fin → Shared → Prop} (gA : s.heap.get? a = some oa) (hca : oa.cls = .type "tuple") (dA : oa.data = .seq xs na) (hia : KIss s.heap d x xs.toList) (gB : s.heap.get? b = some ob) (hcb : ob.cls = .type "tuple") (dB : ob.data = .seq ys nb) (hib : KIss s.heap d y ys.toList)
    (hsh : ∀ p, p ∈ x.zip y → Sh p.1 p.2)
    (ih : ∀ (p q : W) (u v : Value) (E' : Value → Shared → Prop) (Q' : Bool → Shared → Prop), KIs s.heap d p u → KIs s.heap d q v → Sh p q → Q' (eqK (p = q)) s → wpAny (model prog w) A (eqBool u v) Q' E' s)
    (h : R (.done (.ret (.bool (eqK (x = y))))) s) : wpAny (model prog w) A (Builtin.«tuple.__eq__» ⟨[.ref a, .ref b], []⟩) R E s := by
  have tpB := kTup_type gB hcb
  show wpAny _ _ (isInstance (.ref b) (.type "tuple") >>= _) _ _ s
  refine wpAny_bind (wpAny_isInstance tpB isSubtype_tuple_tuple ?_)
  simp only [Bool.not_true, Bool.false_eq_true, if_false]
  refine wpAny_bind (wpAny_tupleItemsOf gA dA ?_)
  refine wpAny_bind (wpAny_tupleItemsOf gB dB ?_)
  refine wpAny_bind ?_
  refine wpAny_forIn_list _
    (fun rest r s' => r.1 = none ∧ s' = s ∧ ∃ x' y' xs' ys', rest = List.zip xs' ys' ∧ KIss s.heap d x' xs' ∧ KIss s.heap d y' ys' ∧ ((x' = y') ↔ (x = y)) ∧ (∀ p, p ∈ x'.zip y' → Sh p.1 p.2) ∧ (xs'.length == ys'.length) = (xs.size == ys.size))
    _ ?_ ?_ _ _ ⟨rfl, rfl, x, y, xs.toList, ys.toList, rfl, hia, hib, Iff.rfl, hsh, by simp⟩
  · rintro ⟨u, v⟩ rest r s' ⟨hR, rfl, x', y', xs', ys', hZ, hx', hy', hdec, hs', hlen⟩
    cases hx' with
    | nil => simp at hZ
    | @cons _ k1 u' x'' xs'' h1 hx'' =>
      cases hy' with
      | nil => simp at hZ
      | @cons _ k2 v' y'' ys'' h2 hy'' =>
        simp only [List.zip_cons_cons, List.cons.injEq, Prod.mk.injEq] at hZ
        obtain ⟨⟨rfl, rfl⟩, rfl⟩ := hZ
        refine wpAny_bind (ih k1 k2 _ _ _ _ h1 h2 (hs' (k1, k2) List.mem_cons_self) ?_)
        by_cases hk : k1 = k2
        · subst hk
          rw [eqK_t rfl]
          simp only [Bool.not_true, Bool.false_eq_true, if_false]
          refine wpAny_pure ⟨rfl, rfl, x'', y'', xs'', ys'', rfl, hx'', hy'', ?_, fun p hp => hs' p (List.mem_cons_of_mem _ hp), by simpa using hlen⟩
          rw [← hdec]
          simp
        · rw [eqK_f hk]
          simp only [Bool.not_false, if_true]
          have hf : eqK (x = y) = false := eqK_f fun z => hk (by have := hdec.mpr z; injection this)
          rw [hf] at h
          exact wpAny_bind (wpAny_pure (wpAny_pure (wpAny_pure h)))
  · rintro ⟨q1, q2⟩ s' ⟨hR, rfl, x', y', xs', ys', hZ, hx', hy', hdec, hs', hlen⟩
    simp only at hR
    subst hR
    refine wpAny_pure ?_
    have hfin : (xs.size == ys.size) = eqK (x = y) := by
      rw [← hlen]
      cases hx' with
      | nil =>
        cases hy' with
        | nil => rw [eqK_t (hdec.mp rfl)]; rfl
        | cons _ _ => rw [eqK_f (fun z => by have := hdec.mpr z; cases this)]; rfl
      | cons _ _ =>
        cases hy' with
        | nil => rw [eqK_f (fun z => by have := hdec.mpr z; cases this)]; rfl
        | cons _ _ => simp at hZ
    show R (.done (.ret (.bool (xs.size == ys.size)))) s'
    rw [hfin]; exact h
theorem KIs.eqs {s : Shared} : ∀ (d : Nat) {x y : W} {u v : Value}, KIs s.heap d x u → KIs s.heap d y v → Sh x y → ∀ {A : Around} {E : Value → Shared → Prop} {Q : Bool → Shared → Prop}, A.units + 2 * d < cLine → Q (eqK (x = y)) s → wpAny (model prog w) A (PySem.eqBool u v) Q E s
  | _, _, _, _, _, .int n t, .int m t', _, A, E, Q, hu, h => by
    refine (mixKind prog w).eqBool (a := .inl n) (b := .inl m) (mixKind_int prog w n t) (mixKind_int prog w m t') ?_
    have : decide ((Sum.inl n : Key) = .inl m) = eqK (W.int n = .int m) := by
      by_cases e : n = m
      · subst e; rw [decide_eq_true rfl, eqK_t rfl]
      · rw [decide_eq_false (fun z => e (Sum.inl.inj z)), eqK_f (fun z => by injection z with z; exact e z)]
    rw [this]; exact h
  | _, _, _, _, _, .int n t, .tup _ _ _ _, hs, A, E, Q, hu, h => (nomatch hs)
  | _, _, _, _, _, .tup _ _ _ _, .int m t', hs, A, E, Q, hu, h => (nomatch hs)
  | d + 1, _, _, _, _, .tup (a := a) (ws := ws) gO hc dO hs, .tup (a := a') (ws := ws') gO' hc' dO' hs', .tup hsh, A, E, Q, hu, h => by
    unfold PySem.eqBool
    try with_reducible refine wpAny_holding ?_
    show wpAny _ _ (if (Value.ref a == Value.ref a') = true then _ else _) Q E s
    by_cases hab : (Value.ref a == Value.ref a') = true
    · rw [if_pos hab]
      have e : a = a' := by have := eq_of_beq hab; injection this
      subst e
      have := KIs.inj (.tup gO hc dO hs) (.tup gO' hc' dO' hs')
      rw [eqK_t this] at h
      exact wpAny_bind (wpAny_rule (wpAny_pure h))
    · rw [if_neg hab]
      refine wpAny_bind (wpAny_richCompare_same_room (op := .Eq) (kTup_type gO hc) (kTup_type gO' hc') F.slot_tuple_eq
        (wpAny_call_entry F.slot_tuple_eq (kTup_type gO hc) F.entry_tuple_eq (eq_tup gO hc dO hs gO' hc' dO' hs' hsh (fun p q u v E' Q' hp hq hpq hQ => KIs.eqs d hp hq hpq (by first | omega | (show A.units + 1 + 2 * d < cLine; (clear gO hc dO hs gO' hc' dO' hs' hsh h hab hp hq hpq hQ; omega)) | (show A.units + 1 + 1 + 2 * d < cLine; omega)) hQ) ⟨_, rfl, (fun e => nomatch e), wpAny_truthy_bool ?_⟩) (F.args_tuple_eq_2 _ _)) (by (clear gO hc dO hs gO' hc' dO' hs' hsh h hab; omega)))
      have : eqK (ws = ws') = eqK (W.tup ws = .tup ws') := by
        by_cases e : ws = ws'
        · subst e; rw [eqK_t rfl, eqK_t rfl]
        · rw [eqK_f e, eqK_f (fun z => by injection z with z; exact e z)]
      rw [this]; exact h
theorem KIs.quiet {s : Shared} : ∀ (d : Nat) {x : W} {v : Value}, KIs s.heap d x v → ∀ {A : Around} {E : Value → Shared → Prop} {Q : Bool → Shared → Prop}, Q true s → wpAny (model prog w) A (eqIsQuiet d v) Q E s
  | _, _, _, .int n t, A, E, Q, h => by
    rw [eqIsQuiet_byValue _ rfl]
    exact wpAny_pure h
  | d + 1, _, _, .tup gO hc dO hs, A, E, Q, h => by
    have tp := kTup_type gO hc
    unfold eqIsQuiet
    refine wpAny_bind (wpAny_specialOf tp F.slot_tuple_eq.lookup ?_)
    refine wpAny_bind (wpAny_isInstance tp isSubtype_tuple_tuple ?_)
    simp only [Bool.not_true, Bool.false_eq_true, if_false]
    refine wpAny_bind (wpAny_seqItems gO dO ?_)
    refine wpAny_bind ?_
    show wpAny _ _ (forIn _ _ _) _ _ s
    rw [← Array.forIn_toList]
    refine wpAny_forIn_list _ (fun rest r s' => r.1 = none ∧ s' = s ∧ ∃ ws, KIss s.heap d ws rest) _ ?_ ?_ _ _ ⟨rfl, rfl, _, hs⟩
    · rintro v rest r s' ⟨hR, rfl, ws, hk⟩
      cases hk with
      | cons q1 rs1 =>
        refine wpAny_bind (KIs.quiet d q1 ?_)
        simp only [Bool.not_true, Bool.false_eq_true, if_false]
        exact wpAny_pure ⟨rfl, rfl, _, rs1⟩
    · rintro ⟨q1, q2⟩ s' ⟨hR, rfl, _⟩
      simp only at hR
      subst hR
      exact wpAny_pure h
theorem sh_enc : ∀ a b : O, Sh (.tup (encP a)) (.tup (encP b)) := by
  have main : ∀ (k : Nat) (a b : O), a.size + b.size ≤ k → Sh (.tup (encP a)) (.tup (encP b)) := by
    intro k
    induction k with
    | zero =>
      intro a b h
      cases a with
      | z => exact .tup fun p hp => by simp [encP] at hp
      | c e n r => simp [O.size] at h
    | succ k ih =>
      intro a b h
      cases a with
      | z => exact .tup fun p hp => by simp [encP] at hp
      | c e n r =>
        cases b with
        | z => exact .tup fun p hp => by simp [encP] at hp
        | c e' n' r' =>
          have h1 : e.size + e'.size ≤ k := by simp only [O.size] at h; (clear ih; omega)
          have h2 : r.size + r'.size ≤ k := by simp only [O.size] at h; (clear ih h1; omega)
          refine .tup fun p hp => ?_
          rw [encP_c, encP_c, List.zip_cons_cons] at hp
          rcases List.mem_cons.mp hp with rfl | hp
          · refine .tup fun p hp => ?_
            simp only [List.zip_cons_cons, List.zip_nil_left] at hp
            rcases List.mem_cons.mp hp with rfl | hp
            · exact ih e e' h1
            · rw [List.mem_singleton.mp hp]
              exact .int n n'
          · cases ih r r' h2 with
            | tup h3 => exact h3 p hp
  exact fun a b => main _ a b (Nat.le_refl _)
theorem enc_inj {a b : O} (h : W.tup (encP a) = .tup (encP b)) : a = b := by injection h with h; exact encP_inj h
noncomputable def oKind (prog : Program) (w : World) : HeapKind prog w O where
  is := fun h o a => KIs h 8 (.tup (encP o)) (.ref a)
  hash := fun o => hashW prog w (.tup (encP o))
  draws := fun o => drwW (.tup (encP o))
  room := fun A => A.units + 20 < cLine
  inj := fun hx hy => enc_inj (KIs.inj hx hy)
  keeps := fun x gO dO hs => x.keeps fun a o items n gO' dO' => by
    rename_i d' od es ep
    have hne : a ≠ d' := fun z => by
      subst z
      cases gO.symm.trans gO'
      rw [dO] at dO'; cases dO'
    exact (hs.2 a hne).trans gO'
  pyHash := fun hu hk h => KIs.hash 8 hk (by (clear hk h; omega)) h
  eqBool := fun hu hx hy h => KIs.eqs 8 hx hy (sh_enc _ _) (by (clear hx hy h; omega)) (by
    rename_i x y _ _ _
    have : eqK (W.tup (encP x) = .tup (encP y)) = decide (x = y) := by
      by_cases e : x = y
      · subst e; rw [eqK_t rfl, decide_eq_true rfl]
      · rw [eqK_f (fun z => e (enc_inj z)), decide_eq_false e]
    rw [this]; exact h)
  quiet := fun hk h => KIs.quiet 8 hk h
end
end L2
set_option linter.all false
set_option maxRecDepth 100000
namespace L2
open PySem PySem.Spec PyProof.Rows Nm
mutual
theorem KIs.le {h : Heap} : ∀ {d d' : Nat} {w : W} {v : Value}, d ≤ d' → KIs h d w v → KIs h d' w v
  | _, _, _, _, _, .int n t => .int n t
  | _, d' + 1, _, _, l, .tup ho hc hd hs => .tup ho hc hd (KIss.le (Nat.le_of_succ_le_succ l) hs)
  | _, 0, _, _, l, .tup ho hc hd hs => absurd l (Nat.not_succ_le_zero _)
theorem KIss.le {h : Heap} : ∀ {d d' : Nat} {ws : List W} {vs : List Value}, d ≤ d' → KIss h d ws vs → KIss h d' ws vs
  | _, _, _, _, _, .nil => .nil
  | _, _, _, _, l, .cons r rs => .cons (KIs.le l r) (KIss.le l rs)
end
section
variable {X : Cx} {pins : List (Addr × Obj)} {σ : St} {H : Hp} {s : Shared}
theorem rep_num (I : Inv X pins σ H s) : ∀ (k : Nat) (o : O) (v : V) (u : Value), o.dp ≤ k → Rep X.K H (.tup (encP o)) v → RelV v u → KIs s.heap (2 * k + 1) (.tup (encP o)) u := by
  intro k
  induction k with
  | zero =>
    intro o v u hd r ru
    have : o = .z := by
      cases o with
      | z => rfl
      | c e n r => simp only [O.dp] at hd; (clear I ru r; omega)
    subst this
    cases r with
    | tup hT rr =>
      obtain ⟨its, rv, ⟨ob, e, c, n, dd⟩, _⟩ := I.tuple (SqT.of hT)
      cases rr
      cases rv
      cases (show u = Value.ref _ from ru)
      exact .tup e c dd .nil
  | succ k ih =>
    have parts : ∀ (o : O) (xs : List V) (its : List Value), o.dp ≤ k + 1 → Reps X.K H (encP o) xs → Vals xs its → KIss s.heap (2 * k + 2) (encP o) its := by
      intro o
      induction o with
      | z =>
        intro xs its hd rr rv
        cases rr
        cases rv
        exact .nil
      | c e n r ihe ihr =>
        intro xs its hd rr rv
        rw [encP_c] at rr ⊢
        cases rr with
        | cons r1 rs1 =>
          cases rv with
          | cons v1 vs1 =>
            have hd1 : e.dp ≤ k := by simp only [O.dp] at hd; (clear I ih ihe ihr r1 rs1 v1 vs1; omega)
            have hd2 : r.dp ≤ k + 1 := by simp only [O.dp] at hd; (clear I ih ihe ihr r1 rs1 v1 vs1; omega)
            refine .cons ?_ (ihr _ _ hd2 rs1 vs1)
            unfold prt at r1 ⊢
            cases r1 with
            | tup hT rr =>
              obtain ⟨its, rv, ⟨ob, ee, c, m, dd⟩, _⟩ := I.tuple (SqT.of hT)
              cases (show _ = Value.ref _ from v1)
              cases rr with
              | cons q1 qs =>
                cases qs with
                | cons q2 qs =>
                  cases qs
                  cases rv with
                  | cons w1 ws =>
                    cases ws with
                    | cons w2 ws =>
                      cases ws
                      refine .tup ee c dd (.cons (ih e _ _ hd1 q1 w1) (.cons ?_ .nil))
                      cases q2
                      obtain ⟨t, rfl⟩ := w2
                      exact .int _ _
    intro o v u hd r ru
    cases r with
    | tup hT rr =>
      obtain ⟨its, rv, ⟨ob, e, c, n, dd⟩, _⟩ := I.tuple (SqT.of hT)
      cases (show u = Value.ref _ from ru)
      exact .tup e c dd (parts o _ _ hd rr rv)
theorem rep_key3 (I : Inv X pins σ H s) {o : O} {a : Addr} (hd : o.dp ≤ 3) (r : Rep X.K H (.tup (encP o)) (.ref a)) : (oKind X.prog X.w).is s.heap o a := KIs.le (by decide) (rep_num I 3 o (.ref a) (.ref a) hd r rfl)
end
inductive KVO (K : PySem.W.Frag) (H : Hp) : List (O × W) → List (O × Addr × Value) → Prop where
  | nil : KVO K H [] []
  | cons {k : O} {a : Addr} {w : W} {v : V} {u : Value} {kvs : List (O × W)} {xs : List (O × Addr × Value)} (rk : Rep K H (.tup (encP k)) (.ref a)) (rv : Rep K H w v) (ru : RelV v u) (t : KVO K H kvs xs) : KVO K H ((k, w) :: kvs) ((k, a, u) :: xs)
theorem KVO.mono {K : PySem.W.Frag} {H H1 : Hp} (t : TLe H H1) : ∀ {kvs : List (O × W)} {xs : List (O × Addr × Value)}, KVO K H kvs xs → KVO K H1 kvs xs
  | _, _, .nil => .nil
  | _, _, .cons rk rv ru r => .cons (rk.mono t) (rv.mono t) ru (KVO.mono t r)
theorem KVO.keys {K : PySem.W.Frag} {H : Hp} : ∀ {kvs : List (O × W)} {xs : List (O × Addr × Value)}, KVO K H kvs xs → xs.map (·.1) = kvs.map (·.1)
  | _, _, .nil => rfl
  | _, _, .cons _ _ _ r => by rw [List.map_cons, List.map_cons, KVO.keys r]
theorem KVO.mem {K : PySem.W.Frag} {H : Hp} : ∀ {kvs : List (O × W)} {xs : List (O × Addr × Value)}, KVO K H kvs xs → ∀ x, x ∈ xs → Rep K H (.tup (encP x.1)) (.ref x.2.1)
  | _, _, .nil, x, hx => (nomatch hx)
  | _, _, .cons rk _ _ r, x, hx => by
    rcases List.mem_cons.mp hx with rfl | hx
    · exact rk
    · exact KVO.mem r x hx
noncomputable def DioH (P : Program) (w : World) (a : Addr) (xs : List (O × Addr × Value)) : Heap → Prop := fun h => ∃ o es ep, h.get? a = some o ∧ o.ExactDict ∧ o.data = .dict es ep ∧ es.toList = xs.map (entryOfKey (oKind P w))
noncomputable def DioP (P : Program) (w : World) (K : PySem.W.Frag) (kvs : List (O × W)) : Hp → Addr → Prop := fun H a => kvs.length ≤ 1000 ∧ (a == sysModules) = false ∧ (kvs.map (·.1)).Nodup ∧ (∀ p, p ∈ kvs → p.1.dp ≤ 3) ∧ ∃ xs, H a = some (.ext (DioH P w a xs)) ∧ KVO K H kvs xs
noncomputable abbrev dio (P : Program) (w : World) (K : PySem.W.Frag) (kvs : List (O × W)) : GO := .any (DioP P w K kvs)
theorem DioP.ok {P : Program} {w : World} {K : PySem.W.Frag} {kvs : List (O × W)} {H : Hp} {a : Addr} (h : DioP P w K kvs H a) : GOk K H a (dio P w K kvs) := by
  refine ⟨h, ?_, fun H1 H2 t e x => ?_⟩
  · obtain ⟨_, _, _, _, xs, e, _⟩ := h
    exact ⟨_, e⟩
  · obtain ⟨a1, a2, a3, a4, xs, e1, kv⟩ := x
    exact ⟨a1, a2, a3, a4, xs, e.trans e1, kv.mono t⟩
section
variable {X : Cx} {pins : List (Addr × Obj)} {σ : St} {H : Hp} {s : Shared}
theorem DioP.dict {kvs : List (O × W)} {a : Addr} (I : Inv X pins σ H s) (h : DioP X.prog X.w X.K kvs H a) : ∃ xs, H a = some (.ext (DioH X.prog X.w a xs)) ∧ KVO X.K H kvs xs ∧ s.heap.DictOfH (oKind X.prog X.w) a xs := by
  obtain ⟨a1, a2, a3, a4, xs, e, kv⟩ := h
  obtain ⟨⟨o, es, ep, h1, h2, h3, h4⟩, _⟩ := I.hok a _ e
  refine ⟨xs, e, kv, o, es, ep, h1, h2, h3, h4, fun x hx => ?_, by rw [kv.keys]; exact a3⟩
  refine rep_key3 I ?_ (kv.mem x hx)
  have : x.1 ∈ kvs.map (·.1) := by rw [← kv.keys]; exact List.mem_map.mpr ⟨x, hx, rfl⟩
  obtain ⟨p, hp, hpe⟩ := List.mem_map.mp this
  rw [← hpe]
  exact a4 p hp
theorem dioH_ok {P : Program} {w : World} {H : Hp} {h : Heap} {a : Addr} {xs : List (O × Addr × Value)} (d : DioH P w a xs h) : ObjOk P w H h a (.ext (DioH P w a xs)) := by
  refine ⟨d, ?_, fun h1 h2 x k => ?_⟩
  · obtain ⟨o, _, _, e, _⟩ := d
    exact ⟨o, e⟩
  · obtain ⟨o, es, ep, e, r⟩ := x
    exact ⟨o, es, ep, k _ e, r⟩
noncomputable def wDicO (P : Program) (w : World) (K : PySem.W.Frag) : WE := fun _ G q => ∀ p, G p = none → q (.ref p) (updG G p (dio P w K []))
theorem qe_dicO {pos : Pos} : QE X (.Dict [] [] pos) (wDicO X.prog X.w X.K) := by
  have pe : PE X (.Dict [] [] pos) (fun _ H Q => ∀ p, H p = none → (p == sysModules) = false → Q (.ref p) (upd H p (.ext (DioH X.prog X.w p [])))) := fun pins s σ H Q I h =>
    wpAny_Dict_empty ⟨.ref s.heap.objs.size, _, I.laid (a := s.heap.objs.size) (o := .ext (DioH X.prog X.w s.heap.objs.size [])) (t' := s.toks) (fun _ _ q => Heap.get?_push_of_some _ q) (Nat.le_refl _) (dioH_ok ⟨_, #[], 0, Heap.get?_push_size _ rfl, ⟨rfl, rfl, rfl⟩, rfl, rfl⟩), rfl, h _ (I.hok.fresh (Nat.le_refl _)) (beq_eq_false_iff_ne.mpr (Ne.symm (Nat.ne_of_lt I.bigD)))⟩
  exact pe.imp fun σ H Q z0 => z0.el fun τ G q hs hg ht hQ p hp hm => hQ _ _ _ _ (TLe.new hp _) (.ref p) (hg.lay (g := dio X.prog X.w X.K []) (TLe.new hp _) (DioP.ok ⟨Nat.zero_le _, hm, by simp, (fun _ h => (nomatch h)), [], upd_same, .nil⟩)) (ht p (hg.fresh hp))
noncomputable def valO (kvs : List (O × W)) (k : O) : Option W := (kvs.find? fun p => decide (p.1 = k)).map (·.2)
theorem KVO.at {K : PySem.W.Frag} {k : O} : ∀ {kvs : List (O × W)} {xs : List (O × Addr × Value)}, KVO K H kvs xs → (valO kvs k = none ∧ atKey xs k = none) ∨ ∃ w a v u, valO kvs k = some w ∧ atKey xs k = some (a, u) ∧ Rep K H w v ∧ RelV v u
  | _, _, .nil => .inl ⟨rfl, rfl⟩
  | _, _, .cons (k := k') (a := a) (w := w) (v := v) (u := u) rk rv ru t => by
    by_cases e : k' = k
    · exact .inr ⟨w, a, v, u, by simp [valO, e], by simp [atKey, e], rv, ru⟩
    · rcases KVO.at (k := k) t with ⟨h1, h2⟩ | ⟨w', a', v', u', h1, h2, h3, h4⟩
      · exact .inl ⟨by simpa [valO, List.find?_cons, e] using h1, by simpa [atKey, List.find?_cons, e] using h2⟩
      · exact .inr ⟨w', a', v', u', by simpa [valO, List.find?_cons, e] using h1, by simpa [atKey, List.find?_cons, e] using h2, h3, h4⟩
theorem valO_mem {kvs : List (O × W)} {k : O} {x : W} (h : valO kvs k = some x) : (k, x) ∈ kvs := by
  unfold valO at h
  obtain ⟨p, hp, rfl⟩ := Option.map_eq_some_iff.mp h
  have h1 := List.mem_of_find?_eq_some hp
  have h2 := List.find?_some hp
  have h3 : p.1 = k := of_decide_eq_true h2
  rw [← h3]
  exact h1
noncomputable def rIxO (P : Program) (w : World) (K : PySem.W.Frag) : W2 := fun x y G q => match x, y with
  | .ref a, .tup ts => ∃ kvs o x, ts = encP o ∧ G a = some (dio P w K kvs) ∧ valO kvs o = some x ∧ q x G
  | x, y => rIxD x y G q
theorem room20 {k : Nat} {A : Around} (hr : Room k A) : A.in1.units + 20 < cLine := by
  have := hr.un
  show A.units + 1 + 20 < cLine
  (clear hr; omega)
theorem q_ixO {k : Nat} (hr : Room k X.A) : QIx X (rIxO X.prog X.w X.K) := by
  intro value slice pins s σ H x y v u Q I rx ry ⟨wx, wy, G, q, r1, r2, g, h, hQ⟩ hsl
  unfold rIxO at h
  split at h
  · rename_i a ts
    obtain ⟨kvs, o, x, rfl, hG, hv, h⟩ := h
    cases r1
    cases rx
    have hD := (g a _ hG).1
    obtain ⟨xs, _, kv, dd⟩ := hD.dict I
    rcases kv.at (k := o) with ⟨e, _⟩ | ⟨x', b', v', u', e, e', r, ru⟩
    · rw [e] at hv; cases hv
    · rw [e] at hv; cases hv
      have hdp : o.dp ≤ 3 := hD.2.2.2.1 _ (valO_mem e)
      cases r2 with
      | @tup b _ _ hT rr =>
        cases (show u = Value.ref b from ry)
        exact tail_any dd.typeIs PySem.F.slot_dict_getitem.lookup (wpAny_getItem_heap (knd := oKind X.prog X.w) (room20 hr) (rep_key3 I hdp (.tup hT rr)) dd e' ⟨v', H, I.tok _, ru, hQ _ H _ G (TLe.refl H) r g h⟩) hsl
  · exact q_ixD value slice pins s σ H x _ v u Q I rx ry ⟨wx, wy, G, q, r1, r2, g, h, hQ⟩ hsl
theorem setDefault_heap {prog : Program} {w : World} {K : Type} [DecidableEq K] {knd : HeapKind prog w K} {A : Around} {E : Value → Shared → Prop} {s : Shared} {d a : Addr} {xs : List (K × Addr × Value)} {k : K} {dflt : Value} {Q : Value → Shared → Prop} (hu : knd.room A) (hkey : knd.is s.heap k a) (hm : s.heap.DictOfH knd d xs)
    (hthere : ∀ p, atKey xs k = some p → Q p.2 { s with toks := s.toks + knd.draws k })
    (hnew : atKey xs k = none → ∀ h', h'.DictOfH knd d (xs ++ [(k, a, dflt)]) → Heap.SameBut d s.heap h' → Q dflt { s with heap := h', toks := s.toks + knd.draws k }) (hsz : xs.length ≤ sizeLine) :
    wpAny (model prog w) A (dictSetDefault d (.ref a) dflt) Q E s := by
  obtain ⟨o, es, ep, ho, hc, hd, he, his, hn⟩ := hm
  unfold dictSetDefault
  try with_reducible refine wpAny_holding ?_
  refine wpAny_bind (knd.pyHash hu hkey ?_)
  refine wpAny_bind (wpAny_dictFind_heap (s := { s with toks := s.toks + knd.draws k }) hu hkey ho hd he his hn ?_ ?_)
  · intro hno
    have hnot : k ∉ xs.map (·.1) := not_mem_keys_of_get hno
    have hat := atKey_none_of_get hno
    refine wpAny_bind (wpAny_rule (wpAny_bind (wpAny_updateDictKeys (hz := by have e := size_of_entries he; (clear hu hkey hthere hnew ho hc hd he his hn hno hnot hat; omega)) (s := { s with toks := s.toks + knd.draws k }) ho hd (wpAny_pure (hnew hat _ ⟨_, _, ep + 1, Heap.get?_update_self _ ho (Obj.isFreed_of_dict (Obj.data_mapDictKeys hd _)),
      hc.mapDictKeys _, Obj.data_mapDictKeys hd _, ?_, ?_, ?_⟩ (Heap.SameBut.update ..))))))
    · simp [he, entryOfKey]
    · intro x hx
      rcases List.mem_append.mp hx with hx | hx
      · exact knd.keeps (his x hx) ho hd (Heap.SameBut.update ..)
      · simp only [List.mem_singleton] at hx
        subst hx
        exact knd.keeps hkey ho hd (Heap.SameBut.update ..)
    · rw [List.map_append, List.nodup_append]
      refine ⟨hn, by simp, ?_⟩
      intro x hx y hy
      simp only [List.map_cons, List.map_nil, List.mem_singleton] at hy
      subst hy
      exact fun e => hnot (e ▸ hx)
  · intro j p hj
    refine wpAny_bind (wpAny_dictEntries (s := { s with toks := s.toks + knd.draws k }) ho hd ?_)
    rw [entry_at he j, hj]
    exact wpAny_bind (wpAny_rule (wpAny_pure (hthere p (atKey_of_get hn hj))))
theorem meetsH_setdefault {prog : Program} {w : World} {K : Type} [DecidableEq K] (knd : HeapKind prog w K) (d a : Addr) (hd : (d == sysModules) = false) (dflt : Value) :
    MeetsIn prog w (Builtin.«dict.setdefault» ⟨[.ref d, .ref a, dflt], []⟩) (fun A R s => knd.room A.in1 ∧ ∃ k xs, knd.is s.heap k a ∧ s.heap.DictOfH knd d xs ∧ xs.length ≤ sizeLine ∧
      (∀ p, atKey xs k = some p → R (.ok (.ret p.2)) { s with toks := s.toks + knd.draws k }) ∧
      (atKey xs k = none → ∀ h', h'.DictOfH knd d (xs ++ [(k, a, dflt)]) → Heap.SameBut d s.heap h' → R (.ok (.ret dflt)) { s with heap := h', toks := s.toks + knd.draws k })) :=
  .of_wp fun A R s ⟨hu, k, xs, hkey, hm, hz, h1, h2⟩ => by
    unfold Builtin.«dict.setdefault»
    refine wpAny_bind ?_
    unfold Builtin.Dict.keyAndDefault
    refine wpAny_bind (wpAny_notOrdered_dict hm.typeIs ?_)
    show wpAny _ _ (pure (d, Value.ref a, some dflt)) _ _ s
    refine wpAny_pure ?_
    show wpAny _ _ (if (d == sysModules) = true then _ else (dictSetDefault d (.ref a) dflt >>= _)) _ _ s
    rw [if_neg (by rw [hd]; exact Bool.false_ne_true)]
    exact wpAny_bind (setDefault_heap hu hkey hm (fun p hp => wpAny_pure ⟨p.2, rfl, h1 p hp⟩) (fun hn h' hm' hs' => wpAny_pure ⟨dflt, rfl, h2 hn h' hm' hs'⟩) hz)
theorem pe_bmD {o e : Expr} {es : List Expr} {to : TE} {t : TA} {name : Str} {apos cpos : Pos} {id : String} {r : V → List V → Hp → VK → Prop} {ty : V → Hp → Prop} (hty0 : ∀ (pins : List (Addr × Obj)) (σ : St) (H : Hp) (s : Shared) (x : V) (v : Value), Inv X pins σ H s → RelV x v → ty x H → s.TypeIs v "dict" ∧ ∀ a, v = .ref a → ∃ ob, s.heap.get? a = some ob ∧ ob.dict = none)
    (slot : Slot "dict" name id) (hty : typeOf (.builtin id) = pure (.type "method_descriptor")) (hm : MtR X id r) (ho : PE X o to) (ha : PA X (e :: es) t)
    (hbase : attributeBase o name X.env (eval o X.env) = eval o X.env := by rfl)
    (hfew : ((backTo cpos (starEach (e :: es) X.env)).all (fun x => !x.1) && (backToKw cpos (keywordEach [] X.env)).all (fun x => x.1.isSome)
      && decide ((e :: es).length + ([] : List Keyword).length + (if ([] : List Keyword).isEmpty then 0 else 1) < 30)) = true := by rfl)
    (hline : (apos.endLine == cpos.line) = true := by rfl) (hs : starEach (e :: es) X.env = (false, eval e X.env) :: starEach es X.env := by rfl) (hplain : (backTo cpos (starEach es X.env)).any (·.1) = false := by rfl) :
    PE X (.Call (.Attribute o name apos) (e :: es) [] cpos) (fun σ H Q => to σ H fun x H1 => ty x H1 ∧ t σ H1 fun xs H2 => r x xs H2 Q) := by
  intro pins s σ H Q I h
  refine wpAny_Call_method_late hbase hfew hline rfl (thn (ho pins s σ H _ I h) fun v s1 ⟨x, H1, I1, r1, ty1, q1⟩ => ?_)
  obtain ⟨h1, h2⟩ := hty0 _ _ _ _ _ _ I1 r1 ty1
  refine ⟨"dict", id, PySem.F.plainAttrs_dict, slot, hty, h1, h2, ?_⟩
  have hA := ha cpos pins s1 σ H1 _ I1 q1
  rw [hs] at hA ⊢
  refine Calls.callWith_builtin (by show (false || (backTo cpos (starEach es X.env)).any (·.1)) = false; rw [hplain] <;> rfl) (Calls.evalArgs_plain ?_)
  exact thn hA fun us s2 ⟨vs, H2, I2, r2, q2⟩ => hm pins s2 σ H2 x vs v us Q I2 r1 r2 q2
noncomputable def rSdf (X : Cx) : V → List V → Hp → VK → Prop := fun x vs H Q => ∃ a b kvs o d w, x = .ref a ∧ vs = [.ref b, d] ∧ DioP X.prog X.w X.K kvs H a ∧ o.dp ≤ 3 ∧ Rep X.K H (.tup (encP o)) (.ref b) ∧ Rep X.K H w d ∧ kvs.length + 1 ≤ 1000 ∧
  (∀ w' v', valO kvs o = some w' → Rep X.K H w' v' → Q v' H) ∧ (valO kvs o = none → ∀ xs, DioP X.prog X.w X.K (kvs ++ [(o, w)]) (upd H a (.ext (DioH X.prog X.w a xs))) a → TLe H (upd H a (.ext (DioH X.prog X.w a xs))) → Q d (upd H a (.ext (DioH X.prog X.w a xs))))
theorem KVO.snoc {K : PySem.W.Frag} {k : O} {a : Addr} {x : W} {v : V} {u : Value} (rk : Rep K H (.tup (encP k)) (.ref a)) (rv : Rep K H x v) (ru : RelV v u) : ∀ {kvs : List (O × W)} {xs : List (O × Addr × Value)}, KVO K H kvs xs → KVO K H (kvs ++ [(k, x)]) (xs ++ [(k, a, u)])
  | _, _, .nil => .cons rk rv ru .nil
  | _, _, .cons r1 r2 r3 t => .cons r1 r2 r3 (KVO.snoc rk rv ru t)
theorem KVO.length {K : PySem.W.Frag} : ∀ {kvs : List (O × W)} {xs : List (O × Addr × Value)}, KVO K H kvs xs → xs.length = kvs.length
  | _, _, .nil => rfl
  | _, _, .cons _ _ _ t => by rw [List.length_cons, List.length_cons, KVO.length t]
theorem TLe.ex {a : Addr} {φ : Heap → Prop} (hp : H a = some (.ext φ)) (o : HO) : TLe H (upd H a o) :=
  ⟨fun _ _ h => by rw [upd_ne (ne_of h hp (by intro z; cases z))]; exact h, fun _ _ _ h => by rw [upd_ne (ne_of h hp (by intro z; cases z))]; exact h⟩
theorem mt_sdf {k : Nat} (hr : Room k X.A) : MtR X "dict.setdefault" (rSdf X) := by
  intro pins s σ H x vs v us Q I rx rv ⟨a, b, kvs, o, d, w, e1, e2, hD, hdp, hk, hw, hl, h1, h2⟩
  subst e1 e2
  cases rx
  obtain ⟨u1, u2, rfl, r1, r2⟩ := vals2 rv
  cases (show u1 = Value.ref b from r1)
  obtain ⟨xs, eH, kv, dd⟩ := hD.dict I
  have hsz : xs.length ≤ sizeLine := by rw [kv.length, sizeLine_eq]; (clear hr I hD hdp hk hw h1 h2 r2 rv r1 eH kv dd; omega)
  refine call_meetsIn PySem.F.slot_dict_setdefault dd.typeIs PySem.F.entry_dict_setdefault (PySem.F.args_dict_setdefault_3 _ _ _) (meetsH_setdefault (oKind X.prog X.w) a b hD.2.1 u2) ⟨room20 hr, o, xs, rep_key3 I hdp hk, dd, hsz, fun p hp => ?_, fun hn h' hm' hs' => ?_⟩
  · rcases kv.at (k := o) with ⟨e, e'⟩ | ⟨x', b', v', u', e, e', r, ru⟩
    · rw [e'] at hp; cases hp
    · rw [e'] at hp; cases hp
      exact ⟨v', H, I.tok _, ru, h1 x' v' e r⟩
  · rcases kv.at (k := o) with ⟨e, e'⟩ | ⟨x', b', v', u', e, e', r, ru⟩
    · have tl := TLe.ex eH (.ext (DioH X.prog X.w a (xs ++ [(o, b, u2)])))
      obtain ⟨ob, es, ep, m1, m2, m3, m4, _⟩ := id hm'
      have dh : DioH X.prog X.w a (xs ++ [(o, b, u2)]) h' := ⟨ob, es, ep, m1, m2, m3, m4⟩
      refine ⟨d, _, d_write (t' := s.toks + (oKind X.prog X.w).draws o) I (by rw [eH]; exact True.intro) hs' ⟨ob, m1⟩ (dioH_ok dh), r2, h2 e _ ⟨by rw [List.length_append]; exact hl, hD.2.1, ?_, fun p hp => ?_, _, upd_same, (KVO.snoc hk hw r2 kv).mono tl⟩ tl⟩
      · rw [List.map_append, List.nodup_append]
        refine ⟨hD.2.2.1, by simp, fun x hx y hy z => ?_⟩
        simp only [List.map_cons, List.map_nil, List.mem_singleton] at hy
        rw [hy] at z
        obtain ⟨p, hp, hpe⟩ := List.mem_map.mp hx
        unfold valO at e
        rw [Option.map_eq_none_iff, List.find?_eq_none] at e
        exact e p hp (decide_eq_true (hpe.trans z))
      · rcases List.mem_append.mp hp with hp | hp
        · exact hD.2.2.2.1 p hp
        · rw [List.mem_singleton.mp hp]; exact hdp
    · rw [hn] at e'; cases e'
noncomputable def tyDio (X : Cx) : V → Hp → Prop := fun x H => ∃ a kvs, x = .ref a ∧ DioP X.prog X.w X.K kvs H a
theorem tyDio_is (pins : List (Addr × Obj)) (σ : St) (H : Hp) (s : Shared) (x : V) (v : Value) (I : Inv X pins σ H s) (rx : RelV x v) (h : tyDio X x H) : s.TypeIs v "dict" ∧ ∀ a, v = .ref a → ∃ ob, s.heap.get? a = some ob ∧ ob.dict = none := by
  obtain ⟨a, kvs, rfl, hD⟩ := h
  cases rx
  obtain ⟨xs, _, _, dd⟩ := hD.dict I
  refine ⟨dd.typeIs, fun b e => ?_⟩
  cases e
  obtain ⟨ob, _, _, m1, m2, _⟩ := dd
  exact ⟨ob, m1, m2.2.1⟩
noncomputable def wSdf (P : Program) (w : World) (K : PySem.W.Frag) (to tk td : WE) : WE := fun τ G q => to τ G fun x G1 => match x with
  | .ref a => (∃ kvs, G1 a = some (dio P w K kvs)) ∧ tk τ G1 fun y G2 => td τ G2 fun d G3 => ∃ o kvs, y = .tup (encP o) ∧ o.dp ≤ 3 ∧ G3 a = some (dio P w K kvs) ∧ kvs.length + 1 ≤ 1000 ∧ (∀ x, valO kvs o = some x → q x G3) ∧ (valO kvs o = none → q d (updG G3 a (dio P w K (kvs ++ [(o, d)]))))
  | _ => False
theorem qe_sdf {o k e : Expr} {to tk te : WE} {apos cpos : Pos} {n : Nat} (hr : Room n X.A) (ho : QE X o to) (hk : QE X k tk) (he : QE X e te)
    (hbase : attributeBase o "setdefault" X.env (eval o X.env) = eval o X.env := by rfl)
    (hfew : ((backTo cpos (starEach [k, e] X.env)).all (fun x => !x.1) && (backToKw cpos (keywordEach [] X.env)).all (fun x => x.1.isSome)
      && decide (([k, e] : List Expr).length + ([] : List Keyword).length + (if ([] : List Keyword).isEmpty then 0 else 1) < 30)) = true := by rfl)
    (hline : (apos.endLine == cpos.line) = true := by rfl) (hs : starEach [k, e] X.env = (false, eval k X.env) :: starEach [e] X.env := by rfl) (hs2 : starEach [e] X.env = (false, eval e X.env) :: starEach [] X.env := by rfl) (hpl : (backTo cpos (starEach [e] X.env)).any (·.1) = false := by rfl) :
    QE X (.Call (.Attribute o "setdefault" apos) [k, e] [] cpos) (wSdf X.prog X.w X.K to tk te) :=
  (pe_bmD tyDio_is PySem.F.slot_dict_setdefault PySem.F.type_dict_setdefault (mt_sdf hr) ho (pa_cons hk (pa_cons he pa_nil hs2) hs) hbase hfew hline hs hpl).imp fun σ H Q z0 => z0.el fun τ G q hs hg ht hQ =>
    ⟨τ, G, _, hs, hg, ht, fun v H1 w G1 t1 r1 g1 q1 => by
      split at q1
      · rename_i a
        cases r1
        obtain ⟨⟨kvs, e1⟩, q1⟩ := q1
        refine ⟨⟨a, kvs, rfl, (g1 a _ e1).1⟩, τ, G1, _, hs.mono t1, g1, q1, fun v2 H2 w2 G2 t2 r2 g2 q2 => ?_⟩
        refine ⟨τ, G2, _, (hs.mono t1).mono t2, g2, q2, fun v3 H3 w3 G3 t3 r3 g3 q3 => ?_⟩
        obtain ⟨o, kvs, rfl, hdp, e2, hl, h1, h2⟩ := q3
        have r2' := r2.mono t3
        have tt := (t1.trans t2).trans t3
        cases r2 with
        | @tup b _ _ hT rr =>
          refine ⟨a, b, kvs, o, v3, w3, rfl, rfl, (g3 a _ e2).1, hdp, r2', r3, hl, fun w' v' hv rv' => hQ _ _ _ _ tt rv' g3 (h1 w' hv), fun hn xs hD tl => ?_⟩
          exact hQ _ _ _ _ (tt.trans tl) (r3.mono tl) (g3.lay (g := dio X.prog X.w X.K (kvs ++ [(o, w3)])) tl hD.ok) (h2 hn)
      · exact q1.elim⟩
end
end L2
set_option linter.all false
set_option maxRecDepth 100000
namespace L2
open PySem PySem.Spec PyProof.Rows Nm PySem.W
noncomputable def kRun {α : Type} (lt : Nat → Nat → Bool) : KasT α → α
  | .ret a => a
  | .ask i j k => kRun lt (k (lt i j))
noncomputable def kOk {α : Type} (n : Nat) : KasT α → Bool
  | .ret _ => true
  | .ask i j k => decide (i < n) && decide (j < n) && kOk n (k true) && kOk n (k false)
theorem kas_pure {α : Type} {n : Nat} {lt : Nat → Nat → Bool} {cmp : Nat → Nat → (Bool → Shared → Prop) → Shared → Prop} {s : Shared} (hc : ∀ i j, i < n → j < n → ∀ C : Bool → Shared → Prop, C (lt i j) s → cmp i j C s) {Q : α → Shared → Prop} : ∀ t : KasT α, kOk n t = true → Q (kRun lt t) s → t.kasWp cmp Q s
  | .ret a, _, h => h
  | .ask i j k, ok, h => by
    simp only [kOk, Bool.and_eq_true, decide_eq_true_eq] at ok
    refine hc i j ok.1.1.1 ok.1.1.2 _ ?_
    have h : Q (kRun lt (k (lt i j))) s := h
    have : kOk n (k (lt i j)) = true := by
      cases lt i j with
      | true => exact ok.1.2
      | false => exact ok.2
    exact kas_pure hc (k (lt i j)) this h
noncomputable def ltOf (σ : List Nat) (i j : Nat) : Bool := decide (σ.getD i 0 < σ.getD j 0)
noncomputable def kChk (n : Nat) (σ : List Nat) : Bool := ((kRun (ltOf σ) (kas_sort n)).toList.map fun i => σ.getD i 0) == List.range n && (kRun (ltOf σ) (kas_sort n)).toList.all fun i => decide (i < n)
noncomputable def allL (n : Nat) : Nat → List (List Nat)
  | 0 => [[]]
  | m + 1 => (allL n m).flatMap fun l => (List.range n).map fun x => x :: l
theorem allL_mem {n : Nat} : ∀ {l : List Nat}, (∀ x, x ∈ l → x < n) → l ∈ allL n l.length
  | [], _ => List.mem_singleton.mpr rfl
  | x :: l, h => List.mem_flatMap.mpr ⟨l, allL_mem fun y hy => h y (List.mem_cons_of_mem _ hy), List.mem_map.mpr ⟨x, List.mem_range.mpr (h x List.mem_cons_self), rfl⟩⟩
noncomputable def ndB : List Nat → Bool
  | [] => true
  | x :: l => !l.contains x && ndB l
theorem ndB_of : ∀ {l : List Nat}, l.Nodup → ndB l = true
  | [], _ => rfl
  | x :: l, h => by
    rw [List.nodup_cons] at h
    rw [ndB, ndB_of h.2, Bool.and_true]
    simpa using h.1
noncomputable def chkN (n : Nat) : Bool := kOk n (kas_sort n) && (allL n n).all fun σ => !ndB σ || kChk n σ
theorem chk2 : chkN 2 = true := by decide +kernel
theorem chk3 : chkN 3 = true := by decide +kernel
theorem chk4 : chkN 4 = true := by decide +kernel
theorem chk5 : chkN 5 = true := by decide +kernel
theorem chk_at {n : Nat} (h2 : 2 ≤ n) (h5 : n ≤ 5) : chkN n = true := by
  have : n = 2 ∨ n = 3 ∨ n = 4 ∨ n = 5 := by omega
  rcases this with rfl | rfl | rfl | rfl
  · exact chk2
  · exact chk3
  · exact chk4
  · exact chk5
section
variable {X : Cx} {pins : List (Addr × Obj)} {σ : St} {H : Hp} {s : Shared}
theorem num_cmp (I : Inv X pins σ H s) {a b : O} {p q : Addr} (da : a.dp ≤ 3) (rp : Rep X.K H (.tup (encP a)) (.ref p)) (rq : Rep X.K H (.tup (encP b)) (.ref q)) : ∃ its its2 : List Value, IsTup s.heap p its.toArray ∧ IsTup s.heap q its2.toArray ∧ its.length = a.len ∧ its2.length = b.len ∧ ∀ A : Around, A.units + 20 < cLine → CmpL A s its its2 (decide (O.cmp a b < 0)) := by
  cases rp with
  | tup hT r =>
    cases rq with
    | tup hT2 r2 =>
      obtain ⟨its, rv, pt, _⟩ := I.tuple (SqT.of hT)
      obtain ⟨its2, rv2, pt2, _⟩ := I.tuple (SqT.of hT2)
      obtain ⟨l1, l2⟩ := lts_encP a b
      have hd := encP_dep a
      refine ⟨its, its2, pt, pt2, by rw [← rv.length, ← r.length, encP_length], by rw [← rv2.length, ← r2.length, encP_length], fun A hu => ?_⟩
      rw [← l2]
      exact ltL_rep I 10 A (fun h1 h2 h3 h4 q1 q2 q3 q4 => lt_rep I 10 A h1 h2 h3 h4 (by (clear I da r hT r2 hT2 rv pt rv2 pt2 l1 l2 hd h1 h2 h3 h4 q1 q2 q3 q4; omega)) q1 q2 q3 q4) (by (clear I da r hT r2 hT2 rv pt rv2 pt2 l1 l2 hd; omega)) (by (clear I r hT r2 hT2 rv pt rv2 pt2 l1 l2 hu; omega)) (encP_flat a) (encP_flat b) l1 r r2 rv rv2
theorem num_lt (I : Inv X pins σ H s) {a b : O} {p q : Addr} (da : a.dp ≤ 3) (rp : Rep X.K H (.tup (encP a)) (.ref p)) (rq : Rep X.K H (.tup (encP b)) (.ref q)) {A : Around} (hu : A.units + 25 < cLine) : LtAt A s (.ref p) (.ref q) (decide (O.cmp a b < 0)) := by
  obtain ⟨its, its2, p1, p2, _, _, hc⟩ := num_cmp I da rp rq
  exact LtAt.tuples p1 p2 (by (clear I da rp rq p1 p2 hc; omega)) (hc A.in1 (by show A.units + 1 + 20 < cLine; (clear I da rp rq p1 p2 hc; omega)))
theorem lt_one {prog : Program} {w : World} {A : Around} {E : Value → Shared → Prop} {s : Shared} {x y : Value} {b : Bool} (h : LtAt A s x y b) {Q : Bool → Shared → Prop} (q : Q b s) : wpAny (model prog w) A (oneLt' false x y) Q E s := by
  refine kat_one x y ?_
  show wpAny (model prog w) A (richCompare .Lt x y) _ E s
  exact h prog w E _ q
theorem key_gen (I : Inv X pins σ H s) {a b : O} {p q : Addr} (da : a.dp ≤ 3) (rp : Rep X.K H (.tup (encP a)) (.ref p)) (rq : Rep X.K H (.tup (encP b)) (.ref q)) {A : Around} (hu : A.units + 25 < cLine) {E : Value → Shared → Prop} {Q : Bool → Shared → Prop} (h : Q (decide (O.cmp a b < 0)) s) : wpAny (model X.prog X.w) A (keyLt' general' (.ref p) (.ref q)) Q E s := lt_one (num_lt I da rp rq hu) h
theorem lex_of {prog : Program} {w : World} {A : Around} {Q : Bool → Shared → Prop} {r : Bool} {s : Shared} {fin : Bool} : ∀ {xs ys : List Value} {i : Nat}, CmpL A s xs ys r → (xs.length = ys.length → fin = false) → (xs.length < ys.length → fin = true) → (ys.length < xs.length → fin = false) → Q r s → KatLex prog w A false fin Q (xs.zip ys) i s
  | _, _, i, .nn, h1, _, _, q => by
    have := h1 rfl
    subst this
    exact q
  | _, _, i, .nc, _, h2, _, q => by
    have := h2 (by simp)
    subst this
    exact q
  | _, _, i, .cn, _, _, h3, q => by
    have := h3 (by simp)
    subst this
    exact q
  | _, _, i, .eq he t, h1, h2, h3, q => by
    refine kat_cons (he prog w _ _ (kat_yes ?_))
    exact lex_of t (fun e => h1 (by simp [e])) (fun e => h2 (by simpa using e)) (fun e => h3 (by simpa using e)) q
  | _, _, i, .ne he t, _, _, _, q => by
    refine kat_cons (he prog w _ _ (kat_no ?_))
    rw [Bool.false_and]
    exact lt_one t q
theorem key_tup (I : Inv X pins σ H s) {a b : O} {p q : Addr} (da : a.dp ≤ 3) (rp : Rep X.K H (.tup (encP a)) (.ref p)) (rq : Rep X.K H (.tup (encP b)) (.ref q)) {A : Around} (hu : A.units + 25 < cLine) {E : Value → Shared → Prop} {Q : Bool → Shared → Prop} (h : Q (decide (O.cmp a b < 0)) s) : wpAny (model X.prog X.w) A (keyLt' (tuples' false) (.ref p) (.ref q)) Q E s := by
  obtain ⟨its, its2, ⟨o1, e1, c1, n1, d1⟩, ⟨o2, e2, c2, n2, d2⟩, _, _, hc⟩ := num_cmp I da rp rq
  refine kat_lt e1 d1 e2 d2 (lex_of (hc A (by (clear I da rp rq h e1 c1 d1 e2 c2 d2 hc; omega))) (fun e => ?_) (fun e => ?_) (fun e => ?_) h)
  · exact decide_eq_false (by simp only [List.size_toArray]; simp at e; (clear I da rp rq hu h e1 c1 d1 e2 c2 d2 hc; omega))
  · exact decide_eq_true (by simpa using e)
  · exact decide_eq_false (by simp only [List.size_toArray]; simp at e; (clear I da rp rq hu h e1 c1 d1 e2 c2 d2 hc; omega))
theorem key_one (I : Inv X pins σ H s) {a b : O} {p q : Addr} (da : a.dp ≤ 3) (rp : Rep X.K H (.tup (encP a)) (.ref p)) (rq : Rep X.K H (.tup (encP b)) (.ref q)) {A : Around} (hu : A.units + 25 < cLine) {E : Value → Shared → Prop} {Q : Bool → Shared → Prop} (h : Q (decide (O.cmp a b < 0)) s) : wpAny (model X.prog X.w) A (keyLt' oneType' (.ref p) (.ref q)) Q E s := by
  obtain ⟨its, its2, ⟨⟨cl1, dd1, da1, sl1⟩, e1, c1, n1, d1⟩, ⟨⟨cl2, dd2, da2, sl2⟩, e2, c2, n2, d2⟩, _, _, hc⟩ := num_cmp I da rp rq
  simp only at c1 d1 c2 d2
  subst c1 d1 c2 d2
  have ty : s.TypeIs (.ref p) "tuple" := ⟨_, e1, rfl⟩
  rw [keyLt'_oneType, oneLt'_eq]
  simp only [if_true]
  refine wpAny_bind (wpAny_cRoomFor_or (.inr (by (clear I da rp rq h hc e1 e2 ty; omega))) ?_)
  refine wpAny_bind (wpAny_callSpecialIfBound?_slot (name := Str.ofString "__lt__") ty PySem.F.slot_tuple_lt (call_meets PySem.F.slot_tuple_lt ty PySem.F.entry_tuple_lt (PySem.F.args_tuple_lt_2 _ _) (tuple_ltAt p q its.toArray its2.toArray n1 n2 dd1 dd2 sl1 sl2 (decide (O.cmp a b < 0))) ⟨e1, e2, by simpa using hc A.in1 (by show A.units + 1 + 20 < cLine; (clear I da rp rq h hc e1 e2 ty; omega)), ?_⟩))
  exact wpAny_truthy_bool h
end
end L2
set_option linter.all false
set_option maxRecDepth 100000
namespace L2
open PySem PySem.Spec PyProof.Rows Nm PySem.W
noncomputable def EntAt (h : Heap) (d : Addr) (es : Array DictEntry) (ep : Nat) : Prop := ∃ o, h.get? d = some o ∧ o.ExactDict ∧ o.data = .dict es ep
theorem EntAt.at {h h' : Heap} {d : Addr} {es : Array DictEntry} {ep : Nat} (x : EntAt h d es ep) (k : ∀ o, h.get? d = some o → h'.get? d = some o) : EntAt h' d es ep := let ⟨o, e, r⟩ := x; ⟨o, k o e, r⟩
theorem EntAt.ty {s : Shared} {d : Addr} {es : Array DictEntry} {ep : Nat} (x : EntAt s.heap d es ep) : s.TypeIs (.ref d) "dict" := let ⟨o, e, c, _⟩ := x; ⟨o, e, c.1⟩
section
variable {prog : Program} {w : World} {A : Around} {E : Value → Shared → Prop} {s : Shared} {it d : Addr} {i ep : Nat} {es : Array DictEntry}
theorem iter_ent {Q : Value → Shared → Prop} (lo : (d == sysModules) = false) (x : EntAt s.heap d es ep)
    (q : Q (.ref s.heap.objs.size) { s with heap := s.heap.push { cls := .type "dict_keyiterator", data := .fields #[.ref d, .int 0 0, .int es.size 0, .int ep 0] } }) : wpAny (model prog w) A (pyIter (.ref d)) Q E s := by
  have ty := x.ty
  obtain ⟨o, gO, _, dO⟩ := x
  refine wpAny_pyIter_slot ty F.slot_dict_iter (wpAny_call_entry F.slot_dict_iter ty F.entry_dict_iter ?tree (F.args_dict_iter_1 _))
  case tree =>
    unfold Builtin.«dict.__iter__» Builtin.Dict.dictSlotNone
    refine wpAny_bind (wpAny_bind (wpAny_notOrdered_dict ty (wpAny_pure (a := Value.ref d) ?_)))
    show wpAny _ _ (Builtin.Dict.showsAll d >>= _) _ _ s
    unfold Builtin.Dict.showsAll
    rw [lo, if_neg Bool.false_ne_true]
    refine wpAny_bind (wpAny_pure (wpAny_bind (wpAny_dictEntries gO dO (wpAny_bind (wpAny_dictEpoch gO dO ?_)))))
    refine wpAny_bind (wpAny_newObj_type (wpAny_pure ⟨_, rfl, "dict_keyiterator", _, ⟨_, Heap.get?_push_size _ rfl, rfl⟩, F.slot_dict_keyiterator_next.lookup, ?_⟩))
    simpa [rawInt] using q
theorem next_ent {Q : Option Value → Shared → Prop} (ki : s.heap.IsKeyIter it d i es.size ep) (x : EntAt s.heap d es ep) (hi : i < es.size)
    (q : ∀ h', h'.IsKeyIter it d (i + 1) es.size ep → Heap.SameBut it s.heap h' → Q (some es[i].key) { s with heap := h' }) : wpAny (model prog w) A (pyNext (.ref it)) Q E s := by
  have tk := ki.typeIs
  obtain ⟨o, gI, cI, dI⟩ := id ki
  obtain ⟨od, gO, _, dO⟩ := x
  unfold pyNext
  refine wpAny_bind (wpAny_attempt (wpAny_callSpecial?_slot (name := Str.ofString "__next__") tk F.slot_dict_keyiterator_next (wpAny_call_entry F.slot_dict_keyiterator_next tk F.entry_dict_keyiterator_next ?tree (F.args_dict_keyiterator_next_1 _))))
  case tree =>
    refine wpAny_bind (wpAny_pure (wpAny_bind (wpAny_bind ?_)))
    first | refine wpAny_bind (wpAny_typeNameOfWhole_keyiter tk (wpAny_pure (wpAny_bind (wpAny_fieldsOf gI dI ?_)))) | refine wpAny_bind (wpAny_typeNameOf_keyiter tk (wpAny_pure (wpAny_bind (wpAny_fieldsOf gI dI ?_))))
    simp only [show Builtin.Dict_items.ownsTuple "dict_keyiterator" = false from by decide, Bool.false_eq_true, if_false]
    show wpAny _ _ (if (Value.ref d == Value.none) = true then _ else _) _ _ s
    rw [show (Value.ref d == Value.none) = false from rfl, if_neg Bool.false_ne_true]
    refine wpAny_bind (wpAny_pure (wpAny_bind (wpAny_dictEntries gO dO ?_)))
    rw [if_neg (by simp)]
    refine wpAny_bind (wpAny_pure (wpAny_bind (wpAny_dictEpoch gO dO ?_)))
    rw [if_neg (by simp)]
    refine wpAny_pure ?_
    simp only [show ¬ ((i : Int) < 0) from by (clear ki hi q tk gI cI dI gO dO; omega), if_false, Int.toNat_natCast, Array.getElem?_eq_getElem hi]
    refine wpAny_bind ?_
    first | refine wpAny_bind (wpAny_typeNameOfWhole_keyiter tk (wpAny_pure (wpAny_bind (wpAny_isOneOf_keyiter tk ?_)))) | refine wpAny_bind (wpAny_typeNameOf_keyiter tk (wpAny_pure (wpAny_bind (wpAny_isOneOf_keyiter tk ?_))))
    show wpAny _ _ (setField (.ref it) 1 (rawInt ((i : Int) + 1)) >>= _) _ _ s
    refine wpAny_bind (wpAny_setField gI dI (by simp) ?_)
    have ki' : (s.heap.update it (Obj.mapFields (·.setIfInBounds 1 (rawInt ((i : Int) + 1))))).IsKeyIter it d (i + 1) es.size ep :=
      ⟨_, Heap.get?_update_self _ gI (Obj.isFreed_of_fields (Obj.data_mapFields dI _)), (Obj.cls_mapFields ..).trans cI, by rw [Obj.data_mapFields dI]; simp [rawInt]⟩
    refine wpAny_bind (wpAny_holding (wpAny_bind (wpAny_isOneOf_keyiter (s := { s with heap := s.heap.update it (Obj.mapFields (·.setIfInBounds 1 (rawInt ((i : Int) + 1)))) }) ki'.typeIs ?_)))
    exact wpAny_pure (a := es[i].key) (wpAny_pure ⟨_, rfl, wpAny_pure (q _ ki' (Heap.SameBut.update ..))⟩)
theorem end_ent {Q : Option Value → Shared → Prop} (hh : A.handled = none) (ki : s.heap.IsKeyIter it d i es.size ep) (x : EntAt s.heap d es ep) (hi : es.size ≤ i)
    (q : ∀ h', Heap.ExtBut it s.heap h' → Q none { s with heap := h' }) : wpAny (model prog w) A (pyNext (.ref it)) Q E s := by
  have tk := ki.typeIs
  obtain ⟨o, gI, cI, dI⟩ := id ki
  obtain ⟨od, gO, _, dO⟩ := x
  unfold pyNext
  refine wpAny_bind (wpAny_attempt (wpAny_callSpecial?_slot (name := Str.ofString "__next__") tk F.slot_dict_keyiterator_next (wpAny_call_entry F.slot_dict_keyiterator_next tk F.entry_dict_keyiterator_next ?tree (F.args_dict_keyiterator_next_1 _))))
  case tree =>
    refine wpAny_bind (wpAny_pure (wpAny_bind (wpAny_bind ?_)))
    first | refine wpAny_bind (wpAny_typeNameOfWhole_keyiter tk (wpAny_pure (wpAny_bind (wpAny_fieldsOf gI dI ?_)))) | refine wpAny_bind (wpAny_typeNameOf_keyiter tk (wpAny_pure (wpAny_bind (wpAny_fieldsOf gI dI ?_))))
    simp only [show Builtin.Dict_items.ownsTuple "dict_keyiterator" = false from by decide, Bool.false_eq_true, if_false]
    show wpAny _ _ (if (Value.ref d == Value.none) = true then _ else _) _ _ s
    rw [show (Value.ref d == Value.none) = false from rfl, if_neg Bool.false_ne_true]
    refine wpAny_bind (wpAny_pure (wpAny_bind (wpAny_dictEntries gO dO ?_)))
    rw [if_neg (by simp)]
    refine wpAny_bind (wpAny_pure (wpAny_bind (wpAny_dictEpoch gO dO ?_)))
    rw [if_neg (by simp)]
    refine wpAny_pure ?_
    simp only [show ¬ ((i : Int) < 0) from by (clear hh ki hi q tk gI cI dI gO dO; omega), if_false, Int.toNat_natCast, Array.getElem?_eq_none hi]
    refine wpAny_bind ?_
    first | refine wpAny_bind (wpAny_typeNameOfWhole_keyiter tk (wpAny_pure ?_)) | refine wpAny_bind (wpAny_typeNameOf_keyiter tk (wpAny_pure ?_))
    show wpAny _ _ (setField (.ref it) 0 .none >>= _) _ _ s
    refine wpAny_bind (wpAny_setField gI dI (by simp) ?_)
    show wpAny _ _ (newExc (.type "StopIteration") [] >>= _) _ _ _
    refine wpAny_bind ?_
    simp only [newExc, newTuple]
    refine wpAny_bind (wpAny_newObj_type (wpAny_bind (m := firstArgMember _ _) (wpAny_of_eq (a := Value.none) (by first | rfl | (simp only [firstArgMember]; rfl)) (wpAny_newObj_type ?_ (by size_fits)))) (by size_fits))
    simp only [raiseNew]
    refine wpAny_bind (wpAny_handled ?_)
    rw [show A.in1.handled = none from hh]
    refine wpAny_bind (wpAny_pure (wpAny_throw ?_))
    refine wpAny_bind (wpAny_isInstance (T := "StopIteration") (b := true) ⟨_, Heap.get?_push_size _ rfl, rfl⟩ isSubtype_stop ?_)
    exact wpAny_pure (q _ (((Heap.SameBut.update ..).extBut.push _).push _))
theorem walks_ent (hh : A.handled = none) (I : Addr) (hne : d ≠ I) : Walks prog w A I [I, d] [I] es.size (fun i v => ∃ e, es[i]? = some e ∧ v = e.key) (fun i h => h.IsKeyIter I d i es.size ep ∧ EntAt h d es ep) where
  sub := fun b hb => by simp at hb; simp [hb]
  frame := fun _ _ _ st hk => ⟨st.1.at fun o e => hk I (by simp) o e, st.2.at fun o e => hk d (by simp) o e⟩
  item := fun i s Q E hi st hQ => next_ent st.1 st.2 hi fun h' ki' sb => hQ _ h' s.toks ⟨_, Array.getElem?_eq_getElem hi, rfl⟩ ⟨ki', st.2.at fun o e => (sb.2 d hne).trans e⟩ fun b o hb e => (sb.2 b (fun z => hb (by simp [z]))).trans e
  done := fun s Q E st hQ => end_ent hh st.1 st.2 (Nat.le_refl _) fun h' eb => hQ h' s.toks fun b o hb e => eb b o (fun z => hb (by simp [z])) e
  self := fun _ _ _ _ st hQ => wpAny_pyIter_keyiter st.1 hQ
theorem kdl_ent (lo : (d == sysModules) = false) : KdlSrc prog w "dict" d d es.size (fun i v => ∃ e, es[i]? = some e ∧ v = e.key) (fun h => EntAt h d es ep) where
  type := fun _ x => x.ty
  there := fun _ x => let ⟨_, e, _⟩ := x; ⟨Heap.lt_size e, Heap.lt_size e⟩
  keep := fun _ _ x hk => x.at fun o e => hk d (.inl rfl) o e
  notList := by decide
  notTuple := by decide
  hint := fun _ _ _ _ x hq => kdl_hint_dict x.ty hq
  iter := fun _ _ hh x => ⟨_, _, (fun _ _ hq => iter_ent lo x hq), walks_ent hh _ (let ⟨_, e, _⟩ := x; Nat.ne_of_lt (Heap.lt_size e)), ⟨⟨_, Heap.get?_push_size _ rfl, rfl, rfl⟩, x.at fun o e => Heap.get?_push_of_some _ e⟩⟩
end
end L2
set_option linter.all false
set_option maxRecDepth 100000
set_option maxHeartbeats 1000000
namespace L2
open PySem PySem.Spec PyProof.Rows Nm PySem.W
inductive NV (K : PySem.W.Frag) (H : Hp) : List O → List Value → Prop where
  | nil : NV K H [] []
  | cons {o : O} {a : Addr} {os : List O} {us : List Value} (r : Rep K H (.tup (encP o)) (.ref a)) (hd : o.dp ≤ 3) (t : NV K H os us) : NV K H (o :: os) (.ref a :: us)
theorem NV.length {K : PySem.W.Frag} {H : Hp} : ∀ {os : List O} {us : List Value}, NV K H os us → os.length = us.length
  | _, _, .nil => rfl
  | _, _, .cons _ _ t => congrArg (· + 1) t.length
theorem NV.app {K : PySem.W.Frag} {H : Hp} : ∀ {os ps : List O} {us vs : List Value}, NV K H os us → NV K H ps vs → NV K H (os ++ ps) (us ++ vs)
  | _, _, _, _, .nil, t => t
  | _, _, _, _, .cons r hd t, t2 => .cons r hd (t.app t2)
theorem NV.rev {K : PySem.W.Frag} {H : Hp} : ∀ {os : List O} {us : List Value}, NV K H os us → NV K H os.reverse us.reverse
  | _, _, .nil => .nil
  | _, _, .cons r hd t => by
    rw [List.reverse_cons, List.reverse_cons]
    exact t.rev.app (.cons r hd .nil)
theorem NV.at {K : PySem.W.Frag} {H : Hp} : ∀ {os : List O} {us : List Value}, NV K H os us → ∀ i, i < os.length → ∃ a, us.getD i Value.none = .ref a ∧ Rep K H (.tup (encP (os.getD i .z))) (.ref a) ∧ (os.getD i .z).dp ≤ 3
  | _, _, .nil, i, h => absurd h (Nat.not_lt_zero _)
  | _, _, .cons r hd t, 0, _ => ⟨_, rfl, r, hd⟩
  | _, _, .cons r hd t, i + 1, h => t.at i (Nat.lt_of_succ_lt_succ h)
theorem NV.pick {K : PySem.W.Frag} {H : Hp} {os : List O} {us : List Value} (h : NV K H os us) : ∀ {p : List Nat}, (∀ i, i ∈ p → i < os.length) → NV K H (p.map fun i => os.getD i .z) (p.map fun i => us.getD i Value.none)
  | [], _ => .nil
  | i :: p, hp => by
    obtain ⟨a, h1, h2, h3⟩ := h.at i (hp i List.mem_cons_self)
    rw [List.map_cons, List.map_cons, h1]
    exact .cons h2 h3 (h.pick fun j hj => hp j (List.mem_cons_of_mem _ hj))
section
variable {X : Cx} {pins : List (Addr × Obj)} {σ : St} {H : Hp} {s : Shared}
theorem looks_tup {M : Model} {a : Addr} {o : Obj} {h : Heap} (e : h.get? a = some o) (c : o.cls = .type "tuple") : Looks M h (typeOf (.ref a)) (.type "tuple") := c ▸ ((Looks.ld e).andThen .now)
theorem nv_firsts (I : Inv X pins σ H s) {M : Model} {A : Around} {E : Value → Shared → Prop} : ∀ {os : List O} {us : List Value}, NV X.K H os us → ∃ fs : List (Option Value), fs.length = us.length ∧ (∀ v, some v ∈ fs → Looks M s.heap (typeOf v) (.type "tuple")) ∧ ∀ {Q : List (Option Value) → Shared → Prop}, Q fs s → wpAny M A (us.mapM firstOfTuple') Q E s
  | _, _, .nil => ⟨[], rfl, (fun _ h => (nomatch h)), fun q => by rw [List.mapM_nil]; exact wpAny_pure q⟩
  | _, _, .cons (o := o) (a := a) (us := us) r hd t => by
    obtain ⟨fs, h1, h2, h3⟩ := nv_firsts I t
    cases r with
    | tup hT rr =>
      obtain ⟨its, rv, ⟨ob, e, c, n, dd⟩, _⟩ := I.tuple (SqT.of hT)
      refine ⟨its[0]? :: fs, by simp [h1], fun v hv => ?_, fun {Q} q => ?_⟩
      · rcases List.mem_cons.mp hv with hv | hv
        · cases o with
          | z =>
            cases rr
            cases rv
            cases hv
          | c e1 n1 r1 =>
            rw [encP_c] at rr
            cases rr with
            | cons q1 qs =>
              cases rv with
              | cons w1 ws =>
                cases hv
                unfold prt at q1
                cases q1 with
                | tup hT2 _ =>
                  obtain ⟨its2, _, ⟨ob2, e2, c2, n2, dd2⟩, _⟩ := I.tuple (SqT.of hT2)
                  cases (show v = Value.ref _ from w1)
                  exact looks_tup e2 c2
        · exact h2 v hv
      · rw [List.mapM_cons]
        refine wpAny_bind ?_
        rw [kas_first_eq]
        refine wpAny_bind ((looks_tup e c).here ?_)
        rw [if_neg (by decide)]
        refine wpAny_bind (listItems_at e dd (wpAny_pure (wpAny_bind (h3 (wpAny_pure ?_)))))
        simpa using q
theorem nv_looks (I : Inv X pins σ H s) {M : Model} : ∀ {os : List O} {us : List Value}, NV X.K H os us → ∀ v, v ∈ us → Looks M s.heap (typeOf v) (.type "tuple")
  | _, _, .nil, v, hv => (nomatch hv)
  | _, _, .cons r hd t, v, hv => by
    rcases List.mem_cons.mp hv with rfl | hv
    · cases r with
      | tup hT rr =>
        obtain ⟨its, rv, ⟨ob, e, c, n, dd⟩, _⟩ := I.tuple (SqT.of hT)
        exact looks_tup e c
    · exact nv_looks I t v hv
theorem one_type {M : Model} {A : Around} {E : Value → Shared → Prop} {vs : List Value} (hne : vs ≠ []) (hT : ∀ v, v ∈ vs → Looks M s.heap (typeOf v) (.type "tuple")) {Q : Option Value → Shared → Prop} (q : Q (some (.type "tuple")) s) : wpAny M A (oneTypeOnly' vs.toArray) Q E s := by
  rw [oneTypeOnly'_eq, List.mapM_toArray, map_eq_pure_bind]
  refine wpAny_bind (wpAny_bind (kas_mapM (r := Value.type "tuple") _ (fun v hv Q' hq => (hT v hv).here hq) (wpAny_pure ?_)))
  cases vs with
  | nil => exact absurd rfl hne
  | cons v vs =>
    have e0 : (List.map (fun _ => Value.type "tuple") (v :: vs)).toArray[0]? = some (Value.type "tuple") := by simp
    have e1 : ((List.map (fun _ => Value.type "tuple") (v :: vs)).toArray.all fun x => x == Value.type "tuple") = true := by simp
    rw [e0]
    simp only [e1, if_true]
    exact wpAny_pure q
theorem nv_kind (I : Inv X pins σ H s) {A : Around} {E : Value → Shared → Prop} {os : List O} {us : List Value} (nv : NV X.K H os us) (h1 : 1 ≤ us.length) {Q : SortKind → Shared → Prop} (q : ∀ κ, (κ = tuples' false ∨ κ = general' ∨ κ = oneType') → Q κ s) : wpAny (model X.prog X.w) A (keyKind' us.toArray) Q E s := by
  obtain ⟨fs, l1, l2, l3⟩ := nv_firsts (M := model X.prog X.w) (A := A) (E := E) I nv
  have hne : us ≠ [] := fun z => by rw [z] at h1; exact absurd h1 (by decide)
  rw [kat_kind_eq, List.mapM_toArray, map_eq_pure_bind]
  refine wpAny_bind (wpAny_bind (l3 (wpAny_pure ?_)))
  by_cases hall : (fs.toArray.all fun x => x.isSome) = true
  · rw [if_pos hall]
    refine wpAny_bind (wpAny_rule ?_)
    have hfm : (fs.toArray.filterMap id) = (fs.filterMap id).toArray := by simp
    rw [hfm]
    refine wpAny_bind (one_type ?_ (fun v hv => ?_) ?_)
    · intro z
      have : fs ≠ [] := fun z2 => by rw [z2] at l1; exact hne (List.eq_nil_of_length_eq_zero l1.symm)
      cases fs with
      | nil => exact this rfl
      | cons f fs =>
        cases f with
        | none => simp at hall
        | some v => simp at z
    · obtain ⟨x, hx, hv⟩ := List.mem_filterMap.mp hv
      exact l2 v (by rw [← hv]; exact hx)
    · exact wpAny_pure (q _ (.inl rfl))
  · rw [if_neg hall]
    by_cases h0 : (fs.toArray[0]?.bind id).isSome = true
    · rw [if_pos h0]
      exact wpAny_pure (q _ (.inr (.inl rfl)))
    · rw [if_neg h0]
      refine wpAny_bind (one_type hne (nv_looks I nv) ?_)
      exact wpAny_pure (q _ (.inr (.inr rfl)))
theorem key_any (I : Inv X pins σ H s) {a b : O} {p q : Addr} (da : a.dp ≤ 3) (rp : Rep X.K H (.tup (encP a)) (.ref p)) (rq : Rep X.K H (.tup (encP b)) (.ref q)) {A : Around} (hu : A.units + 25 < cLine) {κ : SortKind} (hκ : κ = tuples' false ∨ κ = general' ∨ κ = oneType') {E : Value → Shared → Prop} {Q : Bool → Shared → Prop} (h : Q (decide (O.cmp a b < 0)) s) : wpAny (model X.prog X.w) A (keyLt' κ (.ref p) (.ref q)) Q E s := by
  rcases hκ with rfl | rfl | rfl
  · exact key_tup I da rp rq hu h
  · exact key_gen I da rp rq hu h
  · exact key_one I da rp rq hu h
theorem pairs_rev (vs : List Value) : (vs.toArray.zip vs.toArray).reverse = pairsOf vs.reverse := by
  apply Array.toList_inj.mp
  show (vs.toArray.zip vs.toArray).reverse.toList = (vs.reverse.toArray.zip vs.reverse.toArray).toList
  rw [Array.toList_reverse, Array.toList_zip, Array.toList_zip]
  show (List.zip vs vs).reverse = List.zip vs.reverse vs.reverse
  unfold List.zip
  exact List.reverse_zipWith rfl
theorem rk_order {os : List O} {n : Nat} (hn : os.length = n) (h2 : 2 ≤ n) (h5 : n ≤ 5) (hd : os.Nodup) : kOk n (kas_sort n) = true ∧ ∃ p : List Nat, p = (kRun (ltOf (os.map (rk os))) (kas_sort n)).toList ∧ (p.map fun i => (os.map (rk os)).getD i 0) = List.range n ∧ ∀ i, i ∈ p → i < n := by
  have hc := chk_at h2 h5
  unfold chkN at hc
  rw [Bool.and_eq_true] at hc
  refine ⟨hc.1, _, rfl, ?_⟩
  have hm : os.map (rk os) ∈ allL n n := by
    have := allL_mem (n := n) (l := os.map (rk os)) fun x hx => by
      obtain ⟨o, ho, rfl⟩ := List.mem_map.mp hx
      rw [← hn]
      exact rk_len ho
    rw [List.length_map, hn] at this
    exact this
  have hnd : (os.map (rk os)).Nodup := by
    rw [List.Nodup, List.pairwise_map]
    exact hd.imp_of_mem fun {a b} ha hb hne z => hne (rk_inj ha hb z)
  have h3 := List.all_eq_true.mp hc.2 _ hm
  rw [ndB_of hnd, Bool.not_true, Bool.false_or] at h3
  unfold kChk at h3
  rw [Bool.and_eq_true] at h3
  refine ⟨by simpa using h3.1, fun i hi => ?_⟩
  have := List.all_eq_true.mp h3.2 i hi
  simpa using this
theorem lt_ranks {os : List O} {i j : Nat} (hi : i < os.length) (hj : j < os.length) : ltOf (os.map (rk os)) i j = decide (O.cmp (os.getD i .z) (os.getD j .z) < 0) := by
  have e : ∀ k, k < os.length → (os.map (rk os)).getD k 0 = rk os (os.getD k .z) ∧ os.getD k .z ∈ os := fun k hk => by
    rw [List.getD_eq_getElem?_getD, List.getD_eq_getElem?_getD, List.getElem?_map, List.getElem?_eq_getElem hk]
    exact ⟨rfl, List.getElem_mem hk⟩
  unfold ltOf
  rw [(e i hi).1, (e j hj).1]
  exact decide_eq_decide.mpr (rk_iff (e i hi).2 (e j hj).2)
theorem sort_nums (I : Inv X pins σ H s) {A : Around} {E : Value → Shared → Prop} {a : Addr} {vs : List Value} {os : List O} {n : Nat} {R : PySem.Fin → Shared → Prop} (ho : s.heap.get? a = some (seqObj "list" vs.toArray n)) (fa : FpOk X pins H a) (nv : NV X.K H os vs) (hnd : os.Nodup) (h5 : vs.length ≤ 5) (hu : A.units + 25 < cLine)
    (h : ∀ (out : List Value) (ks : List O) (h' : Heap) (e : Nat), (∀ b o, b ≠ a → s.heap.get? b = some o → h'.get? b = some o) → h'.get? a = some (seqObj "list" out.toArray e) → NV X.K H ks out → Desc ks → ks.Perm os → R (.done (.ret .none)) { s with heap := h' }) :
    wpAny (model X.prog X.w) A (Builtin.«list.sort» ⟨[.ref a], [(Str.ofString "reverse", .bool true)]⟩) R E s := by
  have hlen := nv.length
  rw [list_sort_rev]
  have ha : a < s.heap.objs.size := Heap.lt_size ho
  refine wpAny_bind (listItems_at ho rfl ?_)
  refine wpAny_bind (listUpdate_at ho rfl ?_ (by rw [List.size_toArray, sizeLine_eq]; exact Nat.le_trans (by assumption) (Nat.le_of_ble_eq_true rfl)) (Nat.zero_le _))
  obtain ⟨e1, ho1⟩ : ∃ e1, (s.heap.update a (Obj.mapSeq fun _ => #[])).get? a = some (seqObj "list" #[] e1) := ⟨_, get?_update_seq ho (fun _ => #[])⟩
  refine wpAny_bind (seqEpoch_at ho1 rfl ?_)
  refine wpAny_bind (wpAny_newTuple ?_ (by show vs.length ≤ _; rw [sizeLine_eq]; exact Nat.le_trans (by assumption) (Nat.le_of_ble_eq_true rfl)))
  refine wpAny_bind (wpAny_newList ?_ (Nat.zero_le _))
  refine wpAny_holding ?_
  have sb : Heap.SameBut a s.heap (s.heap.update a (Obj.mapSeq fun _ => #[])) := Heap.SameBut.update ..
  have keep6 : ∀ b o, b ≠ a → s.heap.get? b = some o → (((s.heap.update a (Obj.mapSeq fun _ => #[])).push (seqObj "tuple" vs.toArray 0)).push (seqObj "list" #[] 0)).get? b = some o := fun b o hb e => Heap.get?_push_of_some _ (Heap.get?_push_of_some _ ((sb.2 b hb).trans e))
  have ho6 : (((s.heap.update a (Obj.mapSeq fun _ => #[])).push (seqObj "tuple" vs.toArray 0)).push (seqObj "list" #[] 0)).get? a = some (seqObj "list" #[] e1) := Heap.get?_push_of_some _ (Heap.get?_push_of_some _ ho1)
  show wpAny (model X.prog X.w) A _ R E { s with heap := ((s.heap.update a (Obj.mapSeq fun _ => #[])).push (seqObj "tuple" vs.toArray 0)).push (seqObj "list" #[] 0) }
  generalize ((s.heap.update a (Obj.mapSeq fun _ => #[])).push (seqObj "tuple" vs.toArray 0)).push (seqObj "list" #[] 0) = h6 at keep6 ho6 ⊢
  obtain ⟨f0, f1, f2, f3, f4, f5⟩ := fa
  have I6 : Inv X pins σ H { s with heap := h6 } := I.turned (t' := s.toks) keep6 f0 f1 f3 f4 f5
  simp only [if_true]
  refine wpAny_bind (wpAny_rule ?_)
  -- what is left once the order is known
  have fin : ∀ (out : List Value) (ks : List O), NV X.K H ks out → Desc ks → ks.Perm os → out.length = vs.length → wpAny (model X.prog X.w) A (Builtin.List.listUpdate (.ref a) fun _ => out.toArray) (fun _ s' => ∃ h' e, s' = { s with heap := h' } ∧ (∀ b o, b ≠ a → s.heap.get? b = some o → h'.get? b = some o) ∧ h'.get? a = some (seqObj "list" out.toArray e)) E { s with heap := h6 } := fun out ks _ _ _ hl => by
    refine listUpdate_at ho6 rfl ?_ (Nat.zero_le _) (by rw [List.size_toArray, sizeLine_eq]; (clear I ho nv hnd hu h ha ho1 sb keep6 ho6 f0 f1 f2 f3 f4 f5 I6; omega))
    have sb2 : Heap.SameBut a h6 (h6.update a (Obj.mapSeq fun _ => out.toArray)) := Heap.SameBut.update ..
    exact ⟨_, _, rfl, fun b o hb e => (sb2.2 b hb).trans (keep6 b o hb e), get?_update_seq ho6 fun _ => out.toArray⟩
  by_cases h2 : vs.toArray.size < 2
  · rw [if_pos h2, if_pos h2]
    refine wpAny_bind (wpAny_pure ?_)
    rw [StateT.run_pure]
    refine wpAny_bind (wpAny_pure ?_)
    dsimp only
    refine wpAny_bind (seqEpoch_at ho6 rfl ?_)
    have eo : ((arrOf (SortSt.mk' general' (vs.toArray.zip vs.toArray).reverse #[] 7 none)).map (·.2)).reverse = vs.toArray := by
      show (((vs.toArray.zip vs.toArray).reverse).map (·.2)).reverse = vs.toArray
      apply Array.toList_inj.mp
      simp [List.map_snd_zip]
    rw [eo]
    have hd1 : Desc os := by
      have : os.length < 2 := by rw [hlen]; simpa using h2
      match os, this with
      | [], _ => exact List.Pairwise.nil
      | [x], _ => exact List.pairwise_singleton _ _
    refine wpAny_bind (wpAny_mono (fin vs os nv hd1 (List.Perm.refl _) rfl) (fun _ s' ⟨h', e, es, k1, k2⟩ => ?_) fun _ _ x => x)
    subst es
    simp only [bne_self_eq_false, Bool.false_eq_true, if_false]
    exact wpAny_pure (h vs os h' e k1 k2 nv hd1 (List.Perm.refl _))
  · rw [if_neg h2, if_neg h2]
    have hn2 : 2 ≤ vs.length := by simpa using h2
    refine wpAny_bind (nv_kind I6 nv (by (clear I ho nv hnd hu h ha ho1 sb keep6 ho6 f0 f1 f2 f3 f4 f5 I6 fin h2; omega)) fun κ hκ => ?_)
    have nv' := nv.rev
    have hl' : os.reverse.length = vs.length := by rw [List.length_reverse]; exact hlen
    have hnd' : os.reverse.Nodup := by rw [List.Nodup, List.pairwise_reverse]; exact hnd.imp fun h => h.symm
    obtain ⟨ok, p, hp, hp1, hp2⟩ := rk_order hl' hn2 h5 hnd'
    obtain ⟨dsc, prm⟩ := desc_of hl' hnd' hp1 hp2
    have nvp := (nv'.pick (p := p) fun i hi => by rw [hl']; exact hp2 i hi).rev
    have hlp : p.length = vs.length := by have := congrArg List.length hp1; simpa using this
    have hask : (kas_sort vs.length).kasWp (kas_cmp X.prog X.w A κ (pairsOf vs.reverse)) (fun p' s' => s' = { s with heap := h6 } ∧ p'.toList = p) { s with heap := h6 } := by
      refine kas_pure (n := vs.length) (lt := ltOf (os.reverse.map (rk os.reverse))) (fun i j hi hj C hC => ?_) _ ok ⟨rfl, hp.symm⟩
      rw [← kas_ask_eq]
      unfold kas_ask
      obtain ⟨a1, g1, g2, g3⟩ := nv'.at i (by rw [hl']; exact hi)
      obtain ⟨a2, k1, k2, k3⟩ := nv'.at j (by rw [hl']; exact hj)
      rw [g1, k1]
      rw [lt_ranks (by rw [hl']; exact hi) (by rw [hl']; exact hj)] at hC
      exact key_any I6 g3 g2 k2 hu hκ hC
    have est : SortSt.mk' κ (vs.toArray.zip vs.toArray).reverse #[] 7 none = kas_st κ (pairsOf vs.reverse) (List.toArray (List.range vs.length)) := by
      have e := kas_range (pairsOf vs.reverse)
      rw [pairsOf_size, List.length_reverse] at e
      rw [pairs_rev]
      show SortSt.mk' κ (pairsOf vs.reverse) #[] 7 none = SortSt.mk' κ ((List.toArray (List.range vs.length)).map (kas_item (pairsOf vs.reverse))) #[] 7 none
      rw [e]
    have run := kas_runs (E := E) (κ := κ) (it := pairsOf vs.reverse) (Q := fun _ st' s' => s' = { s with heap := h6 } ∧ (arrOf st').map (·.2) = (p.map fun i => vs.reverse.getD i Value.none).toArray ∧ failedOf st' = none) hn2 (by (clear I ho nv hnd hu h ha ho1 sb keep6 ho6 f0 f1 f2 f3 f4 f5 I6 fin h2 hκ nv' hnd' ok hp hp1 hp2 dsc prm nvp hask est; omega)) (fun p' st' s' a1 a2 a3 a4 => ⟨a4.1, by
      apply Array.toList_inj.mp
      rw [a2, Array.map_map, Array.toList_map, a4.2]
      exact List.map_congr_left fun i _ => by show (kas_item (pairsOf vs.reverse) i).2 = _; rw [kas_item_eq], a3⟩) hask
    rw [← est] at run
    refine wpAny_bind (wpAny_mono run ?_ fun _ _ e => e)
    rintro ⟨⟨⟩, st'⟩ s' ⟨rfl, har, hf⟩
    dsimp only
    refine wpAny_bind (seqEpoch_at ho6 rfl ?_)
    rw [har, show (p.map fun i => vs.reverse.getD i Value.none).toArray.reverse = ((p.map fun i => vs.reverse.getD i Value.none).reverse).toArray by simp]
    have prm2 := prm.trans (List.reverse_perm os)
    refine wpAny_bind (wpAny_mono (fin _ _ nvp dsc prm2 (by rw [List.length_reverse, List.length_map, hlp])) (fun _ s' ⟨h', e, es, k1, k2⟩ => ?_) fun _ _ x => x)
    subst es
    rw [hf]
    simp only [bne_self_eq_false, Bool.false_eq_true, if_false]
    exact wpAny_pure (h _ _ h' e k1 k2 nvp dsc prm2)
end
end L2
set_option linter.all false
set_option maxRecDepth 100000
set_option maxHeartbeats 1000000
namespace L2
open PySem PySem.Spec PyProof.Rows Nm PySem.W
section
variable {X : Cx} {pins : List (Addr × Obj)} {σ : St} {H : Hp} {s : Shared}
theorem KVO.ents {P : Program} {w : World} {K : PySem.W.Frag} : ∀ {kvs : List (O × W)} {xs : List (O × Addr × Value)}, KVO K H kvs xs → (∀ p, p ∈ kvs → p.1.dp ≤ 3) → NV K H (kvs.map (·.1)) ((xs.map (entryOfKey (oKind P w))).map (·.key))
  | _, _, .nil, _ => .nil
  | _, _, .cons rk _ _ t, h => .cons rk (h _ List.mem_cons_self) (KVO.ents t fun p hp => h p (List.mem_cons_of_mem _ hp))
theorem call_sortO {k : Nat} (hr : Room k X.A) (hc : X.calm = true) (I : Inv X pins σ H s) {d : Addr} {kvs : List (O × W)} (hD : DioP X.prog X.w X.K kvs H d) (h5 : kvs.length ≤ 5) {E : Value → Shared → Prop} {Q : Value → Shared → Prop}
    (h : ∀ (h1 : Heap) (ks : List O) (out : List Value) (h' : Heap) (tk e : Nat), Inv X pins σ H { s with heap := h1, toks := tk } → (∀ b o, h1.get? b = some o → h'.get? b = some o) → h'.get? h1.objs.size = some (seqObj "list" out.toArray e) → NV X.K H ks out → Desc ks → ks.Perm (kvs.map (·.1)) → Q (.ref h1.objs.size) { s with heap := h', toks := tk }) :
    wpAny (model X.prog X.w) X.A (call (.builtin "sorted") [.ref d] [(Str.ofString "reverse", .bool true)]) Q E s := by
  have hun := hr.un
  obtain ⟨xs, eH, kv, ob, es, ep, m1, m2, m3, m4, _⟩ := hD.dict I
  have hsz : es.size = kvs.length := by rw [size_of_entries m4, kv.length]
  refine call_function_entry_kw kind_sorted plain_sorted entry_sorted (args_sorted_rev _ _) ?_
  unfold Builtin.«sorted»
  refine wpAny_bind (m := checkCount "sorted" 1 1 _) (wpAny_pure ?_)
  refine wpAny_bind (kdu_collect (A := X.A.in1) (kdl_ent (es := es) (ep := ep) hD.2.1) (I.ok.hd hc) ⟨ob, m1, m2, m3⟩ (by rw [hsz, sizeLine_eq]; exact Nat.le_trans (by assumption) (Nat.le_of_ble_eq_true rfl)) fun h1 tk acc k1 hacc => ?_)
  have hal : acc.toList = es.toList.map (·.key) := by
    apply List.ext_getElem?
    intro i
    rw [List.getElem?_map]
    by_cases hi : i < es.size
    · have hi2 : i < acc.size := by rw [hacc.1]; exact hi
      obtain ⟨e, e1, e2⟩ := hacc.2 i acc[i] (Array.getElem?_eq_getElem hi2)
      rw [Array.getElem?_toList, Array.getElem?_toList, e1, Array.getElem?_eq_getElem hi2, e2]
      rfl
    · rw [Array.getElem?_toList, Array.getElem?_toList, Array.getElem?_eq_none (by rw [hacc.1]; (clear hr hc I hD h5 h hun eH kv m1 m2 m3 m4 hsz k1 hacc; omega)), Array.getElem?_eq_none (by (clear hr hc I hD h5 h hun eH kv m1 m2 m3 m4 hsz k1 hacc; omega))]
      rfl
  have nv : NV X.K H (kvs.map (·.1)) acc.toList := by
    rw [hal, m4]
    exact KVO.ents kv hD.2.2.2.1
  have hlen : acc.toList.length ≤ 5 := by rw [← nv.length, List.length_map]; exact h5
  refine wpAny_bind (wpAny_newList ?_ (by rw [sizeLine_eq]; exact Nat.le_trans (by assumption) (Nat.le_of_ble_eq_true rfl)))
  have I1 : Inv X pins σ H { s with heap := h1, toks := tk } := I.kept k1
  have fp : FpOk X pins H h1.objs.size := I1.fpOk (Nat.le_refl _) (I1.hok.fresh (Nat.le_refl _))
  have I2 : Inv X pins σ H { s with heap := h1.push (seqObj "list" acc.toList.toArray 0), toks := tk } := I1.kept fun b o e => Heap.get?_push_of_some _ e
  refine wpAny_bind (wpAny_holding (wpAny_call_entry_kw slot_list_sort ⟨_, Heap.get?_push_size _ rfl, rfl⟩ entry_list_sort (sort_nums I2 (Heap.get?_push_size _ rfl) fp nv hD.2.2.1 hlen (by show X.A.units + 1 + 1 + 25 < cLine; (clear hr hc I hD h5 h eH kv m1 m2 m3 m4 hsz k1 hacc hal nv hlen I1 fp I2; omega)) fun out ks h' e k2 g2 nvk ds pm => ⟨_, rfl, ?_⟩) (args_list_sort_rev _ _)))
  exact wpAny_pure ⟨_, rfl, h h1 ks out h' tk e I1 (fun b o e => k2 b o (Nat.ne_of_lt (Heap.lt_size e)) (Heap.get?_push_of_some _ e)) g2 nvk ds pm⟩
theorem NV.vals {K : PySem.W.Frag} : ∀ {os : List O} {us : List Value}, NV K H os us → ∃ vs : List V, Reps K H (os.map fun o => .tup (encP o)) vs ∧ Vals vs us
  | _, _, .nil => ⟨[], .nil, .nil⟩
  | _, _, .cons (a := a) r _ t => by
    obtain ⟨vs, h1, h2⟩ := NV.vals t
    exact ⟨.ref a :: vs, .cons r h1, .cons rfl h2⟩
noncomputable def wSortO (P : Program) (w : World) (K : PySem.W.Frag) (te : WE) : WE := fun τ G q => te τ G fun x G1 => match x with
  | .ref a => ∃ kvs, G1 a = some (dio P w K kvs) ∧ kvs.length ≤ 5 ∧ ∀ (p : Addr) (ks : List O), G1 p = none → Desc ks → ks.Perm (kvs.map (·.1)) → q (.ref p) (updG G1 p (.lst (ks.map fun o => .tup (encP o))))
  | _ => False
theorem boot_sorted : bootBuiltins "sorted" = some (.builtin "sorted") := by decide +kernel
theorem qe_sortO {n : Nat} {e : Expr} {te : WE} {j} {p pos kp cp : Pos} (hr : Room n X.A) (hc : X.calm = true) (hg : Gl X "sorted") (hm : X.mg "sorted" = none) (he : QE X e te)
    (hs1 : starEach [e] X.env = (false, eval e X.env) :: starEach [] X.env := by rfl) (hb1 : backTo pos (starEach [e] X.env) = (false, eval e X.env) :: backTo pos (starEach [] X.env) := by rfl) (hpl : (backTo pos (starEach [e] X.env)).any (·.1) = false := by rfl) :
    QE X (.Call (.Name "sorted" p) [e] [⟨some "reverse", .Constant (.bool true) j cp, kp⟩] pos) (wSortO X.prog X.w X.K te) := by
  intro pins s σ H Q I ⟨τ, G, q, hs, hgG, ht, hQ⟩
  refine wpAny_Call_Name_kw (ld_blt I hg hm boot_sorted ?_)
  have go := (pa_cons he pa_nil hs1) pos pins s σ H (fun vs H1 => ∃ v w G1, vs = [v] ∧ TLe H H1 ∧ Rep X.K H1 w v ∧ RelG X.K H1 G1 ∧ (match w with
      | .ref a => ∃ kvs, G1 a = some (dio X.prog X.w X.K kvs) ∧ kvs.length ≤ 5 ∧ ∀ (p : Addr) (ks : List O), G1 p = none → Desc ks → ks.Perm (kvs.map (·.1)) → q (.ref p) (updG G1 p (.lst (ks.map fun o => .tup (encP o))))
      | _ => False)) I ⟨τ, G, _, hs, hgG, ht, fun v H1 w G1 t1 r1 g1 q1 => ⟨v, w, G1, rfl, t1, r1, g1, q1⟩⟩
  refine callWith_kw (thn go fun us s1 ⟨vs, H1, I1, rv, v, w, G1, ev, t1, rw1, g1, hw⟩ => kws_cons ?_) hb1 hpl rfl rfl
  subst ev
  refine thn (pe_bl (X := X) (b := true) (j := j) (pos := cp) pins s1 σ H1 (fun v H2 => v = .bl true ∧ H2 = H1) I1 ⟨rfl, rfl⟩) fun u2 s2 ⟨v2, H2, I2, rv2, e1, e2⟩ => kws_nil ?_
  subst e1 e2
  cases (show u2 = Value.bool true from rv2)
  show wpAny _ _ (call (.builtin "sorted") us [("reverse", .bool true)]) _ _ s2
  split at hw
  · rename_i a
    obtain ⟨kvs, e, h5, h⟩ := hw
    cases rw1
    obtain ⟨u, rfl, ru⟩ := vals1 rv
    cases (show u = Value.ref a from ru)
    refine call_sortO hr hc I2 (g1 a _ e).1 h5 fun h1 ks out h' tk ee I3 k3 g3 nvk ds pm => ?_
    obtain ⟨vs, r1, r2⟩ := nvk.vals
    have hl : ks.length ≤ 5 := by have := pm.length_eq; rw [List.length_map] at this; (clear hr hc hg hm he hs1 hb1 hpl I hs hgG ht hQ go I2 I1 t1 g1 rv2 e h ru rv I3 k3 g3 nvk ds pm r1 r2; omega)
    have hp := I3.hok.fresh (Nat.le_refl h1.objs.size)
    have hvl : vs.length ≤ sizeLine := by rw [← r1.length, List.length_map, sizeLine_eq]; exact Nat.le_trans (by assumption) (Nat.le_of_ble_eq_true rfl)
    refine ⟨.ref h1.objs.size, _, I3.laid (t' := tk) k3 (Nat.le_refl _) (show ObjOk X.prog X.w _ h' _ (.lst vs) from ⟨hvl, out, ee, r2, g3⟩), rfl, ?_⟩
    exact hQ _ _ _ _ (t1.trans (TLe.new hp _)) (.ref _) (g1.put (TLe.new hp _) r1 (by rw [List.length_map]; exact Nat.le_trans (by assumption) (Nat.le_of_ble_eq_true rfl))) (h _ ks (g1.fresh hp) ds pm)
  · exact hw.elim
end
end L2

set_option Elab.async false
set_option linter.all false
open PySem PySem.Spec PyProof.Rows L2 Nm
seal QE QT QW QA QS QSs QG QGs QI QO QTs QOp QIx QCall
seal PySem.compareOp PySem.binaryOp PySem.unaryOp

set_option bootstrap.genMatcherCode true
set_option compiler.extract_closed false
local macro_rules | `(tactic| walk_at "R") => `(tactic| simp (config := { failIfUnchanged := false, maxSteps := 2000000 }) only [lits3, l_self, txt_eq, txt_flat, txt_dep, wClrL, wDicO, wSdf, wSortO, rIxO, wComp2, jRevL, cDic, wIsI, cAll, wSome, rEqG, rNeG, rIxD, rInD, rNinD, wDicN, wDPut, wThaw, jKeys, jVals, jItems, wIsD, cLenD, cListD, wDGet, wDClr, rEqD, rNeD, wIdx, wRevL, wLenSet, wCnt, vAddS, vMulS, vMulT, rIxS3, wSlS, rSlS, cLenS, rNinS, jSeqS, wJoin, wCount, wFst, wPop, wFld, wFldS, wMake, wMeth, wPop, wBrk, wCnt, putW, wStart, wSeq, wIf, wTest, wOp, wVar, wC, wNeg, wRet, wNext, wAsg, wPar, wNever, wNevers, wRaise, wTry, wTryA, wTryY, wIfY, wSeqY, wCallY, wDoY, wAs, wIsx, wIsn, wMaxD, wTupRev, wTupRvT, wBits, jRngG, CPowB, rIsB, wCallX, wDct, hName, wCall, wCB, wCons, wNil, wTup, wLst, wIsi, wAnd, wOr, wNot, wAndV, wOrV, wNotV, wIfE, wDrop, wSl, wPart, wNoPart, wFor, jSeq, jRng, jRng2, jRng3, jZip, jRev, jEnum, jEnumL, wExt, wComp, wApp, wTrue, hTup, hCons, hNil, vAdd, rSub3, L2.vInt, L2.vInt0, rEq4, rNe4, rEq3, rNe3, rLt3, rGe3, rIsA, rIsN, rIx3, rSl3, cLen, cTuple, cList, cSum, cInt, cMax, cMax4, cMin, List.map_cons, List.map_nil, List.length_cons, List.length_nil, List.replicate_succ, List.replicate_zero, List.cons_append, List.nil_append, List.append_nil, List.getElem?_cons_zero, List.getElem?_cons_succ, List.set_cons_zero, List.set_cons_succ, Nat.reduceAdd, Nat.reduceSub, Nat.zero_add, Nat.add_zero, Nat.sub_self, Nat.sub_zero, atI0, atI1, atI2, Option.some.injEq, exists_eq_left', int_flat, int_dep, int_eq, nil_flat, nil_dep, beqZ, decide_eq_true_eq, Bool.not_eq_true', decide_eq_false_iff_not, true_and, Nat.zero_le, cpow10, CMulC, CMulB, CDivB, CMul, CDiv, Int.reduceLE, Int.reduceLT, Nat.reducePow, Nat.reduceLT, Nat.reduceLeDiff, Int.reduceToNat, Int.reducePow, Int.reduceNeg, and_true, or_true, true_or, and_self, tyN_int, tyN_bl, tyN_tup, tyN_non, subN_ii, subN_ib, subN_it, subN_bi, subN_bb, subN_bt, subN_tt, subN_ti, subN_tb, subN_ll, subN_nt, Int.toNat_natCast, if_true, if_false, Bool.false_eq_true, Bool.true_eq_false, Bool.not_true, Bool.not_false, eq_self, not_true_eq_false, not_false_eq_true, cast_0, cast_1, cast_2, cast_3])
set_option bootstrap.genMatcherCode false
namespace Lw
open PySem PySem.Spec PyProof.Rows L2 Nm
noncomputable def top (i : Nat) : Stmt := PySem.Challenge.pw_hydrahouse_k64_weights.main.body.getD i (.Pass ⟨0, 0, 0, 0⟩)
noncomputable def mtd (i j : Nat) : Stmt := (clsB (top i)).getD j (.Pass ⟨0, 0, 0, 0⟩)
structure Txt (K : PySem.W.Frag) (mg : Str → Option Value) : Prop where
  d__wall : Df K mg "_wall" (top 0) ["k"]
  d_is_whole : DfD K mg "is_whole" (top 5) ["thing", "least"] [.int 0]
  d_whole : Df K mg "whole" (top 6) ["n"]
  d_endless : Df K mg "endless" (top 7) []
  d_raised : DfD K mg "raised" (top 8) ["exponent", "times"] [.int 1]
  d_compare : Df K mg "compare" (top 9) ["a", "b"]
  d_whole_part : Df K mg "whole_part" (top 10) ["a"]
  d_without_whole : Df K mg "without_whole" (top 11) ["a"]
  d_plus : Df K mg "plus" (top 13) ["a", "b"]
  d_parts_above : Df K mg "parts_above" (top 14) ["a", "exponent"]
  d_total : Df K mg "total" (top 15) ["some"]
  d_times : Df K mg "times" (top 17) ["a", "b"]
  d_weight_of : Df K mg "weight_of" (top 19) ["things"]
  d_by_exponent : Df K mg "by_exponent" (top 27) ["marks"]
  d_weight : Df K mg "weight" (top 29) ["rows"]
  d__law_exponent : Df K mg "_law_exponent" (top 31) ["_law_number"]
  d__law_marks : Df K mg "_law_marks" (top 32) ["_law_cell"]
  d__law_deep : Df K mg "_law_deep" (top 33) ["_law_thing"]
  d__law_rows : Df K mg "_law_rows" (top 34) ["_law_cells"]
  d__law_made : Df K mg "_law_made" (top 35) ["_law_thing"]
  d__law_height : Df K mg "_law_height" (top 36) ["_law_marks_here"]
  d__law_of_row : Df K mg "_law_of_row" (top 37) ["_law_thing"]
  d__law_weight : Df K mg "_law_weight" (top 38) ["_law_rows_here"]
  k_Set : ∃ C : Addr, mg "Set" = some (.ref C) ∧ Cls K C ∧ NoAttr K C "box" ∧ NoAttr K C "amount" ∧ MdI K C "Set.__init__" (mtd 21 0) ["self", "box", "amount"] ∧ Md K C "step" "Set.step" (mtd 21 1) ["self", "boxes"] ∧ Md K C "weigh" "Row.weigh" (mtd 20 0) ["self"] ∧ ∃ D : Addr, mg "Row" = some (.ref D) ∧ XD K D ∧ PySem.W.mroIn K C (.ref D) = some true
  k_Copy : ∃ C : Addr, mg "Copy" = some (.ref C) ∧ Cls K C ∧ NoAttr K C "box" ∧ NoAttr K C "other" ∧ MdI K C "Copy.__init__" (mtd 22 0) ["self", "box", "other"] ∧ Md K C "step" "Copy.step" (mtd 22 1) ["self", "boxes"] ∧ Md K C "weigh" "Row.weigh" (mtd 20 0) ["self"] ∧ ∃ D : Addr, mg "Row" = some (.ref D) ∧ XD K D ∧ PySem.W.mroIn K C (.ref D) = some true
  k_Add : ∃ C : Addr, mg "Add" = some (.ref C) ∧ Cls K C ∧ NoAttr K C "box" ∧ NoAttr K C "other" ∧ MdI K C "Add.__init__" (mtd 23 0) ["self", "box", "other"] ∧ Md K C "step" "Add.step" (mtd 23 1) ["self", "boxes"] ∧ Md K C "weigh" "Row.weigh" (mtd 20 0) ["self"] ∧ ∃ D : Addr, mg "Row" = some (.ref D) ∧ XD K D ∧ PySem.W.mroIn K C (.ref D) = some true
  k_Less : ∃ C : Addr, mg "Less" = some (.ref C) ∧ Cls K C ∧ NoAttr K C "box" ∧ MdI K C "Less.__init__" (mtd 24 0) ["self", "box"] ∧ Md K C "step" "Less.step" (mtd 24 1) ["self", "boxes"] ∧ Md K C "weigh" "Row.weigh" (mtd 20 0) ["self"] ∧ ∃ D : Addr, mg "Row" = some (.ref D) ∧ XD K D ∧ PySem.W.mroIn K C (.ref D) = some true
  k_Times : ∃ C : Addr, mg "Times" = some (.ref C) ∧ Cls K C ∧ NoAttr K C "box" ∧ NoAttr K C "rows" ∧ NoAttr K C "of_round" ∧ MdI K C "Times.__init__" (mtd 25 0) ["self", "box", "rows"] ∧ Md K C "weigh" "Times.weigh" (mtd 25 1) ["self"] ∧ Md K C "step" "Times.step" (mtd 25 2) ["self", "boxes"] ∧ ∃ D : Addr, mg "Row" = some (.ref D) ∧ XD K D ∧ PySem.W.mroIn K C (.ref D) = some true
  k_While : ∃ C : Addr, mg "While" = some (.ref C) ∧ Cls K C ∧ NoAttr K C "box" ∧ NoAttr K C "heights" ∧ NoAttr K C "rows" ∧ NoAttr K C "of_round" ∧ MdI K C "While.__init__" (mtd 26 0) ["self", "box", "marks", "rows"] ∧ Md K C "weigh" "While.weigh" (mtd 26 1) ["self"] ∧ Md K C "step" "While.step" (mtd 26 2) ["self", "boxes"] ∧ Md K C "measure" "While.measure" (mtd 26 3) ["self", "boxes"] ∧ ∃ D : Addr, mg "Row" = some (.ref D) ∧ XD K D ∧ PySem.W.mroIn K C (.ref D) = some true
  x_ : ∃ c0 c1 : Addr, (mg "HydraError" = some (.ref c0) ∧ PySem.W.excIn K c0 [.type "ValueError", .type "Exception", .type "BaseException", .type "object"] "ValueError.__new__" = true) ∧ (mg "NoNumber" = some (.ref c1) ∧ PySem.W.excIn K c1 [.type "ValueError", .type "Exception", .type "BaseException", .type "object"] "ValueError.__new__" = true) ∧ PySem.W.mroIn K c1 (.ref c0) = some true
  z_ValueError : mg "ValueError" = none
  z_bool : mg "bool" = none
  z_int : mg "int" = none
  z_isinstance : mg "isinstance" = none
  z_len : mg "len" = none
  z_list : mg "list" = none
  z_max : mg "max" = none
  z_range : mg "range" = none
  z_reversed : mg "reversed" = none
  z_sorted : mg "sorted" = none
  z_tuple : mg "tuple" = none
section
variable {P : Program} {w : World} {K : PySem.W.Frag} {mg : Str → Option Value} {base : Heap} {f : Addr} {fd : FuncData}
set_option maxRecDepth 100000
set_option maxHeartbeats 0
noncomputable def spCm : WSp := fun ws G q _ => ∃ a b : O, ws = [.tup (encP a), .tup (encP b)] ∧ a.dp ≤ 60 ∧ q (.int (O.cmp a b)) G
noncomputable def spPa : WSp := fun ws G q _ => ∃ a x : O, ws = [.tup (encP a), .tup (encP x)] ∧ a.NF ∧ a.dp ≤ 60 ∧ a.len ≤ 1000 ∧ q (.int (O.stay x a)) G
noncomputable def spPs : WSp := fun ws G q _ => ∃ a b : O, ws = [.tup (encP a), .tup (encP b)] ∧ a.NF ∧ a.dp ≤ 60 ∧ b.dp ≤ 60 ∧ a.len ≤ 1000 ∧ b.len ≤ 1000 ∧ q (.tup (encP (O.plusO a b))) G

/-! the program's order -/
theorem scCm : FnScope ["a", "b"] ["a", "b"] (defScope (top 9)) := ⟨rfl, rfl, rfl, by decide +kernel, rfl, by decide +kernel, by decide +kernel⟩
theorem fnCm (F : Fun K "compare" "compare" (top 9) f fd) : WFn P w K mg base 1 f fd ["a", "b"] spCm := by
  have nd := scCm.nd
  refine fn3 F scCm (fun ws G q e h => by obtain ⟨_, _, rfl, _⟩ := h; rfl) (fun cdv A outer s H E hr => ?_)
  apply bodyOf
  · exact (qss_cons (qs_if (qt_cmp (q_eqG hr) (qe_var 0 rfl (.inl rfl)) (qe_var 1 rfl (.inl rfl)) (nomark _)) (qss_cons (qs_ret qe_int) qss_nil) qss_nil) (qss_cons (qs_ret (qe_ifExp (qt_cmp (q_lt3 hr) (qe_var 0 rfl (.inl rfl)) (qe_var 1 rfl (.inl rfl)) (nomark _)) (qe_neg qe_int) qe_int)) qss_nil))
  · rintro ws G q e ⟨a, b, rfl, hx, hq⟩
    walk_at "R"
    have h1 := lts_encP a b
    have hd := tup_dep a
    rw [tup_eq, h1.2]
    refine ⟨tup_flat a, tup_flat b, by (clear F nd hr hq h1; omega), ?_⟩
    rcases O.cmp_range a b with k | k | k
    · rw [if_neg (by simp; intro z; rw [z, O.cmp_self] at k; (clear F nd hr hx hq h1 hd z; omega)), if_pos (by simp; (clear F nd hr hx hq h1 hd; omega))]
      exact ⟨encP_flat a, encP_flat b, encP_deps a (by exact Nat.le_trans (by assumption) (Nat.le_of_ble_eq_true rfl)), h1.1, GLe.done (by rw [k] at hq; exact hq)⟩
    · rw [if_pos (by simpa using O.cmp_eq _ _ k)]
      exact GLe.done (by rw [k] at hq; exact hq)
    · rw [if_neg (by simp; intro z; rw [z, O.cmp_self] at k; (clear F nd hr hx hq h1 hd z; omega)), if_neg (by simp; (clear F nd hr hx hq h1 hd; omega))]
      exact ⟨encP_flat a, encP_flat b, encP_deps a (by exact Nat.le_trans (by assumption) (Nat.le_of_ble_eq_true rfl)), h1.1, GLe.done (by rw [k] at hq; exact hq)⟩

/-! the program's sum -/
theorem scPa : FnScope ["a", "exponent", "low", "high", "middle"] ["a", "exponent"] (defScope (top 14)) := ⟨rfl, rfl, rfl, by decide +kernel, rfl, by decide +kernel, by decide +kernel⟩
theorem fnPa (F : Fun K "parts_above" "parts_above" (top 14) f fd) (F1 : Fx P w K mg base "compare" ["a", "b"] 1 spCm) (ml : mg "len" = none) : WFn P w K mg base 2 f fd ["a", "exponent"] spPa := by
  have nd := scPa.nd
  refine fn3 F scPa (fun ws G q e h => by obtain ⟨_, _, rfl, _⟩ := h; rfl) (fun cdv A outer s H E hr => ?_)
  apply bodyOf
  · exact (qss_cons (qs_set 2 nd rfl (.inl rfl) qe_int) (qss_cons (qs_set 3 nd rfl (.inl rfl) (qe_callB q_lenD rfl ml PySem.boot_len (qa_cons (qe_var 0 rfl (.inl rfl)) qa_nil))) (qss_cons (qs_while PySem.PassesOwn.never (qt_cmp (q_lt3 hr) (qe_var 2 rfl (.inl rfl)) (qe_var 3 rfl (.inl rfl)) (nomark _)) (qss_cons (qs_set 4 nd rfl (.inl rfl) (qe_op q_divB (qe_op q_addS (qe_var 2 rfl (.inl rfl)) (qe_var 3 rfl (.inl rfl))) qe_int)) (qss_cons (qs_if (qt_cmp q_gt (qe_fxn F1 (Room.mono hr (by omega)) rfl (qa_cons (qe_ix q_ixD (qe_ix q_ixD (qe_var 0 rfl (.inl rfl)) (qe_var 4 rfl (.inl rfl)) (fun _ _ => rfl)) qe_int (fun _ _ => rfl)) (qa_cons (qe_var 1 rfl (.inl rfl)) qa_nil))) qe_int (nomark _)) (qss_cons (qs_set 2 nd rfl (.inl rfl) (qe_op q_addS (qe_var 4 rfl (.inl rfl)) qe_int)) qss_nil) (qss_cons (qs_set 3 nd rfl (.inl rfl) (qe_var 4 rfl (.inl rfl))) qss_nil)) qss_nil))) (qss_cons (qs_ret (qe_var 2 rfl (.inl rfl))) qss_nil))))
  · rintro ws G q e ⟨a, x, rfl, hn, hx, hl, hq⟩
    refine seqU fun U hU => ?_
    walk_at "R"
    subst hU
    refine seqU fun U hU => ?_
    walk_at "R"
    rw [encP_length]
    subst hU
    refine seqU fun U hU => ?_
    refine ⟨fun m τ G' => G' = G ∧ ∃ (lo hi : Nat) (t4 : Option W), τ = [some (.tup (encP a)), some (.tup (encP x)), some (.int (lo : Int)), some (.int (hi : Int)), t4] ∧ lo ≤ O.stay x a ∧ O.stay x a ≤ hi ∧ hi ≤ a.len ∧ m = hi - lo, ⟨a.len, rfl, 0, a.len, none, rfl, Nat.zero_le _, O.stay_le, Nat.le_refl _, rfl⟩, ?_⟩
    rintro m τ G' ⟨rfl, lo, hi, t4, rfl, h1, h2, h3, rfl⟩
    walk_at "R"
    split
    · rename_i hlt
      refine ⟨fun τ1 G1 => G1 = G' ∧ ∃ (lo' hi' : Nat) (t4 : Option W), τ1 = [some (.tup (encP a)), some (.tup (encP x)), some (.int (lo' : Int)), some (.int (hi' : Int)), t4] ∧ lo' ≤ O.stay x a ∧ O.stay x a ≤ hi' ∧ hi' ≤ a.len ∧ hi' - lo' < hi - lo, ?_, ?_⟩
      · rintro τ1 G1 ⟨rfl, lo', hi', t4, rfl, k1, k2, k3, k4⟩
        exact ⟨_, k4, rfl, lo', hi', t4, rfl, k1, k2, k3, rfl⟩
      · have em : ((lo : Int) + hi) / 2 = (((lo + hi) / 2 : Nat) : Int) := by (clear F F1 ml nd hr hn hx hl hU hq h1 h2 h3 hlt; omega)
        obtain ⟨y, n, hp⟩ := O.getP_some (a := a) (i := (lo + hi) / 2) (by (clear F F1 ml nd hr hn hx hl hU hq h1 h2; omega))
        rw [em]
        refine ⟨_, encP_at hp, ?_⟩
        have hs := O.getP_size hp
        have hab := O.above_iff (e := x) hn hp
        unfold prt enc
        walk_at "R"
        refine ⟨y, x, rfl, by (clear F F1 ml nd hr hn hl hU hq h1 h2 h3 hlt em hp hab; omega), ?_⟩
        walk_at "R"
        split
        · rename_i hc
          have := hab.mp hc
          exact ⟨(lo + hi) / 2 + 1, hi, _, rfl, by assumption, h2, h3, by (clear F F1 ml nd hr hn hx hU hq h1 h2 hp hs hab hc this; omega)⟩
        · rename_i hc
          have := fun z => hc (hab.mpr z)
          exact ⟨lo, (lo + hi) / 2, _, rfl, h1, by (clear F F1 ml nd hr hn hx hl hU hq h1 h2 h3 hlt em hp hs; omega), by (clear F F1 ml nd hr hn hx hl hU hq h1 h2 hp hs hab hc this; omega), by (clear F F1 ml nd hr hn hx hU hq h1 h2 hp hs hab hc this; omega)⟩
    · subst hU
      walk_at "R"
      have : (lo : Int) = O.stay x a := by (clear F F1 ml nd hr hn hx hl hq h3; omega)
      rw [this]
      exact GLe.done hq
theorem scPs : FnScope ["a", "b", "exponent", "stay", "both"] ["a", "b"] (defScope (top 13)) := ⟨rfl, rfl, rfl, by decide +kernel, rfl, by decide +kernel, by decide +kernel⟩
theorem fnPs (F : Fun K "plus" "plus" (top 13) f fd) (F1 : Fx P w K mg base "parts_above" ["a", "exponent"] 2 spPa) (ml : mg "len" = none) : WFn P w K mg base 3 f fd ["a", "b"] spPs := by
  have nd := scPs.nd
  refine fn3 F scPs (fun ws G q e h => by obtain ⟨_, _, rfl, _⟩ := h; rfl) (fun cdv A outer s H E hr => ?_)
  apply bodyOf
  · exact (qss_cons (qs_if (qt_cmp (q_eqG hr) (qe_var 1 rfl (.inl rfl)) (qe_tup qa_nil) (nomark _)) (qss_cons (qs_ret (qe_var 0 rfl (.inl rfl))) qss_nil) qss_nil) (qss_cons (qs_set 2 nd rfl (.inl rfl) (qe_ix q_ixD (qe_ix q_ixD (qe_var 1 rfl (.inl rfl)) qe_int (fun _ _ => rfl)) qe_int (fun _ _ => rfl))) (qss_cons (qs_set 3 nd rfl (.inl rfl) (qe_fxn F1 (Room.mono hr (by omega)) rfl (qa_cons (qe_var 0 rfl (.inl rfl)) (qa_cons (qe_var 2 rfl (.inl rfl)) qa_nil)))) (qss_cons (qs_if (qt_w (qw_and (qt_cmp (q_lt3 hr) (qe_var 3 rfl (.inl rfl)) (qe_callB q_lenD rfl ml PySem.boot_len (qa_cons (qe_var 0 rfl (.inl rfl)) qa_nil)) (nomark _)) (qw_and1 (qt_cmp (q_eqG hr) (qe_ix q_ixD (qe_ix q_ixD (qe_var 0 rfl (.inl rfl)) (qe_var 3 rfl (.inl rfl)) (fun _ _ => rfl)) qe_int (fun _ _ => rfl)) (qe_var 2 rfl (.inl rfl)) (nomark _))))) (qss_cons (qs_set 4 nd rfl (.inl rfl) (qe_tup (qa_cons (qe_var 2 rfl (.inl rfl)) (qa_cons (qe_op q_addS (qe_ix q_ixD (qe_ix q_ixD (qe_var 0 rfl (.inl rfl)) (qe_var 3 rfl (.inl rfl)) (fun _ _ => rfl)) qe_int (fun _ _ => rfl)) (qe_ix q_ixD (qe_ix q_ixD (qe_var 1 rfl (.inl rfl)) qe_int (fun _ _ => rfl)) qe_int (fun _ _ => rfl))) qa_nil)))) (qss_cons (qs_ret (qe_op q_addS (qe_op q_addS (qe_sliceS (qe_var 0 rfl (.inl rfl)) qo_none (qo_some (qe_var 3 rfl (.inl rfl)))) (qe_tup (qa_cons (qe_var 4 rfl (.inl rfl)) qa_nil))) (qe_sliceS (qe_var 1 rfl (.inl rfl)) (qo_some qe_int) qo_none))) qss_nil)) qss_nil) (qss_cons (qs_ret (qe_op q_addS (qe_sliceS (qe_var 0 rfl (.inl rfl)) qo_none (qo_some (qe_var 3 rfl (.inl rfl)))) (qe_var 1 rfl (.inl rfl)))) qss_nil)))))
  · rintro ws G q e ⟨a, b, rfl, hn, hx, hy, hl, hl2, hq⟩
    have hd := tup_dep b
    refine seqU fun U hU => ?_
    walk_at "R"
    refine ⟨tup_flat b, by (clear F F1 ml nd hr hn hx hl hl2 hq hU; omega), ?_⟩
    rw [tup_nil_eq]
    cases b with
    | z =>
      rw [if_pos (by simp)]
      exact GLe.done hq
    | c e n r =>
      rw [if_neg (by simp)]
      simp only [O.len] at hl2
      have hde : e.dp ≤ 60 := by simp only [O.dp] at hy; (clear F F1 ml nd hr hn hx hl hU hl2 hq hd; omega)
      subst hU
      refine seqU fun U hU => ?_
      rw [encP_c]
      unfold prt enc
      walk_at "R"
      subst hU
      refine seqU fun U hU => ?_
      walk_at "R"
      refine ⟨a, e, rfl, hn, hx, hl, ?_⟩
      subst hU
      have hst := O.stay_le (e := e) (a := a)
      have hsame := O.same_stay (e := e) hn
      have htake := O.take_stay (e := e) hn
      have e1 : cutW (W.tup [W.tup (encP e), W.int n] :: encP r) (some 1) none = encP r := by rw [show (1 : Int) = ((1 : Nat) : Int) from rfl, cut_from]; rfl
      have e2 : cutW (encP a) none (some (O.stay e a : Int)) = encP (O.filt (fun x _ => decide (0 < O.cmp x e)) a) := by rw [cut_to, encP_take, htake]
      have l1 := len_filt (fun x _ => decide (0 < O.cmp x e)) a
      have hq' : q (.tup (encP (O.filt (fun x _ => decide (0 < O.cmp x e)) a) ++ (prt e (O.same e a + n) :: encP r))) G := by
        rw [O.plus_c, encP_app, encP_c] at hq
        exact hq
      refine seqU fun U hU => ?_
      have other : O.same e a = 0 → U { nx := fun x G1 => ∃ G0, GLe G0 G1 ∧ q W.non G0, rt := fun w G1 => ∃ G0, GLe G0 G1 ∧ q w G0 } [some (W.tup (encP a)), some (W.tup (W.tup [W.tup (encP e), W.int n] :: encP r)), some (W.tup (encP e)), some (W.int (O.stay e a)), none] G := fun hz => by
        subst hU
        walk_at "R"
        rw [e2]
        refine ⟨by rw [encP_length, encP_length]; (clear F F1 ml nd hr hn hx hy hq hd hde hst hsame htake e1 e2 hq' hz; omega), GLe.done ?_⟩
        rw [hz, Int.zero_add] at hq'
        exact hq'
      walk_at "R"
      rw [encP_length]
      split
      · rename_i hlt
        obtain ⟨y, m, hp⟩ := O.getP_some (a := a) (i := O.stay e a) (by (clear F F1 ml nd hr hn hx hl hy hl2 hq hd hde hst hsame htake e1 e2 l1 hq' hU other; omega))
        have hs := O.getP_size hp
        have hdy := tup_dep y
        refine ⟨_, encP_at hp, ?_⟩
        rw [hp] at hsame
        have hsame' : O.same e a = if y = e then m else 0 := hsame
        unfold prt enc
        walk_at "R"
        refine ⟨tup_flat y, tup_flat e, by (clear F F1 ml nd hr hn hl hy hl2 hq hd hde hst htake e1 e2 l1 hq' hU other hlt hsame hp hsame'; omega), ?_⟩
        rw [tup_eq]
        by_cases hye : y = e
        · rw [if_pos (by simpa using hye)]
          refine ⟨_, encP_at hp, ?_⟩
          unfold prt enc
          walk_at "R"
          rw [e1, e2]
          rw [if_pos hye] at hsame'
          refine ⟨by rw [encP_length]; (clear F F1 ml nd hr hn hx hy hl2 hq hd hde hst htake e1 e2 hq' hU other hlt hsame hp hs hdy hsame' hye; omega), by rw [List.length_append, encP_length, encP_length]; simp; (clear F F1 ml nd hr hn hx hy hq hd hde hst htake e1 e2 hq' hU other hlt hsame hp hs hdy hsame' hye; omega), GLe.done ?_⟩
          rw [hsame'] at hq'
          rw [List.append_assoc]
          exact hq'
        · rw [if_neg (by simpa using hye)]
          rw [if_neg hye] at hsame'
          exact other hsame'
      · rename_i hlt
        rw [O.getP_none.mpr (by (clear F F1 ml nd hr hn hx hl hy hl2 hq hd hde hsame htake e1 e2 l1 hq' hU other; omega))] at hsame
        exact other hsame

/-! the program's products -/
theorem last_whole : ∀ {a : O} {x : O} {n : Int}, a.NF → O.last a = .c x n .z → O.same .z a = if x = .z then n else 0
  | .z, _, _, _, h => by cases h
  | .c e m .z, x, n, ha, h => by
    have : O.last (.c e m .z) = .c e m .z := rfl
    rw [this] at h
    injection h with h1 h2 _
    subst h1 h2
    by_cases k : e = .z
    · subst k; rw [if_pos rfl, O.same_self ha.2.2.1]
    · rw [if_neg k, O.same_ne k]; rfl
  | .c e m (.c e' m' r'), x, n, ha, h => by
    have e0 : O.last (.c e m (.c e' m' r')) = O.last (.c e' m' r') := by simp [O.last]
    rw [e0] at h
    have hne : e ≠ .z := fun z => by
      subst z
      have := ha.2.2.1.1
      cases e' <;> simp [O.cmp] at this
    rw [O.same_ne hne]
    exact last_whole ha.2.2.2 h
theorem no_whole : ∀ {a : O}, a.NF → O.same .z a = 0 → O.filt (fun y _ => decide (¬ y = .z)) a = a
  | .z, _, _ => rfl
  | .c e m r, ha, h => by
    have hne : e ≠ .z := fun z => by
      subst z
      rw [O.same_self ha.2.2.1] at h
      have := ha.2.1
      (clear ha; omega)
    rw [O.same_ne hne] at h
    rw [O.filt_c, if_pos (by simpa using hne), no_whole ha.2.2.2 h]
theorem with_whole : ∀ {a : O}, a.NF → O.same .z a ≠ 0 → O.filt (fun y _ => decide (¬ y = .z)) a = O.init a
  | .z, _, h => absurd rfl h
  | .c e m .z, ha, h => by
    have : e = .z := Classical.byContradiction fun k => h (by rw [O.same_ne k]; rfl)
    subst this
    rfl
  | .c e m (.c e' m' r'), ha, h => by
    have hne : e ≠ .z := fun z => by
      subst z
      have := ha.2.2.1.1
      cases e' <;> simp [O.cmp] at this
    rw [O.same_ne hne] at h
    have e0 : O.init (.c e m (.c e' m' r')) = .c e m (O.init (.c e' m' r')) := by simp [O.init]
    rw [O.filt_c, if_pos (by simpa using hne), with_whole ha.2.2.2 h, e0]
noncomputable def spWp : WSp := fun ws G q _ => ∃ a : O, ws = [.tup (encP a)] ∧ a.NF ∧ a.dp ≤ 60 ∧ q (.int (O.same .z a)) G
noncomputable def spWo : WSp := fun ws G q _ => ∃ a : O, ws = [.tup (encP a)] ∧ a.NF ∧ a.dp ≤ 60 ∧ q (.tup (encP (O.filt (fun y _ => decide (¬ y = .z)) a))) G
theorem scWp : FnScope ["a"] ["a"] (defScope (top 10)) := ⟨rfl, rfl, rfl, by decide +kernel, rfl, by decide +kernel, by decide +kernel⟩
theorem fnWp (F : Fun K "whole_part" "whole_part" (top 10) f fd) : WFn P w K mg base 1 f fd ["a"] spWp := by
  have nd := scWp.nd
  refine fn3 F scWp (fun ws G q e h => by obtain ⟨_, rfl, _⟩ := h; rfl) (fun cdv A outer s H E hr => ?_)
  apply bodyOf
  · exact (qss_cons (qs_if (qt_w (qw_or (qt_cmp (q_eqG hr) (qe_var 0 rfl (.inl rfl)) (qe_tup qa_nil) (nomark _)) (qw_or1 (qt_cmp (q_neG hr) (qe_ix q_ixD (qe_ix q_ixD (qe_var 0 rfl (.inl rfl)) (qe_neg qe_int) (fun _ _ => rfl)) qe_int (fun _ _ => rfl)) (qe_tup qa_nil) (nomark _))))) (qss_cons (qs_ret qe_int) qss_nil) qss_nil) (qss_cons (qs_ret (qe_ix q_ixD (qe_ix q_ixD (qe_var 0 rfl (.inl rfl)) (qe_neg qe_int) (fun _ _ => rfl)) qe_int (fun _ _ => rfl))) qss_nil))
  · rintro ws G q e ⟨a, rfl, ha, hd, hq⟩
    have hd2 := tup_dep a
    walk_at "R"
    refine ⟨tup_flat a, by (clear F nd hr ha hq; omega), ?_⟩
    rw [tup_nil_eq]
    by_cases hz : a = .z
    · subst hz
      rw [if_pos (by simp)]
      exact GLe.done hq
    · rw [if_neg (by simpa using hz)]
      obtain ⟨x, n, h1, h2⟩ := last_c hz
      have hw := last_whole ha h1
      have hs := O.getP_size h2
      have hdx := tup_dep x
      refine ⟨_, encP_at_last h2, ?_⟩
      unfold prt enc
      walk_at "R"
      refine ⟨tup_flat x, by (clear F nd hr ha hq hd2 hz h1 h2 hw; omega), ?_⟩
      rw [tup_nil_eq]
      by_cases hx : x = .z
      · rw [if_neg (by simpa using hx)]
        rw [if_pos hx] at hw
        have h3 := encP_at_last h2
        unfold prt enc at h3
        refine ⟨_, h3, ?_⟩
        walk_at "R"
        rw [hw] at hq
        exact GLe.done hq
      · rw [if_pos (by simpa using hx)]
        rw [if_neg hx] at hw
        rw [hw] at hq
        exact GLe.done hq
theorem scWo : FnScope ["a"] ["a"] (defScope (top 11)) := ⟨rfl, rfl, rfl, by decide +kernel, rfl, by decide +kernel, by decide +kernel⟩
theorem fnWo (F : Fun K "without_whole" "without_whole" (top 11) f fd) (F1 : Fx P w K mg base "whole_part" ["a"] 1 spWp) : WFn P w K mg base 2 f fd ["a"] spWo := by
  have nd := scWo.nd
  refine fn3 F scWo (fun ws G q e h => by obtain ⟨_, rfl, _⟩ := h; rfl) (fun cdv A outer s H E hr => ?_)
  apply bodyOf
  · exact (qss_cons (qs_if (qt_cmp (q_eqG hr) (qe_fxn F1 (Room.mono hr (by omega)) rfl (qa_cons (qe_var 0 rfl (.inl rfl)) qa_nil)) qe_int (nomark _)) (qss_cons (qs_ret (qe_var 0 rfl (.inl rfl))) qss_nil) qss_nil) (qss_cons (qs_ret (qe_sliceS (qe_var 0 rfl (.inl rfl)) qo_none (qo_some (qe_neg qe_int)))) qss_nil))
  · rintro ws G q e ⟨a, rfl, ha, hd, hq⟩
    walk_at "R"
    refine ⟨a, rfl, ha, hd, ?_⟩
    walk_at "R"
    split
    · rename_i h
      rw [no_whole ha h] at hq
      exact GLe.done hq
    · rename_i h
      rw [with_whole ha h] at hq
      rw [cut_init]
      exact GLe.done hq

/-! times -/
noncomputable def mapE (e : O) : O → O
  | .z => .z
  | .c f d t => .c (O.plusO e f) d (mapE e t)
theorem mapP_mapE (e : O) : ∀ b : O, mapP (fun _ _ => true) (fun x m => prt (O.plusO e x) m) b = encP (mapE e b)
  | .z => rfl
  | .c f d t => by rw [mapP, if_pos rfl, mapP_mapE e t]; rfl
theorem len_mapE (e : O) : ∀ b : O, (mapE e b).len = b.len
  | .z => rfl
  | .c f d t => by simp only [mapE, O.len, len_mapE e t]
theorem mul_split {e : O} {n : Int} {r : O} : ∀ {b : O}, b.NF → O.mulP e n r b = O.app (mapE e (O.filt (fun y _ => decide (¬ y = .z)) b)) (if O.same .z b = 0 then .z else .c e (n * O.same .z b) r)
  | .z, _ => rfl
  | .c f d t, hb => by
    rw [O.mulP_c, O.filt_c]
    by_cases k : f = .z
    · subst k
      have hd := hb.2.1
      rw [if_pos rfl, if_neg (by simp), O.Lt_z hb.2.2.1, O.same_self (r := .z) trivial, if_neg (by (clear hb; omega))]
      rfl
    · rw [if_neg k, if_pos (by simpa using k), O.same_ne k, mul_split hb.2.2.2]
      rfl
noncomputable def spTi : WSp := fun ws G q _ => ∃ a b : O, ws = [.tup (encP a), .tup (encP b)] ∧ a.NF ∧ b.NF ∧ a.dp ≤ 40 ∧ b.dp ≤ 40 ∧ O.hw a ≤ 1000 ∧ O.hw b ≤ 1000 ∧ O.mx a ≤ cap ∧ O.mx b ≤ cap ∧ q (.tup (encP (O.timesO a b))) G
theorem scTi : FnScope ["a", "b", "exponent", "parts", "many"] ["a", "b"] (defScope (top 17)) := ⟨rfl, rfl, rfl, by decide +kernel, rfl, by decide +kernel, by decide +kernel⟩
theorem fnTi (F : Fun K "times" "times" (top 17) f fd) (F1 : Fx P w K mg base "whole_part" ["a"] 1 spWp) (F2 : Fx P w K mg base "without_whole" ["a"] 2 spWo) (F3 : Fx P w K mg base "plus" ["a", "b"] 3 spPs) (mt : mg "tuple" = none) : WFn P w K mg base 4 f fd ["a", "b"] spTi := by
  have nd := scTi.nd
  refine fn3 F scTi (fun ws G q e h => by obtain ⟨_, _, rfl, _⟩ := h; rfl) (fun cdv A outer s H E hr => ?_)
  apply bodyOf
  · exact (qss_cons (qs_if (qt_w (qw_or (qt_cmp (q_eqG hr) (qe_var 0 rfl (.inl rfl)) (qe_tup qa_nil) (nomark _)) (qw_or1 (qt_cmp (q_eqG hr) (qe_var 1 rfl (.inl rfl)) (qe_tup qa_nil) (nomark _))))) (qss_cons (qs_ret (qe_tup qa_nil)) qss_nil) qss_nil) (qss_cons (qs_set 2 nd rfl (.inr rfl) (qe_ix q_ixD (qe_ix q_ixD (qe_var 0 rfl (.inl rfl)) qe_int (fun _ _ => rfl)) qe_int (fun _ _ => rfl))) (qss_cons (qs_comp 3 (compSc (by first | rfl | decide +kernel)) rfl nd rfl (.inl rfl) (qi_seqS (qe_fxn F2 (Room.mono hr (by omega)) rfl (qa_cons (qe_var 1 rfl (.inl rfl)) qa_nil))) (fun _ _ _ _ => (qg_nameB 1 (by first | assumption | decide +kernel | rfl) rfl (.inl rfl))) (fun _ _ _ _ => qts_nil) (fun _ _ _ _ => (qe_tup (qa_cons (qe_fxn F3 (Room.mono hr (by omega)) rfl (qa_cons (qe_var 3 rfl (.inr (.inl rfl))) (qa_cons (qe_ix q_ixD (qe_var 1 rfl (.inl rfl)) qe_int (fun _ _ => rfl)) qa_nil))) (qa_cons (qe_ix q_ixD (qe_var 1 rfl (.inl rfl)) qe_int (fun _ _ => rfl)) qa_nil))))) (qss_cons (qs_set 4 nd rfl (.inl rfl) (qe_fxn F1 (Room.mono hr (by omega)) rfl (qa_cons (qe_var 1 rfl (.inl rfl)) qa_nil))) (qss_cons (qs_if (qt_cmp (q_eqG hr) (qe_var 4 rfl (.inl rfl)) qe_int (nomark _)) (qss_cons (qs_ret (qe_callTy q_tuple rfl mt b_tuple (qa_cons (qe_var 3 rfl (.inl rfl)) qa_nil))) qss_nil) qss_nil) (qss_cons (qs_ret (qe_op q_addS (qe_op q_addS (qe_callTy q_tuple rfl mt b_tuple (qa_cons (qe_var 3 rfl (.inl rfl)) qa_nil)) (qe_tup (qa_cons (qe_tup (qa_cons (qe_var 2 rfl (.inr (.inl rfl))) (qa_cons (qe_op q_mulS (qe_ix q_ixD (qe_ix q_ixD (qe_var 0 rfl (.inl rfl)) qe_int (fun _ _ => rfl)) qe_int (fun _ _ => rfl)) (qe_var 4 rfl (.inl rfl))) qa_nil))) qa_nil))) (qe_sliceS (qe_var 0 rfl (.inl rfl)) (qo_some qe_int) qo_none))) qss_nil))))))
  · rintro ws G q e ⟨a, b, rfl, na, nb, da, db, sa, sb, ma, mb, hq⟩
    have hda := tup_dep a
    have hdb := tup_dep b
    have la := O.len_le_hw a
    have lb := O.len_le_hw b
    refine seqU fun U hU => ?_
    walk_at "R"
    refine ⟨tup_flat a, by (clear F F1 F2 F3 mt nd hr na nb db sa sb ma mb hq hdb la lb hU; omega), ?_⟩
    rw [tup_nil_eq]
    cases a with
    | z =>
      rw [if_pos (by simp)]
      exact GLe.done hq
    | c e n r =>
      rw [if_neg (by simp)]
      refine ⟨tup_flat b, by (clear F F1 F2 F3 mt nd hr nb sb mb lb hU na da sa ma hq hda la; omega), ?_⟩
      rw [tup_nil_eq]
      by_cases hb0 : b = .z
      · subst hb0
        rw [if_pos (by simp)]
        exact GLe.done hq
      · rw [if_neg (by simpa using hb0)]
        subst hU
        rw [O.hw_c] at sa
        simp only [O.dp, O.len] at da la
        have le1 := O.len_le_hw e
        have lr1 := O.len_le_hw r
        rw [encP_c]
        unfold prt enc
        refine seqU fun U hU => ?_
        walk_at "R"
        subst hU
        refine seqU fun U hU => ?_
        walk_at "R"
        refine ⟨b, rfl, nb, by exact Nat.le_trans (by assumption) (Nat.le_of_ble_eq_true rfl), ?_⟩
        walk_at "R"
        show compW _ _ _ _ _ [none, none, none, some (W.tup (encP e))] G [] _
        have lf := len_filt (fun y _ => decide (¬ y = O.z)) b
        have df := O.dp_filt (fun y _ => decide (¬ y = O.z)) b
        have sf := O.hw_filt (fun y _ => decide (¬ y = O.z)) b
        refine comp_enc (fun _ _ => true) (fun x m => prt (O.plusO e x) m) trivial (allP_hw _) (fun y m hy k hk => ?_) (fun y m hy _ k hk => ?_) (by rw [List.length_nil]; (clear F F1 F2 F3 mt nd hr nb db mb hdb na da sa ma hq hda la hb0 le1 lr1 hU df sf; omega)) (fun _ => rfl) fun p1 hp1 => ?_
        · walk_at "R"
          exact hk
        · have ly := O.len_le_hw y
          unfold prt enc at hk ⊢
          walk_at "R"
          exact ⟨e, y, rfl, na.1, by (clear F F1 F2 F3 mt nd hr nb db sb mb hdb lb na sa ma hq hda la hb0 le1 hU lf df sf hy hk ly; omega), by (clear F F1 F2 F3 mt nd hr nb sb mb hdb lb na da sa ma hq hda la hb0 le1 lr1 hU lf sf hk ly; omega), by (clear F F1 F2 F3 mt nd hr nb db sb mb hdb lb na da ma hq hda la hb0 hU lf df sf hy hk ly; omega), by (clear F F1 F2 F3 mt nd hr nb db mb hdb lb na da sa ma hq hda la hb0 le1 lr1 hU lf df hk; omega), hk⟩
        rw [List.nil_append, mapP_mapE]
        have hG1 := updG_same (G := G) (a := p1) (g := GO.lst (encP (mapE e (O.filt (fun y _ => decide (¬ y = O.z)) b))))
        have le : GLe G (updG G p1 (GO.lst (encP (mapE e (O.filt (fun y _ => decide (¬ y = O.z)) b))))) := GLe.new hp1
        generalize updG G p1 (GO.lst (encP (mapE e (O.filt (fun y _ => decide (¬ y = O.z)) b)))) = G1 at hG1 le ⊢
        subst hU
        refine seqU fun U hU => ?_
        walk_at "R"
        refine ⟨b, rfl, nb, by exact Nat.le_trans (by assumption) (Nat.le_of_ble_eq_true rfl), ?_⟩
        have hsp : O.timesO (.c e n r) b = _ := mul_split (e := e) (n := n) (r := r) nb
        rw [hsp] at hq
        have hn := na.2.1
        have hsm := O.same_le_mx .z nb
        have hs0 := O.same_nonneg .z nb
        rw [O.mx_c] at ma
        have lm := len_mapE e (O.filt (fun y _ => decide (¬ y = O.z)) b)
        subst hU
        refine seqU fun U hU => ?_
        walk_at "R"
        split
        · rename_i h0
          refine ⟨_, hG1, G, le, ?_⟩
          rw [if_pos h0] at hq
          have : O.app (mapE e (O.filt (fun y _ => decide (¬ y = O.z)) b)) .z = mapE e (O.filt (fun y _ => decide (¬ y = O.z)) b) := encP_inj (by rw [encP_app, encP_z, List.append_nil])
          rw [this] at hq
          exact hq
        · rename_i h0
          rw [if_neg h0, encP_app, encP_c] at hq
          subst hU
          have e1 : cutW (W.tup [W.tup (encP e), W.int n] :: encP r) (some 1) none = encP r := by rw [show (1 : Int) = ((1 : Nat) : Int) from rfl, cut_from]; rfl
          walk_at "R"
          rw [e1]
          refine ⟨_, hG1, .inl (.inr (bigC (by (clear F F1 F2 F3 mt nd hr nb db sb mb hdb lb na da sa ma hq hda la hb0 le1 lr1 lf df sf hp1 hG1 le hsp hsm hs0 lm h0 e1; omega)) (by (clear F F1 F2 F3 mt nd hr nb db sb mb hdb lb na da sa hq hda la hb0 le1 lr1 lf df sf hp1 hG1 le hsp hn hsm lm e1; omega)) (by assumption) (by (clear F F1 F2 F3 mt nd hr nb db sb hdb lb na da sa ma hq hda la hb0 le1 lr1 lf df sf hp1 hG1 le hsp hn hs0 lm h0 e1; omega)))), by rw [encP_length, lm]; (clear F F1 F2 F3 mt nd hr nb db mb hdb na da sa ma hq hda la hb0 le1 lr1 df sf hp1 hG1 le hsp hn hsm hs0 h0 e1; omega), by rw [List.length_append, encP_length, encP_length, List.length_cons, List.length_nil, lm]; (clear F F1 F2 F3 mt nd hr nb db mb hdb na da ma hq hda la hb0 le1 lr1 df sf hp1 hG1 le hsp hn hsm e1; omega), G, le, ?_⟩
          rw [List.append_assoc]
          exact hq

/-! the program's ladder -/
noncomputable def spWh : WSp := fun ws G q _ => ∃ n k : Int, ws = [.int n, .int k] ∧ q (.bl (decide (k ≤ n))) G
theorem scWh : FnScope ["thing", "least"] ["thing", "least"] (defScope (top 5)) := ⟨rfl, rfl, rfl, by decide +kernel, rfl, by decide +kernel, by decide +kernel⟩
theorem fnWh {T : Addr} {ds : List Value} (F : FunD K "is_whole" "is_whole" (top 5) f fd T ds) (mi : mg "isinstance" = none) (mn : mg "int" = none) (mb : mg "bool" = none) : WFn P w K mg base 1 f fd ["thing", "least"] spWh := by
  have nd := scWh.nd
  refine fn3D F scWh (fun ws G q e h => by obtain ⟨_, _, rfl, _⟩ := h; rfl) (fun cdv A outer s H E hr => ?_)
  apply bodyOf
  · exact (qss_cons (qs_ret (qe_and (qe_isi (T := "int") (x := "int") (by first | simp [isiT] | assumption | decide +kernel) PyProof.Rows.boot_int mn rfl mi rfl (qe_var 0 rfl (.inl rfl))) (qe_and (qe_not (qe_isi (T := "bool") (x := "bool") (by first | simp [isiT] | assumption | decide +kernel) PyProof.Rows.boot_bool mb rfl mi rfl (qe_var 0 rfl (.inl rfl)))) (qe_one (qe_cmp q_ge (qe_var 0 rfl (.inl rfl)) (qe_var 1 rfl (.inl rfl)) (nomark _)))))) qss_nil)
  · rintro ws G q e ⟨n, k, rfl, hq⟩
    walk_at "R"
    exact GLe.done hq
noncomputable def spRs : WSp := fun ws G q _ => ∃ (x : O) (n : Int), ws = [.tup (encP x), .int n] ∧ 0 ≤ n ∧ q (.tup (encP (if n = 0 then .z else .c x n .z))) G
theorem scRs : FnScope ["exponent", "times"] ["exponent", "times"] (defScope (top 8)) := ⟨rfl, rfl, rfl, by decide +kernel, rfl, by decide +kernel, by decide +kernel⟩
theorem fnRs {T : Addr} {ds : List Value} (F : FunD K "raised" "raised" (top 8) f fd T ds) (F1 : Fxd P w K mg base "is_whole" ["thing", "least"] 1 spWh [.int 0]) : WFn P w K mg base 2 f fd ["exponent", "times"] spRs := by
  have nd := scRs.nd
  refine fn3D F scRs (fun ws G q e h => by obtain ⟨_, _, rfl, _⟩ := h; rfl) (fun cdv A outer s H E hr => ?_)
  apply bodyOf
  · exact (qss_cons (qs_if (qt_not (qt_val (qe_fxd F1 (Room.mono hr (by omega)) rfl (qa_cons (qe_var 1 rfl (.inl rfl)) qa_nil)))) (qss_cons qs_never qss_nil) qss_nil) (qss_cons (qs_if (qt_cmp (q_eqG hr) (qe_var 1 rfl (.inl rfl)) qe_int (nomark _)) (qss_cons (qs_ret (qe_tup qa_nil)) qss_nil) qss_nil) (qss_cons (qs_ret (qe_tup (qa_cons (qe_tup (qa_cons (qe_var 0 rfl (.inl rfl)) (qa_cons (qe_var 1 rfl (.inl rfl)) qa_nil))) qa_nil))) qss_nil)))
  · rintro ws G q e ⟨x, n, rfl, hn, hq⟩
    walk_at "R"
    refine ⟨n, 0, rfl, ?_⟩
    walk_at "R"
    rw [if_neg (by (clear F F1 nd hr hq; omega))]
    split
    · rename_i h
      rw [if_pos h] at hq
      exact GLe.done hq
    · rename_i h
      rw [if_neg h, encP_c] at hq
      exact GLe.done hq

/-! quotients -/
noncomputable def spWl : WSp := fun ws G q _ => ∃ n : Int, ws = [.int n] ∧ 0 ≤ n ∧ q (.tup (encP (O.wh n))) G
theorem scWl : FnScope ["n"] ["n"] (defScope (top 6)) := ⟨rfl, rfl, rfl, by decide +kernel, rfl, by decide +kernel, by decide +kernel⟩
theorem fnWl (F : Fun K "whole" "whole" (top 6) f fd) (F1 : Fx P w K mg base "raised" ["exponent", "times"] 2 spRs) : WFn P w K mg base 3 f fd ["n"] spWl := by
  have nd := scWl.nd
  refine fn3 F scWl (fun ws G q e h => by obtain ⟨_, rfl, _⟩ := h; rfl) (fun cdv A outer s H E hr => ?_)
  apply bodyOf
  · exact (qss_cons (qs_ret (qe_fxn F1 (Room.mono hr (by omega)) rfl (qa_cons (qe_tup qa_nil) (qa_cons (qe_var 0 rfl (.inl rfl)) qa_nil)))) qss_nil)
  · rintro ws G q e ⟨n, rfl, hn, hq⟩
    walk_at "R"
    exact ⟨.z, n, rfl, hn, GLe.done hq⟩

/-! rows, some with marks, and what they weigh -/
noncomputable abbrev Row := Rq Str
structure Cs where
  s : Addr
  c : Addr
  a : Addr
  l : Addr
  t : Addr
  w : Addr
  n : Addr
  b : Addr
noncomputable def Cs.at_ (C : Cs) : Nat → Addr
  | 0 => C.s
  | 1 => C.c
  | 2 => C.a
  | 3 => C.l
  | 4 => C.t
  | 5 => C.w
  | 6 => C.n
  | _ => C.b
noncomputable def kd : Row → Nat
  | .set _ _ => 0
  | .copy _ _ => 1
  | .add _ _ => 2
  | .less _ => 3
  | .times _ _ => 4
  | .whl _ _ _ => 5
  | .count _ _ => 6
  | .bear _ _ _ _ => 7
noncomputable abbrev encH (hs : List (O × List Str)) : List W := hs.map fun p => .tup [.tup (encP p.1), .tup (p.2.map W.str)]
noncomputable abbrev tfs (b : Str) (as : List Addr) (rs : Rqs Str) : List (Str × W) := [("box", .str b), ("rows", .tup (as.map W.ref)), ("of_round", .tup (encP rs.rnd))]
noncomputable abbrev wfs (b : Str) (hs : List (O × List Str)) (as : List Addr) (rs : Rqs Str) : List (Str × W) := [("box", .str b), ("heights", .tup (encH hs)), ("rows", .tup (as.map W.ref)), ("of_round", .tup (encP rs.rnw))]
mutual
inductive RAt (C : Cs) (G : Gp) : Addr → Row → Prop where
  | set {a : Addr} {b : Str} {n : Int} (h : G a = some (.ins C.s [("box", .str b), ("amount", .int n)])) : RAt C G a (.set b n)
  | copy {a : Addr} {b o : Str} (h : G a = some (.ins C.c [("box", .str b), ("other", .str o)])) : RAt C G a (.copy b o)
  | add {a : Addr} {b o : Str} (h : G a = some (.ins C.a [("box", .str b), ("other", .str o)])) : RAt C G a (.add b o)
  | less {a : Addr} {b : Str} (h : G a = some (.ins C.l [("box", .str b)])) : RAt C G a (.less b)
  | times {a : Addr} {b : Str} {as : List Addr} {rs : Rqs Str} (h : G a = some (.ins C.t (tfs b as rs))) (hs : RAts C G as rs) : RAt C G a (.times b rs)
  | count {a l : Addr} {b : Str} {as : List Addr} {rs : Rqs Str} {n : Int} (h : G a = some (.ins C.n [("loop", .ref l), ("rounds", .int n)])) (hl : G l = some (.ins C.t (tfs b as rs))) (hs : RAts C G as rs) : RAt C G a (.count rs n)
  | whl {a : Addr} {b : Str} {ms : List (O × List Str)} {as : List Addr} {rs : Rqs Str} (h : G a = some (.ins C.w (wfs b ms as rs))) (hs : RAts C G as rs) : RAt C G a (.whl b ms rs)
  | bear {a l : Addr} {b : Str} {ms : List (O × List Str)} {as : List Addr} {rs : Rqs Str} {o : O} (h : G a = some (.ins C.b [("loop", .ref l), ("borne", .tup (encP o))])) (hl : G l = some (.ins C.w (wfs b ms as rs))) (hs : RAts C G as rs) : RAt C G a (.bear b ms rs o)
inductive RAts (C : Cs) (G : Gp) : List Addr → Rqs Str → Prop where
  | nil : RAts C G [] .nil
  | cons {a : Addr} {as : List Addr} {r : Row} {rs : Rqs Str} (h : RAt C G a r) (hs : RAts C G as rs) : RAts C G (a :: as) (.cons r rs)
end
/-- what holds of instances that have attributes -/
noncomputable def InsLe (G G' : Gp) : Prop := ∀ a C x fs, G a = some (.ins C (x :: fs)) → G' a = some (.ins C (x :: fs))
theorem GLe.ins {G G' : Gp} (h : GLe G G') : InsLe G G' := fun _ _ _ _ e => h _ _ e
theorem InsLe.refl (G : Gp) : InsLe G G := fun _ _ _ _ e => e
theorem InsLe.trans {G G1 G2 : Gp} (a : InsLe G G1) (b : InsLe G1 G2) : InsLe G G2 := fun x C y fs e => b x C y fs (a x C y fs e)
theorem InsLe.but {G G' : Gp} {p : Addr} (h : ∀ x g, x ≠ p → G x = some g → G' x = some g) (hp : ∀ C y fs, G p ≠ some (.ins C (y :: fs))) : InsLe G G' := fun a C y fs e => h a _ (fun z => hp C y fs (z ▸ e)) e
mutual
theorem RAt.mono {C : Cs} {G G' : Gp} (l : InsLe G G') : ∀ {a : Addr} {r : Row}, RAt C G a r → RAt C G' a r
  | _, _, .set h => .set (l _ _ _ _ h)
  | _, _, .copy h => .copy (l _ _ _ _ h)
  | _, _, .add h => .add (l _ _ _ _ h)
  | _, _, .less h => .less (l _ _ _ _ h)
  | _, _, .times h hs => .times (l _ _ _ _ h) (RAts.mono l hs)
  | _, _, .count h hl hs => .count (l _ _ _ _ h) (l _ _ _ _ hl) (RAts.mono l hs)
  | _, _, .whl h hs => .whl (l _ _ _ _ h) (RAts.mono l hs)
  | _, _, .bear h hl hs => .bear (l _ _ _ _ h) (l _ _ _ _ hl) (RAts.mono l hs)
theorem RAts.mono {C : Cs} {G G' : Gp} (l : InsLe G G') : ∀ {as : List Addr} {rs : Rqs Str}, RAts C G as rs → RAts C G' as rs
  | _, _, .nil => .nil
  | _, _, .cons h hs => .cons (RAt.mono l h) (RAts.mono l hs)
end
theorem RAt.isIns {C : Cs} {G : Gp} {a : Addr} {r : Row} (h : RAt C G a r) : ∃ fs, G a = some (.ins (C.at_ (kd r)) fs) ∧ fs.lookup ("weigh" : Str) = none ∧ fs.lookup ("step" : Str) = none := by
  cases h with
  | set h => exact ⟨_, h, rfl, rfl⟩
  | copy h => exact ⟨_, h, rfl, rfl⟩
  | add h => exact ⟨_, h, rfl, rfl⟩
  | less h => exact ⟨_, h, rfl, rfl⟩
  | times h hs => exact ⟨_, h, rfl, rfl⟩
  | count h hl hs => exact ⟨_, h, rfl, rfl⟩
  | whl h hs => exact ⟨_, h, rfl, rfl⟩
  | bear h hl hs => exact ⟨_, h, rfl, rfl⟩
/-- how great a row may be -/
structure Sz (r : Row) : Prop where
  nn : r.nn
  hb : r.hb ≤ 500
  mb : (r.mb : Int) ≤ 10 ^ 300
structure Szs (rs : Rqs Str) : Prop where
  nn : rs.nn
  hb : rs.hb ≤ 500
  mb : (rs.mb : Int) ≤ 10 ^ 300
theorem Szs.cons {r : Row} {rs : Rqs Str} (h : Szs (.cons r rs)) : Sz r ∧ Szs rs := by
  have h1 := h.nn
  have h2 := h.hb
  have h3 := h.mb
  have e2 : (Rqs.cons r rs).hb = rs.hb + r.hb := rfl
  have e3 : (Rqs.cons r rs).mb = rs.mb + r.mb := rfl
  rw [e2] at h2
  rw [e3] at h3
  exact ⟨⟨h1.1, by (clear h h1 h3 e3; omega), by (clear h h1 h2 e2; omega)⟩, ⟨h1.2, by (clear h h1 h3 e3; omega), by (clear h h1 h2 e2; omega)⟩⟩
mutual
theorem lb_hb : ∀ r : Row, r.lb ≤ r.hb
  | .set _ _ => Nat.le_refl _
  | .copy _ _ => Nat.le_refl _
  | .add _ _ => Nat.le_refl _
  | .less _ => Nat.le_refl _
  | .times _ rs => by show 1 ≤ rs.hb + 2; omega
  | .count rs _ => by have := lbs_hb rs; show rs.lb + 2 ≤ rs.hb + 3; omega
  | .whl _ [] rs => by have := lbs_hb rs; show rs.lb + 2 ≤ rs.hb + _ + 2; omega
  | .whl _ (_ :: _) rs => by show 2 ≤ rs.hb + _ + 2; omega
  | .bear _ _ rs o => by have := lbs_hb rs; have := O.len_le_hw o; show rs.lb + 1 + o.len + 1 ≤ rs.hb + O.hw o + 2; omega
theorem lbs_hb : ∀ rs : Rqs Str, rs.lb ≤ rs.hb
  | .nil => Nat.le_refl _
  | .cons r rs => by have := lb_hb r; have := lbs_hb rs; show rs.lb + r.lb ≤ rs.hb + r.hb; omega
end
noncomputable def fold_sum : ∀ rs : List Row, (rs.reverse.map Rq.wt).foldl O.plusO .z = sumQ rs
  | [] => rfl
  | r :: rs => by rw [List.reverse_cons, List.map_append, List.foldl_append, fold_sum rs]; rfl
noncomputable def spWg (C : Cs) (i : Nat) : WSp := fun ws G q _ => ∃ (a : Addr) (r : Row), ws = [.ref a] ∧ RAt C G a r ∧ kd r = i ∧ Sz r ∧ q (.tup (encP r.wt)) G
theorem scWg : FnScope ["self"] ["self"] (defScope (mtd 20 0)) := ⟨rfl, rfl, rfl, by decide +kernel, rfl, by decide +kernel, by decide +kernel⟩
theorem fnWg {C : Cs} {i : Nat} (hi : i < 4) (F : Fun K "weigh" "Row.weigh" (mtd 20 0) f fd) (F1 : Fx P w K mg base "whole" ["n"] 3 spWl) : WFn P w K mg base 6 f fd ["self"] (spWg C i) := by
  have nd := scWg.nd
  refine fn3 (k := 5) F scWg (fun ws G q e h => by obtain ⟨_, _, rfl, _⟩ := h; rfl) (fun cdv A outer s H E hr => ?_)
  apply bodyOf
  · exact (qss_cons (qs_ret (qe_fxn F1 (Room.mono hr (by omega)) rfl (qa_cons qe_int qa_nil))) qss_nil)
  · rintro ws G q e ⟨a, r, rfl, ha, hk, hz, hq⟩
    walk_at "R"
    refine ⟨1, rfl, by decide, GLe.done ?_⟩
    cases ha with
    | set h => exact hq
    | copy h => exact hq
    | add h => exact hq
    | less h => exact hq
    | _ => subst hk; exact absurd hi (show ¬ (_ : Nat) < 4 by simp [kd])
noncomputable def spEn : WSp := fun ws G q _ => ws = [] ∧ q (.tup (encP om)) G
theorem scEn : FnScope [] [] (defScope (top 7)) := ⟨rfl, rfl, rfl, by decide +kernel, rfl, by decide +kernel, by decide +kernel⟩
theorem fnEn (F : Fun K "endless" "endless" (top 7) f fd) (F1 : Fx P w K mg base "whole" ["n"] 3 spWl) (F2 : Fxd P w K mg base "raised" ["exponent", "times"] 2 spRs [.int 1]) : WFn P w K mg base 4 f fd [] spEn := by
  have nd := scEn.nd
  refine fn3 F scEn (fun ws G q e h => by obtain ⟨rfl, _⟩ := h; rfl) (fun cdv A outer s H E hr => ?_)
  apply bodyOf
  · exact (qss_cons (qs_ret (qe_fxd F2 (Room.mono hr (by omega)) rfl (qa_cons (qe_fxn F1 (Room.mono hr (by omega)) rfl (qa_cons qe_int qa_nil)) qa_nil))) qss_nil)
  · rintro ws G q e ⟨rfl, hq⟩
    walk_at "R"
    refine ⟨1, rfl, by decide, O.wh 1, 1, rfl, by decide, GLe.done ?_⟩
    exact hq
theorem rnd_ok {rs : Rqs Str} (z : Szs rs) : rs.rnd.NF ∧ rs.rnd.dp ≤ 4 ∧ O.hw rs.rnd ≤ 501 ∧ O.mx rs.rnd ≤ 10 ^ 300 + 1 := by
  have x := Rqs.rb z.nn
  have h1 := x.hw
  have h2 := x.mx
  have h3 := z.hb
  have h4 := z.mb
  exact ⟨x.nf, x.dp, by (clear z x h2 h4; omega), by (clear z x h1 h3; omega)⟩
theorem rnw_ok {rs : Rqs Str} (z : Szs rs) : rs.rnw.NF ∧ rs.rnw.dp ≤ 4 ∧ O.hw rs.rnw ≤ 501 ∧ O.mx rs.rnw ≤ 10 ^ 300 + 2 := by
  have x := Rqs.rbw z.nn
  have h1 := x.hw
  have h2 := x.mx
  have h3 := z.hb
  have h4 := z.mb
  exact ⟨x.nf, x.dp, by (clear z x h2 h4; omega), by (clear z x h1 h3; omega)⟩
noncomputable def Pls (os : List O) : Prop := (∀ o, o ∈ os → o.NF ∧ o.dp ≤ 4) ∧ (os.map O.len).sum ≤ 1000
noncomputable def spTt : WSp := fun ws G q _ => ∃ (p : Addr) (os : List O), ws = [.ref p] ∧ G p = some (.lst (os.map fun o => .tup (encP o))) ∧ Pls os ∧ q (.tup (encP (os.foldl O.plusO .z))) G
theorem scTt : FnScope ["some", "found", "number"] ["some"] (defScope (top 15)) := ⟨rfl, rfl, rfl, by decide +kernel, rfl, by decide +kernel, by decide +kernel⟩
theorem fnTt (F : Fun K "total" "total" (top 15) f fd) (F1 : Fx P w K mg base "plus" ["a", "b"] 3 spPs) : WFn P w K mg base 4 f fd ["some"] spTt := by
  have nd := scTt.nd
  refine fn3 F scTt (fun ws G q e h => by obtain ⟨_, _, rfl, _⟩ := h; rfl) (fun cdv A outer s H E hr => ?_)
  apply bodyOf
  · exact (qss_cons (qs_set 1 nd rfl (.inl rfl) (qe_tup qa_nil)) (qss_cons (qs_for PySem.PassesOwn.never rfl (qi_seqS (qe_var 0 rfl (.inl rfl))) (qg_name 2 nd rfl (.inl rfl)) (qss_cons (qs_set 1 nd rfl (.inl rfl) (qe_fxn F1 (Room.mono hr (by omega)) rfl (qa_cons (qe_var 1 rfl (.inl rfl)) (qa_cons (qe_var 2 rfl (.inl rfl)) qa_nil)))) qss_nil)) (qss_cons (qs_ret (qe_var 1 rfl (.inl rfl))) qss_nil)))
  · rintro ws G q e ⟨p, os, rfl, hG, ⟨hp1, hp2⟩, hq⟩
    refine seqU fun U hU => ?_
    walk_at "R"
    subst hU
    refine seqU fun U hU => ?_
    walk_at "R"
    refine ⟨_, hG, ?_⟩
    refine loopW_ind (fun ws τ G' => G' = G ∧ ∃ (a : O) (todo : List O) (t : Option W), ws = (todo.map fun o => .tup (encP o)) ∧ τ = [some (.ref p), some (.tup (encP a)), t] ∧ todo.foldl O.plusO a = os.foldl O.plusO .z ∧ a.NF ∧ a.dp ≤ 4 ∧ a.len + (todo.map O.len).sum ≤ 1000 ∧ ∀ o, o ∈ todo → o.NF ∧ o.dp ≤ 4) ?_ ?_ _ _ _ ⟨rfl, .z, os, none, rfl, rfl, rfl, trivial, Nat.zero_le _, by show 0 + _ ≤ _; (clear F F1 nd hr hG hq hp1 hU; omega), hp1⟩
    · rintro τ G' ⟨rfl, a, todo, t, hw, rfl, hf, _⟩
      refine ⟨hG, ?_⟩
      have hb : todo = [] := by simpa using hw.symm
      subst hb
      subst hU
      walk_at "R"
      rw [← hf] at hq
      exact GLe.done hq
    · rintro w1 ws τ G' kk ⟨rfl, a, todo, t, hw, rfl, hf, a1, a2, a3, a4⟩ hk
      cases todo with
      | nil => cases hw
      | cons o todo =>
        cases hw
        refine ⟨hG, ?_⟩
        obtain ⟨o1, o2⟩ := a4 o List.mem_cons_self
        rw [List.map_cons, List.sum_cons] at a3
        walk_at "R"
        refine ⟨a, o, rfl, a1, by exact Nat.le_trans (by assumption) (Nat.le_of_ble_eq_true rfl), by exact Nat.le_trans (by assumption) (Nat.le_of_ble_eq_true rfl), by (clear F F1 nd hr hp1 hp2 hU hG hq a1 a2 hf a4 hk o1 o2; omega), by (clear F F1 nd hr hp1 hp2 hU hG hq a1 a2 hf a4 hk o1 o2; omega), ?_⟩
        have l1 := len_plus a o
        have l2 := O.dp_plus a o
        refine hk _ _ ⟨rfl, O.plusO a o, todo, _, rfl, rfl, hf, a1.plus o1, Nat.le_trans l2 (Nat.max_le.mpr ⟨a2, o2⟩), by (clear F F1 nd hr hp1 hp2 hU hG hq a1 a2 hf a4 hk o1 o2 l2; omega), fun x hx => a4 x (List.mem_cons_of_mem _ hx)⟩
/-- rows as they stand -/
noncomputable def Rows (C : Cs) (G : Gp) (ps : List (Addr × Row)) : Prop := ∀ p, p ∈ ps → RAt C G p.1 p.2
theorem Rows.mono {C : Cs} {G G' : Gp} {ps : List (Addr × Row)} (h : Rows C G ps) (l : InsLe G G') : Rows C G' ps := fun p hp => (h p hp).mono l
theorem RAts.rows {C : Cs} {G : Gp} : ∀ {as : List Addr} {rs : Rqs Str}, RAts C G as rs → ∃ ps, as = ps.map (·.1) ∧ rs.L = ps.map (·.2) ∧ Rows C G ps
  | _, _, .nil => ⟨[], rfl, rfl, fun _ h => (nomatch h)⟩
  | _, _, .cons (a := a) (r := r) h hs => by
    obtain ⟨ps, h1, h2, h3⟩ := RAts.rows hs
    refine ⟨(a, r) :: ps, by rw [h1]; rfl, by rw [Rqs.L, h2]; rfl, fun p hp => ?_⟩
    rcases List.mem_cons.mp hp with rfl | hp
    · exact h
    · exact h3 p hp
theorem Rows.ats {C : Cs} {G : Gp} : ∀ {ps : List (Addr × Row)}, Rows C G ps → RAts C G (ps.map (·.1)) (Rqs.of (ps.map (·.2)))
  | [], _ => .nil
  | p :: ps, h => .cons (h p List.mem_cons_self) (Rows.ats fun x hx => h x (List.mem_cons_of_mem _ hx))
theorem Szs.mem : ∀ {rs : Rqs Str}, Szs rs → ∀ r, r ∈ rs.L → Sz r
  | .nil, _, r, h => (nomatch h)
  | .cons r0 rs, z, r, h => by
    obtain ⟨z1, z2⟩ := z.cons
    rcases List.mem_cons.mp h with rfl | h
    · exact z1
    · exact Szs.mem z2 r h
theorem len_L : ∀ rs : Rqs Str, rs.L.length ≤ rs.hb
  | .nil => Nat.le_refl _
  | .cons r rs => by
    have h1 := len_L rs
    have h2 : 1 ≤ r.hb := by
      cases r with
      | times b rs => show 1 ≤ rs.hb + 2; (clear h1; omega)
      | count rs n => show 1 ≤ rs.hb + 3; (clear h1; omega)
      | whl b hs rs => show 1 ≤ rs.hb + _ + 2; (clear h1; omega)
      | bear b hs rs o => show 1 ≤ rs.hb + _ + 2; (clear h1; omega)
      | _ => exact Nat.le_refl _
    show rs.L.length + 1 ≤ rs.hb + r.hb
    omega
theorem lens_L : ∀ rs : Rqs Str, rs.nn → ((rs.L.map Rq.wt).map O.len).sum ≤ rs.lb
  | .nil, _ => Nat.le_refl _
  | .cons r rs, h => by
    have h1 := lens_L rs h.2
    have h2 := (r.wq h.1).ln
    show r.wt.len + ((rs.L.map Rq.wt).map O.len).sum ≤ rs.lb + r.lb
    (clear h; omega)
theorem Szs.pls {rs : Rqs Str} (z : Szs rs) : Pls (rs.L.reverse.map Rq.wt) := by
  constructor
  · intro o ho
    obtain ⟨r, hr, rfl⟩ := List.mem_map.mp ho
    have := r.wq (z.mem r (List.mem_reverse.mp hr)).nn
    exact ⟨this.nf, this.dp⟩
  · have h1 := lens_L rs z.nn
    have h2 := lbs_hb rs
    have h3 := z.hb
    rw [List.map_reverse, List.map_reverse, List.sum_reverse]
    (clear z; omega)
theorem sum_L (rs : Rqs Str) : sumQ rs.L = rs.wt := by rw [← sumQ_of, Rqs.of_L]
noncomputable def Kds (N : Nat) (rs : Rqs Str) : Prop := ∀ r, r ∈ rs.L → kd r < N
noncomputable def spWe (C : Cs) (N : Nat) : WSp := fun ws G q _ => ∃ (as : List Addr) (rs : Rqs Str), ws = [.tup (as.map W.ref)] ∧ RAts C G as rs ∧ Szs rs ∧ Kds N rs ∧ q (.tup (encP rs.wt)) G
noncomputable def spWeL (C : Cs) (N : Nat) : WSp := fun ws G q _ => ∃ (l : Addr) (ps : List (Addr × Row)), ws = [.ref l] ∧ G l = some (.lst (ps.map fun p => W.ref p.1)) ∧ Rows C G ps ∧ Szs (Rqs.of (ps.map (·.2))) ∧ Kds N (Rqs.of (ps.map (·.2))) ∧ q (.tup (encP (Rqs.of (ps.map (·.2))).wt)) G
theorem scWe : FnScope ["things"] ["things"] (defScope (top 19)) := ⟨rfl, rfl, rfl, by decide +kernel, rfl, by decide +kernel, by decide +kernel⟩
theorem fnWe {C : Cs} {N : Nat} (F : Fun K "weight_of" "weight_of" (top 19) f fd) (F1 : Fx P w K mg base "total" ["some"] 4 spTt) (M : ∀ i, i < N → Mt P w K mg base (C.at_ i) "weigh" ["self"] 6 (spWg C i) []) (mr : mg "reversed" = none) : WFn P w K mg base 7 f fd ["things"] (spWe C N) := by
  have nd := scWe.nd
  refine fn3 F scWe (fun ws G q e h => by obtain ⟨_, _, rfl, _⟩ := h; rfl) (fun cdv A outer s H E hr => ?_)
  apply bodyOf
  · refine' qss_one (qs_ret (qe_fxn F1 (Room.mono hr (by (clear F F1 M mr nd hr; omega))) rfl (qa_cons (qe_comp (compSc (by first | rfl | decide +kernel)) rfl (qi_rev rfl mr ?it) (fun _ _ _ _ => ?tg) (fun _ _ _ _ => ?tt) (fun _ _ _ _ => qe_some (S := fun i => i < N) (t := fun i => wMeth (C.at_ i) "weigh" (spWg C i) [] (wVar 1) wNil) fun i hi => qe_meth0 ?me (M i hi) (Room.mono hr (by (clear F F1 M mr nd hr hi; omega))))) qa_nil)))
    case it => exact (qa_cons (qe_var 0 rfl (.inl rfl)) qa_nil)
    case tg => exact (qg_nameB 1 (by first | assumption | decide +kernel | rfl) rfl (.inl rfl))
    case tt => exact qts_nil
    case me => exact (qe_var 1 rfl (.inl rfl))
  · rintro ws G q e ⟨as, rs, rfl, ha, hz, hkd, hq⟩
    obtain ⟨ps, rfl, h2, h3⟩ := ha.rows
    have hl := len_L rs
    have hb := hz.hb
    have hpl : ps.length = rs.L.length := by rw [h2, List.length_map]
    walk_at "R"
    have ep : ((ps.map (·.1)).map W.ref).reverse = ps.reverse.map fun p => W.ref p.1 := by rw [List.map_map, List.map_reverse]; rfl
    rw [ep]
    refine comp_by (i := 1) (fun p : Addr × Row => W.ref p.1) (fun p => .tup (encP p.2.wt)) (τ0 := [none, none]) trivial (fun p hp k hk => ?_) (by rw [List.length_reverse]; show 0 + _ ≤ _; (clear F F1 M mr nd hr hz hkd hq ha h2 h3 ep; omega)) (fun _ => rfl) fun p hp => ?_
    · have hp' := List.mem_reverse.mp hp
      have h4 := h3 p hp'
      have hm : p.2 ∈ rs.L := by rw [h2]; exact List.mem_map.mpr ⟨p, hp', rfl⟩
      obtain ⟨fs, h6, h7, _⟩ := h4.isIns
      walk_at "R"
      exact ⟨kd p.2, hkd _ hm, p.1, fs, rfl, h6, h7, p.1, p.2, rfl, h4, rfl, hz.mem _ hm, hk⟩
    · refine ⟨p, rs.L.reverse.map Rq.wt, rfl, ?_, hz.pls, ?_⟩
      · rw [updG_same, List.nil_append, h2, ← List.map_reverse, List.map_map, List.map_map]
        rfl
      · rw [fold_sum, sum_L]
        exact ⟨G, GLe.new hp, hq⟩
theorem fnWeL {C : Cs} {N : Nat} (F : Fun K "weight_of" "weight_of" (top 19) f fd) (F1 : Fx P w K mg base "total" ["some"] 4 spTt) (M : ∀ i, i < N → Mt P w K mg base (C.at_ i) "weigh" ["self"] 6 (spWg C i) []) (mr : mg "reversed" = none) : WFn P w K mg base 7 f fd ["things"] (spWeL C N) := by
  have nd := scWe.nd
  refine fn3 F scWe (fun ws G q e h => by obtain ⟨_, _, rfl, _⟩ := h; rfl) (fun cdv A outer s H E hr => ?_)
  apply bodyOf
  · refine' qss_one (qs_ret (qe_fxn F1 (Room.mono hr (by (clear F F1 M mr nd hr; omega))) rfl (qa_cons (qe_comp (compSc (by first | rfl | decide +kernel)) rfl (qi_revL rfl mr ?it) (fun _ _ _ _ => ?tg) (fun _ _ _ _ => ?tt) (fun _ _ _ _ => qe_some (S := fun i => i < N) (t := fun i => wMeth (C.at_ i) "weigh" (spWg C i) [] (wVar 1) wNil) fun i hi => qe_meth0 ?me (M i hi) (Room.mono hr (by (clear F F1 M mr nd hr hi; omega))))) qa_nil)))
    case it => exact (qa_cons (qe_var 0 rfl (.inl rfl)) qa_nil)
    case tg => exact (qg_nameB 1 (by first | assumption | decide +kernel | rfl) rfl (.inl rfl))
    case tt => exact qts_nil
    case me => exact (qe_var 1 rfl (.inl rfl))
  · rintro ws G q e ⟨l, ps, rfl, hG, h3, hz, hkd, hq⟩
    have h2 := Rqs.L_of (ps.map (·.2))
    have hl := len_L (Rqs.of (ps.map (·.2)))
    have hb := hz.hb
    have hpl : ps.length = (Rqs.of (ps.map (·.2))).L.length := by rw [h2, List.length_map]
    walk_at "R"
    refine ⟨_, hG, ?_⟩
    rw [← List.map_reverse]
    refine comp_by (i := 1) (fun p : Addr × Row => W.ref p.1) (fun p => .tup (encP p.2.wt)) (τ0 := [none, none]) hG (fun p hp k hk => ?_) (by rw [List.length_reverse]; show 0 + _ ≤ _; (clear F F1 M mr nd hr hG h3 hz hkd hq h2; omega)) (fun _ => rfl) fun p hp => ?_
    · have hp' := List.mem_reverse.mp hp
      have h4 := h3 p hp'
      have hm : p.2 ∈ (Rqs.of (ps.map (·.2))).L := by rw [h2]; exact List.mem_map.mpr ⟨p, hp', rfl⟩
      obtain ⟨fs, h6, h7, _⟩ := h4.isIns
      walk_at "R"
      exact ⟨kd p.2, hkd _ hm, p.1, fs, rfl, h6, h7, p.1, p.2, rfl, h4, rfl, hz.mem _ hm, hk⟩
    · refine ⟨p, (Rqs.of (ps.map (·.2))).L.reverse.map Rq.wt, rfl, ?_, hz.pls, ?_⟩
      · rw [updG_same, List.nil_append, h2, ← List.map_reverse, List.map_map, List.map_map]
        rfl
      · rw [fold_sum, sum_L]
        exact ⟨G, GLe.new hp, hq⟩
theorem cap_ge : (10 : Int) ^ 400 ≤ cap := by unfold cap; decide +kernel
theorem sz_times {b : Str} {rs : Rqs Str} (h : Sz (.times b rs)) : Szs rs := by
  have h1 := h.nn
  have h2 := h.hb
  have h3 := h.mb
  have e2 : (Rq.times b rs).hb = rs.hb + 2 := rfl
  have e3 : (Rq.times b rs).mb = (rs.mb + 2) * 2 := rfl
  rw [e2] at h2
  rw [e3] at h3
  exact ⟨h1, by (clear h h1 h3 e3; omega), by (clear h h1 h2 e2 e3; omega)⟩
theorem sz_whl {b : Str} {hs : List (O × List Str)} {rs : Rqs Str} (h : Sz (.whl b hs rs)) : Szs rs ∧ Eok 3 hs ∧ O.hw (hpw hs) ≤ 500 ∧ O.mx (hpw hs) ≤ 10 ^ 300 := by
  have h1 := h.nn
  have h2 := h.hb
  have h3 := h.mb
  have e2 : (Rq.whl b hs rs).hb = rs.hb + O.hw (hpw hs) + 2 := rfl
  have e3 : (Rq.whl b hs rs).mb = (rs.mb + 3) * ((O.mx (hpw hs)).toNat + 1) + 1 := rfl
  rw [e2] at h2
  rw [e3] at h3
  have h4 : rs.mb + 3 ≤ (rs.mb + 3) * ((O.mx (hpw hs)).toNat + 1) := Nat.le_mul_of_pos_right _ (by (clear h h1 h2 h3 e2 e3; omega))
  have h5 : (O.mx (hpw hs)).toNat + 1 ≤ (rs.mb + 3) * ((O.mx (hpw hs)).toNat + 1) := Nat.le_mul_of_pos_left _ (by (clear h h1 h2 h3 e2 e3 h4; omega))
  exact ⟨⟨h1.1, by (clear h h1 h3 e3 h4 h5; omega), by (clear h h1 h2 e2 h5; omega)⟩, h1.2, by (clear h h1 h3 e3 h4 h5; omega), by (clear h h1 h2 e2 h4; omega)⟩
theorem scTw : FnScope ["self"] ["self"] (defScope (mtd 25 1)) := ⟨rfl, rfl, rfl, by decide +kernel, rfl, by decide +kernel, by decide +kernel⟩
theorem fnTw {C : Cs} (F : Fun K "weigh" "Times.weigh" (mtd 25 1) f fd) (F1 : Fx P w K mg base "times" ["a", "b"] 4 spTi) (F2 : Fx P w K mg base "endless" [] 4 spEn) (hc : Cls K C.t) (h1 : NoAttr K C.t "of_round") : WFn P w K mg base 6 f fd ["self"] (spWg C 4) := by
  have nd := scTw.nd
  refine fn3 (k := 5) F scTw (fun ws G q e h => by obtain ⟨_, _, rfl, _⟩ := h; rfl) (fun cdv A outer s H E hr => ?_)
  apply bodyOf
  · exact (qss_cons (qs_ret (qe_fxn F1 (Room.mono hr (by omega)) rfl (qa_cons (qe_fld (qe_var 0 rfl (.inl rfl))) (qa_cons (qe_fx0 F2 (Room.mono hr (by omega)) rfl) qa_nil)))) qss_nil)
  · rintro ws G q e ⟨a, r, rfl, ha, hk, hz, hq⟩
    cases ha with
    | times h hs =>
      rename_i b as rs
      have z := sz_times hz
      obtain ⟨r1, r2, r3, r4⟩ := rnd_ok z
      have c0 := cap_ge
      walk_at "R"
      refine ⟨a, C.t, _, _, rfl, h, ⟨hc, h1⟩, rfl, rfl, rs.rnd, om, rfl, r1, om_nf, by exact Nat.le_trans (by assumption) (Nat.le_of_ble_eq_true rfl), by decide, by exact Nat.le_trans (by assumption) (Nat.le_of_ble_eq_true rfl), by decide, Int.le_trans r4 (Int.le_trans (by decide +kernel) c0), Int.le_trans (by decide : O.mx om ≤ 1) (Int.le_trans (by decide +kernel) c0), GLe.done ?_⟩
      exact hq
    | _ => cases hk

/-! a loop with marks: what it weighs, and how its marks are put together -/
theorem strs_flat : ∀ l : List Str, W.flats (l.map W.str) = true
  | [] => rfl
  | _ :: l => by rw [List.map_cons, W.flats, strs_flat l]; rfl
theorem strs_deps : ∀ l : List Str, W.deps (l.map W.str) = 0
  | [] => rfl
  | _ :: l => by rw [List.map_cons, W.deps, strs_deps l]; rfl
theorem encH_flat : ∀ hs : List (O × List Str), W.flats (encH hs) = true
  | [] => rfl
  | p :: hs => by
    show W.flats (_ :: encH hs) = true
    rw [W.flats, encH_flat hs]
    simp [W.flat, W.flats, encP_flat, strs_flat]
theorem encH_deps : ∀ {hs : List (O × List Str)}, Eok 3 hs → W.deps (encH hs) ≤ 100
  | [], _ => Nat.zero_le _
  | p :: hs, h => by
    have h1 := encH_deps (hs := hs) fun x hx => h x (List.mem_cons_of_mem _ hx)
    have h2 := (h p List.mem_cons_self).2.1
    have h3 := encP_dep p.1
    show W.deps (_ :: encH hs) ≤ 100
    simp only [W.deps, W.dep, strs_deps]
    (clear h; omega)
theorem hpw_as (o : O) (hs : List (O × List Str)) (p : List Str) : hpw ((o, p) :: hs) = .c (O.plusO o (O.wh 1)) 1 .z := rfl
theorem scWw : FnScope ["self", "height"] ["self"] (defScope (mtd 26 1)) := ⟨rfl, rfl, rfl, by decide +kernel, rfl, by decide +kernel, by decide +kernel⟩
theorem fnWw {C : Cs} (F : Fun K "weigh" "While.weigh" (mtd 26 1) f fd) (F1 : Fx P w K mg base "times" ["a", "b"] 4 spTi) (F2 : Fx P w K mg base "whole" ["n"] 3 spWl) (F3 : Fx P w K mg base "plus" ["a", "b"] 3 spPs) (F4 : Fxd P w K mg base "raised" ["exponent", "times"] 2 spRs [.int 1]) (hc : Cls K C.w) (h1 : NoAttr K C.w "of_round") (h2 : NoAttr K C.w "heights") : WFn P w K mg base 6 f fd ["self"] (spWg C 5) := by
  have nd := scWw.nd
  refine fn3 (k := 5) F scWw (fun ws G q e h => by obtain ⟨_, _, rfl, _⟩ := h; rfl) (fun cdv A outer s H E hr => ?_)
  apply bodyOf
  · exact (qss_cons (qs_set 1 nd rfl (.inl rfl) (qe_ifExp (qt_cmp (q_neG hr) (qe_fld (qe_var 0 rfl (.inl rfl))) (qe_tup qa_nil) (nomark _)) (qe_fxn F3 (Room.mono hr (by omega)) rfl (qa_cons (qe_ix q_ixD (qe_ix q_ixD (qe_fld (qe_var 0 rfl (.inl rfl))) qe_int (fun _ _ => rfl)) qe_int (fun _ _ => rfl)) (qa_cons (qe_fxn F2 (Room.mono hr (by omega)) rfl (qa_cons qe_int qa_nil)) qa_nil))) (qe_tup qa_nil))) (qss_cons (qs_ret (qe_fxn F3 (Room.mono hr (by omega)) rfl (qa_cons (qe_fxn F1 (Room.mono hr (by omega)) rfl (qa_cons (qe_fld (qe_var 0 rfl (.inl rfl))) (qa_cons (qe_fxd F4 (Room.mono hr (by omega)) rfl (qa_cons (qe_var 1 rfl (.inl rfl)) qa_nil)) qa_nil))) (qa_cons (qe_fxn F2 (Room.mono hr (by omega)) rfl (qa_cons qe_int qa_nil)) qa_nil)))) qss_nil))
  · rintro ws G q e ⟨a, r, rfl, ha, hk, hz, hq⟩
    cases ha with
    | whl h hs =>
      rename_i b ms as rs
      obtain ⟨z, m1, m2, m3⟩ := sz_whl hz
      obtain ⟨r1, r2, r3, r4⟩ := rnw_ok z
      obtain ⟨g1, g2⟩ := hgt_ok m1
      obtain ⟨p1, p2⟩ := hpw_ok m1
      have c0 := cap_ge
      have e1 := Wb.wh (n := 1) (by decide)
      have x := (Rqs.wq rs z.nn).plus (Wq.wh (n := 2) (by decide))
      have y := x.times p1 p2 (Nat.le_trans (len_times _ _) (Nat.add_le_add_right x.ln _))
      have y1 := y.ln
      have l1 := lbs_hb rs
      have l2 := z.hb
      have l3 : (hpw ms).len = 1 := rfl
      have y2 : Nat.le (O.len (O.wh 1)) 1 := e1.ln
      have r4' := Int.le_trans r4 (Int.le_trans (by decide +kernel) c0)
      have m3' := Int.le_trans m3 (Int.le_trans (by decide +kernel) c0)
      have hq' : ∃ G0, GLe G0 G ∧ q (.tup (encP (O.plusO (O.timesO rs.rnw (hpw ms)) (O.wh 1)))) G0 := GLe.done hq
      have y3 : (O.timesO rs.rnw (hpw ms)).len ≤ 1000 := Nat.le_trans y1 (by (clear F F1 F2 F3 F4 hc h1 h2 nd hr hs h hk hz hq z m1 m2 m3 r1 r2 r3 r4 g1 g2 p1 p2 c0 e1 x y y1 y2 r4' m3' hq'; omega))
      have fl : (W.tup (encH ms)).flat = true := by simp only [W.flat]; exact encH_flat ms
      have dl : (W.tup (encH ms)).dep ≤ 150 := by have := encH_deps m1; simp only [W.dep]; (clear F F1 F2 F3 F4 hc h1 h2 nd hr hs h hk hz hq z m1 m2 m3 r1 r2 r3 r4 g1 g2 p1 p2 c0 e1 x y y1 l1 l2 l3 y2 r4' m3' hq' y3 fl; omega)
      refine seqU fun U hU => ?_
      walk_at "R"
      refine ⟨a, C.w, _, _, rfl, h, ⟨hc, h2⟩, rfl, fl, dl, ?_⟩
      cases ms with
      | nil =>
        rw [if_neg (by decide)]
        subst hU
        walk_at "R"
        exact ⟨a, C.w, _, _, rfl, h, ⟨hc, h1⟩, rfl, hgt [], 1, rfl, by decide, rs.rnw, hpw [], rfl, r1, p1, by exact Nat.le_trans (by assumption) (Nat.le_of_ble_eq_true rfl), by (clear F F1 F2 F3 F4 hc h1 h2 nd hr hs z r1 r2 r3 r4 c0 e1 x l1 l2 y2 r4' h hk hz hq m1 m2 m3 g1 g2 p1 y y1 l3 m3' hq' y3 fl dl; omega), by exact Nat.le_trans (by assumption) (Nat.le_of_ble_eq_true rfl), by exact Nat.le_trans (by assumption) (Nat.le_of_ble_eq_true rfl), r4', m3', 1, rfl, by decide, O.timesO rs.rnw (hpw []), O.wh 1, rfl, y.nf, Nat.le_trans y.dp (by decide), Nat.le_trans e1.dp (by decide), y3, Nat.le_trans e1.ln (by decide), hq'⟩
      | cons p ms =>
        rw [if_pos (by simp only [encH, List.map_cons, W.eq, W.eqs])]
        refine ⟨a, C.w, _, _, rfl, h, ⟨hc, h2⟩, rfl, ?_⟩
        walk_at "R"
        obtain ⟨o1, o2, o4⟩ := m1 p List.mem_cons_self
        have o3 := O.len_le_hw p.1
        refine ⟨1, rfl, by decide, p.1, O.wh 1, rfl, o1, Nat.le_trans o2 (by decide), Nat.le_trans e1.dp (by decide), by (clear F F1 F2 F3 F4 hc h1 h2 nd hr hs z r1 r2 r3 r4 c0 e1 x l1 l2 y2 r4' hU h hk hz hq m1 m2 m3 g1 g2 p1 p2 y y1 l3 m3' hq' y3 fl dl o1 o2; omega), Nat.le_trans e1.ln (by decide), ?_⟩
        subst hU
        walk_at "R"
        exact ⟨a, C.w, _, _, rfl, h, ⟨hc, h1⟩, rfl, hgt (p :: ms), 1, rfl, by decide, rs.rnw, hpw (p :: ms), rfl, r1, p1, by exact Nat.le_trans (by assumption) (Nat.le_of_ble_eq_true rfl), by exact Nat.le_trans (by assumption) (Nat.le_of_ble_eq_true rfl), by exact Nat.le_trans (by assumption) (Nat.le_of_ble_eq_true rfl), by exact Nat.le_trans (by assumption) (Nat.le_of_ble_eq_true rfl), r4', m3', 1, rfl, by decide, O.timesO rs.rnw (hpw (p :: ms)), O.wh 1, rfl, y.nf, Nat.le_trans y.dp (by decide), Nat.le_trans e1.dp (by decide), y3, Nat.le_trans e1.ln (by decide), hq'⟩
    | _ => cases hk

/-! the marks of a loop, by their exponents -/
noncomputable abbrev encM (ms : List (O × Str)) : List W := ms.map fun m => .tup [.tup (encP m.1), .str m.2]
noncomputable def spBe : WSp := fun ws G q _ => ∃ (l : Addr) (ms : List (O × Str)), ws = [.ref l] ∧ G l = some (.lst (encM ms)) ∧ ms.length ≤ 5 ∧ (∀ m, m ∈ ms → m.1.dp ≤ 3) ∧ q (.tup (encH (hof ms))) G
/-- what stands behind some marks: the dict, and the lists that it holds -/
structure Grp (P : Program) (w : World) (K : PySem.W.Frag) (G : Gp) (d : Addr) (done : List (O × Str)) (ps : List (O × Addr)) (G' : Gp) : Prop where
  le : GLe G G'
  fd : G d = none
  at_d : G' d = some (dio P w K (ps.map fun x => (x.1, .ref x.2)))
  len : ps.length ≤ done.length
  mem : ∀ o, o ∈ ps.map (·.1) ↔ o ∈ done.map (·.1)
  ls : ∀ x, x ∈ ps → G' x.2 = some (.lst ((namesO done x.1).map W.str))
  fr : ∀ x, x ∈ ps → G x.2 = none
  i1 : ∀ x y, x ∈ ps → y ∈ ps → x.1 = y.1 → x = y
  i2 : ∀ x y, x ∈ ps → y ∈ ps → x.2 = y.2 → x = y
theorem val_some {ps : List (O × Addr)} {o : O} {x : W} (h : valO (ps.map fun x => (x.1, .ref x.2)) o = some x) : ∃ k, x = .ref k ∧ (o, k) ∈ ps := by
  unfold valO at h
  obtain ⟨p, hp, rfl⟩ := Option.map_eq_some_iff.mp h
  have h1 := List.mem_of_find?_eq_some hp
  have h2 := List.find?_some hp
  obtain ⟨y, hy, rfl⟩ := List.mem_map.mp h1
  have : y.1 = o := by simpa using h2
  subst this
  exact ⟨y.2, rfl, hy⟩
theorem val_none {ps : List (O × Addr)} {o : O} (h : valO (ps.map fun x => (x.1, W.ref x.2)) o = none) : o ∉ ps.map (·.1) := fun ho => by
  obtain ⟨y, hy, e⟩ := List.mem_map.mp ho
  unfold valO at h
  have h1 := List.find?_eq_none.mp (Option.map_eq_none_iff.mp h) _ (List.mem_map.mpr ⟨y, hy, rfl⟩)
  exact h1 (decide_eq_true e)
theorem val_mem {ps : List (O × Addr)} {o : O} (h : o ∈ ps.map (·.1)) : ∃ k, valO (ps.map fun x => (x.1, W.ref x.2)) o = some (.ref k) ∧ (o, k) ∈ ps := by
  cases e : valO (ps.map fun x => (x.1, W.ref x.2)) o with
  | none => exact absurd h (val_none e)
  | some x =>
    obtain ⟨k, rfl, hk⟩ := val_some e
    exact ⟨k, rfl, hk⟩
theorem Grp.old {P : Program} {w : World} {K : PySem.W.Frag} {G G' : Gp} {d p k : Addr} {done : List (O × Str)} {ps : List (O × Addr)} {o : O} {b : Str} (g : Grp P w K G d done ps G') (hp : G' p = none) (hk : (o, k) ∈ ps) :
    Grp P w K G d (done ++ [(o, b)]) ps (updG (updG G' p (.lst [])) k (.lst ((namesO done o).map W.str ++ [.str b]))) := by
  have hkd : k ≠ d := fun z => by have := g.ls _ hk; rw [z, g.at_d] at this; cases this
  have hG0 := g.fr _ hk
  refine ⟨fun a x e => ?_, g.fd, ?_, ?_, fun x => ?_, fun x hx => ?_, g.fr, g.i1, g.i2⟩
  · rw [updG_ne (fun z => by rw [z, hG0] at e; cases e)]
    exact updG_ne' (g.le _ _ e) hp
  · rw [updG_ne hkd.symm]
    exact updG_ne' g.at_d hp
  · have := g.len
    rw [List.length_append]
    exact Nat.le_succ_of_le this
  · rw [g.mem, List.map_append, List.mem_append]
    constructor
    · exact Or.inl
    · rintro (h | h)
      · exact h
      · rw [List.mem_singleton.mp h]
        exact (g.mem o).mp (List.mem_map.mpr ⟨_, hk, rfl⟩)
  · rw [names_snoc]
    by_cases e : x.2 = k
    · have := g.i2 x (o, k) hx hk e
      subst this
      rw [updG_same, if_pos rfl, List.map_append]
      rfl
    · rw [updG_ne e, if_neg (fun z => e (congrArg Prod.snd (g.i1 x (o, k) hx hk z.symm))), List.append_nil]
      exact updG_ne' (g.ls x hx) hp
theorem Grp.new {P : Program} {w : World} {K : PySem.W.Frag} {G G' : Gp} {d p : Addr} {done : List (O × Str)} {ps : List (O × Addr)} {o : O} {b : Str} (g : Grp P w K G d done ps G') (hp : G' p = none) (hk : o ∉ ps.map (·.1)) :
    Grp P w K G d (done ++ [(o, b)]) (ps ++ [(o, p)]) (updG (updG (updG G' p (.lst [])) d (dio P w K (ps.map (fun x => (x.1, W.ref x.2)) ++ [(o, .ref p)]))) p (.lst [.str b])) := by
  have hpd : p ≠ d := fun z => by rw [z, g.at_d] at hp; cases hp
  have hp0 := fresh_of g.le hp
  have hno : o ∉ done.map (·.1) := fun h => hk ((g.mem o).mpr h)
  have old : ∀ x, x ∈ ps → x.2 ≠ p ∧ x.2 ≠ d ∧ x.1 ≠ o := fun x hx => by
    refine ⟨fun z => ?_, fun z => ?_, fun z => hk (List.mem_map.mpr ⟨x, hx, z⟩)⟩
    · have := g.ls x hx; rw [z, hp] at this; cases this
    · have := g.ls x hx; rw [z, g.at_d] at this; cases this
  refine ⟨fun a x e => ?_, g.fd, ?_, ?_, fun x => ?_, fun x hx => ?_, fun x hx => ?_, fun x y hx hy e => ?_, fun x y hx hy e => ?_⟩
  · rw [updG_ne (fun z => by rw [z, hp0] at e; cases e), updG_ne (fun z => by rw [z, g.fd] at e; cases e)]
    exact updG_ne' (g.le _ _ e) hp
  · rw [updG_ne hpd.symm, updG_same, List.map_append]
    rfl
  · have := g.len
    rw [List.length_append, List.length_append]
    exact Nat.succ_le_succ this
  · rw [List.map_append, List.map_append, List.mem_append, List.mem_append, g.mem]
    exact Iff.rfl
  · rw [names_snoc]
    rcases List.mem_append.mp hx with hx | hx
    · obtain ⟨h1, h2, h3⟩ := old x hx
      rw [updG_ne h1, updG_ne h2, if_neg (fun z => h3 z.symm), List.append_nil]
      exact updG_ne' (g.ls x hx) hp
    · rw [List.mem_singleton.mp hx, updG_same, if_pos rfl, names_none hno]
      rfl
  · rcases List.mem_append.mp hx with hx | hx
    · exact g.fr x hx
    · rw [List.mem_singleton.mp hx]; exact hp0
  · rcases List.mem_append.mp hx with hx | hx <;> rcases List.mem_append.mp hy with hy | hy
    · exact g.i1 x y hx hy e
    · rw [List.mem_singleton.mp hy] at e; exact absurd e (old x hx).2.2
    · rw [List.mem_singleton.mp hx] at e; exact absurd e.symm (old y hy).2.2
    · rw [List.mem_singleton.mp hx, List.mem_singleton.mp hy]
  · rcases List.mem_append.mp hx with hx | hx <;> rcases List.mem_append.mp hy with hy | hy
    · exact g.i2 x y hx hy e
    · rw [List.mem_singleton.mp hy] at e; exact absurd e (old x hx).1
    · rw [List.mem_singleton.mp hx] at e; exact absurd e.symm (old y hy).1
    · rw [List.mem_singleton.mp hx, List.mem_singleton.mp hy]
theorem scBe : FnScope ["marks", "names", "exponent", "box"] ["marks"] (defScope (top 27)) := ⟨rfl, rfl, rfl, by decide +kernel, rfl, by decide +kernel, by decide +kernel⟩
theorem fnBe (F : Fun K "by_exponent" "by_exponent" (top 27) f fd) (mt : mg "tuple" = none) (ms : mg "sorted" = none) : WFn P w K mg base 6 f fd ["marks"] spBe := by
  have nd := scBe.nd
  refine fn3 (k := 5) F scBe (fun ws G q e h => by obtain ⟨_, _, rfl, _⟩ := h; rfl) (fun cdv A outer s H E hr => ?_)
  apply bodyOf
  · refine' qss_cons (qs_set 1 (by assumption) rfl (by first | exact Or.inl rfl | exact Or.inr rfl) (show QE _ _ (wDicO P w K) from qe_dicO)) (qss_cons (qs_for PassesOwn.never rfl ?it ?tg (qss_one (qs_expr (qe_app (show QE _ _ (wSdf P w K _ _ _) from qe_sdf hr ?o ?k ?e) ?b)))) (qss_one (qs_ret (qe_callTy q_tuple rfl mt b_tuple (qa_cons (qe_comp2 (compSc (by first | rfl | decide +kernel)) rfl (qi_seqS (show QE _ _ (wSortO P w K _) from qe_sortO hr rfl rfl ms ?sn)) (fun _ _ _ _ => ?cg) (fun _ _ _ _ => ?ct) (fun _ _ _ _ => qe_tup (qa_cons ?ce (qa_cons (qe_callTy q_tuple rfl mt b_tuple (qa_cons (qe_ix (show QIx _ (rIxO P w K) from q_ixO hr) ?cn ?cx (fun _ _ => rfl)) qa_nil)) qa_nil)))) qa_nil)))))
    case it => exact (qi_seqS (qe_var 0 rfl (.inl rfl)))
    case tg => exact (qg_tup rfl (qgs_cons (qg_name 2 nd rfl (.inl rfl)) (qgs_cons (qg_name 3 nd rfl (.inl rfl)) qgs_nil)))
    case o => exact (qe_var 1 rfl (.inr (.inl rfl)))
    case k => exact (qe_var 2 rfl (.inl rfl))
    case e => exact (qe_lst qa_nil)
    case b => exact (qe_var 3 rfl (.inl rfl))
    case sn => exact (qe_var 1 rfl (.inr (.inl rfl)))
    case cg => exact (qg_nameB 1 (by first | assumption | decide +kernel | rfl) rfl (.inl rfl))
    case ct => exact qts_nil
    case ce => exact (qe_var 1 rfl (.inl rfl))
    case cn => exact (qe_var 3 rfl (.inr (.inl rfl)))
    case cx => exact (qe_var 1 rfl (.inl rfl))
  · rintro ws G q e ⟨l, ms, rfl, hG, h5, hdp, hq⟩
    refine seqU fun U hU => ?_
    walk_at "R"
    intro d hd
    have hG1 := updG_ne' (g := dio P w K []) hG hd
    subst hU
    refine seqU fun U hU => ?_
    walk_at "R"
    refine ⟨_, hG1, ?_⟩
    refine loopW_ind (fun ws τ G' => ∃ (done todo : List (O × Str)) (ps : List (O × Addr)) (t1 t2 : Option W), ws = encM todo ∧ τ = [some (.ref l), some (.ref d), t1, t2] ∧ done ++ todo = ms ∧ Grp P w K G d done ps G') ?_ ?_ _ _ _ ⟨[], ms, [], none, none, rfl, rfl, rfl, ⟨GLe.new hd, hd, updG_same, Nat.le_refl _, fun _ => Iff.rfl, fun _ h => (nomatch h), fun _ h => (nomatch h), fun _ _ h => (nomatch h), fun _ _ h => (nomatch h)⟩⟩
    · rintro τ G' ⟨done, todo, ps, t1, t2, hw, rfl, hms, g⟩
      refine ⟨g.le _ _ hG, ?_⟩
      have hb : todo = [] := by simpa using hw.symm
      subst hb
      rw [List.append_nil] at hms
      subst hms
      subst hU
      walk_at "R"
      refine ⟨_, g.at_d, by rw [List.length_map]; exact Nat.le_trans g.len h5, fun p ks hp hD hP => ?_⟩
      walk_at "R"
      refine ⟨_, updG_same, ?_⟩
      have hl : ks.length ≤ 5 := by rw [hP.length_eq, List.length_map, List.length_map]; exact Nat.le_trans g.len h5
      have hk : ∀ o, o ∈ ks ↔ o ∈ ps.map (·.1) := fun o => by
        rw [hP.mem_iff, List.map_map]
        exact Iff.rfl
      refine comp_by (i := 1) (fun o : O => W.tup (encP o)) (fun o => .tup [.tup (encP o), .tup ((namesO done o).map W.str)]) (τ0 := [none, none, none, some (.ref d)]) updG_same (fun o ho k hkk => ?_) (by show 0 + _ ≤ _; (clear F mt ms nd hr hd g hw hG h5 hdp hq hG1 hp hD hP hk; omega)) (fun _ => rfl) fun p2 hp2 _ => ?_
      · obtain ⟨a, h1, h2⟩ := val_mem ((hk o).mp ho)
        walk_at "R"
        exact ⟨_, o, _, rfl, updG_ne' g.at_d hp, h1, _, updG_ne' (g.ls _ h2) hp, hkk⟩
      · refine ⟨_, updG_same, G, g.le.trans ((GLe.new hp).trans (GLe.new hp2)), ?_⟩
        have e : ([] : List W) ++ ks.map (fun o => .tup [.tup (encP o), .tup ((namesO done o).map W.str)]) = encH (hof done) := by
          rw [← hof_as hD fun o => (hk o).trans (g.mem o), List.nil_append]
          simp only [encH, List.map_map]
          rfl
        rw [e]
        exact hq
    · rintro w1 ws τ G' kk ⟨done, todo, ps, t1, t2, hw, rfl, hms, g⟩ hk
      cases todo with
      | nil => cases hw
      | cons m todo =>
        cases hw
        refine ⟨g.le _ _ hG, ?_⟩
        walk_at "R"
        refine ⟨⟨_, g.at_d⟩, fun p hp => ?_⟩
        have hl : done.length ≤ 5 := by have := congrArg List.length hms; rw [List.length_append] at this; (clear F mt nd hr hG hdp hq hd hG1 hU g hms hk hp; omega)
        have hnl : ∀ o, (namesO done o).length ≤ 5 := fun o => by
          unfold namesO
          rw [List.length_map]
          exact Nat.le_trans (List.length_filter_le _ _) hl
        have hm : (done ++ [m]) ++ todo = ms := by rw [List.append_assoc]; exact hms
        refine ⟨m.1, _, rfl, hdp m (by rw [← hms]; simp), updG_ne' g.at_d hp, ?_, fun x hx => ?_, fun hn => ?_⟩
        · rw [List.length_map]
          have := g.len
          (clear F mt nd hr hG h5 hdp hq hd hG1 hU g hms hk hp hnl hm; omega)
        · obtain ⟨k, rfl, hkm⟩ := val_some hx
          have h1 := updG_ne' (g := GO.lst []) (g.ls _ hkm) hp
          have h2 := hnl m.1
          refine ⟨⟨_, h1⟩, _, h1, by rw [List.length_map]; show (namesO done m.1).length ≤ _; exact Nat.le_trans (by assumption) (Nat.le_of_ble_eq_true rfl), hk _ _ ⟨done ++ [m], todo, ps, _, _, rfl, rfl, hm, g.old hp hkm⟩⟩
        · have hpd : p ≠ d := fun z => by rw [z, g.at_d] at hp; cases hp
          have h1 := (updG_ne (g := dio P w K (ps.map (fun x => (x.1, W.ref x.2)) ++ [(m.1, .ref p)])) hpd).trans (updG_same (G := G') (a := p) (g := GO.lst []))
          exact ⟨⟨_, h1⟩, _, h1, Nat.zero_le _, hk _ _ ⟨done ++ [m], todo, ps ++ [(m.1, p)], _, _, rfl, rfl, hm, g.new hp (val_none hn)⟩⟩

noncomputable abbrev refs (ps : List (Addr × Row)) : List W := ps.map fun x => W.ref x.1
/-! new rows -/
inductive Pl where
  | set (b : Str) (n : Int)
  | copy (b o : Str)
  | add (b o : Str)
  | less (b : Str)
noncomputable def Pl.row : Pl → Row
  | .set b n => .set b n
  | .copy b o => .copy b o
  | .add b o => .add b o
  | .less b => .less b
noncomputable def Pl.kd : Pl → Nat
  | .set _ _ => 0
  | .copy _ _ => 1
  | .add _ _ => 2
  | .less _ => 3
noncomputable def Pl.args : Pl → List W
  | .set b n => [.str b, .int n]
  | .copy b o => [.str b, .str o]
  | .add b o => [.str b, .str o]
  | .less b => [.str b]
noncomputable def Pl.fs : Pl → List (Str × W)
  | .set b n => [("box", .str b), ("amount", .int n)]
  | .copy b o => [("box", .str b), ("other", .str o)]
  | .add b o => [("box", .str b), ("other", .str o)]
  | .less b => [("box", .str b)]
theorem Pl.at {C : Cs} {G : Gp} {a : Addr} (r : Pl) (h : G a = some (.ins (C.at_ r.kd) r.fs)) : RAt C G a r.row := by
  cases r with
  | set b n => exact .set h
  | copy b o => exact .copy h
  | add b o => exact .add h
  | less b => exact .less h
noncomputable def spIn (C : Cs) (i : Nat) : WSp := fun ws G q _ => ∃ (a : Addr) (r : Pl), ws = .ref a :: r.args ∧ r.kd = i ∧ G a = some (.ins (C.at_ i) []) ∧ ∀ G' : Gp, G' a = some (.ins (C.at_ i) r.fs) → (∀ x, x ≠ a → G' x = G x) → q .non G'
theorem scN1 : FnScope ["self", "box", "amount"] ["self", "box", "amount"] (defScope (mtd 21 0)) := ⟨rfl, rfl, rfl, by decide +kernel, rfl, by decide +kernel, by decide +kernel⟩
theorem fnN1 {C : Cs} (F : Fun K "__init__" "Set.__init__" (mtd 21 0) f fd) (hc : Cls K C.s) (h1 : NoAttr K C.s "box") (h2 : NoAttr K C.s "amount") : WFn P w K mg base 1 f fd ["self", "box", "amount"] (spIn C 0) := by
  have nd := scN1.nd
  refine fn3 F scN1 (fun ws G q e h => by
    obtain ⟨_, r, rfl, hk, _⟩ := h
    cases r with
    | set b n => rfl
    | copy b o => cases hk
    | add b o => cases hk
    | less b => cases hk) (fun cdv A outer s H E hr => ?_)
  apply bodyOf
  · exact (qss_cons (qs_fld (qe_var 0 rfl (.inl rfl)) (qe_var 1 rfl (.inl rfl))) (qss_cons (qs_fld (qe_var 0 rfl (.inl rfl)) (qe_var 2 rfl (.inl rfl))) qss_nil))
  · rintro ws G q e ⟨a, r, rfl, hk, hG, hq⟩
    cases r with
    | set b n =>
      refine seqU fun U hU => ?_
      walk_at "R"
      refine ⟨a, C.s, [], rfl, hG, ⟨hc, h1⟩, by simp, ?_⟩
      subst hU
      walk_at "R"
      refine ⟨a, C.s, [("box", .str b)], rfl, updG_same, ⟨hc, h2⟩, by simp, ?_⟩
      exact GLe.done (hq _ updG_same fun x hx => (updG_ne hx).trans (updG_ne hx))
    | copy b o => cases hk
    | add b o => cases hk
    | less b => cases hk
theorem scN2 : FnScope ["self", "box", "other"] ["self", "box", "other"] (defScope (mtd 22 0)) := ⟨rfl, rfl, rfl, by decide +kernel, rfl, by decide +kernel, by decide +kernel⟩
theorem fnN2 {C : Cs} (F : Fun K "__init__" "Copy.__init__" (mtd 22 0) f fd) (hc : Cls K C.c) (h1 : NoAttr K C.c "box") (h2 : NoAttr K C.c "other") : WFn P w K mg base 1 f fd ["self", "box", "other"] (spIn C 1) := by
  have nd := scN2.nd
  refine fn3 F scN2 (fun ws G q e h => by
    obtain ⟨_, r, rfl, hk, _⟩ := h
    cases r with
    | copy b o => rfl
    | set b n => cases hk
    | add b o => cases hk
    | less b => cases hk) (fun cdv A outer s H E hr => ?_)
  apply bodyOf
  · exact (qss_cons (qs_fld (qe_var 0 rfl (.inl rfl)) (qe_var 1 rfl (.inl rfl))) (qss_cons (qs_fld (qe_var 0 rfl (.inl rfl)) (qe_var 2 rfl (.inl rfl))) qss_nil))
  · rintro ws G q e ⟨a, r, rfl, hk, hG, hq⟩
    cases r with
    | copy b o =>
      refine seqU fun U hU => ?_
      walk_at "R"
      refine ⟨a, C.c, [], rfl, hG, ⟨hc, h1⟩, by simp, ?_⟩
      subst hU
      walk_at "R"
      refine ⟨a, C.c, [("box", .str b)], rfl, updG_same, ⟨hc, h2⟩, by simp, ?_⟩
      exact GLe.done (hq _ updG_same fun x hx => (updG_ne hx).trans (updG_ne hx))
    | set b n => cases hk
    | add b o => cases hk
    | less b => cases hk
theorem scN3 : FnScope ["self", "box", "other"] ["self", "box", "other"] (defScope (mtd 23 0)) := ⟨rfl, rfl, rfl, by decide +kernel, rfl, by decide +kernel, by decide +kernel⟩
theorem fnN3 {C : Cs} (F : Fun K "__init__" "Add.__init__" (mtd 23 0) f fd) (hc : Cls K C.a) (h1 : NoAttr K C.a "box") (h2 : NoAttr K C.a "other") : WFn P w K mg base 1 f fd ["self", "box", "other"] (spIn C 2) := by
  have nd := scN3.nd
  refine fn3 F scN3 (fun ws G q e h => by
    obtain ⟨_, r, rfl, hk, _⟩ := h
    cases r with
    | add b o => rfl
    | set b n => cases hk
    | copy b o => cases hk
    | less b => cases hk) (fun cdv A outer s H E hr => ?_)
  apply bodyOf
  · exact (qss_cons (qs_fld (qe_var 0 rfl (.inl rfl)) (qe_var 1 rfl (.inl rfl))) (qss_cons (qs_fld (qe_var 0 rfl (.inl rfl)) (qe_var 2 rfl (.inl rfl))) qss_nil))
  · rintro ws G q e ⟨a, r, rfl, hk, hG, hq⟩
    cases r with
    | add b o =>
      refine seqU fun U hU => ?_
      walk_at "R"
      refine ⟨a, C.a, [], rfl, hG, ⟨hc, h1⟩, by simp, ?_⟩
      subst hU
      walk_at "R"
      refine ⟨a, C.a, [("box", .str b)], rfl, updG_same, ⟨hc, h2⟩, by simp, ?_⟩
      exact GLe.done (hq _ updG_same fun x hx => (updG_ne hx).trans (updG_ne hx))
    | set b n => cases hk
    | copy b o => cases hk
    | less b => cases hk
theorem scN4 : FnScope ["self", "box"] ["self", "box"] (defScope (mtd 24 0)) := ⟨rfl, rfl, rfl, by decide +kernel, rfl, by decide +kernel, by decide +kernel⟩
theorem fnN4 {C : Cs} (F : Fun K "__init__" "Less.__init__" (mtd 24 0) f fd) (hc : Cls K C.l) (h1 : NoAttr K C.l "box") : WFn P w K mg base 1 f fd ["self", "box"] (spIn C 3) := by
  have nd := scN4.nd
  refine fn3 F scN4 (fun ws G q e h => by
    obtain ⟨_, r, rfl, hk, _⟩ := h
    cases r with
    | less b => rfl
    | set b n => cases hk
    | copy b o => cases hk
    | add b o => cases hk) (fun cdv A outer s H E hr => ?_)
  apply bodyOf
  · exact (qss_cons (qs_fld (qe_var 0 rfl (.inl rfl)) (qe_var 1 rfl (.inl rfl))) qss_nil)
  · rintro ws G q e ⟨a, r, rfl, hk, hG, hq⟩
    cases r with
    | less b =>
      walk_at "R"
      refine ⟨a, C.l, [], rfl, hG, ⟨hc, h1⟩, by simp, ?_⟩
      exact GLe.done (hq _ updG_same fun x hx => updG_ne hx)
    | set b n => cases hk
    | copy b o => cases hk
    | add b o => cases hk


noncomputable def spNt (C : Cs) (N : Nat) : WSp := fun ws G q _ => ∃ (a : Addr) (b : Str) (pl : Addr) (ps : List (Addr × Row)), ws = [.ref a, .str b, .ref pl] ∧ G a = some (.ins C.t []) ∧ G pl = some (.lst (refs ps)) ∧ Rows C G ps ∧ Szs (Rqs.of (ps.map (·.2))) ∧ Kds N (Rqs.of (ps.map (·.2))) ∧ ∀ G' : Gp, G' a = some (.ins C.t (tfs b (ps.map (·.1)) (Rqs.of (ps.map (·.2))))) → (∀ x, x ≠ a → G' x = G x) → q .non G'
theorem scNt : FnScope ["self", "box", "rows"] ["self", "box", "rows"] (defScope (mtd 25 0)) := ⟨rfl, rfl, rfl, by decide +kernel, rfl, by decide +kernel, by decide +kernel⟩
theorem fnNt {C : Cs} {N : Nat} (F : Fun K "__init__" "Times.__init__" (mtd 25 0) f fd) (F1 : Fx P w K mg base "weight_of" ["things"] 7 (spWe C N)) (F2 : Fx P w K mg base "whole" ["n"] 3 spWl) (F3 : Fx P w K mg base "plus" ["a", "b"] 3 spPs) (mt : mg "tuple" = none) (hc : Cls K C.t) (h1 : NoAttr K C.t "box") (h2 : NoAttr K C.t "rows") (h3 : NoAttr K C.t "of_round") : WFn P w K mg base 8 f fd ["self", "box", "rows"] (spNt C N) := by
  have nd := scNt.nd
  refine fn3 F scNt (fun ws G q e h => by obtain ⟨_, _, _, _, rfl, _⟩ := h; rfl) (fun cdv A outer s H E hr => ?_)
  apply bodyOf
  · exact (qss_cons (qs_fld (qe_var 0 rfl (.inl rfl)) (qe_var 1 rfl (.inl rfl))) (qss_cons (qs_fld (qe_var 0 rfl (.inl rfl)) (qe_callTy q_tuple rfl mt b_tuple (qa_cons (qe_var 2 rfl (.inl rfl)) qa_nil))) (qss_cons (qs_fld (qe_var 0 rfl (.inl rfl)) (qe_fxn F3 (Room.mono hr (by omega)) rfl (qa_cons (qe_fxn F1 (Room.mono hr (by omega)) rfl (qa_cons (qe_fld (qe_var 0 rfl (.inl rfl))) qa_nil)) (qa_cons (qe_fxn F2 (Room.mono hr (by omega)) rfl (qa_cons qe_int qa_nil)) qa_nil)))) qss_nil)))
  · rintro ws G q e ⟨a, b, pl, ps, rfl, hG, hpl, hR, hz, hkd, hq⟩
    have la : pl ≠ a := fun z => by rw [z, hG] at hpl; cases hpl
    have hll := len_L (Rqs.of (ps.map (·.2)))
    rw [Rqs.L_of, List.length_map] at hll
    have hzb := hz.hb
    refine seqU fun U hU => ?_
    walk_at "R"
    refine ⟨a, C.t, [], rfl, hG, ⟨hc, h1⟩, by simp, ?_⟩
    subst hU
    refine seqU fun U hU => ?_
    walk_at "R"
    refine ⟨_, (updG_ne la).trans hpl, a, C.t, [("box", .str b)], rfl, updG_same, ⟨hc, h2⟩, by simp, ?_⟩
    have em : (ps.map (·.1)).map W.ref = refs ps := by rw [List.map_map]; rfl
    subst hU
    walk_at "R"
    rw [if_neg (by decide)]
    refine ⟨a, C.t, [("box", .str b), ("rows", .tup (refs ps))], .tup (refs ps), rfl, updG_same, ⟨hc, h2⟩, rfl, ?_⟩
    have li : InsLe G (updG (updG G a (GO.ins C.t [("box", W.str b)])) a (GO.ins C.t [("box", W.str b), ("rows", W.tup (refs ps))])) := InsLe.but (p := a) (fun x g xa e => (updG_ne xa).trans ((updG_ne xa).trans e)) (fun C' y fs e => by rw [hG] at e; cases e)
    have hw0 := Rqs.wq _ hz.nn
    have e1 := Wb.wh (n := 1) (by decide)
    have l1 := hw0.ln
    have l2 := lbs_hb (Rqs.of (ps.map (·.2)))
    refine ⟨ps.map (·.1), Rqs.of (ps.map (·.2)), by rw [em], (hR.mono li).ats, hz, hkd, 1, rfl, by decide, (Rqs.of (ps.map (·.2))).wt, O.wh 1, rfl, hw0.nf, Nat.le_trans hw0.dp (by decide), Nat.le_trans e1.dp (by decide), by (clear F F1 F2 F3 mt hc h1 h2 h3 nd hr hG hpl hR hz hkd hq la hll em li hw0 e1; omega), Nat.le_trans e1.ln (by decide), a, C.t, [("box", .str b), ("rows", .tup (refs ps))], rfl, updG_same, ⟨hc, h3⟩, by simp, GLe.done (hq _ ?_ fun x hx => (updG_ne hx).trans ((updG_ne hx).trans (updG_ne hx)))⟩
    rw [updG_same, ← em]
    rfl
noncomputable def spNw (C : Cs) (N : Nat) : WSp := fun ws G q _ => ∃ (a : Addr) (b : Str) (ml pl : Addr) (ms : List (O × Str)) (ps : List (Addr × Row)), ws = [.ref a, .str b, .ref ml, .ref pl] ∧ G a = some (.ins C.w []) ∧ G ml = some (.lst (encM ms)) ∧ ms.length ≤ 5 ∧ (∀ m, m ∈ ms → m.1.dp ≤ 3) ∧ G pl = some (.lst (refs ps)) ∧ Rows C G ps ∧ Szs (Rqs.of (ps.map (·.2))) ∧ Kds N (Rqs.of (ps.map (·.2))) ∧ ∀ G' : Gp, G' a = some (.ins C.w (wfs b (hof ms) (ps.map (·.1)) (Rqs.of (ps.map (·.2))))) → (∀ x, x ≠ a → G' x = G x) → q .non G'
theorem scNw : FnScope ["self", "box", "marks", "rows"] ["self", "box", "marks", "rows"] (defScope (mtd 26 0)) := ⟨rfl, rfl, rfl, by decide +kernel, rfl, by decide +kernel, by decide +kernel⟩
theorem fnNw {C : Cs} {N : Nat} (F : Fun K "__init__" "While.__init__" (mtd 26 0) f fd) (F0 : Fx P w K mg base "by_exponent" ["marks"] 6 spBe) (F1 : Fx P w K mg base "weight_of" ["things"] 7 (spWe C N)) (F2 : Fx P w K mg base "whole" ["n"] 3 spWl) (F3 : Fx P w K mg base "plus" ["a", "b"] 3 spPs) (mt : mg "tuple" = none) (hc : Cls K C.w) (h1 : NoAttr K C.w "box") (h0 : NoAttr K C.w "heights") (h2 : NoAttr K C.w "rows") (h3 : NoAttr K C.w "of_round") : WFn P w K mg base 8 f fd ["self", "box", "marks", "rows"] (spNw C N) := by
  have nd := scNw.nd
  refine fn3 F scNw (fun ws G q e h => by obtain ⟨_, _, _, _, _, _, rfl, _⟩ := h; rfl) (fun cdv A outer s H E hr => ?_)
  apply bodyOf
  · exact (qss_cons (qs_fld (qe_var 0 rfl (.inl rfl)) (qe_var 1 rfl (.inl rfl))) (qss_cons (qs_fld (qe_var 0 rfl (.inl rfl)) (qe_fxn F0 (Room.mono hr (by omega)) rfl (qa_cons (qe_var 2 rfl (.inl rfl)) qa_nil))) (qss_cons (qs_fld (qe_var 0 rfl (.inl rfl)) (qe_callTy q_tuple rfl mt b_tuple (qa_cons (qe_var 3 rfl (.inl rfl)) qa_nil))) (qss_cons (qs_fld (qe_var 0 rfl (.inl rfl)) (qe_fxn F3 (Room.mono hr (by omega)) rfl (qa_cons (qe_fxn F1 (Room.mono hr (by omega)) rfl (qa_cons (qe_fld (qe_var 0 rfl (.inl rfl))) qa_nil)) (qa_cons (qe_fxn F2 (Room.mono hr (by omega)) rfl (qa_cons qe_int qa_nil)) qa_nil)))) qss_nil))))
  · rintro ws G q e ⟨a, b, ml, pl, ms, ps, rfl, hG, hml, hm5, hmd, hpl, hR, hz, hkd, hq⟩
    have la : pl ≠ a := fun z => by rw [z, hG] at hpl; cases hpl
    have lm : ml ≠ a := fun z => by rw [z, hG] at hml; cases hml
    have hll := len_L (Rqs.of (ps.map (·.2)))
    rw [Rqs.L_of, List.length_map] at hll
    have hzb := hz.hb
    refine seqU fun U hU => ?_
    walk_at "R"
    refine ⟨a, C.w, [], rfl, hG, ⟨hc, h1⟩, by simp, ?_⟩
    subst hU
    refine seqU fun U hU => ?_
    walk_at "R"
    refine ⟨ml, ms, rfl, (updG_ne lm).trans hml, hm5, hmd, a, C.w, [("box", .str b)], rfl, updG_same, ⟨hc, h0⟩, by simp, ?_⟩
    subst hU
    refine seqU fun U hU => ?_
    walk_at "R"
    refine ⟨_, (updG_ne la).trans ((updG_ne la).trans hpl), a, C.w, [("box", .str b), ("heights", .tup (encH (hof ms)))], rfl, updG_same, ⟨hc, h2⟩, by simp, ?_⟩
    have em : (ps.map (·.1)).map W.ref = refs ps := by rw [List.map_map]; rfl
    subst hU
    walk_at "R"
    repeat rw [if_neg (by decide)]
    have li : InsLe G (updG (updG (updG G a (GO.ins C.w [("box", W.str b)])) a (GO.ins C.w [("box", W.str b), ("heights", W.tup (encH (hof ms)))])) a (GO.ins C.w [("box", W.str b), ("heights", W.tup (encH (hof ms))), ("rows", W.tup (refs ps))])) := InsLe.but (p := a) (fun x g xa e => (updG_ne xa).trans ((updG_ne xa).trans ((updG_ne xa).trans e))) (fun C' y fs e => by rw [hG] at e; cases e)
    have hw0 := Rqs.wq _ hz.nn
    have e1 := Wb.wh (n := 2) (by decide)
    have l1 := hw0.ln
    have l2 := lbs_hb (Rqs.of (ps.map (·.2)))
    refine ⟨a, C.w, [("box", .str b), ("heights", .tup (encH (hof ms))), ("rows", .tup (refs ps))], .tup (refs ps), rfl, updG_same, ⟨hc, h2⟩, rfl, ps.map (·.1), Rqs.of (ps.map (·.2)), by rw [em], (hR.mono li).ats, hz, hkd, 2, rfl, by decide, (Rqs.of (ps.map (·.2))).wt, O.wh 2, rfl, hw0.nf, Nat.le_trans hw0.dp (by decide), Nat.le_trans e1.dp (by decide), by (clear F F0 F1 F2 F3 mt hc h1 h0 h2 h3 nd hr hG hml hm5 hmd hpl hR hz hkd hq la lm hll em li hw0 e1; omega), Nat.le_trans e1.ln (by decide), a, C.w, [("box", .str b), ("heights", .tup (encH (hof ms))), ("rows", .tup (refs ps))], rfl, updG_same, ⟨hc, h3⟩, by simp, GLe.done (hq _ ?_ fun x hx => (updG_ne hx).trans ((updG_ne hx).trans ((updG_ne hx).trans (updG_ne hx))))⟩
    rw [updG_same, ← em]
    rfl

/-! the law's exponents and marks -/
structure Xok (o : O) : Prop where
  nf : o.NF
  dp : o.dp ≤ 3
  hw : O.hw o ≤ 3
  mx : O.mx o ≤ 10 ^ 20
theorem Xok.wh {n : Int} (h0 : 0 ≤ n) (h1 : n ≤ 10 ^ 20) : Xok (O.wh n) := by
  have x := Wb.wh h0
  have := x.mx
  exact ⟨x.nf, x.dp, Nat.le_trans x.hw (by decide), by (clear x; omega)⟩
/-- what a part is raised to -/
structure Tok' (o : O) : Prop where
  nf : o.NF
  dp : o.dp ≤ 2
  hw : O.hw o ≤ 2
  mx : O.mx o ≤ 1000
theorem Tok'.wh {n : Int} (h0 : 0 ≤ n) (h1 : n ≤ 1000) : Tok' (O.wh n) := by
  have x := Wb.wh h0
  have := x.mx
  refine ⟨x.nf, ?_, Nat.le_trans x.hw (by decide), by (clear x; omega)⟩
  by_cases e : n = 0
  · subst e; exact Nat.zero_le _
  · rw [O.wh_pos (by (clear x this; omega))]; show max (0 + 1) 0 ≤ 2; decide
theorem om_tok : Tok' om := ⟨om_nf, by decide, by decide, by decide⟩
theorem omp_tok {n : Int} (h0 : 0 ≤ n) (h1 : n ≤ 999) : Tok' (O.plusO om (O.wh n)) := by
  have x := Tok'.wh h0 (by omega)
  have y := Wb.wh h0
  have h2 := O.hw_plus om (O.wh n)
  have h3 := y.hw
  have h4 := O.mx_plus (b := O.wh n) om_nf
  have h5 := y.mx
  have h6 : O.mx om = 1 := by decide
  have h7 : O.hw om = 1 := by decide
  exact ⟨om_nf.plus x.nf, Nat.le_trans (O.dp_plus _ _) (Nat.max_le.mpr ⟨by decide, x.dp⟩), by (clear h0 h1 x y h4 h5 h6; omega), by (clear x y h2 h3 h7; omega)⟩
theorem Tok'.raised {o : O} (h : Tok' o) {n : Int} (h0 : 1 ≤ n) (h1 : n ≤ 10 ^ 9) : (O.c o n .z).NF ∧ (O.c o n .z).dp ≤ 3 ∧ O.hw (O.c o n .z) ≤ 2 ∧ O.mx (O.c o n .z) ≤ 10 ^ 9 ∧ (O.c o n .z).len = 1 := by
  have a := h.dp
  have b := h.hw
  have c := h.mx
  refine ⟨⟨h.nf, h0, trivial, trivial⟩, ?_, ?_, ?_, rfl⟩
  · show max (o.dp + 1) 0 ≤ 3; (clear h h0 h1 b c; omega)
  · rw [O.hw_c]; show max (0 + 1) (max (O.hw o) 0) ≤ 2; (clear h h0 h1 a c; omega)
  · rw [O.mx_c]; show max n (max (O.mx o) 0) ≤ _; (clear h a b; omega)
noncomputable def spEx : WSp := fun ws G q _ => ∃ n : Int, ws = [.int n] ∧ ∀ o : O, Xok o → q (.tup (encP o)) G
theorem scEx : FnScope ["_law_number", "_law_top", "_law_found"] ["_law_number"] (defScope (top 31)) := ⟨rfl, rfl, rfl, by decide +kernel, rfl, by decide +kernel, by decide +kernel⟩
theorem fnEx (F : Fun K "_law_exponent" "_law_exponent" (top 31) f fd) (F1 : Fx P w K mg base "whole" ["n"] 3 spWl) (F2 : Fx P w K mg base "endless" [] 4 spEn) (F3 : Fx P w K mg base "plus" ["a", "b"] 3 spPs) (F4 : Fx P w K mg base "raised" ["exponent", "times"] 2 spRs) : WFn P w K mg base 5 f fd ["_law_number"] spEx := by
  have nd := scEx.nd
  refine fn3 F scEx (fun ws G q e h => by obtain ⟨_, rfl, _⟩ := h; rfl) (fun cdv A outer s H E hr => ?_)
  apply bodyOf
  · exact (qss_cons (qs_if (qt_cmp (q_eqG hr) (qe_op q_mod (qe_var 0 rfl (.inl rfl)) qe_int) qe_int (nomark _)) (qss_cons (qs_ret (qe_fxn F1 (Room.mono hr (by omega)) rfl (qa_cons (qe_op q_mod (qe_op q_divB (qe_var 0 rfl (.inl rfl)) qe_int) qe_int) qa_nil))) qss_nil) qss_nil) (qss_cons (qs_if (qt_cmp (q_eqG hr) (qe_op q_mod (qe_var 0 rfl (.inl rfl)) qe_int) qe_int (nomark _)) (qss_cons (qs_ret (qe_fxn F1 (Room.mono hr (by omega)) rfl (qa_cons (qe_op q_mod (qe_op q_divB (qe_var 0 rfl (.inl rfl)) qe_int) (qe_op q_powB qe_int qe_int)) qa_nil))) qss_nil) qss_nil) (qss_cons (qs_set 1 nd rfl (.inl rfl) (qe_fxn F1 (Room.mono hr (by omega)) rfl (qa_cons (qe_op q_addS qe_int (qe_op q_mod (qe_op q_divB (qe_var 0 rfl (.inl rfl)) qe_int) qe_int)) qa_nil))) (qss_cons (qs_if (qt_cmp (q_eqG hr) (qe_op q_mod (qe_op q_divB (qe_var 0 rfl (.inl rfl)) qe_int) qe_int) qe_int (nomark _)) (qss_cons (qs_set 1 nd rfl (.inl rfl) (qe_fx0 F2 (Room.mono hr (by omega)) rfl)) qss_nil) qss_nil) (qss_cons (qs_if (qt_cmp (q_eqG hr) (qe_op q_mod (qe_op q_divB (qe_var 0 rfl (.inl rfl)) qe_int) qe_int) qe_int (nomark _)) (qss_cons (qs_set 1 nd rfl (.inl rfl) (qe_fxn F3 (Room.mono hr (by omega)) rfl (qa_cons (qe_fx0 F2 (Room.mono hr (by omega)) rfl) (qa_cons (qe_fxn F1 (Room.mono hr (by omega)) rfl (qa_cons (qe_op q_mod (qe_op q_divB (qe_var 0 rfl (.inl rfl)) qe_int) qe_int) qa_nil)) qa_nil)))) qss_nil) qss_nil) (qss_cons (qs_set 2 nd rfl (.inl rfl) (qe_fxn F4 (Room.mono hr (by omega)) rfl (qa_cons (qe_var 1 rfl (.inl rfl)) (qa_cons (qe_op q_addS qe_int (qe_op q_mod (qe_op q_divB (qe_var 0 rfl (.inl rfl)) qe_int) (qe_op q_powB qe_int qe_int))) qa_nil)))) (qss_cons (qs_if (qt_cmp (q_eqG hr) (qe_op q_mod (qe_var 0 rfl (.inl rfl)) qe_int) qe_int (nomark _)) (qss_cons (qs_ret (qe_fxn F3 (Room.mono hr (by omega)) rfl (qa_cons (qe_var 2 rfl (.inl rfl)) (qa_cons (qe_fxn F1 (Room.mono hr (by omega)) rfl (qa_cons (qe_op q_mod (qe_op q_divB (qe_var 0 rfl (.inl rfl)) qe_int) qe_int) qa_nil)) qa_nil)))) qss_nil) qss_nil) (qss_cons (qs_ret (qe_var 2 rfl (.inl rfl))) qss_nil))))))))
  · rintro ws G q e ⟨n, rfl, hq⟩
    have m5 : ∀ a : Int, 0 ≤ a % 5 ∧ a % 5 ≤ 10 ^ 20 := fun a => by (clear F F1 F2 F3 F4 nd hr hq; omega)
    have m20 : ∀ a : Int, 0 ≤ a % 10 ^ 20 ∧ a % 10 ^ 20 ≤ 10 ^ 20 := fun a => by (clear F F1 F2 F3 F4 nd hr hq m5; omega)
    refine seqU fun U hU => ?_
    walk_at "R"
    by_cases h4 : n % 4 = 0
    · rw [if_pos h4]
      have := m5 (n / 4)
      exact ⟨_, rfl, this.1, GLe.done (hq _ (.wh this.1 this.2))⟩
    rw [if_neg h4]
    subst hU
    refine seqU fun U hU => ?_
    walk_at "R"
    by_cases h1 : n % 4 = 1
    · rw [if_pos h1]
      have := m20 (n / 4)
      exact ⟨_, rfl, this.1, GLe.done (hq _ (.wh this.1 this.2))⟩
    rw [if_neg h1]
    subst hU
    refine seqU fun U hU => ?_
    walk_at "R"
    refine ⟨_, rfl, by (clear F F1 F2 F3 F4 nd hr hq m5 m20 h4 h1 hU; omega), ?_⟩
    have t1 : Tok' (O.wh (1 + n / 4 % 3)) := .wh (by (clear F F1 F2 F3 F4 nd hr hq m5 m20 h4 h1 hU; omega)) (by (clear F F1 F2 F3 F4 nd hr hq m5 m20 h4 h1 hU; omega))
    generalize O.wh (1 + n / 4 % 3) = x1 at t1
    subst hU
    refine seqU fun U hU => ?_
    walk_at "R"
    have key : ∀ x, Tok' x → U { nx := fun _ G1 => ∃ G0, GLe G0 G1 ∧ q W.non G0, rt := fun w G1 => ∃ G0, GLe G0 G1 ∧ q w G0 } [some (.int n), some (.tup (encP x)), none] G := fun x hx => by
      subst hU
      refine seqU fun U hU => ?_
      walk_at "R"
      have key2 : ∀ x, Tok' x → U { nx := fun _ G1 => ∃ G0, GLe G0 G1 ∧ q W.non G0, rt := fun w G1 => ∃ G0, GLe G0 G1 ∧ q w G0 } [some (.int n), some (.tup (encP x)), none] G := fun x hx => by
        subst hU
        refine seqU fun U hU => ?_
        walk_at "R"
        refine ⟨x, _, rfl, by (clear F F1 F2 F3 F4 nd hr hq m5 m20 h4 h1 t1 hx hU; omega), ?_⟩
        obtain ⟨a1, a2, a3, a4, a5⟩ := hx.raised (n := 1 + n / 36000 % 1000000000) (by (clear F F1 F2 F3 F4 nd hr hq m5 m20 h4 h1 t1 hx hU; omega)) (by (clear F F1 F2 F3 F4 nd hr hq m5 m20 h4 h1 t1 hx hU; omega))
        rw [if_neg (by (clear F F1 F2 F3 F4 nd hr hq m5 m20 h4 h1 t1 hx hU a1 a2 a3 a4 a5; omega))]
        generalize O.c x (1 + n / 36000 % 1000000000) .z = y at a1 a2 a3 a4 a5
        subst hU
        refine seqU fun U hU => ?_
        walk_at "R"
        by_cases h2 : n % 4 = 2
        · rw [if_pos h2]
          have w1 := Wb.wh (n := n / 36 % 7) (by (clear F F1 F2 F3 F4 nd hr hq m5 m20 h4 h1 t1 hx a1 a2 a3 a4 a5 hU h2; omega))
          have w2 := w1.ln
          have w3 := w1.dp
          have w4 := w1.mx
          have w5 := w1.hw
          have b2 := O.hw_plus y (O.wh (n / 36 % 7))
          have b1 := O.mx_plus (b := O.wh (n / 36 % 7)) a1
          refine ⟨_, rfl, by (clear F F1 F2 F3 F4 nd hr hq m5 m20 h4 h1 t1 hx a1 a2 a3 a4 a5 hU h2 w1 w2 w3 w4 w5 b2 b1; omega), y, O.wh (n / 36 % 7), rfl, a1, by exact Nat.le_trans (by assumption) (Nat.le_of_ble_eq_true rfl), by exact Nat.le_trans (by assumption) (Nat.le_of_ble_eq_true rfl), by (clear F F1 F2 F3 F4 nd hr hq m5 m20 h4 h1 t1 hx a1 a2 a3 a4 hU h2 w1 w2 w3 w4 w5 b2 b1; omega), by exact Nat.le_trans (by assumption) (Nat.le_of_ble_eq_true rfl), GLe.done (hq _ ⟨a1.plus w1.nf, Nat.le_trans (O.dp_plus _ _) (Nat.max_le.mpr ⟨a2, w3⟩), by (clear F F1 F2 F3 F4 nd hr hq m5 m20 h4 h1 t1 hx a1 a2 a4 a5 hU h2 w1 w2 w3 w4 b1; omega), by (clear F F1 F2 F3 F4 nd hr hq m5 m20 h4 h1 t1 hx a1 a2 a3 a5 hU h2 w1 w2 w3 w5 b2; omega)⟩)⟩
        · rw [if_neg h2]
          subst hU
          walk_at "R"
          exact GLe.done (hq _ ⟨a1, a2, by exact Nat.le_trans (by assumption) (Nat.le_of_ble_eq_true rfl), by (clear F F1 F2 F3 F4 nd hr hq m5 m20 h4 h1 t1 hx a1 a2 a3 a5 h2; omega)⟩)
      by_cases h5 : n / 12 % 3 = 2
      · rw [if_pos h5]
        have w1 := Wb.wh (n := n / 36 % 1000) (by (clear F F1 F2 F3 F4 nd hr hq m5 m20 h4 h1 t1 hx hU key2 h5; omega))
        exact ⟨rfl, _, rfl, by (clear F F1 F2 F3 F4 nd hr hq m5 m20 h4 h1 t1 hx hU key2 h5 w1; omega), om, O.wh (n / 36 % 1000), rfl, om_nf, by decide, Nat.le_trans w1.dp (by decide), by decide, Nat.le_trans w1.ln (by decide), key2 _ (omp_tok (by (clear F F1 F2 F3 F4 nd hr hq m5 m20 h4 h1 t1 hx hU key2 h5 w1; omega)) (by (clear F F1 F2 F3 F4 nd hr hq m5 m20 h4 h1 t1 hx hU key2 h5 w1; omega)))⟩
      · rw [if_neg h5]
        exact key2 x hx
    by_cases h3 : n / 12 % 3 = 1
    · rw [if_pos h3]
      exact ⟨rfl, key _ om_tok⟩
    · rw [if_neg h3]
      exact key _ t1

/-- letters -/
theorem letter_at (k : Int) : ∃ c, atI (Str.ofString "abcd").cps.toList (k % 4) = some c := by
  have h : k % 4 = 0 ∨ k % 4 = 1 ∨ k % 4 = 2 ∨ k % 4 = 3 := by omega
  rcases h with h | h | h | h <;> rw [h] <;> exact ⟨_, rfl⟩
noncomputable def letter (k : Int) : Str := match atI (Str.ofString "abcd").cps.toList (k % 4) with
  | some c => ⟨#[c]⟩
  | none => "a"
theorem letter_is {k : Int} {c : Nat} (h : atI (Str.ofString "abcd").cps.toList (k % 4) = some c) : letter k = ⟨#[c]⟩ := by
  unfold letter
  rw [h]
/-- the law's marks -/
noncomputable def Mks (ms : List (O × Str)) : Prop := ms.length ≤ 3 ∧ ∀ m, m ∈ ms → Xok m.1
noncomputable def spMk : WSp := fun ws G q _ => ∃ c : Int, ws = [.int c] ∧ ∀ (p : Addr) (G' : Gp) (ms : List (O × Str)), GLe G G' → G p = none → G' p = some (.lst (encM ms)) → Mks ms → q (.ref p) G'
theorem scMk : FnScope ["_law_cell", "_law_marks_here", "_law_k", "_law_number"] ["_law_cell"] (defScope (top 32)) := ⟨rfl, rfl, rfl, by decide +kernel, rfl, by decide +kernel, by decide +kernel⟩
theorem fnMk (F : Fun K "_law_marks" "_law_marks" (top 32) f fd) (F1 : Fx P w K mg base "_law_exponent" ["_law_number"] 5 spEx) (mr : mg "range" = none) : WFn P w K mg base 6 f fd ["_law_cell"] spMk := by
  have nd := scMk.nd
  refine fn3 F scMk (fun ws G q e h => by obtain ⟨_, rfl, _⟩ := h; rfl) (fun cdv A outer s H E hr => ?_)
  apply bodyOf
  · exact (qss_cons (qs_set 1 nd rfl (.inl rfl) (qe_lst qa_nil)) (qss_cons (qs_for PySem.PassesOwn.never rfl (qi_range rfl mr (qa_cons (qe_op q_mod (qe_var 0 rfl (.inl rfl)) qe_int) qa_nil)) (qg_name 2 nd rfl (.inl rfl)) (qss_cons (qs_set 3 nd rfl (.inl rfl) (qe_op q_mod (qe_op q_mulS (qe_op q_divB (qe_var 0 rfl (.inl rfl)) qe_int) qe_int) (qe_ix q_ixD (qe_lst (qa_cons (qe_op q_addS (qe_op q_powB qe_int qe_int) qe_int) (qa_cons qe_int (qa_cons qe_int qa_nil)))) (qe_var 2 rfl (.inl rfl)) (fun _ _ => rfl)))) (qss_cons (qs_expr (qe_app (qe_var 1 rfl (.inl rfl)) (qe_tup (qa_cons (qe_fxn F1 (Room.mono hr (by omega)) rfl (qa_cons (qe_var 3 rfl (.inl rfl)) qa_nil)) (qa_cons (qe_ix q_ixD qe_str (qe_op q_mod (qe_op q_divB (qe_var 3 rfl (.inl rfl)) qe_int) qe_int) (fun _ _ => rfl)) qa_nil))))) qss_nil))) (qss_cons (qs_ret (qe_var 1 rfl (.inl rfl))) qss_nil)))
  · rintro ws G q e ⟨c, rfl, hq⟩
    refine seqU fun U hU => ?_
    walk_at "R"
    intro p hp
    subst hU
    refine seqU fun U hU => ?_
    walk_at "R"
    refine ⟨by omega, by omega, ?_⟩
    have hn : (c % 4).toNat ≤ 3 := by (clear F F1 mr nd hr hq hp hU; omega)
    refine loop_up _ (fun (i : Nat) (τ : WSt) (G' : Gp) => ∃ (ms : List (O × Str)) (t1 t2 : Option W), τ = [some (.int c), some (.ref p), t1, t2] ∧ ms.length = i ∧ (∀ m, m ∈ ms → Xok m.1) ∧ G' p = some (.lst (encM ms)) ∧ GLe G G') ⟨[], none, none, rfl, rfl, fun _ h => (nomatch h), updG_same, GLe.new hp⟩ ?_ ?_
    · rintro τ G' ⟨ms, t1, t2, rfl, h1, h2, h3, h4⟩
      refine ⟨trivial, ?_⟩
      subst hU
      walk_at "R"
      exact GLe.done (hq p G' ms h4 hp h3 ⟨by (clear F F1 mr nd hr hq hp h2 h3 h4; omega), h2⟩)
    · rintro i τ G' k hi ⟨ms, t1, t2, rfl, h1, h2, h3, h4⟩ hk
      refine ⟨trivial, ?_⟩
      have hi3 : i < 3 := by (clear F F1 mr nd hr hq hp hU h2 h3 h4 hk; omega)
      refine seqU fun U hU => ?_
      walk_at "R"
      intro p1 hp1
      have hm : ∃ m : Int, atI [W.int (1000000000000000000000000000000 + 57), .int 2147483647, .int 1000000007] (i : Int) = some (.int m) ∧ 0 < m := by
        have h : i = 0 ∨ i = 1 ∨ i = 2 := by (clear F F1 mr nd hr hq hp hn hi h2 h3 h4 hk hU hp1; omega)
        rcases h with rfl | rfl | rfl
        · exact ⟨_, rfl, by decide⟩
        · exact ⟨_, rfl, by decide⟩
        · exact ⟨_, rfl, by decide⟩
      obtain ⟨m, hm1, hm2⟩ := hm
      refine ⟨_, .int m, updG_same, hm1, ?_⟩
      have n1 : p ≠ p1 := fun z => by rw [← z, h3] at hp1; cases hp1
      have h3' := (updG_ne (g := GO.lst [W.int (1000000000000000000000000000000 + 57), W.int 2147483647, W.int 1000000007]) n1).trans h3
      have h4' := h4.trans (GLe.new (g := GO.lst [W.int (1000000000000000000000000000000 + 57), W.int 2147483647, W.int 1000000007]) hp1)
      simp only [vMod]
      refine ⟨by assumption, ?_⟩
      subst hU
      walk_at "R"
      generalize (c / 4 * 48271) % m = v
      obtain ⟨x, hx⟩ := letter_at (v / 5)
      refine ⟨⟨_, h3'⟩, v, rfl, fun o ho => ?_⟩
      refine ⟨by decide +kernel, x, hx, _, h3', by rw [List.length_map]; (clear F F1 mr nd hr hq hp hU hn hi h2 h3 h4 hk hp1 hm1 hm2 n1 h3' h4' hx ho; omega), hk _ _ ⟨ms ++ [(o, ⟨#[x]⟩)], _, _, rfl, by rw [List.length_append, h1]; rfl, fun m hm => ?_, ?_, fun a g e => ?_⟩⟩
      · rcases List.mem_append.mp hm with hm | hm
        · exact h2 m hm
        · rw [List.mem_singleton.mp hm]; exact ho
      · rw [updG_same]
        simp only [encM, List.map_append, List.map_cons, List.map_nil]
      · rw [updG_ne (fun z => by rw [z, hp] at e; cases e)]
        exact h4' _ _ e

/-! the law's things, and the rows that are made of them -/
noncomputable def plainR (c n : Int) : Row := if c % 4 = 0 then .set "a" n else if c % 4 = 1 then .copy "b" "c" else if c % 4 = 2 then .add "c" "c" else .less "d"
mutual
inductive Th (G : Gp) : W → Row → Prop where
  | plain {c n : Int} : Th G (.tup [.str "plain", .int c, .int n]) (plainR c n)
  | times {l : Addr} {k : Int} {ws : List W} {rs : Rqs Str} (h : G l = some (.lst ws)) (hs : Ths G ws rs) : Th G (.tup [.str "times", .ref l, .int k]) (.times (letter k) rs)
  | whl {l m : Addr} {ms : List (O × Str)} {ws : List W} {rs : Rqs Str} (h : G l = some (.lst ws)) (hm : G m = some (.lst (encM ms))) (ok : Mks ms) (hs : Ths G ws rs) : Th G (.tup [.str "while", .ref l, .ref m]) (.whl "a" (hof ms) rs)
inductive Ths (G : Gp) : List W → Rqs Str → Prop where
  | nil : Ths G [] .nil
  | cons {w : W} {ws : List W} {r : Row} {rs : Rqs Str} (h : Th G w r) (hs : Ths G ws rs) : Ths G (w :: ws) (.cons r rs)
end
noncomputable def LsLe (G G' : Gp) : Prop := ∀ a ws, G a = some (.lst ws) → G' a = some (.lst ws)
theorem GLe.ls {G G' : Gp} (h : GLe G G') : LsLe G G' := fun _ _ e => h _ _ e
mutual
theorem Th.mono {G G' : Gp} (l : LsLe G G') : ∀ {w : W} {r : Row}, Th G w r → Th G' w r
  | _, _, .plain => .plain
  | _, _, .times h hs => .times (l _ _ h) (Ths.mono l hs)
  | _, _, .whl h hm ok hs => .whl (l _ _ h) (l _ _ hm) ok (Ths.mono l hs)
theorem Ths.mono {G G' : Gp} (l : LsLe G G') : ∀ {ws : List W} {rs : Rqs Str}, Ths G ws rs → Ths G' ws rs
  | _, _, .nil => .nil
  | _, _, .cons h hs => .cons (Th.mono l h) (Ths.mono l hs)
end
noncomputable abbrev tws (ps : List (W × Row)) : List W := ps.map (·.1)
noncomputable abbrev trs (ps : List (W × Row)) : List Row := ps.map (·.2)
noncomputable def Things (G : Gp) (ps : List (W × Row)) : Prop := ∀ p, p ∈ ps → Th G p.1 p.2
theorem Things.mono {G G' : Gp} {ps : List (W × Row)} (h : Things G ps) (l : LsLe G G') : Things G' ps := fun p hp => (h p hp).mono l
theorem Ths.ps {G : Gp} : ∀ {ws : List W} {rs : Rqs Str}, Ths G ws rs → ∃ ps, ws = tws ps ∧ rs.L = trs ps ∧ Things G ps
  | _, _, .nil => ⟨[], rfl, rfl, fun _ h => (nomatch h)⟩
  | _, _, .cons (w := a) (r := r) h hs => by
    obtain ⟨ps, h1, h2, h3⟩ := Ths.ps hs
    refine ⟨(a, r) :: ps, by rw [h1]; rfl, by rw [Rqs.L, h2]; rfl, fun p hp => ?_⟩
    rcases List.mem_cons.mp hp with rfl | hp
    · exact h
    · exact h3 p hp
theorem Things.ths {G : Gp} : ∀ {ps : List (W × Row)}, Things G ps → Ths G (tws ps) (Rqs.of (trs ps))
  | [], _ => .nil
  | p :: ps, h => .cons (h p List.mem_cons_self) (Things.ths fun x hx => h x (List.mem_cons_of_mem _ hx))
/-! how great they are -/
mutual
noncomputable def stt : Row → Prop
  | .times _ rs => stts rs ∧ rs.L.length ≤ 3
  | .whl _ hs rs => stts rs ∧ rs.L.length ≤ 3 ∧ ∃ ms, Mks ms ∧ hs = hof ms
  | .count _ _ => False
  | .bear _ _ _ _ => False
  | _ => True
noncomputable def stts : Rqs Str → Prop
  | .nil => True
  | .cons r rs => stt r ∧ stts rs
end
mutual
noncomputable def tz : Row → Nat
  | .times _ rs => tzs rs + 1
  | .whl _ _ rs => tzs rs + 1
  | _ => 1
noncomputable def tzs : Rqs Str → Nat
  | .nil => 0
  | .cons r rs => tzs rs + tz r
end
theorem stts_mem : ∀ {rs : Rqs Str}, stts rs → ∀ r, r ∈ rs.L → stt r
  | .nil, _, r, h => (nomatch h)
  | .cons r0 rs, x, r, h => by
    rcases List.mem_cons.mp h with rfl | h
    · exact x.1
    · exact stts_mem x.2 r h
theorem stts_of : ∀ {rs : List Row}, (∀ r, r ∈ rs → stt r) → stts (Rqs.of rs)
  | [], _ => trivial
  | r :: rs, h => ⟨h r List.mem_cons_self, stts_of fun x hx => h x (List.mem_cons_of_mem _ hx)⟩
theorem dt_mem : ∀ {rs : Rqs Str} {k : Nat}, rs.dt ≤ k → ∀ r, r ∈ rs.L → r.dt ≤ k
  | .nil, _, _, r, h => (nomatch h)
  | .cons r0 rs, k, x, r, h => by
    have hx := Nat.max_le.mp (show max r0.dt rs.dt ≤ k from x)
    rcases List.mem_cons.mp h with rfl | h
    · exact hx.1
    · exact dt_mem hx.2 r h
theorem dt_of : ∀ {rs : List Row} {k : Nat}, (∀ r, r ∈ rs → r.dt ≤ k) → (Rqs.of rs).dt ≤ k
  | [], _, _ => Nat.zero_le _
  | r :: rs, k, h => Nat.max_le.mpr ⟨h r List.mem_cons_self, dt_of fun x hx => h x (List.mem_cons_of_mem _ hx)⟩
theorem tz_mem : ∀ {rs : Rqs Str} (r : Row), r ∈ rs.L → tz r ≤ tzs rs
  | .nil, r, h => (nomatch h)
  | .cons r0 rs, r, h => by
    rcases List.mem_cons.mp h with rfl | h
    · exact Nat.le_add_left _ _
    · exact Nat.le_trans (tz_mem r h) (Nat.le_add_right _ _)
theorem tzs_sum : ∀ rs : List Row, tzs (Rqs.of rs) = (rs.map tz).sum
  | [] => rfl
  | r :: rs => by
    show tzs (Rqs.of rs) + tz r = tz r + (rs.map tz).sum
    rw [tzs_sum rs]; omega
theorem mks_hs {ms : List (O × Str)} (h : Mks ms) : Eok 3 (hof ms) ∧ O.hw (hpw (hof ms)) ≤ 5 ∧ O.mx (hpw (hof ms)) ≤ 10 ^ 31 := by
  have hx : ∀ p, p ∈ hof ms → Xok p.1 := fun p hp => by
    obtain ⟨m, hm, e⟩ := List.mem_map.mp (hof_mem hp)
    rw [← e]
    exact h.2 m hm
  refine ⟨fun p hp => ?_, ?_⟩
  · have y := hx p hp
    have := y.hw
    exact ⟨y.nf, y.dp, by exact Nat.le_trans (by assumption) (Nat.le_of_ble_eq_true rfl)⟩
  · generalize hof ms = hs at hx
    cases hs with
    | nil => exact ⟨by decide, by decide⟩
    | cons p hs =>
      have y := hx p List.mem_cons_self
      have e1 := Wb.wh (n := 1) (by decide)
      have a1 := O.hw_plus p.1 (O.wh 1)
      have a2 := O.mx_plus (b := O.wh 1) y.nf
      have a3 := y.hw
      have a4 := y.mx
      have a5 := e1.hw
      have a6 := e1.mx
      have a7 : ((Int.toNat 1 : Nat) : Int) = 1 := rfl
      constructor
      · show O.hw (.c (O.plusO p.1 (O.wh 1)) 1 .z) ≤ 5
        rw [O.hw_c]
        show max (0 + 1) (max (O.hw (O.plusO p.1 (O.wh 1))) 0) ≤ 5
        (clear h hx y e1 a2 a4 a6 a7; omega)
      · show O.mx (.c (O.plusO p.1 (O.wh 1)) 1 .z) ≤ 10 ^ 31
        rw [O.mx_c]
        show max 1 (max (O.mx (O.plusO p.1 (O.wh 1))) 0) ≤ 10 ^ 31
        (clear h hx y e1 a1 a3 a5; omega)
noncomputable def BB : Nat := 10 ^ 32
theorem BB_pos (k : Nat) : 1 ≤ BB ^ k := Nat.one_le_pow _ _ (by unfold BB; omega)
theorem grow {t m X d : Nat} (h : m ≤ 4 * t * BB ^ d) (hX : X + 2 ≤ BB) : (m + 3) * (X + 1) + 1 ≤ 4 * (t + 1) * BB ^ (d + 1) := by
  have h1 : (m + 3) * (X + 1) ≤ (4 * t * BB ^ d + 3) * (X + 1) := Nat.mul_le_mul_right _ (by (clear hX; omega))
  have h2 : (4 * t * BB ^ d + 3) * (X + 1) = 4 * t * BB ^ d * (X + 1) + 3 * (X + 1) := Nat.add_mul ..
  have h3 : 4 * t * BB ^ d * (X + 1) ≤ 4 * t * BB ^ d * BB := Nat.mul_le_mul_left _ (by (clear h h1 h2; omega))
  have h4 : 4 * (t + 1) * BB ^ (d + 1) = 4 * t * BB ^ d * BB + 4 * (BB ^ d * BB) := by
    rw [Nat.pow_succ, Nat.mul_add, Nat.add_mul, Nat.mul_one]
    congr 1
    exact (Nat.mul_assoc ..).symm
  have h5 : 1 * BB ≤ BB ^ d * BB := Nat.mul_le_mul_right _ (BB_pos d)
  (clear h; omega)
mutual
theorem stt_b : ∀ r : Row, stt r → r.nn ∧ r.hb ≤ 7 * tz r ∧ r.mb ≤ 4 * tz r * BB ^ r.dt
  | .set _ _, _ => ⟨trivial, by show 1 ≤ 7 * 1; decide, by show 1 ≤ 4 * 1 * BB ^ 0; decide⟩
  | .copy _ _, _ => ⟨trivial, by show 1 ≤ 7 * 1; decide, by show 1 ≤ 4 * 1 * BB ^ 0; decide⟩
  | .add _ _, _ => ⟨trivial, by show 1 ≤ 7 * 1; decide, by show 1 ≤ 4 * 1 * BB ^ 0; decide⟩
  | .less _, _ => ⟨trivial, by show 1 ≤ 7 * 1; decide, by show 1 ≤ 4 * 1 * BB ^ 0; decide⟩
  | .times _ rs, h => by
    obtain ⟨h1, h2, h3⟩ := stts_b rs h.1
    refine ⟨h1, by show rs.hb + 2 ≤ 7 * (tzs rs + 1); (clear h h1 h3; omega), ?_⟩
    have h4 := grow (X := 1) h3 (by unfold BB; (clear h h1 h2 h3; omega))
    show (rs.mb + 2) * 2 ≤ 4 * (tzs rs + 1) * BB ^ (rs.dt + 1)
    (clear h h1 h2 h3; omega)
  | .whl _ hs rs, h => by
    obtain ⟨h1, h2, h3⟩ := stts_b rs h.1
    obtain ⟨_, _, ms, hm, rfl⟩ := h
    obtain ⟨m1, m2, m3⟩ := mks_hs hm
    refine ⟨⟨h1, m1⟩, by show rs.hb + O.hw (hpw (hof ms)) + 2 ≤ 7 * (tzs rs + 1); (clear h1 h3 hm m1 m3; omega), ?_⟩
    exact grow (X := (O.mx (hpw (hof ms))).toNat) h3 (by unfold BB; (clear h1 h2 h3 hm m1 m2; omega))
theorem stts_b : ∀ rs : Rqs Str, stts rs → rs.nn ∧ rs.hb ≤ 7 * tzs rs ∧ rs.mb ≤ 4 * tzs rs * BB ^ rs.dt
  | .nil, _ => ⟨trivial, Nat.zero_le _, Nat.zero_le _⟩
  | .cons r rs, h => by
    obtain ⟨a1, a2, a3⟩ := stt_b r h.1
    obtain ⟨b1, b2, b3⟩ := stts_b rs h.2
    refine ⟨⟨a1, b1⟩, by show rs.hb + r.hb ≤ 7 * (tzs rs + tz r); (clear h a1 a3 b1 b3; omega), ?_⟩
    show rs.mb + r.mb ≤ 4 * (tzs rs + tz r) * BB ^ (max r.dt rs.dt)
    have p1 : BB ^ r.dt ≤ BB ^ (max r.dt rs.dt) := Nat.pow_le_pow_right (by unfold BB; (clear h a1 a2 a3 b1 b2 b3; omega)) (Nat.le_max_left _ _)
    have p2 : BB ^ rs.dt ≤ BB ^ (max r.dt rs.dt) := Nat.pow_le_pow_right (by unfold BB; (clear h a1 a2 a3 b1 b2 b3 p1; omega)) (Nat.le_max_right _ _)
    have q1 := Nat.mul_le_mul_left (4 * tz r) p1
    have q2 := Nat.mul_le_mul_left (4 * tzs rs) p2
    rw [Nat.mul_add, Nat.add_mul]
    (clear h a1 a2 b1 b2 p1 p2; omega)
end
theorem stts_sz {rs : Rqs Str} (h : stts rs) (h1 : tzs rs ≤ 40) (h2 : rs.dt ≤ 4) : Szs rs := by
  obtain ⟨a1, a2, a3⟩ := stts_b rs h
  refine ⟨a1, by (clear h h2 a1 a3; omega), ?_⟩
  have p := Nat.pow_le_pow_right (n := BB) (by unfold BB; (clear h h1 h2 a1 a2 a3; omega)) h2
  have q := Nat.mul_le_mul (show 4 * tzs rs ≤ 160 by (clear h h2 a1 a2 a3 p; omega)) p
  have e : 160 * BB ^ 4 ≤ 10 ^ 300 := by unfold BB; decide +kernel
  exact Int.ofNat_le.mpr (Nat.le_trans a3 (Nat.le_trans q e))
theorem stt_kd : ∀ r : Row, stt r → kd r < 6
  | .set _ _, _ => by show 0 < 6; decide
  | .copy _ _, _ => by show 1 < 6; decide
  | .add _ _, _ => by show 2 < 6; decide
  | .less _, _ => by show 3 < 6; decide
  | .times _ _, _ => by show 4 < 6; decide
  | .whl _ _ _, _ => by show 5 < 6; decide
theorem stts_kds {rs : Rqs Str} (h : stts rs) : Kds 6 rs := fun r hr => stt_kd r (stts_mem h r hr)
theorem plain_ok (c n : Int) : stt (plainR c n) ∧ tz (plainR c n) = 1 ∧ (plainR c n).dt = 0 ∧ (plainR c n).wt = O.wh 1 := by
  unfold plainR
  split
  · exact ⟨trivial, rfl, rfl, rfl⟩
  · split
    · exact ⟨trivial, rfl, rfl, rfl⟩
    · split
      · exact ⟨trivial, rfl, rfl, rfl⟩
      · exact ⟨trivial, rfl, rfl, rfl⟩
/-! how deep -/
noncomputable def spDp (d : Nat) : WSp := fun ws G q _ => ∃ (x : W) (r : Row), ws = [x] ∧ Th G x r ∧ stt r ∧ r.dt < d ∧ q (.int (r.dt : Nat)) G
theorem scDp : FnScope ["_law_thing"] ["_law_thing"] (defScope (top 33)) := ⟨rfl, rfl, rfl, by decide +kernel, rfl, by decide +kernel, by decide +kernel⟩
theorem dt_out {rs : List Row} {q : Int → Prop} (hq : q ((Rqs.of rs).dt : Nat)) : ((rs.map fun r => ((r.dt : Nat) : Int)) = [] → q 0) ∧ ∀ m : Int, m ∈ (rs.map fun r => ((r.dt : Nat) : Int)) → (∀ x, x ∈ (rs.map fun r => ((r.dt : Nat) : Int)) → x ≤ m) → q m := by
  constructor
  · intro h
    have : rs = [] := by simpa using h
    subst this
    exact hq
  · intro m hm hx
    obtain ⟨r, hr, rfl⟩ := List.mem_map.mp hm
    have h1 : (Rqs.of rs).dt ≤ r.dt := dt_of fun x hx' => Int.ofNat_le.mp (hx _ (List.mem_map.mpr ⟨x, hx', rfl⟩))
    have h2 : r.dt ≤ (Rqs.of rs).dt := dt_mem (Nat.le_refl _) r (by rw [Rqs.L_of]; exact hr)
    rw [show (r.dt : Nat) = (Rqs.of rs).dt from Nat.le_antisymm h2 h1]
    exact hq
/-- a thing with a body -/
theorem Th.body {G : Gp} {x : W} {r : Row} (h : Th G x r) (hs : stt r) : (∃ c n, x = .tup [.str "plain", .int c, .int n] ∧ r = plainR c n) ∨ ∃ (k : Str) (l : Addr) (y : W) (ps : List (W × Row)), x = .tup [.str k, .ref l, y] ∧ (k = "times" ∨ k = "while") ∧ G l = some (.lst (tws ps)) ∧ Things G ps ∧ stts (Rqs.of (trs ps)) ∧ ps.length ≤ 3 ∧ r.dt = (Rqs.of (trs ps)).dt + 1 := by
  cases h with
  | plain => exact .inl ⟨_, _, rfl, rfl⟩
  | times h hs' =>
    obtain ⟨ps, rfl, hL, hT⟩ := hs'.ps
    rename_i l k rs
    have e : Rqs.of (trs ps) = rs := by rw [← hL, Rqs.of_L]
    refine .inr ⟨_, _, _, ps, rfl, .inl rfl, h, hT, by rw [e]; exact hs.1, ?_, by rw [e]; rfl⟩
    have := hs.2
    rw [hL, List.length_map] at this
    exact this
  | whl h hm ok hs' =>
    obtain ⟨ps, rfl, hL, hT⟩ := hs'.ps
    rename_i l m ms rs
    have e : Rqs.of (trs ps) = rs := by rw [← hL, Rqs.of_L]
    refine .inr ⟨_, _, _, ps, rfl, .inr rfl, h, hT, by rw [e]; exact hs.1, ?_, by rw [e]; rfl⟩
    have := hs.2.1
    rw [hL, List.length_map] at this
    exact this
theorem fnDp {d k : Nat} (F : Fun K "_law_deep" "_law_deep" (top 33) f fd) (F0 : Fx P w K mg base "_law_deep" ["_law_thing"] k (spDp d)) (mm : mg "max" = none) : WFn P w K mg base (k + 1) f fd ["_law_thing"] (spDp (d + 1)) := by
  have nd := scDp.nd
  refine fn3 F scDp (fun ws G q e h => by obtain ⟨_, _, rfl, _⟩ := h; rfl) (fun cdv A outer s H E hr => ?_)
  apply bodyOf
  · exact (qss_cons (qs_if (qt_cmp (q_eqG hr) (qe_ix q_ixD (qe_var 0 rfl (.inl rfl)) qe_int (fun _ _ => rfl)) qe_str (nomark _)) (qss_cons (qs_ret qe_int) qss_nil) qss_nil) (qss_cons (qs_ret (qe_op q_addS qe_int (qe_maxD rfl rfl mm (qe_comp (compSc (by first | rfl | decide +kernel)) rfl (qi_seqS (qe_ix q_ixD (qe_var 0 rfl (.inl rfl)) qe_int (fun _ _ => rfl))) (fun _ _ _ _ => (qg_nameB 1 (by first | assumption | decide +kernel | rfl) rfl (.inl rfl))) (fun _ _ _ _ => qts_nil) (fun _ _ _ _ => (qe_fxn F0 (Room.mono hr (by omega)) rfl (qa_cons (qe_var 1 rfl (.inl rfl)) qa_nil))))))) qss_nil))
  · rintro ws G q e ⟨x, r, rfl, hx, hs, hd, hq⟩
    rcases hx.body hs with ⟨c, n, rfl, rfl⟩ | ⟨k, l, y, ps, rfl, hk, h, hT, hst, hl3, hdt⟩
    · rw [(plain_ok c n).2.2.1] at hq
      walk_at "R"
      exact GLe.done hq
    · have hd' : (Rqs.of (trs ps)).dt < d := by (clear F F0 mm nd hr hs hq hx hk h hT hst hl3; omega)
      have kn : ¬ k = Str.ofString "plain" := by rcases hk with rfl | rfl <;> decide +kernel
      refine seqU fun U hU => ?_
      walk_at "R"
      rw [if_neg kn]
      subst hU
      walk_at "R"
      refine ⟨_, h, comp_by (i := 1) (fun p : W × Row => p.1) (fun p => .int ((p.2.dt : Nat) : Int)) (τ0 := [none, none, none]) h (fun p hp k hk => ?_) (by show 0 + _ ≤ _; (clear F F0 mm nd hr hs hd hq hx hk h hT hst hdt hd' kn; omega)) (fun _ => rfl) fun p hp => ?_⟩
      · walk_at "R"
        have hm : p.2 ∈ (Rqs.of (trs ps)).L := by rw [Rqs.L_of]; exact List.mem_map.mpr ⟨p, hp, rfl⟩
        exact ⟨p.1, p.2, rfl, hT p hp, stts_mem hst _ hm, Nat.lt_of_le_of_lt (dt_mem (Nat.le_refl _) _ hm) hd', hk⟩
      · refine ⟨(trs ps).map fun r => ((r.dt : Nat) : Int), ?_, ?_⟩
        · rw [updG_same, List.nil_append]
          simp only [List.map_map]
          rfl
        · refine dt_out (rs := trs ps) (q := fun m => ∃ G0, GLe G0 (updG G p (GO.lst ([] ++ List.map (fun p => W.int ((p.2.dt : Nat) : Int)) ps))) ∧ q (W.int (1 + m)) G0) ⟨G, GLe.new hp, ?_⟩
          have : (r.dt : Int) = 1 + ((Rqs.of (trs ps)).dt : Int) := by (clear F F0 mm nd hr hs hd hq hx hk h hT hst hl3 hd' kn hp; omega)
          rw [this] at hq
          exact hq
theorem fxDp (T : Txt K mg) : ∀ d : Nat, Fx P w K mg base "_law_deep" ["_law_thing"] d (spDp d)
  | 0 => T.d__law_deep.fx fun f fd F => WFn.none fun ws G q e ⟨t, _, _, _, _, h, _⟩ => by (clear T F; omega)
  | d + 1 => T.d__law_deep.fx fun f fd F => fnDp F (fxDp T d) T.z_max

noncomputable def tsum (ps : List (W × Row)) : Nat := ((trs ps).map tz).sum
noncomputable def Stt (ps : List (W × Row)) : Prop := ∀ x, x ∈ ps → stt x.2 ∧ x.2.dt ≤ 4
noncomputable def spRo : WSp := fun ws G q _ => ∃ (pc : Addr) (ns : List Int), ws = [.ref pc] ∧ G pc = some (.lst (ns.map W.int)) ∧ ns.length ≤ 40 ∧
  ∀ (p : Addr) (ps : List (W × Row)) (G' : Gp), GLe G G' → G p = none → G' p = some (.lst (tws ps)) → Things G' ps → Stt ps → ps.length ≤ 40 → tsum ps ≤ 40 → q (.ref p) G'
theorem scRo : FnScope ["_law_cells", "_law_rows_here", "_law_cell", "_law_many", "_law_body", "_law_inside"] ["_law_cells"] (defScope (top 34)) := ⟨rfl, rfl, rfl, by decide +kernel, rfl, by decide +kernel, by decide +kernel⟩
theorem tsum_cut (ps : List (W × Row)) (m : Nat) : tsum (ps.take m) + tsum (ps.drop m) = tsum ps := by
  unfold tsum trs
  rw [← List.sum_append, ← List.map_append, ← List.map_append, List.take_append_drop]
theorem tsum_of (ps : List (W × Row)) : tzs (Rqs.of (trs ps)) = tsum ps := tzs_sum _
theorem fnRo (F : Fun K "_law_rows" "_law_rows" (top 34) f fd) (F1 : Fx P w K mg base "_law_deep" ["_law_thing"] 5 (spDp 5)) (F2 : Fx P w K mg base "_law_marks" ["_law_cell"] 6 spMk) (mm : mg "max" = none) : WFn P w K mg base 7 f fd ["_law_cells"] spRo := by
  have nd := scRo.nd
  refine fn3 F scRo (fun ws G q e h => by obtain ⟨_, _, rfl, _⟩ := h; rfl) (fun cdv A outer s H E hr => ?_)
  apply bodyOf
  · exact (qss_cons (qs_set 1 nd rfl (.inl rfl) (qe_lst qa_nil)) (qss_cons (qs_for PySem.PassesOwn.never rfl (qi_seqS (qe_var 0 rfl (.inl rfl))) (qg_name 2 nd rfl (.inl rfl)) (qss_cons (qs_set 3 nd rfl (.inl rfl) (qe_op q_mod (qe_op q_divB (qe_var 2 rfl (.inl rfl)) qe_int) qe_int)) (qss_cons (qs_set 4 nd rfl (.inl rfl) (qe_sliceS (qe_var 1 rfl (.inl rfl)) qo_none (qo_some (qe_var 3 rfl (.inl rfl))))) (qss_cons (qs_set 5 nd rfl (.inl rfl) (qe_cmp (q_lt3 hr) (qe_maxD rfl rfl mm (qe_comp (compSc (by first | rfl | decide +kernel)) rfl (qi_seqS (qe_var 4 rfl (.inl rfl))) (fun _ _ _ _ => (qg_nameB 1 (by first | assumption | decide +kernel | rfl) rfl (.inl rfl))) (fun _ _ _ _ => qts_nil) (fun _ _ _ _ => (qe_fxn F1 (Room.mono hr (by omega)) rfl (qa_cons (qe_var 1 rfl (.inl rfl)) qa_nil))))) qe_int (nomark _))) (qss_cons (qs_if (qt_w (qw_and (qt_cmp (q_eqG hr) (qe_op q_mod (qe_var 2 rfl (.inl rfl)) qe_int) qe_int (nomark _)) (qw_and1 (qt_val (qe_var 5 rfl (.inl rfl)))))) (qss_cons (qs_set 1 nd rfl (.inl rfl) (qe_op q_addS (qe_lst (qa_cons (qe_tup (qa_cons qe_str (qa_cons (qe_var 4 rfl (.inl rfl)) (qa_cons (qe_op q_divB (qe_var 2 rfl (.inl rfl)) qe_int) qa_nil)))) qa_nil)) (qe_sliceS (qe_var 1 rfl (.inl rfl)) (qo_some (qe_var 3 rfl (.inl rfl))) qo_none))) qss_nil) (qss_cons (qs_if (qt_w (qw_and (qt_cmp (q_eqG hr) (qe_op q_mod (qe_var 2 rfl (.inl rfl)) qe_int) qe_int (nomark _)) (qw_and1 (qt_val (qe_var 5 rfl (.inl rfl)))))) (qss_cons (qs_set 1 nd rfl (.inl rfl) (qe_op q_addS (qe_lst (qa_cons (qe_tup (qa_cons qe_str (qa_cons (qe_var 4 rfl (.inl rfl)) (qa_cons (qe_fxn F2 (Room.mono hr (by omega)) rfl (qa_cons (qe_op q_divB (qe_var 2 rfl (.inl rfl)) qe_int) qa_nil)) qa_nil)))) qa_nil)) (qe_sliceS (qe_var 1 rfl (.inl rfl)) (qo_some (qe_var 3 rfl (.inl rfl))) qo_none))) qss_nil) (qss_cons (qs_set 1 nd rfl (.inl rfl) (qe_op q_addS (qe_lst (qa_cons (qe_tup (qa_cons qe_str (qa_cons (qe_op q_divB (qe_var 2 rfl (.inl rfl)) qe_int) (qa_cons (qe_op q_mod (qe_op q_divB (qe_var 2 rfl (.inl rfl)) qe_int) (qe_op q_powB qe_int qe_int)) qa_nil)))) qa_nil)) (qe_var 1 rfl (.inl rfl)))) qss_nil)) qss_nil)) qss_nil))))) (qss_cons (qs_ret (qe_var 1 rfl (.inl rfl))) qss_nil)))
  · rintro ws G q e ⟨pc, ns, rfl, hc, hl, hq⟩
    refine seqU fun U hU => ?_
    walk_at "R"
    intro p hp
    have le1 := GLe.new (g := GO.lst []) hp
    have g1 := updG_same (G := G) (a := p) (g := GO.lst [])
    generalize updG G p (.lst []) = G1 at le1 g1 ⊢
    subst hU
    refine seqU fun U hU => ?_
    walk_at "R"
    refine ⟨_, le1 _ _ hc, loopW_ind (fun ws τ G' => ∃ (todo : List Int) (ps : List (W × Row)) (p : Addr) (t3 t4 t5 t6 : Option W), ws = todo.map W.int ∧ ps.length + todo.length ≤ 40 ∧ tsum ps + todo.length ≤ 40 ∧ τ = [some (.ref pc), some (.ref p), t3, t4, t5, t6] ∧ GLe G G' ∧ G p = none ∧ G' p = some (.lst (tws ps)) ∧ Things G' ps ∧ Stt ps) ?_ ?_ _ _ _ ⟨ns, [], p, none, none, none, none, rfl, by simpa using hl, by show 0 + _ ≤ _; (clear F F1 F2 mm nd hr hc hq hp le1 g1 hU; omega), rfl, le1, hp, g1, (fun _ h => (nomatch h)), (fun _ h => (nomatch h))⟩⟩
    · rintro τ G' ⟨todo, ps, p, t3, t4, t5, t6, hw, hn, hz, rfl, le, fp, g, hT, hS⟩
      refine ⟨le _ _ hc, ?_⟩
      subst hU
      walk_at "R"
      exact GLe.done (hq p ps G' le fp g hT hS (by (clear F F1 F2 mm nd hr hc hl hq hp le1 g1 hw hz le fp g hT hS; omega)) (by (clear F F1 F2 mm nd hr hc hl hq hp le1 g1 hw le fp g hT hS; omega)))
    · rintro w1 ws τ G' k ⟨todo, ps, p, t3, t4, t5, t6, hw, hnl, hz, rfl, le, fp, g, hT, hS⟩ hk
      cases todo with
      | nil => cases hw
      | cons c todo =>
        cases hw
        refine ⟨le _ _ hc, ?_⟩
        rw [List.length_cons] at hnl hz
        refine seqU fun U1 hU1 => ?_
        walk_at "R"
        obtain ⟨mn, hmn, mn3⟩ : ∃ mn : Nat, c / 4 % 4 = (mn : Int) ∧ mn ≤ 3 := by
          have := mod_in (i := c / 4) (j := 4) (by (clear F F1 F2 mm nd hr hc hl hq hp le1 g1 hU le fp g hT hS hnl hz hk hU1; omega))
          exact ⟨(c / 4 % 4).toNat, by (clear F F1 F2 mm nd hr hc hl hq hp le1 g1 hU le fp g hT hS hnl hz hk hU1; omega), by (clear F F1 F2 mm nd hr hc hl hq hp le1 g1 hU le fp g hT hS hnl hz hk hU1; omega)⟩
        rw [hmn]
        subst hU1
        refine seqU fun U1 hU1 => ?_
        walk_at "R"
        refine ⟨_, g, fun pb hpb => ?_⟩
        rw [cut_to, ← List.map_take]
        have le2 := GLe.new (g := GO.lst (tws (ps.take mn))) hpb
        have g2 := updG_same (G := G') (a := pb) (g := GO.lst (tws (ps.take mn)))
        have fpb := fresh_of le hpb
        have hT2 := hT.mono (GLe.ls le2)
        have le3 := le.trans le2
        have g2p := le2 _ _ g
        generalize updG G' pb (GO.lst (tws (ps.take mn))) = G2 at le2 g2 hT2 le3 g2p ⊢
        clear le2
        subst hU1
        refine seqU fun U1 hU1 => ?_
        walk_at "R"
        refine ⟨_, g2, comp_by (i := 1) (fun p : W × Row => p.1) (fun p => .int ((p.2.dt : Nat) : Int)) (τ0 := [none, none, none]) g2 (fun p hp k hk => ?_) (by show 0 + _ ≤ _; rw [List.length_take]; (clear F F1 F2 mm nd hr hc hl hq hp le1 g1 hU le fp g hT hS hz hk mn3 hpb fpb g2 hT2 le3 g2p hU1; omega)) (fun _ => rfl) fun p7 hp7 => ?_⟩
        · walk_at "R"
          have hm := List.mem_of_mem_take hp
          have := hS p hm
          exact ⟨p.1, p.2, rfl, hT2 p hm, this.1, by (clear F F1 F2 mm nd hr hc hl hq le1 g1 hU le fp g hT hS hnl hz hmn mn3 hpb fpb g2 hT2 le3 g2p hU1 hp hk hm; omega), hk⟩
        · refine ⟨(trs (ps.take mn)).map fun r => ((r.dt : Nat) : Int), ?_, ?_⟩
          · rw [updG_same, List.nil_append]
            simp only [List.map_map]
            rfl
          · have le8 := GLe.new (g := GO.lst ([] ++ List.map (fun p : W × Row => W.int ((p.2.dt : Nat) : Int)) (List.take mn ps))) hp7
            generalize updG G2 p7 (GO.lst ([] ++ List.map (fun p : W × Row => W.int ((p.2.dt : Nat) : Int)) (List.take mn ps))) = G8 at le8 ⊢
            have le9 := le3.trans le8
            have g8 := le8 _ _ g2
            have g8p := le8 _ _ g2p
            have hT8 := hT2.mono (GLe.ls le8)
            have fin : ∀ b : Bool, (b = true → (Rqs.of (trs (ps.take mn))).dt < 4) → U1 { nx := k, rt := fun w G1 => ∃ G0, GLe G0 G1 ∧ q w G0, bk := U { nx := fun _ G1 => ∃ G0, GLe G0 G1 ∧ q W.non G0, rt := fun w G1 => ∃ G0, GLe G0 G1 ∧ q w G0 }, ct := k } [some (.ref pc), some (.ref p), some (.int c), some (.int (mn : Int)), some (.ref pb), some (.bl b)] G8 := fun b hb => by
              clear le3 le8 g2 g2p hT2 hq hp hU
              subst hU1
              refine seqU fun U2 hU2 => ?_
              refine ifD fun TT VV DD hTT hVV hDD => ?_
              have hs3 : (ps.take mn).length ≤ 3 := by rw [List.length_take]; (clear F F1 F2 mm nd hr hc hl le1 g1 le fp g hT hS hz hk mn3 hpb fpb hp7 le9 g8 g8p hT8 hb hU2 hTT hVV hDD; omega)
              have hcut := tsum_cut ps mn
              have hst : stts (Rqs.of (trs (ps.take mn))) := stts_of fun r hr => by
                obtain ⟨z, hz, rfl⟩ := List.mem_map.mp hr
                exact (hS z (List.mem_of_mem_take hz)).1
              have hT3 : ∀ G', GLe G8 G' → Ths G' (tws (ps.take mn)) (Rqs.of (trs (ps.take mn))) := fun G' l => Things.ths fun z hz => (hT8 z (List.mem_of_mem_take hz)).mono (GLe.ls l)
              have grow : ∀ (x : W) (r : Row) (qs : List (W × Row)) (p' : Addr) (G' : Gp), GLe G8 G' → G p' = none → G' p' = some (.lst (x :: tws qs)) → Th G' x r → stt r → r.dt ≤ 4 → (∀ y, y ∈ qs → y ∈ ps) → qs.length ≤ ps.length → tz r + tsum qs ≤ tsum ps + 1 → k [some (.ref pc), some (.ref p'), some (.int c), some (.int (mn : Int)), some (.ref pb), some (.bl b)] G' := fun x r qs p' G' l f e h1 h2 h3 h4 h5 h6 => by
                refine hk _ _ ⟨todo, (x, r) :: qs, p', _, _, _, _, rfl, by rw [List.length_cons]; (clear F F1 F2 mm nd hr hc hl le1 g1 le fp g hT hS hz hk hmn mn3 hpb fpb hp7 le9 g8 g8p hT8 hb hU2 hTT hVV hDD hs3 hcut hst hT3 l f e h1 h2 h3 h4 h6; omega), ?_, rfl, le9.trans l, f, e, fun y hy => ?_, fun y hy => ?_⟩
                · show tz r + tsum qs + _ ≤ 40
                  (clear F F1 F2 mm nd hr hc hl le1 g1 le fp g hT hS hnl hk hmn mn3 hpb fpb hp7 le9 g8 g8p hT8 hb hU2 hTT hVV hDD hs3 hst hT3 l f e h1 h2 h3 h4 h5; omega)
                · rcases List.mem_cons.mp hy with rfl | hy
                  · exact h1
                  · exact (hT8 y (h4 y hy)).mono (GLe.ls l)
                · rcases List.mem_cons.mp hy with rfl | hy
                  · exact ⟨h2, h3⟩
                  · exact hS y (h4 y hy)
              have hcat : ∀ (x : W) (r : Row) (G1 : Gp), GLe G8 G1 → (∀ G', GLe G1 G' → Th G' x r) → stt r → r.dt ≤ 4 → tz r = tsum (ps.take mn) + 1 → ∀ p1, G1 p1 = none → ∃ xs, updG G1 p1 (.lst [x]) p = some (.lst xs) ∧ ∀ p2, updG G1 p1 (.lst [x]) p2 = none → ∃ xs1 ys, updG (updG G1 p1 (.lst [x])) p2 (.lst (cutW xs (some (mn : Int)) none)) p1 = some (.lst xs1) ∧ updG (updG G1 p1 (.lst [x])) p2 (.lst (cutW xs (some (mn : Int)) none)) p2 = some (.lst ys) ∧ xs1.length + ys.length ≤ 100000 ∧ ∀ p3, updG (updG G1 p1 (.lst [x])) p2 (.lst (cutW xs (some (mn : Int)) none)) p3 = none → k [some (.ref pc), some (.ref p3), some (.int c), some (.int (mn : Int)), some (.ref pb), some (.bl b)] (updG (updG (updG G1 p1 (.lst [x])) p2 (.lst (cutW xs (some (mn : Int)) none))) p3 (.lst (xs1 ++ ys))) := fun x r G1 l h1 h2 h3 h4 p1 hp1 => by
                have l1 := GLe.new (g := GO.lst [x]) hp1
                refine ⟨_, l1 _ _ (l _ _ g8p), fun p2 hp2 => ?_⟩
                rw [cut_from, ← List.map_drop]
                have l2 := l1.trans (GLe.new (g := GO.lst (tws (ps.drop mn))) hp2)
                refine ⟨_, _, updG_ne' updG_same hp2, updG_same, by simp only [List.length_map, List.length_cons, List.length_nil, List.length_drop]; (clear F F1 F2 mm nd hr hc hl le1 g1 le fp g hT hS hz hk mn3 hpb fpb hp7 le9 g8 g8p hT8 hb hU2 hTT hVV hDD hs3 hcut hst hT3 grow l h1 h2 h3 h4 hp1 l1 hp2 l2; omega), fun p3 hp3 => ?_⟩
                have l3 := l2.trans (GLe.new (g := GO.lst ([x] ++ tws (ps.drop mn))) hp3)
                exact grow x r (ps.drop mn) p3 _ (l.trans l3) (fresh_of (le9.trans (l.trans l2)) hp3) updG_same (h1 _ l3) h2 h3 (fun y hy => List.mem_of_mem_drop hy) (by rw [List.length_drop]; (clear F F1 F2 mm nd hr hc hl le1 g1 le fp g hT hS hnl hz hk mn3 hpb fpb hp7 le9 g8 g8p hT8 hb hU2 hTT hVV hDD hs3 hcut hst hT3 grow l h1 h2 h3 h4 hp1 l1 hp2 l2 hp3 l3; omega)) (by (clear F F1 F2 mm nd hr hc hl le1 g1 le fp g hT hS hnl hz hk hmn mn3 hpb fpb hp7 le9 g8 g8p hT8 hb hU2 hTT hVV hDD hs3 hst hT3 grow l h1 h2 h3 hp1 l1 hp2 l2 hp3 l3; omega))
              have hV : VV DD [some (.ref pc), some (.ref p), some (.int c), some (.int (mn : Int)), some (.ref pb), some (.bl b)] G8 := by
                subst hVV
                refine ifD fun TT2 VV2 DD2 hTT2 hVV2 hDD2 => ?_
                have hP : VV2 DD2 [some (.ref pc), some (.ref p), some (.int c), some (.int (mn : Int)), some (.ref pb), some (.bl b)] G8 := by
                  subst hVV2 hDD2 hDD hU2
                  walk_at "R"
                  intro p1 hp1
                  generalize c / 16 % 1000000000000000000000000000000000000000000000000000000000000 = v at hp1 ⊢
                  have l1 := GLe.new (g := GO.lst [W.tup [W.str "plain", .int (c / 4), .int v]]) hp1
                  refine ⟨_, _, updG_same, l1 _ _ g8p, by simp only [List.length_map, List.length_cons, List.length_nil]; (clear F F1 F2 mm nd hr hc hl le1 g1 le fp g hT hS hz hk hmn mn3 hpb fpb hp7 le9 g8 g8p hT8 hb hTT hs3 hcut hst hT3 grow hcat hTT2 hp1 l1; omega), fun p2 hp2 => ?_⟩
                  have l2 := l1.trans (GLe.new (g := GO.lst ([W.tup [W.str "plain", .int (c / 4), .int v]] ++ tws ps)) hp2)
                  obtain ⟨b1, b2, b3, _⟩ := plain_ok (c / 4) v
                  exact grow _ (plainR (c / 4) v) ps p2 _ l2 (fresh_of (le9.trans l1) hp2) updG_same .plain b1 (by rw [b3]; decide) (fun y hy => hy) (Nat.le_refl _) (by (clear F F1 F2 mm nd hr hc hl le1 g1 le fp g hT hS hnl hz hk hmn mn3 hpb fpb hp7 le9 g8 g8p hT8 hb hTT hs3 hcut hst hT3 grow hcat hTT2 hp1 l1 hp2 l2 b1 b3; omega))
                have hW : (Rqs.of (trs (ps.take mn))).dt < 4 → TT2 DD2 [some (.ref pc), some (.ref p), some (.int c), some (.int (mn : Int)), some (.ref pb), some (.bl b)] G8 := fun hdt => by
                  subst hTT2 hDD2 hDD hU2
                  walk_at "R"
                  refine ⟨_, rfl, fun pm G1 ms l1 fm gm hm => ?_⟩
                  exact hcat _ (.whl "a" (hof ms) (Rqs.of (trs (ps.take mn)))) G1 l1 (fun G' l => .whl (l _ _ (l1 _ _ g8)) (l _ _ gm) hm (hT3 _ (l1.trans l))) ⟨hst, by rw [Rqs.L_of, List.length_map]; exact hs3, ms, hm, rfl⟩ (by show (Rqs.of (trs (ps.take mn))).dt + 1 ≤ 4; assumption) (by show tzs _ + 1 = _; rw [tsum_of])
                walk_at "R"
                exact iteI (fun h1 => iteI (fun h2 => hW (hb h2)) fun _ => hP) fun _ => hP
              have hM : (Rqs.of (trs (ps.take mn))).dt < 4 → TT DD [some (.ref pc), some (.ref p), some (.int c), some (.int (mn : Int)), some (.ref pb), some (.bl b)] G8 := fun hdt => by
                subst hTT hDD hU2
                walk_at "R"
                exact hcat _ (.times (letter (c / 12)) (Rqs.of (trs (ps.take mn)))) G8 (GLe.refl _) (fun G' l => .times (l _ _ g8) (hT3 _ l)) ⟨hst, by rw [Rqs.L_of, List.length_map]; exact hs3⟩ (by show (Rqs.of (trs (ps.take mn))).dt + 1 ≤ 4; assumption) (by show tzs _ + 1 = _; rw [tsum_of])
              walk_at "R"
              exact iteI (fun h1 => iteI (fun h2 => hM (hb h2)) fun _ => hV) fun _ => hV
            have key := dt_out (rs := trs (ps.take mn)) (q := fun m => U1 { nx := k, rt := fun w G1 => ∃ G0, GLe G0 G1 ∧ q w G0, bk := U { nx := fun _ G1 => ∃ G0, GLe G0 G1 ∧ q W.non G0, rt := fun w G1 => ∃ G0, GLe G0 G1 ∧ q w G0 }, ct := k } [some (.ref pc), some (.ref p), some (.int c), some (.int (mn : Int)), some (.ref pb), some (.bl (decide (m < 4)))] G8) (fin _ fun h => by have := of_decide_eq_true h; (clear F F1 F2 mm nd hr hc hl hq hp le1 g1 hU le fp g hT hS hnl hz hk hmn mn3 hpb fpb g2 hT2 le3 g2p hU1 hp7 le8 le9 g8 g8p hT8 fin h; omega))
            exact ⟨fun h => key.1 h, key.2⟩

/-! heights -/
noncomputable def spHt : WSp := fun ws G q _ => ∃ (m : Addr) (ms : List (O × Str)), ws = [.ref m] ∧ G m = some (.lst (encM ms)) ∧ Mks ms ∧ q (.tup (encP (hpw (hof ms)))) G
theorem scHt : FnScope ["_law_marks_here", "_law_most_of", "_law_exponent_here", "_law_box"] ["_law_marks_here"] (defScope (top 36)) := ⟨rfl, rfl, rfl, by decide +kernel, rfl, by decide +kernel, by decide +kernel⟩
theorem fnHt (F : Fun K "_law_height" "_law_height" (top 36) f fd) (F1 : Fx P w K mg base "whole" ["n"] 3 spWl) (F2 : Fx P w K mg base "compare" ["a", "b"] 1 spCm) (F3 : Fx P w K mg base "plus" ["a", "b"] 3 spPs) (F4 : Fxd P w K mg base "raised" ["exponent", "times"] 2 spRs [.int 1]) (ml : mg "len" = none) : WFn P w K mg base 4 f fd ["_law_marks_here"] spHt := by
  have nd := scHt.nd
  refine fn3 F scHt (fun ws G q e h => by obtain ⟨_, _, rfl, _⟩ := h; rfl) (fun cdv A outer s H E hr => ?_)
  apply bodyOf
  · exact (qss_cons (qs_if (qt_cmp (q_eqG hr) (qe_callB q_lenD rfl ml PySem.boot_len (qa_cons (qe_var 0 rfl (.inl rfl)) qa_nil)) qe_int (nomark _)) (qss_cons (qs_ret (qe_fxn F1 (Room.mono hr (by omega)) rfl (qa_cons qe_int qa_nil))) qss_nil) qss_nil) (qss_cons (qs_set 1 nd rfl (.inl rfl) (qe_ix q_ixD (qe_ix q_ixD (qe_var 0 rfl (.inl rfl)) qe_int (fun _ _ => rfl)) qe_int (fun _ _ => rfl))) (qss_cons (qs_for PySem.PassesOwn.never rfl (qi_seqS (qe_var 0 rfl (.inl rfl))) (qg_tup rfl (qgs_cons (qg_name 2 nd rfl (.inl rfl)) (qgs_cons (qg_name 3 nd rfl (.inl rfl)) qgs_nil))) (qss_cons (qs_if (qt_cmp (q_eqG hr) (qe_fxn F2 (Room.mono hr (by omega)) rfl (qa_cons (qe_var 2 rfl (.inl rfl)) (qa_cons (qe_var 1 rfl (.inl rfl)) qa_nil))) qe_int (nomark _)) (qss_cons (qs_set 1 nd rfl (.inl rfl) (qe_var 2 rfl (.inl rfl))) qss_nil) qss_nil) qss_nil)) (qss_cons (qs_ret (qe_fxd F4 (Room.mono hr (by omega)) rfl (qa_cons (qe_fxn F3 (Room.mono hr (by omega)) rfl (qa_cons (qe_var 1 rfl (.inl rfl)) (qa_cons (qe_fxn F1 (Room.mono hr (by omega)) rfl (qa_cons qe_int qa_nil)) qa_nil))) qa_nil))) qss_nil))))
  · rintro ws G q e ⟨m, ms, rfl, hG, hm, hq⟩
    have h3 := hm.1
    refine seqU fun U hU => ?_
    walk_at "R"
    refine ⟨_, .lst hG, ?_⟩
    cases ms with
    | nil =>
      rw [if_pos (show ((encM []).length : Int) = 0 from rfl)]
      exact ⟨1, rfl, by decide, GLe.done hq⟩
    | cons m0 ms =>
      rw [if_neg (by rw [List.length_map, List.length_cons]; (clear F F1 F2 F3 F4 ml nd hr hU hG hm hq h3; omega))]
      have x0 := hm.2 m0 List.mem_cons_self
      subst hU
      refine seqU fun U hU => ?_
      walk_at "R"
      refine ⟨_, .tup [.tup (encP m0.1), .str m0.2], hG, atI_nat (j := 0) rfl, ?_⟩
      walk_at "R"
      subst hU
      refine seqU fun U hU => ?_
      walk_at "R"
      refine ⟨_, hG, loopW_ind (fun ws τ G' => G' = G ∧ ∃ (a : O) (todo : List (O × Str)) (t2 t3 : Option W), ws = encM todo ∧ τ = [some (.ref m), some (.tup (encP a)), t2, t3] ∧ mostO a (todo.map (·.1)) = mostO m0.1 ((m0 :: ms).map (·.1)) ∧ Xok a ∧ ∀ x, x ∈ todo → Xok x.1) ?_ ?_ _ _ _ ⟨rfl, m0.1, m0 :: ms, none, none, rfl, rfl, rfl, x0, hm.2⟩⟩
      · rintro τ G' ⟨rfl, a, todo, t2, t3, hw, rfl, ha, xa, _⟩
        refine ⟨hG, ?_⟩
        have hb : todo = [] := by simpa using hw.symm
        subst hb
        have e1 := Wb.wh (n := 1) (by decide)
        have ll := O.len_le_hw a
        have lh := xa.hw
        subst hU
        walk_at "R"
        refine ⟨1, rfl, by decide, a, O.wh 1, rfl, xa.nf, Nat.le_trans xa.dp (by decide), Nat.le_trans e1.dp (by decide), by (clear F F1 F2 F3 F4 ml nd hr hm h3 x0 hG hq xa hw ha e1; omega), Nat.le_trans e1.ln (by decide), O.plusO a (O.wh 1), 1, rfl, by decide, GLe.done ?_⟩
        have e2 : hpw (hof (m0 :: ms)) = .c (O.plusO a (O.wh 1)) 1 .z := by
          unfold hpw
          rw [hgt_hof, ← ha]
          rfl
        rw [e2] at hq
        exact hq
      · rintro w1 ws τ G' kk ⟨rfl, a, todo, t2, t3, hw, rfl, ha, xa, hx⟩ hk
        cases todo with
        | nil => cases hw
        | cons m1 todo =>
          cases hw
          refine ⟨hG, ?_⟩
          have x1 := hx m1 List.mem_cons_self
          walk_at "R"
          refine ⟨m1.1, a, rfl, Nat.le_trans x1.dp (by decide), ?_⟩
          walk_at "R"
          have st : mostO (if O.cmp m1.1 a = 1 then m1.1 else a) (todo.map (·.1)) = mostO m0.1 ((m0 :: ms).map (·.1)) := ha
          by_cases hc : O.cmp m1.1 a = 1
          · rw [if_pos hc] at st ⊢
            exact hk _ _ ⟨rfl, m1.1, todo, _, _, rfl, rfl, st, x1, fun x h => hx x (List.mem_cons_of_mem _ h)⟩
          · rw [if_neg hc] at st ⊢
            exact hk _ _ ⟨rfl, a, todo, _, _, rfl, rfl, st, xa, fun x h => hx x (List.mem_cons_of_mem _ h)⟩

/-! what the law's things weigh, by the law -/
noncomputable def spOr (d : Nat) : WSp := fun ws G q _ => ∃ (x : W) (r : Row), ws = [x] ∧ Th G x r ∧ stt r ∧ tz r ≤ 40 ∧ r.dt ≤ 4 ∧ r.dt < d ∧ q (.tup (encP r.wt)) G
noncomputable def spLt (d : Nat) : WSp := fun ws G q _ => ∃ (l : Addr) (ps : List (W × Row)), ws = [.ref l] ∧ G l = some (.lst (tws ps)) ∧ Things G ps ∧ Stt ps ∧ tsum ps ≤ 40 ∧ (∀ x, x ∈ ps → x.2.dt < d) ∧ q (.tup (encP (sumQ (trs ps)))) G
theorem Stt.sts {ps : List (W × Row)} (h : Stt ps) : stts (Rqs.of (trs ps)) := stts_of fun r hr => by
  obtain ⟨x, hx, rfl⟩ := List.mem_map.mp hr
  exact (h x hx).1
theorem Stt.dt {ps : List (W × Row)} (h : Stt ps) : (Rqs.of (trs ps)).dt ≤ 4 := dt_of fun r hr => by
  obtain ⟨x, hx, rfl⟩ := List.mem_map.mp hr
  exact (h x hx).2
theorem Stt.sz {ps : List (W × Row)} (h : Stt ps) (ht : tsum ps ≤ 40) : Szs (Rqs.of (trs ps)) := stts_sz h.sts (by rw [tsum_of]; exact ht) h.dt
theorem sumQ_nf : ∀ {rs : List Row}, (∀ r, r ∈ rs → r.nn) → (sumQ rs).NF
  | [], _ => trivial
  | r :: rs, h => (sumQ_nf fun x hx => h x (List.mem_cons_of_mem _ hx)).plus (r.wq (h r List.mem_cons_self)).nf
theorem sumQ_snoc {r : Row} (hr : r.nn) : ∀ {rs : List Row}, (∀ r, r ∈ rs → r.nn) → sumQ (rs ++ [r]) = O.plusO r.wt (sumQ rs)
  | [], _ => O.z_plus _
  | x :: rs, h => by
    have h' := fun y hy => h y (List.mem_cons_of_mem _ hy)
    show O.plusO (sumQ (rs ++ [r])) x.wt = O.plusO r.wt (O.plusO (sumQ rs) x.wt)
    rw [sumQ_snoc hr h', O.plus_assoc (r.wq hr).nf (sumQ_nf h') (x.wq (h x List.mem_cons_self)).nf]
theorem scLt : FnScope ["_law_rows_here", "_law_found", "_law_thing"] ["_law_rows_here"] (defScope (top 38)) := ⟨rfl, rfl, rfl, by decide +kernel, rfl, by decide +kernel, by decide +kernel⟩
theorem fnLt {d k : Nat} (hk3 : 3 ≤ k) (F : Fun K "_law_weight" "_law_weight" (top 38) f fd) (F0 : Fx P w K mg base "_law_of_row" ["_law_thing"] k (spOr d)) (F3 : Fx P w K mg base "plus" ["a", "b"] 3 spPs) : WFn P w K mg base (k + 1) f fd ["_law_rows_here"] (spLt d) := by
  have nd := scLt.nd
  refine fn3 F scLt (fun ws G q e h => by obtain ⟨_, _, rfl, _⟩ := h; rfl) (fun cdv A outer s H E hr => ?_)
  apply bodyOf
  · exact (qss_cons (qs_set 1 nd rfl (.inl rfl) (qe_tup qa_nil)) (qss_cons (qs_for PySem.PassesOwn.never rfl (qi_seqS (qe_var 0 rfl (.inl rfl))) (qg_name 2 nd rfl (.inl rfl)) (qss_cons (qs_set 1 nd rfl (.inl rfl) (qe_fxn F3 (Room.mono hr hk3) rfl (qa_cons (qe_fxn F0 (Room.mono hr (by omega)) rfl (qa_cons (qe_var 2 rfl (.inl rfl)) qa_nil)) (qa_cons (qe_var 1 rfl (.inl rfl)) qa_nil)))) qss_nil)) (qss_cons (qs_ret (qe_var 1 rfl (.inl rfl))) qss_nil)))
  · rintro ws G q e ⟨l, ps, rfl, hG, hT, hS, ht, hd, hq⟩
    refine seqU fun U hU => ?_
    walk_at "R"
    subst hU
    refine seqU fun U hU => ?_
    walk_at "R"
    refine ⟨_, hG, loopW_ind (fun ws τ G' => G' = G ∧ ∃ (done todo : List (W × Row)) (t : Option W), ws = tws todo ∧ τ = [some (.ref l), some (.tup (encP (sumQ (trs done)))), t] ∧ done ++ todo = ps) ?_ ?_ _ _ _ ⟨rfl, [], ps, none, rfl, rfl, rfl⟩⟩
    · rintro τ G' ⟨rfl, done, todo, t, hw, rfl, hp⟩
      refine ⟨hG, ?_⟩
      have hb : todo = [] := by simpa using hw.symm
      subst hb
      rw [List.append_nil] at hp
      subst hp
      subst hU
      walk_at "R"
      exact GLe.done hq
    · rintro w1 ws τ G' kk ⟨rfl, done, todo, t, hw, rfl, hp⟩ hk
      cases todo with
      | nil => cases hw
      | cons x todo =>
        cases hw
        refine ⟨hG, ?_⟩
        have hx : x ∈ ps := by rw [← hp]; simp
        have hdn : ∀ y, y ∈ done → y ∈ ps := fun y hy => by rw [← hp]; exact List.mem_append_left _ hy
        have hts : tsum ps = tsum done + (tz x.2 + tsum todo) := by
          rw [← hp]
          unfold tsum
          simp only [trs, List.map_append, List.sum_append, List.map_cons, List.sum_cons]
        have sx := hS x hx
        have zd : Szs (Rqs.of (trs done)) := Stt.sz (fun y hy => hS y (hdn y hy)) (by (clear hk3 F F0 F3 nd hr hS hd hU hG hT hq hp hk hx hdn sx; omega))
        have zx := stt_b x.2 sx.1
        have wx := x.2.wq zx.1
        have wd := Rqs.wq _ zd.nn
        have l1 := wx.ln
        have l2 := lb_hb x.2
        have l3 := wd.ln
        have l4 := lbs_hb (Rqs.of (trs done))
        have l5 := zd.hb
        have es : (Rqs.of (trs done)).wt = sumQ (trs done) := sumQ_of _
        rw [es] at wd l3
        have nnd : ∀ r, r ∈ trs done → r.nn := fun r hr => by
          obtain ⟨y, hy, rfl⟩ := List.mem_map.mp hr
          exact (stt_b y.2 (hS y (hdn y hy)).1).1
        walk_at "R"
        refine ⟨x.1, x.2, rfl, hT x hx, sx.1, by (clear hk3 F F0 F3 nd hr hS hd hU hG hT hq hp hk hx hdn sx zd zx wx wd l1 l2 l3 l4 l5 es nnd; omega), sx.2, hd x hx, x.2.wt, sumQ (trs done), rfl, wx.nf, Nat.le_trans wx.dp (by decide), Nat.le_trans wd.dp (by decide), by (clear hk3 F F0 F3 nd hr hS hd hU hG hT hq hp hk hx hdn sx zd wx wd l3 l4 l5 es nnd; omega), by (clear hk3 F F0 F3 nd hr hS ht hd hU hG hT hq hp hk hx hdn hts sx zd zx wx wd l1 l2 es nnd; omega), ?_⟩
        refine hk _ _ ⟨rfl, done ++ [x], todo, some x.1, rfl, ?_, by rw [List.append_assoc]; exact hp⟩
        rw [← sumQ_snoc zx.1 nnd]
        simp only [trs, List.map_append, List.map_cons, List.map_nil]
theorem ths_in {G : Gp} {ws : List W} {rs : Rqs Str} {d : Nat} (hs : Ths G ws rs) (h1 : stts rs) (h2 : tzs rs ≤ 40) (h3 : rs.dt ≤ 4) (h4 : rs.dt < d) : ∃ ps, ws = tws ps ∧ Things G ps ∧ Stt ps ∧ tsum ps ≤ 40 ∧ (∀ y, y ∈ ps → y.2.dt < d) ∧ sumQ (trs ps) = rs.wt ∧ Szs rs ∧ rs.L = trs ps := by
  obtain ⟨ps, e, hL, hT⟩ := hs.ps
  have er : Rqs.of (trs ps) = rs := by rw [← hL, Rqs.of_L]
  have hm : ∀ y, y ∈ ps → y.2 ∈ rs.L := fun y hy => by rw [hL]; exact List.mem_map.mpr ⟨y, hy, rfl⟩
  exact ⟨ps, e, hT, fun y hy => ⟨stts_mem h1 _ (hm y hy), dt_mem h3 _ (hm y hy)⟩, by rw [← tsum_of, er]; exact h2, fun y hy => Nat.lt_of_le_of_lt (dt_mem (Nat.le_refl _) _ (hm y hy)) h4, by rw [← hL, sum_L], stts_sz h1 h2 h3, hL⟩
theorem scOr : FnScope ["_law_thing", "_law_inner"] ["_law_thing"] (defScope (top 37)) := ⟨rfl, rfl, rfl, by decide +kernel, rfl, by decide +kernel, by decide +kernel⟩
theorem fnOr {d k : Nat} (hk3 : 4 ≤ k) (F : Fun K "_law_of_row" "_law_of_row" (top 37) f fd) (F0 : Fx P w K mg base "_law_weight" ["_law_rows_here"] k (spLt d)) (F1 : Fx P w K mg base "whole" ["n"] 3 spWl) (F2 : Fx P w K mg base "endless" [] 4 spEn) (F3 : Fx P w K mg base "plus" ["a", "b"] 3 spPs) (F4 : Fx P w K mg base "times" ["a", "b"] 4 spTi) (F5 : Fx P w K mg base "_law_height" ["_law_marks_here"] 4 spHt) : WFn P w K mg base (k + 1) f fd ["_law_thing"] (spOr (d + 1)) := by
  have nd := scOr.nd
  refine fn3 F scOr (fun ws G q e h => by obtain ⟨_, _, rfl, _⟩ := h; rfl) (fun cdv A outer s H E hr => ?_)
  apply bodyOf
  · exact (qss_cons (qs_if (qt_cmp (q_eqG hr) (qe_ix q_ixD (qe_var 0 rfl (.inl rfl)) qe_int (fun _ _ => rfl)) qe_str (nomark _)) (qss_cons (qs_ret (qe_fxn F1 (Room.mono hr (by omega)) rfl (qa_cons qe_int qa_nil))) qss_nil) qss_nil) (qss_cons (qs_set 1 nd rfl (.inl rfl) (qe_fxn F0 (Room.mono hr (by omega)) rfl (qa_cons (qe_ix q_ixD (qe_var 0 rfl (.inl rfl)) qe_int (fun _ _ => rfl)) qa_nil))) (qss_cons (qs_if (qt_cmp (q_eqG hr) (qe_ix q_ixD (qe_var 0 rfl (.inl rfl)) qe_int (fun _ _ => rfl)) qe_str (nomark _)) (qss_cons (qs_ret (qe_fxn F4 (Room.mono hr hk3) rfl (qa_cons (qe_fxn F3 (Room.mono hr (by omega)) rfl (qa_cons (qe_var 1 rfl (.inl rfl)) (qa_cons (qe_fxn F1 (Room.mono hr (by omega)) rfl (qa_cons qe_int qa_nil)) qa_nil))) (qa_cons (qe_fx0 F2 (Room.mono hr hk3) rfl) qa_nil)))) qss_nil) qss_nil) (qss_cons (qs_ret (qe_fxn F3 (Room.mono hr (by omega)) rfl (qa_cons (qe_fxn F4 (Room.mono hr hk3) rfl (qa_cons (qe_fxn F3 (Room.mono hr (by omega)) rfl (qa_cons (qe_var 1 rfl (.inl rfl)) (qa_cons (qe_fxn F1 (Room.mono hr (by omega)) rfl (qa_cons qe_int qa_nil)) qa_nil))) (qa_cons (qe_fxn F5 (Room.mono hr hk3) rfl (qa_cons (qe_ix q_ixD (qe_var 0 rfl (.inl rfl)) qe_int (fun _ _ => rfl)) qa_nil)) qa_nil))) (qa_cons (qe_fxn F1 (Room.mono hr (by omega)) rfl (qa_cons qe_int qa_nil)) qa_nil)))) qss_nil))))
  · rintro ws G q e ⟨x, r, rfl, hx, hs, hz, h4, hd, hq⟩
    cases hx with
    | plain =>
      rename_i c n
      rw [(plain_ok c n).2.2.2] at hq
      walk_at "R"
      exact ⟨1, rfl, by decide, GLe.done hq⟩
    | times h hs' =>
      rename_i l kk ws rs
      have z5 : tzs rs + 1 ≤ 40 := hz
      have d5 : rs.dt + 1 ≤ 4 := h4
      have d6 : rs.dt + 1 < d + 1 := hd
      obtain ⟨ps, rfl, hT, hS, ht, hdd, es, z, hL⟩ := ths_in (d := d) hs' hs.1 (by (clear hk3 F F0 F1 F2 F3 F4 F5 nd hr h hs' hs hz h4 hd hq d5 d6; omega)) (by (clear hk3 F F0 F1 F2 F3 F4 F5 nd hr h hs' hs hz h4 hd hq z5 d6; omega)) (by (clear hk3 F F0 F1 F2 F3 F4 F5 nd hr h hs' hs hz h4 hd hq z5 d5; omega))
      obtain ⟨r1, r2, r3, r4⟩ := rnd_ok z
      have c0 := cap_ge
      have w0 := Rqs.wq rs z.nn
      have l1 := w0.ln
      have l2 := lbs_hb rs
      have l3 := z.hb
      have e1 := Wb.wh (n := 1) (by decide)
      walk_at "R"
      refine ⟨l, ps, rfl, h, hT, hS, ht, hdd, ?_⟩
      rw [es]
      exact ⟨1, rfl, by decide, rs.wt, O.wh 1, rfl, w0.nf, Nat.le_trans w0.dp (by decide), Nat.le_trans e1.dp (by decide), by (clear hk3 F F0 F1 F2 F3 F4 F5 nd hr hs hz h4 hd hq z5 d5 d6 h hs' hT hS ht hdd es z hL r1 r2 r3 r4 c0 w0 e1; omega), Nat.le_trans e1.ln (by decide), rfl, rs.rnd, om, rfl, r1, om_nf, by exact Nat.le_trans (by assumption) (Nat.le_of_ble_eq_true rfl), by decide, by exact Nat.le_trans (by assumption) (Nat.le_of_ble_eq_true rfl), by decide, Int.le_trans r4 (Int.le_trans (by decide +kernel) c0), Int.le_trans (by decide : O.mx om ≤ 1) (Int.le_trans (by decide +kernel) c0), GLe.done hq⟩
    | whl h hm ok hs' =>
      rename_i l m ms ws rs
      have z5 : tzs rs + 1 ≤ 40 := hz
      have d5 : rs.dt + 1 ≤ 4 := h4
      have d6 : rs.dt + 1 < d + 1 := hd
      obtain ⟨ps, rfl, hT, hS, ht, hdd, es, z, hL⟩ := ths_in (d := d) hs' hs.1 (by (clear hk3 F F0 F1 F2 F3 F4 F5 nd hr h hm ok hs' hs hz h4 hd hq d5 d6; omega)) (by (clear hk3 F F0 F1 F2 F3 F4 F5 nd hr h hm ok hs' hs hz h4 hd hq z5 d6; omega)) (by (clear hk3 F F0 F1 F2 F3 F4 F5 nd hr h hm ok hs' hs hz h4 hd hq z5 d5; omega))
      obtain ⟨r1, r2, r3, r4⟩ := rnw_ok z
      obtain ⟨m1, m2, m3⟩ := mks_hs ok
      obtain ⟨p1, p2⟩ := hpw_ok m1
      have c0 := cap_ge
      have w0 := Rqs.wq rs z.nn
      have l1 := w0.ln
      have l2 := lbs_hb rs
      have l3 := z.hb
      have e1 := Wb.wh (n := 1) (by decide)
      have e2 := Wb.wh (n := 2) (by decide)
      have x := w0.plus (Wq.wh (n := 2) (by decide))
      have y := x.times p1 p2 (Nat.le_trans (len_times _ _) (Nat.add_le_add_right x.ln _))
      have y1 := y.ln
      have y2 : (hpw (hof ms)).len = 1 := rfl
      have y3 : (O.timesO rs.rnw (hpw (hof ms))).len ≤ 1000 := Nat.le_trans y1 (by (clear hk3 F F0 F1 F2 F3 F4 F5 nd hr hm ok hs hz h4 hd hq z5 d5 d6 h hs' hT hS ht hdd es z hL r1 r2 r3 r4 m1 m2 m3 p1 p2 c0 w0 l1 e1 e2 x y y1; omega))
      walk_at "R"
      refine ⟨l, ps, rfl, h, hT, hS, ht, hdd, ?_⟩
      rw [es]
      exact ⟨2, rfl, by decide, rs.wt, O.wh 2, rfl, w0.nf, Nat.le_trans w0.dp (by decide), Nat.le_trans e2.dp (by decide), by (clear hk3 F F0 F1 F2 F3 F4 F5 nd hr hm ok hs hz h4 hd hq z5 d5 d6 h hs' hT hS ht hdd es z hL r1 r2 r3 r4 m1 m2 m3 p1 p2 c0 w0 e1 e2 x y y1 y2 y3; omega), Nat.le_trans e2.ln (by decide), m, ms, rfl, hm, ok, rs.rnw, hpw (hof ms), rfl, r1, p1, by exact Nat.le_trans (by assumption) (Nat.le_of_ble_eq_true rfl), by exact Nat.le_trans (by assumption) (Nat.le_of_ble_eq_true rfl), by exact Nat.le_trans (by assumption) (Nat.le_of_ble_eq_true rfl), by exact Nat.le_trans (by assumption) (Nat.le_of_ble_eq_true rfl), Int.le_trans r4 (Int.le_trans (by decide +kernel) c0), Int.le_trans m3 (Int.le_trans (by decide +kernel) c0), 1, rfl, by decide, O.timesO rs.rnw (hpw (hof ms)), O.wh 1, rfl, y.nf, Nat.le_trans y.dp (by decide), Nat.le_trans e1.dp (by decide), y3, Nat.le_trans e1.ln (by decide), GLe.done hq⟩
theorem fxOL (T : Txt K mg) (F1 : Fx P w K mg base "whole" ["n"] 3 spWl) (F2 : Fx P w K mg base "endless" [] 4 spEn) (F3 : Fx P w K mg base "plus" ["a", "b"] 3 spPs) (F4 : Fx P w K mg base "times" ["a", "b"] 4 spTi) (F5 : Fx P w K mg base "_law_height" ["_law_marks_here"] 4 spHt) : ∀ d : Nat, Fx P w K mg base "_law_weight" ["_law_rows_here"] (2 * d + 6) (spLt d)
  | 0 => T.d__law_weight.fx fun f fd F => fnLt (k := 5) (by decide) F (T.d__law_of_row.fx fun f fd F => WFn.none fun ws G q e ⟨t, _, _, _, _, _, _, h, _⟩ => by (clear T F1 F2 F3 F4 F5 F; omega)) F3
  | d + 1 => T.d__law_weight.fx fun f fd F => fnLt (k := 2 * d + 7) (by (clear T F1 F2 F3 F4 F5 F; omega)) F (T.d__law_of_row.fx fun f fd F => fnOr (k := 2 * d + 6) (by (clear T F1 F2 F3 F4 F5 F; omega)) F (fxOL T F1 F2 F3 F4 F5 d) F1 F2 F3 F4 F5) F3

/-! rows made of things -/
noncomputable abbrev rws (ps : List (Addr × Row)) : List Row := ps.map (·.2)
noncomputable def spMa (C : Cs) (d : Nat) : WSp := fun ws G q _ => ∃ (x : W) (r : Row), ws = [x] ∧ Th G x r ∧ stt r ∧ tz r ≤ 40 ∧ r.dt ≤ 4 ∧ r.dt < d ∧ ∀ (a : Addr) (G' : Gp), GLe G G' → G a = none → RAt C G' a r → q (.ref a) G'
theorem tz_le {ps : List (W × Row)} {x : W × Row} (h : x ∈ ps) : tz x.2 ≤ tsum ps := by
  have := tz_mem (rs := Rqs.of (trs ps)) x.2 (by rw [Rqs.L_of]; exact List.mem_map.mpr ⟨x, h, rfl⟩)
  rw [tsum_of] at this
  exact this
theorem made_comp {C : Cs} {d : Nat} {G : Gp} {ps : List (W × Row)} {l : Addr} {Q : List W → Gp → Prop} {τ : WSt} {n : Nat} (h : G l = some (.lst (tws ps))) (hT : Things G ps) (hS : Stt ps) (ht : tsum ps ≤ 40) (hdd : ∀ y, y ∈ ps → y.2.dt < d) (hl : ps.length ≤ 100) (hτ : ∀ x, τ.set 1 x = (none :: none :: List.replicate n none).set 1 x) (hQ : ∀ xs G', GLe G G' → Rows C G' xs → rws xs = trs ps → Q (refs xs) G') : compW (fun G => G l = some (.lst (tws ps))) (hName 1) wTrue (wCall (spMa C d) [] (wCons (wVar 1) wNil)) (tws ps) τ G [] Q := by
  refine comp_ind (i := 1) (τ0 := none :: none :: List.replicate n none) (fun ws acc G' => ∃ (todo : List (W × Row)) (xs : List (Addr × Row)), ws = tws todo ∧ acc = refs xs ∧ trs ps = rws xs ++ trs todo ∧ (∀ y, y ∈ todo → y ∈ ps) ∧ GLe G G' ∧ Rows C G' xs) ?_ ?_ ⟨ps, [], rfl, rfl, rfl, fun _ h => h, GLe.refl _, (fun _ h => (nomatch h))⟩ (by show 0 + _ ≤ _; rw [List.length_map]; (clear h hT hS ht hdd hτ hQ; omega)) hτ
  · rintro acc G5 ⟨todo, xs, hw, rfl, hts, hin, le5, hX⟩
    have h0 : todo = [] := by simpa using hw.symm
    subst h0
    have hts : trs ps = rws xs := by rw [hts]; exact List.append_nil _
    exact ⟨le5 _ _ h, hQ xs G5 le5 hX hts.symm⟩
  · rintro x ws acc G' k' ⟨todo, xs, hw, rfl, hts, hin, le, hX⟩ hkk
    cases todo with
    | nil => cases hw
    | cons u todo =>
      cases hw
      refine ⟨le _ _ h, ?_⟩
      have hxl : xs.length ≤ 100 := by have := congrArg List.length hts; simp only [List.length_map, List.length_append] at this; (clear h hT hS ht hdd hτ hQ le hX hts hin hkk; omega)
      have hu := hin u List.mem_cons_self
      have su := hS u hu
      have zu := tz_le hu
      walk_at "R"
      refine ⟨u.1, u.2, rfl, (hT u hu).mono (GLe.ls le), su.1, by (clear h hT hS hdd hl hτ hQ le hX hts hin hkk hxl hu su; omega), su.2, hdd u hu, fun a G'' le2 fa ha => hkk _ _ ⟨todo, xs ++ [(a, u.2)], rfl, by simp [refs], by rw [hts]; simp, fun y hy => hin y (List.mem_cons_of_mem _ hy), le.trans le2, fun x hx => ?_⟩ (by simp only [List.length_map]; (clear h hT hS ht hdd hl hτ hQ le hX hts hin hkk hu su zu le2 fa ha; omega))⟩
      rcases List.mem_append.mp hx with hx | hx
      · exact (hX x hx).mono (GLe.ins le2)
      · rw [List.mem_singleton.mp hx]; exact ha
theorem scMa : FnScope ["_law_thing"] ["_law_thing"] (defScope (top 35)) := ⟨rfl, rfl, rfl, by decide +kernel, rfl, by decide +kernel, by decide +kernel⟩
theorem fnMa {C : Cs} {d k : Nat} (F : Fun K "_law_made" "_law_made" (top 35) f fd) (F0 : Fx P w K mg base "_law_made" ["_law_thing"] k (spMa C d)) (N1 : New P w K mg base "Set" C.s ["self", "box", "amount"] 1 (spIn C 0)) (N2 : New P w K mg base "Copy" C.c ["self", "box", "other"] 1 (spIn C 1)) (N3 : New P w K mg base "Add" C.a ["self", "box", "other"] 1 (spIn C 2)) (N4 : New P w K mg base "Less" C.l ["self", "box"] 1 (spIn C 3)) (N5 : New P w K mg base "Times" C.t ["self", "box", "rows"] 8 (spNt C 6)) (N6 : New P w K mg base "While" C.w ["self", "box", "marks", "rows"] 8 (spNw C 6)) (hk9 : 9 ≤ k) : WFn P w K mg base (k + 1) f fd ["_law_thing"] (spMa C (d + 1)) := by
  have nd := scMa.nd
  refine fn3 F scMa (fun ws G q e h => by obtain ⟨_, _, rfl, _⟩ := h; rfl) (fun cdv A outer s H E hr => ?_)
  apply bodyOf
  · refine' qss_cons ?s1 (qss_cons ?s2 ?s3)
    case s1 =>
      refine' qs_if ?c1 (qss_one (qs_ret (qe_new N5 (Room.mono hr (by assumption)) rfl (qa_cons ?b1 (qa_cons (qe_comp2 (compSc (by first | rfl | decide +kernel)) rfl ?i1 (fun _ _ _ _ => ?g1) (fun _ _ _ _ => ?t1) (fun _ _ _ _ => ?e1)) qa_nil))))) qss_nil
      case c1 => exact (qt_cmp (q_eqG hr) (qe_ix q_ixD (qe_var 0 rfl (.inl rfl)) qe_int (fun _ _ => rfl)) qe_str (nomark _))
      case b1 => exact (qe_ix q_ixD qe_str (qe_op q_mod (qe_ix q_ixD (qe_var 0 rfl (.inl rfl)) qe_int (fun _ _ => rfl)) qe_int) (fun _ _ => rfl))
      case i1 => exact (qi_seqS (qe_ix q_ixD (qe_var 0 rfl (.inl rfl)) qe_int (fun _ _ => rfl)))
      case g1 => exact (qg_nameB 1 (by first | assumption | decide +kernel | rfl) rfl (.inl rfl))
      case t1 => exact qts_nil
      case e1 => exact (qe_fxn F0 (Room.mono hr (by omega)) rfl (qa_cons (qe_var 1 rfl (.inl rfl)) qa_nil))
    case s2 =>
      refine' qs_if ?c2 (qss_one (qs_ret (qe_new N6 (Room.mono hr (by assumption)) rfl (qa_cons ?b2 (qa_cons ?m2 (qa_cons (qe_comp2 (compSc (by first | rfl | decide +kernel)) rfl ?i2 (fun _ _ _ _ => ?g2) (fun _ _ _ _ => ?t2) (fun _ _ _ _ => ?e2)) qa_nil)))))) qss_nil
      case c2 => exact (qt_cmp (q_eqG hr) (qe_ix q_ixD (qe_var 0 rfl (.inl rfl)) qe_int (fun _ _ => rfl)) qe_str (nomark _))
      case b2 => exact qe_str
      case m2 => exact (qe_ix q_ixD (qe_var 0 rfl (.inl rfl)) qe_int (fun _ _ => rfl))
      case i2 => exact (qi_seqS (qe_ix q_ixD (qe_var 0 rfl (.inl rfl)) qe_int (fun _ _ => rfl)))
      case g2 => exact (qg_nameB 1 (by first | assumption | decide +kernel | rfl) rfl (.inl rfl))
      case t2 => exact qts_nil
      case e2 => exact (qe_fxn F0 (Room.mono hr (by omega)) rfl (qa_cons (qe_var 1 rfl (.inl rfl)) qa_nil))
    case s3 => exact (qss_cons (qs_if (qt_cmp (q_eqG hr) (qe_op q_mod (qe_ix q_ixD (qe_var 0 rfl (.inl rfl)) qe_int (fun _ _ => rfl)) qe_int) qe_int (nomark _)) (qss_cons (qs_ret (qe_new N1 (Room.mono hr (by omega)) rfl (qa_cons qe_str (qa_cons (qe_ix q_ixD (qe_var 0 rfl (.inl rfl)) qe_int (fun _ _ => rfl)) qa_nil)))) qss_nil) qss_nil) (qss_cons (qs_if (qt_cmp (q_eqG hr) (qe_op q_mod (qe_ix q_ixD (qe_var 0 rfl (.inl rfl)) qe_int (fun _ _ => rfl)) qe_int) qe_int (nomark _)) (qss_cons (qs_ret (qe_new N2 (Room.mono hr (by omega)) rfl (qa_cons qe_str (qa_cons qe_str qa_nil)))) qss_nil) qss_nil) (qss_cons (qs_if (qt_cmp (q_eqG hr) (qe_op q_mod (qe_ix q_ixD (qe_var 0 rfl (.inl rfl)) qe_int (fun _ _ => rfl)) qe_int) qe_int (nomark _)) (qss_cons (qs_ret (qe_new N3 (Room.mono hr (by omega)) rfl (qa_cons qe_str (qa_cons qe_str qa_nil)))) qss_nil) qss_nil) (qss_cons (qs_ret (qe_new N4 (Room.mono hr (by omega)) rfl (qa_cons qe_str qa_nil))) qss_nil))))
  · rintro ws G q e ⟨x, r, rfl, hx, hs, hz, h4, hd, hq⟩
    have fin : ∀ (r' : Pl) (p : Addr) (G' : Gp), r'.row = r → G p = none → G' p = some (.ins (C.at_ r'.kd) r'.fs) → (∀ x, x ≠ p → G' x = updG G p (.ins (C.at_ r'.kd) []) x) → q (.ref p) G' := fun r' p G' hk hp h1 h2 => by
      subst hk
      refine hq p G' (fun x g e => ?_) hp (r'.at h1)
      have xp : x ≠ p := fun z => by rw [z, hp] at e; cases e
      rw [h2 x xp, updG_ne xp]
      exact e
    cases hx with
    | plain =>
      rename_i c n
      refine seqU fun U hU => ?_
      walk_at "R"
      subst hU
      refine seqU fun U hU => ?_
      walk_at "R"
      subst hU
      refine seqU fun U hU => ?_
      walk_at "R"
      by_cases h0 : c % 4 = 0
      · rw [if_pos h0]
        exact fun p hp => ⟨p, .set "a" n, rfl, rfl, updG_same, fun G' h1 h2 => ⟨rfl, GLe.done (fin (.set "a" n) p G' (by unfold plainR; rw [if_pos h0]; rfl) hp h1 h2)⟩⟩
      rw [if_neg h0]
      subst hU
      refine seqU fun U hU => ?_
      walk_at "R"
      by_cases h1 : c % 4 = 1
      · rw [if_pos h1]
        exact fun p hp => ⟨p, .copy "b" "c", rfl, rfl, updG_same, fun G' g1 h2 => ⟨rfl, GLe.done (fin (.copy "b" "c") p G' (by unfold plainR; rw [if_neg h0, if_pos h1]; rfl) hp g1 h2)⟩⟩
      rw [if_neg h1]
      subst hU
      refine seqU fun U hU => ?_
      walk_at "R"
      by_cases h2 : c % 4 = 2
      · rw [if_pos h2]
        exact fun p hp => ⟨p, .add "c" "c", rfl, rfl, updG_same, fun G' g1 g2 => ⟨rfl, GLe.done (fin (.add "c" "c") p G' (by unfold plainR; rw [if_neg h0, if_neg h1, if_pos h2]; rfl) hp g1 g2)⟩⟩
      rw [if_neg h2]
      subst hU
      walk_at "R"
      exact fun p hp => ⟨p, .less "d", rfl, rfl, updG_same, fun G' g1 g2 => ⟨rfl, GLe.done (fin (.less "d") p G' (by unfold plainR; rw [if_neg h0, if_neg h1, if_neg h2]; rfl) hp g1 g2)⟩⟩
    | times h hs' =>
      rename_i l kk ws rs
      have z5 : tzs rs + 1 ≤ 40 := hz
      have d5 : rs.dt + 1 ≤ 4 := h4
      have d6 : rs.dt + 1 < d + 1 := hd
      obtain ⟨ps, rfl, hT, hS, ht, hdd, es, z, hL⟩ := ths_in (d := d) hs' hs.1 (by (clear F F0 N1 N2 N3 N4 N5 N6 hk9 nd hr h hs' hs hz h4 hd hq fin d5 d6; omega)) (by (clear F F0 N1 N2 N3 N4 N5 N6 hk9 nd hr h hs' hs hz h4 hd hq fin z5 d6; omega)) (by (clear F F0 N1 N2 N3 N4 N5 N6 hk9 nd hr h hs' hs hz h4 hd hq fin z5 d5; omega))
      obtain ⟨c, hc⟩ := letter_at kk
      have hl3 := hs.2
      rw [hL, List.length_map] at hl3
      have er : Rqs.of (trs ps) = rs := by rw [← hL, Rqs.of_L]
      walk_at "R"
      refine ⟨by decide +kernel, c, hc, _, h, made_comp (n := 1) h hT hS ht hdd (by exact Nat.le_trans (by assumption) (Nat.le_of_ble_eq_true rfl)) (fun _ => rfl) fun xs G5 le5 hX hts pm _ hpm pt hpt => ?_⟩
      have gm6 := updG_same (G := G5) (a := pm) (g := GO.lst (refs xs))
      have le6 := le5.trans (GLe.new (g := GO.lst (refs xs)) hpm)
      have hX6 : Rows C (updG G5 pm (GO.lst (refs xs))) xs := hX.mono (GLe.ins (GLe.new hpm))
      generalize updG G5 pm (GO.lst (refs xs)) = G6 at gm6 le6 hX6 hpt ⊢
      have ers : Rqs.of (xs.map (·.2)) = rs := by rw [show xs.map (·.2) = trs ps from hts]; exact er
      refine ⟨pt, _, pm, xs, rfl, updG_same, updG_ne' gm6 hpt, hX6.mono (GLe.ins (GLe.new hpt)), by rw [ers]; exact z, by rw [ers]; exact stts_kds hs.1, fun G7 g7 k7 => ⟨rfl, ?_⟩⟩
      have le7 : GLe G6 G7 := fun x g e => (k7 x (fun z => by rw [z, hpt] at e; cases e)).trans (updG_ne' e hpt)
      have hA := (hX6.mono (GLe.ins le7)).ats
      rw [ers] at g7 hA
      rw [letter_is hc] at hq
      exact GLe.done (hq pt G7 (le6.trans le7) (fresh_of le6 hpt) (.times g7 hA))
    | whl h hm ok hs' =>
      rename_i l m ms ws rs
      have z5 : tzs rs + 1 ≤ 40 := hz
      have d5 : rs.dt + 1 ≤ 4 := h4
      have d6 : rs.dt + 1 < d + 1 := hd
      obtain ⟨ps, rfl, hT, hS, ht, hdd, es, z, hL⟩ := ths_in (d := d) hs' hs.1 (by (clear F F0 N1 N2 N3 N4 N5 N6 hk9 nd hr h hm ok hs' hs hz h4 hd hq fin d5 d6; omega)) (by (clear F F0 N1 N2 N3 N4 N5 N6 hk9 nd hr h hm ok hs' hs hz h4 hd hq fin z5 d6; omega)) (by (clear F F0 N1 N2 N3 N4 N5 N6 hk9 nd hr h hm ok hs' hs hz h4 hd hq fin z5 d5; omega))
      refine seqU fun U hU => ?_
      walk_at "R"
      subst hU
      have hl3 := hs.2.1
      rw [hL, List.length_map] at hl3
      have er : Rqs.of (trs ps) = rs := by rw [← hL, Rqs.of_L]
      walk_at "R"
      refine ⟨_, h, made_comp (n := 1) h hT hS ht hdd (by exact Nat.le_trans (by assumption) (Nat.le_of_ble_eq_true rfl)) (fun _ => rfl) fun xs G5 le5 hX hts pm _ hpm pt hpt => ?_⟩
      have gm6 := updG_same (G := G5) (a := pm) (g := GO.lst (refs xs))
      have le6 := le5.trans (GLe.new (g := GO.lst (refs xs)) hpm)
      have hX6 : Rows C (updG G5 pm (GO.lst (refs xs))) xs := hX.mono (GLe.ins (GLe.new hpm))
      generalize updG G5 pm (GO.lst (refs xs)) = G6 at gm6 le6 hX6 hpt ⊢
      have ers : Rqs.of (xs.map (·.2)) = rs := by rw [show xs.map (·.2) = trs ps from hts]; exact er
      have ok1 := ok.1
      refine ⟨pt, _, m, pm, ms, xs, rfl, updG_same, updG_ne' (le6 _ _ hm) hpt, by exact Nat.le_trans (by assumption) (Nat.le_of_ble_eq_true rfl), fun x hx => (ok.2 x hx).dp, updG_ne' gm6 hpt, hX6.mono (GLe.ins (GLe.new hpt)), by rw [ers]; exact z, by rw [ers]; exact stts_kds hs.1, fun G7 g7 k7 => ⟨rfl, ?_⟩⟩
      have le7 : GLe G6 G7 := fun x g e => (k7 x (fun z => by rw [z, hpt] at e; cases e)).trans (updG_ne' e hpt)
      have hA := (hX6.mono (GLe.ins le7)).ats
      rw [ers] at g7 hA
      exact GLe.done (hq pt G7 (le6.trans le7) (fresh_of le6 hpt) (.whl g7 hA))
theorem fxMa {C : Cs} (T : Txt K mg) (N1 : New P w K mg base "Set" C.s ["self", "box", "amount"] 1 (spIn C 0)) (N2 : New P w K mg base "Copy" C.c ["self", "box", "other"] 1 (spIn C 1)) (N3 : New P w K mg base "Add" C.a ["self", "box", "other"] 1 (spIn C 2)) (N4 : New P w K mg base "Less" C.l ["self", "box"] 1 (spIn C 3)) (N5 : New P w K mg base "Times" C.t ["self", "box", "rows"] 8 (spNt C 6)) (N6 : New P w K mg base "While" C.w ["self", "box", "marks", "rows"] 8 (spNw C 6)) : ∀ d : Nat, Fx P w K mg base "_law_made" ["_law_thing"] (d + 9) (spMa C d)
  | 0 => T.d__law_made.fx fun f fd F => WFn.none fun ws G q e ⟨t, _, _, _, _, _, _, h, _⟩ => by (clear T N1 N2 N3 N4 N5 N6 F; omega)
  | d + 1 => T.d__law_made.fx fun f fd F => fnMa F (fxMa T N1 N2 N3 N4 N5 N6 d) N1 N2 N3 N4 N5 N6 (by (clear T N1 N2 N3 N4 N5 N6 F; omega))

/-! the law -/
noncomputable def spWt (C : Cs) : WSp := spWeL C 6
theorem scWt : FnScope ["rows"] ["rows"] (defScope (top 29)) := ⟨rfl, rfl, rfl, by decide +kernel, rfl, by decide +kernel, by decide +kernel⟩
theorem fnWt {C : Cs} (F : Fun K "weight" "weight" (top 29) f fd) (F1 : Fx P w K mg base "weight_of" ["things"] 7 (spWeL C 6)) : WFn P w K mg base 8 f fd ["rows"] (spWt C) := by
  have nd := scWt.nd
  refine fn3 F scWt (fun ws G q e h => by obtain ⟨_, _, rfl, _⟩ := h; rfl) (fun cdv A outer s H E hr => ?_)
  apply bodyOf
  · exact (qss_cons (qs_ret (qe_fxn F1 (Room.mono hr (by omega)) rfl (qa_cons (qe_var 0 rfl (.inl rfl)) qa_nil))) qss_nil)
  · rintro ws G q e ⟨l, ps, rfl, h1, h2, h3, h4, hq⟩
    walk_at "R"
    exact ⟨l, ps, rfl, h1, h2, h3, h4, GLe.done hq⟩
theorem scLw : FnScope ["_law_script", "_law_rows_here", "_law_made_here", "_law_handed", "_law_due"] ["_law_script"] (defScope (top 39)) := ⟨rfl, rfl, rfl, by decide +kernel, rfl, by decide +kernel, by decide +kernel⟩
theorem fnLw {C : Cs} (F : Fun K "law" "law" (top 39) f fd) (F1 : Fx P w K mg base "_law_rows" ["_law_cells"] 7 spRo) (F2 : Fx P w K mg base "_law_made" ["_law_thing"] 14 (spMa C 5)) (F3 : Fx P w K mg base "_law_weight" ["_law_rows_here"] 16 (spLt 5)) (F4 : Fx P w K mg base "weight" ["rows"] 8 (spWt C)) (mli : mg "list" = none) : WFn P w K mg base 100 f fd ["_law_script"] spLawC := by
  have nd := scLw.nd
  refine fn3 (k := 99) F scLw (fun ws G q e h => by obtain ⟨_, rfl, _⟩ := h; rfl) (fun cdv A outer s H E hr => ?_)
  apply bodyOf
  · refine' qss_cons ?s1 (qss_cons ?s2 ?s3)
    case s1 => exact (qs_set 1 nd rfl (.inl rfl) (qe_fxn F1 (Room.mono hr (by omega)) rfl (qa_cons (qe_sliceS (qe_var 0 rfl (.inl rfl)) qo_none (qo_some qe_int)) qa_nil)))
    case s2 =>
      refine' qs_comp2 2 (compSc (by first | rfl | decide +kernel)) rfl (by assumption) rfl (by first | exact Or.inl rfl | exact Or.inr rfl) ?it (fun _ _ _ _ => ?tg) (fun _ _ _ _ => ?tt) (fun _ _ _ _ => ?te)
      case it => exact (qi_seqS (qe_var 1 rfl (.inl rfl)))
      case tg => exact (qg_nameB 1 (by first | assumption | decide +kernel | rfl) rfl (.inl rfl))
      case tt => exact qts_nil
      case te => exact (qe_fxn F2 (Room.mono hr (by omega)) rfl (qa_cons (qe_var 1 rfl (.inl rfl)) qa_nil))
    case s3 => exact (qss_cons (qs_set 3 nd rfl (.inl rfl) (qe_callTy (q_listD rfl) rfl mli b_list (qa_cons (qe_var 2 rfl (.inl rfl)) qa_nil))) (qss_cons (qs_set 4 nd rfl (.inl rfl) (qe_fxn F3 (Room.mono hr (by omega)) rfl (qa_cons (qe_var 1 rfl (.inl rfl)) qa_nil))) (qss_cons (qs_if (qt_w (qw_or (qt_cmp (q_neG hr) (qe_fxn F4 (Room.mono hr (by omega)) rfl (qa_cons (qe_var 3 rfl (.inl rfl)) qa_nil)) (qe_var 4 rfl (.inl rfl)) (nomark _)) (qw_or1 (qt_cmp (q_neG hr) (qe_var 3 rfl (.inl rfl)) (qe_var 2 rfl (.inl rfl)) (nomark _))))) (qss_cons (qs_ret qe_bl) qss_nil) qss_nil) (qss_cons (qs_if (qt_cmp (q_neG hr) (qe_fxn F4 (Room.mono hr (by omega)) rfl (qa_cons (qe_sliceS (qe_var 2 rfl (.inl rfl)) (qo_some qe_int) qo_none) qa_nil)) (qe_fxn F3 (Room.mono hr (by omega)) rfl (qa_cons (qe_sliceS (qe_var 1 rfl (.inl rfl)) (qo_some qe_int) qo_none) qa_nil)) (nomark _)) (qss_cons (qs_ret qe_bl) qss_nil) qss_nil) (qss_cons (qs_ret (qe_and (qe_cmp (q_eqG hr) (qe_fxn F4 (Room.mono hr (by omega)) rfl (qa_cons (qe_var 3 rfl (.inl rfl)) qa_nil)) (qe_var 4 rfl (.inl rfl)) (nomark _)) (qe_one (qe_cmp (q_eqG hr) (qe_fxn F4 (Room.mono hr (by omega)) rfl (qa_cons (qe_lst qa_nil) qa_nil)) (qe_tup qa_nil) (nomark _))))) qss_nil)))))
  · rintro ws G q e ⟨ns, rfl, hns, _, hq⟩
    refine seqU fun U hU => ?_
    walk_at "R"
    refine ⟨by exact Nat.le_trans (by assumption) (Nat.le_of_ble_eq_true rfl), fun pc hpc => ?_⟩
    rw [show cutW (List.map W.int ns) none (some 40) = (ns.take 40).map W.int from by rw [show (40 : Int) = ((40 : Nat) : Int) from rfl, cut_to, ← List.map_take]]
    refine ⟨pc, ns.take 40, rfl, updG_same, by rw [List.length_take]; (clear F F1 F2 F3 F4 mli nd hr hq hU hpc; omega), fun pr ps G2 le2 _ g2 hT hS hpl ht => ?_⟩
    have hz := hS.sz ht
    have hkd := stts_kds hS.sts
    have ed : sumQ (trs ps) = (Rqs.of (trs ps)).wt := (sumQ_of _).symm
    subst hU
    refine seqU fun U hU => ?_
    walk_at "R"
    refine ⟨_, g2, made_comp (n := 1) g2 hT hS ht (fun y hy => Nat.lt_succ_of_le (hS y hy).2) (by exact Nat.le_trans (by assumption) (Nat.le_of_ble_eq_true rfl)) (fun _ => rfl) fun xs G3 le3 hX hts pm _ hpm => ?_⟩
    have hxl : xs.length = ps.length := by have := congrArg List.length hts; simpa using this
    have g3m := updG_same (G := G3) (a := pm) (g := GO.lst (refs xs))
    have g3r := updG_ne' (g := GO.lst (refs xs)) (le3 _ _ g2) hpm
    have hX3 := hX.mono (GLe.ins (GLe.new (g := GO.lst (refs xs)) hpm))
    have hT3 := hT.mono (GLe.ls (le3.trans (GLe.new (g := GO.lst (refs xs)) hpm)))
    generalize updG G3 pm (GO.lst (refs xs)) = G4 at g3m g3r hX3 hT3 ⊢
    subst hU
    refine seqU fun U hU => ?_
    walk_at "R"
    refine ⟨_, .lst g3m, fun ph hph => ?_⟩
    have g5m := updG_ne' (g := GO.lst (refs xs)) g3m hph
    have g5h := updG_same (G := G4) (a := ph) (g := GO.lst (refs xs))
    have g5r := updG_ne' (g := GO.lst (refs xs)) g3r hph
    have hX5 := hX3.mono (GLe.ins (GLe.new (g := GO.lst (refs xs)) hph))
    have hT5 := hT3.mono (GLe.ls (GLe.new (g := GO.lst (refs xs)) hph))
    generalize updG G4 ph (GO.lst (refs xs)) = G5 at g5m g5h g5r hX5 hT5 ⊢
    clear hX3 hT3 g3m g3r
    have ex : Rqs.of (xs.map (·.2)) = Rqs.of (trs ps) := by rw [show xs.map (·.2) = trs ps from hts]
    have zx : Szs (Rqs.of (xs.map (·.2))) := by rw [ex]; exact hz
    have kx : Kds 6 (Rqs.of (xs.map (·.2))) := by rw [ex]; exact hkd
    subst hU
    refine seqU fun U hU => ?_
    walk_at "R"
    refine ⟨pr, ps, rfl, g5r, hT5, hS, ht, fun y hy => Nat.lt_succ_of_le (hS y hy).2, ?_⟩
    subst hU
    refine seqU fun U hU => ?_
    walk_at "R"
    refine ⟨ph, xs, rfl, g5h, hX5, zx, kx, ?_⟩
    rw [ex, ← ed]
    have wo := Rqs.wq _ hz.nn
    rw [← ed] at wo
    have td : ∀ o : O, o.dp ≤ 4 → (W.tup (encP o)).dep ≤ 150 := fun o h => Nat.le_trans (tup_dep o) (by (clear F F1 F2 F3 F4 mli nd hr hns hq hpc le2 g2 hT hS hpl ht hz hkd ed le3 hX hts hpm hxl hph g5m g5h g5r hX5 hT5 ex zx kx hU wo; omega))
    have ee : ∀ o : O, (W.tup (encP o)).eq (W.tup (encP o)) = true := fun o => W.eq_refl _ (tup_flat o)
    refine ⟨tup_flat _, tup_flat _, td _ wo.dp, ?_⟩
    rw [if_neg (by rw [ee]; decide)]
    refine ⟨true, .deep g5h g5m rfl (fun j x y hx hy => ?_), ?_⟩
    · rw [hx] at hy
      cases hy
      rw [List.getElem?_map] at hx
      obtain ⟨z, _, rfl⟩ := Option.map_eq_some_iff.mp hx
      exact .same
    rw [if_neg (by decide)]
    subst hU
    refine seqU fun U hU => ?_
    walk_at "R"
    refine ⟨_, g5m, fun p6 hp6 => ?_⟩
    rw [show cutW (refs xs) (some 1) none = refs (xs.drop 1) from by rw [show (1 : Int) = ((1 : Nat) : Int) from rfl, cut_from, ← List.map_drop]]
    have hS1 : Stt (ps.drop 1) := fun y hy => hS y (List.mem_of_mem_drop hy)
    have ht1 : tsum (ps.drop 1) ≤ 40 := by have := tsum_cut ps 1; (clear F F1 F2 F3 F4 mli nd hr hns hq hpc le2 g2 hT hS hpl hz hkd ed le3 hX hts hpm hxl hph g5m g5h g5r hX5 hT5 ex zx kx wo td ee hU hp6 hS1; omega)
    have hz1 := hS1.sz ht1
    have ex1 : Rqs.of ((xs.drop 1).map (·.2)) = Rqs.of (trs (ps.drop 1)) := by
      rw [List.map_drop, show xs.map (·.2) = trs ps from hts]
      simp only [trs, List.map_drop]
    have ed1 : sumQ (trs (ps.drop 1)) = (Rqs.of (trs (ps.drop 1))).wt := (sumQ_of _).symm
    have wo1 := Rqs.wq _ hz1.nn
    rw [← ed1] at wo1
    have g6h := updG_ne' (g := GO.lst (refs (xs.drop 1))) g5h hp6
    have g6r := updG_ne' (g := GO.lst (refs (xs.drop 1))) g5r hp6
    have g6p := updG_same (G := G5) (a := p6) (g := GO.lst (refs (xs.drop 1)))
    have hX6 := hX5.mono (GLe.ins (GLe.new (g := GO.lst (refs (xs.drop 1))) hp6))
    have hT6 := hT5.mono (GLe.ls (GLe.new (g := GO.lst (refs (xs.drop 1))) hp6))
    generalize updG G5 p6 (GO.lst (refs (xs.drop 1))) = G6 at g6h g6r g6p hX6 hT6 ⊢
    refine ⟨p6, xs.drop 1, rfl, g6p, fun y hy => hX6 y (List.mem_of_mem_drop hy), by rw [ex1]; exact hz1, by rw [ex1]; exact stts_kds hS1.sts, ?_⟩
    rw [ex1, ← ed1]
    refine ⟨_, g6r, fun p7 hp7 => ?_⟩
    rw [show cutW (tws ps) (some 1) none = tws (ps.drop 1) from by rw [show (1 : Int) = ((1 : Nat) : Int) from rfl, cut_from, ← List.map_drop]]
    have g7h := updG_ne' (g := GO.lst (tws (ps.drop 1))) g6h hp7
    have g7p := updG_same (G := G6) (a := p7) (g := GO.lst (tws (ps.drop 1)))
    have hX7 := hX6.mono (GLe.ins (GLe.new (g := GO.lst (tws (ps.drop 1))) hp7))
    have hT7 := hT6.mono (GLe.ls (GLe.new (g := GO.lst (tws (ps.drop 1))) hp7))
    generalize updG G6 p7 (GO.lst (tws (ps.drop 1))) = G7 at g7h g7p hX7 hT7 ⊢
    refine ⟨p7, ps.drop 1, rfl, g7p, fun y hy => hT7 y (List.mem_of_mem_drop hy), hS1, ht1, fun y hy => Nat.lt_succ_of_le (hS1 y hy).2, ?_⟩
    walk_at "R"
    refine ⟨tup_flat _, tup_flat _, td _ wo1.dp, ?_⟩
    rw [if_neg (by rw [ee]; decide)]
    subst hU
    walk_at "R"
    refine ⟨ph, xs, rfl, g7h, hX7, zx, kx, ?_⟩
    rw [ex, ← ed]
    refine ⟨tup_flat _, tup_flat _, td _ wo.dp, ?_⟩
    rw [if_pos (ee _)]
    intro p8 hp8
    exact ⟨p8, [], rfl, updG_same, (fun _ h => (nomatch h)), ⟨trivial, by decide, by decide⟩, (fun _ h => (nomatch h)), nil_flat, by rw [show encP (Rqs.of (([] : List (Addr × Row)).map (·.2))).wt = [] from rfl, nil_dep]; decide, GLe.done (hq _)⟩
theorem law_ok (T : Txt K mg) (F : Fun K "law" "law" (top 39) f fd) : WFn P w K mg base 100 f fd ["_law_script"] spLawC := by
  obtain ⟨C1, m1, c1, a11, a12, i1, s1, w1, D, mD, xD, r1⟩ := T.k_Set
  obtain ⟨C2, m2, c2, a21, a22, i2, s2, w2, D2, mD2, xD2, r2⟩ := T.k_Copy
  obtain ⟨C3, m3, c3, a31, a32, i3, s3, w3, D3, mD3, xD3, r3⟩ := T.k_Add
  obtain ⟨C4, m4, c4, a41, i4, s4, w4, D4, mD4, xD4, r4⟩ := T.k_Less
  obtain ⟨C5, m5, c5, a51, a52, a53, i5, w5, s5, D5, mD5, xD5, r5⟩ := T.k_Times
  obtain ⟨C6, m6, c6, a61, a62, a63, a64, i6, w6, s6, me6, D6, mD6, xD6, r6⟩ := T.k_While
  generalize hC : (⟨C1, C2, C3, C4, C5, C6, C1, C1⟩ : Cs) = C
  have e1 : C.s = C1 := by rw [← hC]
  have e2 : C.c = C2 := by rw [← hC]
  have e3 : C.a = C3 := by rw [← hC]
  have e4 : C.l = C4 := by rw [← hC]
  have e5 : C.t = C5 := by rw [← hC]
  have e6 : C.w = C6 := by rw [← hC]
  clear hC
  subst e1 e2 e3 e4 e5 e6
  have Wd := T.d_is_whole.fxd (P := P) (w := w) (base := base) fun f fd T' ds F => fnWh F T.z_isinstance T.z_int T.z_bool
  have Rs := T.d_raised.fx fun f fd T' ds F => fnRs F Wd
  have Rd := T.d_raised.fxd fun f fd T' ds F => fnRs F Wd
  have Wl := T.d_whole.fx fun f fd F => fnWl F Rs
  have En := T.d_endless.fx fun f fd F => fnEn F Wl Rd
  have Cm := T.d_compare.fx (P := P) (w := w) (base := base) fun f fd F => fnCm F
  have Pa := T.d_parts_above.fx fun f fd F => fnPa F Cm T.z_len
  have Ps := T.d_plus.fx fun f fd F => fnPs F Pa T.z_len
  have Wp := T.d_whole_part.fx (P := P) (w := w) (base := base) fun f fd F => fnWp F
  have Ww := T.d_without_whole.fx fun f fd F => fnWo F Wp
  have Ti := T.d_times.fx fun f fd F => fnTi F Wp Ww Ps T.z_tuple
  have Tt := T.d_total.fx fun f fd F => fnTt F Ps
  have M1 : ∀ i, i < 6 → Mt P w K mg base (C.at_ i) "weigh" ["self"] 6 (spWg C i) [] := fun i hi => by
    match i, hi with
    | 0, _ => exact w1.mt c1 fun f fd F => fnWg (by decide) F Wl
    | 1, _ => exact w2.mt c2 fun f fd F => fnWg (by decide) F Wl
    | 2, _ => exact w3.mt c3 fun f fd F => fnWg (by decide) F Wl
    | 3, _ => exact w4.mt c4 fun f fd F => fnWg (by decide) F Wl
    | 4, _ => exact w5.mt c5 fun f fd F => fnTw F Ti En c5 a53
    | 5, _ => exact w6.mt c6 fun f fd F => fnWw F Ti Wl Ps Rd c6 a64 a62
  have We := T.d_weight_of.fx fun f fd F => fnWe F Tt M1 T.z_reversed
  have WeL := T.d_weight_of.fx fun f fd F => fnWeL F Tt M1 T.z_reversed
  have Wt := T.d_weight.fx fun f fd F => fnWt F WeL
  have Be := T.d_by_exponent.fx (P := P) (w := w) (base := base) fun f fd F => fnBe F T.z_tuple T.z_sorted
  have N1 := i1.new (P := P) (w := w) (base := base) m1 fun f fd F => fnN1 F c1 a11 a12
  have N2 := i2.new (P := P) (w := w) (base := base) m2 fun f fd F => fnN2 F c2 a21 a22
  have N3 := i3.new (P := P) (w := w) (base := base) m3 fun f fd F => fnN3 F c3 a31 a32
  have N4 := i4.new (P := P) (w := w) (base := base) m4 fun f fd F => fnN4 F c4 a41
  have N5 := i5.new m5 fun f fd F => fnNt F We Wl Ps T.z_tuple c5 a51 a52 a53
  have N6 := i6.new m6 fun f fd F => fnNw F Be We Wl Ps T.z_tuple c6 a61 a62 a63 a64
  have Ex := T.d__law_exponent.fx fun f fd F => fnEx F Wl En Ps Rs
  have Mk := T.d__law_marks.fx fun f fd F => fnMk F Ex T.z_range
  have Dp := fxDp (P := P) (w := w) (base := base) T 5
  have Ro := T.d__law_rows.fx fun f fd F => fnRo F Dp Mk T.z_max
  have Ma := fxMa T N1 N2 N3 N4 N5 N6 5
  have Ht := T.d__law_height.fx fun f fd F => fnHt F Wl Cm Ps Rd T.z_len
  have Lt := fxOL T Wl En Ps Ti Ht 5
  exact fnLw F Ro Ma Lt Wt T.z_list


end
set_option maxHeartbeats 0 in
theorem all_mk {l : PySem.W.OpenLaw} {w : World} {K : PySem.W.Frag} {h : Heap} {mg : Str → Option Value} {fa f1 f2 f3 f4 f5 f6 f7 f8 f9 f10 f11 f12 f13 f14 f15 f16 f17 f18 f19 f20 f21 f22 f23 f24 : Addr} (X : K.In h) (G : h.Ns mainGlobals mg) (hfa : mg "law" = some (.ref fa))
    {od1 an1 od2 an2 od3 an3 od4 an4 od5 an5 od6 an6 od7 an7 od8 an8 od9 an9 od10 an10 od11 an11 od12 an12 od13 an13 od14 an14 od15 an15 od16 an16 od17 an17 od18 an18 od19 an19 od20 an20 od21 an21 od22 an22 od23 an23 od24 an24 : Option Addr} {sl1 sl2 sl3 sl4 sl5 sl6 sl7 sl8 sl9 sl10 sl11 sl12 sl13 sl14 sl15 sl16 sl17 sl18 sl19 sl20 sl21 sl22 sl23 sl24 : Array (Option Value)} {oc1 kV1 dc1 pm1 cd1 ct1 oc2 kV2 dc2 pm2 cd2 ct2 oc3 kV3 dc3 pm3 cd3 ct3 oc4 kV4 dc4 pm4 cd4 ct4 oc5 kV5 dc5 pm5 cd5 ct5 oc6 kV6 dc6 pm6 cd6 ct6 oc7 kV7 dc7 pm7 cd7 ct7 oc8 kV8 dc8 pm8 cd8 ct8 oc9 kV9 dc9 pm9 cd9 ct9 oc10 kV10 dc10 pm10 cd10 ct10 oc11 kV11 dc11 pm11 cd11 ct11 oc12 kV12 dc12 pm12 cd12 ct12 oc13 kV13 dc13 pm13 cd13 ct13 oc14 kV14 dc14 pm14 cd14 ct14 oc15 kV15 dc15 pm15 cd15 ct15 oc16 kV16 dc16 pm16 cd16 ct16 oc17 kV17 dc17 pm17 cd17 ct17 oc18 kV18 dc18 pm18 cd18 ct18 oc19 kV19 dc19 pm19 cd19 ct19 oc20 kV20 dc20 pm20 cd20 ct20 oc21 kV21 dc21 pm21 cd21 ct21 oc22 kV22 dc22 pm22 cd22 ct22 oc23 kV23 dc23 pm23 cd23 ct23 oc24 kV24 dc24 pm24 cd24 ct24 : Value} {T2 : Addr} {tc2 : Value} {td2 : Option Addr} {tn2 : Nat} {ts2 : Array (Option Value)} {tk2_0 : Tok} {T5 : Addr} {tc5 : Value} {td5 : Option Addr} {tn5 : Nat} {ts5 : Array (Option Value)} {tk5_0 : Tok} {kc0 : Addr} {mf0_0 : Addr} {md0_0 man0_0 : Option Addr} {msl0_0 : Array (Option Value)} {moc0_0 mkV0_0 mdc0_0 mpm0_0 mcd0_0 mct0_0 : Value} {mf0_1 : Addr} {md0_1 man0_1 : Option Addr} {msl0_1 : Array (Option Value)} {moc0_1 mkV0_1 mdc0_1 mpm0_1 mcd0_1 mct0_1 : Value} {mf0_100 : Addr} {md0_100 man0_100 : Option Addr} {msl0_100 : Array (Option Value)} {moc0_100 mkV0_100 mdc0_100 mpm0_100 mcd0_100 mct0_100 : Value} {kb0 : Addr} {kbd0 : ClassData} {kc1 : Addr} {mf1_0 : Addr} {md1_0 man1_0 : Option Addr} {msl1_0 : Array (Option Value)} {moc1_0 mkV1_0 mdc1_0 mpm1_0 mcd1_0 mct1_0 : Value} {mf1_1 : Addr} {md1_1 man1_1 : Option Addr} {msl1_1 : Array (Option Value)} {moc1_1 mkV1_1 mdc1_1 mpm1_1 mcd1_1 mct1_1 : Value} {mf1_100 : Addr} {md1_100 man1_100 : Option Addr} {msl1_100 : Array (Option Value)} {moc1_100 mkV1_100 mdc1_100 mpm1_100 mcd1_100 mct1_100 : Value} {kb1 : Addr} {kbd1 : ClassData} {kc2 : Addr} {mf2_0 : Addr} {md2_0 man2_0 : Option Addr} {msl2_0 : Array (Option Value)} {moc2_0 mkV2_0 mdc2_0 mpm2_0 mcd2_0 mct2_0 : Value} {mf2_1 : Addr} {md2_1 man2_1 : Option Addr} {msl2_1 : Array (Option Value)} {moc2_1 mkV2_1 mdc2_1 mpm2_1 mcd2_1 mct2_1 : Value} {mf2_100 : Addr} {md2_100 man2_100 : Option Addr} {msl2_100 : Array (Option Value)} {moc2_100 mkV2_100 mdc2_100 mpm2_100 mcd2_100 mct2_100 : Value} {kb2 : Addr} {kbd2 : ClassData} {kc3 : Addr} {mf3_0 : Addr} {md3_0 man3_0 : Option Addr} {msl3_0 : Array (Option Value)} {moc3_0 mkV3_0 mdc3_0 mpm3_0 mcd3_0 mct3_0 : Value} {mf3_1 : Addr} {md3_1 man3_1 : Option Addr} {msl3_1 : Array (Option Value)} {moc3_1 mkV3_1 mdc3_1 mpm3_1 mcd3_1 mct3_1 : Value} {mf3_100 : Addr} {md3_100 man3_100 : Option Addr} {msl3_100 : Array (Option Value)} {moc3_100 mkV3_100 mdc3_100 mpm3_100 mcd3_100 mct3_100 : Value} {kb3 : Addr} {kbd3 : ClassData} {kc4 : Addr} {mf4_0 : Addr} {md4_0 man4_0 : Option Addr} {msl4_0 : Array (Option Value)} {moc4_0 mkV4_0 mdc4_0 mpm4_0 mcd4_0 mct4_0 : Value} {mf4_1 : Addr} {md4_1 man4_1 : Option Addr} {msl4_1 : Array (Option Value)} {moc4_1 mkV4_1 mdc4_1 mpm4_1 mcd4_1 mct4_1 : Value} {mf4_2 : Addr} {md4_2 man4_2 : Option Addr} {msl4_2 : Array (Option Value)} {moc4_2 mkV4_2 mdc4_2 mpm4_2 mcd4_2 mct4_2 : Value} {kb4 : Addr} {kbd4 : ClassData} {kc5 : Addr} {mf5_0 : Addr} {md5_0 man5_0 : Option Addr} {msl5_0 : Array (Option Value)} {moc5_0 mkV5_0 mdc5_0 mpm5_0 mcd5_0 mct5_0 : Value} {mf5_1 : Addr} {md5_1 man5_1 : Option Addr} {msl5_1 : Array (Option Value)} {moc5_1 mkV5_1 mdc5_1 mpm5_1 mcd5_1 mct5_1 : Value} {mf5_2 : Addr} {md5_2 man5_2 : Option Addr} {msl5_2 : Array (Option Value)} {moc5_2 mkV5_2 mdc5_2 mpm5_2 mcd5_2 mct5_2 : Value} {mf5_3 : Addr} {md5_3 man5_3 : Option Addr} {msl5_3 : Array (Option Value)} {moc5_3 mkV5_3 mdc5_3 mpm5_3 mcd5_3 mct5_3 : Value} {kb5 : Addr} {kbd5 : ClassData} {xc0 : Addr} {xc1 : Addr}
    (a1 : PySem.W.nsIn K mainGlobals "_wall" = some (some (.ref f1))) (l1 : K.lookup f1 = some ⟨oc1, od1, .func (PySem.W.fnOf "_wall" "_wall" (defArgs (top 0)) (defBody (top 0)) (defScope (top 0)) .none kV1 dc1 pm1 an1 cd1 ct1), sl1⟩) (c1 : PySem.W.codeIn K cd1 "_wall" = true) (k1 : PySem.W.keepIn K (.ref f1) = true)
    (a2 : PySem.W.nsIn K mainGlobals "is_whole" = some (some (.ref f2))) (l2 : K.lookup f2 = some ⟨oc2, od2, .func (PySem.W.fnOf "is_whole" "is_whole" (defArgs (top 5)) (defBody (top 5)) (defScope (top 5)) (.ref T2) kV2 dc2 pm2 an2 cd2 ct2), sl2⟩) (c2 : PySem.W.codeIn K cd2 "is_whole" = true) (k2 : PySem.W.keepIn K (.ref f2) = true)
    (a3 : PySem.W.nsIn K mainGlobals "whole" = some (some (.ref f3))) (l3 : K.lookup f3 = some ⟨oc3, od3, .func (PySem.W.fnOf "whole" "whole" (defArgs (top 6)) (defBody (top 6)) (defScope (top 6)) .none kV3 dc3 pm3 an3 cd3 ct3), sl3⟩) (c3 : PySem.W.codeIn K cd3 "whole" = true) (k3 : PySem.W.keepIn K (.ref f3) = true)
    (a4 : PySem.W.nsIn K mainGlobals "endless" = some (some (.ref f4))) (l4 : K.lookup f4 = some ⟨oc4, od4, .func (PySem.W.fnOf "endless" "endless" (defArgs (top 7)) (defBody (top 7)) (defScope (top 7)) .none kV4 dc4 pm4 an4 cd4 ct4), sl4⟩) (c4 : PySem.W.codeIn K cd4 "endless" = true) (k4 : PySem.W.keepIn K (.ref f4) = true)
    (a5 : PySem.W.nsIn K mainGlobals "raised" = some (some (.ref f5))) (l5 : K.lookup f5 = some ⟨oc5, od5, .func (PySem.W.fnOf "raised" "raised" (defArgs (top 8)) (defBody (top 8)) (defScope (top 8)) (.ref T5) kV5 dc5 pm5 an5 cd5 ct5), sl5⟩) (c5 : PySem.W.codeIn K cd5 "raised" = true) (k5 : PySem.W.keepIn K (.ref f5) = true)
    (a6 : PySem.W.nsIn K mainGlobals "compare" = some (some (.ref f6))) (l6 : K.lookup f6 = some ⟨oc6, od6, .func (PySem.W.fnOf "compare" "compare" (defArgs (top 9)) (defBody (top 9)) (defScope (top 9)) .none kV6 dc6 pm6 an6 cd6 ct6), sl6⟩) (c6 : PySem.W.codeIn K cd6 "compare" = true) (k6 : PySem.W.keepIn K (.ref f6) = true)
    (a7 : PySem.W.nsIn K mainGlobals "whole_part" = some (some (.ref f7))) (l7 : K.lookup f7 = some ⟨oc7, od7, .func (PySem.W.fnOf "whole_part" "whole_part" (defArgs (top 10)) (defBody (top 10)) (defScope (top 10)) .none kV7 dc7 pm7 an7 cd7 ct7), sl7⟩) (c7 : PySem.W.codeIn K cd7 "whole_part" = true) (k7 : PySem.W.keepIn K (.ref f7) = true)
    (a8 : PySem.W.nsIn K mainGlobals "without_whole" = some (some (.ref f8))) (l8 : K.lookup f8 = some ⟨oc8, od8, .func (PySem.W.fnOf "without_whole" "without_whole" (defArgs (top 11)) (defBody (top 11)) (defScope (top 11)) .none kV8 dc8 pm8 an8 cd8 ct8), sl8⟩) (c8 : PySem.W.codeIn K cd8 "without_whole" = true) (k8 : PySem.W.keepIn K (.ref f8) = true)
    (a9 : PySem.W.nsIn K mainGlobals "plus" = some (some (.ref f9))) (l9 : K.lookup f9 = some ⟨oc9, od9, .func (PySem.W.fnOf "plus" "plus" (defArgs (top 13)) (defBody (top 13)) (defScope (top 13)) .none kV9 dc9 pm9 an9 cd9 ct9), sl9⟩) (c9 : PySem.W.codeIn K cd9 "plus" = true) (k9 : PySem.W.keepIn K (.ref f9) = true)
    (a10 : PySem.W.nsIn K mainGlobals "parts_above" = some (some (.ref f10))) (l10 : K.lookup f10 = some ⟨oc10, od10, .func (PySem.W.fnOf "parts_above" "parts_above" (defArgs (top 14)) (defBody (top 14)) (defScope (top 14)) .none kV10 dc10 pm10 an10 cd10 ct10), sl10⟩) (c10 : PySem.W.codeIn K cd10 "parts_above" = true) (k10 : PySem.W.keepIn K (.ref f10) = true)
    (a11 : PySem.W.nsIn K mainGlobals "total" = some (some (.ref f11))) (l11 : K.lookup f11 = some ⟨oc11, od11, .func (PySem.W.fnOf "total" "total" (defArgs (top 15)) (defBody (top 15)) (defScope (top 15)) .none kV11 dc11 pm11 an11 cd11 ct11), sl11⟩) (c11 : PySem.W.codeIn K cd11 "total" = true) (k11 : PySem.W.keepIn K (.ref f11) = true)
    (a12 : PySem.W.nsIn K mainGlobals "times" = some (some (.ref f12))) (l12 : K.lookup f12 = some ⟨oc12, od12, .func (PySem.W.fnOf "times" "times" (defArgs (top 17)) (defBody (top 17)) (defScope (top 17)) .none kV12 dc12 pm12 an12 cd12 ct12), sl12⟩) (c12 : PySem.W.codeIn K cd12 "times" = true) (k12 : PySem.W.keepIn K (.ref f12) = true)
    (a13 : PySem.W.nsIn K mainGlobals "weight_of" = some (some (.ref f13))) (l13 : K.lookup f13 = some ⟨oc13, od13, .func (PySem.W.fnOf "weight_of" "weight_of" (defArgs (top 19)) (defBody (top 19)) (defScope (top 19)) .none kV13 dc13 pm13 an13 cd13 ct13), sl13⟩) (c13 : PySem.W.codeIn K cd13 "weight_of" = true) (k13 : PySem.W.keepIn K (.ref f13) = true)
    (a14 : PySem.W.nsIn K mainGlobals "by_exponent" = some (some (.ref f14))) (l14 : K.lookup f14 = some ⟨oc14, od14, .func (PySem.W.fnOf "by_exponent" "by_exponent" (defArgs (top 27)) (defBody (top 27)) (defScope (top 27)) .none kV14 dc14 pm14 an14 cd14 ct14), sl14⟩) (c14 : PySem.W.codeIn K cd14 "by_exponent" = true) (k14 : PySem.W.keepIn K (.ref f14) = true)
    (a15 : PySem.W.nsIn K mainGlobals "weight" = some (some (.ref f15))) (l15 : K.lookup f15 = some ⟨oc15, od15, .func (PySem.W.fnOf "weight" "weight" (defArgs (top 29)) (defBody (top 29)) (defScope (top 29)) .none kV15 dc15 pm15 an15 cd15 ct15), sl15⟩) (c15 : PySem.W.codeIn K cd15 "weight" = true) (k15 : PySem.W.keepIn K (.ref f15) = true)
    (a16 : PySem.W.nsIn K mainGlobals "_law_exponent" = some (some (.ref f16))) (l16 : K.lookup f16 = some ⟨oc16, od16, .func (PySem.W.fnOf "_law_exponent" "_law_exponent" (defArgs (top 31)) (defBody (top 31)) (defScope (top 31)) .none kV16 dc16 pm16 an16 cd16 ct16), sl16⟩) (c16 : PySem.W.codeIn K cd16 "_law_exponent" = true) (k16 : PySem.W.keepIn K (.ref f16) = true)
    (a17 : PySem.W.nsIn K mainGlobals "_law_marks" = some (some (.ref f17))) (l17 : K.lookup f17 = some ⟨oc17, od17, .func (PySem.W.fnOf "_law_marks" "_law_marks" (defArgs (top 32)) (defBody (top 32)) (defScope (top 32)) .none kV17 dc17 pm17 an17 cd17 ct17), sl17⟩) (c17 : PySem.W.codeIn K cd17 "_law_marks" = true) (k17 : PySem.W.keepIn K (.ref f17) = true)
    (a18 : PySem.W.nsIn K mainGlobals "_law_deep" = some (some (.ref f18))) (l18 : K.lookup f18 = some ⟨oc18, od18, .func (PySem.W.fnOf "_law_deep" "_law_deep" (defArgs (top 33)) (defBody (top 33)) (defScope (top 33)) .none kV18 dc18 pm18 an18 cd18 ct18), sl18⟩) (c18 : PySem.W.codeIn K cd18 "_law_deep" = true) (k18 : PySem.W.keepIn K (.ref f18) = true)
    (a19 : PySem.W.nsIn K mainGlobals "_law_rows" = some (some (.ref f19))) (l19 : K.lookup f19 = some ⟨oc19, od19, .func (PySem.W.fnOf "_law_rows" "_law_rows" (defArgs (top 34)) (defBody (top 34)) (defScope (top 34)) .none kV19 dc19 pm19 an19 cd19 ct19), sl19⟩) (c19 : PySem.W.codeIn K cd19 "_law_rows" = true) (k19 : PySem.W.keepIn K (.ref f19) = true)
    (a20 : PySem.W.nsIn K mainGlobals "_law_made" = some (some (.ref f20))) (l20 : K.lookup f20 = some ⟨oc20, od20, .func (PySem.W.fnOf "_law_made" "_law_made" (defArgs (top 35)) (defBody (top 35)) (defScope (top 35)) .none kV20 dc20 pm20 an20 cd20 ct20), sl20⟩) (c20 : PySem.W.codeIn K cd20 "_law_made" = true) (k20 : PySem.W.keepIn K (.ref f20) = true)
    (a21 : PySem.W.nsIn K mainGlobals "_law_height" = some (some (.ref f21))) (l21 : K.lookup f21 = some ⟨oc21, od21, .func (PySem.W.fnOf "_law_height" "_law_height" (defArgs (top 36)) (defBody (top 36)) (defScope (top 36)) .none kV21 dc21 pm21 an21 cd21 ct21), sl21⟩) (c21 : PySem.W.codeIn K cd21 "_law_height" = true) (k21 : PySem.W.keepIn K (.ref f21) = true)
    (a22 : PySem.W.nsIn K mainGlobals "_law_of_row" = some (some (.ref f22))) (l22 : K.lookup f22 = some ⟨oc22, od22, .func (PySem.W.fnOf "_law_of_row" "_law_of_row" (defArgs (top 37)) (defBody (top 37)) (defScope (top 37)) .none kV22 dc22 pm22 an22 cd22 ct22), sl22⟩) (c22 : PySem.W.codeIn K cd22 "_law_of_row" = true) (k22 : PySem.W.keepIn K (.ref f22) = true)
    (a23 : PySem.W.nsIn K mainGlobals "_law_weight" = some (some (.ref f23))) (l23 : K.lookup f23 = some ⟨oc23, od23, .func (PySem.W.fnOf "_law_weight" "_law_weight" (defArgs (top 38)) (defBody (top 38)) (defScope (top 38)) .none kV23 dc23 pm23 an23 cd23 ct23), sl23⟩) (c23 : PySem.W.codeIn K cd23 "_law_weight" = true) (k23 : PySem.W.keepIn K (.ref f23) = true)
    (a24 : PySem.W.nsIn K mainGlobals "law" = some (some (.ref f24))) (l24 : K.lookup f24 = some ⟨oc24, od24, .func (PySem.W.fnOf "law" "law" (defArgs (top 39)) (defBody (top 39)) (defScope (top 39)) .none kV24 dc24 pm24 an24 cd24 ct24), sl24⟩) (c24 : PySem.W.codeIn K cd24 "law" = true) (k24 : PySem.W.keepIn K (.ref f24) = true)
    (t2 : K.lookup T2 = some ⟨tc2, td2, .seq #[.int 0 tk2_0] tn2, ts2⟩)
    (t5 : K.lookup T5 = some ⟨tc5, td5, .seq #[.int 1 tk5_0] tn5, ts5⟩)
    (xa0 : PySem.W.nsIn K mainGlobals "HydraError" = some (some (.ref xc0))) (xe0 : PySem.W.excIn K xc0 [.type "ValueError", .type "Exception", .type "BaseException", .type "object"] "ValueError.__new__" = true)
    (xa1 : PySem.W.nsIn K mainGlobals "NoNumber" = some (some (.ref xc1))) (xe1 : PySem.W.excIn K xc1 [.type "ValueError", .type "Exception", .type "BaseException", .type "object"] "ValueError.__new__" = true)
    (xm1_0 : PySem.W.mroIn K xc1 (.ref xc0) = some true)
    (ka0 : PySem.W.nsIn K mainGlobals "Set" = some (some (.ref kc0))) (kpg0 : PySem.W.plainGet K kc0 Str.empty = true) (khd0 : PySem.W.hasDictIn K kc0 = true) (kpo0 : PySem.W.plainOver K kc0 = true) (ksa0 : PySem.W.findIn K (.ref kc0) "__setattr__" = some (some (.builtin "object.__setattr__"))) (kmk0 : PySem.W.makesIn K kc0 = true) (kkc0 : PySem.W.keepIn K (.ref kc0) = true) (kn0_0 : PySem.W.findIn K (.ref kc0) "box" = some none) (kn0_1 : PySem.W.findIn K (.ref kc0) "amount" = some none) (kf0_0 : PySem.W.findIn K (.ref kc0) "__init__" = some (some (.ref mf0_0))) (kfn0_0 : PySem.W.isFn K (.ref mf0_0) = true) (kl0_0 : K.lookup mf0_0 = some ⟨moc0_0, md0_0, .func (PySem.W.fnOf "__init__" "Set.__init__" (defArgs (mtd 21 0)) (defBody (mtd 21 0)) (defScope (mtd 21 0)) .none mkV0_0 mdc0_0 mpm0_0 man0_0 mcd0_0 mct0_0), msl0_0⟩) (kcd0_0 : PySem.W.codeIn K mcd0_0 "Set.__init__" = true) (kkp0_0 : PySem.W.keepIn K (.ref mf0_0) = true) (kf0_1 : PySem.W.findIn K (.ref kc0) "step" = some (some (.ref mf0_1))) (kfn0_1 : PySem.W.isFn K (.ref mf0_1) = true) (kl0_1 : K.lookup mf0_1 = some ⟨moc0_1, md0_1, .func (PySem.W.fnOf "step" "Set.step" (defArgs (mtd 21 1)) (defBody (mtd 21 1)) (defScope (mtd 21 1)) .none mkV0_1 mdc0_1 mpm0_1 man0_1 mcd0_1 mct0_1), msl0_1⟩) (kcd0_1 : PySem.W.codeIn K mcd0_1 "Set.step" = true) (kkp0_1 : PySem.W.keepIn K (.ref mf0_1) = true) (kf0_100 : PySem.W.findIn K (.ref kc0) "weigh" = some (some (.ref mf0_100))) (kfn0_100 : PySem.W.isFn K (.ref mf0_100) = true) (kl0_100 : K.lookup mf0_100 = some ⟨moc0_100, md0_100, .func (PySem.W.fnOf "weigh" "Row.weigh" (defArgs (mtd 20 0)) (defBody (mtd 20 0)) (defScope (mtd 20 0)) .none mkV0_100 mdc0_100 mpm0_100 man0_100 mcd0_100 mct0_100), msl0_100⟩) (kcd0_100 : PySem.W.codeIn K mcd0_100 "Row.weigh" = true) (kkp0_100 : PySem.W.keepIn K (.ref mf0_100) = true) (kba0 : PySem.W.nsIn K mainGlobals "Row" = some (some (.ref kb0))) (kbb0 : PySem.W.clsIn K kb0 = some kbd0) (kbc0 : PySem.W.typeIn K (.ref kb0) = some (.type "type")) (kbe0 : PySem.W.instIn K (.ref kb0) (.type "type") = some true) (kbm0 : PySem.W.mroIn K kc0 (.ref kb0) = some true)
    (ka1 : PySem.W.nsIn K mainGlobals "Copy" = some (some (.ref kc1))) (kpg1 : PySem.W.plainGet K kc1 Str.empty = true) (khd1 : PySem.W.hasDictIn K kc1 = true) (kpo1 : PySem.W.plainOver K kc1 = true) (ksa1 : PySem.W.findIn K (.ref kc1) "__setattr__" = some (some (.builtin "object.__setattr__"))) (kmk1 : PySem.W.makesIn K kc1 = true) (kkc1 : PySem.W.keepIn K (.ref kc1) = true) (kn1_0 : PySem.W.findIn K (.ref kc1) "box" = some none) (kn1_1 : PySem.W.findIn K (.ref kc1) "other" = some none) (kf1_0 : PySem.W.findIn K (.ref kc1) "__init__" = some (some (.ref mf1_0))) (kfn1_0 : PySem.W.isFn K (.ref mf1_0) = true) (kl1_0 : K.lookup mf1_0 = some ⟨moc1_0, md1_0, .func (PySem.W.fnOf "__init__" "Copy.__init__" (defArgs (mtd 22 0)) (defBody (mtd 22 0)) (defScope (mtd 22 0)) .none mkV1_0 mdc1_0 mpm1_0 man1_0 mcd1_0 mct1_0), msl1_0⟩) (kcd1_0 : PySem.W.codeIn K mcd1_0 "Copy.__init__" = true) (kkp1_0 : PySem.W.keepIn K (.ref mf1_0) = true) (kf1_1 : PySem.W.findIn K (.ref kc1) "step" = some (some (.ref mf1_1))) (kfn1_1 : PySem.W.isFn K (.ref mf1_1) = true) (kl1_1 : K.lookup mf1_1 = some ⟨moc1_1, md1_1, .func (PySem.W.fnOf "step" "Copy.step" (defArgs (mtd 22 1)) (defBody (mtd 22 1)) (defScope (mtd 22 1)) .none mkV1_1 mdc1_1 mpm1_1 man1_1 mcd1_1 mct1_1), msl1_1⟩) (kcd1_1 : PySem.W.codeIn K mcd1_1 "Copy.step" = true) (kkp1_1 : PySem.W.keepIn K (.ref mf1_1) = true) (kf1_100 : PySem.W.findIn K (.ref kc1) "weigh" = some (some (.ref mf1_100))) (kfn1_100 : PySem.W.isFn K (.ref mf1_100) = true) (kl1_100 : K.lookup mf1_100 = some ⟨moc1_100, md1_100, .func (PySem.W.fnOf "weigh" "Row.weigh" (defArgs (mtd 20 0)) (defBody (mtd 20 0)) (defScope (mtd 20 0)) .none mkV1_100 mdc1_100 mpm1_100 man1_100 mcd1_100 mct1_100), msl1_100⟩) (kcd1_100 : PySem.W.codeIn K mcd1_100 "Row.weigh" = true) (kkp1_100 : PySem.W.keepIn K (.ref mf1_100) = true) (kba1 : PySem.W.nsIn K mainGlobals "Row" = some (some (.ref kb1))) (kbb1 : PySem.W.clsIn K kb1 = some kbd1) (kbc1 : PySem.W.typeIn K (.ref kb1) = some (.type "type")) (kbe1 : PySem.W.instIn K (.ref kb1) (.type "type") = some true) (kbm1 : PySem.W.mroIn K kc1 (.ref kb1) = some true)
    (ka2 : PySem.W.nsIn K mainGlobals "Add" = some (some (.ref kc2))) (kpg2 : PySem.W.plainGet K kc2 Str.empty = true) (khd2 : PySem.W.hasDictIn K kc2 = true) (kpo2 : PySem.W.plainOver K kc2 = true) (ksa2 : PySem.W.findIn K (.ref kc2) "__setattr__" = some (some (.builtin "object.__setattr__"))) (kmk2 : PySem.W.makesIn K kc2 = true) (kkc2 : PySem.W.keepIn K (.ref kc2) = true) (kn2_0 : PySem.W.findIn K (.ref kc2) "box" = some none) (kn2_1 : PySem.W.findIn K (.ref kc2) "other" = some none) (kf2_0 : PySem.W.findIn K (.ref kc2) "__init__" = some (some (.ref mf2_0))) (kfn2_0 : PySem.W.isFn K (.ref mf2_0) = true) (kl2_0 : K.lookup mf2_0 = some ⟨moc2_0, md2_0, .func (PySem.W.fnOf "__init__" "Add.__init__" (defArgs (mtd 23 0)) (defBody (mtd 23 0)) (defScope (mtd 23 0)) .none mkV2_0 mdc2_0 mpm2_0 man2_0 mcd2_0 mct2_0), msl2_0⟩) (kcd2_0 : PySem.W.codeIn K mcd2_0 "Add.__init__" = true) (kkp2_0 : PySem.W.keepIn K (.ref mf2_0) = true) (kf2_1 : PySem.W.findIn K (.ref kc2) "step" = some (some (.ref mf2_1))) (kfn2_1 : PySem.W.isFn K (.ref mf2_1) = true) (kl2_1 : K.lookup mf2_1 = some ⟨moc2_1, md2_1, .func (PySem.W.fnOf "step" "Add.step" (defArgs (mtd 23 1)) (defBody (mtd 23 1)) (defScope (mtd 23 1)) .none mkV2_1 mdc2_1 mpm2_1 man2_1 mcd2_1 mct2_1), msl2_1⟩) (kcd2_1 : PySem.W.codeIn K mcd2_1 "Add.step" = true) (kkp2_1 : PySem.W.keepIn K (.ref mf2_1) = true) (kf2_100 : PySem.W.findIn K (.ref kc2) "weigh" = some (some (.ref mf2_100))) (kfn2_100 : PySem.W.isFn K (.ref mf2_100) = true) (kl2_100 : K.lookup mf2_100 = some ⟨moc2_100, md2_100, .func (PySem.W.fnOf "weigh" "Row.weigh" (defArgs (mtd 20 0)) (defBody (mtd 20 0)) (defScope (mtd 20 0)) .none mkV2_100 mdc2_100 mpm2_100 man2_100 mcd2_100 mct2_100), msl2_100⟩) (kcd2_100 : PySem.W.codeIn K mcd2_100 "Row.weigh" = true) (kkp2_100 : PySem.W.keepIn K (.ref mf2_100) = true) (kba2 : PySem.W.nsIn K mainGlobals "Row" = some (some (.ref kb2))) (kbb2 : PySem.W.clsIn K kb2 = some kbd2) (kbc2 : PySem.W.typeIn K (.ref kb2) = some (.type "type")) (kbe2 : PySem.W.instIn K (.ref kb2) (.type "type") = some true) (kbm2 : PySem.W.mroIn K kc2 (.ref kb2) = some true)
    (ka3 : PySem.W.nsIn K mainGlobals "Less" = some (some (.ref kc3))) (kpg3 : PySem.W.plainGet K kc3 Str.empty = true) (khd3 : PySem.W.hasDictIn K kc3 = true) (kpo3 : PySem.W.plainOver K kc3 = true) (ksa3 : PySem.W.findIn K (.ref kc3) "__setattr__" = some (some (.builtin "object.__setattr__"))) (kmk3 : PySem.W.makesIn K kc3 = true) (kkc3 : PySem.W.keepIn K (.ref kc3) = true) (kn3_0 : PySem.W.findIn K (.ref kc3) "box" = some none) (kf3_0 : PySem.W.findIn K (.ref kc3) "__init__" = some (some (.ref mf3_0))) (kfn3_0 : PySem.W.isFn K (.ref mf3_0) = true) (kl3_0 : K.lookup mf3_0 = some ⟨moc3_0, md3_0, .func (PySem.W.fnOf "__init__" "Less.__init__" (defArgs (mtd 24 0)) (defBody (mtd 24 0)) (defScope (mtd 24 0)) .none mkV3_0 mdc3_0 mpm3_0 man3_0 mcd3_0 mct3_0), msl3_0⟩) (kcd3_0 : PySem.W.codeIn K mcd3_0 "Less.__init__" = true) (kkp3_0 : PySem.W.keepIn K (.ref mf3_0) = true) (kf3_1 : PySem.W.findIn K (.ref kc3) "step" = some (some (.ref mf3_1))) (kfn3_1 : PySem.W.isFn K (.ref mf3_1) = true) (kl3_1 : K.lookup mf3_1 = some ⟨moc3_1, md3_1, .func (PySem.W.fnOf "step" "Less.step" (defArgs (mtd 24 1)) (defBody (mtd 24 1)) (defScope (mtd 24 1)) .none mkV3_1 mdc3_1 mpm3_1 man3_1 mcd3_1 mct3_1), msl3_1⟩) (kcd3_1 : PySem.W.codeIn K mcd3_1 "Less.step" = true) (kkp3_1 : PySem.W.keepIn K (.ref mf3_1) = true) (kf3_100 : PySem.W.findIn K (.ref kc3) "weigh" = some (some (.ref mf3_100))) (kfn3_100 : PySem.W.isFn K (.ref mf3_100) = true) (kl3_100 : K.lookup mf3_100 = some ⟨moc3_100, md3_100, .func (PySem.W.fnOf "weigh" "Row.weigh" (defArgs (mtd 20 0)) (defBody (mtd 20 0)) (defScope (mtd 20 0)) .none mkV3_100 mdc3_100 mpm3_100 man3_100 mcd3_100 mct3_100), msl3_100⟩) (kcd3_100 : PySem.W.codeIn K mcd3_100 "Row.weigh" = true) (kkp3_100 : PySem.W.keepIn K (.ref mf3_100) = true) (kba3 : PySem.W.nsIn K mainGlobals "Row" = some (some (.ref kb3))) (kbb3 : PySem.W.clsIn K kb3 = some kbd3) (kbc3 : PySem.W.typeIn K (.ref kb3) = some (.type "type")) (kbe3 : PySem.W.instIn K (.ref kb3) (.type "type") = some true) (kbm3 : PySem.W.mroIn K kc3 (.ref kb3) = some true)
    (ka4 : PySem.W.nsIn K mainGlobals "Times" = some (some (.ref kc4))) (kpg4 : PySem.W.plainGet K kc4 Str.empty = true) (khd4 : PySem.W.hasDictIn K kc4 = true) (kpo4 : PySem.W.plainOver K kc4 = true) (ksa4 : PySem.W.findIn K (.ref kc4) "__setattr__" = some (some (.builtin "object.__setattr__"))) (kmk4 : PySem.W.makesIn K kc4 = true) (kkc4 : PySem.W.keepIn K (.ref kc4) = true) (kn4_0 : PySem.W.findIn K (.ref kc4) "box" = some none) (kn4_1 : PySem.W.findIn K (.ref kc4) "rows" = some none) (kn4_2 : PySem.W.findIn K (.ref kc4) "of_round" = some none) (kf4_0 : PySem.W.findIn K (.ref kc4) "__init__" = some (some (.ref mf4_0))) (kfn4_0 : PySem.W.isFn K (.ref mf4_0) = true) (kl4_0 : K.lookup mf4_0 = some ⟨moc4_0, md4_0, .func (PySem.W.fnOf "__init__" "Times.__init__" (defArgs (mtd 25 0)) (defBody (mtd 25 0)) (defScope (mtd 25 0)) .none mkV4_0 mdc4_0 mpm4_0 man4_0 mcd4_0 mct4_0), msl4_0⟩) (kcd4_0 : PySem.W.codeIn K mcd4_0 "Times.__init__" = true) (kkp4_0 : PySem.W.keepIn K (.ref mf4_0) = true) (kf4_1 : PySem.W.findIn K (.ref kc4) "weigh" = some (some (.ref mf4_1))) (kfn4_1 : PySem.W.isFn K (.ref mf4_1) = true) (kl4_1 : K.lookup mf4_1 = some ⟨moc4_1, md4_1, .func (PySem.W.fnOf "weigh" "Times.weigh" (defArgs (mtd 25 1)) (defBody (mtd 25 1)) (defScope (mtd 25 1)) .none mkV4_1 mdc4_1 mpm4_1 man4_1 mcd4_1 mct4_1), msl4_1⟩) (kcd4_1 : PySem.W.codeIn K mcd4_1 "Times.weigh" = true) (kkp4_1 : PySem.W.keepIn K (.ref mf4_1) = true) (kf4_2 : PySem.W.findIn K (.ref kc4) "step" = some (some (.ref mf4_2))) (kfn4_2 : PySem.W.isFn K (.ref mf4_2) = true) (kl4_2 : K.lookup mf4_2 = some ⟨moc4_2, md4_2, .func (PySem.W.fnOf "step" "Times.step" (defArgs (mtd 25 2)) (defBody (mtd 25 2)) (defScope (mtd 25 2)) .none mkV4_2 mdc4_2 mpm4_2 man4_2 mcd4_2 mct4_2), msl4_2⟩) (kcd4_2 : PySem.W.codeIn K mcd4_2 "Times.step" = true) (kkp4_2 : PySem.W.keepIn K (.ref mf4_2) = true) (kba4 : PySem.W.nsIn K mainGlobals "Row" = some (some (.ref kb4))) (kbb4 : PySem.W.clsIn K kb4 = some kbd4) (kbc4 : PySem.W.typeIn K (.ref kb4) = some (.type "type")) (kbe4 : PySem.W.instIn K (.ref kb4) (.type "type") = some true) (kbm4 : PySem.W.mroIn K kc4 (.ref kb4) = some true)
    (ka5 : PySem.W.nsIn K mainGlobals "While" = some (some (.ref kc5))) (kpg5 : PySem.W.plainGet K kc5 Str.empty = true) (khd5 : PySem.W.hasDictIn K kc5 = true) (kpo5 : PySem.W.plainOver K kc5 = true) (ksa5 : PySem.W.findIn K (.ref kc5) "__setattr__" = some (some (.builtin "object.__setattr__"))) (kmk5 : PySem.W.makesIn K kc5 = true) (kkc5 : PySem.W.keepIn K (.ref kc5) = true) (kn5_0 : PySem.W.findIn K (.ref kc5) "box" = some none) (kn5_1 : PySem.W.findIn K (.ref kc5) "heights" = some none) (kn5_2 : PySem.W.findIn K (.ref kc5) "rows" = some none) (kn5_3 : PySem.W.findIn K (.ref kc5) "of_round" = some none) (kf5_0 : PySem.W.findIn K (.ref kc5) "__init__" = some (some (.ref mf5_0))) (kfn5_0 : PySem.W.isFn K (.ref mf5_0) = true) (kl5_0 : K.lookup mf5_0 = some ⟨moc5_0, md5_0, .func (PySem.W.fnOf "__init__" "While.__init__" (defArgs (mtd 26 0)) (defBody (mtd 26 0)) (defScope (mtd 26 0)) .none mkV5_0 mdc5_0 mpm5_0 man5_0 mcd5_0 mct5_0), msl5_0⟩) (kcd5_0 : PySem.W.codeIn K mcd5_0 "While.__init__" = true) (kkp5_0 : PySem.W.keepIn K (.ref mf5_0) = true) (kf5_1 : PySem.W.findIn K (.ref kc5) "weigh" = some (some (.ref mf5_1))) (kfn5_1 : PySem.W.isFn K (.ref mf5_1) = true) (kl5_1 : K.lookup mf5_1 = some ⟨moc5_1, md5_1, .func (PySem.W.fnOf "weigh" "While.weigh" (defArgs (mtd 26 1)) (defBody (mtd 26 1)) (defScope (mtd 26 1)) .none mkV5_1 mdc5_1 mpm5_1 man5_1 mcd5_1 mct5_1), msl5_1⟩) (kcd5_1 : PySem.W.codeIn K mcd5_1 "While.weigh" = true) (kkp5_1 : PySem.W.keepIn K (.ref mf5_1) = true) (kf5_2 : PySem.W.findIn K (.ref kc5) "step" = some (some (.ref mf5_2))) (kfn5_2 : PySem.W.isFn K (.ref mf5_2) = true) (kl5_2 : K.lookup mf5_2 = some ⟨moc5_2, md5_2, .func (PySem.W.fnOf "step" "While.step" (defArgs (mtd 26 2)) (defBody (mtd 26 2)) (defScope (mtd 26 2)) .none mkV5_2 mdc5_2 mpm5_2 man5_2 mcd5_2 mct5_2), msl5_2⟩) (kcd5_2 : PySem.W.codeIn K mcd5_2 "While.step" = true) (kkp5_2 : PySem.W.keepIn K (.ref mf5_2) = true) (kf5_3 : PySem.W.findIn K (.ref kc5) "measure" = some (some (.ref mf5_3))) (kfn5_3 : PySem.W.isFn K (.ref mf5_3) = true) (kl5_3 : K.lookup mf5_3 = some ⟨moc5_3, md5_3, .func (PySem.W.fnOf "measure" "While.measure" (defArgs (mtd 26 3)) (defBody (mtd 26 3)) (defScope (mtd 26 3)) .none mkV5_3 mdc5_3 mpm5_3 man5_3 mcd5_3 mct5_3), msl5_3⟩) (kcd5_3 : PySem.W.codeIn K mcd5_3 "While.measure" = true) (kkp5_3 : PySem.W.keepIn K (.ref mf5_3) = true) (kba5 : PySem.W.nsIn K mainGlobals "Row" = some (some (.ref kb5))) (kbb5 : PySem.W.clsIn K kb5 = some kbd5) (kbc5 : PySem.W.typeIn K (.ref kb5) = some (.type "type")) (kbe5 : PySem.W.instIn K (.ref kb5) (.type "type") = some true) (kbm5 : PySem.W.mroIn K kc5 (.ref kb5) = some true)
    (z1 : PySem.W.nsIn K mainGlobals "ValueError" = some none) (z2 : PySem.W.nsIn K mainGlobals "bool" = some none) (z3 : PySem.W.nsIn K mainGlobals "int" = some none) (z4 : PySem.W.nsIn K mainGlobals "isinstance" = some none) (z5 : PySem.W.nsIn K mainGlobals "len" = some none) (z6 : PySem.W.nsIn K mainGlobals "list" = some none) (z7 : PySem.W.nsIn K mainGlobals "max" = some none) (z8 : PySem.W.nsIn K mainGlobals "range" = some none) (z9 : PySem.W.nsIn K mainGlobals "reversed" = some none) (z10 : PySem.W.nsIn K mainGlobals "sorted" = some none) (z11 : PySem.W.nsIn K mainGlobals "tuple" = some none) :
    ∃ fd : FuncData, (∀ (s : Shared) (v : Value), BindsTo s fd ⟨[v], []⟩ [("_law_script", v)]) ∧ ∀ base : Heap, K.In base → base.Ns mainGlobals mg → FnOk l.prog w K mg base CX0 100 fa fd ["_law_script"] (LSp K spLawC) := by
  have e := hfa.symm.trans (PySem.W.mg_of X G a24)
  cases e
  have F1 := fun_mk (st := top 0) l1 c1 k1
  have b1 := F1.binds (ps := ["k"]) fun _ _ _ _ _ _ => lnS (fun _ => lnZ rfl)
  have F2 : FunD K "is_whole" "is_whole" (top 5) f2 _ T2 [.int 0 tk2_0] := fun_mkD l2 c2 k2 t2 rfl
  have b2 : Binds K _ ["thing", "least"] [] := F2.binds fun _ _ _ _ _ _ us hl => (fun (q : us.length = 2) => by clear hl; revert us; refine lnS (fun _ => lnS (fun _ => lnZ ?_)); exact ⟨_, rfl, rfl⟩) (by simpa using hl)
  have e2 : Binds K _ ["thing", "least"] [.int 0 tk2_0] := F2.binds fun _ _ _ _ _ _ us hl => (fun (q : us.length = 1) => by clear hl; revert us; refine lnS (fun _ => lnZ ?_); exact ⟨_, rfl, rfl⟩) (by simpa using hl)
  have F3 := fun_mk (st := top 6) l3 c3 k3
  have b3 := F3.binds (ps := ["n"]) fun _ _ _ _ _ _ => lnS (fun _ => lnZ rfl)
  have F4 := fun_mk (st := top 7) l4 c4 k4
  have b4 := F4.binds (ps := []) fun _ _ _ _ _ _ => lnZ rfl
  have F5 : FunD K "raised" "raised" (top 8) f5 _ T5 [.int 1 tk5_0] := fun_mkD l5 c5 k5 t5 rfl
  have b5 : Binds K _ ["exponent", "times"] [] := F5.binds fun _ _ _ _ _ _ us hl => (fun (q : us.length = 2) => by clear hl; revert us; refine lnS (fun _ => lnS (fun _ => lnZ ?_)); exact ⟨_, rfl, rfl⟩) (by simpa using hl)
  have e5 : Binds K _ ["exponent", "times"] [.int 1 tk5_0] := F5.binds fun _ _ _ _ _ _ us hl => (fun (q : us.length = 1) => by clear hl; revert us; refine lnS (fun _ => lnZ ?_); exact ⟨_, rfl, rfl⟩) (by simpa using hl)
  have F6 := fun_mk (st := top 9) l6 c6 k6
  have b6 := F6.binds (ps := ["a", "b"]) fun _ _ _ _ _ _ => lnS (fun _ => lnS (fun _ => lnZ rfl))
  have F7 := fun_mk (st := top 10) l7 c7 k7
  have b7 := F7.binds (ps := ["a"]) fun _ _ _ _ _ _ => lnS (fun _ => lnZ rfl)
  have F8 := fun_mk (st := top 11) l8 c8 k8
  have b8 := F8.binds (ps := ["a"]) fun _ _ _ _ _ _ => lnS (fun _ => lnZ rfl)
  have F9 := fun_mk (st := top 13) l9 c9 k9
  have b9 := F9.binds (ps := ["a", "b"]) fun _ _ _ _ _ _ => lnS (fun _ => lnS (fun _ => lnZ rfl))
  have F10 := fun_mk (st := top 14) l10 c10 k10
  have b10 := F10.binds (ps := ["a", "exponent"]) fun _ _ _ _ _ _ => lnS (fun _ => lnS (fun _ => lnZ rfl))
  have F11 := fun_mk (st := top 15) l11 c11 k11
  have b11 := F11.binds (ps := ["some"]) fun _ _ _ _ _ _ => lnS (fun _ => lnZ rfl)
  have F12 := fun_mk (st := top 17) l12 c12 k12
  have b12 := F12.binds (ps := ["a", "b"]) fun _ _ _ _ _ _ => lnS (fun _ => lnS (fun _ => lnZ rfl))
  have F13 := fun_mk (st := top 19) l13 c13 k13
  have b13 := F13.binds (ps := ["things"]) fun _ _ _ _ _ _ => lnS (fun _ => lnZ rfl)
  have F14 := fun_mk (st := top 27) l14 c14 k14
  have b14 := F14.binds (ps := ["marks"]) fun _ _ _ _ _ _ => lnS (fun _ => lnZ rfl)
  have F15 := fun_mk (st := top 29) l15 c15 k15
  have b15 := F15.binds (ps := ["rows"]) fun _ _ _ _ _ _ => lnS (fun _ => lnZ rfl)
  have F16 := fun_mk (st := top 31) l16 c16 k16
  have b16 := F16.binds (ps := ["_law_number"]) fun _ _ _ _ _ _ => lnS (fun _ => lnZ rfl)
  have F17 := fun_mk (st := top 32) l17 c17 k17
  have b17 := F17.binds (ps := ["_law_cell"]) fun _ _ _ _ _ _ => lnS (fun _ => lnZ rfl)
  have F18 := fun_mk (st := top 33) l18 c18 k18
  have b18 := F18.binds (ps := ["_law_thing"]) fun _ _ _ _ _ _ => lnS (fun _ => lnZ rfl)
  have F19 := fun_mk (st := top 34) l19 c19 k19
  have b19 := F19.binds (ps := ["_law_cells"]) fun _ _ _ _ _ _ => lnS (fun _ => lnZ rfl)
  have F20 := fun_mk (st := top 35) l20 c20 k20
  have b20 := F20.binds (ps := ["_law_thing"]) fun _ _ _ _ _ _ => lnS (fun _ => lnZ rfl)
  have F21 := fun_mk (st := top 36) l21 c21 k21
  have b21 := F21.binds (ps := ["_law_marks_here"]) fun _ _ _ _ _ _ => lnS (fun _ => lnZ rfl)
  have F22 := fun_mk (st := top 37) l22 c22 k22
  have b22 := F22.binds (ps := ["_law_thing"]) fun _ _ _ _ _ _ => lnS (fun _ => lnZ rfl)
  have F23 := fun_mk (st := top 38) l23 c23 k23
  have b23 := F23.binds (ps := ["_law_rows_here"]) fun _ _ _ _ _ _ => lnS (fun _ => lnZ rfl)
  have F24 := fun_mk (st := top 39) l24 c24 k24
  have FM0_0 := fun_mk (st := mtd 21 0) kl0_0 kcd0_0 kkp0_0
  have bM0_0 := FM0_0.binds (ps := ["self", "box", "amount"]) fun _ _ _ _ _ _ => lnS (fun _ => lnS (fun _ => lnS (fun _ => lnZ rfl)))
  have FM0_1 := fun_mk (st := mtd 21 1) kl0_1 kcd0_1 kkp0_1
  have bM0_1 := FM0_1.binds (ps := ["self", "boxes"]) fun _ _ _ _ _ _ => lnS (fun _ => lnS (fun _ => lnZ rfl))
  have FM0_100 := fun_mk (st := mtd 20 0) kl0_100 kcd0_100 kkp0_100
  have bM0_100 := FM0_100.binds (ps := ["self"]) fun _ _ _ _ _ _ => lnS (fun _ => lnZ rfl)
  have FM1_0 := fun_mk (st := mtd 22 0) kl1_0 kcd1_0 kkp1_0
  have bM1_0 := FM1_0.binds (ps := ["self", "box", "other"]) fun _ _ _ _ _ _ => lnS (fun _ => lnS (fun _ => lnS (fun _ => lnZ rfl)))
  have FM1_1 := fun_mk (st := mtd 22 1) kl1_1 kcd1_1 kkp1_1
  have bM1_1 := FM1_1.binds (ps := ["self", "boxes"]) fun _ _ _ _ _ _ => lnS (fun _ => lnS (fun _ => lnZ rfl))
  have FM1_100 := fun_mk (st := mtd 20 0) kl1_100 kcd1_100 kkp1_100
  have bM1_100 := FM1_100.binds (ps := ["self"]) fun _ _ _ _ _ _ => lnS (fun _ => lnZ rfl)
  have FM2_0 := fun_mk (st := mtd 23 0) kl2_0 kcd2_0 kkp2_0
  have bM2_0 := FM2_0.binds (ps := ["self", "box", "other"]) fun _ _ _ _ _ _ => lnS (fun _ => lnS (fun _ => lnS (fun _ => lnZ rfl)))
  have FM2_1 := fun_mk (st := mtd 23 1) kl2_1 kcd2_1 kkp2_1
  have bM2_1 := FM2_1.binds (ps := ["self", "boxes"]) fun _ _ _ _ _ _ => lnS (fun _ => lnS (fun _ => lnZ rfl))
  have FM2_100 := fun_mk (st := mtd 20 0) kl2_100 kcd2_100 kkp2_100
  have bM2_100 := FM2_100.binds (ps := ["self"]) fun _ _ _ _ _ _ => lnS (fun _ => lnZ rfl)
  have FM3_0 := fun_mk (st := mtd 24 0) kl3_0 kcd3_0 kkp3_0
  have bM3_0 := FM3_0.binds (ps := ["self", "box"]) fun _ _ _ _ _ _ => lnS (fun _ => lnS (fun _ => lnZ rfl))
  have FM3_1 := fun_mk (st := mtd 24 1) kl3_1 kcd3_1 kkp3_1
  have bM3_1 := FM3_1.binds (ps := ["self", "boxes"]) fun _ _ _ _ _ _ => lnS (fun _ => lnS (fun _ => lnZ rfl))
  have FM3_100 := fun_mk (st := mtd 20 0) kl3_100 kcd3_100 kkp3_100
  have bM3_100 := FM3_100.binds (ps := ["self"]) fun _ _ _ _ _ _ => lnS (fun _ => lnZ rfl)
  have FM4_0 := fun_mk (st := mtd 25 0) kl4_0 kcd4_0 kkp4_0
  have bM4_0 := FM4_0.binds (ps := ["self", "box", "rows"]) fun _ _ _ _ _ _ => lnS (fun _ => lnS (fun _ => lnS (fun _ => lnZ rfl)))
  have FM4_1 := fun_mk (st := mtd 25 1) kl4_1 kcd4_1 kkp4_1
  have bM4_1 := FM4_1.binds (ps := ["self"]) fun _ _ _ _ _ _ => lnS (fun _ => lnZ rfl)
  have FM4_2 := fun_mk (st := mtd 25 2) kl4_2 kcd4_2 kkp4_2
  have bM4_2 := FM4_2.binds (ps := ["self", "boxes"]) fun _ _ _ _ _ _ => lnS (fun _ => lnS (fun _ => lnZ rfl))
  have FM5_0 := fun_mk (st := mtd 26 0) kl5_0 kcd5_0 kkp5_0
  have bM5_0 := FM5_0.binds (ps := ["self", "box", "marks", "rows"]) fun _ _ _ _ _ _ => lnS (fun _ => lnS (fun _ => lnS (fun _ => lnS (fun _ => lnZ rfl))))
  have FM5_1 := fun_mk (st := mtd 26 1) kl5_1 kcd5_1 kkp5_1
  have bM5_1 := FM5_1.binds (ps := ["self"]) fun _ _ _ _ _ _ => lnS (fun _ => lnZ rfl)
  have FM5_2 := fun_mk (st := mtd 26 2) kl5_2 kcd5_2 kkp5_2
  have bM5_2 := FM5_2.binds (ps := ["self", "boxes"]) fun _ _ _ _ _ _ => lnS (fun _ => lnS (fun _ => lnZ rfl))
  have FM5_3 := fun_mk (st := mtd 26 3) kl5_3 kcd5_3 kkp5_3
  have bM5_3 := FM5_3.binds (ps := ["self", "boxes"]) fun _ _ _ _ _ _ => lnS (fun _ => lnS (fun _ => lnZ rfl))
  have T : Txt K mg := ⟨⟨f1, _, F1, b1, PySem.W.mg_of X G a1⟩, ⟨f2, _, T2, _, [.int 0], F2, b2, e2, PySem.W.mg_of X G a2, (.cons ⟨_, rfl⟩ .nil), fun _ => (.cons (.int _) .nil)⟩, ⟨f3, _, F3, b3, PySem.W.mg_of X G a3⟩, ⟨f4, _, F4, b4, PySem.W.mg_of X G a4⟩, ⟨f5, _, T5, _, [.int 1], F5, b5, e5, PySem.W.mg_of X G a5, (.cons ⟨_, rfl⟩ .nil), fun _ => (.cons (.int _) .nil)⟩, ⟨f6, _, F6, b6, PySem.W.mg_of X G a6⟩, ⟨f7, _, F7, b7, PySem.W.mg_of X G a7⟩, ⟨f8, _, F8, b8, PySem.W.mg_of X G a8⟩, ⟨f9, _, F9, b9, PySem.W.mg_of X G a9⟩, ⟨f10, _, F10, b10, PySem.W.mg_of X G a10⟩, ⟨f11, _, F11, b11, PySem.W.mg_of X G a11⟩, ⟨f12, _, F12, b12, PySem.W.mg_of X G a12⟩, ⟨f13, _, F13, b13, PySem.W.mg_of X G a13⟩, ⟨f14, _, F14, b14, PySem.W.mg_of X G a14⟩, ⟨f15, _, F15, b15, PySem.W.mg_of X G a15⟩, ⟨f16, _, F16, b16, PySem.W.mg_of X G a16⟩, ⟨f17, _, F17, b17, PySem.W.mg_of X G a17⟩, ⟨f18, _, F18, b18, PySem.W.mg_of X G a18⟩, ⟨f19, _, F19, b19, PySem.W.mg_of X G a19⟩, ⟨f20, _, F20, b20, PySem.W.mg_of X G a20⟩, ⟨f21, _, F21, b21, PySem.W.mg_of X G a21⟩, ⟨f22, _, F22, b22, PySem.W.mg_of X G a22⟩, ⟨f23, _, F23, b23, PySem.W.mg_of X G a23⟩, ⟨kc0, PySem.W.mg_of X G ka0, ⟨kpg0, khd0, kpo0, ksa0⟩, kn0_0, kn0_1, ⟨mf0_0, _, ⟨kmk0, kf0_0, kfn0_0, kkc0⟩, FM0_0, bM0_0⟩, ⟨mf0_1, _, ⟨kf0_1, kfn0_1, kkp0_1⟩, FM0_1, bM0_1⟩, ⟨mf0_100, _, ⟨kf0_100, kfn0_100, kkp0_100⟩, FM0_100, bM0_100⟩, ⟨kb0, PySem.W.mg_of X G kba0, ⟨⟨_, kbb0⟩, kbc0, kbe0⟩, kbm0⟩⟩, ⟨kc1, PySem.W.mg_of X G ka1, ⟨kpg1, khd1, kpo1, ksa1⟩, kn1_0, kn1_1, ⟨mf1_0, _, ⟨kmk1, kf1_0, kfn1_0, kkc1⟩, FM1_0, bM1_0⟩, ⟨mf1_1, _, ⟨kf1_1, kfn1_1, kkp1_1⟩, FM1_1, bM1_1⟩, ⟨mf1_100, _, ⟨kf1_100, kfn1_100, kkp1_100⟩, FM1_100, bM1_100⟩, ⟨kb1, PySem.W.mg_of X G kba1, ⟨⟨_, kbb1⟩, kbc1, kbe1⟩, kbm1⟩⟩, ⟨kc2, PySem.W.mg_of X G ka2, ⟨kpg2, khd2, kpo2, ksa2⟩, kn2_0, kn2_1, ⟨mf2_0, _, ⟨kmk2, kf2_0, kfn2_0, kkc2⟩, FM2_0, bM2_0⟩, ⟨mf2_1, _, ⟨kf2_1, kfn2_1, kkp2_1⟩, FM2_1, bM2_1⟩, ⟨mf2_100, _, ⟨kf2_100, kfn2_100, kkp2_100⟩, FM2_100, bM2_100⟩, ⟨kb2, PySem.W.mg_of X G kba2, ⟨⟨_, kbb2⟩, kbc2, kbe2⟩, kbm2⟩⟩, ⟨kc3, PySem.W.mg_of X G ka3, ⟨kpg3, khd3, kpo3, ksa3⟩, kn3_0, ⟨mf3_0, _, ⟨kmk3, kf3_0, kfn3_0, kkc3⟩, FM3_0, bM3_0⟩, ⟨mf3_1, _, ⟨kf3_1, kfn3_1, kkp3_1⟩, FM3_1, bM3_1⟩, ⟨mf3_100, _, ⟨kf3_100, kfn3_100, kkp3_100⟩, FM3_100, bM3_100⟩, ⟨kb3, PySem.W.mg_of X G kba3, ⟨⟨_, kbb3⟩, kbc3, kbe3⟩, kbm3⟩⟩, ⟨kc4, PySem.W.mg_of X G ka4, ⟨kpg4, khd4, kpo4, ksa4⟩, kn4_0, kn4_1, kn4_2, ⟨mf4_0, _, ⟨kmk4, kf4_0, kfn4_0, kkc4⟩, FM4_0, bM4_0⟩, ⟨mf4_1, _, ⟨kf4_1, kfn4_1, kkp4_1⟩, FM4_1, bM4_1⟩, ⟨mf4_2, _, ⟨kf4_2, kfn4_2, kkp4_2⟩, FM4_2, bM4_2⟩, ⟨kb4, PySem.W.mg_of X G kba4, ⟨⟨_, kbb4⟩, kbc4, kbe4⟩, kbm4⟩⟩, ⟨kc5, PySem.W.mg_of X G ka5, ⟨kpg5, khd5, kpo5, ksa5⟩, kn5_0, kn5_1, kn5_2, kn5_3, ⟨mf5_0, _, ⟨kmk5, kf5_0, kfn5_0, kkc5⟩, FM5_0, bM5_0⟩, ⟨mf5_1, _, ⟨kf5_1, kfn5_1, kkp5_1⟩, FM5_1, bM5_1⟩, ⟨mf5_2, _, ⟨kf5_2, kfn5_2, kkp5_2⟩, FM5_2, bM5_2⟩, ⟨mf5_3, _, ⟨kf5_3, kfn5_3, kkp5_3⟩, FM5_3, bM5_3⟩, ⟨kb5, PySem.W.mg_of X G kba5, ⟨⟨_, kbb5⟩, kbc5, kbe5⟩, kbm5⟩⟩, ⟨xc0, xc1, ⟨PySem.W.mg_of X G xa0, xe0⟩, ⟨PySem.W.mg_of X G xa1, xe1⟩, xm1_0⟩, PySem.W.mg_none_of X G z1, PySem.W.mg_none_of X G z2, PySem.W.mg_none_of X G z3, PySem.W.mg_none_of X G z4, PySem.W.mg_none_of X G z5, PySem.W.mg_none_of X G z6, PySem.W.mg_none_of X G z7, PySem.W.mg_none_of X G z8, PySem.W.mg_none_of X G z9, PySem.W.mg_none_of X G z10, PySem.W.mg_none_of X G z11⟩
  exact ⟨PySem.W.fnOf "law" "law" (defArgs (top 39)) (defBody (top 39)) (defScope (top 39)) .none kV24 dc24 pm24 an24 cd24 ct24, fun s v => .of_eq rfl, fun base _ _ => law_ok T F24⟩
theorem walk {l : PySem.W.OpenLaw} {q : Program} {loose : List Str} {XP : (Str → Option Value) → Heap → Prop} {YP : World → Heap → Prop} {d : DefRec} {K : Params → PySem.W.Frag} (hn : l.most = some 63) (hdf : d.params.defaults = [])
    (hY : ∀ (w : World) (h : Heap), YP w h → (K w.params).In h)
    (F : ∀ (w : World) (mg : Str → Option Value) (fa : Addr) (h : Heap), (K w.params).In h → h.Ns mainGlobals mg → mg d.name = some (.ref fa) →
      ∃ fd : FuncData, (∀ (s : Shared) (u : Value), BindsTo s fd ⟨[u], []⟩ [("_law_script", u)]) ∧ ∀ base : Heap, (K w.params).In base → base.Ns mainGlobals mg → FnOk l.prog w (K w.params) mg base CX0 100 fa fd ["_law_script"] (LSp (K w.params) spLawC)) :
    PySem.W.WalkO q loose XP YP l.row.toRowW d [] (fun f vs => PySem.call f vs) :=
  L2.walk_ofC (n := 63) (k := 100) (x := "_law_script") (CX := fun _ => CX0) (sp := fun w => LSp (K w.params) spLawC) hn (by decide) hdf ⟨rfl, by decide, by decide⟩ hY F (fun _ _ _ _ hl hc hO hS => law_startC hO hS hl hc) fun _ _ _ _ _ z => z
end Lw
/-- names that the twins of the heap's trees would take: as they are taken, no twin is written (size) -/
noncomputable def PySem.W.Fast.tw6436363148361403104 : Unit := ()
noncomputable def PySem.W.Fast.tw1615403724369675970 : Unit := ()
noncomputable def PySem.W.Fast.tw1440195503164745064 : Unit := ()
noncomputable def PySem.W.Fast.tw2601903885050929801 : Unit := ()
noncomputable def PySem.W.Fast.tw11647079938632641994 : Unit := ()
noncomputable def PySem.W.Fast.tw14093137476147793996 : Unit := ()
noncomputable def PySem.W.Fast.tw12418014220426783020 : Unit := ()
noncomputable def PySem.W.Fast.tw10037031100346335278 : Unit := ()
noncomputable def PySem.W.Fast.tw11496996538256547505 : Unit := ()
noncomputable def PySem.W.Fast.tw13998403897246716210 : Unit := ()
noncomputable def PySem.W.Fast.tw15232006079623269780 : Unit := ()
noncomputable def PySem.W.Fast.tw10808900753496105143 : Unit := ()
noncomputable def PySem.W.Fast.tw14569443112802498455 : Unit := ()
noncomputable def PySem.W.Fast.tw5622369102557446811 : Unit := ()
noncomputable def PySem.W.Fast.tw7683485092207369374 : Unit := ()
open PySem PySem.W PyProof.Rows
set_option maxRecDepth 100000 in
set_option maxHeartbeats 0 in
theorem PySem.Challenge.cw_hydrahouse_k64_weights_holds : PySem.Challenge.rw_hydrahouse_k64_weights.Holds := by
  w_on; o_law; k_head; (case hw => w_witness2)
  k_fill
  refine Lw.walk (l := PySem.Challenge.rw_hydrahouse_k64_weights) rfl rfl (fun w h Y => PySem.W.kIn_of Y) ?F
  case F =>
    intro w mg fa h KX G hmg
    refine' Lw.all_mk KX G hmg ?a1 ?l1 ?c1 ?k1 ?a2 ?l2 ?c2 ?k2 ?a3 ?l3 ?c3 ?k3 ?a4 ?l4 ?c4 ?k4 ?a5 ?l5 ?c5 ?k5 ?a6 ?l6 ?c6 ?k6 ?a7 ?l7 ?c7 ?k7 ?a8 ?l8 ?c8 ?k8 ?a9 ?l9 ?c9 ?k9 ?a10 ?l10 ?c10 ?k10 ?a11 ?l11 ?c11 ?k11 ?a12 ?l12 ?c12 ?k12 ?a13 ?l13 ?c13 ?k13 ?a14 ?l14 ?c14 ?k14 ?a15 ?l15 ?c15 ?k15 ?a16 ?l16 ?c16 ?k16 ?a17 ?l17 ?c17 ?k17 ?a18 ?l18 ?c18 ?k18 ?a19 ?l19 ?c19 ?k19 ?a20 ?l20 ?c20 ?k20 ?a21 ?l21 ?c21 ?k21 ?a22 ?l22 ?c22 ?k22 ?a23 ?l23 ?c23 ?k23 ?a24 ?l24 ?c24 ?k24 ?t2 ?t5 ?xa0 ?xe0 ?xa1 ?xe1 ?xm1_0 ?ka0 ?kpg0 ?khd0 ?kpo0 ?ksa0 ?kmk0 ?kkc0 ?kn0_0 ?kn0_1 ?kf0_0 ?kfn0_0 ?kl0_0 ?kcd0_0 ?kkp0_0 ?kf0_1 ?kfn0_1 ?kl0_1 ?kcd0_1 ?kkp0_1 ?kf0_100 ?kfn0_100 ?kl0_100 ?kcd0_100 ?kkp0_100 ?kba0 ?kbb0 ?kbc0 ?kbe0 ?kbm0 ?ka1 ?kpg1 ?khd1 ?kpo1 ?ksa1 ?kmk1 ?kkc1 ?kn1_0 ?kn1_1 ?kf1_0 ?kfn1_0 ?kl1_0 ?kcd1_0 ?kkp1_0 ?kf1_1 ?kfn1_1 ?kl1_1 ?kcd1_1 ?kkp1_1 ?kf1_100 ?kfn1_100 ?kl1_100 ?kcd1_100 ?kkp1_100 ?kba1 ?kbb1 ?kbc1 ?kbe1 ?kbm1 ?ka2 ?kpg2 ?khd2 ?kpo2 ?ksa2 ?kmk2 ?kkc2 ?kn2_0 ?kn2_1 ?kf2_0 ?kfn2_0 ?kl2_0 ?kcd2_0 ?kkp2_0 ?kf2_1 ?kfn2_1 ?kl2_1 ?kcd2_1 ?kkp2_1 ?kf2_100 ?kfn2_100 ?kl2_100 ?kcd2_100 ?kkp2_100 ?kba2 ?kbb2 ?kbc2 ?kbe2 ?kbm2 ?ka3 ?kpg3 ?khd3 ?kpo3 ?ksa3 ?kmk3 ?kkc3 ?kn3_0 ?kf3_0 ?kfn3_0 ?kl3_0 ?kcd3_0 ?kkp3_0 ?kf3_1 ?kfn3_1 ?kl3_1 ?kcd3_1 ?kkp3_1 ?kf3_100 ?kfn3_100 ?kl3_100 ?kcd3_100 ?kkp3_100 ?kba3 ?kbb3 ?kbc3 ?kbe3 ?kbm3 ?ka4 ?kpg4 ?khd4 ?kpo4 ?ksa4 ?kmk4 ?kkc4 ?kn4_0 ?kn4_1 ?kn4_2 ?kf4_0 ?kfn4_0 ?kl4_0 ?kcd4_0 ?kkp4_0 ?kf4_1 ?kfn4_1 ?kl4_1 ?kcd4_1 ?kkp4_1 ?kf4_2 ?kfn4_2 ?kl4_2 ?kcd4_2 ?kkp4_2 ?kba4 ?kbb4 ?kbc4 ?kbe4 ?kbm4 ?ka5 ?kpg5 ?khd5 ?kpo5 ?ksa5 ?kmk5 ?kkc5 ?kn5_0 ?kn5_1 ?kn5_2 ?kn5_3 ?kf5_0 ?kfn5_0 ?kl5_0 ?kcd5_0 ?kkp5_0 ?kf5_1 ?kfn5_1 ?kl5_1 ?kcd5_1 ?kkp5_1 ?kf5_2 ?kfn5_2 ?kl5_2 ?kcd5_2 ?kkp5_2 ?kf5_3 ?kfn5_3 ?kl5_3 ?kcd5_3 ?kkp5_3 ?kba5 ?kbb5 ?kbc5 ?kbe5 ?kbm5 ?z1 ?z2 ?z3 ?z4 ?z5 ?z6 ?z7 ?z8 ?z9 ?z10 ?z11
    (case a1 => k_is)
    (case l1 => k_is)
    (case c1 => k_is)
    (case k1 => k_is)
    (case a2 => k_is)
    (case l2 => k_is)
    (case c2 => k_is)
    (case k2 => k_is)
    (case a3 => k_is)
    (case l3 => k_is)
    (case c3 => k_is)
    (case k3 => k_is)
    (case a4 => k_is)
    (case l4 => k_is)
    (case c4 => k_is)
    (case k4 => k_is)
    (case a5 => k_is)
    (case l5 => k_is)
    (case c5 => k_is)
    (case k5 => k_is)
    (case a6 => k_is)
    (case l6 => k_is)
    (case c6 => k_is)
    (case k6 => k_is)
    (case a7 => k_is)
    (case l7 => k_is)
    (case c7 => k_is)
    (case k7 => k_is)
    (case a8 => k_is)
    (case l8 => k_is)
    (case c8 => k_is)
    (case k8 => k_is)
    (case a9 => k_is)
    (case l9 => k_is)
    (case c9 => k_is)
    (case k9 => k_is)
    (case a10 => k_is)
    (case l10 => k_is)
    (case c10 => k_is)
    (case k10 => k_is)
    (case a11 => k_is)
    (case l11 => k_is)
    (case c11 => k_is)
    (case k11 => k_is)
    (case a12 => k_is)
    (case l12 => k_is)
    (case c12 => k_is)
    (case k12 => k_is)
    (case a13 => k_is)
    (case l13 => k_is)
    (case c13 => k_is)
    (case k13 => k_is)
    (case a14 => k_is)
    (case l14 => k_is)
    (case c14 => k_is)
    (case k14 => k_is)
    (case a15 => k_is)
    (case l15 => k_is)
    (case c15 => k_is)
    (case k15 => k_is)
    (case a16 => k_is)
    (case l16 => k_is)
    (case c16 => k_is)
    (case k16 => k_is)
    (case a17 => k_is)
    (case l17 => k_is)
    (case c17 => k_is)
    (case k17 => k_is)
    (case a18 => k_is)
    (case l18 => k_is)
    (case c18 => k_is)
    (case k18 => k_is)
    (case a19 => k_is)
    (case l19 => k_is)
    (case c19 => k_is)
    (case k19 => k_is)
    (case a20 => k_is)
    (case l20 => k_is)
    (case c20 => k_is)
    (case k20 => k_is)
    (case a21 => k_is)
    (case l21 => k_is)
    (case c21 => k_is)
    (case k21 => k_is)
    (case a22 => k_is)
    (case l22 => k_is)
    (case c22 => k_is)
    (case k22 => k_is)
    (case a23 => k_is)
    (case l23 => k_is)
    (case c23 => k_is)
    (case k23 => k_is)
    (case a24 => k_is)
    (case l24 => k_is)
    (case c24 => k_is)
    (case k24 => k_is)
    (case t2 => k_is)
    (case t5 => k_is)
    (case xa0 => k_is)
    (case xe0 => k_exc)
    (case xa1 => k_is)
    (case xe1 => k_exc)
    (case xm1_0 => k_is)
    (case ka0 => k_is)
    (case kpg0 => k_is)
    (case khd0 => k_is)
    (case kpo0 => k_is)
    (case ksa0 => k_is)
    (case kmk0 => k_is)
    (case kkc0 => k_is)
    (case kn0_0 => k_is)
    (case kn0_1 => k_is)
    (case kf0_0 => k_is)
    (case kfn0_0 => k_is)
    (case kl0_0 => k_is)
    (case kcd0_0 => k_is)
    (case kkp0_0 => k_is)
    (case kf0_1 => k_is)
    (case kfn0_1 => k_is)
    (case kl0_1 => k_is)
    (case kcd0_1 => k_is)
    (case kkp0_1 => k_is)
    (case kf0_100 => k_is)
    (case kfn0_100 => k_is)
    (case kl0_100 => k_is)
    (case kcd0_100 => k_is)
    (case kkp0_100 => k_is)
    (case kba0 => k_is)
    (case kbb0 => k_is)
    (case kbc0 => k_is)
    (case kbe0 => k_is)
    (case kbm0 => k_is)
    (case ka1 => k_is)
    (case kpg1 => k_is)
    (case khd1 => k_is)
    (case kpo1 => k_is)
    (case ksa1 => k_is)
    (case kmk1 => k_is)
    (case kkc1 => k_is)
    (case kn1_0 => k_is)
    (case kn1_1 => k_is)
    (case kf1_0 => k_is)
    (case kfn1_0 => k_is)
    (case kl1_0 => k_is)
    (case kcd1_0 => k_is)
    (case kkp1_0 => k_is)
    (case kf1_1 => k_is)
    (case kfn1_1 => k_is)
    (case kl1_1 => k_is)
    (case kcd1_1 => k_is)
    (case kkp1_1 => k_is)
    (case kf1_100 => k_is)
    (case kfn1_100 => k_is)
    (case kl1_100 => k_is)
    (case kcd1_100 => k_is)
    (case kkp1_100 => k_is)
    (case kba1 => k_is)
    (case kbb1 => k_is)
    (case kbc1 => k_is)
    (case kbe1 => k_is)
    (case kbm1 => k_is)
    (case ka2 => k_is)
    (case kpg2 => k_is)
    (case khd2 => k_is)
    (case kpo2 => k_is)
    (case ksa2 => k_is)
    (case kmk2 => k_is)
    (case kkc2 => k_is)
    (case kn2_0 => k_is)
    (case kn2_1 => k_is)
    (case kf2_0 => k_is)
    (case kfn2_0 => k_is)
    (case kl2_0 => k_is)
    (case kcd2_0 => k_is)
    (case kkp2_0 => k_is)
    (case kf2_1 => k_is)
    (case kfn2_1 => k_is)
    (case kl2_1 => k_is)
    (case kcd2_1 => k_is)
    (case kkp2_1 => k_is)
    (case kf2_100 => k_is)
    (case kfn2_100 => k_is)
    (case kl2_100 => k_is)
    (case kcd2_100 => k_is)
    (case kkp2_100 => k_is)
    (case kba2 => k_is)
    (case kbb2 => k_is)
    (case kbc2 => k_is)
    (case kbe2 => k_is)
    (case kbm2 => k_is)
    (case ka3 => k_is)
    (case kpg3 => k_is)
    (case khd3 => k_is)
    (case kpo3 => k_is)
    (case ksa3 => k_is)
    (case kmk3 => k_is)
    (case kkc3 => k_is)
    (case kn3_0 => k_is)
    (case kf3_0 => k_is)
    (case kfn3_0 => k_is)
    (case kl3_0 => k_is)
    (case kcd3_0 => k_is)
    (case kkp3_0 => k_is)
    (case kf3_1 => k_is)
    (case kfn3_1 => k_is)
    (case kl3_1 => k_is)
    (case kcd3_1 => k_is)
    (case kkp3_1 => k_is)
    (case kf3_100 => k_is)
    (case kfn3_100 => k_is)
    (case kl3_100 => k_is)
    (case kcd3_100 => k_is)
    (case kkp3_100 => k_is)
    (case kba3 => k_is)
    (case kbb3 => k_is)
    (case kbc3 => k_is)
    (case kbe3 => k_is)
    (case kbm3 => k_is)
    (case ka4 => k_is)
    (case kpg4 => k_is)
    (case khd4 => k_is)
    (case kpo4 => k_is)
    (case ksa4 => k_is)
    (case kmk4 => k_is)
    (case kkc4 => k_is)
    (case kn4_0 => k_is)
    (case kn4_1 => k_is)
    (case kn4_2 => k_is)
    (case kf4_0 => k_is)
    (case kfn4_0 => k_is)
    (case kl4_0 => k_is)
    (case kcd4_0 => k_is)
    (case kkp4_0 => k_is)
    (case kf4_1 => k_is)
    (case kfn4_1 => k_is)
    (case kl4_1 => k_is)
    (case kcd4_1 => k_is)
    (case kkp4_1 => k_is)
    (case kf4_2 => k_is)
    (case kfn4_2 => k_is)
    (case kl4_2 => k_is)
    (case kcd4_2 => k_is)
    (case kkp4_2 => k_is)
    (case kba4 => k_is)
    (case kbb4 => k_is)
    (case kbc4 => k_is)
    (case kbe4 => k_is)
    (case kbm4 => k_is)
    (case ka5 => k_is)
    (case kpg5 => k_is)
    (case khd5 => k_is)
    (case kpo5 => k_is)
    (case ksa5 => k_is)
    (case kmk5 => k_is)
    (case kkc5 => k_is)
    (case kn5_0 => k_is)
    (case kn5_1 => k_is)
    (case kn5_2 => k_is)
    (case kn5_3 => k_is)
    (case kf5_0 => k_is)
    (case kfn5_0 => k_is)
    (case kl5_0 => k_is)
    (case kcd5_0 => k_is)
    (case kkp5_0 => k_is)
    (case kf5_1 => k_is)
    (case kfn5_1 => k_is)
    (case kl5_1 => k_is)
    (case kcd5_1 => k_is)
    (case kkp5_1 => k_is)
    (case kf5_2 => k_is)
    (case kfn5_2 => k_is)
    (case kl5_2 => k_is)
    (case kcd5_2 => k_is)
    (case kkp5_2 => k_is)
    (case kf5_3 => k_is)
    (case kfn5_3 => k_is)
    (case kl5_3 => k_is)
    (case kcd5_3 => k_is)
    (case kkp5_3 => k_is)
    (case kba5 => k_is)
    (case kbb5 => k_is)
    (case kbc5 => k_is)
    (case kbe5 => k_is)
    (case kbm5 => k_is)
    (case z1 => k_is)
    (case z2 => k_is)
    (case z3 => k_is)
    (case z4 => k_is)
    (case z5 => k_is)
    (case z6 => k_is)
    (case z7 => k_is)
    (case z8 => k_is)
    (case z9 => k_is)
    (case z10 => k_is)
    (case z11 => k_is)
