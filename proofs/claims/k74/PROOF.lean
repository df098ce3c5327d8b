import PyProof.Rows.All
import Wide.All
import OpenK.AllK
import Wide.FinOn
import PySem.Challenge.RW_hydrahouse_k74_trees_as_texts
set_option bootstrap.genMatcherCode false
-- CHANGE: your row's module here, as the last of these rows
set_option Elab.async false
set_option linter.all false
set_option maxRecDepth 100000
/-! THE HAND LAYER, for ints, bools, texts, own classes, LISTS and tuples (index, slices, in, append, pop ..), calls, loops. Paste it whole ahead of your own text; what your proof does not reach may be deleted. -/
namespace L2
open PySem PySem.Spec PyProof.Rows
noncomputable abbrev Key := Sum Int Str
noncomputable def keyIs : Key → Value → Bool
  | .inl k, v => Value.isInt k v
  | .inr x, v => Value.isStrOf x v
noncomputable def keyH (w : World) : Key → Int
  | .inl k => hashInt k
  | .inr x => hashStr w x
theorem keyIs_shape : ∀ {k : Key} {v : Value}, keyIs k v = true → (∃ i t, k = Sum.inl i ∧ v = Value.int i t) ∨ (∃ x t, k = Sum.inr x ∧ v = Value.str x t)
  | .inl i, v, h => by
    obtain ⟨t, e⟩ := Value.isInt_shape (k := i) (v := v) h
    exact .inl ⟨i, t, rfl, e⟩
  | .inr x, v, h => by
    obtain ⟨t, e⟩ := Value.isStrOf_shape (x := x) (v := v) h
    exact .inr ⟨x, t, rfl, e⟩
theorem key_ll (a b : Int) : decide ((Sum.inl a : Key) = Sum.inl b) = (a == b) := by
  by_cases e : a = b
  · subst e; simp
  · have h : ¬ (Sum.inl a : Key) = Sum.inl b := fun q => e (Sum.inl.inj q)
    rw [decide_eq_false h]
    exact (beq_eq_false_iff_ne.mpr e).symm
theorem key_rr (a b : Str) : decide ((Sum.inr a : Key) = Sum.inr b) = decide (a = b) := by
  by_cases e : a = b
  · subst e; simp
  · have h : ¬ (Sum.inr a : Key) = Sum.inr b := fun q => e (Sum.inr.inj q)
    rw [decide_eq_false h, decide_eq_false e]
theorem key_lr (a : Int) (b : Str) : decide ((Sum.inl a : Key) = Sum.inr b) = false := decide_eq_false (fun q => nomatch q)
theorem key_rl (a : Str) (b : Int) : decide ((Sum.inr a : Key) = Sum.inl b) = false := decide_eq_false (fun q => nomatch q)
noncomputable def mixKind (prog : Program) (w : World) : PySem.KeyKind prog w Key where
  is := keyIs
  hash := keyH w
  inj := fun v a b ha hb => by
    rcases keyIs_shape ha with ⟨i, t, rfl, rfl⟩ | ⟨x, t, rfl, rfl⟩
    · rcases keyIs_shape hb with ⟨j, u, rfl, e⟩ | ⟨y, u, rfl, e⟩
      · injection e with e1 _; rw [e1]
      · exact nomatch e
    · rcases keyIs_shape hb with ⟨j, u, rfl, e⟩ | ⟨y, u, rfl, e⟩
      · exact nomatch e
      · injection e with e1 _; rw [e1]
  byValue := fun k v h => by
    rcases keyIs_shape h with ⟨i, t, rfl, rfl⟩ | ⟨x, t, rfl, rfl⟩ <;> rfl
  pyHash := fun hv h => by
    rcases keyIs_shape hv with ⟨i, t, rfl, rfl⟩ | ⟨x, t, rfl, rfl⟩
    · exact wpAny_pyHash_int h
    · exact wpAny_pyHash_str h
  eqBool := fun hu hv h => by
    rcases keyIs_shape hu with ⟨i, t, rfl, rfl⟩ | ⟨x, t, rfl, rfl⟩
    · rcases keyIs_shape hv with ⟨j, u, rfl, rfl⟩ | ⟨y, u, rfl, rfl⟩
      · rw [key_ll] at h; exact wpAny_eqBool_int h
      · rw [key_lr] at h; exact SeqAt.EqAt.int_str i t y u _ _ _ _ h
    · rcases keyIs_shape hv with ⟨j, u, rfl, rfl⟩ | ⟨y, u, rfl, rfl⟩
      · rw [key_rl] at h; exact SeqAt.EqAt.str_int x t j u _ _ _ _ h
      · rw [key_rr] at h; exact wpAny_eqBool_str h
  «strs» := fun k x t v h => by
    rcases keyIs_shape h with ⟨i, u, rfl, e⟩ | ⟨y, u, rfl, e⟩
    · exact nomatch e
    · injection e with e1 _
      subst e1
      cases v <;> rfl
end L2
namespace L2
open PySem PySem.Spec PyProof.Rows
inductive V where
  | non | bl (b : Bool) | int (i : Int) | str (x : Str) | byt (b : Array UInt8) | flt (b : UInt64) | ref (a : Addr) | ty (n : String)
  deriving DecidableEq
noncomputable def RelV : V → Value → Prop
  | .non, u => u = Value.none
  | .bl b, u => u = Value.bool b
  | .int i, u => ∃ t, u = Value.int i t
  | .str x, u => ∃ t, u = Value.str x t
  | .byt b, u => ∃ t, u = Value.bytes b t
  | .flt b, u => ∃ t, u = Value.float b t
  | .ref a, u => u = Value.ref a
  | .ty n, u => u = Value.type n
noncomputable abbrev Vals : List V → List Value → Prop := Paired RelV
theorem Vals.length {xs : List V} {us : List Value} (r : Vals xs us) : xs.length = us.length := Paired.length r
theorem Vals.get : ∀ {xs : List V} {us : List Value} {i : Nat} {x : V}, Vals xs us → xs[i]? = some x → ∃ u, us[i]? = some u ∧ RelV x u
  | _, _, _, _, .nil, e => by simp at e
  | _, _, 0, _, .cons r _, e => by simp at e; subst e; exact ⟨_, rfl, r⟩
  | _, _, i + 1, x, .cons _ t, e => by
    obtain ⟨u, h1, h2⟩ := Vals.get (i := i) (x := x) t (by simpa using e)
    exact ⟨u, by simpa using h1, h2⟩
theorem Vals.append : ∀ {xs ys : List V} {us ws : List Value}, Vals xs us → Vals ys ws → Vals (xs ++ ys) (us ++ ws)
  | _, _, _, _, .nil, s => s
  | _, _, _, _, .cons r t, s => .cons r (Vals.append t s)
theorem Vals.take : ∀ {xs : List V} {us : List Value} (n : Nat), Vals xs us → Vals (xs.take n) (us.take n)
  | _, _, 0, _ => .nil
  | _, _, _ + 1, .nil => .nil
  | _, _, n + 1, .cons r t => .cons r (Vals.take n t)
theorem Vals.drop : ∀ {xs : List V} {us : List Value} (n : Nat), Vals xs us → Vals (xs.drop n) (us.drop n)
  | _, _, 0, r => r
  | _, _, _ + 1, .nil => .nil
  | _, _, n + 1, .cons _ t => Vals.drop n t
noncomputable def RelO : Option V → Option Value → Prop
  | some v, some u => RelV v u
  | none, none => True
  | _, _ => False
noncomputable def KV {κ : Type} : List (κ × V) → List (κ × Value) → Prop := Paired fun (p : κ × V) (q : κ × Value) => p.1 = q.1 ∧ RelV p.2 q.2
noncomputable def kV : Key → V
  | .inl i => .int i
  | .inr x => .str x
inductive HO where
  | lst (xs : List V)
  | tup (xs : List V)
  | dK (kvs : List (Key × V)) | dT (kvs : List (List Key × V))
  | set (S : Int → Bool) (n : Nat)
  | ins (C dx : Addr) (fs : List (Str × V))
  | own (x : Addr)
  | xd (fs : List (Str × V))
  | met (f x : Addr)
  | rng (lo hi : Int)
  | frz (o : Obj) (u : HO)
  | tbl (ps : Array Value)
  | ext (φ : Heap → Prop)
noncomputable abbrev Hp := Addr → Option HO
noncomputable def upd (H : Hp) (a : Addr) (o : HO) : Hp := fun b => if b = a then some o else H b
theorem upd_same {H : Hp} {a : Addr} {o : HO} : upd H a o a = some o := by unfold upd; rw [if_pos rfl]
theorem upd_ne {H : Hp} {a b : Addr} {o : HO} (h : b ≠ a) : upd H a o b = H b := by unfold upd; rw [if_neg h]
theorem ne_of {H : Hp} {a b : Addr} {o u : HO} (h : H a = some o) (h' : H b = some u) (d : o ≠ u) : a ≠ b := by
  intro e; subst e; rw [h] at h'; exact d (Option.some.inj h')
theorem ne_of_none {H : Hp} {a b : Addr} {o : HO} (h : H a = some o) (h' : H b = none) : a ≠ b := by
  intro e; subst e; rw [h] at h'; cases h'
section
variable (P : Program) (w : World)
noncomputable def ObjOk (H : Hp) (h : Heap) (a : Addr) : HO → Prop
  | .lst xs => xs.length ≤ sizeLine ∧ ∃ (its : List Value) (n : Nat), Vals xs its ∧ h.get? a = some { cls := .type "list", data := .seq its.toArray n }
  | .tup xs => xs.length ≤ sizeLine ∧ ∃ its : List Value, Vals xs its ∧ IsTup h a its.toArray
  | .dK kvs => kvs.length ≤ sizeLine ∧ (a == sysModules) = false ∧ ∃ vs, KV kvs vs ∧ h.DictOf (mixKind P w) a vs
  | .dT kvs => kvs.length ≤ sizeLine ∧ (a == sysModules) = false ∧ ∃ xs : List (List Key × Addr × Value),
      Paired (fun (p : List Key × V) (q : List Key × Addr × Value) => p.1 = q.1 ∧ H q.2.1 = some (.tup (p.1.map kV)) ∧ RelV p.2 q.2.2) kvs xs ∧
      ∃ o es ep, h.get? a = some o ∧ o.ExactDict ∧ o.data = .dict es ep ∧ es.toList = xs.map (entryOfKey (tupleKind (mixKind P w))) ∧ (xs.map (·.1)).Nodup
  | .set S n => h.SetOf (intKind P w) a S n
  | .ins C dx fs => H dx = some (.own a) ∧ fs.length ≤ 1000 ∧ dx ≠ a ∧ h.get? a = some (PySem.W.instObj C dx) ∧
      ∃ mA, h.Ns1 dx mA ∧ (∀ f, RelO (fs.lookup f) (mA f)) ∧ PySem.Within mA (fs.map (·.1))
  | .own _ => ∃ o, h.get? a = some o
  | .xd fs => ∃ mA, h.Ns1 a mA ∧ ∀ f, RelO (fs.lookup f) (mA f)
  | .rng lo hi => ∃ t u v, h.get? a = some { cls := .type "range", data := .fields #[.int lo t, .int hi u, .int 1 v] }
  | .frz o u => h.get? a = some o ∧ ObjOk H h a u
  | .tbl ps => h.get? a = some { cls := .none, data := .fields ps }
  | .met f x => h.get? a = some (PySem.W.methodObj (.ref f) (.ref x))
  | .ext φ => φ h ∧ (∃ o, h.get? a = some o) ∧ ∀ h1 h2 : Heap, φ h1 → (∀ o, h1.get? a = some o → h2.get? a = some o) → φ h2
noncomputable def HOk (H : Hp) (h : Heap) : Prop := ∀ a o, H a = some o → ObjOk P w H h a o
end
section
variable {P : Program} {w : World} {H H' : Hp} {h h' : Heap} {a : Addr} {o : HO}
theorem ObjOk.lt (x : ObjOk P w H h a o) : a < h.objs.size := by
  cases o with
  | lst xs => obtain ⟨_, _, _, _, e⟩ := x; exact Heap.lt_size e
  | tup xs => obtain ⟨_, _, _, p⟩ := x; exact p.lt
  | dK kvs => obtain ⟨_, _, _, _, o, _, _, e, _⟩ := x; exact Heap.lt_size e
  | dT kvs => obtain ⟨_, _, _, _, o, _, _, e, _⟩ := x; exact Heap.lt_size e
  | set S n => obtain ⟨o, _, _, _, e, _⟩ := x; exact Heap.lt_size e
  | ins C dx fs => obtain ⟨_, _, _, e, _⟩ := x; exact Heap.lt_size e
  | own y => obtain ⟨_, e⟩ := x; exact Heap.lt_size e
  | xd fs => obtain ⟨_, ⟨_, _, _, e, _⟩, _⟩ := x; exact Heap.lt_size e
  | rng lo hi => obtain ⟨_, _, _, e⟩ := x; exact Heap.lt_size e
  | frz ob u => obtain ⟨e, _⟩ := x; exact Heap.lt_size e
  | tbl ps => exact Heap.lt_size (show h.get? a = some _ from x)
  | met f y => exact Heap.lt_size (show h.get? a = some _ from x)
  | ext φ => obtain ⟨_, ⟨_, e⟩, _⟩ := x; exact Heap.lt_size e
theorem Paired.mapP {α β : Type} {F G : α → β → Prop} : ∀ {l₁ : List α} {l₂ : List β}, Paired F l₁ l₂ → (∀ a b, F a b → G a b) → Paired G l₁ l₂
  | _, _, .nil, _ => .nil
  | _, _, .cons r t, f => .cons (f _ _ r) (Paired.mapP t f)
theorem ObjOk.stay (x : ObjOk P w H h a o) (k : ∀ b u, (b = a ∨ H b = some (.own a)) → h.get? b = some u → h'.get? b = some u)
    (ho : ∀ b, H b = some (.own a) → H' b = some (.own a)) (ht : ∀ b xs, H b = some (.tup xs) → H' b = some (.tup xs)) : ObjOk P w H' h' a o := by
  induction o with
  | lst xs => obtain ⟨z, its, n, r, e⟩ := x; exact ⟨z, its, n, r, k _ _ (.inl rfl) e⟩
  | tup xs => obtain ⟨z, its, r, ob, e, c⟩ := x; exact ⟨z, its, r, ob, k _ _ (.inl rfl) e, c⟩
  | dK kvs => obtain ⟨z, y, vs, r, ob, es, ep, e, c⟩ := x; exact ⟨z, y, vs, r, ob, es, ep, k _ _ (.inl rfl) e, c⟩
  | dT kvs =>
    obtain ⟨z, y, xs, r, ob, es, ep, e, c⟩ := x
    exact ⟨z, y, xs, Paired.mapP r fun p q z => ⟨z.1, ht _ _ z.2.1, z.2.2⟩, ob, es, ep, k _ _ (.inl rfl) e, c⟩
  | set S n => obtain ⟨ob, es, ep, t, e, c⟩ := x; exact ⟨ob, es, ep, t, k _ _ (.inl rfl) e, c⟩
  | ins C dx fs =>
    obtain ⟨d, z, ne, e, mA, ⟨od, es, ep, e2, c⟩, r⟩ := x
    exact ⟨ho _ d, z, ne, k _ _ (.inl rfl) e, mA, ⟨od, es, ep, k _ _ (.inr d) e2, c⟩, r⟩
  | own y => obtain ⟨ob, e⟩ := x; exact ⟨ob, k _ _ (.inl rfl) e⟩
  | xd fs => obtain ⟨mA, ⟨od, es, ep, e, c⟩, r⟩ := x; exact ⟨mA, ⟨od, es, ep, k _ _ (.inl rfl) e, c⟩, r⟩
  | rng lo hi => obtain ⟨t, u, v, e⟩ := x; exact ⟨t, u, v, k _ _ (.inl rfl) e⟩
  | frz ob u ih => obtain ⟨e, q⟩ := x; exact ⟨k _ _ (.inl rfl) e, ih q⟩
  | tbl ps =>
    have e : h.get? a = some { cls := .none, data := .fields ps } := x
    show h'.get? a = some { cls := .none, data := .fields ps }
    exact k a _ (.inl rfl) e
  | met f y =>
    have e : h.get? a = some (PySem.W.methodObj (.ref f) (.ref y)) := x
    show h'.get? a = some (PySem.W.methodObj (.ref f) (.ref y))
    exact k a _ (.inl rfl) e
  | ext φ => obtain ⟨p, ⟨o, e⟩, st⟩ := x; exact ⟨st _ _ p fun o q => k _ _ (.inl rfl) q, ⟨o, k _ _ (.inl rfl) e⟩, st⟩
theorem HOk.lt (x : HOk P w H h) (e : H a = some o) : a < h.objs.size := (x a o e).lt
theorem HOk.fresh (x : HOk P w H h) (e : h.objs.size ≤ a) : H a = none := by
  cases q : H a with
  | none => rfl
  | some u => exact absurd (Nat.lt_of_lt_of_le (x.lt q) e) (Nat.lt_irrefl _)
theorem HOk.kept (x : HOk P w H h) (k : ∀ b u, h.get? b = some u → h'.get? b = some u) : HOk P w H h' := fun a o e =>
  (x a o e).stay (fun b u _ q => k b u q) (fun _ q => q) fun _ _ q => q
theorem HOk.laid (x : HOk P w H h) (k : ∀ b u, h.get? b = some u → h'.get? b = some u) (hp : h.objs.size ≤ a) (new : ObjOk P w (upd H a o) h' a o) : HOk P w (upd H a o) h' := fun b u e => by
  have hn := x.fresh hp
  by_cases hb : b = a
  · subst hb; rw [upd_same] at e; cases e; exact new
  · rw [upd_ne hb] at e
    exact (x b u e).stay (fun c v _ q => k c v q) (fun c q => by rw [upd_ne (ne_of_none q hn)]; exact q) fun c xs q => by rw [upd_ne (ne_of_none q hn)]; exact q
end
noncomputable def Rd (H : Hp) (a : Addr) (u : HO) : Prop := H a = some u ∨ ∃ o, H a = some (.frz o u)
theorem Rd.ok {P : Program} {w : World} {H : Hp} {h : Heap} {a : Addr} {u : HO} (r : Rd H a u) (x : HOk P w H h) : ObjOk P w H h a u := by
  rcases r with r | ⟨o, r⟩
  · exact x a u r
  · obtain ⟨_, q⟩ := x a _ r
    exact q
noncomputable def Mut : Option HO → Prop
  | some (.lst _) => True
  | some (.dK _) => True
  | some (.dT _) => True
  | some (.set _ _) => True
  | some (.ins _ _ _) => True
  | some (.ext _) => True
  | _ => False
section
variable {P : Program} {w : World} {H : Hp} {h h' : Heap} {x e : Addr} {o' : HO}
theorem HOk.write (ok : HOk P w H h) (mu : Mut (H x)) (he : e = x ∨ H e = some (.own x)) (k : ∀ b u, b ≠ e → h.get? b = some u → h'.get? b = some u) (heo : ∃ u, h'.get? e = some u)
    (new : ObjOk P w (upd H x o') h' x o') : HOk P w (upd H x o') h' := fun b u q => by
  have nown : ∀ c y, H c = some (.own y) → c ≠ x := fun c y r z => by subst z; rw [r] at mu; exact mu
  have ntup : ∀ c xs, H c = some (.tup xs) → c ≠ x := fun c xs r z => by subst z; rw [r] at mu; exact mu
  by_cases hb : b = x
  · subst hb; rw [upd_same] at q; cases q; exact new
  · rw [upd_ne hb] at q
    by_cases hbe : b = e
    · have q' : H b = some (.own x) := by
        rcases he with z | z
        · exact absurd (hbe.trans z) hb
        · rw [hbe]; exact z
      rw [q] at q'; cases q'
      obtain ⟨v, hv⟩ := heo
      exact ⟨v, by rw [hbe]; exact hv⟩
    · refine (ok b u q).stay (fun c v hc r => k c v ?_ r) (fun c r => by rw [upd_ne (nown c b r)]; exact r) fun c xs r => by rw [upd_ne (ntup c xs r)]; exact r
      rcases hc with rfl | hc
      · exact hbe
      · rintro rfl
        rcases he with z | z
        · exact nown c b hc z
        · rw [hc] at z; cases z; exact hb rfl
end
structure Un (fs ex : List Addr) (H H' : Hp) (h h' : Heap) : Prop where
  keep : ∀ b o, h.get? b = some o → H b = none → b ∉ fs → b ∉ ex → h'.get? b = some o
  slot : ∀ b o, h.get? b = some o → H b = none → b ∈ fs → b ∉ ex → ∃ sl, h'.get? b = some { o with slots := sl }
  free : ∀ b o, h.get? b = some o → H b = none → b ∉ ex → H' b = none
  there : ∀ b o, h.get? b = some o → b ∉ ex → ∃ o', h'.get? b = some o'
  tups : ∀ b xs, H b = some (.tup xs) → H' b = some (.tup xs)
  frzs : ∀ b o u, H b = some (.frz o u) → H' b = some (.frz o u)
  tbls : ∀ b ps, H b = some (.tbl ps) → ∃ more, H' b = some (.tbl (ps ++ more))
section
variable {fs fs' ex ex' : List Addr} {H H1 H2 : Hp} {h h1 h2 h' : Heap} {a x e : Addr} {o : HO}
theorem Un.any (u : Un fs ex H H1 h h1) {b : Addr} {ob : Obj} (q : h.get? b = some ob) (n : H b = none) (hx : b ∉ ex) : ∃ sl, h1.get? b = some { ob with slots := sl } := by
  by_cases hb : b ∈ fs
  · exact u.slot b ob q n hb hx
  · exact ⟨ob.slots, u.keep b ob q n hb hx⟩
theorem Un.kept (k : ∀ b u, h.get? b = some u → h'.get? b = some u) : Un fs ex H H h h' :=
  ⟨fun b ob q _ _ _ => k b ob q, fun b ob q _ _ _ => ⟨ob.slots, k b ob q⟩, fun _ _ _ n _ => n, fun b ob q _ => ⟨ob, k b ob q⟩, fun _ _ q => q, fun _ _ _ q => q, fun _ ps q => ⟨#[], by rw [q]; simp⟩⟩
theorem Un.refl : Un fs ex H H h h := Un.kept fun _ _ q => q
theorem Un.laid (k : ∀ b u, h.get? b = some u → h'.get? b = some u) (hp : h.objs.size ≤ a) (hn : H a = none) : Un fs ex H (upd H a o) h h' where
  keep := fun b u q _ _ _ => k b u q
  slot := fun b u q _ _ _ => ⟨u.slots, k b u q⟩
  free := fun b u q n _ => by rw [upd_ne (Nat.ne_of_lt (Nat.lt_of_lt_of_le (Heap.lt_size q) hp))]; exact n
  there := fun b u q _ => ⟨u, k b u q⟩
  tups := fun b xs q => by rw [upd_ne (ne_of_none q hn)]; exact q
  frzs := fun b u xs q => by rw [upd_ne (ne_of_none q hn)]; exact q
  tbls := fun b ps q => ⟨#[], by rw [upd_ne (ne_of_none q hn), q]; simp⟩
theorem Un.write (mu : Mut (H x)) (he : e = x ∨ H e = some (.own x)) (k : ∀ b u, b ≠ e → h.get? b = some u → h'.get? b = some u) (heo : ∃ u, h'.get? e = some u) : Un fs ex H (upd H x o) h h' := by
  have hx : ∀ b, H b = none → b ≠ x := fun b n z => by subst z; rw [n] at mu; exact mu
  have hb : ∀ b, H b = none → b ≠ e := fun b n z => by
    subst z
    rcases he with r | r
    · exact hx b n r
    · rw [n] at r; cases r
  have hm : ∀ b u, H b = some u → ¬ Mut (some u) → b ≠ x := fun b u q nm z => by subst z; rw [q] at mu; exact nm mu
  refine ⟨fun b u q n _ _ => k b u (hb b n) q, fun b u q n _ _ => ⟨u.slots, k b u (hb b n) q⟩, fun b u q n _ => by rw [upd_ne (hx b n)]; exact n, fun b u q _ => ?_,
    fun b xs q => by rw [upd_ne (hm b _ q fun z => z)]; exact q, fun b u xs q => by rw [upd_ne (hm b _ q fun z => z)]; exact q, fun b ps q => ⟨#[], by rw [upd_ne (hm b _ q fun z => z), q]; simp⟩⟩
  by_cases hbe : b = e
  · subst hbe; exact heo
  · exact ⟨u, k b u hbe q⟩
end
noncomputable def trk (h : Heap) (H : Hp) : List Addr := (List.range h.objs.size).filter fun a => (H a).isSome
noncomputable def hidT (h : Heap) (H : Hp) : Heap := PySem.W.hideAll h (trk h H)
theorem hidT_size (h : Heap) (H : Hp) : (hidT h H).objs.size = h.objs.size := PySem.W.hideAll_size _ _
theorem hidT_get {h : Heap} {H : Hp} {b : Addr} {o : Obj} (e : h.get? b = some o) (n : H b = none) : (hidT h H).get? b = some o :=
  PySem.W.hideAll_get _ e fun hm => by
    have q : (H b).isSome = true := (List.mem_filter.mp hm).2
    rw [n] at q; simp at q
theorem of_hidT {h : Heap} {H : Hp} {b : Addr} {o : Obj} (e : (hidT h H).get? b = some o) : h.get? b = some o ∧ H b = none := by
  have e' : h.get? b = some o := PySem.W.of_hideAll (trk h H) e
  refine ⟨e', ?_⟩
  cases q : H b with
  | none => rfl
  | some x =>
    have hm : b ∈ trk h H := List.mem_filter.mpr ⟨List.mem_range.mpr (Heap.lt_size e'), by simp [q]⟩
    have z : (hidT h H).get? b = none := PySem.W.hideAll_none (trk h H) hm
    rw [z] at e; cases e
noncomputable def allNews (g h : Heap) (L : Addr) : List (Addr × Obj) := (List.range h.objs.size).filterMap fun a => if a = L ∨ (g.get? a).isSome = true then none else (h.get? a).map fun o => (a, o)
noncomputable def rest (g h : Heap) (L d : Addr) : List (Addr × Obj) := (allNews g h L).filter fun p => decide (p.1 ≠ d)
end L2
namespace L2
open PySem PySem.Spec PyProof.Rows
structure Mod (K : PySem.W.Frag) (mg : Str → Option Value) (base : Heap) : Prop where
  kin : K.In base
  glob : base.Ns mainGlobals mg
  blt : ∃ mb, base.Ns builtinsNs mb ∧ ∀ x : Str, x ≠ "__name__" → mb x = bootBuiltins x
  nolimit : base.NoLimit
structure Cx where
  prog : Program
  w : World
  K : PySem.W.Frag
  mg : Str → Option Value
  base : Heap
  A : Around
  N : List Str
  s₀ : Shared
  H₀ : Hp
  env : Env
  outer : List Env
  stack : List Env
  ex : List Addr
  fn : Str → Bool
  calm : Bool
  pn : List (Addr × Obj)
  xe : Value → Shared → Prop
noncomputable def frs (l : List Env) : List Addr := l.filterMap (·.frame)
noncomputable abbrev Cx.fs (X : Cx) : List Addr := frs X.outer
noncomputable def Vis (sc : Scope) (x : Str) : Prop := sc.names.lookup x = some .local ∨ sc.names.lookup x = some .cell ∨ sc.names.lookup x = some .free
noncomputable def Loc (sc : Scope) (x : Str) : Prop := sc.names.lookup x = some .local ∨ sc.names.lookup x = some .cell
noncomputable def Look (env : Env) (h : Heap) (m : Str → Option Value) (x : Str) (u : Value) : Prop :=
  (env.kindOf x = some .local ∧ m x = some u) ∨ ((env.kindOf x = some .cell ∨ env.kindOf x = some .free) ∧ ∃ c, env.cells.lookup x = some c ∧ h.IsCell c (some u))
structure Cx.Ok (X : Cx) : Prop where
  mod : Mod X.K X.mg X.base
  kind : X.env.scope.kind = .function
  glob : X.env.globals = mainGlobals
  blt : X.env.builtins = builtinsNs
  above : X.s₀.heap.objs.size ≤ X.env.locals
  inj : ∀ x y c, X.env.cells.lookup x = some c → X.env.cells.lookup y = some c → x = y
  has : ∀ x, (X.env.kindOf x = some .cell ∨ X.env.kindOf x = some .free) → ∃ c, X.env.cells.lookup x = some c
  cab : ∀ x c, X.fn x = true → X.env.cells.lookup x = some c → X.s₀.heap.objs.size ≤ c
  hd : X.calm = true → X.A.handled = none
  frames : X.A.frames = some X.stack
  stk : X.stack = X.outer ∨ (X.stack = X.env :: X.outer ∧ X.env.frame = some X.env.locals)
  exf : ∀ b ∈ X.ex, b ≠ X.env.locals ∧ ∀ x c, X.env.cells.lookup x = some c → c ≠ b
  bs : ∀ b o, X.base.get? b = some o → X.s₀.heap.get? b = some o ∧ X.H₀ b = none
  bsz : X.base.objs.size ≤ X.s₀.heap.objs.size
  noex : ∀ b o, X.base.get? b = some o → b ∉ X.ex
  exfs : ∀ b ∈ X.ex, b ∉ X.fs
  funs : X.s₀.heap.FunFrames X.base X.outer
  frf : ∀ b ∈ X.fs, X.H₀ b = none
structure Inv (X : Cx) (pins : List (Addr × Obj)) (σ : List (Option V)) (H : Hp) (s : Shared) : Prop where
  ok : X.Ok
  os : s.os = X.s₀.os
  bare : AllBare s.gens
  base : Un X.fs X.ex X.H₀ H X.s₀.heap s.heap
  loc : ∃ m, s.heap.Ns X.env.locals m ∧ ∀ (i : Nat) (x : Str) (v : V), X.N[i]? = some x → σ[i]? = some (some v) → Vis X.env.scope x → ∃ u, RelV v u ∧ Look X.env s.heap m x u
  cell : ∀ x c, X.env.cells.lookup x = some c → ∃ v, s.heap.IsCell c v
  free : H X.env.locals = none
  freeC : ∀ x c, X.env.cells.lookup x = some c → H c = none
  pin : ∀ p ∈ X.pn ++ pins, s.heap.get? p.1 = some p.2 ∧ H p.1 = none ∧ p.1 ≠ X.env.locals ∧ p.1 ∉ X.fs ∧ ∀ v, p.2.data ≠ .cell v
  hok : HOk X.prog X.w H s.heap
  len : σ.length = X.N.length
section
variable {X : Cx} {pins : List (Addr × Obj)} {σ : List (Option V)} {H H' : Hp} {s : Shared} {h' : Heap}
theorem Cx.Ok.nofr (ok : X.Ok) {b : Addr} {o : Obj} (e : X.base.get? b = some o) : b ∉ X.fs := fun hb => by
  have := (ok.funs.mem hb).1
  rw [e] at this; cases this
theorem Inv.bs (I : Inv X pins σ H s) : ∀ b o, X.base.get? b = some o → s.heap.get? b = some o ∧ H b = none := fun b o e =>
  ⟨I.base.keep b o (I.ok.bs b o e).1 (I.ok.bs b o e).2 (I.ok.nofr e) (I.ok.noex b o e), I.base.free b o (I.ok.bs b o e).1 (I.ok.bs b o e).2 (I.ok.noex b o e)⟩
theorem Inv.bk (I : Inv X pins σ H s) : ∀ b o, X.base.get? b = some o → s.heap.get? b = some o := fun b o e => (I.bs b o e).1
theorem Inv.mod (I : Inv X pins σ H s) : Mod X.K X.mg X.base := I.ok.mod
theorem Inv.kIn (I : Inv X pins σ H s) : X.K.In s.heap := I.ok.mod.kin.keeps I.bk
theorem Inv.lt (I : Inv X pins σ H s) : X.env.locals < s.heap.objs.size := let ⟨_, hn, _⟩ := I.loc; hn.lt
theorem Inv.sz (I : Inv X pins σ H s) : X.s₀.heap.objs.size ≤ s.heap.objs.size := Nat.le_trans I.ok.above (Nat.le_of_lt I.lt)
theorem Inv.nofs (I : Inv X pins σ H s) {a : Addr} (h : s.heap.objs.size ≤ a) : a ∉ X.fs := fun hb => by
  obtain ⟨_, o, ho, _⟩ := I.ok.funs.mem hb
  exact absurd (Nat.lt_of_lt_of_le (Heap.lt_size ho) (Nat.le_trans I.sz h)) (Nat.lt_irrefl _)
theorem Inv.cne (I : Inv X pins σ H s) : ∀ x c, X.env.cells.lookup x = some c → c ≠ X.env.locals := fun x c e z => by
  obtain ⟨v, o, ho, hd⟩ := I.cell x c e
  obtain ⟨m, ⟨o', es, ep, ho', hd', _⟩, _⟩ := I.loc
  rw [z, ho'] at ho; cases ho; rw [hd'] at hd; cases hd
theorem Inv.funs (I : Inv X pins σ H s) : s.heap.FunFrames X.base X.outer := by
  have all : ∀ (l : List Env), (∀ b ∈ frs l, b ∈ X.fs) → X.s₀.heap.FunFrames X.base l → s.heap.FunFrames X.base l := by
    intro l
    induction l with
    | nil => intro _ _; trivial
    | cons env r ih =>
      intro hs hl
      obtain ⟨hk, ⟨L, o, hf, hn, ho, hd⟩, hr⟩ := hl
      have hL : L ∈ X.fs := hs L (by unfold frs; rw [List.filterMap_cons, hf]; exact List.mem_cons_self)
      obtain ⟨sl, e⟩ := I.base.slot L o ho (I.ok.frf L hL) hL fun z => I.ok.exfs L z hL
      exact ⟨hk, ⟨L, _, hf, hn, e, hd⟩, ih (fun b hb => hs b (by unfold frs; rw [List.filterMap_cons, hf]; exact List.mem_cons_of_mem _ hb)) hr⟩
  exact all X.outer (fun _ hb => hb) I.ok.funs
theorem Inv.stack (I : Inv X pins σ H s) : s.heap.FunFrames X.base X.stack := by
  rcases I.ok.stk with e | ⟨e, hf⟩
  · rw [e]; exact I.funs
  · rw [e]
    obtain ⟨m, hn, _⟩ := I.loc
    refine .cons (by rw [I.ok.kind]; decide) hf hn ?_ I.funs
    exact Heap.get?_none_of_le (Nat.le_trans I.ok.bsz I.ok.above)
theorem Inv.stkSub (I : Inv X pins σ H s) : ∀ b ∈ frs X.stack, b ∈ X.env.locals :: X.fs := fun b hb => by
  rcases I.ok.stk with e | ⟨e, hf⟩
  · rw [e] at hb; exact List.mem_cons_of_mem _ hb
  · rw [e] at hb
    unfold frs at hb
    rw [List.filterMap_cons, hf] at hb
    exact hb
theorem Inv.stkFree (I : Inv X pins σ H s) : ∀ b ∈ frs X.stack, H b = none := fun b hb => by
  rcases List.mem_cons.mp (I.stkSub b hb) with e | hb
  · rw [e]; exact I.free
  · obtain ⟨_, o, ho, _⟩ := I.ok.funs.mem hb
    exact I.base.free b o ho (I.ok.frf b hb) fun z => I.ok.exfs b z hb
theorem Inv.step {g' : Array GenState} {t' : Nat} {d' : Drawn} {ch : List Addr} (I : Inv X pins σ H s)
    (hch : ∀ b ∈ ch, (b ∈ X.ex ∨ X.s₀.heap.objs.size ≤ b) ∧ b ≠ X.env.locals ∧ (∀ x c, X.env.cells.lookup x = some c → c ≠ b) ∧ ∀ p ∈ X.pn ++ pins, p.1 ≠ b)
    (keep : ∀ b o, b ≠ X.env.locals → b ∉ X.fs → b ∉ ch → s.heap.get? b = some o → H b = none → h'.get? b = some o)
    (slot : ∀ b o, b ≠ X.env.locals → b ∈ X.fs → b ∉ ch → s.heap.get? b = some o → H b = none → ∃ sl, h'.get? b = some { o with slots := sl }) (free : ∀ b o, b ∉ ch → s.heap.get? b = some o → H b = none → H' b = none)
    (there : ∀ b o, b ∉ ch → s.heap.get? b = some o → ∃ o', h'.get? b = some o')
    (tups : ∀ b xs, H b = some (.tup xs) → H' b = some (.tup xs)) (frzs : ∀ b o u, H b = some (.frz o u) → H' b = some (.frz o u)) (tbls : ∀ b ps, H b = some (.tbl ps) → ∃ more, H' b = some (.tbl (ps ++ more)))
    (ns : ∀ m, s.heap.Ns X.env.locals m → h'.Ns X.env.locals m) (hok : HOk X.prog X.w H' h') (hg : AllBare g') :
    Inv X pins σ H' { s with heap := h', gens := g', drawn := d', toks := t' } := by
  have neL : ∀ b o, X.s₀.heap.get? b = some o → b ≠ X.env.locals := fun b o e => Nat.ne_of_lt (Nat.lt_of_lt_of_le (Heap.lt_size e) I.ok.above)
  have neC : ∀ b o, X.s₀.heap.get? b = some o → b ∉ X.ex → b ∉ ch := fun b o e hx hb => by
    rcases (hch b hb).1 with z | z
    · exact hx z
    · exact absurd (Nat.lt_of_lt_of_le (Heap.lt_size e) z) (Nat.lt_irrefl _)
  have cellK : ∀ x c, X.env.cells.lookup x = some c → ∀ v, s.heap.IsCell c v → h'.IsCell c v := fun x c e v ⟨o, ho, hd⟩ => by
    have nch : c ∉ ch := fun z => (hch c z).2.2.1 x c e rfl
    by_cases hc : c ∈ X.fs
    · obtain ⟨sl, q⟩ := slot c o (I.cne x c e) hc nch ho (I.freeC x c e)
      exact ⟨_, q, hd⟩
    · exact ⟨o, keep c o (I.cne x c e) hc nch ho (I.freeC x c e), hd⟩
  refine ⟨I.ok, I.os, hg, ⟨fun b o e n hb hx => ?_, fun b o e n hb hx => ?_, fun b o e n hx => ?_, fun b o e hx => ?_, fun b xs e => tups b xs (I.base.tups b xs e), fun b o xs e => frzs b o xs (I.base.frzs b o xs e), fun b ps e => ?_⟩, ?_, fun x c e => ?_, ?_, fun x c e => ?_, fun p hp => ?_, hok, I.len⟩
  · exact keep b o (neL b o e) hb (neC b o e hx) (I.base.keep b o e n hb hx) (I.base.free b o e n hx)
  · obtain ⟨sl, e1⟩ := I.base.slot b o e n hb hx
    obtain ⟨sl', e2⟩ := slot b _ (neL b o e) hb (neC b o e hx) e1 (I.base.free b o e n hx)
    exact ⟨sl', e2⟩
  · obtain ⟨o', e1⟩ := I.base.there b o e hx
    exact free b o' (neC b o e hx) e1 (I.base.free b o e n hx)
  · obtain ⟨o', e1⟩ := I.base.there b o e hx
    exact there b o' (neC b o e hx) e1
  · obtain ⟨m1, e1⟩ := I.base.tbls b ps e
    obtain ⟨m2, e2⟩ := tbls b _ e1
    exact ⟨m1 ++ m2, by rw [e2, Array.append_assoc]⟩
  · obtain ⟨m, hn, hl⟩ := I.loc
    refine ⟨m, ns m hn, fun i x v e1 e2 e3 => ?_⟩
    obtain ⟨u, r, l⟩ := hl i x v e1 e2 e3
    refine ⟨u, r, ?_⟩
    rcases l with l | ⟨k, c, e, z⟩
    · exact .inl l
    · exact .inr ⟨k, c, e, cellK x c e _ z⟩
  · obtain ⟨v, z⟩ := I.cell x c e
    exact ⟨v, cellK x c e v z⟩
  · obtain ⟨m, ⟨o, _, _, ho, _⟩, _⟩ := I.loc
    exact free _ o (fun z => (hch _ z).2.1 rfl) ho I.free
  · obtain ⟨v, o, ho, hd⟩ := I.cell x c e
    exact free c o (fun z => (hch c z).2.2.1 x c e rfl) ho (I.freeC x c e)
  · obtain ⟨e, n, ne, nf, d⟩ := I.pin p hp
    have nch : p.1 ∉ ch := fun z => (hch p.1 z).2.2.2 p hp rfl
    exact ⟨keep p.1 p.2 ne nf nch e n, free p.1 p.2 nch e n, ne, nf, d⟩
theorem Inv.un {t' : Nat} (I : Inv X pins σ H s) (u : Un X.fs [] H H' s.heap h') (hok : HOk X.prog X.w H' h') : Inv X pins σ H' { s with heap := h', toks := t' } := by
  obtain ⟨m, ⟨o, es, ep, ho, r⟩, _⟩ := id I.loc
  obtain ⟨sl, hL⟩ := u.any ho I.free (by simp)
  exact I.step (g' := s.gens) (d' := s.drawn) (ch := []) (fun _ z => nomatch z) (fun b o _ hb _ e n => u.keep b o e n hb (by simp)) (fun b o _ hb _ e n => u.slot b o e n hb (by simp)) (fun b o _ e n => u.free b o e n (by simp)) (fun b o _ e => u.there b o e (by simp)) u.tups u.frzs u.tbls (fun m' hm => by
    obtain ⟨o', es', ep', ho', r'⟩ := hm
    rw [ho] at ho'; cases ho'
    exact ⟨_, es', ep', hL, r'⟩) hok I.bare
theorem Inv.call {g' : Array GenState} {t' : Nat} {d' : Drawn} {ch : List Addr} (I : Inv X pins σ H s) (u : Un (frs X.stack) ch H H' s.heap h') (hok : HOk X.prog X.w H' h') (hg : AllBare g')
    (hch : ∀ b ∈ ch, (b ∈ X.ex ∨ X.s₀.heap.objs.size ≤ b) ∧ b ≠ X.env.locals ∧ (∀ x c, X.env.cells.lookup x = some c → c ≠ b) ∧ ∀ p ∈ X.pn ++ pins, p.1 ≠ b) :
    Inv X pins σ H' { s with heap := h', gens := g', drawn := d', toks := t' } := by
  obtain ⟨m, ⟨o, es, ep, ho, r⟩, _⟩ := id I.loc
  obtain ⟨sl, hL⟩ := u.any ho I.free fun z => (hch _ z).2.1 rfl
  exact I.step (ch := ch) hch (fun b o hL hb hc e n => u.keep b o e n (fun z => (List.mem_cons.mp (I.stkSub b z)).elim hL hb) hc) (fun b o _ _ hc e n => u.any e n hc) (fun b o hc e n => u.free b o e n hc) (fun b o hc e => u.there b o e hc) u.tups u.frzs u.tbls (fun m' hm => by
    obtain ⟨o', es', ep', ho', r'⟩ := hm
    rw [ho] at ho'; cases ho'
    exact ⟨_, es', ep', hL, r'⟩) hok hg
theorem Inv.turned {t' : Nat} {it : Addr} (I : Inv X pins σ H s) (k : ∀ b o, b ≠ it → s.heap.get? b = some o → h'.get? b = some o) (hn : H it = none) (hL : it ≠ X.env.locals)
    (h1 : it ∈ X.ex ∨ X.s₀.heap.objs.size ≤ it) (h2 : ∀ x c, X.env.cells.lookup x = some c → c ≠ it) (h3 : ∀ p ∈ X.pn ++ pins, p.1 ≠ it) : Inv X pins σ H { s with heap := h', toks := t' } := by
  have nit : ∀ b u, H b = some u → b ≠ it := fun b u e z => by rw [z, hn] at e; cases e
  refine I.step (g' := s.gens) (d' := s.drawn) (ch := [it]) (fun b hb => ?_) (fun b o _ _ hc e _ => k b o (fun z => hc (by simp [z])) e) (fun b o _ _ hc e _ => ⟨o.slots, k b o (fun z => hc (by simp [z])) e⟩) (fun _ _ _ _ n => n)
    (fun b o hc e => ⟨o, k b o (fun z => hc (by simp [z])) e⟩) (fun _ _ e => e) (fun _ _ _ e => e) (fun b ps e => ⟨#[], by rw [e]; simp⟩) (fun m hm => ?_) (fun b u e => ?_) I.bare
  · have e : b = it := by simpa using hb
    subst e
    exact ⟨h1, hL, h2, h3⟩
  · obtain ⟨o, es, ep, ho, r⟩ := hm
    exact ⟨o, es, ep, k _ o (Ne.symm hL) ho, r⟩
  · refine (I.hok b u e).stay (fun c v hc q => k c v ?_ q) (fun _ q => q) fun _ _ q => q
    rcases hc with z | z
    · rw [z]; exact nit b u e
    · exact nit c _ z
theorem Inv.tok (I : Inv X pins σ H s) (t : Nat) : Inv X pins σ H { s with toks := t } := I.un (h' := s.heap) (t' := t) Un.refl I.hok
theorem Inv.kept {t' : Nat} (I : Inv X pins σ H s) (k : ∀ b u, s.heap.get? b = some u → h'.get? b = some u) : Inv X pins σ H { s with heap := h', toks := t' } := I.un (Un.kept k) (I.hok.kept k)
theorem Inv.laid {a : Addr} {o : HO} {t' : Nat} (I : Inv X pins σ H s) (k : ∀ b u, s.heap.get? b = some u → h'.get? b = some u) (hp : s.heap.objs.size ≤ a) (new : ObjOk X.prog X.w (upd H a o) h' a o) :
    Inv X pins σ (upd H a o) { s with heap := h', toks := t' } := I.un (Un.laid k hp (I.hok.fresh hp)) (I.hok.laid k hp new)
theorem Inv.write {x e : Addr} {o : HO} {t' : Nat} (I : Inv X pins σ H s) (mu : Mut (H x)) (he : e = x ∨ H e = some (.own x)) (k : ∀ b u, b ≠ e → s.heap.get? b = some u → h'.get? b = some u) (heo : ∃ u, h'.get? e = some u)
    (new : ObjOk X.prog X.w (upd H x o) h' x o) : Inv X pins σ (upd H x o) { s with heap := h', toks := t' } := I.un (Un.write mu he k heo) (I.hok.write mu he k heo new)
theorem Inv.pins_of {pins' : List (Addr × Obj)} (I : Inv X pins σ H s) (h : ∀ p ∈ pins', s.heap.get? p.1 = some p.2 ∧ H p.1 = none ∧ p.1 ≠ X.env.locals ∧ p.1 ∉ X.fs ∧ ∀ v, p.2.data ≠ .cell v) : Inv X pins' σ H s :=
  ⟨I.ok, I.os, I.bare, I.base, I.loc, I.cell, I.free, I.freeC, fun p hp => (List.mem_append.mp hp).elim (fun z => I.pin p (List.mem_append_left _ z)) (h p), I.hok, I.len⟩
theorem nodup_ix {N : List Str} (hN : N.Nodup) {i j : Nat} {x : Str} (a : N[i]? = some x) (b : N[j]? = some x) : i = j := by
  obtain ⟨h1, e1⟩ := List.getElem?_eq_some_iff.mp a
  obtain ⟨h2, e2⟩ := List.getElem?_eq_some_iff.mp b
  exact (List.getElem_inj hN).mp (e1.trans e2.symm)
theorem store_ok2 {M : Model} {A : Around} {E : Value → Shared → Prop} {i : Nat} {x : Str} {v : V} {u : Value} {Q : Unit → Shared → Prop} (I : Inv X pins σ H s) (hN : X.N.Nodup) (hi : X.N[i]? = some x) (hx : Loc X.env.scope x) (r : RelV v u)
    (h : ∀ s', Inv X pins (σ.set i (some v)) H s' → (∃ a, Heap.SameBut a s.heap s'.heap ∧ (a = X.env.locals ∨ X.env.cells.lookup x = some a)) → Q () s') (hf : X.fn x = true ∨ X.env.scope.names.lookup x = some .local := by first | exact .inl rfl | exact .inr rfl | assumption) : wpAny M A (storeName X.env x u) Q E s := by
  obtain ⟨m, hn, hl⟩ := id I.loc
  have hcls : (X.env.scope.kind == .class || (X.env.scope.kind == .module && X.env.locals != X.env.globals)) = false := by rw [I.ok.kind]; rfl
  have hiσ : i < σ.length := by rw [I.len]; exact (List.getElem?_eq_some_iff.mp hi).1
  have cne := I.cne
  have tracked : ∀ {a : Addr} {h' : Heap}, (∃ o, s.heap.get? a = some o ∧ H a = none) → Heap.SameBut a s.heap h' → HOk X.prog X.w H h' := fun {a h'} ha hs b ob e => by
    obtain ⟨_, _, hfree⟩ := ha
    refine (I.hok b ob e).stay (fun c w' hc q => (hs.2 c ?_).trans q) (fun _ q => q) fun _ _ q => q
    rintro rfl
    rcases hc with rfl | hc
    · rw [hfree] at e; cases e
    · rw [hfree] at hc; cases hc
  rcases hx with hk | hk
  · refine wpAny_storeName_local hk hn (fun h' hn' hs => ?_) hcls
    obtain ⟨oL, _, _, hoL, _⟩ := id hn
    refine h _ ⟨I.ok, I.os, I.bare, ⟨fun b o e n hb hx => ?_, fun b o e n hb hx => ?_, I.base.free, fun b o e hx => ?_, I.base.tups, I.base.frzs, I.base.tbls⟩, ⟨_, hn', fun j y v' e1 e2 e3 => ?_⟩, fun y c e => ?_, I.free, I.freeC, fun p hp => ?_, tracked ⟨oL, hoL, I.free⟩ hs, by simpa using I.len⟩ ⟨_, hs, .inl rfl⟩
    · exact (hs.2 b (Nat.ne_of_lt (Nat.lt_of_lt_of_le (Heap.lt_size e) I.ok.above))).trans (I.base.keep b o e n hb hx)
    · obtain ⟨sl, e1⟩ := I.base.slot b o e n hb hx
      exact ⟨sl, (hs.2 b (Nat.ne_of_lt (Nat.lt_of_lt_of_le (Heap.lt_size e) I.ok.above))).trans e1⟩
    · obtain ⟨o', e1⟩ := I.base.there b o e hx
      exact ⟨o', (hs.2 b (Nat.ne_of_lt (Nat.lt_of_lt_of_le (Heap.lt_size e) I.ok.above))).trans e1⟩
    · by_cases hj : j = i
      · subst hj
        rw [hi] at e1; cases e1
        rw [List.getElem?_set_self hiσ] at e2
        cases e2
        exact ⟨u, r, .inl ⟨hk, by simp⟩⟩
      · rw [List.getElem?_set_ne (Ne.symm hj)] at e2
        obtain ⟨u', r', q⟩ := hl j y v' e1 e2 e3
        refine ⟨u', r', ?_⟩
        rcases q with ⟨k, e⟩ | ⟨k, c, e, z⟩
        · refine .inl ⟨k, ?_⟩
          have : y ≠ x := fun e => hj (nodup_ix hN e1 (e ▸ hi))
          simp [this, e]
        · exact .inr ⟨k, c, e, z.sameBut hs (cne y c e)⟩
    · obtain ⟨w', z⟩ := I.cell y c e
      exact ⟨w', z.sameBut hs (cne y c e)⟩
    · obtain ⟨e, n, ne, nf, d⟩ := I.pin p hp
      exact ⟨(hs.2 p.1 ne).trans e, n, ne, nf, d⟩
  · have hfn : X.fn x = true := by
      rcases hf with z | z
      · exact z
      · rw [z] at hk; cases hk
    obtain ⟨c, hc⟩ := I.ok.has x (.inl hk)
    obtain ⟨w', z⟩ := I.cell x c hc
    refine wpAny_storeName_cell I.ok.kind hk hc z (fun h' hc' hs => ?_)
    obtain ⟨oc, hoc, hocd⟩ := id z
    refine h { s with heap := h' } ⟨I.ok, I.os, I.bare, ⟨fun b o e n hb hx => ?_, fun b o e n hb hx => ?_, I.base.free, fun b o e hx => ?_, I.base.tups, I.base.frzs, I.base.tbls⟩, ⟨m, hn.sameBut hs (Ne.symm (cne x c hc)), fun j y v' e1 e2 e3 => ?_⟩, fun y c' e => ?_, I.free, I.freeC, fun p hp => ?_, tracked ⟨oc, hoc, I.freeC x c hc⟩ hs, by simpa using I.len⟩ ⟨c, hs, .inr hc⟩
    · exact (hs.2 b (Nat.ne_of_lt (Nat.lt_of_lt_of_le (Heap.lt_size e) (I.ok.cab x c hfn hc)))).trans (I.base.keep b o e n hb hx)
    · obtain ⟨sl, e1⟩ := I.base.slot b o e n hb hx
      exact ⟨sl, (hs.2 b (Nat.ne_of_lt (Nat.lt_of_lt_of_le (Heap.lt_size e) (I.ok.cab x c hfn hc)))).trans e1⟩
    · obtain ⟨o', e1⟩ := I.base.there b o e hx
      exact ⟨o', (hs.2 b (Nat.ne_of_lt (Nat.lt_of_lt_of_le (Heap.lt_size e) (I.ok.cab x c hfn hc)))).trans e1⟩
    · by_cases hj : j = i
      · subst hj
        rw [hi] at e1; cases e1
        rw [List.getElem?_set_self hiσ] at e2
        cases e2
        exact ⟨u, r, .inr ⟨.inl hk, c, hc, hc'⟩⟩
      · rw [List.getElem?_set_ne (Ne.symm hj)] at e2
        obtain ⟨u', r', q⟩ := hl j y v' e1 e2 e3
        refine ⟨u', r', ?_⟩
        rcases q with q | ⟨k, c', e, z'⟩
        · exact .inl q
        · refine .inr ⟨k, c', e, z'.sameBut hs ?_⟩
          rintro rfl
          exact hj (nodup_ix hN e1 (I.ok.inj _ _ _ e hc ▸ hi))
    · by_cases hcc : c' = c
      · subst hcc; exact ⟨_, hc'⟩
      · obtain ⟨w2, z2⟩ := I.cell y c' e
        exact ⟨w2, z2.sameBut hs hcc⟩
    · obtain ⟨e, n, ne, nf, d⟩ := I.pin p hp
      refine ⟨(hs.2 p.1 ?_).trans e, n, ne, nf, d⟩
      intro q
      rw [q, hoc] at e
      have q' : oc = p.2 := Option.some.inj e
      exact d w' (by rw [← q']; exact hocd)
theorem store_ok {M : Model} {A : Around} {E : Value → Shared → Prop} {i : Nat} {x : Str} {v : V} {u : Value} {Q : Unit → Shared → Prop} (I : Inv X pins σ H s) (hN : X.N.Nodup) (hi : X.N[i]? = some x) (hx : Loc X.env.scope x) (r : RelV v u)
    (h : ∀ s', Inv X pins (σ.set i (some v)) H s' → Q () s') (hf : X.fn x = true ∨ X.env.scope.names.lookup x = some .local := by first | exact .inl rfl | exact .inr rfl | assumption) : wpAny M A (storeName X.env x u) Q E s :=
  store_ok2 I hN hi hx r (fun s' I' _ => h s' I') hf
theorem Inv.call' {s' : Shared} {ch : List Addr} (I : Inv X pins σ H s) (ho : s'.os = s.os) (u : Un (frs X.stack) ch H H' s.heap s'.heap) (hok : HOk X.prog X.w H' s'.heap) (hg : AllBare s'.gens)
    (hch : ∀ b ∈ ch, (b ∈ X.ex ∨ X.s₀.heap.objs.size ≤ b) ∧ b ≠ X.env.locals ∧ (∀ x c, X.env.cells.lookup x = some c → c ≠ b) ∧ ∀ p ∈ X.pn ++ pins, p.1 ≠ b) : Inv X pins σ H' s' := by
  obtain ⟨h', g', d', t', o'⟩ := s'
  have e : o' = s.os := ho
  subst e
  exact I.call (g' := g') (t' := t') (d' := d') u hok hg hch
end
noncomputable abbrev XK := Value → Option Addr → Hp → Prop
noncomputable abbrev St := List (Option V)
noncomputable abbrev VK := V → Hp → Prop
noncomputable abbrev TE := St → Hp → VK → Prop
noncomputable abbrev TT := St → Hp → (Bool → Hp → Prop) → Prop
noncomputable abbrev TA := St → Hp → (List V → Hp → Prop) → Prop
structure Ends where
  nx : St → Hp → Prop
  rt : VK
  bk : St → Hp → Prop := fun _ _ => False
  ct : St → Hp → Prop := fun _ _ => False
noncomputable abbrev TS := Ends → St → Hp → Prop
noncomputable def EP (X : Cx) (pins : List (Addr × Obj)) (σ : St) (Q : VK) (u : Value) (s' : Shared) : Prop := ∃ v H', Inv X pins σ H' s' ∧ RelV v u ∧ Q v H'
noncomputable def TP (X : Cx) (pins : List (Addr × Obj)) (σ : St) (Q : Bool → Hp → Prop) (b : Bool) (s' : Shared) : Prop := ∃ H', Inv X pins σ H' s' ∧ Q b H'
noncomputable def AP (X : Cx) (pins : List (Addr × Obj)) (σ : St) (Q : List V → Hp → Prop) (us : List Value) (s' : Shared) : Prop := ∃ vs H', Inv X pins σ H' s' ∧ Vals vs us ∧ Q vs H'
noncomputable def SP (X : Cx) (pins : List (Addr × Obj)) (D : Ends) (f : Flow) (s' : Shared) : Prop :=
  match f with
  | .next => ∃ σ' H', Inv X pins σ' H' s' ∧ D.nx σ' H'
  | .brk => ∃ σ' H', Inv X pins σ' H' s' ∧ D.bk σ' H'
  | .cont => ∃ σ' H', Inv X pins σ' H' s' ∧ D.ct σ' H'
  | .ret u => ∃ v σ' H', Inv X pins σ' H' s' ∧ RelV v u ∧ D.rt v H'
noncomputable def PE (X : Cx) (e : Expr) (t : TE) : Prop :=
  ∀ (pins : List (Addr × Obj)) (s : Shared) (σ : St) (H : Hp) (Q : VK), Inv X pins σ H s → t σ H Q → wpAny (model X.prog X.w) X.A (eval e X.env) (EP X pins σ Q) X.xe s
noncomputable def PT (X : Cx) (e : Expr) (t : TT) : Prop :=
  ∀ (pins : List (Addr × Obj)) (s : Shared) (σ : St) (H : Hp) (Q : Bool → Hp → Prop), Inv X pins σ H s → t σ H Q → wpAny (model X.prog X.w) X.A (isTrue e X.env (eval e X.env)) (TP X pins σ Q) X.xe s
noncomputable def PW (X : Cx) (e : Expr) (t : TT) : Prop :=
  ∀ (whole : Sem Value) (pins : List (Addr × Obj)) (s : Shared) (σ : St) (H : Hp) (Q : Bool → Hp → Prop), Inv X pins σ H s → t σ H Q → wpAny (model X.prog X.w) X.A (isTrue e X.env whole) (TP X pins σ Q) X.xe s
theorem PW.pt {X : Cx} {e : Expr} {t : TT} (h : PW X e t) : PT X e t := h _
noncomputable def PA (X : Cx) (es : List Expr) (t : TA) : Prop :=
  ∀ (pos : Pos) (pins : List (Addr × Obj)) (s : Shared) (σ : St) (H : Hp) (Q : List V → Hp → Prop), Inv X pins σ H s → t σ H Q → wpAny (model X.prog X.w) X.A (spliced (backTo pos (starEach es X.env))) (AP X pins σ Q) X.xe s
noncomputable def PS (X : Cx) (st : Stmt) (t : TS) : Prop :=
  ∀ (pins : List (Addr × Obj)) (s : Shared) (σ : St) (H : Hp) (D : Ends), Inv X pins σ H s → t D σ H → wpAny (model X.prog X.w) X.A (exec st X.env) (SP X pins D) X.xe s
noncomputable def PSs (X : Cx) (st : List Stmt) (t : TS) : Prop :=
  ∀ (pins : List (Addr × Obj)) (s : Shared) (σ : St) (H : Hp) (D : Ends), Inv X pins σ H s → t D σ H → wpAny (model X.prog X.w) X.A (execs st X.env) (SP X pins D) X.xe s
theorem thn {α : Type} {t : Sem α} {Q Q' : α → Shared → Prop} {M : Model} {A : Around} {E : Value → Shared → Prop} {s : Shared} (h : wpAny M A t Q E s) (hQ : ∀ a s, Q a s → Q' a s) : wpAny M A t Q' E s := wpAny_mono h hQ fun _ _ x => x
end L2
namespace L2
open PySem PySem.Spec PyProof.Rows
section
variable {X : Cx}
noncomputable def tVar (i : Nat) : TE := fun σ H Q => ∃ v, σ[i]? = some (some v) ∧ Q v H
noncomputable def tC (v : V) : TE := fun _ H Q => Q v H
theorem pe_var {i : Nat} {x : Str} {pos : Pos} (hN : X.N[i]? = some x) (hv : Vis X.env.scope x) (hd : (x == ("__debug__" : Str)) = false := by decide) (hcd : (x == ("__classdict__" : Str)) = false := by decide) : PE X (.Name x pos) (tVar i) := by
  intro pins s σ H Q I h
  obtain ⟨v, e, h⟩ := h
  obtain ⟨m, hn, hl⟩ := I.loc
  obtain ⟨u, r, l⟩ := hl i x v hN e hv
  have fin : EP X pins σ Q u s := ⟨v, H, I, r, h⟩
  rcases l with ⟨hk, hm⟩ | ⟨hk, c, hc, hcell⟩
  · exact wpAny_Name (wpAny_loadName_local I.ok.kind hk hn hm fin) hd
  · rcases hk with hk | hk
    · exact wpAny_Name (wpAny_loadName_cell I.ok.kind hk hc hcell fin) hd
    · exact wpAny_Name (wpAny_loadName_free I.ok.kind hk hc hcell fin hcd) hd
theorem pe_int {i j pos} : PE X (.Constant (.int i) j pos) (tC (.int i)) := fun _ _ _ H _ I h => wpAny_Constant_int ⟨.int i, H, I.tok _, ⟨_, rfl⟩, h⟩
theorem pe_bl {b j pos} : PE X (.Constant (.bool b) j pos) (tC (.bl b)) := fun _ _ _ H _ I h => Constant_bool ⟨.bl b, H, I, rfl, h⟩
theorem pe_non {j pos} : PE X (.Constant .none j pos) (tC .non) := fun _ _ _ H _ I h => Constant_none ⟨.non, H, I, rfl, h⟩
theorem pe_str {x j pos} : PE X (.Constant (.str x) j pos) (tC (.str x)) := fun _ _ _ H _ I h => Calls.Constant_str ⟨.str x, H, I.tok _, ⟨_, rfl⟩, h⟩
noncomputable def Gl (X : Cx) (x : Str) : Prop := X.env.kindOf x = some .globalImplicit
theorem ld_glob {E : Value → Shared → Prop} {pins : List (Addr × Obj)} {s : Shared} {σ : St} {H : Hp} {x : Str} {u : Value} {pos : Pos} {Q : Value → Shared → Prop} (I : Inv X pins σ H s) (hg : Gl X x) (hm : X.mg x = some u) (h : Q u s)
    (hd : (x == ("__debug__" : Str)) = false := by decide) : wpAny (model X.prog X.w) X.A (eval (.Name x pos) X.env) Q E s :=
  Calls.Name_function_global I.ok.kind hg (Calls.loadGlobal_global (by rw [I.ok.glob]; exact I.mod.glob.keeps I.bk) hm h) hd
theorem ld_blt {E : Value → Shared → Prop} {pins : List (Addr × Obj)} {s : Shared} {σ : St} {H : Hp} {x : Str} {u : Value} {pos : Pos} {Q : Value → Shared → Prop} (I : Inv X pins σ H s) (hg : Gl X x) (hm : X.mg x = none) (hv : bootBuiltins x = some u) (h : Q u s)
    (hn : x ≠ "__name__" := by decide) (hd : (x == ("__debug__" : Str)) = false := by decide) : wpAny (model X.prog X.w) X.A (eval (.Name x pos) X.env) Q E s := by
  obtain ⟨mb, h1, h2⟩ := I.mod.blt
  exact Calls.Name_function_global I.ok.kind hg (Calls.loadGlobal_builtin (by rw [I.ok.glob]; exact I.mod.glob.keeps I.bk) hm (by rw [I.ok.blt]; exact h1.keeps I.bk) ((h2 x hn).trans hv) h) hd
theorem pe_glob {x : Str} {v : V} {u : Value} {pos : Pos} (hg : Gl X x) (hm : X.mg x = some u) (r : RelV v u) (hd : (x == ("__debug__" : Str)) = false := by decide) : PE X (.Name x pos) (tC v) :=
  fun _ _ _ H _ I h => ld_glob I hg hm ⟨v, H, I, r, h⟩ hd
theorem pe_bltn {x : Str} {v : V} {u : Value} {pos : Pos} (hg : Gl X x) (hm : X.mg x = none) (hv : bootBuiltins x = some u) (r : RelV v u) (hn : x ≠ "__name__" := by decide) (hd : (x == ("__debug__" : Str)) = false := by decide) : PE X (.Name x pos) (tC v) :=
  fun _ _ _ H _ I h => ld_blt I hg hm hv ⟨v, H, I, r, h⟩ hn hd
variable {a b : Expr} {ta tb : TE} {pos : Pos}
noncomputable def tB (t : TE) : TT := fun σ H Q => t σ H fun x H1 => ∃ c, x = .bl c ∧ Q c H1
theorem pt_val {e : Expr} {t : TE} (h : PE X e t) (he : ∀ whole, isTrue e X.env whole = (do let v ← whole; standAt e.pos; holding [v] (truthy v)) := by intro _; rfl) : PT X e (tB t) := by
  intro pins s σ H Q I hw
  refine isTrue_plain (thn (h pins s σ H _ I hw) fun v s1 ⟨x, H1, I1, r1, q1⟩ => ?_) (he _)
  obtain ⟨d, rfl, q⟩ := q1
  cases r1
  exact wpAny_truthy_bool ⟨H1, I1, q⟩
variable {tA tB' : TT} {rest : List Expr}
noncomputable def tAnd (t u : TT) : TT := fun σ H Q => t σ H fun c H1 => if c = true then u σ H1 Q else Q false H1
noncomputable def tOr (t u : TT) : TT := fun σ H Q => t σ H fun c H1 => if c = true then Q true H1 else u σ H1 Q
noncomputable def tNot (t : TT) : TT := fun σ H Q => t σ H fun c H1 => Q (!c) H1
theorem pw_and1 (ha : PT X a tA) : PW X (.BoolOp .And [a] pos) tA := by
  intro wh pins s σ H Q I h
  refine isTrue_and (thn (ha pins s σ H Q I h) fun c s1 e => ?_)
  cases c with
  | true => exact isTrue_and_nil e
  | false => exact e
theorem pw_or1 (ha : PT X a tA) : PW X (.BoolOp .Or [a] pos) tA := by
  intro wh pins s σ H Q I h
  refine isTrue_or (thn (ha pins s σ H Q I h) fun c s1 e => ?_)
  cases c with
  | false => exact isTrue_or_nil e
  | true => exact e
theorem pw_and (ha : PT X a tA) (hb : PW X (.BoolOp .And (b :: rest) pos) tB') : PW X (.BoolOp .And (a :: b :: rest) pos) (tAnd tA tB') := by
  intro wh pins s σ H Q I h
  refine isTrue_and (thn (ha pins s σ H _ I h) fun c s1 ⟨H1, I1, q1⟩ => ?_)
  cases c with
  | true => exact hb wh pins s1 σ H1 Q I1 q1
  | false => exact ⟨H1, I1, q1⟩
theorem pw_or (ha : PT X a tA) (hb : PW X (.BoolOp .Or (b :: rest) pos) tB') : PW X (.BoolOp .Or (a :: b :: rest) pos) (tOr tA tB') := by
  intro wh pins s σ H Q I h
  refine isTrue_or (thn (ha pins s σ H _ I h) fun c s1 ⟨H1, I1, q1⟩ => ?_)
  cases c with
  | true => exact ⟨H1, I1, q1⟩
  | false => exact hb wh pins s1 σ H1 Q I1 q1
theorem pt_not (ha : PT X a tA) : PT X (.UnaryOp .Not a pos) (tNot tA) := by
  intro pins s σ H Q I h
  exact isTrue_not (ha pins s σ H (fun c H1 => Q (!c) H1) I h)
noncomputable def tAndV (ta tb : TE) : TE := fun σ H Q => ta σ H fun x H1 => ∃ c, x = .bl c ∧ if c = true then tb σ H1 Q else Q (.bl false) H1
theorem pe_one {op} {t : TE} (h : PE X a t) : PE X (.BoolOp op [a] pos) t := fun pins s σ H Q I hw => BoolOp_one (h pins s σ H Q I hw)
theorem pe_and (ha : PE X a ta) (hb : PE X (.BoolOp .And (b :: rest) pos) tb) : PE X (.BoolOp .And (a :: b :: rest) pos) (tAndV ta tb) := by
  intro pins s σ H Q I h
  refine BoolOp_and (thn (ha pins s σ H _ I h) fun v s1 ⟨x, H1, I1, r1, q1⟩ => ?_)
  obtain ⟨c, rfl, q1⟩ := q1
  cases r1
  refine wpAny_truthy_bool ?_
  cases c with
  | true => exact hb pins s1 σ H1 Q I1 q1
  | false => exact ⟨.bl false, H1, I1, rfl, q1⟩
end
end L2
namespace L2
open PySem PySem.Spec PyProof.Rows
noncomputable def SqL (K : PySem.W.Frag) (H : Hp) (a : Addr) (xs : List V) : Prop :=
  Rd H a (.lst xs) ∨
    ∃ (o : Obj) (its : Array Value) (n : Nat), K.lookup a = some o ∧ o.cls = .type "list" ∧ o.dict = none ∧ o.data = .seq its n ∧ its.size ≤ sizeLine ∧ Vals xs its.toList
noncomputable def SqT (K : PySem.W.Frag) (H : Hp) (a : Addr) (xs : List V) : Prop :=
  Rd H a (.tup xs) ∨
    ∃ (o : Obj) (its : Array Value) (n : Nat), K.lookup a = some o ∧ o.cls = .type "tuple" ∧ o.data = .seq its n ∧ its.size ≤ sizeLine ∧ Vals xs its.toList
noncomputable def absV : Value → Option V
  | .none => some .non
  | .bool b => some (.bl b)
  | .int i _ => some (.int i)
  | .str x _ => some (.str x)
  | .bytes b _ => some (.byt b)
  | .float b _ => some (.flt b)
  | .ref a => some (.ref a)
  | .type n => some (.ty n)
  | _ => none
theorem RelV.abs {x : V} {u : Value} (r : RelV x u) : absV u = some x := by
  cases x with
  | non => cases r; rfl
  | bl _ => cases r; rfl
  | int _ => obtain ⟨t, rfl⟩ := r; rfl
  | str _ => obtain ⟨t, rfl⟩ := r; rfl
  | byt _ => obtain ⟨t, rfl⟩ := r; rfl
  | flt _ => obtain ⟨t, rfl⟩ := r; rfl
  | ref _ => cases r; rfl
  | ty _ => cases r; rfl
theorem RelV.inj {x y : V} {u : Value} (r : RelV x u) (q : RelV y u) : x = y := Option.some.inj (r.abs.symm.trans q.abs)
theorem Vals.inj : ∀ {xs ys : List V} {us : List Value}, Vals xs us → Vals ys us → xs = ys
  | _, _, _, .nil, .nil => rfl
  | _, _, _, .cons r t, .cons r' t' => by rw [r.inj r', Vals.inj t t']
section
variable {X : Cx} {pins : List (Addr × Obj)} {σ : St} {H : Hp} {s : Shared} {a : Addr} {xs ys : List V}
theorem SqL.of {K : PySem.W.Frag} (h : H a = some (.lst xs)) : SqL K H a xs := .inl (.inl h)
theorem SqT.of {K : PySem.W.Frag} (h : H a = some (.tup xs)) : SqT K H a xs := .inl (.inl h)
theorem Inv.list (I : Inv X pins σ H s) (h : SqL X.K H a xs) : ∃ its : List Value, Vals xs its ∧ PlainL s.heap a its.toArray ∧ xs.length ≤ sizeLine := by
  rcases h with h | ⟨o, its, n, hk, hc, hd, hs, hz, r⟩
  · obtain ⟨z, its, n, r, e⟩ := h.ok I.hok
    exact ⟨its, r, ⟨_, n, e, rfl, rfl, rfl⟩, z⟩
  · refine ⟨its.toList, r, ⟨o, n, I.kIn a o hk, hc, hd, by simpa using hs⟩, ?_⟩
    have e := r.length
    simp only [Array.length_toList] at e
    (clear I hk hc hd hs r; omega)
theorem Inv.tuple (I : Inv X pins σ H s) (h : SqT X.K H a xs) : ∃ its : List Value, Vals xs its ∧ IsTup s.heap a its.toArray ∧ xs.length ≤ sizeLine := by
  rcases h with h | ⟨o, its, n, hk, hc, hs, hz, r⟩
  · obtain ⟨z, its, r, p⟩ := h.ok I.hok
    exact ⟨its, r, p, z⟩
  · refine ⟨its.toList, r, ⟨o, I.kIn a o hk, hc, n, by simpa using hs⟩, ?_⟩
    have e := r.length
    simp only [Array.length_toList] at e
    (clear I hk hc hs r; omega)
theorem Inv.list_inj (I : Inv X pins σ H s) (h : SqL X.K H a xs) (h' : SqL X.K H a ys) : xs = ys := by
  obtain ⟨its, r, ⟨o, n, e, _, _, d⟩, _⟩ := I.list h
  obtain ⟨its', r', ⟨o', n', e', _, _, d'⟩, _⟩ := I.list h'
  rw [e] at e'; cases e'
  rw [d] at d'
  injection d' with d1 _
  have : its = its' := by simpa using congrArg Array.toList d1
  subst this
  exact r.inj r'
theorem Inv.tuple_inj (I : Inv X pins σ H s) (h : SqT X.K H a xs) (h' : SqT X.K H a ys) : xs = ys := by
  obtain ⟨its, r, ⟨o, e, _, n, d⟩, _⟩ := I.tuple h
  obtain ⟨its', r', ⟨o', e', _, n', d'⟩, _⟩ := I.tuple h'
  rw [e] at e'; cases e'
  rw [d] at d'
  injection d' with d1 _
  have : its = its' := by simpa using congrArg Array.toList d1
  subst this
  exact r.inj r'
end
noncomputable abbrev Cx.wish (X : Cx) (E : Value → Shared → Prop) : Cx := { X with xe := E }
noncomputable abbrev Cx.nox (X : Cx) : Cx := X.wish fun _ _ => False
theorem Cx.Ok.wish {X : Cx} (ok : X.Ok) (E : Value → Shared → Prop) : (X.wish E).Ok :=
  ⟨ok.mod, ok.kind, ok.glob, ok.blt, ok.above, ok.inj, ok.has, ok.cab, ok.hd, ok.frames, ok.stk, ok.exf, ok.bs, ok.bsz, ok.noex, ok.exfs, ok.funs, ok.frf⟩
theorem Cx.Ok.unwish {X : Cx} {E : Value → Shared → Prop} (ok : (X.wish E).Ok) : X.Ok :=
  ⟨ok.mod, ok.kind, ok.glob, ok.blt, ok.above, ok.inj, ok.has, ok.cab, ok.hd, ok.frames, ok.stk, ok.exf, ok.bs, ok.bsz, ok.noex, ok.exfs, ok.funs, ok.frf⟩
section
variable {X : Cx} {pins : List (Addr × Obj)} {σ : St} {H : Hp} {s : Shared} {E : Value → Shared → Prop}
theorem Inv.wish (I : Inv X pins σ H s) (E : Value → Shared → Prop) : Inv (X.wish E) pins σ H s := ⟨I.ok.wish E, I.os, I.bare, I.base, I.loc, I.cell, I.free, I.freeC, I.pin, I.hok, I.len⟩
theorem Inv.unwish (I : Inv (X.wish E) pins σ H s) : Inv X pins σ H s := ⟨I.ok.unwish, I.os, I.bare, I.base, I.loc, I.cell, I.free, I.freeC, I.pin, I.hok, I.len⟩
theorem SP.unwish {D : Ends} {f : Flow} {s' : Shared} (h : SP (X.wish E) pins D f s') : SP X pins D f s' := by
  cases f with
  | next => obtain ⟨σ', H', I, q⟩ := h; exact ⟨σ', H', I.unwish, q⟩
  | brk => obtain ⟨σ', H', I, q⟩ := h; exact ⟨σ', H', I.unwish, q⟩
  | cont => obtain ⟨σ', H', I, q⟩ := h; exact ⟨σ', H', I.unwish, q⟩
  | ret u => obtain ⟨v, σ', H', I, r, q⟩ := h; exact ⟨v, σ', H', I.unwish, r, q⟩
theorem PSs.nox {st : List Stmt} {t : TS} (h : PSs X.nox st t) : PSs X st t := fun pins s σ H D I hw =>
  wpAny_mono (h pins s σ H D (I.wish _) hw) (fun _ _ q => q.unwish) fun _ _ z => False.elim z
end
section
variable {X : Cx} {st : Stmt} {rest : List Stmt} {t u : TS} {e : Expr} {te : TE} {pos : Pos}
noncomputable def tNext : TS := fun D σ H => D.nx σ H
noncomputable def tSeq (t u : TS) : TS := fun D σ H => t { D with nx := u D } σ H
theorem pss_nil : PSs X [] tNext := fun _ _ σ H _ I h => wpAny_execs_nil ⟨σ, H, I, h⟩
theorem pss_cons (h1 : PS X st t) (h2 : PSs X rest u) : PSs X (st :: rest) (tSeq t u) := by
  intro pins s σ H D I h
  refine wpAny_execs_cons (thn (h1 pins s σ H { D with nx := u D } I h) fun f s1 q => ?_)
  cases f with
  | next =>
    obtain ⟨σ', H', I', q⟩ := q
    exact h2 pins s1 σ' H' D I' q
  | ret v => exact q
  | brk => exact q
  | cont => exact q
theorem pss_one (h1 : PS X st t) : PSs X [st] t := by
  intro pins s σ H D I h
  refine wpAny_execs_cons (thn (h1 pins s σ H D I h) fun f s1 q => ?_)
  cases f with
  | next => exact wpAny_execs_nil q
  | ret v => exact q
  | brk => exact q
  | cont => exact q
theorem Inv.quiet {pins : List (Addr × Obj)} {σ : St} {H : Hp} {s : Shared} (I : Inv X pins σ H s) : interactive X.env = false := by simp [interactive, I.ok.kind]
noncomputable def tDrop (te : TE) : TS := fun D σ H => te σ H fun _ H1 => D.nx σ H1
theorem ps_expr (he : PE X e te) (hs : swapsWith e none pos.line X.env = pure false := by rfl) : PS X (.Expr e pos) (tDrop te) := by
  intro pins s σ H D I h
  exact wpAny_Expr_any (thn (he pins s σ H _ I h) fun v s1 ⟨x, H1, I1, r1, q1⟩ => ⟨σ, H1, I1, q1⟩) I.quiet hs
noncomputable def tRet (te : TE) : TS := fun D σ H => te σ H D.rt
theorem ps_ret (he : PE X e te) : PS X (.Return (some e) pos) (tRet te) := by
  intro pins s σ H D I h
  exact wpAny_Return_some (thn (he pins s σ H _ I h) fun v s1 ⟨x, H1, I1, r1, q1⟩ => ⟨x, σ, H1, I1, r1, q1⟩)
noncomputable def tIfS (c : TT) (t u : TS) : TS := fun D σ H => c σ H fun b H1 => if b = true then t D σ H1 else u D σ H1
theorem ps_if {c : Expr} {a b : List Stmt} {tc : TT} (hc : PT X c tc) (ha : PSs X a t) (hb : PSs X b u) : PS X (.If c a b pos) (tIfS tc t u) := by
  intro pins s σ H D I h
  refine wpAny_If (thn (hc pins s σ H _ I h) fun d s1 ⟨H1, I1, q1⟩ => ?_)
  cases d with
  | true => exact ha pins s1 σ H1 D I1 q1
  | false => exact hb pins s1 σ H1 D I1 q1
end
noncomputable abbrev TG := V → St → Hp → (St → Hp → Prop) → Prop
noncomputable abbrev TGs := List V → St → Hp → (St → Hp → Prop) → Prop
noncomputable def PG (X : Cx) (target : Expr) (t : TG) : Prop :=
  ∀ (pins : List (Addr × Obj)) (s : Shared) (σ : St) (H : Hp) (v : V) (u : Value) (Q : St → Hp → Prop), Inv X pins σ H s → RelV v u → t v σ H Q →
    wpAny (model X.prog X.w) X.A (assign target X.env u) (fun _ s' => ∃ σ' H', Inv X pins σ' H' s' ∧ Q σ' H') X.xe s
noncomputable def PGs (X : Cx) (ts : List Expr) (t : TGs) : Prop :=
  ∀ (pins : List (Addr × Obj)) (s : Shared) (σ : St) (H : Hp) (vs : List V) (us : List Value) (Q : St → Hp → Prop), Inv X pins σ H s → Vals vs us → t vs σ H Q →
    wpAny (model X.prog X.w) X.A (assignInOrder ((assignEach ts X.env).map (·.2)) us) (fun _ s' => ∃ σ' H', Inv X pins σ' H' s' ∧ Q σ' H') X.xe s
section
variable {X : Cx} {pos : Pos}
noncomputable def gName (i : Nat) : TG := fun v σ H Q => Q (σ.set i (some v)) H
theorem pg_name {i : Nat} {x : Str} (hN : X.N.Nodup) (hi : X.N[i]? = some x) (hx : Loc X.env.scope x) (hf : X.fn x = true ∨ X.env.scope.names.lookup x = some .local := by first | exact .inl rfl | exact .inr rfl | assumption) : PG X (.Name x pos) (gName i) := by
  intro pins s σ H v u Q I r h
  exact wpAny_assign_Name (store_ok I hN hi hx r (fun s' I' => ⟨_, H, I', h⟩) hf)
noncomputable def gCons (t : TG) (u : TGs) : TGs := fun vs σ H Q => ∃ v r, vs = v :: r ∧ t v σ H fun σ' H' => u r σ' H' Q
theorem pgs_cons {e : Expr} {es : List Expr} {t : TG} {u : TGs} (h1 : PG X e t) (h2 : PGs X es u)
    (hs : (assignEach (e :: es) X.env).map (·.2) = assign e X.env :: (assignEach es X.env).map (·.2) := by rfl) : PGs X (e :: es) (gCons t u) := by
  intro pins s σ H vs us Q I r h
  obtain ⟨v, vr, e1, h⟩ := h
  subst e1
  cases r with
  | cons r rr =>
    rw [hs]
    refine assignInOrder_cons (thn (h1 pins s σ H _ _ _ I r h) fun _ s1 ⟨σ1, H1, I1, q1⟩ => ?_)
    exact h2 pins s1 σ1 H1 _ _ Q I1 rr q1
noncomputable def gTup (K : PySem.W.Frag) (n : Nat) (t : TGs) : TG := fun v σ H Q => ∃ a xs, v = .ref a ∧ SqT K H a xs ∧ xs.length = n ∧ t xs σ H Q
theorem pg_tup {es : List Expr} {k : Nat} {t : TGs} {n : Nat} (hc : X.calm = true) (h : PGs X es t)
    (hn : (assignEach es X.env).length = n := by rfl) (hst : (assignEach es X.env).findIdx? (·.1) = none := by rfl) : PG X (.Tuple es k pos) (gTup X.K n t) := by
  intro pins s σ H v u Q I r hw
  obtain ⟨a, xs, e1, hq, hl, hw⟩ := hw
  subst e1
  cases r
  obtain ⟨its, rv, ht, hz⟩ := I.tuple hq
  refine assign_Tuple_tuple (I.ok.hd hc) ht (by simp [hn, ← hl, rv.length]) hst fun h' hx => ?_
  have I1 : Inv X pins σ H { s with heap := h' } := I.kept (t' := s.toks) fun b o e => hx b o (Nat.ne_of_lt (Heap.lt_size e)) e
  exact h pins _ σ H xs _ Q I1 (by simpa using rv) hw
noncomputable def tAsg (te : TE) (g : TG) : TS := fun D σ H => te σ H fun x H1 => g x σ H1 D.nx
theorem ps_set {i : Nat} {x : Str} {e : Expr} {te : TE} {pos' : Pos} (hN : X.N.Nodup) (hi : X.N[i]? = some x) (hx : Loc X.env.scope x) (he : PE X e te) (hs : swapsWith e (some (.Name x pos')) pos.line X.env = pure false := by rfl) (hf : X.fn x = true ∨ X.env.scope.names.lookup x = some .local := by first | exact .inl rfl | exact .inr rfl | assumption) :
    PS X (.Assign [.Name x pos'] e pos) (tAsg te (gName i)) := by
  intro pins s σ H D I h
  refine wpAny_Assign_Name (thn (he pins s σ H _ I h) fun v s1 ⟨y, H1, I1, r1, q1⟩ => ?_) hs
  exact store_ok I1 hN hi hx r1 (fun s2 I2 => ⟨_, H1, I2, q1⟩) hf
end
section
variable {X : Cx} {pos : Pos}
end
structure It where
  go : Nat → Hp → Prop
  yld : Nat → Hp → V → Hp → Prop
  stop : Nat → Hp → Prop
noncomputable def FpOk (X : Cx) (pins : List (Addr × Obj)) (H : Hp) (b : Addr) : Prop :=
  H b = none ∧ b ≠ X.env.locals ∧ b ∉ X.fs ∧ (b ∈ X.ex ∨ X.s₀.heap.objs.size ≤ b) ∧ (∀ x c, X.env.cells.lookup x = some c → c ≠ b) ∧ ∀ p ∈ X.pn ++ pins, p.1 ≠ b
theorem Inv.fpOk {X : Cx} {pins : List (Addr × Obj)} {σ : St} {H H' : Hp} {s : Shared} {b : Addr} (I : Inv X pins σ H s) (hb : s.heap.objs.size ≤ b) (hn : H' b = none) : FpOk X pins H' b := by
  refine ⟨hn, Nat.ne_of_gt (Nat.lt_of_lt_of_le I.lt hb), I.nofs hb, .inr (Nat.le_trans I.sz hb), fun x c e z => ?_, fun p hp z => ?_⟩
  · obtain ⟨v, q⟩ := I.cell x c e
    exact absurd (Nat.lt_of_lt_of_le q.lt (by rw [z]; exact hb)) (Nat.lt_irrefl _)
  · exact absurd (Nat.lt_of_lt_of_le (Heap.lt_size (I.pin p hp).1) (by rw [z]; exact hb)) (Nat.lt_irrefl _)
structure Turn (P : Program) (w : World) (K : PySem.W.Frag) (tg : Expr) (J : It) (fp : List Addr) (it : Addr) (tn : Nat → Heap → Prop) : Prop where
  mem : it ∈ fp
  obj : ∀ i h, tn i h → ∀ b ∈ fp, ∃ o, h.get? b = some o ∧ ∀ v, o.data ≠ .cell v
  keep : ∀ i h h', tn i h → (∀ b ∈ fp, ∀ o, h.get? b = some o → h'.get? b = some o) → tn i h'
  item : ∀ (X : Cx), X.prog = P → X.w = w → X.K = K → X.calm = true → ∀ (i : Nat) (pins : List (Addr × Obj)) (s : Shared) (σ : St) (H : Hp) (E : Value → Shared → Prop), Inv X pins σ H s → (∀ b ∈ fp, FpOk X pins H b) → tn i s.heap → J.go i H →
    wpAny (model P w) X.A (pyNext (.ref it)) (fun r s1 => ∃ u, r = some u ∧
      wpAny (model P w) X.A (letOwnedTupleGo tg (.ref it) u) (fun _ s2 => ∃ x H', Inv X pins σ H' s2 ∧ RelV x u ∧ J.yld i H x H' ∧ tn (i + 1) s2.heap ∧ ∀ b ∈ fp, H' b = none) E s1) E s
  done : ∀ (X : Cx), X.prog = P → X.w = w → X.K = K → X.calm = true → ∀ (i : Nat) (pins : List (Addr × Obj)) (s : Shared) (σ : St) (H : Hp) (E : Value → Shared → Prop), Inv X pins σ H s → (∀ b ∈ fp, FpOk X pins H b) → tn i s.heap → J.stop i H →
    wpAny (model P w) X.A (pyNext (.ref it)) (fun r s1 => r = none ∧ Inv X pins σ H s1) E s
  self : ∀ (A : Around) (i : Nat) (s : Shared) (Q : Value → Shared → Prop) (E : Value → Shared → Prop), tn i s.heap → Q (.ref it) s → wpAny (model P w) A (pyIter (.ref it)) Q E s
noncomputable abbrev TI := St → Hp → (It → Hp → Prop) → Prop
noncomputable def PIE (X : Cx) (pins : List (Addr × Obj)) (σ : St) (tg : Expr) (R : It → Hp → Prop) (itv : Value) (s2 : Shared) : Prop :=
  ∃ (it : Addr) (fp : List Addr) (tn : Nat → Heap → Prop) (J : It) (H' : Hp), itv = .ref it ∧ Inv X pins σ H' s2 ∧ Turn X.prog X.w X.K tg J fp it tn ∧ tn 0 s2.heap ∧ (∀ b ∈ fp, FpOk X pins H' b) ∧ R J H'
noncomputable def PI (X : Cx) (tg iter : Expr) (wi : TI) : Prop :=
  ∀ (pins : List (Addr × Obj)) (s : Shared) (σ : St) (H : Hp) (R : It → Hp → Prop), Inv X pins σ H s → wi σ H R →
    wpAny (model X.prog X.w) X.A (eval iter X.env) (fun v s1 => wpAny (model X.prog X.w) X.A (pyIter v) (PIE X pins σ tg R) X.xe s1) X.xe s
theorem go_of {M : Model} {A : Around} {E : Value → Shared → Prop} {s : Shared} {tg : Expr} {it : Addr} {u : Value} {o : Obj} {n : String} {vs : Array Value} {Q : Unit → Shared → Prop} (ho : s.heap.get? it = some o) (hc : o.cls = .type n) (hd : o.data = .fields vs)
    (hn : ["enumerate", "zip", "dict_itemiterator", "dict_reverseitemiterator", "odict_iterator", "itertools.zip_longest", "itertools.pairwise"].contains n = false) (hQ : Q () s) : wpAny M A (letOwnedTupleGo tg (.ref it) u) Q E s := by
  unfold letOwnedTupleGo
  cases tg <;> first
    | exact wpAny_pure hQ
    | (cases u <;> first
        | exact wpAny_pure hQ
        | (refine wpAny_bind (wpAny_load ho ?_)
           rw [hc, hd]
           show wpAny M A (if (["enumerate", "zip", "dict_itemiterator", "dict_reverseitemiterator", "odict_iterator", "itertools.zip_longest", "itertools.pairwise"].contains n && vs[0]? == some (rawInt _)) = true then _ else _) Q E s
           rw [if_neg (by intro h; rw [hn, Bool.false_and] at h; cases h)]
           exact wpAny_pure hQ))
noncomputable def Itl (K : PySem.W.Frag) (a : Addr) : It :=
  ⟨fun i H => ∃ xs x, SqL K H a xs ∧ xs[i]? = some x, fun i H x H' => H' = H ∧ ∀ xs, SqL K H a xs → xs[i]? = some x, fun i H => ∃ xs, SqL K H a xs ∧ xs.length ≤ i⟩
noncomputable def Itt (K : PySem.W.Frag) (a : Addr) : It :=
  ⟨fun i H => ∃ xs x, SqT K H a xs ∧ xs[i]? = some x, fun i H x H' => H' = H ∧ ∀ xs, SqT K H a xs → xs[i]? = some x, fun i H => ∃ xs, SqT K H a xs ∧ xs.length ≤ i⟩
noncomputable def Itr (lo : Int) (n : Nat) : It := ⟨fun i _ => i < n, fun i H x H' => H' = H ∧ x = .int (lo + i), fun i _ => n ≤ i⟩
theorem turn_list {P : Program} {w : World} {K : PySem.W.Frag} {tg : Expr} (a it : Addr) : Turn P w K tg (Itl K a) [it] it (fun i h => h.IsListIter it a i) where
  mem := by simp
  obj := fun i h st b hb => by
    have e : b = it := by simpa using hb
    subst e
    obtain ⟨o, e, c, d⟩ := st
    exact ⟨o, e, fun v z => by rw [d] at z; cases z⟩
  keep := fun i h h' st k => st.at fun o e => k it (by simp) o e
  item := by
    intro X hP hw hK hc i pins s σ H E I hf st hg
    subst hP hw hK
    obtain ⟨xs, x, hq, hx⟩ := hg
    obtain ⟨its, rv, p, hz⟩ := I.list hq
    obtain ⟨u, hu, ru⟩ := rv.get hx
    obtain ⟨f0, f1, f2, f3, f4, f5⟩ := hf it (by simp)
    refine wpAny_pyNext_list_item st p.isList (x := u) (by simpa using hu) fun h' st' sb => ?_
    have I1 : Inv X pins σ H { s with heap := h' } := I.turned (t' := s.toks) (fun b o hb e => (sb.2 b hb).trans e) f0 f1 f3 f4 f5
    obtain ⟨o, e, c, d⟩ := id st'
    exact ⟨u, rfl, go_of (s := { s with heap := h' }) e c d (by decide) ⟨x, H, I1, ru, ⟨rfl, fun ys hy => by rw [I.list_inj hy hq]; exact hx⟩, st', fun b hb => (hf b hb).1⟩⟩
  done := by
    intro X hP hw hK hc i pins s σ H E I hf st hg
    subst hP hw hK
    obtain ⟨xs, hq, hx⟩ := hg
    obtain ⟨its, rv, p, hz⟩ := I.list hq
    obtain ⟨f0, f1, f2, f3, f4, f5⟩ := hf it (by simp)
    have hl := rv.length
    exact wpAny_pyNext_list_end (I.ok.hd hc) st p.isList (by simp; (clear hc I hf st hq rv p hz f0 f1 f2 f3 f4 f5; omega)) fun h' eb => ⟨rfl, I.turned (t' := s.toks) (fun b o hb e => eb b o hb e) f0 f1 f3 f4 f5⟩
  self := fun _ _ _ _ _ st h => wpAny_pyIter_listiter st h
theorem turn_tuple {P : Program} {w : World} {K : PySem.W.Frag} {tg : Expr} (a it : Addr) : Turn P w K tg (Itt K a) [it] it (fun i h => h.IsTupleIter it a i) where
  mem := by simp
  obj := fun i h st b hb => by
    have e : b = it := by simpa using hb
    subst e
    obtain ⟨o, e, c, d⟩ := st
    exact ⟨o, e, fun v z => by rw [d] at z; cases z⟩
  keep := fun i h h' st k => st.at fun o e => k it (by simp) o e
  item := by
    intro X hP hw hK hc i pins s σ H E I hf st hg
    subst hP hw hK
    obtain ⟨xs, x, hq, hx⟩ := hg
    obtain ⟨its, rv, p, hz⟩ := I.tuple hq
    obtain ⟨u, hu, ru⟩ := rv.get hx
    obtain ⟨f0, f1, f2, f3, f4, f5⟩ := hf it (by simp)
    refine wpAny_pyNext_tuple_item st (show s.heap.IsTuple a its.toArray from p) (x := u) (by simpa using hu) fun h' st' sb => ?_
    have I1 : Inv X pins σ H { s with heap := h' } := I.turned (t' := s.toks) (fun b o hb e => (sb.2 b hb).trans e) f0 f1 f3 f4 f5
    obtain ⟨o, e, c, d⟩ := id st'
    exact ⟨u, rfl, go_of (s := { s with heap := h' }) e c d (by decide) ⟨x, H, I1, ru, ⟨rfl, fun ys hy => by rw [I.tuple_inj hy hq]; exact hx⟩, st', fun b hb => (hf b hb).1⟩⟩
  done := by
    intro X hP hw hK hc i pins s σ H E I hf st hg
    subst hP hw hK
    obtain ⟨xs, hq, hx⟩ := hg
    obtain ⟨its, rv, p, hz⟩ := I.tuple hq
    obtain ⟨f0, f1, f2, f3, f4, f5⟩ := hf it (by simp)
    have hl := rv.length
    exact wpAny_pyNext_tuple_end (I.ok.hd hc) st (show s.heap.IsTuple a its.toArray from p) (by simp; (clear hc I hf st hq rv p hz f0 f1 f2 f3 f4 f5; omega)) fun h' eb => ⟨rfl, I.turned (t' := s.toks) (fun b o hb e => eb b o hb e) f0 f1 f3 f4 f5⟩
  self := fun _ _ _ _ _ st h => wpAny_pyIter_tupleiter st h
theorem turn_range {P : Program} {w : World} {K : PySem.W.Frag} {tg : Expr} (it : Addr) (lo : Int) (n : Nat) : Turn P w K tg (Itr lo n) [it] it (fun i h => IsRangeIter h it (lo + (i : Nat) * 1) ((n : Int) - (i : Nat)) 1) where
  mem := by simp
  obj := fun i h st b hb => by
    have e : b = it := by simpa using hb
    subst e
    exact ⟨_, st, fun v z => by
      have z' : Data.fields _ = Data.cell v := z
      cases z'⟩
  keep := fun i h h' st k => k it (by simp) _ st
  item := by
    intro X hP hw hK hc i pins s σ H E I hf st hg
    subst hP hw hK
    obtain ⟨f0, f1, f2, f3, f4, f5⟩ := hf it (by simp)
    have W := Walks.range (prog := X.prog) (w := X.w) (I.ok.hd hc) it lo 1 n
    refine W.item i s _ _ hg st fun v h' tk hv st' kk => ?_
    obtain ⟨t, rfl⟩ := hv
    have I1 : Inv X pins σ H { s with heap := h', toks := tk } := I.turned (fun b o hb e => kk b o (by simpa using hb) e) f0 f1 f3 f4 f5
    refine ⟨_, rfl, go_of (s := { s with heap := h', toks := tk }) (n := "range_iterator") st' rfl rfl (by decide) ⟨.int (lo + i), H, I1, ⟨t, ?_⟩, ⟨rfl, rfl⟩, st', fun b hb => (hf b hb).1⟩⟩
    rw [Int.mul_one]
  done := by
    intro X hP hw hK hc i pins s σ H E I hf st hg
    subst hP hw hK
    obtain ⟨f0, f1, f2, f3, f4, f5⟩ := hf it (by simp)
    exact wpAny_pyNext_range_end (I.ok.hd hc) st (by have : n ≤ i := hg; (clear hc I hf st hg f0 f1 f2 f3 f4 f5; omega)) fun h' eb => ⟨rfl, I.turned (t' := s.toks) (fun b o hb e => eb b o hb e) f0 f1 f3 f4 f5⟩
  self := fun _ _ _ _ _ st h => wpAny_pyIter_rangeiter st h
end L2
namespace L2
open PySem PySem.Spec PyProof.Rows
section
variable {X : Cx} {tg : Expr}
theorem range_it {pins : List (Addr × Obj)} {σ : St} {H : Hp} {s : Shared} {R : It → Hp → Prop} {E : Value → Shared → Prop} {lo hi : Int} {t u v : Tok} {tk : Nat} (I : Inv X pins σ H s) (h1 : -(2 ^ 62) ≤ lo) (h2 : lo < 2 ^ 62) (h3 : -(2 ^ 62) ≤ hi) (h4 : hi < 2 ^ 62)
    (q : R (Itr lo (hi - lo).toNat) H) : wpAny (model X.prog X.w) X.A (pyIter (.ref s.heap.objs.size)) (PIE X pins σ tg R) E { s with heap := s.heap.push { cls := .type "range", data := .fields #[.int lo t, .int hi u, .int 1 v] }, toks := tk } := by
  refine wpAny_pyIter_range (IsRange.new ..) (small_one h1 h2 h3 h4) ?_
  have I1 : Inv X pins σ H { s with heap := s.heap.push { cls := .type "range", data := .fields #[.int lo t, .int hi u, .int 1 v] }, toks := tk } := I.kept fun b o e => Heap.get?_push_of_some _ e
  refine ⟨(s.heap.push { cls := .type "range", data := .fields #[.int lo t, .int hi u, .int 1 v] }).objs.size, [(s.heap.push { cls := .type "range", data := .fields #[.int lo t, .int hi u, .int 1 v] }).objs.size], _, _, H, rfl,
    I1.kept (t' := tk) fun b o e => Heap.get?_push_of_some _ e, turn_range _ lo (hi - lo).toNat, ?_, fun b hb => ?_, q⟩
  · have e1 : lo + ((0 : Nat) : Int) * 1 = lo := by simp
    have e2 : (((hi - lo).toNat : Nat) : Int) - ((0 : Nat) : Int) = Builtin.Range.rangeSize lo hi 1 := by rw [rangeSize_one]; split <;> (clear I h1 h2 h3 h4 q I1 e1; omega)
    show IsRangeIter _ _ (lo + ((0 : Nat) : Int) * 1) ((((hi - lo).toNat : Nat) : Int) - ((0 : Nat) : Int)) 1
    rw [e1, e2]
    exact Heap.get?_push_size _ rfl
  · have e : b = (s.heap.push { cls := .type "range", data := .fields #[.int lo t, .int hi u, .int 1 v] }).objs.size := by simpa using hb
    subst e
    exact I1.fpOk (Nat.le_refl _) (I1.hok.fresh (Nat.le_refl _))
noncomputable def iRng1 (ta : TA) : TI := fun σ H R => ta σ H fun vs H1 => ∃ j : Int, vs = [.int j] ∧ -(2 ^ 62) ≤ j ∧ j < 2 ^ 62 ∧ R (Itr 0 j.toNat) H1
theorem pi_range1 {a : Expr} {ta : TA} {p pos : Pos} (hg : Gl X "range") (hm : X.mg "range" = none) (ha : PA X [a] ta) (hs : starEach [a] X.env = [(false, eval a X.env)] := by rfl) : PI X tg (.Call (.Name "range" p) [a] [] pos) (iRng1 ta) := by
  intro pins s σ H R I h
  refine Call_ (ld_blt I hg hm boot_range (PyProof.Rows.callWith_type1 (thn (ha pos pins s σ H _ I h) fun us s1 ⟨vs, H1, I1, r1, q1⟩ => ?_) hs rfl))
  obtain ⟨j, e, q1, q2, q⟩ := q1
  subst e
  cases r1 with
  | cons r rr =>
    cases rr
    obtain ⟨t, rfl⟩ := r
    exact call_range_1 (range_it I1 (by (clear hg hm ha hs I h I1 q1 q2 q; omega)) (by (clear hg hm ha hs I h I1 q1 q2 q; omega)) q1 q2 (by simpa using q))
noncomputable def tFor (wi : TI) (g : TG) (tb : TS) : TS := fun D σ H => wi σ H fun J H1 => ∃ W : Nat → Nat → St → Hp → Prop, (∃ m, W 0 m σ H1) ∧ ∀ i m σ H, W i m σ H →
  (J.stop i H ∧ D.nx σ H) ∨ (J.go i H ∧ ∃ N : St → Hp → Prop, (∀ σ' H', N σ' H' → ∃ m', m' < m ∧ W (i + 1) m' σ' H') ∧ ∀ x H', J.yld i H x H' → g x σ H' fun σ2 H2 => tb { D with nx := N, ct := N, bk := D.nx } σ2 H2)
noncomputable def pinsAt (fp : List Addr) (h : Heap) : List (Addr × Obj) := fp.filterMap fun b => (h.get? b).map fun o => (b, o)
theorem mem_pinsAt {fp : List Addr} {h : Heap} {b : Addr} {o : Obj} (hb : b ∈ fp) (e : h.get? b = some o) : (b, o) ∈ pinsAt fp h := List.mem_filterMap.mpr ⟨b, hb, by rw [e]; rfl⟩
theorem of_pinsAt {fp : List Addr} {h : Heap} {p : Addr × Obj} (hp : p ∈ pinsAt fp h) : p.1 ∈ fp ∧ h.get? p.1 = some p.2 := by
  obtain ⟨b, hb, e⟩ := List.mem_filterMap.mp hp
  cases q : h.get? b with
  | none => rw [q] at e; cases e
  | some o =>
    rw [q] at e
    have e' : (b, o) = p := Option.some.inj e
    subst e'
    exact ⟨hb, q⟩
theorem Inv.pinned {pins : List (Addr × Obj)} {σ : St} {H : Hp} {s : Shared} {fp : List Addr} (I : Inv X pins σ H s) (hf : ∀ b ∈ fp, FpOk X pins H b) (ho : ∀ b ∈ fp, ∃ o, s.heap.get? b = some o ∧ ∀ v, o.data ≠ .cell v) : Inv X (pins ++ pinsAt fp s.heap) σ H s :=
  I.pins_of fun p hp => (List.mem_append.mp hp).elim (fun z => I.pin p (List.mem_append_right _ z)) fun z => by
    obtain ⟨hb, e⟩ := of_pinsAt z
    obtain ⟨f0, f1, f2, _⟩ := hf p.1 hb
    obtain ⟨o, e', d⟩ := ho p.1 hb
    rw [e] at e'; cases e'
    exact ⟨e, f0, f1, f2, d⟩
theorem Inv.unpinned {pins pl : List (Addr × Obj)} {σ : St} {H : Hp} {s : Shared} (I : Inv X (pins ++ pl) σ H s) : Inv X pins σ H s := I.pins_of fun p hp => I.pin p (List.mem_append_right _ (List.mem_append_left _ hp))
theorem ps_for {iter : Expr} {body : List Stmt} {wi : TI} {g : TG} {tb : TS} {pos : Pos} (hp : PassesOwn (model X.prog X.w) X.A X.env X.xe) (hc : X.calm = true) (hi : PI X tg iter wi) (hg : PG X tg g) (hb : PSs X body tb)
    (hs : ∀ x, foldedSetIterable iter X.env x = pure x := by intro _; rfl) : PS X (.For tg iter body [] pos) (tFor wi g tb) := by
  intro pins s σ H D I h
  refine wpAny_For (thn (hi pins s σ H _ I h) fun v s1 h1 => thn h1 fun itv s2 h2 => ?_) hs
  obtain ⟨it, fp, tn, J, H2, e, I2, T, st2, f2, W, ⟨m0, w0⟩, turn⟩ := h2
  subst e
  -- what stays true of the iterator's objects through the loop
  have stat : ∀ {H' : Hp}, (∀ b ∈ fp, H' b = none) → ∀ b ∈ fp, FpOk X pins H' b := fun hn b hb => ⟨hn b hb, (f2 b hb).2⟩
  refine codeAny_forLoop_any (fun n s' => ∃ i σ' H', Inv X pins σ' H' s' ∧ tn i s'.heap ∧ (∀ b ∈ fp, H' b = none) ∧ W i n σ' H') ?_ m0 ⟨0, σ, H2, I2, st2, fun b hb => (f2 b hb).1, w0⟩
  rintro n s3 ⟨i, σ3, H3, I3, st3, fr3, w3⟩
  rcases turn i n σ3 H3 w3 with ⟨stop, qn⟩ | ⟨go, N, hN, step⟩
  · refine wpAny_passesOwn hp (thn (T.done X rfl rfl rfl hc i pins s3 σ3 H3 X.xe I3 (stat fr3) st3 stop) fun r s4 ⟨hr, I4⟩ => ?_)
    subst hr
    exact wpAny_execs_nil ⟨σ3, H3, I4, qn⟩
  · refine wpAny_passesOwn hp (thn (T.item X rfl rfl rfl hc i pins s3 σ3 H3 X.xe I3 (stat fr3) st3 go) fun r s4 ⟨u, hr, h4⟩ => ?_)
    subst hr
    refine wpAny_passesOwn hp (thn h4 fun _ s5 ⟨x, H5, I5, r5, y5, st5, fr5⟩ => ?_)
    have I5' := I5.pinned (stat fr5) (T.obj _ _ st5)
    refine wpAny_passesOwn hp (thn (hg _ s5 σ3 H5 x u _ I5' r5 (step x H5 y5)) fun _ s6 ⟨σ6, H6, I6, q6⟩ => ?_)
    refine wpAny_passesOwn hp (thn (hb _ s6 σ6 H6 _ I6 q6) fun f s7 q7 => ?_)
    have again : ∀ {σ7 : St} {H7 : Hp}, Inv X (pins ++ pinsAt fp s5.heap) σ7 H7 s7 → N σ7 H7 → ∃ m, m < n ∧ ∃ i σ' H', Inv X pins σ' H' s7 ∧ tn i s7.heap ∧ (∀ b ∈ fp, H' b = none) ∧ W i m σ' H' := fun {σ7 H7} I7 n7 => by
      obtain ⟨m', hm, w7⟩ := hN σ7 H7 n7
      refine ⟨m', hm, i + 1, σ7, H7, I7.unpinned, T.keep _ _ _ st5 fun b hb o e => (I7.pin (b, o) (List.mem_append_right _ (List.mem_append_right _ (mem_pinsAt hb e)))).1, fun b hb => ?_, w7⟩
      obtain ⟨o, e, d⟩ := T.obj _ _ st5 b hb
      exact (I7.pin (b, o) (List.mem_append_right _ (List.mem_append_right _ (mem_pinsAt hb e)))).2.1
    cases f with
    | next => obtain ⟨σ7, H7, I7, n7⟩ := q7; exact again I7 n7
    | cont => obtain ⟨σ7, H7, I7, n7⟩ := q7; exact again I7 n7
    | brk => obtain ⟨σ7, H7, I7, q7⟩ := q7; exact ⟨σ7, H7, I7.unpinned, q7⟩
    | ret v => obtain ⟨x7, σ7, H7, I7, r7, q7⟩ := q7; exact ⟨x7, σ7, H7, I7.unpinned, r7, q7⟩
end
end L2
namespace L2
open PySem PySem.Spec PyProof.Rows
noncomputable abbrev R2 := V → V → Hp → VK → Prop
noncomputable def OpR (X : Cx) (f : Value → Value → Sem Value) (r : R2) : Prop :=
  ∀ (pins : List (Addr × Obj)) (s : Shared) (σ : St) (H : Hp) (x y : V) (v u : Value) (Q : VK), Inv X pins σ H s → RelV x v → RelV y u → r x y H Q →
    wpAny (model X.prog X.w) X.A (f v u) (EP X pins σ Q) X.xe s
noncomputable def UnR (X : Cx) (f : Value → Sem Value) (r : V → Hp → VK → Prop) : Prop :=
  ∀ (pins : List (Addr × Obj)) (s : Shared) (σ : St) (H : Hp) (x : V) (v : Value) (Q : VK), Inv X pins σ H s → RelV x v → r x H Q →
    wpAny (model X.prog X.w) X.A (f v) (EP X pins σ Q) X.xe s
noncomputable def CallR (X : Cx) (f : Value) (r : List V → Hp → VK → Prop) : Prop :=
  ∀ (pins : List (Addr × Obj)) (s : Shared) (σ : St) (H : Hp) (xs : List V) (us : List Value) (Q : VK), Inv X pins σ H s → Vals xs us → r xs H Q →
    wpAny (model X.prog X.w) X.A (call f us) (EP X pins σ Q) X.xe s
noncomputable def tOp (r : R2) (ta tb : TE) : TE := fun σ H Q => ta σ H fun x H1 => tb σ H1 fun y H2 => r x y H2 Q
noncomputable def tUn (r : V → Hp → VK → Prop) (ta : TE) : TE := fun σ H Q => ta σ H fun x H1 => r x H1 Q
noncomputable def rI (C : Int → Int → Prop) (g : Int → Int → V) : R2 := fun x y H Q => ∃ i j, x = .int i ∧ y = .int j ∧ C i j ∧ Q (g i j) H
noncomputable def rI0 (g : Int → Int → V) : R2 := fun x y H Q => ∃ i j, x = .int i ∧ y = .int j ∧ Q (g i j) H
noncomputable def rU (g : Int → V) : V → Hp → VK → Prop := fun x H Q => ∃ i, x = .int i ∧ Q (g i) H
section
variable {X : Cx} {a b c : Expr} {ta tb tc : TE} {pos : Pos}
theorem binT (ha : PE X a ta) (hb : PE X b tb) {pins : List (Addr × Obj)} {s : Shared} {σ : St} {H : Hp} {R : V → V → Hp → Prop} (I : Inv X pins σ H s)
    (h : ta σ H fun x H1 => tb σ H1 fun y H2 => R x y H2) {Q : Value → Shared → Prop} {f : Value → Value → Sem Value}
    (hf : ∀ v u s2 x y H2, Inv X pins σ H2 s2 → RelV x v → RelV y u → R x y H2 → wpAny (model X.prog X.w) X.A (f v u) Q X.xe s2) :
    wpAny (model X.prog X.w) X.A (eval a X.env) (fun v s₁ => wpAny (model X.prog X.w) X.A (eval b X.env) (fun u s₂ => wpAny (model X.prog X.w) X.A (f v u) Q X.xe s₂) X.xe s₁) X.xe s := by
  refine thn (ha pins s σ H _ I h) fun v s1 ⟨x, H1, I1, r1, q1⟩ => ?_
  refine thn (hb pins s1 σ H1 _ I1 q1) fun u s2 ⟨y, H2, I2, r2, q2⟩ => ?_
  exact hf v u s2 x y H2 I2 r1 r2 q2
theorem pe_op {op : Operator} {r : R2} (ho : OpR X (binaryOp op) r) (ha : PE X a ta) (hb : PE X b tb) : PE X (.BinOp a op b pos) (tOp r ta tb) := by
  intro pins s σ H Q I h
  exact wpAny_BinOp (binT ha hb I h fun v u s2 x y H2 I2 rx ry q => ho pins s2 σ H2 x y v u Q I2 rx ry q)
theorem pe_un {op : UnaryOp} {r : V → Hp → VK → Prop} (ho : UnR X (unaryOp op) r) (ha : PE X a ta) : PE X (.UnaryOp op a pos) (tUn r ta) := by
  intro pins s σ H Q I h
  exact UnaryOp_ (thn (ha pins s σ H _ I h) fun v s1 ⟨x, H1, I1, r1, q1⟩ => ho pins s1 σ H1 x v Q I1 r1 q1)
theorem opI {f : Value → Value → Sem Value} {C : Int → Int → Prop} {g : Int → Int → Int}
    (rule : ∀ (i j : Int) (t u : Tok) (s : Shared) (Q : Value → Shared → Prop) (E : Value → Shared → Prop), C i j → Q (.int (g i j) s.toks) { s with toks := s.toks + 1 } → wpAny (model X.prog X.w) X.A (f (.int i t) (.int j u)) Q E s) :
    OpR X f (rI C fun i j => .int (g i j)) := by
  intro pins s σ H x y v u Q I rx ry h
  obtain ⟨i, j, rfl, rfl, hc, q⟩ := h
  obtain ⟨t, rfl⟩ := rx
  obtain ⟨t', rfl⟩ := ry
  exact rule i j t t' s _ _ hc ⟨.int (g i j), H, I.tok _, ⟨_, rfl⟩, q⟩
theorem opI0 {f : Value → Value → Sem Value} {g : Int → Int → Int}
    (rule : ∀ (i j : Int) (t u : Tok) (s : Shared) (Q : Value → Shared → Prop) (E : Value → Shared → Prop), Q (.int (g i j) s.toks) { s with toks := s.toks + 1 } → wpAny (model X.prog X.w) X.A (f (.int i t) (.int j u)) Q E s) :
    OpR X f (rI0 fun i j => .int (g i j)) := by
  intro pins s σ H x y v u Q I rx ry h
  obtain ⟨i, j, rfl, rfl, q⟩ := h
  obtain ⟨t, rfl⟩ := rx
  obtain ⟨t', rfl⟩ := ry
  exact rule i j t t' s _ _ ⟨.int (g i j), H, I.tok _, ⟨_, rfl⟩, q⟩
theorem opB0 {f : Value → Value → Sem Value} {g : Int → Int → Bool}
    (rule : ∀ (i j : Int) (t u : Tok) (s : Shared) (Q : Value → Shared → Prop) (E : Value → Shared → Prop), Q (.bool (g i j)) s → wpAny (model X.prog X.w) X.A (f (.int i t) (.int j u)) Q E s) :
    OpR X f (rI0 fun i j => .bl (g i j)) := by
  intro pins s σ H x y v u Q I rx ry h
  obtain ⟨i, j, rfl, rfl, q⟩ := h
  obtain ⟨t, rfl⟩ := rx
  obtain ⟨t', rfl⟩ := ry
  exact rule i j t t' s _ _ ⟨.bl (g i j), H, I, rfl, q⟩
noncomputable def CDiv (i j : Int) : Prop := 0 < j ∧ j < 1073741824
noncomputable def CPow (i j : Int) : Prop := 0 ≤ j ∧ j ≤ 1000000 ∧ i.natAbs < 2 ^ 64
noncomputable def CMul (i j : Int) : Prop := (-(2 ^ 64) < i ∧ i < 2 ^ 64) ∨ (-(2 ^ 64) < j ∧ j < 2 ^ 64)
theorem CMul.ok {i j : Int} (h : CMul i j) : IntMulOk i j := by
  rcases h with ⟨h1, h2⟩ | ⟨h1, h2⟩
  · exact .of_left (intBits_le_64 h1 h2)
  · exact .of_right (intBits_le_64 h1 h2)
theorem op_add : OpR X (binaryOp .Add) (rI0 fun i j => .int (i + j)) := opI0 fun _ _ _ _ _ _ _ q => add_int q
theorem op_sub : OpR X (binaryOp .Sub) (rI0 fun i j => .int (i - j)) := opI0 fun _ _ _ _ _ _ _ q => sub_int q
theorem op_mod : OpR X (binaryOp .Mod) (rI (fun _ j => 0 < j) fun i j => .int (i % j)) := opI fun i j _ _ _ _ _ hc q => by
  have h1 : (0 : Int) < j := hc
  exact mod_int' (by (clear q h1; omega)) (by rw [Int.fmod_eq_emod_of_nonneg i (by (clear q h1; omega))]; exact q)
theorem unI {f : Value → Sem Value} {g : Int → Int}
    (rule : ∀ (i : Int) (t : Tok) (s : Shared) (Q : Value → Shared → Prop) (E : Value → Shared → Prop), Q (.int (g i) s.toks) { s with toks := s.toks + 1 } → wpAny (model X.prog X.w) X.A (f (.int i t)) Q E s) :
    UnR X f (rU fun i => .int (g i)) := by
  intro pins s σ H x v Q I rx h
  obtain ⟨i, rfl, q⟩ := h
  obtain ⟨t, rfl⟩ := rx
  exact rule i t s _ _ ⟨.int (g i), H, I.tok _, ⟨_, rfl⟩, q⟩
theorem un_neg : UnR X (unaryOp .USub) (rU fun i => .int (-i)) := unI fun _ _ _ _ _ q => neg_int q
end
section
variable {X : Cx} {a b c : Expr} {ta tb tc : TE} {pos : Pos}
theorem op_lt : OpR X (compareOp .Lt) (rI0 fun i j => .bl (decide (i < j))) := opB0 fun _ _ _ _ _ _ _ q => lt_int q
theorem op_le : OpR X (compareOp .LtE) (rI0 fun i j => .bl (decide (i ≤ j))) := opB0 fun _ _ _ _ _ _ _ q => le_int q
theorem op_gt : OpR X (compareOp .Gt) (rI0 fun i j => .bl (decide (j < i))) := opB0 fun _ _ _ _ _ _ _ q => gt_int q
theorem nomark (b : Expr) {op : CmpOp} (h : op ≠ .In := by decide) (h2 : op ≠ .NotIn := by decide) : behindInMarks op b = false := by
  have e1 : (op == CmpOp.In) = false := by cases op <;> first | rfl | exact absurd rfl h
  have e2 : (op == CmpOp.NotIn) = false := by cases op <;> first | rfl | exact absurd rfl h2
  cases b <;> simp [behindInMarks, e1, e2]
theorem pe_cmpR {op : CmpOp} {r : R2} (ho : OpR X (compareOp op) r) (ha : PE X a ta) (hb : PE X b tb) (hm : behindInMarks op b = false) : PE X (.Compare a [op] [b] pos) (tOp r ta tb) := by
  intro pins s σ H Q I h
  exact wpAny_Compare1 (binT ha hb I h fun v u s2 x y H2 I2 rx ry q => ho pins s2 σ H2 x y v u Q I2 rx ry q) hm
noncomputable def tTest (t : TE) : TT := fun σ H Q => t σ H fun x H' => ∃ k, x = .bl k ∧ Q k H'
theorem pt_cmpR {op : CmpOp} {r : R2} (ho : OpR X (compareOp op) r) (ha : PE X a ta) (hb : PE X b tb) (hm : behindInMarks op b = false) : PT X (.Compare a [op] [b] pos) (tTest (tOp r ta tb)) := by
  intro pins s σ H Q I h
  refine wpAny_isTrue_Compare1 (thn (ha pins s σ H _ I h) fun v s1 ⟨x, H1, I1, r1, q1⟩ => thn (hb pins s1 σ H1 _ I1 q1) fun u s2 ⟨y, H2, I2, r2, q2⟩ =>
    thn (ho pins s2 σ H2 x y v u _ I2 r1 r2 q2) fun c s3 ⟨z, H3, I3, r3, k, e, q3⟩ => ?_) hm
  subst e
  cases r3
  exact wpAny_truthy_bool ⟨H3, I3, q3⟩
theorem line63 : (sizeLine : Nat) < 2 ^ 63 := by rw [sizeLine_eq]; decide
theorem op_add_str : OpR X (binaryOp .Add) (fun x y H Q => ∃ i j, x = .str i ∧ y = .str j ∧ i.length + j.length ≤ sizeLine ∧ Q (.str (i ++ j)) H) := by
  intro pins s σ H x y v u Q I rx ry h
  obtain ⟨i, j, rfl, rfl, hz, q⟩ := h
  obtain ⟨t, rfl⟩ := rx
  obtain ⟨t', rfl⟩ := ry
  exact add_str (fun t' tk => ⟨.str (i ++ j), H, I.tok _, ⟨_, rfl⟩, q⟩) hz
theorem vals1 {x : V} {us : List Value} (r : Vals [x] us) : ∃ u, us = [u] ∧ RelV x u := by
  cases r with
  | cons r1 r2 => cases r2; exact ⟨_, rfl, r1⟩
theorem vals2 {x y : V} {us : List Value} (r : Vals [x, y] us) : ∃ u w', us = [u, w'] ∧ RelV x u ∧ RelV y w' := by
  cases r with
  | cons r1 r2 =>
    cases r2 with
    | cons r3 r4 => cases r4; exact ⟨_, _, rfl, r1, r3⟩
theorem call_max2 (hc : X.calm = true) : CallR X (.builtin "max") (fun xs H Q => ∃ i j, xs = [.int i, .int j] ∧ Q (.int (if j > i then j else i)) H) := by
  intro pins s σ H xs us Q I r h
  obtain ⟨i, j, rfl, q⟩ := h
  obtain ⟨u, w', rfl, ⟨t, rfl⟩, ⟨t', rfl⟩⟩ := vals2 r
  refine max_two_ints (I.ok.hd hc) fun h' tk k => ⟨_, H, I.kept k, ?_, q⟩
  by_cases hj : j > i
  · rw [if_pos hj, if_pos hj]; exact ⟨_, rfl⟩
  · rw [if_neg hj, if_neg hj]; exact ⟨_, rfl⟩
theorem call_int1 : CallR X (.type "int") (fun xs H Q => (∃ i, xs = [.int i] ∧ Q (.int i) H) ∨ ∃ k, xs = [.bl k] ∧ Q (.int (if k then 1 else 0)) H) := by
  intro pins s σ H xs us Q I r h
  rcases h with ⟨i, rfl, q⟩ | ⟨k, rfl, q⟩
  · obtain ⟨u, rfl, t, rfl⟩ := vals1 r
    exact call_int_int ⟨.int i, H, I, ⟨_, rfl⟩, q⟩
  · obtain ⟨u, rfl, r1⟩ := vals1 r
    cases r1
    exact call_int_bool ⟨.int (if k then 1 else 0), H, I.tok _, ⟨_, rfl⟩, q⟩
end
end L2
namespace L2
open PySem PySem.Spec PyProof.Rows
structure ObjM (h : Heap) (x dx C : Addr) (mA : Str → Option Value) : Prop where
  obj : h.get? x = some (PySem.W.instObj C dx)
  ns : h.Ns1 dx mA
  ne : dx ≠ x
theorem lookIn_ns {h : Heap} {dx : Addr} {mA : Str → Option Value} (n : h.Ns1 dx mA) : ∃ od, h.get? dx = some od ∧ ∀ name, PySem.W.lookIn name od = some (mA name) := by
  obtain ⟨o, es, ep, ho, hd, hk, _, hm⟩ := n
  refine ⟨o, ho, fun name => ?_⟩
  have e := hm name
  unfold nsFind findBy at e
  rw [← Array.find?_toList] at e
  unfold PySem.W.lookIn
  rw [hd]
  dsimp only
  split
  · rename_i y q
    rw [q] at e
    exact congrArg some e
  · rename_i q
    rw [q] at e
    have a : es.toList.any (·.refKey) = false := by
      rw [List.any_eq_false]
      intro y hy
      obtain ⟨z, t, hkey⟩ := hk y (Array.mem_toList_iff.mp hy)
      simp [DictEntry.refKey, hkey]
    have a' : ¬ es.toList.any (·.refKey) = true := by rw [a]; exact Bool.false_ne_true
    rw [if_neg a']
    exact congrArg some e
theorem ObjM.look {h : Heap} {x dx C : Addr} {mA : Str → Option Value} (I : ObjM h x dx C mA) : ∃ od, PySem.W.InstAt h x (PySem.W.instObj C dx) C (some od) ∧ ∀ name, PySem.W.lookIn name od = some (mA name) :=
  let ⟨od, ho, hl⟩ := lookIn_ns I.ns
  ⟨od, ⟨I.obj, rfl, rfl, ho⟩, hl⟩
section
variable {prog : Program} {w : World} {A : Around} {E : Value → Shared → Prop} {s : Shared} {K : PySem.W.Frag} {x dx C f : Addr} {mA : Str → Option Value} {name : Str} {v : Value}
end
section
variable {P : Program} {w : World} {H H' : Hp} {h h' : Heap} {a C dx : Addr} {fs fs' : List (Str × V)}
theorem ins_get (hok : HOk P w H h) (e : H a = some (.ins C dx fs)) : ∃ mA, ObjM h a dx C mA ∧ (∀ f, RelO (fs.lookup f) (mA f)) ∧ PySem.Within mA (fs.map (·.1)) ∧ fs.length ≤ 1000 ∧ H dx = some (.own a) := by
  obtain ⟨d, z, ne, ob, mA, n, r, q⟩ := (show ObjOk P w H h a (.ins C dx fs) from hok a _ e)
  exact ⟨mA, ⟨ob, n, ne⟩, r, q, z, d⟩
end
structure Cls (K : PySem.W.Frag) (C : Addr) : Prop where
  pg : PySem.W.plainGet K C Str.empty = true
  hd : PySem.W.hasDictIn K C = true
  po : PySem.W.plainOver K C = true
  sa : PySem.W.findIn K (.ref C) "__setattr__" = some (some (.builtin "object.__setattr__"))
theorem Cls.get {K : PySem.W.Frag} {C : Addr} (c : Cls K C) (f : Str) : PySem.W.plainGet K C f = true := c.pg
structure Con (K : PySem.W.Frag) (C : Addr) (f : Str) (v : V) (u : Value) : Prop where
  at_ : PySem.W.findIn K (.ref C) f = some (some u)
  rel : RelV v u
  get : PySem.W.specialIn K u "__get__" = some none
  cp : PySem.W.copiedNames.contains f = false
structure Meth (K : PySem.W.Frag) (C : Addr) (m : Str) (f : Addr) : Prop where
  at_ : PySem.W.findIn K (.ref C) m = some (some (.ref f))
  fn : PySem.W.isFn K (.ref f) = true
  kp : PySem.W.keepIn K (.ref f) = true
section
variable {X : Cx} {pins : List (Addr × Obj)} {σ : St} {H : Hp} {s : Shared} {a C dx : Addr} {fs : List (Str × V)} {f : Str} {v : V} {A : Around} {E : Value → Shared → Prop}
end
section
variable {X : Cx} {o e value : Expr} {f : Str} {pos pos' tpos : Pos} {ta tv : TE}
end
section
variable {X : Cx} {pins : List (Addr × Obj)} {σ : St} {H : Hp} {s : Shared} {A : Around} {E : Value → Shared → Prop} {Q : Value → Shared → Prop} {c : Value} {b : Bool}
inductive TyOf (K : PySem.W.Frag) (H : Hp) : V → Value → Prop where
  | non : TyOf K H .non (.type "NoneType")
  | bl (x : Bool) : TyOf K H (.bl x) (.type "bool")
  | int (i : Int) : TyOf K H (.int i) (.type "int")
  | str (x : Str) : TyOf K H (.str x) (.type "str")
  | flt (x : UInt64) : TyOf K H (.flt x) (.type "float")
  | lst {a : Addr} {xs : List V} (e : H a = some (.lst xs)) : TyOf K H (.ref a) (.type "list")
  | frz {a : Addr} {o : Obj} {xs : List V} (e : H a = some (.frz o (.lst xs))) : TyOf K H (.ref a) (.type "list")
  | tup {a : Addr} {xs : List V} (e : H a = some (.tup xs)) : TyOf K H (.ref a) (.type "tuple")
  | dK {a : Addr} {kvs : List (Key × V)} (e : H a = some (.dK kvs)) : TyOf K H (.ref a) (.type "dict")
  | dT {a : Addr} {kvs : List (List Key × V)} (e : H a = some (.dT kvs)) : TyOf K H (.ref a) (.type "dict")
  | ins {a C dx : Addr} {fs : List (Str × V)} (e : H a = some (.ins C dx fs)) (cl : Cls K C) (ha : PySem.W.findIn K (.ref C) "__class__" = some (some (.builtin "object.__class__")))
      (hn : PySem.W.specialIn K (.builtin "object.__class__") "__get__" = some (some (.builtin "getset_descriptor.__get__"))) (htk : PySem.W.takesIn K (.builtin "object.__class__") = some true)
      (hm : PySem.W.mroIn K C (.type "object") = some true) : TyOf K H (.ref a) (.ref C)
theorem isinst_ok {x : V} {u t : Value} (I : Inv X pins σ H s) (rx : RelV x u) (ty : TyOf X.K H x t) (e : PySem.W.kitOne X.K t c = some b) (h : ∀ tk, Q (.bool b) { s with toks := tk }) :
    wpAny (model X.prog X.w) A (call (.builtin "isinstance") [u, c]) Q E s := by
  cases ty with
  | non => cases (show u = Value.none from rx); exact PySem.W.kia_one PySem.W.kitx_none I.kIn True.intro e (fun z => nomatch z) h
  | bl y => cases (show u = Value.bool y from rx); exact PySem.W.kia_one PySem.W.kitx_bool I.kIn True.intro e (fun z => nomatch z) h
  | int i => obtain ⟨t, q⟩ := (show ∃ t, u = Value.int i t from rx); cases q; exact PySem.W.kia_one PySem.W.kitx_int I.kIn True.intro e (fun z => nomatch z) h
  | str y => obtain ⟨t, q⟩ := (show ∃ t, u = Value.str y t from rx); cases q; exact PySem.W.kia_one PySem.W.kitx_str I.kIn True.intro e (fun z => nomatch z) h
  | flt y => obtain ⟨t, q⟩ := (show ∃ t, u = Value.float y t from rx); cases q; exact PySem.W.kia_one PySem.W.kitx_float I.kIn True.intro e (fun z => nomatch z) h
  | @lst a xs ea =>
    cases (show u = Value.ref a from rx)
    obtain ⟨_, _, n, _, h1⟩ := (show ObjOk X.prog X.w H s.heap a (.lst xs) from I.hok a _ ea)
    exact PySem.W.kia_one PySem.W.kitx_list I.kIn ⟨_, h1, rfl⟩ e (fun z => nomatch z) h
  | @frz a ob xs ea =>
    cases (show u = Value.ref a from rx)
    obtain ⟨_, _, _, n, _, h1⟩ := (show ObjOk X.prog X.w H s.heap a (.frz ob (.lst xs)) from I.hok a _ ea)
    exact PySem.W.kia_one PySem.W.kitx_list I.kIn ⟨_, h1, rfl⟩ e (fun z => nomatch z) h
  | @tup a xs ea =>
    cases (show u = Value.ref a from rx)
    obtain ⟨_, _, _, p⟩ := (show ObjOk X.prog X.w H s.heap a (.tup xs) from I.hok a _ ea)
    obtain ⟨o, h1, h2, _⟩ := p
    exact PySem.W.kia_one PySem.W.kitx_tuple I.kIn ⟨o, h1, h2⟩ e (fun z => nomatch z) h
  | @dK a kvs ea =>
    cases (show u = Value.ref a from rx)
    obtain ⟨_, _, vs, _, p⟩ := (show ObjOk X.prog X.w H s.heap a (.dK kvs) from I.hok a _ ea)
    obtain ⟨o, es, ep, h1, h2, _⟩ := p
    exact PySem.W.kia_one PySem.W.kitx_dict I.kIn ⟨o, h1, h2.1⟩ e (fun z => nomatch z) h
  | @dT a kvs ea =>
    cases (show u = Value.ref a from rx)
    obtain ⟨_, _, xs, _, o, es, ep, h1, h2, _⟩ := (show ObjOk X.prog X.w H s.heap a (.dT kvs) from I.hok a _ ea)
    exact PySem.W.kia_one PySem.W.kitx_dict I.kIn ⟨o, h1, h2.1⟩ e (fun z => nomatch z) h
  | @ins a C dx fs ea cl ha hn htk hm =>
    cases (show u = Value.ref a from rx)
    obtain ⟨mA, O, _⟩ := ins_get I.hok ea
    obtain ⟨od, J, _⟩ := O.look
    exact PySem.W.kia_one (PySem.W.kitx_own (cl.get _) cl.hd ha hn htk hm) I.kIn J e (fun z => nomatch z) h
end
end L2
namespace L2
open PySem PySem.Spec PyProof.Rows
structure Room (k : Nat) (A : Around) : Prop where
  hd : A.handled = none
  dp : A.depth + 3 * k + 5 < recursionLimit
  un : A.units + 16 * k + 200 < cLine
theorem Room.mono {j k : Nat} {A : Around} (r : Room k A) (h : j ≤ k) : Room j A := ⟨r.hd, by have := r.dp; (clear r; omega), by have := r.un; (clear r; omega)⟩
theorem Room.deeper {k : Nat} {A : Around} (r : Room (k + 1) A) (env : Env) : Room k (A.deeper env) :=
  ⟨r.hd, by have := r.dp; show A.depth + 1 + 3 * k + 5 < _; (clear r; omega), by have := r.un; show A.units + 3 + 16 * k + 200 < _; (clear r; omega)⟩
theorem Room.depth {k : Nat} {A : Around} (r : Room k A) : A.depth < recursionLimit := by have := r.dp; (clear r; omega)
noncomputable def tNil : TA := fun _ H Q => Q [] H
noncomputable def tCons (ta : TE) (tr : TA) : TA := fun σ H Q => ta σ H fun x H1 => tr σ H1 fun xs H2 => Q (x :: xs) H2
section
variable {X : Cx} {e : Expr} {es : List Expr} {te : TE} {t : TA} {pos : Pos}
theorem pa_nil : PA X [] tNil := fun _ _ _ _ H Q I h => Calls.spliced_nil ⟨[], H, I, .nil, h⟩
theorem pa_cons (ha : PE X e te) (hr : PA X es t) (hs : starEach (e :: es) X.env = (false, eval e X.env) :: starEach es X.env := by rfl) : PA X (e :: es) (tCons te t) := by
  intro pos pins s σ H Q I h
  rw [hs]
  show wpAny _ _ (spliced ((false, eval e X.env) :: backTo pos (starEach es X.env))) _ _ s
  refine Calls.spliced_cons (thn (ha pins s σ H _ I h) fun u s1 ⟨x, H1, I1, r1, q1⟩ => ?_)
  exact thn (hr pos pins s1 σ H1 _ I1 q1) fun us s2 ⟨xs, H2, I2, r2, q2⟩ => ⟨x :: xs, H2, I2, .cons r1 r2, q2⟩
noncomputable def tTup (t : TA) : TE := fun σ H Q => t σ H fun xs H1 => xs.length ≤ sizeLine ∧ ∀ p, H1 p = none → Q (.ref p) (upd H1 p (.tup xs))
noncomputable def tLst (t : TA) : TE := fun σ H Q => t σ H fun xs H1 => xs.length ≤ sizeLine ∧ ∀ p, H1 p = none → Q (.ref p) (upd H1 p (.lst xs))
theorem pe_tup {x1} (h : PA X es t) : PE X (.Tuple es x1 pos) (tTup t) := by
  intro pins s σ H Q I hq
  refine wpAny_Tuple_spliced (thn (h pos pins s σ H _ I hq) fun us s1 ⟨xs, H1, I1, r, z, q⟩ => ⟨by rw [← r.length]; exact z, ?_⟩)
  have hf : H1 s1.heap.objs.size = none := I1.hok.fresh (Nat.le_refl _)
  refine ⟨.ref s1.heap.objs.size, upd H1 s1.heap.objs.size (.tup xs), I1.laid (t' := s1.toks) (fun b u e => Heap.get?_push_of_some _ e) (Nat.le_refl _) ?_, rfl, q _ hf⟩
  exact ⟨z, us, r, ⟨_, Heap.get?_push_size _ rfl, rfl, _, rfl⟩⟩
theorem pe_lst (h : PA X es t) : PE X (.List es pos) (tLst t) := by
  intro pins s σ H Q I hq
  refine wpAny_List_spliced (thn (h pos pins s σ H _ I hq) fun us s1 ⟨xs, H1, I1, r, z, q⟩ => ⟨by rw [← r.length]; exact z, ?_⟩)
  have hf : H1 s1.heap.objs.size = none := I1.hok.fresh (Nat.le_refl _)
  refine ⟨.ref s1.heap.objs.size, upd H1 s1.heap.objs.size (.lst xs), I1.laid (t' := s1.toks) (fun b u e => Heap.get?_push_of_some _ e) (Nat.le_refl _) ?_, rfl, q _ hf⟩
  exact ⟨z, us, 0, r, Heap.get?_push_size _ rfl⟩
end
noncomputable abbrev Sp := List V → Hp → VK → XK → Prop
noncomputable abbrev CXT := List Env → Hp → Shared → XK → Value → Shared → Prop
structure Env0 (P : Program) (w : World) (K : PySem.W.Frag) (mg : Str → Option Value) (base : Heap) (A : Around) (outer : List Env) (s : Shared) (H : Hp) : Prop where
  frames : A.frames = some outer
  mod : Mod K mg base
  bs : ∀ b o, base.get? b = some o → s.heap.get? b = some o ∧ H b = none
  bsz : base.objs.size ≤ s.heap.objs.size
  funs : s.heap.FunFrames base outer
  frf : ∀ b ∈ frs outer, H b = none
  hok : HOk P w H s.heap
  bare : AllBare s.gens
noncomputable def CE (outer : List Env) (P : Program) (w : World) (H : Hp) (s : Shared) (Q : VK) (u : Value) (s' : Shared) : Prop :=
  ∃ v H', s'.os = s.os ∧ AllBare s'.gens ∧ Un (frs outer) [] H H' s.heap s'.heap ∧ HOk P w H' s'.heap ∧ RelV v u ∧ Q v H'
noncomputable def CR (CX : CXT) (outer : List Env) (P : Program) (w : World) (H : Hp) (s : Shared) (Q : VK) (E : XK) (r : Result) (s' : Shared) : Prop :=
  match r with
  | .ok (.ret u) => CE outer P w H s Q u s'
  | .ok _ => False
  | .error e => CX outer H s E e s'
structure FnOk (P : Program) (w : World) (K : PySem.W.Frag) (mg : Str → Option Value) (base : Heap) (CX : CXT) (k : Nat) (f : Addr) (fd : FuncData) (ps : List Str) (sp : Sp) : Prop where
  len : ∀ vs H Q E, sp vs H Q E → vs.length = ps.length
  run : ∀ (A : Around) (outer : List Env) (s : Shared) (H : Hp) (args : Args) (us : List Value) (vs : List V) (Q : VK) (E : XK), Room k A → Env0 P w K mg base A outer s H → BindsTo s fd args (ps.zip us) → Vals vs us → sp vs H Q E →
    codeAny (model P w) A (.call (.ref f) args) (CR CX outer P w H s Q E) s
section
variable {X : Cx} {pins : List (Addr × Obj)} {σ : St} {H : Hp} {s s' : Shared}
theorem Inv.env0 (I : Inv X pins σ H s) : Env0 X.prog X.w X.K X.mg X.base X.A X.stack s H :=
  ⟨I.ok.frames, I.ok.mod, I.bs, Nat.le_trans I.ok.bsz I.sz, I.stack, I.stkFree, I.hok, I.bare⟩
theorem Inv.after {Q : VK} {u : Value} (I : Inv X pins σ H s) (h : CE X.stack X.prog X.w H s Q u s') : EP X pins σ Q u s' := by
  obtain ⟨v, H', os, bare, un, hok, r, q⟩ := h
  obtain ⟨hh, g, d, t, os'⟩ := s'
  obtain rfl : os' = s.os := os
  exact ⟨v, H', I.call (h' := hh) (g' := g) (d' := d) (t' := t) (ch := []) un hok bare (fun b z => absurd z (by simp)), r, q⟩
end
noncomputable def tCall (sp : Sp) (dvs : List V) (E : XK) (t : TA) : TE := fun σ H Q => t σ H fun vs H1 => sp (vs ++ dvs) H1 Q E
noncomputable def Binds (K : PySem.W.Frag) (fd : FuncData) (ps : List Str) (ds : List Value) : Prop :=
  ∀ (s : Shared) (us : List Value), K.In s.heap → (us ++ ds).length = ps.length → BindsTo s fd ⟨us, []⟩ (ps.zip (us ++ ds))
theorem Binds.all {K : PySem.W.Frag} {fd : FuncData} {ps : List Str} (h : ∀ us : List Value, us.length = ps.length → bindArgs fd ⟨us, []⟩ = pure (ps.zip us)) : Binds K fd ps [] := fun s us _ hl => by
  rw [List.append_nil] at hl ⊢
  exact .of_eq (h us hl)
noncomputable def Passes (CX : CXT) (X : Cx) (E : XK) : Prop := ∀ (pins : List (Addr × Obj)) (σ : St) (H : Hp) (s : Shared) (e : Value) (s' : Shared), Inv X pins σ H s → CX X.stack H s E e s' → X.xe e s'
section
variable {X : Cx} {CX : CXT} {k : Nat} {f C : Addr} {fd : FuncData} {ps : List Str} {sp : Sp} {dvs : List V} {ds : List Value} {E : XK} {x m : Str} {p pos apos : Pos} {e o : Expr} {es : List Expr} {ta : TE} {t : TA}
theorem run_fn {pins : List (Addr × Obj)} {σ : St} {H : Hp} {s : Shared} {Q : VK} {us : List Value} {vs : List V} (F : FnOk X.prog X.w X.K X.mg X.base CX k f fd ps sp) (hr : Room k X.A) (hb : Binds X.K fd ps ds) (hd : Vals dvs ds) (hx : Passes CX X E)
    (I : Inv X pins σ H s) (r : Vals vs us) (h : sp (vs ++ dvs) H Q E) : wpAny (model X.prog X.w) X.A (call (.ref f) us) (EP X pins σ Q) X.xe s := by
  have r2 : Vals (vs ++ dvs) (us ++ ds) := r.append hd
  have hl : (us ++ ds).length = ps.length := by rw [← r2.length]; exact F.len _ _ _ _ h
  refine wpAny_call (codeAny_mono (F.run X.A X.stack s H ⟨us, []⟩ (us ++ ds) (vs ++ dvs) Q E hr I.env0 (hb s us I.kIn hl) r2 h) fun r s' hq => ?_)
  cases r with
  | error e => exact hx pins σ H s e s' I hq
  | ok fl =>
    cases fl with
    | ret u => exact I.after hq
    | next => exact False.elim hq
    | brk => exact False.elim hq
    | cont => exact False.elim hq
theorem pe_call (F : FnOk X.prog X.w X.K X.mg X.base CX k f fd ps sp) (hr : Room k X.A) (hg : Gl X x) (hm : X.mg x = some (.ref f)) (hk : PySem.W.keepIn X.K (.ref f) = true) (hb : Binds X.K fd ps ds) (hd : Vals dvs ds) (hx : Passes CX X E)
    (ha : PA X (e :: es) t) (hdb : (x == ("__debug__" : Str)) = false := by decide) (he : starEach (e :: es) X.env = (false, eval e X.env) :: starEach es X.env := by rfl) (hpl : (backTo pos (starEach es X.env)).any (·.1) = false := by rfl) :
    PE X (.Call (.Name x p) (e :: es) [] pos) (tCall sp dvs E t) := by
  intro pins s σ H Q I h
  refine wpAny_Call_Name_kw (ld_glob I hg hm ?_ hdb)
  refine PySem.W.callWith_K (h₀ := X.base) I.ok.mod.kin hk (thn (ha pos pins s σ H _ I h) fun us s1 ⟨vs, H1, I1, r, q⟩ => ⟨I1.kIn, ?_⟩) he hpl
  exact run_fn F hr hb hd hx I1 r q
structure Mk (K : PySem.W.Frag) (C f : Addr) : Prop where
  makes : PySem.W.makesIn K C = true
  init : PySem.W.findIn K (.ref C) "__init__" = some (some (.ref f))
  fn : PySem.W.isFn K (.ref f) = true
  kp : PySem.W.keepIn K (.ref C) = true
end
section
variable {X : Cx} {CX : CXT} {k : Nat} {f C : Addr} {fd : FuncData} {ps ks : List Str} {sp : Sp} {E : XK} {x m : Str} {p pos apos kpos : Pos} {e o : Expr} {es : List Expr} {kws : List Keyword} {te ta : TE} {t tk : TA} {nm : Option Str}
structure KBinds (K : PySem.W.Frag) (fd : FuncData) (ps ks : List Str) (g : List Value → List Value → List Value) (gV : List V → List V → List V) : Prop where
  to : ∀ (s : Shared) (us ws : List Value), K.In s.heap → (g us ws).length = ps.length → BindsTo s fd ⟨us, ks.zip ws⟩ (ps.zip (g us ws))
  rel : ∀ {vs : List V} {us : List Value} {zs : List V} {ws : List Value}, Vals vs us → Vals zs ws → Vals (gV vs zs) (g us ws)
variable {g : List Value → List Value → List Value} {gV : List V → List V → List V}
end
structure FnScope (N P : List Str) (sc : Scope) : Prop where
  kind : sc.kind = .function
  co : sc.isCoroutine = false
  gen : sc.isGenerator = false
  nd : N.Nodup
  pre : N.take P.length = P
  par : ∀ x ∈ P, sc.names.lookup x = some .local ∨ sc.names.lookup x = some .cell
  nofree : ∀ y ∈ sc.names, y.2 ≠ .free
theorem bindL_out {kindOf : Str → Option NameKind} {x : Str} : ∀ {binds : List (Str × Value)} {m : Str → Option Value}, (∀ v, (x, v) ∉ binds) → bindL kindOf binds m x = m x
  | [], _, _ => rfl
  | (n, v) :: r, m, h => by
    unfold bindL
    rw [bindL_out fun w hw => h w (List.mem_cons_of_mem _ hw)]
    split
    · have : x ≠ n := by rintro rfl; exact h v List.mem_cons_self
      simp [this]
    · rfl
theorem bindC_out {kindOf : Str → Option NameKind} {x : Str} : ∀ {binds : List (Str × Value)} {m : Str → Option Value}, (∀ v, (x, v) ∉ binds) → bindC kindOf binds m x = m x
  | [], _, _ => rfl
  | (n, v) :: r, m, h => by
    unfold bindC
    rw [bindC_out fun w hw => h w (List.mem_cons_of_mem _ hw)]
    split
    · rfl
    · have : x ≠ n := by rintro rfl; exact h v List.mem_cons_self
      simp [this]
theorem bindL_get {kindOf : Str → Option NameKind} {x : Str} {v : Value} : ∀ {P : List Str} {vs : List Value} {i : Nat} {m : Str → Option Value}, P.Nodup → P[i]? = some x → vs[i]? = some v → kindOf x = some .local →
    bindL kindOf (P.zip vs) m x = some v
  | [], _, _, _, _, h, _, _ => by simp at h
  | _ :: _, [], _, _, _, _, h, _ => by simp at h
  | p :: P, w :: vs, 0, m, nd, h1, h2, hk => by
    simp at h1 h2; subst h1; subst h2
    show bindL kindOf ((p, w) :: P.zip vs) m p = _
    unfold bindL
    rw [bindL_out fun v hv => (List.nodup_cons.mp nd).1 (List.of_mem_zip hv).1, if_pos hk]
    simp
  | p :: P, w :: vs, i + 1, m, nd, h1, h2, hk => by
    show bindL kindOf ((p, w) :: P.zip vs) m x = _
    unfold bindL
    exact bindL_get (i := i) (List.nodup_cons.mp nd).2 (by simpa using h1) (by simpa using h2) hk
theorem bindC_get {kindOf : Str → Option NameKind} {x : Str} {v : Value} : ∀ {P : List Str} {vs : List Value} {i : Nat} {m : Str → Option Value}, P.Nodup → P[i]? = some x → vs[i]? = some v → kindOf x ≠ some .local →
    bindC kindOf (P.zip vs) m x = some v
  | [], _, _, _, _, h, _, _ => by simp at h
  | _ :: _, [], _, _, _, _, h, _ => by simp at h
  | p :: P, w :: vs, 0, m, nd, h1, h2, hk => by
    simp at h1 h2; subst h1; subst h2
    show bindC kindOf ((p, w) :: P.zip vs) m p = _
    unfold bindC
    rw [bindC_out fun v hv => (List.nodup_cons.mp nd).1 (List.of_mem_zip hv).1, if_neg hk]
    simp
  | p :: P, w :: vs, i + 1, m, nd, h1, h2, hk => by
    show bindC kindOf ((p, w) :: P.zip vs) m x = _
    unfold bindC
    exact bindC_get (i := i) (List.nodup_cons.mp nd).2 (by simpa using h1) (by simpa using h2) hk
noncomputable def start (N : List Str) (vs : List V) : St := vs.map some ++ List.replicate (N.length - vs.length) none
noncomputable def cxOf (CX : CXT) (P : Program) (w : World) (K : PySem.W.Frag) (mg : Str → Option Value) (base : Heap) (N : List Str) (qual : Str) (scope : Scope) (f : Addr) (cd : Value) (A : Around) (outer : List Env) (s : Shared) (H : Hp) (E : XK) : Cx where
  prog := P
  w := w
  K := K
  mg := mg
  base := base
  A := A.deeper (envOfC qual scope s.heap.objs.size f cd)
  N := N
  s₀ := s
  H₀ := H
  env := envOfC qual scope s.heap.objs.size f cd
  outer := outer
  stack := envOfC qual scope s.heap.objs.size f cd :: outer
  ex := []
  calm := true
  fn := fun _ => true
  pn := []
  xe := fun e s' => wpAny (model P w) (A.deeper (envOfC qual scope s.heap.objs.size f cd)) (leaving (envOfC qual scope s.heap.objs.size f cd) e) (fun _ s'' => CX outer H s E e s'') (fun e' s'' => CX outer H s E e' s'') s'
theorem cell_has {sc : Scope} {n : Nat} {x : Str} (h : sc.names.lookup x = some .cell) : ∃ c, (cellsFrom n sc.names []).lookup x = some c := by
  have q := PySem.W.cellsFrom_some sc.names n [] (.inl h)
  exact Option.isSome_iff_exists.mp q
theorem inv_start {CX : CXT} {P : Program} {w : World} {K : PySem.W.Frag} {mg : Str → Option Value} {base : Heap} {N ps : List Str} {qual : Str} {scope : Scope} {f : Addr} {cd : Value} {A : Around} {outer : List Env} {s s1 : Shared} {H : Hp} {E : XK} {us : List Value} {vs : List V}
    (S : FnScope N ps scope) (hd : A.handled = none) (e0 : Env0 P w K mg base A outer s H) (hl : vs.length = ps.length) (r : Vals vs us)
    (x : InCallC s s.heap.objs.size (bindL (envOfC qual scope s.heap.objs.size f cd).kindOf (ps.zip us) fun _ => none) (cellsFrom (s.heap.objs.size + 1) scope.names []) (bindC (envOfC qual scope s.heap.objs.size f cd).kindOf (ps.zip us) fun _ => none) s1) :
    Inv (cxOf CX P w K mg base N qual scope f cd A outer s H E) [] (start N vs) H s1 := by
  have hpl : ps.length ≤ N.length := by have := congrArg List.length S.pre; rw [List.length_take] at this; (clear S hd e0 hl r x; omega)
  obtain ⟨h1, tk, rfl, hk⟩ := x.done
  have noA : ∀ b : Addr, b ∉ (cxOf CX P w K mg base N qual scope f cd A outer s H E).ex := fun b z => absurd (show b ∈ ([] : List Addr) from z) (by simp)
  refine ⟨⟨e0.mod, S.kind, rfl, rfl, Nat.le_refl _, fun y z c h1 h2 => ?_, fun y hy => ?_, fun y c _ h => ?_, fun _ => hd, Around.frames_deeper e0.frames, .inr ⟨rfl, rfl⟩, fun b z => absurd z (noA b), e0.bs, e0.bsz, fun b _ _ => noA b, fun b z => absurd z (noA b), e0.funs, e0.frf⟩,
    rfl, e0.bare, Un.kept hk, ⟨_, x.toInCall.ns, fun i y v h1 h2 h3 => ?_⟩, fun y c h => ⟨_, x.cell y c h⟩, e0.hok.fresh (Nat.le_refl _), fun y c h => ?_, fun p hp => absurd (show p ∈ ([] : List (Addr × Obj)) from hp) (by simp), e0.hok.kept hk, ?_⟩
  · exact name_of_addr x.apart (PySem.mem_of_lookup h1) (PySem.mem_of_lookup h2)
  · have hy : scope.names.lookup y = some .cell ∨ scope.names.lookup y = some .free := hy
    rcases hy with hy | hy
    · exact cell_has hy
    · exact absurd rfl (S.nofree _ (PySem.mem_of_lookup hy))
  · exact Nat.le_of_lt (x.above y c (PySem.mem_of_lookup h))
  · have hi : i < vs.length := by
      unfold start at h2
      by_cases hi : i < vs.length
      · exact hi
      · rw [List.getElem?_append_right (by simpa using hi)] at h2
        rw [List.getElem?_replicate] at h2
        split at h2 <;> cases h2
    have ha : vs[i]? = some v := by
      unfold start at h2
      rw [List.getElem?_append_left (by simpa using hi), List.getElem?_map] at h2
      cases e : vs[i]? with
      | none => rw [e] at h2; cases h2
      | some a => rw [e] at h2; cases h2; rfl
    obtain ⟨u, hu, rv⟩ := r.get ha
    have hp : ps[i]? = some y := by
      rw [← S.pre, List.getElem?_take_of_lt (by (clear S hd e0 r hpl hk x noA h1 h2 h3 ha hu rv; omega))]; exact h1
    have ndP : ps.Nodup := by rw [← S.pre]; exact S.nd.sublist (List.take_sublist _ _)
    refine ⟨u, rv, ?_⟩
    rcases S.par y (List.mem_of_getElem? hp) with k | k
    · exact .inl ⟨k, bindL_get ndP hp hu k⟩
    · obtain ⟨c, e⟩ := cell_has (n := s.heap.objs.size + 1) k
      refine .inr ⟨.inl k, c, e, ?_⟩
      have q := x.cell y c e
      rw [bindC_get ndP hp hu (by show scope.names.lookup y ≠ _; rw [k]; decide)] at q
      exact q
  · exact e0.hok.fresh (Nat.le_of_lt (x.above y c (PySem.mem_of_lookup h)))
  · unfold start
    show _ = N.length
    rw [List.length_append, List.length_map, List.length_replicate]
    (clear S hd e0 r hk x noA; omega)
theorem fn_of {CX : CXT} {P : Program} {w : World} {K : PySem.W.Frag} {mg : Str → Option Value} {base : Heap} {k : Nat} {f : Addr} {name qual : Str} {params : Arguments} {body : List Stmt} {scope : Scope} {dV kV doc pm cdv ct oc : Value} {an od : Option Addr}
    {osl : Array (Option Value)} {N ps : List Str} {sp : Sp} (lk : K.lookup f = some ⟨oc, od, .func (PySem.W.fnOf name qual params body scope dV kV doc pm an cdv ct), osl⟩) (hcd : PySem.W.codeIn K cdv qual = true) (S : FnScope N ps scope)
    (len : ∀ vs H Q E, sp vs H Q E → vs.length = ps.length)
    (hbody : ∀ (A : Around) (outer : List Env) (s : Shared) (H : Hp) (vs : List V) (Q : VK) (E : XK), Room k (A.deeper (envOfC qual scope s.heap.objs.size f cdv)) → sp vs H Q E →
      ∃ t, PSs (cxOf CX P w K mg base N qual scope f cdv A outer s H E) body t ∧ t { nx := fun _ H' => Q .non H', rt := Q } (start N vs) H) :
    FnOk P w K mg base CX (k + 1) f (PySem.W.fnOf name qual params body scope dV kV doc pm an cdv ct) ps sp := by
  refine ⟨len, fun A outer s H args us vs Q E hr e0 hb r hsp => ?_⟩
  have hl := len _ _ _ _ hsp
  have KX : K.In s.heap := e0.mod.kin.keeps fun b o e => (e0.bs b o e).1
  have lim : s.heap.NoLimit := e0.mod.nolimit.keeps fun b o e => (e0.bs b o e).1
  have hkind : ∀ y ∈ ps.zip us, scope.names.lookup y.1 = some .local ∨ (scope.names.lookup y.1 = some .cell ∧ ((cellsFrom (s.heap.objs.size + 1) scope.names []).lookup y.1).isSome = true) := fun ⟨n, v⟩ hy => by
    rcases S.par n (List.of_mem_zip hy).1 with q | q
    · exact .inl q
    · exact .inr ⟨q, PySem.W.cellsFrom_some _ _ _ (.inl q)⟩
  refine codeAny_call_function hr.depth (KX _ _ lk) rfl S.co S.gen rfl (PySem.W.codeRec_of KX hcd) (hb _ _ _ _ ?_)
  refine wpAny_newFunctionEnv_cells S.kind hkind fun env he s1 x => ?_
  subst he
  refine ⟨lim.keeps x.toInCall.keep, codeAny_func ?_⟩
  obtain ⟨t, ht, hq⟩ := hbody A outer s H vs Q E (hr.deeper _) hsp
  have I : Inv (cxOf CX P w K mg base N qual scope f cdv A outer s H E) [] (start N vs) H s1 := inv_start S hr.hd e0 hl r x
  refine wpAny_mono (ht [] s1 (start N vs) H _ I hq) (fun fl s' hs => ?_) fun e s' hs => hs
  have fin : ∀ {σ' : St} {H' : Hp} {v : V} {u : Value}, Inv (cxOf CX P w K mg base N qual scope f cdv A outer s H E) [] σ' H' s' → RelV v u → Q v H' → CE outer P w H s Q u s' :=
    fun {σ' H' v u} J rv q => ⟨v, H', J.os, J.bare, J.base, J.hok, rv, q⟩
  cases fl with
  | ret u =>
    obtain ⟨v, σ', H', J, rv, q⟩ := hs
    exact fin J rv q
  | next =>
    obtain ⟨σ', H', J, q⟩ := hs
    exact fin (v := V.non) (u := Value.none) J rfl q
  | brk =>
    obtain ⟨_, _, _, q⟩ := hs
    exact False.elim q
  | cont =>
    obtain ⟨_, _, _, q⟩ := hs
    exact False.elim q
end L2
namespace L2
open PySem PySem.Spec PyProof.Rows
section
variable {X : Cx} {x : Str} {p pos : Pos} {e : Expr} {es : List Expr} {t : TA} {id T : String} {r : List V → Hp → VK → Prop}
noncomputable def tCB (r : List V → Hp → VK → Prop) (t : TA) : TE := fun σ H Q => t σ H fun vs H1 => r vs H1 Q
theorem pe_callB (hc : CallR X (.builtin id) r) (hg : Gl X x) (hm : X.mg x = none) (hv : bootBuiltins x = some (.builtin id)) (ha : PA X (e :: es) t) (hn : x ≠ "__name__" := by decide) (hdb : (x == ("__debug__" : Str)) = false := by decide)
    (he : starEach (e :: es) X.env = (false, eval e X.env) :: starEach es X.env := by rfl) (hpl : (backTo pos (starEach es X.env)).any (·.1) = false := by rfl) : PE X (.Call (.Name x p) (e :: es) [] pos) (tCB r t) := by
  intro pins s σ H Q I h
  refine wpAny_Call_Name_kw (ld_blt I hg hm hv ?_ hn hdb)
  exact PyProof.Rows.callWith_builtin1 (thn (ha pos pins s σ H _ I h) fun us s1 ⟨vs, H1, I1, r1, q1⟩ => hc pins s1 σ H1 vs us Q I1 r1 q1) he hpl
theorem pe_callTy (hc : CallR X (.type T) r) (hg : Gl X x) (hm : X.mg x = none) (hv : bootBuiltins x = some (.type T)) (ha : PA X (e :: es) t) (hn : x ≠ "__name__" := by decide) (hdb : (x == ("__debug__" : Str)) = false := by decide)
    (he : starEach (e :: es) X.env = (false, eval e X.env) :: starEach es X.env := by rfl) (hpl : (backTo pos (starEach es X.env)).any (·.1) = false := by rfl) : PE X (.Call (.Name x p) (e :: es) [] pos) (tCB r t) := by
  intro pins s σ H Q I h
  refine wpAny_Call_Name_kw (ld_blt I hg hm hv ?_ hn hdb)
  exact PyProof.Rows.callWith_type1 (thn (ha pos pins s σ H _ I h) fun us s1 ⟨vs, H1, I1, r1, q1⟩ => hc pins s1 σ H1 vs us Q I1 r1 q1) he hpl
end
end L2
namespace HT
open PySem PyProof.Rows
theorem rcLt_int (A : Around) (s : Shared) (a : Int) (t : Tok) (c : Int) (u : Tok) (prog : Program) (w : World) (E : Value → Shared → Prop) (Q : Value → Shared → Prop) (h : Q (.bool (decide (a < c))) s) :
    wpAny (model prog w) A (richCompare .Lt (.int a t) (.int c u)) Q E s :=
  (PyProof.Rows.lt_int h : wpAny (model prog w) A (compareOp .Lt (.int a t) (.int c u)) Q E s)
section
open PySem.SeqAt
open PySem.AutoSeq1 (wpAny_loadPart')
open PySem.MeetsSeq PySem.MeetsSeq2 PySem.MeetsSeq3
end
section
variable {prog : Program} {w : World} {A : Around} {E : Value → Shared → Prop} {s : Shared}
theorem cat_tup {t b : Addr} {vs ws : List Value} {Q : Value → Shared → Prop} (ht : IsTup s.heap t vs.toArray) (hb : IsTup s.heap b ws.toArray) (hv : vs ≠ [])
    (h1 : ws = [] → Q (.ref t) s) (h2 : ws ≠ [] → Q (.ref s.heap.objs.size) { s with heap := s.heap.push { cls := .type "tuple", data := .seq (vs ++ ws).toArray } })
    (hsz : vs.length + ws.length ≤ sizeLine) : wpAny (model prog w) A (binaryOp .Add (.ref t) (.ref b)) Q E s := by
  obtain ⟨⟨cls, dd, data, sl⟩, ho, hc, n, hd⟩ := id ht
  obtain ⟨⟨cls2, dd2, data2, sl2⟩, ho2, hc2, n2, hd2⟩ := id hb
  simp only at hc hd hc2 hd2
  subst hc hd hc2 hd2
  have e : vs.toArray ++ ws.toArray = (vs ++ ws).toArray := by simp
  by_cases hw : ws = []
  · exact concat_meets ⟨_, ho, rfl⟩ ⟨_, ho2, rfl⟩ noFill_tuple_add seq_tuple_add PySem.F.slot_tuple_add PySem.F.entry_tuple_add (PySem.F.args_tuple_add_2 _ _)
      (tuple_addW1 t b vs.toArray ws.toArray n n2 dd dd2 sl sl2 (by simpa using hv) (by simp [hw])) ⟨ho, ho2, h1 hw⟩
  · refine concat_meets ⟨_, ho, rfl⟩ ⟨_, ho2, rfl⟩ noFill_tuple_add seq_tuple_add PySem.F.slot_tuple_add PySem.F.entry_tuple_add (PySem.F.args_tuple_add_2 _ _)
      (tuple_addW2 t b vs.toArray ws.toArray n n2 dd dd2 sl sl2 (by simpa using hv) (by simpa using hw) (by rw [List.size_toArray, List.size_toArray]; exact hsz)) ⟨ho, ho2, ?_⟩
    rw [e]
    exact h2 hw
noncomputable def sIx (n d : Nat) : Option Int → Nat
  | none => d
  | some v => if v < 0 then (v + (n : Int)).toNat else min v.toNat n
theorem sIx_none (n d : Nat) : sIx n d none = d := rfl
theorem sIx_nat (n d k : Nat) : sIx n d (some (k : Int)) = min k n := by
  show (if (k : Int) < 0 then ((k : Int) + (n : Int)).toNat else min (k : Int).toNat n) = min k n
  rw [if_neg (by omega), Int.toNat_natCast]
theorem sIx_le (n d : Nat) (hd : d ≤ n) (o : Option Int) : sIx n d o ≤ n := by
  cases o with
  | none => exact hd
  | some v =>
    show (if v < 0 then (v + (n : Int)).toNat else min v.toNat n) ≤ n
    by_cases hv : v < 0
    · rw [if_pos hv]; omega
    · rw [if_neg hv]; exact Nat.min_le_right _ _
theorem clip_eq (v : Int) (n d : Nat) : (if v < 0 then max (v + (n : Int)) 0 else min v (n : Int)) = ((sIx n d (some v) : Nat) : Int) := by
  show (if v < 0 then max (v + (n : Int)) 0 else min v (n : Int)) = (((if v < 0 then (v + (n : Int)).toNat else min v.toNat n) : Nat) : Int)
  by_cases hv : v < 0
  · simp only [if_pos hv]; (clear hv; omega)
  · simp only [if_neg hv]; omega
theorem adjust_gen (lo hi : Option Int) (n : Nat) : Builtin.Slice.sliceAdjust lo hi 1 (n : Int) = (((sIx n 0 lo : Nat) : Int), ((sIx n n hi : Nat) : Int)) := by
  have h1 : ¬ ((1 : Int) < 0) := by omega
  unfold Builtin.Slice.sliceAdjust
  simp only [h1, if_false]
  refine Prod.ext ?_ ?_
  · cases lo with
    | none => rfl
    | some v => exact clip_eq v n 0
  · cases hi with
    | none => rfl
    | some v => exact clip_eq v n n
theorem places_gen (i j : Nat) : Builtin.Slice.slicePlaces (i : Int) (j : Int) 1 = j - i := by
  unfold Builtin.Slice.slicePlaces
  have h1 : (1 : Int) > 0 := by omega
  simp only [h1, if_true, Int.ediv_one]
  split <;> (clear h1; omega)
theorem slicePart_ {v : Value} {o : Option Int} {Q : Option Int → Shared → Prop} (p : IsPart v o) (h : Q o s) : wpAny (model prog w) A (Builtin.Slice.slicePartIndex v) Q E s := by
  cases p with
  | none => exact slicePart_none h
  | int i t => exact slicePart_int h
theorem sliceApplied_gen {sl : Addr} {vl vu : Value} {lo hi : Option Int} {n : Nat} {Q : Int × Int × Nat → Shared → Prop} (hs : s.heap.IsSliceOf sl vl vu .none) (pl : IsPart vl lo) (pu : IsPart vu hi)
    (h : Q (((sIx n 0 lo : Nat) : Int), 1, sIx n n hi - sIx n 0 lo) s) : wpAny (model prog w) A (Builtin.Slice.sliceApplied (.ref sl) (pure (n : Int))) Q E s := by
  obtain ⟨os, hos, hcs, hds⟩ := id hs
  unfold Builtin.Slice.sliceApplied Builtin.Slice.sliceFields
  refine wpAny_bind (wpAny_bind (wpAny_field hos hds (x := vl) rfl (wpAny_bind (wpAny_field hos hds (x := vu) rfl (wpAny_bind (wpAny_field hos hds (x := .none) rfl (wpAny_pure ?_)))))))
  refine wpAny_bind (slicePart_none ?_)
  show wpAny _ _ (if ((1 : Int) == 0) = true then _ else _) _ _ s
  rw [if_neg (by decide)]
  refine wpAny_bind (slicePart_ pl (wpAny_bind (slicePart_ pu (wpAny_bind (wpAny_pure ?_)))))
  show wpAny _ _ (match Builtin.Slice.sliceAdjust lo hi 1 (n : Int) with | (lo, hi) => pure (lo, (1 : Int), Builtin.Slice.slicePlaces lo hi 1)) _ _ s
  rw [adjust_gen lo hi n]
  show wpAny _ _ (pure (((sIx n 0 lo : Nat) : Int), (1 : Int), Builtin.Slice.slicePlaces ((sIx n 0 lo : Nat) : Int) ((sIx n n hi : Nat) : Int) 1)) _ _ s
  rw [places_gen]
  exact wpAny_pure h
theorem pick_gen (xs : Array Value) (i k : Nat) : ((List.range k).filterMap fun (m : Nat) => xs[((i : Int) + (m : Int) * 1).toNat]?).toArray = ((xs.toList.drop i).take k).toArray := by
  have e : (fun (m : Nat) => xs[((i : Int) + (m : Int) * 1).toNat]?) = fun m => xs[i + m]? := by
    funext m
    have : ((i : Int) + (m : Int) * 1).toNat = i + m := by omega
    rw [this]
  rw [e]
  have := pick_run xs i k
  rw [List.filterMap_map] at this
  have e2 : ((fun x => xs[x]?) ∘ fun x => i + x) = fun m => xs[i + m]? := rfl
  rw [e2] at this
  rw [this]
theorem getItem_tuple_cut {t sl : Addr} {items : Array Value} {vl vu : Value} {lo hi : Option Int} {Q : Value → Shared → Prop} (ht : IsTup s.heap t items) (hs : s.heap.IsSliceOf sl vl vu .none) (pl : IsPart vl lo) (pu : IsPart vu hi)
    (hw : ¬ (sIx items.size 0 lo = 0 ∧ sIx items.size items.size hi = items.size))
    (h : Q (.ref s.heap.objs.size) { s with heap := s.heap.push { cls := .type "tuple", data := .seq ((items.toList.drop (sIx items.size 0 lo)).take (sIx items.size items.size hi - sIx items.size 0 lo)).toArray } })
    (hsz : items.size ≤ sizeLine) : wpAny (model prog w) A (getItem (.ref t) (.ref sl)) Q E s := by
  have htake : sizeOk (.seq ((items.toList.drop (sIx items.size 0 lo)).take (sIx items.size items.size hi - sIx items.size 0 lo)).toArray) := by
    show ((items.toList.drop (sIx items.size 0 lo)).take (sIx items.size items.size hi - sIx items.size 0 lo)).toArray.size ≤ sizeLine
    rw [List.size_toArray, List.length_take, List.length_drop, Array.length_toList]
    (clear ht hs pl pu hw h; omega)
  have hj : sIx items.size items.size hi ≤ items.size := sIx_le _ _ (Nat.le_refl _) hi
  obtain ⟨os, hos, hcs, hds⟩ := id hs
  have hTs : s.TypeIs (.ref sl) "slice" := ⟨os, hos, hcs⟩
  unfold getItem
  try with_reducible refine wpAny_holding ?_
  first | refine wpAny_bind (wpAny_pure ?_) | skip
  refine wpAny_bind (wpAny_sequenceKey ht.typeIs (by decide) ?_)
  refine wpAny_bind (wpAny_callSpecial?_slot (name := Str.ofString "__getitem__") ht.typeIs PyProof.Rows.slot_tuple_getitem
    (wpAny_call_entry PyProof.Rows.slot_tuple_getitem ht.typeIs entry_tuple_getitem ?_ (args_tuple_getitem _ _)))
  show wpAny _ _ (Builtin.Tuple.tupleItemsOf (.ref t) >>= _) _ _ s
  refine wpAny_bind (tupleItemsOf_ ht ?_)
  refine wpAny_bind (wpAny_typeOf hTs ?_)
  rw [if_pos (by decide)]
  refine wpAny_bind (sliceApplied_gen hs pl pu ?_)
  have hno : ¬ ((((sIx items.size 0 lo : Nat) : Int) == 0 && (1 : Int) == 1 && (sIx items.size items.size hi - sIx items.size 0 lo) == items.size) = true) := by
    intro q
    rw [Bool.and_eq_true, Bool.and_eq_true] at q
    have q1 : ((sIx items.size 0 lo : Nat) : Int) = 0 := eq_of_beq q.1.1
    have q2 : sIx items.size items.size hi - sIx items.size 0 lo = items.size := eq_of_beq q.2
    exact hw ⟨by (clear ht hs pl pu hw h hsz htake hj hos hcs hds hTs q q2; omega), by (clear ht hs pl pu hw h hsz htake hos hcs hds hTs q; omega)⟩
  show wpAny _ _ (if (((sIx items.size 0 lo : Nat) : Int) == 0 && (1 : Int) == 1 && (sIx items.size items.size hi - sIx items.size 0 lo) == items.size) = true then _ else _) _ _ s
  rw [if_neg hno, pick_gen]
  first
    | exact wpAny_bind (m := Builtin.Tuple.tupleExact _) (wpAny_newObj_type (wpAny_pure ⟨_, rfl, wpAny_pure h⟩) htake)
    | exact wpAny_bind (m := Builtin.Tuple.tupleExact _) (wpAny_newObj_type (wpAny_bind (wpAny_pure (wpAny_pure ⟨_, rfl, wpAny_pure h⟩))) htake)
    | exact wpAny_bind (wpAny_bind (m := Builtin.Tuple.tupleExact _) (wpAny_newObj_type (wpAny_pure (wpAny_pure ⟨_, rfl, wpAny_pure h⟩)) htake))
    | exact wpAny_bind (wpAny_bind (m := Builtin.Tuple.tupleExact _) (wpAny_newObj_type (wpAny_pure ⟨_, rfl, wpAny_pure h⟩) htake))
end
end HT
namespace L2
open PySem PySem.Spec PyProof.Rows
noncomputable abbrev TO := St → Hp → (Option Int → Hp → Prop) → Prop
noncomputable def PO (X : Cx) (e : Option Expr) (t : TO) : Prop :=
  ∀ (pins : List (Addr × Obj)) (s : Shared) (σ : St) (H : Hp) (Q : Option Int → Hp → Prop), Inv X pins σ H s → t σ H Q →
    wpAny (model X.prog X.w) X.A (evalPart e X.env) (fun u s' => ∃ o H', Inv X pins σ H' s' ∧ IsPart u o ∧ Q o H') X.xe s
noncomputable def tNoPart : TO := fun _ H Q => Q none H
noncomputable def tPart (t : TE) : TO := fun σ H Q => t σ H fun x H1 => ∃ i, x = .int i ∧ Q (some i) H1
theorem intsAre_of {ns : List Int} : ∀ {us : List Value}, Vals (ns.map V.int) us → IntsAre us ns := by
  induction ns with
  | nil => intro us r; rw [List.map_nil] at r; cases r; exact .nil
  | cons n ns ih =>
    intro us r
    rw [List.map_cons] at r
    cases r with
    | cons r1 r2 =>
      obtain ⟨t, e⟩ := r1
      subst e
      exact .cons n t (ih r2)
section
variable {X : Cx} {e : Expr} {te : TE} {lo hi : Option Expr} {tl th : TO} {pos p2 : Pos}
theorem po_none : PO X none tNoPart := by
  intro pins s σ H Q I h
  rw [evalPart_none]
  exact wpAny_pure ⟨none, H, I, .none, h⟩
theorem po_some (h : PE X e te) : PO X (some e) (tPart te) := by
  intro pins s σ H Q I hw
  rw [evalPart_some]
  refine thn (h pins s σ H _ I hw) fun u s1 ⟨x, H1, I1, r1, q1⟩ => ?_
  obtain ⟨i, rfl, q⟩ := q1
  obtain ⟨t, rfl⟩ := r1
  exact ⟨some i, H1, I1, .int i t, q⟩
noncomputable def SlR (X : Cx) (r : V → Option Int → Option Int → Hp → VK → Prop) : Prop :=
  ∀ (pins : List (Addr × Obj)) (s : Shared) (σ : St) (H : Hp) (x : V) (v vl vu : Value) (lo hi : Option Int) (sl : Addr) (Q : VK), Inv X pins σ H s → RelV x v → s.heap.IsSliceOf sl vl vu .none → IsPart vl lo → IsPart vu hi → r x lo hi H Q →
    ∃ T id, typeLookup (.type T) "__getitem__" = pure (some (.builtin id)) ∧ s.TypeIs v T ∧ wpAny (model X.prog X.w) X.A (getItem v (.ref sl)) (EP X pins σ Q) X.xe s
noncomputable def tSl (r : V → Option Int → Option Int → Hp → VK → Prop) (te : TE) (tl th : TO) : TE := fun σ H Q => te σ H fun x H1 => tl σ H1 fun l H2 => th σ H2 fun u H3 => r x l u H3 Q
theorem pe_slice {r : V → Option Int → Option Int → Hp → VK → Prop} (hr : SlR X r) (he : PE X e te) (hl : PO X lo tl) (hu : PO X hi th) : PE X (.Subscript e (.Slice lo hi none p2) pos) (tSl r te tl th) := by
  intro pins s σ H Q I h
  refine Subscript_ (thn (he pins s σ H _ I h) fun v s1 ⟨x, H1, I1, r1, q1⟩ => ?_)
  refine wpAny_Slice (thn (hl pins s1 σ H1 _ I1 q1) fun vl s2 ⟨l, H2, I2, pl, q2⟩ => thn (hu pins s2 σ H2 _ I2 q2) fun vu s3 ⟨u, H3, I3, pu, q3⟩ => ?_)
  rw [evalPart_none]
  refine wpAny_pure ?_
  have I4 : Inv X pins σ H3 { s3 with heap := s3.heap.push { cls := .type "slice", data := .fields #[vl, vu, .none] } } := I3.kept (t' := s3.toks) fun b ob q => Heap.get?_push_of_some _ q
  obtain ⟨T, id, hT, ht, hg⟩ := hr pins { s3 with heap := s3.heap.push { cls := .type "slice", data := .fields #[vl, vu, .none] } } σ H3 x v vl vu l u s3.heap.objs.size Q I4 r1 (Heap.IsSliceOf.new ..) pl pu q3
  show wpAny (model X.prog X.w) X.A (subscriptTail e (.Slice lo hi none p2) v (.ref s3.heap.objs.size)) (EP X pins σ Q) X.xe { s3 with heap := s3.heap.push { cls := .type "slice", data := .fields #[vl, vu, .none] } }
  exact tail_any (ops := [.ref s3.heap.objs.size, v]) ht hT hg (by with_unfolding_all rfl)
noncomputable def cutV (xs : List V) (lo hi : Option Int) : List V := (xs.drop (HT.sIx xs.length 0 lo)).take (HT.sIx xs.length xs.length hi - HT.sIx xs.length 0 lo)
theorem cutV_length (xs : List V) (lo hi : Option Int) : (cutV xs lo hi).length ≤ xs.length := by
  unfold cutV
  rw [List.length_take, List.length_drop]
  omega
noncomputable def rSlT (K : PySem.W.Frag) : V → Option Int → Option Int → Hp → VK → Prop := fun x lo hi H Q => ∃ a xs, x = .ref a ∧ SqT K H a xs ∧
  ¬ (HT.sIx xs.length 0 lo = 0 ∧ HT.sIx xs.length xs.length hi = xs.length) ∧ ∀ p, H p = none → Q (.ref p) (upd H p (.tup (cutV xs lo hi)))
theorem sl_tup : SlR X (rSlT X.K) := by
  intro pins s σ H x v vl vu lo hi sl Q I rx hs pl pu h
  obtain ⟨a, xs, rfl, hx, hw, q⟩ := h
  cases rx
  obtain ⟨its, r, ht, hz⟩ := I.tuple hx
  have hlen : its.toArray.size = xs.length := by rw [List.size_toArray]; exact r.length.symm
  refine ⟨"tuple", _, PyProof.Rows.slot_tuple_getitem.lookup, ht.typeIs, ?_⟩
  refine HT.getItem_tuple_cut ht hs pl pu (by rw [hlen]; exact hw) ?_ (by rw [hlen]; exact hz)
  rw [hlen]
  refine ⟨.ref s.heap.objs.size, _, I.laid (t' := s.toks) (o := .tup (cutV xs lo hi)) (fun b ob q => Heap.get?_push_of_some _ q) (Nat.le_refl _) ?_, rfl, q _ (I.hok.fresh (Nat.le_refl _))⟩
  exact ⟨Nat.le_trans (cutV_length xs lo hi) hz, _, (r.drop (HT.sIx xs.length 0 lo)).take (HT.sIx xs.length xs.length hi - HT.sIx xs.length 0 lo), IsTup.new _ _⟩
noncomputable def rCatT (K : PySem.W.Frag) : R2 := fun x y H Q => ∃ a b xs ys, x = .ref a ∧ y = .ref b ∧ SqT K H a xs ∧ SqT K H b ys ∧ xs ≠ [] ∧ xs.length + ys.length ≤ sizeLine ∧
  (ys = [] → Q (.ref a) H) ∧ (ys ≠ [] → ∀ p, H p = none → Q (.ref p) (upd H p (.tup (xs ++ ys))))
theorem Vals.nil_iff {xs : List V} {us : List Value} (r : Vals xs us) : us = [] ↔ xs = [] := by
  cases r with
  | nil => simp
  | cons _ _ => simp
theorem op_catT : OpR X (binaryOp .Add) (rCatT X.K) := by
  intro pins s σ H x y v u Q I rx ry h
  obtain ⟨a, b, xs, ys, rfl, rfl, ha, hb, hx, hz, q1, q2⟩ := h
  cases rx
  cases ry
  obtain ⟨its, r1, p1, _⟩ := I.tuple ha
  obtain ⟨its2, r2, p2, _⟩ := I.tuple hb
  refine HT.cat_tup p1 p2 (fun z => hx (r1.nil_iff.mp z)) (fun z => ⟨.ref a, H, I, rfl, q1 (r2.nil_iff.mp z)⟩) (fun z => ?_) (by rw [← r1.length, ← r2.length]; exact hz)
  refine ⟨.ref s.heap.objs.size, _, I.laid (t' := s.toks) (o := .tup (xs ++ ys)) (fun b ob q => Heap.get?_push_of_some _ q) (Nat.le_refl _) ?_, rfl, q2 (fun w => z (r2.nil_iff.mpr w)) _ (I.hok.fresh (Nat.le_refl _))⟩
  exact ⟨by rw [List.length_append]; exact hz, _, r1.append r2, IsTup.new _ _⟩
end
end L2
namespace L2
open PySem PySem.Spec PyProof.Rows
noncomputable def ixN (n : Nat) (i : Int) : Option Nat := if 0 ≤ i then (if i < n then some i.toNat else none) else if -(n : Int) ≤ i then some (i + n).toNat else none
noncomputable def atI {α : Type} (xs : List α) (i : Int) : Option α := (ixN xs.length i).bind fun j => xs[j]?
theorem ixN_seq {n : Nat} {i : Int} {j : Nat} (h : ixN n i = some j) : seqIndex? i n = some j ∧ j < n ∧ -(n : Int) ≤ i ∧ i < n := by
  unfold ixN at h
  by_cases h0 : 0 ≤ i
  · rw [if_pos h0] at h
    by_cases h1 : i < n
    · rw [if_pos h1] at h
      have e : i.toNat = j := Option.some.inj h
      exact ⟨by rw [seqIndex_of h0 h1, e], by (clear h; omega), by (clear h h1 e; omega), h1⟩
    · rw [if_neg h1] at h; cases h
  · rw [if_neg h0] at h
    by_cases h1 : -(n : Int) ≤ i
    · rw [if_pos h1] at h
      have e : (i + n).toNat = j := Option.some.inj h
      exact ⟨by rw [seqIndex_neg (by (clear h h1 e; omega)) h1, e], by (clear h; omega), h1, by (clear h e; omega)⟩
    · rw [if_neg h1] at h; cases h
theorem atI_get {α : Type} {xs : List α} {i : Int} {v : α} (h : atI xs i = some v) : ∃ j, seqIndex? i xs.length = some j ∧ xs[j]? = some v ∧ j < xs.length ∧ -(xs.length : Int) ≤ i ∧ i < xs.length := by
  unfold atI at h
  cases e : ixN xs.length i with
  | none => rw [e] at h; cases h
  | some j =>
    rw [e] at h
    obtain ⟨h1, h2, h3, h4⟩ := ixN_seq e
    exact ⟨j, h1, h, h2, h3, h4⟩
theorem atI_nat {α : Type} {xs : List α} {j : Nat} {v : α} (h : xs[j]? = some v) : atI xs (j : Int) = some v := by
  have hj : j < xs.length := (List.getElem?_eq_some_iff.mp h).1
  have e : ixN xs.length (j : Int) = some j := by
    unfold ixN
    rw [if_pos (by (clear h hj; omega)), if_pos (by (clear h; omega))]; simp
  unfold atI; rw [e]; exact h
noncomputable def PlainIx (b : Expr) : Prop := ∀ o i, subscripted b false o i = operate [o, i] (getItem o i)
noncomputable def IxR (X : Cx) (r : R2) : Prop :=
  ∀ (value slice : Expr) (pins : List (Addr × Obj)) (s : Shared) (σ : St) (H : Hp) (x y : V) (v u : Value) (Q : VK), Inv X pins σ H s → RelV x v → RelV y u → r x y H Q →
    subscripted slice false v u = operate [v, u] (getItem v u) → wpAny (model X.prog X.w) X.A (subscriptTail value slice v u) (EP X pins σ Q) X.xe s
noncomputable def MtR (X : Cx) (id : String) (r : V → List V → Hp → VK → Prop) : Prop :=
  ∀ (pins : List (Addr × Obj)) (s : Shared) (σ : St) (H : Hp) (x : V) (xs : List V) (v : Value) (us : List Value) (Q : VK), Inv X pins σ H s → RelV x v → Vals xs us → r x xs H Q →
    wpAny (model X.prog X.w) X.A (call (.builtin id) (v :: us)) (EP X pins σ Q) X.xe s
section
variable {X : Cx} {a b : Expr} {ta tb : TE} {pos : Pos}
theorem pe_ix {r : R2} (hr : IxR X r) (ha : PE X a ta) (hb : PE X b tb) (hs : PlainIx b) : PE X (.Subscript a b pos) (tOp r ta tb) := by
  intro pins s σ H Q I h
  exact Subscript_ (binT ha hb I h fun v u s2 x y H2 I2 rx ry q => hr a b pins s2 σ H2 x y v u Q I2 rx ry q (hs _ _))
noncomputable def rIxL (K : PySem.W.Frag) : R2 := fun x y H Q => ∃ p xs i v, x = .ref p ∧ y = .int i ∧ SqL K H p xs ∧ atI xs i = some v ∧ Q v H
noncomputable def rIxT (K : PySem.W.Frag) : R2 := fun x y H Q => ∃ p xs i v, x = .ref p ∧ y = .int i ∧ SqT K H p xs ∧ atI xs i = some v ∧ Q v H
noncomputable def rIxS : R2 := fun x y H Q => ∃ z i c, x = .str z ∧ y = .int i ∧ z.length ≤ sizeLine ∧ atI z.cps.toList i = some c ∧ Q (.str ⟨#[c]⟩) H
theorem ix_list : IxR X (rIxL X.K) := by
  intro value slice pins s σ H x y v u Q I rx ry h hs
  obtain ⟨p, xs, i, z, rfl, rfl, hq, he, q⟩ := h
  cases rx
  obtain ⟨t, rfl⟩ := ry
  obtain ⟨its, r, pl, hz⟩ := I.list hq
  obtain ⟨j, h1, h2, h3, h4, h5⟩ := atI_get he
  obtain ⟨w, ew, rw'⟩ := r.get h2
  have hl := r.length
  have hn := line63
  have fin : EP X pins σ Q w s := ⟨z, H, I, rw', q⟩
  by_cases h0 : 0 ≤ i
  · have hj : i.toNat = j := by
      rw [seqIndex_of h0 h5] at h1
      exact Option.some.inj h1
    exact item_listR pl.isList h0 (by (clear I hq he q hs r pl h1 h2 h3 h4 ew rw' fin h0 hj; omega)) (by rw [hj]; simpa using ew) fin hs
  · have hj : (i + (its.toArray.size : Int)).toNat = j := by
      rw [seqIndex_neg (by (clear I hq he q hs r pl hz h1 h2 h3 h4 h5 ew rw' hl hn fin; omega)) h4] at h1
      rw [List.size_toArray, ← hl]
      exact Option.some.inj h1
    exact subscriptTail_builtinR (x := w) pl.isList.typeIs slot_list_getitem.lookup
      (wpAny_getItem_list_neg (Q := fun r s' => r = w ∧ EP X pins σ Q r s') pl.isList (by (clear I hq he q hs r pl hz h1 h2 h3 h4 h5 ew rw' hl hn fin hj; omega)) (by rw [List.size_toArray] <;> (clear I hq he q hs r pl hz h1 h2 h3 h5 ew rw' hn fin h0 hj; omega)) (by (clear I hq he q hs r pl h1 h2 h3 h5 ew rw' fin h0 hj; omega)) (by rw [hj]; simpa using ew) ⟨rfl, fin⟩) hs
theorem ix_tup : IxR X (rIxT X.K) := by
  intro value slice pins s σ H x y v u Q I rx ry h hs
  obtain ⟨p, xs, i, z, rfl, rfl, hq, he, q⟩ := h
  cases rx
  obtain ⟨t, rfl⟩ := ry
  obtain ⟨its, r, pl, hz⟩ := I.tuple hq
  obtain ⟨j, h1, h2, h3, h4, h5⟩ := atI_get he
  obtain ⟨w, ew, rw'⟩ := r.get h2
  have hl := r.length
  have hn := line63
  have fin : EP X pins σ Q w s := ⟨z, H, I, rw', q⟩
  exact subscriptTail_builtinR (x := w) pl.typeIs slot_tuple_getitem.lookup
    (getItem_tuple (j := j) (Q := fun r s' => r = w ∧ EP X pins σ Q r s') pl (by (clear I hq he q hs r pl h1 h2 h5 ew rw' fin; omega)) (by (clear I hq he q hs r pl h1 h2 h4 ew rw' fin; omega)) (by rw [List.size_toArray, ← hl]; exact h1) (by simpa using ew) ⟨rfl, fin⟩) hs
theorem ix_str : IxR X rIxS := by
  intro value slice pins s σ H x y v u Q I rx ry h hs
  obtain ⟨z, i, c, rfl, rfl, hz, he, q⟩ := h
  obtain ⟨t, rfl⟩ := rx
  obtain ⟨t', rfl⟩ := ry
  obtain ⟨j, h1, h2, h3, h4, h5⟩ := atI_get he
  have hl : z.cps.toList.length = z.length := by simp [Str.length]
  rw [hl] at h1 h4 h5
  have hn := line63
  exact tail_any (typeIs_str s z t) slot_str_getitem.lookup (getItem_str (c := c) (by
    have e1 : decide (i < -(2 ^ 63 : Int)) = false := decide_eq_false (by (clear I he q hs h1 h2 h3 h5; omega))
    have e2 : decide (i ≥ 2 ^ 63) = false := decide_eq_false (by (clear I he q hs h1 h2 h3 h4 e1; omega))
    rw [e1, e2, Bool.or_false]) (by rw [h1]; simpa using h2) ⟨.str ⟨#[c]⟩, H, I.tok _, ⟨_, rfl⟩, q⟩) hs
theorem slice_bounds (lo hi : Option Int) (n : Nat) : (sliceBounds lo hi none n).1 = ((HT.sIx n 0 lo : Nat) : Int) ∧ (sliceBounds lo hi none n).2.1 = ((HT.sIx n n hi : Nat) : Int) ∧ (sliceBounds lo hi none n).2.2 = 1 := by
  refine ⟨?_, ?_, rfl⟩
  · cases lo with
    | none => simp [sliceBounds, HT.sIx]
    | some i =>
      simp only [sliceBounds, HT.sIx, Option.getD_none, show (1 : Int) > 0 by decide, if_true]
      by_cases h : i < 0
      · simp only [h, if_true] <;> omega
      · simp only [h, if_false] <;> omega
  · cases hi with
    | none => simp [sliceBounds, HT.sIx]
    | some i =>
      simp only [sliceBounds, HT.sIx, Option.getD_none, show (1 : Int) > 0 by decide, if_true]
      by_cases h : i < 0
      · simp only [h, if_true] <;> omega
      · simp only [h, if_false] <;> omega
theorem slicePick_cut (its : List Value) (lo hi : Option Int) : slicePick its.toArray lo hi none = ((its.drop (HT.sIx its.length 0 lo)).take (HT.sIx its.length its.length hi - HT.sIx its.length 0 lo)).toArray := by
  obtain ⟨h1, h2, h3⟩ := slice_bounds lo hi its.toArray.size
  unfold slicePick
  rw [h1, h2, h3]
  simp only [sliceRange_one, pick_run, List.size_toArray] <;> rfl
noncomputable def rSlL (K : PySem.W.Frag) : V → Option Int → Option Int → Hp → VK → Prop := fun x lo hi H Q => ∃ a xs, x = .ref a ∧ SqL K H a xs ∧ ∀ p, H p = none → Q (.ref p) (upd H p (.lst (cutV xs lo hi)))
theorem sl_list : SlR X (rSlL X.K) := by
  intro pins s σ H x v vl vu lo hi sl Q I rx hs pl pu h
  obtain ⟨a, xs, rfl, hx, q⟩ := h
  cases rx
  obtain ⟨its, r, ht, hz⟩ := I.list hx
  have hlen := r.length
  refine ⟨"list", _, slot_list_getitem.lookup, ht.isList.typeIs, ?_⟩
  refine wpAny_getItem_list_slice ht.isList hs pl pu .none (by simp) ?_ (by rw [List.size_toArray] <;> (clear I hs pl pu hx q r ht; omega))
  rw [slicePick_cut, ← hlen]
  refine ⟨.ref s.heap.objs.size, _, I.laid (t' := s.toks) (o := .lst (cutV xs lo hi)) (fun b ob q => Heap.get?_push_of_some _ q) (Nat.le_refl _) ?_, rfl, q _ (I.hok.fresh (Nat.le_refl _))⟩
  exact ⟨Nat.le_trans (cutV_length xs lo hi) hz, _, 0, (r.drop (HT.sIx xs.length 0 lo)).take (HT.sIx xs.length xs.length hi - HT.sIx xs.length 0 lo), Heap.get?_push_size _ rfl⟩
theorem op_notIn_str : OpR X (compareOp .NotIn) (fun x y H Q => ∃ i j, x = .str i ∧ y = .str j ∧ Q (.bl (!(!(Builtin.Str.occurrences j i 0 j.length 1).isEmpty))) H) := by
  intro pins s σ H x y v u Q I rx ry h
  obtain ⟨i, j, rfl, rfl, q⟩ := h
  obtain ⟨t, rfl⟩ := rx
  obtain ⟨t', rfl⟩ := ry
  exact notIn_str ⟨.bl _, H, I, rfl, q⟩
theorem call_len_seq : CallR X (.builtin "len") (fun xs H Q => ∃ p ys, xs = [.ref p] ∧ (SqL X.K H p ys ∨ SqT X.K H p ys) ∧ Q (.int ys.length) H) := by
  intro pins s σ H xs us Q I r h
  obtain ⟨p, ys, rfl, hq, q⟩ := h
  obtain ⟨u, rfl, rx⟩ := vals1 r
  cases rx
  have hn := line63
  rcases hq with hq | hq
  · obtain ⟨its, r', pl, hz⟩ := I.list hq
    have hlen := r'.length
    exact Calls.call_len_list pl.isList (by simp only [List.size_toArray] <;> (clear I q r hq r' pl; omega)) ⟨.int ys.length, H, I.tok _, ⟨s.toks + 1, by rw [List.size_toArray, hlen]⟩, q⟩
  · obtain ⟨its, r', pl, hz⟩ := I.tuple hq
    have hlen := r'.length
    exact len_tuple pl (by simp only [List.size_toArray] <;> (clear I q r hq r' pl; omega)) ⟨.int ys.length, H, I.tok _, ⟨s.toks + 1, by rw [List.size_toArray, hlen]⟩, q⟩
theorem call_len_str : CallR X (.builtin "len") (fun xs H Q => ∃ z, xs = [.str z] ∧ z.length ≤ sizeLine ∧ Q (.int z.length) H) := by
  intro pins s σ H xs us Q I r h
  obtain ⟨z, rfl, hz, q⟩ := h
  obtain ⟨u, rfl, t, rfl⟩ := vals1 r
  have hn := line63
  exact len_str (by (clear I q r; omega)) ⟨.int z.length, H, I.tok _, ⟨_, rfl⟩, q⟩
theorem call_tuple_of : CallR X (.type "tuple") (fun xs H Q => ∃ p ys, xs = [.ref p] ∧ ((SqL X.K H p ys ∧ ∀ l, H l = none → Q (.ref l) (upd H l (.tup ys))) ∨ (SqT X.K H p ys ∧ Q (.ref p) H))) := by
  intro pins s σ H xs us Q I r h
  obtain ⟨p, ys, rfl, h⟩ := h
  obtain ⟨u, rfl, rx⟩ := vals1 r
  cases rx
  rcases h with ⟨hq, q⟩ | ⟨hq, q⟩
  · obtain ⟨its, r', pl, hz⟩ := I.list hq
    have hlen := r'.length
    refine call_tuple_list pl.isList (fun h' kp => ?_) (by simp only [List.size_toArray] <;> (clear I r hq q r' pl; omega))
    have I1 : Inv X pins σ H { s with heap := h' } := I.kept (t' := s.toks) kp
    have I2 : Inv X pins σ (upd H h'.objs.size (.tup ys)) { s with heap := h'.push { cls := .type "tuple", data := .seq its.toArray } } :=
      I1.laid (t' := s.toks) (fun b o e => Heap.get?_push_of_some _ e) (Nat.le_refl _) (show ObjOk X.prog X.w _ _ _ (.tup ys) from ⟨hz, its, r', IsTup.new _ _⟩)
    exact ⟨.ref h'.objs.size, _, I2, rfl, q _ (I1.hok.fresh (Nat.le_refl _))⟩
  · obtain ⟨its, r', pl, hz⟩ := I.tuple hq
    exact call_tuple_same pl ⟨.ref p, H, I, rfl, q⟩
noncomputable def tyV (K : PySem.W.Frag) (T : String) (x : V) (H : Hp) : Prop := match x with
  | .str _ => T = "str"
  | .int _ => T = "int"
  | .ref p => (T = "list" ∧ ∃ xs, SqL K H p xs) ∨ (T = "tuple" ∧ ∃ o, K.lookup p = some o ∧ o.cls = .type "tuple" ∧ o.dict = none) ∨
      (T = "dict" ∧ ((∃ kvs, H p = some (.dK kvs)) ∨ ∃ kvs, H p = some (.dT kvs))) ∨ (T = "set" ∧ ∃ S n, H p = some (.set S n))
  | _ => False
theorem tyV_is {pins : List (Addr × Obj)} {σ : St} {H : Hp} {s : Shared} {T : String} {x : V} {v : Value} (I : Inv X pins σ H s) (r : RelV x v) (ty : tyV X.K T x H) :
    s.TypeIs v T ∧ ∀ a, v = .ref a → ∃ ob, s.heap.get? a = some ob ∧ ob.dict = none := by
  cases x with
  | str z =>
    obtain ⟨t, rfl⟩ := r
    cases (show T = "str" from ty)
    exact ⟨typeIs_str s z t, fun _ e => nomatch e⟩
  | int i =>
    obtain ⟨t, rfl⟩ := r
    cases (show T = "int" from ty)
    exact ⟨typeIs_int s i t, fun _ e => nomatch e⟩
  | ref p =>
    cases r
    rcases ty with ⟨rfl, xs, hq⟩ | ⟨rfl, o, hk, hc, hd⟩ | ⟨rfl, hk⟩ | ⟨rfl, S, n, hk⟩
    · obtain ⟨its, _, pl, _⟩ := I.list hq
      refine ⟨pl.isList.typeIs, fun a e => ?_⟩
      cases e
      obtain ⟨o, n, e, c, hd, _⟩ := pl
      exact ⟨o, e, hd⟩
    · refine ⟨⟨o, I.kIn p o hk, hc⟩, fun a e => ?_⟩
      cases e
      exact ⟨o, I.kIn _ o hk, hd⟩
    · have z : ∃ o, s.heap.get? p = some o ∧ o.ExactDict := by
        rcases hk with ⟨kvs, hk⟩ | ⟨kvs, hk⟩
        · obtain ⟨_, _, _, _, o, _, _, e, ex, _⟩ := I.hok p _ hk
          exact ⟨o, e, ex⟩
        · obtain ⟨_, _, _, _, o, _, _, e, ex, _⟩ := I.hok p _ hk
          exact ⟨o, e, ex⟩
      obtain ⟨o, e, ex⟩ := z
      refine ⟨⟨o, e, ex.1⟩, fun a e2 => ?_⟩
      cases e2
      exact ⟨o, e, ex.2.1⟩
    · obtain ⟨o, _, _, _, e, ex, _⟩ := I.hok p _ hk
      refine ⟨⟨o, e, ex.1⟩, fun a e2 => ?_⟩
      cases e2
      exact ⟨o, e, ex.2.1⟩
  | _ => exact False.elim ty
noncomputable def tBM0 (K : PySem.W.Frag) (T : String) (r : V → List V → Hp → VK → Prop) (to : TE) : TE := fun σ H Q => to σ H fun x H1 => tyV K T x H1 ∧ r x [] H1 Q
noncomputable def tBM (K : PySem.W.Frag) (T : String) (r : V → List V → Hp → VK → Prop) (to : TE) (t : TA) : TE := fun σ H Q => to σ H fun x H1 => tyV K T x H1 ∧ t σ H1 fun xs H2 => r x xs H2 Q
variable {o e : Expr} {es : List Expr} {to : TE} {t : TA} {name : Str} {apos cpos : Pos} {T id : String} {r : V → List V → Hp → VK → Prop}
theorem pe_bm0 (pa : PlainAttrs T) (slot : Slot T name id) (hty : typeOf (.builtin id) = pure (.type "method_descriptor")) (hm : MtR X id r) (ho : PE X o to)
    (hbase : attributeBase o name X.env (eval o X.env) = eval o X.env := by rfl) (hline : (apos.endLine == cpos.line) = true := by rfl) : PE X (.Call (.Attribute o name apos) [] [] cpos) (tBM0 X.K T r to) := by
  intro pins s σ H Q I h
  refine wpAny_Call_method0_late hbase hline (thn (ho pins s σ H _ I h) fun v s1 ⟨x, H1, I1, r1, ty, q1⟩ => ?_)
  obtain ⟨h1, h2⟩ := tyV_is I1 r1 ty
  exact ⟨T, id, pa, slot, hty, h1, h2, Calls.callWith_builtin rfl (PySem.evalArgs_none (hm pins s1 σ H1 x [] v [] Q I1 r1 .nil q1))⟩
theorem pe_bm (pa : PlainAttrs T) (slot : Slot T name id) (hty : typeOf (.builtin id) = pure (.type "method_descriptor")) (hm : MtR X id r) (ho : PE X o to) (ha : PA X (e :: es) t)
    (hbase : attributeBase o name X.env (eval o X.env) = eval o X.env := by rfl)
    (hfew : ((backTo cpos (starEach (e :: es) X.env)).all (fun x => !x.1) && (backToKw cpos (keywordEach [] X.env)).all (fun x => x.1.isSome)
      && decide ((e :: es).length + ([] : List Keyword).length + (if ([] : List Keyword).isEmpty then 0 else 1) < 30)) = true := by rfl)
    (hline : (apos.endLine == cpos.line) = true := by rfl) (hs : starEach (e :: es) X.env = (false, eval e X.env) :: starEach es X.env := by rfl) (hplain : (backTo cpos (starEach es X.env)).any (·.1) = false := by rfl) :
    PE X (.Call (.Attribute o name apos) (e :: es) [] cpos) (tBM X.K T r to t) := by
  intro pins s σ H Q I h
  refine wpAny_Call_method_late hbase hfew hline rfl (thn (ho pins s σ H _ I h) fun v s1 ⟨x, H1, I1, r1, ty, q1⟩ => ?_)
  obtain ⟨h1, h2⟩ := tyV_is I1 r1 ty
  refine ⟨T, id, pa, slot, hty, h1, h2, ?_⟩
  have hA := ha cpos pins s1 σ H1 _ I1 q1
  rw [hs] at hA ⊢
  refine Calls.callWith_builtin (by show (false || (backTo cpos (starEach es X.env)).any (·.1)) = false; rw [hplain] <;> rfl) (Calls.evalArgs_plain ?_)
  exact thn hA fun us s2 ⟨vs, H2, I2, r2, q2⟩ => hm pins s2 σ H2 x vs v us Q I2 r1 r2 q2
end
end L2
namespace L2
open PySem PySem.Spec PyProof.Rows
noncomputable def MtM (X : Cx) (id : String) (r : V → List V → Hp → VK → Prop) : Prop :=
  ∀ (pins : List (Addr × Obj)) (s : Shared) (σ : St) (H : Hp) (x : V) (xs : List V) (v : Value) (us : List Value) (Q : VK), Inv X pins σ H s → RelV x v → Vals xs us → r x xs H Q →
    wpAny (model X.prog X.w) X.A (call (.builtin id) (v :: us)) (EP X pins σ Q) X.xe s
theorem Vals.one : ∀ {x : V} {us : List Value}, Vals [x] us → ∃ u, us = [u] ∧ RelV x u
  | _, _, .cons r .nil => ⟨_, rfl, r⟩
theorem Vals.zero : ∀ {us : List Value}, Vals [] us → us = []
  | _, .nil => rfl
theorem Vals.dropLast {xs : List V} {us : List Value} (h : Vals xs us) : Vals xs.dropLast us.dropLast := by
  induction h with
  | nil => exact .nil
  | cons r t ih =>
    cases t with
    | nil => exact .nil
    | cons q t' => exact .cons r ih
theorem Vals.rep {xs : List V} {us : List Value} (h : Vals xs us) : ∀ k : Nat, Vals (List.replicate k xs).flatten (List.replicate k us).flatten
  | 0 => .nil
  | k + 1 => by
    rw [List.replicate_succ, List.replicate_succ, List.flatten_cons, List.flatten_cons]
    exact Vals.append h (Vals.rep h k)
theorem erase_last {α : Type} (l : List α) : l.eraseIdx (l.length - 1) = l.dropLast := by
  induction l with
  | nil => rfl
  | cons a r ih =>
    cases r with
    | nil => rfl
    | cons b r =>
      have e : (a :: b :: r).length - 1 = ((b :: r).length - 1) + 1 := by
        have h1 : (a :: b :: r).length = r.length + 2 := rfl
        have h2 : (b :: r).length = r.length + 1 := rfl
        assumption
      rw [e, List.eraseIdx_cons_succ, ih]
      all_goals rfl
theorem foldl_rep (its : List Value) : ∀ (k : Nat) (acc : List Value),
    List.foldl (fun x1 x2 => x1 ++ x2) acc.toArray (List.replicate k its.toArray) = (acc ++ (List.replicate k its).flatten).toArray
  | 0, acc => by simp
  | k + 1, acc => by
    have e : acc.toArray ++ its.toArray = (acc ++ its).toArray := by simp
    have e2 : (acc ++ its) ++ (List.replicate k its).flatten = acc ++ (List.replicate (k + 1) its).flatten := by
      rw [List.replicate_succ, List.flatten_cons, List.append_assoc]
    rw [← e2, ← foldl_rep its k (acc ++ its), ← e, List.replicate_succ, List.foldl_cons]
section
variable {X : Cx} {pins : List (Addr × Obj)} {σ : St} {H : Hp} {s : Shared} {l b : Addr} {xs ys zs : List V}
theorem Inv.lset {its its' : List Value} {n : Nat} {f : Array Value → Array Value} {t' : Nat} (I : Inv X pins σ H s) (hH : H l = some (.lst xs))
    (e : s.heap.get? l = some { cls := .type "list", data := .seq its.toArray n }) (hf : f its.toArray = its'.toArray) (hv : Vals ys its') (hz : ys.length ≤ sizeLine) :
    Inv X pins σ (upd H l (.lst ys)) { s with heap := s.heap.update l (Obj.mapSeq f), toks := t' } := by
  have q := PySem.IsL.update e f
  rw [hf] at q
  refine I.write (x := l) (e := l) (by rw [hH]; exact trivial) (.inl rfl) (fun b' u hb hu => (Heap.get?_update_other s.heap (Obj.mapSeq f) (Ne.symm hb)).trans hu) ⟨_, q⟩ ?_
  exact ⟨hz, its', _, hv, q⟩
theorem Inv.lnew {its : List Value} {t' : Nat} (I : Inv X pins σ H s) (hv : Vals ys its) (hz : ys.length ≤ sizeLine) :
    Inv X pins σ (upd H s.heap.objs.size (.lst ys)) { s with heap := s.heap.push { cls := .type "list", data := .seq its.toArray }, toks := t' } :=
  I.laid (fun _ _ q => Heap.get?_push_of_some _ q) (Nat.le_refl _) ⟨hz, its, 0, hv, Heap.get?_push_size _ rfl⟩
theorem Inv.fresh (I : Inv X pins σ H s) : H s.heap.objs.size = none := I.hok.fresh (Nat.le_refl _)
theorem Inv.lstM (I : Inv X pins σ H s) (hH : H l = some (.lst xs)) : xs.length ≤ sizeLine ∧ ∃ (its : List Value) (n : Nat), Vals xs its ∧ xs.length = its.length ∧ s.heap.get? l = some { cls := .type "list", data := .seq its.toArray n } := by
  obtain ⟨z, its, n, r, e⟩ := I.hok l _ hH
  exact ⟨z, its, n, r, r.length, e⟩
theorem notLongL {n : Nat} (h : n ≤ sizeLine) : Builtin.List.listTooLong n = false := by
  unfold Builtin.List.listTooLong
  exact decide_eq_false (by omega)
end
section
variable {X : Cx}
noncomputable def rAppend : V → List V → Hp → VK → Prop := fun x vs H Q => ∃ l xs y, x = .ref l ∧ vs = [y] ∧ H l = some (.lst xs) ∧ xs.length < sizeLine ∧ Q .non (upd H l (.lst (xs ++ [y])))
theorem mt_append : MtM X "list.append" rAppend := by
  intro pins s σ H x vs v us Q I rx rv h
  obtain ⟨l, xs, y, rfl, rfl, hH, hz, q⟩ := h
  cases rx
  obtain ⟨u, rfl, ru⟩ := rv.one
  obtain ⟨z, its, n, r, hl, e⟩ := I.lstM hH
  refine call_meets F.slot_list_append ⟨_, e, rfl⟩ F.entry_list_append (F.args_list_append_2 _ _) (PySem.list_append l its.toArray n u (by rw [List.size_toArray]; (clear I hH q ru rv z r e; omega))) ⟨e, ?_⟩
  refine ⟨.non, _, I.lset (its' := its ++ [u]) hH e (by simp) (r.append (.cons ru .nil)) ?_, rfl, q⟩
  rw [List.length_append, List.length_singleton]
  assumption
noncomputable def rPop : V → List V → Hp → VK → Prop := fun x vs H Q => ∃ l xs y, x = .ref l ∧ vs = [] ∧ H l = some (.lst xs) ∧ xs[xs.length - 1]? = some y ∧ Q y (upd H l (.lst xs.dropLast))
theorem mt_pop : MtM X "list.pop" rPop := by
  intro pins s σ H x vs v us Q I rx rv h
  obtain ⟨l, xs, y, rfl, rfl, hH, hy, q⟩ := h
  cases rx
  have hus := rv.zero
  subst hus
  obtain ⟨z, its, n, r, hl, e⟩ := I.lstM hH
  obtain ⟨u, hu, ru⟩ := r.get hy
  have hy' : its.toArray[its.toArray.size - 1]? = some u := by
    show its.toArray[its.length - 1]? = some u
    rw [← Array.getElem?_toList, ← hl]
    exact hu
  refine call_meets F.slot_list_pop ⟨_, e, rfl⟩ F.entry_list_pop (F.args_list_pop_1 _) (MeetsSeq.list_pop_last l its.toArray n u hy' (by rw [List.size_toArray]; (clear I hH hy q rv r e hu ru hy'; omega))) ⟨e, ?_⟩
  refine ⟨y, _, I.lset (its' := its.dropLast) hH e ?_ r.dropLast ?_, ru, q⟩
  · show its.toArray.eraseIdxIfInBounds (its.toArray.size - 1) = its.dropLast.toArray
    rw [List.size_toArray, List.eraseIdxIfInBounds_toArray, erase_last]
  · rw [List.length_dropLast]
    (clear I hH hy q rv r e hu ru hy'; omega)
noncomputable def rCat : R2 := fun x y H Q => ∃ l b xs zs, x = .ref l ∧ y = .ref b ∧ H l = some (.lst xs) ∧ H b = some (.lst zs) ∧ xs.length + zs.length ≤ sizeLine ∧ ∀ p, H p = none → Q (.ref p) (upd H p (.lst (xs ++ zs)))
theorem op_cat : OpR X (binaryOp .Add) rCat := by
  intro pins s σ H x y v u Q I rx ry h
  obtain ⟨l, b, xs, zs, rfl, rfl, hH, hB, hz, q⟩ := h
  cases rx
  cases ry
  obtain ⟨z, its, n, r, hl, e⟩ := I.lstM hH
  obtain ⟨z2, its2, n2, r2, hl2, e2⟩ := I.lstM hB
  refine PySem.P.add_list e e2 ?_ (by rw [List.size_toArray, List.size_toArray]; (clear I hH hB q z r e z2 r2 e2; omega))
  have ea : its.toArray ++ its2.toArray = (its ++ its2).toArray := by simp
  rw [ea]
  exact ⟨.ref _, _, I.lnew (t' := s.toks) (r.append r2) (by rw [List.length_append]; assumption), rfl, q _ I.fresh⟩
noncomputable def rRep : R2 := fun x y H Q => ∃ l k xs, x = .ref l ∧ y = .int k ∧ H l = some (.lst xs) ∧ -(2 ^ 63) ≤ k ∧ k < 2 ^ 63 ∧ xs.length * k.toNat ≤ sizeLine ∧
  ∀ p, H p = none → Q (.ref p) (upd H p (.lst (List.replicate k.toNat xs).flatten))
theorem len_rep {α : Type} (xs : List α) (k : Nat) : (List.replicate k xs).flatten.length = k * xs.length := by
  induction k with
  | zero => simp
  | succ k ih => rw [List.replicate_succ, List.flatten_cons, List.length_append, ih, Nat.succ_mul, Nat.add_comm]
theorem op_rep : OpR X (binaryOp .Mult) rRep := by
  intro pins s σ H x y v u Q I rx ry h
  obtain ⟨l, k, xs, rfl, rfl, hH, h1, h2, hz, q⟩ := h
  cases rx
  obtain ⟨t, rfl⟩ := ry
  obtain ⟨z, its, n, r, hl, e⟩ := I.lstM hH
  have hlen : its.toArray.size * k.toNat ≤ sizeLine := by rw [List.size_toArray, ← hl]; exact hz
  have hcap : ¬ its.toArray.size * k.toNat > (2 ^ 63 - 1) / 8 := by
    have : (sizeLine : Nat) ≤ (2 ^ 63 - 1) / 8 := by decide
    (clear I hH h1 h2 hz q z r hl e; omega)
  have hfit : ¬ (!Builtin.List.listFitsIndex k) = true := by
    rw [fitsIndex_both h1 h2]
    exact Bool.false_ne_true
  have hlong : ¬ Builtin.List.listTooLong (its.toArray.size * k.toNat) = true := by
    rw [notLongL hlen]
    exact Bool.false_ne_true
  have hnew : List.foldl (fun x1 x2 => x1 ++ x2) #[] (List.replicate (if its.toArray.isEmpty = true then 0 else k.toNat) its.toArray) = (List.replicate k.toNat its).flatten.toArray := by
    have f0 : ∀ m : Nat, List.foldl (fun x1 x2 => x1 ++ x2) #[] (List.replicate m its.toArray) = (List.replicate m its).flatten.toArray := fun m => by
      have := foldl_rep its m []
      rw [List.nil_append] at this
      exact this
    rw [f0]
    cases its with
    | nil => simp
    | cons a r' => rw [if_neg (by simp)]
  refine wpAny_binaryOp_repeat_ref (T := "list") (U := "int") (by decide) ⟨_, e, rfl⟩ (fun s' => typeIs_int s' k t) noFill_list_mul F.fills_int_mul F.slot_int_rmul repeat_list F.slot_int_index.lookup
    (call_meets F.slot_int_rmul (typeIs_int s k t) F.entry_int_rmul (F.args_int_rmul_2 _ _) (int___rmul___int_list k t l its.toArray n)
      ⟨e, rfl, ⟨_, e, rfl⟩, call_meets F.slot_list_mul ⟨_, e, rfl⟩ F.entry_list_mul (F.args_list_mul_2 _ _) (AutoListH.list___mul___list_int_3 l its.toArray n k t hfit hcap hlong) ⟨e, ?_⟩⟩)
  rw [hnew]
  exact ⟨.ref _, _, I.lnew (t' := s.toks) (r.rep k.toNat) (by rw [len_rep, Nat.mul_comm]; exact hz), rfl, q _ I.fresh⟩
end
section
variable {prog : Program} {w : World} {A : Around} {E : Value → Shared → Prop} {s : Shared}
set_option maxRecDepth 100000 in
end
section
variable {X : Cx}
end
end L2
namespace Att
open PySem PySem.W PySem.Calls PyProof.Rows
theorem ints_of_wellAll {P : Params} {h : Heap} : ∀ (ns : List Int) (vs : List Value), WellAll P h vs (ns.map WData.int) → IntsAre vs ns := by
  intro ns
  induction ns with
  | nil =>
    intro vs w
    rw [List.map_nil] at w
    cases w
    exact .nil
  | cons n ns ih =>
    intro vs w
    rw [List.map_cons] at w
    cases w with
    | cons a b =>
      cases a
      exact .cons _ _ (ih _ b)
theorem script_of {l : OpenLaw} {n : Nat} (hn : l.most = some n) {P : Params} {h : Heap} {args : List WData} {vals : List Value}
    (hpre : l.row.toRowW.claim.pre args = true) (hwl : WellAll P h vals args) :
    ∃ a vs ns, vals = [Value.ref a] ∧ args = [WData.list (ns.map WData.int)] ∧ h.get? a = some { cls := .type "list", data := .seq vs.toArray } ∧ IntsAre vs ns ∧ ns.length ≤ n := by
  have hsh : WShape.hasAll [] args [.list .int] = true := (pre_splitW hpre).1
  have hc : l.pre.holds [] { args := args } = true := (pre_splitW hpre).2
  obtain ⟨d, r, rfl, h1, h2⟩ := hasAllW_cons hsh
  obtain rfl := hasAllW_nil h2
  obtain ⟨xs, rfl, h3⟩ := hasW_list h1
  obtain ⟨ns, rfl⟩ := items_int h3
  have hlen : ns.length ≤ n := by
    unfold OpenLaw.pre at hc
    have h4 : (WTm.not (.lt (.lit (.int (n : Int))) (.len (.arg 0)))).holds [] { args := [.list (ns.map .int)] } = true := by
      have h4 := (holds_andW hc).1
      rw [hn] at h4
      exact h4
    have h5 := condW_of h4 (w_not (w_lt w_lit (w_len_list (w_arg rfl))))
    rw [List.length_map] at h5
    refine Nat.le_of_not_lt fun q => ?_
    have q' : (n : Int) < ((ns.length : Nat) : Int) := by (clear hn h2 h3 h1 hpre hwl hsh hc h4 h5; omega)
    first
      | (rw [decide_eq_true q'] at h5; exact absurd h5 (by decide))
      | (simp at h5; omega)
  cases hwl with
  | cons w1 w2 =>
    cases w2
    cases w1 with
    | list ho hall => exact ⟨_, _, ns, rfl, rfl, ho, ints_of_wellAll ns _ hall, hlen⟩
theorem post_true (l : OpenLaw) (args : List WData) : l.row.toRowW.claim.post args (.bool true) args = true :=
  postW_of (r := l.row.toRowW) (X := (true == true))
    (show WShape.has [] (.bool true) .bool = true by first | rfl | decide | simp [WShape.has, WShape.arms, WShape.armsAll])
    (show (WTm.eq .res (.lit (.bool true))).value [] { args := args, res := some (.bool true), after := args } = some (.bool (true == true)) from w_eq_bool (w_res rfl) w_lit) rfl
theorem attach_call {l : OpenLaw} {n : Nat} {q : Program} {loose : List Str} {XP : (Str → Option Value) → Heap → Prop} {YP : World → Heap → Prop} {d : DefRec}
    (hn : l.most = some n) (hdf : d.params.defaults = [])
    (call : ∀ (w : World) (s₀ s₁ : Shared) (mg mb : Str → Option Value) (fa : Addr) (o : Obj) (pm cd doc : Value) (a : Addr) (vs : List Value) (ns : List Int),
      Ground q loose [] XP w s₀ mg mb s₁.heap → YP w s₁.heap →
      s₁.heap.get? fa = some o → o.data = .func (docDef d.name d.params d.body d.scope pm cd doc) → s₁.heap.CodeRec cd d.name → mg d.name = some (.ref fa) →
      s₁.heap.get? a = some { cls := .type "list", data := .seq vs.toArray } → IntsAre vs ns → ns.length ≤ n → s₁.gens = #[] →
      codeAny (model l.prog w) callerA (.call (.ref fa) ⟨[.ref a], []⟩) (fun r s' => r = .ok (.ret (.bool true)) ∧ OldK s₁.heap s'.heap ∧ s'.os = s₁.os ∧ AllBare s'.gens) s₁) :
    WalkO q loose XP YP l.row.toRowW d [] (fun f vs => PySem.call f vs) := by
  intro w s₀ s₁ mg mb G Y fa o pm cd doc dV kV ho hd hcd hD hmg hg args vals as hpre hlay hrd hwl hlo
  obtain rfl : dV = .none := Dflts.none hD hdf
  obtain rfl : kV = .none := Dflts.noKw hD
  obtain ⟨a, vs, ns, rfl, rfl, hobj, hints, hlen⟩ := script_of hn hpre hwl
  refine enter_call (codeAny_mono (call w s₀ s₁ mg mb fa o pm cd doc a vs ns G Y ho (fd_plain hd) hcd hmg hobj hints hlen hg) fun r s' hq => ?_)
  obtain ⟨rfl, h2, h3, h4⟩ := hq
  exact ⟨.inl ⟨.bool true, .bool true, [], rfl, fun _ => rfl, .bool true, post_true l _, fun _ => ⟨List.Pairwise.nil, fun _ hm => (nomatch hm)⟩⟩, h2, h3, h4⟩
section
variable {prog : Program} {w : World} {A : Around} {E : Value → Shared → Prop} {s : Shared} {K : Frag}
end
end Att
namespace L2
open PySem PySem.Spec PyProof.Rows
theorem vals_ints : ∀ {vs : List Value} {ns : List Int}, IntsAre vs ns → Vals (ns.map V.int) vs
  | _, _, .nil => .nil
  | _, _, .cons n t h => .cons ⟨t, rfl⟩ (vals_ints h)
noncomputable def Only (H : Hp) : Prop := ∀ b, H b = none ∨ ∃ o xs, H b = some (.frz o (.lst xs))
theorem law_call {P : Program} {w : World} {K : PySem.W.Frag} {mg mb : Str → Option Value} {CX : CXT} {k : Nat} {fa a : Addr} {fd : FuncData} {x : Str} {sp : Sp} {s₁ : Shared} {vs : List Value} {ns : List Int}
    (KX : K.In s₁.heap) (hns : s₁.heap.Ns mainGlobals mg) (hb : s₁.heap.Ns builtinsNs mb) (hbb : ∀ x : Str, x ≠ "__name__" → mb x = bootBuiltins x) (hlim : s₁.heap.NoLimit) (hg : s₁.gens = #[])
    (ha : s₁.heap.get? a = some { cls := .type "list", data := .seq vs.toArray }) (hi : IntsAre vs ns) (hl : ns.length ≤ sizeLine) (hr : Room k callerA)
    (F : ∀ base : Heap, K.In base → base.Ns mainGlobals mg → FnOk P w K mg base CX k fa fd [x] sp) (hbind : ∀ (s : Shared) (u : Value), BindsTo s fd ⟨[u], []⟩ [(x, u)])
    (hsp : ∀ H : Hp, Only H → SqL K H a (ns.map V.int) → sp [.ref a] H (fun v _ => v = .bl true) fun _ _ _ => False)
    (hCX : ∀ H e s', CX [] H s₁ (fun _ _ _ => False) e s' → False) :
    codeAny (model P w) callerA (.call (.ref fa) ⟨[.ref a], []⟩) (fun r s' => r = .ok (.ret (.bool true)) ∧ OldK s₁.heap s'.heap ∧ s'.os = s₁.os ∧ AllBare s'.gens) s₁ := by
  have rv := vals_ints hi
  have lenV := hi.length
  -- from an abstract heap in which nothing but the script may be tracked
  have core : ∀ H : Hp, Only H → SqL K H a (ns.map V.int) → HOk P w H s₁.heap → (∀ b, H b ≠ none → b = a) → (H a ≠ none → K.lookup a = none) →
      codeAny (model P w) callerA (.call (.ref fa) ⟨[.ref a], []⟩) (fun r s' => r = .ok (.ret (.bool true)) ∧ OldK s₁.heap s'.heap ∧ s'.os = s₁.os ∧ AllBare s'.gens) s₁ := by
    intro H hO hS hok hA hK
    have base_of : ∀ {b : Addr} {o : Obj}, s₁.heap.get? b = some o → H b = none → (hidT s₁.heap H).get? b = some o := fun e n => hidT_get e n
    have noA : ∀ {b : Addr} {o : Obj} {es : Array DictEntry} {ep : Nat}, s₁.heap.get? b = some o → o.data = .dict es ep → H b = none := fun {b o es ep} e d => by
      cases q : H b with
      | none => rfl
      | some u =>
        have e' : b = a := hA b (by rw [q]; simp)
        subst e'
        rw [ha] at e; cases e
        have d' : Data.seq vs.toArray _ = Data.dict es ep := d
        cases d'
    have nsK : ∀ {b : Addr} {m : Str → Option Value}, s₁.heap.Ns b m → (hidT s₁.heap H).Ns b m := fun {b m} ⟨o, es, ep, e, d, r⟩ => ⟨o, es, ep, base_of e (noA e d), d, r⟩
    have hKb : K.In (hidT s₁.heap H) := fun b o e => base_of (KX b o e) (by
      cases q : H b with
      | none => rfl
      | some u =>
        have e' : b = a := hA b (by rw [q]; simp)
        subst e'
        rw [hK (by rw [q]; simp)] at e; cases e)
    have hM : Mod K mg (hidT s₁.heap H) := ⟨hKb, nsK hns, ⟨mb, nsK hb, hbb⟩, let ⟨mc, h1, h2⟩ := hlim; ⟨mc, nsK h1, h2⟩⟩
    have e0 : Env0 P w K mg (hidT s₁.heap H) callerA [] s₁ H := ⟨rfl, hM, fun b o e => of_hidT e, Nat.le_of_eq (hidT_size _ _), trivial, fun b hb => absurd (show b ∈ ([] : List Addr) from hb) (by simp), hok, .of_eq hg⟩
    refine codeAny_mono ((F _ hKb (nsK hns)).run callerA [] s₁ H ⟨[.ref a], []⟩ [.ref a] [.ref a] _ _ hr e0 (hbind s₁ (.ref a)) (.cons rfl .nil) (hsp H hO hS)) fun r s' h => ?_
    cases r with
    | error e => exact (hCX H e s' h).elim
    | ok fl =>
      cases fl with
      | next => exact False.elim h
      | brk => exact False.elim h
      | cont => exact False.elim h
      | ret u =>
        obtain ⟨v, H', os, bare, un, hok', r', q⟩ := h
        have q' : v = .bl true := q
        subst q'
        obtain rfl : u = Value.bool true := r'
        refine ⟨rfl, OldK.of_keep fun b o e => ?_, os, bare⟩
        cases q : H b with
        | none => exact un.keep b o e q (by intro z; exact absurd (show b ∈ ([] : List Addr) from z) (by simp)) (by simp)
        | some u =>
          rcases hO b with z | ⟨ob, xs, z⟩
          · rw [q] at z; cases z
          · have z2 := un.frzs b ob _ z
            obtain ⟨e1, _⟩ := hok b _ z
            obtain ⟨e2, _⟩ := hok' b _ z2
            rw [e] at e1; cases e1
            exact e2
  cases hk : K.lookup a with
  | some o =>
    -- the script is one of the module's own objects
    have e := KX a o hk
    rw [ha] at e
    cases e
    refine core (fun _ => none) (fun _ => .inl rfl) (.inr ⟨_, vs.toArray, _, hk, rfl, rfl, rfl, by rw [List.size_toArray, lenV]; exact hl, by simpa using rv⟩) (fun b u z => by have z' : (none : Option HO) = some u := z; cases z') (fun b z => absurd rfl z) fun z => absurd rfl z
  | none =>
    refine core (fun b => if b = a then some (.frz { cls := .type "list", data := .seq vs.toArray } (.lst (ns.map V.int))) else none) (fun b => ?_) (.inl (.inr ⟨{ cls := .type "list", data := .seq vs.toArray }, if_pos rfl⟩)) (fun b u z => ?_) (fun b z => ?_) fun _ => hk
    · by_cases hb : b = a
      · exact .inr ⟨_, _, if_pos hb⟩
      · exact .inl (if_neg hb)
    · by_cases hb : b = a
      · have z' := (if_pos hb).symm.trans z
        cases z'
        subst hb
        exact ⟨ha, by rw [List.length_map]; exact hl, vs, _, rv, ha⟩
      · have z' := (if_neg hb).symm.trans z
        cases z'
    · by_cases hb : b = a
      · exact hb
      · exact absurd (if_neg hb) z
end L2
namespace L2
open PySem PySem.Spec PyProof.Rows
theorem walk_of {l : PySem.W.OpenLaw} {n k : Nat} {q : Program} {loose : List Str} {XP : (Str → Option Value) → Heap → Prop} {YP : World → Heap → Prop} {d : DefRec} {K : Params → PySem.W.Frag} {CX : World → CXT} {sp : World → Sp} {x : Str}
    (hn : l.most = some n) (hn2 : n ≤ sizeLine) (hdf : d.params.defaults = []) (hr : Room k callerA)
    (hY : ∀ (w : World) (h : Heap), YP w h → (K w.params).In h)
    (F : ∀ (w : World) (mg : Str → Option Value) (fa : Addr) (h : Heap), (K w.params).In h → h.Ns mainGlobals mg → mg d.name = some (.ref fa) →
      ∃ fd : FuncData, (∀ (s : Shared) (u : Value), BindsTo s fd ⟨[u], []⟩ [(x, u)]) ∧
        ∀ base : Heap, (K w.params).In base → base.Ns mainGlobals mg → FnOk l.prog w (K w.params) mg base (CX w) k fa fd [x] (sp w))
    (hsp : ∀ (w : World) (H : Hp) (a : Addr) (ns : List Int), ns.length ≤ n → Only H → SqL (K w.params) H a (ns.map V.int) → sp w [.ref a] H (fun v _ => v = .bl true) fun _ _ _ => False)
    (hCX : ∀ (w : World) (H : Hp) (s : Shared) (e : Value) (s' : Shared), CX w [] H s (fun _ _ _ => False) e s' → False) :
    PySem.W.WalkO q loose XP YP l.row.toRowW d [] (fun f vs => PySem.call f vs) := by
  refine Att.attach_call hn hdf fun w s₀ s₁ mg mb fa o pm cd doc a vs ns G Y ho hd hcd hmg hobj hints hlen hg => ?_
  have KX := hY w _ Y
  obtain ⟨fd, hb, hF⟩ := F w mg fa _ KX G.T.g hmg
  exact law_call KX G.T.g G.T.b G.T.builtins G.T.nolimit hg hobj hints (Nat.le_trans hlen hn2) hr hF hb (fun H hO hS => hsp w H a ns hlen hO hS) fun H e s' => hCX w H s₁ e s'
end L2
namespace L2
open PySem PySem.Spec PyProof.Rows
noncomputable def defArgs (s : Stmt) : Arguments := match s with
  | .FunctionDef _ a _ _ _ _ _ _ _ _ => a
  | _ => { posonlyargs := [], args := [], vararg := none, kwonlyargs := [], kw_defaults := [], kwarg := none, defaults := [] }
noncomputable def defBody (s : Stmt) : List Stmt := match s with
  | .FunctionDef _ _ b _ _ _ _ _ _ _ => b
  | _ => []
noncomputable def defScope (s : Stmt) : Scope := match s with
  | .FunctionDef _ _ _ _ _ _ sc _ _ _ => sc
  | _ => { kind := .function, names := [], isGenerator := false, isCoroutine := false }
noncomputable abbrev CX0 : CXT := fun _ _ _ _ _ _ => False
noncomputable abbrev E0 : XK := fun _ _ _ => False
theorem pass0 {X : Cx} : Passes CX0 X E0 := fun _ _ _ _ _ _ _ h => h.elim
structure Fun (K : PySem.W.Frag) (x qual : Str) (st : Stmt) (f : Addr) (fd : FuncData) : Prop where
  ex : ∃ (oc : Value) (od : Option Addr) (kV doc pm : Value) (an : Option Addr) (cdv ct : Value) (osl : Array (Option Value)),
    fd = PySem.W.fnOf x qual (defArgs st) (defBody st) (defScope st) .none kV doc pm an cdv ct ∧ K.lookup f = some ⟨oc, od, .func fd, osl⟩ ∧ PySem.W.codeIn K cdv qual = true
  kp : PySem.W.keepIn K (.ref f) = true
section
variable {P : Program} {w : World} {K : PySem.W.Frag} {mg : Str → Option Value} {base : Heap}
theorem Fun.ok {x qual : Str} {st : Stmt} {f : Addr} {fd : FuncData} {N ps : List Str} {k : Nat} {sp : Sp} (F : Fun K x qual st f fd) (S : FnScope N ps (defScope st)) (len : ∀ vs H Q E, sp vs H Q E → vs.length = ps.length)
    (hbody : ∀ (cdv : Value) (A : Around) (outer : List Env) (s : Shared) (H : Hp) (vs : List V) (Q : VK) (E : XK), Room k (A.deeper (envOfC qual (defScope st) s.heap.objs.size f cdv)) → sp vs H Q E →
      ∃ t, PSs (cxOf CX0 P w K mg base N qual (defScope st) f cdv A outer s H E).nox (defBody st) t ∧ t { nx := fun _ H' => Q .non H', rt := Q } (start N vs) H) : FnOk P w K mg base CX0 (k + 1) f fd ps sp := by
  obtain ⟨oc, od, kV, doc, pm, an, cdv, ct, osl, rfl, lk, hcd⟩ := F.ex
  refine fn_of lk hcd S len fun A outer s H vs Q E hr hsp => ?_
  obtain ⟨t, h, q⟩ := hbody cdv A outer s H vs Q E hr hsp
  exact ⟨t, h.nox, q⟩
theorem Fun.binds {x qual : Str} {st : Stmt} {f : Addr} {fd : FuncData} {ps : List Str} (F : Fun K x qual st f fd)
    (h : ∀ (kV doc pm : Value) (an : Option Addr) (cdv ct : Value) (us : List Value), us.length = ps.length → bindArgs (PySem.W.fnOf x qual (defArgs st) (defBody st) (defScope st) .none kV doc pm an cdv ct) ⟨us, []⟩ = pure (ps.zip us)) : Binds K fd ps [] := by
  obtain ⟨oc, od, kV, doc, pm, an, cdv, ct, osl, rfl, lk, hcd⟩ := F.ex
  exact .all (h kV doc pm an cdv ct)
theorem fun_mk {x qual : Str} {st : Stmt} {f : Addr} {oc : Value} {od an : Option Addr} {osl : Array (Option Value)} {kV doc pm cdv ct : Value} (l : K.lookup f = some ⟨oc, od, .func (PySem.W.fnOf x qual (defArgs st) (defBody st) (defScope st) .none kV doc pm an cdv ct), osl⟩)
    (c : PySem.W.codeIn K cdv qual = true) (k : PySem.W.keepIn K (.ref f) = true) : Fun K x qual st f (PySem.W.fnOf x qual (defArgs st) (defBody st) (defScope st) .none kV doc pm an cdv ct) := ⟨⟨oc, od, kV, doc, pm, an, cdv, ct, osl, rfl, l, c⟩, k⟩
end
section
variable {X : Cx}
end
end L2
namespace L2
open PySem PySem.Spec PyProof.Rows
inductive W where
  | non | bl (b : Bool) | int (i : Int) | str (x : Str) | ref (a : Addr) | tup (xs : List W) | scr (ns : List Int)
inductive GO where
  | lst (ws : List W)
  | dct
  | exc (C : Addr)
  | dic (kvs : List (Key × W))
  | ins (C : Addr) (fs : List (Str × W))
  | tbl (ps : Array Value)
noncomputable abbrev Gp := Addr → Option GO
noncomputable def updG (G : Gp) (a : Addr) (g : GO) : Gp := fun b => if b = a then some g else G b
theorem updG_same {G : Gp} {a : Addr} {g : GO} : updG G a g a = some g := by unfold updG; rw [if_pos rfl]
theorem updG_ne {G : Gp} {a b : Addr} {g : GO} (h : b ≠ a) : updG G a g b = G b := by unfold updG; rw [if_neg h]
noncomputable def Scr (K : PySem.W.Frag) (H : Hp) (a : Addr) (ns : List Int) : Prop :=
  (∃ o, H a = some (.frz o (.lst (ns.map V.int)))) ∨
    ∃ (o : Obj) (its : Array Value) (n : Nat), K.lookup a = some o ∧ o.cls = .type "list" ∧ o.dict = none ∧ o.data = .seq its n ∧ its.size ≤ sizeLine ∧ Vals (ns.map V.int) its.toList
theorem Scr.sq {K : PySem.W.Frag} {H : Hp} {a : Addr} {ns : List Int} (h : Scr K H a ns) : SqL K H a (ns.map V.int) := by
  rcases h with ⟨o, h⟩ | h
  · exact .inl (.inr ⟨o, h⟩)
  · exact .inr h
structure TLe (H H1 : Hp) : Prop where
  tup : ∀ a xs, H a = some (.tup xs) → H1 a = some (.tup xs)
  frz : ∀ a o u, H a = some (.frz o u) → H1 a = some (.frz o u)
theorem TLe.refl (H : Hp) : TLe H H := ⟨fun _ _ h => h, fun _ _ _ h => h⟩
theorem TLe.trans {H H1 H2 : Hp} (a : TLe H H1) (b : TLe H1 H2) : TLe H H2 :=
  ⟨fun x xs h => b.tup x xs (a.tup x xs h), fun x o u h => b.frz x o u (a.frz x o u h)⟩
theorem TLe.new {H : Hp} {p : Addr} (hp : H p = none) (o : HO) : TLe H (upd H p o) :=
  ⟨fun _ _ h => by rw [upd_ne (ne_of_none h hp)]; exact h, fun _ _ _ h => by rw [upd_ne (ne_of_none h hp)]; exact h⟩
theorem TLe.lst {H : Hp} {p : Addr} {xs : List V} (hp : H p = some (.lst xs)) (o : HO) : TLe H (upd H p o) :=
  ⟨fun _ _ h => by rw [upd_ne (ne_of h hp (by intro z; cases z))]; exact h, fun _ _ _ h => by rw [upd_ne (ne_of h hp (by intro z; cases z))]; exact h⟩
mutual
inductive Rep (K : PySem.W.Frag) (H : Hp) : W → V → Prop where
  | non : Rep K H .non .non
  | bl (b : Bool) : Rep K H (.bl b) (.bl b)
  | int (i : Int) : Rep K H (.int i) (.int i)
  | str (x : Str) : Rep K H (.str x) (.str x)
  | ref (a : Addr) : Rep K H (.ref a) (.ref a)
  | tup {a : Addr} {ws : List W} {xs : List V} (h : H a = some (.tup xs)) (r : Reps K H ws xs) : Rep K H (.tup ws) (.ref a)
  | scr {a : Addr} {ns : List Int} (h : Scr K H a ns) : Rep K H (.scr ns) (.ref a)
inductive Reps (K : PySem.W.Frag) (H : Hp) : List W → List V → Prop where
  | nil : Reps K H [] []
  | cons {w : W} {v : V} {ws : List W} {vs : List V} (r : Rep K H w v) (rs : Reps K H ws vs) : Reps K H (w :: ws) (v :: vs)
end
section
variable {K : PySem.W.Frag} {H H1 : Hp}
theorem Scr.mono {a : Addr} {ns : List Int} (t : TLe H H1) (h : Scr K H a ns) : Scr K H1 a ns := by
  rcases h with ⟨o, h⟩ | h
  · exact .inl ⟨o, t.frz _ _ _ h⟩
  · exact .inr h
mutual
theorem Rep.mono (t : TLe H H1) : ∀ {w : W} {v : V}, Rep K H w v → Rep K H1 w v
  | _, _, .non => .non
  | _, _, .bl b => .bl b
  | _, _, .int i => .int i
  | _, _, .str x => .str x
  | _, _, .ref a => .ref a
  | _, _, .tup h r => .tup (t.tup _ _ h) (Reps.mono t r)
  | _, _, .scr h => .scr (h.mono t)
theorem Reps.mono (t : TLe H H1) : ∀ {ws : List W} {vs : List V}, Reps K H ws vs → Reps K H1 ws vs
  | _, _, .nil => .nil
  | _, _, .cons r rs => .cons (Rep.mono t r) (Reps.mono t rs)
end
theorem Reps.length : ∀ {ws : List W} {vs : List V}, Reps K H ws vs → ws.length = vs.length
  | _, _, .nil => rfl
  | _, _, .cons _ rs => congrArg (· + 1) rs.length
theorem Reps.append : ∀ {ws us : List W} {vs xs : List V}, Reps K H ws vs → Reps K H us xs → Reps K H (ws ++ us) (vs ++ xs)
  | _, _, _, _, .nil, s => s
  | _, _, _, _, .cons r rs, s => .cons r (rs.append s)
theorem Reps.take : ∀ {ws : List W} {vs : List V} (n : Nat), Reps K H ws vs → Reps K H (ws.take n) (vs.take n)
  | _, _, 0, _ => .nil
  | _, _, _ + 1, .nil => .nil
  | _, _, n + 1, .cons r rs => .cons r (rs.take n)
theorem Reps.drop : ∀ {ws : List W} {vs : List V} (n : Nat), Reps K H ws vs → Reps K H (ws.drop n) (vs.drop n)
  | _, _, 0, r => r
  | _, _, _ + 1, .nil => .nil
  | _, _, n + 1, .cons _ rs => rs.drop n
theorem Reps.get : ∀ {ws : List W} {vs : List V} {i : Nat} {w : W}, Reps K H ws vs → ws[i]? = some w → ∃ v, vs[i]? = some v ∧ Rep K H w v
  | _, _, _, _, .nil, e => by simp at e
  | _, _, 0, _, .cons r _, e => by simp at e; subst e; exact ⟨_, rfl, r⟩
  | _, _, i + 1, w, .cons _ rs, e => by
    obtain ⟨v, h1, h2⟩ := Reps.get (i := i) (w := w) rs (by simpa using e)
    exact ⟨v, by simpa using h1, h2⟩
theorem Reps.ints : ∀ ns : List Int, Reps K H (ns.map W.int) (ns.map V.int)
  | [] => .nil
  | n :: ns => .cons (.int n) (Reps.ints ns)
end
noncomputable abbrev bmV : List Value := [.type "ValueError", .type "Exception", .type "BaseException", .type "object"]
structure XC (K : PySem.W.Frag) (C : Addr) (bm : List Value) : Prop where
  obj : ∀ h : Heap, K.In h → ∃ N nm qn bs hdct sn sub ab col dd k0 k1 k2 k3 k5 mN, h.get? C = some (excClassObj nm qn C N bs bm hdct sn sub ab col dd k0 k1 k2 k3 k5 "ValueError.__new__") ∧ h.Ns N mN ∧ mN "__init__" = none ∧ OwnTail h bmV bm
  mro : ∀ v, PySem.W.mroIn K C v = some ((Value.ref C :: bm).contains v)
structure XQ (K : PySem.W.Frag) (C : Addr) : Prop where
  ga : PySem.W.findIn K (.ref C) "__getattribute__" = some (some (.builtin "BaseException.__getattribute__"))
  gx : PySem.W.findIn K (.ref C) "__getattr__" = some none
  gc : PySem.W.findIn K (.ref C) "__class__" = some (some (.builtin "object.__class__"))
structure XD (K : PySem.W.Frag) (D : Addr) : Prop where
  cls : ∃ cd, PySem.W.clsIn K D = some cd
  ty : PySem.W.typeIn K (.ref D) = some (.type "type")
  ins : PySem.W.instIn K (.ref D) (.type "type") = some true
structure XO (K : PySem.W.Frag) (C : Addr) : Prop where
  c : ∃ bm, XC K C bm
  q : XQ K C
  d : XD K C
noncomputable def GOk (K : PySem.W.Frag) (H : Hp) (a : Addr) : GO → Prop
  | .lst ws => ws.length ≤ 100000 ∧ ∃ xs, H a = some (.lst xs) ∧ Reps K H ws xs
  | .dct => H a = some (.dK [])
  | .exc C => XO K C ∧ H a = some (.ext fun h => ∃ o, h.get? a = some o ∧ o.cls = .ref C)
  | .dic kvs => kvs.length ≤ 100000 ∧ ∃ kvs', H a = some (.dK kvs') ∧ kvs'.map (·.1) = kvs.map (·.1) ∧ Reps K H (kvs.map (·.2)) (kvs'.map (·.2))
  | .ins C fs => fs.length ≤ 100 ∧ ∃ dx fs', H a = some (.ins C dx fs') ∧ fs'.map (·.1) = fs.map (·.1) ∧ Reps K H (fs.map (·.2)) (fs'.map (·.2))
  | .tbl ps => H a = some (.tbl ps)
noncomputable def RelG (K : PySem.W.Frag) (H : Hp) (G : Gp) : Prop := ∀ a g, G a = some g → GOk K H a g
section
variable {K : PySem.W.Frag} {H H1 : Hp} {G : Gp} {p a : Addr} {g : GO}
theorem GOk.has (h : GOk K H a g) : ∃ o, H a = some o := by
  cases g with
  | lst ws => obtain ⟨_, _, e, _⟩ := h; exact ⟨_, e⟩
  | dct => exact ⟨_, h⟩
  | exc C => exact ⟨_, h.2⟩
  | dic kvs => obtain ⟨_, _, e, _⟩ := h; exact ⟨_, e⟩
  | ins C fs => obtain ⟨_, _, _, e, _⟩ := h; exact ⟨_, e⟩
  | tbl ps => exact ⟨_, h⟩
theorem GOk.mono (t : TLe H H1) (e : H1 a = H a) (h : GOk K H a g) : GOk K H1 a g := by
  cases g with
  | lst ws => obtain ⟨l, xs, e1, r⟩ := h; exact ⟨l, xs, e.trans e1, r.mono t⟩
  | dct => exact e.trans h
  | exc C => exact ⟨h.1, e.trans h.2⟩
  | dic kvs => obtain ⟨l, xs, e1, n, r⟩ := h; exact ⟨l, xs, e.trans e1, n, r.mono t⟩
  | ins C fs => obtain ⟨l, dx, xs, e1, n, r⟩ := h; exact ⟨l, dx, xs, e.trans e1, n, r.mono t⟩
  | tbl ps => exact e.trans h
theorem RelG.fresh (h : RelG K H G) (hp : H p = none) : G p = none := by
  cases e : G p with
  | none => rfl
  | some g =>
    obtain ⟨o, e1⟩ := (h p _ e).has
    rw [hp] at e1; cases e1
theorem RelG.upd (h : RelG K H G) (t : TLe H (upd H p o)) (hG : G p = none) : RelG K (L2.upd H p o) G := fun a g e => by
  have hne : a ≠ p := fun z => by rw [z, hG] at e; cases e
  exact (h a g e).mono t (upd_ne hne)
theorem RelG.keep (h : RelG K H G) (hp : H p = none) (o : HO) : RelG K (L2.upd H p o) G := h.upd (TLe.new hp o) (h.fresh hp)
theorem RelG.lay (h : RelG K H G) {o : HO} (t : TLe H (L2.upd H p o)) (n : GOk K (L2.upd H p o) p g) : RelG K (L2.upd H p o) (updG G p g) := fun a g' e => by
  by_cases hb : a = p
  · subst hb
    rw [updG_same] at e; cases e
    exact n
  · rw [updG_ne hb] at e
    exact (h a g' e).mono t (upd_ne hb)
theorem RelG.put (h : RelG K H G) {xs : List V} {ws : List W} (t : TLe H (L2.upd H p (.lst xs))) (r : Reps K H ws xs) (hl : ws.length ≤ 100000) : RelG K (L2.upd H p (.lst xs)) (updG G p (.lst ws)) := h.lay t ⟨hl, xs, upd_same, r.mono t⟩
noncomputable def GLe (G0 G : Gp) : Prop := ∀ a g, G0 a = some g → G a = some g
theorem RelG.le {G0 : Gp} (h : RelG K H G) (l : GLe G0 G) : RelG K H G0 := fun a g e => h a g (l a g e)
theorem GLe.refl (G : Gp) : GLe G G := fun _ _ h => h
theorem GLe.trans {G0 G1 G2 : Gp} (a : GLe G0 G1) (b : GLe G1 G2) : GLe G0 G2 := fun x g h => b x g (a x g h)
theorem GLe.new {g : GO} (hp : G p = none) : GLe G (updG G p g) := fun a u e => by
  rw [updG_ne (fun z => by rw [z, hp] at e; cases e)]; exact e
end
noncomputable abbrev WSt := List (Option W)
noncomputable def RelSt (K : PySem.W.Frag) (H : Hp) (τ : WSt) (σ : St) : Prop := τ.length = σ.length ∧ ∀ (i : Nat) (w : W), τ[i]? = some (some w) → ∃ v, σ[i]? = some (some v) ∧ Rep K H w v
section
variable {K : PySem.W.Frag} {H H1 : Hp} {τ : WSt} {σ : St}
theorem RelSt.mono (t : TLe H H1) (h : RelSt K H τ σ) : RelSt K H1 τ σ := ⟨h.1, fun i w e => let ⟨v, e1, r⟩ := h.2 i w e; ⟨v, e1, r.mono t⟩⟩
theorem RelSt.set (h : RelSt K H τ σ) {w : W} {v : V} (r : Rep K H w v) (i : Nat) : RelSt K H (τ.set i (some w)) (σ.set i (some v)) := by
  refine ⟨by simpa using h.1, fun j u e => ?_⟩
  by_cases hj : i = j
  · subst hj
    by_cases hl : i < τ.length
    · rw [List.getElem?_set_self hl] at e
      cases e
      exact ⟨v, List.getElem?_set_self (by rw [← h.1]; exact hl), r⟩
    · rw [List.getElem?_eq_none (by simpa using hl)] at e; cases e
  · rw [List.getElem?_set_ne hj] at e
    obtain ⟨u', e1, r1⟩ := h.2 j u e
    exact ⟨u', by rw [List.getElem?_set_ne hj]; exact e1, r1⟩
theorem RelSt.start {N : List Str} {ws : List W} {vs : List V} (r : Reps K H ws vs) : RelSt K H (ws.map some ++ List.replicate (N.length - ws.length) none) (L2.start N vs) := by
  unfold L2.start
  refine ⟨by simp [r.length], fun i w e => ?_⟩
  by_cases hi : i < ws.length
  · rw [List.getElem?_append_left (by simpa using hi), List.getElem?_map] at e
    cases e1 : ws[i]? with
    | none => rw [e1] at e; cases e
    | some u =>
      rw [e1] at e; cases e
      obtain ⟨v, e2, rv⟩ := r.get e1
      refine ⟨v, ?_, rv⟩
      rw [List.getElem?_append_left (by simpa [← r.length] using hi), List.getElem?_map, e2]
      rfl
  · rw [List.getElem?_append_right (by simpa using hi), List.getElem?_replicate] at e
    split at e <;> cases e
end
noncomputable abbrev WK := W → Gp → Prop
noncomputable abbrev WE := WSt → Gp → WK → Prop
noncomputable abbrev WT := WSt → Gp → (Bool → Gp → Prop) → Prop
noncomputable abbrev WA := WSt → Gp → (List W → Gp → Prop) → Prop
structure WEnds where
  nx : WSt → Gp → Prop
  rt : WK
  bk : WSt → Gp → Prop := fun _ _ => False
  ct : WSt → Gp → Prop := fun _ _ => False
noncomputable abbrev WS := WEnds → WSt → Gp → Prop
noncomputable abbrev WG := W → WSt → Gp → (WSt → Gp → Prop) → Prop
noncomputable abbrev WGs := List W → WSt → Gp → (WSt → Gp → Prop) → Prop
noncomputable def LEx (K : PySem.W.Frag) (t : WE) : TE := fun σ H Q => ∃ τ G q, RelSt K H τ σ ∧ RelG K H G ∧ t τ G q ∧ ∀ v H1 w G1, TLe H H1 → Rep K H1 w v → RelG K H1 G1 → q w G1 → Q v H1
noncomputable def LTx (K : PySem.W.Frag) (t : WT) : TT := fun σ H Q => ∃ τ G q, RelSt K H τ σ ∧ RelG K H G ∧ t τ G q ∧ ∀ b H1 G1, TLe H H1 → RelG K H1 G1 → q b G1 → Q b H1
noncomputable def LA (K : PySem.W.Frag) (t : WA) : TA := fun σ H Q => ∃ τ G q, RelSt K H τ σ ∧ RelG K H G ∧ t τ G q ∧ ∀ vs H1 ws G1, TLe H H1 → Reps K H1 ws vs → RelG K H1 G1 → q ws G1 → Q vs H1
structure LEnds (K : PySem.W.Frag) (H : Hp) (d : WEnds) (D : Ends) : Prop where
  nx : ∀ σ1 H1 τ1 G1, TLe H H1 → RelSt K H1 τ1 σ1 → RelG K H1 G1 → d.nx τ1 G1 → D.nx σ1 H1
  rt : ∀ v H1 w G1, TLe H H1 → Rep K H1 w v → RelG K H1 G1 → d.rt w G1 → D.rt v H1
  bk : ∀ σ1 H1 τ1 G1, TLe H H1 → RelSt K H1 τ1 σ1 → RelG K H1 G1 → d.bk τ1 G1 → D.bk σ1 H1
  ct : ∀ σ1 H1 τ1 G1, TLe H H1 → RelSt K H1 τ1 σ1 → RelG K H1 G1 → d.ct τ1 G1 → D.ct σ1 H1
noncomputable def LS (K : PySem.W.Frag) (t : WS) : TS := fun D σ H => ∃ τ G d, RelSt K H τ σ ∧ RelG K H G ∧ t d τ G ∧ LEnds K H d D
theorem LEx.el {K : PySem.W.Frag} {t : WE} {σ : St} {H : Hp} {Q : VK} {P : Prop} (h : LEx K t σ H Q) (k : ∀ (τ : WSt) (G : Gp) (q : WK), RelSt K H τ σ → RelG K H G → t τ G q → (∀ v H1 w G1, TLe H H1 → Rep K H1 w v → RelG K H1 G1 → q w G1 → Q v H1) → P) : P := by
  obtain ⟨τ, G, q, a, b, c, d⟩ := h
  exact k τ G q a b c d
theorem LTx.el {K : PySem.W.Frag} {t : WT} {σ : St} {H : Hp} {Q : Bool → Hp → Prop} {P : Prop} (h : LTx K t σ H Q) (k : ∀ (τ : WSt) (G : Gp) (q : Bool → Gp → Prop), RelSt K H τ σ → RelG K H G → t τ G q → (∀ b H1 G1, TLe H H1 → RelG K H1 G1 → q b G1 → Q b H1) → P) : P := by
  obtain ⟨τ, G, q, a, b, c, d⟩ := h
  exact k τ G q a b c d
theorem LA.el {K : PySem.W.Frag} {t : WA} {σ : St} {H : Hp} {Q : List V → Hp → Prop} {P : Prop} (h : LA K t σ H Q) (k : ∀ (τ : WSt) (G : Gp) (q : List W → Gp → Prop), RelSt K H τ σ → RelG K H G → t τ G q → (∀ vs H1 ws G1, TLe H H1 → Reps K H1 ws vs → RelG K H1 G1 → q ws G1 → Q vs H1) → P) : P := by
  obtain ⟨τ, G, q, a, b, c, d⟩ := h
  exact k τ G q a b c d
theorem LS.el {K : PySem.W.Frag} {t : WS} {D : Ends} {σ : St} {H : Hp} {P : Prop} (h : LS K t D σ H) (k : ∀ (τ : WSt) (G : Gp) (d : WEnds), RelSt K H τ σ → RelG K H G → t d τ G → LEnds K H d D → P) : P := by
  obtain ⟨τ, G, q, a, b, c, d⟩ := h
  exact k τ G q a b c d
noncomputable def LG (K : PySem.W.Frag) (t : WG) : TG := fun v σ H Q => ∃ w τ G q, Rep K H w v ∧ RelSt K H τ σ ∧ RelG K H G ∧ t w τ G q ∧ ∀ σ1 H1 τ1 G1, TLe H H1 → RelSt K H1 τ1 σ1 → RelG K H1 G1 → q τ1 G1 → Q σ1 H1
noncomputable def LGs (K : PySem.W.Frag) (t : WGs) : TGs := fun vs σ H Q => ∃ ws τ G q, Reps K H ws vs ∧ RelSt K H τ σ ∧ RelG K H G ∧ t ws τ G q ∧ ∀ σ1 H1 τ1 G1, TLe H H1 → RelSt K H1 τ1 σ1 → RelG K H1 G1 → q τ1 G1 → Q σ1 H1
noncomputable def QE (X : Cx) (e : Expr) (t : WE) : Prop := PE X e (LEx X.K t)
noncomputable def QT (X : Cx) (e : Expr) (t : WT) : Prop := PT X e (LTx X.K t)
noncomputable def QW (X : Cx) (e : Expr) (t : WT) : Prop := PW X e (LTx X.K t)
noncomputable def QA (X : Cx) (es : List Expr) (t : WA) : Prop := PA X es (LA X.K t)
noncomputable def QS (X : Cx) (st : Stmt) (t : WS) : Prop := PS X st (LS X.K t)
noncomputable def QSs (X : Cx) (st : List Stmt) (t : WS) : Prop := PSs X st (LS X.K t)
noncomputable def QG (X : Cx) (e : Expr) (t : WG) : Prop := PG X e (LG X.K t)
noncomputable def QGs (X : Cx) (es : List Expr) (t : WGs) : Prop := PGs X es (LGs X.K t)
section
variable {X : Cx}
theorem PE.imp {e : Expr} {t t' : TE} (h : PE X e t) (f : ∀ σ H Q, t' σ H Q → t σ H Q) : PE X e t' := fun pins s σ H Q I q => h pins s σ H Q I (f _ _ _ q)
theorem PT.imp {e : Expr} {t t' : TT} (h : PT X e t) (f : ∀ σ H Q, t' σ H Q → t σ H Q) : PT X e t' := fun pins s σ H Q I q => h pins s σ H Q I (f _ _ _ q)
theorem PW.imp {e : Expr} {t t' : TT} (h : PW X e t) (f : ∀ σ H Q, t' σ H Q → t σ H Q) : PW X e t' := fun wh pins s σ H Q I q => h wh pins s σ H Q I (f _ _ _ q)
theorem PA.imp {e : List Expr} {t t' : TA} (h : PA X e t) (f : ∀ σ H Q, t' σ H Q → t σ H Q) : PA X e t' := fun pos pins s σ H Q I q => h pos pins s σ H Q I (f _ _ _ q)
theorem PS.imp {e : Stmt} {t t' : TS} (h : PS X e t) (f : ∀ D σ H, t' D σ H → t D σ H) : PS X e t' := fun pins s σ H D I q => h pins s σ H D I (f _ _ _ q)
theorem PSs.imp {e : List Stmt} {t t' : TS} (h : PSs X e t) (f : ∀ D σ H, t' D σ H → t D σ H) : PSs X e t' := fun pins s σ H D I q => h pins s σ H D I (f _ _ _ q)
theorem PG.imp {e : Expr} {t t' : TG} (h : PG X e t) (f : ∀ v σ H Q, t' v σ H Q → t v σ H Q) : PG X e t' := fun pins s σ H v u Q I r q => h pins s σ H v u Q I r (f _ _ _ _ q)
noncomputable def wVar (i : Nat) : WE := fun τ G q => match τ[i]? with | some (some w) => q w G | _ => False
noncomputable def wC (w : W) : WE := fun _ G q => q w G
theorem qe_var (i : Nat) {x : Str} {pos : Pos} (hN : X.N[i]? = some x) (hv : Vis X.env.scope x) (hd : (x == ("__debug__" : Str)) = false := by decide) (hcd : (x == ("__classdict__" : Str)) = false := by decide) : QE X (.Name x pos) (wVar i) := by
  refine (pe_var hN hv hd hcd).imp fun σ H Q z0 => z0.el fun τ G q hs hg ht hQ => ?_
  unfold wVar at ht
  split at ht
  · rename_i w e
    obtain ⟨v, e1, r⟩ := hs.2 i w e
    exact ⟨v, e1, hQ v H w G (TLe.refl H) r hg ht⟩
  · exact ht.elim
theorem qe_const {e : Expr} {v : V} {w : W} (h : PE X e (tC v)) (r : ∀ H, Rep X.K H w v) : QE X e (wC w) :=
  h.imp fun σ H Q z0 => z0.el fun τ G q hs hg ht hQ => hQ v H w G (TLe.refl H) (r H) hg ht
theorem qe_int {i j pos} : QE X (.Constant (.int i) j pos) (wC (.int i)) := qe_const pe_int fun _ => .int i
theorem qe_bl {b j pos} : QE X (.Constant (.bool b) j pos) (wC (.bl b)) := qe_const pe_bl fun _ => .bl b
theorem qe_non {j pos} : QE X (.Constant .none j pos) (wC .non) := qe_const pe_non fun _ => .non
theorem qe_str {x j pos} : QE X (.Constant (.str x) j pos) (wC (.str x)) := qe_const pe_str fun _ => .str x
noncomputable abbrev W2 := W → W → Gp → WK → Prop
noncomputable def LR (K : PySem.W.Frag) (r : W2) : R2 := fun x y H Q => ∃ wx wy G q, Rep K H wx x ∧ Rep K H wy y ∧ RelG K H G ∧ r wx wy G q ∧ ∀ v H1 w G1, TLe H H1 → Rep K H1 w v → RelG K H1 G1 → q w G1 → Q v H1
noncomputable def QOp (X : Cx) (f : Value → Value → Sem Value) (r : W2) : Prop := OpR X f (LR X.K r)
noncomputable def QIx (X : Cx) (r : W2) : Prop := IxR X (LR X.K r)
noncomputable def wOp (r : W2) (ta tb : WE) : WE := fun τ G q => ta τ G fun x G1 => tb τ G1 fun y G2 => r x y G2 q
theorem LEx.op {K : PySem.W.Frag} {r : W2} {ta tb : WE} {σ : St} {H : Hp} {Q : VK} (h : LEx K (wOp r ta tb) σ H Q) : tOp (LR K r) (LEx K ta) (LEx K tb) σ H Q := by
  obtain ⟨τ, G, q, hs, hg, ht, hQ⟩ := h
  refine ⟨τ, G, _, hs, hg, ht, fun v H1 w G1 t1 r1 g1 q1 => ?_⟩
  refine ⟨τ, G1, _, hs.mono t1, g1, q1, fun v2 H2 w2 G2 t2 r2 g2 q2 => ?_⟩
  exact ⟨w, w2, G2, q, r1.mono t2, r2, g2, q2, fun v3 H3 w3 G3 t3 r3 g3 q3 => hQ v3 H3 w3 G3 ((t1.trans t2).trans t3) r3 g3 q3⟩
theorem qe_op {op : Operator} {r : W2} {a b : Expr} {ta tb : WE} {pos : Pos} (ho : QOp X (binaryOp op) r) (ha : QE X a ta) (hb : QE X b tb) : QE X (.BinOp a op b pos) (wOp r ta tb) :=
  (pe_op ho ha hb).imp fun _ _ _ h => h.op
theorem qe_cmp {op : CmpOp} {r : W2} {a b : Expr} {ta tb : WE} {pos : Pos} (ho : QOp X (compareOp op) r) (ha : QE X a ta) (hb : QE X b tb) (hm : behindInMarks op b = false) : QE X (.Compare a [op] [b] pos) (wOp r ta tb) :=
  (pe_cmpR ho ha hb hm).imp fun _ _ _ h => h.op
theorem qe_ix {r : W2} {a b : Expr} {ta tb : WE} {pos : Pos} (ho : QIx X r) (ha : QE X a ta) (hb : QE X b tb) (hs : PlainIx b) : QE X (.Subscript a b pos) (wOp r ta tb) :=
  (pe_ix ho ha hb hs).imp fun _ _ _ h => h.op
noncomputable def wTest (t : WE) : WT := fun τ G q => t τ G fun x G1 => match x with | .bl b => q b G1 | _ => False
theorem LTx.test {K : PySem.W.Frag} {t : WE} {σ : St} {H : Hp} {Q : Bool → Hp → Prop} (h : LTx K (wTest t) σ H Q) : tTest (LEx K t) σ H Q := by
  obtain ⟨τ, G, q, hs, hg, ht, hQ⟩ := h
  refine ⟨τ, G, _, hs, hg, ht, fun v H1 w G1 t1 r1 g1 q1 => ?_⟩
  split at q1
  · rename_i b
    cases r1
    exact ⟨b, rfl, hQ b H1 G1 t1 g1 q1⟩
  · exact q1.elim
theorem qt_cmp {op : CmpOp} {r : W2} {a b : Expr} {ta tb : WE} {pos : Pos} (ho : QOp X (compareOp op) r) (ha : QE X a ta) (hb : QE X b tb) (hm : behindInMarks op b = false) : QT X (.Compare a [op] [b] pos) (wTest (wOp r ta tb)) :=
  (pt_cmpR ho ha hb hm).imp fun σ H Q h => by
    obtain ⟨τ, G, q, hs, hg, ht, hQ⟩ := h.test
    exact LEx.op ⟨τ, G, q, hs, hg, ht, hQ⟩
theorem qt_val {e : Expr} {t : WE} (h : QE X e t) (he : ∀ whole, isTrue e X.env whole = (do let v ← whole; standAt e.pos; holding [v] (truthy v)) := by intro _; rfl) : QT X e (wTest t) :=
  (pt_val h he).imp fun σ H Q h => h.test
noncomputable def wAnd (t u : WT) : WT := fun τ G q => t τ G fun c G1 => if c = true then u τ G1 q else q false G1
noncomputable def wOr (t u : WT) : WT := fun τ G q => t τ G fun c G1 => if c = true then q true G1 else u τ G1 q
noncomputable def wNot (t : WT) : WT := fun τ G q => t τ G fun c G1 => q (!c) G1
theorem qw_and1 {a : Expr} {t : WT} {pos : Pos} (ha : QT X a t) : QW X (.BoolOp .And [a] pos) t := pw_and1 ha
theorem qw_or1 {a : Expr} {t : WT} {pos : Pos} (ha : QT X a t) : QW X (.BoolOp .Or [a] pos) t := pw_or1 ha
theorem qw_and {a b : Expr} {rest : List Expr} {t u : WT} {pos : Pos} (ha : QT X a t) (hb : QW X (.BoolOp .And (b :: rest) pos) u) : QW X (.BoolOp .And (a :: b :: rest) pos) (wAnd t u) :=
  (pw_and ha hb).imp fun σ H Q z0 => z0.el fun τ G q hs hg ht hQ => ⟨τ, G, _, hs, hg, ht, fun c H1 G1 t1 g1 q1 => by
    cases c with
    | true => rw [if_pos rfl] at q1 ⊢; exact ⟨τ, G1, q, hs.mono t1, g1, q1, fun b H2 G2 t2 g2 q2 => hQ b H2 G2 (t1.trans t2) g2 q2⟩
    | false => rw [if_neg Bool.false_ne_true] at q1 ⊢; exact hQ false H1 G1 t1 g1 q1⟩
theorem qw_or {a b : Expr} {rest : List Expr} {t u : WT} {pos : Pos} (ha : QT X a t) (hb : QW X (.BoolOp .Or (b :: rest) pos) u) : QW X (.BoolOp .Or (a :: b :: rest) pos) (wOr t u) :=
  (pw_or ha hb).imp fun σ H Q z0 => z0.el fun τ G q hs hg ht hQ => ⟨τ, G, _, hs, hg, ht, fun c H1 G1 t1 g1 q1 => by
    cases c with
    | true => rw [if_pos rfl] at q1 ⊢; exact hQ true H1 G1 t1 g1 q1
    | false => rw [if_neg Bool.false_ne_true] at q1 ⊢; exact ⟨τ, G1, q, hs.mono t1, g1, q1, fun b H2 G2 t2 g2 q2 => hQ b H2 G2 (t1.trans t2) g2 q2⟩⟩
theorem qt_w {e : Expr} {t : WT} (h : QW X e t) : QT X e t := PW.pt h
theorem qt_not {a : Expr} {t : WT} {pos : Pos} (ha : QT X a t) : QT X (.UnaryOp .Not a pos) (wNot t) :=
  (pt_not ha).imp fun σ H Q z0 => z0.el fun τ G q hs hg ht hQ => ⟨τ, G, _, hs, hg, ht, fun c H1 G1 t1 g1 q1 => hQ (!c) H1 G1 t1 g1 q1⟩
noncomputable def wAndV (ta tb : WE) : WE := fun τ G q => ta τ G fun x G1 => match x with | .bl c => if c = true then tb τ G1 q else q (.bl false) G1 | _ => False
noncomputable def wOrV (ta tb : WE) : WE := fun τ G q => ta τ G fun x G1 => match x with | .bl c => if c = true then q (.bl true) G1 else tb τ G1 q | _ => False
noncomputable def wNotV (ta : WE) : WE := fun τ G q => ta τ G fun x G1 => match x with | .bl c => q (.bl (!c)) G1 | _ => False
theorem qe_one {a : Expr} {op} {t : WE} {pos : Pos} (h : QE X a t) : QE X (.BoolOp op [a] pos) t := pe_one h
theorem qe_and {a b : Expr} {rest : List Expr} {ta tb : WE} {pos : Pos} (ha : QE X a ta) (hb : QE X (.BoolOp .And (b :: rest) pos) tb) : QE X (.BoolOp .And (a :: b :: rest) pos) (wAndV ta tb) :=
  (pe_and ha hb).imp fun σ H Q z0 => z0.el fun τ G q hs hg ht hQ => ⟨τ, G, _, hs, hg, ht, fun v H1 w G1 t1 r1 g1 q1 => by
    split at q1
    · rename_i c
      cases r1
      refine ⟨c, rfl, ?_⟩
      cases c with
      | true => rw [if_pos rfl] at q1 ⊢; exact ⟨τ, G1, q, hs.mono t1, g1, q1, fun v2 H2 w2 G2 t2 r2 g2 q2 => hQ v2 H2 w2 G2 (t1.trans t2) r2 g2 q2⟩
      | false => rw [if_neg Bool.false_ne_true] at q1 ⊢; exact hQ _ H1 _ G1 t1 (.bl false) g1 q1
    · exact q1.elim⟩
noncomputable def wIfE (c : WT) (ta tb : WE) : WE := fun τ G q => c τ G fun b G1 => if b = true then ta τ G1 q else tb τ G1 q
noncomputable def wNil : WA := fun _ G q => q [] G
noncomputable def wCons (ta : WE) (tr : WA) : WA := fun τ G q => ta τ G fun x G1 => tr τ G1 fun xs G2 => q (x :: xs) G2
theorem qa_nil : QA X [] wNil := pa_nil.imp fun σ H Q z0 => z0.el fun τ G q hs hg ht hQ => hQ [] H [] G (TLe.refl H) .nil hg ht
theorem qa_cons {e : Expr} {es : List Expr} {te : WE} {t : WA} (ha : QE X e te) (hr : QA X es t) (hs : starEach (e :: es) X.env = (false, eval e X.env) :: starEach es X.env := by rfl) : QA X (e :: es) (wCons te t) :=
  (pa_cons ha hr hs).imp fun σ H Q z0 => z0.el fun τ G q hs hg ht hQ => ⟨τ, G, _, hs, hg, ht, fun v H1 w G1 t1 r1 g1 q1 =>
    ⟨τ, G1, _, hs.mono t1, g1, q1, fun vs H2 ws G2 t2 r2 g2 q2 => hQ (v :: vs) H2 (w :: ws) G2 (t1.trans t2) (.cons (r1.mono t2) r2) g2 q2⟩⟩
theorem line_le {n : Nat} (h : n ≤ 100000) : n ≤ sizeLine := by rw [sizeLine_eq]; exact Nat.le_trans (by assumption) (Nat.le_of_ble_eq_true rfl)
noncomputable def wTup (t : WA) : WE := fun τ G q => t τ G fun ws G1 => ws.length ≤ 100000 ∧ q (.tup ws) G1
noncomputable def wLst (t : WA) : WE := fun τ G q => t τ G fun ws G1 => ws.length ≤ 100000 ∧ ∀ p, G1 p = none → q (.ref p) (updG G1 p (.lst ws))
theorem qe_tup {es : List Expr} {x1} {t : WA} {pos : Pos} (h : QA X es t) : QE X (.Tuple es x1 pos) (wTup t) :=
  (pe_tup h).imp fun σ H Q z0 => z0.el fun τ G q hs hg ht hQ => ⟨τ, G, _, hs, hg, ht, fun vs H1 ws G1 t1 r1 g1 q1 =>
    ⟨by rw [← r1.length]; exact line_le q1.1, fun p hp => hQ _ _ _ G1 (t1.trans (TLe.new hp _)) (.tup upd_same (r1.mono (TLe.new hp _))) (g1.keep hp _) q1.2⟩⟩
theorem qe_lst {es : List Expr} {t : WA} {pos : Pos} (h : QA X es t) : QE X (.List es pos) (wLst t) :=
  (pe_lst h).imp fun σ H Q z0 => z0.el fun τ G q hs hg ht hQ => ⟨τ, G, _, hs, hg, ht, fun vs H1 ws G1 t1 r1 g1 q1 =>
    ⟨by rw [← r1.length]; exact line_le q1.1, fun p hp => hQ _ _ _ _ (t1.trans (TLe.new hp _)) (.ref p) (g1.put (TLe.new hp _) r1 q1.1) (q1.2 p (g1.fresh hp))⟩⟩
noncomputable def wNext : WS := fun d τ G => d.nx τ G
noncomputable def wSeq (t u : WS) : WS := fun d τ G => t { d with nx := u d } τ G
theorem LEnds.mono {K : PySem.W.Frag} {H H1 : Hp} {d : WEnds} {D : Ends} (l : LEnds K H d D) (t : TLe H H1) : LEnds K H1 d D :=
  ⟨fun σ2 H2 τ2 G2 t2 => l.nx σ2 H2 τ2 G2 (t.trans t2), fun v H2 w G2 t2 => l.rt v H2 w G2 (t.trans t2), fun σ2 H2 τ2 G2 t2 => l.bk σ2 H2 τ2 G2 (t.trans t2), fun σ2 H2 τ2 G2 t2 => l.ct σ2 H2 τ2 G2 (t.trans t2)⟩
theorem qss_nil : QSs X [] wNext := pss_nil.imp fun D σ H z0 => z0.el fun τ G d hs hg ht l => l.nx σ H τ G (TLe.refl H) hs hg ht
theorem qss_cons {st : Stmt} {rest : List Stmt} {t u : WS} (h1 : QS X st t) (h2 : QSs X rest u) : QSs X (st :: rest) (wSeq t u) :=
  (pss_cons h1 h2).imp fun D σ H z0 => z0.el fun τ G d hs hg ht l => ⟨τ, G, _, hs, hg, ht, ⟨fun σ1 H1 τ1 G1 t1 s1 g1 q1 => ⟨τ1, G1, d, s1, g1, q1, l.mono t1⟩, l.rt, l.bk, l.ct⟩⟩
theorem qss_one {st : Stmt} {t : WS} (h1 : QS X st t) : QSs X [st] t := pss_one h1
noncomputable def wDrop (te : WE) : WS := fun d τ G => te τ G fun _ G1 => d.nx τ G1
theorem qs_expr {e : Expr} {te : WE} {pos : Pos} (he : QE X e te) (hs : swapsWith e none pos.line X.env = pure false := by rfl) : QS X (.Expr e pos) (wDrop te) :=
  (ps_expr he hs).imp fun D σ H z0 => z0.el fun τ G d hs hg ht l => ⟨τ, G, _, hs, hg, ht, fun v H1 w G1 t1 r1 g1 q1 => l.nx σ H1 τ G1 t1 (hs.mono t1) g1 q1⟩
noncomputable def wRet (te : WE) : WS := fun d τ G => te τ G d.rt
theorem qs_ret {e : Expr} {te : WE} {pos : Pos} (he : QE X e te) : QS X (.Return (some e) pos) (wRet te) :=
  (ps_ret he).imp fun D σ H z0 => z0.el fun τ G d hs hg ht l => ⟨τ, G, _, hs, hg, ht, fun v H1 w G1 t1 r1 g1 q1 => l.rt v H1 w G1 t1 r1 g1 q1⟩
noncomputable def wIf (c : WT) (t u : WS) : WS := fun d τ G => c τ G fun b G1 => if b = true then t d τ G1 else u d τ G1
theorem qs_if {c : Expr} {a b : List Stmt} {tc : WT} {t u : WS} {pos : Pos} (hc : QT X c tc) (ha : QSs X a t) (hb : QSs X b u) : QS X (.If c a b pos) (wIf tc t u) :=
  (ps_if hc ha hb).imp fun D σ H z0 => z0.el fun τ G d hs hg ht l => ⟨τ, G, _, hs, hg, ht, fun c H1 G1 t1 g1 q1 => by
    cases c with
    | true => rw [if_pos rfl] at q1 ⊢; exact ⟨τ, G1, d, hs.mono t1, g1, q1, l.mono t1⟩
    | false => rw [if_neg Bool.false_ne_true] at q1 ⊢; exact ⟨τ, G1, d, hs.mono t1, g1, q1, l.mono t1⟩⟩
noncomputable def hName (i : Nat) : WG := fun w τ G q => q (τ.set i (some w)) G
theorem qg_name (i : Nat) {x : Str} {pos : Pos} (hN : X.N.Nodup) (hi : X.N[i]? = some x) (hx : Loc X.env.scope x) (hf : X.fn x = true ∨ X.env.scope.names.lookup x = some .local := by first | exact .inl rfl | exact .inr rfl | assumption) : QG X (.Name x pos) (hName i) :=
  (pg_name hN hi hx hf).imp fun v σ H Q ⟨w, τ, G, q, r, hs, hg, ht, hQ⟩ => hQ _ H _ G (TLe.refl H) (hs.set r i) hg ht
noncomputable def hNil : WGs := fun ws τ G q => match ws with | [] => q τ G | _ => False
noncomputable def hCons (t : WG) (u : WGs) : WGs := fun ws τ G q => match ws with | w :: r => t w τ G fun τ1 G1 => u r τ1 G1 q | [] => False
noncomputable def hTup (n : Nat) (t : WGs) : WG := fun w τ G q => match w with | .tup ws => ws.length = n ∧ t ws τ G q | _ => False
noncomputable def wAsg (te : WE) (g : WG) : WS := fun d τ G => te τ G fun x G1 => g x τ G1 d.nx
theorem qs_set (i : Nat) {x : Str} {e : Expr} {te : WE} {pos' pos : Pos} (hN : X.N.Nodup) (hi : X.N[i]? = some x) (hx : Loc X.env.scope x) (he : QE X e te) (hs : swapsWith e (some (.Name x pos')) pos.line X.env = pure false := by rfl) (hf : X.fn x = true ∨ X.env.scope.names.lookup x = some .local := by first | exact .inl rfl | exact .inr rfl | assumption) :
    QS X (.Assign [.Name x pos'] e pos) (wAsg te (hName i)) :=
  (ps_set hN hi hx he hs hf).imp fun D σ H z0 => z0.el fun τ G d hs hg ht l =>
    ⟨τ, G, _, hs, hg, ht, fun v H1 w G1 t1 r1 g1 q1 => l.nx _ H1 _ G1 t1 ((hs.mono t1).set r1 i) g1 q1⟩
end
end L2
namespace L2
open PySem PySem.Spec PyProof.Rows
section
variable {X : Cx}
noncomputable abbrev WX := Value → Gp → Prop
noncomputable abbrev WSp := List W → Gp → WK → WX → Prop
noncomputable def LSp (K : PySem.W.Frag) (sp : WSp) : Sp := fun vs H Q E => ∃ ws G q e, Reps K H ws vs ∧ RelG K H G ∧ sp ws G q e ∧ (∀ v H1 w G1, TLe H H1 → Rep K H1 w v → RelG K H1 G1 → q w G1 → Q v H1) ∧
  ∀ c d H1 G1, TLe H H1 → RelG K H1 G1 → e c G1 → E c d H1
noncomputable abbrev WFn (P : Program) (w : World) (K : PySem.W.Frag) (mg : Str → Option Value) (base : Heap) (k : Nat) (f : Addr) (fd : FuncData) (ps : List Str) (sp : WSp) : Prop := FnOk P w K mg base CX0 k f fd ps (LSp K sp)
noncomputable def wCall (sp : WSp) (dws : List W) (t : WA) : WE := fun τ G q => t τ G fun ws G1 => sp (ws ++ dws) G1 q fun _ _ => False
theorem LEx.call {K : PySem.W.Frag} {sp : WSp} {dws : List W} {dvs : List V} {t : WA} {σ : St} {H : Hp} {Q : VK} {E : XK} (hd : ∀ H, Reps K H dws dvs) (h : LEx K (wCall sp dws t) σ H Q) : tCall (LSp K sp) dvs E (LA K t) σ H Q := by
  obtain ⟨τ, G, q, hs, hg, ht, hQ⟩ := h
  exact ⟨τ, G, _, hs, hg, ht, fun vs H1 ws G1 t1 r1 g1 q1 => ⟨ws ++ dws, G1, q, _, r1.append (hd H1), g1, q1, fun v H2 w G2 t2 => hQ v H2 w G2 (t1.trans t2), fun _ _ _ _ _ _ z => z.elim⟩⟩
theorem qe_call {k : Nat} {f : Addr} {fd : FuncData} {ps : List Str} {sp : WSp} {x : Str} {p pos : Pos} {e : Expr} {es : List Expr} {t : WA} (F : WFn X.prog X.w X.K X.mg X.base k f fd ps sp) (hr : Room k X.A) (hg : Gl X x) (hm : X.mg x = some (.ref f))
    (hk : PySem.W.keepIn X.K (.ref f) = true) (hb : Binds X.K fd ps []) (ha : QA X (e :: es) t) (hdb : (x == ("__debug__" : Str)) = false := by decide)
    (he : starEach (e :: es) X.env = (false, eval e X.env) :: starEach es X.env := by rfl) (hpl : (backTo pos (starEach es X.env)).any (·.1) = false := by rfl) : QE X (.Call (.Name x p) (e :: es) [] pos) (wCall sp [] t) :=
  (pe_call F hr hg hm hk hb .nil pass0 ha hdb he hpl).imp fun _ _ _ h => h.call fun _ => .nil
noncomputable def wStart (N : List Str) (ws : List W) : WSt := ws.map some ++ List.replicate (N.length - ws.length) none
theorem WFn.none {P : Program} {w : World} {K : PySem.W.Frag} {mg : Str → Option Value} {base : Heap} {k : Nat} {f : Addr} {fd : FuncData} {ps : List Str} {sp : WSp} (h : ∀ ws G q e, ¬ sp ws G q e) : WFn P w K mg base k f fd ps sp :=
  ⟨fun _ _ _ _ ⟨_, _, _, _, _, _, z, _⟩ => absurd z (h _ _ _ _), fun _ _ _ _ _ _ _ _ _ _ _ _ _ ⟨_, _, _, _, _, _, z, _⟩ => absurd z (h _ _ _ _)⟩
theorem fn3 {P : Program} {w : World} {K : PySem.W.Frag} {mg : Str → Option Value} {base : Heap} {x qual : Str} {st : Stmt} {f : Addr} {fd : FuncData} {N ps : List Str} {k : Nat} {sp : WSp} (F : Fun K x qual st f fd) (S : FnScope N ps (defScope st)) (len : ∀ ws G q e, sp ws G q e → ws.length = ps.length)
    (hbody : ∀ (cdv : Value) (A : Around) (outer : List Env) (s : Shared) (H : Hp) (E : XK), Room k (A.deeper (envOfC qual (defScope st) s.heap.objs.size f cdv)) →
      ∃ t, QSs (cxOf CX0 P w K mg base N qual (defScope st) f cdv A outer s H E).nox (defBody st) t ∧
        ∀ (ws : List W) (G : Gp) (q : WK) (e : WX), sp ws G q e → t { nx := fun _ G1 => ∃ G0, GLe G0 G1 ∧ q .non G0, rt := fun w G1 => ∃ G0, GLe G0 G1 ∧ q w G0 } (wStart N ws) G) : WFn P w K mg base (k + 1) f fd ps sp := by
  refine F.ok S (fun vs H Q E ⟨ws, G, q, e, r, g, z, _⟩ => by rw [← r.length]; exact len _ _ _ _ z) (fun cdv A outer s H vs Q E hr ⟨ws, G, q, e, r, g, z, hQ, _⟩ => ?_)
  obtain ⟨t, ht, hq⟩ := hbody cdv A outer s H E hr
  exact ⟨_, ht, _, G, _, RelSt.start r, g, hq ws G q e z, ⟨fun σ1 H1 τ1 G1 t1 s1 g1 ⟨G0, l, q1⟩ => hQ .non H1 .non G0 t1 .non (g1.le l) q1, fun v H1 w G1 t1 r1 g1 ⟨G0, l, q1⟩ => hQ v H1 w G0 t1 r1 (g1.le l) q1, fun _ _ _ _ _ _ _ z => z.elim, fun _ _ _ _ _ _ _ z => z.elim⟩⟩
noncomputable def LCall (K : PySem.W.Frag) (r : List W → Gp → WK → Prop) : List V → Hp → VK → Prop := fun vs H Q => ∃ ws G q, Reps K H ws vs ∧ RelG K H G ∧ r ws G q ∧ ∀ v H1 w G1, TLe H H1 → Rep K H1 w v → RelG K H1 G1 → q w G1 → Q v H1
noncomputable def QCall (X : Cx) (f : Value) (r : List W → Gp → WK → Prop) : Prop := CallR X f (LCall X.K r)
noncomputable def wCB (r : List W → Gp → WK → Prop) (t : WA) : WE := fun τ G q => t τ G fun ws G1 => r ws G1 q
theorem LEx.cb {K : PySem.W.Frag} {r : List W → Gp → WK → Prop} {t : WA} {σ : St} {H : Hp} {Q : VK} (h : LEx K (wCB r t) σ H Q) : tCB (LCall K r) (LA K t) σ H Q := by
  obtain ⟨τ, G, q, hs, hg, ht, hQ⟩ := h
  exact ⟨τ, G, _, hs, hg, ht, fun vs H1 ws G1 t1 r1 g1 q1 => ⟨ws, G1, q, r1, g1, q1, fun v H2 w G2 t2 => hQ v H2 w G2 (t1.trans t2)⟩⟩
theorem qe_callB {id : String} {r : List W → Gp → WK → Prop} {x : Str} {p pos : Pos} {e : Expr} {es : List Expr} {t : WA} (hc : QCall X (.builtin id) r) (hg : Gl X x) (hm : X.mg x = none) (hv : bootBuiltins x = some (.builtin id)) (ha : QA X (e :: es) t)
    (hn : x ≠ "__name__" := by decide) (hdb : (x == ("__debug__" : Str)) = false := by decide)
    (he : starEach (e :: es) X.env = (false, eval e X.env) :: starEach es X.env := by rfl) (hpl : (backTo pos (starEach es X.env)).any (·.1) = false := by rfl) : QE X (.Call (.Name x p) (e :: es) [] pos) (wCB r t) :=
  (pe_callB hc hg hm hv ha hn hdb he hpl).imp fun _ _ _ h => h.cb
theorem qe_callTy {T : String} {r : List W → Gp → WK → Prop} {x : Str} {p pos : Pos} {e : Expr} {es : List Expr} {t : WA} (hc : QCall X (.type T) r) (hg : Gl X x) (hm : X.mg x = none) (hv : bootBuiltins x = some (.type T)) (ha : QA X (e :: es) t)
    (hn : x ≠ "__name__" := by decide) (hdb : (x == ("__debug__" : Str)) = false := by decide)
    (he : starEach (e :: es) X.env = (false, eval e X.env) :: starEach es X.env := by rfl) (hpl : (backTo pos (starEach es X.env)).any (·.1) = false := by rfl) : QE X (.Call (.Name x p) (e :: es) [] pos) (wCB r t) :=
  (pe_callTy hc hg hm hv ha hn hdb he hpl).imp fun _ _ _ h => h.cb
theorem Reps.one {K : PySem.W.Frag} {H : Hp} {w : W} {vs : List V} (r : Reps K H [w] vs) : ∃ v, vs = [v] ∧ Rep K H w v := by
  cases r with
  | cons r rs => cases rs; exact ⟨_, rfl, r⟩
theorem Reps.two {K : PySem.W.Frag} {H : Hp} {w u : W} {vs : List V} (r : Reps K H [w, u] vs) : ∃ v x, vs = [v, x] ∧ Rep K H w v ∧ Rep K H u x := by
  cases r with
  | cons r rs =>
    obtain ⟨x, rfl, r2⟩ := rs.one
    exact ⟨_, _, rfl, r, r2⟩
noncomputable def cLen : List W → Gp → WK → Prop := fun ws G q => match ws with
  | [.tup xs] => q (.int xs.length) G
  | [.scr ns] => q (.int ns.length) G
  | [.ref a] => ∃ xs, G a = some (.lst xs) ∧ q (.int xs.length) G
  | _ => False
theorem q_len : QCall X (.builtin "len") cLen := by
  intro pins s σ H xs us Q I r ⟨ws, G, q, rw', g, h, hQ⟩
  unfold cLen at h
  split at h
  · rename_i ys
    obtain ⟨v, rfl, r1⟩ := rw'.one
    cases r1 with
    | tup hh rr => exact call_len_seq pins s σ H _ us Q I r ⟨_, _, rfl, .inr (SqT.of hh), hQ _ H _ G (TLe.refl H) (by rw [rr.length]; exact .int _) g h⟩
  · rename_i ns
    obtain ⟨v, rfl, r1⟩ := rw'.one
    cases r1 with
    | scr hh => exact call_len_seq pins s σ H _ us Q I r ⟨_, _, rfl, .inl hh.sq, hQ _ H _ G (TLe.refl H) (by rw [List.length_map]; exact .int _) g h⟩
  · rename_i a
    obtain ⟨ys, e, h⟩ := h
    obtain ⟨v, rfl, r1⟩ := rw'.one
    cases r1
    obtain ⟨_, zs, e1, rr⟩ := g a _ e
    exact call_len_seq pins s σ H _ us Q I r ⟨_, _, rfl, .inl (SqL.of e1), hQ _ H _ G (TLe.refl H) (by rw [rr.length]; exact .int _) g h⟩
  · exact h.elim
noncomputable def cTuple : List W → Gp → WK → Prop := fun ws G q => match ws with
  | [.tup xs] => q (.tup xs) G
  | [.ref a] => ∃ xs, G a = some (.lst xs) ∧ q (.tup xs) G
  | _ => False
theorem q_tuple : QCall X (.type "tuple") cTuple := by
  intro pins s σ H xs us Q I r ⟨ws, G, q, rw', g, h, hQ⟩
  unfold cTuple at h
  split at h
  · rename_i ys
    obtain ⟨v, rfl, r1⟩ := rw'.one
    cases r1 with
    | tup hh rr => exact call_tuple_of pins s σ H _ us Q I r ⟨_, _, rfl, .inr ⟨SqT.of hh, hQ _ H _ G (TLe.refl H) (.tup hh rr) g h⟩⟩
  · rename_i a
    obtain ⟨ys, e, h⟩ := h
    obtain ⟨v, rfl, r1⟩ := rw'.one
    cases r1
    obtain ⟨_, zs, e1, rr⟩ := g a _ e
    exact call_tuple_of pins s σ H _ us Q I r ⟨_, _, rfl, .inl ⟨SqL.of e1, fun l hl => hQ _ _ _ G (TLe.new hl _) (.tup upd_same (rr.mono (TLe.new hl _))) (g.keep hl _) h⟩⟩
  · exact h.elim
noncomputable def cList : List W → Gp → WK → Prop := fun ws G q => match ws with
  | [.tup xs] => xs.length ≤ 100000 ∧ ∀ p, G p = none → q (.ref p) (updG G p (.lst xs))
  | [.ref a] => ∃ xs, G a = some (.lst xs) ∧ ∀ p, G p = none → q (.ref p) (updG G p (.lst xs))
  | _ => False
noncomputable def cInt : List W → Gp → WK → Prop := fun ws G q => match ws with
  | [.int i] => q (.int i) G
  | [.bl b] => q (.int (if b then 1 else 0)) G
  | _ => False
theorem q_int : QCall X (.type "int") cInt := by
  intro pins s σ H xs us Q I r ⟨ws, G, q, rw', g, h, hQ⟩
  unfold cInt at h
  split at h
  · obtain ⟨v, rfl, r1⟩ := rw'.one
    cases r1
    exact call_int1 pins s σ H _ us Q I r (.inl ⟨_, rfl, hQ _ H _ G (TLe.refl H) (.int _) g h⟩)
  · obtain ⟨v, rfl, r1⟩ := rw'.one
    cases r1
    exact call_int1 pins s σ H _ us Q I r (.inr ⟨_, rfl, hQ _ H _ G (TLe.refl H) (.int _) g h⟩)
  · exact h.elim
noncomputable def cMax : List W → Gp → WK → Prop := fun ws G q => match ws with
  | [.int i, .int j] => q (.int (if j > i then j else i)) G
  | _ => False
noncomputable def vAdd : W2 := fun x y G q => match x, y with
  | .int i, .int j => q (.int (i + j)) G
  | .tup xs, .tup ys => xs.length + ys.length ≤ 100000 ∧ q (.tup (xs ++ ys)) G
  | .ref a, .ref b => ∃ xs ys, G a = some (.lst xs) ∧ G b = some (.lst ys) ∧ xs.length + ys.length ≤ 100000 ∧ ∀ p, G p = none → q (.ref p) (updG G p (.lst (xs ++ ys)))
  | _, _ => False
theorem cat0 {pins : List (Addr × Obj)} {σ : St} {H : Hp} {s : Shared} {a b : Addr} {ys : List V} {Q : VK} (I : Inv X pins σ H s) (ha : H a = some (.tup [])) (hb : H b = some (.tup ys)) (q : Q (.ref b) H) : wpAny (model X.prog X.w) X.A (binaryOp .Add (.ref a) (.ref b)) (EP X pins σ Q) X.xe s := by
  obtain ⟨its, r1, p1, _⟩ := I.tuple (SqT.of ha)
  obtain ⟨its2, r2, p2, _⟩ := I.tuple (SqT.of hb)
  cases r1
  obtain ⟨⟨cls, dd, data, sl⟩, ho, hc, n, hd⟩ := id p1
  obtain ⟨⟨cls2, dd2, data2, sl2⟩, ho2, hc2, n2, hd2⟩ := id p2
  simp only at hc hd hc2 hd2
  subst hc hd hc2 hd2
  exact concat_meets ⟨_, ho, rfl⟩ ⟨_, ho2, rfl⟩ noFill_tuple_add seq_tuple_add PySem.F.slot_tuple_add PySem.F.entry_tuple_add (PySem.F.args_tuple_add_2 _ _)
    (tuple_addW0 a b #[] its2.toArray n n2 dd dd2 sl sl2 rfl) ⟨ho, ho2, ⟨.ref b, H, I, rfl, q⟩⟩
theorem q_add : QOp X (binaryOp .Add) vAdd := by
  intro pins s σ H x y v u Q I rx ry ⟨wx, wy, G, q, r1, r2, g, h, hQ⟩
  unfold vAdd at h
  split at h
  · cases r1
    cases r2
    exact op_add pins s σ H _ _ v u Q I rx ry ⟨_, _, rfl, rfl, hQ _ H _ G (TLe.refl H) (.int _) g h⟩
  · cases r1 with
    | @tup a ws xs ha ra =>
      cases r2 with
      | @tup b us ys hb rb =>
        cases xs with
        | nil =>
          cases ra
          cases rx
          cases ry
          exact cat0 I ha hb (hQ _ H _ G (TLe.refl H) (.tup hb rb) g h.2)
        | cons x0 xr =>
          refine op_catT pins s σ H _ _ v u Q I rx ry ⟨a, b, _, _, rfl, rfl, SqT.of ha, SqT.of hb, by simp, by rw [← ra.length, ← rb.length]; exact line_le h.1, fun e => ?_, fun _ p hp => ?_⟩
          · subst e
            cases rb
            have h2 := h.2
            rw [List.append_nil] at h2
            exact hQ _ H _ G (TLe.refl H) (.tup ha ra) g h2
          · exact hQ _ _ _ G (TLe.new hp _) (.tup upd_same ((ra.append rb).mono (TLe.new hp _))) (g.keep hp _) h.2
  · obtain ⟨xs, ys, ea, eb, hl, h⟩ := h
    cases r1
    cases r2
    obtain ⟨_, xs', ha, ra⟩ := g _ _ ea
    obtain ⟨_, ys', hb, rb⟩ := g _ _ eb
    refine op_cat pins s σ H _ _ v u Q I rx ry ⟨_, _, _, _, rfl, rfl, ha, hb, by rw [← ra.length, ← rb.length]; exact line_le hl, fun p hp => ?_⟩
    exact hQ _ _ _ _ (TLe.new hp _) (.ref p) (g.put (TLe.new hp _) (ra.append rb) (by rw [List.length_append]; exact hl)) (h p (g.fresh hp))
  · exact h.elim
noncomputable def vInt (C : Int → Int → Prop) (f : Int → Int → W) : W2 := fun x y G q => match x, y with
  | .int i, .int j => C i j ∧ q (f i j) G
  | _, _ => False
theorem q_rint {f : Value → Value → Sem Value} {C : Int → Int → Prop} {g : Int → Int → Int} (h : OpR X f (rI C fun i j => .int (g i j))) : QOp X f (vInt C fun i j => .int (g i j)) := by
  intro pins s σ H x y v u Q I rx ry ⟨wx, wy, G, q, r1, r2, gg, hh, hQ⟩
  unfold vInt at hh
  split at hh
  · cases r1
    cases r2
    exact h pins s σ H _ _ v u Q I rx ry ⟨_, _, rfl, rfl, hh.1, hQ _ H _ G (TLe.refl H) (.int _) gg hh.2⟩
  · exact hh.elim
noncomputable def vInt0 (f : Int → Int → W) : W2 := fun x y G q => match x, y with
  | .int i, .int j => q (f i j) G
  | _, _ => False
theorem q_rbl {f : Value → Value → Sem Value} {g : Int → Int → Bool} (h : OpR X f (rI0 fun i j => .bl (g i j))) : QOp X f (vInt0 fun i j => .bl (g i j)) := by
  intro pins s σ H x y v u Q I rx ry ⟨wx, wy, G, q, r1, r2, gg, hh, hQ⟩
  unfold vInt0 at hh
  split at hh
  · cases r1
    cases r2
    exact h pins s σ H _ _ v u Q I rx ry ⟨_, _, rfl, rfl, hQ _ H _ G (TLe.refl H) (.bl _) gg hh⟩
  · exact hh.elim
noncomputable abbrev vMod : W2 := vInt (fun _ j => 0 < j) fun i j => .int (i % j)
theorem q_mod : QOp X (binaryOp .Mod) vMod := q_rint op_mod
noncomputable abbrev vLe : W2 := vInt0 fun i j => .bl (decide (i ≤ j))
noncomputable abbrev vGt : W2 := vInt0 fun i j => .bl (decide (j < i))
theorem q_le : QOp X (compareOp .LtE) vLe := q_rbl op_le
theorem q_gt : QOp X (compareOp .Gt) vGt := q_rbl op_gt
noncomputable def rIx3 : W2 := fun x y G q => match x, y with
  | .tup xs, .int i => ∃ w, atI xs i = some w ∧ q w G
  | .scr ns, .int i => ∃ n, atI ns i = some n ∧ q (.int n) G
  | .ref a, .int i => ∃ xs w, G a = some (.lst xs) ∧ atI xs i = some w ∧ q w G
  | _, _ => False
theorem Reps.at {K : PySem.W.Frag} {H : Hp} {ws : List W} {vs : List V} {i : Int} {w : W} (r : Reps K H ws vs) (e : atI ws i = some w) : ∃ v, atI vs i = some v ∧ Rep K H w v := by
  unfold atI at e ⊢
  rw [r.length] at e
  cases h : ixN vs.length i with
  | none => rw [h] at e; cases e
  | some j =>
    rw [h] at e
    exact r.get e
theorem atI_map {α β : Type} (f : α → β) (xs : List α) (i : Int) : atI (xs.map f) i = (atI xs i).map f := by
  unfold atI
  rw [List.length_map]
  cases ixN xs.length i with
  | none => rfl
  | some j => simp
theorem q_ix : QIx X rIx3 := by
  intro value slice pins s σ H x y v u Q I rx ry ⟨wx, wy, G, q, r1, r2, g, h, hQ⟩ hsl
  unfold rIx3 at h
  split at h
  · obtain ⟨w, e, h⟩ := h
    cases r1 with
    | tup hh rr =>
      cases r2
      obtain ⟨v', e', r'⟩ := rr.at e
      exact ix_tup value slice pins s σ H _ _ v u Q I rx ry ⟨_, _, _, v', rfl, rfl, SqT.of hh, e', hQ _ H _ G (TLe.refl H) r' g h⟩ hsl
  · obtain ⟨n, e, h⟩ := h
    cases r1 with
    | scr hh =>
      cases r2
      exact ix_list value slice pins s σ H _ _ v u Q I rx ry ⟨_, _, _, .int n, rfl, rfl, hh.sq, by rw [atI_map, e]; rfl, hQ _ H _ G (TLe.refl H) (.int n) g h⟩ hsl
  · obtain ⟨xs, w, ea, e, h⟩ := h
    cases r1
    cases r2
    obtain ⟨_, zs, e1, rr⟩ := g _ _ ea
    obtain ⟨v', e', r'⟩ := rr.at e
    exact ix_list value slice pins s σ H _ _ v u Q I rx ry ⟨_, _, _, v', rfl, rfl, SqL.of e1, e', hQ _ H _ G (TLe.refl H) r' g h⟩ hsl
  · exact h.elim
end
end L2
namespace L2
open PySem PySem.Spec PyProof.Rows
mutual
noncomputable def W.flat : W → Bool
  | .tup xs => W.flats xs
  | .ref _ => false
  | .scr _ => false
  | _ => true
noncomputable def W.flats : List W → Bool
  | [] => true
  | x :: xs => W.flat x && W.flats xs
end
mutual
noncomputable def W.dep : W → Nat
  | .tup xs => W.deps xs + 1
  | _ => 0
noncomputable def W.deps : List W → Nat
  | [] => 0
  | x :: xs => max (W.dep x) (W.deps xs)
end
mutual
noncomputable def W.eq : W → W → Bool
  | .non, .non => true
  | .bl a, .bl b => a == b
  | .bl a, .int j => (if a then 1 else 0) == j
  | .int i, .bl b => i == (if b then 1 else 0)
  | .int i, .int j => i == j
  | .str x, .str y => x == y
  | .tup xs, .tup ys => W.eqs xs ys
  | _, _ => false
noncomputable def W.eqs : List W → List W → Bool
  | [], [] => true
  | x :: xs, y :: ys => W.eq x y && W.eqs xs ys
  | _, _ => false
end
mutual
theorem W.eq_refl : ∀ w : W, w.flat = true → w.eq w = true
  | .non, _ => by simp [W.eq]
  | .bl b, _ => by simp [W.eq]
  | .int i, _ => by simp [W.eq]
  | .str x, _ => by simp [W.eq]
  | .tup xs, h => by
    have h' : W.flats xs = true := by simpa [W.flat] using h
    simpa [W.eq] using W.eqs_refl xs h'
  | .ref _, h => by simp [W.flat] at h
  | .scr _, h => by simp [W.flat] at h
theorem W.eqs_refl : ∀ ws : List W, W.flats ws = true → W.eqs ws ws = true
  | [], _ => by simp [W.eqs]
  | x :: xs, h => by
    have h' : x.flat = true ∧ W.flats xs = true := by simpa [W.flats] using h
    simp [W.eqs, W.eq_refl x h'.1, W.eqs_refl xs h'.2]
end
mutual
theorem Rep.inj {K : PySem.W.Frag} {H : Hp} : ∀ {w u : W} {v : V}, w.flat = true → u.flat = true → Rep K H w v → Rep K H u v → w = u := by
  intro w u v h1 h2 r1 r2
  cases r1 with
  | non => cases r2; rfl
  | bl _ => cases r2; rfl
  | int _ => cases r2; rfl
  | str _ => cases r2; rfl
  | ref _ => simp [W.flat] at h1
  | scr _ => simp [W.flat] at h1
  | tup e1 r1 =>
    cases r2 with
    | ref _ => simp [W.flat] at h2
    | scr _ => simp [W.flat] at h2
    | tup e2 r2 =>
      rw [e1] at e2; cases e2
      rw [Reps.inj (by simpa [W.flat] using h1) (by simpa [W.flat] using h2) r1 r2]
theorem Reps.inj {K : PySem.W.Frag} {H : Hp} : ∀ {ws us : List W} {vs : List V}, W.flats ws = true → W.flats us = true → Reps K H ws vs → Reps K H us vs → ws = us := by
  intro ws us vs h1 h2 r1 r2
  cases r1 with
  | nil => cases r2; rfl
  | cons r1 s1 =>
    cases r2 with
    | cons r2 s2 =>
      simp only [W.flats, Bool.and_eq_true] at h1 h2
      rw [Rep.inj h1.1 h2.1 r1 r2, Reps.inj h1.2 h2.2 s1 s2]
end
theorem W.flats_get : ∀ {ws : List W} {j : Nat} {w : W}, W.flats ws = true → ws[j]? = some w → w.flat = true
  | [], _, _, _, e => by simp at e
  | x :: xs, 0, w, h, e => by
    have h' : x.flat = true ∧ W.flats xs = true := by simpa [W.flats] using h
    simp at e; subst e; exact h'.1
  | x :: xs, j + 1, w, h, e => by
    have h' : x.flat = true ∧ W.flats xs = true := by simpa [W.flats] using h
    exact W.flats_get h'.2 (by simpa using e)
theorem W.deps_get : ∀ {ws : List W} {j : Nat} {w : W}, ws[j]? = some w → w.dep ≤ W.deps ws
  | [], _, _, e => by simp at e
  | x :: xs, 0, w, e => by simp at e; subst e; simp [W.deps]; omega
  | x :: xs, j + 1, w, e => by
    have := W.deps_get (ws := xs) (j := j) (w := w) (by simpa using e)
    simp only [W.deps]; (clear e; omega)
theorem W.eqs_iff : ∀ (ws us : List W), W.eqs ws us = true ↔ ws.length = us.length ∧ ∀ (j : Nat) (a b : W), ws[j]? = some a → us[j]? = some b → W.eq a b = true
  | [], [] => by simp [W.eqs]
  | [], _ :: _ => by simp [W.eqs]
  | _ :: _, [] => by simp [W.eqs]
  | x :: xs, y :: ys => by
    rw [W.eqs, Bool.and_eq_true, W.eqs_iff xs ys]
    constructor
    · rintro ⟨h1, h2, h3⟩
      refine ⟨by simp [h2], fun j a b ea eb => ?_⟩
      cases j with
      | zero => simp at ea eb; subst ea eb; exact h1
      | succ j => exact h3 j a b (by simpa using ea) (by simpa using eb)
    · rintro ⟨h1, h2⟩
      exact ⟨h2 0 x y rfl rfl, by simpa using h1, fun j a b ea eb => h2 (j + 1) a b (by simpa using ea) (by simpa using eb)⟩
noncomputable def eqAtJ (ws us : List W) (j : Nat) : Bool := match ws[j]?, us[j]? with | some a, some b => W.eq a b | _, _ => true
theorem eqs_range (ws us : List W) : ((List.range (min ws.length us.length)).all (eqAtJ ws us) && (ws.length == us.length)) = W.eqs ws us := by
  rw [Bool.eq_iff_iff, Bool.and_eq_true, W.eqs_iff, List.all_eq_true, beq_iff_eq]
  constructor
  · rintro ⟨h1, h2⟩
    refine ⟨h2, fun j a b ea eb => ?_⟩
    have hj : j < ws.length := (List.getElem?_eq_some_iff.mp ea).1
    have := h1 j (List.mem_range.mpr (by (clear h1 ea eb; omega)))
    unfold eqAtJ at this
    rw [ea, eb] at this
    exact this
  · rintro ⟨h1, h2⟩
    refine ⟨fun j _ => ?_, h1⟩
    unfold eqAtJ
    split
    · rename_i a b ea eb; exact h2 j a b ea eb
    · rfl
section
variable {X : Cx} {pins : List (Addr × Obj)} {σ : St} {H : Hp} {s : Shared}
theorem Inv.tupH {a : Addr} {xs : List V} (I : Inv X pins σ H s) (h : H a = some (.tup xs)) : ∃ its : List Value, Vals xs its ∧ s.heap.IsTuple a its.toArray ∧ xs.length ≤ sizeLine := I.tuple (SqT.of h)
theorem eq_rep (I : Inv X pins σ H s) : ∀ (n : Nat) (A : Around) {w1 w2 : W} {v1 v2 : V} {u1 u2 : Value}, w1.dep < n → w1.flat = true → w2.flat = true → A.units + n < cLine → Rep X.K H w1 v1 → Rep X.K H w2 v2 → RelV v1 u1 → RelV v2 u2 →
    SeqAt.EqAt A s u1 u2 (w1.eq w2) ∧ SeqAt.RcAt A s u1 u2 (w1.eq w2) ∧ SeqAt.RcNeAt A s u1 u2 (!(w1.eq w2)) := by
  intro n
  induction n with
  | zero => intro A w1 w2 v1 v2 u1 u2 h; (clear I; omega)
  | succ n ih =>
    intro A w1 w2 v1 v2 u1 u2 hd f1 f2 hu r1 r2 q1 q2
    have hu0 : A.units < cLine := by (clear I ih f1 f2 r1 r2 q1 q2; omega)
    have hui : A.in1.units + n < cLine := by show A.units + 1 + n < cLine; (clear I ih hd f1 f2 r1 r2 q1 q2 hu0; omega)
    cases r1 with
    | ref a => simp [W.flat] at f1
    | scr a => simp [W.flat] at f1
    | non =>
      cases (show u1 = Value.none from q1)
      cases r2 with
      | ref a => simp [W.flat] at f2
      | scr a => simp [W.flat] at f2
      | non => cases (show u2 = Value.none from q2); exact ⟨by simpa [W.eq] using SeqAt.EqAt.same _, by simpa [W.eq] using SeqAt.RcAt.none_none, by simpa [W.eq] using SeqAt.RcNeAt.none_none⟩
      | bl b => cases (show u2 = Value.bool b from q2); exact ⟨by simpa [W.eq] using SeqAt.EqAt.none_bool b, by simpa [W.eq] using SeqAt.RcAt.none_bool b, by simpa [W.eq] using SeqAt.RcNeAt.none_bool b⟩
      | int b => obtain ⟨t, rfl⟩ := q2; exact ⟨by simpa [W.eq] using SeqAt.EqAt.none_int b t, by simpa [W.eq] using SeqAt.RcAt.none_int b t, by simpa [W.eq] using SeqAt.RcNeAt.none_int b t⟩
      | str b => obtain ⟨t, rfl⟩ := q2; exact ⟨by simpa [W.eq] using SeqAt.EqAt.none_str b t, by simpa [W.eq] using SeqAt.RcAt.none_str b t, by simpa [W.eq] using SeqAt.RcNeAt.none_str b t⟩
      | tup h r =>
        cases (show u2 = Value.ref _ from q2)
        obtain ⟨its, _, p, _⟩ := Inv.tupH I h
        exact ⟨by simpa [W.eq] using SeqAt.EqAt.none_tuple p hu0, by simpa [W.eq] using SeqAt.RcAt.none_tuple p hu0, by simpa [W.eq] using SeqAt.RcNeAt.none_tuple p hu0⟩
    | bl a =>
      cases (show u1 = Value.bool a from q1)
      cases r2 with
      | ref a => simp [W.flat] at f2
      | scr a => simp [W.flat] at f2
      | non => cases (show u2 = Value.none from q2); exact ⟨by simpa [W.eq] using SeqAt.EqAt.bool_none a, by simpa [W.eq] using SeqAt.RcAt.bool_none a, by simpa [W.eq] using SeqAt.RcNeAt.bool_none a⟩
      | bl b => cases (show u2 = Value.bool b from q2); exact ⟨by simpa [W.eq] using SeqAt.EqAt.bool_bool a b, by simpa [W.eq] using SeqAt.RcAt.bool_bool a b, by simpa [W.eq] using SeqAt.RcNeAt.bool_bool a b⟩
      | int b => obtain ⟨t, rfl⟩ := q2; exact ⟨by simpa [W.eq] using SeqAt.EqAt.bool_int a b t, by simpa [W.eq] using SeqAt.RcAt.bool_int a b t, by simpa [W.eq] using SeqAt.RcNeAt.bool_int a b t⟩
      | str b => obtain ⟨t, rfl⟩ := q2; exact ⟨by simpa [W.eq] using SeqAt.EqAt.bool_str a b t, by simpa [W.eq] using SeqAt.RcAt.bool_str a b t, by simpa [W.eq] using SeqAt.RcNeAt.bool_str a b t⟩
      | tup h r =>
        cases (show u2 = Value.ref _ from q2)
        obtain ⟨its, _, p, _⟩ := Inv.tupH I h
        exact ⟨by simpa [W.eq] using SeqAt.EqAt.bool_tuple a p hu0, by simpa [W.eq] using SeqAt.RcAt.bool_tuple a p hu0, by simpa [W.eq] using SeqAt.RcNeAt.bool_tuple a p hu0⟩
    | int a =>
      obtain ⟨ta, rfl⟩ := q1
      cases r2 with
      | ref a => simp [W.flat] at f2
      | scr a => simp [W.flat] at f2
      | non => cases (show u2 = Value.none from q2); exact ⟨by simpa [W.eq] using SeqAt.EqAt.int_none a ta, by simpa [W.eq] using SeqAt.RcAt.int_none a ta, by simpa [W.eq] using SeqAt.RcNeAt.int_none a ta⟩
      | bl b => cases (show u2 = Value.bool b from q2); exact ⟨by simpa [W.eq] using SeqAt.EqAt.int_bool a ta b, by simpa [W.eq] using SeqAt.RcAt.int_bool a ta b, by simpa [W.eq] using SeqAt.RcNeAt.int_bool a ta b⟩
      | int b => obtain ⟨t, rfl⟩ := q2; exact ⟨by simpa [W.eq] using SeqAt.EqAt.int_int a ta b t, by simpa [W.eq] using SeqAt.RcAt.int_int a ta b t, by simpa [W.eq] using SeqAt.RcNeAt.int_int a ta b t⟩
      | str b => obtain ⟨t, rfl⟩ := q2; exact ⟨by simpa [W.eq] using SeqAt.EqAt.int_str a ta b t, by simpa [W.eq] using SeqAt.RcAt.int_str a ta b t, by simpa [W.eq] using SeqAt.RcNeAt.int_str a ta b t⟩
      | tup h r =>
        cases (show u2 = Value.ref _ from q2)
        obtain ⟨its, _, p, _⟩ := Inv.tupH I h
        exact ⟨by simpa [W.eq] using SeqAt.EqAt.int_tuple a ta p hu0, by simpa [W.eq] using SeqAt.RcAt.int_tuple a ta p hu0, by simpa [W.eq] using SeqAt.RcNeAt.int_tuple a ta p hu0⟩
    | str a =>
      obtain ⟨ta, rfl⟩ := q1
      cases r2 with
      | ref a => simp [W.flat] at f2
      | scr a => simp [W.flat] at f2
      | non => cases (show u2 = Value.none from q2); exact ⟨by simpa [W.eq] using SeqAt.EqAt.str_none a ta, by simpa [W.eq] using SeqAt.RcAt.str_none a ta, by simpa [W.eq] using SeqAt.RcNeAt.str_none a ta⟩
      | bl b => cases (show u2 = Value.bool b from q2); exact ⟨by simpa [W.eq] using SeqAt.EqAt.str_bool a ta b, by simpa [W.eq] using SeqAt.RcAt.str_bool a ta b, by simpa [W.eq] using SeqAt.RcNeAt.str_bool a ta b⟩
      | int b => obtain ⟨t, rfl⟩ := q2; exact ⟨by simpa [W.eq] using SeqAt.EqAt.str_int a ta b t, by simpa [W.eq] using SeqAt.RcAt.str_int a ta b t, by simpa [W.eq] using SeqAt.RcNeAt.str_int a ta b t⟩
      | str b => obtain ⟨t, rfl⟩ := q2; exact ⟨by simpa [W.eq] using SeqAt.EqAt.str_str a ta b t, by simpa [W.eq] using SeqAt.RcAt.str_str a ta b t, by simpa [W.eq] using SeqAt.RcNeAt.str_str a ta b t⟩
      | tup h r =>
        cases (show u2 = Value.ref _ from q2)
        obtain ⟨its, _, p, _⟩ := Inv.tupH I h
        exact ⟨by simpa [W.eq] using SeqAt.EqAt.str_tuple a ta p hu0, by simpa [W.eq] using SeqAt.RcAt.str_tuple a ta p hu0, by simpa [W.eq] using SeqAt.RcNeAt.str_tuple a ta p hu0⟩
    | @tup a ws xs h r =>
      cases (show u1 = Value.ref _ from q1)
      obtain ⟨its, rv, p, _⟩ := Inv.tupH I h
      cases r2 with
      | ref a => simp [W.flat] at f2
      | scr a => simp [W.flat] at f2
      | non => cases (show u2 = Value.none from q2); exact ⟨by simpa [W.eq] using SeqAt.EqAt.tuple_none p hu0, by simpa [W.eq] using SeqAt.RcAt.tuple_none p hu0, by simpa [W.eq] using SeqAt.RcNeAt.tuple_none p hu0⟩
      | bl b => cases (show u2 = Value.bool b from q2); exact ⟨by simpa [W.eq] using SeqAt.EqAt.tuple_bool b p hu0, by simpa [W.eq] using SeqAt.RcAt.tuple_bool b p hu0, by simpa [W.eq] using SeqAt.RcNeAt.tuple_bool b p hu0⟩
      | int b => obtain ⟨t, rfl⟩ := q2; exact ⟨by simpa [W.eq] using SeqAt.EqAt.tuple_int b t p hu0, by simpa [W.eq] using SeqAt.RcAt.tuple_int b t p hu0, by simpa [W.eq] using SeqAt.RcNeAt.tuple_int b t p hu0⟩
      | str b => obtain ⟨t, rfl⟩ := q2; exact ⟨by simpa [W.eq] using SeqAt.EqAt.tuple_str b t p hu0, by simpa [W.eq] using SeqAt.RcAt.tuple_str b t p hu0, by simpa [W.eq] using SeqAt.RcNeAt.tuple_str b t p hu0⟩
      | @tup b us ys h2 r2 =>
        cases (show u2 = Value.ref _ from q2)
        obtain ⟨its2, rv2, p2, _⟩ := Inv.tupH I h2
        have g1 : W.flats ws = true := by simpa [W.flat] using f1
        have g2 : W.flats us = true := by simpa [W.flat] using f2
        have hd' : W.deps ws < n := by simp only [W.dep] at hd; (clear I ih hu hu0 hui h r f1 q1 rv p h2 r2 f2 q2 rv2 p2 g1 g2; omega)
        have e1 : its.length = ws.length := by rw [← rv.length, r.length]
        have e2 : its2.length = us.length := by rw [← rv2.length, r2.length]
        have he : ∀ j (h1 : j < its.toArray.size) (h2 : j < its2.toArray.size), SeqAt.EqAt A.in1 s its.toArray[j] its2.toArray[j] (eqAtJ ws us j) := fun j j1 j2 => by
          rw [List.size_toArray] at j1 j2
          have ea : ws[j]? = some ws[j] := List.getElem?_eq_getElem (by (clear I ih hu hu0 hui h r hd f1 q1 rv p h2 r2 f2 q2 rv2 p2 g1 g2 hd' e2 j2; omega))
          have eb : us[j]? = some us[j] := List.getElem?_eq_getElem (by (clear I ih hu hu0 hui h r hd f1 q1 rv p h2 r2 f2 q2 rv2 p2 g1 g2 hd' e1 j1 ea; omega))
          obtain ⟨va, ea1, ra⟩ := r.get ea
          obtain ⟨vb, eb1, rb⟩ := r2.get eb
          obtain ⟨ua, ea2, qa⟩ := rv.get ea1
          obtain ⟨ub, eb2, qb⟩ := rv2.get eb1
          have za : its.toArray[j] = ua := by
            have := (List.getElem?_eq_some_iff.mp ea2).2
            simpa using this
          have zb : its2.toArray[j] = ub := by
            have := (List.getElem?_eq_some_iff.mp eb2).2
            simpa using this
          rw [za, zb]
          have := (ih A.in1 (w1 := ws[j]) (w2 := us[j]) (Nat.lt_of_le_of_lt (W.deps_get ea) hd') (W.flats_get g1 ea) (W.flats_get g2 eb) hui ra rb qa qb).1
          unfold eqAtJ
          rw [ea, eb]
          exact this
        have er := eqs_range ws us
        have c1 := SeqAt.RcAt.tuples p p2 hu0 he
        have c2 := SeqAt.RcNeAt.tuples p p2 hu0 he
        rw [List.size_toArray, List.size_toArray, e1, e2, er] at c1 c2
        have ee : (W.tup ws).eq (W.tup us) = W.eqs ws us := by simp [W.eq]
        rw [ee]
        refine ⟨?_, c1, c2⟩
        by_cases hab : a = b
        · subst hab
          have z := Rep.inj f1 f2 (Rep.tup h r) (Rep.tup h2 r2)
          have t : W.eqs ws us = true := by
            cases z
            exact W.eqs_refl ws g1
          rw [t]
          exact SeqAt.EqAt.same _
        · exact SeqAt.EqAt.of_refs hab c1
end
section
variable {X : Cx}
noncomputable def rEq3 : W2 := fun x y G q => x.flat = true ∧ y.flat = true ∧ x.dep ≤ 150 ∧ q (.bl (x.eq y)) G
noncomputable def rNe3 : W2 := fun x y G q => x.flat = true ∧ y.flat = true ∧ x.dep ≤ 150 ∧ q (.bl (!(x.eq y))) G
theorem q_eq {k : Nat} (hr : Room k X.A) : QOp X (compareOp .Eq) rEq3 := by
  intro pins s σ H x y v u Q I rx ry ⟨wx, wy, G, q, r1, r2, g, ⟨f1, f2, hd, h⟩, hQ⟩
  exact (eq_rep I 151 X.A (by (clear hr I rx ry r1 r2 g f1 f2 h hQ; omega)) f1 f2 (by have := hr.un; (clear hr I rx ry r1 r2 g f1 f2 hd h hQ; omega)) r1 r2 rx ry).2.1 X.prog X.w X.xe _ ⟨.bl _, H, I, rfl, hQ _ H _ G (TLe.refl H) (.bl _) g h⟩
theorem q_ne {k : Nat} (hr : Room k X.A) : QOp X (compareOp .NotEq) rNe3 := by
  intro pins s σ H x y v u Q I rx ry ⟨wx, wy, G, q, r1, r2, g, ⟨f1, f2, hd, h⟩, hQ⟩
  exact (eq_rep I 151 X.A (by (clear hr I rx ry r1 r2 g f1 f2 h hQ; omega)) f1 f2 (by have := hr.un; (clear hr I rx ry r1 r2 g f1 f2 hd h hQ; omega)) r1 r2 rx ry).2.2 X.prog X.w X.xe _ ⟨.bl _, H, I, rfl, hQ _ H _ G (TLe.refl H) (.bl _) g h⟩
noncomputable def rSub3 : W2 := fun x y G q => match x, y with
  | .int i, .int j => q (.int (i - j)) G
  | .bl a, .bl b => q (.int (b2i a - b2i b)) G
  | _, _ => False
theorem q_sub : QOp X (binaryOp .Sub) rSub3 := by
  intro pins s σ H x y v u Q I rx ry ⟨wx, wy, G, q, r1, r2, g, h, hQ⟩
  unfold rSub3 at h
  split at h
  · cases r1
    cases r2
    exact op_sub pins s σ H _ _ v u Q I rx ry ⟨_, _, rfl, rfl, hQ _ H _ G (TLe.refl H) (.int _) g h⟩
  · cases r1
    cases r2
    cases rx
    cases ry
    exact sub_bool ⟨.int _, H, I.tok _, ⟨_, rfl⟩, hQ _ H _ G (TLe.refl H) (.int _) g h⟩
  · exact h.elim
noncomputable def isNon : W → Bool
  | .non => true
  | _ => false
noncomputable def rIsN (neg : Bool) : W2 := fun x y G q => y = .non ∧ q (.bl (neg ^^ isNon x)) G
noncomputable abbrev WO := WSt → Gp → (Option Int → Gp → Prop) → Prop
noncomputable def LO (K : PySem.W.Frag) (t : WO) : TO := fun σ H Q => ∃ τ G q, RelSt K H τ σ ∧ RelG K H G ∧ t τ G q ∧ ∀ o H1 G1, TLe H H1 → RelG K H1 G1 → q o G1 → Q o H1
noncomputable def QO (X : Cx) (e : Option Expr) (t : WO) : Prop := PO X e (LO X.K t)
theorem PO.imp {e : Option Expr} {t t' : TO} (h : PO X e t) (f : ∀ σ H Q, t' σ H Q → t σ H Q) : PO X e t' := fun pins s σ H Q I q => h pins s σ H Q I (f _ _ _ q)
noncomputable def wNoPart : WO := fun _ G q => q none G
noncomputable def wPart (t : WE) : WO := fun τ G q => t τ G fun x G1 => match x with | .int i => q (some i) G1 | _ => False
theorem qo_none : QO X none wNoPart := po_none.imp fun σ H Q ⟨τ, G, q, hs, hg, ht, hQ⟩ => hQ none H G (TLe.refl H) hg ht
theorem qo_some {e : Expr} {te : WE} (h : QE X e te) : QO X (some e) (wPart te) :=
  (po_some h).imp fun σ H Q ⟨τ, G, q, hs, hg, ht, hQ⟩ => ⟨τ, G, _, hs, hg, ht, fun v H1 w G1 t1 r1 g1 q1 => by
    split at q1
    · cases r1
      exact ⟨_, rfl, hQ _ H1 G1 t1 g1 q1⟩
    · exact q1.elim⟩
noncomputable def cutW (xs : List W) (lo hi : Option Int) : List W := (xs.drop (HT.sIx xs.length 0 lo)).take (HT.sIx xs.length xs.length hi - HT.sIx xs.length 0 lo)
theorem Reps.cut {K : PySem.W.Frag} {H : Hp} {ws : List W} {vs : List V} (r : Reps K H ws vs) (lo hi : Option Int) : Reps K H (cutW ws lo hi) (cutV vs lo hi) := by
  unfold cutW cutV
  rw [r.length]
  exact (r.drop _).take _
noncomputable abbrev W3 := W → Option Int → Option Int → Gp → WK → Prop
noncomputable def rSl3 : W3 := fun x lo hi G q => match x with
  | .tup xs => q (.tup (cutW xs lo hi)) G
  | .scr ns => ns.length ≤ 100000 ∧ ∀ p, G p = none → q (.ref p) (updG G p (.lst (cutW (ns.map W.int) lo hi)))
  | .ref a => ∃ xs, G a = some (.lst xs) ∧ ∀ p, G p = none → q (.ref p) (updG G p (.lst (cutW xs lo hi)))
  | _ => False
theorem cutW_length (xs : List W) (lo hi : Option Int) : (cutW xs lo hi).length ≤ xs.length := by
  unfold cutW
  rw [List.length_take, List.length_drop]
  omega
theorem cutW_whole {xs : List W} {lo hi : Option Int} (h : HT.sIx xs.length 0 lo = 0 ∧ HT.sIx xs.length xs.length hi = xs.length) : cutW xs lo hi = xs := by
  unfold cutW
  rw [h.1, h.2, List.drop_zero, Nat.sub_zero, List.take_length]
theorem tup_whole {prog : Program} {w : World} {A : Around} {E : Value → Shared → Prop} {s : Shared} {t sl : Addr} {items : Array Value} {vl vu : Value} {lo hi : Option Int} {Q : Value → Shared → Prop} (ht : IsTup s.heap t items) (hs : s.heap.IsSliceOf sl vl vu .none) (pl : IsPart vl lo) (pu : IsPart vu hi)
    (hw : HT.sIx items.size 0 lo = 0 ∧ HT.sIx items.size items.size hi = items.size) (h : Q (.ref t) s) : wpAny (model prog w) A (getItem (.ref t) (.ref sl)) Q E s := by
  obtain ⟨os, hos, hcs, hds⟩ := id hs
  have hTs : s.TypeIs (.ref sl) "slice" := ⟨os, hos, hcs⟩
  unfold getItem
  try with_reducible refine wpAny_holding ?_
  first | refine wpAny_bind (wpAny_pure ?_) | skip
  refine wpAny_bind (wpAny_sequenceKey ht.typeIs (by decide) ?_)
  refine wpAny_bind (wpAny_callSpecial?_slot (name := Str.ofString "__getitem__") ht.typeIs PyProof.Rows.slot_tuple_getitem
    (wpAny_call_entry PyProof.Rows.slot_tuple_getitem ht.typeIs entry_tuple_getitem ?_ (args_tuple_getitem _ _)))
  show wpAny _ _ (Builtin.Tuple.tupleItemsOf (.ref t) >>= _) _ _ s
  refine wpAny_bind (tupleItemsOf_ ht ?_)
  refine wpAny_bind (wpAny_typeOf hTs ?_)
  rw [if_pos (by decide)]
  refine wpAny_bind (HT.sliceApplied_gen hs pl pu ?_)
  have hyes : (((HT.sIx items.size 0 lo : Nat) : Int) == 0 && (1 : Int) == 1 && (HT.sIx items.size items.size hi - HT.sIx items.size 0 lo) == items.size) = true := by
    rw [hw.1, hw.2]; simp
  show wpAny _ _ (if (((HT.sIx items.size 0 lo : Nat) : Int) == 0 && (1 : Int) == 1 && (HT.sIx items.size items.size hi - HT.sIx items.size 0 lo) == items.size) = true then _ else _) _ _ s
  rw [if_pos hyes]
  refine wpAny_bind ?_
  show wpAny _ _ (typeOf (.ref t) >>= _) _ _ s
  refine wpAny_bind (wpAny_typeOf ht.typeIs (wpAny_pure ?_))
  rw [if_pos (by simp)]
  exact wpAny_bind (wpAny_rule (wpAny_pure ⟨_, rfl, wpAny_pure h⟩))
noncomputable def LSl (K : PySem.W.Frag) (r : W3) : V → Option Int → Option Int → Hp → VK → Prop := fun x lo hi H Q => ∃ w G q, Rep K H w x ∧ RelG K H G ∧ r w lo hi G q ∧ ∀ v H1 w G1, TLe H H1 → Rep K H1 w v → RelG K H1 G1 → q w G1 → Q v H1
theorem q_sl : SlR X (LSl X.K rSl3) := by
  intro pins s σ H x v vl vu lo hi sl Q I rx hs pl pu ⟨w, G, q, r, g, h, hQ⟩
  unfold rSl3 at h
  split at h
  · cases r with
    | @tup a ws xs hh rr =>
      by_cases hw : HT.sIx xs.length 0 lo = 0 ∧ HT.sIx xs.length xs.length hi = xs.length
      · cases rx
        obtain ⟨its, rv, ht, hz⟩ := I.tuple (SqT.of hh)
        have hlen : its.toArray.size = xs.length := by rw [List.size_toArray]; exact rv.length.symm
        refine ⟨"tuple", _, PyProof.Rows.slot_tuple_getitem.lookup, ht.typeIs, ?_⟩
        refine tup_whole ht hs pl pu (by rw [hlen]; exact hw) ⟨.ref a, H, I, rfl, ?_⟩
        rw [cutW_whole (by rw [rr.length]; exact hw)] at h
        exact hQ _ H _ G (TLe.refl H) (.tup hh rr) g h
      · exact sl_tup pins s σ H _ v vl vu lo hi sl Q I rx hs pl pu ⟨a, xs, rfl, SqT.of hh, hw, fun p hp => hQ _ _ _ G (TLe.new hp _) (.tup upd_same ((rr.cut lo hi).mono (TLe.new hp _))) (g.keep hp _) h⟩
  · rename_i ns
    cases r with
    | scr hh =>
      refine sl_list pins s σ H _ v vl vu lo hi sl Q I rx hs pl pu ⟨_, _, rfl, hh.sq, fun p hp => hQ _ _ _ _ (TLe.new hp _) (.ref p) (g.put (TLe.new hp _) ((Reps.ints ns).cut lo hi) ?_) (h.2 p (g.fresh hp))⟩
      exact Nat.le_trans (cutW_length _ _ _) (by rw [List.length_map]; exact h.1)
  · obtain ⟨xs, e, h⟩ := h
    cases r
    obtain ⟨hl, zs, e1, rr⟩ := g _ _ e
    exact sl_list pins s σ H _ v vl vu lo hi sl Q I rx hs pl pu ⟨_, zs, rfl, SqL.of e1, fun p hp => hQ _ _ _ _ (TLe.new hp _) (.ref p) (g.put (TLe.new hp _) (rr.cut lo hi) (Nat.le_trans (cutW_length _ _ _) hl)) (h p (g.fresh hp))⟩
  · exact h.elim
noncomputable def wSl (te : WE) (tl th : WO) : WE := fun τ G q => te τ G fun x G1 => tl τ G1 fun l G2 => th τ G2 fun u G3 => rSl3 x l u G3 q
theorem boot_isi : bootBuiltins "isinstance" = some (.builtin "isinstance") := by decide +kernel
noncomputable def tyN (G : Gp) : W → Option String
  | .non => some "NoneType"
  | .bl _ => some "bool"
  | .int _ => some "int"
  | .str _ => some "str"
  | .tup _ => some "tuple"
  | .ref a => match G a with | some (.lst _) => some "list" | some .dct => some "dict" | some (.dic _) => some "dict" | _ => none
  | .scr _ => none
noncomputable def subN : String → String → Bool
  | "int", "int" => true
  | "bool", "int" => true
  | "bool", "bool" => true
  | "tuple", "tuple" => true
  | "list", "list" => true
  | "str", "str" => true
  | _, _ => false
noncomputable def isiT (T : String) : Prop := T = "int" ∨ T = "bool" ∨ T = "tuple" ∨ T = "list" ∨ T = "str"
theorem kit_of {K : PySem.W.Frag} {t T : String} (ht : t = "NoneType" ∨ t = "bool" ∨ t = "int" ∨ t = "str" ∨ t = "tuple" ∨ t = "list" ∨ t = "dict") (hT : isiT T) : PySem.W.kitOne K (.type t) (.type T) = some (subN t T) := by
  rcases ht with rfl | rfl | rfl | rfl | rfl | rfl | rfl <;> rcases hT with rfl | rfl | rfl | rfl | rfl <;> first | rfl | kernel_rfl | decide +kernel
noncomputable def wIsi (T : String) (te : WE) : WE := fun τ G q => te τ G fun x G1 => match tyN G1 x with | some t => q (.bl (subN t T)) G1 | none => False
theorem tyOf_rep {K : PySem.W.Frag} {H : Hp} {G : Gp} {w : W} {v : V} {t : String} (g : RelG K H G) (r : Rep K H w v) (e : tyN G w = some t) : TyOf K H v (.type t) ∧ (t = "NoneType" ∨ t = "bool" ∨ t = "int" ∨ t = "str" ∨ t = "tuple" ∨ t = "list" ∨ t = "dict") := by
  unfold tyN at e
  cases r with
  | non => cases e; exact ⟨.non, by simp⟩
  | bl b => cases e; exact ⟨.bl b, by simp⟩
  | int i => cases e; exact ⟨.int i, by simp⟩
  | str x => cases e; exact ⟨.str x, by simp⟩
  | tup h _ => cases e; exact ⟨.tup h, by simp⟩
  | scr h => cases e
  | ref a =>
    simp only at e
    split at e
    · rename_i ws e1
      cases e
      obtain ⟨_, xs, e2, _⟩ := g a _ e1
      exact ⟨.lst e2, by simp⟩
    · rename_i e1
      cases e
      exact ⟨.dK (g a _ e1), by simp⟩
    · rename_i kvs e1
      cases e
      obtain ⟨_, kvs', e2, _⟩ := g a _ e1
      exact ⟨.dK e2, by simp⟩
    · cases e
theorem q_isi {T : String} (hT : isiT T) {pins : List (Addr × Obj)} {σ : St} {H : Hp} {s : Shared} {v : V} {u : Value} {w : W} {G : Gp} {q : WK} {Q : VK} (I : Inv X pins σ H s) (ru : RelV v u) (r : Rep X.K H w v) (g : RelG X.K H G)
    (h : match tyN G w with | some t => q (.bl (subN t T)) G | none => False) (hQ : ∀ v H1 w G1, TLe H H1 → Rep X.K H1 w v → RelG X.K H1 G1 → q w G1 → Q v H1) :
    wpAny (model X.prog X.w) X.A (call (.builtin "isinstance") [u, .type T]) (EP X pins σ Q) X.xe s := by
  split at h
  · rename_i t e
    obtain ⟨ty, hk⟩ := tyOf_rep g r e
    exact isinst_ok I ru ty (kit_of hk hT) fun tk => ⟨.bl _, H, I.tok tk, rfl, hQ _ H _ G (TLe.refl H) (.bl _) g h⟩
  · exact h.elim
theorem qe_isi {T : String} {x : Str} {e : Expr} {te : WE} {p p2 pos : Pos} (hT : isiT T) (hv : bootBuiltins x = some (.type T)) (hm : X.mg x = none) (hgx : Gl X x) (hm1 : X.mg "isinstance" = none) (hg1 : Gl X "isinstance") (he : QE X e te) (hn : x ≠ "__name__" := by decide) (hd : (x == ("__debug__" : Str)) = false := by decide)
    (hs1 : starEach [e, .Name x p2] X.env = (false, eval e X.env) :: starEach [.Name x p2] X.env := by rfl) (hs2 : starEach [.Name x p2] X.env = (false, eval (.Name x p2) X.env) :: starEach [] X.env := by rfl)
    (hpl : (backTo pos (starEach [.Name x p2] X.env)).any (·.1) = false := by rfl) : QE X (.Call (.Name "isinstance" p) [e, .Name x p2] [] pos) (wIsi T te) := by
  have hb : PE X (.Name x p2) (tC (.ty T)) := pe_bltn hgx hm hv rfl hn hd
  have ha : PA X [e, .Name x p2] (tCons (LEx X.K te) (tCons (tC (.ty T)) tNil)) := pa_cons he (pa_cons hb pa_nil hs2) hs1
  have hc : CallR X (.builtin "isinstance") (fun vs H Q => ∃ (v : V) (w : W) (G : Gp) (q : WK), vs = [v, .ty T] ∧ Rep X.K H w v ∧ RelG X.K H G ∧ (match tyN G w with | some t => q (.bl (subN t T)) G | none => False) ∧ ∀ v H1 w G1, TLe H H1 → Rep X.K H1 w v → RelG X.K H1 G1 → q w G1 → Q v H1) := by
    intro pins s σ H xs us Q I r ⟨v, w, G, q, e1, r1, g1, h, hQ⟩
    subst e1
    obtain ⟨u, u2, rfl, ru, ru2⟩ := vals2 r
    cases (show u2 = Value.type T from ru2)
    exact q_isi hT I ru r1 g1 h hQ
  exact (pe_callB hc hg1 hm1 boot_isi ha (by decide) (by decide) hs1 hpl).imp fun σ H Q z0 => z0.el fun τ G q hs hg ht hQ => ⟨τ, G, _, hs, hg, ht, fun v H1 w G1 t1 r1 g1 q1 =>
    ⟨v, w, G1, q, rfl, r1, g1, q1, fun v2 H2 w2 G2 t2 => hQ v2 H2 w2 G2 (t1.trans t2)⟩⟩
noncomputable def cSum : List W → Gp → WK → Prop := fun ws G q => match ws with
  | [.ref a] => ∃ ns : List Int, G a = some (.lst (ns.map W.int)) ∧ q (.int ns.sum) G
  | _ => False
theorem Reps.ints_of {K : PySem.W.Frag} {H : Hp} : ∀ {ns : List Int} {vs : List V}, Reps K H (ns.map W.int) vs → vs = ns.map V.int
  | [], _, r => by cases r; rfl
  | n :: ns, _, r => by
    cases r with
    | cons r rs =>
      cases r
      rw [Reps.ints_of rs]
      rfl
theorem q_sum (hc : X.calm = true) : QCall X (.builtin "sum") cSum := by
  intro pins s σ H xs us Q I r ⟨ws, G, q, rw', g, h, hQ⟩
  unfold cSum at h
  split at h
  · rename_i a
    obtain ⟨ns, e, h⟩ := h
    obtain ⟨v, rfl, r1⟩ := rw'.one
    cases r1
    obtain ⟨_, zs, e1, rr⟩ := g a _ e
    obtain rfl := rr.ints_of
    obtain ⟨u, rfl, ru⟩ := vals1 r
    cases (show u = Value.ref a from ru)
    obtain ⟨its, rv, p, hz⟩ := I.list (SqL.of e1)
    have hi : IntsAre its ns := L2.intsAre_of rv
    obtain ⟨ys, ey⟩ := hi.allInts.items
    have hn : (ys.toList.map (·.1)) = ns := by rw [← nums_intItems, ← ey, ← hi.numsOf]
    have hl : s.heap.IsList a (intItems ys) := by rw [← ey]; exact p.isList
    refine sum_intListG (I.ok.hd hc) hl fun h' tk t' hk => ⟨.int _, H, I.kept hk, ⟨t', rfl⟩, ?_⟩
    have es : preSum (numAt ys) ys.size = ns.sum := by rw [preSum_eq, List.take_of_length_le (by simp), hn]
    rw [es]
    exact hQ _ H _ G (TLe.refl H) (.int _) g h
  · exact h.elim
noncomputable def wApp (to te : WE) : WE := fun τ G q => to τ G fun x G1 => match x with
  | .ref a => (∃ xs, G1 a = some (.lst xs)) ∧ te τ G1 fun y G2 => ∃ ys, G2 a = some (.lst ys) ∧ ys.length + 1 ≤ 100000 ∧ q .non (updG G2 a (.lst (ys ++ [y])))
  | _ => False
theorem qe_app {o e : Expr} {to te : WE} {apos cpos : Pos} (ho : QE X o to) (he : QE X e te)
    (hbase : attributeBase o "append" X.env (eval o X.env) = eval o X.env := by rfl)
    (hfew : ((backTo cpos (starEach [e] X.env)).all (fun x => !x.1) && (backToKw cpos (keywordEach [] X.env)).all (fun x => x.1.isSome)
      && decide (([e] : List Expr).length + ([] : List Keyword).length + (if ([] : List Keyword).isEmpty then 0 else 1) < 30)) = true := by rfl)
    (hline : (apos.endLine == cpos.line) = true := by rfl) (hs : starEach [e] X.env = (false, eval e X.env) :: starEach [] X.env := by rfl) :
    QE X (.Call (.Attribute o "append" apos) [e] [] cpos) (wApp to te) :=
  (pe_bm PySem.F.plainAttrs_list PySem.F.slot_list_append PySem.F.type_list_append mt_append ho (pa_cons he pa_nil hs) hbase hfew hline hs rfl).imp fun σ H Q z0 => z0.el fun τ G q hs hg ht hQ =>
    ⟨τ, G, _, hs, hg, ht, fun v H1 w G1 t1 r1 g1 q1 => by
      split at q1
      · rename_i a
        cases r1
        obtain ⟨⟨xs, e1⟩, q1⟩ := q1
        obtain ⟨_, xs', h1, _⟩ := g1 a _ e1
        refine ⟨.inl ⟨rfl, xs', SqL.of h1⟩, τ, G1, _, hs.mono t1, g1, q1, fun v2 H2 w2 G2 t2 r2 g2 q2 => ?_⟩
        obtain ⟨ys, e2, hl, q2⟩ := q2
        obtain ⟨_, ys', h2, rr⟩ := g2 a _ e2
        refine ⟨a, ys', v2, rfl, rfl, h2, ?_, ?_⟩
        · rw [← rr.length]
          exact line_le hl
        · exact hQ _ _ _ _ ((t1.trans t2).trans (TLe.lst h2 _)) .non (g2.put (TLe.lst h2 _) (rr.append (.cons r2 .nil)) (by rw [List.length_append]; exact hl)) q2
      · exact q1.elim⟩
end
end L2
namespace L2
open PySem PySem.Spec PyProof.Rows
structure Itn (K : PySem.W.Frag) (J : It) (ws : List W) (C : Gp → Prop) (H0 : Hp) : Prop where
  stop : ∀ i H G, TLe H0 H → RelG K H G → C G → ws.length ≤ i → J.stop i H
  go : ∀ i w H G, TLe H0 H → RelG K H G → C G → ws[i]? = some w → J.go i H ∧ ∀ x H', J.yld i H x H' → TLe H H' ∧ Rep K H' w x ∧ RelG K H' G
noncomputable abbrev WI := WSt → Gp → (List W → (Gp → Prop) → Gp → Prop) → Prop
noncomputable def LI (K : PySem.W.Frag) (t : WI) : TI := fun σ H R => ∃ τ G r, RelSt K H τ σ ∧ RelG K H G ∧ t τ G r ∧ ∀ J H1 ws C G1, TLe H H1 → RelG K H1 G1 → Itn K J ws C H1 → r ws C G1 → R J H1
noncomputable def QI (X : Cx) (tg iter : Expr) (t : WI) : Prop := PI X tg iter (LI X.K t)
section
variable {X : Cx} {tg : Expr}
theorem PI.imp {e : Expr} {t t' : TI} (h : PI X tg e t) (f : ∀ σ H R, t' σ H R → t σ H R) : PI X tg e t' := fun pins s σ H R I q => h pins s σ H R I (f _ _ _ q)
theorem itn_tup {K : PySem.W.Frag} {a : Addr} {ws : List W} {xs : List V} {H : Hp} (h : H a = some (.tup xs)) (r : Reps K H ws xs) : Itn K (Itt K a) ws (fun _ => True) H where
  stop := fun i H1 G t g _ hl => ⟨xs, SqT.of (t.tup _ _ h), by rw [← r.length]; exact hl⟩
  go := fun i w H1 G t g _ e => by
    obtain ⟨v, e1, rv⟩ := r.get e
    refine ⟨⟨xs, v, SqT.of (t.tup _ _ h), e1⟩, fun x H' ⟨eH, hy⟩ => ?_⟩
    subst eH
    have e2 := hy xs (SqT.of (t.tup _ _ h))
    rw [e1] at e2; cases e2
    exact ⟨TLe.refl _, rv.mono t, g⟩
theorem itn_lst {K : PySem.W.Frag} {a : Addr} {ws : List W} {H : Hp} : Itn K (Itl K a) ws (fun G => G a = some (.lst ws)) H where
  stop := fun i H1 G t g e hl => by
    obtain ⟨_, xs, h1, r⟩ := g a _ e
    exact ⟨xs, SqL.of h1, by rw [← r.length]; exact hl⟩
  go := fun i w H1 G t g eG e => by
    obtain ⟨_, xs, h1, r⟩ := g a _ eG
    obtain ⟨v, e1, rv⟩ := r.get e
    refine ⟨⟨xs, v, SqL.of h1, e1⟩, fun x H' ⟨eH, hy⟩ => ?_⟩
    subst eH
    have e2 := hy xs (SqL.of h1)
    rw [e1] at e2; cases e2
    exact ⟨TLe.refl _, rv, g⟩
theorem itn_scr {K : PySem.W.Frag} {a : Addr} {ns : List Int} {H : Hp} (h : Scr K H a ns) : Itn K (Itl K a) (ns.map W.int) (fun _ => True) H where
  stop := fun i H1 G t g _ hl => ⟨_, (h.mono t).sq, by simpa using hl⟩
  go := fun i w H1 G t g _ e => by
    have r : Reps K H1 (ns.map W.int) (ns.map V.int) := Reps.ints ns
    obtain ⟨v, e1, rv⟩ := r.get e
    refine ⟨⟨_, v, (h.mono t).sq, e1⟩, fun x H' ⟨eH, hy⟩ => ?_⟩
    subst eH
    have e2 := hy _ (h.mono t).sq
    rw [e1] at e2; cases e2
    exact ⟨TLe.refl _, rv, g⟩
noncomputable def jSeq (te : WE) : WI := fun τ G r => te τ G fun x G1 => match x with
  | .tup ws => r ws (fun _ => True) G1
  | .scr ns => r (ns.map W.int) (fun _ => True) G1
  | .ref a => ∃ ws, G1 a = some (.lst ws) ∧ r ws (fun G => G a = some (.lst ws)) G1
  | _ => False
noncomputable def upW (n : Nat) : List W := (List.range n).map fun (i : Nat) => W.int (i : Int)
theorem itn_rng {K : PySem.W.Frag} {n : Nat} {H : Hp} : Itn K (Itr 0 n) (upW n) (fun _ => True) H where
  stop := fun i H1 G t g _ hl => by have h : n ≤ i := by simpa [upW] using hl
                                    exact h
  go := fun i w H1 G t g _ e => by
    unfold upW at e
    rw [List.getElem?_map] at e
    have hi : i < n := by
      cases h : (List.range n)[i]? with
      | none => rw [h] at e; cases e
      | some k =>
        have := (List.getElem?_eq_some_iff.mp h).1
        simpa using this
    rw [List.getElem?_range hi] at e
    cases e
    refine ⟨hi, fun x H' ⟨eH, hy⟩ => ?_⟩
    subst eH
    subst hy
    exact ⟨TLe.refl _, by simpa using Rep.int _, g⟩
noncomputable def jRng (ta : WA) : WI := fun τ G r => ta τ G fun ws G1 => match ws with
  | [.int j] => -(2 ^ 62) ≤ j ∧ j < 2 ^ 62 ∧ r (upW j.toNat) (fun _ => True) G1
  | _ => False
theorem qi_range {a : Expr} {ta : WA} {p pos : Pos} (hg : Gl X "range") (hm : X.mg "range" = none) (ha : QA X [a] ta) (hs : starEach [a] X.env = [(false, eval a X.env)] := by rfl) : QI X tg (.Call (.Name "range" p) [a] [] pos) (jRng ta) :=
  (pi_range1 hg hm ha hs).imp fun σ H R ⟨τ, G, r, hs, hg, ht, hR⟩ => ⟨τ, G, _, hs, hg, ht, fun vs H1 ws G1 t1 r1 g1 q1 => by
    split at q1
    · obtain ⟨v, rfl, r2⟩ := r1.one
      cases r2 with
      | int j => exact ⟨_, rfl, q1.1, q1.2.1, hR _ H1 _ _ G1 t1 g1 itn_rng q1.2.2⟩
    · exact q1.elim⟩
noncomputable def loopW (C : Gp → Prop) (g : WG) (tb : WS) (d : WEnds) : List W → WSt → Gp → Prop
  | [], τ, G => C G ∧ d.nx τ G
  | w :: ws, τ, G => C G ∧ g w τ G fun τ2 G2 => tb { d with nx := loopW C g tb d ws, ct := loopW C g tb d ws, bk := d.nx } τ2 G2
noncomputable def wFor (wi : WI) (g : WG) (tb : WS) : WS := fun d τ G => wi τ G fun ws C G1 => loopW C g tb d ws τ G1
theorem qs_for {iter : Expr} {body : List Stmt} {wi : WI} {g : WG} {tb : WS} {pos : Pos} (hp : PassesOwn (model X.prog X.w) X.A X.env X.xe) (hc : X.calm = true) (hi : QI X tg iter wi) (hg : QG X tg g) (hb : QSs X body tb)
    (hs : ∀ x, foldedSetIterable iter X.env x = pure x := by intro _; rfl) : QS X (.For tg iter body [] pos) (wFor wi g tb) :=
  (ps_for hp hc hi hg hb hs).imp fun D σ H z0 => z0.el fun τ G d hs hg ht l => ⟨τ, G, _, hs, hg, ht, fun J H1 ws C G1 t1 g1 it q1 => by
    refine ⟨fun i m σ2 H2 => ∃ τ2 G2, m = ws.length - i ∧ i ≤ ws.length ∧ TLe H1 H2 ∧ RelSt X.K H2 τ2 σ2 ∧ RelG X.K H2 G2 ∧ loopW C g tb d (ws.drop i) τ2 G2, ⟨ws.length, τ, G1, by simp, Nat.zero_le _, TLe.refl _, hs.mono t1, g1, by simpa using q1⟩, ?_⟩
    rintro i m σ2 H2 ⟨τ2, G2, rfl, hi, t2, s2, g2, q2⟩
    by_cases hlt : i < ws.length
    · have ed : ws.drop i = ws[i] :: ws.drop (i + 1) := List.drop_eq_getElem_cons hlt
      rw [ed] at q2
      obtain ⟨c2, q2⟩ := q2
      obtain ⟨go, yl⟩ := it.go i ws[i] H2 G2 t2 g2 c2 (List.getElem?_eq_getElem hlt)
      refine .inr ⟨go, fun σ3 H3 => ∃ τ3 G3, TLe H1 H3 ∧ RelSt X.K H3 τ3 σ3 ∧ RelG X.K H3 G3 ∧ loopW C g tb d (ws.drop (i + 1)) τ3 G3, ?_, fun x H' hy => ?_⟩
      · rintro σ3 H3 ⟨τ3, G3, t3, s3, g3, q3⟩
        exact ⟨ws.length - (i + 1), by (clear hp hc hb z0 hs hg ht l t1 g1 it q1 hi t2 s2 g2 ed c2 q2 go yl t3 s3 g3 q3; omega), τ3, G3, rfl, hlt, t3, s3, g3, q3⟩
      · obtain ⟨tx, rx, gx⟩ := yl x H' hy
        refine ⟨ws[i], τ2, G2, _, rx, s2.mono tx, gx, q2, fun σ3 H3 τ3 G3 t3 s3 g3 q3 => ?_⟩
        have tt := (t2.trans tx).trans t3
        have t0 := t1.trans tt
        exact ⟨τ3, G3, _, s3, g3, q3, ⟨fun σ4 H4 τ4 G4 t4 s4 g4 q4 => ⟨τ4, G4, tt.trans t4, s4, g4, q4⟩, fun v H4 w G4 t4 => l.rt v H4 w G4 (t0.trans t4), fun σ4 H4 τ4 G4 t4 => l.nx σ4 H4 τ4 G4 (t0.trans t4), fun σ4 H4 τ4 G4 t4 s4 g4 q4 => ⟨τ4, G4, tt.trans t4, s4, g4, q4⟩⟩⟩
    · have e : i = ws.length := by (clear hp hc hb z0 hs hg ht l t1 g1 it q1 t2 s2 g2 q2; omega)
      subst e
      rw [List.drop_length] at q2
      exact .inl ⟨it.stop _ H2 G2 t2 g2 q2.1 (Nat.le_refl _), l.nx σ2 H2 τ2 G2 (t1.trans t2) s2 g2 q2.2⟩⟩
end
end L2
namespace L2
open PySem PySem.Spec PyProof.Rows
section
variable {prog : Program} {w : World} {A : Around} {E : Value → Shared → Prop} {s : Shared}
structure ZA (z p r i j a b : Addr) : Prop where
  zp : p ≠ z
  zr : r ≠ z
  zi : i ≠ z
  zj : j ≠ z
  pr : p ≠ r
  pi : p ≠ i
  pj : p ≠ j
  ri : r ≠ i
  rj : r ≠ j
  ij : i ≠ j
  az : a ≠ z
  ar : a ≠ r
  ai : a ≠ i
  aj : a ≠ j
  bz : b ≠ z
  br : b ≠ r
  bi : b ≠ i
  bj : b ≠ j
structure ZT (z p r i j a b : Addr) (n : Nat) (f : Value) (h : Heap) : Prop where
  hz : IsZip h z p r f
  hp : IsPair h p (.ref i) (.ref j)
  hr : ∃ x y, IsPair h r x y
  hi : h.IsTupleIter i a n
  hj : h.IsTupleIter j b n
end
end L2
namespace L2
open PySem PySem.Spec PyProof.Rows
section
variable {prog : Program} {w : World} {A : Around} {R : Result → Shared → Prop} {s : Shared}
noncomputable abbrev nox : Value → Shared → Prop := fun _ _ => False
noncomputable abbrev tests (ifs : List Expr) (env : Env) : Sem Bool := forIn ifs true fun c r => if r = true then do let ok ← isTrue c env (eval c env); pure (ForInStep.yield ok) else pure (ForInStep.yield r)
theorem comp_loop {elt tg iter : Expr} {ifs : List Expr} {scope : Scope} {pos : Pos} {it acc : Value} {env : Env} (I : Nat → Shared → Prop)
    (turn : ∀ n s, I n s → wpAny (model prog w) A (pyNext it) (fun r s1 => match r with
      | none => R (.ok .next) s1
      | some v => wpAny (model prog w) A (letOwnedTupleGo tg it v) (fun _ s2 => wpAny (model prog w) A (assign tg env v) (fun _ s3 => wpAny (model prog w) A (tests ifs env) (fun ok s4 =>
          if ok = true then wpAny (model prog w) A (eval elt env) (fun x s5 => wpAny (model prog w) A (call (.builtin "list.append") [acc, x]) (fun _ s6 => ∃ m, m < n ∧ I m s6) nox s5) nox s4
          else ∃ m, m < n ∧ I m s4) nox s3) nox s2) nox s1) nox s) (n : Nat) (h : I n s) :
    codeAny (model prog w) A (.compLoop (.ListComp elt [⟨tg, iter, ifs, 0⟩] scope pos) 0 it acc env) R s := by
  refine codeAny_loop rfl I (fun n s hI => ?_) n h
  show wpAny _ A ((compTurn (.ListComp elt [⟨tg, iter, ifs, 0⟩] scope pos) 0 it acc env).onRaise (fun x => do noteFrame x env; theTreesLotGoes x)) _ _ s
  refine wpAny_noted ?_; rw [compTurn_list]
  refine wpAny_bind (wpAny_standAt (wpAny_bind (wpAny_mono (turn n s hI) (fun r s1 h1 => ?_) fun _ _ z => z.elim)))
  cases r with
  | none => exact wpAny_pure h1
  | some v =>
    refine wpAny_bind (wpAny_mono h1 (fun _ s2 h2 => wpAny_bind (wpAny_mono h2 (fun _ s3 h3 => wpAny_bind (wpAny_mono h3 (fun ok s4 h4 => ?_) fun _ _ z => z.elim)) fun _ _ z => z.elim)) fun _ _ z => z.elim)
    cases ok with
    | false => exact wpAny_pure ⟨rfl, h4⟩
    | true =>
      refine wpAny_bind (wpAny_bind (wpAny_mono h4 (fun x s5 h5 => ?_) fun _ _ z => z.elim))
      exact wpAny_bind (wpAny_mono h5 (fun _ s6 h6 => wpAny_pure (wpAny_pure ⟨rfl, h6⟩)) fun _ _ z => z.elim)
end
noncomputable def clOf (env : Env) : List (Str × NameKind) → List (Str × Addr) → List (Str × Addr)
  | [], cs => cs
  | (n, k) :: r, cs => if k == .free then clOf env r ((n, (env.cells.lookup n).getD 0) :: cs) else clOf env r cs
theorem closure_of {env : Env} {scope : Scope} (h : ∀ y ∈ scope.names, y.2 = .free → ∃ c, env.cells.lookup y.1 = some c) : closureFor scope env = pure (clOf env scope.names []) := by
  unfold closureFor
  have key : ∀ (l : List (Str × NameKind)) (cs : List (Str × Addr)), (∀ y ∈ l, y.2 = .free → ∃ c, env.cells.lookup y.1 = some c) →
      (forIn l cs fun (x : Str × NameKind) (r : List (Str × Addr)) => (if (x.2 == NameKind.free) = true then (do let y ← cellOf env x.1; pure (ForInStep.yield ((x.1, y) :: r))) else pure (ForInStep.yield r) : Sem (ForInStep (List (Str × Addr))))) = (pure (clOf env l cs) : Sem (List (Str × Addr))) := by
    intro l
    induction l with
    | nil => intro cs _; rfl
    | cons y r ih =>
      intro cs hl
      obtain ⟨n, k⟩ := y
      rw [List.forIn_cons]
      unfold clOf
      by_cases hk : (k == NameKind.free) = true
      · have hk' : k = .free := by simpa using hk
        obtain ⟨c, hc⟩ := hl (n, k) List.mem_cons_self hk'
        simp only [hk, if_true]
        have e : cellOf env n = pure c := by unfold cellOf; rw [hc]
        rw [e, hc]
        simp only [pure_bind, Option.getD_some]
        exact ih _ fun y hy => hl y (List.mem_cons_of_mem _ hy)
      · simp only [hk, if_false, Bool.false_eq_true]
        simp only [pure_bind]
        exact ih _ fun y hy => hl y (List.mem_cons_of_mem _ hy)
  have := key scope.names [] h
  simp only [bind_pure]
  exact this
theorem clOf_lookup {env : Env} : ∀ {l : List (Str × NameKind)} {cs : List (Str × Addr)}, (∀ y ∈ l, y.2 = .free → ∃ c, env.cells.lookup y.1 = some c) → (∀ x c, cs.lookup x = some c → env.cells.lookup x = some c) → ∀ x c, (clOf env l cs).lookup x = some c → env.cells.lookup x = some c
  | [], _, _, hc, x, c, e => hc x c e
  | (n, k) :: r, cs, hl, hc, x, c, e => by
    unfold clOf at e
    have hr : ∀ y ∈ r, y.2 = .free → ∃ c, env.cells.lookup y.1 = some c := fun y hy => hl y (List.mem_cons_of_mem _ hy)
    split at e
    · rename_i hk
      obtain ⟨c0, hc0⟩ := hl (n, k) List.mem_cons_self (by simpa using hk)
      refine clOf_lookup hr (fun x' c' e' => ?_) x c e
      rw [List.lookup_cons] at e'
      cases hx : x' == n with
      | true =>
        rw [hx] at e'
        have : x' = n := by simpa using hx
        subst this
        rw [hc0] at e'
        simp at e'
        subst e'
        exact hc0
      | false => rw [hx] at e'; exact hc x' c' e'
    · exact clOf_lookup hr hc x c e
theorem clOf_has {env : Env} : ∀ {l : List (Str × NameKind)} {cs : List (Str × Addr)} {x : Str}, ((x, NameKind.free) ∈ l ∨ ∃ c, cs.lookup x = some c) → ∃ c, (clOf env l cs).lookup x = some c
  | [], _, _, h => by
    rcases h with h | h
    · simp at h
    · exact h
  | (n, k) :: r, cs, x, h => by
    unfold clOf
    have keep : (∃ c, cs.lookup x = some c) → ∃ c, ((n, (env.cells.lookup n).getD 0) :: cs).lookup x = some c := fun ⟨c, e⟩ => by
      rw [List.lookup_cons]
      cases hx : x == n with
      | true => exact ⟨_, rfl⟩
      | false => exact ⟨c, e⟩
    split
    · rename_i hk
      refine clOf_has ?_
      rcases h with h | h
      · rcases List.mem_cons.mp h with h | h
        · cases h
          exact .inr ⟨(env.cells.lookup n).getD 0, by rw [List.lookup_cons]; simp⟩
        · exact .inl h
      · exact .inr (keep h)
    · rename_i hk
      refine clOf_has ?_
      rcases h with h | h
      · rcases List.mem_cons.mp h with h | h
        · cases h
          exact absurd rfl hk
        · exact .inl h
      · exact .inr h
theorem relabel_lookup {env : Env} : ∀ {l : List (Str × NameKind)} {x : Str} {k : NameKind}, (l.map fun (n, k) => if (k == NameKind.free && env.scope.kind == .function && env.kindOf n == some .cell) then (n, NameKind.cell) else (n, k)).lookup x = some k → (k = .cell ∨ k = .free) → (∀ y ∈ l, y.2 ≠ .cell) → (x, NameKind.free) ∈ l
  | [], _, _, e, _, _ => by simp at e
  | (n, k0) :: r, x, k, e, hk, hc => by
    rw [List.map_cons, List.lookup_cons] at e
    have hr : ∀ y ∈ r, y.2 ≠ .cell := fun y hy => hc y (List.mem_cons_of_mem _ hy)
    have hn : (if (k0 == NameKind.free && env.scope.kind == .function && env.kindOf n == some .cell) = true then (n, NameKind.cell) else (n, k0)).1 = n := by split <;> rfl
    rw [hn] at e
    cases hx : x == n with
    | false => rw [hx] at e; exact List.mem_cons_of_mem _ (relabel_lookup e hk hr)
    | true =>
      rw [hx] at e
      have hxn : x = n := by simpa using hx
      subst hxn
      have e' : (if (k0 == NameKind.free && env.scope.kind == .function && env.kindOf x == some .cell) = true then (x, NameKind.cell) else (x, k0)).2 = k := Option.some.inj e
      by_cases hf : k0 = .free
      · subst hf; exact List.mem_cons_self
      · rw [if_neg (by simp [hf])] at e'
        have e'' : k0 = k := e'
        subst e''
        rcases hk with h | h
        · exact absurd h (hc _ List.mem_cons_self)
        · exact absurd h hf
theorem relabel_local {env : Env} : ∀ {l : List (Str × NameKind)} {x : Str}, (l.map fun (n, k) => if (k == NameKind.free && env.scope.kind == .function && env.kindOf n == some .cell) then (n, NameKind.cell) else (n, k)).lookup x = some .local → l.lookup x = some .local
  | [], _, e => by simp at e
  | (n, k0) :: r, x, e => by
    rw [List.map_cons, List.lookup_cons] at e
    rw [List.lookup_cons]
    have hn : (if (k0 == NameKind.free && env.scope.kind == .function && env.kindOf n == some .cell) = true then (n, NameKind.cell) else (n, k0)).1 = n := by split <;> rfl
    rw [hn] at e
    cases hx : x == n with
    | false => rw [hx] at e; exact relabel_local e
    | true =>
      rw [hx] at e
      have e' : (if (k0 == NameKind.free && env.scope.kind == .function && env.kindOf n == some .cell) = true then (n, NameKind.cell) else (n, k0)).2 = NameKind.local := Option.some.inj e
      split at e'
      · cases e'
      · exact congrArg some e'
noncomputable def bCx (X : Cx) (N : List Str) (scope : Scope) (C : Addr) (fp : List Addr) (s₀ : Shared) (H₀ : Hp) : Cx where
  prog := X.prog
  w := X.w
  K := X.K
  mg := X.mg
  base := X.base
  A := X.A
  N := N
  s₀ := s₀
  H₀ := H₀
  env := compEnvC scope (clOf X.env scope.names []) C X.env
  outer := X.stack
  stack := X.stack
  ex := fp
  fn := fun _ => false
  calm := X.calm
  pn := []
  xe := nox
structure CompSc (X : Cx) (scope : Scope) (N : List Str) (fv : List (Option Nat)) : Prop where
  kind : scope.kind = .function
  nocell : ∀ y ∈ scope.names, y.2 ≠ .cell
  names : ∀ x ∈ scope.names, x.2 = .local → scope.names.lookup x.1 = some .local
  free : ∀ y ∈ scope.names, y.2 = .free → X.env.scope.names.lookup y.1 = some .cell
  fvs : ∀ (i j : Nat) (x : Str), N[i]? = some x → fv[i]? = some (some j) → X.N[j]? = some x ∧ X.env.scope.names.lookup x = some .cell ∧ (x, NameKind.free) ∈ scope.names
  len : fv.length = N.length
  fvl : ∀ {x : Str}, (x, NameKind.free) ∈ scope.names → scope.names.lookup x ≠ some .local
noncomputable def pick {α : Type} (fv : List (Option Nat)) (σ : List (Option α)) : List (Option α) := fv.map fun o => o.bind fun j => (σ[j]?).join
theorem pick_get {α : Type} {fv : List (Option Nat)} {σ : List (Option α)} {i : Nat} {v : α} (h : (pick fv σ)[i]? = some (some v)) : ∃ j, fv[i]? = some (some j) ∧ σ[j]? = some (some v) := by
  unfold pick at h
  rw [List.getElem?_map] at h
  cases e : fv[i]? with
  | none => rw [e] at h; cases h
  | some o =>
    rw [e] at h
    cases o with
    | none => cases h
    | some j =>
      have h' : (σ[j]?).join = some v := Option.some.inj h
      refine ⟨j, rfl, ?_⟩
      cases e2 : σ[j]? with
      | none => rw [e2] at h'; cases h'
      | some o => rw [e2] at h'; exact congrArg some h'
theorem pick_rel {K : PySem.W.Frag} {H : Hp} {τ : WSt} {σ : St} {fv : List (Option Nat)} (h : RelSt K H τ σ) : RelSt K H (pick fv τ) (pick fv σ) := by
  refine ⟨by simp [pick], fun i w e => ?_⟩
  obtain ⟨j, ej, ew⟩ := pick_get e
  obtain ⟨v, ev, r⟩ := h.2 j w ew
  refine ⟨v, ?_, r⟩
  unfold pick
  rw [List.getElem?_map, ej]
  show some ((σ[j]?).join) = _
  rw [ev]
  rfl
section
variable {X : Cx} {pins : List (Addr × Obj)} {σ : St} {H H2 : Hp} {s s2 : Shared} {scope : Scope} {N : List Str} {fv : List (Option Nat)} {fp : List Addr} {C D : Addr}
theorem CompSc.cells (S : CompSc X scope N fv) (I : Inv X pins σ H s) : ∀ y ∈ scope.names, y.2 = .free → ∃ c, X.env.cells.lookup y.1 = some c := fun y hy hk => I.ok.has y.1 (.inl (S.free y hy hk))
theorem block_inv {h4 : Heap} {t4 : Nat} {m : Str → Option Value} (I : Inv X pins σ H2 s2) (S : CompSc X scope N fv) (hf : ∀ b ∈ fp, FpOk X pins H2 b) (hfo : ∀ b ∈ fp, b < s2.heap.objs.size) (keep : ∀ b o, s2.heap.get? b = some o → h4.get? b = some o)
    (hC : s2.heap.objs.size ≤ C) (ns : h4.Ns C m) : Inv (bCx X N scope C fp s2 H2) [] (pick fv σ) H2 { s2 with heap := h4, toks := t4 } := by
  have look : ∀ x c, (clOf X.env scope.names []).lookup x = some c → X.env.cells.lookup x = some c := clOf_lookup (S.cells I) (fun x c e => by simp at e)
  refine ⟨⟨I.ok.mod, S.kind, I.ok.glob, I.ok.blt, hC, fun x y c e1 e2 => I.ok.inj x y c (look x c e1) (look y c e2), fun x hx => ?_, fun x c h => absurd (show false = true from h) Bool.false_ne_true, I.ok.hd, I.ok.frames, .inl rfl, fun b hb => ?_, I.bs, Nat.le_trans I.ok.bsz I.sz, fun b o e hb => ?_, fun b hb hx => ?_, I.stack, I.stkFree⟩,
    rfl, I.bare, Un.kept keep, ⟨m, ns, fun i x v e1 e2 e3 => ?_⟩, fun x c e => ?_, I.hok.fresh hC, fun x c e => I.freeC x c (look x c e), fun p hp => absurd (show p ∈ ([] : List (Addr × Obj)) from hp) (by simp), I.hok.kept keep, ?_⟩
  · rcases hx with hx | hx
    · exact clOf_has (.inl (relabel_lookup hx (.inl rfl) S.nocell))
    · exact clOf_has (.inl (relabel_lookup hx (.inr rfl) S.nocell))
  · exact ⟨Nat.ne_of_lt (Nat.lt_of_lt_of_le (hfo b hb) hC), fun x c e => (hf b hb).2.2.2.2.1 x c (look x c e)⟩
  · rcases (hf b hb).2.2.2.1 with z | z
    · exact I.ok.noex b o e z
    · exact absurd (Nat.lt_of_lt_of_le (Heap.lt_size e) (Nat.le_trans I.ok.bsz z)) (Nat.lt_irrefl _)
  · rcases List.mem_cons.mp (I.stkSub b hx) with z | z
    · exact (hf b hb).2.1 z
    · exact (hf b hb).2.2.1 z
  · obtain ⟨j, ej, ev⟩ := pick_get e2
    obtain ⟨h1, h2, h3⟩ := S.fvs i j x e1 ej
    obtain ⟨m0, _, hl⟩ := I.loc
    obtain ⟨u, r, l⟩ := hl j x v h1 ev (.inr (.inl h2))
    refine ⟨u, r, .inr ?_⟩
    rcases l with ⟨k, _⟩ | ⟨_, c, ec, o, ho, hd⟩
    · exact absurd (h2.symm.trans k) (by intro z; cases z)
    · obtain ⟨c', ec'⟩ := clOf_has (env := X.env) (l := scope.names) (cs := []) (x := x) (.inl h3)
      have e' := look x c' ec'
      rw [ec] at e'
      cases e'
      refine ⟨?_, c, ec', o, keep _ _ ho, hd⟩
      rcases e3 with e3 | e3 | e3
      · exact absurd (relabel_local e3) fun z => S.fvl h3 z
      · exact .inl e3
      · exact .inr e3
  · obtain ⟨v, o, ho, hd⟩ := I.cell x c (look x c e)
    exact ⟨v, o, keep _ _ ho, hd⟩
  · show (pick fv σ).length = N.length
    unfold pick
    rw [List.length_map, S.len]
end
end L2
namespace L2
open PySem PySem.Spec PyProof.Rows
noncomputable def compW (C : Gp → Prop) (g : WG) (tt : WT) (te : WE) : List W → WSt → Gp → List W → (List W → Gp → Prop) → Prop
  | [], _, G, acc, q => C G ∧ q acc G
  | w :: ws, τ, G, acc, q => C G ∧ g w τ G fun τ2 G2 => tt τ2 G2 fun b G3 => if b = true then te τ2 G3 fun v G4 => acc.length + 1 ≤ 100000 ∧ compW C g tt te ws τ2 G4 (acc ++ [v]) q else compW C g tt te ws τ2 G3 acc q
noncomputable def QTs (X : Cx) (ifs : List Expr) (t : WT) : Prop :=
  ∀ (pins : List (Addr × Obj)) (s : Shared) (σ : St) (H : Hp) (Q : Bool → Hp → Prop), Inv X pins σ H s → LTx X.K t σ H Q → wpAny (model X.prog X.w) X.A (tests ifs X.env) (TP X pins σ Q) X.xe s
noncomputable def wTrue : WT := fun _ G q => q true G
theorem qts_nil {X : Cx} : QTs X [] wTrue := fun pins s σ H Q I ⟨τ, G, q, hs, hg, ht, hQ⟩ => wpAny_tests_nil ⟨H, I, hQ true H G (TLe.refl H) hg ht⟩
theorem RelG.track {K : PySem.W.Frag} {H : Hp} {G : Gp} {p : Addr} {xs : List V} {ws : List W} (h : RelG K H G) (e : H p = some (.lst xs)) (r : Reps K H ws xs) (hl : ws.length ≤ 100000) : RelG K H (updG G p (.lst ws)) := fun a g ea => by
  by_cases hb : a = p
  · subst hb
    rw [updG_same] at ea; cases ea
    exact ⟨hl, xs, e, r⟩
  · rw [updG_ne hb] at ea
    exact h a g ea
section
variable {X : Cx} {pins : List (Addr × Obj)} {σ : St} {H2 : Hp} {s2 : Shared} {scope : Scope} {N : List Str} {fv : List (Option Nat)} {fp : List Addr} {tg elt iter : Expr} {ifs : List Expr} {pos : Pos} {J : It} {it : Addr} {tn : Nat → Heap → Prop}
  {g : WG} {tt : WT} {te : WE} {ws : List W} {Cd : Gp → Prop} {τ : WSt} {G : Gp} {q : List W → Gp → Prop}
structure CompEnd (X : Cx) (pins : List (Addr × Obj)) (σ : St) (H2 : Hp) (s2 : Shared) (G : Gp) (q : List W → Gp → Prop) (D C : Addr) (s' : Shared) : Prop where
  ex : ∃ (Hf : Hp) (Gf : Gp) (rs : List W), (∃ m, s'.heap.Ns C m) ∧ Inv X pins σ Hf s' ∧ Hf C = none ∧ s2.heap.objs.size ≤ C ∧ TLe H2 Hf ∧ RelG X.K Hf (updG Gf D (.lst rs)) ∧ G D = none ∧ q rs Gf
theorem comp_block (I : Inv X pins σ H2 s2) (S : CompSc X scope N fv) (hc : X.calm = true) (T : Turn X.prog X.w X.K tg J fp it tn) (st : tn 0 s2.heap) (hf : ∀ b ∈ fp, FpOk X pins H2 b)
    (hg : ∀ C, QG (bCx X N scope C fp s2 H2) tg g) (htt : ∀ C, QTs (bCx X N scope C fp s2 H2) ifs tt) (hte : ∀ C, QE (bCx X N scope C fp s2 H2) elt te)
    (itn : Itn X.K J ws Cd H2) (hs : RelSt X.K H2 τ σ) (gr : RelG X.K H2 G) (hw : compW Cd g tt te ws (pick fv τ) G [] q) {RR : Value → Addr → Result → Shared → Prop} {E : Value → Shared → Prop}
    (hRR : ∀ D C s', CompEnd X pins σ H2 s2 G q D C s' → RR (.ref D) C (.ok .next) s') :
    wpAny (model X.prog X.w) X.A (newList []) (fun acc s3 => wpAny (model X.prog X.w) X.A (newFunctionEnv scope X.env.globals (clOf X.env scope.names []) [] X.env.qual none .none (some X.env)) (fun cenv s4 =>
      codeAny (model X.prog X.w) X.A (.compStart (.ListComp elt [⟨tg, iter, ifs, 0⟩] scope pos) 0 (.ref it) acc { cenv with scope := relabel scope X.env }) (RR acc cenv.locals) s4) E s3) E s2 := by
  have hfo : ∀ b ∈ fp, b < s2.heap.objs.size := fun b hb => let ⟨o, e, _⟩ := T.obj _ _ st b hb; Heap.lt_size e
  refine wpAny_newObj_type (wpAny_newFunctionEnv S.nocell (by intro y hy; simp at hy) (fun h1 hns1 hsb1 => ?_) S.kind)
  dsimp only at hns1 hsb1 ⊢
  generalize hP : s2.heap.push { cls := .type "list", dict := none, data := .seq ([] : List Value).toArray } = P at hns1 hsb1 ⊢
  generalize hD : s2.heap.objs.size = D at *
  have hC : P.objs.size = D + 1 := by rw [← hP, Heap.size_push, hD]
  generalize hCC : P.objs.size = C at *
  have hDC : D ≠ C := by rw [hC]; exact Nat.ne_of_lt (Nat.lt_succ_self _)
  have hDleC : D ≤ C := by rw [hC]; exact Nat.le_succ _
  have old : ∀ b o, s2.heap.get? b = some o → h1.get? b = some o := fun b o e => hsb1.extBut b o (Nat.ne_of_lt (Nat.lt_of_lt_of_le (Heap.lt_size e) (by rw [hD]; exact hDleC))) (Heap.get?_push_of_some _ (hP ▸ Heap.get?_push_of_some _ e))
  have hacc : h1.PlainList D #[] := ⟨0, hsb1.extBut _ _ hDC (Heap.get?_push_of_some _ (by rw [← hP, ← hD]; exact Heap.get?_push_size _ rfl))⟩
  have look : ∀ x c, (clOf X.env scope.names []).lookup x = some c → X.env.cells.lookup x = some c := clOf_lookup (S.cells I) (fun x c e => by simp at e)
  have cD : ∀ x c, (clOf X.env scope.names []).lookup x = some c → c ≠ D := fun x c e z => by
    obtain ⟨v, o, ho, _⟩ := I.cell x c (look x c e)
    exact absurd (Heap.lt_size ho) (by rw [z, hD]; exact Nat.lt_irrefl _)
  have sD : D ∉ frs X.stack := fun hb => by
    rcases List.mem_cons.mp (I.stkSub D hb) with z | z
    · exact absurd I.lt (by rw [← z, hD]; exact Nat.lt_irrefl _)
    · exact I.nofs (by rw [hD]; exact Nat.le_refl _) z
  have fD : D ∉ fp := fun hb => absurd (hfo D hb) (Nat.lt_irrefl _)
  have fpX : ∀ {H1 : Hp} {ps : List (Addr × Obj)}, (∀ b ∈ fp, H1 b = none) → (∀ p ∈ ps, p.1 ∉ fp) → ∀ b ∈ fp, FpOk (bCx X N scope C fp s2 H2) ps H1 b := fun {H1 ps} hn hp b hb => by
    refine ⟨hn b hb, Nat.ne_of_lt (Nat.lt_of_lt_of_le (hfo b hb) hDleC), fun hx => ?_, .inl hb, fun x c e => (hf b hb).2.2.2.2.1 x c (look x c e), fun p hp' z => hp p hp' (z ▸ hb)⟩
    rcases List.mem_cons.mp (I.stkSub b hx) with z | z
    · exact (hf b hb).2.1 z
    · exact (hf b hb).2.2.1 z
  have J0 : Inv (bCx X N scope C fp s2 H2) [] (pick fv σ) H2 { s2 with heap := h1, toks := s2.toks + ([] : List (Str × Value)).length } := block_inv I S hf (by rw [hD]; exact hfo) old (by rw [hD]; exact hDleC) hns1
  have loop : codeAny (model X.prog X.w) X.A (.compLoop (.ListComp elt [⟨tg, iter, ifs, 0⟩] scope pos) 0 (.ref it) (.ref D) (bCx X N scope C fp s2 H2).env) (RR (.ref D) C) { s2 with heap := h1, toks := s2.toks + ([] : List (Str × Value)).length } := by
    refine comp_loop (fun n s => ∃ i σ1 H1 τ1 G1 acc vs its, n = ws.length - i ∧ i ≤ ws.length ∧ Inv (bCx X N scope C fp s2 H2) [] σ1 H1 s ∧ tn i s.heap ∧ (∀ b ∈ fp, H1 b = none) ∧ H1 D = none ∧ s.heap.PlainList D its.toArray ∧ Vals vs its ∧ Reps X.K H1 acc vs ∧ TLe H2 H1 ∧
      RelSt X.K H1 τ1 σ1 ∧ RelG X.K H1 G1 ∧ compW Cd g tt te (ws.drop i) τ1 G1 acc q ∧ acc.length ≤ 100000) ?_ ws.length
      ⟨0, _, H2, _, G, [], [], [], by simp, Nat.zero_le _, J0, T.keep _ _ _ st fun b _ o e => old b o e, fun b hb => (hf b hb).1, I.hok.fresh (by rw [hD]; exact Nat.le_refl _), hacc, .nil, .nil, TLe.refl _, pick_rel hs, gr, by simpa using hw, by simp⟩
    rintro n s ⟨i, σ1, H1, τ1, G1, acc, vs, its, rfl, hi, J1, st1, fr1, d1, pl1, rv1, ra1, t1, s1, g1, q1, hl1⟩
    obtain ⟨kk, eD⟩ := pl1
    have J1p : Inv (bCx X N scope C fp s2 H2) [(D, { cls := .type "list", data := .seq its.toArray kk })] σ1 H1 s := J1.pins_of fun p hp => by
      have e := List.mem_singleton.mp hp
      subst e
      exact ⟨eD, d1, hDC, sD, fun v z => by cases z⟩
    have pnf : ∀ p ∈ [((D, { cls := .type "list", data := .seq its.toArray kk }) : Addr × Obj)], p.1 ∉ fp := fun p hp => by
      have e := List.mem_singleton.mp hp
      subst e
      exact fD
    by_cases hlt : i < ws.length
    · have ed : ws.drop i = ws[i] :: ws.drop (i + 1) := List.drop_eq_getElem_cons hlt
      rw [ed] at q1
      obtain ⟨c1, q1⟩ := q1
      obtain ⟨go, yl⟩ := itn.go i ws[i] H1 G1 t1 g1 c1 (List.getElem?_eq_getElem hlt)
      refine thn (T.item (bCx X N scope C fp s2 H2) rfl rfl rfl hc i _ s σ1 H1 nox J1p (fpX fr1 pnf) st1 go) fun r s4 ⟨u, hr, h4⟩ => ?_
      subst hr
      refine thn h4 fun _ s5 ⟨x, H5, I5, r5, y5, st5, fr5⟩ => ?_
      obtain ⟨tx, rx, gx⟩ := yl x H5 y5
      have I5' := I5.pinned (fpX fr5 pnf) (T.obj _ _ st5)
      refine thn (hg C _ s5 σ1 H5 x u (fun σ6 H6 => ∃ τ6 G6, TLe H5 H6 ∧ RelSt X.K H6 τ6 σ6 ∧ RelG X.K H6 G6 ∧ tt τ6 G6 fun b G3 => if b = true then te τ6 G3 fun v G4 => acc.length + 1 ≤ 100000 ∧ compW Cd g tt te (ws.drop (i + 1)) τ6 G4 (acc ++ [v]) q else compW Cd g tt te (ws.drop (i + 1)) τ6 G3 acc q) I5' r5
        ⟨ws[i], τ1, G1, _, rx, s1.mono tx, gx, q1, fun σ6 H6 τ6 G6 t6 s6 g6 q6 => ⟨τ6, G6, t6, s6, g6, q6⟩⟩) fun _ s6 ⟨σ6, H6, I6, τ6, G6, t6, rs6, g6, q6⟩ => ?_
      refine thn (htt C _ s6 σ6 H6 (fun b H7 => ∃ G7, TLe H6 H7 ∧ RelG X.K H7 G7 ∧ (if b = true then te τ6 G7 fun v G4 => acc.length + 1 ≤ 100000 ∧ compW Cd g tt te (ws.drop (i + 1)) τ6 G4 (acc ++ [v]) q else compW Cd g tt te (ws.drop (i + 1)) τ6 G7 acc q)) I6
        ⟨τ6, G6, _, rs6, g6, q6, fun b H7 G7 t7 g7 q7 => ⟨G7, t7, g7, q7⟩⟩) fun ok s7 ⟨H7, I7, G7, t7, g7, q7⟩ => ?_
      have t17 : TLe H1 H7 := (tx.trans t6).trans t7
      -- what the pins keep up to a later state
      have keepFp : ∀ {σ8 : St} {H8 : Hp} {s8 : Shared}, Inv (bCx X N scope C fp s2 H2) ([(D, { cls := .type "list", data := .seq its.toArray kk })] ++ pinsAt fp s5.heap) σ8 H8 s8 → tn (i + 1) s8.heap ∧ (∀ b ∈ fp, H8 b = none) ∧ H8 D = none ∧ s8.heap.get? D = some { cls := .type "list", data := .seq its.toArray kk } ∧ ∀ b ∈ fp, ∃ o, s8.heap.get? b = some o := fun {σ8 H8 s8} I8 => by
        refine ⟨T.keep _ _ _ st5 fun b hb o e => (I8.pin (b, o) (List.mem_append_right _ (List.mem_append_right _ (mem_pinsAt hb e)))).1, fun b hb => ?_, (I8.pin (D, _) (List.mem_append_right _ (List.mem_append_left _ List.mem_cons_self))).2.1, (I8.pin (D, _) (List.mem_append_right _ (List.mem_append_left _ List.mem_cons_self))).1, fun b hb => ?_⟩
        · obtain ⟨o, e, _⟩ := T.obj _ _ st5 b hb
          exact (I8.pin (b, o) (List.mem_append_right _ (List.mem_append_right _ (mem_pinsAt hb e)))).2.1
        · obtain ⟨o, e, _⟩ := T.obj _ _ st5 b hb
          exact ⟨o, (I8.pin (b, o) (List.mem_append_right _ (List.mem_append_right _ (mem_pinsAt hb e)))).1⟩
      cases ok with
      | false =>
        rw [if_neg Bool.false_ne_true] at q7 ⊢
        obtain ⟨k1, k2, k3, k4, _⟩ := keepFp I7
        exact ⟨ws.length - (i + 1), by (clear I S hc T st hf hg htt hte itn hs gr hw hRR hP hD hfo hCC hns1 hsb1 hC hDC hDleC old hacc look cD sD fD fpX J0 hi J1 st1 fr1 d1 rv1 ra1 t1 s1 g1 hl1 eD J1p pnf ed c1 q1 go yl h4 I5 r5 y5 st5 fr5 tx rx gx I5' I6 t6 rs6 g6 q6 I7 t7 g7 t17 keepFp q7 k1 k2 k3 k4; omega), i + 1, σ6, H7, τ6, G7, acc, vs, its, rfl, hlt, I7.pins_of fun p hp => absurd hp (by simp), k1, k2, k3, ⟨kk, k4⟩, rv1, ra1.mono t17, t1.trans t17, rs6.mono t7, g7, q7, hl1⟩
      | true =>
        rw [if_pos rfl] at q7 ⊢
        refine thn (hte C _ s7 σ6 H7 (fun v H8 => ∃ w8 G8, TLe H7 H8 ∧ Rep X.K H8 w8 v ∧ RelG X.K H8 G8 ∧ acc.length + 1 ≤ 100000 ∧ compW Cd g tt te (ws.drop (i + 1)) τ6 G8 (acc ++ [w8]) q) I7
          ⟨τ6, G7, _, rs6.mono t7, g7, q7, fun v H8 w8 G8 t8 r8 g8 q8 => ⟨w8, G8, t8, r8, g8, q8⟩⟩) fun u8 s8 ⟨v8, H8, I8, rv8, w8, G8, t8, r8, g8, hl8, q8⟩ => ?_
        obtain ⟨k1, k2, k3, k4, k5⟩ := keepFp I8
        have t18 : TLe H1 H8 := t17.trans t8
        refine wpAny_list_append_plain ⟨kk, k4⟩ (fun h9 pl9 sb9 => ?_) (by rw [List.size_toArray, ← rv1.length, ← ra1.length]; exact line_le hl1)
        have I9 : Inv (bCx X N scope C fp s2 H2) [] σ6 H8 { s8 with heap := h9 } := (I8.pins_of (pins' := []) fun p hp => absurd hp (by simp)).turned (t' := s8.toks) (fun b o hb e => (sb9.2 b hb).trans e) k3 hDC (.inr (by show s2.heap.objs.size ≤ D; rw [hD]; exact Nat.le_refl _)) (fun x c e => cD x c e) fun p hp => absurd (show p ∈ ([] : List (Addr × Obj)) from hp) (by simp)
        refine ⟨ws.length - (i + 1), by (clear I S hc T st hf hg htt hte itn hs gr hw hRR hP hD hfo hCC hns1 hsb1 hC hDC hDleC old hacc look cD sD fD fpX J0 hi J1 st1 fr1 d1 rv1 ra1 t1 s1 g1 hl1 eD J1p pnf ed c1 q1 go yl h4 I5 r5 y5 st5 fr5 tx rx gx I5' I6 t6 rs6 g6 q6 I7 t7 g7 t17 keepFp q7 I8 rv8 t8 r8 g8 hl8 q8 k1 k2 k3 k4 k5 t18 pl9 sb9 I9; omega), i + 1, σ6, H8, τ6, G8, acc ++ [w8], vs ++ [v8], its ++ [u8], rfl, hlt, I9, T.keep _ _ _ k1 fun b hb o e => (sb9.2 b (fun z => fD (z ▸ hb))).trans e, k2, k3, by simpa using pl9, rv1.append (.cons rv8 .nil), (ra1.mono t18).append (.cons r8 .nil), t1.trans t18, (rs6.mono t7).mono t8, g8, q8, by rw [List.length_append]; exact hl8⟩
    · have e : i = ws.length := by (clear I S hc T st hf hg htt hte itn hs gr hw hRR hP hD hfo hCC hns1 hsb1 hC hDC hDleC old hacc look cD sD fD fpX J0 J1 st1 fr1 d1 rv1 ra1 t1 s1 g1 q1 hl1 eD J1p pnf; omega)
      subst e
      rw [List.drop_length] at q1
      refine thn (T.done (bCx X N scope C fp s2 H2) rfl rfl rfl hc _ _ s σ1 H1 nox J1p (fpX fr1 pnf) st1 (itn.stop _ H1 G1 t1 g1 q1.1 (Nat.le_refl _))) fun r s4 ⟨hr, I4⟩ => ?_
      subst hr
      have eD4 := (I4.pin (D, _) (List.mem_append_right _ List.mem_cons_self)).1
      have zl : vs.length ≤ sizeLine := by rw [← ra1.length]; exact line_le hl1
      have hb2 : ∀ b o, s2.heap.get? b = some o → b ≠ D := fun b o e => by
        have := Heap.lt_size e
        rw [hD] at this
        exact Nat.ne_of_lt this
      refine hRR D C s4 ⟨upd H1 D (.lst vs), G1, acc, let ⟨m, hn, _⟩ := I4.loc; ⟨m, hn⟩, ?_, ?_, by rw [hD]; exact hDleC, t1.trans (TLe.new d1 _), ?_, gr.fresh (I.hok.fresh (by rw [hD]; exact Nat.le_refl _)), q1.2⟩
      · refine I.call' (ch := fp) I4.os ⟨fun b o e n hb hx => I4.base.keep b o e n hb hx, fun b o e n hb hx => I4.base.slot b o e n hb hx, fun b o e n hx => ?_, fun b o e hx => I4.base.there b o e hx, fun b xs e => ?_, fun b o u e => ?_, fun b ps e => ?_⟩ ?_ I4.bare fun b hb => ⟨(hf b hb).2.2.2.1, (hf b hb).2.1, fun x c e => (hf b hb).2.2.2.2.1 x c e, fun p hp => (hf b hb).2.2.2.2.2 p hp⟩
        · rw [upd_ne (hb2 b o e)]; exact I4.base.free b o e n hx
        · rw [upd_ne (ne_of_none (I4.base.tups b xs e) d1)]; exact I4.base.tups b xs e
        · rw [upd_ne (ne_of_none (I4.base.frzs b o u e) d1)]; exact I4.base.frzs b o u e
        · obtain ⟨more, e'⟩ := I4.base.tbls b ps e
          exact ⟨more, by rw [upd_ne (ne_of_none e' d1)]; exact e'⟩
        · intro b u e
          by_cases hbD : b = D
          · subst hbD
            rw [upd_same] at e; cases e
            exact ⟨zl, its, kk, rv1, eD4⟩
          · rw [upd_ne hbD] at e
            exact (I4.hok b u e).stay (fun c v _ q => q) (fun c q => by rw [upd_ne (ne_of_none q d1)]; exact q) fun c xs q => by rw [upd_ne (ne_of_none q d1)]; exact q
      · rw [upd_ne (Ne.symm hDC)]; exact I4.free
      · exact (g1.upd (TLe.new d1 _) (g1.fresh d1)).track upd_same (ra1.mono (TLe.new d1 _)) hl1
  exact codeAny_compStart_list loop (T.self _ 0 _ _ _ (T.keep _ _ _ st fun b _ o e => old b o e) loop)
noncomputable def wComp (wi : WI) (fv : List (Option Nat)) (g : WG) (tt : WT) (te : WE) : WE := fun τ G q => wi τ G fun ws Cd G1 => compW Cd g tt te ws (pick fv τ) G1 [] fun rs G2 => ∀ p, G1 p = none → q (.ref p) (updG G2 p (.lst rs))
theorem qe_comp {wi : WI} (S : CompSc X scope N fv) (hc : X.calm = true) (hi : QI X tg iter wi) (hg : ∀ C fp s2 H2, QG (bCx X N scope C fp s2 H2) tg g) (htt : ∀ C fp s2 H2, QTs (bCx X N scope C fp s2 H2) ifs tt) (hte : ∀ C fp s2 H2, QE (bCx X N scope C fp s2 H2) elt te)
    (hs : ∀ x, foldedSetIterable iter X.env x = pure x := by intro _; rfl) : QE X (.ListComp elt [⟨tg, iter, ifs, 0⟩] scope pos) (wComp wi fv g tt te) := by
  intro pins s σ H Q I ⟨τ, G, q, hτ, hG, ht, hQ⟩
  rw [eval_ListComp]
  refine wpAny_comprehension_free (use := none) rfl hs (closure_of (S.cells I)) S.kind S.names (thn (hi pins s σ H (fun J H1 => ∃ ws Cd G1, TLe H H1 ∧ RelG X.K H1 G1 ∧ Itn X.K J ws Cd H1 ∧ compW Cd g tt te ws (pick fv τ) G1 [] fun rs G2 => ∀ p, G1 p = none → q (.ref p) (updG G2 p (.lst rs))) I
    ⟨τ, G, _, hτ, hG, ht, fun J H1 ws C G1 t1 g1 it r1 => ⟨ws, C, G1, t1, g1, it, r1⟩⟩) fun v s1 h1 => thn h1 fun itv s2 h2 => ?_)
  obtain ⟨it, fp, tn, J, H2, e, I2, T, st2, f2, ws, Cd, G1, t1, g1, itn, hw⟩ := h2
  subst e
  refine comp_block (RR := fun acc C => compPost (model X.prog X.w) X.A X.xe none (EP X pins σ Q) acc C) I2 S hc T st2 f2 (fun C => hg C fp s2 H2) (fun C => htt C fp s2 H2) (fun C => hte C fp s2 H2) itn (hτ.mono t1) g1 hw fun D C s' ⟨Hf, Gf, rs, ⟨m, hn⟩, I5, hC, hCs, t5, g5, hD, q5⟩ => ?_
  refine ⟨m, hn, fun h' sb => ?_⟩
  have hlt : C ≠ X.env.locals := fun z => absurd I2.lt (Nat.not_lt.mpr (z ▸ hCs))
  have I6 : Inv X pins σ Hf { s' with heap := h' } := I5.turned (t' := s'.toks) (fun b o hb e => (sb.2 b hb).trans e) hC hlt (.inr (Nat.le_trans I2.sz hCs)) (fun x c e z => by
    obtain ⟨v, o, ho, _⟩ := I2.cell x c e
    exact absurd (Heap.lt_size ho) (Nat.not_lt.mpr (z ▸ hCs))) fun p hp z => absurd (Heap.lt_size (I2.pin p hp).1) (Nat.not_lt.mpr (z ▸ hCs))
  exact ⟨.ref D, Hf, I6, rfl, hQ _ Hf _ _ (t1.trans t5) (.ref D) g5 (q5 D hD)⟩
end
end L2
namespace L2
open PySem PySem.Spec PyProof.Rows
section
variable {P : Program} {w : World} {K : PySem.W.Frag}
end
noncomputable def zipW : List W → List W → List W
  | x :: xs, y :: ys => .tup [x, y] :: zipW xs ys
  | _, _ => []
section
variable {X : Cx}
noncomputable def jZip (ta : WA) : WI := fun τ G r => ta τ G fun ws G1 => match ws with
  | [.tup xs, .tup ys] => r (zipW xs ys) (fun _ => True) G1
  | _ => False
noncomputable def wNeg (te : WE) : WE := fun τ G q => te τ G fun x G1 => match x with | .int i => q (.int (-i)) G1 | _ => False
theorem qe_neg {a : Expr} {ta : WE} {pos : Pos} (ha : QE X a ta) : QE X (.UnaryOp .USub a pos) (wNeg ta) :=
  (pe_un un_neg ha).imp fun σ H Q z0 => z0.el fun τ G q hs hg ht hQ => ⟨τ, G, _, hs, hg, ht, fun v H1 w G1 t1 r1 g1 q1 => by
    split at q1
    · cases r1
      exact ⟨_, rfl, hQ _ H1 _ G1 t1 (.int _) g1 q1⟩
    · exact q1.elim⟩
noncomputable def Fx (P : Program) (w : World) (K : PySem.W.Frag) (mg : Str → Option Value) (base : Heap) (x : Str) (ps : List Str) (k : Nat) (sp : WSp) : Prop :=
  ∃ (f : Addr) (fd : FuncData), WFn P w K mg base k f fd ps sp ∧ mg x = some (.ref f) ∧ PySem.W.keepIn K (.ref f) = true ∧ Binds K fd ps []
theorem qe_fx {x : Str} {ps : List Str} {k : Nat} {sp : WSp} {p pos : Pos} {e : Expr} {es : List Expr} {t : WA} (F : Fx X.prog X.w X.K X.mg X.base x ps k sp) (hr : Room k X.A) (hg : Gl X x) (ha : QA X (e :: es) t) (hdb : (x == ("__debug__" : Str)) = false := by decide)
    (he : starEach (e :: es) X.env = (false, eval e X.env) :: starEach es X.env := by rfl) (hpl : (backTo pos (starEach es X.env)).any (·.1) = false := by rfl) : QE X (.Call (.Name x p) (e :: es) [] pos) (wCall sp [] t) := by
  obtain ⟨f, fd, h1, h2, h3, h4⟩ := F
  exact qe_call h1 hr hg h2 h3 h4 ha hdb he hpl
noncomputable def compN (scope : Scope) : List Str := scope.names.map (·.1)
noncomputable def compFv (N : List Str) (scope : Scope) : List (Option Nat) := scope.names.map fun y => if y.2 == .free then N.findIdx? (· == y.1) else none
noncomputable def compOk (outer scope : Scope) : Bool :=
  scope.kind == .function && scope.names.all (fun y => y.2 != .cell) && scope.names.all (fun y => y.2 != .local || scope.names.lookup y.1 == some .local) &&
    scope.names.all (fun y => y.2 != .free || (outer.names.lookup y.1 == some .cell && scope.names.lookup y.1 != some .local))
theorem compSc {scope : Scope} (h : compOk X.env.scope scope = true) : CompSc X scope (compN scope) (compFv X.N scope) := by
  unfold compOk at h
  simp only [Bool.and_eq_true, List.all_eq_true, Bool.or_eq_true, bne_iff_ne, beq_iff_eq, ne_eq] at h
  obtain ⟨⟨⟨h1, h2⟩, h3⟩, h4⟩ := h
  refine ⟨h1, h2, fun x hx hk => (h3 x hx).resolve_left fun z => z hk, fun y hy hk => ((h4 y hy).resolve_left fun z => z hk).1, fun i j x e1 e2 => ?_, by simp [compN, compFv], fun {x} hx => ((h4 _ hx).resolve_left fun z => z rfl).2⟩
  unfold compN at e1
  unfold compFv at e2
  rw [List.getElem?_map] at e1 e2
  cases e : scope.names[i]? with
  | none => rw [e] at e1; cases e1
  | some y =>
    rw [e] at e1 e2
    have e1' : y.1 = x := Option.some.inj e1
    have e2' : (if (y.2 == NameKind.free) = true then X.N.findIdx? (· == y.1) else none) = some j := Option.some.inj e2
    have hm : y ∈ scope.names := List.mem_of_getElem? e
    split at e2'
    · rename_i hk
      have hk' : y.2 = .free := by simpa using hk
      have hy : y = (x, NameKind.free) := by rw [← e1', ← hk']
      have := List.findIdx?_eq_some_iff_getElem.mp e2'
      obtain ⟨hj, hj2, _⟩ := this
      refine ⟨?_, ?_, hy ▸ hm⟩
      · rw [List.getElem?_eq_getElem hj]
        have : X.N[j] = y.1 := by simpa using hj2
        rw [this, e1']
      · have := ((h4 y hm).resolve_left fun z => z hk').1
        rw [e1'] at this
        exact this
    · cases e2'
theorem qg_nameB (i : Nat) {N : List Str} {scope : Scope} {C : Addr} {fp : List Addr} {s2 : Shared} {H2 : Hp} {x : Str} {pos : Pos} (hN : N.Nodup) (hi : N[i]? = some x) (hx : Loc (bCx X N scope C fp s2 H2).env.scope x) (hf : (bCx X N scope C fp s2 H2).fn x = true ∨ (bCx X N scope C fp s2 H2).env.scope.names.lookup x = some .local := by first | exact .inl rfl | exact .inr rfl) :
    QG (bCx X N scope C fp s2 H2) (.Name x pos) (hName i) := qg_name (X := bCx X N scope C fp s2 H2) i hN hi hx hf
theorem b_tuple : bootBuiltins "tuple" = some (.type "tuple") := by decide +kernel
theorem b_max : bootBuiltins "max" = some (.builtin "max") := by decide +kernel
theorem b_sum : bootBuiltins "sum" = some (.builtin "sum") := by decide +kernel
theorem bodyOf {body : List Stmt} {R : WS → Prop} {t : WS} (h : QSs X body t) (g : R t) : ∃ t, QSs X body t ∧ R t := ⟨t, h, g⟩
end
end L2
namespace L2
open PySem PySem.Spec PyProof.Rows
mutual
noncomputable def W.lt : W → W → Bool
  | .int i, .int j => decide (i < j)
  | .tup xs, .tup ys => W.lts xs ys
  | _, _ => false
noncomputable def W.lts : List W → List W → Bool
  | [], [] => false
  | [], _ :: _ => true
  | _ :: _, [] => false
  | x :: xs, y :: ys => if W.eq x y = true then W.lts xs ys else W.lt x y
end
mutual
noncomputable def W.ord : W → W → Bool
  | .int _, .int _ => true
  | .tup xs, .tup ys => W.ords xs ys
  | _, _ => false
noncomputable def W.ords : List W → List W → Bool
  | x :: xs, y :: ys => if W.eq x y = true then W.ords xs ys else W.ord x y
  | _, _ => true
end
noncomputable def LtAt (A : Around) (s : Shared) (y x : Value) (b : Bool) : Prop :=
  ∀ (prog : Program) (w : World) (E : Value → Shared → Prop) (Q : Value → Shared → Prop), Q (.bool b) s → wpAny (model prog w) A (richCompare .Lt y x) Q E s
inductive CmpL (A : Around) (s : Shared) : List Value → List Value → Bool → Prop where
  | nn : CmpL A s [] [] false
  | nc {y : Value} {ys : List Value} : CmpL A s [] (y :: ys) true
  | cn {x : Value} {xs : List Value} : CmpL A s (x :: xs) [] false
  | eq {x y : Value} {xs ys : List Value} {r : Bool} (h : SeqAt.EqAt A s x y true) (t : CmpL A s xs ys r) : CmpL A s (x :: xs) (y :: ys) r
  | ne {x y : Value} {xs ys : List Value} {r : Bool} (h : SeqAt.EqAt A s x y false) (t : LtAt A s x y r) : CmpL A s (x :: xs) (y :: ys) r
section
open PySem.SeqAt
open PySem.AutoSeq1 (wpAny_loadPart')
open PySem.MeetsSeq PySem.MeetsSeq2 PySem.MeetsSeq3
theorem tuple_ltAt (l b : Addr) (items items2 : Array Value) (n n2 : Nat) (dd dd2 : Option Addr) (sl sl2 : Array (Option Value)) (r : Bool) :
    Meets (Builtin.«tuple.__lt__» ⟨[.ref l, .ref b], []⟩)
      (fun A R s => s.heap.get? l = some { cls := .type "tuple", dict := dd, data := .seq items n, slots := sl } ∧ s.heap.get? b = some { cls := .type "tuple", dict := dd2, data := .seq items2 n2, slots := sl2 } ∧
        CmpL A.in1 s items.toList items2.toList r ∧ R (.ok (.ret (.bool r))) s) :=
  .of_wp fun prog w A R s h => by
    obtain ⟨hp, g, d, tk, os⟩ := s; obtain ⟨hl, hb, hc, h⟩ := h
    have f2 := AutoSeq1.sub_tuple_tuple
    wp_walk using wpAny_loadPart' hl, wpAny_loadPart' hb, wpAny_forIn_list _ (fun rest b s' => b.1 = none ∧ s' = ⟨hp, g, d, tk, os⟩ ∧ ∃ (vs ws : List Value), rest = vs.zip ws ∧
      CmpL A.in1 ⟨hp, g, d, tk, os⟩ vs ws r ∧ vs.length + items2.size = ws.length + items.size) _
    case turn =>
      rintro ⟨y, x⟩ rest b s' ⟨hb', rfl, vs, ws, hz, hC, hlen⟩
      cases hC with
      | nn => rw [List.zip_nil_left] at hz; cases hz
      | nc => rw [List.zip_nil_left] at hz; cases hz
      | cn => rw [List.zip_nil_right] at hz; cases hz
      | eq he ht =>
        rw [List.zip_cons_cons] at hz
        injection hz with hyx hrest
        injection hyx with hy hx
        subst hy hx
        simp only [List.length_cons] at hlen
        refine wpAny_bind (he prog w _ _ ?_)
        wp_walk
        exact ⟨rfl, rfl, _, _, hrest, ht, by (clear hl hb hc h f2 hb' ht hrest he; omega)⟩
      | ne he ht =>
        rw [List.zip_cons_cons] at hz
        injection hz with hyx hrest
        injection hyx with hy hx
        subst hy hx
        refine wpAny_bind (he prog w _ _ ?_)
        have hri := ht prog w
        wp_walk using hri
        exact ⟨_, rfl, by simpa using h⟩
    case fin =>
      rintro ⟨b1, b2⟩ s' ⟨hb', rfl, vs, ws, hz, hC, hlen⟩
      simp only at hb'
      subst hb'
      have hv : r = decide (items.size < items2.size) := by
        cases hC with
        | nn => simp only [List.length_nil] at hlen; exact (decide_eq_false (by (clear hl hb f2 hz hc h; omega))).symm
        | nc => simp only [List.length_nil, List.length_cons] at hlen; exact (decide_eq_true (by (clear hl hb f2 hz hc h; omega))).symm
        | cn => simp only [List.length_nil, List.length_cons] at hlen; exact (decide_eq_false (by (clear hl hb f2 hz hc h; omega))).symm
        | eq he ht => rw [List.zip_cons_cons] at hz; cases hz
        | ne he ht => rw [List.zip_cons_cons] at hz; cases hz
      rw [hv] at h
      wp_walk
      exact ⟨_, rfl, by simpa [Builtin.Tuple.tupleCompareSizes] using h⟩
    case h =>
      exact ⟨rfl, rfl, _, _, rfl, hc, by simp; (clear hl hb hc h f2; omega)⟩
end
theorem LtAt.tuples {A : Around} {s : Shared} {l b : Addr} {items items2 : Array Value} {r : Bool} (hl : s.heap.IsTuple l items) (hb : s.heap.IsTuple b items2) (hu : A.units < cLine)
    (hc : CmpL A.in1 s items.toList items2.toList r) : LtAt A s (.ref l) (.ref b) r := fun prog w E Q h => by
  obtain ⟨⟨cls, dd, data, sl⟩, ho, hcl, n, hd⟩ := id hl
  obtain ⟨⟨cls2, dd2, data2, sl2⟩, ho2, hc2, n2, hd2⟩ := id hb
  simp only at hcl hd hc2 hd2
  subst hcl hd hc2 hd2
  exact richCompare_meets_room (op := .Lt) ⟨_, ho, rfl⟩ ⟨_, ho2, rfl⟩ PySem.F.slot_tuple_lt PySem.F.entry_tuple_lt (PySem.F.args_tuple_lt_2 _ _) (tuple_ltAt l b items items2 n n2 dd dd2 sl sl2 r)
    ⟨ho, ho2, hc, show Value.bool r ≠ Value.notImplemented ∧ Q (.bool r) s from ⟨(fun x => nomatch x), h⟩⟩ hu
section
variable {X : Cx} {pins : List (Addr × Obj)} {σ : St} {H : Hp} {s : Shared}
theorem ltL_rep (I : Inv X pins σ H s) (n : Nat) (A : Around)
    (ih : ∀ {w1 w2 : W} {v1 v2 : V} {u1 u2 : Value}, w1.dep < n → w1.flat = true → w2.flat = true → W.ord w1 w2 = true → Rep X.K H w1 v1 → Rep X.K H w2 v2 → RelV v1 u1 → RelV v2 u2 → LtAt A s u1 u2 (w1.lt w2)) (hu : A.units + n < cLine) :
    ∀ {ws us : List W} {xs ys : List V} {its its2 : List Value}, W.deps ws < n → W.flats ws = true → W.flats us = true → W.ords ws us = true → Reps X.K H ws xs → Reps X.K H us ys → Vals xs its → Vals ys its2 → CmpL A s its its2 (W.lts ws us) := by
  intro ws
  induction ws with
  | nil =>
    intro us xs ys its its2 hd f1 f2 ho r1 r2 q1 q2
    cases r1
    cases q1
    cases r2 with
    | nil => cases q2; simpa [W.lts] using CmpL.nn
    | cons _ _ => cases q2; simpa [W.lts] using CmpL.nc
  | cons x xs IH =>
    intro us vs1 vs2 its its2 hd f1 f2 ho r1 r2 q1 q2
    cases r1 with
    | cons r1 s1 =>
      cases q1 with
      | cons q1 t1 =>
        cases r2 with
        | nil => cases q2; simpa [W.lts] using CmpL.cn
        | @cons y ys _ _ r2 s2 =>
          cases q2 with
          | cons q2 t2 =>
            simp only [W.deps] at hd
            simp only [W.flats, Bool.and_eq_true] at f1 f2
            have e := (eq_rep I n A (w1 := x) (w2 := y) (by (clear I ih hu IH r1 s1 q1 t1 r2 s2 ho q2 t2 f1 f2; omega)) f1.1 f2.1 hu r1 r2 q1 q2).1
            rw [W.ords] at ho
            rw [W.lts]
            cases he : W.eq x y with
            | true =>
              rw [he] at e ho
              rw [if_pos rfl] at ho ⊢
              exact .eq e (IH (by (clear I ih hu IH r1 s1 q1 t1 r2 s2 ho q2 t2 f1 f2 e he; omega)) f1.2 f2.2 ho s1 s2 t1 t2)
            | false =>
              rw [he] at e ho
              rw [if_neg Bool.false_ne_true] at ho ⊢
              exact .ne e (ih (by (clear I ih hu IH r1 s1 q1 t1 r2 s2 ho q2 t2 f1 f2 e he; omega)) f1.1 f2.1 ho r1 r2 q1 q2)
theorem lt_rep (I : Inv X pins σ H s) : ∀ (n : Nat) (A : Around) {w1 w2 : W} {v1 v2 : V} {u1 u2 : Value}, w1.dep < n → w1.flat = true → w2.flat = true → W.ord w1 w2 = true → A.units + n < cLine → Rep X.K H w1 v1 → Rep X.K H w2 v2 → RelV v1 u1 → RelV v2 u2 →
    LtAt A s u1 u2 (w1.lt w2) := by
  intro n
  induction n with
  | zero => intro A w1 w2 v1 v2 u1 u2 h; (clear I; omega)
  | succ n ih =>
    intro A w1 w2 v1 v2 u1 u2 hd f1 f2 ho hu r1 r2 q1 q2
    cases r1 with
    | ref a => simp [W.flat] at f1
    | scr a => simp [W.flat] at f1
    | non => simp [W.ord] at ho
    | bl b => simp [W.ord] at ho
    | str b => simp [W.ord] at ho
    | int a =>
      cases r2 with
      | int b =>
        obtain ⟨t, rfl⟩ := q1
        obtain ⟨t', rfl⟩ := q2
        rw [W.lt]
        exact fun prog w E Q h => HT.rcLt_int A s a t b t' prog w E Q h
      | _ => simp [W.ord] at ho
    | @tup a ws xs h r =>
      cases r2 with
      | @tup b us ys h2 r2 =>
        cases (show u1 = Value.ref _ from q1)
        cases (show u2 = Value.ref _ from q2)
        obtain ⟨its, rv, p, _⟩ := Inv.tupH I h
        obtain ⟨its2, rv2, p2, _⟩ := Inv.tupH I h2
        have g1 : W.flats ws = true := by simpa [W.flat] using f1
        have g2 : W.flats us = true := by simpa [W.flat] using f2
        have ho' : W.ords ws us = true := by simpa [W.ord] using ho
        have hd' : W.deps ws < n := by simp only [W.dep] at hd; (clear I ih hu h r f1 h2 r2 f2 ho q1 q2 rv p rv2 p2 g1 g2 ho'; omega)
        have hui : A.in1.units + n < cLine := by show A.units + 1 + n < cLine; (clear I ih h r hd f1 h2 r2 f2 ho q1 q2 rv p rv2 p2 g1 g2 ho' hd'; omega)
        rw [W.lt]
        exact LtAt.tuples p p2 (by (clear I ih h r hd f1 h2 r2 f2 ho q1 q2 rv p rv2 p2 g1 g2 ho' hd' hui; omega)) (ltL_rep I n A.in1 (fun h1 h2 h3 h4 => ih A.in1 h1 h2 h3 h4 hui) hui hd' g1 g2 ho' r r2 rv rv2)
      | _ => simp [W.ord] at ho
end
section
variable {X : Cx}
noncomputable def rLt3 : W2 := fun x y G q => match x, y with
  | .int i, .int j => q (.bl (decide (i < j))) G
  | .tup xs, .tup ys => W.flats xs = true ∧ W.flats ys = true ∧ W.deps xs ≤ 149 ∧ W.ords xs ys = true ∧ q (.bl (W.lts xs ys)) G
  | _, _ => False
theorem q_lt3 {k : Nat} (hr : Room k X.A) : QOp X (compareOp .Lt) rLt3 := by
  intro pins s σ H x y v u Q I rx ry ⟨wx, wy, G, q, r1, r2, g, h, hQ⟩
  unfold rLt3 at h
  split at h
  · cases r1
    cases r2
    exact op_lt pins s σ H _ _ v u Q I rx ry ⟨_, _, rfl, rfl, hQ _ H _ G (TLe.refl H) (.bl _) g h⟩
  · rename_i xs ys
    obtain ⟨f1, f2, hd, ho, h⟩ := h
    have z := lt_rep I 151 X.A (w1 := .tup xs) (w2 := .tup ys) (by simp only [W.dep]; (clear hr I rx ry g hQ r1 r2 f1 f2 ho h; omega)) (by simpa [W.flat] using f1) (by simpa [W.flat] using f2) (by simpa [W.ord] using ho) (by have := hr.un; (clear hr I rx ry g hQ r1 r2 f1 f2 hd ho h; omega)) r1 r2 rx ry
    rw [W.lt] at z
    exact z X.prog X.w X.xe _ ⟨.bl _, H, I, rfl, hQ _ H _ G (TLe.refl H) (.bl _) g h⟩
  · exact h.elim
end
end L2
namespace L2
open PySem PySem.Spec PyProof.Rows
section
variable {X : Cx}
end
end L2
namespace L2
open PySem PySem.Spec PyProof.Rows
section
variable {X : Cx} {pins : List (Addr × Obj)} {σ : St} {H : Hp} {s : Shared}
theorem eqJ (I : Inv X pins σ H s) {n : Nat} {A : Around} {ws us : List W} {xs ys : List V} {its its2 : List Value} (hd : W.deps ws < n) (g1 : W.flats ws = true) (g2 : W.flats us = true) (hu : A.in1.units + n < cLine) (r : Reps X.K H ws xs) (r2 : Reps X.K H us ys) (rv : Vals xs its) (rv2 : Vals ys its2) :
    ∀ j (h1 : j < its.toArray.size) (h2 : j < its2.toArray.size), SeqAt.EqAt A.in1 s its.toArray[j] its2.toArray[j] (eqAtJ ws us j) := fun j j1 j2 => by
  have e1 : its.length = ws.length := by rw [← rv.length, r.length]
  have e2 : its2.length = us.length := by rw [← rv2.length, r2.length]
  rw [List.size_toArray] at j1 j2
  have ea : ws[j]? = some ws[j] := List.getElem?_eq_getElem (by (clear I hd g1 g2 hu r r2 rv rv2 j2 e2; omega))
  have eb : us[j]? = some us[j] := List.getElem?_eq_getElem (by (clear I hd g1 g2 hu r r2 rv rv2 j1 e1 ea; omega))
  obtain ⟨va, ea1, ra⟩ := r.get ea
  obtain ⟨vb, eb1, rb⟩ := r2.get eb
  obtain ⟨ua, ea2, qa⟩ := rv.get ea1
  obtain ⟨ub, eb2, qb⟩ := rv2.get eb1
  have za : its.toArray[j] = ua := by
    have := (List.getElem?_eq_some_iff.mp ea2).2
    simpa using this
  have zb : its2.toArray[j] = ub := by
    have := (List.getElem?_eq_some_iff.mp eb2).2
    simpa using this
  rw [za, zb]
  have := (eq_rep I n A.in1 (w1 := ws[j]) (w2 := us[j]) (Nat.lt_of_le_of_lt (W.deps_get ea) hd) (W.flats_get g1 ea) (W.flats_get g2 eb) hu ra rb qa qb).1
  unfold eqAtJ
  rw [ea, eb]
  exact this
theorem eqs_len {ws us : List W} (h : ws.length ≠ us.length) : W.eqs ws us = false := by
  cases e : W.eqs ws us with
  | false => rfl
  | true => exact absurd ((W.eqs_iff ws us).mp e).1 h
end
section
variable {X : Cx}
noncomputable def rEq4 : W2 := fun x y G q => match x, y with
  | .ref a, .ref b => ∃ xs ys, G a = some (.lst xs) ∧ G b = some (.lst ys) ∧ W.flats xs = true ∧ W.flats ys = true ∧ W.deps xs ≤ 149 ∧ q (.bl (W.eqs xs ys)) G
  | x, y => rEq3 x y G q
noncomputable def rNe4 : W2 := fun x y G q => match x, y with
  | .ref a, .ref b => ∃ xs ys, G a = some (.lst xs) ∧ G b = some (.lst ys) ∧ W.flats xs = true ∧ W.flats ys = true ∧ W.deps xs ≤ 149 ∧ q (.bl (!(W.eqs xs ys))) G
  | x, y => rNe3 x y G q
theorem q_eq4 {k : Nat} (hr : Room k X.A) : QOp X (compareOp .Eq) rEq4 := by
  intro pins s σ H x y v u Q I rx ry ⟨wx, wy, G, q, r1, r2, g, h, hQ⟩
  unfold rEq4 at h
  split at h
  · obtain ⟨ws, us, ea, eb, f1, f2, hd, h⟩ := h
    cases r1
    cases r2
    cases rx
    cases ry
    obtain ⟨_, xs, e1, ra⟩ := g _ _ ea
    obtain ⟨_, ys, e2, rb⟩ := g _ _ eb
    obtain ⟨its, rv, p, _⟩ := I.list (SqL.of e1)
    obtain ⟨its2, rv2, p2, _⟩ := I.list (SqL.of e2)
    have l1 : its.length = ws.length := by rw [← rv.length, ra.length]
    have l2 : its2.length = us.length := by rw [← rv2.length, rb.length]
    have hu := hr.un
    have fin : EP X pins σ Q (.bool (W.eqs ws us)) s := ⟨.bl _, H, I, rfl, hQ _ H _ G (TLe.refl H) (.bl _) g h⟩
    by_cases hl : ws.length = us.length
    · have c1 := SeqAt.RcAt.lists p.isList p2.isList (by rw [List.size_toArray, List.size_toArray, l1, l2, hl]) (A := X.A) (by (clear hr I g hQ ea eb f1 f2 hd h e1 ra e2 rb rv p rv2 p2 l1 l2 fin hl; omega)) (eqJ I (n := 150) (by (clear hr I g hQ ea eb f1 f2 h e1 ra e2 rb rv p rv2 p2 l1 l2 hu fin hl; omega)) f1 f2 (by show X.A.units + 1 + 150 < cLine; (clear hr I g hQ ea eb f1 f2 hd h e1 ra e2 rb rv p rv2 p2 l1 l2 fin hl; omega)) ra rb rv rv2)
      have er := eqs_range ws us
      rw [← hl, Nat.min_self, beq_self_eq_true, Bool.and_true] at er
      rw [List.size_toArray, l1, er] at c1
      exact c1 X.prog X.w X.xe _ fin
    · rw [eqs_len hl] at fin
      exact SeqAt.RcAt.lists_lengths p.isList p2.isList (by rw [List.size_toArray, List.size_toArray, l1, l2]; simpa using hl) (A := X.A) (by (clear hr I g hQ ea eb f1 f2 hd h e1 ra e2 rb rv p rv2 p2 l1 l2 fin hl; omega)) X.prog X.w X.xe _ fin
  · exact q_eq hr pins s σ H x y v u Q I rx ry ⟨wx, wy, G, q, r1, r2, g, h, hQ⟩
theorem q_ne4 {k : Nat} (hr : Room k X.A) : QOp X (compareOp .NotEq) rNe4 := by
  intro pins s σ H x y v u Q I rx ry ⟨wx, wy, G, q, r1, r2, g, h, hQ⟩
  unfold rNe4 at h
  split at h
  · obtain ⟨ws, us, ea, eb, f1, f2, hd, h⟩ := h
    cases r1
    cases r2
    cases rx
    cases ry
    obtain ⟨_, xs, e1, ra⟩ := g _ _ ea
    obtain ⟨_, ys, e2, rb⟩ := g _ _ eb
    obtain ⟨its, rv, p, _⟩ := I.list (SqL.of e1)
    obtain ⟨its2, rv2, p2, _⟩ := I.list (SqL.of e2)
    have l1 : its.length = ws.length := by rw [← rv.length, ra.length]
    have l2 : its2.length = us.length := by rw [← rv2.length, rb.length]
    have hu := hr.un
    have fin : EP X pins σ Q (.bool (!(W.eqs ws us))) s := ⟨.bl _, H, I, rfl, hQ _ H _ G (TLe.refl H) (.bl _) g h⟩
    by_cases hl : ws.length = us.length
    · have c1 := SeqAt.RcNeAt.lists p.isList p2.isList (by rw [List.size_toArray, List.size_toArray, l1, l2, hl]) (A := X.A) (by (clear hr I g hQ ea eb f1 f2 hd h e1 ra e2 rb rv p rv2 p2 l1 l2 fin hl; omega)) (eqJ I (n := 150) (by (clear hr I g hQ ea eb f1 f2 h e1 ra e2 rb rv p rv2 p2 l1 l2 hu fin hl; omega)) f1 f2 (by show X.A.units + 1 + 150 < cLine; (clear hr I g hQ ea eb f1 f2 hd h e1 ra e2 rb rv p rv2 p2 l1 l2 fin hl; omega)) ra rb rv rv2)
      have er := eqs_range ws us
      rw [← hl, Nat.min_self, beq_self_eq_true, Bool.and_true] at er
      rw [List.size_toArray, l1, er] at c1
      exact c1 X.prog X.w X.xe _ fin
    · rw [eqs_len hl] at fin
      exact SeqAt.RcNeAt.lists_lengths p.isList p2.isList (by rw [List.size_toArray, List.size_toArray, l1, l2]; simpa using hl) (A := X.A) (by (clear hr I g hQ ea eb f1 f2 hd h e1 ra e2 rb rv p rv2 p2 l1 l2 fin hl; omega)) X.prog X.w X.xe _ fin
  · exact q_ne hr pins s σ H x y v u Q I rx ry ⟨wx, wy, G, q, r1, r2, g, h, hQ⟩
end
end L2
namespace L2
open PySem PySem.Spec PyProof.Rows
structure CR3 (lo hi c : Int) : Prop where
  c0 : 0 < c
  c1 : c < 1000
  l0 : -(2 ^ 40) ≤ lo
  l1 : lo < 2 ^ 40
  h0 : -(2 ^ 40) ≤ hi
  h1 : hi < 2 ^ 40
noncomputable def rsz (lo hi c : Int) : Int := Builtin.Range.rangeSize lo hi c
section
variable {X : Cx} {tg : Expr}
noncomputable def upS (lo c : Int) (n : Nat) : List W := (List.range n).map fun (i : Nat) => W.int (lo + (i : Int) * c)
noncomputable def jRng3 (ta : WA) : WI := fun τ G r => ta τ G fun ws G1 => match ws with
  | [.int lo, .int hi, .int c] => CR3 lo hi c ∧ r (upS lo c (rsz lo hi c).toNat) (fun _ => True) G1
  | _ => False
noncomputable def upL (lo : Int) (n : Nat) : List W := (List.range n).map fun (i : Nat) => W.int (lo + (i : Int))
noncomputable def jRng2 (ta : WA) : WI := fun τ G r => ta τ G fun ws G1 => match ws with
  | [.int i, .int j] => (-(2 ^ 62) ≤ i ∧ i < 2 ^ 62 ∧ -(2 ^ 62) ≤ j ∧ j < 2 ^ 62) ∧ r (upL i (j - i).toNat) (fun _ => True) G1
  | _ => False
end
section
variable {X : Cx}
noncomputable def cMin : List W → Gp → WK → Prop := fun ws G q => match ws with
  | [.int i, .int j] => q (.int (if j < i then j else i)) G
  | _ => False
noncomputable def BigM (i j : Int) : Prop := i.natAbs < 2 ^ 4000 ∧ j.natAbs < 2 ^ 4000
noncomputable def BigD (j : Int) : Prop := 0 < j ∧ j.natAbs < 2 ^ 4000
noncomputable def CMulB (i j : Int) : Prop := CMul i j ∨ BigM i j
theorem CMulB.ok {i j : Int} (h : CMulB i j) : IntMulOk i j := by
  rcases h with h | ⟨h1, h2⟩
  · exact h.ok
  · have b1 := PyProof.Rows.intBits_le h1
    have b2 := PyProof.Rows.intBits_le h2
    unfold IntMulOk Builtin.Int.intTooBig
    have : ¬ (((Builtin.Int.intBits i + Builtin.Int.intBits j : Int)) > bitsLine) := by
      have hb : (8000 : Int) ≤ bitsLine := by decide
      (clear h1 h2; omega)
    simp [this]
noncomputable def CDivB (i j : Int) : Prop := CDiv i j ∨ BigD j
theorem op_fdivB : OpR X (binaryOp .FloorDiv) (rI CDivB fun i j => .int (i / j)) := opI fun i j _ _ _ _ _ hc q => by
  rcases hc with hc | ⟨h0, h1⟩
  · have h1 : (0 : Int) < j := hc.1
    have h2 : j < 1073741824 := hc.2
    exact floordiv_int (by (clear q hc; omega)) (by rw [Int.fdiv_eq_ediv_of_nonneg i (by (clear q hc; omega))]; exact q) (.inl (PyProof.noPylong_small (by (clear q hc; omega))))
  · refine floordiv_int (by (clear q h1; omega)) (by rw [Int.fdiv_eq_ediv_of_nonneg i (by (clear q h1; omega))]; exact q) (.inl (PyProof.noPylong_of_log2 ?_))
    have hne : j.natAbs ≠ 0 := by (clear q h1; omega)
    exact Nat.lt_of_lt_of_le ((Nat.log2_lt hne).mpr h1) (by decide)
noncomputable abbrev vDivB : W2 := vInt CDivB fun i j => .int (i / j)
theorem q_divB : QOp X (binaryOp .FloorDiv) vDivB := q_rint op_fdivB
end
end L2
namespace L2
open PySem PySem.Spec PyProof.Rows
section
variable {X : Cx}
noncomputable def wPar (i j : Nat) (ta : WA) : WS := fun d τ G => ta τ G fun ws G1 => match ws with
  | [v, w] => d.nx ((τ.set i (some v)).set j (some w)) G1
  | _ => False
end
end L2
namespace L2
open PySem PySem.Spec PyProof.Rows
structure FunD (K : PySem.W.Frag) (x qual : Str) (st : Stmt) (f : Addr) (fd : FuncData) (T : Addr) (ds : List Value) : Prop where
  ex : ∃ (oc : Value) (od : Option Addr) (kV doc pm : Value) (an : Option Addr) (cdv ct : Value) (osl : Array (Option Value)) (ot : Obj) (nt : Nat),
    fd = PySem.W.fnOf x qual (defArgs st) (defBody st) (defScope st) (.ref T) kV doc pm an cdv ct ∧ K.lookup f = some ⟨oc, od, .func fd, osl⟩ ∧ PySem.W.codeIn K cdv qual = true ∧ K.lookup T = some ot ∧ ot.data = .seq ds.toArray nt
  kp : PySem.W.keepIn K (.ref f) = true
section
variable {P : Program} {w : World} {K : PySem.W.Frag} {mg : Str → Option Value} {base : Heap} {x qual : Str} {st : Stmt} {f T : Addr} {fd : FuncData} {ds : List Value}
theorem FunD.binds {ps : List Str} {es : List Value} (F : FunD K x qual st f fd T ds)
    (h : ∀ (kV doc pm : Value) (an : Option Addr) (cdv ct : Value) (us : List Value), (us ++ es).length = ps.length → ∃ k, bindArgs (PySem.W.fnOf x qual (defArgs st) (defBody st) (defScope st) (.ref T) kV doc pm an cdv ct) ⟨us, []⟩ = seqItems? (.ref T) >>= k ∧ k (some ds.toArray) = pure (ps.zip (us ++ es))) : Binds K fd ps es := by
  obtain ⟨oc, od, kV, doc, pm, an, cdv, ct, osl, ot, nt, rfl, lk, hcd, ht, hd⟩ := F.ex
  intro s us KX hl
  obtain ⟨k, h1, h2⟩ := h kV doc pm an cdv ct us hl
  exact BindsTo.of_defaults (T := T) rfl (KX _ _ ht) hd h1 h2
end
section
variable {X : Cx}
theorem qe_fxn {x : Str} {ps : List Str} {k : Nat} {sp : WSp} {p pos : Pos} {e : Expr} {es : List Expr} {t : WA} (F : Fx X.prog X.w X.K X.mg X.base x ps k sp) (hr : Room k X.A) (hg : Gl X x) (ha : QA X (e :: es) t) (_hn : (e :: es).length = ps.length := by rfl) (hdb : (x == ("__debug__" : Str)) = false := by decide)
    (he : starEach (e :: es) X.env = (false, eval e X.env) :: starEach es X.env := by rfl) (hpl : (backTo pos (starEach es X.env)).any (·.1) = false := by rfl) : QE X (.Call (.Name x p) (e :: es) [] pos) (wCall sp [] t) := qe_fx F hr hg ha hdb he hpl
noncomputable def wNever : WS := fun _ _ _ => False
end
end L2
namespace L2
open PySem PySem.Spec PyProof.Rows
variable {X : Cx}
noncomputable def cMax4 : List W → Gp → WK → Prop := fun ws G q => match ws with
  | [.int i, .int j] => q (.int (if j > i then j else i)) G
  | [.int i, .int j, .int k] => q (.int (if j > i then (if k > j then k else j) else if k > i then k else i)) G
  | [.ref a] => ∃ ns : List Int, G a = some (.lst (ns.map W.int)) ∧ ns ≠ [] ∧ ∀ m : Int, m ∈ ns → (∀ x, x ∈ ns → x ≤ m) → q (.int m) G
  | _ => False
theorem q_max4 (hc : X.calm = true) : QCall X (.builtin "max") cMax4 := by
  intro pins s σ H xs us Q I r ⟨ws, G, q, rw', g, h, hQ⟩
  unfold cMax4 at h
  split at h
  · obtain ⟨v, u, rfl, r1, r2⟩ := rw'.two
    cases r1
    cases r2
    exact call_max2 hc pins s σ H _ us Q I r ⟨_, _, rfl, hQ _ H _ G (TLe.refl H) (.int _) g h⟩
  · rename_i i j k
    cases rw' with
    | cons r1 rw' =>
      cases rw' with
      | cons r2 rw' =>
        cases rw' with
        | cons r3 rw' =>
          cases rw'
          cases r1
          cases r2
          cases r3
          cases r with
          | cons a1 r =>
            cases r with
            | cons a2 r =>
              cases r with
              | cons a3 r =>
                cases r
                obtain ⟨t1, rfl⟩ := a1
                obtain ⟨t2, rfl⟩ := a2
                obtain ⟨t3, rfl⟩ := a3
                refine max_three_ints (I.ok.hd hc) fun h' tk k' => ⟨.int (if j > i then (if k > j then k else j) else if k > i then k else i), H, I.kept k', ?_, hQ _ H _ G (TLe.refl H) (.int _) g h⟩
                by_cases h1 : j > i
                · by_cases h2 : k > j
                  · rw [if_pos h1, if_pos h2, if_pos h1, if_pos h2]; exact ⟨_, rfl⟩
                  · rw [if_pos h1, if_neg h2, if_pos h1, if_neg h2]; exact ⟨_, rfl⟩
                · by_cases h2 : k > i
                  · rw [if_neg h1, if_pos h2, if_neg h1, if_pos h2]; exact ⟨_, rfl⟩
                  · rw [if_neg h1, if_neg h2, if_neg h1, if_neg h2]; exact ⟨_, rfl⟩
  · rename_i a
    obtain ⟨ns, e, hne, h⟩ := h
    obtain ⟨v, rfl, r1⟩ := rw'.one
    cases r1
    obtain ⟨_, zs, e1, rr⟩ := g a _ e
    obtain rfl := rr.ints_of
    obtain ⟨u, rfl, ru⟩ := vals1 r
    cases (show u = Value.ref a from ru)
    obtain ⟨its, rv, p, hz⟩ := I.list (SqL.of e1)
    have hi : IntsAre its ns := L2.intsAre_of rv
    obtain ⟨ys, ey⟩ := hi.allInts.items
    have hn : (ys.toList.map (·.1)) = ns := by rw [← nums_intItems, ← ey, ← hi.numsOf]
    have hl : s.heap.IsList a (intItems ys) := by rw [← ey]; exact p.isList
    have hsz : ys.size = ns.length := by rw [← hn]; simp
    have hpos : 0 < ys.size := by
      rw [hsz]
      exact List.length_pos_iff.mpr hne
    refine max_intList (I.ok.hd hc) hl hpos fun v h' tk hv hk => ?_
    have ab := argBest_gt (numAt ys) (ys.size - 1)
    generalize argBest (fun i j => decide (numAt ys i > numAt ys j)) (ys.size - 1) = ix at hv ab
    have hix : ix < ys.size := by (clear hc I g hQ e hne h rw' e1 rr ru r rv p hz hi ey hn hl hk hv; omega)
    have hna : ∀ j (hj : j < ys.size), numAt ys j = ns[j]'(by (clear hc I g hQ e hne h rw' e1 rr ru r rv p hz hi ey hn hl hpos hk hv ab hix; omega)) := fun j hj => by
      unfold numAt
      rw [Array.getElem?_eq_getElem hj]
      simp [← hn]
    have hv2 : v = Value.int (ys[ix].1) (ys[ix].2) := by
      unfold intItems at hv
      rw [Array.getElem?_map, Array.getElem?_eq_getElem hix] at hv
      simpa using hv.symm
    have hm : ys[ix].1 = ns[ix]'(by (clear hc I g hQ e hne h rw' e1 rr ru r rv p hz hi ey hn hl hpos hk hv ab hna hv2; omega)) := by
      have := hna ix hix
      unfold numAt at this
      rw [Array.getElem?_eq_getElem hix] at this
      simpa using this
    rw [hm] at hv2
    subst hv2
    refine ⟨.int _, H, I.kept hk, ⟨_, rfl⟩, hQ _ H _ G (TLe.refl H) (.int _) g (h _ (List.getElem_mem _) fun x hx => ?_)⟩
    obtain ⟨j, hj, rfl⟩ := List.mem_iff_getElem.mp hx
    have := ab.2 j (by (clear hc I g hQ e hne h rw' e1 rr ru r rv p hz hi ey hn hl hk ab hna hm hv hx; omega))
    rw [hna j (by (clear hc I g hQ e hne h rw' e1 rr ru r rv p hz hi ey hn hl hpos hk ab hna hm hv hx this; omega)), hna ix hix] at this
    exact this
  · exact h.elim
theorem qe_gint {x : Str} {i : Int} {t : Tok} {pos : Pos} (hg : Gl X x) (hm : X.mg x = some (.int i t)) (hd : (x == ("__debug__" : Str)) = false := by decide) : QE X (.Name x pos) (wC (.int i)) := qe_const (pe_glob (v := .int i) hg hm ⟨t, rfl⟩ hd) fun _ => .int i
end L2
namespace L2
open PySem PySem.Spec PyProof.Rows
theorem XC.of {K : PySem.W.Frag} {C : Addr} (q : PySem.W.excIn K C bmV "ValueError.__new__" = true) : ∃ bm, XC K C bm := by
  unfold PySem.W.excIn at q
  split at q
  · rename_i d1 cl sl lk
    split at q
    · rename_i C2 tl j0 j1 j2 j3 id j5 hmro hsl
      simp only [beq_iff_eq, Bool.not_eq_true', Bool.and_eq_true] at q
      obtain ⟨⟨⟨⟨⟨e1, e2⟩, e3⟩, e4⟩, e5⟩, e6⟩ := q
      subst e1 e2
      obtain ⟨nm, bs, mro, ns, qn, hd, sn, sb, ab, co, del⟩ := cl
      obtain ⟨ls⟩ := sl
      dsimp only at hmro hsl e3 e5 e6
      subst hmro hsl e3
      refine ⟨tl, fun h X => ⟨ns, nm, qn, bs, hd, sn, sb, ab, co, d1, j0, j1, j2, j3, j5, _, X _ _ lk, .of_isNs (PySem.W.isNs_of_in X e5), PySem.W.nsMap_none_of_in X e5 e6, PySem.W.tail_of_in X e4⟩, fun v => ?_⟩
      unfold PySem.W.mroIn PySem.W.clsIn
      rw [lk]
      rfl
    · cases q
  · cases q
theorem XC.has {K : PySem.W.Frag} {C : Addr} {bm : List Value} (x : XC K C bm) {h : Heap} (X : K.In h) {t : String} {b : Bool} (hb : bmV.contains (.type t) = b) : (Value.ref C :: bm).contains (.type t) = b := by
  obtain ⟨_, _, _, _, _, _, _, _, _, _, _, _, _, _, _, _, _, _, _, T⟩ := x.obj h X
  rw [List.contains_cons, T.hasType hb]
  rfl
section
variable {M : Model} {A : Around} {E : Value → Shared → Prop} {K : PySem.W.Frag} {C D a : Addr} {bm bmD : List Value} {oe : Obj}
theorem exc_match {s : Shared} {Q : Bool → Shared → Prop} {b : Bool} (X : K.In s.heap) (hC : XC K C bm) (hD : XC K D bmD) (he : s.heap.get? a = some oe) (hcls : oe.cls = .ref C) (hs : PySem.W.mroIn K C (.ref D) = some b) (hq : Q b s) :
    wpAny M A (excMatches (.ref a) (.ref D)) Q E s := by
  obtain ⟨h, g, d, t, os⟩ := s
  have hb := hD.has X (t := "BaseException") (b := true) rfl
  have hcd : (Value.ref C :: bm).contains (.ref D) = b := by
    have := (hC.mro (.ref D)).symm.trans hs
    exact Option.some.inj this
  obtain ⟨N1, n1, q1, b1, d1, s1, u1, a1, c1, f1, g0, g1, g2, g3, g5, m1, gC, _, _, _⟩ := hC.obj h X
  obtain ⟨N2, n2, q2, b2, d2, s2, u2, a2, c2, f2, l0, l1, l2, l3, l5, m2, gD, _, _, _⟩ := hD.obj h X
  have nt := tc_notTuple
  unfold excMatches
  repeat (first | (with_reducible refine wpAny_loadPart_at he ?_; rw [hcls]) | with_reducible refine wpAny_loadPart_at gD ?_ | (with_reducible refine wpAny_isSubtype_exc gD ?_; rw [hb]) | (with_reducible refine wpAny_isSubtype_exc gC ?_; rw [hcd]) | wp_step)
  cases b with
  | true => wp_walk; exact hq
  | false => wp_walk; exact hq
theorem isi_type {prog : Program} {w : World} {s : Shared} {Q : Value → Shared → Prop} {v t : Value} {T : String} (X : K.In s.heap) (ht : ∀ M, PySem.W.Looks M s.heap (typeOf v) t) (hk : PySem.W.kitMeta T = true) (hne : (t == Value.type T) = false)
    (e : PySem.W.subIn K t (.type T) = some true) (hx : v ≠ .builtin "__main__.__loader__#opaque") (h : Q (.bool true) s) : wpAny (model prog w) A (call (.builtin "isinstance") [v, .type T]) Q E s := by
  refine call_isinstance (S := fun _ R s => (K.In s.heap ∧ ∀ M, PySem.W.Looks M s.heap (typeOf v) t) ∧ R (.ok (.ret (.bool true))) s) (fun _ _ _ _ s hs => isinstance_outer ?_ hx) ⟨⟨X, ht⟩, h⟩
  obtain ⟨⟨X, ht⟩, hq⟩ := hs
  obtain ⟨hh, g, d, tt, os⟩ := s
  unfold Builtin.«isinstance.nested»
  refine wpAny_bind ((ht _).at ?_)
  rw [if_neg (by rw [hne]; exact Bool.false_ne_true)]
  refine wpAny_bind ((PySem.W.Looks.of_pure (PySem.W.kitMeta_of hk)).at ?_)
  rw [if_pos (by decide)]
  k_delta "plainIsInstance"
  refine wpAny_bind (wpAny_bind ((PySem.W.Looks.of_pure (r := true) rfl).at ?_))
  simp only [Bool.not_true, if_false, Bool.false_eq_true]
  have li : ∀ M, PySem.W.Looks M hh (isInstance v (.type T)) true := fun M => (ht M).andThen (PySem.W.looks_subIn X e)
  refine wpAny_bind ((li _).at ?_)
  simp only [if_true]
  exact wpAny_pure (wpAny_pure hq)
end
theorem HOk.none_of {P : Program} {w : World} {H : Hp} {h : Heap} {a : Addr} (x : HOk P w H h) (e : h.get? a = none) : H a = none := by
  cases q : H a with
  | none => rfl
  | some o =>
    have y := x a o q
    cases o with
    | lst xs => obtain ⟨_, _, _, _, z⟩ := y; rw [e] at z; cases z
    | tup xs => obtain ⟨_, _, _, p, z, _⟩ := y; rw [e] at z; cases z
    | dK kvs => obtain ⟨_, _, _, _, o, _, _, z, _⟩ := y; rw [e] at z; cases z
    | dT kvs => obtain ⟨_, _, _, _, o, _, _, z, _⟩ := y; rw [e] at z; cases z
    | set S n => obtain ⟨o, _, _, _, z, _⟩ := y; rw [e] at z; cases z
    | ins C dx fs => obtain ⟨_, _, _, z, _⟩ := y; rw [e] at z; cases z
    | own y2 => obtain ⟨_, z⟩ := y; rw [e] at z; cases z
    | xd fs => obtain ⟨_, ⟨_, _, _, z, _⟩, _⟩ := y; rw [e] at z; cases z
    | rng lo hi => obtain ⟨_, _, _, z⟩ := y; rw [e] at z; cases z
    | frz ob u => obtain ⟨z, _⟩ := y; rw [e] at z; cases z
    | tbl ps => have z : h.get? a = some _ := y; rw [e] at z; cases z
    | met f y2 => have z : h.get? a = some _ := y; rw [e] at z; cases z
    | ext φ => obtain ⟨_, ⟨_, z⟩, _⟩ := y; rw [e] at z; cases z
theorem funs_hid {h B : Heap} {m : List Addr} : ∀ {l : List Env}, h.FunFrames B l → (∀ b ∈ frs l, b ∈ m) → h.FunFrames (PySem.W.hideAll h m) l
  | [], _, _ => trivial
  | env :: r, ⟨e0, ⟨L, o, e1, _, e3, e4⟩, e5⟩, hm =>
    have hl : frs (env :: r) = L :: frs r := by unfold frs; rw [List.filterMap_cons, e1]
    ⟨e0, ⟨L, o, e1, PySem.W.hideAll_none m (hm L (by rw [hl]; exact .head _)), e3, e4⟩, funs_hid e5 fun b hb => hm b (by rw [hl]; exact .tail _ hb)⟩
structure Fl (P : Program) (w : World) (fs : List Addr) (H H' : Hp) (h0 h : Heap) (a T : Addr) (c fl : Value) : Prop where
  un : Un fs [] H H' h0 h
  hok : HOk P w H' h
  na : h0.get? a = none
  nT : h0.get? T = none
  ha : H' a = none
  hT : H' T = none
  tr : ∃ oe vs oT ts a0, h.get? a = some oe ∧ (oe.cls = c ∧ vs[0]? = some a0) ∧ oe.data = .fields vs ∧ vs[1]? = some (.ref T) ∧ T ≠ a ∧ h.get? T = some oT ∧ oT.data = .fields ts ∧ ts[3]? = some fl
section
variable {P : Program} {w : World} {fs : List Addr} {H H' : Hp} {h0 h h' : Heap} {a T : Addr} {c fl fl' : Value}
theorem Fl.traced (F : Fl P w fs H H' h0 h a T c fl) : ∃ a0, h.TracedAtW (PySem.W.hideAll h (a :: T :: fs)) a c a0 fl := by
  obtain ⟨oe, vs, oT, ts, a0, e1, e2, e3, e4, e5, e6, e7, e8⟩ := F.tr
  exact ⟨a0, oe, vs, T, oT, ts, e1, e2, e3, e4, PySem.W.hideAll_none _ (.tail _ (.head _)), e5, e6, e7, e8⟩
theorem Fl.move {a0 : Value} (F : Fl P w fs H H' h0 h a T c fl) (hfs : ∀ b ∈ fs, H' b = none ∧ ∃ o, h.get? b = some o ∧ ∀ vs, o.data ≠ .fields vs)
    (k1 : (PySem.W.hideAll h (a :: T :: fs)).StaysIn h') (k3 : h'.TracedAtW (PySem.W.hideAll h (a :: T :: fs)) a c a0 fl') (k4 : h.UpToSlots h') : ∃ T', Fl P w fs H H' h0 h' a T' c fl' := by
  have keep : ∀ b o, b ≠ a → b ≠ T → b ∉ fs → h.get? b = some o → h'.get? b = some o := fun b o n1 n2 n3 e => k1 b o (PySem.W.hideAll_get _ e (by simp [n1, n2, n3]))
  have slot : ∀ b o, b ∈ fs → h.get? b = some o → ∃ sl, h'.get? b = some { o with slots := sl } := fun b o hb e => by
    obtain ⟨_, o2, e2, d2⟩ := hfs b hb
    rw [e] at e2; cases e2
    exact k4 b o e d2
  obtain ⟨oe, vs, T', oT, ts, q1, q2, q3, q4, q5, q6, q7, q8, q9⟩ := k3
  have hT' : T' = T ∨ h.get? T' = none := by
    by_cases z : T' = T
    · exact .inl z
    · refine .inr ?_
      cases e : h.get? T' with
      | none => rfl
      | some o =>
        by_cases zf : T' ∈ fs
        · obtain ⟨_, o2, e2, d2⟩ := hfs T' zf
          obtain ⟨sl, e3⟩ := k4 T' o2 e2 d2
          rw [q7] at e3; cases e3
          exact absurd q8 (d2 ts)
        · rw [PySem.W.hideAll_get _ e (by simp [z, zf, q6])] at q5; cases q5
  have back : ∀ b, h.get? b = none → h0.get? b = none := fun b e => by
    cases q : h0.get? b with
    | none => rfl
    | some o =>
      obtain ⟨o', e'⟩ := F.un.there b o q (by simp)
      rw [e] at e'; cases e'
  refine ⟨T', ⟨⟨fun b o q n hb hx => ?_, fun b o q n hb hx => ?_, F.un.free, fun b o q hx => ?_, F.un.tups, F.un.frzs, F.un.tbls⟩, fun b u e => ?_, F.na, ?_, F.ha, ?_, ⟨oe, vs, oT, ts, a0, q1, q2, q3, q4, q6, q7, q8, q9⟩⟩⟩
  · exact keep b o (fun z => by rw [z, F.na] at q; cases q) (fun z => by rw [z, F.nT] at q; cases q) hb (F.un.keep b o q n hb hx)
  · obtain ⟨sl, e1⟩ := F.un.slot b o q n hb hx
    obtain ⟨sl2, e2⟩ := slot b _ hb e1
    exact ⟨sl2, e2⟩
  · obtain ⟨o1, e1⟩ := F.un.there b o q hx
    by_cases hb : b ∈ fs
    · obtain ⟨sl, e2⟩ := slot b o1 hb e1
      exact ⟨_, e2⟩
    · exact ⟨o1, keep b o1 (fun z => by rw [z, F.na] at q; cases q) (fun z => by rw [z, F.nT] at q; cases q) hb e1⟩
  · have nn : ∀ x v, H' x = some v → x ≠ a ∧ x ≠ T ∧ x ∉ fs := fun x v e => ⟨fun z => (by rw [z, F.ha] at e; cases e), fun z => (by rw [z, F.hT] at e; cases e), fun z => (by rw [(hfs x z).1] at e; cases e)⟩
    refine (F.hok b u e).stay (fun x v hc q => ?_) (fun _ q => q) fun _ _ q => q
    rcases hc with hc | hc
    · obtain ⟨z1, z2, z3⟩ := nn b u e
      rw [hc] at q ⊢
      exact keep b v z1 z2 z3 q
    · obtain ⟨z1, z2, z3⟩ := nn x _ hc
      exact keep x v z1 z2 z3 q
  · rcases hT' with z | z
    · rw [z]; exact F.nT
    · exact back T' z
  · rcases hT' with z | z
    · rw [z]; exact F.hT
    · exact F.hok.none_of z
end
noncomputable def CX1 (P : Program) (w : World) : CXT := fun outer H s E e s' => ∃ a T C H', e = .ref a ∧ s'.os = s.os ∧ AllBare s'.gens ∧ Fl P w (frs outer) H H' s.heap s'.heap a T (.ref C) .none ∧ E (.ref C) none H'
noncomputable abbrev RFn (P : Program) (w : World) (K : PySem.W.Frag) (mg : Str → Option Value) (base : Heap) (k : Nat) (f : Addr) (fd : FuncData) (ps : List Str) (sp : WSp) : Prop := FnOk P w K mg base (CX1 P w) k f fd ps (LSp K sp)
section
variable {P : Program} {w : World} {K : PySem.W.Frag} {mg : Str → Option Value} {base : Heap} {N : List Str} {qual : Str} {scope : Scope} {f : Addr} {cdv : Value} {A : Around} {outer : List Env} {s : Shared} {H : Hp} {E : XK}
theorem leaves {pins : List (Addr × Obj)} {σ : St} {H2 : Hp} {s2 : Shared} {h' : Heap} {e C : Addr} {vs : List Value} (I : Inv (cxOf (CX1 P w) P w K mg base N qual scope f cdv A outer s H E) pins σ H2 s2)
    (mx : Heap.MadeExcOf s2.heap h' e (.ref C) vs) (hE : E (.ref C) none H2) : (cxOf (CX1 P w) P w K mg base N qual scope f cdv A outer s H E).xe (.ref e) { s2 with heap := h' } := by
  have ST := I.stack
  have SF := I.stkFree
  refine wpAny_leaves_madeW (base := PySem.W.hideAll s2.heap (frs (envOfC qual scope s.heap.objs.size f cdv :: outer))) (h := s2.heap) (L := s.heap.objs.size) I.ok.frames rfl (fun b o q => PySem.W.of_hideAll _ q) (funs_hid ST fun _ z => z) mx fun h3 t fly _ _ ups => ?_
  obtain ⟨k1, _, _, k3⟩ := fly
  obtain ⟨oe, ws, T, oT, ts, q1, q2, q3, q4, q5, q6, q7, q8, q9⟩ := k3
  have keep : ∀ b o, b ∉ frs (envOfC qual scope s.heap.objs.size f cdv :: outer) → s2.heap.get? b = some o → h3.get? b = some o := fun b o hb q => k1 b o (PySem.W.hideAll_get _ q hb)
  have slot : ∀ b o, b ∈ frs (envOfC qual scope s.heap.objs.size f cdv :: outer) → s2.heap.get? b = some o → (∃ sl, h3.get? b = some { o with slots := sl }) ∧ ∀ vs, o.data ≠ .fields vs := fun b o hb q => by
    obtain ⟨_, o2, e2, d2⟩ := ST.mem hb
    rw [q] at e2; cases e2
    exact ⟨ups b o (mx.keeps b o q) d2, d2⟩
  have nL : ∀ b o, s.heap.get? b = some o → b ∉ frs outer → b ∉ frs (envOfC qual scope s.heap.objs.size f cdv :: outer) := fun b o q hb z => by
    rcases List.mem_cons.mp (show b ∈ s.heap.objs.size :: frs outer from z) with z | z
    · exact absurd (Heap.lt_size q) (by rw [z]; exact Nat.lt_irrefl _)
    · exact hb z
  have back : ∀ b, s2.heap.get? b = none → s.heap.get? b = none := fun b q => by
    cases z : s.heap.get? b with
    | none => rfl
    | some o =>
      obtain ⟨o', e'⟩ := I.base.there b o z (by intro y; cases y)
      rw [q] at e'; cases e'
  have nT : s2.heap.get? T = none := by
    cases z : s2.heap.get? T with
    | none => rfl
    | some o =>
      by_cases zf : T ∈ frs (envOfC qual scope s.heap.objs.size f cdv :: outer)
      · obtain ⟨⟨sl, e3⟩, d2⟩ := slot T o zf z
        rw [q7] at e3; cases e3
        exact absurd q8 (d2 ts)
      · rw [PySem.W.hideAll_get _ z zf] at q5; cases q5
  refine ⟨e, T, C, H2, rfl, I.os, I.bare, ⟨⟨fun b o q n hb hx => ?_, fun b o q n hb hx => ?_, fun b o q n hx => I.base.free b o q n (by intro y; cases y), fun b o q hx => ?_, I.base.tups, I.base.frzs, I.base.tbls⟩, fun b u q => ?_, back e mx.new, back T nT, I.hok.none_of mx.new, I.hok.none_of nT,
    ⟨oe, ws, oT, ts, _, q1, q2, q3, q4, q6, q7, q8, q9⟩⟩, hE⟩
  · exact keep b o (nL b o q hb) (I.base.keep b o q n hb (by intro y; cases y))
  · obtain ⟨sl, e1⟩ := I.base.slot b o q n hb (by intro y; cases y)
    obtain ⟨⟨sl2, e2⟩, _⟩ := slot b _ (List.mem_cons_of_mem _ hb) e1
    exact ⟨sl2, e2⟩
  · obtain ⟨o1, e1⟩ := I.base.there b o q (by intro y; cases y)
    by_cases hb : b ∈ frs (envOfC qual scope s.heap.objs.size f cdv :: outer)
    · obtain ⟨⟨sl, e2⟩, _⟩ := slot b o1 hb e1
      exact ⟨_, e2⟩
    · exact ⟨o1, keep b o1 hb e1⟩
  · have nn : ∀ x v, H2 x = some v → x ∉ frs (envOfC qual scope s.heap.objs.size f cdv :: outer) := fun x v q z => by rw [SF x z] at q; cases q
    refine (I.hok b u q).stay (fun x v hc q2 => ?_) (fun _ q => q) fun _ _ q => q
    rcases hc with hc | hc
    · rw [hc] at q2 ⊢
      exact keep b v (nn b u q) q2
    · exact keep x v (nn x _ hc) q2
noncomputable def wRaise (C : Addr) (e : WX) : WS := fun _ _ G => e (.ref C) G
theorem qs_raise {x msg : Str} {C : Addr} {bm : List Value} {e : WX} {np cpos pos p1 : Pos} {j} (hm : mg x = some (.ref C)) (hC : XC K C bm) (hE : ∀ H1 G1, TLe H H1 → RelG K H1 G1 → e (.ref C) G1 → E (.ref C) none H1)
    (hg : Gl (cxOf (CX1 P w) P w K mg base N qual scope f cdv A outer s H E) x) (hd : (x == ("__debug__" : Str)) = false := by decide) :
    QS (cxOf (CX1 P w) P w K mg base N qual scope f cdv A outer s H E) (.Raise (some (.Call (.Name x np) [.Constant (.str msg) j p1] [] cpos)) none pos) (wRaise C e) := by
  intro pins s2 σ H2 D I ⟨τ, G, d, hs, hgG, ht, l⟩
  obtain ⟨N1, n1, q1, b1, d1, s1, u1, a1, c1, f1, g0, g1, g2, g3, g5, m1, gC, gN, gi, gT⟩ := hC.obj _ I.ok.mod.kin
  refine wpAny_Raise_call_subT (C := C) (nm := n1) (q := q1) (N := N1) (bs := b1) (bm := bm) (hdct := d1) (sn := s1) (sub := u1) (ab := a1) (col := c1) (dd := f1) (k0 := g0) (k1 := g1) (k2 := g2) (k3 := g3) (k5 := g5) PySem.F.excBase_ValueError (mN := m1) (gT.hasType rfl) (I.ok.hd rfl) rfl gi
    (ld_glob I hg hm ⟨rfl, ?_⟩ hd)
  have ha := (pa_cons (X := cxOf (CX1 P w) P w K mg base N qual scope f cdv A outer s H E) (pe_str (x := msg) (j := j) (pos := p1)) pa_nil) cpos pins s2 σ H2 (fun vs H' => vs.length = 1 ∧ H' = H2) I ⟨rfl, rfl⟩
  refine Calls.evalArgs_plain (wpAny_mono ha (fun us s3 h3 => ?_) fun _ _ y => y)
  obtain ⟨vs, H3, I3, rv, hl, rfl⟩ := h3
  refine ⟨rfl, ?_, I3.bk _ _ gC, gN.keeps I3.bk, gT.keeps I3.bk, fun h' a mx => leaves I3 mx (hE _ G ⟨I3.base.tups, I3.base.frzs⟩ hgG ht)⟩
  show us.length ≤ sizeLine
  rw [← rv.length, hl]
  decide
end
noncomputable def wNevers : WS := fun _ _ _ => False
theorem fn3R {P : Program} {w : World} {K : PySem.W.Frag} {mg : Str → Option Value} {base : Heap} {x qual : Str} {st : Stmt} {f : Addr} {fd : FuncData} {N ps : List Str} {k : Nat} {sp : WSp} (F : Fun K x qual st f fd) (S : FnScope N ps (defScope st)) (len : ∀ ws G q e, sp ws G q e → ws.length = ps.length)
    (hbody : ∀ (cdv : Value) (A : Around) (outer : List Env) (s : Shared) (H : Hp) (E : XK) (ws : List W) (G : Gp) (q : WK) (e : WX), Room k (A.deeper (envOfC qual (defScope st) s.heap.objs.size f cdv)) → sp ws G q e → (∀ c H1 G1, TLe H H1 → RelG K H1 G1 → e c G1 → E c none H1) →
      ∃ t, QSs (cxOf (CX1 P w) P w K mg base N qual (defScope st) f cdv A outer s H E) (defBody st) t ∧ t { nx := fun _ G1 => ∃ G0, GLe G0 G1 ∧ q .non G0, rt := fun w G1 => ∃ G0, GLe G0 G1 ∧ q w G0 } (wStart N ws) G) : RFn P w K mg base (k + 1) f fd ps sp := by
  obtain ⟨oc, od, kV, doc, pm, an, cdv, ct, osl, rfl, lk, hcd⟩ := F.ex
  refine fn_of lk hcd S (fun vs H Q E ⟨ws, G, q, e, r, g, z, _⟩ => by rw [← r.length]; exact len _ _ _ _ z) (fun A outer s H vs Q E hr ⟨ws, G, q, e, r, g, z, hQ, hX⟩ => ?_)
  obtain ⟨t, ht, hq⟩ := hbody cdv A outer s H E ws G q e hr z fun c H1 G1 t1 g1 z1 => hX c none H1 G1 t1 g1 z1
  exact ⟨_, ht, _, G, _, RelSt.start r, g, hq, ⟨fun σ1 H1 τ1 G1 t1 s1 g1 ⟨G0, l, q1⟩ => hQ .non H1 .non G0 t1 .non (g1.le l) q1, fun v H1 w G1 t1 r1 g1 ⟨G0, l, q1⟩ => hQ v H1 w G0 t1 r1 (g1.le l) q1, fun _ _ _ _ _ _ _ z => z.elim, fun _ _ _ _ _ _ _ z => z.elim⟩⟩
noncomputable def Rx (P : Program) (w : World) (K : PySem.W.Frag) (mg : Str → Option Value) (base : Heap) (x : Str) (ps : List Str) (k : Nat) (sp : WSp) (dws : List W) : Prop :=
  ∃ (f : Addr) (fd : FuncData) (ds : List Value) (dvs : List V), RFn P w K mg base k f fd ps sp ∧ mg x = some (.ref f) ∧ PySem.W.keepIn K (.ref f) = true ∧ Binds K fd ps ds ∧ Vals dvs ds ∧ ∀ H, Reps K H dws dvs
noncomputable abbrev Cx.xmk (X : Cx) (a : Addr) (oe : Obj) : Cx := { X with A := X.A.mark (some (.ref a)), calm := false, xe := fun _ _ => False, pn := (a, oe) :: X.pn }
section
variable {X : Cx} {pins : List (Addr × Obj)} {σ : St} {H : Hp} {s : Shared} {a : Addr} {oe : Obj}
theorem Inv.xmk (I : Inv X pins σ H s) (e : s.heap.get? a = some oe) (n : H a = none) (hl : a ≠ X.env.locals) (hf : a ∉ X.fs) (hd : ∀ v, oe.data ≠ .cell v) : Inv (X.xmk a oe) pins σ H s :=
  ⟨⟨I.ok.mod, I.ok.kind, I.ok.glob, I.ok.blt, I.ok.above, I.ok.inj, I.ok.has, I.ok.cab, fun z => (Bool.false_ne_true z).elim, I.ok.frames, I.ok.stk, I.ok.exf, I.ok.bs, I.ok.bsz, I.ok.noex, I.ok.exfs, I.ok.funs, I.ok.frf⟩, I.os, I.bare, I.base, I.loc, I.cell, I.free, I.freeC,
    fun p hp => by
      rcases List.mem_cons.mp (show p ∈ (a, oe) :: (X.pn ++ pins) from hp) with z | z
      · rw [z]; exact ⟨e, n, hl, hf, hd⟩
      · exact I.pin p z, I.hok, I.len⟩
theorem Inv.unx (I : Inv (X.xmk a oe) pins σ H s) (hh : X.calm = true → X.A.handled = none) : Inv X pins σ H s :=
  ⟨⟨I.ok.mod, I.ok.kind, I.ok.glob, I.ok.blt, I.ok.above, I.ok.inj, I.ok.has, I.ok.cab, hh, I.ok.frames, I.ok.stk, I.ok.exf, I.ok.bs, I.ok.bsz, I.ok.noex, I.ok.exfs, I.ok.funs, I.ok.frf⟩, I.os, I.bare, I.base, I.loc, I.cell, I.free, I.freeC,
    fun p hp => I.pin p (List.mem_cons_of_mem _ hp), I.hok, I.len⟩
theorem SP.unx {D : Ends} {f : Flow} {s' : Shared} (h : SP (X.xmk a oe) pins D f s') (hh : X.calm = true → X.A.handled = none) : SP X pins D f s' := by
  cases f with
  | next => obtain ⟨σ', H', I, q⟩ := h; exact ⟨σ', H', I.unx hh, q⟩
  | brk => obtain ⟨σ', H', I, q⟩ := h; exact ⟨σ', H', I.unx hh, q⟩
  | cont => obtain ⟨σ', H', I, q⟩ := h; exact ⟨σ', H', I.unx hh, q⟩
  | ret u => obtain ⟨v, σ', H', I, r, q⟩ := h; exact ⟨v, σ', H', I.unx hh, r, q⟩
end
noncomputable def QH (X : Cx) (C : Addr) (hs : List ExceptHandler) (th : WS) : Prop :=
  ∀ (pins : List (Addr × Obj)) (s0 : Shared) (σ : St) (H0 : Hp) (s : Shared) (H : Hp) (a T : Addr) (D : Ends), Inv X pins σ H0 s0 → Fl X.prog X.w (frs X.stack) H0 H s0.heap s.heap a T (.ref C) .none → s.os = s0.os → AllBare s.gens → LS X.K th D σ H →
    wpAny (model X.prog X.w) X.A (handleBy (.ref a) X.env hs) (SP X pins D) X.xe s
section
variable {X : Cx} {pins : List (Addr × Obj)} {σ : St} {H0 H : Hp} {s0 s : Shared} {a T : Addr} {c fl : Value}
theorem Fl.inv (F : Fl X.prog X.w (frs X.stack) H0 H s0.heap s.heap a T c fl) (I : Inv X pins σ H0 s0) (os : s.os = s0.os) (bare : AllBare s.gens) : Inv X pins σ H s := I.call' (ch := []) os F.un F.hok bare fun b z => absurd z (by simp)
theorem Inv.frmem (I : Inv X pins σ H s) : ∀ b ∈ frs X.stack, H b = none ∧ ∃ o, s.heap.get? b = some o ∧ ∀ vs, o.data ≠ .fields vs := fun b hb => ⟨I.stkFree b hb, (I.stack.mem hb).2⟩
theorem Fl.there (F : Fl X.prog X.w (frs X.stack) H0 H s0.heap s.heap a T c fl) (I : Inv X pins σ H0 s0) : ∃ oe, s.heap.get? a = some oe ∧ oe.cls = c ∧ H a = none ∧ a ≠ X.env.locals ∧ a ∉ X.fs ∧ ∀ v, oe.data ≠ .cell v := by
  obtain ⟨oe, vs, oT, ts, a0, e1, e2, e3, _⟩ := F.tr
  refine ⟨oe, e1, e2.1, F.ha, fun z => ?_, fun z => ?_, fun v z => by rw [e3] at z; cases z⟩
  · obtain ⟨m, ⟨o, _, _, ho, _⟩, _⟩ := I.loc
    rw [← z, F.na] at ho; cases ho
  · obtain ⟨_, o, ho, _⟩ := I.funs.mem z
    rw [F.na] at ho; cases ho
theorem Fl.lands {M : Model} {A : Around} {E : Value → Shared → Prop} {Q : Unit → Shared → Prop} (F : Fl X.prog X.w (frs X.stack) H0 H s0.heap s.heap a T c fl) (I : Inv X pins σ H0 s0) (os : s.os = s0.os) (bare : AllBare s.gens)
    (h : ∀ h' T', Fl X.prog X.w (frs X.stack) H0 H s0.heap h' a T' c .none → Q () { s with heap := h' }) : wpAny M A (setFlight (.ref a) none) Q E s := by
  have I1 := F.inv I os bare
  obtain ⟨a0, tr⟩ := F.traced
  refine wpAny_setFlight_noneW (base := PySem.W.hideAll s.heap (a :: T :: frs X.stack)) (fun b o q => PySem.W.of_hideAll _ q) (funs_hid I1.stack fun b z => .tail _ (.tail _ z)) tr fun h' k1 _ k3 k4 => ?_
  obtain ⟨T', F'⟩ := F.move I1.frmem k1 k3 fun b o e n => ⟨o.slots, k4 b o e n⟩
  exact h h' T' F'
variable {C D : Addr} {bm bmD : List Value} {x : Str} {p pos : Pos} {name : Option Str} {body : List Stmt} {rest : List ExceptHandler} {b0 : Stmt} {th : WS}
theorem unbind_ok {M : Model} {A : Around} {E : Value → Shared → Prop} {Q : Unit → Shared → Prop} {i : Nat} {n : Str} (I : Inv X pins σ H s) (hN : X.N.Nodup) (hi : X.N[i]? = some n) (hl : X.env.scope.names.lookup n = some .local)
    (h : ∀ s', Inv X pins (σ.set i none) H s' → Q () s') : wpAny M A (do bindName X.env n .none; unbindBehindTheSuite X.env n pos) Q E s := by
  obtain ⟨m, hn, hlk⟩ := id I.loc
  obtain ⟨oL, _, _, hoL, _⟩ := id hn
  refine wpAny_nameGoes_keeps hl hn (by rw [I.ok.kind]; rfl) fun h' v hn' hs => h _ ?_
  have ne0 : ∀ b o, X.s₀.heap.get? b = some o → b ≠ X.env.locals := fun b o e => Nat.ne_of_lt (Nat.lt_of_lt_of_le (Heap.lt_size e) I.ok.above)
  refine ⟨I.ok, I.os, I.bare, ⟨fun b o e n hb hx => ?_, fun b o e n hb hx => ?_, I.base.free, fun b o e hx => ?_, I.base.tups, I.base.frzs, I.base.tbls⟩, ⟨_, hn', fun j y v' e1 e2 e3 => ?_⟩, fun y c e => ?_, I.free, I.freeC, fun p hp => ?_, fun b ob e => ?_, by simpa using I.len⟩
  · exact (hs.2 b (ne0 b o e)).trans (I.base.keep b o e n hb hx)
  · obtain ⟨sl, z⟩ := I.base.slot b o e n hb hx
    exact ⟨sl, (hs.2 b (ne0 b o e)).trans z⟩
  · obtain ⟨o', z⟩ := I.base.there b o e hx
    exact ⟨o', (hs.2 b (ne0 b o e)).trans z⟩
  · have hj : j ≠ i := fun z => by
      subst z
      by_cases hjl : j < σ.length
      · rw [List.getElem?_set_self hjl] at e2; cases e2
      · rw [List.getElem?_eq_none (by simpa using hjl)] at e2; cases e2
    rw [List.getElem?_set_ne (Ne.symm hj)] at e2
    obtain ⟨u', r', q⟩ := hlk j y v' e1 e2 e3
    refine ⟨u', r', ?_⟩
    rcases q with ⟨k, e⟩ | ⟨k, c, e, z⟩
    · refine .inl ⟨k, ?_⟩
      have : y ≠ n := fun e => hj (nodup_ix hN e1 (e ▸ hi))
      simp [this, e]
    · exact .inr ⟨k, c, e, z.sameBut hs (I.cne y c e)⟩
  · obtain ⟨w', z⟩ := I.cell y c e
    exact ⟨w', z.sameBut hs (I.cne y c e)⟩
  · obtain ⟨e, n, ne, nf, d⟩ := I.pin p hp
    exact ⟨(hs.2 p.1 ne).trans e, n, ne, nf, d⟩
  · refine (I.hok b ob e).stay (fun x w' hc q => (hs.2 x ?_).trans q) (fun _ q => q) fun _ _ q => q
    intro z
    rcases hc with hc | hc
    · rw [← hc, z, I.free] at e; cases e
    · rw [z, I.free] at hc; cases hc
noncomputable def wAs (i : Nat) (ts : Addr → WS) : WS := fun d τ G => ∀ a, G a = none → ts a { nx := fun τ1 G1 => d.nx (τ1.set i none) G1, rt := d.rt, bk := fun τ1 G1 => d.bk (τ1.set i none) G1, ct := fun τ1 G1 => d.ct (τ1.set i none) G1 } (τ.set i (some (.ref a))) G
theorem RelSt.drop {K : PySem.W.Frag} {H : Hp} {τ : WSt} {σ : St} (h : RelSt K H τ σ) (i : Nat) : RelSt K H (τ.set i none) (σ.set i none) := by
  refine ⟨by simpa using h.1, fun j u e => ?_⟩
  by_cases hj : i = j
  · subst hj
    by_cases hl : i < τ.length
    · rw [List.getElem?_set_self hl] at e; cases e
    · rw [List.getElem?_eq_none (by simpa using hl)] at e; cases e
  · rw [List.getElem?_set_ne hj] at e
    obtain ⟨u', e1, r1⟩ := h.2 j u e
    exact ⟨u', by rw [List.getElem?_set_ne hj]; exact e1, r1⟩
theorem qh_as (i : Nat) {n : Str} {ts : Addr → WS} (hm : X.mg x = some (.ref D)) (hg : Gl X x) (hC : XC X.K C bm) (hD : XC X.K D bmD) (hs : PySem.W.mroIn X.K C (.ref D) = some true) (hN : X.N.Nodup) (hi : X.N[i]? = some n) (hl : X.env.scope.names.lookup n = some .local)
    (hb : ∀ a oe, oe.cls = .ref C → QSs (X.xmk a oe) (b0 :: body) (ts a)) (hd : (x == ("__debug__" : Str)) = false := by decide) :
    QH X C (.ExceptHandler (some (.Name x p)) (some n) (b0 :: body) pos :: rest) (wAs i ts) := by
  intro pins s0 σ H0 s H a T D' I0 F os bare ⟨τ, G, d, rs, rg, ht, l⟩
  have I := F.inv I0 os bare
  obtain ⟨oe, e1, e2, e3, e4, e5, e6⟩ := F.there I0
  refine wpAny_handleBy_cons (codeAny_handlers_test (ld_glob (X := X.xmk a oe) (I.xmk e1 e3 e4 e5 e6) hg hm ?_ hd)) (by intro q; cases q)
  refine exc_match I.kIn hC hD e1 e2 hs ?_
  refine codeAny_handlers_suite_as (F.lands I0 os bare fun h' T' F' => ?_)
  have I' := Fl.inv (s := { s with heap := h' }) F' I0 os bare
  obtain ⟨oe', q1, q2, q3, q4, q5, q6⟩ := Fl.there (s := { s with heap := h' }) F' I0
  have J := I'.xmk q1 q3 q4 q5 q6
  refine store_ok (X := X.xmk a oe') (v := .ref a) J hN hi (.inl hl) rfl (fun s3 I3 => ?_) (.inr hl)
  have rs' : RelSt X.K H (τ.set i (some (.ref a))) (σ.set i (some (.ref a))) := rs.set (.ref a) i
  refine wpAny_mono (hb a oe' q2 pins s3 _ H { nx := fun σ1 H1 => D'.nx (σ1.set i none) H1, rt := D'.rt, bk := fun σ1 H1 => D'.bk (σ1.set i none) H1, ct := fun σ1 H1 => D'.ct (σ1.set i none) H1 } I3
    ⟨_, G, _, rs', rg, ht a (rg.fresh q3), ⟨fun σ1 H1 τ1 G1 t1 r1 g1 z => l.nx _ H1 _ G1 t1 (r1.drop i) g1 z, l.rt, fun σ1 H1 τ1 G1 t1 r1 g1 z => l.bk _ H1 _ G1 t1 (r1.drop i) g1 z, fun σ1 H1 τ1 G1 t1 r1 g1 z => l.ct _ H1 _ G1 t1 (r1.drop i) g1 z⟩⟩) (fun f s2 z => ?_) fun _ _ z => z.elim
  have z2 := z.unx I0.ok.hd
  cases f with
  | next => obtain ⟨σ', H', I2, q⟩ := z2; exact unbind_ok I2 hN hi hl fun s' I4 => ⟨_, H', I4, q⟩
  | brk => obtain ⟨σ', H', I2, q⟩ := z2; exact unbind_ok I2 hN hi hl fun s' I4 => ⟨_, H', I4, q⟩
  | cont => obtain ⟨σ', H', I2, q⟩ := z2; exact unbind_ok I2 hN hi hl fun s' I4 => ⟨_, H', I4, q⟩
  | ret u => obtain ⟨v, σ', H', I2, r, q⟩ := z2; exact unbind_ok I2 hN hi hl fun s' I4 => ⟨v, _, H', I4, r, q⟩
noncomputable def wTry (sp : WSp) (dws : List W) (t : WA) (C : Addr) (th : WS) : WS := fun d τ G => t τ G fun ws G1 => sp (ws ++ dws) G1 (fun _ G2 => d.nx τ G2) fun c G2 => c = .ref C ∧ th d τ G2
theorem qs_try {k : Nat} {ps : List Str} {sp : WSp} {dws : List W} {e : Expr} {es : List Expr} {t : WA} {h0 : ExceptHandler} {hs : List ExceptHandler} {cpos epos : Pos} (hst : X.stack = X.env :: X.outer) (hfr : X.env.frame = some X.env.locals) (hnx : ∀ e s, ¬ X.xe e s)
    (F : Rx X.prog X.w X.K X.mg X.base x ps k sp dws) (hr : Room k X.A) (hg : Gl X x) (ha : QA X (e :: es) t) (hh : QH X C (h0 :: hs) th) (hdb : (x == ("__debug__" : Str)) = false := by decide)
    (he : starEach (e :: es) X.env = (false, eval e X.env) :: starEach es X.env := by rfl) (hpl : (backTo cpos (starEach es X.env)).any (·.1) = false := by rfl) (hsw : swapsWith (.Call (.Name x p) (e :: es) [] cpos) none epos.line X.env = pure false := by rfl) :
    QS X (.Try [.Expr (.Call (.Name x p) (e :: es) [] cpos) epos] (h0 :: hs) [] [] pos) (wTry sp dws t C th) := by
  intro pins s σ H D I ⟨τ, G, d, rs, rg, ht, l⟩
  obtain ⟨f, fd, ds, dvs, F, hm, hk, hb, hd, hrep⟩ := F
  refine wpAny_Try_except (wpAny_execs_cons (wpAny_Expr_any (wpAny_Call_Name_kw (ld_glob I hg hm ?_ hdb)) I.quiet hsw))
  have go := ha cpos pins s σ H (fun vs H1 => LSp X.K sp (vs ++ dvs) H1 (fun _ H2 => D.nx σ H2) fun c _ H2 => c = .ref C ∧ LS X.K th D σ H2) I ⟨τ, G, _, rs, rg, ht, fun vs H1 ws G1 t1 r1 g1 q1 =>
    ⟨ws ++ dws, G1, _, _, r1.append (hrep H1), g1, q1, fun v H2 w G2 t2 r2 g2 q2 => l.nx σ H2 τ G2 (t1.trans t2) (rs.mono (t1.trans t2)) g2 q2,
      fun c dd H2 G2 t2 g2 q2 => ⟨q2.1, τ, G2, d, rs.mono (t1.trans t2), g2, q2.2, l.mono (t1.trans t2)⟩⟩⟩
  refine PySem.W.callWith_K (h₀ := X.base) I.ok.mod.kin hk (wpAny_mono go (fun us s1 h1 => ?_) fun e s1 z => (hnx e s1 z).elim) he hpl
  obtain ⟨vs, H1, I1, r, q⟩ := h1
  refine ⟨I1.kIn, ?_⟩
  have r2 : Vals (vs ++ dvs) (us ++ ds) := r.append hd
  have hl : (us ++ ds).length = ps.length := by rw [← r2.length]; exact F.len _ _ _ _ q
  refine wpAny_call (codeAny_mono (F.run X.A X.stack s1 H1 ⟨us, []⟩ (us ++ ds) (vs ++ dvs) _ _ hr I1.env0 (hb s1 us I1.kIn hl) r2 q) fun r s' hq => ?_)
  cases r with
  | ok fl =>
    cases fl with
    | ret u =>
      obtain ⟨v, H', I', _, q'⟩ := I1.after hq
      exact wpAny_execs_nil (wpAny_execs_nil ⟨σ, H', I', q'⟩)
    | next => exact False.elim hq
    | brk => exact False.elim hq
    | cont => exact False.elim hq
  | error e =>
    obtain ⟨a, T, C', H', rfl, os, bare, F1, ec, hLS⟩ := hq
    cases ec
    have I' := F1.inv I1 os bare
    obtain ⟨a0, tr⟩ := F1.traced
    show wpAny _ _ (noteFrame (.ref a) X.env) _ _ s'
    refine wpAny_noteFrame_onW (base := PySem.W.hideAll s'.heap (a :: T :: frs X.stack)) (outer := X.outer) (by rw [← hst]; exact I'.ok.frames) (by rw [← hst]; exact funs_hid I'.stack fun b z => .tail _ (.tail _ z)) hfr tr (fun b o q => PySem.W.of_hideAll _ q) (PySem.W.hideAll_none _ (.head _)) fun h2 N2 => ?_
    obtain ⟨k1, _, k3, k4⟩ := N2
    obtain ⟨T2, F2⟩ := F1.move I'.frmem k1 k3 k4
    refine Fl.lands (s := { s' with heap := h2 }) F2 I1 os bare fun h3 T3 F3 => ?_
    exact hh pins s1 σ H1 { s' with heap := h3 } H' a T3 D I1 F3 os bare hLS
end
section
variable {X : Cx} {a : Addr} {oe : Obj} {C D : Addr} {bm bmD : List Value}
theorem Inv.excTy {pins : List (Addr × Obj)} {σ : St} {H : Hp} {s : Shared} (I : Inv (X.xmk a oe) pins σ H s) (hc : oe.cls = .ref C) (M : Model) : PySem.W.Looks M s.heap (typeOf (.ref a)) (.ref C) := by
  have e := (I.pin (a, oe) (.head _)).1
  exact hc ▸ (PySem.W.Looks.ld e).andThen .now
noncomputable def wIsx (i : Nat) (a : Addr) : WE := fun τ G q => τ[i]? = some (some (.ref a)) ∧ q (.bl true) G
theorem vals2' {x y : V} {us : List Value} (r : Vals [x, y] us) : ∃ u v, us = [u, v] ∧ RelV x u ∧ RelV y v := by
  cases r with
  | cons r1 r =>
    cases r with
    | cons r2 r => cases r; exact ⟨_, _, rfl, r1, r2⟩
theorem isx_core {e2 : Expr} {v2 : V} {c2 : Value} {i : Nat} {n : Str} {p p1 pos : Pos} (hi : X.N[i]? = some n) (hv : Vis X.env.scope n) (h2 : PE (X.xmk a oe) e2 (tC v2)) (hu : ∀ u, RelV v2 u → u = c2)
    (hc : ∀ (pins : List (Addr × Obj)) (σ : St) (H : Hp) (s : Shared) (Q : Value → Shared → Prop), Inv (X.xmk a oe) pins σ H s → Q (.bool true) s → wpAny (model X.prog X.w) (X.xmk a oe).A (call (.builtin "isinstance") [.ref a, c2]) Q (fun _ _ => False) s)
    (hm1 : X.mg "isinstance" = none) (hg1 : Gl X "isinstance") (hd : (n == ("__debug__" : Str)) = false) (hcd : (n == ("__classdict__" : Str)) = false)
    (hs1 : starEach [.Name n p1, e2] X.env = (false, eval (.Name n p1) X.env) :: starEach [e2] X.env) (hs2 : starEach [e2] X.env = (false, eval e2 X.env) :: starEach [] X.env)
    (hpl : (backTo pos (starEach [e2] X.env)).any (·.1) = false) : QE (X.xmk a oe) (.Call (.Name "isinstance" p) [.Name n p1, e2] [] pos) (wIsx i a) := by
  have hv1 : PE (X.xmk a oe) (.Name n p1) (tVar i) := pe_var hi hv hd hcd
  have ha : PA (X.xmk a oe) [.Name n p1, e2] (tCons (tVar i) (tCons (tC v2) tNil)) := pa_cons hv1 (pa_cons h2 pa_nil hs2) hs1
  have hC : CallR (X.xmk a oe) (.builtin "isinstance") (fun vs H Q => vs = [.ref a, v2] ∧ Q (.bl true) H) := by
    intro pins s σ H xs us Q I r ⟨e1, q⟩
    subst e1
    obtain ⟨u, u2, rfl, ru, ru2⟩ := vals2' r
    cases (show u = Value.ref a from ru)
    cases hu u2 ru2
    exact hc pins σ H s _ I ⟨.bl true, H, I, rfl, q⟩
  exact (pe_callB hC hg1 hm1 boot_isi ha (by decide) (by decide) hs1 hpl).imp fun σ H Q z0 => z0.el fun τ G q hs hg ht hQ => by
    obtain ⟨v, e1, r⟩ := hs.2 i _ ht.1
    cases r
    exact ⟨_, e1, rfl, hQ _ H _ G (TLe.refl H) (.bl true) hg ht.2⟩
theorem qe_isxT {T : String} {i : Nat} {n y : Str} {p p1 p2 pos : Pos} (hi : X.N[i]? = some n) (hv : Vis X.env.scope n) (hc : oe.cls = .ref C) (hC : XC X.K C bm) (hT : bmV.contains (.type T) = true) (hkm : PySem.W.kitMeta T = true) (hyb : bootBuiltins y = some (.type T)) (hym : X.mg y = none) (hgy : Gl X y)
    (hm1 : X.mg "isinstance" = none) (hg1 : Gl X "isinstance") (hn : y ≠ "__name__" := by decide) (hdy : (y == ("__debug__" : Str)) = false := by decide) (hd : (n == ("__debug__" : Str)) = false := by decide) (hcd : (n == ("__classdict__" : Str)) = false := by decide)
    (hs1 : starEach [.Name n p1, .Name y p2] X.env = (false, eval (.Name n p1) X.env) :: starEach [.Name y p2] X.env := by rfl) (hs2 : starEach [.Name y p2] X.env = (false, eval (.Name y p2) X.env) :: starEach [] X.env := by rfl)
    (hpl : (backTo pos (starEach [.Name y p2] X.env)).any (·.1) = false := by rfl) : QE (X.xmk a oe) (.Call (.Name "isinstance" p) [.Name n p1, .Name y p2] [] pos) (wIsx i a) :=
  isx_core (v2 := .ty T) (c2 := .type T) hi hv (pe_bltn (X := X.xmk a oe) hgy hym hyb rfl hn hdy) (fun _ z => z) (fun pins σ H s Q I q => isi_type I.kIn (I.excTy hc) hkm rfl (by show PySem.W.mroIn X.K C _ = _; rw [hC.mro, hC.has I.kIn hT]) (fun z => nomatch z) q) hm1 hg1 hd hcd hs1 hs2 hpl
theorem qe_isxC {i : Nat} {n y : Str} {p p1 p2 pos : Pos} (hi : X.N[i]? = some n) (hv : Vis X.env.scope n) (hc : oe.cls = .ref C) (hD : PySem.W.isIn X.K (.ref C) D = true) (hym : X.mg y = some (.ref D)) (hgy : Gl X y)
    (hm1 : X.mg "isinstance" = none) (hg1 : Gl X "isinstance") (hdy : (y == ("__debug__" : Str)) = false := by decide) (hd : (n == ("__debug__" : Str)) = false := by decide) (hcd : (n == ("__classdict__" : Str)) = false := by decide)
    (hs1 : starEach [.Name n p1, .Name y p2] X.env = (false, eval (.Name n p1) X.env) :: starEach [.Name y p2] X.env := by rfl) (hs2 : starEach [.Name y p2] X.env = (false, eval (.Name y p2) X.env) :: starEach [] X.env := by rfl)
    (hpl : (backTo pos (starEach [.Name y p2] X.env)).any (·.1) = false := by rfl) : QE (X.xmk a oe) (.Call (.Name "isinstance" p) [.Name n p1, .Name y p2] [] pos) (wIsx i a) :=
  isx_core (v2 := .ref D) (c2 := .ref D) hi hv (pe_glob (X := X.xmk a oe) hgy hym rfl hdy) (fun _ z => z) (fun pins σ H s Q I q => PySem.W.isi_call I.kIn (I.excTy hc) hD (fun z => nomatch z) q) hm1 hg1 hd hcd hs1 hs2 hpl
end
theorem XC.self {K : PySem.W.Frag} {C : Addr} {bm : List Value} (x : XC K C bm) : PySem.W.mroIn K C (.ref C) = some true := by rw [x.mro]; simp
theorem isIn_self {K : PySem.W.Frag} {C : Addr} : PySem.W.isIn K (.ref C) C = true := by unfold PySem.W.isIn; simp
theorem km_V : PySem.W.kitMeta "ValueError" = true := by decide +kernel
theorem boot_V : bootBuiltins "ValueError" = some (.type "ValueError") := by decide +kernel
end L2
namespace L2
open PySem PySem.Spec PyProof.Rows
section
variable {prog : Program} {w : World} {A : Around} {R : Result → Shared → Prop} {I : Addr} {fp wr : List Addr} {n : Nat} {P : Nat → Value → Prop} {St : Nat → Heap → Prop} {kw : List (Str × Value)}
end
section
variable {prog : Program} {w : World} {A : Around} {E : Value → Shared → Prop} {s : Shared} {l : Addr} {xs : Array (Int × Tok)} {d : Value}
end
section
variable {X : Cx}
noncomputable def wMaxD (te : WE) (d : Int) : WE := fun τ G q => te τ G fun x G1 => match x with
  | .ref a => ∃ ns : List Int, G1 a = some (.lst (ns.map W.int)) ∧ (ns = [] → q (.int d) G1) ∧ ∀ m : Int, m ∈ ns → (∀ x, x ∈ ns → x ≤ m) → q (.int m) G1
  | _ => False
noncomputable def rIsB (neg : Bool) : W2 := fun x y G q => match x, y with
  | .bl a, .bl b => q (.bl (neg ^^ (a == b))) G
  | _, _ => False
end
end L2
namespace L2
open PySem PySem.Spec PyProof.Rows
section
variable {P : Program} {w : World} {K : PySem.W.Frag} {mg : Str → Option Value} {base : Heap} {N : List Str} {qual : Str} {scope : Scope} {f : Addr} {cdv : Value} {A : Around} {outer : List Env} {s : Shared} {H : Hp} {E : XK}
noncomputable def wCallX (sp : WSp) (dws : List W) (t : WA) (e : WX) : WE := fun τ G q => t τ G fun ws G1 => sp (ws ++ dws) G1 q e
end
section
variable {X : Cx} {pins : List (Addr × Obj)} {σ : St} {H : Hp} {s : Shared}
noncomputable def wDct : WE := fun _ G q => ∀ p, G p = none → q (.ref p) (updG G p .dct)
end
end L2
namespace L2
open PySem PySem.Spec PyProof.Rows
section
variable {prog : Program} {w : World} {A : Around} {E : Value → Shared → Prop} {s : Shared} {I l : Addr} {items : Array Value}
end
section
variable {X : Cx}
noncomputable def wTupRev (te : WE) : WE := fun τ G q => te τ G fun x G1 => match x with
  | .ref a => ∃ ws, G1 a = some (.lst ws) ∧ q (.tup ws.reverse) G1
  | _ => False
end
end L2
namespace L2
open PySem PySem.Spec PyProof.Rows
noncomputable def CRG (lo hi c : Int) : Prop := CR3 lo hi c ∨ (c = -1 ∧ -(2 ^ 40) ≤ lo ∧ lo < 2 ^ 40 ∧ -(2 ^ 40) ≤ hi ∧ hi < 2 ^ 40)
section
variable {X : Cx} {tg : Expr}
noncomputable def jRngG (ta : WA) : WI := fun τ G r => ta τ G fun ws G1 => match ws with
  | [.int lo, .int hi, .int c] => CRG lo hi c ∧ r (upS lo c (rsz lo hi c).toNat) (fun _ => True) G1
  | _ => False
noncomputable def bits (i : Int) : Int := (Builtin.Int.intBits i : Nat)
noncomputable def wBits (to : WE) : WE := fun τ G q => to τ G fun x G1 => match x with
  | .int i => q (.int (bits i)) G1
  | _ => False
noncomputable def BigP (i j : Int) : Prop := 0 ≤ j ∧ j ≤ 1000 ∧ i.natAbs < 2 ^ 4000
noncomputable def CPowB (i j : Int) : Prop := CPow i j ∨ BigP i j
noncomputable abbrev vPowB : W2 := vInt CPowB fun i j => .int (i ^ j.toNat)
theorem op_powB : OpR X (binaryOp .Pow) (rI CPowB fun i j => .int (i ^ j.toNat)) := opI fun i j _ _ _ _ _ hc q => by
  rcases hc with hc | ⟨h0, h1, h2⟩
  · exact pow_int_small hc.1 hc.2.1 hc.2.2 q
  · refine pow_int h0 ?_ q
    have b1 := PyProof.Rows.intBits_le h2
    have b2 : (Builtin.Int.intBits i : Int) * j ≤ 4000 * 1000 := Int.mul_le_mul (by (clear q h0 h1 h2; omega)) h1 h0 (by decide)
    have hb : (4000000 : Int) ≤ bitsLine := by decide
    first | (clear q h0 h1 h2 b1 hb; omega) | (simp [Builtin.Int.intTooBig]; omega)
theorem q_powB : QOp X (binaryOp .Pow) vPowB := q_rint op_powB
end
end L2
namespace L2
open PySem PySem.Spec PyProof.Rows
section
variable {X : Cx} {C : Addr} {th : WS} {x : Str} {p pos : Pos}
noncomputable def wTryA (i : Nat) (sp : WSp) (dws : List W) (t : WA) (C : Addr) (th : WS) : WS := fun d τ G => t τ G fun ws G1 => sp (ws ++ dws) G1 (fun v G2 => d.nx (τ.set i (some v)) G2) fun c G2 => c = .ref C ∧ th d τ G2
end
end L2
set_option maxRecDepth 100000
namespace L2
open PySem PySem.Spec PyProof.Rows
section
variable {X : Cx}
end
theorem noFill_tuple_mul : fillsNumberSlot (.type "tuple") "mul" = pure false :=
  PySem.fillsNumberSlot_seq (id := "tuple.__mul__") (r := some (.builtin "tuple.__rmul__")) F.slot_tuple_mul.lookup (by decide +kernel) F.slot_tuple_rmul.lookup (by decide +kernel)
theorem repeat_tuple : seqRepeat? (.type "tuple") = pure (some (.builtin "tuple.__mul__")) := by
  unfold seqRepeat?
  rw [PySem.seqSlot_of (T := "tuple") (name := "__mul__") (id := "tuple.__mul__") F.slot_tuple_mul.lookup (by decide +kernel), PySem.seqSlot_of (T := "tuple") (name := "__rmul__") (id := "tuple.__rmul__") F.slot_tuple_rmul.lookup (by decide +kernel)]
  rfl
theorem int_rmul_tuple (a : Int) (t : Tok) (l : Addr) (items : Array Value) (n : Nat) (dd : Option Addr) (sl : Array (Option Value)) :
    Meets (Builtin.«int.__rmul__» ⟨[.int a t, .ref l], []⟩) (fun _ R s => s.heap.get? l = some { cls := .type "tuple", dict := dd, data := .seq items n, slots := sl } ∧ R (.ok (.ret Value.notImplemented)) s) :=
  .of_wp fun prog w A R s h => by obtain ⟨hp, g, d, tk, os⟩ := s; obtain ⟨hl, h⟩ := h; wp_walk; exact ⟨_, rfl, h⟩
theorem tuple_mul1 (l : Addr) (items : Array Value) (n : Nat) (dd : Option Addr) (sl : Array (Option Value)) (u : Tok) :
    Meets (Builtin.«tuple.__mul__» ⟨[.ref l, .int 1 u], []⟩) (fun _ R s => s.heap.get? l = some { cls := .type "tuple", dict := dd, data := .seq items n, slots := sl } ∧ R (.ok (.ret (.ref l))) s) :=
  .of_wp fun prog w A R s h => by
    obtain ⟨hp, g, d, tk, os⟩ := s; obtain ⟨hl, h⟩ := h
    wp_walk
    exact ⟨_, rfl, h⟩
theorem tuple_mulN (l : Addr) (items : Array Value) (n : Nat) (dd : Option Addr) (sl : Array (Option Value)) (x : Int) (u : Tok) (h0 : items.isEmpty = false) (h1 : (x == 1) = false) (h2 : 0 < x) (hf : (decide (x < -(2 ^ 63)) || decide (x ≥ 2 ^ 63)) = false) (hm : decide ((items.size : Int) * x > (2 ^ 63 - 1) / 8) = false) (ht : Builtin.Tuple.tupleTooMany ((items.size : Int) * x) = false) (hsz : ((List.replicate x.toNat items).foldl (· ++ ·) #[]).size ≤ sizeLine) :
    Meets (Builtin.«tuple.__mul__» ⟨[.ref l, .int x u], []⟩) (fun _ R s => s.heap.get? l = some { cls := .type "tuple", dict := dd, data := .seq items n, slots := sl } ∧ R (.ok (.ret (.ref s.heap.objs.size))) { s with heap := s.heap.push { cls := .type "tuple", data := .seq ((List.replicate x.toNat items).foldl (· ++ ·) #[]) } }) :=
  .of_wp fun prog w A R s h => by
    obtain ⟨hp, g, d, tk, os⟩ := s; obtain ⟨hl, h⟩ := h
    have c1 : (items.isEmpty || x == 1) = false := by rw [h0, h1]; rfl
    have c2 : (decide (x ≤ 0) || items.isEmpty) = false := by rw [h0, decide_eq_false (by (clear h0 h1 hf hm ht hsz hl h c1; omega))]; rfl
    wp_walk
    refine wpAny_ite_false (by rw [hf]; rfl) ?_
    wp_walk
    refine wpAny_ite_false hm ?_
    wp_walk
    exact ⟨_, rfl, h⟩
theorem tuple_mul0 (l : Addr) (items : Array Value) (n : Nat) (dd : Option Addr) (sl : Array (Option Value)) (u : Tok) (h0 : items.isEmpty = false) :
    Meets (Builtin.«tuple.__mul__» ⟨[.ref l, .int 0 u], []⟩) (fun _ R s => s.heap.get? l = some { cls := .type "tuple", dict := dd, data := .seq items n, slots := sl } ∧ R (.ok (.ret (.ref s.heap.objs.size))) { s with heap := s.heap.push { cls := .type "tuple", data := .seq #[] } }) :=
  .of_wp fun prog w A R s h => by
    obtain ⟨hp, g, d, tk, os⟩ := s; obtain ⟨hl, h⟩ := h
    have c1 : (items.isEmpty || (0 : Int) == 1) = false := by rw [h0]; rfl
    wp_walk
    exact ⟨_, rfl, h⟩
section
variable {X : Cx}
noncomputable def rRepT (K : PySem.W.Frag) : R2 := fun x y H Q => ∃ a k xs, x = .ref a ∧ y = .int k ∧ SqT K H a xs ∧ xs ≠ [] ∧ 0 ≤ k ∧ k ≤ 100000 ∧ xs.length * k.toNat ≤ sizeLine ∧
  (k = 1 → Q (.ref a) H) ∧ (k ≠ 1 → ∀ p, H p = none → Q (.ref p) (upd H p (.tup (List.replicate k.toNat xs).flatten)))
theorem op_repT : OpR X (binaryOp .Mult) (rRepT X.K) := by
  intro pins s σ H x y v u Q I rx ry h
  obtain ⟨a, k, xs, rfl, rfl, ha, hx, h0, h1, hz, q1, q2⟩ := h
  cases rx
  obtain ⟨t, rfl⟩ := ry
  obtain ⟨its, r1, p1, _⟩ := I.tuple ha
  have hl := r1.length
  obtain ⟨⟨cls, dd, data, sl⟩, ho, hc, n, hd⟩ := id p1
  simp only at hc hd
  subst hc hd
  have he : its.toArray.isEmpty = false := by
    cases its with
    | nil => exact absurd (r1.nil_iff.mp rfl) hx
    | cons _ _ => rfl
  refine wpAny_binaryOp_repeat_ref (T := "tuple") (U := "int") (by decide) ⟨_, ho, rfl⟩ (fun s' => typeIs_int s' k t) noFill_tuple_mul F.fills_int_mul F.slot_int_rmul repeat_tuple F.slot_int_index.lookup
    (call_meets F.slot_int_rmul (typeIs_int s k t) F.entry_int_rmul (F.args_int_rmul_2 _ _) (int_rmul_tuple k t a its.toArray n dd sl) ⟨ho, rfl, ⟨_, ho, rfl⟩, ?_⟩)
  by_cases hk1 : k = 1
  · subst hk1
    exact call_meets F.slot_tuple_mul ⟨_, ho, rfl⟩ F.entry_tuple_mul (F.args_tuple_mul_2 _ _) (tuple_mul1 a its.toArray n dd sl t) ⟨ho, ⟨.ref a, H, I, rfl, q1 rfl⟩⟩
  · by_cases hk0 : k = 0
    · subst hk0
      refine call_meets F.slot_tuple_mul ⟨_, ho, rfl⟩ F.entry_tuple_mul (F.args_tuple_mul_2 _ _) (tuple_mul0 a its.toArray n dd sl t he) ⟨ho, ?_⟩
      refine ⟨.ref s.heap.objs.size, _, I.laid (t' := s.toks) (o := .tup []) (fun b ob q => Heap.get?_push_of_some _ q) (Nat.le_refl _) ?_, rfl, q2 (by decide) _ (I.hok.fresh (Nat.le_refl _))⟩
      exact ⟨Nat.zero_le _, [], .nil, IsTup.new _ _⟩
    · have hsz : (its.toArray.size : Int) * k ≤ (sizeLine : Int) := by
        rw [List.size_toArray, ← hl, ← Int.toNat_of_nonneg h0]
        exact_mod_cast hz
      have hnew : List.foldl (fun x1 x2 => x1 ++ x2) #[] (List.replicate k.toNat its.toArray) = (List.replicate k.toNat its).flatten.toArray := by
        have := foldl_rep its k.toNat []
        rw [List.nil_append] at this
        exact this
      refine call_meets F.slot_tuple_mul ⟨_, ho, rfl⟩ F.entry_tuple_mul (F.args_tuple_mul_2 _ _) (tuple_mulN a its.toArray n dd sl k t he (by simpa using hk1) (by (clear I ha hx hz q1 q2 r1 p1 hl ho he hk1 hsz hnew; omega)) ?_ ?_ ?_ ?_) ⟨ho, ?_⟩
      · rw [decide_eq_false (by (clear I ha hx hz q1 q2 r1 p1 hl ho he hk1 hk0 hsz hnew; omega)), decide_eq_false (by (clear I ha hx hz q1 q2 r1 p1 hl ho he hk1 hk0 hsz hnew; omega))]; rfl
      · refine decide_eq_false (Int.not_lt.mpr (Int.le_trans hsz ?_))
        decide
      · unfold Builtin.Tuple.tupleTooMany
        exact decide_eq_false (Int.not_lt.mpr hsz)
      · rw [hnew, List.size_toArray, len_rep, Nat.mul_comm, ← hl]
        exact hz
      · rw [hnew]
        refine ⟨.ref s.heap.objs.size, _, I.laid (t' := s.toks) (o := .tup (List.replicate k.toNat xs).flatten) (fun b ob q => Heap.get?_push_of_some _ q) (Nat.le_refl _) ?_, rfl, q2 hk1 _ (I.hok.fresh (Nat.le_refl _))⟩
        exact ⟨by rw [len_rep, Nat.mul_comm]; exact hz, _, r1.rep k.toNat, IsTup.new _ _⟩
end
end L2
namespace L2
open PySem PySem.Spec PyProof.Rows
section
variable {X : Cx}
end
end L2
namespace L2
open PySem PySem.Spec PyProof.Rows
noncomputable abbrev WEx := Addr → WSt → Gp → Prop
noncomputable def XP (X : Cx) (pins : List (Addr × Obj)) (H : Hp) (ex : WEx) (e : Value) (s' : Shared) : Prop :=
  ∃ a T C H0 s0 σ H' τ G, e = .ref a ∧ Inv X pins σ H0 s0 ∧ Fl X.prog X.w (frs X.stack) H0 H' s0.heap s'.heap a T (.ref C) .none ∧ s'.os = s0.os ∧ AllBare s'.gens ∧ TLe H H' ∧ RelSt X.K H' τ σ ∧ RelG X.K H' G ∧ ex C τ G
section
variable {X : Cx} {x : Str} {p pos : Pos}
noncomputable def wSeqY (t u : WEx → WS) : WEx → WS := fun ex => wSeq (t ex) (u ex)
noncomputable def wIfY (c : WT) (t u : WEx → WS) : WEx → WS := fun ex => wIf c (t ex) (u ex)
noncomputable def wCallY (i : Nat) (sp : WSp) (dws : List W) (t : WA) : WEx → WS := fun ex d τ G => t τ G fun ws G1 => sp (ws ++ dws) G1 (fun v G2 => d.nx (τ.set i (some v)) G2) fun c G2 => ∀ C, c = .ref C → ex C τ G2
noncomputable def wDoY (sp : WSp) (dws : List W) (t : WA) : WEx → WS := fun ex d τ G => t τ G fun ws G1 => sp (ws ++ dws) G1 (fun _ G2 => d.nx τ G2) fun c G2 => ∀ C, c = .ref C → ex C τ G2
noncomputable def wTryY (t : WEx → WS) (cs : List (Addr × WS)) : WS := fun d τ G => t (fun C τ1 G1 => ∃ th, (C, th) ∈ cs ∧ th d τ1 G1) d τ G
end
end L2
namespace L2
open PySem PySem.Spec PyProof.Rows
section
variable {prog : Program} {w : World} {A : Around} {E : Value → Shared → Prop} {s : Shared}
end
noncomputable def jRev (ta : WA) : WI := fun τ G r => ta τ G fun ws G1 => match ws with
  | [.tup xs] => r xs.reverse (fun _ => True) G1
  | _ => False
end L2
namespace L2
open PySem PySem.Spec PyProof.Rows
noncomputable def enumW : Nat → List W → List W
  | _, [] => []
  | i, x :: xs => .tup [.int (i : Int), x] :: enumW (i + 1) xs
section
variable {prog : Program} {w : World} {A : Around} {E : Value → Shared → Prop} {s : Shared}
end
noncomputable def jEnum (ta : WA) : WI := fun τ G r => ta τ G fun ws G1 => match ws with
  | [.tup xs] => r (enumW 0 xs) (fun _ => True) G1
  | _ => False
end L2
namespace L2
open PySem PySem.Spec PyProof.Rows
mutual
noncomputable def W.ge : W → W → Bool
  | .int i, .int j => decide (i ≥ j)
  | .tup xs, .tup ys => W.ges xs ys
  | _, _ => false
noncomputable def W.ges : List W → List W → Bool
  | [], [] => true
  | [], _ :: _ => false
  | _ :: _, [] => true
  | x :: xs, y :: ys => if W.eq x y = true then W.ges xs ys else W.ge x y
end
noncomputable def GeAt (A : Around) (s : Shared) (y x : Value) (b : Bool) : Prop :=
  ∀ (prog : Program) (w : World) (E : Value → Shared → Prop) (Q : Value → Shared → Prop), Q (.bool b) s → wpAny (model prog w) A (richCompare .GtE y x) Q E s
inductive CmpG (A : Around) (s : Shared) : List Value → List Value → Bool → Prop where
  | nn : CmpG A s [] [] true
  | nc {y : Value} {ys : List Value} : CmpG A s [] (y :: ys) false
  | cn {x : Value} {xs : List Value} : CmpG A s (x :: xs) [] true
  | eq {x y : Value} {xs ys : List Value} {r : Bool} (h : SeqAt.EqAt A s x y true) (t : CmpG A s xs ys r) : CmpG A s (x :: xs) (y :: ys) r
  | ne {x y : Value} {xs ys : List Value} {r : Bool} (h : SeqAt.EqAt A s x y false) (t : GeAt A s x y r) : CmpG A s (x :: xs) (y :: ys) r
section
open PySem.SeqAt
open PySem.AutoSeq1 (wpAny_loadPart')
open PySem.MeetsSeq PySem.MeetsSeq2 PySem.MeetsSeq3
end
section
variable {X : Cx} {pins : List (Addr × Obj)} {σ : St} {H : Hp} {s : Shared}
end
section
variable {X : Cx}
noncomputable def rGe3 : W2 := fun x y G q => match x, y with
  | .int i, .int j => q (.bl (decide (i ≥ j))) G
  | .tup xs, .tup ys => W.flats xs = true ∧ W.flats ys = true ∧ W.deps xs ≤ 149 ∧ W.ords xs ys = true ∧ q (.bl (W.ges xs ys)) G
  | _, _ => False
end
section
variable {X : Cx}
noncomputable def wExt (to te : WE) : WE := fun τ G q => to τ G fun x G1 => match x with
  | .ref a => (∃ xs, G1 a = some (.lst xs)) ∧ te τ G1 fun y G2 => match y with
    | .ref b => ∃ ys zs, G2 a = some (.lst ys) ∧ G2 b = some (.lst zs) ∧ ys.length + zs.length ≤ 100000 ∧ q .non (updG G2 a (.lst (ys ++ zs)))
    | _ => False
  | _ => False
end
end L2
namespace L2
open PySem PySem.Spec PyProof.Rows
section
variable {prog : Program} {w : World} {A : Around} {E : Value → Shared → Prop} {h : Heap} {g : Array GenState} {d : Drawn} {t : Nat} {os : OsState} {a C : Addr} {o : Obj} {K : PySem.W.Frag} {bm : List Value}
end
section
variable {prog : Program} {w : World} {A : Around} {E : Value → Shared → Prop} {s : Shared} {a C D : Addr} {o : Obj} {K : PySem.W.Frag} {bm : List Value}
end
section
variable {X : Cx} {a : Addr} {oe : Obj} {C D : Addr} {bm : List Value}
noncomputable def wIsn (i : Nat) (a : Addr) : WE := fun τ G q => τ[i]? = some (some (.ref a)) ∧ q (.bl false) G
end
end L2
namespace L2
open PySem PySem.Spec PyProof.Rows
theorem RFn.calm {P : Program} {w : World} {K : PySem.W.Frag} {mg : Str → Option Value} {base : Heap} {k : Nat} {f : Addr} {fd : FuncData} {ps : List Str} {sp sp' : WSp} (F : RFn P w K mg base k f fd ps sp) (h : ∀ ws G q e, sp' ws G q e → sp ws G q fun _ _ => False) : WFn P w K mg base k f fd ps sp' := by
  refine ⟨fun vs H Q E ⟨ws, G, q, e, r, g, z, hQ, _⟩ => F.len vs H Q (fun _ _ _ => False) ⟨ws, G, q, fun _ _ => False, r, g, h _ _ _ _ z, hQ, fun _ _ _ _ _ _ z => z.elim⟩, fun A outer s H args us vs Q E hr he hb hv ⟨ws, G, q, e, r, g, z, hQ, _⟩ => ?_⟩
  refine codeAny_mono (F.run A outer s H args us vs Q (fun _ _ _ => False) hr he hb hv ⟨ws, G, q, fun _ _ => False, r, g, h _ _ _ _ z, hQ, fun _ _ _ _ _ _ z => z.elim⟩) fun r s' hq => ?_
  cases r with
  | ok fl =>
    cases fl with
    | ret u => exact hq
    | next => exact hq
    | brk => exact hq
    | cont => exact hq
  | error e =>
    obtain ⟨a, T, C, H', _, _, _, _, z⟩ := hq
    exact z.elim
end L2
namespace L2
open PySem PySem.Spec PyProof.Rows
noncomputable def jEnumL (ta : WA) : WI := fun τ G r => ta τ G fun ws G1 => match ws with
  | [.ref a] => ∃ l, G1 a = some (.lst l) ∧ r (enumW 0 l) (fun G => G a = some (.lst l)) G1
  | _ => False
end L2
set_option maxRecDepth 100000
namespace L2
open PySem PySem.Spec PyProof.Rows
section
variable {prog : Program} {w : World} {A : Around} {E : Value → Shared → Prop} {s : Shared} {I l : Addr} {items : Array Value}
end
section
variable {X : Cx}
noncomputable def wTupRvT (te : WE) : WE := fun τ G q => te τ G fun x G1 => match x with
  | .tup ws => q (.tup ws.reverse) G1
  | _ => False
end
end L2
namespace L2
open PySem PySem.Spec PyProof.Rows
section
variable {X : Cx}
noncomputable def rIsA (neg : Bool) : W2 := fun x y G q => match y with
  | .non => q (.bl (neg ^^ isNon x)) G
  | .bl b => match x with
    | .bl a => q (.bl (neg ^^ (a == b))) G
    | _ => False
  | _ => False
end
end L2
set_option maxRecDepth 100000
namespace L2
open PySem PySem.Spec PyProof.Rows
section
variable {X : Cx} {pins : List (Addr × Obj)} {σ : St} {H0 H : Hp} {s0 s : Shared} {a T C D : Addr}
variable {bm bmD : List Value} {x : Str} {p pos : Pos} {name : Option Str} {body : List Stmt} {rest : List ExceptHandler} {b0 : Stmt} {th : WS}
end
end L2
set_option maxRecDepth 100000
namespace L2
open PySem PySem.Spec PyProof.Rows
structure RoomN (k : Nat) (A : Around) : Prop where
  dp : A.depth + 3 * k + 5 < recursionLimit
  un : A.units + 16 * k + 200 < cLine
structure FnN (P : Program) (w : World) (K : PySem.W.Frag) (mg : Str → Option Value) (base : Heap) (CX : CXT) (k : Nat) (f : Addr) (fd : FuncData) (ps : List Str) (sp : Sp) : Prop where
  len : ∀ vs H Q E, sp vs H Q E → vs.length = ps.length
  run : ∀ (A : Around) (outer : List Env) (s : Shared) (H : Hp) (args : Args) (us : List Value) (vs : List V) (Q : VK) (E : XK), RoomN k A → Env0 P w K mg base A outer s H → BindsTo s fd args (ps.zip us) → Vals vs us → sp vs H Q E →
    codeAny (model P w) A (.call (.ref f) args) (CR CX outer P w H s Q E) s
section
variable {X : Cx}
end
end L2
namespace L2
open PySem PySem.Spec PyProof.Rows
section
variable {P : Program} {w : World} {K : PySem.W.Frag} {mg : Str → Option Value} {base : Heap} {k : Nat} {f : Addr} {fd : FuncData} {ps : List Str} {sp sp' : WSp}
end
end L2
set_option maxRecDepth 100000
namespace L2
open PySem PySem.Spec PyProof.Rows
section
variable {K : PySem.W.Frag} {H : Hp}
end
section
variable {X : Cx}
structure Mt (P : Program) (w : World) (K : PySem.W.Frag) (mg : Str → Option Value) (base : Heap) (C : Addr) (m : Str) (ps : List Str) (k : Nat) (sp : WSp) (dws : List W) : Prop where
  ex : ∃ (f : Addr) (fd : FuncData) (ds : List Value) (dvs : List V), Meth K C m f ∧ WFn P w K mg base k f fd ps sp ∧ Binds K fd ps ds ∧ Vals dvs ds ∧ ∀ H, Reps K H dws dvs
  cl : Cls K C
noncomputable def wPop (to : WE) : WE := fun τ G q => to τ G fun x G1 => match x with
  | .ref a => ∃ ys y, G1 a = some (.lst (ys ++ [y])) ∧ q y (updG G1 a (.lst ys))
  | _ => False
theorem Reps.snoc {K : PySem.W.Frag} {H : Hp} : ∀ {ys : List W} {y : W} {xs : List V}, Reps K H (ys ++ [y]) xs → ∃ v, xs[xs.length - 1]? = some v ∧ Rep K H y v ∧ Reps K H ys xs.dropLast
  | [], y, xs, r => by
    obtain ⟨v, rfl, rv⟩ := r.one
    exact ⟨v, rfl, rv, .nil⟩
  | w :: ys, y, _, .cons (v := v) (vs := vs) r rs => by
    obtain ⟨u, h1, h2, h3⟩ := Reps.snoc rs
    have hl := rs.length
    cases vs with
    | nil => simp at hl
    | cons v2 vs2 =>
      refine ⟨u, ?_, h2, ?_⟩
      · simpa using h1
      · rw [List.dropLast_cons₂]
        exact .cons r h3
theorem qe_pop {o : Expr} {to : WE} {apos cpos : Pos} (ho : QE X o to)
    (hbase : attributeBase o "pop" X.env (eval o X.env) = eval o X.env := by rfl) (hline : (apos.endLine == cpos.line) = true := by rfl) : QE X (.Call (.Attribute o "pop" apos) [] [] cpos) (wPop to) :=
  (pe_bm0 PySem.F.plainAttrs_list PySem.F.slot_list_pop PySem.F.type_list_pop mt_pop ho hbase hline).imp fun σ H Q z0 => z0.el fun τ G q hs hg ht hQ =>
    ⟨τ, G, _, hs, hg, ht, fun v H1 w G1 t1 r1 g1 q1 => by
      split at q1
      · rename_i a
        cases r1
        obtain ⟨ys, y, e1, q1⟩ := q1
        obtain ⟨hl, xs', h1, rr⟩ := g1 a _ e1
        obtain ⟨u, hu, ru, rd⟩ := rr.snoc
        refine ⟨.inl ⟨rfl, xs', SqL.of h1⟩, a, xs', u, rfl, rfl, h1, hu, ?_⟩
        have tl := TLe.lst h1 (.lst xs'.dropLast)
        exact hQ _ _ _ _ (t1.trans tl) (ru.mono tl) (g1.put tl rd (by simp at hl; exact Nat.le_trans (by assumption) (Nat.le_of_ble_eq_true rfl))) q1
      · exact q1.elim⟩
section
variable {P : Program} {w : World} {K : PySem.W.Frag} {mg : Str → Option Value} {base : Heap} {C : Addr} {m qual : Str} {st : Stmt} {ps : List Str} {k : Nat} {sp : WSp} {dws : List W}
end
theorem lnZ {α : Type} {p : List α → Prop} (h : p []) (us : List α) (e : us.length = 0) : p us := by
  rw [List.eq_nil_of_length_eq_zero e]; exact h
theorem lnS {α : Type} {n : Nat} {p : List α → Prop} (h : ∀ a, ∀ us : List α, us.length = n → p (a :: us)) (us : List α) (e : us.length = n + 1) : p us := by
  cases us with
  | nil => exact absurd e (Nat.succ_ne_zero n).symm
  | cons a us => exact h a us (Nat.succ.inj e)
end
end L2
namespace Nm
inductive O where
  | z
  | c (e : O) (n : Int) (r : O)
  deriving DecidableEq
namespace O
noncomputable def cmp : O → O → Int
  | z, z => 0
  | z, c _ _ _ => -1
  | c _ _ _, z => 1
  | c e n r, c e' n' r' =>
    if cmp e e' ≠ 0 then cmp e e' else if n < n' then -1 else if n' < n then 1 else cmp r r'
noncomputable def size : O → Nat
  | z => 0
  | c e _ r => 1 + size e + size r
noncomputable def dp : O → Nat
  | z => 0
  | c e _ r => max (dp e + 1) (dp r)
noncomputable def len : O → Nat
  | z => 0
  | c _ _ r => len r + 1
noncomputable def app : O → O → O
  | z, b => b
  | c e n r, b => c e n (app r b)
noncomputable def filt (p : O → Int → Bool) : O → O
  | z => z
  | c e n r => if p e n then c e n (filt p r) else filt p r
noncomputable def same (x : O) : O → Int
  | z => 0
  | c e n r => if e = x then n + same x r else same x r
noncomputable def init : O → O
  | z => z
  | c _ _ z => z
  | c e n r => c e n (init r)
noncomputable def last : O → O
  | z => z
  | c e n z => c e n z
  | c _ _ r => last r
noncomputable def Lt (e : O) : O → Prop
  | z => True
  | c x _ r => cmp x e < 0 ∧ Lt e r
noncomputable def NF : O → Prop
  | z => True
  | c e n r => NF e ∧ 1 ≤ n ∧ Lt e r ∧ NF r
end O
end Nm
namespace Nm
namespace O
end O
end Nm
namespace Nm
namespace O
end O
end Nm
namespace Nm
namespace O
noncomputable def stay (e a : O) : Nat := (filt (fun x _ => decide (0 < cmp x e)) a).len
end O
end Nm
namespace Nm
namespace O
noncomputable def mx : O → Int
  | z => 0
  | c e n r => max n (max (mx e) (mx r))
structure Good (B : Int) (o : O) : Prop where
  nf : NF o
  sz : o.size ≤ 24
  mx : O.mx o ≤ B
end O
end Nm
namespace Nm
namespace O
section
variable {e : O} {n : Int} {r : O}
end
end O
end Nm
namespace Nm
namespace O
section
variable {e : O} {n : Int} {r : O}
end
end O
end Nm
namespace Nm
namespace O
end O
end Nm
namespace Nm
namespace O
noncomputable def hw : O → Nat
  | z => 0
  | c e _ r => max (len r + 1) (max (hw e) (hw r))
end O
end Nm
namespace Nm
namespace O
noncomputable def lessO : O → O
  | z => z
  | c e n z => if n = 1 then z else c e (n - 1) z
  | c e n (c e' n' r') => c e n (lessO (c e' n' r'))
noncomputable def lastE : O → O
  | z => z
  | c e _ z => e
  | c _ _ (c e' n' r') => lastE (c e' n' r')
noncomputable def Lim (a : O) : Prop := a ≠ z ∧ same z a = 0
inductive Lad : O → Int → O → Prop where
  | suc {a : O} {n : Int} (h0 : a ≠ z) (h : lastE a = z) : Lad a n (lessO a)
  | lim {a : O} {n : Int} {o : O} (h0 : a ≠ z) (h : Lim (lastE a)) (k : Lad (lastE a) n o) : Lad a n (app (lessO a) (c o 1 z))
  | one {a : O} {n : Int} (h0 : a ≠ z) (h : lastE a ≠ z) (h' : ¬ Lim (lastE a)) : Lad a n (app (lessO a) (if n = 0 then z else c (lessO (lastE a)) n z))
end O
end Nm
namespace Nm
namespace O
end O
end Nm
namespace Nm
namespace O
structure Rg (a b : O) (n : Int) : Prop where
  pos : 0 ≤ n
  pass : ∀ o, Lad a n o → cmp b o < 0
  least : 0 < n → ∀ o, Lad a (n - 1) o → ¬ cmp b o < 0
end O
end Nm
namespace Nm
namespace O
end O
end Nm
namespace Nm
namespace O
end O
end Nm
namespace Nm
namespace O
noncomputable def wh (m : Int) : O := if m = 0 then z else c z m z
end O
end Nm
namespace Nm
namespace O
noncomputable abbrev one : O := c z 1 z
noncomputable abbrev lim (b : O) : O := filt (fun y _ => decide (¬ y = z)) b
end O
end Nm
namespace Nm
namespace O
section
variable {x : O} {n m : Int}
end
end O
end Nm
namespace Nm
namespace O
noncomputable abbrev w1 : O := c one 1 z
end O
end Nm
namespace Nm
namespace O
end O
end Nm
namespace Nm
namespace O
noncomputable def ot : O → Int
  | z => 0
  | c _ n r => max n (ot r)
end O
end Nm
namespace Nm
namespace O
end O
end Nm
namespace Nm
namespace O
noncomputable def val (b : Nat) : O → Nat
  | z => 0
  | c e n r => n.toNat * b ^ val b e + val b r
structure Wr (b : Nat) (a : O) : Prop where
  nf : NF a
  mx : O.mx a < b
end O
end Nm
namespace Nm
namespace O
noncomputable def tp (b : Nat) : O → Nat
  | z => 0
  | c e _ _ => val b e + 1
end O
end Nm
namespace Nm
namespace O
open Classical in
noncomputable def rep (b s : Nat) : O := if h : ∃ o, Wr b o ∧ val b o = s then choose h else z
noncomputable def tl (b : Nat) : Nat → O
  | 0 => z
  | s + 1 => c (rep b s) ((b : Int) - 1) (tl b s)
end O
end Nm
namespace Nm
namespace O
inductive Wy (b : Nat) : O → Prop where
  | z : Wy b z
  | c {a : O} (h0 : a ≠ O.z) (nf : NF a) (w : Wr b (lessO a)) (k : Wy b (lastE a)) : Wy b a
end O
end Nm
namespace Nm
namespace O
end O
end Nm
namespace Nm
namespace O
noncomputable def xb (b : Nat) : Nat := if b * b ≤ 55 then b else 54 / b + 1
noncomputable def topO (b : Nat) : O := if b < 56 then c (c z 1 z) (xb b : Int) z else c z 55 z
structure Rw (b k : Nat) (a : O) : Prop where
  wr : Wr (b + k) a
  top : Lt (topO b) a
  tp : O.tp (b + k) a ≤ 200
end O
end Nm
namespace Nm
namespace O
structure Hi (b : Nat) (a p e : O) (n : Int) : Prop where
  app : a = O.app p (c e n z)
  wp : Wr b p
  we : Wr b e
  n1 : 1 ≤ n
  n2 : n < b
  last : lastE a = e
  div : ∃ q, val b p = q * b ^ (val b e + 1)
  lt : p ≠ z → cmp e (lastE p) < 0
  dp : p.dp ≤ a.dp
  de : e.dp < a.dp
  top : ∀ x, Lt x a → Lt x p
end O
end Nm
namespace Nm
namespace O
end O
end Nm
namespace Nm
inductive Tr where
  | z
  | c (b r : Tr)
namespace Tr
noncomputable def pts : Tr → Nat
  | z => 1
  | c b r => pts b + pts r
noncomputable def dp : Tr → Nat
  | z => 0
  | c b r => max (dp b + 1) (dp r)
noncomputable def len : Tr → Nat
  | z => 0
  | c _ r => len r + 1
noncomputable def ofL : List Tr → Tr
  | [] => z
  | b :: l => c b (ofL l)
theorem pts_pos : ∀ t : Tr, 1 ≤ pts t
  | z => Nat.le_refl _
  | c b r => by have := pts_pos r; show 1 ≤ pts b + pts r; omega
theorem len_pts : ∀ t : Tr, len t + 1 ≤ pts t
  | z => Nat.le_refl _
  | c b r => by
    have := pts_pos b
    have := len_pts r
    show len r + 1 + 1 ≤ pts b + pts r
    omega
theorem dp_pts : ∀ t : Tr, dp t + 1 ≤ pts t
  | z => Nat.le_refl _
  | c b r => by
    have := dp_pts b
    have := dp_pts r
    have := pts_pos b
    have := pts_pos r
    show max (dp b + 1) (dp r) + 1 ≤ pts b + pts r
    (clear this; omega)
noncomputable def sm (f : Nat → Nat) : Nat → Nat
  | 0 => 0
  | n + 1 => sm f n + f n
structure Hang (n M : Nat) (ch : Nat → List Nat) (ds : Nat → Nat) : Prop where
  pos : 1 ≤ n
  d0 : ds 0 = 0
  in_ : ∀ v, v < n → ∀ j, j ∈ ch v → v < j ∧ j < n ∧ ds j = ds v + 1
  dp : ∀ v, v < n → ds v ≤ M
  sum : ∀ f : Nat → Nat, sm (fun v => ((ch v).map f).sum) n + f 0 = sm f n
  len : ∀ v, v < n → (ch v).length ≤ n
structure Grown (n M k : Nat) (ch : Nat → List Nat) (ds : Nat → Nat) (t : Nat → Tr) : Prop where
  pts : ∀ v, k ≤ v → v < n → Tr.pts (t v) = 1 + ((ch v).map fun j => Tr.pts (t j)).sum
  dp : ∀ v, k ≤ v → v < n → Tr.dp (t v) + ds v ≤ M
end Tr
end Nm
namespace Nm
namespace Tr
open O
noncomputable def app : Tr → Tr → Tr
  | z, u => u
  | c b r, u => c b (app r u)
theorem pts_app : ∀ t u : Tr, pts (app t u) + 1 = pts t + pts u
  | z, u => by show pts u + 1 = 1 + pts u; omega
  | c b r, u => by
    have := pts_app r u
    show pts b + pts (app r u) + 1 = pts b + pts r + pts u
    omega
noncomputable def getT : Tr → Nat → Option Tr
  | z, _ => none
  | c b _, 0 => some b
  | c _ r, i + 1 => getT r i
noncomputable def setT : Tr → Nat → Tr → Tr
  | z, _, _ => z
  | c _ r, 0, u => app u r
  | c b r, i + 1, u => c b (setT r i u)
noncomputable def reps (b : Tr) : Nat → Tr
  | 0 => z
  | n + 1 => c b (reps b n)
end Tr
end Nm
namespace Nm
namespace Tr
open O
end Tr
end Nm
namespace Nm
namespace Tr
open O
end Tr
end Nm
namespace Nm
namespace Tr
end Tr
end Nm
namespace Nm
namespace Tr
open O
theorem app_assoc : ∀ t u v : Tr, app (app t u) v = app t (app u v)
  | z, _, _ => rfl
  | c b r, u, v => by show c b (app (app r u) v) = c b (app r (app u v)); rw [app_assoc r u v]
end Tr
end Nm
namespace Nm
namespace Tr
noncomputable def isz : Tr → Bool
  | z => true
  | c _ _ => false
noncomputable def bare : Tr → Nat
  | z => 0
  | c b r => (if isz b = true then 1 else bare b) + bare r
end Tr
end Nm
namespace Nm
namespace O
inductive Ru (n : Int) : O → O → Prop
  | less {a : O} : a ≠ .z → lastE a = .z → Ru n a (lessO a)
  | succ {a : O} : a ≠ .z → lastE a ≠ .z → lastE (lastE a) = .z → Ru n a (O.app (lessO a) (.c (lessO (lastE a)) n .z))
  | lim {a o : O} : a ≠ .z → lastE a ≠ .z → lastE (lastE a) ≠ .z → Ru n (lastE a) o → Ru n a (O.app (lessO a) (.c o 1 .z))
end O
namespace Tr
open O
end Tr
end Nm
namespace Nm
namespace O
end O
end Nm
namespace Nm
namespace O
structure Bd (d s : Nat) (m : Int) (o : O) : Prop where
  nf : o.NF
  dp : o.dp ≤ d
  sz : o.size ≤ s
  mx : O.mx o ≤ m
end O
end Nm
namespace Nm
namespace O
end O
end Nm
namespace Nm
namespace O
end O
end Nm
namespace Nm
namespace O
end O
end Nm
namespace Nm
namespace O
end O
end Nm
namespace Nm
namespace O
noncomputable def e1 : O := c z 1 z
inductive Far (B k l : Nat) : Prop
  | two : B = 2 → k = 16 → l < 2 → Far B k l
  | three : B = 3 → k = 27 → l < 3 → Far B k l
end O
end Nm
namespace Nm
namespace O
end O
end Nm
namespace Nm
namespace O
inductive Dn (f : Nat → Int) (a : O) : List O → O → Prop where
  | one : Dn f a [a] a
  | step {os : List O} {b o : O} (h : Dn f a os b) (hb : b ≠ z) (l : Lad b (f (os.length - 1)) o) : Dn f a (os ++ [o]) o
end O
end Nm
namespace Nm
namespace Tr
noncomputable def sh : Tr → List Nat
  | z => []
  | c b r => 40 :: (sh b ++ 41 :: sh r)
noncomputable def shown (t : Tr) : List Nat := 40 :: (sh t ++ [41])
theorem sh_app : ∀ t u : Tr, sh (t.app u) = sh t ++ sh u
  | z, u => rfl
  | c b r, u => by
    show 40 :: (sh b ++ 41 :: sh (r.app u)) = 40 :: (sh b ++ 41 :: sh r) ++ sh u
    rw [sh_app r u]
    simp
theorem sh_count : ∀ t : Tr, (sh t).count 40 + 1 = pts t
  | z => rfl
  | c b r => by
    have h1 := sh_count b
    have h2 := sh_count r
    show (40 :: (sh b ++ 41 :: sh r)).count 40 + 1 = pts b + pts r
    rw [List.count_cons_self, List.count_append, List.count_cons_of_ne (by decide)]
    omega
theorem sh_len : ∀ t : Tr, (sh t).length + 2 = 2 * pts t
  | z => rfl
  | c b r => by
    have h1 := sh_len b
    have h2 := sh_len r
    show (40 :: (sh b ++ 41 :: sh r)).length + 2 = 2 * (pts b + pts r)
    simp only [List.length_cons, List.length_append]
    omega
theorem shown_count (t : Tr) : (shown t).count 40 = pts t := by
  have := sh_count t
  unfold shown
  rw [List.count_cons_self, List.count_append]
  show (sh t).count 40 + 0 + 1 = _
  assumption
theorem shown_len (t : Tr) : (shown t).length = 2 * pts t := by
  have := sh_len t
  unfold shown
  simp only [List.length_cons, List.length_append, List.length_nil]
  assumption
instance decZ : (t : Tr) → Decidable (t = z)
  | z => .isTrue rfl
  | c _ _ => .isFalse (fun h => by cases h)
theorem app_z : ∀ t : Tr, t.app z = t
  | z => rfl
  | c b r => by show c b (r.app z) = _; rw [app_z r]
noncomputable def low : List Tr → Tr
  | [] => z
  | [t] => t
  | _ :: u :: l => low (u :: l)
noncomputable def step (ls : List Tr) (s : Nat) : Option (List Tr) :=
  if s = 40 ∧ low ls = z ∧ ls.length ≤ 41 then some (z :: ls)
  else if s = 41 then
    match ls with
    | t :: u :: l => some (u.app (c t z) :: l)
    | _ => none
  else none
noncomputable def rdS : List Nat → List Tr → Option (List Tr)
  | [], ls => some ls
  | s :: cs, ls => match step ls s with
    | none => none
    | some ls' => rdS cs ls'
noncomputable def rdT (l : List Nat) : Option Tr :=
  if 600 < l.count 40 then none else match rdS l [z] with
    | none => none
    | some ls => match low ls with
      | z => none
      | c b _ => some b
structure Bg (ls : List Tr) : Prop where
  ne : ls ≠ []
  lo : low ls = z ∨ ∃ b, ls = [c b z]
  len : ls.length ≤ 42
noncomputable def rend : List Tr → List Nat
  | [] => []
  | [t] => sh t
  | t :: u :: l => rend (u :: l) ++ 40 :: sh t
noncomputable def dpOk : List Tr → Prop
  | [] => True
  | t :: l => t.dp + l.length ≤ 41 ∧ dpOk l
theorem dp_app1 : ∀ (u t : Tr), dp (u.app (c t z)) = max (dp u) (dp t + 1)
  | z, t => by show max (dp t + 1) 0 = max 0 (dp t + 1); omega
  | c b r, t => by
    show max (dp b + 1) (dp (r.app (c t z))) = max (max (dp b + 1) (dp r)) (dp t + 1)
    rw [dp_app1 r t]
    omega
theorem low_cons {t : Tr} : ∀ {l : List Tr}, l ≠ [] → low (t :: l) = low l
  | [], h => absurd rfl h
  | _ :: _, _ => rfl
theorem Bg.step {ls ls' : List Tr} {s : Nat} (h : Bg ls) (hd : dpOk ls) (e : Tr.step ls s = some ls') : Bg ls' ∧ dpOk ls' ∧ rend ls' = rend ls ++ [s] ∧ ((s = 40 ∧ low ls = z ∧ ls' = z :: ls ∧ ls.length ≤ 41) ∨ (s = 41 ∧ 2 ≤ ls.length ∧ ls'.length + 1 = ls.length)) := by
  unfold Tr.step at e
  split at e
  · rename_i hc
    cases e
    obtain ⟨t, l, rfl⟩ : ∃ t l, ls = t :: l := by
      cases ls with
      | nil => exact absurd rfl h.ne
      | cons t l => exact ⟨t, l, rfl⟩
    refine ⟨⟨by simp, .inl hc.2.1, by have := hc.2.2; simp only [List.length_cons] at this ⊢; (clear h hd hc; omega)⟩, ⟨?_, hd⟩, ?_, .inl ⟨hc.1, hc.2.1, rfl, hc.2.2⟩⟩
    · have := hc.2.2
      show 0 + (t :: l).length ≤ 41
      (clear h hd this; omega)
    · rw [hc.1]
      rfl
  · rename_i hn0
    split at e
    · rename_i hs
      split at e
      · rename_i t u l
        cases e
        have hlen := h.len
        simp only [List.length_cons] at hlen
        have hlow : low (u :: l) = z := by
          rcases h.lo with h1 | ⟨b, h1⟩
          · exact h1
          · cases h1
        refine ⟨⟨by simp, ?_, by simp only [List.length_cons]; (clear hs h hd hn0 hlow; omega)⟩, ?_, ?_, .inr ⟨hs, by simp, by simp⟩⟩
        · cases l with
          | nil =>
            have : u = z := hlow
            subst this
            exact .inr ⟨t, rfl⟩
          | cons v l => exact .inl hlow
        · obtain ⟨h1, h2, h3⟩ := hd
          simp only [List.length_cons] at h1
          refine ⟨?_, h3⟩
          rw [dp_app1]
          (clear hs h hn0 hlen hlow h3; omega)
        · have e1 : sh (u.app (c t z)) = sh u ++ (40 :: sh t) ++ [41] := by rw [sh_app]; simp [sh]
          rw [hs]
          cases l with
          | nil =>
            show sh (u.app (c t z)) = (sh u ++ 40 :: sh t) ++ [41]
            exact e1
          | cons v l =>
            show rend (v :: l) ++ 40 :: sh (u.app (c t z)) = (rend (v :: l) ++ 40 :: sh u ++ 40 :: sh t) ++ [41]
            rw [e1]
            simp
      · cases e
    · cases e
theorem Bg.run : ∀ {cs : List Nat} {ls ls' : List Tr}, Bg ls → dpOk ls → rdS cs ls = some ls' → Bg ls' ∧ dpOk ls' ∧ rend ls' = rend ls ++ cs ∧ ls'.length + cs.count 41 = ls.length + cs.count 40 ∧ cs.count 40 + cs.count 41 = cs.length
  | [], ls, ls', h, hd, e => by
    cases e
    exact ⟨h, hd, by simp, rfl, rfl⟩
  | s :: cs, ls, ls', h, hd, e => by
    unfold rdS at e
    cases hs : Tr.step ls s with
    | none => rw [hs] at e; cases e
    | some l1 =>
      rw [hs] at e
      obtain ⟨b1, d1, r1, q⟩ := h.step hd hs
      obtain ⟨b2, d2, r2, l2, n2⟩ := Bg.run b1 d1 e
      refine ⟨b2, d2, by rw [r2, r1]; simp, ?_, ?_⟩
      · rcases q with ⟨rfl, _, rfl, _⟩ | ⟨rfl, _, hl⟩
        · rw [List.count_cons_self, List.count_cons_of_ne (by decide)]
          simp only [List.length_cons] at l2
          (clear h hd b2 d2 e b1 d1 r2 hs r1; omega)
        · rw [List.count_cons_self, List.count_cons_of_ne (by decide)]
          (clear h hd e b1 d1 b2 d2 r2 n2 hs r1; omega)
      · rcases q with ⟨rfl, _⟩ | ⟨rfl, _⟩
        · rw [List.count_cons_self, List.count_cons_of_ne (by decide), List.length_cons]
          (clear h hd e b1 d1 b2 d2 r2 l2 hs r1; omega)
        · rw [List.count_cons_self, List.count_cons_of_ne (by decide), List.length_cons]
          (clear h hd e b1 d1 b2 d2 r2 l2 hs r1; omega)
theorem bg0 : Bg [z] := ⟨by simp, .inl rfl, by simp⟩
theorem dp0 : dpOk [z] := ⟨Nat.zero_le _, trivial⟩
theorem rdT_shown {l : List Nat} {t : Tr} (h : rdT l = some t) : shown t = l ∧ t.dp ≤ 40 ∧ t.pts ≤ 600 := by
  unfold rdT at h
  split at h
  · cases h
  · rename_i hc
    cases hr : rdS l [z] with
    | none => rw [hr] at h; cases h
    | some ls =>
      rw [hr] at h
      obtain ⟨b1, d1, r1, _, _⟩ := bg0.run dp0 hr
      have hsh : shown t = l ∧ t.dp ≤ 40 := by
        rcases b1.lo with h1 | ⟨b, rfl⟩
        · simp only [h1] at h
          cases h
        · have e : b = t := by
            have : some b = some t := h
            cases this
            rfl
          subst e
          refine ⟨?_, ?_⟩
          · have : sh (c b z) = [] ++ l := r1
            simpa [sh, shown] using this
          · have := d1.1
            simp only [dp, List.length_nil] at this
            (clear hc hr b1 d1 r1 h; omega)
      refine ⟨hsh.1, hsh.2, ?_⟩
      rw [← shown_count, hsh.1]
      (clear h hr b1 d1 r1 hsh; omega)
theorem rdS_sh : ∀ (t u v : Tr) (l : List Tr) (cs : List Nat), low (v :: l) = z → t.dp + (l.length + 2) ≤ 42 → rdS (sh t ++ cs) (u :: v :: l) = rdS cs (u.app t :: v :: l)
  | z, u, v, l, cs, _, _ => by rw [app_z]; rfl
  | c b r, u, v, l, cs, h, hd => by
    have hd' : max (dp b + 1) (dp r) + (l.length + 2) ≤ 42 := hd
    have e1 : Tr.step (u :: v :: l) 40 = some (z :: u :: v :: l) := by
      unfold Tr.step
      rw [if_pos ⟨rfl, h, by simp only [List.length_cons]; (clear h; omega)⟩]
    have e2 : Tr.step (b :: u :: v :: l) 41 = some (u.app (c b z) :: v :: l) := by
      unfold Tr.step
      rw [if_neg (fun h => by cases h.1), if_pos rfl]
    show rdS ((40 :: (sh b ++ 41 :: sh r)) ++ cs) (u :: v :: l) = _
    rw [List.cons_append, rdS, e1]
    show rdS (sh b ++ 41 :: sh r ++ cs) (z :: u :: v :: l) = _
    rw [List.append_assoc, rdS_sh b z u (v :: l) _ h (by simp only [List.length_cons]; (clear h hd e1 e2; omega)), List.cons_append, rdS]
    show (match Tr.step (b :: u :: v :: l) 41 with | none => none | some ls' => rdS (sh r ++ cs) ls') = _
    rw [e2]
    show rdS (sh r ++ cs) (u.app (c b z) :: v :: l) = _
    rw [rdS_sh r _ v l cs h (by (clear h hd e1 e2; omega)), app_assoc]
    rfl
theorem rdT_of {t : Tr} (h1 : t.dp ≤ 40) (h2 : t.pts ≤ 600) : rdT (shown t) = some t := by
  unfold rdT
  rw [if_neg (by rw [shown_count]; (clear h1; omega))]
  have e : rdS (shown t) [z] = some [c t z] := by
    unfold shown
    rw [rdS]
    have e1 : Tr.step [z] 40 = some [z, z] := by
      unfold Tr.step
      rw [if_pos ⟨rfl, rfl, by decide⟩]
    rw [e1]
    show rdS (sh t ++ [41]) [z, z] = _
    rw [rdS_sh t z z [] _ rfl (by simp only [List.length_nil]; (clear h2 e1; omega))]
    rfl
  rw [e]
  rfl
noncomputable def rtS : List Nat → Bool → Int → Int → Option (Int × Int)
  | [], _, d, m => some (d, m)
  | s :: cs, f, d, m =>
    if ¬ (s = 40 ∨ s = 41) ∨ (f = false ∧ d = 0) then none
    else
      let d' := d + 1 - 2 * (if s = 41 then 1 else 0)
      if d' < 0 then none else rtS cs false d' (max m d')
noncomputable def rt (l : List Nat) : Bool := match rtS l true 0 0 with
  | none => false
  | some (d, m) => decide (l ≠ []) && decide (d = 0) && decide (l.length ≤ 1200) && decide (m ≤ 41)
theorem rtS_up : ∀ {cs : List Nat} {f : Bool} {d m d' m' : Int}, rtS cs f d m = some (d', m') → m ≤ m'
  | [], _, _, _, _, _, e => by cases e; exact Int.le_refl _
  | s :: cs, f, d, m, d', m', e => by
    unfold rtS at e
    split at e
    · cases e
    · have key : ∀ x : Int, (if x < 0 then none else rtS cs false x (max m x)) = some (d', m') → m ≤ m' := fun x e => by
        split at e
        · cases e
        · have := rtS_up e
          (clear e; omega)
      exact key _ e
theorem low_app {t u : Tr} : low [u.app (c t z)] ≠ z := by
  cases u <;> simp [low, app]
theorem same_way : ∀ {cs : List Nat} {f : Bool} {ls : List Tr} {m : Int}, Bg ls → dpOk ls → m ≤ 41 → (low ls ≠ z ↔ (f = false ∧ ls.length = 1)) →
    match rdS cs ls with
    | some ls' => ∃ m', rtS cs f ((ls.length : Int) - 1) m = some ((ls'.length : Int) - 1, m') ∧ m' ≤ 41 ∧ (low ls' ≠ z ↔ ((f = false ∨ cs ≠ []) ∧ ls'.length = 1))
    | none => rtS cs f ((ls.length : Int) - 1) m = none ∨ ∃ d' m', rtS cs f ((ls.length : Int) - 1) m = some (d', m') ∧ 41 < m'
  | [], f, ls, m, h, hd, hm, hl => by
    refine ⟨m, rfl, hm, ?_⟩
    rw [hl]
    simp
  | s :: cs, f, ls, m, h, hd, hm, hl => by
    have hpos : 0 < ls.length := List.length_pos_iff.mpr h.ne
    unfold rdS
    cases hs : Tr.step ls s with
    | some l1 =>
      obtain ⟨b1, d1, r1, q⟩ := h.step hd hs
      have hlen1 := b1.len
      rcases q with ⟨rfl, hlow, rfl, hlen⟩ | ⟨rfl, hlen, hlen2⟩
      · have hfd : ¬ (f = false ∧ ((ls.length : Int) - 1) = 0) := fun ⟨k1, k2⟩ => (hl.mpr ⟨k1, by (clear h hd hm hl hpos hlow hlen b1 d1 hlen1 hs r1 k1 k2; omega)⟩) hlow
        have e1 : rtS (40 :: cs) f ((ls.length : Int) - 1) m = rtS cs false (((z :: ls).length : Int) - 1) (max m (((z :: ls).length : Int) - 1)) := by
          rw [rtS, if_neg (fun k => k.elim (fun k => k (.inl rfl)) hfd)]
          dsimp only
          have e2 : (ls.length : Int) - 1 + 1 - 2 * (if (40 : Nat) = 41 then 1 else 0) = ((z :: ls).length : Int) - 1 := by
            rw [if_neg (by decide), List.length_cons]
            (clear h hd hm hl hpos hlow hlen b1 d1 hlen1 hs r1 hfd; omega)
          rw [e2, if_neg (by rw [List.length_cons]; (clear h hd hm hl hlow b1 d1 hlen1 hs r1 hfd; omega))]
        rw [e1]
        have ih := same_way (cs := cs) (f := false) (ls := z :: ls) (m := max m (((z :: ls).length : Int) - 1)) b1 d1 (by (clear h hd hl hpos hlow hlen b1 d1 hs r1 hfd e1; omega)) (by
          rw [low_cons h.ne, hlow]
          simp only [List.length_cons]
          constructor
          · intro k; exact absurd rfl k
          · rintro ⟨_, k⟩; (clear h hd hm hl hlow b1 d1 hlen1 hs r1 hfd e1; omega))
        dsimp only
        cases hr : rdS cs (z :: ls) with
        | none => rw [hr] at ih; exact ih
        | some l2 =>
          rw [hr] at ih
          obtain ⟨m', k1, k2, k3⟩ := ih
          exact ⟨m', k1, k2, by rw [k3]; simp⟩
      · have hfd : ¬ (f = false ∧ ((ls.length : Int) - 1) = 0) := fun ⟨k1, k2⟩ => by (clear h hd hm hl hpos b1 d1 hs r1 k1 k2; omega)
        have e1 : rtS (41 :: cs) f ((ls.length : Int) - 1) m = rtS cs false ((l1.length : Int) - 1) (max m ((l1.length : Int) - 1)) := by
          rw [rtS, if_neg (fun k => k.elim (fun k => k (.inr rfl)) hfd)]
          dsimp only
          have e2 : (ls.length : Int) - 1 + 1 - 2 * (if (41 : Nat) = 41 then 1 else 0) = (l1.length : Int) - 1 := by
            rw [if_pos rfl]
            (clear h hd hm hl hpos b1 d1 hlen1 hs r1 hlen hfd; omega)
          rw [e2, if_neg (by (clear h hd hm hl hpos b1 d1 hs r1 hfd e2; omega))]
        rw [e1]
        have ih := same_way (cs := cs) (f := false) (ls := l1) (m := max m ((l1.length : Int) - 1)) b1 d1 (by (clear h hd hl hpos b1 d1 hs r1 hfd e1; omega)) (by
          unfold Tr.step at hs
          rw [if_neg (fun k => by cases k.1), if_pos rfl] at hs
          split at hs
          · rename_i t u l
            cases hs
            cases l with
            | nil => exact ⟨fun _ => ⟨rfl, rfl⟩, fun _ => low_app⟩
            | cons v l =>
              have hlow : low (v :: l) = z := by
                rcases h.lo with k | ⟨b, k⟩
                · exact k
                · cases k
              constructor
              · intro k; exact absurd hlow k
              · rintro ⟨_, k⟩; simp at k
          · cases hs)
        dsimp only
        cases hr : rdS cs l1 with
        | none => rw [hr] at ih; exact ih
        | some l2 =>
          rw [hr] at ih
          obtain ⟨m', k1, k2, k3⟩ := ih
          exact ⟨m', k1, k2, by rw [k3]; simp⟩
    | none =>
      show rtS (s :: cs) f ((ls.length : Int) - 1) m = none ∨ _
      unfold Tr.step at hs
      split at hs
      · cases hs
      · rename_i hc
        by_cases h0 : ¬ (s = 40 ∨ s = 41) ∨ (f = false ∧ ((ls.length : Int) - 1) = 0)
        · left
          rw [rtS, if_pos h0]
        · by_cases h41 : s = 41
          · rw [if_pos h41] at hs
            left
            rw [rtS, if_neg h0]
            dsimp only
            have hl1 : ls.length = 1 := by
              split at hs
              · cases hs
              · rename_i hno
                cases ls with
                | nil => exact absurd rfl h.ne
                | cons t l =>
                  cases l with
                  | nil => rfl
                  | cons u l => exact absurd rfl (hno t u l)
            rw [if_pos h41, if_pos (by (clear h hd hm hl hpos hc hs h0 h41; omega))]
          · have h40 : s = 40 := by
              by_cases k : s = 40
              · exact k
              · exact absurd (.inl (fun q => q.elim k h41)) h0
            subst h40
            have hlow : low ls = z := by
              by_cases k : low ls = z
              · exact k
              · obtain ⟨k1, k2⟩ := hl.mp k
                exact absurd (.inr ⟨k1, by (clear h hd hm hl hpos hc hs h0 h41 k k1; omega)⟩) h0
            have hlen : 41 < ls.length := by
              by_cases k : ls.length ≤ 41
              · exact absurd ⟨rfl, hlow, k⟩ hc
              · (clear h hd hm hl hpos hc hs h0 h41 hlow; omega)
            cases hr : rtS (40 :: cs) f ((ls.length : Int) - 1) m with
            | none => exact .inl rfl
            | some p =>
              obtain ⟨d', m'⟩ := p
              refine .inr ⟨d', m', rfl, ?_⟩
              rw [rtS, if_neg h0] at hr
              dsimp only at hr
              rw [if_neg (show ¬ (40 : Nat) = 41 by decide)] at hr
              split at hr
              · cases hr
              · have := rtS_up hr
                (clear h hd hl hpos hc hs h0 h41 hlow hr; omega)
theorem rt_iff (l : List Nat) : rt l = (rdT l).isSome := by
  have h := same_way (cs := l) (f := true) (ls := [z]) (m := 0) bg0 dp0 (by decide) (by simp [low])
  have e0 : (([z] : List Tr).length : Int) - 1 = 0 := rfl
  rw [e0] at h
  unfold rt rdT
  cases hr : rdS l [z] with
  | none =>
    rw [hr] at h
    rcases h with h | ⟨d', m', h, hm⟩
    · rw [h]
      by_cases hc : 600 < l.count 40
      · rw [if_pos hc]; rfl
      · rw [if_neg hc]; rfl
    · rw [h]
      have : decide (m' ≤ 41) = false := decide_eq_false (by (clear e0 hr h; omega))
      simp only [this, Bool.and_false]
      by_cases hc : 600 < l.count 40
      · rw [if_pos hc]; rfl
      · rw [if_neg hc]; rfl
  | some ls =>
    rw [hr] at h
    obtain ⟨m', h1, h2, h3⟩ := h
    obtain ⟨b1, d1, r1, c1, c2⟩ := bg0.run dp0 hr
    have hpos : 0 < ls.length := List.length_pos_iff.mpr b1.ne
    rw [h1]
    have e1 : decide (m' ≤ 41) = true := decide_eq_true h2
    simp only [e1, Bool.and_true]
    have key : (decide (l ≠ []) && decide ((ls.length : Int) - 1 = 0)) = decide (low ls ≠ z) := by
      rw [Bool.eq_iff_iff, Bool.and_eq_true, decide_eq_true_eq, decide_eq_true_eq, decide_eq_true_eq, h3]
      constructor
      · rintro ⟨k1, k2⟩
        exact ⟨.inr k1, by (clear hr h1 h2 h3 b1 d1 r1 hpos e1 k1; omega)⟩
      · rintro ⟨k1, k2⟩
        exact ⟨k1.elim (fun k => by cases k) id, by (clear hr h1 h2 h3 b1 d1 r1 hpos e1 k1; omega)⟩
    rw [key]
    by_cases hz : low ls = z
    · rw [hz]
      split
      · simp
      · simp
    · have hlen1 : ls.length = 1 := (h3.mp hz).2
      rw [show decide (low ls ≠ z) = true from decide_eq_true hz, Bool.true_and]
      simp only [List.length_cons, List.length_nil] at c1
      by_cases hc : 600 < l.count 40
      · rw [if_pos hc]
        exact decide_eq_false (by (clear e0 hr h1 h2 h3 b1 d1 r1 hpos e1 key hz; omega))
      · rw [if_neg hc]
        have : decide (l.length ≤ 1200) = true := decide_eq_true (by (clear e0 hr h1 h2 h3 b1 d1 r1 hpos e1 key hz; omega))
        rw [this]
        cases hlow : low ls with
        | z => exact absurd hlow hz
        | c b r => rfl
end Tr
end Nm
namespace L2
open PySem PySem.Spec PyProof.Rows Nm
end L2
namespace L2
open PySem PySem.Spec PyProof.Rows Nm
theorem atI0 {α : Type} (x : α) (xs : List α) : atI (x :: xs) 0 = some x := by
  simp [atI, ixN]
theorem atI1 {α : Type} (x y : α) (xs : List α) : atI (x :: y :: xs) 1 = some y := by
  have h : (1 : Int) < ((xs.length : Int) + 1 + 1) := by omega
  simp [atI, ixN, h]
theorem int_flat (i : Int) : (W.int i).flat = true := by simp [W.flat]
theorem int_dep (i : Int) : (W.int i).dep = 0 := by simp [W.dep]
theorem int_eq (i j : Int) : (W.int i).eq (W.int j) = (i == j) := by simp [W.eq]
theorem nil_flat : (W.tup []).flat = true := by simp [W.flat, W.flats]
theorem nil_dep : (W.tup []).dep = 1 := by simp [W.dep, W.deps]
theorem beqZ (i j : Int) : (i == j) = decide (i = j) := by
  by_cases h : i = j <;> simp [h]
theorem GLe.done {G : Gp} {q : Gp → Prop} (h : q G) : ∃ G0, GLe G0 G ∧ q G0 := ⟨G, GLe.refl G, h⟩
theorem loopW_ind {C : Gp → Prop} {g : WG} {tb : WS} {d : WEnds} (Iv : List W → WSt → Gp → Prop) (stop : ∀ τ G, Iv [] τ G → C G ∧ d.nx τ G)
    (step : ∀ w ws τ G (k : WSt → Gp → Prop), Iv (w :: ws) τ G → (∀ τ3 G3, Iv ws τ3 G3 → k τ3 G3) → C G ∧ g w τ G fun τ2 G2 => tb { d with nx := k, ct := k, bk := d.nx } τ2 G2) : ∀ ws τ G, Iv ws τ G → loopW C g tb d ws τ G
  | [], τ, G, h => stop τ G h
  | w :: ws, τ, G, h => step w ws τ G _ h fun τ3 G3 h3 => loopW_ind Iv stop step ws τ3 G3 h3
end L2
namespace L2
open PySem PySem.Spec PyProof.Rows Nm
theorem cut_to (xs : List W) (k : Nat) : cutW xs none (some (k : Int)) = xs.take k := by
  unfold cutW
  rw [HT.sIx_none, HT.sIx_nat, List.drop_zero, Nat.sub_zero]
  rcases Nat.le_total k xs.length with h | h
  · rw [Nat.min_eq_left h]
  · rw [Nat.min_eq_right h, List.take_length, List.take_of_length_le h]
theorem cut_from (xs : List W) (k : Nat) : cutW xs (some (k : Int)) none = xs.drop k := by
  unfold cutW
  rw [HT.sIx_none, HT.sIx_nat]
  rcases Nat.le_total k xs.length with h | h
  · rw [Nat.min_eq_left h]
    exact List.take_of_length_le (by rw [List.length_drop]; (clear h; omega))
  · rw [Nat.min_eq_right h, List.drop_length, List.drop_of_length_le h]
    simp
theorem atI_neg1 {xs : List W} {w : W} (h : xs[xs.length - 1]? = some w) : atI xs (-1) = some w := by
  have hl : xs.length - 1 < xs.length := (List.getElem?_eq_some_iff.mp h).1
  unfold atI ixN
  rw [if_neg (by (clear h hl; omega)), if_pos (by (clear h; omega))]
  show xs[((-1 : Int) + (xs.length : Int)).toNat]? = some w
  rw [← h]
  congr 1
  (clear h; omega)
end L2
namespace L2
open PySem PySem.Spec PyProof.Rows Nm
noncomputable def Df (K : PySem.W.Frag) (mg : Str → Option Value) (x : Str) (st : Stmt) (ps : List Str) : Prop := ∃ (f : Addr) (fd : FuncData), Fun K x x st f fd ∧ Binds K fd ps [] ∧ mg x = some (.ref f)
theorem Df.fx {P : Program} {w : World} {K : PySem.W.Frag} {mg : Str → Option Value} {base : Heap} {x : Str} {st : Stmt} {ps : List Str} {k : Nat} {sp : WSp} (D : Df K mg x st ps) (h : ∀ (f : Addr) (fd : FuncData), Fun K x x st f fd → WFn P w K mg base k f fd ps sp) : Fx P w K mg base x ps k sp := by
  obtain ⟨f, fd, F, b, m⟩ := D
  exact ⟨f, fd, h f fd F, m, F.kp, b⟩
noncomputable def spLaw : WSp := fun ws _ q _ => ∃ ns : List Int, ws = [.scr ns] ∧ ns.length ≤ 63 ∧ ∀ G', q (.bl true) G'
theorem scr_of {K : PySem.W.Frag} {H : Hp} {a : Addr} {ns : List Int} (hO : Only H) (hS : SqL K H a (ns.map V.int)) : Scr K H a ns := by
  rcases hS with (h | h) | h
  · rcases hO a with z | ⟨o, xs, z⟩
    · rw [z] at h; cases h
    · rw [z] at h; cases h
  · exact .inl h
  · exact .inr h
theorem law_start {K : PySem.W.Frag} {H : Hp} {a : Addr} {ns : List Int} (hO : Only H) (hS : SqL K H a (ns.map V.int)) (hl : ns.length ≤ 63) : LSp K spLaw [.ref a] H (fun v _ => v = .bl true) fun _ _ _ => False :=
  ⟨[.scr ns], fun _ => none, fun w _ => w = .bl true, fun _ _ => False, .cons (.scr (scr_of hO hS)) .nil, fun _ _ e => (by cases e), ⟨ns, rfl, hl, fun _ => rfl⟩, fun v H1 w G1 _ r _ e => (by subst e; cases r; rfl), fun _ _ _ _ _ _ z => z⟩
theorem mod_in {i j : Int} (h : 0 < j) : 0 ≤ i % j ∧ i % j < j := ⟨Int.emod_nonneg _ (by omega), Int.emod_lt_of_pos _ h⟩
theorem cpow10 (j : Int) : CPow 10 j = (0 ≤ j ∧ j ≤ 1000000) := by
  unfold CPow
  have : (10 : Int).natAbs < 2 ^ 64 := by decide
  simp [this]
theorem seqU {t u : WS} {d : WEnds} {τ : WSt} {G : Gp} (h : ∀ U : WS, U = u → t { d with nx := U d } τ G) : wSeq t u d τ G := h u rfl
theorem updG_ne' {G : Gp} {a b : Addr} {g g' : GO} (h : G b = some g') (ha : G a = none) : updG G a g b = some g' := by
  rw [updG_ne (fun z => by rw [z, ha] at h; cases h)]; exact h
theorem ix_new {g : Option GO} {xs : List W} {i : Int} {R : List W → W → Prop} (e : g = some (.lst xs)) (h : ∃ w, atI xs i = some w ∧ R xs w) : ∃ xs' w, g = some (.lst xs') ∧ atI xs' i = some w ∧ R xs' w := by
  obtain ⟨w, e', r⟩ := h
  exact ⟨xs, w, e, e', r⟩
theorem tyN_int (G : Gp) (i : Int) : tyN G (.int i) = some "int" := rfl
theorem tyN_bl (G : Gp) (b : Bool) : tyN G (.bl b) = some "bool" := rfl
theorem tyN_tup (G : Gp) (ws : List W) : tyN G (.tup ws) = some "tuple" := rfl
theorem tyN_non (G : Gp) : tyN G .non = some "NoneType" := rfl
theorem subN_ii : subN "int" "int" = true := by decide
theorem subN_ib : subN "int" "bool" = false := by decide
theorem subN_it : subN "int" "tuple" = false := by decide
theorem subN_bi : subN "bool" "int" = true := by decide
theorem subN_bb : subN "bool" "bool" = true := by decide
theorem subN_bt : subN "bool" "tuple" = false := by decide
theorem subN_tt : subN "tuple" "tuple" = true := by decide
theorem subN_ti : subN "tuple" "int" = false := by decide
theorem subN_tb : subN "tuple" "bool" = false := by decide
theorem subN_ll : subN "list" "list" = true := by decide
theorem subN_nt : subN "NoneType" "tuple" = false := by decide
theorem cast_0 : ((0 : Nat) : Int) = 0 := rfl
theorem cast_1 : ((1 : Nat) : Int) = 1 := rfl
theorem cast_2 : ((2 : Nat) : Int) = 2 := rfl
theorem cast_3 : ((3 : Nat) : Int) = 3 := rfl
theorem ifU {c : WT} {t u : WS} {d : WEnds} {τ : WSt} {G : Gp} (h : ∀ T U : WS, T = t → U = u → c τ G fun b G1 => if b = true then T d τ G1 else U d τ G1) : wIf c t u d τ G := h t u rfl rfl
theorem atI2 {α : Type} (x y v : α) (xs : List α) : atI (x :: y :: v :: xs) 2 = some v := atI_nat (j := 2) rfl
theorem upW_drop (n i : Nat) (h : i < n) : (upW n).drop i = .int (i : Int) :: (upW n).drop (i + 1) := by
  have hl : i < (upW n).length := by simp [upW, h]
  rw [List.drop_eq_getElem_cons hl]
  congr 1
  simp [upW]
theorem loop_up {C : Gp → Prop} {g : WG} {tb : WS} {d : WEnds} {τ : WSt} {G : Gp} (n : Nat) (Iv : Nat → WSt → Gp → Prop) (h0 : Iv 0 τ G) (stop : ∀ τ G, Iv n τ G → C G ∧ d.nx τ G)
    (step : ∀ (i : Nat) τ G (k : WSt → Gp → Prop), i < n → Iv i τ G → (∀ τ3 G3, Iv (i + 1) τ3 G3 → k τ3 G3) → C G ∧ g (.int (i : Int)) τ G fun τ2 G2 => tb { d with nx := k, ct := k, bk := d.nx } τ2 G2) : loopW C g tb d (upW n) τ G := by
  refine loopW_ind (fun ws τ G => ∃ i, i ≤ n ∧ ws = (upW n).drop i ∧ Iv i τ G) ?_ ?_ _ _ _ ⟨0, Nat.zero_le _, rfl, h0⟩
  · rintro τ G ⟨i, hi, hw, hI⟩
    have : i = n := by
      rcases Nat.lt_or_ge i n with k | k
      · rw [upW_drop n i k] at hw; cases hw
      · (clear h0 stop step hw hI; omega)
    subst this
    exact stop τ G hI
  · rintro w ws τ G k ⟨i, hi, hw, hI⟩ hk
    have hlt : i < n := by
      rcases Nat.lt_or_ge i n with j | j
      · exact j
      · rw [List.drop_of_length_le (by simp [upW]; assumption)] at hw; cases hw
    rw [upW_drop n i hlt] at hw
    cases hw
    exact step i τ G k hlt hI fun τ3 G3 h3 => hk τ3 G3 ⟨i + 1, hlt, rfl, h3⟩
noncomputable def mapP (p : O → Int → Bool) (f : O → Int → W) : O → List W
  | .z => []
  | .c e n r => if p e n then f e n :: mapP p f r else mapP p f r
end L2
namespace L2
open PySem PySem.Spec PyProof.Rows Nm
theorem GLe.put {G G1 : Gp} {p : Addr} {g : GO} (h : GLe G G1) (hp : G p = none) : GLe G (updG G1 p g) := fun a u e => by
  have := h a u e
  unfold updG
  split
  · rename_i q; subst q; rw [hp] at e; cases e
  · exact this
end L2
namespace Nm
namespace O
end O
end Nm
namespace L2
open PySem PySem.Spec PyProof.Rows Nm
section
variable {P : Program} {w : World} {K : PySem.W.Frag} {mg : Str → Option Value} {base : Heap} {x : Str} {st : Stmt} {ps : List Str} {k : Nat} {sp : WSp}
theorem Df.rx (D : Df K mg x st ps) (h : ∀ (f : Addr) (fd : FuncData), Fun K x x st f fd → RFn P w K mg base k f fd ps sp) : Rx P w K mg base x ps k sp [] := by
  obtain ⟨f, fd, F, b, m⟩ := D
  exact ⟨f, fd, [], [], h f fd F, m, F.kp, b, .nil, fun _ => .nil⟩
end
end L2
namespace L2
open PySem PySem.Spec PyProof.Rows PySem.W
@[irreducible] def Cell (i : Int) : Prop := i.natAbs < 2 ^ 1048576
@[irreducible] def Wide (i : Int) : Prop := i.natAbs < 2 ^ 1048577
set_option exponentiation.threshold 500 in
noncomputable def CellM (i j : Int) : Prop := (Wide i ∧ j.natAbs < 2 ^ 4000) ∨ (i.natAbs < 2 ^ 4000 ∧ Wide j)
noncomputable def CMulC (i j : Int) : Prop := CMulB i j ∨ CellM i j
theorem CMulC.ok {i j : Int} (h : CMulC i j) : IntMulOk i j := by
  have key : ∀ {x y : Int}, Wide x → y.natAbs < 2 ^ 4000 → ¬ (((Builtin.Int.intBits x + Builtin.Int.intBits y : Int)) > bitsLine) := fun {x y} h1 h2 => by
    unfold Wide at h1
    have b1 := PyProof.Rows.intBits_le h1
    have b2 := PyProof.Rows.intBits_le h2
    have hb : (1053000 : Int) ≤ bitsLine := by decide
    (clear h h1 h2; omega)
  rcases h with h | ⟨h1, h2⟩ | ⟨h1, h2⟩
  · exact h.ok
  · have := key h1 h2
    unfold IntMulOk Builtin.Int.intTooBig
    simp [this]
  · have := key h2 h1
    rw [Int.add_comm] at this
    unfold IntMulOk Builtin.Int.intTooBig
    simp [this]
section
variable {X : Cx}
theorem op_mulC : OpR X (binaryOp .Mult) (rI CMulC fun i j => .int (i * j)) := opI fun _ _ _ _ _ _ _ hc q => mul_int q hc.ok
end
end L2
namespace L2
open PySem PySem.Spec PyProof.Rows
theorem Reps.rep {K : PySem.W.Frag} {H : Hp} {ws : List W} {vs : List V} (r : Reps K H ws vs) : ∀ k : Nat, Reps K H (List.replicate k ws).flatten (List.replicate k vs).flatten
  | 0 => .nil
  | k + 1 => by
    rw [List.replicate_succ, List.flatten_cons, List.replicate_succ, List.flatten_cons]
    exact r.append (Reps.rep r k)
section
variable {X : Cx}
noncomputable def vMulT : W2 := fun x y G q => match x, y with
  | .int i, .int j => CMulC i j ∧ q (.int (i * j)) G
  | .ref a, .int k => ∃ xs, G a = some (.lst xs) ∧ 0 ≤ k ∧ k ≤ 100000 ∧ xs.length * k.toNat ≤ 100000 ∧ ∀ p, G p = none → q (.ref p) (updG G p (.lst (List.replicate k.toNat xs).flatten))
  | .tup xs, .int k => xs ≠ [] ∧ 0 ≤ k ∧ k ≤ 100000 ∧ xs.length * k.toNat ≤ 100000 ∧ q (.tup (List.replicate k.toNat xs).flatten) G
  | _, _ => False
theorem q_mulT : QOp X (binaryOp .Mult) vMulT := by
  intro pins s σ H x y v u Q I rx ry ⟨wx, wy, G, q, r1, r2, g, h, hQ⟩
  unfold vMulT at h
  split at h
  · cases r1
    cases r2
    exact op_mulC pins s σ H _ _ v u Q I rx ry ⟨_, _, rfl, rfl, h.1, hQ _ H _ G (TLe.refl H) (.int _) g h.2⟩
  · obtain ⟨xs, ea, h0, h1, hl, h⟩ := h
    cases r1
    cases r2
    obtain ⟨_, xs', ha, ra⟩ := g _ _ ea
    refine op_rep pins s σ H _ _ v u Q I rx ry ⟨_, _, _, rfl, rfl, ha, Int.le_trans (by decide) h0, Int.lt_of_le_of_lt h1 (by decide), by rw [← ra.length]; exact line_le hl, fun p hp => ?_⟩
    exact hQ _ _ _ _ (TLe.new hp _) (.ref p) (g.put (TLe.new hp _) (ra.rep _) (by rw [len_rep, Nat.mul_comm]; exact hl)) (h p (g.fresh hp))
  · obtain ⟨hne, h0, h1, hl, h⟩ := h
    cases r2
    cases r1 with
    | @tup a ws xs ha ra =>
      refine op_repT pins s σ H _ _ v u Q I rx ry ⟨a, _, _, rfl, rfl, SqT.of ha, fun z => ?_, h0, h1, by rw [← ra.length]; exact line_le hl, fun e => ?_, fun _ p hp => ?_⟩
      · subst z
        cases ra
        exact hne rfl
      · subst e
        have e1 : ∀ zs : List W, (List.replicate (Int.toNat 1) zs).flatten = zs := fun zs => by simp
        rw [e1] at h
        exact hQ _ H _ G (TLe.refl H) (.tup ha ra) g h
      · exact hQ _ _ _ G (TLe.new hp _) (.tup upd_same ((ra.rep _).mono (TLe.new hp _))) (g.keep hp _) h
  · exact h.elim
end
end L2
namespace L2
open PySem PySem.Spec PyProof.Rows
end L2
namespace Nm
namespace O
end O
end Nm
set_option linter.all false
set_option maxRecDepth 100000
namespace L2
open PySem PySem.Spec PyProof.Rows
section
variable {X : Cx}
theorem str_len (z : Str) : z.cps.toList.length = z.length := by simp [Str.length]
noncomputable def vAddS : W2 := fun x y G q => match x, y with
  | .str a, .str b => a.length + b.length ≤ 100000 ∧ q (.str (a ++ b)) G
  | x, y => vAdd x y G q
theorem q_addS : QOp X (binaryOp .Add) vAddS := by
  intro pins s σ H x y v u Q I rx ry ⟨wx, wy, G, q, r1, r2, g, h, hQ⟩
  unfold vAddS at h
  split at h
  · cases r1
    cases r2
    exact op_add_str pins s σ H _ _ v u Q I rx ry ⟨_, _, rfl, rfl, line_le h.1, hQ _ H _ G (TLe.refl H) (.str _) g h.2⟩
  · exact q_add pins s σ H x y v u Q I rx ry ⟨wx, wy, G, q, r1, r2, g, h, hQ⟩
noncomputable def vMulS : W2 := fun x y G q => match x, y with
  | .str a, .int k => 0 ≤ k ∧ k ≤ 100000 ∧ a.length * k.toNat ≤ 100000 ∧ ∀ z : Str, z.length ≤ a.length * k.toNat → q (.str z) G
  | x, y => vMulT x y G q
theorem len_foldl (a : Array Nat) : ∀ (n : Nat) (b : Array Nat), (List.foldl (fun x1 x2 => x1 ++ x2) b (List.replicate n a)).size = b.size + a.size * n
  | 0, b => by simp
  | n + 1, b => by
    rw [List.replicate_succ, List.foldl_cons, len_foldl a n, Array.size_append, Nat.mul_succ]
    omega
theorem mul_len (x : Str) {n : Int} (h : 0 ≤ n) : (Txt.mul x n).length ≤ x.length * n.toNat := by
  unfold Txt.mul
  split
  · exact Nat.zero_le _
  · split
    · rename_i h1 h2
      have : 1 ≤ n.toNat := by (clear h h2; omega)
      exact Nat.le_mul_of_pos_right _ this
    · show Array.size _ ≤ x.cps.size * n.toNat
      rw [len_foldl]
      simp
theorem q_mulS : QOp X (binaryOp .Mult) vMulS := by
  intro pins s σ H x y v u Q I rx ry ⟨wx, wy, G, q, r1, r2, g, h, hQ⟩
  unfold vMulS at h
  split at h
  · rename_i a k
    obtain ⟨h0, h1, hl, h⟩ := h
    cases r1
    cases r2
    obtain ⟨t, rfl⟩ := rx
    obtain ⟨t', rfl⟩ := ry
    refine SB.mul ?_ fun t' tk => ⟨.str _, H, I.tok _, ⟨_, rfl⟩, hQ _ H _ G (TLe.refl H) (.str _) g (h _ (mul_len a h0))⟩
    have hk : (k.toNat : Int) = k := by (clear I g hQ hl h; omega)
    refine ⟨?_, fun h2 h3 => ?_, fun h2 h3 => ?_⟩
    · have e1 : decide (k < -(2 ^ 63 : Int)) = false := decide_eq_false (by (clear I g hQ hl h; omega))
      have e2 : decide (k ≥ 2 ^ 63) = false := decide_eq_false (by (clear I g hQ hl h e1; omega))
      rw [e1, e2, Bool.or_false]
    · have h4 : ((a.length * k.toNat : Nat) : Int) ≤ ((100000 : Nat) : Int) := Int.ofNat_le.mpr hl
      rw [Int.natCast_mul, hk] at h4
      have h5 : (a.length : Int) ≤ (2 ^ 63 - 1) / k := by
        rw [Int.le_ediv_iff_mul_le (by (clear I g hQ hl h h3 h4; omega))]
        exact Int.le_trans h4 (by decide)
      exact Int.not_lt.mpr h5
    · exact decide_eq_false (Nat.not_lt.mpr (line_le hl))
  · exact q_mulT pins s σ H x y v u Q I rx ry ⟨wx, wy, G, q, r1, r2, g, h, hQ⟩
noncomputable def rIxS3 : W2 := fun x y G q => match x, y with
  | .str z, .int i => z.length ≤ 100000 ∧ ∃ c, atI z.cps.toList i = some c ∧ q (.str ⟨#[c]⟩) G
  | x, y => rIx3 x y G q
theorem q_ixS : QIx X rIxS3 := by
  intro value slice pins s σ H x y v u Q I rx ry ⟨wx, wy, G, q, r1, r2, g, h, hQ⟩ hsl
  unfold rIxS3 at h
  split at h
  · obtain ⟨hz, c, e, h⟩ := h
    cases r1
    cases r2
    exact ix_str value slice pins s σ H _ _ v u Q I rx ry ⟨_, _, c, rfl, rfl, line_le hz, e, hQ _ H _ G (TLe.refl H) (.str _) g h⟩ hsl
  · exact q_ix value slice pins s σ H x y v u Q I rx ry ⟨wx, wy, G, q, r1, r2, g, h, hQ⟩ hsl
noncomputable def rSlS : W3 := fun x lo hi G q => match x with
  | .str z => z.length ≤ 100000 ∧ ∀ y : Str, y.length ≤ z.length → q (.str y) G
  | x => rSl3 x lo hi G q
theorem part_of {vl : Value} {lo : Option Int} (p : IsPart vl lo) : ∃ l : Option (Int × Tok), vl = partValue l := by
  cases p with
  | none => exact ⟨none, rfl⟩
  | int i t => exact ⟨some (i, t), rfl⟩
theorem q_slS : SlR X (LSl X.K rSlS) := by
  intro pins s σ H x v vl vu lo hi sl Q I rx hs pl pu ⟨w, G, q, r, g, h, hQ⟩
  unfold rSlS at h
  split at h
  · rename_i z
    obtain ⟨hz, h⟩ := h
    cases r
    obtain ⟨t, rfl⟩ := rx
    refine ⟨"str", _, slot_str_getitem.lookup, typeIs_str s z t, ?_⟩
    obtain ⟨l, rfl⟩ := part_of pl
    obtain ⟨u, rfl⟩ := part_of pu
    refine wpAny_getItem_str_slice (l := l) (u := u) (st := none) ?_ rfl ?_
    · obtain ⟨o, e1, e2, e3⟩ := hs
      exact ⟨o, e1, e2, e3⟩
    · have hle := Txt.slice_le z (l.map (·.1)) (u.map (·.1))
      unfold sliceMade
      split
      · exact ⟨.str z, H, I, ⟨_, rfl⟩, hQ _ H _ G (TLe.refl H) (.str _) g (h _ (Nat.le_refl _))⟩
      · rename_i hn
        unfold Txt.slice at hle
        split at hle
        · rename_i hy
          exact absurd hy hn
        · exact ⟨Nat.le_trans hle (line_le hz), .str _, H, I.tok _, ⟨_, rfl⟩, hQ _ H _ G (TLe.refl H) (.str _) g (h _ hle)⟩
  · exact q_sl pins s σ H x v vl vu lo hi sl Q I rx hs pl pu ⟨w, G, q, r, g, h, hQ⟩
noncomputable def wSlS (te : WE) (tl th : WO) : WE := fun τ G q => te τ G fun x G1 => tl τ G1 fun l G2 => th τ G2 fun u G3 => rSlS x l u G3 q
theorem qe_sliceS {e : Expr} {lo hi : Option Expr} {te : WE} {tl th : WO} {pos p2 : Pos} (he : QE X e te) (hl : QO X lo tl) (hu : QO X hi th) : QE X (.Subscript e (.Slice lo hi none p2) pos) (wSlS te tl th) :=
  (pe_slice q_slS he hl hu).imp fun σ H Q z0 => z0.el fun τ G q hs hg ht hQ => ⟨τ, G, _, hs, hg, ht, fun v H1 w G1 t1 r1 g1 q1 => ⟨τ, G1, _, hs.mono t1, g1, q1, fun l H2 G2 t2 g2 q2 =>
    ⟨τ, G2, _, (hs.mono t1).mono t2, g2, q2, fun u H3 G3 t3 g3 q3 => ⟨w, G3, q, (r1.mono t2).mono t3, g3, q3, fun v4 H4 w4 G4 t4 => hQ v4 H4 w4 G4 (((t1.trans t2).trans t3).trans t4)⟩⟩⟩⟩
noncomputable def cLenS : List W → Gp → WK → Prop := fun ws G q => match ws with
  | [.str z] => z.length ≤ 100000 ∧ q (.int z.length) G
  | ws => cLen ws G q
theorem q_lenS : QCall X (.builtin "len") cLenS := by
  intro pins s σ H xs us Q I r ⟨ws, G, q, rw', g, h, hQ⟩
  unfold cLenS at h
  split at h
  · obtain ⟨v, rfl, r1⟩ := rw'.one
    cases r1
    exact call_len_str pins s σ H _ us Q I r ⟨_, rfl, line_le h.1, hQ _ H _ G (TLe.refl H) (.int _) g h.2⟩
  · exact q_len pins s σ H xs us Q I r ⟨ws, G, q, rw', g, h, hQ⟩
theorem countIn_str (c : Nat) : ∀ l : List Nat, Spec.countIn (PyData.str ⟨#[c]⟩) (l.map fun n => PyData.str ⟨#[n]⟩) = ((l.count c : Nat) : Int)
  | [] => rfl
  | n :: l => by
    rw [List.map_cons]
    show (if Spec.same (PyData.str ⟨#[n]⟩) (PyData.str ⟨#[c]⟩) = true then (1 : Int) else 0) + Spec.countIn (PyData.str ⟨#[c]⟩) (l.map fun n => PyData.str ⟨#[n]⟩) = _
    have e : Spec.same (PyData.str ⟨#[n]⟩) (PyData.str ⟨#[c]⟩) = (n == c) := by
      by_cases h : n = c
      · subst h; simp [Spec.same]
      · have h2 : (n == c) = false := by simpa using h
        rw [h2]
        simp only [Spec.same]
        rw [beq_eq_false_iff_ne]
        intro h3
        exact h (by simpa using congrArg (fun s : Str => s.cps) h3)
    rw [countIn_str c l, e, List.count_cons]
    split <;> (clear e; omega)
theorem count_sign (x : Str) (c : Nat) : Txt.count x ⟨#[c]⟩ = ((x.cps.toList.count c : Nat) : Int) := by
  have h := count_closes1 (x := x) (y := ⟨#[c]⟩) (c := c) rfl
  rw [countIn_str] at h
  exact eq_of_beq h
theorem in_sign (x : Str) (c : Nat) : (Builtin.Str.occurrences x ⟨#[c]⟩ 0 x.length 1).isEmpty = !(decide (c ∈ x.cps.toList)) := by
  cases h : (Builtin.Str.occurrences x ⟨#[c]⟩ 0 x.length 1).isEmpty with
  | true =>
    have := isIn_false (y := ⟨#[c]⟩) (c := c) h rfl
    rw [countIn_str] at this
    have h2 : x.cps.toList.count c = 0 := by
      have := of_decide_eq_false this
      (clear h; omega)
    rw [List.count_eq_zero] at h2
    simp only [h2, decide_false, Bool.not_false]
  | false =>
    have := isIn_true (y := ⟨#[c]⟩) (c := c) h rfl
    rw [countIn_str] at this
    have h2 : x.cps.toList.count c ≠ 0 := by
      have := of_decide_eq_true this
      (clear h; omega)
    have h3 : c ∈ x.cps.toList := by
      by_cases h4 : c ∈ x.cps.toList
      · exact h4
      · exact absurd (List.count_eq_zero.mpr h4) h2
    simp only [h3, decide_true, Bool.not_true]
noncomputable def rNinS : W2 := fun x y G q => match x, y with
  | .str a, .str b => ∃ c, a = ⟨#[c]⟩ ∧ q (.bl (!(decide (c ∈ b.cps.toList)))) G
  | _, _ => False
theorem q_notInS : QOp X (compareOp .NotIn) rNinS := by
  intro pins s σ H x y v u Q I rx ry ⟨wx, wy, G, q, r1, r2, g, h, hQ⟩
  unfold rNinS at h
  split at h
  · obtain ⟨c, rfl, h⟩ := h
    cases r1
    cases r2
    refine op_notIn_str pins s σ H _ _ v u Q I rx ry ⟨_, _, rfl, rfl, ?_⟩
    rw [in_sign, Bool.not_not]
    exact hQ _ H _ G (TLe.refl H) (.bl _) g h
  · exact h.elim
noncomputable def Its (x : Str) : It := ⟨fun i _ => i < x.cps.toList.length, fun i H y H' => H' = H ∧ ∃ c, x.cps.toList[i]? = some c ∧ y = .str ⟨#[c]⟩, fun i _ => x.cps.toList.length ≤ i⟩
theorem walks_str {P : Program} {w : World} {A : Around} (hA : A.handled = none) (it : Addr) (x : Str) (t : Tok) : Walks P w A it [it] [it] x.cps.size (SignAt x) (fun i h => h.IsStrIter it (strIterType x) x t i) := by
  unfold strIterType
  split
  · exact Walks.strAscii hA it x t
  · exact Walks.strWide hA it x t
theorem turn_str {P : Program} {w : World} {K : PySem.W.Frag} {tg : Expr} (it : Addr) (x : Str) (t : Tok) : Turn P w K tg (Its x) [it] it (fun i h => i ≤ x.cps.size ∧ h.IsStrIter it (strIterType x) x t i) where
  mem := by simp
  obj := fun i h st b hb => by
    have e : b = it := by simpa using hb
    subst e
    obtain ⟨_, o, e1, e2, e3⟩ := st
    exact ⟨_, e1, fun v z => by rw [e3] at z; cases z⟩
  keep := fun i h h' st k => by
    obtain ⟨hi, o, e1, e2, e3⟩ := st
    exact ⟨hi, o, k it (by simp) _ e1, e2, e3⟩
  item := by
    intro X hP hw hK hc i pins s σ H E I hf st hg
    subst hP hw hK
    obtain ⟨f0, f1, f2, f3, f4, f5⟩ := hf it (by simp)
    have hg' : i < x.cps.size := by
      have h : i < x.cps.toList.length := hg
      simpa using h
    refine (walks_str (I.ok.hd hc) it x t).item i s _ _ hg' st.2 fun v h' tk hv st' kk => ?_
    obtain ⟨c, u, e, rfl⟩ := hv
    have I1 : Inv X pins σ H { s with heap := h', toks := tk } := I.turned (fun b o hb e => kk b o (by simpa using hb) e) f0 f1 f3 f4 f5
    obtain ⟨o, e1, e2, e3⟩ := id st'
    refine ⟨_, rfl, go_of (s := { s with heap := h', toks := tk }) (n := strIterType x) e1 e2 e3 ?_ ⟨.str ⟨#[c]⟩, H, I1, ⟨u, rfl⟩, ⟨rfl, c, by simpa using e, rfl⟩, ⟨hg', st'⟩, fun b hb => (hf b hb).1⟩⟩
    unfold strIterType
    split <;> decide
  done := by
    intro X hP hw hK hc i pins s σ H E I hf st hg
    subst hP hw hK
    obtain ⟨f0, f1, f2, f3, f4, f5⟩ := hf it (by simp)
    have hg' : x.cps.size ≤ i := by
      have h : x.cps.toList.length ≤ i := hg
      simpa using h
    have hi : i = x.cps.size := Nat.le_antisymm st.1 hg'
    subst hi
    exact (walks_str (I.ok.hd hc) it x t).done s _ _ st.2 fun h' tk kk => ⟨rfl, I.turned (t' := tk) (fun b o hb e => kk b o (by simpa using hb) e) f0 f1 f3 f4 f5⟩
  self := fun A i s Q E st h => by
    obtain ⟨_, o, e1, e2, e3⟩ := st
    unfold strIterType at e2
    split at e2
    · exact wpAny_pyIter_striter_ascii ⟨o, e1, e2, e3⟩ h
    · exact wpAny_pyIter_striter_wide ⟨o, e1, e2, e3⟩ h
noncomputable def sgs (l : List Nat) : List W := l.map fun c => .str ⟨#[c]⟩
theorem itn_str {K : PySem.W.Frag} {x : Str} {H : Hp} : Itn K (Its x) (sgs x.cps.toList) (fun _ => True) H where
  stop := fun i H1 G t g _ hl => by
    have h : x.cps.toList.length ≤ i := by simpa [sgs] using hl
    exact h
  go := fun i w H1 G t g _ e => by
    unfold sgs at e
    rw [List.getElem?_map] at e
    cases h : x.cps.toList[i]? with
    | none => rw [h] at e; cases e
    | some c =>
      rw [h] at e
      cases e
      refine ⟨(List.getElem?_eq_some_iff.mp h).1, fun y H' ⟨eH, c', hc, hy⟩ => ?_⟩
      subst eH hy
      rw [h] at hc
      cases hc
      exact ⟨TLe.refl _, .str _, g⟩
variable {tg : Expr}
theorem pi_seqS {l : Expr} {tl : TE} (hl : PE X l tl) : PI X tg l (fun σ H R => tl σ H fun x H1 => (∃ z, x = .str z ∧ R (Its z) H1) ∨ ∃ a, x = .ref a ∧ (((∃ xs, SqL X.K H1 a xs) ∧ R (Itl X.K a) H1) ∨ ((∃ xs, SqT X.K H1 a xs) ∧ R (Itt X.K a) H1))) := by
  intro pins s σ H R I h
  refine thn (hl pins s σ H _ I h) fun v s1 ⟨x, H1, I1, r1, q1⟩ => ?_
  rcases q1 with ⟨z, rfl, q⟩ | ⟨a, e, q1⟩
  · obtain ⟨t, rfl⟩ := r1
    refine wpAny_pyIter_strU ?_
    refine ⟨s1.heap.objs.size, [s1.heap.objs.size], _, _, H1, rfl, I1.kept (t' := s1.toks) fun b o e => Heap.get?_push_of_some _ e, turn_str _ z t, ⟨Nat.zero_le _, _, Heap.get?_push_size _ rfl, rfl, rfl⟩, fun b hb => ?_, q⟩
    have e : b = s1.heap.objs.size := by simpa using hb
    subst e
    exact I1.fpOk (Nat.le_refl _) (I1.hok.fresh (Nat.le_refl _))
  · subst e
    cases r1
    rcases q1 with ⟨⟨xs, hq⟩, q⟩ | ⟨⟨xs, hq⟩, q⟩
    · obtain ⟨its, rv, p, hz⟩ := I1.list hq
      refine wpAny_pyIter_list p.isList ?_
      refine ⟨s1.heap.objs.size, [s1.heap.objs.size], _, _, H1, rfl, I1.kept (t' := s1.toks) fun b o e => Heap.get?_push_of_some _ e, turn_list a _, ⟨_, Heap.get?_push_size _ rfl, rfl, rfl⟩, fun b hb => ?_, q⟩
      have e : b = s1.heap.objs.size := by simpa using hb
      subst e
      exact I1.fpOk (Nat.le_refl _) (I1.hok.fresh (Nat.le_refl _))
    · obtain ⟨its, rv, p, hz⟩ := I1.tuple hq
      refine wpAny_pyIter_tuple (show s1.heap.IsTuple a its.toArray from p) ?_
      refine ⟨s1.heap.objs.size, [s1.heap.objs.size], _, _, H1, rfl, I1.kept (t' := s1.toks) fun b o e => Heap.get?_push_of_some _ e, turn_tuple a _, ⟨_, Heap.get?_push_size _ rfl, rfl, rfl⟩, fun b hb => ?_, q⟩
      have e : b = s1.heap.objs.size := by simpa using hb
      subst e
      exact I1.fpOk (Nat.le_refl _) (I1.hok.fresh (Nat.le_refl _))
noncomputable def jSeqS (te : WE) : WI := fun τ G r => te τ G fun x G1 => match x with
  | .str z => r (sgs z.cps.toList) (fun _ => True) G1
  | .tup ws => r ws (fun _ => True) G1
  | .scr ns => r (ns.map W.int) (fun _ => True) G1
  | .ref a => ∃ ws, G1 a = some (.lst ws) ∧ r ws (fun G => G a = some (.lst ws)) G1
  | _ => False
theorem qi_seqS {l : Expr} {te : WE} (hl : QE X l te) : QI X tg l (jSeqS te) :=
  (pi_seqS hl).imp fun σ H R ⟨τ, G, r, hs, hg, ht, hR⟩ => ⟨τ, G, _, hs, hg, ht, fun v H1 w G1 t1 r1 g1 q1 => by
    split at q1
    · cases r1
      exact .inl ⟨_, rfl, hR _ H1 _ _ G1 t1 g1 itn_str q1⟩
    · cases r1 with
      | tup h rr => exact .inr ⟨_, rfl, .inr ⟨⟨_, SqT.of h⟩, hR _ H1 _ _ G1 t1 g1 (itn_tup h rr) q1⟩⟩
    · cases r1 with
      | scr h => exact .inr ⟨_, rfl, .inl ⟨⟨_, h.sq⟩, hR _ H1 _ _ G1 t1 g1 (itn_scr h) q1⟩⟩
    · obtain ⟨ws, e, q1⟩ := q1
      cases r1
      obtain ⟨_, xs, h1, _⟩ := g1 _ _ e
      exact .inr ⟨_, rfl, .inl ⟨⟨xs, SqL.of h1⟩, hR _ H1 _ _ G1 t1 g1 itn_lst q1⟩⟩
    · exact q1.elim⟩
noncomputable def catS (ts : List Str) : Str := ⟨(ts.map fun t => t.cps.toList).flatten.toArray⟩
theorem glued_foldl : ∀ (ts : List Str) (b : Array Nat), List.foldl (fun acc (p : Str) => acc ++ (#[] : Array Nat) ++ p.cps) b ts = b ++ (ts.map fun t => t.cps.toList).flatten.toArray
  | [], b => by simp
  | t :: ts, b => by
    rw [List.foldl_cons, glued_foldl ts]
    apply Array.toList_inj.mp
    simp
theorem join_cat (ts : List Str) : Txt.join ⟨#[]⟩ ts = catS ts := by
  unfold Txt.join Builtin.Str.glued catS
  cases ts with
  | nil => rfl
  | cons t ts =>
    show Str.mk (List.foldl (fun acc (p : Str) => acc ++ (#[] : Array Nat) ++ p.cps) t.cps ts) = _
    rw [glued_foldl]
    apply congrArg
    apply Array.toList_inj.mp
    simp
noncomputable def rJoin (K : PySem.W.Frag) : V → List V → Hp → VK → Prop := fun x vs H Q => ∃ l ts, x = .str ⟨#[]⟩ ∧ vs = [.ref l] ∧ SqL K H l (ts.map V.str) ∧ (ts.map fun t => t.length).sum ≤ 100000 ∧ Q (.str (catS ts)) H
theorem strs_are : ∀ {ts : List Str} {its : List Value}, Vals (ts.map V.str) its → StrsAre its ts
  | [], _, h => by cases h; exact .nil
  | t :: ts, _, h => by
    cases h with
    | cons r rs =>
      obtain ⟨k, rfl⟩ := r
      exact .cons _ _ (strs_are rs)
theorem mt_join : MtR X "str.join" (rJoin X.K) := by
  intro pins s σ H x vs v us Q I rx rv h
  obtain ⟨l, ts, rfl, rfl, hl, hs, q⟩ := h
  obtain ⟨t, rfl⟩ := rx
  obtain ⟨u1, rfl, r1⟩ := vals1 rv
  cases r1
  obtain ⟨its, rv, p, hz⟩ := I.list hl
  refine join_list (ys := ts) p.isList (strs_are rv) ?_ fun t' k => ?_
  · have e : ts.length * (Str.mk #[]).length = 0 := Nat.mul_zero _
    rw [e]
    exact Nat.le_trans hs (by decide)
  · rw [join_cat]
    exact ⟨.str _, H, I.tok _, ⟨_, rfl⟩, q⟩
noncomputable def wJoin (te : WE) : WE := fun τ G q => te τ G fun y G2 => ∃ a ts, y = .ref a ∧ G2 a = some (.lst (ts.map W.str)) ∧ (ts.map fun t => t.length).sum ≤ 100000 ∧ q (.str (catS ts)) G2
theorem reps_str {K : PySem.W.Frag} {H : Hp} : ∀ {ts : List Str} {vs : List V}, Reps K H (ts.map W.str) vs → vs = ts.map V.str
  | [], _, h => by cases h; rfl
  | t :: ts, _, h => by
    cases h with
    | cons r rs =>
      cases r
      rw [reps_str rs]
      rfl
theorem qe_join {z : Str} {k : Nat} {op : Pos} {e : Expr} {te : WE} {apos cpos : Pos} (he : QE X e te) (hz : z = ⟨#[]⟩ := by rfl)
    (hbase : attributeBase (.Constant (.str z) k op) "join" X.env (eval (.Constant (.str z) k op) X.env) = eval (.Constant (.str z) k op) X.env := by rfl)
    (hfew : ((backTo cpos (starEach [e] X.env)).all (fun x => !x.1) && (backToKw cpos (keywordEach [] X.env)).all (fun x => x.1.isSome)
      && decide (([e] : List Expr).length + ([] : List Keyword).length + (if ([] : List Keyword).isEmpty then 0 else 1) < 30)) = true := by rfl)
    (hline : (apos.endLine == cpos.line) = true := by rfl) (hs : starEach [e] X.env = (false, eval e X.env) :: starEach [] X.env := by rfl) (hpl : (backTo cpos (starEach [] X.env)).any (·.1) = false := by rfl) :
    QE X (.Call (.Attribute (.Constant (.str z) k op) "join" apos) [e] [] cpos) (wJoin te) :=
  (pe_bm PySem.F.plainAttrs_str PySem.F.slot_str_join PySem.F.type_str_join mt_join pe_str (pa_cons he pa_nil hs) hbase hfew hline hs hpl).imp fun σ H Q z0 => z0.el fun τ G q hs hg ht hQ => by
    subst hz
    refine ⟨rfl, τ, G, _, hs, hg, ht, fun v2 H2 w2 G2 t2 r2 g2 q2 => ?_⟩
    obtain ⟨a, ts, rfl, e2, hl, q2⟩ := q2
    cases r2
    obtain ⟨_, xs, h1, rr⟩ := g2 _ _ e2
    rw [reps_str rr] at h1
    exact ⟨_, ts, rfl, rfl, SqL.of h1, hl, hQ _ _ _ _ t2 (.str _) g2 q2⟩
noncomputable def rCount : V → List V → Hp → VK → Prop := fun x vs H Q => ∃ z c, x = .str z ∧ vs = [.str ⟨#[c]⟩] ∧ Q (.int ((z.cps.toList.count c : Nat) : Int)) H
theorem mt_count : MtR X "str.count" rCount := by
  intro pins s σ H x vs v us Q I rx rv h
  obtain ⟨z, c, rfl, rfl, q⟩ := h
  obtain ⟨t, rfl⟩ := rx
  obtain ⟨u1, rfl, r1⟩ := vals1 rv
  obtain ⟨t', rfl⟩ := r1
  refine SC.count ?_
  rw [count_sign]
  exact ⟨.int _, H, I.tok _, ⟨_, rfl⟩, q⟩
noncomputable def wCount (to te : WE) : WE := fun τ G q => to τ G fun x G1 => (∃ z, x = .str z) ∧ te τ G1 fun y G2 => ∃ z c, x = .str z ∧ y = .str ⟨#[c]⟩ ∧ q (.int ((z.cps.toList.count c : Nat) : Int)) G2
theorem qe_count {o e : Expr} {to te : WE} {apos cpos : Pos} (ho : QE X o to) (he : QE X e te)
    (hbase : attributeBase o "count" X.env (eval o X.env) = eval o X.env := by rfl)
    (hfew : ((backTo cpos (starEach [e] X.env)).all (fun x => !x.1) && (backToKw cpos (keywordEach [] X.env)).all (fun x => x.1.isSome)
      && decide (([e] : List Expr).length + ([] : List Keyword).length + (if ([] : List Keyword).isEmpty then 0 else 1) < 30)) = true := by rfl)
    (hline : (apos.endLine == cpos.line) = true := by rfl) (hs : starEach [e] X.env = (false, eval e X.env) :: starEach [] X.env := by rfl) (hpl : (backTo cpos (starEach [] X.env)).any (·.1) = false := by rfl) :
    QE X (.Call (.Attribute o "count" apos) [e] [] cpos) (wCount to te) :=
  (pe_bm PySem.F.plainAttrs_str PySem.F.slot_str_count PySem.F.type_str_count mt_count ho (pa_cons he pa_nil hs) hbase hfew hline hs hpl).imp fun σ H Q z0 => z0.el fun τ G q hs hg ht hQ =>
    ⟨τ, G, _, hs, hg, ht, fun v H1 w G1 t1 r1 g1 q1 => by
      obtain ⟨⟨z, rfl⟩, q1⟩ := q1
      cases r1
      refine ⟨rfl, τ, G1, _, hs.mono t1, g1, q1, fun v2 H2 w2 G2 t2 r2 g2 q2 => ?_⟩
      obtain ⟨z', c, e1, rfl, q2⟩ := q2
      cases e1
      cases r2
      exact ⟨_, c, rfl, rfl, hQ _ _ _ _ (t1.trans t2) (.int _) g2 q2⟩⟩
noncomputable def wFst (a b : Str) (te : WE) : WE := fun τ G q => te τ G fun x G1 => ∃ z, x = .str z ∧ a.length + z.length + b.length ≤ 100000 ∧ q (.str (a ++ z ++ b)) G1
theorem add_len (a b : Str) : (a ++ b).length = a.length + b.length := by
  show (a.cps ++ b.cps).size = _
  simp [Str.length]
theorem qe_fstr {a b : Str} {e : Expr} {te : WE} {j j2 : Nat} {p1 p2 p3 pos : Pos} (he : QE X e te) (ha : a.length ≤ 100000 := by decide) : QE X (.JoinedStr [.Constant (.str a) j p1, .FormattedValue e (-1) none p2, .Constant (.str b) j2 p3] pos) (wFst a b te) := by
  intro pins s σ H Q I h
  obtain ⟨τ, G, q, hs, hg, ht, hQ⟩ := h
  refine JoinedStr_many (joinParts_cons (Calls.Constant_str ?_))
  have e0 : Str.empty ++ a = a := by show Str.mk (#[] ++ a.cps) = a; simp
  show (Str.empty ++ a).length ≤ sizeLine ∧ _
  rw [e0]
  refine ⟨line_le ha, ?_⟩
  have I1 : Inv X pins σ H { s with toks := s.toks + 1 } := I.tok _
  have key := he pins { s with toks := s.toks + 1 } σ H (fun v H1 => ∃ w G1, TLe H H1 ∧ Rep X.K H1 w v ∧ RelG X.K H1 G1 ∧ ∃ z, w = .str z ∧ a.length + z.length + b.length ≤ 100000 ∧ q (.str (a ++ z ++ b)) G1) I1 ⟨τ, G, _, hs, hg, ht, fun v H1 w G1 t1 r1 g1 q1 => ⟨w, G1, t1, r1, g1, q1⟩⟩
  refine joinParts_cons (FormattedValue_plain (thn key fun v s1 ⟨x, H1, I2, r1, w, G1, t1, rw', g1, z, hw, hl, q1⟩ => ?_))
  subst hw
  cases rw'
  obtain ⟨t, rfl⟩ := r1
  have fin : ∀ s2 : Shared, Inv X pins σ H1 s2 → (a ++ z).length ≤ sizeLine ∧ wpAny (model X.prog X.w) X.A (joinParts (a ++ z) (evalEach [Expr.Constant (Const.str b) j2 p3] X.env)) (EP X pins σ Q) X.xe s2 := fun s2 I3 => by
    refine ⟨by rw [add_len]; exact line_le (by (clear he ha I hs hg ht hQ e0 I1 key I2 t1 g1 q1 I3; omega)), joinParts_consE (joinParts_cons (Calls.Constant_str ?_))⟩
    have hz : (a ++ z ++ b).length ≤ sizeLine := by rw [add_len, add_len]; exact line_le hl
    exact ⟨hz, joinParts_nil ⟨.str _, H1, (I3.tok _).tok _, ⟨_, rfl⟩, hQ _ _ _ _ t1 (.str _) g1 q1⟩ hz⟩
  exact wpAny_formatField_str (fin _ I2) (fin _ (I2.tok _)) (line_le (by (clear he I hs hg ht hQ e0 I1 key I2 t1 g1 q1 fin; omega)))
end
end L2

set_option Elab.async false
set_option linter.all false
open PySem PySem.Spec PyProof.Rows L2 Nm
seal QE QT QW QA QS QSs QG QGs QI QO QTs QOp QIx QCall
seal PySem.compareOp PySem.binaryOp PySem.unaryOp

set_option bootstrap.genMatcherCode true
set_option compiler.extract_closed false
local macro_rules | `(tactic| walk_at "R") => `(tactic| simp (config := { failIfUnchanged := false, maxSteps := 2000000 }) only [vAddS, vMulS, vMulT, rIxS3, wSlS, rSlS, cLenS, rNinS, jSeqS, wJoin, wCount, wFst, wPop, wStart, wSeq, wIf, wTest, wOp, wVar, wC, wNeg, wRet, wNext, wAsg, wPar, wNever, wNevers, wRaise, wTry, wTryA, wTryY, wIfY, wSeqY, wCallY, wDoY, wAs, wIsx, wIsn, wMaxD, wTupRev, wTupRvT, wBits, jRngG, CPowB, rIsB, wCallX, wDct, hName, wCall, wCB, wCons, wNil, wTup, wLst, wIsi, wAnd, wOr, wNot, wAndV, wOrV, wNotV, wIfE, wDrop, wSl, wPart, wNoPart, wFor, jSeq, jRng, jRng2, jRng3, jZip, jRev, jEnum, jEnumL, wExt, wComp, wApp, wTrue, hTup, hCons, hNil, vAdd, rSub3, L2.vInt, L2.vInt0, rEq4, rNe4, rEq3, rNe3, rLt3, rGe3, rIsA, rIsN, rIx3, rSl3, cLen, cTuple, cList, cSum, cInt, cMax, cMax4, cMin, List.map_cons, List.map_nil, List.length_cons, List.length_nil, List.replicate_succ, List.replicate_zero, List.cons_append, List.nil_append, List.append_nil, List.getElem?_cons_zero, List.getElem?_cons_succ, List.set_cons_zero, List.set_cons_succ, Nat.reduceAdd, Nat.reduceSub, Nat.zero_add, Nat.add_zero, Nat.sub_self, Nat.sub_zero, atI0, atI1, atI2, Option.some.injEq, exists_eq_left', int_flat, int_dep, int_eq, nil_flat, nil_dep, beqZ, decide_eq_true_eq, Bool.not_eq_true', decide_eq_false_iff_not, true_and, Nat.zero_le, cpow10, CMulC, CMulB, CDivB, CMul, CDiv, Int.reduceLE, Int.reduceLT, Nat.reducePow, Nat.reduceLT, Nat.reduceLeDiff, Int.reduceToNat, Int.reducePow, Int.reduceNeg, and_true, or_true, true_or, and_self, tyN_int, tyN_bl, tyN_tup, tyN_non, subN_ii, subN_ib, subN_it, subN_bi, subN_bb, subN_bt, subN_tt, subN_ti, subN_tb, subN_ll, subN_nt, Int.toNat_natCast, if_true, if_false, Bool.false_eq_true, Bool.true_eq_false, Bool.not_true, Bool.not_false, eq_self, not_true_eq_false, not_false_eq_true, cast_0, cast_1, cast_2, cast_3])
set_option bootstrap.genMatcherCode false
local macro_rules | `(tactic| walk_at "om") => `(tactic| first | assumption | exact Nat.le_trans (by assumption) (Nat.le_of_ble_eq_true rfl) | omega)
namespace Lw
open PySem PySem.Spec PyProof.Rows L2 Nm
noncomputable def top (i : Nat) : Stmt := PySem.Challenge.pw_hydrahouse_k74_trees_as_texts.main.body.getD i (.Pass ⟨0, 0, 0, 0⟩)
structure Txt (K : PySem.W.Frag) (mg : Str → Option Value) : Prop where
  d_tree_shown : Df K mg "tree_shown" (top 6) ["tree"]
  d_tree_read : Df K mg "tree_read" (top 7) ["text"]
  d_is_room : Df K mg "is_room" (top 8) ["begun"]
  d__law_points : Df K mg "_law_points" (top 10) ["_law_tree_here"]
  d__law_tree : Df K mg "_law_tree" (top 11) ["_law_script", "_law_most"]
  d__law_shown : Df K mg "_law_shown" (top 12) ["_law_tree_here"]
  d__law_sign : Df K mg "_law_sign" (top 13) ["_law_cell"]
  d__law_spoiled : Df K mg "_law_spoiled" (top 14) ["_law_text", "_law_cell"]
  d__law_right : Df K mg "_law_right" (top 15) ["_law_text"]
  d__law_refused : Df K mg "_law_refused" (top 16) ["_law_text", "_law_way"]
  d__law_told : Df K mg "_law_told" (top 17) ["_law_text", "_law_way"]
  d__law_edge : Df K mg "_law_edge" (top 18) ["_law_cell"]
  x_ : ∃ c0 c1 : Addr, (mg "HydraError" = some (.ref c0) ∧ PySem.W.excIn K c0 [.type "ValueError", .type "Exception", .type "BaseException", .type "object"] "ValueError.__new__" = true) ∧ (mg "NoText" = some (.ref c1) ∧ PySem.W.excIn K c1 [.type "ValueError", .type "Exception", .type "BaseException", .type "object"] "ValueError.__new__" = true) ∧ PySem.W.mroIn K c1 (.ref c0) = some true
  c_MOST_POINTS : ∃ t : Tok, mg "MOST_POINTS" = some (.int 600 t)
  c_MOST_DEEP : ∃ t : Tok, mg "MOST_DEEP" = some (.int 40 t)
  z_ValueError : mg "ValueError" = none
  z_int : mg "int" = none
  z_isinstance : mg "isinstance" = none
  z_len : mg "len" = none
  z_max : mg "max" = none
  z_range : mg "range" = none
  z_str : mg "str" = none
  z_sum : mg "sum" = none
  z_tuple : mg "tuple" = none
section
variable {P : Program} {w : World} {K : PySem.W.Frag} {mg : Str → Option Value} {base : Heap} {f : Addr} {fd : FuncData}
set_option maxRecDepth 100000
set_option maxHeartbeats 0
noncomputable def encT : Tr → List W
  | .z => []
  | .c b r => .tup (encT b) :: encT r
theorem enc_ofL : ∀ l : List Tr, encT (Tr.ofL l) = l.map fun b => W.tup (encT b)
  | [] => rfl
  | b :: l => by
    show W.tup (encT b) :: encT (Tr.ofL l) = _
    rw [enc_ofL l]
    rfl

/-! trees in the program -/
theorem encT_len : ∀ t : Tr, (encT t).length = t.len
  | .z => rfl
  | .c b r => by show (encT r).length + 1 = _; rw [encT_len r]; rfl
theorem encT_get : ∀ (t : Tr) (i : Nat), (encT t)[i]? = (t.getT i).map fun b => W.tup (encT b)
  | .z, _ => rfl
  | .c b r, 0 => rfl
  | .c b r, i + 1 => encT_get r i
theorem encT_at {t b : Tr} {i : Nat} (h : t.getT i = some b) : atI (encT t) (i : Int) = some (.tup (encT b)) := atI_nat (by rw [encT_get, h]; rfl)
theorem encT_app : ∀ t u : Tr, encT (t.app u) = encT t ++ encT u
  | .z, _ => rfl
  | .c b r, u => by show W.tup (encT b) :: encT (r.app u) = _; rw [encT_app r u]; rfl
theorem encT_set : ∀ {t b : Tr} {i : Nat} (u : Tr), t.getT i = some b → encT (t.setT i u) = (encT t).take i ++ encT u ++ (encT t).drop (i + 1)
  | .z, _, _, _, h => by cases h
  | .c b r, _, 0, u, _ => by show encT (u.app r) = [] ++ encT u ++ encT r; rw [encT_app]; rfl
  | .c b r, x, i + 1, u, h => by
    show W.tup (encT b) :: encT (r.setT i u) = _
    rw [encT_set (t := r) u h]
    rfl
theorem encT_reps (b : Tr) : ∀ n, encT (b.reps n) = (List.replicate n [W.tup (encT b)]).flatten
  | 0 => rfl
  | n + 1 => by
    show W.tup (encT b) :: encT (b.reps n) = _
    rw [encT_reps b n, List.replicate_succ, List.flatten_cons]
    rfl
theorem encT_z {t : Tr} : encT t = [] ↔ t = .z := by
  cases t with
  | z => exact ⟨fun _ => rfl, fun _ => rfl⟩
  | c b r => exact ⟨fun h => (by cases h), fun h => (by cases h)⟩
theorem tupT_flat : ∀ t : Tr, (W.tup (encT t)).flat = true
  | .z => rfl
  | .c b r => by
    have h1 := tupT_flat b
    have h2 := tupT_flat r
    simp only [encT, W.flat, W.flats, Bool.and_eq_true] at h1 h2 ⊢
    exact ⟨h1, h2⟩
theorem tupT_dep : ∀ t : Tr, (W.tup (encT t)).dep ≤ t.dp + 1
  | .z => by simp [encT, W.dep, W.deps]
  | .c b r => by
    have h1 := tupT_dep b
    have h2 := tupT_dep r
    simp only [encT, W.dep, W.deps, Tr.dp] at h1 h2 ⊢
    omega
theorem tupT_nil (t : Tr) : (W.tup (encT t)).eq (.tup []) = true ↔ t = .z := by
  cases t with
  | z => simp [encT, W.eq, W.eqs]
  | c b r => simp [encT, W.eq, W.eqs]
noncomputable def AllT (Pd : Tr → Prop) : Tr → Prop
  | .z => True
  | .c b r => Pd b ∧ AllT Pd r
theorem allT_dp : ∀ t : Tr, AllT (fun b => b.dp < t.dp ∧ b.pts < t.pts) t
  | .z => trivial
  | .c b r => by
    have key : ∀ (d m : Nat) (s : Tr), s.dp ≤ d → s.pts ≤ m → AllT (fun b => b.dp < d ∧ b.pts < m) s := by
      intro d m s
      induction s with
      | z => intro _ _; trivial
      | c x y _ ih =>
        intro h1 h2
        have p1 := x.pts_pos
        have p2 := y.pts_pos
        simp only [Tr.dp, Tr.pts] at h1 h2
        exact ⟨⟨by (clear ih h2 p1 p2; omega), by (clear ih h1 p1; omega)⟩, ih (by (clear ih h2 p1 p2; omega)) (by (clear ih h1 p2; omega))⟩
    exact key _ _ _ (Nat.le_refl _) (Nat.le_refl _)
noncomputable def mapT (f : Tr → W) : Tr → List W
  | .z => []
  | .c b r => f b :: mapT f r
theorem comp_T {C : Gp → Prop} {te : WE} {i : Nat} {τ0 : WSt} {G : Gp} {q : List W → Gp → Prop} {Pd : Tr → Prop} (f : Tr → W) (hC : C G) : ∀ {t : Tr} {acc : List W} {τ : WSt}, AllT Pd t →
    (∀ b, Pd b → ∀ k : W → Gp → Prop, k (f b) G → te (τ0.set i (some (.tup (encT b)))) G k) → acc.length + t.len ≤ 100000 → (∀ x, τ.set i x = τ0.set i x) → q (acc ++ mapT f t) G → compW C (hName i) wTrue te (encT t) τ G acc q
  | .z, acc, τ, _, _, _, _, hq => ⟨hC, by simpa [mapT] using hq⟩
  | .c b r, acc, τ, hP, ht, hl, hτ, hq => by
    refine ⟨hC, ?_⟩
    show te (τ.set i (some (.tup (encT b)))) G _
    rw [hτ]
    refine ht b hP.1 _ ?_
    simp only [Tr.len] at hl
    refine ⟨by (clear hC hP ht hτ hq; omega), comp_T f hC hP.2 ht (by rw [List.length_append]; simp only [List.length_cons, List.length_nil]; (clear hC hP ht hτ hq; omega)) (fun x => ?_) (by simpa [mapT] using hq)⟩
    rw [List.set_set]

/-! trees as texts -/
noncomputable def spPn (d : Nat) : WSp := fun ws G q _ => ∃ t : Tr, ws = [.tup (encT t)] ∧ t.dp < d ∧ t.pts ≤ 1000 ∧ q (.int ((t.pts : Nat) : Int)) G
theorem mapT_pts : ∀ t : Tr, ∃ ns : List Int, mapT (fun b => W.int ((b.pts : Nat) : Int)) t = ns.map W.int ∧ 1 + ns.sum = ((t.pts : Nat) : Int)
  | .z => ⟨[], rfl, rfl⟩
  | .c b r => by
    obtain ⟨ns, h1, h2⟩ := mapT_pts r
    refine ⟨((b.pts : Nat) : Int) :: ns, by rw [mapT, h1]; rfl, ?_⟩
    rw [List.sum_cons]
    show 1 + (((b.pts : Nat) : Int) + ns.sum) = ((b.pts + r.pts : Nat) : Int)
    (clear h1; omega)
theorem scLp : FnScope ["_law_tree_here"] ["_law_tree_here"] (defScope (top 10)) := ⟨rfl, rfl, rfl, by decide +kernel, rfl, by decide +kernel, by decide +kernel⟩
theorem fnLp {d k : Nat} (F : Fun K "_law_points" "_law_points" (top 10) f fd) (F0 : Fx P w K mg base "_law_points" ["_law_tree_here"] k (spPn d)) (ms : mg "sum" = none) : WFn P w K mg base (k + 1) f fd ["_law_tree_here"] (spPn (d + 1)) := by
  have nd := scLp.nd
  refine fn3 F scLp (fun ws G q e h => by obtain ⟨_, rfl, _⟩ := h; rfl) (fun cdv A outer s H E hr => ?_)
  apply bodyOf
  · exact (qss_cons (qs_ret (qe_op q_addS qe_int (qe_callB (q_sum rfl) rfl ms b_sum (qa_cons (qe_comp (compSc (by first | rfl | decide +kernel)) rfl (qi_seqS (qe_var 0 rfl (.inl rfl))) (fun _ _ _ _ => (qg_nameB 1 (by first | assumption | decide +kernel | rfl) rfl (.inl rfl))) (fun _ _ _ _ => qts_nil) (fun _ _ _ _ => (qe_fxn F0 (Room.mono hr (by omega)) rfl (qa_cons (qe_var 1 rfl (.inl rfl)) qa_nil)))) qa_nil)))) qss_nil)
  · rintro ws G q e ⟨t, rfl, hd, hp, hq⟩
    have hl := t.len_pts
    walk_at "R"
    show compW _ _ _ _ _ [none, none, none] G [] _
    refine comp_T (τ0 := [none, none, none]) (fun b => W.int ((b.pts : Nat) : Int)) trivial (allT_dp t) (fun b hb kc hkc => ?_) (by simp only [List.length_nil]; (clear F F0 ms nd hr hd hq; omega)) (fun _ => rfl) fun p hp => ?_
    · walk_at "R"
      exact ⟨b, rfl, by (clear F F0 ms nd hr hp hq hl hkc; omega), by (clear F F0 ms nd hr hd hq hl hkc; omega), hkc⟩
    · obtain ⟨ns, h1, h2⟩ := mapT_pts t
      rw [List.nil_append, h1]
      refine ⟨ns, updG_same, ?_⟩
      rw [h2]
      exact ⟨G, GLe.new hp, hq⟩
theorem fxLp (T : Txt K mg) : ∀ d : Nat, Fx P w K mg base "_law_points" ["_law_tree_here"] d (spPn d)
  | 0 => T.d__law_points.fx fun f fd F => WFn.none fun ws G q e ⟨t, _, h, _⟩ => by (clear T F; omega)
  | d + 1 => T.d__law_points.fx fun f fd F => fnLp F (fxLp T d) T.z_sum

noncomputable abbrev txS (l : List Nat) : Str := ⟨l.toArray⟩
theorem txS_app (l m : List Nat) : txS l ++ txS m = txS (l ++ m) := by
  show Str.mk (l.toArray ++ m.toArray) = _
  simp
theorem txS_len (l : List Nat) : (txS l).length = l.length := by simp [Str.length]
noncomputable def shs : Tr → List Str
  | .z => []
  | .c b r => txS b.shown :: shs r
theorem mapT_shs : ∀ t : Tr, mapT (fun b => W.str (txS b.shown)) t = (shs t).map W.str
  | .z => rfl
  | .c b r => by rw [mapT, mapT_shs r]; rfl
theorem shs_flat : ∀ t : Tr, ((shs t).map fun s => s.cps.toList).flatten = t.sh
  | .z => rfl
  | .c b r => by
    show b.shown ++ ((shs r).map fun s => s.cps.toList).flatten = _
    rw [shs_flat r]
    show 40 :: (b.sh ++ [41]) ++ r.sh = 40 :: (b.sh ++ 41 :: r.sh)
    simp
theorem shs_cat (t : Tr) : catS (shs t) = txS t.sh := by unfold catS; rw [shs_flat]
theorem shs_sum : ∀ t : Tr, ((shs t).map fun s => s.length).sum = t.sh.length
  | .z => rfl
  | .c b r => by
    show (txS b.shown).length + ((shs r).map fun s => s.length).sum = (40 :: (b.sh ++ 41 :: r.sh)).length
    rw [shs_sum r, txS_len]
    simp only [Tr.shown, List.length_cons, List.length_append, List.length_nil]
    omega
noncomputable def spSh (d : Nat) : WSp := fun ws G q _ => ∃ t : Tr, ws = [.tup (encT t)] ∧ t.dp < d ∧ t.pts ≤ 1000 ∧ q (.str (txS t.shown)) G
theorem scSh : FnScope ["tree", "branches"] ["tree"] (defScope (top 6)) := ⟨rfl, rfl, rfl, by decide +kernel, rfl, by decide +kernel, by decide +kernel⟩
theorem fnSh {d k : Nat} (F : Fun K "tree_shown" "tree_shown" (top 6) f fd) (F0 : Fx P w K mg base "tree_shown" ["tree"] k (spSh d)) : WFn P w K mg base (k + 1) f fd ["tree"] (spSh (d + 1)) := by
  have nd := scSh.nd
  refine fn3 F scSh (fun ws G q e h => by obtain ⟨_, rfl, _⟩ := h; rfl) (fun cdv A outer s H E hr => ?_)
  apply bodyOf
  · exact (qss_cons (qs_set 1 nd rfl (.inl rfl) (qe_join (qe_comp (compSc (by first | rfl | decide +kernel)) rfl (qi_seqS (qe_var 0 rfl (.inl rfl))) (fun _ _ _ _ => (qg_nameB 1 (by first | assumption | decide +kernel | rfl) rfl (.inl rfl))) (fun _ _ _ _ => qts_nil) (fun _ _ _ _ => (qe_fxn F0 (Room.mono hr (by omega)) rfl (qa_cons (qe_var 1 rfl (.inl rfl)) qa_nil)))))) (qss_cons (qs_ret (qe_fstr (qe_var 1 rfl (.inl rfl)))) qss_nil))
  · rintro ws G q e ⟨t, rfl, hd, hp, hq⟩
    have hl := t.len_pts
    have hs := t.sh_len
    refine seqU fun U hU => ?_
    walk_at "R"
    show compW _ _ _ _ _ [none, none, none] G [] _
    refine comp_T (τ0 := [none, none, none]) (fun b => W.str (txS b.shown)) trivial (allT_dp t) (fun b hb kc hkc => ?_) (by simp only [List.length_nil]; (clear F F0 nd hr hd hq hs hU; omega)) (fun _ => rfl) fun p hp => ?_
    · walk_at "R"
      exact ⟨b, rfl, by (clear F F0 nd hr hp hq hl hs hU hkc; omega), by (clear F F0 nd hr hd hq hl hs hU hkc; omega), hkc⟩
    · rw [List.nil_append, mapT_shs]
      refine ⟨p, shs t, rfl, updG_same, by rw [shs_sum]; (clear F F0 nd hr hd hq hl hU hp; omega), ?_⟩
      rw [shs_cat]
      subst hU
      walk_at "R"
      refine ⟨_, rfl, by rw [txS_len]; show 1 + t.sh.length + 1 ≤ 100000; (clear F F0 nd hr hd hq hl hp; omega), ?_⟩
      rw [show (Str.ofString "(" : Str) ++ txS t.sh ++ Str.ofString ")" = txS t.shown from (by show txS [40] ++ txS t.sh ++ txS [41] = _; rw [txS_app, txS_app]; rfl)]
      exact ⟨G, GLe.new hp, hq⟩
theorem fxSh (T : Txt K mg) : ∀ d : Nat, Fx P w K mg base "tree_shown" ["tree"] d (spSh d)
  | 0 => T.d_tree_shown.fx fun f fd F => WFn.none fun ws G q e ⟨t, _, h, _⟩ => by (clear T F; omega)
  | d + 1 => T.d_tree_shown.fx fun f fd F => fnSh F (fxSh T d)
theorem scLs : FnScope ["_law_tree_here"] ["_law_tree_here"] (defScope (top 12)) := ⟨rfl, rfl, rfl, by decide +kernel, rfl, by decide +kernel, by decide +kernel⟩
theorem fnLs {d k : Nat} (F : Fun K "_law_shown" "_law_shown" (top 12) f fd) (F0 : Fx P w K mg base "_law_shown" ["_law_tree_here"] k (spSh d)) : WFn P w K mg base (k + 1) f fd ["_law_tree_here"] (spSh (d + 1)) := by
  have nd := scLs.nd
  refine fn3 F scLs (fun ws G q e h => by obtain ⟨_, rfl, _⟩ := h; rfl) (fun cdv A outer s H E hr => ?_)
  apply bodyOf
  · exact (qss_cons (qs_ret (qe_op q_addS (qe_op q_addS qe_str (qe_join (qe_comp (compSc (by first | rfl | decide +kernel)) rfl (qi_seqS (qe_var 0 rfl (.inl rfl))) (fun _ _ _ _ => (qg_nameB 1 (by first | assumption | decide +kernel | rfl) rfl (.inl rfl))) (fun _ _ _ _ => qts_nil) (fun _ _ _ _ => (qe_fxn F0 (Room.mono hr (by omega)) rfl (qa_cons (qe_var 1 rfl (.inl rfl)) qa_nil)))))) qe_str)) qss_nil)
  · rintro ws G q e ⟨t, rfl, hd, hp, hq⟩
    have hl := t.len_pts
    have hs := t.sh_len
    walk_at "R"
    show compW _ _ _ _ _ [none, none, none] G [] _
    refine comp_T (τ0 := [none, none, none]) (fun b => W.str (txS b.shown)) trivial (allT_dp t) (fun b hb kc hkc => ?_) (by simp only [List.length_nil]; (clear F F0 nd hr hd hq hs; omega)) (fun _ => rfl) fun p hp => ?_
    · walk_at "R"
      exact ⟨b, rfl, by (clear F F0 nd hr hp hq hl hs hkc; omega), by (clear F F0 nd hr hd hq hl hs hkc; omega), hkc⟩
    · rw [List.nil_append, mapT_shs]
      refine ⟨p, shs t, rfl, updG_same, by rw [shs_sum]; (clear F F0 nd hr hd hq hl hp; omega), ?_⟩
      rw [shs_cat]
      walk_at "R"
      have e1 : (Str.ofString "(" : Str) ++ txS t.sh = txS (40 :: t.sh) := txS_app [40] t.sh
      refine ⟨by rw [txS_len]; show 1 + t.sh.length ≤ 100000; (clear F F0 nd hr hd hq hl hp e1; omega), ?_⟩
      rw [e1]
      refine ⟨by rw [txS_len]; show (40 :: t.sh).length + 1 ≤ 100000; simp only [List.length_cons]; (clear F F0 nd hr hd hq hl hp e1; omega), ?_⟩
      rw [show txS (40 :: t.sh) ++ (Str.ofString ")" : Str) = txS t.shown from txS_app (40 :: t.sh) [41]]
      exact ⟨G, GLe.new hp, hq⟩
theorem fxLs (T : Txt K mg) : ∀ d : Nat, Fx P w K mg base "_law_shown" ["_law_tree_here"] d (spSh d)
  | 0 => T.d__law_shown.fx fun f fd F => WFn.none fun ws G q e ⟨t, _, h, _⟩ => by (clear T F; omega)
  | d + 1 => T.d__law_shown.fx fun f fd F => fnLs F (fxLs T d)

/-! reading a text -/
structure Bgn (G : Gp) (pb : Addr) (ps : List Addr) (ls : List Tr) : Prop where
  b : G pb = some (.lst (ps.reverse.map W.ref))
  len : ps.length = ls.length
  nd : (pb :: ps).Nodup
  at_ : ∀ (i : Nat) (p : Addr) (t : Tr), ps[i]? = some p → ls[i]? = some t → G p = some (.lst (encT t))
theorem encT_flats : ∀ t : Tr, W.flats (encT t) = true
  | .z => rfl
  | .c b r => by
    have h1 := tupT_flat b
    have h2 := encT_flats r
    simp only [encT, W.flats, Bool.and_eq_true]
    exact ⟨h1, h2⟩
theorem encT_deps (t : Tr) : W.deps (encT t) ≤ t.dp := by
  have := tupT_dep t
  simp only [W.dep] at this
  omega
theorem encT_eqs (t : Tr) : W.eqs (encT t) [] = decide (t = .z) := by
  cases t with
  | z => rfl
  | c b r => rfl
theorem low_last : ∀ {ls : List Tr} {t : Tr}, ls[ls.length - 1]? = some t → Tr.low ls = t
  | [], _, h => by cases h
  | [t], _, h => by cases h; rfl
  | _ :: u :: l, t, h => by
    refine low_last (ls := u :: l) ?_
    simpa using h
noncomputable def spRm : WSp := fun ws G q _ => ∃ (pb : Addr) (ps : List Addr) (ls : List Tr), ws = [.ref pb] ∧ Bgn G pb ps ls ∧ ls ≠ [] ∧ ls.length ≤ 100 ∧ (∀ t, t ∈ ls → t.dp ≤ 100) ∧ q (.bl (decide (Tr.low ls = .z ∧ ls.length ≤ 41))) G
theorem scRm : FnScope ["begun"] ["begun"] (defScope (top 8)) := ⟨rfl, rfl, rfl, by decide +kernel, rfl, by decide +kernel, by decide +kernel⟩
theorem Bgn.low {G : Gp} {pb : Addr} {ps : List Addr} {ls : List Tr} (h : Bgn G pb ps ls) (hne : ls ≠ []) : ∃ p t, atI (ps.reverse.map W.ref) 0 = some (.ref p) ∧ G p = some (.lst (encT t)) ∧ Tr.low ls = t ∧ t ∈ ls ∧ p ∈ ps := by
  have hpos : 0 < ls.length := List.length_pos_iff.mpr hne
  have hl := h.len
  have h1 : ls.length - 1 < ls.length := by (clear h hne; omega)
  have h2 : ls.length - 1 < ps.length := by (clear h hne hpos; omega)
  have e1 := List.getElem?_eq_getElem h1
  have e2 := List.getElem?_eq_getElem h2
  refine ⟨_, _, atI_nat (j := 0) ?_, h.at_ _ _ _ e2 e1, low_last e1, List.getElem_mem h1, List.getElem_mem h2⟩
  rw [List.getElem?_map, List.getElem?_reverse (by (clear h hne h1 h2 e1 e2; omega))]
  rw [show ps.length - 1 - 0 = ls.length - 1 by (clear h hne h2 e1 e2; omega), e2]
  rfl
theorem fnRm {tk : Tok} (F : Fun K "is_room" "is_room" (top 8) f fd) (hM : mg "MOST_DEEP" = some (.int 40 tk)) (ml : mg "len" = none) : WFn P w K mg base 1 f fd ["begun"] spRm := by
  have nd := scRm.nd
  refine fn3 F scRm (fun ws G q e h => by obtain ⟨_, _, _, rfl, _⟩ := h; rfl) (fun cdv A outer s H E hr => ?_)
  apply bodyOf
  · exact (qss_cons (qs_ret (qe_and (qe_cmp (q_eq4 hr) (qe_ix q_ixS (qe_var 0 rfl (.inl rfl)) qe_int (fun _ _ => rfl)) (qe_lst qa_nil) (nomark _)) (qe_one (qe_cmp q_le (qe_callB q_lenS rfl ml PySem.boot_len (qa_cons (qe_var 0 rfl (.inl rfl)) qa_nil)) (qe_op q_addS (qe_gint rfl hM) qe_int) (nomark _))))) qss_nil)
  · rintro ws G q e ⟨pb, ps, ls, rfl, hb, hne, hlen, hdp, hq⟩
    obtain ⟨p, t, h1, h2, h3, h4, h5⟩ := hb.low hne
    have hd := hdp t h4
    have hd2 := encT_deps t
    walk_at "R"
    refine ⟨_, _, hb.b, h1, fun p2 hp2 => ?_⟩
    refine ⟨_, _, updG_ne' h2 hp2, updG_same, encT_flats t, rfl, by (clear F hM ml nd hr hb hne hlen hdp hq h1 h2 h3 h4 h5 hp2; omega), ?_⟩
    rw [encT_eqs]
    by_cases hz : t = .z
    · rw [if_pos (decide_eq_true hz)]
      refine ⟨_, updG_ne' hb.b hp2, G, GLe.new hp2, ?_⟩
      have e1 : decide (((ps.reverse.map W.ref).length : Int) ≤ 40 + 1) = decide (Tr.low ls = .z ∧ ls.length ≤ 41) := by
        have hl := hb.len
        rw [List.length_map, List.length_reverse]
        apply decide_eq_decide.mpr
        constructor
        · intro k
          exact ⟨h3.trans hz, by (clear F hM ml nd hr hb hne hdp hq h1 h2 h3 h4 h5 hd hd2 hp2 hz; omega)⟩
        · rintro ⟨_, k⟩
          (clear F hM ml nd hr hb hne hdp hq h1 h2 h3 h4 h5 hd hd2 hp2 hz; omega)
      rw [e1]
      exact hq
    · rw [if_neg (by simpa using hz)]
      refine ⟨G, GLe.new hp2, ?_⟩
      have e1 : decide (Tr.low ls = .z ∧ ls.length ≤ 41) = false := decide_eq_false fun k => hz (h3.symm.trans k.1)
      rw [e1] at hq
      exact hq
noncomputable def NoStr (G : Gp) (x : W) : Prop := x = .non ∨ (∃ c, x = .int c) ∨ ∃ a ws, x = .ref a ∧ G a = some (.lst ws)
noncomputable def spTd (C : Addr) : WSp := fun ws G q e => ∃ x : W, ws = [x] ∧ ((∃ l : List Nat, x = .str (txS l) ∧ l.length ≤ 5000 ∧ match Tr.rdT l with
    | some t => q (.tup (encT t)) G
    | none => ∀ G', GLe G G' → e (.ref C) G') ∨ (NoStr G x ∧ ∀ G', GLe G G' → e (.ref C) G'))
theorem scTd : FnScope ["text", "begun", "sign", "branches"] ["text"] (defScope (top 7)) := ⟨rfl, rfl, rfl, by decide +kernel, rfl, by decide +kernel, by decide +kernel⟩
theorem sign_eq (c d : Nat) : (W.str ⟨#[c]⟩).eq (.str ⟨#[d]⟩) = decide (c = d) := by
  simp only [W.eq]
  rw [Bool.eq_iff_iff, beq_iff_eq, decide_eq_true_eq]
  constructor
  · intro h
    simpa using congrArg (fun s : Str => s.cps) h
  · rintro rfl; rfl
theorem fresh_of {G G' : Gp} {p : Addr} (h : GLe G G') (hp : G' p = none) : G p = none := by
  cases hh : G p with
  | none => rfl
  | some g => have := h _ _ hh; rw [hp] at this; cases this
theorem Bgn.push {G : Gp} {pb p : Addr} {ps : List Addr} {ls : List Tr} (h : Bgn G pb ps ls) (hp : G p = none) : Bgn (updG (updG G p (.lst [])) pb (.lst (ps.reverse.map W.ref ++ [W.ref p]))) pb (p :: ps) (.z :: ls) := by
  have npb : pb ≠ p := fun z => by have := h.b; rw [z, hp] at this; cases this
  have nps : p ∉ ps := fun hm => by
    obtain ⟨i, hi⟩ := List.getElem?_of_mem hm
    have hl : i < ls.length := by rw [← h.len]; exact (List.getElem?_eq_some_iff.mp hi).1
    have := h.at_ _ _ _ hi (List.getElem?_eq_getElem hl)
    rw [hp] at this; cases this
  have nd := List.nodup_cons.mp h.nd
  refine ⟨by rw [updG_same]; simp, by simp [h.len], ?_, fun i x t e1 e2 => ?_⟩
  · refine List.nodup_cons.mpr ⟨fun k => ?_, List.nodup_cons.mpr ⟨nps, nd.2⟩⟩
    rcases List.mem_cons.mp k with k | k
    · exact npb k
    · exact nd.1 k
  · cases i with
    | zero =>
      cases e1; cases e2
      rw [updG_ne (Ne.symm npb), updG_same]
      rfl
    | succ i =>
      have e1' : ps[i]? = some x := e1
      have hx := h.at_ _ _ _ e1' e2
      have n1 : x ≠ pb := fun z => nd.1 (z ▸ List.mem_of_getElem? e1')
      rw [updG_ne n1]
      exact updG_ne' hx hp
theorem Bgn.pop {G : Gp} {pb p q : Addr} {ps : List Addr} {t u : Tr} {ls : List Tr} (h : Bgn G pb (p :: q :: ps) (t :: u :: ls)) : Bgn (updG (updG G pb (.lst ((q :: ps).reverse.map W.ref))) q (.lst (encT u ++ [W.tup (encT t)]))) pb (q :: ps) (u.app (.c t .z) :: ls) := by
  have nd := List.nodup_cons.mp h.nd
  have nd2 := List.nodup_cons.mp nd.2
  have nd3 := List.nodup_cons.mp nd2.2
  have npb : pb ≠ q := fun z => nd.1 (by rw [z]; simp)
  refine ⟨by rw [updG_ne npb, updG_same], by have := h.len; simpa using this, List.nodup_cons.mpr ⟨fun k => nd.1 (List.mem_cons_of_mem _ k), nd2.2⟩, fun i x v e1 e2 => ?_⟩
  cases i with
  | zero =>
    cases e1; cases e2
    rw [updG_same, encT_app]
    rfl
  | succ i =>
    have e1' : ps[i]? = some x := e1
    have e2' : ls[i]? = some v := e2
    have hx := h.at_ (i + 2) x v e1' e2'
    have hm := List.mem_of_getElem? e1'
    rw [updG_ne (fun z => nd3.1 (by rw [← z]; exact hm)), updG_ne (fun z => nd.1 (by rw [← z]; exact List.mem_cons_of_mem _ (List.mem_cons_of_mem _ hm)))]
    exact hx
theorem rend_len (u : Tr) : ∀ l : List Tr, u.len ≤ (Tr.rend (u :: l)).length
  | [] => by
    have h1 := u.len_pts
    have h2 := u.sh_len
    show u.len ≤ u.sh.length
    omega
  | v :: l => by
    have h1 := u.len_pts
    have h2 := u.sh_len
    show u.len ≤ (Tr.rend (v :: l) ++ 40 :: u.sh).length
    rw [List.length_append, List.length_cons]
    omega
theorem dp_in : ∀ {ls : List Tr}, Tr.dpOk ls → ∀ t, t ∈ ls → t.dp ≤ 41
  | [], _, t, h => by cases h
  | u :: l, h, t, ht => by
    rcases List.mem_cons.mp ht with rfl | ht
    · have := h.1; (clear h ht; omega)
    · exact dp_in h.2 t ht
theorem rnTd {C : Addr} {bm : List Value} {tk : Tok} (F : Fun K "tree_read" "tree_read" (top 7) f fd) (F1 : Fx P w K mg base "is_room" ["begun"] 1 spRm) (hM : mg "MOST_POINTS" = some (.int 600 tk)) (hm : mg "NoText" = some (.ref C)) (hC : XC K C bm) (mi : mg "isinstance" = none) (ms : mg "str" = none) (ml : mg "len" = none) (mt : mg "tuple" = none) : RFn P w K mg base 3 f fd ["text"] (spTd C) := by
  have nd := scTd.nd
  refine fn3R (k := 2) F scTd (fun ws G q e h => by obtain ⟨_, rfl, _⟩ := h; rfl) (fun cdv A outer s H E ws G q e hr hsp hE => ?_)
  apply bodyOf
  · refine' qss_cons (qs_if ?c1 (qss_one (qs_raise hm hC (fun H1 G1 => hE (.ref C) H1 G1) rfl)) qss_nil) (qss_cons ?s2 (qss_cons (qs_for PassesOwn.leaving rfl ?si ?sg (qss_one (qs_if ?c2 ?b1 (qss_one (qs_if ?c3 ?b2 (qss_one (qs_raise hm hC (fun H1 G1 => hE (.ref C) H1 G1) rfl))))))) (qss_cons (qs_if ?c4 (qss_one (qs_raise hm hC (fun H1 G1 => hE (.ref C) H1 G1) rfl)) qss_nil) ?s5)))
    case c1 => exact (qt_w (qw_or (qt_not (qt_val (qe_isi (T := "str") (x := "str") (by first | simp [isiT] | assumption | decide +kernel) PyProof.Rows.boot_str ms rfl mi rfl (qe_var 0 rfl (.inl rfl))))) (qw_or1 (qt_cmp q_gt (qe_count (qe_var 0 rfl (.inl rfl)) qe_str) (qe_gint rfl hM) (nomark _)))))
    case s2 => exact (qs_set 1 nd rfl (.inl rfl) (qe_lst (qa_cons (qe_lst qa_nil) qa_nil)))
    case si => exact (qi_seqS (qe_var 0 rfl (.inl rfl)))
    case sg => exact (qg_name 2 nd rfl (.inl rfl))
    case c2 => exact (qt_w (qw_and (qt_cmp (q_eq4 hr) (qe_var 2 rfl (.inl rfl)) qe_str (nomark _)) (qw_and1 (qt_val (qe_fxn F1 (Room.mono hr (by omega)) rfl (qa_cons (qe_var 1 rfl (.inl rfl)) qa_nil))))))
    case b1 => exact (qss_cons (qs_expr (qe_app (qe_var 1 rfl (.inl rfl)) (qe_lst qa_nil))) qss_nil)
    case c3 => exact (qt_w (qw_and (qt_cmp (q_eq4 hr) (qe_var 2 rfl (.inl rfl)) qe_str (nomark _)) (qw_and1 (qt_cmp q_gt (qe_callB q_lenS rfl ml PySem.boot_len (qa_cons (qe_var 1 rfl (.inl rfl)) qa_nil)) qe_int (nomark _)))))
    case b2 => exact (qss_cons (qs_set 3 nd rfl (.inl rfl) (qe_pop (qe_var 1 rfl (.inl rfl)))) (qss_cons (qs_expr (qe_app (qe_ix q_ixS (qe_var 1 rfl (.inl rfl)) (qe_neg qe_int) (fun _ _ => rfl)) (qe_callTy q_tuple rfl mt b_tuple (qa_cons (qe_var 3 rfl (.inl rfl)) qa_nil)))) qss_nil))
    case c4 => exact (qt_cmp (q_eq4 hr) (qe_ix q_ixS (qe_var 1 rfl (.inl rfl)) qe_int (fun _ _ => rfl)) (qe_lst qa_nil) (nomark _))
    case s5 => exact (qss_cons (qs_ret (qe_ix q_ixS (qe_ix q_ixS (qe_var 1 rfl (.inl rfl)) qe_int (fun _ _ => rfl)) qe_int (fun _ _ => rfl))) qss_nil)
  · obtain ⟨x, rfl, h⟩ := hsp
    refine seqU fun U hU => ?_
    walk_at "R"
    rcases h with ⟨l, rfl, hl, h⟩ | ⟨hx, he⟩
    · simp only [tyN]
      rw [if_neg (by decide)]
      refine ⟨⟨_, rfl⟩, _, 40, rfl, rfl, ?_⟩
      unfold Tr.rdT at h
      show if 600 < ((l.count 40 : Nat) : Int) then _ else _
      by_cases hc : 600 < l.count 40
      · rw [if_pos hc] at h
        rw [if_pos (by (clear F F1 hM hm hC mi ms ml mt nd hr hE hU hl h; omega))]
        exact h G (GLe.refl G)
      rw [if_neg hc] at h
      rw [if_neg (by (clear F F1 hM hm hC mi ms ml mt nd hr hE hU hl h; omega))]
      subst hU
      refine seqU fun U hU => ?_
      walk_at "R"
      intro p0 hp0 p1 hp1
      have n01 : p1 ≠ p0 := fun z => by rw [z, updG_same] at hp1; cases hp1
      have f1 : G p1 = none := by rw [updG_ne n01] at hp1; exact hp1
      have g1 := updG_same (G := updG G p0 (GO.lst [])) (a := p1) (g := GO.lst [W.ref p0])
      have g0 := updG_ne' (g := GO.lst [W.ref p0]) (updG_same (G := G) (a := p0) (g := GO.lst [])) hp1
      have le1 : GLe G (updG (updG G p0 (GO.lst [])) p1 (GO.lst [W.ref p0])) := (GLe.new hp0).trans (GLe.new hp1)
      generalize updG (updG G p0 (GO.lst [])) p1 (GO.lst [W.ref p0]) = G1 at g1 g0 le1 ⊢
      have b0 : Bgn G1 p1 [p0] [.z] := ⟨g1, rfl, by simp [n01], fun i p t e1 e2 => by
        cases i with
        | zero => cases e1; cases e2; exact g0
        | succ i => cases e1⟩
      subst hU
      refine seqU fun U hU => ?_
      walk_at "R"
      refine loopW_ind (fun ws τ G' => ∃ (cs : List Nat) (ls : List Tr) (ps : List Addr) (t2 t3 : Option W), ws = sgs cs ∧ τ = [some (.str (txS l)), some (.ref p1), t2, t3] ∧ Bgn G' p1 ps ls ∧ GLe G G' ∧ (∀ p, p ∈ p1 :: ps → G p = none) ∧ Tr.Bg ls ∧ Tr.dpOk ls ∧ (Tr.rend ls).length + cs.length = l.length ∧ Tr.rdS l [.z] = Tr.rdS cs ls) ?_ ?_ _ _ _
        ⟨l, [.z], [p0], none, none, rfl, rfl, b0, le1, fun p hp => by
          rcases List.mem_cons.mp hp with rfl | hp
          · exact f1
          · cases List.mem_singleton.mp hp
            exact hp0, Tr.bg0, Tr.dp0, Nat.zero_add _, rfl⟩
      · rintro τ G' ⟨cs, ls, ps, t2, t3, hw, rfl, hb, hle, hf, hB, hD, hrl, hr1⟩
        cases cs with
        | cons c cs => cases hw
        | nil =>
        refine ⟨trivial, ?_⟩
        subst hU
        rw [hr1] at h
        obtain ⟨p, t, h1, h2, h3, h4, h5⟩ := hb.low hB.ne
        have hdt := dp_in hD t h4
        have hd2 := encT_deps t
        dsimp only
        refine seqU fun U hU => ?_
        walk_at "R"
        refine ⟨_, _, hb.b, h1, fun p2 hp2 => ⟨_, _, updG_ne' h2 hp2, updG_same, encT_flats t, rfl, by (clear F F1 hM hm hC mi ms ml mt nd hr hE hl hc hp0 hp1 n01 f1 g1 g0 le1 b0 h hb hle hf hB hD hw hrl hr1 h1 h2 h3 h4 h5 hU hp2; omega), ?_⟩⟩
        rw [encT_eqs]
        have hh : match Tr.low ls with | .z => ∀ G', GLe G G' → e (.ref C) G' | .c b _ => q (.tup (encT b)) G := by
          revert h
          show (match (match Tr.low ls with | .z => none | .c b _ => some b) with | some t => q (.tup (encT t)) G | none => ∀ G', GLe G G' → e (.ref C) G') → _
          cases Tr.low ls with
          | z => exact id
          | c b r => exact id
        rw [h3] at hh
        cases t with
        | z =>
          rw [if_pos (by rfl)]
          exact hh _ (hle.trans (GLe.new hp2))
        | c b r =>
          rw [if_neg (by simp)]
          subst hU
          walk_at "R"
          exact ⟨_, _, updG_ne' hb.b hp2, h1, _, _, updG_ne' h2 hp2, atI_nat (j := 0) rfl, G, hle.trans (GLe.new hp2), hh⟩
      · rintro w1 ws τ G' kk ⟨cs, ls, ps, t2, t3, hw, rfl, hb, hle, hf, hB, hD, hrl, hr1⟩ hk
        cases cs with
        | nil => cases hw
        | cons c cs =>
        cases hw
        refine ⟨trivial, ?_⟩
        refine ifU fun T1 T2 hT1 hT2 => ?_
        walk_at "R"
        have hpos : 0 < ls.length := List.length_pos_iff.mpr hB.ne
        have hln := hB.len
        have els : ¬ (c = 40 ∧ Tr.low ls = .z ∧ ls.length ≤ 41) → T2 { nx := kk, rt := fun w G1 => ∃ G0, GLe G0 G1 ∧ q w G0, bk := U { nx := fun x G1 => ∃ G0, GLe G0 G1 ∧ q W.non G0, rt := fun w G1 => ∃ G0, GLe G0 G1 ∧ q w G0 }, ct := kk }
            [some (W.str (txS l)), some (W.ref p1), some (W.str { cps := #[c] }), t3] G' := fun hno => by
          subst hT2
          refine ifU fun T3 T4 hT3 hT4 => ?_
          walk_at "R"
          refine ⟨rfl, rfl, Nat.zero_le _, ?_⟩
          rw [show (W.str { cps := #[c] }).eq (W.str (Str.ofString ")")) = decide (c = 41) from sign_eq c 41]
          have hno2 : ¬ (c = 41 ∧ 1 < ls.length) → e (.ref C) G' := fun hn => by
            have st : Tr.step ls c = none := by
              unfold Tr.step
              rw [if_neg hno]
              by_cases h41 : c = 41
              · rw [if_pos h41]
                match ls, hn with
                | [], _ => rfl
                | [t], _ => rfl
                | t :: u :: l, hn => exact absurd ⟨h41, by simp⟩ hn
              · rw [if_neg h41]
            rw [hr1, Tr.rdS, st] at h
            exact h G' hle
          by_cases h41 : c = 41
          · rw [if_pos (decide_eq_true h41)]
            refine ⟨_, hb.b, ?_⟩
            rw [List.length_map, List.length_reverse, hb.len]
            by_cases h1l : 1 < ls.length
            · rw [if_pos (by (clear F F1 hM hm hC mi ms ml mt nd hr hE hl h hc hp0 hp1 n01 f1 g1 g0 le1 b0 hU hb hle hf hB hD hrl hr1 hk hT1 hno hT3 hT4 hno2 h41; omega))]
              subst hT3
              obtain ⟨t, u, l', rfl⟩ : ∃ t u l', ls = t :: u :: l' := by
                match ls, h1l with
                | t :: u :: l', _ => exact ⟨t, u, l', rfl⟩
              obtain ⟨p, p', r, rfl⟩ : ∃ p p' r, ps = p :: p' :: r := by
                match ps, hb.len with
                | p :: p' :: r, _ => exact ⟨p, p', r, rfl⟩
              have nd1 := List.nodup_cons.mp hb.nd
              have gp := hb.at_ 0 p t rfl rfl
              have gq := hb.at_ 1 p' u rfl rfl
              have np : p ≠ p1 := fun z => nd1.1 (by rw [z]; simp)
              have np' : p' ≠ p1 := fun z => nd1.1 (by rw [z]; simp)
              have hl := hb.len
              simp only [List.length_cons] at hl hln
              have st : Tr.step (t :: u :: l') c = some (u.app (.c t .z) :: l') := by
                unfold Tr.step
                rw [if_neg hno, if_pos h41]
              obtain ⟨B2, D2, R2, _⟩ := hB.step hD st
              have hR2 := congrArg List.length R2
              rw [List.length_append, List.length_singleton] at hR2
              simp only [List.length_cons] at hrl
              have hdu := u.len_pts
              walk_at "R"
              refine ⟨(p' :: r).reverse.map W.ref, .ref p, by rw [hb.b]; simp, _, _, updG_same, atI_neg1 (w := .ref p') (by simp), ⟨_, by rw [updG_ne np']; exact gq⟩, _, by rw [updG_ne np]; exact gp, _, by rw [updG_ne np']; exact gq, ?_, ?_⟩
              · rw [encT_len]
                have h1 := rend_len u l'
                have h2 : (Tr.rend (t :: u :: l')).length = (Tr.rend (u :: l')).length + (Tr.sh t).length + 1 := by
                  show (Tr.rend (u :: l') ++ 40 :: Tr.sh t).length = _
                  rw [List.length_append, List.length_cons]
                  (clear F F1 hM hm hC mi ms ml mt nd hr hE h hc hp0 hp1 n01 f1 g1 g0 le1 b0 hU hle hk hT1 hT4 h41 hB hD hrl hr1 hpos hln hno hno2 h1l hf hb nd1 gp gq np np' hl st B2 D2 R2 hR2 hdu h1; omega)
                (clear F F1 hM hm hC mi ms ml mt nd hr hE h hc hp0 hp1 n01 f1 g1 g0 le1 b0 hU hle hk hT1 hT4 h41 hB hD hr1 hpos hln hno hno2 h1l hf hb nd1 gp gq np np' hl st B2 D2 R2 hdu; omega)
              · refine hk _ _ ⟨cs, _, p' :: r, _, _, rfl, rfl, hb.pop, (hle.put (hf _ List.mem_cons_self)).put (hf _ (by simp)), fun x hx => hf x ?_, B2, D2, by (clear F F1 hM hm hC mi ms ml mt nd hr hE h hc hp0 hp1 n01 f1 g1 g0 le1 b0 hU hle hk hT1 hT4 h41 hB hD hr1 hpos hln hno hno2 h1l hf hb nd1 gp gq np np' hl st B2 D2 R2 hdu; omega), ?_⟩
                · rcases List.mem_cons.mp hx with rfl | hx
                  · exact List.mem_cons_self
                  · exact List.mem_cons_of_mem _ (List.mem_cons_of_mem _ hx)
                · rw [hr1, Tr.rdS, st]
            · rw [if_neg (by (clear F F1 hM hm hC mi ms ml mt nd hr hE hl h hc hp0 hp1 n01 f1 g1 g0 le1 b0 hU hb hle hf hB hD hrl hr1 hk hT1 hno hT3 hT4 hno2 h41; omega))]
              subst hT4
              exact hno2 fun k => h1l k.2
          · rw [if_neg (by simpa using h41)]
            subst hT4
            exact hno2 fun k => h41 k.1
        refine ⟨rfl, rfl, Nat.zero_le _, ?_⟩
        rw [show (W.str { cps := #[c] }).eq (W.str (Str.ofString "(")) = decide (c = 40) from sign_eq c 40]
        by_cases h40 : c = 40
        · rw [if_pos (decide_eq_true h40)]
          refine ⟨p1, ps, ls, rfl, hb, hB.ne, by walk_at "om", fun t ht => by have := dp_in hD t ht; exact Nat.le_trans (by assumption) (Nat.le_of_ble_eq_true rfl), ?_⟩
          dsimp only
          by_cases hrm : Tr.low ls = .z ∧ ls.length ≤ 41
          · rw [if_pos (decide_eq_true hrm)]
            subst hT1
            walk_at "R"
            refine ⟨⟨_, hb.b⟩, fun p hp => ⟨_, updG_ne' hb.b hp, by simp only [List.length_map, List.length_reverse]; have := hb.len; (clear F F1 hM hm hC mi ms ml mt nd hr hE hl h hc hp0 hp1 n01 f1 g1 g0 le1 b0 hU hb hle hf hB hD hrl hr1 hk hT2 els h40 hp; omega), ?_⟩⟩
            have f2 : G p = none := fresh_of hle hp
            have st : Tr.step ls c = some (.z :: ls) := by
              unfold Tr.step
              rw [if_pos ⟨h40, hrm⟩]
            obtain ⟨B2, D2, R2, _⟩ := hB.step hD st
            have hR2 := congrArg List.length R2
            rw [List.length_append, List.length_singleton] at hR2
            simp only [List.length_cons] at hrl
            refine hk _ _ ⟨cs, .z :: ls, p :: ps, _, _, rfl, rfl, hb.push hp, (hle.put f2).put (hf _ List.mem_cons_self), fun x hx => ?_, B2, D2, by (clear F F1 hM hm hC mi ms ml mt nd hr hE hl h hc hp0 hp1 n01 f1 g1 g0 le1 b0 hU hb hle hf hB hD hr1 hk hT2 hpos hln els h40 hrm hp f2 st B2 D2 R2; omega), ?_⟩
            · rcases List.mem_cons.mp hx with rfl | hx
              · exact hf _ List.mem_cons_self
              · rcases List.mem_cons.mp hx with rfl | hx
                · exact f2
                · exact hf _ (List.mem_cons_of_mem _ hx)
            · rw [hr1, Tr.rdS, st]
          · rw [if_neg (by simpa using hrm)]
            exact els fun k => hrm k.2
        · rw [if_neg (by simpa using h40)]
          exact els fun k => h40 k.1
    · rcases hx with rfl | ⟨c, rfl⟩ | ⟨a, ws, rfl, ha⟩
      · simp only [tyN]
        rw [if_pos (by decide)]
        exact he G (GLe.refl G)
      · simp only [tyN]
        rw [if_pos (by decide)]
        exact he G (GLe.refl G)
      · simp only [tyN, ha]
        rw [if_pos (by decide)]
        exact he G (GLe.refl G)

/-! the law's own reading of a text -/
theorem str_eq (l m : List Nat) : (W.str (txS l)).eq (.str (txS m)) = decide (l = m) := by
  simp only [W.eq]
  rw [Bool.eq_iff_iff, beq_iff_eq, decide_eq_true_eq]
  constructor
  · intro h
    simpa using congrArg (fun s : Str => s.cps) h
  · rintro rfl; rfl
noncomputable def spRt : WSp := fun ws G q _ => ∃ l : List Nat, ws = [.str (txS l)] ∧ l.length ≤ 5000 ∧ q (.bl (Tr.rt l)) G
theorem scRt : FnScope ["_law_text", "_law_depth", "_law_deepest", "_law_k"] ["_law_text"] (defScope (top 15)) := ⟨rfl, rfl, rfl, by decide +kernel, rfl, by decide +kernel, by decide +kernel⟩
theorem fnRt (F : Fun K "_law_right" "_law_right" (top 15) f fd) (ml : mg "len" = none) (mr : mg "range" = none) (mi : mg "int" = none) (mx : mg "max" = none) : WFn P w K mg base 2 f fd ["_law_text"] spRt := by
  have nd := scRt.nd
  refine fn3 (k := 1) F scRt (fun ws G q e h => by obtain ⟨_, rfl, _⟩ := h; rfl) (fun cdv A outer s H E hr => ?_)
  apply bodyOf
  · exact (qss_cons (qs_set 1 nd rfl (.inl rfl) qe_int) (qss_cons (qs_set 2 nd rfl (.inl rfl) qe_int) (qss_cons (qs_for PySem.PassesOwn.never rfl (qi_range rfl mr (qa_cons (qe_callB q_lenS rfl ml PySem.boot_len (qa_cons (qe_var 0 rfl (.inl rfl)) qa_nil)) qa_nil)) (qg_name 3 nd rfl (.inl rfl)) (qss_cons (qs_if (qt_w (qw_or (qt_cmp q_notInS (qe_ix q_ixS (qe_var 0 rfl (.inl rfl)) (qe_var 3 rfl (.inl rfl)) (fun _ _ => rfl)) qe_str rfl) (qw_or1 (qt_w (qw_and (qt_cmp q_gt (qe_var 3 rfl (.inl rfl)) qe_int (nomark _)) (qw_and1 (qt_cmp (q_eq4 hr) (qe_var 1 rfl (.inl rfl)) qe_int (nomark _)))))))) (qss_cons (qs_ret qe_bl) qss_nil) qss_nil) (qss_cons (qs_set 1 nd rfl (.inl rfl) (qe_op q_sub (qe_op q_addS (qe_var 1 rfl (.inl rfl)) qe_int) (qe_op q_mulS qe_int (qe_callTy q_int rfl mi PyProof.Rows.boot_int (qa_cons (qe_cmp (q_eq4 hr) (qe_ix q_ixS (qe_var 0 rfl (.inl rfl)) (qe_var 3 rfl (.inl rfl)) (fun _ _ => rfl)) qe_str (nomark _)) qa_nil))))) (qss_cons (qs_if (qt_cmp (q_lt3 hr) (qe_var 1 rfl (.inl rfl)) qe_int (nomark _)) (qss_cons (qs_ret qe_bl) qss_nil) qss_nil) (qss_cons (qs_set 2 nd rfl (.inl rfl) (qe_callB (q_max4 rfl) rfl mx b_max (qa_cons (qe_var 2 rfl (.inl rfl)) (qa_cons (qe_var 1 rfl (.inl rfl)) qa_nil)))) qss_nil))))) (qss_cons (qs_ret (qe_and (qe_cmp (q_ne4 hr) (qe_var 0 rfl (.inl rfl)) qe_str (nomark _)) (qe_and (qe_cmp (q_eq4 hr) (qe_var 1 rfl (.inl rfl)) qe_int (nomark _)) (qe_and (qe_cmp q_le (qe_callB q_lenS rfl ml PySem.boot_len (qa_cons (qe_var 0 rfl (.inl rfl)) qa_nil)) qe_int (nomark _)) (qe_one (qe_cmp q_le (qe_var 2 rfl (.inl rfl)) qe_int (nomark _))))))) qss_nil))))
  · rintro ws G q e ⟨l, rfl, hl, hq⟩
    refine seqU fun U hU => ?_
    walk_at "R"
    subst hU
    refine seqU fun U hU => ?_
    walk_at "R"
    subst hU
    refine seqU fun U hU => ?_
    walk_at "R"
    rw [txS_len]
    refine ⟨by walk_at "om", by (clear F ml mr mi mx nd hr hq hU; omega), by (clear F ml mr mi mx nd hr hq hU; omega), ?_⟩
    refine loop_up l.length (fun i τ G' => ∃ (d m : Int) (t3 : Option W), τ = [some (.str (txS l)), some (.int d), some (.int m), t3] ∧ G' = G ∧ Tr.rtS l true 0 0 = Tr.rtS (l.drop i) (decide (i = 0)) d m) ⟨0, 0, none, rfl, rfl, rfl⟩ ?_ ?_
    · rintro τ G' ⟨d, m, t3, rfl, rfl, hr1⟩
      refine ⟨trivial, ?_⟩
      subst hU
      walk_at "R"
      rw [List.drop_length] at hr1
      have e0 : Tr.rt l = (decide (l ≠ []) && decide (d = 0) && decide (l.length ≤ 1200) && decide (m ≤ 41)) := by
        unfold Tr.rt
        rw [hr1]
        rfl
      rw [e0] at hq
      refine ⟨rfl, rfl, Nat.zero_le _, ?_⟩
      rw [show (W.str (txS l)).eq (W.str (Str.ofString "")) = decide (l = []) from str_eq l [], txS_len]
      have fin : ∀ b : Bool, (decide (l ≠ []) && decide (d = 0) && decide (l.length ≤ 1200) && decide (m ≤ 41)) = b → ∃ G0, GLe G0 G' ∧ q (.bl b) G0 := fun b hb => ⟨G', GLe.refl _, by rw [hb] at hq; exact hq⟩
      by_cases h1 : l = []
      · rw [if_neg (by simpa using h1)]
        exact fin _ (by simp [h1])
      · rw [if_pos (by simpa using h1)]
        by_cases h2 : d = 0
        · rw [if_pos h2]
          refine ⟨by walk_at "om", ?_⟩
          by_cases h3 : l.length ≤ 1200
          · rw [if_pos (by (clear F ml mr mi mx nd hr hr1 hq e0 fin h1 h2; omega))]
            exact fin _ (by simp [h1, h2, h3])
          · rw [if_neg (by (clear F ml mr mi mx nd hr hr1 hq e0 fin h1 h2; omega))]
            exact fin _ (by simp [h3])
        · rw [if_neg h2]
          exact fin _ (by simp [h2])
    · rintro i τ G' kk hi ⟨d, m, t3, rfl, rfl, hr1⟩ hk
      refine ⟨trivial, ?_⟩
      obtain ⟨c, hc⟩ : ∃ c, l[i]? = some c := ⟨_, List.getElem?_eq_getElem hi⟩
      have hat : atI (txS l).cps.toList (i : Int) = some c := atI_nat hc
      have hdr : l.drop i = c :: l.drop (i + 1) := by
        obtain ⟨h1, h2⟩ := List.getElem?_eq_some_iff.mp hc
        rw [← h2]
        exact List.drop_eq_getElem_cons h1
      rw [hdr, Tr.rtS] at hr1
      have bad : Tr.rtS l true 0 0 = none → ∃ G0, GLe G0 G' ∧ q (.bl false) G0 := fun h => by
        refine ⟨G', GLe.refl _, ?_⟩
        have e0 : Tr.rt l = false := by unfold Tr.rt; rw [h]
        rw [e0] at hq
        exact hq
      refine seqU fun U1 hU1 => ?_
      walk_at "R"
      refine ⟨by rw [txS_len]; exact Nat.le_trans (by assumption) (Nat.le_of_ble_eq_true rfl), c, hat, c, rfl, ?_⟩
      have hin : c ∈ (Str.ofString "()").cps.toList ↔ (c = 40 ∨ c = 41) := by show c ∈ [40, 41] ↔ _; simp
      by_cases h1 : c = 40 ∨ c = 41
      · rw [if_neg (fun k => k (hin.mpr h1))]
        have go : ¬ (decide (i = 0) = false ∧ d = 0) → U1 { nx := kk, rt := fun w G1 => ∃ G0, GLe G0 G1 ∧ q w G0, bk := U { nx := fun x G1 => ∃ G0, GLe G0 G1 ∧ q W.non G0, rt := fun w G1 => ∃ G0, GLe G0 G1 ∧ q w G0 }, ct := kk }
            [some (W.str (txS l)), some (W.int d), some (W.int m), some (W.int ↑i)] G' := fun h2 => by
          rw [if_neg (fun k => k.elim (fun k => k h1) h2)] at hr1
          dsimp only at hr1
          subst hU1
          refine seqU fun U2 hU2 => ?_
          walk_at "R"
          refine ⟨by rw [txS_len]; exact Nat.le_trans (by assumption) (Nat.le_of_ble_eq_true rfl), c, hat, rfl, rfl, Nat.zero_le _, ?_⟩
          rw [show (W.str { cps := #[c] }).eq (W.str (Str.ofString ")")) = decide (c = 41) from sign_eq c 41]
          have e1 : (d + 1 - 2 * if decide (c = 41) = true then (1 : Int) else 0) = d + 1 - 2 * if c = 41 then 1 else 0 := by
            by_cases k : c = 41
            · rw [if_pos (decide_eq_true k), if_pos k]
            · rw [if_neg (by simpa using k), if_neg k]
          rw [e1]
          generalize (d + 1 - 2 * if c = 41 then 1 else 0) = d' at hr1 ⊢
          subst hU2
          refine seqU fun U3 hU3 => ?_
          walk_at "R"
          by_cases hd' : d' < 0
          · rw [if_pos hd']
            exact bad (by rw [hr1, if_pos hd'])
          · rw [if_neg hd'] at hr1 ⊢
            subst hU3
            walk_at "R"
            have e2 : decide (i + 1 = 0) = false := by simp
            rw [show (if d' > m then d' else m) = max m d' by split <;> (clear F ml mr mi mx nd hr hl hU hi hq hk hc hat hdr bad hin h1 h2 e1 hr1 hd' e2; omega)]
            exact hk _ _ ⟨d', max m d', _, rfl, rfl, by rw [e2]; exact hr1⟩
        by_cases hi0 : i = 0
        · rw [if_neg (by (clear F ml mr mi mx nd hr hl hU hi hq hk hr1 hc hat hdr bad hU1 hin h1 go; omega))]
          exact go fun k => by simp [hi0] at k
        · rw [if_pos (by (clear F ml mr mi mx nd hr hl hU hi hq hk hr1 hc hat hdr bad hU1 hin h1 go; omega))]
          by_cases hd0 : d = 0
          · rw [if_pos hd0]
            exact bad (by rw [hr1, if_pos (.inr ⟨by simpa using hi0, hd0⟩)])
          · rw [if_neg hd0]
            exact go fun k => hd0 k.2
      · rw [if_pos (fun k => h1 (hin.mp k))]
        exact bad (by rw [hr1, if_pos (.inl h1)])
theorem gen2 {a b : Str} {R : Str → Prop} (ha : 0 < a.length) (hb : a.length + b.length ≤ 1000) (h : ∀ z : Str, 0 < z.length ∧ z.length ≤ 1000 → R z) : a.length + b.length ≤ 100000 ∧ R (a ++ b) :=
  ⟨by omega, h _ (by rw [add_len]; omega)⟩
noncomputable def spSg : WSp := fun ws G q _ => ∃ c : Int, ws = [.int c] ∧ ∀ s : Str, s.length = 1 → q (.str s) G
theorem scSg : FnScope ["_law_cell", "_law_some"] ["_law_cell"] (defScope (top 13)) := ⟨rfl, rfl, rfl, by decide +kernel, rfl, by decide +kernel, by decide +kernel⟩
theorem fnSg (F : Fun K "_law_sign" "_law_sign" (top 13) f fd) (ml : mg "len" = none) : WFn P w K mg base 1 f fd ["_law_cell"] spSg := by
  have nd := scSg.nd
  refine fn3 (k := 0) F scSg (fun ws G q e h => by obtain ⟨_, rfl, _⟩ := h; rfl) (fun cdv A outer s H E hr => ?_)
  apply bodyOf
  · exact (qss_cons (qs_set 1 nd rfl (.inl rfl) qe_str) (qss_cons (qs_set 1 nd rfl (.inl rfl) (qe_op q_addS (qe_var 1 rfl (.inl rfl)) qe_str)) (qss_cons (qs_if (qt_cmp (q_eq4 hr) (qe_op q_mod (qe_var 0 rfl (.inl rfl)) qe_int) qe_int (nomark _)) (qss_cons (qs_set 1 nd rfl (.inl rfl) qe_str) qss_nil) qss_nil) (qss_cons (qs_ret (qe_ix q_ixS (qe_var 1 rfl (.inl rfl)) (qe_op q_mod (qe_op q_divB (qe_var 0 rfl (.inl rfl)) qe_int) (qe_callB q_lenS rfl ml PySem.boot_len (qa_cons (qe_var 1 rfl (.inl rfl)) qa_nil))) (fun _ _ => rfl))) qss_nil))))
  · rintro ws G q e ⟨c, rfl, hq⟩
    refine seqU fun U hU => ?_
    walk_at "R"
    subst hU
    refine seqU fun U hU => ?_
    walk_at "R"
    refine gen2 (R := fun z => U _ [some (W.int c), some (W.str z)] G) (by decide +kernel) (by decide +kernel) fun z h0 => ?_
    subst hU
    refine seqU fun U hU => ?_
    have fin : ∀ z : Str, 0 < z.length ∧ z.length ≤ 1000 → U { nx := fun x G1 => ∃ G0, GLe G0 G1 ∧ q W.non G0, rt := fun w G1 => ∃ G0, GLe G0 G1 ∧ q w G0 } [some (W.int c), some (W.str z)] G := fun z hz => by
      subst hU
      walk_at "R"
      have hmod := mod_in (i := c / 2) (j := (z.length : Int)) (by (clear F ml nd hr hq h0; omega))
      refine ⟨by (clear F ml nd hr hq h0 hmod; omega), by (clear F ml nd hr hq h0 hmod; omega), by (clear F ml nd hr hq h0 hmod; omega), ?_⟩
      obtain ⟨i, hi⟩ : ∃ i : Nat, c / 2 % (z.length : Int) = (i : Int) := ⟨(c / 2 % (z.length : Int)).toNat, by (clear F ml nd hr hq h0 hz; omega)⟩
      have hi2 : i < z.cps.toList.length := by rw [str_len]; (clear F ml nd hr hq h0 hz; omega)
      rw [hi]
      exact ⟨_, atI_nat (List.getElem?_eq_getElem hi2), G, GLe.refl _, hq _ rfl⟩
    walk_at "R"
    split
    · exact fin _ (by decide +kernel)
    · exact fin _ h0
noncomputable def spSp : WSp := fun ws G q _ => ∃ (s : Str) (c : Int), ws = [.str s, .int c] ∧ s.length ≤ 3000 ∧ ∀ s' : Str, s'.length ≤ 3 * s.length + 1 → q (.str s') G
theorem scSp : FnScope ["_law_text", "_law_cell", "_law_way", "_law_at", "_law_sign_here"] ["_law_text", "_law_cell"] (defScope (top 14)) := ⟨rfl, rfl, rfl, by decide +kernel, rfl, by decide +kernel, by decide +kernel⟩
theorem fnSp (F : Fun K "_law_spoiled" "_law_spoiled" (top 14) f fd) (F1 : Fx P w K mg base "_law_sign" ["_law_cell"] 1 spSg) (ml : mg "len" = none) : WFn P w K mg base 2 f fd ["_law_text", "_law_cell"] spSp := by
  have nd := scSp.nd
  refine fn3 (k := 1) F scSp (fun ws G q e h => by obtain ⟨_, _, rfl, _⟩ := h; rfl) (fun cdv A outer s H E hr => ?_)
  apply bodyOf
  · exact (qss_cons (qs_set 2 nd rfl (.inl rfl) (qe_op q_mod (qe_var 1 rfl (.inl rfl)) qe_int)) (qss_cons (qs_set 3 nd rfl (.inl rfl) (qe_op q_mod (qe_op q_divB (qe_var 1 rfl (.inl rfl)) qe_int) (qe_op q_addS (qe_callB q_lenS rfl ml PySem.boot_len (qa_cons (qe_var 0 rfl (.inl rfl)) qa_nil)) qe_int))) (qss_cons (qs_set 4 nd rfl (.inl rfl) (qe_fxn F1 (Room.mono hr (by omega)) rfl (qa_cons (qe_op q_divB (qe_op q_divB (qe_var 1 rfl (.inl rfl)) qe_int) (qe_op q_addS (qe_callB q_lenS rfl ml PySem.boot_len (qa_cons (qe_var 0 rfl (.inl rfl)) qa_nil)) qe_int)) qa_nil))) (qss_cons (qs_if (qt_cmp (q_eq4 hr) (qe_var 2 rfl (.inl rfl)) qe_int (nomark _)) (qss_cons (qs_ret (qe_op q_addS (qe_op q_addS (qe_sliceS (qe_var 0 rfl (.inl rfl)) qo_none (qo_some (qe_var 3 rfl (.inl rfl)))) (qe_var 4 rfl (.inl rfl))) (qe_sliceS (qe_var 0 rfl (.inl rfl)) (qo_some (qe_var 3 rfl (.inl rfl))) qo_none))) qss_nil) qss_nil) (qss_cons (qs_if (qt_cmp (q_eq4 hr) (qe_var 2 rfl (.inl rfl)) qe_int (nomark _)) (qss_cons (qs_ret (qe_op q_addS (qe_sliceS (qe_var 0 rfl (.inl rfl)) qo_none (qo_some (qe_var 3 rfl (.inl rfl)))) (qe_sliceS (qe_var 0 rfl (.inl rfl)) (qo_some (qe_op q_addS (qe_var 3 rfl (.inl rfl)) qe_int)) qo_none))) qss_nil) qss_nil) (qss_cons (qs_if (qt_cmp (q_eq4 hr) (qe_var 2 rfl (.inl rfl)) qe_int (nomark _)) (qss_cons (qs_ret (qe_op q_addS (qe_op q_addS (qe_sliceS (qe_var 0 rfl (.inl rfl)) qo_none (qo_some (qe_var 3 rfl (.inl rfl)))) (qe_var 4 rfl (.inl rfl))) (qe_sliceS (qe_var 0 rfl (.inl rfl)) (qo_some (qe_op q_addS (qe_var 3 rfl (.inl rfl)) qe_int)) qo_none))) qss_nil) qss_nil) (qss_cons (qs_if (qt_cmp (q_eq4 hr) (qe_var 2 rfl (.inl rfl)) qe_int (nomark _)) (qss_cons (qs_ret (qe_op q_addS (qe_op q_addS (qe_sliceS (qe_var 0 rfl (.inl rfl)) qo_none (qo_some (qe_var 3 rfl (.inl rfl)))) (qe_sliceS (qe_var 0 rfl (.inl rfl)) (qo_some (qe_var 3 rfl (.inl rfl))) (qo_some (qe_op q_addS (qe_var 3 rfl (.inl rfl)) qe_int)))) (qe_sliceS (qe_var 0 rfl (.inl rfl)) (qo_some (qe_var 3 rfl (.inl rfl))) qo_none))) qss_nil) qss_nil) (qss_cons (qs_ret (qe_var 0 rfl (.inl rfl))) qss_nil))))))))
  · rintro ws G q e ⟨x, c, rfl, hx, hq⟩
    refine seqU fun U hU => ?_
    walk_at "R"
    subst hU
    refine seqU fun U hU => ?_
    walk_at "R"
    refine ⟨by omega, by omega, ?_⟩
    generalize c / 5 % ((x.length : Int) + 1) = at'
    subst hU
    refine seqU fun U hU => ?_
    walk_at "R"
    refine ⟨by walk_at "om", .inl ⟨by (clear F F1 ml nd hr hq hU; omega), by (clear F F1 ml nd hr hq hU; omega)⟩, _, rfl, fun y hy => ?_⟩
    subst hU
    refine seqU fun U hU => ?_
    walk_at "R"
    split
    · refine ⟨by walk_at "om", fun a ha => ⟨by (clear F F1 ml nd hr hq hU; omega), by walk_at "om", fun b hb => ⟨by rw [add_len]; (clear F F1 ml nd hr hq hU; omega), G, GLe.refl _, hq _ (by rw [add_len, add_len]; (clear F F1 ml nd hr hx hq hU; omega))⟩⟩⟩
    subst hU
    refine seqU fun U hU => ?_
    walk_at "R"
    split
    · refine ⟨by walk_at "om", fun a ha => ⟨by walk_at "om", fun b hb => ⟨by (clear F F1 ml nd hr hq hy hU; omega), G, GLe.refl _, hq _ (by rw [add_len]; (clear F F1 ml nd hr hx hq hy hU; omega))⟩⟩⟩
    subst hU
    refine seqU fun U hU => ?_
    walk_at "R"
    split
    · refine ⟨by walk_at "om", fun a ha => ⟨by (clear F F1 ml nd hr hq hU; omega), by walk_at "om", fun b hb => ⟨by rw [add_len]; (clear F F1 ml nd hr hq hU; omega), G, GLe.refl _, hq _ (by rw [add_len, add_len]; (clear F F1 ml nd hr hx hq hU; omega))⟩⟩⟩
    subst hU
    refine seqU fun U hU => ?_
    walk_at "R"
    split
    · refine ⟨by walk_at "om", fun a ha => ⟨by walk_at "om", fun b hb => ⟨by (clear F F1 ml nd hr hq hy hU; omega), by walk_at "om", fun d hd => ⟨by rw [add_len]; (clear F F1 ml nd hr hq hy hU; omega), G, GLe.refl _, hq _ (by rw [add_len, add_len]; (clear F F1 ml nd hr hx hq hy hU; omega))⟩⟩⟩⟩
    subst hU
    walk_at "R"
    exact ⟨G, GLe.refl _, hq _ (by (clear F F1 ml nd hr hq hy; omega))⟩

/-! what the law asks of a text -/
noncomputable def Bad (G : Gp) (x : W) : Prop := (∃ l : List Nat, x = .str (txS l) ∧ l.length ≤ 5000 ∧ Tr.rdT l = none) ∨ NoStr G x
noncomputable def spRf : WSp := fun ws G q _ => ∃ (x : W) (k : Int), ws = [x, .int k] ∧ Bad G x ∧ q (.bl true) G
theorem scRf : FnScope ["_law_text", "_law_way", "_law_refused_here", "e"] ["_law_text", "_law_way"] (defScope (top 16)) := ⟨rfl, rfl, rfl, by decide +kernel, rfl, by decide +kernel, by decide +kernel⟩
theorem bad_rd {C : Addr} {G : Gp} {x : W} {q : WK} {e : WX} (h : Bad G x) (he : ∀ G', GLe G G' → e (.ref C) G') : spTd C [x] G q e := by
  rcases h with ⟨l, rfl, hl, hn⟩ | h
  · refine ⟨_, rfl, .inl ⟨l, rfl, hl, ?_⟩⟩
    rw [hn]
    exact he
  · exact ⟨x, rfl, .inr ⟨h, he⟩⟩
theorem fnRf {C Hy : Addr} {bm bmH : List Value} (F : Fun K "_law_refused" "_law_refused" (top 16) f fd) (R1 : Rx P w K mg base "tree_read" ["text"] 3 (spTd C) []) (hm : mg "NoText" = some (.ref C)) (hC : XC K C bm) (hmH : mg "HydraError" = some (.ref Hy)) (hH : XC K Hy bmH)
    (hs : PySem.W.mroIn K C (.ref Hy) = some true) (mi : mg "isinstance" = none) (mv : mg "ValueError" = none) (mn : mg "int" = none) : WFn P w K mg base 4 f fd ["_law_text", "_law_way"] spRf := by
  have nd := scRf.nd
  refine fn3 (k := 3) F scRf (fun ws G q e h => by obtain ⟨_, _, rfl, _⟩ := h; rfl) (fun cdv A outer s H E hr => ?_)
  apply bodyOf
  · refine' qss_cons ?s1 (qss_cons (qs_if ?c1 (qss_one ?t1) (qss_one ?t2)) ?s3)
    case s1 => exact (qs_set 2 nd rfl (.inl rfl) qe_int)
    case c1 => exact (qt_cmp (q_eq4 hr) (qe_var 1 rfl (.inl rfl)) qe_int (nomark _))
    case t1 =>
      refine' qs_try (C := C) rfl rfl (fun _ _ z => z) R1 hr rfl ?a (qh_as 3 hm rfl hC hC hC.self nd rfl rfl fun a oe hoe => qss_one (qs_set 2 nd rfl (Or.inl rfl) (qe_op q_addS qe_int (qe_callTy q_int rfl mn PyProof.Rows.boot_int (qa_cons (qe_isxT (i := 3) rfl (Or.inl rfl) hoe hC rfl km_V boot_V mv rfl mi rfl) qa_nil)))))
      case a => exact (qa_cons (qe_var 0 rfl (.inl rfl)) qa_nil)
    case t2 =>
      refine' qs_try (C := C) rfl rfl (fun _ _ z => z) R1 hr rfl ?a (qh_as 3 hmH rfl hC hH hs nd rfl rfl fun a oe hoe => qss_one (qs_set 2 nd rfl (Or.inl rfl) (qe_op q_addS qe_int (qe_callTy q_int rfl mn PyProof.Rows.boot_int (qa_cons (qe_isxC (i := 3) rfl (Or.inl rfl) hoe isIn_self hm rfl mi rfl) qa_nil)))))
      case a => exact (qa_cons (qe_var 0 rfl (.inl rfl)) qa_nil)
    case s3 => exact (qss_cons (qs_ret (qe_cmp (q_eq4 hr) (qe_var 2 rfl (.inl rfl)) qe_int (nomark _))) qss_nil)
  · rintro ws G q e ⟨x, k, rfl, hx, hq⟩
    refine seqU fun U hU => ?_
    walk_at "R"
    subst hU
    refine seqU fun U hU => ?_
    walk_at "R"
    split
    · refine bad_rd hx fun G' hle => ⟨rfl, fun y hy => ?_⟩
      subst hU
      walk_at "R"
      exact ⟨G, hle, hq⟩
    · refine bad_rd hx fun G' hle => ⟨rfl, fun y hy => ?_⟩
      subst hU
      walk_at "R"
      exact ⟨G, hle, hq⟩
noncomputable def spTe : WSp := fun ws G q _ => ∃ (l : List Nat) (t : Tr), ws = [.str (txS l)] ∧ l.length ≤ 5000 ∧ Tr.rdT l = some t ∧ q (.tup (encT t)) G
noncomputable def spTo : WSp := fun ws G q _ => ∃ (x : W) (k : Int), ws = [x, .int k] ∧ ((∃ l : List Nat, x = .str (txS l) ∧ l.length ≤ 5000) ∨ NoStr G x) ∧ q (.bl true) G
theorem scTo : FnScope ["_law_text", "_law_way", "_law_found"] ["_law_text", "_law_way"] (defScope (top 17)) := ⟨rfl, rfl, rfl, by decide +kernel, rfl, by decide +kernel, by decide +kernel⟩
theorem fnTo (F : Fun K "_law_told" "_law_told" (top 17) f fd) (F1 : Fx P w K mg base "_law_right" ["_law_text"] 2 spRt) (F2 : Fx P w K mg base "_law_refused" ["_law_text", "_law_way"] 4 spRf) (F3 : Fx P w K mg base "tree_read" ["text"] 3 spTe) (F4 : Fx P w K mg base "tree_shown" ["tree"] 60 (spSh 60)) (F5 : Fx P w K mg base "_law_shown" ["_law_tree_here"] 60 (spSh 60))
    (mi : mg "isinstance" = none) (ms : mg "str" = none) (mt : mg "tuple" = none) : WFn P w K mg base 61 f fd ["_law_text", "_law_way"] spTo := by
  have nd := scTo.nd
  refine fn3 (k := 60) F scTo (fun ws G q e h => by obtain ⟨_, _, rfl, _⟩ := h; rfl) (fun cdv A outer s H E hr => ?_)
  apply bodyOf
  · exact (qss_cons (qs_if (qt_w (qw_or (qt_not (qt_val (qe_isi (T := "str") (x := "str") (by first | simp [isiT] | assumption | decide +kernel) PyProof.Rows.boot_str ms rfl mi rfl (qe_var 0 rfl (.inl rfl))))) (qw_or1 (qt_not (qt_val (qe_fxn F1 (Room.mono hr (by omega)) rfl (qa_cons (qe_var 0 rfl (.inl rfl)) qa_nil))))))) (qss_cons (qs_ret (qe_fxn F2 (Room.mono hr (by omega)) rfl (qa_cons (qe_var 0 rfl (.inl rfl)) (qa_cons (qe_var 1 rfl (.inl rfl)) qa_nil)))) qss_nil) qss_nil) (qss_cons (qs_set 2 nd rfl (.inl rfl) (qe_fxn F3 (Room.mono hr (by omega)) rfl (qa_cons (qe_var 0 rfl (.inl rfl)) qa_nil))) (qss_cons (qs_ret (qe_and (qe_isi (T := "tuple") (x := "tuple") (by first | simp [isiT] | assumption | decide +kernel) b_tuple mt rfl mi rfl (qe_var 2 rfl (.inl rfl))) (qe_and (qe_cmp (q_eq4 hr) (qe_fxn F4 (Room.mono hr (by omega)) rfl (qa_cons (qe_var 2 rfl (.inl rfl)) qa_nil)) (qe_var 0 rfl (.inl rfl)) (nomark _)) (qe_one (qe_cmp (q_eq4 hr) (qe_fxn F5 (Room.mono hr (by omega)) rfl (qa_cons (qe_var 2 rfl (.inl rfl)) qa_nil)) (qe_var 0 rfl (.inl rfl)) (nomark _)))))) qss_nil)))
  · rintro ws G q e ⟨x, k, rfl, hx, hq⟩
    refine seqU fun U hU => ?_
    walk_at "R"
    rcases hx with ⟨l, rfl, hl⟩ | hx
    · simp only [tyN]
      rw [if_neg (by decide)]
      refine ⟨l, rfl, hl, ?_⟩
      dsimp only
      rw [Tr.rt_iff]
      cases hrd : Tr.rdT l with
      | none =>
        rw [if_pos (by rfl)]
        exact ⟨_, _, rfl, .inl ⟨l, rfl, hl, hrd⟩, G, GLe.refl _, hq⟩
      | some t =>
        obtain ⟨hsh, hdp, hpt⟩ := Tr.rdT_shown hrd
        rw [if_neg (by simp)]
        subst hU
        refine seqU fun U hU => ?_
        walk_at "R"
        refine ⟨l, t, rfl, hl, hrd, ?_⟩
        subst hU
        walk_at "R"
        refine ⟨t, rfl, by (clear F F1 F2 F3 F4 F5 mi ms mt nd hr hq hl hrd hsh hpt; omega), by walk_at "om", rfl, rfl, Nat.zero_le _, ?_⟩
        rw [hsh, W.eq_refl _ rfl]
        rw [if_pos rfl]
        refine ⟨t, rfl, by (clear F F1 F2 F3 F4 F5 mi ms mt nd hr hq hl hrd hsh hpt; omega), by walk_at "om", rfl, rfl, Nat.zero_le _, ?_⟩
        rw [hsh, W.eq_refl _ rfl]
        exact ⟨G, GLe.refl _, hq⟩
    · have go : ∃ k', ([x, .int k] : List W) = [x, .int k'] ∧ Bad G x := ⟨k, rfl, .inr hx⟩
      have fin : spRf [x, W.int k] G (fun w G1 => ∃ G0, GLe G0 G1 ∧ q w G0) fun x x_1 => False := ⟨_, _, rfl, .inr hx, G, GLe.refl _, hq⟩
      rcases hx with rfl | ⟨c, rfl⟩ | ⟨a, ws, rfl, ha⟩
      · simp only [tyN]
        rw [if_pos (by decide)]
        exact fin
      · simp only [tyN]
        rw [if_pos (by decide)]
        exact fin
      · simp only [tyN, ha]
        rw [if_pos (by decide)]
        exact fin
noncomputable def spEd : WSp := fun ws G q _ => ∃ c : Int, ws = [.int c] ∧ ∀ (x : W) (G' : Gp), GLe G G' → ((∃ z : Str, x = .str z ∧ z.length ≤ 4000) ∨ NoStr G' x) → q x G'
theorem scEd : FnScope ["_law_cell", "_law_many", "_law_wide", "_law_half", "_law_tall", "_law_some"] ["_law_cell"] (defScope (top 18)) := ⟨rfl, rfl, rfl, by decide +kernel, rfl, by decide +kernel, by decide +kernel⟩
theorem pick_any {xs : List W} {X n : Int} {R : W → Prop} (hn : n = (xs.length : Int)) (h0 : 0 < xs.length) (hR : ∀ w, w ∈ xs → R w) : ∃ w, atI xs (X % n) = some w ∧ R w := by
  have h := mod_in (i := X) (j := n) (by (clear hR; omega))
  have hl : (X % n).toNat < xs.length := by (clear hR; omega)
  have q := atI_nat (List.getElem?_eq_getElem hl)
  rw [Int.toNat_of_nonneg h.1] at q
  exact ⟨_, q, hR _ (List.getElem_mem hl)⟩
theorem fnEd (F : Fun K "_law_edge" "_law_edge" (top 18) f fd) : WFn P w K mg base 1 f fd ["_law_cell"] spEd := by
  have nd := scEd.nd
  refine fn3 (k := 0) F scEd (fun ws G q e h => by obtain ⟨_, rfl, _⟩ := h; rfl) (fun cdv A outer s H E hr => ?_)
  apply bodyOf
  · exact (qss_cons (qs_set 1 nd rfl (.inl rfl) (qe_op q_mod (qe_op q_divB (qe_var 0 rfl (.inl rfl)) qe_int) qe_int)) (qss_cons (qs_set 2 nd rfl (.inl rfl) (qe_op q_mulS qe_str (qe_op q_addS qe_int (qe_var 1 rfl (.inl rfl))))) (qss_cons (qs_set 3 nd rfl (.inl rfl) (qe_op q_mulS qe_str (qe_op q_addS qe_int (qe_op q_mod (qe_op q_divB (qe_var 0 rfl (.inl rfl)) qe_int) qe_int)))) (qss_cons (qs_set 4 nd rfl (.inl rfl) (qe_op q_addS (qe_op q_mulS qe_str (qe_op q_addS qe_int (qe_var 1 rfl (.inl rfl)))) (qe_op q_mulS qe_str (qe_op q_addS qe_int (qe_var 1 rfl (.inl rfl)))))) (qss_cons (qs_set 5 nd rfl (.inl rfl) (qe_lst (qa_cons (qe_op q_addS (qe_op q_addS qe_str (qe_var 2 rfl (.inl rfl))) qe_str) (qa_cons (qe_op q_addS (qe_op q_addS (qe_op q_addS (qe_op q_addS qe_str (qe_var 3 rfl (.inl rfl))) qe_str) (qe_op q_mulS qe_str qe_int)) qe_str) (qa_cons (qe_var 4 rfl (.inl rfl)) qa_nil))))) (qss_cons (qs_ret (qe_ix q_ixS (qe_op q_addS (qe_var 5 rfl (.inl rfl)) (qe_lst (qa_cons qe_non (qa_cons (qe_var 0 rfl (.inl rfl)) (qa_cons (qe_lst (qa_cons qe_str qa_nil)) qa_nil))))) (qe_op q_mod (qe_var 0 rfl (.inl rfl)) qe_int) (fun _ _ => rfl))) qss_nil))))))
  · rintro ws G q e ⟨c, rfl, hq⟩
    refine seqU fun U hU => ?_
    walk_at "R"
    have hm := mod_in (i := c / 6) (j := 3) (by (clear F nd hr hq hU; omega))
    generalize c / 6 % 3 = m at hm ⊢
    subst hU
    refine seqU fun U hU => ?_
    walk_at "R"
    have e2 : (Str.ofString "()").length = 2 := by decide +kernel
    have e1 : (Str.ofString "(").length = 1 := by decide +kernel
    have e1' : (Str.ofString ")").length = 1 := by decide +kernel
    have e3 : (Str.ofString "))").length = 2 := by decide +kernel
    rw [e2]
    refine ⟨by (clear F nd hr hq hU e2 e1 e1' e3; omega), by (clear F nd hr hq hU e2 e1 e1' e3; omega), by (clear F nd hr hq hU e2 e1 e1' e3; omega), fun z1 hz1 => ?_⟩
    subst hU
    refine seqU fun U hU => ?_
    walk_at "R"
    have hm2 := mod_in (i := c / 18) (j := 3) (by (clear F nd hr hq hm e2 e1 e1' e3 hz1 hU; omega))
    rw [e2]
    refine ⟨by (clear F nd hr hq hm e2 e1 e1' e3 hz1 hU; omega), by (clear F nd hr hq hm e2 e1 e1' e3 hz1 hU; omega), by (clear F nd hr hq hm e2 e1 e1' e3 hz1 hU; omega), fun z2 hz2 => ?_⟩
    subst hU
    refine seqU fun U hU => ?_
    walk_at "R"
    rw [e1, e1']
    refine ⟨by (clear F nd hr hq e2 e1 e1' e3 hz1 hm2 hz2 hU; omega), by (clear F nd hr hq e2 e1 e1' e3 hz1 hm2 hz2 hU; omega), by (clear F nd hr hq e2 e1 e1' e3 hz1 hm2 hz2 hU; omega), fun z3 hz3 => ⟨by (clear F nd hr hq e2 e1 e1' e3 hz1 hm2 hz2 hU hz3; omega), by (clear F nd hr hq e2 e1 e1' e3 hz1 hm2 hz2 hU hz3; omega), by (clear F nd hr hq e2 e1 e1' e3 hz1 hm2 hz2 hU hz3; omega), fun z4 hz4 => ⟨by (clear F nd hr hq e2 e1 e1' e3 hz1 hm2 hz2 hU; omega), ?_⟩⟩⟩
    have hz5 := add_len z3 z4
    generalize z3 ++ z4 = z5 at hz5 ⊢
    subst hU
    refine seqU fun U hU => ?_
    walk_at "R"
    simp only [add_len, e1, e1', e2, e3]
    refine ⟨by (clear F nd hr hq e2 e1 e1' e3 hz2 hz3 hz4 hz5 hU; omega), by (clear F nd hr hq e2 e1 e1' e3 hz2 hz3 hz4 hz5 hU; omega), by (clear F nd hr hq e2 e1 e1' e3 hz1 hz3 hz4 hz5 hU; omega), by (clear F nd hr hq e2 e1 e1' e3 hz1 hz3 hz4 hz5 hU; omega), by (clear F nd hr hq hm e2 e1 e1' e3 hz1 hm2 hz2 hz3 hz4 hz5 hU; omega), fun z6 hz6 => ⟨by (clear F nd hr hq e2 e1 e1' e3 hz1 hz3 hz4 hz5 hU; omega), by (clear F nd hr hq e2 e1 e1' e3 hz1 hz3 hz4 hz5 hU; omega), fun p hp => ?_⟩⟩
    have hx1 : (Str.ofString "(" ++ z1 ++ Str.ofString ")").length ≤ 4000 := by rw [add_len, add_len, e1, e1']; (clear F nd hr hq e2 e1 e1' e3 hz2 hz3 hz4 hz5 hU hz6 hp; omega)
    have hx2 : (Str.ofString "(" ++ z2 ++ Str.ofString "(" ++ z6 ++ Str.ofString "))").length ≤ 4000 := by rw [add_len, add_len, add_len, add_len, e1, e3]; (clear F nd hr hq e2 e1 e1' e3 hz1 hz3 hz4 hz5 hU hp hx1; omega)
    generalize Str.ofString "(" ++ z1 ++ Str.ofString ")" = x1 at hx1 ⊢
    generalize Str.ofString "(" ++ z2 ++ Str.ofString "(" ++ z6 ++ Str.ofString "))" = x2 at hx2 ⊢
    have g1 := updG_same (G := G) (a := p) (g := GO.lst [W.str x1, W.str x2, W.str z5])
    have le1 : GLe G (updG G p (GO.lst [W.str x1, W.str x2, W.str z5])) := GLe.new hp
    generalize updG G p (GO.lst [W.str x1, W.str x2, W.str z5]) = G1 at g1 le1 ⊢
    subst hU
    walk_at "R"
    intro p2 hp2 p3 hp3
    refine ⟨_, _, updG_ne' (updG_ne' g1 hp2) hp3, updG_same, by simp, fun p4 hp4 => ?_⟩
    have gq := updG_ne' (g := GO.lst ([W.str x1, W.str x2, W.str z5] ++ [W.non, W.int c, W.ref p2])) (updG_ne' (g := GO.lst [W.non, W.int c, W.ref p2]) (updG_same (G := G1) (a := p2) (g := GO.lst [W.str (Str.ofString "()")])) hp3) hp4
    have le4 := ((le1.trans (GLe.new (g := GO.lst [W.str (Str.ofString "()")]) hp2)).trans (GLe.new (g := GO.lst [W.non, W.int c, W.ref p2]) hp3)).trans (GLe.new (g := GO.lst ([W.str x1, W.str x2, W.str z5] ++ [W.non, W.int c, W.ref p2])) hp4)
    refine ix_new updG_same (pick_any (n := 6) rfl (by simp) fun w hw => ⟨_, GLe.refl _, hq w _ le4 ?_⟩)
    simp only [List.cons_append, List.nil_append, List.mem_cons, List.not_mem_nil, or_false] at hw
    rcases hw with rfl | rfl | rfl | rfl | rfl | rfl
    · exact .inl ⟨_, rfl, hx1⟩
    · exact .inl ⟨_, rfl, hx2⟩
    · exact .inl ⟨_, rfl, by (clear F nd hr hq e2 e1 e1' e3 hz1 hm2 hz2 hz6 hp hx1 hx2 g1 le1 hp2 hp3 hp4 gq le4; omega)⟩
    · exact .inr (.inl rfl)
    · exact .inr (.inr (.inl ⟨_, rfl⟩))
    · exact .inr (.inr (.inr ⟨_, _, rfl, gq⟩))

/-! the law's trees -/
noncomputable def tkT : Nat → Tr → Tr
  | 0, _ => .z
  | _ + 1, .z => .z
  | i + 1, .c b r => .c b (tkT i r)
noncomputable def drT : Nat → Tr → Tr
  | 0, t => t
  | _ + 1, .z => .z
  | i + 1, .c _ r => drT i r
theorem encT_tk : ∀ (i : Nat) (t : Tr), encT (tkT i t) = (encT t).take i
  | 0, _ => rfl
  | _ + 1, .z => rfl
  | i + 1, .c b r => by show W.tup (encT b) :: encT (tkT i r) = _; rw [encT_tk i r]; rfl
theorem encT_dr : ∀ (i : Nat) (t : Tr), encT (drT i t) = (encT t).drop i
  | 0, _ => rfl
  | _ + 1, .z => rfl
  | i + 1, .c b r => by show encT (drT i r) = _; rw [encT_dr i r]; rfl
theorem pts_td : ∀ (i : Nat) (t : Tr), (tkT i t).pts + (drT i t).pts = t.pts + 1
  | 0, t => by show 1 + t.pts = _; omega
  | _ + 1, .z => rfl
  | i + 1, .c b r => by
    have := pts_td i r
    show b.pts + (tkT i r).pts + (drT i r).pts = b.pts + r.pts + 1
    omega
theorem pts_dr : ∀ (i : Nat) (t : Tr), (drT i t).pts ≤ t.pts
  | 0, _ => Nat.le_refl _
  | _ + 1, .z => Nat.le_refl _
  | i + 1, .c b r => by
    have := pts_dr i r
    have := b.pts_pos
    show (drT i r).pts ≤ b.pts + r.pts
    omega
theorem pts_tk : ∀ (i : Nat) (t : Tr), (tkT i t).pts ≤ t.pts
  | 0, t => t.pts_pos
  | _ + 1, .z => Nat.le_refl _
  | i + 1, .c b r => by
    have := pts_tk i r
    show b.pts + (tkT i r).pts ≤ b.pts + r.pts
    omega
noncomputable def trs (ts : List Tr) : List W := ts.map fun t => .tup (encT t)
noncomputable def spPo : WSp := fun ws G q _ => ∃ ns : List Int, ws = [.scr ns, .int 24] ∧ ns.length ≤ 100000 ∧ ∀ (p : Addr) (ts : List Tr) (G' : Gp), GLe G G' → G' p = some (.lst (trs ts)) → ts.length ≤ 100 → (∀ t, t ∈ ts → t.pts ≤ 30) → q (.ref p) G'
theorem scPo : FnScope ["_law_script", "_law_most", "_law_pool", "_law_cell", "_law_one", "_law_other", "_law_at", "_law_made"] ["_law_script", "_law_most"] (defScope (top 11)) := ⟨rfl, rfl, rfl, by decide +kernel, rfl, by decide +kernel, by decide +kernel⟩
theorem cut24 (ns : List Int) : ∃ cs : List Int, cutW (ns.map W.int) none (some 24) = cs.map W.int ∧ cs.length ≤ 24 := by
  refine ⟨ns.take 24, ?_, by rw [List.length_take]; omega⟩
  rw [show (some (24 : Int)) = some ((24 : Nat) : Int) from rfl, cut_to, List.map_take]
theorem fnPo (F : Fun K "_law_tree" "_law_tree" (top 11) f fd) (F1 : Fx P w K mg base "_law_points" ["_law_tree_here"] 70 (spPn 70)) (ml : mg "len" = none) : WFn P w K mg base 71 f fd ["_law_script", "_law_most"] spPo := by
  have nd := scPo.nd
  refine fn3 (k := 70) F scPo (fun ws G q e h => by obtain ⟨_, rfl, _⟩ := h; rfl) (fun cdv A outer s H E hr => ?_)
  apply bodyOf
  · exact (qss_cons (qs_set 2 nd rfl (.inl rfl) (qe_lst (qa_cons (qe_tup qa_nil) (qa_cons (qe_tup (qa_cons (qe_tup qa_nil) qa_nil)) (qa_cons (qe_tup (qa_cons (qe_tup qa_nil) (qa_cons (qe_tup (qa_cons (qe_tup qa_nil) qa_nil)) qa_nil))) qa_nil))))) (qss_cons (qs_for PySem.PassesOwn.never rfl (qi_seqS (qe_sliceS (qe_var 0 rfl (.inl rfl)) qo_none (qo_some (qe_var 1 rfl (.inl rfl))))) (qg_name 3 nd rfl (.inl rfl)) (qss_cons (qs_set 3 nd rfl (.inl rfl) (qe_op q_mod (qe_var 3 rfl (.inl rfl)) (qe_op q_powB qe_int qe_int))) (qss_cons (qs_set 4 nd rfl (.inl rfl) (qe_ix q_ixS (qe_var 2 rfl (.inl rfl)) (qe_op q_mod (qe_op q_mod (qe_op q_mulS (qe_var 3 rfl (.inl rfl)) qe_int) qe_int) (qe_callB q_lenS rfl ml PySem.boot_len (qa_cons (qe_var 2 rfl (.inl rfl)) qa_nil))) (fun _ _ => rfl))) (qss_cons (qs_set 5 nd rfl (.inl rfl) (qe_ix q_ixS (qe_var 2 rfl (.inl rfl)) (qe_op q_mod (qe_op q_mod (qe_op q_mulS (qe_var 3 rfl (.inl rfl)) qe_int) qe_int) (qe_callB q_lenS rfl ml PySem.boot_len (qa_cons (qe_var 2 rfl (.inl rfl)) qa_nil))) (fun _ _ => rfl))) (qss_cons (qs_set 6 nd rfl (.inl rfl) (qe_op q_mod (qe_op q_divB (qe_var 3 rfl (.inl rfl)) qe_int) (qe_op q_addS (qe_callB q_lenS rfl ml PySem.boot_len (qa_cons (qe_var 4 rfl (.inl rfl)) qa_nil)) qe_int))) (qss_cons (qs_set 7 nd rfl (.inl rfl) (qe_ix q_ixS (qe_lst (qa_cons (qe_op q_addS (qe_op q_addS (qe_sliceS (qe_var 4 rfl (.inl rfl)) qo_none (qo_some (qe_var 6 rfl (.inl rfl)))) (qe_tup (qa_cons (qe_var 5 rfl (.inl rfl)) qa_nil))) (qe_sliceS (qe_var 4 rfl (.inl rfl)) (qo_some (qe_var 6 rfl (.inl rfl))) qo_none)) (qa_cons (qe_op q_addS (qe_sliceS (qe_var 4 rfl (.inl rfl)) qo_none (qo_some (qe_var 6 rfl (.inl rfl)))) (qe_sliceS (qe_var 4 rfl (.inl rfl)) (qo_some (qe_op q_addS (qe_var 6 rfl (.inl rfl)) qe_int)) qo_none)) (qa_cons (qe_tup (qa_cons (qe_var 4 rfl (.inl rfl)) qa_nil)) (qa_cons (qe_tup (qa_cons (qe_var 4 rfl (.inl rfl)) (qa_cons (qe_var 5 rfl (.inl rfl)) qa_nil))) qa_nil))))) (qe_op q_mod (qe_var 3 rfl (.inl rfl)) qe_int) (fun _ _ => rfl))) (qss_cons (qs_if (qt_cmp q_le (qe_fxn F1 (Room.mono hr (by omega)) rfl (qa_cons (qe_var 7 rfl (.inl rfl)) qa_nil)) qe_int (nomark _)) (qss_cons (qs_expr (qe_app (qe_var 2 rfl (.inl rfl)) (qe_var 7 rfl (.inl rfl)))) qss_nil) qss_nil) qss_nil))))))) (qss_cons (qs_ret (qe_var 2 rfl (.inl rfl))) qss_nil)))
  · rintro ws G q e ⟨ns, rfl, hl, hq⟩
    refine seqU fun U hU => ?_
    walk_at "R"
    intro p hp
    have g1 : updG G p (GO.lst [W.tup [], W.tup [W.tup []], W.tup [W.tup [], W.tup [W.tup []]]]) p = some (.lst (trs [.z, .c .z .z, .c .z (.c (.c .z .z) .z)])) := updG_same
    have le1 : GLe G (updG G p (GO.lst [W.tup [], W.tup [W.tup []], W.tup [W.tup [], W.tup [W.tup []]]])) := GLe.new hp
    generalize updG G p (GO.lst [W.tup [], W.tup [W.tup []], W.tup [W.tup [], W.tup [W.tup []]]]) = G1 at g1 le1 ⊢
    subst hU
    refine seqU fun U hU => ?_
    walk_at "R"
    obtain ⟨cs, hcs, hcl⟩ := cut24 ns
    rw [hcs]
    refine ⟨by assumption, fun p0 hp0 => ⟨_, updG_same, ?_⟩⟩
    have k2 := updG_same (G := G1) (a := p0) (g := GO.lst (cs.map W.int))
    have g2 := updG_ne' (g := GO.lst (cs.map W.int)) g1 hp0
    have le2 : GLe G (updG G1 p0 (GO.lst (cs.map W.int))) := le1.trans (GLe.new hp0)
    have np : p ≠ p0 := fun z => by rw [← z, g1] at hp0; cases hp0
    generalize updG G1 p0 (GO.lst (cs.map W.int)) = G2 at k2 g2 le2 ⊢
    refine loopW_ind (fun ws τ G' => ∃ (rs : List Int) (ts : List Tr) (t3 t4 t5 t6 t7 : Option W), ws = rs.map W.int ∧ τ = [some (.scr ns), some (.int 24), some (.ref p), t3, t4, t5, t6, t7] ∧ G' p0 = some (.lst (cs.map W.int)) ∧ G' p = some (.lst (trs ts)) ∧ GLe G G' ∧ 0 < ts.length ∧ ts.length + rs.length ≤ 30 ∧ (∀ t, t ∈ ts → t.pts ≤ 30)) ?_ ?_ _ _ _
      ⟨cs, [.z, .c .z .z, .c .z (.c (.c .z .z) .z)], none, none, none, none, none, rfl, rfl, k2, g2, le2, by simp, by simp only [List.length_cons, List.length_nil]; (clear F F1 ml nd hr hl hq hp g1 le1 hU hcs hp0 np k2 g2 le2; omega), fun t ht => by
        simp only [List.mem_cons, List.not_mem_nil, or_false] at ht
        rcases ht with rfl | rfl | rfl <;> decide⟩
    · rintro τ G' ⟨rs, ts, t3, t4, t5, t6, t7, hw, rfl, kc, gp, hle, h0, hlen, hts⟩
      refine ⟨kc, ?_⟩
      subst hU
      walk_at "R"
      exact ⟨G', GLe.refl _, hq p ts G' hle gp (by (clear F F1 ml nd hr hl hq hp g1 le1 hcs hcl hp0 np k2 g2 le2 hw kc gp hle h0 hts; omega)) hts⟩
    · rintro w1 ws τ G' kk ⟨rs, ts, t3, t4, t5, t6, t7, hw, rfl, kc, gp, hle, h0, hlen, hts⟩ hk
      cases rs with
      | nil => cases hw
      | cons r0 rs =>
      cases hw
      refine ⟨kc, ?_⟩
      simp only [List.length_cons] at hlen
      have hlt : (trs ts).length = ts.length := List.length_map _
      refine seqU fun U1 hU1 => ?_
      walk_at "R"
      have hm := mod_in (i := r0) (j := 1000000000000000000000000000000000000000000000000000000000000) (by (clear F F1 ml nd hr hl hq hp g1 le1 hU hcs hcl hp0 np k2 g2 le2 kc gp hle h0 hts hlen hk hlt hU1; omega))
      generalize r0 % 1000000000000000000000000000000000000000000000000000000000000 = v at hm ⊢
      subst hU1
      refine seqU fun U1 hU1 => ?_
      walk_at "R"
      refine ⟨_, gp, by (clear F F1 ml nd hr hl hq hp g1 le1 hU hcs hcl hp0 np k2 g2 le2 kc gp hle hts hlen hk hm hU1; omega), ix_new gp (pick_any rfl (by (clear F F1 ml nd hr hl hq hp g1 le1 hU hcs hcl hp0 np k2 g2 le2 kc gp hle hts hlen hk hm hU1; omega)) fun w hw => ?_)⟩
      obtain ⟨one, ho, rfl⟩ := List.mem_map.mp hw
      subst hU1
      refine seqU fun U1 hU1 => ?_
      walk_at "R"
      refine ⟨_, gp, by (clear F F1 ml nd hr hl hq hp g1 le1 hU hcs hcl hp0 np k2 g2 le2 kc gp hle hts hlen hk hm ho hw hU1; omega), ix_new gp (pick_any rfl (by (clear F F1 ml nd hr hl hq hp g1 le1 hU hcs hcl hp0 np k2 g2 le2 kc gp hle hts hlen hk hm ho hw hU1; omega)) fun w hw2 => ?_)⟩
      obtain ⟨oth, hoo, rfl⟩ := List.mem_map.mp hw2
      have p1 := hts one ho
      have p2 := hts oth hoo
      have l1 := one.len_pts
      subst hU1
      refine seqU fun U1 hU1 => ?_
      walk_at "R"
      rw [encT_len]
      have hm2 := mod_in (i := v / 4) (j := (one.len : Int) + 1) (by (clear F F1 ml nd hr hl hq hp g1 le1 hU hcs hcl hp0 np k2 g2 le2 kc gp hle h0 hts hlen hk hlt hm ho hw hoo hw2 p1 p2 l1 hU1; omega))
      obtain ⟨i, hi⟩ : ∃ i : Nat, v / 4 % ((one.len : Int) + 1) = (i : Int) := ⟨(v / 4 % ((one.len : Int) + 1)).toNat, by (clear F F1 ml nd hr hl hq hp g1 le1 hU hcs hcl hp0 np k2 g2 le2 kc gp hle h0 hts hlen hk hlt hm ho hw hoo hw2 p1 p2 l1 hU1; omega)⟩
      rw [hi]
      refine ⟨by (clear F F1 ml nd hr hl hq hp g1 le1 hU hcs hcl hp0 np k2 g2 le2 kc gp hle h0 hts hlen hk hlt hm ho hw hoo hw2 p1 p2 l1 hU1 hm2 hi; omega), ?_⟩
      subst hU1
      refine seqU fun U1 hU1 => ?_
      walk_at "R"
      have c1 : cutW (encT one) none (some (i : Int)) = encT (tkT i one) := by rw [cut_to, encT_tk]
      have c2 : cutW (encT one) (some (i : Int)) none = encT (drT i one) := by rw [cut_from, encT_dr]
      have c3 : cutW (encT one) (some ((i : Int) + 1)) none = encT (drT (i + 1) one) := by rw [show (i : Int) + 1 = ((i + 1 : Nat) : Int) from rfl, cut_from, encT_dr]
      rw [c1, c2, c3]
      have q1 := pts_td i one
      have q2 := pts_dr (i + 1) one
      have q3 := pts_tk i one
      have q4 := (tkT i one).len_pts
      have q5 := (drT i one).len_pts
      have q6 := (drT (i + 1) one).len_pts
      have m1 : encT (tkT i one) ++ [W.tup (encT oth)] ++ encT (drT i one) = encT ((tkT i one).app (.c oth (drT i one))) := by rw [encT_app, List.append_assoc]; rfl
      have m2 : encT (tkT i one) ++ encT (drT (i + 1) one) = encT ((tkT i one).app (drT (i + 1) one)) := (encT_app _ _).symm
      rw [m1, m2, List.length_append, encT_len, encT_len, encT_len]
      have a1 := Tr.pts_app (tkT i one) (.c oth (drT i one))
      have a2 := Tr.pts_app (tkT i one) (drT (i + 1) one)
      have a3 : (Tr.c oth (drT i one)).pts = oth.pts + (drT i one).pts := rfl
      refine ⟨by (clear F F1 ml nd hr hl hq hp g1 le1 hU hcs hcl hp0 np k2 g2 le2 kc gp hle h0 hts hlen hk hlt hm ho hw hoo hw2 hm2 hi hU1 c1 c2 c3 q2 q3 q5 q6 m1 m2 a2; omega), by simp only [List.length_singleton]; (clear F F1 ml nd hr hl hq hp g1 le1 hU hcs hcl hp0 np k2 g2 le2 kc gp hle h0 hts hlen hk hlt hm ho hw hoo hw2 p2 hm2 hi hU1 c1 c2 c3 q2 q3 q6 m1 m2 a2 a3; omega), by (clear F F1 ml nd hr hl hq hp g1 le1 hU hcs hcl hp0 np k2 g2 le2 kc gp hle h0 hts hlen hk hlt hm ho hw hoo hw2 p2 hm2 hi hU1 c1 c2 c3 q5 m1 m2 a3; omega), fun p5 hp5 => ?_⟩
      have fin : ∀ (t : Tr) (G5 : Gp), GLe G' G5 → t.pts ≤ 62 → U1 { nx := kk, rt := fun w G1 => ∃ G0, GLe G0 G1 ∧ q w G0, bk := U { nx := fun x G1 => ∃ G0, GLe G0 G1 ∧ q W.non G0, rt := fun w G1 => ∃ G0, GLe G0 G1 ∧ q w G0 }, ct := kk }
          [some (W.scr ns), some (W.int 24), some (W.ref p), some (W.int v), some (W.tup (encT one)), some (W.tup (encT oth)), some (W.int ↑i), some (.tup (encT t))] G5 := fun t G5 le5 ht => by
        have hdp := t.dp_pts
        subst hU1
        walk_at "R"
        refine ⟨t, rfl, by (clear F F1 ml nd hr hl hq hp g1 le1 hU hcs hcl hp0 np k2 g2 le2 kc gp hle h0 hts hlen hk hlt hm ho hw hoo hw2 p1 p2 l1 hm2 hi c1 c2 c3 q1 q2 q3 q4 q5 q6 m1 m2 a1 a2 a3 hp5 le5; omega), by walk_at "om", ?_⟩
        walk_at "R"
        split
        · rename_i h30
          refine ⟨⟨_, le5 _ _ gp⟩, _, le5 _ _ gp, by (clear F F1 ml nd hr hl hq hp g1 le1 hU hcs hcl hp0 np k2 g2 le2 kc gp hle h0 hts hk hm ho hw hoo hw2 p1 p2 l1 hm2 hi c1 c2 c3 q1 q2 q3 q4 q5 q6 m1 m2 a1 a2 a3 hp5 le5 ht hdp h30; omega), ?_⟩
          refine hk _ _ ⟨rs, ts ++ [t], _, _, _, _, _, rfl, rfl, by rw [updG_ne (Ne.symm np)]; exact le5 _ _ kc, by rw [updG_same]; simp [trs], (hle.trans le5).put hp, by simp, by simp only [List.length_append, List.length_singleton]; (clear F F1 ml nd hr hl hq hp g1 le1 hU hcs hcl hp0 np k2 g2 le2 kc gp hle h0 hts hk hm ho hw hoo hw2 p1 p2 l1 hm2 hi c1 c2 c3 q1 q2 q3 q4 q5 q6 m1 m2 a1 a2 a3 hp5 le5 ht hdp h30; omega), fun x hx => ?_⟩
          rcases List.mem_append.mp hx with hx | hx
          · exact hts x hx
          · cases List.mem_singleton.mp hx
            (clear F F1 ml nd hr hl hq hp g1 le1 hU hcs hcl hp0 np k2 g2 le2 kc gp hle h0 hts hlen hk hlt hm ho hw hoo hw2 p1 p2 l1 hm2 hi c1 c2 c3 q1 q2 q3 q4 q5 q6 m1 m2 a1 a2 a3 hp5 le5 hdp hx; omega)
        · exact hk _ _ ⟨rs, ts, _, _, _, _, _, rfl, rfl, le5 _ _ kc, le5 _ _ gp, hle.trans le5, h0, by (clear F F1 ml nd hr hl hq hp g1 le1 hU hcs hcl hp0 np k2 g2 le2 kc gp hle h0 hts hk hm ho hw hoo hw2 p1 p2 l1 hm2 hi c1 c2 c3 q1 q2 q3 q4 q5 q6 m1 m2 a1 a2 a3 hp5 le5 ht hdp; omega), hts⟩
      refine ix_new updG_same (pick_any (n := 4) rfl (by simp) fun w hw => ?_)
      have le5 : GLe G' (updG G' p5 (GO.lst [W.tup (encT ((tkT i one).app (.c oth (drT i one)))), W.tup (encT ((tkT i one).app (drT (i + 1) one))), W.tup [W.tup (encT one)], W.tup [W.tup (encT one), W.tup (encT oth)]])) := GLe.new hp5
      simp only [List.mem_cons, List.not_mem_nil, or_false] at hw
      rcases hw with rfl | rfl | rfl | rfl
      · exact fin _ _ le5 (by (clear F F1 ml nd hr hl hq hp g1 le1 hU hcs hcl hp0 np k2 g2 le2 kc gp hle h0 hts hlen hk hlt hm ho hw hoo hw2 hm2 hi hU1 c1 c2 c3 q2 q3 q4 q5 q6 m1 m2 a2 hp5 fin le5; omega))
      · exact fin _ _ le5 (by (clear F F1 ml nd hr hl hq hp g1 le1 hU hcs hcl hp0 np k2 g2 le2 kc gp hle h0 hts hlen hk hlt hm ho hw hoo hw2 p2 hm2 hi hU1 c1 c2 c3 q4 q5 q6 m1 m2 a3 hp5 fin le5; omega))
      · exact fin (.c one .z) _ le5 (by show one.pts + 1 ≤ 62; (clear F F1 ml nd hr hl hq hp g1 le1 hU hcs hcl hp0 np k2 g2 le2 kc gp hle h0 hts hlen hk hlt hm ho hw hoo hw2 p2 l1 hm2 hi hU1 c1 c2 c3 q2 q3 q4 q5 q6 m1 m2 a2 a3 hp5 fin le5; omega))
      · exact fin (.c one (.c oth .z)) _ le5 (by show one.pts + (oth.pts + 1) ≤ 62; (clear F F1 ml nd hr hl hq hp g1 le1 hU hcs hcl hp0 np k2 g2 le2 kc gp hle h0 hts hlen hk hlt hm ho hw hoo hw2 hm2 hi hU1 c1 c2 c3 q2 q3 q4 q5 q6 m1 m2 a2 hp5 fin le5; omega))

theorem scLw : FnScope ["_law_script", "_law_first", "_law_pool", "_law_k", "_law_cell", "_law_text", "_law_found", "_law_spoiled_here"] ["_law_script"] (defScope (top 19)) := ⟨rfl, rfl, rfl, by decide +kernel, rfl, by decide +kernel, by decide +kernel⟩
theorem str_tx (z : Str) : ∃ l : List Nat, z = txS l ∧ l.length = z.length := ⟨z.cps.toList, by simp, by simp [Str.length]⟩
theorem fnLw (F : Fun K "law" "law" (top 19) f fd) (F1 : Fx P w K mg base "_law_edge" ["_law_cell"] 1 spEd) (F2 : Fx P w K mg base "_law_told" ["_law_text", "_law_way"] 61 spTo) (F3 : Fx P w K mg base "_law_tree" ["_law_script", "_law_most"] 71 spPo) (F4 : Fx P w K mg base "_law_shown" ["_law_tree_here"] 60 (spSh 60)) (F5 : Fx P w K mg base "tree_shown" ["tree"] 60 (spSh 60))
    (F6 : Fx P w K mg base "tree_read" ["text"] 3 spTe) (F7 : Fx P w K mg base "_law_spoiled" ["_law_text", "_law_cell"] 2 spSp) (ml : mg "len" = none) (mr : mg "range" = none) (mi : mg "isinstance" = none) (ms : mg "str" = none) : WFn P w K mg base 100 f fd ["_law_script"] spLaw := by
  have nd := scLw.nd
  refine fn3 (k := 99) F scLw (fun ws G q e h => by obtain ⟨_, rfl, _⟩ := h; rfl) (fun cdv A outer s H E hr => ?_)
  apply bodyOf
  · exact (qss_cons (qs_set 1 nd rfl (.inl rfl) qe_int) (qss_cons (qs_if (qt_cmp q_gt (qe_callB q_lenS rfl ml PySem.boot_len (qa_cons (qe_var 0 rfl (.inl rfl)) qa_nil)) qe_int (nomark _)) (qss_cons (qs_set 1 nd rfl (.inl rfl) (qe_op q_mod (qe_ix q_ixS (qe_var 0 rfl (.inl rfl)) qe_int (fun _ _ => rfl)) (qe_op q_powB qe_int qe_int))) qss_nil) qss_nil) (qss_cons (qs_if (qt_not (qt_val (qe_fxn F2 (Room.mono hr (by omega)) rfl (qa_cons (qe_fxn F1 (Room.mono hr (by omega)) rfl (qa_cons (qe_var 1 rfl (.inl rfl)) qa_nil)) (qa_cons (qe_op q_mod (qe_op q_divB (qe_var 1 rfl (.inl rfl)) qe_int) qe_int) qa_nil))))) (qss_cons (qs_ret qe_bl) qss_nil) qss_nil) (qss_cons (qs_set 2 nd rfl (.inl rfl) (qe_fxn F3 (Room.mono hr (by omega)) rfl (qa_cons (qe_var 0 rfl (.inl rfl)) (qa_cons qe_int qa_nil)))) (qss_cons (qs_for PySem.PassesOwn.never rfl (qi_range rfl mr (qa_cons (qe_callB q_lenS rfl ml PySem.boot_len (qa_cons (qe_var 2 rfl (.inl rfl)) qa_nil)) qa_nil)) (qg_name 3 nd rfl (.inl rfl)) (qss_cons (qs_set 4 nd rfl (.inl rfl) qe_int) (qss_cons (qs_if (qt_cmp (q_lt3 hr) (qe_var 3 rfl (.inl rfl)) (qe_callB q_lenS rfl ml PySem.boot_len (qa_cons (qe_var 0 rfl (.inl rfl)) qa_nil)) (nomark _)) (qss_cons (qs_set 4 nd rfl (.inl rfl) (qe_op q_mod (qe_ix q_ixS (qe_var 0 rfl (.inl rfl)) (qe_var 3 rfl (.inl rfl)) (fun _ _ => rfl)) (qe_op q_powB qe_int qe_int))) qss_nil) qss_nil) (qss_cons (qs_set 5 nd rfl (.inl rfl) (qe_fxn F4 (Room.mono hr (by omega)) rfl (qa_cons (qe_ix q_ixS (qe_var 2 rfl (.inl rfl)) (qe_var 3 rfl (.inl rfl)) (fun _ _ => rfl)) qa_nil))) (qss_cons (qs_set 6 nd rfl (.inl rfl) (qe_fxn F5 (Room.mono hr (by omega)) rfl (qa_cons (qe_ix q_ixS (qe_var 2 rfl (.inl rfl)) (qe_var 3 rfl (.inl rfl)) (fun _ _ => rfl)) qa_nil))) (qss_cons (qs_if (qt_w (qw_or (qt_not (qt_val (qe_isi (T := "str") (x := "str") (by first | simp [isiT] | assumption | decide +kernel) PyProof.Rows.boot_str ms rfl mi rfl (qe_var 6 rfl (.inl rfl))))) (qw_or (qt_cmp (q_ne4 hr) (qe_var 6 rfl (.inl rfl)) (qe_var 5 rfl (.inl rfl)) (nomark _)) (qw_or1 (qt_cmp (q_ne4 hr) (qe_fxn F6 (Room.mono hr (by omega)) rfl (qa_cons (qe_var 5 rfl (.inl rfl)) qa_nil)) (qe_ix q_ixS (qe_var 2 rfl (.inl rfl)) (qe_var 3 rfl (.inl rfl)) (fun _ _ => rfl)) (nomark _)))))) (qss_cons (qs_ret qe_bl) qss_nil) qss_nil) (qss_cons (qs_set 7 nd rfl (.inl rfl) (qe_fxn F7 (Room.mono hr (by omega)) rfl (qa_cons (qe_var 5 rfl (.inl rfl)) (qa_cons (qe_op q_mod (qe_op q_mulS (qe_var 4 rfl (.inl rfl)) qe_int) qe_int) qa_nil)))) (qss_cons (qs_if (qt_w (qw_or (qt_not (qt_val (qe_fxn F2 (Room.mono hr (by omega)) rfl (qa_cons (qe_var 7 rfl (.inl rfl)) (qa_cons (qe_op q_mod (qe_var 4 rfl (.inl rfl)) qe_int) qa_nil))))) (qw_or1 (qt_not (qt_val (qe_fxn F2 (Room.mono hr (by omega)) rfl (qa_cons (qe_fxn F7 (Room.mono hr (by omega)) rfl (qa_cons (qe_var 7 rfl (.inl rfl)) (qa_cons (qe_op q_divB (qe_var 4 rfl (.inl rfl)) qe_int) qa_nil))) (qa_cons (qe_op q_mod (qe_op q_divB (qe_var 4 rfl (.inl rfl)) qe_int) qe_int) qa_nil)))))))) (qss_cons (qs_ret qe_bl) qss_nil) qss_nil) qss_nil)))))))) (qss_cons (qs_ret qe_bl) qss_nil))))))
  · rintro ws G q e ⟨ns, rfl, hl, hq⟩
    refine seqU fun U hU => ?_
    walk_at "R"
    subst hU
    refine seqU fun U hU => ?_
    have mid : ∀ v : Int, U { nx := fun x G1 => ∃ G0, GLe G0 G1 ∧ q W.non G0, rt := fun w G1 => ∃ G0, GLe G0 G1 ∧ q w G0 } [some (W.scr ns), some (W.int v), none, none, none, none, none, none] G := fun v => by
      subst hU
      refine seqU fun U hU => ?_
      walk_at "R"
      refine ⟨v, rfl, fun x G1 le1 hx => ⟨x, _, rfl, ?_, ?_⟩⟩
      · rcases hx with ⟨z, rfl, hz⟩ | hx
        · obtain ⟨l, rfl, hll⟩ := str_tx z
          exact .inl ⟨l, rfl, by walk_at "om"⟩
        · exact .inr hx
      dsimp only
      rw [if_neg (by decide)]
      subst hU
      refine seqU fun U hU => ?_
      walk_at "R"
      refine ⟨ns, rfl, by walk_at "om", fun p ts G2 le2 g2 hlen hts => ?_⟩
      have hlt : (trs ts).length = ts.length := List.length_map _
      subst hU
      refine seqU fun U hU => ?_
      walk_at "R"
      refine ⟨_, g2, ?_⟩
      rw [hlt]
      refine ⟨by omega, by omega, ?_⟩
      refine loop_up ts.length (fun i τ G' => ∃ t3 t4 t5 t6 t7 : Option W, τ = [some (.scr ns), some (.int v), some (.ref p), t3, t4, t5, t6, t7] ∧ GLe G2 G') ⟨none, none, none, none, none, rfl, GLe.refl _⟩ ?_ ?_
      · rintro τ G' ⟨t3, t4, t5, t6, t7, rfl, le⟩
        refine ⟨trivial, ?_⟩
        subst hU
        walk_at "R"
        exact GLe.done (hq _)
      · rintro i τ G' kk hi ⟨t3, t4, t5, t6, t7, rfl, le⟩ hk
        refine ⟨trivial, ?_⟩
        obtain ⟨t, ht⟩ : ∃ t, ts[i]? = some t := ⟨_, List.getElem?_eq_getElem hi⟩
        have hpt := hts t (List.mem_of_getElem? ht)
        have hdp := t.dp_pts
        have hsl := t.shown_len
        have gi : (trs ts)[i]? = some (.tup (encT t)) := by unfold trs; rw [List.getElem?_map, ht]; rfl
        have gp := le _ _ g2
        refine seqU fun U1 hU1 => ?_
        walk_at "R"
        subst hU1
        refine seqU fun U1 hU1 => ?_
        have body : ∀ c : Int, 0 ≤ c → c < 1000000000000000000000000000000000000000000000000000000000000 → U1 { nx := kk, rt := fun w G1 => ∃ G0, GLe G0 G1 ∧ q w G0, bk := U { nx := fun x G1 => ∃ G0, GLe G0 G1 ∧ q W.non G0, rt := fun w G1 => ∃ G0, GLe G0 G1 ∧ q w G0 }, ct := kk }
            [some (W.scr ns), some (W.int v), some (W.ref p), some (.int (i : Int)), some (.int c), t5, t6, t7] G' := fun c c0 c1 => by
          subst hU1
          refine seqU fun U1 hU1 => ?_
          walk_at "R"
          refine ⟨_, _, gp, atI_nat gi, t, rfl, by (clear F F1 F2 F3 F4 F5 F6 F7 ml mr mi ms nd hr hl hq le1 hx le2 g2 hlen hts hlt hU hi le hk ht hsl gi gp c0 c1 hU1; omega), by walk_at "om", ?_⟩
          subst hU1
          refine seqU fun U1 hU1 => ?_
          walk_at "R"
          refine ⟨_, _, gp, atI_nat gi, t, rfl, by (clear F F1 F2 F3 F4 F5 F6 F7 ml mr mi ms nd hr hl hq le1 hx le2 g2 hlen hts hlt hU hi le hk ht hsl gi gp c0 c1 hU1; omega), by walk_at "om", ?_⟩
          subst hU1
          refine seqU fun U1 hU1 => ?_
          walk_at "R"
          simp only [tyN]
          rw [if_neg (by decide), W.eq_refl _ rfl, if_neg (by decide)]
          have hrd := Tr.rdT_of (t := t) (by (clear F F1 F2 F3 F4 F5 F6 F7 ml mr mi ms nd hr hl hq le1 hx le2 g2 hlen hts hlt hU hi le hk ht hsl gi gp c0 c1 hU1; omega)) (by walk_at "om")
          refine ⟨rfl, rfl, Nat.zero_le _, _, t, rfl, by (clear F F1 F2 F3 F4 F5 F6 F7 ml mr mi ms nd hr hl hq le1 hx le2 g2 hlen hts hlt hU hi le hk ht hdp gi gp c0 c1 hU1 hrd; omega), hrd, _, _, gp, atI_nat gi, ?_⟩
          have hdt := tupT_dep t
          walk_at "R"
          rw [W.eq_refl _ (tupT_flat t), if_neg (by decide)]
          refine ⟨tupT_flat t, tupT_flat t, by (clear F F1 F2 F3 F4 F5 F6 F7 ml mr mi ms nd hr hl hq le1 hx le2 g2 hlen hts hlt hU hi le hk ht hsl gi gp c0 c1 hU1 hrd; omega), ?_⟩
          subst hU1
          refine seqU fun U1 hU1 => ?_
          walk_at "R"
          refine ⟨_, _, rfl, by rw [txS_len]; (clear F F1 F2 F3 F4 F5 F6 F7 ml mr mi ms nd hr hl hq le1 hx le2 g2 hlen hts hlt hU hi le hk ht hdp gi gp c0 c1 hrd hdt hU1; omega), fun z hz => ?_⟩
          obtain ⟨l1, rfl, hl1⟩ := str_tx z
          have hz' : l1.length ≤ 3 * t.shown.length + 1 := by rw [← txS_len, ← txS_len t.shown]; exact hz
          subst hU1
          walk_at "R"
          refine ⟨_, _, rfl, .inl ⟨l1, rfl, by (clear F F1 F2 F3 F4 F5 F6 F7 ml mr mi ms nd hr hl hq le1 hx le2 g2 hlen hts hlt hU hi le hk ht hdp gi gp c0 c1 hrd hdt hz hl1; omega)⟩, ?_⟩
          dsimp only
          rw [if_neg (by decide)]
          refine ⟨_, _, rfl, by rw [txS_len]; (clear F F1 F2 F3 F4 F5 F6 F7 ml mr mi ms nd hr hl hq le1 hx le2 g2 hlen hts hlt hU hi le hk ht hdp gi gp c0 c1 hrd hdt hz hl1; omega), fun z2 hz2 => ?_⟩
          obtain ⟨l2, rfl, hl2⟩ := str_tx z2
          have hz2' : l2.length ≤ 3 * l1.length + 1 := by rw [← txS_len, ← txS_len l1]; exact hz2
          refine ⟨_, _, rfl, .inl ⟨l2, rfl, by (clear F F1 F2 F3 F4 F5 F6 F7 ml mr mi ms nd hr hl hq le1 hx le2 g2 hlen hts hlt hU hi le hk ht hdp gi gp c0 c1 hrd hdt hz hz2'; omega)⟩, ?_⟩
          dsimp only
          rw [if_neg (by decide)]
          exact hk _ _ ⟨_, _, _, _, _, rfl, le⟩
        walk_at "R"
        split
        · rename_i h0
          have h1 : i < ns.length := by (clear F F1 F2 F3 F4 F5 F6 F7 ml mr mi ms nd hr hl hq le1 hx le2 g2 hlen hts hlt hU hi le hk ht hpt hdp hsl gi gp hU1 body; omega)
          have hm := mod_in (i := ns[i]) (j := 1000000000000000000000000000000000000000000000000000000000000) (by (clear F F1 F2 F3 F4 F5 F6 F7 ml mr mi ms nd hr hl hq le1 hx le2 g2 hlen hts hlt hU hi le hk ht hpt hdp hsl gi gp hU1 body h0 h1; omega))
          exact ⟨_, atI_nat (List.getElem?_eq_getElem h1), body _ hm.1 hm.2⟩
        · exact body 7 (by (clear F F1 F2 F3 F4 F5 F6 F7 ml mr mi ms nd hr hl hq le1 hx le2 g2 hlen hts hlt hU hi le hk ht hpt hdp hsl gi gp hU1 body; omega)) (by (clear F F1 F2 F3 F4 F5 F6 F7 ml mr mi ms nd hr hl hq le1 hx le2 g2 hlen hts hlt hU hi le hk ht hpt hdp hsl gi gp hU1 body; omega))
    walk_at "R"
    split
    · rename_i h0
      have h1 : 0 < ns.length := by (clear F F1 F2 F3 F4 F5 F6 F7 ml mr mi ms nd hr hq hU mid; omega)
      exact ⟨_, atI_nat (j := 0) (List.getElem?_eq_getElem h1), mid _⟩
    · exact mid 0
theorem law_ok (T : Txt K mg) (F : Fun K "law" "law" (top 19) f fd) : WFn P w K mg base 100 f fd ["_law_script"] spLaw := by
  obtain ⟨cH, cN, ⟨mH, qH⟩, ⟨mN, qN⟩, sNH⟩ := T.x_
  obtain ⟨bH, xH⟩ := XC.of qH
  obtain ⟨bN, xN⟩ := XC.of qN
  obtain ⟨t1, c1⟩ := T.c_MOST_POINTS
  obtain ⟨t2, c2⟩ := T.c_MOST_DEEP
  have Rm := T.d_is_room.fx (P := P) (w := w) (base := base) fun f fd F => fnRm F c2 T.z_len
  have Rt := T.d__law_right.fx (P := P) (w := w) (base := base) fun f fd F => fnRt F T.z_len T.z_range T.z_int T.z_max
  have Sg := T.d__law_sign.fx (P := P) (w := w) (base := base) fun f fd F => fnSg F T.z_len
  have Sp := T.d__law_spoiled.fx fun f fd F => fnSp F Sg T.z_len
  have Rd := T.d_tree_read.rx (P := P) (w := w) (base := base) fun f fd F => rnTd F Rm c1 mN xN T.z_isinstance T.z_str T.z_len T.z_tuple
  have Rf := T.d__law_refused.fx fun f fd F => fnRf F Rd mN xN mH xH sNH T.z_isinstance T.z_ValueError T.z_int
  have Te := T.d_tree_read.fx (P := P) (w := w) (base := base) (sp := spTe) fun f fd F => (rnTd F Rm c1 mN xN T.z_isinstance T.z_str T.z_len T.z_tuple).calm fun ws G q e ⟨l, t, h1, h2, h3, h4⟩ => ⟨_, h1, .inl ⟨l, rfl, h2, by rw [h3]; exact h4⟩⟩
  have To := T.d__law_told.fx fun f fd F => fnTo F Rt Rf Te (fxSh T 60) (fxLs T 60) T.z_isinstance T.z_str T.z_tuple
  have Ed := T.d__law_edge.fx (P := P) (w := w) (base := base) fun f fd F => fnEd F
  have Po := T.d__law_tree.fx (P := P) (w := w) (base := base) fun f fd F => fnPo F (fxLp T 70) T.z_len
  exact fnLw F Ed To Po (fxLs T 60) (fxSh T 60) Te Sp T.z_len T.z_range T.z_isinstance T.z_str


end
set_option maxHeartbeats 0 in
theorem all_mk {l : PySem.W.OpenLaw} {w : World} {K : PySem.W.Frag} {h : Heap} {mg : Str → Option Value} {fa f1 f2 f3 f4 f5 f6 f7 f8 f9 f10 f11 f12 f13 : Addr} (X : K.In h) (G : h.Ns mainGlobals mg) (hfa : mg "law" = some (.ref fa))
    {od1 an1 od2 an2 od3 an3 od4 an4 od5 an5 od6 an6 od7 an7 od8 an8 od9 an9 od10 an10 od11 an11 od12 an12 od13 an13 : Option Addr} {sl1 sl2 sl3 sl4 sl5 sl6 sl7 sl8 sl9 sl10 sl11 sl12 sl13 : Array (Option Value)} {oc1 kV1 dc1 pm1 cd1 ct1 oc2 kV2 dc2 pm2 cd2 ct2 oc3 kV3 dc3 pm3 cd3 ct3 oc4 kV4 dc4 pm4 cd4 ct4 oc5 kV5 dc5 pm5 cd5 ct5 oc6 kV6 dc6 pm6 cd6 ct6 oc7 kV7 dc7 pm7 cd7 ct7 oc8 kV8 dc8 pm8 cd8 ct8 oc9 kV9 dc9 pm9 cd9 ct9 oc10 kV10 dc10 pm10 cd10 ct10 oc11 kV11 dc11 pm11 cd11 ct11 oc12 kV12 dc12 pm12 cd12 ct12 oc13 kV13 dc13 pm13 cd13 ct13 : Value} {ct_1 : Tok} {ct_2 : Tok} {xc0 : Addr} {xc1 : Addr}
    (a1 : PySem.W.nsIn K mainGlobals "tree_shown" = some (some (.ref f1))) (l1 : K.lookup f1 = some ⟨oc1, od1, .func (PySem.W.fnOf "tree_shown" "tree_shown" (defArgs (top 6)) (defBody (top 6)) (defScope (top 6)) .none kV1 dc1 pm1 an1 cd1 ct1), sl1⟩) (c1 : PySem.W.codeIn K cd1 "tree_shown" = true) (k1 : PySem.W.keepIn K (.ref f1) = true)
    (a2 : PySem.W.nsIn K mainGlobals "tree_read" = some (some (.ref f2))) (l2 : K.lookup f2 = some ⟨oc2, od2, .func (PySem.W.fnOf "tree_read" "tree_read" (defArgs (top 7)) (defBody (top 7)) (defScope (top 7)) .none kV2 dc2 pm2 an2 cd2 ct2), sl2⟩) (c2 : PySem.W.codeIn K cd2 "tree_read" = true) (k2 : PySem.W.keepIn K (.ref f2) = true)
    (a3 : PySem.W.nsIn K mainGlobals "is_room" = some (some (.ref f3))) (l3 : K.lookup f3 = some ⟨oc3, od3, .func (PySem.W.fnOf "is_room" "is_room" (defArgs (top 8)) (defBody (top 8)) (defScope (top 8)) .none kV3 dc3 pm3 an3 cd3 ct3), sl3⟩) (c3 : PySem.W.codeIn K cd3 "is_room" = true) (k3 : PySem.W.keepIn K (.ref f3) = true)
    (a4 : PySem.W.nsIn K mainGlobals "_law_points" = some (some (.ref f4))) (l4 : K.lookup f4 = some ⟨oc4, od4, .func (PySem.W.fnOf "_law_points" "_law_points" (defArgs (top 10)) (defBody (top 10)) (defScope (top 10)) .none kV4 dc4 pm4 an4 cd4 ct4), sl4⟩) (c4 : PySem.W.codeIn K cd4 "_law_points" = true) (k4 : PySem.W.keepIn K (.ref f4) = true)
    (a5 : PySem.W.nsIn K mainGlobals "_law_tree" = some (some (.ref f5))) (l5 : K.lookup f5 = some ⟨oc5, od5, .func (PySem.W.fnOf "_law_tree" "_law_tree" (defArgs (top 11)) (defBody (top 11)) (defScope (top 11)) .none kV5 dc5 pm5 an5 cd5 ct5), sl5⟩) (c5 : PySem.W.codeIn K cd5 "_law_tree" = true) (k5 : PySem.W.keepIn K (.ref f5) = true)
    (a6 : PySem.W.nsIn K mainGlobals "_law_shown" = some (some (.ref f6))) (l6 : K.lookup f6 = some ⟨oc6, od6, .func (PySem.W.fnOf "_law_shown" "_law_shown" (defArgs (top 12)) (defBody (top 12)) (defScope (top 12)) .none kV6 dc6 pm6 an6 cd6 ct6), sl6⟩) (c6 : PySem.W.codeIn K cd6 "_law_shown" = true) (k6 : PySem.W.keepIn K (.ref f6) = true)
    (a7 : PySem.W.nsIn K mainGlobals "_law_sign" = some (some (.ref f7))) (l7 : K.lookup f7 = some ⟨oc7, od7, .func (PySem.W.fnOf "_law_sign" "_law_sign" (defArgs (top 13)) (defBody (top 13)) (defScope (top 13)) .none kV7 dc7 pm7 an7 cd7 ct7), sl7⟩) (c7 : PySem.W.codeIn K cd7 "_law_sign" = true) (k7 : PySem.W.keepIn K (.ref f7) = true)
    (a8 : PySem.W.nsIn K mainGlobals "_law_spoiled" = some (some (.ref f8))) (l8 : K.lookup f8 = some ⟨oc8, od8, .func (PySem.W.fnOf "_law_spoiled" "_law_spoiled" (defArgs (top 14)) (defBody (top 14)) (defScope (top 14)) .none kV8 dc8 pm8 an8 cd8 ct8), sl8⟩) (c8 : PySem.W.codeIn K cd8 "_law_spoiled" = true) (k8 : PySem.W.keepIn K (.ref f8) = true)
    (a9 : PySem.W.nsIn K mainGlobals "_law_right" = some (some (.ref f9))) (l9 : K.lookup f9 = some ⟨oc9, od9, .func (PySem.W.fnOf "_law_right" "_law_right" (defArgs (top 15)) (defBody (top 15)) (defScope (top 15)) .none kV9 dc9 pm9 an9 cd9 ct9), sl9⟩) (c9 : PySem.W.codeIn K cd9 "_law_right" = true) (k9 : PySem.W.keepIn K (.ref f9) = true)
    (a10 : PySem.W.nsIn K mainGlobals "_law_refused" = some (some (.ref f10))) (l10 : K.lookup f10 = some ⟨oc10, od10, .func (PySem.W.fnOf "_law_refused" "_law_refused" (defArgs (top 16)) (defBody (top 16)) (defScope (top 16)) .none kV10 dc10 pm10 an10 cd10 ct10), sl10⟩) (c10 : PySem.W.codeIn K cd10 "_law_refused" = true) (k10 : PySem.W.keepIn K (.ref f10) = true)
    (a11 : PySem.W.nsIn K mainGlobals "_law_told" = some (some (.ref f11))) (l11 : K.lookup f11 = some ⟨oc11, od11, .func (PySem.W.fnOf "_law_told" "_law_told" (defArgs (top 17)) (defBody (top 17)) (defScope (top 17)) .none kV11 dc11 pm11 an11 cd11 ct11), sl11⟩) (c11 : PySem.W.codeIn K cd11 "_law_told" = true) (k11 : PySem.W.keepIn K (.ref f11) = true)
    (a12 : PySem.W.nsIn K mainGlobals "_law_edge" = some (some (.ref f12))) (l12 : K.lookup f12 = some ⟨oc12, od12, .func (PySem.W.fnOf "_law_edge" "_law_edge" (defArgs (top 18)) (defBody (top 18)) (defScope (top 18)) .none kV12 dc12 pm12 an12 cd12 ct12), sl12⟩) (c12 : PySem.W.codeIn K cd12 "_law_edge" = true) (k12 : PySem.W.keepIn K (.ref f12) = true)
    (a13 : PySem.W.nsIn K mainGlobals "law" = some (some (.ref f13))) (l13 : K.lookup f13 = some ⟨oc13, od13, .func (PySem.W.fnOf "law" "law" (defArgs (top 19)) (defBody (top 19)) (defScope (top 19)) .none kV13 dc13 pm13 an13 cd13 ct13), sl13⟩) (c13 : PySem.W.codeIn K cd13 "law" = true) (k13 : PySem.W.keepIn K (.ref f13) = true)
    (cc1 : PySem.W.nsIn K mainGlobals "MOST_POINTS" = some (some (.int 600 ct_1)))
    (cc2 : PySem.W.nsIn K mainGlobals "MOST_DEEP" = some (some (.int 40 ct_2)))
    (xa0 : PySem.W.nsIn K mainGlobals "HydraError" = some (some (.ref xc0))) (xe0 : PySem.W.excIn K xc0 [.type "ValueError", .type "Exception", .type "BaseException", .type "object"] "ValueError.__new__" = true)
    (xa1 : PySem.W.nsIn K mainGlobals "NoText" = some (some (.ref xc1))) (xe1 : PySem.W.excIn K xc1 [.type "ValueError", .type "Exception", .type "BaseException", .type "object"] "ValueError.__new__" = true)
    (xm1_0 : PySem.W.mroIn K xc1 (.ref xc0) = some true)
    (z1 : PySem.W.nsIn K mainGlobals "ValueError" = some none) (z2 : PySem.W.nsIn K mainGlobals "int" = some none) (z3 : PySem.W.nsIn K mainGlobals "isinstance" = some none) (z4 : PySem.W.nsIn K mainGlobals "len" = some none) (z5 : PySem.W.nsIn K mainGlobals "max" = some none) (z6 : PySem.W.nsIn K mainGlobals "range" = some none) (z7 : PySem.W.nsIn K mainGlobals "str" = some none) (z8 : PySem.W.nsIn K mainGlobals "sum" = some none) (z9 : PySem.W.nsIn K mainGlobals "tuple" = some none) :
    ∃ fd : FuncData, (∀ (s : Shared) (v : Value), BindsTo s fd ⟨[v], []⟩ [("_law_script", v)]) ∧ ∀ base : Heap, K.In base → base.Ns mainGlobals mg → FnOk l.prog w K mg base CX0 100 fa fd ["_law_script"] (LSp K spLaw) := by
  have e := hfa.symm.trans (PySem.W.mg_of X G a13)
  cases e
  have F1 := fun_mk (st := top 6) l1 c1 k1
  have b1 := F1.binds (ps := ["tree"]) fun _ _ _ _ _ _ => lnS (fun _ => lnZ rfl)
  have F2 := fun_mk (st := top 7) l2 c2 k2
  have b2 := F2.binds (ps := ["text"]) fun _ _ _ _ _ _ => lnS (fun _ => lnZ rfl)
  have F3 := fun_mk (st := top 8) l3 c3 k3
  have b3 := F3.binds (ps := ["begun"]) fun _ _ _ _ _ _ => lnS (fun _ => lnZ rfl)
  have F4 := fun_mk (st := top 10) l4 c4 k4
  have b4 := F4.binds (ps := ["_law_tree_here"]) fun _ _ _ _ _ _ => lnS (fun _ => lnZ rfl)
  have F5 := fun_mk (st := top 11) l5 c5 k5
  have b5 := F5.binds (ps := ["_law_script", "_law_most"]) fun _ _ _ _ _ _ => lnS (fun _ => lnS (fun _ => lnZ rfl))
  have F6 := fun_mk (st := top 12) l6 c6 k6
  have b6 := F6.binds (ps := ["_law_tree_here"]) fun _ _ _ _ _ _ => lnS (fun _ => lnZ rfl)
  have F7 := fun_mk (st := top 13) l7 c7 k7
  have b7 := F7.binds (ps := ["_law_cell"]) fun _ _ _ _ _ _ => lnS (fun _ => lnZ rfl)
  have F8 := fun_mk (st := top 14) l8 c8 k8
  have b8 := F8.binds (ps := ["_law_text", "_law_cell"]) fun _ _ _ _ _ _ => lnS (fun _ => lnS (fun _ => lnZ rfl))
  have F9 := fun_mk (st := top 15) l9 c9 k9
  have b9 := F9.binds (ps := ["_law_text"]) fun _ _ _ _ _ _ => lnS (fun _ => lnZ rfl)
  have F10 := fun_mk (st := top 16) l10 c10 k10
  have b10 := F10.binds (ps := ["_law_text", "_law_way"]) fun _ _ _ _ _ _ => lnS (fun _ => lnS (fun _ => lnZ rfl))
  have F11 := fun_mk (st := top 17) l11 c11 k11
  have b11 := F11.binds (ps := ["_law_text", "_law_way"]) fun _ _ _ _ _ _ => lnS (fun _ => lnS (fun _ => lnZ rfl))
  have F12 := fun_mk (st := top 18) l12 c12 k12
  have b12 := F12.binds (ps := ["_law_cell"]) fun _ _ _ _ _ _ => lnS (fun _ => lnZ rfl)
  have F13 := fun_mk (st := top 19) l13 c13 k13
  have T : Txt K mg := ⟨⟨f1, _, F1, b1, PySem.W.mg_of X G a1⟩, ⟨f2, _, F2, b2, PySem.W.mg_of X G a2⟩, ⟨f3, _, F3, b3, PySem.W.mg_of X G a3⟩, ⟨f4, _, F4, b4, PySem.W.mg_of X G a4⟩, ⟨f5, _, F5, b5, PySem.W.mg_of X G a5⟩, ⟨f6, _, F6, b6, PySem.W.mg_of X G a6⟩, ⟨f7, _, F7, b7, PySem.W.mg_of X G a7⟩, ⟨f8, _, F8, b8, PySem.W.mg_of X G a8⟩, ⟨f9, _, F9, b9, PySem.W.mg_of X G a9⟩, ⟨f10, _, F10, b10, PySem.W.mg_of X G a10⟩, ⟨f11, _, F11, b11, PySem.W.mg_of X G a11⟩, ⟨f12, _, F12, b12, PySem.W.mg_of X G a12⟩, ⟨xc0, xc1, ⟨PySem.W.mg_of X G xa0, xe0⟩, ⟨PySem.W.mg_of X G xa1, xe1⟩, xm1_0⟩, ⟨_, PySem.W.mg_of X G cc1⟩, ⟨_, PySem.W.mg_of X G cc2⟩, PySem.W.mg_none_of X G z1, PySem.W.mg_none_of X G z2, PySem.W.mg_none_of X G z3, PySem.W.mg_none_of X G z4, PySem.W.mg_none_of X G z5, PySem.W.mg_none_of X G z6, PySem.W.mg_none_of X G z7, PySem.W.mg_none_of X G z8, PySem.W.mg_none_of X G z9⟩
  exact ⟨PySem.W.fnOf "law" "law" (defArgs (top 19)) (defBody (top 19)) (defScope (top 19)) .none kV13 dc13 pm13 an13 cd13 ct13, fun s v => .of_eq rfl, fun base _ _ => law_ok T F13⟩
theorem walk {l : PySem.W.OpenLaw} {q : Program} {loose : List Str} {XP : (Str → Option Value) → Heap → Prop} {YP : World → Heap → Prop} {d : DefRec} {K : Params → PySem.W.Frag} (hn : l.most = some 63) (hdf : d.params.defaults = [])
    (hY : ∀ (w : World) (h : Heap), YP w h → (K w.params).In h)
    (F : ∀ (w : World) (mg : Str → Option Value) (fa : Addr) (h : Heap), (K w.params).In h → h.Ns mainGlobals mg → mg d.name = some (.ref fa) →
      ∃ fd : FuncData, (∀ (s : Shared) (u : Value), BindsTo s fd ⟨[u], []⟩ [("_law_script", u)]) ∧ ∀ base : Heap, (K w.params).In base → base.Ns mainGlobals mg → FnOk l.prog w (K w.params) mg base CX0 100 fa fd ["_law_script"] (LSp (K w.params) spLaw)) :
    PySem.W.WalkO q loose XP YP l.row.toRowW d [] (fun f vs => PySem.call f vs) :=
  L2.walk_of (n := 63) (k := 100) (x := "_law_script") (CX := fun _ => CX0) (sp := fun w => LSp (K w.params) spLaw) hn (by decide) hdf ⟨rfl, by decide, by decide⟩ hY F (fun _ _ _ _ hl hO hS => law_start hO hS hl) fun _ _ _ _ _ z => z
end Lw
open PySem PySem.W PyProof.Rows
set_option maxRecDepth 100000 in
set_option maxHeartbeats 0 in
theorem PySem.Challenge.cw_hydrahouse_k74_trees_as_texts_holds : PySem.Challenge.rw_hydrahouse_k74_trees_as_texts.Holds := by
  w_on; o_law; k_head; (case hw => w_witness2)
  k_fill
  refine Lw.walk (l := PySem.Challenge.rw_hydrahouse_k74_trees_as_texts) rfl rfl (fun w h Y => PySem.W.kIn_of Y) ?F
  case F =>
    intro w mg fa h KX G hmg
    refine' Lw.all_mk KX G hmg ?a1 ?l1 ?c1 ?k1 ?a2 ?l2 ?c2 ?k2 ?a3 ?l3 ?c3 ?k3 ?a4 ?l4 ?c4 ?k4 ?a5 ?l5 ?c5 ?k5 ?a6 ?l6 ?c6 ?k6 ?a7 ?l7 ?c7 ?k7 ?a8 ?l8 ?c8 ?k8 ?a9 ?l9 ?c9 ?k9 ?a10 ?l10 ?c10 ?k10 ?a11 ?l11 ?c11 ?k11 ?a12 ?l12 ?c12 ?k12 ?a13 ?l13 ?c13 ?k13 ?cc1 ?cc2 ?xa0 ?xe0 ?xa1 ?xe1 ?xm1_0 ?z1 ?z2 ?z3 ?z4 ?z5 ?z6 ?z7 ?z8 ?z9
    (case a1 => k_is)
    (case l1 => k_is)
    (case c1 => k_is)
    (case k1 => k_is)
    (case a2 => k_is)
    (case l2 => k_is)
    (case c2 => k_is)
    (case k2 => k_is)
    (case a3 => k_is)
    (case l3 => k_is)
    (case c3 => k_is)
    (case k3 => k_is)
    (case a4 => k_is)
    (case l4 => k_is)
    (case c4 => k_is)
    (case k4 => k_is)
    (case a5 => k_is)
    (case l5 => k_is)
    (case c5 => k_is)
    (case k5 => k_is)
    (case a6 => k_is)
    (case l6 => k_is)
    (case c6 => k_is)
    (case k6 => k_is)
    (case a7 => k_is)
    (case l7 => k_is)
    (case c7 => k_is)
    (case k7 => k_is)
    (case a8 => k_is)
    (case l8 => k_is)
    (case c8 => k_is)
    (case k8 => k_is)
    (case a9 => k_is)
    (case l9 => k_is)
    (case c9 => k_is)
    (case k9 => k_is)
    (case a10 => k_is)
    (case l10 => k_is)
    (case c10 => k_is)
    (case k10 => k_is)
    (case a11 => k_is)
    (case l11 => k_is)
    (case c11 => k_is)
    (case k11 => k_is)
    (case a12 => k_is)
    (case l12 => k_is)
    (case c12 => k_is)
    (case k12 => k_is)
    (case a13 => k_is)
    (case l13 => k_is)
    (case c13 => k_is)
    (case k13 => k_is)
    (case cc1 => k_is)
    (case cc2 => k_is)
    (case xa0 => k_is)
    (case xe0 => k_exc)
    (case xa1 => k_is)
    (case xe1 => k_exc)
    (case xm1_0 => k_is)
    (case z1 => k_is)
    (case z2 => k_is)
    (case z3 => k_is)
    (case z4 => k_is)
    (case z5 => k_is)
    (case z6 => k_is)
    (case z7 => k_is)
    (case z8 => k_is)
    (case z9 => k_is)
