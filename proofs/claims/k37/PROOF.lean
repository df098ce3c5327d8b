import PyProof.Rows.All
import Wide.All
import OpenK.AllK
import Wide.FinOn
import KE.KLam
import PySem.Challenge.RW_hydrahouse_k37_met_on_the_way
set_option bootstrap.genMatcherCode false
-- CHANGE: your row's module here, as the last of these rows
set_option Elab.async false
set_option linter.all false
set_option maxRecDepth 100000
/-! THE HAND LAYER, for ints, bools, texts, own classes, LISTS and tuples (index, slices, in, append, pop ..), calls, loops. Paste it whole ahead of your own text; what your proof does not reach may be deleted. -/
namespace L2
open PySem PySem.Spec PyProof.Rows
noncomputable abbrev Key := Sum Int Str
noncomputable def keyIs : Key → Value → Bool
  | .inl k, v => Value.isInt k v
  | .inr x, v => Value.isStrOf x v
noncomputable def keyH (w : World) : Key → Int
  | .inl k => hashInt k
  | .inr x => hashStr w x
theorem keyIs_shape : ∀ {k : Key} {v : Value}, keyIs k v = true → (∃ i t, k = Sum.inl i ∧ v = Value.int i t) ∨ (∃ x t, k = Sum.inr x ∧ v = Value.str x t)
  | .inl i, v, h => by
    obtain ⟨t, e⟩ := Value.isInt_shape (k := i) (v := v) h
    exact .inl ⟨i, t, rfl, e⟩
  | .inr x, v, h => by
    obtain ⟨t, e⟩ := Value.isStrOf_shape (x := x) (v := v) h
    exact .inr ⟨x, t, rfl, e⟩
theorem key_ll (a b : Int) : decide ((Sum.inl a : Key) = Sum.inl b) = (a == b) := by
  by_cases e : a = b
  · subst e; simp
  · have h : ¬ (Sum.inl a : Key) = Sum.inl b := fun q => e (Sum.inl.inj q)
    rw [decide_eq_false h]
    exact (beq_eq_false_iff_ne.mpr e).symm
theorem key_rr (a b : Str) : decide ((Sum.inr a : Key) = Sum.inr b) = decide (a = b) := by
  by_cases e : a = b
  · subst e; simp
  · have h : ¬ (Sum.inr a : Key) = Sum.inr b := fun q => e (Sum.inr.inj q)
    rw [decide_eq_false h, decide_eq_false e]
theorem key_lr (a : Int) (b : Str) : decide ((Sum.inl a : Key) = Sum.inr b) = false := decide_eq_false (fun q => nomatch q)
theorem key_rl (a : Str) (b : Int) : decide ((Sum.inr a : Key) = Sum.inl b) = false := decide_eq_false (fun q => nomatch q)
noncomputable def mixKind (prog : Program) (w : World) : PySem.KeyKind prog w Key where
  is := keyIs
  hash := keyH w
  inj := fun v a b ha hb => by
    rcases keyIs_shape ha with ⟨i, t, rfl, rfl⟩ | ⟨x, t, rfl, rfl⟩
    · rcases keyIs_shape hb with ⟨j, u, rfl, e⟩ | ⟨y, u, rfl, e⟩
      · injection e with e1 _; rw [e1]
      · exact nomatch e
    · rcases keyIs_shape hb with ⟨j, u, rfl, e⟩ | ⟨y, u, rfl, e⟩
      · exact nomatch e
      · injection e with e1 _; rw [e1]
  byValue := fun k v h => by
    rcases keyIs_shape h with ⟨i, t, rfl, rfl⟩ | ⟨x, t, rfl, rfl⟩ <;> rfl
  pyHash := fun hv h => by
    rcases keyIs_shape hv with ⟨i, t, rfl, rfl⟩ | ⟨x, t, rfl, rfl⟩
    · exact wpAny_pyHash_int h
    · exact wpAny_pyHash_str h
  eqBool := fun hu hv h => by
    rcases keyIs_shape hu with ⟨i, t, rfl, rfl⟩ | ⟨x, t, rfl, rfl⟩
    · rcases keyIs_shape hv with ⟨j, u, rfl, rfl⟩ | ⟨y, u, rfl, rfl⟩
      · rw [key_ll] at h; exact wpAny_eqBool_int h
      · rw [key_lr] at h; exact SeqAt.EqAt.int_str i t y u _ _ _ _ h
    · rcases keyIs_shape hv with ⟨j, u, rfl, rfl⟩ | ⟨y, u, rfl, rfl⟩
      · rw [key_rl] at h; exact SeqAt.EqAt.str_int x t j u _ _ _ _ h
      · rw [key_rr] at h; exact wpAny_eqBool_str h
  «strs» := fun k x t v h => by
    rcases keyIs_shape h with ⟨i, u, rfl, e⟩ | ⟨y, u, rfl, e⟩
    · exact nomatch e
    · injection e with e1 _
      subst e1
      cases v <;> rfl
end L2
namespace L2
open PySem PySem.Spec PyProof.Rows
inductive V where
  | non | bl (b : Bool) | int (i : Int) | str (x : Str) | byt (b : Array UInt8) | flt (b : UInt64) | ref (a : Addr) | ty (n : String)
  deriving DecidableEq
noncomputable def RelV : V → Value → Prop
  | .non, u => u = Value.none
  | .bl b, u => u = Value.bool b
  | .int i, u => ∃ t, u = Value.int i t
  | .str x, u => ∃ t, u = Value.str x t
  | .byt b, u => ∃ t, u = Value.bytes b t
  | .flt b, u => ∃ t, u = Value.float b t
  | .ref a, u => u = Value.ref a
  | .ty n, u => u = Value.type n
noncomputable abbrev Vals : List V → List Value → Prop := Paired RelV
theorem Vals.length {xs : List V} {us : List Value} (r : Vals xs us) : xs.length = us.length := Paired.length r
theorem Vals.get : ∀ {xs : List V} {us : List Value} {i : Nat} {x : V}, Vals xs us → xs[i]? = some x → ∃ u, us[i]? = some u ∧ RelV x u
  | _, _, _, _, .nil, e => by simp at e
  | _, _, 0, _, .cons r _, e => by simp at e; subst e; exact ⟨_, rfl, r⟩
  | _, _, i + 1, x, .cons _ t, e => by
    obtain ⟨u, h1, h2⟩ := Vals.get (i := i) (x := x) t (by simpa using e)
    exact ⟨u, by simpa using h1, h2⟩
theorem Vals.append : ∀ {xs ys : List V} {us ws : List Value}, Vals xs us → Vals ys ws → Vals (xs ++ ys) (us ++ ws)
  | _, _, _, _, .nil, s => s
  | _, _, _, _, .cons r t, s => .cons r (Vals.append t s)
theorem Vals.take : ∀ {xs : List V} {us : List Value} (n : Nat), Vals xs us → Vals (xs.take n) (us.take n)
  | _, _, 0, _ => .nil
  | _, _, _ + 1, .nil => .nil
  | _, _, n + 1, .cons r t => .cons r (Vals.take n t)
theorem Vals.drop : ∀ {xs : List V} {us : List Value} (n : Nat), Vals xs us → Vals (xs.drop n) (us.drop n)
  | _, _, 0, r => r
  | _, _, _ + 1, .nil => .nil
  | _, _, n + 1, .cons _ t => Vals.drop n t
noncomputable def RelO : Option V → Option Value → Prop
  | some v, some u => RelV v u
  | none, none => True
  | _, _ => False
noncomputable def KV {κ : Type} : List (κ × V) → List (κ × Value) → Prop := Paired fun (p : κ × V) (q : κ × Value) => p.1 = q.1 ∧ RelV p.2 q.2
noncomputable def kV : Key → V
  | .inl i => .int i
  | .inr x => .str x
inductive HO where
  | lst (xs : List V)
  | tup (xs : List V)
  | dK (kvs : List (Key × V)) | dT (kvs : List (List Key × V))
  | set (S : Int → Bool) (n : Nat)
  | ins (C dx : Addr) (fs : List (Str × V))
  | own (x : Addr)
  | xd (fs : List (Str × V))
  | met (f x : Addr)
  | rng (lo hi : Int)
  | frz (o : Obj) (u : HO)
  | tbl (ps : Array Value)
  | ext (φ : Heap → Prop)
noncomputable abbrev Hp := Addr → Option HO
noncomputable def upd (H : Hp) (a : Addr) (o : HO) : Hp := fun b => if b = a then some o else H b
theorem upd_same {H : Hp} {a : Addr} {o : HO} : upd H a o a = some o := by unfold upd; rw [if_pos rfl]
theorem upd_ne {H : Hp} {a b : Addr} {o : HO} (h : b ≠ a) : upd H a o b = H b := by unfold upd; rw [if_neg h]
theorem ne_of {H : Hp} {a b : Addr} {o u : HO} (h : H a = some o) (h' : H b = some u) (d : o ≠ u) : a ≠ b := by
  intro e; subst e; rw [h] at h'; exact d (Option.some.inj h')
theorem ne_of_none {H : Hp} {a b : Addr} {o : HO} (h : H a = some o) (h' : H b = none) : a ≠ b := by
  intro e; subst e; rw [h] at h'; cases h'
section
variable (P : Program) (w : World)
noncomputable def ObjOk (H : Hp) (h : Heap) (a : Addr) : HO → Prop
  | .lst xs => xs.length ≤ sizeLine ∧ ∃ (its : List Value) (n : Nat), Vals xs its ∧ h.get? a = some { cls := .type "list", data := .seq its.toArray n }
  | .tup xs => xs.length ≤ sizeLine ∧ ∃ its : List Value, Vals xs its ∧ IsTup h a its.toArray
  | .dK kvs => kvs.length ≤ sizeLine ∧ (a == sysModules) = false ∧ ∃ vs, KV kvs vs ∧ h.DictOf (mixKind P w) a vs
  | .dT kvs => kvs.length ≤ sizeLine ∧ (a == sysModules) = false ∧ ∃ xs : List (List Key × Addr × Value),
      Paired (fun (p : List Key × V) (q : List Key × Addr × Value) => p.1 = q.1 ∧ H q.2.1 = some (.tup (p.1.map kV)) ∧ RelV p.2 q.2.2) kvs xs ∧
      ∃ o es ep, h.get? a = some o ∧ o.ExactDict ∧ o.data = .dict es ep ∧ es.toList = xs.map (entryOfKey (tupleKind (mixKind P w))) ∧ (xs.map (·.1)).Nodup
  | .set S n => h.SetOf (intKind P w) a S n
  | .ins C dx fs => H dx = some (.own a) ∧ fs.length ≤ 1000 ∧ dx ≠ a ∧ h.get? a = some (PySem.W.instObj C dx) ∧
      ∃ mA, h.Ns1 dx mA ∧ (∀ f, RelO (fs.lookup f) (mA f)) ∧ PySem.Within mA (fs.map (·.1))
  | .own _ => ∃ o, h.get? a = some o
  | .xd fs => ∃ mA, h.Ns1 a mA ∧ ∀ f, RelO (fs.lookup f) (mA f)
  | .rng lo hi => ∃ t u v, h.get? a = some { cls := .type "range", data := .fields #[.int lo t, .int hi u, .int 1 v] }
  | .frz o u => h.get? a = some o ∧ ObjOk H h a u
  | .tbl ps => h.get? a = some { cls := .none, data := .fields ps }
  | .met f x => h.get? a = some (PySem.W.methodObj (.ref f) (.ref x))
  | .ext φ => φ h ∧ (∃ o, h.get? a = some o) ∧ ∀ h1 h2 : Heap, φ h1 → (∀ o, h1.get? a = some o → h2.get? a = some o) → φ h2
noncomputable def HOk (H : Hp) (h : Heap) : Prop := ∀ a o, H a = some o → ObjOk P w H h a o
end
section
variable {P : Program} {w : World} {H H' : Hp} {h h' : Heap} {a : Addr} {o : HO}
theorem ObjOk.lt (x : ObjOk P w H h a o) : a < h.objs.size := by
  cases o with
  | lst xs => obtain ⟨_, _, _, _, e⟩ := x; exact Heap.lt_size e
  | tup xs => obtain ⟨_, _, _, p⟩ := x; exact p.lt
  | dK kvs => obtain ⟨_, _, _, _, o, _, _, e, _⟩ := x; exact Heap.lt_size e
  | dT kvs => obtain ⟨_, _, _, _, o, _, _, e, _⟩ := x; exact Heap.lt_size e
  | set S n => obtain ⟨o, _, _, _, e, _⟩ := x; exact Heap.lt_size e
  | ins C dx fs => obtain ⟨_, _, _, e, _⟩ := x; exact Heap.lt_size e
  | own y => obtain ⟨_, e⟩ := x; exact Heap.lt_size e
  | xd fs => obtain ⟨_, ⟨_, _, _, e, _⟩, _⟩ := x; exact Heap.lt_size e
  | rng lo hi => obtain ⟨_, _, _, e⟩ := x; exact Heap.lt_size e
  | frz ob u => obtain ⟨e, _⟩ := x; exact Heap.lt_size e
  | tbl ps => exact Heap.lt_size (show h.get? a = some _ from x)
  | met f y => exact Heap.lt_size (show h.get? a = some _ from x)
  | ext φ => obtain ⟨_, ⟨_, e⟩, _⟩ := x; exact Heap.lt_size e
theorem Paired.mapP {α β : Type} {F G : α → β → Prop} : ∀ {l₁ : List α} {l₂ : List β}, Paired F l₁ l₂ → (∀ a b, F a b → G a b) → Paired G l₁ l₂
  | _, _, .nil, _ => .nil
  | _, _, .cons r t, f => .cons (f _ _ r) (Paired.mapP t f)
theorem ObjOk.stay (x : ObjOk P w H h a o) (k : ∀ b u, (b = a ∨ H b = some (.own a)) → h.get? b = some u → h'.get? b = some u)
    (ho : ∀ b, H b = some (.own a) → H' b = some (.own a)) (ht : ∀ b xs, H b = some (.tup xs) → H' b = some (.tup xs)) : ObjOk P w H' h' a o := by
  induction o with
  | lst xs => obtain ⟨z, its, n, r, e⟩ := x; exact ⟨z, its, n, r, k _ _ (.inl rfl) e⟩
  | tup xs => obtain ⟨z, its, r, ob, e, c⟩ := x; exact ⟨z, its, r, ob, k _ _ (.inl rfl) e, c⟩
  | dK kvs => obtain ⟨z, y, vs, r, ob, es, ep, e, c⟩ := x; exact ⟨z, y, vs, r, ob, es, ep, k _ _ (.inl rfl) e, c⟩
  | dT kvs =>
    obtain ⟨z, y, xs, r, ob, es, ep, e, c⟩ := x
    exact ⟨z, y, xs, Paired.mapP r fun p q z => ⟨z.1, ht _ _ z.2.1, z.2.2⟩, ob, es, ep, k _ _ (.inl rfl) e, c⟩
  | set S n => obtain ⟨ob, es, ep, t, e, c⟩ := x; exact ⟨ob, es, ep, t, k _ _ (.inl rfl) e, c⟩
  | ins C dx fs =>
    obtain ⟨d, z, ne, e, mA, ⟨od, es, ep, e2, c⟩, r⟩ := x
    exact ⟨ho _ d, z, ne, k _ _ (.inl rfl) e, mA, ⟨od, es, ep, k _ _ (.inr d) e2, c⟩, r⟩
  | own y => obtain ⟨ob, e⟩ := x; exact ⟨ob, k _ _ (.inl rfl) e⟩
  | xd fs => obtain ⟨mA, ⟨od, es, ep, e, c⟩, r⟩ := x; exact ⟨mA, ⟨od, es, ep, k _ _ (.inl rfl) e, c⟩, r⟩
  | rng lo hi => obtain ⟨t, u, v, e⟩ := x; exact ⟨t, u, v, k _ _ (.inl rfl) e⟩
  | frz ob u ih => obtain ⟨e, q⟩ := x; exact ⟨k _ _ (.inl rfl) e, ih q⟩
  | tbl ps =>
    have e : h.get? a = some { cls := .none, data := .fields ps } := x
    show h'.get? a = some { cls := .none, data := .fields ps }
    exact k a _ (.inl rfl) e
  | met f y =>
    have e : h.get? a = some (PySem.W.methodObj (.ref f) (.ref y)) := x
    show h'.get? a = some (PySem.W.methodObj (.ref f) (.ref y))
    exact k a _ (.inl rfl) e
  | ext φ => obtain ⟨p, ⟨o, e⟩, st⟩ := x; exact ⟨st _ _ p fun o q => k _ _ (.inl rfl) q, ⟨o, k _ _ (.inl rfl) e⟩, st⟩
theorem HOk.lt (x : HOk P w H h) (e : H a = some o) : a < h.objs.size := (x a o e).lt
theorem HOk.fresh (x : HOk P w H h) (e : h.objs.size ≤ a) : H a = none := by
  cases q : H a with
  | none => rfl
  | some u => exact absurd (Nat.lt_of_lt_of_le (x.lt q) e) (Nat.lt_irrefl _)
theorem HOk.kept (x : HOk P w H h) (k : ∀ b u, h.get? b = some u → h'.get? b = some u) : HOk P w H h' := fun a o e =>
  (x a o e).stay (fun b u _ q => k b u q) (fun _ q => q) fun _ _ q => q
theorem HOk.laid (x : HOk P w H h) (k : ∀ b u, h.get? b = some u → h'.get? b = some u) (hp : h.objs.size ≤ a) (new : ObjOk P w (upd H a o) h' a o) : HOk P w (upd H a o) h' := fun b u e => by
  have hn := x.fresh hp
  by_cases hb : b = a
  · subst hb; rw [upd_same] at e; cases e; exact new
  · rw [upd_ne hb] at e
    exact (x b u e).stay (fun c v _ q => k c v q) (fun c q => by rw [upd_ne (ne_of_none q hn)]; exact q) fun c xs q => by rw [upd_ne (ne_of_none q hn)]; exact q
end
noncomputable def Rd (H : Hp) (a : Addr) (u : HO) : Prop := H a = some u ∨ ∃ o, H a = some (.frz o u)
theorem Rd.ok {P : Program} {w : World} {H : Hp} {h : Heap} {a : Addr} {u : HO} (r : Rd H a u) (x : HOk P w H h) : ObjOk P w H h a u := by
  rcases r with r | ⟨o, r⟩
  · exact x a u r
  · obtain ⟨_, q⟩ := x a _ r
    exact q
noncomputable def Mut : Option HO → Prop
  | some (.lst _) => True
  | some (.dK _) => True
  | some (.dT _) => True
  | some (.set _ _) => True
  | some (.ins _ _ _) => True
  | some (.ext _) => True
  | _ => False
section
variable {P : Program} {w : World} {H : Hp} {h h' : Heap} {x e : Addr} {o' : HO}
theorem HOk.write (ok : HOk P w H h) (mu : Mut (H x)) (he : e = x ∨ H e = some (.own x)) (k : ∀ b u, b ≠ e → h.get? b = some u → h'.get? b = some u) (heo : ∃ u, h'.get? e = some u)
    (new : ObjOk P w (upd H x o') h' x o') : HOk P w (upd H x o') h' := fun b u q => by
  have nown : ∀ c y, H c = some (.own y) → c ≠ x := fun c y r z => by subst z; rw [r] at mu; exact mu
  have ntup : ∀ c xs, H c = some (.tup xs) → c ≠ x := fun c xs r z => by subst z; rw [r] at mu; exact mu
  by_cases hb : b = x
  · subst hb; rw [upd_same] at q; cases q; exact new
  · rw [upd_ne hb] at q
    by_cases hbe : b = e
    · have q' : H b = some (.own x) := by
        rcases he with z | z
        · exact absurd (hbe.trans z) hb
        · rw [hbe]; exact z
      rw [q] at q'; cases q'
      obtain ⟨v, hv⟩ := heo
      exact ⟨v, by rw [hbe]; exact hv⟩
    · refine (ok b u q).stay (fun c v hc r => k c v ?_ r) (fun c r => by rw [upd_ne (nown c b r)]; exact r) fun c xs r => by rw [upd_ne (ntup c xs r)]; exact r
      rcases hc with rfl | hc
      · exact hbe
      · rintro rfl
        rcases he with z | z
        · exact nown c b hc z
        · rw [hc] at z; cases z; exact hb rfl
end
structure Un (fs ex : List Addr) (H H' : Hp) (h h' : Heap) : Prop where
  keep : ∀ b o, h.get? b = some o → H b = none → b ∉ fs → b ∉ ex → h'.get? b = some o
  slot : ∀ b o, h.get? b = some o → H b = none → b ∈ fs → b ∉ ex → ∃ sl, h'.get? b = some { o with slots := sl }
  free : ∀ b o, h.get? b = some o → H b = none → b ∉ ex → H' b = none
  there : ∀ b o, h.get? b = some o → b ∉ ex → ∃ o', h'.get? b = some o'
  tups : ∀ b xs, H b = some (.tup xs) → H' b = some (.tup xs)
  frzs : ∀ b o u, H b = some (.frz o u) → H' b = some (.frz o u)
  tbls : ∀ b ps, H b = some (.tbl ps) → ∃ more, H' b = some (.tbl (ps ++ more))
section
variable {fs fs' ex ex' : List Addr} {H H1 H2 : Hp} {h h1 h2 h' : Heap} {a x e : Addr} {o : HO}
theorem Un.any (u : Un fs ex H H1 h h1) {b : Addr} {ob : Obj} (q : h.get? b = some ob) (n : H b = none) (hx : b ∉ ex) : ∃ sl, h1.get? b = some { ob with slots := sl } := by
  by_cases hb : b ∈ fs
  · exact u.slot b ob q n hb hx
  · exact ⟨ob.slots, u.keep b ob q n hb hx⟩
theorem Un.kept (k : ∀ b u, h.get? b = some u → h'.get? b = some u) : Un fs ex H H h h' :=
  ⟨fun b ob q _ _ _ => k b ob q, fun b ob q _ _ _ => ⟨ob.slots, k b ob q⟩, fun _ _ _ n _ => n, fun b ob q _ => ⟨ob, k b ob q⟩, fun _ _ q => q, fun _ _ _ q => q, fun _ ps q => ⟨#[], by rw [q]; simp⟩⟩
theorem Un.refl : Un fs ex H H h h := Un.kept fun _ _ q => q
theorem Un.laid (k : ∀ b u, h.get? b = some u → h'.get? b = some u) (hp : h.objs.size ≤ a) (hn : H a = none) : Un fs ex H (upd H a o) h h' where
  keep := fun b u q _ _ _ => k b u q
  slot := fun b u q _ _ _ => ⟨u.slots, k b u q⟩
  free := fun b u q n _ => by rw [upd_ne (Nat.ne_of_lt (Nat.lt_of_lt_of_le (Heap.lt_size q) hp))]; exact n
  there := fun b u q _ => ⟨u, k b u q⟩
  tups := fun b xs q => by rw [upd_ne (ne_of_none q hn)]; exact q
  frzs := fun b u xs q => by rw [upd_ne (ne_of_none q hn)]; exact q
  tbls := fun b ps q => ⟨#[], by rw [upd_ne (ne_of_none q hn), q]; simp⟩
theorem Un.write (mu : Mut (H x)) (he : e = x ∨ H e = some (.own x)) (k : ∀ b u, b ≠ e → h.get? b = some u → h'.get? b = some u) (heo : ∃ u, h'.get? e = some u) : Un fs ex H (upd H x o) h h' := by
  have hx : ∀ b, H b = none → b ≠ x := fun b n z => by subst z; rw [n] at mu; exact mu
  have hb : ∀ b, H b = none → b ≠ e := fun b n z => by
    subst z
    rcases he with r | r
    · exact hx b n r
    · rw [n] at r; cases r
  have hm : ∀ b u, H b = some u → ¬ Mut (some u) → b ≠ x := fun b u q nm z => by subst z; rw [q] at mu; exact nm mu
  refine ⟨fun b u q n _ _ => k b u (hb b n) q, fun b u q n _ _ => ⟨u.slots, k b u (hb b n) q⟩, fun b u q n _ => by rw [upd_ne (hx b n)]; exact n, fun b u q _ => ?_,
    fun b xs q => by rw [upd_ne (hm b _ q fun z => z)]; exact q, fun b u xs q => by rw [upd_ne (hm b _ q fun z => z)]; exact q, fun b ps q => ⟨#[], by rw [upd_ne (hm b _ q fun z => z), q]; simp⟩⟩
  by_cases hbe : b = e
  · subst hbe; exact heo
  · exact ⟨u, k b u hbe q⟩
end
noncomputable def trk (h : Heap) (H : Hp) : List Addr := (List.range h.objs.size).filter fun a => (H a).isSome
noncomputable def hidT (h : Heap) (H : Hp) : Heap := PySem.W.hideAll h (trk h H)
theorem hidT_size (h : Heap) (H : Hp) : (hidT h H).objs.size = h.objs.size := PySem.W.hideAll_size _ _
theorem hidT_get {h : Heap} {H : Hp} {b : Addr} {o : Obj} (e : h.get? b = some o) (n : H b = none) : (hidT h H).get? b = some o :=
  PySem.W.hideAll_get _ e fun hm => by
    have q : (H b).isSome = true := (List.mem_filter.mp hm).2
    rw [n] at q; simp at q
theorem of_hidT {h : Heap} {H : Hp} {b : Addr} {o : Obj} (e : (hidT h H).get? b = some o) : h.get? b = some o ∧ H b = none := by
  have e' : h.get? b = some o := PySem.W.of_hideAll (trk h H) e
  refine ⟨e', ?_⟩
  cases q : H b with
  | none => rfl
  | some x =>
    have hm : b ∈ trk h H := List.mem_filter.mpr ⟨List.mem_range.mpr (Heap.lt_size e'), by simp [q]⟩
    have z : (hidT h H).get? b = none := PySem.W.hideAll_none (trk h H) hm
    rw [z] at e; cases e
noncomputable def allNews (g h : Heap) (L : Addr) : List (Addr × Obj) := (List.range h.objs.size).filterMap fun a => if a = L ∨ (g.get? a).isSome = true then none else (h.get? a).map fun o => (a, o)
noncomputable def rest (g h : Heap) (L d : Addr) : List (Addr × Obj) := (allNews g h L).filter fun p => decide (p.1 ≠ d)
end L2
namespace L2
open PySem PySem.Spec PyProof.Rows
structure Mod (K : PySem.W.Frag) (mg : Str → Option Value) (base : Heap) : Prop where
  kin : K.In base
  glob : base.Ns mainGlobals mg
  blt : ∃ mb, base.Ns builtinsNs mb ∧ ∀ x : Str, x ≠ "__name__" → mb x = bootBuiltins x
  nolimit : base.NoLimit
structure Cx where
  prog : Program
  w : World
  K : PySem.W.Frag
  mg : Str → Option Value
  base : Heap
  A : Around
  N : List Str
  s₀ : Shared
  H₀ : Hp
  env : Env
  outer : List Env
  stack : List Env
  ex : List Addr
  fn : Str → Bool
  calm : Bool
  pn : List (Addr × Obj)
  xe : Value → Shared → Prop
noncomputable def frs (l : List Env) : List Addr := l.filterMap (·.frame)
noncomputable abbrev Cx.fs (X : Cx) : List Addr := frs X.outer
noncomputable def Vis (sc : Scope) (x : Str) : Prop := sc.names.lookup x = some .local ∨ sc.names.lookup x = some .cell ∨ sc.names.lookup x = some .free
noncomputable def Loc (sc : Scope) (x : Str) : Prop := sc.names.lookup x = some .local ∨ sc.names.lookup x = some .cell
noncomputable def Look (env : Env) (h : Heap) (m : Str → Option Value) (x : Str) (u : Value) : Prop :=
  (env.kindOf x = some .local ∧ m x = some u) ∨ ((env.kindOf x = some .cell ∨ env.kindOf x = some .free) ∧ ∃ c, env.cells.lookup x = some c ∧ h.IsCell c (some u))
structure Cx.Ok (X : Cx) : Prop where
  mod : Mod X.K X.mg X.base
  kind : X.env.scope.kind = .function
  glob : X.env.globals = mainGlobals
  blt : X.env.builtins = builtinsNs
  above : X.s₀.heap.objs.size ≤ X.env.locals
  inj : ∀ x y c, X.env.cells.lookup x = some c → X.env.cells.lookup y = some c → x = y
  has : ∀ x, (X.env.kindOf x = some .cell ∨ X.env.kindOf x = some .free) → ∃ c, X.env.cells.lookup x = some c
  cab : ∀ x c, X.fn x = true → X.env.cells.lookup x = some c → X.s₀.heap.objs.size ≤ c
  hd : X.calm = true → X.A.handled = none
  frames : X.A.frames = some X.stack
  stk : X.stack = X.outer ∨ (X.stack = X.env :: X.outer ∧ X.env.frame = some X.env.locals)
  exf : ∀ b ∈ X.ex, b ≠ X.env.locals ∧ ∀ x c, X.env.cells.lookup x = some c → c ≠ b
  bs : ∀ b o, X.base.get? b = some o → X.s₀.heap.get? b = some o ∧ X.H₀ b = none
  bsz : X.base.objs.size ≤ X.s₀.heap.objs.size
  noex : ∀ b o, X.base.get? b = some o → b ∉ X.ex
  exfs : ∀ b ∈ X.ex, b ∉ X.fs
  funs : X.s₀.heap.FunFrames X.base X.outer
  frf : ∀ b ∈ X.fs, X.H₀ b = none
structure Inv (X : Cx) (pins : List (Addr × Obj)) (σ : List (Option V)) (H : Hp) (s : Shared) : Prop where
  ok : X.Ok
  os : s.os = X.s₀.os
  bare : AllBare s.gens
  base : Un X.fs X.ex X.H₀ H X.s₀.heap s.heap
  loc : ∃ m, s.heap.Ns X.env.locals m ∧ ∀ (i : Nat) (x : Str) (v : V), X.N[i]? = some x → σ[i]? = some (some v) → Vis X.env.scope x → ∃ u, RelV v u ∧ Look X.env s.heap m x u
  cell : ∀ x c, X.env.cells.lookup x = some c → ∃ v, s.heap.IsCell c v
  free : H X.env.locals = none
  freeC : ∀ x c, X.env.cells.lookup x = some c → H c = none
  pin : ∀ p ∈ X.pn ++ pins, s.heap.get? p.1 = some p.2 ∧ H p.1 = none ∧ p.1 ≠ X.env.locals ∧ p.1 ∉ X.fs ∧ ∀ v, p.2.data ≠ .cell v
  hok : HOk X.prog X.w H s.heap
  len : σ.length = X.N.length
section
variable {X : Cx} {pins : List (Addr × Obj)} {σ : List (Option V)} {H H' : Hp} {s : Shared} {h' : Heap}
theorem Cx.Ok.nofr (ok : X.Ok) {b : Addr} {o : Obj} (e : X.base.get? b = some o) : b ∉ X.fs := fun hb => by
  have := (ok.funs.mem hb).1
  rw [e] at this; cases this
theorem Inv.bs (I : Inv X pins σ H s) : ∀ b o, X.base.get? b = some o → s.heap.get? b = some o ∧ H b = none := fun b o e =>
  ⟨I.base.keep b o (I.ok.bs b o e).1 (I.ok.bs b o e).2 (I.ok.nofr e) (I.ok.noex b o e), I.base.free b o (I.ok.bs b o e).1 (I.ok.bs b o e).2 (I.ok.noex b o e)⟩
theorem Inv.bk (I : Inv X pins σ H s) : ∀ b o, X.base.get? b = some o → s.heap.get? b = some o := fun b o e => (I.bs b o e).1
theorem Inv.mod (I : Inv X pins σ H s) : Mod X.K X.mg X.base := I.ok.mod
theorem Inv.kIn (I : Inv X pins σ H s) : X.K.In s.heap := I.ok.mod.kin.keeps I.bk
theorem Inv.lt (I : Inv X pins σ H s) : X.env.locals < s.heap.objs.size := let ⟨_, hn, _⟩ := I.loc; hn.lt
theorem Inv.sz (I : Inv X pins σ H s) : X.s₀.heap.objs.size ≤ s.heap.objs.size := Nat.le_trans I.ok.above (Nat.le_of_lt I.lt)
theorem Inv.nofs (I : Inv X pins σ H s) {a : Addr} (h : s.heap.objs.size ≤ a) : a ∉ X.fs := fun hb => by
  obtain ⟨_, o, ho, _⟩ := I.ok.funs.mem hb
  exact absurd (Nat.lt_of_lt_of_le (Heap.lt_size ho) (Nat.le_trans I.sz h)) (Nat.lt_irrefl _)
theorem Inv.cne (I : Inv X pins σ H s) : ∀ x c, X.env.cells.lookup x = some c → c ≠ X.env.locals := fun x c e z => by
  obtain ⟨v, o, ho, hd⟩ := I.cell x c e
  obtain ⟨m, ⟨o', es, ep, ho', hd', _⟩, _⟩ := I.loc
  rw [z, ho'] at ho; cases ho; rw [hd'] at hd; cases hd
theorem Inv.funs (I : Inv X pins σ H s) : s.heap.FunFrames X.base X.outer := by
  have all : ∀ (l : List Env), (∀ b ∈ frs l, b ∈ X.fs) → X.s₀.heap.FunFrames X.base l → s.heap.FunFrames X.base l := by
    intro l
    induction l with
    | nil => intro _ _; trivial
    | cons env r ih =>
      intro hs hl
      obtain ⟨hk, ⟨L, o, hf, hn, ho, hd⟩, hr⟩ := hl
      have hL : L ∈ X.fs := hs L (by unfold frs; rw [List.filterMap_cons, hf]; exact List.mem_cons_self)
      obtain ⟨sl, e⟩ := I.base.slot L o ho (I.ok.frf L hL) hL fun z => I.ok.exfs L z hL
      exact ⟨hk, ⟨L, _, hf, hn, e, hd⟩, ih (fun b hb => hs b (by unfold frs; rw [List.filterMap_cons, hf]; exact List.mem_cons_of_mem _ hb)) hr⟩
  exact all X.outer (fun _ hb => hb) I.ok.funs
theorem Inv.stack (I : Inv X pins σ H s) : s.heap.FunFrames X.base X.stack := by
  rcases I.ok.stk with e | ⟨e, hf⟩
  · rw [e]; exact I.funs
  · rw [e]
    obtain ⟨m, hn, _⟩ := I.loc
    refine .cons (by rw [I.ok.kind]; decide) hf hn ?_ I.funs
    exact Heap.get?_none_of_le (Nat.le_trans I.ok.bsz I.ok.above)
theorem Inv.stkSub (I : Inv X pins σ H s) : ∀ b ∈ frs X.stack, b ∈ X.env.locals :: X.fs := fun b hb => by
  rcases I.ok.stk with e | ⟨e, hf⟩
  · rw [e] at hb; exact List.mem_cons_of_mem _ hb
  · rw [e] at hb
    unfold frs at hb
    rw [List.filterMap_cons, hf] at hb
    exact hb
theorem Inv.stkFree (I : Inv X pins σ H s) : ∀ b ∈ frs X.stack, H b = none := fun b hb => by
  rcases List.mem_cons.mp (I.stkSub b hb) with e | hb
  · rw [e]; exact I.free
  · obtain ⟨_, o, ho, _⟩ := I.ok.funs.mem hb
    exact I.base.free b o ho (I.ok.frf b hb) fun z => I.ok.exfs b z hb
theorem Inv.step {g' : Array GenState} {t' : Nat} {d' : Drawn} {ch : List Addr} (I : Inv X pins σ H s)
    (hch : ∀ b ∈ ch, (b ∈ X.ex ∨ X.s₀.heap.objs.size ≤ b) ∧ b ≠ X.env.locals ∧ (∀ x c, X.env.cells.lookup x = some c → c ≠ b) ∧ ∀ p ∈ X.pn ++ pins, p.1 ≠ b)
    (keep : ∀ b o, b ≠ X.env.locals → b ∉ X.fs → b ∉ ch → s.heap.get? b = some o → H b = none → h'.get? b = some o)
    (slot : ∀ b o, b ≠ X.env.locals → b ∈ X.fs → b ∉ ch → s.heap.get? b = some o → H b = none → ∃ sl, h'.get? b = some { o with slots := sl }) (free : ∀ b o, b ∉ ch → s.heap.get? b = some o → H b = none → H' b = none)
    (there : ∀ b o, b ∉ ch → s.heap.get? b = some o → ∃ o', h'.get? b = some o')
    (tups : ∀ b xs, H b = some (.tup xs) → H' b = some (.tup xs)) (frzs : ∀ b o u, H b = some (.frz o u) → H' b = some (.frz o u)) (tbls : ∀ b ps, H b = some (.tbl ps) → ∃ more, H' b = some (.tbl (ps ++ more)))
    (ns : ∀ m, s.heap.Ns X.env.locals m → h'.Ns X.env.locals m) (hok : HOk X.prog X.w H' h') (hg : AllBare g') :
    Inv X pins σ H' { s with heap := h', gens := g', drawn := d', toks := t' } := by
  have neL : ∀ b o, X.s₀.heap.get? b = some o → b ≠ X.env.locals := fun b o e => Nat.ne_of_lt (Nat.lt_of_lt_of_le (Heap.lt_size e) I.ok.above)
  have neC : ∀ b o, X.s₀.heap.get? b = some o → b ∉ X.ex → b ∉ ch := fun b o e hx hb => by
    rcases (hch b hb).1 with z | z
    · exact hx z
    · exact absurd (Nat.lt_of_lt_of_le (Heap.lt_size e) z) (Nat.lt_irrefl _)
  have cellK : ∀ x c, X.env.cells.lookup x = some c → ∀ v, s.heap.IsCell c v → h'.IsCell c v := fun x c e v ⟨o, ho, hd⟩ => by
    have nch : c ∉ ch := fun z => (hch c z).2.2.1 x c e rfl
    by_cases hc : c ∈ X.fs
    · obtain ⟨sl, q⟩ := slot c o (I.cne x c e) hc nch ho (I.freeC x c e)
      exact ⟨_, q, hd⟩
    · exact ⟨o, keep c o (I.cne x c e) hc nch ho (I.freeC x c e), hd⟩
  refine ⟨I.ok, I.os, hg, ⟨fun b o e n hb hx => ?_, fun b o e n hb hx => ?_, fun b o e n hx => ?_, fun b o e hx => ?_, fun b xs e => tups b xs (I.base.tups b xs e), fun b o xs e => frzs b o xs (I.base.frzs b o xs e), fun b ps e => ?_⟩, ?_, fun x c e => ?_, ?_, fun x c e => ?_, fun p hp => ?_, hok, I.len⟩
  · exact keep b o (neL b o e) hb (neC b o e hx) (I.base.keep b o e n hb hx) (I.base.free b o e n hx)
  · obtain ⟨sl, e1⟩ := I.base.slot b o e n hb hx
    obtain ⟨sl', e2⟩ := slot b _ (neL b o e) hb (neC b o e hx) e1 (I.base.free b o e n hx)
    exact ⟨sl', e2⟩
  · obtain ⟨o', e1⟩ := I.base.there b o e hx
    exact free b o' (neC b o e hx) e1 (I.base.free b o e n hx)
  · obtain ⟨o', e1⟩ := I.base.there b o e hx
    exact there b o' (neC b o e hx) e1
  · obtain ⟨m1, e1⟩ := I.base.tbls b ps e
    obtain ⟨m2, e2⟩ := tbls b _ e1
    exact ⟨m1 ++ m2, by rw [e2, Array.append_assoc]⟩
  · obtain ⟨m, hn, hl⟩ := I.loc
    refine ⟨m, ns m hn, fun i x v e1 e2 e3 => ?_⟩
    obtain ⟨u, r, l⟩ := hl i x v e1 e2 e3
    refine ⟨u, r, ?_⟩
    rcases l with l | ⟨k, c, e, z⟩
    · exact .inl l
    · exact .inr ⟨k, c, e, cellK x c e _ z⟩
  · obtain ⟨v, z⟩ := I.cell x c e
    exact ⟨v, cellK x c e v z⟩
  · obtain ⟨m, ⟨o, _, _, ho, _⟩, _⟩ := I.loc
    exact free _ o (fun z => (hch _ z).2.1 rfl) ho I.free
  · obtain ⟨v, o, ho, hd⟩ := I.cell x c e
    exact free c o (fun z => (hch c z).2.2.1 x c e rfl) ho (I.freeC x c e)
  · obtain ⟨e, n, ne, nf, d⟩ := I.pin p hp
    have nch : p.1 ∉ ch := fun z => (hch p.1 z).2.2.2 p hp rfl
    exact ⟨keep p.1 p.2 ne nf nch e n, free p.1 p.2 nch e n, ne, nf, d⟩
theorem Inv.un {t' : Nat} (I : Inv X pins σ H s) (u : Un X.fs [] H H' s.heap h') (hok : HOk X.prog X.w H' h') : Inv X pins σ H' { s with heap := h', toks := t' } := by
  obtain ⟨m, ⟨o, es, ep, ho, r⟩, _⟩ := id I.loc
  obtain ⟨sl, hL⟩ := u.any ho I.free (by simp)
  exact I.step (g' := s.gens) (d' := s.drawn) (ch := []) (fun _ z => nomatch z) (fun b o _ hb _ e n => u.keep b o e n hb (by simp)) (fun b o _ hb _ e n => u.slot b o e n hb (by simp)) (fun b o _ e n => u.free b o e n (by simp)) (fun b o _ e => u.there b o e (by simp)) u.tups u.frzs u.tbls (fun m' hm => by
    obtain ⟨o', es', ep', ho', r'⟩ := hm
    rw [ho] at ho'; cases ho'
    exact ⟨_, es', ep', hL, r'⟩) hok I.bare
theorem Inv.call {g' : Array GenState} {t' : Nat} {d' : Drawn} {ch : List Addr} (I : Inv X pins σ H s) (u : Un (frs X.stack) ch H H' s.heap h') (hok : HOk X.prog X.w H' h') (hg : AllBare g')
    (hch : ∀ b ∈ ch, (b ∈ X.ex ∨ X.s₀.heap.objs.size ≤ b) ∧ b ≠ X.env.locals ∧ (∀ x c, X.env.cells.lookup x = some c → c ≠ b) ∧ ∀ p ∈ X.pn ++ pins, p.1 ≠ b) :
    Inv X pins σ H' { s with heap := h', gens := g', drawn := d', toks := t' } := by
  obtain ⟨m, ⟨o, es, ep, ho, r⟩, _⟩ := id I.loc
  obtain ⟨sl, hL⟩ := u.any ho I.free fun z => (hch _ z).2.1 rfl
  exact I.step (ch := ch) hch (fun b o hL hb hc e n => u.keep b o e n (fun z => (List.mem_cons.mp (I.stkSub b z)).elim hL hb) hc) (fun b o _ _ hc e n => u.any e n hc) (fun b o hc e n => u.free b o e n hc) (fun b o hc e => u.there b o e hc) u.tups u.frzs u.tbls (fun m' hm => by
    obtain ⟨o', es', ep', ho', r'⟩ := hm
    rw [ho] at ho'; cases ho'
    exact ⟨_, es', ep', hL, r'⟩) hok hg
theorem Inv.turned {t' : Nat} {it : Addr} (I : Inv X pins σ H s) (k : ∀ b o, b ≠ it → s.heap.get? b = some o → h'.get? b = some o) (hn : H it = none) (hL : it ≠ X.env.locals)
    (h1 : it ∈ X.ex ∨ X.s₀.heap.objs.size ≤ it) (h2 : ∀ x c, X.env.cells.lookup x = some c → c ≠ it) (h3 : ∀ p ∈ X.pn ++ pins, p.1 ≠ it) : Inv X pins σ H { s with heap := h', toks := t' } := by
  have nit : ∀ b u, H b = some u → b ≠ it := fun b u e z => by rw [z, hn] at e; cases e
  refine I.step (g' := s.gens) (d' := s.drawn) (ch := [it]) (fun b hb => ?_) (fun b o _ _ hc e _ => k b o (fun z => hc (by simp [z])) e) (fun b o _ _ hc e _ => ⟨o.slots, k b o (fun z => hc (by simp [z])) e⟩) (fun _ _ _ _ n => n)
    (fun b o hc e => ⟨o, k b o (fun z => hc (by simp [z])) e⟩) (fun _ _ e => e) (fun _ _ _ e => e) (fun b ps e => ⟨#[], by rw [e]; simp⟩) (fun m hm => ?_) (fun b u e => ?_) I.bare
  · have e : b = it := by simpa using hb
    subst e
    exact ⟨h1, hL, h2, h3⟩
  · obtain ⟨o, es, ep, ho, r⟩ := hm
    exact ⟨o, es, ep, k _ o (Ne.symm hL) ho, r⟩
  · refine (I.hok b u e).stay (fun c v hc q => k c v ?_ q) (fun _ q => q) fun _ _ q => q
    rcases hc with z | z
    · rw [z]; exact nit b u e
    · exact nit c _ z
theorem Inv.tok (I : Inv X pins σ H s) (t : Nat) : Inv X pins σ H { s with toks := t } := I.un (h' := s.heap) (t' := t) Un.refl I.hok
theorem Inv.kept {t' : Nat} (I : Inv X pins σ H s) (k : ∀ b u, s.heap.get? b = some u → h'.get? b = some u) : Inv X pins σ H { s with heap := h', toks := t' } := I.un (Un.kept k) (I.hok.kept k)
theorem Inv.laid {a : Addr} {o : HO} {t' : Nat} (I : Inv X pins σ H s) (k : ∀ b u, s.heap.get? b = some u → h'.get? b = some u) (hp : s.heap.objs.size ≤ a) (new : ObjOk X.prog X.w (upd H a o) h' a o) :
    Inv X pins σ (upd H a o) { s with heap := h', toks := t' } := I.un (Un.laid k hp (I.hok.fresh hp)) (I.hok.laid k hp new)
theorem Inv.write {x e : Addr} {o : HO} {t' : Nat} (I : Inv X pins σ H s) (mu : Mut (H x)) (he : e = x ∨ H e = some (.own x)) (k : ∀ b u, b ≠ e → s.heap.get? b = some u → h'.get? b = some u) (heo : ∃ u, h'.get? e = some u)
    (new : ObjOk X.prog X.w (upd H x o) h' x o) : Inv X pins σ (upd H x o) { s with heap := h', toks := t' } := I.un (Un.write mu he k heo) (I.hok.write mu he k heo new)
theorem Inv.pins_of {pins' : List (Addr × Obj)} (I : Inv X pins σ H s) (h : ∀ p ∈ pins', s.heap.get? p.1 = some p.2 ∧ H p.1 = none ∧ p.1 ≠ X.env.locals ∧ p.1 ∉ X.fs ∧ ∀ v, p.2.data ≠ .cell v) : Inv X pins' σ H s :=
  ⟨I.ok, I.os, I.bare, I.base, I.loc, I.cell, I.free, I.freeC, fun p hp => (List.mem_append.mp hp).elim (fun z => I.pin p (List.mem_append_left _ z)) (h p), I.hok, I.len⟩
theorem nodup_ix {N : List Str} (hN : N.Nodup) {i j : Nat} {x : Str} (a : N[i]? = some x) (b : N[j]? = some x) : i = j := by
  obtain ⟨h1, e1⟩ := List.getElem?_eq_some_iff.mp a
  obtain ⟨h2, e2⟩ := List.getElem?_eq_some_iff.mp b
  exact (List.getElem_inj hN).mp (e1.trans e2.symm)
theorem store_ok2 {M : Model} {A : Around} {E : Value → Shared → Prop} {i : Nat} {x : Str} {v : V} {u : Value} {Q : Unit → Shared → Prop} (I : Inv X pins σ H s) (hN : X.N.Nodup) (hi : X.N[i]? = some x) (hx : Loc X.env.scope x) (r : RelV v u)
    (h : ∀ s', Inv X pins (σ.set i (some v)) H s' → (∃ a, Heap.SameBut a s.heap s'.heap ∧ (a = X.env.locals ∨ X.env.cells.lookup x = some a)) → Q () s') (hf : X.fn x = true ∨ X.env.scope.names.lookup x = some .local := by first | exact .inl rfl | exact .inr rfl | assumption) : wpAny M A (storeName X.env x u) Q E s := by
  obtain ⟨m, hn, hl⟩ := id I.loc
  have hcls : (X.env.scope.kind == .class || (X.env.scope.kind == .module && X.env.locals != X.env.globals)) = false := by rw [I.ok.kind]; rfl
  have hiσ : i < σ.length := by rw [I.len]; exact (List.getElem?_eq_some_iff.mp hi).1
  have cne := I.cne
  have tracked : ∀ {a : Addr} {h' : Heap}, (∃ o, s.heap.get? a = some o ∧ H a = none) → Heap.SameBut a s.heap h' → HOk X.prog X.w H h' := fun {a h'} ha hs b ob e => by
    obtain ⟨_, _, hfree⟩ := ha
    refine (I.hok b ob e).stay (fun c w' hc q => (hs.2 c ?_).trans q) (fun _ q => q) fun _ _ q => q
    rintro rfl
    rcases hc with rfl | hc
    · rw [hfree] at e; cases e
    · rw [hfree] at hc; cases hc
  rcases hx with hk | hk
  · refine wpAny_storeName_local hk hn (fun h' hn' hs => ?_) hcls
    obtain ⟨oL, _, _, hoL, _⟩ := id hn
    refine h _ ⟨I.ok, I.os, I.bare, ⟨fun b o e n hb hx => ?_, fun b o e n hb hx => ?_, I.base.free, fun b o e hx => ?_, I.base.tups, I.base.frzs, I.base.tbls⟩, ⟨_, hn', fun j y v' e1 e2 e3 => ?_⟩, fun y c e => ?_, I.free, I.freeC, fun p hp => ?_, tracked ⟨oL, hoL, I.free⟩ hs, by simpa using I.len⟩ ⟨_, hs, .inl rfl⟩
    · exact (hs.2 b (Nat.ne_of_lt (Nat.lt_of_lt_of_le (Heap.lt_size e) I.ok.above))).trans (I.base.keep b o e n hb hx)
    · obtain ⟨sl, e1⟩ := I.base.slot b o e n hb hx
      exact ⟨sl, (hs.2 b (Nat.ne_of_lt (Nat.lt_of_lt_of_le (Heap.lt_size e) I.ok.above))).trans e1⟩
    · obtain ⟨o', e1⟩ := I.base.there b o e hx
      exact ⟨o', (hs.2 b (Nat.ne_of_lt (Nat.lt_of_lt_of_le (Heap.lt_size e) I.ok.above))).trans e1⟩
    · by_cases hj : j = i
      · subst hj
        rw [hi] at e1; cases e1
        rw [List.getElem?_set_self hiσ] at e2
        cases e2
        exact ⟨u, r, .inl ⟨hk, by simp⟩⟩
      · rw [List.getElem?_set_ne (Ne.symm hj)] at e2
        obtain ⟨u', r', q⟩ := hl j y v' e1 e2 e3
        refine ⟨u', r', ?_⟩
        rcases q with ⟨k, e⟩ | ⟨k, c, e, z⟩
        · refine .inl ⟨k, ?_⟩
          have : y ≠ x := fun e => hj (nodup_ix hN e1 (e ▸ hi))
          simp [this, e]
        · exact .inr ⟨k, c, e, z.sameBut hs (cne y c e)⟩
    · obtain ⟨w', z⟩ := I.cell y c e
      exact ⟨w', z.sameBut hs (cne y c e)⟩
    · obtain ⟨e, n, ne, nf, d⟩ := I.pin p hp
      exact ⟨(hs.2 p.1 ne).trans e, n, ne, nf, d⟩
  · have hfn : X.fn x = true := by
      rcases hf with z | z
      · exact z
      · rw [z] at hk; cases hk
    obtain ⟨c, hc⟩ := I.ok.has x (.inl hk)
    obtain ⟨w', z⟩ := I.cell x c hc
    refine wpAny_storeName_cell I.ok.kind hk hc z (fun h' hc' hs => ?_)
    obtain ⟨oc, hoc, hocd⟩ := id z
    refine h { s with heap := h' } ⟨I.ok, I.os, I.bare, ⟨fun b o e n hb hx => ?_, fun b o e n hb hx => ?_, I.base.free, fun b o e hx => ?_, I.base.tups, I.base.frzs, I.base.tbls⟩, ⟨m, hn.sameBut hs (Ne.symm (cne x c hc)), fun j y v' e1 e2 e3 => ?_⟩, fun y c' e => ?_, I.free, I.freeC, fun p hp => ?_, tracked ⟨oc, hoc, I.freeC x c hc⟩ hs, by simpa using I.len⟩ ⟨c, hs, .inr hc⟩
    · exact (hs.2 b (Nat.ne_of_lt (Nat.lt_of_lt_of_le (Heap.lt_size e) (I.ok.cab x c hfn hc)))).trans (I.base.keep b o e n hb hx)
    · obtain ⟨sl, e1⟩ := I.base.slot b o e n hb hx
      exact ⟨sl, (hs.2 b (Nat.ne_of_lt (Nat.lt_of_lt_of_le (Heap.lt_size e) (I.ok.cab x c hfn hc)))).trans e1⟩
    · obtain ⟨o', e1⟩ := I.base.there b o e hx
      exact ⟨o', (hs.2 b (Nat.ne_of_lt (Nat.lt_of_lt_of_le (Heap.lt_size e) (I.ok.cab x c hfn hc)))).trans e1⟩
    · by_cases hj : j = i
      · subst hj
        rw [hi] at e1; cases e1
        rw [List.getElem?_set_self hiσ] at e2
        cases e2
        exact ⟨u, r, .inr ⟨.inl hk, c, hc, hc'⟩⟩
      · rw [List.getElem?_set_ne (Ne.symm hj)] at e2
        obtain ⟨u', r', q⟩ := hl j y v' e1 e2 e3
        refine ⟨u', r', ?_⟩
        rcases q with q | ⟨k, c', e, z'⟩
        · exact .inl q
        · refine .inr ⟨k, c', e, z'.sameBut hs ?_⟩
          rintro rfl
          exact hj (nodup_ix hN e1 (I.ok.inj _ _ _ e hc ▸ hi))
    · by_cases hcc : c' = c
      · subst hcc; exact ⟨_, hc'⟩
      · obtain ⟨w2, z2⟩ := I.cell y c' e
        exact ⟨w2, z2.sameBut hs hcc⟩
    · obtain ⟨e, n, ne, nf, d⟩ := I.pin p hp
      refine ⟨(hs.2 p.1 ?_).trans e, n, ne, nf, d⟩
      intro q
      rw [q, hoc] at e
      have q' : oc = p.2 := Option.some.inj e
      exact d w' (by rw [← q']; exact hocd)
theorem store_ok {M : Model} {A : Around} {E : Value → Shared → Prop} {i : Nat} {x : Str} {v : V} {u : Value} {Q : Unit → Shared → Prop} (I : Inv X pins σ H s) (hN : X.N.Nodup) (hi : X.N[i]? = some x) (hx : Loc X.env.scope x) (r : RelV v u)
    (h : ∀ s', Inv X pins (σ.set i (some v)) H s' → Q () s') (hf : X.fn x = true ∨ X.env.scope.names.lookup x = some .local := by first | exact .inl rfl | exact .inr rfl | assumption) : wpAny M A (storeName X.env x u) Q E s :=
  store_ok2 I hN hi hx r (fun s' I' _ => h s' I') hf
theorem Inv.call' {s' : Shared} {ch : List Addr} (I : Inv X pins σ H s) (ho : s'.os = s.os) (u : Un (frs X.stack) ch H H' s.heap s'.heap) (hok : HOk X.prog X.w H' s'.heap) (hg : AllBare s'.gens)
    (hch : ∀ b ∈ ch, (b ∈ X.ex ∨ X.s₀.heap.objs.size ≤ b) ∧ b ≠ X.env.locals ∧ (∀ x c, X.env.cells.lookup x = some c → c ≠ b) ∧ ∀ p ∈ X.pn ++ pins, p.1 ≠ b) : Inv X pins σ H' s' := by
  obtain ⟨h', g', d', t', o'⟩ := s'
  have e : o' = s.os := ho
  subst e
  exact I.call (g' := g') (t' := t') (d' := d') u hok hg hch
end
noncomputable abbrev XK := Value → Option Addr → Hp → Prop
noncomputable abbrev St := List (Option V)
noncomputable abbrev VK := V → Hp → Prop
noncomputable abbrev TE := St → Hp → VK → Prop
noncomputable abbrev TT := St → Hp → (Bool → Hp → Prop) → Prop
noncomputable abbrev TA := St → Hp → (List V → Hp → Prop) → Prop
structure Ends where
  nx : St → Hp → Prop
  rt : VK
  bk : St → Hp → Prop := fun _ _ => False
  ct : St → Hp → Prop := fun _ _ => False
noncomputable abbrev TS := Ends → St → Hp → Prop
noncomputable def EP (X : Cx) (pins : List (Addr × Obj)) (σ : St) (Q : VK) (u : Value) (s' : Shared) : Prop := ∃ v H', Inv X pins σ H' s' ∧ RelV v u ∧ Q v H'
noncomputable def TP (X : Cx) (pins : List (Addr × Obj)) (σ : St) (Q : Bool → Hp → Prop) (b : Bool) (s' : Shared) : Prop := ∃ H', Inv X pins σ H' s' ∧ Q b H'
noncomputable def AP (X : Cx) (pins : List (Addr × Obj)) (σ : St) (Q : List V → Hp → Prop) (us : List Value) (s' : Shared) : Prop := ∃ vs H', Inv X pins σ H' s' ∧ Vals vs us ∧ Q vs H'
noncomputable def SP (X : Cx) (pins : List (Addr × Obj)) (D : Ends) (f : Flow) (s' : Shared) : Prop :=
  match f with
  | .next => ∃ σ' H', Inv X pins σ' H' s' ∧ D.nx σ' H'
  | .brk => ∃ σ' H', Inv X pins σ' H' s' ∧ D.bk σ' H'
  | .cont => ∃ σ' H', Inv X pins σ' H' s' ∧ D.ct σ' H'
  | .ret u => ∃ v σ' H', Inv X pins σ' H' s' ∧ RelV v u ∧ D.rt v H'
noncomputable def PE (X : Cx) (e : Expr) (t : TE) : Prop :=
  ∀ (pins : List (Addr × Obj)) (s : Shared) (σ : St) (H : Hp) (Q : VK), Inv X pins σ H s → t σ H Q → wpAny (model X.prog X.w) X.A (eval e X.env) (EP X pins σ Q) X.xe s
noncomputable def PT (X : Cx) (e : Expr) (t : TT) : Prop :=
  ∀ (pins : List (Addr × Obj)) (s : Shared) (σ : St) (H : Hp) (Q : Bool → Hp → Prop), Inv X pins σ H s → t σ H Q → wpAny (model X.prog X.w) X.A (isTrue e X.env (eval e X.env)) (TP X pins σ Q) X.xe s
noncomputable def PW (X : Cx) (e : Expr) (t : TT) : Prop :=
  ∀ (whole : Sem Value) (pins : List (Addr × Obj)) (s : Shared) (σ : St) (H : Hp) (Q : Bool → Hp → Prop), Inv X pins σ H s → t σ H Q → wpAny (model X.prog X.w) X.A (isTrue e X.env whole) (TP X pins σ Q) X.xe s
theorem PW.pt {X : Cx} {e : Expr} {t : TT} (h : PW X e t) : PT X e t := h _
noncomputable def PA (X : Cx) (es : List Expr) (t : TA) : Prop :=
  ∀ (pos : Pos) (pins : List (Addr × Obj)) (s : Shared) (σ : St) (H : Hp) (Q : List V → Hp → Prop), Inv X pins σ H s → t σ H Q → wpAny (model X.prog X.w) X.A (spliced (backTo pos (starEach es X.env))) (AP X pins σ Q) X.xe s
noncomputable def PS (X : Cx) (st : Stmt) (t : TS) : Prop :=
  ∀ (pins : List (Addr × Obj)) (s : Shared) (σ : St) (H : Hp) (D : Ends), Inv X pins σ H s → t D σ H → wpAny (model X.prog X.w) X.A (exec st X.env) (SP X pins D) X.xe s
noncomputable def PSs (X : Cx) (st : List Stmt) (t : TS) : Prop :=
  ∀ (pins : List (Addr × Obj)) (s : Shared) (σ : St) (H : Hp) (D : Ends), Inv X pins σ H s → t D σ H → wpAny (model X.prog X.w) X.A (execs st X.env) (SP X pins D) X.xe s
theorem thn {α : Type} {t : Sem α} {Q Q' : α → Shared → Prop} {M : Model} {A : Around} {E : Value → Shared → Prop} {s : Shared} (h : wpAny M A t Q E s) (hQ : ∀ a s, Q a s → Q' a s) : wpAny M A t Q' E s := wpAny_mono h hQ fun _ _ x => x
end L2
namespace L2
open PySem PySem.Spec PyProof.Rows
section
variable {X : Cx}
noncomputable def tVar (i : Nat) : TE := fun σ H Q => ∃ v, σ[i]? = some (some v) ∧ Q v H
noncomputable def tC (v : V) : TE := fun _ H Q => Q v H
theorem pe_var {i : Nat} {x : Str} {pos : Pos} (hN : X.N[i]? = some x) (hv : Vis X.env.scope x) (hd : (x == ("__debug__" : Str)) = false := by decide) (hcd : (x == ("__classdict__" : Str)) = false := by decide) : PE X (.Name x pos) (tVar i) := by
  intro pins s σ H Q I h
  obtain ⟨v, e, h⟩ := h
  obtain ⟨m, hn, hl⟩ := I.loc
  obtain ⟨u, r, l⟩ := hl i x v hN e hv
  have fin : EP X pins σ Q u s := ⟨v, H, I, r, h⟩
  rcases l with ⟨hk, hm⟩ | ⟨hk, c, hc, hcell⟩
  · exact wpAny_Name (wpAny_loadName_local I.ok.kind hk hn hm fin) hd
  · rcases hk with hk | hk
    · exact wpAny_Name (wpAny_loadName_cell I.ok.kind hk hc hcell fin) hd
    · exact wpAny_Name (wpAny_loadName_free I.ok.kind hk hc hcell fin hcd) hd
theorem pe_int {i j pos} : PE X (.Constant (.int i) j pos) (tC (.int i)) := fun _ _ _ H _ I h => wpAny_Constant_int ⟨.int i, H, I.tok _, ⟨_, rfl⟩, h⟩
theorem pe_bl {b j pos} : PE X (.Constant (.bool b) j pos) (tC (.bl b)) := fun _ _ _ H _ I h => Constant_bool ⟨.bl b, H, I, rfl, h⟩
noncomputable def Gl (X : Cx) (x : Str) : Prop := X.env.kindOf x = some .globalImplicit
theorem ld_glob {E : Value → Shared → Prop} {pins : List (Addr × Obj)} {s : Shared} {σ : St} {H : Hp} {x : Str} {u : Value} {pos : Pos} {Q : Value → Shared → Prop} (I : Inv X pins σ H s) (hg : Gl X x) (hm : X.mg x = some u) (h : Q u s)
    (hd : (x == ("__debug__" : Str)) = false := by decide) : wpAny (model X.prog X.w) X.A (eval (.Name x pos) X.env) Q E s :=
  Calls.Name_function_global I.ok.kind hg (Calls.loadGlobal_global (by rw [I.ok.glob]; exact I.mod.glob.keeps I.bk) hm h) hd
theorem ld_blt {E : Value → Shared → Prop} {pins : List (Addr × Obj)} {s : Shared} {σ : St} {H : Hp} {x : Str} {u : Value} {pos : Pos} {Q : Value → Shared → Prop} (I : Inv X pins σ H s) (hg : Gl X x) (hm : X.mg x = none) (hv : bootBuiltins x = some u) (h : Q u s)
    (hn : x ≠ "__name__" := by decide) (hd : (x == ("__debug__" : Str)) = false := by decide) : wpAny (model X.prog X.w) X.A (eval (.Name x pos) X.env) Q E s := by
  obtain ⟨mb, h1, h2⟩ := I.mod.blt
  exact Calls.Name_function_global I.ok.kind hg (Calls.loadGlobal_builtin (by rw [I.ok.glob]; exact I.mod.glob.keeps I.bk) hm (by rw [I.ok.blt]; exact h1.keeps I.bk) ((h2 x hn).trans hv) h) hd
theorem pe_glob {x : Str} {v : V} {u : Value} {pos : Pos} (hg : Gl X x) (hm : X.mg x = some u) (r : RelV v u) (hd : (x == ("__debug__" : Str)) = false := by decide) : PE X (.Name x pos) (tC v) :=
  fun _ _ _ H _ I h => ld_glob I hg hm ⟨v, H, I, r, h⟩ hd
theorem pe_bltn {x : Str} {v : V} {u : Value} {pos : Pos} (hg : Gl X x) (hm : X.mg x = none) (hv : bootBuiltins x = some u) (r : RelV v u) (hn : x ≠ "__name__" := by decide) (hd : (x == ("__debug__" : Str)) = false := by decide) : PE X (.Name x pos) (tC v) :=
  fun _ _ _ H _ I h => ld_blt I hg hm hv ⟨v, H, I, r, h⟩ hn hd
variable {a b : Expr} {ta tb : TE} {pos : Pos}
noncomputable def tB (t : TE) : TT := fun σ H Q => t σ H fun x H1 => ∃ c, x = .bl c ∧ Q c H1
theorem pt_val {e : Expr} {t : TE} (h : PE X e t) (he : ∀ whole, isTrue e X.env whole = (do let v ← whole; standAt e.pos; holding [v] (truthy v)) := by intro _; rfl) : PT X e (tB t) := by
  intro pins s σ H Q I hw
  refine isTrue_plain (thn (h pins s σ H _ I hw) fun v s1 ⟨x, H1, I1, r1, q1⟩ => ?_) (he _)
  obtain ⟨d, rfl, q⟩ := q1
  cases r1
  exact wpAny_truthy_bool ⟨H1, I1, q⟩
variable {tA tB' : TT} {rest : List Expr}
noncomputable def tAnd (t u : TT) : TT := fun σ H Q => t σ H fun c H1 => if c = true then u σ H1 Q else Q false H1
noncomputable def tOr (t u : TT) : TT := fun σ H Q => t σ H fun c H1 => if c = true then Q true H1 else u σ H1 Q
noncomputable def tNot (t : TT) : TT := fun σ H Q => t σ H fun c H1 => Q (!c) H1
theorem pw_and1 (ha : PT X a tA) : PW X (.BoolOp .And [a] pos) tA := by
  intro wh pins s σ H Q I h
  refine isTrue_and (thn (ha pins s σ H Q I h) fun c s1 e => ?_)
  cases c with
  | true => exact isTrue_and_nil e
  | false => exact e
theorem pw_or1 (ha : PT X a tA) : PW X (.BoolOp .Or [a] pos) tA := by
  intro wh pins s σ H Q I h
  refine isTrue_or (thn (ha pins s σ H Q I h) fun c s1 e => ?_)
  cases c with
  | false => exact isTrue_or_nil e
  | true => exact e
theorem pw_and (ha : PT X a tA) (hb : PW X (.BoolOp .And (b :: rest) pos) tB') : PW X (.BoolOp .And (a :: b :: rest) pos) (tAnd tA tB') := by
  intro wh pins s σ H Q I h
  refine isTrue_and (thn (ha pins s σ H _ I h) fun c s1 ⟨H1, I1, q1⟩ => ?_)
  cases c with
  | true => exact hb wh pins s1 σ H1 Q I1 q1
  | false => exact ⟨H1, I1, q1⟩
theorem pw_or (ha : PT X a tA) (hb : PW X (.BoolOp .Or (b :: rest) pos) tB') : PW X (.BoolOp .Or (a :: b :: rest) pos) (tOr tA tB') := by
  intro wh pins s σ H Q I h
  refine isTrue_or (thn (ha pins s σ H _ I h) fun c s1 ⟨H1, I1, q1⟩ => ?_)
  cases c with
  | true => exact ⟨H1, I1, q1⟩
  | false => exact hb wh pins s1 σ H1 Q I1 q1
theorem pt_not (ha : PT X a tA) : PT X (.UnaryOp .Not a pos) (tNot tA) := by
  intro pins s σ H Q I h
  exact isTrue_not (ha pins s σ H (fun c H1 => Q (!c) H1) I h)
noncomputable def tAndV (ta tb : TE) : TE := fun σ H Q => ta σ H fun x H1 => ∃ c, x = .bl c ∧ if c = true then tb σ H1 Q else Q (.bl false) H1
noncomputable def tNotV (ta : TE) : TE := fun σ H Q => ta σ H fun x H1 => ∃ c, x = .bl c ∧ Q (.bl (!c)) H1
theorem pe_one {op} {t : TE} (h : PE X a t) : PE X (.BoolOp op [a] pos) t := fun pins s σ H Q I hw => BoolOp_one (h pins s σ H Q I hw)
theorem pe_and (ha : PE X a ta) (hb : PE X (.BoolOp .And (b :: rest) pos) tb) : PE X (.BoolOp .And (a :: b :: rest) pos) (tAndV ta tb) := by
  intro pins s σ H Q I h
  refine BoolOp_and (thn (ha pins s σ H _ I h) fun v s1 ⟨x, H1, I1, r1, q1⟩ => ?_)
  obtain ⟨c, rfl, q1⟩ := q1
  cases r1
  refine wpAny_truthy_bool ?_
  cases c with
  | true => exact hb pins s1 σ H1 Q I1 q1
  | false => exact ⟨.bl false, H1, I1, rfl, q1⟩
theorem pe_not (ha : PE X a ta) : PE X (.UnaryOp .Not a pos) (tNotV ta) := by
  intro pins s σ H Q I h
  refine UnaryOp_ (thn (ha pins s σ H _ I h) fun v s1 ⟨x, H1, I1, r1, q1⟩ => ?_)
  obtain ⟨c, rfl, q1⟩ := q1
  cases r1
  exact not_of (wpAny_truthy_bool ⟨.bl (!c), H1, I1, rfl, q1⟩)
end
end L2
namespace L2
open PySem PySem.Spec PyProof.Rows
noncomputable def SqL (K : PySem.W.Frag) (H : Hp) (a : Addr) (xs : List V) : Prop :=
  Rd H a (.lst xs) ∨
    ∃ (o : Obj) (its : Array Value) (n : Nat), K.lookup a = some o ∧ o.cls = .type "list" ∧ o.dict = none ∧ o.data = .seq its n ∧ its.size ≤ sizeLine ∧ Vals xs its.toList
noncomputable def SqT (K : PySem.W.Frag) (H : Hp) (a : Addr) (xs : List V) : Prop :=
  Rd H a (.tup xs) ∨
    ∃ (o : Obj) (its : Array Value) (n : Nat), K.lookup a = some o ∧ o.cls = .type "tuple" ∧ o.data = .seq its n ∧ its.size ≤ sizeLine ∧ Vals xs its.toList
noncomputable def absV : Value → Option V
  | .none => some .non
  | .bool b => some (.bl b)
  | .int i _ => some (.int i)
  | .str x _ => some (.str x)
  | .bytes b _ => some (.byt b)
  | .float b _ => some (.flt b)
  | .ref a => some (.ref a)
  | .type n => some (.ty n)
  | _ => none
theorem RelV.abs {x : V} {u : Value} (r : RelV x u) : absV u = some x := by
  cases x with
  | non => cases r; rfl
  | bl _ => cases r; rfl
  | int _ => obtain ⟨t, rfl⟩ := r; rfl
  | str _ => obtain ⟨t, rfl⟩ := r; rfl
  | byt _ => obtain ⟨t, rfl⟩ := r; rfl
  | flt _ => obtain ⟨t, rfl⟩ := r; rfl
  | ref _ => cases r; rfl
  | ty _ => cases r; rfl
theorem RelV.inj {x y : V} {u : Value} (r : RelV x u) (q : RelV y u) : x = y := Option.some.inj (r.abs.symm.trans q.abs)
theorem Vals.inj : ∀ {xs ys : List V} {us : List Value}, Vals xs us → Vals ys us → xs = ys
  | _, _, _, .nil, .nil => rfl
  | _, _, _, .cons r t, .cons r' t' => by rw [r.inj r', Vals.inj t t']
section
variable {X : Cx} {pins : List (Addr × Obj)} {σ : St} {H : Hp} {s : Shared} {a : Addr} {xs ys : List V}
theorem SqL.of {K : PySem.W.Frag} (h : H a = some (.lst xs)) : SqL K H a xs := .inl (.inl h)
theorem SqT.of {K : PySem.W.Frag} (h : H a = some (.tup xs)) : SqT K H a xs := .inl (.inl h)
theorem Inv.list (I : Inv X pins σ H s) (h : SqL X.K H a xs) : ∃ its : List Value, Vals xs its ∧ PlainL s.heap a its.toArray ∧ xs.length ≤ sizeLine := by
  rcases h with h | ⟨o, its, n, hk, hc, hd, hs, hz, r⟩
  · obtain ⟨z, its, n, r, e⟩ := h.ok I.hok
    exact ⟨its, r, ⟨_, n, e, rfl, rfl, rfl⟩, z⟩
  · refine ⟨its.toList, r, ⟨o, n, I.kIn a o hk, hc, hd, by simpa using hs⟩, ?_⟩
    have e := r.length
    simp only [Array.length_toList] at e
    (clear I hk hc hd hs r; omega)
theorem Inv.tuple (I : Inv X pins σ H s) (h : SqT X.K H a xs) : ∃ its : List Value, Vals xs its ∧ IsTup s.heap a its.toArray ∧ xs.length ≤ sizeLine := by
  rcases h with h | ⟨o, its, n, hk, hc, hs, hz, r⟩
  · obtain ⟨z, its, r, p⟩ := h.ok I.hok
    exact ⟨its, r, p, z⟩
  · refine ⟨its.toList, r, ⟨o, I.kIn a o hk, hc, n, by simpa using hs⟩, ?_⟩
    have e := r.length
    simp only [Array.length_toList] at e
    (clear I hk hc hs r; omega)
theorem Inv.list_inj (I : Inv X pins σ H s) (h : SqL X.K H a xs) (h' : SqL X.K H a ys) : xs = ys := by
  obtain ⟨its, r, ⟨o, n, e, _, _, d⟩, _⟩ := I.list h
  obtain ⟨its', r', ⟨o', n', e', _, _, d'⟩, _⟩ := I.list h'
  rw [e] at e'; cases e'
  rw [d] at d'
  injection d' with d1 _
  have : its = its' := by simpa using congrArg Array.toList d1
  subst this
  exact r.inj r'
theorem Inv.tuple_inj (I : Inv X pins σ H s) (h : SqT X.K H a xs) (h' : SqT X.K H a ys) : xs = ys := by
  obtain ⟨its, r, ⟨o, e, _, n, d⟩, _⟩ := I.tuple h
  obtain ⟨its', r', ⟨o', e', _, n', d'⟩, _⟩ := I.tuple h'
  rw [e] at e'; cases e'
  rw [d] at d'
  injection d' with d1 _
  have : its = its' := by simpa using congrArg Array.toList d1
  subst this
  exact r.inj r'
end
noncomputable abbrev Cx.wish (X : Cx) (E : Value → Shared → Prop) : Cx := { X with xe := E }
noncomputable abbrev Cx.nox (X : Cx) : Cx := X.wish fun _ _ => False
theorem Cx.Ok.wish {X : Cx} (ok : X.Ok) (E : Value → Shared → Prop) : (X.wish E).Ok :=
  ⟨ok.mod, ok.kind, ok.glob, ok.blt, ok.above, ok.inj, ok.has, ok.cab, ok.hd, ok.frames, ok.stk, ok.exf, ok.bs, ok.bsz, ok.noex, ok.exfs, ok.funs, ok.frf⟩
theorem Cx.Ok.unwish {X : Cx} {E : Value → Shared → Prop} (ok : (X.wish E).Ok) : X.Ok :=
  ⟨ok.mod, ok.kind, ok.glob, ok.blt, ok.above, ok.inj, ok.has, ok.cab, ok.hd, ok.frames, ok.stk, ok.exf, ok.bs, ok.bsz, ok.noex, ok.exfs, ok.funs, ok.frf⟩
section
variable {X : Cx} {pins : List (Addr × Obj)} {σ : St} {H : Hp} {s : Shared} {E : Value → Shared → Prop}
theorem Inv.wish (I : Inv X pins σ H s) (E : Value → Shared → Prop) : Inv (X.wish E) pins σ H s := ⟨I.ok.wish E, I.os, I.bare, I.base, I.loc, I.cell, I.free, I.freeC, I.pin, I.hok, I.len⟩
theorem Inv.unwish (I : Inv (X.wish E) pins σ H s) : Inv X pins σ H s := ⟨I.ok.unwish, I.os, I.bare, I.base, I.loc, I.cell, I.free, I.freeC, I.pin, I.hok, I.len⟩
theorem SP.unwish {D : Ends} {f : Flow} {s' : Shared} (h : SP (X.wish E) pins D f s') : SP X pins D f s' := by
  cases f with
  | next => obtain ⟨σ', H', I, q⟩ := h; exact ⟨σ', H', I.unwish, q⟩
  | brk => obtain ⟨σ', H', I, q⟩ := h; exact ⟨σ', H', I.unwish, q⟩
  | cont => obtain ⟨σ', H', I, q⟩ := h; exact ⟨σ', H', I.unwish, q⟩
  | ret u => obtain ⟨v, σ', H', I, r, q⟩ := h; exact ⟨v, σ', H', I.unwish, r, q⟩
theorem PE.nox {e : Expr} {t : TE} (h : PE X.nox e t) : PE X e t := fun pins s σ H Q I hw =>
  wpAny_mono (h pins s σ H Q (I.wish _) hw) (fun _ _ ⟨v, H', I', r, q⟩ => ⟨v, H', I'.unwish, r, q⟩) fun _ _ z => False.elim z
theorem PSs.nox {st : List Stmt} {t : TS} (h : PSs X.nox st t) : PSs X st t := fun pins s σ H D I hw =>
  wpAny_mono (h pins s σ H D (I.wish _) hw) (fun _ _ q => q.unwish) fun _ _ z => False.elim z
end
section
variable {X : Cx} {st : Stmt} {rest : List Stmt} {t u : TS} {e : Expr} {te : TE} {pos : Pos}
noncomputable def tNext : TS := fun D σ H => D.nx σ H
noncomputable def tSeq (t u : TS) : TS := fun D σ H => t { D with nx := u D } σ H
theorem pss_nil : PSs X [] tNext := fun _ _ σ H _ I h => wpAny_execs_nil ⟨σ, H, I, h⟩
theorem pss_cons (h1 : PS X st t) (h2 : PSs X rest u) : PSs X (st :: rest) (tSeq t u) := by
  intro pins s σ H D I h
  refine wpAny_execs_cons (thn (h1 pins s σ H { D with nx := u D } I h) fun f s1 q => ?_)
  cases f with
  | next =>
    obtain ⟨σ', H', I', q⟩ := q
    exact h2 pins s1 σ' H' D I' q
  | ret v => exact q
  | brk => exact q
  | cont => exact q
theorem Inv.quiet {pins : List (Addr × Obj)} {σ : St} {H : Hp} {s : Shared} (I : Inv X pins σ H s) : interactive X.env = false := by simp [interactive, I.ok.kind]
noncomputable def tDrop (te : TE) : TS := fun D σ H => te σ H fun _ H1 => D.nx σ H1
theorem ps_expr (he : PE X e te) (hs : swapsWith e none pos.line X.env = pure false := by rfl) : PS X (.Expr e pos) (tDrop te) := by
  intro pins s σ H D I h
  exact wpAny_Expr_any (thn (he pins s σ H _ I h) fun v s1 ⟨x, H1, I1, r1, q1⟩ => ⟨σ, H1, I1, q1⟩) I.quiet hs
noncomputable def tRet (te : TE) : TS := fun D σ H => te σ H D.rt
theorem ps_ret (he : PE X e te) : PS X (.Return (some e) pos) (tRet te) := by
  intro pins s σ H D I h
  exact wpAny_Return_some (thn (he pins s σ H _ I h) fun v s1 ⟨x, H1, I1, r1, q1⟩ => ⟨x, σ, H1, I1, r1, q1⟩)
noncomputable def tIfS (c : TT) (t u : TS) : TS := fun D σ H => c σ H fun b H1 => if b = true then t D σ H1 else u D σ H1
theorem ps_if {c : Expr} {a b : List Stmt} {tc : TT} (hc : PT X c tc) (ha : PSs X a t) (hb : PSs X b u) : PS X (.If c a b pos) (tIfS tc t u) := by
  intro pins s σ H D I h
  refine wpAny_If (thn (hc pins s σ H _ I h) fun d s1 ⟨H1, I1, q1⟩ => ?_)
  cases d with
  | true => exact ha pins s1 σ H1 D I1 q1
  | false => exact hb pins s1 σ H1 D I1 q1
end
noncomputable abbrev TG := V → St → Hp → (St → Hp → Prop) → Prop
noncomputable abbrev TGs := List V → St → Hp → (St → Hp → Prop) → Prop
noncomputable def PG (X : Cx) (target : Expr) (t : TG) : Prop :=
  ∀ (pins : List (Addr × Obj)) (s : Shared) (σ : St) (H : Hp) (v : V) (u : Value) (Q : St → Hp → Prop), Inv X pins σ H s → RelV v u → t v σ H Q →
    wpAny (model X.prog X.w) X.A (assign target X.env u) (fun _ s' => ∃ σ' H', Inv X pins σ' H' s' ∧ Q σ' H') X.xe s
noncomputable def PGs (X : Cx) (ts : List Expr) (t : TGs) : Prop :=
  ∀ (pins : List (Addr × Obj)) (s : Shared) (σ : St) (H : Hp) (vs : List V) (us : List Value) (Q : St → Hp → Prop), Inv X pins σ H s → Vals vs us → t vs σ H Q →
    wpAny (model X.prog X.w) X.A (assignInOrder ((assignEach ts X.env).map (·.2)) us) (fun _ s' => ∃ σ' H', Inv X pins σ' H' s' ∧ Q σ' H') X.xe s
section
variable {X : Cx} {pos : Pos}
noncomputable def gName (i : Nat) : TG := fun v σ H Q => Q (σ.set i (some v)) H
theorem pg_name {i : Nat} {x : Str} (hN : X.N.Nodup) (hi : X.N[i]? = some x) (hx : Loc X.env.scope x) (hf : X.fn x = true ∨ X.env.scope.names.lookup x = some .local := by first | exact .inl rfl | exact .inr rfl | assumption) : PG X (.Name x pos) (gName i) := by
  intro pins s σ H v u Q I r h
  exact wpAny_assign_Name (store_ok I hN hi hx r (fun s' I' => ⟨_, H, I', h⟩) hf)
noncomputable def gNil : TGs := fun vs σ H Q => vs = [] ∧ Q σ H
noncomputable def gCons (t : TG) (u : TGs) : TGs := fun vs σ H Q => ∃ v r, vs = v :: r ∧ t v σ H fun σ' H' => u r σ' H' Q
theorem pgs_nil : PGs X [] gNil := by
  intro pins s σ H vs us Q I r h
  obtain ⟨e, h⟩ := h
  subst e
  cases r
  exact assignInOrder_nil ⟨σ, H, I, h⟩
theorem pgs_cons {e : Expr} {es : List Expr} {t : TG} {u : TGs} (h1 : PG X e t) (h2 : PGs X es u)
    (hs : (assignEach (e :: es) X.env).map (·.2) = assign e X.env :: (assignEach es X.env).map (·.2) := by rfl) : PGs X (e :: es) (gCons t u) := by
  intro pins s σ H vs us Q I r h
  obtain ⟨v, vr, e1, h⟩ := h
  subst e1
  cases r with
  | cons r rr =>
    rw [hs]
    refine assignInOrder_cons (thn (h1 pins s σ H _ _ _ I r h) fun _ s1 ⟨σ1, H1, I1, q1⟩ => ?_)
    exact h2 pins s1 σ1 H1 _ _ Q I1 rr q1
noncomputable def gTup (K : PySem.W.Frag) (n : Nat) (t : TGs) : TG := fun v σ H Q => ∃ a xs, v = .ref a ∧ SqT K H a xs ∧ xs.length = n ∧ t xs σ H Q
theorem pg_tup {es : List Expr} {k : Nat} {t : TGs} {n : Nat} (hc : X.calm = true) (h : PGs X es t)
    (hn : (assignEach es X.env).length = n := by rfl) (hst : (assignEach es X.env).findIdx? (·.1) = none := by rfl) : PG X (.Tuple es k pos) (gTup X.K n t) := by
  intro pins s σ H v u Q I r hw
  obtain ⟨a, xs, e1, hq, hl, hw⟩ := hw
  subst e1
  cases r
  obtain ⟨its, rv, ht, hz⟩ := I.tuple hq
  refine assign_Tuple_tuple (I.ok.hd hc) ht (by simp [hn, ← hl, rv.length]) hst fun h' hx => ?_
  have I1 : Inv X pins σ H { s with heap := h' } := I.kept (t' := s.toks) fun b o e => hx b o (Nat.ne_of_lt (Heap.lt_size e)) e
  exact h pins _ σ H xs _ Q I1 (by simpa using rv) hw
noncomputable def tAsg (te : TE) (g : TG) : TS := fun D σ H => te σ H fun x H1 => g x σ H1 D.nx
theorem ps_asg {tg e : Expr} {te : TE} {g : TG} (he : PE X e te) (hg : PG X tg g) (hs : swapsWithSole [tg] e pos.line X.env = pure false := by rfl) (hw : swappedStores [tg] e X.env = pure none := by rfl)
    (h1 : (assignEach [tg] X.env).map (·.2) = [assign tg X.env] := by rfl) : PS X (.Assign [tg] e pos) (tAsg te g) := by
  intro pins s σ H D I h
  refine wpAny_Assign_stores (thn (he pins s σ H _ I h) fun v s1 ⟨x, H1, I1, r1, q1⟩ => ?_) hs hw
  rw [h1]
  exact thn (hg pins s1 σ H1 x v _ I1 r1 q1) fun _ s2 q => q
theorem ps_set {i : Nat} {x : Str} {e : Expr} {te : TE} {pos' : Pos} (hN : X.N.Nodup) (hi : X.N[i]? = some x) (hx : Loc X.env.scope x) (he : PE X e te) (hs : swapsWith e (some (.Name x pos')) pos.line X.env = pure false := by rfl) (hf : X.fn x = true ∨ X.env.scope.names.lookup x = some .local := by first | exact .inl rfl | exact .inr rfl | assumption) :
    PS X (.Assign [.Name x pos'] e pos) (tAsg te (gName i)) := by
  intro pins s σ H D I h
  refine wpAny_Assign_Name (thn (he pins s σ H _ I h) fun v s1 ⟨y, H1, I1, r1, q1⟩ => ?_) hs
  exact store_ok I1 hN hi hx r1 (fun s2 I2 => ⟨_, H1, I2, q1⟩) hf
end
section
variable {X : Cx} {pos : Pos}
noncomputable def tWhile (c : TT) (tb : TS) : TS := fun D σ H => ∃ W : Nat → St → Hp → Prop, (∃ m, W m σ H) ∧ ∀ m σ H, W m σ H →
  c σ H fun b H1 => if b = true then ∃ N : St → Hp → Prop, (∀ σ' H', N σ' H' → ∃ m', m' < m ∧ W m' σ' H') ∧ tb { D with nx := N, ct := N, bk := D.nx } σ H1 else D.nx σ H1
theorem ps_while {c : Expr} {body : List Stmt} {tc : TT} {tb : TS} (hp : PassesOwn (model X.prog X.w) X.A X.env X.xe) (hc : PT X c tc) (hb : PSs X body tb) : PS X (.While c body [] pos) (tWhile tc tb) := by
  intro pins s σ H D I h
  obtain ⟨W, ⟨m0, w0⟩, turn⟩ := h
  refine wpAny_While (codeAny_whileLoop (fun n s' => ∃ σ' H', Inv X pins σ' H' s' ∧ W n σ' H') ?_ m0 ⟨σ, H, I, w0⟩)
  rintro n s1 ⟨σ1, H1, I1, w1⟩
  refine wpAny_passesOwn hp (thn (hc pins s1 σ1 H1 _ I1 (turn n σ1 H1 w1)) fun b s2 ⟨H2, I2, q2⟩ => ?_)
  cases b with
  | true =>
    obtain ⟨N, hN, q2⟩ := q2
    rw [if_pos rfl]
    refine wpAny_passesOwn hp (thn (hb pins s2 σ1 H2 _ I2 q2) fun f s3 q3 => ?_)
    cases f with
    | next =>
      obtain ⟨σ3, H3, I3, n3⟩ := q3
      obtain ⟨m', hm, w3⟩ := hN σ3 H3 n3
      exact ⟨m', hm, σ3, H3, I3, w3⟩
    | cont =>
      obtain ⟨σ3, H3, I3, n3⟩ := q3
      obtain ⟨m', hm, w3⟩ := hN σ3 H3 n3
      exact ⟨m', hm, σ3, H3, I3, w3⟩
    | brk => exact q3
    | ret v => exact q3
  | false =>
    rw [if_neg Bool.false_ne_true]
    exact wpAny_execs_nil ⟨σ1, H2, I2, q2⟩
end
structure It where
  go : Nat → Hp → Prop
  yld : Nat → Hp → V → Hp → Prop
  stop : Nat → Hp → Prop
noncomputable def FpOk (X : Cx) (pins : List (Addr × Obj)) (H : Hp) (b : Addr) : Prop :=
  H b = none ∧ b ≠ X.env.locals ∧ b ∉ X.fs ∧ (b ∈ X.ex ∨ X.s₀.heap.objs.size ≤ b) ∧ (∀ x c, X.env.cells.lookup x = some c → c ≠ b) ∧ ∀ p ∈ X.pn ++ pins, p.1 ≠ b
theorem Inv.fpOk {X : Cx} {pins : List (Addr × Obj)} {σ : St} {H H' : Hp} {s : Shared} {b : Addr} (I : Inv X pins σ H s) (hb : s.heap.objs.size ≤ b) (hn : H' b = none) : FpOk X pins H' b := by
  refine ⟨hn, Nat.ne_of_gt (Nat.lt_of_lt_of_le I.lt hb), I.nofs hb, .inr (Nat.le_trans I.sz hb), fun x c e z => ?_, fun p hp z => ?_⟩
  · obtain ⟨v, q⟩ := I.cell x c e
    exact absurd (Nat.lt_of_lt_of_le q.lt (by rw [z]; exact hb)) (Nat.lt_irrefl _)
  · exact absurd (Nat.lt_of_lt_of_le (Heap.lt_size (I.pin p hp).1) (by rw [z]; exact hb)) (Nat.lt_irrefl _)
structure Turn (P : Program) (w : World) (K : PySem.W.Frag) (tg : Expr) (J : It) (fp : List Addr) (it : Addr) (tn : Nat → Heap → Prop) : Prop where
  mem : it ∈ fp
  obj : ∀ i h, tn i h → ∀ b ∈ fp, ∃ o, h.get? b = some o ∧ ∀ v, o.data ≠ .cell v
  keep : ∀ i h h', tn i h → (∀ b ∈ fp, ∀ o, h.get? b = some o → h'.get? b = some o) → tn i h'
  item : ∀ (X : Cx), X.prog = P → X.w = w → X.K = K → X.calm = true → ∀ (i : Nat) (pins : List (Addr × Obj)) (s : Shared) (σ : St) (H : Hp) (E : Value → Shared → Prop), Inv X pins σ H s → (∀ b ∈ fp, FpOk X pins H b) → tn i s.heap → J.go i H →
    wpAny (model P w) X.A (pyNext (.ref it)) (fun r s1 => ∃ u, r = some u ∧
      wpAny (model P w) X.A (letOwnedTupleGo tg (.ref it) u) (fun _ s2 => ∃ x H', Inv X pins σ H' s2 ∧ RelV x u ∧ J.yld i H x H' ∧ tn (i + 1) s2.heap ∧ ∀ b ∈ fp, H' b = none) E s1) E s
  done : ∀ (X : Cx), X.prog = P → X.w = w → X.K = K → X.calm = true → ∀ (i : Nat) (pins : List (Addr × Obj)) (s : Shared) (σ : St) (H : Hp) (E : Value → Shared → Prop), Inv X pins σ H s → (∀ b ∈ fp, FpOk X pins H b) → tn i s.heap → J.stop i H →
    wpAny (model P w) X.A (pyNext (.ref it)) (fun r s1 => r = none ∧ Inv X pins σ H s1) E s
  self : ∀ (A : Around) (i : Nat) (s : Shared) (Q : Value → Shared → Prop) (E : Value → Shared → Prop), tn i s.heap → Q (.ref it) s → wpAny (model P w) A (pyIter (.ref it)) Q E s
noncomputable abbrev TI := St → Hp → (It → Hp → Prop) → Prop
noncomputable def PIE (X : Cx) (pins : List (Addr × Obj)) (σ : St) (tg : Expr) (R : It → Hp → Prop) (itv : Value) (s2 : Shared) : Prop :=
  ∃ (it : Addr) (fp : List Addr) (tn : Nat → Heap → Prop) (J : It) (H' : Hp), itv = .ref it ∧ Inv X pins σ H' s2 ∧ Turn X.prog X.w X.K tg J fp it tn ∧ tn 0 s2.heap ∧ (∀ b ∈ fp, FpOk X pins H' b) ∧ R J H'
noncomputable def PI (X : Cx) (tg iter : Expr) (wi : TI) : Prop :=
  ∀ (pins : List (Addr × Obj)) (s : Shared) (σ : St) (H : Hp) (R : It → Hp → Prop), Inv X pins σ H s → wi σ H R →
    wpAny (model X.prog X.w) X.A (eval iter X.env) (fun v s1 => wpAny (model X.prog X.w) X.A (pyIter v) (PIE X pins σ tg R) X.xe s1) X.xe s
theorem go_of {M : Model} {A : Around} {E : Value → Shared → Prop} {s : Shared} {tg : Expr} {it : Addr} {u : Value} {o : Obj} {n : String} {vs : Array Value} {Q : Unit → Shared → Prop} (ho : s.heap.get? it = some o) (hc : o.cls = .type n) (hd : o.data = .fields vs)
    (hn : ["enumerate", "zip", "dict_itemiterator", "dict_reverseitemiterator", "odict_iterator", "itertools.zip_longest", "itertools.pairwise"].contains n = false) (hQ : Q () s) : wpAny M A (letOwnedTupleGo tg (.ref it) u) Q E s := by
  unfold letOwnedTupleGo
  cases tg <;> first
    | exact wpAny_pure hQ
    | (cases u <;> first
        | exact wpAny_pure hQ
        | (refine wpAny_bind (wpAny_load ho ?_)
           rw [hc, hd]
           show wpAny M A (if (["enumerate", "zip", "dict_itemiterator", "dict_reverseitemiterator", "odict_iterator", "itertools.zip_longest", "itertools.pairwise"].contains n && vs[0]? == some (rawInt _)) = true then _ else _) Q E s
           rw [if_neg (by intro h; rw [hn, Bool.false_and] at h; cases h)]
           exact wpAny_pure hQ))
noncomputable def Itl (K : PySem.W.Frag) (a : Addr) : It :=
  ⟨fun i H => ∃ xs x, SqL K H a xs ∧ xs[i]? = some x, fun i H x H' => H' = H ∧ ∀ xs, SqL K H a xs → xs[i]? = some x, fun i H => ∃ xs, SqL K H a xs ∧ xs.length ≤ i⟩
noncomputable def Itt (K : PySem.W.Frag) (a : Addr) : It :=
  ⟨fun i H => ∃ xs x, SqT K H a xs ∧ xs[i]? = some x, fun i H x H' => H' = H ∧ ∀ xs, SqT K H a xs → xs[i]? = some x, fun i H => ∃ xs, SqT K H a xs ∧ xs.length ≤ i⟩
noncomputable def Itr (lo : Int) (n : Nat) : It := ⟨fun i _ => i < n, fun i H x H' => H' = H ∧ x = .int (lo + i), fun i _ => n ≤ i⟩
theorem turn_list {P : Program} {w : World} {K : PySem.W.Frag} {tg : Expr} (a it : Addr) : Turn P w K tg (Itl K a) [it] it (fun i h => h.IsListIter it a i) where
  mem := by simp
  obj := fun i h st b hb => by
    have e : b = it := by simpa using hb
    subst e
    obtain ⟨o, e, c, d⟩ := st
    exact ⟨o, e, fun v z => by rw [d] at z; cases z⟩
  keep := fun i h h' st k => st.at fun o e => k it (by simp) o e
  item := by
    intro X hP hw hK hc i pins s σ H E I hf st hg
    subst hP hw hK
    obtain ⟨xs, x, hq, hx⟩ := hg
    obtain ⟨its, rv, p, hz⟩ := I.list hq
    obtain ⟨u, hu, ru⟩ := rv.get hx
    obtain ⟨f0, f1, f2, f3, f4, f5⟩ := hf it (by simp)
    refine wpAny_pyNext_list_item st p.isList (x := u) (by simpa using hu) fun h' st' sb => ?_
    have I1 : Inv X pins σ H { s with heap := h' } := I.turned (t' := s.toks) (fun b o hb e => (sb.2 b hb).trans e) f0 f1 f3 f4 f5
    obtain ⟨o, e, c, d⟩ := id st'
    exact ⟨u, rfl, go_of (s := { s with heap := h' }) e c d (by decide) ⟨x, H, I1, ru, ⟨rfl, fun ys hy => by rw [I.list_inj hy hq]; exact hx⟩, st', fun b hb => (hf b hb).1⟩⟩
  done := by
    intro X hP hw hK hc i pins s σ H E I hf st hg
    subst hP hw hK
    obtain ⟨xs, hq, hx⟩ := hg
    obtain ⟨its, rv, p, hz⟩ := I.list hq
    obtain ⟨f0, f1, f2, f3, f4, f5⟩ := hf it (by simp)
    have hl := rv.length
    exact wpAny_pyNext_list_end (I.ok.hd hc) st p.isList (by simp; (clear hc I hf st hq rv p hz f0 f1 f2 f3 f4 f5; omega)) fun h' eb => ⟨rfl, I.turned (t' := s.toks) (fun b o hb e => eb b o hb e) f0 f1 f3 f4 f5⟩
  self := fun _ _ _ _ _ st h => wpAny_pyIter_listiter st h
theorem turn_tuple {P : Program} {w : World} {K : PySem.W.Frag} {tg : Expr} (a it : Addr) : Turn P w K tg (Itt K a) [it] it (fun i h => h.IsTupleIter it a i) where
  mem := by simp
  obj := fun i h st b hb => by
    have e : b = it := by simpa using hb
    subst e
    obtain ⟨o, e, c, d⟩ := st
    exact ⟨o, e, fun v z => by rw [d] at z; cases z⟩
  keep := fun i h h' st k => st.at fun o e => k it (by simp) o e
  item := by
    intro X hP hw hK hc i pins s σ H E I hf st hg
    subst hP hw hK
    obtain ⟨xs, x, hq, hx⟩ := hg
    obtain ⟨its, rv, p, hz⟩ := I.tuple hq
    obtain ⟨u, hu, ru⟩ := rv.get hx
    obtain ⟨f0, f1, f2, f3, f4, f5⟩ := hf it (by simp)
    refine wpAny_pyNext_tuple_item st (show s.heap.IsTuple a its.toArray from p) (x := u) (by simpa using hu) fun h' st' sb => ?_
    have I1 : Inv X pins σ H { s with heap := h' } := I.turned (t' := s.toks) (fun b o hb e => (sb.2 b hb).trans e) f0 f1 f3 f4 f5
    obtain ⟨o, e, c, d⟩ := id st'
    exact ⟨u, rfl, go_of (s := { s with heap := h' }) e c d (by decide) ⟨x, H, I1, ru, ⟨rfl, fun ys hy => by rw [I.tuple_inj hy hq]; exact hx⟩, st', fun b hb => (hf b hb).1⟩⟩
  done := by
    intro X hP hw hK hc i pins s σ H E I hf st hg
    subst hP hw hK
    obtain ⟨xs, hq, hx⟩ := hg
    obtain ⟨its, rv, p, hz⟩ := I.tuple hq
    obtain ⟨f0, f1, f2, f3, f4, f5⟩ := hf it (by simp)
    have hl := rv.length
    exact wpAny_pyNext_tuple_end (I.ok.hd hc) st (show s.heap.IsTuple a its.toArray from p) (by simp; (clear hc I hf st hq rv p hz f0 f1 f2 f3 f4 f5; omega)) fun h' eb => ⟨rfl, I.turned (t' := s.toks) (fun b o hb e => eb b o hb e) f0 f1 f3 f4 f5⟩
  self := fun _ _ _ _ _ st h => wpAny_pyIter_tupleiter st h
theorem turn_range {P : Program} {w : World} {K : PySem.W.Frag} {tg : Expr} (it : Addr) (lo : Int) (n : Nat) : Turn P w K tg (Itr lo n) [it] it (fun i h => IsRangeIter h it (lo + (i : Nat) * 1) ((n : Int) - (i : Nat)) 1) where
  mem := by simp
  obj := fun i h st b hb => by
    have e : b = it := by simpa using hb
    subst e
    exact ⟨_, st, fun v z => by
      have z' : Data.fields _ = Data.cell v := z
      cases z'⟩
  keep := fun i h h' st k => k it (by simp) _ st
  item := by
    intro X hP hw hK hc i pins s σ H E I hf st hg
    subst hP hw hK
    obtain ⟨f0, f1, f2, f3, f4, f5⟩ := hf it (by simp)
    have W := Walks.range (prog := X.prog) (w := X.w) (I.ok.hd hc) it lo 1 n
    refine W.item i s _ _ hg st fun v h' tk hv st' kk => ?_
    obtain ⟨t, rfl⟩ := hv
    have I1 : Inv X pins σ H { s with heap := h', toks := tk } := I.turned (fun b o hb e => kk b o (by simpa using hb) e) f0 f1 f3 f4 f5
    refine ⟨_, rfl, go_of (s := { s with heap := h', toks := tk }) (n := "range_iterator") st' rfl rfl (by decide) ⟨.int (lo + i), H, I1, ⟨t, ?_⟩, ⟨rfl, rfl⟩, st', fun b hb => (hf b hb).1⟩⟩
    rw [Int.mul_one]
  done := by
    intro X hP hw hK hc i pins s σ H E I hf st hg
    subst hP hw hK
    obtain ⟨f0, f1, f2, f3, f4, f5⟩ := hf it (by simp)
    exact wpAny_pyNext_range_end (I.ok.hd hc) st (by have : n ≤ i := hg; (clear hc I hf st hg f0 f1 f2 f3 f4 f5; omega)) fun h' eb => ⟨rfl, I.turned (t' := s.toks) (fun b o hb e => eb b o hb e) f0 f1 f3 f4 f5⟩
  self := fun _ _ _ _ _ st h => wpAny_pyIter_rangeiter st h
end L2
namespace L2
open PySem PySem.Spec PyProof.Rows
section
variable {X : Cx} {tg : Expr}
theorem range_it {pins : List (Addr × Obj)} {σ : St} {H : Hp} {s : Shared} {R : It → Hp → Prop} {E : Value → Shared → Prop} {lo hi : Int} {t u v : Tok} {tk : Nat} (I : Inv X pins σ H s) (h1 : -(2 ^ 62) ≤ lo) (h2 : lo < 2 ^ 62) (h3 : -(2 ^ 62) ≤ hi) (h4 : hi < 2 ^ 62)
    (q : R (Itr lo (hi - lo).toNat) H) : wpAny (model X.prog X.w) X.A (pyIter (.ref s.heap.objs.size)) (PIE X pins σ tg R) E { s with heap := s.heap.push { cls := .type "range", data := .fields #[.int lo t, .int hi u, .int 1 v] }, toks := tk } := by
  refine wpAny_pyIter_range (IsRange.new ..) (small_one h1 h2 h3 h4) ?_
  have I1 : Inv X pins σ H { s with heap := s.heap.push { cls := .type "range", data := .fields #[.int lo t, .int hi u, .int 1 v] }, toks := tk } := I.kept fun b o e => Heap.get?_push_of_some _ e
  refine ⟨(s.heap.push { cls := .type "range", data := .fields #[.int lo t, .int hi u, .int 1 v] }).objs.size, [(s.heap.push { cls := .type "range", data := .fields #[.int lo t, .int hi u, .int 1 v] }).objs.size], _, _, H, rfl,
    I1.kept (t' := tk) fun b o e => Heap.get?_push_of_some _ e, turn_range _ lo (hi - lo).toNat, ?_, fun b hb => ?_, q⟩
  · have e1 : lo + ((0 : Nat) : Int) * 1 = lo := by simp
    have e2 : (((hi - lo).toNat : Nat) : Int) - ((0 : Nat) : Int) = Builtin.Range.rangeSize lo hi 1 := by rw [rangeSize_one]; split <;> (clear I h1 h2 h3 h4 q I1 e1; omega)
    show IsRangeIter _ _ (lo + ((0 : Nat) : Int) * 1) ((((hi - lo).toNat : Nat) : Int) - ((0 : Nat) : Int)) 1
    rw [e1, e2]
    exact Heap.get?_push_size _ rfl
  · have e : b = (s.heap.push { cls := .type "range", data := .fields #[.int lo t, .int hi u, .int 1 v] }).objs.size := by simpa using hb
    subst e
    exact I1.fpOk (Nat.le_refl _) (I1.hok.fresh (Nat.le_refl _))
noncomputable def iRng1 (ta : TA) : TI := fun σ H R => ta σ H fun vs H1 => ∃ j : Int, vs = [.int j] ∧ -(2 ^ 62) ≤ j ∧ j < 2 ^ 62 ∧ R (Itr 0 j.toNat) H1
theorem pi_range1 {a : Expr} {ta : TA} {p pos : Pos} (hg : Gl X "range") (hm : X.mg "range" = none) (ha : PA X [a] ta) (hs : starEach [a] X.env = [(false, eval a X.env)] := by rfl) : PI X tg (.Call (.Name "range" p) [a] [] pos) (iRng1 ta) := by
  intro pins s σ H R I h
  refine Call_ (ld_blt I hg hm boot_range (PyProof.Rows.callWith_type1 (thn (ha pos pins s σ H _ I h) fun us s1 ⟨vs, H1, I1, r1, q1⟩ => ?_) hs rfl))
  obtain ⟨j, e, q1, q2, q⟩ := q1
  subst e
  cases r1 with
  | cons r rr =>
    cases rr
    obtain ⟨t, rfl⟩ := r
    exact call_range_1 (range_it I1 (by (clear hg hm ha hs I h I1 q1 q2 q; omega)) (by (clear hg hm ha hs I h I1 q1 q2 q; omega)) q1 q2 (by simpa using q))
noncomputable def tFor (wi : TI) (g : TG) (tb : TS) : TS := fun D σ H => wi σ H fun J H1 => ∃ W : Nat → Nat → St → Hp → Prop, (∃ m, W 0 m σ H1) ∧ ∀ i m σ H, W i m σ H →
  (J.stop i H ∧ D.nx σ H) ∨ (J.go i H ∧ ∃ N : St → Hp → Prop, (∀ σ' H', N σ' H' → ∃ m', m' < m ∧ W (i + 1) m' σ' H') ∧ ∀ x H', J.yld i H x H' → g x σ H' fun σ2 H2 => tb { D with nx := N, ct := N, bk := D.nx } σ2 H2)
noncomputable def pinsAt (fp : List Addr) (h : Heap) : List (Addr × Obj) := fp.filterMap fun b => (h.get? b).map fun o => (b, o)
theorem mem_pinsAt {fp : List Addr} {h : Heap} {b : Addr} {o : Obj} (hb : b ∈ fp) (e : h.get? b = some o) : (b, o) ∈ pinsAt fp h := List.mem_filterMap.mpr ⟨b, hb, by rw [e]; rfl⟩
theorem of_pinsAt {fp : List Addr} {h : Heap} {p : Addr × Obj} (hp : p ∈ pinsAt fp h) : p.1 ∈ fp ∧ h.get? p.1 = some p.2 := by
  obtain ⟨b, hb, e⟩ := List.mem_filterMap.mp hp
  cases q : h.get? b with
  | none => rw [q] at e; cases e
  | some o =>
    rw [q] at e
    have e' : (b, o) = p := Option.some.inj e
    subst e'
    exact ⟨hb, q⟩
theorem Inv.pinned {pins : List (Addr × Obj)} {σ : St} {H : Hp} {s : Shared} {fp : List Addr} (I : Inv X pins σ H s) (hf : ∀ b ∈ fp, FpOk X pins H b) (ho : ∀ b ∈ fp, ∃ o, s.heap.get? b = some o ∧ ∀ v, o.data ≠ .cell v) : Inv X (pins ++ pinsAt fp s.heap) σ H s :=
  I.pins_of fun p hp => (List.mem_append.mp hp).elim (fun z => I.pin p (List.mem_append_right _ z)) fun z => by
    obtain ⟨hb, e⟩ := of_pinsAt z
    obtain ⟨f0, f1, f2, _⟩ := hf p.1 hb
    obtain ⟨o, e', d⟩ := ho p.1 hb
    rw [e] at e'; cases e'
    exact ⟨e, f0, f1, f2, d⟩
theorem Inv.unpinned {pins pl : List (Addr × Obj)} {σ : St} {H : Hp} {s : Shared} (I : Inv X (pins ++ pl) σ H s) : Inv X pins σ H s := I.pins_of fun p hp => I.pin p (List.mem_append_right _ (List.mem_append_left _ hp))
theorem ps_for {iter : Expr} {body : List Stmt} {wi : TI} {g : TG} {tb : TS} {pos : Pos} (hp : PassesOwn (model X.prog X.w) X.A X.env X.xe) (hc : X.calm = true) (hi : PI X tg iter wi) (hg : PG X tg g) (hb : PSs X body tb)
    (hs : ∀ x, foldedSetIterable iter X.env x = pure x := by intro _; rfl) : PS X (.For tg iter body [] pos) (tFor wi g tb) := by
  intro pins s σ H D I h
  refine wpAny_For (thn (hi pins s σ H _ I h) fun v s1 h1 => thn h1 fun itv s2 h2 => ?_) hs
  obtain ⟨it, fp, tn, J, H2, e, I2, T, st2, f2, W, ⟨m0, w0⟩, turn⟩ := h2
  subst e
  -- what stays true of the iterator's objects through the loop
  have stat : ∀ {H' : Hp}, (∀ b ∈ fp, H' b = none) → ∀ b ∈ fp, FpOk X pins H' b := fun hn b hb => ⟨hn b hb, (f2 b hb).2⟩
  refine codeAny_forLoop_any (fun n s' => ∃ i σ' H', Inv X pins σ' H' s' ∧ tn i s'.heap ∧ (∀ b ∈ fp, H' b = none) ∧ W i n σ' H') ?_ m0 ⟨0, σ, H2, I2, st2, fun b hb => (f2 b hb).1, w0⟩
  rintro n s3 ⟨i, σ3, H3, I3, st3, fr3, w3⟩
  rcases turn i n σ3 H3 w3 with ⟨stop, qn⟩ | ⟨go, N, hN, step⟩
  · refine wpAny_passesOwn hp (thn (T.done X rfl rfl rfl hc i pins s3 σ3 H3 X.xe I3 (stat fr3) st3 stop) fun r s4 ⟨hr, I4⟩ => ?_)
    subst hr
    exact wpAny_execs_nil ⟨σ3, H3, I4, qn⟩
  · refine wpAny_passesOwn hp (thn (T.item X rfl rfl rfl hc i pins s3 σ3 H3 X.xe I3 (stat fr3) st3 go) fun r s4 ⟨u, hr, h4⟩ => ?_)
    subst hr
    refine wpAny_passesOwn hp (thn h4 fun _ s5 ⟨x, H5, I5, r5, y5, st5, fr5⟩ => ?_)
    have I5' := I5.pinned (stat fr5) (T.obj _ _ st5)
    refine wpAny_passesOwn hp (thn (hg _ s5 σ3 H5 x u _ I5' r5 (step x H5 y5)) fun _ s6 ⟨σ6, H6, I6, q6⟩ => ?_)
    refine wpAny_passesOwn hp (thn (hb _ s6 σ6 H6 _ I6 q6) fun f s7 q7 => ?_)
    have again : ∀ {σ7 : St} {H7 : Hp}, Inv X (pins ++ pinsAt fp s5.heap) σ7 H7 s7 → N σ7 H7 → ∃ m, m < n ∧ ∃ i σ' H', Inv X pins σ' H' s7 ∧ tn i s7.heap ∧ (∀ b ∈ fp, H' b = none) ∧ W i m σ' H' := fun {σ7 H7} I7 n7 => by
      obtain ⟨m', hm, w7⟩ := hN σ7 H7 n7
      refine ⟨m', hm, i + 1, σ7, H7, I7.unpinned, T.keep _ _ _ st5 fun b hb o e => (I7.pin (b, o) (List.mem_append_right _ (List.mem_append_right _ (mem_pinsAt hb e)))).1, fun b hb => ?_, w7⟩
      obtain ⟨o, e, d⟩ := T.obj _ _ st5 b hb
      exact (I7.pin (b, o) (List.mem_append_right _ (List.mem_append_right _ (mem_pinsAt hb e)))).2.1
    cases f with
    | next => obtain ⟨σ7, H7, I7, n7⟩ := q7; exact again I7 n7
    | cont => obtain ⟨σ7, H7, I7, n7⟩ := q7; exact again I7 n7
    | brk => obtain ⟨σ7, H7, I7, q7⟩ := q7; exact ⟨σ7, H7, I7.unpinned, q7⟩
    | ret v => obtain ⟨x7, σ7, H7, I7, r7, q7⟩ := q7; exact ⟨x7, σ7, H7, I7.unpinned, r7, q7⟩
end
end L2
namespace L2
open PySem PySem.Spec PyProof.Rows
noncomputable abbrev R2 := V → V → Hp → VK → Prop
noncomputable def OpR (X : Cx) (f : Value → Value → Sem Value) (r : R2) : Prop :=
  ∀ (pins : List (Addr × Obj)) (s : Shared) (σ : St) (H : Hp) (x y : V) (v u : Value) (Q : VK), Inv X pins σ H s → RelV x v → RelV y u → r x y H Q →
    wpAny (model X.prog X.w) X.A (f v u) (EP X pins σ Q) X.xe s
noncomputable def UnR (X : Cx) (f : Value → Sem Value) (r : V → Hp → VK → Prop) : Prop :=
  ∀ (pins : List (Addr × Obj)) (s : Shared) (σ : St) (H : Hp) (x : V) (v : Value) (Q : VK), Inv X pins σ H s → RelV x v → r x H Q →
    wpAny (model X.prog X.w) X.A (f v) (EP X pins σ Q) X.xe s
noncomputable def CallR (X : Cx) (f : Value) (r : List V → Hp → VK → Prop) : Prop :=
  ∀ (pins : List (Addr × Obj)) (s : Shared) (σ : St) (H : Hp) (xs : List V) (us : List Value) (Q : VK), Inv X pins σ H s → Vals xs us → r xs H Q →
    wpAny (model X.prog X.w) X.A (call f us) (EP X pins σ Q) X.xe s
noncomputable def tOp (r : R2) (ta tb : TE) : TE := fun σ H Q => ta σ H fun x H1 => tb σ H1 fun y H2 => r x y H2 Q
noncomputable def tUn (r : V → Hp → VK → Prop) (ta : TE) : TE := fun σ H Q => ta σ H fun x H1 => r x H1 Q
noncomputable def rI (C : Int → Int → Prop) (g : Int → Int → V) : R2 := fun x y H Q => ∃ i j, x = .int i ∧ y = .int j ∧ C i j ∧ Q (g i j) H
noncomputable def rI0 (g : Int → Int → V) : R2 := fun x y H Q => ∃ i j, x = .int i ∧ y = .int j ∧ Q (g i j) H
noncomputable def rU (g : Int → V) : V → Hp → VK → Prop := fun x H Q => ∃ i, x = .int i ∧ Q (g i) H
section
variable {X : Cx} {a b c : Expr} {ta tb tc : TE} {pos : Pos}
theorem binT (ha : PE X a ta) (hb : PE X b tb) {pins : List (Addr × Obj)} {s : Shared} {σ : St} {H : Hp} {R : V → V → Hp → Prop} (I : Inv X pins σ H s)
    (h : ta σ H fun x H1 => tb σ H1 fun y H2 => R x y H2) {Q : Value → Shared → Prop} {f : Value → Value → Sem Value}
    (hf : ∀ v u s2 x y H2, Inv X pins σ H2 s2 → RelV x v → RelV y u → R x y H2 → wpAny (model X.prog X.w) X.A (f v u) Q X.xe s2) :
    wpAny (model X.prog X.w) X.A (eval a X.env) (fun v s₁ => wpAny (model X.prog X.w) X.A (eval b X.env) (fun u s₂ => wpAny (model X.prog X.w) X.A (f v u) Q X.xe s₂) X.xe s₁) X.xe s := by
  refine thn (ha pins s σ H _ I h) fun v s1 ⟨x, H1, I1, r1, q1⟩ => ?_
  refine thn (hb pins s1 σ H1 _ I1 q1) fun u s2 ⟨y, H2, I2, r2, q2⟩ => ?_
  exact hf v u s2 x y H2 I2 r1 r2 q2
theorem pe_op {op : Operator} {r : R2} (ho : OpR X (binaryOp op) r) (ha : PE X a ta) (hb : PE X b tb) : PE X (.BinOp a op b pos) (tOp r ta tb) := by
  intro pins s σ H Q I h
  exact wpAny_BinOp (binT ha hb I h fun v u s2 x y H2 I2 rx ry q => ho pins s2 σ H2 x y v u Q I2 rx ry q)
theorem pe_un {op : UnaryOp} {r : V → Hp → VK → Prop} (ho : UnR X (unaryOp op) r) (ha : PE X a ta) : PE X (.UnaryOp op a pos) (tUn r ta) := by
  intro pins s σ H Q I h
  exact UnaryOp_ (thn (ha pins s σ H _ I h) fun v s1 ⟨x, H1, I1, r1, q1⟩ => ho pins s1 σ H1 x v Q I1 r1 q1)
theorem opI {f : Value → Value → Sem Value} {C : Int → Int → Prop} {g : Int → Int → Int}
    (rule : ∀ (i j : Int) (t u : Tok) (s : Shared) (Q : Value → Shared → Prop) (E : Value → Shared → Prop), C i j → Q (.int (g i j) s.toks) { s with toks := s.toks + 1 } → wpAny (model X.prog X.w) X.A (f (.int i t) (.int j u)) Q E s) :
    OpR X f (rI C fun i j => .int (g i j)) := by
  intro pins s σ H x y v u Q I rx ry h
  obtain ⟨i, j, rfl, rfl, hc, q⟩ := h
  obtain ⟨t, rfl⟩ := rx
  obtain ⟨t', rfl⟩ := ry
  exact rule i j t t' s _ _ hc ⟨.int (g i j), H, I.tok _, ⟨_, rfl⟩, q⟩
theorem opI0 {f : Value → Value → Sem Value} {g : Int → Int → Int}
    (rule : ∀ (i j : Int) (t u : Tok) (s : Shared) (Q : Value → Shared → Prop) (E : Value → Shared → Prop), Q (.int (g i j) s.toks) { s with toks := s.toks + 1 } → wpAny (model X.prog X.w) X.A (f (.int i t) (.int j u)) Q E s) :
    OpR X f (rI0 fun i j => .int (g i j)) := by
  intro pins s σ H x y v u Q I rx ry h
  obtain ⟨i, j, rfl, rfl, q⟩ := h
  obtain ⟨t, rfl⟩ := rx
  obtain ⟨t', rfl⟩ := ry
  exact rule i j t t' s _ _ ⟨.int (g i j), H, I.tok _, ⟨_, rfl⟩, q⟩
theorem opB0 {f : Value → Value → Sem Value} {g : Int → Int → Bool}
    (rule : ∀ (i j : Int) (t u : Tok) (s : Shared) (Q : Value → Shared → Prop) (E : Value → Shared → Prop), Q (.bool (g i j)) s → wpAny (model X.prog X.w) X.A (f (.int i t) (.int j u)) Q E s) :
    OpR X f (rI0 fun i j => .bl (g i j)) := by
  intro pins s σ H x y v u Q I rx ry h
  obtain ⟨i, j, rfl, rfl, q⟩ := h
  obtain ⟨t, rfl⟩ := rx
  obtain ⟨t', rfl⟩ := ry
  exact rule i j t t' s _ _ ⟨.bl (g i j), H, I, rfl, q⟩
noncomputable def CDiv (i j : Int) : Prop := 0 < j ∧ j < 1073741824
noncomputable def CPow (i j : Int) : Prop := 0 ≤ j ∧ j ≤ 1000000 ∧ i.natAbs < 2 ^ 64
noncomputable def CMul (i j : Int) : Prop := (-(2 ^ 64) < i ∧ i < 2 ^ 64) ∨ (-(2 ^ 64) < j ∧ j < 2 ^ 64)
theorem CMul.ok {i j : Int} (h : CMul i j) : IntMulOk i j := by
  rcases h with ⟨h1, h2⟩ | ⟨h1, h2⟩
  · exact .of_left (intBits_le_64 h1 h2)
  · exact .of_right (intBits_le_64 h1 h2)
theorem op_add : OpR X (binaryOp .Add) (rI0 fun i j => .int (i + j)) := opI0 fun _ _ _ _ _ _ _ q => add_int q
theorem op_sub : OpR X (binaryOp .Sub) (rI0 fun i j => .int (i - j)) := opI0 fun _ _ _ _ _ _ _ q => sub_int q
theorem op_mod : OpR X (binaryOp .Mod) (rI (fun _ j => 0 < j) fun i j => .int (i % j)) := opI fun i j _ _ _ _ _ hc q => by
  have h1 : (0 : Int) < j := hc
  exact mod_int' (by (clear q h1; omega)) (by rw [Int.fmod_eq_emod_of_nonneg i (by (clear q h1; omega))]; exact q)
theorem op_pow : OpR X (binaryOp .Pow) (rI CPow fun i j => .int (i ^ j.toNat)) := opI fun _ _ _ _ _ _ _ hc q => pow_int_small hc.1 hc.2.1 hc.2.2 q
theorem unI {f : Value → Sem Value} {g : Int → Int}
    (rule : ∀ (i : Int) (t : Tok) (s : Shared) (Q : Value → Shared → Prop) (E : Value → Shared → Prop), Q (.int (g i) s.toks) { s with toks := s.toks + 1 } → wpAny (model X.prog X.w) X.A (f (.int i t)) Q E s) :
    UnR X f (rU fun i => .int (g i)) := by
  intro pins s σ H x v Q I rx h
  obtain ⟨i, rfl, q⟩ := h
  obtain ⟨t, rfl⟩ := rx
  exact rule i t s _ _ ⟨.int (g i), H, I.tok _, ⟨_, rfl⟩, q⟩
theorem un_neg : UnR X (unaryOp .USub) (rU fun i => .int (-i)) := unI fun _ _ _ _ _ q => neg_int q
end
section
variable {X : Cx} {a b c : Expr} {ta tb tc : TE} {pos : Pos}
theorem op_lt : OpR X (compareOp .Lt) (rI0 fun i j => .bl (decide (i < j))) := opB0 fun _ _ _ _ _ _ _ q => lt_int q
theorem op_le : OpR X (compareOp .LtE) (rI0 fun i j => .bl (decide (i ≤ j))) := opB0 fun _ _ _ _ _ _ _ q => le_int q
theorem op_gt : OpR X (compareOp .Gt) (rI0 fun i j => .bl (decide (j < i))) := opB0 fun _ _ _ _ _ _ _ q => gt_int q
theorem op_ge : OpR X (compareOp .GtE) (rI0 fun i j => .bl (decide (j ≤ i))) := opB0 fun _ _ _ _ _ _ _ q => ge_int q
theorem nomark (b : Expr) {op : CmpOp} (h : op ≠ .In := by decide) (h2 : op ≠ .NotIn := by decide) : behindInMarks op b = false := by
  have e1 : (op == CmpOp.In) = false := by cases op <;> first | rfl | exact absurd rfl h
  have e2 : (op == CmpOp.NotIn) = false := by cases op <;> first | rfl | exact absurd rfl h2
  cases b <;> simp [behindInMarks, e1, e2]
theorem pe_cmpR {op : CmpOp} {r : R2} (ho : OpR X (compareOp op) r) (ha : PE X a ta) (hb : PE X b tb) (hm : behindInMarks op b = false) : PE X (.Compare a [op] [b] pos) (tOp r ta tb) := by
  intro pins s σ H Q I h
  exact wpAny_Compare1 (binT ha hb I h fun v u s2 x y H2 I2 rx ry q => ho pins s2 σ H2 x y v u Q I2 rx ry q) hm
noncomputable def tTest (t : TE) : TT := fun σ H Q => t σ H fun x H' => ∃ k, x = .bl k ∧ Q k H'
theorem pt_cmpR {op : CmpOp} {r : R2} (ho : OpR X (compareOp op) r) (ha : PE X a ta) (hb : PE X b tb) (hm : behindInMarks op b = false) : PT X (.Compare a [op] [b] pos) (tTest (tOp r ta tb)) := by
  intro pins s σ H Q I h
  refine wpAny_isTrue_Compare1 (thn (ha pins s σ H _ I h) fun v s1 ⟨x, H1, I1, r1, q1⟩ => thn (hb pins s1 σ H1 _ I1 q1) fun u s2 ⟨y, H2, I2, r2, q2⟩ =>
    thn (ho pins s2 σ H2 x y v u _ I2 r1 r2 q2) fun c s3 ⟨z, H3, I3, r3, k, e, q3⟩ => ?_) hm
  subst e
  cases r3
  exact wpAny_truthy_bool ⟨H3, I3, q3⟩
theorem line63 : (sizeLine : Nat) < 2 ^ 63 := by rw [sizeLine_eq]; decide
theorem vals1 {x : V} {us : List Value} (r : Vals [x] us) : ∃ u, us = [u] ∧ RelV x u := by
  cases r with
  | cons r1 r2 => cases r2; exact ⟨_, rfl, r1⟩
theorem vals2 {x y : V} {us : List Value} (r : Vals [x, y] us) : ∃ u w', us = [u, w'] ∧ RelV x u ∧ RelV y w' := by
  cases r with
  | cons r1 r2 =>
    cases r2 with
    | cons r3 r4 => cases r4; exact ⟨_, _, rfl, r1, r3⟩
theorem call_max2 (hc : X.calm = true) : CallR X (.builtin "max") (fun xs H Q => ∃ i j, xs = [.int i, .int j] ∧ Q (.int (if j > i then j else i)) H) := by
  intro pins s σ H xs us Q I r h
  obtain ⟨i, j, rfl, q⟩ := h
  obtain ⟨u, w', rfl, ⟨t, rfl⟩, ⟨t', rfl⟩⟩ := vals2 r
  refine max_two_ints (I.ok.hd hc) fun h' tk k => ⟨_, H, I.kept k, ?_, q⟩
  by_cases hj : j > i
  · rw [if_pos hj, if_pos hj]; exact ⟨_, rfl⟩
  · rw [if_neg hj, if_neg hj]; exact ⟨_, rfl⟩
theorem call_min2 (hc : X.calm = true) : CallR X (.builtin "min") (fun xs H Q => ∃ i j, xs = [.int i, .int j] ∧ Q (.int (if j < i then j else i)) H) := by
  intro pins s σ H xs us Q I r h
  obtain ⟨i, j, rfl, q⟩ := h
  obtain ⟨u, w', rfl, ⟨t, rfl⟩, ⟨t', rfl⟩⟩ := vals2 r
  refine min_two_ints (I.ok.hd hc) fun h' tk k => ⟨_, H, I.kept k, ?_, q⟩
  by_cases hj : j < i
  · rw [if_pos hj, if_pos hj]; exact ⟨_, rfl⟩
  · rw [if_neg hj, if_neg hj]; exact ⟨_, rfl⟩
theorem call_int1 : CallR X (.type "int") (fun xs H Q => (∃ i, xs = [.int i] ∧ Q (.int i) H) ∨ ∃ k, xs = [.bl k] ∧ Q (.int (if k then 1 else 0)) H) := by
  intro pins s σ H xs us Q I r h
  rcases h with ⟨i, rfl, q⟩ | ⟨k, rfl, q⟩
  · obtain ⟨u, rfl, t, rfl⟩ := vals1 r
    exact call_int_int ⟨.int i, H, I, ⟨_, rfl⟩, q⟩
  · obtain ⟨u, rfl, r1⟩ := vals1 r
    cases r1
    exact call_int_bool ⟨.int (if k then 1 else 0), H, I.tok _, ⟨_, rfl⟩, q⟩
end
end L2
namespace L2
open PySem PySem.Spec PyProof.Rows
structure ObjM (h : Heap) (x dx C : Addr) (mA : Str → Option Value) : Prop where
  obj : h.get? x = some (PySem.W.instObj C dx)
  ns : h.Ns1 dx mA
  ne : dx ≠ x
theorem lookIn_ns {h : Heap} {dx : Addr} {mA : Str → Option Value} (n : h.Ns1 dx mA) : ∃ od, h.get? dx = some od ∧ ∀ name, PySem.W.lookIn name od = some (mA name) := by
  obtain ⟨o, es, ep, ho, hd, hk, _, hm⟩ := n
  refine ⟨o, ho, fun name => ?_⟩
  have e := hm name
  unfold nsFind findBy at e
  rw [← Array.find?_toList] at e
  unfold PySem.W.lookIn
  rw [hd]
  dsimp only
  split
  · rename_i y q
    rw [q] at e
    exact congrArg some e
  · rename_i q
    rw [q] at e
    have a : es.toList.any (·.refKey) = false := by
      rw [List.any_eq_false]
      intro y hy
      obtain ⟨z, t, hkey⟩ := hk y (Array.mem_toList_iff.mp hy)
      simp [DictEntry.refKey, hkey]
    have a' : ¬ es.toList.any (·.refKey) = true := by rw [a]; exact Bool.false_ne_true
    rw [if_neg a']
    exact congrArg some e
theorem ObjM.look {h : Heap} {x dx C : Addr} {mA : Str → Option Value} (I : ObjM h x dx C mA) : ∃ od, PySem.W.InstAt h x (PySem.W.instObj C dx) C (some od) ∧ ∀ name, PySem.W.lookIn name od = some (mA name) :=
  let ⟨od, ho, hl⟩ := lookIn_ns I.ns
  ⟨od, ⟨I.obj, rfl, rfl, ho⟩, hl⟩
section
variable {prog : Program} {w : World} {A : Around} {E : Value → Shared → Prop} {s : Shared} {K : PySem.W.Frag} {x dx C f : Addr} {mA : Str → Option Value} {name : Str} {v : Value}
end
section
variable {P : Program} {w : World} {H H' : Hp} {h h' : Heap} {a C dx : Addr} {fs fs' : List (Str × V)}
theorem ins_get (hok : HOk P w H h) (e : H a = some (.ins C dx fs)) : ∃ mA, ObjM h a dx C mA ∧ (∀ f, RelO (fs.lookup f) (mA f)) ∧ PySem.Within mA (fs.map (·.1)) ∧ fs.length ≤ 1000 ∧ H dx = some (.own a) := by
  obtain ⟨d, z, ne, ob, mA, n, r, q⟩ := (show ObjOk P w H h a (.ins C dx fs) from hok a _ e)
  exact ⟨mA, ⟨ob, n, ne⟩, r, q, z, d⟩
end
structure Cls (K : PySem.W.Frag) (C : Addr) : Prop where
  pg : PySem.W.plainGet K C Str.empty = true
  hd : PySem.W.hasDictIn K C = true
  po : PySem.W.plainOver K C = true
  sa : PySem.W.findIn K (.ref C) "__setattr__" = some (some (.builtin "object.__setattr__"))
theorem Cls.get {K : PySem.W.Frag} {C : Addr} (c : Cls K C) (f : Str) : PySem.W.plainGet K C f = true := c.pg
structure Con (K : PySem.W.Frag) (C : Addr) (f : Str) (v : V) (u : Value) : Prop where
  at_ : PySem.W.findIn K (.ref C) f = some (some u)
  rel : RelV v u
  get : PySem.W.specialIn K u "__get__" = some none
  cp : PySem.W.copiedNames.contains f = false
structure Meth (K : PySem.W.Frag) (C : Addr) (m : Str) (f : Addr) : Prop where
  at_ : PySem.W.findIn K (.ref C) m = some (some (.ref f))
  fn : PySem.W.isFn K (.ref f) = true
  kp : PySem.W.keepIn K (.ref f) = true
section
variable {X : Cx} {pins : List (Addr × Obj)} {σ : St} {H : Hp} {s : Shared} {a C dx : Addr} {fs : List (Str × V)} {f : Str} {v : V} {A : Around} {E : Value → Shared → Prop}
end
section
variable {X : Cx} {o e value : Expr} {f : Str} {pos pos' tpos : Pos} {ta tv : TE}
end
section
variable {X : Cx} {pins : List (Addr × Obj)} {σ : St} {H : Hp} {s : Shared} {A : Around} {E : Value → Shared → Prop} {Q : Value → Shared → Prop} {c : Value} {b : Bool}
inductive TyOf (K : PySem.W.Frag) (H : Hp) : V → Value → Prop where
  | non : TyOf K H .non (.type "NoneType")
  | bl (x : Bool) : TyOf K H (.bl x) (.type "bool")
  | int (i : Int) : TyOf K H (.int i) (.type "int")
  | str (x : Str) : TyOf K H (.str x) (.type "str")
  | flt (x : UInt64) : TyOf K H (.flt x) (.type "float")
  | lst {a : Addr} {xs : List V} (e : H a = some (.lst xs)) : TyOf K H (.ref a) (.type "list")
  | frz {a : Addr} {o : Obj} {xs : List V} (e : H a = some (.frz o (.lst xs))) : TyOf K H (.ref a) (.type "list")
  | tup {a : Addr} {xs : List V} (e : H a = some (.tup xs)) : TyOf K H (.ref a) (.type "tuple")
  | dK {a : Addr} {kvs : List (Key × V)} (e : H a = some (.dK kvs)) : TyOf K H (.ref a) (.type "dict")
  | dT {a : Addr} {kvs : List (List Key × V)} (e : H a = some (.dT kvs)) : TyOf K H (.ref a) (.type "dict")
  | ins {a C dx : Addr} {fs : List (Str × V)} (e : H a = some (.ins C dx fs)) (cl : Cls K C) (ha : PySem.W.findIn K (.ref C) "__class__" = some (some (.builtin "object.__class__")))
      (hn : PySem.W.specialIn K (.builtin "object.__class__") "__get__" = some (some (.builtin "getset_descriptor.__get__"))) (htk : PySem.W.takesIn K (.builtin "object.__class__") = some true)
      (hm : PySem.W.mroIn K C (.type "object") = some true) : TyOf K H (.ref a) (.ref C)
theorem isinst_ok {x : V} {u t : Value} (I : Inv X pins σ H s) (rx : RelV x u) (ty : TyOf X.K H x t) (e : PySem.W.kitOne X.K t c = some b) (h : ∀ tk, Q (.bool b) { s with toks := tk }) :
    wpAny (model X.prog X.w) A (call (.builtin "isinstance") [u, c]) Q E s := by
  cases ty with
  | non => cases (show u = Value.none from rx); exact PySem.W.kia_one PySem.W.kitx_none I.kIn True.intro e (fun z => nomatch z) h
  | bl y => cases (show u = Value.bool y from rx); exact PySem.W.kia_one PySem.W.kitx_bool I.kIn True.intro e (fun z => nomatch z) h
  | int i => obtain ⟨t, q⟩ := (show ∃ t, u = Value.int i t from rx); cases q; exact PySem.W.kia_one PySem.W.kitx_int I.kIn True.intro e (fun z => nomatch z) h
  | str y => obtain ⟨t, q⟩ := (show ∃ t, u = Value.str y t from rx); cases q; exact PySem.W.kia_one PySem.W.kitx_str I.kIn True.intro e (fun z => nomatch z) h
  | flt y => obtain ⟨t, q⟩ := (show ∃ t, u = Value.float y t from rx); cases q; exact PySem.W.kia_one PySem.W.kitx_float I.kIn True.intro e (fun z => nomatch z) h
  | @lst a xs ea =>
    cases (show u = Value.ref a from rx)
    obtain ⟨_, _, n, _, h1⟩ := (show ObjOk X.prog X.w H s.heap a (.lst xs) from I.hok a _ ea)
    exact PySem.W.kia_one PySem.W.kitx_list I.kIn ⟨_, h1, rfl⟩ e (fun z => nomatch z) h
  | @frz a ob xs ea =>
    cases (show u = Value.ref a from rx)
    obtain ⟨_, _, _, n, _, h1⟩ := (show ObjOk X.prog X.w H s.heap a (.frz ob (.lst xs)) from I.hok a _ ea)
    exact PySem.W.kia_one PySem.W.kitx_list I.kIn ⟨_, h1, rfl⟩ e (fun z => nomatch z) h
  | @tup a xs ea =>
    cases (show u = Value.ref a from rx)
    obtain ⟨_, _, _, p⟩ := (show ObjOk X.prog X.w H s.heap a (.tup xs) from I.hok a _ ea)
    obtain ⟨o, h1, h2, _⟩ := p
    exact PySem.W.kia_one PySem.W.kitx_tuple I.kIn ⟨o, h1, h2⟩ e (fun z => nomatch z) h
  | @dK a kvs ea =>
    cases (show u = Value.ref a from rx)
    obtain ⟨_, _, vs, _, p⟩ := (show ObjOk X.prog X.w H s.heap a (.dK kvs) from I.hok a _ ea)
    obtain ⟨o, es, ep, h1, h2, _⟩ := p
    exact PySem.W.kia_one PySem.W.kitx_dict I.kIn ⟨o, h1, h2.1⟩ e (fun z => nomatch z) h
  | @dT a kvs ea =>
    cases (show u = Value.ref a from rx)
    obtain ⟨_, _, xs, _, o, es, ep, h1, h2, _⟩ := (show ObjOk X.prog X.w H s.heap a (.dT kvs) from I.hok a _ ea)
    exact PySem.W.kia_one PySem.W.kitx_dict I.kIn ⟨o, h1, h2.1⟩ e (fun z => nomatch z) h
  | @ins a C dx fs ea cl ha hn htk hm =>
    cases (show u = Value.ref a from rx)
    obtain ⟨mA, O, _⟩ := ins_get I.hok ea
    obtain ⟨od, J, _⟩ := O.look
    exact PySem.W.kia_one (PySem.W.kitx_own (cl.get _) cl.hd ha hn htk hm) I.kIn J e (fun z => nomatch z) h
end
end L2
namespace L2
open PySem PySem.Spec PyProof.Rows
structure Room (k : Nat) (A : Around) : Prop where
  hd : A.handled = none
  dp : A.depth + 3 * k + 5 < recursionLimit
  un : A.units + 16 * k + 200 < cLine
theorem Room.mono {j k : Nat} {A : Around} (r : Room k A) (h : j ≤ k) : Room j A := ⟨r.hd, by have := r.dp; (clear r; omega), by have := r.un; (clear r; omega)⟩
theorem Room.deeper {k : Nat} {A : Around} (r : Room (k + 1) A) (env : Env) : Room k (A.deeper env) :=
  ⟨r.hd, by have := r.dp; show A.depth + 1 + 3 * k + 5 < _; (clear r; omega), by have := r.un; show A.units + 3 + 16 * k + 200 < _; (clear r; omega)⟩
theorem Room.depth {k : Nat} {A : Around} (r : Room k A) : A.depth < recursionLimit := by have := r.dp; (clear r; omega)
noncomputable def tNil : TA := fun _ H Q => Q [] H
noncomputable def tCons (ta : TE) (tr : TA) : TA := fun σ H Q => ta σ H fun x H1 => tr σ H1 fun xs H2 => Q (x :: xs) H2
section
variable {X : Cx} {e : Expr} {es : List Expr} {te : TE} {t : TA} {pos : Pos}
theorem pa_nil : PA X [] tNil := fun _ _ _ _ H Q I h => Calls.spliced_nil ⟨[], H, I, .nil, h⟩
theorem pa_cons (ha : PE X e te) (hr : PA X es t) (hs : starEach (e :: es) X.env = (false, eval e X.env) :: starEach es X.env := by rfl) : PA X (e :: es) (tCons te t) := by
  intro pos pins s σ H Q I h
  rw [hs]
  show wpAny _ _ (spliced ((false, eval e X.env) :: backTo pos (starEach es X.env))) _ _ s
  refine Calls.spliced_cons (thn (ha pins s σ H _ I h) fun u s1 ⟨x, H1, I1, r1, q1⟩ => ?_)
  exact thn (hr pos pins s1 σ H1 _ I1 q1) fun us s2 ⟨xs, H2, I2, r2, q2⟩ => ⟨x :: xs, H2, I2, .cons r1 r2, q2⟩
noncomputable def tTup (t : TA) : TE := fun σ H Q => t σ H fun xs H1 => xs.length ≤ sizeLine ∧ ∀ p, H1 p = none → Q (.ref p) (upd H1 p (.tup xs))
noncomputable def tLst (t : TA) : TE := fun σ H Q => t σ H fun xs H1 => xs.length ≤ sizeLine ∧ ∀ p, H1 p = none → Q (.ref p) (upd H1 p (.lst xs))
theorem pe_tup {x1} (h : PA X es t) : PE X (.Tuple es x1 pos) (tTup t) := by
  intro pins s σ H Q I hq
  refine wpAny_Tuple_spliced (thn (h pos pins s σ H _ I hq) fun us s1 ⟨xs, H1, I1, r, z, q⟩ => ⟨by rw [← r.length]; exact z, ?_⟩)
  have hf : H1 s1.heap.objs.size = none := I1.hok.fresh (Nat.le_refl _)
  refine ⟨.ref s1.heap.objs.size, upd H1 s1.heap.objs.size (.tup xs), I1.laid (t' := s1.toks) (fun b u e => Heap.get?_push_of_some _ e) (Nat.le_refl _) ?_, rfl, q _ hf⟩
  exact ⟨z, us, r, ⟨_, Heap.get?_push_size _ rfl, rfl, _, rfl⟩⟩
theorem pe_lst (h : PA X es t) : PE X (.List es pos) (tLst t) := by
  intro pins s σ H Q I hq
  refine wpAny_List_spliced (thn (h pos pins s σ H _ I hq) fun us s1 ⟨xs, H1, I1, r, z, q⟩ => ⟨by rw [← r.length]; exact z, ?_⟩)
  have hf : H1 s1.heap.objs.size = none := I1.hok.fresh (Nat.le_refl _)
  refine ⟨.ref s1.heap.objs.size, upd H1 s1.heap.objs.size (.lst xs), I1.laid (t' := s1.toks) (fun b u e => Heap.get?_push_of_some _ e) (Nat.le_refl _) ?_, rfl, q _ hf⟩
  exact ⟨z, us, 0, r, Heap.get?_push_size _ rfl⟩
end
noncomputable abbrev Sp := List V → Hp → VK → XK → Prop
noncomputable abbrev CXT := List Env → Hp → Shared → XK → Value → Shared → Prop
structure Env0 (P : Program) (w : World) (K : PySem.W.Frag) (mg : Str → Option Value) (base : Heap) (A : Around) (outer : List Env) (s : Shared) (H : Hp) : Prop where
  frames : A.frames = some outer
  mod : Mod K mg base
  bs : ∀ b o, base.get? b = some o → s.heap.get? b = some o ∧ H b = none
  bsz : base.objs.size ≤ s.heap.objs.size
  funs : s.heap.FunFrames base outer
  frf : ∀ b ∈ frs outer, H b = none
  hok : HOk P w H s.heap
  bare : AllBare s.gens
noncomputable def CE (outer : List Env) (P : Program) (w : World) (H : Hp) (s : Shared) (Q : VK) (u : Value) (s' : Shared) : Prop :=
  ∃ v H', s'.os = s.os ∧ AllBare s'.gens ∧ Un (frs outer) [] H H' s.heap s'.heap ∧ HOk P w H' s'.heap ∧ RelV v u ∧ Q v H'
noncomputable def CR (CX : CXT) (outer : List Env) (P : Program) (w : World) (H : Hp) (s : Shared) (Q : VK) (E : XK) (r : Result) (s' : Shared) : Prop :=
  match r with
  | .ok (.ret u) => CE outer P w H s Q u s'
  | .ok _ => False
  | .error e => CX outer H s E e s'
structure FnOk (P : Program) (w : World) (K : PySem.W.Frag) (mg : Str → Option Value) (base : Heap) (CX : CXT) (k : Nat) (f : Addr) (fd : FuncData) (ps : List Str) (sp : Sp) : Prop where
  len : ∀ vs H Q E, sp vs H Q E → vs.length = ps.length
  run : ∀ (A : Around) (outer : List Env) (s : Shared) (H : Hp) (args : Args) (us : List Value) (vs : List V) (Q : VK) (E : XK), Room k A → Env0 P w K mg base A outer s H → BindsTo s fd args (ps.zip us) → Vals vs us → sp vs H Q E →
    codeAny (model P w) A (.call (.ref f) args) (CR CX outer P w H s Q E) s
section
variable {X : Cx} {pins : List (Addr × Obj)} {σ : St} {H : Hp} {s s' : Shared}
theorem Inv.env0 (I : Inv X pins σ H s) : Env0 X.prog X.w X.K X.mg X.base X.A X.stack s H :=
  ⟨I.ok.frames, I.ok.mod, I.bs, Nat.le_trans I.ok.bsz I.sz, I.stack, I.stkFree, I.hok, I.bare⟩
theorem Inv.after {Q : VK} {u : Value} (I : Inv X pins σ H s) (h : CE X.stack X.prog X.w H s Q u s') : EP X pins σ Q u s' := by
  obtain ⟨v, H', os, bare, un, hok, r, q⟩ := h
  obtain ⟨hh, g, d, t, os'⟩ := s'
  obtain rfl : os' = s.os := os
  exact ⟨v, H', I.call (h' := hh) (g' := g) (d' := d) (t' := t) (ch := []) un hok bare (fun b z => absurd z (by simp)), r, q⟩
end
noncomputable def tCall (sp : Sp) (dvs : List V) (E : XK) (t : TA) : TE := fun σ H Q => t σ H fun vs H1 => sp (vs ++ dvs) H1 Q E
noncomputable def Binds (K : PySem.W.Frag) (fd : FuncData) (ps : List Str) (ds : List Value) : Prop :=
  ∀ (s : Shared) (us : List Value), K.In s.heap → (us ++ ds).length = ps.length → BindsTo s fd ⟨us, []⟩ (ps.zip (us ++ ds))
theorem Binds.all {K : PySem.W.Frag} {fd : FuncData} {ps : List Str} (h : ∀ us : List Value, us.length = ps.length → bindArgs fd ⟨us, []⟩ = pure (ps.zip us)) : Binds K fd ps [] := fun s us _ hl => by
  rw [List.append_nil] at hl ⊢
  exact .of_eq (h us hl)
noncomputable def Passes (CX : CXT) (X : Cx) (E : XK) : Prop := ∀ (pins : List (Addr × Obj)) (σ : St) (H : Hp) (s : Shared) (e : Value) (s' : Shared), Inv X pins σ H s → CX X.stack H s E e s' → X.xe e s'
section
variable {X : Cx} {CX : CXT} {k : Nat} {f C : Addr} {fd : FuncData} {ps : List Str} {sp : Sp} {dvs : List V} {ds : List Value} {E : XK} {x m : Str} {p pos apos : Pos} {e o : Expr} {es : List Expr} {ta : TE} {t : TA}
theorem run_fn {pins : List (Addr × Obj)} {σ : St} {H : Hp} {s : Shared} {Q : VK} {us : List Value} {vs : List V} (F : FnOk X.prog X.w X.K X.mg X.base CX k f fd ps sp) (hr : Room k X.A) (hb : Binds X.K fd ps ds) (hd : Vals dvs ds) (hx : Passes CX X E)
    (I : Inv X pins σ H s) (r : Vals vs us) (h : sp (vs ++ dvs) H Q E) : wpAny (model X.prog X.w) X.A (call (.ref f) us) (EP X pins σ Q) X.xe s := by
  have r2 : Vals (vs ++ dvs) (us ++ ds) := r.append hd
  have hl : (us ++ ds).length = ps.length := by rw [← r2.length]; exact F.len _ _ _ _ h
  refine wpAny_call (codeAny_mono (F.run X.A X.stack s H ⟨us, []⟩ (us ++ ds) (vs ++ dvs) Q E hr I.env0 (hb s us I.kIn hl) r2 h) fun r s' hq => ?_)
  cases r with
  | error e => exact hx pins σ H s e s' I hq
  | ok fl =>
    cases fl with
    | ret u => exact I.after hq
    | next => exact False.elim hq
    | brk => exact False.elim hq
    | cont => exact False.elim hq
theorem pe_call (F : FnOk X.prog X.w X.K X.mg X.base CX k f fd ps sp) (hr : Room k X.A) (hg : Gl X x) (hm : X.mg x = some (.ref f)) (hk : PySem.W.keepIn X.K (.ref f) = true) (hb : Binds X.K fd ps ds) (hd : Vals dvs ds) (hx : Passes CX X E)
    (ha : PA X (e :: es) t) (hdb : (x == ("__debug__" : Str)) = false := by decide) (he : starEach (e :: es) X.env = (false, eval e X.env) :: starEach es X.env := by rfl) (hpl : (backTo pos (starEach es X.env)).any (·.1) = false := by rfl) :
    PE X (.Call (.Name x p) (e :: es) [] pos) (tCall sp dvs E t) := by
  intro pins s σ H Q I h
  refine wpAny_Call_Name_kw (ld_glob I hg hm ?_ hdb)
  refine PySem.W.callWith_K (h₀ := X.base) I.ok.mod.kin hk (thn (ha pos pins s σ H _ I h) fun us s1 ⟨vs, H1, I1, r, q⟩ => ⟨I1.kIn, ?_⟩) he hpl
  exact run_fn F hr hb hd hx I1 r q
structure Mk (K : PySem.W.Frag) (C f : Addr) : Prop where
  makes : PySem.W.makesIn K C = true
  init : PySem.W.findIn K (.ref C) "__init__" = some (some (.ref f))
  fn : PySem.W.isFn K (.ref f) = true
  kp : PySem.W.keepIn K (.ref C) = true
end
section
variable {X : Cx} {CX : CXT} {k : Nat} {f C : Addr} {fd : FuncData} {ps ks : List Str} {sp : Sp} {E : XK} {x m : Str} {p pos apos kpos : Pos} {e o : Expr} {es : List Expr} {kws : List Keyword} {te ta : TE} {t tk : TA} {nm : Option Str}
structure KBinds (K : PySem.W.Frag) (fd : FuncData) (ps ks : List Str) (g : List Value → List Value → List Value) (gV : List V → List V → List V) : Prop where
  to : ∀ (s : Shared) (us ws : List Value), K.In s.heap → (g us ws).length = ps.length → BindsTo s fd ⟨us, ks.zip ws⟩ (ps.zip (g us ws))
  rel : ∀ {vs : List V} {us : List Value} {zs : List V} {ws : List Value}, Vals vs us → Vals zs ws → Vals (gV vs zs) (g us ws)
variable {g : List Value → List Value → List Value} {gV : List V → List V → List V}
end
structure FnScope (N P : List Str) (sc : Scope) : Prop where
  kind : sc.kind = .function
  co : sc.isCoroutine = false
  gen : sc.isGenerator = false
  nd : N.Nodup
  pre : N.take P.length = P
  par : ∀ x ∈ P, sc.names.lookup x = some .local ∨ sc.names.lookup x = some .cell
  nofree : ∀ y ∈ sc.names, y.2 ≠ .free
theorem bindL_out {kindOf : Str → Option NameKind} {x : Str} : ∀ {binds : List (Str × Value)} {m : Str → Option Value}, (∀ v, (x, v) ∉ binds) → bindL kindOf binds m x = m x
  | [], _, _ => rfl
  | (n, v) :: r, m, h => by
    unfold bindL
    rw [bindL_out fun w hw => h w (List.mem_cons_of_mem _ hw)]
    split
    · have : x ≠ n := by rintro rfl; exact h v List.mem_cons_self
      simp [this]
    · rfl
theorem bindC_out {kindOf : Str → Option NameKind} {x : Str} : ∀ {binds : List (Str × Value)} {m : Str → Option Value}, (∀ v, (x, v) ∉ binds) → bindC kindOf binds m x = m x
  | [], _, _ => rfl
  | (n, v) :: r, m, h => by
    unfold bindC
    rw [bindC_out fun w hw => h w (List.mem_cons_of_mem _ hw)]
    split
    · rfl
    · have : x ≠ n := by rintro rfl; exact h v List.mem_cons_self
      simp [this]
theorem bindL_get {kindOf : Str → Option NameKind} {x : Str} {v : Value} : ∀ {P : List Str} {vs : List Value} {i : Nat} {m : Str → Option Value}, P.Nodup → P[i]? = some x → vs[i]? = some v → kindOf x = some .local →
    bindL kindOf (P.zip vs) m x = some v
  | [], _, _, _, _, h, _, _ => by simp at h
  | _ :: _, [], _, _, _, _, h, _ => by simp at h
  | p :: P, w :: vs, 0, m, nd, h1, h2, hk => by
    simp at h1 h2; subst h1; subst h2
    show bindL kindOf ((p, w) :: P.zip vs) m p = _
    unfold bindL
    rw [bindL_out fun v hv => (List.nodup_cons.mp nd).1 (List.of_mem_zip hv).1, if_pos hk]
    simp
  | p :: P, w :: vs, i + 1, m, nd, h1, h2, hk => by
    show bindL kindOf ((p, w) :: P.zip vs) m x = _
    unfold bindL
    exact bindL_get (i := i) (List.nodup_cons.mp nd).2 (by simpa using h1) (by simpa using h2) hk
theorem bindC_get {kindOf : Str → Option NameKind} {x : Str} {v : Value} : ∀ {P : List Str} {vs : List Value} {i : Nat} {m : Str → Option Value}, P.Nodup → P[i]? = some x → vs[i]? = some v → kindOf x ≠ some .local →
    bindC kindOf (P.zip vs) m x = some v
  | [], _, _, _, _, h, _, _ => by simp at h
  | _ :: _, [], _, _, _, _, h, _ => by simp at h
  | p :: P, w :: vs, 0, m, nd, h1, h2, hk => by
    simp at h1 h2; subst h1; subst h2
    show bindC kindOf ((p, w) :: P.zip vs) m p = _
    unfold bindC
    rw [bindC_out fun v hv => (List.nodup_cons.mp nd).1 (List.of_mem_zip hv).1, if_neg hk]
    simp
  | p :: P, w :: vs, i + 1, m, nd, h1, h2, hk => by
    show bindC kindOf ((p, w) :: P.zip vs) m x = _
    unfold bindC
    exact bindC_get (i := i) (List.nodup_cons.mp nd).2 (by simpa using h1) (by simpa using h2) hk
noncomputable def start (N : List Str) (vs : List V) : St := vs.map some ++ List.replicate (N.length - vs.length) none
noncomputable def cxOf (CX : CXT) (P : Program) (w : World) (K : PySem.W.Frag) (mg : Str → Option Value) (base : Heap) (N : List Str) (qual : Str) (scope : Scope) (f : Addr) (cd : Value) (A : Around) (outer : List Env) (s : Shared) (H : Hp) (E : XK) : Cx where
  prog := P
  w := w
  K := K
  mg := mg
  base := base
  A := A.deeper (envOfC qual scope s.heap.objs.size f cd)
  N := N
  s₀ := s
  H₀ := H
  env := envOfC qual scope s.heap.objs.size f cd
  outer := outer
  stack := envOfC qual scope s.heap.objs.size f cd :: outer
  ex := []
  calm := true
  fn := fun _ => true
  pn := []
  xe := fun e s' => wpAny (model P w) (A.deeper (envOfC qual scope s.heap.objs.size f cd)) (leaving (envOfC qual scope s.heap.objs.size f cd) e) (fun _ s'' => CX outer H s E e s'') (fun e' s'' => CX outer H s E e' s'') s'
theorem cell_has {sc : Scope} {n : Nat} {x : Str} (h : sc.names.lookup x = some .cell) : ∃ c, (cellsFrom n sc.names []).lookup x = some c := by
  have q := PySem.W.cellsFrom_some sc.names n [] (.inl h)
  exact Option.isSome_iff_exists.mp q
theorem inv_start {CX : CXT} {P : Program} {w : World} {K : PySem.W.Frag} {mg : Str → Option Value} {base : Heap} {N ps : List Str} {qual : Str} {scope : Scope} {f : Addr} {cd : Value} {A : Around} {outer : List Env} {s s1 : Shared} {H : Hp} {E : XK} {us : List Value} {vs : List V}
    (S : FnScope N ps scope) (hd : A.handled = none) (e0 : Env0 P w K mg base A outer s H) (hl : vs.length = ps.length) (r : Vals vs us)
    (x : InCallC s s.heap.objs.size (bindL (envOfC qual scope s.heap.objs.size f cd).kindOf (ps.zip us) fun _ => none) (cellsFrom (s.heap.objs.size + 1) scope.names []) (bindC (envOfC qual scope s.heap.objs.size f cd).kindOf (ps.zip us) fun _ => none) s1) :
    Inv (cxOf CX P w K mg base N qual scope f cd A outer s H E) [] (start N vs) H s1 := by
  have hpl : ps.length ≤ N.length := by have := congrArg List.length S.pre; rw [List.length_take] at this; (clear S hd e0 hl r x; omega)
  obtain ⟨h1, tk, rfl, hk⟩ := x.done
  have noA : ∀ b : Addr, b ∉ (cxOf CX P w K mg base N qual scope f cd A outer s H E).ex := fun b z => absurd (show b ∈ ([] : List Addr) from z) (by simp)
  refine ⟨⟨e0.mod, S.kind, rfl, rfl, Nat.le_refl _, fun y z c h1 h2 => ?_, fun y hy => ?_, fun y c _ h => ?_, fun _ => hd, Around.frames_deeper e0.frames, .inr ⟨rfl, rfl⟩, fun b z => absurd z (noA b), e0.bs, e0.bsz, fun b _ _ => noA b, fun b z => absurd z (noA b), e0.funs, e0.frf⟩,
    rfl, e0.bare, Un.kept hk, ⟨_, x.toInCall.ns, fun i y v h1 h2 h3 => ?_⟩, fun y c h => ⟨_, x.cell y c h⟩, e0.hok.fresh (Nat.le_refl _), fun y c h => ?_, fun p hp => absurd (show p ∈ ([] : List (Addr × Obj)) from hp) (by simp), e0.hok.kept hk, ?_⟩
  · exact name_of_addr x.apart (PySem.mem_of_lookup h1) (PySem.mem_of_lookup h2)
  · have hy : scope.names.lookup y = some .cell ∨ scope.names.lookup y = some .free := hy
    rcases hy with hy | hy
    · exact cell_has hy
    · exact absurd rfl (S.nofree _ (PySem.mem_of_lookup hy))
  · exact Nat.le_of_lt (x.above y c (PySem.mem_of_lookup h))
  · have hi : i < vs.length := by
      unfold start at h2
      by_cases hi : i < vs.length
      · exact hi
      · rw [List.getElem?_append_right (by simpa using hi)] at h2
        rw [List.getElem?_replicate] at h2
        split at h2 <;> cases h2
    have ha : vs[i]? = some v := by
      unfold start at h2
      rw [List.getElem?_append_left (by simpa using hi), List.getElem?_map] at h2
      cases e : vs[i]? with
      | none => rw [e] at h2; cases h2
      | some a => rw [e] at h2; cases h2; rfl
    obtain ⟨u, hu, rv⟩ := r.get ha
    have hp : ps[i]? = some y := by
      rw [← S.pre, List.getElem?_take_of_lt (by (clear S hd e0 r hpl hk x noA h1 h2 h3 ha hu rv; omega))]; exact h1
    have ndP : ps.Nodup := by rw [← S.pre]; exact S.nd.sublist (List.take_sublist _ _)
    refine ⟨u, rv, ?_⟩
    rcases S.par y (List.mem_of_getElem? hp) with k | k
    · exact .inl ⟨k, bindL_get ndP hp hu k⟩
    · obtain ⟨c, e⟩ := cell_has (n := s.heap.objs.size + 1) k
      refine .inr ⟨.inl k, c, e, ?_⟩
      have q := x.cell y c e
      rw [bindC_get ndP hp hu (by show scope.names.lookup y ≠ _; rw [k]; decide)] at q
      exact q
  · exact e0.hok.fresh (Nat.le_of_lt (x.above y c (PySem.mem_of_lookup h)))
  · unfold start
    show _ = N.length
    rw [List.length_append, List.length_map, List.length_replicate]
    (clear S hd e0 r hk x noA; omega)
theorem fn_of {CX : CXT} {P : Program} {w : World} {K : PySem.W.Frag} {mg : Str → Option Value} {base : Heap} {k : Nat} {f : Addr} {name qual : Str} {params : Arguments} {body : List Stmt} {scope : Scope} {dV kV doc pm cdv ct oc : Value} {an od : Option Addr}
    {osl : Array (Option Value)} {N ps : List Str} {sp : Sp} (lk : K.lookup f = some ⟨oc, od, .func (PySem.W.fnOf name qual params body scope dV kV doc pm an cdv ct), osl⟩) (hcd : PySem.W.codeIn K cdv qual = true) (S : FnScope N ps scope)
    (len : ∀ vs H Q E, sp vs H Q E → vs.length = ps.length)
    (hbody : ∀ (A : Around) (outer : List Env) (s : Shared) (H : Hp) (vs : List V) (Q : VK) (E : XK), Room k (A.deeper (envOfC qual scope s.heap.objs.size f cdv)) → sp vs H Q E →
      ∃ t, PSs (cxOf CX P w K mg base N qual scope f cdv A outer s H E) body t ∧ t { nx := fun _ H' => Q .non H', rt := Q } (start N vs) H) :
    FnOk P w K mg base CX (k + 1) f (PySem.W.fnOf name qual params body scope dV kV doc pm an cdv ct) ps sp := by
  refine ⟨len, fun A outer s H args us vs Q E hr e0 hb r hsp => ?_⟩
  have hl := len _ _ _ _ hsp
  have KX : K.In s.heap := e0.mod.kin.keeps fun b o e => (e0.bs b o e).1
  have lim : s.heap.NoLimit := e0.mod.nolimit.keeps fun b o e => (e0.bs b o e).1
  have hkind : ∀ y ∈ ps.zip us, scope.names.lookup y.1 = some .local ∨ (scope.names.lookup y.1 = some .cell ∧ ((cellsFrom (s.heap.objs.size + 1) scope.names []).lookup y.1).isSome = true) := fun ⟨n, v⟩ hy => by
    rcases S.par n (List.of_mem_zip hy).1 with q | q
    · exact .inl q
    · exact .inr ⟨q, PySem.W.cellsFrom_some _ _ _ (.inl q)⟩
  refine codeAny_call_function hr.depth (KX _ _ lk) rfl S.co S.gen rfl (PySem.W.codeRec_of KX hcd) (hb _ _ _ _ ?_)
  refine wpAny_newFunctionEnv_cells S.kind hkind fun env he s1 x => ?_
  subst he
  refine ⟨lim.keeps x.toInCall.keep, codeAny_func ?_⟩
  obtain ⟨t, ht, hq⟩ := hbody A outer s H vs Q E (hr.deeper _) hsp
  have I : Inv (cxOf CX P w K mg base N qual scope f cdv A outer s H E) [] (start N vs) H s1 := inv_start S hr.hd e0 hl r x
  refine wpAny_mono (ht [] s1 (start N vs) H _ I hq) (fun fl s' hs => ?_) fun e s' hs => hs
  have fin : ∀ {σ' : St} {H' : Hp} {v : V} {u : Value}, Inv (cxOf CX P w K mg base N qual scope f cdv A outer s H E) [] σ' H' s' → RelV v u → Q v H' → CE outer P w H s Q u s' :=
    fun {σ' H' v u} J rv q => ⟨v, H', J.os, J.bare, J.base, J.hok, rv, q⟩
  cases fl with
  | ret u =>
    obtain ⟨v, σ', H', J, rv, q⟩ := hs
    exact fin J rv q
  | next =>
    obtain ⟨σ', H', J, q⟩ := hs
    exact fin (v := V.non) (u := Value.none) J rfl q
  | brk =>
    obtain ⟨_, _, _, q⟩ := hs
    exact False.elim q
  | cont =>
    obtain ⟨_, _, _, q⟩ := hs
    exact False.elim q
end L2
namespace L2
open PySem PySem.Spec PyProof.Rows
section
variable {X : Cx} {x : Str} {p pos : Pos} {e : Expr} {es : List Expr} {t : TA} {id T : String} {r : List V → Hp → VK → Prop}
noncomputable def tCB (r : List V → Hp → VK → Prop) (t : TA) : TE := fun σ H Q => t σ H fun vs H1 => r vs H1 Q
theorem pe_callB (hc : CallR X (.builtin id) r) (hg : Gl X x) (hm : X.mg x = none) (hv : bootBuiltins x = some (.builtin id)) (ha : PA X (e :: es) t) (hn : x ≠ "__name__" := by decide) (hdb : (x == ("__debug__" : Str)) = false := by decide)
    (he : starEach (e :: es) X.env = (false, eval e X.env) :: starEach es X.env := by rfl) (hpl : (backTo pos (starEach es X.env)).any (·.1) = false := by rfl) : PE X (.Call (.Name x p) (e :: es) [] pos) (tCB r t) := by
  intro pins s σ H Q I h
  refine wpAny_Call_Name_kw (ld_blt I hg hm hv ?_ hn hdb)
  exact PyProof.Rows.callWith_builtin1 (thn (ha pos pins s σ H _ I h) fun us s1 ⟨vs, H1, I1, r1, q1⟩ => hc pins s1 σ H1 vs us Q I1 r1 q1) he hpl
theorem pe_callTy (hc : CallR X (.type T) r) (hg : Gl X x) (hm : X.mg x = none) (hv : bootBuiltins x = some (.type T)) (ha : PA X (e :: es) t) (hn : x ≠ "__name__" := by decide) (hdb : (x == ("__debug__" : Str)) = false := by decide)
    (he : starEach (e :: es) X.env = (false, eval e X.env) :: starEach es X.env := by rfl) (hpl : (backTo pos (starEach es X.env)).any (·.1) = false := by rfl) : PE X (.Call (.Name x p) (e :: es) [] pos) (tCB r t) := by
  intro pins s σ H Q I h
  refine wpAny_Call_Name_kw (ld_blt I hg hm hv ?_ hn hdb)
  exact PyProof.Rows.callWith_type1 (thn (ha pos pins s σ H _ I h) fun us s1 ⟨vs, H1, I1, r1, q1⟩ => hc pins s1 σ H1 vs us Q I1 r1 q1) he hpl
end
end L2
namespace HT
open PySem PyProof.Rows
theorem rcLt_int (A : Around) (s : Shared) (a : Int) (t : Tok) (c : Int) (u : Tok) (prog : Program) (w : World) (E : Value → Shared → Prop) (Q : Value → Shared → Prop) (h : Q (.bool (decide (a < c))) s) :
    wpAny (model prog w) A (richCompare .Lt (.int a t) (.int c u)) Q E s :=
  (PyProof.Rows.lt_int h : wpAny (model prog w) A (compareOp .Lt (.int a t) (.int c u)) Q E s)
section
open PySem.SeqAt
open PySem.AutoSeq1 (wpAny_loadPart')
open PySem.MeetsSeq PySem.MeetsSeq2 PySem.MeetsSeq3
end
section
variable {prog : Program} {w : World} {A : Around} {E : Value → Shared → Prop} {s : Shared}
theorem cat_tup {t b : Addr} {vs ws : List Value} {Q : Value → Shared → Prop} (ht : IsTup s.heap t vs.toArray) (hb : IsTup s.heap b ws.toArray) (hv : vs ≠ [])
    (h1 : ws = [] → Q (.ref t) s) (h2 : ws ≠ [] → Q (.ref s.heap.objs.size) { s with heap := s.heap.push { cls := .type "tuple", data := .seq (vs ++ ws).toArray } })
    (hsz : vs.length + ws.length ≤ sizeLine) : wpAny (model prog w) A (binaryOp .Add (.ref t) (.ref b)) Q E s := by
  obtain ⟨⟨cls, dd, data, sl⟩, ho, hc, n, hd⟩ := id ht
  obtain ⟨⟨cls2, dd2, data2, sl2⟩, ho2, hc2, n2, hd2⟩ := id hb
  simp only at hc hd hc2 hd2
  subst hc hd hc2 hd2
  have e : vs.toArray ++ ws.toArray = (vs ++ ws).toArray := by simp
  by_cases hw : ws = []
  · exact concat_meets ⟨_, ho, rfl⟩ ⟨_, ho2, rfl⟩ noFill_tuple_add seq_tuple_add PySem.F.slot_tuple_add PySem.F.entry_tuple_add (PySem.F.args_tuple_add_2 _ _)
      (tuple_addW1 t b vs.toArray ws.toArray n n2 dd dd2 sl sl2 (by simpa using hv) (by simp [hw])) ⟨ho, ho2, h1 hw⟩
  · refine concat_meets ⟨_, ho, rfl⟩ ⟨_, ho2, rfl⟩ noFill_tuple_add seq_tuple_add PySem.F.slot_tuple_add PySem.F.entry_tuple_add (PySem.F.args_tuple_add_2 _ _)
      (tuple_addW2 t b vs.toArray ws.toArray n n2 dd dd2 sl sl2 (by simpa using hv) (by simpa using hw) (by rw [List.size_toArray, List.size_toArray]; exact hsz)) ⟨ho, ho2, ?_⟩
    rw [e]
    exact h2 hw
noncomputable def sIx (n d : Nat) : Option Int → Nat
  | none => d
  | some v => if v < 0 then (v + (n : Int)).toNat else min v.toNat n
theorem sIx_none (n d : Nat) : sIx n d none = d := rfl
theorem sIx_nat (n d k : Nat) : sIx n d (some (k : Int)) = min k n := by
  show (if (k : Int) < 0 then ((k : Int) + (n : Int)).toNat else min (k : Int).toNat n) = min k n
  rw [if_neg (by omega), Int.toNat_natCast]
theorem sIx_le (n d : Nat) (hd : d ≤ n) (o : Option Int) : sIx n d o ≤ n := by
  cases o with
  | none => exact hd
  | some v =>
    show (if v < 0 then (v + (n : Int)).toNat else min v.toNat n) ≤ n
    by_cases hv : v < 0
    · rw [if_pos hv]; omega
    · rw [if_neg hv]; exact Nat.min_le_right _ _
theorem clip_eq (v : Int) (n d : Nat) : (if v < 0 then max (v + (n : Int)) 0 else min v (n : Int)) = ((sIx n d (some v) : Nat) : Int) := by
  show (if v < 0 then max (v + (n : Int)) 0 else min v (n : Int)) = (((if v < 0 then (v + (n : Int)).toNat else min v.toNat n) : Nat) : Int)
  by_cases hv : v < 0
  · simp only [if_pos hv]; (clear hv; omega)
  · simp only [if_neg hv]; omega
theorem adjust_gen (lo hi : Option Int) (n : Nat) : Builtin.Slice.sliceAdjust lo hi 1 (n : Int) = (((sIx n 0 lo : Nat) : Int), ((sIx n n hi : Nat) : Int)) := by
  have h1 : ¬ ((1 : Int) < 0) := by omega
  unfold Builtin.Slice.sliceAdjust
  simp only [h1, if_false]
  refine Prod.ext ?_ ?_
  · cases lo with
    | none => rfl
    | some v => exact clip_eq v n 0
  · cases hi with
    | none => rfl
    | some v => exact clip_eq v n n
theorem places_gen (i j : Nat) : Builtin.Slice.slicePlaces (i : Int) (j : Int) 1 = j - i := by
  unfold Builtin.Slice.slicePlaces
  have h1 : (1 : Int) > 0 := by omega
  simp only [h1, if_true, Int.ediv_one]
  split <;> (clear h1; omega)
theorem slicePart_ {v : Value} {o : Option Int} {Q : Option Int → Shared → Prop} (p : IsPart v o) (h : Q o s) : wpAny (model prog w) A (Builtin.Slice.slicePartIndex v) Q E s := by
  cases p with
  | none => exact slicePart_none h
  | int i t => exact slicePart_int h
theorem sliceApplied_gen {sl : Addr} {vl vu : Value} {lo hi : Option Int} {n : Nat} {Q : Int × Int × Nat → Shared → Prop} (hs : s.heap.IsSliceOf sl vl vu .none) (pl : IsPart vl lo) (pu : IsPart vu hi)
    (h : Q (((sIx n 0 lo : Nat) : Int), 1, sIx n n hi - sIx n 0 lo) s) : wpAny (model prog w) A (Builtin.Slice.sliceApplied (.ref sl) (pure (n : Int))) Q E s := by
  obtain ⟨os, hos, hcs, hds⟩ := id hs
  unfold Builtin.Slice.sliceApplied Builtin.Slice.sliceFields
  refine wpAny_bind (wpAny_bind (wpAny_field hos hds (x := vl) rfl (wpAny_bind (wpAny_field hos hds (x := vu) rfl (wpAny_bind (wpAny_field hos hds (x := .none) rfl (wpAny_pure ?_)))))))
  refine wpAny_bind (slicePart_none ?_)
  show wpAny _ _ (if ((1 : Int) == 0) = true then _ else _) _ _ s
  rw [if_neg (by decide)]
  refine wpAny_bind (slicePart_ pl (wpAny_bind (slicePart_ pu (wpAny_bind (wpAny_pure ?_)))))
  show wpAny _ _ (match Builtin.Slice.sliceAdjust lo hi 1 (n : Int) with | (lo, hi) => pure (lo, (1 : Int), Builtin.Slice.slicePlaces lo hi 1)) _ _ s
  rw [adjust_gen lo hi n]
  show wpAny _ _ (pure (((sIx n 0 lo : Nat) : Int), (1 : Int), Builtin.Slice.slicePlaces ((sIx n 0 lo : Nat) : Int) ((sIx n n hi : Nat) : Int) 1)) _ _ s
  rw [places_gen]
  exact wpAny_pure h
theorem pick_gen (xs : Array Value) (i k : Nat) : ((List.range k).filterMap fun (m : Nat) => xs[((i : Int) + (m : Int) * 1).toNat]?).toArray = ((xs.toList.drop i).take k).toArray := by
  have e : (fun (m : Nat) => xs[((i : Int) + (m : Int) * 1).toNat]?) = fun m => xs[i + m]? := by
    funext m
    have : ((i : Int) + (m : Int) * 1).toNat = i + m := by omega
    rw [this]
  rw [e]
  have := pick_run xs i k
  rw [List.filterMap_map] at this
  have e2 : ((fun x => xs[x]?) ∘ fun x => i + x) = fun m => xs[i + m]? := rfl
  rw [e2] at this
  rw [this]
theorem getItem_tuple_cut {t sl : Addr} {items : Array Value} {vl vu : Value} {lo hi : Option Int} {Q : Value → Shared → Prop} (ht : IsTup s.heap t items) (hs : s.heap.IsSliceOf sl vl vu .none) (pl : IsPart vl lo) (pu : IsPart vu hi)
    (hw : ¬ (sIx items.size 0 lo = 0 ∧ sIx items.size items.size hi = items.size))
    (h : Q (.ref s.heap.objs.size) { s with heap := s.heap.push { cls := .type "tuple", data := .seq ((items.toList.drop (sIx items.size 0 lo)).take (sIx items.size items.size hi - sIx items.size 0 lo)).toArray } })
    (hsz : items.size ≤ sizeLine) : wpAny (model prog w) A (getItem (.ref t) (.ref sl)) Q E s := by
  have htake : sizeOk (.seq ((items.toList.drop (sIx items.size 0 lo)).take (sIx items.size items.size hi - sIx items.size 0 lo)).toArray) := by
    show ((items.toList.drop (sIx items.size 0 lo)).take (sIx items.size items.size hi - sIx items.size 0 lo)).toArray.size ≤ sizeLine
    rw [List.size_toArray, List.length_take, List.length_drop, Array.length_toList]
    (clear ht hs pl pu hw h; omega)
  have hj : sIx items.size items.size hi ≤ items.size := sIx_le _ _ (Nat.le_refl _) hi
  obtain ⟨os, hos, hcs, hds⟩ := id hs
  have hTs : s.TypeIs (.ref sl) "slice" := ⟨os, hos, hcs⟩
  unfold getItem
  try with_reducible refine wpAny_holding ?_
  first | refine wpAny_bind (wpAny_pure ?_) | skip
  refine wpAny_bind (wpAny_sequenceKey ht.typeIs (by decide) ?_)
  refine wpAny_bind (wpAny_callSpecial?_slot (name := Str.ofString "__getitem__") ht.typeIs PyProof.Rows.slot_tuple_getitem
    (wpAny_call_entry PyProof.Rows.slot_tuple_getitem ht.typeIs entry_tuple_getitem ?_ (args_tuple_getitem _ _)))
  show wpAny _ _ (Builtin.Tuple.tupleItemsOf (.ref t) >>= _) _ _ s
  refine wpAny_bind (tupleItemsOf_ ht ?_)
  refine wpAny_bind (wpAny_typeOf hTs ?_)
  rw [if_pos (by decide)]
  refine wpAny_bind (sliceApplied_gen hs pl pu ?_)
  have hno : ¬ ((((sIx items.size 0 lo : Nat) : Int) == 0 && (1 : Int) == 1 && (sIx items.size items.size hi - sIx items.size 0 lo) == items.size) = true) := by
    intro q
    rw [Bool.and_eq_true, Bool.and_eq_true] at q
    have q1 : ((sIx items.size 0 lo : Nat) : Int) = 0 := eq_of_beq q.1.1
    have q2 : sIx items.size items.size hi - sIx items.size 0 lo = items.size := eq_of_beq q.2
    exact hw ⟨by (clear ht hs pl pu hw h hsz htake hj hos hcs hds hTs q q2; omega), by (clear ht hs pl pu hw h hsz htake hos hcs hds hTs q; omega)⟩
  show wpAny _ _ (if (((sIx items.size 0 lo : Nat) : Int) == 0 && (1 : Int) == 1 && (sIx items.size items.size hi - sIx items.size 0 lo) == items.size) = true then _ else _) _ _ s
  rw [if_neg hno, pick_gen]
  first
    | exact wpAny_bind (m := Builtin.Tuple.tupleExact _) (wpAny_newObj_type (wpAny_pure ⟨_, rfl, wpAny_pure h⟩) htake)
    | exact wpAny_bind (m := Builtin.Tuple.tupleExact _) (wpAny_newObj_type (wpAny_bind (wpAny_pure (wpAny_pure ⟨_, rfl, wpAny_pure h⟩))) htake)
    | exact wpAny_bind (wpAny_bind (m := Builtin.Tuple.tupleExact _) (wpAny_newObj_type (wpAny_pure (wpAny_pure ⟨_, rfl, wpAny_pure h⟩)) htake))
    | exact wpAny_bind (wpAny_bind (m := Builtin.Tuple.tupleExact _) (wpAny_newObj_type (wpAny_pure ⟨_, rfl, wpAny_pure h⟩) htake))
end
end HT
namespace L2
open PySem PySem.Spec PyProof.Rows
noncomputable abbrev TO := St → Hp → (Option Int → Hp → Prop) → Prop
noncomputable def PO (X : Cx) (e : Option Expr) (t : TO) : Prop :=
  ∀ (pins : List (Addr × Obj)) (s : Shared) (σ : St) (H : Hp) (Q : Option Int → Hp → Prop), Inv X pins σ H s → t σ H Q →
    wpAny (model X.prog X.w) X.A (evalPart e X.env) (fun u s' => ∃ o H', Inv X pins σ H' s' ∧ IsPart u o ∧ Q o H') X.xe s
noncomputable def tNoPart : TO := fun _ H Q => Q none H
noncomputable def tPart (t : TE) : TO := fun σ H Q => t σ H fun x H1 => ∃ i, x = .int i ∧ Q (some i) H1
theorem intsAre_of {ns : List Int} : ∀ {us : List Value}, Vals (ns.map V.int) us → IntsAre us ns := by
  induction ns with
  | nil => intro us r; rw [List.map_nil] at r; cases r; exact .nil
  | cons n ns ih =>
    intro us r
    rw [List.map_cons] at r
    cases r with
    | cons r1 r2 =>
      obtain ⟨t, e⟩ := r1
      subst e
      exact .cons n t (ih r2)
section
variable {X : Cx} {e : Expr} {te : TE} {lo hi : Option Expr} {tl th : TO} {pos p2 : Pos}
theorem po_none : PO X none tNoPart := by
  intro pins s σ H Q I h
  rw [evalPart_none]
  exact wpAny_pure ⟨none, H, I, .none, h⟩
theorem po_some (h : PE X e te) : PO X (some e) (tPart te) := by
  intro pins s σ H Q I hw
  rw [evalPart_some]
  refine thn (h pins s σ H _ I hw) fun u s1 ⟨x, H1, I1, r1, q1⟩ => ?_
  obtain ⟨i, rfl, q⟩ := q1
  obtain ⟨t, rfl⟩ := r1
  exact ⟨some i, H1, I1, .int i t, q⟩
noncomputable def SlR (X : Cx) (r : V → Option Int → Option Int → Hp → VK → Prop) : Prop :=
  ∀ (pins : List (Addr × Obj)) (s : Shared) (σ : St) (H : Hp) (x : V) (v vl vu : Value) (lo hi : Option Int) (sl : Addr) (Q : VK), Inv X pins σ H s → RelV x v → s.heap.IsSliceOf sl vl vu .none → IsPart vl lo → IsPart vu hi → r x lo hi H Q →
    ∃ T id, typeLookup (.type T) "__getitem__" = pure (some (.builtin id)) ∧ s.TypeIs v T ∧ wpAny (model X.prog X.w) X.A (getItem v (.ref sl)) (EP X pins σ Q) X.xe s
noncomputable def tSl (r : V → Option Int → Option Int → Hp → VK → Prop) (te : TE) (tl th : TO) : TE := fun σ H Q => te σ H fun x H1 => tl σ H1 fun l H2 => th σ H2 fun u H3 => r x l u H3 Q
theorem pe_slice {r : V → Option Int → Option Int → Hp → VK → Prop} (hr : SlR X r) (he : PE X e te) (hl : PO X lo tl) (hu : PO X hi th) : PE X (.Subscript e (.Slice lo hi none p2) pos) (tSl r te tl th) := by
  intro pins s σ H Q I h
  refine Subscript_ (thn (he pins s σ H _ I h) fun v s1 ⟨x, H1, I1, r1, q1⟩ => ?_)
  refine wpAny_Slice (thn (hl pins s1 σ H1 _ I1 q1) fun vl s2 ⟨l, H2, I2, pl, q2⟩ => thn (hu pins s2 σ H2 _ I2 q2) fun vu s3 ⟨u, H3, I3, pu, q3⟩ => ?_)
  rw [evalPart_none]
  refine wpAny_pure ?_
  have I4 : Inv X pins σ H3 { s3 with heap := s3.heap.push { cls := .type "slice", data := .fields #[vl, vu, .none] } } := I3.kept (t' := s3.toks) fun b ob q => Heap.get?_push_of_some _ q
  obtain ⟨T, id, hT, ht, hg⟩ := hr pins { s3 with heap := s3.heap.push { cls := .type "slice", data := .fields #[vl, vu, .none] } } σ H3 x v vl vu l u s3.heap.objs.size Q I4 r1 (Heap.IsSliceOf.new ..) pl pu q3
  show wpAny (model X.prog X.w) X.A (subscriptTail e (.Slice lo hi none p2) v (.ref s3.heap.objs.size)) (EP X pins σ Q) X.xe { s3 with heap := s3.heap.push { cls := .type "slice", data := .fields #[vl, vu, .none] } }
  exact tail_any (ops := [.ref s3.heap.objs.size, v]) ht hT hg (by with_unfolding_all rfl)
noncomputable def cutV (xs : List V) (lo hi : Option Int) : List V := (xs.drop (HT.sIx xs.length 0 lo)).take (HT.sIx xs.length xs.length hi - HT.sIx xs.length 0 lo)
theorem cutV_length (xs : List V) (lo hi : Option Int) : (cutV xs lo hi).length ≤ xs.length := by
  unfold cutV
  rw [List.length_take, List.length_drop]
  omega
noncomputable def rSlT (K : PySem.W.Frag) : V → Option Int → Option Int → Hp → VK → Prop := fun x lo hi H Q => ∃ a xs, x = .ref a ∧ SqT K H a xs ∧
  ¬ (HT.sIx xs.length 0 lo = 0 ∧ HT.sIx xs.length xs.length hi = xs.length) ∧ ∀ p, H p = none → Q (.ref p) (upd H p (.tup (cutV xs lo hi)))
theorem sl_tup : SlR X (rSlT X.K) := by
  intro pins s σ H x v vl vu lo hi sl Q I rx hs pl pu h
  obtain ⟨a, xs, rfl, hx, hw, q⟩ := h
  cases rx
  obtain ⟨its, r, ht, hz⟩ := I.tuple hx
  have hlen : its.toArray.size = xs.length := by rw [List.size_toArray]; exact r.length.symm
  refine ⟨"tuple", _, PyProof.Rows.slot_tuple_getitem.lookup, ht.typeIs, ?_⟩
  refine HT.getItem_tuple_cut ht hs pl pu (by rw [hlen]; exact hw) ?_ (by rw [hlen]; exact hz)
  rw [hlen]
  refine ⟨.ref s.heap.objs.size, _, I.laid (t' := s.toks) (o := .tup (cutV xs lo hi)) (fun b ob q => Heap.get?_push_of_some _ q) (Nat.le_refl _) ?_, rfl, q _ (I.hok.fresh (Nat.le_refl _))⟩
  exact ⟨Nat.le_trans (cutV_length xs lo hi) hz, _, (r.drop (HT.sIx xs.length 0 lo)).take (HT.sIx xs.length xs.length hi - HT.sIx xs.length 0 lo), IsTup.new _ _⟩
noncomputable def rCatT (K : PySem.W.Frag) : R2 := fun x y H Q => ∃ a b xs ys, x = .ref a ∧ y = .ref b ∧ SqT K H a xs ∧ SqT K H b ys ∧ xs ≠ [] ∧ xs.length + ys.length ≤ sizeLine ∧
  (ys = [] → Q (.ref a) H) ∧ (ys ≠ [] → ∀ p, H p = none → Q (.ref p) (upd H p (.tup (xs ++ ys))))
theorem Vals.nil_iff {xs : List V} {us : List Value} (r : Vals xs us) : us = [] ↔ xs = [] := by
  cases r with
  | nil => simp
  | cons _ _ => simp
theorem op_catT : OpR X (binaryOp .Add) (rCatT X.K) := by
  intro pins s σ H x y v u Q I rx ry h
  obtain ⟨a, b, xs, ys, rfl, rfl, ha, hb, hx, hz, q1, q2⟩ := h
  cases rx
  cases ry
  obtain ⟨its, r1, p1, _⟩ := I.tuple ha
  obtain ⟨its2, r2, p2, _⟩ := I.tuple hb
  refine HT.cat_tup p1 p2 (fun z => hx (r1.nil_iff.mp z)) (fun z => ⟨.ref a, H, I, rfl, q1 (r2.nil_iff.mp z)⟩) (fun z => ?_) (by rw [← r1.length, ← r2.length]; exact hz)
  refine ⟨.ref s.heap.objs.size, _, I.laid (t' := s.toks) (o := .tup (xs ++ ys)) (fun b ob q => Heap.get?_push_of_some _ q) (Nat.le_refl _) ?_, rfl, q2 (fun w => z (r2.nil_iff.mpr w)) _ (I.hok.fresh (Nat.le_refl _))⟩
  exact ⟨by rw [List.length_append]; exact hz, _, r1.append r2, IsTup.new _ _⟩
end
end L2
namespace L2
open PySem PySem.Spec PyProof.Rows
noncomputable def ixN (n : Nat) (i : Int) : Option Nat := if 0 ≤ i then (if i < n then some i.toNat else none) else if -(n : Int) ≤ i then some (i + n).toNat else none
noncomputable def atI {α : Type} (xs : List α) (i : Int) : Option α := (ixN xs.length i).bind fun j => xs[j]?
theorem ixN_seq {n : Nat} {i : Int} {j : Nat} (h : ixN n i = some j) : seqIndex? i n = some j ∧ j < n ∧ -(n : Int) ≤ i ∧ i < n := by
  unfold ixN at h
  by_cases h0 : 0 ≤ i
  · rw [if_pos h0] at h
    by_cases h1 : i < n
    · rw [if_pos h1] at h
      have e : i.toNat = j := Option.some.inj h
      exact ⟨by rw [seqIndex_of h0 h1, e], by (clear h; omega), by (clear h h1 e; omega), h1⟩
    · rw [if_neg h1] at h; cases h
  · rw [if_neg h0] at h
    by_cases h1 : -(n : Int) ≤ i
    · rw [if_pos h1] at h
      have e : (i + n).toNat = j := Option.some.inj h
      exact ⟨by rw [seqIndex_neg (by (clear h h1 e; omega)) h1, e], by (clear h; omega), h1, by (clear h e; omega)⟩
    · rw [if_neg h1] at h; cases h
theorem atI_get {α : Type} {xs : List α} {i : Int} {v : α} (h : atI xs i = some v) : ∃ j, seqIndex? i xs.length = some j ∧ xs[j]? = some v ∧ j < xs.length ∧ -(xs.length : Int) ≤ i ∧ i < xs.length := by
  unfold atI at h
  cases e : ixN xs.length i with
  | none => rw [e] at h; cases h
  | some j =>
    rw [e] at h
    obtain ⟨h1, h2, h3, h4⟩ := ixN_seq e
    exact ⟨j, h1, h, h2, h3, h4⟩
theorem atI_nat {α : Type} {xs : List α} {j : Nat} {v : α} (h : xs[j]? = some v) : atI xs (j : Int) = some v := by
  have hj : j < xs.length := (List.getElem?_eq_some_iff.mp h).1
  have e : ixN xs.length (j : Int) = some j := by
    unfold ixN
    rw [if_pos (by (clear h hj; omega)), if_pos (by (clear h; omega))]; simp
  unfold atI; rw [e]; exact h
noncomputable def PlainIx (b : Expr) : Prop := ∀ o i, subscripted b false o i = operate [o, i] (getItem o i)
noncomputable def IxR (X : Cx) (r : R2) : Prop :=
  ∀ (value slice : Expr) (pins : List (Addr × Obj)) (s : Shared) (σ : St) (H : Hp) (x y : V) (v u : Value) (Q : VK), Inv X pins σ H s → RelV x v → RelV y u → r x y H Q →
    subscripted slice false v u = operate [v, u] (getItem v u) → wpAny (model X.prog X.w) X.A (subscriptTail value slice v u) (EP X pins σ Q) X.xe s
noncomputable def MtR (X : Cx) (id : String) (r : V → List V → Hp → VK → Prop) : Prop :=
  ∀ (pins : List (Addr × Obj)) (s : Shared) (σ : St) (H : Hp) (x : V) (xs : List V) (v : Value) (us : List Value) (Q : VK), Inv X pins σ H s → RelV x v → Vals xs us → r x xs H Q →
    wpAny (model X.prog X.w) X.A (call (.builtin id) (v :: us)) (EP X pins σ Q) X.xe s
section
variable {X : Cx} {a b : Expr} {ta tb : TE} {pos : Pos}
theorem pe_ix {r : R2} (hr : IxR X r) (ha : PE X a ta) (hb : PE X b tb) (hs : PlainIx b) : PE X (.Subscript a b pos) (tOp r ta tb) := by
  intro pins s σ H Q I h
  exact Subscript_ (binT ha hb I h fun v u s2 x y H2 I2 rx ry q => hr a b pins s2 σ H2 x y v u Q I2 rx ry q (hs _ _))
noncomputable def rIxL (K : PySem.W.Frag) : R2 := fun x y H Q => ∃ p xs i v, x = .ref p ∧ y = .int i ∧ SqL K H p xs ∧ atI xs i = some v ∧ Q v H
noncomputable def rIxT (K : PySem.W.Frag) : R2 := fun x y H Q => ∃ p xs i v, x = .ref p ∧ y = .int i ∧ SqT K H p xs ∧ atI xs i = some v ∧ Q v H
theorem ix_list : IxR X (rIxL X.K) := by
  intro value slice pins s σ H x y v u Q I rx ry h hs
  obtain ⟨p, xs, i, z, rfl, rfl, hq, he, q⟩ := h
  cases rx
  obtain ⟨t, rfl⟩ := ry
  obtain ⟨its, r, pl, hz⟩ := I.list hq
  obtain ⟨j, h1, h2, h3, h4, h5⟩ := atI_get he
  obtain ⟨w, ew, rw'⟩ := r.get h2
  have hl := r.length
  have hn := line63
  have fin : EP X pins σ Q w s := ⟨z, H, I, rw', q⟩
  by_cases h0 : 0 ≤ i
  · have hj : i.toNat = j := by
      rw [seqIndex_of h0 h5] at h1
      exact Option.some.inj h1
    exact item_listR pl.isList h0 (by (clear I hq he q hs r pl h1 h2 h3 h4 ew rw' fin h0 hj; omega)) (by rw [hj]; simpa using ew) fin hs
  · have hj : (i + (its.toArray.size : Int)).toNat = j := by
      rw [seqIndex_neg (by (clear I hq he q hs r pl hz h1 h2 h3 h4 h5 ew rw' hl hn fin; omega)) h4] at h1
      rw [List.size_toArray, ← hl]
      exact Option.some.inj h1
    exact subscriptTail_builtinR (x := w) pl.isList.typeIs slot_list_getitem.lookup
      (wpAny_getItem_list_neg (Q := fun r s' => r = w ∧ EP X pins σ Q r s') pl.isList (by (clear I hq he q hs r pl hz h1 h2 h3 h4 h5 ew rw' hl hn fin hj; omega)) (by rw [List.size_toArray] <;> (clear I hq he q hs r pl hz h1 h2 h3 h5 ew rw' hn fin h0 hj; omega)) (by (clear I hq he q hs r pl h1 h2 h3 h5 ew rw' fin h0 hj; omega)) (by rw [hj]; simpa using ew) ⟨rfl, fin⟩) hs
theorem ix_tup : IxR X (rIxT X.K) := by
  intro value slice pins s σ H x y v u Q I rx ry h hs
  obtain ⟨p, xs, i, z, rfl, rfl, hq, he, q⟩ := h
  cases rx
  obtain ⟨t, rfl⟩ := ry
  obtain ⟨its, r, pl, hz⟩ := I.tuple hq
  obtain ⟨j, h1, h2, h3, h4, h5⟩ := atI_get he
  obtain ⟨w, ew, rw'⟩ := r.get h2
  have hl := r.length
  have hn := line63
  have fin : EP X pins σ Q w s := ⟨z, H, I, rw', q⟩
  exact subscriptTail_builtinR (x := w) pl.typeIs slot_tuple_getitem.lookup
    (getItem_tuple (j := j) (Q := fun r s' => r = w ∧ EP X pins σ Q r s') pl (by (clear I hq he q hs r pl h1 h2 h5 ew rw' fin; omega)) (by (clear I hq he q hs r pl h1 h2 h4 ew rw' fin; omega)) (by rw [List.size_toArray, ← hl]; exact h1) (by simpa using ew) ⟨rfl, fin⟩) hs
theorem slice_bounds (lo hi : Option Int) (n : Nat) : (sliceBounds lo hi none n).1 = ((HT.sIx n 0 lo : Nat) : Int) ∧ (sliceBounds lo hi none n).2.1 = ((HT.sIx n n hi : Nat) : Int) ∧ (sliceBounds lo hi none n).2.2 = 1 := by
  refine ⟨?_, ?_, rfl⟩
  · cases lo with
    | none => simp [sliceBounds, HT.sIx]
    | some i =>
      simp only [sliceBounds, HT.sIx, Option.getD_none, show (1 : Int) > 0 by decide, if_true]
      by_cases h : i < 0
      · simp only [h, if_true] <;> omega
      · simp only [h, if_false] <;> omega
  · cases hi with
    | none => simp [sliceBounds, HT.sIx]
    | some i =>
      simp only [sliceBounds, HT.sIx, Option.getD_none, show (1 : Int) > 0 by decide, if_true]
      by_cases h : i < 0
      · simp only [h, if_true] <;> omega
      · simp only [h, if_false] <;> omega
theorem slicePick_cut (its : List Value) (lo hi : Option Int) : slicePick its.toArray lo hi none = ((its.drop (HT.sIx its.length 0 lo)).take (HT.sIx its.length its.length hi - HT.sIx its.length 0 lo)).toArray := by
  obtain ⟨h1, h2, h3⟩ := slice_bounds lo hi its.toArray.size
  unfold slicePick
  rw [h1, h2, h3]
  simp only [sliceRange_one, pick_run, List.size_toArray] <;> rfl
noncomputable def rSlL (K : PySem.W.Frag) : V → Option Int → Option Int → Hp → VK → Prop := fun x lo hi H Q => ∃ a xs, x = .ref a ∧ SqL K H a xs ∧ ∀ p, H p = none → Q (.ref p) (upd H p (.lst (cutV xs lo hi)))
theorem sl_list : SlR X (rSlL X.K) := by
  intro pins s σ H x v vl vu lo hi sl Q I rx hs pl pu h
  obtain ⟨a, xs, rfl, hx, q⟩ := h
  cases rx
  obtain ⟨its, r, ht, hz⟩ := I.list hx
  have hlen := r.length
  refine ⟨"list", _, slot_list_getitem.lookup, ht.isList.typeIs, ?_⟩
  refine wpAny_getItem_list_slice ht.isList hs pl pu .none (by simp) ?_ (by rw [List.size_toArray] <;> (clear I hs pl pu hx q r ht; omega))
  rw [slicePick_cut, ← hlen]
  refine ⟨.ref s.heap.objs.size, _, I.laid (t' := s.toks) (o := .lst (cutV xs lo hi)) (fun b ob q => Heap.get?_push_of_some _ q) (Nat.le_refl _) ?_, rfl, q _ (I.hok.fresh (Nat.le_refl _))⟩
  exact ⟨Nat.le_trans (cutV_length xs lo hi) hz, _, 0, (r.drop (HT.sIx xs.length 0 lo)).take (HT.sIx xs.length xs.length hi - HT.sIx xs.length 0 lo), Heap.get?_push_size _ rfl⟩
theorem call_len_seq : CallR X (.builtin "len") (fun xs H Q => ∃ p ys, xs = [.ref p] ∧ (SqL X.K H p ys ∨ SqT X.K H p ys) ∧ Q (.int ys.length) H) := by
  intro pins s σ H xs us Q I r h
  obtain ⟨p, ys, rfl, hq, q⟩ := h
  obtain ⟨u, rfl, rx⟩ := vals1 r
  cases rx
  have hn := line63
  rcases hq with hq | hq
  · obtain ⟨its, r', pl, hz⟩ := I.list hq
    have hlen := r'.length
    exact Calls.call_len_list pl.isList (by simp only [List.size_toArray] <;> (clear I q r hq r' pl; omega)) ⟨.int ys.length, H, I.tok _, ⟨s.toks + 1, by rw [List.size_toArray, hlen]⟩, q⟩
  · obtain ⟨its, r', pl, hz⟩ := I.tuple hq
    have hlen := r'.length
    exact len_tuple pl (by simp only [List.size_toArray] <;> (clear I q r hq r' pl; omega)) ⟨.int ys.length, H, I.tok _, ⟨s.toks + 1, by rw [List.size_toArray, hlen]⟩, q⟩
theorem call_list_of : CallR X (.type "list") (fun xs H Q => ∃ p ys, xs = [.ref p] ∧ (SqL X.K H p ys ∨ SqT X.K H p ys) ∧ ∀ l, H l = none → Q (.ref l) (upd H l (.lst ys))) := by
  intro pins s σ H xs us Q I r h
  obtain ⟨p, ys, rfl, hq, q⟩ := h
  obtain ⟨u, rfl, rx⟩ := vals1 r
  cases rx
  have fin : ∀ (its : List Value), Vals ys its → ys.length ≤ sizeLine → ∀ (h' : Heap) (c' : Nat), (∀ b o', s.heap.get? b = some o' → h'.get? b = some o') →
      h'.get? s.heap.objs.size = some { cls := .type "list", dict := none, data := .seq its.toArray c', slots := #[] } → EP X pins σ Q (.ref s.heap.objs.size) { s with heap := h' } := fun its r' hz h' c' kp e =>
    ⟨.ref s.heap.objs.size, _, I.laid (t' := s.toks) kp (Nat.le_refl _) (show ObjOk X.prog X.w _ h' _ (.lst ys) from ⟨hz, its, c', r', e⟩), rfl, q _ (I.hok.fresh (Nat.le_refl _))⟩
  rcases hq with hq | hq
  · obtain ⟨its, r', pl, hz⟩ := I.list hq
    have hlen := r'.length
    obtain ⟨o, ho, hc, n, hd⟩ := pl.isList
    exact call_list_seq p (.inl rfl) ho hc hd (fun h' c' kp e => fin its r' hz h' c' kp e) (by simp only [List.size_toArray] <;> (clear I q r fin hq r' pl ho hc hd; omega))
  · obtain ⟨its, r', pl, hz⟩ := I.tuple hq
    have hlen := r'.length
    obtain ⟨o, ho, hc, n, hd⟩ := pl
    exact call_list_seq p (.inr rfl) ho hc hd (fun h' c' kp e => fin its r' hz h' c' kp e) (by simp only [List.size_toArray] <;> (clear I q r fin hq r' ho hc hd; omega))
theorem call_tuple_of : CallR X (.type "tuple") (fun xs H Q => ∃ p ys, xs = [.ref p] ∧ ((SqL X.K H p ys ∧ ∀ l, H l = none → Q (.ref l) (upd H l (.tup ys))) ∨ (SqT X.K H p ys ∧ Q (.ref p) H))) := by
  intro pins s σ H xs us Q I r h
  obtain ⟨p, ys, rfl, h⟩ := h
  obtain ⟨u, rfl, rx⟩ := vals1 r
  cases rx
  rcases h with ⟨hq, q⟩ | ⟨hq, q⟩
  · obtain ⟨its, r', pl, hz⟩ := I.list hq
    have hlen := r'.length
    refine call_tuple_list pl.isList (fun h' kp => ?_) (by simp only [List.size_toArray] <;> (clear I r hq q r' pl; omega))
    have I1 : Inv X pins σ H { s with heap := h' } := I.kept (t' := s.toks) kp
    have I2 : Inv X pins σ (upd H h'.objs.size (.tup ys)) { s with heap := h'.push { cls := .type "tuple", data := .seq its.toArray } } :=
      I1.laid (t' := s.toks) (fun b o e => Heap.get?_push_of_some _ e) (Nat.le_refl _) (show ObjOk X.prog X.w _ _ _ (.tup ys) from ⟨hz, its, r', IsTup.new _ _⟩)
    exact ⟨.ref h'.objs.size, _, I2, rfl, q _ (I1.hok.fresh (Nat.le_refl _))⟩
  · obtain ⟨its, r', pl, hz⟩ := I.tuple hq
    exact call_tuple_same pl ⟨.ref p, H, I, rfl, q⟩
noncomputable def tyV (K : PySem.W.Frag) (T : String) (x : V) (H : Hp) : Prop := match x with
  | .str _ => T = "str"
  | .int _ => T = "int"
  | .ref p => (T = "list" ∧ ∃ xs, SqL K H p xs) ∨ (T = "tuple" ∧ ∃ o, K.lookup p = some o ∧ o.cls = .type "tuple" ∧ o.dict = none) ∨
      (T = "dict" ∧ ((∃ kvs, H p = some (.dK kvs)) ∨ ∃ kvs, H p = some (.dT kvs))) ∨ (T = "set" ∧ ∃ S n, H p = some (.set S n))
  | _ => False
theorem tyV_is {pins : List (Addr × Obj)} {σ : St} {H : Hp} {s : Shared} {T : String} {x : V} {v : Value} (I : Inv X pins σ H s) (r : RelV x v) (ty : tyV X.K T x H) :
    s.TypeIs v T ∧ ∀ a, v = .ref a → ∃ ob, s.heap.get? a = some ob ∧ ob.dict = none := by
  cases x with
  | str z =>
    obtain ⟨t, rfl⟩ := r
    cases (show T = "str" from ty)
    exact ⟨typeIs_str s z t, fun _ e => nomatch e⟩
  | int i =>
    obtain ⟨t, rfl⟩ := r
    cases (show T = "int" from ty)
    exact ⟨typeIs_int s i t, fun _ e => nomatch e⟩
  | ref p =>
    cases r
    rcases ty with ⟨rfl, xs, hq⟩ | ⟨rfl, o, hk, hc, hd⟩ | ⟨rfl, hk⟩ | ⟨rfl, S, n, hk⟩
    · obtain ⟨its, _, pl, _⟩ := I.list hq
      refine ⟨pl.isList.typeIs, fun a e => ?_⟩
      cases e
      obtain ⟨o, n, e, c, hd, _⟩ := pl
      exact ⟨o, e, hd⟩
    · refine ⟨⟨o, I.kIn p o hk, hc⟩, fun a e => ?_⟩
      cases e
      exact ⟨o, I.kIn _ o hk, hd⟩
    · have z : ∃ o, s.heap.get? p = some o ∧ o.ExactDict := by
        rcases hk with ⟨kvs, hk⟩ | ⟨kvs, hk⟩
        · obtain ⟨_, _, _, _, o, _, _, e, ex, _⟩ := I.hok p _ hk
          exact ⟨o, e, ex⟩
        · obtain ⟨_, _, _, _, o, _, _, e, ex, _⟩ := I.hok p _ hk
          exact ⟨o, e, ex⟩
      obtain ⟨o, e, ex⟩ := z
      refine ⟨⟨o, e, ex.1⟩, fun a e2 => ?_⟩
      cases e2
      exact ⟨o, e, ex.2.1⟩
    · obtain ⟨o, _, _, _, e, ex, _⟩ := I.hok p _ hk
      refine ⟨⟨o, e, ex.1⟩, fun a e2 => ?_⟩
      cases e2
      exact ⟨o, e, ex.2.1⟩
  | _ => exact False.elim ty
noncomputable def tBM (K : PySem.W.Frag) (T : String) (r : V → List V → Hp → VK → Prop) (to : TE) (t : TA) : TE := fun σ H Q => to σ H fun x H1 => tyV K T x H1 ∧ t σ H1 fun xs H2 => r x xs H2 Q
variable {o e : Expr} {es : List Expr} {to : TE} {t : TA} {name : Str} {apos cpos : Pos} {T id : String} {r : V → List V → Hp → VK → Prop}
theorem pe_bm (pa : PlainAttrs T) (slot : Slot T name id) (hty : typeOf (.builtin id) = pure (.type "method_descriptor")) (hm : MtR X id r) (ho : PE X o to) (ha : PA X (e :: es) t)
    (hbase : attributeBase o name X.env (eval o X.env) = eval o X.env := by rfl)
    (hfew : ((backTo cpos (starEach (e :: es) X.env)).all (fun x => !x.1) && (backToKw cpos (keywordEach [] X.env)).all (fun x => x.1.isSome)
      && decide ((e :: es).length + ([] : List Keyword).length + (if ([] : List Keyword).isEmpty then 0 else 1) < 30)) = true := by rfl)
    (hline : (apos.endLine == cpos.line) = true := by rfl) (hs : starEach (e :: es) X.env = (false, eval e X.env) :: starEach es X.env := by rfl) (hplain : (backTo cpos (starEach es X.env)).any (·.1) = false := by rfl) :
    PE X (.Call (.Attribute o name apos) (e :: es) [] cpos) (tBM X.K T r to t) := by
  intro pins s σ H Q I h
  refine wpAny_Call_method_late hbase hfew hline rfl (thn (ho pins s σ H _ I h) fun v s1 ⟨x, H1, I1, r1, ty, q1⟩ => ?_)
  obtain ⟨h1, h2⟩ := tyV_is I1 r1 ty
  refine ⟨T, id, pa, slot, hty, h1, h2, ?_⟩
  have hA := ha cpos pins s1 σ H1 _ I1 q1
  rw [hs] at hA ⊢
  refine Calls.callWith_builtin (by show (false || (backTo cpos (starEach es X.env)).any (·.1)) = false; rw [hplain] <;> rfl) (Calls.evalArgs_plain ?_)
  exact thn hA fun us s2 ⟨vs, H2, I2, r2, q2⟩ => hm pins s2 σ H2 x vs v us Q I2 r1 r2 q2
end
end L2
namespace L2
open PySem PySem.Spec PyProof.Rows
noncomputable def MtM (X : Cx) (id : String) (r : V → List V → Hp → VK → Prop) : Prop :=
  ∀ (pins : List (Addr × Obj)) (s : Shared) (σ : St) (H : Hp) (x : V) (xs : List V) (v : Value) (us : List Value) (Q : VK), Inv X pins σ H s → RelV x v → Vals xs us → r x xs H Q →
    wpAny (model X.prog X.w) X.A (call (.builtin id) (v :: us)) (EP X pins σ Q) X.xe s
theorem Vals.one : ∀ {x : V} {us : List Value}, Vals [x] us → ∃ u, us = [u] ∧ RelV x u
  | _, _, .cons r .nil => ⟨_, rfl, r⟩
section
variable {X : Cx} {pins : List (Addr × Obj)} {σ : St} {H : Hp} {s : Shared} {l b : Addr} {xs ys zs : List V}
theorem Inv.lset {its its' : List Value} {n : Nat} {f : Array Value → Array Value} {t' : Nat} (I : Inv X pins σ H s) (hH : H l = some (.lst xs))
    (e : s.heap.get? l = some { cls := .type "list", data := .seq its.toArray n }) (hf : f its.toArray = its'.toArray) (hv : Vals ys its') (hz : ys.length ≤ sizeLine) :
    Inv X pins σ (upd H l (.lst ys)) { s with heap := s.heap.update l (Obj.mapSeq f), toks := t' } := by
  have q := PySem.IsL.update e f
  rw [hf] at q
  refine I.write (x := l) (e := l) (by rw [hH]; exact trivial) (.inl rfl) (fun b' u hb hu => (Heap.get?_update_other s.heap (Obj.mapSeq f) (Ne.symm hb)).trans hu) ⟨_, q⟩ ?_
  exact ⟨hz, its', _, hv, q⟩
theorem Inv.lnew {its : List Value} {t' : Nat} (I : Inv X pins σ H s) (hv : Vals ys its) (hz : ys.length ≤ sizeLine) :
    Inv X pins σ (upd H s.heap.objs.size (.lst ys)) { s with heap := s.heap.push { cls := .type "list", data := .seq its.toArray }, toks := t' } :=
  I.laid (fun _ _ q => Heap.get?_push_of_some _ q) (Nat.le_refl _) ⟨hz, its, 0, hv, Heap.get?_push_size _ rfl⟩
theorem Inv.fresh (I : Inv X pins σ H s) : H s.heap.objs.size = none := I.hok.fresh (Nat.le_refl _)
theorem Inv.lstM (I : Inv X pins σ H s) (hH : H l = some (.lst xs)) : xs.length ≤ sizeLine ∧ ∃ (its : List Value) (n : Nat), Vals xs its ∧ xs.length = its.length ∧ s.heap.get? l = some { cls := .type "list", data := .seq its.toArray n } := by
  obtain ⟨z, its, n, r, e⟩ := I.hok l _ hH
  exact ⟨z, its, n, r, r.length, e⟩
end
section
variable {X : Cx}
noncomputable def rAppend : V → List V → Hp → VK → Prop := fun x vs H Q => ∃ l xs y, x = .ref l ∧ vs = [y] ∧ H l = some (.lst xs) ∧ xs.length < sizeLine ∧ Q .non (upd H l (.lst (xs ++ [y])))
theorem mt_append : MtM X "list.append" rAppend := by
  intro pins s σ H x vs v us Q I rx rv h
  obtain ⟨l, xs, y, rfl, rfl, hH, hz, q⟩ := h
  cases rx
  obtain ⟨u, rfl, ru⟩ := rv.one
  obtain ⟨z, its, n, r, hl, e⟩ := I.lstM hH
  refine call_meets F.slot_list_append ⟨_, e, rfl⟩ F.entry_list_append (F.args_list_append_2 _ _) (PySem.list_append l its.toArray n u (by rw [List.size_toArray]; (clear I hH q ru rv z r e; omega))) ⟨e, ?_⟩
  refine ⟨.non, _, I.lset (its' := its ++ [u]) hH e (by simp) (r.append (.cons ru .nil)) ?_, rfl, q⟩
  rw [List.length_append, List.length_singleton]
  assumption
noncomputable def rCat : R2 := fun x y H Q => ∃ l b xs zs, x = .ref l ∧ y = .ref b ∧ H l = some (.lst xs) ∧ H b = some (.lst zs) ∧ xs.length + zs.length ≤ sizeLine ∧ ∀ p, H p = none → Q (.ref p) (upd H p (.lst (xs ++ zs)))
theorem op_cat : OpR X (binaryOp .Add) rCat := by
  intro pins s σ H x y v u Q I rx ry h
  obtain ⟨l, b, xs, zs, rfl, rfl, hH, hB, hz, q⟩ := h
  cases rx
  cases ry
  obtain ⟨z, its, n, r, hl, e⟩ := I.lstM hH
  obtain ⟨z2, its2, n2, r2, hl2, e2⟩ := I.lstM hB
  refine PySem.P.add_list e e2 ?_ (by rw [List.size_toArray, List.size_toArray]; (clear I hH hB q z r e z2 r2 e2; omega))
  have ea : its.toArray ++ its2.toArray = (its ++ its2).toArray := by simp
  rw [ea]
  exact ⟨.ref _, _, I.lnew (t' := s.toks) (r.append r2) (by rw [List.length_append]; assumption), rfl, q _ I.fresh⟩
end
section
variable {prog : Program} {w : World} {A : Around} {E : Value → Shared → Prop} {s : Shared}
set_option maxRecDepth 100000 in
end
section
variable {X : Cx}
end
end L2
namespace Att
open PySem PySem.W PySem.Calls PyProof.Rows
theorem ints_of_wellAll {P : Params} {h : Heap} : ∀ (ns : List Int) (vs : List Value), WellAll P h vs (ns.map WData.int) → IntsAre vs ns := by
  intro ns
  induction ns with
  | nil =>
    intro vs w
    rw [List.map_nil] at w
    cases w
    exact .nil
  | cons n ns ih =>
    intro vs w
    rw [List.map_cons] at w
    cases w with
    | cons a b =>
      cases a
      exact .cons _ _ (ih _ b)
theorem script_of {l : OpenLaw} {n : Nat} (hn : l.most = some n) {P : Params} {h : Heap} {args : List WData} {vals : List Value}
    (hpre : l.row.toRowW.claim.pre args = true) (hwl : WellAll P h vals args) :
    ∃ a vs ns, vals = [Value.ref a] ∧ args = [WData.list (ns.map WData.int)] ∧ h.get? a = some { cls := .type "list", data := .seq vs.toArray } ∧ IntsAre vs ns ∧ ns.length ≤ n := by
  have hsh : WShape.hasAll [] args [.list .int] = true := (pre_splitW hpre).1
  have hc : l.pre.holds [] { args := args } = true := (pre_splitW hpre).2
  obtain ⟨d, r, rfl, h1, h2⟩ := hasAllW_cons hsh
  obtain rfl := hasAllW_nil h2
  obtain ⟨xs, rfl, h3⟩ := hasW_list h1
  obtain ⟨ns, rfl⟩ := items_int h3
  have hlen : ns.length ≤ n := by
    unfold OpenLaw.pre at hc
    have h4 : (WTm.not (.lt (.lit (.int (n : Int))) (.len (.arg 0)))).holds [] { args := [.list (ns.map .int)] } = true := by
      have h4 := (holds_andW hc).1
      rw [hn] at h4
      exact h4
    have h5 := condW_of h4 (w_not (w_lt w_lit (w_len_list (w_arg rfl))))
    rw [List.length_map] at h5
    refine Nat.le_of_not_lt fun q => ?_
    have q' : (n : Int) < ((ns.length : Nat) : Int) := by (clear hn h2 h3 h1 hpre hwl hsh hc h4 h5; omega)
    first
      | (rw [decide_eq_true q'] at h5; exact absurd h5 (by decide))
      | (simp at h5; omega)
  cases hwl with
  | cons w1 w2 =>
    cases w2
    cases w1 with
    | list ho hall => exact ⟨_, _, ns, rfl, rfl, ho, ints_of_wellAll ns _ hall, hlen⟩
theorem post_true (l : OpenLaw) (args : List WData) : l.row.toRowW.claim.post args (.bool true) args = true :=
  postW_of (r := l.row.toRowW) (X := (true == true))
    (show WShape.has [] (.bool true) .bool = true by first | rfl | decide | simp [WShape.has, WShape.arms, WShape.armsAll])
    (show (WTm.eq .res (.lit (.bool true))).value [] { args := args, res := some (.bool true), after := args } = some (.bool (true == true)) from w_eq_bool (w_res rfl) w_lit) rfl
theorem attach_call {l : OpenLaw} {n : Nat} {q : Program} {loose : List Str} {XP : (Str → Option Value) → Heap → Prop} {YP : World → Heap → Prop} {d : DefRec}
    (hn : l.most = some n) (hdf : d.params.defaults = [])
    (call : ∀ (w : World) (s₀ s₁ : Shared) (mg mb : Str → Option Value) (fa : Addr) (o : Obj) (pm cd doc : Value) (a : Addr) (vs : List Value) (ns : List Int),
      Ground q loose [] XP w s₀ mg mb s₁.heap → YP w s₁.heap →
      s₁.heap.get? fa = some o → o.data = .func (docDef d.name d.params d.body d.scope pm cd doc) → s₁.heap.CodeRec cd d.name → mg d.name = some (.ref fa) →
      s₁.heap.get? a = some { cls := .type "list", data := .seq vs.toArray } → IntsAre vs ns → ns.length ≤ n → s₁.gens = #[] →
      codeAny (model l.prog w) callerA (.call (.ref fa) ⟨[.ref a], []⟩) (fun r s' => r = .ok (.ret (.bool true)) ∧ OldK s₁.heap s'.heap ∧ s'.os = s₁.os ∧ AllBare s'.gens) s₁) :
    WalkO q loose XP YP l.row.toRowW d [] (fun f vs => PySem.call f vs) := by
  intro w s₀ s₁ mg mb G Y fa o pm cd doc dV kV ho hd hcd hD hmg hg args vals as hpre hlay hrd hwl hlo
  obtain rfl : dV = .none := Dflts.none hD hdf
  obtain rfl : kV = .none := Dflts.noKw hD
  obtain ⟨a, vs, ns, rfl, rfl, hobj, hints, hlen⟩ := script_of hn hpre hwl
  refine enter_call (codeAny_mono (call w s₀ s₁ mg mb fa o pm cd doc a vs ns G Y ho (fd_plain hd) hcd hmg hobj hints hlen hg) fun r s' hq => ?_)
  obtain ⟨rfl, h2, h3, h4⟩ := hq
  exact ⟨.inl ⟨.bool true, .bool true, [], rfl, fun _ => rfl, .bool true, post_true l _, fun _ => ⟨List.Pairwise.nil, fun _ hm => (nomatch hm)⟩⟩, h2, h3, h4⟩
section
variable {prog : Program} {w : World} {A : Around} {E : Value → Shared → Prop} {s : Shared} {K : Frag}
end
end Att
namespace L2
open PySem PySem.Spec PyProof.Rows
theorem vals_ints : ∀ {vs : List Value} {ns : List Int}, IntsAre vs ns → Vals (ns.map V.int) vs
  | _, _, .nil => .nil
  | _, _, .cons n t h => .cons ⟨t, rfl⟩ (vals_ints h)
end L2
namespace L2
open PySem PySem.Spec PyProof.Rows
end L2
namespace L2
open PySem PySem.Spec PyProof.Rows
noncomputable def defArgs (s : Stmt) : Arguments := match s with
  | .FunctionDef _ a _ _ _ _ _ _ _ _ => a
  | _ => { posonlyargs := [], args := [], vararg := none, kwonlyargs := [], kw_defaults := [], kwarg := none, defaults := [] }
noncomputable def defBody (s : Stmt) : List Stmt := match s with
  | .FunctionDef _ _ b _ _ _ _ _ _ _ => b
  | _ => []
noncomputable def defScope (s : Stmt) : Scope := match s with
  | .FunctionDef _ _ _ _ _ _ sc _ _ _ => sc
  | _ => { kind := .function, names := [], isGenerator := false, isCoroutine := false }
noncomputable abbrev CX0 : CXT := fun _ _ _ _ _ _ => False
noncomputable abbrev E0 : XK := fun _ _ _ => False
theorem pass0 {X : Cx} : Passes CX0 X E0 := fun _ _ _ _ _ _ _ h => h.elim
structure Fun (K : PySem.W.Frag) (x qual : Str) (st : Stmt) (f : Addr) (fd : FuncData) : Prop where
  ex : ∃ (oc : Value) (od : Option Addr) (kV doc pm : Value) (an : Option Addr) (cdv ct : Value) (osl : Array (Option Value)),
    fd = PySem.W.fnOf x qual (defArgs st) (defBody st) (defScope st) .none kV doc pm an cdv ct ∧ K.lookup f = some ⟨oc, od, .func fd, osl⟩ ∧ PySem.W.codeIn K cdv qual = true
  kp : PySem.W.keepIn K (.ref f) = true
section
variable {P : Program} {w : World} {K : PySem.W.Frag} {mg : Str → Option Value} {base : Heap}
theorem Fun.ok {x qual : Str} {st : Stmt} {f : Addr} {fd : FuncData} {N ps : List Str} {k : Nat} {sp : Sp} (F : Fun K x qual st f fd) (S : FnScope N ps (defScope st)) (len : ∀ vs H Q E, sp vs H Q E → vs.length = ps.length)
    (hbody : ∀ (cdv : Value) (A : Around) (outer : List Env) (s : Shared) (H : Hp) (vs : List V) (Q : VK) (E : XK), Room k (A.deeper (envOfC qual (defScope st) s.heap.objs.size f cdv)) → sp vs H Q E →
      ∃ t, PSs (cxOf CX0 P w K mg base N qual (defScope st) f cdv A outer s H E).nox (defBody st) t ∧ t { nx := fun _ H' => Q .non H', rt := Q } (start N vs) H) : FnOk P w K mg base CX0 (k + 1) f fd ps sp := by
  obtain ⟨oc, od, kV, doc, pm, an, cdv, ct, osl, rfl, lk, hcd⟩ := F.ex
  refine fn_of lk hcd S len fun A outer s H vs Q E hr hsp => ?_
  obtain ⟨t, h, q⟩ := hbody cdv A outer s H vs Q E hr hsp
  exact ⟨t, h.nox, q⟩
theorem Fun.binds {x qual : Str} {st : Stmt} {f : Addr} {fd : FuncData} {ps : List Str} (F : Fun K x qual st f fd)
    (h : ∀ (kV doc pm : Value) (an : Option Addr) (cdv ct : Value) (us : List Value), us.length = ps.length → bindArgs (PySem.W.fnOf x qual (defArgs st) (defBody st) (defScope st) .none kV doc pm an cdv ct) ⟨us, []⟩ = pure (ps.zip us)) : Binds K fd ps [] := by
  obtain ⟨oc, od, kV, doc, pm, an, cdv, ct, osl, rfl, lk, hcd⟩ := F.ex
  exact .all (h kV doc pm an cdv ct)
theorem fun_mk {x qual : Str} {st : Stmt} {f : Addr} {oc : Value} {od an : Option Addr} {osl : Array (Option Value)} {kV doc pm cdv ct : Value} (l : K.lookup f = some ⟨oc, od, .func (PySem.W.fnOf x qual (defArgs st) (defBody st) (defScope st) .none kV doc pm an cdv ct), osl⟩)
    (c : PySem.W.codeIn K cdv qual = true) (k : PySem.W.keepIn K (.ref f) = true) : Fun K x qual st f (PySem.W.fnOf x qual (defArgs st) (defBody st) (defScope st) .none kV doc pm an cdv ct) := ⟨⟨oc, od, kV, doc, pm, an, cdv, ct, osl, rfl, l, c⟩, k⟩
end
section
variable {X : Cx}
end
end L2
namespace L2
open PySem PySem.Spec PyProof.Rows
open PySem.W (kla_fn kla_obj tabObj CodeHd)
set_option maxRecDepth 100000
section
variable {X : Cx} {pins : List (Addr × Obj)} {σ : St} {H : Hp} {s : Shared}
structure Tab (X : Cx) (c P : Addr) : Prop where
  code : X.env.code = .ref c
  hd : CodeHd X.base c P
  blt : X.base.BuiltinsAt X.mg P
  ne : mainGlobals ≠ P
theorem builtinsAt_keeps {h h' : Heap} {mg : Str → Option Value} {P : Addr} (x : h.BuiltinsAt mg P) (k : ∀ b o, h.get? b = some o → h'.get? b = some o) : h'.BuiltinsAt mg P :=
  let ⟨bm, o, a1, a2, a3, a4, a5, a6⟩ := x; ⟨bm, o, a1, a2, a3, a4, k _ _ a5, a6⟩
theorem ev_lambda {c P : Addr} {ps : Array Value} {params : Arguments} {body : Expr} {scope : Scope} {pos : Pos} {clos : List (Str × Addr)} {Q : Value → Shared → Prop} {E : Value → Shared → Prop}
    (I : Inv X pins σ H s) (T : Tab X c P) (hP : H P = some (.tbl ps)) (ht : TriplesOk ps.toList) (hn : codeAmong pos ps.toList = none) (hcl : closureFor scope X.env = pure clos) (hdef : defaultsOf params X.env = ([], []))
    (h : ∀ (f c' : Addr) (ctv : Value) (oc : Obj) (s' : Shared),
      Inv X ((f, kla_obj "<lambda>" (X.env.qual ++ "<lambda>") params body scope clos ((X.mg "__name__").getD .none) c' ctv) :: (c', oc) :: pins) σ (upd H P (.tbl (ps ++ #[rawInt pos.line, rawInt pos.col, .ref c']))) s' →
      s'.heap.CodeRec (.ref c') (X.env.qual ++ "<lambda>") → Q (.ref f) s') :
    wpAny (model X.prog X.w) X.A (eval (.Lambda params body scope pos) X.env) Q E s := by
  have hob : s.heap.get? P = some (tabObj ps) := I.hok P _ hP
  refine PySem.W.kla_eval hdef (PySem.W.kla_makeFunction hcl I.ok.glob (I.mod.glob.keeps I.bk) T.code (T.hd.keeps I.bk) hob ht hn T.ne (builtinsAt_keeps T.blt I.bk) fun c' ctv h' tk hx hge hlt hrec htb => ?_)
  obtain ⟨c2, oc, vs, t, e2, hoc, hdc, hv⟩ := hrec
  cases e2
  have kp : ∀ b o, b ≠ P → s.heap.get? b = some o → (h'.push (kla_obj "<lambda>" (X.env.qual ++ "<lambda>") params body scope clos ((X.mg "__name__").getD .none) c' ctv)).get? b = some o := fun b o hb e => Heap.get?_push_of_some _ (hx b o hb e)
  have hsz : s.heap.objs.size ≤ h'.objs.size := Nat.le_of_lt (Nat.lt_of_le_of_lt hge hlt)
  have nP : ∀ b, H b = none → b ≠ P := fun b e z => by rw [z, hP] at e; cases e
  have un : Un X.fs [] H (upd H P (.tbl (ps ++ #[rawInt pos.line, rawInt pos.col, .ref c']))) s.heap (h'.push (kla_obj "<lambda>" (X.env.qual ++ "<lambda>") params body scope clos ((X.mg "__name__").getD .none) c' ctv)) := by
    refine ⟨fun b o e n _ _ => kp b o (nP b n) e, fun b o e n _ _ => ⟨o.slots, kp b o (nP b n) e⟩, fun b o e n _ => ?_, fun b o e _ => ?_, fun b xs e => ?_, fun b o u e => ?_, fun b ps' e => ?_⟩
    · rw [upd_ne (nP b n)]; exact n
    · by_cases hb : b = P
      · subst hb; exact ⟨_, Heap.get?_push_of_some _ htb⟩
      · exact ⟨o, kp b o hb e⟩
    · rw [upd_ne (ne_of e hP (by intro z; cases z))]; exact e
    · rw [upd_ne (ne_of e hP (by intro z; cases z))]; exact e
    · by_cases hb : b = P
      · subst hb; rw [hP] at e; cases e; exact ⟨_, upd_same⟩
      · exact ⟨#[], by rw [upd_ne hb, e]; simp⟩
  have hok : HOk X.prog X.w (upd H P (.tbl (ps ++ #[rawInt pos.line, rawInt pos.col, .ref c']))) (h'.push (kla_obj "<lambda>" (X.env.qual ++ "<lambda>") params body scope clos ((X.mg "__name__").getD .none) c' ctv)) := fun b u e => by
    by_cases hb : b = P
    · subst hb; rw [upd_same] at e; cases e
      exact Heap.get?_push_of_some _ htb
    · rw [upd_ne hb] at e
      refine (I.hok b u e).stay (fun d v hd q => kp d v ?_ q) (fun d q => by rw [upd_ne (ne_of q hP (by intro z; cases z))]; exact q) fun d xs q => by rw [upd_ne (ne_of q hP (by intro z; cases z))]; exact q
      rcases hd with z | z
      · rw [z]; exact hb
      · exact ne_of z hP (by intro z; cases z)
  have J := I.un (t' := tk) un hok
  have fresh : ∀ a, s.heap.objs.size ≤ a → upd H P (.tbl (ps ++ #[rawInt pos.line, rawInt pos.col, .ref c'])) a = none ∧ a ≠ X.env.locals ∧ a ∉ X.fs := fun a ha => by
    have n := I.hok.fresh ha
    exact ⟨by rw [upd_ne (nP a n)]; exact n, Nat.ne_of_gt (Nat.lt_of_lt_of_le I.lt ha), I.nofs ha⟩
  refine h h'.objs.size c' ctv oc _ (J.pins_of fun p hp => ?_) ⟨c', oc, vs, t, rfl, Heap.get?_push_of_some _ hoc, hdc, hv⟩
  rcases List.mem_cons.mp hp with rfl | hp
  · obtain ⟨f1, f2, f3⟩ := fresh _ hsz
    exact ⟨Heap.get?_push_size _ rfl, f1, f2, f3, fun v z => by cases z⟩
  · rcases List.mem_cons.mp hp with rfl | hp
    · obtain ⟨f1, f2, f3⟩ := fresh _ hge
      exact ⟨Heap.get?_push_of_some _ hoc, f1, f2, f3, fun v z => by rw [hdc] at z; cases z⟩
    · exact J.pin p (List.mem_append_right _ hp)
noncomputable def nowB (X : Cx) (H : Hp) (s : Shared) : Heap := PySem.W.hideAll s.heap (trk s.heap H ++ frs X.stack)
theorem nowB_get {b : Addr} {o : Obj} (e : s.heap.get? b = some o) (n : H b = none) (hf : b ∉ frs X.stack) : (nowB X H s).get? b = some o :=
  PySem.W.hideAll_get _ e fun hm => by
    rcases List.mem_append.mp hm with hm | hm
    · have q : (H b).isSome = true := (List.mem_filter.mp hm).2
      rw [n] at q; simp at q
    · exact hf hm
theorem of_nowB {b : Addr} {o : Obj} (e : (nowB X H s).get? b = some o) : s.heap.get? b = some o ∧ H b = none ∧ b ∉ frs X.stack := by
  have e' : s.heap.get? b = some o := PySem.W.of_hideAll _ e
  have nn : b ∉ trk s.heap H ++ frs X.stack := fun hm => by
    have z : (nowB X H s).get? b = none := PySem.W.hideAll_none _ hm
    rw [z] at e; cases e
  refine ⟨e', ?_, fun hm => nn (List.mem_append_right _ hm)⟩
  cases q : H b with
  | none => rfl
  | some x => exact absurd (List.mem_append_left _ (List.mem_filter.mpr ⟨List.mem_range.mpr (Heap.lt_size e'), by simp [q]⟩)) nn
theorem Inv.inNow (I : Inv X pins σ H s) {b : Addr} {o : Obj} (e : X.base.get? b = some o) : (nowB X H s).get? b = some o :=
  nowB_get (I.bs b o e).1 (I.bs b o e).2 fun hb => by have := (I.stack.mem hb).1; rw [e] at this; cases this
theorem Inv.modNow (I : Inv X pins σ H s) : Mod X.K X.mg (nowB X H s) :=
  ⟨I.mod.kin.keeps fun _ _ e => I.inNow e, I.mod.glob.keeps fun _ _ e => I.inNow e, let ⟨mb, h1, h2⟩ := I.mod.blt; ⟨mb, h1.keeps fun _ _ e => I.inNow e, h2⟩, I.mod.nolimit.keeps fun _ _ e => I.inNow e⟩
theorem funFrames_now {h base base' : Heap} : ∀ {l : List Env}, h.FunFrames base l → (∀ b ∈ frs l, base'.get? b = none) → h.FunFrames base' l
  | [], _, _ => trivial
  | env :: r, ⟨hk, ⟨L, o, hf, _, ho, hd⟩, hr⟩, hn => by
    have e : frs (env :: r) = L :: frs r := by unfold frs; rw [List.filterMap_cons, hf]
    exact ⟨hk, ⟨L, o, hf, hn L (by rw [e]; exact List.mem_cons_self), ho, hd⟩, funFrames_now hr fun b hb => hn b (by rw [e]; exact List.mem_cons_of_mem _ hb)⟩
theorem Inv.env1 (I : Inv X pins σ H s) : Env0 X.prog X.w X.K X.mg (nowB X H s) X.A X.stack s H :=
  ⟨I.ok.frames, I.modNow, fun b o e => ⟨(of_nowB e).1, (of_nowB e).2.1⟩, Nat.le_of_eq (PySem.W.hideAll_size _ _), funFrames_now I.stack fun b hb => PySem.W.hideAll_none _ (List.mem_append_right _ hb), I.stkFree, I.hok, I.bare⟩
theorem run_fnB {CX : CXT} {k : Nat} {f : Addr} {fd : FuncData} {ps : List Str} {sp : Sp} {dvs : List V} {ds : List Value} {E : XK} {Q : VK} {us : List Value} {vs : List V} (F : FnOk X.prog X.w X.K X.mg (nowB X H s) CX k f fd ps sp) (hr : Room k X.A) (hb : Binds X.K fd ps ds) (hd : Vals dvs ds) (hx : Passes CX X E)
    (I : Inv X pins σ H s) (r : Vals vs us) (h : sp (vs ++ dvs) H Q E) : wpAny (model X.prog X.w) X.A (call (.ref f) us) (EP X pins σ Q) X.xe s := by
  have r2 : Vals (vs ++ dvs) (us ++ ds) := r.append hd
  have hl : (us ++ ds).length = ps.length := by rw [← r2.length]; exact F.len _ _ _ _ h
  refine wpAny_call (codeAny_mono (F.run X.A X.stack s H ⟨us, []⟩ (us ++ ds) (vs ++ dvs) Q E hr I.env1 (hb s us I.kIn hl) r2 h) fun r s' hq => ?_)
  cases r with
  | error e => exact hx pins σ H s e s' I hq
  | ok fl =>
    cases fl with
    | ret u => exact I.after hq
    | next => exact False.elim hq
    | brk => exact False.elim hq
    | cont => exact False.elim hq
theorem keeps_F {M : Model} {f : Addr} {fd : FuncData} (h : Heap) (x : ∃ o, h.get? f = some o ∧ o.data = .func fd) : ∃ k, (k = Keeper.frame ∨ k = Keeper.machine ∨ k = Keeper.boundFrame) ∧ PySem.W.Looks M h (keeperOf (.ref f)) k := by
  obtain ⟨o, e, d⟩ := x
  refine ⟨.frame, .inl rfl, (PySem.W.Looks.ld (part := none) e).andThen ?_⟩
  rw [d]
  exact .now
end
end L2
namespace L2
open PySem PySem.Spec PyProof.Rows
open PySem.W (kla_fn kla_obj tabObj CodeHd envX)
set_option maxRecDepth 100000
set_option linter.all false
section
variable {X : Cx} {CX : CXT} {k : Nat} {f fl : Addr} {fd : FuncData} {ps : List Str} {sp : Sp} {dvs : List V} {ds : List Value} {E : XK} {x : Str} {p pos : Pos} {e : Expr} {es : List Expr} {t : TA}
noncomputable def tCallV (i : Nat) (fl : Addr) (sp : Sp) (dvs : List V) (E : XK) (t : TA) : TE := fun σ H Q => σ[i]? = some (some (.ref fl)) ∧ tCall sp dvs E t σ H Q
theorem pe_callV {i : Nat} (hN : X.N[i]? = some x) (hv : Vis X.env.scope x) (F : FnOk X.prog X.w X.K X.mg X.base CX k fl fd ps sp) (hr : Room k X.A) (hfo : ∃ o, X.base.get? fl = some o ∧ o.data = .func fd) (hb : Binds X.K fd ps ds) (hd : Vals dvs ds) (hx : Passes CX X E)
    (ha : PA X (e :: es) t) (hdb : (x == ("__debug__" : Str)) = false := by decide) (hcd : (x == ("__classdict__" : Str)) = false := by decide) (he : starEach (e :: es) X.env = (false, eval e X.env) :: starEach es X.env := by rfl) (hpl : (backTo pos (starEach es X.env)).any (·.1) = false := by rfl) :
    PE X (.Call (.Name x p) (e :: es) [] pos) (tCallV i fl sp dvs E t) := by
  intro pins s σ H Q I ⟨hi, h⟩
  refine wpAny_Call_Name_kw (thn (pe_var (pos := p) hN hv hdb hcd pins s σ H (fun v H' => v = .ref fl ∧ H' = H) I ⟨_, hi, rfl, rfl⟩) fun u s1 ⟨v, H1, I1, r, hv1, hH⟩ => ?_)
  subst hv1; subst hH
  obtain rfl : u = Value.ref fl := r
  obtain ⟨o, ho, hod⟩ := hfo
  have hA : wpAny (model X.prog X.w) X.A (spliced (backTo pos (starEach (e :: es) X.env))) (fun us s₁ => (∃ o, s₁.heap.get? fl = some o ∧ o.data = .func fd) ∧ wpAny (model X.prog X.w) X.A (call (.ref fl) ([] ++ us)) (EP X pins σ Q) X.xe s₁) X.xe s1 :=
    thn (ha pos pins s1 σ H1 _ I1 h) fun us s2 ⟨vs, H2, I2, r2, q⟩ => ⟨⟨o, I2.bk _ _ ho, hod⟩, run_fn F hr hb hd hx I2 r2 q⟩
  rw [he] at hA ⊢
  exact PySem.W.callWith_of (by show ((false || (backTo pos (starEach es X.env)).any (·.1)) || false) = false; rw [hpl]; rfl) (keeps_F (fd := fd)) (Calls.evalArgs_plain hA)
noncomputable def tLam (P : Addr) (lpos : Pos) (t : TA) : TA := fun σ H Q => ∃ ps, H P = some (.tbl ps) ∧ TriplesOk ps.toList ∧ codeAmong lpos ps.toList = none ∧
  ∀ c', t σ (upd H P (.tbl (ps ++ #[rawInt lpos.line, rawInt lpos.col, .ref c']))) Q
structure Made (X : Cx) (params : Arguments) (body : Expr) (scope : Scope) (clos : List (Str × Addr)) (σ : St) (base : Heap) (fl c' : Addr) (ctv : Value) : Prop where
  obj : base.get? fl = some (kla_obj "<lambda>" (X.env.qual ++ "<lambda>") params body scope clos ((X.mg "__name__").getD .none) c' ctv)
  code : base.CodeRec (.ref c') (X.env.qual ++ "<lambda>")
  mod : Mod X.K X.mg base
  cells : ∀ y cl, clos.lookup y = some cl → ∃ v, base.IsCell cl v
  vals : ∀ (i : Nat) (y : Str) (v : V) (cl : Addr), X.N[i]? = some y → σ[i]? = some (some v) → Vis X.env.scope y → clos.lookup y = some cl → ∃ u, RelV v u ∧ base.IsCell cl (some u)
noncomputable def tCallL (P : Addr) (lpos : Pos) (sp : Addr → St → Sp) (dvs : List V) (E : XK) (te : TE) (t : TA) : TE := fun σ H Q => te σ H fun v H1 => tLam P lpos t σ H1 fun vs H2 => ∀ fl, H2 fl = none → sp fl σ (v :: .ref fl :: (vs ++ dvs)) H2 Q E
theorem pe_callL {c P : Addr} {params : Arguments} {body : Expr} {scope : Scope} {lpos : Pos} {clos : List (Str × Addr)} {te : TE} {spL : Addr → St → Sp}
    (T : Tab X c P) (hcl : closureFor scope X.env = pure clos) (hdef : defaultsOf params X.env = ([], [])) (hce : ∀ y cl, clos.lookup y = some cl → X.env.cells.lookup y = some cl ∧ (X.env.kindOf y = some .cell)) (hcf : ∀ y cl, clos.lookup y = some cl → X.fn y = true)
    (F : ∀ (base : Heap) (σ : St) (fl c' : Addr) (ctv : Value), Made X params body scope clos σ base fl c' ctv → FnOk X.prog X.w X.K X.mg base CX k f fd ps (spL fl σ))
    (hr : Room k X.A) (hg : Gl X x) (hm : X.mg x = some (.ref f)) (hk : PySem.W.keepIn X.K (.ref f) = true) (hb : Binds X.K fd ps ds) (hd : Vals dvs ds) (hx : Passes CX X E)
    (h1 : PE X e te) (ha : PA X es t) (hdb : (x == ("__debug__" : Str)) = false := by decide)
    (he : starEach (e :: .Lambda params body scope lpos :: es) X.env = (false, eval e X.env) :: starEach (.Lambda params body scope lpos :: es) X.env := by rfl) (hpl : (backTo pos (starEach es X.env)).any (·.1) = false := by rfl) :
    PE X (.Call (.Name x p) (e :: .Lambda params body scope lpos :: es) [] pos) (tCallL P lpos spL dvs E te t) := by
  intro pins s σ H Q I h
  refine wpAny_Call_Name_kw (ld_glob I hg hm ?_ hdb)
  have he2 : starEach (.Lambda params body scope lpos :: es) X.env = (false, eval (.Lambda params body scope lpos) X.env) :: starEach es X.env := by rfl
  refine PySem.W.callWith_K (h₀ := X.base) I.ok.mod.kin hk ?_ he (by rw [he2]; show (false || _) = false; rw [Bool.false_or]; exact hpl)
  rw [he, he2]
  show wpAny _ _ (spliced ((false, eval e X.env) :: (false, eval (.Lambda params body scope lpos) X.env) :: backTo pos (starEach es X.env))) _ _ s
  refine Calls.spliced_cons (thn (h1 pins s σ H _ I h) fun u1 s1 ⟨v1, H1, I1, r1, ps', hP, ht, hn, q1⟩ => ?_)
  refine Calls.spliced_cons (ev_lambda I1 T hP ht hn hcl hdef fun fl c' ctv oc s2 I2 hrec => ?_)
  refine thn (ha pos _ s2 σ _ _ I2 (q1 c')) fun us s3 ⟨vs, H3, I3, r3, q3⟩ => ?_
  have pf := I3.pin _ (List.mem_append_right _ List.mem_cons_self)
  have pc := I3.pin _ (List.mem_append_right _ (List.mem_cons_of_mem _ List.mem_cons_self))
  have stk : ∀ b, b ≠ X.env.locals → b ∉ X.fs → b ∉ frs X.stack := fun b n1 n2 hb => (List.mem_cons.mp (I3.stkSub b hb)).elim n1 n2
  have bf := nowB_get (X := X) pf.1 pf.2.1 (stk _ pf.2.2.1 pf.2.2.2.1)
  have bc := nowB_get (X := X) pc.1 pc.2.1 (stk _ pc.2.2.1 pc.2.2.2.1)
  have cellN : ∀ y cl, clos.lookup y = some cl → ∀ v, s3.heap.IsCell cl v → (nowB X H3 s3).IsCell cl v := fun y cl hy v ⟨o, ho, hod⟩ =>
    ⟨o, nowB_get ho (I3.freeC y cl (hce y cl hy).1) (stk cl (I3.cne y cl (hce y cl hy).1) fun hb => by
      obtain ⟨_, o2, ho2, _⟩ := I3.ok.funs.mem hb
      exact absurd (Nat.lt_of_lt_of_le (Heap.lt_size ho2) (I3.ok.cab y cl (hcf y cl hy) (hce y cl hy).1)) (Nat.lt_irrefl _)), hod⟩
  have M : Made X params body scope clos σ (nowB X H3 s3) fl c' ctv := by
    refine ⟨bf, ?_, I3.modNow, fun y cl hy => ?_, fun i y v cl hN hσ hv hy => ?_⟩
    · obtain ⟨c2, o2, vs2, t2, e2, ho2, hd2, hv2⟩ := hrec
      cases e2
      have pc0 := (I2.pin _ (List.mem_append_right _ (List.mem_cons_of_mem _ List.mem_cons_self))).1
      rw [ho2] at pc0
      cases pc0
      exact ⟨c', _, vs2, t2, rfl, bc, hd2, hv2⟩
    · obtain ⟨v, hc⟩ := I3.cell y cl (hce y cl hy).1
      exact ⟨v, cellN y cl hy v hc⟩
    · obtain ⟨m, hns, hl⟩ := I3.loc
      obtain ⟨u, r, l⟩ := hl i y v hN hσ hv
      refine ⟨u, r, cellN y cl hy _ ?_⟩
      rcases l with ⟨hk', _⟩ | ⟨_, c2, hc2, hcell⟩
      · rw [(hce y cl hy).2] at hk'; cases hk'
      · rw [(hce y cl hy).1] at hc2; cases hc2; exact hcell
  have I4 : Inv X pins σ H3 s3 := I3.pins_of fun q hq => I3.pin q (List.mem_append_right _ (List.mem_cons_of_mem _ (List.mem_cons_of_mem _ hq)))
  refine ⟨I4.kIn, ?_⟩
  exact run_fnB (F _ σ fl c' ctv M) hr hb hd hx I4 (.cons r1 (.cons (show RelV (V.ref fl) (Value.ref fl) from rfl) r3)) (q3 fl pf.2.1)
noncomputable def cxL (CX : CXT) (P : Program) (w : World) (K : PySem.W.Frag) (mg : Str → Option Value) (base : Heap) (N : List Str) (qual : Str) (scope : Scope) (f : Addr) (cd : Value) (cl : List (Str × Addr)) (A : Around) (outer : List Env) (s : Shared) (H : Hp) (E : XK) : Cx where
  prog := P
  w := w
  K := K
  mg := mg
  base := base
  A := A.deeper (envX qual scope s.heap.objs.size f cd cl)
  N := N
  s₀ := s
  H₀ := H
  env := envX qual scope s.heap.objs.size f cd cl
  outer := outer
  stack := envX qual scope s.heap.objs.size f cd cl :: outer
  ex := []
  calm := true
  fn := fun _ => false
  pn := []
  xe := fun e s' => wpAny (model P w) (A.deeper (envX qual scope s.heap.objs.size f cd cl)) (leaving (envX qual scope s.heap.objs.size f cd cl) e) (fun _ s'' => CX outer H s E e s'') (fun e' s'' => CX outer H s E e' s'') s'
structure LamScope (ps fns : List Str) (sc : Scope) (cl : List (Str × Addr)) : Prop where
  kind : sc.kind = .function
  co : sc.isCoroutine = false
  gen : sc.isGenerator = false
  nd : (ps ++ fns).Nodup
  par : ∀ x ∈ ps, sc.names.lookup x = some .local
  nocell : ∀ y ∈ sc.names, y.2 ≠ .cell
  free : ∀ x ∈ fns, sc.names.lookup x = some .free
  has : ∀ x, sc.names.lookup x = some .free → ∃ c, cl.lookup x = some c
  inj : ∀ x y c, cl.lookup x = some c → cl.lookup y = some c → x = y
theorem zip_rev_lookup {v : Value} {x : Str} : ∀ {P : List Str} {vs : List Value} {i : Nat}, P.Nodup → P[i]? = some x → vs[i]? = some v → (P.zip vs).reverse.lookup x = some v
  | [], _, _, _, h, _ => by simp at h
  | _ :: _, [], _, _, _, h => by simp at h
  | p :: P, w :: vs, 0, nd, h1, h2 => by
    simp at h1 h2; subst h1; subst h2
    show ((p, w) :: P.zip vs).reverse.lookup p = _
    rw [List.reverse_cons, List.lookup_append]
    have n : (P.zip vs).reverse.lookup p = none := by
      rw [List.lookup_eq_none_iff]
      intro q hq
      have := (List.of_mem_zip (List.mem_reverse.mp hq)).1
      have hne : p ≠ q.1 := by rintro rfl; exact (List.nodup_cons.mp nd).1 this
      simp [hne]
    rw [n]; simp [List.lookup]
  | p :: P, w :: vs, i + 1, nd, h1, h2 => by
    show ((p, w) :: P.zip vs).reverse.lookup x = _
    rw [List.reverse_cons, List.lookup_append, zip_rev_lookup (i := i) (List.nodup_cons.mp nd).2 (by simpa using h1) (by simpa using h2)]
    rfl
theorem fn_lam {P : Program} {w : World} {K : PySem.W.Frag} {mg : Str → Option Value} {base : Heap} {c' : Addr} {name qual : Str} {params : Arguments} {body : Expr} {scope : Scope} {clos : List (Str × Addr)} {pm ctv : Value} {fns : List Str} {fvs : List V}
    (hf : base.get? fl = some (kla_obj name qual params body scope clos pm c' ctv)) (hcd : base.CodeRec (.ref c') qual) (S : LamScope ps fns scope clos)
    (hcells : ∀ y cl, clos.lookup y = some cl → ∃ v, base.IsCell cl v) (hfl : fvs.length = fns.length)
    (hfree : ∀ (j : Nat) (y : Str) (v : V), fns[j]? = some y → fvs[j]? = some v → ∃ cl u, clos.lookup y = some cl ∧ RelV v u ∧ base.IsCell cl (some u))
    (len : ∀ vs H Q E, sp vs H Q E → vs.length = ps.length)
    (hbody : ∀ (A : Around) (outer : List Env) (s : Shared) (H : Hp) (vs : List V) (Q : VK) (E : XK), Room k (A.deeper (envX qual scope s.heap.objs.size fl (.ref c') clos)) → sp vs H Q E →
      ∃ t, PE (cxL CX P w K mg base (ps ++ fns) qual scope fl (.ref c') clos A outer s H E) body t ∧ t (vs.map some ++ fvs.map some) H Q) :
    FnOk P w K mg base CX (k + 1) fl (kla_fn name qual params body scope clos pm (.ref c') ctv) ps sp := by
  refine ⟨len, fun A outer s H args us vs Q E hr e0 hb r hsp => ?_⟩
  have hl := len _ _ _ _ hsp
  have lim : s.heap.NoLimit := e0.mod.nolimit.keeps fun b o e => (e0.bs b o e).1
  have ndP : ps.Nodup := (List.nodup_append.mp S.nd).1
  refine PySem.W.kla_callFunE hr.depth (e0.bs _ _ hf).1 rfl S.co S.gen rfl (hcd.keeps fun b o e => (e0.bs b o e).1) (hb _ _ _ _ ?_)
  refine wpAny_newFunctionEnv S.nocell (fun y hy => S.par y.1 (List.of_mem_zip hy).1) (fun h₁ hns hsb => ?_) S.kind
  have hk : ∀ b o, s.heap.get? b = some o → h₁.get? b = some o := fun b o e => hsb.extBut b o (Nat.ne_of_lt (Heap.lt_size e)) (Heap.get?_push_of_some _ e)
  refine ⟨lim.keeps hk, ?_⟩
  show codeAny _ _ (.expr body (envX qual scope s.heap.objs.size fl (.ref c') clos)) _ _
  obtain ⟨t, ht, hq⟩ := hbody A outer s H vs Q E (hr.deeper _) hsp
  have celK : ∀ cl v, base.IsCell cl v → h₁.IsCell cl v ∧ H cl = none := fun cl v ⟨o, ho, hd⟩ => ⟨⟨o, hk _ _ (e0.bs _ _ ho).1, hd⟩, (e0.bs _ _ ho).2⟩
  have noA : ∀ b : Addr, b ∉ (cxL CX P w K mg base (ps ++ fns) qual scope fl (.ref c') clos A outer s H E).ex := fun b z => absurd (show b ∈ ([] : List Addr) from z) (by simp)
  have I : Inv (cxL CX P w K mg base (ps ++ fns) qual scope fl (.ref c') clos A outer s H E) [] (vs.map some ++ fvs.map some) H { s with heap := h₁, toks := s.toks + (ps.zip us).length } := by
    refine ⟨⟨e0.mod, S.kind, rfl, rfl, Nat.le_refl _, S.inj, fun y hy => ?_, fun y c h => absurd h (by intro z; cases z), fun _ => hr.hd, Around.frames_deeper e0.frames, .inr ⟨rfl, rfl⟩, fun b z => absurd z (noA b), e0.bs, e0.bsz, fun b _ _ => noA b, fun b z => absurd z (noA b), e0.funs, e0.frf⟩,
      rfl, e0.bare, Un.kept hk, ⟨_, hns, fun i y v h1 h2 h3 => ?_⟩, fun y c h => ?_, e0.hok.fresh (Nat.le_refl _), fun y c h => ?_, fun p hp => absurd (show p ∈ ([] : List (Addr × Obj)) from hp) (by simp), e0.hok.kept hk, ?_⟩
    · have hy : scope.names.lookup y = some .cell ∨ scope.names.lookup y = some .free := hy
      rcases hy with hy | hy
      · exact absurd rfl (S.nocell _ (PySem.mem_of_lookup hy))
      · exact S.has y hy
    · have h1 : (ps ++ fns)[i]? = some y := h1
      by_cases hi : i < vs.length
      · rw [List.getElem?_append_left (by simpa using hi), List.getElem?_map] at h2
        have ha : vs[i]? = some v := by
          cases e : vs[i]? with
          | none => rw [e] at h2; cases h2
          | some a => rw [e] at h2; cases h2; rfl
        obtain ⟨u, hu, rv⟩ := r.get ha
        rw [List.getElem?_append_left (by (clear hf hcd S hcells hfl hfree len hbody hr e0 hb r hsp lim ndP hns hsb hk ht hq celK noA h2 h3 h1 ha hu rv; omega))] at h1
        exact ⟨u, rv, .inl ⟨S.par y (List.mem_of_getElem? h1), zip_rev_lookup ndP h1 hu⟩⟩
      · rw [List.getElem?_append_right (by simpa using hi), List.length_map, List.getElem?_map] at h2
        rw [List.getElem?_append_right (by (clear hf hcd S hcells hfl hfree len hbody hr e0 hb r hsp lim ndP hns hsb hk ht hq celK noA h2 h3 h1; omega)), ← hl] at h1
        have ha : fvs[i - vs.length]? = some v := by
          cases e : fvs[i - vs.length]? with
          | none => rw [e] at h2; cases h2
          | some a => rw [e] at h2; cases h2; rfl
        obtain ⟨cl, u, e1, e2, e3⟩ := hfree _ y v h1 ha
        exact ⟨u, e2, .inr ⟨.inr (S.free y (List.mem_of_getElem? h1)), cl, e1, (celK cl _ e3).1⟩⟩
    · obtain ⟨v, hv⟩ := hcells y c h
      exact ⟨v, (celK c v hv).1⟩
    · obtain ⟨v, hv⟩ := hcells y c h
      exact (celK c v hv).2
    · show (vs.map some ++ fvs.map some).length = (ps ++ fns).length
      rw [List.length_append, List.length_map, List.length_map, List.length_append, hl, hfl]
  exact PySem.W.kla_codeExpr (wpAny_mono (ht [] _ _ H _ I hq) (fun u s' ⟨v, H', J, rv, q⟩ => ⟨v, H', J.os, J.bare, J.base, J.hok, rv, q⟩) fun _ _ h => h)
end
end L2
namespace L2
open PySem PySem.Spec PyProof.Rows
open PySem.W (kla_fn kla_obj tabObj CodeHd envX)
set_option maxRecDepth 100000
set_option linter.all false
noncomputable def OnlyT (P : Addr) (H : Hp) : Prop := H P = some (.tbl #[]) ∧ ∀ b, b ≠ P → (H b = none ∨ ∃ o xs, H b = some (.frz o (.lst xs)))
theorem law_callT {P : Program} {w : World} {K : PySem.W.Frag} {mg mb : Str → Option Value} {CX : CXT} {k : Nat} {fa a c T : Addr} {fd : FuncData} {x : Str} {sp : Sp} {s₁ : Shared} {vs : List Value} {ns : List Int}
    (KX : K.In s₁.heap) (hns : s₁.heap.Ns mainGlobals mg) (hb : s₁.heap.Ns builtinsNs mb) (hbb : ∀ x : Str, x ≠ "__name__" → mb x = bootBuiltins x) (hlim : s₁.heap.NoLimit) (hg : s₁.gens = #[])
    (hB : Based s₁.heap s₁.heap c T #[]) (hbm : s₁.heap.BuiltinsAt mg T) (hTK : K.lookup T = none)
    (ha : s₁.heap.get? a = some { cls := .type "list", data := .seq vs.toArray }) (hi : IntsAre vs ns) (hl : ns.length ≤ sizeLine) (hr : Room k callerA)
    (F : ∀ base : Heap, K.In base → base.Ns mainGlobals mg → CodeHd base c T → base.BuiltinsAt mg T → FnOk P w K mg base CX k fa fd [x] sp) (hbind : ∀ (s : Shared) (u : Value), BindsTo s fd ⟨[u], []⟩ [(x, u)])
    (hsp : ∀ H : Hp, OnlyT T H → SqL K H a (ns.map V.int) → sp [.ref a] H (fun v _ => v = .bl true) fun _ _ _ => False)
    (hCX : ∀ H e s', CX [] H s₁ (fun _ _ _ => False) e s' → False) :
    codeAny (model P w) callerA (.call (.ref fa) ⟨[.ref a], []⟩) (fun r s' => r = .ok (.ret (.bool true)) ∧ OldK s₁.heap s'.heap ∧ s'.os = s₁.os ∧ AllBare s'.gens) s₁ := by
  have rv := vals_ints hi
  have lenV := hi.length
  have hT : s₁.heap.get? T = some (tabObj #[]) := hB.tab.2
  have hC : CodeHd s₁.heap c T := CodeHd.of hB.code hB.tab
  have haT : a ≠ T := fun z => by rw [z, hT] at ha; cases ha
  have core : ∀ H : Hp, OnlyT T H → SqL K H a (ns.map V.int) → HOk P w H s₁.heap → (∀ b, H b ≠ none → b = a ∨ b = T) → (H a ≠ none → K.lookup a = none) →
      codeAny (model P w) callerA (.call (.ref fa) ⟨[.ref a], []⟩) (fun r s' => r = .ok (.ret (.bool true)) ∧ OldK s₁.heap s'.heap ∧ s'.os = s₁.os ∧ AllBare s'.gens) s₁ := by
    intro H hO hS hok hA hK
    have base_of : ∀ {b : Addr} {o : Obj}, s₁.heap.get? b = some o → H b = none → (hidT s₁.heap H).get? b = some o := fun e n => hidT_get e n
    have noA : ∀ {b : Addr} {o : Obj}, s₁.heap.get? b = some o → (∀ its n, o.data ≠ .seq its n) → (∀ fs, o.cls = .none → o.data ≠ .fields fs) → H b = none := fun {b o} e d1 d2 => by
      cases q : H b with
      | none => rfl
      | some u =>
        rcases hA b (by rw [q]; simp) with e' | e'
        · subst e'; rw [ha] at e; cases e; exact absurd rfl (d1 _ _)
        · subst e'; rw [hT] at e; cases e; exact absurd rfl (d2 _ rfl)
    have nsK : ∀ {b : Addr} {m : Str → Option Value}, s₁.heap.Ns b m → (hidT s₁.heap H).Ns b m := fun {b m} ⟨o, es, ep, e, d, r⟩ => ⟨o, es, ep, base_of e (noA e (fun _ _ z => by rw [d] at z; cases z) fun _ _ z => by rw [d] at z; cases z), d, r⟩
    have hKb : K.In (hidT s₁.heap H) := fun b o e => base_of (KX b o e) (by
      cases q : H b with
      | none => rfl
      | some u =>
        rcases hA b (by rw [q]; simp) with e' | e'
        · subst e'; rw [hK (by rw [q]; simp)] at e; cases e
        · subst e'; rw [hTK] at e; cases e)
    have hM : Mod K mg (hidT s₁.heap H) := ⟨hKb, nsK hns, ⟨mb, nsK hb, hbb⟩, let ⟨mc, h1, h2⟩ := hlim; ⟨mc, nsK h1, h2⟩⟩
    have hCb : CodeHd (hidT s₁.heap H) c T := by
      obtain ⟨o, vs', file, tf, flags, tg, inF, text, tt, e, hc, hd, r⟩ := hC
      exact ⟨o, vs', file, tf, flags, tg, inF, text, tt, base_of e (noA e (fun _ _ z => by rw [hd] at z; cases z) fun _ z _ => by rw [hc] at z; cases z), hc, hd, r⟩
    have hBb : (hidT s₁.heap H).BuiltinsAt mg T := by
      obtain ⟨bm, o, a1, a2, a3, a4, a5, a6, a7, a8⟩ := hbm
      exact ⟨bm, o, a1, a2, a3, a4, base_of a5 (noA a5 (fun _ _ z => by rw [a8] at z; cases z) fun _ _ z => by rw [a8] at z; cases z), a6, a7, a8⟩
    have e0 : Env0 P w K mg (hidT s₁.heap H) callerA [] s₁ H := ⟨rfl, hM, fun b o e => of_hidT e, Nat.le_of_eq (hidT_size _ _), trivial, fun b hb => absurd (show b ∈ ([] : List Addr) from hb) (by simp), hok, .of_eq hg⟩
    refine codeAny_mono ((F _ hKb (nsK hns) hCb hBb).run callerA [] s₁ H ⟨[.ref a], []⟩ [.ref a] [.ref a] _ _ hr e0 (hbind s₁ (.ref a)) (.cons rfl .nil) (hsp H hO hS)) fun r s' h => ?_
    cases r with
    | error e => exact (hCX H e s' h).elim
    | ok fl =>
      cases fl with
      | next => exact False.elim h
      | brk => exact False.elim h
      | cont => exact False.elim h
      | ret u =>
        obtain ⟨v, H', os, bare, un, hok', r', q⟩ := h
        have q' : v = .bl true := q
        subst q'
        obtain rfl : u = Value.bool true := r'
        have old : ∀ b o, b ≠ T → s₁.heap.get? b = some o → s'.heap.get? b = some o := fun b o hbT e => by
          cases q : H b with
          | none => exact un.keep b o e q (by intro z; exact absurd (show b ∈ ([] : List Addr) from z) (by simp)) (by simp)
          | some u =>
            rcases hO.2 b hbT with z | ⟨ob, xs, z⟩
            · rw [q] at z; cases z
            · have z2 := un.frzs b ob _ z
              obtain ⟨e1, _⟩ := hok b _ z
              obtain ⟨e2, _⟩ := hok' b _ z2
              rw [e] at e1; cases e1
              exact e2
        obtain ⟨more, hm⟩ := un.tbls T #[] hO.1
        have hT' : s'.heap.get? T = some (tabObj (#[] ++ more)) := hok' T _ hm
        refine ⟨rfl, ⟨fun b o e => ?_, fun b o e => ?_⟩, os, bare⟩
        · by_cases hbT : b = T
          · subst hbT
            rw [hT] at e; cases e
            exact .inr (.inl ⟨Heap.TableAt.isCodeTable hB.tab, rfl, #[], more, rfl, hT'⟩)
          · exact .inl (old b o hbT e)
        · by_cases hbT : b = T
          · subst hbT; exact ⟨_, hT'⟩
          · exact ⟨o, old b o hbT e⟩
  cases hk : K.lookup a with
  | some o =>
    have e := KX a o hk
    rw [ha] at e
    cases e
    refine core (fun b => if b = T then some (.tbl #[]) else none) ⟨if_pos rfl, fun b hb => .inl (if_neg hb)⟩ (.inr ⟨_, vs.toArray, _, hk, rfl, rfl, rfl, by rw [List.size_toArray, lenV]; exact hl, by simpa using rv⟩) (fun b u z => ?_) (fun b z => ?_) fun z => absurd (if_neg haT) z
    · by_cases hb : b = T
      · have z' := (if_pos hb).symm.trans z
        cases z'
        subst hb
        exact hT
      · have z' := (if_neg hb).symm.trans z
        cases z'
    · by_cases hb : b = T
      · exact .inr hb
      · exact absurd (if_neg hb) z
  | none =>
    refine core (fun b => if b = T then some (.tbl #[]) else if b = a then some (.frz { cls := .type "list", data := .seq vs.toArray } (.lst (ns.map V.int))) else none) ⟨if_pos rfl, fun b hb => ?_⟩ (.inl (.inr ⟨{ cls := .type "list", data := .seq vs.toArray }, (if_neg haT).trans (if_pos rfl)⟩)) (fun b u z => ?_) (fun b z => ?_) fun _ => hk
    · by_cases hb' : b = a
      · exact .inr ⟨_, _, (if_neg hb).trans (if_pos hb')⟩
      · exact .inl ((if_neg hb).trans (if_neg hb'))
    · by_cases hb : b = T
      · have z' := (if_pos hb).symm.trans z
        cases z'
        subst hb
        exact hT
      · by_cases hb' : b = a
        · have z' := ((if_neg hb).trans (if_pos hb')).symm.trans z
          cases z'
          subst hb'
          exact ⟨ha, by rw [List.length_map]; exact hl, vs, _, rv, ha⟩
        · have z' := ((if_neg hb).trans (if_neg hb')).symm.trans z
          cases z'
    · by_cases hb : b = T
      · exact .inr hb
      · by_cases hb' : b = a
        · exact .inl hb'
        · exact absurd ((if_neg hb).trans (if_neg hb')) z
theorem walk_ofT {l : PySem.W.OpenLaw} {n k : Nat} {q : Program} {loose : List Str} {XP : (Str → Option Value) → Heap → Prop} {YP : World → Heap → Prop} {d : DefRec} {K : Params → PySem.W.Frag} {CX : World → CXT} {sp : World → Addr → Sp} {x : Str}
    (hn : l.most = some n) (hn2 : n ≤ sizeLine) (hdf : d.params.defaults = []) (hr : Room k callerA) (hrec : (recsOf q).find? (fun e => e.name == d.name) = some d)
    (hY : ∀ (w : World) (h : Heap), YP w h → (K w.params).In h)
    (F : ∀ (w : World) (mg : Str → Option Value) (fa : Addr) (h : Heap), (K w.params).In h → h.Ns mainGlobals mg → mg d.name = some (.ref fa) →
      ∃ (fd : FuncData) (o : Obj), (K w.params).lookup fa = some o ∧ o.data = .func fd ∧ (∀ (s : Shared) (u : Value), BindsTo s fd ⟨[u], []⟩ [(x, u)]) ∧
        ∀ c T : Addr, fd.code = .ref c → CodeHd h c T → (K w.params).lookup T = none ∧ ∀ base : Heap, (K w.params).In base → base.Ns mainGlobals mg → CodeHd base c T → base.BuiltinsAt mg T → FnOk l.prog w (K w.params) mg base (CX w) k fa fd [x] (sp w T))
    (hsp : ∀ (w : World) (T : Addr) (H : Hp) (a : Addr) (ns : List Int), ns.length ≤ n → OnlyT T H → SqL (K w.params) H a (ns.map V.int) → sp w T [.ref a] H (fun v _ => v = .bl true) fun _ _ _ => False)
    (hCX : ∀ (w : World) (H : Hp) (s : Shared) (e : Value) (s' : Shared), CX w [] H s (fun _ _ _ => False) e s' → False) :
    PySem.W.WalkO q loose XP YP l.row.toRowW d [] (fun f vs => PySem.call f vs) := by
  refine Att.attach_call hn hdf fun w s₀ s₁ mg mb fa o pm cd doc a vs ns G Y ho hd hcd hmg hobj hints hlen hg => ?_
  have KX := hY w _ Y
  obtain ⟨fd, o', hlk, hdo, hb, hF⟩ := F w mg fa _ KX G.T.g hmg
  have ho' := KX _ _ hlk
  rw [ho] at ho'
  cases ho'
  obtain ⟨c, T, hc, hB⟩ := PySem.W.based_of_top G.T hrec hmg ho hdo
  have hT : s₁.heap.get? T = some (tabObj #[]) := hB.tab.2
  obtain ⟨hTK, hF2⟩ := hF c T hc (CodeHd.of hB.code hB.tab)
  have hbm : s₁.heap.BuiltinsAt mg T := by
    obtain ⟨bm, ob, b1, b2, b3, b4, b5, b6⟩ := G.T.bmain
    refine ⟨bm, ob, b1, b2, fun z => ?_, fun z => ?_, b3, b4, b5, b6⟩
    · obtain ⟨o2, es, ep, e, hd2, _⟩ := G.T.g
      rw [← z, b3] at e; cases e; rw [b6] at hd2; cases hd2
    · rw [z, hT] at b3; cases b3; cases b4
  exact law_callT KX G.T.g G.T.b G.T.builtins G.T.nolimit hg hB hbm hTK hobj hints (Nat.le_trans hlen hn2) hr hF2 hb (fun H hO hS => hsp w T H a ns hlen hO hS) fun H e s' => hCX w H s₁ e s'
end L2
namespace L2
open PySem PySem.Spec PyProof.Rows
inductive W where
  | non | bl (b : Bool) | int (i : Int) | str (x : Str) | ref (a : Addr) | tup (xs : List W) | scr (ns : List Int)
inductive GO where
  | lst (ws : List W)
  | dct
  | exc (C : Addr)
  | dic (kvs : List (Key × W))
  | ins (C : Addr) (fs : List (Str × W))
  | tbl (ps : Array Value)
noncomputable abbrev Gp := Addr → Option GO
noncomputable def updG (G : Gp) (a : Addr) (g : GO) : Gp := fun b => if b = a then some g else G b
theorem updG_same {G : Gp} {a : Addr} {g : GO} : updG G a g a = some g := by unfold updG; rw [if_pos rfl]
theorem updG_ne {G : Gp} {a b : Addr} {g : GO} (h : b ≠ a) : updG G a g b = G b := by unfold updG; rw [if_neg h]
noncomputable def Scr (K : PySem.W.Frag) (H : Hp) (a : Addr) (ns : List Int) : Prop :=
  (∃ o, H a = some (.frz o (.lst (ns.map V.int)))) ∨
    ∃ (o : Obj) (its : Array Value) (n : Nat), K.lookup a = some o ∧ o.cls = .type "list" ∧ o.dict = none ∧ o.data = .seq its n ∧ its.size ≤ sizeLine ∧ Vals (ns.map V.int) its.toList
theorem Scr.sq {K : PySem.W.Frag} {H : Hp} {a : Addr} {ns : List Int} (h : Scr K H a ns) : SqL K H a (ns.map V.int) := by
  rcases h with ⟨o, h⟩ | h
  · exact .inl (.inr ⟨o, h⟩)
  · exact .inr h
structure TLe (H H1 : Hp) : Prop where
  tup : ∀ a xs, H a = some (.tup xs) → H1 a = some (.tup xs)
  frz : ∀ a o u, H a = some (.frz o u) → H1 a = some (.frz o u)
theorem TLe.refl (H : Hp) : TLe H H := ⟨fun _ _ h => h, fun _ _ _ h => h⟩
theorem TLe.trans {H H1 H2 : Hp} (a : TLe H H1) (b : TLe H1 H2) : TLe H H2 :=
  ⟨fun x xs h => b.tup x xs (a.tup x xs h), fun x o u h => b.frz x o u (a.frz x o u h)⟩
theorem TLe.new {H : Hp} {p : Addr} (hp : H p = none) (o : HO) : TLe H (upd H p o) :=
  ⟨fun _ _ h => by rw [upd_ne (ne_of_none h hp)]; exact h, fun _ _ _ h => by rw [upd_ne (ne_of_none h hp)]; exact h⟩
theorem TLe.lst {H : Hp} {p : Addr} {xs : List V} (hp : H p = some (.lst xs)) (o : HO) : TLe H (upd H p o) :=
  ⟨fun _ _ h => by rw [upd_ne (ne_of h hp (by intro z; cases z))]; exact h, fun _ _ _ h => by rw [upd_ne (ne_of h hp (by intro z; cases z))]; exact h⟩
mutual
inductive Rep (K : PySem.W.Frag) (H : Hp) : W → V → Prop where
  | non : Rep K H .non .non
  | bl (b : Bool) : Rep K H (.bl b) (.bl b)
  | int (i : Int) : Rep K H (.int i) (.int i)
  | str (x : Str) : Rep K H (.str x) (.str x)
  | ref (a : Addr) : Rep K H (.ref a) (.ref a)
  | tup {a : Addr} {ws : List W} {xs : List V} (h : H a = some (.tup xs)) (r : Reps K H ws xs) : Rep K H (.tup ws) (.ref a)
  | scr {a : Addr} {ns : List Int} (h : Scr K H a ns) : Rep K H (.scr ns) (.ref a)
inductive Reps (K : PySem.W.Frag) (H : Hp) : List W → List V → Prop where
  | nil : Reps K H [] []
  | cons {w : W} {v : V} {ws : List W} {vs : List V} (r : Rep K H w v) (rs : Reps K H ws vs) : Reps K H (w :: ws) (v :: vs)
end
section
variable {K : PySem.W.Frag} {H H1 : Hp}
theorem Scr.mono {a : Addr} {ns : List Int} (t : TLe H H1) (h : Scr K H a ns) : Scr K H1 a ns := by
  rcases h with ⟨o, h⟩ | h
  · exact .inl ⟨o, t.frz _ _ _ h⟩
  · exact .inr h
mutual
theorem Rep.mono (t : TLe H H1) : ∀ {w : W} {v : V}, Rep K H w v → Rep K H1 w v
  | _, _, .non => .non
  | _, _, .bl b => .bl b
  | _, _, .int i => .int i
  | _, _, .str x => .str x
  | _, _, .ref a => .ref a
  | _, _, .tup h r => .tup (t.tup _ _ h) (Reps.mono t r)
  | _, _, .scr h => .scr (h.mono t)
theorem Reps.mono (t : TLe H H1) : ∀ {ws : List W} {vs : List V}, Reps K H ws vs → Reps K H1 ws vs
  | _, _, .nil => .nil
  | _, _, .cons r rs => .cons (Rep.mono t r) (Reps.mono t rs)
end
theorem Reps.length : ∀ {ws : List W} {vs : List V}, Reps K H ws vs → ws.length = vs.length
  | _, _, .nil => rfl
  | _, _, .cons _ rs => congrArg (· + 1) rs.length
theorem Reps.append : ∀ {ws us : List W} {vs xs : List V}, Reps K H ws vs → Reps K H us xs → Reps K H (ws ++ us) (vs ++ xs)
  | _, _, _, _, .nil, s => s
  | _, _, _, _, .cons r rs, s => .cons r (rs.append s)
theorem Reps.take : ∀ {ws : List W} {vs : List V} (n : Nat), Reps K H ws vs → Reps K H (ws.take n) (vs.take n)
  | _, _, 0, _ => .nil
  | _, _, _ + 1, .nil => .nil
  | _, _, n + 1, .cons r rs => .cons r (rs.take n)
theorem Reps.drop : ∀ {ws : List W} {vs : List V} (n : Nat), Reps K H ws vs → Reps K H (ws.drop n) (vs.drop n)
  | _, _, 0, r => r
  | _, _, _ + 1, .nil => .nil
  | _, _, n + 1, .cons _ rs => rs.drop n
theorem Reps.get : ∀ {ws : List W} {vs : List V} {i : Nat} {w : W}, Reps K H ws vs → ws[i]? = some w → ∃ v, vs[i]? = some v ∧ Rep K H w v
  | _, _, _, _, .nil, e => by simp at e
  | _, _, 0, _, .cons r _, e => by simp at e; subst e; exact ⟨_, rfl, r⟩
  | _, _, i + 1, w, .cons _ rs, e => by
    obtain ⟨v, h1, h2⟩ := Reps.get (i := i) (w := w) rs (by simpa using e)
    exact ⟨v, by simpa using h1, h2⟩
theorem Reps.ints : ∀ ns : List Int, Reps K H (ns.map W.int) (ns.map V.int)
  | [] => .nil
  | n :: ns => .cons (.int n) (Reps.ints ns)
end
noncomputable abbrev bmV : List Value := [.type "ValueError", .type "Exception", .type "BaseException", .type "object"]
structure XC (K : PySem.W.Frag) (C : Addr) (bm : List Value) : Prop where
  obj : ∀ h : Heap, K.In h → ∃ N nm qn bs hdct sn sub ab col dd k0 k1 k2 k3 k5 mN, h.get? C = some (excClassObj nm qn C N bs bm hdct sn sub ab col dd k0 k1 k2 k3 k5 "ValueError.__new__") ∧ h.Ns N mN ∧ mN "__init__" = none ∧ OwnTail h bmV bm
  mro : ∀ v, PySem.W.mroIn K C v = some ((Value.ref C :: bm).contains v)
structure XQ (K : PySem.W.Frag) (C : Addr) : Prop where
  ga : PySem.W.findIn K (.ref C) "__getattribute__" = some (some (.builtin "BaseException.__getattribute__"))
  gx : PySem.W.findIn K (.ref C) "__getattr__" = some none
  gc : PySem.W.findIn K (.ref C) "__class__" = some (some (.builtin "object.__class__"))
structure XD (K : PySem.W.Frag) (D : Addr) : Prop where
  cls : ∃ cd, PySem.W.clsIn K D = some cd
  ty : PySem.W.typeIn K (.ref D) = some (.type "type")
  ins : PySem.W.instIn K (.ref D) (.type "type") = some true
structure XO (K : PySem.W.Frag) (C : Addr) : Prop where
  c : ∃ bm, XC K C bm
  q : XQ K C
  d : XD K C
noncomputable def GOk (K : PySem.W.Frag) (H : Hp) (a : Addr) : GO → Prop
  | .lst ws => ws.length ≤ 100000 ∧ ∃ xs, H a = some (.lst xs) ∧ Reps K H ws xs
  | .dct => H a = some (.dK [])
  | .exc C => XO K C ∧ H a = some (.ext fun h => ∃ o, h.get? a = some o ∧ o.cls = .ref C)
  | .dic kvs => kvs.length ≤ 100000 ∧ ∃ kvs', H a = some (.dK kvs') ∧ kvs'.map (·.1) = kvs.map (·.1) ∧ Reps K H (kvs.map (·.2)) (kvs'.map (·.2))
  | .ins C fs => fs.length ≤ 100 ∧ ∃ dx fs', H a = some (.ins C dx fs') ∧ fs'.map (·.1) = fs.map (·.1) ∧ Reps K H (fs.map (·.2)) (fs'.map (·.2))
  | .tbl ps => H a = some (.tbl ps)
noncomputable def RelG (K : PySem.W.Frag) (H : Hp) (G : Gp) : Prop := ∀ a g, G a = some g → GOk K H a g
section
variable {K : PySem.W.Frag} {H H1 : Hp} {G : Gp} {p a : Addr} {g : GO}
theorem GOk.has (h : GOk K H a g) : ∃ o, H a = some o := by
  cases g with
  | lst ws => obtain ⟨_, _, e, _⟩ := h; exact ⟨_, e⟩
  | dct => exact ⟨_, h⟩
  | exc C => exact ⟨_, h.2⟩
  | dic kvs => obtain ⟨_, _, e, _⟩ := h; exact ⟨_, e⟩
  | ins C fs => obtain ⟨_, _, _, e, _⟩ := h; exact ⟨_, e⟩
  | tbl ps => exact ⟨_, h⟩
theorem GOk.mono (t : TLe H H1) (e : H1 a = H a) (h : GOk K H a g) : GOk K H1 a g := by
  cases g with
  | lst ws => obtain ⟨l, xs, e1, r⟩ := h; exact ⟨l, xs, e.trans e1, r.mono t⟩
  | dct => exact e.trans h
  | exc C => exact ⟨h.1, e.trans h.2⟩
  | dic kvs => obtain ⟨l, xs, e1, n, r⟩ := h; exact ⟨l, xs, e.trans e1, n, r.mono t⟩
  | ins C fs => obtain ⟨l, dx, xs, e1, n, r⟩ := h; exact ⟨l, dx, xs, e.trans e1, n, r.mono t⟩
  | tbl ps => exact e.trans h
theorem RelG.fresh (h : RelG K H G) (hp : H p = none) : G p = none := by
  cases e : G p with
  | none => rfl
  | some g =>
    obtain ⟨o, e1⟩ := (h p _ e).has
    rw [hp] at e1; cases e1
theorem RelG.upd (h : RelG K H G) (t : TLe H (upd H p o)) (hG : G p = none) : RelG K (L2.upd H p o) G := fun a g e => by
  have hne : a ≠ p := fun z => by rw [z, hG] at e; cases e
  exact (h a g e).mono t (upd_ne hne)
theorem RelG.keep (h : RelG K H G) (hp : H p = none) (o : HO) : RelG K (L2.upd H p o) G := h.upd (TLe.new hp o) (h.fresh hp)
theorem RelG.lay (h : RelG K H G) {o : HO} (t : TLe H (L2.upd H p o)) (n : GOk K (L2.upd H p o) p g) : RelG K (L2.upd H p o) (updG G p g) := fun a g' e => by
  by_cases hb : a = p
  · subst hb
    rw [updG_same] at e; cases e
    exact n
  · rw [updG_ne hb] at e
    exact (h a g' e).mono t (upd_ne hb)
theorem RelG.put (h : RelG K H G) {xs : List V} {ws : List W} (t : TLe H (L2.upd H p (.lst xs))) (r : Reps K H ws xs) (hl : ws.length ≤ 100000) : RelG K (L2.upd H p (.lst xs)) (updG G p (.lst ws)) := h.lay t ⟨hl, xs, upd_same, r.mono t⟩
noncomputable def GLe (G0 G : Gp) : Prop := ∀ a g, G0 a = some g → G a = some g
theorem RelG.le {G0 : Gp} (h : RelG K H G) (l : GLe G0 G) : RelG K H G0 := fun a g e => h a g (l a g e)
theorem GLe.refl (G : Gp) : GLe G G := fun _ _ h => h
theorem GLe.trans {G0 G1 G2 : Gp} (a : GLe G0 G1) (b : GLe G1 G2) : GLe G0 G2 := fun x g h => b x g (a x g h)
theorem GLe.new {g : GO} (hp : G p = none) : GLe G (updG G p g) := fun a u e => by
  rw [updG_ne (fun z => by rw [z, hp] at e; cases e)]; exact e
end
noncomputable abbrev WSt := List (Option W)
noncomputable def RelSt (K : PySem.W.Frag) (H : Hp) (τ : WSt) (σ : St) : Prop := τ.length = σ.length ∧ ∀ (i : Nat) (w : W), τ[i]? = some (some w) → ∃ v, σ[i]? = some (some v) ∧ Rep K H w v
section
variable {K : PySem.W.Frag} {H H1 : Hp} {τ : WSt} {σ : St}
theorem RelSt.mono (t : TLe H H1) (h : RelSt K H τ σ) : RelSt K H1 τ σ := ⟨h.1, fun i w e => let ⟨v, e1, r⟩ := h.2 i w e; ⟨v, e1, r.mono t⟩⟩
theorem RelSt.set (h : RelSt K H τ σ) {w : W} {v : V} (r : Rep K H w v) (i : Nat) : RelSt K H (τ.set i (some w)) (σ.set i (some v)) := by
  refine ⟨by simpa using h.1, fun j u e => ?_⟩
  by_cases hj : i = j
  · subst hj
    by_cases hl : i < τ.length
    · rw [List.getElem?_set_self hl] at e
      cases e
      exact ⟨v, List.getElem?_set_self (by rw [← h.1]; exact hl), r⟩
    · rw [List.getElem?_eq_none (by simpa using hl)] at e; cases e
  · rw [List.getElem?_set_ne hj] at e
    obtain ⟨u', e1, r1⟩ := h.2 j u e
    exact ⟨u', by rw [List.getElem?_set_ne hj]; exact e1, r1⟩
theorem RelSt.start {N : List Str} {ws : List W} {vs : List V} (r : Reps K H ws vs) : RelSt K H (ws.map some ++ List.replicate (N.length - ws.length) none) (L2.start N vs) := by
  unfold L2.start
  refine ⟨by simp [r.length], fun i w e => ?_⟩
  by_cases hi : i < ws.length
  · rw [List.getElem?_append_left (by simpa using hi), List.getElem?_map] at e
    cases e1 : ws[i]? with
    | none => rw [e1] at e; cases e
    | some u =>
      rw [e1] at e; cases e
      obtain ⟨v, e2, rv⟩ := r.get e1
      refine ⟨v, ?_, rv⟩
      rw [List.getElem?_append_left (by simpa [← r.length] using hi), List.getElem?_map, e2]
      rfl
  · rw [List.getElem?_append_right (by simpa using hi), List.getElem?_replicate] at e
    split at e <;> cases e
end
noncomputable abbrev WK := W → Gp → Prop
noncomputable abbrev WE := WSt → Gp → WK → Prop
noncomputable abbrev WT := WSt → Gp → (Bool → Gp → Prop) → Prop
noncomputable abbrev WA := WSt → Gp → (List W → Gp → Prop) → Prop
structure WEnds where
  nx : WSt → Gp → Prop
  rt : WK
  bk : WSt → Gp → Prop := fun _ _ => False
  ct : WSt → Gp → Prop := fun _ _ => False
noncomputable abbrev WS := WEnds → WSt → Gp → Prop
noncomputable abbrev WG := W → WSt → Gp → (WSt → Gp → Prop) → Prop
noncomputable abbrev WGs := List W → WSt → Gp → (WSt → Gp → Prop) → Prop
noncomputable def LEx (K : PySem.W.Frag) (t : WE) : TE := fun σ H Q => ∃ τ G q, RelSt K H τ σ ∧ RelG K H G ∧ t τ G q ∧ ∀ v H1 w G1, TLe H H1 → Rep K H1 w v → RelG K H1 G1 → q w G1 → Q v H1
noncomputable def LTx (K : PySem.W.Frag) (t : WT) : TT := fun σ H Q => ∃ τ G q, RelSt K H τ σ ∧ RelG K H G ∧ t τ G q ∧ ∀ b H1 G1, TLe H H1 → RelG K H1 G1 → q b G1 → Q b H1
noncomputable def LA (K : PySem.W.Frag) (t : WA) : TA := fun σ H Q => ∃ τ G q, RelSt K H τ σ ∧ RelG K H G ∧ t τ G q ∧ ∀ vs H1 ws G1, TLe H H1 → Reps K H1 ws vs → RelG K H1 G1 → q ws G1 → Q vs H1
structure LEnds (K : PySem.W.Frag) (H : Hp) (d : WEnds) (D : Ends) : Prop where
  nx : ∀ σ1 H1 τ1 G1, TLe H H1 → RelSt K H1 τ1 σ1 → RelG K H1 G1 → d.nx τ1 G1 → D.nx σ1 H1
  rt : ∀ v H1 w G1, TLe H H1 → Rep K H1 w v → RelG K H1 G1 → d.rt w G1 → D.rt v H1
  bk : ∀ σ1 H1 τ1 G1, TLe H H1 → RelSt K H1 τ1 σ1 → RelG K H1 G1 → d.bk τ1 G1 → D.bk σ1 H1
  ct : ∀ σ1 H1 τ1 G1, TLe H H1 → RelSt K H1 τ1 σ1 → RelG K H1 G1 → d.ct τ1 G1 → D.ct σ1 H1
noncomputable def LS (K : PySem.W.Frag) (t : WS) : TS := fun D σ H => ∃ τ G d, RelSt K H τ σ ∧ RelG K H G ∧ t d τ G ∧ LEnds K H d D
theorem LEx.el {K : PySem.W.Frag} {t : WE} {σ : St} {H : Hp} {Q : VK} {P : Prop} (h : LEx K t σ H Q) (k : ∀ (τ : WSt) (G : Gp) (q : WK), RelSt K H τ σ → RelG K H G → t τ G q → (∀ v H1 w G1, TLe H H1 → Rep K H1 w v → RelG K H1 G1 → q w G1 → Q v H1) → P) : P := by
  obtain ⟨τ, G, q, a, b, c, d⟩ := h
  exact k τ G q a b c d
theorem LTx.el {K : PySem.W.Frag} {t : WT} {σ : St} {H : Hp} {Q : Bool → Hp → Prop} {P : Prop} (h : LTx K t σ H Q) (k : ∀ (τ : WSt) (G : Gp) (q : Bool → Gp → Prop), RelSt K H τ σ → RelG K H G → t τ G q → (∀ b H1 G1, TLe H H1 → RelG K H1 G1 → q b G1 → Q b H1) → P) : P := by
  obtain ⟨τ, G, q, a, b, c, d⟩ := h
  exact k τ G q a b c d
theorem LA.el {K : PySem.W.Frag} {t : WA} {σ : St} {H : Hp} {Q : List V → Hp → Prop} {P : Prop} (h : LA K t σ H Q) (k : ∀ (τ : WSt) (G : Gp) (q : List W → Gp → Prop), RelSt K H τ σ → RelG K H G → t τ G q → (∀ vs H1 ws G1, TLe H H1 → Reps K H1 ws vs → RelG K H1 G1 → q ws G1 → Q vs H1) → P) : P := by
  obtain ⟨τ, G, q, a, b, c, d⟩ := h
  exact k τ G q a b c d
theorem LS.el {K : PySem.W.Frag} {t : WS} {D : Ends} {σ : St} {H : Hp} {P : Prop} (h : LS K t D σ H) (k : ∀ (τ : WSt) (G : Gp) (d : WEnds), RelSt K H τ σ → RelG K H G → t d τ G → LEnds K H d D → P) : P := by
  obtain ⟨τ, G, q, a, b, c, d⟩ := h
  exact k τ G q a b c d
noncomputable def LG (K : PySem.W.Frag) (t : WG) : TG := fun v σ H Q => ∃ w τ G q, Rep K H w v ∧ RelSt K H τ σ ∧ RelG K H G ∧ t w τ G q ∧ ∀ σ1 H1 τ1 G1, TLe H H1 → RelSt K H1 τ1 σ1 → RelG K H1 G1 → q τ1 G1 → Q σ1 H1
noncomputable def LGs (K : PySem.W.Frag) (t : WGs) : TGs := fun vs σ H Q => ∃ ws τ G q, Reps K H ws vs ∧ RelSt K H τ σ ∧ RelG K H G ∧ t ws τ G q ∧ ∀ σ1 H1 τ1 G1, TLe H H1 → RelSt K H1 τ1 σ1 → RelG K H1 G1 → q τ1 G1 → Q σ1 H1
noncomputable def QE (X : Cx) (e : Expr) (t : WE) : Prop := PE X e (LEx X.K t)
noncomputable def QT (X : Cx) (e : Expr) (t : WT) : Prop := PT X e (LTx X.K t)
noncomputable def QW (X : Cx) (e : Expr) (t : WT) : Prop := PW X e (LTx X.K t)
noncomputable def QA (X : Cx) (es : List Expr) (t : WA) : Prop := PA X es (LA X.K t)
noncomputable def QS (X : Cx) (st : Stmt) (t : WS) : Prop := PS X st (LS X.K t)
noncomputable def QSs (X : Cx) (st : List Stmt) (t : WS) : Prop := PSs X st (LS X.K t)
noncomputable def QG (X : Cx) (e : Expr) (t : WG) : Prop := PG X e (LG X.K t)
noncomputable def QGs (X : Cx) (es : List Expr) (t : WGs) : Prop := PGs X es (LGs X.K t)
section
variable {X : Cx}
theorem PE.imp {e : Expr} {t t' : TE} (h : PE X e t) (f : ∀ σ H Q, t' σ H Q → t σ H Q) : PE X e t' := fun pins s σ H Q I q => h pins s σ H Q I (f _ _ _ q)
theorem PT.imp {e : Expr} {t t' : TT} (h : PT X e t) (f : ∀ σ H Q, t' σ H Q → t σ H Q) : PT X e t' := fun pins s σ H Q I q => h pins s σ H Q I (f _ _ _ q)
theorem PW.imp {e : Expr} {t t' : TT} (h : PW X e t) (f : ∀ σ H Q, t' σ H Q → t σ H Q) : PW X e t' := fun wh pins s σ H Q I q => h wh pins s σ H Q I (f _ _ _ q)
theorem PA.imp {e : List Expr} {t t' : TA} (h : PA X e t) (f : ∀ σ H Q, t' σ H Q → t σ H Q) : PA X e t' := fun pos pins s σ H Q I q => h pos pins s σ H Q I (f _ _ _ q)
theorem PS.imp {e : Stmt} {t t' : TS} (h : PS X e t) (f : ∀ D σ H, t' D σ H → t D σ H) : PS X e t' := fun pins s σ H D I q => h pins s σ H D I (f _ _ _ q)
theorem PSs.imp {e : List Stmt} {t t' : TS} (h : PSs X e t) (f : ∀ D σ H, t' D σ H → t D σ H) : PSs X e t' := fun pins s σ H D I q => h pins s σ H D I (f _ _ _ q)
theorem PG.imp {e : Expr} {t t' : TG} (h : PG X e t) (f : ∀ v σ H Q, t' v σ H Q → t v σ H Q) : PG X e t' := fun pins s σ H v u Q I r q => h pins s σ H v u Q I r (f _ _ _ _ q)
theorem PGs.imp {e : List Expr} {t t' : TGs} (h : PGs X e t) (f : ∀ v σ H Q, t' v σ H Q → t v σ H Q) : PGs X e t' := fun pins s σ H v u Q I r q => h pins s σ H v u Q I r (f _ _ _ _ q)
noncomputable def wVar (i : Nat) : WE := fun τ G q => match τ[i]? with | some (some w) => q w G | _ => False
noncomputable def wC (w : W) : WE := fun _ G q => q w G
theorem qe_var (i : Nat) {x : Str} {pos : Pos} (hN : X.N[i]? = some x) (hv : Vis X.env.scope x) (hd : (x == ("__debug__" : Str)) = false := by decide) (hcd : (x == ("__classdict__" : Str)) = false := by decide) : QE X (.Name x pos) (wVar i) := by
  refine (pe_var hN hv hd hcd).imp fun σ H Q z0 => z0.el fun τ G q hs hg ht hQ => ?_
  unfold wVar at ht
  split at ht
  · rename_i w e
    obtain ⟨v, e1, r⟩ := hs.2 i w e
    exact ⟨v, e1, hQ v H w G (TLe.refl H) r hg ht⟩
  · exact ht.elim
theorem qe_const {e : Expr} {v : V} {w : W} (h : PE X e (tC v)) (r : ∀ H, Rep X.K H w v) : QE X e (wC w) :=
  h.imp fun σ H Q z0 => z0.el fun τ G q hs hg ht hQ => hQ v H w G (TLe.refl H) (r H) hg ht
theorem qe_int {i j pos} : QE X (.Constant (.int i) j pos) (wC (.int i)) := qe_const pe_int fun _ => .int i
theorem qe_bl {b j pos} : QE X (.Constant (.bool b) j pos) (wC (.bl b)) := qe_const pe_bl fun _ => .bl b
noncomputable abbrev W2 := W → W → Gp → WK → Prop
noncomputable def LR (K : PySem.W.Frag) (r : W2) : R2 := fun x y H Q => ∃ wx wy G q, Rep K H wx x ∧ Rep K H wy y ∧ RelG K H G ∧ r wx wy G q ∧ ∀ v H1 w G1, TLe H H1 → Rep K H1 w v → RelG K H1 G1 → q w G1 → Q v H1
noncomputable def QOp (X : Cx) (f : Value → Value → Sem Value) (r : W2) : Prop := OpR X f (LR X.K r)
noncomputable def QIx (X : Cx) (r : W2) : Prop := IxR X (LR X.K r)
noncomputable def wOp (r : W2) (ta tb : WE) : WE := fun τ G q => ta τ G fun x G1 => tb τ G1 fun y G2 => r x y G2 q
theorem LEx.op {K : PySem.W.Frag} {r : W2} {ta tb : WE} {σ : St} {H : Hp} {Q : VK} (h : LEx K (wOp r ta tb) σ H Q) : tOp (LR K r) (LEx K ta) (LEx K tb) σ H Q := by
  obtain ⟨τ, G, q, hs, hg, ht, hQ⟩ := h
  refine ⟨τ, G, _, hs, hg, ht, fun v H1 w G1 t1 r1 g1 q1 => ?_⟩
  refine ⟨τ, G1, _, hs.mono t1, g1, q1, fun v2 H2 w2 G2 t2 r2 g2 q2 => ?_⟩
  exact ⟨w, w2, G2, q, r1.mono t2, r2, g2, q2, fun v3 H3 w3 G3 t3 r3 g3 q3 => hQ v3 H3 w3 G3 ((t1.trans t2).trans t3) r3 g3 q3⟩
theorem qe_op {op : Operator} {r : W2} {a b : Expr} {ta tb : WE} {pos : Pos} (ho : QOp X (binaryOp op) r) (ha : QE X a ta) (hb : QE X b tb) : QE X (.BinOp a op b pos) (wOp r ta tb) :=
  (pe_op ho ha hb).imp fun _ _ _ h => h.op
theorem qe_cmp {op : CmpOp} {r : W2} {a b : Expr} {ta tb : WE} {pos : Pos} (ho : QOp X (compareOp op) r) (ha : QE X a ta) (hb : QE X b tb) (hm : behindInMarks op b = false) : QE X (.Compare a [op] [b] pos) (wOp r ta tb) :=
  (pe_cmpR ho ha hb hm).imp fun _ _ _ h => h.op
theorem qe_ix {r : W2} {a b : Expr} {ta tb : WE} {pos : Pos} (ho : QIx X r) (ha : QE X a ta) (hb : QE X b tb) (hs : PlainIx b) : QE X (.Subscript a b pos) (wOp r ta tb) :=
  (pe_ix ho ha hb hs).imp fun _ _ _ h => h.op
noncomputable def wTest (t : WE) : WT := fun τ G q => t τ G fun x G1 => match x with | .bl b => q b G1 | _ => False
theorem LTx.test {K : PySem.W.Frag} {t : WE} {σ : St} {H : Hp} {Q : Bool → Hp → Prop} (h : LTx K (wTest t) σ H Q) : tTest (LEx K t) σ H Q := by
  obtain ⟨τ, G, q, hs, hg, ht, hQ⟩ := h
  refine ⟨τ, G, _, hs, hg, ht, fun v H1 w G1 t1 r1 g1 q1 => ?_⟩
  split at q1
  · rename_i b
    cases r1
    exact ⟨b, rfl, hQ b H1 G1 t1 g1 q1⟩
  · exact q1.elim
theorem qt_cmp {op : CmpOp} {r : W2} {a b : Expr} {ta tb : WE} {pos : Pos} (ho : QOp X (compareOp op) r) (ha : QE X a ta) (hb : QE X b tb) (hm : behindInMarks op b = false) : QT X (.Compare a [op] [b] pos) (wTest (wOp r ta tb)) :=
  (pt_cmpR ho ha hb hm).imp fun σ H Q h => by
    obtain ⟨τ, G, q, hs, hg, ht, hQ⟩ := h.test
    exact LEx.op ⟨τ, G, q, hs, hg, ht, hQ⟩
theorem qt_val {e : Expr} {t : WE} (h : QE X e t) (he : ∀ whole, isTrue e X.env whole = (do let v ← whole; standAt e.pos; holding [v] (truthy v)) := by intro _; rfl) : QT X e (wTest t) :=
  (pt_val h he).imp fun σ H Q h => h.test
noncomputable def wAnd (t u : WT) : WT := fun τ G q => t τ G fun c G1 => if c = true then u τ G1 q else q false G1
noncomputable def wOr (t u : WT) : WT := fun τ G q => t τ G fun c G1 => if c = true then q true G1 else u τ G1 q
noncomputable def wNot (t : WT) : WT := fun τ G q => t τ G fun c G1 => q (!c) G1
theorem qw_and1 {a : Expr} {t : WT} {pos : Pos} (ha : QT X a t) : QW X (.BoolOp .And [a] pos) t := pw_and1 ha
theorem qw_or1 {a : Expr} {t : WT} {pos : Pos} (ha : QT X a t) : QW X (.BoolOp .Or [a] pos) t := pw_or1 ha
theorem qw_and {a b : Expr} {rest : List Expr} {t u : WT} {pos : Pos} (ha : QT X a t) (hb : QW X (.BoolOp .And (b :: rest) pos) u) : QW X (.BoolOp .And (a :: b :: rest) pos) (wAnd t u) :=
  (pw_and ha hb).imp fun σ H Q z0 => z0.el fun τ G q hs hg ht hQ => ⟨τ, G, _, hs, hg, ht, fun c H1 G1 t1 g1 q1 => by
    cases c with
    | true => rw [if_pos rfl] at q1 ⊢; exact ⟨τ, G1, q, hs.mono t1, g1, q1, fun b H2 G2 t2 g2 q2 => hQ b H2 G2 (t1.trans t2) g2 q2⟩
    | false => rw [if_neg Bool.false_ne_true] at q1 ⊢; exact hQ false H1 G1 t1 g1 q1⟩
theorem qw_or {a b : Expr} {rest : List Expr} {t u : WT} {pos : Pos} (ha : QT X a t) (hb : QW X (.BoolOp .Or (b :: rest) pos) u) : QW X (.BoolOp .Or (a :: b :: rest) pos) (wOr t u) :=
  (pw_or ha hb).imp fun σ H Q z0 => z0.el fun τ G q hs hg ht hQ => ⟨τ, G, _, hs, hg, ht, fun c H1 G1 t1 g1 q1 => by
    cases c with
    | true => rw [if_pos rfl] at q1 ⊢; exact hQ true H1 G1 t1 g1 q1
    | false => rw [if_neg Bool.false_ne_true] at q1 ⊢; exact ⟨τ, G1, q, hs.mono t1, g1, q1, fun b H2 G2 t2 g2 q2 => hQ b H2 G2 (t1.trans t2) g2 q2⟩⟩
theorem qt_w {e : Expr} {t : WT} (h : QW X e t) : QT X e t := PW.pt h
theorem qt_not {a : Expr} {t : WT} {pos : Pos} (ha : QT X a t) : QT X (.UnaryOp .Not a pos) (wNot t) :=
  (pt_not ha).imp fun σ H Q z0 => z0.el fun τ G q hs hg ht hQ => ⟨τ, G, _, hs, hg, ht, fun c H1 G1 t1 g1 q1 => hQ (!c) H1 G1 t1 g1 q1⟩
noncomputable def wAndV (ta tb : WE) : WE := fun τ G q => ta τ G fun x G1 => match x with | .bl c => if c = true then tb τ G1 q else q (.bl false) G1 | _ => False
noncomputable def wOrV (ta tb : WE) : WE := fun τ G q => ta τ G fun x G1 => match x with | .bl c => if c = true then q (.bl true) G1 else tb τ G1 q | _ => False
noncomputable def wNotV (ta : WE) : WE := fun τ G q => ta τ G fun x G1 => match x with | .bl c => q (.bl (!c)) G1 | _ => False
theorem qe_one {a : Expr} {op} {t : WE} {pos : Pos} (h : QE X a t) : QE X (.BoolOp op [a] pos) t := pe_one h
theorem qe_and {a b : Expr} {rest : List Expr} {ta tb : WE} {pos : Pos} (ha : QE X a ta) (hb : QE X (.BoolOp .And (b :: rest) pos) tb) : QE X (.BoolOp .And (a :: b :: rest) pos) (wAndV ta tb) :=
  (pe_and ha hb).imp fun σ H Q z0 => z0.el fun τ G q hs hg ht hQ => ⟨τ, G, _, hs, hg, ht, fun v H1 w G1 t1 r1 g1 q1 => by
    split at q1
    · rename_i c
      cases r1
      refine ⟨c, rfl, ?_⟩
      cases c with
      | true => rw [if_pos rfl] at q1 ⊢; exact ⟨τ, G1, q, hs.mono t1, g1, q1, fun v2 H2 w2 G2 t2 r2 g2 q2 => hQ v2 H2 w2 G2 (t1.trans t2) r2 g2 q2⟩
      | false => rw [if_neg Bool.false_ne_true] at q1 ⊢; exact hQ _ H1 _ G1 t1 (.bl false) g1 q1
    · exact q1.elim⟩
theorem qe_not {a : Expr} {ta : WE} {pos : Pos} (ha : QE X a ta) : QE X (.UnaryOp .Not a pos) (wNotV ta) :=
  (pe_not ha).imp fun σ H Q z0 => z0.el fun τ G q hs hg ht hQ => ⟨τ, G, _, hs, hg, ht, fun v H1 w G1 t1 r1 g1 q1 => by
    split at q1
    · rename_i c
      cases r1
      exact ⟨c, rfl, hQ _ H1 _ G1 t1 (.bl _) g1 q1⟩
    · exact q1.elim⟩
noncomputable def wIfE (c : WT) (ta tb : WE) : WE := fun τ G q => c τ G fun b G1 => if b = true then ta τ G1 q else tb τ G1 q
noncomputable def wNil : WA := fun _ G q => q [] G
noncomputable def wCons (ta : WE) (tr : WA) : WA := fun τ G q => ta τ G fun x G1 => tr τ G1 fun xs G2 => q (x :: xs) G2
theorem qa_nil : QA X [] wNil := pa_nil.imp fun σ H Q z0 => z0.el fun τ G q hs hg ht hQ => hQ [] H [] G (TLe.refl H) .nil hg ht
theorem qa_cons {e : Expr} {es : List Expr} {te : WE} {t : WA} (ha : QE X e te) (hr : QA X es t) (hs : starEach (e :: es) X.env = (false, eval e X.env) :: starEach es X.env := by rfl) : QA X (e :: es) (wCons te t) :=
  (pa_cons ha hr hs).imp fun σ H Q z0 => z0.el fun τ G q hs hg ht hQ => ⟨τ, G, _, hs, hg, ht, fun v H1 w G1 t1 r1 g1 q1 =>
    ⟨τ, G1, _, hs.mono t1, g1, q1, fun vs H2 ws G2 t2 r2 g2 q2 => hQ (v :: vs) H2 (w :: ws) G2 (t1.trans t2) (.cons (r1.mono t2) r2) g2 q2⟩⟩
theorem line_le {n : Nat} (h : n ≤ 100000) : n ≤ sizeLine := by rw [sizeLine_eq]; exact Nat.le_trans (by assumption) (Nat.le_of_ble_eq_true rfl)
noncomputable def wTup (t : WA) : WE := fun τ G q => t τ G fun ws G1 => ws.length ≤ 100000 ∧ q (.tup ws) G1
noncomputable def wLst (t : WA) : WE := fun τ G q => t τ G fun ws G1 => ws.length ≤ 100000 ∧ ∀ p, G1 p = none → q (.ref p) (updG G1 p (.lst ws))
theorem qe_tup {es : List Expr} {x1} {t : WA} {pos : Pos} (h : QA X es t) : QE X (.Tuple es x1 pos) (wTup t) :=
  (pe_tup h).imp fun σ H Q z0 => z0.el fun τ G q hs hg ht hQ => ⟨τ, G, _, hs, hg, ht, fun vs H1 ws G1 t1 r1 g1 q1 =>
    ⟨by rw [← r1.length]; exact line_le q1.1, fun p hp => hQ _ _ _ G1 (t1.trans (TLe.new hp _)) (.tup upd_same (r1.mono (TLe.new hp _))) (g1.keep hp _) q1.2⟩⟩
theorem qe_lst {es : List Expr} {t : WA} {pos : Pos} (h : QA X es t) : QE X (.List es pos) (wLst t) :=
  (pe_lst h).imp fun σ H Q z0 => z0.el fun τ G q hs hg ht hQ => ⟨τ, G, _, hs, hg, ht, fun vs H1 ws G1 t1 r1 g1 q1 =>
    ⟨by rw [← r1.length]; exact line_le q1.1, fun p hp => hQ _ _ _ _ (t1.trans (TLe.new hp _)) (.ref p) (g1.put (TLe.new hp _) r1 q1.1) (q1.2 p (g1.fresh hp))⟩⟩
noncomputable def wNext : WS := fun d τ G => d.nx τ G
noncomputable def wSeq (t u : WS) : WS := fun d τ G => t { d with nx := u d } τ G
theorem LEnds.mono {K : PySem.W.Frag} {H H1 : Hp} {d : WEnds} {D : Ends} (l : LEnds K H d D) (t : TLe H H1) : LEnds K H1 d D :=
  ⟨fun σ2 H2 τ2 G2 t2 => l.nx σ2 H2 τ2 G2 (t.trans t2), fun v H2 w G2 t2 => l.rt v H2 w G2 (t.trans t2), fun σ2 H2 τ2 G2 t2 => l.bk σ2 H2 τ2 G2 (t.trans t2), fun σ2 H2 τ2 G2 t2 => l.ct σ2 H2 τ2 G2 (t.trans t2)⟩
theorem qss_nil : QSs X [] wNext := pss_nil.imp fun D σ H z0 => z0.el fun τ G d hs hg ht l => l.nx σ H τ G (TLe.refl H) hs hg ht
theorem qss_cons {st : Stmt} {rest : List Stmt} {t u : WS} (h1 : QS X st t) (h2 : QSs X rest u) : QSs X (st :: rest) (wSeq t u) :=
  (pss_cons h1 h2).imp fun D σ H z0 => z0.el fun τ G d hs hg ht l => ⟨τ, G, _, hs, hg, ht, ⟨fun σ1 H1 τ1 G1 t1 s1 g1 q1 => ⟨τ1, G1, d, s1, g1, q1, l.mono t1⟩, l.rt, l.bk, l.ct⟩⟩
noncomputable def wDrop (te : WE) : WS := fun d τ G => te τ G fun _ G1 => d.nx τ G1
theorem qs_expr {e : Expr} {te : WE} {pos : Pos} (he : QE X e te) (hs : swapsWith e none pos.line X.env = pure false := by rfl) : QS X (.Expr e pos) (wDrop te) :=
  (ps_expr he hs).imp fun D σ H z0 => z0.el fun τ G d hs hg ht l => ⟨τ, G, _, hs, hg, ht, fun v H1 w G1 t1 r1 g1 q1 => l.nx σ H1 τ G1 t1 (hs.mono t1) g1 q1⟩
noncomputable def wRet (te : WE) : WS := fun d τ G => te τ G d.rt
theorem qs_ret {e : Expr} {te : WE} {pos : Pos} (he : QE X e te) : QS X (.Return (some e) pos) (wRet te) :=
  (ps_ret he).imp fun D σ H z0 => z0.el fun τ G d hs hg ht l => ⟨τ, G, _, hs, hg, ht, fun v H1 w G1 t1 r1 g1 q1 => l.rt v H1 w G1 t1 r1 g1 q1⟩
noncomputable def wIf (c : WT) (t u : WS) : WS := fun d τ G => c τ G fun b G1 => if b = true then t d τ G1 else u d τ G1
theorem qs_if {c : Expr} {a b : List Stmt} {tc : WT} {t u : WS} {pos : Pos} (hc : QT X c tc) (ha : QSs X a t) (hb : QSs X b u) : QS X (.If c a b pos) (wIf tc t u) :=
  (ps_if hc ha hb).imp fun D σ H z0 => z0.el fun τ G d hs hg ht l => ⟨τ, G, _, hs, hg, ht, fun c H1 G1 t1 g1 q1 => by
    cases c with
    | true => rw [if_pos rfl] at q1 ⊢; exact ⟨τ, G1, d, hs.mono t1, g1, q1, l.mono t1⟩
    | false => rw [if_neg Bool.false_ne_true] at q1 ⊢; exact ⟨τ, G1, d, hs.mono t1, g1, q1, l.mono t1⟩⟩
noncomputable def hName (i : Nat) : WG := fun w τ G q => q (τ.set i (some w)) G
theorem qg_name (i : Nat) {x : Str} {pos : Pos} (hN : X.N.Nodup) (hi : X.N[i]? = some x) (hx : Loc X.env.scope x) (hf : X.fn x = true ∨ X.env.scope.names.lookup x = some .local := by first | exact .inl rfl | exact .inr rfl | assumption) : QG X (.Name x pos) (hName i) :=
  (pg_name hN hi hx hf).imp fun v σ H Q ⟨w, τ, G, q, r, hs, hg, ht, hQ⟩ => hQ _ H _ G (TLe.refl H) (hs.set r i) hg ht
noncomputable def hNil : WGs := fun ws τ G q => match ws with | [] => q τ G | _ => False
noncomputable def hCons (t : WG) (u : WGs) : WGs := fun ws τ G q => match ws with | w :: r => t w τ G fun τ1 G1 => u r τ1 G1 q | [] => False
theorem qgs_nil : QGs X [] hNil := pgs_nil.imp fun vs σ H Q ⟨ws, τ, G, q, r, hs, hg, ht, hQ⟩ => by
  unfold hNil at ht
  cases r with
  | nil => exact ⟨rfl, hQ σ H τ G (TLe.refl H) hs hg ht⟩
  | cons _ _ => exact ht.elim
theorem qgs_cons {e : Expr} {es : List Expr} {t : WG} {u : WGs} (h1 : QG X e t) (h2 : QGs X es u)
    (hs : (assignEach (e :: es) X.env).map (·.2) = assign e X.env :: (assignEach es X.env).map (·.2) := by rfl) : QGs X (e :: es) (hCons t u) :=
  (pgs_cons h1 h2 hs).imp fun vs σ H Q ⟨ws, τ, G, q, r, hs, hg, ht, hQ⟩ => by
    unfold hCons at ht
    cases r with
    | nil => exact ht.elim
    | cons r rs =>
      exact ⟨_, _, rfl, _, τ, G, _, r, hs, hg, ht, fun σ1 H1 τ1 G1 t1 s1 g1 q1 => ⟨_, τ1, G1, q, rs.mono t1, s1, g1, q1, fun σ2 H2 τ2 G2 t2 => hQ σ2 H2 τ2 G2 (t1.trans t2)⟩⟩
noncomputable def hTup (n : Nat) (t : WGs) : WG := fun w τ G q => match w with | .tup ws => ws.length = n ∧ t ws τ G q | _ => False
theorem qg_tup {es : List Expr} {k : Nat} {t : WGs} {pos : Pos} (hc : X.calm = true) (h : QGs X es t)
    (hn : (assignEach es X.env).length = es.length := by rfl) (hst : (assignEach es X.env).findIdx? (·.1) = none := by rfl) : QG X (.Tuple es k pos) (hTup es.length t) :=
  (pg_tup hc h hn hst).imp fun v σ H Q ⟨w, τ, G, q, r, hs, hg, ht, hQ⟩ => by
    unfold hTup at ht
    cases r with
    | tup h r => exact ⟨_, _, rfl, SqT.of h, by rw [← r.length]; exact ht.1, _, τ, G, q, r, hs, hg, ht.2, hQ⟩
    | _ => exact ht.elim
noncomputable def wAsg (te : WE) (g : WG) : WS := fun d τ G => te τ G fun x G1 => g x τ G1 d.nx
theorem LS.asg {K : PySem.W.Frag} {te : WE} {g : WG} {D : Ends} {σ : St} {H : Hp} (h : LS K (wAsg te g) D σ H) : tAsg (LEx K te) (LG K g) D σ H := by
  obtain ⟨τ, G, d, hs, hg, ht, l⟩ := h
  exact ⟨τ, G, _, hs, hg, ht, fun v H1 w G1 t1 r1 g1 q1 => ⟨w, τ, G1, _, r1, hs.mono t1, g1, q1, fun σ2 H2 τ2 G2 t2 => l.nx σ2 H2 τ2 G2 (t1.trans t2)⟩⟩
theorem qs_set (i : Nat) {x : Str} {e : Expr} {te : WE} {pos' pos : Pos} (hN : X.N.Nodup) (hi : X.N[i]? = some x) (hx : Loc X.env.scope x) (he : QE X e te) (hs : swapsWith e (some (.Name x pos')) pos.line X.env = pure false := by rfl) (hf : X.fn x = true ∨ X.env.scope.names.lookup x = some .local := by first | exact .inl rfl | exact .inr rfl | assumption) :
    QS X (.Assign [.Name x pos'] e pos) (wAsg te (hName i)) :=
  (ps_set hN hi hx he hs hf).imp fun D σ H z0 => z0.el fun τ G d hs hg ht l =>
    ⟨τ, G, _, hs, hg, ht, fun v H1 w G1 t1 r1 g1 q1 => l.nx _ H1 _ G1 t1 ((hs.mono t1).set r1 i) g1 q1⟩
theorem qs_asg {tg e : Expr} {te : WE} {g : WG} {pos : Pos} (he : QE X e te) (hg : QG X tg g) (hs : swapsWithSole [tg] e pos.line X.env = pure false := by rfl) (hw : swappedStores [tg] e X.env = pure none := by rfl)
    (h1 : (assignEach [tg] X.env).map (·.2) = [assign tg X.env] := by rfl) : QS X (.Assign [tg] e pos) (wAsg te g) :=
  (ps_asg he hg hs hw h1).imp fun _ _ _ h => h.asg
noncomputable def wWhile (c : WT) (tb : WS) : WS := fun d τ G => ∃ I : Nat → WSt → Gp → Prop, (∃ m, I m τ G) ∧ ∀ m τ G, I m τ G →
  c τ G fun b G1 => if b = true then ∃ N : WSt → Gp → Prop, (∀ τ1 G1, N τ1 G1 → ∃ m1, m1 < m ∧ I m1 τ1 G1) ∧ tb { d with nx := N, ct := N, bk := d.nx } τ G1 else d.nx τ G1
theorem qs_while {c : Expr} {body : List Stmt} {tc : WT} {tb : WS} {pos : Pos} (hp : PassesOwn (model X.prog X.w) X.A X.env X.xe) (hc : QT X c tc) (hb : QSs X body tb) : QS X (.While c body [] pos) (wWhile tc tb) :=
  (ps_while hp hc hb).imp fun D σ H ⟨τ, G, d, hs, hg, ⟨I, ⟨m, i0⟩, turn⟩, l⟩ => by
    refine ⟨fun m σ1 H1 => ∃ τ1 G1, TLe H H1 ∧ RelSt X.K H1 τ1 σ1 ∧ RelG X.K H1 G1 ∧ I m τ1 G1, ⟨m, τ, G, TLe.refl H, hs, hg, i0⟩, ?_⟩
    rintro m1 σ1 H1 ⟨τ1, G1, t1, s1, g1, i1⟩
    refine ⟨τ1, G1, _, s1, g1, turn m1 τ1 G1 i1, fun b H2 G2 t2 g2 q2 => ?_⟩
    cases b with
    | true =>
      rw [if_pos rfl] at q2 ⊢
      obtain ⟨N, hN, q2⟩ := q2
      refine ⟨fun σ3 H3 => ∃ τ3 G3, TLe H H3 ∧ RelSt X.K H3 τ3 σ3 ∧ RelG X.K H3 G3 ∧ N τ3 G3, ?_, τ1, G2, _, s1.mono t2, g2, q2, ?_⟩
      · rintro σ3 H3 ⟨τ3, G3, t3, s3, g3, n3⟩
        obtain ⟨m3, hm, i3⟩ := hN τ3 G3 n3
        exact ⟨m3, hm, τ3, G3, t3, s3, g3, i3⟩
      · have tt := t1.trans t2
        exact ⟨fun σ3 H3 τ3 G3 t3 s3 g3 q3 => ⟨τ3, G3, tt.trans t3, s3, g3, q3⟩, fun v H3 w G3 t3 => l.rt v H3 w G3 (tt.trans t3), fun σ3 H3 τ3 G3 t3 => l.nx σ3 H3 τ3 G3 (tt.trans t3), fun σ3 H3 τ3 G3 t3 s3 g3 q3 => ⟨τ3, G3, tt.trans t3, s3, g3, q3⟩⟩
    | false =>
      rw [if_neg Bool.false_ne_true] at q2 ⊢
      exact l.nx σ1 H2 τ1 G2 (t1.trans t2) (s1.mono t2) g2 q2
end
end L2
namespace L2
open PySem PySem.Spec PyProof.Rows
section
variable {X : Cx}
noncomputable abbrev WX := Value → Gp → Prop
noncomputable abbrev WSp := List W → Gp → WK → WX → Prop
noncomputable def LSp (K : PySem.W.Frag) (sp : WSp) : Sp := fun vs H Q E => ∃ ws G q e, Reps K H ws vs ∧ RelG K H G ∧ sp ws G q e ∧ (∀ v H1 w G1, TLe H H1 → Rep K H1 w v → RelG K H1 G1 → q w G1 → Q v H1) ∧
  ∀ c d H1 G1, TLe H H1 → RelG K H1 G1 → e c G1 → E c d H1
noncomputable abbrev WFn (P : Program) (w : World) (K : PySem.W.Frag) (mg : Str → Option Value) (base : Heap) (k : Nat) (f : Addr) (fd : FuncData) (ps : List Str) (sp : WSp) : Prop := FnOk P w K mg base CX0 k f fd ps (LSp K sp)
noncomputable def wCall (sp : WSp) (dws : List W) (t : WA) : WE := fun τ G q => t τ G fun ws G1 => sp (ws ++ dws) G1 q fun _ _ => False
theorem LEx.call {K : PySem.W.Frag} {sp : WSp} {dws : List W} {dvs : List V} {t : WA} {σ : St} {H : Hp} {Q : VK} {E : XK} (hd : ∀ H, Reps K H dws dvs) (h : LEx K (wCall sp dws t) σ H Q) : tCall (LSp K sp) dvs E (LA K t) σ H Q := by
  obtain ⟨τ, G, q, hs, hg, ht, hQ⟩ := h
  exact ⟨τ, G, _, hs, hg, ht, fun vs H1 ws G1 t1 r1 g1 q1 => ⟨ws ++ dws, G1, q, _, r1.append (hd H1), g1, q1, fun v H2 w G2 t2 => hQ v H2 w G2 (t1.trans t2), fun _ _ _ _ _ _ z => z.elim⟩⟩
theorem qe_call {k : Nat} {f : Addr} {fd : FuncData} {ps : List Str} {sp : WSp} {x : Str} {p pos : Pos} {e : Expr} {es : List Expr} {t : WA} (F : WFn X.prog X.w X.K X.mg X.base k f fd ps sp) (hr : Room k X.A) (hg : Gl X x) (hm : X.mg x = some (.ref f))
    (hk : PySem.W.keepIn X.K (.ref f) = true) (hb : Binds X.K fd ps []) (ha : QA X (e :: es) t) (hdb : (x == ("__debug__" : Str)) = false := by decide)
    (he : starEach (e :: es) X.env = (false, eval e X.env) :: starEach es X.env := by rfl) (hpl : (backTo pos (starEach es X.env)).any (·.1) = false := by rfl) : QE X (.Call (.Name x p) (e :: es) [] pos) (wCall sp [] t) :=
  (pe_call F hr hg hm hk hb .nil pass0 ha hdb he hpl).imp fun _ _ _ h => h.call fun _ => .nil
noncomputable def wStart (N : List Str) (ws : List W) : WSt := ws.map some ++ List.replicate (N.length - ws.length) none
theorem WFn.none {P : Program} {w : World} {K : PySem.W.Frag} {mg : Str → Option Value} {base : Heap} {k : Nat} {f : Addr} {fd : FuncData} {ps : List Str} {sp : WSp} (h : ∀ ws G q e, ¬ sp ws G q e) : WFn P w K mg base k f fd ps sp :=
  ⟨fun _ _ _ _ ⟨_, _, _, _, _, _, z, _⟩ => absurd z (h _ _ _ _), fun _ _ _ _ _ _ _ _ _ _ _ _ _ ⟨_, _, _, _, _, _, z, _⟩ => absurd z (h _ _ _ _)⟩
theorem fn3 {P : Program} {w : World} {K : PySem.W.Frag} {mg : Str → Option Value} {base : Heap} {x qual : Str} {st : Stmt} {f : Addr} {fd : FuncData} {N ps : List Str} {k : Nat} {sp : WSp} (F : Fun K x qual st f fd) (S : FnScope N ps (defScope st)) (len : ∀ ws G q e, sp ws G q e → ws.length = ps.length)
    (hbody : ∀ (cdv : Value) (A : Around) (outer : List Env) (s : Shared) (H : Hp) (E : XK), Room k (A.deeper (envOfC qual (defScope st) s.heap.objs.size f cdv)) →
      ∃ t, QSs (cxOf CX0 P w K mg base N qual (defScope st) f cdv A outer s H E).nox (defBody st) t ∧
        ∀ (ws : List W) (G : Gp) (q : WK) (e : WX), sp ws G q e → t { nx := fun _ G1 => ∃ G0, GLe G0 G1 ∧ q .non G0, rt := fun w G1 => ∃ G0, GLe G0 G1 ∧ q w G0 } (wStart N ws) G) : WFn P w K mg base (k + 1) f fd ps sp := by
  refine F.ok S (fun vs H Q E ⟨ws, G, q, e, r, g, z, _⟩ => by rw [← r.length]; exact len _ _ _ _ z) (fun cdv A outer s H vs Q E hr ⟨ws, G, q, e, r, g, z, hQ, _⟩ => ?_)
  obtain ⟨t, ht, hq⟩ := hbody cdv A outer s H E hr
  exact ⟨_, ht, _, G, _, RelSt.start r, g, hq ws G q e z, ⟨fun σ1 H1 τ1 G1 t1 s1 g1 ⟨G0, l, q1⟩ => hQ .non H1 .non G0 t1 .non (g1.le l) q1, fun v H1 w G1 t1 r1 g1 ⟨G0, l, q1⟩ => hQ v H1 w G0 t1 r1 (g1.le l) q1, fun _ _ _ _ _ _ _ z => z.elim, fun _ _ _ _ _ _ _ z => z.elim⟩⟩
noncomputable def LCall (K : PySem.W.Frag) (r : List W → Gp → WK → Prop) : List V → Hp → VK → Prop := fun vs H Q => ∃ ws G q, Reps K H ws vs ∧ RelG K H G ∧ r ws G q ∧ ∀ v H1 w G1, TLe H H1 → Rep K H1 w v → RelG K H1 G1 → q w G1 → Q v H1
noncomputable def QCall (X : Cx) (f : Value) (r : List W → Gp → WK → Prop) : Prop := CallR X f (LCall X.K r)
noncomputable def wCB (r : List W → Gp → WK → Prop) (t : WA) : WE := fun τ G q => t τ G fun ws G1 => r ws G1 q
theorem LEx.cb {K : PySem.W.Frag} {r : List W → Gp → WK → Prop} {t : WA} {σ : St} {H : Hp} {Q : VK} (h : LEx K (wCB r t) σ H Q) : tCB (LCall K r) (LA K t) σ H Q := by
  obtain ⟨τ, G, q, hs, hg, ht, hQ⟩ := h
  exact ⟨τ, G, _, hs, hg, ht, fun vs H1 ws G1 t1 r1 g1 q1 => ⟨ws, G1, q, r1, g1, q1, fun v H2 w G2 t2 => hQ v H2 w G2 (t1.trans t2)⟩⟩
theorem qe_callB {id : String} {r : List W → Gp → WK → Prop} {x : Str} {p pos : Pos} {e : Expr} {es : List Expr} {t : WA} (hc : QCall X (.builtin id) r) (hg : Gl X x) (hm : X.mg x = none) (hv : bootBuiltins x = some (.builtin id)) (ha : QA X (e :: es) t)
    (hn : x ≠ "__name__" := by decide) (hdb : (x == ("__debug__" : Str)) = false := by decide)
    (he : starEach (e :: es) X.env = (false, eval e X.env) :: starEach es X.env := by rfl) (hpl : (backTo pos (starEach es X.env)).any (·.1) = false := by rfl) : QE X (.Call (.Name x p) (e :: es) [] pos) (wCB r t) :=
  (pe_callB hc hg hm hv ha hn hdb he hpl).imp fun _ _ _ h => h.cb
theorem qe_callTy {T : String} {r : List W → Gp → WK → Prop} {x : Str} {p pos : Pos} {e : Expr} {es : List Expr} {t : WA} (hc : QCall X (.type T) r) (hg : Gl X x) (hm : X.mg x = none) (hv : bootBuiltins x = some (.type T)) (ha : QA X (e :: es) t)
    (hn : x ≠ "__name__" := by decide) (hdb : (x == ("__debug__" : Str)) = false := by decide)
    (he : starEach (e :: es) X.env = (false, eval e X.env) :: starEach es X.env := by rfl) (hpl : (backTo pos (starEach es X.env)).any (·.1) = false := by rfl) : QE X (.Call (.Name x p) (e :: es) [] pos) (wCB r t) :=
  (pe_callTy hc hg hm hv ha hn hdb he hpl).imp fun _ _ _ h => h.cb
theorem Reps.one {K : PySem.W.Frag} {H : Hp} {w : W} {vs : List V} (r : Reps K H [w] vs) : ∃ v, vs = [v] ∧ Rep K H w v := by
  cases r with
  | cons r rs => cases rs; exact ⟨_, rfl, r⟩
theorem Reps.two {K : PySem.W.Frag} {H : Hp} {w u : W} {vs : List V} (r : Reps K H [w, u] vs) : ∃ v x, vs = [v, x] ∧ Rep K H w v ∧ Rep K H u x := by
  cases r with
  | cons r rs =>
    obtain ⟨x, rfl, r2⟩ := rs.one
    exact ⟨_, _, rfl, r, r2⟩
noncomputable def cLen : List W → Gp → WK → Prop := fun ws G q => match ws with
  | [.tup xs] => q (.int xs.length) G
  | [.scr ns] => q (.int ns.length) G
  | [.ref a] => ∃ xs, G a = some (.lst xs) ∧ q (.int xs.length) G
  | _ => False
theorem q_len : QCall X (.builtin "len") cLen := by
  intro pins s σ H xs us Q I r ⟨ws, G, q, rw', g, h, hQ⟩
  unfold cLen at h
  split at h
  · rename_i ys
    obtain ⟨v, rfl, r1⟩ := rw'.one
    cases r1 with
    | tup hh rr => exact call_len_seq pins s σ H _ us Q I r ⟨_, _, rfl, .inr (SqT.of hh), hQ _ H _ G (TLe.refl H) (by rw [rr.length]; exact .int _) g h⟩
  · rename_i ns
    obtain ⟨v, rfl, r1⟩ := rw'.one
    cases r1 with
    | scr hh => exact call_len_seq pins s σ H _ us Q I r ⟨_, _, rfl, .inl hh.sq, hQ _ H _ G (TLe.refl H) (by rw [List.length_map]; exact .int _) g h⟩
  · rename_i a
    obtain ⟨ys, e, h⟩ := h
    obtain ⟨v, rfl, r1⟩ := rw'.one
    cases r1
    obtain ⟨_, zs, e1, rr⟩ := g a _ e
    exact call_len_seq pins s σ H _ us Q I r ⟨_, _, rfl, .inl (SqL.of e1), hQ _ H _ G (TLe.refl H) (by rw [rr.length]; exact .int _) g h⟩
  · exact h.elim
noncomputable def cTuple : List W → Gp → WK → Prop := fun ws G q => match ws with
  | [.tup xs] => q (.tup xs) G
  | [.ref a] => ∃ xs, G a = some (.lst xs) ∧ q (.tup xs) G
  | _ => False
theorem q_tuple : QCall X (.type "tuple") cTuple := by
  intro pins s σ H xs us Q I r ⟨ws, G, q, rw', g, h, hQ⟩
  unfold cTuple at h
  split at h
  · rename_i ys
    obtain ⟨v, rfl, r1⟩ := rw'.one
    cases r1 with
    | tup hh rr => exact call_tuple_of pins s σ H _ us Q I r ⟨_, _, rfl, .inr ⟨SqT.of hh, hQ _ H _ G (TLe.refl H) (.tup hh rr) g h⟩⟩
  · rename_i a
    obtain ⟨ys, e, h⟩ := h
    obtain ⟨v, rfl, r1⟩ := rw'.one
    cases r1
    obtain ⟨_, zs, e1, rr⟩ := g a _ e
    exact call_tuple_of pins s σ H _ us Q I r ⟨_, _, rfl, .inl ⟨SqL.of e1, fun l hl => hQ _ _ _ G (TLe.new hl _) (.tup upd_same (rr.mono (TLe.new hl _))) (g.keep hl _) h⟩⟩
  · exact h.elim
noncomputable def cList : List W → Gp → WK → Prop := fun ws G q => match ws with
  | [.tup xs] => xs.length ≤ 100000 ∧ ∀ p, G p = none → q (.ref p) (updG G p (.lst xs))
  | [.ref a] => ∃ xs, G a = some (.lst xs) ∧ ∀ p, G p = none → q (.ref p) (updG G p (.lst xs))
  | _ => False
theorem q_list : QCall X (.type "list") cList := by
  intro pins s σ H xs us Q I r ⟨ws, G, q, rw', g, h, hQ⟩
  unfold cList at h
  split at h
  · rename_i ys
    obtain ⟨v, rfl, r1⟩ := rw'.one
    cases r1 with
    | tup hh rr => exact call_list_of pins s σ H _ us Q I r ⟨_, _, rfl, .inr (SqT.of hh), fun l hl => hQ _ _ _ _ (TLe.new hl _) (.ref l) (g.put (TLe.new hl _) rr h.1) (h.2 l (g.fresh hl))⟩
  · rename_i a
    obtain ⟨ys, e, h⟩ := h
    obtain ⟨v, rfl, r1⟩ := rw'.one
    cases r1
    obtain ⟨hl, zs, e1, rr⟩ := g a _ e
    exact call_list_of pins s σ H _ us Q I r ⟨_, _, rfl, .inl (SqL.of e1), fun l hl' => hQ _ _ _ _ (TLe.new hl' _) (.ref l) (g.put (TLe.new hl' _) rr hl) (h l (g.fresh hl'))⟩
  · exact h.elim
noncomputable def cInt : List W → Gp → WK → Prop := fun ws G q => match ws with
  | [.int i] => q (.int i) G
  | [.bl b] => q (.int (if b then 1 else 0)) G
  | _ => False
theorem q_int : QCall X (.type "int") cInt := by
  intro pins s σ H xs us Q I r ⟨ws, G, q, rw', g, h, hQ⟩
  unfold cInt at h
  split at h
  · obtain ⟨v, rfl, r1⟩ := rw'.one
    cases r1
    exact call_int1 pins s σ H _ us Q I r (.inl ⟨_, rfl, hQ _ H _ G (TLe.refl H) (.int _) g h⟩)
  · obtain ⟨v, rfl, r1⟩ := rw'.one
    cases r1
    exact call_int1 pins s σ H _ us Q I r (.inr ⟨_, rfl, hQ _ H _ G (TLe.refl H) (.int _) g h⟩)
  · exact h.elim
noncomputable def cMax : List W → Gp → WK → Prop := fun ws G q => match ws with
  | [.int i, .int j] => q (.int (if j > i then j else i)) G
  | _ => False
noncomputable def vAdd : W2 := fun x y G q => match x, y with
  | .int i, .int j => q (.int (i + j)) G
  | .tup xs, .tup ys => xs.length + ys.length ≤ 100000 ∧ q (.tup (xs ++ ys)) G
  | .ref a, .ref b => ∃ xs ys, G a = some (.lst xs) ∧ G b = some (.lst ys) ∧ xs.length + ys.length ≤ 100000 ∧ ∀ p, G p = none → q (.ref p) (updG G p (.lst (xs ++ ys)))
  | _, _ => False
theorem cat0 {pins : List (Addr × Obj)} {σ : St} {H : Hp} {s : Shared} {a b : Addr} {ys : List V} {Q : VK} (I : Inv X pins σ H s) (ha : H a = some (.tup [])) (hb : H b = some (.tup ys)) (q : Q (.ref b) H) : wpAny (model X.prog X.w) X.A (binaryOp .Add (.ref a) (.ref b)) (EP X pins σ Q) X.xe s := by
  obtain ⟨its, r1, p1, _⟩ := I.tuple (SqT.of ha)
  obtain ⟨its2, r2, p2, _⟩ := I.tuple (SqT.of hb)
  cases r1
  obtain ⟨⟨cls, dd, data, sl⟩, ho, hc, n, hd⟩ := id p1
  obtain ⟨⟨cls2, dd2, data2, sl2⟩, ho2, hc2, n2, hd2⟩ := id p2
  simp only at hc hd hc2 hd2
  subst hc hd hc2 hd2
  exact concat_meets ⟨_, ho, rfl⟩ ⟨_, ho2, rfl⟩ noFill_tuple_add seq_tuple_add PySem.F.slot_tuple_add PySem.F.entry_tuple_add (PySem.F.args_tuple_add_2 _ _)
    (tuple_addW0 a b #[] its2.toArray n n2 dd dd2 sl sl2 rfl) ⟨ho, ho2, ⟨.ref b, H, I, rfl, q⟩⟩
theorem q_add : QOp X (binaryOp .Add) vAdd := by
  intro pins s σ H x y v u Q I rx ry ⟨wx, wy, G, q, r1, r2, g, h, hQ⟩
  unfold vAdd at h
  split at h
  · cases r1
    cases r2
    exact op_add pins s σ H _ _ v u Q I rx ry ⟨_, _, rfl, rfl, hQ _ H _ G (TLe.refl H) (.int _) g h⟩
  · cases r1 with
    | @tup a ws xs ha ra =>
      cases r2 with
      | @tup b us ys hb rb =>
        cases xs with
        | nil =>
          cases ra
          cases rx
          cases ry
          exact cat0 I ha hb (hQ _ H _ G (TLe.refl H) (.tup hb rb) g h.2)
        | cons x0 xr =>
          refine op_catT pins s σ H _ _ v u Q I rx ry ⟨a, b, _, _, rfl, rfl, SqT.of ha, SqT.of hb, by simp, by rw [← ra.length, ← rb.length]; exact line_le h.1, fun e => ?_, fun _ p hp => ?_⟩
          · subst e
            cases rb
            have h2 := h.2
            rw [List.append_nil] at h2
            exact hQ _ H _ G (TLe.refl H) (.tup ha ra) g h2
          · exact hQ _ _ _ G (TLe.new hp _) (.tup upd_same ((ra.append rb).mono (TLe.new hp _))) (g.keep hp _) h.2
  · obtain ⟨xs, ys, ea, eb, hl, h⟩ := h
    cases r1
    cases r2
    obtain ⟨_, xs', ha, ra⟩ := g _ _ ea
    obtain ⟨_, ys', hb, rb⟩ := g _ _ eb
    refine op_cat pins s σ H _ _ v u Q I rx ry ⟨_, _, _, _, rfl, rfl, ha, hb, by rw [← ra.length, ← rb.length]; exact line_le hl, fun p hp => ?_⟩
    exact hQ _ _ _ _ (TLe.new hp _) (.ref p) (g.put (TLe.new hp _) (ra.append rb) (by rw [List.length_append]; exact hl)) (h p (g.fresh hp))
  · exact h.elim
noncomputable def vInt (C : Int → Int → Prop) (f : Int → Int → W) : W2 := fun x y G q => match x, y with
  | .int i, .int j => C i j ∧ q (f i j) G
  | _, _ => False
theorem q_rint {f : Value → Value → Sem Value} {C : Int → Int → Prop} {g : Int → Int → Int} (h : OpR X f (rI C fun i j => .int (g i j))) : QOp X f (vInt C fun i j => .int (g i j)) := by
  intro pins s σ H x y v u Q I rx ry ⟨wx, wy, G, q, r1, r2, gg, hh, hQ⟩
  unfold vInt at hh
  split at hh
  · cases r1
    cases r2
    exact h pins s σ H _ _ v u Q I rx ry ⟨_, _, rfl, rfl, hh.1, hQ _ H _ G (TLe.refl H) (.int _) gg hh.2⟩
  · exact hh.elim
noncomputable def vInt0 (f : Int → Int → W) : W2 := fun x y G q => match x, y with
  | .int i, .int j => q (f i j) G
  | _, _ => False
theorem q_rbl {f : Value → Value → Sem Value} {g : Int → Int → Bool} (h : OpR X f (rI0 fun i j => .bl (g i j))) : QOp X f (vInt0 fun i j => .bl (g i j)) := by
  intro pins s σ H x y v u Q I rx ry ⟨wx, wy, G, q, r1, r2, gg, hh, hQ⟩
  unfold vInt0 at hh
  split at hh
  · cases r1
    cases r2
    exact h pins s σ H _ _ v u Q I rx ry ⟨_, _, rfl, rfl, hQ _ H _ G (TLe.refl H) (.bl _) gg hh⟩
  · exact hh.elim
noncomputable abbrev vMod : W2 := vInt (fun _ j => 0 < j) fun i j => .int (i % j)
noncomputable abbrev vPow : W2 := vInt CPow fun i j => .int (i ^ j.toNat)
theorem q_mod : QOp X (binaryOp .Mod) vMod := q_rint op_mod
theorem q_pow : QOp X (binaryOp .Pow) vPow := q_rint op_pow
noncomputable abbrev vLe : W2 := vInt0 fun i j => .bl (decide (i ≤ j))
noncomputable abbrev vGt : W2 := vInt0 fun i j => .bl (decide (j < i))
noncomputable abbrev vGe : W2 := vInt0 fun i j => .bl (decide (j ≤ i))
theorem q_le : QOp X (compareOp .LtE) vLe := q_rbl op_le
theorem q_gt : QOp X (compareOp .Gt) vGt := q_rbl op_gt
theorem q_ge : QOp X (compareOp .GtE) vGe := q_rbl op_ge
noncomputable def rIx3 : W2 := fun x y G q => match x, y with
  | .tup xs, .int i => ∃ w, atI xs i = some w ∧ q w G
  | .scr ns, .int i => ∃ n, atI ns i = some n ∧ q (.int n) G
  | .ref a, .int i => ∃ xs w, G a = some (.lst xs) ∧ atI xs i = some w ∧ q w G
  | _, _ => False
theorem Reps.at {K : PySem.W.Frag} {H : Hp} {ws : List W} {vs : List V} {i : Int} {w : W} (r : Reps K H ws vs) (e : atI ws i = some w) : ∃ v, atI vs i = some v ∧ Rep K H w v := by
  unfold atI at e ⊢
  rw [r.length] at e
  cases h : ixN vs.length i with
  | none => rw [h] at e; cases e
  | some j =>
    rw [h] at e
    exact r.get e
theorem atI_map {α β : Type} (f : α → β) (xs : List α) (i : Int) : atI (xs.map f) i = (atI xs i).map f := by
  unfold atI
  rw [List.length_map]
  cases ixN xs.length i with
  | none => rfl
  | some j => simp
theorem q_ix : QIx X rIx3 := by
  intro value slice pins s σ H x y v u Q I rx ry ⟨wx, wy, G, q, r1, r2, g, h, hQ⟩ hsl
  unfold rIx3 at h
  split at h
  · obtain ⟨w, e, h⟩ := h
    cases r1 with
    | tup hh rr =>
      cases r2
      obtain ⟨v', e', r'⟩ := rr.at e
      exact ix_tup value slice pins s σ H _ _ v u Q I rx ry ⟨_, _, _, v', rfl, rfl, SqT.of hh, e', hQ _ H _ G (TLe.refl H) r' g h⟩ hsl
  · obtain ⟨n, e, h⟩ := h
    cases r1 with
    | scr hh =>
      cases r2
      exact ix_list value slice pins s σ H _ _ v u Q I rx ry ⟨_, _, _, .int n, rfl, rfl, hh.sq, by rw [atI_map, e]; rfl, hQ _ H _ G (TLe.refl H) (.int n) g h⟩ hsl
  · obtain ⟨xs, w, ea, e, h⟩ := h
    cases r1
    cases r2
    obtain ⟨_, zs, e1, rr⟩ := g _ _ ea
    obtain ⟨v', e', r'⟩ := rr.at e
    exact ix_list value slice pins s σ H _ _ v u Q I rx ry ⟨_, _, _, v', rfl, rfl, SqL.of e1, e', hQ _ H _ G (TLe.refl H) r' g h⟩ hsl
  · exact h.elim
end
end L2
namespace L2
open PySem PySem.Spec PyProof.Rows
mutual
noncomputable def W.flat : W → Bool
  | .tup xs => W.flats xs
  | .ref _ => false
  | .scr _ => false
  | _ => true
noncomputable def W.flats : List W → Bool
  | [] => true
  | x :: xs => W.flat x && W.flats xs
end
mutual
noncomputable def W.dep : W → Nat
  | .tup xs => W.deps xs + 1
  | _ => 0
noncomputable def W.deps : List W → Nat
  | [] => 0
  | x :: xs => max (W.dep x) (W.deps xs)
end
mutual
noncomputable def W.eq : W → W → Bool
  | .non, .non => true
  | .bl a, .bl b => a == b
  | .bl a, .int j => (if a then 1 else 0) == j
  | .int i, .bl b => i == (if b then 1 else 0)
  | .int i, .int j => i == j
  | .str x, .str y => x == y
  | .tup xs, .tup ys => W.eqs xs ys
  | _, _ => false
noncomputable def W.eqs : List W → List W → Bool
  | [], [] => true
  | x :: xs, y :: ys => W.eq x y && W.eqs xs ys
  | _, _ => false
end
mutual
theorem W.eq_refl : ∀ w : W, w.flat = true → w.eq w = true
  | .non, _ => by simp [W.eq]
  | .bl b, _ => by simp [W.eq]
  | .int i, _ => by simp [W.eq]
  | .str x, _ => by simp [W.eq]
  | .tup xs, h => by
    have h' : W.flats xs = true := by simpa [W.flat] using h
    simpa [W.eq] using W.eqs_refl xs h'
  | .ref _, h => by simp [W.flat] at h
  | .scr _, h => by simp [W.flat] at h
theorem W.eqs_refl : ∀ ws : List W, W.flats ws = true → W.eqs ws ws = true
  | [], _ => by simp [W.eqs]
  | x :: xs, h => by
    have h' : x.flat = true ∧ W.flats xs = true := by simpa [W.flats] using h
    simp [W.eqs, W.eq_refl x h'.1, W.eqs_refl xs h'.2]
end
mutual
theorem Rep.inj {K : PySem.W.Frag} {H : Hp} : ∀ {w u : W} {v : V}, w.flat = true → u.flat = true → Rep K H w v → Rep K H u v → w = u := by
  intro w u v h1 h2 r1 r2
  cases r1 with
  | non => cases r2; rfl
  | bl _ => cases r2; rfl
  | int _ => cases r2; rfl
  | str _ => cases r2; rfl
  | ref _ => simp [W.flat] at h1
  | scr _ => simp [W.flat] at h1
  | tup e1 r1 =>
    cases r2 with
    | ref _ => simp [W.flat] at h2
    | scr _ => simp [W.flat] at h2
    | tup e2 r2 =>
      rw [e1] at e2; cases e2
      rw [Reps.inj (by simpa [W.flat] using h1) (by simpa [W.flat] using h2) r1 r2]
theorem Reps.inj {K : PySem.W.Frag} {H : Hp} : ∀ {ws us : List W} {vs : List V}, W.flats ws = true → W.flats us = true → Reps K H ws vs → Reps K H us vs → ws = us := by
  intro ws us vs h1 h2 r1 r2
  cases r1 with
  | nil => cases r2; rfl
  | cons r1 s1 =>
    cases r2 with
    | cons r2 s2 =>
      simp only [W.flats, Bool.and_eq_true] at h1 h2
      rw [Rep.inj h1.1 h2.1 r1 r2, Reps.inj h1.2 h2.2 s1 s2]
end
theorem W.flats_get : ∀ {ws : List W} {j : Nat} {w : W}, W.flats ws = true → ws[j]? = some w → w.flat = true
  | [], _, _, _, e => by simp at e
  | x :: xs, 0, w, h, e => by
    have h' : x.flat = true ∧ W.flats xs = true := by simpa [W.flats] using h
    simp at e; subst e; exact h'.1
  | x :: xs, j + 1, w, h, e => by
    have h' : x.flat = true ∧ W.flats xs = true := by simpa [W.flats] using h
    exact W.flats_get h'.2 (by simpa using e)
theorem W.deps_get : ∀ {ws : List W} {j : Nat} {w : W}, ws[j]? = some w → w.dep ≤ W.deps ws
  | [], _, _, e => by simp at e
  | x :: xs, 0, w, e => by simp at e; subst e; simp [W.deps]; omega
  | x :: xs, j + 1, w, e => by
    have := W.deps_get (ws := xs) (j := j) (w := w) (by simpa using e)
    simp only [W.deps]; (clear e; omega)
theorem W.eqs_iff : ∀ (ws us : List W), W.eqs ws us = true ↔ ws.length = us.length ∧ ∀ (j : Nat) (a b : W), ws[j]? = some a → us[j]? = some b → W.eq a b = true
  | [], [] => by simp [W.eqs]
  | [], _ :: _ => by simp [W.eqs]
  | _ :: _, [] => by simp [W.eqs]
  | x :: xs, y :: ys => by
    rw [W.eqs, Bool.and_eq_true, W.eqs_iff xs ys]
    constructor
    · rintro ⟨h1, h2, h3⟩
      refine ⟨by simp [h2], fun j a b ea eb => ?_⟩
      cases j with
      | zero => simp at ea eb; subst ea eb; exact h1
      | succ j => exact h3 j a b (by simpa using ea) (by simpa using eb)
    · rintro ⟨h1, h2⟩
      exact ⟨h2 0 x y rfl rfl, by simpa using h1, fun j a b ea eb => h2 (j + 1) a b (by simpa using ea) (by simpa using eb)⟩
noncomputable def eqAtJ (ws us : List W) (j : Nat) : Bool := match ws[j]?, us[j]? with | some a, some b => W.eq a b | _, _ => true
theorem eqs_range (ws us : List W) : ((List.range (min ws.length us.length)).all (eqAtJ ws us) && (ws.length == us.length)) = W.eqs ws us := by
  rw [Bool.eq_iff_iff, Bool.and_eq_true, W.eqs_iff, List.all_eq_true, beq_iff_eq]
  constructor
  · rintro ⟨h1, h2⟩
    refine ⟨h2, fun j a b ea eb => ?_⟩
    have hj : j < ws.length := (List.getElem?_eq_some_iff.mp ea).1
    have := h1 j (List.mem_range.mpr (by (clear h1 ea eb; omega)))
    unfold eqAtJ at this
    rw [ea, eb] at this
    exact this
  · rintro ⟨h1, h2⟩
    refine ⟨fun j _ => ?_, h1⟩
    unfold eqAtJ
    split
    · rename_i a b ea eb; exact h2 j a b ea eb
    · rfl
section
variable {X : Cx} {pins : List (Addr × Obj)} {σ : St} {H : Hp} {s : Shared}
theorem Inv.tupH {a : Addr} {xs : List V} (I : Inv X pins σ H s) (h : H a = some (.tup xs)) : ∃ its : List Value, Vals xs its ∧ s.heap.IsTuple a its.toArray ∧ xs.length ≤ sizeLine := I.tuple (SqT.of h)
theorem eq_rep (I : Inv X pins σ H s) : ∀ (n : Nat) (A : Around) {w1 w2 : W} {v1 v2 : V} {u1 u2 : Value}, w1.dep < n → w1.flat = true → w2.flat = true → A.units + n < cLine → Rep X.K H w1 v1 → Rep X.K H w2 v2 → RelV v1 u1 → RelV v2 u2 →
    SeqAt.EqAt A s u1 u2 (w1.eq w2) ∧ SeqAt.RcAt A s u1 u2 (w1.eq w2) ∧ SeqAt.RcNeAt A s u1 u2 (!(w1.eq w2)) := by
  intro n
  induction n with
  | zero => intro A w1 w2 v1 v2 u1 u2 h; (clear I; omega)
  | succ n ih =>
    intro A w1 w2 v1 v2 u1 u2 hd f1 f2 hu r1 r2 q1 q2
    have hu0 : A.units < cLine := by (clear I ih f1 f2 r1 r2 q1 q2; omega)
    have hui : A.in1.units + n < cLine := by show A.units + 1 + n < cLine; (clear I ih hd f1 f2 r1 r2 q1 q2 hu0; omega)
    cases r1 with
    | ref a => simp [W.flat] at f1
    | scr a => simp [W.flat] at f1
    | non =>
      cases (show u1 = Value.none from q1)
      cases r2 with
      | ref a => simp [W.flat] at f2
      | scr a => simp [W.flat] at f2
      | non => cases (show u2 = Value.none from q2); exact ⟨by simpa [W.eq] using SeqAt.EqAt.same _, by simpa [W.eq] using SeqAt.RcAt.none_none, by simpa [W.eq] using SeqAt.RcNeAt.none_none⟩
      | bl b => cases (show u2 = Value.bool b from q2); exact ⟨by simpa [W.eq] using SeqAt.EqAt.none_bool b, by simpa [W.eq] using SeqAt.RcAt.none_bool b, by simpa [W.eq] using SeqAt.RcNeAt.none_bool b⟩
      | int b => obtain ⟨t, rfl⟩ := q2; exact ⟨by simpa [W.eq] using SeqAt.EqAt.none_int b t, by simpa [W.eq] using SeqAt.RcAt.none_int b t, by simpa [W.eq] using SeqAt.RcNeAt.none_int b t⟩
      | str b => obtain ⟨t, rfl⟩ := q2; exact ⟨by simpa [W.eq] using SeqAt.EqAt.none_str b t, by simpa [W.eq] using SeqAt.RcAt.none_str b t, by simpa [W.eq] using SeqAt.RcNeAt.none_str b t⟩
      | tup h r =>
        cases (show u2 = Value.ref _ from q2)
        obtain ⟨its, _, p, _⟩ := Inv.tupH I h
        exact ⟨by simpa [W.eq] using SeqAt.EqAt.none_tuple p hu0, by simpa [W.eq] using SeqAt.RcAt.none_tuple p hu0, by simpa [W.eq] using SeqAt.RcNeAt.none_tuple p hu0⟩
    | bl a =>
      cases (show u1 = Value.bool a from q1)
      cases r2 with
      | ref a => simp [W.flat] at f2
      | scr a => simp [W.flat] at f2
      | non => cases (show u2 = Value.none from q2); exact ⟨by simpa [W.eq] using SeqAt.EqAt.bool_none a, by simpa [W.eq] using SeqAt.RcAt.bool_none a, by simpa [W.eq] using SeqAt.RcNeAt.bool_none a⟩
      | bl b => cases (show u2 = Value.bool b from q2); exact ⟨by simpa [W.eq] using SeqAt.EqAt.bool_bool a b, by simpa [W.eq] using SeqAt.RcAt.bool_bool a b, by simpa [W.eq] using SeqAt.RcNeAt.bool_bool a b⟩
      | int b => obtain ⟨t, rfl⟩ := q2; exact ⟨by simpa [W.eq] using SeqAt.EqAt.bool_int a b t, by simpa [W.eq] using SeqAt.RcAt.bool_int a b t, by simpa [W.eq] using SeqAt.RcNeAt.bool_int a b t⟩
      | str b => obtain ⟨t, rfl⟩ := q2; exact ⟨by simpa [W.eq] using SeqAt.EqAt.bool_str a b t, by simpa [W.eq] using SeqAt.RcAt.bool_str a b t, by simpa [W.eq] using SeqAt.RcNeAt.bool_str a b t⟩
      | tup h r =>
        cases (show u2 = Value.ref _ from q2)
        obtain ⟨its, _, p, _⟩ := Inv.tupH I h
        exact ⟨by simpa [W.eq] using SeqAt.EqAt.bool_tuple a p hu0, by simpa [W.eq] using SeqAt.RcAt.bool_tuple a p hu0, by simpa [W.eq] using SeqAt.RcNeAt.bool_tuple a p hu0⟩
    | int a =>
      obtain ⟨ta, rfl⟩ := q1
      cases r2 with
      | ref a => simp [W.flat] at f2
      | scr a => simp [W.flat] at f2
      | non => cases (show u2 = Value.none from q2); exact ⟨by simpa [W.eq] using SeqAt.EqAt.int_none a ta, by simpa [W.eq] using SeqAt.RcAt.int_none a ta, by simpa [W.eq] using SeqAt.RcNeAt.int_none a ta⟩
      | bl b => cases (show u2 = Value.bool b from q2); exact ⟨by simpa [W.eq] using SeqAt.EqAt.int_bool a ta b, by simpa [W.eq] using SeqAt.RcAt.int_bool a ta b, by simpa [W.eq] using SeqAt.RcNeAt.int_bool a ta b⟩
      | int b => obtain ⟨t, rfl⟩ := q2; exact ⟨by simpa [W.eq] using SeqAt.EqAt.int_int a ta b t, by simpa [W.eq] using SeqAt.RcAt.int_int a ta b t, by simpa [W.eq] using SeqAt.RcNeAt.int_int a ta b t⟩
      | str b => obtain ⟨t, rfl⟩ := q2; exact ⟨by simpa [W.eq] using SeqAt.EqAt.int_str a ta b t, by simpa [W.eq] using SeqAt.RcAt.int_str a ta b t, by simpa [W.eq] using SeqAt.RcNeAt.int_str a ta b t⟩
      | tup h r =>
        cases (show u2 = Value.ref _ from q2)
        obtain ⟨its, _, p, _⟩ := Inv.tupH I h
        exact ⟨by simpa [W.eq] using SeqAt.EqAt.int_tuple a ta p hu0, by simpa [W.eq] using SeqAt.RcAt.int_tuple a ta p hu0, by simpa [W.eq] using SeqAt.RcNeAt.int_tuple a ta p hu0⟩
    | str a =>
      obtain ⟨ta, rfl⟩ := q1
      cases r2 with
      | ref a => simp [W.flat] at f2
      | scr a => simp [W.flat] at f2
      | non => cases (show u2 = Value.none from q2); exact ⟨by simpa [W.eq] using SeqAt.EqAt.str_none a ta, by simpa [W.eq] using SeqAt.RcAt.str_none a ta, by simpa [W.eq] using SeqAt.RcNeAt.str_none a ta⟩
      | bl b => cases (show u2 = Value.bool b from q2); exact ⟨by simpa [W.eq] using SeqAt.EqAt.str_bool a ta b, by simpa [W.eq] using SeqAt.RcAt.str_bool a ta b, by simpa [W.eq] using SeqAt.RcNeAt.str_bool a ta b⟩
      | int b => obtain ⟨t, rfl⟩ := q2; exact ⟨by simpa [W.eq] using SeqAt.EqAt.str_int a ta b t, by simpa [W.eq] using SeqAt.RcAt.str_int a ta b t, by simpa [W.eq] using SeqAt.RcNeAt.str_int a ta b t⟩
      | str b => obtain ⟨t, rfl⟩ := q2; exact ⟨by simpa [W.eq] using SeqAt.EqAt.str_str a ta b t, by simpa [W.eq] using SeqAt.RcAt.str_str a ta b t, by simpa [W.eq] using SeqAt.RcNeAt.str_str a ta b t⟩
      | tup h r =>
        cases (show u2 = Value.ref _ from q2)
        obtain ⟨its, _, p, _⟩ := Inv.tupH I h
        exact ⟨by simpa [W.eq] using SeqAt.EqAt.str_tuple a ta p hu0, by simpa [W.eq] using SeqAt.RcAt.str_tuple a ta p hu0, by simpa [W.eq] using SeqAt.RcNeAt.str_tuple a ta p hu0⟩
    | @tup a ws xs h r =>
      cases (show u1 = Value.ref _ from q1)
      obtain ⟨its, rv, p, _⟩ := Inv.tupH I h
      cases r2 with
      | ref a => simp [W.flat] at f2
      | scr a => simp [W.flat] at f2
      | non => cases (show u2 = Value.none from q2); exact ⟨by simpa [W.eq] using SeqAt.EqAt.tuple_none p hu0, by simpa [W.eq] using SeqAt.RcAt.tuple_none p hu0, by simpa [W.eq] using SeqAt.RcNeAt.tuple_none p hu0⟩
      | bl b => cases (show u2 = Value.bool b from q2); exact ⟨by simpa [W.eq] using SeqAt.EqAt.tuple_bool b p hu0, by simpa [W.eq] using SeqAt.RcAt.tuple_bool b p hu0, by simpa [W.eq] using SeqAt.RcNeAt.tuple_bool b p hu0⟩
      | int b => obtain ⟨t, rfl⟩ := q2; exact ⟨by simpa [W.eq] using SeqAt.EqAt.tuple_int b t p hu0, by simpa [W.eq] using SeqAt.RcAt.tuple_int b t p hu0, by simpa [W.eq] using SeqAt.RcNeAt.tuple_int b t p hu0⟩
      | str b => obtain ⟨t, rfl⟩ := q2; exact ⟨by simpa [W.eq] using SeqAt.EqAt.tuple_str b t p hu0, by simpa [W.eq] using SeqAt.RcAt.tuple_str b t p hu0, by simpa [W.eq] using SeqAt.RcNeAt.tuple_str b t p hu0⟩
      | @tup b us ys h2 r2 =>
        cases (show u2 = Value.ref _ from q2)
        obtain ⟨its2, rv2, p2, _⟩ := Inv.tupH I h2
        have g1 : W.flats ws = true := by simpa [W.flat] using f1
        have g2 : W.flats us = true := by simpa [W.flat] using f2
        have hd' : W.deps ws < n := by simp only [W.dep] at hd; (clear I ih hu hu0 hui h r f1 q1 rv p h2 r2 f2 q2 rv2 p2 g1 g2; omega)
        have e1 : its.length = ws.length := by rw [← rv.length, r.length]
        have e2 : its2.length = us.length := by rw [← rv2.length, r2.length]
        have he : ∀ j (h1 : j < its.toArray.size) (h2 : j < its2.toArray.size), SeqAt.EqAt A.in1 s its.toArray[j] its2.toArray[j] (eqAtJ ws us j) := fun j j1 j2 => by
          rw [List.size_toArray] at j1 j2
          have ea : ws[j]? = some ws[j] := List.getElem?_eq_getElem (by (clear I ih hu hu0 hui h r hd f1 q1 rv p h2 r2 f2 q2 rv2 p2 g1 g2 hd' e2 j2; omega))
          have eb : us[j]? = some us[j] := List.getElem?_eq_getElem (by (clear I ih hu hu0 hui h r hd f1 q1 rv p h2 r2 f2 q2 rv2 p2 g1 g2 hd' e1 j1 ea; omega))
          obtain ⟨va, ea1, ra⟩ := r.get ea
          obtain ⟨vb, eb1, rb⟩ := r2.get eb
          obtain ⟨ua, ea2, qa⟩ := rv.get ea1
          obtain ⟨ub, eb2, qb⟩ := rv2.get eb1
          have za : its.toArray[j] = ua := by
            have := (List.getElem?_eq_some_iff.mp ea2).2
            simpa using this
          have zb : its2.toArray[j] = ub := by
            have := (List.getElem?_eq_some_iff.mp eb2).2
            simpa using this
          rw [za, zb]
          have := (ih A.in1 (w1 := ws[j]) (w2 := us[j]) (Nat.lt_of_le_of_lt (W.deps_get ea) hd') (W.flats_get g1 ea) (W.flats_get g2 eb) hui ra rb qa qb).1
          unfold eqAtJ
          rw [ea, eb]
          exact this
        have er := eqs_range ws us
        have c1 := SeqAt.RcAt.tuples p p2 hu0 he
        have c2 := SeqAt.RcNeAt.tuples p p2 hu0 he
        rw [List.size_toArray, List.size_toArray, e1, e2, er] at c1 c2
        have ee : (W.tup ws).eq (W.tup us) = W.eqs ws us := by simp [W.eq]
        rw [ee]
        refine ⟨?_, c1, c2⟩
        by_cases hab : a = b
        · subst hab
          have z := Rep.inj f1 f2 (Rep.tup h r) (Rep.tup h2 r2)
          have t : W.eqs ws us = true := by
            cases z
            exact W.eqs_refl ws g1
          rw [t]
          exact SeqAt.EqAt.same _
        · exact SeqAt.EqAt.of_refs hab c1
end
section
variable {X : Cx}
noncomputable def rEq3 : W2 := fun x y G q => x.flat = true ∧ y.flat = true ∧ x.dep ≤ 150 ∧ q (.bl (x.eq y)) G
noncomputable def rNe3 : W2 := fun x y G q => x.flat = true ∧ y.flat = true ∧ x.dep ≤ 150 ∧ q (.bl (!(x.eq y))) G
theorem q_eq {k : Nat} (hr : Room k X.A) : QOp X (compareOp .Eq) rEq3 := by
  intro pins s σ H x y v u Q I rx ry ⟨wx, wy, G, q, r1, r2, g, ⟨f1, f2, hd, h⟩, hQ⟩
  exact (eq_rep I 151 X.A (by (clear hr I rx ry r1 r2 g f1 f2 h hQ; omega)) f1 f2 (by have := hr.un; (clear hr I rx ry r1 r2 g f1 f2 hd h hQ; omega)) r1 r2 rx ry).2.1 X.prog X.w X.xe _ ⟨.bl _, H, I, rfl, hQ _ H _ G (TLe.refl H) (.bl _) g h⟩
theorem q_ne {k : Nat} (hr : Room k X.A) : QOp X (compareOp .NotEq) rNe3 := by
  intro pins s σ H x y v u Q I rx ry ⟨wx, wy, G, q, r1, r2, g, ⟨f1, f2, hd, h⟩, hQ⟩
  exact (eq_rep I 151 X.A (by (clear hr I rx ry r1 r2 g f1 f2 h hQ; omega)) f1 f2 (by have := hr.un; (clear hr I rx ry r1 r2 g f1 f2 hd h hQ; omega)) r1 r2 rx ry).2.2 X.prog X.w X.xe _ ⟨.bl _, H, I, rfl, hQ _ H _ G (TLe.refl H) (.bl _) g h⟩
noncomputable def rSub3 : W2 := fun x y G q => match x, y with
  | .int i, .int j => q (.int (i - j)) G
  | .bl a, .bl b => q (.int (b2i a - b2i b)) G
  | _, _ => False
theorem q_sub : QOp X (binaryOp .Sub) rSub3 := by
  intro pins s σ H x y v u Q I rx ry ⟨wx, wy, G, q, r1, r2, g, h, hQ⟩
  unfold rSub3 at h
  split at h
  · cases r1
    cases r2
    exact op_sub pins s σ H _ _ v u Q I rx ry ⟨_, _, rfl, rfl, hQ _ H _ G (TLe.refl H) (.int _) g h⟩
  · cases r1
    cases r2
    cases rx
    cases ry
    exact sub_bool ⟨.int _, H, I.tok _, ⟨_, rfl⟩, hQ _ H _ G (TLe.refl H) (.int _) g h⟩
  · exact h.elim
noncomputable def isNon : W → Bool
  | .non => true
  | _ => false
noncomputable def rIsN (neg : Bool) : W2 := fun x y G q => y = .non ∧ q (.bl (neg ^^ isNon x)) G
noncomputable abbrev WO := WSt → Gp → (Option Int → Gp → Prop) → Prop
noncomputable def LO (K : PySem.W.Frag) (t : WO) : TO := fun σ H Q => ∃ τ G q, RelSt K H τ σ ∧ RelG K H G ∧ t τ G q ∧ ∀ o H1 G1, TLe H H1 → RelG K H1 G1 → q o G1 → Q o H1
noncomputable def QO (X : Cx) (e : Option Expr) (t : WO) : Prop := PO X e (LO X.K t)
theorem PO.imp {e : Option Expr} {t t' : TO} (h : PO X e t) (f : ∀ σ H Q, t' σ H Q → t σ H Q) : PO X e t' := fun pins s σ H Q I q => h pins s σ H Q I (f _ _ _ q)
noncomputable def wNoPart : WO := fun _ G q => q none G
noncomputable def wPart (t : WE) : WO := fun τ G q => t τ G fun x G1 => match x with | .int i => q (some i) G1 | _ => False
theorem qo_none : QO X none wNoPart := po_none.imp fun σ H Q ⟨τ, G, q, hs, hg, ht, hQ⟩ => hQ none H G (TLe.refl H) hg ht
theorem qo_some {e : Expr} {te : WE} (h : QE X e te) : QO X (some e) (wPart te) :=
  (po_some h).imp fun σ H Q ⟨τ, G, q, hs, hg, ht, hQ⟩ => ⟨τ, G, _, hs, hg, ht, fun v H1 w G1 t1 r1 g1 q1 => by
    split at q1
    · cases r1
      exact ⟨_, rfl, hQ _ H1 G1 t1 g1 q1⟩
    · exact q1.elim⟩
noncomputable def cutW (xs : List W) (lo hi : Option Int) : List W := (xs.drop (HT.sIx xs.length 0 lo)).take (HT.sIx xs.length xs.length hi - HT.sIx xs.length 0 lo)
theorem Reps.cut {K : PySem.W.Frag} {H : Hp} {ws : List W} {vs : List V} (r : Reps K H ws vs) (lo hi : Option Int) : Reps K H (cutW ws lo hi) (cutV vs lo hi) := by
  unfold cutW cutV
  rw [r.length]
  exact (r.drop _).take _
noncomputable abbrev W3 := W → Option Int → Option Int → Gp → WK → Prop
noncomputable def rSl3 : W3 := fun x lo hi G q => match x with
  | .tup xs => q (.tup (cutW xs lo hi)) G
  | .scr ns => ns.length ≤ 100000 ∧ ∀ p, G p = none → q (.ref p) (updG G p (.lst (cutW (ns.map W.int) lo hi)))
  | .ref a => ∃ xs, G a = some (.lst xs) ∧ ∀ p, G p = none → q (.ref p) (updG G p (.lst (cutW xs lo hi)))
  | _ => False
theorem cutW_length (xs : List W) (lo hi : Option Int) : (cutW xs lo hi).length ≤ xs.length := by
  unfold cutW
  rw [List.length_take, List.length_drop]
  omega
theorem cutW_whole {xs : List W} {lo hi : Option Int} (h : HT.sIx xs.length 0 lo = 0 ∧ HT.sIx xs.length xs.length hi = xs.length) : cutW xs lo hi = xs := by
  unfold cutW
  rw [h.1, h.2, List.drop_zero, Nat.sub_zero, List.take_length]
theorem tup_whole {prog : Program} {w : World} {A : Around} {E : Value → Shared → Prop} {s : Shared} {t sl : Addr} {items : Array Value} {vl vu : Value} {lo hi : Option Int} {Q : Value → Shared → Prop} (ht : IsTup s.heap t items) (hs : s.heap.IsSliceOf sl vl vu .none) (pl : IsPart vl lo) (pu : IsPart vu hi)
    (hw : HT.sIx items.size 0 lo = 0 ∧ HT.sIx items.size items.size hi = items.size) (h : Q (.ref t) s) : wpAny (model prog w) A (getItem (.ref t) (.ref sl)) Q E s := by
  obtain ⟨os, hos, hcs, hds⟩ := id hs
  have hTs : s.TypeIs (.ref sl) "slice" := ⟨os, hos, hcs⟩
  unfold getItem
  try with_reducible refine wpAny_holding ?_
  first | refine wpAny_bind (wpAny_pure ?_) | skip
  refine wpAny_bind (wpAny_sequenceKey ht.typeIs (by decide) ?_)
  refine wpAny_bind (wpAny_callSpecial?_slot (name := Str.ofString "__getitem__") ht.typeIs PyProof.Rows.slot_tuple_getitem
    (wpAny_call_entry PyProof.Rows.slot_tuple_getitem ht.typeIs entry_tuple_getitem ?_ (args_tuple_getitem _ _)))
  show wpAny _ _ (Builtin.Tuple.tupleItemsOf (.ref t) >>= _) _ _ s
  refine wpAny_bind (tupleItemsOf_ ht ?_)
  refine wpAny_bind (wpAny_typeOf hTs ?_)
  rw [if_pos (by decide)]
  refine wpAny_bind (HT.sliceApplied_gen hs pl pu ?_)
  have hyes : (((HT.sIx items.size 0 lo : Nat) : Int) == 0 && (1 : Int) == 1 && (HT.sIx items.size items.size hi - HT.sIx items.size 0 lo) == items.size) = true := by
    rw [hw.1, hw.2]; simp
  show wpAny _ _ (if (((HT.sIx items.size 0 lo : Nat) : Int) == 0 && (1 : Int) == 1 && (HT.sIx items.size items.size hi - HT.sIx items.size 0 lo) == items.size) = true then _ else _) _ _ s
  rw [if_pos hyes]
  refine wpAny_bind ?_
  show wpAny _ _ (typeOf (.ref t) >>= _) _ _ s
  refine wpAny_bind (wpAny_typeOf ht.typeIs (wpAny_pure ?_))
  rw [if_pos (by simp)]
  exact wpAny_bind (wpAny_rule (wpAny_pure ⟨_, rfl, wpAny_pure h⟩))
noncomputable def LSl (K : PySem.W.Frag) (r : W3) : V → Option Int → Option Int → Hp → VK → Prop := fun x lo hi H Q => ∃ w G q, Rep K H w x ∧ RelG K H G ∧ r w lo hi G q ∧ ∀ v H1 w G1, TLe H H1 → Rep K H1 w v → RelG K H1 G1 → q w G1 → Q v H1
theorem q_sl : SlR X (LSl X.K rSl3) := by
  intro pins s σ H x v vl vu lo hi sl Q I rx hs pl pu ⟨w, G, q, r, g, h, hQ⟩
  unfold rSl3 at h
  split at h
  · cases r with
    | @tup a ws xs hh rr =>
      by_cases hw : HT.sIx xs.length 0 lo = 0 ∧ HT.sIx xs.length xs.length hi = xs.length
      · cases rx
        obtain ⟨its, rv, ht, hz⟩ := I.tuple (SqT.of hh)
        have hlen : its.toArray.size = xs.length := by rw [List.size_toArray]; exact rv.length.symm
        refine ⟨"tuple", _, PyProof.Rows.slot_tuple_getitem.lookup, ht.typeIs, ?_⟩
        refine tup_whole ht hs pl pu (by rw [hlen]; exact hw) ⟨.ref a, H, I, rfl, ?_⟩
        rw [cutW_whole (by rw [rr.length]; exact hw)] at h
        exact hQ _ H _ G (TLe.refl H) (.tup hh rr) g h
      · exact sl_tup pins s σ H _ v vl vu lo hi sl Q I rx hs pl pu ⟨a, xs, rfl, SqT.of hh, hw, fun p hp => hQ _ _ _ G (TLe.new hp _) (.tup upd_same ((rr.cut lo hi).mono (TLe.new hp _))) (g.keep hp _) h⟩
  · rename_i ns
    cases r with
    | scr hh =>
      refine sl_list pins s σ H _ v vl vu lo hi sl Q I rx hs pl pu ⟨_, _, rfl, hh.sq, fun p hp => hQ _ _ _ _ (TLe.new hp _) (.ref p) (g.put (TLe.new hp _) ((Reps.ints ns).cut lo hi) ?_) (h.2 p (g.fresh hp))⟩
      exact Nat.le_trans (cutW_length _ _ _) (by rw [List.length_map]; exact h.1)
  · obtain ⟨xs, e, h⟩ := h
    cases r
    obtain ⟨hl, zs, e1, rr⟩ := g _ _ e
    exact sl_list pins s σ H _ v vl vu lo hi sl Q I rx hs pl pu ⟨_, zs, rfl, SqL.of e1, fun p hp => hQ _ _ _ _ (TLe.new hp _) (.ref p) (g.put (TLe.new hp _) (rr.cut lo hi) (Nat.le_trans (cutW_length _ _ _) hl)) (h p (g.fresh hp))⟩
  · exact h.elim
noncomputable def wSl (te : WE) (tl th : WO) : WE := fun τ G q => te τ G fun x G1 => tl τ G1 fun l G2 => th τ G2 fun u G3 => rSl3 x l u G3 q
theorem qe_slice {e : Expr} {lo hi : Option Expr} {te : WE} {tl th : WO} {pos p2 : Pos} (he : QE X e te) (hl : QO X lo tl) (hu : QO X hi th) : QE X (.Subscript e (.Slice lo hi none p2) pos) (wSl te tl th) :=
  (pe_slice q_sl he hl hu).imp fun σ H Q z0 => z0.el fun τ G q hs hg ht hQ => ⟨τ, G, _, hs, hg, ht, fun v H1 w G1 t1 r1 g1 q1 => ⟨τ, G1, _, hs.mono t1, g1, q1, fun l H2 G2 t2 g2 q2 =>
    ⟨τ, G2, _, (hs.mono t1).mono t2, g2, q2, fun u H3 G3 t3 g3 q3 => ⟨w, G3, q, (r1.mono t2).mono t3, g3, q3, fun v4 H4 w4 G4 t4 => hQ v4 H4 w4 G4 (((t1.trans t2).trans t3).trans t4)⟩⟩⟩⟩
theorem boot_isi : bootBuiltins "isinstance" = some (.builtin "isinstance") := by decide +kernel
noncomputable def tyN (G : Gp) : W → Option String
  | .non => some "NoneType"
  | .bl _ => some "bool"
  | .int _ => some "int"
  | .str _ => some "str"
  | .tup _ => some "tuple"
  | .ref a => match G a with | some (.lst _) => some "list" | some .dct => some "dict" | some (.dic _) => some "dict" | _ => none
  | .scr _ => none
noncomputable def subN : String → String → Bool
  | "int", "int" => true
  | "bool", "int" => true
  | "bool", "bool" => true
  | "tuple", "tuple" => true
  | "list", "list" => true
  | "str", "str" => true
  | _, _ => false
noncomputable def isiT (T : String) : Prop := T = "int" ∨ T = "bool" ∨ T = "tuple" ∨ T = "list" ∨ T = "str"
theorem kit_of {K : PySem.W.Frag} {t T : String} (ht : t = "NoneType" ∨ t = "bool" ∨ t = "int" ∨ t = "str" ∨ t = "tuple" ∨ t = "list" ∨ t = "dict") (hT : isiT T) : PySem.W.kitOne K (.type t) (.type T) = some (subN t T) := by
  rcases ht with rfl | rfl | rfl | rfl | rfl | rfl | rfl <;> rcases hT with rfl | rfl | rfl | rfl | rfl <;> first | rfl | kernel_rfl | decide +kernel
noncomputable def wIsi (T : String) (te : WE) : WE := fun τ G q => te τ G fun x G1 => match tyN G1 x with | some t => q (.bl (subN t T)) G1 | none => False
theorem tyOf_rep {K : PySem.W.Frag} {H : Hp} {G : Gp} {w : W} {v : V} {t : String} (g : RelG K H G) (r : Rep K H w v) (e : tyN G w = some t) : TyOf K H v (.type t) ∧ (t = "NoneType" ∨ t = "bool" ∨ t = "int" ∨ t = "str" ∨ t = "tuple" ∨ t = "list" ∨ t = "dict") := by
  unfold tyN at e
  cases r with
  | non => cases e; exact ⟨.non, by simp⟩
  | bl b => cases e; exact ⟨.bl b, by simp⟩
  | int i => cases e; exact ⟨.int i, by simp⟩
  | str x => cases e; exact ⟨.str x, by simp⟩
  | tup h _ => cases e; exact ⟨.tup h, by simp⟩
  | scr h => cases e
  | ref a =>
    simp only at e
    split at e
    · rename_i ws e1
      cases e
      obtain ⟨_, xs, e2, _⟩ := g a _ e1
      exact ⟨.lst e2, by simp⟩
    · rename_i e1
      cases e
      exact ⟨.dK (g a _ e1), by simp⟩
    · rename_i kvs e1
      cases e
      obtain ⟨_, kvs', e2, _⟩ := g a _ e1
      exact ⟨.dK e2, by simp⟩
    · cases e
theorem q_isi {T : String} (hT : isiT T) {pins : List (Addr × Obj)} {σ : St} {H : Hp} {s : Shared} {v : V} {u : Value} {w : W} {G : Gp} {q : WK} {Q : VK} (I : Inv X pins σ H s) (ru : RelV v u) (r : Rep X.K H w v) (g : RelG X.K H G)
    (h : match tyN G w with | some t => q (.bl (subN t T)) G | none => False) (hQ : ∀ v H1 w G1, TLe H H1 → Rep X.K H1 w v → RelG X.K H1 G1 → q w G1 → Q v H1) :
    wpAny (model X.prog X.w) X.A (call (.builtin "isinstance") [u, .type T]) (EP X pins σ Q) X.xe s := by
  split at h
  · rename_i t e
    obtain ⟨ty, hk⟩ := tyOf_rep g r e
    exact isinst_ok I ru ty (kit_of hk hT) fun tk => ⟨.bl _, H, I.tok tk, rfl, hQ _ H _ G (TLe.refl H) (.bl _) g h⟩
  · exact h.elim
theorem qe_isi {T : String} {x : Str} {e : Expr} {te : WE} {p p2 pos : Pos} (hT : isiT T) (hv : bootBuiltins x = some (.type T)) (hm : X.mg x = none) (hgx : Gl X x) (hm1 : X.mg "isinstance" = none) (hg1 : Gl X "isinstance") (he : QE X e te) (hn : x ≠ "__name__" := by decide) (hd : (x == ("__debug__" : Str)) = false := by decide)
    (hs1 : starEach [e, .Name x p2] X.env = (false, eval e X.env) :: starEach [.Name x p2] X.env := by rfl) (hs2 : starEach [.Name x p2] X.env = (false, eval (.Name x p2) X.env) :: starEach [] X.env := by rfl)
    (hpl : (backTo pos (starEach [.Name x p2] X.env)).any (·.1) = false := by rfl) : QE X (.Call (.Name "isinstance" p) [e, .Name x p2] [] pos) (wIsi T te) := by
  have hb : PE X (.Name x p2) (tC (.ty T)) := pe_bltn hgx hm hv rfl hn hd
  have ha : PA X [e, .Name x p2] (tCons (LEx X.K te) (tCons (tC (.ty T)) tNil)) := pa_cons he (pa_cons hb pa_nil hs2) hs1
  have hc : CallR X (.builtin "isinstance") (fun vs H Q => ∃ (v : V) (w : W) (G : Gp) (q : WK), vs = [v, .ty T] ∧ Rep X.K H w v ∧ RelG X.K H G ∧ (match tyN G w with | some t => q (.bl (subN t T)) G | none => False) ∧ ∀ v H1 w G1, TLe H H1 → Rep X.K H1 w v → RelG X.K H1 G1 → q w G1 → Q v H1) := by
    intro pins s σ H xs us Q I r ⟨v, w, G, q, e1, r1, g1, h, hQ⟩
    subst e1
    obtain ⟨u, u2, rfl, ru, ru2⟩ := vals2 r
    cases (show u2 = Value.type T from ru2)
    exact q_isi hT I ru r1 g1 h hQ
  exact (pe_callB hc hg1 hm1 boot_isi ha (by decide) (by decide) hs1 hpl).imp fun σ H Q z0 => z0.el fun τ G q hs hg ht hQ => ⟨τ, G, _, hs, hg, ht, fun v H1 w G1 t1 r1 g1 q1 =>
    ⟨v, w, G1, q, rfl, r1, g1, q1, fun v2 H2 w2 G2 t2 => hQ v2 H2 w2 G2 (t1.trans t2)⟩⟩
noncomputable def cSum : List W → Gp → WK → Prop := fun ws G q => match ws with
  | [.ref a] => ∃ ns : List Int, G a = some (.lst (ns.map W.int)) ∧ q (.int ns.sum) G
  | _ => False
theorem Reps.ints_of {K : PySem.W.Frag} {H : Hp} : ∀ {ns : List Int} {vs : List V}, Reps K H (ns.map W.int) vs → vs = ns.map V.int
  | [], _, r => by cases r; rfl
  | n :: ns, _, r => by
    cases r with
    | cons r rs =>
      cases r
      rw [Reps.ints_of rs]
      rfl
noncomputable def wApp (to te : WE) : WE := fun τ G q => to τ G fun x G1 => match x with
  | .ref a => (∃ xs, G1 a = some (.lst xs)) ∧ te τ G1 fun y G2 => ∃ ys, G2 a = some (.lst ys) ∧ ys.length + 1 ≤ 100000 ∧ q .non (updG G2 a (.lst (ys ++ [y])))
  | _ => False
theorem qe_app {o e : Expr} {to te : WE} {apos cpos : Pos} (ho : QE X o to) (he : QE X e te)
    (hbase : attributeBase o "append" X.env (eval o X.env) = eval o X.env := by rfl)
    (hfew : ((backTo cpos (starEach [e] X.env)).all (fun x => !x.1) && (backToKw cpos (keywordEach [] X.env)).all (fun x => x.1.isSome)
      && decide (([e] : List Expr).length + ([] : List Keyword).length + (if ([] : List Keyword).isEmpty then 0 else 1) < 30)) = true := by rfl)
    (hline : (apos.endLine == cpos.line) = true := by rfl) (hs : starEach [e] X.env = (false, eval e X.env) :: starEach [] X.env := by rfl) :
    QE X (.Call (.Attribute o "append" apos) [e] [] cpos) (wApp to te) :=
  (pe_bm PySem.F.plainAttrs_list PySem.F.slot_list_append PySem.F.type_list_append mt_append ho (pa_cons he pa_nil hs) hbase hfew hline hs rfl).imp fun σ H Q z0 => z0.el fun τ G q hs hg ht hQ =>
    ⟨τ, G, _, hs, hg, ht, fun v H1 w G1 t1 r1 g1 q1 => by
      split at q1
      · rename_i a
        cases r1
        obtain ⟨⟨xs, e1⟩, q1⟩ := q1
        obtain ⟨_, xs', h1, _⟩ := g1 a _ e1
        refine ⟨.inl ⟨rfl, xs', SqL.of h1⟩, τ, G1, _, hs.mono t1, g1, q1, fun v2 H2 w2 G2 t2 r2 g2 q2 => ?_⟩
        obtain ⟨ys, e2, hl, q2⟩ := q2
        obtain ⟨_, ys', h2, rr⟩ := g2 a _ e2
        refine ⟨a, ys', v2, rfl, rfl, h2, ?_, ?_⟩
        · rw [← rr.length]
          exact line_le hl
        · exact hQ _ _ _ _ ((t1.trans t2).trans (TLe.lst h2 _)) .non (g2.put (TLe.lst h2 _) (rr.append (.cons r2 .nil)) (by rw [List.length_append]; exact hl)) q2
      · exact q1.elim⟩
end
end L2
namespace L2
open PySem PySem.Spec PyProof.Rows
structure Itn (K : PySem.W.Frag) (J : It) (ws : List W) (C : Gp → Prop) (H0 : Hp) : Prop where
  stop : ∀ i H G, TLe H0 H → RelG K H G → C G → ws.length ≤ i → J.stop i H
  go : ∀ i w H G, TLe H0 H → RelG K H G → C G → ws[i]? = some w → J.go i H ∧ ∀ x H', J.yld i H x H' → TLe H H' ∧ Rep K H' w x ∧ RelG K H' G
noncomputable abbrev WI := WSt → Gp → (List W → (Gp → Prop) → Gp → Prop) → Prop
noncomputable def LI (K : PySem.W.Frag) (t : WI) : TI := fun σ H R => ∃ τ G r, RelSt K H τ σ ∧ RelG K H G ∧ t τ G r ∧ ∀ J H1 ws C G1, TLe H H1 → RelG K H1 G1 → Itn K J ws C H1 → r ws C G1 → R J H1
noncomputable def QI (X : Cx) (tg iter : Expr) (t : WI) : Prop := PI X tg iter (LI X.K t)
section
variable {X : Cx} {tg : Expr}
theorem PI.imp {e : Expr} {t t' : TI} (h : PI X tg e t) (f : ∀ σ H R, t' σ H R → t σ H R) : PI X tg e t' := fun pins s σ H R I q => h pins s σ H R I (f _ _ _ q)
theorem pi_seq {l : Expr} {tl : TE} (hl : PE X l tl) : PI X tg l (fun σ H R => tl σ H fun x H1 => ∃ a, x = .ref a ∧ (((∃ xs, SqL X.K H1 a xs) ∧ R (Itl X.K a) H1) ∨ ((∃ xs, SqT X.K H1 a xs) ∧ R (Itt X.K a) H1))) := by
  intro pins s σ H R I h
  refine thn (hl pins s σ H _ I h) fun v s1 ⟨x, H1, I1, r1, q1⟩ => ?_
  obtain ⟨a, e, q1⟩ := q1
  subst e
  cases r1
  rcases q1 with ⟨⟨xs, hq⟩, q⟩ | ⟨⟨xs, hq⟩, q⟩
  · obtain ⟨its, rv, p, hz⟩ := I1.list hq
    refine wpAny_pyIter_list p.isList ?_
    refine ⟨s1.heap.objs.size, [s1.heap.objs.size], _, _, H1, rfl, I1.kept (t' := s1.toks) fun b o e => Heap.get?_push_of_some _ e, turn_list a _, ⟨_, Heap.get?_push_size _ rfl, rfl, rfl⟩, fun b hb => ?_, q⟩
    have e : b = s1.heap.objs.size := by simpa using hb
    subst e
    exact I1.fpOk (Nat.le_refl _) (I1.hok.fresh (Nat.le_refl _))
  · obtain ⟨its, rv, p, hz⟩ := I1.tuple hq
    refine wpAny_pyIter_tuple (show s1.heap.IsTuple a its.toArray from p) ?_
    refine ⟨s1.heap.objs.size, [s1.heap.objs.size], _, _, H1, rfl, I1.kept (t' := s1.toks) fun b o e => Heap.get?_push_of_some _ e, turn_tuple a _, ⟨_, Heap.get?_push_size _ rfl, rfl, rfl⟩, fun b hb => ?_, q⟩
    have e : b = s1.heap.objs.size := by simpa using hb
    subst e
    exact I1.fpOk (Nat.le_refl _) (I1.hok.fresh (Nat.le_refl _))
theorem itn_tup {K : PySem.W.Frag} {a : Addr} {ws : List W} {xs : List V} {H : Hp} (h : H a = some (.tup xs)) (r : Reps K H ws xs) : Itn K (Itt K a) ws (fun _ => True) H where
  stop := fun i H1 G t g _ hl => ⟨xs, SqT.of (t.tup _ _ h), by rw [← r.length]; exact hl⟩
  go := fun i w H1 G t g _ e => by
    obtain ⟨v, e1, rv⟩ := r.get e
    refine ⟨⟨xs, v, SqT.of (t.tup _ _ h), e1⟩, fun x H' ⟨eH, hy⟩ => ?_⟩
    subst eH
    have e2 := hy xs (SqT.of (t.tup _ _ h))
    rw [e1] at e2; cases e2
    exact ⟨TLe.refl _, rv.mono t, g⟩
theorem itn_lst {K : PySem.W.Frag} {a : Addr} {ws : List W} {H : Hp} : Itn K (Itl K a) ws (fun G => G a = some (.lst ws)) H where
  stop := fun i H1 G t g e hl => by
    obtain ⟨_, xs, h1, r⟩ := g a _ e
    exact ⟨xs, SqL.of h1, by rw [← r.length]; exact hl⟩
  go := fun i w H1 G t g eG e => by
    obtain ⟨_, xs, h1, r⟩ := g a _ eG
    obtain ⟨v, e1, rv⟩ := r.get e
    refine ⟨⟨xs, v, SqL.of h1, e1⟩, fun x H' ⟨eH, hy⟩ => ?_⟩
    subst eH
    have e2 := hy xs (SqL.of h1)
    rw [e1] at e2; cases e2
    exact ⟨TLe.refl _, rv, g⟩
theorem itn_scr {K : PySem.W.Frag} {a : Addr} {ns : List Int} {H : Hp} (h : Scr K H a ns) : Itn K (Itl K a) (ns.map W.int) (fun _ => True) H where
  stop := fun i H1 G t g _ hl => ⟨_, (h.mono t).sq, by simpa using hl⟩
  go := fun i w H1 G t g _ e => by
    have r : Reps K H1 (ns.map W.int) (ns.map V.int) := Reps.ints ns
    obtain ⟨v, e1, rv⟩ := r.get e
    refine ⟨⟨_, v, (h.mono t).sq, e1⟩, fun x H' ⟨eH, hy⟩ => ?_⟩
    subst eH
    have e2 := hy _ (h.mono t).sq
    rw [e1] at e2; cases e2
    exact ⟨TLe.refl _, rv, g⟩
noncomputable def jSeq (te : WE) : WI := fun τ G r => te τ G fun x G1 => match x with
  | .tup ws => r ws (fun _ => True) G1
  | .scr ns => r (ns.map W.int) (fun _ => True) G1
  | .ref a => ∃ ws, G1 a = some (.lst ws) ∧ r ws (fun G => G a = some (.lst ws)) G1
  | _ => False
theorem qi_seq {l : Expr} {te : WE} (hl : QE X l te) : QI X tg l (jSeq te) :=
  (pi_seq hl).imp fun σ H R ⟨τ, G, r, hs, hg, ht, hR⟩ => ⟨τ, G, _, hs, hg, ht, fun v H1 w G1 t1 r1 g1 q1 => by
    split at q1
    · cases r1 with
      | tup h rr => exact ⟨_, rfl, .inr ⟨⟨_, SqT.of h⟩, hR _ H1 _ _ G1 t1 g1 (itn_tup h rr) q1⟩⟩
    · cases r1 with
      | scr h => exact ⟨_, rfl, .inl ⟨⟨_, h.sq⟩, hR _ H1 _ _ G1 t1 g1 (itn_scr h) q1⟩⟩
    · obtain ⟨ws, e, q1⟩ := q1
      cases r1
      obtain ⟨_, xs, h1, _⟩ := g1 _ _ e
      exact ⟨_, rfl, .inl ⟨⟨xs, SqL.of h1⟩, hR _ H1 _ _ G1 t1 g1 itn_lst q1⟩⟩
    · exact q1.elim⟩
noncomputable def upW (n : Nat) : List W := (List.range n).map fun (i : Nat) => W.int (i : Int)
theorem itn_rng {K : PySem.W.Frag} {n : Nat} {H : Hp} : Itn K (Itr 0 n) (upW n) (fun _ => True) H where
  stop := fun i H1 G t g _ hl => by have h : n ≤ i := by simpa [upW] using hl
                                    exact h
  go := fun i w H1 G t g _ e => by
    unfold upW at e
    rw [List.getElem?_map] at e
    have hi : i < n := by
      cases h : (List.range n)[i]? with
      | none => rw [h] at e; cases e
      | some k =>
        have := (List.getElem?_eq_some_iff.mp h).1
        simpa using this
    rw [List.getElem?_range hi] at e
    cases e
    refine ⟨hi, fun x H' ⟨eH, hy⟩ => ?_⟩
    subst eH
    subst hy
    exact ⟨TLe.refl _, by simpa using Rep.int _, g⟩
noncomputable def jRng (ta : WA) : WI := fun τ G r => ta τ G fun ws G1 => match ws with
  | [.int j] => -(2 ^ 62) ≤ j ∧ j < 2 ^ 62 ∧ r (upW j.toNat) (fun _ => True) G1
  | _ => False
theorem qi_range {a : Expr} {ta : WA} {p pos : Pos} (hg : Gl X "range") (hm : X.mg "range" = none) (ha : QA X [a] ta) (hs : starEach [a] X.env = [(false, eval a X.env)] := by rfl) : QI X tg (.Call (.Name "range" p) [a] [] pos) (jRng ta) :=
  (pi_range1 hg hm ha hs).imp fun σ H R ⟨τ, G, r, hs, hg, ht, hR⟩ => ⟨τ, G, _, hs, hg, ht, fun vs H1 ws G1 t1 r1 g1 q1 => by
    split at q1
    · obtain ⟨v, rfl, r2⟩ := r1.one
      cases r2 with
      | int j => exact ⟨_, rfl, q1.1, q1.2.1, hR _ H1 _ _ G1 t1 g1 itn_rng q1.2.2⟩
    · exact q1.elim⟩
noncomputable def loopW (C : Gp → Prop) (g : WG) (tb : WS) (d : WEnds) : List W → WSt → Gp → Prop
  | [], τ, G => C G ∧ d.nx τ G
  | w :: ws, τ, G => C G ∧ g w τ G fun τ2 G2 => tb { d with nx := loopW C g tb d ws, ct := loopW C g tb d ws, bk := d.nx } τ2 G2
noncomputable def wFor (wi : WI) (g : WG) (tb : WS) : WS := fun d τ G => wi τ G fun ws C G1 => loopW C g tb d ws τ G1
theorem qs_for {iter : Expr} {body : List Stmt} {wi : WI} {g : WG} {tb : WS} {pos : Pos} (hp : PassesOwn (model X.prog X.w) X.A X.env X.xe) (hc : X.calm = true) (hi : QI X tg iter wi) (hg : QG X tg g) (hb : QSs X body tb)
    (hs : ∀ x, foldedSetIterable iter X.env x = pure x := by intro _; rfl) : QS X (.For tg iter body [] pos) (wFor wi g tb) :=
  (ps_for hp hc hi hg hb hs).imp fun D σ H z0 => z0.el fun τ G d hs hg ht l => ⟨τ, G, _, hs, hg, ht, fun J H1 ws C G1 t1 g1 it q1 => by
    refine ⟨fun i m σ2 H2 => ∃ τ2 G2, m = ws.length - i ∧ i ≤ ws.length ∧ TLe H1 H2 ∧ RelSt X.K H2 τ2 σ2 ∧ RelG X.K H2 G2 ∧ loopW C g tb d (ws.drop i) τ2 G2, ⟨ws.length, τ, G1, by simp, Nat.zero_le _, TLe.refl _, hs.mono t1, g1, by simpa using q1⟩, ?_⟩
    rintro i m σ2 H2 ⟨τ2, G2, rfl, hi, t2, s2, g2, q2⟩
    by_cases hlt : i < ws.length
    · have ed : ws.drop i = ws[i] :: ws.drop (i + 1) := List.drop_eq_getElem_cons hlt
      rw [ed] at q2
      obtain ⟨c2, q2⟩ := q2
      obtain ⟨go, yl⟩ := it.go i ws[i] H2 G2 t2 g2 c2 (List.getElem?_eq_getElem hlt)
      refine .inr ⟨go, fun σ3 H3 => ∃ τ3 G3, TLe H1 H3 ∧ RelSt X.K H3 τ3 σ3 ∧ RelG X.K H3 G3 ∧ loopW C g tb d (ws.drop (i + 1)) τ3 G3, ?_, fun x H' hy => ?_⟩
      · rintro σ3 H3 ⟨τ3, G3, t3, s3, g3, q3⟩
        exact ⟨ws.length - (i + 1), by (clear hp hc hb z0 hs hg ht l t1 g1 it q1 hi t2 s2 g2 ed c2 q2 go yl t3 s3 g3 q3; omega), τ3, G3, rfl, hlt, t3, s3, g3, q3⟩
      · obtain ⟨tx, rx, gx⟩ := yl x H' hy
        refine ⟨ws[i], τ2, G2, _, rx, s2.mono tx, gx, q2, fun σ3 H3 τ3 G3 t3 s3 g3 q3 => ?_⟩
        have tt := (t2.trans tx).trans t3
        have t0 := t1.trans tt
        exact ⟨τ3, G3, _, s3, g3, q3, ⟨fun σ4 H4 τ4 G4 t4 s4 g4 q4 => ⟨τ4, G4, tt.trans t4, s4, g4, q4⟩, fun v H4 w G4 t4 => l.rt v H4 w G4 (t0.trans t4), fun σ4 H4 τ4 G4 t4 => l.nx σ4 H4 τ4 G4 (t0.trans t4), fun σ4 H4 τ4 G4 t4 s4 g4 q4 => ⟨τ4, G4, tt.trans t4, s4, g4, q4⟩⟩⟩
    · have e : i = ws.length := by (clear hp hc hb z0 hs hg ht l t1 g1 it q1 t2 s2 g2 q2; omega)
      subst e
      rw [List.drop_length] at q2
      exact .inl ⟨it.stop _ H2 G2 t2 g2 q2.1 (Nat.le_refl _), l.nx σ2 H2 τ2 G2 (t1.trans t2) s2 g2 q2.2⟩⟩
end
end L2
namespace L2
open PySem PySem.Spec PyProof.Rows
section
variable {prog : Program} {w : World} {A : Around} {E : Value → Shared → Prop} {s : Shared}
theorem nextT_item {it t : Addr} {i : Nat} {items : Array Value} {x : Value} {Q : Value → Shared → Prop} (a : s.heap.IsTupleIter it t i) (b : s.heap.IsTuple t items) (e : items[i]? = some x) (q : ∀ h', h'.IsTupleIter it t (i + 1) → Heap.SameBut it s.heap h' → Q x { s with heap := h' }) : wpAny (model prog w) A (Builtin.SmallTypes.nextOf (.ref it)) Q E s := by
  obtain ⟨o, ho, hc, hd⟩ := id a; obtain ⟨ol, hol, _, nl, hdl⟩ := b; unfold Builtin.SmallTypes.nextOf
  refine wpAny_bind (wpAny_callSpecial?_slot (name := Str.ofString "__next__") a.typeIs F.slot_tuple_iterator_next (wpAny_call_entry F.slot_tuple_iterator_next a.typeIs F.entry_tuple_iterator_next ?_ (F.args_tuple_iterator_next_1 _)))
  show wpAny _ _ (field (.ref it) 0 >>= _) _ _ s; refine wpAny_bind (wpAny_field ho hd (x := .ref t) rfl ?_)
  show wpAny _ _ (if (Value.ref t == Value.none) = true then _ else _) _ _ s; rw [if_neg (show ¬ ((Value.ref t == Value.none) = true) from Bool.false_ne_true)]
  show wpAny _ _ (field (.ref it) 1 >>= _) _ _ s; refine wpAny_bind (wpAny_field ho hd (x := .int i 0) rfl ?_)
  show wpAny _ _ (seqItems? (.ref t) >>= _) _ _ s; refine wpAny_bind (wpAny_seqItems hol hdl ?_); simp only [Int.toNat_natCast, e]
  refine wpAny_bind (wpAny_setField ho hd (by simp) (wpAny_pure ⟨x, rfl, wpAny_pure (q _ ⟨_, Heap.get?_update_self _ ho (Obj.isFreed_of_fields (Obj.data_mapFields hd _)), (Obj.cls_mapFields ..).trans hc, by rw [Obj.data_mapFields hd]; simp [rawInt]⟩ (Heap.SameBut.update ..))⟩))
theorem nextT_end {it t : Addr} {i : Nat} {items : Array Value} {Q : Value → Shared → Prop} (hh : A.handled = none) (a : s.heap.IsTupleIter it t i) (b : s.heap.IsTuple t items) (e : items[i]? = none) (q : ∀ h' x, Heap.ExtBut it s.heap h' → (∃ o, h'.get? x = some o ∧ o.cls = .type "StopIteration") → E (.ref x) { s with heap := h' }) : wpAny (model prog w) A (Builtin.SmallTypes.nextOf (.ref it)) Q E s := by
  obtain ⟨o, ho, hc, hd⟩ := id a; obtain ⟨ol, hol, _, nl, hdl⟩ := b; unfold Builtin.SmallTypes.nextOf
  refine wpAny_bind (wpAny_callSpecial?_slot (name := Str.ofString "__next__") a.typeIs F.slot_tuple_iterator_next (wpAny_call_entry F.slot_tuple_iterator_next a.typeIs F.entry_tuple_iterator_next ?_ (F.args_tuple_iterator_next_1 _)))
  show wpAny _ _ (field (.ref it) 0 >>= _) _ _ s; refine wpAny_bind (wpAny_field ho hd (x := .ref t) rfl ?_)
  show wpAny _ _ (if (Value.ref t == Value.none) = true then _ else _) _ _ s; rw [if_neg (show ¬ ((Value.ref t == Value.none) = true) from Bool.false_ne_true)]
  show wpAny _ _ (field (.ref it) 1 >>= _) _ _ s; refine wpAny_bind (wpAny_field ho hd (x := .int i 0) rfl ?_)
  show wpAny _ _ (seqItems? (.ref t) >>= _) _ _ s; refine wpAny_bind (wpAny_seqItems hol hdl ?_); simp only [Int.toNat_natCast, e]
  refine wpAny_bind (wpAny_rule (wpAny_bind (wpAny_setField ho hd (by simp) ?_))); show wpAny _ _ (newExc (.type "StopIteration") [] >>= _) _ _ _
  refine wpAny_bind ?_; simp only [newExc, newTuple]; refine wpAny_bind (wpAny_newObj_type ?_ (by size_fits))
  refine wpAny_bind (m := firstArgMember _ _) (wpAny_of_eq (a := Value.none) (by first | rfl | (simp only [firstArgMember]; rfl)) ?_); refine wpAny_newObj_type ?_ (by size_fits)
  simp only [raiseNew]; refine wpAny_bind (wpAny_handled ?_); first | rw [show A.in1.handled = none from hh] | rw [hh]
  refine wpAny_bind (wpAny_pure (wpAny_throw ?_)); exact q _ _ (((Heap.SameBut.update ..).extBut.push _).push _) ⟨_, Heap.get?_push_size _ rfl, rfl⟩
structure ZA (z p r i j a b : Addr) : Prop where
  zp : p ≠ z
  zr : r ≠ z
  zi : i ≠ z
  zj : j ≠ z
  pr : p ≠ r
  pi : p ≠ i
  pj : p ≠ j
  ri : r ≠ i
  rj : r ≠ j
  ij : i ≠ j
  az : a ≠ z
  ar : a ≠ r
  ai : a ≠ i
  aj : a ≠ j
  bz : b ≠ z
  br : b ≠ r
  bi : b ≠ i
  bj : b ≠ j
structure ZT (z p r i j a b : Addr) (n : Nat) (f : Value) (h : Heap) : Prop where
  hz : IsZip h z p r f
  hp : IsPair h p (.ref i) (.ref j)
  hr : ∃ x y, IsPair h r x y
  hi : h.IsTupleIter i a n
  hj : h.IsTupleIter j b n
theorem zipT_item {z p r i j a b : Addr} {n : Nat} {xs ys : Array Value} {x y : Value} {Q : Option Value → Shared → Prop} (D : ZA z p r i j a b) (T : ZT z p r i j a b n .none s.heap) (ha : s.heap.IsTuple a xs) (hb : s.heap.IsTuple b ys) (hx : xs[n]? = some x) (hy : ys[n]? = some y)
    (q : ∀ h', ZT z p r i j a b (n + 1) (rawInt s.heap.objs.size) h' → IsPair h' s.heap.objs.size x y → (∀ c o, c ≠ z → c ≠ r → c ≠ i → c ≠ j → s.heap.get? c = some o → h'.get? c = some o) → Q (some (.ref s.heap.objs.size)) { s with heap := h' }) : wpAny (model prog w) A (pyNext (.ref z)) Q E s := by
  obtain ⟨hz, hp, ⟨u, v, hr⟩, hi, hj⟩ := T
  have hT : s.TypeIs (.ref z) "zip" := ⟨_, hz, rfl⟩; unfold pyNext
  refine wpAny_bind (wpAny_attempt (wpAny_callSpecial?_slot (name := Str.ofString "__next__") hT F.slot_zip_next (wpAny_call_entry F.slot_zip_next hT F.entry_zip_next ?_ (F.args_zip_next_1 _))))
  show wpAny _ _ (field (.ref z) 2 >>= _) _ _ _; refine wpAny_bind (wpAny_field hz rfl (x := .bool false) rfl ?_)
  show wpAny _ _ (field (.ref z) 3 >>= _) _ _ _; refine wpAny_bind (wpAny_field hz rfl (x := .ref p) rfl ?_); refine wpAny_bind (wpAny_seqItems hp rfl ?_)
  show wpAny _ _ (Builtin.SmallTypes.ownedTupleIsFree (.ref z) >>= _) _ _ _; refine wpAny_bind ?_; unfold Builtin.SmallTypes.ownedTupleIsFree
  refine wpAny_bind (wpAny_field hz rfl (x := .none) rfl (wpAny_pure ?_)); simp only [if_true]; refine wpAny_bind (wpAny_rule ?_)
  refine wpAny_bind (wpAny_field hz rfl (x := .ref r) rfl ?_); refine wpAny_bind (wpAny_setField_rec hz (by simp) fun h1 z1 b1 => ?_)
  have z1 : IsZip h1 z p r .ellipsis := z1
  refine wpAny_bind ?_; simp only [List.zipIdx_cons, List.zipIdx_nil, List.forIn_cons, List.forIn_nil]
  refine wpAny_bind (wpAny_bind (wpAny_onRaise ?_)); show wpAny _ _ (Builtin.SmallTypes.nextOf (.ref i) >>= _) _ _ _
  refine wpAny_bind (nextT_item (hi.extBut b1.extBut D.zi) (ha.extBut b1.extBut D.az) hx fun h2 i2 b2 => wpAny_pure ?_)
  have r2 : IsPair h2 r u v := b2.extBut _ _ D.ri (b1.extBut _ _ D.zr hr)
  refine wpAny_bind (wpAny_seqItems r2 rfl ?_); refine wpAny_bind (wpAny_updateSeq_pair r2 fun h3 r3 b3 => ?_)
  have r3 : IsPair h3 r x v := r3
  refine wpAny_bind (wpAny_letGo (wpAny_pure ?_)); refine wpAny_bind (wpAny_bind (wpAny_onRaise ?_)); show wpAny _ _ (Builtin.SmallTypes.nextOf (.ref j) >>= _) _ _ _
  refine wpAny_bind (nextT_item (((hj.extBut b1.extBut D.zj).extBut b2.extBut D.ij.symm).extBut b3.extBut D.rj.symm) (((hb.extBut b1.extBut D.bz).extBut b2.extBut D.bi).extBut b3.extBut D.br) hy fun h4 j4 b4 => wpAny_pure ?_)
  have r4 : IsPair h4 r x v := b4.extBut _ _ D.rj r3
  refine wpAny_bind (wpAny_seqItems r4 rfl ?_); refine wpAny_bind (wpAny_updateSeq_pair r4 fun h5 r5 b5 => ?_)
  have r5 : IsPair h5 r x y := r5
  refine wpAny_bind (wpAny_letGo (wpAny_pure (wpAny_pure ?_))); refine wpAny_bind (wpAny_seqItems r5 rfl ?_); refine wpAny_bind (wpAny_newTuple ?_)
  have sz : h5.objs.size = s.heap.objs.size := by rw [b5.1, b4.1, b3.1, b2.1, b1.1]
  have z5 : IsZip h5 z p r .ellipsis := b5.extBut _ _ D.zr.symm (b4.extBut _ _ D.zj.symm (b3.extBut _ _ D.zr.symm (b2.extBut _ _ D.zi.symm z1)))
  have k5 : ∀ c o, c ≠ z → c ≠ r → c ≠ i → c ≠ j → s.heap.get? c = some o → h5.get? c = some o := fun c o c1 c2 c3 c4 e => b5.extBut _ _ c2 (b4.extBut _ _ c4 (b3.extBut _ _ c2 (b2.extBut _ _ c3 (b1.extBut _ _ c1 e))))
  have i5 : h5.IsTupleIter i a (n + 1) := ((i2.extBut b3.extBut D.ri.symm).extBut b4.extBut D.ij).extBut b5.extBut D.ri.symm
  have j5 : h5.IsTupleIter j b (n + 1) := j4.extBut b5.extBut D.rj.symm
  have ltz : z < h5.objs.size := Heap.lt_size z5
  show wpAny _ _ (Builtin.SmallTypes.ownedTupleHandOut (.ref z) (.ref h5.objs.size) >>= _) _ _ _; refine wpAny_bind ?_; unfold Builtin.SmallTypes.ownedTupleHandOut
  have z6 : IsZip (h5.push { cls := .type "tuple", data := .seq #[x, y] }) z p r .ellipsis := Heap.get?_push_of_some _ z5
  refine wpAny_bind (wpAny_setField_rec z6 (by simp) fun h7 z7 b7 => ?_)
  have z7 : IsZip h7 z p r (rawInt h5.objs.size) := z7
  refine wpAny_setField_rec z7 (by simp) fun h8 z8 b8 => ?_
  have z8 : IsZip h8 z p r (rawInt h5.objs.size) := z8
  have up : ∀ c o, c ≠ z → h5.get? c = some o → h8.get? c = some o := fun c o c1 e => b8.extBut _ _ c1 (b7.extBut _ _ c1 (Heap.get?_push_of_some _ e))
  have t8 : IsPair h8 h5.objs.size x y := b8.extBut _ _ (Nat.ne_of_gt ltz) (b7.extBut _ _ (Nat.ne_of_gt ltz) (Heap.get?_push_size _ rfl))
  rw [sz] at z8 t8
  refine wpAny_pure ⟨_, rfl, wpAny_pure ?_⟩; show Q (some (.ref h5.objs.size)) _; rw [sz]
  exact q h8 ⟨z8, up _ _ D.zp (k5 _ _ D.zp D.pr D.pi D.pj hp), ⟨_, _, up _ _ D.zr r5⟩, i5.at fun o e => up _ o D.zi e, j5.at fun o e => up _ o D.zj e⟩ t8 fun c o c1 c2 c3 c4 e => up c o c1 (k5 c o c1 c2 c3 c4 e)
theorem zipT_end {z p r i j a b : Addr} {n : Nat} {xs ys : Array Value} {Q : Option Value → Shared → Prop} (hh : A.handled = none) (D : ZA z p r i j a b) (T : ZT z p r i j a b n .none s.heap) (ha : s.heap.IsTuple a xs) (hb : s.heap.IsTuple b ys) (hx : xs[n]? = none ∨ ys[n]? = none)
    (q : ∀ h', (∀ c o, c ≠ z → c ≠ r → c ≠ i → c ≠ j → s.heap.get? c = some o → h'.get? c = some o) → Q none { s with heap := h' }) : wpAny (model prog w) A (pyNext (.ref z)) Q E s := by
  obtain ⟨hz, hp, ⟨u, v, hr⟩, hi, hj⟩ := T
  have hT : s.TypeIs (.ref z) "zip" := ⟨_, hz, rfl⟩; unfold pyNext
  have fin : ∀ (h' : Heap) (e : Addr), (∀ c o, c ≠ z → c ≠ r → c ≠ i → c ≠ j → s.heap.get? c = some o → h'.get? c = some o) → (∃ o, h'.get? e = some o ∧ o.cls = .type "StopIteration") → wpAny (model prog w) A (do if (← isInstance (.ref e) (.type "StopIteration")) then pure none else throw (.ref e)) Q E { s with heap := h' } := fun h' e k he => by
    obtain ⟨o, ho, hc⟩ := he
    exact wpAny_bind (wpAny_isInstance (T := "StopIteration") (b := true) ⟨o, ho, hc⟩ isSubtype_stop (wpAny_pure (q _ k)))
  refine wpAny_bind (wpAny_attempt (wpAny_callSpecial?_slot (name := Str.ofString "__next__") hT F.slot_zip_next (wpAny_call_entry F.slot_zip_next hT F.entry_zip_next ?_ (F.args_zip_next_1 _))))
  show wpAny _ _ (field (.ref z) 2 >>= _) _ _ _; refine wpAny_bind (wpAny_field hz rfl (x := .bool false) rfl ?_)
  show wpAny _ _ (field (.ref z) 3 >>= _) _ _ _; refine wpAny_bind (wpAny_field hz rfl (x := .ref p) rfl ?_); refine wpAny_bind (wpAny_seqItems hp rfl ?_)
  show wpAny _ _ (Builtin.SmallTypes.ownedTupleIsFree (.ref z) >>= _) _ _ _; refine wpAny_bind ?_; unfold Builtin.SmallTypes.ownedTupleIsFree
  refine wpAny_bind (wpAny_field hz rfl (x := .none) rfl (wpAny_pure ?_)); simp only [if_true]; refine wpAny_bind (wpAny_rule ?_)
  refine wpAny_bind (wpAny_field hz rfl (x := .ref r) rfl ?_); refine wpAny_bind (wpAny_setField_rec hz (by simp) fun h1 z1 b1 => ?_)
  have z1 : IsZip h1 z p r .ellipsis := z1
  refine wpAny_bind ?_; simp only [List.zipIdx_cons, List.zipIdx_nil, List.forIn_cons, List.forIn_nil]
  refine wpAny_bind (wpAny_bind (wpAny_onRaise ?_)); show wpAny _ _ (Builtin.SmallTypes.nextOf (.ref i) >>= _) _ _ _
  cases e1 : xs[n]? with
  | none =>
    refine wpAny_bind (nextT_end hh (hi.extBut b1.extBut D.zi) (ha.extBut b1.extBut D.az) e1 fun h2 e b2 he => ?_)
    obtain ⟨oe, hoe, hce⟩ := he
    have z2 : IsZip h2 z p r .ellipsis := b2 _ _ D.zi.symm z1
    have ez : e ≠ z := fun x => by subst x; rw [z2] at hoe; cases hoe; simp at hce
    exact wpAny_setField_rec z2 (by simp) fun h3 _ b3 => fin h3 e (fun c o c1 _ c3 _ x => b3.extBut _ _ c1 (b2 _ _ c3 (b1.extBut _ _ c1 x))) ⟨oe, b3.extBut _ _ ez hoe, hce⟩
  | some x =>
    have e2 : ys[n]? = none := by rcases hx with h | h; · rw [e1] at h; cases h
                                  · exact h
    refine wpAny_bind (nextT_item (hi.extBut b1.extBut D.zi) (ha.extBut b1.extBut D.az) e1 fun h2 i2 b2 => wpAny_pure ?_)
    have r2 : IsPair h2 r u v := b2.extBut _ _ D.ri (b1.extBut _ _ D.zr hr)
    refine wpAny_bind (wpAny_seqItems r2 rfl ?_); refine wpAny_bind (wpAny_updateSeq_pair r2 fun h3 r3 b3 => ?_)
    refine wpAny_bind (wpAny_letGo (wpAny_pure ?_)); refine wpAny_bind (wpAny_bind (wpAny_onRaise ?_)); show wpAny _ _ (Builtin.SmallTypes.nextOf (.ref j) >>= _) _ _ _
    refine wpAny_bind (nextT_end hh (((hj.extBut b1.extBut D.zj).extBut b2.extBut D.ij.symm).extBut b3.extBut D.rj.symm) (((hb.extBut b1.extBut D.bz).extBut b2.extBut D.bi).extBut b3.extBut D.br) e2 fun h4 e b4 he => ?_)
    obtain ⟨oe, hoe, hce⟩ := he
    have z4 : IsZip h4 z p r .ellipsis := b4 _ _ D.zj.symm (b3.extBut _ _ D.zr.symm (b2.extBut _ _ D.zi.symm z1))
    have ez : e ≠ z := fun x => by subst x; rw [z4] at hoe; cases hoe; simp at hce
    exact wpAny_setField_rec z4 (by simp) fun h5 _ b5 => fin h5 e (fun c o c1 c2 c3 c4 x => b5.extBut _ _ c1 (b4 _ _ c4 (b3.extBut _ _ c2 (b2.extBut _ _ c3 (b1.extBut _ _ c1 x))))) ⟨oe, b5.extBut _ _ ez hoe, hce⟩
end
noncomputable def zq1 (h : Heap) (a : Addr) : Heap := h.push { cls := .type "tuple_iterator", data := .fields #[.ref a, .int 0 0] }
noncomputable def zq2 (h : Heap) (a b : Addr) : Heap := (zq1 h a).push { cls := .type "tuple_iterator", data := .fields #[.ref b, .int 0 0] }
noncomputable def zq3 (h : Heap) (a b : Addr) : Heap := (zq2 h a b).push { cls := .type "tuple", data := .seq #[.ref h.objs.size, .ref (zq1 h a).objs.size] }
noncomputable def zq4 (h : Heap) (a b : Addr) : Heap := (zq3 h a b).push { cls := .type "tuple", data := .seq #[.none, .none] }
noncomputable def zq5 (h : Heap) (a b : Addr) : Heap := (zq4 h a b).push { cls := .type "zip", data := .fields #[.none, .bool false, .bool false, .ref (zq2 h a b).objs.size, .ref (zq3 h a b).objs.size] }
theorem zip_newT (a b : Addr) (xs ys : Array Value) : Meets (Builtin.«zip.__new__» ⟨[.type "zip", .ref a, .ref b], []⟩) (fun _ R s => s.heap.IsTuple a xs ∧ s.heap.IsTuple b ys ∧ R (.ok (.ret (.ref (zq4 s.heap a b).objs.size))) { s with heap := zq5 s.heap a b }) :=
  .of_wp fun prog w A R s h => by
    obtain ⟨hp, g, d, tk, os⟩ := s; obtain ⟨ha, hb, h⟩ := h; have hsub := sub_zip
    have h1 : Heap.IsTuple (Shared.heap ⟨hp, g, d, tk, os⟩) a xs := ha
    have h2 : Heap.IsTuple (Shared.heap ⟨hp.push { cls := .type "tuple_iterator", data := .fields #[.ref a, .int 0 0] }, g, d, tk, os⟩) b ys := Heap.IsTuple.push hb _
    wp_walk using wpAny_pyIter_tuple h1, wpAny_pyIter_tuple h2
    exact ⟨_, rfl, h⟩
theorem call_zipT {prog : Program} {w : World} {A : Around} {E : Value → Shared → Prop} {s : Shared} {a b : Addr} {xs ys : Array Value} {Q : Value → Shared → Prop} (ha : s.heap.IsTuple a xs) (hb : s.heap.IsTuple b ys)
    (q : ∀ h', ZT (s.heap.objs.size + 4) (s.heap.objs.size + 2) (s.heap.objs.size + 3) s.heap.objs.size (s.heap.objs.size + 1) a b 0 .none h' → (∀ c o, s.heap.get? c = some o → h'.get? c = some o) → Q (.ref (s.heap.objs.size + 4)) { s with heap := h' }) :
    wpAny (model prog w) A (call (.type "zip") [.ref a, .ref b]) Q E s := by
  refine callType_new F.called_zip (by decide) (F.typeCall_zip_2 _ _) (F.newCall_zip_2 _ _) (fun obj => F.args_object_init_3 obj _ _) F.entry_zip_new (zip_newT a b xs ys) ⟨ha, hb, ?_⟩
  have z1 : (zq1 s.heap a).objs.size = s.heap.objs.size + 1 := Heap.size_push ..
  have z2 : (zq2 s.heap a b).objs.size = s.heap.objs.size + 2 := by unfold zq2; rw [Heap.size_push, z1]
  have z3 : (zq3 s.heap a b).objs.size = s.heap.objs.size + 3 := by unfold zq3; rw [Heap.size_push, z2]
  have z4 : (zq4 s.heap a b).objs.size = s.heap.objs.size + 4 := by unfold zq4; rw [Heap.size_push, z3]
  have g5 : (zq5 s.heap a b).get? (zq4 s.heap a b).objs.size = some _ := Heap.get?_push_size _ rfl
  have g4 : (zq5 s.heap a b).get? (zq3 s.heap a b).objs.size = some _ := Heap.get?_push_of_some _ (Heap.get?_push_size _ rfl)
  have g3 : (zq5 s.heap a b).get? (zq2 s.heap a b).objs.size = some _ := Heap.get?_push_of_some _ (Heap.get?_push_of_some _ (Heap.get?_push_size _ rfl))
  have g2 : (zq5 s.heap a b).get? (zq1 s.heap a).objs.size = some _ := Heap.get?_push_of_some _ (Heap.get?_push_of_some _ (Heap.get?_push_of_some _ (Heap.get?_push_size _ rfl)))
  have g1 : (zq5 s.heap a b).get? s.heap.objs.size = some _ := Heap.get?_push_of_some _ (Heap.get?_push_of_some _ (Heap.get?_push_of_some _ (Heap.get?_push_of_some _ (Heap.get?_push_size _ rfl))))
  rw [z2, z3, z4] at g5; rw [z1, z2] at g3; rw [z3] at g4; rw [z1] at g2
  show _ ∧ _; rw [z4]
  exact ⟨⟨_, g5, rfl⟩, q _ ⟨g5, g3, ⟨_, _, g4⟩, ⟨_, g1, rfl, rfl⟩, ⟨_, g2, rfl, rfl⟩⟩ fun c o x => Heap.get?_push_of_some _ (Heap.get?_push_of_some _ (Heap.get?_push_of_some _ (Heap.get?_push_of_some _ (Heap.get?_push_of_some _ x))))⟩
theorem za_new {n a b : Nat} (ha : a < n) (hb : b < n) : ZA (n + 4) (n + 2) (n + 3) n (n + 1) a b := by
  constructor <;> (show (_ : Nat) ≠ (_ : Nat); omega)
end L2
namespace L2
open PySem PySem.Spec PyProof.Rows
section
variable {prog : Program} {w : World} {A : Around} {R : Result → Shared → Prop} {s : Shared}
noncomputable abbrev nox : Value → Shared → Prop := fun _ _ => False
noncomputable abbrev tests (ifs : List Expr) (env : Env) : Sem Bool := forIn ifs true fun c r => if r = true then do let ok ← isTrue c env (eval c env); pure (ForInStep.yield ok) else pure (ForInStep.yield r)
theorem comp_loop {elt tg iter : Expr} {ifs : List Expr} {scope : Scope} {pos : Pos} {it acc : Value} {env : Env} (I : Nat → Shared → Prop)
    (turn : ∀ n s, I n s → wpAny (model prog w) A (pyNext it) (fun r s1 => match r with
      | none => R (.ok .next) s1
      | some v => wpAny (model prog w) A (letOwnedTupleGo tg it v) (fun _ s2 => wpAny (model prog w) A (assign tg env v) (fun _ s3 => wpAny (model prog w) A (tests ifs env) (fun ok s4 =>
          if ok = true then wpAny (model prog w) A (eval elt env) (fun x s5 => wpAny (model prog w) A (call (.builtin "list.append") [acc, x]) (fun _ s6 => ∃ m, m < n ∧ I m s6) nox s5) nox s4
          else ∃ m, m < n ∧ I m s4) nox s3) nox s2) nox s1) nox s) (n : Nat) (h : I n s) :
    codeAny (model prog w) A (.compLoop (.ListComp elt [⟨tg, iter, ifs, 0⟩] scope pos) 0 it acc env) R s := by
  refine codeAny_loop rfl I (fun n s hI => ?_) n h
  show wpAny _ A ((compTurn (.ListComp elt [⟨tg, iter, ifs, 0⟩] scope pos) 0 it acc env).onRaise (fun x => do noteFrame x env; theTreesLotGoes x)) _ _ s
  refine wpAny_noted ?_; rw [compTurn_list]
  refine wpAny_bind (wpAny_standAt (wpAny_bind (wpAny_mono (turn n s hI) (fun r s1 h1 => ?_) fun _ _ z => z.elim)))
  cases r with
  | none => exact wpAny_pure h1
  | some v =>
    refine wpAny_bind (wpAny_mono h1 (fun _ s2 h2 => wpAny_bind (wpAny_mono h2 (fun _ s3 h3 => wpAny_bind (wpAny_mono h3 (fun ok s4 h4 => ?_) fun _ _ z => z.elim)) fun _ _ z => z.elim)) fun _ _ z => z.elim)
    cases ok with
    | false => exact wpAny_pure ⟨rfl, h4⟩
    | true =>
      refine wpAny_bind (wpAny_bind (wpAny_mono h4 (fun x s5 h5 => ?_) fun _ _ z => z.elim))
      exact wpAny_bind (wpAny_mono h5 (fun _ s6 h6 => wpAny_pure (wpAny_pure ⟨rfl, h6⟩)) fun _ _ z => z.elim)
end
noncomputable def clOf (env : Env) : List (Str × NameKind) → List (Str × Addr) → List (Str × Addr)
  | [], cs => cs
  | (n, k) :: r, cs => if k == .free then clOf env r ((n, (env.cells.lookup n).getD 0) :: cs) else clOf env r cs
theorem closure_of {env : Env} {scope : Scope} (h : ∀ y ∈ scope.names, y.2 = .free → ∃ c, env.cells.lookup y.1 = some c) : closureFor scope env = pure (clOf env scope.names []) := by
  unfold closureFor
  have key : ∀ (l : List (Str × NameKind)) (cs : List (Str × Addr)), (∀ y ∈ l, y.2 = .free → ∃ c, env.cells.lookup y.1 = some c) →
      (forIn l cs fun (x : Str × NameKind) (r : List (Str × Addr)) => (if (x.2 == NameKind.free) = true then (do let y ← cellOf env x.1; pure (ForInStep.yield ((x.1, y) :: r))) else pure (ForInStep.yield r) : Sem (ForInStep (List (Str × Addr))))) = (pure (clOf env l cs) : Sem (List (Str × Addr))) := by
    intro l
    induction l with
    | nil => intro cs _; rfl
    | cons y r ih =>
      intro cs hl
      obtain ⟨n, k⟩ := y
      rw [List.forIn_cons]
      unfold clOf
      by_cases hk : (k == NameKind.free) = true
      · have hk' : k = .free := by simpa using hk
        obtain ⟨c, hc⟩ := hl (n, k) List.mem_cons_self hk'
        simp only [hk, if_true]
        have e : cellOf env n = pure c := by unfold cellOf; rw [hc]
        rw [e, hc]
        simp only [pure_bind, Option.getD_some]
        exact ih _ fun y hy => hl y (List.mem_cons_of_mem _ hy)
      · simp only [hk, if_false, Bool.false_eq_true]
        simp only [pure_bind]
        exact ih _ fun y hy => hl y (List.mem_cons_of_mem _ hy)
  have := key scope.names [] h
  simp only [bind_pure]
  exact this
theorem clOf_lookup {env : Env} : ∀ {l : List (Str × NameKind)} {cs : List (Str × Addr)}, (∀ y ∈ l, y.2 = .free → ∃ c, env.cells.lookup y.1 = some c) → (∀ x c, cs.lookup x = some c → env.cells.lookup x = some c) → ∀ x c, (clOf env l cs).lookup x = some c → env.cells.lookup x = some c
  | [], _, _, hc, x, c, e => hc x c e
  | (n, k) :: r, cs, hl, hc, x, c, e => by
    unfold clOf at e
    have hr : ∀ y ∈ r, y.2 = .free → ∃ c, env.cells.lookup y.1 = some c := fun y hy => hl y (List.mem_cons_of_mem _ hy)
    split at e
    · rename_i hk
      obtain ⟨c0, hc0⟩ := hl (n, k) List.mem_cons_self (by simpa using hk)
      refine clOf_lookup hr (fun x' c' e' => ?_) x c e
      rw [List.lookup_cons] at e'
      cases hx : x' == n with
      | true =>
        rw [hx] at e'
        have : x' = n := by simpa using hx
        subst this
        rw [hc0] at e'
        simp at e'
        subst e'
        exact hc0
      | false => rw [hx] at e'; exact hc x' c' e'
    · exact clOf_lookup hr hc x c e
theorem clOf_has {env : Env} : ∀ {l : List (Str × NameKind)} {cs : List (Str × Addr)} {x : Str}, ((x, NameKind.free) ∈ l ∨ ∃ c, cs.lookup x = some c) → ∃ c, (clOf env l cs).lookup x = some c
  | [], _, _, h => by
    rcases h with h | h
    · simp at h
    · exact h
  | (n, k) :: r, cs, x, h => by
    unfold clOf
    have keep : (∃ c, cs.lookup x = some c) → ∃ c, ((n, (env.cells.lookup n).getD 0) :: cs).lookup x = some c := fun ⟨c, e⟩ => by
      rw [List.lookup_cons]
      cases hx : x == n with
      | true => exact ⟨_, rfl⟩
      | false => exact ⟨c, e⟩
    split
    · rename_i hk
      refine clOf_has ?_
      rcases h with h | h
      · rcases List.mem_cons.mp h with h | h
        · cases h
          exact .inr ⟨(env.cells.lookup n).getD 0, by rw [List.lookup_cons]; simp⟩
        · exact .inl h
      · exact .inr (keep h)
    · rename_i hk
      refine clOf_has ?_
      rcases h with h | h
      · rcases List.mem_cons.mp h with h | h
        · cases h
          exact absurd rfl hk
        · exact .inl h
      · exact .inr h
theorem relabel_lookup {env : Env} : ∀ {l : List (Str × NameKind)} {x : Str} {k : NameKind}, (l.map fun (n, k) => if (k == NameKind.free && env.scope.kind == .function && env.kindOf n == some .cell) then (n, NameKind.cell) else (n, k)).lookup x = some k → (k = .cell ∨ k = .free) → (∀ y ∈ l, y.2 ≠ .cell) → (x, NameKind.free) ∈ l
  | [], _, _, e, _, _ => by simp at e
  | (n, k0) :: r, x, k, e, hk, hc => by
    rw [List.map_cons, List.lookup_cons] at e
    have hr : ∀ y ∈ r, y.2 ≠ .cell := fun y hy => hc y (List.mem_cons_of_mem _ hy)
    have hn : (if (k0 == NameKind.free && env.scope.kind == .function && env.kindOf n == some .cell) = true then (n, NameKind.cell) else (n, k0)).1 = n := by split <;> rfl
    rw [hn] at e
    cases hx : x == n with
    | false => rw [hx] at e; exact List.mem_cons_of_mem _ (relabel_lookup e hk hr)
    | true =>
      rw [hx] at e
      have hxn : x = n := by simpa using hx
      subst hxn
      have e' : (if (k0 == NameKind.free && env.scope.kind == .function && env.kindOf x == some .cell) = true then (x, NameKind.cell) else (x, k0)).2 = k := Option.some.inj e
      by_cases hf : k0 = .free
      · subst hf; exact List.mem_cons_self
      · rw [if_neg (by simp [hf])] at e'
        have e'' : k0 = k := e'
        subst e''
        rcases hk with h | h
        · exact absurd h (hc _ List.mem_cons_self)
        · exact absurd h hf
theorem relabel_local {env : Env} : ∀ {l : List (Str × NameKind)} {x : Str}, (l.map fun (n, k) => if (k == NameKind.free && env.scope.kind == .function && env.kindOf n == some .cell) then (n, NameKind.cell) else (n, k)).lookup x = some .local → l.lookup x = some .local
  | [], _, e => by simp at e
  | (n, k0) :: r, x, e => by
    rw [List.map_cons, List.lookup_cons] at e
    rw [List.lookup_cons]
    have hn : (if (k0 == NameKind.free && env.scope.kind == .function && env.kindOf n == some .cell) = true then (n, NameKind.cell) else (n, k0)).1 = n := by split <;> rfl
    rw [hn] at e
    cases hx : x == n with
    | false => rw [hx] at e; exact relabel_local e
    | true =>
      rw [hx] at e
      have e' : (if (k0 == NameKind.free && env.scope.kind == .function && env.kindOf n == some .cell) = true then (n, NameKind.cell) else (n, k0)).2 = NameKind.local := Option.some.inj e
      split at e'
      · cases e'
      · exact congrArg some e'
noncomputable def bCx (X : Cx) (N : List Str) (scope : Scope) (C : Addr) (fp : List Addr) (s₀ : Shared) (H₀ : Hp) : Cx where
  prog := X.prog
  w := X.w
  K := X.K
  mg := X.mg
  base := X.base
  A := X.A
  N := N
  s₀ := s₀
  H₀ := H₀
  env := compEnvC scope (clOf X.env scope.names []) C X.env
  outer := X.stack
  stack := X.stack
  ex := fp
  fn := fun _ => false
  calm := X.calm
  pn := []
  xe := nox
structure CompSc (X : Cx) (scope : Scope) (N : List Str) (fv : List (Option Nat)) : Prop where
  kind : scope.kind = .function
  nocell : ∀ y ∈ scope.names, y.2 ≠ .cell
  names : ∀ x ∈ scope.names, x.2 = .local → scope.names.lookup x.1 = some .local
  free : ∀ y ∈ scope.names, y.2 = .free → X.env.scope.names.lookup y.1 = some .cell
  fvs : ∀ (i j : Nat) (x : Str), N[i]? = some x → fv[i]? = some (some j) → X.N[j]? = some x ∧ X.env.scope.names.lookup x = some .cell ∧ (x, NameKind.free) ∈ scope.names
  len : fv.length = N.length
  fvl : ∀ {x : Str}, (x, NameKind.free) ∈ scope.names → scope.names.lookup x ≠ some .local
noncomputable def pick {α : Type} (fv : List (Option Nat)) (σ : List (Option α)) : List (Option α) := fv.map fun o => o.bind fun j => (σ[j]?).join
theorem pick_get {α : Type} {fv : List (Option Nat)} {σ : List (Option α)} {i : Nat} {v : α} (h : (pick fv σ)[i]? = some (some v)) : ∃ j, fv[i]? = some (some j) ∧ σ[j]? = some (some v) := by
  unfold pick at h
  rw [List.getElem?_map] at h
  cases e : fv[i]? with
  | none => rw [e] at h; cases h
  | some o =>
    rw [e] at h
    cases o with
    | none => cases h
    | some j =>
      have h' : (σ[j]?).join = some v := Option.some.inj h
      refine ⟨j, rfl, ?_⟩
      cases e2 : σ[j]? with
      | none => rw [e2] at h'; cases h'
      | some o => rw [e2] at h'; exact congrArg some h'
theorem pick_rel {K : PySem.W.Frag} {H : Hp} {τ : WSt} {σ : St} {fv : List (Option Nat)} (h : RelSt K H τ σ) : RelSt K H (pick fv τ) (pick fv σ) := by
  refine ⟨by simp [pick], fun i w e => ?_⟩
  obtain ⟨j, ej, ew⟩ := pick_get e
  obtain ⟨v, ev, r⟩ := h.2 j w ew
  refine ⟨v, ?_, r⟩
  unfold pick
  rw [List.getElem?_map, ej]
  show some ((σ[j]?).join) = _
  rw [ev]
  rfl
section
variable {X : Cx} {pins : List (Addr × Obj)} {σ : St} {H H2 : Hp} {s s2 : Shared} {scope : Scope} {N : List Str} {fv : List (Option Nat)} {fp : List Addr} {C D : Addr}
theorem CompSc.cells (S : CompSc X scope N fv) (I : Inv X pins σ H s) : ∀ y ∈ scope.names, y.2 = .free → ∃ c, X.env.cells.lookup y.1 = some c := fun y hy hk => I.ok.has y.1 (.inl (S.free y hy hk))
theorem block_inv {h4 : Heap} {t4 : Nat} {m : Str → Option Value} (I : Inv X pins σ H2 s2) (S : CompSc X scope N fv) (hf : ∀ b ∈ fp, FpOk X pins H2 b) (hfo : ∀ b ∈ fp, b < s2.heap.objs.size) (keep : ∀ b o, s2.heap.get? b = some o → h4.get? b = some o)
    (hC : s2.heap.objs.size ≤ C) (ns : h4.Ns C m) : Inv (bCx X N scope C fp s2 H2) [] (pick fv σ) H2 { s2 with heap := h4, toks := t4 } := by
  have look : ∀ x c, (clOf X.env scope.names []).lookup x = some c → X.env.cells.lookup x = some c := clOf_lookup (S.cells I) (fun x c e => by simp at e)
  refine ⟨⟨I.ok.mod, S.kind, I.ok.glob, I.ok.blt, hC, fun x y c e1 e2 => I.ok.inj x y c (look x c e1) (look y c e2), fun x hx => ?_, fun x c h => absurd (show false = true from h) Bool.false_ne_true, I.ok.hd, I.ok.frames, .inl rfl, fun b hb => ?_, I.bs, Nat.le_trans I.ok.bsz I.sz, fun b o e hb => ?_, fun b hb hx => ?_, I.stack, I.stkFree⟩,
    rfl, I.bare, Un.kept keep, ⟨m, ns, fun i x v e1 e2 e3 => ?_⟩, fun x c e => ?_, I.hok.fresh hC, fun x c e => I.freeC x c (look x c e), fun p hp => absurd (show p ∈ ([] : List (Addr × Obj)) from hp) (by simp), I.hok.kept keep, ?_⟩
  · rcases hx with hx | hx
    · exact clOf_has (.inl (relabel_lookup hx (.inl rfl) S.nocell))
    · exact clOf_has (.inl (relabel_lookup hx (.inr rfl) S.nocell))
  · exact ⟨Nat.ne_of_lt (Nat.lt_of_lt_of_le (hfo b hb) hC), fun x c e => (hf b hb).2.2.2.2.1 x c (look x c e)⟩
  · rcases (hf b hb).2.2.2.1 with z | z
    · exact I.ok.noex b o e z
    · exact absurd (Nat.lt_of_lt_of_le (Heap.lt_size e) (Nat.le_trans I.ok.bsz z)) (Nat.lt_irrefl _)
  · rcases List.mem_cons.mp (I.stkSub b hx) with z | z
    · exact (hf b hb).2.1 z
    · exact (hf b hb).2.2.1 z
  · obtain ⟨j, ej, ev⟩ := pick_get e2
    obtain ⟨h1, h2, h3⟩ := S.fvs i j x e1 ej
    obtain ⟨m0, _, hl⟩ := I.loc
    obtain ⟨u, r, l⟩ := hl j x v h1 ev (.inr (.inl h2))
    refine ⟨u, r, .inr ?_⟩
    rcases l with ⟨k, _⟩ | ⟨_, c, ec, o, ho, hd⟩
    · exact absurd (h2.symm.trans k) (by intro z; cases z)
    · obtain ⟨c', ec'⟩ := clOf_has (env := X.env) (l := scope.names) (cs := []) (x := x) (.inl h3)
      have e' := look x c' ec'
      rw [ec] at e'
      cases e'
      refine ⟨?_, c, ec', o, keep _ _ ho, hd⟩
      rcases e3 with e3 | e3 | e3
      · exact absurd (relabel_local e3) fun z => S.fvl h3 z
      · exact .inl e3
      · exact .inr e3
  · obtain ⟨v, o, ho, hd⟩ := I.cell x c (look x c e)
    exact ⟨v, o, keep _ _ ho, hd⟩
  · show (pick fv σ).length = N.length
    unfold pick
    rw [List.length_map, S.len]
end
end L2
namespace L2
open PySem PySem.Spec PyProof.Rows
noncomputable def compW (C : Gp → Prop) (g : WG) (tt : WT) (te : WE) : List W → WSt → Gp → List W → (List W → Gp → Prop) → Prop
  | [], _, G, acc, q => C G ∧ q acc G
  | w :: ws, τ, G, acc, q => C G ∧ g w τ G fun τ2 G2 => tt τ2 G2 fun b G3 => if b = true then te τ2 G3 fun v G4 => acc.length + 1 ≤ 100000 ∧ compW C g tt te ws τ2 G4 (acc ++ [v]) q else compW C g tt te ws τ2 G3 acc q
noncomputable def QTs (X : Cx) (ifs : List Expr) (t : WT) : Prop :=
  ∀ (pins : List (Addr × Obj)) (s : Shared) (σ : St) (H : Hp) (Q : Bool → Hp → Prop), Inv X pins σ H s → LTx X.K t σ H Q → wpAny (model X.prog X.w) X.A (tests ifs X.env) (TP X pins σ Q) X.xe s
noncomputable def wTrue : WT := fun _ G q => q true G
theorem qts_nil {X : Cx} : QTs X [] wTrue := fun pins s σ H Q I ⟨τ, G, q, hs, hg, ht, hQ⟩ => wpAny_tests_nil ⟨H, I, hQ true H G (TLe.refl H) hg ht⟩
theorem qts_one {X : Cx} {c : Expr} {t : WT} (h : QT X c t) : QTs X [c] t := fun pins s σ H Q I hw => wpAny_tests_one (h pins s σ H Q I hw)
theorem RelG.track {K : PySem.W.Frag} {H : Hp} {G : Gp} {p : Addr} {xs : List V} {ws : List W} (h : RelG K H G) (e : H p = some (.lst xs)) (r : Reps K H ws xs) (hl : ws.length ≤ 100000) : RelG K H (updG G p (.lst ws)) := fun a g ea => by
  by_cases hb : a = p
  · subst hb
    rw [updG_same] at ea; cases ea
    exact ⟨hl, xs, e, r⟩
  · rw [updG_ne hb] at ea
    exact h a g ea
section
variable {X : Cx} {pins : List (Addr × Obj)} {σ : St} {H2 : Hp} {s2 : Shared} {scope : Scope} {N : List Str} {fv : List (Option Nat)} {fp : List Addr} {tg elt iter : Expr} {ifs : List Expr} {pos : Pos} {J : It} {it : Addr} {tn : Nat → Heap → Prop}
  {g : WG} {tt : WT} {te : WE} {ws : List W} {Cd : Gp → Prop} {τ : WSt} {G : Gp} {q : List W → Gp → Prop}
structure CompEnd (X : Cx) (pins : List (Addr × Obj)) (σ : St) (H2 : Hp) (s2 : Shared) (G : Gp) (q : List W → Gp → Prop) (D C : Addr) (s' : Shared) : Prop where
  ex : ∃ (Hf : Hp) (Gf : Gp) (rs : List W), (∃ m, s'.heap.Ns C m) ∧ Inv X pins σ Hf s' ∧ Hf C = none ∧ s2.heap.objs.size ≤ C ∧ TLe H2 Hf ∧ RelG X.K Hf (updG Gf D (.lst rs)) ∧ G D = none ∧ q rs Gf
theorem comp_block (I : Inv X pins σ H2 s2) (S : CompSc X scope N fv) (hc : X.calm = true) (T : Turn X.prog X.w X.K tg J fp it tn) (st : tn 0 s2.heap) (hf : ∀ b ∈ fp, FpOk X pins H2 b)
    (hg : ∀ C, QG (bCx X N scope C fp s2 H2) tg g) (htt : ∀ C, QTs (bCx X N scope C fp s2 H2) ifs tt) (hte : ∀ C, QE (bCx X N scope C fp s2 H2) elt te)
    (itn : Itn X.K J ws Cd H2) (hs : RelSt X.K H2 τ σ) (gr : RelG X.K H2 G) (hw : compW Cd g tt te ws (pick fv τ) G [] q) {RR : Value → Addr → Result → Shared → Prop} {E : Value → Shared → Prop}
    (hRR : ∀ D C s', CompEnd X pins σ H2 s2 G q D C s' → RR (.ref D) C (.ok .next) s') :
    wpAny (model X.prog X.w) X.A (newList []) (fun acc s3 => wpAny (model X.prog X.w) X.A (newFunctionEnv scope X.env.globals (clOf X.env scope.names []) [] X.env.qual none .none (some X.env)) (fun cenv s4 =>
      codeAny (model X.prog X.w) X.A (.compStart (.ListComp elt [⟨tg, iter, ifs, 0⟩] scope pos) 0 (.ref it) acc { cenv with scope := relabel scope X.env }) (RR acc cenv.locals) s4) E s3) E s2 := by
  have hfo : ∀ b ∈ fp, b < s2.heap.objs.size := fun b hb => let ⟨o, e, _⟩ := T.obj _ _ st b hb; Heap.lt_size e
  refine wpAny_newObj_type (wpAny_newFunctionEnv S.nocell (by intro y hy; simp at hy) (fun h1 hns1 hsb1 => ?_) S.kind)
  dsimp only at hns1 hsb1 ⊢
  generalize hP : s2.heap.push { cls := .type "list", dict := none, data := .seq ([] : List Value).toArray } = P at hns1 hsb1 ⊢
  generalize hD : s2.heap.objs.size = D at *
  have hC : P.objs.size = D + 1 := by rw [← hP, Heap.size_push, hD]
  generalize hCC : P.objs.size = C at *
  have hDC : D ≠ C := by rw [hC]; exact Nat.ne_of_lt (Nat.lt_succ_self _)
  have hDleC : D ≤ C := by rw [hC]; exact Nat.le_succ _
  have old : ∀ b o, s2.heap.get? b = some o → h1.get? b = some o := fun b o e => hsb1.extBut b o (Nat.ne_of_lt (Nat.lt_of_lt_of_le (Heap.lt_size e) (by rw [hD]; exact hDleC))) (Heap.get?_push_of_some _ (hP ▸ Heap.get?_push_of_some _ e))
  have hacc : h1.PlainList D #[] := ⟨0, hsb1.extBut _ _ hDC (Heap.get?_push_of_some _ (by rw [← hP, ← hD]; exact Heap.get?_push_size _ rfl))⟩
  have look : ∀ x c, (clOf X.env scope.names []).lookup x = some c → X.env.cells.lookup x = some c := clOf_lookup (S.cells I) (fun x c e => by simp at e)
  have cD : ∀ x c, (clOf X.env scope.names []).lookup x = some c → c ≠ D := fun x c e z => by
    obtain ⟨v, o, ho, _⟩ := I.cell x c (look x c e)
    exact absurd (Heap.lt_size ho) (by rw [z, hD]; exact Nat.lt_irrefl _)
  have sD : D ∉ frs X.stack := fun hb => by
    rcases List.mem_cons.mp (I.stkSub D hb) with z | z
    · exact absurd I.lt (by rw [← z, hD]; exact Nat.lt_irrefl _)
    · exact I.nofs (by rw [hD]; exact Nat.le_refl _) z
  have fD : D ∉ fp := fun hb => absurd (hfo D hb) (Nat.lt_irrefl _)
  have fpX : ∀ {H1 : Hp} {ps : List (Addr × Obj)}, (∀ b ∈ fp, H1 b = none) → (∀ p ∈ ps, p.1 ∉ fp) → ∀ b ∈ fp, FpOk (bCx X N scope C fp s2 H2) ps H1 b := fun {H1 ps} hn hp b hb => by
    refine ⟨hn b hb, Nat.ne_of_lt (Nat.lt_of_lt_of_le (hfo b hb) hDleC), fun hx => ?_, .inl hb, fun x c e => (hf b hb).2.2.2.2.1 x c (look x c e), fun p hp' z => hp p hp' (z ▸ hb)⟩
    rcases List.mem_cons.mp (I.stkSub b hx) with z | z
    · exact (hf b hb).2.1 z
    · exact (hf b hb).2.2.1 z
  have J0 : Inv (bCx X N scope C fp s2 H2) [] (pick fv σ) H2 { s2 with heap := h1, toks := s2.toks + ([] : List (Str × Value)).length } := block_inv I S hf (by rw [hD]; exact hfo) old (by rw [hD]; exact hDleC) hns1
  have loop : codeAny (model X.prog X.w) X.A (.compLoop (.ListComp elt [⟨tg, iter, ifs, 0⟩] scope pos) 0 (.ref it) (.ref D) (bCx X N scope C fp s2 H2).env) (RR (.ref D) C) { s2 with heap := h1, toks := s2.toks + ([] : List (Str × Value)).length } := by
    refine comp_loop (fun n s => ∃ i σ1 H1 τ1 G1 acc vs its, n = ws.length - i ∧ i ≤ ws.length ∧ Inv (bCx X N scope C fp s2 H2) [] σ1 H1 s ∧ tn i s.heap ∧ (∀ b ∈ fp, H1 b = none) ∧ H1 D = none ∧ s.heap.PlainList D its.toArray ∧ Vals vs its ∧ Reps X.K H1 acc vs ∧ TLe H2 H1 ∧
      RelSt X.K H1 τ1 σ1 ∧ RelG X.K H1 G1 ∧ compW Cd g tt te (ws.drop i) τ1 G1 acc q ∧ acc.length ≤ 100000) ?_ ws.length
      ⟨0, _, H2, _, G, [], [], [], by simp, Nat.zero_le _, J0, T.keep _ _ _ st fun b _ o e => old b o e, fun b hb => (hf b hb).1, I.hok.fresh (by rw [hD]; exact Nat.le_refl _), hacc, .nil, .nil, TLe.refl _, pick_rel hs, gr, by simpa using hw, by simp⟩
    rintro n s ⟨i, σ1, H1, τ1, G1, acc, vs, its, rfl, hi, J1, st1, fr1, d1, pl1, rv1, ra1, t1, s1, g1, q1, hl1⟩
    obtain ⟨kk, eD⟩ := pl1
    have J1p : Inv (bCx X N scope C fp s2 H2) [(D, { cls := .type "list", data := .seq its.toArray kk })] σ1 H1 s := J1.pins_of fun p hp => by
      have e := List.mem_singleton.mp hp
      subst e
      exact ⟨eD, d1, hDC, sD, fun v z => by cases z⟩
    have pnf : ∀ p ∈ [((D, { cls := .type "list", data := .seq its.toArray kk }) : Addr × Obj)], p.1 ∉ fp := fun p hp => by
      have e := List.mem_singleton.mp hp
      subst e
      exact fD
    by_cases hlt : i < ws.length
    · have ed : ws.drop i = ws[i] :: ws.drop (i + 1) := List.drop_eq_getElem_cons hlt
      rw [ed] at q1
      obtain ⟨c1, q1⟩ := q1
      obtain ⟨go, yl⟩ := itn.go i ws[i] H1 G1 t1 g1 c1 (List.getElem?_eq_getElem hlt)
      refine thn (T.item (bCx X N scope C fp s2 H2) rfl rfl rfl hc i _ s σ1 H1 nox J1p (fpX fr1 pnf) st1 go) fun r s4 ⟨u, hr, h4⟩ => ?_
      subst hr
      refine thn h4 fun _ s5 ⟨x, H5, I5, r5, y5, st5, fr5⟩ => ?_
      obtain ⟨tx, rx, gx⟩ := yl x H5 y5
      have I5' := I5.pinned (fpX fr5 pnf) (T.obj _ _ st5)
      refine thn (hg C _ s5 σ1 H5 x u (fun σ6 H6 => ∃ τ6 G6, TLe H5 H6 ∧ RelSt X.K H6 τ6 σ6 ∧ RelG X.K H6 G6 ∧ tt τ6 G6 fun b G3 => if b = true then te τ6 G3 fun v G4 => acc.length + 1 ≤ 100000 ∧ compW Cd g tt te (ws.drop (i + 1)) τ6 G4 (acc ++ [v]) q else compW Cd g tt te (ws.drop (i + 1)) τ6 G3 acc q) I5' r5
        ⟨ws[i], τ1, G1, _, rx, s1.mono tx, gx, q1, fun σ6 H6 τ6 G6 t6 s6 g6 q6 => ⟨τ6, G6, t6, s6, g6, q6⟩⟩) fun _ s6 ⟨σ6, H6, I6, τ6, G6, t6, rs6, g6, q6⟩ => ?_
      refine thn (htt C _ s6 σ6 H6 (fun b H7 => ∃ G7, TLe H6 H7 ∧ RelG X.K H7 G7 ∧ (if b = true then te τ6 G7 fun v G4 => acc.length + 1 ≤ 100000 ∧ compW Cd g tt te (ws.drop (i + 1)) τ6 G4 (acc ++ [v]) q else compW Cd g tt te (ws.drop (i + 1)) τ6 G7 acc q)) I6
        ⟨τ6, G6, _, rs6, g6, q6, fun b H7 G7 t7 g7 q7 => ⟨G7, t7, g7, q7⟩⟩) fun ok s7 ⟨H7, I7, G7, t7, g7, q7⟩ => ?_
      have t17 : TLe H1 H7 := (tx.trans t6).trans t7
      -- what the pins keep up to a later state
      have keepFp : ∀ {σ8 : St} {H8 : Hp} {s8 : Shared}, Inv (bCx X N scope C fp s2 H2) ([(D, { cls := .type "list", data := .seq its.toArray kk })] ++ pinsAt fp s5.heap) σ8 H8 s8 → tn (i + 1) s8.heap ∧ (∀ b ∈ fp, H8 b = none) ∧ H8 D = none ∧ s8.heap.get? D = some { cls := .type "list", data := .seq its.toArray kk } ∧ ∀ b ∈ fp, ∃ o, s8.heap.get? b = some o := fun {σ8 H8 s8} I8 => by
        refine ⟨T.keep _ _ _ st5 fun b hb o e => (I8.pin (b, o) (List.mem_append_right _ (List.mem_append_right _ (mem_pinsAt hb e)))).1, fun b hb => ?_, (I8.pin (D, _) (List.mem_append_right _ (List.mem_append_left _ List.mem_cons_self))).2.1, (I8.pin (D, _) (List.mem_append_right _ (List.mem_append_left _ List.mem_cons_self))).1, fun b hb => ?_⟩
        · obtain ⟨o, e, _⟩ := T.obj _ _ st5 b hb
          exact (I8.pin (b, o) (List.mem_append_right _ (List.mem_append_right _ (mem_pinsAt hb e)))).2.1
        · obtain ⟨o, e, _⟩ := T.obj _ _ st5 b hb
          exact ⟨o, (I8.pin (b, o) (List.mem_append_right _ (List.mem_append_right _ (mem_pinsAt hb e)))).1⟩
      cases ok with
      | false =>
        rw [if_neg Bool.false_ne_true] at q7 ⊢
        obtain ⟨k1, k2, k3, k4, _⟩ := keepFp I7
        exact ⟨ws.length - (i + 1), by (clear I S hc T st hf hg htt hte itn hs gr hw hRR hP hD hfo hCC hns1 hsb1 hC hDC hDleC old hacc look cD sD fD fpX J0 hi J1 st1 fr1 d1 rv1 ra1 t1 s1 g1 hl1 eD J1p pnf ed c1 q1 go yl h4 I5 r5 y5 st5 fr5 tx rx gx I5' I6 t6 rs6 g6 q6 I7 t7 g7 t17 keepFp q7 k1 k2 k3 k4; omega), i + 1, σ6, H7, τ6, G7, acc, vs, its, rfl, hlt, I7.pins_of fun p hp => absurd hp (by simp), k1, k2, k3, ⟨kk, k4⟩, rv1, ra1.mono t17, t1.trans t17, rs6.mono t7, g7, q7, hl1⟩
      | true =>
        rw [if_pos rfl] at q7 ⊢
        refine thn (hte C _ s7 σ6 H7 (fun v H8 => ∃ w8 G8, TLe H7 H8 ∧ Rep X.K H8 w8 v ∧ RelG X.K H8 G8 ∧ acc.length + 1 ≤ 100000 ∧ compW Cd g tt te (ws.drop (i + 1)) τ6 G8 (acc ++ [w8]) q) I7
          ⟨τ6, G7, _, rs6.mono t7, g7, q7, fun v H8 w8 G8 t8 r8 g8 q8 => ⟨w8, G8, t8, r8, g8, q8⟩⟩) fun u8 s8 ⟨v8, H8, I8, rv8, w8, G8, t8, r8, g8, hl8, q8⟩ => ?_
        obtain ⟨k1, k2, k3, k4, k5⟩ := keepFp I8
        have t18 : TLe H1 H8 := t17.trans t8
        refine wpAny_list_append_plain ⟨kk, k4⟩ (fun h9 pl9 sb9 => ?_) (by rw [List.size_toArray, ← rv1.length, ← ra1.length]; exact line_le hl1)
        have I9 : Inv (bCx X N scope C fp s2 H2) [] σ6 H8 { s8 with heap := h9 } := (I8.pins_of (pins' := []) fun p hp => absurd hp (by simp)).turned (t' := s8.toks) (fun b o hb e => (sb9.2 b hb).trans e) k3 hDC (.inr (by show s2.heap.objs.size ≤ D; rw [hD]; exact Nat.le_refl _)) (fun x c e => cD x c e) fun p hp => absurd (show p ∈ ([] : List (Addr × Obj)) from hp) (by simp)
        refine ⟨ws.length - (i + 1), by (clear I S hc T st hf hg htt hte itn hs gr hw hRR hP hD hfo hCC hns1 hsb1 hC hDC hDleC old hacc look cD sD fD fpX J0 hi J1 st1 fr1 d1 rv1 ra1 t1 s1 g1 hl1 eD J1p pnf ed c1 q1 go yl h4 I5 r5 y5 st5 fr5 tx rx gx I5' I6 t6 rs6 g6 q6 I7 t7 g7 t17 keepFp q7 I8 rv8 t8 r8 g8 hl8 q8 k1 k2 k3 k4 k5 t18 pl9 sb9 I9; omega), i + 1, σ6, H8, τ6, G8, acc ++ [w8], vs ++ [v8], its ++ [u8], rfl, hlt, I9, T.keep _ _ _ k1 fun b hb o e => (sb9.2 b (fun z => fD (z ▸ hb))).trans e, k2, k3, by simpa using pl9, rv1.append (.cons rv8 .nil), (ra1.mono t18).append (.cons r8 .nil), t1.trans t18, (rs6.mono t7).mono t8, g8, q8, by rw [List.length_append]; exact hl8⟩
    · have e : i = ws.length := by (clear I S hc T st hf hg htt hte itn hs gr hw hRR hP hD hfo hCC hns1 hsb1 hC hDC hDleC old hacc look cD sD fD fpX J0 J1 st1 fr1 d1 rv1 ra1 t1 s1 g1 q1 hl1 eD J1p pnf; omega)
      subst e
      rw [List.drop_length] at q1
      refine thn (T.done (bCx X N scope C fp s2 H2) rfl rfl rfl hc _ _ s σ1 H1 nox J1p (fpX fr1 pnf) st1 (itn.stop _ H1 G1 t1 g1 q1.1 (Nat.le_refl _))) fun r s4 ⟨hr, I4⟩ => ?_
      subst hr
      have eD4 := (I4.pin (D, _) (List.mem_append_right _ List.mem_cons_self)).1
      have zl : vs.length ≤ sizeLine := by rw [← ra1.length]; exact line_le hl1
      have hb2 : ∀ b o, s2.heap.get? b = some o → b ≠ D := fun b o e => by
        have := Heap.lt_size e
        rw [hD] at this
        exact Nat.ne_of_lt this
      refine hRR D C s4 ⟨upd H1 D (.lst vs), G1, acc, let ⟨m, hn, _⟩ := I4.loc; ⟨m, hn⟩, ?_, ?_, by rw [hD]; exact hDleC, t1.trans (TLe.new d1 _), ?_, gr.fresh (I.hok.fresh (by rw [hD]; exact Nat.le_refl _)), q1.2⟩
      · refine I.call' (ch := fp) I4.os ⟨fun b o e n hb hx => I4.base.keep b o e n hb hx, fun b o e n hb hx => I4.base.slot b o e n hb hx, fun b o e n hx => ?_, fun b o e hx => I4.base.there b o e hx, fun b xs e => ?_, fun b o u e => ?_, fun b ps e => ?_⟩ ?_ I4.bare fun b hb => ⟨(hf b hb).2.2.2.1, (hf b hb).2.1, fun x c e => (hf b hb).2.2.2.2.1 x c e, fun p hp => (hf b hb).2.2.2.2.2 p hp⟩
        · rw [upd_ne (hb2 b o e)]; exact I4.base.free b o e n hx
        · rw [upd_ne (ne_of_none (I4.base.tups b xs e) d1)]; exact I4.base.tups b xs e
        · rw [upd_ne (ne_of_none (I4.base.frzs b o u e) d1)]; exact I4.base.frzs b o u e
        · obtain ⟨more, e'⟩ := I4.base.tbls b ps e
          exact ⟨more, by rw [upd_ne (ne_of_none e' d1)]; exact e'⟩
        · intro b u e
          by_cases hbD : b = D
          · subst hbD
            rw [upd_same] at e; cases e
            exact ⟨zl, its, kk, rv1, eD4⟩
          · rw [upd_ne hbD] at e
            exact (I4.hok b u e).stay (fun c v _ q => q) (fun c q => by rw [upd_ne (ne_of_none q d1)]; exact q) fun c xs q => by rw [upd_ne (ne_of_none q d1)]; exact q
      · rw [upd_ne (Ne.symm hDC)]; exact I4.free
      · exact (g1.upd (TLe.new d1 _) (g1.fresh d1)).track upd_same (ra1.mono (TLe.new d1 _)) hl1
  exact codeAny_compStart_list loop (T.self _ 0 _ _ _ (T.keep _ _ _ st fun b _ o e => old b o e) loop)
noncomputable def wComp (wi : WI) (fv : List (Option Nat)) (g : WG) (tt : WT) (te : WE) : WE := fun τ G q => wi τ G fun ws Cd G1 => compW Cd g tt te ws (pick fv τ) G1 [] fun rs G2 => ∀ p, G1 p = none → q (.ref p) (updG G2 p (.lst rs))
theorem qe_comp {wi : WI} (S : CompSc X scope N fv) (hc : X.calm = true) (hi : QI X tg iter wi) (hg : ∀ C fp s2 H2, QG (bCx X N scope C fp s2 H2) tg g) (htt : ∀ C fp s2 H2, QTs (bCx X N scope C fp s2 H2) ifs tt) (hte : ∀ C fp s2 H2, QE (bCx X N scope C fp s2 H2) elt te)
    (hs : ∀ x, foldedSetIterable iter X.env x = pure x := by intro _; rfl) : QE X (.ListComp elt [⟨tg, iter, ifs, 0⟩] scope pos) (wComp wi fv g tt te) := by
  intro pins s σ H Q I ⟨τ, G, q, hτ, hG, ht, hQ⟩
  rw [eval_ListComp]
  refine wpAny_comprehension_free (use := none) rfl hs (closure_of (S.cells I)) S.kind S.names (thn (hi pins s σ H (fun J H1 => ∃ ws Cd G1, TLe H H1 ∧ RelG X.K H1 G1 ∧ Itn X.K J ws Cd H1 ∧ compW Cd g tt te ws (pick fv τ) G1 [] fun rs G2 => ∀ p, G1 p = none → q (.ref p) (updG G2 p (.lst rs))) I
    ⟨τ, G, _, hτ, hG, ht, fun J H1 ws C G1 t1 g1 it r1 => ⟨ws, C, G1, t1, g1, it, r1⟩⟩) fun v s1 h1 => thn h1 fun itv s2 h2 => ?_)
  obtain ⟨it, fp, tn, J, H2, e, I2, T, st2, f2, ws, Cd, G1, t1, g1, itn, hw⟩ := h2
  subst e
  refine comp_block (RR := fun acc C => compPost (model X.prog X.w) X.A X.xe none (EP X pins σ Q) acc C) I2 S hc T st2 f2 (fun C => hg C fp s2 H2) (fun C => htt C fp s2 H2) (fun C => hte C fp s2 H2) itn (hτ.mono t1) g1 hw fun D C s' ⟨Hf, Gf, rs, ⟨m, hn⟩, I5, hC, hCs, t5, g5, hD, q5⟩ => ?_
  refine ⟨m, hn, fun h' sb => ?_⟩
  have hlt : C ≠ X.env.locals := fun z => absurd I2.lt (Nat.not_lt.mpr (z ▸ hCs))
  have I6 : Inv X pins σ Hf { s' with heap := h' } := I5.turned (t' := s'.toks) (fun b o hb e => (sb.2 b hb).trans e) hC hlt (.inr (Nat.le_trans I2.sz hCs)) (fun x c e z => by
    obtain ⟨v, o, ho, _⟩ := I2.cell x c e
    exact absurd (Heap.lt_size ho) (Nat.not_lt.mpr (z ▸ hCs))) fun p hp z => absurd (Heap.lt_size (I2.pin p hp).1) (Nat.not_lt.mpr (z ▸ hCs))
  exact ⟨.ref D, Hf, I6, rfl, hQ _ Hf _ _ (t1.trans t5) (.ref D) g5 (q5 D hD)⟩
theorem qs_comp (i : Nat) {y : Str} {py spos : Pos} {wi : WI} (S : CompSc X scope N fv) (hc : X.calm = true) (hN : X.N.Nodup) (hiN : X.N[i]? = some y) (hy : Loc X.env.scope y) (hi : QI X tg iter wi) (hg : ∀ C fp s2 H2, QG (bCx X N scope C fp s2 H2) tg g) (htt : ∀ C fp s2 H2, QTs (bCx X N scope C fp s2 H2) ifs tt) (hte : ∀ C fp s2 H2, QE (bCx X N scope C fp s2 H2) elt te)
    (hsw : swapsWith (.ListComp elt [⟨tg, iter, ifs, 0⟩] scope pos) (some (.Name y py)) spos.line X.env = pure true := by rfl) (hs : ∀ x, foldedSetIterable iter X.env x = pure x := by intro _; rfl) (hfn : X.fn y = true ∨ X.env.scope.names.lookup y = some .local := by first | exact .inl rfl | exact .inr rfl | assumption) :
    QS X (.Assign [.Name y py] (.ListComp elt [⟨tg, iter, ifs, 0⟩] scope pos) spos) (wAsg (wComp wi fv g tt te) (hName i)) := by
  intro pins s σ H D0 I ⟨τ, G, d, hτ, hG, ht, l⟩
  rw [exec_Assign_Name_used _ _ _ _ hsw]
  refine wpAny_bind (wpAny_standAt (wpAny_bind ?_))
  show wpAny _ _ (do let _ ← comprehension (.ListComp elt [⟨tg, iter, ifs, 0⟩] scope pos) scope X.env _ (newList []) false (eval iter X.env) (some (assign (.Name y py) X.env))) _ _ s
  refine wpAny_bind (wpAny_mono (wpAny_comprehension_free (use := some (assign (.Name y py) X.env)) (Q := fun _ s' => SP X pins D0 .next s') rfl hs (closure_of (S.cells I)) S.kind S.names (thn (hi pins s σ H (fun J H1 => ∃ ws Cd G1, TLe H H1 ∧ RelG X.K H1 G1 ∧ Itn X.K J ws Cd H1 ∧ compW Cd g tt te ws (pick fv τ) G1 [] fun rs G2 => ∀ p, G1 p = none → hName i (.ref p) τ (updG G2 p (.lst rs)) d.nx) I
    ⟨τ, G, _, hτ, hG, ht, fun J H1 ws C G1 t1 g1 it r1 => ⟨ws, C, G1, t1, g1, it, r1⟩⟩) fun v s1 h1 => thn h1 fun itv s2 h2 => ?_)) (fun _ s' hq => wpAny_pure (wpAny_pure hq)) fun _ _ e => e)
  obtain ⟨it, fp, tn, J, H2, e, I2, T, st2, f2, ws, Cd, G1, t1, g1, itn, hw⟩ := h2
  subst e
  refine comp_block (RR := fun acc C => compPost (model X.prog X.w) X.A X.xe (some (assign (.Name y py) X.env)) (fun _ s' => SP X pins D0 .next s') acc C) I2 S hc T st2 f2 (fun C => hg C fp s2 H2) (fun C => htt C fp s2 H2) (fun C => hte C fp s2 H2) itn (hτ.mono t1) g1 hw fun D C s' ⟨Hf, Gf, rs, ⟨m, hn⟩, I5, hC, hCs, t5, g5, hD, q5⟩ => ?_
  have hlt : C ≠ X.env.locals := fun z => absurd I2.lt (Nat.not_lt.mpr (z ▸ hCs))
  have hcell : ∀ x c, X.env.cells.lookup x = some c → c ≠ C := fun x c e z => by
    obtain ⟨v, o, ho, _⟩ := I2.cell x c e
    exact absurd (Heap.lt_size ho) (Nat.not_lt.mpr (z ▸ hCs))
  show wpAny _ _ (assign (.Name y py) X.env (.ref D)) _ _ s'
  refine wpAny_assign_Name (store_ok2 I5 hN hiN hy (v := .ref D) rfl (fun s6 I6 ⟨a, sb6, ha⟩ => ?_) hfn)
  have haC : C ≠ a := by
    rcases ha with z | z
    · rw [z]; exact hlt
    · exact Ne.symm (hcell y a z)
  refine ⟨m, hn.sameBut sb6 haC, fun h' sb => ?_⟩
  have I7 : Inv X pins (σ.set i (some (.ref D))) Hf { s6 with heap := h' } := I6.turned (t' := s6.toks) (fun b o hb e => (sb.2 b hb).trans e) hC hlt (.inr (Nat.le_trans I2.sz hCs)) hcell fun p hp z => absurd (Heap.lt_size (I2.pin p hp).1) (Nat.not_lt.mpr (z ▸ hCs))
  exact ⟨_, Hf, I7, l.nx _ Hf _ _ (t1.trans t5) ((hτ.mono (t1.trans t5)).set (.ref D) i) g5 (q5 D hD)⟩
end
end L2
namespace L2
open PySem PySem.Spec PyProof.Rows
noncomputable def Itz (K : PySem.W.Frag) (a b : Addr) : It :=
  ⟨fun i H => ∃ xs ys x y, SqT K H a xs ∧ SqT K H b ys ∧ xs[i]? = some x ∧ ys[i]? = some y,
   fun i H v H' => ∃ p x y, H p = none ∧ (∀ xs, SqT K H a xs → xs[i]? = some x) ∧ (∀ ys, SqT K H b ys → ys[i]? = some y) ∧ v = .ref p ∧ H' = upd H p (.tup [x, y]),
   fun i H => ∃ xs ys, SqT K H a xs ∧ SqT K H b ys ∧ (xs.length ≤ i ∨ ys.length ≤ i)⟩
section
variable {P : Program} {w : World} {K : PySem.W.Frag}
theorem turn_zip {elts : List Expr} {k : Nat} {pos : Pos} {z p r i j a b : Addr} (D : ZA z p r i j a b) : Turn P w K (.Tuple elts k pos) (Itz K a b) [z, p, r, i, j] z (fun n h => ZT z p r i j a b n .none h) where
  mem := by simp
  obj := fun n h T c hc => by
    obtain ⟨hz, hp, ⟨x, y, hr⟩, ⟨oi, hi, _, di⟩, ⟨oj, hj, _, dj⟩⟩ := T
    simp only [List.mem_cons, List.mem_nil_iff, or_false] at hc
    rcases hc with rfl | rfl | rfl | rfl | rfl
    · exact ⟨_, hz, fun v q => by cases q⟩
    · exact ⟨_, hp, fun v q => by cases q⟩
    · exact ⟨_, hr, fun v q => by cases q⟩
    · exact ⟨_, hi, fun v q => by rw [di] at q; cases q⟩
    · exact ⟨_, hj, fun v q => by rw [dj] at q; cases q⟩
  keep := fun n h h' T kk => by
    obtain ⟨hz, hp, ⟨x, y, hr⟩, hi, hj⟩ := T
    exact ⟨kk z (by simp) _ hz, kk p (by simp) _ hp, ⟨x, y, kk r (by simp) _ hr⟩, hi.at fun o e => kk i (by simp) o e, hj.at fun o e => kk j (by simp) o e⟩
  item := by
    intro X hP hw hK hc n pins s σ H E I hf T hg
    subst hP hw hK
    obtain ⟨xs, ys, x, y, qa, qb, ex, ey⟩ := hg
    obtain ⟨its, rv, pa, hza⟩ := I.tuple qa
    obtain ⟨its2, rv2, pb, hzb⟩ := I.tuple qb
    obtain ⟨ux, eux, rx⟩ := rv.get ex
    obtain ⟨uy, euy, ry⟩ := rv2.get ey
    refine zipT_item D T (show s.heap.IsTuple a its.toArray from pa) (show s.heap.IsTuple b its2.toArray from pb) (by simpa using eux) (by simpa using euy) fun h1 T1 t1 k1 => ⟨_, rfl, ?_⟩
    refine wpAny_letOwnedTupleGo_zip T1.hz fun h2 hz2 sb2 => ?_
    have lt : ∀ {c : Addr} {o : Obj}, s.heap.get? c = some o → c ≠ s.heap.objs.size := fun e => Nat.ne_of_lt (Heap.lt_size e)
    have hnew : H s.heap.objs.size = none := I.hok.fresh (Nat.le_refl _)
    have zne : z ≠ s.heap.objs.size := lt T.hz
    have keep : ∀ c o, c ≠ z → c ≠ r → c ≠ i → c ≠ j → s.heap.get? c = some o → h2.get? c = some o := fun c o c1 c2 c3 c4 e => sb2.extBut c o c1 (k1 c o c1 c2 c3 c4 e)
    have tn : h2.get? s.heap.objs.size = some { cls := .type "tuple", data := .seq #[ux, uy] } := sb2.extBut _ _ (Ne.symm zne) t1
    have inZ : ∀ c ∈ [z, r, i, j], c ∈ [z, p, r, i, j] := fun c hc => by
      simp only [List.mem_cons, List.mem_nil_iff, or_false] at hc ⊢
      rcases hc with h | h | h | h <;> simp [h]
    have notin : ∀ {c : Addr}, c ∉ [z, r, i, j] → c ≠ z ∧ c ≠ r ∧ c ≠ i ∧ c ≠ j := fun {c} hc => by
      simp only [List.mem_cons, List.mem_nil_iff, or_false, not_or] at hc
      exact hc
    have tracked : ∀ c u, H c = some u → c ∉ [z, r, i, j] := fun c u e hc => by
      rw [(hf c (inZ c hc)).1] at e; cases e
    refine ⟨.ref s.heap.objs.size, upd H s.heap.objs.size (.tup [x, y]), ?_, rfl, ⟨_, x, y, hnew, fun zs hz => by rw [I.tuple_inj hz qa]; exact ex, fun zs hz => by rw [I.tuple_inj hz qb]; exact ey, rfl, rfl⟩, ⟨hz2, ?_, ?_, ?_, ?_⟩, fun c hc => ?_⟩
    · show Inv X pins σ _ { s with heap := h2, gens := s.gens, drawn := s.drawn, toks := s.toks }
      refine I.step (g' := s.gens) (d' := s.drawn) (t' := s.toks) (ch := [z, r, i, j]) (fun c hc => ?_) (fun c o _ _ hc e _ => ?_) (fun c o _ _ hc e _ => ⟨o.slots, ?_⟩) (fun c o _ e n => ?_) (fun c o hc e => ⟨o, ?_⟩) (fun c xs e => ?_) (fun c o u e => ?_) (fun c ps e => ⟨#[], ?_⟩) (fun m hm => ?_) (fun c u e => ?_) I.bare
      · obtain ⟨_, f1, _, f3, f4, f5⟩ := hf c (inZ c hc)
        exact ⟨f3, f1, f4, f5⟩
      · obtain ⟨c1, c2, c3, c4⟩ := notin hc; exact keep c o c1 c2 c3 c4 e
      · obtain ⟨c1, c2, c3, c4⟩ := notin hc; exact keep c o c1 c2 c3 c4 e
      · rw [upd_ne (lt e)]; exact n
      · obtain ⟨c1, c2, c3, c4⟩ := notin hc; exact keep c o c1 c2 c3 c4 e
      · rw [upd_ne (ne_of_none e hnew)]; exact e
      · rw [upd_ne (ne_of_none e hnew)]; exact e
      · rw [upd_ne (ne_of_none e hnew), e]; simp
      · obtain ⟨o, es, ep, ho, rest⟩ := hm
        have nl : ∀ c ∈ [z, r, i, j], X.env.locals ≠ c := fun c hc => Ne.symm (hf c (inZ c hc)).2.1
        exact ⟨o, es, ep, keep _ o (nl z (by simp)) (nl r (by simp)) (nl i (by simp)) (nl j (by simp)) ho, rest⟩
      · by_cases hcs : c = s.heap.objs.size
        · subst hcs
          rw [upd_same] at e; cases e
          exact ⟨by show 2 ≤ sizeLine; decide, [ux, uy], .cons rx (.cons ry .nil), ⟨_, tn, rfl, _, rfl⟩⟩
        · rw [upd_ne hcs] at e
          refine (I.hok c u e).stay (fun c' v hc' q => ?_) (fun c' q => by rw [upd_ne (ne_of_none q hnew)]; exact q) fun c' xs q => by rw [upd_ne (ne_of_none q hnew)]; exact q
          have nt : c' ∉ [z, r, i, j] := by
            rcases hc' with rfl | hc'
            · exact tracked _ _ e
            · exact tracked _ _ hc'
          obtain ⟨c1, c2, c3, c4⟩ := notin nt
          exact keep c' v c1 c2 c3 c4 q
    · exact sb2.extBut _ _ D.zp T1.hp
    · obtain ⟨x', y', hr⟩ := T1.hr
      exact ⟨x', y', sb2.extBut _ _ D.zr hr⟩
    · exact T1.hi.extBut sb2.extBut D.zi
    · exact T1.hj.extBut sb2.extBut D.zj
    · obtain ⟨o, e, _⟩ : ∃ o, s.heap.get? c = some o ∧ True := by
        obtain ⟨hz, hp, ⟨x, y, hr⟩, ⟨oi, hi, _, di⟩, ⟨oj, hj, _, dj⟩⟩ := T
        simp only [List.mem_cons, List.mem_nil_iff, or_false] at hc
        rcases hc with rfl | rfl | rfl | rfl | rfl
        · exact ⟨_, hz, trivial⟩
        · exact ⟨_, hp, trivial⟩
        · exact ⟨_, hr, trivial⟩
        · exact ⟨_, hi, trivial⟩
        · exact ⟨_, hj, trivial⟩
      rw [upd_ne (lt e)]; exact (hf c hc).1
  done := by
    intro X hP hw hK hc n pins s σ H E I hf T hg
    subst hP hw hK
    obtain ⟨xs, ys, qa, qb, hl⟩ := hg
    obtain ⟨its, rv, pa, hza⟩ := I.tuple qa
    obtain ⟨its2, rv2, pb, hzb⟩ := I.tuple qb
    have la := rv.length
    have lb := rv2.length
    have hx : its.toArray[n]? = none ∨ its2.toArray[n]? = none := by
      rcases hl with h | h
      · exact .inl (by simp; (clear D hc I hf T qa qb rv pa hza rv2 pb hzb lb; omega))
      · exact .inr (by simp; (clear D hc I hf T qa qb rv pa hza rv2 pb hzb la; omega))
    refine zipT_end (I.ok.hd hc) D T (show s.heap.IsTuple a its.toArray from pa) (show s.heap.IsTuple b its2.toArray from pb) hx fun h' k1 => ⟨rfl, ?_⟩
    have inZ : ∀ c ∈ [z, r, i, j], c ∈ [z, p, r, i, j] := fun c hc => by
      simp only [List.mem_cons, List.mem_nil_iff, or_false] at hc ⊢
      rcases hc with h | h | h | h <;> simp [h]
    have notin : ∀ {c : Addr}, c ∉ [z, r, i, j] → c ≠ z ∧ c ≠ r ∧ c ≠ i ∧ c ≠ j := fun {c} hc => by
      simp only [List.mem_cons, List.mem_nil_iff, or_false, not_or] at hc
      exact hc
    have tracked : ∀ c u, H c = some u → c ∉ [z, r, i, j] := fun c u e hc => by
      rw [(hf c (inZ c hc)).1] at e; cases e
    have kk : ∀ c o, c ∉ [z, r, i, j] → s.heap.get? c = some o → h'.get? c = some o := fun c o hc e => by
      obtain ⟨c1, c2, c3, c4⟩ := notin hc; exact k1 c o c1 c2 c3 c4 e
    refine I.step (g' := s.gens) (d' := s.drawn) (t' := s.toks) (ch := [z, r, i, j]) (fun c hc => ?_) (fun c o _ _ hc e _ => kk c o hc e) (fun c o _ _ hc e _ => ⟨o.slots, kk c o hc e⟩) (fun _ _ _ _ n => n) (fun c o hc e => ⟨o, kk c o hc e⟩) (fun _ _ e => e) (fun _ _ _ e => e) (fun c ps e => ⟨#[], by rw [e]; simp⟩) (fun m hm => ?_) (fun c u e => ?_) I.bare
    · obtain ⟨_, f1, _, f3, f4, f5⟩ := hf c (inZ c hc)
      exact ⟨f3, f1, f4, f5⟩
    · obtain ⟨o, es, ep, ho, rest⟩ := hm
      have nl : X.env.locals ∉ [z, r, i, j] := fun hc => (hf _ (inZ _ hc)).2.1 rfl
      exact ⟨o, es, ep, kk _ o nl ho, rest⟩
    · refine (I.hok c u e).stay (fun c' v hc' q => kk c' v ?_ q) (fun _ q => q) fun _ _ q => q
      rcases hc' with rfl | hc'
      · exact tracked _ _ e
      · exact tracked _ _ hc'
  self := fun _ _ _ _ _ T h => wpAny_pyIter_zip T.hz h
end
noncomputable def zipW : List W → List W → List W
  | x :: xs, y :: ys => .tup [x, y] :: zipW xs ys
  | _, _ => []
theorem zipW_get : ∀ {xs ys : List W} {i : Nat} {w : W}, (zipW xs ys)[i]? = some w → ∃ x y, xs[i]? = some x ∧ ys[i]? = some y ∧ w = .tup [x, y]
  | [], _, _, _, e => by simp [zipW] at e
  | _ :: _, [], _, _, e => by simp [zipW] at e
  | x :: xs, y :: ys, 0, w, e => by simp [zipW] at e; exact ⟨x, y, rfl, rfl, e.symm⟩
  | x :: xs, y :: ys, i + 1, w, e => by
    obtain ⟨a, b, h1, h2, h3⟩ := zipW_get (xs := xs) (ys := ys) (i := i) (w := w) (by simpa [zipW] using e)
    exact ⟨a, b, by simpa using h1, by simpa using h2, h3⟩
theorem zipW_length : ∀ (xs ys : List W), (zipW xs ys).length = min xs.length ys.length
  | [], _ => by simp [zipW]
  | _ :: _, [] => by simp [zipW]
  | _ :: xs, _ :: ys => by simp only [zipW, List.length_cons, zipW_length xs ys]; omega
section
variable {X : Cx}
theorem itn_zip {K : PySem.W.Frag} {a b : Addr} {ws us : List W} {xs ys : List V} {H : Hp} (ha : H a = some (.tup xs)) (hb : H b = some (.tup ys)) (ra : Reps K H ws xs) (rb : Reps K H us ys) : Itn K (Itz K a b) (zipW ws us) (fun _ => True) H where
  stop := fun i H1 G t g _ hl => ⟨xs, ys, SqT.of (t.tup _ _ ha), SqT.of (t.tup _ _ hb), by
    rw [zipW_length] at hl
    rw [← ra.length, ← rb.length]
    (clear ha hb ra rb t g; omega)⟩
  go := fun i w H1 G t g _ e => by
    obtain ⟨x, y, ex, ey, rfl⟩ := zipW_get e
    obtain ⟨vx, e1, r1⟩ := ra.get ex
    obtain ⟨vy, e2, r2⟩ := rb.get ey
    refine ⟨⟨xs, ys, vx, vy, SqT.of (t.tup _ _ ha), SqT.of (t.tup _ _ hb), e1, e2⟩, fun v H' ⟨p, x', y', hp, h1, h2, ev, eH⟩ => ?_⟩
    have z1 := h1 _ (SqT.of (t.tup _ _ ha))
    have z2 := h2 _ (SqT.of (t.tup _ _ hb))
    rw [e1] at z1; cases z1
    rw [e2] at z2; cases z2
    subst ev eH
    have tn := TLe.new hp (HO.tup [vx, vy])
    exact ⟨tn, .tup upd_same (.cons ((r1.mono t).mono tn) (.cons ((r2.mono t).mono tn) .nil)), g.keep hp _⟩
noncomputable def jZip (ta : WA) : WI := fun τ G r => ta τ G fun ws G1 => match ws with
  | [.tup xs, .tup ys] => r (zipW xs ys) (fun _ => True) G1
  | _ => False
theorem boot_zip : bootBuiltins "zip" = some (.type "zip") := by decide +kernel
theorem qi_zip {elts : List Expr} {k : Nat} {tp : Pos} {a b : Expr} {ta : WA} {p pos : Pos} (hg : Gl X "zip") (hm : X.mg "zip" = none) (ha : QA X [a, b] ta) (hs : starEach [a, b] X.env = [(false, eval a X.env), (false, eval b X.env)] := by rfl) (hs2 : starEach [b] X.env = [(false, eval b X.env)] := by rfl) :
    QI X (.Tuple elts k tp) (.Call (.Name "zip" p) [a, b] [] pos) (jZip ta) := by
  intro pins s σ H R I ⟨τ, G, r, hτ, hG, ht, hR⟩
  refine Call_ (ld_blt I hg hm boot_zip (PyProof.Rows.callWith_type1 (thn (ha pos pins s σ H (fun vs H1 => ∃ ws G1, TLe H H1 ∧ Reps X.K H1 ws vs ∧ RelG X.K H1 G1 ∧ match ws with | [.tup xs, .tup ys] => r (zipW xs ys) (fun _ => True) G1 | _ => False) I ⟨τ, G, _, hτ, hG, ht, fun vs H1 ws G1 t1 r1 g1 q1 => ⟨ws, G1, t1, r1, g1, q1⟩⟩) fun us s1 ⟨vs, H1, I1, ru, ws, G1, t1, r1, g1, q1⟩ => ?_) (by rw [hs, hs2]) (by rw [hs2]; rfl)))
  split at q1
  · rename_i xs ys
    obtain ⟨v1, v2, rfl, ra, rb⟩ := r1.two
    cases ra with
    | @tup pa _ xs' ha' ra =>
      cases rb with
      | @tup pb _ ys' hb' rb =>
        obtain ⟨u1, u2, rfl, w1, w2⟩ := vals2 ru
        cases (show u1 = Value.ref pa from w1)
        cases (show u2 = Value.ref pb from w2)
        obtain ⟨its, _, p1, _⟩ := I1.tuple (SqT.of ha')
        obtain ⟨its2, _, p2, _⟩ := I1.tuple (SqT.of hb')
        refine call_zipT (show s1.heap.IsTuple pa its.toArray from p1) (show s1.heap.IsTuple pb its2.toArray from p2) fun h' T kk => ?_
        refine wpAny_pyIter_zip T.hz ?_
        have I2 : Inv X pins σ H1 { s1 with heap := h' } := I1.kept (t' := s1.toks) kk
        refine ⟨_, [s1.heap.objs.size + 4, s1.heap.objs.size + 2, s1.heap.objs.size + 3, s1.heap.objs.size, s1.heap.objs.size + 1], _, _, H1, rfl, I2, turn_zip (za_new p1.lt p2.lt), T, fun c hc => ?_, hR _ H1 _ _ G1 t1 g1 (itn_zip ha' hb' ra rb) q1⟩
        have hle : s1.heap.objs.size ≤ c := by
          simp only [List.mem_cons, List.mem_nil_iff, or_false] at hc
          rcases hc with rfl | rfl | rfl | rfl | rfl
          · exact Nat.le_add_right _ _
          · exact Nat.le_add_right _ _
          · exact Nat.le_add_right _ _
          · exact Nat.le_refl _
          · exact Nat.le_add_right _ _
        exact I1.fpOk hle (I1.hok.fresh hle)
  · exact q1.elim
noncomputable def wNeg (te : WE) : WE := fun τ G q => te τ G fun x G1 => match x with | .int i => q (.int (-i)) G1 | _ => False
theorem qe_neg {a : Expr} {ta : WE} {pos : Pos} (ha : QE X a ta) : QE X (.UnaryOp .USub a pos) (wNeg ta) :=
  (pe_un un_neg ha).imp fun σ H Q z0 => z0.el fun τ G q hs hg ht hQ => ⟨τ, G, _, hs, hg, ht, fun v H1 w G1 t1 r1 g1 q1 => by
    split at q1
    · cases r1
      exact ⟨_, rfl, hQ _ H1 _ G1 t1 (.int _) g1 q1⟩
    · exact q1.elim⟩
noncomputable def Fx (P : Program) (w : World) (K : PySem.W.Frag) (mg : Str → Option Value) (base : Heap) (x : Str) (ps : List Str) (k : Nat) (sp : WSp) : Prop :=
  ∃ (f : Addr) (fd : FuncData), WFn P w K mg base k f fd ps sp ∧ mg x = some (.ref f) ∧ PySem.W.keepIn K (.ref f) = true ∧ Binds K fd ps []
theorem qe_fx {x : Str} {ps : List Str} {k : Nat} {sp : WSp} {p pos : Pos} {e : Expr} {es : List Expr} {t : WA} (F : Fx X.prog X.w X.K X.mg X.base x ps k sp) (hr : Room k X.A) (hg : Gl X x) (ha : QA X (e :: es) t) (hdb : (x == ("__debug__" : Str)) = false := by decide)
    (he : starEach (e :: es) X.env = (false, eval e X.env) :: starEach es X.env := by rfl) (hpl : (backTo pos (starEach es X.env)).any (·.1) = false := by rfl) : QE X (.Call (.Name x p) (e :: es) [] pos) (wCall sp [] t) := by
  obtain ⟨f, fd, h1, h2, h3, h4⟩ := F
  exact qe_call h1 hr hg h2 h3 h4 ha hdb he hpl
noncomputable def compN (scope : Scope) : List Str := scope.names.map (·.1)
noncomputable def compFv (N : List Str) (scope : Scope) : List (Option Nat) := scope.names.map fun y => if y.2 == .free then N.findIdx? (· == y.1) else none
noncomputable def compOk (outer scope : Scope) : Bool :=
  scope.kind == .function && scope.names.all (fun y => y.2 != .cell) && scope.names.all (fun y => y.2 != .local || scope.names.lookup y.1 == some .local) &&
    scope.names.all (fun y => y.2 != .free || (outer.names.lookup y.1 == some .cell && scope.names.lookup y.1 != some .local))
theorem compSc {scope : Scope} (h : compOk X.env.scope scope = true) : CompSc X scope (compN scope) (compFv X.N scope) := by
  unfold compOk at h
  simp only [Bool.and_eq_true, List.all_eq_true, Bool.or_eq_true, bne_iff_ne, beq_iff_eq, ne_eq] at h
  obtain ⟨⟨⟨h1, h2⟩, h3⟩, h4⟩ := h
  refine ⟨h1, h2, fun x hx hk => (h3 x hx).resolve_left fun z => z hk, fun y hy hk => ((h4 y hy).resolve_left fun z => z hk).1, fun i j x e1 e2 => ?_, by simp [compN, compFv], fun {x} hx => ((h4 _ hx).resolve_left fun z => z rfl).2⟩
  unfold compN at e1
  unfold compFv at e2
  rw [List.getElem?_map] at e1 e2
  cases e : scope.names[i]? with
  | none => rw [e] at e1; cases e1
  | some y =>
    rw [e] at e1 e2
    have e1' : y.1 = x := Option.some.inj e1
    have e2' : (if (y.2 == NameKind.free) = true then X.N.findIdx? (· == y.1) else none) = some j := Option.some.inj e2
    have hm : y ∈ scope.names := List.mem_of_getElem? e
    split at e2'
    · rename_i hk
      have hk' : y.2 = .free := by simpa using hk
      have hy : y = (x, NameKind.free) := by rw [← e1', ← hk']
      have := List.findIdx?_eq_some_iff_getElem.mp e2'
      obtain ⟨hj, hj2, _⟩ := this
      refine ⟨?_, ?_, hy ▸ hm⟩
      · rw [List.getElem?_eq_getElem hj]
        have : X.N[j] = y.1 := by simpa using hj2
        rw [this, e1']
      · have := ((h4 y hm).resolve_left fun z => z hk').1
        rw [e1'] at this
        exact this
    · cases e2'
theorem qg_nameB (i : Nat) {N : List Str} {scope : Scope} {C : Addr} {fp : List Addr} {s2 : Shared} {H2 : Hp} {x : Str} {pos : Pos} (hN : N.Nodup) (hi : N[i]? = some x) (hx : Loc (bCx X N scope C fp s2 H2).env.scope x) (hf : (bCx X N scope C fp s2 H2).fn x = true ∨ (bCx X N scope C fp s2 H2).env.scope.names.lookup x = some .local := by first | exact .inl rfl | exact .inr rfl) :
    QG (bCx X N scope C fp s2 H2) (.Name x pos) (hName i) := qg_name (X := bCx X N scope C fp s2 H2) i hN hi hx hf
theorem b_tuple : bootBuiltins "tuple" = some (.type "tuple") := by decide +kernel
theorem b_list : bootBuiltins "list" = some (.type "list") := by decide +kernel
theorem b_max : bootBuiltins "max" = some (.builtin "max") := by decide +kernel
theorem bodyOf {body : List Stmt} {R : WS → Prop} {t : WS} (h : QSs X body t) (g : R t) : ∃ t, QSs X body t ∧ R t := ⟨t, h, g⟩
end
end L2
namespace L2
open PySem PySem.Spec PyProof.Rows
mutual
noncomputable def W.lt : W → W → Bool
  | .int i, .int j => decide (i < j)
  | .tup xs, .tup ys => W.lts xs ys
  | _, _ => false
noncomputable def W.lts : List W → List W → Bool
  | [], [] => false
  | [], _ :: _ => true
  | _ :: _, [] => false
  | x :: xs, y :: ys => if W.eq x y = true then W.lts xs ys else W.lt x y
end
mutual
noncomputable def W.ord : W → W → Bool
  | .int _, .int _ => true
  | .tup xs, .tup ys => W.ords xs ys
  | _, _ => false
noncomputable def W.ords : List W → List W → Bool
  | x :: xs, y :: ys => if W.eq x y = true then W.ords xs ys else W.ord x y
  | _, _ => true
end
noncomputable def LtAt (A : Around) (s : Shared) (y x : Value) (b : Bool) : Prop :=
  ∀ (prog : Program) (w : World) (E : Value → Shared → Prop) (Q : Value → Shared → Prop), Q (.bool b) s → wpAny (model prog w) A (richCompare .Lt y x) Q E s
inductive CmpL (A : Around) (s : Shared) : List Value → List Value → Bool → Prop where
  | nn : CmpL A s [] [] false
  | nc {y : Value} {ys : List Value} : CmpL A s [] (y :: ys) true
  | cn {x : Value} {xs : List Value} : CmpL A s (x :: xs) [] false
  | eq {x y : Value} {xs ys : List Value} {r : Bool} (h : SeqAt.EqAt A s x y true) (t : CmpL A s xs ys r) : CmpL A s (x :: xs) (y :: ys) r
  | ne {x y : Value} {xs ys : List Value} {r : Bool} (h : SeqAt.EqAt A s x y false) (t : LtAt A s x y r) : CmpL A s (x :: xs) (y :: ys) r
section
open PySem.SeqAt
open PySem.AutoSeq1 (wpAny_loadPart')
open PySem.MeetsSeq PySem.MeetsSeq2 PySem.MeetsSeq3
theorem tuple_ltAt (l b : Addr) (items items2 : Array Value) (n n2 : Nat) (dd dd2 : Option Addr) (sl sl2 : Array (Option Value)) (r : Bool) :
    Meets (Builtin.«tuple.__lt__» ⟨[.ref l, .ref b], []⟩)
      (fun A R s => s.heap.get? l = some { cls := .type "tuple", dict := dd, data := .seq items n, slots := sl } ∧ s.heap.get? b = some { cls := .type "tuple", dict := dd2, data := .seq items2 n2, slots := sl2 } ∧
        CmpL A.in1 s items.toList items2.toList r ∧ R (.ok (.ret (.bool r))) s) :=
  .of_wp fun prog w A R s h => by
    obtain ⟨hp, g, d, tk, os⟩ := s; obtain ⟨hl, hb, hc, h⟩ := h
    have f2 := AutoSeq1.sub_tuple_tuple
    wp_walk using wpAny_loadPart' hl, wpAny_loadPart' hb, wpAny_forIn_list _ (fun rest b s' => b.1 = none ∧ s' = ⟨hp, g, d, tk, os⟩ ∧ ∃ (vs ws : List Value), rest = vs.zip ws ∧
      CmpL A.in1 ⟨hp, g, d, tk, os⟩ vs ws r ∧ vs.length + items2.size = ws.length + items.size) _
    case turn =>
      rintro ⟨y, x⟩ rest b s' ⟨hb', rfl, vs, ws, hz, hC, hlen⟩
      cases hC with
      | nn => rw [List.zip_nil_left] at hz; cases hz
      | nc => rw [List.zip_nil_left] at hz; cases hz
      | cn => rw [List.zip_nil_right] at hz; cases hz
      | eq he ht =>
        rw [List.zip_cons_cons] at hz
        injection hz with hyx hrest
        injection hyx with hy hx
        subst hy hx
        simp only [List.length_cons] at hlen
        refine wpAny_bind (he prog w _ _ ?_)
        wp_walk
        exact ⟨rfl, rfl, _, _, hrest, ht, by (clear hl hb hc h f2 hb' ht hrest he; omega)⟩
      | ne he ht =>
        rw [List.zip_cons_cons] at hz
        injection hz with hyx hrest
        injection hyx with hy hx
        subst hy hx
        refine wpAny_bind (he prog w _ _ ?_)
        have hri := ht prog w
        wp_walk using hri
        exact ⟨_, rfl, by simpa using h⟩
    case fin =>
      rintro ⟨b1, b2⟩ s' ⟨hb', rfl, vs, ws, hz, hC, hlen⟩
      simp only at hb'
      subst hb'
      have hv : r = decide (items.size < items2.size) := by
        cases hC with
        | nn => simp only [List.length_nil] at hlen; exact (decide_eq_false (by (clear hl hb f2 hz hc h; omega))).symm
        | nc => simp only [List.length_nil, List.length_cons] at hlen; exact (decide_eq_true (by (clear hl hb f2 hz hc h; omega))).symm
        | cn => simp only [List.length_nil, List.length_cons] at hlen; exact (decide_eq_false (by (clear hl hb f2 hz hc h; omega))).symm
        | eq he ht => rw [List.zip_cons_cons] at hz; cases hz
        | ne he ht => rw [List.zip_cons_cons] at hz; cases hz
      rw [hv] at h
      wp_walk
      exact ⟨_, rfl, by simpa [Builtin.Tuple.tupleCompareSizes] using h⟩
    case h =>
      exact ⟨rfl, rfl, _, _, rfl, hc, by simp; (clear hl hb hc h f2; omega)⟩
end
theorem LtAt.tuples {A : Around} {s : Shared} {l b : Addr} {items items2 : Array Value} {r : Bool} (hl : s.heap.IsTuple l items) (hb : s.heap.IsTuple b items2) (hu : A.units < cLine)
    (hc : CmpL A.in1 s items.toList items2.toList r) : LtAt A s (.ref l) (.ref b) r := fun prog w E Q h => by
  obtain ⟨⟨cls, dd, data, sl⟩, ho, hcl, n, hd⟩ := id hl
  obtain ⟨⟨cls2, dd2, data2, sl2⟩, ho2, hc2, n2, hd2⟩ := id hb
  simp only at hcl hd hc2 hd2
  subst hcl hd hc2 hd2
  exact richCompare_meets_room (op := .Lt) ⟨_, ho, rfl⟩ ⟨_, ho2, rfl⟩ PySem.F.slot_tuple_lt PySem.F.entry_tuple_lt (PySem.F.args_tuple_lt_2 _ _) (tuple_ltAt l b items items2 n n2 dd dd2 sl sl2 r)
    ⟨ho, ho2, hc, show Value.bool r ≠ Value.notImplemented ∧ Q (.bool r) s from ⟨(fun x => nomatch x), h⟩⟩ hu
section
variable {X : Cx} {pins : List (Addr × Obj)} {σ : St} {H : Hp} {s : Shared}
theorem ltL_rep (I : Inv X pins σ H s) (n : Nat) (A : Around)
    (ih : ∀ {w1 w2 : W} {v1 v2 : V} {u1 u2 : Value}, w1.dep < n → w1.flat = true → w2.flat = true → W.ord w1 w2 = true → Rep X.K H w1 v1 → Rep X.K H w2 v2 → RelV v1 u1 → RelV v2 u2 → LtAt A s u1 u2 (w1.lt w2)) (hu : A.units + n < cLine) :
    ∀ {ws us : List W} {xs ys : List V} {its its2 : List Value}, W.deps ws < n → W.flats ws = true → W.flats us = true → W.ords ws us = true → Reps X.K H ws xs → Reps X.K H us ys → Vals xs its → Vals ys its2 → CmpL A s its its2 (W.lts ws us) := by
  intro ws
  induction ws with
  | nil =>
    intro us xs ys its its2 hd f1 f2 ho r1 r2 q1 q2
    cases r1
    cases q1
    cases r2 with
    | nil => cases q2; simpa [W.lts] using CmpL.nn
    | cons _ _ => cases q2; simpa [W.lts] using CmpL.nc
  | cons x xs IH =>
    intro us vs1 vs2 its its2 hd f1 f2 ho r1 r2 q1 q2
    cases r1 with
    | cons r1 s1 =>
      cases q1 with
      | cons q1 t1 =>
        cases r2 with
        | nil => cases q2; simpa [W.lts] using CmpL.cn
        | @cons y ys _ _ r2 s2 =>
          cases q2 with
          | cons q2 t2 =>
            simp only [W.deps] at hd
            simp only [W.flats, Bool.and_eq_true] at f1 f2
            have e := (eq_rep I n A (w1 := x) (w2 := y) (by (clear I ih hu IH r1 s1 q1 t1 r2 s2 ho q2 t2 f1 f2; omega)) f1.1 f2.1 hu r1 r2 q1 q2).1
            rw [W.ords] at ho
            rw [W.lts]
            cases he : W.eq x y with
            | true =>
              rw [he] at e ho
              rw [if_pos rfl] at ho ⊢
              exact .eq e (IH (by (clear I ih hu IH r1 s1 q1 t1 r2 s2 ho q2 t2 f1 f2 e he; omega)) f1.2 f2.2 ho s1 s2 t1 t2)
            | false =>
              rw [he] at e ho
              rw [if_neg Bool.false_ne_true] at ho ⊢
              exact .ne e (ih (by (clear I ih hu IH r1 s1 q1 t1 r2 s2 ho q2 t2 f1 f2 e he; omega)) f1.1 f2.1 ho r1 r2 q1 q2)
theorem lt_rep (I : Inv X pins σ H s) : ∀ (n : Nat) (A : Around) {w1 w2 : W} {v1 v2 : V} {u1 u2 : Value}, w1.dep < n → w1.flat = true → w2.flat = true → W.ord w1 w2 = true → A.units + n < cLine → Rep X.K H w1 v1 → Rep X.K H w2 v2 → RelV v1 u1 → RelV v2 u2 →
    LtAt A s u1 u2 (w1.lt w2) := by
  intro n
  induction n with
  | zero => intro A w1 w2 v1 v2 u1 u2 h; (clear I; omega)
  | succ n ih =>
    intro A w1 w2 v1 v2 u1 u2 hd f1 f2 ho hu r1 r2 q1 q2
    cases r1 with
    | ref a => simp [W.flat] at f1
    | scr a => simp [W.flat] at f1
    | non => simp [W.ord] at ho
    | bl b => simp [W.ord] at ho
    | str b => simp [W.ord] at ho
    | int a =>
      cases r2 with
      | int b =>
        obtain ⟨t, rfl⟩ := q1
        obtain ⟨t', rfl⟩ := q2
        rw [W.lt]
        exact fun prog w E Q h => HT.rcLt_int A s a t b t' prog w E Q h
      | _ => simp [W.ord] at ho
    | @tup a ws xs h r =>
      cases r2 with
      | @tup b us ys h2 r2 =>
        cases (show u1 = Value.ref _ from q1)
        cases (show u2 = Value.ref _ from q2)
        obtain ⟨its, rv, p, _⟩ := Inv.tupH I h
        obtain ⟨its2, rv2, p2, _⟩ := Inv.tupH I h2
        have g1 : W.flats ws = true := by simpa [W.flat] using f1
        have g2 : W.flats us = true := by simpa [W.flat] using f2
        have ho' : W.ords ws us = true := by simpa [W.ord] using ho
        have hd' : W.deps ws < n := by simp only [W.dep] at hd; (clear I ih hu h r f1 h2 r2 f2 ho q1 q2 rv p rv2 p2 g1 g2 ho'; omega)
        have hui : A.in1.units + n < cLine := by show A.units + 1 + n < cLine; (clear I ih h r hd f1 h2 r2 f2 ho q1 q2 rv p rv2 p2 g1 g2 ho' hd'; omega)
        rw [W.lt]
        exact LtAt.tuples p p2 (by (clear I ih h r hd f1 h2 r2 f2 ho q1 q2 rv p rv2 p2 g1 g2 ho' hd' hui; omega)) (ltL_rep I n A.in1 (fun h1 h2 h3 h4 => ih A.in1 h1 h2 h3 h4 hui) hui hd' g1 g2 ho' r r2 rv rv2)
      | _ => simp [W.ord] at ho
end
section
variable {X : Cx}
noncomputable def rLt3 : W2 := fun x y G q => match x, y with
  | .int i, .int j => q (.bl (decide (i < j))) G
  | .tup xs, .tup ys => W.flats xs = true ∧ W.flats ys = true ∧ W.deps xs ≤ 149 ∧ W.ords xs ys = true ∧ q (.bl (W.lts xs ys)) G
  | _, _ => False
theorem q_lt3 {k : Nat} (hr : Room k X.A) : QOp X (compareOp .Lt) rLt3 := by
  intro pins s σ H x y v u Q I rx ry ⟨wx, wy, G, q, r1, r2, g, h, hQ⟩
  unfold rLt3 at h
  split at h
  · cases r1
    cases r2
    exact op_lt pins s σ H _ _ v u Q I rx ry ⟨_, _, rfl, rfl, hQ _ H _ G (TLe.refl H) (.bl _) g h⟩
  · rename_i xs ys
    obtain ⟨f1, f2, hd, ho, h⟩ := h
    have z := lt_rep I 151 X.A (w1 := .tup xs) (w2 := .tup ys) (by simp only [W.dep]; (clear hr I rx ry g hQ r1 r2 f1 f2 ho h; omega)) (by simpa [W.flat] using f1) (by simpa [W.flat] using f2) (by simpa [W.ord] using ho) (by have := hr.un; (clear hr I rx ry g hQ r1 r2 f1 f2 hd ho h; omega)) r1 r2 rx ry
    rw [W.lt] at z
    exact z X.prog X.w X.xe _ ⟨.bl _, H, I, rfl, hQ _ H _ G (TLe.refl H) (.bl _) g h⟩
  · exact h.elim
end
end L2
namespace L2
open PySem PySem.Spec PyProof.Rows
section
variable {X : Cx}
end
end L2
namespace L2
open PySem PySem.Spec PyProof.Rows
section
variable {X : Cx} {pins : List (Addr × Obj)} {σ : St} {H : Hp} {s : Shared}
theorem eqJ (I : Inv X pins σ H s) {n : Nat} {A : Around} {ws us : List W} {xs ys : List V} {its its2 : List Value} (hd : W.deps ws < n) (g1 : W.flats ws = true) (g2 : W.flats us = true) (hu : A.in1.units + n < cLine) (r : Reps X.K H ws xs) (r2 : Reps X.K H us ys) (rv : Vals xs its) (rv2 : Vals ys its2) :
    ∀ j (h1 : j < its.toArray.size) (h2 : j < its2.toArray.size), SeqAt.EqAt A.in1 s its.toArray[j] its2.toArray[j] (eqAtJ ws us j) := fun j j1 j2 => by
  have e1 : its.length = ws.length := by rw [← rv.length, r.length]
  have e2 : its2.length = us.length := by rw [← rv2.length, r2.length]
  rw [List.size_toArray] at j1 j2
  have ea : ws[j]? = some ws[j] := List.getElem?_eq_getElem (by (clear I hd g1 g2 hu r r2 rv rv2 j2 e2; omega))
  have eb : us[j]? = some us[j] := List.getElem?_eq_getElem (by (clear I hd g1 g2 hu r r2 rv rv2 j1 e1 ea; omega))
  obtain ⟨va, ea1, ra⟩ := r.get ea
  obtain ⟨vb, eb1, rb⟩ := r2.get eb
  obtain ⟨ua, ea2, qa⟩ := rv.get ea1
  obtain ⟨ub, eb2, qb⟩ := rv2.get eb1
  have za : its.toArray[j] = ua := by
    have := (List.getElem?_eq_some_iff.mp ea2).2
    simpa using this
  have zb : its2.toArray[j] = ub := by
    have := (List.getElem?_eq_some_iff.mp eb2).2
    simpa using this
  rw [za, zb]
  have := (eq_rep I n A.in1 (w1 := ws[j]) (w2 := us[j]) (Nat.lt_of_le_of_lt (W.deps_get ea) hd) (W.flats_get g1 ea) (W.flats_get g2 eb) hu ra rb qa qb).1
  unfold eqAtJ
  rw [ea, eb]
  exact this
theorem eqs_len {ws us : List W} (h : ws.length ≠ us.length) : W.eqs ws us = false := by
  cases e : W.eqs ws us with
  | false => rfl
  | true => exact absurd ((W.eqs_iff ws us).mp e).1 h
end
section
variable {X : Cx}
noncomputable def rEq4 : W2 := fun x y G q => match x, y with
  | .ref a, .ref b => ∃ xs ys, G a = some (.lst xs) ∧ G b = some (.lst ys) ∧ W.flats xs = true ∧ W.flats ys = true ∧ W.deps xs ≤ 149 ∧ q (.bl (W.eqs xs ys)) G
  | x, y => rEq3 x y G q
noncomputable def rNe4 : W2 := fun x y G q => match x, y with
  | .ref a, .ref b => ∃ xs ys, G a = some (.lst xs) ∧ G b = some (.lst ys) ∧ W.flats xs = true ∧ W.flats ys = true ∧ W.deps xs ≤ 149 ∧ q (.bl (!(W.eqs xs ys))) G
  | x, y => rNe3 x y G q
theorem q_eq4 {k : Nat} (hr : Room k X.A) : QOp X (compareOp .Eq) rEq4 := by
  intro pins s σ H x y v u Q I rx ry ⟨wx, wy, G, q, r1, r2, g, h, hQ⟩
  unfold rEq4 at h
  split at h
  · obtain ⟨ws, us, ea, eb, f1, f2, hd, h⟩ := h
    cases r1
    cases r2
    cases rx
    cases ry
    obtain ⟨_, xs, e1, ra⟩ := g _ _ ea
    obtain ⟨_, ys, e2, rb⟩ := g _ _ eb
    obtain ⟨its, rv, p, _⟩ := I.list (SqL.of e1)
    obtain ⟨its2, rv2, p2, _⟩ := I.list (SqL.of e2)
    have l1 : its.length = ws.length := by rw [← rv.length, ra.length]
    have l2 : its2.length = us.length := by rw [← rv2.length, rb.length]
    have hu := hr.un
    have fin : EP X pins σ Q (.bool (W.eqs ws us)) s := ⟨.bl _, H, I, rfl, hQ _ H _ G (TLe.refl H) (.bl _) g h⟩
    by_cases hl : ws.length = us.length
    · have c1 := SeqAt.RcAt.lists p.isList p2.isList (by rw [List.size_toArray, List.size_toArray, l1, l2, hl]) (A := X.A) (by (clear hr I g hQ ea eb f1 f2 hd h e1 ra e2 rb rv p rv2 p2 l1 l2 fin hl; omega)) (eqJ I (n := 150) (by (clear hr I g hQ ea eb f1 f2 h e1 ra e2 rb rv p rv2 p2 l1 l2 hu fin hl; omega)) f1 f2 (by show X.A.units + 1 + 150 < cLine; (clear hr I g hQ ea eb f1 f2 hd h e1 ra e2 rb rv p rv2 p2 l1 l2 fin hl; omega)) ra rb rv rv2)
      have er := eqs_range ws us
      rw [← hl, Nat.min_self, beq_self_eq_true, Bool.and_true] at er
      rw [List.size_toArray, l1, er] at c1
      exact c1 X.prog X.w X.xe _ fin
    · rw [eqs_len hl] at fin
      exact SeqAt.RcAt.lists_lengths p.isList p2.isList (by rw [List.size_toArray, List.size_toArray, l1, l2]; simpa using hl) (A := X.A) (by (clear hr I g hQ ea eb f1 f2 hd h e1 ra e2 rb rv p rv2 p2 l1 l2 fin hl; omega)) X.prog X.w X.xe _ fin
  · exact q_eq hr pins s σ H x y v u Q I rx ry ⟨wx, wy, G, q, r1, r2, g, h, hQ⟩
theorem q_ne4 {k : Nat} (hr : Room k X.A) : QOp X (compareOp .NotEq) rNe4 := by
  intro pins s σ H x y v u Q I rx ry ⟨wx, wy, G, q, r1, r2, g, h, hQ⟩
  unfold rNe4 at h
  split at h
  · obtain ⟨ws, us, ea, eb, f1, f2, hd, h⟩ := h
    cases r1
    cases r2
    cases rx
    cases ry
    obtain ⟨_, xs, e1, ra⟩ := g _ _ ea
    obtain ⟨_, ys, e2, rb⟩ := g _ _ eb
    obtain ⟨its, rv, p, _⟩ := I.list (SqL.of e1)
    obtain ⟨its2, rv2, p2, _⟩ := I.list (SqL.of e2)
    have l1 : its.length = ws.length := by rw [← rv.length, ra.length]
    have l2 : its2.length = us.length := by rw [← rv2.length, rb.length]
    have hu := hr.un
    have fin : EP X pins σ Q (.bool (!(W.eqs ws us))) s := ⟨.bl _, H, I, rfl, hQ _ H _ G (TLe.refl H) (.bl _) g h⟩
    by_cases hl : ws.length = us.length
    · have c1 := SeqAt.RcNeAt.lists p.isList p2.isList (by rw [List.size_toArray, List.size_toArray, l1, l2, hl]) (A := X.A) (by (clear hr I g hQ ea eb f1 f2 hd h e1 ra e2 rb rv p rv2 p2 l1 l2 fin hl; omega)) (eqJ I (n := 150) (by (clear hr I g hQ ea eb f1 f2 h e1 ra e2 rb rv p rv2 p2 l1 l2 hu fin hl; omega)) f1 f2 (by show X.A.units + 1 + 150 < cLine; (clear hr I g hQ ea eb f1 f2 hd h e1 ra e2 rb rv p rv2 p2 l1 l2 fin hl; omega)) ra rb rv rv2)
      have er := eqs_range ws us
      rw [← hl, Nat.min_self, beq_self_eq_true, Bool.and_true] at er
      rw [List.size_toArray, l1, er] at c1
      exact c1 X.prog X.w X.xe _ fin
    · rw [eqs_len hl] at fin
      exact SeqAt.RcNeAt.lists_lengths p.isList p2.isList (by rw [List.size_toArray, List.size_toArray, l1, l2]; simpa using hl) (A := X.A) (by (clear hr I g hQ ea eb f1 f2 hd h e1 ra e2 rb rv p rv2 p2 l1 l2 fin hl; omega)) X.prog X.w X.xe _ fin
  · exact q_ne hr pins s σ H x y v u Q I rx ry ⟨wx, wy, G, q, r1, r2, g, h, hQ⟩
end
end L2
namespace L2
open PySem PySem.Spec PyProof.Rows
structure CR3 (lo hi c : Int) : Prop where
  c0 : 0 < c
  c1 : c < 1000
  l0 : -(2 ^ 40) ≤ lo
  l1 : lo < 2 ^ 40
  h0 : -(2 ^ 40) ≤ hi
  h1 : hi < 2 ^ 40
noncomputable def rsz (lo hi c : Int) : Int := Builtin.Range.rangeSize lo hi c
section
variable {X : Cx} {tg : Expr}
noncomputable def upS (lo c : Int) (n : Nat) : List W := (List.range n).map fun (i : Nat) => W.int (lo + (i : Int) * c)
noncomputable def jRng3 (ta : WA) : WI := fun τ G r => ta τ G fun ws G1 => match ws with
  | [.int lo, .int hi, .int c] => CR3 lo hi c ∧ r (upS lo c (rsz lo hi c).toNat) (fun _ => True) G1
  | _ => False
noncomputable def upL (lo : Int) (n : Nat) : List W := (List.range n).map fun (i : Nat) => W.int (lo + (i : Int))
noncomputable def jRng2 (ta : WA) : WI := fun τ G r => ta τ G fun ws G1 => match ws with
  | [.int i, .int j] => (-(2 ^ 62) ≤ i ∧ i < 2 ^ 62 ∧ -(2 ^ 62) ≤ j ∧ j < 2 ^ 62) ∧ r (upL i (j - i).toNat) (fun _ => True) G1
  | _ => False
end
section
variable {X : Cx}
noncomputable def cMin : List W → Gp → WK → Prop := fun ws G q => match ws with
  | [.int i, .int j] => q (.int (if j < i then j else i)) G
  | _ => False
theorem q_min (hc : X.calm = true) : QCall X (.builtin "min") cMin := by
  intro pins s σ H xs us Q I r ⟨ws, G, q, rw', g, h, hQ⟩
  unfold cMin at h
  split at h
  · obtain ⟨v, u, rfl, r1, r2⟩ := rw'.two
    cases r1
    cases r2
    exact call_min2 hc pins s σ H _ us Q I r ⟨_, _, rfl, hQ _ H _ G (TLe.refl H) (.int _) g h⟩
  · exact h.elim
theorem b_min : bootBuiltins "min" = some (.builtin "min") := by decide +kernel
noncomputable def BigM (i j : Int) : Prop := i.natAbs < 2 ^ 4000 ∧ j.natAbs < 2 ^ 4000
noncomputable def BigD (j : Int) : Prop := 0 < j ∧ j.natAbs < 2 ^ 4000
theorem le_big {n : Nat} (h : n ≤ 10 ^ 200) : n < 2 ^ 4000 := Nat.lt_of_le_of_lt h (by decide +kernel)
theorem bigM {i j : Int} (h1 : i.natAbs ≤ 10 ^ 200) (h2 : j.natAbs ≤ 10 ^ 200) : BigM i j := ⟨le_big h1, le_big h2⟩
noncomputable def CMulB (i j : Int) : Prop := CMul i j ∨ BigM i j
theorem CMulB.ok {i j : Int} (h : CMulB i j) : IntMulOk i j := by
  rcases h with h | ⟨h1, h2⟩
  · exact h.ok
  · have b1 := PyProof.Rows.intBits_le h1
    have b2 := PyProof.Rows.intBits_le h2
    unfold IntMulOk Builtin.Int.intTooBig
    have : ¬ (((Builtin.Int.intBits i + Builtin.Int.intBits j : Int)) > bitsLine) := by
      have hb : (8000 : Int) ≤ bitsLine := by decide
      (clear h1 h2; omega)
    simp [this]
noncomputable abbrev vMulB : W2 := vInt CMulB fun i j => .int (i * j)
theorem op_mulB : OpR X (binaryOp .Mult) (rI CMulB fun i j => .int (i * j)) := opI fun _ _ _ _ _ _ _ hc q => mul_int q hc.ok
theorem q_mulB : QOp X (binaryOp .Mult) vMulB := q_rint op_mulB
noncomputable def CDivB (i j : Int) : Prop := CDiv i j ∨ BigD j
theorem op_fdivB : OpR X (binaryOp .FloorDiv) (rI CDivB fun i j => .int (i / j)) := opI fun i j _ _ _ _ _ hc q => by
  rcases hc with hc | ⟨h0, h1⟩
  · have h1 : (0 : Int) < j := hc.1
    have h2 : j < 1073741824 := hc.2
    exact floordiv_int (by (clear q hc; omega)) (by rw [Int.fdiv_eq_ediv_of_nonneg i (by (clear q hc; omega))]; exact q) (.inl (PyProof.noPylong_small (by (clear q hc; omega))))
  · refine floordiv_int (by (clear q h1; omega)) (by rw [Int.fdiv_eq_ediv_of_nonneg i (by (clear q h1; omega))]; exact q) (.inl (PyProof.noPylong_of_log2 ?_))
    have hne : j.natAbs ≠ 0 := by (clear q h1; omega)
    exact Nat.lt_of_lt_of_le ((Nat.log2_lt hne).mpr h1) (by decide)
noncomputable abbrev vDivB : W2 := vInt CDivB fun i j => .int (i / j)
theorem q_divB : QOp X (binaryOp .FloorDiv) vDivB := q_rint op_fdivB
end
end L2
namespace L2
open PySem PySem.Spec PyProof.Rows
section
variable {X : Cx}
noncomputable def wPar (i j : Nat) (ta : WA) : WS := fun d τ G => ta τ G fun ws G1 => match ws with
  | [v, w] => d.nx ((τ.set i (some v)).set j (some w)) G1
  | _ => False
end
end L2
namespace L2
open PySem PySem.Spec PyProof.Rows
structure FunD (K : PySem.W.Frag) (x qual : Str) (st : Stmt) (f : Addr) (fd : FuncData) (T : Addr) (ds : List Value) : Prop where
  ex : ∃ (oc : Value) (od : Option Addr) (kV doc pm : Value) (an : Option Addr) (cdv ct : Value) (osl : Array (Option Value)) (ot : Obj) (nt : Nat),
    fd = PySem.W.fnOf x qual (defArgs st) (defBody st) (defScope st) (.ref T) kV doc pm an cdv ct ∧ K.lookup f = some ⟨oc, od, .func fd, osl⟩ ∧ PySem.W.codeIn K cdv qual = true ∧ K.lookup T = some ot ∧ ot.data = .seq ds.toArray nt
  kp : PySem.W.keepIn K (.ref f) = true
section
variable {P : Program} {w : World} {K : PySem.W.Frag} {mg : Str → Option Value} {base : Heap} {x qual : Str} {st : Stmt} {f T : Addr} {fd : FuncData} {ds : List Value}
theorem fun_mkD {oc : Value} {od an : Option Addr} {osl : Array (Option Value)} {kV doc pm cdv ct : Value} {ot : Obj} {nt : Nat} (l : K.lookup f = some ⟨oc, od, .func (PySem.W.fnOf x qual (defArgs st) (defBody st) (defScope st) (.ref T) kV doc pm an cdv ct), osl⟩)
    (c : PySem.W.codeIn K cdv qual = true) (k : PySem.W.keepIn K (.ref f) = true) (t : K.lookup T = some ot) (h : ot.data = .seq ds.toArray nt) : FunD K x qual st f (PySem.W.fnOf x qual (defArgs st) (defBody st) (defScope st) (.ref T) kV doc pm an cdv ct) T ds :=
  ⟨⟨oc, od, kV, doc, pm, an, cdv, ct, osl, ot, nt, rfl, l, c, t, h⟩, k⟩
theorem FunD.binds {ps : List Str} {es : List Value} (F : FunD K x qual st f fd T ds)
    (h : ∀ (kV doc pm : Value) (an : Option Addr) (cdv ct : Value) (us : List Value), (us ++ es).length = ps.length → ∃ k, bindArgs (PySem.W.fnOf x qual (defArgs st) (defBody st) (defScope st) (.ref T) kV doc pm an cdv ct) ⟨us, []⟩ = seqItems? (.ref T) >>= k ∧ k (some ds.toArray) = pure (ps.zip (us ++ es))) : Binds K fd ps es := by
  obtain ⟨oc, od, kV, doc, pm, an, cdv, ct, osl, ot, nt, rfl, lk, hcd, ht, hd⟩ := F.ex
  intro s us KX hl
  obtain ⟨k, h1, h2⟩ := h kV doc pm an cdv ct us hl
  exact BindsTo.of_defaults (T := T) rfl (KX _ _ ht) hd h1 h2
theorem fn3D {N ps : List Str} {k : Nat} {sp : WSp} (F : FunD K x qual st f fd T ds) (S : FnScope N ps (defScope st)) (len : ∀ ws G q e, sp ws G q e → ws.length = ps.length)
    (hbody : ∀ (cdv : Value) (A : Around) (outer : List Env) (s : Shared) (H : Hp) (E : XK), Room k (A.deeper (envOfC qual (defScope st) s.heap.objs.size f cdv)) →
      ∃ t, QSs (cxOf CX0 P w K mg base N qual (defScope st) f cdv A outer s H E).nox (defBody st) t ∧
        ∀ (ws : List W) (G : Gp) (q : WK) (e : WX), sp ws G q e → t { nx := fun _ G1 => ∃ G0, GLe G0 G1 ∧ q .non G0, rt := fun w G1 => ∃ G0, GLe G0 G1 ∧ q w G0 } (wStart N ws) G) : WFn P w K mg base (k + 1) f fd ps sp := by
  obtain ⟨oc, od, kV, doc, pm, an, cdv, ct, osl, ot, nt, rfl, lk, hcd, ht, hd⟩ := F.ex
  refine fn_of lk hcd S (fun vs H Q E ⟨ws, G, q, e, r, g, z, _⟩ => by rw [← r.length]; exact len _ _ _ _ z) (fun A outer s H vs Q E hr ⟨ws, G, q, e, r, g, z, hQ, _⟩ => ?_)
  obtain ⟨t, ht, hq⟩ := hbody cdv A outer s H E hr
  have ht' : PSs (cxOf CX0 P w K mg base N qual (defScope st) f cdv A outer s H E).nox (defBody st) (LS K t) := ht
  exact ⟨_, ht'.nox, _, G, _, RelSt.start r, g, hq ws G q e z, ⟨fun σ1 H1 τ1 G1 t1 s1 g1 ⟨G0, l, q1⟩ => hQ .non H1 .non G0 t1 .non (g1.le l) q1, fun v H1 w G1 t1 r1 g1 ⟨G0, l, q1⟩ => hQ v H1 w G0 t1 r1 (g1.le l) q1, fun _ _ _ _ _ _ _ z => z.elim, fun _ _ _ _ _ _ _ z => z.elim⟩⟩
noncomputable def Fxd (P : Program) (w : World) (K : PySem.W.Frag) (mg : Str → Option Value) (base : Heap) (x : Str) (ps : List Str) (k : Nat) (sp : WSp) (dws : List W) : Prop :=
  ∃ (f : Addr) (fd : FuncData) (ds : List Value) (dvs : List V), WFn P w K mg base k f fd ps sp ∧ mg x = some (.ref f) ∧ PySem.W.keepIn K (.ref f) = true ∧ Binds K fd ps ds ∧ Vals dvs ds ∧ ∀ H, Reps K H dws dvs
noncomputable def DfD (K : PySem.W.Frag) (mg : Str → Option Value) (x : Str) (st : Stmt) (ps : List Str) (dws : List W) : Prop :=
  ∃ (f : Addr) (fd : FuncData) (T : Addr) (ds : List Value) (dvs : List V), FunD K x x st f fd T ds ∧ Binds K fd ps [] ∧ Binds K fd ps ds ∧ mg x = some (.ref f) ∧ Vals dvs ds ∧ ∀ H, Reps K H dws dvs
theorem DfD.fx {ps : List Str} {k : Nat} {sp : WSp} {dws : List W} (D : DfD K mg x st ps dws) (h : ∀ (f : Addr) (fd : FuncData) (T : Addr) (ds : List Value), FunD K x x st f fd T ds → WFn P w K mg base k f fd ps sp) : Fx P w K mg base x ps k sp := by
  obtain ⟨f, fd, T, ds, dvs, F, b, b', m, _, _⟩ := D
  exact ⟨f, fd, h f fd T ds F, m, F.kp, b⟩
theorem DfD.fxd {ps : List Str} {k : Nat} {sp : WSp} {dws : List W} (D : DfD K mg x st ps dws) (h : ∀ (f : Addr) (fd : FuncData) (T : Addr) (ds : List Value), FunD K x x st f fd T ds → WFn P w K mg base k f fd ps sp) : Fxd P w K mg base x ps k sp dws := by
  obtain ⟨f, fd, T, ds, dvs, F, b, b', m, v, r⟩ := D
  exact ⟨f, fd, ds, dvs, h f fd T ds F, m, F.kp, b', v, r⟩
end
section
variable {X : Cx}
theorem qe_fxn {x : Str} {ps : List Str} {k : Nat} {sp : WSp} {p pos : Pos} {e : Expr} {es : List Expr} {t : WA} (F : Fx X.prog X.w X.K X.mg X.base x ps k sp) (hr : Room k X.A) (hg : Gl X x) (ha : QA X (e :: es) t) (_hn : (e :: es).length = ps.length := by rfl) (hdb : (x == ("__debug__" : Str)) = false := by decide)
    (he : starEach (e :: es) X.env = (false, eval e X.env) :: starEach es X.env := by rfl) (hpl : (backTo pos (starEach es X.env)).any (·.1) = false := by rfl) : QE X (.Call (.Name x p) (e :: es) [] pos) (wCall sp [] t) := qe_fx F hr hg ha hdb he hpl
theorem qe_fxd {x : Str} {ps : List Str} {k : Nat} {sp : WSp} {dws : List W} {p pos : Pos} {e : Expr} {es : List Expr} {t : WA} (F : Fxd X.prog X.w X.K X.mg X.base x ps k sp dws) (hr : Room k X.A) (hg : Gl X x) (ha : QA X (e :: es) t) (_hn : (e :: es).length + dws.length = ps.length := by rfl) (hdb : (x == ("__debug__" : Str)) = false := by decide)
    (he : starEach (e :: es) X.env = (false, eval e X.env) :: starEach es X.env := by rfl) (hpl : (backTo pos (starEach es X.env)).any (·.1) = false := by rfl) : QE X (.Call (.Name x p) (e :: es) [] pos) (wCall sp dws t) := by
  obtain ⟨f, fd, ds, dvs, h1, h2, h3, h4, h5, h6⟩ := F
  exact (pe_call h1 hr hg h2 h3 h4 h5 pass0 ha hdb he hpl).imp fun _ _ _ h => h.call h6
noncomputable def wNever : WS := fun _ _ _ => False
theorem qs_never {st : Stmt} : QS X st wNever := fun _ _ _ _ _ _ ⟨_, _, _, _, _, z, _⟩ => z.elim
end
end L2
namespace L2
open PySem PySem.Spec PyProof.Rows
variable {X : Cx}
noncomputable def cMax4 : List W → Gp → WK → Prop := fun ws G q => match ws with
  | [.int i, .int j] => q (.int (if j > i then j else i)) G
  | [.int i, .int j, .int k] => q (.int (if j > i then (if k > j then k else j) else if k > i then k else i)) G
  | [.ref a] => ∃ ns : List Int, G a = some (.lst (ns.map W.int)) ∧ ns ≠ [] ∧ ∀ m : Int, m ∈ ns → (∀ x, x ∈ ns → x ≤ m) → q (.int m) G
  | _ => False
theorem q_max4 (hc : X.calm = true) : QCall X (.builtin "max") cMax4 := by
  intro pins s σ H xs us Q I r ⟨ws, G, q, rw', g, h, hQ⟩
  unfold cMax4 at h
  split at h
  · obtain ⟨v, u, rfl, r1, r2⟩ := rw'.two
    cases r1
    cases r2
    exact call_max2 hc pins s σ H _ us Q I r ⟨_, _, rfl, hQ _ H _ G (TLe.refl H) (.int _) g h⟩
  · rename_i i j k
    cases rw' with
    | cons r1 rw' =>
      cases rw' with
      | cons r2 rw' =>
        cases rw' with
        | cons r3 rw' =>
          cases rw'
          cases r1
          cases r2
          cases r3
          cases r with
          | cons a1 r =>
            cases r with
            | cons a2 r =>
              cases r with
              | cons a3 r =>
                cases r
                obtain ⟨t1, rfl⟩ := a1
                obtain ⟨t2, rfl⟩ := a2
                obtain ⟨t3, rfl⟩ := a3
                refine max_three_ints (I.ok.hd hc) fun h' tk k' => ⟨.int (if j > i then (if k > j then k else j) else if k > i then k else i), H, I.kept k', ?_, hQ _ H _ G (TLe.refl H) (.int _) g h⟩
                by_cases h1 : j > i
                · by_cases h2 : k > j
                  · rw [if_pos h1, if_pos h2, if_pos h1, if_pos h2]; exact ⟨_, rfl⟩
                  · rw [if_pos h1, if_neg h2, if_pos h1, if_neg h2]; exact ⟨_, rfl⟩
                · by_cases h2 : k > i
                  · rw [if_neg h1, if_pos h2, if_neg h1, if_pos h2]; exact ⟨_, rfl⟩
                  · rw [if_neg h1, if_neg h2, if_neg h1, if_neg h2]; exact ⟨_, rfl⟩
  · rename_i a
    obtain ⟨ns, e, hne, h⟩ := h
    obtain ⟨v, rfl, r1⟩ := rw'.one
    cases r1
    obtain ⟨_, zs, e1, rr⟩ := g a _ e
    obtain rfl := rr.ints_of
    obtain ⟨u, rfl, ru⟩ := vals1 r
    cases (show u = Value.ref a from ru)
    obtain ⟨its, rv, p, hz⟩ := I.list (SqL.of e1)
    have hi : IntsAre its ns := L2.intsAre_of rv
    obtain ⟨ys, ey⟩ := hi.allInts.items
    have hn : (ys.toList.map (·.1)) = ns := by rw [← nums_intItems, ← ey, ← hi.numsOf]
    have hl : s.heap.IsList a (intItems ys) := by rw [← ey]; exact p.isList
    have hsz : ys.size = ns.length := by rw [← hn]; simp
    have hpos : 0 < ys.size := by
      rw [hsz]
      exact List.length_pos_iff.mpr hne
    refine max_intList (I.ok.hd hc) hl hpos fun v h' tk hv hk => ?_
    have ab := argBest_gt (numAt ys) (ys.size - 1)
    generalize argBest (fun i j => decide (numAt ys i > numAt ys j)) (ys.size - 1) = ix at hv ab
    have hix : ix < ys.size := by (clear hc I g hQ e hne h rw' e1 rr ru r rv p hz hi ey hn hl hk hv; omega)
    have hna : ∀ j (hj : j < ys.size), numAt ys j = ns[j]'(by (clear hc I g hQ e hne h rw' e1 rr ru r rv p hz hi ey hn hl hpos hk hv ab hix; omega)) := fun j hj => by
      unfold numAt
      rw [Array.getElem?_eq_getElem hj]
      simp [← hn]
    have hv2 : v = Value.int (ys[ix].1) (ys[ix].2) := by
      unfold intItems at hv
      rw [Array.getElem?_map, Array.getElem?_eq_getElem hix] at hv
      simpa using hv.symm
    have hm : ys[ix].1 = ns[ix]'(by (clear hc I g hQ e hne h rw' e1 rr ru r rv p hz hi ey hn hl hpos hk hv ab hna hv2; omega)) := by
      have := hna ix hix
      unfold numAt at this
      rw [Array.getElem?_eq_getElem hix] at this
      simpa using this
    rw [hm] at hv2
    subst hv2
    refine ⟨.int _, H, I.kept hk, ⟨_, rfl⟩, hQ _ H _ G (TLe.refl H) (.int _) g (h _ (List.getElem_mem _) fun x hx => ?_)⟩
    obtain ⟨j, hj, rfl⟩ := List.mem_iff_getElem.mp hx
    have := ab.2 j (by (clear hc I g hQ e hne h rw' e1 rr ru r rv p hz hi ey hn hl hk ab hna hm hv hx; omega))
    rw [hna j (by (clear hc I g hQ e hne h rw' e1 rr ru r rv p hz hi ey hn hl hpos hk ab hna hm hv hx this; omega)), hna ix hix] at this
    exact this
  · exact h.elim
theorem qe_gint {x : Str} {i : Int} {t : Tok} {pos : Pos} (hg : Gl X x) (hm : X.mg x = some (.int i t)) (hd : (x == ("__debug__" : Str)) = false := by decide) : QE X (.Name x pos) (wC (.int i)) := qe_const (pe_glob (v := .int i) hg hm ⟨t, rfl⟩ hd) fun _ => .int i
end L2
namespace L2
open PySem PySem.Spec PyProof.Rows
section
variable {M : Model} {A : Around} {E : Value → Shared → Prop} {K : PySem.W.Frag} {C D a : Addr} {bm bmD : List Value} {oe : Obj}
end
structure Fl (P : Program) (w : World) (fs : List Addr) (H H' : Hp) (h0 h : Heap) (a T : Addr) (c fl : Value) : Prop where
  un : Un fs [] H H' h0 h
  hok : HOk P w H' h
  na : h0.get? a = none
  nT : h0.get? T = none
  ha : H' a = none
  hT : H' T = none
  tr : ∃ oe vs oT ts a0, h.get? a = some oe ∧ (oe.cls = c ∧ vs[0]? = some a0) ∧ oe.data = .fields vs ∧ vs[1]? = some (.ref T) ∧ T ≠ a ∧ h.get? T = some oT ∧ oT.data = .fields ts ∧ ts[3]? = some fl
section
variable {P : Program} {w : World} {fs : List Addr} {H H' : Hp} {h0 h h' : Heap} {a T : Addr} {c fl fl' : Value}
end
section
variable {P : Program} {w : World} {K : PySem.W.Frag} {mg : Str → Option Value} {base : Heap} {N : List Str} {qual : Str} {scope : Scope} {f : Addr} {cdv : Value} {A : Around} {outer : List Env} {s : Shared} {H : Hp} {E : XK}
noncomputable def wRaise (C : Addr) (e : WX) : WS := fun _ _ G => e (.ref C) G
end
noncomputable def wNevers : WS := fun _ _ _ => False
section
variable {X : Cx} {pins : List (Addr × Obj)} {σ : St} {H : Hp} {s : Shared} {a : Addr} {oe : Obj}
end
section
variable {X : Cx} {pins : List (Addr × Obj)} {σ : St} {H0 H : Hp} {s0 s : Shared} {a T : Addr} {c fl : Value}
variable {C D : Addr} {bm bmD : List Value} {x : Str} {p pos : Pos} {name : Option Str} {body : List Stmt} {rest : List ExceptHandler} {b0 : Stmt} {th : WS}
noncomputable def wAs (i : Nat) (ts : Addr → WS) : WS := fun d τ G => ∀ a, G a = none → ts a { nx := fun τ1 G1 => d.nx (τ1.set i none) G1, rt := d.rt, bk := fun τ1 G1 => d.bk (τ1.set i none) G1, ct := fun τ1 G1 => d.ct (τ1.set i none) G1 } (τ.set i (some (.ref a))) G
noncomputable def wTry (sp : WSp) (dws : List W) (t : WA) (C : Addr) (th : WS) : WS := fun d τ G => t τ G fun ws G1 => sp (ws ++ dws) G1 (fun _ G2 => d.nx τ G2) fun c G2 => c = .ref C ∧ th d τ G2
end
section
variable {X : Cx} {a : Addr} {oe : Obj} {C D : Addr} {bm bmD : List Value}
noncomputable def wIsx (i : Nat) (a : Addr) : WE := fun τ G q => τ[i]? = some (some (.ref a)) ∧ q (.bl true) G
end
end L2
namespace L2
open PySem PySem.Spec PyProof.Rows
section
variable {prog : Program} {w : World} {A : Around} {R : Result → Shared → Prop} {I : Addr} {fp wr : List Addr} {n : Nat} {P : Nat → Value → Prop} {St : Nat → Heap → Prop} {kw : List (Str × Value)}
theorem args_maxD (a d : Value) : argsOk "max" ⟨[a], [("default", d)]⟩ := by unfold argsOk; kernel_rfl
theorem loopD (W : Walks prog w A.in1 I fp wr n P St) (bt : Nat → Nat → Bool) (hcmp : CmpOf prog w A.in1 .Gt P bt) (S : Addr) (hSf : S ∉ fp) :
    ∀ (k j : Nat) (s : Shared) (vb : Value) (c : Nat), n - (j + 1) = k → j + 1 ≤ n → St (j + 1) s.heap → P (argBest bt j) vb → s.heap.get? S = some { cls := .type "list", dict := none, data := .seq #[vb, vb] c, slots := #[] } →
      (∀ v h' tk, P (argBest bt (n - 1)) v → (∀ b o, b ∉ wr → b ≠ S → s.heap.get? b = some o → h'.get? b = some o) → R (.ok (.ret v)) { s with heap := h', toks := tk }) →
      codeAny (model prog w) A (.builtin "max.loop" ⟨[.ref I, .none, .ref S], kw⟩) R s := by
  have nw : S ∉ wr := fun z => hSf (W.sub _ z)
  have nm : (toString "max" ++ toString ".loop" : String) = "max.loop" := by decide
  intro k
  induction k with
  | zero =>
    intro j s vb c hk hj hst hb hS hR
    have hin : j + 1 = n := by (clear W hcmp hSf nw nm hst hb hS hR; omega)
    refine (codeAny_builtin F.entry_max_loop ?_); rw [Around.under_plainId F.plain_max_loop _]
    show wpAny _ A.in1 (seqItems? (Value.ref S) >>= _) _ _ s
    refine wpAny_bind (wpAny_seqItems hS rfl (?_ : wpAny _ A.in1 (tryCatch (pyNext (.ref I)) _ >>= _) _ _ s))
    refine wpAny_bind (wpAny_tryCatch (W.done s _ _ (hin ▸ hst) fun h1 tk k1 => (?_ : wpAny _ A.in1 (updateSeq S (fun _ => #[]) >>= _) _ _ _)))
    refine wpAny_bind (wpAny_updateSeq (k1 S _ nw hS) rfl (wpAny_bind (wpAny_letGo (wpAny_pure ?_))))
    exact hR vb _ tk (by rw [← hin]; exact hb) fun b o n1 n2 e => (Heap.get?_update_other _ _ (Ne.symm n2)).trans (k1 b o n1 e)
  | succ k ih =>
    intro j s vb c hk hj hst hb hS hR
    have hlt : j + 1 < n := by (clear W hcmp hSf nw nm ih hst hb hS hR; omega)
    refine (codeAny_builtin F.entry_max_loop ?_); rw [Around.under_plainId F.plain_max_loop _]
    show wpAny _ A.in1 (seqItems? (Value.ref S) >>= _) _ _ s
    refine wpAny_bind (wpAny_seqItems hS rfl (?_ : wpAny _ A.in1 (tryCatch (pyNext (.ref I)) _ >>= _) _ _ s))
    refine wpAny_bind (wpAny_tryCatch (W.item (j + 1) s _ _ hlt hst fun v h1 tk hP hst1 k1 => (?_ : wpAny _ A.in1 (tryCatch (holding [v, v] (richCompare .Gt v vb >>= _)) _ >>= _) _ _ _)))
    have hS1 := k1 S _ nw hS
    refine wpAny_bind (wpAny_tryCatch (wpAny_holding (wpAny_bind (hcmp (j + 1) (argBest bt j) v vb _ _ _ hP hb (wpAny_bind (wpAny_holding (wpAny_truthy_bool (wpAny_bind (wpAny_letGo (wpAny_pure ?_))))))))))
    cases e0 : bt (j + 1) (argBest bt j) with
    | true =>
      simp only [if_true]
      refine wpAny_bind (wpAny_updateSeq hS1 rfl (wpAny_bind (wpAny_letGo ?_)))
      rw [nm]
      refine wpAny_pure ⟨plainId_quiet F.plain_max_loop _, ih (j + 1) _ v _ (by (clear W hcmp hSf nw nm ih hj hst hb hS hR hP hst1 k1 hS1 e0; omega)) hlt (W.frame _ _ _ hst1 fun b hf o e => ?_) (by simp only [argBest, e0, if_true]; exact hP) (Heap.get?_update_self _ hS1 rfl) fun v2 h2 tk2 hP2 k2 => ?_⟩
      · exact (Heap.get?_update_other _ _ (fun z : S = b => hSf (by rw [z]; exact hf))).trans e
      · exact hR v2 h2 tk2 hP2 fun b o n1 n2 e => k2 b o n1 n2 ((Heap.get?_update_other _ _ (Ne.symm n2)).trans (k1 b o n1 e))
    | false =>
      simp only [if_false, Bool.false_eq_true]
      refine wpAny_bind (wpAny_letGo ?_)
      rw [nm]
      refine wpAny_pure ⟨plainId_quiet F.plain_max_loop _, ih (j + 1) _ vb c (by (clear W hcmp hSf nw nm ih hj hst hb hS hR hP hst1 k1 hS1 e0; omega)) hlt hst1 (by simp only [argBest, e0, if_false, Bool.false_eq_true]; exact hb) hS1 fun v2 h2 tk2 hP2 k2 => ?_⟩
      exact hR v2 h2 tk2 hP2 fun b o n1 n2 e => k2 b o n1 n2 (k1 b o n1 e)
end
section
variable {prog : Program} {w : World} {A : Around} {E : Value → Shared → Prop} {s : Shared} {l : Addr} {xs : Array (Int × Tok)} {d : Value}
theorem maxD_list {Q : Value → Shared → Prop} (hh : A.handled = none) (hl : s.heap.IsList l (intItems xs))
    (h0 : xs.size = 0 → ∀ h' tk, (∀ b o, s.heap.get? b = some o → h'.get? b = some o) → Q d { s with heap := h', toks := tk })
    (h1 : 0 < xs.size → ∀ v h' tk, (intItems xs)[argBest (fun i j => decide (numAt xs i > numAt xs j)) (xs.size - 1)]? = some v → (∀ b o, s.heap.get? b = some o → h'.get? b = some o) → Q v { s with heap := h', toks := tk }) :
    wpAny (model prog w) A (call (.builtin "max") [.ref l] [("default", d)]) Q E s := by
  have nm : (toString "max" ++ toString ".loop" : String) = "max.loop" := by decide
  have body : wpAny (model prog w) A.in1 (Builtin.«max» ⟨[.ref l], [("default", d)]⟩) (fun fin s' => match fin with
      | .done f => (match (Except.ok f : Result) with | .ok (.ret v) => Q v s' | .ok _ => False | .error e => E e s')
      | .again c' => c'.quiet = true ∧ codeAny (model prog w) A c' (fun r s' => match r with | .ok (.ret v) => Q v s' | .ok _ => False | .error e => E e s') s') E s := by
    show wpAny _ A.in1 (Builtin.Builtins.bindParams "max" ["key", "default"] 0 ⟨[], [("default", d)]⟩ >>= _) _ _ s
    refine wpAny_bind (wpAny_of_eq (show Builtin.Builtins.bindParams "max" ["key", "default"] 0 ⟨[], [("default", d)]⟩ = pure [none, some d] from rfl) (wpAny_bind (wpAny_pure (wpAny_bind (iter_intList hl fun s2 e st hfp hlI => ?_)))))
    subst e
    have Wk := Walks.list (prog := prog) (w := w) (A := A.in1) hh s.heap.objs.size l hlI (intItems xs)
    refine wpAny_bind (wpAny_newObj_type ?_)
    rw [nm]
    have hSf : (s.heap.push { cls := .type "list_iterator", data := .fields #[.ref l, .int 0 0] }).objs.size ∉ [s.heap.objs.size, l] := fun z => Nat.lt_irrefl _ (hfp _ z)
    have nw : (s.heap.push { cls := .type "list_iterator", data := .fields #[.ref l, .int 0 0] }).objs.size ∉ [s.heap.objs.size] := fun z => hSf (Wk.sub _ z)
    have st1 := Wk.frame _ _ _ st fun b _ o e => Heap.get?_push_of_some (h := s.heap.push { cls := .type "list_iterator", data := .fields #[.ref l, .int 0 0] }) { cls := .type "list", data := .seq #[] } e
    have hS : ((s.heap.push { cls := .type "list_iterator", data := .fields #[.ref l, .int 0 0] }).push { cls := .type "list", data := .seq #[] }).get? (s.heap.push { cls := .type "list_iterator", data := .fields #[.ref l, .int 0 0] }).objs.size = some { cls := .type "list", dict := none, data := .seq #[] 0, slots := #[] } := Heap.get?_push_size _ rfl
    have old : ∀ b o, s.heap.get? b = some o → b ∉ [s.heap.objs.size] ∧ b ≠ (s.heap.push { cls := .type "list_iterator", data := .fields #[.ref l, .int 0 0] }).objs.size ∧ ((s.heap.push { cls := .type "list_iterator", data := .fields #[.ref l, .int 0 0] }).push { cls := .type "list", data := .seq #[] }).get? b = some o := fun b o e => by
      have hb := Heap.lt_size e
      refine ⟨fun z => ?_, fun z => ?_, Heap.get?_push_of_some _ (Heap.get?_push_of_some _ e)⟩
      · rw [List.mem_singleton.mp z] at hb; exact Nat.lt_irrefl _ hb
      · rw [z, Heap.size_push] at hb; exact absurd hb (Nat.not_lt.mpr (Nat.le_succ _))
    refine wpAny_pure ⟨plainId_quiet F.plain_max_loop _, ?_⟩
    refine (codeAny_builtin F.entry_max_loop ?_); rw [Around.under_plainId F.plain_max_loop _]
    show wpAny _ A.in1 (seqItems? (Value.ref (s.heap.push { cls := .type "list_iterator", data := .fields #[.ref l, .int 0 0] }).objs.size) >>= _) _ _ _
    refine wpAny_bind (wpAny_seqItems hS rfl (?_ : wpAny _ A.in1 (tryCatch (pyNext (.ref s.heap.objs.size)) _ >>= _) _ _ _))
    have hsz : (intItems xs).size = xs.size := by simp [intItems]
    by_cases hz : xs.size = 0
    · refine wpAny_bind (wpAny_tryCatch (Wk.done _ _ _ ((hsz.trans hz).symm ▸ st1) fun h' tk k1 => ?_))
      refine wpAny_bind (wpAny_rule (wpAny_pure ?_))
      exact h0 hz h' tk fun b o e => k1 b o (old b o e).1 (old b o e).2.2
    · have hp : 0 < xs.size := Nat.pos_of_ne_zero hz
      refine wpAny_bind (wpAny_tryCatch (Wk.item 0 _ _ _ (by rw [hsz]; exact hp) st1 fun v h' tk hP hst' k1 => (?_ : wpAny _ A.in1 (updateSeq (s.heap.push { cls := .type "list_iterator", data := .fields #[.ref l, .int 0 0] }).objs.size (fun _ => #[v, v]) >>= _) _ _ _)))
      have hS1 := k1 _ _ nw hS
      refine wpAny_bind (wpAny_updateSeq hS1 rfl ?_)
      rw [nm]
      refine wpAny_pure ⟨plainId_quiet F.plain_max_loop _, loopD Wk _ (CmpOf.ints_gt (numAt xs) fun _ _ => intItems_at) _ hSf _ 0 _ v _ rfl (by rw [hsz]; exact hp) (Wk.frame _ _ _ hst' fun b hf o e => ?_) hP (Heap.get?_update_self _ hS1 rfl) fun v2 h2 tk2 hP2 k2 => ?_⟩
      · exact (Heap.get?_update_other _ _ (fun z => hSf (by rw [z]; exact hf))).trans e
      · refine h1 hp v2 h2 tk2 (by rw [← hsz]; exact hP2) fun b o e => k2 b o (old b o e).1 (old b o e).2.1 ((Heap.get?_update_other _ _ (Ne.symm (old b o e).2.1)).trans (k1 b o (old b o e).1 (old b o e).2.2))
  have ha := args_maxD (.ref l) d
  refine wpAny_call (codeAny_call_builtin F.plain_max F.entry_max ?_)
  simp only [F.kind_max, checkBuiltinCall]
  cases sg : Manifest.signature? "max" with
  | none => exact wpAny_pure body
  | some sig =>
    simp only [argsOk, sg] at ha
    show wpAny _ A.in1 (Bind.checkArgs "max" sig ⟨[.ref l], [("default", d)]⟩) _ _ s
    rw [show Bind.checkArgs "max" sig ⟨[.ref l], [("default", d)]⟩ = pure () from ha]
    exact wpAny_pure body
end
section
variable {X : Cx}
noncomputable def wMaxD (te : WE) (d : Int) : WE := fun τ G q => te τ G fun x G1 => match x with
  | .ref a => ∃ ns : List Int, G1 a = some (.lst (ns.map W.int)) ∧ (ns = [] → q (.int d) G1) ∧ ∀ m : Int, m ∈ ns → (∀ x, x ∈ ns → x ≤ m) → q (.int m) G1
  | _ => False
theorem qe_maxD {e : Expr} {te : WE} {d : Int} {j} {p pos kp cp : Pos} (hc : X.calm = true) (hg : Gl X "max") (hm : X.mg "max" = none) (he : QE X e te)
    (hs1 : starEach [e] X.env = (false, eval e X.env) :: starEach [] X.env := by rfl) (hb1 : backTo pos (starEach [e] X.env) = (false, eval e X.env) :: backTo pos (starEach [] X.env) := by rfl) (hpl : (backTo pos (starEach [e] X.env)).any (·.1) = false := by rfl) :
    QE X (.Call (.Name "max" p) [e] [⟨some "default", .Constant (.int d) j cp, kp⟩] pos) (wMaxD te d) := by
  intro pins s σ H Q I ⟨τ, G, q, hs, hgG, ht, hQ⟩
  refine wpAny_Call_Name_kw (ld_blt I hg hm b_max ?_)
  have go := (pa_cons he pa_nil hs1) pos pins s σ H (fun vs H1 => ∃ v w G1, vs = [v] ∧ TLe H H1 ∧ Rep X.K H1 w v ∧ RelG X.K H1 G1 ∧ (match w with
      | .ref a => ∃ ns : List Int, G1 a = some (.lst (ns.map W.int)) ∧ (ns = [] → q (.int d) G1) ∧ ∀ m : Int, m ∈ ns → (∀ x, x ∈ ns → x ≤ m) → q (.int m) G1
      | _ => False)) I ⟨τ, G, _, hs, hgG, ht, fun v H1 w G1 t1 r1 g1 q1 => ⟨v, w, G1, rfl, t1, r1, g1, q1⟩⟩
  refine callWith_kw (thn go fun us s1 ⟨vs, H1, I1, rv, v, w, G1, ev, t1, rw1, g1, hw⟩ => kws_cons ?_) hb1 hpl rfl rfl
  subst ev
  refine thn (pe_int (X := X) (i := d) (j := j) (pos := cp) pins s1 σ H1 (fun v H2 => v = .int d ∧ H2 = H1) I1 ⟨rfl, rfl⟩) fun u2 s2 ⟨v2, H2, I2, rv2, e1, e2⟩ => kws_nil ?_
  subst e1 e2
  obtain ⟨td, rfl⟩ := rv2
  show wpAny _ _ (call (.builtin "max") us [("default", .int d td)]) _ _ s2
  split at hw
  · rename_i a
    obtain ⟨ns, e, h0, h1⟩ := hw
    cases rw1
    obtain ⟨_, zs, e1, rr⟩ := g1 a _ e
    obtain rfl := rr.ints_of
    obtain ⟨u, rfl, ru⟩ := vals1 rv
    cases (show u = Value.ref a from ru)
    obtain ⟨its, ri, pl, hz⟩ := I2.list (SqL.of e1)
    have hi : IntsAre its ns := L2.intsAre_of ri
    obtain ⟨ys, ey⟩ := hi.allInts.items
    have hn : (ys.toList.map (·.1)) = ns := by rw [← nums_intItems, ← ey, ← hi.numsOf]
    have hl : s2.heap.IsList a (intItems ys) := by rw [← ey]; exact pl.isList
    have hsz : ys.size = ns.length := by rw [← hn]; simp
    refine maxD_list (I2.ok.hd hc) hl (fun hz h' tk hk => ⟨.int d, H2, I2.kept hk, ⟨_, rfl⟩, hQ _ H2 _ G1 t1 (.int _) g1 (h0 ?_)⟩) fun hpos v h' tk hv hk => ?_
    · exact List.eq_nil_of_length_eq_zero (hsz.symm.trans hz)
    · have ab := argBest_gt (numAt ys) (ys.size - 1)
      generalize argBest (fun i j => decide (numAt ys i > numAt ys j)) (ys.size - 1) = ix at hv ab
      have hix : ix < ys.size := by (clear hc hg hm he hs1 hb1 hpl I hs hgG ht hQ go I2 I1 t1 g1 e h0 h1 e1 rr ru rv ri pl hz hi ey hn hl hk hv; omega)
      have hna : ∀ j (hj : j < ys.size), numAt ys j = ns[j]'(by (clear hc hg hm he hs1 hb1 hpl I hs hgG ht hQ go I2 I1 t1 g1 e h0 h1 e1 rr ru rv ri pl hz hi ey hn hl hpos hk hv ab hix; omega)) := fun j hj => by
        unfold numAt
        rw [Array.getElem?_eq_getElem hj]
        simp [← hn]
      have hv2 : v = Value.int (ys[ix].1) (ys[ix].2) := by
        unfold intItems at hv
        rw [Array.getElem?_map, Array.getElem?_eq_getElem hix] at hv
        simpa using hv.symm
      have hm : ys[ix].1 = ns[ix]'(by (clear hc hg hm he hs1 hb1 hpl I hs hgG ht hQ go I2 I1 t1 g1 e h0 h1 e1 rr ru rv ri pl hz hi ey hn hl hpos hk hv ab hna hv2; omega)) := by
        have := hna ix hix
        unfold numAt at this
        rw [Array.getElem?_eq_getElem hix] at this
        simpa using this
      rw [hm] at hv2
      subst hv2
      refine ⟨.int _, H2, I2.kept hk, ⟨_, rfl⟩, hQ _ H2 _ G1 t1 (.int _) g1 (h1 _ (List.getElem_mem _) fun x hx => ?_)⟩
      obtain ⟨j, hj, rfl⟩ := List.mem_iff_getElem.mp hx
      have := ab.2 j (by (clear hc hg he hs1 hb1 hpl I hs hgG ht hQ go I2 I1 t1 g1 e h0 h1 e1 rr ru rv ri pl hz hi ey hn hl hk ab hna hm hv hx; omega))
      rw [hna j (by (clear hc hg he hs1 hb1 hpl I hs hgG ht hQ go I2 I1 t1 g1 e h0 h1 e1 rr ru rv ri pl hz hi ey hn hl hpos hk ab hna hm hv hx this; omega)), hna ix hix] at this
      exact this
  · exact hw.elim
noncomputable def rIsB (neg : Bool) : W2 := fun x y G q => match x, y with
  | .bl a, .bl b => q (.bl (neg ^^ (a == b))) G
  | _, _ => False
end
end L2
namespace L2
open PySem PySem.Spec PyProof.Rows
section
variable {P : Program} {w : World} {K : PySem.W.Frag} {mg : Str → Option Value} {base : Heap} {N : List Str} {qual : Str} {scope : Scope} {f : Addr} {cdv : Value} {A : Around} {outer : List Env} {s : Shared} {H : Hp} {E : XK}
noncomputable def wCallX (sp : WSp) (dws : List W) (t : WA) (e : WX) : WE := fun τ G q => t τ G fun ws G1 => sp (ws ++ dws) G1 q e
end
section
variable {X : Cx} {pins : List (Addr × Obj)} {σ : St} {H : Hp} {s : Shared}
noncomputable def wDct : WE := fun _ G q => ∀ p, G p = none → q (.ref p) (updG G p .dct)
end
end L2
namespace L2
open PySem PySem.Spec PyProof.Rows
section
variable {prog : Program} {w : World} {A : Around} {E : Value → Shared → Prop} {s : Shared} {I l : Addr} {items : Array Value}
end
section
variable {X : Cx}
noncomputable def wTupRev (te : WE) : WE := fun τ G q => te τ G fun x G1 => match x with
  | .ref a => ∃ ws, G1 a = some (.lst ws) ∧ q (.tup ws.reverse) G1
  | _ => False
end
end L2
namespace L2
open PySem PySem.Spec PyProof.Rows
noncomputable def CRG (lo hi c : Int) : Prop := CR3 lo hi c ∨ (c = -1 ∧ -(2 ^ 40) ≤ lo ∧ lo < 2 ^ 40 ∧ -(2 ^ 40) ≤ hi ∧ hi < 2 ^ 40)
section
variable {X : Cx} {tg : Expr}
noncomputable def jRngG (ta : WA) : WI := fun τ G r => ta τ G fun ws G1 => match ws with
  | [.int lo, .int hi, .int c] => CRG lo hi c ∧ r (upS lo c (rsz lo hi c).toNat) (fun _ => True) G1
  | _ => False
noncomputable def bits (i : Int) : Int := (Builtin.Int.intBits i : Nat)
noncomputable def wBits (to : WE) : WE := fun τ G q => to τ G fun x G1 => match x with
  | .int i => q (.int (bits i)) G1
  | _ => False
noncomputable def BigP (i j : Int) : Prop := 0 ≤ j ∧ j ≤ 1000 ∧ i.natAbs < 2 ^ 4000
noncomputable def CPowB (i j : Int) : Prop := CPow i j ∨ BigP i j
end
end L2
namespace L2
open PySem PySem.Spec PyProof.Rows
section
variable {X : Cx} {C : Addr} {th : WS} {x : Str} {p pos : Pos}
noncomputable def wTryA (i : Nat) (sp : WSp) (dws : List W) (t : WA) (C : Addr) (th : WS) : WS := fun d τ G => t τ G fun ws G1 => sp (ws ++ dws) G1 (fun v G2 => d.nx (τ.set i (some v)) G2) fun c G2 => c = .ref C ∧ th d τ G2
end
end L2
set_option maxRecDepth 100000
namespace L2
open PySem PySem.Spec PyProof.Rows
section
variable {X : Cx}
end
section
variable {X : Cx}
end
end L2
namespace L2
open PySem PySem.Spec PyProof.Rows
section
variable {X : Cx}
end
end L2
namespace L2
open PySem PySem.Spec PyProof.Rows
noncomputable abbrev WEx := Addr → WSt → Gp → Prop
noncomputable def XP (X : Cx) (pins : List (Addr × Obj)) (H : Hp) (ex : WEx) (e : Value) (s' : Shared) : Prop :=
  ∃ a T C H0 s0 σ H' τ G, e = .ref a ∧ Inv X pins σ H0 s0 ∧ Fl X.prog X.w (frs X.stack) H0 H' s0.heap s'.heap a T (.ref C) .none ∧ s'.os = s0.os ∧ AllBare s'.gens ∧ TLe H H' ∧ RelSt X.K H' τ σ ∧ RelG X.K H' G ∧ ex C τ G
section
variable {X : Cx} {x : Str} {p pos : Pos}
noncomputable def wSeqY (t u : WEx → WS) : WEx → WS := fun ex => wSeq (t ex) (u ex)
noncomputable def wIfY (c : WT) (t u : WEx → WS) : WEx → WS := fun ex => wIf c (t ex) (u ex)
noncomputable def wCallY (i : Nat) (sp : WSp) (dws : List W) (t : WA) : WEx → WS := fun ex d τ G => t τ G fun ws G1 => sp (ws ++ dws) G1 (fun v G2 => d.nx (τ.set i (some v)) G2) fun c G2 => ∀ C, c = .ref C → ex C τ G2
noncomputable def wDoY (sp : WSp) (dws : List W) (t : WA) : WEx → WS := fun ex d τ G => t τ G fun ws G1 => sp (ws ++ dws) G1 (fun _ G2 => d.nx τ G2) fun c G2 => ∀ C, c = .ref C → ex C τ G2
noncomputable def wTryY (t : WEx → WS) (cs : List (Addr × WS)) : WS := fun d τ G => t (fun C τ1 G1 => ∃ th, (C, th) ∈ cs ∧ th d τ1 G1) d τ G
end
end L2
namespace L2
open PySem PySem.Spec PyProof.Rows
section
variable {prog : Program} {w : World} {A : Around} {E : Value → Shared → Prop} {s : Shared}
end
noncomputable def jRev (ta : WA) : WI := fun τ G r => ta τ G fun ws G1 => match ws with
  | [.tup xs] => r xs.reverse (fun _ => True) G1
  | _ => False
end L2
namespace L2
open PySem PySem.Spec PyProof.Rows
noncomputable def enumW : Nat → List W → List W
  | _, [] => []
  | i, x :: xs => .tup [.int (i : Int), x] :: enumW (i + 1) xs
section
variable {prog : Program} {w : World} {A : Around} {E : Value → Shared → Prop} {s : Shared}
end
noncomputable def jEnum (ta : WA) : WI := fun τ G r => ta τ G fun ws G1 => match ws with
  | [.tup xs] => r (enumW 0 xs) (fun _ => True) G1
  | _ => False
end L2
namespace L2
open PySem PySem.Spec PyProof.Rows
mutual
noncomputable def W.ge : W → W → Bool
  | .int i, .int j => decide (i ≥ j)
  | .tup xs, .tup ys => W.ges xs ys
  | _, _ => false
noncomputable def W.ges : List W → List W → Bool
  | [], [] => true
  | [], _ :: _ => false
  | _ :: _, [] => true
  | x :: xs, y :: ys => if W.eq x y = true then W.ges xs ys else W.ge x y
end
noncomputable def GeAt (A : Around) (s : Shared) (y x : Value) (b : Bool) : Prop :=
  ∀ (prog : Program) (w : World) (E : Value → Shared → Prop) (Q : Value → Shared → Prop), Q (.bool b) s → wpAny (model prog w) A (richCompare .GtE y x) Q E s
inductive CmpG (A : Around) (s : Shared) : List Value → List Value → Bool → Prop where
  | nn : CmpG A s [] [] true
  | nc {y : Value} {ys : List Value} : CmpG A s [] (y :: ys) false
  | cn {x : Value} {xs : List Value} : CmpG A s (x :: xs) [] true
  | eq {x y : Value} {xs ys : List Value} {r : Bool} (h : SeqAt.EqAt A s x y true) (t : CmpG A s xs ys r) : CmpG A s (x :: xs) (y :: ys) r
  | ne {x y : Value} {xs ys : List Value} {r : Bool} (h : SeqAt.EqAt A s x y false) (t : GeAt A s x y r) : CmpG A s (x :: xs) (y :: ys) r
section
open PySem.SeqAt
open PySem.AutoSeq1 (wpAny_loadPart')
open PySem.MeetsSeq PySem.MeetsSeq2 PySem.MeetsSeq3
end
section
variable {X : Cx} {pins : List (Addr × Obj)} {σ : St} {H : Hp} {s : Shared}
end
section
variable {X : Cx}
noncomputable def rGe3 : W2 := fun x y G q => match x, y with
  | .int i, .int j => q (.bl (decide (i ≥ j))) G
  | .tup xs, .tup ys => W.flats xs = true ∧ W.flats ys = true ∧ W.deps xs ≤ 149 ∧ W.ords xs ys = true ∧ q (.bl (W.ges xs ys)) G
  | _, _ => False
end
section
variable {X : Cx}
noncomputable def wExt (to te : WE) : WE := fun τ G q => to τ G fun x G1 => match x with
  | .ref a => (∃ xs, G1 a = some (.lst xs)) ∧ te τ G1 fun y G2 => match y with
    | .ref b => ∃ ys zs, G2 a = some (.lst ys) ∧ G2 b = some (.lst zs) ∧ ys.length + zs.length ≤ 100000 ∧ q .non (updG G2 a (.lst (ys ++ zs)))
    | _ => False
  | _ => False
end
end L2
namespace L2
open PySem PySem.Spec PyProof.Rows
section
variable {prog : Program} {w : World} {A : Around} {E : Value → Shared → Prop} {h : Heap} {g : Array GenState} {d : Drawn} {t : Nat} {os : OsState} {a C : Addr} {o : Obj} {K : PySem.W.Frag} {bm : List Value}
end
section
variable {prog : Program} {w : World} {A : Around} {E : Value → Shared → Prop} {s : Shared} {a C D : Addr} {o : Obj} {K : PySem.W.Frag} {bm : List Value}
end
section
variable {X : Cx} {a : Addr} {oe : Obj} {C D : Addr} {bm : List Value}
noncomputable def wIsn (i : Nat) (a : Addr) : WE := fun τ G q => τ[i]? = some (some (.ref a)) ∧ q (.bl false) G
end
end L2
namespace L2
open PySem PySem.Spec PyProof.Rows
end L2
namespace L2
open PySem PySem.Spec PyProof.Rows
noncomputable def jEnumL (ta : WA) : WI := fun τ G r => ta τ G fun ws G1 => match ws with
  | [.ref a] => ∃ l, G1 a = some (.lst l) ∧ r (enumW 0 l) (fun G => G a = some (.lst l)) G1
  | _ => False
end L2
set_option maxRecDepth 100000
namespace L2
open PySem PySem.Spec PyProof.Rows
section
variable {prog : Program} {w : World} {A : Around} {E : Value → Shared → Prop} {s : Shared} {I l : Addr} {items : Array Value}
end
section
variable {X : Cx}
noncomputable def wTupRvT (te : WE) : WE := fun τ G q => te τ G fun x G1 => match x with
  | .tup ws => q (.tup ws.reverse) G1
  | _ => False
end
end L2
namespace L2
open PySem PySem.Spec PyProof.Rows
section
variable {X : Cx}
noncomputable def rIsA (neg : Bool) : W2 := fun x y G q => match y with
  | .non => q (.bl (neg ^^ isNon x)) G
  | .bl b => match x with
    | .bl a => q (.bl (neg ^^ (a == b))) G
    | _ => False
  | _ => False
end
end L2
set_option maxRecDepth 100000
namespace L2
open PySem PySem.Spec PyProof.Rows
section
variable {X : Cx} {pins : List (Addr × Obj)} {σ : St} {H0 H : Hp} {s0 s : Shared} {a T C D : Addr}
variable {bm bmD : List Value} {x : Str} {p pos : Pos} {name : Option Str} {body : List Stmt} {rest : List ExceptHandler} {b0 : Stmt} {th : WS}
end
end L2
set_option maxRecDepth 100000
namespace L2
open PySem PySem.Spec PyProof.Rows
structure RoomN (k : Nat) (A : Around) : Prop where
  dp : A.depth + 3 * k + 5 < recursionLimit
  un : A.units + 16 * k + 200 < cLine
structure FnN (P : Program) (w : World) (K : PySem.W.Frag) (mg : Str → Option Value) (base : Heap) (CX : CXT) (k : Nat) (f : Addr) (fd : FuncData) (ps : List Str) (sp : Sp) : Prop where
  len : ∀ vs H Q E, sp vs H Q E → vs.length = ps.length
  run : ∀ (A : Around) (outer : List Env) (s : Shared) (H : Hp) (args : Args) (us : List Value) (vs : List V) (Q : VK) (E : XK), RoomN k A → Env0 P w K mg base A outer s H → BindsTo s fd args (ps.zip us) → Vals vs us → sp vs H Q E →
    codeAny (model P w) A (.call (.ref f) args) (CR CX outer P w H s Q E) s
section
variable {X : Cx}
end
end L2
namespace L2
open PySem PySem.Spec PyProof.Rows
section
variable {P : Program} {w : World} {K : PySem.W.Frag} {mg : Str → Option Value} {base : Heap} {k : Nat} {f : Addr} {fd : FuncData} {ps : List Str} {sp sp' : WSp}
end
end L2
set_option maxRecDepth 100000
namespace L2
open PySem PySem.Spec PyProof.Rows
section
variable {K : PySem.W.Frag} {H : Hp}
end
section
variable {X : Cx}
structure Mt (P : Program) (w : World) (K : PySem.W.Frag) (mg : Str → Option Value) (base : Heap) (C : Addr) (m : Str) (ps : List Str) (k : Nat) (sp : WSp) (dws : List W) : Prop where
  ex : ∃ (f : Addr) (fd : FuncData) (ds : List Value) (dvs : List V), Meth K C m f ∧ WFn P w K mg base k f fd ps sp ∧ Binds K fd ps ds ∧ Vals dvs ds ∧ ∀ H, Reps K H dws dvs
  cl : Cls K C
section
variable {P : Program} {w : World} {K : PySem.W.Frag} {mg : Str → Option Value} {base : Heap} {C : Addr} {m qual : Str} {st : Stmt} {ps : List Str} {k : Nat} {sp : WSp} {dws : List W}
end
theorem lnZ {α : Type} {p : List α → Prop} (h : p []) (us : List α) (e : us.length = 0) : p us := by
  rw [List.eq_nil_of_length_eq_zero e]; exact h
theorem lnS {α : Type} {n : Nat} {p : List α → Prop} (h : ∀ a, ∀ us : List α, us.length = n → p (a :: us)) (us : List α) (e : us.length = n + 1) : p us := by
  cases us with
  | nil => exact absurd e (Nat.succ_ne_zero n).symm
  | cons a us => exact h a us (Nat.succ.inj e)
end
end L2
namespace L2
open PySem PySem.Spec PyProof.Rows
open PySem.W (kla_fn kla_obj tabObj CodeHd envX)
set_option maxRecDepth 100000
set_option linter.all false
noncomputable def wV1 : W → V
  | .non => .non | .bl b => .bl b | .int i => .int i | .str x => .str x | .ref a => .ref a | .tup _ => .non | .scr _ => .non
noncomputable def simp1 : W → Bool
  | .tup _ => false | .scr _ => false | _ => true
theorem Rep.flat1 {K : PySem.W.Frag} {H : Hp} {w : W} {v : V} (r : Rep K H w v) (h : simp1 w = true) : v = wV1 w := by
  cases r with
  | tup _ _ => cases h
  | scr _ => cases h
  | _ => rfl
theorem rep_flat {K : PySem.W.Frag} {H : Hp} {w : W} (h : simp1 w = true) : Rep K H w (wV1 w) := by
  cases w with
  | tup _ => cases h
  | scr _ => cases h
  | non => exact .non
  | bl b => exact .bl b
  | int i => exact .int i
  | str x => exact .str x
  | ref a => exact .ref a
theorem TLe.tbl {H : Hp} {P : Addr} {ps : Array Value} (h : H P = some (.tbl ps)) (o : HO) : TLe H (upd H P o) :=
  ⟨fun _ _ e => by rw [upd_ne (ne_of e h (by intro z; cases z))]; exact e, fun _ _ _ e => by rw [upd_ne (ne_of e h (by intro z; cases z))]; exact e⟩
section
variable {X : Cx} {k : Nat} {f fl : Addr} {fd : FuncData} {ps : List Str} {x : Str} {p pos : Pos} {e : Expr} {es : List Expr} {t : WA}
noncomputable def wCallV (i : Nat) (fl : Addr) (sp : WSp) (t : WA) : WE := fun τ G q => τ[i]? = some (some (.ref fl)) ∧ wCall sp [] t τ G q
theorem qe_callV (i : Nat) {sp : WSp} (hN : X.N[i]? = some x) (hv : Vis X.env.scope x) (F : WFn X.prog X.w X.K X.mg X.base k fl fd ps sp) (hr : Room k X.A) (hfo : ∃ o, X.base.get? fl = some o ∧ o.data = .func fd) (hb : Binds X.K fd ps [])
    (ha : QA X (e :: es) t) (hdb : (x == ("__debug__" : Str)) = false := by decide) (hcd : (x == ("__classdict__" : Str)) = false := by decide) (he : starEach (e :: es) X.env = (false, eval e X.env) :: starEach es X.env := by rfl) (hpl : (backTo pos (starEach es X.env)).any (·.1) = false := by rfl) :
    QE X (.Call (.Name x p) (e :: es) [] pos) (wCallV i fl sp t) :=
  (pe_callV hN hv F hr hfo hb .nil pass0 ha hdb hcd he hpl).imp fun σ H Q ⟨τ, G, q, hs, hg, ⟨hi, ht⟩, hQ⟩ => by
    obtain ⟨v, e1, r⟩ := hs.2 i _ hi
    cases r
    exact ⟨e1, LEx.call (dws := []) (fun _ => .nil) ⟨τ, G, q, hs, hg, ht, hQ⟩⟩
noncomputable def readW (τ : WSt) : List Nat → List W → Prop
  | [], [] => True
  | i :: is, w :: ws => τ[i]? = some (some w) ∧ simp1 w = true ∧ readW τ is ws
  | _, _ => False
theorem readW.get {τ : WSt} : ∀ {is : List Nat} {ws : List W}, readW τ is ws → ∀ {j i : Nat} {w : W}, is[j]? = some i → ws[j]? = some w → τ[i]? = some (some w) ∧ simp1 w = true
  | [], [], _, _, _, _, h, _ => by simp at h
  | i :: is, w :: ws, ⟨h1, h2, h3⟩, 0, _, _, e1, e2 => by simp at e1 e2; subst e1; subst e2; exact ⟨h1, h2⟩
  | i :: is, w :: ws, ⟨h1, h2, h3⟩, j + 1, _, _, e1, e2 => readW.get h3 (j := j) (by simpa using e1) (by simpa using e2)
  | [], _ :: _, h, _, _, _, _, _ => h.elim
  | _ :: _, [], h, _, _, _, _, _ => h.elim
theorem readW.len {τ : WSt} : ∀ {is : List Nat} {ws : List W}, readW τ is ws → ws.length = is.length
  | [], [], _ => rfl
  | _ :: _, _ :: _, ⟨_, _, h⟩ => congrArg (· + 1) (readW.len h)
  | [], _ :: _, h => h.elim
  | _ :: _, [], h => h.elim
noncomputable def wCallL (P : Addr) (lpos : Pos) (is : List Nat) (sp : Addr → List W → WSp) (dws : List W) (te : WE) (t : WA) : WE := fun τ G q => te τ G fun w1 G1 =>
  ∃ ps, G1 P = some (.tbl ps) ∧ TriplesOk ps.toList ∧ codeAmong lpos ps.toList = none ∧ ∀ c', t τ (updG G1 P (.tbl (ps ++ #[rawInt lpos.line, rawInt lpos.col, .ref c']))) fun ws G2 =>
    ∃ wvs, readW τ is wvs ∧ ∀ fl, G2 fl = none → sp fl wvs (w1 :: .ref fl :: (ws ++ dws)) G2 q fun _ _ => False
structure Lam (K : PySem.W.Frag) (mg : Str → Option Value) (qual : Str) (params : Arguments) (body : Expr) (scope : Scope) (fns : List Str) (base : Heap) (fl : Addr) (fws : List W) (clos : List (Str × Addr)) (c' : Addr) (ctv : Value) : Prop where
  obj : base.get? fl = some (kla_obj "<lambda>" qual params body scope clos ((mg "__name__").getD .none) c' ctv)
  code : base.CodeRec (.ref c') qual
  mod : Mod K mg base
  cells : ∀ y cl, clos.lookup y = some cl → ∃ v, base.IsCell cl v
  len : fws.length = fns.length
  sim : ∀ (j : Nat) (w : W), fws[j]? = some w → simp1 w = true
  vals : ∀ (j : Nat) (y : Str) (w : W), fns[j]? = some y → fws[j]? = some w → ∃ cl u, clos.lookup y = some cl ∧ RelV (wV1 w) u ∧ base.IsCell cl (some u)
theorem qe_callL {c P : Addr} {params : Arguments} {body : Expr} {scope : Scope} {lpos : Pos} {clos : List (Str × Addr)} {te : WE} {is : List Nat} {fns : List Str} {sp : Addr → List W → WSp} {dws : List W} {dvs : List V} {ds : List Value}
    (T : Tab X c P) (hcl : closureFor scope X.env = pure clos) (hdef : defaultsOf params X.env = ([], [])) (hce : ∀ y cl, clos.lookup y = some cl → X.env.cells.lookup y = some cl ∧ (X.env.kindOf y = some .cell)) (hcf : ∀ y cl, clos.lookup y = some cl → X.fn y = true)
    (his : is.map (X.N[·]?) = fns.map some) (hfn : ∀ y ∈ fns, (clos.lookup y).isSome = true ∧ Vis X.env.scope y)
    (F : ∀ (base : Heap) (fl c' : Addr) (ctv : Value) (fws : List W), Lam X.K X.mg (X.env.qual ++ "<lambda>") params body scope fns base fl fws clos c' ctv → WFn X.prog X.w X.K X.mg base k f fd ps (sp fl fws))
    (hr : Room k X.A) (hg : Gl X x) (hm : X.mg x = some (.ref f)) (hk : PySem.W.keepIn X.K (.ref f) = true) (hb : Binds X.K fd ps ds) (hd : Vals dvs ds) (hdw : ∀ H, Reps X.K H dws dvs)
    (h1 : QE X e te) (ha : QA X es t) (hdb : (x == ("__debug__" : Str)) = false := by decide)
    (he : starEach (e :: .Lambda params body scope lpos :: es) X.env = (false, eval e X.env) :: starEach (.Lambda params body scope lpos :: es) X.env := by rfl) (hpl : (backTo pos (starEach es X.env)).any (·.1) = false := by rfl) :
    QE X (.Call (.Name x p) (e :: .Lambda params body scope lpos :: es) [] pos) (wCallL P lpos is sp dws te t) := by
  have key : ∀ (σ : St) (base : Heap) (fl c' : Addr) (ctv : Value) (τ : WSt) (H : Hp) (fws : List W), Made X params body scope clos σ base fl c' ctv → RelSt X.K H τ σ → readW τ is fws → Lam X.K X.mg (X.env.qual ++ "<lambda>") params body scope fns base fl fws clos c' ctv := fun σ base fl c' ctv τ H fws M hs hw => by
    have hlen : is.length = fns.length := by have := congrArg List.length his; simpa using this
    refine ⟨M.obj, M.code, M.mod, M.cells, hw.len.trans hlen, fun j w ew => ?_, fun j y w ey ew => ?_⟩
    · have hj : j < is.length := by rw [← hw.len]; exact (List.getElem?_eq_some_iff.mp ew).1
      exact (hw.get (List.getElem?_eq_getElem hj) ew).2
    · have hj : j < is.length := by rw [← hw.len]; exact (List.getElem?_eq_some_iff.mp ew).1
      obtain ⟨e1, e2⟩ := hw.get (List.getElem?_eq_getElem hj) ew
      obtain ⟨v, e3, r⟩ := hs.2 _ _ e1
      have hNi : X.N[is[j]]? = some y := by
        have z := congrArg (fun l => l[j]?) his
        simp only [List.getElem?_map, List.getElem?_eq_getElem hj, ey, Option.map_some] at z
        exact Option.some.inj z
      obtain ⟨hs1, hs2⟩ := hfn y (List.mem_of_getElem? ey)
      obtain ⟨cl, hcl'⟩ := Option.isSome_iff_exists.mp hs1
      obtain ⟨u, r1, r2⟩ := M.vals _ y v cl hNi e3 hs2 hcl'
      exact ⟨cl, u, hcl', by rw [← r.flat1 e2]; exact r1, r2⟩
  refine (pe_callL (spL := fun fl σ vs H Q E => ∃ τ fws H0, RelSt X.K H0 τ σ ∧ readW τ is fws ∧ LSp X.K (sp fl fws) vs H Q E) T hcl hdef hce hcf (fun base σ fl c' ctv M => ?_) hr hg hm hk hb hd pass0 h1 ha hdb he hpl).imp fun σ H Q ⟨τ, G, q, hs, hg, ht, hQ⟩ => ?_
  · refine ⟨fun vs H Q E ⟨τ, fws, H0, hs, hw, z⟩ => (F base fl c' ctv fws (key σ base fl c' ctv τ H0 fws M hs hw)).len vs H Q E z, fun A outer s H args us vs Q E hr e0 hb r ⟨τ, fws, H0, hs, hw, z⟩ => ?_⟩
    exact (F base fl c' ctv fws (key σ base fl c' ctv τ H0 fws M hs hw)).run A outer s H args us vs Q E hr e0 hb r z
  · refine ⟨τ, G, _, hs, hg, ht, fun v H1 w1 G1 t1 r1 g1 ⟨ps', eP, eT, eC, hq⟩ => ?_⟩
    have hP : H1 P = some (.tbl ps') := g1 P _ eP
    refine ⟨ps', hP, eT, eC, fun c' => ?_⟩
    have tt := TLe.tbl hP (.tbl (ps' ++ #[rawInt lpos.line, rawInt lpos.col, .ref c']))
    refine ⟨τ, _, _, (hs.mono t1).mono tt, g1.lay (g := .tbl (ps' ++ #[rawInt lpos.line, rawInt lpos.col, .ref c'])) tt (show upd H1 P _ P = _ from upd_same), hq c', fun vs H2 ws G2 t2 rs g2 ⟨fws, hw, hz⟩ fl hfl => ?_⟩
    refine ⟨τ, fws, H1, hs.mono t1, hw, w1 :: .ref fl :: (ws ++ dws), G2, q, _, .cons (r1.mono (tt.trans t2)) (.cons (.ref fl) (rs.append (hdw H2))), g2, hz fl (g2.fresh hfl), fun v' H3 w3 G3 t3 => hQ v' H3 w3 G3 ((t1.trans tt).trans (t2.trans t3)), fun _ _ _ _ _ _ z => z.elim⟩
end
section
variable {P : Program} {w : World} {K : PySem.W.Frag} {mg : Str → Option Value} {base : Heap} {k : Nat} {fl : Addr} {ps : List Str} {sp : WSp}
theorem fnLam {qual : Str} {params : Arguments} {body : Expr} {scope : Scope} {fns : List Str} {fws : List W} {clos : List (Str × Addr)} {c' : Addr} {ctv : Value} (L : Lam K mg qual params body scope fns base fl fws clos c' ctv) (S : LamScope ps fns scope clos)
    (len : ∀ ws G q e, sp ws G q e → ws.length = ps.length)
    (hbody : ∀ (A : Around) (outer : List Env) (s : Shared) (H : Hp) (E : XK), Room k (A.deeper (envX qual scope s.heap.objs.size fl (.ref c') clos)) →
      ∃ t, QE (cxL CX0 P w K mg base (ps ++ fns) qual scope fl (.ref c') clos A outer s H E).nox body t ∧
        ∀ (ws : List W) (G : Gp) (q : WK) (e : WX), sp ws G q e → t (ws.map some ++ fws.map some) G q) : WFn P w K mg base (k + 1) fl (kla_fn "<lambda>" qual params body scope clos ((mg "__name__").getD .none) (.ref c') ctv) ps sp := by
  refine fn_lam (fvs := fws.map wV1) L.obj L.code S L.cells (by rw [List.length_map]; exact L.len) (fun j y v ey ev => ?_) (fun vs H Q E ⟨ws, G, q, e, r, g, z, _⟩ => by rw [← r.length]; exact len _ _ _ _ z) (fun A outer s H vs Q E hr ⟨ws, G, q, e, r, g, z, hQ, _⟩ => ?_)
  · rw [List.getElem?_map] at ev
    cases ew : fws[j]? with
    | none => rw [ew] at ev; cases ev
    | some w0 => rw [ew] at ev; cases ev; exact L.vals j y w0 ey ew
  · obtain ⟨t, ht, hq⟩ := hbody A outer s H E hr
    refine ⟨_, ht.nox, ws.map some ++ fws.map some, G, q, ⟨by simp [r.length], fun i w0 e0 => ?_⟩, g, hq ws G q e z, fun v H1 w1 G1 t1 r1 g1 q1 => hQ v H1 w1 G1 t1 r1 g1 q1⟩
    by_cases hi : i < ws.length
    · rw [List.getElem?_append_left (by simpa using hi), List.getElem?_map] at e0
      cases ew : ws[i]? with
      | none => rw [ew] at e0; cases e0
      | some w2 =>
        rw [ew] at e0; cases e0
        obtain ⟨v, ev, rv⟩ := r.get ew
        exact ⟨v, by rw [List.getElem?_append_left (by rw [List.length_map, ← r.length]; exact hi), List.getElem?_map, ev]; rfl, rv⟩
    · rw [List.getElem?_append_right (by simpa using hi), List.length_map, List.getElem?_map] at e0
      cases ew : fws[i - ws.length]? with
      | none => rw [ew] at e0; cases e0
      | some w2 =>
        rw [ew] at e0; cases e0
        refine ⟨wV1 w0, ?_, rep_flat (L.sim _ _ ew)⟩
        rw [List.getElem?_append_right (by rw [List.length_map, ← r.length]; (clear L S len hbody hr r g z hQ ht hq ew; omega)), List.length_map, ← r.length, List.getElem?_map, List.getElem?_map, ew]; rfl
theorem fn3T {x qual : Str} {st : Stmt} {f : Addr} {fd : FuncData} {N : List Str} (F : Fun K x qual st f fd) (S : FnScope N ps (defScope st)) (len : ∀ ws G q e, sp ws G q e → ws.length = ps.length)
    (hbody : ∀ (cdv : Value) (A : Around) (outer : List Env) (s : Shared) (H : Hp) (E : XK), fd.code = cdv → Room k (A.deeper (envOfC qual (defScope st) s.heap.objs.size f cdv)) →
      ∃ t, QSs (cxOf CX0 P w K mg base N qual (defScope st) f cdv A outer s H E).nox (defBody st) t ∧
        ∀ (ws : List W) (G : Gp) (q : WK) (e : WX), sp ws G q e → t { nx := fun _ G1 => ∃ G0, GLe G0 G1 ∧ q .non G0, rt := fun w G1 => ∃ G0, GLe G0 G1 ∧ q w G0 } (wStart N ws) G) : WFn P w K mg base (k + 1) f fd ps sp := by
  obtain ⟨oc, od, kV, doc, pm, an, cdv, ct, osl, rfl, lk, hcd⟩ := F.ex
  refine fn_of lk hcd S (fun vs H Q E ⟨ws, G, q, e, r, g, z, _⟩ => by rw [← r.length]; exact len _ _ _ _ z) fun A outer s H vs Q E hr ⟨ws, G, q, e, r, g, z, hQ, _⟩ => ?_
  obtain ⟨t, ht, hq⟩ := hbody cdv A outer s H E rfl hr
  exact ⟨_, ht.nox, _, G, _, RelSt.start r, g, hq ws G q e z, ⟨fun σ1 H1 τ1 G1 t1 s1 g1 ⟨G0, l, q1⟩ => hQ .non H1 .non G0 t1 .non (g1.le l) q1, fun v H1 w G1 t1 r1 g1 ⟨G0, l, q1⟩ => hQ v H1 w G0 t1 r1 (g1.le l) q1, fun _ _ _ _ _ _ _ z => z.elim, fun _ _ _ _ _ _ _ z => z.elim⟩⟩
noncomputable def spLawT (T : Addr) : WSp := fun ws G q _ => ∃ ns : List Int, ws = [.scr ns] ∧ ns.length ≤ 63 ∧ G T = some (.tbl #[]) ∧ ∀ G', q (.bl true) G'
theorem law_startT {K : PySem.W.Frag} {H : Hp} {T a : Addr} {ns : List Int} (hO : OnlyT T H) (hS : SqL K H a (ns.map V.int)) (hl : ns.length ≤ 63) : LSp K (spLawT T) [.ref a] H (fun v _ => v = .bl true) fun _ _ _ => False := by
  have hscr : Scr K H a ns := by
    rcases hS with (h | h) | h
    · by_cases ha : a = T
      · rw [ha, hO.1] at h; cases h
      · rcases hO.2 a ha with z | ⟨o, xs, z⟩
        · rw [z] at h; cases h
        · rw [z] at h; cases h
    · exact .inl h
    · exact .inr h
  refine ⟨[.scr ns], fun b => if b = T then some (.tbl #[]) else none, fun w _ => w = .bl true, fun _ _ => False, .cons (.scr hscr) .nil, fun b g e => ?_, ⟨ns, rfl, hl, if_pos rfl, fun _ => rfl⟩, fun v H1 w G1 _ r _ e => (by subst e; cases r; rfl), fun _ _ _ _ _ _ z => z⟩
  by_cases hb : b = T
  · have e' := (if_pos hb).symm.trans e
    cases e'
    subst hb
    exact hO.1
  · have e' := (if_neg hb).symm.trans e
    cases e'
end
end L2
namespace L2
open PySem PySem.Spec PyProof.Rows
open PySem.W (kla_fn kla_obj tabObj CodeHd envX)
set_option maxRecDepth 100000
set_option linter.all false
noncomputable def lamA (e : Expr) : Arguments := match e with
  | .Lambda a _ _ _ => a
  | _ => { posonlyargs := [], args := [], vararg := none, kwonlyargs := [], kw_defaults := [], kwarg := none, defaults := [] }
noncomputable def lamB (e : Expr) : Expr := match e with
  | .Lambda _ b _ _ => b
  | e => e
noncomputable def lamS (e : Expr) : Scope := match e with
  | .Lambda _ _ s _ => s
  | _ => { kind := .function, names := [], isGenerator := false, isCoroutine := false }
noncomputable def asgV (s : Stmt) : Expr := match s with
  | .Assign _ v _ => v
  | _ => .Constant .none 0 ⟨0, 0, 0, 0⟩
noncomputable def argE (j : Nat) (e : Expr) : Expr := match e with
  | .Call _ es _ _ => es.getD j (.Constant .none 0 ⟨0, 0, 0, 0⟩)
  | e => e
noncomputable def FxL (P : Program) (w : World) (K : PySem.W.Frag) (mg : Str → Option Value) (x : Str) (ps : List Str) (k : Nat) (qual : Str) (le : Expr) (y : Str) (sp : Addr → List W → WSp) (dws : List W) : Prop :=
  ∃ (f : Addr) (fd : FuncData) (dvs : List V) (ds : List Value), (∀ (base : Heap) (fl c' : Addr) (ctv : Value) (fws : List W) (c0 : Addr), Lam K mg qual (lamA le) (lamB le) (lamS le) [y] base fl fws [(y, c0)] c' ctv → WFn P w K mg base k f fd ps (sp fl fws)) ∧
    mg x = some (.ref f) ∧ PySem.W.keepIn K (.ref f) = true ∧ Binds K fd ps ds ∧ Vals dvs ds ∧ ∀ H, Reps K H dws dvs
section
variable {X : Cx} {k : Nat} {ps : List Str} {x y : Str} {p pos lpos : Pos} {e b : Expr} {es : List Expr} {t : WA} {te : WE} {a : Arguments} {sc : Scope} {c P c0 : Addr} {sp : Addr → List W → WSp} {dws : List W}
theorem look1 {y z : Str} {c0 c : Addr} (h : [(y, c0)].lookup z = some c) : z = y ∧ c = c0 := by
  by_cases hz : z = y
  · subst hz; rw [List.lookup_cons_self] at h; exact ⟨rfl, (Option.some.inj h).symm⟩
  · have : (z == y) = false := by simpa using hz
    simp [List.lookup, this] at h
theorem qe_fxL (i : Nat) (F : FxL X.prog X.w X.K X.mg x ps k (X.env.qual ++ "<lambda>") (.Lambda a b sc lpos) y sp dws) (T : Tab X c P) (hr : Room k X.A) (hcl : closureFor sc X.env = pure [(y, c0)]) (hdef : defaultsOf a X.env = ([], []))
    (hce : X.env.cells.lookup y = some c0) (hki : X.env.kindOf y = some .cell) (hfn : X.fn y = true) (hN : X.N[i]? = some y) (hg : Gl X x) (h1 : QE X e te) (ha : QA X es t) (hdb : (x == ("__debug__" : Str)) = false := by decide)
    (he : starEach (e :: .Lambda a b sc lpos :: es) X.env = (false, eval e X.env) :: starEach (.Lambda a b sc lpos :: es) X.env := by rfl) (hpl : (backTo pos (starEach es X.env)).any (·.1) = false := by rfl) :
    QE X (.Call (.Name x p) (e :: .Lambda a b sc lpos :: es) [] pos) (wCallL P lpos [i] sp dws te t) := by
  obtain ⟨f, fd, dvs, ds, hF, h2, h3, h4, h5, h6⟩ := F
  refine qe_callL (fns := [y]) T hcl hdef (fun z cl hz => ?_) (fun z cl hz => ?_) ?_ (fun z hz => ?_) (fun base fl c' ctv fws L => hF base fl c' ctv fws c0 L) hr hg h2 h3 h4 h5 h6 h1 ha hdb he hpl
  · obtain ⟨rfl, rfl⟩ := look1 hz; exact ⟨hce, hki⟩
  · obtain ⟨rfl, rfl⟩ := look1 hz; exact hfn
  · simp [hN]
  · obtain rfl : z = y := by simpa using hz
    exact ⟨by rw [List.lookup_cons_self]; rfl, .inr (.inl hki)⟩
noncomputable def wClr (to : WE) : WE := fun τ G q => to τ G fun x G1 => match x with
  | .ref a => ∃ ys, G1 a = some (.lst ys) ∧ q .non (updG G1 a (.lst []))
  | _ => False
theorem bodyOfE {b : Expr} {R : WE → Prop} {t : WE} (h : QE X b t) (g : R t) : ∃ t, QE X b t ∧ R t := ⟨t, h, g⟩
theorem lam_end {K : PySem.W.Frag} {h : Heap} {c T qc qP : Addr} {qo : Value} {qd : Option Addr} {qv : Array Value} {qs : Array (Option Value)} (X : K.In h) (ql : K.lookup qc = some ⟨qo, qd, .fields qv, qs⟩) (q11 : qv[11]? = some (.ref qP)) (hc : Value.ref qc = .ref c) (hC : CodeHd h c T) : T = qP := by
  cases hc
  obtain ⟨o, vs, _, _, _, _, _, _, _, e, _, hd, h11, _⟩ := hC
  have e' := X _ _ ql
  rw [e] at e'
  cases e'
  cases hd
  rw [q11] at h11
  cases h11
  rfl
theorem ns_ne {K : PySem.W.Frag} {T : Addr} {x : Str} {v : Option Value} (h : PySem.W.nsIn K mainGlobals x = some v) (n : K.lookup T = none) : mainGlobals ≠ T := fun z => by
  rw [← z] at n
  unfold PySem.W.nsIn at h
  rw [n] at h
  cases h
theorem lamScope1 {ps : List Str} {y : Str} {sc : Scope} {c0 : Addr} (kind : sc.kind = .function) (co : sc.isCoroutine = false) (gen : sc.isGenerator = false) (nd : (ps ++ [y]).Nodup) (hp : ∀ x ∈ ps, sc.names.lookup x = some .local) (hn : ∀ q ∈ sc.names, q.2 ≠ .cell)
    (hy : sc.names.lookup y = some .free) (ho : ∀ q ∈ sc.names, q.2 ≠ .free ∨ q.1 = y) : LamScope ps [y] sc [(y, c0)] := by
  refine ⟨kind, co, gen, nd, hp, hn, fun z hz => ?_, fun z hz => ?_, fun z1 z2 c h1 h2 => ?_⟩
  · obtain rfl : z = y := by simpa using hz
    exact hy
  · rcases ho _ (PySem.mem_of_lookup hz) with h | h
    · exact absurd rfl h
    · exact ⟨c0, by rw [show z = y from h, List.lookup_cons_self]⟩
  · rw [(look1 h1).1, (look1 h2).1]
end
end L2
namespace L2
open PySem PySem.Spec PyProof.Rows
set_option linter.all false
section
variable {X : Cx}
noncomputable def rNin : W2 := fun x y G q => match y with
  | .ref a => ∃ ws, G a = some (.lst ws) ∧ x.flat = true ∧ W.flats ws = true ∧ W.deps ws ≤ 149 ∧ q (.bl (!(ws.any fun w => w.eq x))) G
  | _ => False
open Classical in
theorem q_notIn {k : Nat} (hr : Room k X.A) : QOp X (compareOp .NotIn) rNin := by
  intro pins s σ H x y v u Q I rx ry ⟨wx, wy, G, q, r1, r2, g, h, hQ⟩
  unfold rNin at h
  split at h
  · obtain ⟨ws, ea, fx, fs, hd, h⟩ := h
    cases r2
    cases ry
    obtain ⟨_, xs, e1, ra⟩ := g _ _ ea
    obtain ⟨its, rv, p, _⟩ := I.list (SqL.of e1)
    have l1 : its.length = ws.length := by rw [← rv.length, ra.length]
    have hu := hr.un
    have key : ∀ (i : Nat) (w : W) (z : Value), ws[i]? = some w → its[i]? = some z → decide (∃ w', w' ∈ ws ∧ (∃ v', Rep X.K H w' v' ∧ RelV v' z) ∧ w'.eq wx = true) = w.eq wx ∧ SeqAt.EqAt X.A.in1 s z v (w.eq wx) := fun i w z ew ez => by
      obtain ⟨va, ea1, rva⟩ := ra.get ew
      obtain ⟨ua, eua, qa⟩ := rv.get ea1
      rw [ez] at eua
      cases eua
      have fw := W.flats_get fs ew
      refine ⟨?_, (eq_rep I 150 X.A.in1 (w1 := w) (w2 := wx) (Nat.lt_of_le_of_lt (W.deps_get ew) (by (clear hr I rx r1 g hQ ea fx fs h e1 ra rv p l1 hu ew ez ea1 rva qa fw; omega))) fw fx (by show X.A.units + 1 + 150 < cLine; (clear hr I rx r1 g hQ ea fx fs hd h e1 ra rv p l1 ew ez ea1 rva qa fw; omega)) rva r1 qa rx).1⟩
      by_cases hw : w.eq wx = true
      · rw [hw]
        exact decide_eq_true ⟨w, List.mem_of_getElem? ew, ⟨va, rva, qa⟩, hw⟩
      · have : ¬ ∃ w', w' ∈ ws ∧ (∃ v', Rep X.K H w' v' ∧ RelV v' z) ∧ w'.eq wx = true := fun ⟨w', hm, ⟨v', rv', qv'⟩, he⟩ => by
          obtain ⟨j, hj⟩ := List.getElem?_of_mem hm
          have hv := qv'.inj qa
          subst hv
          have := Rep.inj (W.flats_get fs hj) fw rv' rva
          subst this
          exact hw he
        rw [decide_eq_false this]
        simpa using hw
    have hany : its.any (fun z => decide (∃ w', w' ∈ ws ∧ (∃ v', Rep X.K H w' v' ∧ RelV v' z) ∧ w'.eq wx = true)) = ws.any fun w => w.eq wx := by
      rw [Bool.eq_iff_iff, List.any_eq_true, List.any_eq_true]
      constructor
      · rintro ⟨z, hz, he⟩
        obtain ⟨w', hm, _, he'⟩ := of_decide_eq_true he
        exact ⟨w', hm, he'⟩
      · rintro ⟨w, hm, he⟩
        obtain ⟨i, hi⟩ := List.getElem?_of_mem hm
        have hi2 : i < its.length := by rw [l1]; exact (List.getElem?_eq_some_iff.mp hi).1
        have k1 := (key i w its[i] hi (List.getElem?_eq_getElem hi2)).1
        exact ⟨its[i], List.getElem_mem hi2, k1.trans he⟩
    refine SeqAt.notIn_listAt (fun z => decide (∃ w', w' ∈ ws ∧ (∃ v', Rep X.K H w' v' ∧ RelV v' z) ∧ w'.eq wx = true)) p.isList (fun z hz => ?_) ?_
    · obtain ⟨i, hi⟩ := List.getElem?_of_mem (show z ∈ its by simpa using hz)
      have hi2 : i < ws.length := by rw [← l1]; exact (List.getElem?_eq_some_iff.mp hi).1
      obtain ⟨k1, k2⟩ := key i _ z (List.getElem?_eq_getElem hi2) hi
      show SeqAt.EqAt _ s z v (decide _)
      rw [k1]
      exact k2
    · rw [show its.toArray.any (fun z => decide (∃ w', w' ∈ ws ∧ (∃ v', Rep X.K H w' v' ∧ RelV v' z) ∧ w'.eq wx = true)) = its.any (fun z => decide (∃ w', w' ∈ ws ∧ (∃ v', Rep X.K H w' v' ∧ RelV v' z) ∧ w'.eq wx = true)) by simp, hany]
      exact ⟨.bl _, H, I, rfl, hQ _ H _ G (TLe.refl H) (.bl _) g h⟩
  · exact h.elim
end
end L2
namespace Nm
inductive O where
  | z
  | c (e : O) (n : Int) (r : O)
  deriving DecidableEq
namespace O
noncomputable def cmp : O → O → Int
  | z, z => 0
  | z, c _ _ _ => -1
  | c _ _ _, z => 1
  | c e n r, c e' n' r' =>
    if cmp e e' ≠ 0 then cmp e e' else if n < n' then -1 else if n' < n then 1 else cmp r r'
noncomputable def size : O → Nat
  | z => 0
  | c e _ r => 1 + size e + size r
noncomputable def dp : O → Nat
  | z => 0
  | c e _ r => max (dp e + 1) (dp r)
noncomputable def len : O → Nat
  | z => 0
  | c _ _ r => len r + 1
noncomputable def app : O → O → O
  | z, b => b
  | c e n r, b => c e n (app r b)
noncomputable def filt (p : O → Int → Bool) : O → O
  | z => z
  | c e n r => if p e n then c e n (filt p r) else filt p r
noncomputable def same (x : O) : O → Int
  | z => 0
  | c e n r => if e = x then n + same x r else same x r
noncomputable def init : O → O
  | z => z
  | c _ _ z => z
  | c e n r => c e n (init r)
noncomputable def last : O → O
  | z => z
  | c e n z => c e n z
  | c _ _ r => last r
theorem cmp_self : ∀ a : O, cmp a a = 0
  | z => rfl
  | c e n r => by simp [cmp, cmp_self e, cmp_self r]
theorem cmp_eq : ∀ a b : O, cmp a b = 0 → a = b
  | z, z, _ => rfl
  | z, c _ _ _, h => by simp [cmp] at h
  | c _ _ _, z, h => by simp [cmp] at h
  | c e n r, c e' n' r', h => by
    unfold cmp at h
    by_cases he : cmp e e' = 0
    · rw [if_neg (by simpa using he)] at h
      by_cases h1 : n < n'
      · rw [if_pos h1] at h; (clear he h1; omega)
      · rw [if_neg h1] at h
        by_cases h2 : n' < n
        · rw [if_pos h2] at h; (clear he h1 h2; omega)
        · rw [if_neg h2] at h
          have := cmp_eq e e' he
          have := cmp_eq r r' h
          have : n = n' := by (clear h he this; omega)
          subst_vars
          rfl
    · rw [if_pos he] at h; exact absurd h he
theorem cmp_range : ∀ a b : O, cmp a b = -1 ∨ cmp a b = 0 ∨ cmp a b = 1
  | z, z => by simp [cmp]
  | z, c _ _ _ => by simp [cmp]
  | c _ _ _, z => by simp [cmp]
  | c e n r, c e' n' r' => by
    have h1 := cmp_range e e'
    have h2 := cmp_range r r'
    unfold cmp
    split
    · exact h1
    · split
      · exact .inl rfl
      · split
        · exact .inr (.inr rfl)
        · exact h2
theorem cmp_swap : ∀ a b : O, cmp b a = - cmp a b
  | z, z => rfl
  | z, c _ _ _ => rfl
  | c _ _ _, z => rfl
  | c e n r, c e' n' r' => by
    have h1 := cmp_swap e e'
    have h2 := cmp_swap r r'
    unfold cmp
    rw [h1, h2]
    by_cases he : cmp e e' = 0
    · rcases Int.lt_trichotomy n n' with k | k | k
      · have k' : ¬ n' < n := by (clear h1 h2 he; omega)
        simp [he, k, k']
      · subst k
        simp [he]
      · have k' : ¬ n < n' := by (clear h1 h2 he; omega)
        simp [he, k, k']
    · have he' : ¬ - cmp e e' = 0 := by (clear h1 h2; omega)
      simp [he, he']
theorem cmp_trans : ∀ a b d : O, cmp a b < 0 → cmp b d < 0 → cmp a d < 0
  | z, z, _, h, _ => by simp [cmp] at h
  | z, c _ _ _, z, _, h => by simp [cmp] at h
  | z, c _ _ _, c _ _ _, _, _ => by simp [cmp]
  | c _ _ _, z, _, h, _ => by simp [cmp] at h
  | c _ _ _, c _ _ _, z, _, h => by simp [cmp] at h
  | c e n r, c e' n' r', c f m t, h1, h2 => by
    have ih1 := cmp_trans e e' f
    have ih2 := cmp_trans r r' t
    have r1 := cmp_range e e'
    have r2 := cmp_range e' f
    unfold cmp at h1 h2 ⊢
    by_cases k1 : cmp e e' = 0
    · have e1 := cmp_eq e e' k1
      subst e1
      rw [if_neg (by (clear ih2 ih1 r1 r2 h1 h2; omega))] at h1
      by_cases k2 : cmp e f = 0
      · rw [if_neg (by (clear ih2 ih1 r1 r2 h1 h2 k1; omega))] at h2 ⊢
        by_cases a1 : n < n'
        · by_cases a2 : n' < m
          · rw [if_pos (by (clear ih2 ih1 r1 r2 h1 h2 k1 k2; omega))]; (clear ih2 ih1 r1 r2 h1 h2 k1 k2 a1 a2; omega)
          · rw [if_neg a2] at h2
            by_cases a3 : m < n'
            · rw [if_pos a3] at h2; (clear ih2 ih1 r1 r2 h1 k1 k2 a1 a2 a3; omega)
            · rw [if_pos (by (clear ih2 ih1 r1 r2 h1 h2 k1 k2; omega))]; (clear ih2 ih1 r1 r2 h1 h2 k1 k2 a1 a2 a3; omega)
        · rw [if_neg a1] at h1
          by_cases a2 : n' < n
          · rw [if_pos a2] at h1; (clear ih2 ih1 r1 r2 h2 k1 k2 a1 a2; omega)
          · rw [if_neg a2] at h1
            by_cases a3 : n' < m
            · rw [if_pos (by (clear ih2 ih1 r1 r2 h1 h2 k1 k2; omega))]; (clear ih2 ih1 r1 r2 h1 h2 k1 k2 a1 a2 a3; omega)
            · rw [if_neg a3] at h2
              by_cases a4 : m < n'
              · rw [if_pos a4] at h2; (clear ih2 ih1 r1 r2 h1 k1 k2 a1 a2 a3 a4; omega)
              · rw [if_neg a4] at h2
                rw [if_neg (by (clear ih2 ih1 r1 r2 h1 h2 k1 k2; omega)), if_neg (by (clear ih2 ih1 r1 r2 h1 h2 k1 k2; omega))]
                exact ih2 h1 h2
      · rw [if_pos k2] at h2 ⊢; exact h2
    · rw [if_pos k1] at h1
      by_cases k2 : cmp e' f = 0
      · have e2 := cmp_eq e' f k2
        subst e2
        rw [if_pos k1]; exact h1
      · rw [if_pos k2] at h2
        have := ih1 h1 h2
        rw [if_pos (by (clear ih1 ih2 r1 r2 h1 h2 k1 k2; omega))]; exact this
theorem len_le_size : ∀ a : O, len a ≤ size a
  | z => Nat.le_refl _
  | c e n r => by
    have := len_le_size r
    simp only [len, size]
    omega
theorem size_app : ∀ a b : O, size (app a b) = size a + size b
  | z, b => by simp [app, size]
  | c e n r, b => by simp [app, size, size_app r b]; omega
theorem size_filt (p : O → Int → Bool) : ∀ a : O, size (filt p a) ≤ size a
  | z => Nat.le_refl _
  | c e n r => by
    have := size_filt p r
    unfold filt
    split <;> simp only [size] <;> omega
noncomputable def Lt (e : O) : O → Prop
  | z => True
  | c x _ r => cmp x e < 0 ∧ Lt e r
noncomputable def NF : O → Prop
  | z => True
  | c e n r => NF e ∧ 1 ≤ n ∧ Lt e r ∧ NF r
theorem Lt.app {e : O} : ∀ {a b : O}, Lt e a → Lt e b → Lt e (app a b)
  | z, _, _, h => h
  | c _ _ _, _, h1, h2 => ⟨h1.1, Lt.app h1.2 h2⟩
theorem Lt.filt {e : O} (p : O → Int → Bool) : ∀ {a : O}, Lt e a → Lt e (O.filt p a)
  | z, _ => trivial
  | c _ _ _, h => by
    unfold O.filt
    split
    · exact ⟨h.1, Lt.filt p h.2⟩
    · exact Lt.filt p h.2
theorem NF.filt (p : O → Int → Bool) : ∀ {a : O}, NF a → NF (O.filt p a)
  | z, _ => trivial
  | c _ _ _, h => by
    unfold O.filt
    split
    · exact ⟨h.1, h.2.1, h.2.2.1.filt p, NF.filt p h.2.2.2⟩
    · exact NF.filt p h.2.2.2
end O
end Nm
namespace Nm
namespace O
theorem not_lt_self (a : O) : ¬ cmp a a < 0 := by rw [cmp_self]; omega
theorem same_z (x : O) : same x z = 0 := rfl
theorem same_eq (e : O) (n : Int) (r : O) : same e (c e n r) = n + same e r := by simp [same]
theorem same_ne {x e : O} (h : e ≠ x) (n : Int) (r : O) : same x (c e n r) = same x r := by simp [same, h]
theorem same_of_Lt {e x : O} (hx : ¬ cmp x e < 0) : ∀ {r : O}, Lt e r → same x r = 0
  | z, _ => rfl
  | c y n t, h => by
    have hy : y ≠ x := fun k => hx (k ▸ h.1)
    rw [same_ne hy]
    exact same_of_Lt hx h.2
theorem same_self {e : O} {n : Int} {r : O} (h : Lt e r) : same e (c e n r) = n := by
  rw [same_eq, same_of_Lt (not_lt_self e) h]; (clear h; omega)
noncomputable def plusO : O → O → O
  | a, z => a
  | a, c e n r => app (filt (fun x _ => decide (0 < cmp x e)) a) (c e (same e a + n) r)
end O
end Nm
namespace Nm
namespace O
theorem Lt.mono {e f : O} (h : cmp e f < 0) : ∀ {r : O}, Lt e r → Lt f r
  | z, _ => trivial
  | c _ _ _, k => ⟨cmp_trans _ _ _ k.1 h, Lt.mono h k.2⟩
end O
end Nm
namespace Nm
namespace O
noncomputable def getP : O → Nat → Option (O × Int)
  | z, _ => none
  | c e n _, 0 => some (e, n)
  | c _ _ r, i + 1 => getP r i
noncomputable def dropO : Nat → O → O
  | 0, a => a
  | _ + 1, z => z
  | i + 1, c _ _ r => dropO i r
theorem getP_none : ∀ {a : O} {i : Nat}, getP a i = none ↔ a.len ≤ i
  | z, i => by simp [getP, len]
  | c e n r, 0 => by simp [getP, len]
  | c e n r, i + 1 => by
    have := getP_none (a := r) (i := i)
    simp only [getP, len, this]; (clear this; omega)
theorem getP_some {a : O} {i : Nat} (h : i < a.len) : ∃ e n, getP a i = some (e, n) := by
  cases k : getP a i with
  | none => rw [getP_none] at k; omega
  | some p => exact ⟨p.1, p.2, rfl⟩
theorem getP_size : ∀ {a : O} {i : Nat} {e : O} {n : Int}, getP a i = some (e, n) → e.size < a.size ∧ e.dp < a.dp
  | z, _, _, _, h => by simp [getP] at h
  | c e n r, 0, _, _, h => by simp [getP] at h; obtain ⟨rfl, rfl⟩ := h; simp only [size, dp]; omega
  | c e n r, i + 1, x, m, h => by
    have := getP_size (a := r) (i := i) (e := x) (n := m) (by simpa [getP] using h)
    simp only [size, dp]; (clear h; omega)
theorem getP_NF : ∀ {a : O} {i : Nat} {e : O} {n : Int}, NF a → getP a i = some (e, n) → NF e ∧ 1 ≤ n
  | z, _, _, _, _, h => by simp [getP] at h
  | c e n r, 0, _, _, ha, h => by simp [getP] at h; obtain ⟨rfl, rfl⟩ := h; exact ⟨ha.1, ha.2.1⟩
  | c e n r, i + 1, x, m, ha, h => getP_NF (a := r) (i := i) ha.2.2.2 (by simpa [getP] using h)
noncomputable def stay (e a : O) : Nat := (filt (fun x _ => decide (0 < cmp x e)) a).len
theorem filt_c (p : O → Int → Bool) (e : O) (n : Int) (r : O) : filt p (c e n r) = if p e n then c e n (filt p r) else filt p r := rfl
noncomputable def takeO : Nat → O → O
  | 0, _ => z
  | _ + 1, z => z
  | i + 1, c e n r => c e n (takeO i r)
end O
end Nm
namespace Nm
namespace O
noncomputable def mx : O → Int
  | z => 0
  | c e n r => max n (max (mx e) (mx r))
theorem mx_c (e : O) (n : Int) (r : O) : mx (c e n r) = max n (max (mx e) (mx r)) := rfl
theorem mx_nonneg : ∀ a : O, 0 ≤ mx a
  | z => Int.le_refl _
  | c e n r => by have := mx_nonneg r; rw [mx_c]; omega
theorem mx_app : ∀ a b : O, mx (app a b) = max (mx a) (mx b)
  | z, b => by have := mx_nonneg b; show mx b = max 0 (mx b); omega
  | c e n r, b => by
    show mx (c e n (app r b)) = _
    rw [mx_c, mx_app r b, mx_c, Int.max_assoc, Int.max_assoc]
theorem mx_filt (p : O → Int → Bool) : ∀ a : O, mx (filt p a) ≤ mx a
  | z => Int.le_refl _
  | c e n r => by
    have := mx_filt p r
    rw [filt_c]
    split
    · rw [mx_c, mx_c]; omega
    · rw [mx_c]; omega
theorem getP_mx : ∀ {a : O} {i : Nat} {e : O} {n : Int}, getP a i = some (e, n) → mx e ≤ mx a ∧ n ≤ mx a
  | z, _, _, _, h => by simp [getP] at h
  | c e n r, 0, _, _, h => by simp [getP] at h; obtain ⟨rfl, rfl⟩ := h; rw [mx_c]; omega
  | c e n r, i + 1, x, m, h => by
    have := getP_mx (a := r) (i := i) (e := x) (n := m) (by simpa [getP] using h)
    rw [mx_c]; (clear h; omega)
theorem dp_app : ∀ a b : O, dp (app a b) = max (dp a) (dp b)
  | z, b => by show dp b = max 0 (dp b); omega
  | c e n r, b => by
    show dp (c e n (app r b)) = _
    simp only [dp, dp_app r b]; rw [Nat.max_assoc]
theorem dp_filt (p : O → Int → Bool) : ∀ a : O, dp (filt p a) ≤ dp a
  | z => Nat.le_refl _
  | c e n r => by
    have := dp_filt p r
    rw [filt_c]
    split <;> simp only [dp] <;> omega
structure Good (B : Int) (o : O) : Prop where
  nf : NF o
  sz : o.size ≤ 24
  mx : O.mx o ≤ B
end O
end Nm
namespace Nm
namespace O
theorem z_lt {a : O} (h : a ≠ z) : cmp z a < 0 := by
  cases a with
  | z => exact absurd rfl h
  | c _ _ _ => simp [cmp]
theorem Lt_z {t : O} (h : Lt z t) : t = z := by
  cases t with
  | z => rfl
  | c x _ _ =>
    have := h.1
    cases x <;> simp [cmp] at this
section
variable {e : O} {n : Int} {r : O}
end
end O
end Nm
namespace Nm
namespace O
section
variable {e : O} {n : Int} {r : O}
end
theorem cmp_le_c {e : O} {n : Int} {r e' : O} {n' : Int} {r' : O} (h : cmp e e' < 0 ∨ (e = e' ∧ n < n') ∨ (e = e' ∧ n = n' ∧ cmp r r' ≤ 0)) : cmp (c e n r) (c e' n' r') ≤ 0 := by
  rw [cmp]
  rcases h with h | ⟨rfl, h⟩ | ⟨rfl, rfl, h⟩
  · rw [if_pos (by omega)]; omega
  · rw [if_neg (by rw [cmp_self]; simp), if_pos h]; (clear h; omega)
  · rw [if_neg (by rw [cmp_self]; simp), if_neg (by (clear h; omega)), if_neg (by (clear h; omega))]; exact h
end O
end Nm
namespace Nm
namespace O
end O
end Nm
namespace Nm
namespace O
noncomputable def hw : O → Nat
  | z => 0
  | c e _ r => max (len r + 1) (max (hw e) (hw r))
theorem hw_c (e : O) (n : Int) (r : O) : hw (c e n r) = max (len r + 1) (max (hw e) (hw r)) := rfl
theorem len_le_hw : ∀ a : O, len a ≤ hw a
  | z => Nat.le_refl _
  | c e n r => by rw [hw_c]; simp only [len]; omega
theorem hw_le_size : ∀ a : O, hw a ≤ size a
  | z => Nat.le_refl _
  | c e n r => by
    have h1 := hw_le_size e
    have h2 := hw_le_size r
    have h3 := len_le_size r
    rw [hw_c]; simp only [size]; omega
theorem len_app' : ∀ a b : O, (app a b).len = a.len + b.len
  | z, b => by simp [app, len]
  | c e n r, b => by have := len_app' r b; simp only [app, len]; omega
theorem len_filt' (p : O → Int → Bool) : ∀ a : O, (a.filt p).len ≤ a.len
  | z => Nat.le_refl _
  | c e n r => by
    have := len_filt' p r
    rw [filt_c]
    split <;> simp only [len] <;> omega
theorem hw_app : ∀ a b : O, hw (app a b) ≤ max (len a + len b) (max (hw a) (hw b))
  | z, b => by show hw b ≤ _; omega
  | c e n r, b => by
    have ih := hw_app r b
    show hw (c e n (app r b)) ≤ _
    have l0 : len (c e n r) = len r + 1 := rfl
    have b1 : hw e ≤ hw (c e n r) := Nat.le_trans (Nat.le_max_left _ _) (Nat.le_max_right _ _)
    have b2 : hw r ≤ hw (c e n r) := Nat.le_trans (Nat.le_max_right _ _) (Nat.le_max_right _ _)
    have c1 : len (c e n r) + len b ≤ max (len (c e n r) + len b) (max (hw (c e n r)) (hw b)) := Nat.le_max_left _ _
    have c2 : hw (c e n r) ≤ max (len (c e n r) + len b) (max (hw (c e n r)) (hw b)) := Nat.le_trans (Nat.le_max_left _ _) (Nat.le_max_right _ _)
    have c3 : hw b ≤ max (len (c e n r) + len b) (max (hw (c e n r)) (hw b)) := Nat.le_trans (Nat.le_max_right _ _) (Nat.le_max_right _ _)
    generalize max (len (c e n r) + len b) (max (hw (c e n r)) (hw b)) = R at c1 c2 c3 ⊢
    rw [hw_c, len_app']
    refine Nat.max_le.mpr ⟨by (clear ih b1 b2 c2 c3; omega), Nat.max_le.mpr ⟨Nat.le_trans b1 c2, Nat.le_trans ih (Nat.max_le.mpr ⟨by (clear ih b1 b2 c2 c3; omega), Nat.max_le.mpr ⟨Nat.le_trans b2 c2, c3⟩⟩)⟩⟩
theorem hw_filt (p : O → Int → Bool) : ∀ a : O, hw (filt p a) ≤ hw a
  | z => Nat.le_refl _
  | c e n r => by
    have ih := hw_filt p r
    have h := len_filt' p r
    rw [filt_c]
    split
    · rw [hw_c, hw_c]; omega
    · rw [hw_c]; (clear h; omega)
end O
end Nm
namespace Nm
namespace O
noncomputable def lessO : O → O
  | z => z
  | c e n z => if n = 1 then z else c e (n - 1) z
  | c e n (c e' n' r') => c e n (lessO (c e' n' r'))
noncomputable def lastE : O → O
  | z => z
  | c e _ z => e
  | c _ _ (c e' n' r') => lastE (c e' n' r')
theorem less_c (e : O) (n : Int) (e' : O) (n' : Int) (r' : O) : lessO (c e n (c e' n' r')) = c e n (lessO (c e' n' r')) := by rw [lessO]
theorem lastE_c (e : O) (n : Int) (e' : O) (n' : Int) (r' : O) : lastE (c e n (c e' n' r')) = lastE (c e' n' r') := by rw [lastE]
theorem Lt.less {x : O} : ∀ {a : O}, Lt x a → Lt x (lessO a)
  | z, _ => trivial
  | c e n z, h => by
    rw [lessO]
    split
    · exact trivial
    · exact ⟨h.1, trivial⟩
  | c e n (c e' n' r'), h => by
    rw [less_c]
    exact ⟨h.1, Lt.less h.2⟩
theorem lastE_lt {x : O} : ∀ {a : O}, a ≠ z → Lt x a → cmp (lastE a) x < 0
  | z, h, _ => absurd rfl h
  | c e n z, _, h => h.1
  | c e n (c e' n' r'), _, h => by
    rw [lastE_c]
    exact lastE_lt (by simp) h.2
theorem NF.below : ∀ {a t : O}, NF a → a ≠ z → NF t → Lt (lastE a) t → NF (app (lessO a) t)
  | z, _, _, h, _, _ => absurd rfl h
  | c e n z, t, ha, _, ht, hl => by
    rw [lessO]
    split
    · exact ht
    · rename_i hn
      exact ⟨ha.1, by have := ha.2.1; (clear ha ht hl; omega), hl, ht⟩
  | c e n (c e' n' r'), t, ha, _, ht, hl => by
    rw [less_c]
    rw [lastE_c] at hl
    have hx := lastE_lt (a := c e' n' r') (by simp) ha.2.2.1
    exact ⟨ha.1, ha.2.1, Lt.app ha.2.2.1.less (hl.mono hx), NF.below ha.2.2.2 (by simp) ht hl⟩
theorem lt_of_Lt {e : O} {n : Int} {t : O} (h : Lt e t) : cmp t (c e n z) < 0 := by
  cases t with
  | z => simp [cmp]
  | c f d u =>
    have := h.1
    rw [cmp, if_pos (by (clear h; omega))]
    exact this
theorem below_lt : ∀ {a t : O}, a ≠ z → Lt (lastE a) t → cmp (app (lessO a) t) a < 0
  | z, _, h, _ => absurd rfl h
  | c e n z, t, _, hl => by
    rw [lessO]
    split
    · exact lt_of_Lt hl
    · show cmp (c e (n - 1) t) (c e n z) < 0
      rw [cmp, if_neg (by rw [cmp_self]; simp), if_pos (by (clear hl; omega))]
      (clear hl; omega)
  | c e n (c e' n' r'), t, _, hl => by
    rw [less_c]
    rw [lastE_c] at hl
    have ih := below_lt (a := c e' n' r') (by simp) hl
    show cmp (c e n (app (lessO (c e' n' r')) t)) (c e n (c e' n' r')) < 0
    rw [cmp, if_neg (by rw [cmp_self]; simp), if_neg (by (clear hl ih; omega)), if_neg (by (clear hl ih; omega))]
    exact ih
theorem cmp_app : ∀ (p t t' : O), cmp (app p t) (app p t') = cmp t t'
  | z, _, _ => rfl
  | c e n r, t, t' => by
    show cmp (c e n (app r t)) (c e n (app r t')) = _
    rw [cmp, if_neg (by rw [cmp_self]; simp), if_neg (by omega), if_neg (by omega), cmp_app r t t']
theorem app_z : ∀ a : O, app a z = a
  | z => rfl
  | c e n r => by show c e n (app r z) = _; rw [app_z r]
noncomputable def Lim (a : O) : Prop := a ≠ z ∧ same z a = 0
inductive Lad : O → Int → O → Prop where
  | suc {a : O} {n : Int} (h0 : a ≠ z) (h : lastE a = z) : Lad a n (lessO a)
  | lim {a : O} {n : Int} {o : O} (h0 : a ≠ z) (h : Lim (lastE a)) (k : Lad (lastE a) n o) : Lad a n (app (lessO a) (c o 1 z))
  | one {a : O} {n : Int} (h0 : a ≠ z) (h : lastE a ≠ z) (h' : ¬ Lim (lastE a)) : Lad a n (app (lessO a) (if n = 0 then z else c (lessO (lastE a)) n z))
theorem NF.lastE : ∀ {a : O}, NF a → NF (O.lastE a)
  | z, _ => trivial
  | c e n z, h => h.1
  | c e n (c e' n' r'), h => by
    rw [lastE_c]
    exact NF.lastE h.2.2.2
theorem less_lt {a : O} (h : a ≠ z) : cmp (lessO a) a < 0 := by
  have := below_lt (t := z) h trivial
  rwa [app_z] at this
theorem NF.less {a : O} (ha : NF a) (h : a ≠ z) : NF (lessO a) := by
  have := NF.below ha h (t := z) trivial trivial
  rwa [app_z] at this
theorem Lad.good {a o : O} {n : Int} (h : Lad a n o) (hn : 0 ≤ n) : NF a → NF o ∧ cmp o a < 0 := by
  induction h with
  | suc h0 h => exact fun ha => ⟨ha.less h0, less_lt h0⟩
  | lim h0 h k ih =>
    intro ha
    have ⟨i1, i2⟩ := ih hn ha.lastE
    exact ⟨NF.below ha h0 ⟨i1, by (clear h0 h k ih hn ha i1 i2; omega), trivial, trivial⟩ ⟨i2, trivial⟩, below_lt h0 ⟨i2, trivial⟩⟩
  | @one a n h0 h h' =>
    intro ha
    have l1 := less_lt h
    have n1 := ha.lastE.less h
    by_cases k : n = 0
    · rw [if_pos k]
      exact ⟨NF.below ha h0 trivial trivial, below_lt h0 trivial⟩
    · rw [if_neg k]
      exact ⟨NF.below ha h0 ⟨n1, by (clear h0 h h' ha l1 n1; omega), trivial, trivial⟩ ⟨l1, trivial⟩, below_lt h0 ⟨l1, trivial⟩⟩
theorem lastE_z : ∀ {b : O}, b ≠ z → lastE b = z → NF b → same z b ≠ 0
  | z, h, _, _ => absurd rfl h
  | c e n z, _, hl, hb => by
    have : e = z := hl
    subst this
    rw [same_self hb.2.2.1]
    have := hb.2.1
    (clear hl hb; omega)
  | c e n (c e' n' r'), _, hl, hb => by
    rw [lastE_c] at hl
    have hne : e ≠ z := fun q => by
      subst q
      have := hb.2.2.1.1
      cases e' <;> simp [cmp] at this
    rw [same_ne hne]
    exact lastE_z (by simp) hl hb.2.2.2
theorem Lad.of_suc {a o : O} {n : Int} (h : Lad a n o) (hz : lastE a = z) : o = lessO a := by
  cases h with
  | suc => rfl
  | lim _ h _ => exact absurd hz h.1
  | one _ h _ => exact absurd hz h
theorem less_more : ∀ a : O, (lessO a).size ≤ a.size ∧ (lessO a).dp ≤ a.dp ∧ (lessO a).len ≤ a.len
  | z => ⟨Nat.le_refl _, Nat.le_refl _, Nat.le_refl _⟩
  | c e n z => by
    rw [lessO]
    split
    · simp [size, dp, len]
    · simp [size, dp, len]
  | c e n (c e' n' r') => by
    have ih := less_more (c e' n' r')
    rw [less_c]
    obtain ⟨i1, i2, i3⟩ := ih
    generalize lessO (c e' n' r') = t at i1 i2 i3 ⊢
    generalize c e' n' r' = u at i1 i2 i3 ⊢
    simp only [size, dp, len]
    omega
theorem lastE_more : ∀ {a : O}, a ≠ z → (lastE a).size < a.size ∧ (lastE a).dp < a.dp
  | z, h => absurd rfl h
  | c e n z, _ => by simp only [lastE, size, dp]; omega
  | c e n (c e' n' r'), _ => by
    have ih := lastE_more (a := c e' n' r') (by simp)
    rw [lastE_c]
    generalize lastE (c e' n' r') = t at ih ⊢
    generalize c e' n' r' = u at ih ⊢
    simp only [size, dp]
    omega
theorem Lad.bound {a o : O} {n : Int} (h : Lad a n o) : o.size ≤ a.size * (a.dp + 1) ∧ o.dp ≤ a.dp := by
  induction h with
  | @suc a n h0 h =>
    have := less_more a
    have : a.size * 1 ≤ a.size * (a.dp + 1) := Nat.mul_le_mul_left _ (by (clear h0 h this; omega))
    (clear h0 h; omega)
  | @lim a n o h0 h k ih =>
    have h1 := less_more a
    have h2 := lastE_more h0
    rw [size_app, dp_app]
    simp only [size, dp]
    have k1 : (lastE a).size * ((lastE a).dp + 1) ≤ (a.size - 1) * a.dp := Nat.mul_le_mul (by (clear h0 h k ih h1; omega)) (by (clear h0 h k ih h1; omega))
    have k2 : (a.size - 1) * a.dp + a.dp = a.size * a.dp := by
      obtain ⟨s, hs⟩ : ∃ s, a.size = s + 1 := ⟨a.size - 1, by (clear h0 h k ih h1 k1; omega)⟩
      rw [hs, Nat.add_sub_cancel, Nat.add_mul, Nat.one_mul]
    have k3 : a.size * (a.dp + 1) = a.size * a.dp + a.size := by rw [Nat.mul_succ]
    (clear h0 h k; omega)
  | @one a n h0 h h' =>
    have h1 := less_more a
    have h2 := lastE_more h0
    have h3 := less_more (lastE a)
    have k1 : a.size * 2 ≤ a.size * (a.dp + 1) := Nat.mul_le_mul_left _ (by (clear h0 h h' h1 h3; omega))
    rw [size_app, dp_app]
    split
    · simp only [size, dp]; (clear h0 h h' h2 h3; omega)
    · simp only [size, dp]; (clear h0 h h'; omega)
theorem last_less : ∀ {a x : O} {k : Int}, last a = c x k z → lastE a = x ∧ app (init a) (if k - 1 = 0 then z else c x (k - 1) z) = lessO a
  | z, _, _, h => by cases h
  | c e m z, x, k, h => by
    have : last (c e m z) = c e m z := rfl
    rw [this] at h
    injection h with h1 h2 _
    subst h1 h2
    refine ⟨rfl, ?_⟩
    rw [lessO]
    show (if m - 1 = 0 then z else c e (m - 1) z) = _
    by_cases q : m = 1
    · rw [if_pos q, if_pos (by (clear this; omega))]
    · rw [if_neg q, if_neg (by (clear this; omega))]
  | c e m (c e' m' r'), x, k, h => by
    have e0 : last (c e m (c e' m' r')) = last (c e' m' r') := by simp [last]
    rw [e0] at h
    have ih := last_less h
    have e2 : init (c e m (c e' m' r')) = c e m (init (c e' m' r')) := by simp [init]
    rw [lastE_c, less_c, e2, ← ih.2]
    exact ⟨ih.1, rfl⟩
end O
end Nm
namespace Nm
namespace O
theorem app_assoc : ∀ a b d : O, app (app a b) d = app a (app b d)
  | z, _, _ => rfl
  | c e k r, b, d => by show c e k (app (app r b) d) = c e k (app r (app b d)); rw [app_assoc r b d]
theorem lastE_hw : ∀ a : O, hw (lastE a) ≤ hw a
  | z => Nat.le_refl _
  | c e n z => by rw [hw_c]; simp only [lastE]; omega
  | c e n (c e' n' r') => by
    have ih := lastE_hw (c e' n' r')
    rw [lastE_c, hw_c e]
    omega
theorem less_hw : ∀ a : O, hw (lessO a) ≤ hw a
  | z => Nat.le_refl _
  | c e n z => by
    rw [lessO]
    split
    · exact Nat.zero_le _
    · rw [hw_c, hw_c]; omega
  | c e n (c e' n' r') => by
    have ih := less_hw (c e' n' r')
    have il := (less_more (c e' n' r')).2.2
    rw [less_c, hw_c, hw_c e]
    omega
theorem Lad.hw {a o : O} {n : Int} (h : Lad a n o) : O.hw o ≤ O.hw a + 1 := by
  induction h with
  | @suc a n h0 h => have := less_hw a; (clear h0 h; omega)
  | @lim a n o h0 h k ih =>
    have h1 := less_hw a
    have h2 := lastE_hw a
    have h3 := (less_more a).2.2
    have h4 := hw_app (lessO a) (c o 1 z)
    have h5 := len_le_hw a
    rw [hw_c] at h4
    simp only [len] at h4
    have : O.hw z = 0 := rfl
    (clear h0 h k; omega)
  | @one a n h0 h h' =>
    have h1 := less_hw a
    have h2 := lastE_hw a
    have h3 := (less_more a).2.2
    have h5 := len_le_hw a
    have h6 := less_hw (lastE a)
    split
    · rw [app_z]; (clear h0 h h' h2 h3 h5 h6; omega)
    · have h4 := hw_app (lessO a) (c (lessO (lastE a)) n z)
      rw [hw_c] at h4
      simp only [len] at h4
      have : O.hw z = 0 := rfl
      (clear h0 h h'; omega)
theorem NF.of_app : ∀ {p s : O}, NF (app p s) → NF s
  | z, _, h => h
  | c _ _ _, _, h => NF.of_app h.2.2.2
theorem z_le (a : O) : cmp z a ≤ 0 := by cases a <;> simp [cmp]
theorem not_lim : ∀ {y : O}, NF y → y ≠ z → ¬ Lim y → lastE y = z
  | z, _, h, _ => absurd rfl h
  | c e k z, _, _, h => by
    refine Classical.byContradiction fun q => h ⟨by simp, ?_⟩
    have : e ≠ z := q
    rw [same_ne this]; rfl
  | c e k (c e' k' r'), hy, _, h => by
    rw [lastE_c]
    refine not_lim hy.2.2.2 (by simp) fun q => h ⟨by simp, ?_⟩
    have hne : e ≠ z := fun w => by
      subst w
      have := hy.2.2.1.1
      cases e' <;> simp [cmp] at this
    rw [same_ne hne]
    exact q.2
theorem lt_suc : ∀ {y l : O}, NF y → NF l → y ≠ z → lastE y = z → cmp l y < 0 → cmp l (lessO y) ≤ 0
  | z, _, _, _, h, _, _ => absurd rfl h
  | c e k z, l, hy, hl, _, he, h => by
    have : e = z := he
    subst this
    have hk := hy.2.1
    cases l with
    | z => exact z_le _
    | c f j t =>
      have hj := hl.2.1
      rw [cmp] at h
      have hf : f = z := by
        refine Classical.byContradiction fun q => ?_
        have h1 := z_lt q
        have h2 := cmp_swap z f
        rw [if_pos (by (clear hy he hk hl h hj q; omega))] at h
        (clear hy he hk hl hj q; omega)
      subst hf
      have ht : t = z := Lt_z hl.2.2.1
      subst ht
      rw [if_neg (by rw [cmp_self]; simp)] at h
      by_cases a1 : j < k
      · rw [lessO, if_neg (by (clear hy he hk hl h; omega))]
        refine cmp_le_c ?_
        by_cases a2 : j = k - 1
        · exact .inr (.inr ⟨rfl, a2, by simp [cmp]⟩)
        · exact .inr (.inl ⟨rfl, by (clear hy he hk hj hl h; omega)⟩)
      · rw [if_neg a1] at h
        by_cases a2 : k < j
        · rw [if_pos a2] at h; (clear hy he hk hj hl a1 a2; omega)
        · rw [if_neg a2] at h; simp [cmp] at h
  | c e k (c e' k' r'), l, hy, hl, _, he, h => by
    rw [lastE_c] at he
    rw [less_c]
    cases l with
    | z => exact z_le _
    | c f j t =>
      rw [cmp] at h
      refine cmp_le_c ?_
      by_cases q : cmp f e = 0
      · have := cmp_eq _ _ q
        subst this
        rw [if_neg (by rw [cmp_self]; simp)] at h
        by_cases a1 : j < k
        · exact .inr (.inl ⟨rfl, a1⟩)
        · rw [if_neg a1] at h
          by_cases a2 : k < j
          · rw [if_pos a2] at h; (clear he hl hy q a1 a2; omega)
          · rw [if_neg a2] at h
            exact .inr (.inr ⟨rfl, by (clear he hl hy h q; omega), lt_suc hy.2.2.2 hl.2.2.2 (by simp) he h⟩)
      · rw [if_pos q] at h
        exact .inl h
end O
end Nm
namespace Nm
namespace O
theorem within : ∀ {a b : O}, NF b → a ≠ z → cmp (lessO a) b ≤ 0 → cmp b a < 0 → ∃ s, b = app (lessO a) s ∧ Lt (lastE a) s
  | z, _, _, h, _, _ => absurd rfl h
  | c e n z, b, hb, _, h1, h2 => by
    cases b with
    | z =>
      rw [lessO] at h1 ⊢
      by_cases hn : n = 1
      · rw [if_pos hn]; exact ⟨z, rfl, trivial⟩
      · rw [if_neg hn] at h1; simp [cmp] at h1
    | c x k r =>
      have hr : ¬ cmp r z < 0 := by cases r <;> simp [cmp]
      have hk := hb.2.1
      have sw := cmp_swap x e
      rw [cmp] at h2
      rw [lessO] at h1 ⊢
      by_cases q : cmp x e = 0
      · have := cmp_eq _ _ q
        subst this
        rw [if_neg (by rw [cmp_self]; simp)] at h2
        have kn : k < n := by
          by_cases a1 : k < n
          · exact a1
          · rw [if_neg a1] at h2
            by_cases a2 : n < k
            · rw [if_pos a2] at h2; (clear hb hr hk h1 sw q a1 a2; omega)
            · rw [if_neg a2] at h2; exact absurd h2 hr
        by_cases hn : n = 1
        · (clear hb hr h1 h2 sw q; omega)
        · rw [if_neg hn] at h1 ⊢
          rw [cmp, if_neg (by rw [cmp_self]; simp)] at h1
          have : k = n - 1 := by
            by_cases a1 : n - 1 < k
            · (clear hb hr hk h1 h2 sw q hn; omega)
            · rw [if_neg a1] at h1
              by_cases a2 : k < n - 1
              · rw [if_pos a2] at h1; (clear hb hr hk h2 sw q kn hn a1 a2; omega)
              · (clear hb hr hk h1 h2 sw q hn a1; omega)
          subst this
          exact ⟨r, rfl, hb.2.2.1⟩
      · rw [if_pos q] at h2
        by_cases hn : n = 1
        · rw [if_pos hn]
          exact ⟨_, rfl, h2, hb.2.2.1.mono h2⟩
        · rw [if_neg hn, cmp, if_pos (by (clear hb h1 hr hk q hn; omega))] at h1
          (clear hb hr hk q hn; omega)
  | c e n (c e' n' r'), b, hb, _, h1, h2 => by
    rw [less_c] at h1 ⊢
    rw [lastE_c]
    cases b with
    | z => simp [cmp] at h1
    | c x k r =>
      have sw := cmp_swap x e
      rw [cmp] at h1 h2
      by_cases q : cmp x e = 0
      · have := cmp_eq _ _ q
        subst this
        rw [if_neg (by rw [cmp_self]; simp)] at h1 h2
        by_cases a1 : k < n
        · rw [if_neg (by (clear hb h1 h2 sw q; omega)), if_pos a1] at h1; (clear hb h2 sw q a1; omega)
        · by_cases a2 : n < k
          · rw [if_neg (by assumption), if_pos a2] at h2; (clear hb h1 sw q a1 a2; omega)
          · rw [if_neg a2, if_neg a1] at h1
            rw [if_neg a1, if_neg a2] at h2
            have : k = n := by (clear hb h1 h2 sw q; omega)
            subst this
            obtain ⟨s, hs, hl⟩ := within (a := c e' n' r') hb.2.2.2 (by simp) h1 h2
            exact ⟨s, by rw [hs]; rfl, hl⟩
      · rw [if_pos q] at h2
        rw [if_pos (by (clear hb h1 q; omega))] at h1
        (clear hb q; omega)
structure Rg (a b : O) (n : Int) : Prop where
  pos : 0 ≤ n
  pass : ∀ o, Lad a n o → cmp b o < 0
  least : 0 < n → ∀ o, Lad a (n - 1) o → ¬ cmp b o < 0
theorem cmp_foot (p s : O) : cmp p (app p s) = cmp z s := by
  have := cmp_app p z s
  rw [app_z] at this
  exact this
theorem le_lt {a b d : O} (h1 : cmp a b ≤ 0) (h2 : cmp b d < 0) : cmp a d < 0 := by
  by_cases q : cmp a b = 0
  · rw [cmp_eq _ _ q]; exact h2
  · exact cmp_trans a b d (by (clear h2; omega)) h2
end O
end Nm
namespace Nm
namespace O
end O
end Nm
namespace Nm
namespace O
noncomputable def lowAt (i : Nat) (e : O) (m : Int) (t a : O) : O := app (takeO i a) (app (if 0 < m then c e m z else z) t)
theorem getP_Lt {x : O} : ∀ {a : O} {i : Nat} {e : O} {n : Int}, Lt x a → getP a i = some (e, n) → cmp e x < 0
  | z, _, _, _, _, h => by simp [getP] at h
  | c e n r, 0, _, _, hl, h => by
    simp only [getP, Option.some.injEq, Prod.mk.injEq] at h
    rw [← h.1]; exact hl.1
  | c e n r, i + 1, _, _, hl, h => getP_Lt (a := r) (i := i) hl.2 (by simpa [getP] using h)
theorem Lt.take {x : O} : ∀ (i : Nat) {a : O}, Lt x a → Lt x (takeO i a)
  | 0, _, _ => trivial
  | _ + 1, z, _ => trivial
  | i + 1, c _ _ _, h => ⟨h.1, Lt.take i h.2⟩
theorem lowAt_lt {e : O} {n m : Int} {t : O} (h0 : 0 ≤ m) (h1 : m < n) (ht : NF t) (hl : Lt e t) : ∀ {i : Nat} {a : O}, NF a → getP a i = some (e, n) → NF (lowAt i e m t a) ∧ cmp (lowAt i e m t a) a < 0
  | _, z, _, h => by simp [getP] at h
  | 0, c e' n' r, ha, h => by
    simp only [getP, Option.some.injEq, Prod.mk.injEq] at h
    obtain ⟨rfl, rfl⟩ := h
    show NF (app (if 0 < m then c e' m z else z) t) ∧ cmp (app (if 0 < m then c e' m z else z) t) (c e' n' r) < 0
    split
    · refine ⟨⟨ha.1, by assumption, hl, ht⟩, ?_⟩
      show cmp (c e' m t) (c e' n' r) < 0
      rw [cmp, if_neg (by rw [cmp_self]; simp), if_pos h1]
      (clear h0 ht ha hl h1; omega)
    · refine ⟨ht, ?_⟩
      show cmp t (c e' n' r) < 0
      cases t with
      | z => simp [cmp]
      | c x k u =>
        have := hl.1
        rw [cmp, if_pos (by (clear h0 ha h1 ht hl; omega))]
        exact this
  | i + 1, c x k r, ha, h => by
    have h' : getP r i = some (e, n) := by simpa [getP] using h
    have ih := lowAt_lt h0 h1 ht hl ha.2.2.2 h'
    have hx := getP_Lt ha.2.2.1 h'
    show NF (c x k (lowAt i e m t r)) ∧ cmp (c x k (lowAt i e m t r)) (c x k r) < 0
    refine ⟨⟨ha.1, ha.2.1, ?_, ih.1⟩, ?_⟩
    · refine Lt.app (ha.2.2.1.take i) (Lt.app ?_ (hl.mono hx))
      split
      · exact ⟨hx, trivial⟩
      · exact trivial
    · rw [cmp, if_neg (by rw [cmp_self]; simp), if_neg (by (clear h0 h1 ht hl ha h h' ih hx; omega)), if_neg (by (clear h0 h1 ht hl ha h h' ih hx; omega))]
      exact ih.2
theorem take_part : ∀ {a : O} {i : Nat} {e : O} {n : Int}, getP a i = some (e, n) → (takeO i a).size + e.size + 1 ≤ a.size
  | z, _, _, _, h => by simp [getP] at h
  | c e n r, 0, _, _, h => by
    simp only [getP, Option.some.injEq, Prod.mk.injEq] at h
    rw [← h.1]
    simp only [takeO, size]
    (clear h; omega)
  | c e n r, i + 1, _, _, h => by
    have := take_part (a := r) (i := i) (by simpa [getP] using h)
    simp only [takeO, size]
    (clear h; omega)
theorem mx_take : ∀ (i : Nat) (a : O), mx (takeO i a) ≤ mx a
  | 0, a => mx_nonneg a
  | _ + 1, z => Int.le_refl _
  | i + 1, c e n r => by have := mx_take i r; rw [takeO, mx_c, mx_c]; omega
theorem dp_take : ∀ (i : Nat) (a : O), (takeO i a).dp ≤ a.dp
  | 0, a => Nat.zero_le _
  | _ + 1, z => Nat.le_refl _
  | i + 1, c e n r => by have := dp_take i r; simp only [takeO, dp]; omega
theorem len_take : ∀ (i : Nat) (a : O), (takeO i a).len ≤ a.len
  | 0, a => Nat.zero_le _
  | _ + 1, z => Nat.le_refl _
  | i + 1, c e n r => by have := len_take i r; simp only [takeO, len]; omega
theorem lowAt_more {e : O} {n m : Int} {t : O} {i : Nat} {a : O} (h0 : 0 ≤ m) (h1 : m < n) (h : getP a i = some (e, n)) :
    (lowAt i e m t a).size ≤ a.size + t.size ∧ (lowAt i e m t a).dp ≤ max a.dp t.dp ∧ mx (lowAt i e m t a) ≤ max (mx a) (mx t) ∧ (lowAt i e m t a).len ≤ a.len + 1 + t.len := by
  have a1 := take_part h
  have a2 := getP_size h
  have a3 := getP_mx h
  have a4 := mx_take i a
  have a5 := dp_take i a
  have a6 := mx_nonneg t
  have a7 := len_take i a
  unfold lowAt
  rw [size_app, dp_app, mx_app, len_app', size_app, dp_app, mx_app, len_app']
  split
  · simp only [size, dp, mx, len]
    refine ⟨by (clear h0 h1 h a2 a3 a4 a5 a6 a7; omega), by (clear h0 h1 h a1 a3 a4 a6 a7; omega), ?_, by (clear h0 h1 h a1 a2 a3 a4 a5 a6; omega)⟩
    (clear h0 h a1 a2 a5 a6 a7; omega)
  · simp only [size, dp, mx, len]
    refine ⟨by (clear h0 h1 h a2 a3 a4 a5 a6 a7; omega), by (clear h0 h1 h a1 a2 a3 a4 a6 a7; omega), ?_, by (clear h0 h1 h a1 a2 a3 a4 a5 a6; omega)⟩
    (clear h0 h1 h a1 a2 a3 a5 a7; omega)
theorem Lt.filt_at (e : O) : ∀ {a : O}, Lt e (O.filt (fun y _ => decide (cmp y e = -1)) a)
  | z => trivial
  | c y n r => by
    unfold O.filt
    split
    · rename_i h
      have h' : cmp y e = -1 := by simpa using h
      exact ⟨by (clear h; omega), Lt.filt_at e⟩
    · exact Lt.filt_at e
end O
end Nm
namespace Nm
namespace O
noncomputable def wh (m : Int) : O := if m = 0 then z else c z m z
end O
end Nm
namespace Nm
namespace O
noncomputable abbrev one : O := c z 1 z
noncomputable abbrev lim (b : O) : O := filt (fun y _ => decide (¬ y = z)) b
end O
end Nm
namespace Nm
namespace O
section
variable {x : O} {n m : Int}
end
end O
end Nm
namespace Nm
namespace O
noncomputable abbrev w1 : O := c one 1 z
end O
end Nm
namespace Nm
namespace O
end O
end Nm
namespace Nm
namespace O
noncomputable def ot : O → Int
  | z => 0
  | c _ n r => max n (ot r)
end O
end Nm
namespace Nm
namespace O
end O
end Nm
namespace Nm
namespace O
noncomputable def val (b : Nat) : O → Nat
  | z => 0
  | c e n r => n.toNat * b ^ val b e + val b r
structure Wr (b : Nat) (a : O) : Prop where
  nf : NF a
  mx : O.mx a < b
end O
end Nm
namespace Nm
namespace O
noncomputable def tp (b : Nat) : O → Nat
  | z => 0
  | c e _ _ => val b e + 1
end O
end Nm
namespace Nm
namespace O
open Classical in
noncomputable def rep (b s : Nat) : O := if h : ∃ o, Wr b o ∧ val b o = s then choose h else z
noncomputable def tl (b : Nat) : Nat → O
  | 0 => z
  | s + 1 => c (rep b s) ((b : Int) - 1) (tl b s)
end O
end Nm
namespace Nm
namespace O
inductive Wy (b : Nat) : O → Prop where
  | z : Wy b z
  | c {a : O} (h0 : a ≠ O.z) (nf : NF a) (w : Wr b (lessO a)) (k : Wy b (lastE a)) : Wy b a
end O
end Nm
namespace Nm
namespace O
end O
end Nm
namespace Nm
namespace O
noncomputable def xb (b : Nat) : Nat := if b * b ≤ 55 then b else 54 / b + 1
noncomputable def topO (b : Nat) : O := if b < 56 then c (c z 1 z) (xb b : Int) z else c z 55 z
structure Rw (b k : Nat) (a : O) : Prop where
  wr : Wr (b + k) a
  top : Lt (topO b) a
  tp : O.tp (b + k) a ≤ 200
end O
end Nm
namespace Nm
namespace O
structure Hi (b : Nat) (a p e : O) (n : Int) : Prop where
  app : a = O.app p (c e n z)
  wp : Wr b p
  we : Wr b e
  n1 : 1 ≤ n
  n2 : n < b
  last : lastE a = e
  div : ∃ q, val b p = q * b ^ (val b e + 1)
  lt : p ≠ z → cmp e (lastE p) < 0
  dp : p.dp ≤ a.dp
  de : e.dp < a.dp
  top : ∀ x, Lt x a → Lt x p
end O
end Nm
namespace Nm
namespace O
theorem foot_lt (p s : O) (h : s ≠ z) : cmp p (app p s) < 0 := by
  rw [cmp_foot]
  cases s with
  | z => exact absurd rfl h
  | c _ _ _ => simp [cmp]
theorem Lad.all {a o : O} {k : Int} (h : Lad a k o) : ∀ {b : O}, NF a → NF b → Lim a → cmp b a < 0 → mx b + 1 ≤ k → cmp b o < 0 := by
  induction h with
  | suc h0 h => exact fun na _ hl _ _ => absurd hl.2 (lastE_z h0 h na)
  | @lim a k o h0 hl hk ih =>
    intro b na nb _ hb hm
    rcases Int.lt_or_le 0 (cmp (lessO a) b) with h1 | h1
    · have h2 : cmp b (lessO a) ≤ 0 := by have := cmp_swap b (lessO a); (clear h0 hl hk ih na nb hb hm; omega)
      exact le_lt h2 (foot_lt _ _ (fun z => by cases z))
    · obtain ⟨s, rfl, hs⟩ := within nb h0 h1 hb
      rw [cmp_app]
      cases s with
      | z => simp [cmp]
      | c x n r =>
        have ms := mx_app (lessO a) (c x n r)
        rw [mx_c] at ms
        have nx := NF.of_app nb
        have := ih na.lastE nx.1 hl hs.1 (by (clear h0 hl hk ih na hs nb hb h1 nx; omega))
        rw [cmp, if_pos (by (clear h0 hl hk ih na hs nb hb hm h1 ms nx; omega))]
        exact this
  | @one a k h0 h1 h2 =>
    intro b na nb _ hb hm
    have m0 := mx_nonneg b
    rw [if_neg (by (clear h0 h1 h2 na nb hb; omega))]
    rcases Int.lt_or_le 0 (cmp (lessO a) b) with h3 | h3
    · have h4 : cmp b (lessO a) ≤ 0 := by have := cmp_swap b (lessO a); (clear h0 h1 h2 na nb hb hm m0; omega)
      exact le_lt h4 (foot_lt _ _ (fun z => by cases z))
    · obtain ⟨s, rfl, hs⟩ := within nb h0 h3 hb
      rw [cmp_app]
      cases s with
      | z => simp [cmp]
      | c x n r =>
        have ms := mx_app (lessO a) (c x n r)
        rw [mx_c] at ms
        have nx := NF.of_app nb
        have hx := lt_suc na.lastE nx.1 h1 (not_lim na.lastE h1 h2) hs.1
        by_cases he : cmp x (lessO (lastE a)) = 0
        · rw [cmp, if_neg (by simpa using he), if_pos (by (clear h0 h1 h2 na hs nb hb m0 h3 nx hx he; omega))]
          (clear h0 h1 h2 na hs nb hb hm m0 h3 ms nx hx he; omega)
        · rw [cmp, if_pos he]
          (clear h0 h1 h2 na hs nb hb hm m0 h3 ms nx; omega)
end O
end Nm
namespace Nm
inductive Tr where
  | z
  | c (b r : Tr)
namespace Tr
noncomputable def pts : Tr → Nat
  | z => 1
  | c b r => pts b + pts r
noncomputable def dp : Tr → Nat
  | z => 0
  | c b r => max (dp b + 1) (dp r)
noncomputable def len : Tr → Nat
  | z => 0
  | c _ r => len r + 1
noncomputable def sm (f : Nat → Nat) : Nat → Nat
  | 0 => 0
  | n + 1 => sm f n + f n
structure Hang (n M : Nat) (ch : Nat → List Nat) (ds : Nat → Nat) : Prop where
  pos : 1 ≤ n
  d0 : ds 0 = 0
  in_ : ∀ v, v < n → ∀ j, j ∈ ch v → v < j ∧ j < n ∧ ds j = ds v + 1
  dp : ∀ v, v < n → ds v ≤ M
  sum : ∀ f : Nat → Nat, sm (fun v => ((ch v).map f).sum) n + f 0 = sm f n
  len : ∀ v, v < n → (ch v).length ≤ n
structure Grown (n M k : Nat) (ch : Nat → List Nat) (ds : Nat → Nat) (t : Nat → Tr) : Prop where
  pts : ∀ v, k ≤ v → v < n → Tr.pts (t v) = 1 + ((ch v).map fun j => Tr.pts (t j)).sum
  dp : ∀ v, k ≤ v → v < n → Tr.dp (t v) + ds v ≤ M
end Tr
end Nm
namespace Nm
namespace Tr
open O
noncomputable def app : Tr → Tr → Tr
  | z, u => u
  | c b r, u => c b (app r u)
end Tr
end Nm
namespace Nm
namespace Tr
open O
end Tr
end Nm
namespace Nm
namespace Tr
open O
end Tr
end Nm
namespace Nm
namespace Tr
end Tr
end Nm
namespace Nm
namespace Tr
open O
end Tr
end Nm
namespace Nm
namespace Tr
noncomputable def isz : Tr → Bool
  | z => true
  | c _ _ => false
noncomputable def bare : Tr → Nat
  | z => 0
  | c b r => (if isz b = true then 1 else bare b) + bare r
noncomputable def ahead : List Nat → List Nat → Bool
  | [], [] => false
  | [], _ :: _ => true
  | _ :: _, [] => false
  | x :: u, y :: v => if x = y then ahead u v else decide (x < y)
end Tr
end Nm
namespace Nm
namespace O
inductive Ru (n : Int) : O → O → Prop
  | less {a : O} : a ≠ .z → lastE a = .z → Ru n a (lessO a)
  | succ {a : O} : a ≠ .z → lastE a ≠ .z → lastE (lastE a) = .z → Ru n a (O.app (lessO a) (.c (lessO (lastE a)) n .z))
  | lim {a o : O} : a ≠ .z → lastE a ≠ .z → lastE (lastE a) ≠ .z → Ru n (lastE a) o → Ru n a (O.app (lessO a) (.c o 1 .z))
end O
namespace Tr
open O
end Tr
end Nm
namespace Nm
namespace O
end O
end Nm
namespace Nm
namespace O
structure Bd (d s : Nat) (m : Int) (o : O) : Prop where
  nf : o.NF
  dp : o.dp ≤ d
  sz : o.size ≤ s
  mx : O.mx o ≤ m
end O
end Nm
namespace Nm
namespace O
end O
end Nm
namespace Nm
namespace O
end O
end Nm
namespace Nm
namespace O
end O
end Nm
namespace Nm
namespace O
end O
end Nm
namespace Nm
namespace O
noncomputable def e1 : O := c z 1 z
inductive Far (B k l : Nat) : Prop
  | two : B = 2 → k = 16 → l < 2 → Far B k l
  | three : B = 3 → k = 27 → l < 3 → Far B k l
end O
end Nm
namespace Nm
namespace O
end O
end Nm
namespace Nm
namespace O
inductive Dn (f : Nat → Int) (a : O) : List O → O → Prop where
  | one : Dn f a [a] a
  | step {os : List O} {b o : O} (h : Dn f a os b) (hb : b ≠ z) (l : Lad b (f (os.length - 1)) o) : Dn f a (os ++ [o]) o
theorem Dn.pos {f : Nat → Int} {a b : O} {os : List O} (h : Dn f a os b) : 0 < os.length := by
  cases h <;> simp
theorem Dn.first {f : Nat → Int} {a b : O} {os : List O} (h : Dn f a os b) : os[0]? = some a := by
  induction h with
  | one => rfl
  | step h hb l ih => rw [List.getElem?_append_left h.pos]; exact ih
theorem Dn.last {f : Nat → Int} {a b : O} {os : List O} (h : Dn f a os b) : os[os.length - 1]? = some b := by
  cases h with
  | one => rfl
  | step h hb l => simp
theorem Dn.all {f : Nat → Int} {a b : O} {os : List O} (h : Dn f a os b) (hf : ∀ i, 0 ≤ f i) (na : NF a) : ∀ x, x ∈ os → NF x ∧ x.dp ≤ a.dp ∧ hw x ≤ hw a + os.length := by
  induction h with
  | one => intro x hx; have := List.mem_singleton.mp hx; subst this; exact ⟨na, Nat.le_refl _, by (clear hf na hx; omega)⟩
  | @step os b o h hb l ih =>
    intro x hx
    have hb' := ih b (List.mem_of_getElem? h.last)
    rw [List.length_append, List.length_singleton]
    rcases List.mem_append.mp hx with hx | hx
    · have := ih x hx
      exact ⟨this.1, this.2.1, by (clear hf na h hb l ih hb' hx; omega)⟩
    · have e := List.mem_singleton.mp hx
      subst e
      have g := l.good (hf _) hb'.1
      have d := l.bound.2
      have w := l.hw
      exact ⟨g.1, by (clear hf na h hb ih l hx g w; omega), by (clear hf na h hb ih l hx g d; omega)⟩
end O
end Nm
namespace L2
open PySem PySem.Spec PyProof.Rows Nm
noncomputable def encP : O → List W
  | .z => []
  | .c e n r => .tup [.tup (encP e), .int n] :: encP r
noncomputable def enc (o : O) : W := .tup (encP o)
noncomputable def prt (e : O) (n : Int) : W := .tup [enc e, .int n]
theorem encP_c (e : O) (n : Int) (r : O) : encP (.c e n r) = prt e n :: encP r := rfl
theorem encP_length : ∀ a : O, (encP a).length = a.len
  | .z => rfl
  | .c e n r => by rw [encP_c, List.length_cons, encP_length r]; rfl
theorem prt_flat {e : O} {n : Int} (h : W.flats (encP e) = true) : (prt e n).flat = true := by
  simp [prt, enc, W.flat, W.flats, h]
theorem encP_flat : ∀ a : O, W.flats (encP a) = true
  | .z => by simp [encP, W.flats]
  | .c e n r => by
    rw [encP_c]
    simp [W.flats, prt_flat (encP_flat e), encP_flat r]
theorem enc_flat (a : O) : (enc a).flat = true := by simp [enc, W.flat, encP_flat a]
theorem encP_dep : ∀ a : O, W.deps (encP a) ≤ 2 * a.dp
  | .z => by simp [encP, W.deps]
  | .c e n r => by
    have h1 := encP_dep e
    have h2 := encP_dep r
    rw [encP_c]
    simp only [W.deps, prt, enc, W.dep, O.dp]
    omega
theorem enc_dep (a : O) : (enc a).dep ≤ 2 * a.dp + 1 := by
  have := encP_dep a
  simp only [enc, W.dep]
  omega
theorem encP_eq : ∀ a b : O, W.eqs (encP a) (encP b) = decide (a = b)
  | .z, .z => by simp [encP, W.eqs]
  | .z, .c _ _ _ => by simp [encP, W.eqs]
  | .c _ _ _, .z => by simp [encP, W.eqs]
  | .c e n r, .c e' n' r' => by
    have h1 := encP_eq e e'
    have h2 := encP_eq r r'
    simp only [encP, W.eqs, W.eq, h1, h2, Bool.and_true]
    rw [Bool.eq_iff_iff]
    simp only [Bool.and_eq_true, decide_eq_true_eq, beq_iff_eq, O.c.injEq]
    constructor
    · rintro ⟨⟨a, b⟩, c⟩; exact ⟨a, b, c⟩
    · rintro ⟨a, b, c⟩; exact ⟨⟨a, b⟩, c⟩
theorem enc_eq (a b : O) : (enc a).eq (enc b) = decide (a = b) := by simp only [enc, W.eq]; exact encP_eq a b
end L2
namespace L2
open PySem PySem.Spec PyProof.Rows Nm
theorem tup_eq (a b : O) : (W.tup (encP a)).eq (W.tup (encP b)) = decide (a = b) := enc_eq a b
theorem tup_flat (a : O) : (W.tup (encP a)).flat = true := enc_flat a
theorem tup_dep (a : O) : (W.tup (encP a)).dep ≤ 2 * a.dp + 1 := enc_dep a
noncomputable def cmpZ (n m : Int) : Int := if n < m then -1 else if m < n then 1 else 0
noncomputable def cmpP (e : O) (n : Int) (e' : O) (n' : Int) : Int := if O.cmp e e' ≠ 0 then O.cmp e e' else cmpZ n n'
theorem cmp_c (e : O) (n : Int) (r e' : O) (n' : Int) (r' : O) : O.cmp (.c e n r) (.c e' n' r') = if cmpP e n e' n' ≠ 0 then cmpP e n e' n' else O.cmp r r' := by
  unfold cmpP cmpZ
  rw [O.cmp]
  by_cases h : O.cmp e e' = 0
  · rcases Int.lt_trichotomy n n' with k | k | k
    · have k' : ¬ n' < n := by (clear h; omega)
      simp [h, k]
    · subst k
      simp [h]
    · have k' : ¬ n < n' := by (clear h; omega)
      simp [h, k, k']
  · simp [h]
theorem encP_app : ∀ a b : O, encP (a.app b) = encP a ++ encP b
  | .z, b => by simp [O.app, encP]
  | .c e n r, b => by
    show encP (.c e n (r.app b)) = _
    rw [encP_c, encP_c, encP_app r b]
    rfl
theorem atI0 {α : Type} (x : α) (xs : List α) : atI (x :: xs) 0 = some x := by
  simp [atI, ixN]
theorem atI1 {α : Type} (x y : α) (xs : List α) : atI (x :: y :: xs) 1 = some y := by
  have h : (1 : Int) < ((xs.length : Int) + 1 + 1) := by omega
  simp [atI, ixN, h]
theorem int_flat (i : Int) : (W.int i).flat = true := by simp [W.flat]
theorem int_dep (i : Int) : (W.int i).dep = 0 := by simp [W.dep]
theorem int_eq (i j : Int) : (W.int i).eq (W.int j) = (i == j) := by simp [W.eq]
theorem nil_flat : (W.tup []).flat = true := by simp [W.flat, W.flats]
theorem nil_dep : (W.tup []).dep = 1 := by simp [W.dep, W.deps]
theorem tup_nil_eq (a : O) : (W.tup (encP a)).eq (W.tup []) = decide (a = .z) := enc_eq a .z
theorem beqZ (i j : Int) : (i == j) = decide (i = j) := by
  by_cases h : i = j <;> simp [h]
theorem GLe.done {G : Gp} {q : Gp → Prop} (h : q G) : ∃ G0, GLe G0 G ∧ q G0 := ⟨G, GLe.refl G, h⟩
theorem loopW_ind {C : Gp → Prop} {g : WG} {tb : WS} {d : WEnds} (Iv : List W → WSt → Gp → Prop) (stop : ∀ τ G, Iv [] τ G → C G ∧ d.nx τ G)
    (step : ∀ w ws τ G (k : WSt → Gp → Prop), Iv (w :: ws) τ G → (∀ τ3 G3, Iv ws τ3 G3 → k τ3 G3) → C G ∧ g w τ G fun τ2 G2 => tb { d with nx := k, ct := k, bk := d.nx } τ2 G2) : ∀ ws τ G, Iv ws τ G → loopW C g tb d ws τ G
  | [], τ, G, h => stop τ G h
  | w :: ws, τ, G, h => step w ws τ G _ h fun τ3 G3 h3 => loopW_ind Iv stop step ws τ3 G3 h3
theorem zip_nil {x y : O} (h : zipW (encP x) (encP y) = []) : x = .z ∨ y = .z := by
  cases x with
  | z => exact .inl rfl
  | c e n r =>
    cases y with
    | z => exact .inr rfl
    | c e' n' r' => simp [encP, zipW] at h
theorem zip_cons {x y : O} {w : W} {ws : List W} (h : zipW (encP x) (encP y) = w :: ws) : ∃ e n r e' n' r', x = .c e n r ∧ y = .c e' n' r' ∧ w = .tup [prt e n, prt e' n'] ∧ ws = zipW (encP r) (encP r') := by
  cases x with
  | z => simp [encP, zipW] at h
  | c e n r =>
    cases y with
    | z => simp [encP, zipW] at h
    | c e' n' r' =>
      rw [encP_c, encP_c] at h
      simp only [zipW, List.cons.injEq] at h
      exact ⟨e, n, r, e', n', r', rfl, rfl, h.1.symm, h.2.symm⟩
theorem cmpZ_lt {n m : Int} (h : n < m) : cmpZ n m = -1 := by unfold cmpZ; rw [if_pos h]
theorem cmpZ_gt {n m : Int} (h : m < n) : cmpZ n m = 1 := by unfold cmpZ; rw [if_neg (by omega), if_pos h]
theorem cmpZ_self (n : Int) : cmpZ n n = 0 := by unfold cmpZ; simp
theorem cmp_len_nil {x y : O} (h : x = .z ∨ y = .z) : O.cmp x y = cmpZ x.len y.len := by
  rcases h with rfl | rfl
  · cases y with
    | z => rfl
    | c e n r => rw [cmpZ_lt (by simp only [O.len]; omega)]; rfl
  · cases x with
    | z => rfl
    | c e n r => rw [cmpZ_gt (by simp only [O.len]; omega)]; rfl
theorem cmpZ_shift {a b x y : Nat} (h : a + y = b + x) : cmpZ (a : Int) (b : Int) = cmpZ (x : Int) (y : Int) := by
  rcases Nat.lt_trichotomy x y with k | k | k
  · rw [cmpZ_lt (by omega), cmpZ_lt (by (clear h; omega))]
  · have : a = b := by omega
    subst k this
    rw [cmpZ_self, cmpZ_self]
  · rw [cmpZ_gt (by omega), cmpZ_gt (by (clear h; omega))]
end L2
namespace L2
open PySem PySem.Spec PyProof.Rows Nm
theorem encP_get : ∀ (a : O) (i : Nat), (encP a)[i]? = (a.getP i).map fun p => prt p.1 p.2
  | .z, i => by simp [encP, O.getP]
  | .c e n r, 0 => by rw [encP_c]; rfl
  | .c e n r, i + 1 => by
    rw [encP_c]
    simpa [O.getP] using encP_get r i
theorem encP_at {a : O} {i : Nat} {e : O} {n : Int} (h : a.getP i = some (e, n)) : atI (encP a) (i : Int) = some (prt e n) := atI_nat (by rw [encP_get, h]; rfl)
theorem encP_drop : ∀ (i : Nat) (a : O), (encP a).drop i = encP (O.dropO i a)
  | 0, a => rfl
  | i + 1, .z => by simp [encP, O.dropO]
  | i + 1, .c e n r => by
    rw [encP_c]
    simpa [O.dropO] using encP_drop i r
theorem encP_take : ∀ (i : Nat) (a : O), (encP a).take i = encP (O.takeO i a)
  | 0, a => by simp [O.takeO, encP]
  | i + 1, .z => by simp [encP, O.takeO]
  | i + 1, .c e n r => by
    rw [encP_c, List.take_succ_cons, encP_take i r]
    rfl
theorem cut_to (xs : List W) (k : Nat) : cutW xs none (some (k : Int)) = xs.take k := by
  unfold cutW
  rw [HT.sIx_none, HT.sIx_nat, List.drop_zero, Nat.sub_zero]
  rcases Nat.le_total k xs.length with h | h
  · rw [Nat.min_eq_left h]
  · rw [Nat.min_eq_right h, List.take_length, List.take_of_length_le h]
theorem cut_from (xs : List W) (k : Nat) : cutW xs (some (k : Int)) none = xs.drop k := by
  unfold cutW
  rw [HT.sIx_none, HT.sIx_nat]
  rcases Nat.le_total k xs.length with h | h
  · rw [Nat.min_eq_left h]
    exact List.take_of_length_le (by rw [List.length_drop]; (clear h; omega))
  · rw [Nat.min_eq_right h, List.drop_length, List.drop_of_length_le h]
    simp
theorem cut_to1 (xs : List W) : cutW xs none (some (-1)) = xs.take (xs.length - 1) := by
  unfold cutW
  have e : HT.sIx xs.length xs.length (some (-1)) = xs.length - 1 := by
    show (if (-1 : Int) < 0 then ((-1 : Int) + (xs.length : Int)).toNat else min (-1 : Int).toNat xs.length) = _
    rw [if_pos (by omega)]
    omega
  rw [HT.sIx_none, e, List.drop_zero, Nat.sub_zero]
theorem take_init : ∀ a : O, O.takeO (a.len - 1) a = O.init a
  | .z => rfl
  | .c _ _ .z => rfl
  | .c e n (.c e' n' r') => by
    have h := take_init (.c e' n' r')
    simp only [O.len, Nat.add_sub_cancel] at h ⊢
    rw [O.takeO, h]
    simp [O.init]
theorem cut_init (a : O) : cutW (encP a) none (some (-1)) = encP (O.init a) := by rw [cut_to1, encP_length, encP_take, take_init]
theorem last_c : ∀ {a : O}, a ≠ .z → ∃ e n, O.last a = .c e n .z ∧ a.getP (a.len - 1) = some (e, n)
  | .z, h => absurd rfl h
  | .c e n .z, _ => ⟨e, n, rfl, rfl⟩
  | .c e n (.c e' n' r'), _ => by
    obtain ⟨x, m, h1, h2⟩ := last_c (a := .c e' n' r') (by simp)
    refine ⟨x, m, ?_, ?_⟩
    · rw [← h1]; simp [O.last]
    · simp only [O.len, Nat.add_sub_cancel] at h2 ⊢
      rw [← h2]
      simp [O.getP]
theorem atI_neg1 {xs : List W} {w : W} (h : xs[xs.length - 1]? = some w) : atI xs (-1) = some w := by
  have hl : xs.length - 1 < xs.length := (List.getElem?_eq_some_iff.mp h).1
  unfold atI ixN
  rw [if_neg (by (clear h hl; omega)), if_pos (by (clear h; omega))]
  show xs[((-1 : Int) + (xs.length : Int)).toNat]? = some w
  rw [← h]
  congr 1
  (clear h; omega)
theorem encP_at_last {a : O} {e : O} {n : Int} (h : a.getP (a.len - 1) = some (e, n)) : atI (encP a) (-1) = some (prt e n) := atI_neg1 (by rw [encP_length, encP_get, h]; rfl)
end L2
namespace L2
open PySem PySem.Spec PyProof.Rows Nm
noncomputable def Df (K : PySem.W.Frag) (mg : Str → Option Value) (x : Str) (st : Stmt) (ps : List Str) : Prop := ∃ (f : Addr) (fd : FuncData), Fun K x x st f fd ∧ Binds K fd ps [] ∧ mg x = some (.ref f)
theorem Df.fx {P : Program} {w : World} {K : PySem.W.Frag} {mg : Str → Option Value} {base : Heap} {x : Str} {st : Stmt} {ps : List Str} {k : Nat} {sp : WSp} (D : Df K mg x st ps) (h : ∀ (f : Addr) (fd : FuncData), Fun K x x st f fd → WFn P w K mg base k f fd ps sp) : Fx P w K mg base x ps k sp := by
  obtain ⟨f, fd, F, b, m⟩ := D
  exact ⟨f, fd, h f fd F, m, F.kp, b⟩
noncomputable def nums (os : List O) : List W := os.map fun o => .tup (encP o)
theorem nums_length (os : List O) : (nums os).length = os.length := List.length_map _
theorem nums_get {os : List O} {i : Nat} {o : O} (h : os[i]? = some o) : (nums os)[i]? = some (.tup (encP o)) := by
  unfold nums
  rw [List.getElem?_map, h]; rfl
theorem nums_app (os : List O) (o : O) : nums os ++ [.tup (encP o)] = nums (os ++ [o]) := by simp [nums]
theorem mod_in {i j : Int} (h : 0 < j) : 0 ≤ i % j ∧ i % j < j := ⟨Int.emod_nonneg _ (by omega), Int.emod_lt_of_pos _ h⟩
theorem ints_at {ns : List Int} {i : Int} (h0 : 0 ≤ i) (h1 : i < ns.length) : ∃ n, atI ns i = some n := by
  have hl : i.toNat < ns.length := by omega
  have e : ((i.toNat : Nat) : Int) = i := Int.toNat_of_nonneg h0
  have q := atI_nat (List.getElem?_eq_getElem hl)
  rw [e] at q
  exact ⟨_, q⟩
theorem pick_ints {vs : List Int} {X n lo hi : Int} {R : W → Prop} (hn : n = (vs.length : Int)) (h0 : 0 < vs.length) (hall : ∀ v, v ∈ vs → lo ≤ v ∧ v ≤ hi) (hR : ∀ j, lo ≤ j → j ≤ hi → R (.int j)) : ∃ w, atI (vs.map W.int) (X % n) = some w ∧ R w := by
  have h := mod_in (i := X) (j := n) (by (clear hall hR; omega))
  have hl : (X % n).toNat < vs.length := by (clear hall hR; omega)
  have e : (((X % n).toNat : Nat) : Int) = X % n := Int.toNat_of_nonneg h.1
  have q : atI (vs.map W.int) (((X % n).toNat : Nat) : Int) = some (W.int vs[(X % n).toNat]) := atI_nat (by rw [List.getElem?_map, List.getElem?_eq_getElem hl]; rfl)
  rw [e] at q
  have := hall _ (List.getElem_mem hl)
  exact ⟨_, q, hR _ this.1 this.2⟩
theorem cpow10 (j : Int) : CPow 10 j = (0 ≤ j ∧ j ≤ 1000000) := by
  unfold CPow
  have : (10 : Int).natAbs < 2 ^ 64 := by decide
  simp [this]
theorem seqU {t u : WS} {d : WEnds} {τ : WSt} {G : Gp} (h : ∀ U : WS, U = u → t { d with nx := U d } τ G) : wSeq t u d τ G := h u rfl
theorem updG_ne' {G : Gp} {a b : Addr} {g g' : GO} (h : G b = some g') (ha : G a = none) : updG G a g b = some g' := by
  rw [updG_ne (fun z => by rw [z, ha] at h; cases h)]; exact h
theorem len_filt (p : O → Int → Bool) : ∀ a : O, (a.filt p).len ≤ a.len
  | .z => Nat.le_refl _
  | .c e n r => by
    have := len_filt p r
    rw [O.filt_c]
    split <;> simp only [O.len] <;> omega
theorem ix_eq {xs : List W} {i : Int} {R : List W → W → Prop} (h : ∃ w, atI xs i = some w ∧ R xs w) : ∃ xs' w, xs = xs' ∧ atI xs' i = some w ∧ R xs' w := by
  obtain ⟨w, e, r⟩ := h
  exact ⟨xs, w, rfl, e, r⟩
theorem ix_new {g : Option GO} {xs : List W} {i : Int} {R : List W → W → Prop} (e : g = some (.lst xs)) (h : ∃ w, atI xs i = some w ∧ R xs w) : ∃ xs' w, g = some (.lst xs') ∧ atI xs' i = some w ∧ R xs' w := by
  obtain ⟨w, e', r⟩ := h
  exact ⟨xs, w, e, e', r⟩
theorem tyN_int (G : Gp) (i : Int) : tyN G (.int i) = some "int" := rfl
theorem tyN_bl (G : Gp) (b : Bool) : tyN G (.bl b) = some "bool" := rfl
theorem tyN_tup (G : Gp) (ws : List W) : tyN G (.tup ws) = some "tuple" := rfl
theorem tyN_non (G : Gp) : tyN G .non = some "NoneType" := rfl
theorem subN_ii : subN "int" "int" = true := by decide
theorem subN_ib : subN "int" "bool" = false := by decide
theorem subN_it : subN "int" "tuple" = false := by decide
theorem subN_bi : subN "bool" "int" = true := by decide
theorem subN_bb : subN "bool" "bool" = true := by decide
theorem subN_bt : subN "bool" "tuple" = false := by decide
theorem subN_tt : subN "tuple" "tuple" = true := by decide
theorem subN_ti : subN "tuple" "int" = false := by decide
theorem subN_tb : subN "tuple" "bool" = false := by decide
theorem subN_ll : subN "list" "list" = true := by decide
theorem subN_nt : subN "NoneType" "tuple" = false := by decide
theorem nums_flat : ∀ os : List O, W.flats (nums os) = true
  | [] => by simp [nums, W.flats]
  | o :: os => by
    have := nums_flat os
    have h := tup_flat o
    unfold nums at this ⊢
    simp [W.flats, this, h]
theorem nums_deps : ∀ {os : List O}, (∀ o, o ∈ os → o.dp ≤ 70) → W.deps (nums os) ≤ 141
  | [], _ => by simp [nums, W.deps]
  | o :: os, h => by
    have h1 := nums_deps (os := os) fun x hx => h x (List.mem_cons_of_mem o hx)
    have h2 := h o List.mem_cons_self
    have h3 := tup_dep o
    unfold nums at h1 ⊢
    simp only [List.map_cons, W.deps]
    (clear h; omega)
theorem cast_0 : ((0 : Nat) : Int) = 0 := rfl
theorem cast_1 : ((1 : Nat) : Int) = 1 := rfl
theorem cast_2 : ((2 : Nat) : Int) = 2 := rfl
theorem cast_3 : ((3 : Nat) : Int) = 3 := rfl
theorem whileW {c : WT} {tb : WS} {d : WEnds} {τ : WSt} {G : Gp} (I : Nat → WSt → Gp → Prop) (h0 : ∃ m, I m τ G)
    (h : ∀ m τ G, I m τ G → ∀ B : WS, B = tb → c τ G fun b G1 => if b = true then ∃ N : WSt → Gp → Prop, (∀ τ1 G1, N τ1 G1 → ∃ m1, m1 < m ∧ I m1 τ1 G1) ∧ B { d with nx := N, ct := N, bk := d.nx } τ G1 else d.nx τ G1) : wWhile c tb d τ G :=
  ⟨I, h0, fun m τ G hI => h m τ G hI tb rfl⟩
theorem ifU {c : WT} {t u : WS} {d : WEnds} {τ : WSt} {G : Gp} (h : ∀ T U : WS, T = t → U = u → c τ G fun b G1 => if b = true then T d τ G1 else U d τ G1) : wIf c t u d τ G := h t u rfl rfl
theorem atI2 {α : Type} (x y v : α) (xs : List α) : atI (x :: y :: v :: xs) 2 = some v := atI_nat (j := 2) rfl
theorem upW_drop (n i : Nat) (h : i < n) : (upW n).drop i = .int (i : Int) :: (upW n).drop (i + 1) := by
  have hl : i < (upW n).length := by simp [upW, h]
  rw [List.drop_eq_getElem_cons hl]
  congr 1
  simp [upW]
theorem loop_up {C : Gp → Prop} {g : WG} {tb : WS} {d : WEnds} {τ : WSt} {G : Gp} (n : Nat) (Iv : Nat → WSt → Gp → Prop) (h0 : Iv 0 τ G) (stop : ∀ τ G, Iv n τ G → C G ∧ d.nx τ G)
    (step : ∀ (i : Nat) τ G (k : WSt → Gp → Prop), i < n → Iv i τ G → (∀ τ3 G3, Iv (i + 1) τ3 G3 → k τ3 G3) → C G ∧ g (.int (i : Int)) τ G fun τ2 G2 => tb { d with nx := k, ct := k, bk := d.nx } τ2 G2) : loopW C g tb d (upW n) τ G := by
  refine loopW_ind (fun ws τ G => ∃ i, i ≤ n ∧ ws = (upW n).drop i ∧ Iv i τ G) ?_ ?_ _ _ _ ⟨0, Nat.zero_le _, rfl, h0⟩
  · rintro τ G ⟨i, hi, hw, hI⟩
    have : i = n := by
      rcases Nat.lt_or_ge i n with k | k
      · rw [upW_drop n i k] at hw; cases hw
      · (clear h0 stop step hw hI; omega)
    subst this
    exact stop τ G hI
  · rintro w ws τ G k ⟨i, hi, hw, hI⟩ hk
    have hlt : i < n := by
      rcases Nat.lt_or_ge i n with j | j
      · exact j
      · rw [List.drop_of_length_le (by simp [upW]; assumption)] at hw; cases hw
    rw [upW_drop n i hlt] at hw
    cases hw
    exact step i τ G k hlt hI fun τ3 G3 h3 => hk τ3 G3 ⟨i + 1, hlt, rfl, h3⟩
theorem updG_upd (G : Gp) (a : Addr) (g g' : GO) : updG (updG G a g) a g' = updG G a g' := by
  funext b
  unfold updG
  split <;> rfl
noncomputable def AllP (Pd : O → Int → Prop) : O → Prop
  | .z => True
  | .c e n r => Pd e n ∧ AllP Pd r
theorem AllP.imp {Pd Pd' : O → Int → Prop} (h : ∀ e n, Pd e n → Pd' e n) : ∀ {a : O}, AllP Pd a → AllP Pd' a
  | .z, _ => trivial
  | .c _ _ _, k => ⟨h _ _ k.1, AllP.imp h k.2⟩
theorem allP_dp : ∀ a : O, AllP (fun e _ => e.dp < a.dp ∧ e.size < a.size) a
  | .z => trivial
  | .c e n r => ⟨by simp only [O.dp, O.size]; omega, (allP_dp r).imp fun x m h => by simp only [O.dp, O.size]; omega⟩
noncomputable def mapP (p : O → Int → Bool) (f : O → Int → W) : O → List W
  | .z => []
  | .c e n r => if p e n then f e n :: mapP p f r else mapP p f r
theorem mapP_prt (p : O → Int → Bool) : ∀ a : O, mapP p prt a = encP (a.filt p)
  | .z => rfl
  | .c e n r => by
    rw [mapP, O.filt_c, mapP_prt p r]
    split
    · rw [encP_c]
    · rfl
theorem comp_dem {C : Gp → Prop} {te : WE} {i : Nat} {τ0 : WSt} {G : Gp} {q : List W → Gp → Prop} (hC : C G) : ∀ {ws acc : List W} {τ : WSt},
    (∀ w, w ∈ ws → ∀ k : W → Gp → Prop, (∀ v : Int, k (.int v) G) → te (τ0.set i (some w)) G k) → acc.length + ws.length ≤ 100000 → (∀ x, τ.set i x = τ0.set i x) → (∀ us : List Int, us.length = ws.length → q (acc ++ us.map W.int) G) → compW C (hName i) wTrue te ws τ G acc q
  | [], acc, τ, _, _, _, hq => ⟨hC, by simpa using hq [] rfl⟩
  | w :: ws, acc, τ, ht, hl, hτ, hq => by
    refine ⟨hC, ?_⟩
    show te (τ.set i (some w)) G _
    rw [hτ]
    simp only [List.length_cons] at hl
    refine ht w List.mem_cons_self _ fun v => ⟨by (clear hC ht hτ hq; omega), ?_⟩
    exact comp_dem hC (fun u hu => ht u (List.mem_cons_of_mem _ hu)) (by simp; (clear hC ht hτ hq; omega)) (fun x => List.set_set ..) fun us hu => by
      have := hq (v :: us) (by simp [hu])
      simpa using this
theorem comp_enc {C : Gp → Prop} {tt : WT} {te : WE} {i : Nat} {τ0 : WSt} {G : Gp} {q : List W → Gp → Prop} {Pd : O → Int → Prop} (p : O → Int → Bool) (f : O → Int → W) (hC : C G) : ∀ {a : O} {acc : List W} {τ : WSt}, AllP Pd a →
    (∀ e n, Pd e n → ∀ k : Bool → Gp → Prop, k (p e n) G → tt (τ0.set i (some (prt e n))) G k) → (∀ e n, Pd e n → p e n = true → ∀ k : W → Gp → Prop, k (f e n) G → te (τ0.set i (some (prt e n))) G k) → acc.length + a.len ≤ 100000 → (∀ x, τ.set i x = τ0.set i x) →
    q (acc ++ mapP p f a) G → compW C (hName i) tt te (encP a) τ G acc q
  | .z, acc, τ, _, _, _, _, _, hq => ⟨hC, by simpa [mapP] using hq⟩
  | .c e n r, acc, τ, hP, ht, he, hl, hτ, hq => by
    rw [encP_c]
    refine ⟨hC, ?_⟩
    show tt (τ.set i (some (prt e n))) G _
    rw [hτ]
    refine ht e n hP.1 _ ?_
    have hτ' : ∀ x, (τ0.set i (some (prt e n))).set i x = τ0.set i x := fun x => List.set_set ..
    simp only [O.len] at hl
    rw [mapP] at hq
    cases hp : p e n with
    | true =>
      rw [if_pos rfl]
      refine he e n hP.1 hp _ ⟨by (clear hC hP ht he hτ hq hτ' hp; omega), ?_⟩
      rw [hp, if_pos rfl] at hq
      exact comp_enc p f hC hP.2 ht he (by rw [List.length_append]; simp; (clear hC hP ht he hτ hq hτ' hp; omega)) hτ' (by simpa using hq)
    | false =>
      rw [if_neg Bool.false_ne_true]
      rw [hp, if_neg Bool.false_ne_true] at hq
      exact comp_enc p f hC hP.2 ht he (by (clear hC hP ht he hτ hq hτ' hp; omega)) hτ' hq
end L2
namespace L2
open PySem PySem.Spec PyProof.Rows Nm
theorem GLe.put {G G1 : Gp} {p : Addr} {g : GO} (h : GLe G G1) (hp : G p = none) : GLe G (updG G1 p g) := fun a u e => by
  have := h a u e
  unfold updG
  split
  · rename_i q; subst q; rw [hp] at e; cases e
  · exact this
end L2
namespace Nm
namespace O
theorem getP_hw {x : O} {k : Int} : ∀ {a : O} {i : Nat}, getP a i = some (x, k) → hw x ≤ hw a
  | z, _, h => by simp [getP] at h
  | c e n r, 0, h => by
    simp only [getP, Option.some.injEq, Prod.mk.injEq] at h
    rw [hw_c, h.1]; (clear h; omega)
  | c e n r, i + 1, h => by
    have := getP_hw (a := r) (i := i) (by simpa [getP] using h)
    rw [hw_c]; (clear h; omega)
theorem hw_take : ∀ (i : Nat) (a : O), hw (takeO i a) ≤ hw a
  | 0, a => Nat.zero_le _
  | _ + 1, z => Nat.le_refl _
  | i + 1, c e n r => by have := hw_take i r; have := len_take i r; rw [takeO, hw_c, hw_c]; omega
theorem hw_drop : ∀ (i : Nat) (a : O), hw (dropO i a) ≤ hw a
  | 0, a => Nat.le_refl _
  | _ + 1, z => Nat.le_refl _
  | i + 1, c e n r => by have := hw_drop i r; rw [dropO, hw_c]; omega
end O
end Nm
namespace L2
open PySem PySem.Spec PyProof.Rows Nm
section
variable {P : Program} {w : World} {K : PySem.W.Frag} {mg : Str → Option Value} {base : Heap} {x : Str} {st : Stmt} {ps : List Str} {k : Nat} {sp : WSp}
end
end L2
namespace L2
open PySem PySem.Spec PyProof.Rows PySem.W
@[irreducible] def Cell (i : Int) : Prop := i.natAbs < 2 ^ 1048576
@[irreducible] def Wide (i : Int) : Prop := i.natAbs < 2 ^ 1048577
set_option exponentiation.threshold 500 in
noncomputable def CellM (i j : Int) : Prop := (Wide i ∧ j.natAbs < 2 ^ 4000) ∨ (i.natAbs < 2 ^ 4000 ∧ Wide j)
noncomputable def CMulC (i j : Int) : Prop := CMulB i j ∨ CellM i j
section
variable {X : Cx}
end
end L2
namespace L2
open PySem PySem.Spec PyProof.Rows
section
variable {X : Cx}
end
end L2
namespace L2
open PySem PySem.Spec PyProof.Rows
end L2
namespace Nm
namespace O
theorem lastE_lim : ∀ {b : O}, NF b → lastE b ≠ z → same z b = 0
  | z, _, _ => rfl
  | c e n z, hb, hl => by
    have hne : e ≠ z := hl
    rw [same_ne hne, same_z]
  | c e n (c e' n' r'), hb, hl => by
    rw [lastE_c] at hl
    have hne : e ≠ z := fun q => by
      subst q
      have := hb.2.2.1.1
      cases e' <;> simp [cmp] at this
    rw [same_ne hne]
    exact lastE_lim hb.2.2.2 hl
theorem lowAt_hw {e : O} {n m : Int} {t : O} {i : Nat} {a : O} (h : getP a i = some (e, n)) : hw (lowAt i e m t a) ≤ max (len a + 1 + len t) (max (hw a) (hw t)) := by
  have h1 := hw_take i a
  have h2 := getP_hw h
  have h3 := len_take i a
  unfold lowAt
  have a1 := hw_app (if 0 < m then c e m z else z) t
  have a2 := hw_app (takeO i a) (app (if 0 < m then c e m z else z) t)
  have a3 := len_app' (if 0 < m then c e m z else z) t
  have a4 : hw (if 0 < m then c e m z else z) ≤ max 1 (hw e) ∧ len (if 0 < m then c e m z else z) ≤ 1 := by
    split
    · exact ⟨by rw [hw_c]; simp only [len, hw]; (clear h h1 h2 h3 a1 a2 a3; omega), by simp [len]⟩
    · exact ⟨by simp [hw], by simp [len]⟩
  (clear h; omega)
theorem Lad.low {b o x : O} {n : Int} (h : Lad b n o) (hb : b ≠ z) (nb : NF b) (nx : NF x) (hx : cmp x b < 0) (hm : mx x + 1 ≤ n) : cmp x o < 0 ∨ x = o := by
  by_cases hz : lastE b = z
  · have := h.of_suc hz
    subst this
    by_cases hc : cmp x (lessO b) < 0
    · exact .inl hc
    · refine .inr ?_
      have sw := cmp_swap x (lessO b)
      obtain ⟨s, rfl, hs⟩ := within nx hb (by (clear hb nb nx hx hm hz h; omega)) hx
      rw [hz] at hs
      cases s with
      | z => rw [app_z]
      | c e k r =>
        have := hs.1
        cases e <;> simp [cmp] at this
  · refine .inl (h.all nb nx ⟨hb, ?_⟩ hx hm)
    exact lastE_lim nb hz
theorem Dn.met {n : Int} {a b : O} {os : List O} (h : Dn (fun _ => n) a os b) (hn : 0 ≤ n) (na : NF a) : ∀ {x y : O}, y ∈ os → NF x → cmp x y < 0 → mx x + 1 ≤ n → x ∈ os ∨ cmp x b < 0 := by
  induction h with
  | one =>
    intro x y hy nx hx hm
    have e := List.mem_singleton.mp hy
    subst e
    exact .inr hx
  | @step os b o h hb l ih =>
    intro x y hy nx hx hm
    have nb := (h.all (fun _ => hn) na b (List.mem_of_getElem? h.last)).1
    have fin : cmp x b < 0 → x ∈ os ++ [o] ∨ cmp x o < 0 := fun hlt => by
      rcases l.low hb nb nx hlt hm with k | k
      · exact .inr k
      · exact .inl (by rw [k]; simp)
    rcases List.mem_append.mp hy with hy | hy
    · rcases ih hy nx hx hm with k | k
      · exact .inl (List.mem_append_left _ k)
      · exact fin k
    · have e := List.mem_singleton.mp hy
      subst e
      exact .inr hx
end O
end Nm

set_option Elab.async false
set_option linter.all false
open PySem PySem.Spec PyProof.Rows L2 Nm
seal QE QT QW QA QS QSs QG QGs QI QO QTs QOp QIx QCall
seal PySem.compareOp PySem.binaryOp PySem.unaryOp

set_option bootstrap.genMatcherCode true
set_option compiler.extract_closed false
local macro_rules | `(tactic| walk_at "R") => `(tactic| simp (config := { failIfUnchanged := false, maxSteps := 2000000 }) only [wCallV, wCallL, readW, simp1, wClr, rNin, wStart, wSeq, wIf, wTest, wOp, wVar, wC, wNeg, wRet, wNext, wAsg, wPar, wNever, wNevers, wRaise, wTry, wTryA, wTryY, wIfY, wSeqY, wCallY, wDoY, wAs, wIsx, wIsn, wMaxD, wTupRev, wTupRvT, wBits, jRngG, CPowB, rIsB, wCallX, wDct, hName, wCall, wCB, wCons, wNil, wTup, wLst, wIsi, wAnd, wOr, wNot, wAndV, wOrV, wNotV, wIfE, wDrop, wSl, wPart, wNoPart, wFor, jSeq, jRng, jRng2, jRng3, jZip, jRev, jEnum, jEnumL, wExt, wComp, wApp, wTrue, hTup, hCons, hNil, vAdd, rSub3, L2.vInt, L2.vInt0, rEq4, rNe4, rEq3, rNe3, rLt3, rGe3, rIsA, rIsN, rIx3, rSl3, cLen, cTuple, cList, cSum, cInt, cMax, cMax4, cMin, List.map_cons, List.map_nil, List.length_cons, List.length_nil, List.replicate_succ, List.replicate_zero, List.cons_append, List.nil_append, List.append_nil, List.getElem?_cons_zero, List.getElem?_cons_succ, List.set_cons_zero, List.set_cons_succ, Nat.reduceAdd, Nat.reduceSub, Nat.zero_add, Nat.add_zero, Nat.sub_self, Nat.sub_zero, atI0, atI1, atI2, Option.some.injEq, exists_eq_left', int_flat, int_dep, int_eq, nil_flat, nil_dep, beqZ, decide_eq_true_eq, Bool.not_eq_true', decide_eq_false_iff_not, true_and, Nat.zero_le, cpow10, CMulC, CMulB, CDivB, CMul, CDiv, Int.reduceLE, Int.reduceLT, Nat.reducePow, Nat.reduceLT, Nat.reduceLeDiff, Int.reduceToNat, Int.reducePow, Int.reduceNeg, and_true, or_true, true_or, and_self, tyN_int, tyN_bl, tyN_tup, tyN_non, subN_ii, subN_ib, subN_it, subN_bi, subN_bb, subN_bt, subN_tt, subN_ti, subN_tb, subN_ll, subN_nt, Int.toNat_natCast, if_true, if_false, Bool.false_eq_true, Bool.true_eq_false, Bool.not_true, Bool.not_false, eq_self, not_true_eq_false, not_false_eq_true, cast_0, cast_1, cast_2, cast_3])
set_option bootstrap.genMatcherCode false
local macro_rules | `(tactic| walk_at "om") => `(tactic| first | assumption | exact Nat.le_trans (by assumption) (Nat.le_of_ble_eq_true rfl) | omega)
namespace Lw
open PySem PySem.Spec PyProof.Rows L2 Nm
noncomputable def top (i : Nat) : Stmt := PySem.Challenge.pw_hydrahouse_k37_met_on_the_way.main.body.getD i (.Pass ⟨0, 0, 0, 0⟩)
structure Txt (K : PySem.W.Frag) (mg : Str → Option Value) : Prop where
  d_is_whole : DfD K mg "is_whole" (top 5) ["thing", "least"] [.int 0]
  d_raised : DfD K mg "raised" (top 6) ["exponent", "times"] [.int 1]
  d_whole_part : Df K mg "whole_part" (top 7) ["a"]
  d_is_limit : Df K mg "is_limit" (top 8) ["a"]
  d_ladder : Df K mg "ladder" (top 10) ["a", "n"]
  d_one_part_less : Df K mg "one_part_less" (top 11) ["a"]
  d_way_down : DfD K mg "way_down" (top 12) ["a", "rule", "most"] [.int 20]
  d__law_cell_at : Df K mg "_law_cell_at" (top 14) ["_law_script", "_law_k"]
  d__law_mixed : Df K mg "_law_mixed" (top 15) ["_law_cell", "_law_k"]
  d__law_order : Df K mg "_law_order" (top 16) ["_law_a", "_law_b"]
  d__law_put : Df K mg "_law_put" (top 17) ["_law_parts", "_law_part"]
  d__law_many : Df K mg "_law_many" (top 18) ["_law_number"]
  d__law_drawn : Df K mg "_law_drawn" (top 19) ["_law_cell", "_law_level"]
  d__law_great : Df K mg "_law_great" (top 20) ["_law_cell"]
  d__law_number_by : Df K mg "_law_number_by" (top 21) ["_law_one", "_law_two"]
  d__law_below : Df K mg "_law_below" (top 22) ["_law_a", "_law_cell"]
  d__law_greatest : Df K mg "_law_greatest" (top 23) ["_law_a"]
  d__law_cut : Df K mg "_law_cut" (top 24) ["_law_a", "_law_most"]
  z_ValueError : mg "ValueError" = none
  z_bool : mg "bool" = none
  z_int : mg "int" = none
  z_isinstance : mg "isinstance" = none
  z_len : mg "len" = none
  z_list : mg "list" = none
  z_max : mg "max" = none
  z_min : mg "min" = none
  z_range : mg "range" = none
  z_tuple : mg "tuple" = none
  z_zip : mg "zip" = none
section
variable {P : Program} {w : World} {K : PySem.W.Frag} {mg : Str → Option Value} {base : Heap} {f : Addr} {fd : FuncData}
set_option maxRecDepth 100000
set_option maxHeartbeats 0
noncomputable def spCm : WSp := fun ws G q _ => ∃ a b : O, ws = [.tup (encP a), .tup (encP b)] ∧ a.dp ≤ 60 ∧ q (.int (O.cmp a b)) G
noncomputable def spPa : WSp := fun ws G q _ => ∃ a x : O, ws = [.tup (encP a), .tup (encP x)] ∧ a.NF ∧ a.dp ≤ 60 ∧ a.len ≤ 1000 ∧ q (.int (O.stay x a)) G
noncomputable def spPs : WSp := fun ws G q _ => ∃ a b : O, ws = [.tup (encP a), .tup (encP b)] ∧ a.NF ∧ a.dp ≤ 60 ∧ b.dp ≤ 60 ∧ a.len ≤ 1000 ∧ b.len ≤ 1000 ∧ q (.tup (encP (O.plusO a b))) G
noncomputable def spCa : WSp := fun ws G q _ => ∃ (ns : List Int) (k : Int), ws = [.scr ns, .int k] ∧ 0 ≤ k ∧ ∀ v : Int, q (.int v) G
noncomputable def spMx : WSp := fun ws G q _ => ∃ c k : Int, ws = [.int c, .int k] ∧ 0 ≤ k ∧ k ≤ 1000 ∧ ∀ v : Int, 0 ≤ v → v < 2147483579 → q (.int v) G
noncomputable def spOr (d : Nat) : WSp := fun ws G q _ => ∃ a b : O, ws = [.tup (encP a), .tup (encP b)] ∧ a.dp < d ∧ q (.int (O.cmp a b)) G
noncomputable def spNb (d : Nat) : WSp := fun ws G q _ => ∃ a : O, ws = [.tup (encP a)] ∧ a.NF ∧ a.dp < d ∧ O.hw a ≤ 5000 ∧ q (.bl true) G
noncomputable def spMn : WSp := fun ws G q _ => ∃ c : Int, ws = [.int c] ∧ 0 ≤ c ∧ c < 2147483579 ∧ ∀ v : Int, 1 ≤ v → v ≤ 10 ^ 15 → q (.int v) G
noncomputable def spGr : WSp := fun ws G q _ => ∃ c : Int, ws = [.int c] ∧ ∀ v : Int, 1 ≤ v → v ≤ 10 ^ 50 → q (.int v) G
structure Sml (d s : Nat) (m : Int) (o : O) : Prop where
  nf : o.NF
  dp : o.dp ≤ d
  sz : o.size ≤ s
  mx : O.mx o ≤ m
noncomputable def spPt : WSp := fun ws G q _ => ∃ (l : Addr) (a e : O) (n : Int), ws = [.ref l, prt e n] ∧ G l = some (.lst (encP a)) ∧ a.NF ∧ e.NF ∧ 1 ≤ n ∧ a.dp ≤ 20 ∧ e.dp ≤ 20 ∧ a.len ≤ 1000 ∧
  ∀ (l' : Addr) (G' : Gp) (a' : O), GLe G G' → G' l' = some (.lst (encP a')) → a'.NF → a'.len ≤ a.len + 1 → a'.dp ≤ max a.dp (e.dp + 1) → a'.size ≤ a.size + e.size + 1 → O.mx a' ≤ max (O.mx a) (max n (O.mx e)) → O.hw a' ≤ max (max (O.hw a) (O.hw e)) (a.len + 1) → q (.ref l') G'
noncomputable def spDr (L : Nat) : WSp := fun ws G q _ => ∃ (c : Int) (lv : Nat), ws = [.int c, .int (lv : Int)] ∧ lv < L ∧ lv ≤ 10 ∧ ∀ o : O, Sml (lv + 1) (4 ^ (lv + 1)) (10 ^ 15) o → O.hw o ≤ 3 → q (.tup (encP o)) G
noncomputable def spNy : WSp := fun ws G q _ => ∃ c k : Int, ws = [.int c, .int k] ∧ ∀ o : O, Sml 5 300 (10 ^ 50) o → O.hw o ≤ 4 → q (.tup (encP o)) G
structure Wd (h : Nat) (m : Int) (o : O) : Prop where
  nf : o.NF
  dp : o.dp ≤ 20
  hw : O.hw o ≤ h
  mx : O.mx o ≤ m
noncomputable def spNr : WSp := fun ws G q _ => ∃ (a : O) (c : Int), ws = [.tup (encP a), .int c] ∧ Sml 5 300 (10 ^ 50) a ∧ ∀ o : O, Wd 310 (10 ^ 52) o → q (.tup (encP o)) G
noncomputable def spOk : WSp := fun ws G q _ => ∃ a b c : O, ws = [.tup (encP a), .tup (encP b), .tup (encP c)] ∧ Wd 310 (10 ^ 52) a ∧ Wd 310 (10 ^ 52) b ∧ Wd 310 (10 ^ 52) c ∧ q (.bl true) G

/-! cells and what is drawn of them -/
theorem scCa : FnScope ["_law_script", "_law_k"] ["_law_script", "_law_k"] (defScope (top 14)) := ⟨rfl, rfl, rfl, by decide +kernel, rfl, by decide +kernel, by decide +kernel⟩
theorem fnCa (F : Fun K "_law_cell_at" "_law_cell_at" (top 14) f fd) (ml : mg "len" = none) : WFn P w K mg base 1 f fd ["_law_script", "_law_k"] spCa := by
  have nd := scCa.nd
  refine fn3 F scCa (fun ws G q e h => by obtain ⟨_, _, rfl, _⟩ := h; rfl) (fun cdv A outer s H E hr => ?_)
  apply bodyOf
  · exact (qss_cons (qs_if (qt_cmp (q_lt3 hr) (qe_var 1 rfl (.inl rfl)) (qe_callB q_len rfl ml PySem.boot_len (qa_cons (qe_var 0 rfl (.inl rfl)) qa_nil)) (nomark _)) (qss_cons (qs_ret (qe_ix q_ix (qe_var 0 rfl (.inl rfl)) (qe_var 1 rfl (.inl rfl)) (fun _ _ => rfl))) qss_nil) qss_nil) (qss_cons (qs_ret qe_int) qss_nil))
  · rintro ws G q e ⟨ns, k, rfl, hk, hq⟩
    walk_at "R"
    split
    · obtain ⟨n, hn⟩ := ints_at (ns := ns) (i := k) hk (by assumption)
      exact ⟨n, hn, GLe.done (hq n)⟩
    · exact GLe.done (hq 0)
theorem scMx : FnScope ["_law_cell", "_law_k", "_law_number"] ["_law_cell", "_law_k"] (defScope (top 15)) := ⟨rfl, rfl, rfl, by decide +kernel, rfl, by decide +kernel, by decide +kernel⟩
theorem fnMx (F : Fun K "_law_mixed" "_law_mixed" (top 15) f fd) : WFn P w K mg base 1 f fd ["_law_cell", "_law_k"] spMx := by
  have nd := scMx.nd
  refine fn3 F scMx (fun ws G q e h => by obtain ⟨_, _, rfl, _⟩ := h; rfl) (fun cdv A outer s H E hr => ?_)
  apply bodyOf
  · exact (qss_cons (qs_set 2 nd rfl (.inl rfl) (qe_op q_mod (qe_op q_add (qe_op q_mod (qe_var 0 rfl (.inl rfl)) qe_int) (qe_op q_mulB qe_int (qe_op q_add (qe_var 1 rfl (.inl rfl)) qe_int))) qe_int)) (qss_cons (qs_set 2 nd rfl (.inl rfl) (qe_op q_mod (qe_op q_add (qe_op q_add (qe_op q_mulB (qe_var 2 rfl (.inl rfl)) (qe_var 2 rfl (.inl rfl))) (qe_op q_mulB qe_int (qe_var 1 rfl (.inl rfl)))) qe_int) qe_int)) (qss_cons (qs_ret (qe_op q_mod (qe_op q_mulB (qe_var 2 rfl (.inl rfl)) (qe_var 2 rfl (.inl rfl))) qe_int)) qss_nil)))
  · rintro ws G q e ⟨c, k, rfl, hk0, hk1, hq⟩
    refine seqU fun U hU => ?_
    walk_at "R"
    subst hU
    obtain ⟨x, hx⟩ : ∃ x, x = (c % 2147483629 + 48271 * (k + 1)) % 2147483647 := ⟨_, rfl⟩
    have hx1 : 0 ≤ x ∧ x < 2147483647 := by (clear F nd hr hk0 hk1 hq; omega)
    rw [← hx]
    refine seqU fun U hU => ?_
    walk_at "R"
    refine ⟨.inl (.inl (by (clear F nd hr hk0 hk1 hq hx1 hU; omega))), ?_⟩
    obtain ⟨y, hy⟩ : ∃ y, y = (x * x + 69621 * k + 7) % 2147483587 := ⟨_, rfl⟩
    have hy1 := mod_in (i := x * x + 69621 * k + 7) (j := 2147483587) (by (clear F nd hr hk0 hk1 hq hx hx1 hU hy; omega))
    rw [← hy] at hy1 ⊢
    subst hU
    walk_at "R"
    have hz := mod_in (i := y * y) (j := 2147483579) (by (clear F nd hr hk0 hk1 hq hx hx1 hy hy1; omega))
    exact ⟨.inl (.inl (by (clear F nd hr hk0 hk1 hq hx hx1 hy1 hz; omega))), GLe.done (hq _ hz.1 hz.2)⟩
theorem scMn : FnScope ["_law_number", "_law_kind"] ["_law_number"] (defScope (top 18)) := ⟨rfl, rfl, rfl, by decide +kernel, rfl, by decide +kernel, by decide +kernel⟩
theorem fnMn (F : Fun K "_law_many" "_law_many" (top 18) f fd) : WFn P w K mg base 1 f fd ["_law_number"] spMn := by
  have nd := scMn.nd
  refine fn3 F scMn (fun ws G q e h => by obtain ⟨_, rfl, _⟩ := h; rfl) (fun cdv A outer s H E hr => ?_)
  apply bodyOf
  · exact (qss_cons (qs_set 1 nd rfl (.inl rfl) (qe_op q_mod (qe_var 0 rfl (.inl rfl)) qe_int)) (qss_cons (qs_set 0 nd rfl (.inl rfl) (qe_op q_divB (qe_var 0 rfl (.inl rfl)) qe_int)) (qss_cons (qs_if (qt_cmp (q_eq4 hr) (qe_var 1 rfl (.inl rfl)) qe_int (nomark _)) (qss_cons (qs_ret (qe_op q_add qe_int (qe_op q_mod (qe_var 0 rfl (.inl rfl)) qe_int))) qss_nil) qss_nil) (qss_cons (qs_if (qt_cmp (q_eq4 hr) (qe_var 1 rfl (.inl rfl)) qe_int (nomark _)) (qss_cons (qs_ret (qe_op q_add qe_int (qe_op q_mod (qe_op q_mulB (qe_var 0 rfl (.inl rfl)) (qe_var 0 rfl (.inl rfl))) (qe_op q_pow qe_int qe_int)))) qss_nil) qss_nil) (qss_cons (qs_ret (qe_op q_add qe_int (qe_op q_mod (qe_var 0 rfl (.inl rfl)) qe_int))) qss_nil)))))
  · rintro ws G q e ⟨c, rfl, h0, h1, hq⟩
    walk_at "R"
    split
    · exact GLe.done (hq _ (by (clear F nd hr h0 h1 hq; omega)) (by (clear F nd hr h0 h1 hq; omega)))
    · split
      · have hz := mod_in (i := c / 6 * (c / 6)) (j := 1000000000000000) (by (clear F nd hr h0 h1 hq; omega))
        exact ⟨.inl (.inl (by (clear F nd hr hq hz; omega))), GLe.done (hq _ (by (clear F nd hr h0 h1 hq; omega)) (by (clear F nd hr h0 h1 hq; omega)))⟩
      · exact GLe.done (hq _ (by (clear F nd hr h0 h1 hq; omega)) (by (clear F nd hr h0 h1 hq; omega)))
theorem scGr : FnScope ["_law_cell", "_law_number"] ["_law_cell"] (defScope (top 20)) := ⟨rfl, rfl, rfl, by decide +kernel, rfl, by decide +kernel, by decide +kernel⟩
theorem fnGr (F : Fun K "_law_great" "_law_great" (top 20) f fd) (F1 : Fx P w K mg base "_law_mixed" ["_law_cell", "_law_k"] 1 spMx) : WFn P w K mg base 2 f fd ["_law_cell"] spGr := by
  have nd := scGr.nd
  refine fn3 F scGr (fun ws G q e h => by obtain ⟨_, rfl, _⟩ := h; rfl) (fun cdv A outer s H E hr => ?_)
  apply bodyOf
  · exact (qss_cons (qs_set 1 nd rfl (.inl rfl) (qe_op q_mod (qe_op q_divB (qe_var 0 rfl (.inl rfl)) qe_int) (qe_op q_pow qe_int qe_int))) (qss_cons (qs_if (qt_cmp (q_eq4 hr) (qe_op q_mod (qe_fxn F1 (Room.mono hr (by omega)) rfl (qa_cons (qe_var 0 rfl (.inl rfl)) (qa_cons qe_int qa_nil))) qe_int) qe_int (nomark _)) (qss_cons (qs_ret (qe_op q_add qe_int (qe_op q_mod (qe_var 1 rfl (.inl rfl)) qe_int))) qss_nil) qss_nil) (qss_cons (qs_ret (qe_op q_add qe_int (qe_op q_mod (qe_op q_mulB (qe_op q_add (qe_var 1 rfl (.inl rfl)) qe_int) (qe_op q_add (qe_op q_add (qe_op q_pow qe_int qe_int) (qe_op q_mulB qe_int (qe_var 1 rfl (.inl rfl)))) qe_int)) (qe_op q_pow qe_int qe_int)))) qss_nil)))
  · rintro ws G q e ⟨c, rfl, hq⟩
    refine seqU fun U hU => ?_
    walk_at "R"
    subst hU
    obtain ⟨x, hx⟩ : ∃ x, x = c / 6 % 10000000000000000000000000 := ⟨_, rfl⟩
    have hx1 : 0 ≤ x ∧ x < 10000000000000000000000000 := by (clear F F1 nd hr hq; omega)
    rw [← hx]
    refine seqU fun U hU => ?_
    walk_at "R"
    refine ⟨c, 8, rfl, by (clear F F1 nd hr hq hx hx1 hU; omega), by (clear F F1 nd hr hq hx hx1 hU; omega), fun v h0 h1 => ?_⟩
    walk_at "R"
    split
    · exact GLe.done (hq _ (by (clear F F1 nd hr hq hx1 hU h0 h1; omega)) (by (clear F F1 nd hr hq hx1 hU h0 h1; omega)))
    · subst hU
      walk_at "R"
      have hz := mod_in (i := (x + 7) * (1000000000000000000000000 + 7 * x + 39)) (j := 100000000000000000000000000000000000000000000000000) (by (clear F F1 nd hr hq hx hx1 h0 h1; omega))
      exact ⟨.inr (bigM (by (clear F F1 nd hr hq hx1 h0 h1 hz; omega)) (by (clear F F1 nd hr hq hx1 h0 h1 hz; omega))), GLe.done (hq _ (by (clear F F1 nd hr hq hx hx1 h0 h1; omega)) (by (clear F F1 nd hr hq hx hx1 h0 h1; omega)))⟩

/-! the law's own order -/
theorem scOr : FnScope ["_law_a", "_law_b", "_law_one", "_law_other", "_law_side"] ["_law_a", "_law_b"] (defScope (top 16)) := ⟨rfl, rfl, rfl, by decide +kernel, rfl, by decide +kernel, by decide +kernel⟩
theorem fnOr {d k : Nat} (hd : d ≤ 60) (F : Fun K "_law_order" "_law_order" (top 16) f fd) (F1 : Fx P w K mg base "_law_order" ["_law_a", "_law_b"] k (spOr d)) (ml : mg "len" = none) (mz : mg "zip" = none) (mn : mg "int" = none) : WFn P w K mg base (k + 1) f fd ["_law_a", "_law_b"] (spOr (d + 1)) := by
  have nd := scOr.nd
  refine fn3 F scOr (fun ws G q e h => by obtain ⟨_, _, rfl, _⟩ := h; rfl) (fun cdv A outer s H E hr => ?_)
  apply bodyOf
  · exact (qss_cons (qs_for PySem.PassesOwn.never rfl (qi_zip rfl mz (qa_cons (qe_var 0 rfl (.inl rfl)) (qa_cons (qe_var 1 rfl (.inl rfl)) qa_nil))) (qg_tup rfl (qgs_cons (qg_name 2 nd rfl (.inl rfl)) (qgs_cons (qg_name 3 nd rfl (.inl rfl)) qgs_nil))) (qss_cons (qs_set 4 nd rfl (.inl rfl) (qe_fxn F1 (Room.mono hr (by omega)) rfl (qa_cons (qe_ix q_ix (qe_var 2 rfl (.inl rfl)) qe_int (fun _ _ => rfl)) (qa_cons (qe_ix q_ix (qe_var 3 rfl (.inl rfl)) qe_int (fun _ _ => rfl)) qa_nil)))) (qss_cons (qs_if (qt_cmp (q_ne4 hr) (qe_var 4 rfl (.inl rfl)) qe_int (nomark _)) (qss_cons (qs_ret (qe_var 4 rfl (.inl rfl))) qss_nil) qss_nil) (qss_cons (qs_if (qt_cmp (q_ne4 hr) (qe_ix q_ix (qe_var 2 rfl (.inl rfl)) qe_int (fun _ _ => rfl)) (qe_ix q_ix (qe_var 3 rfl (.inl rfl)) qe_int (fun _ _ => rfl)) (nomark _)) (qss_cons (qs_ret (qe_op q_sub qe_int (qe_op q_mulB qe_int (qe_callTy q_int rfl mn PyProof.Rows.boot_int (qa_cons (qe_cmp (q_lt3 hr) (qe_ix q_ix (qe_var 2 rfl (.inl rfl)) qe_int (fun _ _ => rfl)) (qe_ix q_ix (qe_var 3 rfl (.inl rfl)) qe_int (fun _ _ => rfl)) (nomark _)) qa_nil))))) qss_nil) qss_nil) qss_nil)))) (qss_cons (qs_ret (qe_op q_sub (qe_callTy q_int rfl mn PyProof.Rows.boot_int (qa_cons (qe_cmp q_gt (qe_callB q_len rfl ml PySem.boot_len (qa_cons (qe_var 0 rfl (.inl rfl)) qa_nil)) (qe_callB q_len rfl ml PySem.boot_len (qa_cons (qe_var 1 rfl (.inl rfl)) qa_nil)) (nomark _)) qa_nil)) (qe_callTy q_int rfl mn PyProof.Rows.boot_int (qa_cons (qe_cmp (q_lt3 hr) (qe_callB q_len rfl ml PySem.boot_len (qa_cons (qe_var 0 rfl (.inl rfl)) qa_nil)) (qe_callB q_len rfl ml PySem.boot_len (qa_cons (qe_var 1 rfl (.inl rfl)) qa_nil)) (nomark _)) qa_nil)))) qss_nil))
  · rintro ws G q e ⟨a, b, rfl, hx, hq⟩
    refine seqU fun U hU => ?_
    walk_at "R"
    refine loopW_ind (fun ws τ G' => G' = G ∧ ∃ x y t2 t3 t4, ws = zipW (encP x) (encP y) ∧ τ = [some (.tup (encP a)), some (.tup (encP b)), t2, t3, t4] ∧ O.cmp a b = O.cmp x y ∧ a.len + y.len = b.len + x.len ∧ x.dp < d + 1) ?_ ?_ _ _ _ ⟨rfl, a, b, none, none, none, rfl, rfl, rfl, by (clear hd F F1 ml mz mn nd hr hx hq hU; omega), hx⟩
    · rintro τ G' ⟨rfl, x, y, t2, t3, t4, hz, rfl, hc, hl, hx'⟩
      refine ⟨trivial, ?_⟩
      subst hU
      walk_at "R"
      refine GLe.done ?_
      have e : (if (b.len : Int) < (a.len : Int) then (1 : Int) else 0) - (if (a.len : Int) < (b.len : Int) then 1 else 0) = cmpZ a.len b.len := by
        by_cases hA : (b.len : Int) < a.len <;> by_cases hB : (a.len : Int) < b.len <;> simp [cmpZ, hA, hB] <;> (clear hd F F1 ml mz mn nd hr hx hq hz hc hx'; omega)
      rw [encP_length, encP_length, e, cmpZ_shift hl, ← cmp_len_nil (zip_nil hz.symm), ← hc]
      exact hq
    · rintro w1 ws τ G' k1 ⟨rfl, x, y, t2, t3, t4, hz, rfl, hc, hl, hx'⟩ hk
      obtain ⟨x1, n, r, x1', n', r', rfl, rfl, rfl, rfl⟩ := zip_cons hz.symm
      refine ⟨trivial, ?_⟩
      unfold prt enc
      have hx2 : x1.dp < d := by simp only [O.dp] at hx'; (clear hd F F1 ml mz mn nd hr hx hU hq hc hl hk hz; omega)
      have again : cmpP x1 n x1' n' = 0 → ∀ t2 t3 t4, k1 [some (.tup (encP a)), some (.tup (encP b)), t2, t3, t4] G' := fun z t2 t3 t4 => by
        rw [cmp_c, if_neg (by simpa using z)] at hc
        refine hk _ _ ⟨rfl, r, r', _, _, _, rfl, rfl, hc, ?_, ?_⟩
        · simp only [O.len] at hl; (clear hd F F1 ml mz mn nd hr hx hU hq hx' hc hk hz hx2 z; omega)
        · simp only [O.dp] at hx'; (clear hd F F1 ml mz mn nd hr hx hU hq hc hl hk hz hx2 z; omega)
      have leave : cmpP x1 n x1' n' ≠ 0 → q (.int (cmpP x1 n x1' n')) G' := fun z => by
        rw [hc, cmp_c, if_pos z] at hq
        exact hq
      unfold cmpP at again leave
      simp only [hTup, hCons, hNil, hName, List.length_cons, List.length_nil, List.set_cons_zero, List.set_cons_succ, Nat.zero_add, Nat.reduceAdd, true_and]
      refine seqU fun U1 hU1 => ?_
      walk_at "R"
      refine ⟨x1, x1', rfl, hx2, ?_⟩
      subst hU1
      refine seqU fun U1 hU1 => ?_
      walk_at "R"
      by_cases h : O.cmp x1 x1' = 0
      · rw [if_neg (by simpa using h)] at again leave ⊢
        subst hU1
        walk_at "R"
        by_cases h2 : n = n'
        · subst h2
          rw [if_neg (by simp)]
          exact again (cmpZ_self n) _ _ _
        · rw [if_pos h2]
          rcases Int.lt_trichotomy n n' with k2 | k2 | k2
          · rw [cmpZ_lt k2] at leave
            have := leave (by (clear hd F F1 ml mz mn nd hr hx hU hq hx' hc hl hk hz hx2 again leave h h2 k2; omega))
            rw [if_pos k2]
            exact GLe.done this
          · exact absurd k2 h2
          · rw [cmpZ_gt k2] at leave
            have := leave (by (clear hd F F1 ml mz mn nd hr hx hU hq hx' hc hl hk hz hx2 again leave h h2 k2; omega))
            rw [if_neg (by (clear hd F F1 ml mz mn nd hr hx hU hq hx' hc hl hk hz hx2 again leave h h2 this; omega))]
            exact GLe.done this
      · rw [if_pos h] at leave ⊢
        exact GLe.done (leave h)
theorem fxOr (T : Txt K mg) : ∀ d : Nat, d ≤ 60 → Fx P w K mg base "_law_order" ["_law_a", "_law_b"] d (spOr d)
  | 0, _ => T.d__law_order.fx fun f fd F => WFn.none fun ws G q e ⟨a, b, _, h, _⟩ => by (clear T F; omega)
  | d + 1, h => T.d__law_order.fx fun f fd F => fnOr (by (clear T F; omega)) F (fxOr T d (by (clear T F; omega))) T.z_len T.z_zip T.z_int

/-! a part put into a list of parts -/
theorem scPt : FnScope ["_law_parts", "_law_part", "_law_at"] ["_law_parts", "_law_part"] (defScope (top 17)) := ⟨rfl, rfl, rfl, by decide +kernel, rfl, by decide +kernel, by decide +kernel⟩
theorem mx_take : ∀ (i : Nat) (a : O), O.mx (O.takeO i a) ≤ O.mx a
  | 0, a => O.mx_nonneg a
  | _ + 1, .z => Int.le_refl _
  | i + 1, .c e n r => by have := mx_take i r; rw [O.takeO, O.mx_c, O.mx_c]; omega
theorem mx_drop : ∀ (i : Nat) (a : O), O.mx (O.dropO i a) ≤ O.mx a
  | 0, a => Int.le_refl _
  | _ + 1, .z => Int.le_refl _
  | i + 1, .c e n r => by have := mx_drop i r; rw [O.dropO, O.mx_c]; omega
theorem size_td : ∀ (i : Nat) (a : O), (O.takeO i a).size + (O.dropO i a).size = a.size
  | 0, a => by simp [O.takeO, O.dropO, O.size]
  | _ + 1, .z => rfl
  | i + 1, .c e n r => by have := size_td i r; simp only [O.takeO, O.dropO, O.size]; omega
theorem len_td : ∀ (i : Nat) (a : O), (O.takeO i a).len + (O.dropO i a).len = a.len
  | 0, a => by simp [O.takeO, O.dropO, O.len]
  | _ + 1, .z => rfl
  | i + 1, .c e n r => by have := len_td i r; simp only [O.takeO, O.dropO, O.len]; omega
theorem dp_td : ∀ (i : Nat) (a : O), (O.takeO i a).dp ≤ a.dp ∧ (O.dropO i a).dp ≤ a.dp
  | 0, a => by simp [O.takeO, O.dropO, O.dp]
  | _ + 1, .z => ⟨Nat.le_refl _, Nat.le_refl _⟩
  | i + 1, .c e n r => by have := dp_td i r; simp only [O.takeO, O.dropO, O.dp]; omega
theorem len_app : ∀ a b : O, (O.app a b).len = a.len + b.len
  | .z, b => by simp [O.app, O.len]
  | .c e n r, b => by have := len_app r b; simp only [O.app, O.len]; omega
/-- put in where those ahead are above it and the next one is below -/
theorem nf_put {e : O} {n : Int} (he : e.NF) (hn : 1 ≤ n) : ∀ {i : Nat} {a : O}, a.NF → (∀ j x m, j < i → a.getP j = some (x, m) → O.cmp x e = 1) → (∀ x m, a.getP i = some (x, m) → O.cmp x e < 0) → O.NF (O.app (O.takeO i a) (.c e n (O.dropO i a)))
  | 0, a, ha, _, h2 => by
    show O.NF (.c e n a)
    refine ⟨he, hn, ?_, ha⟩
    cases a with
    | z => exact trivial
    | c x m r =>
      have hx := h2 x m rfl
      exact ⟨hx, ha.2.2.1.mono hx⟩
  | i + 1, .z, ha, _, _ => ⟨he, hn, trivial, trivial⟩
  | i + 1, .c x m r, ha, h1, h2 => by
    have ih := nf_put he hn (i := i) (a := r) ha.2.2.2 (fun j y k hj hy => h1 (j + 1) y k (by (clear he hn ha h1 h2 hy; omega)) hy) (fun y k hy => h2 y k hy)
    have hx := h1 0 x m (by (clear he hn ha h1 h2 ih; omega)) rfl
    have hs := O.cmp_swap x e
    refine ⟨ha.1, ha.2.1, ?_, ih⟩
    have lt : ∀ (i : Nat) (r : O), O.Lt x r → O.Lt x (O.takeO i r) ∧ O.Lt x (O.dropO i r) := by
      intro i
      induction i with
      | zero => exact fun r h => ⟨trivial, h⟩
      | succ i ih =>
        intro r h
        cases r with
        | z => exact ⟨trivial, trivial⟩
        | c y k t => exact ⟨⟨h.1, (ih t h.2).1⟩, (ih t h.2).2⟩
    have := lt i r ha.2.2.1
    exact O.Lt.app this.1 ⟨by (clear he hn ha h1 h2 ih lt this; omega), this.2⟩
theorem fnPt (F : Fun K "_law_put" "_law_put" (top 17) f fd) (F2 : Fx P w K mg base "_law_order" ["_law_a", "_law_b"] 60 (spOr 60)) (ml : mg "len" = none) : WFn P w K mg base 61 f fd ["_law_parts", "_law_part"] spPt := by
  have nd := scPt.nd
  refine fn3 F scPt (fun ws G q e h => by obtain ⟨_, _, _, _, rfl, _⟩ := h; rfl) (fun cdv A outer s H E hr => ?_)
  apply bodyOf
  · exact (qss_cons (qs_set 2 nd rfl (.inl rfl) qe_int) (qss_cons (qs_while PySem.PassesOwn.never (qt_w (qw_and (qt_cmp (q_lt3 hr) (qe_var 2 rfl (.inl rfl)) (qe_callB q_len rfl ml PySem.boot_len (qa_cons (qe_var 0 rfl (.inl rfl)) qa_nil)) (nomark _)) (qw_and1 (qt_cmp (q_eq4 hr) (qe_fxn F2 (Room.mono hr (by omega)) rfl (qa_cons (qe_ix q_ix (qe_ix q_ix (qe_var 0 rfl (.inl rfl)) (qe_var 2 rfl (.inl rfl)) (fun _ _ => rfl)) qe_int (fun _ _ => rfl)) (qa_cons (qe_ix q_ix (qe_var 1 rfl (.inl rfl)) qe_int (fun _ _ => rfl)) qa_nil))) qe_int (nomark _))))) (qss_cons (qs_set 2 nd rfl (.inl rfl) (qe_op q_add (qe_var 2 rfl (.inl rfl)) qe_int)) qss_nil)) (qss_cons (qs_if (qt_w (qw_and (qt_cmp (q_lt3 hr) (qe_var 2 rfl (.inl rfl)) (qe_callB q_len rfl ml PySem.boot_len (qa_cons (qe_var 0 rfl (.inl rfl)) qa_nil)) (nomark _)) (qw_and1 (qt_cmp (q_eq4 hr) (qe_ix q_ix (qe_ix q_ix (qe_var 0 rfl (.inl rfl)) (qe_var 2 rfl (.inl rfl)) (fun _ _ => rfl)) qe_int (fun _ _ => rfl)) (qe_ix q_ix (qe_var 1 rfl (.inl rfl)) qe_int (fun _ _ => rfl)) (nomark _))))) (qss_cons (qs_ret (qe_var 0 rfl (.inl rfl))) qss_nil) qss_nil) (qss_cons (qs_ret (qe_op q_add (qe_op q_add (qe_slice (qe_var 0 rfl (.inl rfl)) qo_none (qo_some (qe_var 2 rfl (.inl rfl)))) (qe_lst (qa_cons (qe_var 1 rfl (.inl rfl)) qa_nil))) (qe_slice (qe_var 0 rfl (.inl rfl)) (qo_some (qe_var 2 rfl (.inl rfl))) qo_none))) qss_nil))))
  · rintro ws G q e ⟨l, a, x, n, rfl, hG, ha, hx, hn, hda, hdx, hl, hq⟩
    unfold prt enc
    refine seqU fun U hU => ?_
    walk_at "R"
    subst hU
    refine seqU fun U hU => ?_
    refine whileW (fun m τ G' => G' = G ∧ ∃ i : Nat, τ = [some (.ref l), some (.tup [.tup (encP x), .int n]), some (.int (i : Int))] ∧ i ≤ a.len ∧ (∀ j y m, j < i → a.getP j = some (y, m) → O.cmp y x = 1) ∧ m = a.len - i) ⟨_, rfl, 0, rfl, Nat.zero_le _, fun j y m h => by (clear F F2 ml nd hr hG ha hx hn hda hdx hl hq hU; omega), rfl⟩ ?_
    rintro m τ G' ⟨rfl, i, rfl, hi, habove, rfl⟩ B hB
    walk_at "R"
    simp only [hG, Option.some.injEq, GO.lst.injEq, exists_eq_left']
    rw [encP_length]
    have stop : (∀ y m, a.getP i = some (y, m) → O.cmp y x ≠ 1) → U { nx := fun x G1 => ∃ G0, GLe G0 G1 ∧ q W.non G0, rt := fun w G1 => ∃ G0, GLe G0 G1 ∧ q w G0 } [some (.ref l), some (.tup [.tup (encP x), .int n]), some (.int (i : Int))] G' := fun hst => by
      subst hU
      have put : (∀ y m, a.getP i = some (y, m) → y ≠ x) → O.NF (O.app (O.takeO i a) (.c x n (O.dropO i a))) := fun hne => nf_put hx hn ha habove fun y m hy => by
        have h1 := hst y m hy
        have h2 : O.cmp y x ≠ 0 := fun z => hne y m hy (O.cmp_eq _ _ z)
        rcases O.cmp_range y x with k | k | k <;> (clear F F2 ml nd hr ha hx hn hda hdx hl hG hq hi habove hB hst hne hy; omega)
      refine seqU fun U hU => ?_
      have fin : (∀ y m, a.getP i = some (y, m) → y ≠ x) → U { nx := fun x G1 => ∃ G0, GLe G0 G1 ∧ q W.non G0, rt := fun w G1 => ∃ G0, GLe G0 G1 ∧ q w G0 } [some (.ref l), some (.tup [.tup (encP x), .int n]), some (.int (i : Int))] G' := fun hne => by
        subst hU
        walk_at "R"
        have hlist : (cutW (encP a) none (some (i : Int)) ++ [W.tup [W.tup (encP x), W.int n]]) ++ cutW (encP a) (some (i : Int)) none = encP (O.app (O.takeO i a) (.c x n (O.dropO i a))) := by
          rw [cut_to, cut_from, encP_take, encP_drop, encP_app, encP_c, List.append_assoc]; rfl
        have lt := len_td i a
        have st := size_td i a
        have dt := dp_td i a
        have m1 := mx_take i a
        have m2 := mx_drop i a
        have l1 : (cutW (encP a) none (some (i : Int))).length ≤ 1000 := by rw [cut_to, encP_take, encP_length]; (clear F F2 ml nd hr ha hx hn hda hdx hG hq hi habove hB hst put hne hlist st dt m1 m2; omega)
        have l2 : (cutW (encP a) (some (i : Int)) none).length ≤ 1000 := by rw [cut_from, encP_drop, encP_length]; (clear F F2 ml nd hr ha hx hn hda hdx hG hq hi habove hB hst put hne hlist st dt m1 m2 l1; omega)
        refine ⟨_, hG, fun p1 h1 p2 h2 => ⟨_, _, updG_ne' updG_same h2, updG_same, by simp; exact Nat.le_trans (by assumption) (Nat.le_of_ble_eq_true rfl), fun p3 h3 => ⟨_, updG_ne' (updG_ne' (updG_ne' hG h1) h2) h3, fun p4 h4 => ⟨_, _, updG_ne' updG_same h4, updG_same, by simp; (clear F F2 ml nd hr ha hx hn hda hdx hl hG hq hi habove hB hst put hne hlist lt st dt m1 m2 h1 h2 h3 h4; omega), fun p5 h5 => ⟨_, GLe.refl _, ?_⟩⟩⟩⟩⟩
        rw [hlist]
        refine hq p5 _ _ ((((GLe.new h1).trans (GLe.new h2)).trans (GLe.new h3)).trans ((GLe.new h4).trans (GLe.new h5))) updG_same (put hne) ?_ ?_ ?_ ?_ ?_
        · rw [len_app]; simp only [O.len]; (clear F F2 ml nd hr ha hx hn hda hdx hl hG hq hi habove hB hst put hne hlist st dt m1 m2 l1 l2 h1 h2 h3 h4 h5; omega)
        · rw [O.dp_app]; simp only [O.dp]; (clear F F2 ml nd hr ha hx hn hda hdx hl hG hq hi habove hB hst put hne hlist lt st m1 m2 l1 l2 h1 h2 h3 h4 h5; omega)
        · rw [O.size_app]; simp only [O.size]; (clear F F2 ml nd hr ha hx hn hda hdx hl hG hq hi habove hB hst put hne hlist lt dt m1 m2 l1 l2 h1 h2 h3 h4 h5; omega)
        · rw [O.mx_app, O.mx_c]; (clear F F2 ml nd hr ha hx hn hda hdx hl hG hq hi habove hB hst put hne hlist lt st dt l1 l2 h1 h2 h3 h4 h5; omega)
        · have h1 := O.hw_app (O.takeO i a) (.c x n (O.dropO i a))
          have h2 := O.hw_drop i a
          have h3 := O.hw_take i a
          rw [O.hw_c] at h1
          simp only [O.len] at h1
          (clear F F2 ml nd hr ha hx hn hda hdx hl hG hq hi habove hB hst put hne hlist st dt m1 m2 l1 l2 h4 h5; omega)
      walk_at "R"
      simp only [hG, Option.some.injEq, GO.lst.injEq, exists_eq_left']
      rw [encP_length]
      split
      · obtain ⟨y, m, hp⟩ := O.getP_some (a := a) (i := i) (by (clear F F2 ml nd hr ha hx hn hda hdx hl hG hq hi habove hB hst put hU fin; omega))
        have hs := O.getP_size hp
        have hdy := tup_dep y
        refine ix_eq ⟨_, encP_at hp, ?_⟩
        unfold prt enc
        walk_at "R"
        refine ⟨tup_flat y, tup_flat x, by (clear F F2 ml nd hr ha hx hn hdx hl hG hq hi habove hB hst put hU fin hp; omega), ?_⟩
        rw [tup_eq]
        by_cases hyx : y = x
        · rw [if_pos (by simpa using hyx)]
          exact ⟨G', GLe.refl _, hq l G' a (GLe.refl _) hG ha (by (clear F F2 ml nd hr ha hx hn hda hdx hl hG hq hi habove hB hst put hU fin hp hs hdy hyx; omega)) (by (clear F F2 ml nd hr ha hx hn hda hdx hl hG hq hi habove hB hst put hU fin hp hs hdy hyx; omega)) (by (clear F F2 ml nd hr ha hx hn hda hdx hl hG hq hi habove hB hst put hU fin hp hs hdy hyx; omega)) (by (clear F F2 ml nd hr ha hx hn hda hdx hl hG hq hi habove hB hst put hU fin hp hs hdy hyx; omega)) (by (clear F F2 ml nd hr ha hx hn hda hdx hl hG hq hi habove hB hst put hU fin hp hs hdy hyx; omega))⟩
        · rw [if_neg (by simpa using hyx)]
          refine fin fun y' m' hy' => ?_
          rw [hp] at hy'
          cases hy'
          exact hyx
      · refine fin fun y' m' hy' => ?_
        rw [O.getP_none.mpr (by (clear F F2 ml nd hr ha hx hn hda hdx hl hG hq habove hB hst put hU fin hy'; omega))] at hy'
        cases hy'
    split
    · obtain ⟨y, m, hp⟩ := O.getP_some (a := a) (i := i) (by (clear F F2 ml nd hr ha hx hn hda hdx hl hU hG hq hi habove hB stop; omega))
      have hs := O.getP_size hp
      refine ix_eq ⟨_, encP_at hp, ?_⟩
      unfold prt enc
      walk_at "R"
      refine ⟨y, x, rfl, by (clear F F2 ml nd hr ha hx hn hdx hl hU hG hq hi habove hB stop hp; omega), ?_⟩
      walk_at "R"
      by_cases h1 : O.cmp y x = 1
      · rw [if_pos h1]
        refine ⟨fun τ1 G1 => G1 = G' ∧ τ1 = [some (.ref l), some (.tup [.tup (encP x), .int n]), some (.int ((i + 1 : Nat) : Int))], ?_, ?_⟩
        · rintro τ1 G1 ⟨rfl, rfl⟩
          refine ⟨a.len - (i + 1), by (clear F F2 ml nd hr ha hx hn hda hdx hl hU hi habove hB hp hs h1 hG hq stop; omega), rfl, i + 1, rfl, by (clear F F2 ml nd hr ha hx hn hda hdx hl hU hi habove hB hp hs h1 hG hq stop; omega), fun j y' m' hj hy' => ?_, rfl⟩
          by_cases hji : j < i
          · exact habove j y' m' hji hy'
          · have : j = i := by (clear F F2 ml nd hr ha hx hn hda hdx hl hU hi habove hB hp hs h1 hG hq stop hy'; omega)
            subst this
            rw [hp] at hy'
            cases hy'
            exact h1
        · subst hB
          walk_at "R"
          rfl
      · rw [if_neg h1]
        refine stop fun y' m' hy' => ?_
        rw [hp] at hy'
        cases hy'
        exact h1
    · refine stop fun y' m' hy' => ?_
      rw [O.getP_none.mpr (by (clear F F2 ml nd hr ha hx hn hda hdx hl hU hG hq habove hB stop hy'; omega))] at hy'
      cases hy'

/-! a number drawn -/
theorem scDr : FnScope ["_law_cell", "_law_level", "_law_parts", "_law_k", "_law_number", "_law_exponent"] ["_law_cell", "_law_level"] (defScope (top 19)) := ⟨rfl, rfl, rfl, by decide +kernel, rfl, by decide +kernel, by decide +kernel⟩
theorem fnDr {L k : Nat} (hk60 : 61 ≤ k) (F : Fun K "_law_drawn" "_law_drawn" (top 19) f fd) (F1 : Fx P w K mg base "_law_drawn" ["_law_cell", "_law_level"] k (spDr L)) (F2 : Fx P w K mg base "_law_mixed" ["_law_cell", "_law_k"] 1 spMx) (F3 : Fx P w K mg base "_law_put" ["_law_parts", "_law_part"] 61 spPt) (F4 : Fx P w K mg base "_law_many" ["_law_number"] 1 spMn) (mr : mg "range" = none) (mt : mg "tuple" = none) : WFn P w K mg base (k + 1) f fd ["_law_cell", "_law_level"] (spDr (L + 1)) := by
  have nd := scDr.nd
  refine fn3 F scDr (fun ws G q e h => by obtain ⟨_, _, rfl, _⟩ := h; rfl) (fun cdv A outer s H E hr => ?_)
  apply bodyOf
  · exact (qss_cons (qs_set 2 nd rfl (.inl rfl) (qe_lst qa_nil)) (qss_cons (qs_for PySem.PassesOwn.never rfl (qi_range rfl mr (qa_cons (qe_ix q_ix (qe_lst (qa_cons qe_int (qa_cons qe_int (qa_cons qe_int (qa_cons qe_int (qa_cons qe_int (qa_cons qe_int qa_nil))))))) (qe_op q_mod (qe_op q_divB (qe_fxn F2 (Room.mono hr (by omega)) rfl (qa_cons (qe_var 0 rfl (.inl rfl)) (qa_cons qe_int qa_nil))) qe_int) qe_int) (fun _ _ => rfl)) qa_nil)) (qg_name 3 nd rfl (.inl rfl)) (qss_cons (qs_set 4 nd rfl (.inl rfl) (qe_fxn F2 (Room.mono hr (by omega)) rfl (qa_cons (qe_var 0 rfl (.inl rfl)) (qa_cons (qe_op q_add (qe_var 3 rfl (.inl rfl)) qe_int) qa_nil)))) (qss_cons (qs_set 5 nd rfl (.inl rfl) (qe_tup qa_nil)) (qss_cons (qs_if (qt_cmp q_gt (qe_var 1 rfl (.inl rfl)) qe_int (nomark _)) (qss_cons (qs_set 5 nd rfl (.inl rfl) (qe_fxn F1 (Room.mono hr (by omega)) rfl (qa_cons (qe_op q_divB (qe_var 4 rfl (.inl rfl)) qe_int) (qa_cons (qe_op q_sub (qe_var 1 rfl (.inl rfl)) qe_int) qa_nil)))) qss_nil) qss_nil) (qss_cons (qs_set 2 nd rfl (.inl rfl) (qe_fxn F3 (Room.mono hr hk60) rfl (qa_cons (qe_var 2 rfl (.inl rfl)) (qa_cons (qe_tup (qa_cons (qe_var 5 rfl (.inl rfl)) (qa_cons (qe_fxn F4 (Room.mono hr (by omega)) rfl (qa_cons (qe_op q_divB (qe_var 4 rfl (.inl rfl)) qe_int) qa_nil)) qa_nil))) qa_nil)))) qss_nil))))) (qss_cons (qs_ret (qe_callTy q_tuple rfl mt b_tuple (qa_cons (qe_var 2 rfl (.inl rfl)) qa_nil))) qss_nil)))
  · rintro ws G q e ⟨c, lv, rfl, hlv, hlv2, hq⟩
    refine seqU fun U hU => ?_
    walk_at "R"
    intro p hp
    subst hU
    refine seqU fun U hU => ?_
    walk_at "R"
    intro p1 hp1
    refine ⟨c, 0, rfl, by (clear hk60 F F1 F2 F3 F4 mr mt nd hr hlv hlv2 hq hp hU hp1; omega), by (clear hk60 F F1 F2 F3 F4 mr mt nd hr hlv hlv2 hq hp hU hp1; omega), fun v h0 h1 => ?_⟩
    walk_at "R"
    have hG1 : updG (updG G p (GO.lst [])) p1 (GO.lst [W.int 0, W.int 1, W.int 1, W.int 2, W.int 2, W.int 3]) p = some (.lst (encP .z)) := updG_ne' updG_same hp1
    have le1 : GLe G (updG (updG G p (GO.lst [])) p1 (GO.lst [W.int 0, W.int 1, W.int 1, W.int 2, W.int 2, W.int 3])) := (GLe.new hp).trans (GLe.new hp1)
    refine ix_new updG_same ?_
    generalize updG (updG G p (GO.lst [])) p1 (GO.lst [W.int 0, W.int 1, W.int 1, W.int 2, W.int 2, W.int 3]) = G1 at hG1 le1 ⊢
    refine pick_ints (vs := [0, 1, 1, 2, 2, 3]) (n := 6) (lo := 0) (hi := 3) rfl (by decide) (by decide) fun j j0 j1 => ?_
    try dsimp only
    refine ⟨by omega, by omega, ?_⟩
    obtain ⟨E1, hE1⟩ : ∃ E1 : Nat, E1 = if lv = 0 then 0 else 4 ^ lv := ⟨_, rfl⟩
    have hE3 : 3 * (E1 + 1) ≤ 4 ^ (lv + 1) := by
      rw [hE1]
      split
      · rename_i h; subst h; decide
      · have h4 : 4 ^ 1 ≤ 4 ^ lv := Nat.pow_le_pow_right (by decide) (by (clear hk60 F F1 F2 F3 F4 mr mt nd hr hlv hq hp hU hp1 h0 h1 hG1 le1 j0 j1 hE1; omega))
        rw [Nat.pow_succ]
        (clear hk60 F F1 F2 F3 F4 mr mt nd hr hlv hlv2 hq hp hU hp1 h0 h1 hG1 le1 j0 j1 hE1; omega)
    refine loop_up j.toNat (fun i τ G' => ∃ (l : Addr) (a : O) (t3 t4 t5 : Option W), τ = [some (.int c), some (.int (lv : Int)), some (.ref l), t3, t4, t5] ∧ G' l = some (.lst (encP a)) ∧ GLe G G' ∧ a.NF ∧ a.dp ≤ lv + 1 ∧ a.size ≤ i * (E1 + 1) ∧ a.len ≤ i ∧ O.mx a ≤ 10 ^ 15 ∧ O.hw a ≤ 3)
      ⟨p, .z, _, _, _, rfl, hG1, le1, trivial, by simp [O.dp], by simp [O.size], by simp [O.len], by simp [O.mx], by simp [O.hw]⟩ ?_ ?_
    · rintro τ G' ⟨l, a, t3, t4, t5, rfl, hl, le, na, da, sa, ln, ma, wa⟩
      refine ⟨trivial, ?_⟩
      subst hU
      walk_at "R"
      have : j.toNat * (E1 + 1) ≤ 3 * (E1 + 1) := Nat.mul_le_mul_right _ (by (clear hk60 F F1 F2 F3 F4 mr mt nd hr hlv hlv2 hq hp hp1 h0 h1 hG1 le1 hE1 hE3 hl le na da sa ln ma wa; omega))
      exact ⟨_, hl, G, le, hq a ⟨na, da, by (clear hk60 F F1 F2 F3 F4 mr mt nd hr hlv hlv2 hq hp hp1 h0 h1 hG1 le1 j0 j1 hl le na da ln ma wa; omega), ma⟩ wa⟩
    · rintro i τ G' kk hi ⟨l, a, t3, t4, t5, rfl, hl, le, na, da, sa, ln, ma, wa⟩ hk
      refine ⟨trivial, ?_⟩
      refine seqU fun U1 hU1 => ?_
      walk_at "R"
      refine ⟨c, (i : Int) + 1, rfl, by (clear hk60 F F1 F2 F3 F4 mr mt nd hr hlv hlv2 hq hp hU hp1 h0 h1 hG1 le1 j0 j1 hE1 hE3 hi hl le na da sa ln ma wa hk hU1; omega), by (clear hk60 F F1 F2 F3 F4 mr mt nd hr hlv hlv2 hq hp hU hp1 h0 h1 hG1 le1 hE1 hE3 hl le na da sa ln ma wa hk hU1; omega), fun n n0 n1 => ?_⟩
      subst hU1
      refine seqU fun U1 hU1 => ?_
      walk_at "R"
      subst hU1
      refine seqU fun U1 hU1 => ?_
      have body : ∀ x : O, x.NF → x.dp ≤ lv → x.size ≤ E1 → O.mx x ≤ 10 ^ 15 → O.hw x ≤ 3 → U1 { nx := kk, ct := kk, bk := U { nx := fun x G1 => ∃ G0, GLe G0 G1 ∧ q W.non G0, rt := fun w G1 => ∃ G0, GLe G0 G1 ∧ q w G0 }, rt := fun w G1 => ∃ G0, GLe G0 G1 ∧ q w G0 } [some (.int c), some (.int (lv : Int)), some (.ref l), some (.int (i : Int)), some (.int n), some (.tup (encP x))] G' := fun x nx dx sx mx wx => by
        subst hU1
        walk_at "R"
        refine ⟨n / 7, rfl, by (clear hk60 F F1 F2 F3 F4 mr mt nd hr hlv hlv2 hq hp hU hp1 h0 h1 hG1 le1 j0 j1 hE1 hE3 hi hl le na da sa ln ma wa hk nx dx sx mx wx; omega), by (clear hk60 F F1 F2 F3 F4 mr mt nd hr hlv hlv2 hq hp hU hp1 h0 h1 hG1 le1 j0 j1 hE1 hE3 hi hl le na da sa ln ma wa hk nx dx sx mx wx; omega), fun v v0 v1 => ?_⟩
        walk_at "R"
        refine ⟨l, a, x, v, rfl, hl, na, nx, v0, by (clear hk60 F F1 F2 F3 F4 mr mt nd hr hlv hq hp hU hp1 h0 h1 hG1 le1 j0 j1 hE1 hE3 hi hl le na sa ln ma wa hk n0 n1 nx dx sx mx wx v0 v1; omega), by (clear hk60 F F1 F2 F3 F4 mr mt nd hr hlv hq hp hU hp1 h0 h1 hG1 le1 j0 j1 hE1 hE3 hi hl le na da sa ln ma wa hk n0 n1 nx sx mx wx v0 v1; omega), by (clear hk60 F F1 F2 F3 F4 mr mt nd hr hlv hlv2 hq hp hU hp1 h0 h1 hG1 le1 hE1 hE3 hl le na da sa ma wa hk n0 n1 nx dx sx mx wx v0 v1; omega), fun l' G2 a' le' hl' na' ln' da' sa' ma' wa' => ?_⟩
        have e : (i + 1) * (E1 + 1) = i * (E1 + 1) + (E1 + 1) := by rw [Nat.add_mul, Nat.one_mul]
        exact hk _ _ ⟨l', a', _, _, _, rfl, hl', le.trans le', na', by (clear hk60 F F1 F2 F3 F4 mr mt nd hr hlv hlv2 hq hp hU hp1 h0 h1 hG1 le1 j0 j1 hE1 hE3 hi hl le na sa ln ma wa hk n0 n1 nx sx mx wx v0 v1 le' hl' na' ln' sa' ma' wa' e; omega), by (clear hk60 F F1 F2 F3 F4 mr mt nd hr hlv hlv2 hq hp hU hp1 h0 h1 hG1 le1 j0 j1 hE3 hi hl le na da ln ma wa hk n0 n1 nx dx mx wx v0 v1 le' hl' na' ln' da' ma' wa'; omega), by (clear hk60 F F1 F2 F3 F4 mr mt nd hr hlv hlv2 hq hp hU hp1 h0 h1 hG1 le1 j0 j1 hE1 hE3 hi hl le na da sa ma wa hk n0 n1 nx dx sx mx wx v0 v1 le' hl' na' da' sa' ma' wa' e; omega), by (clear hk60 F F1 F2 F3 F4 mr mt nd hr hlv hlv2 hq hp hU hp1 h0 h1 hG1 le1 j0 j1 hE1 hE3 hi hl le na da sa ln wa hk n0 n1 nx dx sx wx le' hl' na' ln' da' sa' wa' e; omega), by (clear hk60 F F1 F2 F3 F4 mr mt nd hr hlv hlv2 hq hp hU hp1 h0 h1 hG1 le1 hE1 hE3 hl le na da sa ma hk n0 n1 nx dx sx mx v0 v1 le' hl' na' ln' da' sa' ma' e; omega)⟩
      walk_at "R"
      split
      · rename_i hpos
        refine ⟨n / 5, lv - 1, by congr 3; (clear hk60 F F1 F2 F3 F4 mr mt nd hr hlv hq hp hU hp1 h0 h1 hG1 le1 j0 j1 hE1 hE3 hi hl le na da sa ln ma wa hk n0 n1 hU1 body; omega), by (clear hk60 F F1 F2 F3 F4 mr mt nd hr hq hp hU hp1 h0 h1 hG1 le1 j0 j1 hE1 hE3 hi hl le na da sa ln ma wa hk n0 n1 hU1 body; omega), by (clear hk60 F F1 F2 F3 F4 mr mt nd hr hlv hq hp hU hp1 h0 h1 hG1 le1 j0 j1 hE1 hE3 hi hl le na da sa ln ma wa hk n0 n1 hU1 body; omega), fun o ho wo => ?_⟩
        have e1 : lv - 1 + 1 = lv := by (clear hk60 F F1 F2 F3 F4 mr mt nd hr hlv hq hp hU hp1 h0 h1 hG1 le1 j0 j1 hE1 hE3 hi hl le na da sa ln ma wa hk n0 n1 hU1 body ho wo; omega)
        have h1 := ho.dp
        have h2 := ho.sz
        rw [e1] at h1 h2
        refine body o ho.nf h1 ?_ ho.mx wo
        rw [hE1, if_neg (by (clear hk60 F F1 F2 F3 F4 mr mt nd hr hlv hq hp hU hp1 h0 hG1 le1 j0 j1 hE1 hE3 hi hl le na da sa ln ma wa hk n0 n1 hU1 body ho wo h1 h2; omega))]
        exact h2
      · exact body .z trivial (by simp [O.dp]) (by simp [O.size]) (by simp [O.mx]) (by simp [O.hw])
theorem fxDr (T : Txt K mg) : ∀ L : Nat, L ≤ 10 → Fx P w K mg base "_law_drawn" ["_law_cell", "_law_level"] (L + 61) (spDr L)
  | 0, _ => T.d__law_drawn.fx fun f fd F => WFn.none fun ws G q e ⟨c, lv, _, h, _⟩ => by (clear T F; omega)
  | L + 1, h => T.d__law_drawn.fx fun f fd F => by
    have M := T.d__law_mixed.fx (P := P) (w := w) (base := base) fun f fd F => fnMx F
    have Pt := T.d__law_put.fx (P := P) (w := w) (base := base) fun f fd F => fnPt F (fxOr T 60 (by decide)) T.z_len
    have Mn := T.d__law_many.fx (P := P) (w := w) (base := base) fun f fd F => fnMn F
    have := fnDr (by (clear T F M Pt Mn; omega)) F (fxDr T L (by (clear T F M Pt Mn; omega))) M Pt Mn T.z_range T.z_tuple
    exact (show L + 61 + 1 = L + 1 + 61 by (clear T h F M Pt Mn this; omega)) ▸ this

/-! a number by two cells -/
theorem scNy : FnScope ["_law_one", "_law_two", "_law_found", "_law_great_here"] ["_law_one", "_law_two"] (defScope (top 21)) := ⟨rfl, rfl, rfl, by decide +kernel, rfl, by decide +kernel, by decide +kernel⟩
theorem len_of_sml {d s : Nat} {m : Int} {o : O} (h : Sml d s m o) : o.len ≤ s := Nat.le_trans (O.len_le_size o) h.sz
theorem lt_noz {x : O} : ∀ {a : O}, O.Lt x a → O.Lt x (O.filt (fun y _ => decide (¬ y = .z)) a)
  | .z, _ => trivial
  | .c y n r, h => by
    rw [O.filt_c]
    split
    · exact ⟨h.1, lt_noz h.2⟩
    · exact lt_noz h.2
/-- without the whole part, and a whole part put behind -/
theorem nf_whole {n : Int} (hn : 1 ≤ n) : ∀ {a : O}, a.NF → O.NF (O.app (O.filt (fun y _ => decide (¬ y = .z)) a) (.c .z n .z))
  | .z, _ => ⟨trivial, hn, trivial, trivial⟩
  | .c y m r, h => by
    rw [O.filt_c]
    split
    · rename_i hy
      have hy' : y ≠ .z := by simpa using hy
      have : O.cmp .z y < 0 := O.z_lt hy'
      exact ⟨h.1, h.2.1, O.Lt.app (lt_noz h.2.2.1) ⟨this, trivial⟩, nf_whole hn h.2.2.2⟩
    · exact nf_whole hn h.2.2.2
theorem fnNy (F : Fun K "_law_number_by" "_law_number_by" (top 21) f fd) (F1 : Fx P w K mg base "_law_drawn" ["_law_cell", "_law_level"] 66 (spDr 5)) (F2 : Fx P w K mg base "_law_mixed" ["_law_cell", "_law_k"] 1 spMx) (F3 : Fx P w K mg base "_law_great" ["_law_cell"] 2 spGr) (mt : mg "tuple" = none) : WFn P w K mg base 67 f fd ["_law_one", "_law_two"] spNy := by
  have nd := scNy.nd
  refine fn3 F scNy (fun ws G q e h => by obtain ⟨_, _, rfl, _⟩ := h; rfl) (fun cdv A outer s H E hr => ?_)
  apply bodyOf
  · exact (qss_cons (qs_set 2 nd rfl (.inl rfl) (qe_fxn F1 (Room.mono hr (by omega)) rfl (qa_cons (qe_var 0 rfl (.inl rfl)) (qa_cons (qe_op q_mod (qe_fxn F2 (Room.mono hr (by omega)) rfl (qa_cons (qe_var 1 rfl (.inl rfl)) (qa_cons qe_int qa_nil))) qe_int) qa_nil)))) (qss_cons (qs_set 3 nd rfl (.inl rfl) (qe_fxn F3 (Room.mono hr (by omega)) rfl (qa_cons (qe_var 1 rfl (.inl rfl)) qa_nil))) (qss_cons (qs_if (qt_cmp (q_eq4 hr) (qe_op q_mod (qe_var 1 rfl (.inl rfl)) qe_int) qe_int (nomark _)) (qss_cons (qs_set 2 nd rfl (.inl rfl) (qe_op q_add (qe_callTy q_tuple rfl mt b_tuple (qa_cons (qe_comp (compSc (by first | rfl | decide +kernel)) rfl (qi_seq (qe_var 2 rfl (.inl rfl))) (fun _ _ _ _ => (qg_nameB 1 (by first | assumption | decide +kernel | rfl) rfl (.inl rfl))) (fun _ _ _ _ => (qts_one (qt_cmp (q_ne4 hr) (qe_ix q_ix (qe_var 1 rfl (.inl rfl)) qe_int (fun _ _ => rfl)) (qe_tup qa_nil) (nomark _)))) (fun _ _ _ _ => (qe_var 1 rfl (.inl rfl)))) qa_nil)) (qe_tup (qa_cons (qe_tup (qa_cons (qe_tup qa_nil) (qa_cons (qe_var 3 rfl (.inl rfl)) qa_nil))) qa_nil)))) qss_nil) qss_nil) (qss_cons (qs_if (qt_w (qw_and (qt_cmp (q_eq4 hr) (qe_op q_mod (qe_var 1 rfl (.inl rfl)) qe_int) qe_int (nomark _)) (qw_and1 (qt_cmp (q_ne4 hr) (qe_var 2 rfl (.inl rfl)) (qe_tup qa_nil) (nomark _))))) (qss_cons (qs_set 2 nd rfl (.inl rfl) (qe_op q_add (qe_tup (qa_cons (qe_tup (qa_cons (qe_ix q_ix (qe_ix q_ix (qe_var 2 rfl (.inl rfl)) qe_int (fun _ _ => rfl)) qe_int (fun _ _ => rfl)) (qa_cons (qe_var 3 rfl (.inl rfl)) qa_nil))) qa_nil)) (qe_slice (qe_var 2 rfl (.inl rfl)) (qo_some qe_int) qo_none))) qss_nil) qss_nil) (qss_cons (qs_if (qt_cmp (q_eq4 hr) (qe_op q_mod (qe_var 1 rfl (.inl rfl)) qe_int) qe_int (nomark _)) (qss_cons (qs_set 2 nd rfl (.inl rfl) (qe_tup (qa_cons (qe_tup (qa_cons (qe_var 2 rfl (.inl rfl)) (qa_cons (qe_op q_add qe_int (qe_op q_mod (qe_var 3 rfl (.inl rfl)) qe_int)) qa_nil))) qa_nil))) qss_nil) qss_nil) (qss_cons (qs_if (qt_cmp (q_eq4 hr) (qe_op q_mod (qe_var 1 rfl (.inl rfl)) qe_int) qe_int (nomark _)) (qss_cons (qs_set 2 nd rfl (.inl rfl) (qe_callTy q_tuple rfl mt b_tuple (qa_cons (qe_comp (compSc (by first | rfl | decide +kernel)) rfl (qi_seq (qe_var 2 rfl (.inl rfl))) (fun _ _ _ _ => (qg_nameB 1 (by first | assumption | decide +kernel | rfl) rfl (.inl rfl))) (fun _ _ _ _ => (qts_one (qt_cmp (q_ne4 hr) (qe_ix q_ix (qe_var 1 rfl (.inl rfl)) qe_int (fun _ _ => rfl)) (qe_tup qa_nil) (nomark _)))) (fun _ _ _ _ => (qe_var 1 rfl (.inl rfl)))) qa_nil))) qss_nil) qss_nil) (qss_cons (qs_ret (qe_var 2 rfl (.inl rfl))) qss_nil)))))))
  · rintro ws G q e ⟨c, k, rfl, hq⟩
    refine seqU fun U hU => ?_
    walk_at "R"
    refine ⟨k, 9, rfl, by (clear F F1 F2 F3 mt nd hr hq hU; omega), by (clear F F1 F2 F3 mt nd hr hq hU; omega), fun v v0 v1 => ?_⟩
    walk_at "R"
    refine ⟨c, (v % 4).toNat, by congr 3; (clear F F1 F2 F3 mt nd hr hq hU v0 v1; omega), by (clear F F1 F2 F3 mt nd hr hq hU v0 v1; omega), by (clear F F1 F2 F3 mt nd hr hq hU v0 v1; omega), fun o ho wo => ?_⟩
    have hp4 : 4 ^ ((v % 4).toNat + 1) ≤ 4 ^ 4 := Nat.pow_le_pow_right (by decide) (by (clear F F1 F2 F3 mt nd hr hq hU v0 v1 ho wo; omega))
    have so : Sml 4 256 (10 ^ 15) o := ⟨ho.nf, by have := ho.dp; (clear F F1 F2 F3 mt nd hr hq hU v0 v1 ho wo hp4; omega), by have := ho.sz; (clear F F1 F2 F3 mt nd hr hq hU v0 v1 ho wo; omega), ho.mx⟩
    subst hU
    refine seqU fun U hU => ?_
    walk_at "R"
    refine ⟨k, rfl, fun g g0 g1 => ?_⟩
    subst hU
    have lo := len_of_sml so
    have so_nf := so.nf
    have so_dp := so.dp
    have so_sz := so.sz
    have so_mx := so.mx
    have hdo := tup_dep o
    have noz : ∀ {d s : Nat} {m : Int} {o : O}, Sml d s m o → Sml d s m (O.filt (fun y _ => decide (¬ y = .z)) o) := fun h => ⟨h.nf.filt _, Nat.le_trans (O.dp_filt _ _) h.dp, Nat.le_trans (O.size_filt _ _) h.sz, Int.le_trans (O.mx_filt _ _) h.mx⟩
    refine seqU fun U hU => ?_
    have s2 : ∀ (o : O) (G' : Gp), Sml 4 280 (10 ^ 50) o → O.hw o ≤ 4 → GLe G G' → U { nx := fun x G1 => ∃ G0, GLe G0 G1 ∧ q W.non G0, rt := fun w G1 => ∃ G0, GLe G0 G1 ∧ q w G0 } [some (W.int c), some (W.int k), some (W.tup (encP o)), some (W.int g)] G' := fun o G' so wo le => by
      subst hU
      refine seqU fun U hU => ?_
      have s3 : ∀ (o : O) (G' : Gp), Sml 4 280 (10 ^ 50) o → O.hw o ≤ 4 → GLe G G' → U { nx := fun x G1 => ∃ G0, GLe G0 G1 ∧ q W.non G0, rt := fun w G1 => ∃ G0, GLe G0 G1 ∧ q w G0 } [some (W.int c), some (W.int k), some (W.tup (encP o)), some (W.int g)] G' := fun o G' so wo le => by
        subst hU
        refine seqU fun U hU => ?_
        have s4 : ∀ (o : O) (G' : Gp), Sml 5 290 (10 ^ 50) o → O.hw o ≤ 4 → GLe G G' → U { nx := fun x G1 => ∃ G0, GLe G0 G1 ∧ q W.non G0, rt := fun w G1 => ∃ G0, GLe G0 G1 ∧ q w G0 } [some (W.int c), some (W.int k), some (W.tup (encP o)), some (W.int g)] G' := fun o G' so wo le => by
          subst hU
          refine seqU fun U hU => ?_
          have s5 : ∀ (o : O) (G' : Gp), Sml 5 290 (10 ^ 50) o → O.hw o ≤ 4 → GLe G G' → U { nx := fun x G1 => ∃ G0, GLe G0 G1 ∧ q W.non G0, rt := fun w G1 => ∃ G0, GLe G0 G1 ∧ q w G0 } [some (W.int c), some (W.int k), some (W.tup (encP o)), some (W.int g)] G' := fun o G' so wo le => by
            subst hU
            walk_at "R"
            exact ⟨G, le, hq o ⟨so.nf, so.dp, by have := so.sz; exact Nat.le_trans (by assumption) (Nat.le_of_ble_eq_true rfl), so.mx⟩ wo⟩
          walk_at "R"
          split
          · show compW _ _ _ _ _ [none, none] _ [] _
            have lo := len_of_sml so
            refine comp_enc (fun e _ => decide (¬ e = .z)) prt trivial (allP_dp o) (fun y m hy k hk => ?_) (fun y m _ _ k hk => ?_) (by simp; exact Nat.le_trans (by assumption) (Nat.le_of_ble_eq_true rfl)) (fun _ => rfl) fun p1 hp1 => ?_
            · unfold prt enc
              have := tup_dep y
              have := so.dp
              walk_at "R"
              refine ⟨tup_flat y, by (clear F F1 F2 F3 mt nd hr hq v0 v1 ho hp4 g0 g1 so_nf so_dp so_sz so_mx hdo noz so wo le hU s5 lo hk; omega), ?_⟩
              rw [tup_nil_eq]
              simpa using hk
            · walk_at "R"
              exact hk
            rw [List.nil_append, mapP_prt]
            exact ⟨_, updG_same, s5 _ _ (noz so) (Nat.le_trans (O.hw_filt _ _) wo) (le.trans (GLe.new hp1))⟩
          · exact s5 o G' so wo le
        walk_at "R"
        split
        · refine s4 (.c o (1 + g % 3) .z) G' ⟨⟨so.nf, by (clear F F1 F2 F3 mt nd hr hq v0 v1 ho hp4 g0 g1 lo so_nf so_dp so_sz so_mx hdo noz so wo le hU s4; omega), trivial, trivial⟩, ?_, ?_, ?_⟩ (by rw [O.hw_c]; simp only [O.len, O.hw]; (clear F F1 F2 F3 mt nd hr hq v0 v1 ho hp4 g0 g1 lo so_nf so_dp so_sz so_mx hdo noz so le hU s4; omega)) le
          · have := so.dp; simp only [O.dp]; (clear F F1 F2 F3 mt nd hr hq v0 v1 ho hp4 g0 g1 lo so_nf so_dp so_sz so_mx hdo noz so wo le hU s4; omega)
          · have := so.sz; simp only [O.size]; (clear F F1 F2 F3 mt nd hr hq v0 v1 ho hp4 g0 g1 lo so_nf so_dp so_sz so_mx hdo noz so wo le hU s4; omega)
          · have := so.mx; rw [O.mx_c]; simp only [O.mx]; (clear F F1 F2 F3 mt nd hr hq v0 v1 ho hp4 g0 g1 lo so_nf so_dp so_sz so_mx hdo noz so wo le hU s4; omega)
        · exact s4 o G' ⟨so.nf, by have := so.dp; exact Nat.le_trans (by assumption) (Nat.le_of_ble_eq_true rfl), by have := so.sz; exact Nat.le_trans (by assumption) (Nat.le_of_ble_eq_true rfl), so.mx⟩ wo le
      walk_at "R"
      split
      · have hd := tup_dep o
        have := so.dp
        refine ⟨tup_flat o, by (clear F F1 F2 F3 mt nd hr hq v0 v1 ho hp4 g0 g1 lo so_nf so_dp so_sz so_mx hdo noz so wo le hU s3; omega), ?_⟩
        rw [tup_nil_eq]
        cases o with
        | z =>
          rw [if_neg (by simp)]
          exact s3 .z G' so wo le
        | c e n r =>
          rw [if_pos (by simp), encP_c]
          unfold prt enc
          have e1 : cutW (W.tup [W.tup (encP e), W.int n] :: encP r) (some 1) none = encP r := by rw [show (1 : Int) = ((1 : Nat) : Int) from rfl, cut_from]; rfl
          have lo := len_of_sml so
          simp only [O.len] at lo
          walk_at "R"
          rw [e1]
          refine ⟨by rw [encP_length]; (clear F F1 F2 F3 mt nd hr hq v0 v1 ho hp4 g0 g1 so_nf so_dp so_sz so_mx hdo noz le hU s3 so wo hd this e1; omega), s3 (.c e g r) G' ⟨⟨so.nf.1, g0, so.nf.2.2.1, so.nf.2.2.2⟩, so.dp, so.sz, ?_⟩ wo le⟩
          have := so.mx
          rw [O.mx_c] at this ⊢
          (clear F F1 F2 F3 mt nd hr hq v0 v1 ho hp4 so_nf so_dp so_sz so_mx hdo noz le hU s3 so wo hd e1 lo; omega)
      · exact s3 o G' so wo le
    walk_at "R"
    split
    · show compW _ _ _ _ _ [none, none] G [] _
      refine comp_enc (fun e _ => decide (¬ e = .z)) prt trivial (allP_dp o) (fun y m hy k hk => ?_) (fun y m _ _ k hk => ?_) (by simp; exact Nat.le_trans (by assumption) (Nat.le_of_ble_eq_true rfl)) (fun _ => rfl) fun p1 hp1 => ?_
      · unfold prt enc
        have := tup_dep y
        walk_at "R"
        refine ⟨tup_flat y, by (clear F F1 F2 F3 mt nd hr hq v0 v1 ho wo hp4 so g0 g1 lo so_nf so_sz so_mx hdo noz hU s2 hk; omega), ?_⟩
        rw [tup_nil_eq]
        simpa using hk
      · walk_at "R"
        exact hk
      rw [List.nil_append, mapP_prt]
      have lf := len_filt (fun e _ => decide (¬ e = .z)) o
      refine ⟨_, updG_same, by rw [encP_length]; (clear F F1 F2 F3 mt nd hr hq v0 v1 ho wo hp4 so g0 g1 so_nf so_dp so_sz so_mx hdo noz hU s2 hp1; omega), ?_⟩
      have e2 : encP (O.filt (fun e _ => decide (¬ e = .z)) o) ++ [W.tup [W.tup [], W.int g]] = encP (O.app (O.filt (fun y _ => decide (¬ y = .z)) o) (.c .z g .z)) := by rw [encP_app]; rfl
      rw [e2]
      have d1 := O.dp_filt (fun y _ => decide (¬ y = .z)) o
      have z1 := O.size_filt (fun y _ => decide (¬ y = .z)) o
      have x1 := O.mx_filt (fun y _ => decide (¬ y = .z)) o
      have w1 := O.hw_filt (fun y _ => decide (¬ y = .z)) o
      have w2 := O.hw_app (O.filt (fun y _ => decide (¬ y = .z)) o) (.c .z g .z)
      have w3 := len_filt (fun y _ => decide (¬ y = .z)) o
      have w4 := O.len_le_hw o
      rw [O.hw_c] at w2
      simp only [O.len, O.hw] at w2
      refine s2 _ _ ⟨nf_whole g0 so_nf, ?_, ?_, ?_⟩ (by (clear F F1 F2 F3 mt nd hr hq v0 v1 ho hp4 so g0 g1 so_nf so_dp so_sz so_mx hdo noz hU s2 hp1 e2 d1 z1 x1 w3; omega)) (GLe.new hp1)
      · rw [O.dp_app]; simp only [O.dp]
        cases o with
        | z => simp [O.filt, O.dp]
        | c _ _ _ => (clear F F1 F2 F3 mt nd hr hq v0 v1 hp4 g0 g1 noz hU s2 hp1 ho wo so lo so_nf so_sz so_mx hdo lf e2 z1 x1 w1 w2 w3 w4; omega)
      · rw [O.size_app]; simp only [O.size]; (clear F F1 F2 F3 mt nd hr hq v0 v1 ho wo hp4 so g0 g1 lo so_nf so_dp so_mx hdo noz hU s2 hp1 lf e2 d1 x1 w1 w2 w3 w4; omega)
      · rw [O.mx_app, O.mx_c]; simp only [O.mx]; (clear F F1 F2 F3 mt nd hr hq v0 v1 ho wo hp4 so lo so_nf so_dp so_sz hdo noz hU s2 hp1 lf e2 d1 z1 w1 w2 w3 w4; omega)
    · exact s2 o G ⟨so_nf, so_dp, by walk_at "om", by (clear F F1 F2 F3 mt nd hr hq v0 v1 ho wo hp4 so g0 g1 lo so_nf so_dp so_sz hdo noz hU s2; omega)⟩ (by walk_at "om") (GLe.refl _)

/-! the program's products -/
theorem last_whole : ∀ {a : O} {x : O} {n : Int}, a.NF → O.last a = .c x n .z → O.same .z a = if x = .z then n else 0
  | .z, _, _, _, h => by cases h
  | .c e m .z, x, n, ha, h => by
    have : O.last (.c e m .z) = .c e m .z := rfl
    rw [this] at h
    injection h with h1 h2 _
    subst h1 h2
    by_cases k : e = .z
    · subst k; rw [if_pos rfl, O.same_self ha.2.2.1]
    · rw [if_neg k, O.same_ne k]; rfl
  | .c e m (.c e' m' r'), x, n, ha, h => by
    have e0 : O.last (.c e m (.c e' m' r')) = O.last (.c e' m' r') := by simp [O.last]
    rw [e0] at h
    have hne : e ≠ .z := fun z => by
      subst z
      have := ha.2.2.1.1
      cases e' <;> simp [O.cmp] at this
    rw [O.same_ne hne]
    exact last_whole ha.2.2.2 h
theorem no_whole : ∀ {a : O}, a.NF → O.same .z a = 0 → O.filt (fun y _ => decide (¬ y = .z)) a = a
  | .z, _, _ => rfl
  | .c e m r, ha, h => by
    have hne : e ≠ .z := fun z => by
      subst z
      rw [O.same_self ha.2.2.1] at h
      have := ha.2.1
      (clear ha; omega)
    rw [O.same_ne hne] at h
    rw [O.filt_c, if_pos (by simpa using hne), no_whole ha.2.2.2 h]
theorem with_whole : ∀ {a : O}, a.NF → O.same .z a ≠ 0 → O.filt (fun y _ => decide (¬ y = .z)) a = O.init a
  | .z, _, h => absurd rfl h
  | .c e m .z, ha, h => by
    have : e = .z := Classical.byContradiction fun k => h (by rw [O.same_ne k]; rfl)
    subst this
    rfl
  | .c e m (.c e' m' r'), ha, h => by
    have hne : e ≠ .z := fun z => by
      subst z
      have := ha.2.2.1.1
      cases e' <;> simp [O.cmp] at this
    rw [O.same_ne hne] at h
    have e0 : O.init (.c e m (.c e' m' r')) = .c e m (O.init (.c e' m' r')) := by simp [O.init]
    rw [O.filt_c, if_pos (by simpa using hne), with_whole ha.2.2.2 h, e0]
noncomputable def spWp : WSp := fun ws G q _ => ∃ a : O, ws = [.tup (encP a)] ∧ a.NF ∧ a.dp ≤ 60 ∧ q (.int (O.same .z a)) G
noncomputable def spWo : WSp := fun ws G q _ => ∃ a : O, ws = [.tup (encP a)] ∧ a.NF ∧ a.dp ≤ 60 ∧ q (.tup (encP (O.filt (fun y _ => decide (¬ y = .z)) a))) G
theorem scWp : FnScope ["a"] ["a"] (defScope (top 7)) := ⟨rfl, rfl, rfl, by decide +kernel, rfl, by decide +kernel, by decide +kernel⟩
theorem fnWp (F : Fun K "whole_part" "whole_part" (top 7) f fd) : WFn P w K mg base 1 f fd ["a"] spWp := by
  have nd := scWp.nd
  refine fn3 F scWp (fun ws G q e h => by obtain ⟨_, rfl, _⟩ := h; rfl) (fun cdv A outer s H E hr => ?_)
  apply bodyOf
  · exact (qss_cons (qs_if (qt_w (qw_or (qt_cmp (q_eq4 hr) (qe_var 0 rfl (.inl rfl)) (qe_tup qa_nil) (nomark _)) (qw_or1 (qt_cmp (q_ne4 hr) (qe_ix q_ix (qe_ix q_ix (qe_var 0 rfl (.inl rfl)) (qe_neg qe_int) (fun _ _ => rfl)) qe_int (fun _ _ => rfl)) (qe_tup qa_nil) (nomark _))))) (qss_cons (qs_ret qe_int) qss_nil) qss_nil) (qss_cons (qs_ret (qe_ix q_ix (qe_ix q_ix (qe_var 0 rfl (.inl rfl)) (qe_neg qe_int) (fun _ _ => rfl)) qe_int (fun _ _ => rfl))) qss_nil))
  · rintro ws G q e ⟨a, rfl, ha, hd, hq⟩
    have hd2 := tup_dep a
    walk_at "R"
    refine ⟨tup_flat a, by (clear F nd hr ha hq; omega), ?_⟩
    rw [tup_nil_eq]
    by_cases hz : a = .z
    · subst hz
      rw [if_pos (by simp)]
      exact GLe.done hq
    · rw [if_neg (by simpa using hz)]
      obtain ⟨x, n, h1, h2⟩ := last_c hz
      have hw := last_whole ha h1
      have hs := O.getP_size h2
      have hdx := tup_dep x
      refine ⟨_, encP_at_last h2, ?_⟩
      unfold prt enc
      walk_at "R"
      refine ⟨tup_flat x, by (clear F nd hr ha hq hd2 hz h1 h2 hw; omega), ?_⟩
      rw [tup_nil_eq]
      by_cases hx : x = .z
      · rw [if_neg (by simpa using hx)]
        rw [if_pos hx] at hw
        have h3 := encP_at_last h2
        unfold prt enc at h3
        refine ⟨_, h3, ?_⟩
        walk_at "R"
        rw [hw] at hq
        exact GLe.done hq
      · rw [if_pos (by simpa using hx)]
        rw [if_neg hx] at hw
        rw [hw] at hq
        exact GLe.done hq

/-! the program's ladder -/
noncomputable def spWh : WSp := fun ws G q _ => ∃ n k : Int, ws = [.int n, .int k] ∧ q (.bl (decide (k ≤ n))) G
theorem scWh : FnScope ["thing", "least"] ["thing", "least"] (defScope (top 5)) := ⟨rfl, rfl, rfl, by decide +kernel, rfl, by decide +kernel, by decide +kernel⟩
theorem fnWh {T : Addr} {ds : List Value} (F : FunD K "is_whole" "is_whole" (top 5) f fd T ds) (mi : mg "isinstance" = none) (mn : mg "int" = none) (mb : mg "bool" = none) : WFn P w K mg base 1 f fd ["thing", "least"] spWh := by
  have nd := scWh.nd
  refine fn3D F scWh (fun ws G q e h => by obtain ⟨_, _, rfl, _⟩ := h; rfl) (fun cdv A outer s H E hr => ?_)
  apply bodyOf
  · exact (qss_cons (qs_ret (qe_and (qe_isi (T := "int") (x := "int") (by first | simp [isiT] | assumption | decide +kernel) PyProof.Rows.boot_int mn rfl mi rfl (qe_var 0 rfl (.inl rfl))) (qe_and (qe_not (qe_isi (T := "bool") (x := "bool") (by first | simp [isiT] | assumption | decide +kernel) PyProof.Rows.boot_bool mb rfl mi rfl (qe_var 0 rfl (.inl rfl)))) (qe_one (qe_cmp q_ge (qe_var 0 rfl (.inl rfl)) (qe_var 1 rfl (.inl rfl)) (nomark _)))))) qss_nil)
  · rintro ws G q e ⟨n, k, rfl, hq⟩
    walk_at "R"
    exact GLe.done hq
noncomputable def spRs : WSp := fun ws G q _ => ∃ (x : O) (n : Int), ws = [.tup (encP x), .int n] ∧ 0 ≤ n ∧ q (.tup (encP (if n = 0 then .z else .c x n .z))) G
theorem scRs : FnScope ["exponent", "times"] ["exponent", "times"] (defScope (top 6)) := ⟨rfl, rfl, rfl, by decide +kernel, rfl, by decide +kernel, by decide +kernel⟩
theorem fnRs {T : Addr} {ds : List Value} (F : FunD K "raised" "raised" (top 6) f fd T ds) (F1 : Fxd P w K mg base "is_whole" ["thing", "least"] 1 spWh [.int 0]) : WFn P w K mg base 2 f fd ["exponent", "times"] spRs := by
  have nd := scRs.nd
  refine fn3D F scRs (fun ws G q e h => by obtain ⟨_, _, rfl, _⟩ := h; rfl) (fun cdv A outer s H E hr => ?_)
  apply bodyOf
  · exact (qss_cons (qs_if (qt_not (qt_val (qe_fxd F1 (Room.mono hr (by omega)) rfl (qa_cons (qe_var 1 rfl (.inl rfl)) qa_nil)))) (qss_cons qs_never qss_nil) qss_nil) (qss_cons (qs_if (qt_cmp (q_eq4 hr) (qe_var 1 rfl (.inl rfl)) qe_int (nomark _)) (qss_cons (qs_ret (qe_tup qa_nil)) qss_nil) qss_nil) (qss_cons (qs_ret (qe_tup (qa_cons (qe_tup (qa_cons (qe_var 0 rfl (.inl rfl)) (qa_cons (qe_var 1 rfl (.inl rfl)) qa_nil))) qa_nil))) qss_nil)))
  · rintro ws G q e ⟨x, n, rfl, hn, hq⟩
    walk_at "R"
    refine ⟨n, 0, rfl, ?_⟩
    walk_at "R"
    rw [if_neg (by (clear F F1 nd hr hq; omega))]
    split
    · rename_i h
      rw [if_pos h] at hq
      exact GLe.done hq
    · rename_i h
      rw [if_neg h, encP_c] at hq
      exact GLe.done hq
noncomputable def spLi : WSp := fun ws G q _ => ∃ a : O, ws = [.tup (encP a)] ∧ a.NF ∧ a.dp ≤ 60 ∧ ∀ b : Bool, (b = true ↔ O.Lim a) → q (.bl b) G
theorem scLi : FnScope ["a"] ["a"] (defScope (top 8)) := ⟨rfl, rfl, rfl, by decide +kernel, rfl, by decide +kernel, by decide +kernel⟩
theorem fnLi (F : Fun K "is_limit" "is_limit" (top 8) f fd) (F1 : Fx P w K mg base "whole_part" ["a"] 1 spWp) : WFn P w K mg base 2 f fd ["a"] spLi := by
  have nd := scLi.nd
  refine fn3 F scLi (fun ws G q e h => by obtain ⟨_, rfl, _⟩ := h; rfl) (fun cdv A outer s H E hr => ?_)
  apply bodyOf
  · exact (qss_cons (qs_ret (qe_and (qe_cmp (q_ne4 hr) (qe_var 0 rfl (.inl rfl)) (qe_tup qa_nil) (nomark _)) (qe_one (qe_cmp (q_eq4 hr) (qe_fxn F1 (Room.mono hr (by omega)) rfl (qa_cons (qe_var 0 rfl (.inl rfl)) qa_nil)) qe_int (nomark _))))) qss_nil)
  · rintro ws G q e ⟨a, rfl, ha, hd, hq⟩
    have hda := tup_dep a
    walk_at "R"
    refine ⟨tup_flat a, by (clear F F1 nd hr ha hq; omega), ?_⟩
    rw [tup_nil_eq]
    by_cases hz : a = .z
    · have : (!decide (a = O.z)) = false := by simp [hz]
      rw [if_neg (by simpa using hz)]
      exact GLe.done (hq false ⟨fun h => (by cases h), fun h => absurd hz h.1⟩)
    · rw [if_pos (by simpa using hz)]
      refine ⟨a, rfl, ha, hd, ?_⟩
      walk_at "R"
      exact GLe.done (hq _ ⟨fun h => ⟨hz, by simpa using h⟩, fun h => by simpa using h.2⟩)
noncomputable def spLe : WSp := fun ws G q _ => ∃ a : O, ws = [.tup (encP a)] ∧ a.NF ∧ a ≠ .z ∧ a.len ≤ 1000 ∧ q (.tup (encP (O.lessO a))) G
theorem scLe : FnScope ["a", "last"] ["a"] (defScope (top 11)) := ⟨rfl, rfl, rfl, by decide +kernel, rfl, by decide +kernel, by decide +kernel⟩
theorem len_init_le (a : O) : (O.init a).len ≤ a.len := by
  rw [← take_init]
  have : ∀ (i : Nat) (a : O), (O.takeO i a).len ≤ a.len := by
    intro i
    induction i with
    | zero => intro a; simp [O.takeO, O.len]
    | succ i ih =>
      intro a
      cases a with
      | z => simp [O.takeO, O.len]
      | c e n r => have := ih r; simp only [O.takeO, O.len]; (clear ih; omega)
  exact this _ a
theorem fnLe (F : Fun K "one_part_less" "one_part_less" (top 11) f fd) (F1 : Fx P w K mg base "raised" ["exponent", "times"] 2 spRs) : WFn P w K mg base 3 f fd ["a"] spLe := by
  have nd := scLe.nd
  refine fn3 F scLe (fun ws G q e h => by obtain ⟨_, rfl, _⟩ := h; rfl) (fun cdv A outer s H E hr => ?_)
  apply bodyOf
  · exact (qss_cons (qs_set 1 nd rfl (.inl rfl) (qe_ix q_ix (qe_var 0 rfl (.inl rfl)) (qe_neg qe_int) (fun _ _ => rfl))) (qss_cons (qs_ret (qe_op q_add (qe_slice (qe_var 0 rfl (.inl rfl)) qo_none (qo_some (qe_neg qe_int))) (qe_fxn F1 (Room.mono hr (by omega)) rfl (qa_cons (qe_ix q_ix (qe_var 1 rfl (.inl rfl)) qe_int (fun _ _ => rfl)) (qa_cons (qe_op q_sub (qe_ix q_ix (qe_var 1 rfl (.inl rfl)) qe_int (fun _ _ => rfl)) qe_int) qa_nil))))) qss_nil))
  · rintro ws G q e ⟨a, rfl, ha, hz, hl, hq⟩
    obtain ⟨x, k, h1, h2⟩ := last_c hz
    have hl2 := O.last_less h1
    have hp := O.getP_NF ha h2
    have li := len_init_le a
    refine seqU fun U hU => ?_
    walk_at "R"
    refine ⟨_, encP_at_last h2, ?_⟩
    subst hU
    unfold prt enc
    walk_at "R"
    refine ⟨x, k - 1, rfl, by (clear F F1 nd hr ha hz hl hq h1 h2 hl2 li; omega), ?_⟩
    rw [cut_init]
    walk_at "R"
    rw [← hl2.2, encP_app] at hq
    refine ⟨?_, GLe.done hq⟩
    rw [encP_length, encP_length]
    split <;> simp only [O.len] <;> (clear F F1 nd hr ha hz hq h1 h2 hl2 hp; omega)
noncomputable def spLd (d : Nat) : WSp := fun ws G q _ => ∃ (a : O) (n : Int), ws = [.tup (encP a), .int n] ∧ a.NF ∧ a ≠ .z ∧ a.dp < d ∧ O.hw a ≤ 900 ∧ 0 ≤ n ∧ ∀ o : O, O.Lad a n o → q (.tup (encP o)) G
theorem scLd : FnScope ["a", "n", "exponent"] ["a", "n"] (defScope (top 10)) := ⟨rfl, rfl, rfl, by decide +kernel, rfl, by decide +kernel, by decide +kernel⟩
theorem fnLd {d k : Nat} (hd60 : d ≤ 60) (hk : 3 ≤ k) (F : Fun K "ladder" "ladder" (top 10) f fd) (F0 : Fx P w K mg base "ladder" ["a", "n"] k (spLd d)) (F1 : Fx P w K mg base "raised" ["exponent", "times"] 2 spRs) (F2 : Fxd P w K mg base "raised" ["exponent", "times"] 2 spRs [.int 1]) (F3 : Fxd P w K mg base "is_whole" ["thing", "least"] 1 spWh [.int 0]) (F4 : Fx P w K mg base "is_limit" ["a"] 2 spLi) (F5 : Fx P w K mg base "one_part_less" ["a"] 3 spLe) : WFn P w K mg base (k + 1) f fd ["a", "n"] (spLd (d + 1)) := by
  have nd := scLd.nd
  refine fn3 F scLd (fun ws G q e h => by obtain ⟨_, _, rfl, _⟩ := h; rfl) (fun cdv A outer s H E hr => ?_)
  apply bodyOf
  · exact (qss_cons (qs_if (qt_cmp (q_eq4 hr) (qe_var 0 rfl (.inl rfl)) (qe_tup qa_nil) (nomark _)) (qss_cons qs_never qss_nil) qss_nil) (qss_cons (qs_if (qt_not (qt_val (qe_fxd F3 (Room.mono hr (by omega)) rfl (qa_cons (qe_var 1 rfl (.inl rfl)) qa_nil)))) (qss_cons qs_never qss_nil) qss_nil) (qss_cons (qs_set 2 nd rfl (.inl rfl) (qe_ix q_ix (qe_ix q_ix (qe_var 0 rfl (.inl rfl)) (qe_neg qe_int) (fun _ _ => rfl)) qe_int (fun _ _ => rfl))) (qss_cons (qs_if (qt_cmp (q_eq4 hr) (qe_var 2 rfl (.inl rfl)) (qe_tup qa_nil) (nomark _)) (qss_cons (qs_ret (qe_fxn F5 (Room.mono hr hk) rfl (qa_cons (qe_var 0 rfl (.inl rfl)) qa_nil))) qss_nil) qss_nil) (qss_cons (qs_if (qt_val (qe_fxn F4 (Room.mono hr (by omega)) rfl (qa_cons (qe_var 2 rfl (.inl rfl)) qa_nil))) (qss_cons (qs_ret (qe_op q_add (qe_fxn F5 (Room.mono hr hk) rfl (qa_cons (qe_var 0 rfl (.inl rfl)) qa_nil)) (qe_fxd F2 (Room.mono hr (by omega)) rfl (qa_cons (qe_fxn F0 (Room.mono hr (by omega)) rfl (qa_cons (qe_var 2 rfl (.inl rfl)) (qa_cons (qe_var 1 rfl (.inl rfl)) qa_nil))) qa_nil)))) qss_nil) qss_nil) (qss_cons (qs_ret (qe_op q_add (qe_fxn F5 (Room.mono hr hk) rfl (qa_cons (qe_var 0 rfl (.inl rfl)) qa_nil)) (qe_fxn F1 (Room.mono hr (by omega)) rfl (qa_cons (qe_fxn F5 (Room.mono hr hk) rfl (qa_cons (qe_var 2 rfl (.inl rfl)) qa_nil)) (qa_cons (qe_var 1 rfl (.inl rfl)) qa_nil))))) qss_nil))))))
  · rintro ws G q e ⟨a, n, rfl, ha, hz, hd, hs, hn, hq⟩
    have hda := tup_dep a
    have la := O.len_le_hw a
    have lm := O.less_more a
    have hwl := O.lastE_hw a
    have hle := O.lastE_more hz
    obtain ⟨x, k, h1, h2⟩ := last_c hz
    have hl2 := (O.last_less h1).1
    refine seqU fun U hU => ?_
    walk_at "R"
    refine ⟨tup_flat a, by (clear hk F F0 F1 F2 F3 F4 F5 nd hr ha hz hs hn hq la lm hwl hle h1 h2 hl2 hU; omega), ?_⟩
    rw [tup_nil_eq, if_neg (by simpa using hz)]
    subst hU
    refine seqU fun U hU => ?_
    walk_at "R"
    refine ⟨n, 0, rfl, ?_⟩
    walk_at "R"
    rw [if_neg (by (clear hd60 hk F F0 F1 F2 F3 F4 F5 nd hr ha hz hd hs hq hda la lm hwl hle h1 h2 hl2 hU; omega))]
    subst hU
    refine seqU fun U hU => ?_
    walk_at "R"
    refine ⟨_, encP_at_last h2, ?_⟩
    unfold prt enc
    walk_at "R"
    subst hU
    rw [← hl2]
    have hdx := tup_dep (O.lastE a)
    have nx := ha.lastE
    refine seqU fun U hU => ?_
    walk_at "R"
    refine ⟨tup_flat _, by (clear hk F F0 F1 F2 F3 F4 F5 nd hr ha hz hs hn hq hda la lm hwl h1 h2 hl2 nx hU; omega), ?_⟩
    rw [tup_nil_eq]
    by_cases hx : O.lastE a = .z
    · rw [if_pos (by simpa using hx)]
      exact ⟨a, rfl, ha, hz, by (clear hd60 hk F F0 F1 F2 F3 F4 F5 nd hr ha hz hd hn hq hda lm hwl hle h1 h2 hl2 hdx nx hU hx; omega), GLe.done (hq _ (.suc hz hx))⟩
    · rw [if_neg (by simpa using hx)]
      subst hU
      refine seqU fun U hU => ?_
      walk_at "R"
      refine ⟨_, rfl, nx, by (clear hk F F0 F1 F2 F3 F4 F5 nd hr ha hz hs hn hq hda la lm hwl h1 h2 hl2 hdx nx hx hU; omega), fun b hb => ?_⟩
      walk_at "R"
      have lx := O.len_le_hw (O.lastE a)
      split
      · rename_i hbt
        have hlim := hb.mp hbt
        refine ⟨a, rfl, ha, hz, by (clear hd60 hk F F0 F1 F2 F3 F4 F5 nd hr ha hz hd hn hq hda lm hwl hle h1 h2 hl2 hdx nx hx hU hb lx hbt hlim; omega), _, n, rfl, nx, hx, by (clear hd60 hk F F0 F1 F2 F3 F4 F5 nd hr ha hz hs hn hq hda la lm hwl h1 h2 hl2 hdx nx hx hU hb lx hbt hlim; omega), by (clear hd60 hk F F0 F1 F2 F3 F4 F5 nd hr ha hz hd hn hq hda la lm hle h1 h2 hl2 hdx nx hx hU hb lx hbt hlim; omega), hn, fun o ho => ?_⟩
        refine ⟨o, 1, rfl, by (clear hd60 hk F F0 F1 F2 F3 F4 F5 nd hr ha hz hd hs hn hq hda la lm hwl hle h1 h2 hl2 hdx nx hx hU hb lx hbt hlim ho; omega), ?_⟩
        walk_at "R"
        have hh := hq _ (.lim hz hlim ho)
        rw [encP_app] at hh
        refine ⟨?_, GLe.done hh⟩
        rw [encP_length]
        simp [encP]
        (clear hd60 hk F F0 F1 F2 F3 F4 F5 nd hr ha hz hd hn hq hda hwl hle h1 h2 hl2 hdx nx hx hU hb lx hbt hlim ho hh; omega)
      · rename_i hbt
        have hlim : ¬ O.Lim (O.lastE a) := fun z => hbt (hb.mpr z)
        subst hU
        walk_at "R"
        refine ⟨a, rfl, ha, hz, by (clear hd60 hk F F0 F1 F2 F3 F4 F5 nd hr ha hz hd hn hq hda lm hwl hle h1 h2 hl2 hdx nx hx hb lx hbt hlim; omega), _, rfl, nx, hx, by (clear hd60 hk F F0 F1 F2 F3 F4 F5 nd hr ha hz hd hn hq hda la lm hle h1 h2 hl2 hdx nx hx hb hbt hlim; omega), _, n, rfl, hn, ?_⟩
        walk_at "R"
        have hh := hq _ (.one hz hx hlim)
        rw [encP_app] at hh
        refine ⟨?_, GLe.done hh⟩
        rw [encP_length, encP_length]
        split <;> simp only [O.len] <;> (clear hd60 hk F F0 F1 F2 F3 F4 F5 nd hr ha hz hd hn hq hda hwl hle h1 h2 hl2 hdx nx hx hb lx hbt hlim hh; omega)
theorem fxLd (T : Txt K mg) : ∀ d : Nat, d ≤ 60 → Fx P w K mg base "ladder" ["a", "n"] (d + 3) (spLd d)
  | 0, _ => T.d_ladder.fx fun f fd F => WFn.none fun ws G q e ⟨a, n, _, _, _, h, _⟩ => by (clear T F; omega)
  | d + 1, h => T.d_ladder.fx fun f fd F => by
    have Wh := T.d_is_whole.fxd (P := P) (w := w) (base := base) fun f fd T' ds F => fnWh F T.z_isinstance T.z_int T.z_bool
    have Rs := T.d_raised.fx (P := P) (w := w) (base := base) fun f fd T' ds F => fnRs F Wh
    have Rd := T.d_raised.fxd (P := P) (w := w) (base := base) fun f fd T' ds F => fnRs F Wh
    have Wp := T.d_whole_part.fx (P := P) (w := w) (base := base) fun f fd F => fnWp F
    have Li := T.d_is_limit.fx fun f fd F => fnLi F Wp
    have Le := T.d_one_part_less.fx fun f fd F => fnLe F Rs
    have := fnLd (by (clear T F Wh Rs Rd Wp Li Le; omega)) (by (clear T F Wh Rs Rd Wp Li Le; omega)) F (fxLd T d (by (clear T F Wh Rs Rd Wp Li Le; omega))) Rs Rd Wh Li Le
    exact (show d + 3 + 1 = d + 1 + 3 by (clear T h F Wh Rs Rd Wp Li Le this; omega)) ▸ this

/-! ways down by a steady rule -/
noncomputable abbrev lwq : Str := ("law" : Str) ++ ".<locals>." ++ "<lambda>"
noncomputable def lwB (i : Nat) : Stmt := (defBody (top 25)).getD i (.Pass ⟨0, 0, 0, 0⟩)
noncomputable def lam1 : Expr := argE 1 (asgV (lwB 3))
noncomputable def spRc (fws : List W) : WSp := fun ws G q _ => ∃ (n : Int) (k : Nat), fws = [.int n] ∧ ws = [.int (k : Int)] ∧ q (.int n) G
theorem fnRc {fl c' c0 : Addr} {ctv : Value} {fws : List W} (L : Lam K mg lwq (lamA lam1) (lamB lam1) (lamS lam1) ["_law_n"] base fl fws [("_law_n", c0)] c' ctv) :
    WFn P w K mg base 1 fl (PySem.W.kla_fn "<lambda>" lwq (lamA lam1) (lamB lam1) (lamS lam1) [("_law_n", c0)] ((mg "__name__").getD .none) (.ref c') ctv) ["_law_k"] (spRc fws) := by
  refine fnLam (k := 0) L (lamScope1 rfl rfl rfl (by decide +kernel) (by decide +kernel) (by decide +kernel) rfl (by decide +kernel)) (fun ws G q e h => by obtain ⟨_, _, _, rfl, _⟩ := h; rfl) (fun A outer s H E hr => ?_)
  apply bodyOfE
  · exact qe_var (x := "_law_n") 1 rfl (.inr (.inr rfl))
  · rintro ws G q e ⟨n, k, rfl, rfl, hq⟩
    walk_at "R"
    exact hq
noncomputable def spWd (fl : Addr) (fws : List W) : WSp := fun ws G q _ => ∃ (a : O) (n : Int) (m : Nat), ws = [.tup (encP a), .ref fl, .int (m : Int)] ∧ fws = [.int n] ∧ 0 ≤ n ∧
  a.NF ∧ a.dp ≤ 15 ∧ O.hw a ≤ 400 ∧ m ≤ 100 ∧ ∀ (p : Addr) (os : List O) (b : O), G p = none → O.Dn (fun _ => n) a os b → os.length ≤ m + 1 → (b = .z ∨ os.length = m + 1) → q (.ref p) (updG G p (.lst (nums os)))
theorem scWd : FnScope ["a", "rule", "most", "found"] ["a", "rule", "most"] (defScope (top 12)) := ⟨rfl, rfl, rfl, by decide +kernel, rfl, by decide +kernel, by decide +kernel⟩
theorem fnWd {T : Addr} {ds : List Value} {fl : Addr} {fdl : FuncData} {fws : List W} (F : FunD K "way_down" "way_down" (top 12) f fd T ds) (R : WFn P w K mg base 1 fl fdl ["_law_k"] (spRc fws)) (hfo : ∃ o, base.get? fl = some o ∧ o.data = .func fdl) (hb : Binds K fdl ["_law_k"] []) (F3 : Fx P w K mg base "ladder" ["a", "n"] 23 (spLd 20)) (ml : mg "len" = none) :
    WFn P w K mg base 30 f fd ["a", "rule", "most"] (spWd fl fws) := by
  have nd := scWd.nd
  refine fn3D (k := 29) F scWd (fun ws G q e h => by obtain ⟨_, _, _, rfl, _⟩ := h; rfl) (fun cdv A outer s H E hr => ?_)
  apply bodyOf
  · exact (qss_cons (qs_set 3 nd rfl (.inl rfl) (qe_lst (qa_cons (qe_var 0 rfl (.inl rfl)) qa_nil))) (qss_cons (qs_while PySem.PassesOwn.never (qt_w (qw_and (qt_cmp (q_ne4 hr) (qe_ix q_ix (qe_var 3 rfl (.inl rfl)) (qe_neg qe_int) (fun _ _ => rfl)) (qe_tup qa_nil) (nomark _)) (qw_and1 (qt_cmp q_le (qe_callB q_len rfl ml PySem.boot_len (qa_cons (qe_var 3 rfl (.inl rfl)) qa_nil)) (qe_var 2 rfl (.inl rfl)) (nomark _))))) (qss_cons (qs_expr (qe_app (qe_var 3 rfl (.inl rfl)) (qe_fxn F3 (Room.mono hr (by omega)) rfl (qa_cons (qe_ix q_ix (qe_var 3 rfl (.inl rfl)) (qe_neg qe_int) (fun _ _ => rfl)) (qa_cons (qe_callV 1 rfl (.inl rfl) R (Room.mono hr (by omega)) hfo hb (qa_cons (qe_op q_sub (qe_callB q_len rfl ml PySem.boot_len (qa_cons (qe_var 3 rfl (.inl rfl)) qa_nil)) qe_int) qa_nil)) qa_nil))))) qss_nil)) (qss_cons (qs_ret (qe_var 3 rfl (.inl rfl))) qss_nil)))
  · rintro ws G q e ⟨a, n, m, rfl, rfl, hn, na, da, wa, hm, hq⟩
    refine seqU fun U hU => ?_
    walk_at "R"
    intro p hp
    subst hU
    refine seqU fun U hU => ?_
    refine whileW (fun j τ G' => ∃ (os : List O) (b : O), G' = updG G p (.lst (nums os)) ∧ τ = [some (.tup (encP a)), some (.ref fl), some (.int (m : Int)), some (.ref p)] ∧ O.Dn (fun _ => n) a os b ∧ os.length ≤ m + 1 ∧ j = m + 1 - os.length) ⟨_, [a], a, rfl, rfl, .one, by simp, rfl⟩ ?_
    rintro j τ G' ⟨os, b, rfl, rfl, hD, hlen, rfl⟩ B' hB'
    have hb0 := hD.all (fun _ => hn) na b (List.mem_of_getElem? hD.last)
    have bd := tup_dep b
    have hlast : atI (nums os) (-1) = some (.tup (encP b)) := atI_neg1 (by rw [nums_length]; exact nums_get hD.last)
    walk_at "R"
    refine ⟨_, _, updG_same, hlast, ?_⟩
    walk_at "R"
    refine ⟨tup_flat b, by (clear F hfo hb F3 ml nd hr R hn na wa hm hq hp hU hD hlen hB' hlast; omega), ?_⟩
    rw [tup_nil_eq]
    by_cases hz : b = .z
    · rw [if_neg (by simpa using hz)]
      subst hU
      walk_at "R"
      exact GLe.done (hq p os b hp hD hlen (.inl hz))
    · rw [if_pos (by simpa using hz)]
      refine ⟨_, updG_same, ?_⟩
      rw [nums_length]
      by_cases hl2 : os.length ≤ m
      · rw [if_pos (by (clear F hfo hb F3 ml nd hr R hn na da wa hm hq hp hU hD hlen hB' hb0 bd hlast hz; omega))]
        refine ⟨fun τ1 G1 => ∃ o, G1 = updG G p (.lst (nums (os ++ [o]))) ∧ τ1 = [some (.tup (encP a)), some (.ref fl), some (.int (m : Int)), some (.ref p)] ∧ O.Dn (fun _ => n) a (os ++ [o]) o, ?_, ?_⟩
        · rintro τ1 G1 ⟨o, rfl, rfl, hD2⟩
          exact ⟨_, by rw [List.length_append, List.length_singleton]; (clear F hfo hb F3 ml nd hr R hn na da wa hm hq hp hU hD hlen hB' hb0 bd hlast hz hD2; omega), os ++ [o], o, rfl, rfl, hD2, by rw [List.length_append, List.length_singleton]; (clear F hfo hb F3 ml nd hr R hn na da wa hm hq hp hU hD hlen hB' hb0 bd hlast hz hD2; omega), rfl⟩
        · subst hB'
          walk_at "R"
          have hpos := hD.pos
          have e1 : ((os.length : Int) - 1) = ((os.length - 1 : Nat) : Int) := by (clear F hfo hb F3 ml nd hr R hn na da wa hm hq hp hU hD hlen hb0 bd hlast hz hl2; omega)
          refine ⟨⟨_, updG_same⟩, _, _, updG_same, hlast, _, updG_same, n, os.length - 1, rfl, by rw [nums_length, e1], ?_⟩
          refine ⟨b, _, rfl, hb0.1, hz, by (clear F hfo hb F3 ml nd hr R hn na wa hm hq hp hU hD hlen bd hlast hz hl2 hpos e1; omega), by (clear F hfo hb F3 ml nd hr R hn na da hq hp hU hD hlen bd hlast hz hpos; omega), hn, fun o ho => ?_⟩
          exact ⟨_, updG_same, by rw [nums_length]; (clear F hfo hb F3 ml nd hr R hn na da wa hq hp hU hD hlen hb0 bd hlast hz hpos ho; omega), o, by rw [updG_upd, nums_app], hD.step hz ho⟩
      · rw [if_neg (by (clear F hfo hb F3 ml nd hr R hn na da wa hm hq hp hU hD hB' hb0 bd hlast hz; omega))]
        subst hU
        walk_at "R"
        exact GLe.done (hq p os b hp hD hlen (.inr (by (clear F hfo hb F3 ml nd hr R hn na da wa hm hq hp hD hB' hb0 bd hlast hz; omega))))
theorem wdL1 (T : Txt K mg) : FxL P w K mg "way_down" ["a", "rule", "most"] 30 lwq lam1 "_law_n" spWd [] := by
  obtain ⟨f, fd, Td, ds, dvs, F, b0, b1, m, hv, hr⟩ := T.d_way_down
  exact ⟨f, fd, [], [], fun base fl c' ctv fws c0 L => fnWd F (fnRc L) ⟨_, L.obj, rfl⟩ (.all (lnS fun _ => lnZ rfl)) (fxLd T 20 (by decide)) T.z_len, m, F.kp, b0, .nil, fun _ => .nil⟩

/-! something below a number -/
theorem scBw : FnScope ["_law_a", "_law_cell", "_law_at", "_law_exponent", "_law_many_here", "_law_count", "_law_found", "_law_number", "_law_tail", "_law_first"] ["_law_a", "_law_cell"] (defScope (top 22)) := ⟨rfl, rfl, rfl, by decide +kernel, rfl, by decide +kernel, by decide +kernel⟩
noncomputable def spBw (d : Nat) : WSp := fun ws G q _ => ∃ (a : O) (c : Int), ws = [.tup (encP a), .int c] ∧ a.NF ∧ a ≠ .z ∧ a.dp < d ∧ O.hw a ≤ 900 ∧ ∀ o : O, o.NF → O.cmp o a < 0 → o.dp ≤ a.dp + 3 → O.hw o ≤ O.hw a + 70 → O.mx o ≤ max (O.mx a) (10 ^ 15) → q (.tup (encP o)) G
theorem fnBw {d k : Nat} (hd : d ≤ 30) (hk : 66 ≤ k) (F : Fun K "_law_below" "_law_below" (top 22) f fd) (F0 : Fx P w K mg base "_law_below" ["_law_a", "_law_cell"] k (spBw d)) (F1 : Fx P w K mg base "_law_drawn" ["_law_cell", "_law_level"] 66 (spDr 5)) (F2 : Fx P w K mg base "_law_mixed" ["_law_cell", "_law_k"] 1 spMx) (F3 : Fx P w K mg base "_law_order" ["_law_a", "_law_b"] 60 (spOr 60)) (ml : mg "len" = none) (mi : mg "list" = none) (mt : mg "tuple" = none) : WFn P w K mg base (k + 1) f fd ["_law_a", "_law_cell"] (spBw (d + 1)) := by
  have nd := scBw.nd
  refine fn3 F scBw (fun ws G q e h => by obtain ⟨_, _, rfl, _⟩ := h; rfl) (fun cdv A outer s H E hr => ?_)
  apply bodyOf
  · exact (qss_cons (qs_set 2 nd rfl (.inl rfl) (qe_op q_mod (qe_var 1 rfl (.inl rfl)) (qe_callB q_len rfl ml PySem.boot_len (qa_cons (qe_var 0 rfl (.inl rfl)) qa_nil)))) (qss_cons (qs_set 1 nd rfl (.inl rfl) (qe_op q_divB (qe_var 1 rfl (.inl rfl)) (qe_callB q_len rfl ml PySem.boot_len (qa_cons (qe_var 0 rfl (.inl rfl)) qa_nil)))) (qss_cons (qs_asg (qe_ix q_ix (qe_var 0 rfl (.inl rfl)) (qe_var 2 rfl (.inl rfl)) (fun _ _ => rfl)) (qg_tup rfl (qgs_cons (qg_name 3 nd rfl (.inr rfl)) (qgs_cons (qg_name 4 nd rfl (.inl rfl)) qgs_nil)))) (qss_cons (qs_set 5 nd rfl (.inl rfl) (qe_ix q_ix (qe_lst (qa_cons (qe_op q_sub (qe_var 4 rfl (.inl rfl)) qe_int) (qa_cons qe_int (qa_cons (qe_op q_mod (qe_op q_divB (qe_var 1 rfl (.inl rfl)) qe_int) (qe_var 4 rfl (.inl rfl))) qa_nil)))) (qe_op q_mod (qe_var 1 rfl (.inl rfl)) qe_int) (fun _ _ => rfl))) (qss_cons (qs_set 6 nd rfl (.inl rfl) (qe_callTy q_list rfl mi b_list (qa_cons (qe_slice (qe_var 0 rfl (.inl rfl)) qo_none (qo_some (qe_var 2 rfl (.inl rfl)))) qa_nil))) (qss_cons (qs_if (qt_cmp q_gt (qe_var 5 rfl (.inl rfl)) qe_int (nomark _)) (qss_cons (qs_expr (qe_app (qe_var 6 rfl (.inl rfl)) (qe_tup (qa_cons (qe_var 3 rfl (.inr (.inl rfl))) (qa_cons (qe_var 5 rfl (.inl rfl)) qa_nil))))) qss_nil) qss_nil) (qss_cons (qs_set 7 nd rfl (.inl rfl) (qe_fxn F2 (Room.mono hr (by omega)) rfl (qa_cons (qe_var 1 rfl (.inl rfl)) (qa_cons qe_int qa_nil)))) (qss_cons (qs_comp 8 (compSc (by first | rfl | decide +kernel)) rfl nd rfl (.inl rfl) (qi_seq (qe_fxn F1 (Room.mono hr hk) rfl (qa_cons (qe_op q_divB (qe_var 7 rfl (.inl rfl)) qe_int) (qa_cons qe_int qa_nil)))) (fun _ _ _ _ => (qg_nameB 1 (by first | assumption | decide +kernel | rfl) rfl (.inl rfl))) (fun _ _ _ _ => (qts_one (qt_cmp (q_eq4 hr) (qe_fxn F3 (Room.mono hr (by omega)) rfl (qa_cons (qe_ix q_ix (qe_var 1 rfl (.inl rfl)) qe_int (fun _ _ => rfl)) (qa_cons (qe_var 3 rfl (.inr (.inl rfl))) qa_nil))) (qe_neg qe_int) (nomark _)))) (fun _ _ _ _ => (qe_var 1 rfl (.inl rfl)))) (qss_cons (qs_if (qt_w (qw_and (qt_cmp (q_eq4 hr) (qe_op q_mod (qe_var 7 rfl (.inl rfl)) qe_int) qe_int (nomark _)) (qw_and1 (qt_cmp (q_ne4 hr) (qe_var 3 rfl (.inr (.inl rfl))) (qe_tup qa_nil) (nomark _))))) (qss_cons (qs_set 9 nd rfl (.inr rfl) (qe_tup (qa_cons (qe_fxn F0 (Room.mono hr (by omega)) rfl (qa_cons (qe_var 3 rfl (.inr (.inl rfl))) (qa_cons (qe_op q_divB (qe_var 7 rfl (.inl rfl)) qe_int) qa_nil))) (qa_cons (qe_op q_add qe_int (qe_op q_mod (qe_op q_divB (qe_var 7 rfl (.inl rfl)) qe_int) qe_int)) qa_nil)))) (qss_cons (qs_set 8 nd rfl (.inl rfl) (qe_op q_add (qe_lst (qa_cons (qe_var 9 rfl (.inr (.inl rfl))) qa_nil)) (qe_comp (compSc (by first | rfl | decide +kernel)) rfl (qi_seq (qe_var 8 rfl (.inl rfl))) (fun _ _ _ _ => (qg_nameB 1 (by first | assumption | decide +kernel | rfl) rfl (.inl rfl))) (fun _ _ _ _ => (qts_one (qt_cmp (q_eq4 hr) (qe_fxn F3 (Room.mono hr (by omega)) rfl (qa_cons (qe_ix q_ix (qe_var 1 rfl (.inl rfl)) qe_int (fun _ _ => rfl)) (qa_cons (qe_ix q_ix (qe_var 3 rfl (.inr (.inl rfl))) qe_int (fun _ _ => rfl)) qa_nil))) (qe_neg qe_int) (nomark _)))) (fun _ _ _ _ => (qe_var 1 rfl (.inl rfl)))))) qss_nil)) qss_nil) (qss_cons (qs_ret (qe_callTy q_tuple rfl mt b_tuple (qa_cons (qe_op q_add (qe_var 6 rfl (.inl rfl)) (qe_var 8 rfl (.inl rfl))) qa_nil))) qss_nil))))))))))
  · rintro ws G q e ⟨a, c, rfl, ha, hz, hda, hsa, hq⟩
    have hl0 : 0 < a.len := by cases a with | z => exact absurd rfl hz | c _ _ _ => simp [O.len]
    have la := O.len_le_hw a
    refine seqU fun U hU => ?_
    walk_at "R"
    rw [encP_length]
    have hmod := mod_in (i := c) (j := (a.len : Int)) (by (clear hd hk F F0 F1 F2 F3 ml mi mt nd hr ha hz hda hsa hq la hU; omega))
    obtain ⟨i, hi⟩ : ∃ i : Nat, (i : Int) = c % (a.len : Int) := ⟨(c % (a.len : Int)).toNat, by (clear hd hk F F0 F1 F2 F3 ml mi mt nd hr ha hz hda hsa hq hl0 la hU; omega)⟩
    obtain ⟨x, n, hp⟩ := O.getP_some (a := a) (i := i) (by (clear hd hk F F0 F1 F2 F3 ml mi mt nd hr ha hz hda hsa hq hl0 la hU; omega))
    have hs := O.getP_size hp
    have hxw := O.getP_hw hp
    have hpn := O.getP_NF ha hp
    have hpm := O.getP_mx hp
    refine ⟨by (clear hd hk F F0 F1 F2 F3 ml mi mt nd hr ha hz hda hsa hq la hU hmod hi hp hs hxw hpn hpm; omega), ?_⟩
    rw [← hi]
    subst hU
    refine seqU fun U hU => ?_
    walk_at "R"
    rw [encP_length]
    refine ⟨by (clear hd hk F F0 F1 F2 F3 ml mi mt nd hr ha hz hda hq hmod hi hp hs hxw hpn hpm hU; omega), ?_⟩
    generalize c / (a.len : Int) = c1
    subst hU
    refine seqU fun U hU => ?_
    walk_at "R"
    refine ⟨_, encP_at hp, ?_⟩
    unfold prt enc
    walk_at "R"
    subst hU
    refine seqU fun U hU => ?_
    walk_at "R"
    refine ⟨by (clear hd hk F F0 F1 F2 F3 ml mi mt nd hr ha hz hda hsa hq hl0 la hmod hi hp hs hxw hpm hU; omega), fun p0 hp0 => ?_⟩
    have hc1 := mod_in (i := c1 / 3) (j := n) (by (clear hd hk F F0 F1 F2 F3 ml mi mt nd hr ha hz hda hsa hq hl0 la hmod hi hp hs hxw hpm hU hp0; omega))
    refine ix_new updG_same (pick_ints (vs := [n - 1, 0, c1 / 3 % n]) (n := 3) (lo := 0) (hi := n - 1) rfl (by simp) (fun v hv => by simp only [List.mem_cons, List.not_mem_nil, or_false] at hv; (clear hd hk F F0 F1 F2 F3 ml mi mt nd hr ha hz hda hsa hq hl0 la hmod hi hp hs hxw hpm hU hp0; omega)) fun m m0 m1 => ?_)
    have le0 : GLe G (updG G p0 (GO.lst [W.int (n - 1), W.int 0, W.int (c1 / 3 % n)])) := GLe.new hp0
    generalize updG G p0 (GO.lst [W.int (n - 1), W.int 0, W.int (c1 / 3 % n)]) = G0 at le0 ⊢
    subst hU
    refine seqU fun U hU => ?_
    walk_at "R"
    rw [cut_to, encP_take]
    have lt := O.len_take i a
    refine ⟨by rw [encP_length]; (clear hd hk F F0 F1 F2 F3 ml mi mt nd hr ha hz hda hq hmod hi hp hs hxw hpn hpm hp0 hc1 m0 m1 le0 hU; omega), fun p1 hp1 => ?_⟩
    have fp1 : G p1 = none := by
      cases hh : G p1 with
      | none => rfl
      | some g => have := le0 _ _ hh; rw [hp1] at this; cases this
    have le1 : GLe G (updG G0 p1 (GO.lst (encP (O.takeO i a)))) := le0.trans (GLe.new hp1)
    have g1 := updG_same (G := G0) (a := p1) (g := GO.lst (encP (O.takeO i a)))
    generalize updG G0 p1 (GO.lst (encP (O.takeO i a))) = G1 at le1 g1 ⊢
    subst hU
    refine seqU fun U hU => ?_
    have rest : ∀ G2 : Gp, GLe G G2 → G2 p1 = some (.lst (encP (O.app (O.takeO i a) (if 0 < m then .c x m .z else .z)))) → U { nx := fun x G1 => ∃ G0, GLe G0 G1 ∧ q W.non G0, rt := fun w G1 => ∃ G0, GLe G0 G1 ∧ q w G0 } [some (W.tup (encP a)), some (W.int c1), some (W.int i), some (W.tup (encP x)), some (W.int n), some (W.int m), some (W.ref p1), none, none, none] G2 := fun G2 le2 g2 => by
      subst hU
      refine seqU fun U hU => ?_
      walk_at "R"
      refine ⟨_, _, rfl, by (clear hd hk F F0 F1 F2 F3 ml mi mt nd hr ha hz hda hsa hq hl0 la hmod hi hp hs hxw hpn hpm hp0 hc1 m0 m1 le0 lt hp1 fp1 le1 g1 le2 g2 hU; omega), by (clear hd hk F F0 F1 F2 F3 ml mi mt nd hr ha hz hda hsa hq hl0 la hmod hi hp hs hxw hpn hpm hp0 hc1 m0 m1 le0 lt hp1 fp1 le1 g1 le2 g2 hU; omega), fun v v0 v1 => ?_⟩
      subst hU
      refine seqU fun U hU => ?_
      walk_at "R"
      refine ⟨_, 2, rfl, by (clear hd hk F F0 F1 F2 F3 ml mi mt nd hr ha hz hda hsa hq hl0 la hmod hi hp hs hxw hpn hpm hp0 hc1 m0 m1 le0 lt hp1 fp1 le1 g1 le2 g2 v0 v1 hU; omega), by (clear hd hk F F0 F1 F2 F3 ml mi mt nd hr ha hz hda hsa hq hl0 la hmod hi hp hs hxw hpn hpm hp0 hc1 m0 m1 le0 lt hp1 fp1 le1 g1 le2 g2 v0 v1 hU; omega), fun y sy _ => ?_⟩
      have dy := sy.dp
      have zy := sy.sz
      have ly := O.len_le_size y
      show compW _ _ _ _ _ [none, none, none, some (W.tup (encP x))] G2 [] _
      refine comp_enc (fun y _ => decide (O.cmp y x = -1)) prt trivial (allP_dp y) (fun y m hy k hk => ?_) (fun y m _ _ k hk => ?_) (by rw [List.length_nil]; (clear hd hk F F0 F1 F2 F3 ml mi mt nd hr ha hz hda hsa hq hl0 la hmod hi hp hs hxw hpn hpm hp0 hc1 m0 m1 le0 lt hp1 fp1 le1 g1 le2 g2 v0 v1 hU sy dy; omega)) (fun _ => rfl) fun p2 hp2 => ?_
      · unfold prt enc
        walk_at "R"
        refine ⟨y, x, rfl, by (clear hd F F0 F1 F2 F3 ml mi mt nd hr ha hz hda hsa hq hl0 la hmod hi hp hs hxw hpn hpm hp0 hc1 m0 m1 le0 lt hp1 fp1 le1 g1 le2 g2 v0 v1 hU sy zy ly hk; omega), ?_⟩
        walk_at "R"
        exact hk
      · walk_at "R"
        exact hk
      rw [List.nil_append, mapP_prt]
      have st : Sml 3 64 (10 ^ 15) (O.filt (fun y _ => decide (O.cmp y x = -1)) y) := ⟨sy.nf.filt _, Nat.le_trans (O.dp_filt _ _) sy.dp, Nat.le_trans (O.size_filt _ _) sy.sz, Int.le_trans (O.mx_filt _ _) sy.mx⟩
      have hlt : O.Lt x (O.filt (fun y _ => decide (O.cmp y x = -1)) y) := O.Lt.filt_at x
      have g22 := updG_ne' (g := GO.lst (encP (O.filt (fun y _ => decide (O.cmp y x = -1)) y))) g2 hp2
      have le22 : GLe G (updG G2 p2 (GO.lst (encP (O.filt (fun y _ => decide (O.cmp y x = -1)) y)))) := le2.trans (GLe.new hp2)
      have g23 := updG_same (G := G2) (a := p2) (g := GO.lst (encP (O.filt (fun y _ => decide (O.cmp y x = -1)) y)))
      generalize updG G2 p2 (GO.lst (encP (O.filt (fun y _ => decide (O.cmp y x = -1)) y))) = G3 at g22 le22 g23 ⊢
      generalize O.filt (fun y _ => decide (O.cmp y x = -1)) y = t at st hlt g23 ⊢
      have dt := st.dp
      have zt := st.sz
      have mt := st.mx
      have lt2 := O.len_le_size t
      have wt := O.hw_le_size t
      subst hU
      refine seqU fun U hU => ?_
      have fin : ∀ (t : O) (p3 : Addr) (t9 : Option W) (G4 : Gp), t.NF → O.Lt x t → t.dp ≤ x.dp + 4 → O.hw t ≤ O.hw a + 70 → O.mx t ≤ max (O.mx a) (10 ^ 15) → t.len ≤ 65 → GLe G G4 → G4 p1 = some (.lst (encP (O.app (O.takeO i a) (if 0 < m then .c x m .z else .z)))) → G4 p3 = some (.lst (encP t)) → U { nx := fun x G1 => ∃ G0, GLe G0 G1 ∧ q W.non G0, rt := fun w G1 => ∃ G0, GLe G0 G1 ∧ q w G0 } [some (W.tup (encP a)), some (W.int c1), some (W.int i), some (W.tup (encP x)), some (W.int n), some (W.int m), some (W.ref p1), some (W.int v), some (W.ref p3), t9] G4 := fun t p3 t9 G4 nt lt dt zt mt lent le4 g4 g5 => by
        have hlow := O.lowAt_lt m0 (show m < n by (clear hd hk F F0 F1 F2 F3 ml mi nd hr ha hz hda hsa hq hl0 la hmod hi hp hs hxw hpn hpm hp0 hc1 m0 le0 hp1 fp1 le1 g1 le2 g2 v0 v1 sy dy zy ly hp2 g22 le22 st hlt g23 lt2 wt hU nt lt dt zt mt lent le4 g4 g5; omega)) nt lt ha hp
        have hmore := O.lowAt_more (t := t) m0 (show m < n by (clear hd hk F F0 F1 F2 F3 ml mi nd hr ha hz hda hsa hq hl0 la hmod hi hp hs hxw hpn hpm hp0 hc1 m0 le0 hp1 fp1 le1 g1 le2 g2 v0 v1 sy dy zy ly hp2 g22 le22 st hlt g23 lt2 wt hU nt lt dt zt mt lent le4 g4 g5 hlow; omega)) hp
        have hlw := O.lowAt_hw (t := t) (m := m) hp
        subst hU
        walk_at "R"
        refine ⟨_, _, g4, g5, ?_, fun p4 hp4 => ⟨_, updG_same, G, le4.trans (GLe.new hp4), ?_⟩⟩
        · rw [encP_length, encP_length, len_app]
          have := O.len_take i a
          split <;> simp only [O.len] <;> (clear hd hk F F0 F1 F2 F3 ml mi nd hr ha hz hda hq hmod hi hp hs hxw hpn hpm hp0 hc1 m0 m1 le0 hp1 fp1 le1 g1 le2 g2 v0 v1 sy dy zy ly hp2 g22 le22 st hlt g23 lt2 wt nt lt dt zt mt le4 g4 g5 hlow hmore hlw this; omega)
        · have e1 : encP (O.app (O.takeO i a) (if 0 < m then .c x m .z else .z)) ++ encP t = encP (O.lowAt i x m t a) := by
            unfold O.lowAt
            rw [← encP_app, O.app_assoc]
          rw [e1]
          exact hq _ hlow.1 hlow.2 (by (clear hd hk F F0 F1 F2 F3 ml mi nd hr ha hz hda hsa hq hl0 la hmod hi hp hxw hpn hpm hp0 hc1 m0 m1 le0 hp1 fp1 le1 g1 le2 g2 v0 v1 sy dy zy ly hp2 g22 le22 st hlt g23 lt2 wt nt lt zt mt lent le4 g4 g5 hlow hlw hp4 e1; omega)) (by (clear hd hk F F0 F1 F2 F3 ml mi nd hr ha hz hda hsa hq hl0 hmod hi hp hs hxw hpn hpm hp0 hc1 m0 m1 le0 hp1 fp1 le1 g1 le2 g2 v0 v1 sy dy zy ly hp2 g22 le22 st hlt g23 lt2 wt nt lt dt mt le4 g4 g5 hlow hmore hp4 e1; omega)) (by (clear hd hk F F0 F1 F2 F3 ml mi nd hr ha hz hda hsa hq hl0 la hmod hi hp hs hxw hpn hpm hp0 hc1 m0 m1 le0 hp1 fp1 le1 g1 le2 g2 v0 v1 sy dy zy ly hp2 g22 le22 st hlt g23 lt2 wt nt lt dt zt lent le4 g4 g5 hlow hlw hp4 e1; omega))
      walk_at "R"
      have hdx := tup_dep x
      split
      · refine ⟨tup_flat x, by (clear hk F F0 F1 F2 F3 ml mi nd hr ha hz hsa hq hl0 la hmod hi hp hxw hpn hpm hp0 hc1 m0 m1 le0 lt hp1 fp1 le1 g1 le2 g2 v0 v1 sy dy zy ly hp2 g22 le22 st hlt g23 dt zt mt lt2 wt hU fin; omega), ?_⟩
        rw [tup_nil_eq]
        by_cases hx0 : x = .z
        · rw [if_neg (by simpa using hx0)]
          exact fin t p2 _ _ st.nf hlt (by walk_at "om") (by (clear hd hk F F0 F1 F2 F3 ml mi nd hr ha hz hda hsa hq hmod hi hp hs hxw hpn hpm hp0 hc1 m0 m1 le0 lt hp1 fp1 le1 g1 le2 g2 v0 v1 sy dy zy ly hp2 g22 le22 st hlt g23 dt mt lt2 hU fin hdx hx0; omega)) (by (clear hd hk F F0 F1 F2 F3 ml mi nd hr ha hz hda hsa hq hl0 la hmod hi hp hs hxw hpn hpm hp0 hc1 m0 m1 le0 lt hp1 fp1 le1 g1 le2 g2 v0 v1 sy dy zy ly hp2 g22 le22 st hlt g23 dt zt lt2 wt hU fin hdx hx0; omega)) (by (clear hd hk F F0 F1 F2 F3 ml mi nd hr ha hz hda hsa hq hl0 la hmod hi hp hs hxw hpn hpm hp0 hc1 m0 m1 le0 lt hp1 fp1 le1 g1 le2 g2 v0 v1 sy dy zy ly hp2 g22 le22 st hlt g23 dt mt wt hU fin hdx hx0; omega)) le22 g22 g23
        · rw [if_pos (by simpa using hx0)]
          refine ⟨x, _, rfl, hpn.1, hx0, by (clear hd hk F F0 F1 F2 F3 ml mi nd hr ha hz hsa hq hl0 la hmod hi hp hxw hpn hpm hp0 hc1 m0 m1 le0 lt hp1 fp1 le1 g1 le2 g2 v0 v1 sy dy zy ly hp2 g22 le22 st hlt g23 dt zt mt lt2 wt hU fin hdx hx0; omega), by (clear hd hk F F0 F1 F2 F3 ml mi nd hr ha hz hda hq hl0 la hmod hi hp hs hpn hpm hp0 hc1 m0 m1 le0 lt hp1 fp1 le1 g1 le2 g2 v0 v1 sy dy zy ly hp2 g22 le22 st hlt g23 dt zt mt lt2 wt hU fin hdx hx0; omega), fun y ny cy dy zy my p4 hp4 => ?_⟩
          refine ⟨_, updG_ne' g23 hp4, ?_⟩
          have g41 := updG_ne' (g := GO.lst [W.tup [W.tup (encP y), W.int (1 + v / 8 % 4)]]) g22 hp4
          have g42 := updG_ne' (g := GO.lst [W.tup [W.tup (encP y), W.int (1 + v / 8 % 4)]]) g23 hp4
          have g43 := updG_same (G := G3) (a := p4) (g := GO.lst [W.tup [W.tup (encP y), W.int (1 + v / 8 % 4)]])
          have le4 : GLe G (updG G3 p4 (GO.lst [W.tup [W.tup (encP y), W.int (1 + v / 8 % 4)]])) := le22.trans (GLe.new hp4)
          generalize updG G3 p4 (GO.lst [W.tup [W.tup (encP y), W.int (1 + v / 8 % 4)]]) = G4 at g41 g42 g43 le4 ⊢
          show compW _ _ _ _ _ [none, none, none, some (W.tup [W.tup (encP y), W.int (1 + v / 8 % 4)])] G4 [] _
          refine comp_enc (fun u _ => decide (O.cmp u y = -1)) prt g42 (allP_dp t) (fun u m hu k hk => ?_) (fun u m _ _ k hk => ?_) (by rw [List.length_nil]; (clear hd hk F F0 F1 F2 F3 ml mi nd hr ha hz hda hsa hq hl0 la hmod hi hp hs hxw hpn hpm hp0 hc1 m0 m1 le0 lt hp1 fp1 le1 g1 le2 g2 v0 v1 sy ly hp2 g22 le22 st hlt g23 dt mt wt hU fin hdx hx0 ny cy dy zy my hp4 g41 g42 g43 le4; omega)) (fun _ => rfl) fun p5 hp5 => ?_
          · unfold prt enc
            walk_at "R"
            refine ⟨u, y, rfl, by (clear hd F F0 F1 F2 F3 ml mi nd hr ha hz hda hsa hq hl0 la hmod hi hp hs hxw hpn hpm hp0 hc1 m0 m1 le0 lt hp1 fp1 le1 g1 le2 g2 v0 v1 sy ly hp2 g22 le22 st hlt g23 zt mt lt2 wt hU fin hdx hx0 ny cy dy zy my hp4 g41 g42 g43 le4 hk; omega), ?_⟩
            walk_at "R"
            exact hk
          · walk_at "R"
            exact hk
          rw [List.nil_append, mapP_prt]
          have g51 := updG_ne' (g := GO.lst (encP (O.filt (fun u _ => decide (O.cmp u y = -1)) t))) g41 hp5
          have g53 := updG_ne' (g := GO.lst (encP (O.filt (fun u _ => decide (O.cmp u y = -1)) t))) g43 hp5
          have g54 := updG_same (G := G4) (a := p5) (g := GO.lst (encP (O.filt (fun u _ => decide (O.cmp u y = -1)) t)))
          have le5 : GLe G (updG G4 p5 (GO.lst (encP (O.filt (fun u _ => decide (O.cmp u y = -1)) t)))) := le4.trans (GLe.new hp5)
          generalize updG G4 p5 (GO.lst (encP (O.filt (fun u _ => decide (O.cmp u y = -1)) t))) = G5 at g51 g53 g54 le5 ⊢
          have l2 := len_filt (fun u _ => decide (O.cmp u y = -1)) t
          have z2 := O.size_filt (fun u _ => decide (O.cmp u y = -1)) t
          have d2 := O.dp_filt (fun u _ => decide (O.cmp u y = -1)) t
          have m2 := O.mx_filt (fun u _ => decide (O.cmp u y = -1)) t
          refine ⟨_, _, g53, g54, by rw [encP_length]; simp; (clear hd hk F F0 F1 F2 F3 ml mi nd hr ha hz hda hsa hq hl0 la hmod hi hp hs hxw hpn hpm hp0 hc1 m0 m1 le0 lt hp1 fp1 le1 g1 le2 g2 v0 v1 sy ly hp2 g22 le22 st hlt g23 dt mt wt hU fin hdx hx0 ny cy dy zy my hp4 g41 g42 g43 le4 hp5 g51 g53 g54 le5 z2 d2 m2; omega), fun p6 hp6 => ?_⟩
          refine fin (.c y (1 + v / 8 % 4) (O.filt (fun u _ => decide (O.cmp u y = -1)) t)) p6 _ _ ⟨ny, by (clear hd hk F F0 F1 F2 F3 ml mi nd hr ha hz hda hsa hq hl0 la hmod hi hp hs hxw hpn hpm hp0 hc1 m0 m1 le0 lt hp1 fp1 le1 g1 le2 g2 v0 v1 sy ly hp2 g22 le22 st hlt g23 dt zt mt lt2 wt hU fin hdx hx0 ny cy dy zy my hp4 g41 g42 g43 le4 hp5 g51 g53 g54 le5 l2 z2 d2 m2 hp6; omega), O.Lt.filt_at y, st.nf.filt _⟩ ⟨cy, hlt.filt _⟩ ?_ ?_ ?_ ?_ (le5.trans (GLe.new hp6)) (updG_ne' g51 hp6) ?_
          · simp only [O.dp]; (clear hd hk F F0 F1 F2 F3 ml mi nd hr ha hz hda hsa hq hl0 la hmod hi hp hs hxw hpn hpm hp0 hc1 m0 m1 le0 lt hp1 fp1 le1 g1 le2 g2 v0 v1 sy ly hp2 g22 le22 st hlt g23 zt mt lt2 wt hU fin hx0 ny cy zy my hp4 g41 g42 g43 le4 hp5 g51 g53 g54 le5 l2 z2 m2 hp6; omega)
          · have w2 := O.hw_filt (fun u _ => decide (O.cmp u y = -1)) t
            rw [O.hw_c]; (clear hd hk F F0 F1 F2 F3 ml mi nd hr ha hz hda hsa hq hmod hi hp hs hpn hpm hp0 hc1 m0 m1 le0 lt hp1 fp1 le1 g1 le2 g2 v0 v1 sy ly hp2 g22 le22 st hlt g23 dt mt hU fin hdx hx0 ny cy dy my hp4 g41 g42 g43 le4 hp5 g51 g53 g54 le5 z2 d2 m2 hp6; omega)
          · rw [O.mx_c]; (clear hd hk F F0 F1 F2 F3 ml mi nd hr ha hz hda hsa hq hl0 la hmod hi hp hs hxw hpn hp0 hc1 m0 m1 le0 lt hp1 fp1 le1 g1 le2 g2 v0 v1 sy ly hp2 g22 le22 st hlt g23 dt zt lt2 wt hU fin hdx hx0 ny cy dy zy hp4 g41 g42 g43 le4 hp5 g51 g53 g54 le5 l2 z2 d2 hp6; omega)
          · simp only [O.len]; (clear hd hk F F0 F1 F2 F3 ml mi nd hr ha hz hda hsa hq hl0 la hmod hi hp hs hxw hpn hpm hp0 hc1 m0 m1 le0 lt hp1 fp1 le1 g1 le2 g2 v0 v1 sy ly hp2 g22 le22 st hlt g23 dt mt wt hU fin hdx hx0 ny cy dy zy my hp4 g41 g42 g43 le4 hp5 g51 g53 g54 le5 z2 d2 m2 hp6; omega)
          · rw [updG_same, encP_c]; rfl
      · exact fin t p2 _ _ st.nf hlt (by walk_at "om") (by (clear hd hk F F0 F1 F2 F3 ml mi nd hr ha hz hda hsa hq hmod hi hp hs hxw hpn hpm hp0 hc1 m0 m1 le0 lt hp1 fp1 le1 g1 le2 g2 v0 v1 sy dy zy ly hp2 g22 le22 st hlt g23 dt mt lt2 hU fin hdx; omega)) (by (clear hd hk F F0 F1 F2 F3 ml mi nd hr ha hz hda hsa hq hl0 la hmod hi hp hs hxw hpn hpm hp0 hc1 m0 m1 le0 lt hp1 fp1 le1 g1 le2 g2 v0 v1 sy dy zy ly hp2 g22 le22 st hlt g23 dt zt lt2 wt hU fin hdx; omega)) (by (clear hd hk F F0 F1 F2 F3 ml mi nd hr ha hz hda hsa hq hl0 la hmod hi hp hs hxw hpn hpm hp0 hc1 m0 m1 le0 lt hp1 fp1 le1 g1 le2 g2 v0 v1 sy dy zy ly hp2 g22 le22 st hlt g23 dt mt wt hU fin hdx; omega)) le22 g22 g23
    walk_at "R"
    split
    · rename_i hm
      refine ⟨⟨_, g1⟩, _, g1, by rw [encP_length]; (clear hd hk F F0 F1 F2 F3 ml mi mt nd hr ha hz hda hq hmod hi hp hs hxw hpn hpm hp0 hc1 m0 m1 le0 hp1 fp1 le1 g1 hU rest hm; omega), rest _ (GLe.put le1 fp1) ?_⟩
      rw [updG_same, if_pos hm, encP_app]
      rfl
    · rename_i hm
      refine rest _ le1 ?_
      rw [if_neg hm, O.app_z]
      exact g1
theorem fxBw (T : Txt K mg) : ∀ d : Nat, d ≤ 30 → Fx P w K mg base "_law_below" ["_law_a", "_law_cell"] (d + 66) (spBw d)
  | 0, _ => T.d__law_below.fx fun f fd F => WFn.none fun ws G q e ⟨a, c, _, _, _, h, _⟩ => by (clear T F; omega)
  | d + 1, h => T.d__law_below.fx fun f fd F => by
    have Mx := T.d__law_mixed.fx (P := P) (w := w) (base := base) fun f fd F => fnMx F
    have Or := fxOr (P := P) (w := w) (base := base) T 60 (by decide)
    have Dr := fxDr (P := P) (w := w) (base := base) T 5 (by decide)
    have := fnBw (by (clear T F Mx Or Dr; omega)) (by (clear T F Mx Or Dr; omega)) F (fxBw T d (by (clear T F Mx Or Dr; omega))) Dr Mx Or T.z_len T.z_list T.z_tuple
    exact (show d + 66 + 1 = d + 1 + 66 by (clear T h F Mx Or Dr this; omega)) ▸ this

noncomputable def spCt (d : Nat) : WSp := fun ws G q _ => ∃ (a : O) (n : Int), ws = [.tup (encP a), .int n] ∧ a.NF ∧ a.dp < d ∧ O.hw a ≤ 900 ∧ 1 ≤ n ∧ ∀ o : O, o.NF → o.dp ≤ a.dp → O.hw o ≤ O.hw a → q (.tup (encP o)) G
theorem scCt : FnScope ["_law_a", "_law_most", "_law_parts", "_law_exponent", "_law_many_here"] ["_law_a", "_law_most"] (defScope (top 24)) := ⟨rfl, rfl, rfl, by decide +kernel, rfl, by decide +kernel, by decide +kernel⟩
theorem fnCt {d k : Nat} (hd : d ≤ 19) (hk : 61 ≤ k) (F : Fun K "_law_cut" "_law_cut" (top 24) f fd) (F0 : Fx P w K mg base "_law_cut" ["_law_a", "_law_most"] k (spCt d)) (F1 : Fx P w K mg base "_law_put" ["_law_parts", "_law_part"] 61 spPt) (mm : mg "min" = none) (mt : mg "tuple" = none) :
    WFn P w K mg base (k + 1) f fd ["_law_a", "_law_most"] (spCt (d + 1)) := by
  have nd := scCt.nd
  refine fn3 F scCt (fun ws G q e h => by obtain ⟨_, _, rfl, _⟩ := h; rfl) (fun cdv A outer s H E hr => ?_)
  apply bodyOf
  · exact (qss_cons (qs_set 2 nd rfl (.inl rfl) (qe_lst qa_nil)) (qss_cons (qs_for PySem.PassesOwn.never rfl (qi_seq (qe_var 0 rfl (.inl rfl))) (qg_tup rfl (qgs_cons (qg_name 3 nd rfl (.inl rfl)) (qgs_cons (qg_name 4 nd rfl (.inl rfl)) qgs_nil))) (qss_cons (qs_set 2 nd rfl (.inl rfl) (qe_fxn F1 (Room.mono hr hk) rfl (qa_cons (qe_var 2 rfl (.inl rfl)) (qa_cons (qe_tup (qa_cons (qe_fxn F0 (Room.mono hr (by omega)) rfl (qa_cons (qe_var 3 rfl (.inl rfl)) (qa_cons (qe_var 1 rfl (.inl rfl)) qa_nil))) (qa_cons (qe_callB (q_min rfl) rfl mm b_min (qa_cons (qe_var 4 rfl (.inl rfl)) (qa_cons (qe_var 1 rfl (.inl rfl)) qa_nil))) qa_nil))) qa_nil)))) qss_nil)) (qss_cons (qs_ret (qe_callTy q_tuple rfl mt b_tuple (qa_cons (qe_var 2 rfl (.inl rfl)) qa_nil))) qss_nil)))
  · rintro ws G q e ⟨a, n, rfl, na, da, wa, hn, hq⟩
    have la := O.len_le_hw a
    refine seqU fun U hU => ?_
    walk_at "R"
    intro p hp
    subst hU
    refine seqU fun U hU => ?_
    walk_at "R"
    refine loopW_ind (fun ws τ G' => ∃ (r acc : O) (l : Addr) (t3 t4 : Option W), ws = encP r ∧ τ = [some (.tup (encP a)), some (.int n), some (.ref l), t3, t4] ∧ GLe G G' ∧ G' l = some (.lst (encP acc)) ∧ acc.NF ∧ acc.dp ≤ a.dp ∧ O.hw acc ≤ O.hw a ∧ acc.len + r.len ≤ a.len ∧ r.NF ∧ r.dp ≤ a.dp ∧ O.hw r ≤ O.hw a) ?_ ?_ _ _ _
      ⟨a, .z, p, none, none, rfl, rfl, GLe.new hp, updG_same, trivial, Nat.zero_le _, Nat.zero_le _, by simp [O.len], na, Nat.le_refl _, Nat.le_refl _⟩
    · rintro τ G' ⟨r, acc, l, t3, t4, hw, rfl, hle, hG', nacc, dacc, wacc, _, _, _, _⟩
      refine ⟨trivial, ?_⟩
      subst hU
      walk_at "R"
      exact ⟨_, hG', G, hle, hq acc nacc dacc wacc⟩
    · rintro w1 ws τ G' kk ⟨r, acc, l, t3, t4, hw, rfl, hle, hG', nacc, dacc, wacc, lacc, nr, dr, wr⟩ hk
      cases r with
      | z => cases hw
      | c y m r =>
        rw [encP_c] at hw
        cases hw
        refine ⟨trivial, ?_⟩
        simp only [O.dp] at dr
        rw [O.hw_c] at wr
        simp only [O.len] at lacc
        have hm := nr.2.1
        unfold prt enc
        simp only [hTup, hCons, hNil, hName, List.set_cons_succ, List.set_cons_zero]
        refine ⟨rfl, ?_⟩
        walk_at "R"
        refine ⟨y, n, rfl, nr.1, by (clear hd F F0 F1 mm mt nd hr na wa hn hq la hp hU hle hG' nacc dacc wacc lacc nr wr hk hm; omega), by (clear hd F F0 F1 mm mt nd hr na da hn hq la hp hU hle hG' nacc dacc wacc lacc nr dr hk hm; omega), hn, fun o no do1 wo => ?_⟩
        have hmin : 1 ≤ (if n < m then n else m) := by split <;> assumption
        generalize (if n < m then n else m) = v at hmin ⊢
        refine ⟨l, acc, o, v, rfl, hG', nacc, no, hmin, by (clear F F0 F1 mm mt nd hr na wa hn hq la hp hU hle hG' nacc wacc lacc nr dr wr hk hm no do1 wo hmin; omega), by (clear F F0 F1 mm mt nd hr na wa hn hq la hp hU hle hG' nacc dacc wacc lacc nr wr hk hm no wo hmin; omega), by (clear hd F F0 F1 mm mt nd hr na da hn hq hp hU hle hG' nacc dacc wacc nr dr wr hk hm no do1 wo hmin; omega), fun l' G2 a' hle2 hG2 na' la' da' _ _ wa' => ?_⟩
        exact hk _ _ ⟨r, a', l', _, _, rfl, rfl, hle.trans hle2, hG2, na', by (clear hd F F0 F1 mm mt nd hr na da wa hn hq la hp hU hle hG' nacc wacc lacc nr wr hk hm no wo hmin hle2 hG2 na' la' wa'; omega), by (clear hd F F0 F1 mm mt nd hr na da wa hn hq hp hU hle hG' nacc dacc nr dr hk hm no do1 hmin hle2 hG2 na' la' da'; omega), by (clear hd F F0 F1 mm mt nd hr na da wa hn hq la hp hU hle hG' nacc dacc wacc nr dr wr hk hm no do1 wo hmin hle2 hG2 na' da' wa'; omega), nr.2.2.2, by (clear hd F F0 F1 mm mt nd hr na da wa hn hq la hp hU hle hG' nacc dacc wacc lacc nr wr hk hm no do1 wo hmin hle2 hG2 na' la' da' wa'; omega), by (clear hd F F0 F1 mm mt nd hr na da wa hn hq la hp hU hle hG' nacc dacc wacc lacc nr dr hk hm no do1 wo hmin hle2 hG2 na' la' da' wa'; omega)⟩
theorem fxCt (T : Txt K mg) : ∀ d : Nat, d ≤ 20 → Fx P w K mg base "_law_cut" ["_law_a", "_law_most"] (d + 61) (spCt d)
  | 0, _ => T.d__law_cut.fx fun f fd F => WFn.none fun ws G q e ⟨a, n, _, _, h, _⟩ => by (clear T F; omega)
  | d + 1, h => T.d__law_cut.fx fun f fd F => by
    have Pt := T.d__law_put.fx (P := P) (w := w) (base := base) fun f fd F => fnPt F (fxOr T 60 (by decide)) T.z_len
    have := fnCt (by (clear T F Pt; omega)) (by (clear T F Pt; omega)) F (fxCt T d (by (clear T F Pt; omega))) Pt T.z_min T.z_tuple
    exact (show d + 61 + 1 = d + 1 + 61 by (clear T h F Pt this; omega)) ▸ this

noncomputable def spGt (d : Nat) : WSp := fun ws G q _ => ∃ a : O, ws = [.tup (encP a)] ∧ a.dp < d ∧ a.NF ∧ O.hw a ≤ 5000 ∧ q (.int (O.mx a)) G
theorem scGl : FnScope ["_law_a"] ["_law_a"] (defScope (top 23)) := ⟨rfl, rfl, rfl, by decide +kernel, rfl, by decide +kernel, by decide +kernel⟩
noncomputable def mxs : O → List Int
  | .z => []
  | .c e n r => max n (O.mx e) :: mxs r
theorem mxs_le : ∀ (a : O) (x : Int), x ∈ mxs a → x ≤ O.mx a
  | .z, _, h => by cases h
  | .c e n r, x, h => by
    rw [O.mx_c]
    rcases List.mem_cons.mp h with rfl | h
    · (clear h; omega)
    · have := mxs_le r x h; (clear h; omega)
theorem mxs_mx : ∀ a : O, a.NF → a ≠ .z → O.mx a ∈ mxs a
  | .z, _, h => absurd rfl h
  | .c e n .z, ha, _ => by
    have := O.mx_nonneg e
    have := ha.2.1
    rw [O.mx_c]
    refine List.mem_cons.mpr (.inl ?_)
    simp only [O.mx]
    (clear ha; omega)
  | .c e n (.c e' n' r'), ha, _ => by
    have ih := mxs_mx (.c e' n' r') ha.2.2.2 (fun z => by cases z)
    rw [O.mx_c]
    rcases Int.lt_or_le (max n (O.mx e)) (O.mx (.c e' n' r')) with h | h
    · rw [show max n (max (O.mx e) (O.mx (.c e' n' r'))) = O.mx (.c e' n' r') by (clear ha ih; omega)]
      exact List.mem_cons_of_mem _ ih
    · rw [show max n (max (O.mx e) (O.mx (.c e' n' r'))) = max n (O.mx e) by (clear ha ih; omega)]
      exact List.mem_cons_self
theorem mxs_max {a : O} {m : Int} (ha : a.NF) (h : m ∈ mxs a) (h2 : ∀ x, x ∈ mxs a → x ≤ m) : m = O.mx a := by
  have hz : a ≠ .z := fun z => by rw [z] at h; cases h
  have h3 := mxs_le a m h
  have h4 := h2 _ (mxs_mx a ha hz)
  (clear ha h h2 hz; omega)
theorem mxs_map : ∀ a : O, mapP (fun _ _ => true) (fun e n => W.int (max n (O.mx e))) a = (mxs a).map W.int
  | .z => rfl
  | .c e n r => by
    show (if true = true then _ else _) = _
    rw [if_pos rfl, mxs_map r]
    rfl
theorem all_dp {d : Nat} : ∀ {a : O}, a.NF → a.dp < d + 1 → O.hw a ≤ 5000 → AllP (fun e _ => e.dp < d ∧ e.NF ∧ O.hw e ≤ 5000) a
  | .z, _, _, _ => trivial
  | .c e n r, ha, h, hh => by
    simp only [O.dp] at h
    rw [O.hw_c] at hh
    exact ⟨⟨by (clear ha hh; omega), ha.1, by (clear ha h; omega)⟩, all_dp ha.2.2.2 (by (clear ha hh; omega)) (by (clear ha h; omega))⟩
theorem fnGl {d k : Nat} (F : Fun K "_law_greatest" "_law_greatest" (top 23) f fd) (F1 : Fx P w K mg base "_law_greatest" ["_law_a"] k (spGt d)) (mx : mg "max" = none) : WFn P w K mg base (k + 1) f fd ["_law_a"] (spGt (d + 1)) := by
  have nd := scGl.nd
  refine fn3 F scGl (fun ws G q e h => by obtain ⟨_, rfl, _⟩ := h; rfl) (fun cdv A outer s H E hr => ?_)
  apply bodyOf
  · exact (qss_cons (qs_ret (qe_maxD rfl rfl mx (qe_comp (compSc (by first | rfl | decide +kernel)) rfl (qi_seq (qe_var 0 rfl (.inl rfl))) (fun _ _ _ _ => (qg_nameB 1 (by first | assumption | decide +kernel | rfl) rfl (.inl rfl))) (fun _ _ _ _ => qts_nil) (fun _ _ _ _ => (qe_callB (q_max4 rfl) rfl mx b_max (qa_cons (qe_ix q_ix (qe_var 1 rfl (.inl rfl)) qe_int (fun _ _ => rfl)) (qa_cons (qe_fxn F1 (Room.mono hr (by omega)) rfl (qa_cons (qe_ix q_ix (qe_var 1 rfl (.inl rfl)) qe_int (fun _ _ => rfl)) qa_nil)) qa_nil))))))) qss_nil)
  · rintro ws G q e ⟨a, rfl, hx, na, hh, hq⟩
    have h0 := O.mx_nonneg a
    have hl := O.len_le_hw a
    walk_at "R"
    show compW _ _ _ _ _ [none, none, none, none] G [] _
    refine comp_enc (τ0 := [none, none, none, none]) (Pd := fun e _ => e.dp < d ∧ e.NF ∧ O.hw e ≤ 5000) (fun _ _ => true) (fun e n => W.int (max n (O.mx e))) trivial (all_dp na hx hh) (fun e n _ k hk => hk) (fun e n he _ k hk => ?_) (by simp only [List.length_nil]; (clear F F1 mx nd hr hx na hq h0; omega)) (fun _ => rfl) ?_
    · unfold prt enc
      walk_at "R"
      refine ⟨e, rfl, he.1, he.2.1, he.2.2, ?_⟩
      walk_at "R"
      rw [show (if O.mx e > n then O.mx e else n) = max n (O.mx e) by split <;> (clear F F1 mx nd hr hx na hh hq h0 hl he hk; omega)]
      exact hk
    · intro p hp
      rw [List.nil_append, mxs_map]
      refine ⟨_, updG_same, fun h => ?_, fun m h1 h2 => ?_⟩
      · have : O.mx a = 0 := by
          cases a with
          | z => rfl
          | c e n r => cases h
        rw [this] at hq
        exact ⟨G, GLe.new hp, hq⟩
      · rw [mxs_max na h1 h2]
        exact ⟨G, GLe.new hp, hq⟩
theorem fxGl (T : Txt K mg) : ∀ d : Nat, Fx P w K mg base "_law_greatest" ["_law_a"] d (spGt d)
  | 0 => T.d__law_greatest.fx fun f fd F => WFn.none fun ws G q e ⟨a, _, h, _⟩ => by (clear T F; omega)
  | d + 1 => T.d__law_greatest.fx fun f fd F => fnGl F (fxGl T d) T.z_max

theorem cut_ints (ns : List Int) (lo hi : Option Int) : ∃ cs : List Int, cutW (ns.map W.int) lo hi = cs.map W.int ∧ cs.length ≤ ns.length := by
  unfold cutW
  rw [← List.map_drop, ← List.map_take]
  exact ⟨_, rfl, by rw [List.length_take, List.length_drop]; omega⟩
theorem scLw : FnScope ["_law_script", "_law_cells", "_law_a", "_law_n", "_law_met", "_law_cell", "_law_high", "_law_b"] ["_law_script"] (defScope (top 25)) := ⟨rfl, rfl, rfl, by decide +kernel, rfl, by decide +kernel, by decide +kernel⟩
theorem fnLw {c T : Addr} (F : Fun K "law" "law" (top 25) f fd) (hc : fd.code = .ref c) (hCd : PySem.W.CodeHd base c T) (hBl : base.BuiltinsAt mg T) (hT : mainGlobals ≠ T) (F2 : Fx P w K mg base "_law_cell_at" ["_law_script", "_law_k"] 1 spCa) (F7 : Fx P w K mg base "_law_number_by" ["_law_one", "_law_two"] 67 spNy)
    (F3 : Fx P w K mg base "_law_below" ["_law_a", "_law_cell"] 96 (spBw 30)) (F4 : Fx P w K mg base "_law_cut" ["_law_a", "_law_most"] 81 (spCt 20)) (F5 : Fx P w K mg base "_law_greatest" ["_law_a"] 40 (spGt 40)) (F6 : Fx P w K mg base "_law_mixed" ["_law_cell", "_law_k"] 1 spMx) (F8 : Fx P w K mg base "_law_order" ["_law_a", "_law_b"] 60 (spOr 60)) (L1 : FxL P w K mg "way_down" ["a", "rule", "most"] 30 lwq lam1 "_law_n" spWd [])
    (mi : mg "int" = none) (ml : mg "len" = none) (mr : mg "range" = none) : WFn P w K mg base 110 f fd ["_law_script"] (spLawT T) := by
  have nd := scLw.nd
  refine fn3T (k := 109) F scLw (fun ws G q e h => by obtain ⟨_, rfl, _⟩ := h; rfl) (fun cdv A outer s H E hcd hr => ?_)
  have TB : Tab (cxOf CX0 P w K mg base ["_law_script", "_law_cells", "_law_a", "_law_n", "_law_met", "_law_cell", "_law_high", "_law_b"] "law" (defScope (top 25)) f cdv A outer s H E).nox c T := ⟨show cdv = .ref c by rw [← hcd, hc], hCd, hBl, hT⟩
  apply bodyOf
  · exact (qss_cons (qs_comp 1 (compSc (by first | rfl | decide +kernel)) rfl nd rfl (.inl rfl) (qi_range rfl mr (qa_cons qe_int qa_nil)) (fun _ _ _ _ => (qg_nameB 1 (by first | assumption | decide +kernel | rfl) rfl (.inl rfl))) (fun _ _ _ _ => qts_nil) (fun _ _ _ _ => (qe_fxn F2 (Room.mono hr (by omega)) rfl (qa_cons (qe_var 3 rfl (.inr (.inl rfl))) (qa_cons (qe_var 1 rfl (.inl rfl)) qa_nil))))) (qss_cons (qs_set 2 nd rfl (.inl rfl) (qe_fxn F7 (Room.mono hr (by omega)) rfl (qa_cons (qe_ix q_ix (qe_var 1 rfl (.inl rfl)) qe_int (fun _ _ => rfl)) (qa_cons (qe_ix q_ix (qe_var 1 rfl (.inl rfl)) qe_int (fun _ _ => rfl)) qa_nil)))) (qss_cons (qs_set 3 nd rfl (.inr rfl) (qe_op q_add qe_int (qe_op q_mod (qe_ix q_ix (qe_var 1 rfl (.inl rfl)) qe_int (fun _ _ => rfl)) (qe_ix q_ix (qe_lst (qa_cons qe_int (qa_cons (qe_op q_pow qe_int qe_int) qa_nil))) (qe_callTy q_int rfl mi PyProof.Rows.boot_int (qa_cons (qe_cmp (q_eq4 hr) (qe_op q_mod (qe_op q_divB (qe_ix q_ix (qe_var 1 rfl (.inl rfl)) qe_int (fun _ _ => rfl)) qe_int) qe_int) qe_int (nomark _)) qa_nil)) (fun _ _ => rfl))))) (qss_cons (qs_set 4 nd rfl (.inl rfl) (qe_fxL 3 L1 TB (Room.mono hr (by omega)) rfl rfl rfl rfl rfl rfl rfl (qe_var 2 rfl (.inl rfl)) (qa_cons (qe_op q_add qe_int (qe_op q_mod (qe_op q_divB (qe_ix q_ix (qe_var 1 rfl (.inl rfl)) qe_int (fun _ _ => rfl)) qe_int) qe_int)) qa_nil))) (qss_cons (qs_if (qt_w (qw_or (qt_cmp (q_eq4 hr) (qe_var 4 rfl (.inl rfl)) (qe_lst qa_nil) (nomark _)) (qw_or1 (qt_cmp (q_ne4 hr) (qe_ix q_ix (qe_var 4 rfl (.inl rfl)) qe_int (fun _ _ => rfl)) (qe_var 2 rfl (.inl rfl)) (nomark _))))) (qss_cons (qs_ret qe_bl) qss_nil) qss_nil) (qss_cons (qs_for PySem.PassesOwn.never rfl (qi_seq (qe_op q_add (qe_slice (qe_var 0 rfl (.inr (.inl rfl))) (qo_some qe_int) (qo_some qe_int)) (qe_lst (qa_cons qe_int (qa_cons qe_int qa_nil))))) (qg_name 5 nd rfl (.inl rfl)) (qss_cons (qs_set 6 nd rfl (.inl rfl) (qe_ix q_ix (qe_var 4 rfl (.inl rfl)) (qe_op q_mod (qe_var 5 rfl (.inl rfl)) (qe_callB q_len rfl ml PySem.boot_len (qa_cons (qe_var 4 rfl (.inl rfl)) qa_nil))) (fun _ _ => rfl))) (qss_cons (qs_if (qt_cmp (q_ne4 hr) (qe_var 6 rfl (.inl rfl)) (qe_tup qa_nil) (nomark _)) (qss_cons (qs_set 7 nd rfl (.inl rfl) (qe_fxn F3 (Room.mono hr (by omega)) rfl (qa_cons (qe_var 6 rfl (.inl rfl)) (qa_cons (qe_op q_divB (qe_var 5 rfl (.inl rfl)) (qe_callB q_len rfl ml PySem.boot_len (qa_cons (qe_var 4 rfl (.inl rfl)) qa_nil))) qa_nil)))) (qss_cons (qs_if (qt_w (qw_and (qt_cmp q_gt (qe_var 3 rfl (.inr (.inl rfl))) qe_int (nomark _)) (qw_and1 (qt_cmp (q_eq4 hr) (qe_op q_mod (qe_fxn F6 (Room.mono hr (by omega)) rfl (qa_cons (qe_var 5 rfl (.inl rfl)) (qa_cons qe_int qa_nil))) qe_int) qe_int (nomark _))))) (qss_cons (qs_set 7 nd rfl (.inl rfl) (qe_fxn F4 (Room.mono hr (by omega)) rfl (qa_cons (qe_var 7 rfl (.inl rfl)) (qa_cons (qe_op q_sub (qe_var 3 rfl (.inr (.inl rfl))) qe_int) qa_nil)))) qss_nil) qss_nil) (qss_cons (qs_if (qt_w (qw_and (qt_cmp (q_eq4 hr) (qe_fxn F8 (Room.mono hr (by omega)) rfl (qa_cons (qe_var 7 rfl (.inl rfl)) (qa_cons (qe_var 6 rfl (.inl rfl)) qa_nil))) (qe_neg qe_int) (nomark _)) (qw_and1 (qt_cmp (q_lt3 hr) (qe_fxn F5 (Room.mono hr (by omega)) rfl (qa_cons (qe_var 7 rfl (.inl rfl)) qa_nil)) (qe_var 3 rfl (.inr (.inl rfl))) (nomark _))))) (qss_cons (qs_if (qt_w (qw_and (qt_cmp (q_notIn hr) (qe_var 7 rfl (.inl rfl)) (qe_var 4 rfl (.inl rfl)) rfl) (qw_and1 (qt_cmp (q_ne4 hr) (qe_fxn F8 (Room.mono hr (by omega)) rfl (qa_cons (qe_var 7 rfl (.inl rfl)) (qa_cons (qe_ix q_ix (qe_var 4 rfl (.inl rfl)) (qe_neg qe_int) (fun _ _ => rfl)) qa_nil))) (qe_neg qe_int) (nomark _))))) (qss_cons (qs_ret qe_bl) qss_nil) qss_nil) qss_nil) qss_nil) qss_nil))) qss_nil) qss_nil))) (qss_cons (qs_ret qe_bl) qss_nil)))))))
  · rintro ws G q e ⟨ns, rfl, hl, hGT, hq⟩
    refine seqU fun U hU => ?_
    walk_at "R"
    show compW _ _ _ _ _ [none, none, none, some (W.scr ns)] G [] _
    refine comp_dem trivial (fun w hw k hk => ?_) (by simp [upW]) (fun _ => rfl) fun us hus p hp => ?_
    · unfold upW at hw
      obtain ⟨j, _, rfl⟩ := List.mem_map.mp hw
      walk_at "R"
      exact ⟨ns, _, rfl, by (clear F hc hCd hBl hT F2 F7 F3 F4 F5 F6 F8 L1 mi ml mr nd hcd hr TB hl hGT hq hU hk hw; omega), hk⟩
    rw [List.nil_append]
    have hlen : us.length = 3 := by rw [hus]; simp [upW]
    obtain ⟨u0, u1, u2, rfl⟩ : ∃ u0 u1 u2, us = [u0, u1, u2] := by
      match us, hlen with
      | [a, b, c], _ => exact ⟨a, b, c, rfl⟩
    have hG : updG G p (GO.lst (List.map W.int [u0, u1, u2])) p = some (.lst [.int u0, .int u1, .int u2]) := updG_same
    have t1 := updG_ne' (g := GO.lst (List.map W.int [u0, u1, u2])) hGT hp
    generalize updG G p (GO.lst (List.map W.int [u0, u1, u2])) = G1 at hG t1 ⊢
    subst hU
    refine seqU fun U hU => ?_
    walk_at "R"
    refine ⟨_, _, hG, atI_nat (j := 0) rfl, _, _, hG, atI_nat (j := 1) rfl, _, _, rfl, fun a sa wa => ?_⟩
    have na := sa.nf
    have da := sa.dp
    subst hU
    refine seqU fun U hU => ?_
    walk_at "R"
    refine ⟨_, _, hG, atI_nat (j := 2) rfl, ?_⟩
    intro p2 hp2
    refine ⟨_, _, updG_ne' hG hp2, atI_nat (j := 2) rfl, ?_⟩
    walk_at "R"
    have h2 : ∃ d : Int, 1 ≤ d ∧ atI [W.int 5, W.int 100000000000000000000] (if u2 / 5 % 6 = 1 then 1 else 0) = some (.int d) := by
      split
      · exact ⟨_, by decide, atI_nat (j := 1) rfl⟩
      · exact ⟨_, by decide, atI_nat (j := 0) rfl⟩
    obtain ⟨d, hd, hat⟩ := h2
    refine ⟨_, _, updG_same, hat, ?_⟩
    walk_at "R"
    have hm := mod_in (i := u2) (j := d) (by assumption)
    refine ⟨by assumption, ?_⟩
    have hn : 1 ≤ 1 + u2 % d := by (clear F hc hCd hBl hT F2 F7 F3 F4 F5 F6 F8 L1 mi ml mr nd hcd hr TB hl hGT hq hp hus hlen hG t1 sa wa na da hU hp2 hd hat; omega)
    generalize 1 + u2 % d = n at hn ⊢
    have hG2 := updG_ne' (g := GO.lst [W.int 5, W.int 100000000000000000000]) hG hp2
    have t2 := updG_ne' (g := GO.lst [W.int 5, W.int 100000000000000000000]) t1 hp2
    generalize updG G1 p2 (GO.lst [W.int 5, W.int 100000000000000000000]) = G2 at hG2 t2 ⊢
    subst hU
    refine seqU fun U hU => ?_
    walk_at "R"
    refine ⟨#[], t2, trivial, rfl, fun c' => ?_⟩
    have hpT : p ≠ T := fun z => by rw [z, t1] at hG; cases hG
    refine ⟨_, _, (updG_ne hpT).trans hG2, atI_nat (j := 2) rfl, ?_⟩
    generalize updG G2 T (GO.tbl (#[] ++ #[rawInt ((126 : Nat) : Int), rawInt ((32 : Nat) : Int), Value.ref c'])) = G3
    walk_at "R"
    refine ⟨[.int n], ⟨rfl, rfl, trivial⟩, fun fl hfl => ?_⟩
    have hm2 := mod_in (i := u2 / 30) (j := 36) (by (clear F hc hCd hBl hT F2 F7 F3 F4 F5 F6 F8 L1 mi ml mr nd hcd hr TB hl hGT hq hp hus hlen hG t1 sa wa na da hp2 hd hat hm hn hG2 t2 hU hpT hfl; omega))
    obtain ⟨m, hm3⟩ : ∃ m : Nat, 5 + u2 / 30 % 36 = (m : Int) := ⟨(5 + u2 / 30 % 36).toNat, by (clear F hc hCd hBl hT F2 F7 F3 F4 F5 F6 F8 L1 mi ml mr nd hcd hr TB hl hGT hq hp hus hlen hG t1 sa wa na da hp2 hd hat hm hn hG2 t2 hU hpT hfl; omega)⟩
    rw [hm3]
    refine ⟨a, n, m, rfl, rfl, by (clear F hc hCd hBl hT F2 F7 F3 F4 F5 F6 F8 L1 mi ml mr nd hcd hr TB hl hGT hq hp hus hlen hG t1 sa wa na da hp2 hd hat hm hG2 t2 hU hpT hfl hm2 hm3; omega), na, by walk_at "om", by walk_at "om", by (clear F hc hCd hBl hT F2 F7 F3 F4 F5 F6 F8 L1 mi ml mr nd hcd hr TB hl hGT hq hp hus hlen hG t1 sa wa na da hp2 hd hat hm hn hG2 t2 hU hpT hfl; omega), fun p4 os b hp4 hD h1 h2 => ?_⟩
    have hall := hD.all (fun _ => by (clear F hc hCd hBl hT F2 F7 F3 F4 F5 F6 F8 L1 mi ml mr nd hcd hr TB hl hGT hq hp hus hlen hG t1 sa wa na da hp2 hd hat hm hG2 t2 hU hpT hfl hm2 hm3 hp4 hD h1 h2; omega)) na
    have g4 := updG_same (G := G3) (a := p4) (g := GO.lst (nums os))
    generalize updG G3 p4 (GO.lst (nums os)) = G4 at g4 ⊢
    have hpos := hD.pos
    subst hU
    refine seqU fun U hU => ?_
    walk_at "R"
    intro p5 hp5
    refine ⟨_, _, updG_ne' g4 hp5, updG_same, nums_flat _, rfl, Nat.le_trans (nums_deps fun o ho => by have := hall o ho; (clear F hc hCd hBl hT F2 F7 F3 F4 F5 F6 F8 L1 mi ml mr nd hcd hr TB hl hGT hq hp hus hlen hG t1 sa wa na hp2 hd hat hm hn hG2 t2 hpT hfl hm2 hm3 hp4 hD h1 h2 hall g4 hpos hU hp5 ho; omega)) (by decide), ?_⟩
    have g5 := updG_ne' (g := GO.lst []) g4 hp5
    generalize updG G4 p5 (GO.lst []) = G5 at g5 ⊢
    have he : W.eqs (nums os) [] = false := by
      cases os with
      | nil => simp at hpos
      | cons o os => rfl
    rw [he, if_neg (by decide)]
    have hda := tup_dep a
    refine ⟨_, _, g5, atI_nat (j := 0) (nums_get hD.first), tup_flat a, tup_flat a, by (clear F hc hCd hBl hT F2 F7 F3 F4 F5 F6 F8 L1 mi ml mr nd hcd hr TB hl hGT hq hp hus hlen hG t1 sa wa na hp2 hd hat hm hn hG2 t2 hpT hfl hm2 hm3 hp4 hD h1 h2 hall g4 hpos hU hp5 g5 he; omega), ?_⟩
    rw [W.eq_refl _ (tup_flat a)]
    rw [if_neg (by decide)]
    subst hU
    refine seqU fun U hU => ?_
    walk_at "R"
    obtain ⟨cs, hcs, hcl⟩ := cut_ints ns (some 3) (some 53)
    rw [hcs]
    refine ⟨by walk_at "om", fun p6 hp6 p7 hp7 => ⟨_, _, updG_ne' updG_same hp7, updG_same, by simp; (clear F hc hCd hBl hT F2 F7 F3 F4 F5 F6 F8 L1 mi ml mr nd hcd hr TB hGT hq hp hus hlen hG t1 sa wa na da hp2 hd hat hm hn hG2 t2 hpT hfl hm2 hm3 hp4 hD h1 h2 hall g4 hpos hp5 g5 he hda hU hcs hp6 hp7; omega), fun p8 hp8 => ⟨_, updG_same, ?_⟩⟩⟩
    have hcs2 : cs.map W.int ++ [W.int 4, W.int 9] = (cs ++ [4, 9]).map W.int := by simp
    rw [hcs2]
    have g8 := updG_ne' (g := GO.lst ((cs ++ [4, 9]).map W.int)) (updG_ne' (g := GO.lst [W.int 4, W.int 9]) (updG_ne' (g := GO.lst (cs.map W.int)) g5 hp6) hp7) hp8
    have k8 := updG_same (G := updG (updG G5 p6 (GO.lst (cs.map W.int))) p7 (GO.lst [W.int 4, W.int 9])) (a := p8) (g := GO.lst ((cs ++ [4, 9]).map W.int))
    generalize updG (updG (updG G5 p6 (GO.lst (cs.map W.int))) p7 (GO.lst [W.int 4, W.int 9])) p8 (GO.lst ((cs ++ [4, 9]).map W.int)) = G8 at g8 k8 ⊢
    generalize cs ++ [4, 9] = ds at k8 ⊢
    refine loopW_ind (fun ws τ G' => ∃ (rs : List Int) (t5 t6 t7 : Option W), ws = rs.map W.int ∧ τ = [some (.scr ns), some (.ref p), some (.tup (encP a)), some (.int n), some (.ref p4), t5, t6, t7] ∧ G' = G8) ?_ ?_ _ _ _ ⟨ds, _, _, _, rfl, rfl, rfl⟩
    · rintro τ G' ⟨rs, t5, t6, t7, hw, rfl, rfl⟩
      refine ⟨k8, ?_⟩
      subst hU
      walk_at "R"
      exact GLe.done (hq _)
    · rintro w1 ws τ G' kk ⟨rs, t5, t6, t7, hw, rfl, rfl⟩ hk
      cases rs with
      | nil => cases hw
      | cons r0 rs =>
        cases hw
        refine ⟨k8, ?_⟩
        refine seqU fun U1 hU1 => ?_
        walk_at "R"
        refine ⟨_, g8, ?_⟩
        rw [nums_length]
        have hmod := mod_in (i := r0) (j := (os.length : Int)) (by (clear F hc hCd hBl hT F2 F7 F3 F4 F5 F6 F8 L1 mi ml mr nd hcd hr TB hl hGT hq hp hus hlen hG t1 sa wa na da hp2 hd hat hm hn hG2 t2 hpT hfl hm2 hm3 hp4 hD h1 h2 hall g4 hp5 g5 he hda hU hcs hcl hp6 hp7 hp8 hcs2 g8 k8 hk hU1; omega))
        obtain ⟨i, hi⟩ : ∃ i : Nat, r0 % (os.length : Int) = (i : Int) := ⟨(r0 % (os.length : Int)).toNat, by (clear F hc hCd hBl hT F2 F7 F3 F4 F5 F6 F8 L1 mi ml mr nd hcd hr TB hl hGT hq hp hus hlen hG t1 sa wa na da hp2 hd hat hm hn hG2 t2 hpT hfl hm2 hm3 hp4 hD h1 h2 hall g4 hpos hp5 g5 he hda hU hcs hcl hp6 hp7 hp8 hcs2 g8 k8 hk hU1; omega)⟩
        have hi2 : i < os.length := by (clear F hc hCd hBl hT F2 F7 F3 F4 F5 F6 F8 L1 mi ml mr nd hcd hr TB hl hGT hq hp hus hlen hG t1 sa wa na da hp2 hd hat hm hn hG2 t2 hpT hfl hm2 hm3 hp4 hD h1 h2 hall g4 hpos hp5 g5 he hda hU hcs hcl hp6 hp7 hp8 hcs2 g8 k8 hk hU1; omega)
        have hy := List.getElem?_eq_getElem hi2
        generalize os[i] = y at hy
        obtain ⟨ny, dy, wy⟩ := hall y (List.mem_of_getElem? hy)
        have hdy := tup_dep y
        rw [hi]
        refine ⟨by (clear F hc hCd hBl hT F2 F7 F3 F4 F5 F6 F8 L1 mi ml mr nd hcd hr TB hl hGT hq hp hus hlen hG t1 sa wa na da hp2 hd hat hm hn hG2 t2 hpT hfl hm2 hm3 hp4 hD h1 h2 hall g4 hp5 g5 he hda hU hcs hcl hp6 hp7 hp8 hcs2 g8 k8 hk hU1 hmod hi hi2 hy ny dy wy hdy; omega), _, _, g8, atI_nat (j := i) (nums_get hy), ?_⟩
        subst hU1
        refine seqU fun U1 hU1 => ?_
        refine ifU fun T1 T2 hT1 hT2 => ?_
        walk_at "R"
        refine ⟨tup_flat y, by (clear F hc hCd hBl hT F2 F7 F3 F4 F5 F6 F8 L1 mi ml mr nd hcd hr TB hl hGT hq hp hus hlen hG t1 sa wa na hp2 hd hat hm hn hG2 t2 hpT hfl hm2 hm3 hp4 hD h1 h2 hall g4 hpos hp5 g5 he hda hU hcs hcl hp6 hp7 hp8 hcs2 g8 k8 hk hmod hi hi2 hy ny wy hU1 hT1 hT2; omega), ?_⟩
        rw [tup_nil_eq]
        by_cases hz : y = .z
        · rw [if_neg (by simpa using hz)]
          subst hT2 hU1
          walk_at "R"
          exact hk _ _ ⟨rs, _, _, _, rfl, rfl, rfl⟩
        rw [if_pos (by simpa using hz)]
        subst hT1 hU1
        refine seqU fun U1 hU1 => ?_
        walk_at "R"
        refine ⟨_, g8, ?_⟩
        rw [nums_length]
        refine ⟨by (clear F hc hCd hBl hT F2 F7 F3 F4 F5 F6 F8 L1 mi ml mr nd hcd hr TB hl hGT hq hp hus hlen hG t1 sa wa na da hp2 hd hat hm hn hG2 t2 hpT hfl hp4 hD h2 hall g4 hp5 g5 he hda hU hcs hcl hp6 hp7 hp8 hcs2 g8 k8 hk hmod hi hi2 hy ny dy wy hdy hT2 hz hU1; omega), y, _, rfl, ny, hz, by (clear F hc hCd hBl hT F2 F7 F3 F4 F5 F6 F8 L1 mi ml mr nd hcd hr TB hl hGT hq hp hus hlen hG t1 sa wa na hp2 hd hat hm hn hG2 t2 hpT hfl hm2 hm3 hp4 hD h1 h2 hall g4 hpos hp5 g5 he hda hU hcs hcl hp6 hp7 hp8 hcs2 g8 k8 hk hmod hi hi2 hy ny wy hdy hT2 hz hU1; omega), by (clear F hc hCd hBl hT F2 F7 F3 F4 F5 F6 F8 L1 mi ml mr nd hcd hr TB hl hGT hq hp hus hlen hG t1 sa na da hp2 hd hat hm hn hG2 t2 hpT hfl hp4 hD h2 hall g4 hp5 g5 he hda hU hcs hcl hp6 hp7 hp8 hcs2 g8 k8 hk hmod hi hi2 hy ny dy hdy hT2 hz hU1; omega), fun x nx cx dx wx mx => ?_⟩
        subst hU1
        refine seqU fun U1 hU1 => ?_
        walk_at "R"
        have fin : ∀ x : O, x.NF → x.dp ≤ 8 → O.hw x ≤ 500 → U1 { nx := kk, rt := fun w G1 => ∃ G0, GLe G0 G1 ∧ q w G0, bk := U { nx := fun x G1 => ∃ G0, GLe G0 G1 ∧ q W.non G0, rt := fun w G1 => ∃ G0, GLe G0 G1 ∧ q w G0 }, ct := kk }
            [some (W.scr ns), some (W.ref p), some (W.tup (encP a)), some (W.int n), some (W.ref p4), some (W.int r0), some (.tup (encP y)), some (.tup (encP x))] G' := fun x nx dx wx => by
          subst hU1
          walk_at "R"
          refine ⟨x, y, rfl, by (clear F hc hCd hBl hT F2 F7 F3 F4 F5 F6 F8 L1 mi ml mr nd hcd hr TB hl hGT hq hp hus hlen hG t1 sa wa na da hp2 hd hat hm hn hG2 t2 hpT hfl hm2 hm3 hp4 hD h1 h2 hall g4 hpos hp5 g5 he hda hU hcs hcl hp6 hp7 hp8 hcs2 g8 k8 hk hmod hi hi2 hy ny dy wy hdy hT2 hz cx mx nx wx; omega), ?_⟩
          walk_at "R"
          split
          · rename_i hxy
            refine ⟨x, rfl, by (clear F hc hCd hBl hT F2 F7 F3 F4 F5 F6 F8 L1 mi ml mr nd hcd hr TB hl hGT hq hp hus hlen hG t1 sa wa na da hp2 hd hat hm hn hG2 t2 hpT hfl hm2 hm3 hp4 hD h1 h2 hall g4 hpos hp5 g5 he hda hU hcs hcl hp6 hp7 hp8 hcs2 g8 k8 hk hmod hi hi2 hy ny dy wy hdy hT2 hz cx mx nx wx hxy; omega), nx, by walk_at "om", ?_⟩
            walk_at "R"
            split
            · rename_i hmx
              have hmet := hD.met (by (clear F hc hCd hBl hT F2 F7 F3 F4 F5 F6 F8 L1 mi ml mr nd hcd hr TB hl hGT hq hp hus hlen hG t1 sa wa na da hp2 hd hat hm hG2 t2 hpT hfl hm2 hm3 hp4 hD h1 h2 hall g4 hpos hp5 g5 he hda hU hcs hcl hp6 hp7 hp8 hcs2 g8 k8 hk hmod hi hi2 hy ny dy wy hdy hT2 hz cx mx nx dx wx hxy hmx; omega)) na (List.mem_of_getElem? hy) nx (by (clear F hc hCd hBl hT F2 F7 F3 F4 F5 F6 F8 L1 mi ml mr nd hcd hr TB hl hGT hq hp hus hlen hG t1 sa wa na da hp2 hd hat hm hn hG2 t2 hpT hfl hm2 hm3 hp4 hD h1 h2 hall g4 hpos hp5 g5 he hda hU hcs hcl hp6 hp7 hp8 hcs2 g8 k8 hk hmod hi hi2 hy ny dy wy hdy hT2 hz cx mx nx dx wx hmx; omega)) (by assumption)
              refine ⟨_, g8, tup_flat x, nums_flat _, Nat.le_trans (nums_deps fun o ho => by have := hall o ho; (clear F hc hCd hBl hT F2 F7 F3 F4 F5 F6 F8 L1 mi ml mr nd hcd hr TB hl hGT hq hp hus hlen hG t1 sa wa na hp2 hd hat hm hn hG2 t2 hpT hfl hm2 hm3 hp4 hD h1 h2 hall g4 hpos hp5 g5 he hda hU hcs hcl hp6 hp7 hp8 hcs2 g8 k8 hk hmod hi hi2 hy ny dy wy hdy hT2 hz cx mx nx dx wx hxy hmx hmet ho; omega)) (by decide), ?_⟩
              by_cases hin : ((nums os).any fun w => w.eq (W.tup (encP x))) = false
              · rw [if_pos hin]
                have hlast : atI (nums os) (-1) = some (.tup (encP b)) := atI_neg1 (by rw [nums_length]; exact nums_get hD.last)
                refine ⟨_, _, g8, hlast, x, b, rfl, by (clear F hc hCd hBl hT F2 F7 F3 F4 F5 F6 F8 L1 mi ml mr nd hcd hr TB hl hGT hq hp hus hlen hG t1 sa wa na da hp2 hd hat hm hn hG2 t2 hpT hfl hm2 hm3 hp4 hD h1 h2 hall g4 hpos hp5 g5 he hda hU hcs hcl hp6 hp7 hp8 hcs2 g8 k8 hk hmod hi hi2 hy ny dy wy hdy hT2 hz cx mx nx wx hxy hmx hmet hin hlast; omega), ?_⟩
                walk_at "R"
                have hlt : O.cmp x b = -1 := by
                  rcases hmet with h | h
                  · exfalso
                    rw [List.any_eq_false] at hin
                    exact hin _ (List.mem_map_of_mem h) (W.eq_refl _ (tup_flat x))
                  · rcases O.cmp_range x b with h' | h' | h' <;> omega
                rw [if_neg (by (clear F hc hCd hBl hT F2 F7 F3 F4 F5 F6 F8 L1 mi ml mr nd hcd hr TB hl hGT hq hp hus hlen hG t1 sa wa na da hp2 hd hat hm hn hG2 t2 hpT hfl hm2 hm3 hp4 hD h1 h2 hall g4 hpos hp5 g5 he hda hU hcs hcl hp6 hp7 hp8 hcs2 g8 k8 hk hmod hi hi2 hy ny dy wy hdy hT2 hz cx mx nx dx wx hxy hmx hmet hin hlast; omega))]
                exact hk _ _ ⟨rs, _, _, _, rfl, rfl, rfl⟩
              · rw [if_neg hin]
                exact hk _ _ ⟨rs, _, _, _, rfl, rfl, rfl⟩
            · exact hk _ _ ⟨rs, _, _, _, rfl, rfl, rfl⟩
          · exact hk _ _ ⟨rs, _, _, _, rfl, rfl, rfl⟩
        split
        · refine ⟨r0, 2, rfl, by (clear F hc hCd hBl hT F2 F7 F3 F4 F5 F6 F8 L1 mi ml mr nd hcd hr TB hl hGT hq hp hus hlen hG t1 sa wa na da hp2 hd hat hm hn hG2 t2 hpT hfl hm2 hm3 hp4 hD h1 h2 hall g4 hpos hp5 g5 he hda hU hcs hcl hp6 hp7 hp8 hcs2 g8 k8 hk hmod hi hi2 hy ny dy wy hdy hT2 hz nx cx dx wx mx hU1 fin; omega), by (clear F hc hCd hBl hT F2 F7 F3 F4 F5 F6 F8 L1 mi ml mr nd hcd hr TB hl hGT hq hp hus hlen hG t1 sa wa na da hp2 hd hat hm hn hG2 t2 hpT hfl hm2 hm3 hp4 hD h1 h2 hall g4 hpos hp5 g5 he hda hU hcs hcl hp6 hp7 hp8 hcs2 g8 k8 hk hmod hi hi2 hy ny dy wy hdy hT2 hz nx cx dx wx mx hU1 fin; omega), fun v v0 v1 => ?_⟩
          walk_at "R"
          split
          · exact ⟨x, n - 1, rfl, nx, by (clear F hc hCd hBl hT F2 F7 F3 F4 F5 F6 F8 L1 mi ml mr nd hcd hr TB hl hGT hq hp hus hlen hG t1 sa wa na hp2 hd hat hm hn hG2 t2 hpT hfl hm2 hm3 hp4 hD h1 h2 hall g4 hpos hp5 g5 he hda hU hcs hcl hp6 hp7 hp8 hcs2 g8 k8 hk hmod hi hi2 hy ny wy hdy hT2 hz nx cx wx mx hU1 fin v0 v1; omega), by (clear F hc hCd hBl hT F2 F7 F3 F4 F5 F6 F8 L1 mi ml mr nd hcd hr TB hl hGT hq hp hus hlen hG t1 sa na da hp2 hd hat hm hn hG2 t2 hpT hfl hp4 hD h2 hall g4 hp5 g5 he hda hU hcs hcl hp6 hp7 hp8 hcs2 g8 k8 hk hmod hi hi2 hy ny dy hdy hT2 hz nx cx dx mx hU1 fin v0 v1; omega), by (clear F hc hCd hBl hT F2 F7 F3 F4 F5 F6 F8 L1 mi ml mr nd hcd hr TB hl hGT hq hp hus hlen hG t1 sa wa na da hp2 hd hat hm hn hG2 t2 hpT hfl hm2 hm3 hp4 hD h1 h2 hall g4 hpos hp5 g5 he hda hU hcs hcl hp6 hp7 hp8 hcs2 g8 k8 hk hmod hi hi2 hy ny dy wy hdy hT2 hz nx cx dx wx mx hU1 fin v0 v1; omega), fun o no od ow => fin o no (by (clear F hc hCd hBl hT F2 F7 F3 F4 F5 F6 F8 L1 mi ml mr nd hcd hr TB hl hGT hq hp hus hlen hG t1 sa wa na hp2 hd hat hm hn hG2 t2 hpT hfl hm2 hm3 hp4 hD h1 h2 hall g4 hpos hp5 g5 he hda hU hcs hcl hp6 hp7 hp8 hcs2 g8 k8 hk hmod hi hi2 hy ny wy hdy hT2 hz nx cx wx mx hU1 fin v0 v1 no ow; omega)) (by (clear F hc hCd hBl hT F2 F7 F3 F4 F5 F6 F8 L1 mi ml mr nd hcd hr TB hl hGT hq hp hus hlen hG t1 sa na da hp2 hd hat hm hn hG2 t2 hpT hfl hp4 hD h2 hall g4 hp5 g5 he hda hU hcs hcl hp6 hp7 hp8 hcs2 g8 k8 hk hmod hi hi2 hy ny dy hdy hT2 hz nx cx dx mx hU1 fin v0 v1 no od; omega))⟩
          · exact fin x nx (by (clear F hc hCd hBl hT F2 F7 F3 F4 F5 F6 F8 L1 mi ml mr nd hcd hr TB hl hGT hq hp hus hlen hG t1 sa wa na hp2 hd hat hm hn hG2 t2 hpT hfl hm2 hm3 hp4 hD h1 h2 hall g4 hpos hp5 g5 he hda hU hcs hcl hp6 hp7 hp8 hcs2 g8 k8 hk hmod hi hi2 hy ny wy hdy hT2 hz nx cx wx mx hU1 fin v0 v1; omega)) (by (clear F hc hCd hBl hT F2 F7 F3 F4 F5 F6 F8 L1 mi ml mr nd hcd hr TB hl hGT hq hp hus hlen hG t1 sa na da hp2 hd hat hm hn hG2 t2 hpT hfl hp4 hD h2 hall g4 hp5 g5 he hda hU hcs hcl hp6 hp7 hp8 hcs2 g8 k8 hk hmod hi hi2 hy ny dy hdy hT2 hz nx cx dx mx hU1 fin v0 v1; omega))
        · exact fin x nx (by (clear F hc hCd hBl hT F2 F7 F3 F4 F5 F6 F8 L1 mi ml mr nd hcd hr TB hl hGT hq hp hus hlen hG t1 sa wa na hp2 hd hat hm hn hG2 t2 hpT hfl hm2 hm3 hp4 hD h1 h2 hall g4 hpos hp5 g5 he hda hU hcs hcl hp6 hp7 hp8 hcs2 g8 k8 hk hmod hi hi2 hy ny wy hdy hT2 hz nx cx wx mx hU1 fin; omega)) (by (clear F hc hCd hBl hT F2 F7 F3 F4 F5 F6 F8 L1 mi ml mr nd hcd hr TB hl hGT hq hp hus hlen hG t1 sa na da hp2 hd hat hm hn hG2 t2 hpT hfl hp4 hD h2 hall g4 hp5 g5 he hda hU hcs hcl hp6 hp7 hp8 hcs2 g8 k8 hk hmod hi hi2 hy ny dy hdy hT2 hz nx cx dx mx hU1 fin; omega))
theorem law_ok {c T' : Addr} (T : Txt K mg) (F : Fun K "law" "law" (top 25) f fd) (hc : fd.code = .ref c) (hCd : PySem.W.CodeHd base c T') (hBl : base.BuiltinsAt mg T') (hT : mainGlobals ≠ T') : WFn P w K mg base 110 f fd ["_law_script"] (spLawT T') := by
  have Ca := T.d__law_cell_at.fx (P := P) (w := w) (base := base) fun f fd F => fnCa F T.z_len
  have Mx := T.d__law_mixed.fx (P := P) (w := w) (base := base) fun f fd F => fnMx F
  have Gr := T.d__law_great.fx fun f fd F => fnGr F Mx
  have Or := fxOr (P := P) (w := w) (base := base) T 60 (by decide)
  have Dr := fxDr (P := P) (w := w) (base := base) T 5 (by decide)
  have Ny := T.d__law_number_by.fx fun f fd F => fnNy F Dr Mx Gr T.z_tuple
  exact fnLw F hc hCd hBl hT Ca Ny (fxBw T 30 (by decide)) (fxCt T 20 (by decide)) (fxGl T 40) Mx Or (wdL1 T) T.z_int T.z_len T.z_range



end
set_option maxHeartbeats 0 in
theorem all_mk {l : PySem.W.OpenLaw} {w : World} {K : PySem.W.Frag} {h : Heap} {mg : Str → Option Value} {fa f1 f2 f3 f4 f5 f6 f7 f8 f9 f10 f11 f12 f13 f14 f15 f16 f17 f18 f19 : Addr} (X : K.In h) (G : h.Ns mainGlobals mg) (hfa : mg "law" = some (.ref fa))
    {od1 an1 od2 an2 od3 an3 od4 an4 od5 an5 od6 an6 od7 an7 od8 an8 od9 an9 od10 an10 od11 an11 od12 an12 od13 an13 od14 an14 od15 an15 od16 an16 od17 an17 od18 an18 od19 an19 : Option Addr} {sl1 sl2 sl3 sl4 sl5 sl6 sl7 sl8 sl9 sl10 sl11 sl12 sl13 sl14 sl15 sl16 sl17 sl18 sl19 : Array (Option Value)} {oc1 kV1 dc1 pm1 cd1 ct1 oc2 kV2 dc2 pm2 cd2 ct2 oc3 kV3 dc3 pm3 cd3 ct3 oc4 kV4 dc4 pm4 cd4 ct4 oc5 kV5 dc5 pm5 cd5 ct5 oc6 kV6 dc6 pm6 cd6 ct6 oc7 kV7 dc7 pm7 cd7 ct7 oc8 kV8 dc8 pm8 cd8 ct8 oc9 kV9 dc9 pm9 cd9 ct9 oc10 kV10 dc10 pm10 cd10 ct10 oc11 kV11 dc11 pm11 cd11 ct11 oc12 kV12 dc12 pm12 cd12 ct12 oc13 kV13 dc13 pm13 cd13 ct13 oc14 kV14 dc14 pm14 cd14 ct14 oc15 kV15 dc15 pm15 cd15 ct15 oc16 kV16 dc16 pm16 cd16 ct16 oc17 kV17 dc17 pm17 cd17 ct17 oc18 kV18 dc18 pm18 cd18 ct18 oc19 kV19 dc19 pm19 ct19 : Value} {T1 : Addr} {tc1 : Value} {td1 : Option Addr} {tn1 : Nat} {ts1 : Array (Option Value)} {tk1_0 : Tok} {T2 : Addr} {tc2 : Value} {td2 : Option Addr} {tn2 : Nat} {ts2 : Array (Option Value)} {tk2_0 : Tok} {T7 : Addr} {tc7 : Value} {td7 : Option Addr} {tn7 : Nat} {ts7 : Array (Option Value)} {tk7_0 : Tok}
    {qc qP : Addr} {qo : Value} {qd : Option Addr} {qv : Array Value} {qs : Array (Option Value)} (ql : K.lookup qc = some ⟨qo, qd, .fields qv, qs⟩) (q11 : qv[11]? = some (.ref qP)) (qn : K.lookup qP = none)
    (a1 : PySem.W.nsIn K mainGlobals "is_whole" = some (some (.ref f1))) (l1 : K.lookup f1 = some ⟨oc1, od1, .func (PySem.W.fnOf "is_whole" "is_whole" (defArgs (top 5)) (defBody (top 5)) (defScope (top 5)) (.ref T1) kV1 dc1 pm1 an1 cd1 ct1), sl1⟩) (c1 : PySem.W.codeIn K cd1 "is_whole" = true) (k1 : PySem.W.keepIn K (.ref f1) = true)
    (a2 : PySem.W.nsIn K mainGlobals "raised" = some (some (.ref f2))) (l2 : K.lookup f2 = some ⟨oc2, od2, .func (PySem.W.fnOf "raised" "raised" (defArgs (top 6)) (defBody (top 6)) (defScope (top 6)) (.ref T2) kV2 dc2 pm2 an2 cd2 ct2), sl2⟩) (c2 : PySem.W.codeIn K cd2 "raised" = true) (k2 : PySem.W.keepIn K (.ref f2) = true)
    (a3 : PySem.W.nsIn K mainGlobals "whole_part" = some (some (.ref f3))) (l3 : K.lookup f3 = some ⟨oc3, od3, .func (PySem.W.fnOf "whole_part" "whole_part" (defArgs (top 7)) (defBody (top 7)) (defScope (top 7)) .none kV3 dc3 pm3 an3 cd3 ct3), sl3⟩) (c3 : PySem.W.codeIn K cd3 "whole_part" = true) (k3 : PySem.W.keepIn K (.ref f3) = true)
    (a4 : PySem.W.nsIn K mainGlobals "is_limit" = some (some (.ref f4))) (l4 : K.lookup f4 = some ⟨oc4, od4, .func (PySem.W.fnOf "is_limit" "is_limit" (defArgs (top 8)) (defBody (top 8)) (defScope (top 8)) .none kV4 dc4 pm4 an4 cd4 ct4), sl4⟩) (c4 : PySem.W.codeIn K cd4 "is_limit" = true) (k4 : PySem.W.keepIn K (.ref f4) = true)
    (a5 : PySem.W.nsIn K mainGlobals "ladder" = some (some (.ref f5))) (l5 : K.lookup f5 = some ⟨oc5, od5, .func (PySem.W.fnOf "ladder" "ladder" (defArgs (top 10)) (defBody (top 10)) (defScope (top 10)) .none kV5 dc5 pm5 an5 cd5 ct5), sl5⟩) (c5 : PySem.W.codeIn K cd5 "ladder" = true) (k5 : PySem.W.keepIn K (.ref f5) = true)
    (a6 : PySem.W.nsIn K mainGlobals "one_part_less" = some (some (.ref f6))) (l6 : K.lookup f6 = some ⟨oc6, od6, .func (PySem.W.fnOf "one_part_less" "one_part_less" (defArgs (top 11)) (defBody (top 11)) (defScope (top 11)) .none kV6 dc6 pm6 an6 cd6 ct6), sl6⟩) (c6 : PySem.W.codeIn K cd6 "one_part_less" = true) (k6 : PySem.W.keepIn K (.ref f6) = true)
    (a7 : PySem.W.nsIn K mainGlobals "way_down" = some (some (.ref f7))) (l7 : K.lookup f7 = some ⟨oc7, od7, .func (PySem.W.fnOf "way_down" "way_down" (defArgs (top 12)) (defBody (top 12)) (defScope (top 12)) (.ref T7) kV7 dc7 pm7 an7 cd7 ct7), sl7⟩) (c7 : PySem.W.codeIn K cd7 "way_down" = true) (k7 : PySem.W.keepIn K (.ref f7) = true)
    (a8 : PySem.W.nsIn K mainGlobals "_law_cell_at" = some (some (.ref f8))) (l8 : K.lookup f8 = some ⟨oc8, od8, .func (PySem.W.fnOf "_law_cell_at" "_law_cell_at" (defArgs (top 14)) (defBody (top 14)) (defScope (top 14)) .none kV8 dc8 pm8 an8 cd8 ct8), sl8⟩) (c8 : PySem.W.codeIn K cd8 "_law_cell_at" = true) (k8 : PySem.W.keepIn K (.ref f8) = true)
    (a9 : PySem.W.nsIn K mainGlobals "_law_mixed" = some (some (.ref f9))) (l9 : K.lookup f9 = some ⟨oc9, od9, .func (PySem.W.fnOf "_law_mixed" "_law_mixed" (defArgs (top 15)) (defBody (top 15)) (defScope (top 15)) .none kV9 dc9 pm9 an9 cd9 ct9), sl9⟩) (c9 : PySem.W.codeIn K cd9 "_law_mixed" = true) (k9 : PySem.W.keepIn K (.ref f9) = true)
    (a10 : PySem.W.nsIn K mainGlobals "_law_order" = some (some (.ref f10))) (l10 : K.lookup f10 = some ⟨oc10, od10, .func (PySem.W.fnOf "_law_order" "_law_order" (defArgs (top 16)) (defBody (top 16)) (defScope (top 16)) .none kV10 dc10 pm10 an10 cd10 ct10), sl10⟩) (c10 : PySem.W.codeIn K cd10 "_law_order" = true) (k10 : PySem.W.keepIn K (.ref f10) = true)
    (a11 : PySem.W.nsIn K mainGlobals "_law_put" = some (some (.ref f11))) (l11 : K.lookup f11 = some ⟨oc11, od11, .func (PySem.W.fnOf "_law_put" "_law_put" (defArgs (top 17)) (defBody (top 17)) (defScope (top 17)) .none kV11 dc11 pm11 an11 cd11 ct11), sl11⟩) (c11 : PySem.W.codeIn K cd11 "_law_put" = true) (k11 : PySem.W.keepIn K (.ref f11) = true)
    (a12 : PySem.W.nsIn K mainGlobals "_law_many" = some (some (.ref f12))) (l12 : K.lookup f12 = some ⟨oc12, od12, .func (PySem.W.fnOf "_law_many" "_law_many" (defArgs (top 18)) (defBody (top 18)) (defScope (top 18)) .none kV12 dc12 pm12 an12 cd12 ct12), sl12⟩) (c12 : PySem.W.codeIn K cd12 "_law_many" = true) (k12 : PySem.W.keepIn K (.ref f12) = true)
    (a13 : PySem.W.nsIn K mainGlobals "_law_drawn" = some (some (.ref f13))) (l13 : K.lookup f13 = some ⟨oc13, od13, .func (PySem.W.fnOf "_law_drawn" "_law_drawn" (defArgs (top 19)) (defBody (top 19)) (defScope (top 19)) .none kV13 dc13 pm13 an13 cd13 ct13), sl13⟩) (c13 : PySem.W.codeIn K cd13 "_law_drawn" = true) (k13 : PySem.W.keepIn K (.ref f13) = true)
    (a14 : PySem.W.nsIn K mainGlobals "_law_great" = some (some (.ref f14))) (l14 : K.lookup f14 = some ⟨oc14, od14, .func (PySem.W.fnOf "_law_great" "_law_great" (defArgs (top 20)) (defBody (top 20)) (defScope (top 20)) .none kV14 dc14 pm14 an14 cd14 ct14), sl14⟩) (c14 : PySem.W.codeIn K cd14 "_law_great" = true) (k14 : PySem.W.keepIn K (.ref f14) = true)
    (a15 : PySem.W.nsIn K mainGlobals "_law_number_by" = some (some (.ref f15))) (l15 : K.lookup f15 = some ⟨oc15, od15, .func (PySem.W.fnOf "_law_number_by" "_law_number_by" (defArgs (top 21)) (defBody (top 21)) (defScope (top 21)) .none kV15 dc15 pm15 an15 cd15 ct15), sl15⟩) (c15 : PySem.W.codeIn K cd15 "_law_number_by" = true) (k15 : PySem.W.keepIn K (.ref f15) = true)
    (a16 : PySem.W.nsIn K mainGlobals "_law_below" = some (some (.ref f16))) (l16 : K.lookup f16 = some ⟨oc16, od16, .func (PySem.W.fnOf "_law_below" "_law_below" (defArgs (top 22)) (defBody (top 22)) (defScope (top 22)) .none kV16 dc16 pm16 an16 cd16 ct16), sl16⟩) (c16 : PySem.W.codeIn K cd16 "_law_below" = true) (k16 : PySem.W.keepIn K (.ref f16) = true)
    (a17 : PySem.W.nsIn K mainGlobals "_law_greatest" = some (some (.ref f17))) (l17 : K.lookup f17 = some ⟨oc17, od17, .func (PySem.W.fnOf "_law_greatest" "_law_greatest" (defArgs (top 23)) (defBody (top 23)) (defScope (top 23)) .none kV17 dc17 pm17 an17 cd17 ct17), sl17⟩) (c17 : PySem.W.codeIn K cd17 "_law_greatest" = true) (k17 : PySem.W.keepIn K (.ref f17) = true)
    (a18 : PySem.W.nsIn K mainGlobals "_law_cut" = some (some (.ref f18))) (l18 : K.lookup f18 = some ⟨oc18, od18, .func (PySem.W.fnOf "_law_cut" "_law_cut" (defArgs (top 24)) (defBody (top 24)) (defScope (top 24)) .none kV18 dc18 pm18 an18 cd18 ct18), sl18⟩) (c18 : PySem.W.codeIn K cd18 "_law_cut" = true) (k18 : PySem.W.keepIn K (.ref f18) = true)
    (a19 : PySem.W.nsIn K mainGlobals "law" = some (some (.ref f19))) (l19 : K.lookup f19 = some ⟨oc19, od19, .func (PySem.W.fnOf "law" "law" (defArgs (top 25)) (defBody (top 25)) (defScope (top 25)) .none kV19 dc19 pm19 an19 (.ref qc) ct19), sl19⟩) (c19 : PySem.W.codeIn K (.ref qc) "law" = true) (k19 : PySem.W.keepIn K (.ref f19) = true)
    (t1 : K.lookup T1 = some ⟨tc1, td1, .seq #[.int 0 tk1_0] tn1, ts1⟩)
    (t2 : K.lookup T2 = some ⟨tc2, td2, .seq #[.int 1 tk2_0] tn2, ts2⟩)
    (t7 : K.lookup T7 = some ⟨tc7, td7, .seq #[.int 20 tk7_0] tn7, ts7⟩)
    (z1 : PySem.W.nsIn K mainGlobals "ValueError" = some none) (z2 : PySem.W.nsIn K mainGlobals "bool" = some none) (z3 : PySem.W.nsIn K mainGlobals "int" = some none) (z4 : PySem.W.nsIn K mainGlobals "isinstance" = some none) (z5 : PySem.W.nsIn K mainGlobals "len" = some none) (z6 : PySem.W.nsIn K mainGlobals "list" = some none) (z7 : PySem.W.nsIn K mainGlobals "max" = some none) (z8 : PySem.W.nsIn K mainGlobals "min" = some none) (z9 : PySem.W.nsIn K mainGlobals "range" = some none) (z10 : PySem.W.nsIn K mainGlobals "tuple" = some none) (z11 : PySem.W.nsIn K mainGlobals "zip" = some none) :
    ∃ (fd : FuncData) (o : Obj), K.lookup fa = some o ∧ o.data = .func fd ∧ (∀ (s : Shared) (v : Value), BindsTo s fd ⟨[v], []⟩ [("_law_script", v)]) ∧ ∀ c T : Addr, fd.code = .ref c → PySem.W.CodeHd h c T → K.lookup T = none ∧ ∀ base : Heap, K.In base → base.Ns mainGlobals mg → PySem.W.CodeHd base c T → base.BuiltinsAt mg T → FnOk l.prog w K mg base CX0 110 fa fd ["_law_script"] (LSp K (spLawT T)) := by
  have e := hfa.symm.trans (PySem.W.mg_of X G a19)
  cases e
  have F1 : FunD K "is_whole" "is_whole" (top 5) f1 _ T1 [.int 0 tk1_0] := fun_mkD l1 c1 k1 t1 rfl
  have b1 : Binds K _ ["thing", "least"] [] := F1.binds fun _ _ _ _ _ _ us hl => (fun (q : us.length = 2) => by clear hl; revert us; refine lnS (fun _ => lnS (fun _ => lnZ ?_)); exact ⟨_, rfl, rfl⟩) (by simpa using hl)
  have e1 : Binds K _ ["thing", "least"] [.int 0 tk1_0] := F1.binds fun _ _ _ _ _ _ us hl => (fun (q : us.length = 1) => by clear hl; revert us; refine lnS (fun _ => lnZ ?_); exact ⟨_, rfl, rfl⟩) (by simpa using hl)
  have F2 : FunD K "raised" "raised" (top 6) f2 _ T2 [.int 1 tk2_0] := fun_mkD l2 c2 k2 t2 rfl
  have b2 : Binds K _ ["exponent", "times"] [] := F2.binds fun _ _ _ _ _ _ us hl => (fun (q : us.length = 2) => by clear hl; revert us; refine lnS (fun _ => lnS (fun _ => lnZ ?_)); exact ⟨_, rfl, rfl⟩) (by simpa using hl)
  have e2 : Binds K _ ["exponent", "times"] [.int 1 tk2_0] := F2.binds fun _ _ _ _ _ _ us hl => (fun (q : us.length = 1) => by clear hl; revert us; refine lnS (fun _ => lnZ ?_); exact ⟨_, rfl, rfl⟩) (by simpa using hl)
  have F3 := fun_mk (st := top 7) l3 c3 k3
  have b3 := F3.binds (ps := ["a"]) fun _ _ _ _ _ _ => lnS (fun _ => lnZ rfl)
  have F4 := fun_mk (st := top 8) l4 c4 k4
  have b4 := F4.binds (ps := ["a"]) fun _ _ _ _ _ _ => lnS (fun _ => lnZ rfl)
  have F5 := fun_mk (st := top 10) l5 c5 k5
  have b5 := F5.binds (ps := ["a", "n"]) fun _ _ _ _ _ _ => lnS (fun _ => lnS (fun _ => lnZ rfl))
  have F6 := fun_mk (st := top 11) l6 c6 k6
  have b6 := F6.binds (ps := ["a"]) fun _ _ _ _ _ _ => lnS (fun _ => lnZ rfl)
  have F7 : FunD K "way_down" "way_down" (top 12) f7 _ T7 [.int 20 tk7_0] := fun_mkD l7 c7 k7 t7 rfl
  have b7 : Binds K _ ["a", "rule", "most"] [] := F7.binds fun _ _ _ _ _ _ us hl => (fun (q : us.length = 3) => by clear hl; revert us; refine lnS (fun _ => lnS (fun _ => lnS (fun _ => lnZ ?_))); exact ⟨_, rfl, rfl⟩) (by simpa using hl)
  have e7 : Binds K _ ["a", "rule", "most"] [.int 20 tk7_0] := F7.binds fun _ _ _ _ _ _ us hl => (fun (q : us.length = 2) => by clear hl; revert us; refine lnS (fun _ => lnS (fun _ => lnZ ?_)); exact ⟨_, rfl, rfl⟩) (by simpa using hl)
  have F8 := fun_mk (st := top 14) l8 c8 k8
  have b8 := F8.binds (ps := ["_law_script", "_law_k"]) fun _ _ _ _ _ _ => lnS (fun _ => lnS (fun _ => lnZ rfl))
  have F9 := fun_mk (st := top 15) l9 c9 k9
  have b9 := F9.binds (ps := ["_law_cell", "_law_k"]) fun _ _ _ _ _ _ => lnS (fun _ => lnS (fun _ => lnZ rfl))
  have F10 := fun_mk (st := top 16) l10 c10 k10
  have b10 := F10.binds (ps := ["_law_a", "_law_b"]) fun _ _ _ _ _ _ => lnS (fun _ => lnS (fun _ => lnZ rfl))
  have F11 := fun_mk (st := top 17) l11 c11 k11
  have b11 := F11.binds (ps := ["_law_parts", "_law_part"]) fun _ _ _ _ _ _ => lnS (fun _ => lnS (fun _ => lnZ rfl))
  have F12 := fun_mk (st := top 18) l12 c12 k12
  have b12 := F12.binds (ps := ["_law_number"]) fun _ _ _ _ _ _ => lnS (fun _ => lnZ rfl)
  have F13 := fun_mk (st := top 19) l13 c13 k13
  have b13 := F13.binds (ps := ["_law_cell", "_law_level"]) fun _ _ _ _ _ _ => lnS (fun _ => lnS (fun _ => lnZ rfl))
  have F14 := fun_mk (st := top 20) l14 c14 k14
  have b14 := F14.binds (ps := ["_law_cell"]) fun _ _ _ _ _ _ => lnS (fun _ => lnZ rfl)
  have F15 := fun_mk (st := top 21) l15 c15 k15
  have b15 := F15.binds (ps := ["_law_one", "_law_two"]) fun _ _ _ _ _ _ => lnS (fun _ => lnS (fun _ => lnZ rfl))
  have F16 := fun_mk (st := top 22) l16 c16 k16
  have b16 := F16.binds (ps := ["_law_a", "_law_cell"]) fun _ _ _ _ _ _ => lnS (fun _ => lnS (fun _ => lnZ rfl))
  have F17 := fun_mk (st := top 23) l17 c17 k17
  have b17 := F17.binds (ps := ["_law_a"]) fun _ _ _ _ _ _ => lnS (fun _ => lnZ rfl)
  have F18 := fun_mk (st := top 24) l18 c18 k18
  have b18 := F18.binds (ps := ["_law_a", "_law_most"]) fun _ _ _ _ _ _ => lnS (fun _ => lnS (fun _ => lnZ rfl))
  have F19 := fun_mk (st := top 25) l19 c19 k19
  have T : Txt K mg := ⟨⟨f1, _, T1, _, [.int 0], F1, b1, e1, PySem.W.mg_of X G a1, (.cons ⟨_, rfl⟩ .nil), fun _ => (.cons (.int _) .nil)⟩, ⟨f2, _, T2, _, [.int 1], F2, b2, e2, PySem.W.mg_of X G a2, (.cons ⟨_, rfl⟩ .nil), fun _ => (.cons (.int _) .nil)⟩, ⟨f3, _, F3, b3, PySem.W.mg_of X G a3⟩, ⟨f4, _, F4, b4, PySem.W.mg_of X G a4⟩, ⟨f5, _, F5, b5, PySem.W.mg_of X G a5⟩, ⟨f6, _, F6, b6, PySem.W.mg_of X G a6⟩, ⟨f7, _, T7, _, [.int 20], F7, b7, e7, PySem.W.mg_of X G a7, (.cons ⟨_, rfl⟩ .nil), fun _ => (.cons (.int _) .nil)⟩, ⟨f8, _, F8, b8, PySem.W.mg_of X G a8⟩, ⟨f9, _, F9, b9, PySem.W.mg_of X G a9⟩, ⟨f10, _, F10, b10, PySem.W.mg_of X G a10⟩, ⟨f11, _, F11, b11, PySem.W.mg_of X G a11⟩, ⟨f12, _, F12, b12, PySem.W.mg_of X G a12⟩, ⟨f13, _, F13, b13, PySem.W.mg_of X G a13⟩, ⟨f14, _, F14, b14, PySem.W.mg_of X G a14⟩, ⟨f15, _, F15, b15, PySem.W.mg_of X G a15⟩, ⟨f16, _, F16, b16, PySem.W.mg_of X G a16⟩, ⟨f17, _, F17, b17, PySem.W.mg_of X G a17⟩, ⟨f18, _, F18, b18, PySem.W.mg_of X G a18⟩, PySem.W.mg_none_of X G z1, PySem.W.mg_none_of X G z2, PySem.W.mg_none_of X G z3, PySem.W.mg_none_of X G z4, PySem.W.mg_none_of X G z5, PySem.W.mg_none_of X G z6, PySem.W.mg_none_of X G z7, PySem.W.mg_none_of X G z8, PySem.W.mg_none_of X G z9, PySem.W.mg_none_of X G z10, PySem.W.mg_none_of X G z11⟩
  exact ⟨PySem.W.fnOf "law" "law" (defArgs (top 25)) (defBody (top 25)) (defScope (top 25)) .none kV19 dc19 pm19 an19 (.ref qc) ct19, _, l19, rfl, fun s v => .of_eq rfl, fun c T0 hc hC => by
    obtain rfl := lam_end X ql q11 hc hC
    cases hc
    exact ⟨qn, fun base _ _ hCb hBb => law_ok T F19 rfl hCb hBb (ns_ne a19 qn)⟩⟩
theorem walk {l : PySem.W.OpenLaw} {q : Program} {loose : List Str} {XP : (Str → Option Value) → Heap → Prop} {YP : World → Heap → Prop} {d : DefRec} {K : Params → PySem.W.Frag} (hn : l.most = some 63) (hdf : d.params.defaults = []) (hrec : (recsOf q).find? (fun e => e.name == d.name) = some d)
    (hY : ∀ (w : World) (h : Heap), YP w h → (K w.params).In h)
    (F : ∀ (w : World) (mg : Str → Option Value) (fa : Addr) (h : Heap), (K w.params).In h → h.Ns mainGlobals mg → mg d.name = some (.ref fa) →
      ∃ (fd : FuncData) (o : Obj), (K w.params).lookup fa = some o ∧ o.data = .func fd ∧ (∀ (s : Shared) (u : Value), BindsTo s fd ⟨[u], []⟩ [("_law_script", u)]) ∧ ∀ c T : Addr, fd.code = .ref c → PySem.W.CodeHd h c T → (K w.params).lookup T = none ∧ ∀ base : Heap, (K w.params).In base → base.Ns mainGlobals mg → PySem.W.CodeHd base c T → base.BuiltinsAt mg T → FnOk l.prog w (K w.params) mg base CX0 110 fa fd ["_law_script"] (LSp (K w.params) (spLawT T))) :
    PySem.W.WalkO q loose XP YP l.row.toRowW d [] (fun f vs => PySem.call f vs) :=
  L2.walk_ofT (n := 63) (k := 110) (x := "_law_script") (CX := fun _ => CX0) (sp := fun w T => LSp (K w.params) (spLawT T)) hn (by decide) hdf ⟨rfl, by decide, by decide⟩ hrec hY F (fun _ _ _ _ _ hl hO hS => law_startT hO hS hl) fun _ _ _ _ _ z => z
end Lw
open PySem PySem.W PyProof.Rows
set_option maxRecDepth 100000 in
set_option maxHeartbeats 0 in
theorem PySem.Challenge.cw_hydrahouse_k37_met_on_the_way_holds : PySem.Challenge.rw_hydrahouse_k37_met_on_the_way.Holds := by
  w_on; o_law; k_head; (case hw => w_witness2)
  k_fill
  refine Lw.walk (l := PySem.Challenge.rw_hydrahouse_k37_met_on_the_way) rfl rfl rfl (fun w h Y => PySem.W.km_in_of Y) ?F
  case F =>
    intro w mg fa h KX G hmg
    refine' Lw.all_mk KX G hmg ?ql ?q11 ?qn ?a1 ?l1 ?c1 ?k1 ?a2 ?l2 ?c2 ?k2 ?a3 ?l3 ?c3 ?k3 ?a4 ?l4 ?c4 ?k4 ?a5 ?l5 ?c5 ?k5 ?a6 ?l6 ?c6 ?k6 ?a7 ?l7 ?c7 ?k7 ?a8 ?l8 ?c8 ?k8 ?a9 ?l9 ?c9 ?k9 ?a10 ?l10 ?c10 ?k10 ?a11 ?l11 ?c11 ?k11 ?a12 ?l12 ?c12 ?k12 ?a13 ?l13 ?c13 ?k13 ?a14 ?l14 ?c14 ?k14 ?a15 ?l15 ?c15 ?k15 ?a16 ?l16 ?c16 ?k16 ?a17 ?l17 ?c17 ?k17 ?a18 ?l18 ?c18 ?k18 ?a19 ?l19 ?c19 ?k19 ?t1 ?t2 ?t7 ?z1 ?z2 ?z3 ?z4 ?z5 ?z6 ?z7 ?z8 ?z9 ?z10 ?z11
    (case a1 => k_is)
    (case l1 => k_is)
    (case c1 => k_is)
    (case k1 => k_is)
    (case a2 => k_is)
    (case l2 => k_is)
    (case c2 => k_is)
    (case k2 => k_is)
    (case a3 => k_is)
    (case l3 => k_is)
    (case c3 => k_is)
    (case k3 => k_is)
    (case a4 => k_is)
    (case l4 => k_is)
    (case c4 => k_is)
    (case k4 => k_is)
    (case a5 => k_is)
    (case l5 => k_is)
    (case c5 => k_is)
    (case k5 => k_is)
    (case a6 => k_is)
    (case l6 => k_is)
    (case c6 => k_is)
    (case k6 => k_is)
    (case a7 => k_is)
    (case l7 => k_is)
    (case c7 => k_is)
    (case k7 => k_is)
    (case a8 => k_is)
    (case l8 => k_is)
    (case c8 => k_is)
    (case k8 => k_is)
    (case a9 => k_is)
    (case l9 => k_is)
    (case c9 => k_is)
    (case k9 => k_is)
    (case a10 => k_is)
    (case l10 => k_is)
    (case c10 => k_is)
    (case k10 => k_is)
    (case a11 => k_is)
    (case l11 => k_is)
    (case c11 => k_is)
    (case k11 => k_is)
    (case a12 => k_is)
    (case l12 => k_is)
    (case c12 => k_is)
    (case k12 => k_is)
    (case a13 => k_is)
    (case l13 => k_is)
    (case c13 => k_is)
    (case k13 => k_is)
    (case a14 => k_is)
    (case l14 => k_is)
    (case c14 => k_is)
    (case k14 => k_is)
    (case a15 => k_is)
    (case l15 => k_is)
    (case c15 => k_is)
    (case k15 => k_is)
    (case a16 => k_is)
    (case l16 => k_is)
    (case c16 => k_is)
    (case k16 => k_is)
    (case a17 => k_is)
    (case l17 => k_is)
    (case c17 => k_is)
    (case k17 => k_is)
    (case a18 => k_is)
    (case l18 => k_is)
    (case c18 => k_is)
    (case k18 => k_is)
    (case a19 => k_is)
    (case l19 => k_is)
    (case c19 => k_is)
    (case k19 => k_is)
    (case t1 => k_is)
    (case t2 => k_is)
    (case t7 => k_is)
    (case z1 => k_is)
    (case z2 => k_is)
    (case z3 => k_is)
    (case z4 => k_is)
    (case z5 => k_is)
    (case z6 => k_is)
    (case z7 => k_is)
    (case z8 => k_is)
    (case z9 => k_is)
    (case z10 => k_is)
    (case z11 => k_is)
    (case ql => k_is)
    (case q11 => rfl)
    (case qn => first | k_is | rfl)
