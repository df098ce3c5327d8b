import PyProof.Rows.All
import Wide.All
import OpenK.AllK
import Wide.FinOn
import KE.KEqDict
import KE.KPairComp
import KE.KDictList
import KE.KRevSl
import PyProof.Rows.SetFrom
import PySem.Challenge.RW_hydrahouse_k67_ranks_or_ring
set_option bootstrap.genMatcherCode false
-- CHANGE: your row's module here, as the last of these rows
set_option Elab.async false
set_option linter.all false
set_option maxRecDepth 100000
/-! THE HAND LAYER, for ints, bools, texts, own classes, LISTS and tuples (index, slices, in, append, pop ..), calls, loops. Paste it whole ahead of your own text; what your proof does not reach may be deleted. -/
namespace L2
open PySem PySem.Spec PyProof.Rows
noncomputable abbrev Key := Sum Int Str
noncomputable def keyIs : Key → Value → Bool
  | .inl k, v => Value.isInt k v
  | .inr x, v => Value.isStrOf x v
noncomputable def keyH (w : World) : Key → Int
  | .inl k => hashInt k
  | .inr x => hashStr w x
theorem keyIs_shape : ∀ {k : Key} {v : Value}, keyIs k v = true → (∃ i t, k = Sum.inl i ∧ v = Value.int i t) ∨ (∃ x t, k = Sum.inr x ∧ v = Value.str x t)
  | .inl i, v, h => by
    obtain ⟨t, e⟩ := Value.isInt_shape (k := i) (v := v) h
    exact .inl ⟨i, t, rfl, e⟩
  | .inr x, v, h => by
    obtain ⟨t, e⟩ := Value.isStrOf_shape (x := x) (v := v) h
    exact .inr ⟨x, t, rfl, e⟩
theorem keyIs_int (i : Int) (t : Tok) : keyIs (.inl i) (.int i t) = true := by simp [keyIs, Value.isInt]
theorem keyIs_str (x : Str) (t : Tok) : keyIs (.inr x) (.str x t) = true := by simp [keyIs, Value.isStrOf]
theorem key_ll (a b : Int) : decide ((Sum.inl a : Key) = Sum.inl b) = (a == b) := by
  by_cases e : a = b
  · subst e; simp
  · have h : ¬ (Sum.inl a : Key) = Sum.inl b := fun q => e (Sum.inl.inj q)
    rw [decide_eq_false h]
    exact (beq_eq_false_iff_ne.mpr e).symm
theorem key_rr (a b : Str) : decide ((Sum.inr a : Key) = Sum.inr b) = decide (a = b) := by
  by_cases e : a = b
  · subst e; simp
  · have h : ¬ (Sum.inr a : Key) = Sum.inr b := fun q => e (Sum.inr.inj q)
    rw [decide_eq_false h, decide_eq_false e]
theorem key_lr (a : Int) (b : Str) : decide ((Sum.inl a : Key) = Sum.inr b) = false := decide_eq_false (fun q => nomatch q)
theorem key_rl (a : Str) (b : Int) : decide ((Sum.inr a : Key) = Sum.inl b) = false := decide_eq_false (fun q => nomatch q)
noncomputable def mixKind (prog : Program) (w : World) : PySem.KeyKind prog w Key where
  is := keyIs
  hash := keyH w
  inj := fun v a b ha hb => by
    rcases keyIs_shape ha with ⟨i, t, rfl, rfl⟩ | ⟨x, t, rfl, rfl⟩
    · rcases keyIs_shape hb with ⟨j, u, rfl, e⟩ | ⟨y, u, rfl, e⟩
      · injection e with e1 _; rw [e1]
      · exact nomatch e
    · rcases keyIs_shape hb with ⟨j, u, rfl, e⟩ | ⟨y, u, rfl, e⟩
      · exact nomatch e
      · injection e with e1 _; rw [e1]
  byValue := fun k v h => by
    rcases keyIs_shape h with ⟨i, t, rfl, rfl⟩ | ⟨x, t, rfl, rfl⟩ <;> rfl
  pyHash := fun hv h => by
    rcases keyIs_shape hv with ⟨i, t, rfl, rfl⟩ | ⟨x, t, rfl, rfl⟩
    · exact wpAny_pyHash_int h
    · exact wpAny_pyHash_str h
  eqBool := fun hu hv h => by
    rcases keyIs_shape hu with ⟨i, t, rfl, rfl⟩ | ⟨x, t, rfl, rfl⟩
    · rcases keyIs_shape hv with ⟨j, u, rfl, rfl⟩ | ⟨y, u, rfl, rfl⟩
      · rw [key_ll] at h; exact wpAny_eqBool_int h
      · rw [key_lr] at h; exact SeqAt.EqAt.int_str i t y u _ _ _ _ h
    · rcases keyIs_shape hv with ⟨j, u, rfl, rfl⟩ | ⟨y, u, rfl, rfl⟩
      · rw [key_rl] at h; exact SeqAt.EqAt.str_int x t j u _ _ _ _ h
      · rw [key_rr] at h; exact wpAny_eqBool_str h
  «strs» := fun k x t v h => by
    rcases keyIs_shape h with ⟨i, u, rfl, e⟩ | ⟨y, u, rfl, e⟩
    · exact nomatch e
    · injection e with e1 _
      subst e1
      cases v <;> rfl
theorem mixKind_int (prog : Program) (w : World) (i : Int) (t : Tok) : (mixKind prog w).is (.inl i) (.int i t) = true := keyIs_int i t
theorem mixKind_str (prog : Program) (w : World) (x : Str) (t : Tok) : (mixKind prog w).is (.inr x) (.str x t) = true := keyIs_str x t
end L2
namespace L2
open PySem PySem.Spec PyProof.Rows
inductive V where
  | non | bl (b : Bool) | int (i : Int) | str (x : Str) | byt (b : Array UInt8) | flt (b : UInt64) | ref (a : Addr) | ty (n : String)
  deriving DecidableEq
noncomputable def RelV : V → Value → Prop
  | .non, u => u = Value.none
  | .bl b, u => u = Value.bool b
  | .int i, u => ∃ t, u = Value.int i t
  | .str x, u => ∃ t, u = Value.str x t
  | .byt b, u => ∃ t, u = Value.bytes b t
  | .flt b, u => ∃ t, u = Value.float b t
  | .ref a, u => u = Value.ref a
  | .ty n, u => u = Value.type n
noncomputable abbrev Vals : List V → List Value → Prop := Paired RelV
theorem Vals.length {xs : List V} {us : List Value} (r : Vals xs us) : xs.length = us.length := Paired.length r
theorem Vals.get : ∀ {xs : List V} {us : List Value} {i : Nat} {x : V}, Vals xs us → xs[i]? = some x → ∃ u, us[i]? = some u ∧ RelV x u
  | _, _, _, _, .nil, e => by simp at e
  | _, _, 0, _, .cons r _, e => by simp at e; subst e; exact ⟨_, rfl, r⟩
  | _, _, i + 1, x, .cons _ t, e => by
    obtain ⟨u, h1, h2⟩ := Vals.get (i := i) (x := x) t (by simpa using e)
    exact ⟨u, by simpa using h1, h2⟩
theorem Vals.append : ∀ {xs ys : List V} {us ws : List Value}, Vals xs us → Vals ys ws → Vals (xs ++ ys) (us ++ ws)
  | _, _, _, _, .nil, s => s
  | _, _, _, _, .cons r t, s => .cons r (Vals.append t s)
theorem Vals.take : ∀ {xs : List V} {us : List Value} (n : Nat), Vals xs us → Vals (xs.take n) (us.take n)
  | _, _, 0, _ => .nil
  | _, _, _ + 1, .nil => .nil
  | _, _, n + 1, .cons r t => .cons r (Vals.take n t)
theorem Vals.drop : ∀ {xs : List V} {us : List Value} (n : Nat), Vals xs us → Vals (xs.drop n) (us.drop n)
  | _, _, 0, r => r
  | _, _, _ + 1, .nil => .nil
  | _, _, n + 1, .cons _ t => Vals.drop n t
noncomputable def RelO : Option V → Option Value → Prop
  | some v, some u => RelV v u
  | none, none => True
  | _, _ => False
noncomputable def KV {κ : Type} : List (κ × V) → List (κ × Value) → Prop := Paired fun (p : κ × V) (q : κ × Value) => p.1 = q.1 ∧ RelV p.2 q.2
noncomputable def kV : Key → V
  | .inl i => .int i
  | .inr x => .str x
inductive HO where
  | lst (xs : List V)
  | tup (xs : List V)
  | dK (kvs : List (Key × V)) | dT (kvs : List (List Key × V))
  | set (S : Int → Bool) (n : Nat)
  | ins (C dx : Addr) (fs : List (Str × V))
  | own (x : Addr)
  | xd (fs : List (Str × V))
  | met (f x : Addr)
  | rng (lo hi : Int)
  | frz (o : Obj) (u : HO)
  | tbl (ps : Array Value)
  | ext (φ : Heap → Prop)
noncomputable abbrev Hp := Addr → Option HO
noncomputable def upd (H : Hp) (a : Addr) (o : HO) : Hp := fun b => if b = a then some o else H b
theorem upd_same {H : Hp} {a : Addr} {o : HO} : upd H a o a = some o := by unfold upd; rw [if_pos rfl]
theorem upd_ne {H : Hp} {a b : Addr} {o : HO} (h : b ≠ a) : upd H a o b = H b := by unfold upd; rw [if_neg h]
theorem ne_of {H : Hp} {a b : Addr} {o u : HO} (h : H a = some o) (h' : H b = some u) (d : o ≠ u) : a ≠ b := by
  intro e; subst e; rw [h] at h'; exact d (Option.some.inj h')
theorem ne_of_none {H : Hp} {a b : Addr} {o : HO} (h : H a = some o) (h' : H b = none) : a ≠ b := by
  intro e; subst e; rw [h] at h'; cases h'
section
variable (P : Program) (w : World)
noncomputable def ObjOk (H : Hp) (h : Heap) (a : Addr) : HO → Prop
  | .lst xs => xs.length ≤ sizeLine ∧ ∃ (its : List Value) (n : Nat), Vals xs its ∧ h.get? a = some { cls := .type "list", data := .seq its.toArray n }
  | .tup xs => xs.length ≤ sizeLine ∧ ∃ its : List Value, Vals xs its ∧ IsTup h a its.toArray
  | .dK kvs => kvs.length ≤ sizeLine ∧ (a == sysModules) = false ∧ ∃ vs, KV kvs vs ∧ h.DictOf (mixKind P w) a vs
  | .dT kvs => kvs.length ≤ sizeLine ∧ (a == sysModules) = false ∧ ∃ xs : List (List Key × Addr × Value),
      Paired (fun (p : List Key × V) (q : List Key × Addr × Value) => p.1 = q.1 ∧ H q.2.1 = some (.tup (p.1.map kV)) ∧ RelV p.2 q.2.2) kvs xs ∧
      ∃ o es ep, h.get? a = some o ∧ o.ExactDict ∧ o.data = .dict es ep ∧ es.toList = xs.map (entryOfKey (tupleKind (mixKind P w))) ∧ (xs.map (·.1)).Nodup
  | .set S n => h.SetOf (intKind P w) a S n
  | .ins C dx fs => H dx = some (.own a) ∧ fs.length ≤ 1000 ∧ dx ≠ a ∧ h.get? a = some (PySem.W.instObj C dx) ∧
      ∃ mA, h.Ns1 dx mA ∧ (∀ f, RelO (fs.lookup f) (mA f)) ∧ PySem.Within mA (fs.map (·.1))
  | .own _ => ∃ o, h.get? a = some o
  | .xd fs => ∃ mA, h.Ns1 a mA ∧ ∀ f, RelO (fs.lookup f) (mA f)
  | .rng lo hi => ∃ t u v, h.get? a = some { cls := .type "range", data := .fields #[.int lo t, .int hi u, .int 1 v] }
  | .frz o u => h.get? a = some o ∧ ObjOk H h a u
  | .tbl ps => h.get? a = some { cls := .none, data := .fields ps }
  | .met f x => h.get? a = some (PySem.W.methodObj (.ref f) (.ref x))
  | .ext φ => φ h ∧ (∃ o, h.get? a = some o) ∧ ∀ h1 h2 : Heap, φ h1 → (∀ o, h1.get? a = some o → h2.get? a = some o) → φ h2
noncomputable def HOk (H : Hp) (h : Heap) : Prop := ∀ a o, H a = some o → ObjOk P w H h a o
end
section
variable {P : Program} {w : World} {H H' : Hp} {h h' : Heap} {a : Addr} {o : HO}
theorem ObjOk.lt (x : ObjOk P w H h a o) : a < h.objs.size := by
  cases o with
  | lst xs => obtain ⟨_, _, _, _, e⟩ := x; exact Heap.lt_size e
  | tup xs => obtain ⟨_, _, _, p⟩ := x; exact p.lt
  | dK kvs => obtain ⟨_, _, _, _, o, _, _, e, _⟩ := x; exact Heap.lt_size e
  | dT kvs => obtain ⟨_, _, _, _, o, _, _, e, _⟩ := x; exact Heap.lt_size e
  | set S n => obtain ⟨o, _, _, _, e, _⟩ := x; exact Heap.lt_size e
  | ins C dx fs => obtain ⟨_, _, _, e, _⟩ := x; exact Heap.lt_size e
  | own y => obtain ⟨_, e⟩ := x; exact Heap.lt_size e
  | xd fs => obtain ⟨_, ⟨_, _, _, e, _⟩, _⟩ := x; exact Heap.lt_size e
  | rng lo hi => obtain ⟨_, _, _, e⟩ := x; exact Heap.lt_size e
  | frz ob u => obtain ⟨e, _⟩ := x; exact Heap.lt_size e
  | tbl ps => exact Heap.lt_size (show h.get? a = some _ from x)
  | met f y => exact Heap.lt_size (show h.get? a = some _ from x)
  | ext φ => obtain ⟨_, ⟨_, e⟩, _⟩ := x; exact Heap.lt_size e
theorem Paired.mapP {α β : Type} {F G : α → β → Prop} : ∀ {l₁ : List α} {l₂ : List β}, Paired F l₁ l₂ → (∀ a b, F a b → G a b) → Paired G l₁ l₂
  | _, _, .nil, _ => .nil
  | _, _, .cons r t, f => .cons (f _ _ r) (Paired.mapP t f)
theorem ObjOk.stay (x : ObjOk P w H h a o) (k : ∀ b u, (b = a ∨ H b = some (.own a)) → h.get? b = some u → h'.get? b = some u)
    (ho : ∀ b, H b = some (.own a) → H' b = some (.own a)) (ht : ∀ b xs, H b = some (.tup xs) → H' b = some (.tup xs)) : ObjOk P w H' h' a o := by
  induction o with
  | lst xs => obtain ⟨z, its, n, r, e⟩ := x; exact ⟨z, its, n, r, k _ _ (.inl rfl) e⟩
  | tup xs => obtain ⟨z, its, r, ob, e, c⟩ := x; exact ⟨z, its, r, ob, k _ _ (.inl rfl) e, c⟩
  | dK kvs => obtain ⟨z, y, vs, r, ob, es, ep, e, c⟩ := x; exact ⟨z, y, vs, r, ob, es, ep, k _ _ (.inl rfl) e, c⟩
  | dT kvs =>
    obtain ⟨z, y, xs, r, ob, es, ep, e, c⟩ := x
    exact ⟨z, y, xs, Paired.mapP r fun p q z => ⟨z.1, ht _ _ z.2.1, z.2.2⟩, ob, es, ep, k _ _ (.inl rfl) e, c⟩
  | set S n => obtain ⟨ob, es, ep, t, e, c⟩ := x; exact ⟨ob, es, ep, t, k _ _ (.inl rfl) e, c⟩
  | ins C dx fs =>
    obtain ⟨d, z, ne, e, mA, ⟨od, es, ep, e2, c⟩, r⟩ := x
    exact ⟨ho _ d, z, ne, k _ _ (.inl rfl) e, mA, ⟨od, es, ep, k _ _ (.inr d) e2, c⟩, r⟩
  | own y => obtain ⟨ob, e⟩ := x; exact ⟨ob, k _ _ (.inl rfl) e⟩
  | xd fs => obtain ⟨mA, ⟨od, es, ep, e, c⟩, r⟩ := x; exact ⟨mA, ⟨od, es, ep, k _ _ (.inl rfl) e, c⟩, r⟩
  | rng lo hi => obtain ⟨t, u, v, e⟩ := x; exact ⟨t, u, v, k _ _ (.inl rfl) e⟩
  | frz ob u ih => obtain ⟨e, q⟩ := x; exact ⟨k _ _ (.inl rfl) e, ih q⟩
  | tbl ps =>
    have e : h.get? a = some { cls := .none, data := .fields ps } := x
    show h'.get? a = some { cls := .none, data := .fields ps }
    exact k a _ (.inl rfl) e
  | met f y =>
    have e : h.get? a = some (PySem.W.methodObj (.ref f) (.ref y)) := x
    show h'.get? a = some (PySem.W.methodObj (.ref f) (.ref y))
    exact k a _ (.inl rfl) e
  | ext φ => obtain ⟨p, ⟨o, e⟩, st⟩ := x; exact ⟨st _ _ p fun o q => k _ _ (.inl rfl) q, ⟨o, k _ _ (.inl rfl) e⟩, st⟩
theorem HOk.lt (x : HOk P w H h) (e : H a = some o) : a < h.objs.size := (x a o e).lt
theorem HOk.fresh (x : HOk P w H h) (e : h.objs.size ≤ a) : H a = none := by
  cases q : H a with
  | none => rfl
  | some u => exact absurd (Nat.lt_of_lt_of_le (x.lt q) e) (Nat.lt_irrefl _)
theorem HOk.kept (x : HOk P w H h) (k : ∀ b u, h.get? b = some u → h'.get? b = some u) : HOk P w H h' := fun a o e =>
  (x a o e).stay (fun b u _ q => k b u q) (fun _ q => q) fun _ _ q => q
theorem HOk.laid (x : HOk P w H h) (k : ∀ b u, h.get? b = some u → h'.get? b = some u) (hp : h.objs.size ≤ a) (new : ObjOk P w (upd H a o) h' a o) : HOk P w (upd H a o) h' := fun b u e => by
  have hn := x.fresh hp
  by_cases hb : b = a
  · subst hb; rw [upd_same] at e; cases e; exact new
  · rw [upd_ne hb] at e
    exact (x b u e).stay (fun c v _ q => k c v q) (fun c q => by rw [upd_ne (ne_of_none q hn)]; exact q) fun c xs q => by rw [upd_ne (ne_of_none q hn)]; exact q
end
noncomputable def Rd (H : Hp) (a : Addr) (u : HO) : Prop := H a = some u ∨ ∃ o, H a = some (.frz o u)
theorem Rd.ok {P : Program} {w : World} {H : Hp} {h : Heap} {a : Addr} {u : HO} (r : Rd H a u) (x : HOk P w H h) : ObjOk P w H h a u := by
  rcases r with r | ⟨o, r⟩
  · exact x a u r
  · obtain ⟨_, q⟩ := x a _ r
    exact q
noncomputable def Mut : Option HO → Prop
  | some (.lst _) => True
  | some (.dK _) => True
  | some (.dT _) => True
  | some (.set _ _) => True
  | some (.ins _ _ _) => True
  | some (.ext _) => True
  | _ => False
section
variable {P : Program} {w : World} {H : Hp} {h h' : Heap} {x e : Addr} {o' : HO}
theorem HOk.write (ok : HOk P w H h) (mu : Mut (H x)) (he : e = x ∨ H e = some (.own x)) (k : ∀ b u, b ≠ e → h.get? b = some u → h'.get? b = some u) (heo : ∃ u, h'.get? e = some u)
    (new : ObjOk P w (upd H x o') h' x o') : HOk P w (upd H x o') h' := fun b u q => by
  have nown : ∀ c y, H c = some (.own y) → c ≠ x := fun c y r z => by subst z; rw [r] at mu; exact mu
  have ntup : ∀ c xs, H c = some (.tup xs) → c ≠ x := fun c xs r z => by subst z; rw [r] at mu; exact mu
  by_cases hb : b = x
  · subst hb; rw [upd_same] at q; cases q; exact new
  · rw [upd_ne hb] at q
    by_cases hbe : b = e
    · have q' : H b = some (.own x) := by
        rcases he with z | z
        · exact absurd (hbe.trans z) hb
        · rw [hbe]; exact z
      rw [q] at q'; cases q'
      obtain ⟨v, hv⟩ := heo
      exact ⟨v, by rw [hbe]; exact hv⟩
    · refine (ok b u q).stay (fun c v hc r => k c v ?_ r) (fun c r => by rw [upd_ne (nown c b r)]; exact r) fun c xs r => by rw [upd_ne (ntup c xs r)]; exact r
      rcases hc with rfl | hc
      · exact hbe
      · rintro rfl
        rcases he with z | z
        · exact nown c b hc z
        · rw [hc] at z; cases z; exact hb rfl
end
structure Un (fs ex : List Addr) (H H' : Hp) (h h' : Heap) : Prop where
  keep : ∀ b o, h.get? b = some o → H b = none → b ∉ fs → b ∉ ex → h'.get? b = some o
  slot : ∀ b o, h.get? b = some o → H b = none → b ∈ fs → b ∉ ex → ∃ sl, h'.get? b = some { o with slots := sl }
  free : ∀ b o, h.get? b = some o → H b = none → b ∉ ex → H' b = none
  there : ∀ b o, h.get? b = some o → b ∉ ex → ∃ o', h'.get? b = some o'
  tups : ∀ b xs, H b = some (.tup xs) → H' b = some (.tup xs)
  frzs : ∀ b o u, H b = some (.frz o u) → H' b = some (.frz o u)
  tbls : ∀ b ps, H b = some (.tbl ps) → ∃ more, H' b = some (.tbl (ps ++ more))
section
variable {fs fs' ex ex' : List Addr} {H H1 H2 : Hp} {h h1 h2 h' : Heap} {a x e : Addr} {o : HO}
theorem Un.any (u : Un fs ex H H1 h h1) {b : Addr} {ob : Obj} (q : h.get? b = some ob) (n : H b = none) (hx : b ∉ ex) : ∃ sl, h1.get? b = some { ob with slots := sl } := by
  by_cases hb : b ∈ fs
  · exact u.slot b ob q n hb hx
  · exact ⟨ob.slots, u.keep b ob q n hb hx⟩
theorem Un.kept (k : ∀ b u, h.get? b = some u → h'.get? b = some u) : Un fs ex H H h h' :=
  ⟨fun b ob q _ _ _ => k b ob q, fun b ob q _ _ _ => ⟨ob.slots, k b ob q⟩, fun _ _ _ n _ => n, fun b ob q _ => ⟨ob, k b ob q⟩, fun _ _ q => q, fun _ _ _ q => q, fun _ ps q => ⟨#[], by rw [q]; simp⟩⟩
theorem Un.refl : Un fs ex H H h h := Un.kept fun _ _ q => q
theorem Un.laid (k : ∀ b u, h.get? b = some u → h'.get? b = some u) (hp : h.objs.size ≤ a) (hn : H a = none) : Un fs ex H (upd H a o) h h' where
  keep := fun b u q _ _ _ => k b u q
  slot := fun b u q _ _ _ => ⟨u.slots, k b u q⟩
  free := fun b u q n _ => by rw [upd_ne (Nat.ne_of_lt (Nat.lt_of_lt_of_le (Heap.lt_size q) hp))]; exact n
  there := fun b u q _ => ⟨u, k b u q⟩
  tups := fun b xs q => by rw [upd_ne (ne_of_none q hn)]; exact q
  frzs := fun b u xs q => by rw [upd_ne (ne_of_none q hn)]; exact q
  tbls := fun b ps q => ⟨#[], by rw [upd_ne (ne_of_none q hn), q]; simp⟩
theorem Un.write (mu : Mut (H x)) (he : e = x ∨ H e = some (.own x)) (k : ∀ b u, b ≠ e → h.get? b = some u → h'.get? b = some u) (heo : ∃ u, h'.get? e = some u) : Un fs ex H (upd H x o) h h' := by
  have hx : ∀ b, H b = none → b ≠ x := fun b n z => by subst z; rw [n] at mu; exact mu
  have hb : ∀ b, H b = none → b ≠ e := fun b n z => by
    subst z
    rcases he with r | r
    · exact hx b n r
    · rw [n] at r; cases r
  have hm : ∀ b u, H b = some u → ¬ Mut (some u) → b ≠ x := fun b u q nm z => by subst z; rw [q] at mu; exact nm mu
  refine ⟨fun b u q n _ _ => k b u (hb b n) q, fun b u q n _ _ => ⟨u.slots, k b u (hb b n) q⟩, fun b u q n _ => by rw [upd_ne (hx b n)]; exact n, fun b u q _ => ?_,
    fun b xs q => by rw [upd_ne (hm b _ q fun z => z)]; exact q, fun b u xs q => by rw [upd_ne (hm b _ q fun z => z)]; exact q, fun b ps q => ⟨#[], by rw [upd_ne (hm b _ q fun z => z), q]; simp⟩⟩
  by_cases hbe : b = e
  · subst hbe; exact heo
  · exact ⟨u, k b u hbe q⟩
end
noncomputable def trk (h : Heap) (H : Hp) : List Addr := (List.range h.objs.size).filter fun a => (H a).isSome
noncomputable def hidT (h : Heap) (H : Hp) : Heap := PySem.W.hideAll h (trk h H)
theorem hidT_size (h : Heap) (H : Hp) : (hidT h H).objs.size = h.objs.size := PySem.W.hideAll_size _ _
theorem hidT_get {h : Heap} {H : Hp} {b : Addr} {o : Obj} (e : h.get? b = some o) (n : H b = none) : (hidT h H).get? b = some o :=
  PySem.W.hideAll_get _ e fun hm => by
    have q : (H b).isSome = true := (List.mem_filter.mp hm).2
    rw [n] at q; simp at q
theorem of_hidT {h : Heap} {H : Hp} {b : Addr} {o : Obj} (e : (hidT h H).get? b = some o) : h.get? b = some o ∧ H b = none := by
  have e' : h.get? b = some o := PySem.W.of_hideAll (trk h H) e
  refine ⟨e', ?_⟩
  cases q : H b with
  | none => rfl
  | some x =>
    have hm : b ∈ trk h H := List.mem_filter.mpr ⟨List.mem_range.mpr (Heap.lt_size e'), by simp [q]⟩
    have z : (hidT h H).get? b = none := PySem.W.hideAll_none (trk h H) hm
    rw [z] at e; cases e
noncomputable def allNews (g h : Heap) (L : Addr) : List (Addr × Obj) := (List.range h.objs.size).filterMap fun a => if a = L ∨ (g.get? a).isSome = true then none else (h.get? a).map fun o => (a, o)
noncomputable def rest (g h : Heap) (L d : Addr) : List (Addr × Obj) := (allNews g h L).filter fun p => decide (p.1 ≠ d)
end L2
namespace L2
open PySem PySem.Spec PyProof.Rows
structure Mod (K : PySem.W.Frag) (mg : Str → Option Value) (base : Heap) : Prop where
  kin : K.In base
  glob : base.Ns mainGlobals mg
  blt : ∃ mb, base.Ns builtinsNs mb ∧ ∀ x : Str, x ≠ "__name__" → mb x = bootBuiltins x
  nolimit : base.NoLimit
structure Cx where
  prog : Program
  w : World
  K : PySem.W.Frag
  mg : Str → Option Value
  base : Heap
  A : Around
  N : List Str
  s₀ : Shared
  H₀ : Hp
  env : Env
  outer : List Env
  stack : List Env
  ex : List Addr
  fn : Str → Bool
  calm : Bool
  pn : List (Addr × Obj)
  xe : Value → Shared → Prop
noncomputable def frs (l : List Env) : List Addr := l.filterMap (·.frame)
noncomputable abbrev Cx.fs (X : Cx) : List Addr := frs X.outer
noncomputable def Vis (sc : Scope) (x : Str) : Prop := sc.names.lookup x = some .local ∨ sc.names.lookup x = some .cell ∨ sc.names.lookup x = some .free
noncomputable def Loc (sc : Scope) (x : Str) : Prop := sc.names.lookup x = some .local ∨ sc.names.lookup x = some .cell
noncomputable def Look (env : Env) (h : Heap) (m : Str → Option Value) (x : Str) (u : Value) : Prop :=
  (env.kindOf x = some .local ∧ m x = some u) ∨ ((env.kindOf x = some .cell ∨ env.kindOf x = some .free) ∧ ∃ c, env.cells.lookup x = some c ∧ h.IsCell c (some u))
structure Cx.Ok (X : Cx) : Prop where
  mod : Mod X.K X.mg X.base
  kind : X.env.scope.kind = .function
  glob : X.env.globals = mainGlobals
  blt : X.env.builtins = builtinsNs
  above : X.s₀.heap.objs.size ≤ X.env.locals
  inj : ∀ x y c, X.env.cells.lookup x = some c → X.env.cells.lookup y = some c → x = y
  has : ∀ x, (X.env.kindOf x = some .cell ∨ X.env.kindOf x = some .free) → ∃ c, X.env.cells.lookup x = some c
  cab : ∀ x c, X.fn x = true → X.env.cells.lookup x = some c → X.s₀.heap.objs.size ≤ c
  hd : X.calm = true → X.A.handled = none
  frames : X.A.frames = some X.stack
  stk : X.stack = X.outer ∨ (X.stack = X.env :: X.outer ∧ X.env.frame = some X.env.locals)
  exf : ∀ b ∈ X.ex, b ≠ X.env.locals ∧ ∀ x c, X.env.cells.lookup x = some c → c ≠ b
  bs : ∀ b o, X.base.get? b = some o → X.s₀.heap.get? b = some o ∧ X.H₀ b = none
  bsz : X.base.objs.size ≤ X.s₀.heap.objs.size
  noex : ∀ b o, X.base.get? b = some o → b ∉ X.ex
  exfs : ∀ b ∈ X.ex, b ∉ X.fs
  funs : X.s₀.heap.FunFrames X.base X.outer
  frf : ∀ b ∈ X.fs, X.H₀ b = none
structure Inv (X : Cx) (pins : List (Addr × Obj)) (σ : List (Option V)) (H : Hp) (s : Shared) : Prop where
  ok : X.Ok
  os : s.os = X.s₀.os
  bare : AllBare s.gens
  base : Un X.fs X.ex X.H₀ H X.s₀.heap s.heap
  loc : ∃ m, s.heap.Ns X.env.locals m ∧ ∀ (i : Nat) (x : Str) (v : V), X.N[i]? = some x → σ[i]? = some (some v) → Vis X.env.scope x → ∃ u, RelV v u ∧ Look X.env s.heap m x u
  cell : ∀ x c, X.env.cells.lookup x = some c → ∃ v, s.heap.IsCell c v
  free : H X.env.locals = none
  freeC : ∀ x c, X.env.cells.lookup x = some c → H c = none
  pin : ∀ p ∈ X.pn ++ pins, s.heap.get? p.1 = some p.2 ∧ H p.1 = none ∧ p.1 ≠ X.env.locals ∧ p.1 ∉ X.fs ∧ ∀ v, p.2.data ≠ .cell v
  hok : HOk X.prog X.w H s.heap
  len : σ.length = X.N.length
section
variable {X : Cx} {pins : List (Addr × Obj)} {σ : List (Option V)} {H H' : Hp} {s : Shared} {h' : Heap}
theorem Cx.Ok.nofr (ok : X.Ok) {b : Addr} {o : Obj} (e : X.base.get? b = some o) : b ∉ X.fs := fun hb => by
  have := (ok.funs.mem hb).1
  rw [e] at this; cases this
theorem Inv.bs (I : Inv X pins σ H s) : ∀ b o, X.base.get? b = some o → s.heap.get? b = some o ∧ H b = none := fun b o e =>
  ⟨I.base.keep b o (I.ok.bs b o e).1 (I.ok.bs b o e).2 (I.ok.nofr e) (I.ok.noex b o e), I.base.free b o (I.ok.bs b o e).1 (I.ok.bs b o e).2 (I.ok.noex b o e)⟩
theorem Inv.bk (I : Inv X pins σ H s) : ∀ b o, X.base.get? b = some o → s.heap.get? b = some o := fun b o e => (I.bs b o e).1
theorem Inv.mod (I : Inv X pins σ H s) : Mod X.K X.mg X.base := I.ok.mod
theorem Inv.kIn (I : Inv X pins σ H s) : X.K.In s.heap := I.ok.mod.kin.keeps I.bk
theorem Inv.lt (I : Inv X pins σ H s) : X.env.locals < s.heap.objs.size := let ⟨_, hn, _⟩ := I.loc; hn.lt
theorem Inv.sz (I : Inv X pins σ H s) : X.s₀.heap.objs.size ≤ s.heap.objs.size := Nat.le_trans I.ok.above (Nat.le_of_lt I.lt)
theorem Inv.nofs (I : Inv X pins σ H s) {a : Addr} (h : s.heap.objs.size ≤ a) : a ∉ X.fs := fun hb => by
  obtain ⟨_, o, ho, _⟩ := I.ok.funs.mem hb
  exact absurd (Nat.lt_of_lt_of_le (Heap.lt_size ho) (Nat.le_trans I.sz h)) (Nat.lt_irrefl _)
theorem Inv.cne (I : Inv X pins σ H s) : ∀ x c, X.env.cells.lookup x = some c → c ≠ X.env.locals := fun x c e z => by
  obtain ⟨v, o, ho, hd⟩ := I.cell x c e
  obtain ⟨m, ⟨o', es, ep, ho', hd', _⟩, _⟩ := I.loc
  rw [z, ho'] at ho; cases ho; rw [hd'] at hd; cases hd
theorem Inv.funs (I : Inv X pins σ H s) : s.heap.FunFrames X.base X.outer := by
  have all : ∀ (l : List Env), (∀ b ∈ frs l, b ∈ X.fs) → X.s₀.heap.FunFrames X.base l → s.heap.FunFrames X.base l := by
    intro l
    induction l with
    | nil => intro _ _; trivial
    | cons env r ih =>
      intro hs hl
      obtain ⟨hk, ⟨L, o, hf, hn, ho, hd⟩, hr⟩ := hl
      have hL : L ∈ X.fs := hs L (by unfold frs; rw [List.filterMap_cons, hf]; exact List.mem_cons_self)
      obtain ⟨sl, e⟩ := I.base.slot L o ho (I.ok.frf L hL) hL fun z => I.ok.exfs L z hL
      exact ⟨hk, ⟨L, _, hf, hn, e, hd⟩, ih (fun b hb => hs b (by unfold frs; rw [List.filterMap_cons, hf]; exact List.mem_cons_of_mem _ hb)) hr⟩
  exact all X.outer (fun _ hb => hb) I.ok.funs
theorem Inv.stack (I : Inv X pins σ H s) : s.heap.FunFrames X.base X.stack := by
  rcases I.ok.stk with e | ⟨e, hf⟩
  · rw [e]; exact I.funs
  · rw [e]
    obtain ⟨m, hn, _⟩ := I.loc
    refine .cons (by rw [I.ok.kind]; decide) hf hn ?_ I.funs
    exact Heap.get?_none_of_le (Nat.le_trans I.ok.bsz I.ok.above)
theorem Inv.stkSub (I : Inv X pins σ H s) : ∀ b ∈ frs X.stack, b ∈ X.env.locals :: X.fs := fun b hb => by
  rcases I.ok.stk with e | ⟨e, hf⟩
  · rw [e] at hb; exact List.mem_cons_of_mem _ hb
  · rw [e] at hb
    unfold frs at hb
    rw [List.filterMap_cons, hf] at hb
    exact hb
theorem Inv.stkFree (I : Inv X pins σ H s) : ∀ b ∈ frs X.stack, H b = none := fun b hb => by
  rcases List.mem_cons.mp (I.stkSub b hb) with e | hb
  · rw [e]; exact I.free
  · obtain ⟨_, o, ho, _⟩ := I.ok.funs.mem hb
    exact I.base.free b o ho (I.ok.frf b hb) fun z => I.ok.exfs b z hb
theorem Inv.step {g' : Array GenState} {t' : Nat} {d' : Drawn} {ch : List Addr} (I : Inv X pins σ H s)
    (hch : ∀ b ∈ ch, (b ∈ X.ex ∨ X.s₀.heap.objs.size ≤ b) ∧ b ≠ X.env.locals ∧ (∀ x c, X.env.cells.lookup x = some c → c ≠ b) ∧ ∀ p ∈ X.pn ++ pins, p.1 ≠ b)
    (keep : ∀ b o, b ≠ X.env.locals → b ∉ X.fs → b ∉ ch → s.heap.get? b = some o → H b = none → h'.get? b = some o)
    (slot : ∀ b o, b ≠ X.env.locals → b ∈ X.fs → b ∉ ch → s.heap.get? b = some o → H b = none → ∃ sl, h'.get? b = some { o with slots := sl }) (free : ∀ b o, b ∉ ch → s.heap.get? b = some o → H b = none → H' b = none)
    (there : ∀ b o, b ∉ ch → s.heap.get? b = some o → ∃ o', h'.get? b = some o')
    (tups : ∀ b xs, H b = some (.tup xs) → H' b = some (.tup xs)) (frzs : ∀ b o u, H b = some (.frz o u) → H' b = some (.frz o u)) (tbls : ∀ b ps, H b = some (.tbl ps) → ∃ more, H' b = some (.tbl (ps ++ more)))
    (ns : ∀ m, s.heap.Ns X.env.locals m → h'.Ns X.env.locals m) (hok : HOk X.prog X.w H' h') (hg : AllBare g') :
    Inv X pins σ H' { s with heap := h', gens := g', drawn := d', toks := t' } := by
  have neL : ∀ b o, X.s₀.heap.get? b = some o → b ≠ X.env.locals := fun b o e => Nat.ne_of_lt (Nat.lt_of_lt_of_le (Heap.lt_size e) I.ok.above)
  have neC : ∀ b o, X.s₀.heap.get? b = some o → b ∉ X.ex → b ∉ ch := fun b o e hx hb => by
    rcases (hch b hb).1 with z | z
    · exact hx z
    · exact absurd (Nat.lt_of_lt_of_le (Heap.lt_size e) z) (Nat.lt_irrefl _)
  have cellK : ∀ x c, X.env.cells.lookup x = some c → ∀ v, s.heap.IsCell c v → h'.IsCell c v := fun x c e v ⟨o, ho, hd⟩ => by
    have nch : c ∉ ch := fun z => (hch c z).2.2.1 x c e rfl
    by_cases hc : c ∈ X.fs
    · obtain ⟨sl, q⟩ := slot c o (I.cne x c e) hc nch ho (I.freeC x c e)
      exact ⟨_, q, hd⟩
    · exact ⟨o, keep c o (I.cne x c e) hc nch ho (I.freeC x c e), hd⟩
  refine ⟨I.ok, I.os, hg, ⟨fun b o e n hb hx => ?_, fun b o e n hb hx => ?_, fun b o e n hx => ?_, fun b o e hx => ?_, fun b xs e => tups b xs (I.base.tups b xs e), fun b o xs e => frzs b o xs (I.base.frzs b o xs e), fun b ps e => ?_⟩, ?_, fun x c e => ?_, ?_, fun x c e => ?_, fun p hp => ?_, hok, I.len⟩
  · exact keep b o (neL b o e) hb (neC b o e hx) (I.base.keep b o e n hb hx) (I.base.free b o e n hx)
  · obtain ⟨sl, e1⟩ := I.base.slot b o e n hb hx
    obtain ⟨sl', e2⟩ := slot b _ (neL b o e) hb (neC b o e hx) e1 (I.base.free b o e n hx)
    exact ⟨sl', e2⟩
  · obtain ⟨o', e1⟩ := I.base.there b o e hx
    exact free b o' (neC b o e hx) e1 (I.base.free b o e n hx)
  · obtain ⟨o', e1⟩ := I.base.there b o e hx
    exact there b o' (neC b o e hx) e1
  · obtain ⟨m1, e1⟩ := I.base.tbls b ps e
    obtain ⟨m2, e2⟩ := tbls b _ e1
    exact ⟨m1 ++ m2, by rw [e2, Array.append_assoc]⟩
  · obtain ⟨m, hn, hl⟩ := I.loc
    refine ⟨m, ns m hn, fun i x v e1 e2 e3 => ?_⟩
    obtain ⟨u, r, l⟩ := hl i x v e1 e2 e3
    refine ⟨u, r, ?_⟩
    rcases l with l | ⟨k, c, e, z⟩
    · exact .inl l
    · exact .inr ⟨k, c, e, cellK x c e _ z⟩
  · obtain ⟨v, z⟩ := I.cell x c e
    exact ⟨v, cellK x c e v z⟩
  · obtain ⟨m, ⟨o, _, _, ho, _⟩, _⟩ := I.loc
    exact free _ o (fun z => (hch _ z).2.1 rfl) ho I.free
  · obtain ⟨v, o, ho, hd⟩ := I.cell x c e
    exact free c o (fun z => (hch c z).2.2.1 x c e rfl) ho (I.freeC x c e)
  · obtain ⟨e, n, ne, nf, d⟩ := I.pin p hp
    have nch : p.1 ∉ ch := fun z => (hch p.1 z).2.2.2 p hp rfl
    exact ⟨keep p.1 p.2 ne nf nch e n, free p.1 p.2 nch e n, ne, nf, d⟩
theorem Inv.un {t' : Nat} (I : Inv X pins σ H s) (u : Un X.fs [] H H' s.heap h') (hok : HOk X.prog X.w H' h') : Inv X pins σ H' { s with heap := h', toks := t' } := by
  obtain ⟨m, ⟨o, es, ep, ho, r⟩, _⟩ := id I.loc
  obtain ⟨sl, hL⟩ := u.any ho I.free (by simp)
  exact I.step (g' := s.gens) (d' := s.drawn) (ch := []) (fun _ z => nomatch z) (fun b o _ hb _ e n => u.keep b o e n hb (by simp)) (fun b o _ hb _ e n => u.slot b o e n hb (by simp)) (fun b o _ e n => u.free b o e n (by simp)) (fun b o _ e => u.there b o e (by simp)) u.tups u.frzs u.tbls (fun m' hm => by
    obtain ⟨o', es', ep', ho', r'⟩ := hm
    rw [ho] at ho'; cases ho'
    exact ⟨_, es', ep', hL, r'⟩) hok I.bare
theorem Inv.call {g' : Array GenState} {t' : Nat} {d' : Drawn} {ch : List Addr} (I : Inv X pins σ H s) (u : Un (frs X.stack) ch H H' s.heap h') (hok : HOk X.prog X.w H' h') (hg : AllBare g')
    (hch : ∀ b ∈ ch, (b ∈ X.ex ∨ X.s₀.heap.objs.size ≤ b) ∧ b ≠ X.env.locals ∧ (∀ x c, X.env.cells.lookup x = some c → c ≠ b) ∧ ∀ p ∈ X.pn ++ pins, p.1 ≠ b) :
    Inv X pins σ H' { s with heap := h', gens := g', drawn := d', toks := t' } := by
  obtain ⟨m, ⟨o, es, ep, ho, r⟩, _⟩ := id I.loc
  obtain ⟨sl, hL⟩ := u.any ho I.free fun z => (hch _ z).2.1 rfl
  exact I.step (ch := ch) hch (fun b o hL hb hc e n => u.keep b o e n (fun z => (List.mem_cons.mp (I.stkSub b z)).elim hL hb) hc) (fun b o _ _ hc e n => u.any e n hc) (fun b o hc e n => u.free b o e n hc) (fun b o hc e => u.there b o e hc) u.tups u.frzs u.tbls (fun m' hm => by
    obtain ⟨o', es', ep', ho', r'⟩ := hm
    rw [ho] at ho'; cases ho'
    exact ⟨_, es', ep', hL, r'⟩) hok hg
theorem Inv.turned {t' : Nat} {it : Addr} (I : Inv X pins σ H s) (k : ∀ b o, b ≠ it → s.heap.get? b = some o → h'.get? b = some o) (hn : H it = none) (hL : it ≠ X.env.locals)
    (h1 : it ∈ X.ex ∨ X.s₀.heap.objs.size ≤ it) (h2 : ∀ x c, X.env.cells.lookup x = some c → c ≠ it) (h3 : ∀ p ∈ X.pn ++ pins, p.1 ≠ it) : Inv X pins σ H { s with heap := h', toks := t' } := by
  have nit : ∀ b u, H b = some u → b ≠ it := fun b u e z => by rw [z, hn] at e; cases e
  refine I.step (g' := s.gens) (d' := s.drawn) (ch := [it]) (fun b hb => ?_) (fun b o _ _ hc e _ => k b o (fun z => hc (by simp [z])) e) (fun b o _ _ hc e _ => ⟨o.slots, k b o (fun z => hc (by simp [z])) e⟩) (fun _ _ _ _ n => n)
    (fun b o hc e => ⟨o, k b o (fun z => hc (by simp [z])) e⟩) (fun _ _ e => e) (fun _ _ _ e => e) (fun b ps e => ⟨#[], by rw [e]; simp⟩) (fun m hm => ?_) (fun b u e => ?_) I.bare
  · have e : b = it := by simpa using hb
    subst e
    exact ⟨h1, hL, h2, h3⟩
  · obtain ⟨o, es, ep, ho, r⟩ := hm
    exact ⟨o, es, ep, k _ o (Ne.symm hL) ho, r⟩
  · refine (I.hok b u e).stay (fun c v hc q => k c v ?_ q) (fun _ q => q) fun _ _ q => q
    rcases hc with z | z
    · rw [z]; exact nit b u e
    · exact nit c _ z
theorem Inv.tok (I : Inv X pins σ H s) (t : Nat) : Inv X pins σ H { s with toks := t } := I.un (h' := s.heap) (t' := t) Un.refl I.hok
theorem Inv.kept {t' : Nat} (I : Inv X pins σ H s) (k : ∀ b u, s.heap.get? b = some u → h'.get? b = some u) : Inv X pins σ H { s with heap := h', toks := t' } := I.un (Un.kept k) (I.hok.kept k)
theorem Inv.laid {a : Addr} {o : HO} {t' : Nat} (I : Inv X pins σ H s) (k : ∀ b u, s.heap.get? b = some u → h'.get? b = some u) (hp : s.heap.objs.size ≤ a) (new : ObjOk X.prog X.w (upd H a o) h' a o) :
    Inv X pins σ (upd H a o) { s with heap := h', toks := t' } := I.un (Un.laid k hp (I.hok.fresh hp)) (I.hok.laid k hp new)
theorem Inv.write {x e : Addr} {o : HO} {t' : Nat} (I : Inv X pins σ H s) (mu : Mut (H x)) (he : e = x ∨ H e = some (.own x)) (k : ∀ b u, b ≠ e → s.heap.get? b = some u → h'.get? b = some u) (heo : ∃ u, h'.get? e = some u)
    (new : ObjOk X.prog X.w (upd H x o) h' x o) : Inv X pins σ (upd H x o) { s with heap := h', toks := t' } := I.un (Un.write mu he k heo) (I.hok.write mu he k heo new)
theorem Inv.pins_of {pins' : List (Addr × Obj)} (I : Inv X pins σ H s) (h : ∀ p ∈ pins', s.heap.get? p.1 = some p.2 ∧ H p.1 = none ∧ p.1 ≠ X.env.locals ∧ p.1 ∉ X.fs ∧ ∀ v, p.2.data ≠ .cell v) : Inv X pins' σ H s :=
  ⟨I.ok, I.os, I.bare, I.base, I.loc, I.cell, I.free, I.freeC, fun p hp => (List.mem_append.mp hp).elim (fun z => I.pin p (List.mem_append_left _ z)) (h p), I.hok, I.len⟩
theorem nodup_ix {N : List Str} (hN : N.Nodup) {i j : Nat} {x : Str} (a : N[i]? = some x) (b : N[j]? = some x) : i = j := by
  obtain ⟨h1, e1⟩ := List.getElem?_eq_some_iff.mp a
  obtain ⟨h2, e2⟩ := List.getElem?_eq_some_iff.mp b
  exact (List.getElem_inj hN).mp (e1.trans e2.symm)
theorem store_ok2 {M : Model} {A : Around} {E : Value → Shared → Prop} {i : Nat} {x : Str} {v : V} {u : Value} {Q : Unit → Shared → Prop} (I : Inv X pins σ H s) (hN : X.N.Nodup) (hi : X.N[i]? = some x) (hx : Loc X.env.scope x) (r : RelV v u)
    (h : ∀ s', Inv X pins (σ.set i (some v)) H s' → (∃ a, Heap.SameBut a s.heap s'.heap ∧ (a = X.env.locals ∨ X.env.cells.lookup x = some a)) → Q () s') (hf : X.fn x = true ∨ X.env.scope.names.lookup x = some .local := by first | exact .inl rfl | exact .inr rfl | assumption) : wpAny M A (storeName X.env x u) Q E s := by
  obtain ⟨m, hn, hl⟩ := id I.loc
  have hcls : (X.env.scope.kind == .class || (X.env.scope.kind == .module && X.env.locals != X.env.globals)) = false := by rw [I.ok.kind]; rfl
  have hiσ : i < σ.length := by rw [I.len]; exact (List.getElem?_eq_some_iff.mp hi).1
  have cne := I.cne
  have tracked : ∀ {a : Addr} {h' : Heap}, (∃ o, s.heap.get? a = some o ∧ H a = none) → Heap.SameBut a s.heap h' → HOk X.prog X.w H h' := fun {a h'} ha hs b ob e => by
    obtain ⟨_, _, hfree⟩ := ha
    refine (I.hok b ob e).stay (fun c w' hc q => (hs.2 c ?_).trans q) (fun _ q => q) fun _ _ q => q
    rintro rfl
    rcases hc with rfl | hc
    · rw [hfree] at e; cases e
    · rw [hfree] at hc; cases hc
  rcases hx with hk | hk
  · refine wpAny_storeName_local hk hn (fun h' hn' hs => ?_) hcls
    obtain ⟨oL, _, _, hoL, _⟩ := id hn
    refine h _ ⟨I.ok, I.os, I.bare, ⟨fun b o e n hb hx => ?_, fun b o e n hb hx => ?_, I.base.free, fun b o e hx => ?_, I.base.tups, I.base.frzs, I.base.tbls⟩, ⟨_, hn', fun j y v' e1 e2 e3 => ?_⟩, fun y c e => ?_, I.free, I.freeC, fun p hp => ?_, tracked ⟨oL, hoL, I.free⟩ hs, by simpa using I.len⟩ ⟨_, hs, .inl rfl⟩
    · exact (hs.2 b (Nat.ne_of_lt (Nat.lt_of_lt_of_le (Heap.lt_size e) I.ok.above))).trans (I.base.keep b o e n hb hx)
    · obtain ⟨sl, e1⟩ := I.base.slot b o e n hb hx
      exact ⟨sl, (hs.2 b (Nat.ne_of_lt (Nat.lt_of_lt_of_le (Heap.lt_size e) I.ok.above))).trans e1⟩
    · obtain ⟨o', e1⟩ := I.base.there b o e hx
      exact ⟨o', (hs.2 b (Nat.ne_of_lt (Nat.lt_of_lt_of_le (Heap.lt_size e) I.ok.above))).trans e1⟩
    · by_cases hj : j = i
      · subst hj
        rw [hi] at e1; cases e1
        rw [List.getElem?_set_self hiσ] at e2
        cases e2
        exact ⟨u, r, .inl ⟨hk, by simp⟩⟩
      · rw [List.getElem?_set_ne (Ne.symm hj)] at e2
        obtain ⟨u', r', q⟩ := hl j y v' e1 e2 e3
        refine ⟨u', r', ?_⟩
        rcases q with ⟨k, e⟩ | ⟨k, c, e, z⟩
        · refine .inl ⟨k, ?_⟩
          have : y ≠ x := fun e => hj (nodup_ix hN e1 (e ▸ hi))
          simp [this, e]
        · exact .inr ⟨k, c, e, z.sameBut hs (cne y c e)⟩
    · obtain ⟨w', z⟩ := I.cell y c e
      exact ⟨w', z.sameBut hs (cne y c e)⟩
    · obtain ⟨e, n, ne, nf, d⟩ := I.pin p hp
      exact ⟨(hs.2 p.1 ne).trans e, n, ne, nf, d⟩
  · have hfn : X.fn x = true := by
      rcases hf with z | z
      · exact z
      · rw [z] at hk; cases hk
    obtain ⟨c, hc⟩ := I.ok.has x (.inl hk)
    obtain ⟨w', z⟩ := I.cell x c hc
    refine wpAny_storeName_cell I.ok.kind hk hc z (fun h' hc' hs => ?_)
    obtain ⟨oc, hoc, hocd⟩ := id z
    refine h { s with heap := h' } ⟨I.ok, I.os, I.bare, ⟨fun b o e n hb hx => ?_, fun b o e n hb hx => ?_, I.base.free, fun b o e hx => ?_, I.base.tups, I.base.frzs, I.base.tbls⟩, ⟨m, hn.sameBut hs (Ne.symm (cne x c hc)), fun j y v' e1 e2 e3 => ?_⟩, fun y c' e => ?_, I.free, I.freeC, fun p hp => ?_, tracked ⟨oc, hoc, I.freeC x c hc⟩ hs, by simpa using I.len⟩ ⟨c, hs, .inr hc⟩
    · exact (hs.2 b (Nat.ne_of_lt (Nat.lt_of_lt_of_le (Heap.lt_size e) (I.ok.cab x c hfn hc)))).trans (I.base.keep b o e n hb hx)
    · obtain ⟨sl, e1⟩ := I.base.slot b o e n hb hx
      exact ⟨sl, (hs.2 b (Nat.ne_of_lt (Nat.lt_of_lt_of_le (Heap.lt_size e) (I.ok.cab x c hfn hc)))).trans e1⟩
    · obtain ⟨o', e1⟩ := I.base.there b o e hx
      exact ⟨o', (hs.2 b (Nat.ne_of_lt (Nat.lt_of_lt_of_le (Heap.lt_size e) (I.ok.cab x c hfn hc)))).trans e1⟩
    · by_cases hj : j = i
      · subst hj
        rw [hi] at e1; cases e1
        rw [List.getElem?_set_self hiσ] at e2
        cases e2
        exact ⟨u, r, .inr ⟨.inl hk, c, hc, hc'⟩⟩
      · rw [List.getElem?_set_ne (Ne.symm hj)] at e2
        obtain ⟨u', r', q⟩ := hl j y v' e1 e2 e3
        refine ⟨u', r', ?_⟩
        rcases q with q | ⟨k, c', e, z'⟩
        · exact .inl q
        · refine .inr ⟨k, c', e, z'.sameBut hs ?_⟩
          rintro rfl
          exact hj (nodup_ix hN e1 (I.ok.inj _ _ _ e hc ▸ hi))
    · by_cases hcc : c' = c
      · subst hcc; exact ⟨_, hc'⟩
      · obtain ⟨w2, z2⟩ := I.cell y c' e
        exact ⟨w2, z2.sameBut hs hcc⟩
    · obtain ⟨e, n, ne, nf, d⟩ := I.pin p hp
      refine ⟨(hs.2 p.1 ?_).trans e, n, ne, nf, d⟩
      intro q
      rw [q, hoc] at e
      have q' : oc = p.2 := Option.some.inj e
      exact d w' (by rw [← q']; exact hocd)
theorem store_ok {M : Model} {A : Around} {E : Value → Shared → Prop} {i : Nat} {x : Str} {v : V} {u : Value} {Q : Unit → Shared → Prop} (I : Inv X pins σ H s) (hN : X.N.Nodup) (hi : X.N[i]? = some x) (hx : Loc X.env.scope x) (r : RelV v u)
    (h : ∀ s', Inv X pins (σ.set i (some v)) H s' → Q () s') (hf : X.fn x = true ∨ X.env.scope.names.lookup x = some .local := by first | exact .inl rfl | exact .inr rfl | assumption) : wpAny M A (storeName X.env x u) Q E s :=
  store_ok2 I hN hi hx r (fun s' I' _ => h s' I') hf
theorem Inv.call' {s' : Shared} {ch : List Addr} (I : Inv X pins σ H s) (ho : s'.os = s.os) (u : Un (frs X.stack) ch H H' s.heap s'.heap) (hok : HOk X.prog X.w H' s'.heap) (hg : AllBare s'.gens)
    (hch : ∀ b ∈ ch, (b ∈ X.ex ∨ X.s₀.heap.objs.size ≤ b) ∧ b ≠ X.env.locals ∧ (∀ x c, X.env.cells.lookup x = some c → c ≠ b) ∧ ∀ p ∈ X.pn ++ pins, p.1 ≠ b) : Inv X pins σ H' s' := by
  obtain ⟨h', g', d', t', o'⟩ := s'
  have e : o' = s.os := ho
  subst e
  exact I.call (g' := g') (t' := t') (d' := d') u hok hg hch
end
noncomputable abbrev XK := Value → Option Addr → Hp → Prop
noncomputable abbrev St := List (Option V)
noncomputable abbrev VK := V → Hp → Prop
noncomputable abbrev TE := St → Hp → VK → Prop
noncomputable abbrev TT := St → Hp → (Bool → Hp → Prop) → Prop
noncomputable abbrev TA := St → Hp → (List V → Hp → Prop) → Prop
structure Ends where
  nx : St → Hp → Prop
  rt : VK
  bk : St → Hp → Prop := fun _ _ => False
  ct : St → Hp → Prop := fun _ _ => False
noncomputable abbrev TS := Ends → St → Hp → Prop
noncomputable def EP (X : Cx) (pins : List (Addr × Obj)) (σ : St) (Q : VK) (u : Value) (s' : Shared) : Prop := ∃ v H', Inv X pins σ H' s' ∧ RelV v u ∧ Q v H'
noncomputable def TP (X : Cx) (pins : List (Addr × Obj)) (σ : St) (Q : Bool → Hp → Prop) (b : Bool) (s' : Shared) : Prop := ∃ H', Inv X pins σ H' s' ∧ Q b H'
noncomputable def AP (X : Cx) (pins : List (Addr × Obj)) (σ : St) (Q : List V → Hp → Prop) (us : List Value) (s' : Shared) : Prop := ∃ vs H', Inv X pins σ H' s' ∧ Vals vs us ∧ Q vs H'
noncomputable def SP (X : Cx) (pins : List (Addr × Obj)) (D : Ends) (f : Flow) (s' : Shared) : Prop :=
  match f with
  | .next => ∃ σ' H', Inv X pins σ' H' s' ∧ D.nx σ' H'
  | .brk => ∃ σ' H', Inv X pins σ' H' s' ∧ D.bk σ' H'
  | .cont => ∃ σ' H', Inv X pins σ' H' s' ∧ D.ct σ' H'
  | .ret u => ∃ v σ' H', Inv X pins σ' H' s' ∧ RelV v u ∧ D.rt v H'
noncomputable def PE (X : Cx) (e : Expr) (t : TE) : Prop :=
  ∀ (pins : List (Addr × Obj)) (s : Shared) (σ : St) (H : Hp) (Q : VK), Inv X pins σ H s → t σ H Q → wpAny (model X.prog X.w) X.A (eval e X.env) (EP X pins σ Q) X.xe s
noncomputable def PT (X : Cx) (e : Expr) (t : TT) : Prop :=
  ∀ (pins : List (Addr × Obj)) (s : Shared) (σ : St) (H : Hp) (Q : Bool → Hp → Prop), Inv X pins σ H s → t σ H Q → wpAny (model X.prog X.w) X.A (isTrue e X.env (eval e X.env)) (TP X pins σ Q) X.xe s
noncomputable def PW (X : Cx) (e : Expr) (t : TT) : Prop :=
  ∀ (whole : Sem Value) (pins : List (Addr × Obj)) (s : Shared) (σ : St) (H : Hp) (Q : Bool → Hp → Prop), Inv X pins σ H s → t σ H Q → wpAny (model X.prog X.w) X.A (isTrue e X.env whole) (TP X pins σ Q) X.xe s
theorem PW.pt {X : Cx} {e : Expr} {t : TT} (h : PW X e t) : PT X e t := h _
noncomputable def PA (X : Cx) (es : List Expr) (t : TA) : Prop :=
  ∀ (pos : Pos) (pins : List (Addr × Obj)) (s : Shared) (σ : St) (H : Hp) (Q : List V → Hp → Prop), Inv X pins σ H s → t σ H Q → wpAny (model X.prog X.w) X.A (spliced (backTo pos (starEach es X.env))) (AP X pins σ Q) X.xe s
noncomputable def PS (X : Cx) (st : Stmt) (t : TS) : Prop :=
  ∀ (pins : List (Addr × Obj)) (s : Shared) (σ : St) (H : Hp) (D : Ends), Inv X pins σ H s → t D σ H → wpAny (model X.prog X.w) X.A (exec st X.env) (SP X pins D) X.xe s
noncomputable def PSs (X : Cx) (st : List Stmt) (t : TS) : Prop :=
  ∀ (pins : List (Addr × Obj)) (s : Shared) (σ : St) (H : Hp) (D : Ends), Inv X pins σ H s → t D σ H → wpAny (model X.prog X.w) X.A (execs st X.env) (SP X pins D) X.xe s
theorem thn {α : Type} {t : Sem α} {Q Q' : α → Shared → Prop} {M : Model} {A : Around} {E : Value → Shared → Prop} {s : Shared} (h : wpAny M A t Q E s) (hQ : ∀ a s, Q a s → Q' a s) : wpAny M A t Q' E s := wpAny_mono h hQ fun _ _ x => x
end L2
namespace L2
open PySem PySem.Spec PyProof.Rows
section
variable {X : Cx}
noncomputable def tVar (i : Nat) : TE := fun σ H Q => ∃ v, σ[i]? = some (some v) ∧ Q v H
noncomputable def tC (v : V) : TE := fun _ H Q => Q v H
theorem pe_var {i : Nat} {x : Str} {pos : Pos} (hN : X.N[i]? = some x) (hv : Vis X.env.scope x) (hd : (x == ("__debug__" : Str)) = false := by decide) (hcd : (x == ("__classdict__" : Str)) = false := by decide) : PE X (.Name x pos) (tVar i) := by
  intro pins s σ H Q I h
  obtain ⟨v, e, h⟩ := h
  obtain ⟨m, hn, hl⟩ := I.loc
  obtain ⟨u, r, l⟩ := hl i x v hN e hv
  have fin : EP X pins σ Q u s := ⟨v, H, I, r, h⟩
  rcases l with ⟨hk, hm⟩ | ⟨hk, c, hc, hcell⟩
  · exact wpAny_Name (wpAny_loadName_local I.ok.kind hk hn hm fin) hd
  · rcases hk with hk | hk
    · exact wpAny_Name (wpAny_loadName_cell I.ok.kind hk hc hcell fin) hd
    · exact wpAny_Name (wpAny_loadName_free I.ok.kind hk hc hcell fin hcd) hd
theorem pe_int {i j pos} : PE X (.Constant (.int i) j pos) (tC (.int i)) := fun _ _ _ H _ I h => wpAny_Constant_int ⟨.int i, H, I.tok _, ⟨_, rfl⟩, h⟩
theorem pe_bl {b j pos} : PE X (.Constant (.bool b) j pos) (tC (.bl b)) := fun _ _ _ H _ I h => Constant_bool ⟨.bl b, H, I, rfl, h⟩
theorem pe_str {x j pos} : PE X (.Constant (.str x) j pos) (tC (.str x)) := fun _ _ _ H _ I h => Calls.Constant_str ⟨.str x, H, I.tok _, ⟨_, rfl⟩, h⟩
noncomputable def Gl (X : Cx) (x : Str) : Prop := X.env.kindOf x = some .globalImplicit
theorem ld_glob {E : Value → Shared → Prop} {pins : List (Addr × Obj)} {s : Shared} {σ : St} {H : Hp} {x : Str} {u : Value} {pos : Pos} {Q : Value → Shared → Prop} (I : Inv X pins σ H s) (hg : Gl X x) (hm : X.mg x = some u) (h : Q u s)
    (hd : (x == ("__debug__" : Str)) = false := by decide) : wpAny (model X.prog X.w) X.A (eval (.Name x pos) X.env) Q E s :=
  Calls.Name_function_global I.ok.kind hg (Calls.loadGlobal_global (by rw [I.ok.glob]; exact I.mod.glob.keeps I.bk) hm h) hd
theorem ld_blt {E : Value → Shared → Prop} {pins : List (Addr × Obj)} {s : Shared} {σ : St} {H : Hp} {x : Str} {u : Value} {pos : Pos} {Q : Value → Shared → Prop} (I : Inv X pins σ H s) (hg : Gl X x) (hm : X.mg x = none) (hv : bootBuiltins x = some u) (h : Q u s)
    (hn : x ≠ "__name__" := by decide) (hd : (x == ("__debug__" : Str)) = false := by decide) : wpAny (model X.prog X.w) X.A (eval (.Name x pos) X.env) Q E s := by
  obtain ⟨mb, h1, h2⟩ := I.mod.blt
  exact Calls.Name_function_global I.ok.kind hg (Calls.loadGlobal_builtin (by rw [I.ok.glob]; exact I.mod.glob.keeps I.bk) hm (by rw [I.ok.blt]; exact h1.keeps I.bk) ((h2 x hn).trans hv) h) hd
theorem pe_glob {x : Str} {v : V} {u : Value} {pos : Pos} (hg : Gl X x) (hm : X.mg x = some u) (r : RelV v u) (hd : (x == ("__debug__" : Str)) = false := by decide) : PE X (.Name x pos) (tC v) :=
  fun _ _ _ H _ I h => ld_glob I hg hm ⟨v, H, I, r, h⟩ hd
theorem pe_bltn {x : Str} {v : V} {u : Value} {pos : Pos} (hg : Gl X x) (hm : X.mg x = none) (hv : bootBuiltins x = some u) (r : RelV v u) (hn : x ≠ "__name__" := by decide) (hd : (x == ("__debug__" : Str)) = false := by decide) : PE X (.Name x pos) (tC v) :=
  fun _ _ _ H _ I h => ld_blt I hg hm hv ⟨v, H, I, r, h⟩ hn hd
variable {a b : Expr} {ta tb : TE} {pos : Pos}
noncomputable def tB (t : TE) : TT := fun σ H Q => t σ H fun x H1 => ∃ c, x = .bl c ∧ Q c H1
theorem pt_val {e : Expr} {t : TE} (h : PE X e t) (he : ∀ whole, isTrue e X.env whole = (do let v ← whole; standAt e.pos; holding [v] (truthy v)) := by intro _; rfl) : PT X e (tB t) := by
  intro pins s σ H Q I hw
  refine isTrue_plain (thn (h pins s σ H _ I hw) fun v s1 ⟨x, H1, I1, r1, q1⟩ => ?_) (he _)
  obtain ⟨d, rfl, q⟩ := q1
  cases r1
  exact wpAny_truthy_bool ⟨H1, I1, q⟩
variable {tA tB' : TT} {rest : List Expr}
noncomputable def tAnd (t u : TT) : TT := fun σ H Q => t σ H fun c H1 => if c = true then u σ H1 Q else Q false H1
noncomputable def tOr (t u : TT) : TT := fun σ H Q => t σ H fun c H1 => if c = true then Q true H1 else u σ H1 Q
noncomputable def tNot (t : TT) : TT := fun σ H Q => t σ H fun c H1 => Q (!c) H1
theorem pw_and1 (ha : PT X a tA) : PW X (.BoolOp .And [a] pos) tA := by
  intro wh pins s σ H Q I h
  refine isTrue_and (thn (ha pins s σ H Q I h) fun c s1 e => ?_)
  cases c with
  | true => exact isTrue_and_nil e
  | false => exact e
theorem pw_or1 (ha : PT X a tA) : PW X (.BoolOp .Or [a] pos) tA := by
  intro wh pins s σ H Q I h
  refine isTrue_or (thn (ha pins s σ H Q I h) fun c s1 e => ?_)
  cases c with
  | false => exact isTrue_or_nil e
  | true => exact e
theorem pw_and (ha : PT X a tA) (hb : PW X (.BoolOp .And (b :: rest) pos) tB') : PW X (.BoolOp .And (a :: b :: rest) pos) (tAnd tA tB') := by
  intro wh pins s σ H Q I h
  refine isTrue_and (thn (ha pins s σ H _ I h) fun c s1 ⟨H1, I1, q1⟩ => ?_)
  cases c with
  | true => exact hb wh pins s1 σ H1 Q I1 q1
  | false => exact ⟨H1, I1, q1⟩
theorem pw_or (ha : PT X a tA) (hb : PW X (.BoolOp .Or (b :: rest) pos) tB') : PW X (.BoolOp .Or (a :: b :: rest) pos) (tOr tA tB') := by
  intro wh pins s σ H Q I h
  refine isTrue_or (thn (ha pins s σ H _ I h) fun c s1 ⟨H1, I1, q1⟩ => ?_)
  cases c with
  | true => exact ⟨H1, I1, q1⟩
  | false => exact hb wh pins s1 σ H1 Q I1 q1
theorem pt_not (ha : PT X a tA) : PT X (.UnaryOp .Not a pos) (tNot tA) := by
  intro pins s σ H Q I h
  exact isTrue_not (ha pins s σ H (fun c H1 => Q (!c) H1) I h)
noncomputable def tAndV (ta tb : TE) : TE := fun σ H Q => ta σ H fun x H1 => ∃ c, x = .bl c ∧ if c = true then tb σ H1 Q else Q (.bl false) H1
theorem pe_one {op} {t : TE} (h : PE X a t) : PE X (.BoolOp op [a] pos) t := fun pins s σ H Q I hw => BoolOp_one (h pins s σ H Q I hw)
theorem pe_and (ha : PE X a ta) (hb : PE X (.BoolOp .And (b :: rest) pos) tb) : PE X (.BoolOp .And (a :: b :: rest) pos) (tAndV ta tb) := by
  intro pins s σ H Q I h
  refine BoolOp_and (thn (ha pins s σ H _ I h) fun v s1 ⟨x, H1, I1, r1, q1⟩ => ?_)
  obtain ⟨c, rfl, q1⟩ := q1
  cases r1
  refine wpAny_truthy_bool ?_
  cases c with
  | true => exact hb pins s1 σ H1 Q I1 q1
  | false => exact ⟨.bl false, H1, I1, rfl, q1⟩
end
end L2
namespace L2
open PySem PySem.Spec PyProof.Rows
noncomputable def SqL (K : PySem.W.Frag) (H : Hp) (a : Addr) (xs : List V) : Prop :=
  Rd H a (.lst xs) ∨
    ∃ (o : Obj) (its : Array Value) (n : Nat), K.lookup a = some o ∧ o.cls = .type "list" ∧ o.dict = none ∧ o.data = .seq its n ∧ its.size ≤ sizeLine ∧ Vals xs its.toList
noncomputable def SqT (K : PySem.W.Frag) (H : Hp) (a : Addr) (xs : List V) : Prop :=
  Rd H a (.tup xs) ∨
    ∃ (o : Obj) (its : Array Value) (n : Nat), K.lookup a = some o ∧ o.cls = .type "tuple" ∧ o.data = .seq its n ∧ its.size ≤ sizeLine ∧ Vals xs its.toList
noncomputable def absV : Value → Option V
  | .none => some .non
  | .bool b => some (.bl b)
  | .int i _ => some (.int i)
  | .str x _ => some (.str x)
  | .bytes b _ => some (.byt b)
  | .float b _ => some (.flt b)
  | .ref a => some (.ref a)
  | .type n => some (.ty n)
  | _ => none
theorem RelV.abs {x : V} {u : Value} (r : RelV x u) : absV u = some x := by
  cases x with
  | non => cases r; rfl
  | bl _ => cases r; rfl
  | int _ => obtain ⟨t, rfl⟩ := r; rfl
  | str _ => obtain ⟨t, rfl⟩ := r; rfl
  | byt _ => obtain ⟨t, rfl⟩ := r; rfl
  | flt _ => obtain ⟨t, rfl⟩ := r; rfl
  | ref _ => cases r; rfl
  | ty _ => cases r; rfl
theorem RelV.inj {x y : V} {u : Value} (r : RelV x u) (q : RelV y u) : x = y := Option.some.inj (r.abs.symm.trans q.abs)
theorem Vals.inj : ∀ {xs ys : List V} {us : List Value}, Vals xs us → Vals ys us → xs = ys
  | _, _, _, .nil, .nil => rfl
  | _, _, _, .cons r t, .cons r' t' => by rw [r.inj r', Vals.inj t t']
section
variable {X : Cx} {pins : List (Addr × Obj)} {σ : St} {H : Hp} {s : Shared} {a : Addr} {xs ys : List V}
theorem SqL.of {K : PySem.W.Frag} (h : H a = some (.lst xs)) : SqL K H a xs := .inl (.inl h)
theorem SqT.of {K : PySem.W.Frag} (h : H a = some (.tup xs)) : SqT K H a xs := .inl (.inl h)
theorem Inv.list (I : Inv X pins σ H s) (h : SqL X.K H a xs) : ∃ its : List Value, Vals xs its ∧ PlainL s.heap a its.toArray ∧ xs.length ≤ sizeLine := by
  rcases h with h | ⟨o, its, n, hk, hc, hd, hs, hz, r⟩
  · obtain ⟨z, its, n, r, e⟩ := h.ok I.hok
    exact ⟨its, r, ⟨_, n, e, rfl, rfl, rfl⟩, z⟩
  · refine ⟨its.toList, r, ⟨o, n, I.kIn a o hk, hc, hd, by simpa using hs⟩, ?_⟩
    have e := r.length
    simp only [Array.length_toList] at e
    (clear I hk hc hd hs r; omega)
theorem Inv.tuple (I : Inv X pins σ H s) (h : SqT X.K H a xs) : ∃ its : List Value, Vals xs its ∧ IsTup s.heap a its.toArray ∧ xs.length ≤ sizeLine := by
  rcases h with h | ⟨o, its, n, hk, hc, hs, hz, r⟩
  · obtain ⟨z, its, r, p⟩ := h.ok I.hok
    exact ⟨its, r, p, z⟩
  · refine ⟨its.toList, r, ⟨o, I.kIn a o hk, hc, n, by simpa using hs⟩, ?_⟩
    have e := r.length
    simp only [Array.length_toList] at e
    (clear I hk hc hs r; omega)
theorem Inv.list_inj (I : Inv X pins σ H s) (h : SqL X.K H a xs) (h' : SqL X.K H a ys) : xs = ys := by
  obtain ⟨its, r, ⟨o, n, e, _, _, d⟩, _⟩ := I.list h
  obtain ⟨its', r', ⟨o', n', e', _, _, d'⟩, _⟩ := I.list h'
  rw [e] at e'; cases e'
  rw [d] at d'
  injection d' with d1 _
  have : its = its' := by simpa using congrArg Array.toList d1
  subst this
  exact r.inj r'
theorem Inv.tuple_inj (I : Inv X pins σ H s) (h : SqT X.K H a xs) (h' : SqT X.K H a ys) : xs = ys := by
  obtain ⟨its, r, ⟨o, e, _, n, d⟩, _⟩ := I.tuple h
  obtain ⟨its', r', ⟨o', e', _, n', d'⟩, _⟩ := I.tuple h'
  rw [e] at e'; cases e'
  rw [d] at d'
  injection d' with d1 _
  have : its = its' := by simpa using congrArg Array.toList d1
  subst this
  exact r.inj r'
end
noncomputable abbrev Cx.wish (X : Cx) (E : Value → Shared → Prop) : Cx := { X with xe := E }
noncomputable abbrev Cx.nox (X : Cx) : Cx := X.wish fun _ _ => False
theorem Cx.Ok.wish {X : Cx} (ok : X.Ok) (E : Value → Shared → Prop) : (X.wish E).Ok :=
  ⟨ok.mod, ok.kind, ok.glob, ok.blt, ok.above, ok.inj, ok.has, ok.cab, ok.hd, ok.frames, ok.stk, ok.exf, ok.bs, ok.bsz, ok.noex, ok.exfs, ok.funs, ok.frf⟩
theorem Cx.Ok.unwish {X : Cx} {E : Value → Shared → Prop} (ok : (X.wish E).Ok) : X.Ok :=
  ⟨ok.mod, ok.kind, ok.glob, ok.blt, ok.above, ok.inj, ok.has, ok.cab, ok.hd, ok.frames, ok.stk, ok.exf, ok.bs, ok.bsz, ok.noex, ok.exfs, ok.funs, ok.frf⟩
section
variable {X : Cx} {pins : List (Addr × Obj)} {σ : St} {H : Hp} {s : Shared} {E : Value → Shared → Prop}
theorem Inv.wish (I : Inv X pins σ H s) (E : Value → Shared → Prop) : Inv (X.wish E) pins σ H s := ⟨I.ok.wish E, I.os, I.bare, I.base, I.loc, I.cell, I.free, I.freeC, I.pin, I.hok, I.len⟩
theorem Inv.unwish (I : Inv (X.wish E) pins σ H s) : Inv X pins σ H s := ⟨I.ok.unwish, I.os, I.bare, I.base, I.loc, I.cell, I.free, I.freeC, I.pin, I.hok, I.len⟩
theorem SP.unwish {D : Ends} {f : Flow} {s' : Shared} (h : SP (X.wish E) pins D f s') : SP X pins D f s' := by
  cases f with
  | next => obtain ⟨σ', H', I, q⟩ := h; exact ⟨σ', H', I.unwish, q⟩
  | brk => obtain ⟨σ', H', I, q⟩ := h; exact ⟨σ', H', I.unwish, q⟩
  | cont => obtain ⟨σ', H', I, q⟩ := h; exact ⟨σ', H', I.unwish, q⟩
  | ret u => obtain ⟨v, σ', H', I, r, q⟩ := h; exact ⟨v, σ', H', I.unwish, r, q⟩
theorem PSs.nox {st : List Stmt} {t : TS} (h : PSs X.nox st t) : PSs X st t := fun pins s σ H D I hw =>
  wpAny_mono (h pins s σ H D (I.wish _) hw) (fun _ _ q => q.unwish) fun _ _ z => False.elim z
end
section
variable {X : Cx} {st : Stmt} {rest : List Stmt} {t u : TS} {e : Expr} {te : TE} {pos : Pos}
noncomputable def tNext : TS := fun D σ H => D.nx σ H
noncomputable def tSeq (t u : TS) : TS := fun D σ H => t { D with nx := u D } σ H
theorem pss_nil : PSs X [] tNext := fun _ _ σ H _ I h => wpAny_execs_nil ⟨σ, H, I, h⟩
theorem pss_cons (h1 : PS X st t) (h2 : PSs X rest u) : PSs X (st :: rest) (tSeq t u) := by
  intro pins s σ H D I h
  refine wpAny_execs_cons (thn (h1 pins s σ H { D with nx := u D } I h) fun f s1 q => ?_)
  cases f with
  | next =>
    obtain ⟨σ', H', I', q⟩ := q
    exact h2 pins s1 σ' H' D I' q
  | ret v => exact q
  | brk => exact q
  | cont => exact q
noncomputable def tCont : TS := fun D σ H => D.ct σ H
theorem ps_continue : PS X (.Continue pos) tCont := fun _ _ σ H _ I h => wpAny_Continue ⟨σ, H, I, h⟩
theorem Inv.quiet {pins : List (Addr × Obj)} {σ : St} {H : Hp} {s : Shared} (I : Inv X pins σ H s) : interactive X.env = false := by simp [interactive, I.ok.kind]
noncomputable def tDrop (te : TE) : TS := fun D σ H => te σ H fun _ H1 => D.nx σ H1
theorem ps_expr (he : PE X e te) (hs : swapsWith e none pos.line X.env = pure false := by rfl) : PS X (.Expr e pos) (tDrop te) := by
  intro pins s σ H D I h
  exact wpAny_Expr_any (thn (he pins s σ H _ I h) fun v s1 ⟨x, H1, I1, r1, q1⟩ => ⟨σ, H1, I1, q1⟩) I.quiet hs
noncomputable def tRet (te : TE) : TS := fun D σ H => te σ H D.rt
theorem ps_ret (he : PE X e te) : PS X (.Return (some e) pos) (tRet te) := by
  intro pins s σ H D I h
  exact wpAny_Return_some (thn (he pins s σ H _ I h) fun v s1 ⟨x, H1, I1, r1, q1⟩ => ⟨x, σ, H1, I1, r1, q1⟩)
noncomputable def tIfS (c : TT) (t u : TS) : TS := fun D σ H => c σ H fun b H1 => if b = true then t D σ H1 else u D σ H1
theorem ps_if {c : Expr} {a b : List Stmt} {tc : TT} (hc : PT X c tc) (ha : PSs X a t) (hb : PSs X b u) : PS X (.If c a b pos) (tIfS tc t u) := by
  intro pins s σ H D I h
  refine wpAny_If (thn (hc pins s σ H _ I h) fun d s1 ⟨H1, I1, q1⟩ => ?_)
  cases d with
  | true => exact ha pins s1 σ H1 D I1 q1
  | false => exact hb pins s1 σ H1 D I1 q1
end
noncomputable abbrev TG := V → St → Hp → (St → Hp → Prop) → Prop
noncomputable abbrev TGs := List V → St → Hp → (St → Hp → Prop) → Prop
noncomputable def PG (X : Cx) (target : Expr) (t : TG) : Prop :=
  ∀ (pins : List (Addr × Obj)) (s : Shared) (σ : St) (H : Hp) (v : V) (u : Value) (Q : St → Hp → Prop), Inv X pins σ H s → RelV v u → t v σ H Q →
    wpAny (model X.prog X.w) X.A (assign target X.env u) (fun _ s' => ∃ σ' H', Inv X pins σ' H' s' ∧ Q σ' H') X.xe s
noncomputable def PGs (X : Cx) (ts : List Expr) (t : TGs) : Prop :=
  ∀ (pins : List (Addr × Obj)) (s : Shared) (σ : St) (H : Hp) (vs : List V) (us : List Value) (Q : St → Hp → Prop), Inv X pins σ H s → Vals vs us → t vs σ H Q →
    wpAny (model X.prog X.w) X.A (assignInOrder ((assignEach ts X.env).map (·.2)) us) (fun _ s' => ∃ σ' H', Inv X pins σ' H' s' ∧ Q σ' H') X.xe s
section
variable {X : Cx} {pos : Pos}
noncomputable def gName (i : Nat) : TG := fun v σ H Q => Q (σ.set i (some v)) H
theorem pg_name {i : Nat} {x : Str} (hN : X.N.Nodup) (hi : X.N[i]? = some x) (hx : Loc X.env.scope x) (hf : X.fn x = true ∨ X.env.scope.names.lookup x = some .local := by first | exact .inl rfl | exact .inr rfl | assumption) : PG X (.Name x pos) (gName i) := by
  intro pins s σ H v u Q I r h
  exact wpAny_assign_Name (store_ok I hN hi hx r (fun s' I' => ⟨_, H, I', h⟩) hf)
noncomputable def gNil : TGs := fun vs σ H Q => vs = [] ∧ Q σ H
noncomputable def gCons (t : TG) (u : TGs) : TGs := fun vs σ H Q => ∃ v r, vs = v :: r ∧ t v σ H fun σ' H' => u r σ' H' Q
theorem pgs_nil : PGs X [] gNil := by
  intro pins s σ H vs us Q I r h
  obtain ⟨e, h⟩ := h
  subst e
  cases r
  exact assignInOrder_nil ⟨σ, H, I, h⟩
theorem pgs_cons {e : Expr} {es : List Expr} {t : TG} {u : TGs} (h1 : PG X e t) (h2 : PGs X es u)
    (hs : (assignEach (e :: es) X.env).map (·.2) = assign e X.env :: (assignEach es X.env).map (·.2) := by rfl) : PGs X (e :: es) (gCons t u) := by
  intro pins s σ H vs us Q I r h
  obtain ⟨v, vr, e1, h⟩ := h
  subst e1
  cases r with
  | cons r rr =>
    rw [hs]
    refine assignInOrder_cons (thn (h1 pins s σ H _ _ _ I r h) fun _ s1 ⟨σ1, H1, I1, q1⟩ => ?_)
    exact h2 pins s1 σ1 H1 _ _ Q I1 rr q1
noncomputable def gTup (K : PySem.W.Frag) (n : Nat) (t : TGs) : TG := fun v σ H Q => ∃ a xs, v = .ref a ∧ SqT K H a xs ∧ xs.length = n ∧ t xs σ H Q
theorem pg_tup {es : List Expr} {k : Nat} {t : TGs} {n : Nat} (hc : X.calm = true) (h : PGs X es t)
    (hn : (assignEach es X.env).length = n := by rfl) (hst : (assignEach es X.env).findIdx? (·.1) = none := by rfl) : PG X (.Tuple es k pos) (gTup X.K n t) := by
  intro pins s σ H v u Q I r hw
  obtain ⟨a, xs, e1, hq, hl, hw⟩ := hw
  subst e1
  cases r
  obtain ⟨its, rv, ht, hz⟩ := I.tuple hq
  refine assign_Tuple_tuple (I.ok.hd hc) ht (by simp [hn, ← hl, rv.length]) hst fun h' hx => ?_
  have I1 : Inv X pins σ H { s with heap := h' } := I.kept (t' := s.toks) fun b o e => hx b o (Nat.ne_of_lt (Heap.lt_size e)) e
  exact h pins _ σ H xs _ Q I1 (by simpa using rv) hw
noncomputable def tAsg (te : TE) (g : TG) : TS := fun D σ H => te σ H fun x H1 => g x σ H1 D.nx
theorem ps_set {i : Nat} {x : Str} {e : Expr} {te : TE} {pos' : Pos} (hN : X.N.Nodup) (hi : X.N[i]? = some x) (hx : Loc X.env.scope x) (he : PE X e te) (hs : swapsWith e (some (.Name x pos')) pos.line X.env = pure false := by rfl) (hf : X.fn x = true ∨ X.env.scope.names.lookup x = some .local := by first | exact .inl rfl | exact .inr rfl | assumption) :
    PS X (.Assign [.Name x pos'] e pos) (tAsg te (gName i)) := by
  intro pins s σ H D I h
  refine wpAny_Assign_Name (thn (he pins s σ H _ I h) fun v s1 ⟨y, H1, I1, r1, q1⟩ => ?_) hs
  exact store_ok I1 hN hi hx r1 (fun s2 I2 => ⟨_, H1, I2, q1⟩) hf
end
section
variable {X : Cx} {pos : Pos}
noncomputable def tWhile (c : TT) (tb : TS) : TS := fun D σ H => ∃ W : Nat → St → Hp → Prop, (∃ m, W m σ H) ∧ ∀ m σ H, W m σ H →
  c σ H fun b H1 => if b = true then ∃ N : St → Hp → Prop, (∀ σ' H', N σ' H' → ∃ m', m' < m ∧ W m' σ' H') ∧ tb { D with nx := N, ct := N, bk := D.nx } σ H1 else D.nx σ H1
theorem ps_while {c : Expr} {body : List Stmt} {tc : TT} {tb : TS} (hp : PassesOwn (model X.prog X.w) X.A X.env X.xe) (hc : PT X c tc) (hb : PSs X body tb) : PS X (.While c body [] pos) (tWhile tc tb) := by
  intro pins s σ H D I h
  obtain ⟨W, ⟨m0, w0⟩, turn⟩ := h
  refine wpAny_While (codeAny_whileLoop (fun n s' => ∃ σ' H', Inv X pins σ' H' s' ∧ W n σ' H') ?_ m0 ⟨σ, H, I, w0⟩)
  rintro n s1 ⟨σ1, H1, I1, w1⟩
  refine wpAny_passesOwn hp (thn (hc pins s1 σ1 H1 _ I1 (turn n σ1 H1 w1)) fun b s2 ⟨H2, I2, q2⟩ => ?_)
  cases b with
  | true =>
    obtain ⟨N, hN, q2⟩ := q2
    rw [if_pos rfl]
    refine wpAny_passesOwn hp (thn (hb pins s2 σ1 H2 _ I2 q2) fun f s3 q3 => ?_)
    cases f with
    | next =>
      obtain ⟨σ3, H3, I3, n3⟩ := q3
      obtain ⟨m', hm, w3⟩ := hN σ3 H3 n3
      exact ⟨m', hm, σ3, H3, I3, w3⟩
    | cont =>
      obtain ⟨σ3, H3, I3, n3⟩ := q3
      obtain ⟨m', hm, w3⟩ := hN σ3 H3 n3
      exact ⟨m', hm, σ3, H3, I3, w3⟩
    | brk => exact q3
    | ret v => exact q3
  | false =>
    rw [if_neg Bool.false_ne_true]
    exact wpAny_execs_nil ⟨σ1, H2, I2, q2⟩
end
structure It where
  go : Nat → Hp → Prop
  yld : Nat → Hp → V → Hp → Prop
  stop : Nat → Hp → Prop
noncomputable def FpOk (X : Cx) (pins : List (Addr × Obj)) (H : Hp) (b : Addr) : Prop :=
  H b = none ∧ b ≠ X.env.locals ∧ b ∉ X.fs ∧ (b ∈ X.ex ∨ X.s₀.heap.objs.size ≤ b) ∧ (∀ x c, X.env.cells.lookup x = some c → c ≠ b) ∧ ∀ p ∈ X.pn ++ pins, p.1 ≠ b
theorem Inv.fpOk {X : Cx} {pins : List (Addr × Obj)} {σ : St} {H H' : Hp} {s : Shared} {b : Addr} (I : Inv X pins σ H s) (hb : s.heap.objs.size ≤ b) (hn : H' b = none) : FpOk X pins H' b := by
  refine ⟨hn, Nat.ne_of_gt (Nat.lt_of_lt_of_le I.lt hb), I.nofs hb, .inr (Nat.le_trans I.sz hb), fun x c e z => ?_, fun p hp z => ?_⟩
  · obtain ⟨v, q⟩ := I.cell x c e
    exact absurd (Nat.lt_of_lt_of_le q.lt (by rw [z]; exact hb)) (Nat.lt_irrefl _)
  · exact absurd (Nat.lt_of_lt_of_le (Heap.lt_size (I.pin p hp).1) (by rw [z]; exact hb)) (Nat.lt_irrefl _)
structure Turn (P : Program) (w : World) (K : PySem.W.Frag) (tg : Expr) (J : It) (fp : List Addr) (it : Addr) (tn : Nat → Heap → Prop) : Prop where
  mem : it ∈ fp
  obj : ∀ i h, tn i h → ∀ b ∈ fp, ∃ o, h.get? b = some o ∧ ∀ v, o.data ≠ .cell v
  keep : ∀ i h h', tn i h → (∀ b ∈ fp, ∀ o, h.get? b = some o → h'.get? b = some o) → tn i h'
  item : ∀ (X : Cx), X.prog = P → X.w = w → X.K = K → X.calm = true → ∀ (i : Nat) (pins : List (Addr × Obj)) (s : Shared) (σ : St) (H : Hp) (E : Value → Shared → Prop), Inv X pins σ H s → (∀ b ∈ fp, FpOk X pins H b) → tn i s.heap → J.go i H →
    wpAny (model P w) X.A (pyNext (.ref it)) (fun r s1 => ∃ u, r = some u ∧
      wpAny (model P w) X.A (letOwnedTupleGo tg (.ref it) u) (fun _ s2 => ∃ x H', Inv X pins σ H' s2 ∧ RelV x u ∧ J.yld i H x H' ∧ tn (i + 1) s2.heap ∧ ∀ b ∈ fp, H' b = none) E s1) E s
  done : ∀ (X : Cx), X.prog = P → X.w = w → X.K = K → X.calm = true → ∀ (i : Nat) (pins : List (Addr × Obj)) (s : Shared) (σ : St) (H : Hp) (E : Value → Shared → Prop), Inv X pins σ H s → (∀ b ∈ fp, FpOk X pins H b) → tn i s.heap → J.stop i H →
    wpAny (model P w) X.A (pyNext (.ref it)) (fun r s1 => r = none ∧ Inv X pins σ H s1) E s
  self : ∀ (A : Around) (i : Nat) (s : Shared) (Q : Value → Shared → Prop) (E : Value → Shared → Prop), tn i s.heap → Q (.ref it) s → wpAny (model P w) A (pyIter (.ref it)) Q E s
noncomputable abbrev TI := St → Hp → (It → Hp → Prop) → Prop
noncomputable def PIE (X : Cx) (pins : List (Addr × Obj)) (σ : St) (tg : Expr) (R : It → Hp → Prop) (itv : Value) (s2 : Shared) : Prop :=
  ∃ (it : Addr) (fp : List Addr) (tn : Nat → Heap → Prop) (J : It) (H' : Hp), itv = .ref it ∧ Inv X pins σ H' s2 ∧ Turn X.prog X.w X.K tg J fp it tn ∧ tn 0 s2.heap ∧ (∀ b ∈ fp, FpOk X pins H' b) ∧ R J H'
noncomputable def PI (X : Cx) (tg iter : Expr) (wi : TI) : Prop :=
  ∀ (pins : List (Addr × Obj)) (s : Shared) (σ : St) (H : Hp) (R : It → Hp → Prop), Inv X pins σ H s → wi σ H R →
    wpAny (model X.prog X.w) X.A (eval iter X.env) (fun v s1 => wpAny (model X.prog X.w) X.A (pyIter v) (PIE X pins σ tg R) X.xe s1) X.xe s
theorem go_of {M : Model} {A : Around} {E : Value → Shared → Prop} {s : Shared} {tg : Expr} {it : Addr} {u : Value} {o : Obj} {n : String} {vs : Array Value} {Q : Unit → Shared → Prop} (ho : s.heap.get? it = some o) (hc : o.cls = .type n) (hd : o.data = .fields vs)
    (hn : ["enumerate", "zip", "dict_itemiterator", "dict_reverseitemiterator", "odict_iterator", "itertools.zip_longest", "itertools.pairwise"].contains n = false) (hQ : Q () s) : wpAny M A (letOwnedTupleGo tg (.ref it) u) Q E s := by
  unfold letOwnedTupleGo
  cases tg <;> first
    | exact wpAny_pure hQ
    | (cases u <;> first
        | exact wpAny_pure hQ
        | (refine wpAny_bind (wpAny_load ho ?_)
           rw [hc, hd]
           show wpAny M A (if (["enumerate", "zip", "dict_itemiterator", "dict_reverseitemiterator", "odict_iterator", "itertools.zip_longest", "itertools.pairwise"].contains n && vs[0]? == some (rawInt _)) = true then _ else _) Q E s
           rw [if_neg (by intro h; rw [hn, Bool.false_and] at h; cases h)]
           exact wpAny_pure hQ))
noncomputable def Itl (K : PySem.W.Frag) (a : Addr) : It :=
  ⟨fun i H => ∃ xs x, SqL K H a xs ∧ xs[i]? = some x, fun i H x H' => H' = H ∧ ∀ xs, SqL K H a xs → xs[i]? = some x, fun i H => ∃ xs, SqL K H a xs ∧ xs.length ≤ i⟩
noncomputable def Itt (K : PySem.W.Frag) (a : Addr) : It :=
  ⟨fun i H => ∃ xs x, SqT K H a xs ∧ xs[i]? = some x, fun i H x H' => H' = H ∧ ∀ xs, SqT K H a xs → xs[i]? = some x, fun i H => ∃ xs, SqT K H a xs ∧ xs.length ≤ i⟩
noncomputable def Itr (lo : Int) (n : Nat) : It := ⟨fun i _ => i < n, fun i H x H' => H' = H ∧ x = .int (lo + i), fun i _ => n ≤ i⟩
theorem turn_list {P : Program} {w : World} {K : PySem.W.Frag} {tg : Expr} (a it : Addr) : Turn P w K tg (Itl K a) [it] it (fun i h => h.IsListIter it a i) where
  mem := by simp
  obj := fun i h st b hb => by
    have e : b = it := by simpa using hb
    subst e
    obtain ⟨o, e, c, d⟩ := st
    exact ⟨o, e, fun v z => by rw [d] at z; cases z⟩
  keep := fun i h h' st k => st.at fun o e => k it (by simp) o e
  item := by
    intro X hP hw hK hc i pins s σ H E I hf st hg
    subst hP hw hK
    obtain ⟨xs, x, hq, hx⟩ := hg
    obtain ⟨its, rv, p, hz⟩ := I.list hq
    obtain ⟨u, hu, ru⟩ := rv.get hx
    obtain ⟨f0, f1, f2, f3, f4, f5⟩ := hf it (by simp)
    refine wpAny_pyNext_list_item st p.isList (x := u) (by simpa using hu) fun h' st' sb => ?_
    have I1 : Inv X pins σ H { s with heap := h' } := I.turned (t' := s.toks) (fun b o hb e => (sb.2 b hb).trans e) f0 f1 f3 f4 f5
    obtain ⟨o, e, c, d⟩ := id st'
    exact ⟨u, rfl, go_of (s := { s with heap := h' }) e c d (by decide) ⟨x, H, I1, ru, ⟨rfl, fun ys hy => by rw [I.list_inj hy hq]; exact hx⟩, st', fun b hb => (hf b hb).1⟩⟩
  done := by
    intro X hP hw hK hc i pins s σ H E I hf st hg
    subst hP hw hK
    obtain ⟨xs, hq, hx⟩ := hg
    obtain ⟨its, rv, p, hz⟩ := I.list hq
    obtain ⟨f0, f1, f2, f3, f4, f5⟩ := hf it (by simp)
    have hl := rv.length
    exact wpAny_pyNext_list_end (I.ok.hd hc) st p.isList (by simp; (clear hc I hf st hq rv p hz f0 f1 f2 f3 f4 f5; omega)) fun h' eb => ⟨rfl, I.turned (t' := s.toks) (fun b o hb e => eb b o hb e) f0 f1 f3 f4 f5⟩
  self := fun _ _ _ _ _ st h => wpAny_pyIter_listiter st h
theorem turn_tuple {P : Program} {w : World} {K : PySem.W.Frag} {tg : Expr} (a it : Addr) : Turn P w K tg (Itt K a) [it] it (fun i h => h.IsTupleIter it a i) where
  mem := by simp
  obj := fun i h st b hb => by
    have e : b = it := by simpa using hb
    subst e
    obtain ⟨o, e, c, d⟩ := st
    exact ⟨o, e, fun v z => by rw [d] at z; cases z⟩
  keep := fun i h h' st k => st.at fun o e => k it (by simp) o e
  item := by
    intro X hP hw hK hc i pins s σ H E I hf st hg
    subst hP hw hK
    obtain ⟨xs, x, hq, hx⟩ := hg
    obtain ⟨its, rv, p, hz⟩ := I.tuple hq
    obtain ⟨u, hu, ru⟩ := rv.get hx
    obtain ⟨f0, f1, f2, f3, f4, f5⟩ := hf it (by simp)
    refine wpAny_pyNext_tuple_item st (show s.heap.IsTuple a its.toArray from p) (x := u) (by simpa using hu) fun h' st' sb => ?_
    have I1 : Inv X pins σ H { s with heap := h' } := I.turned (t' := s.toks) (fun b o hb e => (sb.2 b hb).trans e) f0 f1 f3 f4 f5
    obtain ⟨o, e, c, d⟩ := id st'
    exact ⟨u, rfl, go_of (s := { s with heap := h' }) e c d (by decide) ⟨x, H, I1, ru, ⟨rfl, fun ys hy => by rw [I.tuple_inj hy hq]; exact hx⟩, st', fun b hb => (hf b hb).1⟩⟩
  done := by
    intro X hP hw hK hc i pins s σ H E I hf st hg
    subst hP hw hK
    obtain ⟨xs, hq, hx⟩ := hg
    obtain ⟨its, rv, p, hz⟩ := I.tuple hq
    obtain ⟨f0, f1, f2, f3, f4, f5⟩ := hf it (by simp)
    have hl := rv.length
    exact wpAny_pyNext_tuple_end (I.ok.hd hc) st (show s.heap.IsTuple a its.toArray from p) (by simp; (clear hc I hf st hq rv p hz f0 f1 f2 f3 f4 f5; omega)) fun h' eb => ⟨rfl, I.turned (t' := s.toks) (fun b o hb e => eb b o hb e) f0 f1 f3 f4 f5⟩
  self := fun _ _ _ _ _ st h => wpAny_pyIter_tupleiter st h
theorem turn_range {P : Program} {w : World} {K : PySem.W.Frag} {tg : Expr} (it : Addr) (lo : Int) (n : Nat) : Turn P w K tg (Itr lo n) [it] it (fun i h => IsRangeIter h it (lo + (i : Nat) * 1) ((n : Int) - (i : Nat)) 1) where
  mem := by simp
  obj := fun i h st b hb => by
    have e : b = it := by simpa using hb
    subst e
    exact ⟨_, st, fun v z => by
      have z' : Data.fields _ = Data.cell v := z
      cases z'⟩
  keep := fun i h h' st k => k it (by simp) _ st
  item := by
    intro X hP hw hK hc i pins s σ H E I hf st hg
    subst hP hw hK
    obtain ⟨f0, f1, f2, f3, f4, f5⟩ := hf it (by simp)
    have W := Walks.range (prog := X.prog) (w := X.w) (I.ok.hd hc) it lo 1 n
    refine W.item i s _ _ hg st fun v h' tk hv st' kk => ?_
    obtain ⟨t, rfl⟩ := hv
    have I1 : Inv X pins σ H { s with heap := h', toks := tk } := I.turned (fun b o hb e => kk b o (by simpa using hb) e) f0 f1 f3 f4 f5
    refine ⟨_, rfl, go_of (s := { s with heap := h', toks := tk }) (n := "range_iterator") st' rfl rfl (by decide) ⟨.int (lo + i), H, I1, ⟨t, ?_⟩, ⟨rfl, rfl⟩, st', fun b hb => (hf b hb).1⟩⟩
    rw [Int.mul_one]
  done := by
    intro X hP hw hK hc i pins s σ H E I hf st hg
    subst hP hw hK
    obtain ⟨f0, f1, f2, f3, f4, f5⟩ := hf it (by simp)
    exact wpAny_pyNext_range_end (I.ok.hd hc) st (by have : n ≤ i := hg; (clear hc I hf st hg f0 f1 f2 f3 f4 f5; omega)) fun h' eb => ⟨rfl, I.turned (t' := s.toks) (fun b o hb e => eb b o hb e) f0 f1 f3 f4 f5⟩
  self := fun _ _ _ _ _ st h => wpAny_pyIter_rangeiter st h
end L2
namespace L2
open PySem PySem.Spec PyProof.Rows
section
variable {X : Cx} {tg : Expr}
theorem range_it {pins : List (Addr × Obj)} {σ : St} {H : Hp} {s : Shared} {R : It → Hp → Prop} {E : Value → Shared → Prop} {lo hi : Int} {t u v : Tok} {tk : Nat} (I : Inv X pins σ H s) (h1 : -(2 ^ 62) ≤ lo) (h2 : lo < 2 ^ 62) (h3 : -(2 ^ 62) ≤ hi) (h4 : hi < 2 ^ 62)
    (q : R (Itr lo (hi - lo).toNat) H) : wpAny (model X.prog X.w) X.A (pyIter (.ref s.heap.objs.size)) (PIE X pins σ tg R) E { s with heap := s.heap.push { cls := .type "range", data := .fields #[.int lo t, .int hi u, .int 1 v] }, toks := tk } := by
  refine wpAny_pyIter_range (IsRange.new ..) (small_one h1 h2 h3 h4) ?_
  have I1 : Inv X pins σ H { s with heap := s.heap.push { cls := .type "range", data := .fields #[.int lo t, .int hi u, .int 1 v] }, toks := tk } := I.kept fun b o e => Heap.get?_push_of_some _ e
  refine ⟨(s.heap.push { cls := .type "range", data := .fields #[.int lo t, .int hi u, .int 1 v] }).objs.size, [(s.heap.push { cls := .type "range", data := .fields #[.int lo t, .int hi u, .int 1 v] }).objs.size], _, _, H, rfl,
    I1.kept (t' := tk) fun b o e => Heap.get?_push_of_some _ e, turn_range _ lo (hi - lo).toNat, ?_, fun b hb => ?_, q⟩
  · have e1 : lo + ((0 : Nat) : Int) * 1 = lo := by simp
    have e2 : (((hi - lo).toNat : Nat) : Int) - ((0 : Nat) : Int) = Builtin.Range.rangeSize lo hi 1 := by rw [rangeSize_one]; split <;> (clear I h1 h2 h3 h4 q I1 e1; omega)
    show IsRangeIter _ _ (lo + ((0 : Nat) : Int) * 1) ((((hi - lo).toNat : Nat) : Int) - ((0 : Nat) : Int)) 1
    rw [e1, e2]
    exact Heap.get?_push_size _ rfl
  · have e : b = (s.heap.push { cls := .type "range", data := .fields #[.int lo t, .int hi u, .int 1 v] }).objs.size := by simpa using hb
    subst e
    exact I1.fpOk (Nat.le_refl _) (I1.hok.fresh (Nat.le_refl _))
noncomputable def iRng1 (ta : TA) : TI := fun σ H R => ta σ H fun vs H1 => ∃ j : Int, vs = [.int j] ∧ -(2 ^ 62) ≤ j ∧ j < 2 ^ 62 ∧ R (Itr 0 j.toNat) H1
theorem pi_range1 {a : Expr} {ta : TA} {p pos : Pos} (hg : Gl X "range") (hm : X.mg "range" = none) (ha : PA X [a] ta) (hs : starEach [a] X.env = [(false, eval a X.env)] := by rfl) : PI X tg (.Call (.Name "range" p) [a] [] pos) (iRng1 ta) := by
  intro pins s σ H R I h
  refine Call_ (ld_blt I hg hm boot_range (PyProof.Rows.callWith_type1 (thn (ha pos pins s σ H _ I h) fun us s1 ⟨vs, H1, I1, r1, q1⟩ => ?_) hs rfl))
  obtain ⟨j, e, q1, q2, q⟩ := q1
  subst e
  cases r1 with
  | cons r rr =>
    cases rr
    obtain ⟨t, rfl⟩ := r
    exact call_range_1 (range_it I1 (by (clear hg hm ha hs I h I1 q1 q2 q; omega)) (by (clear hg hm ha hs I h I1 q1 q2 q; omega)) q1 q2 (by simpa using q))
noncomputable def tFor (wi : TI) (g : TG) (tb : TS) : TS := fun D σ H => wi σ H fun J H1 => ∃ W : Nat → Nat → St → Hp → Prop, (∃ m, W 0 m σ H1) ∧ ∀ i m σ H, W i m σ H →
  (J.stop i H ∧ D.nx σ H) ∨ (J.go i H ∧ ∃ N : St → Hp → Prop, (∀ σ' H', N σ' H' → ∃ m', m' < m ∧ W (i + 1) m' σ' H') ∧ ∀ x H', J.yld i H x H' → g x σ H' fun σ2 H2 => tb { D with nx := N, ct := N, bk := D.nx } σ2 H2)
noncomputable def pinsAt (fp : List Addr) (h : Heap) : List (Addr × Obj) := fp.filterMap fun b => (h.get? b).map fun o => (b, o)
theorem mem_pinsAt {fp : List Addr} {h : Heap} {b : Addr} {o : Obj} (hb : b ∈ fp) (e : h.get? b = some o) : (b, o) ∈ pinsAt fp h := List.mem_filterMap.mpr ⟨b, hb, by rw [e]; rfl⟩
theorem of_pinsAt {fp : List Addr} {h : Heap} {p : Addr × Obj} (hp : p ∈ pinsAt fp h) : p.1 ∈ fp ∧ h.get? p.1 = some p.2 := by
  obtain ⟨b, hb, e⟩ := List.mem_filterMap.mp hp
  cases q : h.get? b with
  | none => rw [q] at e; cases e
  | some o =>
    rw [q] at e
    have e' : (b, o) = p := Option.some.inj e
    subst e'
    exact ⟨hb, q⟩
theorem Inv.pinned {pins : List (Addr × Obj)} {σ : St} {H : Hp} {s : Shared} {fp : List Addr} (I : Inv X pins σ H s) (hf : ∀ b ∈ fp, FpOk X pins H b) (ho : ∀ b ∈ fp, ∃ o, s.heap.get? b = some o ∧ ∀ v, o.data ≠ .cell v) : Inv X (pins ++ pinsAt fp s.heap) σ H s :=
  I.pins_of fun p hp => (List.mem_append.mp hp).elim (fun z => I.pin p (List.mem_append_right _ z)) fun z => by
    obtain ⟨hb, e⟩ := of_pinsAt z
    obtain ⟨f0, f1, f2, _⟩ := hf p.1 hb
    obtain ⟨o, e', d⟩ := ho p.1 hb
    rw [e] at e'; cases e'
    exact ⟨e, f0, f1, f2, d⟩
theorem Inv.unpinned {pins pl : List (Addr × Obj)} {σ : St} {H : Hp} {s : Shared} (I : Inv X (pins ++ pl) σ H s) : Inv X pins σ H s := I.pins_of fun p hp => I.pin p (List.mem_append_right _ (List.mem_append_left _ hp))
theorem ps_for {iter : Expr} {body : List Stmt} {wi : TI} {g : TG} {tb : TS} {pos : Pos} (hp : PassesOwn (model X.prog X.w) X.A X.env X.xe) (hc : X.calm = true) (hi : PI X tg iter wi) (hg : PG X tg g) (hb : PSs X body tb)
    (hs : ∀ x, foldedSetIterable iter X.env x = pure x := by intro _; rfl) : PS X (.For tg iter body [] pos) (tFor wi g tb) := by
  intro pins s σ H D I h
  refine wpAny_For (thn (hi pins s σ H _ I h) fun v s1 h1 => thn h1 fun itv s2 h2 => ?_) hs
  obtain ⟨it, fp, tn, J, H2, e, I2, T, st2, f2, W, ⟨m0, w0⟩, turn⟩ := h2
  subst e
  -- what stays true of the iterator's objects through the loop
  have stat : ∀ {H' : Hp}, (∀ b ∈ fp, H' b = none) → ∀ b ∈ fp, FpOk X pins H' b := fun hn b hb => ⟨hn b hb, (f2 b hb).2⟩
  refine codeAny_forLoop_any (fun n s' => ∃ i σ' H', Inv X pins σ' H' s' ∧ tn i s'.heap ∧ (∀ b ∈ fp, H' b = none) ∧ W i n σ' H') ?_ m0 ⟨0, σ, H2, I2, st2, fun b hb => (f2 b hb).1, w0⟩
  rintro n s3 ⟨i, σ3, H3, I3, st3, fr3, w3⟩
  rcases turn i n σ3 H3 w3 with ⟨stop, qn⟩ | ⟨go, N, hN, step⟩
  · refine wpAny_passesOwn hp (thn (T.done X rfl rfl rfl hc i pins s3 σ3 H3 X.xe I3 (stat fr3) st3 stop) fun r s4 ⟨hr, I4⟩ => ?_)
    subst hr
    exact wpAny_execs_nil ⟨σ3, H3, I4, qn⟩
  · refine wpAny_passesOwn hp (thn (T.item X rfl rfl rfl hc i pins s3 σ3 H3 X.xe I3 (stat fr3) st3 go) fun r s4 ⟨u, hr, h4⟩ => ?_)
    subst hr
    refine wpAny_passesOwn hp (thn h4 fun _ s5 ⟨x, H5, I5, r5, y5, st5, fr5⟩ => ?_)
    have I5' := I5.pinned (stat fr5) (T.obj _ _ st5)
    refine wpAny_passesOwn hp (thn (hg _ s5 σ3 H5 x u _ I5' r5 (step x H5 y5)) fun _ s6 ⟨σ6, H6, I6, q6⟩ => ?_)
    refine wpAny_passesOwn hp (thn (hb _ s6 σ6 H6 _ I6 q6) fun f s7 q7 => ?_)
    have again : ∀ {σ7 : St} {H7 : Hp}, Inv X (pins ++ pinsAt fp s5.heap) σ7 H7 s7 → N σ7 H7 → ∃ m, m < n ∧ ∃ i σ' H', Inv X pins σ' H' s7 ∧ tn i s7.heap ∧ (∀ b ∈ fp, H' b = none) ∧ W i m σ' H' := fun {σ7 H7} I7 n7 => by
      obtain ⟨m', hm, w7⟩ := hN σ7 H7 n7
      refine ⟨m', hm, i + 1, σ7, H7, I7.unpinned, T.keep _ _ _ st5 fun b hb o e => (I7.pin (b, o) (List.mem_append_right _ (List.mem_append_right _ (mem_pinsAt hb e)))).1, fun b hb => ?_, w7⟩
      obtain ⟨o, e, d⟩ := T.obj _ _ st5 b hb
      exact (I7.pin (b, o) (List.mem_append_right _ (List.mem_append_right _ (mem_pinsAt hb e)))).2.1
    cases f with
    | next => obtain ⟨σ7, H7, I7, n7⟩ := q7; exact again I7 n7
    | cont => obtain ⟨σ7, H7, I7, n7⟩ := q7; exact again I7 n7
    | brk => obtain ⟨σ7, H7, I7, q7⟩ := q7; exact ⟨σ7, H7, I7.unpinned, q7⟩
    | ret v => obtain ⟨x7, σ7, H7, I7, r7, q7⟩ := q7; exact ⟨x7, σ7, H7, I7.unpinned, r7, q7⟩
end
end L2
namespace L2
open PySem PySem.Spec PyProof.Rows
noncomputable abbrev R2 := V → V → Hp → VK → Prop
noncomputable def OpR (X : Cx) (f : Value → Value → Sem Value) (r : R2) : Prop :=
  ∀ (pins : List (Addr × Obj)) (s : Shared) (σ : St) (H : Hp) (x y : V) (v u : Value) (Q : VK), Inv X pins σ H s → RelV x v → RelV y u → r x y H Q →
    wpAny (model X.prog X.w) X.A (f v u) (EP X pins σ Q) X.xe s
noncomputable def UnR (X : Cx) (f : Value → Sem Value) (r : V → Hp → VK → Prop) : Prop :=
  ∀ (pins : List (Addr × Obj)) (s : Shared) (σ : St) (H : Hp) (x : V) (v : Value) (Q : VK), Inv X pins σ H s → RelV x v → r x H Q →
    wpAny (model X.prog X.w) X.A (f v) (EP X pins σ Q) X.xe s
noncomputable def CallR (X : Cx) (f : Value) (r : List V → Hp → VK → Prop) : Prop :=
  ∀ (pins : List (Addr × Obj)) (s : Shared) (σ : St) (H : Hp) (xs : List V) (us : List Value) (Q : VK), Inv X pins σ H s → Vals xs us → r xs H Q →
    wpAny (model X.prog X.w) X.A (call f us) (EP X pins σ Q) X.xe s
noncomputable def tOp (r : R2) (ta tb : TE) : TE := fun σ H Q => ta σ H fun x H1 => tb σ H1 fun y H2 => r x y H2 Q
noncomputable def tUn (r : V → Hp → VK → Prop) (ta : TE) : TE := fun σ H Q => ta σ H fun x H1 => r x H1 Q
noncomputable def rI (C : Int → Int → Prop) (g : Int → Int → V) : R2 := fun x y H Q => ∃ i j, x = .int i ∧ y = .int j ∧ C i j ∧ Q (g i j) H
noncomputable def rI0 (g : Int → Int → V) : R2 := fun x y H Q => ∃ i j, x = .int i ∧ y = .int j ∧ Q (g i j) H
noncomputable def rU (g : Int → V) : V → Hp → VK → Prop := fun x H Q => ∃ i, x = .int i ∧ Q (g i) H
section
variable {X : Cx} {a b c : Expr} {ta tb tc : TE} {pos : Pos}
theorem binT (ha : PE X a ta) (hb : PE X b tb) {pins : List (Addr × Obj)} {s : Shared} {σ : St} {H : Hp} {R : V → V → Hp → Prop} (I : Inv X pins σ H s)
    (h : ta σ H fun x H1 => tb σ H1 fun y H2 => R x y H2) {Q : Value → Shared → Prop} {f : Value → Value → Sem Value}
    (hf : ∀ v u s2 x y H2, Inv X pins σ H2 s2 → RelV x v → RelV y u → R x y H2 → wpAny (model X.prog X.w) X.A (f v u) Q X.xe s2) :
    wpAny (model X.prog X.w) X.A (eval a X.env) (fun v s₁ => wpAny (model X.prog X.w) X.A (eval b X.env) (fun u s₂ => wpAny (model X.prog X.w) X.A (f v u) Q X.xe s₂) X.xe s₁) X.xe s := by
  refine thn (ha pins s σ H _ I h) fun v s1 ⟨x, H1, I1, r1, q1⟩ => ?_
  refine thn (hb pins s1 σ H1 _ I1 q1) fun u s2 ⟨y, H2, I2, r2, q2⟩ => ?_
  exact hf v u s2 x y H2 I2 r1 r2 q2
theorem pe_op {op : Operator} {r : R2} (ho : OpR X (binaryOp op) r) (ha : PE X a ta) (hb : PE X b tb) : PE X (.BinOp a op b pos) (tOp r ta tb) := by
  intro pins s σ H Q I h
  exact wpAny_BinOp (binT ha hb I h fun v u s2 x y H2 I2 rx ry q => ho pins s2 σ H2 x y v u Q I2 rx ry q)
theorem pe_un {op : UnaryOp} {r : V → Hp → VK → Prop} (ho : UnR X (unaryOp op) r) (ha : PE X a ta) : PE X (.UnaryOp op a pos) (tUn r ta) := by
  intro pins s σ H Q I h
  exact UnaryOp_ (thn (ha pins s σ H _ I h) fun v s1 ⟨x, H1, I1, r1, q1⟩ => ho pins s1 σ H1 x v Q I1 r1 q1)
theorem opI {f : Value → Value → Sem Value} {C : Int → Int → Prop} {g : Int → Int → Int}
    (rule : ∀ (i j : Int) (t u : Tok) (s : Shared) (Q : Value → Shared → Prop) (E : Value → Shared → Prop), C i j → Q (.int (g i j) s.toks) { s with toks := s.toks + 1 } → wpAny (model X.prog X.w) X.A (f (.int i t) (.int j u)) Q E s) :
    OpR X f (rI C fun i j => .int (g i j)) := by
  intro pins s σ H x y v u Q I rx ry h
  obtain ⟨i, j, rfl, rfl, hc, q⟩ := h
  obtain ⟨t, rfl⟩ := rx
  obtain ⟨t', rfl⟩ := ry
  exact rule i j t t' s _ _ hc ⟨.int (g i j), H, I.tok _, ⟨_, rfl⟩, q⟩
theorem opI0 {f : Value → Value → Sem Value} {g : Int → Int → Int}
    (rule : ∀ (i j : Int) (t u : Tok) (s : Shared) (Q : Value → Shared → Prop) (E : Value → Shared → Prop), Q (.int (g i j) s.toks) { s with toks := s.toks + 1 } → wpAny (model X.prog X.w) X.A (f (.int i t) (.int j u)) Q E s) :
    OpR X f (rI0 fun i j => .int (g i j)) := by
  intro pins s σ H x y v u Q I rx ry h
  obtain ⟨i, j, rfl, rfl, q⟩ := h
  obtain ⟨t, rfl⟩ := rx
  obtain ⟨t', rfl⟩ := ry
  exact rule i j t t' s _ _ ⟨.int (g i j), H, I.tok _, ⟨_, rfl⟩, q⟩
theorem opB0 {f : Value → Value → Sem Value} {g : Int → Int → Bool}
    (rule : ∀ (i j : Int) (t u : Tok) (s : Shared) (Q : Value → Shared → Prop) (E : Value → Shared → Prop), Q (.bool (g i j)) s → wpAny (model X.prog X.w) X.A (f (.int i t) (.int j u)) Q E s) :
    OpR X f (rI0 fun i j => .bl (g i j)) := by
  intro pins s σ H x y v u Q I rx ry h
  obtain ⟨i, j, rfl, rfl, q⟩ := h
  obtain ⟨t, rfl⟩ := rx
  obtain ⟨t', rfl⟩ := ry
  exact rule i j t t' s _ _ ⟨.bl (g i j), H, I, rfl, q⟩
noncomputable def CDiv (i j : Int) : Prop := 0 < j ∧ j < 1073741824
noncomputable def CPow (i j : Int) : Prop := 0 ≤ j ∧ j ≤ 1000000 ∧ i.natAbs < 2 ^ 64
noncomputable def CMul (i j : Int) : Prop := (-(2 ^ 64) < i ∧ i < 2 ^ 64) ∨ (-(2 ^ 64) < j ∧ j < 2 ^ 64)
theorem CMul.ok {i j : Int} (h : CMul i j) : IntMulOk i j := by
  rcases h with ⟨h1, h2⟩ | ⟨h1, h2⟩
  · exact .of_left (intBits_le_64 h1 h2)
  · exact .of_right (intBits_le_64 h1 h2)
theorem op_add : OpR X (binaryOp .Add) (rI0 fun i j => .int (i + j)) := opI0 fun _ _ _ _ _ _ _ q => add_int q
theorem op_sub : OpR X (binaryOp .Sub) (rI0 fun i j => .int (i - j)) := opI0 fun _ _ _ _ _ _ _ q => sub_int q
theorem op_mod : OpR X (binaryOp .Mod) (rI (fun _ j => 0 < j) fun i j => .int (i % j)) := opI fun i j _ _ _ _ _ hc q => by
  have h1 : (0 : Int) < j := hc
  exact mod_int' (by (clear q h1; omega)) (by rw [Int.fmod_eq_emod_of_nonneg i (by (clear q h1; omega))]; exact q)
theorem unI {f : Value → Sem Value} {g : Int → Int}
    (rule : ∀ (i : Int) (t : Tok) (s : Shared) (Q : Value → Shared → Prop) (E : Value → Shared → Prop), Q (.int (g i) s.toks) { s with toks := s.toks + 1 } → wpAny (model X.prog X.w) X.A (f (.int i t)) Q E s) :
    UnR X f (rU fun i => .int (g i)) := by
  intro pins s σ H x v Q I rx h
  obtain ⟨i, rfl, q⟩ := h
  obtain ⟨t, rfl⟩ := rx
  exact rule i t s _ _ ⟨.int (g i), H, I.tok _, ⟨_, rfl⟩, q⟩
theorem un_neg : UnR X (unaryOp .USub) (rU fun i => .int (-i)) := unI fun _ _ _ _ _ q => neg_int q
end
section
variable {X : Cx} {a b c : Expr} {ta tb tc : TE} {pos : Pos}
theorem op_lt : OpR X (compareOp .Lt) (rI0 fun i j => .bl (decide (i < j))) := opB0 fun _ _ _ _ _ _ _ q => lt_int q
theorem op_gt : OpR X (compareOp .Gt) (rI0 fun i j => .bl (decide (j < i))) := opB0 fun _ _ _ _ _ _ _ q => gt_int q
theorem nomark (b : Expr) {op : CmpOp} (h : op ≠ .In := by decide) (h2 : op ≠ .NotIn := by decide) : behindInMarks op b = false := by
  have e1 : (op == CmpOp.In) = false := by cases op <;> first | rfl | exact absurd rfl h
  have e2 : (op == CmpOp.NotIn) = false := by cases op <;> first | rfl | exact absurd rfl h2
  cases b <;> simp [behindInMarks, e1, e2]
theorem pe_cmpR {op : CmpOp} {r : R2} (ho : OpR X (compareOp op) r) (ha : PE X a ta) (hb : PE X b tb) (hm : behindInMarks op b = false) : PE X (.Compare a [op] [b] pos) (tOp r ta tb) := by
  intro pins s σ H Q I h
  exact wpAny_Compare1 (binT ha hb I h fun v u s2 x y H2 I2 rx ry q => ho pins s2 σ H2 x y v u Q I2 rx ry q) hm
noncomputable def tTest (t : TE) : TT := fun σ H Q => t σ H fun x H' => ∃ k, x = .bl k ∧ Q k H'
theorem pt_cmpR {op : CmpOp} {r : R2} (ho : OpR X (compareOp op) r) (ha : PE X a ta) (hb : PE X b tb) (hm : behindInMarks op b = false) : PT X (.Compare a [op] [b] pos) (tTest (tOp r ta tb)) := by
  intro pins s σ H Q I h
  refine wpAny_isTrue_Compare1 (thn (ha pins s σ H _ I h) fun v s1 ⟨x, H1, I1, r1, q1⟩ => thn (hb pins s1 σ H1 _ I1 q1) fun u s2 ⟨y, H2, I2, r2, q2⟩ =>
    thn (ho pins s2 σ H2 x y v u _ I2 r1 r2 q2) fun c s3 ⟨z, H3, I3, r3, k, e, q3⟩ => ?_) hm
  subst e
  cases r3
  exact wpAny_truthy_bool ⟨H3, I3, q3⟩
theorem line63 : (sizeLine : Nat) < 2 ^ 63 := by rw [sizeLine_eq]; decide
theorem op_add_str : OpR X (binaryOp .Add) (fun x y H Q => ∃ i j, x = .str i ∧ y = .str j ∧ i.length + j.length ≤ sizeLine ∧ Q (.str (i ++ j)) H) := by
  intro pins s σ H x y v u Q I rx ry h
  obtain ⟨i, j, rfl, rfl, hz, q⟩ := h
  obtain ⟨t, rfl⟩ := rx
  obtain ⟨t', rfl⟩ := ry
  exact add_str (fun t' tk => ⟨.str (i ++ j), H, I.tok _, ⟨_, rfl⟩, q⟩) hz
theorem vals1 {x : V} {us : List Value} (r : Vals [x] us) : ∃ u, us = [u] ∧ RelV x u := by
  cases r with
  | cons r1 r2 => cases r2; exact ⟨_, rfl, r1⟩
theorem vals2 {x y : V} {us : List Value} (r : Vals [x, y] us) : ∃ u w', us = [u, w'] ∧ RelV x u ∧ RelV y w' := by
  cases r with
  | cons r1 r2 =>
    cases r2 with
    | cons r3 r4 => cases r4; exact ⟨_, _, rfl, r1, r3⟩
end
end L2
namespace L2
open PySem PySem.Spec PyProof.Rows
structure ObjM (h : Heap) (x dx C : Addr) (mA : Str → Option Value) : Prop where
  obj : h.get? x = some (PySem.W.instObj C dx)
  ns : h.Ns1 dx mA
  ne : dx ≠ x
theorem lookIn_ns {h : Heap} {dx : Addr} {mA : Str → Option Value} (n : h.Ns1 dx mA) : ∃ od, h.get? dx = some od ∧ ∀ name, PySem.W.lookIn name od = some (mA name) := by
  obtain ⟨o, es, ep, ho, hd, hk, _, hm⟩ := n
  refine ⟨o, ho, fun name => ?_⟩
  have e := hm name
  unfold nsFind findBy at e
  rw [← Array.find?_toList] at e
  unfold PySem.W.lookIn
  rw [hd]
  dsimp only
  split
  · rename_i y q
    rw [q] at e
    exact congrArg some e
  · rename_i q
    rw [q] at e
    have a : es.toList.any (·.refKey) = false := by
      rw [List.any_eq_false]
      intro y hy
      obtain ⟨z, t, hkey⟩ := hk y (Array.mem_toList_iff.mp hy)
      simp [DictEntry.refKey, hkey]
    have a' : ¬ es.toList.any (·.refKey) = true := by rw [a]; exact Bool.false_ne_true
    rw [if_neg a']
    exact congrArg some e
theorem ObjM.look {h : Heap} {x dx C : Addr} {mA : Str → Option Value} (I : ObjM h x dx C mA) : ∃ od, PySem.W.InstAt h x (PySem.W.instObj C dx) C (some od) ∧ ∀ name, PySem.W.lookIn name od = some (mA name) :=
  let ⟨od, ho, hl⟩ := lookIn_ns I.ns
  ⟨od, ⟨I.obj, rfl, rfl, ho⟩, hl⟩
section
variable {prog : Program} {w : World} {A : Around} {E : Value → Shared → Prop} {s : Shared} {K : PySem.W.Frag} {x dx C f : Addr} {mA : Str → Option Value} {name : Str} {v : Value}
end
theorem RelO.some_of {v : V} {o : Option Value} (r : RelO (some v) o) : ∃ u, o = some u ∧ RelV v u := by
  cases o with
  | none => exact (show False from r).elim
  | some u => exact ⟨u, rfl, r⟩
section
variable {P : Program} {w : World} {H H' : Hp} {h h' : Heap} {a C dx : Addr} {fs fs' : List (Str × V)}
theorem ins_get (hok : HOk P w H h) (e : H a = some (.ins C dx fs)) : ∃ mA, ObjM h a dx C mA ∧ (∀ f, RelO (fs.lookup f) (mA f)) ∧ PySem.Within mA (fs.map (·.1)) ∧ fs.length ≤ 1000 ∧ H dx = some (.own a) := by
  obtain ⟨d, z, ne, ob, mA, n, r, q⟩ := (show ObjOk P w H h a (.ins C dx fs) from hok a _ e)
  exact ⟨mA, ⟨ob, n, ne⟩, r, q, z, d⟩
end
structure Cls (K : PySem.W.Frag) (C : Addr) : Prop where
  pg : PySem.W.plainGet K C Str.empty = true
  hd : PySem.W.hasDictIn K C = true
  po : PySem.W.plainOver K C = true
  sa : PySem.W.findIn K (.ref C) "__setattr__" = some (some (.builtin "object.__setattr__"))
theorem Cls.get {K : PySem.W.Frag} {C : Addr} (c : Cls K C) (f : Str) : PySem.W.plainGet K C f = true := c.pg
structure Con (K : PySem.W.Frag) (C : Addr) (f : Str) (v : V) (u : Value) : Prop where
  at_ : PySem.W.findIn K (.ref C) f = some (some u)
  rel : RelV v u
  get : PySem.W.specialIn K u "__get__" = some none
  cp : PySem.W.copiedNames.contains f = false
structure Meth (K : PySem.W.Frag) (C : Addr) (m : Str) (f : Addr) : Prop where
  at_ : PySem.W.findIn K (.ref C) m = some (some (.ref f))
  fn : PySem.W.isFn K (.ref f) = true
  kp : PySem.W.keepIn K (.ref f) = true
section
variable {X : Cx} {pins : List (Addr × Obj)} {σ : St} {H : Hp} {s : Shared} {a C dx : Addr} {fs : List (Str × V)} {f : Str} {v : V} {A : Around} {E : Value → Shared → Prop}
end
section
variable {X : Cx} {o e value : Expr} {f : Str} {pos pos' tpos : Pos} {ta tv : TE}
end
section
variable {X : Cx} {pins : List (Addr × Obj)} {σ : St} {H : Hp} {s : Shared} {A : Around} {E : Value → Shared → Prop} {Q : Value → Shared → Prop} {c : Value} {b : Bool}
inductive TyOf (K : PySem.W.Frag) (H : Hp) : V → Value → Prop where
  | non : TyOf K H .non (.type "NoneType")
  | bl (x : Bool) : TyOf K H (.bl x) (.type "bool")
  | int (i : Int) : TyOf K H (.int i) (.type "int")
  | str (x : Str) : TyOf K H (.str x) (.type "str")
  | flt (x : UInt64) : TyOf K H (.flt x) (.type "float")
  | lst {a : Addr} {xs : List V} (e : H a = some (.lst xs)) : TyOf K H (.ref a) (.type "list")
  | frz {a : Addr} {o : Obj} {xs : List V} (e : H a = some (.frz o (.lst xs))) : TyOf K H (.ref a) (.type "list")
  | tup {a : Addr} {xs : List V} (e : H a = some (.tup xs)) : TyOf K H (.ref a) (.type "tuple")
  | dK {a : Addr} {kvs : List (Key × V)} (e : H a = some (.dK kvs)) : TyOf K H (.ref a) (.type "dict")
  | dT {a : Addr} {kvs : List (List Key × V)} (e : H a = some (.dT kvs)) : TyOf K H (.ref a) (.type "dict")
  | ins {a C dx : Addr} {fs : List (Str × V)} (e : H a = some (.ins C dx fs)) (cl : Cls K C) (ha : PySem.W.findIn K (.ref C) "__class__" = some (some (.builtin "object.__class__")))
      (hn : PySem.W.specialIn K (.builtin "object.__class__") "__get__" = some (some (.builtin "getset_descriptor.__get__"))) (htk : PySem.W.takesIn K (.builtin "object.__class__") = some true)
      (hm : PySem.W.mroIn K C (.type "object") = some true) : TyOf K H (.ref a) (.ref C)
theorem isinst_ok {x : V} {u t : Value} (I : Inv X pins σ H s) (rx : RelV x u) (ty : TyOf X.K H x t) (e : PySem.W.kitOne X.K t c = some b) (h : ∀ tk, Q (.bool b) { s with toks := tk }) :
    wpAny (model X.prog X.w) A (call (.builtin "isinstance") [u, c]) Q E s := by
  cases ty with
  | non => cases (show u = Value.none from rx); exact PySem.W.kia_one PySem.W.kitx_none I.kIn True.intro e (fun z => nomatch z) h
  | bl y => cases (show u = Value.bool y from rx); exact PySem.W.kia_one PySem.W.kitx_bool I.kIn True.intro e (fun z => nomatch z) h
  | int i => obtain ⟨t, q⟩ := (show ∃ t, u = Value.int i t from rx); cases q; exact PySem.W.kia_one PySem.W.kitx_int I.kIn True.intro e (fun z => nomatch z) h
  | str y => obtain ⟨t, q⟩ := (show ∃ t, u = Value.str y t from rx); cases q; exact PySem.W.kia_one PySem.W.kitx_str I.kIn True.intro e (fun z => nomatch z) h
  | flt y => obtain ⟨t, q⟩ := (show ∃ t, u = Value.float y t from rx); cases q; exact PySem.W.kia_one PySem.W.kitx_float I.kIn True.intro e (fun z => nomatch z) h
  | @lst a xs ea =>
    cases (show u = Value.ref a from rx)
    obtain ⟨_, _, n, _, h1⟩ := (show ObjOk X.prog X.w H s.heap a (.lst xs) from I.hok a _ ea)
    exact PySem.W.kia_one PySem.W.kitx_list I.kIn ⟨_, h1, rfl⟩ e (fun z => nomatch z) h
  | @frz a ob xs ea =>
    cases (show u = Value.ref a from rx)
    obtain ⟨_, _, _, n, _, h1⟩ := (show ObjOk X.prog X.w H s.heap a (.frz ob (.lst xs)) from I.hok a _ ea)
    exact PySem.W.kia_one PySem.W.kitx_list I.kIn ⟨_, h1, rfl⟩ e (fun z => nomatch z) h
  | @tup a xs ea =>
    cases (show u = Value.ref a from rx)
    obtain ⟨_, _, _, p⟩ := (show ObjOk X.prog X.w H s.heap a (.tup xs) from I.hok a _ ea)
    obtain ⟨o, h1, h2, _⟩ := p
    exact PySem.W.kia_one PySem.W.kitx_tuple I.kIn ⟨o, h1, h2⟩ e (fun z => nomatch z) h
  | @dK a kvs ea =>
    cases (show u = Value.ref a from rx)
    obtain ⟨_, _, vs, _, p⟩ := (show ObjOk X.prog X.w H s.heap a (.dK kvs) from I.hok a _ ea)
    obtain ⟨o, es, ep, h1, h2, _⟩ := p
    exact PySem.W.kia_one PySem.W.kitx_dict I.kIn ⟨o, h1, h2.1⟩ e (fun z => nomatch z) h
  | @dT a kvs ea =>
    cases (show u = Value.ref a from rx)
    obtain ⟨_, _, xs, _, o, es, ep, h1, h2, _⟩ := (show ObjOk X.prog X.w H s.heap a (.dT kvs) from I.hok a _ ea)
    exact PySem.W.kia_one PySem.W.kitx_dict I.kIn ⟨o, h1, h2.1⟩ e (fun z => nomatch z) h
  | @ins a C dx fs ea cl ha hn htk hm =>
    cases (show u = Value.ref a from rx)
    obtain ⟨mA, O, _⟩ := ins_get I.hok ea
    obtain ⟨od, J, _⟩ := O.look
    exact PySem.W.kia_one (PySem.W.kitx_own (cl.get _) cl.hd ha hn htk hm) I.kIn J e (fun z => nomatch z) h
end
end L2
namespace L2
open PySem PySem.Spec PyProof.Rows
structure Room (k : Nat) (A : Around) : Prop where
  hd : A.handled = none
  dp : A.depth + 3 * k + 5 < recursionLimit
  un : A.units + 16 * k + 200 < cLine
theorem Room.mono {j k : Nat} {A : Around} (r : Room k A) (h : j ≤ k) : Room j A := ⟨r.hd, by have := r.dp; (clear r; omega), by have := r.un; (clear r; omega)⟩
theorem Room.deeper {k : Nat} {A : Around} (r : Room (k + 1) A) (env : Env) : Room k (A.deeper env) :=
  ⟨r.hd, by have := r.dp; show A.depth + 1 + 3 * k + 5 < _; (clear r; omega), by have := r.un; show A.units + 3 + 16 * k + 200 < _; (clear r; omega)⟩
theorem Room.depth {k : Nat} {A : Around} (r : Room k A) : A.depth < recursionLimit := by have := r.dp; (clear r; omega)
noncomputable def tNil : TA := fun _ H Q => Q [] H
noncomputable def tCons (ta : TE) (tr : TA) : TA := fun σ H Q => ta σ H fun x H1 => tr σ H1 fun xs H2 => Q (x :: xs) H2
section
variable {X : Cx} {e : Expr} {es : List Expr} {te : TE} {t : TA} {pos : Pos}
theorem pa_nil : PA X [] tNil := fun _ _ _ _ H Q I h => Calls.spliced_nil ⟨[], H, I, .nil, h⟩
theorem pa_cons (ha : PE X e te) (hr : PA X es t) (hs : starEach (e :: es) X.env = (false, eval e X.env) :: starEach es X.env := by rfl) : PA X (e :: es) (tCons te t) := by
  intro pos pins s σ H Q I h
  rw [hs]
  show wpAny _ _ (spliced ((false, eval e X.env) :: backTo pos (starEach es X.env))) _ _ s
  refine Calls.spliced_cons (thn (ha pins s σ H _ I h) fun u s1 ⟨x, H1, I1, r1, q1⟩ => ?_)
  exact thn (hr pos pins s1 σ H1 _ I1 q1) fun us s2 ⟨xs, H2, I2, r2, q2⟩ => ⟨x :: xs, H2, I2, .cons r1 r2, q2⟩
noncomputable def tTup (t : TA) : TE := fun σ H Q => t σ H fun xs H1 => xs.length ≤ sizeLine ∧ ∀ p, H1 p = none → Q (.ref p) (upd H1 p (.tup xs))
noncomputable def tLst (t : TA) : TE := fun σ H Q => t σ H fun xs H1 => xs.length ≤ sizeLine ∧ ∀ p, H1 p = none → Q (.ref p) (upd H1 p (.lst xs))
theorem pe_tup {x1} (h : PA X es t) : PE X (.Tuple es x1 pos) (tTup t) := by
  intro pins s σ H Q I hq
  refine wpAny_Tuple_spliced (thn (h pos pins s σ H _ I hq) fun us s1 ⟨xs, H1, I1, r, z, q⟩ => ⟨by rw [← r.length]; exact z, ?_⟩)
  have hf : H1 s1.heap.objs.size = none := I1.hok.fresh (Nat.le_refl _)
  refine ⟨.ref s1.heap.objs.size, upd H1 s1.heap.objs.size (.tup xs), I1.laid (t' := s1.toks) (fun b u e => Heap.get?_push_of_some _ e) (Nat.le_refl _) ?_, rfl, q _ hf⟩
  exact ⟨z, us, r, ⟨_, Heap.get?_push_size _ rfl, rfl, _, rfl⟩⟩
theorem pe_lst (h : PA X es t) : PE X (.List es pos) (tLst t) := by
  intro pins s σ H Q I hq
  refine wpAny_List_spliced (thn (h pos pins s σ H _ I hq) fun us s1 ⟨xs, H1, I1, r, z, q⟩ => ⟨by rw [← r.length]; exact z, ?_⟩)
  have hf : H1 s1.heap.objs.size = none := I1.hok.fresh (Nat.le_refl _)
  refine ⟨.ref s1.heap.objs.size, upd H1 s1.heap.objs.size (.lst xs), I1.laid (t' := s1.toks) (fun b u e => Heap.get?_push_of_some _ e) (Nat.le_refl _) ?_, rfl, q _ hf⟩
  exact ⟨z, us, 0, r, Heap.get?_push_size _ rfl⟩
end
noncomputable abbrev Sp := List V → Hp → VK → XK → Prop
noncomputable abbrev CXT := List Env → Hp → Shared → XK → Value → Shared → Prop
structure Env0 (P : Program) (w : World) (K : PySem.W.Frag) (mg : Str → Option Value) (base : Heap) (A : Around) (outer : List Env) (s : Shared) (H : Hp) : Prop where
  frames : A.frames = some outer
  mod : Mod K mg base
  bs : ∀ b o, base.get? b = some o → s.heap.get? b = some o ∧ H b = none
  bsz : base.objs.size ≤ s.heap.objs.size
  funs : s.heap.FunFrames base outer
  frf : ∀ b ∈ frs outer, H b = none
  hok : HOk P w H s.heap
  bare : AllBare s.gens
noncomputable def CE (outer : List Env) (P : Program) (w : World) (H : Hp) (s : Shared) (Q : VK) (u : Value) (s' : Shared) : Prop :=
  ∃ v H', s'.os = s.os ∧ AllBare s'.gens ∧ Un (frs outer) [] H H' s.heap s'.heap ∧ HOk P w H' s'.heap ∧ RelV v u ∧ Q v H'
noncomputable def CR (CX : CXT) (outer : List Env) (P : Program) (w : World) (H : Hp) (s : Shared) (Q : VK) (E : XK) (r : Result) (s' : Shared) : Prop :=
  match r with
  | .ok (.ret u) => CE outer P w H s Q u s'
  | .ok _ => False
  | .error e => CX outer H s E e s'
structure FnOk (P : Program) (w : World) (K : PySem.W.Frag) (mg : Str → Option Value) (base : Heap) (CX : CXT) (k : Nat) (f : Addr) (fd : FuncData) (ps : List Str) (sp : Sp) : Prop where
  len : ∀ vs H Q E, sp vs H Q E → vs.length = ps.length
  run : ∀ (A : Around) (outer : List Env) (s : Shared) (H : Hp) (args : Args) (us : List Value) (vs : List V) (Q : VK) (E : XK), Room k A → Env0 P w K mg base A outer s H → BindsTo s fd args (ps.zip us) → Vals vs us → sp vs H Q E →
    codeAny (model P w) A (.call (.ref f) args) (CR CX outer P w H s Q E) s
section
variable {X : Cx} {pins : List (Addr × Obj)} {σ : St} {H : Hp} {s s' : Shared}
theorem Inv.env0 (I : Inv X pins σ H s) : Env0 X.prog X.w X.K X.mg X.base X.A X.stack s H :=
  ⟨I.ok.frames, I.ok.mod, I.bs, Nat.le_trans I.ok.bsz I.sz, I.stack, I.stkFree, I.hok, I.bare⟩
theorem Inv.after {Q : VK} {u : Value} (I : Inv X pins σ H s) (h : CE X.stack X.prog X.w H s Q u s') : EP X pins σ Q u s' := by
  obtain ⟨v, H', os, bare, un, hok, r, q⟩ := h
  obtain ⟨hh, g, d, t, os'⟩ := s'
  obtain rfl : os' = s.os := os
  exact ⟨v, H', I.call (h' := hh) (g' := g) (d' := d) (t' := t) (ch := []) un hok bare (fun b z => absurd z (by simp)), r, q⟩
end
noncomputable def tCall (sp : Sp) (dvs : List V) (E : XK) (t : TA) : TE := fun σ H Q => t σ H fun vs H1 => sp (vs ++ dvs) H1 Q E
noncomputable def Binds (K : PySem.W.Frag) (fd : FuncData) (ps : List Str) (ds : List Value) : Prop :=
  ∀ (s : Shared) (us : List Value), K.In s.heap → (us ++ ds).length = ps.length → BindsTo s fd ⟨us, []⟩ (ps.zip (us ++ ds))
theorem Binds.all {K : PySem.W.Frag} {fd : FuncData} {ps : List Str} (h : ∀ us : List Value, us.length = ps.length → bindArgs fd ⟨us, []⟩ = pure (ps.zip us)) : Binds K fd ps [] := fun s us _ hl => by
  rw [List.append_nil] at hl ⊢
  exact .of_eq (h us hl)
noncomputable def Passes (CX : CXT) (X : Cx) (E : XK) : Prop := ∀ (pins : List (Addr × Obj)) (σ : St) (H : Hp) (s : Shared) (e : Value) (s' : Shared), Inv X pins σ H s → CX X.stack H s E e s' → X.xe e s'
section
variable {X : Cx} {CX : CXT} {k : Nat} {f C : Addr} {fd : FuncData} {ps : List Str} {sp : Sp} {dvs : List V} {ds : List Value} {E : XK} {x m : Str} {p pos apos : Pos} {e o : Expr} {es : List Expr} {ta : TE} {t : TA}
theorem run_fn {pins : List (Addr × Obj)} {σ : St} {H : Hp} {s : Shared} {Q : VK} {us : List Value} {vs : List V} (F : FnOk X.prog X.w X.K X.mg X.base CX k f fd ps sp) (hr : Room k X.A) (hb : Binds X.K fd ps ds) (hd : Vals dvs ds) (hx : Passes CX X E)
    (I : Inv X pins σ H s) (r : Vals vs us) (h : sp (vs ++ dvs) H Q E) : wpAny (model X.prog X.w) X.A (call (.ref f) us) (EP X pins σ Q) X.xe s := by
  have r2 : Vals (vs ++ dvs) (us ++ ds) := r.append hd
  have hl : (us ++ ds).length = ps.length := by rw [← r2.length]; exact F.len _ _ _ _ h
  refine wpAny_call (codeAny_mono (F.run X.A X.stack s H ⟨us, []⟩ (us ++ ds) (vs ++ dvs) Q E hr I.env0 (hb s us I.kIn hl) r2 h) fun r s' hq => ?_)
  cases r with
  | error e => exact hx pins σ H s e s' I hq
  | ok fl =>
    cases fl with
    | ret u => exact I.after hq
    | next => exact False.elim hq
    | brk => exact False.elim hq
    | cont => exact False.elim hq
theorem pe_call (F : FnOk X.prog X.w X.K X.mg X.base CX k f fd ps sp) (hr : Room k X.A) (hg : Gl X x) (hm : X.mg x = some (.ref f)) (hk : PySem.W.keepIn X.K (.ref f) = true) (hb : Binds X.K fd ps ds) (hd : Vals dvs ds) (hx : Passes CX X E)
    (ha : PA X (e :: es) t) (hdb : (x == ("__debug__" : Str)) = false := by decide) (he : starEach (e :: es) X.env = (false, eval e X.env) :: starEach es X.env := by rfl) (hpl : (backTo pos (starEach es X.env)).any (·.1) = false := by rfl) :
    PE X (.Call (.Name x p) (e :: es) [] pos) (tCall sp dvs E t) := by
  intro pins s σ H Q I h
  refine wpAny_Call_Name_kw (ld_glob I hg hm ?_ hdb)
  refine PySem.W.callWith_K (h₀ := X.base) I.ok.mod.kin hk (thn (ha pos pins s σ H _ I h) fun us s1 ⟨vs, H1, I1, r, q⟩ => ⟨I1.kIn, ?_⟩) he hpl
  exact run_fn F hr hb hd hx I1 r q
structure Mk (K : PySem.W.Frag) (C f : Addr) : Prop where
  makes : PySem.W.makesIn K C = true
  init : PySem.W.findIn K (.ref C) "__init__" = some (some (.ref f))
  fn : PySem.W.isFn K (.ref f) = true
  kp : PySem.W.keepIn K (.ref C) = true
end
section
variable {X : Cx} {CX : CXT} {k : Nat} {f C : Addr} {fd : FuncData} {ps ks : List Str} {sp : Sp} {E : XK} {x m : Str} {p pos apos kpos : Pos} {e o : Expr} {es : List Expr} {kws : List Keyword} {te ta : TE} {t tk : TA} {nm : Option Str}
structure KBinds (K : PySem.W.Frag) (fd : FuncData) (ps ks : List Str) (g : List Value → List Value → List Value) (gV : List V → List V → List V) : Prop where
  to : ∀ (s : Shared) (us ws : List Value), K.In s.heap → (g us ws).length = ps.length → BindsTo s fd ⟨us, ks.zip ws⟩ (ps.zip (g us ws))
  rel : ∀ {vs : List V} {us : List Value} {zs : List V} {ws : List Value}, Vals vs us → Vals zs ws → Vals (gV vs zs) (g us ws)
variable {g : List Value → List Value → List Value} {gV : List V → List V → List V}
end
structure FnScope (N P : List Str) (sc : Scope) : Prop where
  kind : sc.kind = .function
  co : sc.isCoroutine = false
  gen : sc.isGenerator = false
  nd : N.Nodup
  pre : N.take P.length = P
  par : ∀ x ∈ P, sc.names.lookup x = some .local ∨ sc.names.lookup x = some .cell
  nofree : ∀ y ∈ sc.names, y.2 ≠ .free
theorem bindL_out {kindOf : Str → Option NameKind} {x : Str} : ∀ {binds : List (Str × Value)} {m : Str → Option Value}, (∀ v, (x, v) ∉ binds) → bindL kindOf binds m x = m x
  | [], _, _ => rfl
  | (n, v) :: r, m, h => by
    unfold bindL
    rw [bindL_out fun w hw => h w (List.mem_cons_of_mem _ hw)]
    split
    · have : x ≠ n := by rintro rfl; exact h v List.mem_cons_self
      simp [this]
    · rfl
theorem bindC_out {kindOf : Str → Option NameKind} {x : Str} : ∀ {binds : List (Str × Value)} {m : Str → Option Value}, (∀ v, (x, v) ∉ binds) → bindC kindOf binds m x = m x
  | [], _, _ => rfl
  | (n, v) :: r, m, h => by
    unfold bindC
    rw [bindC_out fun w hw => h w (List.mem_cons_of_mem _ hw)]
    split
    · rfl
    · have : x ≠ n := by rintro rfl; exact h v List.mem_cons_self
      simp [this]
theorem bindL_get {kindOf : Str → Option NameKind} {x : Str} {v : Value} : ∀ {P : List Str} {vs : List Value} {i : Nat} {m : Str → Option Value}, P.Nodup → P[i]? = some x → vs[i]? = some v → kindOf x = some .local →
    bindL kindOf (P.zip vs) m x = some v
  | [], _, _, _, _, h, _, _ => by simp at h
  | _ :: _, [], _, _, _, _, h, _ => by simp at h
  | p :: P, w :: vs, 0, m, nd, h1, h2, hk => by
    simp at h1 h2; subst h1; subst h2
    show bindL kindOf ((p, w) :: P.zip vs) m p = _
    unfold bindL
    rw [bindL_out fun v hv => (List.nodup_cons.mp nd).1 (List.of_mem_zip hv).1, if_pos hk]
    simp
  | p :: P, w :: vs, i + 1, m, nd, h1, h2, hk => by
    show bindL kindOf ((p, w) :: P.zip vs) m x = _
    unfold bindL
    exact bindL_get (i := i) (List.nodup_cons.mp nd).2 (by simpa using h1) (by simpa using h2) hk
theorem bindC_get {kindOf : Str → Option NameKind} {x : Str} {v : Value} : ∀ {P : List Str} {vs : List Value} {i : Nat} {m : Str → Option Value}, P.Nodup → P[i]? = some x → vs[i]? = some v → kindOf x ≠ some .local →
    bindC kindOf (P.zip vs) m x = some v
  | [], _, _, _, _, h, _, _ => by simp at h
  | _ :: _, [], _, _, _, _, h, _ => by simp at h
  | p :: P, w :: vs, 0, m, nd, h1, h2, hk => by
    simp at h1 h2; subst h1; subst h2
    show bindC kindOf ((p, w) :: P.zip vs) m p = _
    unfold bindC
    rw [bindC_out fun v hv => (List.nodup_cons.mp nd).1 (List.of_mem_zip hv).1, if_neg hk]
    simp
  | p :: P, w :: vs, i + 1, m, nd, h1, h2, hk => by
    show bindC kindOf ((p, w) :: P.zip vs) m x = _
    unfold bindC
    exact bindC_get (i := i) (List.nodup_cons.mp nd).2 (by simpa using h1) (by simpa using h2) hk
noncomputable def start (N : List Str) (vs : List V) : St := vs.map some ++ List.replicate (N.length - vs.length) none
noncomputable def cxOf (CX : CXT) (P : Program) (w : World) (K : PySem.W.Frag) (mg : Str → Option Value) (base : Heap) (N : List Str) (qual : Str) (scope : Scope) (f : Addr) (cd : Value) (A : Around) (outer : List Env) (s : Shared) (H : Hp) (E : XK) : Cx where
  prog := P
  w := w
  K := K
  mg := mg
  base := base
  A := A.deeper (envOfC qual scope s.heap.objs.size f cd)
  N := N
  s₀ := s
  H₀ := H
  env := envOfC qual scope s.heap.objs.size f cd
  outer := outer
  stack := envOfC qual scope s.heap.objs.size f cd :: outer
  ex := []
  calm := true
  fn := fun _ => true
  pn := []
  xe := fun e s' => wpAny (model P w) (A.deeper (envOfC qual scope s.heap.objs.size f cd)) (leaving (envOfC qual scope s.heap.objs.size f cd) e) (fun _ s'' => CX outer H s E e s'') (fun e' s'' => CX outer H s E e' s'') s'
theorem cell_has {sc : Scope} {n : Nat} {x : Str} (h : sc.names.lookup x = some .cell) : ∃ c, (cellsFrom n sc.names []).lookup x = some c := by
  have q := PySem.W.cellsFrom_some sc.names n [] (.inl h)
  exact Option.isSome_iff_exists.mp q
theorem inv_start {CX : CXT} {P : Program} {w : World} {K : PySem.W.Frag} {mg : Str → Option Value} {base : Heap} {N ps : List Str} {qual : Str} {scope : Scope} {f : Addr} {cd : Value} {A : Around} {outer : List Env} {s s1 : Shared} {H : Hp} {E : XK} {us : List Value} {vs : List V}
    (S : FnScope N ps scope) (hd : A.handled = none) (e0 : Env0 P w K mg base A outer s H) (hl : vs.length = ps.length) (r : Vals vs us)
    (x : InCallC s s.heap.objs.size (bindL (envOfC qual scope s.heap.objs.size f cd).kindOf (ps.zip us) fun _ => none) (cellsFrom (s.heap.objs.size + 1) scope.names []) (bindC (envOfC qual scope s.heap.objs.size f cd).kindOf (ps.zip us) fun _ => none) s1) :
    Inv (cxOf CX P w K mg base N qual scope f cd A outer s H E) [] (start N vs) H s1 := by
  have hpl : ps.length ≤ N.length := by have := congrArg List.length S.pre; rw [List.length_take] at this; (clear S hd e0 hl r x; omega)
  obtain ⟨h1, tk, rfl, hk⟩ := x.done
  have noA : ∀ b : Addr, b ∉ (cxOf CX P w K mg base N qual scope f cd A outer s H E).ex := fun b z => absurd (show b ∈ ([] : List Addr) from z) (by simp)
  refine ⟨⟨e0.mod, S.kind, rfl, rfl, Nat.le_refl _, fun y z c h1 h2 => ?_, fun y hy => ?_, fun y c _ h => ?_, fun _ => hd, Around.frames_deeper e0.frames, .inr ⟨rfl, rfl⟩, fun b z => absurd z (noA b), e0.bs, e0.bsz, fun b _ _ => noA b, fun b z => absurd z (noA b), e0.funs, e0.frf⟩,
    rfl, e0.bare, Un.kept hk, ⟨_, x.toInCall.ns, fun i y v h1 h2 h3 => ?_⟩, fun y c h => ⟨_, x.cell y c h⟩, e0.hok.fresh (Nat.le_refl _), fun y c h => ?_, fun p hp => absurd (show p ∈ ([] : List (Addr × Obj)) from hp) (by simp), e0.hok.kept hk, ?_⟩
  · exact name_of_addr x.apart (PySem.mem_of_lookup h1) (PySem.mem_of_lookup h2)
  · have hy : scope.names.lookup y = some .cell ∨ scope.names.lookup y = some .free := hy
    rcases hy with hy | hy
    · exact cell_has hy
    · exact absurd rfl (S.nofree _ (PySem.mem_of_lookup hy))
  · exact Nat.le_of_lt (x.above y c (PySem.mem_of_lookup h))
  · have hi : i < vs.length := by
      unfold start at h2
      by_cases hi : i < vs.length
      · exact hi
      · rw [List.getElem?_append_right (by simpa using hi)] at h2
        rw [List.getElem?_replicate] at h2
        split at h2 <;> cases h2
    have ha : vs[i]? = some v := by
      unfold start at h2
      rw [List.getElem?_append_left (by simpa using hi), List.getElem?_map] at h2
      cases e : vs[i]? with
      | none => rw [e] at h2; cases h2
      | some a => rw [e] at h2; cases h2; rfl
    obtain ⟨u, hu, rv⟩ := r.get ha
    have hp : ps[i]? = some y := by
      rw [← S.pre, List.getElem?_take_of_lt (by (clear S hd e0 r hpl hk x noA h1 h2 h3 ha hu rv; omega))]; exact h1
    have ndP : ps.Nodup := by rw [← S.pre]; exact S.nd.sublist (List.take_sublist _ _)
    refine ⟨u, rv, ?_⟩
    rcases S.par y (List.mem_of_getElem? hp) with k | k
    · exact .inl ⟨k, bindL_get ndP hp hu k⟩
    · obtain ⟨c, e⟩ := cell_has (n := s.heap.objs.size + 1) k
      refine .inr ⟨.inl k, c, e, ?_⟩
      have q := x.cell y c e
      rw [bindC_get ndP hp hu (by show scope.names.lookup y ≠ _; rw [k]; decide)] at q
      exact q
  · exact e0.hok.fresh (Nat.le_of_lt (x.above y c (PySem.mem_of_lookup h)))
  · unfold start
    show _ = N.length
    rw [List.length_append, List.length_map, List.length_replicate]
    (clear S hd e0 r hk x noA; omega)
theorem fn_of {CX : CXT} {P : Program} {w : World} {K : PySem.W.Frag} {mg : Str → Option Value} {base : Heap} {k : Nat} {f : Addr} {name qual : Str} {params : Arguments} {body : List Stmt} {scope : Scope} {dV kV doc pm cdv ct oc : Value} {an od : Option Addr}
    {osl : Array (Option Value)} {N ps : List Str} {sp : Sp} (lk : K.lookup f = some ⟨oc, od, .func (PySem.W.fnOf name qual params body scope dV kV doc pm an cdv ct), osl⟩) (hcd : PySem.W.codeIn K cdv qual = true) (S : FnScope N ps scope)
    (len : ∀ vs H Q E, sp vs H Q E → vs.length = ps.length)
    (hbody : ∀ (A : Around) (outer : List Env) (s : Shared) (H : Hp) (vs : List V) (Q : VK) (E : XK), Room k (A.deeper (envOfC qual scope s.heap.objs.size f cdv)) → sp vs H Q E →
      ∃ t, PSs (cxOf CX P w K mg base N qual scope f cdv A outer s H E) body t ∧ t { nx := fun _ H' => Q .non H', rt := Q } (start N vs) H) :
    FnOk P w K mg base CX (k + 1) f (PySem.W.fnOf name qual params body scope dV kV doc pm an cdv ct) ps sp := by
  refine ⟨len, fun A outer s H args us vs Q E hr e0 hb r hsp => ?_⟩
  have hl := len _ _ _ _ hsp
  have KX : K.In s.heap := e0.mod.kin.keeps fun b o e => (e0.bs b o e).1
  have lim : s.heap.NoLimit := e0.mod.nolimit.keeps fun b o e => (e0.bs b o e).1
  have hkind : ∀ y ∈ ps.zip us, scope.names.lookup y.1 = some .local ∨ (scope.names.lookup y.1 = some .cell ∧ ((cellsFrom (s.heap.objs.size + 1) scope.names []).lookup y.1).isSome = true) := fun ⟨n, v⟩ hy => by
    rcases S.par n (List.of_mem_zip hy).1 with q | q
    · exact .inl q
    · exact .inr ⟨q, PySem.W.cellsFrom_some _ _ _ (.inl q)⟩
  refine codeAny_call_function hr.depth (KX _ _ lk) rfl S.co S.gen rfl (PySem.W.codeRec_of KX hcd) (hb _ _ _ _ ?_)
  refine wpAny_newFunctionEnv_cells S.kind hkind fun env he s1 x => ?_
  subst he
  refine ⟨lim.keeps x.toInCall.keep, codeAny_func ?_⟩
  obtain ⟨t, ht, hq⟩ := hbody A outer s H vs Q E (hr.deeper _) hsp
  have I : Inv (cxOf CX P w K mg base N qual scope f cdv A outer s H E) [] (start N vs) H s1 := inv_start S hr.hd e0 hl r x
  refine wpAny_mono (ht [] s1 (start N vs) H _ I hq) (fun fl s' hs => ?_) fun e s' hs => hs
  have fin : ∀ {σ' : St} {H' : Hp} {v : V} {u : Value}, Inv (cxOf CX P w K mg base N qual scope f cdv A outer s H E) [] σ' H' s' → RelV v u → Q v H' → CE outer P w H s Q u s' :=
    fun {σ' H' v u} J rv q => ⟨v, H', J.os, J.bare, J.base, J.hok, rv, q⟩
  cases fl with
  | ret u =>
    obtain ⟨v, σ', H', J, rv, q⟩ := hs
    exact fin J rv q
  | next =>
    obtain ⟨σ', H', J, q⟩ := hs
    exact fin (v := V.non) (u := Value.none) J rfl q
  | brk =>
    obtain ⟨_, _, _, q⟩ := hs
    exact False.elim q
  | cont =>
    obtain ⟨_, _, _, q⟩ := hs
    exact False.elim q
end L2
namespace L2
open PySem PySem.Spec PyProof.Rows
section
variable {X : Cx} {x : Str} {p pos : Pos} {e : Expr} {es : List Expr} {t : TA} {id T : String} {r : List V → Hp → VK → Prop}
noncomputable def tCB (r : List V → Hp → VK → Prop) (t : TA) : TE := fun σ H Q => t σ H fun vs H1 => r vs H1 Q
theorem pe_callB (hc : CallR X (.builtin id) r) (hg : Gl X x) (hm : X.mg x = none) (hv : bootBuiltins x = some (.builtin id)) (ha : PA X (e :: es) t) (hn : x ≠ "__name__" := by decide) (hdb : (x == ("__debug__" : Str)) = false := by decide)
    (he : starEach (e :: es) X.env = (false, eval e X.env) :: starEach es X.env := by rfl) (hpl : (backTo pos (starEach es X.env)).any (·.1) = false := by rfl) : PE X (.Call (.Name x p) (e :: es) [] pos) (tCB r t) := by
  intro pins s σ H Q I h
  refine wpAny_Call_Name_kw (ld_blt I hg hm hv ?_ hn hdb)
  exact PyProof.Rows.callWith_builtin1 (thn (ha pos pins s σ H _ I h) fun us s1 ⟨vs, H1, I1, r1, q1⟩ => hc pins s1 σ H1 vs us Q I1 r1 q1) he hpl
theorem pe_callTy (hc : CallR X (.type T) r) (hg : Gl X x) (hm : X.mg x = none) (hv : bootBuiltins x = some (.type T)) (ha : PA X (e :: es) t) (hn : x ≠ "__name__" := by decide) (hdb : (x == ("__debug__" : Str)) = false := by decide)
    (he : starEach (e :: es) X.env = (false, eval e X.env) :: starEach es X.env := by rfl) (hpl : (backTo pos (starEach es X.env)).any (·.1) = false := by rfl) : PE X (.Call (.Name x p) (e :: es) [] pos) (tCB r t) := by
  intro pins s σ H Q I h
  refine wpAny_Call_Name_kw (ld_blt I hg hm hv ?_ hn hdb)
  exact PyProof.Rows.callWith_type1 (thn (ha pos pins s σ H _ I h) fun us s1 ⟨vs, H1, I1, r1, q1⟩ => hc pins s1 σ H1 vs us Q I1 r1 q1) he hpl
end
end L2
namespace HT
open PySem PyProof.Rows
theorem rcLt_int (A : Around) (s : Shared) (a : Int) (t : Tok) (c : Int) (u : Tok) (prog : Program) (w : World) (E : Value → Shared → Prop) (Q : Value → Shared → Prop) (h : Q (.bool (decide (a < c))) s) :
    wpAny (model prog w) A (richCompare .Lt (.int a t) (.int c u)) Q E s :=
  (PyProof.Rows.lt_int h : wpAny (model prog w) A (compareOp .Lt (.int a t) (.int c u)) Q E s)
section
open PySem.SeqAt
open PySem.AutoSeq1 (wpAny_loadPart')
open PySem.MeetsSeq PySem.MeetsSeq2 PySem.MeetsSeq3
end
section
variable {prog : Program} {w : World} {A : Around} {E : Value → Shared → Prop} {s : Shared}
theorem cat_tup {t b : Addr} {vs ws : List Value} {Q : Value → Shared → Prop} (ht : IsTup s.heap t vs.toArray) (hb : IsTup s.heap b ws.toArray) (hv : vs ≠ [])
    (h1 : ws = [] → Q (.ref t) s) (h2 : ws ≠ [] → Q (.ref s.heap.objs.size) { s with heap := s.heap.push { cls := .type "tuple", data := .seq (vs ++ ws).toArray } })
    (hsz : vs.length + ws.length ≤ sizeLine) : wpAny (model prog w) A (binaryOp .Add (.ref t) (.ref b)) Q E s := by
  obtain ⟨⟨cls, dd, data, sl⟩, ho, hc, n, hd⟩ := id ht
  obtain ⟨⟨cls2, dd2, data2, sl2⟩, ho2, hc2, n2, hd2⟩ := id hb
  simp only at hc hd hc2 hd2
  subst hc hd hc2 hd2
  have e : vs.toArray ++ ws.toArray = (vs ++ ws).toArray := by simp
  by_cases hw : ws = []
  · exact concat_meets ⟨_, ho, rfl⟩ ⟨_, ho2, rfl⟩ noFill_tuple_add seq_tuple_add PySem.F.slot_tuple_add PySem.F.entry_tuple_add (PySem.F.args_tuple_add_2 _ _)
      (tuple_addW1 t b vs.toArray ws.toArray n n2 dd dd2 sl sl2 (by simpa using hv) (by simp [hw])) ⟨ho, ho2, h1 hw⟩
  · refine concat_meets ⟨_, ho, rfl⟩ ⟨_, ho2, rfl⟩ noFill_tuple_add seq_tuple_add PySem.F.slot_tuple_add PySem.F.entry_tuple_add (PySem.F.args_tuple_add_2 _ _)
      (tuple_addW2 t b vs.toArray ws.toArray n n2 dd dd2 sl sl2 (by simpa using hv) (by simpa using hw) (by rw [List.size_toArray, List.size_toArray]; exact hsz)) ⟨ho, ho2, ?_⟩
    rw [e]
    exact h2 hw
noncomputable def sIx (n d : Nat) : Option Int → Nat
  | none => d
  | some v => if v < 0 then (v + (n : Int)).toNat else min v.toNat n
theorem sIx_none (n d : Nat) : sIx n d none = d := rfl
theorem sIx_nat (n d k : Nat) : sIx n d (some (k : Int)) = min k n := by
  show (if (k : Int) < 0 then ((k : Int) + (n : Int)).toNat else min (k : Int).toNat n) = min k n
  rw [if_neg (by omega), Int.toNat_natCast]
theorem sIx_le (n d : Nat) (hd : d ≤ n) (o : Option Int) : sIx n d o ≤ n := by
  cases o with
  | none => exact hd
  | some v =>
    show (if v < 0 then (v + (n : Int)).toNat else min v.toNat n) ≤ n
    by_cases hv : v < 0
    · rw [if_pos hv]; omega
    · rw [if_neg hv]; exact Nat.min_le_right _ _
theorem clip_eq (v : Int) (n d : Nat) : (if v < 0 then max (v + (n : Int)) 0 else min v (n : Int)) = ((sIx n d (some v) : Nat) : Int) := by
  show (if v < 0 then max (v + (n : Int)) 0 else min v (n : Int)) = (((if v < 0 then (v + (n : Int)).toNat else min v.toNat n) : Nat) : Int)
  by_cases hv : v < 0
  · simp only [if_pos hv]; (clear hv; omega)
  · simp only [if_neg hv]; omega
theorem adjust_gen (lo hi : Option Int) (n : Nat) : Builtin.Slice.sliceAdjust lo hi 1 (n : Int) = (((sIx n 0 lo : Nat) : Int), ((sIx n n hi : Nat) : Int)) := by
  have h1 : ¬ ((1 : Int) < 0) := by omega
  unfold Builtin.Slice.sliceAdjust
  simp only [h1, if_false]
  refine Prod.ext ?_ ?_
  · cases lo with
    | none => rfl
    | some v => exact clip_eq v n 0
  · cases hi with
    | none => rfl
    | some v => exact clip_eq v n n
theorem places_gen (i j : Nat) : Builtin.Slice.slicePlaces (i : Int) (j : Int) 1 = j - i := by
  unfold Builtin.Slice.slicePlaces
  have h1 : (1 : Int) > 0 := by omega
  simp only [h1, if_true, Int.ediv_one]
  split <;> (clear h1; omega)
theorem slicePart_ {v : Value} {o : Option Int} {Q : Option Int → Shared → Prop} (p : IsPart v o) (h : Q o s) : wpAny (model prog w) A (Builtin.Slice.slicePartIndex v) Q E s := by
  cases p with
  | none => exact slicePart_none h
  | int i t => exact slicePart_int h
theorem sliceApplied_gen {sl : Addr} {vl vu : Value} {lo hi : Option Int} {n : Nat} {Q : Int × Int × Nat → Shared → Prop} (hs : s.heap.IsSliceOf sl vl vu .none) (pl : IsPart vl lo) (pu : IsPart vu hi)
    (h : Q (((sIx n 0 lo : Nat) : Int), 1, sIx n n hi - sIx n 0 lo) s) : wpAny (model prog w) A (Builtin.Slice.sliceApplied (.ref sl) (pure (n : Int))) Q E s := by
  obtain ⟨os, hos, hcs, hds⟩ := id hs
  unfold Builtin.Slice.sliceApplied Builtin.Slice.sliceFields
  refine wpAny_bind (wpAny_bind (wpAny_field hos hds (x := vl) rfl (wpAny_bind (wpAny_field hos hds (x := vu) rfl (wpAny_bind (wpAny_field hos hds (x := .none) rfl (wpAny_pure ?_)))))))
  refine wpAny_bind (slicePart_none ?_)
  show wpAny _ _ (if ((1 : Int) == 0) = true then _ else _) _ _ s
  rw [if_neg (by decide)]
  refine wpAny_bind (slicePart_ pl (wpAny_bind (slicePart_ pu (wpAny_bind (wpAny_pure ?_)))))
  show wpAny _ _ (match Builtin.Slice.sliceAdjust lo hi 1 (n : Int) with | (lo, hi) => pure (lo, (1 : Int), Builtin.Slice.slicePlaces lo hi 1)) _ _ s
  rw [adjust_gen lo hi n]
  show wpAny _ _ (pure (((sIx n 0 lo : Nat) : Int), (1 : Int), Builtin.Slice.slicePlaces ((sIx n 0 lo : Nat) : Int) ((sIx n n hi : Nat) : Int) 1)) _ _ s
  rw [places_gen]
  exact wpAny_pure h
theorem pick_gen (xs : Array Value) (i k : Nat) : ((List.range k).filterMap fun (m : Nat) => xs[((i : Int) + (m : Int) * 1).toNat]?).toArray = ((xs.toList.drop i).take k).toArray := by
  have e : (fun (m : Nat) => xs[((i : Int) + (m : Int) * 1).toNat]?) = fun m => xs[i + m]? := by
    funext m
    have : ((i : Int) + (m : Int) * 1).toNat = i + m := by omega
    rw [this]
  rw [e]
  have := pick_run xs i k
  rw [List.filterMap_map] at this
  have e2 : ((fun x => xs[x]?) ∘ fun x => i + x) = fun m => xs[i + m]? := rfl
  rw [e2] at this
  rw [this]
theorem getItem_tuple_cut {t sl : Addr} {items : Array Value} {vl vu : Value} {lo hi : Option Int} {Q : Value → Shared → Prop} (ht : IsTup s.heap t items) (hs : s.heap.IsSliceOf sl vl vu .none) (pl : IsPart vl lo) (pu : IsPart vu hi)
    (hw : ¬ (sIx items.size 0 lo = 0 ∧ sIx items.size items.size hi = items.size))
    (h : Q (.ref s.heap.objs.size) { s with heap := s.heap.push { cls := .type "tuple", data := .seq ((items.toList.drop (sIx items.size 0 lo)).take (sIx items.size items.size hi - sIx items.size 0 lo)).toArray } })
    (hsz : items.size ≤ sizeLine) : wpAny (model prog w) A (getItem (.ref t) (.ref sl)) Q E s := by
  have htake : sizeOk (.seq ((items.toList.drop (sIx items.size 0 lo)).take (sIx items.size items.size hi - sIx items.size 0 lo)).toArray) := by
    show ((items.toList.drop (sIx items.size 0 lo)).take (sIx items.size items.size hi - sIx items.size 0 lo)).toArray.size ≤ sizeLine
    rw [List.size_toArray, List.length_take, List.length_drop, Array.length_toList]
    (clear ht hs pl pu hw h; omega)
  have hj : sIx items.size items.size hi ≤ items.size := sIx_le _ _ (Nat.le_refl _) hi
  obtain ⟨os, hos, hcs, hds⟩ := id hs
  have hTs : s.TypeIs (.ref sl) "slice" := ⟨os, hos, hcs⟩
  unfold getItem
  try with_reducible refine wpAny_holding ?_
  first | refine wpAny_bind (wpAny_pure ?_) | skip
  refine wpAny_bind (wpAny_sequenceKey ht.typeIs (by decide) ?_)
  refine wpAny_bind (wpAny_callSpecial?_slot (name := Str.ofString "__getitem__") ht.typeIs PyProof.Rows.slot_tuple_getitem
    (wpAny_call_entry PyProof.Rows.slot_tuple_getitem ht.typeIs entry_tuple_getitem ?_ (args_tuple_getitem _ _)))
  show wpAny _ _ (Builtin.Tuple.tupleItemsOf (.ref t) >>= _) _ _ s
  refine wpAny_bind (tupleItemsOf_ ht ?_)
  refine wpAny_bind (wpAny_typeOf hTs ?_)
  rw [if_pos (by decide)]
  refine wpAny_bind (sliceApplied_gen hs pl pu ?_)
  have hno : ¬ ((((sIx items.size 0 lo : Nat) : Int) == 0 && (1 : Int) == 1 && (sIx items.size items.size hi - sIx items.size 0 lo) == items.size) = true) := by
    intro q
    rw [Bool.and_eq_true, Bool.and_eq_true] at q
    have q1 : ((sIx items.size 0 lo : Nat) : Int) = 0 := eq_of_beq q.1.1
    have q2 : sIx items.size items.size hi - sIx items.size 0 lo = items.size := eq_of_beq q.2
    exact hw ⟨by (clear ht hs pl pu hw h hsz htake hj hos hcs hds hTs q q2; omega), by (clear ht hs pl pu hw h hsz htake hos hcs hds hTs q; omega)⟩
  show wpAny _ _ (if (((sIx items.size 0 lo : Nat) : Int) == 0 && (1 : Int) == 1 && (sIx items.size items.size hi - sIx items.size 0 lo) == items.size) = true then _ else _) _ _ s
  rw [if_neg hno, pick_gen]
  first
    | exact wpAny_bind (m := Builtin.Tuple.tupleExact _) (wpAny_newObj_type (wpAny_pure ⟨_, rfl, wpAny_pure h⟩) htake)
    | exact wpAny_bind (m := Builtin.Tuple.tupleExact _) (wpAny_newObj_type (wpAny_bind (wpAny_pure (wpAny_pure ⟨_, rfl, wpAny_pure h⟩))) htake)
    | exact wpAny_bind (wpAny_bind (m := Builtin.Tuple.tupleExact _) (wpAny_newObj_type (wpAny_pure (wpAny_pure ⟨_, rfl, wpAny_pure h⟩)) htake))
    | exact wpAny_bind (wpAny_bind (m := Builtin.Tuple.tupleExact _) (wpAny_newObj_type (wpAny_pure ⟨_, rfl, wpAny_pure h⟩) htake))
end
end HT
namespace L2
open PySem PySem.Spec PyProof.Rows
noncomputable abbrev TO := St → Hp → (Option Int → Hp → Prop) → Prop
noncomputable def PO (X : Cx) (e : Option Expr) (t : TO) : Prop :=
  ∀ (pins : List (Addr × Obj)) (s : Shared) (σ : St) (H : Hp) (Q : Option Int → Hp → Prop), Inv X pins σ H s → t σ H Q →
    wpAny (model X.prog X.w) X.A (evalPart e X.env) (fun u s' => ∃ o H', Inv X pins σ H' s' ∧ IsPart u o ∧ Q o H') X.xe s
noncomputable def tNoPart : TO := fun _ H Q => Q none H
noncomputable def tPart (t : TE) : TO := fun σ H Q => t σ H fun x H1 => ∃ i, x = .int i ∧ Q (some i) H1
theorem intsAre_of {ns : List Int} : ∀ {us : List Value}, Vals (ns.map V.int) us → IntsAre us ns := by
  induction ns with
  | nil => intro us r; rw [List.map_nil] at r; cases r; exact .nil
  | cons n ns ih =>
    intro us r
    rw [List.map_cons] at r
    cases r with
    | cons r1 r2 =>
      obtain ⟨t, e⟩ := r1
      subst e
      exact .cons n t (ih r2)
section
variable {X : Cx} {e : Expr} {te : TE} {lo hi : Option Expr} {tl th : TO} {pos p2 : Pos}
theorem po_none : PO X none tNoPart := by
  intro pins s σ H Q I h
  rw [evalPart_none]
  exact wpAny_pure ⟨none, H, I, .none, h⟩
theorem po_some (h : PE X e te) : PO X (some e) (tPart te) := by
  intro pins s σ H Q I hw
  rw [evalPart_some]
  refine thn (h pins s σ H _ I hw) fun u s1 ⟨x, H1, I1, r1, q1⟩ => ?_
  obtain ⟨i, rfl, q⟩ := q1
  obtain ⟨t, rfl⟩ := r1
  exact ⟨some i, H1, I1, .int i t, q⟩
noncomputable def SlR (X : Cx) (r : V → Option Int → Option Int → Hp → VK → Prop) : Prop :=
  ∀ (pins : List (Addr × Obj)) (s : Shared) (σ : St) (H : Hp) (x : V) (v vl vu : Value) (lo hi : Option Int) (sl : Addr) (Q : VK), Inv X pins σ H s → RelV x v → s.heap.IsSliceOf sl vl vu .none → IsPart vl lo → IsPart vu hi → r x lo hi H Q →
    ∃ T id, typeLookup (.type T) "__getitem__" = pure (some (.builtin id)) ∧ s.TypeIs v T ∧ wpAny (model X.prog X.w) X.A (getItem v (.ref sl)) (EP X pins σ Q) X.xe s
noncomputable def tSl (r : V → Option Int → Option Int → Hp → VK → Prop) (te : TE) (tl th : TO) : TE := fun σ H Q => te σ H fun x H1 => tl σ H1 fun l H2 => th σ H2 fun u H3 => r x l u H3 Q
theorem pe_slice {r : V → Option Int → Option Int → Hp → VK → Prop} (hr : SlR X r) (he : PE X e te) (hl : PO X lo tl) (hu : PO X hi th) : PE X (.Subscript e (.Slice lo hi none p2) pos) (tSl r te tl th) := by
  intro pins s σ H Q I h
  refine Subscript_ (thn (he pins s σ H _ I h) fun v s1 ⟨x, H1, I1, r1, q1⟩ => ?_)
  refine wpAny_Slice (thn (hl pins s1 σ H1 _ I1 q1) fun vl s2 ⟨l, H2, I2, pl, q2⟩ => thn (hu pins s2 σ H2 _ I2 q2) fun vu s3 ⟨u, H3, I3, pu, q3⟩ => ?_)
  rw [evalPart_none]
  refine wpAny_pure ?_
  have I4 : Inv X pins σ H3 { s3 with heap := s3.heap.push { cls := .type "slice", data := .fields #[vl, vu, .none] } } := I3.kept (t' := s3.toks) fun b ob q => Heap.get?_push_of_some _ q
  obtain ⟨T, id, hT, ht, hg⟩ := hr pins { s3 with heap := s3.heap.push { cls := .type "slice", data := .fields #[vl, vu, .none] } } σ H3 x v vl vu l u s3.heap.objs.size Q I4 r1 (Heap.IsSliceOf.new ..) pl pu q3
  show wpAny (model X.prog X.w) X.A (subscriptTail e (.Slice lo hi none p2) v (.ref s3.heap.objs.size)) (EP X pins σ Q) X.xe { s3 with heap := s3.heap.push { cls := .type "slice", data := .fields #[vl, vu, .none] } }
  exact tail_any (ops := [.ref s3.heap.objs.size, v]) ht hT hg (by with_unfolding_all rfl)
noncomputable def cutV (xs : List V) (lo hi : Option Int) : List V := (xs.drop (HT.sIx xs.length 0 lo)).take (HT.sIx xs.length xs.length hi - HT.sIx xs.length 0 lo)
theorem cutV_length (xs : List V) (lo hi : Option Int) : (cutV xs lo hi).length ≤ xs.length := by
  unfold cutV
  rw [List.length_take, List.length_drop]
  omega
noncomputable def rSlT (K : PySem.W.Frag) : V → Option Int → Option Int → Hp → VK → Prop := fun x lo hi H Q => ∃ a xs, x = .ref a ∧ SqT K H a xs ∧
  ¬ (HT.sIx xs.length 0 lo = 0 ∧ HT.sIx xs.length xs.length hi = xs.length) ∧ ∀ p, H p = none → Q (.ref p) (upd H p (.tup (cutV xs lo hi)))
theorem sl_tup : SlR X (rSlT X.K) := by
  intro pins s σ H x v vl vu lo hi sl Q I rx hs pl pu h
  obtain ⟨a, xs, rfl, hx, hw, q⟩ := h
  cases rx
  obtain ⟨its, r, ht, hz⟩ := I.tuple hx
  have hlen : its.toArray.size = xs.length := by rw [List.size_toArray]; exact r.length.symm
  refine ⟨"tuple", _, PyProof.Rows.slot_tuple_getitem.lookup, ht.typeIs, ?_⟩
  refine HT.getItem_tuple_cut ht hs pl pu (by rw [hlen]; exact hw) ?_ (by rw [hlen]; exact hz)
  rw [hlen]
  refine ⟨.ref s.heap.objs.size, _, I.laid (t' := s.toks) (o := .tup (cutV xs lo hi)) (fun b ob q => Heap.get?_push_of_some _ q) (Nat.le_refl _) ?_, rfl, q _ (I.hok.fresh (Nat.le_refl _))⟩
  exact ⟨Nat.le_trans (cutV_length xs lo hi) hz, _, (r.drop (HT.sIx xs.length 0 lo)).take (HT.sIx xs.length xs.length hi - HT.sIx xs.length 0 lo), IsTup.new _ _⟩
noncomputable def rCatT (K : PySem.W.Frag) : R2 := fun x y H Q => ∃ a b xs ys, x = .ref a ∧ y = .ref b ∧ SqT K H a xs ∧ SqT K H b ys ∧ xs ≠ [] ∧ xs.length + ys.length ≤ sizeLine ∧
  (ys = [] → Q (.ref a) H) ∧ (ys ≠ [] → ∀ p, H p = none → Q (.ref p) (upd H p (.tup (xs ++ ys))))
theorem Vals.nil_iff {xs : List V} {us : List Value} (r : Vals xs us) : us = [] ↔ xs = [] := by
  cases r with
  | nil => simp
  | cons _ _ => simp
theorem op_catT : OpR X (binaryOp .Add) (rCatT X.K) := by
  intro pins s σ H x y v u Q I rx ry h
  obtain ⟨a, b, xs, ys, rfl, rfl, ha, hb, hx, hz, q1, q2⟩ := h
  cases rx
  cases ry
  obtain ⟨its, r1, p1, _⟩ := I.tuple ha
  obtain ⟨its2, r2, p2, _⟩ := I.tuple hb
  refine HT.cat_tup p1 p2 (fun z => hx (r1.nil_iff.mp z)) (fun z => ⟨.ref a, H, I, rfl, q1 (r2.nil_iff.mp z)⟩) (fun z => ?_) (by rw [← r1.length, ← r2.length]; exact hz)
  refine ⟨.ref s.heap.objs.size, _, I.laid (t' := s.toks) (o := .tup (xs ++ ys)) (fun b ob q => Heap.get?_push_of_some _ q) (Nat.le_refl _) ?_, rfl, q2 (fun w => z (r2.nil_iff.mpr w)) _ (I.hok.fresh (Nat.le_refl _))⟩
  exact ⟨by rw [List.length_append]; exact hz, _, r1.append r2, IsTup.new _ _⟩
end
end L2
namespace L2
open PySem PySem.Spec PyProof.Rows
noncomputable def ixN (n : Nat) (i : Int) : Option Nat := if 0 ≤ i then (if i < n then some i.toNat else none) else if -(n : Int) ≤ i then some (i + n).toNat else none
noncomputable def atI {α : Type} (xs : List α) (i : Int) : Option α := (ixN xs.length i).bind fun j => xs[j]?
theorem ixN_seq {n : Nat} {i : Int} {j : Nat} (h : ixN n i = some j) : seqIndex? i n = some j ∧ j < n ∧ -(n : Int) ≤ i ∧ i < n := by
  unfold ixN at h
  by_cases h0 : 0 ≤ i
  · rw [if_pos h0] at h
    by_cases h1 : i < n
    · rw [if_pos h1] at h
      have e : i.toNat = j := Option.some.inj h
      exact ⟨by rw [seqIndex_of h0 h1, e], by (clear h; omega), by (clear h h1 e; omega), h1⟩
    · rw [if_neg h1] at h; cases h
  · rw [if_neg h0] at h
    by_cases h1 : -(n : Int) ≤ i
    · rw [if_pos h1] at h
      have e : (i + n).toNat = j := Option.some.inj h
      exact ⟨by rw [seqIndex_neg (by (clear h h1 e; omega)) h1, e], by (clear h; omega), h1, by (clear h e; omega)⟩
    · rw [if_neg h1] at h; cases h
theorem atI_get {α : Type} {xs : List α} {i : Int} {v : α} (h : atI xs i = some v) : ∃ j, seqIndex? i xs.length = some j ∧ xs[j]? = some v ∧ j < xs.length ∧ -(xs.length : Int) ≤ i ∧ i < xs.length := by
  unfold atI at h
  cases e : ixN xs.length i with
  | none => rw [e] at h; cases h
  | some j =>
    rw [e] at h
    obtain ⟨h1, h2, h3, h4⟩ := ixN_seq e
    exact ⟨j, h1, h, h2, h3, h4⟩
theorem atI_nat {α : Type} {xs : List α} {j : Nat} {v : α} (h : xs[j]? = some v) : atI xs (j : Int) = some v := by
  have hj : j < xs.length := (List.getElem?_eq_some_iff.mp h).1
  have e : ixN xs.length (j : Int) = some j := by
    unfold ixN
    rw [if_pos (by (clear h hj; omega)), if_pos (by (clear h; omega))]; simp
  unfold atI; rw [e]; exact h
theorem atI_last {α : Type} (xs : List α) (v : α) : atI (xs ++ [v]) (-1) = some v := by
  have hl : (xs ++ [v]).length = xs.length + 1 := by simp
  have e : ixN (xs ++ [v]).length (-1) = some xs.length := by
    unfold ixN
    rw [hl, if_neg (by decide), if_pos (by (clear hl; omega))]
    congr 1
    (clear hl; omega)
  unfold atI
  rw [e]
  show (xs ++ [v])[xs.length]? = some v
  simp
noncomputable def PlainIx (b : Expr) : Prop := ∀ o i, subscripted b false o i = operate [o, i] (getItem o i)
noncomputable def IxR (X : Cx) (r : R2) : Prop :=
  ∀ (value slice : Expr) (pins : List (Addr × Obj)) (s : Shared) (σ : St) (H : Hp) (x y : V) (v u : Value) (Q : VK), Inv X pins σ H s → RelV x v → RelV y u → r x y H Q →
    subscripted slice false v u = operate [v, u] (getItem v u) → wpAny (model X.prog X.w) X.A (subscriptTail value slice v u) (EP X pins σ Q) X.xe s
noncomputable def MtR (X : Cx) (id : String) (r : V → List V → Hp → VK → Prop) : Prop :=
  ∀ (pins : List (Addr × Obj)) (s : Shared) (σ : St) (H : Hp) (x : V) (xs : List V) (v : Value) (us : List Value) (Q : VK), Inv X pins σ H s → RelV x v → Vals xs us → r x xs H Q →
    wpAny (model X.prog X.w) X.A (call (.builtin id) (v :: us)) (EP X pins σ Q) X.xe s
section
variable {X : Cx} {a b : Expr} {ta tb : TE} {pos : Pos}
theorem pe_ix {r : R2} (hr : IxR X r) (ha : PE X a ta) (hb : PE X b tb) (hs : PlainIx b) : PE X (.Subscript a b pos) (tOp r ta tb) := by
  intro pins s σ H Q I h
  exact Subscript_ (binT ha hb I h fun v u s2 x y H2 I2 rx ry q => hr a b pins s2 σ H2 x y v u Q I2 rx ry q (hs _ _))
noncomputable def rIxL (K : PySem.W.Frag) : R2 := fun x y H Q => ∃ p xs i v, x = .ref p ∧ y = .int i ∧ SqL K H p xs ∧ atI xs i = some v ∧ Q v H
noncomputable def rIxT (K : PySem.W.Frag) : R2 := fun x y H Q => ∃ p xs i v, x = .ref p ∧ y = .int i ∧ SqT K H p xs ∧ atI xs i = some v ∧ Q v H
noncomputable def rIxS : R2 := fun x y H Q => ∃ z i c, x = .str z ∧ y = .int i ∧ z.length ≤ sizeLine ∧ atI z.cps.toList i = some c ∧ Q (.str ⟨#[c]⟩) H
theorem ix_list : IxR X (rIxL X.K) := by
  intro value slice pins s σ H x y v u Q I rx ry h hs
  obtain ⟨p, xs, i, z, rfl, rfl, hq, he, q⟩ := h
  cases rx
  obtain ⟨t, rfl⟩ := ry
  obtain ⟨its, r, pl, hz⟩ := I.list hq
  obtain ⟨j, h1, h2, h3, h4, h5⟩ := atI_get he
  obtain ⟨w, ew, rw'⟩ := r.get h2
  have hl := r.length
  have hn := line63
  have fin : EP X pins σ Q w s := ⟨z, H, I, rw', q⟩
  by_cases h0 : 0 ≤ i
  · have hj : i.toNat = j := by
      rw [seqIndex_of h0 h5] at h1
      exact Option.some.inj h1
    exact item_listR pl.isList h0 (by (clear I hq he q hs r pl h1 h2 h3 h4 ew rw' fin h0 hj; omega)) (by rw [hj]; simpa using ew) fin hs
  · have hj : (i + (its.toArray.size : Int)).toNat = j := by
      rw [seqIndex_neg (by (clear I hq he q hs r pl hz h1 h2 h3 h4 h5 ew rw' hl hn fin; omega)) h4] at h1
      rw [List.size_toArray, ← hl]
      exact Option.some.inj h1
    exact subscriptTail_builtinR (x := w) pl.isList.typeIs slot_list_getitem.lookup
      (wpAny_getItem_list_neg (Q := fun r s' => r = w ∧ EP X pins σ Q r s') pl.isList (by (clear I hq he q hs r pl hz h1 h2 h3 h4 h5 ew rw' hl hn fin hj; omega)) (by rw [List.size_toArray] <;> (clear I hq he q hs r pl hz h1 h2 h3 h5 ew rw' hn fin h0 hj; omega)) (by (clear I hq he q hs r pl h1 h2 h3 h5 ew rw' fin h0 hj; omega)) (by rw [hj]; simpa using ew) ⟨rfl, fin⟩) hs
theorem ix_tup : IxR X (rIxT X.K) := by
  intro value slice pins s σ H x y v u Q I rx ry h hs
  obtain ⟨p, xs, i, z, rfl, rfl, hq, he, q⟩ := h
  cases rx
  obtain ⟨t, rfl⟩ := ry
  obtain ⟨its, r, pl, hz⟩ := I.tuple hq
  obtain ⟨j, h1, h2, h3, h4, h5⟩ := atI_get he
  obtain ⟨w, ew, rw'⟩ := r.get h2
  have hl := r.length
  have hn := line63
  have fin : EP X pins σ Q w s := ⟨z, H, I, rw', q⟩
  exact subscriptTail_builtinR (x := w) pl.typeIs slot_tuple_getitem.lookup
    (getItem_tuple (j := j) (Q := fun r s' => r = w ∧ EP X pins σ Q r s') pl (by (clear I hq he q hs r pl h1 h2 h5 ew rw' fin; omega)) (by (clear I hq he q hs r pl h1 h2 h4 ew rw' fin; omega)) (by rw [List.size_toArray, ← hl]; exact h1) (by simpa using ew) ⟨rfl, fin⟩) hs
theorem ix_str : IxR X rIxS := by
  intro value slice pins s σ H x y v u Q I rx ry h hs
  obtain ⟨z, i, c, rfl, rfl, hz, he, q⟩ := h
  obtain ⟨t, rfl⟩ := rx
  obtain ⟨t', rfl⟩ := ry
  obtain ⟨j, h1, h2, h3, h4, h5⟩ := atI_get he
  have hl : z.cps.toList.length = z.length := by simp [Str.length]
  rw [hl] at h1 h4 h5
  have hn := line63
  exact tail_any (typeIs_str s z t) slot_str_getitem.lookup (getItem_str (c := c) (by
    have e1 : decide (i < -(2 ^ 63 : Int)) = false := decide_eq_false (by (clear I he q hs h1 h2 h3 h5; omega))
    have e2 : decide (i ≥ 2 ^ 63) = false := decide_eq_false (by (clear I he q hs h1 h2 h3 h4 e1; omega))
    rw [e1, e2, Bool.or_false]) (by rw [h1]; simpa using h2) ⟨.str ⟨#[c]⟩, H, I.tok _, ⟨_, rfl⟩, q⟩) hs
theorem slice_bounds (lo hi : Option Int) (n : Nat) : (sliceBounds lo hi none n).1 = ((HT.sIx n 0 lo : Nat) : Int) ∧ (sliceBounds lo hi none n).2.1 = ((HT.sIx n n hi : Nat) : Int) ∧ (sliceBounds lo hi none n).2.2 = 1 := by
  refine ⟨?_, ?_, rfl⟩
  · cases lo with
    | none => simp [sliceBounds, HT.sIx]
    | some i =>
      simp only [sliceBounds, HT.sIx, Option.getD_none, show (1 : Int) > 0 by decide, if_true]
      by_cases h : i < 0
      · simp only [h, if_true] <;> omega
      · simp only [h, if_false] <;> omega
  · cases hi with
    | none => simp [sliceBounds, HT.sIx]
    | some i =>
      simp only [sliceBounds, HT.sIx, Option.getD_none, show (1 : Int) > 0 by decide, if_true]
      by_cases h : i < 0
      · simp only [h, if_true] <;> omega
      · simp only [h, if_false] <;> omega
theorem slicePick_cut (its : List Value) (lo hi : Option Int) : slicePick its.toArray lo hi none = ((its.drop (HT.sIx its.length 0 lo)).take (HT.sIx its.length its.length hi - HT.sIx its.length 0 lo)).toArray := by
  obtain ⟨h1, h2, h3⟩ := slice_bounds lo hi its.toArray.size
  unfold slicePick
  rw [h1, h2, h3]
  simp only [sliceRange_one, pick_run, List.size_toArray] <;> rfl
noncomputable def rSlL (K : PySem.W.Frag) : V → Option Int → Option Int → Hp → VK → Prop := fun x lo hi H Q => ∃ a xs, x = .ref a ∧ SqL K H a xs ∧ ∀ p, H p = none → Q (.ref p) (upd H p (.lst (cutV xs lo hi)))
theorem sl_list : SlR X (rSlL X.K) := by
  intro pins s σ H x v vl vu lo hi sl Q I rx hs pl pu h
  obtain ⟨a, xs, rfl, hx, q⟩ := h
  cases rx
  obtain ⟨its, r, ht, hz⟩ := I.list hx
  have hlen := r.length
  refine ⟨"list", _, slot_list_getitem.lookup, ht.isList.typeIs, ?_⟩
  refine wpAny_getItem_list_slice ht.isList hs pl pu .none (by simp) ?_ (by rw [List.size_toArray] <;> (clear I hs pl pu hx q r ht; omega))
  rw [slicePick_cut, ← hlen]
  refine ⟨.ref s.heap.objs.size, _, I.laid (t' := s.toks) (o := .lst (cutV xs lo hi)) (fun b ob q => Heap.get?_push_of_some _ q) (Nat.le_refl _) ?_, rfl, q _ (I.hok.fresh (Nat.le_refl _))⟩
  exact ⟨Nat.le_trans (cutV_length xs lo hi) hz, _, 0, (r.drop (HT.sIx xs.length 0 lo)).take (HT.sIx xs.length xs.length hi - HT.sIx xs.length 0 lo), Heap.get?_push_size _ rfl⟩
theorem call_len_seq : CallR X (.builtin "len") (fun xs H Q => ∃ p ys, xs = [.ref p] ∧ (SqL X.K H p ys ∨ SqT X.K H p ys) ∧ Q (.int ys.length) H) := by
  intro pins s σ H xs us Q I r h
  obtain ⟨p, ys, rfl, hq, q⟩ := h
  obtain ⟨u, rfl, rx⟩ := vals1 r
  cases rx
  have hn := line63
  rcases hq with hq | hq
  · obtain ⟨its, r', pl, hz⟩ := I.list hq
    have hlen := r'.length
    exact Calls.call_len_list pl.isList (by simp only [List.size_toArray] <;> (clear I q r hq r' pl; omega)) ⟨.int ys.length, H, I.tok _, ⟨s.toks + 1, by rw [List.size_toArray, hlen]⟩, q⟩
  · obtain ⟨its, r', pl, hz⟩ := I.tuple hq
    have hlen := r'.length
    exact len_tuple pl (by simp only [List.size_toArray] <;> (clear I q r hq r' pl; omega)) ⟨.int ys.length, H, I.tok _, ⟨s.toks + 1, by rw [List.size_toArray, hlen]⟩, q⟩
theorem call_len_str : CallR X (.builtin "len") (fun xs H Q => ∃ z, xs = [.str z] ∧ z.length ≤ sizeLine ∧ Q (.int z.length) H) := by
  intro pins s σ H xs us Q I r h
  obtain ⟨z, rfl, hz, q⟩ := h
  obtain ⟨u, rfl, t, rfl⟩ := vals1 r
  have hn := line63
  exact len_str (by (clear I q r; omega)) ⟨.int z.length, H, I.tok _, ⟨_, rfl⟩, q⟩
theorem call_list_of : CallR X (.type "list") (fun xs H Q => ∃ p ys, xs = [.ref p] ∧ (SqL X.K H p ys ∨ SqT X.K H p ys) ∧ ∀ l, H l = none → Q (.ref l) (upd H l (.lst ys))) := by
  intro pins s σ H xs us Q I r h
  obtain ⟨p, ys, rfl, hq, q⟩ := h
  obtain ⟨u, rfl, rx⟩ := vals1 r
  cases rx
  have fin : ∀ (its : List Value), Vals ys its → ys.length ≤ sizeLine → ∀ (h' : Heap) (c' : Nat), (∀ b o', s.heap.get? b = some o' → h'.get? b = some o') →
      h'.get? s.heap.objs.size = some { cls := .type "list", dict := none, data := .seq its.toArray c', slots := #[] } → EP X pins σ Q (.ref s.heap.objs.size) { s with heap := h' } := fun its r' hz h' c' kp e =>
    ⟨.ref s.heap.objs.size, _, I.laid (t' := s.toks) kp (Nat.le_refl _) (show ObjOk X.prog X.w _ h' _ (.lst ys) from ⟨hz, its, c', r', e⟩), rfl, q _ (I.hok.fresh (Nat.le_refl _))⟩
  rcases hq with hq | hq
  · obtain ⟨its, r', pl, hz⟩ := I.list hq
    have hlen := r'.length
    obtain ⟨o, ho, hc, n, hd⟩ := pl.isList
    exact call_list_seq p (.inl rfl) ho hc hd (fun h' c' kp e => fin its r' hz h' c' kp e) (by simp only [List.size_toArray] <;> (clear I q r fin hq r' pl ho hc hd; omega))
  · obtain ⟨its, r', pl, hz⟩ := I.tuple hq
    have hlen := r'.length
    obtain ⟨o, ho, hc, n, hd⟩ := pl
    exact call_list_seq p (.inr rfl) ho hc hd (fun h' c' kp e => fin its r' hz h' c' kp e) (by simp only [List.size_toArray] <;> (clear I q r fin hq r' ho hc hd; omega))
noncomputable def tyV (K : PySem.W.Frag) (T : String) (x : V) (H : Hp) : Prop := match x with
  | .str _ => T = "str"
  | .int _ => T = "int"
  | .ref p => (T = "list" ∧ ∃ xs, SqL K H p xs) ∨ (T = "tuple" ∧ ∃ o, K.lookup p = some o ∧ o.cls = .type "tuple" ∧ o.dict = none) ∨
      (T = "dict" ∧ ((∃ kvs, H p = some (.dK kvs)) ∨ ∃ kvs, H p = some (.dT kvs))) ∨ (T = "set" ∧ ∃ S n, H p = some (.set S n))
  | _ => False
theorem tyV_is {pins : List (Addr × Obj)} {σ : St} {H : Hp} {s : Shared} {T : String} {x : V} {v : Value} (I : Inv X pins σ H s) (r : RelV x v) (ty : tyV X.K T x H) :
    s.TypeIs v T ∧ ∀ a, v = .ref a → ∃ ob, s.heap.get? a = some ob ∧ ob.dict = none := by
  cases x with
  | str z =>
    obtain ⟨t, rfl⟩ := r
    cases (show T = "str" from ty)
    exact ⟨typeIs_str s z t, fun _ e => nomatch e⟩
  | int i =>
    obtain ⟨t, rfl⟩ := r
    cases (show T = "int" from ty)
    exact ⟨typeIs_int s i t, fun _ e => nomatch e⟩
  | ref p =>
    cases r
    rcases ty with ⟨rfl, xs, hq⟩ | ⟨rfl, o, hk, hc, hd⟩ | ⟨rfl, hk⟩ | ⟨rfl, S, n, hk⟩
    · obtain ⟨its, _, pl, _⟩ := I.list hq
      refine ⟨pl.isList.typeIs, fun a e => ?_⟩
      cases e
      obtain ⟨o, n, e, c, hd, _⟩ := pl
      exact ⟨o, e, hd⟩
    · refine ⟨⟨o, I.kIn p o hk, hc⟩, fun a e => ?_⟩
      cases e
      exact ⟨o, I.kIn _ o hk, hd⟩
    · have z : ∃ o, s.heap.get? p = some o ∧ o.ExactDict := by
        rcases hk with ⟨kvs, hk⟩ | ⟨kvs, hk⟩
        · obtain ⟨_, _, _, _, o, _, _, e, ex, _⟩ := I.hok p _ hk
          exact ⟨o, e, ex⟩
        · obtain ⟨_, _, _, _, o, _, _, e, ex, _⟩ := I.hok p _ hk
          exact ⟨o, e, ex⟩
      obtain ⟨o, e, ex⟩ := z
      refine ⟨⟨o, e, ex.1⟩, fun a e2 => ?_⟩
      cases e2
      exact ⟨o, e, ex.2.1⟩
    · obtain ⟨o, _, _, _, e, ex, _⟩ := I.hok p _ hk
      refine ⟨⟨o, e, ex.1⟩, fun a e2 => ?_⟩
      cases e2
      exact ⟨o, e, ex.2.1⟩
  | _ => exact False.elim ty
noncomputable def tBM0 (K : PySem.W.Frag) (T : String) (r : V → List V → Hp → VK → Prop) (to : TE) : TE := fun σ H Q => to σ H fun x H1 => tyV K T x H1 ∧ r x [] H1 Q
noncomputable def tBM (K : PySem.W.Frag) (T : String) (r : V → List V → Hp → VK → Prop) (to : TE) (t : TA) : TE := fun σ H Q => to σ H fun x H1 => tyV K T x H1 ∧ t σ H1 fun xs H2 => r x xs H2 Q
variable {o e : Expr} {es : List Expr} {to : TE} {t : TA} {name : Str} {apos cpos : Pos} {T id : String} {r : V → List V → Hp → VK → Prop}
theorem pe_bm0 (pa : PlainAttrs T) (slot : Slot T name id) (hty : typeOf (.builtin id) = pure (.type "method_descriptor")) (hm : MtR X id r) (ho : PE X o to)
    (hbase : attributeBase o name X.env (eval o X.env) = eval o X.env := by rfl) (hline : (apos.endLine == cpos.line) = true := by rfl) : PE X (.Call (.Attribute o name apos) [] [] cpos) (tBM0 X.K T r to) := by
  intro pins s σ H Q I h
  refine wpAny_Call_method0_late hbase hline (thn (ho pins s σ H _ I h) fun v s1 ⟨x, H1, I1, r1, ty, q1⟩ => ?_)
  obtain ⟨h1, h2⟩ := tyV_is I1 r1 ty
  exact ⟨T, id, pa, slot, hty, h1, h2, Calls.callWith_builtin rfl (PySem.evalArgs_none (hm pins s1 σ H1 x [] v [] Q I1 r1 .nil q1))⟩
theorem pe_bm (pa : PlainAttrs T) (slot : Slot T name id) (hty : typeOf (.builtin id) = pure (.type "method_descriptor")) (hm : MtR X id r) (ho : PE X o to) (ha : PA X (e :: es) t)
    (hbase : attributeBase o name X.env (eval o X.env) = eval o X.env := by rfl)
    (hfew : ((backTo cpos (starEach (e :: es) X.env)).all (fun x => !x.1) && (backToKw cpos (keywordEach [] X.env)).all (fun x => x.1.isSome)
      && decide ((e :: es).length + ([] : List Keyword).length + (if ([] : List Keyword).isEmpty then 0 else 1) < 30)) = true := by rfl)
    (hline : (apos.endLine == cpos.line) = true := by rfl) (hs : starEach (e :: es) X.env = (false, eval e X.env) :: starEach es X.env := by rfl) (hplain : (backTo cpos (starEach es X.env)).any (·.1) = false := by rfl) :
    PE X (.Call (.Attribute o name apos) (e :: es) [] cpos) (tBM X.K T r to t) := by
  intro pins s σ H Q I h
  refine wpAny_Call_method_late hbase hfew hline rfl (thn (ho pins s σ H _ I h) fun v s1 ⟨x, H1, I1, r1, ty, q1⟩ => ?_)
  obtain ⟨h1, h2⟩ := tyV_is I1 r1 ty
  refine ⟨T, id, pa, slot, hty, h1, h2, ?_⟩
  have hA := ha cpos pins s1 σ H1 _ I1 q1
  rw [hs] at hA ⊢
  refine Calls.callWith_builtin (by show (false || (backTo cpos (starEach es X.env)).any (·.1)) = false; rw [hplain] <;> rfl) (Calls.evalArgs_plain ?_)
  exact thn hA fun us s2 ⟨vs, H2, I2, r2, q2⟩ => hm pins s2 σ H2 x vs v us Q I2 r1 r2 q2
end
end L2
namespace L2
open PySem PySem.Spec PyProof.Rows
noncomputable def MtM (X : Cx) (id : String) (r : V → List V → Hp → VK → Prop) : Prop :=
  ∀ (pins : List (Addr × Obj)) (s : Shared) (σ : St) (H : Hp) (x : V) (xs : List V) (v : Value) (us : List Value) (Q : VK), Inv X pins σ H s → RelV x v → Vals xs us → r x xs H Q →
    wpAny (model X.prog X.w) X.A (call (.builtin id) (v :: us)) (EP X pins σ Q) X.xe s
theorem Vals.one : ∀ {x : V} {us : List Value}, Vals [x] us → ∃ u, us = [u] ∧ RelV x u
  | _, _, .cons r .nil => ⟨_, rfl, r⟩
theorem Vals.zero : ∀ {us : List Value}, Vals [] us → us = []
  | _, .nil => rfl
theorem Vals.dropLast {xs : List V} {us : List Value} (h : Vals xs us) : Vals xs.dropLast us.dropLast := by
  induction h with
  | nil => exact .nil
  | cons r t ih =>
    cases t with
    | nil => exact .nil
    | cons q t' => exact .cons r ih
theorem Vals.rep {xs : List V} {us : List Value} (h : Vals xs us) : ∀ k : Nat, Vals (List.replicate k xs).flatten (List.replicate k us).flatten
  | 0 => .nil
  | k + 1 => by
    rw [List.replicate_succ, List.replicate_succ, List.flatten_cons, List.flatten_cons]
    exact Vals.append h (Vals.rep h k)
theorem erase_last {α : Type} (l : List α) : l.eraseIdx (l.length - 1) = l.dropLast := by
  induction l with
  | nil => rfl
  | cons a r ih =>
    cases r with
    | nil => rfl
    | cons b r =>
      have e : (a :: b :: r).length - 1 = ((b :: r).length - 1) + 1 := by
        have h1 : (a :: b :: r).length = r.length + 2 := rfl
        have h2 : (b :: r).length = r.length + 1 := rfl
        assumption
      rw [e, List.eraseIdx_cons_succ, ih]
      all_goals rfl
theorem foldl_rep (its : List Value) : ∀ (k : Nat) (acc : List Value),
    List.foldl (fun x1 x2 => x1 ++ x2) acc.toArray (List.replicate k its.toArray) = (acc ++ (List.replicate k its).flatten).toArray
  | 0, acc => by simp
  | k + 1, acc => by
    have e : acc.toArray ++ its.toArray = (acc ++ its).toArray := by simp
    have e2 : (acc ++ its) ++ (List.replicate k its).flatten = acc ++ (List.replicate (k + 1) its).flatten := by
      rw [List.replicate_succ, List.flatten_cons, List.append_assoc]
    rw [← e2, ← foldl_rep its k (acc ++ its), ← e, List.replicate_succ, List.foldl_cons]
section
variable {X : Cx} {pins : List (Addr × Obj)} {σ : St} {H : Hp} {s : Shared} {l b : Addr} {xs ys zs : List V}
theorem Inv.lset {its its' : List Value} {n : Nat} {f : Array Value → Array Value} {t' : Nat} (I : Inv X pins σ H s) (hH : H l = some (.lst xs))
    (e : s.heap.get? l = some { cls := .type "list", data := .seq its.toArray n }) (hf : f its.toArray = its'.toArray) (hv : Vals ys its') (hz : ys.length ≤ sizeLine) :
    Inv X pins σ (upd H l (.lst ys)) { s with heap := s.heap.update l (Obj.mapSeq f), toks := t' } := by
  have q := PySem.IsL.update e f
  rw [hf] at q
  refine I.write (x := l) (e := l) (by rw [hH]; exact trivial) (.inl rfl) (fun b' u hb hu => (Heap.get?_update_other s.heap (Obj.mapSeq f) (Ne.symm hb)).trans hu) ⟨_, q⟩ ?_
  exact ⟨hz, its', _, hv, q⟩
theorem Inv.lnew {its : List Value} {t' : Nat} (I : Inv X pins σ H s) (hv : Vals ys its) (hz : ys.length ≤ sizeLine) :
    Inv X pins σ (upd H s.heap.objs.size (.lst ys)) { s with heap := s.heap.push { cls := .type "list", data := .seq its.toArray }, toks := t' } :=
  I.laid (fun _ _ q => Heap.get?_push_of_some _ q) (Nat.le_refl _) ⟨hz, its, 0, hv, Heap.get?_push_size _ rfl⟩
theorem Inv.fresh (I : Inv X pins σ H s) : H s.heap.objs.size = none := I.hok.fresh (Nat.le_refl _)
theorem Inv.lstM (I : Inv X pins σ H s) (hH : H l = some (.lst xs)) : xs.length ≤ sizeLine ∧ ∃ (its : List Value) (n : Nat), Vals xs its ∧ xs.length = its.length ∧ s.heap.get? l = some { cls := .type "list", data := .seq its.toArray n } := by
  obtain ⟨z, its, n, r, e⟩ := I.hok l _ hH
  exact ⟨z, its, n, r, r.length, e⟩
theorem notLongL {n : Nat} (h : n ≤ sizeLine) : Builtin.List.listTooLong n = false := by
  unfold Builtin.List.listTooLong
  exact decide_eq_false (by omega)
end
section
variable {X : Cx}
noncomputable def rAppend : V → List V → Hp → VK → Prop := fun x vs H Q => ∃ l xs y, x = .ref l ∧ vs = [y] ∧ H l = some (.lst xs) ∧ xs.length < sizeLine ∧ Q .non (upd H l (.lst (xs ++ [y])))
theorem mt_append : MtM X "list.append" rAppend := by
  intro pins s σ H x vs v us Q I rx rv h
  obtain ⟨l, xs, y, rfl, rfl, hH, hz, q⟩ := h
  cases rx
  obtain ⟨u, rfl, ru⟩ := rv.one
  obtain ⟨z, its, n, r, hl, e⟩ := I.lstM hH
  refine call_meets F.slot_list_append ⟨_, e, rfl⟩ F.entry_list_append (F.args_list_append_2 _ _) (PySem.list_append l its.toArray n u (by rw [List.size_toArray]; (clear I hH q ru rv z r e; omega))) ⟨e, ?_⟩
  refine ⟨.non, _, I.lset (its' := its ++ [u]) hH e (by simp) (r.append (.cons ru .nil)) ?_, rfl, q⟩
  rw [List.length_append, List.length_singleton]
  assumption
noncomputable def rPop : V → List V → Hp → VK → Prop := fun x vs H Q => ∃ l xs y, x = .ref l ∧ vs = [] ∧ H l = some (.lst xs) ∧ xs[xs.length - 1]? = some y ∧ Q y (upd H l (.lst xs.dropLast))
theorem mt_pop : MtM X "list.pop" rPop := by
  intro pins s σ H x vs v us Q I rx rv h
  obtain ⟨l, xs, y, rfl, rfl, hH, hy, q⟩ := h
  cases rx
  have hus := rv.zero
  subst hus
  obtain ⟨z, its, n, r, hl, e⟩ := I.lstM hH
  obtain ⟨u, hu, ru⟩ := r.get hy
  have hy' : its.toArray[its.toArray.size - 1]? = some u := by
    show its.toArray[its.length - 1]? = some u
    rw [← Array.getElem?_toList, ← hl]
    exact hu
  refine call_meets F.slot_list_pop ⟨_, e, rfl⟩ F.entry_list_pop (F.args_list_pop_1 _) (MeetsSeq.list_pop_last l its.toArray n u hy' (by rw [List.size_toArray]; (clear I hH hy q rv r e hu ru hy'; omega))) ⟨e, ?_⟩
  refine ⟨y, _, I.lset (its' := its.dropLast) hH e ?_ r.dropLast ?_, ru, q⟩
  · show its.toArray.eraseIdxIfInBounds (its.toArray.size - 1) = its.dropLast.toArray
    rw [List.size_toArray, List.eraseIdxIfInBounds_toArray, erase_last]
  · rw [List.length_dropLast]
    (clear I hH hy q rv r e hu ru hy'; omega)
noncomputable def rCat : R2 := fun x y H Q => ∃ l b xs zs, x = .ref l ∧ y = .ref b ∧ H l = some (.lst xs) ∧ H b = some (.lst zs) ∧ xs.length + zs.length ≤ sizeLine ∧ ∀ p, H p = none → Q (.ref p) (upd H p (.lst (xs ++ zs)))
theorem op_cat : OpR X (binaryOp .Add) rCat := by
  intro pins s σ H x y v u Q I rx ry h
  obtain ⟨l, b, xs, zs, rfl, rfl, hH, hB, hz, q⟩ := h
  cases rx
  cases ry
  obtain ⟨z, its, n, r, hl, e⟩ := I.lstM hH
  obtain ⟨z2, its2, n2, r2, hl2, e2⟩ := I.lstM hB
  refine PySem.P.add_list e e2 ?_ (by rw [List.size_toArray, List.size_toArray]; (clear I hH hB q z r e z2 r2 e2; omega))
  have ea : its.toArray ++ its2.toArray = (its ++ its2).toArray := by simp
  rw [ea]
  exact ⟨.ref _, _, I.lnew (t' := s.toks) (r.append r2) (by rw [List.length_append]; assumption), rfl, q _ I.fresh⟩
noncomputable def rRep : R2 := fun x y H Q => ∃ l k xs, x = .ref l ∧ y = .int k ∧ H l = some (.lst xs) ∧ -(2 ^ 63) ≤ k ∧ k < 2 ^ 63 ∧ xs.length * k.toNat ≤ sizeLine ∧
  ∀ p, H p = none → Q (.ref p) (upd H p (.lst (List.replicate k.toNat xs).flatten))
theorem len_rep {α : Type} (xs : List α) (k : Nat) : (List.replicate k xs).flatten.length = k * xs.length := by
  induction k with
  | zero => simp
  | succ k ih => rw [List.replicate_succ, List.flatten_cons, List.length_append, ih, Nat.succ_mul, Nat.add_comm]
theorem op_rep : OpR X (binaryOp .Mult) rRep := by
  intro pins s σ H x y v u Q I rx ry h
  obtain ⟨l, k, xs, rfl, rfl, hH, h1, h2, hz, q⟩ := h
  cases rx
  obtain ⟨t, rfl⟩ := ry
  obtain ⟨z, its, n, r, hl, e⟩ := I.lstM hH
  have hlen : its.toArray.size * k.toNat ≤ sizeLine := by rw [List.size_toArray, ← hl]; exact hz
  have hcap : ¬ its.toArray.size * k.toNat > (2 ^ 63 - 1) / 8 := by
    have : (sizeLine : Nat) ≤ (2 ^ 63 - 1) / 8 := by decide
    (clear I hH h1 h2 hz q z r hl e; omega)
  have hfit : ¬ (!Builtin.List.listFitsIndex k) = true := by
    rw [fitsIndex_both h1 h2]
    exact Bool.false_ne_true
  have hlong : ¬ Builtin.List.listTooLong (its.toArray.size * k.toNat) = true := by
    rw [notLongL hlen]
    exact Bool.false_ne_true
  have hnew : List.foldl (fun x1 x2 => x1 ++ x2) #[] (List.replicate (if its.toArray.isEmpty = true then 0 else k.toNat) its.toArray) = (List.replicate k.toNat its).flatten.toArray := by
    have f0 : ∀ m : Nat, List.foldl (fun x1 x2 => x1 ++ x2) #[] (List.replicate m its.toArray) = (List.replicate m its).flatten.toArray := fun m => by
      have := foldl_rep its m []
      rw [List.nil_append] at this
      exact this
    rw [f0]
    cases its with
    | nil => simp
    | cons a r' => rw [if_neg (by simp)]
  refine wpAny_binaryOp_repeat_ref (T := "list") (U := "int") (by decide) ⟨_, e, rfl⟩ (fun s' => typeIs_int s' k t) noFill_list_mul F.fills_int_mul F.slot_int_rmul repeat_list F.slot_int_index.lookup
    (call_meets F.slot_int_rmul (typeIs_int s k t) F.entry_int_rmul (F.args_int_rmul_2 _ _) (int___rmul___int_list k t l its.toArray n)
      ⟨e, rfl, ⟨_, e, rfl⟩, call_meets F.slot_list_mul ⟨_, e, rfl⟩ F.entry_list_mul (F.args_list_mul_2 _ _) (AutoListH.list___mul___list_int_3 l its.toArray n k t hfit hcap hlong) ⟨e, ?_⟩⟩)
  rw [hnew]
  exact ⟨.ref _, _, I.lnew (t' := s.toks) (r.rep k.toNat) (by rw [len_rep, Nat.mul_comm]; exact hz), rfl, q _ I.fresh⟩
end
section
variable {prog : Program} {w : World} {A : Around} {E : Value → Shared → Prop} {s : Shared}
set_option maxRecDepth 100000 in
end
section
variable {X : Cx}
end
end L2
namespace Att
open PySem PySem.W PySem.Calls PyProof.Rows
theorem ints_of_wellAll {P : Params} {h : Heap} : ∀ (ns : List Int) (vs : List Value), WellAll P h vs (ns.map WData.int) → IntsAre vs ns := by
  intro ns
  induction ns with
  | nil =>
    intro vs w
    rw [List.map_nil] at w
    cases w
    exact .nil
  | cons n ns ih =>
    intro vs w
    rw [List.map_cons] at w
    cases w with
    | cons a b =>
      cases a
      exact .cons _ _ (ih _ b)
theorem script_of {l : OpenLaw} {n : Nat} (hn : l.most = some n) {P : Params} {h : Heap} {args : List WData} {vals : List Value}
    (hpre : l.row.toRowW.claim.pre args = true) (hwl : WellAll P h vals args) :
    ∃ a vs ns, vals = [Value.ref a] ∧ args = [WData.list (ns.map WData.int)] ∧ h.get? a = some { cls := .type "list", data := .seq vs.toArray } ∧ IntsAre vs ns ∧ ns.length ≤ n := by
  have hsh : WShape.hasAll [] args [.list .int] = true := (pre_splitW hpre).1
  have hc : l.pre.holds [] { args := args } = true := (pre_splitW hpre).2
  obtain ⟨d, r, rfl, h1, h2⟩ := hasAllW_cons hsh
  obtain rfl := hasAllW_nil h2
  obtain ⟨xs, rfl, h3⟩ := hasW_list h1
  obtain ⟨ns, rfl⟩ := items_int h3
  have hlen : ns.length ≤ n := by
    unfold OpenLaw.pre at hc
    have h4 : (WTm.not (.lt (.lit (.int (n : Int))) (.len (.arg 0)))).holds [] { args := [.list (ns.map .int)] } = true := by
      have h4 := (holds_andW hc).1
      rw [hn] at h4
      exact h4
    have h5 := condW_of h4 (w_not (w_lt w_lit (w_len_list (w_arg rfl))))
    rw [List.length_map] at h5
    refine Nat.le_of_not_lt fun q => ?_
    have q' : (n : Int) < ((ns.length : Nat) : Int) := by (clear hn h2 h3 h1 hpre hwl hsh hc h4 h5; omega)
    first
      | (rw [decide_eq_true q'] at h5; exact absurd h5 (by decide))
      | (simp at h5; omega)
  cases hwl with
  | cons w1 w2 =>
    cases w2
    cases w1 with
    | list ho hall => exact ⟨_, _, ns, rfl, rfl, ho, ints_of_wellAll ns _ hall, hlen⟩
theorem post_true (l : OpenLaw) (args : List WData) : l.row.toRowW.claim.post args (.bool true) args = true :=
  postW_of (r := l.row.toRowW) (X := (true == true))
    (show WShape.has [] (.bool true) .bool = true by first | rfl | decide | simp [WShape.has, WShape.arms, WShape.armsAll])
    (show (WTm.eq .res (.lit (.bool true))).value [] { args := args, res := some (.bool true), after := args } = some (.bool (true == true)) from w_eq_bool (w_res rfl) w_lit) rfl
theorem attach_call {l : OpenLaw} {n : Nat} {q : Program} {loose : List Str} {XP : (Str → Option Value) → Heap → Prop} {YP : World → Heap → Prop} {d : DefRec}
    (hn : l.most = some n) (hdf : d.params.defaults = [])
    (call : ∀ (w : World) (s₀ s₁ : Shared) (mg mb : Str → Option Value) (fa : Addr) (o : Obj) (pm cd doc : Value) (a : Addr) (vs : List Value) (ns : List Int),
      Ground q loose [] XP w s₀ mg mb s₁.heap → YP w s₁.heap →
      s₁.heap.get? fa = some o → o.data = .func (docDef d.name d.params d.body d.scope pm cd doc) → s₁.heap.CodeRec cd d.name → mg d.name = some (.ref fa) →
      s₁.heap.get? a = some { cls := .type "list", data := .seq vs.toArray } → IntsAre vs ns → ns.length ≤ n → s₁.gens = #[] →
      codeAny (model l.prog w) callerA (.call (.ref fa) ⟨[.ref a], []⟩) (fun r s' => r = .ok (.ret (.bool true)) ∧ OldK s₁.heap s'.heap ∧ s'.os = s₁.os ∧ AllBare s'.gens) s₁) :
    WalkO q loose XP YP l.row.toRowW d [] (fun f vs => PySem.call f vs) := by
  intro w s₀ s₁ mg mb G Y fa o pm cd doc dV kV ho hd hcd hD hmg hg args vals as hpre hlay hrd hwl hlo
  obtain rfl : dV = .none := Dflts.none hD hdf
  obtain rfl : kV = .none := Dflts.noKw hD
  obtain ⟨a, vs, ns, rfl, rfl, hobj, hints, hlen⟩ := script_of hn hpre hwl
  refine enter_call (codeAny_mono (call w s₀ s₁ mg mb fa o pm cd doc a vs ns G Y ho (fd_plain hd) hcd hmg hobj hints hlen hg) fun r s' hq => ?_)
  obtain ⟨rfl, h2, h3, h4⟩ := hq
  exact ⟨.inl ⟨.bool true, .bool true, [], rfl, fun _ => rfl, .bool true, post_true l _, fun _ => ⟨List.Pairwise.nil, fun _ hm => (nomatch hm)⟩⟩, h2, h3, h4⟩
section
variable {prog : Program} {w : World} {A : Around} {E : Value → Shared → Prop} {s : Shared} {K : Frag}
end
end Att
namespace L2
open PySem PySem.Spec PyProof.Rows
theorem vals_ints : ∀ {vs : List Value} {ns : List Int}, IntsAre vs ns → Vals (ns.map V.int) vs
  | _, _, .nil => .nil
  | _, _, .cons n t h => .cons ⟨t, rfl⟩ (vals_ints h)
noncomputable def Only (H : Hp) : Prop := ∀ b, H b = none ∨ ∃ o xs, H b = some (.frz o (.lst xs))
theorem law_call {P : Program} {w : World} {K : PySem.W.Frag} {mg mb : Str → Option Value} {CX : CXT} {k : Nat} {fa a : Addr} {fd : FuncData} {x : Str} {sp : Sp} {s₁ : Shared} {vs : List Value} {ns : List Int}
    (KX : K.In s₁.heap) (hns : s₁.heap.Ns mainGlobals mg) (hb : s₁.heap.Ns builtinsNs mb) (hbb : ∀ x : Str, x ≠ "__name__" → mb x = bootBuiltins x) (hlim : s₁.heap.NoLimit) (hg : s₁.gens = #[])
    (ha : s₁.heap.get? a = some { cls := .type "list", data := .seq vs.toArray }) (hi : IntsAre vs ns) (hl : ns.length ≤ sizeLine) (hr : Room k callerA)
    (F : ∀ base : Heap, K.In base → base.Ns mainGlobals mg → FnOk P w K mg base CX k fa fd [x] sp) (hbind : ∀ (s : Shared) (u : Value), BindsTo s fd ⟨[u], []⟩ [(x, u)])
    (hsp : ∀ H : Hp, Only H → SqL K H a (ns.map V.int) → sp [.ref a] H (fun v _ => v = .bl true) fun _ _ _ => False)
    (hCX : ∀ H e s', CX [] H s₁ (fun _ _ _ => False) e s' → False) :
    codeAny (model P w) callerA (.call (.ref fa) ⟨[.ref a], []⟩) (fun r s' => r = .ok (.ret (.bool true)) ∧ OldK s₁.heap s'.heap ∧ s'.os = s₁.os ∧ AllBare s'.gens) s₁ := by
  have rv := vals_ints hi
  have lenV := hi.length
  -- from an abstract heap in which nothing but the script may be tracked
  have core : ∀ H : Hp, Only H → SqL K H a (ns.map V.int) → HOk P w H s₁.heap → (∀ b, H b ≠ none → b = a) → (H a ≠ none → K.lookup a = none) →
      codeAny (model P w) callerA (.call (.ref fa) ⟨[.ref a], []⟩) (fun r s' => r = .ok (.ret (.bool true)) ∧ OldK s₁.heap s'.heap ∧ s'.os = s₁.os ∧ AllBare s'.gens) s₁ := by
    intro H hO hS hok hA hK
    have base_of : ∀ {b : Addr} {o : Obj}, s₁.heap.get? b = some o → H b = none → (hidT s₁.heap H).get? b = some o := fun e n => hidT_get e n
    have noA : ∀ {b : Addr} {o : Obj} {es : Array DictEntry} {ep : Nat}, s₁.heap.get? b = some o → o.data = .dict es ep → H b = none := fun {b o es ep} e d => by
      cases q : H b with
      | none => rfl
      | some u =>
        have e' : b = a := hA b (by rw [q]; simp)
        subst e'
        rw [ha] at e; cases e
        have d' : Data.seq vs.toArray _ = Data.dict es ep := d
        cases d'
    have nsK : ∀ {b : Addr} {m : Str → Option Value}, s₁.heap.Ns b m → (hidT s₁.heap H).Ns b m := fun {b m} ⟨o, es, ep, e, d, r⟩ => ⟨o, es, ep, base_of e (noA e d), d, r⟩
    have hKb : K.In (hidT s₁.heap H) := fun b o e => base_of (KX b o e) (by
      cases q : H b with
      | none => rfl
      | some u =>
        have e' : b = a := hA b (by rw [q]; simp)
        subst e'
        rw [hK (by rw [q]; simp)] at e; cases e)
    have hM : Mod K mg (hidT s₁.heap H) := ⟨hKb, nsK hns, ⟨mb, nsK hb, hbb⟩, let ⟨mc, h1, h2⟩ := hlim; ⟨mc, nsK h1, h2⟩⟩
    have e0 : Env0 P w K mg (hidT s₁.heap H) callerA [] s₁ H := ⟨rfl, hM, fun b o e => of_hidT e, Nat.le_of_eq (hidT_size _ _), trivial, fun b hb => absurd (show b ∈ ([] : List Addr) from hb) (by simp), hok, .of_eq hg⟩
    refine codeAny_mono ((F _ hKb (nsK hns)).run callerA [] s₁ H ⟨[.ref a], []⟩ [.ref a] [.ref a] _ _ hr e0 (hbind s₁ (.ref a)) (.cons rfl .nil) (hsp H hO hS)) fun r s' h => ?_
    cases r with
    | error e => exact (hCX H e s' h).elim
    | ok fl =>
      cases fl with
      | next => exact False.elim h
      | brk => exact False.elim h
      | cont => exact False.elim h
      | ret u =>
        obtain ⟨v, H', os, bare, un, hok', r', q⟩ := h
        have q' : v = .bl true := q
        subst q'
        obtain rfl : u = Value.bool true := r'
        refine ⟨rfl, OldK.of_keep fun b o e => ?_, os, bare⟩
        cases q : H b with
        | none => exact un.keep b o e q (by intro z; exact absurd (show b ∈ ([] : List Addr) from z) (by simp)) (by simp)
        | some u =>
          rcases hO b with z | ⟨ob, xs, z⟩
          · rw [q] at z; cases z
          · have z2 := un.frzs b ob _ z
            obtain ⟨e1, _⟩ := hok b _ z
            obtain ⟨e2, _⟩ := hok' b _ z2
            rw [e] at e1; cases e1
            exact e2
  cases hk : K.lookup a with
  | some o =>
    -- the script is one of the module's own objects
    have e := KX a o hk
    rw [ha] at e
    cases e
    refine core (fun _ => none) (fun _ => .inl rfl) (.inr ⟨_, vs.toArray, _, hk, rfl, rfl, rfl, by rw [List.size_toArray, lenV]; exact hl, by simpa using rv⟩) (fun b u z => by have z' : (none : Option HO) = some u := z; cases z') (fun b z => absurd rfl z) fun z => absurd rfl z
  | none =>
    refine core (fun b => if b = a then some (.frz { cls := .type "list", data := .seq vs.toArray } (.lst (ns.map V.int))) else none) (fun b => ?_) (.inl (.inr ⟨{ cls := .type "list", data := .seq vs.toArray }, if_pos rfl⟩)) (fun b u z => ?_) (fun b z => ?_) fun _ => hk
    · by_cases hb : b = a
      · exact .inr ⟨_, _, if_pos hb⟩
      · exact .inl (if_neg hb)
    · by_cases hb : b = a
      · have z' := (if_pos hb).symm.trans z
        cases z'
        subst hb
        exact ⟨ha, by rw [List.length_map]; exact hl, vs, _, rv, ha⟩
      · have z' := (if_neg hb).symm.trans z
        cases z'
    · by_cases hb : b = a
      · exact hb
      · exact absurd (if_neg hb) z
end L2
namespace L2
open PySem PySem.Spec PyProof.Rows
theorem walk_of {l : PySem.W.OpenLaw} {n k : Nat} {q : Program} {loose : List Str} {XP : (Str → Option Value) → Heap → Prop} {YP : World → Heap → Prop} {d : DefRec} {K : Params → PySem.W.Frag} {CX : World → CXT} {sp : World → Sp} {x : Str}
    (hn : l.most = some n) (hn2 : n ≤ sizeLine) (hdf : d.params.defaults = []) (hr : Room k callerA)
    (hY : ∀ (w : World) (h : Heap), YP w h → (K w.params).In h)
    (F : ∀ (w : World) (mg : Str → Option Value) (fa : Addr) (h : Heap), (K w.params).In h → h.Ns mainGlobals mg → mg d.name = some (.ref fa) →
      ∃ fd : FuncData, (∀ (s : Shared) (u : Value), BindsTo s fd ⟨[u], []⟩ [(x, u)]) ∧
        ∀ base : Heap, (K w.params).In base → base.Ns mainGlobals mg → FnOk l.prog w (K w.params) mg base (CX w) k fa fd [x] (sp w))
    (hsp : ∀ (w : World) (H : Hp) (a : Addr) (ns : List Int), ns.length ≤ n → Only H → SqL (K w.params) H a (ns.map V.int) → sp w [.ref a] H (fun v _ => v = .bl true) fun _ _ _ => False)
    (hCX : ∀ (w : World) (H : Hp) (s : Shared) (e : Value) (s' : Shared), CX w [] H s (fun _ _ _ => False) e s' → False) :
    PySem.W.WalkO q loose XP YP l.row.toRowW d [] (fun f vs => PySem.call f vs) := by
  refine Att.attach_call hn hdf fun w s₀ s₁ mg mb fa o pm cd doc a vs ns G Y ho hd hcd hmg hobj hints hlen hg => ?_
  have KX := hY w _ Y
  obtain ⟨fd, hb, hF⟩ := F w mg fa _ KX G.T.g hmg
  exact law_call KX G.T.g G.T.b G.T.builtins G.T.nolimit hg hobj hints (Nat.le_trans hlen hn2) hr hF hb (fun H hO hS => hsp w H a ns hlen hO hS) fun H e s' => hCX w H s₁ e s'
end L2
namespace L2
open PySem PySem.Spec PyProof.Rows
noncomputable def defArgs (s : Stmt) : Arguments := match s with
  | .FunctionDef _ a _ _ _ _ _ _ _ _ => a
  | _ => { posonlyargs := [], args := [], vararg := none, kwonlyargs := [], kw_defaults := [], kwarg := none, defaults := [] }
noncomputable def defBody (s : Stmt) : List Stmt := match s with
  | .FunctionDef _ _ b _ _ _ _ _ _ _ => b
  | _ => []
noncomputable def defScope (s : Stmt) : Scope := match s with
  | .FunctionDef _ _ _ _ _ _ sc _ _ _ => sc
  | _ => { kind := .function, names := [], isGenerator := false, isCoroutine := false }
noncomputable abbrev CX0 : CXT := fun _ _ _ _ _ _ => False
noncomputable abbrev E0 : XK := fun _ _ _ => False
theorem pass0 {X : Cx} : Passes CX0 X E0 := fun _ _ _ _ _ _ _ h => h.elim
structure Fun (K : PySem.W.Frag) (x qual : Str) (st : Stmt) (f : Addr) (fd : FuncData) : Prop where
  ex : ∃ (oc : Value) (od : Option Addr) (kV doc pm : Value) (an : Option Addr) (cdv ct : Value) (osl : Array (Option Value)),
    fd = PySem.W.fnOf x qual (defArgs st) (defBody st) (defScope st) .none kV doc pm an cdv ct ∧ K.lookup f = some ⟨oc, od, .func fd, osl⟩ ∧ PySem.W.codeIn K cdv qual = true
  kp : PySem.W.keepIn K (.ref f) = true
section
variable {P : Program} {w : World} {K : PySem.W.Frag} {mg : Str → Option Value} {base : Heap}
theorem Fun.ok {x qual : Str} {st : Stmt} {f : Addr} {fd : FuncData} {N ps : List Str} {k : Nat} {sp : Sp} (F : Fun K x qual st f fd) (S : FnScope N ps (defScope st)) (len : ∀ vs H Q E, sp vs H Q E → vs.length = ps.length)
    (hbody : ∀ (cdv : Value) (A : Around) (outer : List Env) (s : Shared) (H : Hp) (vs : List V) (Q : VK) (E : XK), Room k (A.deeper (envOfC qual (defScope st) s.heap.objs.size f cdv)) → sp vs H Q E →
      ∃ t, PSs (cxOf CX0 P w K mg base N qual (defScope st) f cdv A outer s H E).nox (defBody st) t ∧ t { nx := fun _ H' => Q .non H', rt := Q } (start N vs) H) : FnOk P w K mg base CX0 (k + 1) f fd ps sp := by
  obtain ⟨oc, od, kV, doc, pm, an, cdv, ct, osl, rfl, lk, hcd⟩ := F.ex
  refine fn_of lk hcd S len fun A outer s H vs Q E hr hsp => ?_
  obtain ⟨t, h, q⟩ := hbody cdv A outer s H vs Q E hr hsp
  exact ⟨t, h.nox, q⟩
theorem Fun.binds {x qual : Str} {st : Stmt} {f : Addr} {fd : FuncData} {ps : List Str} (F : Fun K x qual st f fd)
    (h : ∀ (kV doc pm : Value) (an : Option Addr) (cdv ct : Value) (us : List Value), us.length = ps.length → bindArgs (PySem.W.fnOf x qual (defArgs st) (defBody st) (defScope st) .none kV doc pm an cdv ct) ⟨us, []⟩ = pure (ps.zip us)) : Binds K fd ps [] := by
  obtain ⟨oc, od, kV, doc, pm, an, cdv, ct, osl, rfl, lk, hcd⟩ := F.ex
  exact .all (h kV doc pm an cdv ct)
theorem fun_mk {x qual : Str} {st : Stmt} {f : Addr} {oc : Value} {od an : Option Addr} {osl : Array (Option Value)} {kV doc pm cdv ct : Value} (l : K.lookup f = some ⟨oc, od, .func (PySem.W.fnOf x qual (defArgs st) (defBody st) (defScope st) .none kV doc pm an cdv ct), osl⟩)
    (c : PySem.W.codeIn K cdv qual = true) (k : PySem.W.keepIn K (.ref f) = true) : Fun K x qual st f (PySem.W.fnOf x qual (defArgs st) (defBody st) (defScope st) .none kV doc pm an cdv ct) := ⟨⟨oc, od, kV, doc, pm, an, cdv, ct, osl, rfl, l, c⟩, k⟩
end
section
variable {X : Cx}
theorem pv (i : Nat) {x : Str} {pos : Pos} (hN : X.N[i]? = some x := by rfl) (hv : Vis X.env.scope x := by first | exact Or.inl rfl | exact Or.inr (Or.inl rfl) | exact Or.inr (Or.inr rfl)) (hd : (x == ("__debug__" : Str)) = false := by decide)
    (hcd : (x == ("__classdict__" : Str)) = false := by decide) : PE X (.Name x pos) (tVar i) := pe_var hN hv hd hcd
end
end L2
set_option maxRecDepth 100000
set_option linter.all false
namespace L2
open PySem PySem.Spec PyProof.Rows
section
variable {κ : Type} [DecidableEq κ]
noncomputable def valV (kvs : List (κ × V)) (k : κ) : Option V := (kvs.find? fun kv => decide (kv.1 = k)).map (·.2)
noncomputable def putK (kvs : List (κ × V)) (k : κ) (v : V) : List (κ × V) :=
  if (kvs.any fun kv => decide (kv.1 = k)) = true then kvs.map (fun kv => if kv.1 = k then (kv.1, v) else kv) else kvs ++ [(k, v)]
theorem valV_pos {p : κ × V} {r : List (κ × V)} {k : κ} (e : p.1 = k) : valV (p :: r) k = some p.2 := by simp [valV, List.find?_cons, e]
theorem valV_neg {p : κ × V} {r : List (κ × V)} {k : κ} (e : ¬ p.1 = k) : valV (p :: r) k = valV r k := by simp [valV, List.find?_cons, e]
theorem length_putK (kvs : List (κ × V)) (k : κ) (v : V) : (putK kvs k v).length ≤ kvs.length + 1 := by
  unfold putK
  split
  · rw [List.length_map]; omega
  · rw [List.length_append, List.length_cons, List.length_nil]; omega
theorem RelO.isSome_eq {o : Option V} {u : Option Value} (r : RelO o u) : o.isSome = u.isSome := by
  cases o with
  | none => cases u with
    | none => rfl
    | some _ => exact (show False from r).elim
  | some _ => cases u with
    | none => exact (show False from r).elim
    | some _ => rfl
theorem RelO.getD {o : Option V} {u : Option Value} {d : V} {d' : Value} (r : RelO o u) (rd : RelV d d') : RelV (o.getD d) (u.getD d') := by
  cases o with
  | none => cases u with
    | none => exact rd
    | some _ => exact (show False from r).elim
  | some _ => cases u with
    | none => exact (show False from r).elim
    | some _ => exact r
theorem KV.val {kvs : List (κ × V)} {vs : List (κ × Value)} (r : KV kvs vs) (k : κ) : RelO (valV kvs k) (valueAt vs k) := by
  unfold KV at r
  induction r with
  | nil => exact True.intro
  | @cons p q ps qs h t ih =>
    obtain ⟨h1, h2⟩ := h
    by_cases e : p.1 = k
    · have e' : q.1 = k := h1.symm.trans e
      have b : valueAt (q :: qs) k = some q.2 := by simp [valueAt, List.find?_cons, e']
      rw [valV_pos e, b]; exact h2
    · have e' : ¬ q.1 = k := fun z => e (h1.trans z)
      have b : valueAt (q :: qs) k = valueAt qs k := by simp [valueAt, List.find?_cons, e']
      rw [valV_neg e, b]; exact ih
theorem KV.any {kvs : List (κ × V)} {vs : List (κ × Value)} (r : KV kvs vs) (k : κ) : (kvs.any fun kv => decide (kv.1 = k)) = vs.any fun kv => decide (kv.1 = k) := by
  unfold KV at r
  induction r with
  | nil => rfl
  | cons h t ih => rw [List.any_cons, List.any_cons, ih, h.1]
theorem KV.repl {kvs : List (κ × V)} {vs : List (κ × Value)} (r : KV kvs vs) (k : κ) {y : V} {u : Value} (ry : RelV y u) :
    KV (kvs.map fun kv => if kv.1 = k then (kv.1, y) else kv) (vs.map fun kv => if kv.1 = k then (kv.1, u) else kv) := by
  unfold KV at r ⊢
  induction r with
  | nil => exact .nil
  | @cons p q ps qs h t ih =>
    rw [List.map_cons, List.map_cons]
    refine .cons ?_ ih
    obtain ⟨h1, h2⟩ := h
    by_cases e : p.1 = k
    · rw [if_pos e, if_pos (h1.symm.trans e)]; exact ⟨h1, ry⟩
    · rw [if_neg e, if_neg (fun z => e (h1.trans z))]; exact ⟨h1, h2⟩
theorem KV.put {kvs : List (κ × V)} {vs : List (κ × Value)} (r : KV kvs vs) (k : κ) {y : V} {u : Value} (ry : RelV y u) : KV (putK kvs k y) (stored vs k u) := by
  unfold putK stored
  rw [r.any k]
  by_cases e : (vs.any fun kv => decide (kv.1 = k)) = true
  · rw [if_pos e, if_pos e]; exact r.repl k ry
  · rw [if_neg e, if_neg e]; exact Paired.snoc r ⟨rfl, ry⟩
theorem KV.keys {kvs : List (κ × V)} {vs : List (κ × Value)} (r : KV kvs vs) : kvs.map (·.1) = vs.map (·.1) := by
  unfold KV at r
  induction r with
  | nil => rfl
  | cons h t ih => rw [List.map_cons, List.map_cons, ih, h.1]
theorem KV.length {kvs : List (κ × V)} {vs : List (κ × Value)} (r : KV kvs vs) : kvs.length = vs.length := Paired.length r
end
theorem kV_is {P : Program} {w : World} {k : Key} {u : Value} (r : RelV (kV k) u) : (mixKind P w).is k u = true := by
  cases k with
  | inl i => obtain ⟨t, e⟩ := (show ∃ t, u = Value.int i t from r); subst e; exact mixKind_int P w i t
  | inr x => obtain ⟨t, e⟩ := (show ∃ t, u = Value.str x t from r); subst e; exact mixKind_str P w x t
section
variable {P : Program} {w : World} {H : Hp} {h : Heap} {a : Addr}
theorem rd_of {u : HO} (ok : HOk P w H h) (e : Rd H a u) : ObjOk P w H h a u := e.ok ok
theorem dk_rd {kvs : List (Key × V)} (ok : HOk P w H h) (e : Rd H a (.dK kvs)) : kvs.length ≤ sizeLine ∧ (a == sysModules) = false ∧ ∃ vs, KV kvs vs ∧ h.DictOf (mixKind P w) a vs :=
  show ObjOk P w H h a (.dK kvs) from rd_of ok e
theorem dk_of {kvs : List (Key × V)} (ok : HOk P w H h) (e : H a = some (.dK kvs)) : kvs.length ≤ sizeLine ∧ (a == sysModules) = false ∧ ∃ vs, KV kvs vs ∧ h.DictOf (mixKind P w) a vs := dk_rd ok (.inl e)
end
section
variable {X : Cx} {pins : List (Addr × Obj)} {σ : St} {H : Hp} {s : Shared} {a : Addr} {y v : V} {u r : Value} {o : Option V} {A : Around} {E : Value → Shared → Prop}
theorem Inv.big (I : Inv X pins σ H s) : sysModules < s.heap.objs.size := by
  have h : mainGlobals < s.heap.objs.size := (I.mod.glob.keeps I.bk).lt
  exact Nat.lt_trans (by decide) h
theorem d_write {h' : Heap} {t' : Nat} {ob : HO} (I : Inv X pins σ H s) (mu : Mut (H a)) (hs : Heap.SameBut a s.heap h') (he : ∃ q, h'.get? a = some q) (new : ObjOk X.prog X.w (upd H a ob) h' a ob) :
    Inv X pins σ (upd H a ob) { s with heap := h', toks := t' } :=
  I.write (x := a) (e := a) mu (.inl rfl) (fun b q hb z => (hs.2 b hb).trans z) he new
theorem dk_new {P : Program} {w : World} {H' : Hp} {h' : Heap} {kvs : List (Key × V)} {vs : List (Key × Value)} (z : kvs.length ≤ sizeLine) (hd : (a == sysModules) = false) (rel : KV kvs vs) (dd : h'.DictOf (mixKind P w) a vs) :
    ObjOk P w H' h' a (.dK kvs) := ⟨z, hd, vs, rel, dd⟩
end
section
variable {X : Cx} {pins : List (Addr × Obj)} {σ : St} {H : Hp} {s : Shared} {a : Addr} {kvs : List (Key × V)} {k : Key} {u : Value} {A : Around} {E : Value → Shared → Prop}
theorem d_clear {Q : Value → Shared → Prop} (I : Inv X pins σ H s) (e : H a = some (.dK kvs)) (h : ∀ s', Inv X pins σ (upd H a (.dK [])) s' → Q .none s') : wpAny (model X.prog X.w) A (call (.builtin "dict.clear") [.ref a]) Q E s := by
  obtain ⟨z, hd, vs, rel, dd⟩ := dk_of I.hok e
  refine call_meetsIn PySem.F.slot_dict_clear dd.typeIs PySem.F.entry_dict_clear (PySem.F.args_dict_clear_1 _) (meets_dict_clear (mixKind X.prog X.w) a) ⟨vs, dd, by rw [← rel.length]; exact z, fun h' dd' hs => h _ ?_⟩
  have he : ∃ q, h'.get? a = some q := let ⟨q, _, _, hq, _⟩ := dd'; ⟨q, hq⟩
  exact d_write (t' := s.toks) I (by rw [e]; exact True.intro) hs he (dk_new (Nat.zero_le _) hd .nil dd')
theorem d_len {Q : Value → Shared → Prop} (I : Inv X pins σ H s) (e : Rd H a (.dK kvs)) (h : ∀ t s', Inv X pins σ H s' → Q (.int kvs.length t) s') : wpAny (model X.prog X.w) A (call (.builtin "len") [.ref a]) Q E s := by
  obtain ⟨z, hd, vs, rel, dd⟩ := dk_rd I.hok e
  refine call_len_dict hd dd (by rw [← rel.length]; rw [sizeLine_eq] at z; (clear I e h hd rel dd; omega)) ?_
  rw [← rel.length]
  exact h _ _ (I.tok _)
end
section
variable {X : Cx} {o i e value : Expr} {pos pos' tpos : Pos} {td ty tv : TE}
end
theorem dk_emptyD {P : Program} {w : World} {H : Hp} (h : Heap) (hb : sysModules < h.objs.size) : ObjOk P w H (h.push { cls := .type "dict", data := .dict #[] }) h.objs.size (.dK []) :=
  ⟨Nat.zero_le _, beq_eq_false_iff_ne.mpr (Ne.symm (Nat.ne_of_lt hb)), [], .nil, Heap.DictOf.new h⟩
noncomputable def tDNewK : TE := fun _ H Q => ∀ p, H p = none → Q (.ref p) (upd H p (.dK []))
section
variable {X : Cx} {pos : Pos}
theorem pe_dnewK : PE X (.Dict [] [] pos) tDNewK := fun pins s σ H Q I h =>
  wpAny_Dict_empty ⟨.ref s.heap.objs.size, _, I.laid (a := s.heap.objs.size) (o := .dK []) (t' := s.toks) (fun _ _ q => Heap.get?_push_of_some _ q) (Nat.le_refl _) (dk_emptyD s.heap I.big), rfl, h _ (I.hok.fresh (Nat.le_refl _))⟩
end
structure M1 (X : Cx) (o : Expr) (m : Str) (apos : Pos) (e : Expr) (cpos : Pos) : Prop where
  base : attributeBase o m X.env (eval o X.env) = eval o X.env
  few : ((backTo cpos (starEach [e] X.env)).all (fun x => !x.1) && (backToKw cpos (keywordEach [] X.env)).all (fun x => x.1.isSome)
    && decide (([e] : List Expr).length + ([] : List Keyword).length + (if ([] : List Keyword).isEmpty then 0 else 1) < 30)) = true
  line : (apos.endLine == cpos.line) = true
  trees : backTo cpos (starEach [e] X.env) = [(false, eval e X.env)]
structure M2 (X : Cx) (o : Expr) (m : Str) (apos : Pos) (e f : Expr) (cpos : Pos) : Prop where
  base : attributeBase o m X.env (eval o X.env) = eval o X.env
  few : ((backTo cpos (starEach [e, f] X.env)).all (fun x => !x.1) && (backToKw cpos (keywordEach [] X.env)).all (fun x => x.1.isSome)
    && decide (([e, f] : List Expr).length + ([] : List Keyword).length + (if ([] : List Keyword).isEmpty then 0 else 1) < 30)) = true
  line : (apos.endLine == cpos.line) = true
  trees : backTo cpos (starEach [e, f] X.env) = [(false, eval e X.env), (false, eval f X.env)]
section
variable {X : Cx} {pins : List (Addr × Obj)} {σ : St} {H : Hp} {s : Shared} {a : Addr} {y d : V} {u r : Value} {o : Option V} {A : Around} {E : Value → Shared → Prop}
end
section
variable {X : Cx} {o e f : Expr} {apos cpos : Pos} {td ty tx : TE}
end
section
variable {X : Cx} {pins : List (Addr × Obj)} {σ : St} {H : Hp} {s : Shared} {a : Addr} {kvs : List (Key × V)} {A : Around} {E : Value → Shared → Prop}
end
section
variable {X : Cx} {pins : List (Addr × Obj)} {σ : St} {H : Hp} {s : Shared} {a : Addr} {y : V} {u : Value} {A : Around} {E : Value → Shared → Prop}
end
end L2
namespace L2
open PySem PySem.Spec PyProof.Rows
inductive W where
  | non | bl (b : Bool) | int (i : Int) | str (x : Str) | ref (a : Addr) | tup (xs : List W) | scr (ns : List Int)
inductive GO where
  | lst (ws : List W)
  | dct
  | exc (C : Addr)
  | dic (kvs : List (Key × W))
  | fdc (o : Obj) (us : List (Key × V)) (kvs : List (Key × W))
  | ins (C : Addr) (fs : List (Str × W))
  | tbl (ps : Array Value)
noncomputable abbrev Gp := Addr → Option GO
noncomputable def updG (G : Gp) (a : Addr) (g : GO) : Gp := fun b => if b = a then some g else G b
theorem updG_same {G : Gp} {a : Addr} {g : GO} : updG G a g a = some g := by unfold updG; rw [if_pos rfl]
theorem updG_ne {G : Gp} {a b : Addr} {g : GO} (h : b ≠ a) : updG G a g b = G b := by unfold updG; rw [if_neg h]
noncomputable def Scr (K : PySem.W.Frag) (H : Hp) (a : Addr) (ns : List Int) : Prop :=
  (∃ o, H a = some (.frz o (.lst (ns.map V.int)))) ∨
    ∃ (o : Obj) (its : Array Value) (n : Nat), K.lookup a = some o ∧ o.cls = .type "list" ∧ o.dict = none ∧ o.data = .seq its n ∧ its.size ≤ sizeLine ∧ Vals (ns.map V.int) its.toList
theorem Scr.sq {K : PySem.W.Frag} {H : Hp} {a : Addr} {ns : List Int} (h : Scr K H a ns) : SqL K H a (ns.map V.int) := by
  rcases h with ⟨o, h⟩ | h
  · exact .inl (.inr ⟨o, h⟩)
  · exact .inr h
structure TLe (H H1 : Hp) : Prop where
  tup : ∀ a xs, H a = some (.tup xs) → H1 a = some (.tup xs)
  frz : ∀ a o xs, H a = some (.frz o (.lst xs)) → H1 a = some (.frz o (.lst xs))
theorem TLe.refl (H : Hp) : TLe H H := ⟨fun _ _ h => h, fun _ _ _ h => h⟩
theorem TLe.trans {H H1 H2 : Hp} (a : TLe H H1) (b : TLe H1 H2) : TLe H H2 :=
  ⟨fun x xs h => b.tup x xs (a.tup x xs h), fun x o u h => b.frz x o u (a.frz x o u h)⟩
theorem TLe.new {H : Hp} {p : Addr} (hp : H p = none) (o : HO) : TLe H (upd H p o) :=
  ⟨fun _ _ h => by rw [upd_ne (ne_of_none h hp)]; exact h, fun _ _ _ h => by rw [upd_ne (ne_of_none h hp)]; exact h⟩
theorem TLe.lst {H : Hp} {p : Addr} {xs : List V} (hp : H p = some (.lst xs)) (o : HO) : TLe H (upd H p o) :=
  ⟨fun _ _ h => by rw [upd_ne (ne_of h hp (by intro z; cases z))]; exact h, fun _ _ _ h => by rw [upd_ne (ne_of h hp (by intro z; cases z))]; exact h⟩
mutual
inductive Rep (K : PySem.W.Frag) (H : Hp) : W → V → Prop where
  | non : Rep K H .non .non
  | bl (b : Bool) : Rep K H (.bl b) (.bl b)
  | int (i : Int) : Rep K H (.int i) (.int i)
  | str (x : Str) : Rep K H (.str x) (.str x)
  | ref (a : Addr) : Rep K H (.ref a) (.ref a)
  | tup {a : Addr} {ws : List W} {xs : List V} (h : H a = some (.tup xs)) (r : Reps K H ws xs) : Rep K H (.tup ws) (.ref a)
  | scr {a : Addr} {ns : List Int} (h : Scr K H a ns) : Rep K H (.scr ns) (.ref a)
inductive Reps (K : PySem.W.Frag) (H : Hp) : List W → List V → Prop where
  | nil : Reps K H [] []
  | cons {w : W} {v : V} {ws : List W} {vs : List V} (r : Rep K H w v) (rs : Reps K H ws vs) : Reps K H (w :: ws) (v :: vs)
end
section
variable {K : PySem.W.Frag} {H H1 : Hp}
theorem Scr.mono {a : Addr} {ns : List Int} (t : TLe H H1) (h : Scr K H a ns) : Scr K H1 a ns := by
  rcases h with ⟨o, h⟩ | h
  · exact .inl ⟨o, t.frz _ _ _ h⟩
  · exact .inr h
mutual
theorem Rep.mono (t : TLe H H1) : ∀ {w : W} {v : V}, Rep K H w v → Rep K H1 w v
  | _, _, .non => .non
  | _, _, .bl b => .bl b
  | _, _, .int i => .int i
  | _, _, .str x => .str x
  | _, _, .ref a => .ref a
  | _, _, .tup h r => .tup (t.tup _ _ h) (Reps.mono t r)
  | _, _, .scr h => .scr (h.mono t)
theorem Reps.mono (t : TLe H H1) : ∀ {ws : List W} {vs : List V}, Reps K H ws vs → Reps K H1 ws vs
  | _, _, .nil => .nil
  | _, _, .cons r rs => .cons (Rep.mono t r) (Reps.mono t rs)
end
theorem Reps.length : ∀ {ws : List W} {vs : List V}, Reps K H ws vs → ws.length = vs.length
  | _, _, .nil => rfl
  | _, _, .cons _ rs => congrArg (· + 1) rs.length
theorem Reps.append : ∀ {ws us : List W} {vs xs : List V}, Reps K H ws vs → Reps K H us xs → Reps K H (ws ++ us) (vs ++ xs)
  | _, _, _, _, .nil, s => s
  | _, _, _, _, .cons r rs, s => .cons r (rs.append s)
theorem Reps.take : ∀ {ws : List W} {vs : List V} (n : Nat), Reps K H ws vs → Reps K H (ws.take n) (vs.take n)
  | _, _, 0, _ => .nil
  | _, _, _ + 1, .nil => .nil
  | _, _, n + 1, .cons r rs => .cons r (rs.take n)
theorem Reps.drop : ∀ {ws : List W} {vs : List V} (n : Nat), Reps K H ws vs → Reps K H (ws.drop n) (vs.drop n)
  | _, _, 0, r => r
  | _, _, _ + 1, .nil => .nil
  | _, _, n + 1, .cons _ rs => rs.drop n
theorem Reps.get : ∀ {ws : List W} {vs : List V} {i : Nat} {w : W}, Reps K H ws vs → ws[i]? = some w → ∃ v, vs[i]? = some v ∧ Rep K H w v
  | _, _, _, _, .nil, e => by simp at e
  | _, _, 0, _, .cons r _, e => by simp at e; subst e; exact ⟨_, rfl, r⟩
  | _, _, i + 1, w, .cons _ rs, e => by
    obtain ⟨v, h1, h2⟩ := Reps.get (i := i) (w := w) rs (by simpa using e)
    exact ⟨v, by simpa using h1, h2⟩
theorem Reps.ints : ∀ ns : List Int, Reps K H (ns.map W.int) (ns.map V.int)
  | [] => .nil
  | n :: ns => .cons (.int n) (Reps.ints ns)
end
noncomputable abbrev bmV : List Value := [.type "ValueError", .type "Exception", .type "BaseException", .type "object"]
structure XC (K : PySem.W.Frag) (C : Addr) (bm : List Value) : Prop where
  obj : ∀ h : Heap, K.In h → ∃ N nm qn bs hdct sn sub ab col dd k0 k1 k2 k3 k5 mN, h.get? C = some (excClassObj nm qn C N bs bm hdct sn sub ab col dd k0 k1 k2 k3 k5 "ValueError.__new__") ∧ h.Ns N mN ∧ mN "__init__" = none ∧ OwnTail h bmV bm
  mro : ∀ v, PySem.W.mroIn K C v = some ((Value.ref C :: bm).contains v)
structure XQ (K : PySem.W.Frag) (C : Addr) : Prop where
  ga : PySem.W.findIn K (.ref C) "__getattribute__" = some (some (.builtin "BaseException.__getattribute__"))
  gx : PySem.W.findIn K (.ref C) "__getattr__" = some none
  gc : PySem.W.findIn K (.ref C) "__class__" = some (some (.builtin "object.__class__"))
structure XD (K : PySem.W.Frag) (D : Addr) : Prop where
  cls : ∃ cd, PySem.W.clsIn K D = some cd
  ty : PySem.W.typeIn K (.ref D) = some (.type "type")
  ins : PySem.W.instIn K (.ref D) (.type "type") = some true
structure XO (K : PySem.W.Frag) (C : Addr) : Prop where
  c : ∃ bm, XC K C bm
  q : XQ K C
  d : XD K C
noncomputable def GOk (K : PySem.W.Frag) (H : Hp) (a : Addr) : GO → Prop
  | .lst ws => ws.length ≤ 100000 ∧ ∃ xs, H a = some (.lst xs) ∧ Reps K H ws xs
  | .dct => H a = some (.dK [])
  | .exc C => XO K C ∧ H a = some (.ext fun h => ∃ o, h.get? a = some o ∧ o.cls = .ref C)
  | .dic kvs => kvs.length ≤ 100000 ∧ ∃ kvs', H a = some (.dK kvs') ∧ kvs'.map (·.1) = kvs.map (·.1) ∧ Reps K H (kvs.map (·.2)) (kvs'.map (·.2))
  | .fdc o us kvs => kvs.length ≤ 100000 ∧ H a = some (.frz o (.dK us)) ∧ us.map (·.1) = kvs.map (·.1) ∧ Reps K H (kvs.map (·.2)) (us.map (·.2))
  | .ins C fs => fs.length ≤ 100 ∧ ∃ dx fs', H a = some (.ins C dx fs') ∧ fs'.map (·.1) = fs.map (·.1) ∧ Reps K H (fs.map (·.2)) (fs'.map (·.2))
  | .tbl ps => H a = some (.tbl ps)
noncomputable def RelG (K : PySem.W.Frag) (H : Hp) (G : Gp) : Prop := ∀ a g, G a = some g → GOk K H a g
section
variable {K : PySem.W.Frag} {H H1 : Hp} {G : Gp} {p a : Addr} {g : GO}
theorem GOk.has (h : GOk K H a g) : ∃ o, H a = some o := by
  cases g with
  | lst ws => obtain ⟨_, _, e, _⟩ := h; exact ⟨_, e⟩
  | dct => exact ⟨_, h⟩
  | exc C => exact ⟨_, h.2⟩
  | dic kvs => obtain ⟨_, _, e, _⟩ := h; exact ⟨_, e⟩
  | fdc o us kvs => obtain ⟨_, e, _⟩ := h; exact ⟨_, e⟩
  | ins C fs => obtain ⟨_, _, _, e, _⟩ := h; exact ⟨_, e⟩
  | tbl ps => exact ⟨_, h⟩
theorem GOk.mono (t : TLe H H1) (e : H1 a = H a) (h : GOk K H a g) : GOk K H1 a g := by
  cases g with
  | lst ws => obtain ⟨l, xs, e1, r⟩ := h; exact ⟨l, xs, e.trans e1, r.mono t⟩
  | dct => exact e.trans h
  | exc C => exact ⟨h.1, e.trans h.2⟩
  | dic kvs => obtain ⟨l, xs, e1, n, r⟩ := h; exact ⟨l, xs, e.trans e1, n, r.mono t⟩
  | fdc o us kvs => obtain ⟨l, e1, n, r⟩ := h; exact ⟨l, e.trans e1, n, r.mono t⟩
  | ins C fs => obtain ⟨l, dx, xs, e1, n, r⟩ := h; exact ⟨l, dx, xs, e.trans e1, n, r.mono t⟩
  | tbl ps => exact e.trans h
theorem RelG.fresh (h : RelG K H G) (hp : H p = none) : G p = none := by
  cases e : G p with
  | none => rfl
  | some g =>
    obtain ⟨o, e1⟩ := (h p _ e).has
    rw [hp] at e1; cases e1
theorem RelG.upd (h : RelG K H G) (t : TLe H (upd H p o)) (hG : G p = none) : RelG K (L2.upd H p o) G := fun a g e => by
  have hne : a ≠ p := fun z => by rw [z, hG] at e; cases e
  exact (h a g e).mono t (upd_ne hne)
theorem RelG.keep (h : RelG K H G) (hp : H p = none) (o : HO) : RelG K (L2.upd H p o) G := h.upd (TLe.new hp o) (h.fresh hp)
theorem RelG.lay (h : RelG K H G) {o : HO} (t : TLe H (L2.upd H p o)) (n : GOk K (L2.upd H p o) p g) : RelG K (L2.upd H p o) (updG G p g) := fun a g' e => by
  by_cases hb : a = p
  · subst hb
    rw [updG_same] at e; cases e
    exact n
  · rw [updG_ne hb] at e
    exact (h a g' e).mono t (upd_ne hb)
theorem RelG.put (h : RelG K H G) {xs : List V} {ws : List W} (t : TLe H (L2.upd H p (.lst xs))) (r : Reps K H ws xs) (hl : ws.length ≤ 100000) : RelG K (L2.upd H p (.lst xs)) (updG G p (.lst ws)) := h.lay t ⟨hl, xs, upd_same, r.mono t⟩
noncomputable def GLe (G0 G : Gp) : Prop := ∀ a g, G0 a = some g → G a = some g
theorem RelG.le {G0 : Gp} (h : RelG K H G) (l : GLe G0 G) : RelG K H G0 := fun a g e => h a g (l a g e)
theorem GLe.refl (G : Gp) : GLe G G := fun _ _ h => h
theorem GLe.trans {G0 G1 G2 : Gp} (a : GLe G0 G1) (b : GLe G1 G2) : GLe G0 G2 := fun x g h => b x g (a x g h)
theorem GLe.new {g : GO} (hp : G p = none) : GLe G (updG G p g) := fun a u e => by
  rw [updG_ne (fun z => by rw [z, hp] at e; cases e)]; exact e
end
noncomputable abbrev WSt := List (Option W)
noncomputable def RelSt (K : PySem.W.Frag) (H : Hp) (τ : WSt) (σ : St) : Prop := τ.length = σ.length ∧ ∀ (i : Nat) (w : W), τ[i]? = some (some w) → ∃ v, σ[i]? = some (some v) ∧ Rep K H w v
section
variable {K : PySem.W.Frag} {H H1 : Hp} {τ : WSt} {σ : St}
theorem RelSt.mono (t : TLe H H1) (h : RelSt K H τ σ) : RelSt K H1 τ σ := ⟨h.1, fun i w e => let ⟨v, e1, r⟩ := h.2 i w e; ⟨v, e1, r.mono t⟩⟩
theorem RelSt.set (h : RelSt K H τ σ) {w : W} {v : V} (r : Rep K H w v) (i : Nat) : RelSt K H (τ.set i (some w)) (σ.set i (some v)) := by
  refine ⟨by simpa using h.1, fun j u e => ?_⟩
  by_cases hj : i = j
  · subst hj
    by_cases hl : i < τ.length
    · rw [List.getElem?_set_self hl] at e
      cases e
      exact ⟨v, List.getElem?_set_self (by rw [← h.1]; exact hl), r⟩
    · rw [List.getElem?_eq_none (by simpa using hl)] at e; cases e
  · rw [List.getElem?_set_ne hj] at e
    obtain ⟨u', e1, r1⟩ := h.2 j u e
    exact ⟨u', by rw [List.getElem?_set_ne hj]; exact e1, r1⟩
theorem RelSt.start {N : List Str} {ws : List W} {vs : List V} (r : Reps K H ws vs) : RelSt K H (ws.map some ++ List.replicate (N.length - ws.length) none) (L2.start N vs) := by
  unfold L2.start
  refine ⟨by simp [r.length], fun i w e => ?_⟩
  by_cases hi : i < ws.length
  · rw [List.getElem?_append_left (by simpa using hi), List.getElem?_map] at e
    cases e1 : ws[i]? with
    | none => rw [e1] at e; cases e
    | some u =>
      rw [e1] at e; cases e
      obtain ⟨v, e2, rv⟩ := r.get e1
      refine ⟨v, ?_, rv⟩
      rw [List.getElem?_append_left (by simpa [← r.length] using hi), List.getElem?_map, e2]
      rfl
  · rw [List.getElem?_append_right (by simpa using hi), List.getElem?_replicate] at e
    split at e <;> cases e
end
noncomputable abbrev WK := W → Gp → Prop
noncomputable abbrev WE := WSt → Gp → WK → Prop
noncomputable abbrev WT := WSt → Gp → (Bool → Gp → Prop) → Prop
noncomputable abbrev WA := WSt → Gp → (List W → Gp → Prop) → Prop
structure WEnds where
  nx : WSt → Gp → Prop
  rt : WK
  bk : WSt → Gp → Prop := fun _ _ => False
  ct : WSt → Gp → Prop := fun _ _ => False
noncomputable abbrev WS := WEnds → WSt → Gp → Prop
noncomputable abbrev WG := W → WSt → Gp → (WSt → Gp → Prop) → Prop
noncomputable abbrev WGs := List W → WSt → Gp → (WSt → Gp → Prop) → Prop
noncomputable def LEx (K : PySem.W.Frag) (t : WE) : TE := fun σ H Q => ∃ τ G q, RelSt K H τ σ ∧ RelG K H G ∧ t τ G q ∧ ∀ v H1 w G1, TLe H H1 → Rep K H1 w v → RelG K H1 G1 → q w G1 → Q v H1
noncomputable def LTx (K : PySem.W.Frag) (t : WT) : TT := fun σ H Q => ∃ τ G q, RelSt K H τ σ ∧ RelG K H G ∧ t τ G q ∧ ∀ b H1 G1, TLe H H1 → RelG K H1 G1 → q b G1 → Q b H1
noncomputable def LA (K : PySem.W.Frag) (t : WA) : TA := fun σ H Q => ∃ τ G q, RelSt K H τ σ ∧ RelG K H G ∧ t τ G q ∧ ∀ vs H1 ws G1, TLe H H1 → Reps K H1 ws vs → RelG K H1 G1 → q ws G1 → Q vs H1
structure LEnds (K : PySem.W.Frag) (H : Hp) (d : WEnds) (D : Ends) : Prop where
  nx : ∀ σ1 H1 τ1 G1, TLe H H1 → RelSt K H1 τ1 σ1 → RelG K H1 G1 → d.nx τ1 G1 → D.nx σ1 H1
  rt : ∀ v H1 w G1, TLe H H1 → Rep K H1 w v → RelG K H1 G1 → d.rt w G1 → D.rt v H1
  bk : ∀ σ1 H1 τ1 G1, TLe H H1 → RelSt K H1 τ1 σ1 → RelG K H1 G1 → d.bk τ1 G1 → D.bk σ1 H1
  ct : ∀ σ1 H1 τ1 G1, TLe H H1 → RelSt K H1 τ1 σ1 → RelG K H1 G1 → d.ct τ1 G1 → D.ct σ1 H1
noncomputable def LS (K : PySem.W.Frag) (t : WS) : TS := fun D σ H => ∃ τ G d, RelSt K H τ σ ∧ RelG K H G ∧ t d τ G ∧ LEnds K H d D
theorem LEx.el {K : PySem.W.Frag} {t : WE} {σ : St} {H : Hp} {Q : VK} {P : Prop} (h : LEx K t σ H Q) (k : ∀ (τ : WSt) (G : Gp) (q : WK), RelSt K H τ σ → RelG K H G → t τ G q → (∀ v H1 w G1, TLe H H1 → Rep K H1 w v → RelG K H1 G1 → q w G1 → Q v H1) → P) : P := by
  obtain ⟨τ, G, q, a, b, c, d⟩ := h
  exact k τ G q a b c d
theorem LTx.el {K : PySem.W.Frag} {t : WT} {σ : St} {H : Hp} {Q : Bool → Hp → Prop} {P : Prop} (h : LTx K t σ H Q) (k : ∀ (τ : WSt) (G : Gp) (q : Bool → Gp → Prop), RelSt K H τ σ → RelG K H G → t τ G q → (∀ b H1 G1, TLe H H1 → RelG K H1 G1 → q b G1 → Q b H1) → P) : P := by
  obtain ⟨τ, G, q, a, b, c, d⟩ := h
  exact k τ G q a b c d
theorem LA.el {K : PySem.W.Frag} {t : WA} {σ : St} {H : Hp} {Q : List V → Hp → Prop} {P : Prop} (h : LA K t σ H Q) (k : ∀ (τ : WSt) (G : Gp) (q : List W → Gp → Prop), RelSt K H τ σ → RelG K H G → t τ G q → (∀ vs H1 ws G1, TLe H H1 → Reps K H1 ws vs → RelG K H1 G1 → q ws G1 → Q vs H1) → P) : P := by
  obtain ⟨τ, G, q, a, b, c, d⟩ := h
  exact k τ G q a b c d
theorem LS.el {K : PySem.W.Frag} {t : WS} {D : Ends} {σ : St} {H : Hp} {P : Prop} (h : LS K t D σ H) (k : ∀ (τ : WSt) (G : Gp) (d : WEnds), RelSt K H τ σ → RelG K H G → t d τ G → LEnds K H d D → P) : P := by
  obtain ⟨τ, G, q, a, b, c, d⟩ := h
  exact k τ G q a b c d
noncomputable def LG (K : PySem.W.Frag) (t : WG) : TG := fun v σ H Q => ∃ w τ G q, Rep K H w v ∧ RelSt K H τ σ ∧ RelG K H G ∧ t w τ G q ∧ ∀ σ1 H1 τ1 G1, TLe H H1 → RelSt K H1 τ1 σ1 → RelG K H1 G1 → q τ1 G1 → Q σ1 H1
noncomputable def LGs (K : PySem.W.Frag) (t : WGs) : TGs := fun vs σ H Q => ∃ ws τ G q, Reps K H ws vs ∧ RelSt K H τ σ ∧ RelG K H G ∧ t ws τ G q ∧ ∀ σ1 H1 τ1 G1, TLe H H1 → RelSt K H1 τ1 σ1 → RelG K H1 G1 → q τ1 G1 → Q σ1 H1
noncomputable def QE (X : Cx) (e : Expr) (t : WE) : Prop := PE X e (LEx X.K t)
noncomputable def QT (X : Cx) (e : Expr) (t : WT) : Prop := PT X e (LTx X.K t)
noncomputable def QW (X : Cx) (e : Expr) (t : WT) : Prop := PW X e (LTx X.K t)
noncomputable def QA (X : Cx) (es : List Expr) (t : WA) : Prop := PA X es (LA X.K t)
noncomputable def QS (X : Cx) (st : Stmt) (t : WS) : Prop := PS X st (LS X.K t)
noncomputable def QSs (X : Cx) (st : List Stmt) (t : WS) : Prop := PSs X st (LS X.K t)
noncomputable def QG (X : Cx) (e : Expr) (t : WG) : Prop := PG X e (LG X.K t)
noncomputable def QGs (X : Cx) (es : List Expr) (t : WGs) : Prop := PGs X es (LGs X.K t)
section
variable {X : Cx}
theorem PE.imp {e : Expr} {t t' : TE} (h : PE X e t) (f : ∀ σ H Q, t' σ H Q → t σ H Q) : PE X e t' := fun pins s σ H Q I q => h pins s σ H Q I (f _ _ _ q)
theorem PT.imp {e : Expr} {t t' : TT} (h : PT X e t) (f : ∀ σ H Q, t' σ H Q → t σ H Q) : PT X e t' := fun pins s σ H Q I q => h pins s σ H Q I (f _ _ _ q)
theorem PW.imp {e : Expr} {t t' : TT} (h : PW X e t) (f : ∀ σ H Q, t' σ H Q → t σ H Q) : PW X e t' := fun wh pins s σ H Q I q => h wh pins s σ H Q I (f _ _ _ q)
theorem PA.imp {e : List Expr} {t t' : TA} (h : PA X e t) (f : ∀ σ H Q, t' σ H Q → t σ H Q) : PA X e t' := fun pos pins s σ H Q I q => h pos pins s σ H Q I (f _ _ _ q)
theorem PS.imp {e : Stmt} {t t' : TS} (h : PS X e t) (f : ∀ D σ H, t' D σ H → t D σ H) : PS X e t' := fun pins s σ H D I q => h pins s σ H D I (f _ _ _ q)
theorem PSs.imp {e : List Stmt} {t t' : TS} (h : PSs X e t) (f : ∀ D σ H, t' D σ H → t D σ H) : PSs X e t' := fun pins s σ H D I q => h pins s σ H D I (f _ _ _ q)
theorem PG.imp {e : Expr} {t t' : TG} (h : PG X e t) (f : ∀ v σ H Q, t' v σ H Q → t v σ H Q) : PG X e t' := fun pins s σ H v u Q I r q => h pins s σ H v u Q I r (f _ _ _ _ q)
theorem PGs.imp {e : List Expr} {t t' : TGs} (h : PGs X e t) (f : ∀ v σ H Q, t' v σ H Q → t v σ H Q) : PGs X e t' := fun pins s σ H v u Q I r q => h pins s σ H v u Q I r (f _ _ _ _ q)
noncomputable def wVar (i : Nat) : WE := fun τ G q => match τ[i]? with | some (some w) => q w G | _ => False
noncomputable def wC (w : W) : WE := fun _ G q => q w G
theorem qe_var (i : Nat) {x : Str} {pos : Pos} (hN : X.N[i]? = some x) (hv : Vis X.env.scope x) (hd : (x == ("__debug__" : Str)) = false := by decide) (hcd : (x == ("__classdict__" : Str)) = false := by decide) : QE X (.Name x pos) (wVar i) := by
  refine (pe_var hN hv hd hcd).imp fun σ H Q z0 => z0.el fun τ G q hs hg ht hQ => ?_
  unfold wVar at ht
  split at ht
  · rename_i w e
    obtain ⟨v, e1, r⟩ := hs.2 i w e
    exact ⟨v, e1, hQ v H w G (TLe.refl H) r hg ht⟩
  · exact ht.elim
theorem qe_const {e : Expr} {v : V} {w : W} (h : PE X e (tC v)) (r : ∀ H, Rep X.K H w v) : QE X e (wC w) :=
  h.imp fun σ H Q z0 => z0.el fun τ G q hs hg ht hQ => hQ v H w G (TLe.refl H) (r H) hg ht
theorem qe_int {i j pos} : QE X (.Constant (.int i) j pos) (wC (.int i)) := qe_const pe_int fun _ => .int i
theorem qe_bl {b j pos} : QE X (.Constant (.bool b) j pos) (wC (.bl b)) := qe_const pe_bl fun _ => .bl b
theorem qe_str {x j pos} : QE X (.Constant (.str x) j pos) (wC (.str x)) := qe_const pe_str fun _ => .str x
noncomputable abbrev W2 := W → W → Gp → WK → Prop
noncomputable def LR (K : PySem.W.Frag) (r : W2) : R2 := fun x y H Q => ∃ wx wy G q, Rep K H wx x ∧ Rep K H wy y ∧ RelG K H G ∧ r wx wy G q ∧ ∀ v H1 w G1, TLe H H1 → Rep K H1 w v → RelG K H1 G1 → q w G1 → Q v H1
noncomputable def QOp (X : Cx) (f : Value → Value → Sem Value) (r : W2) : Prop := OpR X f (LR X.K r)
noncomputable def QIx (X : Cx) (r : W2) : Prop := IxR X (LR X.K r)
noncomputable def wOp (r : W2) (ta tb : WE) : WE := fun τ G q => ta τ G fun x G1 => tb τ G1 fun y G2 => r x y G2 q
theorem LEx.op {K : PySem.W.Frag} {r : W2} {ta tb : WE} {σ : St} {H : Hp} {Q : VK} (h : LEx K (wOp r ta tb) σ H Q) : tOp (LR K r) (LEx K ta) (LEx K tb) σ H Q := by
  obtain ⟨τ, G, q, hs, hg, ht, hQ⟩ := h
  refine ⟨τ, G, _, hs, hg, ht, fun v H1 w G1 t1 r1 g1 q1 => ?_⟩
  refine ⟨τ, G1, _, hs.mono t1, g1, q1, fun v2 H2 w2 G2 t2 r2 g2 q2 => ?_⟩
  exact ⟨w, w2, G2, q, r1.mono t2, r2, g2, q2, fun v3 H3 w3 G3 t3 r3 g3 q3 => hQ v3 H3 w3 G3 ((t1.trans t2).trans t3) r3 g3 q3⟩
theorem qe_op {op : Operator} {r : W2} {a b : Expr} {ta tb : WE} {pos : Pos} (ho : QOp X (binaryOp op) r) (ha : QE X a ta) (hb : QE X b tb) : QE X (.BinOp a op b pos) (wOp r ta tb) :=
  (pe_op ho ha hb).imp fun _ _ _ h => h.op
theorem qe_cmp {op : CmpOp} {r : W2} {a b : Expr} {ta tb : WE} {pos : Pos} (ho : QOp X (compareOp op) r) (ha : QE X a ta) (hb : QE X b tb) (hm : behindInMarks op b = false) : QE X (.Compare a [op] [b] pos) (wOp r ta tb) :=
  (pe_cmpR ho ha hb hm).imp fun _ _ _ h => h.op
theorem qe_ix {r : W2} {a b : Expr} {ta tb : WE} {pos : Pos} (ho : QIx X r) (ha : QE X a ta) (hb : QE X b tb) (hs : PlainIx b) : QE X (.Subscript a b pos) (wOp r ta tb) :=
  (pe_ix ho ha hb hs).imp fun _ _ _ h => h.op
noncomputable def wTest (t : WE) : WT := fun τ G q => t τ G fun x G1 => match x with | .bl b => q b G1 | _ => False
theorem LTx.test {K : PySem.W.Frag} {t : WE} {σ : St} {H : Hp} {Q : Bool → Hp → Prop} (h : LTx K (wTest t) σ H Q) : tTest (LEx K t) σ H Q := by
  obtain ⟨τ, G, q, hs, hg, ht, hQ⟩ := h
  refine ⟨τ, G, _, hs, hg, ht, fun v H1 w G1 t1 r1 g1 q1 => ?_⟩
  split at q1
  · rename_i b
    cases r1
    exact ⟨b, rfl, hQ b H1 G1 t1 g1 q1⟩
  · exact q1.elim
theorem qt_cmp {op : CmpOp} {r : W2} {a b : Expr} {ta tb : WE} {pos : Pos} (ho : QOp X (compareOp op) r) (ha : QE X a ta) (hb : QE X b tb) (hm : behindInMarks op b = false) : QT X (.Compare a [op] [b] pos) (wTest (wOp r ta tb)) :=
  (pt_cmpR ho ha hb hm).imp fun σ H Q h => by
    obtain ⟨τ, G, q, hs, hg, ht, hQ⟩ := h.test
    exact LEx.op ⟨τ, G, q, hs, hg, ht, hQ⟩
theorem qt_val {e : Expr} {t : WE} (h : QE X e t) (he : ∀ whole, isTrue e X.env whole = (do let v ← whole; standAt e.pos; holding [v] (truthy v)) := by intro _; rfl) : QT X e (wTest t) :=
  (pt_val h he).imp fun σ H Q h => h.test
noncomputable def wAnd (t u : WT) : WT := fun τ G q => t τ G fun c G1 => if c = true then u τ G1 q else q false G1
noncomputable def wOr (t u : WT) : WT := fun τ G q => t τ G fun c G1 => if c = true then q true G1 else u τ G1 q
noncomputable def wNot (t : WT) : WT := fun τ G q => t τ G fun c G1 => q (!c) G1
theorem qw_and1 {a : Expr} {t : WT} {pos : Pos} (ha : QT X a t) : QW X (.BoolOp .And [a] pos) t := pw_and1 ha
theorem qw_or1 {a : Expr} {t : WT} {pos : Pos} (ha : QT X a t) : QW X (.BoolOp .Or [a] pos) t := pw_or1 ha
theorem qw_and {a b : Expr} {rest : List Expr} {t u : WT} {pos : Pos} (ha : QT X a t) (hb : QW X (.BoolOp .And (b :: rest) pos) u) : QW X (.BoolOp .And (a :: b :: rest) pos) (wAnd t u) :=
  (pw_and ha hb).imp fun σ H Q z0 => z0.el fun τ G q hs hg ht hQ => ⟨τ, G, _, hs, hg, ht, fun c H1 G1 t1 g1 q1 => by
    cases c with
    | true => rw [if_pos rfl] at q1 ⊢; exact ⟨τ, G1, q, hs.mono t1, g1, q1, fun b H2 G2 t2 g2 q2 => hQ b H2 G2 (t1.trans t2) g2 q2⟩
    | false => rw [if_neg Bool.false_ne_true] at q1 ⊢; exact hQ false H1 G1 t1 g1 q1⟩
theorem qw_or {a b : Expr} {rest : List Expr} {t u : WT} {pos : Pos} (ha : QT X a t) (hb : QW X (.BoolOp .Or (b :: rest) pos) u) : QW X (.BoolOp .Or (a :: b :: rest) pos) (wOr t u) :=
  (pw_or ha hb).imp fun σ H Q z0 => z0.el fun τ G q hs hg ht hQ => ⟨τ, G, _, hs, hg, ht, fun c H1 G1 t1 g1 q1 => by
    cases c with
    | true => rw [if_pos rfl] at q1 ⊢; exact hQ true H1 G1 t1 g1 q1
    | false => rw [if_neg Bool.false_ne_true] at q1 ⊢; exact ⟨τ, G1, q, hs.mono t1, g1, q1, fun b H2 G2 t2 g2 q2 => hQ b H2 G2 (t1.trans t2) g2 q2⟩⟩
theorem qt_w {e : Expr} {t : WT} (h : QW X e t) : QT X e t := PW.pt h
theorem qt_not {a : Expr} {t : WT} {pos : Pos} (ha : QT X a t) : QT X (.UnaryOp .Not a pos) (wNot t) :=
  (pt_not ha).imp fun σ H Q z0 => z0.el fun τ G q hs hg ht hQ => ⟨τ, G, _, hs, hg, ht, fun c H1 G1 t1 g1 q1 => hQ (!c) H1 G1 t1 g1 q1⟩
noncomputable def wAndV (ta tb : WE) : WE := fun τ G q => ta τ G fun x G1 => match x with | .bl c => if c = true then tb τ G1 q else q (.bl false) G1 | _ => False
noncomputable def wOrV (ta tb : WE) : WE := fun τ G q => ta τ G fun x G1 => match x with | .bl c => if c = true then q (.bl true) G1 else tb τ G1 q | _ => False
noncomputable def wNotV (ta : WE) : WE := fun τ G q => ta τ G fun x G1 => match x with | .bl c => q (.bl (!c)) G1 | _ => False
theorem qe_one {a : Expr} {op} {t : WE} {pos : Pos} (h : QE X a t) : QE X (.BoolOp op [a] pos) t := pe_one h
theorem qe_and {a b : Expr} {rest : List Expr} {ta tb : WE} {pos : Pos} (ha : QE X a ta) (hb : QE X (.BoolOp .And (b :: rest) pos) tb) : QE X (.BoolOp .And (a :: b :: rest) pos) (wAndV ta tb) :=
  (pe_and ha hb).imp fun σ H Q z0 => z0.el fun τ G q hs hg ht hQ => ⟨τ, G, _, hs, hg, ht, fun v H1 w G1 t1 r1 g1 q1 => by
    split at q1
    · rename_i c
      cases r1
      refine ⟨c, rfl, ?_⟩
      cases c with
      | true => rw [if_pos rfl] at q1 ⊢; exact ⟨τ, G1, q, hs.mono t1, g1, q1, fun v2 H2 w2 G2 t2 r2 g2 q2 => hQ v2 H2 w2 G2 (t1.trans t2) r2 g2 q2⟩
      | false => rw [if_neg Bool.false_ne_true] at q1 ⊢; exact hQ _ H1 _ G1 t1 (.bl false) g1 q1
    · exact q1.elim⟩
noncomputable def wIfE (c : WT) (ta tb : WE) : WE := fun τ G q => c τ G fun b G1 => if b = true then ta τ G1 q else tb τ G1 q
noncomputable def wNil : WA := fun _ G q => q [] G
noncomputable def wCons (ta : WE) (tr : WA) : WA := fun τ G q => ta τ G fun x G1 => tr τ G1 fun xs G2 => q (x :: xs) G2
theorem qa_nil : QA X [] wNil := pa_nil.imp fun σ H Q z0 => z0.el fun τ G q hs hg ht hQ => hQ [] H [] G (TLe.refl H) .nil hg ht
theorem qa_cons {e : Expr} {es : List Expr} {te : WE} {t : WA} (ha : QE X e te) (hr : QA X es t) (hs : starEach (e :: es) X.env = (false, eval e X.env) :: starEach es X.env := by rfl) : QA X (e :: es) (wCons te t) :=
  (pa_cons ha hr hs).imp fun σ H Q z0 => z0.el fun τ G q hs hg ht hQ => ⟨τ, G, _, hs, hg, ht, fun v H1 w G1 t1 r1 g1 q1 =>
    ⟨τ, G1, _, hs.mono t1, g1, q1, fun vs H2 ws G2 t2 r2 g2 q2 => hQ (v :: vs) H2 (w :: ws) G2 (t1.trans t2) (.cons (r1.mono t2) r2) g2 q2⟩⟩
theorem line_le {n : Nat} (h : n ≤ 100000) : n ≤ sizeLine := by rw [sizeLine_eq]; exact Nat.le_trans (by assumption) (Nat.le_of_ble_eq_true rfl)
noncomputable def wTup (t : WA) : WE := fun τ G q => t τ G fun ws G1 => ws.length ≤ 100000 ∧ q (.tup ws) G1
noncomputable def wLst (t : WA) : WE := fun τ G q => t τ G fun ws G1 => ws.length ≤ 100000 ∧ ∀ p, G1 p = none → q (.ref p) (updG G1 p (.lst ws))
theorem qe_tup {es : List Expr} {x1} {t : WA} {pos : Pos} (h : QA X es t) : QE X (.Tuple es x1 pos) (wTup t) :=
  (pe_tup h).imp fun σ H Q z0 => z0.el fun τ G q hs hg ht hQ => ⟨τ, G, _, hs, hg, ht, fun vs H1 ws G1 t1 r1 g1 q1 =>
    ⟨by rw [← r1.length]; exact line_le q1.1, fun p hp => hQ _ _ _ G1 (t1.trans (TLe.new hp _)) (.tup upd_same (r1.mono (TLe.new hp _))) (g1.keep hp _) q1.2⟩⟩
theorem qe_lst {es : List Expr} {t : WA} {pos : Pos} (h : QA X es t) : QE X (.List es pos) (wLst t) :=
  (pe_lst h).imp fun σ H Q z0 => z0.el fun τ G q hs hg ht hQ => ⟨τ, G, _, hs, hg, ht, fun vs H1 ws G1 t1 r1 g1 q1 =>
    ⟨by rw [← r1.length]; exact line_le q1.1, fun p hp => hQ _ _ _ _ (t1.trans (TLe.new hp _)) (.ref p) (g1.put (TLe.new hp _) r1 q1.1) (q1.2 p (g1.fresh hp))⟩⟩
noncomputable def wNext : WS := fun d τ G => d.nx τ G
noncomputable def wSeq (t u : WS) : WS := fun d τ G => t { d with nx := u d } τ G
theorem LEnds.mono {K : PySem.W.Frag} {H H1 : Hp} {d : WEnds} {D : Ends} (l : LEnds K H d D) (t : TLe H H1) : LEnds K H1 d D :=
  ⟨fun σ2 H2 τ2 G2 t2 => l.nx σ2 H2 τ2 G2 (t.trans t2), fun v H2 w G2 t2 => l.rt v H2 w G2 (t.trans t2), fun σ2 H2 τ2 G2 t2 => l.bk σ2 H2 τ2 G2 (t.trans t2), fun σ2 H2 τ2 G2 t2 => l.ct σ2 H2 τ2 G2 (t.trans t2)⟩
theorem qss_nil : QSs X [] wNext := pss_nil.imp fun D σ H z0 => z0.el fun τ G d hs hg ht l => l.nx σ H τ G (TLe.refl H) hs hg ht
theorem qss_cons {st : Stmt} {rest : List Stmt} {t u : WS} (h1 : QS X st t) (h2 : QSs X rest u) : QSs X (st :: rest) (wSeq t u) :=
  (pss_cons h1 h2).imp fun D σ H z0 => z0.el fun τ G d hs hg ht l => ⟨τ, G, _, hs, hg, ht, ⟨fun σ1 H1 τ1 G1 t1 s1 g1 q1 => ⟨τ1, G1, d, s1, g1, q1, l.mono t1⟩, l.rt, l.bk, l.ct⟩⟩
noncomputable def wDrop (te : WE) : WS := fun d τ G => te τ G fun _ G1 => d.nx τ G1
theorem qs_expr {e : Expr} {te : WE} {pos : Pos} (he : QE X e te) (hs : swapsWith e none pos.line X.env = pure false := by rfl) : QS X (.Expr e pos) (wDrop te) :=
  (ps_expr he hs).imp fun D σ H z0 => z0.el fun τ G d hs hg ht l => ⟨τ, G, _, hs, hg, ht, fun v H1 w G1 t1 r1 g1 q1 => l.nx σ H1 τ G1 t1 (hs.mono t1) g1 q1⟩
noncomputable def wRet (te : WE) : WS := fun d τ G => te τ G d.rt
theorem qs_ret {e : Expr} {te : WE} {pos : Pos} (he : QE X e te) : QS X (.Return (some e) pos) (wRet te) :=
  (ps_ret he).imp fun D σ H z0 => z0.el fun τ G d hs hg ht l => ⟨τ, G, _, hs, hg, ht, fun v H1 w G1 t1 r1 g1 q1 => l.rt v H1 w G1 t1 r1 g1 q1⟩
noncomputable def wIf (c : WT) (t u : WS) : WS := fun d τ G => c τ G fun b G1 => if b = true then t d τ G1 else u d τ G1
theorem qs_if {c : Expr} {a b : List Stmt} {tc : WT} {t u : WS} {pos : Pos} (hc : QT X c tc) (ha : QSs X a t) (hb : QSs X b u) : QS X (.If c a b pos) (wIf tc t u) :=
  (ps_if hc ha hb).imp fun D σ H z0 => z0.el fun τ G d hs hg ht l => ⟨τ, G, _, hs, hg, ht, fun c H1 G1 t1 g1 q1 => by
    cases c with
    | true => rw [if_pos rfl] at q1 ⊢; exact ⟨τ, G1, d, hs.mono t1, g1, q1, l.mono t1⟩
    | false => rw [if_neg Bool.false_ne_true] at q1 ⊢; exact ⟨τ, G1, d, hs.mono t1, g1, q1, l.mono t1⟩⟩
noncomputable def hName (i : Nat) : WG := fun w τ G q => q (τ.set i (some w)) G
theorem qg_name (i : Nat) {x : Str} {pos : Pos} (hN : X.N.Nodup) (hi : X.N[i]? = some x) (hx : Loc X.env.scope x) (hf : X.fn x = true ∨ X.env.scope.names.lookup x = some .local := by first | exact .inl rfl | exact .inr rfl | assumption) : QG X (.Name x pos) (hName i) :=
  (pg_name hN hi hx hf).imp fun v σ H Q ⟨w, τ, G, q, r, hs, hg, ht, hQ⟩ => hQ _ H _ G (TLe.refl H) (hs.set r i) hg ht
noncomputable def hNil : WGs := fun ws τ G q => match ws with | [] => q τ G | _ => False
noncomputable def hCons (t : WG) (u : WGs) : WGs := fun ws τ G q => match ws with | w :: r => t w τ G fun τ1 G1 => u r τ1 G1 q | [] => False
theorem qgs_nil : QGs X [] hNil := pgs_nil.imp fun vs σ H Q ⟨ws, τ, G, q, r, hs, hg, ht, hQ⟩ => by
  unfold hNil at ht
  cases r with
  | nil => exact ⟨rfl, hQ σ H τ G (TLe.refl H) hs hg ht⟩
  | cons _ _ => exact ht.elim
theorem qgs_cons {e : Expr} {es : List Expr} {t : WG} {u : WGs} (h1 : QG X e t) (h2 : QGs X es u)
    (hs : (assignEach (e :: es) X.env).map (·.2) = assign e X.env :: (assignEach es X.env).map (·.2) := by rfl) : QGs X (e :: es) (hCons t u) :=
  (pgs_cons h1 h2 hs).imp fun vs σ H Q ⟨ws, τ, G, q, r, hs, hg, ht, hQ⟩ => by
    unfold hCons at ht
    cases r with
    | nil => exact ht.elim
    | cons r rs =>
      exact ⟨_, _, rfl, _, τ, G, _, r, hs, hg, ht, fun σ1 H1 τ1 G1 t1 s1 g1 q1 => ⟨_, τ1, G1, q, rs.mono t1, s1, g1, q1, fun σ2 H2 τ2 G2 t2 => hQ σ2 H2 τ2 G2 (t1.trans t2)⟩⟩
noncomputable def hTup (n : Nat) (t : WGs) : WG := fun w τ G q => match w with | .tup ws => ws.length = n ∧ t ws τ G q | _ => False
theorem qg_tup {es : List Expr} {k : Nat} {t : WGs} {pos : Pos} (hc : X.calm = true) (h : QGs X es t)
    (hn : (assignEach es X.env).length = es.length := by rfl) (hst : (assignEach es X.env).findIdx? (·.1) = none := by rfl) : QG X (.Tuple es k pos) (hTup es.length t) :=
  (pg_tup hc h hn hst).imp fun v σ H Q ⟨w, τ, G, q, r, hs, hg, ht, hQ⟩ => by
    unfold hTup at ht
    cases r with
    | tup h r => exact ⟨_, _, rfl, SqT.of h, by rw [← r.length]; exact ht.1, _, τ, G, q, r, hs, hg, ht.2, hQ⟩
    | _ => exact ht.elim
noncomputable def wAsg (te : WE) (g : WG) : WS := fun d τ G => te τ G fun x G1 => g x τ G1 d.nx
theorem qs_set (i : Nat) {x : Str} {e : Expr} {te : WE} {pos' pos : Pos} (hN : X.N.Nodup) (hi : X.N[i]? = some x) (hx : Loc X.env.scope x) (he : QE X e te) (hs : swapsWith e (some (.Name x pos')) pos.line X.env = pure false := by rfl) (hf : X.fn x = true ∨ X.env.scope.names.lookup x = some .local := by first | exact .inl rfl | exact .inr rfl | assumption) :
    QS X (.Assign [.Name x pos'] e pos) (wAsg te (hName i)) :=
  (ps_set hN hi hx he hs hf).imp fun D σ H z0 => z0.el fun τ G d hs hg ht l =>
    ⟨τ, G, _, hs, hg, ht, fun v H1 w G1 t1 r1 g1 q1 => l.nx _ H1 _ G1 t1 ((hs.mono t1).set r1 i) g1 q1⟩
noncomputable def wWhile (c : WT) (tb : WS) : WS := fun d τ G => ∃ I : Nat → WSt → Gp → Prop, (∃ m, I m τ G) ∧ ∀ m τ G, I m τ G →
  c τ G fun b G1 => if b = true then ∃ N : WSt → Gp → Prop, (∀ τ1 G1, N τ1 G1 → ∃ m1, m1 < m ∧ I m1 τ1 G1) ∧ tb { d with nx := N, ct := N, bk := d.nx } τ G1 else d.nx τ G1
theorem qs_while {c : Expr} {body : List Stmt} {tc : WT} {tb : WS} {pos : Pos} (hp : PassesOwn (model X.prog X.w) X.A X.env X.xe) (hc : QT X c tc) (hb : QSs X body tb) : QS X (.While c body [] pos) (wWhile tc tb) :=
  (ps_while hp hc hb).imp fun D σ H ⟨τ, G, d, hs, hg, ⟨I, ⟨m, i0⟩, turn⟩, l⟩ => by
    refine ⟨fun m σ1 H1 => ∃ τ1 G1, TLe H H1 ∧ RelSt X.K H1 τ1 σ1 ∧ RelG X.K H1 G1 ∧ I m τ1 G1, ⟨m, τ, G, TLe.refl H, hs, hg, i0⟩, ?_⟩
    rintro m1 σ1 H1 ⟨τ1, G1, t1, s1, g1, i1⟩
    refine ⟨τ1, G1, _, s1, g1, turn m1 τ1 G1 i1, fun b H2 G2 t2 g2 q2 => ?_⟩
    cases b with
    | true =>
      rw [if_pos rfl] at q2 ⊢
      obtain ⟨N, hN, q2⟩ := q2
      refine ⟨fun σ3 H3 => ∃ τ3 G3, TLe H H3 ∧ RelSt X.K H3 τ3 σ3 ∧ RelG X.K H3 G3 ∧ N τ3 G3, ?_, τ1, G2, _, s1.mono t2, g2, q2, ?_⟩
      · rintro σ3 H3 ⟨τ3, G3, t3, s3, g3, n3⟩
        obtain ⟨m3, hm, i3⟩ := hN τ3 G3 n3
        exact ⟨m3, hm, τ3, G3, t3, s3, g3, i3⟩
      · have tt := t1.trans t2
        exact ⟨fun σ3 H3 τ3 G3 t3 s3 g3 q3 => ⟨τ3, G3, tt.trans t3, s3, g3, q3⟩, fun v H3 w G3 t3 => l.rt v H3 w G3 (tt.trans t3), fun σ3 H3 τ3 G3 t3 => l.nx σ3 H3 τ3 G3 (tt.trans t3), fun σ3 H3 τ3 G3 t3 s3 g3 q3 => ⟨τ3, G3, tt.trans t3, s3, g3, q3⟩⟩
    | false =>
      rw [if_neg Bool.false_ne_true] at q2 ⊢
      exact l.nx σ1 H2 τ1 G2 (t1.trans t2) (s1.mono t2) g2 q2
end
end L2
namespace L2
open PySem PySem.Spec PyProof.Rows
section
variable {X : Cx}
noncomputable abbrev WX := Value → Gp → Prop
noncomputable abbrev WSp := List W → Gp → WK → WX → Prop
noncomputable def LSp (K : PySem.W.Frag) (sp : WSp) : Sp := fun vs H Q E => ∃ ws G q e, Reps K H ws vs ∧ RelG K H G ∧ sp ws G q e ∧ (∀ v H1 w G1, TLe H H1 → Rep K H1 w v → RelG K H1 G1 → q w G1 → Q v H1) ∧
  ∀ c d H1 G1, TLe H H1 → RelG K H1 G1 → e c G1 → E c d H1
noncomputable abbrev WFn (P : Program) (w : World) (K : PySem.W.Frag) (mg : Str → Option Value) (base : Heap) (k : Nat) (f : Addr) (fd : FuncData) (ps : List Str) (sp : WSp) : Prop := FnOk P w K mg base CX0 k f fd ps (LSp K sp)
noncomputable def wCall (sp : WSp) (dws : List W) (t : WA) : WE := fun τ G q => t τ G fun ws G1 => sp (ws ++ dws) G1 q fun _ _ => False
theorem LEx.call {K : PySem.W.Frag} {sp : WSp} {dws : List W} {dvs : List V} {t : WA} {σ : St} {H : Hp} {Q : VK} {E : XK} (hd : ∀ H, Reps K H dws dvs) (h : LEx K (wCall sp dws t) σ H Q) : tCall (LSp K sp) dvs E (LA K t) σ H Q := by
  obtain ⟨τ, G, q, hs, hg, ht, hQ⟩ := h
  exact ⟨τ, G, _, hs, hg, ht, fun vs H1 ws G1 t1 r1 g1 q1 => ⟨ws ++ dws, G1, q, _, r1.append (hd H1), g1, q1, fun v H2 w G2 t2 => hQ v H2 w G2 (t1.trans t2), fun _ _ _ _ _ _ z => z.elim⟩⟩
theorem qe_call {k : Nat} {f : Addr} {fd : FuncData} {ps : List Str} {sp : WSp} {x : Str} {p pos : Pos} {e : Expr} {es : List Expr} {t : WA} (F : WFn X.prog X.w X.K X.mg X.base k f fd ps sp) (hr : Room k X.A) (hg : Gl X x) (hm : X.mg x = some (.ref f))
    (hk : PySem.W.keepIn X.K (.ref f) = true) (hb : Binds X.K fd ps []) (ha : QA X (e :: es) t) (hdb : (x == ("__debug__" : Str)) = false := by decide)
    (he : starEach (e :: es) X.env = (false, eval e X.env) :: starEach es X.env := by rfl) (hpl : (backTo pos (starEach es X.env)).any (·.1) = false := by rfl) : QE X (.Call (.Name x p) (e :: es) [] pos) (wCall sp [] t) :=
  (pe_call F hr hg hm hk hb .nil pass0 ha hdb he hpl).imp fun _ _ _ h => h.call fun _ => .nil
noncomputable def wStart (N : List Str) (ws : List W) : WSt := ws.map some ++ List.replicate (N.length - ws.length) none
theorem fn3 {P : Program} {w : World} {K : PySem.W.Frag} {mg : Str → Option Value} {base : Heap} {x qual : Str} {st : Stmt} {f : Addr} {fd : FuncData} {N ps : List Str} {k : Nat} {sp : WSp} (F : Fun K x qual st f fd) (S : FnScope N ps (defScope st)) (len : ∀ ws G q e, sp ws G q e → ws.length = ps.length)
    (hbody : ∀ (cdv : Value) (A : Around) (outer : List Env) (s : Shared) (H : Hp) (E : XK), Room k (A.deeper (envOfC qual (defScope st) s.heap.objs.size f cdv)) →
      ∃ t, QSs (cxOf CX0 P w K mg base N qual (defScope st) f cdv A outer s H E).nox (defBody st) t ∧
        ∀ (ws : List W) (G : Gp) (q : WK) (e : WX), sp ws G q e → t { nx := fun _ G1 => ∃ G0, GLe G0 G1 ∧ q .non G0, rt := fun w G1 => ∃ G0, GLe G0 G1 ∧ q w G0 } (wStart N ws) G) : WFn P w K mg base (k + 1) f fd ps sp := by
  refine F.ok S (fun vs H Q E ⟨ws, G, q, e, r, g, z, _⟩ => by rw [← r.length]; exact len _ _ _ _ z) (fun cdv A outer s H vs Q E hr ⟨ws, G, q, e, r, g, z, hQ, _⟩ => ?_)
  obtain ⟨t, ht, hq⟩ := hbody cdv A outer s H E hr
  exact ⟨_, ht, _, G, _, RelSt.start r, g, hq ws G q e z, ⟨fun σ1 H1 τ1 G1 t1 s1 g1 ⟨G0, l, q1⟩ => hQ .non H1 .non G0 t1 .non (g1.le l) q1, fun v H1 w G1 t1 r1 g1 ⟨G0, l, q1⟩ => hQ v H1 w G0 t1 r1 (g1.le l) q1, fun _ _ _ _ _ _ _ z => z.elim, fun _ _ _ _ _ _ _ z => z.elim⟩⟩
noncomputable def LCall (K : PySem.W.Frag) (r : List W → Gp → WK → Prop) : List V → Hp → VK → Prop := fun vs H Q => ∃ ws G q, Reps K H ws vs ∧ RelG K H G ∧ r ws G q ∧ ∀ v H1 w G1, TLe H H1 → Rep K H1 w v → RelG K H1 G1 → q w G1 → Q v H1
noncomputable def QCall (X : Cx) (f : Value) (r : List W → Gp → WK → Prop) : Prop := CallR X f (LCall X.K r)
noncomputable def wCB (r : List W → Gp → WK → Prop) (t : WA) : WE := fun τ G q => t τ G fun ws G1 => r ws G1 q
theorem LEx.cb {K : PySem.W.Frag} {r : List W → Gp → WK → Prop} {t : WA} {σ : St} {H : Hp} {Q : VK} (h : LEx K (wCB r t) σ H Q) : tCB (LCall K r) (LA K t) σ H Q := by
  obtain ⟨τ, G, q, hs, hg, ht, hQ⟩ := h
  exact ⟨τ, G, _, hs, hg, ht, fun vs H1 ws G1 t1 r1 g1 q1 => ⟨ws, G1, q, r1, g1, q1, fun v H2 w G2 t2 => hQ v H2 w G2 (t1.trans t2)⟩⟩
theorem qe_callB {id : String} {r : List W → Gp → WK → Prop} {x : Str} {p pos : Pos} {e : Expr} {es : List Expr} {t : WA} (hc : QCall X (.builtin id) r) (hg : Gl X x) (hm : X.mg x = none) (hv : bootBuiltins x = some (.builtin id)) (ha : QA X (e :: es) t)
    (hn : x ≠ "__name__" := by decide) (hdb : (x == ("__debug__" : Str)) = false := by decide)
    (he : starEach (e :: es) X.env = (false, eval e X.env) :: starEach es X.env := by rfl) (hpl : (backTo pos (starEach es X.env)).any (·.1) = false := by rfl) : QE X (.Call (.Name x p) (e :: es) [] pos) (wCB r t) :=
  (pe_callB hc hg hm hv ha hn hdb he hpl).imp fun _ _ _ h => h.cb
theorem qe_callTy {T : String} {r : List W → Gp → WK → Prop} {x : Str} {p pos : Pos} {e : Expr} {es : List Expr} {t : WA} (hc : QCall X (.type T) r) (hg : Gl X x) (hm : X.mg x = none) (hv : bootBuiltins x = some (.type T)) (ha : QA X (e :: es) t)
    (hn : x ≠ "__name__" := by decide) (hdb : (x == ("__debug__" : Str)) = false := by decide)
    (he : starEach (e :: es) X.env = (false, eval e X.env) :: starEach es X.env := by rfl) (hpl : (backTo pos (starEach es X.env)).any (·.1) = false := by rfl) : QE X (.Call (.Name x p) (e :: es) [] pos) (wCB r t) :=
  (pe_callTy hc hg hm hv ha hn hdb he hpl).imp fun _ _ _ h => h.cb
theorem Reps.one {K : PySem.W.Frag} {H : Hp} {w : W} {vs : List V} (r : Reps K H [w] vs) : ∃ v, vs = [v] ∧ Rep K H w v := by
  cases r with
  | cons r rs => cases rs; exact ⟨_, rfl, r⟩
noncomputable def cLen : List W → Gp → WK → Prop := fun ws G q => match ws with
  | [.tup xs] => q (.int xs.length) G
  | [.scr ns] => q (.int ns.length) G
  | [.ref a] => ∃ xs, G a = some (.lst xs) ∧ q (.int xs.length) G
  | _ => False
theorem q_len : QCall X (.builtin "len") cLen := by
  intro pins s σ H xs us Q I r ⟨ws, G, q, rw', g, h, hQ⟩
  cases rw' with
  | nil => exact False.elim h
  | cons r1 rr' =>
    cases rr' with
    | cons _ _ => cases r1 <;> exact False.elim h
    | nil =>
      cases r1 with
      | tup hh rr => exact call_len_seq pins s σ H _ us Q I r ⟨_, _, rfl, .inr (SqT.of hh), hQ _ H _ G (TLe.refl H) (by rw [rr.length]; exact .int _) g h⟩
      | scr hh => exact call_len_seq pins s σ H _ us Q I r ⟨_, _, rfl, .inl hh.sq, hQ _ H _ G (TLe.refl H) (by rw [List.length_map]; exact .int _) g h⟩
      | ref a =>
        obtain ⟨ys, e, h⟩ := h
        obtain ⟨_, zs, e1, rr⟩ := g a _ e
        exact call_len_seq pins s σ H _ us Q I r ⟨_, _, rfl, .inl (SqL.of e1), hQ _ H _ G (TLe.refl H) (by rw [rr.length]; exact .int _) g h⟩
      | _ => exact False.elim h
noncomputable def cTuple : List W → Gp → WK → Prop := fun ws G q => match ws with
  | [.tup xs] => q (.tup xs) G
  | [.ref a] => ∃ xs, G a = some (.lst xs) ∧ q (.tup xs) G
  | _ => False
noncomputable def cList : List W → Gp → WK → Prop := fun ws G q => match ws with
  | [.tup xs] => xs.length ≤ 100000 ∧ ∀ p, G p = none → q (.ref p) (updG G p (.lst xs))
  | [.ref a] => ∃ xs, G a = some (.lst xs) ∧ ∀ p, G p = none → q (.ref p) (updG G p (.lst xs))
  | _ => False
theorem q_list : QCall X (.type "list") cList := by
  intro pins s σ H xs us Q I r ⟨ws, G, q, rw', g, h, hQ⟩
  unfold cList at h
  split at h
  · rename_i ys
    obtain ⟨v, rfl, r1⟩ := rw'.one
    cases r1 with
    | tup hh rr => exact call_list_of pins s σ H _ us Q I r ⟨_, _, rfl, .inr (SqT.of hh), fun l hl => hQ _ _ _ _ (TLe.new hl _) (.ref l) (g.put (TLe.new hl _) rr h.1) (h.2 l (g.fresh hl))⟩
  · rename_i a
    obtain ⟨ys, e, h⟩ := h
    obtain ⟨v, rfl, r1⟩ := rw'.one
    cases r1
    obtain ⟨hl, zs, e1, rr⟩ := g a _ e
    exact call_list_of pins s σ H _ us Q I r ⟨_, _, rfl, .inl (SqL.of e1), fun l hl' => hQ _ _ _ _ (TLe.new hl' _) (.ref l) (g.put (TLe.new hl' _) rr hl) (h l (g.fresh hl'))⟩
  · exact h.elim
noncomputable def cInt : List W → Gp → WK → Prop := fun ws G q => match ws with
  | [.int i] => q (.int i) G
  | [.bl b] => q (.int (if b then 1 else 0)) G
  | _ => False
noncomputable def cMax : List W → Gp → WK → Prop := fun ws G q => match ws with
  | [.int i, .int j] => q (.int (if j > i then j else i)) G
  | _ => False
noncomputable def vAdd : W2 := fun x y G q => match x, y with
  | .int i, .int j => q (.int (i + j)) G
  | .tup xs, .tup ys => xs.length + ys.length ≤ 100000 ∧ q (.tup (xs ++ ys)) G
  | .ref a, .ref b => ∃ xs ys, G a = some (.lst xs) ∧ G b = some (.lst ys) ∧ xs.length + ys.length ≤ 100000 ∧ ∀ p, G p = none → q (.ref p) (updG G p (.lst (xs ++ ys)))
  | _, _ => False
theorem cat0 {pins : List (Addr × Obj)} {σ : St} {H : Hp} {s : Shared} {a b : Addr} {ys : List V} {Q : VK} (I : Inv X pins σ H s) (ha : H a = some (.tup [])) (hb : H b = some (.tup ys)) (q : Q (.ref b) H) : wpAny (model X.prog X.w) X.A (binaryOp .Add (.ref a) (.ref b)) (EP X pins σ Q) X.xe s := by
  obtain ⟨its, r1, p1, _⟩ := I.tuple (SqT.of ha)
  obtain ⟨its2, r2, p2, _⟩ := I.tuple (SqT.of hb)
  cases r1
  obtain ⟨⟨cls, dd, data, sl⟩, ho, hc, n, hd⟩ := id p1
  obtain ⟨⟨cls2, dd2, data2, sl2⟩, ho2, hc2, n2, hd2⟩ := id p2
  simp only at hc hd hc2 hd2
  subst hc hd hc2 hd2
  exact concat_meets ⟨_, ho, rfl⟩ ⟨_, ho2, rfl⟩ noFill_tuple_add seq_tuple_add PySem.F.slot_tuple_add PySem.F.entry_tuple_add (PySem.F.args_tuple_add_2 _ _)
    (tuple_addW0 a b #[] its2.toArray n n2 dd dd2 sl sl2 rfl) ⟨ho, ho2, ⟨.ref b, H, I, rfl, q⟩⟩
theorem q_add : QOp X (binaryOp .Add) vAdd := by
  intro pins s σ H x y v u Q I rx ry ⟨wx, wy, G, q, r1, r2, g, h, hQ⟩
  cases r1 with
  | int i =>
    cases r2 with
    | int j => exact op_add pins s σ H _ _ v u Q I rx ry ⟨_, _, rfl, rfl, hQ _ H _ G (TLe.refl H) (.int _) g h⟩
    | _ => exact False.elim h
  | @tup a ws xs ha ra =>
    cases r2 with
    | @tup b us ys hb rb =>
      cases xs with
      | nil =>
        cases ra
        cases rx
        cases ry
        exact cat0 I ha hb (hQ _ H _ G (TLe.refl H) (.tup hb rb) g h.2)
      | cons x0 xr =>
        refine op_catT pins s σ H _ _ v u Q I rx ry ⟨a, b, _, _, rfl, rfl, SqT.of ha, SqT.of hb, by simp, by rw [← ra.length, ← rb.length]; exact line_le h.1, fun e => ?_, fun _ p hp => ?_⟩
        · subst e
          cases rb
          have h2 := h.2
          rw [List.append_nil] at h2
          exact hQ _ H _ G (TLe.refl H) (.tup ha ra) g h2
        · exact hQ _ _ _ G (TLe.new hp _) (.tup upd_same ((ra.append rb).mono (TLe.new hp _))) (g.keep hp _) h.2
    | _ => exact False.elim h
  | ref a =>
    cases r2 with
    | ref b =>
      obtain ⟨xs, ys, ea, eb, hl, h⟩ := h
      obtain ⟨_, xs', ha, ra⟩ := g _ _ ea
      obtain ⟨_, ys', hb, rb⟩ := g _ _ eb
      refine op_cat pins s σ H _ _ v u Q I rx ry ⟨_, _, _, _, rfl, rfl, ha, hb, by rw [← ra.length, ← rb.length]; exact line_le hl, fun p hp => ?_⟩
      exact hQ _ _ _ _ (TLe.new hp _) (.ref p) (g.put (TLe.new hp _) (ra.append rb) (by rw [List.length_append]; exact hl)) (h p (g.fresh hp))
    | _ => exact False.elim h
  | _ => exact False.elim h
noncomputable def vInt (C : Int → Int → Prop) (f : Int → Int → W) : W2 := fun x y G q => match x, y with
  | .int i, .int j => C i j ∧ q (f i j) G
  | _, _ => False
theorem q_rint {f : Value → Value → Sem Value} {C : Int → Int → Prop} {g : Int → Int → Int} (h : OpR X f (rI C fun i j => .int (g i j))) : QOp X f (vInt C fun i j => .int (g i j)) := by
  intro pins s σ H x y v u Q I rx ry ⟨wx, wy, G, q, r1, r2, gg, hh, hQ⟩
  unfold vInt at hh
  split at hh
  · cases r1
    cases r2
    exact h pins s σ H _ _ v u Q I rx ry ⟨_, _, rfl, rfl, hh.1, hQ _ H _ G (TLe.refl H) (.int _) gg hh.2⟩
  · exact hh.elim
noncomputable def vInt0 (f : Int → Int → W) : W2 := fun x y G q => match x, y with
  | .int i, .int j => q (f i j) G
  | _, _ => False
theorem q_rbl {f : Value → Value → Sem Value} {g : Int → Int → Bool} (h : OpR X f (rI0 fun i j => .bl (g i j))) : QOp X f (vInt0 fun i j => .bl (g i j)) := by
  intro pins s σ H x y v u Q I rx ry ⟨wx, wy, G, q, r1, r2, gg, hh, hQ⟩
  unfold vInt0 at hh
  split at hh
  · cases r1
    cases r2
    exact h pins s σ H _ _ v u Q I rx ry ⟨_, _, rfl, rfl, hQ _ H _ G (TLe.refl H) (.bl _) gg hh⟩
  · exact hh.elim
noncomputable abbrev vMod : W2 := vInt (fun _ j => 0 < j) fun i j => .int (i % j)
theorem q_mod : QOp X (binaryOp .Mod) vMod := q_rint op_mod
noncomputable abbrev vGt : W2 := vInt0 fun i j => .bl (decide (j < i))
theorem q_gt : QOp X (compareOp .Gt) vGt := q_rbl op_gt
noncomputable def rIx3 : W2 := fun x y G q => match x, y with
  | .tup xs, .int i => ∃ w, atI xs i = some w ∧ q w G
  | .scr ns, .int i => ∃ n, atI ns i = some n ∧ q (.int n) G
  | .ref a, .int i => ∃ xs w, G a = some (.lst xs) ∧ atI xs i = some w ∧ q w G
  | _, _ => False
theorem Reps.at {K : PySem.W.Frag} {H : Hp} {ws : List W} {vs : List V} {i : Int} {w : W} (r : Reps K H ws vs) (e : atI ws i = some w) : ∃ v, atI vs i = some v ∧ Rep K H w v := by
  unfold atI at e ⊢
  rw [r.length] at e
  cases h : ixN vs.length i with
  | none => rw [h] at e; cases e
  | some j =>
    rw [h] at e
    exact r.get e
theorem atI_map {α β : Type} (f : α → β) (xs : List α) (i : Int) : atI (xs.map f) i = (atI xs i).map f := by
  unfold atI
  rw [List.length_map]
  cases ixN xs.length i with
  | none => rfl
  | some j => simp
theorem q_ix : QIx X rIx3 := by
  intro value slice pins s σ H x y v u Q I rx ry ⟨wx, wy, G, q, r1, r2, g, h, hQ⟩ hsl
  cases r2 with
  | int i =>
    cases r1 with
    | tup hh rr =>
      obtain ⟨w, e, h⟩ := h
      obtain ⟨v', e', r'⟩ := rr.at e
      exact ix_tup value slice pins s σ H _ _ v u Q I rx ry ⟨_, _, _, v', rfl, rfl, SqT.of hh, e', hQ _ H _ G (TLe.refl H) r' g h⟩ hsl
    | scr hh =>
      obtain ⟨n, e, h⟩ := h
      exact ix_list value slice pins s σ H _ _ v u Q I rx ry ⟨_, _, _, .int n, rfl, rfl, hh.sq, by rw [atI_map, e]; rfl, hQ _ H _ G (TLe.refl H) (.int n) g h⟩ hsl
    | ref a =>
      obtain ⟨xs, w, ea, e, h⟩ := h
      obtain ⟨_, zs, e1, rr⟩ := g _ _ ea
      obtain ⟨v', e', r'⟩ := rr.at e
      exact ix_list value slice pins s σ H _ _ v u Q I rx ry ⟨_, _, _, v', rfl, rfl, SqL.of e1, e', hQ _ H _ G (TLe.refl H) r' g h⟩ hsl
    | _ => exact False.elim h
  | _ => cases r1 <;> exact False.elim h
end
end L2
namespace L2
open PySem PySem.Spec PyProof.Rows
mutual
noncomputable def W.flat : W → Bool
  | .tup xs => W.flats xs
  | .ref _ => false
  | .scr _ => false
  | _ => true
noncomputable def W.flats : List W → Bool
  | [] => true
  | x :: xs => W.flat x && W.flats xs
end
mutual
noncomputable def W.dep : W → Nat
  | .tup xs => W.deps xs + 1
  | _ => 0
noncomputable def W.deps : List W → Nat
  | [] => 0
  | x :: xs => max (W.dep x) (W.deps xs)
end
mutual
noncomputable def W.eq : W → W → Bool
  | .non, .non => true
  | .bl a, .bl b => a == b
  | .bl a, .int j => (if a then 1 else 0) == j
  | .int i, .bl b => i == (if b then 1 else 0)
  | .int i, .int j => i == j
  | .str x, .str y => x == y
  | .tup xs, .tup ys => W.eqs xs ys
  | _, _ => false
noncomputable def W.eqs : List W → List W → Bool
  | [], [] => true
  | x :: xs, y :: ys => W.eq x y && W.eqs xs ys
  | _, _ => false
end
theorem noFT {P : Prop} (h : false = true) : P := Bool.noConfusion h
mutual
theorem W.eq_refl : ∀ w : W, w.flat = true → w.eq w = true
  | .non, _ => rfl
  | .bl b, _ => beq_self_eq_true b
  | .int i, _ => beq_self_eq_true i
  | .str x, _ => beq_self_eq_true x
  | .tup xs, h => W.eqs_refl xs h
  | .ref _, h => noFT h
  | .scr _, h => noFT h
theorem W.eqs_refl : ∀ ws : List W, W.flats ws = true → W.eqs ws ws = true
  | [], _ => rfl
  | x :: xs, h => by
    have h' : x.flat = true ∧ W.flats xs = true := (Bool.and_eq_true _ _).mp h
    exact (Bool.and_eq_true _ _).mpr ⟨W.eq_refl x h'.1, W.eqs_refl xs h'.2⟩
end
mutual
theorem Rep.inj {K : PySem.W.Frag} {H : Hp} : ∀ {w u : W} {v : V}, w.flat = true → u.flat = true → Rep K H w v → Rep K H u v → w = u := by
  intro w u v h1 h2 r1 r2
  cases r1 with
  | non => cases r2; rfl
  | bl _ => cases r2; rfl
  | int _ => cases r2; rfl
  | str _ => cases r2; rfl
  | ref _ => exact noFT h1
  | scr _ => exact noFT h1
  | tup e1 r1 =>
    cases r2 with
    | ref _ => exact noFT h2
    | scr _ => exact noFT h2
    | tup e2 r2 =>
      rw [e1] at e2; cases e2
      rw [Reps.inj h1 h2 r1 r2]
theorem Reps.inj {K : PySem.W.Frag} {H : Hp} : ∀ {ws us : List W} {vs : List V}, W.flats ws = true → W.flats us = true → Reps K H ws vs → Reps K H us vs → ws = us := by
  intro ws us vs h1 h2 r1 r2
  cases r1 with
  | nil => cases r2; rfl
  | cons r1 s1 =>
    cases r2 with
    | cons r2 s2 =>
      simp only [W.flats, Bool.and_eq_true] at h1 h2
      rw [Rep.inj h1.1 h2.1 r1 r2, Reps.inj h1.2 h2.2 s1 s2]
end
theorem W.flats_get : ∀ {ws : List W} {j : Nat} {w : W}, W.flats ws = true → ws[j]? = some w → w.flat = true
  | [], _, _, _, e => by simp at e
  | x :: xs, 0, w, h, e => by
    have h' : x.flat = true ∧ W.flats xs = true := by simpa [W.flats] using h
    simp at e; subst e; exact h'.1
  | x :: xs, j + 1, w, h, e => by
    have h' : x.flat = true ∧ W.flats xs = true := by simpa [W.flats] using h
    exact W.flats_get h'.2 (by simpa using e)
theorem W.deps_get : ∀ {ws : List W} {j : Nat} {w : W}, ws[j]? = some w → w.dep ≤ W.deps ws
  | [], _, _, e => by simp at e
  | x :: xs, 0, w, e => by simp at e; subst e; simp [W.deps]; omega
  | x :: xs, j + 1, w, e => by
    have := W.deps_get (ws := xs) (j := j) (w := w) (by simpa using e)
    simp only [W.deps]; (clear e; omega)
theorem W.eqs_iff : ∀ (ws us : List W), W.eqs ws us = true ↔ ws.length = us.length ∧ ∀ (j : Nat) (a b : W), ws[j]? = some a → us[j]? = some b → W.eq a b = true
  | [], [] => by simp [W.eqs]
  | [], _ :: _ => by simp [W.eqs]
  | _ :: _, [] => by simp [W.eqs]
  | x :: xs, y :: ys => by
    rw [W.eqs, Bool.and_eq_true, W.eqs_iff xs ys]
    constructor
    · rintro ⟨h1, h2, h3⟩
      refine ⟨by simp [h2], fun j a b ea eb => ?_⟩
      cases j with
      | zero => simp at ea eb; subst ea eb; exact h1
      | succ j => exact h3 j a b (by simpa using ea) (by simpa using eb)
    · rintro ⟨h1, h2⟩
      exact ⟨h2 0 x y rfl rfl, by simpa using h1, fun j a b ea eb => h2 (j + 1) a b (by simpa using ea) (by simpa using eb)⟩
noncomputable def eqAtJ (ws us : List W) (j : Nat) : Bool := match ws[j]?, us[j]? with | some a, some b => W.eq a b | _, _ => true
theorem eqs_range (ws us : List W) : ((List.range (min ws.length us.length)).all (eqAtJ ws us) && (ws.length == us.length)) = W.eqs ws us := by
  rw [Bool.eq_iff_iff, Bool.and_eq_true, W.eqs_iff, List.all_eq_true, beq_iff_eq]
  constructor
  · rintro ⟨h1, h2⟩
    refine ⟨h2, fun j a b ea eb => ?_⟩
    have hj : j < ws.length := (List.getElem?_eq_some_iff.mp ea).1
    have := h1 j (List.mem_range.mpr (by (clear h1 ea eb; omega)))
    unfold eqAtJ at this
    rw [ea, eb] at this
    exact this
  · rintro ⟨h1, h2⟩
    refine ⟨fun j _ => ?_, h1⟩
    unfold eqAtJ
    split
    · rename_i a b ea eb; exact h2 j a b ea eb
    · rfl
section
variable {X : Cx} {pins : List (Addr × Obj)} {σ : St} {H : Hp} {s : Shared}
theorem Inv.tupH {a : Addr} {xs : List V} (I : Inv X pins σ H s) (h : H a = some (.tup xs)) : ∃ its : List Value, Vals xs its ∧ s.heap.IsTuple a its.toArray ∧ xs.length ≤ sizeLine := I.tuple (SqT.of h)
theorem eq_rep (I : Inv X pins σ H s) : ∀ (n : Nat) (A : Around) {w1 w2 : W} {v1 v2 : V} {u1 u2 : Value}, w1.dep < n → w1.flat = true → w2.flat = true → A.units + n < cLine → Rep X.K H w1 v1 → Rep X.K H w2 v2 → RelV v1 u1 → RelV v2 u2 →
    SeqAt.EqAt A s u1 u2 (w1.eq w2) ∧ SeqAt.RcAt A s u1 u2 (w1.eq w2) ∧ SeqAt.RcNeAt A s u1 u2 (!(w1.eq w2)) := by
  intro n
  induction n with
  | zero => intro A w1 w2 v1 v2 u1 u2 h; (clear I; omega)
  | succ n ih =>
    intro A w1 w2 v1 v2 u1 u2 hd f1 f2 hu r1 r2 q1 q2
    have hu0 : A.units < cLine := by (clear I ih f1 f2 r1 r2 q1 q2; omega)
    have hui : A.in1.units + n < cLine := by show A.units + 1 + n < cLine; (clear I ih hd f1 f2 r1 r2 q1 q2 hu0; omega)
    cases r1 with
    | ref a => exact noFT f1
    | scr a => exact noFT f1
    | non =>
      cases (show u1 = Value.none from q1)
      cases r2 with
      | ref a => exact noFT f2
      | scr a => exact noFT f2
      | non => cases (show u2 = Value.none from q2); exact ⟨SeqAt.EqAt.same _, SeqAt.RcAt.none_none, SeqAt.RcNeAt.none_none⟩
      | bl b => cases (show u2 = Value.bool b from q2); exact ⟨SeqAt.EqAt.none_bool b, SeqAt.RcAt.none_bool b, SeqAt.RcNeAt.none_bool b⟩
      | int b => obtain ⟨t, rfl⟩ := q2; exact ⟨SeqAt.EqAt.none_int b t, SeqAt.RcAt.none_int b t, SeqAt.RcNeAt.none_int b t⟩
      | str b => obtain ⟨t, rfl⟩ := q2; exact ⟨SeqAt.EqAt.none_str b t, SeqAt.RcAt.none_str b t, SeqAt.RcNeAt.none_str b t⟩
      | tup h r =>
        cases (show u2 = Value.ref _ from q2)
        obtain ⟨its, _, p, _⟩ := Inv.tupH I h
        exact ⟨SeqAt.EqAt.none_tuple p hu0, SeqAt.RcAt.none_tuple p hu0, SeqAt.RcNeAt.none_tuple p hu0⟩
    | bl a =>
      cases (show u1 = Value.bool a from q1)
      cases r2 with
      | ref a => exact noFT f2
      | scr a => exact noFT f2
      | non => cases (show u2 = Value.none from q2); exact ⟨SeqAt.EqAt.bool_none a, SeqAt.RcAt.bool_none a, SeqAt.RcNeAt.bool_none a⟩
      | bl b => cases (show u2 = Value.bool b from q2); exact ⟨SeqAt.EqAt.bool_bool a b, SeqAt.RcAt.bool_bool a b, SeqAt.RcNeAt.bool_bool a b⟩
      | int b => obtain ⟨t, rfl⟩ := q2; exact ⟨SeqAt.EqAt.bool_int a b t, SeqAt.RcAt.bool_int a b t, SeqAt.RcNeAt.bool_int a b t⟩
      | str b => obtain ⟨t, rfl⟩ := q2; exact ⟨SeqAt.EqAt.bool_str a b t, SeqAt.RcAt.bool_str a b t, SeqAt.RcNeAt.bool_str a b t⟩
      | tup h r =>
        cases (show u2 = Value.ref _ from q2)
        obtain ⟨its, _, p, _⟩ := Inv.tupH I h
        exact ⟨SeqAt.EqAt.bool_tuple a p hu0, SeqAt.RcAt.bool_tuple a p hu0, SeqAt.RcNeAt.bool_tuple a p hu0⟩
    | int a =>
      obtain ⟨ta, rfl⟩ := q1
      cases r2 with
      | ref a => exact noFT f2
      | scr a => exact noFT f2
      | non => cases (show u2 = Value.none from q2); exact ⟨SeqAt.EqAt.int_none a ta, SeqAt.RcAt.int_none a ta, SeqAt.RcNeAt.int_none a ta⟩
      | bl b => cases (show u2 = Value.bool b from q2); exact ⟨SeqAt.EqAt.int_bool a ta b, SeqAt.RcAt.int_bool a ta b, SeqAt.RcNeAt.int_bool a ta b⟩
      | int b => obtain ⟨t, rfl⟩ := q2; exact ⟨SeqAt.EqAt.int_int a ta b t, SeqAt.RcAt.int_int a ta b t, SeqAt.RcNeAt.int_int a ta b t⟩
      | str b => obtain ⟨t, rfl⟩ := q2; exact ⟨SeqAt.EqAt.int_str a ta b t, SeqAt.RcAt.int_str a ta b t, SeqAt.RcNeAt.int_str a ta b t⟩
      | tup h r =>
        cases (show u2 = Value.ref _ from q2)
        obtain ⟨its, _, p, _⟩ := Inv.tupH I h
        exact ⟨SeqAt.EqAt.int_tuple a ta p hu0, SeqAt.RcAt.int_tuple a ta p hu0, SeqAt.RcNeAt.int_tuple a ta p hu0⟩
    | str a =>
      obtain ⟨ta, rfl⟩ := q1
      cases r2 with
      | ref a => exact noFT f2
      | scr a => exact noFT f2
      | non => cases (show u2 = Value.none from q2); exact ⟨SeqAt.EqAt.str_none a ta, SeqAt.RcAt.str_none a ta, SeqAt.RcNeAt.str_none a ta⟩
      | bl b => cases (show u2 = Value.bool b from q2); exact ⟨SeqAt.EqAt.str_bool a ta b, SeqAt.RcAt.str_bool a ta b, SeqAt.RcNeAt.str_bool a ta b⟩
      | int b => obtain ⟨t, rfl⟩ := q2; exact ⟨SeqAt.EqAt.str_int a ta b t, SeqAt.RcAt.str_int a ta b t, SeqAt.RcNeAt.str_int a ta b t⟩
      | str b => obtain ⟨t, rfl⟩ := q2; exact ⟨SeqAt.EqAt.str_str a ta b t, SeqAt.RcAt.str_str a ta b t, SeqAt.RcNeAt.str_str a ta b t⟩
      | tup h r =>
        cases (show u2 = Value.ref _ from q2)
        obtain ⟨its, _, p, _⟩ := Inv.tupH I h
        exact ⟨SeqAt.EqAt.str_tuple a ta p hu0, SeqAt.RcAt.str_tuple a ta p hu0, SeqAt.RcNeAt.str_tuple a ta p hu0⟩
    | @tup a ws xs h r =>
      cases (show u1 = Value.ref _ from q1)
      obtain ⟨its, rv, p, _⟩ := Inv.tupH I h
      cases r2 with
      | ref a => exact noFT f2
      | scr a => exact noFT f2
      | non => cases (show u2 = Value.none from q2); exact ⟨SeqAt.EqAt.tuple_none p hu0, SeqAt.RcAt.tuple_none p hu0, SeqAt.RcNeAt.tuple_none p hu0⟩
      | bl b => cases (show u2 = Value.bool b from q2); exact ⟨SeqAt.EqAt.tuple_bool b p hu0, SeqAt.RcAt.tuple_bool b p hu0, SeqAt.RcNeAt.tuple_bool b p hu0⟩
      | int b => obtain ⟨t, rfl⟩ := q2; exact ⟨SeqAt.EqAt.tuple_int b t p hu0, SeqAt.RcAt.tuple_int b t p hu0, SeqAt.RcNeAt.tuple_int b t p hu0⟩
      | str b => obtain ⟨t, rfl⟩ := q2; exact ⟨SeqAt.EqAt.tuple_str b t p hu0, SeqAt.RcAt.tuple_str b t p hu0, SeqAt.RcNeAt.tuple_str b t p hu0⟩
      | @tup b us ys h2 r2 =>
        cases (show u2 = Value.ref _ from q2)
        obtain ⟨its2, rv2, p2, _⟩ := Inv.tupH I h2
        have g1 : W.flats ws = true := f1
        have g2 : W.flats us = true := f2
        have hd' : W.deps ws < n := by simp only [W.dep] at hd; (clear I ih hu hu0 hui h r f1 q1 rv p h2 r2 f2 q2 rv2 p2 g1 g2; omega)
        have e1 : its.length = ws.length := by rw [← rv.length, r.length]
        have e2 : its2.length = us.length := by rw [← rv2.length, r2.length]
        have he : ∀ j (h1 : j < its.toArray.size) (h2 : j < its2.toArray.size), SeqAt.EqAt A.in1 s its.toArray[j] its2.toArray[j] (eqAtJ ws us j) := fun j j1 j2 => by
          rw [List.size_toArray] at j1 j2
          have ea : ws[j]? = some ws[j] := List.getElem?_eq_getElem (by (clear I ih hu hu0 hui h r hd f1 q1 rv p h2 r2 f2 q2 rv2 p2 g1 g2 hd' e2 j2; omega))
          have eb : us[j]? = some us[j] := List.getElem?_eq_getElem (by (clear I ih hu hu0 hui h r hd f1 q1 rv p h2 r2 f2 q2 rv2 p2 g1 g2 hd' e1 j1 ea; omega))
          obtain ⟨va, ea1, ra⟩ := r.get ea
          obtain ⟨vb, eb1, rb⟩ := r2.get eb
          obtain ⟨ua, ea2, qa⟩ := rv.get ea1
          obtain ⟨ub, eb2, qb⟩ := rv2.get eb1
          have za : its.toArray[j] = ua := by
            have := (List.getElem?_eq_some_iff.mp ea2).2
            simpa using this
          have zb : its2.toArray[j] = ub := by
            have := (List.getElem?_eq_some_iff.mp eb2).2
            simpa using this
          rw [za, zb]
          have := (ih A.in1 (w1 := ws[j]) (w2 := us[j]) (Nat.lt_of_le_of_lt (W.deps_get ea) hd') (W.flats_get g1 ea) (W.flats_get g2 eb) hui ra rb qa qb).1
          unfold eqAtJ
          rw [ea, eb]
          exact this
        have er := eqs_range ws us
        have c1 := SeqAt.RcAt.tuples p p2 hu0 he
        have c2 := SeqAt.RcNeAt.tuples p p2 hu0 he
        rw [List.size_toArray, List.size_toArray, e1, e2, er] at c1 c2
        have ee : (W.tup ws).eq (W.tup us) = W.eqs ws us := rfl
        rw [ee]
        refine ⟨?_, c1, c2⟩
        by_cases hab : a = b
        · subst hab
          have z := Rep.inj f1 f2 (Rep.tup h r) (Rep.tup h2 r2)
          have t : W.eqs ws us = true := by
            cases z
            exact W.eqs_refl ws g1
          rw [t]
          exact SeqAt.EqAt.same _
        · exact SeqAt.EqAt.of_refs hab c1
end
section
variable {X : Cx}
noncomputable def rEq3 : W2 := fun x y G q => x.flat = true ∧ y.flat = true ∧ x.dep ≤ 150 ∧ q (.bl (x.eq y)) G
noncomputable def rNe3 : W2 := fun x y G q => x.flat = true ∧ y.flat = true ∧ x.dep ≤ 150 ∧ q (.bl (!(x.eq y))) G
theorem q_eq {k : Nat} (hr : Room k X.A) : QOp X (compareOp .Eq) rEq3 := by
  intro pins s σ H x y v u Q I rx ry ⟨wx, wy, G, q, r1, r2, g, ⟨f1, f2, hd, h⟩, hQ⟩
  exact (eq_rep I 151 X.A (by (clear hr I rx ry r1 r2 g f1 f2 h hQ; omega)) f1 f2 (by have := hr.un; (clear hr I rx ry r1 r2 g f1 f2 hd h hQ; omega)) r1 r2 rx ry).2.1 X.prog X.w X.xe _ ⟨.bl _, H, I, rfl, hQ _ H _ G (TLe.refl H) (.bl _) g h⟩
theorem q_ne {k : Nat} (hr : Room k X.A) : QOp X (compareOp .NotEq) rNe3 := by
  intro pins s σ H x y v u Q I rx ry ⟨wx, wy, G, q, r1, r2, g, ⟨f1, f2, hd, h⟩, hQ⟩
  exact (eq_rep I 151 X.A (by (clear hr I rx ry r1 r2 g f1 f2 h hQ; omega)) f1 f2 (by have := hr.un; (clear hr I rx ry r1 r2 g f1 f2 hd h hQ; omega)) r1 r2 rx ry).2.2 X.prog X.w X.xe _ ⟨.bl _, H, I, rfl, hQ _ H _ G (TLe.refl H) (.bl _) g h⟩
noncomputable def rSub3 : W2 := fun x y G q => match x, y with
  | .int i, .int j => q (.int (i - j)) G
  | .bl a, .bl b => q (.int (b2i a - b2i b)) G
  | _, _ => False
theorem q_sub : QOp X (binaryOp .Sub) rSub3 := by
  intro pins s σ H x y v u Q I rx ry ⟨wx, wy, G, q, r1, r2, g, h, hQ⟩
  cases r1 with
  | int i =>
    cases r2 with
    | int j => exact op_sub pins s σ H _ _ v u Q I rx ry ⟨_, _, rfl, rfl, hQ _ H _ G (TLe.refl H) (.int _) g h⟩
    | _ => exact False.elim h
  | bl a =>
    cases r2 with
    | bl b =>
      cases rx
      cases ry
      exact sub_bool ⟨.int _, H, I.tok _, ⟨_, rfl⟩, hQ _ H _ G (TLe.refl H) (.int _) g h⟩
    | _ => exact False.elim h
  | _ => exact False.elim h
noncomputable def isNon : W → Bool
  | .non => true
  | _ => false
noncomputable def rIsN (neg : Bool) : W2 := fun x y G q => y = .non ∧ q (.bl (neg ^^ isNon x)) G
noncomputable abbrev WO := WSt → Gp → (Option Int → Gp → Prop) → Prop
noncomputable def LO (K : PySem.W.Frag) (t : WO) : TO := fun σ H Q => ∃ τ G q, RelSt K H τ σ ∧ RelG K H G ∧ t τ G q ∧ ∀ o H1 G1, TLe H H1 → RelG K H1 G1 → q o G1 → Q o H1
noncomputable def QO (X : Cx) (e : Option Expr) (t : WO) : Prop := PO X e (LO X.K t)
theorem PO.imp {e : Option Expr} {t t' : TO} (h : PO X e t) (f : ∀ σ H Q, t' σ H Q → t σ H Q) : PO X e t' := fun pins s σ H Q I q => h pins s σ H Q I (f _ _ _ q)
noncomputable def wNoPart : WO := fun _ G q => q none G
noncomputable def wPart (t : WE) : WO := fun τ G q => t τ G fun x G1 => match x with | .int i => q (some i) G1 | _ => False
theorem qo_none : QO X none wNoPart := po_none.imp fun σ H Q ⟨τ, G, q, hs, hg, ht, hQ⟩ => hQ none H G (TLe.refl H) hg ht
theorem qo_some {e : Expr} {te : WE} (h : QE X e te) : QO X (some e) (wPart te) :=
  (po_some h).imp fun σ H Q ⟨τ, G, q, hs, hg, ht, hQ⟩ => ⟨τ, G, _, hs, hg, ht, fun v H1 w G1 t1 r1 g1 q1 => by
    split at q1
    · cases r1
      exact ⟨_, rfl, hQ _ H1 G1 t1 g1 q1⟩
    · exact q1.elim⟩
noncomputable def cutW (xs : List W) (lo hi : Option Int) : List W := (xs.drop (HT.sIx xs.length 0 lo)).take (HT.sIx xs.length xs.length hi - HT.sIx xs.length 0 lo)
theorem Reps.cut {K : PySem.W.Frag} {H : Hp} {ws : List W} {vs : List V} (r : Reps K H ws vs) (lo hi : Option Int) : Reps K H (cutW ws lo hi) (cutV vs lo hi) := by
  unfold cutW cutV
  rw [r.length]
  exact (r.drop _).take _
noncomputable abbrev W3 := W → Option Int → Option Int → Gp → WK → Prop
noncomputable def rSl3 : W3 := fun x lo hi G q => match x with
  | .tup xs => q (.tup (cutW xs lo hi)) G
  | .scr ns => ns.length ≤ 100000 ∧ ∀ p, G p = none → q (.ref p) (updG G p (.lst (cutW (ns.map W.int) lo hi)))
  | .ref a => ∃ xs, G a = some (.lst xs) ∧ ∀ p, G p = none → q (.ref p) (updG G p (.lst (cutW xs lo hi)))
  | _ => False
theorem cutW_length (xs : List W) (lo hi : Option Int) : (cutW xs lo hi).length ≤ xs.length := by
  unfold cutW
  rw [List.length_take, List.length_drop]
  exact Nat.le_trans (Nat.min_le_right _ _) (Nat.sub_le _ _)
theorem cutW_whole {xs : List W} {lo hi : Option Int} (h : HT.sIx xs.length 0 lo = 0 ∧ HT.sIx xs.length xs.length hi = xs.length) : cutW xs lo hi = xs := by
  unfold cutW
  rw [h.1, h.2, List.drop_zero, Nat.sub_zero, List.take_length]
theorem tup_whole {prog : Program} {w : World} {A : Around} {E : Value → Shared → Prop} {s : Shared} {t sl : Addr} {items : Array Value} {vl vu : Value} {lo hi : Option Int} {Q : Value → Shared → Prop} (ht : IsTup s.heap t items) (hs : s.heap.IsSliceOf sl vl vu .none) (pl : IsPart vl lo) (pu : IsPart vu hi)
    (hw : HT.sIx items.size 0 lo = 0 ∧ HT.sIx items.size items.size hi = items.size) (h : Q (.ref t) s) : wpAny (model prog w) A (getItem (.ref t) (.ref sl)) Q E s := by
  obtain ⟨os, hos, hcs, hds⟩ := id hs
  have hTs : s.TypeIs (.ref sl) "slice" := ⟨os, hos, hcs⟩
  unfold getItem
  try with_reducible refine wpAny_holding ?_
  first | refine wpAny_bind (wpAny_pure ?_) | skip
  refine wpAny_bind (wpAny_sequenceKey ht.typeIs (by decide) ?_)
  refine wpAny_bind (wpAny_callSpecial?_slot (name := Str.ofString "__getitem__") ht.typeIs PyProof.Rows.slot_tuple_getitem
    (wpAny_call_entry PyProof.Rows.slot_tuple_getitem ht.typeIs entry_tuple_getitem ?_ (args_tuple_getitem _ _)))
  show wpAny _ _ (Builtin.Tuple.tupleItemsOf (.ref t) >>= _) _ _ s
  refine wpAny_bind (tupleItemsOf_ ht ?_)
  refine wpAny_bind (wpAny_typeOf hTs ?_)
  rw [if_pos (by decide)]
  refine wpAny_bind (HT.sliceApplied_gen hs pl pu ?_)
  have hyes : (((HT.sIx items.size 0 lo : Nat) : Int) == 0 && (1 : Int) == 1 && (HT.sIx items.size items.size hi - HT.sIx items.size 0 lo) == items.size) = true := by
    rw [hw.1, hw.2]; simp
  show wpAny _ _ (if (((HT.sIx items.size 0 lo : Nat) : Int) == 0 && (1 : Int) == 1 && (HT.sIx items.size items.size hi - HT.sIx items.size 0 lo) == items.size) = true then _ else _) _ _ s
  rw [if_pos hyes]
  refine wpAny_bind ?_
  show wpAny _ _ (typeOf (.ref t) >>= _) _ _ s
  refine wpAny_bind (wpAny_typeOf ht.typeIs (wpAny_pure ?_))
  rw [if_pos (by simp)]
  exact wpAny_bind (wpAny_rule (wpAny_pure ⟨_, rfl, wpAny_pure h⟩))
noncomputable def LSl (K : PySem.W.Frag) (r : W3) : V → Option Int → Option Int → Hp → VK → Prop := fun x lo hi H Q => ∃ w G q, Rep K H w x ∧ RelG K H G ∧ r w lo hi G q ∧ ∀ v H1 w G1, TLe H H1 → Rep K H1 w v → RelG K H1 G1 → q w G1 → Q v H1
theorem q_sl : SlR X (LSl X.K rSl3) := by
  intro pins s σ H x v vl vu lo hi sl Q I rx hs pl pu ⟨w, G, q, r, g, h, hQ⟩
  unfold rSl3 at h
  split at h
  · cases r with
    | @tup a ws xs hh rr =>
      by_cases hw : HT.sIx xs.length 0 lo = 0 ∧ HT.sIx xs.length xs.length hi = xs.length
      · cases rx
        obtain ⟨its, rv, ht, hz⟩ := I.tuple (SqT.of hh)
        have hlen : its.toArray.size = xs.length := by rw [List.size_toArray]; exact rv.length.symm
        refine ⟨"tuple", _, PyProof.Rows.slot_tuple_getitem.lookup, ht.typeIs, ?_⟩
        refine tup_whole ht hs pl pu (by rw [hlen]; exact hw) ⟨.ref a, H, I, rfl, ?_⟩
        rw [cutW_whole (by rw [rr.length]; exact hw)] at h
        exact hQ _ H _ G (TLe.refl H) (.tup hh rr) g h
      · exact sl_tup pins s σ H _ v vl vu lo hi sl Q I rx hs pl pu ⟨a, xs, rfl, SqT.of hh, hw, fun p hp => hQ _ _ _ G (TLe.new hp _) (.tup upd_same ((rr.cut lo hi).mono (TLe.new hp _))) (g.keep hp _) h⟩
  · rename_i ns
    cases r with
    | scr hh =>
      refine sl_list pins s σ H _ v vl vu lo hi sl Q I rx hs pl pu ⟨_, _, rfl, hh.sq, fun p hp => hQ _ _ _ _ (TLe.new hp _) (.ref p) (g.put (TLe.new hp _) ((Reps.ints ns).cut lo hi) ?_) (h.2 p (g.fresh hp))⟩
      exact Nat.le_trans (cutW_length _ _ _) (by rw [List.length_map]; exact h.1)
  · obtain ⟨xs, e, h⟩ := h
    cases r
    obtain ⟨hl, zs, e1, rr⟩ := g _ _ e
    exact sl_list pins s σ H _ v vl vu lo hi sl Q I rx hs pl pu ⟨_, zs, rfl, SqL.of e1, fun p hp => hQ _ _ _ _ (TLe.new hp _) (.ref p) (g.put (TLe.new hp _) (rr.cut lo hi) (Nat.le_trans (cutW_length _ _ _) hl)) (h p (g.fresh hp))⟩
  · exact h.elim
noncomputable def wSl (te : WE) (tl th : WO) : WE := fun τ G q => te τ G fun x G1 => tl τ G1 fun l G2 => th τ G2 fun u G3 => rSl3 x l u G3 q
theorem boot_isi : bootBuiltins "isinstance" = some (.builtin "isinstance") := by decide +kernel
noncomputable def tyN (G : Gp) : W → Option String
  | .non => some "NoneType"
  | .bl _ => some "bool"
  | .int _ => some "int"
  | .str _ => some "str"
  | .tup _ => some "tuple"
  | .ref a => match G a with | some (.lst _) => some "list" | some .dct => some "dict" | some (.dic _) => some "dict" | _ => none
  | .scr _ => none
noncomputable def subN : String → String → Bool
  | "int", "int" => true
  | "bool", "int" => true
  | "bool", "bool" => true
  | "tuple", "tuple" => true
  | "list", "list" => true
  | "str", "str" => true
  | _, _ => false
noncomputable def isiT (T : String) : Prop := T = "int" ∨ T = "bool" ∨ T = "tuple" ∨ T = "list" ∨ T = "str"
theorem kit_of {K : PySem.W.Frag} {t T : String} (ht : t = "NoneType" ∨ t = "bool" ∨ t = "int" ∨ t = "str" ∨ t = "tuple" ∨ t = "list" ∨ t = "dict") (hT : isiT T) : PySem.W.kitOne K (.type t) (.type T) = some (subN t T) := by
  rcases ht with rfl | rfl | rfl | rfl | rfl | rfl | rfl <;> rcases hT with rfl | rfl | rfl | rfl | rfl <;> first | rfl | kernel_rfl | decide +kernel
noncomputable def wIsi (T : String) (te : WE) : WE := fun τ G q => te τ G fun x G1 => match tyN G1 x with | some t => q (.bl (subN t T)) G1 | none => False
theorem tyOf_rep {K : PySem.W.Frag} {H : Hp} {G : Gp} {w : W} {v : V} {t : String} (g : RelG K H G) (r : Rep K H w v) (e : tyN G w = some t) : TyOf K H v (.type t) ∧ (t = "NoneType" ∨ t = "bool" ∨ t = "int" ∨ t = "str" ∨ t = "tuple" ∨ t = "list" ∨ t = "dict") := by
  unfold tyN at e
  cases r with
  | non => cases e; exact ⟨.non, by simp⟩
  | bl b => cases e; exact ⟨.bl b, by simp⟩
  | int i => cases e; exact ⟨.int i, by simp⟩
  | str x => cases e; exact ⟨.str x, by simp⟩
  | tup h _ => cases e; exact ⟨.tup h, by simp⟩
  | scr h => cases e
  | ref a =>
    simp only at e
    split at e
    · rename_i ws e1
      cases e
      obtain ⟨_, xs, e2, _⟩ := g a _ e1
      exact ⟨.lst e2, by simp⟩
    · rename_i e1
      cases e
      exact ⟨.dK (g a _ e1), by simp⟩
    · rename_i kvs e1
      cases e
      obtain ⟨_, kvs', e2, _⟩ := g a _ e1
      exact ⟨.dK e2, by simp⟩
    · cases e
theorem q_isi {T : String} (hT : isiT T) {pins : List (Addr × Obj)} {σ : St} {H : Hp} {s : Shared} {v : V} {u : Value} {w : W} {G : Gp} {q : WK} {Q : VK} (I : Inv X pins σ H s) (ru : RelV v u) (r : Rep X.K H w v) (g : RelG X.K H G)
    (h : match tyN G w with | some t => q (.bl (subN t T)) G | none => False) (hQ : ∀ v H1 w G1, TLe H H1 → Rep X.K H1 w v → RelG X.K H1 G1 → q w G1 → Q v H1) :
    wpAny (model X.prog X.w) X.A (call (.builtin "isinstance") [u, .type T]) (EP X pins σ Q) X.xe s := by
  split at h
  · rename_i t e
    obtain ⟨ty, hk⟩ := tyOf_rep g r e
    exact isinst_ok I ru ty (kit_of hk hT) fun tk => ⟨.bl _, H, I.tok tk, rfl, hQ _ H _ G (TLe.refl H) (.bl _) g h⟩
  · exact h.elim
theorem qe_isi {T : String} {x : Str} {e : Expr} {te : WE} {p p2 pos : Pos} (hT : isiT T) (hv : bootBuiltins x = some (.type T)) (hm : X.mg x = none) (hgx : Gl X x) (hm1 : X.mg "isinstance" = none) (hg1 : Gl X "isinstance") (he : QE X e te) (hn : x ≠ "__name__" := by decide) (hd : (x == ("__debug__" : Str)) = false := by decide)
    (hs1 : starEach [e, .Name x p2] X.env = (false, eval e X.env) :: starEach [.Name x p2] X.env := by rfl) (hs2 : starEach [.Name x p2] X.env = (false, eval (.Name x p2) X.env) :: starEach [] X.env := by rfl)
    (hpl : (backTo pos (starEach [.Name x p2] X.env)).any (·.1) = false := by rfl) : QE X (.Call (.Name "isinstance" p) [e, .Name x p2] [] pos) (wIsi T te) := by
  have hb : PE X (.Name x p2) (tC (.ty T)) := pe_bltn hgx hm hv rfl hn hd
  have ha : PA X [e, .Name x p2] (tCons (LEx X.K te) (tCons (tC (.ty T)) tNil)) := pa_cons he (pa_cons hb pa_nil hs2) hs1
  have hc : CallR X (.builtin "isinstance") (fun vs H Q => ∃ (v : V) (w : W) (G : Gp) (q : WK), vs = [v, .ty T] ∧ Rep X.K H w v ∧ RelG X.K H G ∧ (match tyN G w with | some t => q (.bl (subN t T)) G | none => False) ∧ ∀ v H1 w G1, TLe H H1 → Rep X.K H1 w v → RelG X.K H1 G1 → q w G1 → Q v H1) := by
    intro pins s σ H xs us Q I r ⟨v, w, G, q, e1, r1, g1, h, hQ⟩
    subst e1
    obtain ⟨u, u2, rfl, ru, ru2⟩ := vals2 r
    cases (show u2 = Value.type T from ru2)
    exact q_isi hT I ru r1 g1 h hQ
  exact (pe_callB hc hg1 hm1 boot_isi ha (by decide) (by decide) hs1 hpl).imp fun σ H Q z0 => z0.el fun τ G q hs hg ht hQ => ⟨τ, G, _, hs, hg, ht, fun v H1 w G1 t1 r1 g1 q1 =>
    ⟨v, w, G1, q, rfl, r1, g1, q1, fun v2 H2 w2 G2 t2 => hQ v2 H2 w2 G2 (t1.trans t2)⟩⟩
noncomputable def cSum : List W → Gp → WK → Prop := fun ws G q => match ws with
  | [.ref a] => ∃ ns : List Int, G a = some (.lst (ns.map W.int)) ∧ q (.int ns.sum) G
  | _ => False
theorem Reps.ints_of {K : PySem.W.Frag} {H : Hp} : ∀ {ns : List Int} {vs : List V}, Reps K H (ns.map W.int) vs → vs = ns.map V.int
  | [], _, r => by cases r; rfl
  | n :: ns, _, r => by
    cases r with
    | cons r rs =>
      cases r
      rw [Reps.ints_of rs]
      rfl
noncomputable def wApp (to te : WE) : WE := fun τ G q => to τ G fun x G1 => match x with
  | .ref a => (∃ xs, G1 a = some (.lst xs)) ∧ te τ G1 fun y G2 => ∃ ys, G2 a = some (.lst ys) ∧ ys.length + 1 ≤ 100000 ∧ q .non (updG G2 a (.lst (ys ++ [y])))
  | _ => False
theorem qe_app {o e : Expr} {to te : WE} {apos cpos : Pos} (ho : QE X o to) (he : QE X e te)
    (hbase : attributeBase o "append" X.env (eval o X.env) = eval o X.env := by rfl)
    (hfew : ((backTo cpos (starEach [e] X.env)).all (fun x => !x.1) && (backToKw cpos (keywordEach [] X.env)).all (fun x => x.1.isSome)
      && decide (([e] : List Expr).length + ([] : List Keyword).length + (if ([] : List Keyword).isEmpty then 0 else 1) < 30)) = true := by rfl)
    (hline : (apos.endLine == cpos.line) = true := by rfl) (hs : starEach [e] X.env = (false, eval e X.env) :: starEach [] X.env := by rfl) :
    QE X (.Call (.Attribute o "append" apos) [e] [] cpos) (wApp to te) :=
  (pe_bm PySem.F.plainAttrs_list PySem.F.slot_list_append PySem.F.type_list_append mt_append ho (pa_cons he pa_nil hs) hbase hfew hline hs rfl).imp fun σ H Q z0 => z0.el fun τ G q hs hg ht hQ =>
    ⟨τ, G, _, hs, hg, ht, fun v H1 w G1 t1 r1 g1 q1 => by
      split at q1
      · rename_i a
        cases r1
        obtain ⟨⟨xs, e1⟩, q1⟩ := q1
        obtain ⟨_, xs', h1, _⟩ := g1 a _ e1
        refine ⟨.inl ⟨rfl, xs', SqL.of h1⟩, τ, G1, _, hs.mono t1, g1, q1, fun v2 H2 w2 G2 t2 r2 g2 q2 => ?_⟩
        obtain ⟨ys, e2, hl, q2⟩ := q2
        obtain ⟨_, ys', h2, rr⟩ := g2 a _ e2
        refine ⟨a, ys', v2, rfl, rfl, h2, ?_, ?_⟩
        · rw [← rr.length]
          exact line_le hl
        · exact hQ _ _ _ _ ((t1.trans t2).trans (TLe.lst h2 _)) .non (g2.put (TLe.lst h2 _) (rr.append (.cons r2 .nil)) (by rw [List.length_append]; exact hl)) q2
      · exact q1.elim⟩
end
end L2
namespace L2
open PySem PySem.Spec PyProof.Rows
structure Itn (K : PySem.W.Frag) (J : It) (ws : List W) (C : Gp → Prop) (H0 : Hp) : Prop where
  stop : ∀ i H G, TLe H0 H → RelG K H G → C G → ws.length ≤ i → J.stop i H
  go : ∀ i w H G, TLe H0 H → RelG K H G → C G → ws[i]? = some w → J.go i H ∧ ∀ x H', J.yld i H x H' → TLe H H' ∧ Rep K H' w x ∧ RelG K H' G
noncomputable abbrev WI := WSt → Gp → (List W → (Gp → Prop) → Gp → Prop) → Prop
noncomputable def LI (K : PySem.W.Frag) (t : WI) : TI := fun σ H R => ∃ τ G r, RelSt K H τ σ ∧ RelG K H G ∧ t τ G r ∧ ∀ J H1 ws C G1, TLe H H1 → RelG K H1 G1 → Itn K J ws C H1 → r ws C G1 → R J H1
noncomputable def QI (X : Cx) (tg iter : Expr) (t : WI) : Prop := PI X tg iter (LI X.K t)
section
variable {X : Cx} {tg : Expr}
theorem PI.imp {e : Expr} {t t' : TI} (h : PI X tg e t) (f : ∀ σ H R, t' σ H R → t σ H R) : PI X tg e t' := fun pins s σ H R I q => h pins s σ H R I (f _ _ _ q)
theorem itn_tup {K : PySem.W.Frag} {a : Addr} {ws : List W} {xs : List V} {H : Hp} (h : H a = some (.tup xs)) (r : Reps K H ws xs) : Itn K (Itt K a) ws (fun _ => True) H where
  stop := fun i H1 G t g _ hl => ⟨xs, SqT.of (t.tup _ _ h), by rw [← r.length]; exact hl⟩
  go := fun i w H1 G t g _ e => by
    obtain ⟨v, e1, rv⟩ := r.get e
    refine ⟨⟨xs, v, SqT.of (t.tup _ _ h), e1⟩, fun x H' ⟨eH, hy⟩ => ?_⟩
    subst eH
    have e2 := hy xs (SqT.of (t.tup _ _ h))
    rw [e1] at e2; cases e2
    exact ⟨TLe.refl _, rv.mono t, g⟩
theorem itn_lst {K : PySem.W.Frag} {a : Addr} {ws : List W} {H : Hp} : Itn K (Itl K a) ws (fun G => G a = some (.lst ws)) H where
  stop := fun i H1 G t g e hl => by
    obtain ⟨_, xs, h1, r⟩ := g a _ e
    exact ⟨xs, SqL.of h1, by rw [← r.length]; exact hl⟩
  go := fun i w H1 G t g eG e => by
    obtain ⟨_, xs, h1, r⟩ := g a _ eG
    obtain ⟨v, e1, rv⟩ := r.get e
    refine ⟨⟨xs, v, SqL.of h1, e1⟩, fun x H' ⟨eH, hy⟩ => ?_⟩
    subst eH
    have e2 := hy xs (SqL.of h1)
    rw [e1] at e2; cases e2
    exact ⟨TLe.refl _, rv, g⟩
theorem itn_scr {K : PySem.W.Frag} {a : Addr} {ns : List Int} {H : Hp} (h : Scr K H a ns) : Itn K (Itl K a) (ns.map W.int) (fun _ => True) H where
  stop := fun i H1 G t g _ hl => ⟨_, (h.mono t).sq, by simpa using hl⟩
  go := fun i w H1 G t g _ e => by
    have r : Reps K H1 (ns.map W.int) (ns.map V.int) := Reps.ints ns
    obtain ⟨v, e1, rv⟩ := r.get e
    refine ⟨⟨_, v, (h.mono t).sq, e1⟩, fun x H' ⟨eH, hy⟩ => ?_⟩
    subst eH
    have e2 := hy _ (h.mono t).sq
    rw [e1] at e2; cases e2
    exact ⟨TLe.refl _, rv, g⟩
noncomputable def jSeq (te : WE) : WI := fun τ G r => te τ G fun x G1 => match x with
  | .tup ws => r ws (fun _ => True) G1
  | .scr ns => r (ns.map W.int) (fun _ => True) G1
  | .ref a => ∃ ws, G1 a = some (.lst ws) ∧ r ws (fun G => G a = some (.lst ws)) G1
  | _ => False
noncomputable def upW (n : Nat) : List W := (List.range n).map fun (i : Nat) => W.int (i : Int)
theorem itn_rng {K : PySem.W.Frag} {n : Nat} {H : Hp} : Itn K (Itr 0 n) (upW n) (fun _ => True) H where
  stop := fun i H1 G t g _ hl => by have h : n ≤ i := by simpa [upW] using hl
                                    exact h
  go := fun i w H1 G t g _ e => by
    unfold upW at e
    rw [List.getElem?_map] at e
    have hi : i < n := by
      cases h : (List.range n)[i]? with
      | none => rw [h] at e; cases e
      | some k =>
        have := (List.getElem?_eq_some_iff.mp h).1
        simpa using this
    rw [List.getElem?_range hi] at e
    cases e
    refine ⟨hi, fun x H' ⟨eH, hy⟩ => ?_⟩
    subst eH
    subst hy
    exact ⟨TLe.refl _, by simpa using Rep.int _, g⟩
noncomputable def jRng (ta : WA) : WI := fun τ G r => ta τ G fun ws G1 => match ws with
  | [.int j] => -(2 ^ 62) ≤ j ∧ j < 2 ^ 62 ∧ r (upW j.toNat) (fun _ => True) G1
  | _ => False
theorem qi_range {a : Expr} {ta : WA} {p pos : Pos} (hg : Gl X "range") (hm : X.mg "range" = none) (ha : QA X [a] ta) (hs : starEach [a] X.env = [(false, eval a X.env)] := by rfl) : QI X tg (.Call (.Name "range" p) [a] [] pos) (jRng ta) :=
  (pi_range1 hg hm ha hs).imp fun σ H R ⟨τ, G, r, hs, hg, ht, hR⟩ => ⟨τ, G, _, hs, hg, ht, fun vs H1 ws G1 t1 r1 g1 q1 => by
    split at q1
    · obtain ⟨v, rfl, r2⟩ := r1.one
      cases r2 with
      | int j => exact ⟨_, rfl, q1.1, q1.2.1, hR _ H1 _ _ G1 t1 g1 itn_rng q1.2.2⟩
    · exact q1.elim⟩
noncomputable def loopW (C : Gp → Prop) (g : WG) (tb : WS) (d : WEnds) : List W → WSt → Gp → Prop
  | [], τ, G => C G ∧ d.nx τ G
  | w :: ws, τ, G => C G ∧ g w τ G fun τ2 G2 => tb { d with nx := loopW C g tb d ws, ct := loopW C g tb d ws, bk := d.nx } τ2 G2
noncomputable def wFor (wi : WI) (g : WG) (tb : WS) : WS := fun d τ G => wi τ G fun ws C G1 => loopW C g tb d ws τ G1
theorem qs_for {iter : Expr} {body : List Stmt} {wi : WI} {g : WG} {tb : WS} {pos : Pos} (hp : PassesOwn (model X.prog X.w) X.A X.env X.xe) (hc : X.calm = true) (hi : QI X tg iter wi) (hg : QG X tg g) (hb : QSs X body tb)
    (hs : ∀ x, foldedSetIterable iter X.env x = pure x := by intro _; rfl) : QS X (.For tg iter body [] pos) (wFor wi g tb) :=
  (ps_for hp hc hi hg hb hs).imp fun D σ H z0 => z0.el fun τ G d hs hg ht l => ⟨τ, G, _, hs, hg, ht, fun J H1 ws C G1 t1 g1 it q1 => by
    refine ⟨fun i m σ2 H2 => ∃ τ2 G2, m = ws.length - i ∧ i ≤ ws.length ∧ TLe H1 H2 ∧ RelSt X.K H2 τ2 σ2 ∧ RelG X.K H2 G2 ∧ loopW C g tb d (ws.drop i) τ2 G2, ⟨ws.length, τ, G1, by simp, Nat.zero_le _, TLe.refl _, hs.mono t1, g1, by simpa using q1⟩, ?_⟩
    rintro i m σ2 H2 ⟨τ2, G2, rfl, hi, t2, s2, g2, q2⟩
    by_cases hlt : i < ws.length
    · have ed : ws.drop i = ws[i] :: ws.drop (i + 1) := List.drop_eq_getElem_cons hlt
      rw [ed] at q2
      obtain ⟨c2, q2⟩ := q2
      obtain ⟨go, yl⟩ := it.go i ws[i] H2 G2 t2 g2 c2 (List.getElem?_eq_getElem hlt)
      refine .inr ⟨go, fun σ3 H3 => ∃ τ3 G3, TLe H1 H3 ∧ RelSt X.K H3 τ3 σ3 ∧ RelG X.K H3 G3 ∧ loopW C g tb d (ws.drop (i + 1)) τ3 G3, ?_, fun x H' hy => ?_⟩
      · rintro σ3 H3 ⟨τ3, G3, t3, s3, g3, q3⟩
        exact ⟨ws.length - (i + 1), by (clear hp hc hb z0 hs hg ht l t1 g1 it q1 hi t2 s2 g2 ed c2 q2 go yl t3 s3 g3 q3; omega), τ3, G3, rfl, hlt, t3, s3, g3, q3⟩
      · obtain ⟨tx, rx, gx⟩ := yl x H' hy
        refine ⟨ws[i], τ2, G2, _, rx, s2.mono tx, gx, q2, fun σ3 H3 τ3 G3 t3 s3 g3 q3 => ?_⟩
        have tt := (t2.trans tx).trans t3
        have t0 := t1.trans tt
        exact ⟨τ3, G3, _, s3, g3, q3, ⟨fun σ4 H4 τ4 G4 t4 s4 g4 q4 => ⟨τ4, G4, tt.trans t4, s4, g4, q4⟩, fun v H4 w G4 t4 => l.rt v H4 w G4 (t0.trans t4), fun σ4 H4 τ4 G4 t4 => l.nx σ4 H4 τ4 G4 (t0.trans t4), fun σ4 H4 τ4 G4 t4 s4 g4 q4 => ⟨τ4, G4, tt.trans t4, s4, g4, q4⟩⟩⟩
    · have e : i = ws.length := by (clear hp hc hb z0 hs hg ht l t1 g1 it q1 t2 s2 g2 q2; omega)
      subst e
      rw [List.drop_length] at q2
      exact .inl ⟨it.stop _ H2 G2 t2 g2 q2.1 (Nat.le_refl _), l.nx σ2 H2 τ2 G2 (t1.trans t2) s2 g2 q2.2⟩⟩
end
end L2
namespace L2
open PySem PySem.Spec PyProof.Rows
section
variable {prog : Program} {w : World} {A : Around} {E : Value → Shared → Prop} {s : Shared}
structure ZA (z p r i j a b : Addr) : Prop where
  zp : p ≠ z
  zr : r ≠ z
  zi : i ≠ z
  zj : j ≠ z
  pr : p ≠ r
  pi : p ≠ i
  pj : p ≠ j
  ri : r ≠ i
  rj : r ≠ j
  ij : i ≠ j
  az : a ≠ z
  ar : a ≠ r
  ai : a ≠ i
  aj : a ≠ j
  bz : b ≠ z
  br : b ≠ r
  bi : b ≠ i
  bj : b ≠ j
structure ZT (z p r i j a b : Addr) (n : Nat) (f : Value) (h : Heap) : Prop where
  hz : IsZip h z p r f
  hp : IsPair h p (.ref i) (.ref j)
  hr : ∃ x y, IsPair h r x y
  hi : h.IsTupleIter i a n
  hj : h.IsTupleIter j b n
end
end L2
namespace L2
open PySem PySem.Spec PyProof.Rows
section
variable {prog : Program} {w : World} {A : Around} {R : Result → Shared → Prop} {s : Shared}
noncomputable abbrev nox : Value → Shared → Prop := fun _ _ => False
noncomputable abbrev tests (ifs : List Expr) (env : Env) : Sem Bool := forIn ifs true fun c r => if r = true then do let ok ← isTrue c env (eval c env); pure (ForInStep.yield ok) else pure (ForInStep.yield r)
theorem comp_loop {elt tg iter : Expr} {ifs : List Expr} {scope : Scope} {pos : Pos} {it acc : Value} {env : Env} (I : Nat → Shared → Prop)
    (turn : ∀ n s, I n s → wpAny (model prog w) A (pyNext it) (fun r s1 => match r with
      | none => R (.ok .next) s1
      | some v => wpAny (model prog w) A (letOwnedTupleGo tg it v) (fun _ s2 => wpAny (model prog w) A (assign tg env v) (fun _ s3 => wpAny (model prog w) A (tests ifs env) (fun ok s4 =>
          if ok = true then wpAny (model prog w) A (eval elt env) (fun x s5 => wpAny (model prog w) A (call (.builtin "list.append") [acc, x]) (fun _ s6 => ∃ m, m < n ∧ I m s6) nox s5) nox s4
          else ∃ m, m < n ∧ I m s4) nox s3) nox s2) nox s1) nox s) (n : Nat) (h : I n s) :
    codeAny (model prog w) A (.compLoop (.ListComp elt [⟨tg, iter, ifs, 0⟩] scope pos) 0 it acc env) R s := by
  refine codeAny_loop rfl I (fun n s hI => ?_) n h
  show wpAny _ A ((compTurn (.ListComp elt [⟨tg, iter, ifs, 0⟩] scope pos) 0 it acc env).onRaise (fun x => do noteFrame x env; theTreesLotGoes x)) _ _ s
  refine wpAny_noted ?_; rw [compTurn_list]
  refine wpAny_bind (wpAny_standAt (wpAny_bind (wpAny_mono (turn n s hI) (fun r s1 h1 => ?_) fun _ _ z => z.elim)))
  cases r with
  | none => exact wpAny_pure h1
  | some v =>
    refine wpAny_bind (wpAny_mono h1 (fun _ s2 h2 => wpAny_bind (wpAny_mono h2 (fun _ s3 h3 => wpAny_bind (wpAny_mono h3 (fun ok s4 h4 => ?_) fun _ _ z => z.elim)) fun _ _ z => z.elim)) fun _ _ z => z.elim)
    cases ok with
    | false => exact wpAny_pure ⟨rfl, h4⟩
    | true =>
      refine wpAny_bind (wpAny_bind (wpAny_mono h4 (fun x s5 h5 => ?_) fun _ _ z => z.elim))
      exact wpAny_bind (wpAny_mono h5 (fun _ s6 h6 => wpAny_pure (wpAny_pure ⟨rfl, h6⟩)) fun _ _ z => z.elim)
end
noncomputable def clOf (env : Env) : List (Str × NameKind) → List (Str × Addr) → List (Str × Addr)
  | [], cs => cs
  | (n, k) :: r, cs => if k == .free then clOf env r ((n, (env.cells.lookup n).getD 0) :: cs) else clOf env r cs
theorem closure_of {env : Env} {scope : Scope} (h : ∀ y ∈ scope.names, y.2 = .free → ∃ c, env.cells.lookup y.1 = some c) : closureFor scope env = pure (clOf env scope.names []) := by
  unfold closureFor
  have key : ∀ (l : List (Str × NameKind)) (cs : List (Str × Addr)), (∀ y ∈ l, y.2 = .free → ∃ c, env.cells.lookup y.1 = some c) →
      (forIn l cs fun (x : Str × NameKind) (r : List (Str × Addr)) => (if (x.2 == NameKind.free) = true then (do let y ← cellOf env x.1; pure (ForInStep.yield ((x.1, y) :: r))) else pure (ForInStep.yield r) : Sem (ForInStep (List (Str × Addr))))) = (pure (clOf env l cs) : Sem (List (Str × Addr))) := by
    intro l
    induction l with
    | nil => intro cs _; rfl
    | cons y r ih =>
      intro cs hl
      obtain ⟨n, k⟩ := y
      rw [List.forIn_cons]
      unfold clOf
      by_cases hk : (k == NameKind.free) = true
      · have hk' : k = .free := by simpa using hk
        obtain ⟨c, hc⟩ := hl (n, k) List.mem_cons_self hk'
        simp only [hk, if_true]
        have e : cellOf env n = pure c := by unfold cellOf; rw [hc]
        rw [e, hc]
        simp only [pure_bind, Option.getD_some]
        exact ih _ fun y hy => hl y (List.mem_cons_of_mem _ hy)
      · simp only [hk, if_false, Bool.false_eq_true]
        simp only [pure_bind]
        exact ih _ fun y hy => hl y (List.mem_cons_of_mem _ hy)
  have := key scope.names [] h
  simp only [bind_pure]
  exact this
theorem clOf_lookup {env : Env} : ∀ {l : List (Str × NameKind)} {cs : List (Str × Addr)}, (∀ y ∈ l, y.2 = .free → ∃ c, env.cells.lookup y.1 = some c) → (∀ x c, cs.lookup x = some c → env.cells.lookup x = some c) → ∀ x c, (clOf env l cs).lookup x = some c → env.cells.lookup x = some c
  | [], _, _, hc, x, c, e => hc x c e
  | (n, k) :: r, cs, hl, hc, x, c, e => by
    unfold clOf at e
    have hr : ∀ y ∈ r, y.2 = .free → ∃ c, env.cells.lookup y.1 = some c := fun y hy => hl y (List.mem_cons_of_mem _ hy)
    split at e
    · rename_i hk
      obtain ⟨c0, hc0⟩ := hl (n, k) List.mem_cons_self (by simpa using hk)
      refine clOf_lookup hr (fun x' c' e' => ?_) x c e
      rw [List.lookup_cons] at e'
      cases hx : x' == n with
      | true =>
        rw [hx] at e'
        have : x' = n := by simpa using hx
        subst this
        rw [hc0] at e'
        simp at e'
        subst e'
        exact hc0
      | false => rw [hx] at e'; exact hc x' c' e'
    · exact clOf_lookup hr hc x c e
theorem clOf_has {env : Env} : ∀ {l : List (Str × NameKind)} {cs : List (Str × Addr)} {x : Str}, ((x, NameKind.free) ∈ l ∨ ∃ c, cs.lookup x = some c) → ∃ c, (clOf env l cs).lookup x = some c
  | [], _, _, h => by
    rcases h with h | h
    · simp at h
    · exact h
  | (n, k) :: r, cs, x, h => by
    unfold clOf
    have keep : (∃ c, cs.lookup x = some c) → ∃ c, ((n, (env.cells.lookup n).getD 0) :: cs).lookup x = some c := fun ⟨c, e⟩ => by
      rw [List.lookup_cons]
      cases hx : x == n with
      | true => exact ⟨_, rfl⟩
      | false => exact ⟨c, e⟩
    split
    · rename_i hk
      refine clOf_has ?_
      rcases h with h | h
      · rcases List.mem_cons.mp h with h | h
        · cases h
          exact .inr ⟨(env.cells.lookup n).getD 0, by rw [List.lookup_cons]; simp⟩
        · exact .inl h
      · exact .inr (keep h)
    · rename_i hk
      refine clOf_has ?_
      rcases h with h | h
      · rcases List.mem_cons.mp h with h | h
        · cases h
          exact absurd rfl hk
        · exact .inl h
      · exact .inr h
theorem relabel_lookup {env : Env} : ∀ {l : List (Str × NameKind)} {x : Str} {k : NameKind}, (l.map fun (n, k) => if (k == NameKind.free && env.scope.kind == .function && env.kindOf n == some .cell) then (n, NameKind.cell) else (n, k)).lookup x = some k → (k = .cell ∨ k = .free) → (∀ y ∈ l, y.2 ≠ .cell) → (x, NameKind.free) ∈ l
  | [], _, _, e, _, _ => by simp at e
  | (n, k0) :: r, x, k, e, hk, hc => by
    rw [List.map_cons, List.lookup_cons] at e
    have hr : ∀ y ∈ r, y.2 ≠ .cell := fun y hy => hc y (List.mem_cons_of_mem _ hy)
    have hn : (if (k0 == NameKind.free && env.scope.kind == .function && env.kindOf n == some .cell) = true then (n, NameKind.cell) else (n, k0)).1 = n := by split <;> rfl
    rw [hn] at e
    cases hx : x == n with
    | false => rw [hx] at e; exact List.mem_cons_of_mem _ (relabel_lookup e hk hr)
    | true =>
      rw [hx] at e
      have hxn : x = n := by simpa using hx
      subst hxn
      have e' : (if (k0 == NameKind.free && env.scope.kind == .function && env.kindOf x == some .cell) = true then (x, NameKind.cell) else (x, k0)).2 = k := Option.some.inj e
      by_cases hf : k0 = .free
      · subst hf; exact List.mem_cons_self
      · rw [if_neg (by simp [hf])] at e'
        have e'' : k0 = k := e'
        subst e''
        rcases hk with h | h
        · exact absurd h (hc _ List.mem_cons_self)
        · exact absurd h hf
theorem relabel_local {env : Env} : ∀ {l : List (Str × NameKind)} {x : Str}, (l.map fun (n, k) => if (k == NameKind.free && env.scope.kind == .function && env.kindOf n == some .cell) then (n, NameKind.cell) else (n, k)).lookup x = some .local → l.lookup x = some .local
  | [], _, e => by simp at e
  | (n, k0) :: r, x, e => by
    rw [List.map_cons, List.lookup_cons] at e
    rw [List.lookup_cons]
    have hn : (if (k0 == NameKind.free && env.scope.kind == .function && env.kindOf n == some .cell) = true then (n, NameKind.cell) else (n, k0)).1 = n := by split <;> rfl
    rw [hn] at e
    cases hx : x == n with
    | false => rw [hx] at e; exact relabel_local e
    | true =>
      rw [hx] at e
      have e' : (if (k0 == NameKind.free && env.scope.kind == .function && env.kindOf n == some .cell) = true then (n, NameKind.cell) else (n, k0)).2 = NameKind.local := Option.some.inj e
      split at e'
      · cases e'
      · exact congrArg some e'
noncomputable def bCx (X : Cx) (N : List Str) (scope : Scope) (C : Addr) (fp : List Addr) (s₀ : Shared) (H₀ : Hp) : Cx where
  prog := X.prog
  w := X.w
  K := X.K
  mg := X.mg
  base := X.base
  A := X.A
  N := N
  s₀ := s₀
  H₀ := H₀
  env := compEnvC scope (clOf X.env scope.names []) C X.env
  outer := X.stack
  stack := X.stack
  ex := fp
  fn := fun _ => false
  calm := X.calm
  pn := []
  xe := nox
structure CompSc (X : Cx) (scope : Scope) (N : List Str) (fv : List (Option Nat)) : Prop where
  kind : scope.kind = .function
  nocell : ∀ y ∈ scope.names, y.2 ≠ .cell
  names : ∀ x ∈ scope.names, x.2 = .local → scope.names.lookup x.1 = some .local
  free : ∀ y ∈ scope.names, y.2 = .free → X.env.scope.names.lookup y.1 = some .cell
  fvs : ∀ (i j : Nat) (x : Str), N[i]? = some x → fv[i]? = some (some j) → X.N[j]? = some x ∧ X.env.scope.names.lookup x = some .cell ∧ (x, NameKind.free) ∈ scope.names
  len : fv.length = N.length
  fvl : ∀ {x : Str}, (x, NameKind.free) ∈ scope.names → scope.names.lookup x ≠ some .local
noncomputable def pick {α : Type} (fv : List (Option Nat)) (σ : List (Option α)) : List (Option α) := fv.map fun o => o.bind fun j => (σ[j]?).join
theorem pick_get {α : Type} {fv : List (Option Nat)} {σ : List (Option α)} {i : Nat} {v : α} (h : (pick fv σ)[i]? = some (some v)) : ∃ j, fv[i]? = some (some j) ∧ σ[j]? = some (some v) := by
  unfold pick at h
  rw [List.getElem?_map] at h
  cases e : fv[i]? with
  | none => rw [e] at h; cases h
  | some o =>
    rw [e] at h
    cases o with
    | none => cases h
    | some j =>
      have h' : (σ[j]?).join = some v := Option.some.inj h
      refine ⟨j, rfl, ?_⟩
      cases e2 : σ[j]? with
      | none => rw [e2] at h'; cases h'
      | some o => rw [e2] at h'; exact congrArg some h'
theorem pick_rel {K : PySem.W.Frag} {H : Hp} {τ : WSt} {σ : St} {fv : List (Option Nat)} (h : RelSt K H τ σ) : RelSt K H (pick fv τ) (pick fv σ) := by
  refine ⟨by simp [pick], fun i w e => ?_⟩
  obtain ⟨j, ej, ew⟩ := pick_get e
  obtain ⟨v, ev, r⟩ := h.2 j w ew
  refine ⟨v, ?_, r⟩
  unfold pick
  rw [List.getElem?_map, ej]
  show some ((σ[j]?).join) = _
  rw [ev]
  rfl
section
variable {X : Cx} {pins : List (Addr × Obj)} {σ : St} {H H2 : Hp} {s s2 : Shared} {scope : Scope} {N : List Str} {fv : List (Option Nat)} {fp : List Addr} {C D : Addr}
theorem CompSc.cells (S : CompSc X scope N fv) (I : Inv X pins σ H s) : ∀ y ∈ scope.names, y.2 = .free → ∃ c, X.env.cells.lookup y.1 = some c := fun y hy hk => I.ok.has y.1 (.inl (S.free y hy hk))
theorem block_inv {h4 : Heap} {t4 : Nat} {m : Str → Option Value} (I : Inv X pins σ H2 s2) (S : CompSc X scope N fv) (hf : ∀ b ∈ fp, FpOk X pins H2 b) (hfo : ∀ b ∈ fp, b < s2.heap.objs.size) (keep : ∀ b o, s2.heap.get? b = some o → h4.get? b = some o)
    (hC : s2.heap.objs.size ≤ C) (ns : h4.Ns C m) : Inv (bCx X N scope C fp s2 H2) [] (pick fv σ) H2 { s2 with heap := h4, toks := t4 } := by
  have look : ∀ x c, (clOf X.env scope.names []).lookup x = some c → X.env.cells.lookup x = some c := clOf_lookup (S.cells I) (fun x c e => by simp at e)
  refine ⟨⟨I.ok.mod, S.kind, I.ok.glob, I.ok.blt, hC, fun x y c e1 e2 => I.ok.inj x y c (look x c e1) (look y c e2), fun x hx => ?_, fun x c h => absurd (show false = true from h) Bool.false_ne_true, I.ok.hd, I.ok.frames, .inl rfl, fun b hb => ?_, I.bs, Nat.le_trans I.ok.bsz I.sz, fun b o e hb => ?_, fun b hb hx => ?_, I.stack, I.stkFree⟩,
    rfl, I.bare, Un.kept keep, ⟨m, ns, fun i x v e1 e2 e3 => ?_⟩, fun x c e => ?_, I.hok.fresh hC, fun x c e => I.freeC x c (look x c e), fun p hp => absurd (show p ∈ ([] : List (Addr × Obj)) from hp) (by simp), I.hok.kept keep, ?_⟩
  · rcases hx with hx | hx
    · exact clOf_has (.inl (relabel_lookup hx (.inl rfl) S.nocell))
    · exact clOf_has (.inl (relabel_lookup hx (.inr rfl) S.nocell))
  · exact ⟨Nat.ne_of_lt (Nat.lt_of_lt_of_le (hfo b hb) hC), fun x c e => (hf b hb).2.2.2.2.1 x c (look x c e)⟩
  · rcases (hf b hb).2.2.2.1 with z | z
    · exact I.ok.noex b o e z
    · exact absurd (Nat.lt_of_lt_of_le (Heap.lt_size e) (Nat.le_trans I.ok.bsz z)) (Nat.lt_irrefl _)
  · rcases List.mem_cons.mp (I.stkSub b hx) with z | z
    · exact (hf b hb).2.1 z
    · exact (hf b hb).2.2.1 z
  · obtain ⟨j, ej, ev⟩ := pick_get e2
    obtain ⟨h1, h2, h3⟩ := S.fvs i j x e1 ej
    obtain ⟨m0, _, hl⟩ := I.loc
    obtain ⟨u, r, l⟩ := hl j x v h1 ev (.inr (.inl h2))
    refine ⟨u, r, .inr ?_⟩
    rcases l with ⟨k, _⟩ | ⟨_, c, ec, o, ho, hd⟩
    · exact absurd (h2.symm.trans k) (by intro z; cases z)
    · obtain ⟨c', ec'⟩ := clOf_has (env := X.env) (l := scope.names) (cs := []) (x := x) (.inl h3)
      have e' := look x c' ec'
      rw [ec] at e'
      cases e'
      refine ⟨?_, c, ec', o, keep _ _ ho, hd⟩
      rcases e3 with e3 | e3 | e3
      · exact absurd (relabel_local e3) fun z => S.fvl h3 z
      · exact .inl e3
      · exact .inr e3
  · obtain ⟨v, o, ho, hd⟩ := I.cell x c (look x c e)
    exact ⟨v, o, keep _ _ ho, hd⟩
  · show (pick fv σ).length = N.length
    unfold pick
    rw [List.length_map, S.len]
end
end L2
namespace L2
open PySem PySem.Spec PyProof.Rows
noncomputable def compW (C : Gp → Prop) (g : WG) (tt : WT) (te : WE) : List W → WSt → Gp → List W → (List W → Gp → Prop) → Prop
  | [], _, G, acc, q => C G ∧ q acc G
  | w :: ws, τ, G, acc, q => C G ∧ g w τ G fun τ2 G2 => tt τ2 G2 fun b G3 => if b = true then te τ2 G3 fun v G4 => acc.length + 1 ≤ 100000 ∧ compW C g tt te ws τ2 G4 (acc ++ [v]) q else compW C g tt te ws τ2 G3 acc q
noncomputable def QTs (X : Cx) (ifs : List Expr) (t : WT) : Prop :=
  ∀ (pins : List (Addr × Obj)) (s : Shared) (σ : St) (H : Hp) (Q : Bool → Hp → Prop), Inv X pins σ H s → LTx X.K t σ H Q → wpAny (model X.prog X.w) X.A (tests ifs X.env) (TP X pins σ Q) X.xe s
noncomputable def wTrue : WT := fun _ G q => q true G
theorem qts_nil {X : Cx} : QTs X [] wTrue := fun pins s σ H Q I ⟨τ, G, q, hs, hg, ht, hQ⟩ => wpAny_tests_nil ⟨H, I, hQ true H G (TLe.refl H) hg ht⟩
theorem RelG.track {K : PySem.W.Frag} {H : Hp} {G : Gp} {p : Addr} {xs : List V} {ws : List W} (h : RelG K H G) (e : H p = some (.lst xs)) (r : Reps K H ws xs) (hl : ws.length ≤ 100000) : RelG K H (updG G p (.lst ws)) := fun a g ea => by
  by_cases hb : a = p
  · subst hb
    rw [updG_same] at ea; cases ea
    exact ⟨hl, xs, e, r⟩
  · rw [updG_ne hb] at ea
    exact h a g ea
section
variable {X : Cx} {pins : List (Addr × Obj)} {σ : St} {H2 : Hp} {s2 : Shared} {scope : Scope} {N : List Str} {fv : List (Option Nat)} {fp : List Addr} {tg elt iter : Expr} {ifs : List Expr} {pos : Pos} {J : It} {it : Addr} {tn : Nat → Heap → Prop}
  {g : WG} {tt : WT} {te : WE} {ws : List W} {Cd : Gp → Prop} {τ : WSt} {G : Gp} {q : List W → Gp → Prop}
structure CompEnd (X : Cx) (pins : List (Addr × Obj)) (σ : St) (H2 : Hp) (s2 : Shared) (G : Gp) (q : List W → Gp → Prop) (D C : Addr) (s' : Shared) : Prop where
  ex : ∃ (Hf : Hp) (Gf : Gp) (rs : List W), (∃ m, s'.heap.Ns C m) ∧ Inv X pins σ Hf s' ∧ Hf C = none ∧ s2.heap.objs.size ≤ C ∧ TLe H2 Hf ∧ RelG X.K Hf (updG Gf D (.lst rs)) ∧ G D = none ∧ q rs Gf
structure CompI (Y : Cx) (fp : List Addr) (tn : Nat → Heap → Prop) (ws : List W) (H2 : Hp) (D : Addr) (R : List W → WSt → Gp → List W → Prop) (n : Nat) (s : Shared) (i : Nat) (σ1 : St) (H1 : Hp) (τ1 : WSt) (G1 : Gp) (acc : List W) (vs : List V) (its : List Value) : Prop where
  hn : n = ws.length - i
  hi : i ≤ ws.length
  inv : Inv Y [] σ1 H1 s
  st : tn i s.heap
  fr : ∀ b ∈ fp, H1 b = none
  hd : H1 D = none
  pl : s.heap.PlainList D its.toArray
  rv : Vals vs its
  ra : Reps Y.K H1 acc vs
  tl : TLe H2 H1
  rs : RelSt Y.K H1 τ1 σ1
  rg : RelG Y.K H1 G1
  cw : R (ws.drop i) τ1 G1 acc
  hl : acc.length ≤ 100000
theorem comp_block (I : Inv X pins σ H2 s2) (S : CompSc X scope N fv) (hc : X.calm = true) (T : Turn X.prog X.w X.K tg J fp it tn) (st : tn 0 s2.heap) (hf : ∀ b ∈ fp, FpOk X pins H2 b)
    (hg : ∀ C, QG (bCx X N scope C fp s2 H2) tg g) (htt : ∀ C, QTs (bCx X N scope C fp s2 H2) ifs tt) (hte : ∀ C, QE (bCx X N scope C fp s2 H2) elt te)
    (itn : Itn X.K J ws Cd H2) (hs : RelSt X.K H2 τ σ) (gr : RelG X.K H2 G) (hw : compW Cd g tt te ws (pick fv τ) G [] q) {RR : Value → Addr → Result → Shared → Prop} {E : Value → Shared → Prop}
    (hRR : ∀ D C s', CompEnd X pins σ H2 s2 G q D C s' → RR (.ref D) C (.ok .next) s') :
    wpAny (model X.prog X.w) X.A (newList []) (fun acc s3 => wpAny (model X.prog X.w) X.A (newFunctionEnv scope X.env.globals (clOf X.env scope.names []) [] X.env.qual none .none (some X.env)) (fun cenv s4 =>
      codeAny (model X.prog X.w) X.A (.compStart (.ListComp elt [⟨tg, iter, ifs, 0⟩] scope pos) 0 (.ref it) acc { cenv with scope := relabel scope X.env }) (RR acc cenv.locals) s4) E s3) E s2 := by
  have hfo : ∀ b ∈ fp, b < s2.heap.objs.size := fun b hb => let ⟨o, e, _⟩ := T.obj _ _ st b hb; Heap.lt_size e
  refine wpAny_newObj_type (wpAny_newFunctionEnv S.nocell (by intro y hy; simp at hy) (fun h1 hns1 hsb1 => ?_) S.kind)
  dsimp only at hns1 hsb1 ⊢
  generalize hP : s2.heap.push { cls := .type "list", dict := none, data := .seq ([] : List Value).toArray } = P at hns1 hsb1 ⊢
  generalize hD : s2.heap.objs.size = D at *
  have hC : P.objs.size = D + 1 := by rw [← hP, Heap.size_push, hD]
  generalize hCC : P.objs.size = C at *
  have hDC : D ≠ C := by rw [hC]; exact Nat.ne_of_lt (Nat.lt_succ_self _)
  have hDleC : D ≤ C := by rw [hC]; exact Nat.le_succ _
  have old : ∀ b o, s2.heap.get? b = some o → h1.get? b = some o := fun b o e => hsb1.extBut b o (Nat.ne_of_lt (Nat.lt_of_lt_of_le (Heap.lt_size e) (by rw [hD]; exact hDleC))) (Heap.get?_push_of_some _ (hP ▸ Heap.get?_push_of_some _ e))
  have hacc : h1.PlainList D #[] := ⟨0, hsb1.extBut _ _ hDC (Heap.get?_push_of_some _ (by rw [← hP, ← hD]; exact Heap.get?_push_size _ rfl))⟩
  have look : ∀ x c, (clOf X.env scope.names []).lookup x = some c → X.env.cells.lookup x = some c := clOf_lookup (S.cells I) (fun x c e => by simp at e)
  have cD : ∀ x c, (clOf X.env scope.names []).lookup x = some c → c ≠ D := fun x c e z => by
    obtain ⟨v, o, ho, _⟩ := I.cell x c (look x c e)
    exact absurd (Heap.lt_size ho) (by rw [z, hD]; exact Nat.lt_irrefl _)
  have sD : D ∉ frs X.stack := fun hb => by
    rcases List.mem_cons.mp (I.stkSub D hb) with z | z
    · exact absurd I.lt (by rw [← z, hD]; exact Nat.lt_irrefl _)
    · exact I.nofs (by rw [hD]; exact Nat.le_refl _) z
  have fD : D ∉ fp := fun hb => absurd (hfo D hb) (Nat.lt_irrefl _)
  have fpX : ∀ {H1 : Hp} {ps : List (Addr × Obj)}, (∀ b ∈ fp, H1 b = none) → (∀ p ∈ ps, p.1 ∉ fp) → ∀ b ∈ fp, FpOk (bCx X N scope C fp s2 H2) ps H1 b := fun {H1 ps} hn hp b hb => by
    refine ⟨hn b hb, Nat.ne_of_lt (Nat.lt_of_lt_of_le (hfo b hb) hDleC), fun hx => ?_, .inl hb, fun x c e => (hf b hb).2.2.2.2.1 x c (look x c e), fun p hp' z => hp p hp' (z ▸ hb)⟩
    rcases List.mem_cons.mp (I.stkSub b hx) with z | z
    · exact (hf b hb).2.1 z
    · exact (hf b hb).2.2.1 z
  have J0 : Inv (bCx X N scope C fp s2 H2) [] (pick fv σ) H2 { s2 with heap := h1, toks := s2.toks + ([] : List (Str × Value)).length } := block_inv I S hf (by rw [hD]; exact hfo) old (by rw [hD]; exact hDleC) hns1
  have loop : codeAny (model X.prog X.w) X.A (.compLoop (.ListComp elt [⟨tg, iter, ifs, 0⟩] scope pos) 0 (.ref it) (.ref D) (bCx X N scope C fp s2 H2).env) (RR (.ref D) C) { s2 with heap := h1, toks := s2.toks + ([] : List (Str × Value)).length } := by
    refine comp_loop (fun n s => ∃ i σ1 H1 τ1 G1 acc vs its, CompI (bCx X N scope C fp s2 H2) fp tn ws H2 D (fun l τ1 G1 acc => compW Cd g tt te l τ1 G1 acc q) n s i σ1 H1 τ1 G1 acc vs its) ?_ ws.length
      ⟨0, _, H2, _, G, [], [], [], by simp, Nat.zero_le _, J0, T.keep _ _ _ st fun b _ o e => old b o e, fun b hb => (hf b hb).1, I.hok.fresh (by rw [hD]; exact Nat.le_refl _), hacc, .nil, .nil, TLe.refl _, pick_rel hs, gr, by simpa using hw, by simp⟩
    rintro n s ⟨i, σ1, H1, τ1, G1, acc, vs, its, rfl, hi, J1, st1, fr1, d1, pl1, rv1, ra1, t1, s1, g1, q1, hl1⟩
    obtain ⟨kk, eD⟩ := pl1
    have J1p : Inv (bCx X N scope C fp s2 H2) [(D, { cls := .type "list", data := .seq its.toArray kk })] σ1 H1 s := J1.pins_of fun p hp => by
      have e := List.mem_singleton.mp hp
      subst e
      exact ⟨eD, d1, hDC, sD, fun v z => by cases z⟩
    have pnf : ∀ p ∈ [((D, { cls := .type "list", data := .seq its.toArray kk }) : Addr × Obj)], p.1 ∉ fp := fun p hp => by
      have e := List.mem_singleton.mp hp
      subst e
      exact fD
    by_cases hlt : i < ws.length
    · have ed : ws.drop i = ws[i] :: ws.drop (i + 1) := List.drop_eq_getElem_cons hlt
      rw [ed] at q1
      obtain ⟨c1, q1⟩ := q1
      obtain ⟨go, yl⟩ := itn.go i ws[i] H1 G1 t1 g1 c1 (List.getElem?_eq_getElem hlt)
      refine thn (T.item (bCx X N scope C fp s2 H2) rfl rfl rfl hc i _ s σ1 H1 nox J1p (fpX fr1 pnf) st1 go) fun r s4 ⟨u, hr, h4⟩ => ?_
      subst hr
      refine thn h4 fun _ s5 ⟨x, H5, I5, r5, y5, st5, fr5⟩ => ?_
      obtain ⟨tx, rx, gx⟩ := yl x H5 y5
      have I5' := I5.pinned (fpX fr5 pnf) (T.obj _ _ st5)
      refine thn (hg C _ s5 σ1 H5 x u (fun σ6 H6 => ∃ τ6 G6, TLe H5 H6 ∧ RelSt X.K H6 τ6 σ6 ∧ RelG X.K H6 G6 ∧ tt τ6 G6 fun b G3 => if b = true then te τ6 G3 fun v G4 => acc.length + 1 ≤ 100000 ∧ compW Cd g tt te (ws.drop (i + 1)) τ6 G4 (acc ++ [v]) q else compW Cd g tt te (ws.drop (i + 1)) τ6 G3 acc q) I5' r5
        ⟨ws[i], τ1, G1, _, rx, s1.mono tx, gx, q1, fun σ6 H6 τ6 G6 t6 s6 g6 q6 => ⟨τ6, G6, t6, s6, g6, q6⟩⟩) fun _ s6 ⟨σ6, H6, I6, τ6, G6, t6, rs6, g6, q6⟩ => ?_
      refine thn (htt C _ s6 σ6 H6 (fun b H7 => ∃ G7, TLe H6 H7 ∧ RelG X.K H7 G7 ∧ (if b = true then te τ6 G7 fun v G4 => acc.length + 1 ≤ 100000 ∧ compW Cd g tt te (ws.drop (i + 1)) τ6 G4 (acc ++ [v]) q else compW Cd g tt te (ws.drop (i + 1)) τ6 G7 acc q)) I6
        ⟨τ6, G6, _, rs6, g6, q6, fun b H7 G7 t7 g7 q7 => ⟨G7, t7, g7, q7⟩⟩) fun ok s7 ⟨H7, I7, G7, t7, g7, q7⟩ => ?_
      have t17 : TLe H1 H7 := (tx.trans t6).trans t7
      -- what the pins keep up to a later state
      have keepFp : ∀ {σ8 : St} {H8 : Hp} {s8 : Shared}, Inv (bCx X N scope C fp s2 H2) ([(D, { cls := .type "list", data := .seq its.toArray kk })] ++ pinsAt fp s5.heap) σ8 H8 s8 → tn (i + 1) s8.heap ∧ (∀ b ∈ fp, H8 b = none) ∧ H8 D = none ∧ s8.heap.get? D = some { cls := .type "list", data := .seq its.toArray kk } ∧ ∀ b ∈ fp, ∃ o, s8.heap.get? b = some o := fun {σ8 H8 s8} I8 => by
        refine ⟨T.keep _ _ _ st5 fun b hb o e => (I8.pin (b, o) (List.mem_append_right _ (List.mem_append_right _ (mem_pinsAt hb e)))).1, fun b hb => ?_, (I8.pin (D, _) (List.mem_append_right _ (List.mem_append_left _ List.mem_cons_self))).2.1, (I8.pin (D, _) (List.mem_append_right _ (List.mem_append_left _ List.mem_cons_self))).1, fun b hb => ?_⟩
        · obtain ⟨o, e, _⟩ := T.obj _ _ st5 b hb
          exact (I8.pin (b, o) (List.mem_append_right _ (List.mem_append_right _ (mem_pinsAt hb e)))).2.1
        · obtain ⟨o, e, _⟩ := T.obj _ _ st5 b hb
          exact ⟨o, (I8.pin (b, o) (List.mem_append_right _ (List.mem_append_right _ (mem_pinsAt hb e)))).1⟩
      cases ok with
      | false =>
        rw [if_neg Bool.false_ne_true] at q7 ⊢
        obtain ⟨k1, k2, k3, k4, _⟩ := keepFp I7
        exact ⟨ws.length - (i + 1), by (clear I S hc T st hf hg htt hte itn hs gr hw hRR hP hD hfo hCC hns1 hsb1 hC hDC hDleC old hacc look cD sD fD fpX J0 hi J1 st1 fr1 d1 rv1 ra1 t1 s1 g1 hl1 eD J1p pnf ed c1 q1 go yl h4 I5 r5 y5 st5 fr5 tx rx gx I5' I6 t6 rs6 g6 q6 I7 t7 g7 t17 keepFp q7 k1 k2 k3 k4; omega), i + 1, σ6, H7, τ6, G7, acc, vs, its, rfl, hlt, I7.pins_of fun p hp => absurd hp (by simp), k1, k2, k3, ⟨kk, k4⟩, rv1, ra1.mono t17, t1.trans t17, rs6.mono t7, g7, q7, hl1⟩
      | true =>
        rw [if_pos rfl] at q7 ⊢
        refine thn (hte C _ s7 σ6 H7 (fun v H8 => ∃ w8 G8, TLe H7 H8 ∧ Rep X.K H8 w8 v ∧ RelG X.K H8 G8 ∧ acc.length + 1 ≤ 100000 ∧ compW Cd g tt te (ws.drop (i + 1)) τ6 G8 (acc ++ [w8]) q) I7
          ⟨τ6, G7, _, rs6.mono t7, g7, q7, fun v H8 w8 G8 t8 r8 g8 q8 => ⟨w8, G8, t8, r8, g8, q8⟩⟩) fun u8 s8 ⟨v8, H8, I8, rv8, w8, G8, t8, r8, g8, hl8, q8⟩ => ?_
        obtain ⟨k1, k2, k3, k4, k5⟩ := keepFp I8
        have t18 : TLe H1 H8 := t17.trans t8
        refine wpAny_list_append_plain ⟨kk, k4⟩ (fun h9 pl9 sb9 => ?_) (by rw [List.size_toArray, ← rv1.length, ← ra1.length]; exact line_le hl1)
        have I9 : Inv (bCx X N scope C fp s2 H2) [] σ6 H8 { s8 with heap := h9 } := (I8.pins_of (pins' := []) fun p hp => absurd hp (by simp)).turned (t' := s8.toks) (fun b o hb e => (sb9.2 b hb).trans e) k3 hDC (.inr (by show s2.heap.objs.size ≤ D; rw [hD]; exact Nat.le_refl _)) (fun x c e => cD x c e) fun p hp => absurd (show p ∈ ([] : List (Addr × Obj)) from hp) (by simp)
        refine ⟨ws.length - (i + 1), by (clear I S hc T st hf hg htt hte itn hs gr hw hRR hP hD hfo hCC hns1 hsb1 hC hDC hDleC old hacc look cD sD fD fpX J0 hi J1 st1 fr1 d1 rv1 ra1 t1 s1 g1 hl1 eD J1p pnf ed c1 q1 go yl h4 I5 r5 y5 st5 fr5 tx rx gx I5' I6 t6 rs6 g6 q6 I7 t7 g7 t17 keepFp q7 I8 rv8 t8 r8 g8 hl8 q8 k1 k2 k3 k4 k5 t18 pl9 sb9 I9; omega), i + 1, σ6, H8, τ6, G8, acc ++ [w8], vs ++ [v8], its ++ [u8], rfl, hlt, I9, T.keep _ _ _ k1 fun b hb o e => (sb9.2 b (fun z => fD (z ▸ hb))).trans e, k2, k3, by simpa using pl9, rv1.append (.cons rv8 .nil), (ra1.mono t18).append (.cons r8 .nil), t1.trans t18, (rs6.mono t7).mono t8, g8, q8, by rw [List.length_append]; exact hl8⟩
    · have e : i = ws.length := by (clear I S hc T st hf hg htt hte itn hs gr hw hRR hP hD hfo hCC hns1 hsb1 hC hDC hDleC old hacc look cD sD fD fpX J0 J1 st1 fr1 d1 rv1 ra1 t1 s1 g1 q1 hl1 eD J1p pnf; omega)
      subst e
      rw [List.drop_length] at q1
      refine thn (T.done (bCx X N scope C fp s2 H2) rfl rfl rfl hc _ _ s σ1 H1 nox J1p (fpX fr1 pnf) st1 (itn.stop _ H1 G1 t1 g1 q1.1 (Nat.le_refl _))) fun r s4 ⟨hr, I4⟩ => ?_
      subst hr
      have eD4 := (I4.pin (D, _) (List.mem_append_right _ List.mem_cons_self)).1
      have zl : vs.length ≤ sizeLine := by rw [← ra1.length]; exact line_le hl1
      have hb2 : ∀ b o, s2.heap.get? b = some o → b ≠ D := fun b o e => by
        have := Heap.lt_size e
        rw [hD] at this
        exact Nat.ne_of_lt this
      refine hRR D C s4 ⟨upd H1 D (.lst vs), G1, acc, let ⟨m, hn, _⟩ := I4.loc; ⟨m, hn⟩, ?_, ?_, by rw [hD]; exact hDleC, t1.trans (TLe.new d1 _), ?_, gr.fresh (I.hok.fresh (by rw [hD]; exact Nat.le_refl _)), q1.2⟩
      · refine I.call' (ch := fp) I4.os ⟨fun b o e n hb hx => I4.base.keep b o e n hb hx, fun b o e n hb hx => I4.base.slot b o e n hb hx, fun b o e n hx => ?_, fun b o e hx => I4.base.there b o e hx, fun b xs e => ?_, fun b o u e => ?_, fun b ps e => ?_⟩ ?_ I4.bare fun b hb => ⟨(hf b hb).2.2.2.1, (hf b hb).2.1, fun x c e => (hf b hb).2.2.2.2.1 x c e, fun p hp => (hf b hb).2.2.2.2.2 p hp⟩
        · rw [upd_ne (hb2 b o e)]; exact I4.base.free b o e n hx
        · rw [upd_ne (ne_of_none (I4.base.tups b xs e) d1)]; exact I4.base.tups b xs e
        · rw [upd_ne (ne_of_none (I4.base.frzs b o u e) d1)]; exact I4.base.frzs b o u e
        · obtain ⟨more, e'⟩ := I4.base.tbls b ps e
          exact ⟨more, by rw [upd_ne (ne_of_none e' d1)]; exact e'⟩
        · intro b u e
          by_cases hbD : b = D
          · subst hbD
            rw [upd_same] at e; cases e
            exact ⟨zl, its, kk, rv1, eD4⟩
          · rw [upd_ne hbD] at e
            exact (I4.hok b u e).stay (fun c v _ q => q) (fun c q => by rw [upd_ne (ne_of_none q d1)]; exact q) fun c xs q => by rw [upd_ne (ne_of_none q d1)]; exact q
      · rw [upd_ne (Ne.symm hDC)]; exact I4.free
      · exact (g1.upd (TLe.new d1 _) (g1.fresh d1)).track upd_same (ra1.mono (TLe.new d1 _)) hl1
  exact codeAny_compStart_list loop (T.self _ 0 _ _ _ (T.keep _ _ _ st fun b _ o e => old b o e) loop)
noncomputable def wComp (wi : WI) (fv : List (Option Nat)) (g : WG) (tt : WT) (te : WE) : WE := fun τ G q => wi τ G fun ws Cd G1 => compW Cd g tt te ws (pick fv τ) G1 [] fun rs G2 => ∀ p, G1 p = none → q (.ref p) (updG G2 p (.lst rs))
theorem qe_comp {wi : WI} (S : CompSc X scope N fv) (hc : X.calm = true) (hi : QI X tg iter wi) (hg : ∀ C fp s2 H2, QG (bCx X N scope C fp s2 H2) tg g) (htt : ∀ C fp s2 H2, QTs (bCx X N scope C fp s2 H2) ifs tt) (hte : ∀ C fp s2 H2, QE (bCx X N scope C fp s2 H2) elt te)
    (hs : ∀ x, foldedSetIterable iter X.env x = pure x := by intro _; rfl) : QE X (.ListComp elt [⟨tg, iter, ifs, 0⟩] scope pos) (wComp wi fv g tt te) := by
  intro pins s σ H Q I ⟨τ, G, q, hτ, hG, ht, hQ⟩
  rw [eval_ListComp]
  refine wpAny_comprehension_free (use := none) rfl hs (closure_of (S.cells I)) S.kind S.names (thn (hi pins s σ H (fun J H1 => ∃ ws Cd G1, TLe H H1 ∧ RelG X.K H1 G1 ∧ Itn X.K J ws Cd H1 ∧ compW Cd g tt te ws (pick fv τ) G1 [] fun rs G2 => ∀ p, G1 p = none → q (.ref p) (updG G2 p (.lst rs))) I
    ⟨τ, G, _, hτ, hG, ht, fun J H1 ws C G1 t1 g1 it r1 => ⟨ws, C, G1, t1, g1, it, r1⟩⟩) fun v s1 h1 => thn h1 fun itv s2 h2 => ?_)
  obtain ⟨it, fp, tn, J, H2, e, I2, T, st2, f2, ws, Cd, G1, t1, g1, itn, hw⟩ := h2
  subst e
  refine comp_block (RR := fun acc C => compPost (model X.prog X.w) X.A X.xe none (EP X pins σ Q) acc C) I2 S hc T st2 f2 (fun C => hg C fp s2 H2) (fun C => htt C fp s2 H2) (fun C => hte C fp s2 H2) itn (hτ.mono t1) g1 hw fun D C s' ⟨Hf, Gf, rs, ⟨m, hn⟩, I5, hC, hCs, t5, g5, hD, q5⟩ => ?_
  refine ⟨m, hn, fun h' sb => ?_⟩
  have hlt : C ≠ X.env.locals := fun z => absurd I2.lt (Nat.not_lt.mpr (z ▸ hCs))
  have I6 : Inv X pins σ Hf { s' with heap := h' } := I5.turned (t' := s'.toks) (fun b o hb e => (sb.2 b hb).trans e) hC hlt (.inr (Nat.le_trans I2.sz hCs)) (fun x c e z => by
    obtain ⟨v, o, ho, _⟩ := I2.cell x c e
    exact absurd (Heap.lt_size ho) (Nat.not_lt.mpr (z ▸ hCs))) fun p hp z => absurd (Heap.lt_size (I2.pin p hp).1) (Nat.not_lt.mpr (z ▸ hCs))
  exact ⟨.ref D, Hf, I6, rfl, hQ _ Hf _ _ (t1.trans t5) (.ref D) g5 (q5 D hD)⟩
end
end L2
namespace L2
open PySem PySem.Spec PyProof.Rows
section
variable {P : Program} {w : World} {K : PySem.W.Frag}
end
noncomputable def zipW : List W → List W → List W
  | x :: xs, y :: ys => .tup [x, y] :: zipW xs ys
  | _, _ => []
section
variable {X : Cx}
noncomputable def jZip (ta : WA) : WI := fun τ G r => ta τ G fun ws G1 => match ws with
  | [.tup xs, .tup ys] => r (zipW xs ys) (fun _ => True) G1
  | _ => False
noncomputable def wNeg (te : WE) : WE := fun τ G q => te τ G fun x G1 => match x with | .int i => q (.int (-i)) G1 | _ => False
theorem qe_neg {a : Expr} {ta : WE} {pos : Pos} (ha : QE X a ta) : QE X (.UnaryOp .USub a pos) (wNeg ta) :=
  (pe_un un_neg ha).imp fun σ H Q z0 => z0.el fun τ G q hs hg ht hQ => ⟨τ, G, _, hs, hg, ht, fun v H1 w G1 t1 r1 g1 q1 => by
    split at q1
    · cases r1
      exact ⟨_, rfl, hQ _ H1 _ G1 t1 (.int _) g1 q1⟩
    · exact q1.elim⟩
noncomputable def Fx (P : Program) (w : World) (K : PySem.W.Frag) (mg : Str → Option Value) (base : Heap) (x : Str) (ps : List Str) (k : Nat) (sp : WSp) : Prop :=
  ∃ (f : Addr) (fd : FuncData), WFn P w K mg base k f fd ps sp ∧ mg x = some (.ref f) ∧ PySem.W.keepIn K (.ref f) = true ∧ Binds K fd ps []
theorem qe_fx {x : Str} {ps : List Str} {k : Nat} {sp : WSp} {p pos : Pos} {e : Expr} {es : List Expr} {t : WA} (F : Fx X.prog X.w X.K X.mg X.base x ps k sp) (hr : Room k X.A) (hg : Gl X x) (ha : QA X (e :: es) t) (hdb : (x == ("__debug__" : Str)) = false := by decide)
    (he : starEach (e :: es) X.env = (false, eval e X.env) :: starEach es X.env := by rfl) (hpl : (backTo pos (starEach es X.env)).any (·.1) = false := by rfl) : QE X (.Call (.Name x p) (e :: es) [] pos) (wCall sp [] t) := by
  obtain ⟨f, fd, h1, h2, h3, h4⟩ := F
  exact qe_call h1 hr hg h2 h3 h4 ha hdb he hpl
noncomputable def compN (scope : Scope) : List Str := scope.names.map (·.1)
noncomputable def compFv (N : List Str) (scope : Scope) : List (Option Nat) := scope.names.map fun y => if y.2 == .free then N.findIdx? (· == y.1) else none
noncomputable def compOk (outer scope : Scope) : Bool :=
  scope.kind == .function && scope.names.all (fun y => y.2 != .cell) && scope.names.all (fun y => y.2 != .local || scope.names.lookup y.1 == some .local) &&
    scope.names.all (fun y => y.2 != .free || (outer.names.lookup y.1 == some .cell && scope.names.lookup y.1 != some .local))
theorem compSc {scope : Scope} (h : compOk X.env.scope scope = true) : CompSc X scope (compN scope) (compFv X.N scope) := by
  unfold compOk at h
  simp only [Bool.and_eq_true, List.all_eq_true, Bool.or_eq_true, bne_iff_ne, beq_iff_eq, ne_eq] at h
  obtain ⟨⟨⟨h1, h2⟩, h3⟩, h4⟩ := h
  refine ⟨h1, h2, fun x hx hk => (h3 x hx).resolve_left fun z => z hk, fun y hy hk => ((h4 y hy).resolve_left fun z => z hk).1, fun i j x e1 e2 => ?_, by simp [compN, compFv], fun {x} hx => ((h4 _ hx).resolve_left fun z => z rfl).2⟩
  unfold compN at e1
  unfold compFv at e2
  rw [List.getElem?_map] at e1 e2
  cases e : scope.names[i]? with
  | none => rw [e] at e1; cases e1
  | some y =>
    rw [e] at e1 e2
    have e1' : y.1 = x := Option.some.inj e1
    have e2' : (if (y.2 == NameKind.free) = true then X.N.findIdx? (· == y.1) else none) = some j := Option.some.inj e2
    have hm : y ∈ scope.names := List.mem_of_getElem? e
    split at e2'
    · rename_i hk
      have hk' : y.2 = .free := by simpa using hk
      have hy : y = (x, NameKind.free) := by rw [← e1', ← hk']
      have := List.findIdx?_eq_some_iff_getElem.mp e2'
      obtain ⟨hj, hj2, _⟩ := this
      refine ⟨?_, ?_, hy ▸ hm⟩
      · rw [List.getElem?_eq_getElem hj]
        have : X.N[j] = y.1 := by simpa using hj2
        rw [this, e1']
      · have := ((h4 y hm).resolve_left fun z => z hk').1
        rw [e1'] at this
        exact this
    · cases e2'
theorem qg_nameB (i : Nat) {N : List Str} {scope : Scope} {C : Addr} {fp : List Addr} {s2 : Shared} {H2 : Hp} {x : Str} {pos : Pos} (hN : N.Nodup) (hi : N[i]? = some x) (hx : Loc (bCx X N scope C fp s2 H2).env.scope x) (hf : (bCx X N scope C fp s2 H2).fn x = true ∨ (bCx X N scope C fp s2 H2).env.scope.names.lookup x = some .local := by first | exact .inl rfl | exact .inr rfl) :
    QG (bCx X N scope C fp s2 H2) (.Name x pos) (hName i) := qg_name (X := bCx X N scope C fp s2 H2) i hN hi hx hf
theorem b_tuple : bootBuiltins "tuple" = some (.type "tuple") := by decide +kernel
theorem b_list : bootBuiltins "list" = some (.type "list") := by decide +kernel
theorem b_max : bootBuiltins "max" = some (.builtin "max") := by decide +kernel
theorem bodyOf {body : List Stmt} {R : WS → Prop} {t : WS} (h : QSs X body t) (g : R t) : ∃ t, QSs X body t ∧ R t := ⟨t, h, g⟩
end
end L2
namespace L2
open PySem PySem.Spec PyProof.Rows
mutual
noncomputable def W.lt : W → W → Bool
  | .int i, .int j => decide (i < j)
  | .tup xs, .tup ys => W.lts xs ys
  | _, _ => false
noncomputable def W.lts : List W → List W → Bool
  | [], [] => false
  | [], _ :: _ => true
  | _ :: _, [] => false
  | x :: xs, y :: ys => if W.eq x y = true then W.lts xs ys else W.lt x y
end
mutual
noncomputable def W.ord : W → W → Bool
  | .int _, .int _ => true
  | .tup xs, .tup ys => W.ords xs ys
  | _, _ => false
noncomputable def W.ords : List W → List W → Bool
  | x :: xs, y :: ys => if W.eq x y = true then W.ords xs ys else W.ord x y
  | _, _ => true
end
noncomputable def LtAt (A : Around) (s : Shared) (y x : Value) (b : Bool) : Prop :=
  ∀ (prog : Program) (w : World) (E : Value → Shared → Prop) (Q : Value → Shared → Prop), Q (.bool b) s → wpAny (model prog w) A (richCompare .Lt y x) Q E s
inductive CmpL (A : Around) (s : Shared) : List Value → List Value → Bool → Prop where
  | nn : CmpL A s [] [] false
  | nc {y : Value} {ys : List Value} : CmpL A s [] (y :: ys) true
  | cn {x : Value} {xs : List Value} : CmpL A s (x :: xs) [] false
  | eq {x y : Value} {xs ys : List Value} {r : Bool} (h : SeqAt.EqAt A s x y true) (t : CmpL A s xs ys r) : CmpL A s (x :: xs) (y :: ys) r
  | ne {x y : Value} {xs ys : List Value} {r : Bool} (h : SeqAt.EqAt A s x y false) (t : LtAt A s x y r) : CmpL A s (x :: xs) (y :: ys) r
section
open PySem.SeqAt
open PySem.AutoSeq1 (wpAny_loadPart')
open PySem.MeetsSeq PySem.MeetsSeq2 PySem.MeetsSeq3
theorem tuple_ltAt (l b : Addr) (items items2 : Array Value) (n n2 : Nat) (dd dd2 : Option Addr) (sl sl2 : Array (Option Value)) (r : Bool) :
    Meets (Builtin.«tuple.__lt__» ⟨[.ref l, .ref b], []⟩)
      (fun A R s => s.heap.get? l = some { cls := .type "tuple", dict := dd, data := .seq items n, slots := sl } ∧ s.heap.get? b = some { cls := .type "tuple", dict := dd2, data := .seq items2 n2, slots := sl2 } ∧
        CmpL A.in1 s items.toList items2.toList r ∧ R (.ok (.ret (.bool r))) s) :=
  .of_wp fun prog w A R s h => by
    obtain ⟨hp, g, d, tk, os⟩ := s; obtain ⟨hl, hb, hc, h⟩ := h
    have f2 := AutoSeq1.sub_tuple_tuple
    wp_walk using wpAny_loadPart' hl, wpAny_loadPart' hb, wpAny_forIn_list _ (fun rest b s' => b.1 = none ∧ s' = ⟨hp, g, d, tk, os⟩ ∧ ∃ (vs ws : List Value), rest = vs.zip ws ∧
      CmpL A.in1 ⟨hp, g, d, tk, os⟩ vs ws r ∧ vs.length + items2.size = ws.length + items.size) _
    case turn =>
      rintro ⟨y, x⟩ rest b s' ⟨hb', rfl, vs, ws, hz, hC, hlen⟩
      cases hC with
      | nn => rw [List.zip_nil_left] at hz; cases hz
      | nc => rw [List.zip_nil_left] at hz; cases hz
      | cn => rw [List.zip_nil_right] at hz; cases hz
      | eq he ht =>
        rw [List.zip_cons_cons] at hz
        injection hz with hyx hrest
        injection hyx with hy hx
        subst hy hx
        simp only [List.length_cons] at hlen
        refine wpAny_bind (he prog w _ _ ?_)
        wp_walk
        exact ⟨rfl, rfl, _, _, hrest, ht, by (clear hl hb hc h f2 hb' ht hrest he; omega)⟩
      | ne he ht =>
        rw [List.zip_cons_cons] at hz
        injection hz with hyx hrest
        injection hyx with hy hx
        subst hy hx
        refine wpAny_bind (he prog w _ _ ?_)
        have hri := ht prog w
        wp_walk using hri
        exact ⟨_, rfl, by simpa using h⟩
    case fin =>
      rintro ⟨b1, b2⟩ s' ⟨hb', rfl, vs, ws, hz, hC, hlen⟩
      simp only at hb'
      subst hb'
      have hv : r = decide (items.size < items2.size) := by
        cases hC with
        | nn => simp only [List.length_nil] at hlen; exact (decide_eq_false (by (clear hl hb f2 hz hc h; omega))).symm
        | nc => simp only [List.length_nil, List.length_cons] at hlen; exact (decide_eq_true (by (clear hl hb f2 hz hc h; omega))).symm
        | cn => simp only [List.length_nil, List.length_cons] at hlen; exact (decide_eq_false (by (clear hl hb f2 hz hc h; omega))).symm
        | eq he ht => rw [List.zip_cons_cons] at hz; cases hz
        | ne he ht => rw [List.zip_cons_cons] at hz; cases hz
      rw [hv] at h
      wp_walk
      exact ⟨_, rfl, by simpa [Builtin.Tuple.tupleCompareSizes] using h⟩
    case h =>
      exact ⟨rfl, rfl, _, _, rfl, hc, by simp; (clear hl hb hc h f2; omega)⟩
end
theorem LtAt.tuples {A : Around} {s : Shared} {l b : Addr} {items items2 : Array Value} {r : Bool} (hl : s.heap.IsTuple l items) (hb : s.heap.IsTuple b items2) (hu : A.units < cLine)
    (hc : CmpL A.in1 s items.toList items2.toList r) : LtAt A s (.ref l) (.ref b) r := fun prog w E Q h => by
  obtain ⟨⟨cls, dd, data, sl⟩, ho, hcl, n, hd⟩ := id hl
  obtain ⟨⟨cls2, dd2, data2, sl2⟩, ho2, hc2, n2, hd2⟩ := id hb
  simp only at hcl hd hc2 hd2
  subst hcl hd hc2 hd2
  exact richCompare_meets_room (op := .Lt) ⟨_, ho, rfl⟩ ⟨_, ho2, rfl⟩ PySem.F.slot_tuple_lt PySem.F.entry_tuple_lt (PySem.F.args_tuple_lt_2 _ _) (tuple_ltAt l b items items2 n n2 dd dd2 sl sl2 r)
    ⟨ho, ho2, hc, show Value.bool r ≠ Value.notImplemented ∧ Q (.bool r) s from ⟨(fun x => nomatch x), h⟩⟩ hu
section
variable {X : Cx} {pins : List (Addr × Obj)} {σ : St} {H : Hp} {s : Shared}
theorem ltL_rep (I : Inv X pins σ H s) (n : Nat) (A : Around)
    (ih : ∀ {w1 w2 : W} {v1 v2 : V} {u1 u2 : Value}, w1.dep < n → w1.flat = true → w2.flat = true → W.ord w1 w2 = true → Rep X.K H w1 v1 → Rep X.K H w2 v2 → RelV v1 u1 → RelV v2 u2 → LtAt A s u1 u2 (w1.lt w2)) (hu : A.units + n < cLine) :
    ∀ {ws us : List W} {xs ys : List V} {its its2 : List Value}, W.deps ws < n → W.flats ws = true → W.flats us = true → W.ords ws us = true → Reps X.K H ws xs → Reps X.K H us ys → Vals xs its → Vals ys its2 → CmpL A s its its2 (W.lts ws us) := by
  intro ws
  induction ws with
  | nil =>
    intro us xs ys its its2 hd f1 f2 ho r1 r2 q1 q2
    cases r1
    cases q1
    cases r2 with
    | nil => cases q2; simpa [W.lts] using CmpL.nn
    | cons _ _ => cases q2; simpa [W.lts] using CmpL.nc
  | cons x xs IH =>
    intro us vs1 vs2 its its2 hd f1 f2 ho r1 r2 q1 q2
    cases r1 with
    | cons r1 s1 =>
      cases q1 with
      | cons q1 t1 =>
        cases r2 with
        | nil => cases q2; simpa [W.lts] using CmpL.cn
        | @cons y ys _ _ r2 s2 =>
          cases q2 with
          | cons q2 t2 =>
            simp only [W.deps] at hd
            simp only [W.flats, Bool.and_eq_true] at f1 f2
            have e := (eq_rep I n A (w1 := x) (w2 := y) (by (clear I ih hu IH r1 s1 q1 t1 r2 s2 ho q2 t2 f1 f2; omega)) f1.1 f2.1 hu r1 r2 q1 q2).1
            rw [W.ords] at ho
            rw [W.lts]
            cases he : W.eq x y with
            | true =>
              rw [he] at e ho
              rw [if_pos rfl] at ho ⊢
              exact .eq e (IH (by (clear I ih hu IH r1 s1 q1 t1 r2 s2 ho q2 t2 f1 f2 e he; omega)) f1.2 f2.2 ho s1 s2 t1 t2)
            | false =>
              rw [he] at e ho
              rw [if_neg Bool.false_ne_true] at ho ⊢
              exact .ne e (ih (by (clear I ih hu IH r1 s1 q1 t1 r2 s2 ho q2 t2 f1 f2 e he; omega)) f1.1 f2.1 ho r1 r2 q1 q2)
theorem lt_rep (I : Inv X pins σ H s) : ∀ (n : Nat) (A : Around) {w1 w2 : W} {v1 v2 : V} {u1 u2 : Value}, w1.dep < n → w1.flat = true → w2.flat = true → W.ord w1 w2 = true → A.units + n < cLine → Rep X.K H w1 v1 → Rep X.K H w2 v2 → RelV v1 u1 → RelV v2 u2 →
    LtAt A s u1 u2 (w1.lt w2) := by
  intro n
  induction n with
  | zero => intro A w1 w2 v1 v2 u1 u2 h; (clear I; omega)
  | succ n ih =>
    intro A w1 w2 v1 v2 u1 u2 hd f1 f2 ho hu r1 r2 q1 q2
    cases r1 with
    | ref a => simp [W.flat] at f1
    | scr a => simp [W.flat] at f1
    | non => simp [W.ord] at ho
    | bl b => simp [W.ord] at ho
    | str b => simp [W.ord] at ho
    | int a =>
      cases r2 with
      | int b =>
        obtain ⟨t, rfl⟩ := q1
        obtain ⟨t', rfl⟩ := q2
        rw [W.lt]
        exact fun prog w E Q h => HT.rcLt_int A s a t b t' prog w E Q h
      | _ => simp [W.ord] at ho
    | @tup a ws xs h r =>
      cases r2 with
      | @tup b us ys h2 r2 =>
        cases (show u1 = Value.ref _ from q1)
        cases (show u2 = Value.ref _ from q2)
        obtain ⟨its, rv, p, _⟩ := Inv.tupH I h
        obtain ⟨its2, rv2, p2, _⟩ := Inv.tupH I h2
        have g1 : W.flats ws = true := by simpa [W.flat] using f1
        have g2 : W.flats us = true := by simpa [W.flat] using f2
        have ho' : W.ords ws us = true := by simpa [W.ord] using ho
        have hd' : W.deps ws < n := by simp only [W.dep] at hd; (clear I ih hu h r f1 h2 r2 f2 ho q1 q2 rv p rv2 p2 g1 g2 ho'; omega)
        have hui : A.in1.units + n < cLine := by show A.units + 1 + n < cLine; (clear I ih h r hd f1 h2 r2 f2 ho q1 q2 rv p rv2 p2 g1 g2 ho' hd'; omega)
        rw [W.lt]
        exact LtAt.tuples p p2 (by (clear I ih h r hd f1 h2 r2 f2 ho q1 q2 rv p rv2 p2 g1 g2 ho' hd' hui; omega)) (ltL_rep I n A.in1 (fun h1 h2 h3 h4 => ih A.in1 h1 h2 h3 h4 hui) hui hd' g1 g2 ho' r r2 rv rv2)
      | _ => simp [W.ord] at ho
end
section
variable {X : Cx}
noncomputable def rLt3 : W2 := fun x y G q => match x, y with
  | .int i, .int j => q (.bl (decide (i < j))) G
  | .tup xs, .tup ys => W.flats xs = true ∧ W.flats ys = true ∧ W.deps xs ≤ 149 ∧ W.ords xs ys = true ∧ q (.bl (W.lts xs ys)) G
  | _, _ => False
theorem q_lt3 {k : Nat} (hr : Room k X.A) : QOp X (compareOp .Lt) rLt3 := by
  intro pins s σ H x y v u Q I rx ry ⟨wx, wy, G, q, r1, r2, g, h, hQ⟩
  unfold rLt3 at h
  split at h
  · cases r1
    cases r2
    exact op_lt pins s σ H _ _ v u Q I rx ry ⟨_, _, rfl, rfl, hQ _ H _ G (TLe.refl H) (.bl _) g h⟩
  · rename_i xs ys
    obtain ⟨f1, f2, hd, ho, h⟩ := h
    have z := lt_rep I 151 X.A (w1 := .tup xs) (w2 := .tup ys) (by simp only [W.dep]; (clear hr I rx ry g hQ r1 r2 f1 f2 ho h; omega)) (by simpa [W.flat] using f1) (by simpa [W.flat] using f2) (by simpa [W.ord] using ho) (by have := hr.un; (clear hr I rx ry g hQ r1 r2 f1 f2 hd ho h; omega)) r1 r2 rx ry
    rw [W.lt] at z
    exact z X.prog X.w X.xe _ ⟨.bl _, H, I, rfl, hQ _ H _ G (TLe.refl H) (.bl _) g h⟩
  · exact h.elim
end
end L2
namespace L2
open PySem PySem.Spec PyProof.Rows
section
variable {X : Cx}
end
end L2
namespace L2
open PySem PySem.Spec PyProof.Rows
section
variable {X : Cx} {pins : List (Addr × Obj)} {σ : St} {H : Hp} {s : Shared}
theorem eqJ (I : Inv X pins σ H s) {n : Nat} {A : Around} {ws us : List W} {xs ys : List V} {its its2 : List Value} (hd : W.deps ws < n) (g1 : W.flats ws = true) (g2 : W.flats us = true) (hu : A.in1.units + n < cLine) (r : Reps X.K H ws xs) (r2 : Reps X.K H us ys) (rv : Vals xs its) (rv2 : Vals ys its2) :
    ∀ j (h1 : j < its.toArray.size) (h2 : j < its2.toArray.size), SeqAt.EqAt A.in1 s its.toArray[j] its2.toArray[j] (eqAtJ ws us j) := fun j j1 j2 => by
  have e1 : its.length = ws.length := by rw [← rv.length, r.length]
  have e2 : its2.length = us.length := by rw [← rv2.length, r2.length]
  rw [List.size_toArray] at j1 j2
  have ea : ws[j]? = some ws[j] := List.getElem?_eq_getElem (by (clear I hd g1 g2 hu r r2 rv rv2 j2 e2; omega))
  have eb : us[j]? = some us[j] := List.getElem?_eq_getElem (by (clear I hd g1 g2 hu r r2 rv rv2 j1 e1 ea; omega))
  obtain ⟨va, ea1, ra⟩ := r.get ea
  obtain ⟨vb, eb1, rb⟩ := r2.get eb
  obtain ⟨ua, ea2, qa⟩ := rv.get ea1
  obtain ⟨ub, eb2, qb⟩ := rv2.get eb1
  have za : its.toArray[j] = ua := by
    have := (List.getElem?_eq_some_iff.mp ea2).2
    simpa using this
  have zb : its2.toArray[j] = ub := by
    have := (List.getElem?_eq_some_iff.mp eb2).2
    simpa using this
  rw [za, zb]
  have := (eq_rep I n A.in1 (w1 := ws[j]) (w2 := us[j]) (Nat.lt_of_le_of_lt (W.deps_get ea) hd) (W.flats_get g1 ea) (W.flats_get g2 eb) hu ra rb qa qb).1
  unfold eqAtJ
  rw [ea, eb]
  exact this
theorem eqs_len {ws us : List W} (h : ws.length ≠ us.length) : W.eqs ws us = false := by
  cases e : W.eqs ws us with
  | false => rfl
  | true => exact absurd ((W.eqs_iff ws us).mp e).1 h
end
section
variable {X : Cx}
noncomputable def rEq4 : W2 := fun x y G q => match x, y with
  | .ref a, .ref b => ∃ xs ys, G a = some (.lst xs) ∧ G b = some (.lst ys) ∧ W.flats xs = true ∧ W.flats ys = true ∧ W.deps xs ≤ 149 ∧ q (.bl (W.eqs xs ys)) G
  | x, y => rEq3 x y G q
noncomputable def rNe4 : W2 := fun x y G q => match x, y with
  | .ref a, .ref b => ∃ xs ys, G a = some (.lst xs) ∧ G b = some (.lst ys) ∧ W.flats xs = true ∧ W.flats ys = true ∧ W.deps xs ≤ 149 ∧ q (.bl (!(W.eqs xs ys))) G
  | x, y => rNe3 x y G q
theorem q_eq4 {k : Nat} (hr : Room k X.A) : QOp X (compareOp .Eq) rEq4 := by
  intro pins s σ H x y v u Q I rx ry ⟨wx, wy, G, q, r1, r2, g, h, hQ⟩
  unfold rEq4 at h
  split at h
  · obtain ⟨ws, us, ea, eb, f1, f2, hd, h⟩ := h
    cases r1
    cases r2
    cases rx
    cases ry
    obtain ⟨_, xs, e1, ra⟩ := g _ _ ea
    obtain ⟨_, ys, e2, rb⟩ := g _ _ eb
    obtain ⟨its, rv, p, _⟩ := I.list (SqL.of e1)
    obtain ⟨its2, rv2, p2, _⟩ := I.list (SqL.of e2)
    have l1 : its.length = ws.length := by rw [← rv.length, ra.length]
    have l2 : its2.length = us.length := by rw [← rv2.length, rb.length]
    have hu := hr.un
    have fin : EP X pins σ Q (.bool (W.eqs ws us)) s := ⟨.bl _, H, I, rfl, hQ _ H _ G (TLe.refl H) (.bl _) g h⟩
    by_cases hl : ws.length = us.length
    · have c1 := SeqAt.RcAt.lists p.isList p2.isList (by rw [List.size_toArray, List.size_toArray, l1, l2, hl]) (A := X.A) (by (clear hr I g hQ ea eb f1 f2 hd h e1 ra e2 rb rv p rv2 p2 l1 l2 fin hl; omega)) (eqJ I (n := 150) (by (clear hr I g hQ ea eb f1 f2 h e1 ra e2 rb rv p rv2 p2 l1 l2 hu fin hl; omega)) f1 f2 (by show X.A.units + 1 + 150 < cLine; (clear hr I g hQ ea eb f1 f2 hd h e1 ra e2 rb rv p rv2 p2 l1 l2 fin hl; omega)) ra rb rv rv2)
      have er := eqs_range ws us
      rw [← hl, Nat.min_self, beq_self_eq_true, Bool.and_true] at er
      rw [List.size_toArray, l1, er] at c1
      exact c1 X.prog X.w X.xe _ fin
    · rw [eqs_len hl] at fin
      exact SeqAt.RcAt.lists_lengths p.isList p2.isList (by rw [List.size_toArray, List.size_toArray, l1, l2]; simpa using hl) (A := X.A) (by (clear hr I g hQ ea eb f1 f2 hd h e1 ra e2 rb rv p rv2 p2 l1 l2 fin hl; omega)) X.prog X.w X.xe _ fin
  · exact q_eq hr pins s σ H x y v u Q I rx ry ⟨wx, wy, G, q, r1, r2, g, h, hQ⟩
theorem q_ne4 {k : Nat} (hr : Room k X.A) : QOp X (compareOp .NotEq) rNe4 := by
  intro pins s σ H x y v u Q I rx ry ⟨wx, wy, G, q, r1, r2, g, h, hQ⟩
  unfold rNe4 at h
  split at h
  · obtain ⟨ws, us, ea, eb, f1, f2, hd, h⟩ := h
    cases r1
    cases r2
    cases rx
    cases ry
    obtain ⟨_, xs, e1, ra⟩ := g _ _ ea
    obtain ⟨_, ys, e2, rb⟩ := g _ _ eb
    obtain ⟨its, rv, p, _⟩ := I.list (SqL.of e1)
    obtain ⟨its2, rv2, p2, _⟩ := I.list (SqL.of e2)
    have l1 : its.length = ws.length := by rw [← rv.length, ra.length]
    have l2 : its2.length = us.length := by rw [← rv2.length, rb.length]
    have hu := hr.un
    have fin : EP X pins σ Q (.bool (!(W.eqs ws us))) s := ⟨.bl _, H, I, rfl, hQ _ H _ G (TLe.refl H) (.bl _) g h⟩
    by_cases hl : ws.length = us.length
    · have c1 := SeqAt.RcNeAt.lists p.isList p2.isList (by rw [List.size_toArray, List.size_toArray, l1, l2, hl]) (A := X.A) (by (clear hr I g hQ ea eb f1 f2 hd h e1 ra e2 rb rv p rv2 p2 l1 l2 fin hl; omega)) (eqJ I (n := 150) (by (clear hr I g hQ ea eb f1 f2 h e1 ra e2 rb rv p rv2 p2 l1 l2 hu fin hl; omega)) f1 f2 (by show X.A.units + 1 + 150 < cLine; (clear hr I g hQ ea eb f1 f2 hd h e1 ra e2 rb rv p rv2 p2 l1 l2 fin hl; omega)) ra rb rv rv2)
      have er := eqs_range ws us
      rw [← hl, Nat.min_self, beq_self_eq_true, Bool.and_true] at er
      rw [List.size_toArray, l1, er] at c1
      exact c1 X.prog X.w X.xe _ fin
    · rw [eqs_len hl] at fin
      exact SeqAt.RcNeAt.lists_lengths p.isList p2.isList (by rw [List.size_toArray, List.size_toArray, l1, l2]; simpa using hl) (A := X.A) (by (clear hr I g hQ ea eb f1 f2 hd h e1 ra e2 rb rv p rv2 p2 l1 l2 fin hl; omega)) X.prog X.w X.xe _ fin
  · exact q_ne hr pins s σ H x y v u Q I rx ry ⟨wx, wy, G, q, r1, r2, g, h, hQ⟩
end
end L2
namespace L2
open PySem PySem.Spec PyProof.Rows
structure CR3 (lo hi c : Int) : Prop where
  c0 : 0 < c
  c1 : c < 1000
  l0 : -(2 ^ 40) ≤ lo
  l1 : lo < 2 ^ 40
  h0 : -(2 ^ 40) ≤ hi
  h1 : hi < 2 ^ 40
noncomputable def rsz (lo hi c : Int) : Int := Builtin.Range.rangeSize lo hi c
section
variable {X : Cx} {tg : Expr}
noncomputable def upS (lo c : Int) (n : Nat) : List W := (List.range n).map fun (i : Nat) => W.int (lo + (i : Int) * c)
noncomputable def jRng3 (ta : WA) : WI := fun τ G r => ta τ G fun ws G1 => match ws with
  | [.int lo, .int hi, .int c] => CR3 lo hi c ∧ r (upS lo c (rsz lo hi c).toNat) (fun _ => True) G1
  | _ => False
noncomputable def upL (lo : Int) (n : Nat) : List W := (List.range n).map fun (i : Nat) => W.int (lo + (i : Int))
noncomputable def jRng2 (ta : WA) : WI := fun τ G r => ta τ G fun ws G1 => match ws with
  | [.int i, .int j] => (-(2 ^ 62) ≤ i ∧ i < 2 ^ 62 ∧ -(2 ^ 62) ≤ j ∧ j < 2 ^ 62) ∧ r (upL i (j - i).toNat) (fun _ => True) G1
  | _ => False
end
section
variable {X : Cx}
noncomputable def cMin : List W → Gp → WK → Prop := fun ws G q => match ws with
  | [.int i, .int j] => q (.int (if j < i then j else i)) G
  | _ => False
noncomputable def BigM (i j : Int) : Prop := i.natAbs < 2 ^ 4000 ∧ j.natAbs < 2 ^ 4000
noncomputable def BigD (j : Int) : Prop := 0 < j ∧ j.natAbs < 2 ^ 4000
noncomputable def CMulB (i j : Int) : Prop := CMul i j ∨ BigM i j
theorem CMulB.ok {i j : Int} (h : CMulB i j) : IntMulOk i j := by
  rcases h with h | ⟨h1, h2⟩
  · exact h.ok
  · have b1 := PyProof.Rows.intBits_le h1
    have b2 := PyProof.Rows.intBits_le h2
    unfold IntMulOk Builtin.Int.intTooBig
    have : ¬ (((Builtin.Int.intBits i + Builtin.Int.intBits j : Int)) > bitsLine) := by
      have hb : (8000 : Int) ≤ bitsLine := by decide
      (clear h1 h2; omega)
    simp [this]
noncomputable def CDivB (i j : Int) : Prop := CDiv i j ∨ BigD j
theorem op_fdivB : OpR X (binaryOp .FloorDiv) (rI CDivB fun i j => .int (i / j)) := opI fun i j _ _ _ _ _ hc q => by
  rcases hc with hc | ⟨h0, h1⟩
  · have h1 : (0 : Int) < j := hc.1
    have h2 : j < 1073741824 := hc.2
    exact floordiv_int (by (clear q hc; omega)) (by rw [Int.fdiv_eq_ediv_of_nonneg i (by (clear q hc; omega))]; exact q) (.inl (PyProof.noPylong_small (by (clear q hc; omega))))
  · refine floordiv_int (by (clear q h1; omega)) (by rw [Int.fdiv_eq_ediv_of_nonneg i (by (clear q h1; omega))]; exact q) (.inl (PyProof.noPylong_of_log2 ?_))
    have hne : j.natAbs ≠ 0 := by (clear q h1; omega)
    exact Nat.lt_of_lt_of_le ((Nat.log2_lt hne).mpr h1) (by decide)
noncomputable abbrev vDivB : W2 := vInt CDivB fun i j => .int (i / j)
theorem q_divB : QOp X (binaryOp .FloorDiv) vDivB := q_rint op_fdivB
end
end L2
namespace L2
open PySem PySem.Spec PyProof.Rows
section
variable {X : Cx}
noncomputable def wPar (i j : Nat) (ta : WA) : WS := fun d τ G => ta τ G fun ws G1 => match ws with
  | [v, w] => d.nx ((τ.set i (some v)).set j (some w)) G1
  | _ => False
end
end L2
namespace L2
open PySem PySem.Spec PyProof.Rows
structure FunD (K : PySem.W.Frag) (x qual : Str) (st : Stmt) (f : Addr) (fd : FuncData) (T : Addr) (ds : List Value) : Prop where
  ex : ∃ (oc : Value) (od : Option Addr) (kV doc pm : Value) (an : Option Addr) (cdv ct : Value) (osl : Array (Option Value)) (ot : Obj) (nt : Nat),
    fd = PySem.W.fnOf x qual (defArgs st) (defBody st) (defScope st) (.ref T) kV doc pm an cdv ct ∧ K.lookup f = some ⟨oc, od, .func fd, osl⟩ ∧ PySem.W.codeIn K cdv qual = true ∧ K.lookup T = some ot ∧ ot.data = .seq ds.toArray nt
  kp : PySem.W.keepIn K (.ref f) = true
section
variable {P : Program} {w : World} {K : PySem.W.Frag} {mg : Str → Option Value} {base : Heap} {x qual : Str} {st : Stmt} {f T : Addr} {fd : FuncData} {ds : List Value}
theorem FunD.binds {ps : List Str} {es : List Value} (F : FunD K x qual st f fd T ds)
    (h : ∀ (kV doc pm : Value) (an : Option Addr) (cdv ct : Value) (us : List Value), (us ++ es).length = ps.length → ∃ k, bindArgs (PySem.W.fnOf x qual (defArgs st) (defBody st) (defScope st) (.ref T) kV doc pm an cdv ct) ⟨us, []⟩ = seqItems? (.ref T) >>= k ∧ k (some ds.toArray) = pure (ps.zip (us ++ es))) : Binds K fd ps es := by
  obtain ⟨oc, od, kV, doc, pm, an, cdv, ct, osl, ot, nt, rfl, lk, hcd, ht, hd⟩ := F.ex
  intro s us KX hl
  obtain ⟨k, h1, h2⟩ := h kV doc pm an cdv ct us hl
  exact BindsTo.of_defaults (T := T) rfl (KX _ _ ht) hd h1 h2
end
section
variable {X : Cx}
theorem qe_fxn {x : Str} {ps : List Str} {k : Nat} {sp : WSp} {p pos : Pos} {e : Expr} {es : List Expr} {t : WA} (F : Fx X.prog X.w X.K X.mg X.base x ps k sp) (hr : Room k X.A) (hg : Gl X x) (ha : QA X (e :: es) t) (_hn : (e :: es).length = ps.length := by rfl) (hdb : (x == ("__debug__" : Str)) = false := by decide)
    (he : starEach (e :: es) X.env = (false, eval e X.env) :: starEach es X.env := by rfl) (hpl : (backTo pos (starEach es X.env)).any (·.1) = false := by rfl) : QE X (.Call (.Name x p) (e :: es) [] pos) (wCall sp [] t) := qe_fx F hr hg ha hdb he hpl
noncomputable def wNever : WS := fun _ _ _ => False
end
end L2
namespace L2
open PySem PySem.Spec PyProof.Rows
variable {X : Cx}
noncomputable def cMax4 : List W → Gp → WK → Prop := fun ws G q => match ws with
  | [.int i, .int j] => q (.int (if j > i then j else i)) G
  | [.int i, .int j, .int k] => q (.int (if j > i then (if k > j then k else j) else if k > i then k else i)) G
  | [.ref a] => ∃ ns : List Int, G a = some (.lst (ns.map W.int)) ∧ ns ≠ [] ∧ ∀ m : Int, m ∈ ns → (∀ x, x ∈ ns → x ≤ m) → q (.int m) G
  | _ => False
theorem qe_gint {x : Str} {i : Int} {t : Tok} {pos : Pos} (hg : Gl X x) (hm : X.mg x = some (.int i t)) (hd : (x == ("__debug__" : Str)) = false := by decide) : QE X (.Name x pos) (wC (.int i)) := qe_const (pe_glob (v := .int i) hg hm ⟨t, rfl⟩ hd) fun _ => .int i
end L2
namespace L2
open PySem PySem.Spec PyProof.Rows
section
variable {M : Model} {A : Around} {E : Value → Shared → Prop} {K : PySem.W.Frag} {C D a : Addr} {bm bmD : List Value} {oe : Obj}
end
structure Fl (P : Program) (w : World) (fs : List Addr) (H H' : Hp) (h0 h : Heap) (a T : Addr) (c fl : Value) : Prop where
  un : Un fs [] H H' h0 h
  hok : HOk P w H' h
  na : h0.get? a = none
  nT : h0.get? T = none
  ha : H' a = none
  hT : H' T = none
  tr : ∃ oe vs oT ts a0, h.get? a = some oe ∧ (oe.cls = c ∧ vs[0]? = some a0) ∧ oe.data = .fields vs ∧ vs[1]? = some (.ref T) ∧ T ≠ a ∧ h.get? T = some oT ∧ oT.data = .fields ts ∧ ts[3]? = some fl
section
variable {P : Program} {w : World} {fs : List Addr} {H H' : Hp} {h0 h h' : Heap} {a T : Addr} {c fl fl' : Value}
end
section
variable {P : Program} {w : World} {K : PySem.W.Frag} {mg : Str → Option Value} {base : Heap} {N : List Str} {qual : Str} {scope : Scope} {f : Addr} {cdv : Value} {A : Around} {outer : List Env} {s : Shared} {H : Hp} {E : XK}
noncomputable def wRaise (C : Addr) (e : WX) : WS := fun _ _ G => e (.ref C) G
end
noncomputable def wNevers : WS := fun _ _ _ => False
section
variable {X : Cx} {pins : List (Addr × Obj)} {σ : St} {H : Hp} {s : Shared} {a : Addr} {oe : Obj}
end
section
variable {X : Cx} {pins : List (Addr × Obj)} {σ : St} {H0 H : Hp} {s0 s : Shared} {a T : Addr} {c fl : Value}
variable {C D : Addr} {bm bmD : List Value} {x : Str} {p pos : Pos} {name : Option Str} {body : List Stmt} {rest : List ExceptHandler} {b0 : Stmt} {th : WS}
noncomputable def wAs (i : Nat) (ts : Addr → WS) : WS := fun d τ G => ∀ a, G a = none → ts a { nx := fun τ1 G1 => d.nx (τ1.set i none) G1, rt := d.rt, bk := fun τ1 G1 => d.bk (τ1.set i none) G1, ct := fun τ1 G1 => d.ct (τ1.set i none) G1 } (τ.set i (some (.ref a))) G
noncomputable def wTry (sp : WSp) (dws : List W) (t : WA) (C : Addr) (th : WS) : WS := fun d τ G => t τ G fun ws G1 => sp (ws ++ dws) G1 (fun _ G2 => d.nx τ G2) fun c G2 => c = .ref C ∧ th d τ G2
end
section
variable {X : Cx} {a : Addr} {oe : Obj} {C D : Addr} {bm bmD : List Value}
noncomputable def wIsx (i : Nat) (a : Addr) : WE := fun τ G q => τ[i]? = some (some (.ref a)) ∧ q (.bl true) G
end
end L2
namespace L2
open PySem PySem.Spec PyProof.Rows
section
variable {prog : Program} {w : World} {A : Around} {R : Result → Shared → Prop} {I : Addr} {fp wr : List Addr} {n : Nat} {P : Nat → Value → Prop} {St : Nat → Heap → Prop} {kw : List (Str × Value)}
theorem args_maxD (a d : Value) : argsOk "max" ⟨[a], [("default", d)]⟩ := by unfold argsOk; kernel_rfl
theorem loopD (W : Walks prog w A.in1 I fp wr n P St) (bt : Nat → Nat → Bool) (hcmp : CmpOf prog w A.in1 .Gt P bt) (S : Addr) (hSf : S ∉ fp) :
    ∀ (k j : Nat) (s : Shared) (vb : Value) (c : Nat), n - (j + 1) = k → j + 1 ≤ n → St (j + 1) s.heap → P (argBest bt j) vb → s.heap.get? S = some { cls := .type "list", dict := none, data := .seq #[vb, vb] c, slots := #[] } →
      (∀ v h' tk, P (argBest bt (n - 1)) v → (∀ b o, b ∉ wr → b ≠ S → s.heap.get? b = some o → h'.get? b = some o) → R (.ok (.ret v)) { s with heap := h', toks := tk }) →
      codeAny (model prog w) A (.builtin "max.loop" ⟨[.ref I, .none, .ref S], kw⟩) R s := by
  have nw : S ∉ wr := fun z => hSf (W.sub _ z)
  have nm : (toString "max" ++ toString ".loop" : String) = "max.loop" := by decide
  intro k
  induction k with
  | zero =>
    intro j s vb c hk hj hst hb hS hR
    have hin : j + 1 = n := by (clear W hcmp hSf nw nm hst hb hS hR; omega)
    refine (codeAny_builtin F.entry_max_loop ?_); rw [Around.under_plainId F.plain_max_loop _]
    show wpAny _ A.in1 (seqItems? (Value.ref S) >>= _) _ _ s
    refine wpAny_bind (wpAny_seqItems hS rfl (?_ : wpAny _ A.in1 (tryCatch (pyNext (.ref I)) _ >>= _) _ _ s))
    refine wpAny_bind (wpAny_tryCatch (W.done s _ _ (hin ▸ hst) fun h1 tk k1 => (?_ : wpAny _ A.in1 (updateSeq S (fun _ => #[]) >>= _) _ _ _)))
    refine wpAny_bind (wpAny_updateSeq (k1 S _ nw hS) rfl (wpAny_bind (wpAny_letGo (wpAny_pure ?_))))
    exact hR vb _ tk (by rw [← hin]; exact hb) fun b o n1 n2 e => (Heap.get?_update_other _ _ (Ne.symm n2)).trans (k1 b o n1 e)
  | succ k ih =>
    intro j s vb c hk hj hst hb hS hR
    have hlt : j + 1 < n := by (clear W hcmp hSf nw nm ih hst hb hS hR; omega)
    refine (codeAny_builtin F.entry_max_loop ?_); rw [Around.under_plainId F.plain_max_loop _]
    show wpAny _ A.in1 (seqItems? (Value.ref S) >>= _) _ _ s
    refine wpAny_bind (wpAny_seqItems hS rfl (?_ : wpAny _ A.in1 (tryCatch (pyNext (.ref I)) _ >>= _) _ _ s))
    refine wpAny_bind (wpAny_tryCatch (W.item (j + 1) s _ _ hlt hst fun v h1 tk hP hst1 k1 => (?_ : wpAny _ A.in1 (tryCatch (holding [v, v] (richCompare .Gt v vb >>= _)) _ >>= _) _ _ _)))
    have hS1 := k1 S _ nw hS
    refine wpAny_bind (wpAny_tryCatch (wpAny_holding (wpAny_bind (hcmp (j + 1) (argBest bt j) v vb _ _ _ hP hb (wpAny_bind (wpAny_holding (wpAny_truthy_bool (wpAny_bind (wpAny_letGo (wpAny_pure ?_))))))))))
    cases e0 : bt (j + 1) (argBest bt j) with
    | true =>
      simp only [if_true]
      refine wpAny_bind (wpAny_updateSeq hS1 rfl (wpAny_bind (wpAny_letGo ?_)))
      rw [nm]
      refine wpAny_pure ⟨plainId_quiet F.plain_max_loop _, ih (j + 1) _ v _ (by (clear W hcmp hSf nw nm ih hj hst hb hS hR hP hst1 k1 hS1 e0; omega)) hlt (W.frame _ _ _ hst1 fun b hf o e => ?_) (by simp only [argBest, e0, if_true]; exact hP) (Heap.get?_update_self _ hS1 rfl) fun v2 h2 tk2 hP2 k2 => ?_⟩
      · exact (Heap.get?_update_other _ _ (fun z : S = b => hSf (by rw [z]; exact hf))).trans e
      · exact hR v2 h2 tk2 hP2 fun b o n1 n2 e => k2 b o n1 n2 ((Heap.get?_update_other _ _ (Ne.symm n2)).trans (k1 b o n1 e))
    | false =>
      simp only [if_false, Bool.false_eq_true]
      refine wpAny_bind (wpAny_letGo ?_)
      rw [nm]
      refine wpAny_pure ⟨plainId_quiet F.plain_max_loop _, ih (j + 1) _ vb c (by (clear W hcmp hSf nw nm ih hj hst hb hS hR hP hst1 k1 hS1 e0; omega)) hlt hst1 (by simp only [argBest, e0, if_false, Bool.false_eq_true]; exact hb) hS1 fun v2 h2 tk2 hP2 k2 => ?_⟩
      exact hR v2 h2 tk2 hP2 fun b o n1 n2 e => k2 b o n1 n2 (k1 b o n1 e)
end
section
variable {prog : Program} {w : World} {A : Around} {E : Value → Shared → Prop} {s : Shared} {l : Addr} {xs : Array (Int × Tok)} {d : Value}
theorem maxD_list {Q : Value → Shared → Prop} (hh : A.handled = none) (hl : s.heap.IsList l (intItems xs))
    (h0 : xs.size = 0 → ∀ h' tk, (∀ b o, s.heap.get? b = some o → h'.get? b = some o) → Q d { s with heap := h', toks := tk })
    (h1 : 0 < xs.size → ∀ v h' tk, (intItems xs)[argBest (fun i j => decide (numAt xs i > numAt xs j)) (xs.size - 1)]? = some v → (∀ b o, s.heap.get? b = some o → h'.get? b = some o) → Q v { s with heap := h', toks := tk }) :
    wpAny (model prog w) A (call (.builtin "max") [.ref l] [("default", d)]) Q E s := by
  have nm : (toString "max" ++ toString ".loop" : String) = "max.loop" := by decide
  have body : wpAny (model prog w) A.in1 (Builtin.«max» ⟨[.ref l], [("default", d)]⟩) (fun fin s' => match fin with
      | .done f => (match (Except.ok f : Result) with | .ok (.ret v) => Q v s' | .ok _ => False | .error e => E e s')
      | .again c' => c'.quiet = true ∧ codeAny (model prog w) A c' (fun r s' => match r with | .ok (.ret v) => Q v s' | .ok _ => False | .error e => E e s') s') E s := by
    show wpAny _ A.in1 (Builtin.Builtins.bindParams "max" ["key", "default"] 0 ⟨[], [("default", d)]⟩ >>= _) _ _ s
    refine wpAny_bind (wpAny_of_eq (show Builtin.Builtins.bindParams "max" ["key", "default"] 0 ⟨[], [("default", d)]⟩ = pure [none, some d] from rfl) (wpAny_bind (wpAny_pure (wpAny_bind (iter_intList hl fun s2 e st hfp hlI => ?_)))))
    subst e
    have Wk := Walks.list (prog := prog) (w := w) (A := A.in1) hh s.heap.objs.size l hlI (intItems xs)
    refine wpAny_bind (wpAny_newObj_type ?_)
    rw [nm]
    have hSf : (s.heap.push { cls := .type "list_iterator", data := .fields #[.ref l, .int 0 0] }).objs.size ∉ [s.heap.objs.size, l] := fun z => Nat.lt_irrefl _ (hfp _ z)
    have nw : (s.heap.push { cls := .type "list_iterator", data := .fields #[.ref l, .int 0 0] }).objs.size ∉ [s.heap.objs.size] := fun z => hSf (Wk.sub _ z)
    have st1 := Wk.frame _ _ _ st fun b _ o e => Heap.get?_push_of_some (h := s.heap.push { cls := .type "list_iterator", data := .fields #[.ref l, .int 0 0] }) { cls := .type "list", data := .seq #[] } e
    have hS : ((s.heap.push { cls := .type "list_iterator", data := .fields #[.ref l, .int 0 0] }).push { cls := .type "list", data := .seq #[] }).get? (s.heap.push { cls := .type "list_iterator", data := .fields #[.ref l, .int 0 0] }).objs.size = some { cls := .type "list", dict := none, data := .seq #[] 0, slots := #[] } := Heap.get?_push_size _ rfl
    have old : ∀ b o, s.heap.get? b = some o → b ∉ [s.heap.objs.size] ∧ b ≠ (s.heap.push { cls := .type "list_iterator", data := .fields #[.ref l, .int 0 0] }).objs.size ∧ ((s.heap.push { cls := .type "list_iterator", data := .fields #[.ref l, .int 0 0] }).push { cls := .type "list", data := .seq #[] }).get? b = some o := fun b o e => by
      have hb := Heap.lt_size e
      refine ⟨fun z => ?_, fun z => ?_, Heap.get?_push_of_some _ (Heap.get?_push_of_some _ e)⟩
      · rw [List.mem_singleton.mp z] at hb; exact Nat.lt_irrefl _ hb
      · rw [z, Heap.size_push] at hb; exact absurd hb (Nat.not_lt.mpr (Nat.le_succ _))
    refine wpAny_pure ⟨plainId_quiet F.plain_max_loop _, ?_⟩
    refine (codeAny_builtin F.entry_max_loop ?_); rw [Around.under_plainId F.plain_max_loop _]
    show wpAny _ A.in1 (seqItems? (Value.ref (s.heap.push { cls := .type "list_iterator", data := .fields #[.ref l, .int 0 0] }).objs.size) >>= _) _ _ _
    refine wpAny_bind (wpAny_seqItems hS rfl (?_ : wpAny _ A.in1 (tryCatch (pyNext (.ref s.heap.objs.size)) _ >>= _) _ _ _))
    have hsz : (intItems xs).size = xs.size := by simp [intItems]
    by_cases hz : xs.size = 0
    · refine wpAny_bind (wpAny_tryCatch (Wk.done _ _ _ ((hsz.trans hz).symm ▸ st1) fun h' tk k1 => ?_))
      refine wpAny_bind (wpAny_rule (wpAny_pure ?_))
      exact h0 hz h' tk fun b o e => k1 b o (old b o e).1 (old b o e).2.2
    · have hp : 0 < xs.size := Nat.pos_of_ne_zero hz
      refine wpAny_bind (wpAny_tryCatch (Wk.item 0 _ _ _ (by rw [hsz]; exact hp) st1 fun v h' tk hP hst' k1 => (?_ : wpAny _ A.in1 (updateSeq (s.heap.push { cls := .type "list_iterator", data := .fields #[.ref l, .int 0 0] }).objs.size (fun _ => #[v, v]) >>= _) _ _ _)))
      have hS1 := k1 _ _ nw hS
      refine wpAny_bind (wpAny_updateSeq hS1 rfl ?_)
      rw [nm]
      refine wpAny_pure ⟨plainId_quiet F.plain_max_loop _, loopD Wk _ (CmpOf.ints_gt (numAt xs) fun _ _ => intItems_at) _ hSf _ 0 _ v _ rfl (by rw [hsz]; exact hp) (Wk.frame _ _ _ hst' fun b hf o e => ?_) hP (Heap.get?_update_self _ hS1 rfl) fun v2 h2 tk2 hP2 k2 => ?_⟩
      · exact (Heap.get?_update_other _ _ (fun z => hSf (by rw [z]; exact hf))).trans e
      · refine h1 hp v2 h2 tk2 (by rw [← hsz]; exact hP2) fun b o e => k2 b o (old b o e).1 (old b o e).2.1 ((Heap.get?_update_other _ _ (Ne.symm (old b o e).2.1)).trans (k1 b o (old b o e).1 (old b o e).2.2))
  have ha := args_maxD (.ref l) d
  refine wpAny_call (codeAny_call_builtin F.plain_max F.entry_max ?_)
  simp only [F.kind_max, checkBuiltinCall]
  cases sg : Manifest.signature? "max" with
  | none => exact wpAny_pure body
  | some sig =>
    simp only [argsOk, sg] at ha
    show wpAny _ A.in1 (Bind.checkArgs "max" sig ⟨[.ref l], [("default", d)]⟩) _ _ s
    rw [show Bind.checkArgs "max" sig ⟨[.ref l], [("default", d)]⟩ = pure () from ha]
    exact wpAny_pure body
end
section
variable {X : Cx}
noncomputable def wMaxD (te : WE) (d : Int) : WE := fun τ G q => te τ G fun x G1 => match x with
  | .ref a => ∃ ns : List Int, G1 a = some (.lst (ns.map W.int)) ∧ (ns = [] → q (.int d) G1) ∧ ∀ m : Int, m ∈ ns → (∀ x, x ∈ ns → x ≤ m) → q (.int m) G1
  | _ => False
theorem qe_maxD {e : Expr} {te : WE} {d : Int} {j} {p pos kp cp : Pos} (hc : X.calm = true) (hg : Gl X "max") (hm : X.mg "max" = none) (he : QE X e te)
    (hs1 : starEach [e] X.env = (false, eval e X.env) :: starEach [] X.env := by rfl) (hb1 : backTo pos (starEach [e] X.env) = (false, eval e X.env) :: backTo pos (starEach [] X.env) := by rfl) (hpl : (backTo pos (starEach [e] X.env)).any (·.1) = false := by rfl) :
    QE X (.Call (.Name "max" p) [e] [⟨some "default", .Constant (.int d) j cp, kp⟩] pos) (wMaxD te d) := by
  intro pins s σ H Q I ⟨τ, G, q, hs, hgG, ht, hQ⟩
  refine wpAny_Call_Name_kw (ld_blt I hg hm b_max ?_)
  have go := (pa_cons he pa_nil hs1) pos pins s σ H (fun vs H1 => ∃ v w G1, vs = [v] ∧ TLe H H1 ∧ Rep X.K H1 w v ∧ RelG X.K H1 G1 ∧ (match w with
      | .ref a => ∃ ns : List Int, G1 a = some (.lst (ns.map W.int)) ∧ (ns = [] → q (.int d) G1) ∧ ∀ m : Int, m ∈ ns → (∀ x, x ∈ ns → x ≤ m) → q (.int m) G1
      | _ => False)) I ⟨τ, G, _, hs, hgG, ht, fun v H1 w G1 t1 r1 g1 q1 => ⟨v, w, G1, rfl, t1, r1, g1, q1⟩⟩
  refine callWith_kw (thn go fun us s1 ⟨vs, H1, I1, rv, v, w, G1, ev, t1, rw1, g1, hw⟩ => kws_cons ?_) hb1 hpl rfl rfl
  subst ev
  refine thn (pe_int (X := X) (i := d) (j := j) (pos := cp) pins s1 σ H1 (fun v H2 => v = .int d ∧ H2 = H1) I1 ⟨rfl, rfl⟩) fun u2 s2 ⟨v2, H2, I2, rv2, e1, e2⟩ => kws_nil ?_
  subst e1 e2
  obtain ⟨td, rfl⟩ := rv2
  show wpAny _ _ (call (.builtin "max") us [("default", .int d td)]) _ _ s2
  split at hw
  · rename_i a
    obtain ⟨ns, e, h0, h1⟩ := hw
    cases rw1
    obtain ⟨_, zs, e1, rr⟩ := g1 a _ e
    obtain rfl := rr.ints_of
    obtain ⟨u, rfl, ru⟩ := vals1 rv
    cases (show u = Value.ref a from ru)
    obtain ⟨its, ri, pl, hz⟩ := I2.list (SqL.of e1)
    have hi : IntsAre its ns := L2.intsAre_of ri
    obtain ⟨ys, ey⟩ := hi.allInts.items
    have hn : (ys.toList.map (·.1)) = ns := by rw [← nums_intItems, ← ey, ← hi.numsOf]
    have hl : s2.heap.IsList a (intItems ys) := by rw [← ey]; exact pl.isList
    have hsz : ys.size = ns.length := by rw [← hn]; simp
    refine maxD_list (I2.ok.hd hc) hl (fun hz h' tk hk => ⟨.int d, H2, I2.kept hk, ⟨_, rfl⟩, hQ _ H2 _ G1 t1 (.int _) g1 (h0 ?_)⟩) fun hpos v h' tk hv hk => ?_
    · exact List.eq_nil_of_length_eq_zero (hsz.symm.trans hz)
    · have ab := argBest_gt (numAt ys) (ys.size - 1)
      generalize argBest (fun i j => decide (numAt ys i > numAt ys j)) (ys.size - 1) = ix at hv ab
      have hix : ix < ys.size := by (clear hc hg hm he hs1 hb1 hpl I hs hgG ht hQ go I2 I1 t1 g1 e h0 h1 e1 rr ru rv ri pl hz hi ey hn hl hk hv; omega)
      have hna : ∀ j (hj : j < ys.size), numAt ys j = ns[j]'(by (clear hc hg hm he hs1 hb1 hpl I hs hgG ht hQ go I2 I1 t1 g1 e h0 h1 e1 rr ru rv ri pl hz hi ey hn hl hpos hk hv ab hix; omega)) := fun j hj => by
        unfold numAt
        rw [Array.getElem?_eq_getElem hj]
        simp [← hn]
      have hv2 : v = Value.int (ys[ix].1) (ys[ix].2) := by
        unfold intItems at hv
        rw [Array.getElem?_map, Array.getElem?_eq_getElem hix] at hv
        simpa using hv.symm
      have hm : ys[ix].1 = ns[ix]'(by (clear hc hg hm he hs1 hb1 hpl I hs hgG ht hQ go I2 I1 t1 g1 e h0 h1 e1 rr ru rv ri pl hz hi ey hn hl hpos hk hv ab hna hv2; omega)) := by
        have := hna ix hix
        unfold numAt at this
        rw [Array.getElem?_eq_getElem hix] at this
        simpa using this
      rw [hm] at hv2
      subst hv2
      refine ⟨.int _, H2, I2.kept hk, ⟨_, rfl⟩, hQ _ H2 _ G1 t1 (.int _) g1 (h1 _ (List.getElem_mem _) fun x hx => ?_)⟩
      obtain ⟨j, hj, rfl⟩ := List.mem_iff_getElem.mp hx
      have := ab.2 j (by (clear hc hg he hs1 hb1 hpl I hs hgG ht hQ go I2 I1 t1 g1 e h0 h1 e1 rr ru rv ri pl hz hi ey hn hl hk ab hna hm hv hx; omega))
      rw [hna j (by (clear hc hg he hs1 hb1 hpl I hs hgG ht hQ go I2 I1 t1 g1 e h0 h1 e1 rr ru rv ri pl hz hi ey hn hl hpos hk ab hna hm hv hx this; omega)), hna ix hix] at this
      exact this
  · exact hw.elim
noncomputable def rIsB (neg : Bool) : W2 := fun x y G q => match x, y with
  | .bl a, .bl b => q (.bl (neg ^^ (a == b))) G
  | _, _ => False
end
end L2
namespace L2
open PySem PySem.Spec PyProof.Rows
section
variable {P : Program} {w : World} {K : PySem.W.Frag} {mg : Str → Option Value} {base : Heap} {N : List Str} {qual : Str} {scope : Scope} {f : Addr} {cdv : Value} {A : Around} {outer : List Env} {s : Shared} {H : Hp} {E : XK}
noncomputable def wCallX (sp : WSp) (dws : List W) (t : WA) (e : WX) : WE := fun τ G q => t τ G fun ws G1 => sp (ws ++ dws) G1 q e
end
section
variable {X : Cx} {pins : List (Addr × Obj)} {σ : St} {H : Hp} {s : Shared}
noncomputable def wDct : WE := fun _ G q => ∀ p, G p = none → q (.ref p) (updG G p .dct)
end
end L2
namespace L2
open PySem PySem.Spec PyProof.Rows
section
variable {prog : Program} {w : World} {A : Around} {E : Value → Shared → Prop} {s : Shared} {I l : Addr} {items : Array Value}
end
theorem Vals.rev : ∀ {xs : List V} {us : List Value}, Vals xs us → Vals xs.reverse us.reverse
  | _, _, .nil => .nil
  | _, _, .cons r rs => by
    rw [List.reverse_cons, List.reverse_cons]
    exact (Vals.rev rs).append (.cons r .nil)
theorem Reps.rev {K : PySem.W.Frag} {H : Hp} : ∀ {ws : List W} {vs : List V}, Reps K H ws vs → Reps K H ws.reverse vs.reverse
  | _, _, .nil => .nil
  | _, _, .cons r rs => by
    rw [List.reverse_cons, List.reverse_cons]
    exact (Reps.rev rs).append (.cons r .nil)
section
variable {X : Cx}
noncomputable def wTupRev (te : WE) : WE := fun τ G q => te τ G fun x G1 => match x with
  | .ref a => ∃ ws, G1 a = some (.lst ws) ∧ q (.tup ws.reverse) G1
  | _ => False
end
end L2
namespace L2
open PySem PySem.Spec PyProof.Rows
noncomputable def CRG (lo hi c : Int) : Prop := CR3 lo hi c ∨ (c = -1 ∧ -(2 ^ 40) ≤ lo ∧ lo < 2 ^ 40 ∧ -(2 ^ 40) ≤ hi ∧ hi < 2 ^ 40)
section
variable {X : Cx} {tg : Expr}
noncomputable def jRngG (ta : WA) : WI := fun τ G r => ta τ G fun ws G1 => match ws with
  | [.int lo, .int hi, .int c] => CRG lo hi c ∧ r (upS lo c (rsz lo hi c).toNat) (fun _ => True) G1
  | _ => False
noncomputable def bits (i : Int) : Int := (Builtin.Int.intBits i : Nat)
noncomputable def wBits (to : WE) : WE := fun τ G q => to τ G fun x G1 => match x with
  | .int i => q (.int (bits i)) G1
  | _ => False
noncomputable def BigP (i j : Int) : Prop := 0 ≤ j ∧ j ≤ 1000 ∧ i.natAbs < 2 ^ 4000
noncomputable def CPowB (i j : Int) : Prop := CPow i j ∨ BigP i j
end
end L2
namespace L2
open PySem PySem.Spec PyProof.Rows
section
variable {X : Cx} {C : Addr} {th : WS} {x : Str} {p pos : Pos}
noncomputable def wTryA (i : Nat) (sp : WSp) (dws : List W) (t : WA) (C : Addr) (th : WS) : WS := fun d τ G => t τ G fun ws G1 => sp (ws ++ dws) G1 (fun v G2 => d.nx (τ.set i (some v)) G2) fun c G2 => c = .ref C ∧ th d τ G2
end
end L2
set_option maxRecDepth 100000
namespace L2
open PySem PySem.Spec PyProof.Rows
section
variable {X : Cx}
end
theorem noFill_tuple_mul : fillsNumberSlot (.type "tuple") "mul" = pure false :=
  PySem.fillsNumberSlot_seq (id := "tuple.__mul__") (r := some (.builtin "tuple.__rmul__")) F.slot_tuple_mul.lookup (by decide +kernel) F.slot_tuple_rmul.lookup (by decide +kernel)
theorem repeat_tuple : seqRepeat? (.type "tuple") = pure (some (.builtin "tuple.__mul__")) := by
  unfold seqRepeat?
  rw [PySem.seqSlot_of (T := "tuple") (name := "__mul__") (id := "tuple.__mul__") F.slot_tuple_mul.lookup (by decide +kernel), PySem.seqSlot_of (T := "tuple") (name := "__rmul__") (id := "tuple.__rmul__") F.slot_tuple_rmul.lookup (by decide +kernel)]
  rfl
theorem int_rmul_tuple (a : Int) (t : Tok) (l : Addr) (items : Array Value) (n : Nat) (dd : Option Addr) (sl : Array (Option Value)) :
    Meets (Builtin.«int.__rmul__» ⟨[.int a t, .ref l], []⟩) (fun _ R s => s.heap.get? l = some { cls := .type "tuple", dict := dd, data := .seq items n, slots := sl } ∧ R (.ok (.ret Value.notImplemented)) s) :=
  .of_wp fun prog w A R s h => by obtain ⟨hp, g, d, tk, os⟩ := s; obtain ⟨hl, h⟩ := h; wp_walk; exact ⟨_, rfl, h⟩
theorem tuple_mul1 (l : Addr) (items : Array Value) (n : Nat) (dd : Option Addr) (sl : Array (Option Value)) (u : Tok) :
    Meets (Builtin.«tuple.__mul__» ⟨[.ref l, .int 1 u], []⟩) (fun _ R s => s.heap.get? l = some { cls := .type "tuple", dict := dd, data := .seq items n, slots := sl } ∧ R (.ok (.ret (.ref l))) s) :=
  .of_wp fun prog w A R s h => by
    obtain ⟨hp, g, d, tk, os⟩ := s; obtain ⟨hl, h⟩ := h
    wp_walk
    exact ⟨_, rfl, h⟩
theorem tuple_mulN (l : Addr) (items : Array Value) (n : Nat) (dd : Option Addr) (sl : Array (Option Value)) (x : Int) (u : Tok) (h0 : items.isEmpty = false) (h1 : (x == 1) = false) (h2 : 0 < x) (hf : (decide (x < -(2 ^ 63)) || decide (x ≥ 2 ^ 63)) = false) (hm : decide ((items.size : Int) * x > (2 ^ 63 - 1) / 8) = false) (ht : Builtin.Tuple.tupleTooMany ((items.size : Int) * x) = false) (hsz : ((List.replicate x.toNat items).foldl (· ++ ·) #[]).size ≤ sizeLine) :
    Meets (Builtin.«tuple.__mul__» ⟨[.ref l, .int x u], []⟩) (fun _ R s => s.heap.get? l = some { cls := .type "tuple", dict := dd, data := .seq items n, slots := sl } ∧ R (.ok (.ret (.ref s.heap.objs.size))) { s with heap := s.heap.push { cls := .type "tuple", data := .seq ((List.replicate x.toNat items).foldl (· ++ ·) #[]) } }) :=
  .of_wp fun prog w A R s h => by
    obtain ⟨hp, g, d, tk, os⟩ := s; obtain ⟨hl, h⟩ := h
    have c1 : (items.isEmpty || x == 1) = false := by rw [h0, h1]; rfl
    have c2 : (decide (x ≤ 0) || items.isEmpty) = false := by rw [h0, decide_eq_false (by (clear h0 h1 hf hm ht hsz hl h c1; omega))]; rfl
    wp_walk
    refine wpAny_ite_false (by rw [hf]; rfl) ?_
    wp_walk
    refine wpAny_ite_false hm ?_
    wp_walk
    exact ⟨_, rfl, h⟩
theorem tuple_mul0 (l : Addr) (items : Array Value) (n : Nat) (dd : Option Addr) (sl : Array (Option Value)) (u : Tok) (h0 : items.isEmpty = false) :
    Meets (Builtin.«tuple.__mul__» ⟨[.ref l, .int 0 u], []⟩) (fun _ R s => s.heap.get? l = some { cls := .type "tuple", dict := dd, data := .seq items n, slots := sl } ∧ R (.ok (.ret (.ref s.heap.objs.size))) { s with heap := s.heap.push { cls := .type "tuple", data := .seq #[] } }) :=
  .of_wp fun prog w A R s h => by
    obtain ⟨hp, g, d, tk, os⟩ := s; obtain ⟨hl, h⟩ := h
    have c1 : (items.isEmpty || (0 : Int) == 1) = false := by rw [h0]; rfl
    wp_walk
    exact ⟨_, rfl, h⟩
section
variable {X : Cx}
noncomputable def rRepT (K : PySem.W.Frag) : R2 := fun x y H Q => ∃ a k xs, x = .ref a ∧ y = .int k ∧ SqT K H a xs ∧ xs ≠ [] ∧ 0 ≤ k ∧ k ≤ 100000 ∧ xs.length * k.toNat ≤ sizeLine ∧
  (k = 1 → Q (.ref a) H) ∧ (k ≠ 1 → ∀ p, H p = none → Q (.ref p) (upd H p (.tup (List.replicate k.toNat xs).flatten)))
theorem op_repT : OpR X (binaryOp .Mult) (rRepT X.K) := by
  intro pins s σ H x y v u Q I rx ry h
  obtain ⟨a, k, xs, rfl, rfl, ha, hx, h0, h1, hz, q1, q2⟩ := h
  cases rx
  obtain ⟨t, rfl⟩ := ry
  obtain ⟨its, r1, p1, _⟩ := I.tuple ha
  have hl := r1.length
  obtain ⟨⟨cls, dd, data, sl⟩, ho, hc, n, hd⟩ := id p1
  simp only at hc hd
  subst hc hd
  have he : its.toArray.isEmpty = false := by
    cases its with
    | nil => exact absurd (r1.nil_iff.mp rfl) hx
    | cons _ _ => rfl
  refine wpAny_binaryOp_repeat_ref (T := "tuple") (U := "int") (by decide) ⟨_, ho, rfl⟩ (fun s' => typeIs_int s' k t) noFill_tuple_mul F.fills_int_mul F.slot_int_rmul repeat_tuple F.slot_int_index.lookup
    (call_meets F.slot_int_rmul (typeIs_int s k t) F.entry_int_rmul (F.args_int_rmul_2 _ _) (int_rmul_tuple k t a its.toArray n dd sl) ⟨ho, rfl, ⟨_, ho, rfl⟩, ?_⟩)
  by_cases hk1 : k = 1
  · subst hk1
    exact call_meets F.slot_tuple_mul ⟨_, ho, rfl⟩ F.entry_tuple_mul (F.args_tuple_mul_2 _ _) (tuple_mul1 a its.toArray n dd sl t) ⟨ho, ⟨.ref a, H, I, rfl, q1 rfl⟩⟩
  · by_cases hk0 : k = 0
    · subst hk0
      refine call_meets F.slot_tuple_mul ⟨_, ho, rfl⟩ F.entry_tuple_mul (F.args_tuple_mul_2 _ _) (tuple_mul0 a its.toArray n dd sl t he) ⟨ho, ?_⟩
      refine ⟨.ref s.heap.objs.size, _, I.laid (t' := s.toks) (o := .tup []) (fun b ob q => Heap.get?_push_of_some _ q) (Nat.le_refl _) ?_, rfl, q2 (by decide) _ (I.hok.fresh (Nat.le_refl _))⟩
      exact ⟨Nat.zero_le _, [], .nil, IsTup.new _ _⟩
    · have hsz : (its.toArray.size : Int) * k ≤ (sizeLine : Int) := by
        rw [List.size_toArray, ← hl, ← Int.toNat_of_nonneg h0]
        exact_mod_cast hz
      have hnew : List.foldl (fun x1 x2 => x1 ++ x2) #[] (List.replicate k.toNat its.toArray) = (List.replicate k.toNat its).flatten.toArray := by
        have := foldl_rep its k.toNat []
        rw [List.nil_append] at this
        exact this
      refine call_meets F.slot_tuple_mul ⟨_, ho, rfl⟩ F.entry_tuple_mul (F.args_tuple_mul_2 _ _) (tuple_mulN a its.toArray n dd sl k t he (by simpa using hk1) (by (clear I ha hx hz q1 q2 r1 p1 hl ho he hk1 hsz hnew; omega)) ?_ ?_ ?_ ?_) ⟨ho, ?_⟩
      · rw [decide_eq_false (by (clear I ha hx hz q1 q2 r1 p1 hl ho he hk1 hk0 hsz hnew; omega)), decide_eq_false (by (clear I ha hx hz q1 q2 r1 p1 hl ho he hk1 hk0 hsz hnew; omega))]; rfl
      · refine decide_eq_false (Int.not_lt.mpr (Int.le_trans hsz ?_))
        decide
      · unfold Builtin.Tuple.tupleTooMany
        exact decide_eq_false (Int.not_lt.mpr hsz)
      · rw [hnew, List.size_toArray, len_rep, Nat.mul_comm, ← hl]
        exact hz
      · rw [hnew]
        refine ⟨.ref s.heap.objs.size, _, I.laid (t' := s.toks) (o := .tup (List.replicate k.toNat xs).flatten) (fun b ob q => Heap.get?_push_of_some _ q) (Nat.le_refl _) ?_, rfl, q2 hk1 _ (I.hok.fresh (Nat.le_refl _))⟩
        exact ⟨by rw [len_rep, Nat.mul_comm]; exact hz, _, r1.rep k.toNat, IsTup.new _ _⟩
end
end L2
namespace L2
open PySem PySem.Spec PyProof.Rows
section
variable {X : Cx}
end
end L2
namespace L2
open PySem PySem.Spec PyProof.Rows
noncomputable abbrev WEx := Addr → WSt → Gp → Prop
noncomputable def XP (X : Cx) (pins : List (Addr × Obj)) (H : Hp) (ex : WEx) (e : Value) (s' : Shared) : Prop :=
  ∃ a T C H0 s0 σ H' τ G, e = .ref a ∧ Inv X pins σ H0 s0 ∧ Fl X.prog X.w (frs X.stack) H0 H' s0.heap s'.heap a T (.ref C) .none ∧ s'.os = s0.os ∧ AllBare s'.gens ∧ TLe H H' ∧ RelSt X.K H' τ σ ∧ RelG X.K H' G ∧ ex C τ G
section
variable {X : Cx} {x : Str} {p pos : Pos}
noncomputable def wSeqY (t u : WEx → WS) : WEx → WS := fun ex => wSeq (t ex) (u ex)
noncomputable def wIfY (c : WT) (t u : WEx → WS) : WEx → WS := fun ex => wIf c (t ex) (u ex)
noncomputable def wCallY (i : Nat) (sp : WSp) (dws : List W) (t : WA) : WEx → WS := fun ex d τ G => t τ G fun ws G1 => sp (ws ++ dws) G1 (fun v G2 => d.nx (τ.set i (some v)) G2) fun c G2 => ∀ C, c = .ref C → ex C τ G2
noncomputable def wDoY (sp : WSp) (dws : List W) (t : WA) : WEx → WS := fun ex d τ G => t τ G fun ws G1 => sp (ws ++ dws) G1 (fun _ G2 => d.nx τ G2) fun c G2 => ∀ C, c = .ref C → ex C τ G2
noncomputable def wTryY (t : WEx → WS) (cs : List (Addr × WS)) : WS := fun d τ G => t (fun C τ1 G1 => ∃ th, (C, th) ∈ cs ∧ th d τ1 G1) d τ G
end
end L2
namespace L2
open PySem PySem.Spec PyProof.Rows
section
variable {prog : Program} {w : World} {A : Around} {E : Value → Shared → Prop} {s : Shared}
end
noncomputable def jRev (ta : WA) : WI := fun τ G r => ta τ G fun ws G1 => match ws with
  | [.tup xs] => r xs.reverse (fun _ => True) G1
  | _ => False
end L2
namespace L2
open PySem PySem.Spec PyProof.Rows
noncomputable def enumW : Nat → List W → List W
  | _, [] => []
  | i, x :: xs => .tup [.int (i : Int), x] :: enumW (i + 1) xs
section
variable {prog : Program} {w : World} {A : Around} {E : Value → Shared → Prop} {s : Shared}
end
noncomputable def jEnum (ta : WA) : WI := fun τ G r => ta τ G fun ws G1 => match ws with
  | [.tup xs] => r (enumW 0 xs) (fun _ => True) G1
  | _ => False
end L2
namespace L2
open PySem PySem.Spec PyProof.Rows
mutual
noncomputable def W.ge : W → W → Bool
  | .int i, .int j => decide (i ≥ j)
  | .tup xs, .tup ys => W.ges xs ys
  | _, _ => false
noncomputable def W.ges : List W → List W → Bool
  | [], [] => true
  | [], _ :: _ => false
  | _ :: _, [] => true
  | x :: xs, y :: ys => if W.eq x y = true then W.ges xs ys else W.ge x y
end
noncomputable def GeAt (A : Around) (s : Shared) (y x : Value) (b : Bool) : Prop :=
  ∀ (prog : Program) (w : World) (E : Value → Shared → Prop) (Q : Value → Shared → Prop), Q (.bool b) s → wpAny (model prog w) A (richCompare .GtE y x) Q E s
inductive CmpG (A : Around) (s : Shared) : List Value → List Value → Bool → Prop where
  | nn : CmpG A s [] [] true
  | nc {y : Value} {ys : List Value} : CmpG A s [] (y :: ys) false
  | cn {x : Value} {xs : List Value} : CmpG A s (x :: xs) [] true
  | eq {x y : Value} {xs ys : List Value} {r : Bool} (h : SeqAt.EqAt A s x y true) (t : CmpG A s xs ys r) : CmpG A s (x :: xs) (y :: ys) r
  | ne {x y : Value} {xs ys : List Value} {r : Bool} (h : SeqAt.EqAt A s x y false) (t : GeAt A s x y r) : CmpG A s (x :: xs) (y :: ys) r
section
open PySem.SeqAt
open PySem.AutoSeq1 (wpAny_loadPart')
open PySem.MeetsSeq PySem.MeetsSeq2 PySem.MeetsSeq3
end
section
variable {X : Cx} {pins : List (Addr × Obj)} {σ : St} {H : Hp} {s : Shared}
end
section
variable {X : Cx}
noncomputable def rGe3 : W2 := fun x y G q => match x, y with
  | .int i, .int j => q (.bl (decide (i ≥ j))) G
  | .tup xs, .tup ys => W.flats xs = true ∧ W.flats ys = true ∧ W.deps xs ≤ 149 ∧ W.ords xs ys = true ∧ q (.bl (W.ges xs ys)) G
  | _, _ => False
end
section
variable {X : Cx}
noncomputable def wExt (to te : WE) : WE := fun τ G q => to τ G fun x G1 => match x with
  | .ref a => (∃ xs, G1 a = some (.lst xs)) ∧ te τ G1 fun y G2 => match y with
    | .ref b => ∃ ys zs, G2 a = some (.lst ys) ∧ G2 b = some (.lst zs) ∧ ys.length + zs.length ≤ 100000 ∧ q .non (updG G2 a (.lst (ys ++ zs)))
    | _ => False
  | _ => False
end
end L2
namespace L2
open PySem PySem.Spec PyProof.Rows
section
variable {prog : Program} {w : World} {A : Around} {E : Value → Shared → Prop} {h : Heap} {g : Array GenState} {d : Drawn} {t : Nat} {os : OsState} {a C : Addr} {o : Obj} {K : PySem.W.Frag} {bm : List Value}
end
section
variable {prog : Program} {w : World} {A : Around} {E : Value → Shared → Prop} {s : Shared} {a C D : Addr} {o : Obj} {K : PySem.W.Frag} {bm : List Value}
end
section
variable {X : Cx} {a : Addr} {oe : Obj} {C D : Addr} {bm : List Value}
noncomputable def wIsn (i : Nat) (a : Addr) : WE := fun τ G q => τ[i]? = some (some (.ref a)) ∧ q (.bl false) G
end
end L2
namespace L2
open PySem PySem.Spec PyProof.Rows
end L2
namespace L2
open PySem PySem.Spec PyProof.Rows
noncomputable def jEnumL (ta : WA) : WI := fun τ G r => ta τ G fun ws G1 => match ws with
  | [.ref a] => ∃ l, G1 a = some (.lst l) ∧ r (enumW 0 l) (fun G => G a = some (.lst l)) G1
  | _ => False
end L2
set_option maxRecDepth 100000
namespace L2
open PySem PySem.Spec PyProof.Rows
section
variable {prog : Program} {w : World} {A : Around} {E : Value → Shared → Prop} {s : Shared} {I l : Addr} {items : Array Value}
end
section
variable {X : Cx}
noncomputable def wTupRvT (te : WE) : WE := fun τ G q => te τ G fun x G1 => match x with
  | .tup ws => q (.tup ws.reverse) G1
  | _ => False
end
end L2
namespace L2
open PySem PySem.Spec PyProof.Rows
section
variable {X : Cx}
noncomputable def rIsA (neg : Bool) : W2 := fun x y G q => match y with
  | .non => q (.bl (neg ^^ isNon x)) G
  | .bl b => match x with
    | .bl a => q (.bl (neg ^^ (a == b))) G
    | _ => False
  | _ => False
end
end L2
set_option maxRecDepth 100000
namespace L2
open PySem PySem.Spec PyProof.Rows
section
variable {X : Cx} {pins : List (Addr × Obj)} {σ : St} {H0 H : Hp} {s0 s : Shared} {a T C D : Addr}
variable {bm bmD : List Value} {x : Str} {p pos : Pos} {name : Option Str} {body : List Stmt} {rest : List ExceptHandler} {b0 : Stmt} {th : WS}
end
end L2
set_option maxRecDepth 100000
namespace L2
open PySem PySem.Spec PyProof.Rows
structure RoomN (k : Nat) (A : Around) : Prop where
  dp : A.depth + 3 * k + 5 < recursionLimit
  un : A.units + 16 * k + 200 < cLine
structure FnN (P : Program) (w : World) (K : PySem.W.Frag) (mg : Str → Option Value) (base : Heap) (CX : CXT) (k : Nat) (f : Addr) (fd : FuncData) (ps : List Str) (sp : Sp) : Prop where
  len : ∀ vs H Q E, sp vs H Q E → vs.length = ps.length
  run : ∀ (A : Around) (outer : List Env) (s : Shared) (H : Hp) (args : Args) (us : List Value) (vs : List V) (Q : VK) (E : XK), RoomN k A → Env0 P w K mg base A outer s H → BindsTo s fd args (ps.zip us) → Vals vs us → sp vs H Q E →
    codeAny (model P w) A (.call (.ref f) args) (CR CX outer P w H s Q E) s
section
variable {X : Cx}
end
end L2
namespace L2
open PySem PySem.Spec PyProof.Rows
section
variable {P : Program} {w : World} {K : PySem.W.Frag} {mg : Str → Option Value} {base : Heap} {k : Nat} {f : Addr} {fd : FuncData} {ps : List Str} {sp sp' : WSp}
end
end L2
set_option maxRecDepth 100000
namespace L2
open PySem PySem.Spec PyProof.Rows
section
variable {K : PySem.W.Frag} {H : Hp}
end
section
variable {X : Cx}
structure Mt (P : Program) (w : World) (K : PySem.W.Frag) (mg : Str → Option Value) (base : Heap) (C : Addr) (m : Str) (ps : List Str) (k : Nat) (sp : WSp) (dws : List W) : Prop where
  ex : ∃ (f : Addr) (fd : FuncData) (ds : List Value) (dvs : List V), Meth K C m f ∧ WFn P w K mg base k f fd ps sp ∧ Binds K fd ps ds ∧ Vals dvs ds ∧ ∀ H, Reps K H dws dvs
  cl : Cls K C
noncomputable def wPop (to : WE) : WE := fun τ G q => to τ G fun x G1 => match x with
  | .ref a => ∃ ys y, G1 a = some (.lst (ys ++ [y])) ∧ q y (updG G1 a (.lst ys))
  | _ => False
theorem Reps.snoc {K : PySem.W.Frag} {H : Hp} : ∀ {ys : List W} {y : W} {xs : List V}, Reps K H (ys ++ [y]) xs → ∃ v, xs[xs.length - 1]? = some v ∧ Rep K H y v ∧ Reps K H ys xs.dropLast
  | [], y, xs, r => by
    obtain ⟨v, rfl, rv⟩ := r.one
    exact ⟨v, rfl, rv, .nil⟩
  | w :: ys, y, _, .cons (v := v) (vs := vs) r rs => by
    obtain ⟨u, h1, h2, h3⟩ := Reps.snoc rs
    have hl := rs.length
    cases vs with
    | nil => simp at hl
    | cons v2 vs2 =>
      refine ⟨u, ?_, h2, ?_⟩
      · simpa using h1
      · rw [List.dropLast_cons₂]
        exact .cons r h3
theorem qe_pop {o : Expr} {to : WE} {apos cpos : Pos} (ho : QE X o to)
    (hbase : attributeBase o "pop" X.env (eval o X.env) = eval o X.env := by rfl) (hline : (apos.endLine == cpos.line) = true := by rfl) : QE X (.Call (.Attribute o "pop" apos) [] [] cpos) (wPop to) :=
  (pe_bm0 PySem.F.plainAttrs_list PySem.F.slot_list_pop PySem.F.type_list_pop mt_pop ho hbase hline).imp fun σ H Q z0 => z0.el fun τ G q hs hg ht hQ =>
    ⟨τ, G, _, hs, hg, ht, fun v H1 w G1 t1 r1 g1 q1 => by
      split at q1
      · rename_i a
        cases r1
        obtain ⟨ys, y, e1, q1⟩ := q1
        obtain ⟨hl, xs', h1, rr⟩ := g1 a _ e1
        obtain ⟨u, hu, ru, rd⟩ := rr.snoc
        refine ⟨.inl ⟨rfl, xs', SqL.of h1⟩, a, xs', u, rfl, rfl, h1, hu, ?_⟩
        have tl := TLe.lst h1 (.lst xs'.dropLast)
        exact hQ _ _ _ _ (t1.trans tl) (ru.mono tl) (g1.put tl rd (by simp at hl; exact Nat.le_trans (by assumption) (Nat.le_of_ble_eq_true rfl))) q1
      · exact q1.elim⟩
section
variable {P : Program} {w : World} {K : PySem.W.Frag} {mg : Str → Option Value} {base : Heap} {C : Addr} {m qual : Str} {st : Stmt} {ps : List Str} {k : Nat} {sp : WSp} {dws : List W}
end
noncomputable def wCnt : WS := fun d τ G => d.ct τ G
theorem qs_continue {pos : Pos} : QS X (.Continue pos) wCnt := ps_continue.imp fun D σ H z0 => z0.el fun τ G d rs rg ht l => l.ct σ H τ G (TLe.refl H) rs rg ht
theorem lnZ {α : Type} {p : List α → Prop} (h : p []) (us : List α) (e : us.length = 0) : p us := by
  rw [List.eq_nil_of_length_eq_zero e]; exact h
theorem lnS {α : Type} {n : Nat} {p : List α → Prop} (h : ∀ a, ∀ us : List α, us.length = n → p (a :: us)) (us : List α) (e : us.length = n + 1) : p us := by
  cases us with
  | nil => exact absurd e (Nat.succ_ne_zero n).symm
  | cons a us => exact h a us (Nat.succ.inj e)
end
end L2
namespace Nm
inductive O where
  | z
  | c (e : O) (n : Int) (r : O)
  deriving DecidableEq
namespace O
noncomputable def cmp : O → O → Int
  | z, z => 0
  | z, c _ _ _ => -1
  | c _ _ _, z => 1
  | c e n r, c e' n' r' =>
    if cmp e e' ≠ 0 then cmp e e' else if n < n' then -1 else if n' < n then 1 else cmp r r'
noncomputable def size : O → Nat
  | z => 0
  | c e _ r => 1 + size e + size r
noncomputable def dp : O → Nat
  | z => 0
  | c e _ r => max (dp e + 1) (dp r)
noncomputable def len : O → Nat
  | z => 0
  | c _ _ r => len r + 1
noncomputable def app : O → O → O
  | z, b => b
  | c e n r, b => c e n (app r b)
noncomputable def filt (p : O → Int → Bool) : O → O
  | z => z
  | c e n r => if p e n then c e n (filt p r) else filt p r
noncomputable def same (x : O) : O → Int
  | z => 0
  | c e n r => if e = x then n + same x r else same x r
noncomputable def init : O → O
  | z => z
  | c _ _ z => z
  | c e n r => c e n (init r)
noncomputable def last : O → O
  | z => z
  | c e n z => c e n z
  | c _ _ r => last r
noncomputable def Lt (e : O) : O → Prop
  | z => True
  | c x _ r => cmp x e < 0 ∧ Lt e r
noncomputable def NF : O → Prop
  | z => True
  | c e n r => NF e ∧ 1 ≤ n ∧ Lt e r ∧ NF r
end O
end Nm
namespace Nm
namespace O
end O
end Nm
namespace Nm
namespace O
noncomputable def mergeO : O → O → O
  | z, b => b
  | c e n r, z => c e n r
  | c e n r, c e' n' r' => if 0 < cmp e e' then c e n (mergeO r (c e' n' r')) else if cmp e e' < 0 then c e' n' (mergeO (c e n r) r') else c e (n + n') (mergeO r r')
termination_by a b => a.len + b.len
decreasing_by all_goals (simp only [len]; omega)
end O
end Nm
namespace Nm
namespace O
noncomputable def stay (e a : O) : Nat := (filt (fun x _ => decide (0 < cmp x e)) a).len
end O
end Nm
namespace Nm
namespace O
noncomputable def mx : O → Int
  | z => 0
  | c e n r => max n (max (mx e) (mx r))
structure Good (B : Int) (o : O) : Prop where
  nf : NF o
  sz : o.size ≤ 24
  mx : O.mx o ≤ B
end O
end Nm
namespace Nm
namespace O
section
variable {e : O} {n : Int} {r : O}
end
end O
end Nm
namespace Nm
namespace O
section
variable {e : O} {n : Int} {r : O}
end
end O
end Nm
namespace Nm
namespace O
end O
end Nm
namespace Nm
namespace O
noncomputable def hw : O → Nat
  | z => 0
  | c e _ r => max (len r + 1) (max (hw e) (hw r))
end O
end Nm
namespace Nm
namespace O
noncomputable def lessO : O → O
  | z => z
  | c e n z => if n = 1 then z else c e (n - 1) z
  | c e n (c e' n' r') => c e n (lessO (c e' n' r'))
noncomputable def lastE : O → O
  | z => z
  | c e _ z => e
  | c _ _ (c e' n' r') => lastE (c e' n' r')
noncomputable def Lim (a : O) : Prop := a ≠ z ∧ same z a = 0
inductive Lad : O → Int → O → Prop where
  | suc {a : O} {n : Int} (h0 : a ≠ z) (h : lastE a = z) : Lad a n (lessO a)
  | lim {a : O} {n : Int} {o : O} (h0 : a ≠ z) (h : Lim (lastE a)) (k : Lad (lastE a) n o) : Lad a n (app (lessO a) (c o 1 z))
  | one {a : O} {n : Int} (h0 : a ≠ z) (h : lastE a ≠ z) (h' : ¬ Lim (lastE a)) : Lad a n (app (lessO a) (if n = 0 then z else c (lessO (lastE a)) n z))
end O
end Nm
namespace Nm
namespace O
end O
end Nm
namespace Nm
namespace O
structure Rg (a b : O) (n : Int) : Prop where
  pos : 0 ≤ n
  pass : ∀ o, Lad a n o → cmp b o < 0
  least : 0 < n → ∀ o, Lad a (n - 1) o → ¬ cmp b o < 0
end O
end Nm
namespace Nm
namespace O
end O
end Nm
namespace Nm
namespace O
end O
end Nm
namespace Nm
namespace O
noncomputable def wh (m : Int) : O := if m = 0 then z else c z m z
end O
end Nm
namespace Nm
namespace O
noncomputable abbrev one : O := c z 1 z
noncomputable abbrev lim (b : O) : O := filt (fun y _ => decide (¬ y = z)) b
end O
end Nm
namespace Nm
namespace O
section
variable {x : O} {n m : Int}
end
end O
end Nm
namespace Nm
namespace O
noncomputable abbrev w1 : O := c one 1 z
end O
end Nm
namespace Nm
namespace O
end O
end Nm
namespace Nm
namespace O
noncomputable def ot : O → Int
  | z => 0
  | c _ n r => max n (ot r)
end O
end Nm
namespace Nm
namespace O
end O
end Nm
namespace Nm
namespace O
noncomputable def val (b : Nat) : O → Nat
  | z => 0
  | c e n r => n.toNat * b ^ val b e + val b r
structure Wr (b : Nat) (a : O) : Prop where
  nf : NF a
  mx : O.mx a < b
end O
end Nm
namespace Nm
namespace O
noncomputable def tp (b : Nat) : O → Nat
  | z => 0
  | c e _ _ => val b e + 1
end O
end Nm
namespace Nm
namespace O
open Classical in
noncomputable def rep (b s : Nat) : O := if h : ∃ o, Wr b o ∧ val b o = s then choose h else z
noncomputable def tl (b : Nat) : Nat → O
  | 0 => z
  | s + 1 => c (rep b s) ((b : Int) - 1) (tl b s)
noncomputable def dn (b : Nat) (a : O) : O := app (lessO a) (tl b (val b (lastE a)))
end O
end Nm
namespace Nm
namespace O
inductive Wy (b : Nat) : O → Prop where
  | z : Wy b z
  | c {a : O} (h0 : a ≠ O.z) (nf : NF a) (w : Wr b (lessO a)) (k : Wy b (lastE a)) : Wy b a
end O
end Nm
namespace Nm
namespace O
end O
end Nm
namespace Nm
namespace O
noncomputable def xb (b : Nat) : Nat := if b * b ≤ 55 then b else 54 / b + 1
noncomputable def topO (b : Nat) : O := if b < 56 then c (c z 1 z) (xb b : Int) z else c z 55 z
structure Rw (b k : Nat) (a : O) : Prop where
  wr : Wr (b + k) a
  top : Lt (topO b) a
  tp : O.tp (b + k) a ≤ 200
end O
end Nm
namespace Nm
namespace O
structure Hi (b : Nat) (a p e : O) (n : Int) : Prop where
  app : a = O.app p (c e n z)
  wp : Wr b p
  we : Wr b e
  n1 : 1 ≤ n
  n2 : n < b
  last : lastE a = e
  div : ∃ q, val b p = q * b ^ (val b e + 1)
  lt : p ≠ z → cmp e (lastE p) < 0
  dp : p.dp ≤ a.dp
  de : e.dp < a.dp
  top : ∀ x, Lt x a → Lt x p
end O
end Nm
namespace Nm
namespace O
end O
end Nm
namespace Nm
inductive Tr where
  | z
  | c (b r : Tr)
namespace Tr
noncomputable def pts : Tr → Nat
  | z => 1
  | c b r => pts b + pts r
noncomputable def dp : Tr → Nat
  | z => 0
  | c b r => max (dp b + 1) (dp r)
noncomputable def len : Tr → Nat
  | z => 0
  | c _ r => len r + 1
noncomputable def sm (f : Nat → Nat) : Nat → Nat
  | 0 => 0
  | n + 1 => sm f n + f n
structure Hang (n M : Nat) (ch : Nat → List Nat) (ds : Nat → Nat) : Prop where
  pos : 1 ≤ n
  d0 : ds 0 = 0
  in_ : ∀ v, v < n → ∀ j, j ∈ ch v → v < j ∧ j < n ∧ ds j = ds v + 1
  dp : ∀ v, v < n → ds v ≤ M
  sum : ∀ f : Nat → Nat, sm (fun v => ((ch v).map f).sum) n + f 0 = sm f n
  len : ∀ v, v < n → (ch v).length ≤ n
structure Grown (n M k : Nat) (ch : Nat → List Nat) (ds : Nat → Nat) (t : Nat → Tr) : Prop where
  pts : ∀ v, k ≤ v → v < n → Tr.pts (t v) = 1 + ((ch v).map fun j => Tr.pts (t j)).sum
  dp : ∀ v, k ≤ v → v < n → Tr.dp (t v) + ds v ≤ M
end Tr
end Nm
namespace Nm
namespace Tr
open O
noncomputable def nO : Tr → O
  | z => .z
  | c b r => mergeO (.c (nO b) 1 .z) (nO r)
noncomputable def app : Tr → Tr → Tr
  | z, u => u
  | c b r, u => c b (app r u)
noncomputable def getT : Tr → Nat → Option Tr
  | z, _ => none
  | c b _, 0 => some b
  | c _ r, i + 1 => getT r i
noncomputable def setT : Tr → Nat → Tr → Tr
  | z, _, _ => z
  | c _ r, 0, u => app u r
  | c b r, i + 1, u => c b (setT r i u)
noncomputable def reps (b : Tr) : Nat → Tr
  | 0 => z
  | n + 1 => c b (reps b n)
noncomputable def cutT (m : Nat) : Tr → List Nat → Tr
  | t, [] => t
  | t, [i] => setT t i z
  | t, [i, j] => match getT t i with
    | some b => setT t i (reps (setT b j z) (1 + m))
    | none => t
  | t, i :: j :: k :: w => match getT t i with
    | some b => setT t i (c (cutT m b (j :: k :: w)) z)
    | none => t
end Tr
end Nm
namespace Nm
namespace Tr
open O
end Tr
end Nm
namespace Nm
namespace Tr
open O
end Tr
end Nm
namespace Nm
namespace Tr
end Tr
end Nm
namespace Nm
namespace Tr
open O
end Tr
end Nm
namespace Nm
namespace Tr
noncomputable def isz : Tr → Bool
  | z => true
  | c _ _ => false
noncomputable def bare : Tr → Nat
  | z => 0
  | c b r => (if isz b = true then 1 else bare b) + bare r
end Tr
end Nm
namespace Nm
namespace O
inductive Ru (n : Int) : O → O → Prop
  | less {a : O} : a ≠ .z → lastE a = .z → Ru n a (lessO a)
  | succ {a : O} : a ≠ .z → lastE a ≠ .z → lastE (lastE a) = .z → Ru n a (O.app (lessO a) (.c (lessO (lastE a)) n .z))
  | lim {a o : O} : a ≠ .z → lastE a ≠ .z → lastE (lastE a) ≠ .z → Ru n (lastE a) o → Ru n a (O.app (lessO a) (.c o 1 .z))
end O
namespace Tr
open O
noncomputable def LeastAt (t : Tr) (i : Nat) (b : Tr) : Prop := getT t i = some b ∧ ∀ j d, getT t j = some d → (j ≤ i → 0 ≤ cmp (nO d) (nO b)) ∧ (i < j → 0 < cmp (nO d) (nO b))
noncomputable def Lst : Tr → List Nat → Prop
  | t, [] => t = z
  | t, i :: w => ∃ b, LeastAt t i b ∧ Lst b w
end Tr
end Nm
namespace Nm
namespace O
end O
end Nm
namespace Nm
namespace O
structure Bd (d s : Nat) (m : Int) (o : O) : Prop where
  nf : o.NF
  dp : o.dp ≤ d
  sz : o.size ≤ s
  mx : O.mx o ≤ m
end O
end Nm
namespace Nm
namespace O
end O
end Nm
namespace Nm
namespace O
end O
end Nm
namespace Nm
namespace O
end O
end Nm
namespace Nm
namespace O
end O
end Nm
namespace Nm
namespace O
noncomputable def e1 : O := c z 1 z
inductive Far (B k l : Nat) : Prop
  | two : B = 2 → k = 16 → l < 2 → Far B k l
  | three : B = 3 → k = 27 → l < 3 → Far B k l
end O
end Nm
namespace Nm
namespace O
end O
end Nm
namespace Nm
namespace O
inductive Dn (f : Nat → Int) (a : O) : List O → O → Prop where
  | one : Dn f a [a] a
  | step {os : List O} {b o : O} (h : Dn f a os b) (hb : b ≠ z) (l : Lad b (f (os.length - 1)) o) : Dn f a (os ++ [o]) o
end O
end Nm
namespace Nm
namespace Tr
instance decZ : (t : Tr) → Decidable (t = z)
  | z => .isTrue rfl
  | c _ _ => .isFalse (fun h => by cases h)
noncomputable def low : List Tr → Tr
  | [] => z
  | [t] => t
  | _ :: u :: l => low (u :: l)
noncomputable def step (ls : List Tr) (s : Nat) : Option (List Tr) :=
  if s = 40 ∧ low ls = z ∧ ls.length ≤ 41 then some (z :: ls)
  else if s = 41 then
    match ls with
    | t :: u :: l => some (u.app (c t z) :: l)
    | _ => none
  else none
structure Bg (ls : List Tr) : Prop where
  ne : ls ≠ []
  lo : low ls = z ∨ ∃ b, ls = [c b z]
  len : ls.length ≤ 42
noncomputable def rtS : List Nat → Bool → Int → Int → Option (Int × Int)
  | [], _, d, m => some (d, m)
  | s :: cs, f, d, m =>
    if ¬ (s = 40 ∨ s = 41) ∨ (f = false ∧ d = 0) then none
    else
      let d' := d + 1 - 2 * (if s = 41 then 1 else 0)
      if d' < 0 then none else rtS cs false d' (max m d')
noncomputable def rt (l : List Nat) : Bool := match rtS l true 0 0 with
  | none => false
  | some (d, m) => decide (l ≠ []) && decide (d = 0) && decide (l.length ≤ 1200) && decide (m ≤ 41)
end Tr
end Nm
namespace Nm
namespace Tr
open O
inductive Fel (f : Nat → Nat) (t : Tr) : List Tr → Tr → Prop
  | one : Fel f t [t] t
  | step {ts : List Tr} {u : Tr} {w : List Nat} (h : Fel f t ts u) (hz : u ≠ z) (hw : w ≠ []) (hl : Lst u w) (hp : pts (cutT (f (ts.length - 1)) u w) ≤ 60) : Fel f t (ts ++ [cutT (f (ts.length - 1)) u w]) (cutT (f (ts.length - 1)) u w)
section
variable {f : Nat → Nat} {t u : Tr} {ts : List Tr}
end
end Tr
end Nm
namespace Nm
set_option linter.all false
section
variable {α : Type} [DecidableEq α] {β : Type}
noncomputable def gT (t : List (α × β)) (k : α) : Option β := (t.find? fun p => decide (p.1 = k)).map (·.2)
noncomputable def pT (t : List (α × β)) (k : α) (v : β) : List (α × β) :=
  if (t.any fun p => decide (p.1 = k)) = true then t.map (fun p => if p.1 = k then (p.1, v) else p) else t ++ [(k, v)]
theorem gT_pos {p : α × β} {r : List (α × β)} {k : α} (e : p.1 = k) : gT (p :: r) k = some p.2 := by simp [gT, List.find?_cons, e]
theorem gT_neg {p : α × β} {r : List (α × β)} {k : α} (e : ¬ p.1 = k) : gT (p :: r) k = gT r k := by simp [gT, List.find?_cons, e]
theorem gT_mem : ∀ {t : List (α × β)} {k : α} {v : β}, gT t k = some v → (k, v) ∈ t
  | [], _, _, h => by cases h
  | p :: r, k, v, h => by
    by_cases e : p.1 = k
    · rw [gT_pos e] at h; cases h; rw [← e]; exact List.mem_cons_self
    · rw [gT_neg e] at h; exact List.mem_cons_of_mem _ (gT_mem h)
theorem gT_some : ∀ {t : List (α × β)} {k : α}, k ∈ t.map (·.1) → ∃ v, gT t k = some v
  | [], _, h => by simp at h
  | p :: r, k, h => by
    by_cases e : p.1 = k
    · exact ⟨_, gT_pos e⟩
    · rw [gT_neg e]
      rw [List.map_cons] at h
      rcases List.mem_cons.mp h with h | h
      · exact absurd h.symm e
      · exact gT_some h
theorem gT_key {t : List (α × β)} {k : α} {v : β} (h : gT t k = some v) : k ∈ t.map (·.1) := List.mem_map.mpr ⟨_, gT_mem h, rfl⟩
theorem gT_none {t : List (α × β)} {k : α} (h : ¬ k ∈ t.map (·.1)) : gT t k = none := by
  cases e : gT t k with
  | none => rfl
  | some v => exact absurd (gT_key e) h
theorem gT_nd : ∀ {t : List (α × β)} {k : α} {v : β}, (t.map (·.1)).Nodup → (k, v) ∈ t → gT t k = some v
  | [], _, _, _, h => by cases h
  | p :: r, k, v, hn, h => by
    rw [List.map_cons, List.nodup_cons] at hn
    rcases List.mem_cons.mp h with h | h
    · rw [← h]; exact gT_pos rfl
    · have : ¬ p.1 = k := fun e => hn.1 (e ▸ List.mem_map.mpr ⟨_, h, rfl⟩)
      rw [gT_neg this]; exact gT_nd hn.2 h
theorem gT_any : ∀ (t : List (α × β)) (k : α), (t.any fun p => decide (p.1 = k)) = (gT t k).isSome
  | [], k => rfl
  | p :: r, k => by
    rw [List.any_cons]
    by_cases e : p.1 = k
    · rw [gT_pos e, decide_eq_true e]; rfl
    · rw [gT_neg e, decide_eq_false e, Bool.false_or]; exact gT_any r k
theorem gT_map (k j : α) (v : β) : ∀ t : List (α × β), gT (t.map fun p => if p.1 = k then (p.1, v) else p) j = (gT t j).map fun x => if j = k then v else x
  | [] => rfl
  | p :: r => by
    have ih := gT_map k j v r
    rw [List.map_cons]
    by_cases h : p.1 = k
    · rw [if_pos h]
      by_cases e : p.1 = j
      · rw [gT_pos (p := (p.1, v)) e, gT_pos e, Option.map_some, if_pos (e.symm.trans h)]
      · rw [gT_neg (p := (p.1, v)) e, gT_neg e, ih]
    · rw [if_neg h]
      by_cases e : p.1 = j
      · rw [gT_pos e, gT_pos e, Option.map_some, if_neg (fun z => h (e.trans z))]
      · rw [gT_neg e, gT_neg e, ih]
theorem gT_snoc (k j : α) (v : β) : ∀ t : List (α × β), gT t k = none → gT (t ++ [(k, v)]) j = if j = k then some v else gT t j
  | [], _ => by
    by_cases e : k = j
    · rw [if_pos e.symm]; exact gT_pos e
    · rw [if_neg (fun z => e z.symm)]; exact gT_neg e
  | p :: r, hn => by
    rw [List.cons_append]
    have hk : ¬ p.1 = k := fun z => by rw [gT_pos z] at hn; cases hn
    rw [gT_neg hk] at hn
    have ih := gT_snoc k j v r hn
    by_cases e : p.1 = j
    · rw [gT_pos e, gT_pos e, if_neg (fun z => hk (e.trans z))]
    · rw [gT_neg e, gT_neg e, ih]
theorem gT_put (t : List (α × β)) (k j : α) (v : β) : gT (pT t k v) j = if j = k then some v else gT t j := by
  unfold pT
  rw [gT_any]
  cases h : gT t k with
  | none => exact gT_snoc k j v t h
  | some x =>
    show gT (t.map _) j = _
    rw [gT_map]
    by_cases e : j = k
    · rw [if_pos e, e, h, Option.map_some, if_pos rfl]
    · rw [if_neg e]
      cases gT t j with
      | none => rfl
      | some y => rw [Option.map_some, if_neg e]
theorem pT_keys (t : List (α × β)) (k : α) (v : β) : (pT t k v).map (·.1) = if (gT t k).isSome = true then t.map (·.1) else t.map (·.1) ++ [k] := by
  unfold pT
  rw [gT_any]
  split
  · rw [List.map_map]
    apply List.map_congr_left
    intro p _
    show (if p.1 = k then (p.1, v) else p).1 = p.1
    split <;> rfl
  · rw [List.map_append]; rfl
theorem pT_nd {t : List (α × β)} {k : α} {v : β} (h : (t.map (·.1)).Nodup) : ((pT t k v).map (·.1)).Nodup := by
  rw [pT_keys]
  split
  · exact h
  · rename_i e
    refine List.nodup_append.mpr ⟨h, by simp, fun a ha b hb => ?_⟩
    rw [List.mem_singleton] at hb
    rintro rfl
    subst hb
    obtain ⟨x, hx⟩ := gT_some ha
    rw [hx] at e
    exact e rfl
theorem pT_key {t : List (α × β)} {k j : α} {v : β} : j ∈ (pT t k v).map (·.1) ↔ j = k ∨ j ∈ t.map (·.1) := by
  constructor
  · intro h
    obtain ⟨x, hx⟩ := gT_some h
    rw [gT_put] at hx
    by_cases e : j = k
    · exact .inl e
    · rw [if_neg e] at hx; exact .inr (gT_key hx)
  · intro h
    rcases h with rfl | h
    · exact gT_key (v := v) (by rw [gT_put, if_pos rfl])
    · by_cases e : j = k
      · exact gT_key (v := v) (by rw [gT_put, if_pos e])
      · obtain ⟨x, hx⟩ := gT_some h
        exact gT_key (v := x) (by rw [gT_put, if_neg e]; exact hx)
theorem pT_len (t : List (α × β)) (k : α) (v : β) : (pT t k v).length ≤ t.length + 1 := by
  unfold pT
  split
  · rw [List.length_map]; omega
  · rw [List.length_append]; simp
theorem nd_le : ∀ {l m : List α}, l.Nodup → (∀ x, x ∈ l → x ∈ m) → l.length ≤ m.length
  | [], _, _, _ => Nat.zero_le _
  | x :: l, m, hn, hs => by
    rw [List.nodup_cons] at hn
    have hx := hs x List.mem_cons_self
    have h1 : l.length ≤ (m.erase x).length := nd_le hn.2 fun y hy => by
      have hne : y ≠ x := fun e => hn.1 (e ▸ hy)
      exact (List.mem_erase_of_ne hne).mpr (hs y (List.mem_cons_of_mem _ hy))
    have h2 := List.length_erase_of_mem hx
    have h3 := List.length_pos_of_mem hx
    rw [List.length_cons]; (clear hn hs hx; omega)
theorem nd_len {l m : List α} (hl : l.Nodup) (hm : m.Nodup) (h : ∀ x, x ∈ l ↔ x ∈ m) : l.length = m.length :=
  Nat.le_antisymm (nd_le hl fun x => (h x).mp) (nd_le hm fun x => (h x).mpr)
noncomputable abbrev Tab (α : Type) := List (α × List α)
noncomputable def oth (T : Tab α) (k : α) : List α := (gT T k).getD []
noncomputable def mxs (R : List (α × Nat)) : List α → Option Nat
  | [] => some 0
  | o :: l => match gT R o, mxs R l with
    | some x, some y => some (max (x + 1) y)
    | _, _ => none
noncomputable def Cl (T : Tab α) (R : List (α × Nat)) : Prop := ∀ k r, gT R k = some r → mxs R (oth T k) = some r
theorem mxs_all {R : List (α × Nat)} : ∀ {l : List α}, (∀ o, o ∈ l → ∃ x, gT R o = some x) → ∃ r, mxs R l = some r
  | [], _ => ⟨0, rfl⟩
  | o :: l, h => by
    obtain ⟨x, hx⟩ := h o List.mem_cons_self
    obtain ⟨y, hy⟩ := mxs_all (l := l) fun o ho => h o (List.mem_cons_of_mem _ ho)
    exact ⟨max (x + 1) y, by simp only [mxs, hx, hy]⟩
theorem mxs_cons {R : List (α × Nat)} {o : α} {l : List α} {r : Nat} (h : mxs R (o :: l) = some r) : ∃ x y, gT R o = some x ∧ mxs R l = some y ∧ r = max (x + 1) y := by
  simp only [mxs] at h
  cases hx : gT R o with
  | none => rw [hx] at h; cases h
  | some x =>
    cases hy : mxs R l with
    | none => rw [hx, hy] at h; cases h
    | some y => rw [hx, hy] at h; exact ⟨x, y, rfl, rfl, (Option.some.inj h).symm⟩
theorem mxs_in {R : List (α × Nat)} : ∀ {l : List α} {r : Nat} {o : α}, mxs R l = some r → o ∈ l → ∃ x, gT R o = some x ∧ x < r
  | [], _, _, _, h => by cases h
  | p :: l, r, o, h, ho => by
    obtain ⟨x, y, h1, h2, h3⟩ := mxs_cons h
    rcases List.mem_cons.mp ho with rfl | ho
    · exact ⟨x, h1, by (clear h2 h ho h1; omega)⟩
    · obtain ⟨z, h4, h5⟩ := mxs_in h2 ho
      exact ⟨z, h4, by (clear h h1 h2 ho h4; omega)⟩
theorem mxs_mono {R S : List (α × Nat)} : ∀ {l : List α} {r : Nat}, (∀ o x, o ∈ l → gT R o = some x → gT S o = some x) → mxs R l = some r → mxs S l = some r
  | [], _, _, h => h
  | o :: l, r, hle, h => by
    obtain ⟨x, y, h1, h2, h3⟩ := mxs_cons h
    have e1 := hle o x List.mem_cons_self h1
    have e2 := mxs_mono (fun o x ho => hle o x (List.mem_cons_of_mem _ ho)) h2
    simp only [mxs, e1, e2, h3]
theorem Cl.put {T : Tab α} {R : List (α × Nat)} {k : α} {v : Nat} (h : Cl T R) (hv : mxs R (oth T k) = some v) : (∀ j x, gT R j = some x → gT (pT R k v) j = some x) ∧ Cl T (pT R k v) := by
  have mono : ∀ j x, gT R j = some x → gT (pT R k v) j = some x := fun j x hx => by
    rw [gT_put]
    by_cases e : j = k
    · subst e
      have := h _ _ hx
      rw [hv] at this
      rw [if_pos rfl, Option.some.inj this]
    · rw [if_neg e]; exact hx
  refine ⟨mono, fun j r hj => ?_⟩
  rw [gT_put] at hj
  by_cases e : j = k
  · subst e
    rw [if_pos rfl] at hj
    cases hj
    exact mxs_mono (fun o x _ => mono o x) hv
  · rw [if_neg e] at hj
    exact mxs_mono (fun o x _ => mono o x) (h _ _ hj)
theorem Cl.uni {T : Tab α} {R S : List (α × Nat)} (hR : Cl T R) (hS : Cl T S) (hk : ∀ k x, gT R k = some x → ∃ y, gT S k = some y) : ∀ (n : Nat) (k : α) (r : Nat), r < n → gT R k = some r → gT S k = some r := by
  intro n
  induction n with
  | zero => intro k r h; (clear hR hS hk; omega)
  | succ n ih =>
    intro k r hr h
    obtain ⟨y, hy⟩ := hk k r h
    have h1 := hR k r h
    have h2 := hS k y hy
    have h3 : mxs S (oth T k) = some r := by
      refine mxs_mono (fun o x ho hx => ?_) h1
      obtain ⟨x', hx', hlt⟩ := mxs_in h1 ho
      rw [hx] at hx'; cases hx'
      exact ih o x (by (clear hR hS hk ih h hy h1 h2 ho hx; omega)) hx
    rw [h2] at h3; cases h3
    exact hy
noncomputable def Kind (T : Tab α) (k : α) : Prop := k ∈ T.map (·.1) ∨ ∃ e, e ∈ T ∧ k ∈ e.2
structure RankOk (T : Tab α) (R : List (α × Nat)) : Prop where
  nd : (R.map (·.1)).Nodup
  cl : Cl T R
  ks : ∀ k, k ∈ R.map (·.1) ↔ Kind T k
theorem RankOk.len {T : Tab α} {R S : List (α × Nat)} (h : RankOk T R) (g : RankOk T S) : R.length = S.length := by
  have := nd_len h.nd g.nd fun x => (h.ks x).trans (g.ks x).symm
  simpa using this
theorem RankOk.same {T : Tab α} {R S : List (α × Nat)} (h : RankOk T R) (g : RankOk T S) {k : α} {r : Nat} (e : gT R k = some r) : gT S k = some r :=
  h.cl.uni g.cl (fun j x hx => gT_some ((g.ks j).mpr ((h.ks j).mp (gT_key hx)))) (r + 1) k r (Nat.lt_succ_self _) e
noncomputable def Edge (T : Tab α) (x y : α) : Prop := ∃ L, gT T x = some L ∧ y ∈ L
noncomputable def Ch (T : Tab α) : α → List α → α → Prop
  | x, [], z => Edge T x z
  | x, y :: ys, z => Edge T x y ∧ Ch T y ys z
theorem Ch.snoc {T : Tab α} : ∀ {x : α} {ys : List α} {y z : α}, Ch T x ys y → Edge T y z → Ch T x (ys ++ [y]) z
  | _, [], _, _, h, e => ⟨h, e⟩
  | _, _ :: _, _, _, h, e => ⟨h.1, Ch.snoc h.2 e⟩
theorem Ch.at {T : Tab α} : ∀ {x : α} {ys : List α} {z : α}, Ch T x ys z → ∀ (i : Nat) (a b : α), (x :: ys)[i]? = some a → (ys ++ [z])[i]? = some b → Edge T a b
  | x, [], z, h, 0, a, b, e1, e2 => by cases e1; cases e2; exact h
  | x, [], z, h, i + 1, a, b, e1, e2 => by simp at e1
  | x, y :: ys, z, h, 0, a, b, e1, e2 => by cases e1; cases e2; exact h.1
  | x, y :: ys, z, h, i + 1, a, b, e1, e2 => by
    refine Ch.at h.2 i a b ?_ ?_
    · simpa using e1
    · simpa using e2
theorem Ch.falls {T : Tab α} {R : List (α × Nat)} (hR : Cl T R) : ∀ {x : α} {ys : List α} {z : α} {r : Nat}, Ch T x ys z → gT R x = some r → ∃ s, gT R z = some s ∧ s < r
  | x, [], z, r, ⟨L, hL, hz⟩, hx => by
    have := hR _ _ hx
    unfold oth at this
    rw [hL] at this
    exact mxs_in this hz
  | x, y :: ys, z, r, ⟨⟨L, hL, hy⟩, h⟩, hx => by
    have := hR _ _ hx
    unfold oth at this
    rw [hL] at this
    obtain ⟨s, hs, hlt⟩ := mxs_in this hy
    obtain ⟨t, ht, hlt2⟩ := Ch.falls hR h hs
    exact ⟨t, ht, by (clear hR hL hy h hx this hs ht; omega)⟩
theorem RankOk.noRing {T : Tab α} {R : List (α × Nat)} (h : RankOk T R) {c : α} {ys : List α} (g : Ch T c ys c) : False := by
  have hc : c ∈ T.map (·.1) := by
    cases ys with
    | nil => obtain ⟨L, hL, _⟩ := g; exact gT_key hL
    | cons y ys => obtain ⟨⟨L, hL, _⟩, _⟩ := g; exact gT_key hL
  obtain ⟨r, hr⟩ := gT_some ((h.ks c).mpr (.inl hc))
  obtain ⟨s, hs, hlt⟩ := Ch.falls h.cl g hr
  rw [hr] at hs; cases hs
  (clear h g hc hr; omega)
noncomputable def Stk (T : Tab α) (R : List (α × Nat)) : Option α → List α → List (List α) → Prop
  | _, [], [] => True
  | c, k :: w, l :: ls => ∃ L, gT T k = some L ∧ (∀ o, o ∈ L → o ∈ l ∨ (∃ x, gT R o = some x) ∨ c = some o) ∧ (∀ o, o ∈ l → o ∈ L) ∧ (∀ o, c = some o → o ∈ L) ∧ Stk T R (some k) w ls
  | _, _, _ => False
theorem Stk.mono {T : Tab α} {R S : List (α × Nat)} (hm : ∀ j x, gT R j = some x → gT S j = some x) : ∀ {c : Option α} {w : List α} {ls : List (List α)}, Stk T R c w ls → Stk T S c w ls
  | _, [], [], _ => trivial
  | _, [], _ :: _, h => h.elim
  | _, _ :: _, [], h => h.elim
  | _, _ :: _, _ :: _, ⟨L, h1, h2, h3, h4, h5⟩ => ⟨L, h1, fun o ho => by
      rcases h2 o ho with z | ⟨x, z⟩ | z
      · exact .inl z
      · exact .inr (.inl ⟨x, hm _ _ z⟩)
      · exact .inr (.inr z), h3, h4, Stk.mono hm h5⟩
theorem Stk.came {T : Tab α} {R : List (α × Nat)} {k : α} {r : Nat} (hk : gT R k = some r) : ∀ {w : List α} {ls : List (List α)}, Stk T R (some k) w ls → Stk T R none w ls
  | [], [], _ => trivial
  | [], _ :: _, h => h.elim
  | _ :: _, [], h => h.elim
  | _ :: _, _ :: _, ⟨L, h1, h2, h3, h4, h5⟩ => ⟨L, h1, fun o ho => by
      rcases h2 o ho with z | z | z
      · exact .inl z
      · exact .inr (.inl z)
      · cases z; exact .inr (.inl ⟨r, hk⟩), h3, (fun o z => by cases z), h5⟩
theorem Stk.keys {T : Tab α} {R : List (α × Nat)} : ∀ {c : Option α} {w : List α} {ls : List (List α)}, Stk T R c w ls → ∀ k, k ∈ w → k ∈ T.map (·.1)
  | _, [], _, _, _, h => by cases h
  | _, _ :: _, [], h, _, _ => h.elim
  | _, k :: w, _ :: _, ⟨L, h1, _, _, _, h5⟩, j, hj => by
    rcases List.mem_cons.mp hj with rfl | hj
    · exact gT_key h1
    · exact Stk.keys h5 j hj
theorem nd_rev {l : List α} (h : l.Nodup) : l.reverse.Nodup := List.pairwise_reverse.mpr (h.imp fun h => Ne.symm h)
theorem Stk.pop {T : Tab α} {R : List (α × Nat)} {k : α} {w : List α} {ls : List (List α)} (hR : Cl T R) (h : Stk T R none (k :: w) ([] :: ls)) : ∃ L v, gT T k = some L ∧ mxs R L = some v ∧ Cl T (pT R k v) ∧ (∀ j x, gT R j = some x → gT (pT R k v) j = some x) ∧ Stk T (pT R k v) none w ls := by
  obtain ⟨L, h1, h2, _, _, h5⟩ := h
  obtain ⟨v, hv⟩ := mxs_all (R := R) (l := L) fun o ho => by
    rcases h2 o ho with z | z | z
    · cases z
    · exact z
    · cases z
  obtain ⟨hm, hc⟩ := hR.put (k := k) (v := v) (by unfold oth; rw [h1]; exact hv)
  exact ⟨L, v, h1, hv, hc, hm, (h5.mono hm).came (r := v) (by rw [gT_put, if_pos rfl])⟩
theorem Stk.skip {T : Tab α} {R : List (α × Nat)} {k o : α} {l : List α} {w : List α} {ls : List (List α)} {x : Nat} (h : Stk T R none (k :: w) ((o :: l) :: ls)) (ho : gT R o = some x) : Stk T R none (k :: w) (l :: ls) := by
  obtain ⟨L, h1, h2, h3, h4, h5⟩ := h
  refine ⟨L, h1, fun p hp => ?_, fun p hp => h3 p (List.mem_cons_of_mem _ hp), h4, h5⟩
  rcases h2 p hp with z | z | z
  · rcases List.mem_cons.mp z with rfl | z
    · exact .inr (.inl ⟨x, ho⟩)
    · exact .inl z
  · exact .inr (.inl z)
  · cases z
theorem Stk.push {T : Tab α} {R : List (α × Nat)} {k o : α} {l L' : List α} {w : List α} {ls : List (List α)} (h : Stk T R none (k :: w) ((o :: l) :: ls)) (hL : gT T o = some L') {m : List α} (hm : ∀ x, x ∈ m ↔ x ∈ L') : Stk T R none (o :: k :: w) (m :: l :: ls) := by
  obtain ⟨L, h1, h2, h3, h4, h5⟩ := h
  refine ⟨L', hL, fun p hp => .inl ((hm p).mpr hp), fun p hp => (hm p).mp hp, (fun p z => by cases z), L, h1, fun p hp => ?_, fun p hp => h3 p (List.mem_cons_of_mem _ hp), fun p z => ?_, h5⟩
  · rcases h2 p hp with z | z | z
    · rcases List.mem_cons.mp z with rfl | z
      · exact .inr (.inr rfl)
      · exact .inl z
    · exact .inr (.inl z)
    · cases z
  · cases z; exact h3 o List.mem_cons_self
theorem Stk.edge {T : Tab α} {R : List (α × Nat)} {k o : α} {l : List α} {w : List α} {ls : List (List α)} {c : Option α} (h : Stk T R c (k :: w) ((o :: l) :: ls)) : Edge T k o := by
  obtain ⟨L, h1, _, h3, _⟩ := h
  exact ⟨L, h1, h3 o List.mem_cons_self⟩
theorem Stk.ch {T : Tab α} {R : List (α × Nat)} {x : α} {b : List α} : ∀ {a : List α} {ls : List (List α)} {z : α}, Stk T R (some z) (a ++ x :: b) ls → Ch T x a.reverse z
  | [], [], _, h => h.elim
  | [], _ :: _, _, ⟨L, h1, _, _, h4, _⟩ => ⟨L, h1, h4 _ rfl⟩
  | _ :: _, [], _, h => h.elim
  | y :: a, _ :: _, z, ⟨L, h1, _, _, h4, h5⟩ => by
    rw [List.reverse_cons]
    exact (Stk.ch h5).snoc ⟨L, h1, h4 _ rfl⟩
theorem Stk.ring {T : Tab α} {R : List (α × Nat)} {o : α} {l : List α} {ls : List (List α)} {a b : List α} (h : Stk T R none (a ++ o :: b) ((o :: l) :: ls)) : Ch T o a.reverse o := by
  cases a with
  | nil =>
    obtain ⟨L, h1, _, h3, _⟩ := h
    exact ⟨L, h1, h3 o List.mem_cons_self⟩
  | cons k a =>
    have e := Stk.edge h
    obtain ⟨L, h1, _, _, _, h5⟩ := h
    rw [List.reverse_cons]
    exact (Stk.ch h5).snoc e
noncomputable def wt (p : α → Bool) : Tab α → Nat
  | [] => 0
  | e :: T => (if p e.1 = true then e.2.length + 2 else 0) + wt p T
theorem wt_mono {p q : α → Bool} (h : ∀ x, q x = true → p x = true) : ∀ T : Tab α, wt q T ≤ wt p T
  | [] => Nat.le_refl _
  | e :: T => by
    have := wt_mono h T
    unfold wt
    by_cases hq : q e.1 = true
    · rw [if_pos hq, if_pos (h _ hq)]; (clear h hq; omega)
    · rw [if_neg hq]; split <;> (clear h hq; omega)
theorem wt_drop {p q : α → Bool} {k : α} (h : ∀ x, q x = true → p x = true) (hp : p k = true) (hq : q k = false) : ∀ {T : Tab α} {L : List α}, gT T k = some L → wt q T + (L.length + 2) ≤ wt p T
  | [], _, e => by cases e
  | e :: T, L, hL => by
    by_cases ek : e.1 = k
    · rw [gT_pos ek] at hL
      cases hL
      have := wt_mono h T
      unfold wt
      rw [ek, if_pos hp, hq, if_neg (by decide)]
      (clear h hp hq ek; omega)
    · rw [gT_neg ek] at hL
      have ih := wt_drop h hp hq hL
      unfold wt
      by_cases hqe : q e.1 = true
      · rw [if_pos hqe, if_pos (h _ hqe)]; (clear h hp hq hL ek hqe; omega)
      · rw [if_neg hqe]; split <;> (clear h hp hq hL ek hqe; omega)
noncomputable def lens : List (List α) → Nat
  | [] => 0
  | l :: ls => l.length + 1 + lens ls
noncomputable def open_ (R : List (α × Nat)) (w : List α) (k : α) : Bool := !(gT R k).isSome && !(w.contains k)
noncomputable def meas (T : Tab α) (R : List (α × Nat)) (w : List α) (ls : List (List α)) : Nat := wt (open_ R w) T + lens ls
theorem meas_pop {T : Tab α} {R : List (α × Nat)} {k : α} {v : Nat} {w : List α} {ls : List (List α)} (hm : ∀ j x, gT R j = some x → gT (pT R k v) j = some x) : meas T (pT R k v) w ls < meas T R (k :: w) ([] :: ls) := by
  have : wt (open_ (pT R k v) w) T ≤ wt (open_ R (k :: w)) T := wt_mono (fun x hx => by
    unfold open_ at hx ⊢
    rw [Bool.and_eq_true] at hx ⊢
    obtain ⟨h1, h2⟩ := hx
    have hne : x ≠ k := fun e => by
      rw [e, gT_put, if_pos rfl] at h1; cases h1
    refine ⟨?_, ?_⟩
    · rw [gT_put, if_neg hne] at h1; exact h1
    · simp only [List.contains_cons, Bool.not_or, Bool.and_eq_true] at h2 ⊢
      exact ⟨by simpa using hne, h2⟩) T
  unfold meas
  show wt (open_ (pT R k v) w) T + lens ls < wt (open_ R (k :: w)) T + (0 + 1 + lens ls)
  (clear hm; omega)
theorem meas_skip {T : Tab α} {R : List (α × Nat)} {o : α} {l : List α} {w : List α} {ls : List (List α)} : meas T R w (l :: ls) < meas T R w ((o :: l) :: ls) := by
  unfold meas
  show wt (open_ R w) T + (l.length + 1 + lens ls) < wt (open_ R w) T + ((o :: l).length + 1 + lens ls)
  rw [List.length_cons]; omega
theorem meas_push {T : Tab α} {R : List (α × Nat)} {o : α} {l m L : List α} {w : List α} {ls : List (List α)} (h1 : gT R o = none) (h2 : ¬ o ∈ w) (hL : gT T o = some L) (hm : m.length = L.length) : meas T R (o :: w) (m :: l :: ls) < meas T R w ((o :: l) :: ls) := by
  have : wt (open_ R (o :: w)) T + (L.length + 2) ≤ wt (open_ R w) T := wt_drop (k := o) (fun x hx => by
    unfold open_ at hx ⊢
    rw [Bool.and_eq_true] at hx ⊢
    refine ⟨hx.1, ?_⟩
    have := hx.2
    simp only [List.contains_cons, Bool.not_or, Bool.and_eq_true] at this
    exact this.2) (by unfold open_; rw [h1]; simpa using h2) (by unfold open_; simp) hL
  unfold meas
  show wt (open_ R (o :: w)) T + (m.length + 1 + (l.length + 1 + lens ls)) < wt (open_ R w) T + ((o :: l).length + 1 + lens ls)
  rw [List.length_cons]; (clear h1 h2 hL; omega)
end
end Nm
namespace L2
open PySem PySem.Spec PyProof.Rows Nm
end L2
namespace L2
open PySem PySem.Spec PyProof.Rows Nm
theorem atI0 {α : Type} (x : α) (xs : List α) : atI (x :: xs) 0 = some x := by
  simp [atI, ixN]
theorem atI1 {α : Type} (x y : α) (xs : List α) : atI (x :: y :: xs) 1 = some y := by
  have h : (1 : Int) < ((xs.length : Int) + 1 + 1) := by omega
  simp [atI, ixN, h]
theorem int_flat (i : Int) : (W.int i).flat = true := by simp [W.flat]
theorem int_dep (i : Int) : (W.int i).dep = 0 := by simp [W.dep]
theorem int_eq (i j : Int) : (W.int i).eq (W.int j) = (i == j) := rfl
theorem nil_flat : (W.tup []).flat = true := by simp [W.flat, W.flats]
theorem nil_dep : (W.tup []).dep = 1 := by simp [W.dep, W.deps]
theorem beqZ (i j : Int) : (i == j) = decide (i = j) := by
  by_cases h : i = j <;> simp [h]
theorem GLe.done {G : Gp} {q : Gp → Prop} (h : q G) : ∃ G0, GLe G0 G ∧ q G0 := ⟨G, GLe.refl G, h⟩
theorem loopW_ind {C : Gp → Prop} {g : WG} {tb : WS} {d : WEnds} (Iv : List W → WSt → Gp → Prop) (stop : ∀ τ G, Iv [] τ G → C G ∧ d.nx τ G)
    (step : ∀ w ws τ G (k : WSt → Gp → Prop), Iv (w :: ws) τ G → (∀ τ3 G3, Iv ws τ3 G3 → k τ3 G3) → C G ∧ g w τ G fun τ2 G2 => tb { d with nx := k, ct := k, bk := d.nx } τ2 G2) : ∀ ws τ G, Iv ws τ G → loopW C g tb d ws τ G
  | [], τ, G, h => stop τ G h
  | w :: ws, τ, G, h => step w ws τ G _ h fun τ3 G3 h3 => loopW_ind Iv stop step ws τ3 G3 h3
end L2
namespace L2
open PySem PySem.Spec PyProof.Rows Nm
theorem cut_from (xs : List W) (k : Nat) : cutW xs (some (k : Int)) none = xs.drop k := by
  unfold cutW
  rw [HT.sIx_none, HT.sIx_nat]
  rcases Nat.le_total k xs.length with h | h
  · rw [Nat.min_eq_left h]
    exact List.take_of_length_le (by rw [List.length_drop]; (clear h; omega))
  · rw [Nat.min_eq_right h, List.drop_length, List.drop_of_length_le h]
    simp
theorem atI_neg1 {xs : List W} {w : W} (h : xs[xs.length - 1]? = some w) : atI xs (-1) = some w := by
  have hl : xs.length - 1 < xs.length := (List.getElem?_eq_some_iff.mp h).1
  unfold atI ixN
  rw [if_neg (by (clear h hl; omega)), if_pos (by (clear h; omega))]
  show xs[((-1 : Int) + (xs.length : Int)).toNat]? = some w
  rw [← h]
  congr 1
  (clear h; omega)
end L2
namespace L2
open PySem PySem.Spec PyProof.Rows Nm
noncomputable def Df (K : PySem.W.Frag) (mg : Str → Option Value) (x : Str) (st : Stmt) (ps : List Str) : Prop := ∃ (f : Addr) (fd : FuncData), Fun K x x st f fd ∧ Binds K fd ps [] ∧ mg x = some (.ref f)
theorem Df.fx {P : Program} {w : World} {K : PySem.W.Frag} {mg : Str → Option Value} {base : Heap} {x : Str} {st : Stmt} {ps : List Str} {k : Nat} {sp : WSp} (D : Df K mg x st ps) (h : ∀ (f : Addr) (fd : FuncData), Fun K x x st f fd → WFn P w K mg base k f fd ps sp) : Fx P w K mg base x ps k sp := by
  obtain ⟨f, fd, F, b, m⟩ := D
  exact ⟨f, fd, h f fd F, m, F.kp, b⟩
noncomputable def spLaw : WSp := fun ws _ q _ => ∃ ns : List Int, ws = [.scr ns] ∧ ns.length ≤ 63 ∧ ∀ G', q (.bl true) G'
theorem scr_of {K : PySem.W.Frag} {H : Hp} {a : Addr} {ns : List Int} (hO : Only H) (hS : SqL K H a (ns.map V.int)) : Scr K H a ns := by
  rcases hS with (h | h) | h
  · rcases hO a with z | ⟨o, xs, z⟩
    · rw [z] at h; cases h
    · rw [z] at h; cases h
  · exact .inl h
  · exact .inr h
theorem law_start {K : PySem.W.Frag} {H : Hp} {a : Addr} {ns : List Int} (hO : Only H) (hS : SqL K H a (ns.map V.int)) (hl : ns.length ≤ 63) : LSp K spLaw [.ref a] H (fun v _ => v = .bl true) fun _ _ _ => False :=
  ⟨[.scr ns], fun _ => none, fun w _ => w = .bl true, fun _ _ => False, .cons (.scr (scr_of hO hS)) .nil, fun _ _ e => (by cases e), ⟨ns, rfl, hl, fun _ => rfl⟩, fun v H1 w G1 _ r _ e => (by subst e; cases r; rfl), fun _ _ _ _ _ _ z => z⟩
theorem mod_in {i j : Int} (h : 0 < j) : 0 ≤ i % j ∧ i % j < j := ⟨Int.emod_nonneg _ (by omega), Int.emod_lt_of_pos _ h⟩
theorem ints_at {ns : List Int} {i : Int} (h0 : 0 ≤ i) (h1 : i < ns.length) : ∃ n, atI ns i = some n := by
  have hl : i.toNat < ns.length := by omega
  have e : ((i.toNat : Nat) : Int) = i := Int.toNat_of_nonneg h0
  have q := atI_nat (List.getElem?_eq_getElem hl)
  rw [e] at q
  exact ⟨_, q⟩
theorem cpow10 (j : Int) : CPow 10 j = (0 ≤ j ∧ j ≤ 1000000) := by
  unfold CPow
  have : (10 : Int).natAbs < 2 ^ 64 := by decide
  simp [this]
theorem seqU {t u : WS} {d : WEnds} {τ : WSt} {G : Gp} (h : ∀ U : WS, U = u → t { d with nx := U d } τ G) : wSeq t u d τ G := h u rfl
theorem updG_ne' {G : Gp} {a b : Addr} {g g' : GO} (h : G b = some g') (ha : G a = none) : updG G a g b = some g' := by
  rw [updG_ne (fun z => by rw [z, ha] at h; cases h)]; exact h
theorem tyN_int (G : Gp) (i : Int) : tyN G (.int i) = some "int" := rfl
theorem tyN_bl (G : Gp) (b : Bool) : tyN G (.bl b) = some "bool" := rfl
theorem tyN_tup (G : Gp) (ws : List W) : tyN G (.tup ws) = some "tuple" := rfl
theorem tyN_non (G : Gp) : tyN G .non = some "NoneType" := rfl
theorem subN_ii : subN "int" "int" = true := by decide
theorem subN_ib : subN "int" "bool" = false := by decide
theorem subN_it : subN "int" "tuple" = false := by decide
theorem subN_bi : subN "bool" "int" = true := by decide
theorem subN_bb : subN "bool" "bool" = true := by decide
theorem subN_bt : subN "bool" "tuple" = false := by decide
theorem subN_tt : subN "tuple" "tuple" = true := by decide
theorem subN_ti : subN "tuple" "int" = false := by decide
theorem subN_tb : subN "tuple" "bool" = false := by decide
theorem subN_ll : subN "list" "list" = true := by decide
theorem subN_nt : subN "NoneType" "tuple" = false := by decide
theorem cast_0 : ((0 : Nat) : Int) = 0 := rfl
theorem cast_1 : ((1 : Nat) : Int) = 1 := rfl
theorem cast_2 : ((2 : Nat) : Int) = 2 := rfl
theorem cast_3 : ((3 : Nat) : Int) = 3 := rfl
theorem whileW {c : WT} {tb : WS} {d : WEnds} {τ : WSt} {G : Gp} (I : Nat → WSt → Gp → Prop) (h0 : ∃ m, I m τ G)
    (h : ∀ m τ G, I m τ G → ∀ B : WS, B = tb → c τ G fun b G1 => if b = true then ∃ N : WSt → Gp → Prop, (∀ τ1 G1, N τ1 G1 → ∃ m1, m1 < m ∧ I m1 τ1 G1) ∧ B { d with nx := N, ct := N, bk := d.nx } τ G1 else d.nx τ G1) : wWhile c tb d τ G :=
  ⟨I, h0, fun m τ G hI => h m τ G hI tb rfl⟩
theorem ifU {c : WT} {t u : WS} {d : WEnds} {τ : WSt} {G : Gp} (h : ∀ T U : WS, T = t → U = u → c τ G fun b G1 => if b = true then T d τ G1 else U d τ G1) : wIf c t u d τ G := h t u rfl rfl
theorem atI2 {α : Type} (x y v : α) (xs : List α) : atI (x :: y :: v :: xs) 2 = some v := atI_nat (j := 2) rfl
theorem upW_drop (n i : Nat) (h : i < n) : (upW n).drop i = .int (i : Int) :: (upW n).drop (i + 1) := by
  have hl : i < (upW n).length := by simp [upW, h]
  rw [List.drop_eq_getElem_cons hl]
  congr 1
  simp [upW]
theorem loop_up {C : Gp → Prop} {g : WG} {tb : WS} {d : WEnds} {τ : WSt} {G : Gp} (n : Nat) (Iv : Nat → WSt → Gp → Prop) (h0 : Iv 0 τ G) (stop : ∀ τ G, Iv n τ G → C G ∧ d.nx τ G)
    (step : ∀ (i : Nat) τ G (k : WSt → Gp → Prop), i < n → Iv i τ G → (∀ τ3 G3, Iv (i + 1) τ3 G3 → k τ3 G3) → C G ∧ g (.int (i : Int)) τ G fun τ2 G2 => tb { d with nx := k, ct := k, bk := d.nx } τ2 G2) : loopW C g tb d (upW n) τ G := by
  refine loopW_ind (fun ws τ G => ∃ i, i ≤ n ∧ ws = (upW n).drop i ∧ Iv i τ G) ?_ ?_ _ _ _ ⟨0, Nat.zero_le _, rfl, h0⟩
  · rintro τ G ⟨i, hi, hw, hI⟩
    have : i = n := by
      rcases Nat.lt_or_ge i n with k | k
      · rw [upW_drop n i k] at hw; cases hw
      · (clear h0 stop step hw hI; omega)
    subst this
    exact stop τ G hI
  · rintro w ws τ G k ⟨i, hi, hw, hI⟩ hk
    have hlt : i < n := by
      rcases Nat.lt_or_ge i n with j | j
      · exact j
      · rw [List.drop_of_length_le (by simp [upW]; assumption)] at hw; cases hw
    rw [upW_drop n i hlt] at hw
    cases hw
    exact step i τ G k hlt hI fun τ3 G3 h3 => hk τ3 G3 ⟨i + 1, hlt, rfl, h3⟩
noncomputable def mapP (p : O → Int → Bool) (f : O → Int → W) : O → List W
  | .z => []
  | .c e n r => if p e n then f e n :: mapP p f r else mapP p f r
end L2
namespace L2
open PySem PySem.Spec PyProof.Rows Nm
theorem GLe.put {G G1 : Gp} {p : Addr} {g : GO} (h : GLe G G1) (hp : G p = none) : GLe G (updG G1 p g) := fun a u e => by
  have := h a u e
  unfold updG
  split
  · rename_i q; subst q; rw [hp] at e; cases e
  · exact this
theorem GLe.none {G G1 : Gp} {p : Addr} (h : GLe G G1) (hp : G1 p = none) : G p = none := by
  cases hh : G p with
  | none => rfl
  | some g => have := h _ _ hh; rw [hp] at this; cases this
end L2
namespace Nm
namespace O
end O
end Nm
namespace L2
open PySem PySem.Spec PyProof.Rows Nm
section
variable {P : Program} {w : World} {K : PySem.W.Frag} {mg : Str → Option Value} {base : Heap} {x : Str} {st : Stmt} {ps : List Str} {k : Nat} {sp : WSp}
end
end L2
namespace L2
open PySem PySem.Spec PyProof.Rows PySem.W
@[irreducible] def Cell (i : Int) : Prop := i.natAbs < 2 ^ 1048576
@[irreducible] def Wide (i : Int) : Prop := i.natAbs < 2 ^ 1048577
set_option exponentiation.threshold 500 in
noncomputable def CellM (i j : Int) : Prop := (Wide i ∧ j.natAbs < 2 ^ 4000) ∨ (i.natAbs < 2 ^ 4000 ∧ Wide j)
noncomputable def CMulC (i j : Int) : Prop := CMulB i j ∨ CellM i j
theorem CMulC.ok {i j : Int} (h : CMulC i j) : IntMulOk i j := by
  have key : ∀ {x y : Int}, Wide x → y.natAbs < 2 ^ 4000 → ¬ (((Builtin.Int.intBits x + Builtin.Int.intBits y : Int)) > bitsLine) := fun {x y} h1 h2 => by
    unfold Wide at h1
    have b1 := PyProof.Rows.intBits_le h1
    have b2 := PyProof.Rows.intBits_le h2
    have hb : (1053000 : Int) ≤ bitsLine := by decide
    (clear h h1 h2; omega)
  rcases h with h | ⟨h1, h2⟩ | ⟨h1, h2⟩
  · exact h.ok
  · have := key h1 h2
    unfold IntMulOk Builtin.Int.intTooBig
    simp [this]
  · have := key h2 h1
    rw [Int.add_comm] at this
    unfold IntMulOk Builtin.Int.intTooBig
    simp [this]
section
variable {X : Cx}
theorem op_mulC : OpR X (binaryOp .Mult) (rI CMulC fun i j => .int (i * j)) := opI fun _ _ _ _ _ _ _ hc q => mul_int q hc.ok
end
end L2
namespace L2
open PySem PySem.Spec PyProof.Rows
theorem Reps.rep {K : PySem.W.Frag} {H : Hp} {ws : List W} {vs : List V} (r : Reps K H ws vs) : ∀ k : Nat, Reps K H (List.replicate k ws).flatten (List.replicate k vs).flatten
  | 0 => .nil
  | k + 1 => by
    rw [List.replicate_succ, List.flatten_cons, List.replicate_succ, List.flatten_cons]
    exact r.append (Reps.rep r k)
section
variable {X : Cx}
noncomputable def vMulT : W2 := fun x y G q => match x, y with
  | .int i, .int j => CMulC i j ∧ q (.int (i * j)) G
  | .ref a, .int k => ∃ xs, G a = some (.lst xs) ∧ 0 ≤ k ∧ k ≤ 100000 ∧ xs.length * k.toNat ≤ 100000 ∧ ∀ p, G p = none → q (.ref p) (updG G p (.lst (List.replicate k.toNat xs).flatten))
  | .tup xs, .int k => xs ≠ [] ∧ 0 ≤ k ∧ k ≤ 100000 ∧ xs.length * k.toNat ≤ 100000 ∧ q (.tup (List.replicate k.toNat xs).flatten) G
  | _, _ => False
theorem q_mulT : QOp X (binaryOp .Mult) vMulT := by
  intro pins s σ H x y v u Q I rx ry ⟨wx, wy, G, q, r1, r2, g, h, hQ⟩
  cases r2 with
  | int k =>
    cases r1 with
    | int i => exact op_mulC pins s σ H _ _ v u Q I rx ry ⟨_, _, rfl, rfl, h.1, hQ _ H _ G (TLe.refl H) (.int _) g h.2⟩
    | ref a =>
      obtain ⟨xs, ea, h0, h1, hl, h⟩ := h
      obtain ⟨_, xs', ha, ra⟩ := g _ _ ea
      refine op_rep pins s σ H _ _ v u Q I rx ry ⟨_, _, _, rfl, rfl, ha, Int.le_trans (by decide) h0, Int.lt_of_le_of_lt h1 (by decide), by rw [← ra.length]; exact line_le hl, fun p hp => ?_⟩
      exact hQ _ _ _ _ (TLe.new hp _) (.ref p) (g.put (TLe.new hp _) (ra.rep _) (by rw [len_rep, Nat.mul_comm]; exact hl)) (h p (g.fresh hp))
    | @tup a ws xs ha ra =>
      obtain ⟨hne, h0, h1, hl, h⟩ := h
      refine op_repT pins s σ H _ _ v u Q I rx ry ⟨a, _, _, rfl, rfl, SqT.of ha, fun z => ?_, h0, h1, by rw [← ra.length]; exact line_le hl, fun e => ?_, fun _ p hp => ?_⟩
      · subst z
        cases ra
        exact hne rfl
      · subst e
        have e1 : ∀ zs : List W, (List.replicate (Int.toNat 1) zs).flatten = zs := fun zs => by simp
        rw [e1] at h
        exact hQ _ H _ G (TLe.refl H) (.tup ha ra) g h
      · exact hQ _ _ _ G (TLe.new hp _) (.tup upd_same ((ra.rep _).mono (TLe.new hp _))) (g.keep hp _) h
    | _ => exact False.elim h
  | _ => cases r1 <;> exact False.elim h
end
end L2
namespace L2
open PySem PySem.Spec PyProof.Rows
end L2
namespace Nm
namespace O
end O
end Nm
set_option linter.all false
set_option maxRecDepth 100000
namespace L2
open PySem PySem.Spec PyProof.Rows
section
variable {X : Cx}
noncomputable def vAddS : W2 := fun x y G q => match x, y with
  | .str a, .str b => a.length + b.length ≤ 100000 ∧ q (.str (a ++ b)) G
  | x, y => vAdd x y G q
theorem q_addS : QOp X (binaryOp .Add) vAddS := by
  intro pins s σ H x y v u Q I rx ry ⟨wx, wy, G, q, r1, r2, g, h, hQ⟩
  unfold vAddS at h
  split at h
  · cases r1
    cases r2
    exact op_add_str pins s σ H _ _ v u Q I rx ry ⟨_, _, rfl, rfl, line_le h.1, hQ _ H _ G (TLe.refl H) (.str _) g h.2⟩
  · exact q_add pins s σ H x y v u Q I rx ry ⟨wx, wy, G, q, r1, r2, g, h, hQ⟩
noncomputable def vMulS : W2 := fun x y G q => match x, y with
  | .str a, .int k => 0 ≤ k ∧ k ≤ 100000 ∧ a.length * k.toNat ≤ 100000 ∧ ∀ z : Str, z.length ≤ a.length * k.toNat → q (.str z) G
  | x, y => vMulT x y G q
theorem len_foldl (a : Array Nat) : ∀ (n : Nat) (b : Array Nat), (List.foldl (fun x1 x2 => x1 ++ x2) b (List.replicate n a)).size = b.size + a.size * n
  | 0, b => by simp
  | n + 1, b => by
    rw [List.replicate_succ, List.foldl_cons, len_foldl a n, Array.size_append, Nat.mul_succ]
    omega
theorem mul_len (x : Str) {n : Int} (h : 0 ≤ n) : (Txt.mul x n).length ≤ x.length * n.toNat := by
  unfold Txt.mul
  split
  · exact Nat.zero_le _
  · split
    · rename_i h1 h2
      have : 1 ≤ n.toNat := by (clear h h2; omega)
      exact Nat.le_mul_of_pos_right _ this
    · show Array.size _ ≤ x.cps.size * n.toNat
      rw [len_foldl]
      simp
theorem q_mulS : QOp X (binaryOp .Mult) vMulS := by
  intro pins s σ H x y v u Q I rx ry ⟨wx, wy, G, q, r1, r2, g, h, hQ⟩
  unfold vMulS at h
  split at h
  · rename_i a k
    obtain ⟨h0, h1, hl, h⟩ := h
    cases r1
    cases r2
    obtain ⟨t, rfl⟩ := rx
    obtain ⟨t', rfl⟩ := ry
    refine SB.mul ?_ fun t' tk => ⟨.str _, H, I.tok _, ⟨_, rfl⟩, hQ _ H _ G (TLe.refl H) (.str _) g (h _ (mul_len a h0))⟩
    have hk : (k.toNat : Int) = k := by (clear I g hQ hl h; omega)
    refine ⟨?_, fun h2 h3 => ?_, fun h2 h3 => ?_⟩
    · have e1 : decide (k < -(2 ^ 63 : Int)) = false := decide_eq_false (by (clear I g hQ hl h; omega))
      have e2 : decide (k ≥ 2 ^ 63) = false := decide_eq_false (by (clear I g hQ hl h e1; omega))
      rw [e1, e2, Bool.or_false]
    · have h4 : ((a.length * k.toNat : Nat) : Int) ≤ ((100000 : Nat) : Int) := Int.ofNat_le.mpr hl
      rw [Int.natCast_mul, hk] at h4
      have h5 : (a.length : Int) ≤ (2 ^ 63 - 1) / k := by
        rw [Int.le_ediv_iff_mul_le (by (clear I g hQ hl h h3 h4; omega))]
        exact Int.le_trans h4 (by decide)
      exact Int.not_lt.mpr h5
    · exact decide_eq_false (Nat.not_lt.mpr (line_le hl))
  · exact q_mulT pins s σ H x y v u Q I rx ry ⟨wx, wy, G, q, r1, r2, g, h, hQ⟩
noncomputable def rIxS3 : W2 := fun x y G q => match x, y with
  | .str z, .int i => z.length ≤ 100000 ∧ ∃ c, atI z.cps.toList i = some c ∧ q (.str ⟨#[c]⟩) G
  | x, y => rIx3 x y G q
theorem q_ixS : QIx X rIxS3 := by
  intro value slice pins s σ H x y v u Q I rx ry ⟨wx, wy, G, q, r1, r2, g, h, hQ⟩ hsl
  unfold rIxS3 at h
  split at h
  · obtain ⟨hz, c, e, h⟩ := h
    cases r1
    cases r2
    exact ix_str value slice pins s σ H _ _ v u Q I rx ry ⟨_, _, c, rfl, rfl, line_le hz, e, hQ _ H _ G (TLe.refl H) (.str _) g h⟩ hsl
  · exact q_ix value slice pins s σ H x y v u Q I rx ry ⟨wx, wy, G, q, r1, r2, g, h, hQ⟩ hsl
noncomputable def rSlS : W3 := fun x lo hi G q => match x with
  | .str z => z.length ≤ 100000 ∧ ∀ y : Str, y.length ≤ z.length → q (.str y) G
  | x => rSl3 x lo hi G q
theorem part_of {vl : Value} {lo : Option Int} (p : IsPart vl lo) : ∃ l : Option (Int × Tok), vl = partValue l := by
  cases p with
  | none => exact ⟨none, rfl⟩
  | int i t => exact ⟨some (i, t), rfl⟩
theorem q_slS : SlR X (LSl X.K rSlS) := by
  intro pins s σ H x v vl vu lo hi sl Q I rx hs pl pu ⟨w, G, q, r, g, h, hQ⟩
  unfold rSlS at h
  split at h
  · rename_i z
    obtain ⟨hz, h⟩ := h
    cases r
    obtain ⟨t, rfl⟩ := rx
    refine ⟨"str", _, slot_str_getitem.lookup, typeIs_str s z t, ?_⟩
    obtain ⟨l, rfl⟩ := part_of pl
    obtain ⟨u, rfl⟩ := part_of pu
    refine wpAny_getItem_str_slice (l := l) (u := u) (st := none) ?_ rfl ?_
    · obtain ⟨o, e1, e2, e3⟩ := hs
      exact ⟨o, e1, e2, e3⟩
    · have hle := Txt.slice_le z (l.map (·.1)) (u.map (·.1))
      unfold sliceMade
      split
      · exact ⟨.str z, H, I, ⟨_, rfl⟩, hQ _ H _ G (TLe.refl H) (.str _) g (h _ (Nat.le_refl _))⟩
      · rename_i hn
        unfold Txt.slice at hle
        split at hle
        · rename_i hy
          exact absurd hy hn
        · exact ⟨Nat.le_trans hle (line_le hz), .str _, H, I.tok _, ⟨_, rfl⟩, hQ _ H _ G (TLe.refl H) (.str _) g (h _ hle)⟩
  · exact q_sl pins s σ H x v vl vu lo hi sl Q I rx hs pl pu ⟨w, G, q, r, g, h, hQ⟩
noncomputable def wSlS (te : WE) (tl th : WO) : WE := fun τ G q => te τ G fun x G1 => tl τ G1 fun l G2 => th τ G2 fun u G3 => rSlS x l u G3 q
theorem qe_sliceS {e : Expr} {lo hi : Option Expr} {te : WE} {tl th : WO} {pos p2 : Pos} (he : QE X e te) (hl : QO X lo tl) (hu : QO X hi th) : QE X (.Subscript e (.Slice lo hi none p2) pos) (wSlS te tl th) :=
  (pe_slice q_slS he hl hu).imp fun σ H Q z0 => z0.el fun τ G q hs hg ht hQ => ⟨τ, G, _, hs, hg, ht, fun v H1 w G1 t1 r1 g1 q1 => ⟨τ, G1, _, hs.mono t1, g1, q1, fun l H2 G2 t2 g2 q2 =>
    ⟨τ, G2, _, (hs.mono t1).mono t2, g2, q2, fun u H3 G3 t3 g3 q3 => ⟨w, G3, q, (r1.mono t2).mono t3, g3, q3, fun v4 H4 w4 G4 t4 => hQ v4 H4 w4 G4 (((t1.trans t2).trans t3).trans t4)⟩⟩⟩⟩
noncomputable def cLenS : List W → Gp → WK → Prop := fun ws G q => match ws with
  | [.str z] => z.length ≤ 100000 ∧ q (.int z.length) G
  | ws => cLen ws G q
theorem q_lenS : QCall X (.builtin "len") cLenS := by
  intro pins s σ H xs us Q I r ⟨ws, G, q, rw', g, h, hQ⟩
  unfold cLenS at h
  split at h
  · obtain ⟨v, rfl, r1⟩ := rw'.one
    cases r1
    exact call_len_str pins s σ H _ us Q I r ⟨_, rfl, line_le h.1, hQ _ H _ G (TLe.refl H) (.int _) g h.2⟩
  · exact q_len pins s σ H xs us Q I r ⟨ws, G, q, rw', g, h, hQ⟩
noncomputable def rNinS : W2 := fun x y G q => match x, y with
  | .str a, .str b => ∃ c, a = ⟨#[c]⟩ ∧ q (.bl (!(decide (c ∈ b.cps.toList)))) G
  | _, _ => False
noncomputable def Its (x : Str) : It := ⟨fun i _ => i < x.cps.toList.length, fun i H y H' => H' = H ∧ ∃ c, x.cps.toList[i]? = some c ∧ y = .str ⟨#[c]⟩, fun i _ => x.cps.toList.length ≤ i⟩
theorem walks_str {P : Program} {w : World} {A : Around} (hA : A.handled = none) (it : Addr) (x : Str) (t : Tok) : Walks P w A it [it] [it] x.cps.size (SignAt x) (fun i h => h.IsStrIter it (strIterType x) x t i) := by
  unfold strIterType
  split
  · exact Walks.strAscii hA it x t
  · exact Walks.strWide hA it x t
theorem turn_str {P : Program} {w : World} {K : PySem.W.Frag} {tg : Expr} (it : Addr) (x : Str) (t : Tok) : Turn P w K tg (Its x) [it] it (fun i h => i ≤ x.cps.size ∧ h.IsStrIter it (strIterType x) x t i) where
  mem := by simp
  obj := fun i h st b hb => by
    have e : b = it := by simpa using hb
    subst e
    obtain ⟨_, o, e1, e2, e3⟩ := st
    exact ⟨_, e1, fun v z => by rw [e3] at z; cases z⟩
  keep := fun i h h' st k => by
    obtain ⟨hi, o, e1, e2, e3⟩ := st
    exact ⟨hi, o, k it (by simp) _ e1, e2, e3⟩
  item := by
    intro X hP hw hK hc i pins s σ H E I hf st hg
    subst hP hw hK
    obtain ⟨f0, f1, f2, f3, f4, f5⟩ := hf it (by simp)
    have hg' : i < x.cps.size := by
      have h : i < x.cps.toList.length := hg
      simpa using h
    refine (walks_str (I.ok.hd hc) it x t).item i s _ _ hg' st.2 fun v h' tk hv st' kk => ?_
    obtain ⟨c, u, e, rfl⟩ := hv
    have I1 : Inv X pins σ H { s with heap := h', toks := tk } := I.turned (fun b o hb e => kk b o (by simpa using hb) e) f0 f1 f3 f4 f5
    obtain ⟨o, e1, e2, e3⟩ := id st'
    refine ⟨_, rfl, go_of (s := { s with heap := h', toks := tk }) (n := strIterType x) e1 e2 e3 ?_ ⟨.str ⟨#[c]⟩, H, I1, ⟨u, rfl⟩, ⟨rfl, c, by simpa using e, rfl⟩, ⟨hg', st'⟩, fun b hb => (hf b hb).1⟩⟩
    unfold strIterType
    split <;> decide
  done := by
    intro X hP hw hK hc i pins s σ H E I hf st hg
    subst hP hw hK
    obtain ⟨f0, f1, f2, f3, f4, f5⟩ := hf it (by simp)
    have hg' : x.cps.size ≤ i := by
      have h : x.cps.toList.length ≤ i := hg
      simpa using h
    have hi : i = x.cps.size := Nat.le_antisymm st.1 hg'
    subst hi
    exact (walks_str (I.ok.hd hc) it x t).done s _ _ st.2 fun h' tk kk => ⟨rfl, I.turned (t' := tk) (fun b o hb e => kk b o (by simpa using hb) e) f0 f1 f3 f4 f5⟩
  self := fun A i s Q E st h => by
    obtain ⟨_, o, e1, e2, e3⟩ := st
    unfold strIterType at e2
    split at e2
    · exact wpAny_pyIter_striter_ascii ⟨o, e1, e2, e3⟩ h
    · exact wpAny_pyIter_striter_wide ⟨o, e1, e2, e3⟩ h
noncomputable def sgs (l : List Nat) : List W := l.map fun c => .str ⟨#[c]⟩
theorem itn_str {K : PySem.W.Frag} {x : Str} {H : Hp} : Itn K (Its x) (sgs x.cps.toList) (fun _ => True) H where
  stop := fun i H1 G t g _ hl => by
    have h : x.cps.toList.length ≤ i := by simpa [sgs] using hl
    exact h
  go := fun i w H1 G t g _ e => by
    unfold sgs at e
    rw [List.getElem?_map] at e
    cases h : x.cps.toList[i]? with
    | none => rw [h] at e; cases e
    | some c =>
      rw [h] at e
      cases e
      refine ⟨(List.getElem?_eq_some_iff.mp h).1, fun y H' ⟨eH, c', hc, hy⟩ => ?_⟩
      subst eH hy
      rw [h] at hc
      cases hc
      exact ⟨TLe.refl _, .str _, g⟩
variable {tg : Expr}
theorem pi_seqS {l : Expr} {tl : TE} (hl : PE X l tl) : PI X tg l (fun σ H R => tl σ H fun x H1 => (∃ z, x = .str z ∧ R (Its z) H1) ∨ ∃ a, x = .ref a ∧ (((∃ xs, SqL X.K H1 a xs) ∧ R (Itl X.K a) H1) ∨ ((∃ xs, SqT X.K H1 a xs) ∧ R (Itt X.K a) H1))) := by
  intro pins s σ H R I h
  refine thn (hl pins s σ H _ I h) fun v s1 ⟨x, H1, I1, r1, q1⟩ => ?_
  rcases q1 with ⟨z, rfl, q⟩ | ⟨a, e, q1⟩
  · obtain ⟨t, rfl⟩ := r1
    refine wpAny_pyIter_strU ?_
    refine ⟨s1.heap.objs.size, [s1.heap.objs.size], _, _, H1, rfl, I1.kept (t' := s1.toks) fun b o e => Heap.get?_push_of_some _ e, turn_str _ z t, ⟨Nat.zero_le _, _, Heap.get?_push_size _ rfl, rfl, rfl⟩, fun b hb => ?_, q⟩
    have e : b = s1.heap.objs.size := by simpa using hb
    subst e
    exact I1.fpOk (Nat.le_refl _) (I1.hok.fresh (Nat.le_refl _))
  · subst e
    cases r1
    rcases q1 with ⟨⟨xs, hq⟩, q⟩ | ⟨⟨xs, hq⟩, q⟩
    · obtain ⟨its, rv, p, hz⟩ := I1.list hq
      refine wpAny_pyIter_list p.isList ?_
      refine ⟨s1.heap.objs.size, [s1.heap.objs.size], _, _, H1, rfl, I1.kept (t' := s1.toks) fun b o e => Heap.get?_push_of_some _ e, turn_list a _, ⟨_, Heap.get?_push_size _ rfl, rfl, rfl⟩, fun b hb => ?_, q⟩
      have e : b = s1.heap.objs.size := by simpa using hb
      subst e
      exact I1.fpOk (Nat.le_refl _) (I1.hok.fresh (Nat.le_refl _))
    · obtain ⟨its, rv, p, hz⟩ := I1.tuple hq
      refine wpAny_pyIter_tuple (show s1.heap.IsTuple a its.toArray from p) ?_
      refine ⟨s1.heap.objs.size, [s1.heap.objs.size], _, _, H1, rfl, I1.kept (t' := s1.toks) fun b o e => Heap.get?_push_of_some _ e, turn_tuple a _, ⟨_, Heap.get?_push_size _ rfl, rfl, rfl⟩, fun b hb => ?_, q⟩
      have e : b = s1.heap.objs.size := by simpa using hb
      subst e
      exact I1.fpOk (Nat.le_refl _) (I1.hok.fresh (Nat.le_refl _))
noncomputable def jSeqS (te : WE) : WI := fun τ G r => te τ G fun x G1 => match x with
  | .str z => r (sgs z.cps.toList) (fun _ => True) G1
  | .tup ws => r ws (fun _ => True) G1
  | .scr ns => r (ns.map W.int) (fun _ => True) G1
  | .ref a => ∃ ws, G1 a = some (.lst ws) ∧ r ws (fun G => G a = some (.lst ws)) G1
  | _ => False
theorem qi_seqS {l : Expr} {te : WE} (hl : QE X l te) : QI X tg l (jSeqS te) :=
  (pi_seqS hl).imp fun σ H R ⟨τ, G, r, hs, hg, ht, hR⟩ => ⟨τ, G, _, hs, hg, ht, fun v H1 w G1 t1 r1 g1 q1 => by
    split at q1
    · cases r1
      exact .inl ⟨_, rfl, hR _ H1 _ _ G1 t1 g1 itn_str q1⟩
    · cases r1 with
      | tup h rr => exact .inr ⟨_, rfl, .inr ⟨⟨_, SqT.of h⟩, hR _ H1 _ _ G1 t1 g1 (itn_tup h rr) q1⟩⟩
    · cases r1 with
      | scr h => exact .inr ⟨_, rfl, .inl ⟨⟨_, h.sq⟩, hR _ H1 _ _ G1 t1 g1 (itn_scr h) q1⟩⟩
    · obtain ⟨ws, e, q1⟩ := q1
      cases r1
      obtain ⟨_, xs, h1, _⟩ := g1 _ _ e
      exact .inr ⟨_, rfl, .inl ⟨⟨xs, SqL.of h1⟩, hR _ H1 _ _ G1 t1 g1 itn_lst q1⟩⟩
    · exact q1.elim⟩
noncomputable def catS (ts : List Str) : Str := ⟨(ts.map fun t => t.cps.toList).flatten.toArray⟩
theorem strs_are : ∀ {ts : List Str} {its : List Value}, Vals (ts.map V.str) its → StrsAre its ts
  | [], _, h => by cases h; exact .nil
  | t :: ts, _, h => by
    cases h with
    | cons r rs =>
      obtain ⟨k, rfl⟩ := r
      exact .cons _ _ (strs_are rs)
noncomputable def wJoin (te : WE) : WE := fun τ G q => te τ G fun y G2 => ∃ a ts, y = .ref a ∧ G2 a = some (.lst (ts.map W.str)) ∧ (ts.map fun t => t.length).sum ≤ 100000 ∧ q (.str (catS ts)) G2
noncomputable def wCount (to te : WE) : WE := fun τ G q => to τ G fun x G1 => (∃ z, x = .str z) ∧ te τ G1 fun y G2 => ∃ z c, x = .str z ∧ y = .str ⟨#[c]⟩ ∧ q (.int ((z.cps.toList.count c : Nat) : Int)) G2
noncomputable def wFst (a b : Str) (te : WE) : WE := fun τ G q => te τ G fun x G1 => ∃ z, x = .str z ∧ a.length + z.length + b.length ≤ 100000 ∧ q (.str (a ++ z ++ b)) G1
end
end L2
set_option linter.all false
set_option maxRecDepth 100000
namespace L2
open PySem PySem.Spec PyProof.Rows
section
variable {X : Cx} {pins : List (Addr × Obj)} {σ : St} {H : Hp} {s : Shared} {a : Addr} {o : Obj} {kvs : List (Key × V)}
theorem Inv.swap {u v : HO} (I : Inv X pins σ H s) (e : H a = some u) (un : Un X.fs X.ex X.H₀ (upd H a v) X.s₀.heap s.heap) (hv : ObjOk X.prog X.w (upd H a v) s.heap a v) (nu : ∀ xs, u ≠ .tup xs) (no : ∀ x, u ≠ .own x) : Inv X pins σ (upd H a v) s := by
  have ne : ∀ b, H b = none → b ≠ a := fun b hb z => by rw [z, e] at hb; cases hb
  refine ⟨I.ok, I.os, I.bare, un, I.loc, I.cell, by rw [upd_ne (ne _ I.free)]; exact I.free, fun x c hc => by rw [upd_ne (ne _ (I.freeC x c hc))]; exact I.freeC x c hc, fun p hp => ?_, fun b w hb => ?_, I.len⟩
  · obtain ⟨h1, h2, h3⟩ := I.pin p hp
    exact ⟨h1, by rw [upd_ne (ne _ h2)]; exact h2, h3⟩
  · by_cases hba : b = a
    · subst hba
      rw [upd_same] at hb; cases hb
      exact hv
    · rw [upd_ne hba] at hb
      refine (I.hok b w hb).stay (fun d v _ q => q) (fun d q => ?_) fun d xs q => ?_
      · rw [upd_ne (fun z => by rw [z, e] at q; exact no _ (Option.some.inj q))]; exact q
      · rw [upd_ne (fun z => by rw [z, e] at q; exact nu _ (Option.some.inj q))]; exact q
theorem Inv.freeze (I : Inv X pins σ H s) (e : H a = some (.dK kvs)) (ho : s.heap.get? a = some o) : Inv X pins σ (upd H a (.frz o (.dK kvs))) s := by
  refine I.swap e ?_ ⟨ho, (I.hok a _ e)⟩ (fun _ z => by cases z) (fun _ z => by cases z)
  have U := I.base
  refine ⟨U.keep, U.slot, fun b ob h1 h2 h3 => ?_, U.there, fun b xs h1 => ?_, fun b ob w h1 => ?_, fun b ps h1 => ?_⟩
  · have h4 := U.free b ob h1 h2 h3
    rw [upd_ne (fun z => by rw [z, e] at h4; cases h4)]; exact h4
  · have h4 := U.tups b xs h1
    rw [upd_ne (fun z => by rw [z, e] at h4; cases h4)]; exact h4
  · have h4 := U.frzs b ob w h1
    rw [upd_ne (fun z => by rw [z, e] at h4; cases h4)]; exact h4
  · obtain ⟨m, h4⟩ := U.tbls b ps h1
    exact ⟨m, by rw [upd_ne (fun z => by rw [z, e] at h4; cases h4)]; exact h4⟩
theorem Inv.thaw (I : Inv X pins σ H s) (e : H a = some (.frz o (.dK kvs))) (h0 : ∀ ob w, X.H₀ a ≠ some (.frz ob w)) : Inv X pins σ (upd H a (.dK kvs)) s := by
  refine I.swap e ?_ (I.hok a _ e).2 (fun _ z => by cases z) (fun _ z => by cases z)
  have U := I.base
  refine ⟨U.keep, U.slot, fun b ob h1 h2 h3 => ?_, U.there, fun b xs h1 => ?_, fun b ob w h1 => ?_, fun b ps h1 => ?_⟩
  · have h4 := U.free b ob h1 h2 h3
    rw [upd_ne (fun z => by rw [z, e] at h4; cases h4)]; exact h4
  · have h4 := U.tups b xs h1
    rw [upd_ne (fun z => by rw [z, e] at h4; cases h4)]; exact h4
  · have h4 := U.frzs b ob w h1
    rw [upd_ne (fun z => by rw [z] at h1; exact h0 _ _ h1)]; exact h4
  · obtain ⟨m, h4⟩ := U.tbls b ps h1
    exact ⟨m, by rw [upd_ne (fun z => by rw [z, e] at h4; cases h4)]; exact h4⟩
theorem Inv.nofrz (I : Inv X pins σ H s) (e : H a = some (.dK kvs)) : ∀ ob w, X.H₀ a ≠ some (.frz ob w) := fun ob w h => by
  have := I.base.frzs a ob w h
  rw [e] at this; cases this
theorem paired_at {α β : Type} {F : α → β → Prop} : ∀ {l1 : List α} {l2 : List β}, Paired F l1 l2 → ∀ {i : Nat} {a : α} {b : β}, l1[i]? = some a → l2[i]? = some b → F a b
  | _, _, .nil, _, _, _, h, _ => by cases h
  | _, _, .cons r t, 0, _, _, h1, h2 => by cases h1; cases h2; exact r
  | _, _, .cons r t, i + 1, _, _, h1, h2 => paired_at t (i := i) h1 h2
noncomputable def Itk (d : Addr) (o : Obj) (kvs : List (Key × V)) : It := ⟨fun i H => H d = some (.frz o (.dK kvs)) ∧ i < kvs.length, fun i H y H' => H' = H ∧ ∃ kv, kvs[i]? = some kv ∧ y = kV kv.1, fun i H => H d = some (.frz o (.dK kvs)) ∧ kvs.length ≤ i⟩
noncomputable def Itdv (d : Addr) (o : Obj) (kvs : List (Key × V)) : It := ⟨fun i H => H d = some (.frz o (.dK kvs)) ∧ i < kvs.length, fun i H y H' => H' = H ∧ ∃ kv, kvs[i]? = some kv ∧ y = kv.2, fun i H => H d = some (.frz o (.dK kvs)) ∧ kvs.length ≤ i⟩
theorem Inv.dictAt {es : Array DictEntry} {ep : Nat} (I : Inv X pins σ H s) (e : H a = some (.frz o (.dK kvs))) (hd : o.data = .dict es ep) : ∃ vs, KV kvs vs ∧ s.heap.DictAt (mixKind X.prog X.w) a vs ep ∧ (a == sysModules) = false := by
  obtain ⟨h1, _, h2, vs, h3, o2, es2, ep2, h4, h5, h6, h7⟩ := I.hok a _ e
  rw [h1] at h4; cases h4
  rw [hd] at h6; cases h6
  exact ⟨vs, h3, ⟨o, es, h1, h5, hd, h7⟩, h2⟩
theorem rel_key {k : Key} {v : Value} (h : keyIs k v = true) : RelV (kV k) v := by
  rcases keyIs_shape h with ⟨i, t, rfl, rfl⟩ | ⟨x, t, rfl, rfl⟩
  · exact ⟨t, rfl⟩
  · exact ⟨t, rfl⟩
theorem turn_keys {P : Program} {w : World} {K : PySem.W.Frag} {tg : Expr} {es : Array DictEntry} {ep : Nat} (it d : Addr) (hne : d ≠ it) (hd : o.data = .dict es ep) : Turn P w K tg (Itk d o kvs) [it] it (fun i h => i ≤ kvs.length ∧ h.IsKeyIter it d i kvs.length ep) where
  mem := by simp
  obj := fun i h st b hb => by
    have e : b = it := by simpa using hb
    subst e
    obtain ⟨_, o, e1, e2, e3⟩ := st
    exact ⟨_, e1, fun v z => by rw [e3] at z; cases z⟩
  keep := fun i h h' st k => by
    obtain ⟨hi, o, e1, e2, e3⟩ := st
    exact ⟨hi, o, k it (by simp) _ e1, e2, e3⟩
  item := by
    intro X hP hw hK hc i pins s σ H E I hf st hg
    subst hP hw hK
    obtain ⟨f0, f1, f2, f3, f4, f5⟩ := hf it (by simp)
    obtain ⟨hfz, hi⟩ := hg
    obtain ⟨vs, kv, da, _⟩ := I.dictAt hfz hd
    have hl := kv.length
    refine (Walks.dictKeys (knd := mixKind X.prog X.w) (I.ok.hd hc) it d hne vs ep).item i s _ _ (by (clear hne hd hc I hf st f0 f1 f2 f3 f4 f5 hfz kv da; omega)) ⟨by rw [← hl]; exact st.2, da⟩ fun v h' tk hv st' kk => ?_
    obtain ⟨k, x, e1, e2⟩ := hv
    have I1 : Inv X pins σ H { s with heap := h', toks := tk } := I.turned (fun b o hb e => kk b o (by simpa using hb) e) f0 f1 f3 f4 f5
    obtain ⟨⟨o', g1, g2, g3⟩, _⟩ := id st'
    have hk : ∃ kv0, kvs[i]? = some kv0 ∧ kv0.1 = k := by
      have h1 := KV.keys kv
      have h2 : (kvs.map (·.1))[i]? = some k := by rw [h1, List.getElem?_map, e1]; rfl
      rw [List.getElem?_map] at h2
      cases h3 : kvs[i]? with
      | none => rw [h3] at h2; cases h2
      | some p => rw [h3] at h2; exact ⟨p, rfl, Option.some.inj h2⟩
    obtain ⟨kv0, h3, h4⟩ := hk
    refine ⟨_, rfl, go_of (s := { s with heap := h', toks := tk }) (n := "dict_keyiterator") g1 g2 g3 (by decide) ⟨kV k, H, I1, rel_key e2, ⟨rfl, kv0, h3, by rw [h4]⟩, ⟨by assumption, by rw [hl]; exact st'.1⟩, fun b hb => (hf b hb).1⟩⟩
  done := by
    intro X hP hw hK hc i pins s σ H E I hf st hg
    subst hP hw hK
    obtain ⟨f0, f1, f2, f3, f4, f5⟩ := hf it (by simp)
    obtain ⟨hfz, hi⟩ := hg
    obtain ⟨vs, kv, da, _⟩ := I.dictAt hfz hd
    have hl := kv.length
    have hi2 : i = kvs.length := Nat.le_antisymm st.1 hi
    subst hi2
    exact (Walks.dictKeys (knd := mixKind X.prog X.w) (I.ok.hd hc) it d hne vs ep).done s _ _ (by rw [← hl]; exact ⟨st.2, da⟩) fun h' tk kk => ⟨rfl, I.turned (t' := tk) (fun b o hb e => kk b o (by simpa using hb) e) f0 f1 f3 f4 f5⟩
  self := fun A i s Q E st h => wpAny_pyIter_keyiter st.2 h
theorem turn_vals {P : Program} {w : World} {K : PySem.W.Frag} {tg : Expr} {es : Array DictEntry} {ep : Nat} (it d : Addr) (hne : d ≠ it) (hd : o.data = .dict es ep) : Turn P w K tg (Itdv d o kvs) [it] it (fun i h => i ≤ kvs.length ∧ h.IsValIter it d i kvs.length ep) where
  mem := by simp
  obj := fun i h st b hb => by
    have e : b = it := by simpa using hb
    subst e
    obtain ⟨_, o, e1, e2, e3⟩ := st
    exact ⟨_, e1, fun v z => by rw [e3] at z; cases z⟩
  keep := fun i h h' st k => by
    obtain ⟨hi, o, e1, e2, e3⟩ := st
    exact ⟨hi, o, k it (by simp) _ e1, e2, e3⟩
  item := by
    intro X hP hw hK hc i pins s σ H E I hf st hg
    subst hP hw hK
    obtain ⟨f0, f1, f2, f3, f4, f5⟩ := hf it (by simp)
    obtain ⟨hfz, hi⟩ := hg
    obtain ⟨vs, kv, da, _⟩ := I.dictAt hfz hd
    have hl := kv.length
    refine (Walks.dictValues (knd := mixKind X.prog X.w) (I.ok.hd hc) it d hne vs ep).item i s _ _ (by (clear hne hd hc I hf st f0 f1 f2 f3 f4 f5 hfz kv da; omega)) ⟨by rw [← hl]; exact st.2, da⟩ fun v h' tk hv st' kk => ?_
    obtain ⟨k, e1⟩ := hv
    have I1 : Inv X pins σ H { s with heap := h', toks := tk } := I.turned (fun b o hb e => kk b o (by simpa using hb) e) f0 f1 f3 f4 f5
    obtain ⟨⟨o', g1, g2, g3⟩, _⟩ := id st'
    have hk : ∃ kv0, kvs[i]? = some kv0 ∧ RelV kv0.2 v := by
      have h3 := List.getElem?_eq_getElem hi
      exact ⟨_, h3, (paired_at kv h3 e1).2⟩
    obtain ⟨kv0, h3, h4⟩ := hk
    refine ⟨_, rfl, go_of (s := { s with heap := h', toks := tk }) (n := "dict_valueiterator") g1 g2 g3 (by decide) ⟨kv0.2, H, I1, h4, ⟨rfl, kv0, h3, rfl⟩, ⟨by assumption, by rw [hl]; exact st'.1⟩, fun b hb => (hf b hb).1⟩⟩
  done := by
    intro X hP hw hK hc i pins s σ H E I hf st hg
    subst hP hw hK
    obtain ⟨f0, f1, f2, f3, f4, f5⟩ := hf it (by simp)
    obtain ⟨hfz, hi⟩ := hg
    obtain ⟨vs, kv, da, _⟩ := I.dictAt hfz hd
    have hl := kv.length
    have hi2 : i = kvs.length := Nat.le_antisymm st.1 hi
    subst hi2
    exact (Walks.dictValues (knd := mixKind X.prog X.w) (I.ok.hd hc) it d hne vs ep).done s _ _ (by rw [← hl]; exact ⟨st.2, da⟩) fun h' tk kk => ⟨rfl, I.turned (t' := tk) (fun b o hb e => kk b o (by simpa using hb) e) f0 f1 f3 f4 f5⟩
  self := fun A i s Q E st h => wpAny_pyIter_valiter st.2 h
variable {tg : Expr}
theorem pi_keys {i : Nat} {x : Str} {p : Pos} (hN : X.N[i]? = some x) (hv : Vis X.env.scope x) (hd : (x == ("__debug__" : Str)) = false := by decide) (hcd : (x == ("__classdict__" : Str)) = false := by decide) :
    PI X tg (.Name x p) (fun σ H R => ∃ a kvs, σ[i]? = some (some (.ref a)) ∧ H a = some (.dK kvs) ∧ ∀ o, R (Itk a o kvs) (upd H a (.frz o (.dK kvs)))) := by
  intro pins s σ H R I ⟨a, kvs, hi, e, h⟩
  refine thn (pe_var (pos := p) hN hv hd hcd pins s σ H (fun v H' => v = .ref a ∧ H' = H) I ⟨_, hi, rfl, rfl⟩) fun u s1 ⟨v, H1, I1, r, hv1, hH⟩ => ?_
  subst hv1; subst hH
  obtain rfl : u = Value.ref a := r
  obtain ⟨_, hm, vs, kv, o, es, ep, h1, h2, h3, h4⟩ := dk_of I1.hok e
  have J := I1.freeze e h1
  refine wpAny_pyIter_dict (knd := mixKind X.prog X.w) hm ⟨o, es, h1, h2, h3, h4⟩ ?_
  have hne : a ≠ s1.heap.objs.size := Nat.ne_of_lt (Heap.lt_size h1)
  refine ⟨s1.heap.objs.size, [s1.heap.objs.size], _, _, _, rfl, J.kept (t' := s1.toks) fun b o e => Heap.get?_push_of_some _ e, turn_keys (o := o) (kvs := kvs) (es := es) (ep := ep) _ a hne h3, ⟨Nat.zero_le _, by rw [kv.length]; exact ⟨_, Heap.get?_push_size _ rfl, rfl, rfl⟩⟩, fun b hb => ?_, h o⟩
  have e : b = s1.heap.objs.size := by simpa using hb
  subst e
  exact J.fpOk (Nat.le_refl _) (J.hok.fresh (Nat.le_refl _))
theorem pi_vals {i : Nat} {x : Str} {p apos cpos : Pos} (hN : X.N[i]? = some x) (hv : Vis X.env.scope x) (hd : (x == ("__debug__" : Str)) = false := by decide) (hcd : (x == ("__classdict__" : Str)) = false := by decide)
    (hbase : attributeBase (.Name x p) "values" X.env (eval (.Name x p) X.env) = eval (.Name x p) X.env := by rfl) (hline : (apos.endLine == cpos.line) = true := by rfl) :
    PI X tg (.Call (.Attribute (.Name x p) "values" apos) [] [] cpos) (fun σ H R => ∃ a kvs, σ[i]? = some (some (.ref a)) ∧ H a = some (.dK kvs) ∧ ∀ o, R (Itdv a o kvs) (upd H a (.frz o (.dK kvs)))) := by
  intro pins s σ H R I ⟨a, kvs, hi, e, h⟩
  refine wpAny_Call_method0_late hbase hline (thn (pe_var (pos := p) hN hv hd hcd pins s σ H (fun v H' => v = .ref a ∧ H' = H) I ⟨_, hi, rfl, rfl⟩) fun u s1 ⟨v, H1, I1, r, hv1, hH⟩ => ?_)
  subst hv1; subst hH
  obtain rfl : u = Value.ref a := r
  obtain ⟨_, hm, vs, kv, o, es, ep, h1, h2, h3, h4⟩ := dk_of I1.hok e
  have ty : tyV X.K "dict" (.ref a) H1 := .inr (.inr (.inl ⟨rfl, .inl ⟨kvs, e⟩⟩))
  obtain ⟨t1, t2⟩ := tyV_is I1 (show RelV (V.ref a) (Value.ref a) from rfl) ty
  refine ⟨"dict", _, PySem.F.plainAttrs_dict, PySem.F.slot_dict_values, PySem.F.type_dict_values, t1, t2, Calls.callWith_builtin rfl (PySem.evalArgs_none ?_)⟩
  refine call_meetsIn PySem.F.slot_dict_values t1 PySem.F.entry_dict_values (PySem.F.args_dict_values_1 _) (meets_dict_values (mixKind X.prog X.w) a hm) ⟨⟨vs, o, es, ep, h1, h2, h3, h4⟩, ?_⟩
  have I2 : Inv X pins σ H1 { s1 with heap := s1.heap.push { cls := .type "dict_values", data := .fields #[.ref a] } } := I1.kept (t' := s1.toks) fun b o e => Heap.get?_push_of_some _ e
  have h1' : (s1.heap.push { cls := .type "dict_values", data := .fields #[.ref a] }).get? a = some o := Heap.get?_push_of_some _ h1
  have J := I2.freeze e h1'
  refine wpAny_pyIter_values (knd := mixKind X.prog X.w) (d := a) ⟨_, Heap.get?_push_size _ rfl, rfl, rfl⟩ ⟨o, es, h1', h2, h3, h4⟩ ?_
  have hne : a ≠ (s1.heap.push { cls := .type "dict_values", data := .fields #[.ref a] }).objs.size := Nat.ne_of_lt (Heap.lt_size h1')
  refine ⟨_, [(s1.heap.push { cls := .type "dict_values", data := .fields #[.ref a] }).objs.size], _, _, _, rfl, J.kept (t' := s1.toks) fun b o e => Heap.get?_push_of_some _ e, turn_vals (o := o) (kvs := kvs) (es := es) (ep := ep) _ a hne h3, ⟨Nat.zero_le _, by rw [kv.length]; exact ⟨_, Heap.get?_push_size _ rfl, rfl, rfl⟩⟩, fun b hb => ?_, h o⟩
  have e : b = (s1.heap.push { cls := .type "dict_values", data := .fields #[.ref a] }).objs.size := by simpa using hb
  subst e
  exact J.fpOk (Nat.le_refl _) (J.hok.fresh (Nat.le_refl _))
end
end L2
set_option linter.all false
set_option maxRecDepth 100000
namespace L2
open PySem PySem.Spec PyProof.Rows
noncomputable def valW (kvs : List (Key × W)) (k : Key) : Option W := (kvs.find? fun kv => decide (kv.1 = k)).map (·.2)
noncomputable def putD (kvs : List (Key × W)) (k : Key) (w : W) : List (Key × W) :=
  if (kvs.any fun kv => decide (kv.1 = k)) = true then kvs.map (fun kv => if kv.1 = k then (kv.1, w) else kv) else kvs ++ [(k, w)]
inductive DP (K : PySem.W.Frag) (H : Hp) : List (Key × W) → List (Key × V) → Prop where
  | nil : DP K H [] []
  | cons {k : Key} {w : W} {v : V} {kvs : List (Key × W)} {us : List (Key × V)} (r : Rep K H w v) (t : DP K H kvs us) : DP K H ((k, w) :: kvs) ((k, v) :: us)
section
variable {K : PySem.W.Frag} {H H1 : Hp}
theorem DP.of : ∀ {kvs : List (Key × W)} {us : List (Key × V)}, us.map (·.1) = kvs.map (·.1) → Reps K H (kvs.map (·.2)) (us.map (·.2)) → DP K H kvs us
  | [], [], _, _ => .nil
  | [], _ :: _, h, _ => by simp at h
  | _ :: _, [], h, _ => by simp at h
  | (k, w) :: kvs, (k', v) :: us, h, r => by
    simp only [List.map_cons, List.cons.injEq] at h
    obtain ⟨rfl, h⟩ := h
    cases r with
    | cons r rs => exact .cons r (DP.of h rs)
theorem DP.keys {kvs : List (Key × W)} {us : List (Key × V)} (d : DP K H kvs us) : us.map (·.1) = kvs.map (·.1) := by
  induction d with
  | nil => rfl
  | cons r t ih => rw [List.map_cons, List.map_cons, ih]
theorem DP.vals {kvs : List (Key × W)} {us : List (Key × V)} (d : DP K H kvs us) : Reps K H (kvs.map (·.2)) (us.map (·.2)) := by
  induction d with
  | nil => exact .nil
  | cons r t ih => exact .cons r ih
theorem DP.len {kvs : List (Key × W)} {us : List (Key × V)} (d : DP K H kvs us) : us.length = kvs.length := by
  have := congrArg List.length d.keys
  simpa using this
theorem DP.mono {kvs : List (Key × W)} {us : List (Key × V)} (t : TLe H H1) (d : DP K H kvs us) : DP K H1 kvs us := DP.of d.keys (d.vals.mono t)
theorem DP.val {kvs : List (Key × W)} {us : List (Key × V)} (d : DP K H kvs us) (k : Key) : (valW kvs k = none ∧ valV us k = none) ∨ ∃ w v, valW kvs k = some w ∧ valV us k = some v ∧ Rep K H w v := by
  induction d with
  | nil => exact .inl ⟨rfl, rfl⟩
  | @cons k' w v kvs us r t ih =>
    by_cases e : k' = k
    · exact .inr ⟨w, v, by simp [valW, List.find?_cons, e], valV_pos e, r⟩
    · rw [show valW ((k', w) :: kvs) k = valW kvs k by simp [valW, List.find?_cons, e], valV_neg (p := (k', v)) e]
      exact ih
theorem DP.any {kvs : List (Key × W)} {us : List (Key × V)} (d : DP K H kvs us) (k : Key) : (us.any fun kv => decide (kv.1 = k)) = kvs.any fun kv => decide (kv.1 = k) := by
  induction d with
  | nil => rfl
  | cons r t ih => rw [List.any_cons, List.any_cons, ih]
theorem DP.put {kvs : List (Key × W)} {us : List (Key × V)} (d : DP K H kvs us) (k : Key) {w : W} {v : V} (r : Rep K H w v) : DP K H (putD kvs k w) (putK us k v) := by
  unfold putD putK
  rw [d.any k]
  by_cases e : (kvs.any fun kv => decide (kv.1 = k)) = true
  · rw [if_pos e, if_pos e]
    clear e
    induction d with
    | nil => exact .nil
    | @cons k' w' v' kvs us r' t ih =>
      rw [List.map_cons, List.map_cons]
      by_cases e : k' = k
      · rw [if_pos e, if_pos e]; exact .cons r ih
      · rw [if_neg e, if_neg e]; exact .cons r' ih
  · rw [if_neg e, if_neg e]
    clear e
    induction d with
    | nil => exact .cons r .nil
    | cons r' t ih => exact .cons r' ih
end
theorem putD_len (kvs : List (Key × W)) (k : Key) (w : W) : (putD kvs k w).length ≤ kvs.length + 1 := by
  unfold putD
  split
  · rw [List.length_map]; omega
  · rw [List.length_append, List.length_cons, List.length_nil]; omega
noncomputable def GD (G : Gp) (a : Addr) (kvs : List (Key × W)) : Prop := G a = some (.dic kvs) ∨ ∃ o us, G a = some (.fdc o us kvs)
section
variable {K : PySem.W.Frag} {H : Hp} {G : Gp} {a : Addr} {kvs : List (Key × W)}
theorem GD.rd (h : GD G a kvs) (g : RelG K H G) : kvs.length ≤ 100000 ∧ ∃ us, Rd H a (.dK us) ∧ DP K H kvs us := by
  rcases h with h | ⟨o, us, h⟩
  · obtain ⟨l, us, e, n, r⟩ := g a _ h
    exact ⟨l, us, .inl e, DP.of n r⟩
  · obtain ⟨l, e, n, r⟩ := g a _ h
    exact ⟨l, us, .inr ⟨o, e⟩, DP.of n r⟩
theorem TLe.dk {us : List (Key × V)} (hp : H a = some (.dK us)) (o : HO) : TLe H (upd H a o) :=
  ⟨fun _ _ h => by rw [upd_ne (ne_of h hp (by intro z; cases z))]; exact h, fun _ _ _ h => by rw [upd_ne (ne_of h hp (by intro z; cases z))]; exact h⟩
theorem TLe.fz {us : List (Key × V)} {ob : Obj} (hp : H a = some (.frz ob (.dK us))) (o : HO) : TLe H (upd H a o) :=
  ⟨fun _ _ h => by rw [upd_ne (ne_of h hp (by intro z; cases z))]; exact h, fun _ _ _ h => by rw [upd_ne (ne_of h hp (by intro z; cases z))]; exact h⟩
end
section
variable {X : Cx} {pins : List (Addr × Obj)} {σ : St} {H : Hp} {s : Shared} {A : Around} {E : Value → Shared → Prop}
noncomputable def rIxD : W2 := fun x y G q => match x, y with
  | .ref a, .str z => ∃ kvs w, GD G a kvs ∧ valW kvs (.inr z) = some w ∧ q w G
  | x, y => rIxS3 x y G q
theorem q_ixD : QIx X rIxD := by
  intro value slice pins s σ H x y v u Q I rx ry ⟨wx, wy, G, q, r1, r2, g, h, hQ⟩ hsl
  unfold rIxD at h
  split at h
  · rename_i a z
    obtain ⟨kvs, w, hd, hv, h⟩ := h
    cases r1
    cases r2
    cases rx
    obtain ⟨_, us, rd, dp⟩ := hd.rd g
    obtain ⟨hl, hm, vs, rel, dd⟩ := dk_rd I.hok rd
    rcases dp.val (.inr z) with ⟨e, _⟩ | ⟨w', v', e, e', r⟩
    · rw [e] at hv; cases hv
    · rw [e] at hv; cases hv
      obtain ⟨u', hw, ru⟩ := RelO.some_of (v := v') (o := valueAt vs (.inr z)) (by rw [← e']; exact rel.val (.inr z))
      exact tail_any dd.typeIs PySem.F.slot_dict_getitem.lookup (wpAny_getItem_of (kV_is (P := X.prog) (w := X.w) (k := .inr z) ry) dd.mapOf hw ⟨v', H, I.tok _, ru, hQ _ H _ G (TLe.refl H) r g h⟩) hsl
  · exact q_ixS value slice pins s σ H x y v u Q I rx ry ⟨wx, wy, G, q, r1, r2, g, h, hQ⟩ hsl
structure InL (ws : List W) (x : W) : Prop where
  fx : x.flat = true
  fs : W.flats ws = true
  hd : W.deps ws ≤ 149
inductive InW (G : Gp) (a : Addr) : W → Bool → Prop where
  | dic {kvs : List (Key × W)} {z : Str} (h : GD G a kvs) : InW G a (.str z) (valW kvs (.inr z)).isSome
  | lst {ws : List W} {x : W} (h : G a = some (.lst ws)) (l : InL ws x) : InW G a x (ws.any fun w => w.eq x)
noncomputable def rInD : W2 := fun x y G q => match y with
  | .ref a => ∃ b, InW G a x b ∧ q (.bl b) G
  | _ => False
noncomputable def rNinD : W2 := fun x y G q => match y with
  | .ref a => ∃ b, InW G a x b ∧ q (.bl (!b)) G
  | _ => False
theorem DP.isSome {K : PySem.W.Frag} {kvs : List (Key × W)} {us : List (Key × V)} (d : DP K H kvs us) (k : Key) : (valV us k).isSome = (valW kvs k).isSome := by
  rcases d.val k with ⟨e, e'⟩ | ⟨w', v', e, e', r⟩
  · rw [e, e']; rfl
  · rw [e, e']; rfl
open Classical in
theorem inList {k : Nat} (hr : Room k X.A) {wx : W} {a : Addr} {x : V} {v : Value} {ws : List W} {G : Gp} (I : Inv X pins σ H s) (rx : RelV x v) (r1 : Rep X.K H wx x) (g : RelG X.K H G) (ea : G a = some (.lst ws)) (l : InL ws wx) :
    ∃ (e : Value → Bool) (its : List Value), s.heap.IsList a its.toArray ∧ (∀ y, y ∈ its.toArray → SeqAt.EqAt X.A.in1 s y v (e y)) ∧ (its.toArray.any e = ws.any fun w => w.eq wx) ∧ its.length = ws.length ∧ ∀ (i : Nat) (w : W) (z : Value), ws[i]? = some w → its[i]? = some z → e z = w.eq wx := by
  obtain ⟨_, xs, e1, ra⟩ := g _ _ ea
  obtain ⟨its, rv, p, _⟩ := I.list (SqL.of e1)
  have l1 : its.length = ws.length := by rw [← rv.length, ra.length]
  have hu := hr.un
  have hd := l.hd
  have key : ∀ (i : Nat) (w : W) (z : Value), ws[i]? = some w → its[i]? = some z → decide (∃ w', w' ∈ ws ∧ (∃ v', Rep X.K H w' v' ∧ RelV v' z) ∧ w'.eq wx = true) = w.eq wx ∧ SeqAt.EqAt X.A.in1 s z v (w.eq wx) := fun i w z ew ez => by
    obtain ⟨va, ea1, rva⟩ := ra.get ew
    obtain ⟨ua, eua, qa⟩ := rv.get ea1
    rw [ez] at eua
    cases eua
    have fw := W.flats_get l.fs ew
    refine ⟨?_, (eq_rep I 150 X.A.in1 (w1 := w) (w2 := wx) (Nat.lt_of_le_of_lt (W.deps_get ew) (by (clear hr I rx r1 g ea l e1 ra rv p l1 hu ew ez ea1 rva qa fw; omega))) fw l.fx (by show X.A.units + 1 + 150 < cLine; (clear hr I rx r1 g ea l e1 ra rv p l1 hd ew ez ea1 rva qa fw; omega)) rva r1 qa rx).1⟩
    by_cases hw : w.eq wx = true
    · rw [hw]
      exact decide_eq_true ⟨w, List.mem_of_getElem? ew, ⟨va, rva, qa⟩, hw⟩
    · have : ¬ ∃ w', w' ∈ ws ∧ (∃ v', Rep X.K H w' v' ∧ RelV v' z) ∧ w'.eq wx = true := fun ⟨w', hm, ⟨v', rv', qv'⟩, he⟩ => by
        obtain ⟨j, hj⟩ := List.getElem?_of_mem hm
        have hv := qv'.inj qa
        subst hv
        have := Rep.inj (W.flats_get l.fs hj) fw rv' rva
        subst this
        exact hw he
      rw [decide_eq_false this]
      simpa using hw
  refine ⟨fun z => decide (∃ w', w' ∈ ws ∧ (∃ v', Rep X.K H w' v' ∧ RelV v' z) ∧ w'.eq wx = true), its, p.isList, fun z hz => ?_, ?_, l1, fun i w z ew ez => (key i w z ew ez).1⟩
  · obtain ⟨i, hi⟩ := List.getElem?_of_mem (show z ∈ its by simpa using hz)
    have hi2 : i < ws.length := by rw [← l1]; exact (List.getElem?_eq_some_iff.mp hi).1
    obtain ⟨k1, k2⟩ := key i _ z (List.getElem?_eq_getElem hi2) hi
    show SeqAt.EqAt _ s z v (decide _)
    rw [k1]
    exact k2
  · rw [show its.toArray.any (fun z => decide (∃ w', w' ∈ ws ∧ (∃ v', Rep X.K H w' v' ∧ RelV v' z) ∧ w'.eq wx = true)) = its.any (fun z => decide (∃ w', w' ∈ ws ∧ (∃ v', Rep X.K H w' v' ∧ RelV v' z) ∧ w'.eq wx = true)) by simp]
    rw [Bool.eq_iff_iff, List.any_eq_true, List.any_eq_true]
    constructor
    · rintro ⟨z, hz, he⟩
      obtain ⟨w', hm, _, he'⟩ := of_decide_eq_true he
      exact ⟨w', hm, he'⟩
    · rintro ⟨w, hm, he⟩
      obtain ⟨i, hi⟩ := List.getElem?_of_mem hm
      have hi2 : i < its.length := by rw [l1]; exact (List.getElem?_eq_some_iff.mp hi).1
      have k1 := (key i w its[i] hi (List.getElem?_eq_getElem hi2)).1
      exact ⟨its[i], List.getElem_mem hi2, k1.trans he⟩
theorem q_inD {k : Nat} (hr : Room k X.A) : QOp X (compareOp .In) rInD := by
  intro pins s σ H x y v u Q I rx ry ⟨wx, wy, G, q, r1, r2, g, h, hQ⟩
  unfold rInD at h
  split at h
  · obtain ⟨b, hb, h⟩ := h
    cases r2
    cases ry
    cases hb with
    | dic hd =>
      cases r1
      obtain ⟨_, us, rd, dp⟩ := hd.rd g
      obtain ⟨hl, hm, vs, rel, dd⟩ := dk_rd I.hok rd
      refine wpAny_in_of (kV_is (P := X.prog) (w := X.w) (k := .inr _) rx) hm dd.mapOf ⟨.bl _, H, I.tok _, rfl, hQ _ H _ G (TLe.refl H) ?_ g h⟩
      rw [← (rel.val _).isSome_eq, dp.isSome]
      exact .bl _
    | lst ea l =>
      obtain ⟨e, its, p, he, ha, _⟩ := inList hr I rx r1 g ea l
      refine SeqAt.in_listAt e p he ?_
      rw [ha]
      exact ⟨.bl _, H, I, rfl, hQ _ H _ G (TLe.refl H) (.bl _) g h⟩
  · exact h.elim
theorem q_notInD {k : Nat} (hr : Room k X.A) : QOp X (compareOp .NotIn) rNinD := by
  intro pins s σ H x y v u Q I rx ry ⟨wx, wy, G, q, r1, r2, g, h, hQ⟩
  unfold rNinD at h
  split at h
  · obtain ⟨b, hb, h⟩ := h
    cases r2
    cases ry
    cases hb with
    | dic hd =>
      cases r1
      obtain ⟨_, us, rd, dp⟩ := hd.rd g
      obtain ⟨hl, hm, vs, rel, dd⟩ := dk_rd I.hok rd
      refine wpAny_notIn_of (kV_is (P := X.prog) (w := X.w) (k := .inr _) rx) hm dd.mapOf ⟨.bl _, H, I.tok _, rfl, hQ _ H _ G (TLe.refl H) ?_ g h⟩
      rw [← (rel.val _).isSome_eq, dp.isSome]
      exact .bl _
    | lst ea l =>
      obtain ⟨e, its, p, he, ha, _⟩ := inList hr I rx r1 g ea l
      refine SeqAt.notIn_listAt e p he ?_
      rw [ha]
      exact ⟨.bl _, H, I, rfl, hQ _ H _ G (TLe.refl H) (.bl _) g h⟩
  · exact h.elim
noncomputable def wDicN : WE := fun _ G q => ∀ p, G p = none → q (.ref p) (updG G p (.dic []))
theorem qe_dicN {pos : Pos} : QE X (.Dict [] [] pos) wDicN :=
  pe_dnewK.imp fun σ H Q z0 => z0.el fun τ G q hs hg ht hQ p hp => hQ _ _ _ _ (TLe.new hp _) (.ref p) (hg.lay (g := .dic []) (TLe.new hp _) ⟨Nat.zero_le _, [], upd_same, rfl, .nil⟩) (ht p (hg.fresh hp))
noncomputable def wDPut (tv to ti : WE) : WS := fun d τ G => tv τ G fun w G1 => to τ G1 fun x G2 => ti τ G2 fun y G3 => ∃ a z kvs, x = .ref a ∧ y = .str z ∧ G3 a = some (.dic kvs) ∧ kvs.length + 1 ≤ 100000 ∧ d.nx τ (updG G3 a (.dic (putD kvs (.inr z) w)))
theorem qs_dput {o i value : Expr} {to ti tv : WE} {pos pos' : Pos} (hv : QE X value tv) (ho : QE X o to) (hi : QE X i ti) (hs : swapsWith value (some (.Subscript o i pos')) pos.line X.env = pure false := by rfl) :
    QS X (.Assign [.Subscript o i pos'] value pos) (wDPut tv to ti) := by
  intro pins s σ H D I h
  obtain ⟨τ, G, d, hst, hg, ht, l⟩ := h
  refine wpAny_Assign_Subscript (thn (hv pins s σ H (fun v H1 => ∃ w G1, TLe H H1 ∧ Rep X.K H1 w v ∧ RelG X.K H1 G1 ∧ to τ G1 fun x G2 => ti τ G2 fun y G3 => ∃ a z kvs, x = .ref a ∧ y = .str z ∧ G3 a = some (.dic kvs) ∧ kvs.length + 1 ≤ 100000 ∧ d.nx τ (updG G3 a (.dic (putD kvs (.inr z) w)))) I ⟨τ, G, _, hst, hg, ht, fun v H1 w G1 t1 r1 g1 q1 => ⟨w, G1, t1, r1, g1, q1⟩⟩) fun r s1 ⟨v, H1, I1, rv, w, G1, t1, r1, g1, q1⟩ => ?_) hs
  refine thn (ho pins s1 σ H1 (fun v2 H2 => ∃ w2 G2, TLe H1 H2 ∧ Rep X.K H2 w2 v2 ∧ RelG X.K H2 G2 ∧ ti τ G2 fun y G3 => ∃ a z kvs, w2 = .ref a ∧ y = .str z ∧ G3 a = some (.dic kvs) ∧ kvs.length + 1 ≤ 100000 ∧ d.nx τ (updG G3 a (.dic (putD kvs (.inr z) w)))) I1 ⟨τ, G1, _, hst.mono t1, g1, q1, fun v2 H2 w2 G2 t2 r2 g2 q2 => ⟨w2, G2, t2, r2, g2, q2⟩⟩) fun u s2 ⟨x, H2, I2, rx, w2, G2, t2, r2, g2, q2⟩ => ?_
  refine thn (hi pins s2 σ H2 (fun v3 H3 => ∃ w3 G3, TLe H2 H3 ∧ Rep X.K H3 w3 v3 ∧ RelG X.K H3 G3 ∧ ∃ a z kvs, w2 = .ref a ∧ w3 = .str z ∧ G3 a = some (.dic kvs) ∧ kvs.length + 1 ≤ 100000 ∧ d.nx τ (updG G3 a (.dic (putD kvs (.inr z) w)))) I2 ⟨τ, G2, _, (hst.mono t1).mono t2, g2, q2, fun v3 H3 w3 G3 t3 r3 g3 q3 => ⟨w3, G3, t3, r3, g3, q3⟩⟩) fun iv s3 ⟨y, H3, I3, ry, w3, G3, t3, r3, g3, a, z, kvs, e1, e2, e3, hl, q3⟩ => ?_
  subst e1 e2
  cases r2
  cases r3
  cases rx
  obtain ⟨_, us, e4, n4, r4⟩ := g3 a _ e3
  have dp := DP.of n4 r4
  obtain ⟨zl, hd, vs, rel, dd⟩ := dk_of I3.hok e4
  have hz : vs.length ≤ sizeLine := by rw [← rel.length]; exact zl
  have hlen : kvs.length + 1 ≤ sizeLine := line_le hl
  have hl2 : (putK us (.inr z) v).length ≤ sizeLine := by have := length_putK us (.inr z) v; have := dp.len; (clear hv ho hi hs I hst hg ht l I1 rv t1 r1 g1 q1 I2 t2 g2 I3 t3 g3 e3 hl q3 q2 ry e4 n4 r4 dp zl hd rel dd hz; omega)
  refine wpAny_setItem_pairs (hsz := hz) (kV_is (P := X.prog) (w := X.w) (k := .inr z) ry) dd fun h' dd' hs => ?_
  have he : ∃ q, h'.get? a = some q := let ⟨q, _, _, hq, _⟩ := dd'; ⟨q, hq⟩
  have I4 := d_write (t' := s3.toks + 1) I3 (by rw [e4]; exact True.intro) hs he (dk_new hl2 hd (rel.put (.inr z) rv) dd')
  have tt := (t1.trans t2).trans t3
  have t4 := TLe.dk e4 (.dK (putK us (.inr z) v))
  have dp2 := (dp.put (.inr z) (r1.mono (t2.trans t3))).mono t4
  exact ⟨σ, _, I4, l.nx σ _ τ _ (tt.trans t4) (hst.mono (tt.trans t4)) (g3.lay (g := .dic _) t4 ⟨Nat.le_trans (putD_len _ _ _) hl, _, upd_same, dp2.keys, dp2.vals⟩) q3⟩
noncomputable def WEnds.th (a : Addr) (d : WEnds) : WEnds where
  nx := fun τ G => ∃ o us kvs, G a = some (.fdc o us kvs) ∧ d.nx τ (updG G a (.dic kvs))
  rt := fun w G => ∃ o us kvs, G a = some (.fdc o us kvs) ∧ d.rt w (updG G a (.dic kvs))
  bk := fun τ G => ∃ o us kvs, G a = some (.fdc o us kvs) ∧ d.bk τ (updG G a (.dic kvs))
  ct := fun τ G => ∃ o us kvs, G a = some (.fdc o us kvs) ∧ d.ct τ (updG G a (.dic kvs))
noncomputable def Ends.th (a : Addr) (d : Ends) : Ends where
  nx := fun τ G => ∃ o us, G a = some (.frz o (.dK us)) ∧ d.nx τ (upd G a (.dK us))
  rt := fun w G => ∃ o us, G a = some (.frz o (.dK us)) ∧ d.rt w (upd G a (.dK us))
  bk := fun τ G => ∃ o us, G a = some (.frz o (.dK us)) ∧ d.bk τ (upd G a (.dK us))
  ct := fun τ G => ∃ o us, G a = some (.frz o (.dK us)) ∧ d.ct τ (upd G a (.dK us))
theorem ps_thaw {st : Stmt} {t : TS} (h : PS X st t) : PS X st (fun D σ H => ∃ a us, H a = some (.dK us) ∧ t (Ends.th a D) σ H) := by
  intro pins s σ H D I ⟨a, us, e, q⟩
  have h0 := I.nofrz e
  refine thn (h pins s σ H _ I q) fun f s1 z => ?_
  cases f with
  | next => obtain ⟨σ1, H1, I1, o, us, e, q⟩ := z; exact ⟨σ1, _, I1.thaw e h0, q⟩
  | cont => obtain ⟨σ1, H1, I1, o, us, e, q⟩ := z; exact ⟨σ1, _, I1.thaw e h0, q⟩
  | brk => obtain ⟨σ1, H1, I1, o, us, e, q⟩ := z; exact ⟨σ1, _, I1.thaw e h0, q⟩
  | ret u => obtain ⟨v, σ1, H1, I1, rv, o, us, e, q⟩ := z; exact ⟨v, σ1, _, I1.thaw e h0, rv, q⟩
theorem RelG.thaw {K : PySem.W.Frag} {G : Gp} {a : Addr} {o : Obj} {us : List (Key × V)} {kvs : List (Key × W)} (g : RelG K H G) (e : G a = some (.fdc o us kvs)) :
    H a = some (.frz o (.dK us)) ∧ TLe H (L2.upd H a (.dK us)) ∧ RelG K (L2.upd H a (.dK us)) (updG G a (.dic kvs)) := by
  obtain ⟨l, e1, n, r⟩ := g a _ e
  have t := TLe.fz e1 (.dK us)
  exact ⟨e1, t, g.lay (g := .dic _) t ⟨l, us, upd_same, n, r.mono t⟩⟩
noncomputable def wThaw (t : WS) : WS := fun d τ G => ∃ a kvs, G a = some (.dic kvs) ∧ t (d.th a) τ G
theorem qs_thaw {st : Stmt} {t : WS} (h : QS X st t) : QS X st (wThaw t) :=
  (ps_thaw h).imp fun D σ H z0 => z0.el fun τ G d hs hg ⟨a, kvs, ea, ht⟩ l => by
    obtain ⟨_, us, e1, _⟩ := hg a _ ea
    refine ⟨a, us, e1, τ, G, d.th a, hs, hg, ht, ⟨?_, ?_, ?_, ?_⟩⟩
    · rintro σ1 H1 τ1 G1 t1 s1 g1 ⟨o, us, kvs, e, q⟩
      obtain ⟨e2, t2, g2⟩ := g1.thaw e
      exact ⟨o, us, e2, l.nx _ _ _ _ (t1.trans t2) (s1.mono t2) g2 q⟩
    · rintro v H1 w G1 t1 r1 g1 ⟨o, us, kvs, e, q⟩
      obtain ⟨e2, t2, g2⟩ := g1.thaw e
      exact ⟨o, us, e2, l.rt _ _ _ _ (t1.trans t2) (r1.mono t2) g2 q⟩
    · rintro σ1 H1 τ1 G1 t1 s1 g1 ⟨o, us, kvs, e, q⟩
      obtain ⟨e2, t2, g2⟩ := g1.thaw e
      exact ⟨o, us, e2, l.bk _ _ _ _ (t1.trans t2) (s1.mono t2) g2 q⟩
    · rintro σ1 H1 τ1 G1 t1 s1 g1 ⟨o, us, kvs, e, q⟩
      obtain ⟨e2, t2, g2⟩ := g1.thaw e
      exact ⟨o, us, e2, l.ct _ _ _ _ (t1.trans t2) (s1.mono t2) g2 q⟩
noncomputable def kW : Key → W
  | .inl i => .int i
  | .inr x => .str x
theorem rep_kW {K : PySem.W.Frag} (k : Key) : Rep K H (kW k) (kV k) := by
  cases k with
  | inl i => exact .int i
  | inr x => exact .str x
theorem RelG.freeze {K : PySem.W.Frag} {G : Gp} {a : Addr} {us : List (Key × V)} {kvs : List (Key × W)} (g : RelG K H G) (e : G a = some (.dic kvs)) (e1 : H a = some (.dK us)) (o : Obj) :
    TLe H (L2.upd H a (.frz o (.dK us))) ∧ RelG K (L2.upd H a (.frz o (.dK us))) (updG G a (.fdc o us kvs)) := by
  obtain ⟨l, us', e2, n, r⟩ := g a _ e
  rw [e1] at e2; cases e2
  have t := TLe.dk e1 (.frz o (.dK us))
  exact ⟨t, g.lay (g := .fdc _ _ _) t ⟨l, upd_same, n, r.mono t⟩⟩
theorem itn_keys {K : PySem.W.Frag} {a : Addr} {o : Obj} {us : List (Key × V)} {kvs : List (Key × W)} : Itn K (Itk a o us) (kvs.map fun p => kW p.1) (fun G => G a = some (.fdc o us kvs)) H where
  stop := fun i H1 G t g e hl => by
    obtain ⟨_, e1, n, r⟩ := g a _ e
    have := (DP.of n r).len
    rw [List.length_map] at hl
    exact ⟨e1, by (clear t g e e1 n r; omega)⟩
  go := fun i w H1 G t g eG e => by
    obtain ⟨_, e1, n, r⟩ := g a _ eG
    have hl := (DP.of n r).len
    rw [List.getElem?_map] at e
    cases hk : kvs[i]? with
    | none => rw [hk] at e; cases e
    | some p =>
      rw [hk] at e; cases e
      have hi := (List.getElem?_eq_some_iff.mp hk).1
      refine ⟨⟨e1, by (clear t g eG e1 n r hk; omega)⟩, fun x H' ⟨eH, kv, h1, h2⟩ => ?_⟩
      subst eH h2
      have h3 : (us.map (·.1))[i]? = some kv.1 := by rw [List.getElem?_map, h1]; rfl
      rw [n, List.getElem?_map, hk] at h3
      have h3' : p.1 = kv.1 := Option.some.inj h3
      exact ⟨TLe.refl _, by show Rep K _ (kW p.1) _; rw [h3']; exact rep_kW _, g⟩
theorem itn_vals {K : PySem.W.Frag} {a : Addr} {o : Obj} {us : List (Key × V)} {kvs : List (Key × W)} : Itn K (Itdv a o us) (kvs.map (·.2)) (fun G => G a = some (.fdc o us kvs)) H where
  stop := fun i H1 G t g e hl => by
    obtain ⟨_, e1, n, r⟩ := g a _ e
    have := (DP.of n r).len
    rw [List.length_map] at hl
    exact ⟨e1, by (clear t g e e1 n r; omega)⟩
  go := fun i w H1 G t g eG e => by
    obtain ⟨_, e1, n, r⟩ := g a _ eG
    have hl := (DP.of n r).len
    obtain ⟨v, h3, rv⟩ := r.get e
    have hi := (List.getElem?_eq_some_iff.mp e).1
    rw [List.length_map] at hi
    refine ⟨⟨e1, by (clear t g eG e e1 n r h3 rv; omega)⟩, fun x H' ⟨eH, kv, h1, h2⟩ => ?_⟩
    subst eH h2
    rw [List.getElem?_map, h1] at h3
    cases h3
    exact ⟨TLe.refl _, rv, g⟩
variable {tg : Expr}
noncomputable def jKeys (i : Nat) : WI := fun τ G r => match τ[i]? with
  | some (some (.ref a)) => ∃ kvs, G a = some (.dic kvs) ∧ ∀ o us, r (kvs.map fun p => kW p.1) (fun G => G a = some (.fdc o us kvs)) (updG G a (.fdc o us kvs))
  | _ => False
theorem qi_keys (i : Nat) {x : Str} {p : Pos} (hN : X.N[i]? = some x) (hv : Vis X.env.scope x) (hd : (x == ("__debug__" : Str)) = false := by decide) (hcd : (x == ("__classdict__" : Str)) = false := by decide) : QI X tg (.Name x p) (jKeys i) :=
  (pi_keys hN hv hd hcd).imp fun σ H R ⟨τ, G, r, hs, hg, ht, hR⟩ => by
    unfold jKeys at ht
    split at ht
    · rename_i a e
      obtain ⟨kvs, ea, ht⟩ := ht
      obtain ⟨v, e1, rv⟩ := hs.2 i _ e
      cases rv
      obtain ⟨_, us, e2, _⟩ := hg a _ ea
      refine ⟨a, us, e1, e2, fun o => ?_⟩
      obtain ⟨t, g⟩ := hg.freeze ea e2 o
      exact hR _ _ _ _ _ t g itn_keys (ht o us)
    · exact ht.elim
noncomputable def jVals (i : Nat) : WI := fun τ G r => match τ[i]? with
  | some (some (.ref a)) => ∃ kvs, G a = some (.dic kvs) ∧ ∀ o us, r (kvs.map (·.2)) (fun G => G a = some (.fdc o us kvs)) (updG G a (.fdc o us kvs))
  | _ => False
theorem qi_vals (i : Nat) {x : Str} {p apos cpos : Pos} (hN : X.N[i]? = some x) (hv : Vis X.env.scope x) (hd : (x == ("__debug__" : Str)) = false := by decide) (hcd : (x == ("__classdict__" : Str)) = false := by decide)
    (hbase : attributeBase (.Name x p) "values" X.env (eval (.Name x p) X.env) = eval (.Name x p) X.env := by rfl) (hline : (apos.endLine == cpos.line) = true := by rfl) :
    QI X tg (.Call (.Attribute (.Name x p) "values" apos) [] [] cpos) (jVals i) :=
  (pi_vals hN hv hd hcd hbase hline).imp fun σ H R ⟨τ, G, r, hs, hg, ht, hR⟩ => by
    unfold jVals at ht
    split at ht
    · rename_i a e
      obtain ⟨kvs, ea, ht⟩ := ht
      obtain ⟨v, e1, rv⟩ := hs.2 i _ e
      cases rv
      obtain ⟨_, us, e2, _⟩ := hg a _ ea
      refine ⟨a, us, e1, e2, fun o => ?_⟩
      obtain ⟨t, g⟩ := hg.freeze ea e2 o
      exact hR _ _ _ _ _ t g itn_vals (ht o us)
    · exact ht.elim
end
end L2
set_option linter.all false
set_option maxRecDepth 100000
namespace L2
open PySem PySem.Spec PyProof.Rows
noncomputable def Iti (d : Addr) (o : Obj) (kvs : List (Key × V)) : It :=
  ⟨fun i H => H d = some (.frz o (.dK kvs)) ∧ i < kvs.length,
   fun i H y H' => ∃ p kv, H p = none ∧ kvs[i]? = some kv ∧ y = .ref p ∧ H' = upd H p (.tup [kV kv.1, kv.2]),
   fun i H => H d = some (.frz o (.dK kvs)) ∧ kvs.length ≤ i⟩
theorem turn_items {P : Program} {w : World} {K : PySem.W.Frag} {elts : List Expr} {k : Nat} {pos : Pos} {o : Obj} {kvs : List (Key × V)} {es : Array DictEntry} {ep : Nat} (it d : Addr) (hne : d ≠ it) (hd : o.data = .dict es ep) :
    Turn P w K (.Tuple elts k pos) (Iti d o kvs) [it] it (fun i h => i ≤ kvs.length ∧ ∃ ok ov, IsItemIter h it d i kvs.length ep ok ov) where
  mem := by simp
  obj := fun i h st b hb => by
    have e : b = it := by simpa using hb
    subst e
    obtain ⟨_, ok, ov, e1⟩ := st
    exact ⟨_, e1, fun v z => by cases z⟩
  keep := fun i h h' st k => by
    obtain ⟨hi, ok, ov, e1⟩ := st
    exact ⟨hi, ok, ov, k it (by simp) _ e1⟩
  item := by
    intro X hP hw hK hc i pins s σ H E I hf st hg
    subst hP hw hK
    obtain ⟨f0, f1, f2, f3, f4, f5⟩ := hf it (by simp)
    obtain ⟨hfz, hi⟩ := hg
    obtain ⟨vs, kv, da, _⟩ := I.dictAt hfz hd
    have hl := kv.length
    obtain ⟨_, ok, ov, hit⟩ := st
    have hi2 : i < vs.length := by (clear hne hd hc I hf f0 f1 f2 f3 f4 f5 hfz kv da hit; omega)
    have e0 := List.getElem?_eq_getElem hi
    have e1 := List.getElem?_eq_getElem hi2
    obtain ⟨pk, pv⟩ := paired_at kv e0 e1
    rw [hl] at hit
    refine wpAny_pyNext_items_item (knd := mixKind X.prog X.w) (k := vs[i].1) (v := vs[i].2) hit da e1 fun key h1 hkey ho ht hsz kk => ⟨_, rfl, ?_⟩
    refine PySem.wpAny_letOwnedTupleGo_items ho fun h2 he2 sb2 => ?_
    have lt : ∀ {c : Addr} {o : Obj}, s.heap.get? c = some o → c ≠ s.heap.objs.size := fun e => Nat.ne_of_lt (Heap.lt_size e)
    have hnew : H s.heap.objs.size = none := I.hok.fresh (Nat.le_refl _)
    have ene : it ≠ s.heap.objs.size := lt hit
    have keep : ∀ c o, c ≠ it → s.heap.get? c = some o → h2.get? c = some o := fun c o c1 q => sb2.extBut c o c1 (kk c o c1 q)
    have tn : h2.get? s.heap.objs.size = some { cls := .type "tuple", data := .seq #[key, vs[i].2] } := sb2.extBut _ _ (Ne.symm ene) ht
    have notin : ∀ {c : Addr}, c ∉ [it] → c ≠ it := fun {c} hc => by simpa using hc
    have tracked : ∀ c u, H c = some u → c ∉ [it] := fun c u q hc => by
      rw [(hf c hc).1] at q; cases q
    have rk : RelV (kV kvs[i].1) key := by rw [pk]; exact rel_key hkey
    refine ⟨.ref s.heap.objs.size, upd H s.heap.objs.size (.tup [kV kvs[i].1, kvs[i].2]), ?_, rfl, ⟨_, _, hnew, e0, rfl, rfl⟩, ⟨by assumption, key, vs[i].2, by rw [hl]; exact he2⟩, fun c hc => ?_⟩
    · show Inv X pins σ _ { s with heap := h2, gens := s.gens, drawn := s.drawn, toks := s.toks }
      refine I.step (g' := s.gens) (d' := s.drawn) (t' := s.toks) (ch := [it]) (fun c hc => ?_) (fun c o _ _ hc q _ => ?_) (fun c o _ _ hc q _ => ⟨o.slots, ?_⟩) (fun c o _ q n => ?_) (fun c o hc q => ⟨o, ?_⟩) (fun c xs q => ?_) (fun c o u q => ?_) (fun c ps q => ⟨#[], ?_⟩) (fun m hm => ?_) (fun c u q => ?_) I.bare
      · obtain ⟨_, f1, _, f3, f4, f5⟩ := hf c hc
        exact ⟨f3, f1, f4, f5⟩
      · exact keep c o (notin hc) q
      · exact keep c o (notin hc) q
      · rw [upd_ne (lt q)]; exact n
      · exact keep c o (notin hc) q
      · rw [upd_ne (ne_of_none q hnew)]; exact q
      · rw [upd_ne (ne_of_none q hnew)]; exact q
      · rw [upd_ne (ne_of_none q hnew), q]; simp
      · obtain ⟨o, es, ep, ho, rest⟩ := hm
        exact ⟨o, es, ep, keep _ o (Ne.symm f1) ho, rest⟩
      · by_cases hcs : c = s.heap.objs.size
        · subst hcs
          rw [upd_same] at q; cases q
          exact ⟨by show 2 ≤ sizeLine; decide, [key, vs[i].2], .cons rk (.cons pv .nil), ⟨_, tn, rfl, _, rfl⟩⟩
        · rw [upd_ne hcs] at q
          refine (I.hok c u q).stay (fun c' v hc' q => ?_) (fun c' q => by rw [upd_ne (ne_of_none q hnew)]; exact q) fun c' xs q => by rw [upd_ne (ne_of_none q hnew)]; exact q
          have nt : c' ∉ [it] := by
            rcases hc' with rfl | hc'
            · exact tracked _ _ ‹_›
            · exact tracked _ _ hc'
          exact keep c' v (notin nt) q
    · have hc' : c = it := by simpa using hc
      subst hc'
      rw [upd_ne ene]; exact f0
  done := by
    intro X hP hw hK hc i pins s σ H E I hf st hg
    subst hP hw hK
    obtain ⟨f0, f1, f2, f3, f4, f5⟩ := hf it (by simp)
    obtain ⟨hfz, hi⟩ := hg
    obtain ⟨vs, kv, da, _⟩ := I.dictAt hfz hd
    have hl := kv.length
    obtain ⟨hi2, ok, ov, hit⟩ := st
    rw [hl] at hit
    exact wpAny_pyNext_items_end (knd := mixKind X.prog X.w) (I.ok.hd hc) hit da (List.getElem?_eq_none (by (clear hne hd hc I hf f0 f1 f2 f3 f4 f5 hfz kv da hit; omega))) fun h' kk => ⟨rfl, I.turned (t' := s.toks) (fun b o hb e => kk b o (by simpa using hb) e) f0 f1 f3 f4 f5⟩
  self := fun A i s Q E st h => let ⟨_, _, _, hit⟩ := st; PySem.W.kcp_self hit h
section
variable {X : Cx} {elts : List Expr} {k : Nat} {tp : Pos}
theorem pi_items {i : Nat} {x : Str} {p apos cpos : Pos} (hN : X.N[i]? = some x) (hv : Vis X.env.scope x) (hd : (x == ("__debug__" : Str)) = false := by decide) (hcd : (x == ("__classdict__" : Str)) = false := by decide)
    (hbase : attributeBase (.Name x p) "items" X.env (eval (.Name x p) X.env) = eval (.Name x p) X.env := by rfl) (hline : (apos.endLine == cpos.line) = true := by rfl) :
    PI X (.Tuple elts k tp) (.Call (.Attribute (.Name x p) "items" apos) [] [] cpos) (fun σ H R => ∃ a kvs, σ[i]? = some (some (.ref a)) ∧ H a = some (.dK kvs) ∧ ∀ o, R (Iti a o kvs) (upd H a (.frz o (.dK kvs)))) := by
  intro pins s σ H R I ⟨a, kvs, hi, e, h⟩
  refine wpAny_Call_method0_late hbase hline (thn (pe_var (pos := p) hN hv hd hcd pins s σ H (fun v H' => v = .ref a ∧ H' = H) I ⟨_, hi, rfl, rfl⟩) fun u s1 ⟨v, H1, I1, r, hv1, hH⟩ => ?_)
  subst hv1; subst hH
  obtain rfl : u = Value.ref a := r
  obtain ⟨_, hm, vs, kv, o, es, ep, h1, h2, h3, h4⟩ := dk_of I1.hok e
  have ty : tyV X.K "dict" (.ref a) H1 := .inr (.inr (.inl ⟨rfl, .inl ⟨kvs, e⟩⟩))
  obtain ⟨t1, t2⟩ := tyV_is I1 (show RelV (V.ref a) (Value.ref a) from rfl) ty
  refine ⟨"dict", _, PySem.F.plainAttrs_dict, PySem.F.slot_dict_items, PySem.F.type_dict_items, t1, t2, Calls.callWith_builtin rfl (PySem.evalArgs_none ?_)⟩
  refine call_meetsIn PySem.F.slot_dict_items t1 PySem.F.entry_dict_items (PySem.F.args_dict_items_1 _) (meets_dict_items (mixKind X.prog X.w) a hm) ⟨⟨vs, o, es, ep, h1, h2, h3, h4⟩, ?_⟩
  have I2 : Inv X pins σ H1 { s1 with heap := s1.heap.push { cls := .type "dict_items", data := .fields #[.ref a] } } := I1.kept (t' := s1.toks) fun b o e => Heap.get?_push_of_some _ e
  have h1' : (s1.heap.push { cls := .type "dict_items", data := .fields #[.ref a] }).get? a = some o := Heap.get?_push_of_some _ h1
  have J := I2.freeze e h1'
  refine wpAny_pyIter_items (knd := mixKind X.prog X.w) (d := a) ⟨_, Heap.get?_push_size _ rfl, rfl, rfl⟩ ⟨o, es, h1', h2, h3, h4⟩ ?_
  have hne : a ≠ (s1.heap.push { cls := .type "dict_items", data := .fields #[.ref a] }).objs.size := Nat.ne_of_lt (Heap.lt_size h1')
  refine ⟨_, [(s1.heap.push { cls := .type "dict_items", data := .fields #[.ref a] }).objs.size], _, _, _, rfl, J.kept (t' := s1.toks) fun b o e => Heap.get?_push_of_some _ e, turn_items (o := o) (kvs := kvs) (es := es) (ep := ep) _ a hne h3, ⟨Nat.zero_le _, .none, .none, by rw [kv.length]; exact Heap.get?_push_size _ rfl⟩, fun b hb => ?_, h o⟩
  have e : b = (s1.heap.push { cls := .type "dict_items", data := .fields #[.ref a] }).objs.size := by simpa using hb
  subst e
  exact J.fpOk (Nat.le_refl _) (J.hok.fresh (Nat.le_refl _))
theorem itn_items {K : PySem.W.Frag} {H : Hp} {a : Addr} {o : Obj} {us : List (Key × V)} {kvs : List (Key × W)} : Itn K (Iti a o us) (kvs.map fun p => .tup [kW p.1, p.2]) (fun G => G a = some (.fdc o us kvs)) H where
  stop := fun i H1 G t g e hl => by
    obtain ⟨_, e1, n, r⟩ := g a _ e
    have := (DP.of n r).len
    rw [List.length_map] at hl
    exact ⟨e1, by (clear t g e e1 n r; omega)⟩
  go := fun i w H1 G t g eG e => by
    obtain ⟨_, e1, n, r⟩ := g a _ eG
    have hl := (DP.of n r).len
    rw [List.getElem?_map] at e
    cases hk : kvs[i]? with
    | none => rw [hk] at e; cases e
    | some p =>
      rw [hk] at e; cases e
      have hi := (List.getElem?_eq_some_iff.mp hk).1
      obtain ⟨v, h5, rv⟩ := r.get (i := i) (w := p.2) (by rw [List.getElem?_map, hk]; rfl)
      refine ⟨⟨e1, by (clear t g eG e1 n r hk h5 rv; omega)⟩, fun x H' ⟨q, kv, hq, h1, h2, h3⟩ => ?_⟩
      subst h2 h3
      have h4 : (us.map (·.1))[i]? = some kv.1 := by rw [List.getElem?_map, h1]; rfl
      rw [n, List.getElem?_map, hk] at h4
      have h4' : p.1 = kv.1 := Option.some.inj h4
      rw [List.getElem?_map, h1] at h5
      cases h5
      have tn := TLe.new hq (HO.tup [kV kv.1, kv.2])
      refine ⟨tn, .tup upd_same (.cons ?_ (.cons (rv.mono tn) .nil)), g.keep hq _⟩
      rw [h4']; exact rep_kW _
noncomputable def jItems (i : Nat) : WI := fun τ G r => match τ[i]? with
  | some (some (.ref a)) => ∃ kvs, G a = some (.dic kvs) ∧ ∀ o us, r (kvs.map fun p => .tup [kW p.1, p.2]) (fun G => G a = some (.fdc o us kvs)) (updG G a (.fdc o us kvs))
  | _ => False
theorem qi_items (i : Nat) {x : Str} {p apos cpos : Pos} (hN : X.N[i]? = some x) (hv : Vis X.env.scope x) (hd : (x == ("__debug__" : Str)) = false := by decide) (hcd : (x == ("__classdict__" : Str)) = false := by decide)
    (hbase : attributeBase (.Name x p) "items" X.env (eval (.Name x p) X.env) = eval (.Name x p) X.env := by rfl) (hline : (apos.endLine == cpos.line) = true := by rfl) :
    QI X (.Tuple elts k tp) (.Call (.Attribute (.Name x p) "items" apos) [] [] cpos) (jItems i) :=
  (pi_items hN hv hd hcd hbase hline).imp fun σ H R ⟨τ, G, r, hs, hg, ht, hR⟩ => by
    unfold jItems at ht
    split at ht
    · rename_i a e
      obtain ⟨kvs, ea, ht⟩ := ht
      obtain ⟨v, e1, rv⟩ := hs.2 i _ e
      cases rv
      obtain ⟨_, us, e2, _⟩ := hg a _ ea
      refine ⟨a, us, e1, e2, fun o => ?_⟩
      obtain ⟨t, g⟩ := hg.freeze ea e2 o
      exact hR _ _ _ _ _ t g itn_items (ht o us)
    · exact ht.elim
end
end L2
set_option linter.all false
set_option maxRecDepth 100000
namespace L2
open PySem PySem.Spec PyProof.Rows
section
variable {X : Cx} {pins : List (Addr × Obj)} {σ : St} {H : Hp} {s : Shared}
noncomputable def isD (t : String) : Bool := t == "dict"
theorem kit_dict {K : PySem.W.Frag} {t : String} (ht : t = "NoneType" ∨ t = "bool" ∨ t = "int" ∨ t = "str" ∨ t = "tuple" ∨ t = "list" ∨ t = "dict") : PySem.W.kitOne K (.type t) (.type "dict") = some (isD t) := by
  rcases ht with rfl | rfl | rfl | rfl | rfl | rfl | rfl <;> first | rfl | kernel_rfl | decide +kernel
noncomputable def wIsD (te : WE) : WE := fun τ G q => te τ G fun x G1 => match tyN G1 x with | some t => q (.bl (isD t)) G1 | none => False
theorem b_dict : bootBuiltins "dict" = some (.type "dict") := by decide +kernel
theorem qe_isiD {e : Expr} {te : WE} {p p2 pos : Pos} (hm : X.mg "dict" = none) (hgx : Gl X "dict") (hm1 : X.mg "isinstance" = none) (hg1 : Gl X "isinstance") (he : QE X e te)
    (hs1 : starEach [e, .Name "dict" p2] X.env = (false, eval e X.env) :: starEach [.Name "dict" p2] X.env := by rfl) (hs2 : starEach [.Name "dict" p2] X.env = (false, eval (.Name "dict" p2) X.env) :: starEach [] X.env := by rfl)
    (hpl : (backTo pos (starEach [.Name "dict" p2] X.env)).any (·.1) = false := by rfl) : QE X (.Call (.Name "isinstance" p) [e, .Name "dict" p2] [] pos) (wIsD te) := by
  have hb : PE X (.Name "dict" p2) (tC (.ty "dict")) := pe_bltn hgx hm b_dict rfl (by decide) (by decide)
  have ha : PA X [e, .Name "dict" p2] (tCons (LEx X.K te) (tCons (tC (.ty "dict")) tNil)) := pa_cons he (pa_cons hb pa_nil hs2) hs1
  have hc : CallR X (.builtin "isinstance") (fun vs H Q => ∃ (v : V) (w : W) (G : Gp) (q : WK), vs = [v, .ty "dict"] ∧ Rep X.K H w v ∧ RelG X.K H G ∧ (match tyN G w with | some t => q (.bl (isD t)) G | none => False) ∧ ∀ v H1 w G1, TLe H H1 → Rep X.K H1 w v → RelG X.K H1 G1 → q w G1 → Q v H1) := by
    intro pins s σ H xs us Q I r ⟨v, w, G, q, e1, r1, g1, h, hQ⟩
    subst e1
    obtain ⟨u, u2, rfl, ru, ru2⟩ := vals2 r
    cases (show u2 = Value.type "dict" from ru2)
    split at h
    · rename_i t e
      obtain ⟨ty, hk⟩ := tyOf_rep g1 r1 e
      exact isinst_ok I ru ty (kit_dict hk) fun tk => ⟨.bl _, H, I.tok tk, rfl, hQ _ H _ G (TLe.refl H) (.bl _) g1 h⟩
    · exact h.elim
  exact (pe_callB hc hg1 hm1 boot_isi ha (by decide) (by decide) hs1 hpl).imp fun σ H Q z0 => z0.el fun τ G q hs hg ht hQ => ⟨τ, G, _, hs, hg, ht, fun v H1 w G1 t1 r1 g1 q1 =>
    ⟨v, w, G1, q, rfl, r1, g1, q1, fun v2 H2 w2 G2 t2 => hQ v2 H2 w2 G2 (t1.trans t2)⟩⟩
inductive LenW (G : Gp) (a : Addr) : Nat → Prop where
  | lst {ws : List W} (h : G a = some (.lst ws)) : LenW G a ws.length
  | dic {kvs : List (Key × W)} (h : GD G a kvs) : LenW G a kvs.length
noncomputable def cLenD : List W → Gp → WK → Prop := fun ws G q => match ws with
  | [.ref a] => ∃ n : Nat, LenW G a n ∧ q (.int n) G
  | ws => cLenS ws G q
theorem q_lenD : QCall X (.builtin "len") cLenD := by
  intro pins s σ H xs us Q I r ⟨ws, G, q, rw', g, h, hQ⟩
  unfold cLenD at h
  split at h
  · obtain ⟨n, hn, h⟩ := h
    cases hn with
    | lst e => exact q_len pins s σ H xs us Q I r ⟨_, G, q, rw', g, ⟨_, e, h⟩, hQ⟩
    | dic hd =>
      obtain ⟨v, rfl, r1⟩ := rw'.one
      cases r1
      obtain ⟨u, rfl, ru⟩ := vals1 r
      cases ru
      obtain ⟨_, us, rd, dp⟩ := hd.rd g
      refine d_len I rd fun t s' I' => ⟨.int us.length, H, I', ⟨t, rfl⟩, hQ _ H _ G (TLe.refl H) ?_ g h⟩
      rw [dp.len]; exact .int _
  · exact q_lenS pins s σ H xs us Q I r ⟨ws, G, q, rw', g, h, hQ⟩
inductive ItsW (G : Gp) (a : Addr) : List W → Prop where
  | lst {ws : List W} (h : G a = some (.lst ws)) : ItsW G a ws
  | dic {kvs : List (Key × W)} (h : GD G a kvs) : ItsW G a (kvs.map fun p => kW p.1)
noncomputable def cListD : List W → Gp → WK → Prop := fun ws G q => match ws with
  | [.ref a] => ∃ ws, ItsW G a ws ∧ ∀ p, G p = none → q (.ref p) (updG G p (.lst ws))
  | ws => cList ws G q
theorem vals_of {P : Program} {w : World} : ∀ {us : List (Key × V)} {vs : List (Key × Value)} {its : List Value}, KV us vs → its.length = vs.length → (∀ (j : Nat) (v : Value), its[j]? = some v → ∃ (k : Key) (x : Value), vs[j]? = some (k, x) ∧ (mixKind P w).is k v = true) → Vals (us.map fun p => kV p.1) its
  | [], _, [], .nil, _, _ => .nil
  | [], _, _ :: _, .nil, h, _ => by simp at h
  | _ :: _, _, [], .cons _ _, h, _ => by simp at h
  | p :: us, _, u :: its, .cons r t, h, hv => by
    obtain ⟨k, x, e1, e2⟩ := hv 0 u rfl
    cases e1
    refine .cons ?_ (vals_of (P := P) (w := w) t (by simpa using h) fun j v e => by simpa using hv (j + 1) v (by simpa using e))
    show RelV (kV p.1) u
    rw [show p.1 = k from r.1]
    exact rel_key e2
theorem q_listD (hc : X.calm = true) : QCall X (.type "list") cListD := by
  intro pins s σ H xs us Q I r ⟨ws, G, q, rw', g, h, hQ⟩
  unfold cListD at h
  split at h
  · rename_i a
    obtain ⟨ws, hw, h⟩ := h
    cases hw with
    | lst e => exact q_list pins s σ H xs us Q I r ⟨_, G, q, rw', g, ⟨_, e, h⟩, hQ⟩
    | dic hd =>
      obtain ⟨v, rfl, r1⟩ := rw'.one
      cases r1
      obtain ⟨u, rfl, ru⟩ := vals1 r
      cases ru
      obtain ⟨hl, us, rd, dp⟩ := hd.rd g
      obtain ⟨zl, hm, vs, rel, dd⟩ := dk_rd I.hok rd
      obtain ⟨ep, hat⟩ := dd.dictAt
      refine PySem.W.kdl_call (PySem.W.kdl_dict (knd := mixKind X.prog X.w) (kvs := vs) (ep := ep) hm) (I.ok.hd hc) hat (by rw [← rel.length]; exact zl) fun h' tk acc' c' kp e hacc => ?_
      have rv : Vals (us.map fun p => kV p.1) acc'.toList := vals_of (P := X.prog) (w := X.w) rel (by rw [Array.length_toList]; exact hacc.1) fun j v e => hacc.2 j v (by rw [← Array.getElem?_toList]; exact e)
      have hsz : (us.map fun p => kV p.1).length ≤ sizeLine := by rw [List.length_map]; exact zl
      have hp := I.hok.fresh (Nat.le_refl s.heap.objs.size)
      have e' : h'.get? s.heap.objs.size = some { cls := .type "list", data := .seq acc'.toList.toArray c' } := by simpa using e
      refine ⟨.ref s.heap.objs.size, _, I.laid (t' := tk) (fun b o q => kp b o q) (Nat.le_refl _) (show ObjOk X.prog X.w _ h' _ (.lst (us.map fun p => kV p.1)) from ⟨hsz, acc'.toList, c', rv, e'⟩), rfl, ?_⟩
      have rr : ∀ {kvs : List (Key × W)} {us : List (Key × V)}, DP X.K H kvs us → Reps X.K H (kvs.map fun p => kW p.1) (us.map fun p => kV p.1) := by
          intro kvs us d
          induction d with
          | nil => exact .nil
          | cons r t ih => exact .cons (rep_kW _) ih
      exact hQ _ _ _ _ (TLe.new hp _) (.ref _) (g.put (TLe.new hp _) (rr dp) (by rw [List.length_map]; exact hl)) (h _ (g.fresh hp))
  · exact q_list pins s σ H xs us Q I r ⟨ws, G, q, rw', g, h, hQ⟩
noncomputable def rGet : V → List V → Hp → VK → Prop := fun x vs H Q => ∃ a kvs k d, x = .ref a ∧ vs = [kV k, d] ∧ H a = some (.dK kvs) ∧ Q ((valV kvs k).getD d) H
theorem mt_get : MtR X "dict.get" rGet := by
  intro pins s σ H x vs v us Q I rx rv ⟨a, kvs, k, d, e1, e2, e, q⟩
  subst e1 e2
  cases rx
  obtain ⟨u1, u2, rfl, r1, r2⟩ := vals2 rv
  obtain ⟨z, hd, vs, rel, dd⟩ := dk_of I.hok e
  exact call_meetsIn PySem.F.slot_dict_get dd.typeIs PySem.F.entry_dict_get (PySem.F.args_dict_get_3 _ _ _) (meets_dict_get_default (mixKind X.prog X.w) a (kV_is r1) hd u2) ⟨_, dd.mapOf, _, H, I.tok _, (rel.val k).getD r2, q⟩
noncomputable def wDGet (to tk td : WE) : WE := fun τ G q => to τ G fun x G1 => match x with
  | .ref a => (∃ kvs, G1 a = some (.dic kvs)) ∧ tk τ G1 fun y G2 => td τ G2 fun d G3 => ∃ z kvs, y = .str z ∧ G3 a = some (.dic kvs) ∧ q ((valW kvs (.inr z)).getD d) G3
  | _ => False
theorem qe_dget {o k e : Expr} {to tk te : WE} {apos cpos : Pos} (ho : QE X o to) (hk : QE X k tk) (he : QE X e te)
    (hbase : attributeBase o "get" X.env (eval o X.env) = eval o X.env := by rfl)
    (hfew : ((backTo cpos (starEach [k, e] X.env)).all (fun x => !x.1) && (backToKw cpos (keywordEach [] X.env)).all (fun x => x.1.isSome)
      && decide (([k, e] : List Expr).length + ([] : List Keyword).length + (if ([] : List Keyword).isEmpty then 0 else 1) < 30)) = true := by rfl)
    (hline : (apos.endLine == cpos.line) = true := by rfl) (hs : starEach [k, e] X.env = (false, eval k X.env) :: starEach [e] X.env := by rfl) (hs2 : starEach [e] X.env = (false, eval e X.env) :: starEach [] X.env := by rfl) (hpl : (backTo cpos (starEach [e] X.env)).any (·.1) = false := by rfl) :
    QE X (.Call (.Attribute o "get" apos) [k, e] [] cpos) (wDGet to tk te) :=
  (pe_bm PySem.F.plainAttrs_dict PySem.F.slot_dict_get PySem.F.type_dict_get mt_get ho (pa_cons hk (pa_cons he pa_nil hs2) hs) hbase hfew hline hs hpl).imp fun σ H Q z0 => z0.el fun τ G q hs hg ht hQ =>
    ⟨τ, G, _, hs, hg, ht, fun v H1 w G1 t1 r1 g1 q1 => by
      split at q1
      · rename_i a
        cases r1
        obtain ⟨⟨kvs, e1⟩, q1⟩ := q1
        obtain ⟨_, us, h1, _⟩ := g1 a _ e1
        refine ⟨.inr (.inr (.inl ⟨rfl, .inl ⟨us, h1⟩⟩)), τ, G1, _, hs.mono t1, g1, q1, fun v2 H2 w2 G2 t2 r2 g2 q2 => ?_⟩
        refine ⟨τ, G2, _, (hs.mono t1).mono t2, g2, q2, fun v3 H3 w3 G3 t3 r3 g3 q3 => ?_⟩
        obtain ⟨z, kvs, rfl, e2, q3⟩ := q3
        cases r2
        obtain ⟨_, us, h2, n, rr⟩ := g3 a _ e2
        refine ⟨a, us, .inr z, v3, rfl, rfl, h2, hQ _ _ _ _ ((t1.trans t2).trans t3) ?_ g3 q3⟩
        rcases (DP.of n rr).val (.inr z) with ⟨e, e'⟩ | ⟨w', v', e, e', r⟩
        · rw [e, e']; exact r3
        · rw [e, e']; exact r
      · exact q1.elim⟩
noncomputable def rDClr : V → List V → Hp → VK → Prop := fun x vs H Q => ∃ a kvs, x = .ref a ∧ vs = [] ∧ H a = some (.dK kvs) ∧ Q .non (upd H a (.dK []))
theorem mt_dclr : MtR X "dict.clear" rDClr := by
  intro pins s σ H x vs v us Q I rx rv ⟨a, kvs, e1, e2, e, q⟩
  subst e1 e2
  cases rx
  cases rv
  exact d_clear I e fun s' I' => ⟨.non, _, I', rfl, q⟩
noncomputable def wDClr (to : WE) : WE := fun τ G q => to τ G fun x G1 => match x with
  | .ref a => ∃ ys, G1 a = some (.dic ys) ∧ q .non (updG G1 a (.dic []))
  | _ => False
theorem qe_dclr {o : Expr} {to : WE} {apos cpos : Pos} (ho : QE X o to)
    (hbase : attributeBase o "clear" X.env (eval o X.env) = eval o X.env := by rfl) (hline : (apos.endLine == cpos.line) = true := by rfl) : QE X (.Call (.Attribute o "clear" apos) [] [] cpos) (wDClr to) :=
  (pe_bm0 PySem.F.plainAttrs_dict PySem.F.slot_dict_clear PySem.F.type_dict_clear mt_dclr ho hbase hline).imp fun σ H Q z0 => z0.el fun τ G q hs hg ht hQ =>
    ⟨τ, G, _, hs, hg, ht, fun v H1 w G1 t1 r1 g1 q1 => by
      split at q1
      · rename_i a
        cases r1
        obtain ⟨ys, e1, q1⟩ := q1
        obtain ⟨hl, us, h1, _⟩ := g1 a _ e1
        have tl := TLe.dk h1 (.dK [])
        exact ⟨.inr (.inr (.inl ⟨rfl, .inl ⟨us, h1⟩⟩)), a, us, rfl, rfl, h1, hQ _ _ _ _ (t1.trans tl) .non (g1.lay (g := .dic []) tl ⟨Nat.zero_le _, [], upd_same, rfl, .nil⟩) q1⟩
      · exact q1.elim⟩
inductive SameV (G : Gp) : W → W → Prop where
  | int (i : Int) : SameV G (.int i) (.int i)
  | lst {a b : Addr} {ws us : List W} (ea : G a = some (.lst ws)) (eb : G b = some (.lst us)) (f1 : W.flats ws = true) (f2 : W.flats us = true) (hd : W.deps ws ≤ 8) (he : W.eqs ws us = true) : SameV G (.ref a) (.ref b)
inductive EqD (G : Gp) (a b : Addr) : Bool → Prop where
  | lst {ws us : List W} (ea : G a = some (.lst ws)) (eb : G b = some (.lst us)) (f1 : W.flats ws = true) (f2 : W.flats us = true) (hd : W.deps ws ≤ 149) : EqD G a b (W.eqs ws us)
  | dic {kvs us : List (Key × W)} (ea : GD G a kvs) (eb : GD G b us) (hl : kvs.length = us.length) (hv : ∀ p, p ∈ kvs → ∃ w', valW us p.1 = some w' ∧ SameV G p.2 w') : EqD G a b true
noncomputable def rEqD : W2 := fun x y G q => match x, y with
  | .ref a, .ref b => ∃ r, EqD G a b r ∧ q (.bl r) G
  | x, y => rEq3 x y G q
noncomputable def rNeD : W2 := fun x y G q => match x, y with
  | .ref a, .ref b => ∃ r, EqD G a b r ∧ q (.bl (!r)) G
  | x, y => rNe3 x y G q
theorem same_at {A : Around} (hu : A.units + 20 < cLine) {G : Gp} {w1 w2 : W} {v1 v2 : V} {u1 u2 : Value} (I : Inv X pins σ H s) (g : RelG X.K H G) (h : SameV G w1 w2) (r1 : Rep X.K H w1 v1) (r2 : Rep X.K H w2 v2) (q1 : RelV v1 u1) (q2 : RelV v2 u2) : SeqAt.EqAt A s u1 u2 true := by
  cases h with
  | int i =>
    cases r1
    cases r2
    have := (eq_rep I 10 A (w1 := .int i) (w2 := .int i) (by show 0 < 10; decide) rfl rfl (by (clear I g q1 q2; omega)) (.int i) (.int i) q1 q2).1
    rw [int_eq] at this
    simpa using this
  | @lst a b ws us ea eb f1 f2 hd he =>
    cases r1
    cases r2
    cases q1
    cases q2
    by_cases hne : a = b
    · subst hne; exact SeqAt.EqAt.same _
    obtain ⟨_, xs, e1, ra⟩ := g _ _ ea
    obtain ⟨_, ys, e2, rb⟩ := g _ _ eb
    obtain ⟨its, rv, p, _⟩ := I.list (SqL.of e1)
    obtain ⟨its2, rv2, p2, _⟩ := I.list (SqL.of e2)
    have l1 : its.length = ws.length := by rw [← rv.length, ra.length]
    have l2 : its2.length = us.length := by rw [← rv2.length, rb.length]
    have hl : ws.length = us.length := by
      by_cases hl : ws.length = us.length
      · exact hl
      · rw [eqs_len hl] at he; cases he
    have c1 := SeqAt.RcAt.lists p.isList p2.isList (by rw [List.size_toArray, List.size_toArray, l1, l2, hl]) (A := A) (by (clear I g ea eb f1 f2 hd he hne e1 ra e2 rb rv p rv2 p2 l1 l2 hl; omega)) (eqJ I (n := 10) (by (clear hu I g ea eb f1 f2 he hne e1 ra e2 rb rv p rv2 p2 l1 l2 hl; omega)) f1 f2 (by show A.units + 1 + 10 < cLine; (clear I g ea eb f1 f2 hd he hne e1 ra e2 rb rv p rv2 p2 l1 l2 hl; omega)) ra rb rv rv2)
    have er := eqs_range ws us
    rw [← hl, Nat.min_self, beq_self_eq_true, Bool.and_true] at er
    rw [List.size_toArray, l1, er, he] at c1
    exact SeqAt.EqAt.of_refs hne c1
theorem hits_of {A : Around} (hu : A.units + 20 < cLine) {G : Gp} (I : Inv X pins σ H s) (g : RelG X.K H G) {kb : List (Key × Value)} {us : List (Key × W)} {ub : List (Key × V)} (db : DP X.K H us ub) (rb : KV ub kb) :
    ∀ {kvs : List (Key × W)} {ua : List (Key × V)} {ka : List (Key × Value)}, DP X.K H kvs ua → KV ua ka → (∀ p, p ∈ kvs → ∃ w', valW us p.1 = some w' ∧ SameV G p.2 w') → PySem.W.KeqHits A s kb ka true := by
  intro kvs ua ka d
  induction d generalizing ka with
  | nil =>
    intro r _
    cases r
    exact .nil
  | @cons k w v kvs ua rw' t ih =>
    intro r hv
    cases r with
    | @cons _ b _ bs r1 rt =>
      obtain ⟨b1, b2⟩ := b
      obtain ⟨e1, r2⟩ := r1
      cases (show k = b1 from e1)
      obtain ⟨w', hw, sv⟩ := hv _ List.mem_cons_self
      rcases db.val k with ⟨e, _⟩ | ⟨w2, v2, e, e', r3⟩
      · rw [e] at hw; cases hw
      · rw [e] at hw; cases hw
        obtain ⟨y, hy, ry⟩ := RelO.some_of (v := v2) (o := valueAt kb k) (by rw [← e']; exact rb.val k)
        exact .hit (e := true) (b := true) hy (same_at hu I g sv rw' r3 r2 ry) (ih rt fun p hp => hv p (List.mem_cons_of_mem _ hp))
theorem q_eqD {k : Nat} (hr : Room k X.A) : QOp X (compareOp .Eq) rEqD := by
  intro pins s σ H x y v u Q I rx ry ⟨wx, wy, G, q, r1, r2, g, h, hQ⟩
  unfold rEqD at h
  split at h
  · obtain ⟨r, he, h⟩ := h
    cases he with
    | lst ea eb f1 f2 hd => exact q_eq4 hr pins s σ H x y v u Q I rx ry ⟨_, _, G, q, r1, r2, g, ⟨_, _, ea, eb, f1, f2, hd, h⟩, hQ⟩
    | dic ea eb hl hv =>
      cases r1
      cases r2
      cases rx
      cases ry
      have hu := hr.un
      obtain ⟨_, ua, ra, da⟩ := ea.rd g
      obtain ⟨_, ub, rb, db⟩ := eb.rd g
      obtain ⟨_, ma, ka, qa, dda⟩ := dk_rd I.hok ra
      obtain ⟨_, mb, kb, qb, ddb⟩ := dk_rd I.hok rb
      have hlen : ka.length = kb.length := by rw [← qa.length, ← qb.length, da.len, db.len, hl]
      refine PySem.W.keq_eq ma mb dda ddb (by (clear hr I g hQ ea eb hl hv h ra da rb db ma qa dda mb qb ddb hlen; omega)) (fun _ => hits_of (A := X.A.in1) (by show X.A.units + 1 + 20 < cLine; (clear hr I g hQ ea eb hl hv h ra da rb db ma qa dda mb qb ddb hlen; omega)) I g db qb da qa hv) ?_
      rw [hlen, beq_self_eq_true, Bool.true_and]
      exact ⟨.bl _, H, I, rfl, hQ _ H _ G (TLe.refl H) (.bl _) g h⟩
  · exact q_eq hr pins s σ H x y v u Q I rx ry ⟨wx, wy, G, q, r1, r2, g, h, hQ⟩
theorem q_neD {k : Nat} (hr : Room k X.A) : QOp X (compareOp .NotEq) rNeD := by
  intro pins s σ H x y v u Q I rx ry ⟨wx, wy, G, q, r1, r2, g, h, hQ⟩
  unfold rNeD at h
  split at h
  · obtain ⟨r, he, h⟩ := h
    cases he with
    | lst ea eb f1 f2 hd => exact q_ne4 hr pins s σ H x y v u Q I rx ry ⟨_, _, G, q, r1, r2, g, ⟨_, _, ea, eb, f1, f2, hd, h⟩, hQ⟩
    | dic ea eb hl hv =>
      cases r1
      cases r2
      cases rx
      cases ry
      have hu := hr.un
      obtain ⟨_, ua, ra, da⟩ := ea.rd g
      obtain ⟨_, ub, rb, db⟩ := eb.rd g
      obtain ⟨_, ma, ka, qa, dda⟩ := dk_rd I.hok ra
      obtain ⟨_, mb, kb, qb, ddb⟩ := dk_rd I.hok rb
      have hlen : ka.length = kb.length := by rw [← qa.length, ← qb.length, da.len, db.len, hl]
      refine PySem.W.keq_ne ma mb dda ddb (by (clear hr I g hQ ea eb hl hv h ra da rb db ma qa dda mb qb ddb hlen; omega)) (fun _ => hits_of (A := X.A.in1) (by show X.A.units + 1 + 20 < cLine; (clear hr I g hQ ea eb hl hv h ra da rb db ma qa dda mb qb ddb hlen; omega)) I g db qb da qa hv) ?_
      rw [hlen, beq_self_eq_true, Bool.true_and]
      exact ⟨.bl _, H, I, rfl, hQ _ H _ G (TLe.refl H) (.bl _) g h⟩
  · exact q_ne hr pins s σ H x y v u Q I rx ry ⟨wx, wy, G, q, r1, r2, g, h, hQ⟩
structure Fst (ws : List W) (x : W) (j : Nat) : Prop where
  hit : ∃ w, ws[j]? = some w ∧ w.eq x = true
  no : ∀ m w, m < j → ws[m]? = some w → w.eq x = false
noncomputable def rIdx (K : PySem.W.Frag) : V → List V → Hp → VK → Prop := fun x vs H Q => ∃ a y w G ws j, x = .ref a ∧ vs = [y] ∧ Rep K H w y ∧ RelG K H G ∧ G a = some (.lst ws) ∧ InL ws w ∧ Fst ws w j ∧ Q (.int (j : Nat)) H
theorem mt_idx {k : Nat} (hr : Room k X.A) : MtR X "list.index" (rIdx X.K) := by
  intro pins s σ H x vs v us Q I rx rv ⟨a, y, w, G, ws, j, e1, e2, rw', g, ea, il, fs, q⟩
  subst e1 e2
  cases rx
  obtain ⟨u1, rfl, r1⟩ := vals1 rv
  obtain ⟨e, its, p, he, _, hl, hp⟩ := inList hr I r1 rw' g ea il
  obtain ⟨⟨cls, dd, data, sl⟩, ho, hc, n, hd⟩ := id p
  simp only at hc hd
  subst hc hd
  obtain ⟨w', ew, ht⟩ := fs.hit
  have hj : j < its.length := by rw [hl]; exact (List.getElem?_eq_some_iff.mp ew).1
  have hz : its.length ≤ 100000 := by
    obtain ⟨l, _⟩ := g _ _ ea
    rw [hl]; exact l
  refine call_meets PySem.F.slot_list_index ⟨_, ho, rfl⟩ PySem.F.entry_list_index (PySem.F.args_list_index_2 _ _)
    (SeqAt.list_indexAt a its.toArray n dd sl u1 e j (by simpa using hj) (by (clear hr I rw' g ea il fs q r1 rv p he hp ho ew ht; omega)) ?_ ?_) ⟨ho, he, ⟨.int j, H, I.tok _, ⟨_, rfl⟩, q⟩⟩
  · show e its[j] = true
    rw [hp j w' _ ew (List.getElem?_eq_getElem hj)]; exact ht
  · intro m hm hlt
    have hm2 : m < its.length := by simpa using hm
    have hm3 : m < ws.length := by rw [← hl]; exact hm2
    show e its[m] = false
    rw [hp m _ _ (List.getElem?_eq_getElem hm3) (List.getElem?_eq_getElem hm2)]
    exact fs.no m _ hlt (List.getElem?_eq_getElem hm3)
noncomputable def wIdx (to te : WE) : WE := fun τ G q => to τ G fun x G1 => match x with
  | .ref a => (∃ ws, G1 a = some (.lst ws)) ∧ te τ G1 fun y G2 => ∃ ws j, G2 a = some (.lst ws) ∧ InL ws y ∧ Fst ws y j ∧ q (.int (j : Nat)) G2
  | _ => False
theorem qe_idx {k : Nat} {o e : Expr} {to te : WE} {apos cpos : Pos} (hr : Room k X.A) (ho : QE X o to) (he : QE X e te)
    (hbase : attributeBase o "index" X.env (eval o X.env) = eval o X.env := by rfl)
    (hfew : ((backTo cpos (starEach [e] X.env)).all (fun x => !x.1) && (backToKw cpos (keywordEach [] X.env)).all (fun x => x.1.isSome)
      && decide (([e] : List Expr).length + ([] : List Keyword).length + (if ([] : List Keyword).isEmpty then 0 else 1) < 30)) = true := by rfl)
    (hline : (apos.endLine == cpos.line) = true := by rfl) (hs : starEach [e] X.env = (false, eval e X.env) :: starEach [] X.env := by rfl) (hpl : (backTo cpos (starEach [] X.env)).any (·.1) = false := by rfl) :
    QE X (.Call (.Attribute o "index" apos) [e] [] cpos) (wIdx to te) :=
  (pe_bm PySem.F.plainAttrs_list PySem.F.slot_list_index PySem.F.type_list_index (mt_idx hr) ho (pa_cons he pa_nil hs) hbase hfew hline hs hpl).imp fun σ H Q z0 => z0.el fun τ G q hs hg ht hQ =>
    ⟨τ, G, _, hs, hg, ht, fun v H1 w G1 t1 r1 g1 q1 => by
      split at q1
      · rename_i a
        cases r1
        obtain ⟨⟨ws, e1⟩, q1⟩ := q1
        obtain ⟨_, us, h1, _⟩ := g1 a _ e1
        refine ⟨.inl ⟨rfl, us, SqL.of h1⟩, τ, G1, _, hs.mono t1, g1, q1, fun v2 H2 w2 G2 t2 r2 g2 q2 => ?_⟩
        obtain ⟨ws, j, e2, il, fs, q2⟩ := q2
        exact ⟨a, v2, w2, G2, ws, j, rfl, rfl, r2, g2, e2, il, fs, hQ _ _ _ _ (t1.trans t2) (.int _) g2 q2⟩
      · exact q1.elim⟩
noncomputable def wRevL (te : WE) : WE := fun τ G q => te τ G fun x G1 => match x with
  | .ref a => ∃ ws, G1 a = some (.lst ws) ∧ ∀ p, G1 p = none → q (.ref p) (updG G1 p (.lst ws.reverse))
  | _ => False
theorem qe_rev {e : Expr} {te : WE} {j} {pos p2 p3 p4 : Pos} (he : QE X e te) : QE X (.Subscript e (.Slice none none (some (.UnaryOp .USub (.Constant (.int 1) j p3) p4)) p2) pos) (wRevL te) := by
  intro pins s σ H Q I ⟨τ, G, q, hs, hg, ht, hQ⟩
  refine Subscript_ (thn (he pins s σ H (fun v H1 => ∃ w G1, TLe H H1 ∧ Rep X.K H1 w v ∧ RelG X.K H1 G1 ∧ (match w with
    | .ref a => ∃ ws, G1 a = some (.lst ws) ∧ ∀ p, G1 p = none → q (.ref p) (updG G1 p (.lst ws.reverse))
    | _ => False)) I ⟨τ, G, _, hs, hg, ht, fun v H1 w G1 t1 r1 g1 q1 => ⟨w, G1, t1, r1, g1, q1⟩⟩) fun v s1 ⟨x, H1, I1, rx, w, G1, t1, r1, g1, q1⟩ => ?_)
  split at q1
  · rename_i a
    obtain ⟨ws, ea, q1⟩ := q1
    cases r1
    cases rx
    refine wpAny_Slice ?_
    rw [evalPart_none]
    refine wpAny_pure (wpAny_pure ?_)
    have ps : PO X (some (.UnaryOp .USub (.Constant (.int 1) j p3) p4)) (LO X.K (wPart (wNeg (wC (.int 1))))) := qo_some (qe_neg qe_int)
    refine thn (ps pins s1 σ H1 (fun o H2 => TLe H1 H2 ∧ RelG X.K H2 G1 ∧ o = some (-1)) I1 ⟨τ, G1, fun o G2 => o = some (-1) ∧ G2 = G1, hs.mono t1, g1, ⟨rfl, rfl⟩, fun o H2 G2 t2 g2 ⟨e1, e2⟩ => ⟨t2, e2 ▸ g2, e1⟩⟩) fun vk s2 ⟨o, H2, I2, pk, t2, g2, eo⟩ => ?_
    subst eo
    have I4 : Inv X pins σ H2 { s2 with heap := s2.heap.push { cls := .type "slice", data := .fields #[.none, .none, vk] } } := I2.kept (t' := s2.toks) fun b ob q => Heap.get?_push_of_some _ q
    obtain ⟨hl, xs, e1, rr⟩ := g2 a _ ea
    obtain ⟨its, rv, p, hz⟩ := I4.list (SqL.of e1)
    show wpAny (model X.prog X.w) X.A (subscriptTail e (.Slice none none (some (.UnaryOp .USub (.Constant (.int 1) j p3) p4)) p2) (.ref a) (.ref s2.heap.objs.size)) (EP X pins σ Q) X.xe { s2 with heap := s2.heap.push { cls := .type "slice", data := .fields #[.none, .none, vk] } }
    refine tail_any (ops := [.ref a, .ref s2.heap.objs.size]) (Heap.IsList.typeIs p.isList) PySem.F.slot_list_getitem.lookup (wpAny_getItem_list_slice p.isList (Heap.IsSliceOf.new ..) .none .none pk (by decide) ?_ (by rw [List.size_toArray, ← rv.length]; exact hz)) (by with_unfolding_all rfl)
    rw [PySem.W.krv_pick]
    have hp := I4.hok.fresh (Nat.le_refl (s2.heap.push { cls := .type "slice", data := .fields #[.none, .none, vk] }).objs.size)
    have hzr : xs.reverse.length ≤ sizeLine := by rw [List.length_reverse]; exact hz
    refine ⟨.ref (s2.heap.push { cls := .type "slice", data := .fields #[.none, .none, vk] }).objs.size, _, I4.laid (t' := s2.toks) (fun b o q => Heap.get?_push_of_some _ q) (Nat.le_refl _) (show ObjOk X.prog X.w _ _ _ (.lst xs.reverse) from ⟨hzr, its.reverse, 0, Vals.rev rv, Heap.get?_push_size _ rfl⟩), rfl, ?_⟩
    exact hQ _ _ _ _ ((t1.trans t2).trans (TLe.new hp _)) (.ref _) (g2.put (TLe.new hp _) rr.rev (by rw [List.length_reverse]; exact hl)) (q1 _ (g2.fresh hp))
  · exact q1.elim
end
end L2
set_option linter.all false
set_option maxRecDepth 100000
namespace L2
open PySem PySem.Spec PyProof.Rows
section
variable {prog : Program} {w : World} {A : Around} {R : Result → Shared → Prop} {I : Addr} {fp wr : List Addr} {Gn : Array GenState → Array GenState → Prop} {n : Nat} {P : Nat → Value → Prop} {St : Nat → Shared → Prop}
theorem set_loop (W : WalksS prog w A.in1 I fp wr Gn n P St) (S : Addr) (hSf : S ∉ fp) (ts : List Str) (hn : ts.length = n) (hd : ts.Nodup)
    (hval : ∀ i v, P i v → ∃ x t, ts[i]? = some x ∧ v = .str x t) (hb : n + 1 < scanBound) :
    ∀ (k i : Nat) (s : Shared), n - i = k → i ≤ n → St i s → s.heap.SetOf (strKind prog w) S (fun k' => decide (k' ∈ ts.take i)) i →
      (∀ s', Moved (S :: wr) Gn s s' → s'.heap.SetOf (strKind prog w) S (fun k' => decide (k' ∈ ts.take n)) n → R (.ok (.ret .none)) s') →
      codeAny (model prog w) A (.builtin "set.update.loop" ⟨[.ref S, .ref I], []⟩) R s := by
  have hSw : S ∉ wr := fun h => hSf (W.sub _ h)
  have hsub : ∀ b ∈ wr, b ∈ S :: wr := fun b hb => List.mem_cons_of_mem _ hb
  have mv : ∀ {s s' : Shared} {T : Str → Bool} {m : Nat}, Moved wr Gn s s' → s.heap.SetOf (strKind prog w) S T m → s'.heap.SetOf (strKind prog w) S T m := fun hm ⟨o, es, ep, t, ho, rest⟩ => ⟨o, es, ep, t, hm.heap S _ hSw ho, rest⟩
  intro k
  induction k with
  | zero =>
    intro i s hk hi hst hS hR
    have hin : i = n := by (clear W hSf hn hd hval hb hSw hsub mv hst hS hR; omega)
    subst hin
    refine codeAny_builtin PyProof.Rows.F.entry_set_update_loop ?_
    rw [Around.under_plainId PyProof.Rows.F.plain_set_update_loop _]
    show wpAny _ A.in1 (pyNext (.ref I) >>= _) _ _ s
    refine wpAny_bind (W.done s _ _ hst fun s' hm => ?_)
    show wpAny _ A.in1 (ret Value.none) _ _ s'
    exact wpAny_pure (hR s' (hm.mono hsub) (mv hm hS))
  | succ k ih =>
    intro i s hk hi hst hS hR
    have hlt : i < n := by (clear W hSf hn hd hval hb hSw hsub mv ih hst hS hR; omega)
    refine codeAny_builtin PyProof.Rows.F.entry_set_update_loop ?_
    rw [Around.under_plainId PyProof.Rows.F.plain_set_update_loop _]
    show wpAny _ A.in1 (pyNext (.ref I) >>= _) _ _ s
    refine wpAny_bind (W.item i s _ _ hlt hst fun v s' hP hst' hm => ?_)
    obtain ⟨x, t, hx, rfl⟩ := hval i v hP
    have hS' := mv hm hS
    have hi2 : i < ts.length := by (clear W hSf hd hval hb hSw hsub mv ih hk hi hst hS hR hst' hm hx hP hS'; omega)
    have hxi : ts[i] = x := by rw [List.getElem?_eq_getElem hi2] at hx; exact Option.some.inj hx
    have hnew : ¬ x ∈ ts.take i := fun z => by
      obtain ⟨j, hj⟩ := List.getElem?_of_mem z
      have hj2 : j < i := by
        have := (List.getElem?_eq_some_iff.mp hj).1
        rw [List.length_take] at this; (clear W hSf hd hval hb hSw hsub mv ih hk hi hst hS hR hst' hm hx hP hS' hi2 hxi z hj; omega)
      rw [List.getElem?_take_of_lt hj2] at hj
      have hj3 : j < ts.length := by (clear W hSf hd hval hb hSw hsub mv ih hk hi hst hS hR hst' hm hx hP hS' hi2 hxi z hj; omega)
      rw [List.getElem?_eq_getElem hj3] at hj
      exact (List.pairwise_iff_getElem.mp hd) j i hj3 hi2 hj2 ((Option.some.inj hj).trans hxi.symm)
    show wpAny _ A.in1 (holding [Value.str x t] (setAdd S (.str x t)) >>= _) _ _ s'
    refine wpAny_bind (wpAny_holding ?_)
    unfold setAdd
    refine wpAny_holding ?_
    refine wpAny_bind ((strKind prog w).pyHash (k := x) (strKind_is _ _ _ _) ?_)
    refine wpAny_setAddHashed_of (knd := strKind prog w) (s := { s' with toks := s'.toks + 1 }) (strKind_is _ _ _ _) rfl hS' (by (clear W hSf hn hd hval hSw hsub mv ih hk hi hst hS hR hst' hm hx hP hS' hi2 hxi hnew; omega)) fun h' hsb hS2 => ?_
    have hSi : h'.SetOf (strKind prog w) S (fun k' => decide (k' ∈ ts.take (i + 1))) (i + 1) := by
      rw [if_neg (by simpa using hnew)] at hS2
      refine PyProof.Rows.SetOf_congr hS2 (fun k' => ?_) rfl
      rw [List.take_succ, List.getElem?_eq_getElem hi2, hxi]
      simp [Bool.or_comm]
    refine wpAny_pure ⟨plainId_quiet PyProof.Rows.F.plain_set_update_loop _, ih (i + 1) _ (by (clear W hSf hn hd hval hb hSw hsub mv ih hi hst hS hR hst' hm hx hP hS' hi2 hxi hnew hsb hS2 hSi; omega)) hlt (W.frame _ s' _ _ hst' (Nat.le_succ _) fun b hb o e => ?_) hSi fun s'' hm'' hS'' => ?_⟩
    · rw [hsb.2 b (fun h : b = S => hSf (by rw [← h]; exact hb))]; exact e
    · refine hR s'' (Moved.trans W.gtrans ((hm.mono hsub).then_heap (Nat.le_succ _) fun b o hb e => ?_) hm'') hS''
      rw [hsb.2 b (fun h : b = S => hb (by rw [h]; exact List.mem_cons_self))]; exact e
end
section
variable {prog : Program} {w : World} {A : Around} {E : Value → Shared → Prop} {s : Shared}
set_option maxHeartbeats 3200000 in
theorem call_set_txts {l : Addr} {items : Array Value} {ts : List Str} {Q : Value → Shared → Prop}
    (hh : A.handled = none) (hl : s.heap.IsList l items) (hi : StrsAre items.toList ts) (hd : ts.Nodup) (hb : items.size + 1 < scanBound)
    (h : ∀ (h' : Heap) (tk : Nat), h'.SetOf (strKind prog w) s.heap.objs.size (fun k' => decide (k' ∈ ts.take items.size)) items.size →
      (∀ b o, b < s.heap.objs.size → s.heap.get? b = some o → h'.get? b = some o) → Q (.ref s.heap.objs.size) { s with heap := h', toks := tk }) :
    wpAny (model prog w) A (call (.type "set") [.ref l]) Q E s := by
  obtain ⟨c, tl, hmro⟩ := F.called_set.mro
  have hmade := F.called_set.made
  have hsub := F.called_set.sub
  refine wpAny_call (codeAny_of_tree ?_)
  show wpAny _ _ (callAny (.type "set") _) _ _ _
  refine wpAny_pure ⟨Code.quiet_builtin _ (by decide +kernel), codeAny_builtin F.entry_type_call ?_⟩
  rw [Around.under_plain (weight_type_call_type "set" [.ref l] []) rfl]
  have h1 := F.called_set.notType
  have h2 := F.called_set.canCreate
  have hct := F.typeCall_set_1 (.ref l)
  repeat (any_goals (first | assumption | wp_step))
  refine codeAny_mono (code_set_new_1 (.ref l) (E := E) (Q₁ := fun obj s₁ => ∃ led : Bool, obj = .ref s.heap.objs.size ∧ s₁ = { s with heap := s.heap.push { cls := .type "set", dict := none, data := .set #[] 0 (.fresh 0 0 led) } }) fun led => ⟨led, rfl, rfl⟩) fun r s₁ hr => ?_
  cases r with
  | error e => exact hr
  | ok fl =>
    cases fl with
    | ret obj =>
      obtain ⟨led, rfl, rfl⟩ := hr
      have hS : (s.heap.push { cls := .type "set", dict := none, data := .set #[] 0 (.fresh 0 0 led) }).get? s.heap.objs.size = some { cls := .type "set", dict := none, data := .set #[] 0 (.fresh 0 0 led) } := Heap.get?_push_size _ rfl
      have hT : Shared.TypeIs { s with heap := s.heap.push { cls := .type "set", dict := none, data := .set #[] 0 (.fresh 0 0 led) } } (.ref s.heap.objs.size) "set" := ⟨_, hS, rfl⟩
      have hli := F.called_set.init.lookup
      have hbi := F.called_set.init.bind (.ref s.heap.objs.size)
      repeat (any_goals (first | assumption | wp_step))
      refine codeAny_mono (codeAny_call_builtin (R := wants (fun r s₂ => r = .none ∧ ∃ h' tk, s₂ = { s with heap := h', toks := tk } ∧
          h'.SetOf (strKind prog w) s.heap.objs.size (fun k' => decide (k' ∈ ts.take items.size)) items.size ∧
          (∀ b o, b < s.heap.objs.size → s.heap.get? b = some o → h'.get? b = some o)) E) F.called_set.init.plain F.entry_set_init (check_set_init_1 hT ?_)) fun r₂ s₂ hr₂ => ?_
      · obtain ⟨ol, hol, hcl, nl, hdl⟩ := hl
        obtain ⟨ocls, odict, odata, oslots⟩ := ol
        simp only at hcl hdl
        subst hcl; subst hdl
        have hol' : (s.heap.push { cls := .type "set", dict := none, data := .set #[] 0 (.fresh 0 0 led) }).get? l = some { cls := .type "list", dict := odict, data := .seq items nl, slots := oslots } := Heap.get?_push_of_some _ hol
        have hsls := F.sub_list_set
        have hslf := F.sub_list_frozenset
        have hne : (Value.type "list" == Value.type "dict") = false := by decide
        have hl1 : (s.heap.push { cls := .type "set", dict := none, data := .set #[] 0 (.fresh 0 0 led) }).IsList l items := ⟨_, hol', rfl, nl, rfl⟩
        unfold Builtin.«set.__init__» noKeywords Builtin.Frozenset.updateFrom
        generalize hPI : pyIter = PI
        wp_walk
        subst hPI
        refine wpAny_pyIter_list hl1 ?_
        refine wpAny_bind (wpAny_runValue ?_)
        have hlS : l < s.heap.objs.size := Heap.lt_size hol
        have hh3 : A.in1.in1.in1.handled = none := by simp [hh]
        have hneI : l ≠ (s.heap.push { cls := .type "set", dict := none, data := .set #[] 0 (.fresh 0 0 led) }).objs.size := by
          rw [Heap.size_push]; exact Nat.ne_of_lt (Nat.lt_succ_of_lt hlS)
        have hSf : s.heap.objs.size ∉ [(s.heap.push { cls := .type "set", dict := none, data := .set #[] 0 (.fresh 0 0 led) }).objs.size, l] := by
          rw [Heap.size_push]; simp only [List.mem_cons, List.mem_singleton, List.not_mem_nil, or_false, not_or]
          exact ⟨Nat.ne_of_lt (Nat.lt_succ_self _), Nat.ne_of_gt hlS⟩
        have hts : ts.length = items.size := by rw [← hi.length]; exact Array.length_toList
        have hval : ∀ (i : Nat) (v : Value), items[i]? = some v → ∃ x t, ts[i]? = some x ∧ v = .str x t := fun i v hv => by
          have key : ∀ {vs : List Value} {xs : List Str}, StrsAre vs xs → ∀ (i : Nat) (v : Value), vs[i]? = some v → ∃ x t, xs[i]? = some x ∧ v = .str x t := by
            intro vs xs q
            induction q with
            | nil => intro i v h; simp at h
            | cons x t q ih =>
              intro i v h
              cases i with
              | zero => simp at h; exact ⟨x, t, rfl, h.symm⟩
              | succ i => simpa using ih i v (by simpa using h)
          exact key hi i v (by rw [Array.getElem?_toList]; exact hv)
        refine set_loop ((Walks.list hh3 _ l hneI items).toS) s.heap.objs.size hSf ts hts hd hval hb (items.size - 0) 0 _ (by (clear hh hi hd hb h hmro hmade hsub h1 h2 hct hS hT hli hbi hol hol' hsls hslf hne hl1 hlS hh3 hneI hSf hts hval; omega)) (Nat.zero_le _)
          ⟨⟨_, Heap.get?_push_size _ rfl, rfl, rfl⟩, (hl1.push _)⟩ ?hS0 ?hR
        case hS0 =>
          have hget : ((s.heap.push { cls := .type "set", dict := none, data := .set #[] 0 (.fresh 0 0 led) }).push { cls := .type "list_iterator", data := .fields #[.ref l, .int 0 0] }).get? s.heap.objs.size
              = some { cls := .type "set", dict := none, data := .set #[] 0 (.fresh 0 0 led) } := Heap.get?_push_of_some _ hS
          exact PyProof.Rows.SetOf_congr ((PyProof.Rows.setObjOf_fresh (knd := strKind prog w) led).setOf hget (by unfold scanBound; (clear hh hi hd hb h hmro hmade hsub h1 h2 hct hS hT hli hbi hol hol' hsls hslf hne hl1 hlS hh3 hneI hSf hts hval hget; omega))) (fun _ => by simp) rfl
        case hR =>
          intro s' hm hS'
          obtain ⟨h', g', d', tk', os'⟩ := s'
          have eg : g' = s.gens := hm.gens
          have ed : d' = s.drawn := hm.drawn
          have eo : os' = s.os := hm.os
          subst eg; subst ed; subst eo
          show wpAny _ _ _ _ _ _
          refine wpAny_pure ?_
          show wpAny _ _ (ret Value.none) _ _ _
          refine wpAny_pure ⟨rfl, h', tk', rfl, hS', fun b o hb e => ?_⟩
          have hb1 : b ≠ s.heap.objs.size := Nat.ne_of_lt hb
          have hb2 : b ≠ (s.heap.push { cls := .type "set", dict := none, data := .set #[] 0 (.fresh 0 0 led) }).objs.size := by
            rw [Heap.size_push]; exact Nat.ne_of_lt (Nat.lt_succ_of_lt hb)
          exact hm.heap b o (by simp only [List.mem_cons, List.mem_singleton, List.not_mem_nil, or_false, not_or]; exact ⟨hb1, hb2⟩) (Heap.get?_push_of_some _ (Heap.get?_push_of_some _ e))
      · cases r₂ with
        | error e => exact hr₂
        | ok fl₂ =>
          cases fl₂ with
          | ret r =>
            obtain ⟨rfl, h', tk, rfl, hS', hk'⟩ := hr₂
            repeat (any_goals (first | assumption | wp_step))
            exact h _ _ hS' hk'
          | _ => exact hr₂.elim
    | _ => exact hr.elim
end
section
variable {X : Cx}
noncomputable def SetO (P : Program) (w : World) (a : Addr) (n : Nat) : HO := .ext fun h => ∃ T, h.SetOf (strKind P w) a T n
theorem call_set_X (hc : X.calm = true) : CallR X (.type "set") (fun xs H Q => ∃ (p : Addr) (ts : List Str), xs = [.ref p] ∧ SqL X.K H p (ts.map V.str) ∧ ts.Nodup ∧ ts.length ≤ 1000 ∧ ∀ l, H l = none → Q (.ref l) (upd H l (SetO X.prog X.w l ts.length))) := by
  intro pins s σ H xs us Q I r ⟨p, ts, e, hq, hd, hl, q⟩
  subst e
  obtain ⟨u, rfl, rx⟩ := vals1 r
  cases rx
  obtain ⟨its, rv, pl, hz⟩ := I.list hq
  have hln := rv.length
  rw [List.length_map] at hln
  refine call_set_txts (ts := ts) (I.ok.hd hc) pl.isList (by simpa using strs_are rv) hd (by rw [List.size_toArray, ← hln]; unfold scanBound; (clear hc I hq hd q r rv pl hz; omega)) fun h' tk hS kp => ?_
  have hsz : its.toArray.size = ts.length := by rw [List.size_toArray, ← hln]
  rw [hsz] at hS
  obtain ⟨o, es, ep, t, ho, rest⟩ := id hS
  refine ⟨.ref s.heap.objs.size, _, I.laid (t' := tk) (fun b o q => kp b o (Heap.lt_size q) q) (Nat.le_refl _) (show ObjOk X.prog X.w _ h' _ (SetO X.prog X.w s.heap.objs.size ts.length) from ⟨⟨_, hS⟩, ⟨o, ho⟩, fun h1 h2 ⟨T, o, es, ep, t, ho, rest⟩ k => ⟨T, o, es, ep, t, k o ho, rest⟩⟩), rfl, q _ (I.hok.fresh (Nat.le_refl _))⟩
theorem call_len_X : CallR X (.builtin "len") (fun xs H Q => ∃ p n, xs = [.ref p] ∧ H p = some (SetO X.prog X.w p n) ∧ Q (.int (n : Nat)) H) := by
  intro pins s σ H xs us Q I r ⟨p, n, e, hq, q⟩
  subst e
  obtain ⟨u, rfl, rx⟩ := vals1 r
  cases rx
  obtain ⟨⟨T, o, es, ep, t, ho, hex, hdt, _, _, hb, hf, hn⟩, _⟩ := (show ObjOk X.prog X.w H s.heap p (SetO X.prog X.w p n) from I.hok p _ hq)
  refine call_len_set ho hex hdt hf (by unfold scanBound at hb; (clear I hq q r ho hex hdt hf; omega)) ?_
  rw [hn]
  exact ⟨.int n, H, (I.tok _), ⟨_, rfl⟩, q⟩
noncomputable def wLenSet (te : WE) : WE := fun τ G q => te τ G fun x G1 => match x with
  | .ref a => ∃ ts : List Str, G1 a = some (.lst (ts.map W.str)) ∧ ts.Nodup ∧ ts.length ≤ 1000 ∧ q (.int (ts.length : Nat)) G1
  | _ => False
theorem b_set : bootBuiltins "set" = some (.type "set") := by decide +kernel
theorem Reps.strs_of {K : PySem.W.Frag} {H : Hp} : ∀ {ts : List Str} {vs : List V}, Reps K H (ts.map W.str) vs → vs = ts.map V.str
  | [], _, r => by cases r; rfl
  | t :: ts, _, r => by
    cases r with
    | cons r rs => cases r; rw [Reps.strs_of rs]; rfl
theorem qe_lenset {e : Expr} {te : WE} {p p2 pos pos2 : Pos} (hc : X.calm = true) (hg : Gl X "len") (hm : X.mg "len" = none) (hg2 : Gl X "set") (hm2 : X.mg "set" = none) (he : QE X e te)
    (hs : starEach [e] X.env = (false, eval e X.env) :: starEach [] X.env := by rfl) (hpl : (backTo pos2 (starEach [] X.env)).any (·.1) = false := by rfl)
    (hs2 : starEach [.Call (.Name "set" p2) [e] [] pos2] X.env = (false, eval (.Call (.Name "set" p2) [e] [] pos2) X.env) :: starEach [] X.env := by rfl) (hpl2 : (backTo pos (starEach [] X.env)).any (·.1) = false := by rfl) :
    QE X (.Call (.Name "len" p) [.Call (.Name "set" p2) [e] [] pos2] [] pos) (wLenSet te) := by
  have h1 := pe_callTy (call_set_X hc) hg2 hm2 b_set (pa_cons he pa_nil hs) (by decide) (by decide) hs hpl (p := p2)
  have h2 := pe_callB call_len_X hg hm PySem.boot_len (pa_cons h1 pa_nil hs2) (by decide) (by decide) hs2 hpl2 (p := p)
  refine h2.imp fun σ H Q z0 => z0.el fun τ G q hs hg ht hQ => ⟨τ, G, _, hs, hg, ht, fun v H1 w G1 t1 r1 g1 q1 => ?_⟩
  split at q1
  · rename_i a
    obtain ⟨ts, ea, hd, hl, q1⟩ := q1
    cases r1
    obtain ⟨_, xs, e1, rr⟩ := g1 a _ ea
    refine ⟨a, ts, rfl, SqL.of (by rw [e1, rr.strs_of]), hd, hl, fun l hl2 => ⟨l, ts.length, rfl, upd_same, ?_⟩⟩
    have tn := TLe.new hl2 (SetO X.prog X.w l ts.length)
    exact hQ _ _ _ _ (t1.trans tn) (.int _) (g1.keep hl2 _) q1
  · exact q1.elim
end
end L2

set_option Elab.async false
set_option linter.all false
open PySem PySem.Spec PyProof.Rows L2 Nm
seal QE QT QW QA QS QSs QG QGs QI QO QTs QOp QIx QCall
seal PySem.compareOp PySem.binaryOp PySem.unaryOp

set_option bootstrap.genMatcherCode true
set_option compiler.extract_closed false
local macro_rules | `(tactic| walk_at "R") => `(tactic| simp (config := { failIfUnchanged := false, maxSteps := 2000000 }) only [rIxD, rInD, rNinD, wDicN, wDPut, wThaw, jKeys, jVals, jItems, wIsD, cLenD, cListD, wDGet, wDClr, rEqD, rNeD, wIdx, wRevL, wLenSet, wCnt, vAddS, vMulS, vMulT, rIxS3, wSlS, rSlS, cLenS, rNinS, jSeqS, wJoin, wCount, wFst, wPop, wStart, wSeq, wIf, wTest, wOp, wVar, wC, wNeg, wRet, wNext, wAsg, wPar, wNever, wNevers, wRaise, wTry, wTryA, wTryY, wIfY, wSeqY, wCallY, wDoY, wAs, wIsx, wIsn, wMaxD, wTupRev, wTupRvT, wBits, jRngG, CPowB, rIsB, wCallX, wDct, hName, wCall, wCB, wCons, wNil, wTup, wLst, wIsi, wAnd, wOr, wNot, wAndV, wOrV, wNotV, wIfE, wDrop, wSl, wPart, wNoPart, wFor, jSeq, jRng, jRng2, jRng3, jZip, jRev, jEnum, jEnumL, wExt, wComp, wApp, wTrue, hTup, hCons, hNil, vAdd, rSub3, L2.vInt, L2.vInt0, rEq4, rNe4, rEq3, rNe3, rLt3, rGe3, rIsA, rIsN, rIx3, rSl3, cLen, cTuple, cList, cSum, cInt, cMax, cMax4, cMin, List.map_cons, List.map_nil, List.length_cons, List.length_nil, List.replicate_succ, List.replicate_zero, List.cons_append, List.nil_append, List.append_nil, List.getElem?_cons_zero, List.getElem?_cons_succ, List.set_cons_zero, List.set_cons_succ, Nat.reduceAdd, Nat.reduceSub, Nat.zero_add, Nat.add_zero, Nat.sub_self, Nat.sub_zero, atI0, atI1, atI2, Option.some.injEq, exists_eq_left', int_flat, int_dep, int_eq, nil_flat, nil_dep, beqZ, decide_eq_true_eq, Bool.not_eq_true', decide_eq_false_iff_not, true_and, Nat.zero_le, cpow10, CMulC, CMulB, CDivB, CMul, CDiv, Int.reduceLE, Int.reduceLT, Nat.reducePow, Nat.reduceLT, Nat.reduceLeDiff, Int.reduceToNat, Int.reducePow, Int.reduceNeg, and_true, or_true, true_or, and_self, tyN_int, tyN_bl, tyN_tup, tyN_non, subN_ii, subN_ib, subN_it, subN_bi, subN_bb, subN_bt, subN_tt, subN_ti, subN_tb, subN_ll, subN_nt, Int.toNat_natCast, if_true, if_false, Bool.false_eq_true, Bool.true_eq_false, Bool.not_true, Bool.not_false, eq_self, not_true_eq_false, not_false_eq_true, cast_0, cast_1, cast_2, cast_3])
set_option bootstrap.genMatcherCode false
local macro_rules | `(tactic| walk_at "om") => `(tactic| first | assumption | exact Nat.le_trans (by assumption) (Nat.le_of_ble_eq_true rfl) | omega)
namespace Lw
open PySem PySem.Spec PyProof.Rows L2 Nm
noncomputable def top (i : Nat) : Stmt := PySem.Challenge.pw_hydrahouse_k67_ranks_or_ring.main.body.getD i (.Pass ⟨0, 0, 0, 0⟩)
structure Txt (K : PySem.W.Frag) (mg : Str → Option Value) : Prop where
  d_ranks : Df K mg "ranks" (top 1) ["rules"]
  d_ring_met : Df K mg "ring_met" (top 2) ["rules", "first", "ranking"]
  d_rank_above : Df K mg "rank_above" (top 3) ["kinds", "ranking"]
  d__law_cell_at : Df K mg "_law_cell_at" (top 5) ["_law_script", "_law_k"]
  d__law_names : Df K mg "_law_names" (top 6) ["_law_cell", "_law_many"]
  d__law_list : Df K mg "_law_list" (top 7) ["_law_cell", "_law_k", "_law_names_here", "_law_start", "_law_straight"]
  d__law_rules : Df K mg "_law_rules" (top 8) ["_law_script", "_law_names_here"]
  d__law_copied : Df K mg "_law_copied" (top 9) ["_law_rules_here"]
  d__law_ranked : Df K mg "_law_ranked" (top 10) ["_law_rules_here", "_law_told"]
  d__law_rings : Df K mg "_law_rings" (top 11) ["_law_rules_here", "_law_told"]
  z_bool : mg "bool" = none
  z_dict : mg "dict" = none
  z_int : mg "int" = none
  z_isinstance : mg "isinstance" = none
  z_len : mg "len" = none
  z_list : mg "list" = none
  z_max : mg "max" = none
  z_range : mg "range" = none
  z_set : mg "set" = none
  z_tuple : mg "tuple" = none
section
variable {P : Program} {w : World} {K : PySem.W.Frag} {mg : Str → Option Value} {base : Heap} {f : Addr} {fd : FuncData}
set_option maxRecDepth 100000
set_option maxHeartbeats 0
/-! tables and ranks as they stand in the heap -/
noncomputable def encR (R : List (Str × Nat)) : List (Key × W) := R.map fun p => (.inr p.1, .int (p.2 : Int))
theorem valW_nil {k : Key} : valW [] k = none := rfl
theorem valW_pos {p : Key × W} {r : List (Key × W)} {k : Key} (e : p.1 = k) : valW (p :: r) k = some p.2 := by simp [valW, List.find?_cons, e]
theorem valW_neg {p : Key × W} {r : List (Key × W)} {k : Key} (e : ¬ p.1 = k) : valW (p :: r) k = valW r k := by simp [valW, List.find?_cons, e]
theorem inr_iff {x y : Str} : (Sum.inr x : Key) = .inr y ↔ x = y := ⟨fun h => Sum.inr.inj h, fun h => by rw [h]⟩
theorem val_encR (k : Str) : ∀ R : List (Str × Nat), valW (encR R) (.inr k) = (gT R k).map fun x => .int (x : Int)
  | [] => rfl
  | p :: R => by
    show valW ((.inr p.1, .int (p.2 : Int)) :: encR R) (.inr k) = _
    by_cases e : p.1 = k
    · rw [valW_pos (by show (Sum.inr p.1 : Key) = _; rw [e]), gT_pos e]; rfl
    · rw [valW_neg (fun z => e (inr_iff.mp z)), gT_neg e]; exact val_encR k R
theorem any_encR (k : Str) : ∀ R : List (Str × Nat), ((encR R).any fun kv => decide (kv.1 = .inr k)) = R.any fun p => decide (p.1 = k)
  | [] => rfl
  | p :: R => by
    show ((((.inr p.1, .int (p.2 : Int)) : Key × W) :: encR R).any fun kv => decide (kv.1 = .inr k)) = _
    rw [List.any_cons, List.any_cons, any_encR k R]
    congr 1
    exact decide_eq_decide.mpr inr_iff
theorem put_encR (R : List (Str × Nat)) (k : Str) (v : Nat) : putD (encR R) (.inr k) (.int (v : Int)) = encR (pT R k v) := by
  unfold putD pT
  rw [any_encR]
  split
  · unfold encR
    rw [List.map_map, List.map_map]
    apply List.map_congr_left
    intro p _
    show (if (Sum.inr p.1 : Key) = .inr k then _ else _) = _
    by_cases e : p.1 = k
    · rw [if_pos (inr_iff.mpr e)]
      show _ = ((.inr (if p.1 = k then (p.1, v) else p).1, .int ((if p.1 = k then (p.1, v) else p).2 : Int)) : Key × W)
      rw [if_pos e]
    · rw [if_neg (fun z => e (inr_iff.mp z))]
      show _ = ((.inr (if p.1 = k then (p.1, v) else p).1, .int ((if p.1 = k then (p.1, v) else p).2 : Int)) : Key × W)
      rw [if_neg e]
  · unfold encR
    rw [List.map_append]
    rfl
theorem encR_len (R : List (Str × Nat)) : (encR R).length = R.length := List.length_map ..
noncomputable abbrev txs (L : List Str) : List W := L.map W.str
inductive TbV (G : Gp) : List (Key × W) → Tab Str → Prop where
  | nil : TbV G [] []
  | cons {k : Str} {b : Addr} {L : List Str} {kvs : List (Key × W)} {T : Tab Str} (h : G b = some (.lst (txs L))) (t : TbV G kvs T) : TbV G ((.inr k, .ref b) :: kvs) ((k, L) :: T)
theorem TbV.mono {G G' : Gp} (hm : ∀ b ws, G b = some (.lst ws) → G' b = some (.lst ws)) {kvs : List (Key × W)} {T : Tab Str} (h : TbV G kvs T) : TbV G' kvs T := by
  induction h with
  | nil => exact .nil
  | cons h t ih => exact .cons (hm _ _ h) ih
theorem TbV.val {G : Gp} {kvs : List (Key × W)} {T : Tab Str} (h : TbV G kvs T) (k : Str) : (gT T k = none ∧ valW kvs (.inr k) = none) ∨ ∃ L b, gT T k = some L ∧ valW kvs (.inr k) = some (.ref b) ∧ G b = some (.lst (txs L)) := by
  induction h with
  | nil => exact .inl ⟨rfl, rfl⟩
  | @cons k' b L kvs T hb t ih =>
    by_cases e : k' = k
    · exact .inr ⟨L, b, gT_pos e, valW_pos (by show (Sum.inr k' : Key) = _; rw [e]), hb⟩
    · rw [gT_neg (p := (k', L)) e, valW_neg (p := (Sum.inr k', W.ref b)) (fun z => e (inr_iff.mp z))]
      exact ih
theorem TbV.has {G : Gp} {kvs : List (Key × W)} {T : Tab Str} (h : TbV G kvs T) (k : Str) : (valW kvs (.inr k)).isSome = (gT T k).isSome := by
  rcases h.val k with ⟨e1, e2⟩ | ⟨L, b, e1, e2, _⟩
  · rw [e1, e2]; rfl
  · rw [e1, e2]; rfl
theorem TbV.at {G : Gp} {kvs : List (Key × W)} {T : Tab Str} (h : TbV G kvs T) {k : Str} {L : List Str} (e : gT T k = some L) : ∃ b, valW kvs (.inr k) = some (.ref b) ∧ G b = some (.lst (txs L)) := by
  rcases h.val k with ⟨e1, _⟩ | ⟨L', b, e1, e2, e3⟩
  · rw [e] at e1; cases e1
  · rw [e] at e1; cases e1
    exact ⟨b, e2, e3⟩
theorem TbV.keys {G : Gp} {kvs : List (Key × W)} {T : Tab Str} (h : TbV G kvs T) : (kvs.map fun p => kW p.1) = txs (T.map (·.1)) := by
  induction h with
  | nil => rfl
  | @cons k b L kvs T hb t ih =>
    show W.str k :: (kvs.map fun p => kW p.1) = W.str k :: txs (T.map (·.1))
    rw [ih]
theorem TbV.len {G : Gp} {kvs : List (Key × W)} {T : Tab Str} (h : TbV G kvs T) : kvs.length = T.length := by
  induction h with
  | nil => rfl
  | cons hb t ih => rw [List.length_cons, List.length_cons, ih]
/-! texts -/
theorem txs_flats : ∀ L : List Str, W.flats (txs L) = true
  | [] => rfl
  | x :: L => by
    have := txs_flats L
    show (W.flat (.str x) && W.flats (txs L)) = true
    rw [this]; rfl
theorem txs_deps : ∀ L : List Str, W.deps (txs L) = 0
  | [] => rfl
  | x :: L => by
    have := txs_deps L
    show max (W.dep (.str x)) (W.deps (txs L)) = 0
    rw [this]; rfl
theorem str_eq (x y : Str) : (W.str x).eq (.str y) = decide (x = y) := by
  simp only [W.eq]
  rw [Bool.eq_iff_iff, beq_iff_eq, decide_eq_true_eq]
theorem txs_any (L : List Str) (x : Str) : ((txs L).any fun w => w.eq (.str x)) = decide (x ∈ L) := by
  rw [Bool.eq_iff_iff, List.any_eq_true, decide_eq_true_eq]
  constructor
  · rintro ⟨w, hw, he⟩
    obtain ⟨y, hy, rfl⟩ := List.mem_map.mp hw
    rw [str_eq, decide_eq_true_eq] at he
    rw [← he]; exact hy
  · intro h
    exact ⟨_, List.mem_map.mpr ⟨x, h, rfl⟩, by rw [str_eq]; exact decide_eq_true rfl⟩
theorem txs_nil (L : List Str) : W.eqs (txs L) [] = decide (L = []) := by
  cases L with
  | nil => rfl
  | cons x L => rfl
theorem txs_inL (L : List Str) (x : Str) : InL (txs L) (.str x) := ⟨rfl, txs_flats L, by rw [txs_deps]; omega⟩
theorem comp_txs {C : Gp → Prop} {te : WE} {i : Nat} {τ0 : WSt} {G : Gp} {q : List W → Gp → Prop} (fn : Str → Int) (hC : C G) : ∀ {L : List Str} {acc : List W} {τ : WSt},
    (∀ x, x ∈ L → ∀ k : W → Gp → Prop, k (.int (fn x)) G → te (τ0.set i (some (.str x))) G k) → acc.length + L.length ≤ 100000 → (∀ x, τ.set i x = τ0.set i x) → q (acc ++ L.map fun x => .int (fn x)) G → compW C (hName i) wTrue te (txs L) τ G acc q
  | [], acc, τ, _, _, _, hq => ⟨hC, by simpa using hq⟩
  | x :: L, acc, τ, ht, hl, hτ, hq => by
    refine ⟨hC, ?_⟩
    show te (τ.set i (some (.str x))) G _
    rw [hτ]
    simp only [List.length_cons] at hl
    refine ht x List.mem_cons_self _ ⟨by (clear hC ht hτ hq; omega), ?_⟩
    exact comp_txs fn hC (fun u hu => ht u (List.mem_cons_of_mem _ hu)) (by simp; (clear hC ht hτ hq; omega)) (fun x => List.set_set ..) (by simpa using hq)
/-! rank_above -/
theorem mxs_max {R : List (Str × Nat)} : ∀ {L : List Str} {r : Nat}, mxs R L = some r → (∀ x, x ∈ L → ∃ y, gT R x = some y ∧ y + 1 ≤ r) ∧ (L ≠ [] → ∃ x y, x ∈ L ∧ gT R x = some y ∧ y + 1 = r) ∧ (L = [] → r = 0)
  | [], r, h => by
    cases h
    exact ⟨fun x hx => (by cases hx), fun h => absurd rfl h, fun _ => rfl⟩
  | o :: L, r, h => by
    obtain ⟨x, y, h1, h2, h3⟩ := mxs_cons h
    obtain ⟨a1, a2, a3⟩ := mxs_max h2
    refine ⟨fun z hz => ?_, fun _ => ?_, fun z => by cases z⟩
    · rcases List.mem_cons.mp hz with rfl | hz
      · exact ⟨x, h1, by (clear h2 a1 a2 a3 h h1 hz; omega)⟩
      · obtain ⟨u, h4, h5⟩ := a1 z hz
        exact ⟨u, h4, by (clear h h1 h2 a1 a2 a3 hz h4; omega)⟩
    · by_cases hxy : y ≤ x + 1
      · exact ⟨o, x, List.mem_cons_self, h1, by (clear h h1 h2 a1 a2 a3; omega)⟩
      · have hL : L ≠ [] := fun z => by
          have := a3 z
          (clear h h1 h2 h3 a1 a2 a3 z; omega)
        obtain ⟨u, v, h4, h5, h6⟩ := a2 hL
        exact ⟨u, v, List.mem_cons_of_mem _ h4, h5, by (clear h h1 h2 a1 a2 a3 hL h4 h5; omega)⟩
noncomputable def rkI (R : List (Str × Nat)) (x : Str) : Int := (((gT R x).getD 0 : Nat) : Int) + 1
theorem max_out {R : List (Str × Nat)} {L : List Str} {r : Nat} {q : Int → Prop} (h : mxs R L = some r) (hq : q r) : (L.map (rkI R) = [] → q 0) ∧ ∀ m : Int, m ∈ L.map (rkI R) → (∀ x, x ∈ L.map (rkI R) → x ≤ m) → q m := by
  obtain ⟨a1, a2, a3⟩ := mxs_max h
  refine ⟨fun e => ?_, fun m hm hx => ?_⟩
  · have : r = 0 := a3 (by cases L with | nil => rfl | cons x L => cases e)
    subst this
    exact hq
  · have hL : L ≠ [] := fun z => by subst z; cases hm
    obtain ⟨u, v, h4, h5, h6⟩ := a2 hL
    have g1 := hx (rkI R u) (List.mem_map.mpr ⟨u, h4, rfl⟩)
    obtain ⟨x, hx1, rfl⟩ := List.mem_map.mp hm
    obtain ⟨y, h7, h8⟩ := a1 x hx1
    have e1 : rkI R u = v + 1 := by unfold rkI; rw [h5]; rfl
    have e2 : rkI R x = y + 1 := by unfold rkI; rw [h7]; rfl
    have : rkI R x = (r : Int) := by (clear h hq a1 a2 a3 hL h4 h5 hx1 hm hx h7; omega)
    rw [this]; exact hq
noncomputable def spRa : WSp := fun ws G q _ => ∃ (b c : Addr) (L : List Str) (R : List (Str × Nat)) (r : Nat), ws = [.ref b, .ref c] ∧ G b = some (.lst (txs L)) ∧ GD G c (encR R) ∧ mxs R L = some r ∧ L.length ≤ 1000 ∧ q (.int (r : Int)) G
theorem scRa : FnScope ["kinds", "ranking"] ["kinds", "ranking"] (defScope (top 3)) := ⟨rfl, rfl, rfl, by decide +kernel, rfl, by decide +kernel, by decide +kernel⟩
theorem fnRa (F : Fun K "rank_above" "rank_above" (top 3) f fd) (mm : mg "max" = none) : WFn P w K mg base 1 f fd ["kinds", "ranking"] spRa := by
  have nd := scRa.nd
  refine fn3 F scRa (fun ws G q e h => by obtain ⟨_, _, _, _, _, rfl, _⟩ := h; rfl) (fun cdv A outer s H E hr => ?_)
  apply bodyOf
  · exact (qss_cons (qs_ret (qe_maxD rfl rfl mm (qe_comp (compSc (by first | rfl | decide +kernel)) rfl (qi_seqS (qe_var 0 rfl (.inl rfl))) (fun _ _ _ _ => (qg_nameB 1 (by first | assumption | decide +kernel | rfl) rfl (.inl rfl))) (fun _ _ _ _ => qts_nil) (fun _ _ _ _ => (qe_op q_addS (qe_ix q_ixD (qe_var 2 rfl (.inr (.inl rfl))) (qe_var 1 rfl (.inl rfl)) (fun _ _ => rfl)) qe_int))))) qss_nil)
  · rintro ws G q e ⟨b, c, L, R, r, rfl, hb, hc, hm, hl, hq⟩
    walk_at "R"
    refine ⟨_, hb, ?_⟩
    refine comp_txs (τ0 := [none, none, some (W.ref c)]) (rkI R) hb (fun x hx k hk => ?_) (by simp; exact Nat.le_trans (by assumption) (Nat.le_of_ble_eq_true rfl)) (fun x => rfl) ?_
    · obtain ⟨y, hy, _⟩ := mxs_in hm hx
      show rIxD (.ref c) (.str x) G fun u G1 => vAddS u (.int 1) G1 k
      refine ⟨_, .int (y : Int), hc, by rw [val_encR, hy]; rfl, ?_⟩
      have e1 : rkI R x = (y : Int) + 1 := by unfold rkI; rw [hy]; rfl
      rw [e1] at hk
      exact hk
    · intro p hp
      have fin : ∃ G0, GLe G0 (updG G p (GO.lst ([] ++ L.map fun x => W.int (rkI R x)))) ∧ q (.int (r : Int)) G0 := ⟨G, GLe.new hp, hq⟩
      have := max_out (q := fun m => ∃ G0, GLe G0 (updG G p (GO.lst ([] ++ L.map fun x => W.int (rkI R x)))) ∧ q (.int m) G0) hm fin
      exact ⟨L.map (rkI R), by rw [updG_same, List.nil_append, List.map_map]; rfl, this.1, this.2⟩

/-! ring_met -/
/-- what was there stays, c aside -/
noncomputable def Kp (c : Addr) (G G' : Gp) : Prop := ∀ x g, x ≠ c → G x = some g → G' x = some g
structure Stkd (G : Gp) (pw pl : Addr) (ps : List Addr) (w : List Str) (ls : List (List Str)) : Prop where
  wy : G pw = some (.lst (txs w.reverse))
  lf : G pl = some (.lst (ps.reverse.map W.ref))
  len : ps.length = ls.length
  wl : w.length = ls.length
  nd : (pw :: pl :: ps).Nodup
  at_ : ∀ (i : Nat) (p : Addr) (t : List Str), ps[i]? = some p → ls[i]? = some t → G p = some (.lst (txs t.reverse))
theorem Stkd.new {G : Gp} {pw pl p : Addr} {ps : List Addr} {w : List Str} {ls : List (List Str)} {g : GO} (h : Stkd G pw pl ps w ls) (hp : G p = none) : Stkd (updG G p g) pw pl ps w ls :=
  ⟨updG_ne' h.wy hp, updG_ne' h.lf hp, h.len, h.wl, h.nd, fun i x t e1 e2 => updG_ne' (h.at_ i x t e1 e2) hp⟩
theorem Stkd.cc {G : Gp} {pw pl c : Addr} {ps : List Addr} {w : List Str} {ls : List (List Str)} {g : GO} (h : Stkd G pw pl ps w ls) (hc : ∀ p, p ∈ pw :: pl :: ps → p ≠ c) : Stkd (updG G c g) pw pl ps w ls :=
  ⟨by rw [updG_ne (hc _ (by simp))]; exact h.wy, by rw [updG_ne (hc _ (by simp))]; exact h.lf, h.len, h.wl, h.nd, fun i x t e1 e2 => by
    rw [updG_ne (hc _ (by have := List.mem_of_getElem? e1; simp [this]))]; exact h.at_ i x t e1 e2⟩
theorem kinds_len : ∀ {T : Tab Str}, (∀ e, e ∈ T → e.2.length ≤ 50) → (T.flatMap (·.2)).length ≤ 50 * T.length
  | [], _ => Nat.le_refl _
  | e :: T, h => by
    have h1 := kinds_len (T := T) fun x hx => h x (List.mem_cons_of_mem _ hx)
    have h2 := h e List.mem_cons_self
    rw [List.flatMap_cons, List.length_append, List.length_cons]
    (clear h; omega)
theorem rk_len {T : Tab Str} {R : List (Str × Nat)} (hl : T.length ≤ 50) (he : ∀ e, e ∈ T → e.2.length ≤ 50) (hn : (R.map (·.1)).Nodup) (hk : ∀ k, k ∈ R.map (·.1) → Kind T k) : R.length ≤ 2600 := by
  have h1 := nd_le (m := T.map (·.1) ++ T.flatMap (·.2)) hn fun x hx => by
    rcases hk x hx with h | ⟨e, h1, h2⟩
    · exact List.mem_append_left _ h
    · exact List.mem_append_right _ (List.mem_flatMap.mpr ⟨e, h1, h2⟩)
  rw [List.length_append, List.length_map, List.length_map] at h1
  have h2 := kinds_len he
  (clear he hn hk; omega)
structure MetI (T : Tab Str) (G0 : Gp) (a c : Addr) (first : Str) (R0 : List (Str × Nat)) (m : Nat) (τ : WSt) (G : Gp) : Prop where
  ex : ∃ (pw pl : Addr) (ps : List Addr) (w : List Str) (ls : List (List Str)) (R : List (Str × Nat)) (t5 : Option W), τ = [some (.ref a), some (.str first), some (.ref c), some (.ref pw), some (.ref pl), t5] ∧ Stkd G pw pl ps w ls ∧ G c = some (.dic (encR R)) ∧ Kp c G0 G ∧ (∀ p, p ∈ pw :: pl :: ps → G0 p = none) ∧ Cl T R ∧ (∀ j x, gT R0 j = some x → gT R j = some x) ∧ (R.map (·.1)).Nodup ∧ (∀ k, k ∈ R.map (·.1) → Kind T k) ∧ Stk T R none w ls ∧ w.Nodup ∧ m = meas T R w ls ∧ (first ∈ w ∨ ∃ x, gT R first = some x)
theorem Kp.refl {c : Addr} {G : Gp} : Kp c G G := fun _ _ _ h => h
theorem Kp.put {c p : Addr} {G G' : Gp} {g : GO} (h : Kp c G G') (hp : G p = none) : Kp c G (updG G' p g) := fun x u hx e => by
  rw [updG_ne (fun z => by rw [z, hp] at e; cases e)]; exact h x u hx e
theorem Kp.cc {c : Addr} {G G' : Gp} {g : GO} (h : Kp c G G') : Kp c G (updG G' c g) := fun x u hx e => by
  rw [updG_ne hx]; exact h x u hx e
theorem Kp.none {c p : Addr} {G G' : Gp} {u' : GO} (h : Kp c G G') (hc : G' c = some u') (hp : G' p = none) : G p = none := by
  cases e : G p with
  | none => rfl
  | some g =>
    by_cases z : p = c
    · rw [z, hc] at hp; cases hp
    · have := h p g z e; rw [hp] at this; cases this
theorem Kp.gd {c a : Addr} {G G' : Gp} {kvs : List (Key × W)} (h : Kp c G G') (hac : a ≠ c) (hd : GD G a kvs) : GD G' a kvs := by
  rcases hd with e | ⟨o, us, e⟩
  · exact .inl (h _ _ hac e)
  · exact .inr ⟨o, us, h _ _ hac e⟩
theorem Kp.tb {c : Addr} {G G' : Gp} {kvs : List (Key × W)} {T : Tab Str} {d : List (Key × W)} (h : Kp c G G') (hc : G c = some (.dic d)) (t : TbV G kvs T) : TbV G' kvs T :=
  t.mono fun b ws e => h _ _ (fun z => by rw [z, hc] at e; cases e) e
theorem Kp.gle {c p : Addr} {G G' : Gp} {g u : GO} (h : Kp c G G') (hc : G' c = some g) (hp : G' p = some u) : GLe (updG (updG G c g) p u) G' := fun x v e => by
  by_cases z : x = p
  · subst z; rw [updG_same] at e; cases e; exact hp
  · rw [updG_ne z] at e
    by_cases y : x = c
    · subst y; rw [updG_same] at e; cases e; exact hc
    · rw [updG_ne y] at e; exact h _ _ y e
noncomputable def RingOk (T : Tab Str) (l : List Str) : Prop := l.Nodup ∧ ∃ c ys, l = c :: ys ∧ Ch T c ys c
structure RkS (T : Tab Str) (R : List (Str × Nat)) : Prop where
  cl : Cl T R
  nd : (R.map (·.1)).Nodup
  ks : ∀ k, k ∈ R.map (·.1) → Kind T k
  non : ∀ k L o, gT T k = some L → o ∈ L → gT T o = none → ∃ x, gT R o = some x
noncomputable def spMe : WSp := fun ws G q _ => ∃ (a c : Addr) (kvs : List (Key × W)) (T : Tab Str) (first : Str) (R : List (Str × Nat)), ws = [.ref a, .str first, .ref c] ∧ a ≠ c ∧ GD G a kvs ∧ TbV G kvs T ∧ G c = some (.dic (encR R)) ∧ RkS T R ∧ first ∈ T.map (·.1) ∧ T.length ≤ 50 ∧ (∀ e, e ∈ T → e.2.length ≤ 50) ∧
  (∀ p R', G p = none → RkS T R' → (∀ j x, gT R j = some x → gT R' j = some x) → (∃ x, gT R' first = some x) → q (.ref p) (updG (updG G c (.dic (encR R'))) p (.lst []))) ∧
  (∀ p R' l, G p = none → RingOk T l → q (.ref p) (updG (updG G c (.dic (encR R'))) p (.lst (txs l))))
theorem scMe : FnScope ["rules", "first", "ranking", "way", "left", "kind"] ["rules", "first", "ranking"] (defScope (top 2)) := ⟨rfl, rfl, rfl, by decide +kernel, rfl, by decide +kernel, by decide +kernel⟩
theorem fnMe (F : Fun K "ring_met" "ring_met" (top 2) f fd) (F1 : Fx P w K mg base "rank_above" ["kinds", "ranking"] 1 spRa) (ml : mg "list" = none) : WFn P w K mg base 2 f fd ["rules", "first", "ranking"] spMe := by
  have nd := scMe.nd
  refine fn3 (k := 1) F scMe (fun ws G q e h => by obtain ⟨_, _, _, _, _, _, rfl, _⟩ := h; rfl) (fun cdv A outer s H E hr => ?_)
  apply bodyOf
  · exact (qss_cons (qs_set 3 nd rfl (.inl rfl) (qe_lst (qa_cons (qe_var 1 rfl (.inl rfl)) qa_nil))) (qss_cons (qs_set 4 nd rfl (.inl rfl) (qe_lst (qa_cons (qe_callTy (q_listD rfl) rfl ml b_list (qa_cons (qe_ix q_ixD (qe_var 0 rfl (.inl rfl)) (qe_var 1 rfl (.inl rfl)) (fun _ _ => rfl)) qa_nil)) qa_nil))) (qss_cons (qs_while PySem.PassesOwn.never (qt_cmp (q_neD hr) (qe_var 3 rfl (.inl rfl)) (qe_lst qa_nil) (nomark _)) (qss_cons (qs_if (qt_cmp (q_eqD hr) (qe_ix q_ixD (qe_var 4 rfl (.inl rfl)) (qe_neg qe_int) (fun _ _ => rfl)) (qe_lst qa_nil) (nomark _)) (qss_cons (qs_expr (qe_pop (qe_var 4 rfl (.inl rfl)))) (qss_cons (qs_set 5 nd rfl (.inl rfl) (qe_pop (qe_var 3 rfl (.inl rfl)))) (qss_cons (qs_dput (qe_fxn F1 (Room.mono hr (by omega)) rfl (qa_cons (qe_ix q_ixD (qe_var 0 rfl (.inl rfl)) (qe_var 5 rfl (.inl rfl)) (fun _ _ => rfl)) (qa_cons (qe_var 2 rfl (.inl rfl)) qa_nil))) (qe_var 2 rfl (.inl rfl)) (qe_var 5 rfl (.inl rfl))) qss_nil))) (qss_cons (qs_set 5 nd rfl (.inl rfl) (qe_pop (qe_ix q_ixD (qe_var 4 rfl (.inl rfl)) (qe_neg qe_int) (fun _ _ => rfl)))) (qss_cons (qs_if (qt_cmp (q_inD hr) (qe_var 5 rfl (.inl rfl)) (qe_var 2 rfl (.inl rfl)) rfl) (qss_cons qs_continue qss_nil) qss_nil) (qss_cons (qs_if (qt_cmp (q_inD hr) (qe_var 5 rfl (.inl rfl)) (qe_var 3 rfl (.inl rfl)) rfl) (qss_cons (qs_ret (qe_sliceS (qe_var 3 rfl (.inl rfl)) (qo_some (qe_idx hr (qe_var 3 rfl (.inl rfl)) (qe_var 5 rfl (.inl rfl)))) qo_none)) qss_nil) qss_nil) (qss_cons (qs_expr (qe_app (qe_var 3 rfl (.inl rfl)) (qe_var 5 rfl (.inl rfl)))) (qss_cons (qs_expr (qe_app (qe_var 4 rfl (.inl rfl)) (qe_callTy (q_listD rfl) rfl ml b_list (qa_cons (qe_ix q_ixD (qe_var 0 rfl (.inl rfl)) (qe_var 5 rfl (.inl rfl)) (fun _ _ => rfl)) qa_nil)))) qss_nil)))))) qss_nil)) (qss_cons (qs_ret (qe_lst qa_nil)) qss_nil))))
  · rintro ws G q e ⟨a, c, kvs, T, first, R0, rfl, hac, hd, ht, hc, hS, hf, hTl, hTe, hq1, hq2⟩
    obtain ⟨L0, hL0⟩ := gT_some hf
    obtain ⟨b0, hb0, gb0⟩ := ht.at hL0
    refine seqU fun U hU => ?_
    walk_at "R"
    intro pw hpw
    subst hU
    refine seqU fun U hU => ?_
    walk_at "R"
    have k1 : Kp c G (updG G pw (GO.lst [W.str first])) := Kp.refl.put hpw
    have cw : c ≠ pw := fun z => by rw [z, hpw] at hc; cases hc
    refine ⟨_, _, k1.gd hac hd, hb0, ?_⟩
    show ∃ ws, ItsW _ b0 ws ∧ _
    refine ⟨_, .lst (updG_ne' gb0 hpw), fun p0 hp0 pl hpl => ?_⟩
    have e1 : (updG (updG (updG G pw (GO.lst [W.str first])) p0 (GO.lst (txs L0))) pl (GO.lst [W.ref p0])) c = some (.dic (encR R0)) := updG_ne' (updG_ne' (updG_ne' hc hpw) hp0) hpl
    have c0 : c ≠ p0 := fun z => by rw [← z, updG_ne cw, hc] at hp0; cases hp0
    have cl : c ≠ pl := fun z => by rw [← z, updG_ne c0, updG_ne cw, hc] at hpl; cases hpl
    have n1 : p0 ≠ pw := fun z => by rw [z, updG_same] at hp0; cases hp0
    have n2 : pl ≠ p0 := fun z => by rw [z, updG_same] at hpl; cases hpl
    have n3 : pl ≠ pw := fun z => by rw [z, updG_ne (Ne.symm n1), updG_same] at hpl; cases hpl
    have f0 : G p0 = none := by rw [updG_ne n1] at hp0; exact hp0
    have fl : G pl = none := by rw [updG_ne n2, updG_ne n3] at hpl; exact hpl
    have g1 := updG_same (G := updG (updG G pw (GO.lst [W.str first])) p0 (GO.lst (txs L0))) (a := pl) (g := GO.lst [W.ref p0])
    have g2 := updG_ne' (g := GO.lst [W.ref p0]) (updG_same (G := updG G pw (GO.lst [W.str first])) (a := p0) (g := GO.lst (txs L0))) hpl
    have g3 := updG_ne' (g := GO.lst [W.ref p0]) (updG_ne' (g := GO.lst (txs L0)) (updG_same (G := G) (a := pw) (g := GO.lst [W.str first])) hp0) hpl
    have k2 : Kp c G (updG (updG (updG G pw (GO.lst [W.str first])) p0 (GO.lst (txs L0))) pl (GO.lst [W.ref p0])) := (k1.put f0).put fl
    clear k1
    generalize updG (updG (updG G pw (GO.lst [W.str first])) p0 (GO.lst (txs L0))) pl (GO.lst [W.ref p0]) = G1 at e1 g1 g2 g3 k2 ⊢
    subst hU
    refine seqU fun U hU => ?_
    refine whileW (MetI T G a c first R0) ⟨_, ⟨pw, pl, [p0], [first], [L0.reverse], R0, none, rfl, ⟨g3, g1, rfl, rfl, by simp [n1, n2, n3, Ne.symm n1, Ne.symm n2, Ne.symm n3], fun i p t h1 h2 => ?_⟩, e1, k2, fun p hp => ?_, hS.cl, fun _ _ h => h, hS.nd, hS.ks, ?_, by simp, rfl, .inl (by simp)⟩⟩ ?_
    · cases i with
      | zero => cases h1; cases h2; rw [List.reverse_reverse]; exact g2
      | succ i => cases h1
    · rcases List.mem_cons.mp hp with rfl | hp
      · exact hpw
      · rcases List.mem_cons.mp hp with rfl | hp
        · exact fl
        · cases List.mem_singleton.mp hp; exact f0
    · exact ⟨L0, hL0, fun o ho => .inl (List.mem_reverse.mpr ho), fun o ho => List.mem_reverse.mp ho, (fun o z => by cases z), trivial⟩
    rintro m τ G' ⟨pw, pl, ps, w', ls, R, t5, rfl, hk, hc', k3, hfr, hcl, hmo, hnd, hks, hst, hwn, hm, hfi⟩ B hB
    clear hpw e1 cw c0 cl n1 n2 n3 f0 fl g1 g2 g3 k2 hp0 hpl gb0 hb0
    walk_at "R"
    intro p hp
    have fp : G p = none := k3.none hc' hp
    refine ⟨_, .lst (updG_ne' hk.wy hp) updG_same (txs_flats _) rfl (by rw [txs_deps]; (clear F F1 ml nd hr hac hd ht hc hS hf hTl hTe hq1 hq2 hL0 hU hk hc' k3 hfr hcl hmo hnd hks hst hwn hm hfi hB hp fp; omega)), ?_⟩
    rw [txs_nil]
    have hk2 := hk.new (g := .lst []) hp
    have hc2 := updG_ne' (g := .lst []) hc' hp
    have k4 := k3.put (g := .lst []) fp
    clear hk hc' k3 fp
    generalize updG G' p (.lst []) = G2 at hk2 hc2 k4 ⊢
    clear hp p
    have hnon : ∀ k L o, gT T k = some L → o ∈ L → gT T o = none → ∃ x, gT R o = some x := fun k L o h1 h2 h3 => by
      obtain ⟨x, hx⟩ := hS.non k L o h1 h2 h3
      exact ⟨x, hmo _ _ hx⟩
    cases w' with
    | nil =>
      rw [if_neg (by simp)]
      subst hU
      walk_at "R"
      intro p hp
      refine ⟨_, (k4.put (k4.none hc2 hp)).gle (updG_ne' hc2 hp) updG_same, hq1 p R (k4.none hc2 hp) ⟨hcl, hnd, hks, hnon⟩ hmo ?_⟩
      rcases hfi with h | h
      · cases h
      · exact h
    | cons k w' =>
      obtain ⟨l, ls', rfl⟩ : ∃ l ls', ls = l :: ls' := by
        cases ls with
        | nil => exact (nomatch hk2.wl)
        | cons l ls' => exact ⟨l, ls', rfl⟩
      obtain ⟨p1, ps', rfl⟩ : ∃ p ps', ps = p :: ps' := by
        cases ps with
        | nil => exact (nomatch hk2.len)
        | cons p ps' => exact ⟨p, ps', rfl⟩
      rw [if_pos (by simp)]
      refine ⟨fun τ1 G1 => ∃ m1, m1 < m ∧ MetI T G a c first R0 m1 τ1 G1, fun _ _ h => h, ?_⟩
      subst hB
      refine ifU fun T1 T2 hT1 hT2 => ?_
      walk_at "R"
      have top1 : atI ((p1 :: ps').reverse.map W.ref) (-1) = some (.ref p1) := by
        rw [List.reverse_cons, List.map_append]; exact atI_last _ _
      refine ⟨_, .ref p1, hk2.lf, top1, fun p hp => ?_⟩
      refine ⟨_, .lst (updG_ne' (hk2.at_ 0 p1 l rfl rfl) hp) updG_same (txs_flats _) rfl (by rw [txs_deps]; (clear F F1 ml nd hr hac hd ht hc hS hf hTl hTe hq1 hq2 hL0 hU hcl hmo hnd hks hc2 k4 hnon hwn hfi hst hm hfr hk2 hT1 hT2 top1 hp; omega)), ?_⟩
      rw [txs_nil]
      have fp : G p = none := k4.none hc2 hp
      have hk3 := hk2.new (g := .lst []) hp
      have hc3 := updG_ne' (g := .lst []) hc2 hp
      have k5 := k4.put (g := .lst []) fp
      clear hk2 hc2 k4 fp
      generalize updG G2 p (.lst []) = G3 at hk3 hc3 k5 ⊢
      clear hp p
      have nd1 := List.nodup_cons.mp hk3.nd
      have nd2 := List.nodup_cons.mp nd1.2
      have nd3 := List.nodup_cons.mp nd2.2
      have ge : ∀ {p : Addr}, p ∈ pw :: pl :: p1 :: ps' → p ≠ c := fun hp z => by
        have := hfr _ hp; rw [z, hc] at this; cases this
      cases l with
      | nil =>
        rw [if_pos (by simp)]
        obtain ⟨L, v, hL, hv, hcl2, hmo2, hst2⟩ := hst.pop hcl
        subst hT1
        refine seqU fun U2 hU2 => ?_
        walk_at "R"
        refine ⟨ps'.reverse.map W.ref, .ref p1, by rw [hk3.lf]; simp, ?_⟩
        have npl : pw ≠ pl := fun z => nd1.1 (by rw [z]; simp)
        subst hU2
        refine seqU fun U2 hU2 => ?_
        walk_at "R"
        refine ⟨txs w'.reverse, .str k, by rw [updG_ne npl, hk3.wy]; simp [txs], ?_⟩
        have k6 : Kp c G (updG (updG G3 pl (GO.lst (ps'.reverse.map W.ref))) pw (GO.lst (txs w'.reverse))) := (k5.put (hfr _ (by simp))).put (hfr _ (by simp))
        have hk4 : Stkd (updG (updG G3 pl (GO.lst (ps'.reverse.map W.ref))) pw (GO.lst (txs w'.reverse))) pw pl ps' w' ls' := by
          refine ⟨updG_same, by rw [updG_ne (Ne.symm npl), updG_same], by have := hk3.len; simpa using this, by have := hk3.wl; simpa using this, ?_, fun i x t h1 h2 => ?_⟩
          · refine List.nodup_cons.mpr ⟨fun z => nd1.1 ?_, List.nodup_cons.mpr ⟨fun z => nd2.1 (List.mem_cons_of_mem _ z), nd3.2⟩⟩
            rcases List.mem_cons.mp z with rfl | z
            · simp
            · simp [z]
          · have hx := List.mem_of_getElem? h1
            rw [updG_ne (fun z => nd1.1 (by rw [← z]; simp [hx])), updG_ne (fun z => nd2.1 (by rw [← z]; simp [hx]))]
            exact hk3.at_ (i + 1) x t h1 h2
        have hc4 : updG (updG G3 pl (GO.lst (ps'.reverse.map W.ref))) pw (GO.lst (txs w'.reverse)) c = some (.dic (encR R)) := by
          rw [updG_ne (Ne.symm (ge (by simp))), updG_ne (Ne.symm (ge (by simp)))]; exact hc3
        generalize updG (updG G3 pl (GO.lst (ps'.reverse.map W.ref))) pw (GO.lst (txs w'.reverse)) = G4 at k6 hk4 hc4 ⊢
        subst hU2
        walk_at "R"
        obtain ⟨b, hb, gb⟩ := (k6.tb hc ht).at hL
        have hLl := hTe _ (gT_mem hL)
        have hRl := rk_len hTl hTe hnd hks
        refine ⟨_, _, k6.gd hac hd, hb, b, c, L, R, v, rfl, gb, .inl hc4, hv, by simp only at hLl; exact Nat.le_trans (by assumption) (Nat.le_of_ble_eq_true rfl), ?_⟩
        refine ⟨c, k, _, rfl, rfl, hc4, by rw [encR_len]; exact Nat.le_trans (by assumption) (Nat.le_of_ble_eq_true rfl), ?_⟩
        rw [put_encR]
        refine ⟨_, ?_, ⟨pw, pl, ps', w', ls', pT R k v, _, rfl, hk4.cc fun p hp => ge ?_, updG_same, k6.cc, fun p hp => hfr p ?_, hcl2, fun j x h => hmo2 _ _ (hmo _ _ h), pT_nd hnd, fun j hj => ?_, hst2, (List.nodup_cons.mp hwn).2, rfl, ?_⟩⟩
        · rw [hm]; exact meas_pop hmo2
        · simp only [List.mem_cons] at hp ⊢
          rcases hp with h | h | h
          · exact .inl h
          · exact .inr (.inl h)
          · exact .inr (.inr (.inr h))
        · simp only [List.mem_cons] at hp ⊢
          rcases hp with h | h | h
          · exact .inl h
          · exact .inr (.inl h)
          · exact .inr (.inr (.inr h))
        · rcases pT_key.mp hj with rfl | hj
          · exact .inl (gT_key hL)
          · exact hks j hj
        · rcases hfi with h | ⟨x, h⟩
          · rcases List.mem_cons.mp h with rfl | h
            · exact .inr ⟨v, by rw [gT_put, if_pos rfl]⟩
            · exact .inl h
          · exact .inr ⟨x, hmo2 _ _ h⟩
      | cons o l =>
        rw [if_neg (by simp)]
        subst hT2
        refine seqU fun U2 hU2 => ?_
        walk_at "R"
        refine ⟨_, .ref p1, hk3.lf, top1, txs l.reverse, .str o, by rw [hk3.at_ 0 p1 (o :: l) rfl rfl]; simp [txs], ?_⟩
        have np : p1 ≠ pw := fun z => nd1.1 (by rw [← z]; simp)
        have np2 : p1 ≠ pl := fun z => nd2.1 (by rw [← z]; simp)
        have k6 : Kp c G (updG G3 p1 (GO.lst (txs l.reverse))) := k5.put (hfr _ (by simp))
        have hk4 : Stkd (updG G3 p1 (GO.lst (txs l.reverse))) pw pl (p1 :: ps') (k :: w') (l :: ls') := by
          refine ⟨by rw [updG_ne (Ne.symm np)]; exact hk3.wy, by rw [updG_ne (Ne.symm np2)]; exact hk3.lf, hk3.len, hk3.wl, hk3.nd, fun i x t h1 h2 => ?_⟩
          cases i with
          | zero => cases h1; cases h2; rw [updG_same]
          | succ i =>
            have hx : x ∈ ps' := List.mem_of_getElem? (i := i) h1
            rw [updG_ne (fun z => nd3.1 (by rw [← z]; exact hx))]
            exact hk3.at_ (i + 1) x t h1 h2
        have hc4 : updG G3 p1 (GO.lst (txs l.reverse)) c = some (.dic (encR R)) := by
          rw [updG_ne (Ne.symm (ge (by simp)))]; exact hc3
        generalize updG G3 p1 (GO.lst (txs l.reverse)) = G4 at k6 hk4 hc4 ⊢
        subst hU2
        refine seqU fun U2 hU2 => ?_
        walk_at "R"
        refine ⟨_, .dic (.inl hc4), ?_⟩
        rw [val_encR, Option.isSome_map]
        cases hx : gT R o with
        | some x =>
          rw [if_pos (by rfl)]
          exact ⟨_, hm ▸ meas_skip, ⟨pw, pl, p1 :: ps', k :: w', l :: ls', R, _, rfl, hk4, hc4, k6, hfr, hcl, hmo, hnd, hks, hst.skip hx, hwn, rfl, hfi⟩⟩
        | none =>
          rw [if_neg (by simp)]
          subst hU2
          refine seqU fun U2 hU2 => ?_
          walk_at "R"
          refine ⟨_, .lst hk4.wy (txs_inL _ _), ?_⟩
          rw [txs_any]
          by_cases hw : o ∈ k :: w'
          · rw [if_pos (decide_eq_true (List.mem_reverse.mpr hw))]
            obtain ⟨a', b', hab⟩ := List.append_of_mem hw
            have hrev : (k :: w').reverse = b'.reverse ++ o :: a'.reverse := by rw [hab]; simp
            have hwn2 := hwn
            rw [hab] at hwn2
            have hnb : ¬ o ∈ b' := (List.nodup_cons.mp (List.nodup_append.mp hwn2).2.1).1
            have fst : Fst (txs (k :: w').reverse) (.str o) b'.length := by
              rw [hrev]
              refine ⟨⟨.str o, by simp [txs], by rw [str_eq]; exact decide_eq_true rfl⟩, fun j x hj e => ?_⟩
              unfold txs at e
              rw [List.getElem?_map, List.getElem?_append_left (by simpa using hj)] at e
              obtain ⟨y, hy, rfl⟩ := Option.map_eq_some_iff.mp e
              rw [str_eq]
              refine decide_eq_false fun z => hnb ?_
              rw [← z]
              exact List.mem_reverse.mp (List.mem_of_getElem? hy)
            refine ⟨⟨_, hk4.wy⟩, _, b'.length, hk4.wy, txs_inL _ _, fst, _, hk4.wy, fun p hp => ?_⟩
            have ecut : cutW (txs (k :: w').reverse) (some ((b'.length : Nat) : Int)) none = txs (o :: a'.reverse) := by
              rw [cut_from, hrev]
              unfold txs
              rw [List.map_append, List.drop_left' (by simp)]
            rw [ecut]
            refine ⟨_, (k6.put (k6.none hc4 hp)).gle (updG_ne' hc4 hp) updG_same, hq2 p R _ (k6.none hc4 hp) ⟨?_, o, a'.reverse, rfl, ?_⟩⟩
            · have e1 : o :: a'.reverse = (a' ++ [o]).reverse := by simp
              rw [e1]
              refine nd_rev (List.Nodup.sublist ?_ hwn2)
              exact List.Sublist.append_left (by simp) a'
            · rw [hab] at hst
              exact hst.ring
          · rw [if_neg (by rw [decide_eq_true_eq, List.mem_reverse]; exact hw)]
            subst hU2
            obtain ⟨L, hL, hoL⟩ := hst.edge
            obtain ⟨L', hL'⟩ : ∃ L', gT T o = some L' := by
              cases hh : gT T o with
              | some L' => exact ⟨L', rfl⟩
              | none =>
                obtain ⟨x, hx'⟩ := hnon k L o hL hoL hh
                rw [hx] at hx'; cases hx'
            obtain ⟨b, hb, gb⟩ := ht.at hL'
            have hwl : (k :: w').length ≤ 50 := by
              have := nd_le hwn (m := T.map (·.1)) hst.keys
              rw [List.length_map] at this; (clear F F1 ml nd hr hac hd ht hc hS hf hTe hq1 hq2 hL0 hU hcl hmo hnd hks hnon hwn hfi hfr hT1 top1 hc3 k5 nd1 nd2 nd3 ge hst hm hk3 np np2 k6 hk4 hc4 hx hw hL hoL hL' hb gb; omega)
            have hpl : (p1 :: ps').length ≤ 50 := by
              rw [hk4.len, ← hk4.wl]; exact hwl
            have k7 : Kp c G (updG G4 pw (GO.lst (txs (k :: w').reverse ++ [W.str o]))) := k6.put (hfr _ (by simp))
            have npl : pl ≠ pw := fun z => nd1.1 (by rw [← z]; simp)
            walk_at "R"
            refine ⟨⟨_, hk4.wy⟩, _, hk4.wy, by simp only [txs, List.length_map, List.length_reverse]; exact Nat.le_trans (by assumption) (Nat.le_of_ble_eq_true rfl), ⟨_, by rw [updG_ne npl]; exact hk4.lf⟩, _, _, k7.gd hac hd, hb, ?_⟩
            show ∃ ws, ItsW _ b ws ∧ _
            refine ⟨_, .lst (k7 _ _ (fun z => by rw [z, hc] at gb; cases gb) gb), fun p hp => ?_⟩
            have n1 : p ≠ pw := fun z => by rw [z, updG_same] at hp; cases hp
            have hp4 : G4 p = none := by rw [updG_ne n1] at hp; exact hp
            have n2 : p ≠ pl := fun z => by rw [z, hk4.lf] at hp4; cases hp4
            have f2 : G p = none := k6.none hc4 hp4
            refine ⟨_, by rw [updG_ne (Ne.symm n2), updG_ne npl]; exact hk4.lf, by simp only [List.length_map, List.length_reverse]; exact Nat.le_trans (by assumption) (Nat.le_of_ble_eq_true rfl), ?_⟩
            refine ⟨_, ?_, ⟨pw, pl, p :: p1 :: ps', o :: k :: w', L'.reverse :: l :: ls', R, _, rfl, ⟨?_, ?_, by have := hk4.len; simp only [List.length_cons] at this ⊢; (clear F F1 ml nd hr hac hd ht hc hS hf hTl hTe hq1 hq2 hL0 hU hcl hmo hnd hks hnon hwn hfi hfr hT1 top1 hc3 k5 nd1 nd2 nd3 ge hst hm hk3 np np2 k6 hk4 hc4 hx hw hL hoL hL' hb gb hwl hpl k7 npl hp n1 hp4 n2 f2; omega), by have := hk4.wl; simp only [List.length_cons] at this ⊢; (clear F F1 ml nd hr hac hd ht hc hS hf hTl hTe hq1 hq2 hL0 hU hcl hmo hnd hks hnon hwn hfi hfr hT1 top1 hc3 k5 nd1 nd2 nd3 ge hst hm hk3 np np2 k6 hk4 hc4 hx hw hL hoL hL' hb gb hwl hpl k7 npl hp n1 hp4 n2 f2; omega), ?_, fun i x t h1 h2 => ?_⟩, ?_, (k7.put f2).put (hfr _ (by simp)), fun x hx' => ?_, hcl, hmo, hnd, hks, hst.push hL' fun x => List.mem_reverse, List.nodup_cons.mpr ⟨hw, hwn⟩, rfl, ?_⟩⟩
            · rw [hm]; exact meas_push hx hw hL' (List.length_reverse ..)
            · rw [updG_ne (Ne.symm npl), updG_ne (Ne.symm n1), updG_same]; simp [txs]
            · rw [updG_same]; simp
            · refine List.nodup_cons.mpr ⟨fun z => ?_, List.nodup_cons.mpr ⟨fun z => ?_, List.nodup_cons.mpr ⟨fun z => ?_, nd2.2⟩⟩⟩
              · rcases List.mem_cons.mp z with z | z
                · exact npl z.symm
                · rcases List.mem_cons.mp z with z | z
                  · exact n1 z.symm
                  · exact nd1.1 (List.mem_cons_of_mem _ z)
              · rcases List.mem_cons.mp z with z | z
                · exact n2 z.symm
                · exact nd2.1 z
              · obtain ⟨i, hi⟩ := List.getElem?_of_mem z
                have hi2 : i < (l :: ls').length := by rw [← hk4.len]; exact (List.getElem?_eq_some_iff.mp hi).1
                have := hk4.at_ _ _ _ hi (List.getElem?_eq_getElem hi2)
                rw [hp4] at this; cases this
            · cases i with
              | zero => cases h1; cases h2; rw [updG_ne n2, updG_same, List.reverse_reverse]
              | succ i =>
                have h1' : (p1 :: ps')[i]? = some x := h1
                have h2' : (l :: ls')[i]? = some t := h2
                have gx := hk4.at_ _ _ _ h1' h2'
                have hx' := List.mem_of_getElem? h1'
                rw [updG_ne (fun z => nd2.1 (by rw [← z]; exact hx')), updG_ne (fun z => by rw [z, hp4] at gx; cases gx), updG_ne (fun z => nd1.1 (by rw [← z]; exact List.mem_cons_of_mem _ hx'))]
                exact gx
            · rw [updG_ne (Ne.symm (ge (by simp))), updG_ne (fun z => by rw [← z, hc4] at hp4; cases hp4), updG_ne (Ne.symm (ge (by simp)))]
              exact hc4
            · rcases List.mem_cons.mp hx' with rfl | hx'
              · exact hfr _ (by simp)
              · rcases List.mem_cons.mp hx' with rfl | hx'
                · exact hfr _ (by simp)
                · rcases List.mem_cons.mp hx' with rfl | hx'
                  · exact f2
                  · exact hfr _ (List.mem_cons_of_mem _ (List.mem_cons_of_mem _ hx'))
            · rcases hfi with h | h
              · exact .inl (List.mem_cons_of_mem _ h)
              · exact .inr h

/-! ranks -/
structure Rk1 (T : Tab Str) (R : List (Str × Nat)) (D : List Str) : Prop where
  nd : (R.map (·.1)).Nodup
  z : ∀ k x, gT R k = some x → x = 0 ∧ gT T k = none ∧ Kind T k
  all : ∀ o, o ∈ D → gT T o = none → ∃ x, gT R o = some x
theorem Rk1.put {T : Tab Str} {R : List (Str × Nat)} {D : List Str} {o : Str} (h : Rk1 T R D) (hn : gT T o = none) (hk : Kind T o) : Rk1 T (pT R o 0) (D ++ [o]) := by
  refine ⟨pT_nd h.nd, fun k x hx => ?_, fun k hk hn => ?_⟩
  · rw [gT_put] at hx
    by_cases e : k = o
    · subst e; rw [if_pos rfl] at hx; cases hx; exact ⟨rfl, hn, hk⟩
    · rw [if_neg e] at hx; exact h.z k x hx
  · rw [gT_put]
    by_cases e : k = o
    · rw [if_pos e]; exact ⟨0, rfl⟩
    · rw [if_neg e]
      rcases List.mem_append.mp hk with hk | hk
      · exact h.all k hk hn
      · exact absurd (List.mem_singleton.mp hk) e
theorem Rk1.skip {T : Tab Str} {R : List (Str × Nat)} {D : List Str} {o : Str} {L : List Str} (h : Rk1 T R D) (hn : gT T o = some L) : Rk1 T R (D ++ [o]) := by
  refine ⟨h.nd, h.z, fun k hk hn' => ?_⟩
  rcases List.mem_append.mp hk with hk | hk
  · exact h.all k hk hn'
  · cases List.mem_singleton.mp hk; rw [hn] at hn'; cases hn'
theorem Rk1.len {T : Tab Str} {R : List (Str × Nat)} {D : List Str} (h : Rk1 T R D) (hl : T.length ≤ 50) (he : ∀ e, e ∈ T → e.2.length ≤ 50) : R.length ≤ 2600 :=
  rk_len hl he h.nd fun k hk => by
    obtain ⟨x, hx⟩ := gT_some hk
    exact (h.z k x hx).2.2
theorem Rk1.s {T : Tab Str} {R : List (Str × Nat)} (h : Rk1 T R (T.flatMap (·.2))) : RkS T R := by
  refine ⟨fun k r hr => ?_, h.nd, fun k hk => ?_, fun k L o h1 h2 h3 => h.all o (List.mem_flatMap.mpr ⟨_, gT_mem h1, h2⟩) h3⟩
  · obtain ⟨h1, h2, _⟩ := h.z k r hr
    subst h1
    unfold oth
    rw [h2]
    rfl
  · obtain ⟨x, hx⟩ := gT_some hk
    exact (h.z k x hx).2.2
theorem RkS.fin {T : Tab Str} {R : List (Str × Nat)} (h : RkS T R) (hT : (T.map (·.1)).Nodup) (ha : ∀ k, k ∈ T.map (·.1) → ∃ x, gT R k = some x) : RankOk T R := by
  refine ⟨h.nd, h.cl, fun k => ⟨h.ks k, fun hk => ?_⟩⟩
  rcases hk with hk | ⟨e, he, hk⟩
  · obtain ⟨x, hx⟩ := ha k hk
    exact gT_key hx
  · obtain ⟨x, hx⟩ := ha e.1 (List.mem_map.mpr ⟨e, he, rfl⟩)
    have h1 := h.cl _ _ hx
    unfold oth at h1
    rw [gT_nd (v := e.2) hT he] at h1
    obtain ⟨y, hy, _⟩ := mxs_in h1 hk
    exact gT_key hy
noncomputable def spRk : WSp := fun ws G q _ => ∃ (a : Addr) (kvs : List (Key × W)) (T : Tab Str), ws = [.ref a] ∧ G a = some (.dic kvs) ∧ TbV G kvs T ∧ (T.map (·.1)).Nodup ∧ T.length ≤ 50 ∧ (∀ e, e ∈ T → e.2.length ≤ 50) ∧
  (∀ p R, G p = none → RankOk T R → q (.tup [.str "ranks", .ref p]) (updG G p (.dic (encR R)))) ∧
  (∀ p l, G p = none → RingOk T l → q (.tup [.str "ring", .ref p]) (updG G p (.lst (txs l))))
theorem scRk : FnScope ["rules", "ranking", "kinds", "kind", "ring"] ["rules"] (defScope (top 1)) := ⟨rfl, rfl, rfl, by decide +kernel, rfl, by decide +kernel, by decide +kernel⟩
theorem fnRk (F : Fun K "ranks" "ranks" (top 1) f fd) (F1 : Fx P w K mg base "ring_met" ["rules", "first", "ranking"] 2 spMe) : WFn P w K mg base 3 f fd ["rules"] spRk := by
  have nd := scRk.nd
  refine fn3 (k := 2) F scRk (fun ws G q e h => by obtain ⟨_, _, _, rfl, _⟩ := h; rfl) (fun cdv A outer s H E hr => ?_)
  apply bodyOf
  · exact (qss_cons (qs_set 1 nd rfl (.inl rfl) qe_dicN) (qss_cons (qs_thaw (qs_for PySem.PassesOwn.never rfl (qi_vals 0 rfl (.inl rfl)) (qg_name 2 nd rfl (.inl rfl)) (qss_cons (qs_for PySem.PassesOwn.never rfl (qi_seqS (qe_var 2 rfl (.inl rfl))) (qg_name 3 nd rfl (.inl rfl)) (qss_cons (qs_if (qt_cmp (q_notInD hr) (qe_var 3 rfl (.inl rfl)) (qe_var 0 rfl (.inl rfl)) rfl) (qss_cons (qs_dput qe_int (qe_var 1 rfl (.inl rfl)) (qe_var 3 rfl (.inl rfl))) qss_nil) qss_nil) qss_nil)) qss_nil))) (qss_cons (qs_thaw (qs_for PySem.PassesOwn.never rfl (qi_keys 0 rfl (.inl rfl)) (qg_name 3 nd rfl (.inl rfl)) (qss_cons (qs_set 4 nd rfl (.inl rfl) (qe_fxn F1 (Room.mono hr (by omega)) rfl (qa_cons (qe_var 0 rfl (.inl rfl)) (qa_cons (qe_var 3 rfl (.inl rfl)) (qa_cons (qe_var 1 rfl (.inl rfl)) qa_nil))))) (qss_cons (qs_if (qt_cmp (q_neD hr) (qe_var 4 rfl (.inl rfl)) (qe_lst qa_nil) (nomark _)) (qss_cons (qs_ret (qe_tup (qa_cons qe_str (qa_cons (qe_var 4 rfl (.inl rfl)) qa_nil)))) qss_nil) qss_nil) qss_nil)))) (qss_cons (qs_ret (qe_tup (qa_cons qe_str (qa_cons (qe_var 1 rfl (.inl rfl)) qa_nil)))) qss_nil))))
  · rintro ws G q e ⟨a, kvs, T, rfl, ha, ht, hTn, hTl, hTe, hq1, hq2⟩
    refine seqU fun U hU => ?_
    walk_at "R"
    intro c hc
    have ac : a ≠ c := fun z => by rw [z, hc] at ha; cases ha
    subst hU
    refine seqU fun U hU => ?_
    walk_at "R"
    refine ⟨a, kvs, updG_ne' ha hc, kvs, updG_ne' ha hc, fun o us => ?_⟩
    have kab : ∀ {b : Addr} {ws : List W}, G b = some (.lst ws) → b ≠ a := fun hb z => by rw [z, ha] at hb; cases hb
    refine loopW_ind (fun ws τ G' => ∃ kvs2 T1 T2 R t2 t3, ws = kvs2.map (·.2) ∧ T = T1 ++ T2 ∧ TbV G kvs2 T2 ∧ τ = [some (.ref a), some (.ref c), t2, t3, none] ∧ G' a = some (.fdc o us kvs) ∧ G' c = some (.dic (encR R)) ∧ Kp a G G' ∧ Rk1 T R (T1.flatMap (·.2))) ?_ ?_ _ _ _
      ⟨kvs, [], T, [], none, none, rfl, rfl, ht, rfl, updG_same, by rw [updG_ne (Ne.symm ac), updG_same]; rfl, (Kp.refl.put hc).cc, ⟨by simp, (fun k x h => by cases h), (fun o h => by cases h)⟩⟩
    · rintro τ G' ⟨kvs2, T1, T2, R, t2, t3, hw, hT, ht2, rfl, ga, gc, kp, rk⟩
      cases ht2 with
      | cons _ _ => cases hw
      | nil =>
      rw [List.append_nil] at hT
      subst hT
      refine ⟨ga, o, us, kvs, ga, ?_⟩
      have rs := rk.s
      have ga2 : updG G' a (GO.dic kvs) a = some (.dic kvs) := updG_same
      have gc2 : updG G' a (GO.dic kvs) c = some (.dic (encR R)) := by rw [updG_ne (Ne.symm ac)]; exact gc
      have kp2 : Kp a G (updG G' a (GO.dic kvs)) := kp.cc
      generalize updG G' a (GO.dic kvs) = G2 at ga2 gc2 kp2 ⊢
      clear ga gc kp rk
      subst hU
      dsimp only
      refine seqU fun U hU => ?_
      walk_at "R"
      refine ⟨a, kvs, ga2, kvs, ga2, fun o us => ?_⟩
      rw [ht.keys]
      refine loopW_ind (fun ws τ G' => ∃ K1 K2 R t2 t3 t4, ws = txs K2 ∧ T.map (·.1) = K1 ++ K2 ∧ τ = [some (.ref a), some (.ref c), t2, t3, t4] ∧ G' a = some (.fdc o us kvs) ∧ G' c = some (.dic (encR R)) ∧ Kp a G G' ∧ RkS T R ∧ ∀ k, k ∈ K1 → ∃ x, gT R k = some x) ?_ ?_ _ _ _
        ⟨[], T.map (·.1), R, t2, t3, none, rfl, rfl, rfl, updG_same, by rw [updG_ne (Ne.symm ac)]; exact gc2, kp2.cc, rs, (fun k h => by cases h)⟩
      · rintro τ G' ⟨K1, K2, R, t2, t3, t4, hw, hT, rfl, ga, gc, kp, rs, hall⟩
        cases K2 with
        | cons _ _ => cases hw
        | nil =>
        rw [List.append_nil] at hT
        refine ⟨ga, o, us, kvs, ga, ?_⟩
        subst hU
        walk_at "R"
        refine ⟨_, fun x g e => ?_, hq1 c R hc (rs.fin hTn fun k hk => hall k (by rw [← hT]; exact hk))⟩
        by_cases z : x = c
        · rw [z, updG_same] at e
          cases e
          rw [z, updG_ne (Ne.symm ac)]; exact gc
        · rw [updG_ne z] at e
          by_cases y : x = a
          · rw [y] at e ⊢
            rw [ha] at e
            cases e
            exact updG_same
          · rw [updG_ne y]; exact kp _ _ y e
      · rintro w1 ws τ G' kk ⟨K1, K2, R, t2, t3, t4, hw, hT, rfl, ga, gc, kp, rs, hall⟩ hk
        cases K2 with
        | nil => cases hw
        | cons k K2 =>
        cases hw
        refine ⟨ga, ?_⟩
        refine seqU fun U2 hU2 => ?_
        walk_at "R"
        refine ⟨a, c, kvs, T, k, R, rfl, ac, .inr ⟨o, us, ga⟩, ht.mono fun b ws e => kp b _ (kab e) e, gc, rs, by rw [hT]; simp, hTl, hTe, fun p R' hp rs' hmo hf => ?_, fun p R' l hp hl => ?_⟩
        · subst hU2
          have pa : p ≠ a := fun z => by rw [z, ga] at hp; cases hp
          have pc : p ≠ c := fun z => by rw [z, gc] at hp; cases hp
          have f1 : G p = none := by
            cases e : G p with
            | none => rfl
            | some g => have := kp p g pa e; rw [hp] at this; cases this
          have ga3 : updG (updG G' c (GO.dic (encR R'))) p (GO.lst []) a = some (.fdc o us kvs) := by rw [updG_ne (Ne.symm pa), updG_ne ac]; exact ga
          have gc3 : updG (updG G' c (GO.dic (encR R'))) p (GO.lst []) c = some (.dic (encR R')) := by rw [updG_ne (Ne.symm pc), updG_same]
          have gp3 : updG (updG G' c (GO.dic (encR R'))) p (GO.lst []) p = some (.lst []) := updG_same
          have kp3 : Kp a G (updG (updG G' c (GO.dic (encR R'))) p (GO.lst [])) := (kp.put hc).put f1
          generalize updG (updG G' c (GO.dic (encR R'))) p (GO.lst []) = G3 at ga3 gc3 gp3 kp3 ⊢
          walk_at "R"
          intro p2 hp2
          refine ⟨_, .lst (updG_ne' gp3 hp2) updG_same rfl rfl (Nat.zero_le _), ?_⟩
          rw [if_neg (by decide)]
          have f2 : G p2 = none := by
            cases e : G p2 with
            | none => rfl
            | some g =>
              have := kp3 p2 g (fun z => by rw [z, ga3] at hp2; cases hp2) e
              rw [hp2] at this; cases this
          refine hk _ _ ⟨K1 ++ [k], K2, R', _, _, _, rfl, by rw [hT]; simp, rfl, updG_ne' ga3 hp2, updG_ne' gc3 hp2, kp3.put f2, rs', fun j hj => ?_⟩
          rcases List.mem_append.mp hj with hj | hj
          · obtain ⟨x, hx⟩ := hall j hj
            exact ⟨x, hmo _ _ hx⟩
          · cases List.mem_singleton.mp hj
            exact hf
        · subst hU2
          have pa : p ≠ a := fun z => by rw [z, ga] at hp; cases hp
          have f1 : G p = none := by
            cases e : G p with
            | none => rfl
            | some g => have := kp p g pa e; rw [hp] at this; cases this
          have ga3 : updG (updG G' c (GO.dic (encR R'))) p (GO.lst (txs l)) a = some (.fdc o us kvs) := by rw [updG_ne (Ne.symm pa), updG_ne ac]; exact ga
          have gp3 : updG (updG G' c (GO.dic (encR R'))) p (GO.lst (txs l)) p = some (.lst (txs l)) := updG_same
          have kp3 : Kp a G (updG (updG G' c (GO.dic (encR R'))) p (GO.lst (txs l))) := (kp.put hc).put f1
          generalize updG (updG G' c (GO.dic (encR R'))) p (GO.lst (txs l)) = G3 at ga3 gp3 kp3 ⊢
          walk_at "R"
          intro p2 hp2
          refine ⟨_, .lst (updG_ne' gp3 hp2) updG_same (txs_flats l) rfl (by rw [txs_deps]; (clear F F1 nd hr ha ht hTn hTl hTe hq1 hq2 hc ac kab hw ga2 gc2 kp2 hU ga gc kp rs hall hT hk hp hl pa f1 ga3 gp3 kp3 hp2; omega)), ?_⟩
          have hne : l ≠ [] := by
            obtain ⟨_, x, ys, e, _⟩ := hl
            rw [e]; simp
          rw [txs_nil, if_pos (decide_eq_false hne)]
          refine ⟨o, us, kvs, updG_ne' ga3 hp2, _, fun x g e => ?_, hq2 p l f1 hl⟩
          by_cases z : x = p
          · rw [z, updG_same] at e
            cases e
            rw [z, updG_ne pa]; exact updG_ne' gp3 hp2
          · rw [updG_ne z] at e
            by_cases y : x = a
            · rw [y] at e ⊢
              rw [ha] at e
              cases e
              exact updG_same
            · rw [updG_ne y]; exact updG_ne' (kp3 _ _ y e) hp2
    · rintro w1 ws τ G' kk ⟨kvs2, T1, T2, R, t2, t3, hw, hT, ht2, rfl, ga, gc, kp, rk⟩ hk
      cases ht2 with
      | nil => cases hw
      | @cons k b L kvs3 T3 hb ht3 =>
      cases hw
      refine ⟨ga, ?_⟩
      refine seqU fun U2 hU2 => ?_
      walk_at "R"
      refine ⟨_, kp _ _ (kab hb) hb, ?_⟩
      refine loopW_ind (fun ws τ G'' => ∃ L1 L2 R t3, ws = txs L2 ∧ L = L1 ++ L2 ∧ τ = [some (.ref a), some (.ref c), some (.ref b), t3, none] ∧ G'' a = some (.fdc o us kvs) ∧ G'' c = some (.dic (encR R)) ∧ Kp a G G'' ∧ Rk1 T R (T1.flatMap (·.2) ++ L1)) ?_ ?_ _ _ _
        ⟨[], L, R, t3, rfl, rfl, rfl, ga, gc, kp, by rw [List.append_nil]; exact rk⟩
      · rintro τ G'' ⟨L1, L2, R, t3, hw, hL, rfl, ga, gc, kp, rk⟩
        cases L2 with
        | cons _ _ => cases hw
        | nil =>
        rw [List.append_nil] at hL
        subst hL
        refine ⟨kp _ _ (kab hb) hb, ?_⟩
        subst hU2
        walk_at "R"
        refine hk _ _ ⟨kvs3, T1 ++ [(k, L)], T3, R, _, _, rfl, by rw [hT]; simp, ht3, rfl, ga, gc, kp, ?_⟩
        rw [List.flatMap_append]
        simpa using rk
      · rintro w1 ws τ G'' kk2 ⟨L1, L2, R, t3, hw, hL, rfl, ga, gc, kp, rk⟩ hk2
        cases L2 with
        | nil => cases hw
        | cons x L2 =>
        cases hw
        refine ⟨kp _ _ (kab hb) hb, ?_⟩
        have hkx : Kind T x := .inr ⟨(k, L), by rw [hT]; simp, by rw [hL]; simp⟩
        walk_at "R"
        refine ⟨_, .dic (.inr ⟨o, us, ga⟩), ?_⟩
        rw [ht.has]
        have hRl := rk.len hTl hTe
        cases hx : gT T x with
        | some L' =>
          rw [if_neg (by simp)]
          exact hk2 _ _ ⟨L1 ++ [x], L2, R, _, rfl, by rw [hL]; simp, rfl, ga, gc, kp, by rw [← List.append_assoc]; exact rk.skip hx⟩
        | none =>
          rw [if_pos (by rfl)]
          refine ⟨c, x, _, rfl, rfl, gc, by rw [encR_len]; exact Nat.le_trans (by assumption) (Nat.le_of_ble_eq_true rfl), ?_⟩
          refine hk2 _ _ ⟨L1 ++ [x], L2, pT R x 0, _, rfl, by rw [hL]; simp, rfl, by rw [updG_ne ac]; exact ga, by rw [updG_same]; exact congrArg (fun d => some (GO.dic d)) (put_encR R x 0), kp.put hc, by rw [← List.append_assoc]; exact rk.put hx hkx⟩

/-! the law's cells, names, lists -/
noncomputable def spCa : WSp := fun ws G q _ => ∃ (ns : List Int) (k : Int), ws = [.scr ns, .int k] ∧ 0 ≤ k ∧ ∀ v : Int, q (.int v) G
theorem scCa : FnScope ["_law_script", "_law_k"] ["_law_script", "_law_k"] (defScope (top 5)) := ⟨rfl, rfl, rfl, by decide +kernel, rfl, by decide +kernel, by decide +kernel⟩
theorem fnCa (F : Fun K "_law_cell_at" "_law_cell_at" (top 5) f fd) (ml : mg "len" = none) : WFn P w K mg base 1 f fd ["_law_script", "_law_k"] spCa := by
  have nd := scCa.nd
  refine fn3 F scCa (fun ws G q e h => by obtain ⟨_, _, rfl, _⟩ := h; rfl) (fun cdv A outer s H E hr => ?_)
  apply bodyOf
  · exact (qss_cons (qs_if (qt_cmp (q_lt3 hr) (qe_var 1 rfl (.inl rfl)) (qe_callB q_lenD rfl ml PySem.boot_len (qa_cons (qe_var 0 rfl (.inl rfl)) qa_nil)) (nomark _)) (qss_cons (qs_ret (qe_ix q_ixD (qe_var 0 rfl (.inl rfl)) (qe_var 1 rfl (.inl rfl)) (fun _ _ => rfl))) qss_nil) qss_nil) (qss_cons (qs_ret qe_int) qss_nil))
  · rintro ws G q e ⟨ns, k, rfl, hk, hq⟩
    walk_at "R"
    split
    · obtain ⟨n, hn⟩ := ints_at (ns := ns) (i := k) hk (by assumption)
      exact ⟨n, hn, GLe.done (hq n)⟩
    · exact GLe.done (hq 0)
theorem updG_twice {G : Gp} {p : Addr} {g g' : GO} : updG (updG G p g) p g' = updG G p g' := by
  funext b
  unfold updG
  split <;> rfl
noncomputable def spNa : WSp := fun ws G q _ => ∃ (c : Int) (n : Nat), ws = [.int c, .int (n : Int)] ∧ n ≤ 10 ∧ ∀ p names, G p = none → names.length = n → q (.ref p) (updG G p (.lst (txs names)))
theorem scNa : FnScope ["_law_cell", "_law_many", "_law_letters", "_law_size", "_law_at", "_law_names_here", "_law_k", "_law_name", "_law_j", "_law_step"] ["_law_cell", "_law_many"] (defScope (top 6)) := ⟨rfl, rfl, rfl, by decide +kernel, rfl, by decide +kernel, by decide +kernel⟩
theorem fnNa (F : Fun K "_law_names" "_law_names" (top 6) f fd) (mr : mg "range" = none) : WFn P w K mg base 1 f fd ["_law_cell", "_law_many"] spNa := by
  have nd := scNa.nd
  refine fn3 F scNa (fun ws G q e h => by obtain ⟨_, _, rfl, _⟩ := h; rfl) (fun cdv A outer s H E hr => ?_)
  apply bodyOf
  · exact (qss_cons (qs_set 2 nd rfl (.inl rfl) qe_str) (qss_cons (qs_set 3 nd rfl (.inl rfl) (qe_op q_addS qe_int (qe_op q_mod (qe_var 0 rfl (.inl rfl)) qe_int))) (qss_cons (qs_set 4 nd rfl (.inl rfl) (qe_op q_mod (qe_op q_divB (qe_var 0 rfl (.inl rfl)) qe_int) (qe_var 3 rfl (.inl rfl)))) (qss_cons (qs_set 5 nd rfl (.inl rfl) (qe_lst qa_nil)) (qss_cons (qs_for PySem.PassesOwn.never rfl (qi_range rfl mr (qa_cons (qe_var 1 rfl (.inl rfl)) qa_nil)) (qg_name 6 nd rfl (.inl rfl)) (qss_cons (qs_set 7 nd rfl (.inl rfl) qe_str) (qss_cons (qs_for PySem.PassesOwn.never rfl (qi_range rfl mr (qa_cons (qe_var 3 rfl (.inl rfl)) qa_nil)) (qg_name 8 nd rfl (.inl rfl)) (qss_cons (qs_set 9 nd rfl (.inl rfl) (qe_op q_addS (qe_op q_divB (qe_var 0 rfl (.inl rfl)) qe_int) (qe_op q_mulS (qe_op q_mulS (qe_var 8 rfl (.inl rfl)) (qe_var 8 rfl (.inl rfl))) (qe_var 8 rfl (.inl rfl))))) (qss_cons (qs_if (qt_cmp (q_eqD hr) (qe_var 8 rfl (.inl rfl)) (qe_var 4 rfl (.inl rfl)) (nomark _)) (qss_cons (qs_set 9 nd rfl (.inl rfl) (qe_op q_addS (qe_var 9 rfl (.inl rfl)) (qe_op q_mulS qe_int (qe_var 6 rfl (.inl rfl))))) qss_nil) qss_nil) (qss_cons (qs_set 7 nd rfl (.inl rfl) (qe_op q_addS (qe_var 7 rfl (.inl rfl)) (qe_ix q_ixD (qe_var 2 rfl (.inl rfl)) (qe_op q_mod (qe_var 9 rfl (.inl rfl)) qe_int) (fun _ _ => rfl)))) qss_nil)))) (qss_cons (qs_expr (qe_app (qe_var 5 rfl (.inl rfl)) (qe_var 7 rfl (.inl rfl)))) qss_nil)))) (qss_cons (qs_ret (qe_var 5 rfl (.inl rfl))) qss_nil))))))
  · rintro ws G q e ⟨c, n, rfl, hn, hq⟩
    refine seqU fun U hU => ?_
    walk_at "R"
    subst hU
    refine seqU fun U hU => ?_
    walk_at "R"
    obtain ⟨sz, hsz, s0, s1⟩ : ∃ sz : Nat, 1 + c % 6 = (sz : Int) ∧ 1 ≤ sz ∧ sz ≤ 6 := by
      have := mod_in (i := c) (j := 6) (by (clear F mr nd hr hn hq hU; omega))
      exact ⟨(1 + c % 6).toNat, by (clear F mr nd hr hn hq hU; omega), by (clear F mr nd hr hn hq hU; omega), by (clear F mr nd hr hn hq hU; omega)⟩
    rw [hsz]
    subst hU
    refine seqU fun U hU => ?_
    walk_at "R"
    refine ⟨by (clear F mr nd hr hn hq s0 s1 hU; omega), ?_⟩
    generalize c / 6 % (sz : Int) = at_
    subst hU
    refine seqU fun U hU => ?_
    walk_at "R"
    intro p hp
    subst hU
    refine seqU fun U hU => ?_
    walk_at "R"
    refine ⟨by omega, by omega, ?_⟩
    refine loop_up n (fun i τ G' => ∃ t6 t7 t8 t9 names, τ = [some (.int c), some (.int (n : Int)), some (.str "abcdefghijklmnopqrstuvwxyz"), some (.int (sz : Int)), some (.int at_), some (.ref p), t6, t7, t8, t9] ∧ names.length = i ∧ G' = updG G p (.lst (txs names))) ⟨none, none, none, none, [], rfl, rfl, rfl⟩ ?_ ?_
    · rintro τ G' ⟨t6, t7, t8, t9, names, rfl, hnl, rfl⟩
      refine ⟨trivial, ?_⟩
      subst hU
      walk_at "R"
      exact GLe.done (hq p names hp hnl)
    · rintro i τ G' kk hi ⟨t6, t7, t8, t9, names, rfl, hnl, rfl⟩ hk
      refine ⟨trivial, ?_⟩
      refine seqU fun U2 hU2 => ?_
      walk_at "R"
      subst hU2
      refine seqU fun U2 hU2 => ?_
      walk_at "R"
      refine ⟨by omega, by omega, ?_⟩
      refine loop_up sz (fun j τ G' => ∃ t8 t9 nm, τ = [some (.int c), some (.int (n : Int)), some (.str "abcdefghijklmnopqrstuvwxyz"), some (.int (sz : Int)), some (.int at_), some (.ref p), some (.int (i : Int)), some (.str nm), t8, t9] ∧ nm.length ≤ j ∧ G' = updG G p (.lst (txs names))) ⟨t8, t9, _, rfl, Nat.zero_le _, rfl⟩ ?_ ?_
      · rintro τ G' ⟨t8, t9, nm, rfl, hnm, rfl⟩
        refine ⟨trivial, ?_⟩
        subst hU2
        walk_at "R"
        refine ⟨⟨_, updG_same⟩, _, updG_same, by simp only [txs, List.length_map]; (clear F mr nd hr hq hsz s0 s1 hp hU hk hnm; omega), ?_⟩
        refine hk _ _ ⟨_, _, _, _, names ++ [nm], rfl, by simp [hnl], ?_⟩
        rw [updG_twice]
        simp [txs]
      · rintro j τ G' kk2 hj ⟨t8, t9, nm, rfl, hnm, rfl⟩ hk2
        refine ⟨trivial, ?_⟩
        refine seqU fun U3 hU3 => ?_
        walk_at "R"
        refine ⟨.inl (.inl (.inl (by (clear F mr nd hr hn hq s0 s1 hp hU hi hnl hk hU2 hnm hk2 hU3; omega)))), .inl (.inl (.inr (by (clear F mr nd hr hn hq s0 s1 hp hU hi hnl hk hU2 hnm hk2 hU3; omega)))), ?_⟩
        generalize c / 36 + (j : Int) * j * j = st
        subst hU3
        refine seqU fun U3 hU3 => ?_
        walk_at "R"
        have fin : ∀ st : Int, ∃ c' : Nat, atI (Str.ofString "abcdefghijklmnopqrstuvwxyz").cps.toList (st % 26) = some c' := fun st => by
          have hm := mod_in (i := st) (j := 26) (by (clear F mr nd hr hn hq hsz s0 s1 hp hU hi hnl hk hU2 hj hnm hk2 hU3; omega))
          have hl : (Str.ofString "abcdefghijklmnopqrstuvwxyz").cps.toList.length = 26 := by decide +kernel
          have h2 : (st % 26).toNat < (Str.ofString "abcdefghijklmnopqrstuvwxyz").cps.toList.length := by (clear F mr nd hr hn hq hsz s0 s1 hp hU hi hnl hk hU2 hj hnm hk2 hU3; omega)
          have q := atI_nat (List.getElem?_eq_getElem h2)
          rw [Int.toNat_of_nonneg hm.1] at q
          exact ⟨_, q⟩
        have hl26 : (Str.ofString "abcdefghijklmnopqrstuvwxyz").length ≤ 100000 := by decide +kernel
        by_cases hja : (j : Int) = at_
        · rw [if_pos hja]
          obtain ⟨c', hc'⟩ := fin (st + 3 * (i : Int))
          subst hU3
          walk_at "R"
          refine ⟨hl26, c', hc', ?_⟩
          refine ⟨by show nm.length + 1 ≤ 100000; (clear F mr nd hr hn hq s0 s1 hp hU hi hnl hk hU2 hk2 fin hl26 hc'; omega), ?_⟩
          refine hk2 _ _ ⟨_, _, _, rfl, ?_, rfl⟩
          show (nm.cps ++ #[c']).size ≤ _
          rw [Array.size_append]
          have : nm.cps.size ≤ j := hnm
          simpa using this
        · rw [if_neg hja]
          obtain ⟨c', hc'⟩ := fin st
          subst hU3
          walk_at "R"
          refine ⟨hl26, c', hc', ?_⟩
          refine ⟨by show nm.length + 1 ≤ 100000; (clear F mr nd hr hn hq s0 s1 hp hU hi hnl hk hU2 hk2 fin hl26 hja hc'; omega), ?_⟩
          refine hk2 _ _ ⟨_, _, _, rfl, ?_, rfl⟩
          show (nm.cps ++ #[c']).size ≤ _
          rw [Array.size_append]
          have : nm.cps.size ≤ j := hnm
          simpa using this
theorem gle_upd {G G' : Gp} {p : Addr} {g : GO} (h : GLe G G') : GLe (updG G p g) (updG G' p g) := fun x u e => by
  by_cases z : x = p
  · rw [z, updG_same] at e ⊢; exact e
  · rw [updG_ne z] at e ⊢; exact h _ _ e
noncomputable def spLi : WSp := fun ws G q _ => ∃ (c k t : Int) (pn : Addr) (names : List Str) (b : Bool), ws = [.int c, .int k, .ref pn, .int t, .bl b] ∧ G pn = some (.lst (txs names)) ∧ 1 ≤ names.length ∧ names.length ≤ 10 ∧ ∀ p L, G p = none → L.length ≤ 11 → q (.ref p) (updG G p (.lst (txs L)))
theorem scLi : FnScope ["_law_cell", "_law_k", "_law_names_here", "_law_start", "_law_straight", "_law_many", "_law_others", "_law_j", "_law_later"] ["_law_cell", "_law_k", "_law_names_here", "_law_start", "_law_straight"] (defScope (top 7)) := ⟨rfl, rfl, rfl, by decide +kernel, rfl, by decide +kernel, by decide +kernel⟩
theorem txs_at {L : List Str} {i : Int} (h0 : 0 ≤ i) (h1 : i < L.length) : ∃ x, atI (txs L) i = some (.str x) ∧ x ∈ L := by
  have hl : i.toNat < L.length := by walk_at "om"
  have q := atI_nat (xs := txs L) (j := i.toNat) (v := .str L[i.toNat]) (by unfold txs; rw [List.getElem?_map, List.getElem?_eq_getElem hl]; rfl)
  rw [Int.toNat_of_nonneg h0] at q
  exact ⟨_, q, List.getElem_mem hl⟩
theorem fnLi (F : Fun K "_law_list" "_law_list" (top 7) f fd) (mr : mg "range" = none) (ml : mg "len" = none) : WFn P w K mg base 1 f fd ["_law_cell", "_law_k", "_law_names_here", "_law_start", "_law_straight"] spLi := by
  have nd := scLi.nd
  refine fn3 F scLi (fun ws G q e h => by obtain ⟨_, _, _, _, _, _, rfl, _⟩ := h; rfl) (fun cdv A outer s H E hr => ?_)
  apply bodyOf
  · exact (qss_cons (qs_set 5 nd rfl (.inl rfl) (qe_callB q_lenD rfl ml PySem.boot_len (qa_cons (qe_var 2 rfl (.inl rfl)) qa_nil))) (qss_cons (qs_set 6 nd rfl (.inl rfl) (qe_lst qa_nil)) (qss_cons (qs_for PySem.PassesOwn.never rfl (qi_range rfl mr (qa_cons (qe_var 5 rfl (.inl rfl)) qa_nil)) (qg_name 7 nd rfl (.inl rfl)) (qss_cons (qs_set 8 nd rfl (.inl rfl) (qe_cmp q_gt (qe_op q_mod (qe_op q_sub (qe_var 7 rfl (.inl rfl)) (qe_var 3 rfl (.inl rfl))) (qe_var 5 rfl (.inl rfl))) (qe_op q_mod (qe_op q_sub (qe_var 1 rfl (.inl rfl)) (qe_var 3 rfl (.inl rfl))) (qe_var 5 rfl (.inl rfl))) (nomark _))) (qss_cons (qs_if (qt_w (qw_and (qt_cmp (q_eqD hr) (qe_op q_mod (qe_var 0 rfl (.inl rfl)) qe_int) qe_int (nomark _)) (qw_and1 (qt_w (qw_or (qt_val (qe_var 8 rfl (.inl rfl))) (qw_or1 (qt_not (qt_val (qe_var 4 rfl (.inl rfl)))))))))) (qss_cons (qs_expr (qe_app (qe_var 6 rfl (.inl rfl)) (qe_ix q_ixD (qe_var 2 rfl (.inl rfl)) (qe_var 7 rfl (.inl rfl)) (fun _ _ => rfl)))) qss_nil) qss_nil) (qss_cons (qs_set 0 nd rfl (.inl rfl) (qe_op q_divB (qe_var 0 rfl (.inl rfl)) qe_int)) qss_nil)))) (qss_cons (qs_if (qt_w (qw_and (qt_cmp (q_eqD hr) (qe_op q_mod (qe_var 0 rfl (.inl rfl)) qe_int) qe_int (nomark _)) (qw_and1 (qt_cmp q_gt (qe_callB q_lenD rfl ml PySem.boot_len (qa_cons (qe_var 6 rfl (.inl rfl)) qa_nil)) qe_int (nomark _))))) (qss_cons (qs_expr (qe_app (qe_var 6 rfl (.inl rfl)) (qe_ix q_ixD (qe_var 6 rfl (.inl rfl)) (qe_op q_mod (qe_op q_divB (qe_var 0 rfl (.inl rfl)) qe_int) (qe_callB q_lenD rfl ml PySem.boot_len (qa_cons (qe_var 6 rfl (.inl rfl)) qa_nil))) (fun _ _ => rfl)))) qss_nil) qss_nil) (qss_cons (qs_if (qt_cmp (q_eqD hr) (qe_op q_mod (qe_op q_divB (qe_var 0 rfl (.inl rfl)) qe_int) qe_int) qe_int (nomark _)) (qss_cons (qs_set 6 nd rfl (.inl rfl) (qe_rev (qe_var 6 rfl (.inl rfl)))) qss_nil) qss_nil) (qss_cons (qs_ret (qe_var 6 rfl (.inl rfl))) qss_nil))))))
  · rintro ws G q e ⟨c, k, t, pn, names, b, rfl, hn, hn0, hn1, hq⟩
    refine seqU fun U hU => ?_
    walk_at "R"
    refine ⟨_, .lst hn, ?_⟩
    subst hU
    refine seqU fun U hU => ?_
    walk_at "R"
    intro p hp
    subst hU
    refine seqU fun U hU => ?_
    walk_at "R"
    simp only [txs, List.length_map]
    refine ⟨by omega, by omega, ?_⟩
    refine loop_up names.length (fun i τ G' => ∃ c t7 t8 L, τ = [some (.int c), some (.int k), some (.ref pn), some (.int t), some (.bl b), some (.int (names.length : Int)), some (.ref p), t7, t8] ∧ L.length ≤ i ∧ G' = updG G p (.lst (txs L))) ⟨c, none, none, [], rfl, Nat.zero_le _, rfl⟩ ?_ ?_
    · rintro τ G' ⟨c, t7, t8, L, rfl, hL, rfl⟩
      refine ⟨trivial, ?_⟩
      subst hU
      dsimp only
      refine seqU fun U hU => ?_
      walk_at "R"
      have rest : ∀ L2 : List Str, L2.length ≤ 11 → U { nx := fun x G1 => ∃ G0, GLe G0 G1 ∧ q W.non G0, rt := fun w G1 => ∃ G0, GLe G0 G1 ∧ q w G0 } [some (W.int c), some (W.int k), some (W.ref pn), some (W.int t), some (W.bl b), some (W.int (names.length : Int)), some (W.ref p), t7, t8] (updG G p (GO.lst (txs L2))) := fun L2 h2 => by
        subst hU
        refine seqU fun U hU => ?_
        walk_at "R"
        split
        · refine ⟨_, updG_same, fun p2 hp2 => ?_⟩
          have n2 : p2 ≠ p := fun z => by rw [z, updG_same] at hp2; cases hp2
          have f2 : G p2 = none := by rw [updG_ne n2] at hp2; exact hp2
          subst hU
          walk_at "R"
          refine ⟨_, gle_upd (GLe.new hp), ?_⟩
          have := hq p2 L2.reverse f2 (by rw [List.length_reverse]; exact h2)
          unfold txs at this ⊢
          rw [List.map_reverse] at this
          exact this
        · subst hU
          walk_at "R"
          exact GLe.done (hq p L2 hp h2)
      split
      · refine ⟨_, .lst updG_same, ?_⟩
        have hlen : (txs L).length = L.length := List.length_map ..
        by_cases hpos : (0 : Int) < ((txs L).length : Int)
        · rw [if_pos hpos]
          have hm := mod_in (i := c / 3) (j := (L.length : Int)) (by (clear F mr ml nd hr hn hn0 hn1 hq hp hL hU rest; omega))
          obtain ⟨x, hx, _⟩ := txs_at (L := L) hm.1 hm.2
          refine ⟨⟨_, updG_same⟩, L.length, by have := LenW.lst (G := updG G p (GO.lst (txs L))) (a := p) updG_same; rw [hlen] at this; exact this, by (clear F mr ml nd hr hn hn0 hn1 hq hp hL hU rest hm hx; omega), _, _, updG_same, hx, _, updG_same, by simp only [List.length_map]; (clear F mr ml nd hr hn hq hp hU rest hpos hm hx; omega), ?_⟩
          rw [updG_twice]
          have := rest (L ++ [x]) (by rw [List.length_append]; simp; (clear F mr ml nd hr hn hq hp hU rest hpos hm hx; omega))
          unfold txs at this
          rw [List.map_append] at this
          exact this
        · rw [if_neg hpos]
          exact rest L (by (clear F mr ml nd hr hn hn0 hn1 hq hp hL hU rest; omega))
      · exact rest L (by (clear F mr ml nd hr hn hq hp hU rest; omega))
    · rintro i τ G' kk hi ⟨c, t7, t8, L, rfl, hL, rfl⟩ hk
      refine ⟨trivial, ?_⟩
      refine seqU fun U2 hU2 => ?_
      walk_at "R"
      refine ⟨by omega, by omega, ?_⟩
      generalize decide ((k - t) % (names.length : Int) < ((i : Int) - t) % (names.length : Int)) = lt
      subst hU2
      refine seqU fun U2 hU2 => ?_
      walk_at "R"
      have fin : ∀ L2 : List Str, L2.length ≤ i + 1 → U2 { nx := kk, rt := fun w G1 => ∃ G0, GLe G0 G1 ∧ q w G0, bk := U { nx := fun x G1 => ∃ G0, GLe G0 G1 ∧ q W.non G0, rt := fun w G1 => ∃ G0, GLe G0 G1 ∧ q w G0 }, ct := kk } [some (W.int c), some (W.int k), some (W.ref pn), some (W.int t), some (W.bl b), some (W.int (names.length : Int)), some (W.ref p), some (W.int (i : Int)), some (W.bl lt)] (updG G p (GO.lst (txs L2))) := fun L2 h2 => by
        subst hU2
        walk_at "R"
        exact hk _ _ ⟨_, _, _, L2, rfl, h2, rfl⟩
      obtain ⟨x, hx, _⟩ := txs_at (L := names) (i := (i : Int)) (by (clear F mr ml nd hr hn hn0 hn1 hq hp hU hi hL hk hU2 fin; omega)) (by (clear F mr ml nd hr hn hn0 hn1 hq hp hU hL hk hU2 fin; omega))
      have np : pn ≠ p := fun z => by rw [z, hp] at hn; cases hn
      have fin2 : U2 { nx := kk, rt := fun w G1 => ∃ G0, GLe G0 G1 ∧ q w G0, bk := U { nx := fun x G1 => ∃ G0, GLe G0 G1 ∧ q W.non G0, rt := fun w G1 => ∃ G0, GLe G0 G1 ∧ q w G0 }, ct := kk } [some (W.int c), some (W.int k), some (W.ref pn), some (W.int t), some (W.bl b), some (W.int (names.length : Int)), some (W.ref p), some (W.int (i : Int)), some (W.bl lt)] (updG (updG G p (GO.lst (txs L))) p (GO.lst (txs L ++ [W.str x]))) := by
        rw [updG_twice]
        have := fin (L ++ [x]) (by rw [List.length_append]; simp; assumption)
        unfold txs at this
        rw [List.map_append] at this
        exact this
      have hlen : (txs L).length = L.length := List.length_map ..
      split
      · split
        · exact ⟨⟨_, updG_same⟩, _, _, by rw [updG_ne np]; exact hn, hx, _, updG_same, by (clear F mr ml nd hr hn hq hp hU hk hU2 fin hx np fin2; omega), fin2⟩
        · split
          · exact ⟨⟨_, updG_same⟩, _, _, by rw [updG_ne np]; exact hn, hx, _, updG_same, by (clear F mr ml nd hr hn hq hp hU hk hU2 fin hx np fin2; omega), fin2⟩
          · exact fin L (by (clear F mr ml nd hr hn hn0 hn1 hq hp hU hi hk hU2 fin hx np fin2; omega))
      · exact fin L (by (clear F mr ml nd hr hn hn0 hn1 hq hp hU hi hk hU2 fin hx np fin2; omega))

/-! the law's rules and their copy -/
theorem TbV.any {G : Gp} {kvs : List (Key × W)} {T : Tab Str} (h : TbV G kvs T) (k : Str) : (kvs.any fun kv => decide (kv.1 = .inr k)) = T.any fun p => decide (p.1 = k) := by
  induction h with
  | nil => rfl
  | cons hb t ih =>
    rw [List.any_cons, List.any_cons, ih]
    congr 1
    exact decide_eq_decide.mpr inr_iff
theorem TbV.put {G : Gp} {kvs : List (Key × W)} {T : Tab Str} (h : TbV G kvs T) (k : Str) {b : Addr} {L : List Str} (hb : G b = some (.lst (txs L))) : TbV G (putD kvs (.inr k) (.ref b)) (pT T k L) := by
  unfold putD pT
  rw [h.any k]
  split
  · rename_i e
    clear e
    induction h with
    | nil => exact .nil
    | @cons k' b' L' kvs T hb' t ih =>
      rw [List.map_cons, List.map_cons]
      by_cases e : k' = k
      · rw [if_pos (by show (Sum.inr k' : Key) = _; rw [e]), if_pos e]
        exact .cons hb ih
      · rw [if_neg (fun z => e (inr_iff.mp z)), if_neg e]
        exact .cons hb' ih
  · rename_i e
    clear e
    induction h with
    | nil => exact .cons hb .nil
    | cons hb' t ih => exact .cons hb' ih
theorem TbV.upd {G : Gp} {kvs : List (Key × W)} {T : Tab Str} {b : Addr} {L : List Str} {m : Nat} (h : TbV G kvs T) (hT : ∀ e, e ∈ T → e.2.length ≤ m) (hL : L.length ≤ m) : ∃ T', TbV (updG G b (.lst (txs L))) kvs T' ∧ T'.map (·.1) = T.map (·.1) ∧ ∀ e, e ∈ T' → e.2.length ≤ m := by
  induction h with
  | nil => exact ⟨[], .nil, rfl, fun e h => by cases h⟩
  | @cons k' b' L' kvs T hb' t ih =>
    obtain ⟨T', h1, h2, h3⟩ := ih fun e he => hT e (List.mem_cons_of_mem _ he)
    by_cases e : b' = b
    · refine ⟨(k', L) :: T', .cons (by rw [e, updG_same]) h1, by rw [List.map_cons, List.map_cons, h2], fun e he => ?_⟩
      rcases List.mem_cons.mp he with rfl | he
      · exact hL
      · exact h3 e he
    · refine ⟨(k', L') :: T', .cons (by rw [updG_ne e]; exact hb') h1, by rw [List.map_cons, List.map_cons, h2], fun e he => ?_⟩
      rcases List.mem_cons.mp he with rfl | he
      · exact hT _ List.mem_cons_self
      · exact h3 e he
theorem mem_putD {kvs : List (Key × W)} {k : Key} {w : W} {e : Key × W} (h : e ∈ putD kvs k w) : e ∈ kvs ∨ e.2 = w := by
  unfold putD at h
  split at h
  · obtain ⟨x, hx, rfl⟩ := List.mem_map.mp h
    by_cases z : x.1 = k
    · rw [if_pos z]; exact .inr rfl
    · rw [if_neg z]; exact .inl hx
  · rcases List.mem_append.mp h with h | h
    · exact .inl h
    · cases List.mem_singleton.mp h; exact .inr rfl
theorem mem_pT {T : Tab Str} {k : Str} {L : List Str} {e : Str × List Str} (h : e ∈ pT T k L) : e ∈ T ∨ e.2 = L := by
  unfold pT at h
  split at h
  · obtain ⟨x, hx, rfl⟩ := List.mem_map.mp h
    by_cases z : x.1 = k
    · rw [if_pos z]; exact .inr rfl
    · rw [if_neg z]; exact .inl hx
  · rcases List.mem_append.mp h with h | h
    · exact .inl h
    · cases List.mem_singleton.mp h; exact .inr rfl
structure RuI (G G' : Gp) (p : Addr) (kvs : List (Key × W)) (T : Tab Str) (n m : Nat) : Prop where
  le : GLe G G'
  fp : G p = none
  d : G' p = some (.dic kvs)
  t : TbV G' kvs T
  nd : (T.map (·.1)).Nodup
  len : T.length ≤ n
  ls : ∀ e, e ∈ T → e.2.length ≤ m
  fr : ∀ e, e ∈ kvs → ∀ b, e.2 = .ref b → G b = none
noncomputable def spRu : WSp := fun ws G q _ => ∃ (ns : List Int) (pn : Addr) (names : List Str), ws = [.scr ns, .ref pn] ∧ G pn = some (.lst (txs names)) ∧ 1 ≤ names.length ∧ names.length ≤ 10 ∧ ∀ p G' kvs T, RuI G G' p kvs T 10 20 → q (.ref p) G'
theorem scRu : FnScope ["_law_script", "_law_names_here", "_law_way", "_law_rules_here", "_law_k", "_law_cell", "_law_more"] ["_law_script", "_law_names_here"] (defScope (top 8)) := ⟨rfl, rfl, rfl, by decide +kernel, rfl, by decide +kernel, by decide +kernel⟩
theorem fnRu (F : Fun K "_law_rules" "_law_rules" (top 8) f fd) (F1 : Fx P w K mg base "_law_cell_at" ["_law_script", "_law_k"] 1 spCa) (F2 : Fx P w K mg base "_law_list" ["_law_cell", "_law_k", "_law_names_here", "_law_start", "_law_straight"] 1 spLi) (mr : mg "range" = none) (ml : mg "len" = none) : WFn P w K mg base 2 f fd ["_law_script", "_law_names_here"] spRu := by
  have nd := scRu.nd
  refine fn3 (k := 1) F scRu (fun ws G q e h => by obtain ⟨_, _, _, rfl, _⟩ := h; rfl) (fun cdv A outer s H E hr => ?_)
  apply bodyOf
  · exact (qss_cons (qs_set 2 nd rfl (.inl rfl) (qe_fxn F1 (Room.mono hr (by omega)) rfl (qa_cons (qe_var 0 rfl (.inl rfl)) (qa_cons qe_int qa_nil)))) (qss_cons (qs_set 3 nd rfl (.inl rfl) qe_dicN) (qss_cons (qs_for PySem.PassesOwn.never rfl (qi_range rfl mr (qa_cons (qe_callB q_lenD rfl ml PySem.boot_len (qa_cons (qe_var 1 rfl (.inl rfl)) qa_nil)) qa_nil)) (qg_name 4 nd rfl (.inl rfl)) (qss_cons (qs_set 5 nd rfl (.inl rfl) (qe_fxn F1 (Room.mono hr (by omega)) rfl (qa_cons (qe_var 0 rfl (.inl rfl)) (qa_cons (qe_op q_addS qe_int (qe_var 4 rfl (.inl rfl))) qa_nil)))) (qss_cons (qs_if (qt_cmp (q_neD hr) (qe_op q_mod (qe_var 5 rfl (.inl rfl)) qe_int) qe_int (nomark _)) (qss_cons (qs_dput (qe_fxn F2 (Room.mono hr (by omega)) rfl (qa_cons (qe_op q_divB (qe_var 5 rfl (.inl rfl)) qe_int) (qa_cons (qe_var 4 rfl (.inl rfl)) (qa_cons (qe_var 1 rfl (.inl rfl)) (qa_cons (qe_op q_mod (qe_op q_divB (qe_var 2 rfl (.inl rfl)) qe_int) (qe_callB q_lenD rfl ml PySem.boot_len (qa_cons (qe_var 1 rfl (.inl rfl)) qa_nil))) (qa_cons (qe_cmp (q_eqD hr) (qe_op q_mod (qe_var 2 rfl (.inl rfl)) qe_int) qe_int (nomark _)) qa_nil)))))) (qe_var 3 rfl (.inl rfl)) (qe_ix q_ixD (qe_var 1 rfl (.inl rfl)) (qe_var 4 rfl (.inl rfl)) (fun _ _ => rfl))) qss_nil) qss_nil) qss_nil))) (qss_cons (qs_set 6 nd rfl (.inl rfl) (qe_ix q_ixD (qe_var 1 rfl (.inl rfl)) (qe_op q_mod (qe_op q_divB (qe_var 2 rfl (.inl rfl)) qe_int) (qe_callB q_lenD rfl ml PySem.boot_len (qa_cons (qe_var 1 rfl (.inl rfl)) qa_nil))) (fun _ _ => rfl))) (qss_cons (qs_if (qt_w (qw_and (qt_cmp (q_eqD hr) (qe_op q_mod (qe_var 2 rfl (.inl rfl)) qe_int) qe_int (nomark _)) (qw_and1 (qt_cmp (q_inD hr) (qe_var 6 rfl (.inl rfl)) (qe_var 3 rfl (.inl rfl)) rfl)))) (qss_cons (qs_expr (qe_app (qe_ix q_ixD (qe_var 3 rfl (.inl rfl)) (qe_var 6 rfl (.inl rfl)) (fun _ _ => rfl)) (qe_ix q_ixD (qe_var 1 rfl (.inl rfl)) (qe_op q_mod (qe_op q_divB (qe_var 2 rfl (.inl rfl)) qe_int) (qe_callB q_lenD rfl ml PySem.boot_len (qa_cons (qe_var 1 rfl (.inl rfl)) qa_nil))) (fun _ _ => rfl)))) qss_nil) qss_nil) (qss_cons (qs_ret (qe_var 3 rfl (.inl rfl))) qss_nil))))))
  · rintro ws G q e ⟨ns, pn, names, rfl, hn, hn0, hn1, hq⟩
    have hlen : (txs names).length = names.length := List.length_map ..
    refine seqU fun U hU => ?_
    walk_at "R"
    refine ⟨ns, _, rfl, by (clear F F1 F2 mr ml nd hr hn hn0 hn1 hq hlen hU; omega), fun way => ?_⟩
    dsimp only
    subst hU
    refine seqU fun U hU => ?_
    walk_at "R"
    intro p hp
    subst hU
    refine seqU fun U hU => ?_
    walk_at "R"
    refine ⟨_, .lst (updG_ne' hn hp), ?_⟩
    rw [hlen]
    refine ⟨by omega, by omega, ?_⟩
    refine loop_up names.length (fun i τ G' => ∃ t4 t5 kvs T, τ = [some (.scr ns), some (.ref pn), some (.int way), some (.ref p), t4, t5, none] ∧ RuI G G' p kvs T i 11) ⟨none, none, [], [], rfl, ⟨GLe.new hp, hp, updG_same, .nil, by simp, Nat.zero_le _, (fun e h => by cases h), (fun e h => by cases h)⟩⟩ ?_ ?_
    · rintro τ G' ⟨t4, t5, kvs, T, rfl, hI⟩
      refine ⟨trivial, ?_⟩
      subst hU
      dsimp only
      refine seqU fun U hU => ?_
      walk_at "R"
      have gn := hI.le _ _ hn
      have hm := mod_in (i := way / 2) (j := ((txs names).length : Int)) (by (clear F F1 F2 mr ml nd hr hn hq hp hI hU gn; omega))
      obtain ⟨x, hx, _⟩ := txs_at (L := names) (i := way / 2 % ((txs names).length : Int)) hm.1 (by (clear F F1 F2 mr ml nd hr hn hn0 hn1 hq hp hI hU gn; omega))
      refine ⟨_, .lst gn, by (clear F F1 F2 mr ml nd hr hn hq hp hI hU gn hm hx; omega), _, _, gn, hx, ?_⟩
      have hI10 : RuI G G' p kvs T 10 20 := ⟨hI.le, hI.fp, hI.d, hI.t, hI.nd, Nat.le_trans hI.len hn1, fun e he => Nat.le_trans (hI.ls e he) (by decide), hI.fr⟩
      subst hU
      refine seqU fun U hU => ?_
      walk_at "R"
      have rest : ∀ G' T, RuI G G' p kvs T 10 20 → U { nx := fun x G1 => ∃ G0, GLe G0 G1 ∧ q W.non G0, rt := fun w G1 => ∃ G0, GLe G0 G1 ∧ q w G0 } [some (W.scr ns), some (W.ref pn), some (W.int way), some (W.ref p), t4, t5, some (.str x)] G' := fun G' T h => by
        subst hU
        walk_at "R"
        exact GLe.done (hq p G' kvs T h)
      split
      · refine ⟨_, .dic (.inl hI.d), ?_⟩
        rw [hI.t.has]
        cases hL : gT T x with
        | none =>
          rw [if_neg (by simp)]
          exact rest G' T hI10
        | some L =>
          rw [if_pos (by rfl)]
          obtain ⟨b, hb, gb⟩ := hI.t.at hL
          have hLl := hI.ls _ (gT_mem hL)
          have hlL : (txs L).length = L.length := List.length_map ..
          have hm2 := mod_in (i := way / 16) (j := ((txs names).length : Int)) (by (clear F F1 F2 mr ml nd hr hn hq hp hI gn hm hx hI10 hU rest hL hb gb hLl hlL; omega))
          obtain ⟨y, hy, _⟩ := txs_at (L := names) (i := way / 16 % ((txs names).length : Int)) hm2.1 (by (clear F F1 F2 mr ml nd hr hn hn0 hn1 hq hp hI gn hm hx hI10 hU rest hL hb gb hLl hlL; omega))
          refine ⟨_, _, .inl hI.d, hb, ?_⟩
          refine ⟨⟨_, gb⟩, _, .lst gn, by (clear F F1 F2 mr ml nd hr hn hq hp hI gn hm hx hI10 hU rest hL hb gb hLl hlL hm2 hy; omega), _, _, gn, hy, _, gb, by simp only at hLl; (clear F F1 F2 mr ml nd hr hn hn0 hn1 hq hlen hp hI gn hm hx hI10 hU rest hL hb gb hm2 hy; omega), ?_⟩
          have e1 : txs L ++ [W.str y] = txs (L ++ [y]) := by simp [txs]
          rw [e1]
          obtain ⟨T', h1, h2, h3⟩ := hI.t.upd (b := b) (L := L ++ [y]) (m := 20) (fun e he => Nat.le_trans (hI.ls e he) (by decide)) (by rw [List.length_append]; simp only at hLl; simp; exact Nat.le_trans (by assumption) (Nat.le_of_ble_eq_true rfl))
          have fb : G b = none := by
            unfold valW at hb
            obtain ⟨e0, he0, hb⟩ := Option.map_eq_some_iff.mp hb
            exact hI.fr e0 (List.mem_of_find?_eq_some he0) b hb
          have nbp : p ≠ b := fun z => by rw [← z, hI.d] at gb; cases gb
          refine rest _ T' ⟨hI.le.put fb, hI.fp, by rw [updG_ne nbp]; exact hI.d, h1, by rw [h2]; exact hI.nd, ?_, h3, hI.fr⟩
          have h4 := congrArg List.length h2
          rw [List.length_map, List.length_map] at h4
          have := hI.len
          (clear F F1 F2 mr ml nd hr hn hq hp hI gn hm hx hI10 hU rest hL hb gb hLl hlL hm2 hy e1 h1 h2 h3 fb nbp; omega)
      · exact rest G' T hI10
    · rintro i τ G' kk hi ⟨t4, t5, kvs, T, rfl, hI⟩ hk
      refine ⟨trivial, ?_⟩
      refine seqU fun U2 hU2 => ?_
      walk_at "R"
      refine ⟨ns, _, rfl, by (clear F F1 F2 mr ml nd hr hn hn0 hn1 hq hlen hp hU hi hI hk hU2; omega), fun cell => ?_⟩
      dsimp only
      subst hU2
      walk_at "R"
      have gn := hI.le _ _ hn
      by_cases h5 : cell % 5 = 0
      · rw [if_neg (fun z => z h5)]
        exact hk _ _ ⟨_, _, kvs, T, rfl, ⟨hI.le, hI.fp, hI.d, hI.t, hI.nd, Nat.le_succ_of_le hI.len, hI.ls, hI.fr⟩⟩
      · rw [if_pos h5]
        obtain ⟨x, hx, _⟩ := txs_at (L := names) (i := (i : Int)) (by (clear F F1 F2 mr ml nd hr hn hn0 hn1 hq hlen hp hU hi hI hk gn h5; omega)) (by (clear F F1 F2 mr ml nd hr hn hn0 hn1 hq hp hU hI hk gn h5; omega))
        refine ⟨_, .lst gn, by (clear F F1 F2 mr ml nd hr hn hq hp hU hi hI hk gn h5 hx; omega), _, _, _, pn, names, _, rfl, gn, hn0, hn1, fun p2 L hp2 hL => ?_⟩
        have f2 : G p2 = none := GLe.none hI.le hp2
        have hkl := hI.t.len
        have hTl := hI.len
        refine ⟨_, _, updG_ne' gn hp2, hx, p, x, kvs, rfl, rfl, updG_ne' hI.d hp2, by (clear F F1 F2 mr ml nd hr hn hq hp hU hI hk gn h5 hx hp2 hL f2; omega), hk _ _ ⟨_, _, _, pT T x L, rfl, ⟨(hI.le.put f2).put hI.fp, hI.fp, updG_same, ?_, pT_nd hI.nd, Nat.le_trans (pT_len _ _ _) (Nat.succ_le_succ hI.len), fun e he => ?_, fun e he b hb => ?_⟩⟩⟩
        · have t1 : TbV (updG G' p2 (.lst (txs L))) kvs T := hI.t.mono fun b ws e => updG_ne' e hp2
          have d1 : updG G' p2 (.lst (txs L)) p = some (.dic kvs) := updG_ne' hI.d hp2
          refine (t1.put x (b := p2) (L := L) updG_same).mono fun b ws e => ?_
          rw [updG_ne (fun z => by rw [z, d1] at e; cases e)]; exact e
        · rcases mem_pT he with he | he
          · exact hI.ls e he
          · rw [he]; assumption
        · rcases mem_putD he with he | he
          · exact hI.fr e he b hb
          · rw [he] at hb; cases hb; exact f2
theorem pT_new {T : Tab Str} {k : Str} {L : List Str} (h : gT T k = none) : pT T k L = T ++ [(k, L)] := by
  unfold pT
  rw [gT_any, h]
  rfl
noncomputable def spCo : WSp := fun ws G q _ => ∃ (a : Addr) (kvs : List (Key × W)) (T : Tab Str), ws = [.ref a] ∧ G a = some (.dic kvs) ∧ TbV G kvs T ∧ (T.map (·.1)).Nodup ∧ T.length ≤ 10 ∧ (∀ e, e ∈ T → e.2.length ≤ 20) ∧ ∀ p G' kvs', GLe G G' → G p = none → G' p = some (.dic kvs') → TbV G' kvs' T → q (.ref p) G'
theorem scCo : FnScope ["_law_rules_here", "_law_copied_here", "_law_kind", "_law_others"] ["_law_rules_here"] (defScope (top 9)) := ⟨rfl, rfl, rfl, by decide +kernel, rfl, by decide +kernel, by decide +kernel⟩
theorem fnCo (F : Fun K "_law_copied" "_law_copied" (top 9) f fd) (ml : mg "list" = none) : WFn P w K mg base 1 f fd ["_law_rules_here"] spCo := by
  have nd := scCo.nd
  refine fn3 F scCo (fun ws G q e h => by obtain ⟨_, _, _, rfl, _⟩ := h; rfl) (fun cdv A outer s H E hr => ?_)
  apply bodyOf
  · exact (qss_cons (qs_set 1 nd rfl (.inl rfl) qe_dicN) (qss_cons (qs_thaw (qs_for PySem.PassesOwn.never rfl (qi_items 0 rfl (.inl rfl)) (qg_tup rfl (qgs_cons (qg_name 2 nd rfl (.inl rfl)) (qgs_cons (qg_name 3 nd rfl (.inl rfl)) qgs_nil))) (qss_cons (qs_dput (qe_callTy (q_listD rfl) rfl ml b_list (qa_cons (qe_var 3 rfl (.inl rfl)) qa_nil)) (qe_var 1 rfl (.inl rfl)) (qe_var 2 rfl (.inl rfl))) qss_nil))) (qss_cons (qs_ret (qe_var 1 rfl (.inl rfl))) qss_nil)))
  · rintro ws G q e ⟨a, kvs, T, rfl, ha, ht, hTn, hTl, hTe, hq⟩
    refine seqU fun U hU => ?_
    walk_at "R"
    intro c hc
    have ac : a ≠ c := fun z => by rw [z, hc] at ha; cases ha
    have kab : ∀ {b : Addr} {ws : List W}, G b = some (.lst ws) → b ≠ a := fun hb z => by rw [z, ha] at hb; cases hb
    subst hU
    refine seqU fun U hU => ?_
    walk_at "R"
    refine ⟨a, kvs, updG_ne' ha hc, kvs, updG_ne' ha hc, fun o us => ?_⟩
    refine loopW_ind (fun ws τ G' => ∃ kvs2 T1 T2 kvs1 t2 t3, ws = kvs2.map (fun p => .tup [kW p.1, p.2]) ∧ T = T1 ++ T2 ∧ TbV G kvs2 T2 ∧ τ = [some (.ref a), some (.ref c), t2, t3] ∧ G' a = some (.fdc o us kvs) ∧ G' c = some (.dic kvs1) ∧ TbV G' kvs1 T1 ∧ Kp a G G') ?_ ?_ _ _ _
      ⟨kvs, [], T, [], none, none, rfl, rfl, ht, rfl, updG_same, by rw [updG_ne (Ne.symm ac), updG_same], .nil, (Kp.refl.put hc).cc⟩
    · rintro τ G' ⟨kvs2, T1, T2, kvs1, t2, t3, hw, hT, ht2, rfl, ga, gc, ht1, kp⟩
      cases ht2 with
      | cons _ _ => cases hw
      | nil =>
      rw [List.append_nil] at hT
      subst hT
      refine ⟨ga, o, us, kvs, ga, ?_⟩
      subst hU
      walk_at "R"
      refine GLe.done (hq c _ kvs1 (fun x g e => ?_) hc (by rw [updG_ne (Ne.symm ac)]; exact gc) (ht1.mono fun b ws e => ?_))
      · by_cases y : x = a
        · rw [y] at e ⊢
          rw [ha] at e
          cases e
          exact updG_same
        · rw [updG_ne y]; exact kp _ _ y e
      · rw [updG_ne (fun z => by rw [z, ga] at e; cases e)]; exact e
    · rintro w1 ws τ G' kk ⟨kvs2, T1, T2, kvs1, t2, t3, hw, hT, ht2, rfl, ga, gc, ht1, kp⟩ hk
      cases ht2 with
      | nil => cases hw
      | @cons k b L kvs3 T3 hb ht3 =>
      cases hw
      refine ⟨ga, ?_⟩
      simp only [hTup, hCons, hNil, hName, List.set_cons_succ, List.set_cons_zero]
      refine ⟨rfl, ?_⟩
      walk_at "R"
      have hkl := ht1.len
      have hnew : gT T1 k = none := by
        refine gT_none fun hm => ?_
        rw [hT, List.map_append, List.map_cons] at hTn
        exact (List.nodup_append.mp hTn).2.2 k hm k List.mem_cons_self rfl
      have hT1 : T1.length ≤ 10 := by
        rw [hT, List.length_append] at hTl
        (clear F ml nd hr ha ht hTn hTe hq hc ac kab hU ga gc ht1 kp hb ht3 hT hk hnew; omega)
      refine ⟨_, .lst (kp _ _ (kab hb) hb), fun p2 hp2 => ?_⟩
      have na : p2 ≠ a := fun z => by rw [z, ga] at hp2; cases hp2
      have f2 : G p2 = none := by
        cases e : G p2 with
        | none => rfl
        | some g => have := kp p2 g na e; rw [hp2] at this; cases this
      have t1 : TbV (updG G' p2 (.lst (txs L))) kvs1 T1 := ht1.mono fun b ws e => updG_ne' e hp2
      have d1 : updG G' p2 (.lst (txs L)) c = some (.dic kvs1) := updG_ne' gc hp2
      refine ⟨c, k, kvs1, rfl, rfl, d1, by (clear F ml nd hr ha ht hTn hTl hTe hq hc ac kab hU ga gc ht1 kp hb ht3 hT hk hnew hp2 na f2 t1 d1; omega), hk _ _ ⟨kvs3, T1 ++ [(k, L)], T3, _, _, _, rfl, by rw [hT]; simp, ht3, rfl, ?_, updG_same, ?_, (kp.put f2).put hc⟩⟩
      · rw [updG_ne ac, updG_ne (Ne.symm na)]; exact ga
      · rw [← pT_new hnew]
        refine (t1.put k (b := p2) (L := L) updG_same).mono fun b ws e => ?_
        rw [updG_ne (fun z => by rw [z, d1] at e; cases e)]; exact e

/-! what the law asks of ranks and of a ring -/
noncomputable def spRd : WSp := fun ws G q _ => ∃ (a c : Addr) (kvs : List (Key × W)) (T : Tab Str) (R : List (Str × Nat)), ws = [.ref a, .ref c] ∧ G a = some (.dic kvs) ∧ TbV G kvs T ∧ (T.map (·.1)).Nodup ∧ T.length ≤ 10 ∧ (∀ e, e ∈ T → e.2.length ≤ 20) ∧ G c = some (.dic (encR R)) ∧ RankOk T R ∧ q (.bl true) G
theorem scRd : FnScope ["_law_rules_here", "_law_told", "_law_kinds", "_law_others", "_law_other", "_law_kind"] ["_law_rules_here", "_law_told"] (defScope (top 10)) := ⟨rfl, rfl, rfl, by decide +kernel, rfl, by decide +kernel, by decide +kernel⟩
structure KdI (T : Tab Str) (Ks D : List Str) : Prop where
  nd : Ks.Nodup
  ks : ∀ k, k ∈ Ks → Kind T k
  ky : ∀ k, k ∈ T.map (·.1) → k ∈ Ks
  dn : ∀ k, k ∈ D → k ∈ Ks
theorem KdI.len {T : Tab Str} {Ks D : List Str} (h : KdI T Ks D) (hl : T.length ≤ 10) (he : ∀ e, e ∈ T → e.2.length ≤ 20) : Ks.length ≤ 2600 := by
  have h1 := nd_le (m := T.map (·.1) ++ T.flatMap (·.2)) h.nd fun x hx => by
    rcases h.ks x hx with h | ⟨e, h1, h2⟩
    · exact List.mem_append_left _ h
    · exact List.mem_append_right _ (List.mem_flatMap.mpr ⟨e, h1, h2⟩)
  rw [List.length_append, List.length_map] at h1
  have h2 := kinds_len (T := T) fun e h => Nat.le_trans (he e h) (by decide)
  (clear h he; omega)
theorem KdI.fin {T : Tab Str} {Ks : List Str} (h : KdI T Ks (T.flatMap (·.2))) (k : Str) : k ∈ Ks ↔ Kind T k := by
  refine ⟨h.ks k, fun hk => ?_⟩
  rcases hk with hk | ⟨e, h1, h2⟩
  · exact h.ky k hk
  · exact h.dn k (List.mem_flatMap.mpr ⟨e, h1, h2⟩)
theorem fnRd (F : Fun K "_law_ranked" "_law_ranked" (top 10) f fd) (ml : mg "list" = none) (mn : mg "len" = none) (mi : mg "isinstance" = none) (md : mg "dict" = none) (mt : mg "int" = none) (mb : mg "bool" = none) (mm : mg "max" = none) : WFn P w K mg base 1 f fd ["_law_rules_here", "_law_told"] spRd := by
  have nd := scRd.nd
  refine fn3 F scRd (fun ws G q e h => by obtain ⟨_, _, _, _, _, rfl, _⟩ := h; rfl) (fun cdv A outer s H E hr => ?_)
  apply bodyOf
  · exact (qss_cons (qs_if (qt_not (qt_val (qe_isiD md rfl mi rfl (qe_var 1 rfl (.inr (.inl rfl)))))) (qss_cons (qs_ret qe_bl) qss_nil) qss_nil) (qss_cons (qs_set 2 nd rfl (.inl rfl) (qe_callTy (q_listD rfl) rfl ml b_list (qa_cons (qe_var 0 rfl (.inl rfl)) qa_nil))) (qss_cons (qs_thaw (qs_for PySem.PassesOwn.never rfl (qi_vals 0 rfl (.inl rfl)) (qg_name 3 nd rfl (.inl rfl)) (qss_cons (qs_for PySem.PassesOwn.never rfl (qi_seqS (qe_var 3 rfl (.inl rfl))) (qg_name 4 nd rfl (.inl rfl)) (qss_cons (qs_if (qt_cmp (q_notInD hr) (qe_var 4 rfl (.inl rfl)) (qe_var 2 rfl (.inl rfl)) rfl) (qss_cons (qs_expr (qe_app (qe_var 2 rfl (.inl rfl)) (qe_var 4 rfl (.inl rfl)))) qss_nil) qss_nil) qss_nil)) qss_nil))) (qss_cons (qs_if (qt_cmp (q_neD hr) (qe_callB q_lenD rfl mn PySem.boot_len (qa_cons (qe_var 1 rfl (.inr (.inl rfl))) qa_nil)) (qe_callB q_lenD rfl mn PySem.boot_len (qa_cons (qe_var 2 rfl (.inl rfl)) qa_nil)) (nomark _)) (qss_cons (qs_ret qe_bl) qss_nil) qss_nil) (qss_cons (qs_for PySem.PassesOwn.never rfl (qi_seqS (qe_var 2 rfl (.inl rfl))) (qg_name 5 nd rfl (.inl rfl)) (qss_cons (qs_if (qt_w (qw_or (qt_cmp (q_notInD hr) (qe_var 5 rfl (.inl rfl)) (qe_var 1 rfl (.inr (.inl rfl))) rfl) (qw_or (qt_not (qt_val (qe_isi (T := "int") (x := "int") (by first | simp [isiT] | assumption | decide +kernel) PyProof.Rows.boot_int mt rfl mi rfl (qe_ix q_ixD (qe_var 1 rfl (.inr (.inl rfl))) (qe_var 5 rfl (.inl rfl)) (fun _ _ => rfl))))) (qw_or1 (qt_val (qe_isi (T := "bool") (x := "bool") (by first | simp [isiT] | assumption | decide +kernel) PyProof.Rows.boot_bool mb rfl mi rfl (qe_ix q_ixD (qe_var 1 rfl (.inr (.inl rfl))) (qe_var 5 rfl (.inl rfl)) (fun _ _ => rfl)))))))) (qss_cons (qs_ret qe_bl) qss_nil) qss_nil) qss_nil)) (qss_cons (qs_for PySem.PassesOwn.never rfl (qi_seqS (qe_var 2 rfl (.inl rfl))) (qg_name 5 nd rfl (.inl rfl)) (qss_cons (qs_if (qt_cmp (q_neD hr) (qe_ix q_ixD (qe_var 1 rfl (.inr (.inl rfl))) (qe_var 5 rfl (.inl rfl)) (fun _ _ => rfl)) (qe_maxD rfl rfl mm (qe_comp (compSc (by first | rfl | decide +kernel)) rfl (qi_seqS (qe_dget (qe_var 0 rfl (.inl rfl)) (qe_var 5 rfl (.inl rfl)) (qe_lst qa_nil))) (fun _ _ _ _ => (qg_nameB 1 (by first | assumption | decide +kernel | rfl) rfl (.inl rfl))) (fun _ _ _ _ => qts_nil) (fun _ _ _ _ => (qe_op q_addS (qe_ix q_ixD (qe_var 2 rfl (.inr (.inl rfl))) (qe_var 1 rfl (.inl rfl)) (fun _ _ => rfl)) qe_int)))) (nomark _)) (qss_cons (qs_ret qe_bl) qss_nil) qss_nil) qss_nil)) (qss_cons (qs_ret qe_bl) qss_nil)))))))
  · rintro ws G q e ⟨a, c, kvs, T, R, rfl, ha, ht, hTn, hTl, hTe, hc, hR, hq⟩
    refine seqU fun U hU => ?_
    walk_at "R"
    have ty : tyN G (.ref c) = some "dict" := by simp only [tyN, hc]
    rw [ty]
    show if isD "dict" = false then _ else _
    rw [if_neg (by decide)]
    subst hU
    refine seqU fun U hU => ?_
    walk_at "R"
    refine ⟨_, .dic (.inl ha), fun p hp => ?_⟩
    rw [ht.keys]
    have kab : ∀ {b : Addr} {ws : List W}, G b = some (.lst ws) → b ≠ a := fun hb z => by rw [z, ha] at hb; cases hb
    have pa : p ≠ a := fun z => by rw [z, ha] at hp; cases hp
    have pc : p ≠ c := fun z => by rw [z, hc] at hp; cases hp
    subst hU
    refine seqU fun U hU => ?_
    walk_at "R"
    refine ⟨a, kvs, updG_ne' ha hp, kvs, updG_ne' ha hp, fun o us => ?_⟩
    refine loopW_ind (fun ws τ G' => ∃ kvs2 T1 T2 Ks t3 t4, ws = kvs2.map (·.2) ∧ T = T1 ++ T2 ∧ TbV G kvs2 T2 ∧ τ = [some (.ref a), some (.ref c), some (.ref p), t3, t4, none] ∧ G' a = some (.fdc o us kvs) ∧ G' p = some (.lst (txs Ks)) ∧ Kp a G G' ∧ KdI T Ks (T1.flatMap (·.2))) ?_ ?_ _ _ _
      ⟨kvs, [], T, T.map (·.1), none, none, rfl, rfl, ht, rfl, updG_same, by rw [updG_ne pa, updG_same], (Kp.refl.put hp).cc, ⟨hTn, fun k h => .inl h, fun k h => h, (fun k h => by cases h)⟩⟩
    · rintro τ G' ⟨kvs2, T1, T2, Ks, t3, t4, hw, hT, ht2, rfl, ga, gp, kp, kd⟩
      cases ht2 with
      | cons _ _ => cases hw
      | nil =>
      rw [List.append_nil] at hT
      subst hT
      refine ⟨ga, o, us, kvs, ga, ?_⟩
      have le : GLe G (updG G' a (GO.dic kvs)) := fun x g e => by
        by_cases y : x = a
        · rw [y] at e ⊢
          rw [ha] at e
          cases e
          exact updG_same
        · rw [updG_ne y]; exact kp _ _ y e
      have gp2 : updG G' a (GO.dic kvs) p = some (.lst (txs Ks)) := by rw [updG_ne pa]; exact gp
      generalize updG G' a (GO.dic kvs) = G2 at le gp2 ⊢
      clear ga gp kp
      have hlen : (txs Ks).length = Ks.length := List.length_map ..
      have hRK : R.length = Ks.length := by
        have := nd_len hR.nd kd.nd fun x => (hR.ks x).trans (kd.fin x).symm
        rw [List.length_map] at this
        exact this
      have hKl := kd.len hTl hTe
      subst hU
      dsimp only
      refine seqU fun U hU => ?_
      walk_at "R"
      have gc2 := le _ _ hc
      have ga2 := le _ _ ha
      have hrk : ∀ k, k ∈ Ks → ∃ r, gT R k = some r := fun k hk => gT_some ((hR.ks k).mpr ((kd.fin k).mp hk))
      refine ⟨_, .dic (.inl gc2), _, .lst gp2, ?_⟩
      rw [if_neg (by rw [encR_len, hlen, hRK]; simp)]
      subst hU
      refine seqU fun U hU => ?_
      walk_at "R"
      refine ⟨_, gp2, ?_⟩
      refine loopW_ind (fun ws τ G' => G2 = G' ∧ ∃ K2 t5, ws = txs K2 ∧ (∀ k, k ∈ K2 → k ∈ Ks) ∧ τ = [some (.ref a), some (.ref c), some (.ref p), t3, t4, t5]) ?_ ?_ _ _ _ ⟨rfl, Ks, none, rfl, fun k h => h, rfl⟩
      · rintro τ G' ⟨rfl, K2, t5, hw, hK, rfl⟩
        refine ⟨gp2, ?_⟩
        subst hU
        dsimp only
        refine seqU fun U hU => ?_
        walk_at "R"
        refine ⟨_, gp2, ?_⟩
        refine loopW_ind (fun ws τ G' => GLe G2 G' ∧ ∃ K2 t5, ws = txs K2 ∧ (∀ k, k ∈ K2 → k ∈ Ks) ∧ τ = [some (.ref a), some (.ref c), some (.ref p), t3, t4, t5]) ?_ ?_ _ _ _ ⟨GLe.refl _, Ks, t5, rfl, fun k h => h, rfl⟩
        · rintro τ G' ⟨l2, K2, t5, hw, hK, rfl⟩
          refine ⟨l2 _ _ gp2, ?_⟩
          subst hU
          walk_at "R"
          exact ⟨G, le.trans l2, hq⟩
        · rintro w1 ws τ G' kk ⟨l2, K2, t5, hw, hK, rfl⟩ hk
          cases K2 with
          | nil => cases hw
          | cons k K2 =>
          cases hw
          refine ⟨l2 _ _ gp2, ?_⟩
          obtain ⟨r, hr⟩ := hrk k (hK k List.mem_cons_self)
          have hv : valW (encR R) (.inr k) = some (.int (r : Int)) := by rw [val_encR, hr]; rfl
          have hm := hR.cl k r hr
          have gc3 := l2 _ _ gc2
          have ga3 := l2 _ _ ga2
          have hol : (oth T k).length ≤ 20 := by
            unfold oth
            cases hh : gT T k with
            | none => exact Nat.zero_le _
            | some L => exact hTe _ (gT_mem hh)
          walk_at "R"
          refine ⟨_, _, .inl gc3, hv, ⟨_, ga3⟩, fun pd hpd => ⟨k, kvs, rfl, updG_ne' ga3 hpd, ?_⟩⟩
          obtain ⟨b, hb, gb⟩ : ∃ b, (valW kvs (.inr k)).getD (.ref pd) = .ref b ∧ updG G' pd (.lst []) b = some (.lst (txs (oth T k))) := by
            rcases ht.val k with ⟨e1, e2⟩ | ⟨L, b, e1, e2, e3⟩
            · exact ⟨pd, by rw [e2]; rfl, by rw [updG_same]; unfold oth; rw [e1]; rfl⟩
            · exact ⟨b, by rw [e2]; rfl, by unfold oth; rw [e1]; exact updG_ne' (l2 _ _ (le _ _ e3)) hpd⟩
          rw [hb]
          refine ⟨_, gb, ?_⟩
          refine comp_txs (τ0 := [none, none, some (W.ref c)]) (rkI R) gb (fun x hx k' hk' => ?_) (by simp only [List.length_nil]; (clear F ml mn mi md mt mb mm nd ha ht hTn hTl hTe hc hR hq ty hp kab pa pc kd le gp2 hlen hRK hKl gc2 ga2 hrk hw hU l2 hK hk hr hv hm gc3 ga3 hpd hb gb; omega)) (fun x => rfl) ?_
          · obtain ⟨y, hy, _⟩ := mxs_in hm hx
            show rIxD (.ref c) (.str x) _ fun u G1 => vAddS u (.int 1) G1 k'
            refine ⟨_, .int (y : Int), .inl (updG_ne' gc3 hpd), by rw [val_encR, hy]; rfl, ?_⟩
            have e1 : rkI R x = (y : Int) + 1 := by unfold rkI; rw [hy]; rfl
            rw [e1] at hk'
            exact hk'
          · intro p2 hp2
            have mo := max_out (q := fun m => m = (r : Int)) hm rfl
            have fin : kk [some (W.ref a), some (W.ref c), some (W.ref p), t3, t4, some (W.str k)] (updG (updG G' pd (GO.lst [])) p2 (GO.lst ([] ++ (oth T k).map fun x => W.int (rkI R x)))) := hk _ _ ⟨l2.trans ((GLe.new hpd).trans (GLe.new hp2)), K2, _, rfl, fun j h => hK j (List.mem_cons_of_mem _ h), rfl⟩
            refine ⟨(oth T k).map (rkI R), by rw [updG_same, List.nil_append, List.map_map]; rfl, fun h0 => ?_, fun m h1 h2 => ?_⟩
            · have e0 := mo.1 h0
              refine ⟨rfl, Nat.zero_le _, ?_⟩
              rw [int_eq, if_neg (by rw [← e0]; simp)]
              exact fin
            · have e0 := mo.2 m h1 h2
              refine ⟨rfl, Nat.zero_le _, ?_⟩
              rw [int_eq, if_neg (by rw [e0]; simp)]
              exact fin
      · rintro w1 ws τ G' kk ⟨rfl, K2, t5, hw, hK, rfl⟩ hk
        cases K2 with
        | nil => cases hw
        | cons k K2 =>
        cases hw
        refine ⟨gp2, ?_⟩
        obtain ⟨r, hr⟩ := hrk k (hK k List.mem_cons_self)
        have hv : valW (encR R) (.inr k) = some (.int (r : Int)) := by rw [val_encR, hr]; rfl
        walk_at "R"
        refine ⟨_, .dic (.inl gc2), ?_⟩
        rw [hv, if_neg (by simp)]
        refine ⟨_, _, .inl gc2, hv, ?_⟩
        show if subN "int" "int" = false then _ else _
        rw [if_neg (by decide)]
        refine ⟨_, _, .inl gc2, hv, ?_⟩
        show if subN "int" "bool" = true then _ else _
        rw [if_neg (by decide)]
        exact hk _ _ ⟨rfl, K2, _, rfl, fun j h => hK j (List.mem_cons_of_mem _ h), rfl⟩
    · rintro w1 ws τ G' kk ⟨kvs2, T1, T2, Ks, t3, t4, hw, hT, ht2, rfl, ga, gp, kp, kd⟩ hk
      cases ht2 with
      | nil => cases hw
      | @cons k b L kvs3 T3 hb ht3 =>
      cases hw
      refine ⟨ga, ?_⟩
      refine seqU fun U2 hU2 => ?_
      walk_at "R"
      refine ⟨_, kp _ _ (kab hb) hb, ?_⟩
      refine loopW_ind (fun ws τ G'' => ∃ L1 L2 Ks t4, ws = txs L2 ∧ L = L1 ++ L2 ∧ τ = [some (.ref a), some (.ref c), some (.ref p), some (.ref b), t4, none] ∧ G'' a = some (.fdc o us kvs) ∧ G'' p = some (.lst (txs Ks)) ∧ Kp a G G'' ∧ KdI T Ks (T1.flatMap (·.2) ++ L1)) ?_ ?_ _ _ _
        ⟨[], L, Ks, t4, rfl, rfl, rfl, ga, gp, kp, by rw [List.append_nil]; exact kd⟩
      · rintro τ G'' ⟨L1, L2, Ks, t4, hw, hL, rfl, ga, gp, kp, kd⟩
        cases L2 with
        | cons _ _ => cases hw
        | nil =>
        rw [List.append_nil] at hL
        subst hL
        refine ⟨kp _ _ (kab hb) hb, ?_⟩
        subst hU2
        walk_at "R"
        refine hk _ _ ⟨kvs3, T1 ++ [(k, L)], T3, Ks, _, _, rfl, by rw [hT]; simp, ht3, rfl, ga, gp, kp, ?_⟩
        rw [List.flatMap_append]
        simpa using kd
      · rintro w1 ws τ G'' kk2 ⟨L1, L2, Ks, t4, hw, hL, rfl, ga, gp, kp, kd⟩ hk2
        cases L2 with
        | nil => cases hw
        | cons x L2 =>
        cases hw
        refine ⟨kp _ _ (kab hb) hb, ?_⟩
        have hkx : Kind T x := .inr ⟨(k, L), by rw [hT]; simp, by rw [hL]; simp⟩
        have hKl := kd.len hTl hTe
        have hlen : (txs Ks).length = Ks.length := List.length_map ..
        walk_at "R"
        refine ⟨_, .lst gp (txs_inL _ _), ?_⟩
        rw [txs_any]
        by_cases hx : x ∈ Ks
        · rw [if_neg (by simpa using hx)]
          refine hk2 _ _ ⟨L1 ++ [x], L2, Ks, _, rfl, by rw [hL]; simp, rfl, ga, gp, kp, ⟨kd.nd, kd.ks, kd.ky, fun j hj => ?_⟩⟩
          rw [← List.append_assoc] at hj
          rcases List.mem_append.mp hj with hj | hj
          · exact kd.dn j hj
          · cases List.mem_singleton.mp hj; exact hx
        · rw [if_pos (by simpa using hx)]
          have e1 : txs Ks ++ [W.str x] = txs (Ks ++ [x]) := by simp [txs]
          refine ⟨⟨_, gp⟩, _, gp, by (clear F ml mn mi md mt mb mm nd hr ha ht hTn hTl hTe hc hR hq ty hp kab pa pc hU hb ht3 hT hk hU2 ga gp kp kd hL hk2 hkx hx e1; omega), ?_⟩
          rw [e1]
          refine hk2 _ _ ⟨L1 ++ [x], L2, Ks ++ [x], _, rfl, by rw [hL]; simp, rfl, by rw [updG_ne (Ne.symm pa)]; exact ga, updG_same, kp.put hp, ⟨?_, fun j hj => ?_, fun j hj => List.mem_append_left _ (kd.ky j hj), fun j hj => ?_⟩⟩
          · refine List.nodup_append.mpr ⟨kd.nd, by simp, fun y hy z hz => ?_⟩
            rw [List.mem_singleton] at hz
            rintro rfl
            subst hz
            exact hx hy
          · rcases List.mem_append.mp hj with hj | hj
            · exact kd.ks j hj
            · cases List.mem_singleton.mp hj; exact hkx
          · rw [← List.append_assoc] at hj
            rcases List.mem_append.mp hj with hj | hj
            · exact List.mem_append_left _ (kd.dn j hj)
            · exact List.mem_append_right _ hj

/-! a ring -/
theorem ch_keys {T : Tab Str} : ∀ {x : Str} {ys : List Str} {z : Str}, Ch T x ys z → ∀ y, y ∈ x :: ys → y ∈ T.map (·.1)
  | x, [], z, ⟨L, h, _⟩, y, hy => by
    cases List.mem_singleton.mp hy
    exact gT_key h
  | x, u :: ys, z, ⟨⟨L, h, _⟩, h2⟩, y, hy => by
    rcases List.mem_cons.mp hy with rfl | hy
    · exact gT_key h
    · exact ch_keys h2 y hy
theorem ring_len {T : Tab Str} {l : List Str} (h : RingOk T l) (hT : T.length ≤ 10) : 1 ≤ l.length ∧ l.length ≤ 10 := by
  obtain ⟨hn, c, ys, rfl, hc⟩ := h
  have := nd_le hn (ch_keys hc)
  rw [List.length_map] at this
  exact ⟨by simp, by (clear hc hn; omega)⟩
theorem ring_at {T : Tab Str} {l : List Str} (h : RingOk T l) {k : Nat} (hk : k < l.length) : ∃ x y, atI (txs l) ((k : Int) - 1) = some (.str x) ∧ atI (txs l) (k : Int) = some (.str y) ∧ Edge T x y := by
  obtain ⟨_, c, ys, rfl, hc⟩ := h
  have tx : ∀ {i : Nat} {x : Str}, (c :: ys)[i]? = some x → (txs (c :: ys))[i]? = some (.str x) := fun h => by
    unfold txs
    rw [List.getElem?_map, h]; rfl
  cases k with
  | zero =>
    have h1 : ys.length < (c :: ys).length := by simp
    have e1 := List.getElem?_eq_getElem h1
    refine ⟨(c :: ys)[ys.length], c, ?_, atI_nat (j := 0) rfl, hc.at ys.length _ _ e1 (by simp)⟩
    have hl : (txs (c :: ys)).length - 1 = ys.length := by simp [txs]
    exact atI_neg1 (by rw [hl]; exact tx e1)
  | succ k =>
    have h1 : k < (c :: ys).length := by simp at hk ⊢; (clear hc tx; omega)
    have h2 : k < ys.length := by simpa using hk
    have e1 := List.getElem?_eq_getElem h1
    have e2 := List.getElem?_eq_getElem h2
    refine ⟨_, _, ?_, atI_nat (j := k + 1) (tx (x := ys[k]) e2), hc.at k _ _ e1 (by rw [List.getElem?_append_left h2]; exact e2)⟩
    have e3 : ((k + 1 : Nat) : Int) - 1 = (k : Int) := by (clear hc tx hk h1 h2 e1 e2; omega)
    rw [e3]
    exact atI_nat (tx e1)
noncomputable def spRg : WSp := fun ws G q _ => ∃ (a c : Addr) (kvs : List (Key × W)) (T : Tab Str) (l : List Str), ws = [.ref a, .ref c] ∧ G a = some (.dic kvs) ∧ TbV G kvs T ∧ T.length ≤ 10 ∧ (∀ e, e ∈ T → e.2.length ≤ 20) ∧ G c = some (.lst (txs l)) ∧ RingOk T l ∧ q (.bl true) G
theorem scRg : FnScope ["_law_rules_here", "_law_told", "_law_k"] ["_law_rules_here", "_law_told"] (defScope (top 11)) := ⟨rfl, rfl, rfl, by decide +kernel, rfl, by decide +kernel, by decide +kernel⟩
theorem fnRg (F : Fun K "_law_rings" "_law_rings" (top 11) f fd) (ml : mg "list" = none) (mn : mg "len" = none) (mi : mg "isinstance" = none) (ms : mg "set" = none) (mr : mg "range" = none) : WFn P w K mg base 1 f fd ["_law_rules_here", "_law_told"] spRg := by
  have nd := scRg.nd
  refine fn3 F scRg (fun ws G q e h => by obtain ⟨_, _, _, _, _, rfl, _⟩ := h; rfl) (fun cdv A outer s H E hr => ?_)
  apply bodyOf
  · exact (qss_cons (qs_if (qt_w (qw_or (qt_not (qt_val (qe_isi (T := "list") (x := "list") (by first | simp [isiT] | assumption | decide +kernel) b_list ml rfl mi rfl (qe_var 1 rfl (.inl rfl))))) (qw_or (qt_cmp (q_eqD hr) (qe_callB q_lenD rfl mn PySem.boot_len (qa_cons (qe_var 1 rfl (.inl rfl)) qa_nil)) qe_int (nomark _)) (qw_or1 (qt_cmp (q_neD hr) (qe_lenset rfl rfl mn rfl ms (qe_var 1 rfl (.inl rfl))) (qe_callB q_lenD rfl mn PySem.boot_len (qa_cons (qe_var 1 rfl (.inl rfl)) qa_nil)) (nomark _)))))) (qss_cons (qs_ret qe_bl) qss_nil) qss_nil) (qss_cons (qs_for PySem.PassesOwn.never rfl (qi_range rfl mr (qa_cons (qe_callB q_lenD rfl mn PySem.boot_len (qa_cons (qe_var 1 rfl (.inl rfl)) qa_nil)) qa_nil)) (qg_name 2 nd rfl (.inl rfl)) (qss_cons (qs_if (qt_w (qw_or (qt_cmp (q_notInD hr) (qe_ix q_ixD (qe_var 1 rfl (.inl rfl)) (qe_op q_sub (qe_var 2 rfl (.inl rfl)) qe_int) (fun _ _ => rfl)) (qe_var 0 rfl (.inl rfl)) rfl) (qw_or1 (qt_cmp (q_notInD hr) (qe_ix q_ixD (qe_var 1 rfl (.inl rfl)) (qe_var 2 rfl (.inl rfl)) (fun _ _ => rfl)) (qe_ix q_ixD (qe_var 0 rfl (.inl rfl)) (qe_ix q_ixD (qe_var 1 rfl (.inl rfl)) (qe_op q_sub (qe_var 2 rfl (.inl rfl)) qe_int) (fun _ _ => rfl)) (fun _ _ => rfl)) rfl)))) (qss_cons (qs_ret qe_bl) qss_nil) qss_nil) qss_nil)) (qss_cons (qs_ret qe_bl) qss_nil)))
  · rintro ws G q e ⟨a, c, kvs, T, l, rfl, ha, ht, hTl, hTe, hc, hl, hq⟩
    obtain ⟨l0, l1⟩ := ring_len hl hTl
    have hlen : (txs l).length = l.length := List.length_map ..
    refine seqU fun U hU => ?_
    walk_at "R"
    have ty : tyN G (.ref c) = some "list" := by simp only [tyN, hc]
    rw [ty]
    show if subN "list" "list" = false then _ else _
    rw [if_neg (by decide)]
    refine ⟨_, .lst hc, ?_⟩
    rw [if_neg (by (clear F ml mn mi ms mr nd hr ha ht hTl hTe hc hl hq hU ty; omega))]
    refine ⟨l, hc, hl.1, by walk_at "om", _, .lst hc, ?_⟩
    rw [if_neg (by (clear F ml mn mi ms mr nd hr ha ht hTl hTe hc hl hq l0 l1 hU ty; omega))]
    subst hU
    refine seqU fun U hU => ?_
    walk_at "R"
    refine ⟨_, .lst hc, ?_⟩
    rw [hlen]
    refine ⟨by omega, by omega, ?_⟩
    refine loop_up l.length (fun i τ G' => G = G' ∧ ∃ t2, τ = [some (.ref a), some (.ref c), t2]) ⟨rfl, none, rfl⟩ ?_ ?_
    · rintro τ G' ⟨rfl, t2, rfl⟩
      refine ⟨trivial, ?_⟩
      subst hU
      walk_at "R"
      exact GLe.done hq
    · rintro i τ G' kk hi ⟨rfl, t2, rfl⟩ hk
      refine ⟨trivial, ?_⟩
      obtain ⟨x, y, h1, h2, L, hL, hy⟩ := ring_at hl hi
      obtain ⟨b, hb, gb⟩ := ht.at hL
      walk_at "R"
      refine ⟨_, _, hc, h1, ?_⟩
      refine ⟨_, .dic (.inl ha), ?_⟩
      rw [ht.has, hL, if_neg (by simp)]
      refine ⟨_, _, hc, h2, ?_⟩
      refine ⟨_, _, hc, h1, _, _, .inl ha, hb, ?_⟩
      refine ⟨_, .lst gb (txs_inL _ _), ?_⟩
      rw [txs_any, if_neg (by simpa using hy)]
      exact hk _ _ ⟨rfl, _, rfl⟩

/-! the law -/
theorem tb_mem {G : Gp} {kvs : List (Key × W)} {T : Tab Str} (h : TbV G kvs T) : ∀ e, e ∈ kvs → ∃ k b L, e = (.inr k, .ref b) ∧ G b = some (.lst (txs L)) ∧ (k, L) ∈ T := by
  induction h with
  | nil => intro e he; cases he
  | @cons k b L kvs T hb t ih =>
    intro e he
    rcases List.mem_cons.mp he with rfl | he
    · exact ⟨k, b, L, rfl, hb, List.mem_cons_self⟩
    · obtain ⟨k', b', L', h1, h2, h3⟩ := ih e he
      exact ⟨k', b', L', h1, h2, List.mem_cons_of_mem _ h3⟩
theorem txs_eqs (L : List Str) : W.eqs (txs L) (txs L) = true := by
  induction L with
  | nil => rfl
  | cons x L ih =>
    show ((W.str x).eq (.str x) && W.eqs (txs L) (txs L)) = true
    rw [ih, str_eq, decide_eq_true rfl]
    rfl
theorem tb_same {G : Gp} {a b : Addr} {kvs us : List (Key × W)} {T : Tab Str} (ha : GD G a kvs) (hb : GD G b us) (h1 : TbV G kvs T) (h2 : TbV G us T) (hn : (T.map (·.1)).Nodup) : EqD G a b true := by
  refine .dic ha hb (h1.len.trans h2.len.symm) fun e he => ?_
  obtain ⟨k, b, L, rfl, gb, hm⟩ := tb_mem h1 e he
  obtain ⟨b2, h3, g3⟩ := h2.at (gT_nd hn hm)
  exact ⟨_, h3, .lst gb g3 (txs_flats L) (txs_flats L) (by rw [txs_deps]; (clear ha hb h1 h2 hn he gb hm h3 g3; omega)) (txs_eqs L)⟩
theorem rk_same {G : Gp} {a b : Addr} {T : Tab Str} {R S : List (Str × Nat)} (ha : G a = some (.dic (encR R))) (hb : G b = some (.dic (encR S))) (hR : RankOk T R) (hS : RankOk T S) : EqD G a b true := by
  refine .dic (.inl ha) (.inl hb) (by rw [encR_len, encR_len]; exact hR.len hS) fun e he => ?_
  obtain ⟨p, hp, rfl⟩ := List.mem_map.mp he
  have := hR.same hS (gT_nd hR.nd (show (p.1, p.2) ∈ R from hp))
  exact ⟨_, by show valW (encR S) (.inr p.1) = _; rw [val_encR, this]; rfl, .int _⟩
theorem scLw : FnScope ["_law_script", "_law_names_here", "_law_rules_here", "_law_handed", "_law_found", "_law_again"] ["_law_script"] (defScope (top 12)) := ⟨rfl, rfl, rfl, by decide +kernel, rfl, by decide +kernel, by decide +kernel⟩
theorem fnLw (F : Fun K "law" "law" (top 12) f fd) (F1 : Fx P w K mg base "_law_cell_at" ["_law_script", "_law_k"] 1 spCa) (F2 : Fx P w K mg base "_law_names" ["_law_cell", "_law_many"] 1 spNa) (F3 : Fx P w K mg base "_law_rules" ["_law_script", "_law_names_here"] 2 spRu) (F4 : Fx P w K mg base "_law_copied" ["_law_rules_here"] 1 spCo)
    (F5 : Fx P w K mg base "ranks" ["rules"] 3 spRk) (F6 : Fx P w K mg base "_law_ranked" ["_law_rules_here", "_law_told"] 1 spRd) (F7 : Fx P w K mg base "_law_rings" ["_law_rules_here", "_law_told"] 1 spRg) (mi : mg "isinstance" = none) (mt : mg "tuple" = none) (ml : mg "len" = none) : WFn P w K mg base 100 f fd ["_law_script"] spLaw := by
  have nd := scLw.nd
  refine fn3 (k := 99) F scLw (fun ws G q e h => by obtain ⟨_, rfl, _⟩ := h; rfl) (fun cdv A outer s H E hr => ?_)
  apply bodyOf
  · exact (qss_cons (qs_set 1 nd rfl (.inl rfl) (qe_fxn F2 (Room.mono hr (by omega)) rfl (qa_cons (qe_op q_divB (qe_fxn F1 (Room.mono hr (by omega)) rfl (qa_cons (qe_var 0 rfl (.inl rfl)) (qa_cons qe_int qa_nil))) qe_int) (qa_cons (qe_op q_addS qe_int (qe_op q_mod (qe_fxn F1 (Room.mono hr (by omega)) rfl (qa_cons (qe_var 0 rfl (.inl rfl)) (qa_cons qe_int qa_nil))) qe_int)) qa_nil)))) (qss_cons (qs_set 2 nd rfl (.inl rfl) (qe_fxn F3 (Room.mono hr (by omega)) rfl (qa_cons (qe_var 0 rfl (.inl rfl)) (qa_cons (qe_var 1 rfl (.inl rfl)) qa_nil)))) (qss_cons (qs_set 3 nd rfl (.inl rfl) (qe_fxn F4 (Room.mono hr (by omega)) rfl (qa_cons (qe_var 2 rfl (.inl rfl)) qa_nil))) (qss_cons (qs_set 4 nd rfl (.inl rfl) (qe_fxn F5 (Room.mono hr (by omega)) rfl (qa_cons (qe_var 3 rfl (.inl rfl)) qa_nil))) (qss_cons (qs_if (qt_w (qw_or (qt_not (qt_val (qe_isi (T := "tuple") (x := "tuple") (by first | simp [isiT] | assumption | decide +kernel) b_tuple mt rfl mi rfl (qe_var 4 rfl (.inl rfl))))) (qw_or (qt_cmp (q_neD hr) (qe_callB q_lenD rfl ml PySem.boot_len (qa_cons (qe_var 4 rfl (.inl rfl)) qa_nil)) qe_int (nomark _)) (qw_or1 (qt_cmp (q_neD hr) (qe_var 3 rfl (.inl rfl)) (qe_var 2 rfl (.inl rfl)) (nomark _)))))) (qss_cons (qs_ret qe_bl) qss_nil) qss_nil) (qss_cons (qs_expr (qe_dclr (qe_var 3 rfl (.inl rfl)))) (qss_cons (qs_set 5 nd rfl (.inl rfl) (qe_fxn F5 (Room.mono hr (by omega)) rfl (qa_cons (qe_var 2 rfl (.inl rfl)) qa_nil))) (qss_cons (qs_if (qt_w (qw_or (qt_not (qt_val (qe_isi (T := "tuple") (x := "tuple") (by first | simp [isiT] | assumption | decide +kernel) b_tuple mt rfl mi rfl (qe_var 5 rfl (.inl rfl))))) (qw_or (qt_cmp (q_neD hr) (qe_callB q_lenD rfl ml PySem.boot_len (qa_cons (qe_var 5 rfl (.inl rfl)) qa_nil)) qe_int (nomark _)) (qw_or1 (qt_cmp (q_neD hr) (qe_ix q_ixD (qe_var 5 rfl (.inl rfl)) qe_int (fun _ _ => rfl)) (qe_ix q_ixD (qe_var 4 rfl (.inl rfl)) qe_int (fun _ _ => rfl)) (nomark _)))))) (qss_cons (qs_ret qe_bl) qss_nil) qss_nil) (qss_cons (qs_if (qt_cmp (q_eqD hr) (qe_ix q_ixD (qe_var 4 rfl (.inl rfl)) qe_int (fun _ _ => rfl)) qe_str (nomark _)) (qss_cons (qs_ret (qe_and (qe_fxn F6 (Room.mono hr (by omega)) rfl (qa_cons (qe_var 2 rfl (.inl rfl)) (qa_cons (qe_ix q_ixD (qe_var 4 rfl (.inl rfl)) qe_int (fun _ _ => rfl)) qa_nil))) (qe_one (qe_cmp (q_eqD hr) (qe_ix q_ixD (qe_var 5 rfl (.inl rfl)) qe_int (fun _ _ => rfl)) (qe_ix q_ixD (qe_var 4 rfl (.inl rfl)) qe_int (fun _ _ => rfl)) (nomark _))))) qss_nil) qss_nil) (qss_cons (qs_ret (qe_and (qe_cmp (q_eqD hr) (qe_ix q_ixD (qe_var 4 rfl (.inl rfl)) qe_int (fun _ _ => rfl)) qe_str (nomark _)) (qe_and (qe_fxn F7 (Room.mono hr (by omega)) rfl (qa_cons (qe_var 2 rfl (.inl rfl)) (qa_cons (qe_ix q_ixD (qe_var 4 rfl (.inl rfl)) qe_int (fun _ _ => rfl)) qa_nil))) (qe_one (qe_fxn F7 (Room.mono hr (by omega)) rfl (qa_cons (qe_var 2 rfl (.inl rfl)) (qa_cons (qe_ix q_ixD (qe_var 5 rfl (.inl rfl)) qe_int (fun _ _ => rfl)) qa_nil))))))) qss_nil))))))))))
  · rintro ws G q e ⟨ns, rfl, hns, hq⟩
    refine seqU fun U hU => ?_
    walk_at "R"
    refine ⟨ns, _, rfl, by (clear F F1 F2 F3 F4 F5 F6 F7 mi mt ml nd hr hns hq hU; omega), fun c1 => ?_⟩
    walk_at "R"
    refine ⟨ns, _, rfl, by (clear F F1 F2 F3 F4 F5 F6 F7 mi mt ml nd hr hns hq hU; omega), fun c2 => ?_⟩
    walk_at "R"
    obtain ⟨n, hn, n0, n1⟩ : ∃ n : Nat, 1 + c2 % 7 = (n : Int) ∧ 1 ≤ n ∧ n ≤ 7 := by
      have := mod_in (i := c2) (j := 7) (by (clear F F1 F2 F3 F4 F5 F6 F7 mi mt ml nd hr hns hq hU; omega))
      exact ⟨(1 + c2 % 7).toNat, by (clear F F1 F2 F3 F4 F5 F6 F7 mi mt ml nd hr hns hq hU; omega), by (clear F F1 F2 F3 F4 F5 F6 F7 mi mt ml nd hr hns hq hU; omega), by (clear F F1 F2 F3 F4 F5 F6 F7 mi mt ml nd hr hns hq hU; omega)⟩
    refine ⟨_, n, by rw [hn], by walk_at "om", fun p0 names hp0 hnl => ?_⟩
    dsimp only
    subst hU
    refine seqU fun U hU => ?_
    walk_at "R"
    refine ⟨ns, p0, names, rfl, updG_same, by (clear F F1 F2 F3 F4 F5 F6 F7 mi mt ml nd hr hns hq n0 n1 hp0 hU; omega), by (clear F F1 F2 F3 F4 F5 F6 F7 mi mt ml nd hr hns hq n0 n1 hp0 hU; omega), fun a G2 kvs T hI => ?_⟩
    dsimp only
    subst hU
    refine seqU fun U hU => ?_
    walk_at "R"
    refine ⟨a, kvs, T, rfl, hI.d, hI.t, hI.nd, hI.len, hI.ls, fun h G3 kvs3 le3 fh gh t3 => ?_⟩
    dsimp only
    have ga3 := le3 _ _ hI.d
    have ta3 : TbV G3 kvs T := hI.t.mono fun b ws e => le3 _ _ e
    have hah : a ≠ h := fun z => by rw [← z, hI.d] at fh; cases fh
    have hTn := hI.nd
    have hTl := hI.len
    have hTe := hI.ls
    clear le3 fh hI G2
    have hT50 : T.length ≤ 50 := by walk_at "om"
    have hTe50 : ∀ e, e ∈ T → e.2.length ≤ 50 := fun e he => Nat.le_trans (hTe e he) (by decide)
    subst hU
    refine seqU fun U hU => ?_
    walk_at "R"
    refine ⟨h, kvs3, T, rfl, gh, t3, hTn, hT50, hTe50, fun p R hp hR => ?_, fun p l hp hl => ?_⟩
    · dsimp only
      subst hU
      refine seqU fun U hU => ?_
      walk_at "R"
      have gh4 : updG G3 p (GO.dic (encR R)) h = some (.dic kvs3) := updG_ne' gh hp
      have ga4 : updG G3 p (GO.dic (encR R)) a = some (.dic kvs) := updG_ne' ga3 hp
      have t4 : TbV (updG G3 p (GO.dic (encR R))) kvs3 T := t3.mono fun b ws e => updG_ne' e hp
      have ta4 : TbV (updG G3 p (GO.dic (encR R))) kvs T := ta3.mono fun b ws e => updG_ne' e hp
      have gp4 : updG G3 p (GO.dic (encR R)) p = some (.dic (encR R)) := updG_same
      have hph : p ≠ h := fun z => by rw [z, gh] at hp; cases hp
      generalize updG G3 p (GO.dic (encR R)) = G4 at gh4 ga4 t4 ta4 gp4 ⊢
      refine ⟨true, tb_same (.inl gh4) (.inl ga4) t4 ta4 hTn, ?_⟩
      rw [if_neg (by simp)]
      subst hU
      refine seqU fun U hU => ?_
      walk_at "R"
      refine ⟨_, gh4, ?_⟩
      have ga5 : updG G4 h (GO.dic []) a = some (.dic kvs) := by rw [updG_ne hah]; exact ga4
      have ta5 : TbV (updG G4 h (GO.dic [])) kvs T := ta4.mono fun b ws e => by rw [updG_ne (fun z => by rw [z, gh4] at e; cases e)]; exact e
      have gp5 : updG G4 h (GO.dic []) p = some (.dic (encR R)) := by rw [updG_ne hph]; exact gp4
      generalize updG G4 h (GO.dic []) = G5 at ga5 ta5 gp5 ⊢
      subst hU
      refine seqU fun U hU => ?_
      walk_at "R"
      refine ⟨a, kvs, T, rfl, ga5, ta5, hTn, hT50, hTe50, fun p' R' hp' hR' => ?_, fun p' l' hp' hl' => ?_⟩
      · dsimp only
        have ga6 := updG_ne' (g := .dic (encR R')) ga5 hp'
        have ta6 : TbV (updG G5 p' (GO.dic (encR R'))) kvs T := ta5.mono fun b ws e => updG_ne' e hp'
        have gp6 := updG_ne' (g := .dic (encR R')) gp5 hp'
        have gq6 : updG G5 p' (GO.dic (encR R')) p' = some (.dic (encR R')) := updG_same
        generalize updG G5 p' (GO.dic (encR R')) = G6 at ga6 ta6 gp6 gq6 ⊢
        subst hU
        refine seqU fun U hU => ?_
        walk_at "R"
        rw [str_eq, decide_eq_true rfl, if_neg (by simp)]
        refine ⟨rfl, rfl, Nat.zero_le _, ?_⟩
        subst hU
        refine seqU fun U hU => ?_
        walk_at "R"
        rw [str_eq, decide_eq_true rfl, if_pos rfl]
        refine ⟨rfl, rfl, Nat.zero_le _, ?_⟩
        refine ⟨a, p, kvs, T, R, rfl, ga6, ta6, hTn, hTl, hTe, gp6, hR, ?_⟩
        walk_at "R"
        exact ⟨true, rk_same gq6 gp6 hR' hR, GLe.done (hq _)⟩
      · obtain ⟨_, x, ys, _, hch⟩ := hl'
        exact (hR.noRing hch).elim
    · dsimp only
      subst hU
      refine seqU fun U hU => ?_
      walk_at "R"
      have gh4 : updG G3 p (GO.lst (txs l)) h = some (.dic kvs3) := updG_ne' gh hp
      have ga4 : updG G3 p (GO.lst (txs l)) a = some (.dic kvs) := updG_ne' ga3 hp
      have t4 : TbV (updG G3 p (GO.lst (txs l))) kvs3 T := t3.mono fun b ws e => updG_ne' e hp
      have ta4 : TbV (updG G3 p (GO.lst (txs l))) kvs T := ta3.mono fun b ws e => updG_ne' e hp
      have gp4 : updG G3 p (GO.lst (txs l)) p = some (.lst (txs l)) := updG_same
      have hph : p ≠ h := fun z => by rw [z, gh] at hp; cases hp
      generalize updG G3 p (GO.lst (txs l)) = G4 at gh4 ga4 t4 ta4 gp4 ⊢
      refine ⟨true, tb_same (.inl gh4) (.inl ga4) t4 ta4 hTn, ?_⟩
      rw [if_neg (by simp)]
      subst hU
      refine seqU fun U hU => ?_
      walk_at "R"
      refine ⟨_, gh4, ?_⟩
      have ga5 : updG G4 h (GO.dic []) a = some (.dic kvs) := by rw [updG_ne hah]; exact ga4
      have ta5 : TbV (updG G4 h (GO.dic [])) kvs T := ta4.mono fun b ws e => by rw [updG_ne (fun z => by rw [z, gh4] at e; cases e)]; exact e
      have gp5 : updG G4 h (GO.dic []) p = some (.lst (txs l)) := by rw [updG_ne hph]; exact gp4
      generalize updG G4 h (GO.dic []) = G5 at ga5 ta5 gp5 ⊢
      subst hU
      refine seqU fun U hU => ?_
      walk_at "R"
      refine ⟨a, kvs, T, rfl, ga5, ta5, hTn, hT50, hTe50, fun p' R' hp' hR' => ?_, fun p' l' hp' hl' => ?_⟩
      · obtain ⟨_, x, ys, _, hch⟩ := hl
        exact (hR'.noRing hch).elim
      · dsimp only
        have ga6 := updG_ne' (g := .lst (txs l')) ga5 hp'
        have ta6 : TbV (updG G5 p' (GO.lst (txs l'))) kvs T := ta5.mono fun b ws e => updG_ne' e hp'
        have gp6 := updG_ne' (g := .lst (txs l')) gp5 hp'
        have gq6 : updG G5 p' (GO.lst (txs l')) p' = some (.lst (txs l')) := updG_same
        generalize updG G5 p' (GO.lst (txs l')) = G6 at ga6 ta6 gp6 gq6 ⊢
        subst hU
        refine seqU fun U hU => ?_
        walk_at "R"
        rw [str_eq, decide_eq_true rfl, if_neg (by simp)]
        refine ⟨rfl, rfl, Nat.zero_le _, ?_⟩
        subst hU
        refine seqU fun U hU => ?_
        walk_at "R"
        rw [str_eq, if_neg (by decide +kernel)]
        refine ⟨rfl, rfl, Nat.zero_le _, ?_⟩
        subst hU
        walk_at "R"
        refine ⟨rfl, rfl, Nat.zero_le _, ?_⟩
        rw [str_eq, decide_eq_true rfl, if_pos rfl]
        refine ⟨a, p, kvs, T, l, rfl, ga6, ta6, hTl, hTe, gp6, hl, ?_⟩
        walk_at "R"
        exact ⟨a, p', kvs, T, l', rfl, ga6, ta6, hTl, hTe, gq6, hl', GLe.done (hq _)⟩
theorem law_ok (T : Txt K mg) (F : Fun K "law" "law" (top 12) f fd) : WFn P w K mg base 100 f fd ["_law_script"] spLaw := by
  have Ra := T.d_rank_above.fx (P := P) (w := w) (base := base) fun f fd F => fnRa F T.z_max
  have Me := T.d_ring_met.fx fun f fd F => fnMe F Ra T.z_list
  have Rk := T.d_ranks.fx fun f fd F => fnRk F Me
  have Ca := T.d__law_cell_at.fx (P := P) (w := w) (base := base) fun f fd F => fnCa F T.z_len
  have Na := T.d__law_names.fx (P := P) (w := w) (base := base) fun f fd F => fnNa F T.z_range
  have Li := T.d__law_list.fx (P := P) (w := w) (base := base) fun f fd F => fnLi F T.z_range T.z_len
  have Ru := T.d__law_rules.fx fun f fd F => fnRu F Ca Li T.z_range T.z_len
  have Co := T.d__law_copied.fx (P := P) (w := w) (base := base) fun f fd F => fnCo F T.z_list
  have Rd := T.d__law_ranked.fx (P := P) (w := w) (base := base) fun f fd F => fnRd F T.z_list T.z_len T.z_isinstance T.z_dict T.z_int T.z_bool T.z_max
  have Rg := T.d__law_rings.fx (P := P) (w := w) (base := base) fun f fd F => fnRg F T.z_list T.z_len T.z_isinstance T.z_set T.z_range
  exact fnLw F Ca Na Ru Co Rk Rd Rg T.z_isinstance T.z_tuple T.z_len


end
set_option maxHeartbeats 0 in
theorem all_mk {l : PySem.W.OpenLaw} {w : World} {K : PySem.W.Frag} {h : Heap} {mg : Str → Option Value} {fa f1 f2 f3 f4 f5 f6 f7 f8 f9 f10 f11 : Addr} (X : K.In h) (G : h.Ns mainGlobals mg) (hfa : mg "law" = some (.ref fa))
    {od1 an1 od2 an2 od3 an3 od4 an4 od5 an5 od6 an6 od7 an7 od8 an8 od9 an9 od10 an10 od11 an11 : Option Addr} {sl1 sl2 sl3 sl4 sl5 sl6 sl7 sl8 sl9 sl10 sl11 : Array (Option Value)} {oc1 kV1 dc1 pm1 cd1 ct1 oc2 kV2 dc2 pm2 cd2 ct2 oc3 kV3 dc3 pm3 cd3 ct3 oc4 kV4 dc4 pm4 cd4 ct4 oc5 kV5 dc5 pm5 cd5 ct5 oc6 kV6 dc6 pm6 cd6 ct6 oc7 kV7 dc7 pm7 cd7 ct7 oc8 kV8 dc8 pm8 cd8 ct8 oc9 kV9 dc9 pm9 cd9 ct9 oc10 kV10 dc10 pm10 cd10 ct10 oc11 kV11 dc11 pm11 cd11 ct11 : Value}
    (a1 : PySem.W.nsIn K mainGlobals "ranks" = some (some (.ref f1))) (l1 : K.lookup f1 = some ⟨oc1, od1, .func (PySem.W.fnOf "ranks" "ranks" (defArgs (top 1)) (defBody (top 1)) (defScope (top 1)) .none kV1 dc1 pm1 an1 cd1 ct1), sl1⟩) (c1 : PySem.W.codeIn K cd1 "ranks" = true) (k1 : PySem.W.keepIn K (.ref f1) = true)
    (a2 : PySem.W.nsIn K mainGlobals "ring_met" = some (some (.ref f2))) (l2 : K.lookup f2 = some ⟨oc2, od2, .func (PySem.W.fnOf "ring_met" "ring_met" (defArgs (top 2)) (defBody (top 2)) (defScope (top 2)) .none kV2 dc2 pm2 an2 cd2 ct2), sl2⟩) (c2 : PySem.W.codeIn K cd2 "ring_met" = true) (k2 : PySem.W.keepIn K (.ref f2) = true)
    (a3 : PySem.W.nsIn K mainGlobals "rank_above" = some (some (.ref f3))) (l3 : K.lookup f3 = some ⟨oc3, od3, .func (PySem.W.fnOf "rank_above" "rank_above" (defArgs (top 3)) (defBody (top 3)) (defScope (top 3)) .none kV3 dc3 pm3 an3 cd3 ct3), sl3⟩) (c3 : PySem.W.codeIn K cd3 "rank_above" = true) (k3 : PySem.W.keepIn K (.ref f3) = true)
    (a4 : PySem.W.nsIn K mainGlobals "_law_cell_at" = some (some (.ref f4))) (l4 : K.lookup f4 = some ⟨oc4, od4, .func (PySem.W.fnOf "_law_cell_at" "_law_cell_at" (defArgs (top 5)) (defBody (top 5)) (defScope (top 5)) .none kV4 dc4 pm4 an4 cd4 ct4), sl4⟩) (c4 : PySem.W.codeIn K cd4 "_law_cell_at" = true) (k4 : PySem.W.keepIn K (.ref f4) = true)
    (a5 : PySem.W.nsIn K mainGlobals "_law_names" = some (some (.ref f5))) (l5 : K.lookup f5 = some ⟨oc5, od5, .func (PySem.W.fnOf "_law_names" "_law_names" (defArgs (top 6)) (defBody (top 6)) (defScope (top 6)) .none kV5 dc5 pm5 an5 cd5 ct5), sl5⟩) (c5 : PySem.W.codeIn K cd5 "_law_names" = true) (k5 : PySem.W.keepIn K (.ref f5) = true)
    (a6 : PySem.W.nsIn K mainGlobals "_law_list" = some (some (.ref f6))) (l6 : K.lookup f6 = some ⟨oc6, od6, .func (PySem.W.fnOf "_law_list" "_law_list" (defArgs (top 7)) (defBody (top 7)) (defScope (top 7)) .none kV6 dc6 pm6 an6 cd6 ct6), sl6⟩) (c6 : PySem.W.codeIn K cd6 "_law_list" = true) (k6 : PySem.W.keepIn K (.ref f6) = true)
    (a7 : PySem.W.nsIn K mainGlobals "_law_rules" = some (some (.ref f7))) (l7 : K.lookup f7 = some ⟨oc7, od7, .func (PySem.W.fnOf "_law_rules" "_law_rules" (defArgs (top 8)) (defBody (top 8)) (defScope (top 8)) .none kV7 dc7 pm7 an7 cd7 ct7), sl7⟩) (c7 : PySem.W.codeIn K cd7 "_law_rules" = true) (k7 : PySem.W.keepIn K (.ref f7) = true)
    (a8 : PySem.W.nsIn K mainGlobals "_law_copied" = some (some (.ref f8))) (l8 : K.lookup f8 = some ⟨oc8, od8, .func (PySem.W.fnOf "_law_copied" "_law_copied" (defArgs (top 9)) (defBody (top 9)) (defScope (top 9)) .none kV8 dc8 pm8 an8 cd8 ct8), sl8⟩) (c8 : PySem.W.codeIn K cd8 "_law_copied" = true) (k8 : PySem.W.keepIn K (.ref f8) = true)
    (a9 : PySem.W.nsIn K mainGlobals "_law_ranked" = some (some (.ref f9))) (l9 : K.lookup f9 = some ⟨oc9, od9, .func (PySem.W.fnOf "_law_ranked" "_law_ranked" (defArgs (top 10)) (defBody (top 10)) (defScope (top 10)) .none kV9 dc9 pm9 an9 cd9 ct9), sl9⟩) (c9 : PySem.W.codeIn K cd9 "_law_ranked" = true) (k9 : PySem.W.keepIn K (.ref f9) = true)
    (a10 : PySem.W.nsIn K mainGlobals "_law_rings" = some (some (.ref f10))) (l10 : K.lookup f10 = some ⟨oc10, od10, .func (PySem.W.fnOf "_law_rings" "_law_rings" (defArgs (top 11)) (defBody (top 11)) (defScope (top 11)) .none kV10 dc10 pm10 an10 cd10 ct10), sl10⟩) (c10 : PySem.W.codeIn K cd10 "_law_rings" = true) (k10 : PySem.W.keepIn K (.ref f10) = true)
    (a11 : PySem.W.nsIn K mainGlobals "law" = some (some (.ref f11))) (l11 : K.lookup f11 = some ⟨oc11, od11, .func (PySem.W.fnOf "law" "law" (defArgs (top 12)) (defBody (top 12)) (defScope (top 12)) .none kV11 dc11 pm11 an11 cd11 ct11), sl11⟩) (c11 : PySem.W.codeIn K cd11 "law" = true) (k11 : PySem.W.keepIn K (.ref f11) = true)
    (z1 : PySem.W.nsIn K mainGlobals "bool" = some none) (z2 : PySem.W.nsIn K mainGlobals "dict" = some none) (z3 : PySem.W.nsIn K mainGlobals "int" = some none) (z4 : PySem.W.nsIn K mainGlobals "isinstance" = some none) (z5 : PySem.W.nsIn K mainGlobals "len" = some none) (z6 : PySem.W.nsIn K mainGlobals "list" = some none) (z7 : PySem.W.nsIn K mainGlobals "max" = some none) (z8 : PySem.W.nsIn K mainGlobals "range" = some none) (z9 : PySem.W.nsIn K mainGlobals "set" = some none) (z10 : PySem.W.nsIn K mainGlobals "tuple" = some none) :
    ∃ fd : FuncData, (∀ (s : Shared) (v : Value), BindsTo s fd ⟨[v], []⟩ [("_law_script", v)]) ∧ ∀ base : Heap, K.In base → base.Ns mainGlobals mg → FnOk l.prog w K mg base CX0 100 fa fd ["_law_script"] (LSp K spLaw) := by
  have e := hfa.symm.trans (PySem.W.mg_of X G a11)
  cases e
  have F1 := fun_mk (st := top 1) l1 c1 k1
  have b1 := F1.binds (ps := ["rules"]) fun _ _ _ _ _ _ => lnS (fun _ => lnZ rfl)
  have F2 := fun_mk (st := top 2) l2 c2 k2
  have b2 := F2.binds (ps := ["rules", "first", "ranking"]) fun _ _ _ _ _ _ => lnS (fun _ => lnS (fun _ => lnS (fun _ => lnZ rfl)))
  have F3 := fun_mk (st := top 3) l3 c3 k3
  have b3 := F3.binds (ps := ["kinds", "ranking"]) fun _ _ _ _ _ _ => lnS (fun _ => lnS (fun _ => lnZ rfl))
  have F4 := fun_mk (st := top 5) l4 c4 k4
  have b4 := F4.binds (ps := ["_law_script", "_law_k"]) fun _ _ _ _ _ _ => lnS (fun _ => lnS (fun _ => lnZ rfl))
  have F5 := fun_mk (st := top 6) l5 c5 k5
  have b5 := F5.binds (ps := ["_law_cell", "_law_many"]) fun _ _ _ _ _ _ => lnS (fun _ => lnS (fun _ => lnZ rfl))
  have F6 := fun_mk (st := top 7) l6 c6 k6
  have b6 := F6.binds (ps := ["_law_cell", "_law_k", "_law_names_here", "_law_start", "_law_straight"]) fun _ _ _ _ _ _ => lnS (fun _ => lnS (fun _ => lnS (fun _ => lnS (fun _ => lnS (fun _ => lnZ rfl)))))
  have F7 := fun_mk (st := top 8) l7 c7 k7
  have b7 := F7.binds (ps := ["_law_script", "_law_names_here"]) fun _ _ _ _ _ _ => lnS (fun _ => lnS (fun _ => lnZ rfl))
  have F8 := fun_mk (st := top 9) l8 c8 k8
  have b8 := F8.binds (ps := ["_law_rules_here"]) fun _ _ _ _ _ _ => lnS (fun _ => lnZ rfl)
  have F9 := fun_mk (st := top 10) l9 c9 k9
  have b9 := F9.binds (ps := ["_law_rules_here", "_law_told"]) fun _ _ _ _ _ _ => lnS (fun _ => lnS (fun _ => lnZ rfl))
  have F10 := fun_mk (st := top 11) l10 c10 k10
  have b10 := F10.binds (ps := ["_law_rules_here", "_law_told"]) fun _ _ _ _ _ _ => lnS (fun _ => lnS (fun _ => lnZ rfl))
  have F11 := fun_mk (st := top 12) l11 c11 k11
  have T : Txt K mg := ⟨⟨f1, _, F1, b1, PySem.W.mg_of X G a1⟩, ⟨f2, _, F2, b2, PySem.W.mg_of X G a2⟩, ⟨f3, _, F3, b3, PySem.W.mg_of X G a3⟩, ⟨f4, _, F4, b4, PySem.W.mg_of X G a4⟩, ⟨f5, _, F5, b5, PySem.W.mg_of X G a5⟩, ⟨f6, _, F6, b6, PySem.W.mg_of X G a6⟩, ⟨f7, _, F7, b7, PySem.W.mg_of X G a7⟩, ⟨f8, _, F8, b8, PySem.W.mg_of X G a8⟩, ⟨f9, _, F9, b9, PySem.W.mg_of X G a9⟩, ⟨f10, _, F10, b10, PySem.W.mg_of X G a10⟩, PySem.W.mg_none_of X G z1, PySem.W.mg_none_of X G z2, PySem.W.mg_none_of X G z3, PySem.W.mg_none_of X G z4, PySem.W.mg_none_of X G z5, PySem.W.mg_none_of X G z6, PySem.W.mg_none_of X G z7, PySem.W.mg_none_of X G z8, PySem.W.mg_none_of X G z9, PySem.W.mg_none_of X G z10⟩
  exact ⟨PySem.W.fnOf "law" "law" (defArgs (top 12)) (defBody (top 12)) (defScope (top 12)) .none kV11 dc11 pm11 an11 cd11 ct11, fun s v => .of_eq rfl, fun base _ _ => law_ok T F11⟩
theorem walk {l : PySem.W.OpenLaw} {q : Program} {loose : List Str} {XP : (Str → Option Value) → Heap → Prop} {YP : World → Heap → Prop} {d : DefRec} {K : Params → PySem.W.Frag} (hn : l.most = some 63) (hdf : d.params.defaults = [])
    (hY : ∀ (w : World) (h : Heap), YP w h → (K w.params).In h)
    (F : ∀ (w : World) (mg : Str → Option Value) (fa : Addr) (h : Heap), (K w.params).In h → h.Ns mainGlobals mg → mg d.name = some (.ref fa) →
      ∃ fd : FuncData, (∀ (s : Shared) (u : Value), BindsTo s fd ⟨[u], []⟩ [("_law_script", u)]) ∧ ∀ base : Heap, (K w.params).In base → base.Ns mainGlobals mg → FnOk l.prog w (K w.params) mg base CX0 100 fa fd ["_law_script"] (LSp (K w.params) spLaw)) :
    PySem.W.WalkO q loose XP YP l.row.toRowW d [] (fun f vs => PySem.call f vs) :=
  L2.walk_of (n := 63) (k := 100) (x := "_law_script") (CX := fun _ => CX0) (sp := fun w => LSp (K w.params) spLaw) hn (by decide) hdf ⟨rfl, by decide, by decide⟩ hY F (fun _ _ _ _ hl hO hS => law_start hO hS hl) fun _ _ _ _ _ z => z
end Lw
open PySem PySem.W PyProof.Rows
set_option maxRecDepth 100000 in
set_option maxHeartbeats 0 in
theorem PySem.Challenge.cw_hydrahouse_k67_ranks_or_ring_holds : PySem.Challenge.rw_hydrahouse_k67_ranks_or_ring.Holds := by
  w_on; o_law; k_head; (case hw => w_witness2)
  k_fill
  refine Lw.walk (l := PySem.Challenge.rw_hydrahouse_k67_ranks_or_ring) rfl rfl (fun w h Y => PySem.W.kIn_of Y) ?F
  case F =>
    intro w mg fa h KX G hmg
    refine' Lw.all_mk KX G hmg ?a1 ?l1 ?c1 ?k1 ?a2 ?l2 ?c2 ?k2 ?a3 ?l3 ?c3 ?k3 ?a4 ?l4 ?c4 ?k4 ?a5 ?l5 ?c5 ?k5 ?a6 ?l6 ?c6 ?k6 ?a7 ?l7 ?c7 ?k7 ?a8 ?l8 ?c8 ?k8 ?a9 ?l9 ?c9 ?k9 ?a10 ?l10 ?c10 ?k10 ?a11 ?l11 ?c11 ?k11 ?z1 ?z2 ?z3 ?z4 ?z5 ?z6 ?z7 ?z8 ?z9 ?z10
    (case a1 => k_is)
    (case l1 => k_is)
    (case c1 => k_is)
    (case k1 => k_is)
    (case a2 => k_is)
    (case l2 => k_is)
    (case c2 => k_is)
    (case k2 => k_is)
    (case a3 => k_is)
    (case l3 => k_is)
    (case c3 => k_is)
    (case k3 => k_is)
    (case a4 => k_is)
    (case l4 => k_is)
    (case c4 => k_is)
    (case k4 => k_is)
    (case a5 => k_is)
    (case l5 => k_is)
    (case c5 => k_is)
    (case k5 => k_is)
    (case a6 => k_is)
    (case l6 => k_is)
    (case c6 => k_is)
    (case k6 => k_is)
    (case a7 => k_is)
    (case l7 => k_is)
    (case c7 => k_is)
    (case k7 => k_is)
    (case a8 => k_is)
    (case l8 => k_is)
    (case c8 => k_is)
    (case k8 => k_is)
    (case a9 => k_is)
    (case l9 => k_is)
    (case c9 => k_is)
    (case k9 => k_is)
    (case a10 => k_is)
    (case l10 => k_is)
    (case c10 => k_is)
    (case k10 => k_is)
    (case a11 => k_is)
    (case l11 => k_is)
    (case c11 => k_is)
    (case k11 => k_is)
    (case z1 => k_is)
    (case z2 => k_is)
    (case z3 => k_is)
    (case z4 => k_is)
    (case z5 => k_is)
    (case z6 => k_is)
    (case z7 => k_is)
    (case z8 => k_is)
    (case z9 => k_is)
    (case z10 => k_is)
