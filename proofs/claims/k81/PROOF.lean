import PyProof.Rows.All
import Wide.All
import OpenK.AllK
import Wide.FinOn
import KE.KEqDict
import KE.KPairComp
import KE.KDictList
import KE.KRevSl
import PyProof.Rows.SetFrom
import KE.KRevIter
import KE.KDictOf
import KE.KSortAsk
import KE.KSortTup
import PyProof.Rows.SortRev
import KE.KDictSum
import PySem.Challenge.RW_hydrahouse_k81_whole_sums_and_products
set_option bootstrap.genMatcherCode false
-- CHANGE: your row's module here, as the last of these rows
set_option Elab.async false
set_option linter.all false
set_option maxRecDepth 100000
/-! THE HAND LAYER, for ints, bools, texts, own classes, LISTS and tuples (index, slices, in, append, pop ..), calls, loops. Paste it whole ahead of your own text; what your proof does not reach may be deleted. -/
namespace L2
open PySem PySem.Spec PyProof.Rows
noncomputable abbrev Key := Sum Int Str
noncomputable def keyIs : Key → Value → Bool
  | .inl k, v => Value.isInt k v
  | .inr x, v => Value.isStrOf x v
noncomputable def keyH (w : World) : Key → Int
  | .inl k => hashInt k
  | .inr x => hashStr w x
theorem keyIs_shape : ∀ {k : Key} {v : Value}, keyIs k v = true → (∃ i t, k = Sum.inl i ∧ v = Value.int i t) ∨ (∃ x t, k = Sum.inr x ∧ v = Value.str x t)
  | .inl i, v, h => by
    obtain ⟨t, e⟩ := Value.isInt_shape (k := i) (v := v) h
    exact .inl ⟨i, t, rfl, e⟩
  | .inr x, v, h => by
    obtain ⟨t, e⟩ := Value.isStrOf_shape (x := x) (v := v) h
    exact .inr ⟨x, t, rfl, e⟩
theorem keyIs_int (i : Int) (t : Tok) : keyIs (.inl i) (.int i t) = true := by simp [keyIs, Value.isInt]
theorem key_ll (a b : Int) : decide ((Sum.inl a : Key) = Sum.inl b) = (a == b) := by
  by_cases e : a = b
  · subst e; simp
  · have h : ¬ (Sum.inl a : Key) = Sum.inl b := fun q => e (Sum.inl.inj q)
    rw [decide_eq_false h]
    exact (beq_eq_false_iff_ne.mpr e).symm
theorem key_rr (a b : Str) : decide ((Sum.inr a : Key) = Sum.inr b) = decide (a = b) := by
  by_cases e : a = b
  · subst e; simp
  · have h : ¬ (Sum.inr a : Key) = Sum.inr b := fun q => e (Sum.inr.inj q)
    rw [decide_eq_false h, decide_eq_false e]
theorem key_lr (a : Int) (b : Str) : decide ((Sum.inl a : Key) = Sum.inr b) = false := decide_eq_false (fun q => nomatch q)
theorem key_rl (a : Str) (b : Int) : decide ((Sum.inr a : Key) = Sum.inl b) = false := decide_eq_false (fun q => nomatch q)
noncomputable def mixKind (prog : Program) (w : World) : PySem.KeyKind prog w Key where
  is := keyIs
  hash := keyH w
  inj := fun v a b ha hb => by
    rcases keyIs_shape ha with ⟨i, t, rfl, rfl⟩ | ⟨x, t, rfl, rfl⟩
    · rcases keyIs_shape hb with ⟨j, u, rfl, e⟩ | ⟨y, u, rfl, e⟩
      · injection e with e1 _; rw [e1]
      · exact nomatch e
    · rcases keyIs_shape hb with ⟨j, u, rfl, e⟩ | ⟨y, u, rfl, e⟩
      · exact nomatch e
      · injection e with e1 _; rw [e1]
  byValue := fun k v h => by
    rcases keyIs_shape h with ⟨i, t, rfl, rfl⟩ | ⟨x, t, rfl, rfl⟩ <;> rfl
  pyHash := fun hv h => by
    rcases keyIs_shape hv with ⟨i, t, rfl, rfl⟩ | ⟨x, t, rfl, rfl⟩
    · exact wpAny_pyHash_int h
    · exact wpAny_pyHash_str h
  eqBool := fun hu hv h => by
    rcases keyIs_shape hu with ⟨i, t, rfl, rfl⟩ | ⟨x, t, rfl, rfl⟩
    · rcases keyIs_shape hv with ⟨j, u, rfl, rfl⟩ | ⟨y, u, rfl, rfl⟩
      · rw [key_ll] at h; exact wpAny_eqBool_int h
      · rw [key_lr] at h; exact SeqAt.EqAt.int_str i t y u _ _ _ _ h
    · rcases keyIs_shape hv with ⟨j, u, rfl, rfl⟩ | ⟨y, u, rfl, rfl⟩
      · rw [key_rl] at h; exact SeqAt.EqAt.str_int x t j u _ _ _ _ h
      · rw [key_rr] at h; exact wpAny_eqBool_str h
  «strs» := fun k x t v h => by
    rcases keyIs_shape h with ⟨i, u, rfl, e⟩ | ⟨y, u, rfl, e⟩
    · exact nomatch e
    · injection e with e1 _
      subst e1
      cases v <;> rfl
theorem mixKind_int (prog : Program) (w : World) (i : Int) (t : Tok) : (mixKind prog w).is (.inl i) (.int i t) = true := keyIs_int i t
end L2
namespace L2
open PySem PySem.Spec PyProof.Rows
inductive V where
  | non | bl (b : Bool) | int (i : Int) | str (x : Str) | byt (b : Array UInt8) | flt (b : UInt64) | ref (a : Addr) | ty (n : String)
  deriving DecidableEq
noncomputable def RelV : V → Value → Prop
  | .non, u => u = Value.none
  | .bl b, u => u = Value.bool b
  | .int i, u => ∃ t, u = Value.int i t
  | .str x, u => ∃ t, u = Value.str x t
  | .byt b, u => ∃ t, u = Value.bytes b t
  | .flt b, u => ∃ t, u = Value.float b t
  | .ref a, u => u = Value.ref a
  | .ty n, u => u = Value.type n
noncomputable abbrev Vals : List V → List Value → Prop := Paired RelV
theorem Vals.length {xs : List V} {us : List Value} (r : Vals xs us) : xs.length = us.length := Paired.length r
theorem Vals.get : ∀ {xs : List V} {us : List Value} {i : Nat} {x : V}, Vals xs us → xs[i]? = some x → ∃ u, us[i]? = some u ∧ RelV x u
  | _, _, _, _, .nil, e => by simp at e
  | _, _, 0, _, .cons r _, e => by simp at e; subst e; exact ⟨_, rfl, r⟩
  | _, _, i + 1, x, .cons _ t, e => by
    obtain ⟨u, h1, h2⟩ := Vals.get (i := i) (x := x) t (by simpa using e)
    exact ⟨u, by simpa using h1, h2⟩
theorem Vals.append : ∀ {xs ys : List V} {us ws : List Value}, Vals xs us → Vals ys ws → Vals (xs ++ ys) (us ++ ws)
  | _, _, _, _, .nil, s => s
  | _, _, _, _, .cons r t, s => .cons r (Vals.append t s)
theorem Vals.take : ∀ {xs : List V} {us : List Value} (n : Nat), Vals xs us → Vals (xs.take n) (us.take n)
  | _, _, 0, _ => .nil
  | _, _, _ + 1, .nil => .nil
  | _, _, n + 1, .cons r t => .cons r (Vals.take n t)
theorem Vals.drop : ∀ {xs : List V} {us : List Value} (n : Nat), Vals xs us → Vals (xs.drop n) (us.drop n)
  | _, _, 0, r => r
  | _, _, _ + 1, .nil => .nil
  | _, _, n + 1, .cons _ t => Vals.drop n t
noncomputable def RelO : Option V → Option Value → Prop
  | some v, some u => RelV v u
  | none, none => True
  | _, _ => False
noncomputable def KV {κ : Type} : List (κ × V) → List (κ × Value) → Prop := Paired fun (p : κ × V) (q : κ × Value) => p.1 = q.1 ∧ RelV p.2 q.2
noncomputable def kV : Key → V
  | .inl i => .int i
  | .inr x => .str x
inductive HO where
  | lst (xs : List V)
  | tup (xs : List V)
  | dK (kvs : List (Key × V)) | dT (kvs : List (List Key × V))
  | set (S : Int → Bool) (n : Nat)
  | ins (C dx : Addr) (fs : List (Str × V))
  | own (x : Addr)
  | xd (fs : List (Str × V))
  | met (f x : Addr)
  | rng (lo hi : Int)
  | frz (o : Obj) (u : HO)
  | tbl (ps : Array Value)
  | ext (φ : Heap → Prop)
noncomputable abbrev Hp := Addr → Option HO
noncomputable def upd (H : Hp) (a : Addr) (o : HO) : Hp := fun b => if b = a then some o else H b
theorem upd_same {H : Hp} {a : Addr} {o : HO} : upd H a o a = some o := by unfold upd; rw [if_pos rfl]
theorem upd_ne {H : Hp} {a b : Addr} {o : HO} (h : b ≠ a) : upd H a o b = H b := by unfold upd; rw [if_neg h]
theorem ne_of {H : Hp} {a b : Addr} {o u : HO} (h : H a = some o) (h' : H b = some u) (d : o ≠ u) : a ≠ b := by
  intro e; subst e; rw [h] at h'; exact d (Option.some.inj h')
theorem ne_of_none {H : Hp} {a b : Addr} {o : HO} (h : H a = some o) (h' : H b = none) : a ≠ b := by
  intro e; subst e; rw [h] at h'; cases h'
section
variable (P : Program) (w : World)
noncomputable def ObjOk (H : Hp) (h : Heap) (a : Addr) : HO → Prop
  | .lst xs => xs.length ≤ sizeLine ∧ ∃ (its : List Value) (n : Nat), Vals xs its ∧ h.get? a = some { cls := .type "list", data := .seq its.toArray n }
  | .tup xs => xs.length ≤ sizeLine ∧ ∃ its : List Value, Vals xs its ∧ IsTup h a its.toArray
  | .dK kvs => kvs.length ≤ sizeLine ∧ (a == sysModules) = false ∧ ∃ vs, KV kvs vs ∧ h.DictOf (mixKind P w) a vs
  | .dT kvs => kvs.length ≤ sizeLine ∧ (a == sysModules) = false ∧ ∃ xs : List (List Key × Addr × Value),
      Paired (fun (p : List Key × V) (q : List Key × Addr × Value) => p.1 = q.1 ∧ H q.2.1 = some (.tup (p.1.map kV)) ∧ RelV p.2 q.2.2) kvs xs ∧
      ∃ o es ep, h.get? a = some o ∧ o.ExactDict ∧ o.data = .dict es ep ∧ es.toList = xs.map (entryOfKey (tupleKind (mixKind P w))) ∧ (xs.map (·.1)).Nodup
  | .set S n => h.SetOf (intKind P w) a S n
  | .ins C dx fs => H dx = some (.own a) ∧ fs.length ≤ 1000 ∧ dx ≠ a ∧ h.get? a = some (PySem.W.instObj C dx) ∧
      ∃ mA, h.Ns1 dx mA ∧ (∀ f, RelO (fs.lookup f) (mA f)) ∧ PySem.Within mA (fs.map (·.1))
  | .own _ => ∃ o, h.get? a = some o
  | .xd fs => ∃ mA, h.Ns1 a mA ∧ ∀ f, RelO (fs.lookup f) (mA f)
  | .rng lo hi => ∃ t u v, h.get? a = some { cls := .type "range", data := .fields #[.int lo t, .int hi u, .int 1 v] }
  | .frz o u => h.get? a = some o ∧ ObjOk H h a u
  | .tbl ps => h.get? a = some { cls := .none, data := .fields ps }
  | .met f x => h.get? a = some (PySem.W.methodObj (.ref f) (.ref x))
  | .ext φ => φ h ∧ (∃ o, h.get? a = some o) ∧ ∀ h1 h2 : Heap, φ h1 → (∀ o, h1.get? a = some o → h2.get? a = some o) → φ h2
noncomputable def HOk (H : Hp) (h : Heap) : Prop := ∀ a o, H a = some o → ObjOk P w H h a o
end
section
variable {P : Program} {w : World} {H H' : Hp} {h h' : Heap} {a : Addr} {o : HO}
theorem ObjOk.lt (x : ObjOk P w H h a o) : a < h.objs.size := by
  cases o with
  | lst xs => obtain ⟨_, _, _, _, e⟩ := x; exact Heap.lt_size e
  | tup xs => obtain ⟨_, _, _, p⟩ := x; exact p.lt
  | dK kvs => obtain ⟨_, _, _, _, o, _, _, e, _⟩ := x; exact Heap.lt_size e
  | dT kvs => obtain ⟨_, _, _, _, o, _, _, e, _⟩ := x; exact Heap.lt_size e
  | set S n => obtain ⟨o, _, _, _, e, _⟩ := x; exact Heap.lt_size e
  | ins C dx fs => obtain ⟨_, _, _, e, _⟩ := x; exact Heap.lt_size e
  | own y => obtain ⟨_, e⟩ := x; exact Heap.lt_size e
  | xd fs => obtain ⟨_, ⟨_, _, _, e, _⟩, _⟩ := x; exact Heap.lt_size e
  | rng lo hi => obtain ⟨_, _, _, e⟩ := x; exact Heap.lt_size e
  | frz ob u => obtain ⟨e, _⟩ := x; exact Heap.lt_size e
  | tbl ps => exact Heap.lt_size (show h.get? a = some _ from x)
  | met f y => exact Heap.lt_size (show h.get? a = some _ from x)
  | ext φ => obtain ⟨_, ⟨_, e⟩, _⟩ := x; exact Heap.lt_size e
theorem Paired.mapP {α β : Type} {F G : α → β → Prop} : ∀ {l₁ : List α} {l₂ : List β}, Paired F l₁ l₂ → (∀ a b, F a b → G a b) → Paired G l₁ l₂
  | _, _, .nil, _ => .nil
  | _, _, .cons r t, f => .cons (f _ _ r) (Paired.mapP t f)
theorem ObjOk.stay (x : ObjOk P w H h a o) (k : ∀ b u, (b = a ∨ H b = some (.own a)) → h.get? b = some u → h'.get? b = some u)
    (ho : ∀ b, H b = some (.own a) → H' b = some (.own a)) (ht : ∀ b xs, H b = some (.tup xs) → H' b = some (.tup xs)) : ObjOk P w H' h' a o := by
  induction o with
  | lst xs => obtain ⟨z, its, n, r, e⟩ := x; exact ⟨z, its, n, r, k _ _ (.inl rfl) e⟩
  | tup xs => obtain ⟨z, its, r, ob, e, c⟩ := x; exact ⟨z, its, r, ob, k _ _ (.inl rfl) e, c⟩
  | dK kvs => obtain ⟨z, y, vs, r, ob, es, ep, e, c⟩ := x; exact ⟨z, y, vs, r, ob, es, ep, k _ _ (.inl rfl) e, c⟩
  | dT kvs =>
    obtain ⟨z, y, xs, r, ob, es, ep, e, c⟩ := x
    exact ⟨z, y, xs, Paired.mapP r fun p q z => ⟨z.1, ht _ _ z.2.1, z.2.2⟩, ob, es, ep, k _ _ (.inl rfl) e, c⟩
  | set S n => obtain ⟨ob, es, ep, t, e, c⟩ := x; exact ⟨ob, es, ep, t, k _ _ (.inl rfl) e, c⟩
  | ins C dx fs =>
    obtain ⟨d, z, ne, e, mA, ⟨od, es, ep, e2, c⟩, r⟩ := x
    exact ⟨ho _ d, z, ne, k _ _ (.inl rfl) e, mA, ⟨od, es, ep, k _ _ (.inr d) e2, c⟩, r⟩
  | own y => obtain ⟨ob, e⟩ := x; exact ⟨ob, k _ _ (.inl rfl) e⟩
  | xd fs => obtain ⟨mA, ⟨od, es, ep, e, c⟩, r⟩ := x; exact ⟨mA, ⟨od, es, ep, k _ _ (.inl rfl) e, c⟩, r⟩
  | rng lo hi => obtain ⟨t, u, v, e⟩ := x; exact ⟨t, u, v, k _ _ (.inl rfl) e⟩
  | frz ob u ih => obtain ⟨e, q⟩ := x; exact ⟨k _ _ (.inl rfl) e, ih q⟩
  | tbl ps =>
    have e : h.get? a = some { cls := .none, data := .fields ps } := x
    show h'.get? a = some { cls := .none, data := .fields ps }
    exact k a _ (.inl rfl) e
  | met f y =>
    have e : h.get? a = some (PySem.W.methodObj (.ref f) (.ref y)) := x
    show h'.get? a = some (PySem.W.methodObj (.ref f) (.ref y))
    exact k a _ (.inl rfl) e
  | ext φ => obtain ⟨p, ⟨o, e⟩, st⟩ := x; exact ⟨st _ _ p fun o q => k _ _ (.inl rfl) q, ⟨o, k _ _ (.inl rfl) e⟩, st⟩
theorem HOk.lt (x : HOk P w H h) (e : H a = some o) : a < h.objs.size := (x a o e).lt
theorem HOk.fresh (x : HOk P w H h) (e : h.objs.size ≤ a) : H a = none := by
  cases q : H a with
  | none => rfl
  | some u => exact absurd (Nat.lt_of_lt_of_le (x.lt q) e) (Nat.lt_irrefl _)
theorem HOk.kept (x : HOk P w H h) (k : ∀ b u, h.get? b = some u → h'.get? b = some u) : HOk P w H h' := fun a o e =>
  (x a o e).stay (fun b u _ q => k b u q) (fun _ q => q) fun _ _ q => q
theorem HOk.laid (x : HOk P w H h) (k : ∀ b u, h.get? b = some u → h'.get? b = some u) (hp : h.objs.size ≤ a) (new : ObjOk P w (upd H a o) h' a o) : HOk P w (upd H a o) h' := fun b u e => by
  have hn := x.fresh hp
  by_cases hb : b = a
  · subst hb; rw [upd_same] at e; cases e; exact new
  · rw [upd_ne hb] at e
    exact (x b u e).stay (fun c v _ q => k c v q) (fun c q => by rw [upd_ne (ne_of_none q hn)]; exact q) fun c xs q => by rw [upd_ne (ne_of_none q hn)]; exact q
end
noncomputable def Rd (H : Hp) (a : Addr) (u : HO) : Prop := H a = some u ∨ ∃ o, H a = some (.frz o u)
theorem Rd.ok {P : Program} {w : World} {H : Hp} {h : Heap} {a : Addr} {u : HO} (r : Rd H a u) (x : HOk P w H h) : ObjOk P w H h a u := by
  rcases r with r | ⟨o, r⟩
  · exact x a u r
  · obtain ⟨_, q⟩ := x a _ r
    exact q
noncomputable def Mut : Option HO → Prop
  | some (.lst _) => True
  | some (.dK _) => True
  | some (.dT _) => True
  | some (.set _ _) => True
  | some (.ins _ _ _) => True
  | some (.ext _) => True
  | _ => False
section
variable {P : Program} {w : World} {H : Hp} {h h' : Heap} {x e : Addr} {o' : HO}
theorem HOk.write (ok : HOk P w H h) (mu : Mut (H x)) (he : e = x ∨ H e = some (.own x)) (k : ∀ b u, b ≠ e → h.get? b = some u → h'.get? b = some u) (heo : ∃ u, h'.get? e = some u)
    (new : ObjOk P w (upd H x o') h' x o') : HOk P w (upd H x o') h' := fun b u q => by
  have nown : ∀ c y, H c = some (.own y) → c ≠ x := fun c y r z => by subst z; rw [r] at mu; exact mu
  have ntup : ∀ c xs, H c = some (.tup xs) → c ≠ x := fun c xs r z => by subst z; rw [r] at mu; exact mu
  by_cases hb : b = x
  · subst hb; rw [upd_same] at q; cases q; exact new
  · rw [upd_ne hb] at q
    by_cases hbe : b = e
    · have q' : H b = some (.own x) := by
        rcases he with z | z
        · exact absurd (hbe.trans z) hb
        · rw [hbe]; exact z
      rw [q] at q'; cases q'
      obtain ⟨v, hv⟩ := heo
      exact ⟨v, by rw [hbe]; exact hv⟩
    · refine (ok b u q).stay (fun c v hc r => k c v ?_ r) (fun c r => by rw [upd_ne (nown c b r)]; exact r) fun c xs r => by rw [upd_ne (ntup c xs r)]; exact r
      rcases hc with rfl | hc
      · exact hbe
      · rintro rfl
        rcases he with z | z
        · exact nown c b hc z
        · rw [hc] at z; cases z; exact hb rfl
end
structure Un (fs ex : List Addr) (H H' : Hp) (h h' : Heap) : Prop where
  keep : ∀ b o, h.get? b = some o → H b = none → b ∉ fs → b ∉ ex → h'.get? b = some o
  slot : ∀ b o, h.get? b = some o → H b = none → b ∈ fs → b ∉ ex → ∃ sl, h'.get? b = some { o with slots := sl }
  free : ∀ b o, h.get? b = some o → H b = none → b ∉ ex → H' b = none
  there : ∀ b o, h.get? b = some o → b ∉ ex → ∃ o', h'.get? b = some o'
  tups : ∀ b xs, H b = some (.tup xs) → H' b = some (.tup xs)
  frzs : ∀ b o u, H b = some (.frz o u) → H' b = some (.frz o u)
  tbls : ∀ b ps, H b = some (.tbl ps) → ∃ more, H' b = some (.tbl (ps ++ more))
section
variable {fs fs' ex ex' : List Addr} {H H1 H2 : Hp} {h h1 h2 h' : Heap} {a x e : Addr} {o : HO}
theorem Un.any (u : Un fs ex H H1 h h1) {b : Addr} {ob : Obj} (q : h.get? b = some ob) (n : H b = none) (hx : b ∉ ex) : ∃ sl, h1.get? b = some { ob with slots := sl } := by
  by_cases hb : b ∈ fs
  · exact u.slot b ob q n hb hx
  · exact ⟨ob.slots, u.keep b ob q n hb hx⟩
theorem Un.kept (k : ∀ b u, h.get? b = some u → h'.get? b = some u) : Un fs ex H H h h' :=
  ⟨fun b ob q _ _ _ => k b ob q, fun b ob q _ _ _ => ⟨ob.slots, k b ob q⟩, fun _ _ _ n _ => n, fun b ob q _ => ⟨ob, k b ob q⟩, fun _ _ q => q, fun _ _ _ q => q, fun _ ps q => ⟨#[], by rw [q]; simp⟩⟩
theorem Un.refl : Un fs ex H H h h := Un.kept fun _ _ q => q
theorem Un.laid (k : ∀ b u, h.get? b = some u → h'.get? b = some u) (hp : h.objs.size ≤ a) (hn : H a = none) : Un fs ex H (upd H a o) h h' where
  keep := fun b u q _ _ _ => k b u q
  slot := fun b u q _ _ _ => ⟨u.slots, k b u q⟩
  free := fun b u q n _ => by rw [upd_ne (Nat.ne_of_lt (Nat.lt_of_lt_of_le (Heap.lt_size q) hp))]; exact n
  there := fun b u q _ => ⟨u, k b u q⟩
  tups := fun b xs q => by rw [upd_ne (ne_of_none q hn)]; exact q
  frzs := fun b u xs q => by rw [upd_ne (ne_of_none q hn)]; exact q
  tbls := fun b ps q => ⟨#[], by rw [upd_ne (ne_of_none q hn), q]; simp⟩
theorem Un.write (mu : Mut (H x)) (he : e = x ∨ H e = some (.own x)) (k : ∀ b u, b ≠ e → h.get? b = some u → h'.get? b = some u) (heo : ∃ u, h'.get? e = some u) : Un fs ex H (upd H x o) h h' := by
  have hx : ∀ b, H b = none → b ≠ x := fun b n z => by subst z; rw [n] at mu; exact mu
  have hb : ∀ b, H b = none → b ≠ e := fun b n z => by
    subst z
    rcases he with r | r
    · exact hx b n r
    · rw [n] at r; cases r
  have hm : ∀ b u, H b = some u → ¬ Mut (some u) → b ≠ x := fun b u q nm z => by subst z; rw [q] at mu; exact nm mu
  refine ⟨fun b u q n _ _ => k b u (hb b n) q, fun b u q n _ _ => ⟨u.slots, k b u (hb b n) q⟩, fun b u q n _ => by rw [upd_ne (hx b n)]; exact n, fun b u q _ => ?_,
    fun b xs q => by rw [upd_ne (hm b _ q fun z => z)]; exact q, fun b u xs q => by rw [upd_ne (hm b _ q fun z => z)]; exact q, fun b ps q => ⟨#[], by rw [upd_ne (hm b _ q fun z => z), q]; simp⟩⟩
  by_cases hbe : b = e
  · subst hbe; exact heo
  · exact ⟨u, k b u hbe q⟩
end
noncomputable def trk (h : Heap) (H : Hp) : List Addr := (List.range h.objs.size).filter fun a => (H a).isSome
noncomputable def hidT (h : Heap) (H : Hp) : Heap := PySem.W.hideAll h (trk h H)
theorem hidT_size (h : Heap) (H : Hp) : (hidT h H).objs.size = h.objs.size := PySem.W.hideAll_size _ _
theorem hidT_get {h : Heap} {H : Hp} {b : Addr} {o : Obj} (e : h.get? b = some o) (n : H b = none) : (hidT h H).get? b = some o :=
  PySem.W.hideAll_get _ e fun hm => by
    have q : (H b).isSome = true := (List.mem_filter.mp hm).2
    rw [n] at q; simp at q
theorem of_hidT {h : Heap} {H : Hp} {b : Addr} {o : Obj} (e : (hidT h H).get? b = some o) : h.get? b = some o ∧ H b = none := by
  have e' : h.get? b = some o := PySem.W.of_hideAll (trk h H) e
  refine ⟨e', ?_⟩
  cases q : H b with
  | none => rfl
  | some x =>
    have hm : b ∈ trk h H := List.mem_filter.mpr ⟨List.mem_range.mpr (Heap.lt_size e'), by simp [q]⟩
    have z : (hidT h H).get? b = none := PySem.W.hideAll_none (trk h H) hm
    rw [z] at e; cases e
noncomputable def allNews (g h : Heap) (L : Addr) : List (Addr × Obj) := (List.range h.objs.size).filterMap fun a => if a = L ∨ (g.get? a).isSome = true then none else (h.get? a).map fun o => (a, o)
noncomputable def rest (g h : Heap) (L d : Addr) : List (Addr × Obj) := (allNews g h L).filter fun p => decide (p.1 ≠ d)
end L2
namespace L2
open PySem PySem.Spec PyProof.Rows
structure Mod (K : PySem.W.Frag) (mg : Str → Option Value) (base : Heap) : Prop where
  kin : K.In base
  glob : base.Ns mainGlobals mg
  blt : ∃ mb, base.Ns builtinsNs mb ∧ ∀ x : Str, x ≠ "__name__" → mb x = bootBuiltins x
  nolimit : base.NoLimit
structure Cx where
  prog : Program
  w : World
  K : PySem.W.Frag
  mg : Str → Option Value
  base : Heap
  A : Around
  N : List Str
  s₀ : Shared
  H₀ : Hp
  env : Env
  outer : List Env
  stack : List Env
  ex : List Addr
  fn : Str → Bool
  calm : Bool
  pn : List (Addr × Obj)
  xe : Value → Shared → Prop
noncomputable def frs (l : List Env) : List Addr := l.filterMap (·.frame)
noncomputable abbrev Cx.fs (X : Cx) : List Addr := frs X.outer
noncomputable def Vis (sc : Scope) (x : Str) : Prop := sc.names.lookup x = some .local ∨ sc.names.lookup x = some .cell ∨ sc.names.lookup x = some .free
noncomputable def Loc (sc : Scope) (x : Str) : Prop := sc.names.lookup x = some .local ∨ sc.names.lookup x = some .cell
noncomputable def Look (env : Env) (h : Heap) (m : Str → Option Value) (x : Str) (u : Value) : Prop :=
  (env.kindOf x = some .local ∧ m x = some u) ∨ ((env.kindOf x = some .cell ∨ env.kindOf x = some .free) ∧ ∃ c, env.cells.lookup x = some c ∧ h.IsCell c (some u))
structure Cx.Ok (X : Cx) : Prop where
  mod : Mod X.K X.mg X.base
  kind : X.env.scope.kind = .function
  glob : X.env.globals = mainGlobals
  blt : X.env.builtins = builtinsNs
  above : X.s₀.heap.objs.size ≤ X.env.locals
  inj : ∀ x y c, X.env.cells.lookup x = some c → X.env.cells.lookup y = some c → x = y
  has : ∀ x, (X.env.kindOf x = some .cell ∨ X.env.kindOf x = some .free) → ∃ c, X.env.cells.lookup x = some c
  cab : ∀ x c, X.fn x = true → X.env.cells.lookup x = some c → X.s₀.heap.objs.size ≤ c
  hd : X.calm = true → X.A.handled = none
  frames : X.A.frames = some X.stack
  stk : X.stack = X.outer ∨ (X.stack = X.env :: X.outer ∧ X.env.frame = some X.env.locals)
  exf : ∀ b ∈ X.ex, b ≠ X.env.locals ∧ ∀ x c, X.env.cells.lookup x = some c → c ≠ b
  bs : ∀ b o, X.base.get? b = some o → X.s₀.heap.get? b = some o ∧ X.H₀ b = none
  bsz : X.base.objs.size ≤ X.s₀.heap.objs.size
  noex : ∀ b o, X.base.get? b = some o → b ∉ X.ex
  exfs : ∀ b ∈ X.ex, b ∉ X.fs
  funs : X.s₀.heap.FunFrames X.base X.outer
  frf : ∀ b ∈ X.fs, X.H₀ b = none
structure Inv (X : Cx) (pins : List (Addr × Obj)) (σ : List (Option V)) (H : Hp) (s : Shared) : Prop where
  ok : X.Ok
  os : s.os = X.s₀.os
  bare : AllBare s.gens
  base : Un X.fs X.ex X.H₀ H X.s₀.heap s.heap
  loc : ∃ m, s.heap.Ns X.env.locals m ∧ ∀ (i : Nat) (x : Str) (v : V), X.N[i]? = some x → σ[i]? = some (some v) → Vis X.env.scope x → ∃ u, RelV v u ∧ Look X.env s.heap m x u
  cell : ∀ x c, X.env.cells.lookup x = some c → ∃ v, s.heap.IsCell c v
  free : H X.env.locals = none
  freeC : ∀ x c, X.env.cells.lookup x = some c → H c = none
  pin : ∀ p ∈ X.pn ++ pins, s.heap.get? p.1 = some p.2 ∧ H p.1 = none ∧ p.1 ≠ X.env.locals ∧ p.1 ∉ X.fs ∧ ∀ v, p.2.data ≠ .cell v
  hok : HOk X.prog X.w H s.heap
  len : σ.length = X.N.length
section
variable {X : Cx} {pins : List (Addr × Obj)} {σ : List (Option V)} {H H' : Hp} {s : Shared} {h' : Heap}
theorem Cx.Ok.nofr (ok : X.Ok) {b : Addr} {o : Obj} (e : X.base.get? b = some o) : b ∉ X.fs := fun hb => by
  have := (ok.funs.mem hb).1
  rw [e] at this; cases this
theorem Inv.bs (I : Inv X pins σ H s) : ∀ b o, X.base.get? b = some o → s.heap.get? b = some o ∧ H b = none := fun b o e =>
  ⟨I.base.keep b o (I.ok.bs b o e).1 (I.ok.bs b o e).2 (I.ok.nofr e) (I.ok.noex b o e), I.base.free b o (I.ok.bs b o e).1 (I.ok.bs b o e).2 (I.ok.noex b o e)⟩
theorem Inv.bk (I : Inv X pins σ H s) : ∀ b o, X.base.get? b = some o → s.heap.get? b = some o := fun b o e => (I.bs b o e).1
theorem Inv.mod (I : Inv X pins σ H s) : Mod X.K X.mg X.base := I.ok.mod
theorem Inv.kIn (I : Inv X pins σ H s) : X.K.In s.heap := I.ok.mod.kin.keeps I.bk
theorem Inv.lt (I : Inv X pins σ H s) : X.env.locals < s.heap.objs.size := let ⟨_, hn, _⟩ := I.loc; hn.lt
theorem Inv.sz (I : Inv X pins σ H s) : X.s₀.heap.objs.size ≤ s.heap.objs.size := Nat.le_trans I.ok.above (Nat.le_of_lt I.lt)
theorem Inv.nofs (I : Inv X pins σ H s) {a : Addr} (h : s.heap.objs.size ≤ a) : a ∉ X.fs := fun hb => by
  obtain ⟨_, o, ho, _⟩ := I.ok.funs.mem hb
  exact absurd (Nat.lt_of_lt_of_le (Heap.lt_size ho) (Nat.le_trans I.sz h)) (Nat.lt_irrefl _)
theorem Inv.cne (I : Inv X pins σ H s) : ∀ x c, X.env.cells.lookup x = some c → c ≠ X.env.locals := fun x c e z => by
  obtain ⟨v, o, ho, hd⟩ := I.cell x c e
  obtain ⟨m, ⟨o', es, ep, ho', hd', _⟩, _⟩ := I.loc
  rw [z, ho'] at ho; cases ho; rw [hd'] at hd; cases hd
theorem Inv.funs (I : Inv X pins σ H s) : s.heap.FunFrames X.base X.outer := by
  have all : ∀ (l : List Env), (∀ b ∈ frs l, b ∈ X.fs) → X.s₀.heap.FunFrames X.base l → s.heap.FunFrames X.base l := by
    intro l
    induction l with
    | nil => intro _ _; trivial
    | cons env r ih =>
      intro hs hl
      obtain ⟨hk, ⟨L, o, hf, hn, ho, hd⟩, hr⟩ := hl
      have hL : L ∈ X.fs := hs L (by unfold frs; rw [List.filterMap_cons, hf]; exact List.mem_cons_self)
      obtain ⟨sl, e⟩ := I.base.slot L o ho (I.ok.frf L hL) hL fun z => I.ok.exfs L z hL
      exact ⟨hk, ⟨L, _, hf, hn, e, hd⟩, ih (fun b hb => hs b (by unfold frs; rw [List.filterMap_cons, hf]; exact List.mem_cons_of_mem _ hb)) hr⟩
  exact all X.outer (fun _ hb => hb) I.ok.funs
theorem Inv.stack (I : Inv X pins σ H s) : s.heap.FunFrames X.base X.stack := by
  rcases I.ok.stk with e | ⟨e, hf⟩
  · rw [e]; exact I.funs
  · rw [e]
    obtain ⟨m, hn, _⟩ := I.loc
    refine .cons (by rw [I.ok.kind]; decide) hf hn ?_ I.funs
    exact Heap.get?_none_of_le (Nat.le_trans I.ok.bsz I.ok.above)
theorem Inv.stkSub (I : Inv X pins σ H s) : ∀ b ∈ frs X.stack, b ∈ X.env.locals :: X.fs := fun b hb => by
  rcases I.ok.stk with e | ⟨e, hf⟩
  · rw [e] at hb; exact List.mem_cons_of_mem _ hb
  · rw [e] at hb
    unfold frs at hb
    rw [List.filterMap_cons, hf] at hb
    exact hb
theorem Inv.stkFree (I : Inv X pins σ H s) : ∀ b ∈ frs X.stack, H b = none := fun b hb => by
  rcases List.mem_cons.mp (I.stkSub b hb) with e | hb
  · rw [e]; exact I.free
  · obtain ⟨_, o, ho, _⟩ := I.ok.funs.mem hb
    exact I.base.free b o ho (I.ok.frf b hb) fun z => I.ok.exfs b z hb
theorem Inv.step {g' : Array GenState} {t' : Nat} {d' : Drawn} {ch : List Addr} (I : Inv X pins σ H s)
    (hch : ∀ b ∈ ch, (b ∈ X.ex ∨ X.s₀.heap.objs.size ≤ b) ∧ b ≠ X.env.locals ∧ (∀ x c, X.env.cells.lookup x = some c → c ≠ b) ∧ ∀ p ∈ X.pn ++ pins, p.1 ≠ b)
    (keep : ∀ b o, b ≠ X.env.locals → b ∉ X.fs → b ∉ ch → s.heap.get? b = some o → H b = none → h'.get? b = some o)
    (slot : ∀ b o, b ≠ X.env.locals → b ∈ X.fs → b ∉ ch → s.heap.get? b = some o → H b = none → ∃ sl, h'.get? b = some { o with slots := sl }) (free : ∀ b o, b ∉ ch → s.heap.get? b = some o → H b = none → H' b = none)
    (there : ∀ b o, b ∉ ch → s.heap.get? b = some o → ∃ o', h'.get? b = some o')
    (tups : ∀ b xs, H b = some (.tup xs) → H' b = some (.tup xs)) (frzs : ∀ b o u, H b = some (.frz o u) → H' b = some (.frz o u)) (tbls : ∀ b ps, H b = some (.tbl ps) → ∃ more, H' b = some (.tbl (ps ++ more)))
    (ns : ∀ m, s.heap.Ns X.env.locals m → h'.Ns X.env.locals m) (hok : HOk X.prog X.w H' h') (hg : AllBare g') :
    Inv X pins σ H' { s with heap := h', gens := g', drawn := d', toks := t' } := by
  have neL : ∀ b o, X.s₀.heap.get? b = some o → b ≠ X.env.locals := fun b o e => Nat.ne_of_lt (Nat.lt_of_lt_of_le (Heap.lt_size e) I.ok.above)
  have neC : ∀ b o, X.s₀.heap.get? b = some o → b ∉ X.ex → b ∉ ch := fun b o e hx hb => by
    rcases (hch b hb).1 with z | z
    · exact hx z
    · exact absurd (Nat.lt_of_lt_of_le (Heap.lt_size e) z) (Nat.lt_irrefl _)
  have cellK : ∀ x c, X.env.cells.lookup x = some c → ∀ v, s.heap.IsCell c v → h'.IsCell c v := fun x c e v ⟨o, ho, hd⟩ => by
    have nch : c ∉ ch := fun z => (hch c z).2.2.1 x c e rfl
    by_cases hc : c ∈ X.fs
    · obtain ⟨sl, q⟩ := slot c o (I.cne x c e) hc nch ho (I.freeC x c e)
      exact ⟨_, q, hd⟩
    · exact ⟨o, keep c o (I.cne x c e) hc nch ho (I.freeC x c e), hd⟩
  refine ⟨I.ok, I.os, hg, ⟨fun b o e n hb hx => ?_, fun b o e n hb hx => ?_, fun b o e n hx => ?_, fun b o e hx => ?_, fun b xs e => tups b xs (I.base.tups b xs e), fun b o xs e => frzs b o xs (I.base.frzs b o xs e), fun b ps e => ?_⟩, ?_, fun x c e => ?_, ?_, fun x c e => ?_, fun p hp => ?_, hok, I.len⟩
  · exact keep b o (neL b o e) hb (neC b o e hx) (I.base.keep b o e n hb hx) (I.base.free b o e n hx)
  · obtain ⟨sl, e1⟩ := I.base.slot b o e n hb hx
    obtain ⟨sl', e2⟩ := slot b _ (neL b o e) hb (neC b o e hx) e1 (I.base.free b o e n hx)
    exact ⟨sl', e2⟩
  · obtain ⟨o', e1⟩ := I.base.there b o e hx
    exact free b o' (neC b o e hx) e1 (I.base.free b o e n hx)
  · obtain ⟨o', e1⟩ := I.base.there b o e hx
    exact there b o' (neC b o e hx) e1
  · obtain ⟨m1, e1⟩ := I.base.tbls b ps e
    obtain ⟨m2, e2⟩ := tbls b _ e1
    exact ⟨m1 ++ m2, by rw [e2, Array.append_assoc]⟩
  · obtain ⟨m, hn, hl⟩ := I.loc
    refine ⟨m, ns m hn, fun i x v e1 e2 e3 => ?_⟩
    obtain ⟨u, r, l⟩ := hl i x v e1 e2 e3
    refine ⟨u, r, ?_⟩
    rcases l with l | ⟨k, c, e, z⟩
    · exact .inl l
    · exact .inr ⟨k, c, e, cellK x c e _ z⟩
  · obtain ⟨v, z⟩ := I.cell x c e
    exact ⟨v, cellK x c e v z⟩
  · obtain ⟨m, ⟨o, _, _, ho, _⟩, _⟩ := I.loc
    exact free _ o (fun z => (hch _ z).2.1 rfl) ho I.free
  · obtain ⟨v, o, ho, hd⟩ := I.cell x c e
    exact free c o (fun z => (hch c z).2.2.1 x c e rfl) ho (I.freeC x c e)
  · obtain ⟨e, n, ne, nf, d⟩ := I.pin p hp
    have nch : p.1 ∉ ch := fun z => (hch p.1 z).2.2.2 p hp rfl
    exact ⟨keep p.1 p.2 ne nf nch e n, free p.1 p.2 nch e n, ne, nf, d⟩
theorem Inv.un {t' : Nat} (I : Inv X pins σ H s) (u : Un X.fs [] H H' s.heap h') (hok : HOk X.prog X.w H' h') : Inv X pins σ H' { s with heap := h', toks := t' } := by
  obtain ⟨m, ⟨o, es, ep, ho, r⟩, _⟩ := id I.loc
  obtain ⟨sl, hL⟩ := u.any ho I.free (by simp)
  exact I.step (g' := s.gens) (d' := s.drawn) (ch := []) (fun _ z => nomatch z) (fun b o _ hb _ e n => u.keep b o e n hb (by simp)) (fun b o _ hb _ e n => u.slot b o e n hb (by simp)) (fun b o _ e n => u.free b o e n (by simp)) (fun b o _ e => u.there b o e (by simp)) u.tups u.frzs u.tbls (fun m' hm => by
    obtain ⟨o', es', ep', ho', r'⟩ := hm
    rw [ho] at ho'; cases ho'
    exact ⟨_, es', ep', hL, r'⟩) hok I.bare
theorem Inv.call {g' : Array GenState} {t' : Nat} {d' : Drawn} {ch : List Addr} (I : Inv X pins σ H s) (u : Un (frs X.stack) ch H H' s.heap h') (hok : HOk X.prog X.w H' h') (hg : AllBare g')
    (hch : ∀ b ∈ ch, (b ∈ X.ex ∨ X.s₀.heap.objs.size ≤ b) ∧ b ≠ X.env.locals ∧ (∀ x c, X.env.cells.lookup x = some c → c ≠ b) ∧ ∀ p ∈ X.pn ++ pins, p.1 ≠ b) :
    Inv X pins σ H' { s with heap := h', gens := g', drawn := d', toks := t' } := by
  obtain ⟨m, ⟨o, es, ep, ho, r⟩, _⟩ := id I.loc
  obtain ⟨sl, hL⟩ := u.any ho I.free fun z => (hch _ z).2.1 rfl
  exact I.step (ch := ch) hch (fun b o hL hb hc e n => u.keep b o e n (fun z => (List.mem_cons.mp (I.stkSub b z)).elim hL hb) hc) (fun b o _ _ hc e n => u.any e n hc) (fun b o hc e n => u.free b o e n hc) (fun b o hc e => u.there b o e hc) u.tups u.frzs u.tbls (fun m' hm => by
    obtain ⟨o', es', ep', ho', r'⟩ := hm
    rw [ho] at ho'; cases ho'
    exact ⟨_, es', ep', hL, r'⟩) hok hg
theorem Inv.turned {t' : Nat} {it : Addr} (I : Inv X pins σ H s) (k : ∀ b o, b ≠ it → s.heap.get? b = some o → h'.get? b = some o) (hn : H it = none) (hL : it ≠ X.env.locals)
    (h1 : it ∈ X.ex ∨ X.s₀.heap.objs.size ≤ it) (h2 : ∀ x c, X.env.cells.lookup x = some c → c ≠ it) (h3 : ∀ p ∈ X.pn ++ pins, p.1 ≠ it) : Inv X pins σ H { s with heap := h', toks := t' } := by
  have nit : ∀ b u, H b = some u → b ≠ it := fun b u e z => by rw [z, hn] at e; cases e
  refine I.step (g' := s.gens) (d' := s.drawn) (ch := [it]) (fun b hb => ?_) (fun b o _ _ hc e _ => k b o (fun z => hc (by simp [z])) e) (fun b o _ _ hc e _ => ⟨o.slots, k b o (fun z => hc (by simp [z])) e⟩) (fun _ _ _ _ n => n)
    (fun b o hc e => ⟨o, k b o (fun z => hc (by simp [z])) e⟩) (fun _ _ e => e) (fun _ _ _ e => e) (fun b ps e => ⟨#[], by rw [e]; simp⟩) (fun m hm => ?_) (fun b u e => ?_) I.bare
  · have e : b = it := by simpa using hb
    subst e
    exact ⟨h1, hL, h2, h3⟩
  · obtain ⟨o, es, ep, ho, r⟩ := hm
    exact ⟨o, es, ep, k _ o (Ne.symm hL) ho, r⟩
  · refine (I.hok b u e).stay (fun c v hc q => k c v ?_ q) (fun _ q => q) fun _ _ q => q
    rcases hc with z | z
    · rw [z]; exact nit b u e
    · exact nit c _ z
theorem Inv.tok (I : Inv X pins σ H s) (t : Nat) : Inv X pins σ H { s with toks := t } := I.un (h' := s.heap) (t' := t) Un.refl I.hok
theorem Inv.kept {t' : Nat} (I : Inv X pins σ H s) (k : ∀ b u, s.heap.get? b = some u → h'.get? b = some u) : Inv X pins σ H { s with heap := h', toks := t' } := I.un (Un.kept k) (I.hok.kept k)
theorem Inv.laid {a : Addr} {o : HO} {t' : Nat} (I : Inv X pins σ H s) (k : ∀ b u, s.heap.get? b = some u → h'.get? b = some u) (hp : s.heap.objs.size ≤ a) (new : ObjOk X.prog X.w (upd H a o) h' a o) :
    Inv X pins σ (upd H a o) { s with heap := h', toks := t' } := I.un (Un.laid k hp (I.hok.fresh hp)) (I.hok.laid k hp new)
theorem Inv.write {x e : Addr} {o : HO} {t' : Nat} (I : Inv X pins σ H s) (mu : Mut (H x)) (he : e = x ∨ H e = some (.own x)) (k : ∀ b u, b ≠ e → s.heap.get? b = some u → h'.get? b = some u) (heo : ∃ u, h'.get? e = some u)
    (new : ObjOk X.prog X.w (upd H x o) h' x o) : Inv X pins σ (upd H x o) { s with heap := h', toks := t' } := I.un (Un.write mu he k heo) (I.hok.write mu he k heo new)
theorem Inv.pins_of {pins' : List (Addr × Obj)} (I : Inv X pins σ H s) (h : ∀ p ∈ pins', s.heap.get? p.1 = some p.2 ∧ H p.1 = none ∧ p.1 ≠ X.env.locals ∧ p.1 ∉ X.fs ∧ ∀ v, p.2.data ≠ .cell v) : Inv X pins' σ H s :=
  ⟨I.ok, I.os, I.bare, I.base, I.loc, I.cell, I.free, I.freeC, fun p hp => (List.mem_append.mp hp).elim (fun z => I.pin p (List.mem_append_left _ z)) (h p), I.hok, I.len⟩
theorem nodup_ix {N : List Str} (hN : N.Nodup) {i j : Nat} {x : Str} (a : N[i]? = some x) (b : N[j]? = some x) : i = j := by
  obtain ⟨h1, e1⟩ := List.getElem?_eq_some_iff.mp a
  obtain ⟨h2, e2⟩ := List.getElem?_eq_some_iff.mp b
  exact (List.getElem_inj hN).mp (e1.trans e2.symm)
theorem store_ok2 {M : Model} {A : Around} {E : Value → Shared → Prop} {i : Nat} {x : Str} {v : V} {u : Value} {Q : Unit → Shared → Prop} (I : Inv X pins σ H s) (hN : X.N.Nodup) (hi : X.N[i]? = some x) (hx : Loc X.env.scope x) (r : RelV v u)
    (h : ∀ s', Inv X pins (σ.set i (some v)) H s' → (∃ a, Heap.SameBut a s.heap s'.heap ∧ (a = X.env.locals ∨ X.env.cells.lookup x = some a)) → Q () s') (hf : X.fn x = true ∨ X.env.scope.names.lookup x = some .local := by first | exact .inl rfl | exact .inr rfl | assumption) : wpAny M A (storeName X.env x u) Q E s := by
  obtain ⟨m, hn, hl⟩ := id I.loc
  have hcls : (X.env.scope.kind == .class || (X.env.scope.kind == .module && X.env.locals != X.env.globals)) = false := by rw [I.ok.kind]; rfl
  have hiσ : i < σ.length := by rw [I.len]; exact (List.getElem?_eq_some_iff.mp hi).1
  have cne := I.cne
  have tracked : ∀ {a : Addr} {h' : Heap}, (∃ o, s.heap.get? a = some o ∧ H a = none) → Heap.SameBut a s.heap h' → HOk X.prog X.w H h' := fun {a h'} ha hs b ob e => by
    obtain ⟨_, _, hfree⟩ := ha
    refine (I.hok b ob e).stay (fun c w' hc q => (hs.2 c ?_).trans q) (fun _ q => q) fun _ _ q => q
    rintro rfl
    rcases hc with rfl | hc
    · rw [hfree] at e; cases e
    · rw [hfree] at hc; cases hc
  rcases hx with hk | hk
  · refine wpAny_storeName_local hk hn (fun h' hn' hs => ?_) hcls
    obtain ⟨oL, _, _, hoL, _⟩ := id hn
    refine h _ ⟨I.ok, I.os, I.bare, ⟨fun b o e n hb hx => ?_, fun b o e n hb hx => ?_, I.base.free, fun b o e hx => ?_, I.base.tups, I.base.frzs, I.base.tbls⟩, ⟨_, hn', fun j y v' e1 e2 e3 => ?_⟩, fun y c e => ?_, I.free, I.freeC, fun p hp => ?_, tracked ⟨oL, hoL, I.free⟩ hs, by simpa using I.len⟩ ⟨_, hs, .inl rfl⟩
    · exact (hs.2 b (Nat.ne_of_lt (Nat.lt_of_lt_of_le (Heap.lt_size e) I.ok.above))).trans (I.base.keep b o e n hb hx)
    · obtain ⟨sl, e1⟩ := I.base.slot b o e n hb hx
      exact ⟨sl, (hs.2 b (Nat.ne_of_lt (Nat.lt_of_lt_of_le (Heap.lt_size e) I.ok.above))).trans e1⟩
    · obtain ⟨o', e1⟩ := I.base.there b o e hx
      exact ⟨o', (hs.2 b (Nat.ne_of_lt (Nat.lt_of_lt_of_le (Heap.lt_size e) I.ok.above))).trans e1⟩
    · by_cases hj : j = i
      · subst hj
        rw [hi] at e1; cases e1
        rw [List.getElem?_set_self hiσ] at e2
        cases e2
        exact ⟨u, r, .inl ⟨hk, by simp⟩⟩
      · rw [List.getElem?_set_ne (Ne.symm hj)] at e2
        obtain ⟨u', r', q⟩ := hl j y v' e1 e2 e3
        refine ⟨u', r', ?_⟩
        rcases q with ⟨k, e⟩ | ⟨k, c, e, z⟩
        · refine .inl ⟨k, ?_⟩
          have : y ≠ x := fun e => hj (nodup_ix hN e1 (e ▸ hi))
          simp [this, e]
        · exact .inr ⟨k, c, e, z.sameBut hs (cne y c e)⟩
    · obtain ⟨w', z⟩ := I.cell y c e
      exact ⟨w', z.sameBut hs (cne y c e)⟩
    · obtain ⟨e, n, ne, nf, d⟩ := I.pin p hp
      exact ⟨(hs.2 p.1 ne).trans e, n, ne, nf, d⟩
  · have hfn : X.fn x = true := by
      rcases hf with z | z
      · exact z
      · rw [z] at hk; cases hk
    obtain ⟨c, hc⟩ := I.ok.has x (.inl hk)
    obtain ⟨w', z⟩ := I.cell x c hc
    refine wpAny_storeName_cell I.ok.kind hk hc z (fun h' hc' hs => ?_)
    obtain ⟨oc, hoc, hocd⟩ := id z
    refine h { s with heap := h' } ⟨I.ok, I.os, I.bare, ⟨fun b o e n hb hx => ?_, fun b o e n hb hx => ?_, I.base.free, fun b o e hx => ?_, I.base.tups, I.base.frzs, I.base.tbls⟩, ⟨m, hn.sameBut hs (Ne.symm (cne x c hc)), fun j y v' e1 e2 e3 => ?_⟩, fun y c' e => ?_, I.free, I.freeC, fun p hp => ?_, tracked ⟨oc, hoc, I.freeC x c hc⟩ hs, by simpa using I.len⟩ ⟨c, hs, .inr hc⟩
    · exact (hs.2 b (Nat.ne_of_lt (Nat.lt_of_lt_of_le (Heap.lt_size e) (I.ok.cab x c hfn hc)))).trans (I.base.keep b o e n hb hx)
    · obtain ⟨sl, e1⟩ := I.base.slot b o e n hb hx
      exact ⟨sl, (hs.2 b (Nat.ne_of_lt (Nat.lt_of_lt_of_le (Heap.lt_size e) (I.ok.cab x c hfn hc)))).trans e1⟩
    · obtain ⟨o', e1⟩ := I.base.there b o e hx
      exact ⟨o', (hs.2 b (Nat.ne_of_lt (Nat.lt_of_lt_of_le (Heap.lt_size e) (I.ok.cab x c hfn hc)))).trans e1⟩
    · by_cases hj : j = i
      · subst hj
        rw [hi] at e1; cases e1
        rw [List.getElem?_set_self hiσ] at e2
        cases e2
        exact ⟨u, r, .inr ⟨.inl hk, c, hc, hc'⟩⟩
      · rw [List.getElem?_set_ne (Ne.symm hj)] at e2
        obtain ⟨u', r', q⟩ := hl j y v' e1 e2 e3
        refine ⟨u', r', ?_⟩
        rcases q with q | ⟨k, c', e, z'⟩
        · exact .inl q
        · refine .inr ⟨k, c', e, z'.sameBut hs ?_⟩
          rintro rfl
          exact hj (nodup_ix hN e1 (I.ok.inj _ _ _ e hc ▸ hi))
    · by_cases hcc : c' = c
      · subst hcc; exact ⟨_, hc'⟩
      · obtain ⟨w2, z2⟩ := I.cell y c' e
        exact ⟨w2, z2.sameBut hs hcc⟩
    · obtain ⟨e, n, ne, nf, d⟩ := I.pin p hp
      refine ⟨(hs.2 p.1 ?_).trans e, n, ne, nf, d⟩
      intro q
      rw [q, hoc] at e
      have q' : oc = p.2 := Option.some.inj e
      exact d w' (by rw [← q']; exact hocd)
theorem store_ok {M : Model} {A : Around} {E : Value → Shared → Prop} {i : Nat} {x : Str} {v : V} {u : Value} {Q : Unit → Shared → Prop} (I : Inv X pins σ H s) (hN : X.N.Nodup) (hi : X.N[i]? = some x) (hx : Loc X.env.scope x) (r : RelV v u)
    (h : ∀ s', Inv X pins (σ.set i (some v)) H s' → Q () s') (hf : X.fn x = true ∨ X.env.scope.names.lookup x = some .local := by first | exact .inl rfl | exact .inr rfl | assumption) : wpAny M A (storeName X.env x u) Q E s :=
  store_ok2 I hN hi hx r (fun s' I' _ => h s' I') hf
theorem Inv.call' {s' : Shared} {ch : List Addr} (I : Inv X pins σ H s) (ho : s'.os = s.os) (u : Un (frs X.stack) ch H H' s.heap s'.heap) (hok : HOk X.prog X.w H' s'.heap) (hg : AllBare s'.gens)
    (hch : ∀ b ∈ ch, (b ∈ X.ex ∨ X.s₀.heap.objs.size ≤ b) ∧ b ≠ X.env.locals ∧ (∀ x c, X.env.cells.lookup x = some c → c ≠ b) ∧ ∀ p ∈ X.pn ++ pins, p.1 ≠ b) : Inv X pins σ H' s' := by
  obtain ⟨h', g', d', t', o'⟩ := s'
  have e : o' = s.os := ho
  subst e
  exact I.call (g' := g') (t' := t') (d' := d') u hok hg hch
end
noncomputable abbrev XK := Value → Option Addr → Hp → Prop
noncomputable abbrev St := List (Option V)
noncomputable abbrev VK := V → Hp → Prop
noncomputable abbrev TE := St → Hp → VK → Prop
noncomputable abbrev TT := St → Hp → (Bool → Hp → Prop) → Prop
noncomputable abbrev TA := St → Hp → (List V → Hp → Prop) → Prop
structure Ends where
  nx : St → Hp → Prop
  rt : VK
  bk : St → Hp → Prop := fun _ _ => False
  ct : St → Hp → Prop := fun _ _ => False
noncomputable abbrev TS := Ends → St → Hp → Prop
noncomputable def EP (X : Cx) (pins : List (Addr × Obj)) (σ : St) (Q : VK) (u : Value) (s' : Shared) : Prop := ∃ v H', Inv X pins σ H' s' ∧ RelV v u ∧ Q v H'
noncomputable def TP (X : Cx) (pins : List (Addr × Obj)) (σ : St) (Q : Bool → Hp → Prop) (b : Bool) (s' : Shared) : Prop := ∃ H', Inv X pins σ H' s' ∧ Q b H'
noncomputable def AP (X : Cx) (pins : List (Addr × Obj)) (σ : St) (Q : List V → Hp → Prop) (us : List Value) (s' : Shared) : Prop := ∃ vs H', Inv X pins σ H' s' ∧ Vals vs us ∧ Q vs H'
noncomputable def SP (X : Cx) (pins : List (Addr × Obj)) (D : Ends) (f : Flow) (s' : Shared) : Prop :=
  match f with
  | .next => ∃ σ' H', Inv X pins σ' H' s' ∧ D.nx σ' H'
  | .brk => ∃ σ' H', Inv X pins σ' H' s' ∧ D.bk σ' H'
  | .cont => ∃ σ' H', Inv X pins σ' H' s' ∧ D.ct σ' H'
  | .ret u => ∃ v σ' H', Inv X pins σ' H' s' ∧ RelV v u ∧ D.rt v H'
noncomputable def PE (X : Cx) (e : Expr) (t : TE) : Prop :=
  ∀ (pins : List (Addr × Obj)) (s : Shared) (σ : St) (H : Hp) (Q : VK), Inv X pins σ H s → t σ H Q → wpAny (model X.prog X.w) X.A (eval e X.env) (EP X pins σ Q) X.xe s
noncomputable def PT (X : Cx) (e : Expr) (t : TT) : Prop :=
  ∀ (pins : List (Addr × Obj)) (s : Shared) (σ : St) (H : Hp) (Q : Bool → Hp → Prop), Inv X pins σ H s → t σ H Q → wpAny (model X.prog X.w) X.A (isTrue e X.env (eval e X.env)) (TP X pins σ Q) X.xe s
noncomputable def PW (X : Cx) (e : Expr) (t : TT) : Prop :=
  ∀ (whole : Sem Value) (pins : List (Addr × Obj)) (s : Shared) (σ : St) (H : Hp) (Q : Bool → Hp → Prop), Inv X pins σ H s → t σ H Q → wpAny (model X.prog X.w) X.A (isTrue e X.env whole) (TP X pins σ Q) X.xe s
theorem PW.pt {X : Cx} {e : Expr} {t : TT} (h : PW X e t) : PT X e t := h _
noncomputable def PA (X : Cx) (es : List Expr) (t : TA) : Prop :=
  ∀ (pos : Pos) (pins : List (Addr × Obj)) (s : Shared) (σ : St) (H : Hp) (Q : List V → Hp → Prop), Inv X pins σ H s → t σ H Q → wpAny (model X.prog X.w) X.A (spliced (backTo pos (starEach es X.env))) (AP X pins σ Q) X.xe s
noncomputable def PS (X : Cx) (st : Stmt) (t : TS) : Prop :=
  ∀ (pins : List (Addr × Obj)) (s : Shared) (σ : St) (H : Hp) (D : Ends), Inv X pins σ H s → t D σ H → wpAny (model X.prog X.w) X.A (exec st X.env) (SP X pins D) X.xe s
noncomputable def PSs (X : Cx) (st : List Stmt) (t : TS) : Prop :=
  ∀ (pins : List (Addr × Obj)) (s : Shared) (σ : St) (H : Hp) (D : Ends), Inv X pins σ H s → t D σ H → wpAny (model X.prog X.w) X.A (execs st X.env) (SP X pins D) X.xe s
theorem thn {α : Type} {t : Sem α} {Q Q' : α → Shared → Prop} {M : Model} {A : Around} {E : Value → Shared → Prop} {s : Shared} (h : wpAny M A t Q E s) (hQ : ∀ a s, Q a s → Q' a s) : wpAny M A t Q' E s := wpAny_mono h hQ fun _ _ x => x
end L2
namespace L2
open PySem PySem.Spec PyProof.Rows
section
variable {X : Cx}
noncomputable def tVar (i : Nat) : TE := fun σ H Q => ∃ v, σ[i]? = some (some v) ∧ Q v H
noncomputable def tC (v : V) : TE := fun _ H Q => Q v H
theorem pe_var {i : Nat} {x : Str} {pos : Pos} (hN : X.N[i]? = some x) (hv : Vis X.env.scope x) (hd : (x == ("__debug__" : Str)) = false := by decide) (hcd : (x == ("__classdict__" : Str)) = false := by decide) : PE X (.Name x pos) (tVar i) := by
  intro pins s σ H Q I h
  obtain ⟨v, e, h⟩ := h
  obtain ⟨m, hn, hl⟩ := I.loc
  obtain ⟨u, r, l⟩ := hl i x v hN e hv
  have fin : EP X pins σ Q u s := ⟨v, H, I, r, h⟩
  rcases l with ⟨hk, hm⟩ | ⟨hk, c, hc, hcell⟩
  · exact wpAny_Name (wpAny_loadName_local I.ok.kind hk hn hm fin) hd
  · rcases hk with hk | hk
    · exact wpAny_Name (wpAny_loadName_cell I.ok.kind hk hc hcell fin) hd
    · exact wpAny_Name (wpAny_loadName_free I.ok.kind hk hc hcell fin hcd) hd
theorem pe_int {i j pos} : PE X (.Constant (.int i) j pos) (tC (.int i)) := fun _ _ _ H _ I h => wpAny_Constant_int ⟨.int i, H, I.tok _, ⟨_, rfl⟩, h⟩
theorem pe_bl {b j pos} : PE X (.Constant (.bool b) j pos) (tC (.bl b)) := fun _ _ _ H _ I h => Constant_bool ⟨.bl b, H, I, rfl, h⟩
noncomputable def Gl (X : Cx) (x : Str) : Prop := X.env.kindOf x = some .globalImplicit
theorem ld_glob {E : Value → Shared → Prop} {pins : List (Addr × Obj)} {s : Shared} {σ : St} {H : Hp} {x : Str} {u : Value} {pos : Pos} {Q : Value → Shared → Prop} (I : Inv X pins σ H s) (hg : Gl X x) (hm : X.mg x = some u) (h : Q u s)
    (hd : (x == ("__debug__" : Str)) = false := by decide) : wpAny (model X.prog X.w) X.A (eval (.Name x pos) X.env) Q E s :=
  Calls.Name_function_global I.ok.kind hg (Calls.loadGlobal_global (by rw [I.ok.glob]; exact I.mod.glob.keeps I.bk) hm h) hd
theorem ld_blt {E : Value → Shared → Prop} {pins : List (Addr × Obj)} {s : Shared} {σ : St} {H : Hp} {x : Str} {u : Value} {pos : Pos} {Q : Value → Shared → Prop} (I : Inv X pins σ H s) (hg : Gl X x) (hm : X.mg x = none) (hv : bootBuiltins x = some u) (h : Q u s)
    (hn : x ≠ "__name__" := by decide) (hd : (x == ("__debug__" : Str)) = false := by decide) : wpAny (model X.prog X.w) X.A (eval (.Name x pos) X.env) Q E s := by
  obtain ⟨mb, h1, h2⟩ := I.mod.blt
  exact Calls.Name_function_global I.ok.kind hg (Calls.loadGlobal_builtin (by rw [I.ok.glob]; exact I.mod.glob.keeps I.bk) hm (by rw [I.ok.blt]; exact h1.keeps I.bk) ((h2 x hn).trans hv) h) hd
theorem pe_glob {x : Str} {v : V} {u : Value} {pos : Pos} (hg : Gl X x) (hm : X.mg x = some u) (r : RelV v u) (hd : (x == ("__debug__" : Str)) = false := by decide) : PE X (.Name x pos) (tC v) :=
  fun _ _ _ H _ I h => ld_glob I hg hm ⟨v, H, I, r, h⟩ hd
theorem pe_bltn {x : Str} {v : V} {u : Value} {pos : Pos} (hg : Gl X x) (hm : X.mg x = none) (hv : bootBuiltins x = some u) (r : RelV v u) (hn : x ≠ "__name__" := by decide) (hd : (x == ("__debug__" : Str)) = false := by decide) : PE X (.Name x pos) (tC v) :=
  fun _ _ _ H _ I h => ld_blt I hg hm hv ⟨v, H, I, r, h⟩ hn hd
variable {a b : Expr} {ta tb : TE} {pos : Pos}
noncomputable def tB (t : TE) : TT := fun σ H Q => t σ H fun x H1 => ∃ c, x = .bl c ∧ Q c H1
theorem pt_val {e : Expr} {t : TE} (h : PE X e t) (he : ∀ whole, isTrue e X.env whole = (do let v ← whole; standAt e.pos; holding [v] (truthy v)) := by intro _; rfl) : PT X e (tB t) := by
  intro pins s σ H Q I hw
  refine isTrue_plain (thn (h pins s σ H _ I hw) fun v s1 ⟨x, H1, I1, r1, q1⟩ => ?_) (he _)
  obtain ⟨d, rfl, q⟩ := q1
  cases r1
  exact wpAny_truthy_bool ⟨H1, I1, q⟩
variable {tA tB' : TT} {rest : List Expr}
noncomputable def tAnd (t u : TT) : TT := fun σ H Q => t σ H fun c H1 => if c = true then u σ H1 Q else Q false H1
noncomputable def tOr (t u : TT) : TT := fun σ H Q => t σ H fun c H1 => if c = true then Q true H1 else u σ H1 Q
noncomputable def tNot (t : TT) : TT := fun σ H Q => t σ H fun c H1 => Q (!c) H1
theorem pw_and1 (ha : PT X a tA) : PW X (.BoolOp .And [a] pos) tA := by
  intro wh pins s σ H Q I h
  refine isTrue_and (thn (ha pins s σ H Q I h) fun c s1 e => ?_)
  cases c with
  | true => exact isTrue_and_nil e
  | false => exact e
theorem pw_or1 (ha : PT X a tA) : PW X (.BoolOp .Or [a] pos) tA := by
  intro wh pins s σ H Q I h
  refine isTrue_or (thn (ha pins s σ H Q I h) fun c s1 e => ?_)
  cases c with
  | false => exact isTrue_or_nil e
  | true => exact e
theorem pw_and (ha : PT X a tA) (hb : PW X (.BoolOp .And (b :: rest) pos) tB') : PW X (.BoolOp .And (a :: b :: rest) pos) (tAnd tA tB') := by
  intro wh pins s σ H Q I h
  refine isTrue_and (thn (ha pins s σ H _ I h) fun c s1 ⟨H1, I1, q1⟩ => ?_)
  cases c with
  | true => exact hb wh pins s1 σ H1 Q I1 q1
  | false => exact ⟨H1, I1, q1⟩
theorem pw_or (ha : PT X a tA) (hb : PW X (.BoolOp .Or (b :: rest) pos) tB') : PW X (.BoolOp .Or (a :: b :: rest) pos) (tOr tA tB') := by
  intro wh pins s σ H Q I h
  refine isTrue_or (thn (ha pins s σ H _ I h) fun c s1 ⟨H1, I1, q1⟩ => ?_)
  cases c with
  | true => exact ⟨H1, I1, q1⟩
  | false => exact hb wh pins s1 σ H1 Q I1 q1
theorem pt_not (ha : PT X a tA) : PT X (.UnaryOp .Not a pos) (tNot tA) := by
  intro pins s σ H Q I h
  exact isTrue_not (ha pins s σ H (fun c H1 => Q (!c) H1) I h)
noncomputable def tAndV (ta tb : TE) : TE := fun σ H Q => ta σ H fun x H1 => ∃ c, x = .bl c ∧ if c = true then tb σ H1 Q else Q (.bl false) H1
noncomputable def tNotV (ta : TE) : TE := fun σ H Q => ta σ H fun x H1 => ∃ c, x = .bl c ∧ Q (.bl (!c)) H1
theorem pe_one {op} {t : TE} (h : PE X a t) : PE X (.BoolOp op [a] pos) t := fun pins s σ H Q I hw => BoolOp_one (h pins s σ H Q I hw)
theorem pe_and (ha : PE X a ta) (hb : PE X (.BoolOp .And (b :: rest) pos) tb) : PE X (.BoolOp .And (a :: b :: rest) pos) (tAndV ta tb) := by
  intro pins s σ H Q I h
  refine BoolOp_and (thn (ha pins s σ H _ I h) fun v s1 ⟨x, H1, I1, r1, q1⟩ => ?_)
  obtain ⟨c, rfl, q1⟩ := q1
  cases r1
  refine wpAny_truthy_bool ?_
  cases c with
  | true => exact hb pins s1 σ H1 Q I1 q1
  | false => exact ⟨.bl false, H1, I1, rfl, q1⟩
theorem pe_not (ha : PE X a ta) : PE X (.UnaryOp .Not a pos) (tNotV ta) := by
  intro pins s σ H Q I h
  refine UnaryOp_ (thn (ha pins s σ H _ I h) fun v s1 ⟨x, H1, I1, r1, q1⟩ => ?_)
  obtain ⟨c, rfl, q1⟩ := q1
  cases r1
  exact not_of (wpAny_truthy_bool ⟨.bl (!c), H1, I1, rfl, q1⟩)
noncomputable def tIf (t : TT) (ta tb : TE) : TE := fun σ H Q => t σ H fun c H1 => if c = true then ta σ H1 Q else tb σ H1 Q
theorem pe_ifExp {c : Expr} (hc : PT X c tA) (ha : PE X a ta) (hb : PE X b tb) : PE X (.IfExp c a b pos) (tIf tA ta tb) := by
  intro pins s σ H Q I h
  refine wpAny_IfExp (thn (hc pins s σ H _ I h) fun d s1 ⟨H1, I1, q1⟩ => ?_)
  cases d with
  | true => exact ha pins s1 σ H1 Q I1 q1
  | false => exact hb pins s1 σ H1 Q I1 q1
end
end L2
namespace L2
open PySem PySem.Spec PyProof.Rows
noncomputable def SqL (K : PySem.W.Frag) (H : Hp) (a : Addr) (xs : List V) : Prop :=
  Rd H a (.lst xs) ∨
    ∃ (o : Obj) (its : Array Value) (n : Nat), K.lookup a = some o ∧ o.cls = .type "list" ∧ o.dict = none ∧ o.data = .seq its n ∧ its.size ≤ sizeLine ∧ Vals xs its.toList
noncomputable def SqT (K : PySem.W.Frag) (H : Hp) (a : Addr) (xs : List V) : Prop :=
  Rd H a (.tup xs) ∨
    ∃ (o : Obj) (its : Array Value) (n : Nat), K.lookup a = some o ∧ o.cls = .type "tuple" ∧ o.data = .seq its n ∧ its.size ≤ sizeLine ∧ Vals xs its.toList
noncomputable def absV : Value → Option V
  | .none => some .non
  | .bool b => some (.bl b)
  | .int i _ => some (.int i)
  | .str x _ => some (.str x)
  | .bytes b _ => some (.byt b)
  | .float b _ => some (.flt b)
  | .ref a => some (.ref a)
  | .type n => some (.ty n)
  | _ => none
theorem RelV.abs {x : V} {u : Value} (r : RelV x u) : absV u = some x := by
  cases x with
  | non => cases r; rfl
  | bl _ => cases r; rfl
  | int _ => obtain ⟨t, rfl⟩ := r; rfl
  | str _ => obtain ⟨t, rfl⟩ := r; rfl
  | byt _ => obtain ⟨t, rfl⟩ := r; rfl
  | flt _ => obtain ⟨t, rfl⟩ := r; rfl
  | ref _ => cases r; rfl
  | ty _ => cases r; rfl
theorem RelV.inj {x y : V} {u : Value} (r : RelV x u) (q : RelV y u) : x = y := Option.some.inj (r.abs.symm.trans q.abs)
theorem Vals.inj : ∀ {xs ys : List V} {us : List Value}, Vals xs us → Vals ys us → xs = ys
  | _, _, _, .nil, .nil => rfl
  | _, _, _, .cons r t, .cons r' t' => by rw [r.inj r', Vals.inj t t']
section
variable {X : Cx} {pins : List (Addr × Obj)} {σ : St} {H : Hp} {s : Shared} {a : Addr} {xs ys : List V}
theorem SqL.of {K : PySem.W.Frag} (h : H a = some (.lst xs)) : SqL K H a xs := .inl (.inl h)
theorem SqT.of {K : PySem.W.Frag} (h : H a = some (.tup xs)) : SqT K H a xs := .inl (.inl h)
theorem Inv.list (I : Inv X pins σ H s) (h : SqL X.K H a xs) : ∃ its : List Value, Vals xs its ∧ PlainL s.heap a its.toArray ∧ xs.length ≤ sizeLine := by
  rcases h with h | ⟨o, its, n, hk, hc, hd, hs, hz, r⟩
  · obtain ⟨z, its, n, r, e⟩ := h.ok I.hok
    exact ⟨its, r, ⟨_, n, e, rfl, rfl, rfl⟩, z⟩
  · refine ⟨its.toList, r, ⟨o, n, I.kIn a o hk, hc, hd, by simpa using hs⟩, ?_⟩
    have e := r.length
    simp only [Array.length_toList] at e
    (clear I hk hc hd hs r; omega)
theorem Inv.tuple (I : Inv X pins σ H s) (h : SqT X.K H a xs) : ∃ its : List Value, Vals xs its ∧ IsTup s.heap a its.toArray ∧ xs.length ≤ sizeLine := by
  rcases h with h | ⟨o, its, n, hk, hc, hs, hz, r⟩
  · obtain ⟨z, its, r, p⟩ := h.ok I.hok
    exact ⟨its, r, p, z⟩
  · refine ⟨its.toList, r, ⟨o, I.kIn a o hk, hc, n, by simpa using hs⟩, ?_⟩
    have e := r.length
    simp only [Array.length_toList] at e
    (clear I hk hc hs r; omega)
theorem Inv.list_inj (I : Inv X pins σ H s) (h : SqL X.K H a xs) (h' : SqL X.K H a ys) : xs = ys := by
  obtain ⟨its, r, ⟨o, n, e, _, _, d⟩, _⟩ := I.list h
  obtain ⟨its', r', ⟨o', n', e', _, _, d'⟩, _⟩ := I.list h'
  rw [e] at e'; cases e'
  rw [d] at d'
  injection d' with d1 _
  have : its = its' := by simpa using congrArg Array.toList d1
  subst this
  exact r.inj r'
theorem Inv.tuple_inj (I : Inv X pins σ H s) (h : SqT X.K H a xs) (h' : SqT X.K H a ys) : xs = ys := by
  obtain ⟨its, r, ⟨o, e, _, n, d⟩, _⟩ := I.tuple h
  obtain ⟨its', r', ⟨o', e', _, n', d'⟩, _⟩ := I.tuple h'
  rw [e] at e'; cases e'
  rw [d] at d'
  injection d' with d1 _
  have : its = its' := by simpa using congrArg Array.toList d1
  subst this
  exact r.inj r'
end
noncomputable abbrev Cx.wish (X : Cx) (E : Value → Shared → Prop) : Cx := { X with xe := E }
noncomputable abbrev Cx.nox (X : Cx) : Cx := X.wish fun _ _ => False
theorem Cx.Ok.wish {X : Cx} (ok : X.Ok) (E : Value → Shared → Prop) : (X.wish E).Ok :=
  ⟨ok.mod, ok.kind, ok.glob, ok.blt, ok.above, ok.inj, ok.has, ok.cab, ok.hd, ok.frames, ok.stk, ok.exf, ok.bs, ok.bsz, ok.noex, ok.exfs, ok.funs, ok.frf⟩
theorem Cx.Ok.unwish {X : Cx} {E : Value → Shared → Prop} (ok : (X.wish E).Ok) : X.Ok :=
  ⟨ok.mod, ok.kind, ok.glob, ok.blt, ok.above, ok.inj, ok.has, ok.cab, ok.hd, ok.frames, ok.stk, ok.exf, ok.bs, ok.bsz, ok.noex, ok.exfs, ok.funs, ok.frf⟩
section
variable {X : Cx} {pins : List (Addr × Obj)} {σ : St} {H : Hp} {s : Shared} {E : Value → Shared → Prop}
theorem Inv.wish (I : Inv X pins σ H s) (E : Value → Shared → Prop) : Inv (X.wish E) pins σ H s := ⟨I.ok.wish E, I.os, I.bare, I.base, I.loc, I.cell, I.free, I.freeC, I.pin, I.hok, I.len⟩
theorem Inv.unwish (I : Inv (X.wish E) pins σ H s) : Inv X pins σ H s := ⟨I.ok.unwish, I.os, I.bare, I.base, I.loc, I.cell, I.free, I.freeC, I.pin, I.hok, I.len⟩
theorem SP.unwish {D : Ends} {f : Flow} {s' : Shared} (h : SP (X.wish E) pins D f s') : SP X pins D f s' := by
  cases f with
  | next => obtain ⟨σ', H', I, q⟩ := h; exact ⟨σ', H', I.unwish, q⟩
  | brk => obtain ⟨σ', H', I, q⟩ := h; exact ⟨σ', H', I.unwish, q⟩
  | cont => obtain ⟨σ', H', I, q⟩ := h; exact ⟨σ', H', I.unwish, q⟩
  | ret u => obtain ⟨v, σ', H', I, r, q⟩ := h; exact ⟨v, σ', H', I.unwish, r, q⟩
theorem PSs.nox {st : List Stmt} {t : TS} (h : PSs X.nox st t) : PSs X st t := fun pins s σ H D I hw =>
  wpAny_mono (h pins s σ H D (I.wish _) hw) (fun _ _ q => q.unwish) fun _ _ z => False.elim z
end
section
variable {X : Cx} {st : Stmt} {rest : List Stmt} {t u : TS} {e : Expr} {te : TE} {pos : Pos}
noncomputable def tNext : TS := fun D σ H => D.nx σ H
noncomputable def tSeq (t u : TS) : TS := fun D σ H => t { D with nx := u D } σ H
theorem pss_nil : PSs X [] tNext := fun _ _ σ H _ I h => wpAny_execs_nil ⟨σ, H, I, h⟩
theorem pss_cons (h1 : PS X st t) (h2 : PSs X rest u) : PSs X (st :: rest) (tSeq t u) := by
  intro pins s σ H D I h
  refine wpAny_execs_cons (thn (h1 pins s σ H { D with nx := u D } I h) fun f s1 q => ?_)
  cases f with
  | next =>
    obtain ⟨σ', H', I', q⟩ := q
    exact h2 pins s1 σ' H' D I' q
  | ret v => exact q
  | brk => exact q
  | cont => exact q
theorem pss_one (h1 : PS X st t) : PSs X [st] t := by
  intro pins s σ H D I h
  refine wpAny_execs_cons (thn (h1 pins s σ H D I h) fun f s1 q => ?_)
  cases f with
  | next => exact wpAny_execs_nil q
  | ret v => exact q
  | brk => exact q
  | cont => exact q
theorem Inv.quiet {pins : List (Addr × Obj)} {σ : St} {H : Hp} {s : Shared} (I : Inv X pins σ H s) : interactive X.env = false := by simp [interactive, I.ok.kind]
noncomputable def tDrop (te : TE) : TS := fun D σ H => te σ H fun _ H1 => D.nx σ H1
theorem ps_expr (he : PE X e te) (hs : swapsWith e none pos.line X.env = pure false := by rfl) : PS X (.Expr e pos) (tDrop te) := by
  intro pins s σ H D I h
  exact wpAny_Expr_any (thn (he pins s σ H _ I h) fun v s1 ⟨x, H1, I1, r1, q1⟩ => ⟨σ, H1, I1, q1⟩) I.quiet hs
noncomputable def tRet (te : TE) : TS := fun D σ H => te σ H D.rt
theorem ps_ret (he : PE X e te) : PS X (.Return (some e) pos) (tRet te) := by
  intro pins s σ H D I h
  exact wpAny_Return_some (thn (he pins s σ H _ I h) fun v s1 ⟨x, H1, I1, r1, q1⟩ => ⟨x, σ, H1, I1, r1, q1⟩)
noncomputable def tIfS (c : TT) (t u : TS) : TS := fun D σ H => c σ H fun b H1 => if b = true then t D σ H1 else u D σ H1
theorem ps_if {c : Expr} {a b : List Stmt} {tc : TT} (hc : PT X c tc) (ha : PSs X a t) (hb : PSs X b u) : PS X (.If c a b pos) (tIfS tc t u) := by
  intro pins s σ H D I h
  refine wpAny_If (thn (hc pins s σ H _ I h) fun d s1 ⟨H1, I1, q1⟩ => ?_)
  cases d with
  | true => exact ha pins s1 σ H1 D I1 q1
  | false => exact hb pins s1 σ H1 D I1 q1
end
noncomputable abbrev TG := V → St → Hp → (St → Hp → Prop) → Prop
noncomputable abbrev TGs := List V → St → Hp → (St → Hp → Prop) → Prop
noncomputable def PG (X : Cx) (target : Expr) (t : TG) : Prop :=
  ∀ (pins : List (Addr × Obj)) (s : Shared) (σ : St) (H : Hp) (v : V) (u : Value) (Q : St → Hp → Prop), Inv X pins σ H s → RelV v u → t v σ H Q →
    wpAny (model X.prog X.w) X.A (assign target X.env u) (fun _ s' => ∃ σ' H', Inv X pins σ' H' s' ∧ Q σ' H') X.xe s
noncomputable def PGs (X : Cx) (ts : List Expr) (t : TGs) : Prop :=
  ∀ (pins : List (Addr × Obj)) (s : Shared) (σ : St) (H : Hp) (vs : List V) (us : List Value) (Q : St → Hp → Prop), Inv X pins σ H s → Vals vs us → t vs σ H Q →
    wpAny (model X.prog X.w) X.A (assignInOrder ((assignEach ts X.env).map (·.2)) us) (fun _ s' => ∃ σ' H', Inv X pins σ' H' s' ∧ Q σ' H') X.xe s
section
variable {X : Cx} {pos : Pos}
noncomputable def gName (i : Nat) : TG := fun v σ H Q => Q (σ.set i (some v)) H
theorem pg_name {i : Nat} {x : Str} (hN : X.N.Nodup) (hi : X.N[i]? = some x) (hx : Loc X.env.scope x) (hf : X.fn x = true ∨ X.env.scope.names.lookup x = some .local := by first | exact .inl rfl | exact .inr rfl | assumption) : PG X (.Name x pos) (gName i) := by
  intro pins s σ H v u Q I r h
  exact wpAny_assign_Name (store_ok I hN hi hx r (fun s' I' => ⟨_, H, I', h⟩) hf)
noncomputable def gCons (t : TG) (u : TGs) : TGs := fun vs σ H Q => ∃ v r, vs = v :: r ∧ t v σ H fun σ' H' => u r σ' H' Q
theorem pgs_cons {e : Expr} {es : List Expr} {t : TG} {u : TGs} (h1 : PG X e t) (h2 : PGs X es u)
    (hs : (assignEach (e :: es) X.env).map (·.2) = assign e X.env :: (assignEach es X.env).map (·.2) := by rfl) : PGs X (e :: es) (gCons t u) := by
  intro pins s σ H vs us Q I r h
  obtain ⟨v, vr, e1, h⟩ := h
  subst e1
  cases r with
  | cons r rr =>
    rw [hs]
    refine assignInOrder_cons (thn (h1 pins s σ H _ _ _ I r h) fun _ s1 ⟨σ1, H1, I1, q1⟩ => ?_)
    exact h2 pins s1 σ1 H1 _ _ Q I1 rr q1
noncomputable def gTup (K : PySem.W.Frag) (n : Nat) (t : TGs) : TG := fun v σ H Q => ∃ a xs, v = .ref a ∧ SqT K H a xs ∧ xs.length = n ∧ t xs σ H Q
theorem pg_tup {es : List Expr} {k : Nat} {t : TGs} {n : Nat} (hc : X.calm = true) (h : PGs X es t)
    (hn : (assignEach es X.env).length = n := by rfl) (hst : (assignEach es X.env).findIdx? (·.1) = none := by rfl) : PG X (.Tuple es k pos) (gTup X.K n t) := by
  intro pins s σ H v u Q I r hw
  obtain ⟨a, xs, e1, hq, hl, hw⟩ := hw
  subst e1
  cases r
  obtain ⟨its, rv, ht, hz⟩ := I.tuple hq
  refine assign_Tuple_tuple (I.ok.hd hc) ht (by simp [hn, ← hl, rv.length]) hst fun h' hx => ?_
  have I1 : Inv X pins σ H { s with heap := h' } := I.kept (t' := s.toks) fun b o e => hx b o (Nat.ne_of_lt (Heap.lt_size e)) e
  exact h pins _ σ H xs _ Q I1 (by simpa using rv) hw
noncomputable def tAsg (te : TE) (g : TG) : TS := fun D σ H => te σ H fun x H1 => g x σ H1 D.nx
theorem ps_set {i : Nat} {x : Str} {e : Expr} {te : TE} {pos' : Pos} (hN : X.N.Nodup) (hi : X.N[i]? = some x) (hx : Loc X.env.scope x) (he : PE X e te) (hs : swapsWith e (some (.Name x pos')) pos.line X.env = pure false := by rfl) (hf : X.fn x = true ∨ X.env.scope.names.lookup x = some .local := by first | exact .inl rfl | exact .inr rfl | assumption) :
    PS X (.Assign [.Name x pos'] e pos) (tAsg te (gName i)) := by
  intro pins s σ H D I h
  refine wpAny_Assign_Name (thn (he pins s σ H _ I h) fun v s1 ⟨y, H1, I1, r1, q1⟩ => ?_) hs
  exact store_ok I1 hN hi hx r1 (fun s2 I2 => ⟨_, H1, I2, q1⟩) hf
end
section
variable {X : Cx} {pos : Pos}
noncomputable def tWhile (c : TT) (tb : TS) : TS := fun D σ H => ∃ W : Nat → St → Hp → Prop, (∃ m, W m σ H) ∧ ∀ m σ H, W m σ H →
  c σ H fun b H1 => if b = true then ∃ N : St → Hp → Prop, (∀ σ' H', N σ' H' → ∃ m', m' < m ∧ W m' σ' H') ∧ tb { D with nx := N, ct := N, bk := D.nx } σ H1 else D.nx σ H1
theorem ps_while {c : Expr} {body : List Stmt} {tc : TT} {tb : TS} (hp : PassesOwn (model X.prog X.w) X.A X.env X.xe) (hc : PT X c tc) (hb : PSs X body tb) : PS X (.While c body [] pos) (tWhile tc tb) := by
  intro pins s σ H D I h
  obtain ⟨W, ⟨m0, w0⟩, turn⟩ := h
  refine wpAny_While (codeAny_whileLoop (fun n s' => ∃ σ' H', Inv X pins σ' H' s' ∧ W n σ' H') ?_ m0 ⟨σ, H, I, w0⟩)
  rintro n s1 ⟨σ1, H1, I1, w1⟩
  refine wpAny_passesOwn hp (thn (hc pins s1 σ1 H1 _ I1 (turn n σ1 H1 w1)) fun b s2 ⟨H2, I2, q2⟩ => ?_)
  cases b with
  | true =>
    obtain ⟨N, hN, q2⟩ := q2
    rw [if_pos rfl]
    refine wpAny_passesOwn hp (thn (hb pins s2 σ1 H2 _ I2 q2) fun f s3 q3 => ?_)
    cases f with
    | next =>
      obtain ⟨σ3, H3, I3, n3⟩ := q3
      obtain ⟨m', hm, w3⟩ := hN σ3 H3 n3
      exact ⟨m', hm, σ3, H3, I3, w3⟩
    | cont =>
      obtain ⟨σ3, H3, I3, n3⟩ := q3
      obtain ⟨m', hm, w3⟩ := hN σ3 H3 n3
      exact ⟨m', hm, σ3, H3, I3, w3⟩
    | brk => exact q3
    | ret v => exact q3
  | false =>
    rw [if_neg Bool.false_ne_true]
    exact wpAny_execs_nil ⟨σ1, H2, I2, q2⟩
end
structure It where
  go : Nat → Hp → Prop
  yld : Nat → Hp → V → Hp → Prop
  stop : Nat → Hp → Prop
noncomputable def FpOk (X : Cx) (pins : List (Addr × Obj)) (H : Hp) (b : Addr) : Prop :=
  H b = none ∧ b ≠ X.env.locals ∧ b ∉ X.fs ∧ (b ∈ X.ex ∨ X.s₀.heap.objs.size ≤ b) ∧ (∀ x c, X.env.cells.lookup x = some c → c ≠ b) ∧ ∀ p ∈ X.pn ++ pins, p.1 ≠ b
theorem Inv.fpOk {X : Cx} {pins : List (Addr × Obj)} {σ : St} {H H' : Hp} {s : Shared} {b : Addr} (I : Inv X pins σ H s) (hb : s.heap.objs.size ≤ b) (hn : H' b = none) : FpOk X pins H' b := by
  refine ⟨hn, Nat.ne_of_gt (Nat.lt_of_lt_of_le I.lt hb), I.nofs hb, .inr (Nat.le_trans I.sz hb), fun x c e z => ?_, fun p hp z => ?_⟩
  · obtain ⟨v, q⟩ := I.cell x c e
    exact absurd (Nat.lt_of_lt_of_le q.lt (by rw [z]; exact hb)) (Nat.lt_irrefl _)
  · exact absurd (Nat.lt_of_lt_of_le (Heap.lt_size (I.pin p hp).1) (by rw [z]; exact hb)) (Nat.lt_irrefl _)
structure Turn (P : Program) (w : World) (K : PySem.W.Frag) (tg : Expr) (J : It) (fp : List Addr) (it : Addr) (tn : Nat → Heap → Prop) : Prop where
  mem : it ∈ fp
  obj : ∀ i h, tn i h → ∀ b ∈ fp, ∃ o, h.get? b = some o ∧ ∀ v, o.data ≠ .cell v
  keep : ∀ i h h', tn i h → (∀ b ∈ fp, ∀ o, h.get? b = some o → h'.get? b = some o) → tn i h'
  item : ∀ (X : Cx), X.prog = P → X.w = w → X.K = K → X.calm = true → ∀ (i : Nat) (pins : List (Addr × Obj)) (s : Shared) (σ : St) (H : Hp) (E : Value → Shared → Prop), Inv X pins σ H s → (∀ b ∈ fp, FpOk X pins H b) → tn i s.heap → J.go i H →
    wpAny (model P w) X.A (pyNext (.ref it)) (fun r s1 => ∃ u, r = some u ∧
      wpAny (model P w) X.A (letOwnedTupleGo tg (.ref it) u) (fun _ s2 => ∃ x H', Inv X pins σ H' s2 ∧ RelV x u ∧ J.yld i H x H' ∧ tn (i + 1) s2.heap ∧ ∀ b ∈ fp, H' b = none) E s1) E s
  done : ∀ (X : Cx), X.prog = P → X.w = w → X.K = K → X.calm = true → ∀ (i : Nat) (pins : List (Addr × Obj)) (s : Shared) (σ : St) (H : Hp) (E : Value → Shared → Prop), Inv X pins σ H s → (∀ b ∈ fp, FpOk X pins H b) → tn i s.heap → J.stop i H →
    wpAny (model P w) X.A (pyNext (.ref it)) (fun r s1 => r = none ∧ Inv X pins σ H s1) E s
  self : ∀ (A : Around) (i : Nat) (s : Shared) (Q : Value → Shared → Prop) (E : Value → Shared → Prop), tn i s.heap → Q (.ref it) s → wpAny (model P w) A (pyIter (.ref it)) Q E s
noncomputable abbrev TI := St → Hp → (It → Hp → Prop) → Prop
noncomputable def PIE (X : Cx) (pins : List (Addr × Obj)) (σ : St) (tg : Expr) (R : It → Hp → Prop) (itv : Value) (s2 : Shared) : Prop :=
  ∃ (it : Addr) (fp : List Addr) (tn : Nat → Heap → Prop) (J : It) (H' : Hp), itv = .ref it ∧ Inv X pins σ H' s2 ∧ Turn X.prog X.w X.K tg J fp it tn ∧ tn 0 s2.heap ∧ (∀ b ∈ fp, FpOk X pins H' b) ∧ R J H'
noncomputable def PI (X : Cx) (tg iter : Expr) (wi : TI) : Prop :=
  ∀ (pins : List (Addr × Obj)) (s : Shared) (σ : St) (H : Hp) (R : It → Hp → Prop), Inv X pins σ H s → wi σ H R →
    wpAny (model X.prog X.w) X.A (eval iter X.env) (fun v s1 => wpAny (model X.prog X.w) X.A (pyIter v) (PIE X pins σ tg R) X.xe s1) X.xe s
theorem go_of {M : Model} {A : Around} {E : Value → Shared → Prop} {s : Shared} {tg : Expr} {it : Addr} {u : Value} {o : Obj} {n : String} {vs : Array Value} {Q : Unit → Shared → Prop} (ho : s.heap.get? it = some o) (hc : o.cls = .type n) (hd : o.data = .fields vs)
    (hn : ["enumerate", "zip", "dict_itemiterator", "dict_reverseitemiterator", "odict_iterator", "itertools.zip_longest", "itertools.pairwise"].contains n = false) (hQ : Q () s) : wpAny M A (letOwnedTupleGo tg (.ref it) u) Q E s := by
  unfold letOwnedTupleGo
  cases tg <;> first
    | exact wpAny_pure hQ
    | (cases u <;> first
        | exact wpAny_pure hQ
        | (refine wpAny_bind (wpAny_load ho ?_)
           rw [hc, hd]
           show wpAny M A (if (["enumerate", "zip", "dict_itemiterator", "dict_reverseitemiterator", "odict_iterator", "itertools.zip_longest", "itertools.pairwise"].contains n && vs[0]? == some (rawInt _)) = true then _ else _) Q E s
           rw [if_neg (by intro h; rw [hn, Bool.false_and] at h; cases h)]
           exact wpAny_pure hQ))
noncomputable def Itl (K : PySem.W.Frag) (a : Addr) : It :=
  ⟨fun i H => ∃ xs x, SqL K H a xs ∧ xs[i]? = some x, fun i H x H' => H' = H ∧ ∀ xs, SqL K H a xs → xs[i]? = some x, fun i H => ∃ xs, SqL K H a xs ∧ xs.length ≤ i⟩
noncomputable def Itt (K : PySem.W.Frag) (a : Addr) : It :=
  ⟨fun i H => ∃ xs x, SqT K H a xs ∧ xs[i]? = some x, fun i H x H' => H' = H ∧ ∀ xs, SqT K H a xs → xs[i]? = some x, fun i H => ∃ xs, SqT K H a xs ∧ xs.length ≤ i⟩
noncomputable def Itr (lo : Int) (n : Nat) : It := ⟨fun i _ => i < n, fun i H x H' => H' = H ∧ x = .int (lo + i), fun i _ => n ≤ i⟩
theorem turn_list {P : Program} {w : World} {K : PySem.W.Frag} {tg : Expr} (a it : Addr) : Turn P w K tg (Itl K a) [it] it (fun i h => h.IsListIter it a i) where
  mem := by simp
  obj := fun i h st b hb => by
    have e : b = it := by simpa using hb
    subst e
    obtain ⟨o, e, c, d⟩ := st
    exact ⟨o, e, fun v z => by rw [d] at z; cases z⟩
  keep := fun i h h' st k => st.at fun o e => k it (by simp) o e
  item := by
    intro X hP hw hK hc i pins s σ H E I hf st hg
    subst hP hw hK
    obtain ⟨xs, x, hq, hx⟩ := hg
    obtain ⟨its, rv, p, hz⟩ := I.list hq
    obtain ⟨u, hu, ru⟩ := rv.get hx
    obtain ⟨f0, f1, f2, f3, f4, f5⟩ := hf it (by simp)
    refine wpAny_pyNext_list_item st p.isList (x := u) (by simpa using hu) fun h' st' sb => ?_
    have I1 : Inv X pins σ H { s with heap := h' } := I.turned (t' := s.toks) (fun b o hb e => (sb.2 b hb).trans e) f0 f1 f3 f4 f5
    obtain ⟨o, e, c, d⟩ := id st'
    exact ⟨u, rfl, go_of (s := { s with heap := h' }) e c d (by decide) ⟨x, H, I1, ru, ⟨rfl, fun ys hy => by rw [I.list_inj hy hq]; exact hx⟩, st', fun b hb => (hf b hb).1⟩⟩
  done := by
    intro X hP hw hK hc i pins s σ H E I hf st hg
    subst hP hw hK
    obtain ⟨xs, hq, hx⟩ := hg
    obtain ⟨its, rv, p, hz⟩ := I.list hq
    obtain ⟨f0, f1, f2, f3, f4, f5⟩ := hf it (by simp)
    have hl := rv.length
    exact wpAny_pyNext_list_end (I.ok.hd hc) st p.isList (by simp; (clear hc I hf st hq rv p hz f0 f1 f2 f3 f4 f5; omega)) fun h' eb => ⟨rfl, I.turned (t' := s.toks) (fun b o hb e => eb b o hb e) f0 f1 f3 f4 f5⟩
  self := fun _ _ _ _ _ st h => wpAny_pyIter_listiter st h
theorem turn_tuple {P : Program} {w : World} {K : PySem.W.Frag} {tg : Expr} (a it : Addr) : Turn P w K tg (Itt K a) [it] it (fun i h => h.IsTupleIter it a i) where
  mem := by simp
  obj := fun i h st b hb => by
    have e : b = it := by simpa using hb
    subst e
    obtain ⟨o, e, c, d⟩ := st
    exact ⟨o, e, fun v z => by rw [d] at z; cases z⟩
  keep := fun i h h' st k => st.at fun o e => k it (by simp) o e
  item := by
    intro X hP hw hK hc i pins s σ H E I hf st hg
    subst hP hw hK
    obtain ⟨xs, x, hq, hx⟩ := hg
    obtain ⟨its, rv, p, hz⟩ := I.tuple hq
    obtain ⟨u, hu, ru⟩ := rv.get hx
    obtain ⟨f0, f1, f2, f3, f4, f5⟩ := hf it (by simp)
    refine wpAny_pyNext_tuple_item st (show s.heap.IsTuple a its.toArray from p) (x := u) (by simpa using hu) fun h' st' sb => ?_
    have I1 : Inv X pins σ H { s with heap := h' } := I.turned (t' := s.toks) (fun b o hb e => (sb.2 b hb).trans e) f0 f1 f3 f4 f5
    obtain ⟨o, e, c, d⟩ := id st'
    exact ⟨u, rfl, go_of (s := { s with heap := h' }) e c d (by decide) ⟨x, H, I1, ru, ⟨rfl, fun ys hy => by rw [I.tuple_inj hy hq]; exact hx⟩, st', fun b hb => (hf b hb).1⟩⟩
  done := by
    intro X hP hw hK hc i pins s σ H E I hf st hg
    subst hP hw hK
    obtain ⟨xs, hq, hx⟩ := hg
    obtain ⟨its, rv, p, hz⟩ := I.tuple hq
    obtain ⟨f0, f1, f2, f3, f4, f5⟩ := hf it (by simp)
    have hl := rv.length
    exact wpAny_pyNext_tuple_end (I.ok.hd hc) st (show s.heap.IsTuple a its.toArray from p) (by simp; (clear hc I hf st hq rv p hz f0 f1 f2 f3 f4 f5; omega)) fun h' eb => ⟨rfl, I.turned (t' := s.toks) (fun b o hb e => eb b o hb e) f0 f1 f3 f4 f5⟩
  self := fun _ _ _ _ _ st h => wpAny_pyIter_tupleiter st h
theorem turn_range {P : Program} {w : World} {K : PySem.W.Frag} {tg : Expr} (it : Addr) (lo : Int) (n : Nat) : Turn P w K tg (Itr lo n) [it] it (fun i h => IsRangeIter h it (lo + (i : Nat) * 1) ((n : Int) - (i : Nat)) 1) where
  mem := by simp
  obj := fun i h st b hb => by
    have e : b = it := by simpa using hb
    subst e
    exact ⟨_, st, fun v z => by
      have z' : Data.fields _ = Data.cell v := z
      cases z'⟩
  keep := fun i h h' st k => k it (by simp) _ st
  item := by
    intro X hP hw hK hc i pins s σ H E I hf st hg
    subst hP hw hK
    obtain ⟨f0, f1, f2, f3, f4, f5⟩ := hf it (by simp)
    have W := Walks.range (prog := X.prog) (w := X.w) (I.ok.hd hc) it lo 1 n
    refine W.item i s _ _ hg st fun v h' tk hv st' kk => ?_
    obtain ⟨t, rfl⟩ := hv
    have I1 : Inv X pins σ H { s with heap := h', toks := tk } := I.turned (fun b o hb e => kk b o (by simpa using hb) e) f0 f1 f3 f4 f5
    refine ⟨_, rfl, go_of (s := { s with heap := h', toks := tk }) (n := "range_iterator") st' rfl rfl (by decide) ⟨.int (lo + i), H, I1, ⟨t, ?_⟩, ⟨rfl, rfl⟩, st', fun b hb => (hf b hb).1⟩⟩
    rw [Int.mul_one]
  done := by
    intro X hP hw hK hc i pins s σ H E I hf st hg
    subst hP hw hK
    obtain ⟨f0, f1, f2, f3, f4, f5⟩ := hf it (by simp)
    exact wpAny_pyNext_range_end (I.ok.hd hc) st (by have : n ≤ i := hg; (clear hc I hf st hg f0 f1 f2 f3 f4 f5; omega)) fun h' eb => ⟨rfl, I.turned (t' := s.toks) (fun b o hb e => eb b o hb e) f0 f1 f3 f4 f5⟩
  self := fun _ _ _ _ _ st h => wpAny_pyIter_rangeiter st h
end L2
namespace L2
open PySem PySem.Spec PyProof.Rows
section
variable {X : Cx} {tg : Expr}
theorem range_it {pins : List (Addr × Obj)} {σ : St} {H : Hp} {s : Shared} {R : It → Hp → Prop} {E : Value → Shared → Prop} {lo hi : Int} {t u v : Tok} {tk : Nat} (I : Inv X pins σ H s) (h1 : -(2 ^ 62) ≤ lo) (h2 : lo < 2 ^ 62) (h3 : -(2 ^ 62) ≤ hi) (h4 : hi < 2 ^ 62)
    (q : R (Itr lo (hi - lo).toNat) H) : wpAny (model X.prog X.w) X.A (pyIter (.ref s.heap.objs.size)) (PIE X pins σ tg R) E { s with heap := s.heap.push { cls := .type "range", data := .fields #[.int lo t, .int hi u, .int 1 v] }, toks := tk } := by
  refine wpAny_pyIter_range (IsRange.new ..) (small_one h1 h2 h3 h4) ?_
  have I1 : Inv X pins σ H { s with heap := s.heap.push { cls := .type "range", data := .fields #[.int lo t, .int hi u, .int 1 v] }, toks := tk } := I.kept fun b o e => Heap.get?_push_of_some _ e
  refine ⟨(s.heap.push { cls := .type "range", data := .fields #[.int lo t, .int hi u, .int 1 v] }).objs.size, [(s.heap.push { cls := .type "range", data := .fields #[.int lo t, .int hi u, .int 1 v] }).objs.size], _, _, H, rfl,
    I1.kept (t' := tk) fun b o e => Heap.get?_push_of_some _ e, turn_range _ lo (hi - lo).toNat, ?_, fun b hb => ?_, q⟩
  · have e1 : lo + ((0 : Nat) : Int) * 1 = lo := by simp
    have e2 : (((hi - lo).toNat : Nat) : Int) - ((0 : Nat) : Int) = Builtin.Range.rangeSize lo hi 1 := by rw [rangeSize_one]; split <;> (clear I h1 h2 h3 h4 q I1 e1; omega)
    show IsRangeIter _ _ (lo + ((0 : Nat) : Int) * 1) ((((hi - lo).toNat : Nat) : Int) - ((0 : Nat) : Int)) 1
    rw [e1, e2]
    exact Heap.get?_push_size _ rfl
  · have e : b = (s.heap.push { cls := .type "range", data := .fields #[.int lo t, .int hi u, .int 1 v] }).objs.size := by simpa using hb
    subst e
    exact I1.fpOk (Nat.le_refl _) (I1.hok.fresh (Nat.le_refl _))
noncomputable def iRng1 (ta : TA) : TI := fun σ H R => ta σ H fun vs H1 => ∃ j : Int, vs = [.int j] ∧ -(2 ^ 62) ≤ j ∧ j < 2 ^ 62 ∧ R (Itr 0 j.toNat) H1
theorem pi_range1 {a : Expr} {ta : TA} {p pos : Pos} (hg : Gl X "range") (hm : X.mg "range" = none) (ha : PA X [a] ta) (hs : starEach [a] X.env = [(false, eval a X.env)] := by rfl) : PI X tg (.Call (.Name "range" p) [a] [] pos) (iRng1 ta) := by
  intro pins s σ H R I h
  refine Call_ (ld_blt I hg hm boot_range (PyProof.Rows.callWith_type1 (thn (ha pos pins s σ H _ I h) fun us s1 ⟨vs, H1, I1, r1, q1⟩ => ?_) hs rfl))
  obtain ⟨j, e, q1, q2, q⟩ := q1
  subst e
  cases r1 with
  | cons r rr =>
    cases rr
    obtain ⟨t, rfl⟩ := r
    exact call_range_1 (range_it I1 (by (clear hg hm ha hs I h I1 q1 q2 q; omega)) (by (clear hg hm ha hs I h I1 q1 q2 q; omega)) q1 q2 (by simpa using q))
noncomputable def tFor (wi : TI) (g : TG) (tb : TS) : TS := fun D σ H => wi σ H fun J H1 => ∃ W : Nat → Nat → St → Hp → Prop, (∃ m, W 0 m σ H1) ∧ ∀ i m σ H, W i m σ H →
  (J.stop i H ∧ D.nx σ H) ∨ (J.go i H ∧ ∃ N : St → Hp → Prop, (∀ σ' H', N σ' H' → ∃ m', m' < m ∧ W (i + 1) m' σ' H') ∧ ∀ x H', J.yld i H x H' → g x σ H' fun σ2 H2 => tb { D with nx := N, ct := N, bk := D.nx } σ2 H2)
noncomputable def pinsAt (fp : List Addr) (h : Heap) : List (Addr × Obj) := fp.filterMap fun b => (h.get? b).map fun o => (b, o)
theorem mem_pinsAt {fp : List Addr} {h : Heap} {b : Addr} {o : Obj} (hb : b ∈ fp) (e : h.get? b = some o) : (b, o) ∈ pinsAt fp h := List.mem_filterMap.mpr ⟨b, hb, by rw [e]; rfl⟩
theorem of_pinsAt {fp : List Addr} {h : Heap} {p : Addr × Obj} (hp : p ∈ pinsAt fp h) : p.1 ∈ fp ∧ h.get? p.1 = some p.2 := by
  obtain ⟨b, hb, e⟩ := List.mem_filterMap.mp hp
  cases q : h.get? b with
  | none => rw [q] at e; cases e
  | some o =>
    rw [q] at e
    have e' : (b, o) = p := Option.some.inj e
    subst e'
    exact ⟨hb, q⟩
theorem Inv.pinned {pins : List (Addr × Obj)} {σ : St} {H : Hp} {s : Shared} {fp : List Addr} (I : Inv X pins σ H s) (hf : ∀ b ∈ fp, FpOk X pins H b) (ho : ∀ b ∈ fp, ∃ o, s.heap.get? b = some o ∧ ∀ v, o.data ≠ .cell v) : Inv X (pins ++ pinsAt fp s.heap) σ H s :=
  I.pins_of fun p hp => (List.mem_append.mp hp).elim (fun z => I.pin p (List.mem_append_right _ z)) fun z => by
    obtain ⟨hb, e⟩ := of_pinsAt z
    obtain ⟨f0, f1, f2, _⟩ := hf p.1 hb
    obtain ⟨o, e', d⟩ := ho p.1 hb
    rw [e] at e'; cases e'
    exact ⟨e, f0, f1, f2, d⟩
theorem Inv.unpinned {pins pl : List (Addr × Obj)} {σ : St} {H : Hp} {s : Shared} (I : Inv X (pins ++ pl) σ H s) : Inv X pins σ H s := I.pins_of fun p hp => I.pin p (List.mem_append_right _ (List.mem_append_left _ hp))
theorem ps_for {iter : Expr} {body : List Stmt} {wi : TI} {g : TG} {tb : TS} {pos : Pos} (hp : PassesOwn (model X.prog X.w) X.A X.env X.xe) (hc : X.calm = true) (hi : PI X tg iter wi) (hg : PG X tg g) (hb : PSs X body tb)
    (hs : ∀ x, foldedSetIterable iter X.env x = pure x := by intro _; rfl) : PS X (.For tg iter body [] pos) (tFor wi g tb) := by
  intro pins s σ H D I h
  refine wpAny_For (thn (hi pins s σ H _ I h) fun v s1 h1 => thn h1 fun itv s2 h2 => ?_) hs
  obtain ⟨it, fp, tn, J, H2, e, I2, T, st2, f2, W, ⟨m0, w0⟩, turn⟩ := h2
  subst e
  -- what stays true of the iterator's objects through the loop
  have stat : ∀ {H' : Hp}, (∀ b ∈ fp, H' b = none) → ∀ b ∈ fp, FpOk X pins H' b := fun hn b hb => ⟨hn b hb, (f2 b hb).2⟩
  refine codeAny_forLoop_any (fun n s' => ∃ i σ' H', Inv X pins σ' H' s' ∧ tn i s'.heap ∧ (∀ b ∈ fp, H' b = none) ∧ W i n σ' H') ?_ m0 ⟨0, σ, H2, I2, st2, fun b hb => (f2 b hb).1, w0⟩
  rintro n s3 ⟨i, σ3, H3, I3, st3, fr3, w3⟩
  rcases turn i n σ3 H3 w3 with ⟨stop, qn⟩ | ⟨go, N, hN, step⟩
  · refine wpAny_passesOwn hp (thn (T.done X rfl rfl rfl hc i pins s3 σ3 H3 X.xe I3 (stat fr3) st3 stop) fun r s4 ⟨hr, I4⟩ => ?_)
    subst hr
    exact wpAny_execs_nil ⟨σ3, H3, I4, qn⟩
  · refine wpAny_passesOwn hp (thn (T.item X rfl rfl rfl hc i pins s3 σ3 H3 X.xe I3 (stat fr3) st3 go) fun r s4 ⟨u, hr, h4⟩ => ?_)
    subst hr
    refine wpAny_passesOwn hp (thn h4 fun _ s5 ⟨x, H5, I5, r5, y5, st5, fr5⟩ => ?_)
    have I5' := I5.pinned (stat fr5) (T.obj _ _ st5)
    refine wpAny_passesOwn hp (thn (hg _ s5 σ3 H5 x u _ I5' r5 (step x H5 y5)) fun _ s6 ⟨σ6, H6, I6, q6⟩ => ?_)
    refine wpAny_passesOwn hp (thn (hb _ s6 σ6 H6 _ I6 q6) fun f s7 q7 => ?_)
    have again : ∀ {σ7 : St} {H7 : Hp}, Inv X (pins ++ pinsAt fp s5.heap) σ7 H7 s7 → N σ7 H7 → ∃ m, m < n ∧ ∃ i σ' H', Inv X pins σ' H' s7 ∧ tn i s7.heap ∧ (∀ b ∈ fp, H' b = none) ∧ W i m σ' H' := fun {σ7 H7} I7 n7 => by
      obtain ⟨m', hm, w7⟩ := hN σ7 H7 n7
      refine ⟨m', hm, i + 1, σ7, H7, I7.unpinned, T.keep _ _ _ st5 fun b hb o e => (I7.pin (b, o) (List.mem_append_right _ (List.mem_append_right _ (mem_pinsAt hb e)))).1, fun b hb => ?_, w7⟩
      obtain ⟨o, e, d⟩ := T.obj _ _ st5 b hb
      exact (I7.pin (b, o) (List.mem_append_right _ (List.mem_append_right _ (mem_pinsAt hb e)))).2.1
    cases f with
    | next => obtain ⟨σ7, H7, I7, n7⟩ := q7; exact again I7 n7
    | cont => obtain ⟨σ7, H7, I7, n7⟩ := q7; exact again I7 n7
    | brk => obtain ⟨σ7, H7, I7, q7⟩ := q7; exact ⟨σ7, H7, I7.unpinned, q7⟩
    | ret v => obtain ⟨x7, σ7, H7, I7, r7, q7⟩ := q7; exact ⟨x7, σ7, H7, I7.unpinned, r7, q7⟩
end
end L2
namespace L2
open PySem PySem.Spec PyProof.Rows
noncomputable abbrev R2 := V → V → Hp → VK → Prop
noncomputable def OpR (X : Cx) (f : Value → Value → Sem Value) (r : R2) : Prop :=
  ∀ (pins : List (Addr × Obj)) (s : Shared) (σ : St) (H : Hp) (x y : V) (v u : Value) (Q : VK), Inv X pins σ H s → RelV x v → RelV y u → r x y H Q →
    wpAny (model X.prog X.w) X.A (f v u) (EP X pins σ Q) X.xe s
noncomputable def UnR (X : Cx) (f : Value → Sem Value) (r : V → Hp → VK → Prop) : Prop :=
  ∀ (pins : List (Addr × Obj)) (s : Shared) (σ : St) (H : Hp) (x : V) (v : Value) (Q : VK), Inv X pins σ H s → RelV x v → r x H Q →
    wpAny (model X.prog X.w) X.A (f v) (EP X pins σ Q) X.xe s
noncomputable def CallR (X : Cx) (f : Value) (r : List V → Hp → VK → Prop) : Prop :=
  ∀ (pins : List (Addr × Obj)) (s : Shared) (σ : St) (H : Hp) (xs : List V) (us : List Value) (Q : VK), Inv X pins σ H s → Vals xs us → r xs H Q →
    wpAny (model X.prog X.w) X.A (call f us) (EP X pins σ Q) X.xe s
noncomputable def tOp (r : R2) (ta tb : TE) : TE := fun σ H Q => ta σ H fun x H1 => tb σ H1 fun y H2 => r x y H2 Q
noncomputable def tUn (r : V → Hp → VK → Prop) (ta : TE) : TE := fun σ H Q => ta σ H fun x H1 => r x H1 Q
noncomputable def rI (C : Int → Int → Prop) (g : Int → Int → V) : R2 := fun x y H Q => ∃ i j, x = .int i ∧ y = .int j ∧ C i j ∧ Q (g i j) H
noncomputable def rI0 (g : Int → Int → V) : R2 := fun x y H Q => ∃ i j, x = .int i ∧ y = .int j ∧ Q (g i j) H
noncomputable def rU (g : Int → V) : V → Hp → VK → Prop := fun x H Q => ∃ i, x = .int i ∧ Q (g i) H
section
variable {X : Cx} {a b c : Expr} {ta tb tc : TE} {pos : Pos}
theorem binT (ha : PE X a ta) (hb : PE X b tb) {pins : List (Addr × Obj)} {s : Shared} {σ : St} {H : Hp} {R : V → V → Hp → Prop} (I : Inv X pins σ H s)
    (h : ta σ H fun x H1 => tb σ H1 fun y H2 => R x y H2) {Q : Value → Shared → Prop} {f : Value → Value → Sem Value}
    (hf : ∀ v u s2 x y H2, Inv X pins σ H2 s2 → RelV x v → RelV y u → R x y H2 → wpAny (model X.prog X.w) X.A (f v u) Q X.xe s2) :
    wpAny (model X.prog X.w) X.A (eval a X.env) (fun v s₁ => wpAny (model X.prog X.w) X.A (eval b X.env) (fun u s₂ => wpAny (model X.prog X.w) X.A (f v u) Q X.xe s₂) X.xe s₁) X.xe s := by
  refine thn (ha pins s σ H _ I h) fun v s1 ⟨x, H1, I1, r1, q1⟩ => ?_
  refine thn (hb pins s1 σ H1 _ I1 q1) fun u s2 ⟨y, H2, I2, r2, q2⟩ => ?_
  exact hf v u s2 x y H2 I2 r1 r2 q2
theorem pe_op {op : Operator} {r : R2} (ho : OpR X (binaryOp op) r) (ha : PE X a ta) (hb : PE X b tb) : PE X (.BinOp a op b pos) (tOp r ta tb) := by
  intro pins s σ H Q I h
  exact wpAny_BinOp (binT ha hb I h fun v u s2 x y H2 I2 rx ry q => ho pins s2 σ H2 x y v u Q I2 rx ry q)
theorem pe_un {op : UnaryOp} {r : V → Hp → VK → Prop} (ho : UnR X (unaryOp op) r) (ha : PE X a ta) : PE X (.UnaryOp op a pos) (tUn r ta) := by
  intro pins s σ H Q I h
  exact UnaryOp_ (thn (ha pins s σ H _ I h) fun v s1 ⟨x, H1, I1, r1, q1⟩ => ho pins s1 σ H1 x v Q I1 r1 q1)
theorem opI {f : Value → Value → Sem Value} {C : Int → Int → Prop} {g : Int → Int → Int}
    (rule : ∀ (i j : Int) (t u : Tok) (s : Shared) (Q : Value → Shared → Prop) (E : Value → Shared → Prop), C i j → Q (.int (g i j) s.toks) { s with toks := s.toks + 1 } → wpAny (model X.prog X.w) X.A (f (.int i t) (.int j u)) Q E s) :
    OpR X f (rI C fun i j => .int (g i j)) := by
  intro pins s σ H x y v u Q I rx ry h
  obtain ⟨i, j, rfl, rfl, hc, q⟩ := h
  obtain ⟨t, rfl⟩ := rx
  obtain ⟨t', rfl⟩ := ry
  exact rule i j t t' s _ _ hc ⟨.int (g i j), H, I.tok _, ⟨_, rfl⟩, q⟩
theorem opI0 {f : Value → Value → Sem Value} {g : Int → Int → Int}
    (rule : ∀ (i j : Int) (t u : Tok) (s : Shared) (Q : Value → Shared → Prop) (E : Value → Shared → Prop), Q (.int (g i j) s.toks) { s with toks := s.toks + 1 } → wpAny (model X.prog X.w) X.A (f (.int i t) (.int j u)) Q E s) :
    OpR X f (rI0 fun i j => .int (g i j)) := by
  intro pins s σ H x y v u Q I rx ry h
  obtain ⟨i, j, rfl, rfl, q⟩ := h
  obtain ⟨t, rfl⟩ := rx
  obtain ⟨t', rfl⟩ := ry
  exact rule i j t t' s _ _ ⟨.int (g i j), H, I.tok _, ⟨_, rfl⟩, q⟩
theorem opB0 {f : Value → Value → Sem Value} {g : Int → Int → Bool}
    (rule : ∀ (i j : Int) (t u : Tok) (s : Shared) (Q : Value → Shared → Prop) (E : Value → Shared → Prop), Q (.bool (g i j)) s → wpAny (model X.prog X.w) X.A (f (.int i t) (.int j u)) Q E s) :
    OpR X f (rI0 fun i j => .bl (g i j)) := by
  intro pins s σ H x y v u Q I rx ry h
  obtain ⟨i, j, rfl, rfl, q⟩ := h
  obtain ⟨t, rfl⟩ := rx
  obtain ⟨t', rfl⟩ := ry
  exact rule i j t t' s _ _ ⟨.bl (g i j), H, I, rfl, q⟩
noncomputable def CDiv (i j : Int) : Prop := 0 < j ∧ j < 1073741824
noncomputable def CPow (i j : Int) : Prop := 0 ≤ j ∧ j ≤ 1000000 ∧ i.natAbs < 2 ^ 64
noncomputable def CMul (i j : Int) : Prop := (-(2 ^ 64) < i ∧ i < 2 ^ 64) ∨ (-(2 ^ 64) < j ∧ j < 2 ^ 64)
theorem CMul.ok {i j : Int} (h : CMul i j) : IntMulOk i j := by
  rcases h with ⟨h1, h2⟩ | ⟨h1, h2⟩
  · exact .of_left (intBits_le_64 h1 h2)
  · exact .of_right (intBits_le_64 h1 h2)
theorem op_add : OpR X (binaryOp .Add) (rI0 fun i j => .int (i + j)) := opI0 fun _ _ _ _ _ _ _ q => add_int q
theorem op_sub : OpR X (binaryOp .Sub) (rI0 fun i j => .int (i - j)) := opI0 fun _ _ _ _ _ _ _ q => sub_int q
theorem op_mod : OpR X (binaryOp .Mod) (rI (fun _ j => 0 < j) fun i j => .int (i % j)) := opI fun i j _ _ _ _ _ hc q => by
  have h1 : (0 : Int) < j := hc
  exact mod_int' (by (clear q h1; omega)) (by rw [Int.fmod_eq_emod_of_nonneg i (by (clear q h1; omega))]; exact q)
theorem op_pow : OpR X (binaryOp .Pow) (rI CPow fun i j => .int (i ^ j.toNat)) := opI fun _ _ _ _ _ _ _ hc q => pow_int_small hc.1 hc.2.1 hc.2.2 q
theorem unI {f : Value → Sem Value} {g : Int → Int}
    (rule : ∀ (i : Int) (t : Tok) (s : Shared) (Q : Value → Shared → Prop) (E : Value → Shared → Prop), Q (.int (g i) s.toks) { s with toks := s.toks + 1 } → wpAny (model X.prog X.w) X.A (f (.int i t)) Q E s) :
    UnR X f (rU fun i => .int (g i)) := by
  intro pins s σ H x v Q I rx h
  obtain ⟨i, rfl, q⟩ := h
  obtain ⟨t, rfl⟩ := rx
  exact rule i t s _ _ ⟨.int (g i), H, I.tok _, ⟨_, rfl⟩, q⟩
theorem un_neg : UnR X (unaryOp .USub) (rU fun i => .int (-i)) := unI fun _ _ _ _ _ q => neg_int q
end
section
variable {X : Cx} {a b c : Expr} {ta tb tc : TE} {pos : Pos}
theorem op_lt : OpR X (compareOp .Lt) (rI0 fun i j => .bl (decide (i < j))) := opB0 fun _ _ _ _ _ _ _ q => lt_int q
theorem op_gt : OpR X (compareOp .Gt) (rI0 fun i j => .bl (decide (j < i))) := opB0 fun _ _ _ _ _ _ _ q => gt_int q
theorem op_ge : OpR X (compareOp .GtE) (rI0 fun i j => .bl (decide (j ≤ i))) := opB0 fun _ _ _ _ _ _ _ q => ge_int q
theorem nomark (b : Expr) {op : CmpOp} (h : op ≠ .In := by decide) (h2 : op ≠ .NotIn := by decide) : behindInMarks op b = false := by
  have e1 : (op == CmpOp.In) = false := by cases op <;> first | rfl | exact absurd rfl h
  have e2 : (op == CmpOp.NotIn) = false := by cases op <;> first | rfl | exact absurd rfl h2
  cases b <;> simp [behindInMarks, e1, e2]
theorem pe_cmpR {op : CmpOp} {r : R2} (ho : OpR X (compareOp op) r) (ha : PE X a ta) (hb : PE X b tb) (hm : behindInMarks op b = false) : PE X (.Compare a [op] [b] pos) (tOp r ta tb) := by
  intro pins s σ H Q I h
  exact wpAny_Compare1 (binT ha hb I h fun v u s2 x y H2 I2 rx ry q => ho pins s2 σ H2 x y v u Q I2 rx ry q) hm
noncomputable def tTest (t : TE) : TT := fun σ H Q => t σ H fun x H' => ∃ k, x = .bl k ∧ Q k H'
theorem pt_cmpR {op : CmpOp} {r : R2} (ho : OpR X (compareOp op) r) (ha : PE X a ta) (hb : PE X b tb) (hm : behindInMarks op b = false) : PT X (.Compare a [op] [b] pos) (tTest (tOp r ta tb)) := by
  intro pins s σ H Q I h
  refine wpAny_isTrue_Compare1 (thn (ha pins s σ H _ I h) fun v s1 ⟨x, H1, I1, r1, q1⟩ => thn (hb pins s1 σ H1 _ I1 q1) fun u s2 ⟨y, H2, I2, r2, q2⟩ =>
    thn (ho pins s2 σ H2 x y v u _ I2 r1 r2 q2) fun c s3 ⟨z, H3, I3, r3, k, e, q3⟩ => ?_) hm
  subst e
  cases r3
  exact wpAny_truthy_bool ⟨H3, I3, q3⟩
theorem line63 : (sizeLine : Nat) < 2 ^ 63 := by rw [sizeLine_eq]; decide
theorem vals1 {x : V} {us : List Value} (r : Vals [x] us) : ∃ u, us = [u] ∧ RelV x u := by
  cases r with
  | cons r1 r2 => cases r2; exact ⟨_, rfl, r1⟩
theorem vals2 {x y : V} {us : List Value} (r : Vals [x, y] us) : ∃ u w', us = [u, w'] ∧ RelV x u ∧ RelV y w' := by
  cases r with
  | cons r1 r2 =>
    cases r2 with
    | cons r3 r4 => cases r4; exact ⟨_, _, rfl, r1, r3⟩
theorem call_max2 (hc : X.calm = true) : CallR X (.builtin "max") (fun xs H Q => ∃ i j, xs = [.int i, .int j] ∧ Q (.int (if j > i then j else i)) H) := by
  intro pins s σ H xs us Q I r h
  obtain ⟨i, j, rfl, q⟩ := h
  obtain ⟨u, w', rfl, ⟨t, rfl⟩, ⟨t', rfl⟩⟩ := vals2 r
  refine max_two_ints (I.ok.hd hc) fun h' tk k => ⟨_, H, I.kept k, ?_, q⟩
  by_cases hj : j > i
  · rw [if_pos hj, if_pos hj]; exact ⟨_, rfl⟩
  · rw [if_neg hj, if_neg hj]; exact ⟨_, rfl⟩
theorem call_min2 (hc : X.calm = true) : CallR X (.builtin "min") (fun xs H Q => ∃ i j, xs = [.int i, .int j] ∧ Q (.int (if j < i then j else i)) H) := by
  intro pins s σ H xs us Q I r h
  obtain ⟨i, j, rfl, q⟩ := h
  obtain ⟨u, w', rfl, ⟨t, rfl⟩, ⟨t', rfl⟩⟩ := vals2 r
  refine min_two_ints (I.ok.hd hc) fun h' tk k => ⟨_, H, I.kept k, ?_, q⟩
  by_cases hj : j < i
  · rw [if_pos hj, if_pos hj]; exact ⟨_, rfl⟩
  · rw [if_neg hj, if_neg hj]; exact ⟨_, rfl⟩
theorem call_int1 : CallR X (.type "int") (fun xs H Q => (∃ i, xs = [.int i] ∧ Q (.int i) H) ∨ ∃ k, xs = [.bl k] ∧ Q (.int (if k then 1 else 0)) H) := by
  intro pins s σ H xs us Q I r h
  rcases h with ⟨i, rfl, q⟩ | ⟨k, rfl, q⟩
  · obtain ⟨u, rfl, t, rfl⟩ := vals1 r
    exact call_int_int ⟨.int i, H, I, ⟨_, rfl⟩, q⟩
  · obtain ⟨u, rfl, r1⟩ := vals1 r
    cases r1
    exact call_int_bool ⟨.int (if k then 1 else 0), H, I.tok _, ⟨_, rfl⟩, q⟩
end
end L2
namespace L2
open PySem PySem.Spec PyProof.Rows
structure ObjM (h : Heap) (x dx C : Addr) (mA : Str → Option Value) : Prop where
  obj : h.get? x = some (PySem.W.instObj C dx)
  ns : h.Ns1 dx mA
  ne : dx ≠ x
theorem lookIn_ns {h : Heap} {dx : Addr} {mA : Str → Option Value} (n : h.Ns1 dx mA) : ∃ od, h.get? dx = some od ∧ ∀ name, PySem.W.lookIn name od = some (mA name) := by
  obtain ⟨o, es, ep, ho, hd, hk, _, hm⟩ := n
  refine ⟨o, ho, fun name => ?_⟩
  have e := hm name
  unfold nsFind findBy at e
  rw [← Array.find?_toList] at e
  unfold PySem.W.lookIn
  rw [hd]
  dsimp only
  split
  · rename_i y q
    rw [q] at e
    exact congrArg some e
  · rename_i q
    rw [q] at e
    have a : es.toList.any (·.refKey) = false := by
      rw [List.any_eq_false]
      intro y hy
      obtain ⟨z, t, hkey⟩ := hk y (Array.mem_toList_iff.mp hy)
      simp [DictEntry.refKey, hkey]
    have a' : ¬ es.toList.any (·.refKey) = true := by rw [a]; exact Bool.false_ne_true
    rw [if_neg a']
    exact congrArg some e
theorem ObjM.look {h : Heap} {x dx C : Addr} {mA : Str → Option Value} (I : ObjM h x dx C mA) : ∃ od, PySem.W.InstAt h x (PySem.W.instObj C dx) C (some od) ∧ ∀ name, PySem.W.lookIn name od = some (mA name) :=
  let ⟨od, ho, hl⟩ := lookIn_ns I.ns
  ⟨od, ⟨I.obj, rfl, rfl, ho⟩, hl⟩
section
variable {prog : Program} {w : World} {A : Around} {E : Value → Shared → Prop} {s : Shared} {K : PySem.W.Frag} {x dx C f : Addr} {mA : Str → Option Value} {name : Str} {v : Value}
end
section
variable {P : Program} {w : World} {H H' : Hp} {h h' : Heap} {a C dx : Addr} {fs fs' : List (Str × V)}
theorem ins_get (hok : HOk P w H h) (e : H a = some (.ins C dx fs)) : ∃ mA, ObjM h a dx C mA ∧ (∀ f, RelO (fs.lookup f) (mA f)) ∧ PySem.Within mA (fs.map (·.1)) ∧ fs.length ≤ 1000 ∧ H dx = some (.own a) := by
  obtain ⟨d, z, ne, ob, mA, n, r, q⟩ := (show ObjOk P w H h a (.ins C dx fs) from hok a _ e)
  exact ⟨mA, ⟨ob, n, ne⟩, r, q, z, d⟩
end
structure Cls (K : PySem.W.Frag) (C : Addr) : Prop where
  pg : PySem.W.plainGet K C Str.empty = true
  hd : PySem.W.hasDictIn K C = true
  po : PySem.W.plainOver K C = true
  sa : PySem.W.findIn K (.ref C) "__setattr__" = some (some (.builtin "object.__setattr__"))
theorem Cls.get {K : PySem.W.Frag} {C : Addr} (c : Cls K C) (f : Str) : PySem.W.plainGet K C f = true := c.pg
structure Con (K : PySem.W.Frag) (C : Addr) (f : Str) (v : V) (u : Value) : Prop where
  at_ : PySem.W.findIn K (.ref C) f = some (some u)
  rel : RelV v u
  get : PySem.W.specialIn K u "__get__" = some none
  cp : PySem.W.copiedNames.contains f = false
structure Meth (K : PySem.W.Frag) (C : Addr) (m : Str) (f : Addr) : Prop where
  at_ : PySem.W.findIn K (.ref C) m = some (some (.ref f))
  fn : PySem.W.isFn K (.ref f) = true
  kp : PySem.W.keepIn K (.ref f) = true
section
variable {X : Cx} {pins : List (Addr × Obj)} {σ : St} {H : Hp} {s : Shared} {a C dx : Addr} {fs : List (Str × V)} {f : Str} {v : V} {A : Around} {E : Value → Shared → Prop}
end
section
variable {X : Cx} {o e value : Expr} {f : Str} {pos pos' tpos : Pos} {ta tv : TE}
end
section
variable {X : Cx} {pins : List (Addr × Obj)} {σ : St} {H : Hp} {s : Shared} {A : Around} {E : Value → Shared → Prop} {Q : Value → Shared → Prop} {c : Value} {b : Bool}
inductive TyOf (K : PySem.W.Frag) (H : Hp) : V → Value → Prop where
  | non : TyOf K H .non (.type "NoneType")
  | bl (x : Bool) : TyOf K H (.bl x) (.type "bool")
  | int (i : Int) : TyOf K H (.int i) (.type "int")
  | str (x : Str) : TyOf K H (.str x) (.type "str")
  | flt (x : UInt64) : TyOf K H (.flt x) (.type "float")
  | lst {a : Addr} {xs : List V} (e : H a = some (.lst xs)) : TyOf K H (.ref a) (.type "list")
  | frz {a : Addr} {o : Obj} {xs : List V} (e : H a = some (.frz o (.lst xs))) : TyOf K H (.ref a) (.type "list")
  | tup {a : Addr} {xs : List V} (e : H a = some (.tup xs)) : TyOf K H (.ref a) (.type "tuple")
  | dK {a : Addr} {kvs : List (Key × V)} (e : H a = some (.dK kvs)) : TyOf K H (.ref a) (.type "dict")
  | dT {a : Addr} {kvs : List (List Key × V)} (e : H a = some (.dT kvs)) : TyOf K H (.ref a) (.type "dict")
  | ins {a C dx : Addr} {fs : List (Str × V)} (e : H a = some (.ins C dx fs)) (cl : Cls K C) (ha : PySem.W.findIn K (.ref C) "__class__" = some (some (.builtin "object.__class__")))
      (hn : PySem.W.specialIn K (.builtin "object.__class__") "__get__" = some (some (.builtin "getset_descriptor.__get__"))) (htk : PySem.W.takesIn K (.builtin "object.__class__") = some true)
      (hm : PySem.W.mroIn K C (.type "object") = some true) : TyOf K H (.ref a) (.ref C)
theorem isinst_ok {x : V} {u t : Value} (I : Inv X pins σ H s) (rx : RelV x u) (ty : TyOf X.K H x t) (e : PySem.W.kitOne X.K t c = some b) (h : ∀ tk, Q (.bool b) { s with toks := tk }) :
    wpAny (model X.prog X.w) A (call (.builtin "isinstance") [u, c]) Q E s := by
  cases ty with
  | non => cases (show u = Value.none from rx); exact PySem.W.kia_one PySem.W.kitx_none I.kIn True.intro e (fun z => nomatch z) h
  | bl y => cases (show u = Value.bool y from rx); exact PySem.W.kia_one PySem.W.kitx_bool I.kIn True.intro e (fun z => nomatch z) h
  | int i => obtain ⟨t, q⟩ := (show ∃ t, u = Value.int i t from rx); cases q; exact PySem.W.kia_one PySem.W.kitx_int I.kIn True.intro e (fun z => nomatch z) h
  | str y => obtain ⟨t, q⟩ := (show ∃ t, u = Value.str y t from rx); cases q; exact PySem.W.kia_one PySem.W.kitx_str I.kIn True.intro e (fun z => nomatch z) h
  | flt y => obtain ⟨t, q⟩ := (show ∃ t, u = Value.float y t from rx); cases q; exact PySem.W.kia_one PySem.W.kitx_float I.kIn True.intro e (fun z => nomatch z) h
  | @lst a xs ea =>
    cases (show u = Value.ref a from rx)
    obtain ⟨_, _, n, _, h1⟩ := (show ObjOk X.prog X.w H s.heap a (.lst xs) from I.hok a _ ea)
    exact PySem.W.kia_one PySem.W.kitx_list I.kIn ⟨_, h1, rfl⟩ e (fun z => nomatch z) h
  | @frz a ob xs ea =>
    cases (show u = Value.ref a from rx)
    obtain ⟨_, _, _, n, _, h1⟩ := (show ObjOk X.prog X.w H s.heap a (.frz ob (.lst xs)) from I.hok a _ ea)
    exact PySem.W.kia_one PySem.W.kitx_list I.kIn ⟨_, h1, rfl⟩ e (fun z => nomatch z) h
  | @tup a xs ea =>
    cases (show u = Value.ref a from rx)
    obtain ⟨_, _, _, p⟩ := (show ObjOk X.prog X.w H s.heap a (.tup xs) from I.hok a _ ea)
    obtain ⟨o, h1, h2, _⟩ := p
    exact PySem.W.kia_one PySem.W.kitx_tuple I.kIn ⟨o, h1, h2⟩ e (fun z => nomatch z) h
  | @dK a kvs ea =>
    cases (show u = Value.ref a from rx)
    obtain ⟨_, _, vs, _, p⟩ := (show ObjOk X.prog X.w H s.heap a (.dK kvs) from I.hok a _ ea)
    obtain ⟨o, es, ep, h1, h2, _⟩ := p
    exact PySem.W.kia_one PySem.W.kitx_dict I.kIn ⟨o, h1, h2.1⟩ e (fun z => nomatch z) h
  | @dT a kvs ea =>
    cases (show u = Value.ref a from rx)
    obtain ⟨_, _, xs, _, o, es, ep, h1, h2, _⟩ := (show ObjOk X.prog X.w H s.heap a (.dT kvs) from I.hok a _ ea)
    exact PySem.W.kia_one PySem.W.kitx_dict I.kIn ⟨o, h1, h2.1⟩ e (fun z => nomatch z) h
  | @ins a C dx fs ea cl ha hn htk hm =>
    cases (show u = Value.ref a from rx)
    obtain ⟨mA, O, _⟩ := ins_get I.hok ea
    obtain ⟨od, J, _⟩ := O.look
    exact PySem.W.kia_one (PySem.W.kitx_own (cl.get _) cl.hd ha hn htk hm) I.kIn J e (fun z => nomatch z) h
end
end L2
namespace L2
open PySem PySem.Spec PyProof.Rows
structure Room (k : Nat) (A : Around) : Prop where
  hd : A.handled = none
  dp : A.depth + 3 * k + 5 < recursionLimit
  un : A.units + 16 * k + 200 < cLine
theorem Room.mono {j k : Nat} {A : Around} (r : Room k A) (h : j ≤ k) : Room j A := ⟨r.hd, by have := r.dp; (clear r; omega), by have := r.un; (clear r; omega)⟩
theorem Room.deeper {k : Nat} {A : Around} (r : Room (k + 1) A) (env : Env) : Room k (A.deeper env) :=
  ⟨r.hd, by have := r.dp; show A.depth + 1 + 3 * k + 5 < _; (clear r; omega), by have := r.un; show A.units + 3 + 16 * k + 200 < _; (clear r; omega)⟩
theorem Room.depth {k : Nat} {A : Around} (r : Room k A) : A.depth < recursionLimit := by have := r.dp; (clear r; omega)
noncomputable def tNil : TA := fun _ H Q => Q [] H
noncomputable def tCons (ta : TE) (tr : TA) : TA := fun σ H Q => ta σ H fun x H1 => tr σ H1 fun xs H2 => Q (x :: xs) H2
section
variable {X : Cx} {e : Expr} {es : List Expr} {te : TE} {t : TA} {pos : Pos}
theorem pa_nil : PA X [] tNil := fun _ _ _ _ H Q I h => Calls.spliced_nil ⟨[], H, I, .nil, h⟩
theorem pa_cons (ha : PE X e te) (hr : PA X es t) (hs : starEach (e :: es) X.env = (false, eval e X.env) :: starEach es X.env := by rfl) : PA X (e :: es) (tCons te t) := by
  intro pos pins s σ H Q I h
  rw [hs]
  show wpAny _ _ (spliced ((false, eval e X.env) :: backTo pos (starEach es X.env))) _ _ s
  refine Calls.spliced_cons (thn (ha pins s σ H _ I h) fun u s1 ⟨x, H1, I1, r1, q1⟩ => ?_)
  exact thn (hr pos pins s1 σ H1 _ I1 q1) fun us s2 ⟨xs, H2, I2, r2, q2⟩ => ⟨x :: xs, H2, I2, .cons r1 r2, q2⟩
noncomputable def tTup (t : TA) : TE := fun σ H Q => t σ H fun xs H1 => xs.length ≤ sizeLine ∧ ∀ p, H1 p = none → Q (.ref p) (upd H1 p (.tup xs))
noncomputable def tLst (t : TA) : TE := fun σ H Q => t σ H fun xs H1 => xs.length ≤ sizeLine ∧ ∀ p, H1 p = none → Q (.ref p) (upd H1 p (.lst xs))
theorem pe_tup {x1} (h : PA X es t) : PE X (.Tuple es x1 pos) (tTup t) := by
  intro pins s σ H Q I hq
  refine wpAny_Tuple_spliced (thn (h pos pins s σ H _ I hq) fun us s1 ⟨xs, H1, I1, r, z, q⟩ => ⟨by rw [← r.length]; exact z, ?_⟩)
  have hf : H1 s1.heap.objs.size = none := I1.hok.fresh (Nat.le_refl _)
  refine ⟨.ref s1.heap.objs.size, upd H1 s1.heap.objs.size (.tup xs), I1.laid (t' := s1.toks) (fun b u e => Heap.get?_push_of_some _ e) (Nat.le_refl _) ?_, rfl, q _ hf⟩
  exact ⟨z, us, r, ⟨_, Heap.get?_push_size _ rfl, rfl, _, rfl⟩⟩
theorem pe_lst (h : PA X es t) : PE X (.List es pos) (tLst t) := by
  intro pins s σ H Q I hq
  refine wpAny_List_spliced (thn (h pos pins s σ H _ I hq) fun us s1 ⟨xs, H1, I1, r, z, q⟩ => ⟨by rw [← r.length]; exact z, ?_⟩)
  have hf : H1 s1.heap.objs.size = none := I1.hok.fresh (Nat.le_refl _)
  refine ⟨.ref s1.heap.objs.size, upd H1 s1.heap.objs.size (.lst xs), I1.laid (t' := s1.toks) (fun b u e => Heap.get?_push_of_some _ e) (Nat.le_refl _) ?_, rfl, q _ hf⟩
  exact ⟨z, us, 0, r, Heap.get?_push_size _ rfl⟩
end
noncomputable abbrev Sp := List V → Hp → VK → XK → Prop
noncomputable abbrev CXT := List Env → Hp → Shared → XK → Value → Shared → Prop
structure Env0 (P : Program) (w : World) (K : PySem.W.Frag) (mg : Str → Option Value) (base : Heap) (A : Around) (outer : List Env) (s : Shared) (H : Hp) : Prop where
  frames : A.frames = some outer
  mod : Mod K mg base
  bs : ∀ b o, base.get? b = some o → s.heap.get? b = some o ∧ H b = none
  bsz : base.objs.size ≤ s.heap.objs.size
  funs : s.heap.FunFrames base outer
  frf : ∀ b ∈ frs outer, H b = none
  hok : HOk P w H s.heap
  bare : AllBare s.gens
noncomputable def CE (outer : List Env) (P : Program) (w : World) (H : Hp) (s : Shared) (Q : VK) (u : Value) (s' : Shared) : Prop :=
  ∃ v H', s'.os = s.os ∧ AllBare s'.gens ∧ Un (frs outer) [] H H' s.heap s'.heap ∧ HOk P w H' s'.heap ∧ RelV v u ∧ Q v H'
noncomputable def CR (CX : CXT) (outer : List Env) (P : Program) (w : World) (H : Hp) (s : Shared) (Q : VK) (E : XK) (r : Result) (s' : Shared) : Prop :=
  match r with
  | .ok (.ret u) => CE outer P w H s Q u s'
  | .ok _ => False
  | .error e => CX outer H s E e s'
structure FnOk (P : Program) (w : World) (K : PySem.W.Frag) (mg : Str → Option Value) (base : Heap) (CX : CXT) (k : Nat) (f : Addr) (fd : FuncData) (ps : List Str) (sp : Sp) : Prop where
  len : ∀ vs H Q E, sp vs H Q E → vs.length = ps.length
  run : ∀ (A : Around) (outer : List Env) (s : Shared) (H : Hp) (args : Args) (us : List Value) (vs : List V) (Q : VK) (E : XK), Room k A → Env0 P w K mg base A outer s H → BindsTo s fd args (ps.zip us) → Vals vs us → sp vs H Q E →
    codeAny (model P w) A (.call (.ref f) args) (CR CX outer P w H s Q E) s
section
variable {X : Cx} {pins : List (Addr × Obj)} {σ : St} {H : Hp} {s s' : Shared}
theorem Inv.env0 (I : Inv X pins σ H s) : Env0 X.prog X.w X.K X.mg X.base X.A X.stack s H :=
  ⟨I.ok.frames, I.ok.mod, I.bs, Nat.le_trans I.ok.bsz I.sz, I.stack, I.stkFree, I.hok, I.bare⟩
theorem Inv.after {Q : VK} {u : Value} (I : Inv X pins σ H s) (h : CE X.stack X.prog X.w H s Q u s') : EP X pins σ Q u s' := by
  obtain ⟨v, H', os, bare, un, hok, r, q⟩ := h
  obtain ⟨hh, g, d, t, os'⟩ := s'
  obtain rfl : os' = s.os := os
  exact ⟨v, H', I.call (h' := hh) (g' := g) (d' := d) (t' := t) (ch := []) un hok bare (fun b z => absurd z (by simp)), r, q⟩
end
noncomputable def tCall (sp : Sp) (dvs : List V) (E : XK) (t : TA) : TE := fun σ H Q => t σ H fun vs H1 => sp (vs ++ dvs) H1 Q E
noncomputable def Binds (K : PySem.W.Frag) (fd : FuncData) (ps : List Str) (ds : List Value) : Prop :=
  ∀ (s : Shared) (us : List Value), K.In s.heap → (us ++ ds).length = ps.length → BindsTo s fd ⟨us, []⟩ (ps.zip (us ++ ds))
theorem Binds.all {K : PySem.W.Frag} {fd : FuncData} {ps : List Str} (h : ∀ us : List Value, us.length = ps.length → bindArgs fd ⟨us, []⟩ = pure (ps.zip us)) : Binds K fd ps [] := fun s us _ hl => by
  rw [List.append_nil] at hl ⊢
  exact .of_eq (h us hl)
noncomputable def Passes (CX : CXT) (X : Cx) (E : XK) : Prop := ∀ (pins : List (Addr × Obj)) (σ : St) (H : Hp) (s : Shared) (e : Value) (s' : Shared), Inv X pins σ H s → CX X.stack H s E e s' → X.xe e s'
section
variable {X : Cx} {CX : CXT} {k : Nat} {f C : Addr} {fd : FuncData} {ps : List Str} {sp : Sp} {dvs : List V} {ds : List Value} {E : XK} {x m : Str} {p pos apos : Pos} {e o : Expr} {es : List Expr} {ta : TE} {t : TA}
theorem run_fn {pins : List (Addr × Obj)} {σ : St} {H : Hp} {s : Shared} {Q : VK} {us : List Value} {vs : List V} (F : FnOk X.prog X.w X.K X.mg X.base CX k f fd ps sp) (hr : Room k X.A) (hb : Binds X.K fd ps ds) (hd : Vals dvs ds) (hx : Passes CX X E)
    (I : Inv X pins σ H s) (r : Vals vs us) (h : sp (vs ++ dvs) H Q E) : wpAny (model X.prog X.w) X.A (call (.ref f) us) (EP X pins σ Q) X.xe s := by
  have r2 : Vals (vs ++ dvs) (us ++ ds) := r.append hd
  have hl : (us ++ ds).length = ps.length := by rw [← r2.length]; exact F.len _ _ _ _ h
  refine wpAny_call (codeAny_mono (F.run X.A X.stack s H ⟨us, []⟩ (us ++ ds) (vs ++ dvs) Q E hr I.env0 (hb s us I.kIn hl) r2 h) fun r s' hq => ?_)
  cases r with
  | error e => exact hx pins σ H s e s' I hq
  | ok fl =>
    cases fl with
    | ret u => exact I.after hq
    | next => exact False.elim hq
    | brk => exact False.elim hq
    | cont => exact False.elim hq
theorem pe_call (F : FnOk X.prog X.w X.K X.mg X.base CX k f fd ps sp) (hr : Room k X.A) (hg : Gl X x) (hm : X.mg x = some (.ref f)) (hk : PySem.W.keepIn X.K (.ref f) = true) (hb : Binds X.K fd ps ds) (hd : Vals dvs ds) (hx : Passes CX X E)
    (ha : PA X (e :: es) t) (hdb : (x == ("__debug__" : Str)) = false := by decide) (he : starEach (e :: es) X.env = (false, eval e X.env) :: starEach es X.env := by rfl) (hpl : (backTo pos (starEach es X.env)).any (·.1) = false := by rfl) :
    PE X (.Call (.Name x p) (e :: es) [] pos) (tCall sp dvs E t) := by
  intro pins s σ H Q I h
  refine wpAny_Call_Name_kw (ld_glob I hg hm ?_ hdb)
  refine PySem.W.callWith_K (h₀ := X.base) I.ok.mod.kin hk (thn (ha pos pins s σ H _ I h) fun us s1 ⟨vs, H1, I1, r, q⟩ => ⟨I1.kIn, ?_⟩) he hpl
  exact run_fn F hr hb hd hx I1 r q
structure Mk (K : PySem.W.Frag) (C f : Addr) : Prop where
  makes : PySem.W.makesIn K C = true
  init : PySem.W.findIn K (.ref C) "__init__" = some (some (.ref f))
  fn : PySem.W.isFn K (.ref f) = true
  kp : PySem.W.keepIn K (.ref C) = true
end
section
variable {X : Cx} {CX : CXT} {k : Nat} {f C : Addr} {fd : FuncData} {ps ks : List Str} {sp : Sp} {E : XK} {x m : Str} {p pos apos kpos : Pos} {e o : Expr} {es : List Expr} {kws : List Keyword} {te ta : TE} {t tk : TA} {nm : Option Str}
structure KBinds (K : PySem.W.Frag) (fd : FuncData) (ps ks : List Str) (g : List Value → List Value → List Value) (gV : List V → List V → List V) : Prop where
  to : ∀ (s : Shared) (us ws : List Value), K.In s.heap → (g us ws).length = ps.length → BindsTo s fd ⟨us, ks.zip ws⟩ (ps.zip (g us ws))
  rel : ∀ {vs : List V} {us : List Value} {zs : List V} {ws : List Value}, Vals vs us → Vals zs ws → Vals (gV vs zs) (g us ws)
variable {g : List Value → List Value → List Value} {gV : List V → List V → List V}
end
structure FnScope (N P : List Str) (sc : Scope) : Prop where
  kind : sc.kind = .function
  co : sc.isCoroutine = false
  gen : sc.isGenerator = false
  nd : N.Nodup
  pre : N.take P.length = P
  par : ∀ x ∈ P, sc.names.lookup x = some .local ∨ sc.names.lookup x = some .cell
  nofree : ∀ y ∈ sc.names, y.2 ≠ .free
theorem bindL_out {kindOf : Str → Option NameKind} {x : Str} : ∀ {binds : List (Str × Value)} {m : Str → Option Value}, (∀ v, (x, v) ∉ binds) → bindL kindOf binds m x = m x
  | [], _, _ => rfl
  | (n, v) :: r, m, h => by
    unfold bindL
    rw [bindL_out fun w hw => h w (List.mem_cons_of_mem _ hw)]
    split
    · have : x ≠ n := by rintro rfl; exact h v List.mem_cons_self
      simp [this]
    · rfl
theorem bindC_out {kindOf : Str → Option NameKind} {x : Str} : ∀ {binds : List (Str × Value)} {m : Str → Option Value}, (∀ v, (x, v) ∉ binds) → bindC kindOf binds m x = m x
  | [], _, _ => rfl
  | (n, v) :: r, m, h => by
    unfold bindC
    rw [bindC_out fun w hw => h w (List.mem_cons_of_mem _ hw)]
    split
    · rfl
    · have : x ≠ n := by rintro rfl; exact h v List.mem_cons_self
      simp [this]
theorem bindL_get {kindOf : Str → Option NameKind} {x : Str} {v : Value} : ∀ {P : List Str} {vs : List Value} {i : Nat} {m : Str → Option Value}, P.Nodup → P[i]? = some x → vs[i]? = some v → kindOf x = some .local →
    bindL kindOf (P.zip vs) m x = some v
  | [], _, _, _, _, h, _, _ => by simp at h
  | _ :: _, [], _, _, _, _, h, _ => by simp at h
  | p :: P, w :: vs, 0, m, nd, h1, h2, hk => by
    simp at h1 h2; subst h1; subst h2
    show bindL kindOf ((p, w) :: P.zip vs) m p = _
    unfold bindL
    rw [bindL_out fun v hv => (List.nodup_cons.mp nd).1 (List.of_mem_zip hv).1, if_pos hk]
    simp
  | p :: P, w :: vs, i + 1, m, nd, h1, h2, hk => by
    show bindL kindOf ((p, w) :: P.zip vs) m x = _
    unfold bindL
    exact bindL_get (i := i) (List.nodup_cons.mp nd).2 (by simpa using h1) (by simpa using h2) hk
theorem bindC_get {kindOf : Str → Option NameKind} {x : Str} {v : Value} : ∀ {P : List Str} {vs : List Value} {i : Nat} {m : Str → Option Value}, P.Nodup → P[i]? = some x → vs[i]? = some v → kindOf x ≠ some .local →
    bindC kindOf (P.zip vs) m x = some v
  | [], _, _, _, _, h, _, _ => by simp at h
  | _ :: _, [], _, _, _, _, h, _ => by simp at h
  | p :: P, w :: vs, 0, m, nd, h1, h2, hk => by
    simp at h1 h2; subst h1; subst h2
    show bindC kindOf ((p, w) :: P.zip vs) m p = _
    unfold bindC
    rw [bindC_out fun v hv => (List.nodup_cons.mp nd).1 (List.of_mem_zip hv).1, if_neg hk]
    simp
  | p :: P, w :: vs, i + 1, m, nd, h1, h2, hk => by
    show bindC kindOf ((p, w) :: P.zip vs) m x = _
    unfold bindC
    exact bindC_get (i := i) (List.nodup_cons.mp nd).2 (by simpa using h1) (by simpa using h2) hk
noncomputable def start (N : List Str) (vs : List V) : St := vs.map some ++ List.replicate (N.length - vs.length) none
noncomputable def cxOf (CX : CXT) (P : Program) (w : World) (K : PySem.W.Frag) (mg : Str → Option Value) (base : Heap) (N : List Str) (qual : Str) (scope : Scope) (f : Addr) (cd : Value) (A : Around) (outer : List Env) (s : Shared) (H : Hp) (E : XK) : Cx where
  prog := P
  w := w
  K := K
  mg := mg
  base := base
  A := A.deeper (envOfC qual scope s.heap.objs.size f cd)
  N := N
  s₀ := s
  H₀ := H
  env := envOfC qual scope s.heap.objs.size f cd
  outer := outer
  stack := envOfC qual scope s.heap.objs.size f cd :: outer
  ex := []
  calm := true
  fn := fun _ => true
  pn := []
  xe := fun e s' => wpAny (model P w) (A.deeper (envOfC qual scope s.heap.objs.size f cd)) (leaving (envOfC qual scope s.heap.objs.size f cd) e) (fun _ s'' => CX outer H s E e s'') (fun e' s'' => CX outer H s E e' s'') s'
theorem cell_has {sc : Scope} {n : Nat} {x : Str} (h : sc.names.lookup x = some .cell) : ∃ c, (cellsFrom n sc.names []).lookup x = some c := by
  have q := PySem.W.cellsFrom_some sc.names n [] (.inl h)
  exact Option.isSome_iff_exists.mp q
theorem inv_start {CX : CXT} {P : Program} {w : World} {K : PySem.W.Frag} {mg : Str → Option Value} {base : Heap} {N ps : List Str} {qual : Str} {scope : Scope} {f : Addr} {cd : Value} {A : Around} {outer : List Env} {s s1 : Shared} {H : Hp} {E : XK} {us : List Value} {vs : List V}
    (S : FnScope N ps scope) (hd : A.handled = none) (e0 : Env0 P w K mg base A outer s H) (hl : vs.length = ps.length) (r : Vals vs us)
    (x : InCallC s s.heap.objs.size (bindL (envOfC qual scope s.heap.objs.size f cd).kindOf (ps.zip us) fun _ => none) (cellsFrom (s.heap.objs.size + 1) scope.names []) (bindC (envOfC qual scope s.heap.objs.size f cd).kindOf (ps.zip us) fun _ => none) s1) :
    Inv (cxOf CX P w K mg base N qual scope f cd A outer s H E) [] (start N vs) H s1 := by
  have hpl : ps.length ≤ N.length := by have := congrArg List.length S.pre; rw [List.length_take] at this; (clear S hd e0 hl r x; omega)
  obtain ⟨h1, tk, rfl, hk⟩ := x.done
  have noA : ∀ b : Addr, b ∉ (cxOf CX P w K mg base N qual scope f cd A outer s H E).ex := fun b z => absurd (show b ∈ ([] : List Addr) from z) (by simp)
  refine ⟨⟨e0.mod, S.kind, rfl, rfl, Nat.le_refl _, fun y z c h1 h2 => ?_, fun y hy => ?_, fun y c _ h => ?_, fun _ => hd, Around.frames_deeper e0.frames, .inr ⟨rfl, rfl⟩, fun b z => absurd z (noA b), e0.bs, e0.bsz, fun b _ _ => noA b, fun b z => absurd z (noA b), e0.funs, e0.frf⟩,
    rfl, e0.bare, Un.kept hk, ⟨_, x.toInCall.ns, fun i y v h1 h2 h3 => ?_⟩, fun y c h => ⟨_, x.cell y c h⟩, e0.hok.fresh (Nat.le_refl _), fun y c h => ?_, fun p hp => absurd (show p ∈ ([] : List (Addr × Obj)) from hp) (by simp), e0.hok.kept hk, ?_⟩
  · exact name_of_addr x.apart (PySem.mem_of_lookup h1) (PySem.mem_of_lookup h2)
  · have hy : scope.names.lookup y = some .cell ∨ scope.names.lookup y = some .free := hy
    rcases hy with hy | hy
    · exact cell_has hy
    · exact absurd rfl (S.nofree _ (PySem.mem_of_lookup hy))
  · exact Nat.le_of_lt (x.above y c (PySem.mem_of_lookup h))
  · have hi : i < vs.length := by
      unfold start at h2
      by_cases hi : i < vs.length
      · exact hi
      · rw [List.getElem?_append_right (by simpa using hi)] at h2
        rw [List.getElem?_replicate] at h2
        split at h2 <;> cases h2
    have ha : vs[i]? = some v := by
      unfold start at h2
      rw [List.getElem?_append_left (by simpa using hi), List.getElem?_map] at h2
      cases e : vs[i]? with
      | none => rw [e] at h2; cases h2
      | some a => rw [e] at h2; cases h2; rfl
    obtain ⟨u, hu, rv⟩ := r.get ha
    have hp : ps[i]? = some y := by
      rw [← S.pre, List.getElem?_take_of_lt (by (clear S hd e0 r hpl hk x noA h1 h2 h3 ha hu rv; omega))]; exact h1
    have ndP : ps.Nodup := by rw [← S.pre]; exact S.nd.sublist (List.take_sublist _ _)
    refine ⟨u, rv, ?_⟩
    rcases S.par y (List.mem_of_getElem? hp) with k | k
    · exact .inl ⟨k, bindL_get ndP hp hu k⟩
    · obtain ⟨c, e⟩ := cell_has (n := s.heap.objs.size + 1) k
      refine .inr ⟨.inl k, c, e, ?_⟩
      have q := x.cell y c e
      rw [bindC_get ndP hp hu (by show scope.names.lookup y ≠ _; rw [k]; decide)] at q
      exact q
  · exact e0.hok.fresh (Nat.le_of_lt (x.above y c (PySem.mem_of_lookup h)))
  · unfold start
    show _ = N.length
    rw [List.length_append, List.length_map, List.length_replicate]
    (clear S hd e0 r hk x noA; omega)
theorem fn_of {CX : CXT} {P : Program} {w : World} {K : PySem.W.Frag} {mg : Str → Option Value} {base : Heap} {k : Nat} {f : Addr} {name qual : Str} {params : Arguments} {body : List Stmt} {scope : Scope} {dV kV doc pm cdv ct oc : Value} {an od : Option Addr}
    {osl : Array (Option Value)} {N ps : List Str} {sp : Sp} (lk : K.lookup f = some ⟨oc, od, .func (PySem.W.fnOf name qual params body scope dV kV doc pm an cdv ct), osl⟩) (hcd : PySem.W.codeIn K cdv qual = true) (S : FnScope N ps scope)
    (len : ∀ vs H Q E, sp vs H Q E → vs.length = ps.length)
    (hbody : ∀ (A : Around) (outer : List Env) (s : Shared) (H : Hp) (vs : List V) (Q : VK) (E : XK), Room k (A.deeper (envOfC qual scope s.heap.objs.size f cdv)) → sp vs H Q E →
      ∃ t, PSs (cxOf CX P w K mg base N qual scope f cdv A outer s H E) body t ∧ t { nx := fun _ H' => Q .non H', rt := Q } (start N vs) H) :
    FnOk P w K mg base CX (k + 1) f (PySem.W.fnOf name qual params body scope dV kV doc pm an cdv ct) ps sp := by
  refine ⟨len, fun A outer s H args us vs Q E hr e0 hb r hsp => ?_⟩
  have hl := len _ _ _ _ hsp
  have KX : K.In s.heap := e0.mod.kin.keeps fun b o e => (e0.bs b o e).1
  have lim : s.heap.NoLimit := e0.mod.nolimit.keeps fun b o e => (e0.bs b o e).1
  have hkind : ∀ y ∈ ps.zip us, scope.names.lookup y.1 = some .local ∨ (scope.names.lookup y.1 = some .cell ∧ ((cellsFrom (s.heap.objs.size + 1) scope.names []).lookup y.1).isSome = true) := fun ⟨n, v⟩ hy => by
    rcases S.par n (List.of_mem_zip hy).1 with q | q
    · exact .inl q
    · exact .inr ⟨q, PySem.W.cellsFrom_some _ _ _ (.inl q)⟩
  refine codeAny_call_function hr.depth (KX _ _ lk) rfl S.co S.gen rfl (PySem.W.codeRec_of KX hcd) (hb _ _ _ _ ?_)
  refine wpAny_newFunctionEnv_cells S.kind hkind fun env he s1 x => ?_
  subst he
  refine ⟨lim.keeps x.toInCall.keep, codeAny_func ?_⟩
  obtain ⟨t, ht, hq⟩ := hbody A outer s H vs Q E (hr.deeper _) hsp
  have I : Inv (cxOf CX P w K mg base N qual scope f cdv A outer s H E) [] (start N vs) H s1 := inv_start S hr.hd e0 hl r x
  refine wpAny_mono (ht [] s1 (start N vs) H _ I hq) (fun fl s' hs => ?_) fun e s' hs => hs
  have fin : ∀ {σ' : St} {H' : Hp} {v : V} {u : Value}, Inv (cxOf CX P w K mg base N qual scope f cdv A outer s H E) [] σ' H' s' → RelV v u → Q v H' → CE outer P w H s Q u s' :=
    fun {σ' H' v u} J rv q => ⟨v, H', J.os, J.bare, J.base, J.hok, rv, q⟩
  cases fl with
  | ret u =>
    obtain ⟨v, σ', H', J, rv, q⟩ := hs
    exact fin J rv q
  | next =>
    obtain ⟨σ', H', J, q⟩ := hs
    exact fin (v := V.non) (u := Value.none) J rfl q
  | brk =>
    obtain ⟨_, _, _, q⟩ := hs
    exact False.elim q
  | cont =>
    obtain ⟨_, _, _, q⟩ := hs
    exact False.elim q
end L2
namespace L2
open PySem PySem.Spec PyProof.Rows
section
variable {X : Cx} {x : Str} {p pos : Pos} {e : Expr} {es : List Expr} {t : TA} {id T : String} {r : List V → Hp → VK → Prop}
noncomputable def tCB (r : List V → Hp → VK → Prop) (t : TA) : TE := fun σ H Q => t σ H fun vs H1 => r vs H1 Q
theorem pe_callB (hc : CallR X (.builtin id) r) (hg : Gl X x) (hm : X.mg x = none) (hv : bootBuiltins x = some (.builtin id)) (ha : PA X (e :: es) t) (hn : x ≠ "__name__" := by decide) (hdb : (x == ("__debug__" : Str)) = false := by decide)
    (he : starEach (e :: es) X.env = (false, eval e X.env) :: starEach es X.env := by rfl) (hpl : (backTo pos (starEach es X.env)).any (·.1) = false := by rfl) : PE X (.Call (.Name x p) (e :: es) [] pos) (tCB r t) := by
  intro pins s σ H Q I h
  refine wpAny_Call_Name_kw (ld_blt I hg hm hv ?_ hn hdb)
  exact PyProof.Rows.callWith_builtin1 (thn (ha pos pins s σ H _ I h) fun us s1 ⟨vs, H1, I1, r1, q1⟩ => hc pins s1 σ H1 vs us Q I1 r1 q1) he hpl
theorem pe_callTy (hc : CallR X (.type T) r) (hg : Gl X x) (hm : X.mg x = none) (hv : bootBuiltins x = some (.type T)) (ha : PA X (e :: es) t) (hn : x ≠ "__name__" := by decide) (hdb : (x == ("__debug__" : Str)) = false := by decide)
    (he : starEach (e :: es) X.env = (false, eval e X.env) :: starEach es X.env := by rfl) (hpl : (backTo pos (starEach es X.env)).any (·.1) = false := by rfl) : PE X (.Call (.Name x p) (e :: es) [] pos) (tCB r t) := by
  intro pins s σ H Q I h
  refine wpAny_Call_Name_kw (ld_blt I hg hm hv ?_ hn hdb)
  exact PyProof.Rows.callWith_type1 (thn (ha pos pins s σ H _ I h) fun us s1 ⟨vs, H1, I1, r1, q1⟩ => hc pins s1 σ H1 vs us Q I1 r1 q1) he hpl
end
end L2
namespace HT
open PySem PyProof.Rows
theorem rcLt_int (A : Around) (s : Shared) (a : Int) (t : Tok) (c : Int) (u : Tok) (prog : Program) (w : World) (E : Value → Shared → Prop) (Q : Value → Shared → Prop) (h : Q (.bool (decide (a < c))) s) :
    wpAny (model prog w) A (richCompare .Lt (.int a t) (.int c u)) Q E s :=
  (PyProof.Rows.lt_int h : wpAny (model prog w) A (compareOp .Lt (.int a t) (.int c u)) Q E s)
section
open PySem.SeqAt
open PySem.AutoSeq1 (wpAny_loadPart')
open PySem.MeetsSeq PySem.MeetsSeq2 PySem.MeetsSeq3
end
section
variable {prog : Program} {w : World} {A : Around} {E : Value → Shared → Prop} {s : Shared}
theorem cat_tup {t b : Addr} {vs ws : List Value} {Q : Value → Shared → Prop} (ht : IsTup s.heap t vs.toArray) (hb : IsTup s.heap b ws.toArray) (hv : vs ≠ [])
    (h1 : ws = [] → Q (.ref t) s) (h2 : ws ≠ [] → Q (.ref s.heap.objs.size) { s with heap := s.heap.push { cls := .type "tuple", data := .seq (vs ++ ws).toArray } })
    (hsz : vs.length + ws.length ≤ sizeLine) : wpAny (model prog w) A (binaryOp .Add (.ref t) (.ref b)) Q E s := by
  obtain ⟨⟨cls, dd, data, sl⟩, ho, hc, n, hd⟩ := id ht
  obtain ⟨⟨cls2, dd2, data2, sl2⟩, ho2, hc2, n2, hd2⟩ := id hb
  simp only at hc hd hc2 hd2
  subst hc hd hc2 hd2
  have e : vs.toArray ++ ws.toArray = (vs ++ ws).toArray := by simp
  by_cases hw : ws = []
  · exact concat_meets ⟨_, ho, rfl⟩ ⟨_, ho2, rfl⟩ noFill_tuple_add seq_tuple_add PySem.F.slot_tuple_add PySem.F.entry_tuple_add (PySem.F.args_tuple_add_2 _ _)
      (tuple_addW1 t b vs.toArray ws.toArray n n2 dd dd2 sl sl2 (by simpa using hv) (by simp [hw])) ⟨ho, ho2, h1 hw⟩
  · refine concat_meets ⟨_, ho, rfl⟩ ⟨_, ho2, rfl⟩ noFill_tuple_add seq_tuple_add PySem.F.slot_tuple_add PySem.F.entry_tuple_add (PySem.F.args_tuple_add_2 _ _)
      (tuple_addW2 t b vs.toArray ws.toArray n n2 dd dd2 sl sl2 (by simpa using hv) (by simpa using hw) (by rw [List.size_toArray, List.size_toArray]; exact hsz)) ⟨ho, ho2, ?_⟩
    rw [e]
    exact h2 hw
noncomputable def sIx (n d : Nat) : Option Int → Nat
  | none => d
  | some v => if v < 0 then (v + (n : Int)).toNat else min v.toNat n
theorem sIx_none (n d : Nat) : sIx n d none = d := rfl
theorem sIx_nat (n d k : Nat) : sIx n d (some (k : Int)) = min k n := by
  show (if (k : Int) < 0 then ((k : Int) + (n : Int)).toNat else min (k : Int).toNat n) = min k n
  rw [if_neg (by omega), Int.toNat_natCast]
theorem sIx_le (n d : Nat) (hd : d ≤ n) (o : Option Int) : sIx n d o ≤ n := by
  cases o with
  | none => exact hd
  | some v =>
    show (if v < 0 then (v + (n : Int)).toNat else min v.toNat n) ≤ n
    by_cases hv : v < 0
    · rw [if_pos hv]; omega
    · rw [if_neg hv]; exact Nat.min_le_right _ _
theorem clip_eq (v : Int) (n d : Nat) : (if v < 0 then max (v + (n : Int)) 0 else min v (n : Int)) = ((sIx n d (some v) : Nat) : Int) := by
  show (if v < 0 then max (v + (n : Int)) 0 else min v (n : Int)) = (((if v < 0 then (v + (n : Int)).toNat else min v.toNat n) : Nat) : Int)
  by_cases hv : v < 0
  · simp only [if_pos hv]; (clear hv; omega)
  · simp only [if_neg hv]; omega
theorem adjust_gen (lo hi : Option Int) (n : Nat) : Builtin.Slice.sliceAdjust lo hi 1 (n : Int) = (((sIx n 0 lo : Nat) : Int), ((sIx n n hi : Nat) : Int)) := by
  have h1 : ¬ ((1 : Int) < 0) := by omega
  unfold Builtin.Slice.sliceAdjust
  simp only [h1, if_false]
  refine Prod.ext ?_ ?_
  · cases lo with
    | none => rfl
    | some v => exact clip_eq v n 0
  · cases hi with
    | none => rfl
    | some v => exact clip_eq v n n
theorem places_gen (i j : Nat) : Builtin.Slice.slicePlaces (i : Int) (j : Int) 1 = j - i := by
  unfold Builtin.Slice.slicePlaces
  have h1 : (1 : Int) > 0 := by omega
  simp only [h1, if_true, Int.ediv_one]
  split <;> (clear h1; omega)
theorem slicePart_ {v : Value} {o : Option Int} {Q : Option Int → Shared → Prop} (p : IsPart v o) (h : Q o s) : wpAny (model prog w) A (Builtin.Slice.slicePartIndex v) Q E s := by
  cases p with
  | none => exact slicePart_none h
  | int i t => exact slicePart_int h
theorem sliceApplied_gen {sl : Addr} {vl vu : Value} {lo hi : Option Int} {n : Nat} {Q : Int × Int × Nat → Shared → Prop} (hs : s.heap.IsSliceOf sl vl vu .none) (pl : IsPart vl lo) (pu : IsPart vu hi)
    (h : Q (((sIx n 0 lo : Nat) : Int), 1, sIx n n hi - sIx n 0 lo) s) : wpAny (model prog w) A (Builtin.Slice.sliceApplied (.ref sl) (pure (n : Int))) Q E s := by
  obtain ⟨os, hos, hcs, hds⟩ := id hs
  unfold Builtin.Slice.sliceApplied Builtin.Slice.sliceFields
  refine wpAny_bind (wpAny_bind (wpAny_field hos hds (x := vl) rfl (wpAny_bind (wpAny_field hos hds (x := vu) rfl (wpAny_bind (wpAny_field hos hds (x := .none) rfl (wpAny_pure ?_)))))))
  refine wpAny_bind (slicePart_none ?_)
  show wpAny _ _ (if ((1 : Int) == 0) = true then _ else _) _ _ s
  rw [if_neg (by decide)]
  refine wpAny_bind (slicePart_ pl (wpAny_bind (slicePart_ pu (wpAny_bind (wpAny_pure ?_)))))
  show wpAny _ _ (match Builtin.Slice.sliceAdjust lo hi 1 (n : Int) with | (lo, hi) => pure (lo, (1 : Int), Builtin.Slice.slicePlaces lo hi 1)) _ _ s
  rw [adjust_gen lo hi n]
  show wpAny _ _ (pure (((sIx n 0 lo : Nat) : Int), (1 : Int), Builtin.Slice.slicePlaces ((sIx n 0 lo : Nat) : Int) ((sIx n n hi : Nat) : Int) 1)) _ _ s
  rw [places_gen]
  exact wpAny_pure h
theorem pick_gen (xs : Array Value) (i k : Nat) : ((List.range k).filterMap fun (m : Nat) => xs[((i : Int) + (m : Int) * 1).toNat]?).toArray = ((xs.toList.drop i).take k).toArray := by
  have e : (fun (m : Nat) => xs[((i : Int) + (m : Int) * 1).toNat]?) = fun m => xs[i + m]? := by
    funext m
    have : ((i : Int) + (m : Int) * 1).toNat = i + m := by omega
    rw [this]
  rw [e]
  have := pick_run xs i k
  rw [List.filterMap_map] at this
  have e2 : ((fun x => xs[x]?) ∘ fun x => i + x) = fun m => xs[i + m]? := rfl
  rw [e2] at this
  rw [this]
theorem getItem_tuple_cut {t sl : Addr} {items : Array Value} {vl vu : Value} {lo hi : Option Int} {Q : Value → Shared → Prop} (ht : IsTup s.heap t items) (hs : s.heap.IsSliceOf sl vl vu .none) (pl : IsPart vl lo) (pu : IsPart vu hi)
    (hw : ¬ (sIx items.size 0 lo = 0 ∧ sIx items.size items.size hi = items.size))
    (h : Q (.ref s.heap.objs.size) { s with heap := s.heap.push { cls := .type "tuple", data := .seq ((items.toList.drop (sIx items.size 0 lo)).take (sIx items.size items.size hi - sIx items.size 0 lo)).toArray } })
    (hsz : items.size ≤ sizeLine) : wpAny (model prog w) A (getItem (.ref t) (.ref sl)) Q E s := by
  have htake : sizeOk (.seq ((items.toList.drop (sIx items.size 0 lo)).take (sIx items.size items.size hi - sIx items.size 0 lo)).toArray) := by
    show ((items.toList.drop (sIx items.size 0 lo)).take (sIx items.size items.size hi - sIx items.size 0 lo)).toArray.size ≤ sizeLine
    rw [List.size_toArray, List.length_take, List.length_drop, Array.length_toList]
    (clear ht hs pl pu hw h; omega)
  have hj : sIx items.size items.size hi ≤ items.size := sIx_le _ _ (Nat.le_refl _) hi
  obtain ⟨os, hos, hcs, hds⟩ := id hs
  have hTs : s.TypeIs (.ref sl) "slice" := ⟨os, hos, hcs⟩
  unfold getItem
  try with_reducible refine wpAny_holding ?_
  first | refine wpAny_bind (wpAny_pure ?_) | skip
  refine wpAny_bind (wpAny_sequenceKey ht.typeIs (by decide) ?_)
  refine wpAny_bind (wpAny_callSpecial?_slot (name := Str.ofString "__getitem__") ht.typeIs PyProof.Rows.slot_tuple_getitem
    (wpAny_call_entry PyProof.Rows.slot_tuple_getitem ht.typeIs entry_tuple_getitem ?_ (args_tuple_getitem _ _)))
  show wpAny _ _ (Builtin.Tuple.tupleItemsOf (.ref t) >>= _) _ _ s
  refine wpAny_bind (tupleItemsOf_ ht ?_)
  refine wpAny_bind (wpAny_typeOf hTs ?_)
  rw [if_pos (by decide)]
  refine wpAny_bind (sliceApplied_gen hs pl pu ?_)
  have hno : ¬ ((((sIx items.size 0 lo : Nat) : Int) == 0 && (1 : Int) == 1 && (sIx items.size items.size hi - sIx items.size 0 lo) == items.size) = true) := by
    intro q
    rw [Bool.and_eq_true, Bool.and_eq_true] at q
    have q1 : ((sIx items.size 0 lo : Nat) : Int) = 0 := eq_of_beq q.1.1
    have q2 : sIx items.size items.size hi - sIx items.size 0 lo = items.size := eq_of_beq q.2
    exact hw ⟨by (clear ht hs pl pu hw h hsz htake hj hos hcs hds hTs q q2; omega), by (clear ht hs pl pu hw h hsz htake hos hcs hds hTs q; omega)⟩
  show wpAny _ _ (if (((sIx items.size 0 lo : Nat) : Int) == 0 && (1 : Int) == 1 && (sIx items.size items.size hi - sIx items.size 0 lo) == items.size) = true then _ else _) _ _ s
  rw [if_neg hno, pick_gen]
  first
    | exact wpAny_bind (m := Builtin.Tuple.tupleExact _) (wpAny_newObj_type (wpAny_pure ⟨_, rfl, wpAny_pure h⟩) htake)
    | exact wpAny_bind (m := Builtin.Tuple.tupleExact _) (wpAny_newObj_type (wpAny_bind (wpAny_pure (wpAny_pure ⟨_, rfl, wpAny_pure h⟩))) htake)
    | exact wpAny_bind (wpAny_bind (m := Builtin.Tuple.tupleExact _) (wpAny_newObj_type (wpAny_pure (wpAny_pure ⟨_, rfl, wpAny_pure h⟩)) htake))
    | exact wpAny_bind (wpAny_bind (m := Builtin.Tuple.tupleExact _) (wpAny_newObj_type (wpAny_pure ⟨_, rfl, wpAny_pure h⟩) htake))
end
end HT
namespace L2
open PySem PySem.Spec PyProof.Rows
noncomputable abbrev TO := St → Hp → (Option Int → Hp → Prop) → Prop
noncomputable def PO (X : Cx) (e : Option Expr) (t : TO) : Prop :=
  ∀ (pins : List (Addr × Obj)) (s : Shared) (σ : St) (H : Hp) (Q : Option Int → Hp → Prop), Inv X pins σ H s → t σ H Q →
    wpAny (model X.prog X.w) X.A (evalPart e X.env) (fun u s' => ∃ o H', Inv X pins σ H' s' ∧ IsPart u o ∧ Q o H') X.xe s
noncomputable def tNoPart : TO := fun _ H Q => Q none H
noncomputable def tPart (t : TE) : TO := fun σ H Q => t σ H fun x H1 => ∃ i, x = .int i ∧ Q (some i) H1
theorem intsAre_of {ns : List Int} : ∀ {us : List Value}, Vals (ns.map V.int) us → IntsAre us ns := by
  induction ns with
  | nil => intro us r; rw [List.map_nil] at r; cases r; exact .nil
  | cons n ns ih =>
    intro us r
    rw [List.map_cons] at r
    cases r with
    | cons r1 r2 =>
      obtain ⟨t, e⟩ := r1
      subst e
      exact .cons n t (ih r2)
section
variable {X : Cx} {e : Expr} {te : TE} {lo hi : Option Expr} {tl th : TO} {pos p2 : Pos}
theorem po_none : PO X none tNoPart := by
  intro pins s σ H Q I h
  rw [evalPart_none]
  exact wpAny_pure ⟨none, H, I, .none, h⟩
theorem po_some (h : PE X e te) : PO X (some e) (tPart te) := by
  intro pins s σ H Q I hw
  rw [evalPart_some]
  refine thn (h pins s σ H _ I hw) fun u s1 ⟨x, H1, I1, r1, q1⟩ => ?_
  obtain ⟨i, rfl, q⟩ := q1
  obtain ⟨t, rfl⟩ := r1
  exact ⟨some i, H1, I1, .int i t, q⟩
noncomputable def SlR (X : Cx) (r : V → Option Int → Option Int → Hp → VK → Prop) : Prop :=
  ∀ (pins : List (Addr × Obj)) (s : Shared) (σ : St) (H : Hp) (x : V) (v vl vu : Value) (lo hi : Option Int) (sl : Addr) (Q : VK), Inv X pins σ H s → RelV x v → s.heap.IsSliceOf sl vl vu .none → IsPart vl lo → IsPart vu hi → r x lo hi H Q →
    ∃ T id, typeLookup (.type T) "__getitem__" = pure (some (.builtin id)) ∧ s.TypeIs v T ∧ wpAny (model X.prog X.w) X.A (getItem v (.ref sl)) (EP X pins σ Q) X.xe s
noncomputable def tSl (r : V → Option Int → Option Int → Hp → VK → Prop) (te : TE) (tl th : TO) : TE := fun σ H Q => te σ H fun x H1 => tl σ H1 fun l H2 => th σ H2 fun u H3 => r x l u H3 Q
theorem pe_slice {r : V → Option Int → Option Int → Hp → VK → Prop} (hr : SlR X r) (he : PE X e te) (hl : PO X lo tl) (hu : PO X hi th) : PE X (.Subscript e (.Slice lo hi none p2) pos) (tSl r te tl th) := by
  intro pins s σ H Q I h
  refine Subscript_ (thn (he pins s σ H _ I h) fun v s1 ⟨x, H1, I1, r1, q1⟩ => ?_)
  refine wpAny_Slice (thn (hl pins s1 σ H1 _ I1 q1) fun vl s2 ⟨l, H2, I2, pl, q2⟩ => thn (hu pins s2 σ H2 _ I2 q2) fun vu s3 ⟨u, H3, I3, pu, q3⟩ => ?_)
  rw [evalPart_none]
  refine wpAny_pure ?_
  have I4 : Inv X pins σ H3 { s3 with heap := s3.heap.push { cls := .type "slice", data := .fields #[vl, vu, .none] } } := I3.kept (t' := s3.toks) fun b ob q => Heap.get?_push_of_some _ q
  obtain ⟨T, id, hT, ht, hg⟩ := hr pins { s3 with heap := s3.heap.push { cls := .type "slice", data := .fields #[vl, vu, .none] } } σ H3 x v vl vu l u s3.heap.objs.size Q I4 r1 (Heap.IsSliceOf.new ..) pl pu q3
  show wpAny (model X.prog X.w) X.A (subscriptTail e (.Slice lo hi none p2) v (.ref s3.heap.objs.size)) (EP X pins σ Q) X.xe { s3 with heap := s3.heap.push { cls := .type "slice", data := .fields #[vl, vu, .none] } }
  exact tail_any (ops := [.ref s3.heap.objs.size, v]) ht hT hg (by with_unfolding_all rfl)
noncomputable def cutV (xs : List V) (lo hi : Option Int) : List V := (xs.drop (HT.sIx xs.length 0 lo)).take (HT.sIx xs.length xs.length hi - HT.sIx xs.length 0 lo)
theorem cutV_length (xs : List V) (lo hi : Option Int) : (cutV xs lo hi).length ≤ xs.length := by
  unfold cutV
  rw [List.length_take, List.length_drop]
  omega
noncomputable def rSlT (K : PySem.W.Frag) : V → Option Int → Option Int → Hp → VK → Prop := fun x lo hi H Q => ∃ a xs, x = .ref a ∧ SqT K H a xs ∧
  ¬ (HT.sIx xs.length 0 lo = 0 ∧ HT.sIx xs.length xs.length hi = xs.length) ∧ ∀ p, H p = none → Q (.ref p) (upd H p (.tup (cutV xs lo hi)))
theorem sl_tup : SlR X (rSlT X.K) := by
  intro pins s σ H x v vl vu lo hi sl Q I rx hs pl pu h
  obtain ⟨a, xs, rfl, hx, hw, q⟩ := h
  cases rx
  obtain ⟨its, r, ht, hz⟩ := I.tuple hx
  have hlen : its.toArray.size = xs.length := by rw [List.size_toArray]; exact r.length.symm
  refine ⟨"tuple", _, PyProof.Rows.slot_tuple_getitem.lookup, ht.typeIs, ?_⟩
  refine HT.getItem_tuple_cut ht hs pl pu (by rw [hlen]; exact hw) ?_ (by rw [hlen]; exact hz)
  rw [hlen]
  refine ⟨.ref s.heap.objs.size, _, I.laid (t' := s.toks) (o := .tup (cutV xs lo hi)) (fun b ob q => Heap.get?_push_of_some _ q) (Nat.le_refl _) ?_, rfl, q _ (I.hok.fresh (Nat.le_refl _))⟩
  exact ⟨Nat.le_trans (cutV_length xs lo hi) hz, _, (r.drop (HT.sIx xs.length 0 lo)).take (HT.sIx xs.length xs.length hi - HT.sIx xs.length 0 lo), IsTup.new _ _⟩
noncomputable def rCatT (K : PySem.W.Frag) : R2 := fun x y H Q => ∃ a b xs ys, x = .ref a ∧ y = .ref b ∧ SqT K H a xs ∧ SqT K H b ys ∧ xs ≠ [] ∧ xs.length + ys.length ≤ sizeLine ∧
  (ys = [] → Q (.ref a) H) ∧ (ys ≠ [] → ∀ p, H p = none → Q (.ref p) (upd H p (.tup (xs ++ ys))))
theorem Vals.nil_iff {xs : List V} {us : List Value} (r : Vals xs us) : us = [] ↔ xs = [] := by
  cases r with
  | nil => simp
  | cons _ _ => simp
theorem op_catT : OpR X (binaryOp .Add) (rCatT X.K) := by
  intro pins s σ H x y v u Q I rx ry h
  obtain ⟨a, b, xs, ys, rfl, rfl, ha, hb, hx, hz, q1, q2⟩ := h
  cases rx
  cases ry
  obtain ⟨its, r1, p1, _⟩ := I.tuple ha
  obtain ⟨its2, r2, p2, _⟩ := I.tuple hb
  refine HT.cat_tup p1 p2 (fun z => hx (r1.nil_iff.mp z)) (fun z => ⟨.ref a, H, I, rfl, q1 (r2.nil_iff.mp z)⟩) (fun z => ?_) (by rw [← r1.length, ← r2.length]; exact hz)
  refine ⟨.ref s.heap.objs.size, _, I.laid (t' := s.toks) (o := .tup (xs ++ ys)) (fun b ob q => Heap.get?_push_of_some _ q) (Nat.le_refl _) ?_, rfl, q2 (fun w => z (r2.nil_iff.mpr w)) _ (I.hok.fresh (Nat.le_refl _))⟩
  exact ⟨by rw [List.length_append]; exact hz, _, r1.append r2, IsTup.new _ _⟩
end
end L2
namespace L2
open PySem PySem.Spec PyProof.Rows
noncomputable def ixN (n : Nat) (i : Int) : Option Nat := if 0 ≤ i then (if i < n then some i.toNat else none) else if -(n : Int) ≤ i then some (i + n).toNat else none
noncomputable def atI {α : Type} (xs : List α) (i : Int) : Option α := (ixN xs.length i).bind fun j => xs[j]?
theorem ixN_seq {n : Nat} {i : Int} {j : Nat} (h : ixN n i = some j) : seqIndex? i n = some j ∧ j < n ∧ -(n : Int) ≤ i ∧ i < n := by
  unfold ixN at h
  by_cases h0 : 0 ≤ i
  · rw [if_pos h0] at h
    by_cases h1 : i < n
    · rw [if_pos h1] at h
      have e : i.toNat = j := Option.some.inj h
      exact ⟨by rw [seqIndex_of h0 h1, e], by (clear h; omega), by (clear h h1 e; omega), h1⟩
    · rw [if_neg h1] at h; cases h
  · rw [if_neg h0] at h
    by_cases h1 : -(n : Int) ≤ i
    · rw [if_pos h1] at h
      have e : (i + n).toNat = j := Option.some.inj h
      exact ⟨by rw [seqIndex_neg (by (clear h h1 e; omega)) h1, e], by (clear h; omega), h1, by (clear h e; omega)⟩
    · rw [if_neg h1] at h; cases h
theorem atI_get {α : Type} {xs : List α} {i : Int} {v : α} (h : atI xs i = some v) : ∃ j, seqIndex? i xs.length = some j ∧ xs[j]? = some v ∧ j < xs.length ∧ -(xs.length : Int) ≤ i ∧ i < xs.length := by
  unfold atI at h
  cases e : ixN xs.length i with
  | none => rw [e] at h; cases h
  | some j =>
    rw [e] at h
    obtain ⟨h1, h2, h3, h4⟩ := ixN_seq e
    exact ⟨j, h1, h, h2, h3, h4⟩
theorem atI_nat {α : Type} {xs : List α} {j : Nat} {v : α} (h : xs[j]? = some v) : atI xs (j : Int) = some v := by
  have hj : j < xs.length := (List.getElem?_eq_some_iff.mp h).1
  have e : ixN xs.length (j : Int) = some j := by
    unfold ixN
    rw [if_pos (by (clear h hj; omega)), if_pos (by (clear h; omega))]; simp
  unfold atI; rw [e]; exact h
noncomputable def PlainIx (b : Expr) : Prop := ∀ o i, subscripted b false o i = operate [o, i] (getItem o i)
noncomputable def IxR (X : Cx) (r : R2) : Prop :=
  ∀ (value slice : Expr) (pins : List (Addr × Obj)) (s : Shared) (σ : St) (H : Hp) (x y : V) (v u : Value) (Q : VK), Inv X pins σ H s → RelV x v → RelV y u → r x y H Q →
    subscripted slice false v u = operate [v, u] (getItem v u) → wpAny (model X.prog X.w) X.A (subscriptTail value slice v u) (EP X pins σ Q) X.xe s
noncomputable def MtR (X : Cx) (id : String) (r : V → List V → Hp → VK → Prop) : Prop :=
  ∀ (pins : List (Addr × Obj)) (s : Shared) (σ : St) (H : Hp) (x : V) (xs : List V) (v : Value) (us : List Value) (Q : VK), Inv X pins σ H s → RelV x v → Vals xs us → r x xs H Q →
    wpAny (model X.prog X.w) X.A (call (.builtin id) (v :: us)) (EP X pins σ Q) X.xe s
section
variable {X : Cx} {a b : Expr} {ta tb : TE} {pos : Pos}
theorem pe_ix {r : R2} (hr : IxR X r) (ha : PE X a ta) (hb : PE X b tb) (hs : PlainIx b) : PE X (.Subscript a b pos) (tOp r ta tb) := by
  intro pins s σ H Q I h
  exact Subscript_ (binT ha hb I h fun v u s2 x y H2 I2 rx ry q => hr a b pins s2 σ H2 x y v u Q I2 rx ry q (hs _ _))
noncomputable def rIxL (K : PySem.W.Frag) : R2 := fun x y H Q => ∃ p xs i v, x = .ref p ∧ y = .int i ∧ SqL K H p xs ∧ atI xs i = some v ∧ Q v H
noncomputable def rIxT (K : PySem.W.Frag) : R2 := fun x y H Q => ∃ p xs i v, x = .ref p ∧ y = .int i ∧ SqT K H p xs ∧ atI xs i = some v ∧ Q v H
theorem ix_list : IxR X (rIxL X.K) := by
  intro value slice pins s σ H x y v u Q I rx ry h hs
  obtain ⟨p, xs, i, z, rfl, rfl, hq, he, q⟩ := h
  cases rx
  obtain ⟨t, rfl⟩ := ry
  obtain ⟨its, r, pl, hz⟩ := I.list hq
  obtain ⟨j, h1, h2, h3, h4, h5⟩ := atI_get he
  obtain ⟨w, ew, rw'⟩ := r.get h2
  have hl := r.length
  have hn := line63
  have fin : EP X pins σ Q w s := ⟨z, H, I, rw', q⟩
  by_cases h0 : 0 ≤ i
  · have hj : i.toNat = j := by
      rw [seqIndex_of h0 h5] at h1
      exact Option.some.inj h1
    exact item_listR pl.isList h0 (by (clear I hq he q hs r pl h1 h2 h3 h4 ew rw' fin h0 hj; omega)) (by rw [hj]; simpa using ew) fin hs
  · have hj : (i + (its.toArray.size : Int)).toNat = j := by
      rw [seqIndex_neg (by (clear I hq he q hs r pl hz h1 h2 h3 h4 h5 ew rw' hl hn fin; omega)) h4] at h1
      rw [List.size_toArray, ← hl]
      exact Option.some.inj h1
    exact subscriptTail_builtinR (x := w) pl.isList.typeIs slot_list_getitem.lookup
      (wpAny_getItem_list_neg (Q := fun r s' => r = w ∧ EP X pins σ Q r s') pl.isList (by (clear I hq he q hs r pl hz h1 h2 h3 h4 h5 ew rw' hl hn fin hj; omega)) (by rw [List.size_toArray] <;> (clear I hq he q hs r pl hz h1 h2 h3 h5 ew rw' hn fin h0 hj; omega)) (by (clear I hq he q hs r pl h1 h2 h3 h5 ew rw' fin h0 hj; omega)) (by rw [hj]; simpa using ew) ⟨rfl, fin⟩) hs
theorem ix_tup : IxR X (rIxT X.K) := by
  intro value slice pins s σ H x y v u Q I rx ry h hs
  obtain ⟨p, xs, i, z, rfl, rfl, hq, he, q⟩ := h
  cases rx
  obtain ⟨t, rfl⟩ := ry
  obtain ⟨its, r, pl, hz⟩ := I.tuple hq
  obtain ⟨j, h1, h2, h3, h4, h5⟩ := atI_get he
  obtain ⟨w, ew, rw'⟩ := r.get h2
  have hl := r.length
  have hn := line63
  have fin : EP X pins σ Q w s := ⟨z, H, I, rw', q⟩
  exact subscriptTail_builtinR (x := w) pl.typeIs slot_tuple_getitem.lookup
    (getItem_tuple (j := j) (Q := fun r s' => r = w ∧ EP X pins σ Q r s') pl (by (clear I hq he q hs r pl h1 h2 h5 ew rw' fin; omega)) (by (clear I hq he q hs r pl h1 h2 h4 ew rw' fin; omega)) (by rw [List.size_toArray, ← hl]; exact h1) (by simpa using ew) ⟨rfl, fin⟩) hs
theorem slice_bounds (lo hi : Option Int) (n : Nat) : (sliceBounds lo hi none n).1 = ((HT.sIx n 0 lo : Nat) : Int) ∧ (sliceBounds lo hi none n).2.1 = ((HT.sIx n n hi : Nat) : Int) ∧ (sliceBounds lo hi none n).2.2 = 1 := by
  refine ⟨?_, ?_, rfl⟩
  · cases lo with
    | none => simp [sliceBounds, HT.sIx]
    | some i =>
      simp only [sliceBounds, HT.sIx, Option.getD_none, show (1 : Int) > 0 by decide, if_true]
      by_cases h : i < 0
      · simp only [h, if_true] <;> omega
      · simp only [h, if_false] <;> omega
  · cases hi with
    | none => simp [sliceBounds, HT.sIx]
    | some i =>
      simp only [sliceBounds, HT.sIx, Option.getD_none, show (1 : Int) > 0 by decide, if_true]
      by_cases h : i < 0
      · simp only [h, if_true] <;> omega
      · simp only [h, if_false] <;> omega
theorem slicePick_cut (its : List Value) (lo hi : Option Int) : slicePick its.toArray lo hi none = ((its.drop (HT.sIx its.length 0 lo)).take (HT.sIx its.length its.length hi - HT.sIx its.length 0 lo)).toArray := by
  obtain ⟨h1, h2, h3⟩ := slice_bounds lo hi its.toArray.size
  unfold slicePick
  rw [h1, h2, h3]
  simp only [sliceRange_one, pick_run, List.size_toArray] <;> rfl
noncomputable def rSlL (K : PySem.W.Frag) : V → Option Int → Option Int → Hp → VK → Prop := fun x lo hi H Q => ∃ a xs, x = .ref a ∧ SqL K H a xs ∧ ∀ p, H p = none → Q (.ref p) (upd H p (.lst (cutV xs lo hi)))
theorem sl_list : SlR X (rSlL X.K) := by
  intro pins s σ H x v vl vu lo hi sl Q I rx hs pl pu h
  obtain ⟨a, xs, rfl, hx, q⟩ := h
  cases rx
  obtain ⟨its, r, ht, hz⟩ := I.list hx
  have hlen := r.length
  refine ⟨"list", _, slot_list_getitem.lookup, ht.isList.typeIs, ?_⟩
  refine wpAny_getItem_list_slice ht.isList hs pl pu .none (by simp) ?_ (by rw [List.size_toArray] <;> (clear I hs pl pu hx q r ht; omega))
  rw [slicePick_cut, ← hlen]
  refine ⟨.ref s.heap.objs.size, _, I.laid (t' := s.toks) (o := .lst (cutV xs lo hi)) (fun b ob q => Heap.get?_push_of_some _ q) (Nat.le_refl _) ?_, rfl, q _ (I.hok.fresh (Nat.le_refl _))⟩
  exact ⟨Nat.le_trans (cutV_length xs lo hi) hz, _, 0, (r.drop (HT.sIx xs.length 0 lo)).take (HT.sIx xs.length xs.length hi - HT.sIx xs.length 0 lo), Heap.get?_push_size _ rfl⟩
theorem call_len_seq : CallR X (.builtin "len") (fun xs H Q => ∃ p ys, xs = [.ref p] ∧ (SqL X.K H p ys ∨ SqT X.K H p ys) ∧ Q (.int ys.length) H) := by
  intro pins s σ H xs us Q I r h
  obtain ⟨p, ys, rfl, hq, q⟩ := h
  obtain ⟨u, rfl, rx⟩ := vals1 r
  cases rx
  have hn := line63
  rcases hq with hq | hq
  · obtain ⟨its, r', pl, hz⟩ := I.list hq
    have hlen := r'.length
    exact Calls.call_len_list pl.isList (by simp only [List.size_toArray] <;> (clear I q r hq r' pl; omega)) ⟨.int ys.length, H, I.tok _, ⟨s.toks + 1, by rw [List.size_toArray, hlen]⟩, q⟩
  · obtain ⟨its, r', pl, hz⟩ := I.tuple hq
    have hlen := r'.length
    exact len_tuple pl (by simp only [List.size_toArray] <;> (clear I q r hq r' pl; omega)) ⟨.int ys.length, H, I.tok _, ⟨s.toks + 1, by rw [List.size_toArray, hlen]⟩, q⟩
theorem call_list_of : CallR X (.type "list") (fun xs H Q => ∃ p ys, xs = [.ref p] ∧ (SqL X.K H p ys ∨ SqT X.K H p ys) ∧ ∀ l, H l = none → Q (.ref l) (upd H l (.lst ys))) := by
  intro pins s σ H xs us Q I r h
  obtain ⟨p, ys, rfl, hq, q⟩ := h
  obtain ⟨u, rfl, rx⟩ := vals1 r
  cases rx
  have fin : ∀ (its : List Value), Vals ys its → ys.length ≤ sizeLine → ∀ (h' : Heap) (c' : Nat), (∀ b o', s.heap.get? b = some o' → h'.get? b = some o') →
      h'.get? s.heap.objs.size = some { cls := .type "list", dict := none, data := .seq its.toArray c', slots := #[] } → EP X pins σ Q (.ref s.heap.objs.size) { s with heap := h' } := fun its r' hz h' c' kp e =>
    ⟨.ref s.heap.objs.size, _, I.laid (t' := s.toks) kp (Nat.le_refl _) (show ObjOk X.prog X.w _ h' _ (.lst ys) from ⟨hz, its, c', r', e⟩), rfl, q _ (I.hok.fresh (Nat.le_refl _))⟩
  rcases hq with hq | hq
  · obtain ⟨its, r', pl, hz⟩ := I.list hq
    have hlen := r'.length
    obtain ⟨o, ho, hc, n, hd⟩ := pl.isList
    exact call_list_seq p (.inl rfl) ho hc hd (fun h' c' kp e => fin its r' hz h' c' kp e) (by simp only [List.size_toArray] <;> (clear I q r fin hq r' pl ho hc hd; omega))
  · obtain ⟨its, r', pl, hz⟩ := I.tuple hq
    have hlen := r'.length
    obtain ⟨o, ho, hc, n, hd⟩ := pl
    exact call_list_seq p (.inr rfl) ho hc hd (fun h' c' kp e => fin its r' hz h' c' kp e) (by simp only [List.size_toArray] <;> (clear I q r fin hq r' ho hc hd; omega))
theorem call_tuple_of : CallR X (.type "tuple") (fun xs H Q => ∃ p ys, xs = [.ref p] ∧ ((SqL X.K H p ys ∧ ∀ l, H l = none → Q (.ref l) (upd H l (.tup ys))) ∨ (SqT X.K H p ys ∧ Q (.ref p) H))) := by
  intro pins s σ H xs us Q I r h
  obtain ⟨p, ys, rfl, h⟩ := h
  obtain ⟨u, rfl, rx⟩ := vals1 r
  cases rx
  rcases h with ⟨hq, q⟩ | ⟨hq, q⟩
  · obtain ⟨its, r', pl, hz⟩ := I.list hq
    have hlen := r'.length
    refine call_tuple_list pl.isList (fun h' kp => ?_) (by simp only [List.size_toArray] <;> (clear I r hq q r' pl; omega))
    have I1 : Inv X pins σ H { s with heap := h' } := I.kept (t' := s.toks) kp
    have I2 : Inv X pins σ (upd H h'.objs.size (.tup ys)) { s with heap := h'.push { cls := .type "tuple", data := .seq its.toArray } } :=
      I1.laid (t' := s.toks) (fun b o e => Heap.get?_push_of_some _ e) (Nat.le_refl _) (show ObjOk X.prog X.w _ _ _ (.tup ys) from ⟨hz, its, r', IsTup.new _ _⟩)
    exact ⟨.ref h'.objs.size, _, I2, rfl, q _ (I1.hok.fresh (Nat.le_refl _))⟩
  · obtain ⟨its, r', pl, hz⟩ := I.tuple hq
    exact call_tuple_same pl ⟨.ref p, H, I, rfl, q⟩
noncomputable def tyV (K : PySem.W.Frag) (T : String) (x : V) (H : Hp) : Prop := match x with
  | .str _ => T = "str"
  | .int _ => T = "int"
  | .ref p => (T = "list" ∧ ∃ xs, SqL K H p xs) ∨ (T = "tuple" ∧ ∃ o, K.lookup p = some o ∧ o.cls = .type "tuple" ∧ o.dict = none) ∨
      (T = "dict" ∧ ((∃ kvs, H p = some (.dK kvs)) ∨ ∃ kvs, H p = some (.dT kvs))) ∨ (T = "set" ∧ ∃ S n, H p = some (.set S n))
  | _ => False
theorem tyV_is {pins : List (Addr × Obj)} {σ : St} {H : Hp} {s : Shared} {T : String} {x : V} {v : Value} (I : Inv X pins σ H s) (r : RelV x v) (ty : tyV X.K T x H) :
    s.TypeIs v T ∧ ∀ a, v = .ref a → ∃ ob, s.heap.get? a = some ob ∧ ob.dict = none := by
  cases x with
  | str z =>
    obtain ⟨t, rfl⟩ := r
    cases (show T = "str" from ty)
    exact ⟨typeIs_str s z t, fun _ e => nomatch e⟩
  | int i =>
    obtain ⟨t, rfl⟩ := r
    cases (show T = "int" from ty)
    exact ⟨typeIs_int s i t, fun _ e => nomatch e⟩
  | ref p =>
    cases r
    rcases ty with ⟨rfl, xs, hq⟩ | ⟨rfl, o, hk, hc, hd⟩ | ⟨rfl, hk⟩ | ⟨rfl, S, n, hk⟩
    · obtain ⟨its, _, pl, _⟩ := I.list hq
      refine ⟨pl.isList.typeIs, fun a e => ?_⟩
      cases e
      obtain ⟨o, n, e, c, hd, _⟩ := pl
      exact ⟨o, e, hd⟩
    · refine ⟨⟨o, I.kIn p o hk, hc⟩, fun a e => ?_⟩
      cases e
      exact ⟨o, I.kIn _ o hk, hd⟩
    · have z : ∃ o, s.heap.get? p = some o ∧ o.ExactDict := by
        rcases hk with ⟨kvs, hk⟩ | ⟨kvs, hk⟩
        · obtain ⟨_, _, _, _, o, _, _, e, ex, _⟩ := I.hok p _ hk
          exact ⟨o, e, ex⟩
        · obtain ⟨_, _, _, _, o, _, _, e, ex, _⟩ := I.hok p _ hk
          exact ⟨o, e, ex⟩
      obtain ⟨o, e, ex⟩ := z
      refine ⟨⟨o, e, ex.1⟩, fun a e2 => ?_⟩
      cases e2
      exact ⟨o, e, ex.2.1⟩
    · obtain ⟨o, _, _, _, e, ex, _⟩ := I.hok p _ hk
      refine ⟨⟨o, e, ex.1⟩, fun a e2 => ?_⟩
      cases e2
      exact ⟨o, e, ex.2.1⟩
  | _ => exact False.elim ty
noncomputable def tBM (K : PySem.W.Frag) (T : String) (r : V → List V → Hp → VK → Prop) (to : TE) (t : TA) : TE := fun σ H Q => to σ H fun x H1 => tyV K T x H1 ∧ t σ H1 fun xs H2 => r x xs H2 Q
variable {o e : Expr} {es : List Expr} {to : TE} {t : TA} {name : Str} {apos cpos : Pos} {T id : String} {r : V → List V → Hp → VK → Prop}
theorem pe_bm (pa : PlainAttrs T) (slot : Slot T name id) (hty : typeOf (.builtin id) = pure (.type "method_descriptor")) (hm : MtR X id r) (ho : PE X o to) (ha : PA X (e :: es) t)
    (hbase : attributeBase o name X.env (eval o X.env) = eval o X.env := by rfl)
    (hfew : ((backTo cpos (starEach (e :: es) X.env)).all (fun x => !x.1) && (backToKw cpos (keywordEach [] X.env)).all (fun x => x.1.isSome)
      && decide ((e :: es).length + ([] : List Keyword).length + (if ([] : List Keyword).isEmpty then 0 else 1) < 30)) = true := by rfl)
    (hline : (apos.endLine == cpos.line) = true := by rfl) (hs : starEach (e :: es) X.env = (false, eval e X.env) :: starEach es X.env := by rfl) (hplain : (backTo cpos (starEach es X.env)).any (·.1) = false := by rfl) :
    PE X (.Call (.Attribute o name apos) (e :: es) [] cpos) (tBM X.K T r to t) := by
  intro pins s σ H Q I h
  refine wpAny_Call_method_late hbase hfew hline rfl (thn (ho pins s σ H _ I h) fun v s1 ⟨x, H1, I1, r1, ty, q1⟩ => ?_)
  obtain ⟨h1, h2⟩ := tyV_is I1 r1 ty
  refine ⟨T, id, pa, slot, hty, h1, h2, ?_⟩
  have hA := ha cpos pins s1 σ H1 _ I1 q1
  rw [hs] at hA ⊢
  refine Calls.callWith_builtin (by show (false || (backTo cpos (starEach es X.env)).any (·.1)) = false; rw [hplain] <;> rfl) (Calls.evalArgs_plain ?_)
  exact thn hA fun us s2 ⟨vs, H2, I2, r2, q2⟩ => hm pins s2 σ H2 x vs v us Q I2 r1 r2 q2
end
end L2
namespace L2
open PySem PySem.Spec PyProof.Rows
noncomputable def MtM (X : Cx) (id : String) (r : V → List V → Hp → VK → Prop) : Prop :=
  ∀ (pins : List (Addr × Obj)) (s : Shared) (σ : St) (H : Hp) (x : V) (xs : List V) (v : Value) (us : List Value) (Q : VK), Inv X pins σ H s → RelV x v → Vals xs us → r x xs H Q →
    wpAny (model X.prog X.w) X.A (call (.builtin id) (v :: us)) (EP X pins σ Q) X.xe s
theorem Vals.one : ∀ {x : V} {us : List Value}, Vals [x] us → ∃ u, us = [u] ∧ RelV x u
  | _, _, .cons r .nil => ⟨_, rfl, r⟩
section
variable {X : Cx} {pins : List (Addr × Obj)} {σ : St} {H : Hp} {s : Shared} {l b : Addr} {xs ys zs : List V}
theorem Inv.lset {its its' : List Value} {n : Nat} {f : Array Value → Array Value} {t' : Nat} (I : Inv X pins σ H s) (hH : H l = some (.lst xs))
    (e : s.heap.get? l = some { cls := .type "list", data := .seq its.toArray n }) (hf : f its.toArray = its'.toArray) (hv : Vals ys its') (hz : ys.length ≤ sizeLine) :
    Inv X pins σ (upd H l (.lst ys)) { s with heap := s.heap.update l (Obj.mapSeq f), toks := t' } := by
  have q := PySem.IsL.update e f
  rw [hf] at q
  refine I.write (x := l) (e := l) (by rw [hH]; exact trivial) (.inl rfl) (fun b' u hb hu => (Heap.get?_update_other s.heap (Obj.mapSeq f) (Ne.symm hb)).trans hu) ⟨_, q⟩ ?_
  exact ⟨hz, its', _, hv, q⟩
theorem Inv.lnew {its : List Value} {t' : Nat} (I : Inv X pins σ H s) (hv : Vals ys its) (hz : ys.length ≤ sizeLine) :
    Inv X pins σ (upd H s.heap.objs.size (.lst ys)) { s with heap := s.heap.push { cls := .type "list", data := .seq its.toArray }, toks := t' } :=
  I.laid (fun _ _ q => Heap.get?_push_of_some _ q) (Nat.le_refl _) ⟨hz, its, 0, hv, Heap.get?_push_size _ rfl⟩
theorem Inv.fresh (I : Inv X pins σ H s) : H s.heap.objs.size = none := I.hok.fresh (Nat.le_refl _)
theorem Inv.lstM (I : Inv X pins σ H s) (hH : H l = some (.lst xs)) : xs.length ≤ sizeLine ∧ ∃ (its : List Value) (n : Nat), Vals xs its ∧ xs.length = its.length ∧ s.heap.get? l = some { cls := .type "list", data := .seq its.toArray n } := by
  obtain ⟨z, its, n, r, e⟩ := I.hok l _ hH
  exact ⟨z, its, n, r, r.length, e⟩
end
section
variable {X : Cx}
noncomputable def rAppend : V → List V → Hp → VK → Prop := fun x vs H Q => ∃ l xs y, x = .ref l ∧ vs = [y] ∧ H l = some (.lst xs) ∧ xs.length < sizeLine ∧ Q .non (upd H l (.lst (xs ++ [y])))
theorem mt_append : MtM X "list.append" rAppend := by
  intro pins s σ H x vs v us Q I rx rv h
  obtain ⟨l, xs, y, rfl, rfl, hH, hz, q⟩ := h
  cases rx
  obtain ⟨u, rfl, ru⟩ := rv.one
  obtain ⟨z, its, n, r, hl, e⟩ := I.lstM hH
  refine call_meets F.slot_list_append ⟨_, e, rfl⟩ F.entry_list_append (F.args_list_append_2 _ _) (PySem.list_append l its.toArray n u (by rw [List.size_toArray]; (clear I hH q ru rv z r e; omega))) ⟨e, ?_⟩
  refine ⟨.non, _, I.lset (its' := its ++ [u]) hH e (by simp) (r.append (.cons ru .nil)) ?_, rfl, q⟩
  rw [List.length_append, List.length_singleton]
  assumption
noncomputable def rCat : R2 := fun x y H Q => ∃ l b xs zs, x = .ref l ∧ y = .ref b ∧ H l = some (.lst xs) ∧ H b = some (.lst zs) ∧ xs.length + zs.length ≤ sizeLine ∧ ∀ p, H p = none → Q (.ref p) (upd H p (.lst (xs ++ zs)))
theorem op_cat : OpR X (binaryOp .Add) rCat := by
  intro pins s σ H x y v u Q I rx ry h
  obtain ⟨l, b, xs, zs, rfl, rfl, hH, hB, hz, q⟩ := h
  cases rx
  cases ry
  obtain ⟨z, its, n, r, hl, e⟩ := I.lstM hH
  obtain ⟨z2, its2, n2, r2, hl2, e2⟩ := I.lstM hB
  refine PySem.P.add_list e e2 ?_ (by rw [List.size_toArray, List.size_toArray]; (clear I hH hB q z r e z2 r2 e2; omega))
  have ea : its.toArray ++ its2.toArray = (its ++ its2).toArray := by simp
  rw [ea]
  exact ⟨.ref _, _, I.lnew (t' := s.toks) (r.append r2) (by rw [List.length_append]; assumption), rfl, q _ I.fresh⟩
end
section
variable {prog : Program} {w : World} {A : Around} {E : Value → Shared → Prop} {s : Shared}
set_option maxRecDepth 100000 in
end
section
variable {X : Cx}
end
end L2
namespace Att
open PySem PySem.W PySem.Calls PyProof.Rows
theorem ints_of_wellAll {P : Params} {h : Heap} : ∀ (ns : List Int) (vs : List Value), WellAll P h vs (ns.map WData.int) → IntsAre vs ns := by
  intro ns
  induction ns with
  | nil =>
    intro vs w
    rw [List.map_nil] at w
    cases w
    exact .nil
  | cons n ns ih =>
    intro vs w
    rw [List.map_cons] at w
    cases w with
    | cons a b =>
      cases a
      exact .cons _ _ (ih _ b)
theorem script_of {l : OpenLaw} {n : Nat} (hn : l.most = some n) {P : Params} {h : Heap} {args : List WData} {vals : List Value}
    (hpre : l.row.toRowW.claim.pre args = true) (hwl : WellAll P h vals args) :
    ∃ a vs ns, vals = [Value.ref a] ∧ args = [WData.list (ns.map WData.int)] ∧ h.get? a = some { cls := .type "list", data := .seq vs.toArray } ∧ IntsAre vs ns ∧ ns.length ≤ n := by
  have hsh : WShape.hasAll [] args [.list .int] = true := (pre_splitW hpre).1
  have hc : l.pre.holds [] { args := args } = true := (pre_splitW hpre).2
  obtain ⟨d, r, rfl, h1, h2⟩ := hasAllW_cons hsh
  obtain rfl := hasAllW_nil h2
  obtain ⟨xs, rfl, h3⟩ := hasW_list h1
  obtain ⟨ns, rfl⟩ := items_int h3
  have hlen : ns.length ≤ n := by
    unfold OpenLaw.pre at hc
    have h4 : (WTm.not (.lt (.lit (.int (n : Int))) (.len (.arg 0)))).holds [] { args := [.list (ns.map .int)] } = true := by
      have h4 := (holds_andW hc).1
      rw [hn] at h4
      exact h4
    have h5 := condW_of h4 (w_not (w_lt w_lit (w_len_list (w_arg rfl))))
    rw [List.length_map] at h5
    refine Nat.le_of_not_lt fun q => ?_
    have q' : (n : Int) < ((ns.length : Nat) : Int) := by (clear hn h2 h3 h1 hpre hwl hsh hc h4 h5; omega)
    first
      | (rw [decide_eq_true q'] at h5; exact absurd h5 (by decide))
      | (simp at h5; omega)
  cases hwl with
  | cons w1 w2 =>
    cases w2
    cases w1 with
    | list ho hall => exact ⟨_, _, ns, rfl, rfl, ho, ints_of_wellAll ns _ hall, hlen⟩
theorem post_true (l : OpenLaw) (args : List WData) : l.row.toRowW.claim.post args (.bool true) args = true :=
  postW_of (r := l.row.toRowW) (X := (true == true))
    (show WShape.has [] (.bool true) .bool = true by first | rfl | decide | simp [WShape.has, WShape.arms, WShape.armsAll])
    (show (WTm.eq .res (.lit (.bool true))).value [] { args := args, res := some (.bool true), after := args } = some (.bool (true == true)) from w_eq_bool (w_res rfl) w_lit) rfl
theorem attach_call {l : OpenLaw} {n : Nat} {q : Program} {loose : List Str} {XP : (Str → Option Value) → Heap → Prop} {YP : World → Heap → Prop} {d : DefRec}
    (hn : l.most = some n) (hdf : d.params.defaults = [])
    (call : ∀ (w : World) (s₀ s₁ : Shared) (mg mb : Str → Option Value) (fa : Addr) (o : Obj) (pm cd doc : Value) (a : Addr) (vs : List Value) (ns : List Int),
      Ground q loose [] XP w s₀ mg mb s₁.heap → YP w s₁.heap →
      s₁.heap.get? fa = some o → o.data = .func (docDef d.name d.params d.body d.scope pm cd doc) → s₁.heap.CodeRec cd d.name → mg d.name = some (.ref fa) →
      s₁.heap.get? a = some { cls := .type "list", data := .seq vs.toArray } → IntsAre vs ns → ns.length ≤ n → s₁.gens = #[] →
      codeAny (model l.prog w) callerA (.call (.ref fa) ⟨[.ref a], []⟩) (fun r s' => r = .ok (.ret (.bool true)) ∧ OldK s₁.heap s'.heap ∧ s'.os = s₁.os ∧ AllBare s'.gens) s₁) :
    WalkO q loose XP YP l.row.toRowW d [] (fun f vs => PySem.call f vs) := by
  intro w s₀ s₁ mg mb G Y fa o pm cd doc dV kV ho hd hcd hD hmg hg args vals as hpre hlay hrd hwl hlo
  obtain rfl : dV = .none := Dflts.none hD hdf
  obtain rfl : kV = .none := Dflts.noKw hD
  obtain ⟨a, vs, ns, rfl, rfl, hobj, hints, hlen⟩ := script_of hn hpre hwl
  refine enter_call (codeAny_mono (call w s₀ s₁ mg mb fa o pm cd doc a vs ns G Y ho (fd_plain hd) hcd hmg hobj hints hlen hg) fun r s' hq => ?_)
  obtain ⟨rfl, h2, h3, h4⟩ := hq
  exact ⟨.inl ⟨.bool true, .bool true, [], rfl, fun _ => rfl, .bool true, post_true l _, fun _ => ⟨List.Pairwise.nil, fun _ hm => (nomatch hm)⟩⟩, h2, h3, h4⟩
section
variable {prog : Program} {w : World} {A : Around} {E : Value → Shared → Prop} {s : Shared} {K : Frag}
end
end Att
namespace L2
open PySem PySem.Spec PyProof.Rows
theorem vals_ints : ∀ {vs : List Value} {ns : List Int}, IntsAre vs ns → Vals (ns.map V.int) vs
  | _, _, .nil => .nil
  | _, _, .cons n t h => .cons ⟨t, rfl⟩ (vals_ints h)
noncomputable def Only (H : Hp) : Prop := ∀ b, H b = none ∨ ∃ o xs, H b = some (.frz o (.lst xs))
theorem law_call {P : Program} {w : World} {K : PySem.W.Frag} {mg mb : Str → Option Value} {CX : CXT} {k : Nat} {fa a : Addr} {fd : FuncData} {x : Str} {sp : Sp} {s₁ : Shared} {vs : List Value} {ns : List Int}
    (KX : K.In s₁.heap) (hns : s₁.heap.Ns mainGlobals mg) (hb : s₁.heap.Ns builtinsNs mb) (hbb : ∀ x : Str, x ≠ "__name__" → mb x = bootBuiltins x) (hlim : s₁.heap.NoLimit) (hg : s₁.gens = #[])
    (ha : s₁.heap.get? a = some { cls := .type "list", data := .seq vs.toArray }) (hi : IntsAre vs ns) (hl : ns.length ≤ sizeLine) (hr : Room k callerA)
    (F : ∀ base : Heap, K.In base → base.Ns mainGlobals mg → FnOk P w K mg base CX k fa fd [x] sp) (hbind : ∀ (s : Shared) (u : Value), BindsTo s fd ⟨[u], []⟩ [(x, u)])
    (hsp : ∀ H : Hp, Only H → SqL K H a (ns.map V.int) → sp [.ref a] H (fun v _ => v = .bl true) fun _ _ _ => False)
    (hCX : ∀ H e s', CX [] H s₁ (fun _ _ _ => False) e s' → False) :
    codeAny (model P w) callerA (.call (.ref fa) ⟨[.ref a], []⟩) (fun r s' => r = .ok (.ret (.bool true)) ∧ OldK s₁.heap s'.heap ∧ s'.os = s₁.os ∧ AllBare s'.gens) s₁ := by
  have rv := vals_ints hi
  have lenV := hi.length
  -- from an abstract heap in which nothing but the script may be tracked
  have core : ∀ H : Hp, Only H → SqL K H a (ns.map V.int) → HOk P w H s₁.heap → (∀ b, H b ≠ none → b = a) → (H a ≠ none → K.lookup a = none) →
      codeAny (model P w) callerA (.call (.ref fa) ⟨[.ref a], []⟩) (fun r s' => r = .ok (.ret (.bool true)) ∧ OldK s₁.heap s'.heap ∧ s'.os = s₁.os ∧ AllBare s'.gens) s₁ := by
    intro H hO hS hok hA hK
    have base_of : ∀ {b : Addr} {o : Obj}, s₁.heap.get? b = some o → H b = none → (hidT s₁.heap H).get? b = some o := fun e n => hidT_get e n
    have noA : ∀ {b : Addr} {o : Obj} {es : Array DictEntry} {ep : Nat}, s₁.heap.get? b = some o → o.data = .dict es ep → H b = none := fun {b o es ep} e d => by
      cases q : H b with
      | none => rfl
      | some u =>
        have e' : b = a := hA b (by rw [q]; simp)
        subst e'
        rw [ha] at e; cases e
        have d' : Data.seq vs.toArray _ = Data.dict es ep := d
        cases d'
    have nsK : ∀ {b : Addr} {m : Str → Option Value}, s₁.heap.Ns b m → (hidT s₁.heap H).Ns b m := fun {b m} ⟨o, es, ep, e, d, r⟩ => ⟨o, es, ep, base_of e (noA e d), d, r⟩
    have hKb : K.In (hidT s₁.heap H) := fun b o e => base_of (KX b o e) (by
      cases q : H b with
      | none => rfl
      | some u =>
        have e' : b = a := hA b (by rw [q]; simp)
        subst e'
        rw [hK (by rw [q]; simp)] at e; cases e)
    have hM : Mod K mg (hidT s₁.heap H) := ⟨hKb, nsK hns, ⟨mb, nsK hb, hbb⟩, let ⟨mc, h1, h2⟩ := hlim; ⟨mc, nsK h1, h2⟩⟩
    have e0 : Env0 P w K mg (hidT s₁.heap H) callerA [] s₁ H := ⟨rfl, hM, fun b o e => of_hidT e, Nat.le_of_eq (hidT_size _ _), trivial, fun b hb => absurd (show b ∈ ([] : List Addr) from hb) (by simp), hok, .of_eq hg⟩
    refine codeAny_mono ((F _ hKb (nsK hns)).run callerA [] s₁ H ⟨[.ref a], []⟩ [.ref a] [.ref a] _ _ hr e0 (hbind s₁ (.ref a)) (.cons rfl .nil) (hsp H hO hS)) fun r s' h => ?_
    cases r with
    | error e => exact (hCX H e s' h).elim
    | ok fl =>
      cases fl with
      | next => exact False.elim h
      | brk => exact False.elim h
      | cont => exact False.elim h
      | ret u =>
        obtain ⟨v, H', os, bare, un, hok', r', q⟩ := h
        have q' : v = .bl true := q
        subst q'
        obtain rfl : u = Value.bool true := r'
        refine ⟨rfl, OldK.of_keep fun b o e => ?_, os, bare⟩
        cases q : H b with
        | none => exact un.keep b o e q (by intro z; exact absurd (show b ∈ ([] : List Addr) from z) (by simp)) (by simp)
        | some u =>
          rcases hO b with z | ⟨ob, xs, z⟩
          · rw [q] at z; cases z
          · have z2 := un.frzs b ob _ z
            obtain ⟨e1, _⟩ := hok b _ z
            obtain ⟨e2, _⟩ := hok' b _ z2
            rw [e] at e1; cases e1
            exact e2
  cases hk : K.lookup a with
  | some o =>
    -- the script is one of the module's own objects
    have e := KX a o hk
    rw [ha] at e
    cases e
    refine core (fun _ => none) (fun _ => .inl rfl) (.inr ⟨_, vs.toArray, _, hk, rfl, rfl, rfl, by rw [List.size_toArray, lenV]; exact hl, by simpa using rv⟩) (fun b u z => by have z' : (none : Option HO) = some u := z; cases z') (fun b z => absurd rfl z) fun z => absurd rfl z
  | none =>
    refine core (fun b => if b = a then some (.frz { cls := .type "list", data := .seq vs.toArray } (.lst (ns.map V.int))) else none) (fun b => ?_) (.inl (.inr ⟨{ cls := .type "list", data := .seq vs.toArray }, if_pos rfl⟩)) (fun b u z => ?_) (fun b z => ?_) fun _ => hk
    · by_cases hb : b = a
      · exact .inr ⟨_, _, if_pos hb⟩
      · exact .inl (if_neg hb)
    · by_cases hb : b = a
      · have z' := (if_pos hb).symm.trans z
        cases z'
        subst hb
        exact ⟨ha, by rw [List.length_map]; exact hl, vs, _, rv, ha⟩
      · have z' := (if_neg hb).symm.trans z
        cases z'
    · by_cases hb : b = a
      · exact hb
      · exact absurd (if_neg hb) z
end L2
namespace L2
open PySem PySem.Spec PyProof.Rows
theorem walk_of {l : PySem.W.OpenLaw} {n k : Nat} {q : Program} {loose : List Str} {XP : (Str → Option Value) → Heap → Prop} {YP : World → Heap → Prop} {d : DefRec} {K : Params → PySem.W.Frag} {CX : World → CXT} {sp : World → Sp} {x : Str}
    (hn : l.most = some n) (hn2 : n ≤ sizeLine) (hdf : d.params.defaults = []) (hr : Room k callerA)
    (hY : ∀ (w : World) (h : Heap), YP w h → (K w.params).In h)
    (F : ∀ (w : World) (mg : Str → Option Value) (fa : Addr) (h : Heap), (K w.params).In h → h.Ns mainGlobals mg → mg d.name = some (.ref fa) →
      ∃ fd : FuncData, (∀ (s : Shared) (u : Value), BindsTo s fd ⟨[u], []⟩ [(x, u)]) ∧
        ∀ base : Heap, (K w.params).In base → base.Ns mainGlobals mg → FnOk l.prog w (K w.params) mg base (CX w) k fa fd [x] (sp w))
    (hsp : ∀ (w : World) (H : Hp) (a : Addr) (ns : List Int), ns.length ≤ n → Only H → SqL (K w.params) H a (ns.map V.int) → sp w [.ref a] H (fun v _ => v = .bl true) fun _ _ _ => False)
    (hCX : ∀ (w : World) (H : Hp) (s : Shared) (e : Value) (s' : Shared), CX w [] H s (fun _ _ _ => False) e s' → False) :
    PySem.W.WalkO q loose XP YP l.row.toRowW d [] (fun f vs => PySem.call f vs) := by
  refine Att.attach_call hn hdf fun w s₀ s₁ mg mb fa o pm cd doc a vs ns G Y ho hd hcd hmg hobj hints hlen hg => ?_
  have KX := hY w _ Y
  obtain ⟨fd, hb, hF⟩ := F w mg fa _ KX G.T.g hmg
  exact law_call KX G.T.g G.T.b G.T.builtins G.T.nolimit hg hobj hints (Nat.le_trans hlen hn2) hr hF hb (fun H hO hS => hsp w H a ns hlen hO hS) fun H e s' => hCX w H s₁ e s'
end L2
namespace L2
open PySem PySem.Spec PyProof.Rows
noncomputable def defArgs (s : Stmt) : Arguments := match s with
  | .FunctionDef _ a _ _ _ _ _ _ _ _ => a
  | _ => { posonlyargs := [], args := [], vararg := none, kwonlyargs := [], kw_defaults := [], kwarg := none, defaults := [] }
noncomputable def defBody (s : Stmt) : List Stmt := match s with
  | .FunctionDef _ _ b _ _ _ _ _ _ _ => b
  | _ => []
noncomputable def defScope (s : Stmt) : Scope := match s with
  | .FunctionDef _ _ _ _ _ _ sc _ _ _ => sc
  | _ => { kind := .function, names := [], isGenerator := false, isCoroutine := false }
noncomputable abbrev CX0 : CXT := fun _ _ _ _ _ _ => False
noncomputable abbrev E0 : XK := fun _ _ _ => False
theorem pass0 {X : Cx} : Passes CX0 X E0 := fun _ _ _ _ _ _ _ h => h.elim
structure Fun (K : PySem.W.Frag) (x qual : Str) (st : Stmt) (f : Addr) (fd : FuncData) : Prop where
  ex : ∃ (oc : Value) (od : Option Addr) (kV doc pm : Value) (an : Option Addr) (cdv ct : Value) (osl : Array (Option Value)),
    fd = PySem.W.fnOf x qual (defArgs st) (defBody st) (defScope st) .none kV doc pm an cdv ct ∧ K.lookup f = some ⟨oc, od, .func fd, osl⟩ ∧ PySem.W.codeIn K cdv qual = true
  kp : PySem.W.keepIn K (.ref f) = true
section
variable {P : Program} {w : World} {K : PySem.W.Frag} {mg : Str → Option Value} {base : Heap}
theorem Fun.ok {x qual : Str} {st : Stmt} {f : Addr} {fd : FuncData} {N ps : List Str} {k : Nat} {sp : Sp} (F : Fun K x qual st f fd) (S : FnScope N ps (defScope st)) (len : ∀ vs H Q E, sp vs H Q E → vs.length = ps.length)
    (hbody : ∀ (cdv : Value) (A : Around) (outer : List Env) (s : Shared) (H : Hp) (vs : List V) (Q : VK) (E : XK), Room k (A.deeper (envOfC qual (defScope st) s.heap.objs.size f cdv)) → sp vs H Q E →
      ∃ t, PSs (cxOf CX0 P w K mg base N qual (defScope st) f cdv A outer s H E).nox (defBody st) t ∧ t { nx := fun _ H' => Q .non H', rt := Q } (start N vs) H) : FnOk P w K mg base CX0 (k + 1) f fd ps sp := by
  obtain ⟨oc, od, kV, doc, pm, an, cdv, ct, osl, rfl, lk, hcd⟩ := F.ex
  refine fn_of lk hcd S len fun A outer s H vs Q E hr hsp => ?_
  obtain ⟨t, h, q⟩ := hbody cdv A outer s H vs Q E hr hsp
  exact ⟨t, h.nox, q⟩
theorem Fun.binds {x qual : Str} {st : Stmt} {f : Addr} {fd : FuncData} {ps : List Str} (F : Fun K x qual st f fd)
    (h : ∀ (kV doc pm : Value) (an : Option Addr) (cdv ct : Value) (us : List Value), us.length = ps.length → bindArgs (PySem.W.fnOf x qual (defArgs st) (defBody st) (defScope st) .none kV doc pm an cdv ct) ⟨us, []⟩ = pure (ps.zip us)) : Binds K fd ps [] := by
  obtain ⟨oc, od, kV, doc, pm, an, cdv, ct, osl, rfl, lk, hcd⟩ := F.ex
  exact .all (h kV doc pm an cdv ct)
theorem fun_mk {x qual : Str} {st : Stmt} {f : Addr} {oc : Value} {od an : Option Addr} {osl : Array (Option Value)} {kV doc pm cdv ct : Value} (l : K.lookup f = some ⟨oc, od, .func (PySem.W.fnOf x qual (defArgs st) (defBody st) (defScope st) .none kV doc pm an cdv ct), osl⟩)
    (c : PySem.W.codeIn K cdv qual = true) (k : PySem.W.keepIn K (.ref f) = true) : Fun K x qual st f (PySem.W.fnOf x qual (defArgs st) (defBody st) (defScope st) .none kV doc pm an cdv ct) := ⟨⟨oc, od, kV, doc, pm, an, cdv, ct, osl, rfl, l, c⟩, k⟩
end
section
variable {X : Cx}
end
end L2
set_option maxRecDepth 100000
set_option linter.all false
namespace L2
open PySem PySem.Spec PyProof.Rows
section
variable {κ : Type} [DecidableEq κ]
end
section
variable {P : Program} {w : World} {H : Hp} {h : Heap} {a : Addr}
end
section
variable {X : Cx} {pins : List (Addr × Obj)} {σ : St} {H : Hp} {s : Shared} {a : Addr} {y v : V} {u r : Value} {o : Option V} {A : Around} {E : Value → Shared → Prop}
theorem Inv.bigD (I : Inv X pins σ H s) : sysModules < s.heap.objs.size := by
  have h : mainGlobals < s.heap.objs.size := (I.mod.glob.keeps I.bk).lt
  exact Nat.lt_trans (by decide) h
theorem d_write {h' : Heap} {t' : Nat} {ob : HO} (I : Inv X pins σ H s) (mu : Mut (H a)) (hs : Heap.SameBut a s.heap h') (he : ∃ q, h'.get? a = some q) (new : ObjOk X.prog X.w (upd H a ob) h' a ob) :
    Inv X pins σ (upd H a ob) { s with heap := h', toks := t' } :=
  I.write (x := a) (e := a) mu (.inl rfl) (fun b q hb z => (hs.2 b hb).trans z) he new
end
section
variable {X : Cx} {pins : List (Addr × Obj)} {σ : St} {H : Hp} {s : Shared} {a : Addr} {kvs : List (Key × V)} {k : Key} {u : Value} {A : Around} {E : Value → Shared → Prop}
end
section
variable {X : Cx} {o i e value : Expr} {pos pos' tpos : Pos} {td ty tv : TE}
end
section
variable {X : Cx} {pos : Pos}
end
structure M1 (X : Cx) (o : Expr) (m : Str) (apos : Pos) (e : Expr) (cpos : Pos) : Prop where
  base : attributeBase o m X.env (eval o X.env) = eval o X.env
  few : ((backTo cpos (starEach [e] X.env)).all (fun x => !x.1) && (backToKw cpos (keywordEach [] X.env)).all (fun x => x.1.isSome)
    && decide (([e] : List Expr).length + ([] : List Keyword).length + (if ([] : List Keyword).isEmpty then 0 else 1) < 30)) = true
  line : (apos.endLine == cpos.line) = true
  trees : backTo cpos (starEach [e] X.env) = [(false, eval e X.env)]
structure M2 (X : Cx) (o : Expr) (m : Str) (apos : Pos) (e f : Expr) (cpos : Pos) : Prop where
  base : attributeBase o m X.env (eval o X.env) = eval o X.env
  few : ((backTo cpos (starEach [e, f] X.env)).all (fun x => !x.1) && (backToKw cpos (keywordEach [] X.env)).all (fun x => x.1.isSome)
    && decide (([e, f] : List Expr).length + ([] : List Keyword).length + (if ([] : List Keyword).isEmpty then 0 else 1) < 30)) = true
  line : (apos.endLine == cpos.line) = true
  trees : backTo cpos (starEach [e, f] X.env) = [(false, eval e X.env), (false, eval f X.env)]
section
variable {X : Cx} {pins : List (Addr × Obj)} {σ : St} {H : Hp} {s : Shared} {a : Addr} {y d : V} {u r : Value} {o : Option V} {A : Around} {E : Value → Shared → Prop}
end
section
variable {X : Cx} {o e f : Expr} {apos cpos : Pos} {td ty tx : TE}
end
section
variable {X : Cx} {pins : List (Addr × Obj)} {σ : St} {H : Hp} {s : Shared} {a : Addr} {kvs : List (Key × V)} {A : Around} {E : Value → Shared → Prop}
end
section
variable {X : Cx} {pins : List (Addr × Obj)} {σ : St} {H : Hp} {s : Shared} {a : Addr} {y : V} {u : Value} {A : Around} {E : Value → Shared → Prop}
end
end L2
namespace L2
open PySem PySem.Spec PyProof.Rows
inductive W where
  | non | bl (b : Bool) | int (i : Int) | str (x : Str) | ref (a : Addr) | tup (xs : List W) | scr (ns : List Int)
inductive GO where
  | lst (ws : List W)
  | dct
  | exc (C : Addr)
  | dic (kvs : List (Key × W))
  | fdc (o : Obj) (us : List (Key × V)) (kvs : List (Key × W))
  | ins (C : Addr) (fs : List (Str × W))
  | tbl (ps : Array Value)
  | any (P : Hp → Addr → Prop)
noncomputable abbrev Gp := Addr → Option GO
noncomputable def updG (G : Gp) (a : Addr) (g : GO) : Gp := fun b => if b = a then some g else G b
theorem updG_same {G : Gp} {a : Addr} {g : GO} : updG G a g a = some g := by unfold updG; rw [if_pos rfl]
theorem updG_ne {G : Gp} {a b : Addr} {g : GO} (h : b ≠ a) : updG G a g b = G b := by unfold updG; rw [if_neg h]
noncomputable def Scr (K : PySem.W.Frag) (H : Hp) (a : Addr) (ns : List Int) : Prop :=
  (∃ o, H a = some (.frz o (.lst (ns.map V.int)))) ∨
    ∃ (o : Obj) (its : Array Value) (n : Nat), K.lookup a = some o ∧ o.cls = .type "list" ∧ o.dict = none ∧ o.data = .seq its n ∧ its.size ≤ sizeLine ∧ Vals (ns.map V.int) its.toList
theorem Scr.sq {K : PySem.W.Frag} {H : Hp} {a : Addr} {ns : List Int} (h : Scr K H a ns) : SqL K H a (ns.map V.int) := by
  rcases h with ⟨o, h⟩ | h
  · exact .inl (.inr ⟨o, h⟩)
  · exact .inr h
structure TLe (H H1 : Hp) : Prop where
  tup : ∀ a xs, H a = some (.tup xs) → H1 a = some (.tup xs)
  frz : ∀ a o xs, H a = some (.frz o (.lst xs)) → H1 a = some (.frz o (.lst xs))
theorem TLe.refl (H : Hp) : TLe H H := ⟨fun _ _ h => h, fun _ _ _ h => h⟩
theorem TLe.trans {H H1 H2 : Hp} (a : TLe H H1) (b : TLe H1 H2) : TLe H H2 :=
  ⟨fun x xs h => b.tup x xs (a.tup x xs h), fun x o u h => b.frz x o u (a.frz x o u h)⟩
theorem TLe.new {H : Hp} {p : Addr} (hp : H p = none) (o : HO) : TLe H (upd H p o) :=
  ⟨fun _ _ h => by rw [upd_ne (ne_of_none h hp)]; exact h, fun _ _ _ h => by rw [upd_ne (ne_of_none h hp)]; exact h⟩
theorem TLe.lst {H : Hp} {p : Addr} {xs : List V} (hp : H p = some (.lst xs)) (o : HO) : TLe H (upd H p o) :=
  ⟨fun _ _ h => by rw [upd_ne (ne_of h hp (by intro z; cases z))]; exact h, fun _ _ _ h => by rw [upd_ne (ne_of h hp (by intro z; cases z))]; exact h⟩
mutual
inductive Rep (K : PySem.W.Frag) (H : Hp) : W → V → Prop where
  | non : Rep K H .non .non
  | bl (b : Bool) : Rep K H (.bl b) (.bl b)
  | int (i : Int) : Rep K H (.int i) (.int i)
  | str (x : Str) : Rep K H (.str x) (.str x)
  | ref (a : Addr) : Rep K H (.ref a) (.ref a)
  | tup {a : Addr} {ws : List W} {xs : List V} (h : H a = some (.tup xs)) (r : Reps K H ws xs) : Rep K H (.tup ws) (.ref a)
  | scr {a : Addr} {ns : List Int} (h : Scr K H a ns) : Rep K H (.scr ns) (.ref a)
inductive Reps (K : PySem.W.Frag) (H : Hp) : List W → List V → Prop where
  | nil : Reps K H [] []
  | cons {w : W} {v : V} {ws : List W} {vs : List V} (r : Rep K H w v) (rs : Reps K H ws vs) : Reps K H (w :: ws) (v :: vs)
end
section
variable {K : PySem.W.Frag} {H H1 : Hp}
theorem Scr.mono {a : Addr} {ns : List Int} (t : TLe H H1) (h : Scr K H a ns) : Scr K H1 a ns := by
  rcases h with ⟨o, h⟩ | h
  · exact .inl ⟨o, t.frz _ _ _ h⟩
  · exact .inr h
mutual
theorem Rep.mono (t : TLe H H1) : ∀ {w : W} {v : V}, Rep K H w v → Rep K H1 w v
  | _, _, .non => .non
  | _, _, .bl b => .bl b
  | _, _, .int i => .int i
  | _, _, .str x => .str x
  | _, _, .ref a => .ref a
  | _, _, .tup h r => .tup (t.tup _ _ h) (Reps.mono t r)
  | _, _, .scr h => .scr (h.mono t)
theorem Reps.mono (t : TLe H H1) : ∀ {ws : List W} {vs : List V}, Reps K H ws vs → Reps K H1 ws vs
  | _, _, .nil => .nil
  | _, _, .cons r rs => .cons (Rep.mono t r) (Reps.mono t rs)
end
theorem Reps.length : ∀ {ws : List W} {vs : List V}, Reps K H ws vs → ws.length = vs.length
  | _, _, .nil => rfl
  | _, _, .cons _ rs => congrArg (· + 1) rs.length
theorem Reps.append : ∀ {ws us : List W} {vs xs : List V}, Reps K H ws vs → Reps K H us xs → Reps K H (ws ++ us) (vs ++ xs)
  | _, _, _, _, .nil, s => s
  | _, _, _, _, .cons r rs, s => .cons r (rs.append s)
theorem Reps.take : ∀ {ws : List W} {vs : List V} (n : Nat), Reps K H ws vs → Reps K H (ws.take n) (vs.take n)
  | _, _, 0, _ => .nil
  | _, _, _ + 1, .nil => .nil
  | _, _, n + 1, .cons r rs => .cons r (rs.take n)
theorem Reps.drop : ∀ {ws : List W} {vs : List V} (n : Nat), Reps K H ws vs → Reps K H (ws.drop n) (vs.drop n)
  | _, _, 0, r => r
  | _, _, _ + 1, .nil => .nil
  | _, _, n + 1, .cons _ rs => rs.drop n
theorem Reps.get : ∀ {ws : List W} {vs : List V} {i : Nat} {w : W}, Reps K H ws vs → ws[i]? = some w → ∃ v, vs[i]? = some v ∧ Rep K H w v
  | _, _, _, _, .nil, e => by simp at e
  | _, _, 0, _, .cons r _, e => by simp at e; subst e; exact ⟨_, rfl, r⟩
  | _, _, i + 1, w, .cons _ rs, e => by
    obtain ⟨v, h1, h2⟩ := Reps.get (i := i) (w := w) rs (by simpa using e)
    exact ⟨v, by simpa using h1, h2⟩
theorem Reps.ints : ∀ ns : List Int, Reps K H (ns.map W.int) (ns.map V.int)
  | [] => .nil
  | n :: ns => .cons (.int n) (Reps.ints ns)
end
noncomputable abbrev bmV : List Value := [.type "ValueError", .type "Exception", .type "BaseException", .type "object"]
structure XC (K : PySem.W.Frag) (C : Addr) (bm : List Value) : Prop where
  obj : ∀ h : Heap, K.In h → ∃ N nm qn bs hdct sn sub ab col dd k0 k1 k2 k3 k5 mN, h.get? C = some (excClassObj nm qn C N bs bm hdct sn sub ab col dd k0 k1 k2 k3 k5 "ValueError.__new__") ∧ h.Ns N mN ∧ mN "__init__" = none ∧ OwnTail h bmV bm
  mro : ∀ v, PySem.W.mroIn K C v = some ((Value.ref C :: bm).contains v)
structure XQ (K : PySem.W.Frag) (C : Addr) : Prop where
  ga : PySem.W.findIn K (.ref C) "__getattribute__" = some (some (.builtin "BaseException.__getattribute__"))
  gx : PySem.W.findIn K (.ref C) "__getattr__" = some none
  gc : PySem.W.findIn K (.ref C) "__class__" = some (some (.builtin "object.__class__"))
structure XD (K : PySem.W.Frag) (D : Addr) : Prop where
  cls : ∃ cd, PySem.W.clsIn K D = some cd
  ty : PySem.W.typeIn K (.ref D) = some (.type "type")
  ins : PySem.W.instIn K (.ref D) (.type "type") = some true
structure XO (K : PySem.W.Frag) (C : Addr) : Prop where
  c : ∃ bm, XC K C bm
  q : XQ K C
  d : XD K C
noncomputable def GOk (K : PySem.W.Frag) (H : Hp) (a : Addr) : GO → Prop
  | .lst ws => ws.length ≤ 100000 ∧ ∃ xs, H a = some (.lst xs) ∧ Reps K H ws xs
  | .dct => H a = some (.dK [])
  | .exc C => XO K C ∧ H a = some (.ext fun h => ∃ o, h.get? a = some o ∧ o.cls = .ref C)
  | .dic kvs => kvs.length ≤ 100000 ∧ ∃ kvs', H a = some (.dK kvs') ∧ kvs'.map (·.1) = kvs.map (·.1) ∧ Reps K H (kvs.map (·.2)) (kvs'.map (·.2))
  | .fdc o us kvs => kvs.length ≤ 100000 ∧ H a = some (.frz o (.dK us)) ∧ us.map (·.1) = kvs.map (·.1) ∧ Reps K H (kvs.map (·.2)) (us.map (·.2))
  | .ins C fs => fs.length ≤ 100 ∧ ∃ dx fs', H a = some (.ins C dx fs') ∧ fs'.map (·.1) = fs.map (·.1) ∧ Reps K H (fs.map (·.2)) (fs'.map (·.2))
  | .tbl ps => H a = some (.tbl ps)
  | .any P => P H a ∧ (∃ o, H a = some o) ∧ ∀ H1 H2 : Hp, TLe H1 H2 → H2 a = H1 a → P H1 a → P H2 a
noncomputable def RelG (K : PySem.W.Frag) (H : Hp) (G : Gp) : Prop := ∀ a g, G a = some g → GOk K H a g
section
variable {K : PySem.W.Frag} {H H1 : Hp} {G : Gp} {p a : Addr} {g : GO}
theorem GOk.has (h : GOk K H a g) : ∃ o, H a = some o := by
  cases g with
  | lst ws => obtain ⟨_, _, e, _⟩ := h; exact ⟨_, e⟩
  | dct => exact ⟨_, h⟩
  | exc C => exact ⟨_, h.2⟩
  | dic kvs => obtain ⟨_, _, e, _⟩ := h; exact ⟨_, e⟩
  | fdc o us kvs => obtain ⟨_, e, _⟩ := h; exact ⟨_, e⟩
  | ins C fs => obtain ⟨_, _, _, e, _⟩ := h; exact ⟨_, e⟩
  | tbl ps => exact ⟨_, h⟩
  | any P => exact h.2.1
theorem GOk.mono (t : TLe H H1) (e : H1 a = H a) (h : GOk K H a g) : GOk K H1 a g := by
  cases g with
  | lst ws => obtain ⟨l, xs, e1, r⟩ := h; exact ⟨l, xs, e.trans e1, r.mono t⟩
  | dct => exact e.trans h
  | exc C => exact ⟨h.1, e.trans h.2⟩
  | dic kvs => obtain ⟨l, xs, e1, n, r⟩ := h; exact ⟨l, xs, e.trans e1, n, r.mono t⟩
  | fdc o us kvs => obtain ⟨l, e1, n, r⟩ := h; exact ⟨l, e.trans e1, n, r.mono t⟩
  | ins C fs => obtain ⟨l, dx, xs, e1, n, r⟩ := h; exact ⟨l, dx, xs, e.trans e1, n, r.mono t⟩
  | tbl ps => exact e.trans h
  | any P => exact ⟨h.2.2 _ _ t e h.1, (let ⟨o, e1⟩ := h.2.1; ⟨o, e.trans e1⟩), h.2.2⟩
theorem RelG.fresh (h : RelG K H G) (hp : H p = none) : G p = none := by
  cases e : G p with
  | none => rfl
  | some g =>
    obtain ⟨o, e1⟩ := (h p _ e).has
    rw [hp] at e1; cases e1
theorem RelG.upd (h : RelG K H G) (t : TLe H (upd H p o)) (hG : G p = none) : RelG K (L2.upd H p o) G := fun a g e => by
  have hne : a ≠ p := fun z => by rw [z, hG] at e; cases e
  exact (h a g e).mono t (upd_ne hne)
theorem RelG.keep (h : RelG K H G) (hp : H p = none) (o : HO) : RelG K (L2.upd H p o) G := h.upd (TLe.new hp o) (h.fresh hp)
theorem RelG.lay (h : RelG K H G) {o : HO} (t : TLe H (L2.upd H p o)) (n : GOk K (L2.upd H p o) p g) : RelG K (L2.upd H p o) (updG G p g) := fun a g' e => by
  by_cases hb : a = p
  · subst hb
    rw [updG_same] at e; cases e
    exact n
  · rw [updG_ne hb] at e
    exact (h a g' e).mono t (upd_ne hb)
theorem RelG.put (h : RelG K H G) {xs : List V} {ws : List W} (t : TLe H (L2.upd H p (.lst xs))) (r : Reps K H ws xs) (hl : ws.length ≤ 100000) : RelG K (L2.upd H p (.lst xs)) (updG G p (.lst ws)) := h.lay t ⟨hl, xs, upd_same, r.mono t⟩
noncomputable def GLe (G0 G : Gp) : Prop := ∀ a g, G0 a = some g → G a = some g
theorem RelG.le {G0 : Gp} (h : RelG K H G) (l : GLe G0 G) : RelG K H G0 := fun a g e => h a g (l a g e)
theorem GLe.refl (G : Gp) : GLe G G := fun _ _ h => h
theorem GLe.trans {G0 G1 G2 : Gp} (a : GLe G0 G1) (b : GLe G1 G2) : GLe G0 G2 := fun x g h => b x g (a x g h)
theorem GLe.new {g : GO} (hp : G p = none) : GLe G (updG G p g) := fun a u e => by
  rw [updG_ne (fun z => by rw [z, hp] at e; cases e)]; exact e
end
noncomputable abbrev WSt := List (Option W)
noncomputable def RelSt (K : PySem.W.Frag) (H : Hp) (τ : WSt) (σ : St) : Prop := τ.length = σ.length ∧ ∀ (i : Nat) (w : W), τ[i]? = some (some w) → ∃ v, σ[i]? = some (some v) ∧ Rep K H w v
section
variable {K : PySem.W.Frag} {H H1 : Hp} {τ : WSt} {σ : St}
theorem RelSt.mono (t : TLe H H1) (h : RelSt K H τ σ) : RelSt K H1 τ σ := ⟨h.1, fun i w e => let ⟨v, e1, r⟩ := h.2 i w e; ⟨v, e1, r.mono t⟩⟩
theorem RelSt.set (h : RelSt K H τ σ) {w : W} {v : V} (r : Rep K H w v) (i : Nat) : RelSt K H (τ.set i (some w)) (σ.set i (some v)) := by
  refine ⟨by simpa using h.1, fun j u e => ?_⟩
  by_cases hj : i = j
  · subst hj
    by_cases hl : i < τ.length
    · rw [List.getElem?_set_self hl] at e
      cases e
      exact ⟨v, List.getElem?_set_self (by rw [← h.1]; exact hl), r⟩
    · rw [List.getElem?_eq_none (by simpa using hl)] at e; cases e
  · rw [List.getElem?_set_ne hj] at e
    obtain ⟨u', e1, r1⟩ := h.2 j u e
    exact ⟨u', by rw [List.getElem?_set_ne hj]; exact e1, r1⟩
theorem RelSt.start {N : List Str} {ws : List W} {vs : List V} (r : Reps K H ws vs) : RelSt K H (ws.map some ++ List.replicate (N.length - ws.length) none) (L2.start N vs) := by
  unfold L2.start
  refine ⟨by simp [r.length], fun i w e => ?_⟩
  by_cases hi : i < ws.length
  · rw [List.getElem?_append_left (by simpa using hi), List.getElem?_map] at e
    cases e1 : ws[i]? with
    | none => rw [e1] at e; cases e
    | some u =>
      rw [e1] at e; cases e
      obtain ⟨v, e2, rv⟩ := r.get e1
      refine ⟨v, ?_, rv⟩
      rw [List.getElem?_append_left (by simpa [← r.length] using hi), List.getElem?_map, e2]
      rfl
  · rw [List.getElem?_append_right (by simpa using hi), List.getElem?_replicate] at e
    split at e <;> cases e
end
noncomputable abbrev WK := W → Gp → Prop
noncomputable abbrev WE := WSt → Gp → WK → Prop
noncomputable abbrev WT := WSt → Gp → (Bool → Gp → Prop) → Prop
noncomputable abbrev WA := WSt → Gp → (List W → Gp → Prop) → Prop
structure WEnds where
  nx : WSt → Gp → Prop
  rt : WK
  bk : WSt → Gp → Prop := fun _ _ => False
  ct : WSt → Gp → Prop := fun _ _ => False
noncomputable abbrev WS := WEnds → WSt → Gp → Prop
noncomputable abbrev WG := W → WSt → Gp → (WSt → Gp → Prop) → Prop
noncomputable abbrev WGs := List W → WSt → Gp → (WSt → Gp → Prop) → Prop
noncomputable def LEx (K : PySem.W.Frag) (t : WE) : TE := fun σ H Q => ∃ τ G q, RelSt K H τ σ ∧ RelG K H G ∧ t τ G q ∧ ∀ v H1 w G1, TLe H H1 → Rep K H1 w v → RelG K H1 G1 → q w G1 → Q v H1
noncomputable def LTx (K : PySem.W.Frag) (t : WT) : TT := fun σ H Q => ∃ τ G q, RelSt K H τ σ ∧ RelG K H G ∧ t τ G q ∧ ∀ b H1 G1, TLe H H1 → RelG K H1 G1 → q b G1 → Q b H1
noncomputable def LA (K : PySem.W.Frag) (t : WA) : TA := fun σ H Q => ∃ τ G q, RelSt K H τ σ ∧ RelG K H G ∧ t τ G q ∧ ∀ vs H1 ws G1, TLe H H1 → Reps K H1 ws vs → RelG K H1 G1 → q ws G1 → Q vs H1
structure LEnds (K : PySem.W.Frag) (H : Hp) (d : WEnds) (D : Ends) : Prop where
  nx : ∀ σ1 H1 τ1 G1, TLe H H1 → RelSt K H1 τ1 σ1 → RelG K H1 G1 → d.nx τ1 G1 → D.nx σ1 H1
  rt : ∀ v H1 w G1, TLe H H1 → Rep K H1 w v → RelG K H1 G1 → d.rt w G1 → D.rt v H1
  bk : ∀ σ1 H1 τ1 G1, TLe H H1 → RelSt K H1 τ1 σ1 → RelG K H1 G1 → d.bk τ1 G1 → D.bk σ1 H1
  ct : ∀ σ1 H1 τ1 G1, TLe H H1 → RelSt K H1 τ1 σ1 → RelG K H1 G1 → d.ct τ1 G1 → D.ct σ1 H1
noncomputable def LS (K : PySem.W.Frag) (t : WS) : TS := fun D σ H => ∃ τ G d, RelSt K H τ σ ∧ RelG K H G ∧ t d τ G ∧ LEnds K H d D
theorem LEx.el {K : PySem.W.Frag} {t : WE} {σ : St} {H : Hp} {Q : VK} {P : Prop} (h : LEx K t σ H Q) (k : ∀ (τ : WSt) (G : Gp) (q : WK), RelSt K H τ σ → RelG K H G → t τ G q → (∀ v H1 w G1, TLe H H1 → Rep K H1 w v → RelG K H1 G1 → q w G1 → Q v H1) → P) : P := by
  obtain ⟨τ, G, q, a, b, c, d⟩ := h
  exact k τ G q a b c d
theorem LTx.el {K : PySem.W.Frag} {t : WT} {σ : St} {H : Hp} {Q : Bool → Hp → Prop} {P : Prop} (h : LTx K t σ H Q) (k : ∀ (τ : WSt) (G : Gp) (q : Bool → Gp → Prop), RelSt K H τ σ → RelG K H G → t τ G q → (∀ b H1 G1, TLe H H1 → RelG K H1 G1 → q b G1 → Q b H1) → P) : P := by
  obtain ⟨τ, G, q, a, b, c, d⟩ := h
  exact k τ G q a b c d
theorem LA.el {K : PySem.W.Frag} {t : WA} {σ : St} {H : Hp} {Q : List V → Hp → Prop} {P : Prop} (h : LA K t σ H Q) (k : ∀ (τ : WSt) (G : Gp) (q : List W → Gp → Prop), RelSt K H τ σ → RelG K H G → t τ G q → (∀ vs H1 ws G1, TLe H H1 → Reps K H1 ws vs → RelG K H1 G1 → q ws G1 → Q vs H1) → P) : P := by
  obtain ⟨τ, G, q, a, b, c, d⟩ := h
  exact k τ G q a b c d
theorem LS.el {K : PySem.W.Frag} {t : WS} {D : Ends} {σ : St} {H : Hp} {P : Prop} (h : LS K t D σ H) (k : ∀ (τ : WSt) (G : Gp) (d : WEnds), RelSt K H τ σ → RelG K H G → t d τ G → LEnds K H d D → P) : P := by
  obtain ⟨τ, G, q, a, b, c, d⟩ := h
  exact k τ G q a b c d
noncomputable def LG (K : PySem.W.Frag) (t : WG) : TG := fun v σ H Q => ∃ w τ G q, Rep K H w v ∧ RelSt K H τ σ ∧ RelG K H G ∧ t w τ G q ∧ ∀ σ1 H1 τ1 G1, TLe H H1 → RelSt K H1 τ1 σ1 → RelG K H1 G1 → q τ1 G1 → Q σ1 H1
noncomputable def LGs (K : PySem.W.Frag) (t : WGs) : TGs := fun vs σ H Q => ∃ ws τ G q, Reps K H ws vs ∧ RelSt K H τ σ ∧ RelG K H G ∧ t ws τ G q ∧ ∀ σ1 H1 τ1 G1, TLe H H1 → RelSt K H1 τ1 σ1 → RelG K H1 G1 → q τ1 G1 → Q σ1 H1
noncomputable def QE (X : Cx) (e : Expr) (t : WE) : Prop := PE X e (LEx X.K t)
noncomputable def QT (X : Cx) (e : Expr) (t : WT) : Prop := PT X e (LTx X.K t)
noncomputable def QW (X : Cx) (e : Expr) (t : WT) : Prop := PW X e (LTx X.K t)
noncomputable def QA (X : Cx) (es : List Expr) (t : WA) : Prop := PA X es (LA X.K t)
noncomputable def QS (X : Cx) (st : Stmt) (t : WS) : Prop := PS X st (LS X.K t)
noncomputable def QSs (X : Cx) (st : List Stmt) (t : WS) : Prop := PSs X st (LS X.K t)
noncomputable def QG (X : Cx) (e : Expr) (t : WG) : Prop := PG X e (LG X.K t)
noncomputable def QGs (X : Cx) (es : List Expr) (t : WGs) : Prop := PGs X es (LGs X.K t)
section
variable {X : Cx}
theorem PE.imp {e : Expr} {t t' : TE} (h : PE X e t) (f : ∀ σ H Q, t' σ H Q → t σ H Q) : PE X e t' := fun pins s σ H Q I q => h pins s σ H Q I (f _ _ _ q)
theorem PT.imp {e : Expr} {t t' : TT} (h : PT X e t) (f : ∀ σ H Q, t' σ H Q → t σ H Q) : PT X e t' := fun pins s σ H Q I q => h pins s σ H Q I (f _ _ _ q)
theorem PW.imp {e : Expr} {t t' : TT} (h : PW X e t) (f : ∀ σ H Q, t' σ H Q → t σ H Q) : PW X e t' := fun wh pins s σ H Q I q => h wh pins s σ H Q I (f _ _ _ q)
theorem PA.imp {e : List Expr} {t t' : TA} (h : PA X e t) (f : ∀ σ H Q, t' σ H Q → t σ H Q) : PA X e t' := fun pos pins s σ H Q I q => h pos pins s σ H Q I (f _ _ _ q)
theorem PS.imp {e : Stmt} {t t' : TS} (h : PS X e t) (f : ∀ D σ H, t' D σ H → t D σ H) : PS X e t' := fun pins s σ H D I q => h pins s σ H D I (f _ _ _ q)
theorem PSs.imp {e : List Stmt} {t t' : TS} (h : PSs X e t) (f : ∀ D σ H, t' D σ H → t D σ H) : PSs X e t' := fun pins s σ H D I q => h pins s σ H D I (f _ _ _ q)
theorem PG.imp {e : Expr} {t t' : TG} (h : PG X e t) (f : ∀ v σ H Q, t' v σ H Q → t v σ H Q) : PG X e t' := fun pins s σ H v u Q I r q => h pins s σ H v u Q I r (f _ _ _ _ q)
noncomputable def wVar (i : Nat) : WE := fun τ G q => match τ[i]? with | some (some w) => q w G | _ => False
noncomputable def wC (w : W) : WE := fun _ G q => q w G
theorem qe_var (i : Nat) {x : Str} {pos : Pos} (hN : X.N[i]? = some x) (hv : Vis X.env.scope x) (hd : (x == ("__debug__" : Str)) = false := by decide) (hcd : (x == ("__classdict__" : Str)) = false := by decide) : QE X (.Name x pos) (wVar i) := by
  refine (pe_var hN hv hd hcd).imp fun σ H Q z0 => z0.el fun τ G q hs hg ht hQ => ?_
  unfold wVar at ht
  split at ht
  · rename_i w e
    obtain ⟨v, e1, r⟩ := hs.2 i w e
    exact ⟨v, e1, hQ v H w G (TLe.refl H) r hg ht⟩
  · exact ht.elim
theorem qe_const {e : Expr} {v : V} {w : W} (h : PE X e (tC v)) (r : ∀ H, Rep X.K H w v) : QE X e (wC w) :=
  h.imp fun σ H Q z0 => z0.el fun τ G q hs hg ht hQ => hQ v H w G (TLe.refl H) (r H) hg ht
theorem qe_int {i j pos} : QE X (.Constant (.int i) j pos) (wC (.int i)) := qe_const pe_int fun _ => .int i
theorem qe_bl {b j pos} : QE X (.Constant (.bool b) j pos) (wC (.bl b)) := qe_const pe_bl fun _ => .bl b
noncomputable abbrev W2 := W → W → Gp → WK → Prop
noncomputable def LR (K : PySem.W.Frag) (r : W2) : R2 := fun x y H Q => ∃ wx wy G q, Rep K H wx x ∧ Rep K H wy y ∧ RelG K H G ∧ r wx wy G q ∧ ∀ v H1 w G1, TLe H H1 → Rep K H1 w v → RelG K H1 G1 → q w G1 → Q v H1
noncomputable def QOp (X : Cx) (f : Value → Value → Sem Value) (r : W2) : Prop := OpR X f (LR X.K r)
noncomputable def QIx (X : Cx) (r : W2) : Prop := IxR X (LR X.K r)
noncomputable def wOp (r : W2) (ta tb : WE) : WE := fun τ G q => ta τ G fun x G1 => tb τ G1 fun y G2 => r x y G2 q
theorem LEx.op {K : PySem.W.Frag} {r : W2} {ta tb : WE} {σ : St} {H : Hp} {Q : VK} (h : LEx K (wOp r ta tb) σ H Q) : tOp (LR K r) (LEx K ta) (LEx K tb) σ H Q := by
  obtain ⟨τ, G, q, hs, hg, ht, hQ⟩ := h
  refine ⟨τ, G, _, hs, hg, ht, fun v H1 w G1 t1 r1 g1 q1 => ?_⟩
  refine ⟨τ, G1, _, hs.mono t1, g1, q1, fun v2 H2 w2 G2 t2 r2 g2 q2 => ?_⟩
  exact ⟨w, w2, G2, q, r1.mono t2, r2, g2, q2, fun v3 H3 w3 G3 t3 r3 g3 q3 => hQ v3 H3 w3 G3 ((t1.trans t2).trans t3) r3 g3 q3⟩
theorem qe_op {op : Operator} {r : W2} {a b : Expr} {ta tb : WE} {pos : Pos} (ho : QOp X (binaryOp op) r) (ha : QE X a ta) (hb : QE X b tb) : QE X (.BinOp a op b pos) (wOp r ta tb) :=
  (pe_op ho ha hb).imp fun _ _ _ h => h.op
theorem qe_cmp {op : CmpOp} {r : W2} {a b : Expr} {ta tb : WE} {pos : Pos} (ho : QOp X (compareOp op) r) (ha : QE X a ta) (hb : QE X b tb) (hm : behindInMarks op b = false) : QE X (.Compare a [op] [b] pos) (wOp r ta tb) :=
  (pe_cmpR ho ha hb hm).imp fun _ _ _ h => h.op
theorem qe_ix {r : W2} {a b : Expr} {ta tb : WE} {pos : Pos} (ho : QIx X r) (ha : QE X a ta) (hb : QE X b tb) (hs : PlainIx b) : QE X (.Subscript a b pos) (wOp r ta tb) :=
  (pe_ix ho ha hb hs).imp fun _ _ _ h => h.op
noncomputable def wTest (t : WE) : WT := fun τ G q => t τ G fun x G1 => match x with | .bl b => q b G1 | _ => False
theorem LTx.test {K : PySem.W.Frag} {t : WE} {σ : St} {H : Hp} {Q : Bool → Hp → Prop} (h : LTx K (wTest t) σ H Q) : tTest (LEx K t) σ H Q := by
  obtain ⟨τ, G, q, hs, hg, ht, hQ⟩ := h
  refine ⟨τ, G, _, hs, hg, ht, fun v H1 w G1 t1 r1 g1 q1 => ?_⟩
  split at q1
  · rename_i b
    cases r1
    exact ⟨b, rfl, hQ b H1 G1 t1 g1 q1⟩
  · exact q1.elim
theorem qt_cmp {op : CmpOp} {r : W2} {a b : Expr} {ta tb : WE} {pos : Pos} (ho : QOp X (compareOp op) r) (ha : QE X a ta) (hb : QE X b tb) (hm : behindInMarks op b = false) : QT X (.Compare a [op] [b] pos) (wTest (wOp r ta tb)) :=
  (pt_cmpR ho ha hb hm).imp fun σ H Q h => by
    obtain ⟨τ, G, q, hs, hg, ht, hQ⟩ := h.test
    exact LEx.op ⟨τ, G, q, hs, hg, ht, hQ⟩
theorem qt_val {e : Expr} {t : WE} (h : QE X e t) (he : ∀ whole, isTrue e X.env whole = (do let v ← whole; standAt e.pos; holding [v] (truthy v)) := by intro _; rfl) : QT X e (wTest t) :=
  (pt_val h he).imp fun σ H Q h => h.test
noncomputable def wAnd (t u : WT) : WT := fun τ G q => t τ G fun c G1 => if c = true then u τ G1 q else q false G1
noncomputable def wOr (t u : WT) : WT := fun τ G q => t τ G fun c G1 => if c = true then q true G1 else u τ G1 q
noncomputable def wNot (t : WT) : WT := fun τ G q => t τ G fun c G1 => q (!c) G1
theorem qw_and1 {a : Expr} {t : WT} {pos : Pos} (ha : QT X a t) : QW X (.BoolOp .And [a] pos) t := pw_and1 ha
theorem qw_or1 {a : Expr} {t : WT} {pos : Pos} (ha : QT X a t) : QW X (.BoolOp .Or [a] pos) t := pw_or1 ha
theorem qw_and {a b : Expr} {rest : List Expr} {t u : WT} {pos : Pos} (ha : QT X a t) (hb : QW X (.BoolOp .And (b :: rest) pos) u) : QW X (.BoolOp .And (a :: b :: rest) pos) (wAnd t u) :=
  (pw_and ha hb).imp fun σ H Q z0 => z0.el fun τ G q hs hg ht hQ => ⟨τ, G, _, hs, hg, ht, fun c H1 G1 t1 g1 q1 => by
    cases c with
    | true => rw [if_pos rfl] at q1 ⊢; exact ⟨τ, G1, q, hs.mono t1, g1, q1, fun b H2 G2 t2 g2 q2 => hQ b H2 G2 (t1.trans t2) g2 q2⟩
    | false => rw [if_neg Bool.false_ne_true] at q1 ⊢; exact hQ false H1 G1 t1 g1 q1⟩
theorem qw_or {a b : Expr} {rest : List Expr} {t u : WT} {pos : Pos} (ha : QT X a t) (hb : QW X (.BoolOp .Or (b :: rest) pos) u) : QW X (.BoolOp .Or (a :: b :: rest) pos) (wOr t u) :=
  (pw_or ha hb).imp fun σ H Q z0 => z0.el fun τ G q hs hg ht hQ => ⟨τ, G, _, hs, hg, ht, fun c H1 G1 t1 g1 q1 => by
    cases c with
    | true => rw [if_pos rfl] at q1 ⊢; exact hQ true H1 G1 t1 g1 q1
    | false => rw [if_neg Bool.false_ne_true] at q1 ⊢; exact ⟨τ, G1, q, hs.mono t1, g1, q1, fun b H2 G2 t2 g2 q2 => hQ b H2 G2 (t1.trans t2) g2 q2⟩⟩
theorem qt_w {e : Expr} {t : WT} (h : QW X e t) : QT X e t := PW.pt h
theorem qt_not {a : Expr} {t : WT} {pos : Pos} (ha : QT X a t) : QT X (.UnaryOp .Not a pos) (wNot t) :=
  (pt_not ha).imp fun σ H Q z0 => z0.el fun τ G q hs hg ht hQ => ⟨τ, G, _, hs, hg, ht, fun c H1 G1 t1 g1 q1 => hQ (!c) H1 G1 t1 g1 q1⟩
noncomputable def wAndV (ta tb : WE) : WE := fun τ G q => ta τ G fun x G1 => match x with | .bl c => if c = true then tb τ G1 q else q (.bl false) G1 | _ => False
noncomputable def wOrV (ta tb : WE) : WE := fun τ G q => ta τ G fun x G1 => match x with | .bl c => if c = true then q (.bl true) G1 else tb τ G1 q | _ => False
noncomputable def wNotV (ta : WE) : WE := fun τ G q => ta τ G fun x G1 => match x with | .bl c => q (.bl (!c)) G1 | _ => False
theorem qe_one {a : Expr} {op} {t : WE} {pos : Pos} (h : QE X a t) : QE X (.BoolOp op [a] pos) t := pe_one h
theorem qe_and {a b : Expr} {rest : List Expr} {ta tb : WE} {pos : Pos} (ha : QE X a ta) (hb : QE X (.BoolOp .And (b :: rest) pos) tb) : QE X (.BoolOp .And (a :: b :: rest) pos) (wAndV ta tb) :=
  (pe_and ha hb).imp fun σ H Q z0 => z0.el fun τ G q hs hg ht hQ => ⟨τ, G, _, hs, hg, ht, fun v H1 w G1 t1 r1 g1 q1 => by
    split at q1
    · rename_i c
      cases r1
      refine ⟨c, rfl, ?_⟩
      cases c with
      | true => rw [if_pos rfl] at q1 ⊢; exact ⟨τ, G1, q, hs.mono t1, g1, q1, fun v2 H2 w2 G2 t2 r2 g2 q2 => hQ v2 H2 w2 G2 (t1.trans t2) r2 g2 q2⟩
      | false => rw [if_neg Bool.false_ne_true] at q1 ⊢; exact hQ _ H1 _ G1 t1 (.bl false) g1 q1
    · exact q1.elim⟩
theorem qe_not {a : Expr} {ta : WE} {pos : Pos} (ha : QE X a ta) : QE X (.UnaryOp .Not a pos) (wNotV ta) :=
  (pe_not ha).imp fun σ H Q z0 => z0.el fun τ G q hs hg ht hQ => ⟨τ, G, _, hs, hg, ht, fun v H1 w G1 t1 r1 g1 q1 => by
    split at q1
    · rename_i c
      cases r1
      exact ⟨c, rfl, hQ _ H1 _ G1 t1 (.bl _) g1 q1⟩
    · exact q1.elim⟩
noncomputable def wIfE (c : WT) (ta tb : WE) : WE := fun τ G q => c τ G fun b G1 => if b = true then ta τ G1 q else tb τ G1 q
theorem qe_ifExp {c a b : Expr} {tc : WT} {ta tb : WE} {pos : Pos} (hc : QT X c tc) (ha : QE X a ta) (hb : QE X b tb) : QE X (.IfExp c a b pos) (wIfE tc ta tb) :=
  (pe_ifExp hc ha hb).imp fun σ H Q z0 => z0.el fun τ G q hs hg ht hQ => ⟨τ, G, _, hs, hg, ht, fun c H1 G1 t1 g1 q1 => by
    cases c with
    | true => rw [if_pos rfl] at q1 ⊢; exact ⟨τ, G1, q, hs.mono t1, g1, q1, fun v2 H2 w2 G2 t2 r2 g2 q2 => hQ v2 H2 w2 G2 (t1.trans t2) r2 g2 q2⟩
    | false => rw [if_neg Bool.false_ne_true] at q1 ⊢; exact ⟨τ, G1, q, hs.mono t1, g1, q1, fun v2 H2 w2 G2 t2 r2 g2 q2 => hQ v2 H2 w2 G2 (t1.trans t2) r2 g2 q2⟩⟩
noncomputable def wNil : WA := fun _ G q => q [] G
noncomputable def wCons (ta : WE) (tr : WA) : WA := fun τ G q => ta τ G fun x G1 => tr τ G1 fun xs G2 => q (x :: xs) G2
theorem qa_nil : QA X [] wNil := pa_nil.imp fun σ H Q z0 => z0.el fun τ G q hs hg ht hQ => hQ [] H [] G (TLe.refl H) .nil hg ht
theorem qa_cons {e : Expr} {es : List Expr} {te : WE} {t : WA} (ha : QE X e te) (hr : QA X es t) (hs : starEach (e :: es) X.env = (false, eval e X.env) :: starEach es X.env := by rfl) : QA X (e :: es) (wCons te t) :=
  (pa_cons ha hr hs).imp fun σ H Q z0 => z0.el fun τ G q hs hg ht hQ => ⟨τ, G, _, hs, hg, ht, fun v H1 w G1 t1 r1 g1 q1 =>
    ⟨τ, G1, _, hs.mono t1, g1, q1, fun vs H2 ws G2 t2 r2 g2 q2 => hQ (v :: vs) H2 (w :: ws) G2 (t1.trans t2) (.cons (r1.mono t2) r2) g2 q2⟩⟩
theorem line_le {n : Nat} (h : n ≤ 100000) : n ≤ sizeLine := by rw [sizeLine_eq]; exact Nat.le_trans (by assumption) (Nat.le_of_ble_eq_true rfl)
noncomputable def wTup (t : WA) : WE := fun τ G q => t τ G fun ws G1 => ws.length ≤ 100000 ∧ q (.tup ws) G1
noncomputable def wLst (t : WA) : WE := fun τ G q => t τ G fun ws G1 => ws.length ≤ 100000 ∧ ∀ p, G1 p = none → q (.ref p) (updG G1 p (.lst ws))
theorem qe_tup {es : List Expr} {x1} {t : WA} {pos : Pos} (h : QA X es t) : QE X (.Tuple es x1 pos) (wTup t) :=
  (pe_tup h).imp fun σ H Q z0 => z0.el fun τ G q hs hg ht hQ => ⟨τ, G, _, hs, hg, ht, fun vs H1 ws G1 t1 r1 g1 q1 =>
    ⟨by rw [← r1.length]; exact line_le q1.1, fun p hp => hQ _ _ _ G1 (t1.trans (TLe.new hp _)) (.tup upd_same (r1.mono (TLe.new hp _))) (g1.keep hp _) q1.2⟩⟩
theorem qe_lst {es : List Expr} {t : WA} {pos : Pos} (h : QA X es t) : QE X (.List es pos) (wLst t) :=
  (pe_lst h).imp fun σ H Q z0 => z0.el fun τ G q hs hg ht hQ => ⟨τ, G, _, hs, hg, ht, fun vs H1 ws G1 t1 r1 g1 q1 =>
    ⟨by rw [← r1.length]; exact line_le q1.1, fun p hp => hQ _ _ _ _ (t1.trans (TLe.new hp _)) (.ref p) (g1.put (TLe.new hp _) r1 q1.1) (q1.2 p (g1.fresh hp))⟩⟩
noncomputable def wNext : WS := fun d τ G => d.nx τ G
noncomputable def wSeq (t u : WS) : WS := fun d τ G => t { d with nx := u d } τ G
theorem LEnds.mono {K : PySem.W.Frag} {H H1 : Hp} {d : WEnds} {D : Ends} (l : LEnds K H d D) (t : TLe H H1) : LEnds K H1 d D :=
  ⟨fun σ2 H2 τ2 G2 t2 => l.nx σ2 H2 τ2 G2 (t.trans t2), fun v H2 w G2 t2 => l.rt v H2 w G2 (t.trans t2), fun σ2 H2 τ2 G2 t2 => l.bk σ2 H2 τ2 G2 (t.trans t2), fun σ2 H2 τ2 G2 t2 => l.ct σ2 H2 τ2 G2 (t.trans t2)⟩
theorem qss_nil : QSs X [] wNext := pss_nil.imp fun D σ H z0 => z0.el fun τ G d hs hg ht l => l.nx σ H τ G (TLe.refl H) hs hg ht
theorem qss_cons {st : Stmt} {rest : List Stmt} {t u : WS} (h1 : QS X st t) (h2 : QSs X rest u) : QSs X (st :: rest) (wSeq t u) :=
  (pss_cons h1 h2).imp fun D σ H z0 => z0.el fun τ G d hs hg ht l => ⟨τ, G, _, hs, hg, ht, ⟨fun σ1 H1 τ1 G1 t1 s1 g1 q1 => ⟨τ1, G1, d, s1, g1, q1, l.mono t1⟩, l.rt, l.bk, l.ct⟩⟩
theorem qss_one {st : Stmt} {t : WS} (h1 : QS X st t) : QSs X [st] t := pss_one h1
noncomputable def wDrop (te : WE) : WS := fun d τ G => te τ G fun _ G1 => d.nx τ G1
theorem qs_expr {e : Expr} {te : WE} {pos : Pos} (he : QE X e te) (hs : swapsWith e none pos.line X.env = pure false := by rfl) : QS X (.Expr e pos) (wDrop te) :=
  (ps_expr he hs).imp fun D σ H z0 => z0.el fun τ G d hs hg ht l => ⟨τ, G, _, hs, hg, ht, fun v H1 w G1 t1 r1 g1 q1 => l.nx σ H1 τ G1 t1 (hs.mono t1) g1 q1⟩
noncomputable def wRet (te : WE) : WS := fun d τ G => te τ G d.rt
theorem qs_ret {e : Expr} {te : WE} {pos : Pos} (he : QE X e te) : QS X (.Return (some e) pos) (wRet te) :=
  (ps_ret he).imp fun D σ H z0 => z0.el fun τ G d hs hg ht l => ⟨τ, G, _, hs, hg, ht, fun v H1 w G1 t1 r1 g1 q1 => l.rt v H1 w G1 t1 r1 g1 q1⟩
noncomputable def wIf (c : WT) (t u : WS) : WS := fun d τ G => c τ G fun b G1 => if b = true then t d τ G1 else u d τ G1
theorem qs_if {c : Expr} {a b : List Stmt} {tc : WT} {t u : WS} {pos : Pos} (hc : QT X c tc) (ha : QSs X a t) (hb : QSs X b u) : QS X (.If c a b pos) (wIf tc t u) :=
  (ps_if hc ha hb).imp fun D σ H z0 => z0.el fun τ G d hs hg ht l => ⟨τ, G, _, hs, hg, ht, fun c H1 G1 t1 g1 q1 => by
    cases c with
    | true => rw [if_pos rfl] at q1 ⊢; exact ⟨τ, G1, d, hs.mono t1, g1, q1, l.mono t1⟩
    | false => rw [if_neg Bool.false_ne_true] at q1 ⊢; exact ⟨τ, G1, d, hs.mono t1, g1, q1, l.mono t1⟩⟩
noncomputable def hName (i : Nat) : WG := fun w τ G q => q (τ.set i (some w)) G
theorem qg_name (i : Nat) {x : Str} {pos : Pos} (hN : X.N.Nodup) (hi : X.N[i]? = some x) (hx : Loc X.env.scope x) (hf : X.fn x = true ∨ X.env.scope.names.lookup x = some .local := by first | exact .inl rfl | exact .inr rfl | assumption) : QG X (.Name x pos) (hName i) :=
  (pg_name hN hi hx hf).imp fun v σ H Q ⟨w, τ, G, q, r, hs, hg, ht, hQ⟩ => hQ _ H _ G (TLe.refl H) (hs.set r i) hg ht
noncomputable def hNil : WGs := fun ws τ G q => match ws with | [] => q τ G | _ => False
noncomputable def hCons (t : WG) (u : WGs) : WGs := fun ws τ G q => match ws with | w :: r => t w τ G fun τ1 G1 => u r τ1 G1 q | [] => False
noncomputable def hTup (n : Nat) (t : WGs) : WG := fun w τ G q => match w with | .tup ws => ws.length = n ∧ t ws τ G q | _ => False
noncomputable def wAsg (te : WE) (g : WG) : WS := fun d τ G => te τ G fun x G1 => g x τ G1 d.nx
theorem qs_set (i : Nat) {x : Str} {e : Expr} {te : WE} {pos' pos : Pos} (hN : X.N.Nodup) (hi : X.N[i]? = some x) (hx : Loc X.env.scope x) (he : QE X e te) (hs : swapsWith e (some (.Name x pos')) pos.line X.env = pure false := by rfl) (hf : X.fn x = true ∨ X.env.scope.names.lookup x = some .local := by first | exact .inl rfl | exact .inr rfl | assumption) :
    QS X (.Assign [.Name x pos'] e pos) (wAsg te (hName i)) :=
  (ps_set hN hi hx he hs hf).imp fun D σ H z0 => z0.el fun τ G d hs hg ht l =>
    ⟨τ, G, _, hs, hg, ht, fun v H1 w G1 t1 r1 g1 q1 => l.nx _ H1 _ G1 t1 ((hs.mono t1).set r1 i) g1 q1⟩
noncomputable def wWhile (c : WT) (tb : WS) : WS := fun d τ G => ∃ I : Nat → WSt → Gp → Prop, (∃ m, I m τ G) ∧ ∀ m τ G, I m τ G →
  c τ G fun b G1 => if b = true then ∃ N : WSt → Gp → Prop, (∀ τ1 G1, N τ1 G1 → ∃ m1, m1 < m ∧ I m1 τ1 G1) ∧ tb { d with nx := N, ct := N, bk := d.nx } τ G1 else d.nx τ G1
theorem qs_while {c : Expr} {body : List Stmt} {tc : WT} {tb : WS} {pos : Pos} (hp : PassesOwn (model X.prog X.w) X.A X.env X.xe) (hc : QT X c tc) (hb : QSs X body tb) : QS X (.While c body [] pos) (wWhile tc tb) :=
  (ps_while hp hc hb).imp fun D σ H ⟨τ, G, d, hs, hg, ⟨I, ⟨m, i0⟩, turn⟩, l⟩ => by
    refine ⟨fun m σ1 H1 => ∃ τ1 G1, TLe H H1 ∧ RelSt X.K H1 τ1 σ1 ∧ RelG X.K H1 G1 ∧ I m τ1 G1, ⟨m, τ, G, TLe.refl H, hs, hg, i0⟩, ?_⟩
    rintro m1 σ1 H1 ⟨τ1, G1, t1, s1, g1, i1⟩
    refine ⟨τ1, G1, _, s1, g1, turn m1 τ1 G1 i1, fun b H2 G2 t2 g2 q2 => ?_⟩
    cases b with
    | true =>
      rw [if_pos rfl] at q2 ⊢
      obtain ⟨N, hN, q2⟩ := q2
      refine ⟨fun σ3 H3 => ∃ τ3 G3, TLe H H3 ∧ RelSt X.K H3 τ3 σ3 ∧ RelG X.K H3 G3 ∧ N τ3 G3, ?_, τ1, G2, _, s1.mono t2, g2, q2, ?_⟩
      · rintro σ3 H3 ⟨τ3, G3, t3, s3, g3, n3⟩
        obtain ⟨m3, hm, i3⟩ := hN τ3 G3 n3
        exact ⟨m3, hm, τ3, G3, t3, s3, g3, i3⟩
      · have tt := t1.trans t2
        exact ⟨fun σ3 H3 τ3 G3 t3 s3 g3 q3 => ⟨τ3, G3, tt.trans t3, s3, g3, q3⟩, fun v H3 w G3 t3 => l.rt v H3 w G3 (tt.trans t3), fun σ3 H3 τ3 G3 t3 => l.nx σ3 H3 τ3 G3 (tt.trans t3), fun σ3 H3 τ3 G3 t3 s3 g3 q3 => ⟨τ3, G3, tt.trans t3, s3, g3, q3⟩⟩
    | false =>
      rw [if_neg Bool.false_ne_true] at q2 ⊢
      exact l.nx σ1 H2 τ1 G2 (t1.trans t2) (s1.mono t2) g2 q2
end
end L2
namespace L2
open PySem PySem.Spec PyProof.Rows
section
variable {X : Cx}
noncomputable abbrev WX := Value → Gp → Prop
noncomputable abbrev WSp := List W → Gp → WK → WX → Prop
noncomputable def LSp (K : PySem.W.Frag) (sp : WSp) : Sp := fun vs H Q E => ∃ ws G q e, Reps K H ws vs ∧ RelG K H G ∧ sp ws G q e ∧ (∀ v H1 w G1, TLe H H1 → Rep K H1 w v → RelG K H1 G1 → q w G1 → Q v H1) ∧
  ∀ c d H1 G1, TLe H H1 → RelG K H1 G1 → e c G1 → E c d H1
noncomputable abbrev WFn (P : Program) (w : World) (K : PySem.W.Frag) (mg : Str → Option Value) (base : Heap) (k : Nat) (f : Addr) (fd : FuncData) (ps : List Str) (sp : WSp) : Prop := FnOk P w K mg base CX0 k f fd ps (LSp K sp)
noncomputable def wCall (sp : WSp) (dws : List W) (t : WA) : WE := fun τ G q => t τ G fun ws G1 => sp (ws ++ dws) G1 q fun _ _ => False
theorem LEx.call {K : PySem.W.Frag} {sp : WSp} {dws : List W} {dvs : List V} {t : WA} {σ : St} {H : Hp} {Q : VK} {E : XK} (hd : ∀ H, Reps K H dws dvs) (h : LEx K (wCall sp dws t) σ H Q) : tCall (LSp K sp) dvs E (LA K t) σ H Q := by
  obtain ⟨τ, G, q, hs, hg, ht, hQ⟩ := h
  exact ⟨τ, G, _, hs, hg, ht, fun vs H1 ws G1 t1 r1 g1 q1 => ⟨ws ++ dws, G1, q, _, r1.append (hd H1), g1, q1, fun v H2 w G2 t2 => hQ v H2 w G2 (t1.trans t2), fun _ _ _ _ _ _ z => z.elim⟩⟩
theorem qe_call {k : Nat} {f : Addr} {fd : FuncData} {ps : List Str} {sp : WSp} {x : Str} {p pos : Pos} {e : Expr} {es : List Expr} {t : WA} (F : WFn X.prog X.w X.K X.mg X.base k f fd ps sp) (hr : Room k X.A) (hg : Gl X x) (hm : X.mg x = some (.ref f))
    (hk : PySem.W.keepIn X.K (.ref f) = true) (hb : Binds X.K fd ps []) (ha : QA X (e :: es) t) (hdb : (x == ("__debug__" : Str)) = false := by decide)
    (he : starEach (e :: es) X.env = (false, eval e X.env) :: starEach es X.env := by rfl) (hpl : (backTo pos (starEach es X.env)).any (·.1) = false := by rfl) : QE X (.Call (.Name x p) (e :: es) [] pos) (wCall sp [] t) :=
  (pe_call F hr hg hm hk hb .nil pass0 ha hdb he hpl).imp fun _ _ _ h => h.call fun _ => .nil
noncomputable def wStart (N : List Str) (ws : List W) : WSt := ws.map some ++ List.replicate (N.length - ws.length) none
theorem WFn.none {P : Program} {w : World} {K : PySem.W.Frag} {mg : Str → Option Value} {base : Heap} {k : Nat} {f : Addr} {fd : FuncData} {ps : List Str} {sp : WSp} (h : ∀ ws G q e, ¬ sp ws G q e) : WFn P w K mg base k f fd ps sp :=
  ⟨fun _ _ _ _ ⟨_, _, _, _, _, _, z, _⟩ => absurd z (h _ _ _ _), fun _ _ _ _ _ _ _ _ _ _ _ _ _ ⟨_, _, _, _, _, _, z, _⟩ => absurd z (h _ _ _ _)⟩
theorem fn3 {P : Program} {w : World} {K : PySem.W.Frag} {mg : Str → Option Value} {base : Heap} {x qual : Str} {st : Stmt} {f : Addr} {fd : FuncData} {N ps : List Str} {k : Nat} {sp : WSp} (F : Fun K x qual st f fd) (S : FnScope N ps (defScope st)) (len : ∀ ws G q e, sp ws G q e → ws.length = ps.length)
    (hbody : ∀ (cdv : Value) (A : Around) (outer : List Env) (s : Shared) (H : Hp) (E : XK), Room k (A.deeper (envOfC qual (defScope st) s.heap.objs.size f cdv)) →
      ∃ t, QSs (cxOf CX0 P w K mg base N qual (defScope st) f cdv A outer s H E).nox (defBody st) t ∧
        ∀ (ws : List W) (G : Gp) (q : WK) (e : WX), sp ws G q e → t { nx := fun _ G1 => ∃ G0, GLe G0 G1 ∧ q .non G0, rt := fun w G1 => ∃ G0, GLe G0 G1 ∧ q w G0 } (wStart N ws) G) : WFn P w K mg base (k + 1) f fd ps sp := by
  refine F.ok S (fun vs H Q E ⟨ws, G, q, e, r, g, z, _⟩ => by rw [← r.length]; exact len _ _ _ _ z) (fun cdv A outer s H vs Q E hr ⟨ws, G, q, e, r, g, z, hQ, _⟩ => ?_)
  obtain ⟨t, ht, hq⟩ := hbody cdv A outer s H E hr
  exact ⟨_, ht, _, G, _, RelSt.start r, g, hq ws G q e z, ⟨fun σ1 H1 τ1 G1 t1 s1 g1 ⟨G0, l, q1⟩ => hQ .non H1 .non G0 t1 .non (g1.le l) q1, fun v H1 w G1 t1 r1 g1 ⟨G0, l, q1⟩ => hQ v H1 w G0 t1 r1 (g1.le l) q1, fun _ _ _ _ _ _ _ z => z.elim, fun _ _ _ _ _ _ _ z => z.elim⟩⟩
noncomputable def LCall (K : PySem.W.Frag) (r : List W → Gp → WK → Prop) : List V → Hp → VK → Prop := fun vs H Q => ∃ ws G q, Reps K H ws vs ∧ RelG K H G ∧ r ws G q ∧ ∀ v H1 w G1, TLe H H1 → Rep K H1 w v → RelG K H1 G1 → q w G1 → Q v H1
noncomputable def QCall (X : Cx) (f : Value) (r : List W → Gp → WK → Prop) : Prop := CallR X f (LCall X.K r)
noncomputable def wCB (r : List W → Gp → WK → Prop) (t : WA) : WE := fun τ G q => t τ G fun ws G1 => r ws G1 q
theorem LEx.cb {K : PySem.W.Frag} {r : List W → Gp → WK → Prop} {t : WA} {σ : St} {H : Hp} {Q : VK} (h : LEx K (wCB r t) σ H Q) : tCB (LCall K r) (LA K t) σ H Q := by
  obtain ⟨τ, G, q, hs, hg, ht, hQ⟩ := h
  exact ⟨τ, G, _, hs, hg, ht, fun vs H1 ws G1 t1 r1 g1 q1 => ⟨ws, G1, q, r1, g1, q1, fun v H2 w G2 t2 => hQ v H2 w G2 (t1.trans t2)⟩⟩
theorem qe_callB {id : String} {r : List W → Gp → WK → Prop} {x : Str} {p pos : Pos} {e : Expr} {es : List Expr} {t : WA} (hc : QCall X (.builtin id) r) (hg : Gl X x) (hm : X.mg x = none) (hv : bootBuiltins x = some (.builtin id)) (ha : QA X (e :: es) t)
    (hn : x ≠ "__name__" := by decide) (hdb : (x == ("__debug__" : Str)) = false := by decide)
    (he : starEach (e :: es) X.env = (false, eval e X.env) :: starEach es X.env := by rfl) (hpl : (backTo pos (starEach es X.env)).any (·.1) = false := by rfl) : QE X (.Call (.Name x p) (e :: es) [] pos) (wCB r t) :=
  (pe_callB hc hg hm hv ha hn hdb he hpl).imp fun _ _ _ h => h.cb
theorem qe_callTy {T : String} {r : List W → Gp → WK → Prop} {x : Str} {p pos : Pos} {e : Expr} {es : List Expr} {t : WA} (hc : QCall X (.type T) r) (hg : Gl X x) (hm : X.mg x = none) (hv : bootBuiltins x = some (.type T)) (ha : QA X (e :: es) t)
    (hn : x ≠ "__name__" := by decide) (hdb : (x == ("__debug__" : Str)) = false := by decide)
    (he : starEach (e :: es) X.env = (false, eval e X.env) :: starEach es X.env := by rfl) (hpl : (backTo pos (starEach es X.env)).any (·.1) = false := by rfl) : QE X (.Call (.Name x p) (e :: es) [] pos) (wCB r t) :=
  (pe_callTy hc hg hm hv ha hn hdb he hpl).imp fun _ _ _ h => h.cb
theorem Reps.one {K : PySem.W.Frag} {H : Hp} {w : W} {vs : List V} (r : Reps K H [w] vs) : ∃ v, vs = [v] ∧ Rep K H w v := by
  cases r with
  | cons r rs => cases rs; exact ⟨_, rfl, r⟩
theorem Reps.two {K : PySem.W.Frag} {H : Hp} {w u : W} {vs : List V} (r : Reps K H [w, u] vs) : ∃ v x, vs = [v, x] ∧ Rep K H w v ∧ Rep K H u x := by
  cases r with
  | cons r rs =>
    obtain ⟨x, rfl, r2⟩ := rs.one
    exact ⟨_, _, rfl, r, r2⟩
noncomputable def cLen : List W → Gp → WK → Prop := fun ws G q => match ws with
  | [.tup xs] => q (.int xs.length) G
  | [.scr ns] => q (.int ns.length) G
  | [.ref a] => ∃ xs, G a = some (.lst xs) ∧ q (.int xs.length) G
  | _ => False
theorem q_len : QCall X (.builtin "len") cLen := by
  intro pins s σ H xs us Q I r ⟨ws, G, q, rw', g, h, hQ⟩
  cases rw' with
  | nil => exact False.elim h
  | cons r1 rr' =>
    cases rr' with
    | cons _ _ => cases r1 <;> exact False.elim h
    | nil =>
      cases r1 with
      | tup hh rr => exact call_len_seq pins s σ H _ us Q I r ⟨_, _, rfl, .inr (SqT.of hh), hQ _ H _ G (TLe.refl H) (by rw [rr.length]; exact .int _) g h⟩
      | scr hh => exact call_len_seq pins s σ H _ us Q I r ⟨_, _, rfl, .inl hh.sq, hQ _ H _ G (TLe.refl H) (by rw [List.length_map]; exact .int _) g h⟩
      | ref a =>
        obtain ⟨ys, e, h⟩ := h
        obtain ⟨_, zs, e1, rr⟩ := g a _ e
        exact call_len_seq pins s σ H _ us Q I r ⟨_, _, rfl, .inl (SqL.of e1), hQ _ H _ G (TLe.refl H) (by rw [rr.length]; exact .int _) g h⟩
      | _ => exact False.elim h
noncomputable def cTuple : List W → Gp → WK → Prop := fun ws G q => match ws with
  | [.tup xs] => q (.tup xs) G
  | [.ref a] => ∃ xs, G a = some (.lst xs) ∧ q (.tup xs) G
  | _ => False
theorem q_tuple : QCall X (.type "tuple") cTuple := by
  intro pins s σ H xs us Q I r ⟨ws, G, q, rw', g, h, hQ⟩
  cases rw' with
  | nil => exact False.elim h
  | cons r1 rr' =>
    cases rr' with
    | cons _ _ => cases r1 <;> exact False.elim h
    | nil =>
      cases r1 with
      | tup hh rr => exact call_tuple_of pins s σ H _ us Q I r ⟨_, _, rfl, .inr ⟨SqT.of hh, hQ _ H _ G (TLe.refl H) (.tup hh rr) g h⟩⟩
      | ref a =>
        obtain ⟨ys, e, h⟩ := h
        obtain ⟨_, zs, e1, rr⟩ := g a _ e
        exact call_tuple_of pins s σ H _ us Q I r ⟨_, _, rfl, .inl ⟨SqL.of e1, fun l hl => hQ _ _ _ G (TLe.new hl _) (.tup upd_same (rr.mono (TLe.new hl _))) (g.keep hl _) h⟩⟩
      | _ => exact False.elim h
noncomputable def cList : List W → Gp → WK → Prop := fun ws G q => match ws with
  | [.tup xs] => xs.length ≤ 100000 ∧ ∀ p, G p = none → q (.ref p) (updG G p (.lst xs))
  | [.ref a] => ∃ xs, G a = some (.lst xs) ∧ ∀ p, G p = none → q (.ref p) (updG G p (.lst xs))
  | _ => False
theorem q_list : QCall X (.type "list") cList := by
  intro pins s σ H xs us Q I r ⟨ws, G, q, rw', g, h, hQ⟩
  unfold cList at h
  split at h
  · rename_i ys
    obtain ⟨v, rfl, r1⟩ := rw'.one
    cases r1 with
    | tup hh rr => exact call_list_of pins s σ H _ us Q I r ⟨_, _, rfl, .inr (SqT.of hh), fun l hl => hQ _ _ _ _ (TLe.new hl _) (.ref l) (g.put (TLe.new hl _) rr h.1) (h.2 l (g.fresh hl))⟩
  · rename_i a
    obtain ⟨ys, e, h⟩ := h
    obtain ⟨v, rfl, r1⟩ := rw'.one
    cases r1
    obtain ⟨hl, zs, e1, rr⟩ := g a _ e
    exact call_list_of pins s σ H _ us Q I r ⟨_, _, rfl, .inl (SqL.of e1), fun l hl' => hQ _ _ _ _ (TLe.new hl' _) (.ref l) (g.put (TLe.new hl' _) rr hl) (h l (g.fresh hl'))⟩
  · exact h.elim
noncomputable def cInt : List W → Gp → WK → Prop := fun ws G q => match ws with
  | [.int i] => q (.int i) G
  | [.bl b] => q (.int (if b then 1 else 0)) G
  | _ => False
theorem q_int : QCall X (.type "int") cInt := by
  intro pins s σ H xs us Q I r ⟨ws, G, q, rw', g, h, hQ⟩
  cases rw' with
  | nil => exact False.elim h
  | cons r1 rr' =>
    cases rr' with
    | cons _ _ => cases r1 <;> exact False.elim h
    | nil =>
      cases r1 with
      | int i => exact call_int1 pins s σ H _ us Q I r (.inl ⟨_, rfl, hQ _ H _ G (TLe.refl H) (.int _) g h⟩)
      | bl b => exact call_int1 pins s σ H _ us Q I r (.inr ⟨_, rfl, hQ _ H _ G (TLe.refl H) (.int _) g h⟩)
      | _ => exact False.elim h
noncomputable def cMax : List W → Gp → WK → Prop := fun ws G q => match ws with
  | [.int i, .int j] => q (.int (if j > i then j else i)) G
  | _ => False
noncomputable def vAdd : W2 := fun x y G q => match x, y with
  | .int i, .int j => q (.int (i + j)) G
  | .tup xs, .tup ys => xs.length + ys.length ≤ 100000 ∧ q (.tup (xs ++ ys)) G
  | .ref a, .ref b => ∃ xs ys, G a = some (.lst xs) ∧ G b = some (.lst ys) ∧ xs.length + ys.length ≤ 100000 ∧ ∀ p, G p = none → q (.ref p) (updG G p (.lst (xs ++ ys)))
  | _, _ => False
theorem cat0 {pins : List (Addr × Obj)} {σ : St} {H : Hp} {s : Shared} {a b : Addr} {ys : List V} {Q : VK} (I : Inv X pins σ H s) (ha : H a = some (.tup [])) (hb : H b = some (.tup ys)) (q : Q (.ref b) H) : wpAny (model X.prog X.w) X.A (binaryOp .Add (.ref a) (.ref b)) (EP X pins σ Q) X.xe s := by
  obtain ⟨its, r1, p1, _⟩ := I.tuple (SqT.of ha)
  obtain ⟨its2, r2, p2, _⟩ := I.tuple (SqT.of hb)
  cases r1
  obtain ⟨⟨cls, dd, data, sl⟩, ho, hc, n, hd⟩ := id p1
  obtain ⟨⟨cls2, dd2, data2, sl2⟩, ho2, hc2, n2, hd2⟩ := id p2
  simp only at hc hd hc2 hd2
  subst hc hd hc2 hd2
  exact concat_meets ⟨_, ho, rfl⟩ ⟨_, ho2, rfl⟩ noFill_tuple_add seq_tuple_add PySem.F.slot_tuple_add PySem.F.entry_tuple_add (PySem.F.args_tuple_add_2 _ _)
    (tuple_addW0 a b #[] its2.toArray n n2 dd dd2 sl sl2 rfl) ⟨ho, ho2, ⟨.ref b, H, I, rfl, q⟩⟩
theorem q_add : QOp X (binaryOp .Add) vAdd := by
  intro pins s σ H x y v u Q I rx ry ⟨wx, wy, G, q, r1, r2, g, h, hQ⟩
  cases r1 with
  | int i =>
    cases r2 with
    | int j => exact op_add pins s σ H _ _ v u Q I rx ry ⟨_, _, rfl, rfl, hQ _ H _ G (TLe.refl H) (.int _) g h⟩
    | _ => exact False.elim h
  | @tup a ws xs ha ra =>
    cases r2 with
    | @tup b us ys hb rb =>
      cases xs with
      | nil =>
        cases ra
        cases rx
        cases ry
        exact cat0 I ha hb (hQ _ H _ G (TLe.refl H) (.tup hb rb) g h.2)
      | cons x0 xr =>
        refine op_catT pins s σ H _ _ v u Q I rx ry ⟨a, b, _, _, rfl, rfl, SqT.of ha, SqT.of hb, by simp, by rw [← ra.length, ← rb.length]; exact line_le h.1, fun e => ?_, fun _ p hp => ?_⟩
        · subst e
          cases rb
          have h2 := h.2
          rw [List.append_nil] at h2
          exact hQ _ H _ G (TLe.refl H) (.tup ha ra) g h2
        · exact hQ _ _ _ G (TLe.new hp _) (.tup upd_same ((ra.append rb).mono (TLe.new hp _))) (g.keep hp _) h.2
    | _ => exact False.elim h
  | ref a =>
    cases r2 with
    | ref b =>
      obtain ⟨xs, ys, ea, eb, hl, h⟩ := h
      obtain ⟨_, xs', ha, ra⟩ := g _ _ ea
      obtain ⟨_, ys', hb, rb⟩ := g _ _ eb
      refine op_cat pins s σ H _ _ v u Q I rx ry ⟨_, _, _, _, rfl, rfl, ha, hb, by rw [← ra.length, ← rb.length]; exact line_le hl, fun p hp => ?_⟩
      exact hQ _ _ _ _ (TLe.new hp _) (.ref p) (g.put (TLe.new hp _) (ra.append rb) (by rw [List.length_append]; exact hl)) (h p (g.fresh hp))
    | _ => exact False.elim h
  | _ => exact False.elim h
noncomputable def vInt (C : Int → Int → Prop) (f : Int → Int → W) : W2 := fun x y G q => match x, y with
  | .int i, .int j => C i j ∧ q (f i j) G
  | _, _ => False
theorem q_rint {f : Value → Value → Sem Value} {C : Int → Int → Prop} {g : Int → Int → Int} (h : OpR X f (rI C fun i j => .int (g i j))) : QOp X f (vInt C fun i j => .int (g i j)) := by
  intro pins s σ H x y v u Q I rx ry ⟨wx, wy, G, q, r1, r2, gg, hh, hQ⟩
  unfold vInt at hh
  split at hh
  · cases r1
    cases r2
    exact h pins s σ H _ _ v u Q I rx ry ⟨_, _, rfl, rfl, hh.1, hQ _ H _ G (TLe.refl H) (.int _) gg hh.2⟩
  · exact hh.elim
noncomputable def vInt0 (f : Int → Int → W) : W2 := fun x y G q => match x, y with
  | .int i, .int j => q (f i j) G
  | _, _ => False
theorem q_rbl {f : Value → Value → Sem Value} {g : Int → Int → Bool} (h : OpR X f (rI0 fun i j => .bl (g i j))) : QOp X f (vInt0 fun i j => .bl (g i j)) := by
  intro pins s σ H x y v u Q I rx ry ⟨wx, wy, G, q, r1, r2, gg, hh, hQ⟩
  unfold vInt0 at hh
  split at hh
  · cases r1
    cases r2
    exact h pins s σ H _ _ v u Q I rx ry ⟨_, _, rfl, rfl, hQ _ H _ G (TLe.refl H) (.bl _) gg hh⟩
  · exact hh.elim
noncomputable abbrev vMod : W2 := vInt (fun _ j => 0 < j) fun i j => .int (i % j)
noncomputable abbrev vPow : W2 := vInt CPow fun i j => .int (i ^ j.toNat)
theorem q_mod : QOp X (binaryOp .Mod) vMod := q_rint op_mod
theorem q_pow : QOp X (binaryOp .Pow) vPow := q_rint op_pow
noncomputable abbrev vGt : W2 := vInt0 fun i j => .bl (decide (j < i))
noncomputable abbrev vGe : W2 := vInt0 fun i j => .bl (decide (j ≤ i))
theorem q_gt : QOp X (compareOp .Gt) vGt := q_rbl op_gt
theorem q_ge : QOp X (compareOp .GtE) vGe := q_rbl op_ge
noncomputable def rIx3 : W2 := fun x y G q => match x, y with
  | .tup xs, .int i => ∃ w, atI xs i = some w ∧ q w G
  | .scr ns, .int i => ∃ n, atI ns i = some n ∧ q (.int n) G
  | .ref a, .int i => ∃ xs w, G a = some (.lst xs) ∧ atI xs i = some w ∧ q w G
  | _, _ => False
theorem Reps.at {K : PySem.W.Frag} {H : Hp} {ws : List W} {vs : List V} {i : Int} {w : W} (r : Reps K H ws vs) (e : atI ws i = some w) : ∃ v, atI vs i = some v ∧ Rep K H w v := by
  unfold atI at e ⊢
  rw [r.length] at e
  cases h : ixN vs.length i with
  | none => rw [h] at e; cases e
  | some j =>
    rw [h] at e
    exact r.get e
theorem atI_map {α β : Type} (f : α → β) (xs : List α) (i : Int) : atI (xs.map f) i = (atI xs i).map f := by
  unfold atI
  rw [List.length_map]
  cases ixN xs.length i with
  | none => rfl
  | some j => simp
theorem q_ix : QIx X rIx3 := by
  intro value slice pins s σ H x y v u Q I rx ry ⟨wx, wy, G, q, r1, r2, g, h, hQ⟩ hsl
  cases r2 with
  | int i =>
    cases r1 with
    | tup hh rr =>
      obtain ⟨w, e, h⟩ := h
      obtain ⟨v', e', r'⟩ := rr.at e
      exact ix_tup value slice pins s σ H _ _ v u Q I rx ry ⟨_, _, _, v', rfl, rfl, SqT.of hh, e', hQ _ H _ G (TLe.refl H) r' g h⟩ hsl
    | scr hh =>
      obtain ⟨n, e, h⟩ := h
      exact ix_list value slice pins s σ H _ _ v u Q I rx ry ⟨_, _, _, .int n, rfl, rfl, hh.sq, by rw [atI_map, e]; rfl, hQ _ H _ G (TLe.refl H) (.int n) g h⟩ hsl
    | ref a =>
      obtain ⟨xs, w, ea, e, h⟩ := h
      obtain ⟨_, zs, e1, rr⟩ := g _ _ ea
      obtain ⟨v', e', r'⟩ := rr.at e
      exact ix_list value slice pins s σ H _ _ v u Q I rx ry ⟨_, _, _, v', rfl, rfl, SqL.of e1, e', hQ _ H _ G (TLe.refl H) r' g h⟩ hsl
    | _ => exact False.elim h
  | _ => cases r1 <;> exact False.elim h
end
end L2
namespace L2
open PySem PySem.Spec PyProof.Rows
mutual
noncomputable def W.flat : W → Bool
  | .tup xs => W.flats xs
  | .ref _ => false
  | .scr _ => false
  | _ => true
noncomputable def W.flats : List W → Bool
  | [] => true
  | x :: xs => W.flat x && W.flats xs
end
mutual
noncomputable def W.dep : W → Nat
  | .tup xs => W.deps xs + 1
  | _ => 0
noncomputable def W.deps : List W → Nat
  | [] => 0
  | x :: xs => max (W.dep x) (W.deps xs)
end
mutual
noncomputable def W.eq : W → W → Bool
  | .non, .non => true
  | .bl a, .bl b => a == b
  | .bl a, .int j => (if a then 1 else 0) == j
  | .int i, .bl b => i == (if b then 1 else 0)
  | .int i, .int j => i == j
  | .str x, .str y => x == y
  | .tup xs, .tup ys => W.eqs xs ys
  | _, _ => false
noncomputable def W.eqs : List W → List W → Bool
  | [], [] => true
  | x :: xs, y :: ys => W.eq x y && W.eqs xs ys
  | _, _ => false
end
theorem noFT {P : Prop} (h : false = true) : P := Bool.noConfusion h
theorem W.eq_int (i j : Int) : (W.int i).eq (W.int j) = (i == j) := rfl
theorem W.eq_tup (xs ys : List W) : (W.tup xs).eq (W.tup ys) = W.eqs xs ys := rfl
mutual
theorem W.eq_refl : ∀ w : W, w.flat = true → w.eq w = true
  | .non, _ => rfl
  | .bl b, _ => beq_self_eq_true b
  | .int i, _ => beq_self_eq_true i
  | .str x, _ => beq_self_eq_true x
  | .tup xs, h => W.eqs_refl xs h
  | .ref _, h => noFT h
  | .scr _, h => noFT h
theorem W.eqs_refl : ∀ ws : List W, W.flats ws = true → W.eqs ws ws = true
  | [], _ => rfl
  | x :: xs, h => by
    have h' : x.flat = true ∧ W.flats xs = true := (Bool.and_eq_true _ _).mp h
    exact (Bool.and_eq_true _ _).mpr ⟨W.eq_refl x h'.1, W.eqs_refl xs h'.2⟩
end
mutual
theorem Rep.inj {K : PySem.W.Frag} {H : Hp} : ∀ {w u : W} {v : V}, w.flat = true → u.flat = true → Rep K H w v → Rep K H u v → w = u := by
  intro w u v h1 h2 r1 r2
  cases r1 with
  | non => cases r2; rfl
  | bl _ => cases r2; rfl
  | int _ => cases r2; rfl
  | str _ => cases r2; rfl
  | ref _ => exact noFT h1
  | scr _ => exact noFT h1
  | tup e1 r1 =>
    cases r2 with
    | ref _ => exact noFT h2
    | scr _ => exact noFT h2
    | tup e2 r2 =>
      rw [e1] at e2; cases e2
      rw [Reps.inj h1 h2 r1 r2]
theorem Reps.inj {K : PySem.W.Frag} {H : Hp} : ∀ {ws us : List W} {vs : List V}, W.flats ws = true → W.flats us = true → Reps K H ws vs → Reps K H us vs → ws = us := by
  intro ws us vs h1 h2 r1 r2
  cases r1 with
  | nil => cases r2; rfl
  | cons r1 s1 =>
    cases r2 with
    | cons r2 s2 =>
      simp only [W.flats, Bool.and_eq_true] at h1 h2
      rw [Rep.inj h1.1 h2.1 r1 r2, Reps.inj h1.2 h2.2 s1 s2]
end
theorem W.flats_get : ∀ {ws : List W} {j : Nat} {w : W}, W.flats ws = true → ws[j]? = some w → w.flat = true
  | [], _, _, _, e => by simp at e
  | x :: xs, 0, w, h, e => by
    have h' : x.flat = true ∧ W.flats xs = true := by simpa [W.flats] using h
    simp at e; subst e; exact h'.1
  | x :: xs, j + 1, w, h, e => by
    have h' : x.flat = true ∧ W.flats xs = true := by simpa [W.flats] using h
    exact W.flats_get h'.2 (by simpa using e)
theorem W.deps_get : ∀ {ws : List W} {j : Nat} {w : W}, ws[j]? = some w → w.dep ≤ W.deps ws
  | [], _, _, e => by simp at e
  | x :: xs, 0, w, e => by simp at e; subst e; simp [W.deps]; omega
  | x :: xs, j + 1, w, e => by
    have := W.deps_get (ws := xs) (j := j) (w := w) (by simpa using e)
    simp only [W.deps]; (clear e; omega)
theorem W.eqs_iff : ∀ (ws us : List W), W.eqs ws us = true ↔ ws.length = us.length ∧ ∀ (j : Nat) (a b : W), ws[j]? = some a → us[j]? = some b → W.eq a b = true
  | [], [] => by simp [W.eqs]
  | [], _ :: _ => by simp [W.eqs]
  | _ :: _, [] => by simp [W.eqs]
  | x :: xs, y :: ys => by
    rw [W.eqs, Bool.and_eq_true, W.eqs_iff xs ys]
    constructor
    · rintro ⟨h1, h2, h3⟩
      refine ⟨by simp [h2], fun j a b ea eb => ?_⟩
      cases j with
      | zero => simp at ea eb; subst ea eb; exact h1
      | succ j => exact h3 j a b (by simpa using ea) (by simpa using eb)
    · rintro ⟨h1, h2⟩
      exact ⟨h2 0 x y rfl rfl, by simpa using h1, fun j a b ea eb => h2 (j + 1) a b (by simpa using ea) (by simpa using eb)⟩
noncomputable def eqAtJ (ws us : List W) (j : Nat) : Bool := match ws[j]?, us[j]? with | some a, some b => W.eq a b | _, _ => true
theorem eqs_range (ws us : List W) : ((List.range (min ws.length us.length)).all (eqAtJ ws us) && (ws.length == us.length)) = W.eqs ws us := by
  rw [Bool.eq_iff_iff, Bool.and_eq_true, W.eqs_iff, List.all_eq_true, beq_iff_eq]
  constructor
  · rintro ⟨h1, h2⟩
    refine ⟨h2, fun j a b ea eb => ?_⟩
    have hj : j < ws.length := (List.getElem?_eq_some_iff.mp ea).1
    have := h1 j (List.mem_range.mpr (by (clear h1 ea eb; omega)))
    unfold eqAtJ at this
    rw [ea, eb] at this
    exact this
  · rintro ⟨h1, h2⟩
    refine ⟨fun j _ => ?_, h1⟩
    unfold eqAtJ
    split
    · rename_i a b ea eb; exact h2 j a b ea eb
    · rfl
section
variable {X : Cx} {pins : List (Addr × Obj)} {σ : St} {H : Hp} {s : Shared}
theorem Inv.tupH {a : Addr} {xs : List V} (I : Inv X pins σ H s) (h : H a = some (.tup xs)) : ∃ its : List Value, Vals xs its ∧ s.heap.IsTuple a its.toArray ∧ xs.length ≤ sizeLine := I.tuple (SqT.of h)
theorem eq_rep (I : Inv X pins σ H s) : ∀ (n : Nat) (A : Around) {w1 w2 : W} {v1 v2 : V} {u1 u2 : Value}, w1.dep < n → w1.flat = true → w2.flat = true → A.units + n < cLine → Rep X.K H w1 v1 → Rep X.K H w2 v2 → RelV v1 u1 → RelV v2 u2 →
    SeqAt.EqAt A s u1 u2 (w1.eq w2) ∧ SeqAt.RcAt A s u1 u2 (w1.eq w2) ∧ SeqAt.RcNeAt A s u1 u2 (!(w1.eq w2)) := by
  intro n
  induction n with
  | zero => intro A w1 w2 v1 v2 u1 u2 h; (clear I; omega)
  | succ n ih =>
    intro A w1 w2 v1 v2 u1 u2 hd f1 f2 hu r1 r2 q1 q2
    have hu0 : A.units < cLine := by (clear I ih f1 f2 r1 r2 q1 q2; omega)
    have hui : A.in1.units + n < cLine := by show A.units + 1 + n < cLine; (clear I ih hd f1 f2 r1 r2 q1 q2 hu0; omega)
    cases r1 with
    | ref a => exact noFT f1
    | scr a => exact noFT f1
    | non =>
      cases (show u1 = Value.none from q1)
      cases r2 with
      | ref a => exact noFT f2
      | scr a => exact noFT f2
      | non => cases (show u2 = Value.none from q2); exact ⟨SeqAt.EqAt.same _, SeqAt.RcAt.none_none, SeqAt.RcNeAt.none_none⟩
      | bl b => cases (show u2 = Value.bool b from q2); exact ⟨SeqAt.EqAt.none_bool b, SeqAt.RcAt.none_bool b, SeqAt.RcNeAt.none_bool b⟩
      | int b => obtain ⟨t, rfl⟩ := q2; exact ⟨SeqAt.EqAt.none_int b t, SeqAt.RcAt.none_int b t, SeqAt.RcNeAt.none_int b t⟩
      | str b => obtain ⟨t, rfl⟩ := q2; exact ⟨SeqAt.EqAt.none_str b t, SeqAt.RcAt.none_str b t, SeqAt.RcNeAt.none_str b t⟩
      | tup h r =>
        cases (show u2 = Value.ref _ from q2)
        obtain ⟨its, _, p, _⟩ := Inv.tupH I h
        exact ⟨SeqAt.EqAt.none_tuple p hu0, SeqAt.RcAt.none_tuple p hu0, SeqAt.RcNeAt.none_tuple p hu0⟩
    | bl a =>
      cases (show u1 = Value.bool a from q1)
      cases r2 with
      | ref a => exact noFT f2
      | scr a => exact noFT f2
      | non => cases (show u2 = Value.none from q2); exact ⟨SeqAt.EqAt.bool_none a, SeqAt.RcAt.bool_none a, SeqAt.RcNeAt.bool_none a⟩
      | bl b => cases (show u2 = Value.bool b from q2); exact ⟨SeqAt.EqAt.bool_bool a b, SeqAt.RcAt.bool_bool a b, SeqAt.RcNeAt.bool_bool a b⟩
      | int b => obtain ⟨t, rfl⟩ := q2; exact ⟨SeqAt.EqAt.bool_int a b t, SeqAt.RcAt.bool_int a b t, SeqAt.RcNeAt.bool_int a b t⟩
      | str b => obtain ⟨t, rfl⟩ := q2; exact ⟨SeqAt.EqAt.bool_str a b t, SeqAt.RcAt.bool_str a b t, SeqAt.RcNeAt.bool_str a b t⟩
      | tup h r =>
        cases (show u2 = Value.ref _ from q2)
        obtain ⟨its, _, p, _⟩ := Inv.tupH I h
        exact ⟨SeqAt.EqAt.bool_tuple a p hu0, SeqAt.RcAt.bool_tuple a p hu0, SeqAt.RcNeAt.bool_tuple a p hu0⟩
    | int a =>
      obtain ⟨ta, rfl⟩ := q1
      cases r2 with
      | ref a => exact noFT f2
      | scr a => exact noFT f2
      | non => cases (show u2 = Value.none from q2); exact ⟨SeqAt.EqAt.int_none a ta, SeqAt.RcAt.int_none a ta, SeqAt.RcNeAt.int_none a ta⟩
      | bl b => cases (show u2 = Value.bool b from q2); exact ⟨SeqAt.EqAt.int_bool a ta b, SeqAt.RcAt.int_bool a ta b, SeqAt.RcNeAt.int_bool a ta b⟩
      | int b => obtain ⟨t, rfl⟩ := q2; exact ⟨SeqAt.EqAt.int_int a ta b t, SeqAt.RcAt.int_int a ta b t, SeqAt.RcNeAt.int_int a ta b t⟩
      | str b => obtain ⟨t, rfl⟩ := q2; exact ⟨SeqAt.EqAt.int_str a ta b t, SeqAt.RcAt.int_str a ta b t, SeqAt.RcNeAt.int_str a ta b t⟩
      | tup h r =>
        cases (show u2 = Value.ref _ from q2)
        obtain ⟨its, _, p, _⟩ := Inv.tupH I h
        exact ⟨SeqAt.EqAt.int_tuple a ta p hu0, SeqAt.RcAt.int_tuple a ta p hu0, SeqAt.RcNeAt.int_tuple a ta p hu0⟩
    | str a =>
      obtain ⟨ta, rfl⟩ := q1
      cases r2 with
      | ref a => exact noFT f2
      | scr a => exact noFT f2
      | non => cases (show u2 = Value.none from q2); exact ⟨SeqAt.EqAt.str_none a ta, SeqAt.RcAt.str_none a ta, SeqAt.RcNeAt.str_none a ta⟩
      | bl b => cases (show u2 = Value.bool b from q2); exact ⟨SeqAt.EqAt.str_bool a ta b, SeqAt.RcAt.str_bool a ta b, SeqAt.RcNeAt.str_bool a ta b⟩
      | int b => obtain ⟨t, rfl⟩ := q2; exact ⟨SeqAt.EqAt.str_int a ta b t, SeqAt.RcAt.str_int a ta b t, SeqAt.RcNeAt.str_int a ta b t⟩
      | str b => obtain ⟨t, rfl⟩ := q2; exact ⟨SeqAt.EqAt.str_str a ta b t, SeqAt.RcAt.str_str a ta b t, SeqAt.RcNeAt.str_str a ta b t⟩
      | tup h r =>
        cases (show u2 = Value.ref _ from q2)
        obtain ⟨its, _, p, _⟩ := Inv.tupH I h
        exact ⟨SeqAt.EqAt.str_tuple a ta p hu0, SeqAt.RcAt.str_tuple a ta p hu0, SeqAt.RcNeAt.str_tuple a ta p hu0⟩
    | @tup a ws xs h r =>
      cases (show u1 = Value.ref _ from q1)
      obtain ⟨its, rv, p, _⟩ := Inv.tupH I h
      cases r2 with
      | ref a => exact noFT f2
      | scr a => exact noFT f2
      | non => cases (show u2 = Value.none from q2); exact ⟨SeqAt.EqAt.tuple_none p hu0, SeqAt.RcAt.tuple_none p hu0, SeqAt.RcNeAt.tuple_none p hu0⟩
      | bl b => cases (show u2 = Value.bool b from q2); exact ⟨SeqAt.EqAt.tuple_bool b p hu0, SeqAt.RcAt.tuple_bool b p hu0, SeqAt.RcNeAt.tuple_bool b p hu0⟩
      | int b => obtain ⟨t, rfl⟩ := q2; exact ⟨SeqAt.EqAt.tuple_int b t p hu0, SeqAt.RcAt.tuple_int b t p hu0, SeqAt.RcNeAt.tuple_int b t p hu0⟩
      | str b => obtain ⟨t, rfl⟩ := q2; exact ⟨SeqAt.EqAt.tuple_str b t p hu0, SeqAt.RcAt.tuple_str b t p hu0, SeqAt.RcNeAt.tuple_str b t p hu0⟩
      | @tup b us ys h2 r2 =>
        cases (show u2 = Value.ref _ from q2)
        obtain ⟨its2, rv2, p2, _⟩ := Inv.tupH I h2
        have g1 : W.flats ws = true := f1
        have g2 : W.flats us = true := f2
        have hd' : W.deps ws < n := by simp only [W.dep] at hd; (clear I ih hu hu0 hui h r f1 q1 rv p h2 r2 f2 q2 rv2 p2 g1 g2; omega)
        have e1 : its.length = ws.length := by rw [← rv.length, r.length]
        have e2 : its2.length = us.length := by rw [← rv2.length, r2.length]
        have he : ∀ j (h1 : j < its.toArray.size) (h2 : j < its2.toArray.size), SeqAt.EqAt A.in1 s its.toArray[j] its2.toArray[j] (eqAtJ ws us j) := fun j j1 j2 => by
          rw [List.size_toArray] at j1 j2
          have ea : ws[j]? = some ws[j] := List.getElem?_eq_getElem (by (clear I ih hu hu0 hui h r hd f1 q1 rv p h2 r2 f2 q2 rv2 p2 g1 g2 hd' e2 j2; omega))
          have eb : us[j]? = some us[j] := List.getElem?_eq_getElem (by (clear I ih hu hu0 hui h r hd f1 q1 rv p h2 r2 f2 q2 rv2 p2 g1 g2 hd' e1 j1 ea; omega))
          obtain ⟨va, ea1, ra⟩ := r.get ea
          obtain ⟨vb, eb1, rb⟩ := r2.get eb
          obtain ⟨ua, ea2, qa⟩ := rv.get ea1
          obtain ⟨ub, eb2, qb⟩ := rv2.get eb1
          have za : its.toArray[j] = ua := by
            have := (List.getElem?_eq_some_iff.mp ea2).2
            simpa using this
          have zb : its2.toArray[j] = ub := by
            have := (List.getElem?_eq_some_iff.mp eb2).2
            simpa using this
          rw [za, zb]
          have := (ih A.in1 (w1 := ws[j]) (w2 := us[j]) (Nat.lt_of_le_of_lt (W.deps_get ea) hd') (W.flats_get g1 ea) (W.flats_get g2 eb) hui ra rb qa qb).1
          unfold eqAtJ
          rw [ea, eb]
          exact this
        have er := eqs_range ws us
        have c1 := SeqAt.RcAt.tuples p p2 hu0 he
        have c2 := SeqAt.RcNeAt.tuples p p2 hu0 he
        rw [List.size_toArray, List.size_toArray, e1, e2, er] at c1 c2
        have ee : (W.tup ws).eq (W.tup us) = W.eqs ws us := rfl
        rw [ee]
        refine ⟨?_, c1, c2⟩
        by_cases hab : a = b
        · subst hab
          have z := Rep.inj f1 f2 (Rep.tup h r) (Rep.tup h2 r2)
          have t : W.eqs ws us = true := by
            cases z
            exact W.eqs_refl ws g1
          rw [t]
          exact SeqAt.EqAt.same _
        · exact SeqAt.EqAt.of_refs hab c1
end
section
variable {X : Cx}
noncomputable def rEq3 : W2 := fun x y G q => x.flat = true ∧ y.flat = true ∧ x.dep ≤ 150 ∧ q (.bl (x.eq y)) G
noncomputable def rNe3 : W2 := fun x y G q => x.flat = true ∧ y.flat = true ∧ x.dep ≤ 150 ∧ q (.bl (!(x.eq y))) G
theorem q_eq {k : Nat} (hr : Room k X.A) : QOp X (compareOp .Eq) rEq3 := by
  intro pins s σ H x y v u Q I rx ry ⟨wx, wy, G, q, r1, r2, g, ⟨f1, f2, hd, h⟩, hQ⟩
  exact (eq_rep I 151 X.A (by (clear hr I rx ry r1 r2 g f1 f2 h hQ; omega)) f1 f2 (by have := hr.un; (clear hr I rx ry r1 r2 g f1 f2 hd h hQ; omega)) r1 r2 rx ry).2.1 X.prog X.w X.xe _ ⟨.bl _, H, I, rfl, hQ _ H _ G (TLe.refl H) (.bl _) g h⟩
theorem q_ne {k : Nat} (hr : Room k X.A) : QOp X (compareOp .NotEq) rNe3 := by
  intro pins s σ H x y v u Q I rx ry ⟨wx, wy, G, q, r1, r2, g, ⟨f1, f2, hd, h⟩, hQ⟩
  exact (eq_rep I 151 X.A (by (clear hr I rx ry r1 r2 g f1 f2 h hQ; omega)) f1 f2 (by have := hr.un; (clear hr I rx ry r1 r2 g f1 f2 hd h hQ; omega)) r1 r2 rx ry).2.2 X.prog X.w X.xe _ ⟨.bl _, H, I, rfl, hQ _ H _ G (TLe.refl H) (.bl _) g h⟩
noncomputable def rSub3 : W2 := fun x y G q => match x, y with
  | .int i, .int j => q (.int (i - j)) G
  | .bl a, .bl b => q (.int (b2i a - b2i b)) G
  | _, _ => False
theorem q_sub : QOp X (binaryOp .Sub) rSub3 := by
  intro pins s σ H x y v u Q I rx ry ⟨wx, wy, G, q, r1, r2, g, h, hQ⟩
  cases r1 with
  | int i =>
    cases r2 with
    | int j => exact op_sub pins s σ H _ _ v u Q I rx ry ⟨_, _, rfl, rfl, hQ _ H _ G (TLe.refl H) (.int _) g h⟩
    | _ => exact False.elim h
  | bl a =>
    cases r2 with
    | bl b =>
      cases rx
      cases ry
      exact sub_bool ⟨.int _, H, I.tok _, ⟨_, rfl⟩, hQ _ H _ G (TLe.refl H) (.int _) g h⟩
    | _ => exact False.elim h
  | _ => exact False.elim h
noncomputable def isNon : W → Bool
  | .non => true
  | _ => false
noncomputable def rIsN (neg : Bool) : W2 := fun x y G q => y = .non ∧ q (.bl (neg ^^ isNon x)) G
noncomputable abbrev WO := WSt → Gp → (Option Int → Gp → Prop) → Prop
noncomputable def LO (K : PySem.W.Frag) (t : WO) : TO := fun σ H Q => ∃ τ G q, RelSt K H τ σ ∧ RelG K H G ∧ t τ G q ∧ ∀ o H1 G1, TLe H H1 → RelG K H1 G1 → q o G1 → Q o H1
noncomputable def QO (X : Cx) (e : Option Expr) (t : WO) : Prop := PO X e (LO X.K t)
theorem PO.imp {e : Option Expr} {t t' : TO} (h : PO X e t) (f : ∀ σ H Q, t' σ H Q → t σ H Q) : PO X e t' := fun pins s σ H Q I q => h pins s σ H Q I (f _ _ _ q)
noncomputable def wNoPart : WO := fun _ G q => q none G
noncomputable def wPart (t : WE) : WO := fun τ G q => t τ G fun x G1 => match x with | .int i => q (some i) G1 | _ => False
theorem qo_none : QO X none wNoPart := po_none.imp fun σ H Q ⟨τ, G, q, hs, hg, ht, hQ⟩ => hQ none H G (TLe.refl H) hg ht
theorem qo_some {e : Expr} {te : WE} (h : QE X e te) : QO X (some e) (wPart te) :=
  (po_some h).imp fun σ H Q ⟨τ, G, q, hs, hg, ht, hQ⟩ => ⟨τ, G, _, hs, hg, ht, fun v H1 w G1 t1 r1 g1 q1 => by
    split at q1
    · cases r1
      exact ⟨_, rfl, hQ _ H1 G1 t1 g1 q1⟩
    · exact q1.elim⟩
noncomputable def cutW (xs : List W) (lo hi : Option Int) : List W := (xs.drop (HT.sIx xs.length 0 lo)).take (HT.sIx xs.length xs.length hi - HT.sIx xs.length 0 lo)
theorem Reps.cut {K : PySem.W.Frag} {H : Hp} {ws : List W} {vs : List V} (r : Reps K H ws vs) (lo hi : Option Int) : Reps K H (cutW ws lo hi) (cutV vs lo hi) := by
  unfold cutW cutV
  rw [r.length]
  exact (r.drop _).take _
noncomputable abbrev W3 := W → Option Int → Option Int → Gp → WK → Prop
noncomputable def rSl3 : W3 := fun x lo hi G q => match x with
  | .tup xs => q (.tup (cutW xs lo hi)) G
  | .scr ns => ns.length ≤ 100000 ∧ ∀ p, G p = none → q (.ref p) (updG G p (.lst (cutW (ns.map W.int) lo hi)))
  | .ref a => ∃ xs, G a = some (.lst xs) ∧ ∀ p, G p = none → q (.ref p) (updG G p (.lst (cutW xs lo hi)))
  | _ => False
theorem cutW_length (xs : List W) (lo hi : Option Int) : (cutW xs lo hi).length ≤ xs.length := by
  unfold cutW
  rw [List.length_take, List.length_drop]
  exact Nat.le_trans (Nat.min_le_right _ _) (Nat.sub_le _ _)
theorem cutW_whole {xs : List W} {lo hi : Option Int} (h : HT.sIx xs.length 0 lo = 0 ∧ HT.sIx xs.length xs.length hi = xs.length) : cutW xs lo hi = xs := by
  unfold cutW
  rw [h.1, h.2, List.drop_zero, Nat.sub_zero, List.take_length]
theorem tup_whole {prog : Program} {w : World} {A : Around} {E : Value → Shared → Prop} {s : Shared} {t sl : Addr} {items : Array Value} {vl vu : Value} {lo hi : Option Int} {Q : Value → Shared → Prop} (ht : IsTup s.heap t items) (hs : s.heap.IsSliceOf sl vl vu .none) (pl : IsPart vl lo) (pu : IsPart vu hi)
    (hw : HT.sIx items.size 0 lo = 0 ∧ HT.sIx items.size items.size hi = items.size) (h : Q (.ref t) s) : wpAny (model prog w) A (getItem (.ref t) (.ref sl)) Q E s := by
  obtain ⟨os, hos, hcs, hds⟩ := id hs
  have hTs : s.TypeIs (.ref sl) "slice" := ⟨os, hos, hcs⟩
  unfold getItem
  try with_reducible refine wpAny_holding ?_
  first | refine wpAny_bind (wpAny_pure ?_) | skip
  refine wpAny_bind (wpAny_sequenceKey ht.typeIs (by decide) ?_)
  refine wpAny_bind (wpAny_callSpecial?_slot (name := Str.ofString "__getitem__") ht.typeIs PyProof.Rows.slot_tuple_getitem
    (wpAny_call_entry PyProof.Rows.slot_tuple_getitem ht.typeIs entry_tuple_getitem ?_ (args_tuple_getitem _ _)))
  show wpAny _ _ (Builtin.Tuple.tupleItemsOf (.ref t) >>= _) _ _ s
  refine wpAny_bind (tupleItemsOf_ ht ?_)
  refine wpAny_bind (wpAny_typeOf hTs ?_)
  rw [if_pos (by decide)]
  refine wpAny_bind (HT.sliceApplied_gen hs pl pu ?_)
  have hyes : (((HT.sIx items.size 0 lo : Nat) : Int) == 0 && (1 : Int) == 1 && (HT.sIx items.size items.size hi - HT.sIx items.size 0 lo) == items.size) = true := by
    rw [hw.1, hw.2]; simp
  show wpAny _ _ (if (((HT.sIx items.size 0 lo : Nat) : Int) == 0 && (1 : Int) == 1 && (HT.sIx items.size items.size hi - HT.sIx items.size 0 lo) == items.size) = true then _ else _) _ _ s
  rw [if_pos hyes]
  refine wpAny_bind ?_
  show wpAny _ _ (typeOf (.ref t) >>= _) _ _ s
  refine wpAny_bind (wpAny_typeOf ht.typeIs (wpAny_pure ?_))
  rw [if_pos (by simp)]
  exact wpAny_bind (wpAny_rule (wpAny_pure ⟨_, rfl, wpAny_pure h⟩))
noncomputable def LSl (K : PySem.W.Frag) (r : W3) : V → Option Int → Option Int → Hp → VK → Prop := fun x lo hi H Q => ∃ w G q, Rep K H w x ∧ RelG K H G ∧ r w lo hi G q ∧ ∀ v H1 w G1, TLe H H1 → Rep K H1 w v → RelG K H1 G1 → q w G1 → Q v H1
theorem q_sl : SlR X (LSl X.K rSl3) := by
  intro pins s σ H x v vl vu lo hi sl Q I rx hs pl pu ⟨w, G, q, r, g, h, hQ⟩
  unfold rSl3 at h
  split at h
  · cases r with
    | @tup a ws xs hh rr =>
      by_cases hw : HT.sIx xs.length 0 lo = 0 ∧ HT.sIx xs.length xs.length hi = xs.length
      · cases rx
        obtain ⟨its, rv, ht, hz⟩ := I.tuple (SqT.of hh)
        have hlen : its.toArray.size = xs.length := by rw [List.size_toArray]; exact rv.length.symm
        refine ⟨"tuple", _, PyProof.Rows.slot_tuple_getitem.lookup, ht.typeIs, ?_⟩
        refine tup_whole ht hs pl pu (by rw [hlen]; exact hw) ⟨.ref a, H, I, rfl, ?_⟩
        rw [cutW_whole (by rw [rr.length]; exact hw)] at h
        exact hQ _ H _ G (TLe.refl H) (.tup hh rr) g h
      · exact sl_tup pins s σ H _ v vl vu lo hi sl Q I rx hs pl pu ⟨a, xs, rfl, SqT.of hh, hw, fun p hp => hQ _ _ _ G (TLe.new hp _) (.tup upd_same ((rr.cut lo hi).mono (TLe.new hp _))) (g.keep hp _) h⟩
  · rename_i ns
    cases r with
    | scr hh =>
      refine sl_list pins s σ H _ v vl vu lo hi sl Q I rx hs pl pu ⟨_, _, rfl, hh.sq, fun p hp => hQ _ _ _ _ (TLe.new hp _) (.ref p) (g.put (TLe.new hp _) ((Reps.ints ns).cut lo hi) ?_) (h.2 p (g.fresh hp))⟩
      exact Nat.le_trans (cutW_length _ _ _) (by rw [List.length_map]; exact h.1)
  · obtain ⟨xs, e, h⟩ := h
    cases r
    obtain ⟨hl, zs, e1, rr⟩ := g _ _ e
    exact sl_list pins s σ H _ v vl vu lo hi sl Q I rx hs pl pu ⟨_, zs, rfl, SqL.of e1, fun p hp => hQ _ _ _ _ (TLe.new hp _) (.ref p) (g.put (TLe.new hp _) (rr.cut lo hi) (Nat.le_trans (cutW_length _ _ _) hl)) (h p (g.fresh hp))⟩
  · exact h.elim
noncomputable def wSl (te : WE) (tl th : WO) : WE := fun τ G q => te τ G fun x G1 => tl τ G1 fun l G2 => th τ G2 fun u G3 => rSl3 x l u G3 q
theorem qe_slice {e : Expr} {lo hi : Option Expr} {te : WE} {tl th : WO} {pos p2 : Pos} (he : QE X e te) (hl : QO X lo tl) (hu : QO X hi th) : QE X (.Subscript e (.Slice lo hi none p2) pos) (wSl te tl th) :=
  (pe_slice q_sl he hl hu).imp fun σ H Q z0 => z0.el fun τ G q hs hg ht hQ => ⟨τ, G, _, hs, hg, ht, fun v H1 w G1 t1 r1 g1 q1 => ⟨τ, G1, _, hs.mono t1, g1, q1, fun l H2 G2 t2 g2 q2 =>
    ⟨τ, G2, _, (hs.mono t1).mono t2, g2, q2, fun u H3 G3 t3 g3 q3 => ⟨w, G3, q, (r1.mono t2).mono t3, g3, q3, fun v4 H4 w4 G4 t4 => hQ v4 H4 w4 G4 (((t1.trans t2).trans t3).trans t4)⟩⟩⟩⟩
theorem boot_isi : bootBuiltins "isinstance" = some (.builtin "isinstance") := by decide +kernel
noncomputable def tyN (G : Gp) : W → Option String
  | .non => some "NoneType"
  | .bl _ => some "bool"
  | .int _ => some "int"
  | .str _ => some "str"
  | .tup _ => some "tuple"
  | .ref a => match G a with | some (.lst _) => some "list" | some .dct => some "dict" | some (.dic _) => some "dict" | _ => none
  | .scr _ => none
noncomputable def subN : String → String → Bool
  | "int", "int" => true
  | "bool", "int" => true
  | "bool", "bool" => true
  | "tuple", "tuple" => true
  | "list", "list" => true
  | "str", "str" => true
  | _, _ => false
noncomputable def isiT (T : String) : Prop := T = "int" ∨ T = "bool" ∨ T = "tuple" ∨ T = "list" ∨ T = "str"
theorem kit_of {K : PySem.W.Frag} {t T : String} (ht : t = "NoneType" ∨ t = "bool" ∨ t = "int" ∨ t = "str" ∨ t = "tuple" ∨ t = "list" ∨ t = "dict") (hT : isiT T) : PySem.W.kitOne K (.type t) (.type T) = some (subN t T) := by
  rcases ht with rfl | rfl | rfl | rfl | rfl | rfl | rfl <;> rcases hT with rfl | rfl | rfl | rfl | rfl <;> first | rfl | kernel_rfl | decide +kernel
noncomputable def wIsi (T : String) (te : WE) : WE := fun τ G q => te τ G fun x G1 => match tyN G1 x with | some t => q (.bl (subN t T)) G1 | none => False
theorem tyOf_rep {K : PySem.W.Frag} {H : Hp} {G : Gp} {w : W} {v : V} {t : String} (g : RelG K H G) (r : Rep K H w v) (e : tyN G w = some t) : TyOf K H v (.type t) ∧ (t = "NoneType" ∨ t = "bool" ∨ t = "int" ∨ t = "str" ∨ t = "tuple" ∨ t = "list" ∨ t = "dict") := by
  unfold tyN at e
  cases r with
  | non => cases e; exact ⟨.non, by simp⟩
  | bl b => cases e; exact ⟨.bl b, by simp⟩
  | int i => cases e; exact ⟨.int i, by simp⟩
  | str x => cases e; exact ⟨.str x, by simp⟩
  | tup h _ => cases e; exact ⟨.tup h, by simp⟩
  | scr h => cases e
  | ref a =>
    simp only at e
    split at e
    · rename_i ws e1
      cases e
      obtain ⟨_, xs, e2, _⟩ := g a _ e1
      exact ⟨.lst e2, by simp⟩
    · rename_i e1
      cases e
      exact ⟨.dK (g a _ e1), by simp⟩
    · rename_i kvs e1
      cases e
      obtain ⟨_, kvs', e2, _⟩ := g a _ e1
      exact ⟨.dK e2, by simp⟩
    · cases e
theorem q_isi {T : String} (hT : isiT T) {pins : List (Addr × Obj)} {σ : St} {H : Hp} {s : Shared} {v : V} {u : Value} {w : W} {G : Gp} {q : WK} {Q : VK} (I : Inv X pins σ H s) (ru : RelV v u) (r : Rep X.K H w v) (g : RelG X.K H G)
    (h : match tyN G w with | some t => q (.bl (subN t T)) G | none => False) (hQ : ∀ v H1 w G1, TLe H H1 → Rep X.K H1 w v → RelG X.K H1 G1 → q w G1 → Q v H1) :
    wpAny (model X.prog X.w) X.A (call (.builtin "isinstance") [u, .type T]) (EP X pins σ Q) X.xe s := by
  split at h
  · rename_i t e
    obtain ⟨ty, hk⟩ := tyOf_rep g r e
    exact isinst_ok I ru ty (kit_of hk hT) fun tk => ⟨.bl _, H, I.tok tk, rfl, hQ _ H _ G (TLe.refl H) (.bl _) g h⟩
  · exact h.elim
theorem qe_isi {T : String} {x : Str} {e : Expr} {te : WE} {p p2 pos : Pos} (hT : isiT T) (hv : bootBuiltins x = some (.type T)) (hm : X.mg x = none) (hgx : Gl X x) (hm1 : X.mg "isinstance" = none) (hg1 : Gl X "isinstance") (he : QE X e te) (hn : x ≠ "__name__" := by decide) (hd : (x == ("__debug__" : Str)) = false := by decide)
    (hs1 : starEach [e, .Name x p2] X.env = (false, eval e X.env) :: starEach [.Name x p2] X.env := by rfl) (hs2 : starEach [.Name x p2] X.env = (false, eval (.Name x p2) X.env) :: starEach [] X.env := by rfl)
    (hpl : (backTo pos (starEach [.Name x p2] X.env)).any (·.1) = false := by rfl) : QE X (.Call (.Name "isinstance" p) [e, .Name x p2] [] pos) (wIsi T te) := by
  have hb : PE X (.Name x p2) (tC (.ty T)) := pe_bltn hgx hm hv rfl hn hd
  have ha : PA X [e, .Name x p2] (tCons (LEx X.K te) (tCons (tC (.ty T)) tNil)) := pa_cons he (pa_cons hb pa_nil hs2) hs1
  have hc : CallR X (.builtin "isinstance") (fun vs H Q => ∃ (v : V) (w : W) (G : Gp) (q : WK), vs = [v, .ty T] ∧ Rep X.K H w v ∧ RelG X.K H G ∧ (match tyN G w with | some t => q (.bl (subN t T)) G | none => False) ∧ ∀ v H1 w G1, TLe H H1 → Rep X.K H1 w v → RelG X.K H1 G1 → q w G1 → Q v H1) := by
    intro pins s σ H xs us Q I r ⟨v, w, G, q, e1, r1, g1, h, hQ⟩
    subst e1
    obtain ⟨u, u2, rfl, ru, ru2⟩ := vals2 r
    cases (show u2 = Value.type T from ru2)
    exact q_isi hT I ru r1 g1 h hQ
  exact (pe_callB hc hg1 hm1 boot_isi ha (by decide) (by decide) hs1 hpl).imp fun σ H Q z0 => z0.el fun τ G q hs hg ht hQ => ⟨τ, G, _, hs, hg, ht, fun v H1 w G1 t1 r1 g1 q1 =>
    ⟨v, w, G1, q, rfl, r1, g1, q1, fun v2 H2 w2 G2 t2 => hQ v2 H2 w2 G2 (t1.trans t2)⟩⟩
noncomputable def cSum : List W → Gp → WK → Prop := fun ws G q => match ws with
  | [.ref a] => ∃ ns : List Int, G a = some (.lst (ns.map W.int)) ∧ q (.int ns.sum) G
  | _ => False
theorem Reps.ints_of {K : PySem.W.Frag} {H : Hp} : ∀ {ns : List Int} {vs : List V}, Reps K H (ns.map W.int) vs → vs = ns.map V.int
  | [], _, r => by cases r; rfl
  | n :: ns, _, r => by
    cases r with
    | cons r rs =>
      cases r
      rw [Reps.ints_of rs]
      rfl
theorem q_sum (hc : X.calm = true) : QCall X (.builtin "sum") cSum := by
  intro pins s σ H xs us Q I r ⟨ws, G, q, rw', g, h, hQ⟩
  unfold cSum at h
  split at h
  · rename_i a
    obtain ⟨ns, e, h⟩ := h
    obtain ⟨v, rfl, r1⟩ := rw'.one
    cases r1
    obtain ⟨_, zs, e1, rr⟩ := g a _ e
    obtain rfl := rr.ints_of
    obtain ⟨u, rfl, ru⟩ := vals1 r
    cases (show u = Value.ref a from ru)
    obtain ⟨its, rv, p, hz⟩ := I.list (SqL.of e1)
    have hi : IntsAre its ns := L2.intsAre_of rv
    obtain ⟨ys, ey⟩ := hi.allInts.items
    have hn : (ys.toList.map (·.1)) = ns := by rw [← nums_intItems, ← ey, ← hi.numsOf]
    have hl : s.heap.IsList a (intItems ys) := by rw [← ey]; exact p.isList
    refine sum_intListG (I.ok.hd hc) hl fun h' tk t' hk => ⟨.int _, H, I.kept hk, ⟨t', rfl⟩, ?_⟩
    have es : preSum (numAt ys) ys.size = ns.sum := by rw [preSum_eq, List.take_of_length_le (by simp), hn]
    rw [es]
    exact hQ _ H _ G (TLe.refl H) (.int _) g h
  · exact h.elim
noncomputable def wApp (to te : WE) : WE := fun τ G q => to τ G fun x G1 => match x with
  | .ref a => (∃ xs, G1 a = some (.lst xs)) ∧ te τ G1 fun y G2 => ∃ ys, G2 a = some (.lst ys) ∧ ys.length + 1 ≤ 100000 ∧ q .non (updG G2 a (.lst (ys ++ [y])))
  | _ => False
theorem qe_app {o e : Expr} {to te : WE} {apos cpos : Pos} (ho : QE X o to) (he : QE X e te)
    (hbase : attributeBase o "append" X.env (eval o X.env) = eval o X.env := by rfl)
    (hfew : ((backTo cpos (starEach [e] X.env)).all (fun x => !x.1) && (backToKw cpos (keywordEach [] X.env)).all (fun x => x.1.isSome)
      && decide (([e] : List Expr).length + ([] : List Keyword).length + (if ([] : List Keyword).isEmpty then 0 else 1) < 30)) = true := by rfl)
    (hline : (apos.endLine == cpos.line) = true := by rfl) (hs : starEach [e] X.env = (false, eval e X.env) :: starEach [] X.env := by rfl) :
    QE X (.Call (.Attribute o "append" apos) [e] [] cpos) (wApp to te) :=
  (pe_bm PySem.F.plainAttrs_list PySem.F.slot_list_append PySem.F.type_list_append mt_append ho (pa_cons he pa_nil hs) hbase hfew hline hs rfl).imp fun σ H Q z0 => z0.el fun τ G q hs hg ht hQ =>
    ⟨τ, G, _, hs, hg, ht, fun v H1 w G1 t1 r1 g1 q1 => by
      split at q1
      · rename_i a
        cases r1
        obtain ⟨⟨xs, e1⟩, q1⟩ := q1
        obtain ⟨_, xs', h1, _⟩ := g1 a _ e1
        refine ⟨.inl ⟨rfl, xs', SqL.of h1⟩, τ, G1, _, hs.mono t1, g1, q1, fun v2 H2 w2 G2 t2 r2 g2 q2 => ?_⟩
        obtain ⟨ys, e2, hl, q2⟩ := q2
        obtain ⟨_, ys', h2, rr⟩ := g2 a _ e2
        refine ⟨a, ys', v2, rfl, rfl, h2, ?_, ?_⟩
        · rw [← rr.length]
          exact line_le hl
        · exact hQ _ _ _ _ ((t1.trans t2).trans (TLe.lst h2 _)) .non (g2.put (TLe.lst h2 _) (rr.append (.cons r2 .nil)) (by rw [List.length_append]; exact hl)) q2
      · exact q1.elim⟩
end
end L2
namespace L2
open PySem PySem.Spec PyProof.Rows
structure Itn (K : PySem.W.Frag) (J : It) (ws : List W) (C : Gp → Prop) (H0 : Hp) : Prop where
  stop : ∀ i H G, TLe H0 H → RelG K H G → C G → ws.length ≤ i → J.stop i H
  go : ∀ i w H G, TLe H0 H → RelG K H G → C G → ws[i]? = some w → J.go i H ∧ ∀ x H', J.yld i H x H' → TLe H H' ∧ Rep K H' w x ∧ RelG K H' G
noncomputable abbrev WI := WSt → Gp → (List W → (Gp → Prop) → Gp → Prop) → Prop
noncomputable def LI (K : PySem.W.Frag) (t : WI) : TI := fun σ H R => ∃ τ G r, RelSt K H τ σ ∧ RelG K H G ∧ t τ G r ∧ ∀ J H1 ws C G1, TLe H H1 → RelG K H1 G1 → Itn K J ws C H1 → r ws C G1 → R J H1
noncomputable def QI (X : Cx) (tg iter : Expr) (t : WI) : Prop := PI X tg iter (LI X.K t)
section
variable {X : Cx} {tg : Expr}
theorem PI.imp {e : Expr} {t t' : TI} (h : PI X tg e t) (f : ∀ σ H R, t' σ H R → t σ H R) : PI X tg e t' := fun pins s σ H R I q => h pins s σ H R I (f _ _ _ q)
theorem pi_seq {l : Expr} {tl : TE} (hl : PE X l tl) : PI X tg l (fun σ H R => tl σ H fun x H1 => ∃ a, x = .ref a ∧ (((∃ xs, SqL X.K H1 a xs) ∧ R (Itl X.K a) H1) ∨ ((∃ xs, SqT X.K H1 a xs) ∧ R (Itt X.K a) H1))) := by
  intro pins s σ H R I h
  refine thn (hl pins s σ H _ I h) fun v s1 ⟨x, H1, I1, r1, q1⟩ => ?_
  obtain ⟨a, e, q1⟩ := q1
  subst e
  cases r1
  rcases q1 with ⟨⟨xs, hq⟩, q⟩ | ⟨⟨xs, hq⟩, q⟩
  · obtain ⟨its, rv, p, hz⟩ := I1.list hq
    refine wpAny_pyIter_list p.isList ?_
    refine ⟨s1.heap.objs.size, [s1.heap.objs.size], _, _, H1, rfl, I1.kept (t' := s1.toks) fun b o e => Heap.get?_push_of_some _ e, turn_list a _, ⟨_, Heap.get?_push_size _ rfl, rfl, rfl⟩, fun b hb => ?_, q⟩
    have e : b = s1.heap.objs.size := by simpa using hb
    subst e
    exact I1.fpOk (Nat.le_refl _) (I1.hok.fresh (Nat.le_refl _))
  · obtain ⟨its, rv, p, hz⟩ := I1.tuple hq
    refine wpAny_pyIter_tuple (show s1.heap.IsTuple a its.toArray from p) ?_
    refine ⟨s1.heap.objs.size, [s1.heap.objs.size], _, _, H1, rfl, I1.kept (t' := s1.toks) fun b o e => Heap.get?_push_of_some _ e, turn_tuple a _, ⟨_, Heap.get?_push_size _ rfl, rfl, rfl⟩, fun b hb => ?_, q⟩
    have e : b = s1.heap.objs.size := by simpa using hb
    subst e
    exact I1.fpOk (Nat.le_refl _) (I1.hok.fresh (Nat.le_refl _))
theorem itn_tup {K : PySem.W.Frag} {a : Addr} {ws : List W} {xs : List V} {H : Hp} (h : H a = some (.tup xs)) (r : Reps K H ws xs) : Itn K (Itt K a) ws (fun _ => True) H where
  stop := fun i H1 G t g _ hl => ⟨xs, SqT.of (t.tup _ _ h), by rw [← r.length]; exact hl⟩
  go := fun i w H1 G t g _ e => by
    obtain ⟨v, e1, rv⟩ := r.get e
    refine ⟨⟨xs, v, SqT.of (t.tup _ _ h), e1⟩, fun x H' ⟨eH, hy⟩ => ?_⟩
    subst eH
    have e2 := hy xs (SqT.of (t.tup _ _ h))
    rw [e1] at e2; cases e2
    exact ⟨TLe.refl _, rv.mono t, g⟩
theorem itn_lst {K : PySem.W.Frag} {a : Addr} {ws : List W} {H : Hp} : Itn K (Itl K a) ws (fun G => G a = some (.lst ws)) H where
  stop := fun i H1 G t g e hl => by
    obtain ⟨_, xs, h1, r⟩ := g a _ e
    exact ⟨xs, SqL.of h1, by rw [← r.length]; exact hl⟩
  go := fun i w H1 G t g eG e => by
    obtain ⟨_, xs, h1, r⟩ := g a _ eG
    obtain ⟨v, e1, rv⟩ := r.get e
    refine ⟨⟨xs, v, SqL.of h1, e1⟩, fun x H' ⟨eH, hy⟩ => ?_⟩
    subst eH
    have e2 := hy xs (SqL.of h1)
    rw [e1] at e2; cases e2
    exact ⟨TLe.refl _, rv, g⟩
theorem itn_scr {K : PySem.W.Frag} {a : Addr} {ns : List Int} {H : Hp} (h : Scr K H a ns) : Itn K (Itl K a) (ns.map W.int) (fun _ => True) H where
  stop := fun i H1 G t g _ hl => ⟨_, (h.mono t).sq, by simpa using hl⟩
  go := fun i w H1 G t g _ e => by
    have r : Reps K H1 (ns.map W.int) (ns.map V.int) := Reps.ints ns
    obtain ⟨v, e1, rv⟩ := r.get e
    refine ⟨⟨_, v, (h.mono t).sq, e1⟩, fun x H' ⟨eH, hy⟩ => ?_⟩
    subst eH
    have e2 := hy _ (h.mono t).sq
    rw [e1] at e2; cases e2
    exact ⟨TLe.refl _, rv, g⟩
noncomputable def jSeq (te : WE) : WI := fun τ G r => te τ G fun x G1 => match x with
  | .tup ws => r ws (fun _ => True) G1
  | .scr ns => r (ns.map W.int) (fun _ => True) G1
  | .ref a => ∃ ws, G1 a = some (.lst ws) ∧ r ws (fun G => G a = some (.lst ws)) G1
  | _ => False
theorem qi_seq {l : Expr} {te : WE} (hl : QE X l te) : QI X tg l (jSeq te) :=
  (pi_seq hl).imp fun σ H R ⟨τ, G, r, hs, hg, ht, hR⟩ => ⟨τ, G, _, hs, hg, ht, fun v H1 w G1 t1 r1 g1 q1 => by
    split at q1
    · cases r1 with
      | tup h rr => exact ⟨_, rfl, .inr ⟨⟨_, SqT.of h⟩, hR _ H1 _ _ G1 t1 g1 (itn_tup h rr) q1⟩⟩
    · cases r1 with
      | scr h => exact ⟨_, rfl, .inl ⟨⟨_, h.sq⟩, hR _ H1 _ _ G1 t1 g1 (itn_scr h) q1⟩⟩
    · obtain ⟨ws, e, q1⟩ := q1
      cases r1
      obtain ⟨_, xs, h1, _⟩ := g1 _ _ e
      exact ⟨_, rfl, .inl ⟨⟨xs, SqL.of h1⟩, hR _ H1 _ _ G1 t1 g1 itn_lst q1⟩⟩
    · exact q1.elim⟩
noncomputable def upW (n : Nat) : List W := (List.range n).map fun (i : Nat) => W.int (i : Int)
theorem itn_rng {K : PySem.W.Frag} {n : Nat} {H : Hp} : Itn K (Itr 0 n) (upW n) (fun _ => True) H where
  stop := fun i H1 G t g _ hl => by have h : n ≤ i := by simpa [upW] using hl
                                    exact h
  go := fun i w H1 G t g _ e => by
    unfold upW at e
    rw [List.getElem?_map] at e
    have hi : i < n := by
      cases h : (List.range n)[i]? with
      | none => rw [h] at e; cases e
      | some k =>
        have := (List.getElem?_eq_some_iff.mp h).1
        simpa using this
    rw [List.getElem?_range hi] at e
    cases e
    refine ⟨hi, fun x H' ⟨eH, hy⟩ => ?_⟩
    subst eH
    subst hy
    exact ⟨TLe.refl _, by simpa using Rep.int _, g⟩
noncomputable def jRng (ta : WA) : WI := fun τ G r => ta τ G fun ws G1 => match ws with
  | [.int j] => -(2 ^ 62) ≤ j ∧ j < 2 ^ 62 ∧ r (upW j.toNat) (fun _ => True) G1
  | _ => False
theorem qi_range {a : Expr} {ta : WA} {p pos : Pos} (hg : Gl X "range") (hm : X.mg "range" = none) (ha : QA X [a] ta) (hs : starEach [a] X.env = [(false, eval a X.env)] := by rfl) : QI X tg (.Call (.Name "range" p) [a] [] pos) (jRng ta) :=
  (pi_range1 hg hm ha hs).imp fun σ H R ⟨τ, G, r, hs, hg, ht, hR⟩ => ⟨τ, G, _, hs, hg, ht, fun vs H1 ws G1 t1 r1 g1 q1 => by
    split at q1
    · obtain ⟨v, rfl, r2⟩ := r1.one
      cases r2 with
      | int j => exact ⟨_, rfl, q1.1, q1.2.1, hR _ H1 _ _ G1 t1 g1 itn_rng q1.2.2⟩
    · exact q1.elim⟩
noncomputable def loopW (C : Gp → Prop) (g : WG) (tb : WS) (d : WEnds) : List W → WSt → Gp → Prop
  | [], τ, G => C G ∧ d.nx τ G
  | w :: ws, τ, G => C G ∧ g w τ G fun τ2 G2 => tb { d with nx := loopW C g tb d ws, ct := loopW C g tb d ws, bk := d.nx } τ2 G2
noncomputable def wFor (wi : WI) (g : WG) (tb : WS) : WS := fun d τ G => wi τ G fun ws C G1 => loopW C g tb d ws τ G1
theorem qs_for {iter : Expr} {body : List Stmt} {wi : WI} {g : WG} {tb : WS} {pos : Pos} (hp : PassesOwn (model X.prog X.w) X.A X.env X.xe) (hc : X.calm = true) (hi : QI X tg iter wi) (hg : QG X tg g) (hb : QSs X body tb)
    (hs : ∀ x, foldedSetIterable iter X.env x = pure x := by intro _; rfl) : QS X (.For tg iter body [] pos) (wFor wi g tb) :=
  (ps_for hp hc hi hg hb hs).imp fun D σ H z0 => z0.el fun τ G d hs hg ht l => ⟨τ, G, _, hs, hg, ht, fun J H1 ws C G1 t1 g1 it q1 => by
    refine ⟨fun i m σ2 H2 => ∃ τ2 G2, m = ws.length - i ∧ i ≤ ws.length ∧ TLe H1 H2 ∧ RelSt X.K H2 τ2 σ2 ∧ RelG X.K H2 G2 ∧ loopW C g tb d (ws.drop i) τ2 G2, ⟨ws.length, τ, G1, by simp, Nat.zero_le _, TLe.refl _, hs.mono t1, g1, by simpa using q1⟩, ?_⟩
    rintro i m σ2 H2 ⟨τ2, G2, rfl, hi, t2, s2, g2, q2⟩
    by_cases hlt : i < ws.length
    · have ed : ws.drop i = ws[i] :: ws.drop (i + 1) := List.drop_eq_getElem_cons hlt
      rw [ed] at q2
      obtain ⟨c2, q2⟩ := q2
      obtain ⟨go, yl⟩ := it.go i ws[i] H2 G2 t2 g2 c2 (List.getElem?_eq_getElem hlt)
      refine .inr ⟨go, fun σ3 H3 => ∃ τ3 G3, TLe H1 H3 ∧ RelSt X.K H3 τ3 σ3 ∧ RelG X.K H3 G3 ∧ loopW C g tb d (ws.drop (i + 1)) τ3 G3, ?_, fun x H' hy => ?_⟩
      · rintro σ3 H3 ⟨τ3, G3, t3, s3, g3, q3⟩
        exact ⟨ws.length - (i + 1), by (clear hp hc hb z0 hs hg ht l t1 g1 it q1 hi t2 s2 g2 ed c2 q2 go yl t3 s3 g3 q3; omega), τ3, G3, rfl, hlt, t3, s3, g3, q3⟩
      · obtain ⟨tx, rx, gx⟩ := yl x H' hy
        refine ⟨ws[i], τ2, G2, _, rx, s2.mono tx, gx, q2, fun σ3 H3 τ3 G3 t3 s3 g3 q3 => ?_⟩
        have tt := (t2.trans tx).trans t3
        have t0 := t1.trans tt
        exact ⟨τ3, G3, _, s3, g3, q3, ⟨fun σ4 H4 τ4 G4 t4 s4 g4 q4 => ⟨τ4, G4, tt.trans t4, s4, g4, q4⟩, fun v H4 w G4 t4 => l.rt v H4 w G4 (t0.trans t4), fun σ4 H4 τ4 G4 t4 => l.nx σ4 H4 τ4 G4 (t0.trans t4), fun σ4 H4 τ4 G4 t4 s4 g4 q4 => ⟨τ4, G4, tt.trans t4, s4, g4, q4⟩⟩⟩
    · have e : i = ws.length := by (clear hp hc hb z0 hs hg ht l t1 g1 it q1 t2 s2 g2 q2; omega)
      subst e
      rw [List.drop_length] at q2
      exact .inl ⟨it.stop _ H2 G2 t2 g2 q2.1 (Nat.le_refl _), l.nx σ2 H2 τ2 G2 (t1.trans t2) s2 g2 q2.2⟩⟩
end
end L2
namespace L2
open PySem PySem.Spec PyProof.Rows
section
variable {prog : Program} {w : World} {A : Around} {E : Value → Shared → Prop} {s : Shared}
structure ZA (z p r i j a b : Addr) : Prop where
  zp : p ≠ z
  zr : r ≠ z
  zi : i ≠ z
  zj : j ≠ z
  pr : p ≠ r
  pi : p ≠ i
  pj : p ≠ j
  ri : r ≠ i
  rj : r ≠ j
  ij : i ≠ j
  az : a ≠ z
  ar : a ≠ r
  ai : a ≠ i
  aj : a ≠ j
  bz : b ≠ z
  br : b ≠ r
  bi : b ≠ i
  bj : b ≠ j
structure ZT (z p r i j a b : Addr) (n : Nat) (f : Value) (h : Heap) : Prop where
  hz : IsZip h z p r f
  hp : IsPair h p (.ref i) (.ref j)
  hr : ∃ x y, IsPair h r x y
  hi : h.IsTupleIter i a n
  hj : h.IsTupleIter j b n
end
end L2
namespace L2
open PySem PySem.Spec PyProof.Rows
section
variable {prog : Program} {w : World} {A : Around} {R : Result → Shared → Prop} {s : Shared}
noncomputable abbrev nox : Value → Shared → Prop := fun _ _ => False
noncomputable abbrev tests (ifs : List Expr) (env : Env) : Sem Bool := forIn ifs true fun c r => if r = true then do let ok ← isTrue c env (eval c env); pure (ForInStep.yield ok) else pure (ForInStep.yield r)
theorem comp_loop {elt tg iter : Expr} {ifs : List Expr} {scope : Scope} {pos : Pos} {it acc : Value} {env : Env} (I : Nat → Shared → Prop)
    (turn : ∀ n s, I n s → wpAny (model prog w) A (pyNext it) (fun r s1 => match r with
      | none => R (.ok .next) s1
      | some v => wpAny (model prog w) A (letOwnedTupleGo tg it v) (fun _ s2 => wpAny (model prog w) A (assign tg env v) (fun _ s3 => wpAny (model prog w) A (tests ifs env) (fun ok s4 =>
          if ok = true then wpAny (model prog w) A (eval elt env) (fun x s5 => wpAny (model prog w) A (call (.builtin "list.append") [acc, x]) (fun _ s6 => ∃ m, m < n ∧ I m s6) nox s5) nox s4
          else ∃ m, m < n ∧ I m s4) nox s3) nox s2) nox s1) nox s) (n : Nat) (h : I n s) :
    codeAny (model prog w) A (.compLoop (.ListComp elt [⟨tg, iter, ifs, 0⟩] scope pos) 0 it acc env) R s := by
  refine codeAny_loop rfl I (fun n s hI => ?_) n h
  show wpAny _ A ((compTurn (.ListComp elt [⟨tg, iter, ifs, 0⟩] scope pos) 0 it acc env).onRaise (fun x => do noteFrame x env; theTreesLotGoes x)) _ _ s
  refine wpAny_noted ?_; rw [compTurn_list]
  refine wpAny_bind (wpAny_standAt (wpAny_bind (wpAny_mono (turn n s hI) (fun r s1 h1 => ?_) fun _ _ z => z.elim)))
  cases r with
  | none => exact wpAny_pure h1
  | some v =>
    refine wpAny_bind (wpAny_mono h1 (fun _ s2 h2 => wpAny_bind (wpAny_mono h2 (fun _ s3 h3 => wpAny_bind (wpAny_mono h3 (fun ok s4 h4 => ?_) fun _ _ z => z.elim)) fun _ _ z => z.elim)) fun _ _ z => z.elim)
    cases ok with
    | false => exact wpAny_pure ⟨rfl, h4⟩
    | true =>
      refine wpAny_bind (wpAny_bind (wpAny_mono h4 (fun x s5 h5 => ?_) fun _ _ z => z.elim))
      exact wpAny_bind (wpAny_mono h5 (fun _ s6 h6 => wpAny_pure (wpAny_pure ⟨rfl, h6⟩)) fun _ _ z => z.elim)
end
noncomputable def clOf (env : Env) : List (Str × NameKind) → List (Str × Addr) → List (Str × Addr)
  | [], cs => cs
  | (n, k) :: r, cs => if k == .free then clOf env r ((n, (env.cells.lookup n).getD 0) :: cs) else clOf env r cs
theorem closure_of {env : Env} {scope : Scope} (h : ∀ y ∈ scope.names, y.2 = .free → ∃ c, env.cells.lookup y.1 = some c) : closureFor scope env = pure (clOf env scope.names []) := by
  unfold closureFor
  have key : ∀ (l : List (Str × NameKind)) (cs : List (Str × Addr)), (∀ y ∈ l, y.2 = .free → ∃ c, env.cells.lookup y.1 = some c) →
      (forIn l cs fun (x : Str × NameKind) (r : List (Str × Addr)) => (if (x.2 == NameKind.free) = true then (do let y ← cellOf env x.1; pure (ForInStep.yield ((x.1, y) :: r))) else pure (ForInStep.yield r) : Sem (ForInStep (List (Str × Addr))))) = (pure (clOf env l cs) : Sem (List (Str × Addr))) := by
    intro l
    induction l with
    | nil => intro cs _; rfl
    | cons y r ih =>
      intro cs hl
      obtain ⟨n, k⟩ := y
      rw [List.forIn_cons]
      unfold clOf
      by_cases hk : (k == NameKind.free) = true
      · have hk' : k = .free := by simpa using hk
        obtain ⟨c, hc⟩ := hl (n, k) List.mem_cons_self hk'
        simp only [hk, if_true]
        have e : cellOf env n = pure c := by unfold cellOf; rw [hc]
        rw [e, hc]
        simp only [pure_bind, Option.getD_some]
        exact ih _ fun y hy => hl y (List.mem_cons_of_mem _ hy)
      · simp only [hk, if_false, Bool.false_eq_true]
        simp only [pure_bind]
        exact ih _ fun y hy => hl y (List.mem_cons_of_mem _ hy)
  have := key scope.names [] h
  simp only [bind_pure]
  exact this
theorem clOf_lookup {env : Env} : ∀ {l : List (Str × NameKind)} {cs : List (Str × Addr)}, (∀ y ∈ l, y.2 = .free → ∃ c, env.cells.lookup y.1 = some c) → (∀ x c, cs.lookup x = some c → env.cells.lookup x = some c) → ∀ x c, (clOf env l cs).lookup x = some c → env.cells.lookup x = some c
  | [], _, _, hc, x, c, e => hc x c e
  | (n, k) :: r, cs, hl, hc, x, c, e => by
    unfold clOf at e
    have hr : ∀ y ∈ r, y.2 = .free → ∃ c, env.cells.lookup y.1 = some c := fun y hy => hl y (List.mem_cons_of_mem _ hy)
    split at e
    · rename_i hk
      obtain ⟨c0, hc0⟩ := hl (n, k) List.mem_cons_self (by simpa using hk)
      refine clOf_lookup hr (fun x' c' e' => ?_) x c e
      rw [List.lookup_cons] at e'
      cases hx : x' == n with
      | true =>
        rw [hx] at e'
        have : x' = n := by simpa using hx
        subst this
        rw [hc0] at e'
        simp at e'
        subst e'
        exact hc0
      | false => rw [hx] at e'; exact hc x' c' e'
    · exact clOf_lookup hr hc x c e
theorem clOf_has {env : Env} : ∀ {l : List (Str × NameKind)} {cs : List (Str × Addr)} {x : Str}, ((x, NameKind.free) ∈ l ∨ ∃ c, cs.lookup x = some c) → ∃ c, (clOf env l cs).lookup x = some c
  | [], _, _, h => by
    rcases h with h | h
    · simp at h
    · exact h
  | (n, k) :: r, cs, x, h => by
    unfold clOf
    have keep : (∃ c, cs.lookup x = some c) → ∃ c, ((n, (env.cells.lookup n).getD 0) :: cs).lookup x = some c := fun ⟨c, e⟩ => by
      rw [List.lookup_cons]
      cases hx : x == n with
      | true => exact ⟨_, rfl⟩
      | false => exact ⟨c, e⟩
    split
    · rename_i hk
      refine clOf_has ?_
      rcases h with h | h
      · rcases List.mem_cons.mp h with h | h
        · cases h
          exact .inr ⟨(env.cells.lookup n).getD 0, by rw [List.lookup_cons]; simp⟩
        · exact .inl h
      · exact .inr (keep h)
    · rename_i hk
      refine clOf_has ?_
      rcases h with h | h
      · rcases List.mem_cons.mp h with h | h
        · cases h
          exact absurd rfl hk
        · exact .inl h
      · exact .inr h
theorem relabel_lookup {env : Env} : ∀ {l : List (Str × NameKind)} {x : Str} {k : NameKind}, (l.map fun (n, k) => if (k == NameKind.free && env.scope.kind == .function && env.kindOf n == some .cell) then (n, NameKind.cell) else (n, k)).lookup x = some k → (k = .cell ∨ k = .free) → (∀ y ∈ l, y.2 ≠ .cell) → (x, NameKind.free) ∈ l
  | [], _, _, e, _, _ => by simp at e
  | (n, k0) :: r, x, k, e, hk, hc => by
    rw [List.map_cons, List.lookup_cons] at e
    have hr : ∀ y ∈ r, y.2 ≠ .cell := fun y hy => hc y (List.mem_cons_of_mem _ hy)
    have hn : (if (k0 == NameKind.free && env.scope.kind == .function && env.kindOf n == some .cell) = true then (n, NameKind.cell) else (n, k0)).1 = n := by split <;> rfl
    rw [hn] at e
    cases hx : x == n with
    | false => rw [hx] at e; exact List.mem_cons_of_mem _ (relabel_lookup e hk hr)
    | true =>
      rw [hx] at e
      have hxn : x = n := by simpa using hx
      subst hxn
      have e' : (if (k0 == NameKind.free && env.scope.kind == .function && env.kindOf x == some .cell) = true then (x, NameKind.cell) else (x, k0)).2 = k := Option.some.inj e
      by_cases hf : k0 = .free
      · subst hf; exact List.mem_cons_self
      · rw [if_neg (by simp [hf])] at e'
        have e'' : k0 = k := e'
        subst e''
        rcases hk with h | h
        · exact absurd h (hc _ List.mem_cons_self)
        · exact absurd h hf
theorem relabel_local {env : Env} : ∀ {l : List (Str × NameKind)} {x : Str}, (l.map fun (n, k) => if (k == NameKind.free && env.scope.kind == .function && env.kindOf n == some .cell) then (n, NameKind.cell) else (n, k)).lookup x = some .local → l.lookup x = some .local
  | [], _, e => by simp at e
  | (n, k0) :: r, x, e => by
    rw [List.map_cons, List.lookup_cons] at e
    rw [List.lookup_cons]
    have hn : (if (k0 == NameKind.free && env.scope.kind == .function && env.kindOf n == some .cell) = true then (n, NameKind.cell) else (n, k0)).1 = n := by split <;> rfl
    rw [hn] at e
    cases hx : x == n with
    | false => rw [hx] at e; exact relabel_local e
    | true =>
      rw [hx] at e
      have e' : (if (k0 == NameKind.free && env.scope.kind == .function && env.kindOf n == some .cell) = true then (n, NameKind.cell) else (n, k0)).2 = NameKind.local := Option.some.inj e
      split at e'
      · cases e'
      · exact congrArg some e'
noncomputable def bCx (X : Cx) (N : List Str) (scope : Scope) (C : Addr) (fp : List Addr) (s₀ : Shared) (H₀ : Hp) : Cx where
  prog := X.prog
  w := X.w
  K := X.K
  mg := X.mg
  base := X.base
  A := X.A
  N := N
  s₀ := s₀
  H₀ := H₀
  env := compEnvC scope (clOf X.env scope.names []) C X.env
  outer := X.stack
  stack := X.stack
  ex := fp
  fn := fun _ => false
  calm := X.calm
  pn := []
  xe := nox
structure CompSc (X : Cx) (scope : Scope) (N : List Str) (fv : List (Option Nat)) : Prop where
  kind : scope.kind = .function
  nocell : ∀ y ∈ scope.names, y.2 ≠ .cell
  names : ∀ x ∈ scope.names, x.2 = .local → scope.names.lookup x.1 = some .local
  free : ∀ y ∈ scope.names, y.2 = .free → X.env.scope.names.lookup y.1 = some .cell
  fvs : ∀ (i j : Nat) (x : Str), N[i]? = some x → fv[i]? = some (some j) → X.N[j]? = some x ∧ X.env.scope.names.lookup x = some .cell ∧ (x, NameKind.free) ∈ scope.names
  len : fv.length = N.length
  fvl : ∀ {x : Str}, (x, NameKind.free) ∈ scope.names → scope.names.lookup x ≠ some .local
noncomputable def pick {α : Type} (fv : List (Option Nat)) (σ : List (Option α)) : List (Option α) := fv.map fun o => o.bind fun j => (σ[j]?).join
theorem pick_get {α : Type} {fv : List (Option Nat)} {σ : List (Option α)} {i : Nat} {v : α} (h : (pick fv σ)[i]? = some (some v)) : ∃ j, fv[i]? = some (some j) ∧ σ[j]? = some (some v) := by
  unfold pick at h
  rw [List.getElem?_map] at h
  cases e : fv[i]? with
  | none => rw [e] at h; cases h
  | some o =>
    rw [e] at h
    cases o with
    | none => cases h
    | some j =>
      have h' : (σ[j]?).join = some v := Option.some.inj h
      refine ⟨j, rfl, ?_⟩
      cases e2 : σ[j]? with
      | none => rw [e2] at h'; cases h'
      | some o => rw [e2] at h'; exact congrArg some h'
theorem pick_rel {K : PySem.W.Frag} {H : Hp} {τ : WSt} {σ : St} {fv : List (Option Nat)} (h : RelSt K H τ σ) : RelSt K H (pick fv τ) (pick fv σ) := by
  refine ⟨by simp [pick], fun i w e => ?_⟩
  obtain ⟨j, ej, ew⟩ := pick_get e
  obtain ⟨v, ev, r⟩ := h.2 j w ew
  refine ⟨v, ?_, r⟩
  unfold pick
  rw [List.getElem?_map, ej]
  show some ((σ[j]?).join) = _
  rw [ev]
  rfl
section
variable {X : Cx} {pins : List (Addr × Obj)} {σ : St} {H H2 : Hp} {s s2 : Shared} {scope : Scope} {N : List Str} {fv : List (Option Nat)} {fp : List Addr} {C D : Addr}
theorem CompSc.cells (S : CompSc X scope N fv) (I : Inv X pins σ H s) : ∀ y ∈ scope.names, y.2 = .free → ∃ c, X.env.cells.lookup y.1 = some c := fun y hy hk => I.ok.has y.1 (.inl (S.free y hy hk))
theorem block_inv {h4 : Heap} {t4 : Nat} {m : Str → Option Value} (I : Inv X pins σ H2 s2) (S : CompSc X scope N fv) (hf : ∀ b ∈ fp, FpOk X pins H2 b) (hfo : ∀ b ∈ fp, b < s2.heap.objs.size) (keep : ∀ b o, s2.heap.get? b = some o → h4.get? b = some o)
    (hC : s2.heap.objs.size ≤ C) (ns : h4.Ns C m) : Inv (bCx X N scope C fp s2 H2) [] (pick fv σ) H2 { s2 with heap := h4, toks := t4 } := by
  have look : ∀ x c, (clOf X.env scope.names []).lookup x = some c → X.env.cells.lookup x = some c := clOf_lookup (S.cells I) (fun x c e => by simp at e)
  refine ⟨⟨I.ok.mod, S.kind, I.ok.glob, I.ok.blt, hC, fun x y c e1 e2 => I.ok.inj x y c (look x c e1) (look y c e2), fun x hx => ?_, fun x c h => absurd (show false = true from h) Bool.false_ne_true, I.ok.hd, I.ok.frames, .inl rfl, fun b hb => ?_, I.bs, Nat.le_trans I.ok.bsz I.sz, fun b o e hb => ?_, fun b hb hx => ?_, I.stack, I.stkFree⟩,
    rfl, I.bare, Un.kept keep, ⟨m, ns, fun i x v e1 e2 e3 => ?_⟩, fun x c e => ?_, I.hok.fresh hC, fun x c e => I.freeC x c (look x c e), fun p hp => absurd (show p ∈ ([] : List (Addr × Obj)) from hp) (by simp), I.hok.kept keep, ?_⟩
  · rcases hx with hx | hx
    · exact clOf_has (.inl (relabel_lookup hx (.inl rfl) S.nocell))
    · exact clOf_has (.inl (relabel_lookup hx (.inr rfl) S.nocell))
  · exact ⟨Nat.ne_of_lt (Nat.lt_of_lt_of_le (hfo b hb) hC), fun x c e => (hf b hb).2.2.2.2.1 x c (look x c e)⟩
  · rcases (hf b hb).2.2.2.1 with z | z
    · exact I.ok.noex b o e z
    · exact absurd (Nat.lt_of_lt_of_le (Heap.lt_size e) (Nat.le_trans I.ok.bsz z)) (Nat.lt_irrefl _)
  · rcases List.mem_cons.mp (I.stkSub b hx) with z | z
    · exact (hf b hb).2.1 z
    · exact (hf b hb).2.2.1 z
  · obtain ⟨j, ej, ev⟩ := pick_get e2
    obtain ⟨h1, h2, h3⟩ := S.fvs i j x e1 ej
    obtain ⟨m0, _, hl⟩ := I.loc
    obtain ⟨u, r, l⟩ := hl j x v h1 ev (.inr (.inl h2))
    refine ⟨u, r, .inr ?_⟩
    rcases l with ⟨k, _⟩ | ⟨_, c, ec, o, ho, hd⟩
    · exact absurd (h2.symm.trans k) (by intro z; cases z)
    · obtain ⟨c', ec'⟩ := clOf_has (env := X.env) (l := scope.names) (cs := []) (x := x) (.inl h3)
      have e' := look x c' ec'
      rw [ec] at e'
      cases e'
      refine ⟨?_, c, ec', o, keep _ _ ho, hd⟩
      rcases e3 with e3 | e3 | e3
      · exact absurd (relabel_local e3) fun z => S.fvl h3 z
      · exact .inl e3
      · exact .inr e3
  · obtain ⟨v, o, ho, hd⟩ := I.cell x c (look x c e)
    exact ⟨v, o, keep _ _ ho, hd⟩
  · show (pick fv σ).length = N.length
    unfold pick
    rw [List.length_map, S.len]
end
end L2
namespace L2
open PySem PySem.Spec PyProof.Rows
noncomputable def compW (C : Gp → Prop) (g : WG) (tt : WT) (te : WE) : List W → WSt → Gp → List W → (List W → Gp → Prop) → Prop
  | [], _, G, acc, q => C G ∧ q acc G
  | w :: ws, τ, G, acc, q => C G ∧ g w τ G fun τ2 G2 => tt τ2 G2 fun b G3 => if b = true then te τ2 G3 fun v G4 => acc.length + 1 ≤ 100000 ∧ compW C g tt te ws τ2 G4 (acc ++ [v]) q else compW C g tt te ws τ2 G3 acc q
noncomputable def QTs (X : Cx) (ifs : List Expr) (t : WT) : Prop :=
  ∀ (pins : List (Addr × Obj)) (s : Shared) (σ : St) (H : Hp) (Q : Bool → Hp → Prop), Inv X pins σ H s → LTx X.K t σ H Q → wpAny (model X.prog X.w) X.A (tests ifs X.env) (TP X pins σ Q) X.xe s
noncomputable def wTrue : WT := fun _ G q => q true G
theorem qts_nil {X : Cx} : QTs X [] wTrue := fun pins s σ H Q I ⟨τ, G, q, hs, hg, ht, hQ⟩ => wpAny_tests_nil ⟨H, I, hQ true H G (TLe.refl H) hg ht⟩
theorem qts_one {X : Cx} {c : Expr} {t : WT} (h : QT X c t) : QTs X [c] t := fun pins s σ H Q I hw => wpAny_tests_one (h pins s σ H Q I hw)
theorem RelG.track {K : PySem.W.Frag} {H : Hp} {G : Gp} {p : Addr} {xs : List V} {ws : List W} (h : RelG K H G) (e : H p = some (.lst xs)) (r : Reps K H ws xs) (hl : ws.length ≤ 100000) : RelG K H (updG G p (.lst ws)) := fun a g ea => by
  by_cases hb : a = p
  · subst hb
    rw [updG_same] at ea; cases ea
    exact ⟨hl, xs, e, r⟩
  · rw [updG_ne hb] at ea
    exact h a g ea
section
variable {X : Cx} {pins : List (Addr × Obj)} {σ : St} {H2 : Hp} {s2 : Shared} {scope : Scope} {N : List Str} {fv : List (Option Nat)} {fp : List Addr} {tg elt iter : Expr} {ifs : List Expr} {pos : Pos} {J : It} {it : Addr} {tn : Nat → Heap → Prop}
  {g : WG} {tt : WT} {te : WE} {ws : List W} {Cd : Gp → Prop} {τ : WSt} {G : Gp} {q : List W → Gp → Prop}
structure CompEnd (X : Cx) (pins : List (Addr × Obj)) (σ : St) (H2 : Hp) (s2 : Shared) (G : Gp) (q : List W → Gp → Prop) (D C : Addr) (s' : Shared) : Prop where
  ex : ∃ (Hf : Hp) (Gf : Gp) (rs : List W), (∃ m, s'.heap.Ns C m) ∧ Inv X pins σ Hf s' ∧ Hf C = none ∧ s2.heap.objs.size ≤ C ∧ TLe H2 Hf ∧ RelG X.K Hf (updG Gf D (.lst rs)) ∧ G D = none ∧ Gf D = none ∧ q rs Gf
structure CompI (Y : Cx) (fp : List Addr) (tn : Nat → Heap → Prop) (ws : List W) (H2 : Hp) (D : Addr) (R : List W → WSt → Gp → List W → Prop) (n : Nat) (s : Shared) (i : Nat) (σ1 : St) (H1 : Hp) (τ1 : WSt) (G1 : Gp) (acc : List W) (vs : List V) (its : List Value) : Prop where
  hn : n = ws.length - i
  hi : i ≤ ws.length
  inv : Inv Y [] σ1 H1 s
  st : tn i s.heap
  fr : ∀ b ∈ fp, H1 b = none
  hd : H1 D = none
  pl : s.heap.PlainList D its.toArray
  rv : Vals vs its
  ra : Reps Y.K H1 acc vs
  tl : TLe H2 H1
  rs : RelSt Y.K H1 τ1 σ1
  rg : RelG Y.K H1 G1
  cw : R (ws.drop i) τ1 G1 acc
  hl : acc.length ≤ 100000
theorem comp_block (I : Inv X pins σ H2 s2) (S : CompSc X scope N fv) (hc : X.calm = true) (T : Turn X.prog X.w X.K tg J fp it tn) (st : tn 0 s2.heap) (hf : ∀ b ∈ fp, FpOk X pins H2 b)
    (hg : ∀ C, QG (bCx X N scope C fp s2 H2) tg g) (htt : ∀ C, QTs (bCx X N scope C fp s2 H2) ifs tt) (hte : ∀ C, QE (bCx X N scope C fp s2 H2) elt te)
    (itn : Itn X.K J ws Cd H2) (hs : RelSt X.K H2 τ σ) (gr : RelG X.K H2 G) (hw : compW Cd g tt te ws (pick fv τ) G [] q) {RR : Value → Addr → Result → Shared → Prop} {E : Value → Shared → Prop}
    (hRR : ∀ D C s', CompEnd X pins σ H2 s2 G q D C s' → RR (.ref D) C (.ok .next) s') :
    wpAny (model X.prog X.w) X.A (newList []) (fun acc s3 => wpAny (model X.prog X.w) X.A (newFunctionEnv scope X.env.globals (clOf X.env scope.names []) [] X.env.qual none .none (some X.env)) (fun cenv s4 =>
      codeAny (model X.prog X.w) X.A (.compStart (.ListComp elt [⟨tg, iter, ifs, 0⟩] scope pos) 0 (.ref it) acc { cenv with scope := relabel scope X.env }) (RR acc cenv.locals) s4) E s3) E s2 := by
  have hfo : ∀ b ∈ fp, b < s2.heap.objs.size := fun b hb => let ⟨o, e, _⟩ := T.obj _ _ st b hb; Heap.lt_size e
  refine wpAny_newObj_type (wpAny_newFunctionEnv S.nocell (by intro y hy; simp at hy) (fun h1 hns1 hsb1 => ?_) S.kind)
  dsimp only at hns1 hsb1 ⊢
  generalize hP : s2.heap.push { cls := .type "list", dict := none, data := .seq ([] : List Value).toArray } = P at hns1 hsb1 ⊢
  generalize hD : s2.heap.objs.size = D at *
  have hC : P.objs.size = D + 1 := by rw [← hP, Heap.size_push, hD]
  generalize hCC : P.objs.size = C at *
  have hDC : D ≠ C := by rw [hC]; exact Nat.ne_of_lt (Nat.lt_succ_self _)
  have hDleC : D ≤ C := by rw [hC]; exact Nat.le_succ _
  have old : ∀ b o, s2.heap.get? b = some o → h1.get? b = some o := fun b o e => hsb1.extBut b o (Nat.ne_of_lt (Nat.lt_of_lt_of_le (Heap.lt_size e) (by rw [hD]; exact hDleC))) (Heap.get?_push_of_some _ (hP ▸ Heap.get?_push_of_some _ e))
  have hacc : h1.PlainList D #[] := ⟨0, hsb1.extBut _ _ hDC (Heap.get?_push_of_some _ (by rw [← hP, ← hD]; exact Heap.get?_push_size _ rfl))⟩
  have look : ∀ x c, (clOf X.env scope.names []).lookup x = some c → X.env.cells.lookup x = some c := clOf_lookup (S.cells I) (fun x c e => by simp at e)
  have cD : ∀ x c, (clOf X.env scope.names []).lookup x = some c → c ≠ D := fun x c e z => by
    obtain ⟨v, o, ho, _⟩ := I.cell x c (look x c e)
    exact absurd (Heap.lt_size ho) (by rw [z, hD]; exact Nat.lt_irrefl _)
  have sD : D ∉ frs X.stack := fun hb => by
    rcases List.mem_cons.mp (I.stkSub D hb) with z | z
    · exact absurd I.lt (by rw [← z, hD]; exact Nat.lt_irrefl _)
    · exact I.nofs (by rw [hD]; exact Nat.le_refl _) z
  have fD : D ∉ fp := fun hb => absurd (hfo D hb) (Nat.lt_irrefl _)
  have fpX : ∀ {H1 : Hp} {ps : List (Addr × Obj)}, (∀ b ∈ fp, H1 b = none) → (∀ p ∈ ps, p.1 ∉ fp) → ∀ b ∈ fp, FpOk (bCx X N scope C fp s2 H2) ps H1 b := fun {H1 ps} hn hp b hb => by
    refine ⟨hn b hb, Nat.ne_of_lt (Nat.lt_of_lt_of_le (hfo b hb) hDleC), fun hx => ?_, .inl hb, fun x c e => (hf b hb).2.2.2.2.1 x c (look x c e), fun p hp' z => hp p hp' (z ▸ hb)⟩
    rcases List.mem_cons.mp (I.stkSub b hx) with z | z
    · exact (hf b hb).2.1 z
    · exact (hf b hb).2.2.1 z
  have J0 : Inv (bCx X N scope C fp s2 H2) [] (pick fv σ) H2 { s2 with heap := h1, toks := s2.toks + ([] : List (Str × Value)).length } := block_inv I S hf (by rw [hD]; exact hfo) old (by rw [hD]; exact hDleC) hns1
  have loop : codeAny (model X.prog X.w) X.A (.compLoop (.ListComp elt [⟨tg, iter, ifs, 0⟩] scope pos) 0 (.ref it) (.ref D) (bCx X N scope C fp s2 H2).env) (RR (.ref D) C) { s2 with heap := h1, toks := s2.toks + ([] : List (Str × Value)).length } := by
    refine comp_loop (fun n s => ∃ i σ1 H1 τ1 G1 acc vs its, CompI (bCx X N scope C fp s2 H2) fp tn ws H2 D (fun l τ1 G1 acc => compW Cd g tt te l τ1 G1 acc q) n s i σ1 H1 τ1 G1 acc vs its) ?_ ws.length
      ⟨0, _, H2, _, G, [], [], [], by simp, Nat.zero_le _, J0, T.keep _ _ _ st fun b _ o e => old b o e, fun b hb => (hf b hb).1, I.hok.fresh (by rw [hD]; exact Nat.le_refl _), hacc, .nil, .nil, TLe.refl _, pick_rel hs, gr, by simpa using hw, by simp⟩
    rintro n s ⟨i, σ1, H1, τ1, G1, acc, vs, its, rfl, hi, J1, st1, fr1, d1, pl1, rv1, ra1, t1, s1, g1, q1, hl1⟩
    obtain ⟨kk, eD⟩ := pl1
    have J1p : Inv (bCx X N scope C fp s2 H2) [(D, { cls := .type "list", data := .seq its.toArray kk })] σ1 H1 s := J1.pins_of fun p hp => by
      have e := List.mem_singleton.mp hp
      subst e
      exact ⟨eD, d1, hDC, sD, fun v z => by cases z⟩
    have pnf : ∀ p ∈ [((D, { cls := .type "list", data := .seq its.toArray kk }) : Addr × Obj)], p.1 ∉ fp := fun p hp => by
      have e := List.mem_singleton.mp hp
      subst e
      exact fD
    by_cases hlt : i < ws.length
    · have ed : ws.drop i = ws[i] :: ws.drop (i + 1) := List.drop_eq_getElem_cons hlt
      rw [ed] at q1
      obtain ⟨c1, q1⟩ := q1
      obtain ⟨go, yl⟩ := itn.go i ws[i] H1 G1 t1 g1 c1 (List.getElem?_eq_getElem hlt)
      refine thn (T.item (bCx X N scope C fp s2 H2) rfl rfl rfl hc i _ s σ1 H1 nox J1p (fpX fr1 pnf) st1 go) fun r s4 ⟨u, hr, h4⟩ => ?_
      subst hr
      refine thn h4 fun _ s5 ⟨x, H5, I5, r5, y5, st5, fr5⟩ => ?_
      obtain ⟨tx, rx, gx⟩ := yl x H5 y5
      have I5' := I5.pinned (fpX fr5 pnf) (T.obj _ _ st5)
      refine thn (hg C _ s5 σ1 H5 x u (fun σ6 H6 => ∃ τ6 G6, TLe H5 H6 ∧ RelSt X.K H6 τ6 σ6 ∧ RelG X.K H6 G6 ∧ tt τ6 G6 fun b G3 => if b = true then te τ6 G3 fun v G4 => acc.length + 1 ≤ 100000 ∧ compW Cd g tt te (ws.drop (i + 1)) τ6 G4 (acc ++ [v]) q else compW Cd g tt te (ws.drop (i + 1)) τ6 G3 acc q) I5' r5
        ⟨ws[i], τ1, G1, _, rx, s1.mono tx, gx, q1, fun σ6 H6 τ6 G6 t6 s6 g6 q6 => ⟨τ6, G6, t6, s6, g6, q6⟩⟩) fun _ s6 ⟨σ6, H6, I6, τ6, G6, t6, rs6, g6, q6⟩ => ?_
      refine thn (htt C _ s6 σ6 H6 (fun b H7 => ∃ G7, TLe H6 H7 ∧ RelG X.K H7 G7 ∧ (if b = true then te τ6 G7 fun v G4 => acc.length + 1 ≤ 100000 ∧ compW Cd g tt te (ws.drop (i + 1)) τ6 G4 (acc ++ [v]) q else compW Cd g tt te (ws.drop (i + 1)) τ6 G7 acc q)) I6
        ⟨τ6, G6, _, rs6, g6, q6, fun b H7 G7 t7 g7 q7 => ⟨G7, t7, g7, q7⟩⟩) fun ok s7 ⟨H7, I7, G7, t7, g7, q7⟩ => ?_
      have t17 : TLe H1 H7 := (tx.trans t6).trans t7
      -- what the pins keep up to a later state
      have keepFp : ∀ {σ8 : St} {H8 : Hp} {s8 : Shared}, Inv (bCx X N scope C fp s2 H2) ([(D, { cls := .type "list", data := .seq its.toArray kk })] ++ pinsAt fp s5.heap) σ8 H8 s8 → tn (i + 1) s8.heap ∧ (∀ b ∈ fp, H8 b = none) ∧ H8 D = none ∧ s8.heap.get? D = some { cls := .type "list", data := .seq its.toArray kk } ∧ ∀ b ∈ fp, ∃ o, s8.heap.get? b = some o := fun {σ8 H8 s8} I8 => by
        refine ⟨T.keep _ _ _ st5 fun b hb o e => (I8.pin (b, o) (List.mem_append_right _ (List.mem_append_right _ (mem_pinsAt hb e)))).1, fun b hb => ?_, (I8.pin (D, _) (List.mem_append_right _ (List.mem_append_left _ List.mem_cons_self))).2.1, (I8.pin (D, _) (List.mem_append_right _ (List.mem_append_left _ List.mem_cons_self))).1, fun b hb => ?_⟩
        · obtain ⟨o, e, _⟩ := T.obj _ _ st5 b hb
          exact (I8.pin (b, o) (List.mem_append_right _ (List.mem_append_right _ (mem_pinsAt hb e)))).2.1
        · obtain ⟨o, e, _⟩ := T.obj _ _ st5 b hb
          exact ⟨o, (I8.pin (b, o) (List.mem_append_right _ (List.mem_append_right _ (mem_pinsAt hb e)))).1⟩
      cases ok with
      | false =>
        rw [if_neg Bool.false_ne_true] at q7 ⊢
        obtain ⟨k1, k2, k3, k4, _⟩ := keepFp I7
        exact ⟨ws.length - (i + 1), by (clear I S hc T st hf hg htt hte itn hs gr hw hRR hP hD hfo hCC hns1 hsb1 hC hDC hDleC old hacc look cD sD fD fpX J0 hi J1 st1 fr1 d1 rv1 ra1 t1 s1 g1 hl1 eD J1p pnf ed c1 q1 go yl h4 I5 r5 y5 st5 fr5 tx rx gx I5' I6 t6 rs6 g6 q6 I7 t7 g7 t17 keepFp q7 k1 k2 k3 k4; omega), i + 1, σ6, H7, τ6, G7, acc, vs, its, rfl, hlt, I7.pins_of fun p hp => absurd hp (by simp), k1, k2, k3, ⟨kk, k4⟩, rv1, ra1.mono t17, t1.trans t17, rs6.mono t7, g7, q7, hl1⟩
      | true =>
        rw [if_pos rfl] at q7 ⊢
        refine thn (hte C _ s7 σ6 H7 (fun v H8 => ∃ w8 G8, TLe H7 H8 ∧ Rep X.K H8 w8 v ∧ RelG X.K H8 G8 ∧ acc.length + 1 ≤ 100000 ∧ compW Cd g tt te (ws.drop (i + 1)) τ6 G8 (acc ++ [w8]) q) I7
          ⟨τ6, G7, _, rs6.mono t7, g7, q7, fun v H8 w8 G8 t8 r8 g8 q8 => ⟨w8, G8, t8, r8, g8, q8⟩⟩) fun u8 s8 ⟨v8, H8, I8, rv8, w8, G8, t8, r8, g8, hl8, q8⟩ => ?_
        obtain ⟨k1, k2, k3, k4, k5⟩ := keepFp I8
        have t18 : TLe H1 H8 := t17.trans t8
        refine wpAny_list_append_plain ⟨kk, k4⟩ (fun h9 pl9 sb9 => ?_) (by rw [List.size_toArray, ← rv1.length, ← ra1.length]; exact line_le hl1)
        have I9 : Inv (bCx X N scope C fp s2 H2) [] σ6 H8 { s8 with heap := h9 } := (I8.pins_of (pins' := []) fun p hp => absurd hp (by simp)).turned (t' := s8.toks) (fun b o hb e => (sb9.2 b hb).trans e) k3 hDC (.inr (by show s2.heap.objs.size ≤ D; rw [hD]; exact Nat.le_refl _)) (fun x c e => cD x c e) fun p hp => absurd (show p ∈ ([] : List (Addr × Obj)) from hp) (by simp)
        refine ⟨ws.length - (i + 1), by (clear I S hc T st hf hg htt hte itn hs gr hw hRR hP hD hfo hCC hns1 hsb1 hC hDC hDleC old hacc look cD sD fD fpX J0 hi J1 st1 fr1 d1 rv1 ra1 t1 s1 g1 hl1 eD J1p pnf ed c1 q1 go yl h4 I5 r5 y5 st5 fr5 tx rx gx I5' I6 t6 rs6 g6 q6 I7 t7 g7 t17 keepFp q7 I8 rv8 t8 r8 g8 hl8 q8 k1 k2 k3 k4 k5 t18 pl9 sb9 I9; omega), i + 1, σ6, H8, τ6, G8, acc ++ [w8], vs ++ [v8], its ++ [u8], rfl, hlt, I9, T.keep _ _ _ k1 fun b hb o e => (sb9.2 b (fun z => fD (z ▸ hb))).trans e, k2, k3, by simpa using pl9, rv1.append (.cons rv8 .nil), (ra1.mono t18).append (.cons r8 .nil), t1.trans t18, (rs6.mono t7).mono t8, g8, q8, by rw [List.length_append]; exact hl8⟩
    · have e : i = ws.length := by (clear I S hc T st hf hg htt hte itn hs gr hw hRR hP hD hfo hCC hns1 hsb1 hC hDC hDleC old hacc look cD sD fD fpX J0 J1 st1 fr1 d1 rv1 ra1 t1 s1 g1 q1 hl1 eD J1p pnf; omega)
      subst e
      rw [List.drop_length] at q1
      refine thn (T.done (bCx X N scope C fp s2 H2) rfl rfl rfl hc _ _ s σ1 H1 nox J1p (fpX fr1 pnf) st1 (itn.stop _ H1 G1 t1 g1 q1.1 (Nat.le_refl _))) fun r s4 ⟨hr, I4⟩ => ?_
      subst hr
      have eD4 := (I4.pin (D, _) (List.mem_append_right _ List.mem_cons_self)).1
      have zl : vs.length ≤ sizeLine := by rw [← ra1.length]; exact line_le hl1
      have hb2 : ∀ b o, s2.heap.get? b = some o → b ≠ D := fun b o e => by
        have := Heap.lt_size e
        rw [hD] at this
        exact Nat.ne_of_lt this
      refine hRR D C s4 ⟨upd H1 D (.lst vs), G1, acc, let ⟨m, hn, _⟩ := I4.loc; ⟨m, hn⟩, ?_, ?_, by rw [hD]; exact hDleC, t1.trans (TLe.new d1 _), ?_, gr.fresh (I.hok.fresh (by rw [hD]; exact Nat.le_refl _)), g1.fresh d1, q1.2⟩
      · refine I.call' (ch := fp) I4.os ⟨fun b o e n hb hx => I4.base.keep b o e n hb hx, fun b o e n hb hx => I4.base.slot b o e n hb hx, fun b o e n hx => ?_, fun b o e hx => I4.base.there b o e hx, fun b xs e => ?_, fun b o u e => ?_, fun b ps e => ?_⟩ ?_ I4.bare fun b hb => ⟨(hf b hb).2.2.2.1, (hf b hb).2.1, fun x c e => (hf b hb).2.2.2.2.1 x c e, fun p hp => (hf b hb).2.2.2.2.2 p hp⟩
        · rw [upd_ne (hb2 b o e)]; exact I4.base.free b o e n hx
        · rw [upd_ne (ne_of_none (I4.base.tups b xs e) d1)]; exact I4.base.tups b xs e
        · rw [upd_ne (ne_of_none (I4.base.frzs b o u e) d1)]; exact I4.base.frzs b o u e
        · obtain ⟨more, e'⟩ := I4.base.tbls b ps e
          exact ⟨more, by rw [upd_ne (ne_of_none e' d1)]; exact e'⟩
        · intro b u e
          by_cases hbD : b = D
          · subst hbD
            rw [upd_same] at e; cases e
            exact ⟨zl, its, kk, rv1, eD4⟩
          · rw [upd_ne hbD] at e
            exact (I4.hok b u e).stay (fun c v _ q => q) (fun c q => by rw [upd_ne (ne_of_none q d1)]; exact q) fun c xs q => by rw [upd_ne (ne_of_none q d1)]; exact q
      · rw [upd_ne (Ne.symm hDC)]; exact I4.free
      · exact (g1.upd (TLe.new d1 _) (g1.fresh d1)).track upd_same (ra1.mono (TLe.new d1 _)) hl1
  exact codeAny_compStart_list loop (T.self _ 0 _ _ _ (T.keep _ _ _ st fun b _ o e => old b o e) loop)
noncomputable def wComp (wi : WI) (fv : List (Option Nat)) (g : WG) (tt : WT) (te : WE) : WE := fun τ G q => wi τ G fun ws Cd G1 => compW Cd g tt te ws (pick fv τ) G1 [] fun rs G2 => ∀ p, G1 p = none → q (.ref p) (updG G2 p (.lst rs))
theorem qe_comp {wi : WI} (S : CompSc X scope N fv) (hc : X.calm = true) (hi : QI X tg iter wi) (hg : ∀ C fp s2 H2, QG (bCx X N scope C fp s2 H2) tg g) (htt : ∀ C fp s2 H2, QTs (bCx X N scope C fp s2 H2) ifs tt) (hte : ∀ C fp s2 H2, QE (bCx X N scope C fp s2 H2) elt te)
    (hs : ∀ x, foldedSetIterable iter X.env x = pure x := by intro _; rfl) : QE X (.ListComp elt [⟨tg, iter, ifs, 0⟩] scope pos) (wComp wi fv g tt te) := by
  intro pins s σ H Q I ⟨τ, G, q, hτ, hG, ht, hQ⟩
  rw [eval_ListComp]
  refine wpAny_comprehension_free (use := none) rfl hs (closure_of (S.cells I)) S.kind S.names (thn (hi pins s σ H (fun J H1 => ∃ ws Cd G1, TLe H H1 ∧ RelG X.K H1 G1 ∧ Itn X.K J ws Cd H1 ∧ compW Cd g tt te ws (pick fv τ) G1 [] fun rs G2 => ∀ p, G1 p = none → q (.ref p) (updG G2 p (.lst rs))) I
    ⟨τ, G, _, hτ, hG, ht, fun J H1 ws C G1 t1 g1 it r1 => ⟨ws, C, G1, t1, g1, it, r1⟩⟩) fun v s1 h1 => thn h1 fun itv s2 h2 => ?_)
  obtain ⟨it, fp, tn, J, H2, e, I2, T, st2, f2, ws, Cd, G1, t1, g1, itn, hw⟩ := h2
  subst e
  refine comp_block (RR := fun acc C => compPost (model X.prog X.w) X.A X.xe none (EP X pins σ Q) acc C) I2 S hc T st2 f2 (fun C => hg C fp s2 H2) (fun C => htt C fp s2 H2) (fun C => hte C fp s2 H2) itn (hτ.mono t1) g1 hw fun D C s' ⟨Hf, Gf, rs, ⟨m, hn⟩, I5, hC, hCs, t5, g5, hD, hD2, q5⟩ => ?_
  refine ⟨m, hn, fun h' sb => ?_⟩
  have hlt : C ≠ X.env.locals := fun z => absurd I2.lt (Nat.not_lt.mpr (z ▸ hCs))
  have I6 : Inv X pins σ Hf { s' with heap := h' } := I5.turned (t' := s'.toks) (fun b o hb e => (sb.2 b hb).trans e) hC hlt (.inr (Nat.le_trans I2.sz hCs)) (fun x c e z => by
    obtain ⟨v, o, ho, _⟩ := I2.cell x c e
    exact absurd (Heap.lt_size ho) (Nat.not_lt.mpr (z ▸ hCs))) fun p hp z => absurd (Heap.lt_size (I2.pin p hp).1) (Nat.not_lt.mpr (z ▸ hCs))
  exact ⟨.ref D, Hf, I6, rfl, hQ _ Hf _ _ (t1.trans t5) (.ref D) g5 (q5 D hD)⟩
theorem qs_comp (i : Nat) {y : Str} {py spos : Pos} {wi : WI} (S : CompSc X scope N fv) (hc : X.calm = true) (hN : X.N.Nodup) (hiN : X.N[i]? = some y) (hy : Loc X.env.scope y) (hi : QI X tg iter wi) (hg : ∀ C fp s2 H2, QG (bCx X N scope C fp s2 H2) tg g) (htt : ∀ C fp s2 H2, QTs (bCx X N scope C fp s2 H2) ifs tt) (hte : ∀ C fp s2 H2, QE (bCx X N scope C fp s2 H2) elt te)
    (hsw : swapsWith (.ListComp elt [⟨tg, iter, ifs, 0⟩] scope pos) (some (.Name y py)) spos.line X.env = pure true := by rfl) (hs : ∀ x, foldedSetIterable iter X.env x = pure x := by intro _; rfl) (hfn : X.fn y = true ∨ X.env.scope.names.lookup y = some .local := by first | exact .inl rfl | exact .inr rfl | assumption) :
    QS X (.Assign [.Name y py] (.ListComp elt [⟨tg, iter, ifs, 0⟩] scope pos) spos) (wAsg (wComp wi fv g tt te) (hName i)) := by
  intro pins s σ H D0 I ⟨τ, G, d, hτ, hG, ht, l⟩
  rw [exec_Assign_Name_used _ _ _ _ hsw]
  refine wpAny_bind (wpAny_standAt (wpAny_bind ?_))
  show wpAny _ _ (do let _ ← comprehension (.ListComp elt [⟨tg, iter, ifs, 0⟩] scope pos) scope X.env _ (newList []) false (eval iter X.env) (some (assign (.Name y py) X.env))) _ _ s
  refine wpAny_bind (wpAny_mono (wpAny_comprehension_free (use := some (assign (.Name y py) X.env)) (Q := fun _ s' => SP X pins D0 .next s') rfl hs (closure_of (S.cells I)) S.kind S.names (thn (hi pins s σ H (fun J H1 => ∃ ws Cd G1, TLe H H1 ∧ RelG X.K H1 G1 ∧ Itn X.K J ws Cd H1 ∧ compW Cd g tt te ws (pick fv τ) G1 [] fun rs G2 => ∀ p, G1 p = none → hName i (.ref p) τ (updG G2 p (.lst rs)) d.nx) I
    ⟨τ, G, _, hτ, hG, ht, fun J H1 ws C G1 t1 g1 it r1 => ⟨ws, C, G1, t1, g1, it, r1⟩⟩) fun v s1 h1 => thn h1 fun itv s2 h2 => ?_)) (fun _ s' hq => wpAny_pure (wpAny_pure hq)) fun _ _ e => e)
  obtain ⟨it, fp, tn, J, H2, e, I2, T, st2, f2, ws, Cd, G1, t1, g1, itn, hw⟩ := h2
  subst e
  refine comp_block (RR := fun acc C => compPost (model X.prog X.w) X.A X.xe (some (assign (.Name y py) X.env)) (fun _ s' => SP X pins D0 .next s') acc C) I2 S hc T st2 f2 (fun C => hg C fp s2 H2) (fun C => htt C fp s2 H2) (fun C => hte C fp s2 H2) itn (hτ.mono t1) g1 hw fun D C s' ⟨Hf, Gf, rs, ⟨m, hn⟩, I5, hC, hCs, t5, g5, hD, hD2, q5⟩ => ?_
  have hlt : C ≠ X.env.locals := fun z => absurd I2.lt (Nat.not_lt.mpr (z ▸ hCs))
  have hcell : ∀ x c, X.env.cells.lookup x = some c → c ≠ C := fun x c e z => by
    obtain ⟨v, o, ho, _⟩ := I2.cell x c e
    exact absurd (Heap.lt_size ho) (Nat.not_lt.mpr (z ▸ hCs))
  show wpAny _ _ (assign (.Name y py) X.env (.ref D)) _ _ s'
  refine wpAny_assign_Name (store_ok2 I5 hN hiN hy (v := .ref D) rfl (fun s6 I6 ⟨a, sb6, ha⟩ => ?_) hfn)
  have haC : C ≠ a := by
    rcases ha with z | z
    · rw [z]; exact hlt
    · exact Ne.symm (hcell y a z)
  refine ⟨m, hn.sameBut sb6 haC, fun h' sb => ?_⟩
  have I7 : Inv X pins (σ.set i (some (.ref D))) Hf { s6 with heap := h' } := I6.turned (t' := s6.toks) (fun b o hb e => (sb.2 b hb).trans e) hC hlt (.inr (Nat.le_trans I2.sz hCs)) hcell fun p hp z => absurd (Heap.lt_size (I2.pin p hp).1) (Nat.not_lt.mpr (z ▸ hCs))
  exact ⟨_, Hf, I7, l.nx _ Hf _ _ (t1.trans t5) ((hτ.mono (t1.trans t5)).set (.ref D) i) g5 (q5 D hD)⟩
end
end L2
namespace L2
open PySem PySem.Spec PyProof.Rows
section
variable {P : Program} {w : World} {K : PySem.W.Frag}
end
noncomputable def zipW : List W → List W → List W
  | x :: xs, y :: ys => .tup [x, y] :: zipW xs ys
  | _, _ => []
section
variable {X : Cx}
noncomputable def jZip (ta : WA) : WI := fun τ G r => ta τ G fun ws G1 => match ws with
  | [.tup xs, .tup ys] => r (zipW xs ys) (fun _ => True) G1
  | _ => False
noncomputable def wNeg (te : WE) : WE := fun τ G q => te τ G fun x G1 => match x with | .int i => q (.int (-i)) G1 | _ => False
theorem qe_neg {a : Expr} {ta : WE} {pos : Pos} (ha : QE X a ta) : QE X (.UnaryOp .USub a pos) (wNeg ta) :=
  (pe_un un_neg ha).imp fun σ H Q z0 => z0.el fun τ G q hs hg ht hQ => ⟨τ, G, _, hs, hg, ht, fun v H1 w G1 t1 r1 g1 q1 => by
    split at q1
    · cases r1
      exact ⟨_, rfl, hQ _ H1 _ G1 t1 (.int _) g1 q1⟩
    · exact q1.elim⟩
noncomputable def Fx (P : Program) (w : World) (K : PySem.W.Frag) (mg : Str → Option Value) (base : Heap) (x : Str) (ps : List Str) (k : Nat) (sp : WSp) : Prop :=
  ∃ (f : Addr) (fd : FuncData), WFn P w K mg base k f fd ps sp ∧ mg x = some (.ref f) ∧ PySem.W.keepIn K (.ref f) = true ∧ Binds K fd ps []
theorem qe_fx {x : Str} {ps : List Str} {k : Nat} {sp : WSp} {p pos : Pos} {e : Expr} {es : List Expr} {t : WA} (F : Fx X.prog X.w X.K X.mg X.base x ps k sp) (hr : Room k X.A) (hg : Gl X x) (ha : QA X (e :: es) t) (hdb : (x == ("__debug__" : Str)) = false := by decide)
    (he : starEach (e :: es) X.env = (false, eval e X.env) :: starEach es X.env := by rfl) (hpl : (backTo pos (starEach es X.env)).any (·.1) = false := by rfl) : QE X (.Call (.Name x p) (e :: es) [] pos) (wCall sp [] t) := by
  obtain ⟨f, fd, h1, h2, h3, h4⟩ := F
  exact qe_call h1 hr hg h2 h3 h4 ha hdb he hpl
noncomputable def compN (scope : Scope) : List Str := scope.names.map (·.1)
noncomputable def compFv (N : List Str) (scope : Scope) : List (Option Nat) := scope.names.map fun y => if y.2 == .free then N.findIdx? (· == y.1) else none
noncomputable def compOk (outer scope : Scope) : Bool :=
  scope.kind == .function && scope.names.all (fun y => y.2 != .cell) && scope.names.all (fun y => y.2 != .local || scope.names.lookup y.1 == some .local) &&
    scope.names.all (fun y => y.2 != .free || (outer.names.lookup y.1 == some .cell && scope.names.lookup y.1 != some .local))
theorem compSc {scope : Scope} (h : compOk X.env.scope scope = true) : CompSc X scope (compN scope) (compFv X.N scope) := by
  unfold compOk at h
  simp only [Bool.and_eq_true, List.all_eq_true, Bool.or_eq_true, bne_iff_ne, beq_iff_eq, ne_eq] at h
  obtain ⟨⟨⟨h1, h2⟩, h3⟩, h4⟩ := h
  refine ⟨h1, h2, fun x hx hk => (h3 x hx).resolve_left fun z => z hk, fun y hy hk => ((h4 y hy).resolve_left fun z => z hk).1, fun i j x e1 e2 => ?_, by simp [compN, compFv], fun {x} hx => ((h4 _ hx).resolve_left fun z => z rfl).2⟩
  unfold compN at e1
  unfold compFv at e2
  rw [List.getElem?_map] at e1 e2
  cases e : scope.names[i]? with
  | none => rw [e] at e1; cases e1
  | some y =>
    rw [e] at e1 e2
    have e1' : y.1 = x := Option.some.inj e1
    have e2' : (if (y.2 == NameKind.free) = true then X.N.findIdx? (· == y.1) else none) = some j := Option.some.inj e2
    have hm : y ∈ scope.names := List.mem_of_getElem? e
    split at e2'
    · rename_i hk
      have hk' : y.2 = .free := by simpa using hk
      have hy : y = (x, NameKind.free) := by rw [← e1', ← hk']
      have := List.findIdx?_eq_some_iff_getElem.mp e2'
      obtain ⟨hj, hj2, _⟩ := this
      refine ⟨?_, ?_, hy ▸ hm⟩
      · rw [List.getElem?_eq_getElem hj]
        have : X.N[j] = y.1 := by simpa using hj2
        rw [this, e1']
      · have := ((h4 y hm).resolve_left fun z => z hk').1
        rw [e1'] at this
        exact this
    · cases e2'
theorem qg_nameB (i : Nat) {N : List Str} {scope : Scope} {C : Addr} {fp : List Addr} {s2 : Shared} {H2 : Hp} {x : Str} {pos : Pos} (hN : N.Nodup) (hi : N[i]? = some x) (hx : Loc (bCx X N scope C fp s2 H2).env.scope x) (hf : (bCx X N scope C fp s2 H2).fn x = true ∨ (bCx X N scope C fp s2 H2).env.scope.names.lookup x = some .local := by first | exact .inl rfl | exact .inr rfl) :
    QG (bCx X N scope C fp s2 H2) (.Name x pos) (hName i) := qg_name (X := bCx X N scope C fp s2 H2) i hN hi hx hf
theorem b_tuple : bootBuiltins "tuple" = some (.type "tuple") := by decide +kernel
theorem b_list : bootBuiltins "list" = some (.type "list") := by decide +kernel
theorem b_max : bootBuiltins "max" = some (.builtin "max") := by decide +kernel
theorem b_sum : bootBuiltins "sum" = some (.builtin "sum") := by decide +kernel
theorem bodyOf {body : List Stmt} {R : WS → Prop} {t : WS} (h : QSs X body t) (g : R t) : ∃ t, QSs X body t ∧ R t := ⟨t, h, g⟩
end
end L2
namespace L2
open PySem PySem.Spec PyProof.Rows
mutual
noncomputable def W.lt : W → W → Bool
  | .int i, .int j => decide (i < j)
  | .tup xs, .tup ys => W.lts xs ys
  | _, _ => false
noncomputable def W.lts : List W → List W → Bool
  | [], [] => false
  | [], _ :: _ => true
  | _ :: _, [] => false
  | x :: xs, y :: ys => if W.eq x y = true then W.lts xs ys else W.lt x y
end
mutual
noncomputable def W.ord : W → W → Bool
  | .int _, .int _ => true
  | .tup xs, .tup ys => W.ords xs ys
  | _, _ => false
noncomputable def W.ords : List W → List W → Bool
  | x :: xs, y :: ys => if W.eq x y = true then W.ords xs ys else W.ord x y
  | _, _ => true
end
noncomputable def LtAt (A : Around) (s : Shared) (y x : Value) (b : Bool) : Prop :=
  ∀ (prog : Program) (w : World) (E : Value → Shared → Prop) (Q : Value → Shared → Prop), Q (.bool b) s → wpAny (model prog w) A (richCompare .Lt y x) Q E s
inductive CmpL (A : Around) (s : Shared) : List Value → List Value → Bool → Prop where
  | nn : CmpL A s [] [] false
  | nc {y : Value} {ys : List Value} : CmpL A s [] (y :: ys) true
  | cn {x : Value} {xs : List Value} : CmpL A s (x :: xs) [] false
  | eq {x y : Value} {xs ys : List Value} {r : Bool} (h : SeqAt.EqAt A s x y true) (t : CmpL A s xs ys r) : CmpL A s (x :: xs) (y :: ys) r
  | ne {x y : Value} {xs ys : List Value} {r : Bool} (h : SeqAt.EqAt A s x y false) (t : LtAt A s x y r) : CmpL A s (x :: xs) (y :: ys) r
section
open PySem.SeqAt
open PySem.AutoSeq1 (wpAny_loadPart')
open PySem.MeetsSeq PySem.MeetsSeq2 PySem.MeetsSeq3
theorem tuple_ltAt (l b : Addr) (items items2 : Array Value) (n n2 : Nat) (dd dd2 : Option Addr) (sl sl2 : Array (Option Value)) (r : Bool) :
    Meets (Builtin.«tuple.__lt__» ⟨[.ref l, .ref b], []⟩)
      (fun A R s => s.heap.get? l = some { cls := .type "tuple", dict := dd, data := .seq items n, slots := sl } ∧ s.heap.get? b = some { cls := .type "tuple", dict := dd2, data := .seq items2 n2, slots := sl2 } ∧
        CmpL A.in1 s items.toList items2.toList r ∧ R (.ok (.ret (.bool r))) s) :=
  .of_wp fun prog w A R s h => by
    obtain ⟨hp, g, d, tk, os⟩ := s; obtain ⟨hl, hb, hc, h⟩ := h
    have f2 := AutoSeq1.sub_tuple_tuple
    wp_walk using wpAny_loadPart' hl, wpAny_loadPart' hb, wpAny_forIn_list _ (fun rest b s' => b.1 = none ∧ s' = ⟨hp, g, d, tk, os⟩ ∧ ∃ (vs ws : List Value), rest = vs.zip ws ∧
      CmpL A.in1 ⟨hp, g, d, tk, os⟩ vs ws r ∧ vs.length + items2.size = ws.length + items.size) _
    case turn =>
      rintro ⟨y, x⟩ rest b s' ⟨hb', rfl, vs, ws, hz, hC, hlen⟩
      cases hC with
      | nn => rw [List.zip_nil_left] at hz; cases hz
      | nc => rw [List.zip_nil_left] at hz; cases hz
      | cn => rw [List.zip_nil_right] at hz; cases hz
      | eq he ht =>
        rw [List.zip_cons_cons] at hz
        injection hz with hyx hrest
        injection hyx with hy hx
        subst hy hx
        simp only [List.length_cons] at hlen
        refine wpAny_bind (he prog w _ _ ?_)
        wp_walk
        exact ⟨rfl, rfl, _, _, hrest, ht, by (clear hl hb hc h f2 hb' ht hrest he; omega)⟩
      | ne he ht =>
        rw [List.zip_cons_cons] at hz
        injection hz with hyx hrest
        injection hyx with hy hx
        subst hy hx
        refine wpAny_bind (he prog w _ _ ?_)
        have hri := ht prog w
        wp_walk using hri
        exact ⟨_, rfl, by simpa using h⟩
    case fin =>
      rintro ⟨b1, b2⟩ s' ⟨hb', rfl, vs, ws, hz, hC, hlen⟩
      simp only at hb'
      subst hb'
      have hv : r = decide (items.size < items2.size) := by
        cases hC with
        | nn => simp only [List.length_nil] at hlen; exact (decide_eq_false (by (clear hl hb f2 hz hc h; omega))).symm
        | nc => simp only [List.length_nil, List.length_cons] at hlen; exact (decide_eq_true (by (clear hl hb f2 hz hc h; omega))).symm
        | cn => simp only [List.length_nil, List.length_cons] at hlen; exact (decide_eq_false (by (clear hl hb f2 hz hc h; omega))).symm
        | eq he ht => rw [List.zip_cons_cons] at hz; cases hz
        | ne he ht => rw [List.zip_cons_cons] at hz; cases hz
      rw [hv] at h
      wp_walk
      exact ⟨_, rfl, by simpa [Builtin.Tuple.tupleCompareSizes] using h⟩
    case h =>
      exact ⟨rfl, rfl, _, _, rfl, hc, by simp; (clear hl hb hc h f2; omega)⟩
end
theorem LtAt.tuples {A : Around} {s : Shared} {l b : Addr} {items items2 : Array Value} {r : Bool} (hl : s.heap.IsTuple l items) (hb : s.heap.IsTuple b items2) (hu : A.units < cLine)
    (hc : CmpL A.in1 s items.toList items2.toList r) : LtAt A s (.ref l) (.ref b) r := fun prog w E Q h => by
  obtain ⟨⟨cls, dd, data, sl⟩, ho, hcl, n, hd⟩ := id hl
  obtain ⟨⟨cls2, dd2, data2, sl2⟩, ho2, hc2, n2, hd2⟩ := id hb
  simp only at hcl hd hc2 hd2
  subst hcl hd hc2 hd2
  exact richCompare_meets_room (op := .Lt) ⟨_, ho, rfl⟩ ⟨_, ho2, rfl⟩ PySem.F.slot_tuple_lt PySem.F.entry_tuple_lt (PySem.F.args_tuple_lt_2 _ _) (tuple_ltAt l b items items2 n n2 dd dd2 sl sl2 r)
    ⟨ho, ho2, hc, show Value.bool r ≠ Value.notImplemented ∧ Q (.bool r) s from ⟨(fun x => nomatch x), h⟩⟩ hu
section
variable {X : Cx} {pins : List (Addr × Obj)} {σ : St} {H : Hp} {s : Shared}
theorem ltL_rep (I : Inv X pins σ H s) (n : Nat) (A : Around)
    (ih : ∀ {w1 w2 : W} {v1 v2 : V} {u1 u2 : Value}, w1.dep < n → w1.flat = true → w2.flat = true → W.ord w1 w2 = true → Rep X.K H w1 v1 → Rep X.K H w2 v2 → RelV v1 u1 → RelV v2 u2 → LtAt A s u1 u2 (w1.lt w2)) (hu : A.units + n < cLine) :
    ∀ {ws us : List W} {xs ys : List V} {its its2 : List Value}, W.deps ws < n → W.flats ws = true → W.flats us = true → W.ords ws us = true → Reps X.K H ws xs → Reps X.K H us ys → Vals xs its → Vals ys its2 → CmpL A s its its2 (W.lts ws us) := by
  intro ws
  induction ws with
  | nil =>
    intro us xs ys its its2 hd f1 f2 ho r1 r2 q1 q2
    cases r1
    cases q1
    cases r2 with
    | nil => cases q2; simpa [W.lts] using CmpL.nn
    | cons _ _ => cases q2; simpa [W.lts] using CmpL.nc
  | cons x xs IH =>
    intro us vs1 vs2 its its2 hd f1 f2 ho r1 r2 q1 q2
    cases r1 with
    | cons r1 s1 =>
      cases q1 with
      | cons q1 t1 =>
        cases r2 with
        | nil => cases q2; simpa [W.lts] using CmpL.cn
        | @cons y ys _ _ r2 s2 =>
          cases q2 with
          | cons q2 t2 =>
            simp only [W.deps] at hd
            simp only [W.flats, Bool.and_eq_true] at f1 f2
            have e := (eq_rep I n A (w1 := x) (w2 := y) (by (clear I ih hu IH r1 s1 q1 t1 r2 s2 ho q2 t2 f1 f2; omega)) f1.1 f2.1 hu r1 r2 q1 q2).1
            rw [W.ords] at ho
            rw [W.lts]
            cases he : W.eq x y with
            | true =>
              rw [he] at e ho
              rw [if_pos rfl] at ho ⊢
              exact .eq e (IH (by (clear I ih hu IH r1 s1 q1 t1 r2 s2 ho q2 t2 f1 f2 e he; omega)) f1.2 f2.2 ho s1 s2 t1 t2)
            | false =>
              rw [he] at e ho
              rw [if_neg Bool.false_ne_true] at ho ⊢
              exact .ne e (ih (by (clear I ih hu IH r1 s1 q1 t1 r2 s2 ho q2 t2 f1 f2 e he; omega)) f1.1 f2.1 ho r1 r2 q1 q2)
theorem lt_rep (I : Inv X pins σ H s) : ∀ (n : Nat) (A : Around) {w1 w2 : W} {v1 v2 : V} {u1 u2 : Value}, w1.dep < n → w1.flat = true → w2.flat = true → W.ord w1 w2 = true → A.units + n < cLine → Rep X.K H w1 v1 → Rep X.K H w2 v2 → RelV v1 u1 → RelV v2 u2 →
    LtAt A s u1 u2 (w1.lt w2) := by
  intro n
  induction n with
  | zero => intro A w1 w2 v1 v2 u1 u2 h; (clear I; omega)
  | succ n ih =>
    intro A w1 w2 v1 v2 u1 u2 hd f1 f2 ho hu r1 r2 q1 q2
    cases r1 with
    | ref a => simp [W.flat] at f1
    | scr a => simp [W.flat] at f1
    | non => simp [W.ord] at ho
    | bl b => simp [W.ord] at ho
    | str b => simp [W.ord] at ho
    | int a =>
      cases r2 with
      | int b =>
        obtain ⟨t, rfl⟩ := q1
        obtain ⟨t', rfl⟩ := q2
        rw [W.lt]
        exact fun prog w E Q h => HT.rcLt_int A s a t b t' prog w E Q h
      | _ => simp [W.ord] at ho
    | @tup a ws xs h r =>
      cases r2 with
      | @tup b us ys h2 r2 =>
        cases (show u1 = Value.ref _ from q1)
        cases (show u2 = Value.ref _ from q2)
        obtain ⟨its, rv, p, _⟩ := Inv.tupH I h
        obtain ⟨its2, rv2, p2, _⟩ := Inv.tupH I h2
        have g1 : W.flats ws = true := by simpa [W.flat] using f1
        have g2 : W.flats us = true := by simpa [W.flat] using f2
        have ho' : W.ords ws us = true := by simpa [W.ord] using ho
        have hd' : W.deps ws < n := by simp only [W.dep] at hd; (clear I ih hu h r f1 h2 r2 f2 ho q1 q2 rv p rv2 p2 g1 g2 ho'; omega)
        have hui : A.in1.units + n < cLine := by show A.units + 1 + n < cLine; (clear I ih h r hd f1 h2 r2 f2 ho q1 q2 rv p rv2 p2 g1 g2 ho' hd'; omega)
        rw [W.lt]
        exact LtAt.tuples p p2 (by (clear I ih h r hd f1 h2 r2 f2 ho q1 q2 rv p rv2 p2 g1 g2 ho' hd' hui; omega)) (ltL_rep I n A.in1 (fun h1 h2 h3 h4 => ih A.in1 h1 h2 h3 h4 hui) hui hd' g1 g2 ho' r r2 rv rv2)
      | _ => simp [W.ord] at ho
end
section
variable {X : Cx}
noncomputable def rLt3 : W2 := fun x y G q => match x, y with
  | .int i, .int j => q (.bl (decide (i < j))) G
  | .tup xs, .tup ys => W.flats xs = true ∧ W.flats ys = true ∧ W.deps xs ≤ 149 ∧ W.ords xs ys = true ∧ q (.bl (W.lts xs ys)) G
  | _, _ => False
theorem q_lt3 {k : Nat} (hr : Room k X.A) : QOp X (compareOp .Lt) rLt3 := by
  intro pins s σ H x y v u Q I rx ry ⟨wx, wy, G, q, r1, r2, g, h, hQ⟩
  unfold rLt3 at h
  split at h
  · cases r1
    cases r2
    exact op_lt pins s σ H _ _ v u Q I rx ry ⟨_, _, rfl, rfl, hQ _ H _ G (TLe.refl H) (.bl _) g h⟩
  · rename_i xs ys
    obtain ⟨f1, f2, hd, ho, h⟩ := h
    have z := lt_rep I 151 X.A (w1 := .tup xs) (w2 := .tup ys) (by simp only [W.dep]; (clear hr I rx ry g hQ r1 r2 f1 f2 ho h; omega)) (by simpa [W.flat] using f1) (by simpa [W.flat] using f2) (by simpa [W.ord] using ho) (by have := hr.un; (clear hr I rx ry g hQ r1 r2 f1 f2 hd ho h; omega)) r1 r2 rx ry
    rw [W.lt] at z
    exact z X.prog X.w X.xe _ ⟨.bl _, H, I, rfl, hQ _ H _ G (TLe.refl H) (.bl _) g h⟩
  · exact h.elim
end
end L2
namespace L2
open PySem PySem.Spec PyProof.Rows
section
variable {X : Cx}
end
end L2
namespace L2
open PySem PySem.Spec PyProof.Rows
section
variable {X : Cx} {pins : List (Addr × Obj)} {σ : St} {H : Hp} {s : Shared}
theorem eqJ (I : Inv X pins σ H s) {n : Nat} {A : Around} {ws us : List W} {xs ys : List V} {its its2 : List Value} (hd : W.deps ws < n) (g1 : W.flats ws = true) (g2 : W.flats us = true) (hu : A.in1.units + n < cLine) (r : Reps X.K H ws xs) (r2 : Reps X.K H us ys) (rv : Vals xs its) (rv2 : Vals ys its2) :
    ∀ j (h1 : j < its.toArray.size) (h2 : j < its2.toArray.size), SeqAt.EqAt A.in1 s its.toArray[j] its2.toArray[j] (eqAtJ ws us j) := fun j j1 j2 => by
  have e1 : its.length = ws.length := by rw [← rv.length, r.length]
  have e2 : its2.length = us.length := by rw [← rv2.length, r2.length]
  rw [List.size_toArray] at j1 j2
  have ea : ws[j]? = some ws[j] := List.getElem?_eq_getElem (by (clear I hd g1 g2 hu r r2 rv rv2 j2 e2; omega))
  have eb : us[j]? = some us[j] := List.getElem?_eq_getElem (by (clear I hd g1 g2 hu r r2 rv rv2 j1 e1 ea; omega))
  obtain ⟨va, ea1, ra⟩ := r.get ea
  obtain ⟨vb, eb1, rb⟩ := r2.get eb
  obtain ⟨ua, ea2, qa⟩ := rv.get ea1
  obtain ⟨ub, eb2, qb⟩ := rv2.get eb1
  have za : its.toArray[j] = ua := by
    have := (List.getElem?_eq_some_iff.mp ea2).2
    simpa using this
  have zb : its2.toArray[j] = ub := by
    have := (List.getElem?_eq_some_iff.mp eb2).2
    simpa using this
  rw [za, zb]
  have := (eq_rep I n A.in1 (w1 := ws[j]) (w2 := us[j]) (Nat.lt_of_le_of_lt (W.deps_get ea) hd) (W.flats_get g1 ea) (W.flats_get g2 eb) hu ra rb qa qb).1
  unfold eqAtJ
  rw [ea, eb]
  exact this
theorem eqs_len {ws us : List W} (h : ws.length ≠ us.length) : W.eqs ws us = false := by
  cases e : W.eqs ws us with
  | false => rfl
  | true => exact absurd ((W.eqs_iff ws us).mp e).1 h
end
section
variable {X : Cx}
noncomputable def rEq4 : W2 := fun x y G q => match x, y with
  | .ref a, .ref b => ∃ xs ys, G a = some (.lst xs) ∧ G b = some (.lst ys) ∧ W.flats xs = true ∧ W.flats ys = true ∧ W.deps xs ≤ 149 ∧ q (.bl (W.eqs xs ys)) G
  | x, y => rEq3 x y G q
noncomputable def rNe4 : W2 := fun x y G q => match x, y with
  | .ref a, .ref b => ∃ xs ys, G a = some (.lst xs) ∧ G b = some (.lst ys) ∧ W.flats xs = true ∧ W.flats ys = true ∧ W.deps xs ≤ 149 ∧ q (.bl (!(W.eqs xs ys))) G
  | x, y => rNe3 x y G q
theorem q_eq4 {k : Nat} (hr : Room k X.A) : QOp X (compareOp .Eq) rEq4 := by
  intro pins s σ H x y v u Q I rx ry ⟨wx, wy, G, q, r1, r2, g, h, hQ⟩
  unfold rEq4 at h
  split at h
  · obtain ⟨ws, us, ea, eb, f1, f2, hd, h⟩ := h
    cases r1
    cases r2
    cases rx
    cases ry
    obtain ⟨_, xs, e1, ra⟩ := g _ _ ea
    obtain ⟨_, ys, e2, rb⟩ := g _ _ eb
    obtain ⟨its, rv, p, _⟩ := I.list (SqL.of e1)
    obtain ⟨its2, rv2, p2, _⟩ := I.list (SqL.of e2)
    have l1 : its.length = ws.length := by rw [← rv.length, ra.length]
    have l2 : its2.length = us.length := by rw [← rv2.length, rb.length]
    have hu := hr.un
    have fin : EP X pins σ Q (.bool (W.eqs ws us)) s := ⟨.bl _, H, I, rfl, hQ _ H _ G (TLe.refl H) (.bl _) g h⟩
    by_cases hl : ws.length = us.length
    · have c1 := SeqAt.RcAt.lists p.isList p2.isList (by rw [List.size_toArray, List.size_toArray, l1, l2, hl]) (A := X.A) (by (clear hr I g hQ ea eb f1 f2 hd h e1 ra e2 rb rv p rv2 p2 l1 l2 fin hl; omega)) (eqJ I (n := 150) (by (clear hr I g hQ ea eb f1 f2 h e1 ra e2 rb rv p rv2 p2 l1 l2 hu fin hl; omega)) f1 f2 (by show X.A.units + 1 + 150 < cLine; (clear hr I g hQ ea eb f1 f2 hd h e1 ra e2 rb rv p rv2 p2 l1 l2 fin hl; omega)) ra rb rv rv2)
      have er := eqs_range ws us
      rw [← hl, Nat.min_self, beq_self_eq_true, Bool.and_true] at er
      rw [List.size_toArray, l1, er] at c1
      exact c1 X.prog X.w X.xe _ fin
    · rw [eqs_len hl] at fin
      exact SeqAt.RcAt.lists_lengths p.isList p2.isList (by rw [List.size_toArray, List.size_toArray, l1, l2]; simpa using hl) (A := X.A) (by (clear hr I g hQ ea eb f1 f2 hd h e1 ra e2 rb rv p rv2 p2 l1 l2 fin hl; omega)) X.prog X.w X.xe _ fin
  · exact q_eq hr pins s σ H x y v u Q I rx ry ⟨wx, wy, G, q, r1, r2, g, h, hQ⟩
theorem q_ne4 {k : Nat} (hr : Room k X.A) : QOp X (compareOp .NotEq) rNe4 := by
  intro pins s σ H x y v u Q I rx ry ⟨wx, wy, G, q, r1, r2, g, h, hQ⟩
  unfold rNe4 at h
  split at h
  · obtain ⟨ws, us, ea, eb, f1, f2, hd, h⟩ := h
    cases r1
    cases r2
    cases rx
    cases ry
    obtain ⟨_, xs, e1, ra⟩ := g _ _ ea
    obtain ⟨_, ys, e2, rb⟩ := g _ _ eb
    obtain ⟨its, rv, p, _⟩ := I.list (SqL.of e1)
    obtain ⟨its2, rv2, p2, _⟩ := I.list (SqL.of e2)
    have l1 : its.length = ws.length := by rw [← rv.length, ra.length]
    have l2 : its2.length = us.length := by rw [← rv2.length, rb.length]
    have hu := hr.un
    have fin : EP X pins σ Q (.bool (!(W.eqs ws us))) s := ⟨.bl _, H, I, rfl, hQ _ H _ G (TLe.refl H) (.bl _) g h⟩
    by_cases hl : ws.length = us.length
    · have c1 := SeqAt.RcNeAt.lists p.isList p2.isList (by rw [List.size_toArray, List.size_toArray, l1, l2, hl]) (A := X.A) (by (clear hr I g hQ ea eb f1 f2 hd h e1 ra e2 rb rv p rv2 p2 l1 l2 fin hl; omega)) (eqJ I (n := 150) (by (clear hr I g hQ ea eb f1 f2 h e1 ra e2 rb rv p rv2 p2 l1 l2 hu fin hl; omega)) f1 f2 (by show X.A.units + 1 + 150 < cLine; (clear hr I g hQ ea eb f1 f2 hd h e1 ra e2 rb rv p rv2 p2 l1 l2 fin hl; omega)) ra rb rv rv2)
      have er := eqs_range ws us
      rw [← hl, Nat.min_self, beq_self_eq_true, Bool.and_true] at er
      rw [List.size_toArray, l1, er] at c1
      exact c1 X.prog X.w X.xe _ fin
    · rw [eqs_len hl] at fin
      exact SeqAt.RcNeAt.lists_lengths p.isList p2.isList (by rw [List.size_toArray, List.size_toArray, l1, l2]; simpa using hl) (A := X.A) (by (clear hr I g hQ ea eb f1 f2 hd h e1 ra e2 rb rv p rv2 p2 l1 l2 fin hl; omega)) X.prog X.w X.xe _ fin
  · exact q_ne hr pins s σ H x y v u Q I rx ry ⟨wx, wy, G, q, r1, r2, g, h, hQ⟩
end
end L2
namespace L2
open PySem PySem.Spec PyProof.Rows
noncomputable def Itr3 (lo c : Int) (n : Nat) : It := ⟨fun i _ => i < n, fun i H x H' => H' = H ∧ x = .int (lo + i * c), fun i _ => n ≤ i⟩
theorem turn_range3 {P : Program} {w : World} {K : PySem.W.Frag} {tg : Expr} (it : Addr) (lo c : Int) (n : Nat) : Turn P w K tg (Itr3 lo c n) [it] it (fun i h => IsRangeIter h it (lo + (i : Nat) * c) ((n : Int) - (i : Nat)) c) where
  mem := by simp
  obj := fun i h st b hb => by
    have e : b = it := by simpa using hb
    subst e
    exact ⟨_, st, fun v z => by
      have z' : Data.fields _ = Data.cell v := z
      cases z'⟩
  keep := fun i h h' st k => k it (by simp) _ st
  item := by
    intro X hP hw hK hc i pins s σ H E I hf st hg
    subst hP hw hK
    obtain ⟨f0, f1, f2, f3, f4, f5⟩ := hf it (by simp)
    have W := Walks.range (prog := X.prog) (w := X.w) (I.ok.hd hc) it lo c n
    refine W.item i s _ _ hg st fun v h' tk hv st' kk => ?_
    obtain ⟨t, rfl⟩ := hv
    have I1 : Inv X pins σ H { s with heap := h', toks := tk } := I.turned (fun b o hb e => kk b o (by simpa using hb) e) f0 f1 f3 f4 f5
    exact ⟨_, rfl, go_of (s := { s with heap := h', toks := tk }) (n := "range_iterator") st' rfl rfl (by decide) ⟨.int (lo + i * c), H, I1, ⟨t, rfl⟩, ⟨rfl, rfl⟩, st', fun b hb => (hf b hb).1⟩⟩
  done := by
    intro X hP hw hK hc i pins s σ H E I hf st hg
    subst hP hw hK
    obtain ⟨f0, f1, f2, f3, f4, f5⟩ := hf it (by simp)
    exact wpAny_pyNext_range_end (I.ok.hd hc) st (by have : n ≤ i := hg; (clear hc I hf st hg f0 f1 f2 f3 f4 f5; omega)) fun h' eb => ⟨rfl, I.turned (t' := s.toks) (fun b o hb e => eb b o hb e) f0 f1 f3 f4 f5⟩
  self := fun _ _ _ _ _ st h => wpAny_pyIter_rangeiter st h
structure CR3 (lo hi c : Int) : Prop where
  c0 : 0 < c
  c1 : c < 1000
  l0 : -(2 ^ 40) ≤ lo
  l1 : lo < 2 ^ 40
  h0 : -(2 ^ 40) ≤ hi
  h1 : hi < 2 ^ 40
noncomputable def rsz (lo hi c : Int) : Int := Builtin.Range.rangeSize lo hi c
theorem CR3.size {lo hi c : Int} (h : CR3 lo hi c) : 0 ≤ rsz lo hi c ∧ rsz lo hi c ≤ 2 ^ 42 := by
  obtain ⟨c0, c1, l0, l1, h0, h1⟩ := h
  unfold rsz Builtin.Range.rangeSize
  rw [if_pos c0]
  split
  · have k0 : 0 ≤ (hi - lo - 1) / c := Int.ediv_nonneg (by (clear c0 c1 l0 l1 h0 h1; omega)) (by (clear l0 l1 h0 h1; omega))
    have k1 : (hi - lo - 1) / c ≤ hi - lo - 1 := Int.ediv_le_self _ (by (clear c0 c1 l0 l1 h0 h1 k0; omega))
    (clear c0 c1; omega)
  · (clear c0 c1 l0 l1 h0 h1; omega)
theorem CR3.last {lo hi c : Int} (h : CR3 lo hi c) : rsz lo hi c * c ≤ 2 ^ 52 := by
  have := h.size
  have h1 : rsz lo hi c * c ≤ 2 ^ 42 * 1000 := Int.mul_le_mul this.2 (by have := h.c1; (clear h; omega)) (by have := h.c0; (clear h; omega)) (by (clear h this; omega))
  (clear h this; omega)
section
variable {X : Cx} {tg : Expr}
theorem CR3.small {lo hi c : Int} (h : CR3 lo hi c) : Builtin.Range.small lo hi c = true := by
  have hs := h.size
  have hl := h.last
  obtain ⟨c0, c1, l0, l1, h0, h1⟩ := h
  unfold rsz at hs hl
  unfold Builtin.Range.small
  have : 0 ≤ Builtin.Range.rangeSize lo hi c * c := Int.mul_nonneg hs.1 (by (clear hs hl l0 l1 h0 h1; omega))
  simp only [Builtin.Range.rangeFitsLong, Bool.and_eq_true, Bool.or_eq_true, decide_eq_true_eq, beq_iff_eq, show c > 0 from c0, if_true]
  (clear hl this; omega)
theorem range_it3 {pins : List (Addr × Obj)} {σ : St} {H : Hp} {s : Shared} {R : It → Hp → Prop} {E : Value → Shared → Prop} {lo hi c : Int} {t u v : Tok} {tk : Nat} (I : Inv X pins σ H s) (h : CR3 lo hi c)
    (q : R (Itr3 lo c (rsz lo hi c).toNat) H) : wpAny (model X.prog X.w) X.A (pyIter (.ref s.heap.objs.size)) (PIE X pins σ tg R) E { s with heap := s.heap.push { cls := .type "range", data := .fields #[.int lo t, .int hi u, .int c v] }, toks := tk } := by
  refine wpAny_pyIter_range (IsRange.new ..) h.small ?_
  have I1 : Inv X pins σ H { s with heap := s.heap.push { cls := .type "range", data := .fields #[.int lo t, .int hi u, .int c v] }, toks := tk } := I.kept fun b o e => Heap.get?_push_of_some _ e
  refine ⟨(s.heap.push { cls := .type "range", data := .fields #[.int lo t, .int hi u, .int c v] }).objs.size, [(s.heap.push { cls := .type "range", data := .fields #[.int lo t, .int hi u, .int c v] }).objs.size], _, _, H, rfl,
    I1.kept (t' := tk) fun b o e => Heap.get?_push_of_some _ e, turn_range3 _ lo c (rsz lo hi c).toNat, ?_, fun b hb => ?_, q⟩
  · have e1 : lo + ((0 : Nat) : Int) * c = lo := by simp
    have e2 : (((rsz lo hi c).toNat : Nat) : Int) - ((0 : Nat) : Int) = Builtin.Range.rangeSize lo hi c := by have := h.size.1; unfold rsz at this ⊢; (clear I h q I1 e1; omega)
    show IsRangeIter _ _ (lo + ((0 : Nat) : Int) * c) ((((rsz lo hi c).toNat : Nat) : Int) - ((0 : Nat) : Int)) c
    rw [e1, e2]
    exact Heap.get?_push_size _ rfl
  · have e : b = (s.heap.push { cls := .type "range", data := .fields #[.int lo t, .int hi u, .int c v] }).objs.size := by simpa using hb
    subst e
    exact I1.fpOk (Nat.le_refl _) (I1.hok.fresh (Nat.le_refl _))
noncomputable def upS (lo c : Int) (n : Nat) : List W := (List.range n).map fun (i : Nat) => W.int (lo + (i : Int) * c)
theorem itn_rng3 {K : PySem.W.Frag} {lo c : Int} {n : Nat} {H : Hp} : Itn K (Itr3 lo c n) (upS lo c n) (fun _ => True) H where
  stop := fun i H1 G t g _ hl => by have h : n ≤ i := by simpa [upS] using hl
                                    exact h
  go := fun i w H1 G t g _ e => by
    unfold upS at e
    rw [List.getElem?_map] at e
    have hi : i < n := by
      cases h : (List.range n)[i]? with
      | none => rw [h] at e; cases e
      | some k =>
        have := (List.getElem?_eq_some_iff.mp h).1
        simpa using this
    rw [List.getElem?_range hi] at e
    cases e
    refine ⟨hi, fun x H' ⟨eH, hy⟩ => ?_⟩
    subst eH
    subst hy
    exact ⟨TLe.refl _, .int _, g⟩
noncomputable def jRng3 (ta : WA) : WI := fun τ G r => ta τ G fun ws G1 => match ws with
  | [.int lo, .int hi, .int c] => CR3 lo hi c ∧ r (upS lo c (rsz lo hi c).toNat) (fun _ => True) G1
  | _ => False
theorem qi_range3 {a b c : Expr} {ta : WA} {p pos : Pos} (hg : Gl X "range") (hm : X.mg "range" = none) (ha : QA X [a, b, c] ta) (hs : starEach [a, b, c] X.env = [(false, eval a X.env), (false, eval b X.env), (false, eval c X.env)] := by rfl) (hs2 : starEach [b, c] X.env = [(false, eval b X.env), (false, eval c X.env)] := by rfl) :
    QI X tg (.Call (.Name "range" p) [a, b, c] [] pos) (jRng3 ta) := by
  intro pins s σ H R I ⟨τ, G, r, hτ, hG, ht, hR⟩
  refine Call_ (ld_blt I hg hm boot_range (PyProof.Rows.callWith_type1 (thn (ha pos pins s σ H (fun vs H1 => ∃ ws G1, TLe H H1 ∧ Reps X.K H1 ws vs ∧ RelG X.K H1 G1 ∧ match ws with | [.int lo, .int hi, .int c] => CR3 lo hi c ∧ r (upS lo c (rsz lo hi c).toNat) (fun _ => True) G1 | _ => False) I ⟨τ, G, _, hτ, hG, ht, fun vs H1 ws G1 t1 r1 g1 q1 => ⟨ws, G1, t1, r1, g1, q1⟩⟩) fun us s1 ⟨vs, H1, I1, ru, ws, G1, t1, r1, g1, q1⟩ => ?_) (by rw [hs, hs2]) (by rw [hs2]; rfl)))
  split at q1
  · rename_i lo hi c
    cases r1 with
    | cons ra rr =>
      cases ra
      cases rr with
      | cons rb rr =>
        cases rb
        cases rr with
        | cons rc rr =>
          cases rc
          cases rr
          cases ru with
          | cons va vv =>
            obtain ⟨t, rfl⟩ := va
            cases vv with
            | cons vb vv =>
              obtain ⟨t', rfl⟩ := vb
              cases vv with
              | cons vc vv =>
                obtain ⟨t'', rfl⟩ := vc
                cases vv
                exact call_range_3 (by have := q1.1.c0; (clear hg hm ha hs hs2 I hτ hG ht hR I1 t1 g1 q1; omega)) (range_it3 I1 q1.1 (hR _ H1 _ _ G1 t1 g1 itn_rng3 q1.2)) (.inl (PyProof.noPylong_small (by have := q1.1.c0; have := q1.1.c1; (clear hg hm ha hs hs2 I hτ hG ht hR I1 t1 g1 q1; omega))))
  · exact q1.elim
noncomputable def upL (lo : Int) (n : Nat) : List W := (List.range n).map fun (i : Nat) => W.int (lo + (i : Int))
noncomputable def jRng2 (ta : WA) : WI := fun τ G r => ta τ G fun ws G1 => match ws with
  | [.int i, .int j] => (-(2 ^ 62) ≤ i ∧ i < 2 ^ 62 ∧ -(2 ^ 62) ≤ j ∧ j < 2 ^ 62) ∧ r (upL i (j - i).toNat) (fun _ => True) G1
  | _ => False
end
section
variable {X : Cx}
noncomputable def cMin : List W → Gp → WK → Prop := fun ws G q => match ws with
  | [.int i, .int j] => q (.int (if j < i then j else i)) G
  | _ => False
theorem q_min (hc : X.calm = true) : QCall X (.builtin "min") cMin := by
  intro pins s σ H xs us Q I r ⟨ws, G, q, rw', g, h, hQ⟩
  unfold cMin at h
  split at h
  · obtain ⟨v, u, rfl, r1, r2⟩ := rw'.two
    cases r1
    cases r2
    exact call_min2 hc pins s σ H _ us Q I r ⟨_, _, rfl, hQ _ H _ G (TLe.refl H) (.int _) g h⟩
  · exact h.elim
theorem b_min : bootBuiltins "min" = some (.builtin "min") := by decide +kernel
noncomputable def BigM (i j : Int) : Prop := i.natAbs < 2 ^ 4000 ∧ j.natAbs < 2 ^ 4000
noncomputable def BigD (j : Int) : Prop := 0 < j ∧ j.natAbs < 2 ^ 4000
theorem le_big {n : Nat} (h : n ≤ 10 ^ 200) : n < 2 ^ 4000 := Nat.lt_of_le_of_lt h (by decide +kernel)
theorem bigD {j : Int} (h0 : 0 < j) (h1 : j.natAbs ≤ 10 ^ 200) : BigD j := ⟨h0, le_big h1⟩
noncomputable def CMulB (i j : Int) : Prop := CMul i j ∨ BigM i j
theorem CMulB.ok {i j : Int} (h : CMulB i j) : IntMulOk i j := by
  rcases h with h | ⟨h1, h2⟩
  · exact h.ok
  · have b1 := PyProof.Rows.intBits_le h1
    have b2 := PyProof.Rows.intBits_le h2
    unfold IntMulOk Builtin.Int.intTooBig
    have : ¬ (((Builtin.Int.intBits i + Builtin.Int.intBits j : Int)) > bitsLine) := by
      have hb : (8000 : Int) ≤ bitsLine := by decide
      (clear h1 h2; omega)
    simp [this]
noncomputable abbrev vMulB : W2 := vInt CMulB fun i j => .int (i * j)
theorem op_mulB : OpR X (binaryOp .Mult) (rI CMulB fun i j => .int (i * j)) := opI fun _ _ _ _ _ _ _ hc q => mul_int q hc.ok
theorem q_mulB : QOp X (binaryOp .Mult) vMulB := q_rint op_mulB
noncomputable def CDivB (i j : Int) : Prop := CDiv i j ∨ BigD j
theorem op_fdivB : OpR X (binaryOp .FloorDiv) (rI CDivB fun i j => .int (i / j)) := opI fun i j _ _ _ _ _ hc q => by
  rcases hc with hc | ⟨h0, h1⟩
  · have h1 : (0 : Int) < j := hc.1
    have h2 : j < 1073741824 := hc.2
    exact floordiv_int (by (clear q hc; omega)) (by rw [Int.fdiv_eq_ediv_of_nonneg i (by (clear q hc; omega))]; exact q) (.inl (PyProof.noPylong_small (by (clear q hc; omega))))
  · refine floordiv_int (by (clear q h1; omega)) (by rw [Int.fdiv_eq_ediv_of_nonneg i (by (clear q h1; omega))]; exact q) (.inl (PyProof.noPylong_of_log2 ?_))
    have hne : j.natAbs ≠ 0 := by (clear q h1; omega)
    exact Nat.lt_of_lt_of_le ((Nat.log2_lt hne).mpr h1) (by decide)
noncomputable abbrev vDivB : W2 := vInt CDivB fun i j => .int (i / j)
theorem q_divB : QOp X (binaryOp .FloorDiv) vDivB := q_rint op_fdivB
end
end L2
namespace L2
open PySem PySem.Spec PyProof.Rows
section
variable {X : Cx}
noncomputable def wPar (i j : Nat) (ta : WA) : WS := fun d τ G => ta τ G fun ws G1 => match ws with
  | [v, w] => d.nx ((τ.set i (some v)).set j (some w)) G1
  | _ => False
end
end L2
namespace L2
open PySem PySem.Spec PyProof.Rows
structure FunD (K : PySem.W.Frag) (x qual : Str) (st : Stmt) (f : Addr) (fd : FuncData) (T : Addr) (ds : List Value) : Prop where
  ex : ∃ (oc : Value) (od : Option Addr) (kV doc pm : Value) (an : Option Addr) (cdv ct : Value) (osl : Array (Option Value)) (ot : Obj) (nt : Nat),
    fd = PySem.W.fnOf x qual (defArgs st) (defBody st) (defScope st) (.ref T) kV doc pm an cdv ct ∧ K.lookup f = some ⟨oc, od, .func fd, osl⟩ ∧ PySem.W.codeIn K cdv qual = true ∧ K.lookup T = some ot ∧ ot.data = .seq ds.toArray nt
  kp : PySem.W.keepIn K (.ref f) = true
section
variable {P : Program} {w : World} {K : PySem.W.Frag} {mg : Str → Option Value} {base : Heap} {x qual : Str} {st : Stmt} {f T : Addr} {fd : FuncData} {ds : List Value}
theorem fun_mkD {oc : Value} {od an : Option Addr} {osl : Array (Option Value)} {kV doc pm cdv ct : Value} {ot : Obj} {nt : Nat} (l : K.lookup f = some ⟨oc, od, .func (PySem.W.fnOf x qual (defArgs st) (defBody st) (defScope st) (.ref T) kV doc pm an cdv ct), osl⟩)
    (c : PySem.W.codeIn K cdv qual = true) (k : PySem.W.keepIn K (.ref f) = true) (t : K.lookup T = some ot) (h : ot.data = .seq ds.toArray nt) : FunD K x qual st f (PySem.W.fnOf x qual (defArgs st) (defBody st) (defScope st) (.ref T) kV doc pm an cdv ct) T ds :=
  ⟨⟨oc, od, kV, doc, pm, an, cdv, ct, osl, ot, nt, rfl, l, c, t, h⟩, k⟩
theorem FunD.binds {ps : List Str} {es : List Value} (F : FunD K x qual st f fd T ds)
    (h : ∀ (kV doc pm : Value) (an : Option Addr) (cdv ct : Value) (us : List Value), (us ++ es).length = ps.length → ∃ k, bindArgs (PySem.W.fnOf x qual (defArgs st) (defBody st) (defScope st) (.ref T) kV doc pm an cdv ct) ⟨us, []⟩ = seqItems? (.ref T) >>= k ∧ k (some ds.toArray) = pure (ps.zip (us ++ es))) : Binds K fd ps es := by
  obtain ⟨oc, od, kV, doc, pm, an, cdv, ct, osl, ot, nt, rfl, lk, hcd, ht, hd⟩ := F.ex
  intro s us KX hl
  obtain ⟨k, h1, h2⟩ := h kV doc pm an cdv ct us hl
  exact BindsTo.of_defaults (T := T) rfl (KX _ _ ht) hd h1 h2
theorem fn3D {N ps : List Str} {k : Nat} {sp : WSp} (F : FunD K x qual st f fd T ds) (S : FnScope N ps (defScope st)) (len : ∀ ws G q e, sp ws G q e → ws.length = ps.length)
    (hbody : ∀ (cdv : Value) (A : Around) (outer : List Env) (s : Shared) (H : Hp) (E : XK), Room k (A.deeper (envOfC qual (defScope st) s.heap.objs.size f cdv)) →
      ∃ t, QSs (cxOf CX0 P w K mg base N qual (defScope st) f cdv A outer s H E).nox (defBody st) t ∧
        ∀ (ws : List W) (G : Gp) (q : WK) (e : WX), sp ws G q e → t { nx := fun _ G1 => ∃ G0, GLe G0 G1 ∧ q .non G0, rt := fun w G1 => ∃ G0, GLe G0 G1 ∧ q w G0 } (wStart N ws) G) : WFn P w K mg base (k + 1) f fd ps sp := by
  obtain ⟨oc, od, kV, doc, pm, an, cdv, ct, osl, ot, nt, rfl, lk, hcd, ht, hd⟩ := F.ex
  refine fn_of lk hcd S (fun vs H Q E ⟨ws, G, q, e, r, g, z, _⟩ => by rw [← r.length]; exact len _ _ _ _ z) (fun A outer s H vs Q E hr ⟨ws, G, q, e, r, g, z, hQ, _⟩ => ?_)
  obtain ⟨t, ht, hq⟩ := hbody cdv A outer s H E hr
  have ht' : PSs (cxOf CX0 P w K mg base N qual (defScope st) f cdv A outer s H E).nox (defBody st) (LS K t) := ht
  exact ⟨_, ht'.nox, _, G, _, RelSt.start r, g, hq ws G q e z, ⟨fun σ1 H1 τ1 G1 t1 s1 g1 ⟨G0, l, q1⟩ => hQ .non H1 .non G0 t1 .non (g1.le l) q1, fun v H1 w G1 t1 r1 g1 ⟨G0, l, q1⟩ => hQ v H1 w G0 t1 r1 (g1.le l) q1, fun _ _ _ _ _ _ _ z => z.elim, fun _ _ _ _ _ _ _ z => z.elim⟩⟩
noncomputable def Fxd (P : Program) (w : World) (K : PySem.W.Frag) (mg : Str → Option Value) (base : Heap) (x : Str) (ps : List Str) (k : Nat) (sp : WSp) (dws : List W) : Prop :=
  ∃ (f : Addr) (fd : FuncData) (ds : List Value) (dvs : List V), WFn P w K mg base k f fd ps sp ∧ mg x = some (.ref f) ∧ PySem.W.keepIn K (.ref f) = true ∧ Binds K fd ps ds ∧ Vals dvs ds ∧ ∀ H, Reps K H dws dvs
noncomputable def DfD (K : PySem.W.Frag) (mg : Str → Option Value) (x : Str) (st : Stmt) (ps : List Str) (dws : List W) : Prop :=
  ∃ (f : Addr) (fd : FuncData) (T : Addr) (ds : List Value) (dvs : List V), FunD K x x st f fd T ds ∧ Binds K fd ps [] ∧ Binds K fd ps ds ∧ mg x = some (.ref f) ∧ Vals dvs ds ∧ ∀ H, Reps K H dws dvs
theorem DfD.fx {ps : List Str} {k : Nat} {sp : WSp} {dws : List W} (D : DfD K mg x st ps dws) (h : ∀ (f : Addr) (fd : FuncData) (T : Addr) (ds : List Value), FunD K x x st f fd T ds → WFn P w K mg base k f fd ps sp) : Fx P w K mg base x ps k sp := by
  obtain ⟨f, fd, T, ds, dvs, F, b, b', m, _, _⟩ := D
  exact ⟨f, fd, h f fd T ds F, m, F.kp, b⟩
theorem DfD.fxd {ps : List Str} {k : Nat} {sp : WSp} {dws : List W} (D : DfD K mg x st ps dws) (h : ∀ (f : Addr) (fd : FuncData) (T : Addr) (ds : List Value), FunD K x x st f fd T ds → WFn P w K mg base k f fd ps sp) : Fxd P w K mg base x ps k sp dws := by
  obtain ⟨f, fd, T, ds, dvs, F, b, b', m, v, r⟩ := D
  exact ⟨f, fd, ds, dvs, h f fd T ds F, m, F.kp, b', v, r⟩
end
section
variable {X : Cx}
theorem qe_fxn {x : Str} {ps : List Str} {k : Nat} {sp : WSp} {p pos : Pos} {e : Expr} {es : List Expr} {t : WA} (F : Fx X.prog X.w X.K X.mg X.base x ps k sp) (hr : Room k X.A) (hg : Gl X x) (ha : QA X (e :: es) t) (_hn : (e :: es).length = ps.length := by rfl) (hdb : (x == ("__debug__" : Str)) = false := by decide)
    (he : starEach (e :: es) X.env = (false, eval e X.env) :: starEach es X.env := by rfl) (hpl : (backTo pos (starEach es X.env)).any (·.1) = false := by rfl) : QE X (.Call (.Name x p) (e :: es) [] pos) (wCall sp [] t) := qe_fx F hr hg ha hdb he hpl
theorem qe_fxd {x : Str} {ps : List Str} {k : Nat} {sp : WSp} {dws : List W} {p pos : Pos} {e : Expr} {es : List Expr} {t : WA} (F : Fxd X.prog X.w X.K X.mg X.base x ps k sp dws) (hr : Room k X.A) (hg : Gl X x) (ha : QA X (e :: es) t) (_hn : (e :: es).length + dws.length = ps.length := by rfl) (hdb : (x == ("__debug__" : Str)) = false := by decide)
    (he : starEach (e :: es) X.env = (false, eval e X.env) :: starEach es X.env := by rfl) (hpl : (backTo pos (starEach es X.env)).any (·.1) = false := by rfl) : QE X (.Call (.Name x p) (e :: es) [] pos) (wCall sp dws t) := by
  obtain ⟨f, fd, ds, dvs, h1, h2, h3, h4, h5, h6⟩ := F
  exact (pe_call h1 hr hg h2 h3 h4 h5 pass0 ha hdb he hpl).imp fun _ _ _ h => h.call h6
noncomputable def wNever : WS := fun _ _ _ => False
theorem qs_never {st : Stmt} : QS X st wNever := fun _ _ _ _ _ _ ⟨_, _, _, _, _, z, _⟩ => z.elim
end
end L2
namespace L2
open PySem PySem.Spec PyProof.Rows
variable {X : Cx}
noncomputable def cMax4 : List W → Gp → WK → Prop := fun ws G q => match ws with
  | [.int i, .int j] => q (.int (if j > i then j else i)) G
  | [.int i, .int j, .int k] => q (.int (if j > i then (if k > j then k else j) else if k > i then k else i)) G
  | [.ref a] => ∃ ns : List Int, G a = some (.lst (ns.map W.int)) ∧ ns ≠ [] ∧ ∀ m : Int, m ∈ ns → (∀ x, x ∈ ns → x ≤ m) → q (.int m) G
  | _ => False
theorem q_max4 (hc : X.calm = true) : QCall X (.builtin "max") cMax4 := by
  intro pins s σ H xs us Q I r ⟨ws, G, q, rw', g, h, hQ⟩
  unfold cMax4 at h
  split at h
  · obtain ⟨v, u, rfl, r1, r2⟩ := rw'.two
    cases r1
    cases r2
    exact call_max2 hc pins s σ H _ us Q I r ⟨_, _, rfl, hQ _ H _ G (TLe.refl H) (.int _) g h⟩
  · rename_i i j k
    cases rw' with
    | cons r1 rw' =>
      cases rw' with
      | cons r2 rw' =>
        cases rw' with
        | cons r3 rw' =>
          cases rw'
          cases r1
          cases r2
          cases r3
          cases r with
          | cons a1 r =>
            cases r with
            | cons a2 r =>
              cases r with
              | cons a3 r =>
                cases r
                obtain ⟨t1, rfl⟩ := a1
                obtain ⟨t2, rfl⟩ := a2
                obtain ⟨t3, rfl⟩ := a3
                refine max_three_ints (I.ok.hd hc) fun h' tk k' => ⟨.int (if j > i then (if k > j then k else j) else if k > i then k else i), H, I.kept k', ?_, hQ _ H _ G (TLe.refl H) (.int _) g h⟩
                by_cases h1 : j > i
                · by_cases h2 : k > j
                  · rw [if_pos h1, if_pos h2, if_pos h1, if_pos h2]; exact ⟨_, rfl⟩
                  · rw [if_pos h1, if_neg h2, if_pos h1, if_neg h2]; exact ⟨_, rfl⟩
                · by_cases h2 : k > i
                  · rw [if_neg h1, if_pos h2, if_neg h1, if_pos h2]; exact ⟨_, rfl⟩
                  · rw [if_neg h1, if_neg h2, if_neg h1, if_neg h2]; exact ⟨_, rfl⟩
  · rename_i a
    obtain ⟨ns, e, hne, h⟩ := h
    obtain ⟨v, rfl, r1⟩ := rw'.one
    cases r1
    obtain ⟨_, zs, e1, rr⟩ := g a _ e
    obtain rfl := rr.ints_of
    obtain ⟨u, rfl, ru⟩ := vals1 r
    cases (show u = Value.ref a from ru)
    obtain ⟨its, rv, p, hz⟩ := I.list (SqL.of e1)
    have hi : IntsAre its ns := L2.intsAre_of rv
    obtain ⟨ys, ey⟩ := hi.allInts.items
    have hn : (ys.toList.map (·.1)) = ns := by rw [← nums_intItems, ← ey, ← hi.numsOf]
    have hl : s.heap.IsList a (intItems ys) := by rw [← ey]; exact p.isList
    have hsz : ys.size = ns.length := by rw [← hn]; simp
    have hpos : 0 < ys.size := by
      rw [hsz]
      exact List.length_pos_iff.mpr hne
    refine max_intList (I.ok.hd hc) hl hpos fun v h' tk hv hk => ?_
    have ab := argBest_gt (numAt ys) (ys.size - 1)
    generalize argBest (fun i j => decide (numAt ys i > numAt ys j)) (ys.size - 1) = ix at hv ab
    have hix : ix < ys.size := by (clear hc I g hQ e hne h rw' e1 rr ru r rv p hz hi ey hn hl hk hv; omega)
    have hna : ∀ j (hj : j < ys.size), numAt ys j = ns[j]'(by (clear hc I g hQ e hne h rw' e1 rr ru r rv p hz hi ey hn hl hpos hk hv ab hix; omega)) := fun j hj => by
      unfold numAt
      rw [Array.getElem?_eq_getElem hj]
      simp [← hn]
    have hv2 : v = Value.int (ys[ix].1) (ys[ix].2) := by
      unfold intItems at hv
      rw [Array.getElem?_map, Array.getElem?_eq_getElem hix] at hv
      simpa using hv.symm
    have hm : ys[ix].1 = ns[ix]'(by (clear hc I g hQ e hne h rw' e1 rr ru r rv p hz hi ey hn hl hpos hk hv ab hna hv2; omega)) := by
      have := hna ix hix
      unfold numAt at this
      rw [Array.getElem?_eq_getElem hix] at this
      simpa using this
    rw [hm] at hv2
    subst hv2
    refine ⟨.int _, H, I.kept hk, ⟨_, rfl⟩, hQ _ H _ G (TLe.refl H) (.int _) g (h _ (List.getElem_mem _) fun x hx => ?_)⟩
    obtain ⟨j, hj, rfl⟩ := List.mem_iff_getElem.mp hx
    have := ab.2 j (by (clear hc I g hQ e hne h rw' e1 rr ru r rv p hz hi ey hn hl hk ab hna hm hv hx; omega))
    rw [hna j (by (clear hc I g hQ e hne h rw' e1 rr ru r rv p hz hi ey hn hl hpos hk ab hna hm hv hx this; omega)), hna ix hix] at this
    exact this
  · exact h.elim
theorem qe_gint {x : Str} {i : Int} {t : Tok} {pos : Pos} (hg : Gl X x) (hm : X.mg x = some (.int i t)) (hd : (x == ("__debug__" : Str)) = false := by decide) : QE X (.Name x pos) (wC (.int i)) := qe_const (pe_glob (v := .int i) hg hm ⟨t, rfl⟩ hd) fun _ => .int i
end L2
namespace L2
open PySem PySem.Spec PyProof.Rows
section
variable {M : Model} {A : Around} {E : Value → Shared → Prop} {K : PySem.W.Frag} {C D a : Addr} {bm bmD : List Value} {oe : Obj}
end
structure Fl (P : Program) (w : World) (fs : List Addr) (H H' : Hp) (h0 h : Heap) (a T : Addr) (c fl : Value) : Prop where
  un : Un fs [] H H' h0 h
  hok : HOk P w H' h
  na : h0.get? a = none
  nT : h0.get? T = none
  ha : H' a = none
  hT : H' T = none
  tr : ∃ oe vs oT ts a0, h.get? a = some oe ∧ (oe.cls = c ∧ vs[0]? = some a0) ∧ oe.data = .fields vs ∧ vs[1]? = some (.ref T) ∧ T ≠ a ∧ h.get? T = some oT ∧ oT.data = .fields ts ∧ ts[3]? = some fl
section
variable {P : Program} {w : World} {fs : List Addr} {H H' : Hp} {h0 h h' : Heap} {a T : Addr} {c fl fl' : Value}
end
noncomputable def CX1 (P : Program) (w : World) : CXT := fun outer H s E e s' => ∃ a T C H', e = .ref a ∧ s'.os = s.os ∧ AllBare s'.gens ∧ Fl P w (frs outer) H H' s.heap s'.heap a T (.ref C) .none ∧ E (.ref C) none H'
noncomputable abbrev RFn (P : Program) (w : World) (K : PySem.W.Frag) (mg : Str → Option Value) (base : Heap) (k : Nat) (f : Addr) (fd : FuncData) (ps : List Str) (sp : WSp) : Prop := FnOk P w K mg base (CX1 P w) k f fd ps (LSp K sp)
section
variable {P : Program} {w : World} {K : PySem.W.Frag} {mg : Str → Option Value} {base : Heap} {N : List Str} {qual : Str} {scope : Scope} {f : Addr} {cdv : Value} {A : Around} {outer : List Env} {s : Shared} {H : Hp} {E : XK}
noncomputable def wRaise (C : Addr) (e : WX) : WS := fun _ _ G => e (.ref C) G
end
noncomputable def wNevers : WS := fun _ _ _ => False
section
variable {X : Cx} {pins : List (Addr × Obj)} {σ : St} {H : Hp} {s : Shared} {a : Addr} {oe : Obj}
end
section
variable {X : Cx} {pins : List (Addr × Obj)} {σ : St} {H0 H : Hp} {s0 s : Shared} {a T : Addr} {c fl : Value}
variable {C D : Addr} {bm bmD : List Value} {x : Str} {p pos : Pos} {name : Option Str} {body : List Stmt} {rest : List ExceptHandler} {b0 : Stmt} {th : WS}
noncomputable def wAs (i : Nat) (ts : Addr → WS) : WS := fun d τ G => ∀ a, G a = none → ts a { nx := fun τ1 G1 => d.nx (τ1.set i none) G1, rt := d.rt, bk := fun τ1 G1 => d.bk (τ1.set i none) G1, ct := fun τ1 G1 => d.ct (τ1.set i none) G1 } (τ.set i (some (.ref a))) G
noncomputable def wTry (sp : WSp) (dws : List W) (t : WA) (C : Addr) (th : WS) : WS := fun d τ G => t τ G fun ws G1 => sp (ws ++ dws) G1 (fun _ G2 => d.nx τ G2) fun c G2 => c = .ref C ∧ th d τ G2
end
section
variable {X : Cx} {a : Addr} {oe : Obj} {C D : Addr} {bm bmD : List Value}
noncomputable def wIsx (i : Nat) (a : Addr) : WE := fun τ G q => τ[i]? = some (some (.ref a)) ∧ q (.bl true) G
end
end L2
namespace L2
open PySem PySem.Spec PyProof.Rows
section
variable {prog : Program} {w : World} {A : Around} {R : Result → Shared → Prop} {I : Addr} {fp wr : List Addr} {n : Nat} {P : Nat → Value → Prop} {St : Nat → Heap → Prop} {kw : List (Str × Value)}
end
section
variable {prog : Program} {w : World} {A : Around} {E : Value → Shared → Prop} {s : Shared} {l : Addr} {xs : Array (Int × Tok)} {d : Value}
end
section
variable {X : Cx}
noncomputable def wMaxD (te : WE) (d : Int) : WE := fun τ G q => te τ G fun x G1 => match x with
  | .ref a => ∃ ns : List Int, G1 a = some (.lst (ns.map W.int)) ∧ (ns = [] → q (.int d) G1) ∧ ∀ m : Int, m ∈ ns → (∀ x, x ∈ ns → x ≤ m) → q (.int m) G1
  | _ => False
noncomputable def rIsB (neg : Bool) : W2 := fun x y G q => match x, y with
  | .bl a, .bl b => q (.bl (neg ^^ (a == b))) G
  | _, _ => False
end
end L2
namespace L2
open PySem PySem.Spec PyProof.Rows
section
variable {P : Program} {w : World} {K : PySem.W.Frag} {mg : Str → Option Value} {base : Heap} {N : List Str} {qual : Str} {scope : Scope} {f : Addr} {cdv : Value} {A : Around} {outer : List Env} {s : Shared} {H : Hp} {E : XK}
noncomputable def wCallX (sp : WSp) (dws : List W) (t : WA) (e : WX) : WE := fun τ G q => t τ G fun ws G1 => sp (ws ++ dws) G1 q e
end
section
variable {X : Cx} {pins : List (Addr × Obj)} {σ : St} {H : Hp} {s : Shared}
noncomputable def wDct : WE := fun _ G q => ∀ p, G p = none → q (.ref p) (updG G p .dct)
end
end L2
namespace L2
open PySem PySem.Spec PyProof.Rows
section
variable {prog : Program} {w : World} {A : Around} {E : Value → Shared → Prop} {s : Shared} {I l : Addr} {items : Array Value}
end
theorem Vals.rev : ∀ {xs : List V} {us : List Value}, Vals xs us → Vals xs.reverse us.reverse
  | _, _, .nil => .nil
  | _, _, .cons r rs => by
    rw [List.reverse_cons, List.reverse_cons]
    exact (Vals.rev rs).append (.cons r .nil)
theorem Reps.rev {K : PySem.W.Frag} {H : Hp} : ∀ {ws : List W} {vs : List V}, Reps K H ws vs → Reps K H ws.reverse vs.reverse
  | _, _, .nil => .nil
  | _, _, .cons r rs => by
    rw [List.reverse_cons, List.reverse_cons]
    exact (Reps.rev rs).append (.cons r .nil)
section
variable {X : Cx}
noncomputable def wTupRev (te : WE) : WE := fun τ G q => te τ G fun x G1 => match x with
  | .ref a => ∃ ws, G1 a = some (.lst ws) ∧ q (.tup ws.reverse) G1
  | _ => False
end
end L2
namespace L2
open PySem PySem.Spec PyProof.Rows
noncomputable def CRG (lo hi c : Int) : Prop := CR3 lo hi c ∨ (c = -1 ∧ -(2 ^ 40) ≤ lo ∧ lo < 2 ^ 40 ∧ -(2 ^ 40) ≤ hi ∧ hi < 2 ^ 40)
section
variable {X : Cx} {tg : Expr}
noncomputable def jRngG (ta : WA) : WI := fun τ G r => ta τ G fun ws G1 => match ws with
  | [.int lo, .int hi, .int c] => CRG lo hi c ∧ r (upS lo c (rsz lo hi c).toNat) (fun _ => True) G1
  | _ => False
noncomputable def bits (i : Int) : Int := (Builtin.Int.intBits i : Nat)
noncomputable def wBits (to : WE) : WE := fun τ G q => to τ G fun x G1 => match x with
  | .int i => q (.int (bits i)) G1
  | _ => False
noncomputable def BigP (i j : Int) : Prop := 0 ≤ j ∧ j ≤ 1000 ∧ i.natAbs < 2 ^ 4000
noncomputable def CPowB (i j : Int) : Prop := CPow i j ∨ BigP i j
end
end L2
namespace L2
open PySem PySem.Spec PyProof.Rows
section
variable {X : Cx} {C : Addr} {th : WS} {x : Str} {p pos : Pos}
noncomputable def wTryA (i : Nat) (sp : WSp) (dws : List W) (t : WA) (C : Addr) (th : WS) : WS := fun d τ G => t τ G fun ws G1 => sp (ws ++ dws) G1 (fun v G2 => d.nx (τ.set i (some v)) G2) fun c G2 => c = .ref C ∧ th d τ G2
end
end L2
set_option maxRecDepth 100000
namespace L2
open PySem PySem.Spec PyProof.Rows
section
variable {X : Cx}
end
section
variable {X : Cx}
end
end L2
namespace L2
open PySem PySem.Spec PyProof.Rows
section
variable {X : Cx}
end
end L2
namespace L2
open PySem PySem.Spec PyProof.Rows
noncomputable abbrev WEx := Addr → WSt → Gp → Prop
noncomputable def XP (X : Cx) (pins : List (Addr × Obj)) (H : Hp) (ex : WEx) (e : Value) (s' : Shared) : Prop :=
  ∃ a T C H0 s0 σ H' τ G, e = .ref a ∧ Inv X pins σ H0 s0 ∧ Fl X.prog X.w (frs X.stack) H0 H' s0.heap s'.heap a T (.ref C) .none ∧ s'.os = s0.os ∧ AllBare s'.gens ∧ TLe H H' ∧ RelSt X.K H' τ σ ∧ RelG X.K H' G ∧ ex C τ G
section
variable {X : Cx} {x : Str} {p pos : Pos}
noncomputable def wSeqY (t u : WEx → WS) : WEx → WS := fun ex => wSeq (t ex) (u ex)
noncomputable def wIfY (c : WT) (t u : WEx → WS) : WEx → WS := fun ex => wIf c (t ex) (u ex)
noncomputable def wCallY (i : Nat) (sp : WSp) (dws : List W) (t : WA) : WEx → WS := fun ex d τ G => t τ G fun ws G1 => sp (ws ++ dws) G1 (fun v G2 => d.nx (τ.set i (some v)) G2) fun c G2 => ∀ C, c = .ref C → ex C τ G2
noncomputable def wDoY (sp : WSp) (dws : List W) (t : WA) : WEx → WS := fun ex d τ G => t τ G fun ws G1 => sp (ws ++ dws) G1 (fun _ G2 => d.nx τ G2) fun c G2 => ∀ C, c = .ref C → ex C τ G2
noncomputable def wTryY (t : WEx → WS) (cs : List (Addr × WS)) : WS := fun d τ G => t (fun C τ1 G1 => ∃ th, (C, th) ∈ cs ∧ th d τ1 G1) d τ G
end
end L2
namespace L2
open PySem PySem.Spec PyProof.Rows
section
variable {prog : Program} {w : World} {A : Around} {E : Value → Shared → Prop} {s : Shared}
end
noncomputable def jRev (ta : WA) : WI := fun τ G r => ta τ G fun ws G1 => match ws with
  | [.tup xs] => r xs.reverse (fun _ => True) G1
  | _ => False
theorem boot_rv : bootBuiltins "reversed" = some (.type "reversed") := by decide +kernel
end L2
namespace L2
open PySem PySem.Spec PyProof.Rows
noncomputable def enumW : Nat → List W → List W
  | _, [] => []
  | i, x :: xs => .tup [.int (i : Int), x] :: enumW (i + 1) xs
section
variable {prog : Program} {w : World} {A : Around} {E : Value → Shared → Prop} {s : Shared}
end
noncomputable def jEnum (ta : WA) : WI := fun τ G r => ta τ G fun ws G1 => match ws with
  | [.tup xs] => r (enumW 0 xs) (fun _ => True) G1
  | _ => False
end L2
namespace L2
open PySem PySem.Spec PyProof.Rows
mutual
noncomputable def W.ge : W → W → Bool
  | .int i, .int j => decide (i ≥ j)
  | .tup xs, .tup ys => W.ges xs ys
  | _, _ => false
noncomputable def W.ges : List W → List W → Bool
  | [], [] => true
  | [], _ :: _ => false
  | _ :: _, [] => true
  | x :: xs, y :: ys => if W.eq x y = true then W.ges xs ys else W.ge x y
end
noncomputable def GeAt (A : Around) (s : Shared) (y x : Value) (b : Bool) : Prop :=
  ∀ (prog : Program) (w : World) (E : Value → Shared → Prop) (Q : Value → Shared → Prop), Q (.bool b) s → wpAny (model prog w) A (richCompare .GtE y x) Q E s
inductive CmpG (A : Around) (s : Shared) : List Value → List Value → Bool → Prop where
  | nn : CmpG A s [] [] true
  | nc {y : Value} {ys : List Value} : CmpG A s [] (y :: ys) false
  | cn {x : Value} {xs : List Value} : CmpG A s (x :: xs) [] true
  | eq {x y : Value} {xs ys : List Value} {r : Bool} (h : SeqAt.EqAt A s x y true) (t : CmpG A s xs ys r) : CmpG A s (x :: xs) (y :: ys) r
  | ne {x y : Value} {xs ys : List Value} {r : Bool} (h : SeqAt.EqAt A s x y false) (t : GeAt A s x y r) : CmpG A s (x :: xs) (y :: ys) r
section
open PySem.SeqAt
open PySem.AutoSeq1 (wpAny_loadPart')
open PySem.MeetsSeq PySem.MeetsSeq2 PySem.MeetsSeq3
end
section
variable {X : Cx} {pins : List (Addr × Obj)} {σ : St} {H : Hp} {s : Shared}
end
section
variable {X : Cx}
noncomputable def rGe3 : W2 := fun x y G q => match x, y with
  | .int i, .int j => q (.bl (decide (i ≥ j))) G
  | .tup xs, .tup ys => W.flats xs = true ∧ W.flats ys = true ∧ W.deps xs ≤ 149 ∧ W.ords xs ys = true ∧ q (.bl (W.ges xs ys)) G
  | _, _ => False
end
section
variable {X : Cx}
noncomputable def wExt (to te : WE) : WE := fun τ G q => to τ G fun x G1 => match x with
  | .ref a => (∃ xs, G1 a = some (.lst xs)) ∧ te τ G1 fun y G2 => match y with
    | .ref b => ∃ ys zs, G2 a = some (.lst ys) ∧ G2 b = some (.lst zs) ∧ ys.length + zs.length ≤ 100000 ∧ q .non (updG G2 a (.lst (ys ++ zs)))
    | _ => False
  | _ => False
end
end L2
namespace L2
open PySem PySem.Spec PyProof.Rows
section
variable {prog : Program} {w : World} {A : Around} {E : Value → Shared → Prop} {h : Heap} {g : Array GenState} {d : Drawn} {t : Nat} {os : OsState} {a C : Addr} {o : Obj} {K : PySem.W.Frag} {bm : List Value}
end
section
variable {prog : Program} {w : World} {A : Around} {E : Value → Shared → Prop} {s : Shared} {a C D : Addr} {o : Obj} {K : PySem.W.Frag} {bm : List Value}
end
section
variable {X : Cx} {a : Addr} {oe : Obj} {C D : Addr} {bm : List Value}
noncomputable def wIsn (i : Nat) (a : Addr) : WE := fun τ G q => τ[i]? = some (some (.ref a)) ∧ q (.bl false) G
end
end L2
namespace L2
open PySem PySem.Spec PyProof.Rows
end L2
namespace L2
open PySem PySem.Spec PyProof.Rows
noncomputable def jEnumL (ta : WA) : WI := fun τ G r => ta τ G fun ws G1 => match ws with
  | [.ref a] => ∃ l, G1 a = some (.lst l) ∧ r (enumW 0 l) (fun G => G a = some (.lst l)) G1
  | _ => False
end L2
set_option maxRecDepth 100000
namespace L2
open PySem PySem.Spec PyProof.Rows
section
variable {prog : Program} {w : World} {A : Around} {E : Value → Shared → Prop} {s : Shared} {I l : Addr} {items : Array Value}
end
section
variable {X : Cx}
noncomputable def wTupRvT (te : WE) : WE := fun τ G q => te τ G fun x G1 => match x with
  | .tup ws => q (.tup ws.reverse) G1
  | _ => False
end
end L2
namespace L2
open PySem PySem.Spec PyProof.Rows
section
variable {X : Cx}
noncomputable def rIsA (neg : Bool) : W2 := fun x y G q => match y with
  | .non => q (.bl (neg ^^ isNon x)) G
  | .bl b => match x with
    | .bl a => q (.bl (neg ^^ (a == b))) G
    | _ => False
  | _ => False
end
end L2
set_option maxRecDepth 100000
namespace L2
open PySem PySem.Spec PyProof.Rows
section
variable {X : Cx} {pins : List (Addr × Obj)} {σ : St} {H0 H : Hp} {s0 s : Shared} {a T C D : Addr}
variable {bm bmD : List Value} {x : Str} {p pos : Pos} {name : Option Str} {body : List Stmt} {rest : List ExceptHandler} {b0 : Stmt} {th : WS}
end
end L2
set_option maxRecDepth 100000
namespace L2
open PySem PySem.Spec PyProof.Rows
structure RoomN (k : Nat) (A : Around) : Prop where
  dp : A.depth + 3 * k + 5 < recursionLimit
  un : A.units + 16 * k + 200 < cLine
structure FnN (P : Program) (w : World) (K : PySem.W.Frag) (mg : Str → Option Value) (base : Heap) (CX : CXT) (k : Nat) (f : Addr) (fd : FuncData) (ps : List Str) (sp : Sp) : Prop where
  len : ∀ vs H Q E, sp vs H Q E → vs.length = ps.length
  run : ∀ (A : Around) (outer : List Env) (s : Shared) (H : Hp) (args : Args) (us : List Value) (vs : List V) (Q : VK) (E : XK), RoomN k A → Env0 P w K mg base A outer s H → BindsTo s fd args (ps.zip us) → Vals vs us → sp vs H Q E →
    codeAny (model P w) A (.call (.ref f) args) (CR CX outer P w H s Q E) s
section
variable {X : Cx}
end
end L2
namespace L2
open PySem PySem.Spec PyProof.Rows
section
variable {P : Program} {w : World} {K : PySem.W.Frag} {mg : Str → Option Value} {base : Heap} {k : Nat} {f : Addr} {fd : FuncData} {ps : List Str} {sp sp' : WSp}
end
end L2
set_option maxRecDepth 100000
namespace L2
open PySem PySem.Spec PyProof.Rows
section
variable {K : PySem.W.Frag} {H : Hp}
end
section
variable {X : Cx}
structure Mt (P : Program) (w : World) (K : PySem.W.Frag) (mg : Str → Option Value) (base : Heap) (C : Addr) (m : Str) (ps : List Str) (k : Nat) (sp : WSp) (dws : List W) : Prop where
  ex : ∃ (f : Addr) (fd : FuncData) (ds : List Value) (dvs : List V), Meth K C m f ∧ WFn P w K mg base k f fd ps sp ∧ Binds K fd ps ds ∧ Vals dvs ds ∧ ∀ H, Reps K H dws dvs
  cl : Cls K C
section
variable {P : Program} {w : World} {K : PySem.W.Frag} {mg : Str → Option Value} {base : Heap} {C : Addr} {m qual : Str} {st : Stmt} {ps : List Str} {k : Nat} {sp : WSp} {dws : List W}
end
theorem lnZ {α : Type} {p : List α → Prop} (h : p []) (us : List α) (e : us.length = 0) : p us := by
  rw [List.eq_nil_of_length_eq_zero e]; exact h
theorem lnS {α : Type} {n : Nat} {p : List α → Prop} (h : ∀ a, ∀ us : List α, us.length = n → p (a :: us)) (us : List α) (e : us.length = n + 1) : p us := by
  cases us with
  | nil => exact absurd e (Nat.succ_ne_zero n).symm
  | cons a us => exact h a us (Nat.succ.inj e)
end
end L2
set_option linter.all false
set_option maxRecDepth 100000
namespace L2
open PySem PySem.Spec PyProof.Rows
structure RMt (P : Program) (w : World) (K : PySem.W.Frag) (mg : Str → Option Value) (base : Heap) (C : Addr) (m : Str) (ps : List Str) (k : Nat) (sp : WSp) (dws : List W) : Prop where
  ex : ∃ (f : Addr) (fd : FuncData) (ds : List Value) (dvs : List V), Meth K C m f ∧ RFn P w K mg base k f fd ps sp ∧ Binds K fd ps ds ∧ Vals dvs ds ∧ ∀ H, Reps K H dws dvs
  cl : Cls K C
section
variable {X : Cx} {x : Str} {p pos : Pos}
end
end L2
set_option linter.all false
set_option maxRecDepth 100000
namespace L2
open PySem PySem.Spec PyProof.Rows
section
variable {X : Cx} {p pos : Pos}
end
end L2
set_option linter.all false
set_option maxRecDepth 100000
namespace L2
open PySem PySem.Spec PyProof.Rows
noncomputable def Itw (K : PySem.W.Frag) (a : Addr) (n : Nat) : It :=
  ⟨fun i H => ∃ xs x, SqL K H a xs ∧ xs.length = n ∧ i < n ∧ xs[n - 1 - i]? = some x, fun i H x H' => H' = H ∧ ∀ xs, SqL K H a xs → xs[n - 1 - i]? = some x, fun i H => ∃ xs, SqL K H a xs ∧ xs.length = n ∧ n ≤ i⟩
theorem turn_rl {P : Program} {w : World} {K : PySem.W.Frag} {tg : Expr} (a it : Addr) (n : Nat) : Turn P w K tg (Itw K a n) [it] it (fun i h => i ≤ n ∧ h.IsRevIter it a ((n : Int) - 1 - (i : Int))) where
  mem := by simp
  obj := fun i h st b hb => by
    have e : b = it := by simpa using hb
    subst e
    obtain ⟨_, o, e, c, d⟩ := st
    exact ⟨o, e, fun v z => by rw [d] at z; cases z⟩
  keep := fun i h h' st k => ⟨st.1, st.2.at fun o e => k it (by simp) o e⟩
  item := by
    intro X hP hw hK hc i pins s σ H E I hf st hg
    subst hP hw hK
    obtain ⟨xs, x, hq, hl, hi, hx⟩ := hg
    obtain ⟨its, rv, p, hz⟩ := I.list hq
    obtain ⟨u, hu, ru⟩ := rv.get hx
    obtain ⟨f0, f1, f2, f3, f4, f5⟩ := hf it (by simp)
    have st1 : s.heap.IsRevIter it a ((n - 1 - i : Nat) : Int) := by have := st.2; rw [show (n : Int) - 1 - (i : Int) = ((n - 1 - i : Nat) : Int) by (clear hc I hf st hq hx rv p hz hu ru f0 f1 f2 f3 f4 f5 this; omega)] at this; exact this
    refine wpAny_pyNext_rev_item st1 p.isList (x := u) (by simpa using hu) fun h' st' sb => ?_
    have I1 : Inv X pins σ H { s with heap := h' } := I.turned (t' := s.toks) (fun b o hb e => (sb.2 b hb).trans e) f0 f1 f3 f4 f5
    obtain ⟨o, e, c, d⟩ := id st'
    exact ⟨u, rfl, go_of (s := { s with heap := h' }) e c d (by decide) ⟨x, H, I1, ru, ⟨rfl, fun ys hy => by rw [I.list_inj hy hq]; exact hx⟩, ⟨by assumption, by rw [show (n : Int) - 1 - ((i + 1 : Nat) : Int) = ((n - 1 - i : Nat) : Int) - 1 by (clear hc I hf st hq hx rv p hz hu ru f0 f1 f2 f3 f4 f5 st1 st' sb I1 e c d; omega)]; exact st'⟩, fun b hb => (hf b hb).1⟩⟩
  done := by
    intro X hP hw hK hc i pins s σ H E I hf st hg
    subst hP hw hK
    obtain ⟨xs, hq, hl, hi⟩ := hg
    obtain ⟨f0, f1, f2, f3, f4, f5⟩ := hf it (by simp)
    have st1 : s.heap.IsRevIter it a (-1) := by have := st.2; rw [show (n : Int) - 1 - (i : Int) = -1 by have := st.1; (clear hc I hf hq f0 f1 f2 f3 f4 f5 this; omega)] at this; exact this
    exact wpAny_pyNext_rev_end (I.ok.hd hc) st1 fun h' eb => ⟨rfl, I.turned (t' := s.toks) (fun b o hb e => eb b o hb e) f0 f1 f3 f4 f5⟩
  self := fun _ _ _ _ _ st h => wpAny_pyIter_revIter st.2 h
theorem itn_rl {K : PySem.W.Frag} {a : Addr} {ws : List W} {H : Hp} {n : Nat} (hn : ws.length = n) : Itn K (Itw K a n) ws.reverse (fun G => G a = some (.lst ws)) H where
  stop := fun i H1 G t g eG hl => by
    obtain ⟨_, xs, h1, r⟩ := g a _ eG
    exact ⟨xs, SqL.of h1, by rw [← r.length]; exact hn, by simp at hl; (clear t g eG h1 r; omega)⟩
  go := fun i w H1 G t g eG e => by
    obtain ⟨_, xs, h1, r⟩ := g a _ eG
    have hl := r.length
    have hi : i < ws.length := by
      rcases Nat.lt_or_ge i ws.length with z | z
      · exact z
      · rw [List.getElem?_eq_none (by simpa using z)] at e; cases e
    rw [List.getElem?_reverse hi] at e
    obtain ⟨v, e1, rv⟩ := r.get e
    rw [hn] at e1
    refine ⟨⟨xs, v, SqL.of h1, by (clear t g eG e h1 r hi e1 rv; omega), by (clear t g eG e h1 r e1 rv; omega), e1⟩, fun x H' ⟨eH, hy⟩ => ?_⟩
    subst eH
    have e2 := hy xs (SqL.of h1)
    rw [e1] at e2; cases e2
    exact ⟨TLe.refl _, rv, g⟩
noncomputable def jRevL (ta : WA) : WI := fun τ G r => ta τ G fun ws G1 => match ws with
  | [.ref a] => ∃ xs, G1 a = some (.lst xs) ∧ r xs.reverse (fun G => G a = some (.lst xs)) G1
  | _ => False
theorem qi_revL {X : Cx} {tg a : Expr} {ta : WA} {p pos : Pos} (hg : Gl X "reversed") (hm : X.mg "reversed" = none) (ha : QA X [a] ta) (hs : starEach [a] X.env = [(false, eval a X.env)] := by rfl) :
    QI X tg (.Call (.Name "reversed" p) [a] [] pos) (jRevL ta) := by
  intro pins s σ H R I ⟨τ, G, r, hτ, hG, ht, hR⟩
  refine Call_ (ld_blt I hg hm boot_rv (PyProof.Rows.callWith_type1 (thn (ha pos pins s σ H (fun vs H1 => ∃ ws G1, TLe H H1 ∧ Reps X.K H1 ws vs ∧ RelG X.K H1 G1 ∧ match ws with | [.ref a] => ∃ xs, G1 a = some (.lst xs) ∧ r xs.reverse (fun G => G a = some (.lst xs)) G1 | _ => False) I ⟨τ, G, _, hτ, hG, ht, fun vs H1 ws G1 t1 r1 g1 q1 => ⟨ws, G1, t1, r1, g1, q1⟩⟩) fun us s1 ⟨vs, H1, I1, ru, ws, G1, t1, r1, g1, q1⟩ => ?_) (by rw [hs]; rfl) (by rfl)))
  split at q1
  · rename_i pa
    obtain ⟨ws, eG, q1⟩ := q1
    cases r1 with
    | cons ra rn =>
      cases rn
      cases ra
      cases ru with
      | cons w1 wn =>
        cases wn
        cases (show _ = Value.ref pa from w1)
        obtain ⟨_, xs', h1, rr⟩ := g1 _ _ eG
        obtain ⟨its, rv, p1, hz⟩ := I1.list (SqL.of h1)
        have hl := rv.length
        have hr := rr.length
        refine call_reversed_list p1.isList ?_
        have st0 : (s1.heap.push (revObj pa ((its.toArray.size : Int) - 1))).IsRevIter s1.heap.objs.size pa ((ws.length : Int) - 1 - ((0 : Nat) : Int)) := ⟨_, Heap.get?_push_size _ rfl, rfl, by
          rw [show ((ws.length : Int) - 1 - ((0 : Nat) : Int)) = (its.toArray.size : Int) - 1 by simp; (clear hg hm ha hs I hτ hG ht hR I1 t1 g1 eG q1 w1 h1 rr rv p1 hz; omega)]; rfl⟩
        refine wpAny_pyIter_revIter (s := { s1 with heap := s1.heap.push (revObj pa ((its.toArray.size : Int) - 1)) }) st0 ?_
        refine ⟨s1.heap.objs.size, [s1.heap.objs.size], _, _, H1, rfl, I1.kept (t' := s1.toks) fun b o e => Heap.get?_push_of_some _ e, turn_rl pa _ ws.length, ⟨Nat.zero_le _, st0⟩, fun b hb => ?_, hR _ H1 _ _ G1 t1 g1 (itn_rl rfl) q1⟩
        have e : b = s1.heap.objs.size := by simpa using hb
        subst e
        exact I1.fpOk (Nat.le_refl _) (I1.hok.fresh (Nat.le_refl _))
  · exact q1.elim
end L2
set_option linter.all false
namespace L2
open PySem PySem.Spec PyProof.Rows
section
variable {X : Cx}
end
end L2
namespace Nm
inductive O where
  | z
  | c (e : O) (n : Int) (r : O)
  deriving DecidableEq
namespace O
noncomputable def cmp : O → O → Int
  | z, z => 0
  | z, c _ _ _ => -1
  | c _ _ _, z => 1
  | c e n r, c e' n' r' =>
    if cmp e e' ≠ 0 then cmp e e' else if n < n' then -1 else if n' < n then 1 else cmp r r'
noncomputable def size : O → Nat
  | z => 0
  | c e _ r => 1 + size e + size r
noncomputable def dp : O → Nat
  | z => 0
  | c e _ r => max (dp e + 1) (dp r)
noncomputable def len : O → Nat
  | z => 0
  | c _ _ r => len r + 1
noncomputable def app : O → O → O
  | z, b => b
  | c e n r, b => c e n (app r b)
noncomputable def filt (p : O → Int → Bool) : O → O
  | z => z
  | c e n r => if p e n then c e n (filt p r) else filt p r
noncomputable def same (x : O) : O → Int
  | z => 0
  | c e n r => if e = x then n + same x r else same x r
noncomputable def init : O → O
  | z => z
  | c _ _ z => z
  | c e n r => c e n (init r)
noncomputable def last : O → O
  | z => z
  | c e n z => c e n z
  | c _ _ r => last r
theorem cmp_self : ∀ a : O, cmp a a = 0
  | z => rfl
  | c e n r => by simp [cmp, cmp_self e, cmp_self r]
theorem cmp_eq : ∀ a b : O, cmp a b = 0 → a = b
  | z, z, _ => rfl
  | z, c _ _ _, h => by simp [cmp] at h
  | c _ _ _, z, h => by simp [cmp] at h
  | c e n r, c e' n' r', h => by
    unfold cmp at h
    by_cases he : cmp e e' = 0
    · rw [if_neg (by simpa using he)] at h
      by_cases h1 : n < n'
      · rw [if_pos h1] at h; (clear he h1; omega)
      · rw [if_neg h1] at h
        by_cases h2 : n' < n
        · rw [if_pos h2] at h; (clear he h1 h2; omega)
        · rw [if_neg h2] at h
          have := cmp_eq e e' he
          have := cmp_eq r r' h
          have : n = n' := by (clear h he this; omega)
          subst_vars
          rfl
    · rw [if_pos he] at h; exact absurd h he
theorem cmp_zero {a b : O} : cmp a b = 0 ↔ a = b := ⟨cmp_eq a b, fun h => h ▸ cmp_self a⟩
theorem cmp_range : ∀ a b : O, cmp a b = -1 ∨ cmp a b = 0 ∨ cmp a b = 1
  | z, z => by simp [cmp]
  | z, c _ _ _ => by simp [cmp]
  | c _ _ _, z => by simp [cmp]
  | c e n r, c e' n' r' => by
    have h1 := cmp_range e e'
    have h2 := cmp_range r r'
    unfold cmp
    split
    · exact h1
    · split
      · exact .inl rfl
      · split
        · exact .inr (.inr rfl)
        · exact h2
theorem cmp_swap : ∀ a b : O, cmp b a = - cmp a b
  | z, z => rfl
  | z, c _ _ _ => rfl
  | c _ _ _, z => rfl
  | c e n r, c e' n' r' => by
    have h1 := cmp_swap e e'
    have h2 := cmp_swap r r'
    unfold cmp
    rw [h1, h2]
    by_cases he : cmp e e' = 0
    · rcases Int.lt_trichotomy n n' with k | k | k
      · have k' : ¬ n' < n := by (clear h1 h2 he; omega)
        simp [he, k, k']
      · subst k
        simp [he]
      · have k' : ¬ n < n' := by (clear h1 h2 he; omega)
        simp [he, k, k']
    · have he' : ¬ - cmp e e' = 0 := by (clear h1 h2; omega)
      simp [he, he']
theorem cmp_trans : ∀ a b d : O, cmp a b < 0 → cmp b d < 0 → cmp a d < 0
  | z, z, _, h, _ => by simp [cmp] at h
  | z, c _ _ _, z, _, h => by simp [cmp] at h
  | z, c _ _ _, c _ _ _, _, _ => by simp [cmp]
  | c _ _ _, z, _, h, _ => by simp [cmp] at h
  | c _ _ _, c _ _ _, z, _, h => by simp [cmp] at h
  | c e n r, c e' n' r', c f m t, h1, h2 => by
    have ih1 := cmp_trans e e' f
    have ih2 := cmp_trans r r' t
    have r1 := cmp_range e e'
    have r2 := cmp_range e' f
    unfold cmp at h1 h2 ⊢
    by_cases k1 : cmp e e' = 0
    · have e1 := cmp_eq e e' k1
      subst e1
      rw [if_neg (by (clear ih2 ih1 r1 r2 h1 h2; omega))] at h1
      by_cases k2 : cmp e f = 0
      · rw [if_neg (by (clear ih2 ih1 r1 r2 h1 h2 k1; omega))] at h2 ⊢
        by_cases a1 : n < n'
        · by_cases a2 : n' < m
          · rw [if_pos (by (clear ih2 ih1 r1 r2 h1 h2 k1 k2; omega))]; (clear ih2 ih1 r1 r2 h1 h2 k1 k2 a1 a2; omega)
          · rw [if_neg a2] at h2
            by_cases a3 : m < n'
            · rw [if_pos a3] at h2; (clear ih2 ih1 r1 r2 h1 k1 k2 a1 a2 a3; omega)
            · rw [if_pos (by (clear ih2 ih1 r1 r2 h1 h2 k1 k2; omega))]; (clear ih2 ih1 r1 r2 h1 h2 k1 k2 a1 a2 a3; omega)
        · rw [if_neg a1] at h1
          by_cases a2 : n' < n
          · rw [if_pos a2] at h1; (clear ih2 ih1 r1 r2 h2 k1 k2 a1 a2; omega)
          · rw [if_neg a2] at h1
            by_cases a3 : n' < m
            · rw [if_pos (by (clear ih2 ih1 r1 r2 h1 h2 k1 k2; omega))]; (clear ih2 ih1 r1 r2 h1 h2 k1 k2 a1 a2 a3; omega)
            · rw [if_neg a3] at h2
              by_cases a4 : m < n'
              · rw [if_pos a4] at h2; (clear ih2 ih1 r1 r2 h1 k1 k2 a1 a2 a3 a4; omega)
              · rw [if_neg a4] at h2
                rw [if_neg (by (clear ih2 ih1 r1 r2 h1 h2 k1 k2; omega)), if_neg (by (clear ih2 ih1 r1 r2 h1 h2 k1 k2; omega))]
                exact ih2 h1 h2
      · rw [if_pos k2] at h2 ⊢; exact h2
    · rw [if_pos k1] at h1
      by_cases k2 : cmp e' f = 0
      · have e2 := cmp_eq e' f k2
        subst e2
        rw [if_pos k1]; exact h1
      · rw [if_pos k2] at h2
        have := ih1 h1 h2
        rw [if_pos (by (clear ih1 ih2 r1 r2 h1 h2 k1 k2; omega))]; exact this
noncomputable def Lt (e : O) : O → Prop
  | z => True
  | c x _ r => cmp x e < 0 ∧ Lt e r
noncomputable def NF : O → Prop
  | z => True
  | c e n r => NF e ∧ 1 ≤ n ∧ Lt e r ∧ NF r
theorem Lt.app {e : O} : ∀ {a b : O}, Lt e a → Lt e b → Lt e (app a b)
  | z, _, _, h => h
  | c _ _ _, _, h1, h2 => ⟨h1.1, Lt.app h1.2 h2⟩
theorem Lt.filt {e : O} (p : O → Int → Bool) : ∀ {a : O}, Lt e a → Lt e (O.filt p a)
  | z, _ => trivial
  | c _ _ _, h => by
    unfold O.filt
    split
    · exact ⟨h.1, Lt.filt p h.2⟩
    · exact Lt.filt p h.2
theorem NF.filt (p : O → Int → Bool) : ∀ {a : O}, NF a → NF (O.filt p a)
  | z, _ => trivial
  | c _ _ _, h => by
    unfold O.filt
    split
    · exact ⟨h.1, h.2.1, h.2.2.1.filt p, NF.filt p h.2.2.2⟩
    · exact NF.filt p h.2.2.2
theorem same_nonneg (x : O) : ∀ {a : O}, NF a → 0 ≤ same x a
  | z, _ => by simp [same]
  | c e n r, h => by
    have h1 := h.2.1
    have h2 := same_nonneg x h.2.2.2
    unfold same
    split <;> omega
theorem NF.join {e : O} {n : Int} {b : O} (he : NF e) (hn : 1 ≤ n) (hb : NF b) (hl : Lt e b) (hx : ∀ x, 0 < cmp x e → Lt x b) : ∀ {a : O}, NF a → NF (O.app (O.filt (fun x _ => decide (0 < cmp x e)) a) (c e n b))
  | z, _ => ⟨he, hn, hl, hb⟩
  | c x k r, h => by
    unfold O.filt
    split
    · rename_i hp
      have hp' : 0 < cmp x e := by simpa using hp
      have hs := cmp_swap x e
      exact ⟨h.1, h.2.1, Lt.app (h.2.2.1.filt _) ⟨by (clear he hn hb hl hx h hp; omega), hx x hp'⟩, NF.join he hn hb hl hx h.2.2.2⟩
    · exact NF.join he hn hb hl hx h.2.2.2
end O
end Nm
namespace Nm
namespace O
theorem not_lt_self (a : O) : ¬ cmp a a < 0 := by rw [cmp_self]; omega
theorem same_z (x : O) : same x z = 0 := rfl
theorem same_eq (e : O) (n : Int) (r : O) : same e (c e n r) = n + same e r := by simp [same]
theorem same_ne {x e : O} (h : e ≠ x) (n : Int) (r : O) : same x (c e n r) = same x r := by simp [same, h]
theorem same_of_Lt {e x : O} (hx : ¬ cmp x e < 0) : ∀ {r : O}, Lt e r → same x r = 0
  | z, _ => rfl
  | c y n t, h => by
    have hy : y ≠ x := fun k => hx (k ▸ h.1)
    rw [same_ne hy]
    exact same_of_Lt hx h.2
theorem same_self {e : O} {n : Int} {r : O} (h : Lt e r) : same e (c e n r) = n := by
  rw [same_eq, same_of_Lt (not_lt_self e) h]; (clear h; omega)
theorem same_above {x e : O} {n : Int} {r : O} (h : Lt e r) (hx : 0 < cmp x e) : same x (c e n r) = 0 := by
  have hne : e ≠ x := fun k => by subst k; rw [cmp_self] at hx; (clear h; omega)
  rw [same_ne hne, same_of_Lt (by (clear h hne; omega)) h]
theorem same_ext : ∀ {a b : O}, NF a → NF b → (∀ x, same x a = same x b) → a = b
  | z, z, _, _, _ => rfl
  | z, c e n r, _, hb, h => by
    have := h e
    rw [same_self hb.2.2.1, same_z] at this
    have := hb.2.1
    (clear hb h; omega)
  | c e n r, z, ha, _, h => by
    have := h e
    rw [same_self ha.2.2.1, same_z] at this
    have := ha.2.1
    (clear ha h; omega)
  | c e n r, c e' n' r', ha, hb, h => by
    rcases cmp_range e e' with k | k | k
    · have h1 := h e'
      rw [same_self hb.2.2.1, same_above ha.2.2.1 (by have := cmp_swap e e'; (clear ha hb h h1; omega))] at h1
      have := hb.2.1
      (clear ha hb h k; omega)
    · have k' := cmp_eq _ _ k
      subst k'
      have h1 := h e
      rw [same_self ha.2.2.1, same_self hb.2.2.1] at h1
      subst h1
      have hr : r = r' := same_ext ha.2.2.2 hb.2.2.2 fun x => by
        by_cases hx : e = x
        · subst hx
          rw [same_of_Lt (not_lt_self e) ha.2.2.1, same_of_Lt (not_lt_self e) hb.2.2.1]
        · have := h x
          rw [same_ne hx, same_ne hx] at this
          exact this
      rw [hr]
    · have h1 := h e
      rw [same_self ha.2.2.1, same_above hb.2.2.1 (by (clear ha hb h h1; omega))] at h1
      have := ha.2.1
      (clear ha hb h k; omega)
theorem lt_of_first {x : O} : ∀ {a b : O}, NF a → NF b → same x a < same x b → (∀ y, 0 < cmp y x → same y a = same y b) → cmp a b < 0
  | z, z, _, _, h, _ => by simp [same] at h
  | z, c _ _ _, _, _, _, _ => by simp [cmp]
  | c e n r, z, ha, _, h, _ => by
    have := same_nonneg x ha
    rw [same_z] at h
    (clear ha; omega)
  | c e n r, c e' n' r', ha, hb, h, hy => by
    rcases cmp_range e e' with k | k | k
    · rw [cmp, if_pos (by (clear ha hb h hy; omega))]; (clear ha hb h hy; omega)
    · have k' := cmp_eq _ _ k
      subst k'
      rw [cmp, if_neg (by (clear ha hb h hy; omega))]
      rcases cmp_range x e with q | q | q
      · have hne : e ≠ x := fun z => by subst z; rw [cmp_self] at q; (clear ha hb k h hy; omega)
        have h1 := hy e (by have := cmp_swap x e; (clear ha hb h hy k hne; omega))
        rw [same_self ha.2.2.1, same_self hb.2.2.1] at h1
        subst h1
        rw [if_neg (by (clear ha k q hne hb h hy; omega)), if_neg (by (clear ha k q hne hb h hy; omega))]
        rw [same_ne hne, same_ne hne] at h
        refine lt_of_first ha.2.2.2 hb.2.2.2 h fun y hyx => ?_
        by_cases hye : e = y
        · subst hye
          rw [same_of_Lt (not_lt_self e) ha.2.2.1, same_of_Lt (not_lt_self e) hb.2.2.1]
        · have := hy y hyx
          rw [same_ne hye, same_ne hye] at this
          exact this
      · have q' := cmp_eq _ _ q
        subst q'
        rw [same_self ha.2.2.1, same_self hb.2.2.1] at h
        rw [if_pos h]; (clear ha hb h hy k q; omega)
      · rw [same_above ha.2.2.1 (by (clear ha hb h hy k; omega)), same_above hb.2.2.1 (by (clear ha hb h hy k; omega))] at h
        (clear ha hb hy k q; omega)
    · have hn := ha.2.1
      rcases cmp_range e x with q | q | q
      · have qx : 0 < cmp x e := by have := cmp_swap e x; (clear ha hb h hy k hn; omega)
        have qx' : 0 < cmp x e' := by
          have := cmp_trans e' e x (by have := cmp_swap e e'; (clear ha hb h hy hn q qx; omega)) (by (clear ha hb h hy k hn qx; omega))
          have := cmp_swap e' x
          (clear ha hb h hy k hn q qx; omega)
        rw [same_above ha.2.2.1 qx, same_above hb.2.2.1 qx'] at h
        (clear ha hb hy k hn q qx qx'; omega)
      · have q' := cmp_eq _ _ q
        subst q'
        rw [same_self ha.2.2.1, same_above hb.2.2.1 (by (clear ha hb hn h hy q; omega))] at h
        (clear ha hb k hy q; omega)
      · have h1 := hy e (by (clear ha hb h hy k hn; omega))
        rw [same_self ha.2.2.1, same_above hb.2.2.1 (by (clear ha hb h hy hn q h1; omega))] at h1
        (clear ha hb h hy k q; omega)
theorem first_of_lt : ∀ {a b : O}, NF a → NF b → cmp a b < 0 → ∃ x, same x a < same x b ∧ ∀ y, 0 < cmp y x → same y a = same y b
  | z, z, _, _, h => by simp [cmp] at h
  | z, c e n r, _, hb, _ => by
    refine ⟨e, ?_, fun y hy => ?_⟩
    · rw [same_self hb.2.2.1, same_z]; have := hb.2.1; assumption
    · rw [same_above hb.2.2.1 hy, same_z]
  | c _ _ _, z, _, _, h => by simp [cmp] at h
  | c e n r, c e' n' r', ha, hb, h => by
    rcases cmp_range e e' with k | k | k
    · refine ⟨e', ?_, fun y hy => ?_⟩
      · rw [same_self hb.2.2.1, same_above ha.2.2.1 (by have := cmp_swap e e'; (clear ha hb h; omega))]; have := hb.2.1; assumption
      · have hy2 : 0 < cmp y e := by
          have := cmp_trans e e' y (by (clear ha hb h hy; omega)) (by have := cmp_swap y e'; (clear ha hb h k; omega))
          have := cmp_swap e y
          (clear ha hb h k hy; omega)
        rw [same_above hb.2.2.1 hy, same_above ha.2.2.1 hy2]
    · have k' := cmp_eq _ _ k
      subst k'
      rw [cmp, if_neg (by (clear ha hb h; omega))] at h
      by_cases h1 : n < n'
      · refine ⟨e, ?_, fun y hy => ?_⟩
        · rw [same_self ha.2.2.1, same_self hb.2.2.1]; exact h1
        · rw [same_above hb.2.2.1 hy, same_above ha.2.2.1 hy]
      · rw [if_neg h1] at h
        by_cases h2 : n' < n
        · rw [if_pos h2] at h; (clear ha hb k h1 h2; omega)
        · rw [if_neg h2] at h
          have hn : n = n' := by (clear ha hb h k; omega)
          subst hn
          obtain ⟨x, hx, hy⟩ := first_of_lt ha.2.2.2 hb.2.2.2 h
          have hxe : cmp x e < 0 := by
            refine Classical.byContradiction fun q => ?_
            rw [same_of_Lt q ha.2.2.1, same_of_Lt q hb.2.2.1] at hx
            (clear ha h k hb h1 h2 hy q; omega)
          have hne : e ≠ x := fun z => by subst z; rw [cmp_self] at hxe; (clear ha h k hb h1 h2 hx hy; omega)
          refine ⟨x, by rw [same_ne hne, same_ne hne]; exact hx, fun y hyx => ?_⟩
          by_cases hye : e = y
          · subst hye
            rw [same_self ha.2.2.1, same_self hb.2.2.1]
          · rw [same_ne hye, same_ne hye]; exact hy y hyx
    · rw [cmp, if_pos (by (clear ha hb h; omega))] at h; (clear ha hb; omega)
theorem le_of_same {a b : O} (ha : NF a) (hb : NF b) (h : ∀ x, same x a ≤ same x b) : cmp a b ≤ 0 := by
  rcases cmp_range a b with k | k | k
  · (clear ha hb h; omega)
  · (clear ha hb h; omega)
  · have hs := cmp_swap a b
    obtain ⟨x, hx, _⟩ := first_of_lt hb ha (by (clear ha hb h; omega))
    have := h x
    (clear ha hb h k hs; omega)
noncomputable def plusO : O → O → O
  | a, z => a
  | a, c e n r => app (filt (fun x _ => decide (0 < cmp x e)) a) (c e (same e a + n) r)
theorem same_app : ∀ (x a b : O), same x (app a b) = same x a + same x b
  | x, z, b => by simp [app, same]
  | x, c e n r, b => by
    have := same_app x r b
    show same x (c e n (app r b)) = _
    by_cases h : e = x
    · subst h; rw [same_eq, same_eq, this]; (clear this; omega)
    · rw [same_ne h, same_ne h, this]
theorem same_filt (p : O → Bool) : ∀ (x a : O), same x (filt (fun y _ => p y) a) = if p x then same x a else 0
  | x, z => by simp [filt, same]
  | x, c e n r => by
    have ih := same_filt p x r
    unfold filt
    by_cases hp : p e = true
    · rw [if_pos hp]
      by_cases h : e = x
      · subst h; rw [same_eq, same_eq, ih, if_pos hp, if_pos hp]
      · rw [same_ne h, same_ne h, ih]
    · rw [if_neg hp, ih]
      by_cases h : e = x
      · subst h; rw [if_neg hp, if_neg hp]
      · rw [same_ne h]
theorem NF.join' {e : O} {n : Int} {b : O} (he : NF e) (hn : 1 ≤ n) (hb : NF b) (hl : Lt e b) {a : O} (ha : NF a) : NF (O.app (O.filt (fun x _ => decide (0 < cmp x e)) a) (c e n b)) := by
  refine NF.join he hn hb hl (fun x hx => ?_) ha
  have : ∀ {b : O}, Lt e b → Lt x b := by
    intro b
    induction b with
    | z => exact fun _ => trivial
    | c y m t _ ih => exact fun h => ⟨cmp_trans y e x h.1 (by have := cmp_swap x e; (clear he hn hb hl ha ih h; omega)), ih h.2⟩
  exact this hl
theorem NF.plus {a b : O} (ha : NF a) (hb : NF b) : NF (plusO a b) := by
  cases b with
  | z => exact ha
  | c e n r =>
    have := same_nonneg e ha
    exact NF.join' hb.1 (by have := hb.2.1; (clear ha hb; omega)) hb.2.2.2 hb.2.2.1 ha
theorem same_plus {a e : O} {n : Int} {r : O} (hr : Lt e r) (x : O) : same x (plusO a (c e n r)) = if 0 < cmp x e then same x a else if cmp x e < 0 then same x (c e n r) else same x a + same x (c e n r) := by
  show same x (app _ _) = _
  rw [same_app, same_filt (fun y => decide (0 < cmp y e))]
  by_cases h1 : 0 < cmp x e
  · rw [if_pos (by simpa using h1), if_pos h1, same_above hr h1]; (clear hr h1; omega)
  · rw [if_neg (by simpa using h1), if_neg h1]
    by_cases h2 : cmp x e < 0
    · have hne : e ≠ x := fun z => by subst z; rw [cmp_self] at h2; (clear hr h1; omega)
      rw [if_pos h2, same_ne hne, same_ne hne]; (clear hr h1 h2 hne; omega)
    · have : cmp x e = 0 := by (clear hr; omega)
      have h3 := cmp_eq _ _ this
      subst h3
      rw [if_neg h2, same_self hr, same_self hr]; (clear hr h1 h2 this; omega)
end O
end Nm
namespace Nm
namespace O
noncomputable def Cov (b y : O) : Prop := ∃ w, cmp y w < 0 ∧ same w b ≠ 0
theorem cov_z (y : O) : ¬ Cov z y := fun ⟨_, _, h⟩ => h rfl
theorem cov_c {e : O} {n : Int} {r y : O} (hn : 1 ≤ n) (hr : Lt e r) : Cov (c e n r) y ↔ cmp y e < 0 := by
  constructor
  · rintro ⟨w, hw, hs⟩
    have : ¬ 0 < cmp w e := fun k => hs (same_above hr k)
    rcases cmp_range w e with k | k | k
    · exact cmp_trans y w e hw (by (clear hn hr hw hs this; omega))
    · rw [cmp_eq _ _ k] at hw; exact hw
    · (clear hn hr hw hs; omega)
  · intro h
    exact ⟨e, h, by rw [same_self hr]; (clear hr h; omega)⟩
theorem same_plus_cov {a b y : O} (hb : NF b) (h : Cov b y) : same y (plusO a b) = same y b := by
  cases b with
  | z => exact absurd h (cov_z y)
  | c e n r =>
    have h' := (cov_c hb.2.1 hb.2.2.1).mp h
    rw [same_plus hb.2.2.1, if_neg (by (clear hb h; omega)), if_pos h']
theorem same_plus_bare {a b y : O} (hb : NF b) (h : ¬ Cov b y) : same y (plusO a b) = same y b + same y a := by
  cases b with
  | z => show same y a = 0 + same y a; (clear hb h; omega)
  | c e n r =>
    have h' : ¬ cmp y e < 0 := fun k => h ((cov_c hb.2.1 hb.2.2.1).mpr k)
    rw [same_plus hb.2.2.1]
    by_cases k : 0 < cmp y e
    · rw [if_pos k, same_above hb.2.2.1 k]; (clear hb h h' k; omega)
    · rw [if_neg k, if_neg h']; (clear hb h h' k; omega)
theorem cov_plus {b d y : O} (hb : NF b) (hd : NF d) : Cov (plusO b d) y ↔ Cov b y ∨ Cov d y := by
  constructor
  · rintro ⟨w, hw, hs⟩
    by_cases k : Cov d w
    · rw [same_plus_cov hd k] at hs
      exact .inr ⟨w, hw, hs⟩
    · rw [same_plus_bare hd k] at hs
      by_cases q : same w d = 0
      · exact .inl ⟨w, hw, by (clear hb hd hw k; omega)⟩
      · exact .inr ⟨w, hw, q⟩
  · have right : Cov d y → Cov (plusO b d) y := by
      rintro ⟨w, hw, hs⟩
      refine ⟨w, hw, ?_⟩
      by_cases k : Cov d w
      · rw [same_plus_cov hd k]; exact hs
      · rw [same_plus_bare hd k]
        have := same_nonneg w hb
        have := same_nonneg w hd
        (clear hb hd hw k; omega)
    rintro (⟨w, hw, hs⟩ | h)
    · by_cases k : Cov d w
      · obtain ⟨v, hv, hs'⟩ := k
        exact right ⟨v, cmp_trans _ _ _ hw hv, hs'⟩
      · refine ⟨w, hw, ?_⟩
        rw [same_plus_bare hd k]
        have := same_nonneg w hb
        have := same_nonneg w hd
        (clear hb hd right hw k; omega)
    · exact right h
theorem plus_assoc {a b d : O} (ha : NF a) (hb : NF b) (hd : NF d) : plusO (plusO a b) d = plusO a (plusO b d) := by
  refine same_ext ((ha.plus hb).plus hd) (ha.plus (hb.plus hd)) fun y => ?_
  by_cases k : Cov d y
  · rw [same_plus_cov hd k, same_plus_cov (hb.plus hd) ((cov_plus hb hd).mpr (.inr k)), same_plus_cov hd k]
  · rw [same_plus_bare hd k]
    by_cases q : Cov b y
    · rw [same_plus_cov hb q, same_plus_cov (hb.plus hd) ((cov_plus hb hd).mpr (.inl q)), same_plus_bare hd k]
    · rw [same_plus_bare hb q, same_plus_bare (hb.plus hd) (fun z => ((cov_plus hb hd).mp z).elim q k), same_plus_bare hd k]
      (clear ha hb hd k q; omega)
theorem cov_alike {b d x y : O} (h : ∀ y, 0 < cmp y x → same y b = same y d) (hy : ¬ cmp y x < 0) : Cov b y ↔ Cov d y := by
  have go : ∀ w, cmp y w < 0 → 0 < cmp w x := fun w hw => by
    have hs := cmp_swap w x
    rcases cmp_range y x with k | k | k
    · (clear h hw hs; omega)
    · rw [cmp_eq _ _ k] at hw; (clear h hy k; omega)
    · have h3 := cmp_trans x y w (by have := cmp_swap y x; (clear h hy hw hs; omega)) hw
      (clear h hy hw k; omega)
  constructor
  · rintro ⟨w, hw, hs⟩
    exact ⟨w, hw, by rw [← h w (go w hw)]; exact hs⟩
  · rintro ⟨w, hw, hs⟩
    exact ⟨w, hw, by rw [h w (go w hw)]; exact hs⟩
theorem plus_lt {a b d : O} (ha : NF a) (hb : NF b) (hd : NF d) (h : cmp b d < 0) : cmp (plusO a b) (plusO a d) < 0 := by
  obtain ⟨x, hx, hy⟩ := first_of_lt hb hd h
  refine lt_of_first (x := x) (ha.plus hb) (ha.plus hd) ?_ fun y hyx => ?_
  · have q := cov_alike hy (not_lt_self x)
    by_cases k : Cov b x
    · rw [same_plus_cov hb k, same_plus_cov hd (q.mp k)]; exact hx
    · rw [same_plus_bare hb k, same_plus_bare hd (fun z => k (q.mpr z))]; (clear ha hb hd h hy q k; omega)
  · have q := cov_alike (y := y) hy (by (clear ha hb hd h hx hy; omega))
    by_cases k : Cov b y
    · rw [same_plus_cov hb k, same_plus_cov hd (q.mp k)]; exact hy y hyx
    · rw [same_plus_bare hb k, same_plus_bare hd (fun z => k (q.mpr z)), hy y hyx]
theorem cmp_of_lt {f : O → O} {b d : O} (h1 : cmp b d < 0 → cmp (f b) (f d) < 0) (h2 : cmp d b < 0 → cmp (f d) (f b) < 0) : cmp (f b) (f d) = cmp b d := by
  rcases cmp_range b d with k | k | k
  · have := h1 (by (clear h1 h2; omega))
    rcases cmp_range (f b) (f d) with q | q | q <;> (clear h1 h2; omega)
  · rw [cmp_eq _ _ k, cmp_self, cmp_self]
  · have := h2 (by have := cmp_swap b d; (clear h1 h2; omega))
    have := cmp_swap (f d) (f b)
    rcases cmp_range (f b) (f d) with q | q | q <;> (clear h1 h2; omega)
theorem cmp_plus {a b d : O} (ha : NF a) (hb : NF b) (hd : NF d) : cmp (plusO a b) (plusO a d) = cmp b d := cmp_of_lt (plus_lt ha hb hd) (plus_lt ha hd hb)
theorem plus_left {a b d : O} (ha : NF a) (hb : NF b) (hd : NF d) (h : cmp b d < 0) : cmp (plusO b a) (plusO d a) = -1 ∨ cmp (plusO b a) (plusO d a) = 0 := by
  obtain ⟨x, hx, hy⟩ := first_of_lt hb hd h
  by_cases k : Cov a x
  · refine .inr (cmp_zero.mpr (same_ext (hb.plus ha) (hd.plus ha) fun y => ?_))
    by_cases q : Cov a y
    · rw [same_plus_cov ha q, same_plus_cov ha q]
    · obtain ⟨w, hw, hs⟩ := k
      have hyx : 0 < cmp y x := by
        have hs2 := cmp_swap y x
        have h3 : ¬ cmp y w < 0 := fun z => q ⟨w, z, hs⟩
        rcases cmp_range y w with r | r | r
        · (clear ha hb hd h hx hy q hw hs hs2; omega)
        · rw [cmp_eq _ _ r] at hs2 ⊢; (clear ha hb hd h hx hy q hs h3 r; omega)
        · have h4 := cmp_trans x w y hw (by have := cmp_swap y w; (clear ha hb hd h hx hy q hw hs hs2 h3; omega))
          (clear ha hb hd h hx hy q hw hs h3 r; omega)
      rw [same_plus_bare ha q, same_plus_bare ha q, hy y hyx]
  · refine .inl ?_
    have : cmp (plusO b a) (plusO d a) < 0 := by
      refine lt_of_first (x := x) (hb.plus ha) (hd.plus ha) (by rw [same_plus_bare ha k, same_plus_bare ha k]; (clear ha hb hd h hy k; omega)) fun y hyx => ?_
      by_cases q : Cov a y
      · rw [same_plus_cov ha q, same_plus_cov ha q]
      · rw [same_plus_bare ha q, same_plus_bare ha q, hy y hyx]
    rcases cmp_range (plusO b a) (plusO d a) with r | r | r <;> omega
theorem cmp_plus_left {a b d : O} (ha : NF a) (hb : NF b) (hd : NF d) : cmp (plusO b a) (plusO d a) = cmp b d ∨ cmp (plusO b a) (plusO d a) = 0 := by
  rcases cmp_range b d with k | k | k
  · rcases plus_left ha hb hd (by (clear ha hb hd; omega)) with h | h
    · exact .inl (by (clear ha hb hd; omega))
    · exact .inr h
  · rw [cmp_eq _ _ k, cmp_self, cmp_self]; exact .inl rfl
  · have hs := cmp_swap (plusO b a) (plusO d a)
    rcases plus_left ha hd hb (by have := cmp_swap b d; (clear ha hb hd hs; omega)) with h | h
    · exact .inl (by (clear ha hb hd; omega))
    · exact .inr (by (clear ha hb hd k; omega))
noncomputable def mergeO : O → O → O
  | z, b => b
  | c e n r, z => c e n r
  | c e n r, c e' n' r' => if 0 < cmp e e' then c e n (mergeO r (c e' n' r')) else if cmp e e' < 0 then c e' n' (mergeO (c e n r) r') else c e (n + n') (mergeO r r')
termination_by a b => a.len + b.len
decreasing_by all_goals (simp only [len]; omega)
theorem Lt.mono {e f : O} (h : cmp e f < 0) : ∀ {r : O}, Lt e r → Lt f r
  | z, _ => trivial
  | c _ _ _, k => ⟨cmp_trans _ _ _ k.1 h, Lt.mono h k.2⟩
end O
end Nm
namespace Nm
namespace O
noncomputable def getP : O → Nat → Option (O × Int)
  | z, _ => none
  | c e n _, 0 => some (e, n)
  | c _ _ r, i + 1 => getP r i
noncomputable def dropO : Nat → O → O
  | 0, a => a
  | _ + 1, z => z
  | i + 1, c _ _ r => dropO i r
theorem getP_none : ∀ {a : O} {i : Nat}, getP a i = none ↔ a.len ≤ i
  | z, i => by simp [getP, len]
  | c e n r, 0 => by simp [getP, len]
  | c e n r, i + 1 => by
    have := getP_none (a := r) (i := i)
    simp only [getP, len, this]; (clear this; omega)
theorem getP_some {a : O} {i : Nat} (h : i < a.len) : ∃ e n, getP a i = some (e, n) := by
  cases k : getP a i with
  | none => rw [getP_none] at k; omega
  | some p => exact ⟨p.1, p.2, rfl⟩
theorem dropO_get : ∀ {a : O} {i : Nat} {e : O} {n : Int}, getP a i = some (e, n) → dropO i a = c e n (dropO (i + 1) a)
  | z, _, _, _, h => by simp [getP] at h
  | c e n r, 0, _, _, h => by simp [getP] at h; obtain ⟨rfl, rfl⟩ := h; simp [dropO]
  | c e n r, i + 1, x, m, h => by
    have := dropO_get (a := r) (i := i) (e := x) (n := m) (by simpa [getP] using h)
    simpa [dropO] using this
theorem dropO_len : ∀ {a : O} {i : Nat}, a.len ≤ i → dropO i a = z
  | z, 0, _ => rfl
  | z, _ + 1, _ => rfl
  | c e n r, 0, h => by simp only [len] at h; omega
  | c e n r, i + 1, h => by
    simp only [len] at h
    exact dropO_len (a := r) (i := i) (by omega)
theorem len_dropO : ∀ (i : Nat) (a : O), (dropO i a).len = a.len - i
  | 0, a => rfl
  | _ + 1, z => by simp [dropO, len]
  | i + 1, c e n r => by
    have := len_dropO i r
    simp only [dropO, len, this]; omega
theorem getP_size : ∀ {a : O} {i : Nat} {e : O} {n : Int}, getP a i = some (e, n) → e.size < a.size ∧ e.dp < a.dp
  | z, _, _, _, h => by simp [getP] at h
  | c e n r, 0, _, _, h => by simp [getP] at h; obtain ⟨rfl, rfl⟩ := h; simp only [size, dp]; omega
  | c e n r, i + 1, x, m, h => by
    have := getP_size (a := r) (i := i) (e := x) (n := m) (by simpa [getP] using h)
    simp only [size, dp]; (clear h; omega)
theorem getP_NF : ∀ {a : O} {i : Nat} {e : O} {n : Int}, NF a → getP a i = some (e, n) → NF e ∧ 1 ≤ n
  | z, _, _, _, _, h => by simp [getP] at h
  | c e n r, 0, _, _, ha, h => by simp [getP] at h; obtain ⟨rfl, rfl⟩ := h; exact ⟨ha.1, ha.2.1⟩
  | c e n r, i + 1, x, m, ha, h => getP_NF (a := r) (i := i) ha.2.2.2 (by simpa [getP] using h)
theorem NF.drop : ∀ {i : Nat} {a : O}, NF a → NF (dropO i a)
  | 0, _, h => h
  | _ + 1, z, _ => trivial
  | i + 1, c _ _ _, h => NF.drop (i := i) h.2.2.2
noncomputable def stay (e a : O) : Nat := (filt (fun x _ => decide (0 < cmp x e)) a).len
theorem filt_above_z {y e : O} (h : ¬ 0 < cmp y e) : ∀ {r : O}, Lt y r → filt (fun x _ => decide (0 < cmp x e)) r = z
  | z, _ => rfl
  | c x n t, k => by
    have hx : ¬ 0 < cmp x e := fun q => by
      have h1 := cmp_swap x e
      have h2 := cmp_trans e x y (by (clear h k; omega)) k.1
      have h3 := cmp_swap e y
      (clear k q h1; omega)
    unfold filt
    rw [if_neg (by simpa using hx)]
    exact filt_above_z h k.2
theorem filt_c (p : O → Int → Bool) (e : O) (n : Int) (r : O) : filt p (c e n r) = if p e n then c e n (filt p r) else filt p r := rfl
theorem stay_c_pos {e y : O} {n : Int} {r : O} (h : 0 < cmp y e) : stay e (c y n r) = stay e r + 1 := by
  unfold stay
  rw [filt_c, if_pos (by simpa using h)]
  rfl
theorem stay_c_neg {e y : O} {n : Int} {r : O} (h : ¬ 0 < cmp y e) (hr : Lt y r) : stay e (c y n r) = 0 := by
  unfold stay
  rw [filt_c, if_neg (by simpa using h), filt_above_z h hr]
  rfl
theorem stay_le {e : O} : ∀ {a : O}, stay e a ≤ a.len
  | z => Nat.le_refl _
  | c y n r => by
    have := stay_le (e := e) (a := r)
    unfold stay at this ⊢
    unfold filt
    split <;> simp only [len] <;> omega
theorem above_iff {e : O} : ∀ {a : O} {i : Nat} {x : O} {n : Int}, NF a → getP a i = some (x, n) → (0 < cmp x e ↔ i < stay e a)
  | z, _, _, _, _, h => by simp [getP] at h
  | c y m r, 0, x, n, ha, h => by
    simp [getP] at h
    obtain ⟨rfl, rfl⟩ := h
    by_cases k : 0 < cmp y e
    · rw [stay_c_pos k]; exact ⟨fun _ => by (clear ha k; omega), fun _ => k⟩
    · rw [stay_c_neg k ha.2.2.1]; exact ⟨fun q => absurd q k, fun q => by (clear ha k; omega)⟩
  | c y m r, i + 1, x, n, ha, h => by
    have h' : getP r i = some (x, n) := by simpa [getP] using h
    have ih := above_iff (e := e) ha.2.2.2 h'
    by_cases k : 0 < cmp y e
    · rw [stay_c_pos k, ih]; (clear ha h h' ih k; omega)
    · rw [stay_c_neg k ha.2.2.1]
      constructor
      · intro q
        have z0 : stay e r = 0 := by unfold stay; rw [filt_above_z k ha.2.2.1]; rfl
        have := ih.mp q
        (clear ha h h' ih k q; omega)
      · intro q; (clear ha h h' ih k; omega)
theorem same_stay {e : O} : ∀ {a : O}, NF a → same e a = match getP a (stay e a) with | some (x, m) => if x = e then m else 0 | none => 0
  | z, _ => rfl
  | c y n r, ha => by
    by_cases k : 0 < cmp y e
    · have hne : y ≠ e := fun q => by subst q; rw [cmp_self] at k; (clear ha; omega)
      rw [stay_c_pos k, same_ne hne, same_stay ha.2.2.2]
      rfl
    · rw [stay_c_neg k ha.2.2.1]
      show _ = if y = e then n else 0
      by_cases q : y = e
      · subst q
        rw [if_pos rfl, same_self ha.2.2.1]
      · rw [if_neg q, same_ne q]
        refine same_of_Lt (fun hl => ?_) ha.2.2.1
        have h1 := cmp_swap e y
        (clear ha q; omega)
noncomputable def takeO : Nat → O → O
  | 0, _ => z
  | _ + 1, z => z
  | i + 1, c e n r => c e n (takeO i r)
theorem take_stay {e : O} : ∀ {a : O}, NF a → takeO (stay e a) a = filt (fun x _ => decide (0 < cmp x e)) a
  | z, _ => rfl
  | c y n r, ha => by
    by_cases k : 0 < cmp y e
    · rw [stay_c_pos k, filt_c, if_pos (by simpa using k), takeO, take_stay ha.2.2.2]
    · rw [stay_c_neg k ha.2.2.1, filt_c, if_neg (by simpa using k), filt_above_z k ha.2.2.1]
      rfl
end O
end Nm
namespace Nm
namespace O
noncomputable def mx : O → Int
  | z => 0
  | c e n r => max n (max (mx e) (mx r))
theorem mx_c (e : O) (n : Int) (r : O) : mx (c e n r) = max n (max (mx e) (mx r)) := rfl
theorem mx_nonneg : ∀ a : O, 0 ≤ mx a
  | z => Int.le_refl _
  | c e n r => by have := mx_nonneg r; rw [mx_c]; omega
theorem mx_app : ∀ a b : O, mx (app a b) = max (mx a) (mx b)
  | z, b => by have := mx_nonneg b; show mx b = max 0 (mx b); omega
  | c e n r, b => by
    show mx (c e n (app r b)) = _
    rw [mx_c, mx_app r b, mx_c, Int.max_assoc, Int.max_assoc]
theorem mx_filt (p : O → Int → Bool) : ∀ a : O, mx (filt p a) ≤ mx a
  | z => Int.le_refl _
  | c e n r => by
    have := mx_filt p r
    rw [filt_c]
    split
    · rw [mx_c, mx_c]; omega
    · rw [mx_c]; omega
theorem same_le_mx (x : O) : ∀ {a : O}, NF a → same x a ≤ mx a
  | z, _ => Int.le_refl _
  | c e n r, h => by
    have h1 := same_le_mx x h.2.2.2
    rw [mx_c]
    by_cases k : e = x
    · subst k
      rw [same_self h.2.2.1]; (clear h h1; omega)
    · rw [same_ne k]; (clear h k; omega)
theorem dp_app : ∀ a b : O, dp (app a b) = max (dp a) (dp b)
  | z, b => by show dp b = max 0 (dp b); omega
  | c e n r, b => by
    show dp (c e n (app r b)) = _
    simp only [dp, dp_app r b]; rw [Nat.max_assoc]
theorem dp_filt (p : O → Int → Bool) : ∀ a : O, dp (filt p a) ≤ dp a
  | z => Nat.le_refl _
  | c e n r => by
    have := dp_filt p r
    rw [filt_c]
    split <;> simp only [dp] <;> omega
theorem dp_plus (a b : O) : dp (plusO a b) ≤ max (dp a) (dp b) := by
  cases b with
  | z => show dp a ≤ _; omega
  | c e n r =>
    show dp (app _ _) ≤ _
    rw [dp_app]
    have := dp_filt (fun x _ => decide (0 < cmp x e)) a
    simp only [dp]
    omega
structure Good (B : Int) (o : O) : Prop where
  nf : NF o
  sz : o.size ≤ 24
  mx : O.mx o ≤ B
end O
end Nm
namespace Nm
namespace O
theorem z_plus : ∀ a : O, plusO z a = a
  | z => rfl
  | c e n r => by
    simp [plusO, filt, app, same]
theorem plus_z (a : O) : plusO a z = a := rfl
theorem plus_c (a e : O) (n : Int) (r : O) : plusO a (c e n r) = app (filt (fun x _ => decide (0 < cmp x e)) a) (c e (same e a + n) r) := rfl
noncomputable def minusO : O → O → O
  | a, z => a
  | z, _ => z
  | c e n r, c e' n' r' => if e = e' then (if n = n' then minusO r r' else c e (n - n') r) else c e n r
theorem minus_z (a : O) : minusO a z = a := by cases a <;> rfl
theorem Lt.minus {g : O} : ∀ {a b : O}, Lt g a → Lt g (minusO a b)
  | a, z, h => by rw [minus_z]; exact h
  | z, c _ _ _, h => h
  | c e n r, c e' n' r', h => by
    unfold minusO
    split
    · split
      · exact Lt.minus h.2
      · exact h
    · exact h
theorem NF.minus : ∀ {a b : O}, NF a → cmp b a ≤ 0 → NF (minusO a b)
  | a, z, h, _ => by rw [minus_z]; exact h
  | z, c _ _ _, h, _ => h
  | c e n r, c e' n' r', h, k => by
    unfold minusO
    split
    · rename_i q
      subst q
      rw [cmp, if_neg (by rw [cmp_self]; simp)] at k
      split
      · rename_i q2
        subst q2
        rw [if_neg (by (clear h k; omega)), if_neg (by (clear h k; omega))] at k
        exact NF.minus h.2.2.2 k
      · rename_i q2
        have : n' < n := by
          rcases Int.lt_trichotomy n' n with j | j | j
          · exact j
          · exact absurd j.symm q2
          · rw [if_neg (by (clear h k q2; omega)), if_pos j] at k; (clear h q2 j; omega)
        exact ⟨h.1, by (clear h k q2; omega), h.2.2.1, h.2.2.2⟩
    · exact h
theorem filt_self_z {e : O} {n : Int} {r : O} (hr : Lt e r) {f : O} (h : cmp e f ≤ 0) : filt (fun x _ => decide (0 < cmp x f)) (c e n r) = z := by
  rw [filt_c, if_neg (by simp; assumption), filt_above_z (by (clear hr; omega)) hr]
theorem plus_minus : ∀ {a b : O}, NF a → NF b → cmp b a ≤ 0 → plusO b (minusO a b) = a
  | a, z, _, _, _ => by rw [minus_z, z_plus]
  | z, c _ _ _, _, _, h => by simp [cmp] at h
  | c e n r, c e' n' r', ha, hb, h => by
    unfold minusO
    by_cases q : e = e'
    · subst q
      rw [cmp, if_neg (by rw [cmp_self]; simp)] at h
      rw [if_pos rfl]
      by_cases q2 : n = n'
      · subst q2
        rw [if_neg (by (clear ha hb h; omega)), if_neg (by (clear ha hb h; omega))] at h
        rw [if_pos rfl]
        have ih := plus_minus ha.2.2.2 hb.2.2.2 h
        have hl : Lt e (minusO r r') := ha.2.2.1.minus
        cases k : minusO r r' with
        | z =>
          rw [k, plus_z] at ih
          rw [plus_z, ih]
        | c f m t =>
          rw [k] at ih hl
          have hf : 0 < cmp e f := by have := cmp_swap e f; have := hl.1; (clear ha hb h hl ih k; omega)
          have hne : e ≠ f := fun z => by subst z; rw [cmp_self] at hf; (clear ha hb h hl ih k; omega)
          rw [plus_c] at ih ⊢
          rw [filt_c, if_pos (by simpa using hf), same_ne hne]
          show c e n (app _ _) = _
          rw [ih]
      · rw [if_neg q2]
        have hlt : n' < n := by
          rcases Int.lt_trichotomy n' n with j | j | j
          · exact j
          · exact absurd j.symm q2
          · rw [if_neg (by (clear ha hb h q2; omega)), if_pos j] at h; (clear ha hb q2 j; omega)
        rw [plus_c, filt_self_z hb.2.2.1 (by rw [cmp_self]; (clear ha hb h q2 hlt; omega)), same_self hb.2.2.1]
        show c e (n' + (n - n')) r = _
        have e1 : n' + (n - n') = n := by (clear ha hb h q2 hlt; omega)
        rw [e1]
    · rw [if_neg q]
      have hk : cmp e' e < 0 := by
        rcases cmp_range e' e with j | j | j
        · (clear ha hb h q; omega)
        · exact absurd (cmp_eq _ _ j).symm q
        · rw [cmp, if_pos (by (clear ha hb h q; omega))] at h; (clear ha hb q; omega)
      rw [plus_c, filt_self_z hb.2.2.1 (by (clear ha hb h q; omega)), same_above hb.2.2.1 (by have := cmp_swap e' e; (clear ha hb h q; omega))]
      show c e (0 + n) r = _
      rw [Int.zero_add]
theorem plus_inj {a b d : O} (ha : NF a) (hb : NF b) (hd : NF d) (h : plusO a b = plusO a d) : b = d := by
  have := cmp_plus ha hb hd
  rw [h, cmp_self] at this
  exact cmp_eq _ _ this.symm
theorem z_lt {a : O} (h : a ≠ z) : cmp z a < 0 := by
  cases a with
  | z => exact absurd rfl h
  | c _ _ _ => simp [cmp]
theorem lt_plus {e f : O} (he : NF e) (hf : NF f) (h : f ≠ z) : cmp e (plusO e f) < 0 := by
  have := cmp_plus (b := z) he trivial hf
  rw [plus_z] at this
  have := z_lt h
  (clear he hf h; omega)
noncomputable def mulP (e : O) (n : Int) (r : O) : O → O
  | z => z
  | c f d t => if f = z then c e (n * d) r else c (plusO e f) d (mulP e n r t)
noncomputable def timesO : O → O → O
  | z, _ => z
  | c e n r, b => mulP e n r b
theorem mulP_c (e : O) (n : Int) (r f : O) (d : Int) (t : O) : mulP e n r (c f d t) = if f = z then c e (n * d) r else c (plusO e f) d (mulP e n r t) := rfl
theorem times_z (a : O) : timesO a z = z := by cases a <;> rfl
theorem mulP_Lt {e : O} {n : Int} {r : O} (he : NF e) (hr : Lt e r) {f : O} (hf : NF f) (h0 : f ≠ z) : ∀ {t : O}, NF t → Lt f t → Lt (plusO e f) (mulP e n r t)
  | z, _, _ => trivial
  | c g d u, ht, hl => by
    rw [mulP_c]
    split
    · exact ⟨lt_plus he hf h0, hr.mono (lt_plus he hf h0)⟩
    · exact ⟨by rw [cmp_plus he ht.1 hf]; exact hl.1, mulP_Lt he hr hf h0 ht.2.2.2 hl.2⟩
theorem one_le_mul {a b : Int} (ha : 1 ≤ a) (hb : 1 ≤ b) : 1 ≤ a * b := by
  have := Int.mul_le_mul ha hb (by (clear ha hb; omega)) (by (clear hb; omega))
  simpa using this
theorem mulP_NF {e : O} {n : Int} {r : O} (h : NF (c e n r)) : ∀ {t : O}, NF t → NF (mulP e n r t)
  | z, _ => trivial
  | c g d u, ht => by
    rw [mulP_c]
    split
    · exact ⟨h.1, one_le_mul h.2.1 ht.2.1, h.2.2.1, h.2.2.2⟩
    · rename_i hg
      exact ⟨h.1.plus ht.1, ht.2.1, mulP_Lt h.1 h.2.2.1 ht.1 hg ht.2.2.2 ht.2.2.1, mulP_NF h ht.2.2.2⟩
theorem NF.times {a b : O} (ha : NF a) (hb : NF b) : NF (timesO a b) := by
  cases a with
  | z => exact trivial
  | c e n r => exact mulP_NF ha hb
theorem Lt_z {t : O} (h : Lt z t) : t = z := by
  cases t with
  | z => rfl
  | c x _ _ =>
    have := h.1
    cases x <;> simp [cmp] at this
section
variable {e : O} {n : Int} {r : O}
theorem same_mul_above (h : NF (c e n r)) {g : O} (hg : NF g) (h0 : g ≠ z) : ∀ {b : O}, NF b → same (plusO e g) (mulP e n r b) = same g b
  | z, _ => rfl
  | c f d t, hb => by
    rw [mulP_c]
    by_cases k : f = z
    · subst k
      rw [if_pos rfl, Lt_z hb.2.2.1]
      have hl := lt_plus h.1 hg h0
      have hs := cmp_swap e (plusO e g)
      rw [same_above h.2.2.1 (by (clear h hg h0 hb; omega)), same_ne (Ne.symm h0)]
      rfl
    · rw [if_neg k]
      by_cases q : f = g
      · subst q
        rw [same_self (mulP_Lt h.1 h.2.2.1 hg h0 hb.2.2.2 hb.2.2.1), same_self hb.2.2.1]
      · rw [same_ne (fun z => q (plus_inj h.1 hb.1 hg z)), same_ne q, same_mul_above h hg h0 hb.2.2.2]
theorem same_mul_at (h : NF (c e n r)) : ∀ {b : O}, NF b → same e (mulP e n r b) = n * same z b
  | z, _ => by show (0 : Int) = n * 0; (clear h; omega)
  | c f d t, hb => by
    rw [mulP_c]
    by_cases k : f = z
    · subst k
      rw [if_pos rfl, same_self h.2.2.1, same_self hb.2.2.1]
    · have hne : plusO e f ≠ e := fun q => by have := lt_plus h.1 hb.1 k; rw [q, cmp_self] at this; (clear h hb k q; omega)
      rw [if_neg k, same_ne hne, same_ne k, same_mul_at h hb.2.2.2]
theorem same_mul_below (h : NF (c e n r)) {y : O} (hy : cmp y e < 0) : ∀ {b : O}, NF b → same y (mulP e n r b) = if same z b = 0 then 0 else same y r
  | z, _ => by rw [same_z, if_pos rfl]; rfl
  | c f d t, hb => by
    have hd := hb.2.1
    rw [mulP_c]
    by_cases k : f = z
    · subst k
      have hne : e ≠ y := fun q => by subst q; rw [cmp_self] at hy; (clear h hd hb; omega)
      rw [if_pos rfl, same_ne hne, same_self hb.2.2.1, if_neg (by (clear h hy hb hne; omega))]
    · have hne : plusO e f ≠ y := fun q => by
        have h1 := lt_plus h.1 hb.1 k
        rw [q] at h1
        have h2 := cmp_swap e y
        (clear h hb hd k q; omega)
      rw [if_neg k, same_ne hne, same_ne k, same_mul_below h hy hb.2.2.2]
theorem above_form {y : O} (he : NF e) (hy : NF y) (h : cmp e y < 0) : ∃ g, NF g ∧ g ≠ z ∧ y = plusO e g := by
  refine ⟨minusO y e, hy.minus (by (clear he hy; omega)), fun k => ?_, (plus_minus hy he (by (clear he hy; omega))).symm⟩
  have := plus_minus hy he (by (clear he hy k; omega))
  rw [k, plus_z] at this
  rw [this, cmp_self] at h
  (clear he hy k this; omega)
end
theorem NF.of_same {x : O} : ∀ {a : O}, NF a → same x a ≠ 0 → NF x
  | z, _, h => absurd rfl h
  | c e n r, ha, h => by
    by_cases k : e = x
    · subst k; exact ha.1
    · rw [same_ne k] at h; exact NF.of_same ha.2.2.2 h
theorem same_ext' {a b : O} (ha : NF a) (hb : NF b) (h : ∀ x, NF x → same x a = same x b) : a = b := same_ext ha hb fun x => by
  refine Classical.byContradiction fun k => ?_
  by_cases q : NF x
  · exact k (h x q)
  · have h1 : same x a = 0 := Classical.byContradiction fun z => q (ha.of_same z)
    have h2 : same x b = 0 := Classical.byContradiction fun z => q (hb.of_same z)
    exact k (by rw [h1, h2])
end O
end Nm
namespace Nm
namespace O
section
variable {e : O} {n : Int} {r : O}
theorem cov_mul_above (h : NF (c e n r)) {d g : O} (hd : NF d) (hg : NF g) : Cov (mulP e n r d) (plusO e g) ↔ Cov d g := by
  constructor
  · rintro ⟨w, hw, hs⟩
    have hwN : NF w := (mulP_NF h hd).of_same hs
    have hew : cmp e w < 0 := by
      by_cases k : g = z
      · rw [k, plus_z] at hw; exact hw
      · exact cmp_trans _ _ _ (lt_plus h.1 hg k) hw
    obtain ⟨g', hg', h0, rfl⟩ := above_form h.1 hwN hew
    rw [cmp_plus h.1 hg hg'] at hw
    rw [same_mul_above h hg' h0 hd] at hs
    exact ⟨g', hw, hs⟩
  · rintro ⟨g', hw, hs⟩
    have hg' : NF g' := hd.of_same hs
    have h0 : g' ≠ z := fun k => by
      subst k
      have := cmp_swap z g
      cases g <;> simp [cmp] at hw
    exact ⟨plusO e g', by rw [cmp_plus h.1 hg hg']; exact hw, by rw [same_mul_above h hg' h0 hd]; exact hs⟩
theorem cov_mul_at (h : NF (c e n r)) {d : O} (hd : NF d) : Cov (mulP e n r d) e ↔ Cov d z := by
  have := cov_mul_above h hd (g := z) trivial
  rwa [plus_z] at this
theorem cov_mul_below (h : NF (c e n r)) {d y : O} (hd : NF d) (h0 : d ≠ z) (hy : cmp y e < 0) : Cov (mulP e n r d) y := by
  cases d with
  | z => exact absurd rfl h0
  | c f m t =>
    have hm := hd.2.1
    by_cases k : f = z
    · subst k
      refine ⟨e, hy, ?_⟩
      rw [same_mul_at h hd, same_self hd.2.2.1]
      have := one_le_mul h.2.1 hm
      (clear h hy hm hd h0; omega)
    · refine ⟨plusO e f, cmp_trans _ _ _ hy (lt_plus h.1 hd.1 k), ?_⟩
      rw [same_mul_above h hd.1 k hd, same_self hd.2.2.1]
      (clear h hy hd h0 k; omega)
end
theorem mul_plus {a b d : O} (ha : NF a) (hb : NF b) (hd : NF d) : timesO a (plusO b d) = plusO (timesO a b) (timesO a d) := by
  cases a with
  | z => rfl
  | c e n r =>
    by_cases hz : d = z
    · subst hz; rfl
    show mulP e n r (plusO b d) = plusO (mulP e n r b) (mulP e n r d)
    have hbd := hb.plus hd
    have hmd := mulP_NF ha hd
    refine same_ext' (mulP_NF ha hbd) ((mulP_NF ha hb).plus hmd) fun y hy => ?_
    rcases cmp_range y e with k | k | k
    · rw [same_plus_cov hmd (cov_mul_below ha hd hz (by (clear hb hd ha hz hbd hmd hy; omega))), same_mul_below ha (by (clear hb hd ha hz hbd hmd hy; omega)) hbd, same_mul_below ha (by (clear hb hd ha hz hbd hmd hy; omega)) hd]
      by_cases q : Cov d z
      · rw [same_plus_cov hd q]
      · rw [same_plus_bare hd q]
        have h1 : same z d ≠ 0 := by
          cases d with
          | z => exact absurd rfl hz
          | c f m t =>
            have hf : f = z := Classical.byContradiction fun j => q ((cov_c hd.2.1 hd.2.2.1).mpr (z_lt j))
            subst hf
            rw [same_self hd.2.2.1]
            have := hd.2.1
            (clear hb ha hy k hd hz hbd hmd q; omega)
        have h2 := same_nonneg z hd
        have h3 := same_nonneg z hb
        rw [if_neg h1, if_neg (by (clear hb hd ha hz hbd hmd hy k q; omega))]
    · have q := cmp_eq _ _ k
      subst q
      rw [same_mul_at ha hbd]
      by_cases q : Cov d z
      · rw [same_plus_cov hmd ((cov_mul_at ha hd).mpr q), same_plus_cov hd q, same_mul_at ha hd]
      · rw [same_plus_bare hmd (fun j => q ((cov_mul_at ha hd).mp j)), same_plus_bare hd q, same_mul_at ha hd, same_mul_at ha hb, Int.mul_add]
    · obtain ⟨g, hg, h0, rfl⟩ := above_form ha.1 hy (by have := cmp_swap y e; (clear hb hd ha hz hbd hmd hy; omega))
      rw [same_mul_above ha hg h0 hbd]
      by_cases q : Cov d g
      · rw [same_plus_cov hmd ((cov_mul_above ha hd hg).mpr q), same_plus_cov hd q, same_mul_above ha hg h0 hd]
      · rw [same_plus_bare hmd (fun j => q ((cov_mul_above ha hd hg).mp j)), same_plus_bare hd q, same_mul_above ha hg h0 hd, same_mul_above ha hg h0 hb]
theorem plus_ne_z {f g : O} (h : f ≠ z) : plusO f g ≠ z := by
  cases g with
  | z => exact h
  | c e n r =>
    rw [plus_c]
    intro k
    cases q : filt (fun x _ => decide (0 < cmp x e)) f with
    | z => rw [q] at k; cases k
    | c _ _ _ => rw [q] at k; cases k
theorem mul_whole {e : O} {n : Int} {r : O} {m : Int} : ∀ {d : O}, NF d → mulP e (n * m) r d = mulP e n r (mulP z m z d)
  | z, _ => rfl
  | c g k t, hd => by
    rw [mulP_c, mulP_c]
    by_cases q : g = z
    · subst q
      rw [if_pos rfl, if_pos rfl, mulP_c, if_pos rfl, Int.mul_assoc]
    · rw [if_neg q, if_neg q, z_plus, mulP_c, if_neg q, mul_whole hd.2.2.2]
theorem mul_mul {e : O} {n : Int} {r f : O} {m : Int} {t : O} (he : NF e) (hf : NF f) (h0 : f ≠ z) : ∀ {d : O}, NF d → mulP (plusO e f) m (mulP e n r t) d = mulP e n r (mulP f m t d)
  | z, _ => rfl
  | c g k u, hd => by
    rw [mulP_c, mulP_c]
    by_cases q : g = z
    · subst q
      rw [if_pos rfl, if_pos rfl, mulP_c, if_neg h0]
    · rw [if_neg q, if_neg q, mulP_c, if_neg (plus_ne_z h0), mul_mul he hf h0 hd.2.2.2, plus_assoc he hf hd.1]
theorem times_assoc {a b d : O} (ha : NF a) (hb : NF b) (hd : NF d) : timesO (timesO a b) d = timesO a (timesO b d) := by
  cases a with
  | z => rfl
  | c e n r =>
    cases b with
    | z => rfl
    | c f m t =>
      show timesO (mulP e n r (c f m t)) d = mulP e n r (mulP f m t d)
      rw [mulP_c]
      by_cases q : f = z
      · subst q
        rw [if_pos rfl, Lt_z hb.2.2.1]
        exact mul_whole hd
      · rw [if_neg q]
        exact mul_mul ha.1 hb.1 q hd
theorem times_lt {a b d : O} (ha : NF a) (h0 : a ≠ z) (hb : NF b) (hd : NF d) (h : cmp b d < 0) : cmp (timesO a b) (timesO a d) < 0 := by
  cases a with
  | z => exact absurd rfl h0
  | c e n r =>
    show cmp (mulP e n r b) (mulP e n r d) < 0
    obtain ⟨x, hx, hy⟩ := first_of_lt hb hd h
    have hxN : NF x := hd.of_same (by have := same_nonneg x hb; (clear hb hd h ha h0 hy; omega))
    have up : ∀ y, 0 < cmp y (plusO e x) → same y (mulP e n r b) = same y (mulP e n r d) := fun y hyx => by
      refine Classical.byContradiction fun k => ?_
      have hyN : NF y := by
        refine Classical.byContradiction fun q => k ?_
        have h1 : same y (mulP e n r b) = 0 := Classical.byContradiction fun j => q ((mulP_NF ha hb).of_same j)
        have h2 : same y (mulP e n r d) = 0 := Classical.byContradiction fun j => q ((mulP_NF ha hd).of_same j)
        rw [h1, h2]
      have hs := cmp_swap y (plusO e x)
      have hey : cmp e y < 0 := by
        by_cases j : x = z
        · rw [j, plus_z] at hs hyx; (clear hb hd h ha h0 hx hy hxN k hyN j; omega)
        · exact cmp_trans _ _ _ (lt_plus ha.1 hxN j) (by (clear hb hd h ha h0 hx hy hxN k hyN j; omega))
      obtain ⟨g, hg, hg0, rfl⟩ := above_form ha.1 hyN hey
      rw [cmp_plus ha.1 hg hxN] at hyx
      rw [same_mul_above ha hg hg0 hb, same_mul_above ha hg hg0 hd] at k
      exact k (hy g hyx)
    refine lt_of_first (x := plusO e x) (mulP_NF ha hb) (mulP_NF ha hd) ?_ up
    by_cases j : x = z
    · subst j
      rw [plus_z, same_mul_at ha hb, same_mul_at ha hd]
      exact Int.mul_lt_mul_of_pos_left hx (by have := ha.2.1; assumption)
    · rw [same_mul_above ha hxN j hb, same_mul_above ha hxN j hd]
      exact hx
theorem cmp_times {a b d : O} (ha : NF a) (h0 : a ≠ z) (hb : NF b) (hd : NF d) : cmp (timesO a b) (timesO a d) = cmp b d := cmp_of_lt (times_lt ha h0 hb hd) (times_lt ha h0 hd hb)
theorem cmp_le_c {e : O} {n : Int} {r e' : O} {n' : Int} {r' : O} (h : cmp e e' < 0 ∨ (e = e' ∧ n < n') ∨ (e = e' ∧ n = n' ∧ cmp r r' ≤ 0)) : cmp (c e n r) (c e' n' r') ≤ 0 := by
  rw [cmp]
  rcases h with h | ⟨rfl, h⟩ | ⟨rfl, rfl, h⟩
  · rw [if_pos (by omega)]; omega
  · rw [if_neg (by rw [cmp_self]; simp), if_pos h]; (clear h; omega)
  · rw [if_neg (by rw [cmp_self]; simp), if_neg (by (clear h; omega)), if_neg (by (clear h; omega))]; exact h
theorem mul_left {e : O} {n : Int} {r e' : O} {n' : Int} {r' : O} (h1 : NF (c e n r)) (h2 : NF (c e' n' r')) (h : cmp (c e n r) (c e' n' r') < 0) : ∀ {a : O}, NF a → cmp (mulP e n r a) (mulP e' n' r' a) ≤ 0
  | z, _ => by simp [mulP, cmp]
  | c f k t, ha => by
    have hk := ha.2.1
    rw [cmp] at h
    rw [mulP_c, mulP_c]
    by_cases q : f = z
    · subst q
      rw [if_pos rfl, if_pos rfl]
      refine cmp_le_c ?_
      by_cases he : cmp e e' = 0
      · rw [if_neg (by simpa using he)] at h
        have := cmp_eq _ _ he
        subst this
        by_cases hn : n < n'
        · exact .inr (.inl ⟨rfl, Int.mul_lt_mul_of_pos_right hn (by assumption)⟩)
        · rw [if_neg hn] at h
          by_cases hn' : n' < n
          · rw [if_pos hn'] at h; (clear h1 hk ha h2 he hn hn'; omega)
          · rw [if_neg hn'] at h
            have : n = n' := by (clear h1 h hk ha h2 he; omega)
            subst this
            exact .inr (.inr ⟨rfl, rfl, by (clear h1 hk ha he h2 hn hn'; omega)⟩)
      · rw [if_pos he] at h
        exact .inl h
    · rw [if_neg q, if_neg q]
      refine cmp_le_c ?_
      have ih := mul_left h1 h2 (by rw [cmp]; exact h) ha.2.2.2
      rcases cmp_plus_left ha.1 h1.1 h2.1 with j | j
      · by_cases he : cmp e e' = 0
        · have := cmp_eq _ _ he
          subst this
          exact .inr (.inr ⟨rfl, rfl, ih⟩)
        · rw [if_pos he] at h
          exact .inl (by (clear h1 h2 ha hk q ih he; omega))
      · exact .inr (.inr ⟨cmp_eq _ _ j, rfl, ih⟩)
theorem times_left {a b d : O} (ha : NF a) (hb : NF b) (hd : NF d) (h : cmp b d < 0) : cmp (timesO b a) (timesO d a) ≤ 0 := by
  cases b with
  | z =>
    show cmp z _ ≤ 0
    cases timesO d a <;> simp [cmp]
  | c e n r =>
    cases d with
    | z => simp [cmp] at h
    | c e' n' r' => exact mul_left hb hd h ha
theorem times_one {a : O} : timesO a (c z 1 z) = a := by
  cases a with
  | z => rfl
  | c e n r => show mulP e n r (c z 1 z) = _; rw [mulP_c, if_pos rfl, Int.mul_one]
theorem one_mul : ∀ {a : O}, NF a → mulP z 1 z a = a
  | z, _ => rfl
  | c f k t, h => by
    rw [mulP_c]
    by_cases q : f = z
    · subst q
      rw [if_pos rfl, Lt_z h.2.2.1, Int.one_mul]
    · rw [if_neg q, z_plus, one_mul h.2.2.2]
theorem one_times {a : O} (h : NF a) : timesO (c z 1 z) a = a := one_mul h
end O
end Nm
namespace Nm
namespace O
end O
end Nm
namespace Nm
namespace O
noncomputable def hw : O → Nat
  | z => 0
  | c e _ r => max (len r + 1) (max (hw e) (hw r))
theorem hw_c (e : O) (n : Int) (r : O) : hw (c e n r) = max (len r + 1) (max (hw e) (hw r)) := rfl
theorem len_le_hw : ∀ a : O, len a ≤ hw a
  | z => Nat.le_refl _
  | c e n r => by rw [hw_c]; simp only [len]; omega
theorem len_app' : ∀ a b : O, (app a b).len = a.len + b.len
  | z, b => by simp [app, len]
  | c e n r, b => by have := len_app' r b; simp only [app, len]; omega
theorem len_filt' (p : O → Int → Bool) : ∀ a : O, (a.filt p).len ≤ a.len
  | z => Nat.le_refl _
  | c e n r => by
    have := len_filt' p r
    rw [filt_c]
    split <;> simp only [len] <;> omega
theorem hw_app : ∀ a b : O, hw (app a b) ≤ max (len a + len b) (max (hw a) (hw b))
  | z, b => by show hw b ≤ _; omega
  | c e n r, b => by
    have ih := hw_app r b
    show hw (c e n (app r b)) ≤ _
    have l0 : len (c e n r) = len r + 1 := rfl
    have b1 : hw e ≤ hw (c e n r) := Nat.le_trans (Nat.le_max_left _ _) (Nat.le_max_right _ _)
    have b2 : hw r ≤ hw (c e n r) := Nat.le_trans (Nat.le_max_right _ _) (Nat.le_max_right _ _)
    have c1 : len (c e n r) + len b ≤ max (len (c e n r) + len b) (max (hw (c e n r)) (hw b)) := Nat.le_max_left _ _
    have c2 : hw (c e n r) ≤ max (len (c e n r) + len b) (max (hw (c e n r)) (hw b)) := Nat.le_trans (Nat.le_max_left _ _) (Nat.le_max_right _ _)
    have c3 : hw b ≤ max (len (c e n r) + len b) (max (hw (c e n r)) (hw b)) := Nat.le_trans (Nat.le_max_right _ _) (Nat.le_max_right _ _)
    generalize max (len (c e n r) + len b) (max (hw (c e n r)) (hw b)) = R at c1 c2 c3 ⊢
    rw [hw_c, len_app']
    refine Nat.max_le.mpr ⟨by (clear ih b1 b2 c2 c3; omega), Nat.max_le.mpr ⟨Nat.le_trans b1 c2, Nat.le_trans ih (Nat.max_le.mpr ⟨by (clear ih b1 b2 c2 c3; omega), Nat.max_le.mpr ⟨Nat.le_trans b2 c2, c3⟩⟩)⟩⟩
theorem hw_filt (p : O → Int → Bool) : ∀ a : O, hw (filt p a) ≤ hw a
  | z => Nat.le_refl _
  | c e n r => by
    have ih := hw_filt p r
    have h := len_filt' p r
    rw [filt_c]
    split
    · rw [hw_c, hw_c]; omega
    · rw [hw_c]; (clear h; omega)
theorem hw_plus (a b : O) : hw (plusO a b) ≤ hw a + hw b := by
  cases b with
  | z => show hw a ≤ _; omega
  | c e n r =>
    rw [plus_c]
    have h1 := hw_app (filt (fun x _ => decide (0 < cmp x e)) a) (c e (same e a + n) r)
    have h2 := hw_filt (fun x _ => decide (0 < cmp x e)) a
    have h3 := len_filt' (fun x _ => decide (0 < cmp x e)) a
    have h4 := len_le_hw a
    have h5 := len_le_hw (c e n r)
    have e1 : hw (c e (same e a + n) r) = hw (c e n r) := rfl
    have e2 : len (c e (same e a + n) r) = len (c e n r) := rfl
    rw [e1, e2] at h1
    exact Nat.le_trans h1 (Nat.max_le.mpr ⟨by (clear h1 h2; omega), Nat.max_le.mpr ⟨by (clear h1 h3 h4 h5 e2; omega), by (clear h1 h3 h4 h5 e1 e2; omega)⟩⟩)
theorem len_mul (e : O) (n : Int) (r : O) : ∀ b : O, (mulP e n r b).len ≤ b.len + r.len
  | z => by simp [mulP, len]
  | c f d t => by
    have ih := len_mul e n r t
    rw [mulP_c]
    split <;> simp only [len] <;> omega
theorem hw_mul (e : O) (n : Int) (r : O) : ∀ b : O, hw (mulP e n r b) ≤ hw (c e n r) + hw b
  | z => by simp [mulP, hw]
  | c f d t => by
    have ih := hw_mul e n r t
    have h1 := hw_plus e f
    have h2 := len_mul e n r t
    have h3 := len_le_hw t
    have h4 : hw e ≤ hw (c e n r) := Nat.le_trans (Nat.le_max_left _ _) (Nat.le_max_right _ _)
    have h5 : len r + 1 ≤ hw (c e n r) := Nat.le_max_left _ _
    have h6 : hw f ≤ hw (c f d t) := Nat.le_trans (Nat.le_max_left _ _) (Nat.le_max_right _ _)
    have h7 : hw t ≤ hw (c f d t) := Nat.le_trans (Nat.le_max_right _ _) (Nat.le_max_right _ _)
    have h8 : len t + 1 ≤ hw (c f d t) := Nat.le_max_left _ _
    rw [mulP_c]
    split
    · have e1 : hw (c e (n * d) r) = hw (c e n r) := rfl
      rw [e1]; (clear ih h1 h2 h3 h4 h5 h6 h7 h8 e1; omega)
    · rw [hw_c (plusO e f)]
      exact Nat.max_le.mpr ⟨by (clear ih h1 h3 h4 h6 h7; omega), Nat.max_le.mpr ⟨by (clear ih h2 h3 h5 h7 h8; omega), by (clear h1 h2 h3 h4 h5 h6 h8; omega)⟩⟩
theorem hw_times (a b : O) : hw (timesO a b) ≤ hw a + hw b := by
  cases a with
  | z => show hw z ≤ _; exact Nat.zero_le _
  | c e n r => exact hw_mul e n r b
theorem dp_mul' (e : O) (n : Int) (r : O) : ∀ b : O, (mulP e n r b).dp ≤ max (dp (c e n r)) (b.dp)
  | z => by simp [mulP, dp]
  | c f d t => by
    have ih := dp_mul' e n r t
    have h := dp_plus e f
    have h1 : dp e + 1 ≤ dp (c e n r) := Nat.le_max_left _ _
    have h2 : dp f + 1 ≤ dp (c f d t) := Nat.le_max_left _ _
    have h3 : dp t ≤ dp (c f d t) := Nat.le_max_right _ _
    rw [mulP_c]
    split
    · have e1 : dp (c e (n * d) r) = dp (c e n r) := rfl
      rw [e1]; exact Nat.le_max_left _ _
    · refine Nat.max_le.mpr ⟨?_, Nat.le_trans ih (Nat.max_le.mpr ⟨Nat.le_max_left _ _, Nat.le_trans h3 (Nat.le_max_right _ _)⟩)⟩
      rcases Nat.le_total (dp e) (dp f) with k | k
      · rw [Nat.max_eq_right k] at h
        exact Nat.le_trans (Nat.succ_le_succ h) (Nat.le_trans h2 (Nat.le_max_right _ _))
      · rw [Nat.max_eq_left k] at h
        exact Nat.le_trans (Nat.succ_le_succ h) (Nat.le_trans h1 (Nat.le_max_left _ _))
theorem dp_times (a b : O) : dp (timesO a b) ≤ max (dp a) (dp b) := by
  cases a with
  | z => show dp z ≤ _; exact Nat.zero_le _
  | c e n r => exact dp_mul' e n r b
theorem mx_plus {a b : O} (ha : NF a) : mx (plusO a b) ≤ mx a + mx b := by
  have h0 := mx_nonneg a
  cases b with
  | z => show mx a ≤ mx a + 0; (clear ha h0; omega)
  | c e n r =>
    rw [plus_c, mx_app, mx_c, mx_c]
    have h2 := mx_filt (fun x _ => decide (0 < cmp x e)) a
    have h3 := same_le_mx e ha
    have h4 := mx_nonneg e
    have h5 := mx_nonneg r
    (clear ha h4; omega)
theorem mx_mul {e : O} {n : Int} {r : O} (h : NF (c e n r)) : ∀ {b : O}, NF b → mx (mulP e n r b) ≤ (mx (c e n r) + 1) * (mx b + 1)
  | z, _ => by
    have := mx_nonneg (c e n r)
    show (0 : Int) ≤ (mx (c e n r) + 1) * (0 + 1)
    (clear h; omega)
  | c f d t, hb => by
    have ih := mx_mul h hb.2.2.2
    have hp := mx_plus (a := e) (b := f) h.1
    have n0 := mx_nonneg (c e n r)
    have n1 := mx_nonneg f
    have n2 := mx_nonneg t
    have hd := hb.2.1
    have hn := h.2.1
    obtain ⟨A, hA⟩ : ∃ A, A = mx (c e n r) := ⟨_, rfl⟩
    rw [← hA] at ih n0 ⊢
    rw [mx_c] at hA
    have k1 : (A + 1) * (mx t + 1) ≤ (A + 1) * (mx (c f d t) + 1) := Int.mul_le_mul_of_nonneg_left (by rw [mx_c]; (clear h hb hp n1 n2 hd hn n0 ih hA; omega)) (by (clear h hb hp n1 n2 hd hn ih; omega))
    have k2 : (A + 1) * 1 + (mx (c f d t)) ≤ (A + 1) * (mx (c f d t) + 1) := by
      have : 1 * mx (c f d t) ≤ (A + 1) * mx (c f d t) := Int.mul_le_mul_of_nonneg_right (by (clear h hb hp n1 n2 hd hn ih k1; omega)) (mx_nonneg _)
      rw [Int.mul_add]
      (clear h hb hp n1 n2 hd hn n0 ih hA k1; omega)
    have k3 : n * d ≤ (A + 1) * (mx (c f d t) + 1) := Int.mul_le_mul (by (clear h hb hp n1 n2 hd hn n0 ih k1 k2; omega)) (by rw [mx_c]; (clear h hb hp n1 n2 hd hn n0 ih hA k1 k2; omega)) (by (clear h hb hp n1 n2 hn n0 ih hA k1 k2; omega)) (by (clear h hb hp n1 n2 hd hn ih k1 k2; omega))
    have k4 : mx (c f d t) = max d (max (mx f) (mx t)) := rfl
    rw [mulP_c]
    split
    · rw [mx_c]; (clear h hb hp n1 hn n0 ih k1; omega)
    · rw [mx_c]; (clear h hb n1 n2 hd hn k3; omega)
end O
end Nm
namespace Nm
namespace O
noncomputable def lessO : O → O
  | z => z
  | c e n z => if n = 1 then z else c e (n - 1) z
  | c e n (c e' n' r') => c e n (lessO (c e' n' r'))
noncomputable def lastE : O → O
  | z => z
  | c e _ z => e
  | c _ _ (c e' n' r') => lastE (c e' n' r')
theorem app_z : ∀ a : O, app a z = a
  | z => rfl
  | c e n r => by show c e n (app r z) = _; rw [app_z r]
noncomputable def Lim (a : O) : Prop := a ≠ z ∧ same z a = 0
inductive Lad : O → Int → O → Prop where
  | suc {a : O} {n : Int} (h0 : a ≠ z) (h : lastE a = z) : Lad a n (lessO a)
  | lim {a : O} {n : Int} {o : O} (h0 : a ≠ z) (h : Lim (lastE a)) (k : Lad (lastE a) n o) : Lad a n (app (lessO a) (c o 1 z))
  | one {a : O} {n : Int} (h0 : a ≠ z) (h : lastE a ≠ z) (h' : ¬ Lim (lastE a)) : Lad a n (app (lessO a) (if n = 0 then z else c (lessO (lastE a)) n z))
end O
end Nm
namespace Nm
namespace O
theorem z_le (a : O) : cmp z a ≤ 0 := by cases a <;> simp [cmp]
end O
end Nm
namespace Nm
namespace O
structure Rg (a b : O) (n : Int) : Prop where
  pos : 0 ≤ n
  pass : ∀ o, Lad a n o → cmp b o < 0
  least : 0 < n → ∀ o, Lad a (n - 1) o → ¬ cmp b o < 0
theorem le_lt {a b d : O} (h1 : cmp a b ≤ 0) (h2 : cmp b d < 0) : cmp a d < 0 := by
  by_cases q : cmp a b = 0
  · rw [cmp_eq _ _ q]; exact h2
  · exact cmp_trans a b d (by (clear h2; omega)) h2
end O
end Nm
namespace Nm
namespace O
noncomputable def alike : O → O → Nat
  | c e n r, c e' n' r' => if e = e' ∧ n = n' then alike r r' + 1 else 0
  | _, _ => 0
theorem alike_c (e : O) (n : Int) (r e' : O) (n' : Int) (r' : O) : alike (c e n r) (c e' n' r') = if e = e' ∧ n = n' then alike r r' + 1 else 0 := by rw [alike]
theorem alike_le : ∀ a b : O, alike a b ≤ a.len ∧ alike a b ≤ b.len
  | z, b => by simp [alike]
  | c _ _ _, z => by simp [alike]
  | c e n r, c e' n' r' => by
    have := alike_le r r'
    rw [alike_c]
    simp only [len]
    split <;> omega
theorem alike_at : ∀ {a b : O} {i : Nat} {e : O} {n : Int} {e' : O} {n' : Int}, getP a i = some (e, n) → getP b i = some (e', n') → i ≤ alike a b → (i < alike a b ↔ e = e' ∧ n = n')
  | z, _, _, _, _, _, _, h, _, _ => by simp [getP] at h
  | c _ _ _, z, _, _, _, _, _, _, h, _ => by simp [getP] at h
  | c x k r, c x' k' r', 0, e, n, e', n', h1, h2, _ => by
    simp only [getP, Option.some.injEq, Prod.mk.injEq] at h1 h2
    obtain ⟨rfl, rfl⟩ := h1
    obtain ⟨rfl, rfl⟩ := h2
    rw [alike_c]
    split <;> simp_all
  | c x k r, c x' k' r', i + 1, e, n, e', n', h1, h2, h3 => by
    simp only [getP] at h1 h2
    rw [alike_c] at h3 ⊢
    split at h3
    · rename_i q
      have := alike_at h1 h2 (by (clear h1 h2 q; omega))
      rw [if_pos q, ← this]
      (clear h1 h2 q this; omega)
    · (clear h1 h2; omega)
theorem minus_end : ∀ {a b : O}, alike a b = b.len → minusO a b = dropO (alike a b) a
  | a, z, _ => by
    rw [minus_z]
    cases a <;> rfl
  | z, c _ _ _, h => by simp [alike, len] at h
  | c e n r, c e' n' r', h => by
    rw [alike_c] at h ⊢
    simp only [len] at h
    split at h
    · rename_i q
      rw [if_pos q, minusO, if_pos q.1, if_pos q.2]
      exact minus_end (by (clear q; omega))
    · omega
theorem alike_more : ∀ {a b : O}, cmp b a ≤ 0 → alike a b < b.len → ∃ e n e' n', getP a (alike a b) = some (e, n) ∧ getP b (alike a b) = some (e', n') ∧ minusO a b = if e = e' then c e (n - n') (dropO (alike a b + 1) a) else dropO (alike a b) a
  | a, z, _, h => by simp [len] at h
  | z, c _ _ _, h, _ => by simp [cmp] at h
  | c e n r, c e' n' r', hc, h => by
    rw [alike_c] at h ⊢
    simp only [len] at h
    by_cases q : e = e' ∧ n = n'
    · obtain ⟨rfl, rfl⟩ := q
      rw [if_pos ⟨rfl, rfl⟩] at h ⊢
      rw [cmp, if_neg (by rw [cmp_self]; simp), if_neg (by (clear hc h; omega)), if_neg (by (clear hc h; omega))] at hc
      obtain ⟨x, k, x', k', h1, h2, h3⟩ := alike_more hc (by (clear hc; omega))
      refine ⟨x, k, x', k', h1, h2, ?_⟩
      rw [minusO, if_pos rfl, if_pos rfl, h3]
      rfl
    · rw [if_neg q]
      refine ⟨e, n, e', n', rfl, rfl, ?_⟩
      rw [minusO]
      by_cases q1 : e = e'
      · rw [if_pos q1, if_pos q1, if_neg (fun k => q ⟨q1, k⟩)]
        rfl
      · rw [if_neg q1, if_neg q1]
        rfl
theorem size_minus : ∀ a b : O, (minusO a b).size ≤ a.size
  | a, z => by rw [minus_z]; exact Nat.le_refl _
  | z, c _ _ _ => Nat.le_refl _
  | c e n r, c e' n' r' => by
    have := size_minus r r'
    unfold minusO
    split
    · split
      · simp only [size]; omega
      · simp only [size]; (clear this; omega)
    · exact Nat.le_refl _
theorem dp_minus : ∀ a b : O, (minusO a b).dp ≤ a.dp
  | a, z => by rw [minus_z]; exact Nat.le_refl _
  | z, c _ _ _ => Nat.le_refl _
  | c e n r, c e' n' r' => by
    have := dp_minus r r'
    unfold minusO
    split
    · split
      · simp only [dp]; omega
      · simp only [dp]; (clear this; omega)
    · exact Nat.le_refl _
theorem hw_minus : ∀ a b : O, hw (minusO a b) ≤ hw a
  | a, z => by rw [minus_z]; exact Nat.le_refl _
  | z, c _ _ _ => Nat.le_refl _
  | c e n r, c e' n' r' => by
    have := hw_minus r r'
    unfold minusO
    split
    · split
      · rw [hw_c]; omega
      · rw [hw_c, hw_c]; (clear this; omega)
    · exact Nat.le_refl _
end O
end Nm
namespace Nm
namespace O
theorem len_take : ∀ (i : Nat) (a : O), (takeO i a).len ≤ a.len
  | 0, a => Nat.zero_le _
  | _ + 1, z => Nat.le_refl _
  | i + 1, c e n r => by have := len_take i r; simp only [takeO, len]; omega
end O
end Nm
namespace Nm
namespace O
noncomputable def wh (m : Int) : O := if m = 0 then z else c z m z
theorem NF.wh {m : Int} (h : 0 ≤ m) : NF (wh m) := by
  unfold O.wh
  split
  · exact trivial
  · exact ⟨trivial, by omega, trivial, trivial⟩
theorem wh_0 : wh 0 = z := rfl
theorem wh_pos {m : Int} (h : 0 < m) : wh m = c z m z := by unfold wh; rw [if_neg (by omega)]
theorem times_wh {e : O} {n : Int} {r : O} {m : Int} (h : 0 < m) : timesO (c e n r) (wh m) = c e (n * m) r := by
  rw [wh_pos h]
  show mulP e n r (c z m z) = _
  rw [mulP_c, if_pos rfl]
theorem wh_plus {m : Int} (h : 0 ≤ m) : plusO (wh m) (c z 1 z) = wh (m + 1) := by
  by_cases q : m = 0
  · subst q; rfl
  · rw [wh_pos (by omega), wh_pos (by (clear q; omega))]
    rw [plus_c, filt_c, if_neg (by rw [cmp_self]; simp), same_eq]
    show c z (m + 0 + 1) z = c z (m + 1) z
    rw [Int.add_zero]
theorem times_suc {b : O} {m : Int} (hb : NF b) (h : 0 ≤ m) : timesO b (wh (m + 1)) = plusO (timesO b (wh m)) b := by
  have n1 : NF (c z 1 z) := ⟨trivial, by (clear hb h; omega), trivial, trivial⟩
  rw [← wh_plus h, mul_plus hb (NF.wh h) n1, times_one]
theorem plus_above {x : O} {k : Int} {t s : O} (h : s = z ∨ ∃ f d u, s = c f d u ∧ cmp f x < 0) : plusO (c x k t) s = c x k (plusO t s) := by
  rcases h with rfl | ⟨f, d, u, rfl, h⟩
  · rfl
  · have hs := cmp_swap f x
    have hne : x ≠ f := fun q => by subst q; rw [cmp_self] at h; (clear hs; omega)
    rw [plus_c, plus_c, filt_c, if_pos (by simp; (clear hne; omega)), same_ne hne]
    rfl
theorem first_le {e : O} {n : Int} {r s : O} (h : cmp s (c e n r) < 0) : s = z ∨ ∃ f d u, s = c f d u ∧ cmp f e ≤ 0 := by
  cases s with
  | z => exact .inl rfl
  | c f d u =>
    refine .inr ⟨f, d, u, rfl, ?_⟩
    rw [cmp] at h
    by_cases q : cmp f e = 0
    · (clear h; omega)
    · rw [if_pos q] at h; (clear q; omega)
noncomputable def quoO (e : O) (m : Int) : O → O
  | z => wh m
  | c x k t => if 0 < cmp x e then c (minusO x e) k (quoO e m t) else wh m
noncomputable def quo (e : O) : O → O
  | z => z
  | c x k t => c (minusO x e) k (quo e t)
theorem quo_app (e : O) (m : Int) : ∀ {a : O}, NF a → app (quo e (takeO (stay e a) a)) (wh m) = quoO e m a
  | z, _ => by
    have : stay e z = 0 := by have := stay_le (e := e) (a := z); simpa [len] using this
    rw [this]
    rfl
  | c x k t, ha => by
    by_cases h : 0 < cmp x e
    · rw [stay_c_pos h, quoO, if_pos h, ← quo_app e m ha.2.2.2]
      rfl
    · rw [stay_c_neg h ha.2.2.1, quoO, if_neg h]
      rfl
theorem take_snoc : ∀ {a : O} {i : Nat} {x : O} {k : Int}, getP a i = some (x, k) → takeO (i + 1) a = app (takeO i a) (c x k z)
  | z, _, _, _, h => by simp [getP] at h
  | c e n r, 0, _, _, h => by
    simp only [getP, Option.some.injEq, Prod.mk.injEq] at h
    obtain ⟨rfl, rfl⟩ := h
    rfl
  | c e n r, i + 1, x, k, h => by
    have := take_snoc (a := r) (i := i) (x := x) (k := k) (by simpa [getP] using h)
    show c e n (takeO (i + 1) r) = _
    rw [this]
    rfl
theorem quo_join (e : O) : ∀ a b : O, quo e (app a b) = app (quo e a) (quo e b)
  | z, _ => rfl
  | c x k t, b => by
    show c (minusO x e) k (quo e (app t b)) = _
    rw [quo_join e t b]
    rfl
theorem quo_len (e : O) : ∀ a : O, (quo e a).len = a.len
  | z => rfl
  | c x k t => by simp only [quo, len, quo_len e t]
theorem minus_mono {e x y : O} (he : NF e) (hx : NF x) (hy : NF y) (h1 : 0 < cmp x e) (h2 : 0 < cmp y e) (h : cmp y x < 0) : cmp (minusO y e) (minusO x e) < 0 := by
  have s1 := cmp_swap x e
  have s2 := cmp_swap y e
  have p1 := plus_minus hx he (by (clear he hx hy h2 h s2; omega))
  have p2 := plus_minus hy he (by (clear he hx hy h1 h s1 p1; omega))
  have := cmp_plus he (hy.minus (show cmp e y ≤ 0 by (clear he hx hy h1 h s1 p1 p2; omega))) (hx.minus (show cmp e x ≤ 0 by (clear he hx hy h2 h s2 p1 p2; omega)))
  rw [p1, p2] at this
  (clear he hx hy h1 h2 s1 s2 p1 p2; omega)
theorem minus_ne {e x : O} (he : NF e) (hx : NF x) (h : 0 < cmp x e) : minusO x e ≠ z := fun k => by
  have s1 := cmp_swap x e
  have p1 := plus_minus hx he (by (clear he hx k; omega))
  rw [k, plus_z] at p1
  rw [p1, cmp_self] at h
  (clear he hx k s1 p1; omega)
theorem quo_Lt {e x : O} {m : Int} (he : NF e) (hx : NF x) (h : 0 < cmp x e) : ∀ {t : O}, NF t → Lt x t → Lt (minusO x e) (quoO e m t)
  | z, _, _ => by
    show Lt _ (wh m)
    unfold wh
    split
    · exact trivial
    · exact ⟨z_lt (minus_ne he hx h), trivial⟩
  | c y k t, ht, hl => by
    rw [quoO]
    split
    · rename_i hy
      exact ⟨minus_mono he hx ht.1 h hy hl.1, quo_Lt he hx h ht.2.2.2 hl.2⟩
    · unfold wh
      split
      · exact trivial
      · exact ⟨z_lt (minus_ne he hx h), trivial⟩
theorem div_ok {e : O} {n : Int} {r : O} {m : Int} (hb : NF (c e n r)) (hm : 0 ≤ m) : ∀ {a : O}, NF a → cmp (timesO (c e n r) (wh m)) (dropO (stay e a) a) ≤ 0 → cmp (dropO (stay e a) a) (timesO (c e n r) (wh (m + 1))) < 0 →
    NF (quoO e m a) ∧ NF (minusO (dropO (stay e a) a) (timesO (c e n r) (wh m))) ∧ cmp (minusO (dropO (stay e a) a) (timesO (c e n r) (wh m))) (c e n r) < 0 ∧ plusO (timesO (c e n r) (quoO e m a)) (minusO (dropO (stay e a) a) (timesO (c e n r) (wh m))) = a := by
  have base : ∀ {L : O}, NF L → cmp (timesO (c e n r) (wh m)) L ≤ 0 → cmp L (timesO (c e n r) (wh (m + 1))) < 0 → NF (minusO L (timesO (c e n r) (wh m))) ∧ cmp (minusO L (timesO (c e n r) (wh m))) (c e n r) < 0 ∧ plusO (timesO (c e n r) (wh m)) (minusO L (timesO (c e n r) (wh m))) = L := fun {L} hL h1 h2 => by
    have nt := hb.times (NF.wh hm)
    have nm := hL.minus h1
    have pm := plus_minus hL nt h1
    refine ⟨nm, ?_, pm⟩
    rw [times_suc hb hm] at h2
    have := cmp_plus nt nm hb
    rw [pm] at this
    (clear hb hm hL h1 nt nm pm; omega)
  intro a
  induction a with
  | z =>
    intro ha h1 h2
    have : stay e z = 0 := by have := stay_le (e := e) (a := z); simpa [len] using this
    rw [this] at h1 h2 ⊢
    exact ⟨NF.wh hm, base ha h1 h2⟩
  | c x k t _ ih =>
    intro ha h1 h2
    by_cases h : 0 < cmp x e
    · rw [stay_c_pos h] at h1 h2 ⊢
      have h1' : cmp (timesO (c e n r) (wh m)) (dropO (stay e t) t) ≤ 0 := h1
      have h2' : cmp (dropO (stay e t) t) (timesO (c e n r) (wh (m + 1))) < 0 := h2
      obtain ⟨i1, i2, i3, i4⟩ := ih ha.2.2.2 h1' h2'
      rw [quoO, if_pos h]
      show _ ∧ NF (minusO (dropO (stay e t) t) _) ∧ cmp (minusO (dropO (stay e t) t) _) _ < 0 ∧ plusO (mulP e n r (c (minusO x e) k (quoO e m t))) (minusO (dropO (stay e t) t) _) = _
      have sw := cmp_swap x e
      refine ⟨⟨ha.1.minus (by (clear hb hm base ih ha h1 h2 h1' h2' i1 i2 i3 i4; omega)), ha.2.1, quo_Lt hb.1 ha.1 h ha.2.2.2 ha.2.2.1, i1⟩, i2, i3, ?_⟩
      rw [mulP_c, if_neg (minus_ne hb.1 ha.1 h), plus_minus ha.1 hb.1 (by (clear hb hm base ih ha h1 h2 h1' h2' i1 i2 i3 i4; omega)), plus_above]
      · exact congrArg (c x k) i4
      · rcases first_le i3 with q | ⟨f, d, u, q, q2⟩
        · exact .inl q
        · exact .inr ⟨f, d, u, q, le_lt q2 (by (clear hb hm base ih ha h1 h2 h1' h2' i1 i2 i3 i4 q q2; omega))⟩
    · rw [stay_c_neg h ha.2.2.1] at h1 h2 ⊢
      rw [quoO, if_neg h]
      exact ⟨NF.wh hm, base ha h1 h2⟩
theorem suc_le {a b : O} (ha : NF a) (hb : NF b) (h : cmp a b < 0) : cmp (plusO a (c z 1 z)) b ≤ 0 := by
  have n1 : NF (c z 1 z) := ⟨trivial, by (clear ha hb h; omega), trivial, trivial⟩
  have sm : ∀ y, same y (plusO a (c z 1 z)) = same y a + (if y = z then 1 else 0) := fun y => by
    rw [same_plus (show Lt z z from trivial)]
    by_cases q : y = z
    · subst q
      rw [cmp_self, if_neg (by (clear ha hb h n1; omega)), if_neg (by (clear ha hb h n1; omega)), same_eq, if_pos rfl]
      rfl
    · have : 0 < cmp y z := by have := z_lt q; have := cmp_swap z y; (clear ha hb h n1 q; omega)
      rw [if_pos this, if_neg q]
      (clear ha hb h n1 q this; omega)
  obtain ⟨x, h1, h2⟩ := first_of_lt ha hb h
  by_cases q : x = z
  · subst q
    refine le_of_same (ha.plus n1) hb fun y => ?_
    rw [sm]
    by_cases q : y = z
    · subst q; rw [if_pos rfl]; assumption
    · have : 0 < cmp y z := by have := z_lt q; have := cmp_swap z y; (clear ha hb h n1 sm h1 h2 q; omega)
      rw [if_neg q, h2 y this]
      (clear ha hb h n1 sm h1 h2 q this; omega)
  · have : cmp (plusO a (c z 1 z)) b < 0 := by
      refine lt_of_first (x := x) (ha.plus n1) hb (by rw [sm, if_neg q]; (clear ha hb h n1 sm h2 q; omega)) fun y hy => ?_
      have hyz : y ≠ z := fun k => by subst k; cases x <;> simp [cmp] at hy
      rw [sm, if_neg hyz, h2 y hy]
      (clear ha hb h n1 sm h1 h2 q hy hyz; omega)
    (clear ha hb h n1 sm h1 h2 q; omega)
theorem div_lt {b q Q r R : O} (hb : NF b) (h0 : b ≠ z) (hq : NF q) (hQ : NF Q) (hr : NF r) (hR : NF R) (lr : cmp r b < 0) (h : cmp q Q < 0) : cmp (plusO (timesO b q) r) (plusO (timesO b Q) R) < 0 := by
  have n1 : NF (c z 1 z) := ⟨trivial, by (clear hb h0 hq hQ hr hR lr h; omega), trivial, trivial⟩
  have a1 : cmp (plusO (timesO b q) r) (plusO (timesO b q) b) < 0 := plus_lt (hb.times hq) hr hb lr
  have e1 : plusO (timesO b q) b = timesO b (plusO q (c z 1 z)) := by rw [mul_plus hb hq n1, times_one]
  rw [e1] at a1
  have a2 : cmp (timesO b (plusO q (c z 1 z))) (timesO b Q) ≤ 0 := by
    rw [cmp_times hb h0 (hq.plus n1) hQ]
    exact suc_le hq hQ h
  have a3 : cmp (timesO b Q) (plusO (timesO b Q) R) ≤ 0 := by
    by_cases k : R = z
    · rw [k, plus_z, cmp_self]; (clear hb h0 hq hQ hr hR lr h n1 a1 e1 a2 k; omega)
    · have := lt_plus (hb.times hQ) hR k; (clear hb h0 hq hQ hr hR lr h n1 a1 e1 a2 k; omega)
  have a4 : cmp (plusO (timesO b q) r) (timesO b Q) < 0 := by
    by_cases k : cmp (timesO b (plusO q (c z 1 z))) (timesO b Q) = 0
    · rw [← cmp_eq _ _ k]; exact a1
    · exact cmp_trans _ _ _ a1 (by (clear hb h0 hq hQ hr hR lr h n1 a1 e1 a3; omega))
  by_cases k : cmp (timesO b Q) (plusO (timesO b Q) R) = 0
  · rw [← cmp_eq _ _ k]; exact a4
  · exact cmp_trans _ _ _ a4 (by (clear hb h0 hq hQ hr hR lr h n1 a1 e1 a2 a4; omega))
theorem div_unique {b q Q r R : O} (hb : NF b) (h0 : b ≠ z) (hq : NF q) (hQ : NF Q) (hr : NF r) (hR : NF R) (lr : cmp r b < 0) (lR : cmp R b < 0) (h : plusO (timesO b q) r = plusO (timesO b Q) R) : q = Q ∧ r = R := by
  have e1 : q = Q := by
    rcases cmp_range q Q with k | k | k
    · have := div_lt hb h0 hq hQ hr hR lr (by (clear hb h0 hq hQ hr hR lr lR h; omega))
      rw [h, cmp_self] at this; (clear hb h0 hq hQ hr hR lr lR h k; omega)
    · exact cmp_eq _ _ k
    · have sw := cmp_swap q Q
      have := div_lt hb h0 hQ hq hR hr lR (by (clear hb h0 hq hQ hr hR lr lR h; omega))
      rw [h, cmp_self] at this; (clear hb h0 hq hQ hr hR lr lR h k sw; omega)
  subst e1
  exact ⟨rfl, plus_inj (hb.times hq) hr hR h⟩
theorem often_none {e : O} {n : Int} {r L : O} (h : cmp L (c e n r) < 0) : cmp (timesO (c e n r) (wh 0)) L ≤ 0 ∧ cmp L (timesO (c e n r) (wh (0 + 1))) < 0 := by
  refine ⟨?_, ?_⟩
  · rw [wh_0, times_z]; exact z_le L
  · rw [times_wh (by (clear h; omega))]
    have : n * (0 + 1) = n := by (clear h; omega)
    rw [this]
    exact h
theorem cmp_head (e : O) (n : Int) (r : O) (n' : Int) (r' : O) : cmp (c e n r) (c e n' r') = if n < n' then -1 else if n' < n then 1 else cmp r r' := by
  rw [cmp, if_neg (by rw [cmp_self]; simp)]
theorem often_ok {e : O} {n : Int} {r : O} {k : Int} {t : O} (hn : 1 ≤ n) (hk : 1 ≤ k) (h : ¬ (0 < k / n ∧ 0 < cmp (timesO (c e n r) (wh (k / n))) (c e k t))) : 0 ≤ k / n ∧ cmp (timesO (c e n r) (wh (k / n))) (c e k t) ≤ 0 ∧ cmp (c e k t) (timesO (c e n r) (wh (k / n + 1))) < 0 := by
  have a0 : 0 ≤ k / n := Int.ediv_nonneg (by (clear hn h; omega)) (by (clear hk h; omega))
  have a1 : k < n * (k / n + 1) := by
    have := Int.lt_mul_ediv_self_add (x := k) (k := n) (by assumption)
    have e1 : n * (k / n + 1) = n * (k / n) + n := by rw [Int.mul_add, Int.mul_one]
    (clear hn hk h a0; omega)
  refine ⟨a0, ?_, ?_⟩
  · by_cases q : k / n = 0
    · rw [q, wh_0, times_z]; exact z_le _
    · have : ¬ 0 < cmp (timesO (c e n r) (wh (k / n))) (c e k t) := fun w => h ⟨by (clear hn hk h a1 w; omega), w⟩
      (clear hn hk h a0 a1 q; omega)
  · rw [times_wh (by (clear hn hk h a1; omega)), cmp_head, if_pos a1]
    (clear hn hk h a0 a1; omega)
theorem often_less {e : O} {n : Int} {r : O} {k : Int} {t : O} (hn : 1 ≤ n) (hk : 1 ≤ k) (h1 : 0 < k / n) (h2 : 0 < cmp (timesO (c e n r) (wh (k / n))) (c e k t)) : 0 ≤ k / n - 1 ∧ cmp (timesO (c e n r) (wh (k / n - 1))) (c e k t) ≤ 0 ∧ cmp (c e k t) (timesO (c e n r) (wh (k / n - 1 + 1))) < 0 := by
  have a1 : n * (k / n) ≤ k := Int.mul_ediv_self_le (by (clear hk h1 h2; omega))
  have e1 : n * (k / n - 1) = n * (k / n) - n := by rw [Int.mul_sub, Int.mul_one]
  refine ⟨by (clear hn hk h2 a1 e1; omega), ?_, ?_⟩
  · by_cases q : k / n - 1 = 0
    · rw [q, wh_0, times_z]; exact z_le _
    · rw [times_wh (by (clear hn hk h2 a1 e1; omega)), cmp_head, if_pos (by (clear hk h1 h2 q; omega))]
      (clear hn hk h1 h2 a1 e1 q; omega)
  · have e2 : k / n - 1 + 1 = k / n := by (clear hn hk h1 h2 a1 e1; omega)
    rw [e2]
    have := cmp_swap (timesO (c e n r) (wh (k / n))) (c e k t)
    (clear hn hk h1 a1 e1 e2; omega)
end O
end Nm
namespace Nm
namespace O
noncomputable abbrev one : O := c z 1 z
theorem NF.one : NF one := ⟨trivial, by omega, trivial, trivial⟩
theorem one_le_ne {f : O} (hf : NF f) (h : f ≠ z) : cmp one f ≤ 0 := by
  have := suc_le (a := z) trivial hf (z_lt h)
  rw [z_plus] at this
  exact this
theorem minus_lt {e x y : O} (he : NF e) (hx : NF x) (hy : NF y) (h1 : cmp e x ≤ 0) (h2 : cmp e y ≤ 0) (h : cmp y x < 0) : cmp (minusO y e) (minusO x e) < 0 := by
  have p1 := plus_minus hx he h1
  have p2 := plus_minus hy he h2
  have := cmp_plus he (hy.minus h2) (hx.minus h1)
  rw [p1, p2] at this
  (clear he hx hy h1 h2 p1 p2; omega)
noncomputable def Lm : O → Prop
  | z => True
  | c f _ t => f ≠ z ∧ Lm t
theorem Lm.of_same : ∀ {b : O}, NF b → same z b = 0 → Lm b
  | z, _, _ => trivial
  | c f d t, hb, h => by
    have hd := hb.2.1
    have hf : f ≠ z := fun k => by subst k; rw [same_self hb.2.2.1] at h; (clear hb; omega)
    rw [same_ne hf] at h
    exact ⟨hf, Lm.of_same hb.2.2.2 h⟩
theorem Lm.filt : ∀ (b : O), Lm (O.filt (fun y _ => decide (¬ y = z)) b)
  | z => trivial
  | c f d t => by
    rw [filt_c]
    split
    · rename_i h
      exact ⟨by simpa using h, Lm.filt t⟩
    · exact Lm.filt t
noncomputable def decr : O → O
  | z => z
  | c f d t => c (minusO f one) d (decr t)
theorem decr_Lt {f : O} (hf : NF f) (h0 : f ≠ z) : ∀ {t : O}, NF t → Lm t → Lt f t → Lt (minusO f one) (decr t)
  | z, _, _, _ => trivial
  | c g d t, ht, hl, h => ⟨minus_lt NF.one hf ht.1 (one_le_ne hf h0) (one_le_ne ht.1 hl.1) h.1, decr_Lt hf h0 ht.2.2.2 hl.2 h.2⟩
theorem NF.decr : ∀ {t : O}, NF t → Lm t → NF (O.decr t)
  | z, _, _ => trivial
  | c f d t, ht, hl => ⟨ht.1.minus (one_le_ne ht.1 hl.1), ht.2.1, decr_Lt ht.1 hl.1 ht.2.2.2 hl.2 ht.2.2.1, NF.decr ht.2.2.2 hl.2⟩
noncomputable def npow (a : O) : Nat → O
  | 0 => one
  | n + 1 => timesO (npow a n) a
theorem NF.npow {a : O} (ha : NF a) : ∀ n : Nat, NF (O.npow a n)
  | 0 => NF.one
  | n + 1 => (NF.npow ha n).times ha
noncomputable def endP (e L : O) : O := if e = z then c (decr L) 1 z else c (timesO e L) 1 z
noncomputable abbrev lim (b : O) : O := filt (fun y _ => decide (¬ y = z)) b
noncomputable def genP (a e b : O) : O := timesO (endP e (lim b)) (npow a (same z b).toNat)
noncomputable def powO (a b : O) : O :=
  if b = z then one else if a = one then a else match a with
  | z => z
  | c e n z => if e = z then genP (c e n z) e b else c (timesO e b) (if 0 < same z b then n else 1) z
  | c e n r => genP (c e n r) e b
theorem pow_z (a : O) : powO a z = one := by unfold powO; rw [if_pos rfl]
theorem pow_part {e : O} {n : Int} {b : O} (he : e ≠ z) (hb : b ≠ z) : powO (c e n z) b = c (timesO e b) (if 0 < same z b then n else 1) z := by
  unfold powO
  rw [if_neg hb, if_neg (by simp [one]; intro k; exact absurd k he)]
  simp only
  rw [if_neg he]
theorem pow_gen {e : O} {n : Int} {r b : O} (hb : b ≠ z) (ha : c e n r ≠ one) (h : e = z ∨ r ≠ z) : powO (c e n r) b = genP (c e n r) e b := by
  unfold powO
  rw [if_neg hb, if_neg ha]
  cases r with
  | z =>
    have he : e = z := by
      rcases h with h | h
      · exact h
      · exact absurd rfl h
    simp only
    rw [if_pos he]
  | c f d t => rfl
theorem pow_same {a b : O} (hb : b ≠ z) (h : a = z ∨ a = one) : powO a b = a := by
  unfold powO
  rw [if_neg hb]
  rcases h with rfl | rfl
  · rw [if_neg (by simp [one])]
  · rw [if_pos rfl]
theorem NF.endP {e L : O} (he : NF e) (hL : NF L) (hl : Lm L) : NF (O.endP e L) := by
  unfold O.endP
  split
  · exact ⟨hL.decr hl, by (clear he hL hl; omega), trivial, trivial⟩
  · exact ⟨he.times hL, by (clear he hL hl; omega), trivial, trivial⟩
theorem NF.genP {a e b : O} (ha : NF a) (he : NF e) (hb : NF b) : NF (O.genP a e b) :=
  (he.endP (hb.filt _) (Lm.filt b)).times (ha.npow _)
theorem NF.pow {a b : O} (ha : NF a) (hb : NF b) : NF (powO a b) := by
  by_cases h1 : b = z
  · rw [h1, pow_z]; exact NF.one
  · by_cases h2 : a = O.one
    · rw [pow_same h1 (.inr h2)]; exact ha
    · cases a with
      | z => rw [pow_same h1 (.inl rfl)]; exact trivial
      | c e n r =>
        by_cases h3 : e = z ∨ r ≠ z
        · rw [pow_gen h1 h2 h3]; exact ha.genP ha.1 hb
        · have he : e ≠ z := fun k => h3 (.inl k)
          have hr : r = z := Classical.byContradiction fun k => h3 (.inr k)
          subst hr
          rw [pow_part he h1]
          exact ⟨ha.1.times hb, by have := ha.2.1; split <;> omega, trivial, trivial⟩
theorem decr_more : ∀ t : O, (decr t).dp ≤ t.dp ∧ hw (decr t) ≤ hw t ∧ (decr t).len = t.len
  | z => ⟨Nat.le_refl _, Nat.le_refl _, rfl⟩
  | c f d t => by
    have h := decr_more t
    have h1 := dp_minus f one
    have h2 := hw_minus f one
    simp only [decr, dp, len]
    rw [hw_c, hw_c]
    omega
theorem hw_one : hw one = 1 := rfl
theorem npow_hw (a : O) : ∀ n : Nat, hw (npow a n) ≤ 1 + n * hw a
  | 0 => by show hw one ≤ _; rw [hw_one]; omega
  | n + 1 => by
    have h1 := npow_hw a n
    have h2 := hw_times (npow a n) a
    have e1 : (n + 1) * hw a = n * hw a + hw a := by rw [Nat.add_mul, Nat.one_mul]
    show hw (timesO (npow a n) a) ≤ _
    omega
theorem npow_dp (a : O) : ∀ n : Nat, (npow a n).dp ≤ max 1 a.dp
  | 0 => by show (1 : Nat) ≤ _; omega
  | n + 1 => by
    have h1 := npow_dp a n
    have h2 := dp_times (npow a n) a
    show (timesO (npow a n) a).dp ≤ _
    omega
theorem times_mx {a b : O} (ha : NF a) (hb : NF b) : mx (timesO a b) ≤ (mx a + 1) * (mx b + 1) := by
  cases a with
  | z =>
    have := mx_nonneg b
    show (0 : Int) ≤ (0 + 1) * (mx b + 1)
    (clear hb ha; omega)
  | c e n r => exact mx_mul ha hb
theorem npow_mx {a : O} {A : Int} (ha : NF a) (hA : mx a ≤ A) : ∀ n : Nat, mx (npow a n) + 1 ≤ 2 * (A + 2) ^ n
  | 0 => by rw [Int.pow_zero]; show mx (c z 1 z) + 1 ≤ 2 * 1; decide
  | n + 1 => by
    have h1 := npow_mx ha hA n
    have h2 := times_mx (NF.npow ha n) ha
    have m0 := mx_nonneg a
    have m1 := mx_nonneg (npow a n)
    show mx (timesO (npow a n) a) + 1 ≤ _
    have h3 : (mx (npow a n) + 1) * (mx a + 1) + 1 ≤ (mx (npow a n) + 1) * (A + 2) := by
      have e1 : (mx (npow a n) + 1) * (A + 2) = (mx (npow a n) + 1) * (A + 1) + (mx (npow a n) + 1) := by
        rw [show A + 2 = (A + 1) + 1 by (clear ha hA h1 h2 m0 m1; omega), Int.mul_add, Int.mul_one]
      have e2 : (mx (npow a n) + 1) * (mx a + 1) ≤ (mx (npow a n) + 1) * (A + 1) := Int.mul_le_mul_of_nonneg_left (by (clear ha h1 h2 m0 m1 e1; omega)) (by (clear ha hA h1 h2 m0; omega))
      (clear ha hA h1 h2 m0; omega)
    have h4 : (mx (npow a n) + 1) * (A + 2) ≤ 2 * (A + 2) ^ n * (A + 2) := Int.mul_le_mul_of_nonneg_right h1 (by (clear ha h1 h2 m1 h3; omega))
    have e3 : 2 * (A + 2) ^ (n + 1) = 2 * (A + 2) ^ n * (A + 2) := by rw [Int.pow_succ, Int.mul_assoc]
    (clear ha hA h1 m0 m1; omega)
theorem minus_one {f : O} (h : NF f) (h0 : f ≠ z) : minusO f one = match f with | z => z | c e n r => if e = z then (if n = 1 then r else c e (n - 1) r) else c e n r := by
  cases f with
  | z => exact absurd rfl h0
  | c e n r =>
    show minusO (c e n r) (c z 1 z) = _
    rw [minusO]
    simp only
    by_cases k : e = z
    · rw [if_pos k, if_pos k]
      by_cases k2 : n = 1
      · rw [if_pos k2, if_pos k2, minus_z]
      · rw [if_neg k2, if_neg k2]
    · rw [if_neg k, if_neg k]
theorem ipow_mono {B : Int} (h : 1 ≤ B) {n : Nat} : ∀ k : Nat, B ^ n ≤ B ^ (n + k)
  | 0 => Int.le_refl _
  | k + 1 => by
    have h1 := ipow_mono h (n := n) k
    have h2 : 0 ≤ B ^ (n + k) := Int.pow_nonneg (by (clear h1; omega))
    have h3 : B ^ (n + k) * 1 ≤ B ^ (n + k) * B := Int.mul_le_mul_of_nonneg_left h h2
    rw [show n + (k + 1) = n + k + 1 by (clear h h1 h2 h3; omega), Int.pow_succ]
    (clear h h2; omega)
theorem minus_one_mx {f : O} (h : NF f) (h0 : f ≠ z) : mx (minusO f one) ≤ mx f := by
  rw [minus_one h h0]
  cases f with
  | z => exact absurd rfl h0
  | c e n r =>
    have := h.2.1
    simp only
    split
    · split
      · rw [mx_c]; (clear h h0 this; omega)
      · rw [mx_c, mx_c]; (clear h h0 this; omega)
    · exact Int.le_refl _
theorem decr_mx : ∀ {t : O}, NF t → Lm t → mx (decr t) ≤ mx t
  | z, _, _ => Int.le_refl _
  | c f d t, ht, hl => by
    have h1 := decr_mx ht.2.2.2 hl.2
    have h2 := minus_one_mx ht.1 hl.1
    show mx (c (minusO f one) d (decr t)) ≤ _
    rw [mx_c, mx_c]
    (clear ht hl; omega)
theorem endP_more {e L : O} (he : NF e) (hL : NF L) (hl : Lm L) : (endP e L).dp ≤ 1 + max e.dp L.dp ∧ hw (endP e L) ≤ 1 + hw e + hw L ∧ mx (endP e L) ≤ (mx e + 1) * (mx L + 1) := by
  have h1 := decr_more L
  have h2 := decr_mx hL hl
  have h3 := dp_times e L
  have h4 := hw_times e L
  have h5 := times_mx he hL
  have m0 := mx_nonneg e
  have m1 := mx_nonneg L
  have h6 : (mx L + 1) ≤ (mx e + 1) * (mx L + 1) := by
    have : 1 * (mx L + 1) ≤ (mx e + 1) * (mx L + 1) := Int.mul_le_mul_of_nonneg_right (by (clear he hL hl h1 h2 h3 h4 h5 m1; omega)) (by (clear he hL hl h1 h2 h3 h4 h5 m0; omega))
    (clear he hL hl h1 h2 h3 h4 h5 m0 m1; omega)
  unfold endP
  split
  · simp only [dp]
    rw [hw_c, mx_c]
    simp only [hw, len, mx]
    (clear he hL hl h3 h5 m0; omega)
  · simp only [dp]
    rw [hw_c, mx_c]
    simp only [hw, len, mx]
    (clear he hL hl h1 h2 m0; omega)
end O
end Nm
namespace Nm
namespace O
theorem fin_plus {n : Int} {e : O} {k : Int} {r : O} (he : e ≠ z) : plusO (c z n z) (c e k r) = c e k r := by
  have h1 := z_lt he
  rw [plus_c, filt_c, if_neg (by simp; (clear he; omega)), same_ne (Ne.symm he)]
  show c e (0 + k) r = _
  rw [Int.zero_add]
theorem fin_times {m : Int} : ∀ {x : O}, Lm x → mulP z m z x = x
  | z, _ => rfl
  | c f d t, h => by rw [mulP_c, if_neg h.1, z_plus, fin_times h.2]
theorem lim_mul {e : O} {n n' : Int} {r r' : O} : ∀ {x : O}, Lm x → mulP e n r x = mulP e n' r' x
  | z, _ => rfl
  | c f d t, h => by rw [mulP_c, mulP_c, if_neg h.1, if_neg h.1, lim_mul h.2]
theorem lim_wh {m : Int} (h : 0 < m) : lim (wh m) = z ∧ same z (wh m) = m := by
  rw [wh_pos h]
  refine ⟨?_, ?_⟩
  · show filt _ (c z m z) = z
    rw [filt_c, if_neg (by simp)]
    rfl
  · rw [same_eq]; show m + 0 = m; (clear h; omega)
theorem end_z (e : O) : endP e z = one := by
  unfold endP
  split
  · rfl
  · rw [times_z]
theorem pow_bound {a b : O} (ha : NF a) (hb : NF b) (h : (∃ e n, a = c e n z ∧ e ≠ z) ∨ same z b ≤ 24) : (powO a b).dp ≤ 1 + max a.dp b.dp ∧ hw (powO a b) ≤ 3 + 25 * hw a + hw b := by
  have d1 : one.dp = 1 := rfl
  by_cases hb0 : b = z
  · rw [hb0, pow_z]
    have : hw one = 1 := rfl
    (clear ha hb h hb0; omega)
  · by_cases ha1 : a = one
    · rw [pow_same hb0 (.inr ha1)]; (clear ha hb h d1 hb0 ha1; omega)
    · cases a with
      | z => rw [pow_same hb0 (.inl rfl)]; simp only [dp, hw]; (clear hb d1 hb0 ha h ha1; omega)
      | c e n r =>
        have e1 : dp e + 1 ≤ dp (c e n r) := Nat.le_max_left _ _
        have e2 : hw e ≤ hw (c e n r) := Nat.le_trans (Nat.le_max_left _ _) (Nat.le_max_right _ _)
        have part : powO (c e n r) b = c (timesO e b) (if 0 < same z b then n else 1) z → (powO (c e n r) b).dp ≤ 1 + max (dp (c e n r)) b.dp ∧ hw (powO (c e n r) b) ≤ 3 + 25 * hw (c e n r) + hw b := fun k => by
          have h1 := dp_times e b
          have h2 := hw_times e b
          rw [k, hw_c]
          have e3 : dp (c (timesO e b) (if 0 < same z b then n else 1) z) = max (dp (timesO e b) + 1) 0 := rfl
          rw [e3]
          simp only [len, hw]
          (clear hb d1 hb0 ha h ha1 e2 k e3; omega)
        by_cases hg : e = z ∨ r ≠ z
        · have hs : same z b ≤ 24 := by
            rcases h with ⟨e', n', k, k'⟩ | k
            · cases k
              rcases hg with g | g
              · exact absurd g k'
              · exact absurd rfl g
            · exact k
          rw [pow_gen hb0 ha1 hg]
          unfold genP
          have nL : NF (lim b) := hb.filt _
          have em := endP_more ha.1 nL (Lm.filt b)
          have l1 : (lim b).dp ≤ b.dp := dp_filt _ b
          have l2 : hw (lim b) ≤ hw b := hw_filt _ b
          have s0 := same_nonneg z hb
          have p1 := npow_dp (c e n r) (same z b).toNat
          have p2 := npow_hw (c e n r) (same z b).toNat
          have p3 : (same z b).toNat * hw (c e n r) ≤ 24 * hw (c e n r) := Nat.mul_le_mul (by (clear hb d1 hb0 ha h ha1 e1 e2 part hg nL em l1 l2 p1 p2; omega)) (Nat.le_refl _)
          have t1 := dp_times (endP e (lim b)) (npow (c e n r) (same z b).toNat)
          have t2 := hw_times (endP e (lim b)) (npow (c e n r) (same z b).toNat)
          have em1 := em.1
          have em2 := em.2.1
          generalize hw (c e n r) = A at *
          generalize dp (c e n r) = D at *
          refine ⟨?_, ?_⟩
          · (clear hb d1 hb0 ha h ha1 hg hs nL l2 s0 t2 em1 em2 e2 p2 p3 part; omega)
          · (clear hb d1 hb0 ha h ha1 hg hs nL l1 s0 t1 em1 em2 e1 p1 part; omega)
        · have he : e ≠ z := fun k => hg (.inl k)
          have hr : r = z := Classical.byContradiction fun k => hg (.inr k)
          subst hr
          exact part (pow_part he hb0)
section
variable {x : O} {n m : Int}
end
end O
end Nm
namespace Nm
namespace O
theorem npow_add {a : O} (ha : NF a) (i : Nat) : ∀ j : Nat, npow a (i + j) = timesO (npow a i) (npow a j)
  | 0 => by show npow a i = timesO (npow a i) one; rw [times_one]
  | j + 1 => by
    show timesO (npow a (i + j)) a = timesO (npow a i) (timesO (npow a j) a)
    rw [npow_add ha i j, times_assoc (ha.npow i) (ha.npow j) ha]
theorem z_times (b : O) : timesO z b = z := rfl
theorem npow_first {e : O} {n : Int} {r : O} (ha : NF (c e n r)) : ∀ k : Nat, ∃ m t, npow (c e n r) k = c (timesO e (wh k)) m t ∧ 1 ≤ m
  | 0 => ⟨1, z, by show one = c (timesO e (wh ((0 : Nat) : Int))) 1 z; rw [show ((0 : Nat) : Int) = 0 from rfl, wh_0, times_z], by (clear ha; omega)⟩
  | k + 1 => by
    obtain ⟨m, t, h, hm⟩ := npow_first ha k
    have e1 : timesO e (wh ((k + 1 : Nat) : Int)) = plusO (timesO e (wh (k : Int))) e := by
      rw [show ((k + 1 : Nat) : Int) = (k : Int) + 1 from rfl, times_suc ha.1 (by (clear ha h hm; omega))]
    show ∃ m t, timesO (npow (c e n r) k) (c e n r) = _ ∧ _
    rw [h, e1]
    show ∃ m' t', mulP (timesO e (wh (k : Int))) m t (c e n r) = _ ∧ _
    rw [mulP_c]
    by_cases he : e = z
    · rw [if_pos he]
      refine ⟨m * n, t, ?_, one_le_mul hm ha.2.1⟩
      rw [he, plus_z]
    · rw [if_neg he]
      exact ⟨_, _, rfl, ha.2.1⟩
theorem fin_lim {k : Int} {L : O} (h0 : L ≠ z) (hl : Lm L) : plusO (wh k) L = L := by
  unfold wh
  split
  · exact z_plus L
  · cases L with
    | z => exact absurd rfl h0
    | c f d t => exact fin_plus hl.1
theorem times_ne {a b : O} (ha : a ≠ z) (hb : b ≠ z) : timesO a b ≠ z := by
  cases a with
  | z => exact absurd rfl ha
  | c e n r =>
    cases b with
    | z => exact absurd rfl hb
    | c f d t =>
      show mulP e n r (c f d t) ≠ z
      rw [mulP_c]
      split <;> simp
theorem decr_ne {L : O} (h : L ≠ z) : decr L ≠ z := by
  cases L with
  | z => exact absurd rfl h
  | c f d t => simp [decr]
noncomputable def endD (e L : O) : O := if e = z then decr L else timesO e L
theorem end_form (e L : O) : endP e L = c (endD e L) 1 z := by
  unfold endP endD
  split <;> rfl
theorem endD_ne {e L : O} (h : L ≠ z) : endD e L ≠ z := by
  unfold endD
  split
  · exact decr_ne h
  · rename_i he; exact times_ne he h
theorem part_times {D : O} {m : Int} {t D' : O} {k : Int} (h : D' ≠ z) : timesO (c D m t) (c D' k z) = c (plusO D D') k z := by
  show mulP D m t (c D' k z) = _
  rw [mulP_c, if_neg h]
  rfl
theorem absorb {e : O} {n : Int} {r L : O} (ha : NF (c e n r)) (hL : NF L) (hl : Lm L) (h0 : L ≠ z) (k : Nat) : timesO (npow (c e n r) k) (endP e L) = endP e L := by
  obtain ⟨m, t, h, _⟩ := npow_first ha k
  rw [h, end_form, part_times (endD_ne h0)]
  unfold endD
  by_cases he : e = z
  · rw [if_pos he, he, z_times, z_plus]
  · rw [if_neg he, ← mul_plus ha.1 (NF.wh (by (clear ha hL hl h0 h he; omega))) hL, fin_lim h0 hl]
noncomputable abbrev w1 : O := c one 1 z
theorem NF.w1 : NF w1 := ⟨NF.one, by omega, trivial, trivial⟩
theorem w_decr : ∀ {L : O}, NF L → Lm L → timesO w1 (decr L) = L
  | z, _, _ => rfl
  | c f d t, hL, hl => by
    have pm := plus_minus hL.1 NF.one (one_le_ne hL.1 hl.1)
    have ih := w_decr hL.2.2.2 hl.2
    show mulP one 1 z (c (minusO f one) d (decr t)) = _
    rw [mulP_c]
    by_cases g : minusO f one = z
    · rw [g, plus_z] at pm
      have ht : t = z := by
        cases t with
        | z => rfl
        | c x k u =>
          have h1 := hL.2.2.1.1
          have h2 := one_le_ne hL.2.2.2.1 hl.2.1
          have h3 := cmp_swap x f
          rw [← pm] at h1
          have := cmp_swap x one
          (clear pm g hL hl ih h3; omega)
      rw [if_pos g, ht, ← pm]
      show c one (1 * d) z = _
      rw [Int.one_mul]
    · rw [if_neg g, pm]
      exact congrArg (c f d) ih
theorem times_inj {a b d : O} (ha : NF a) (h0 : a ≠ z) (hb : NF b) (hd : NF d) (h : timesO a b = timesO a d) : b = d := by
  have := cmp_times ha h0 hb hd
  rw [h, cmp_self] at this
  exact cmp_eq _ _ this.symm
theorem Lm.same : ∀ {b : O}, Lm b → O.same z b = 0
  | z, _ => rfl
  | c f d t, h => by rw [same_ne h.1]; exact Lm.same h.2
theorem Lm.plus {a b : O} (ha : NF a) (hb : NF b) (la : Lm a) (lb : Lm b) : Lm (plusO a b) := by
  refine Lm.of_same (ha.plus hb) ?_
  cases b with
  | z => rw [plus_z]; exact la.same
  | c f d t =>
    have h0 := z_lt lb.1
    rw [same_plus hb.2.2.1, if_neg (by (clear ha la hb lb; omega)), if_pos h0]
    exact lb.same
theorem decr_plus {a b : O} (ha : NF a) (hb : NF b) (la : Lm a) (lb : Lm b) : decr (plusO a b) = plusO (decr a) (decr b) := by
  have lp := Lm.plus ha hb la lb
  refine times_inj NF.w1 (by simp) ((ha.plus hb).decr lp) ((ha.decr la).plus (hb.decr lb)) ?_
  rw [w_decr (ha.plus hb) lp, mul_plus NF.w1 (ha.decr la) (hb.decr lb), w_decr ha la, w_decr hb lb]
theorem end_plus {e a b : O} (he : NF e) (ha : NF a) (hb : NF b) (la : Lm a) (lb : Lm b) : timesO (endP e a) (endP e b) = endP e (plusO a b) := by
  by_cases h0 : b = z
  · rw [h0, end_z, times_one, plus_z]
  · rw [end_form e a, end_form e b, part_times (endD_ne h0), end_form]
    unfold endD
    by_cases k : e = z
    · rw [if_pos k, if_pos k, if_pos k, decr_plus ha hb la lb]
    · rw [if_neg k, if_neg k, if_neg k, mul_plus he ha hb]
theorem same_lim (x b : O) : same x (lim b) = if x = z then 0 else same x b := by
  show same x (filt (fun y _ => decide (¬ y = z)) b) = _
  rw [same_filt (fun y => decide (¬ y = z))]
  by_cases h : x = z
  · rw [if_pos h, if_neg (by simpa using h)]
  · rw [if_neg h, if_pos (by simpa using h)]
theorem lim_fin {b d : O} (hb : NF b) (hd : NF d) (h : lim d = z) : lim (plusO b d) = lim b ∧ same z (plusO b d) = same z b + same z d := by
  cases d with
  | z => exact ⟨rfl, by rw [plus_z]; show _ = same z b + 0; (clear hb hd h; omega)⟩
  | c f k t =>
    have hf : f = z := Classical.byContradiction fun q => by
      have : lim (c f k t) = c f k (lim t) := by show filt _ (c f k t) = _; rw [filt_c, if_pos (by simpa using q)]
      rw [this] at h
      cases h
    subst hf
    have ht := Lt_z hd.2.2.1
    subst ht
    refine ⟨same_ext ((hb.plus hd).filt _) (hb.filt _) fun x => ?_, ?_⟩
    · have e1 := same_lim x (plusO b (c z k z))
      have e2 := same_lim x b
      show same x (lim (plusO b (c z k z))) = same x (lim b)
      rw [e1, e2]
      by_cases q : x = z
      · rw [if_pos q, if_pos q]
      · have : 0 < cmp x z := by have := z_lt q; have := cmp_swap z x; (clear hb hd h e1 e2 q; omega)
        rw [if_neg q, if_neg q, same_plus (show Lt z z from trivial), if_pos this]
    · rw [same_plus (show Lt z z from trivial), cmp_self, if_neg (by (clear hb hd h; omega)), if_neg (by (clear hb hd h; omega))]
theorem lim_inf {b d : O} (hb : NF b) (hd : NF d) (h : lim d ≠ z) : lim (plusO b d) = plusO (lim b) (lim d) ∧ same z (plusO b d) = same z d := by
  cases d with
  | z => exact absurd rfl h
  | c f k t =>
    have hf : f ≠ z := fun q => by
      subst q
      apply h
      show filt _ (c z k t) = z
      rw [filt_c, if_neg (by simp), Lt_z hd.2.2.1]
      rfl
    have h0 := z_lt hf
    have el : lim (c f k t) = c f k (lim t) := by show filt _ (c f k t) = _; rw [filt_c, if_pos (by simpa using hf)]
    have lt' : Lt f (lim t) := hd.2.2.1.filt _
    have nl : NF (lim (c f k t)) := hd.filt _
    refine ⟨same_ext ((hb.plus hd).filt _) (NF.plus (hb.filt _) nl) fun x => ?_, ?_⟩
    · have e1 := same_lim x (plusO b (c f k t))
      show same x (lim (plusO b (c f k t))) = same x (plusO (lim b) (lim (c f k t)))
      rw [e1]
      have e3 := same_lim x (c f k t)
      rw [el] at e3 ⊢
      rw [same_plus lt', same_plus hd.2.2.1, e3]
      have e2 := same_lim x b
      rw [e2]
      by_cases q : x = z
      · subst q
        rw [if_pos rfl, if_neg (by (clear hb hd h hf el lt' nl e1 e3 e2; omega)), if_pos h0, if_pos rfl]
      · rw [if_neg q, if_neg q, if_neg q]
    · rw [same_plus hd.2.2.1, if_neg (by (clear hb hd h hf el lt' nl; omega)), if_pos h0]
theorem gen_plus {e : O} {n : Int} {r b d : O} (ha : NF (c e n r)) (hb : NF b) (hd : NF d) : genP (c e n r) e (plusO b d) = timesO (genP (c e n r) e b) (genP (c e n r) e d) := by
  have kb := same_nonneg z hb
  have kd := same_nonneg z hd
  have nLb : NF (lim b) := hb.filt _
  have nLd : NF (lim d) := hd.filt _
  have lb := Lm.filt b
  have ld := Lm.filt d
  have nEb := ha.1.endP nLb lb
  have nEd := ha.1.endP nLd ld
  have np := ha.npow
  by_cases h : lim d = z
  · obtain ⟨h1, h2⟩ := lim_fin hb hd h
    unfold genP
    rw [h1, h2, h, end_z]
    have e1 : (same z b + same z d).toNat = (same z b).toNat + (same z d).toNat := by (clear ha hb hd nLb nLd lb ld nEb nEd np h h1; omega)
    have e2 : timesO one (npow (c e n r) (same z d).toNat) = npow (c e n r) (same z d).toNat := one_times (np _)
    rw [e1, npow_add ha, e2, times_assoc nEb (np _) (np _)]
  · obtain ⟨h1, h2⟩ := lim_inf hb hd h
    unfold genP
    rw [h1, h2, ← end_plus ha.1 nLb nLd lb ld]
    rw [times_assoc nEb (np _) (nEd.times (np _)), ← times_assoc (np _) nEd (np _), absorb ha nLd ld h, times_assoc nEb nEd (np _)]
theorem lim_join {b : O} (hb : NF b) : plusO (lim b) (wh (same z b)) = b := by
  have k0 := same_nonneg z hb
  have nL : NF (lim b) := hb.filt _
  refine same_ext (nL.plus (NF.wh k0)) hb fun x => ?_
  by_cases h : same z b = 0
  · rw [h, wh_0, plus_z, same_lim]
    by_cases q : x = z
    · subst q; rw [if_pos rfl, h]
    · rw [if_neg q]
  · rw [wh_pos (by (clear hb nL; omega)), same_plus (show Lt z z from trivial), same_lim]
    by_cases q : x = z
    · subst q
      rw [cmp_self, if_neg (by (clear hb k0 nL h; omega)), if_neg (by (clear hb k0 nL h; omega)), if_pos rfl, same_self (r := z) trivial]
      (clear hb k0 nL h; omega)
    · have : 0 < cmp x z := by have := z_lt q; have := cmp_swap z x; (clear hb k0 nL h q; omega)
      rw [if_pos this, if_neg q]
theorem npow_part {e : O} {n : Int} (ha : NF (c e n z)) (he : e ≠ z) : ∀ k : Nat, npow (c e n z) (k + 1) = c (timesO e (wh ((k + 1 : Nat) : Int))) n z
  | 0 => by
    show timesO one (c e n z) = c (timesO e (wh 1)) n z
    have h1 : timesO one (c e n z) = c e n z := one_times ha
    rw [h1, wh_pos (by (clear ha he h1; omega)), times_one]
  | k + 1 => by
    show timesO (npow (c e n z) (k + 1)) (c e n z) = _
    rw [npow_part ha he k, part_times he, show ((k + 1 + 1 : Nat) : Int) = ((k + 1 : Nat) : Int) + 1 from rfl, times_suc ha.1 (by (clear ha he; omega))]
theorem pow_proper {e : O} {n : Int} {r b : O} (ha : NF (c e n r)) (hb : NF b) (h1 : c e n r ≠ one) : powO (c e n r) b = genP (c e n r) e b := by
  by_cases h0 : b = z
  · subst h0
    rw [pow_z]
    unfold genP
    show one = timesO (endP e z) one
    rw [end_z]
    rfl
  · by_cases hg : e = z ∨ r ≠ z
    · exact pow_gen h0 h1 hg
    · have he : e ≠ z := fun k => hg (.inl k)
      have hr : r = z := Classical.byContradiction fun k => hg (.inr k)
      subst hr
      rw [pow_part he h0]
      unfold genP
      have k0 := same_nonneg z hb
      have lj := lim_join hb
      rw [end_form]
      unfold endD
      rw [if_neg he]
      by_cases k : same z b = 0
      · rw [k, wh_0, plus_z] at lj
        rw [k, lj, if_neg (by (clear hb h0 he ha h1 hg k0 lj k; omega))]
        show _ = timesO _ one
        rw [times_one]
      · obtain ⟨j, hj⟩ : ∃ j : Nat, (same z b).toNat = j + 1 := ⟨(same z b).toNat - 1, by (clear hb h0 he ha h1 hg lj; omega)⟩
        have ej : ((j + 1 : Nat) : Int) = same z b := by (clear hb h0 he ha h1 hg lj k; omega)
        rw [hj, npow_part ha he, ej, if_pos (by (clear hb h0 he ha h1 hg k0 lj k hj; omega))]
        have hw : wh (same z b) ≠ z := by rw [wh_pos (by (clear hb h0 he ha h1 hg k0 lj k hj; omega))]; simp
        rw [part_times (times_ne he hw), ← mul_plus ha.1 (hb.filt _) (NF.wh k0), lj]
theorem pow_plus {a b d : O} (ha : NF a) (hb : NF b) (hd : NF d) : powO a (plusO b d) = timesO (powO a b) (powO a d) := by
  by_cases h1 : a = one
  · have e1 : ∀ x, powO a x = one := fun x => by
      by_cases q : x = z
      · rw [q, pow_z]
      · rw [pow_same q (.inr h1), h1]
    rw [e1, e1, e1]
    rfl
  · cases a with
    | z =>
      have e0 : ∀ x, x ≠ z → powO z x = z := fun x h => pow_same h (.inl rfl)
      by_cases q : b = z
      · rw [q, pow_z, z_plus]
        by_cases q2 : d = z
        · rw [q2, pow_z]; rfl
        · rw [e0 d q2]; rfl
      · rw [e0 b q, e0 _ (plus_ne_z q), z_times]
    | c e n r =>
      rw [pow_proper ha hb h1, pow_proper ha hd h1, pow_proper ha (hb.plus hd) h1]
      exact gen_plus ha hb hd
end O
end Nm
namespace Nm
namespace O
theorem times_left_le {a b d : O} (ha : NF a) (hb : NF b) (hd : NF d) (h : cmp b d ≤ 0) : cmp (timesO b a) (timesO d a) ≤ 0 := by
  by_cases q : cmp b d = 0
  · rw [cmp_eq _ _ q, cmp_self]; (clear ha hb hd h q; omega)
  · exact times_left ha hb hd (by (clear ha hb hd; omega))
theorem one_lt {a : O} (ha : NF a) (h0 : a ≠ z) (h1 : a ≠ one) : cmp one a < 0 := by
  have := one_le_ne ha h0
  by_cases q : cmp one a = 0
  · exact absurd (cmp_eq _ _ q).symm h1
  · (clear ha h0 h1; omega)
theorem gen_first {e : O} {n : Int} {r b : O} (ha : NF (c e n r)) (hb : NF b) : ∃ m t, genP (c e n r) e b = c (plusO (endD e (lim b)) (timesO e (wh (same z b)))) m t ∧ 1 ≤ m := by
  have k0 := same_nonneg z hb
  obtain ⟨m, t, h, hm⟩ := npow_first ha (same z b).toNat
  have ek : (((same z b).toNat : Nat) : Int) = same z b := by (clear ha hb h hm; omega)
  rw [ek] at h
  unfold genP
  rw [end_form, h]
  show ∃ m' t', mulP (endD e (lim b)) 1 z (c (timesO e (wh (same z b))) m t) = _ ∧ _
  rw [mulP_c]
  by_cases q : timesO e (wh (same z b)) = z
  · rw [if_pos q, q, plus_z]
    exact ⟨_, _, rfl, by (clear ha hb k0 h ek q; omega)⟩
  · rw [if_neg q]
    exact ⟨_, _, rfl, hm⟩
theorem npow_ne {a : O} (ha : a ≠ z) : ∀ k : Nat, npow a k ≠ z
  | 0 => by show one ≠ z; simp
  | k + 1 => times_ne (npow_ne ha k) ha
theorem pow_gt {a b : O} (ha : NF a) (h0 : a ≠ z) (h1 : a ≠ one) (hb : NF b) (hb0 : b ≠ z) : cmp one (powO a b) < 0 := by
  have o1 := one_lt ha h0 h1
  cases a with
  | z => exact absurd rfl h0
  | c e n r =>
    rw [pow_proper ha hb h1]
    have k0 := same_nonneg z hb
    by_cases hf : e = z ∧ lim b = z
    · obtain ⟨he, hl⟩ := hf
      unfold genP
      rw [hl, end_z]
      have e2 : timesO one (npow (c e n r) (same z b).toNat) = npow (c e n r) (same z b).toNat := one_times (ha.npow _)
      rw [e2]
      have kp : same z b ≠ 0 := fun k => by
        have := lim_join hb
        rw [hl, k, wh_0, plus_z] at this
        exact hb0 this.symm
      obtain ⟨j, hj⟩ : ∃ j : Nat, (same z b).toNat = j + 1 := ⟨(same z b).toNat - 1, by (clear hb hb0 ha h0 h1 o1 he hl e2; omega)⟩
      rw [hj]
      have h2 := times_left_le ha NF.one (ha.npow j) (one_le_ne (ha.npow j) (npow_ne h0 j))
      have e3 : timesO one (c e n r) = c e n r := one_times ha
      rw [e3] at h2
      show cmp one (timesO (npow (c e n r) j) (c e n r)) < 0
      by_cases q : cmp (c e n r) (timesO (npow (c e n r) j) (c e n r)) = 0
      · rw [← cmp_eq _ _ q]; exact o1
      · exact cmp_trans _ _ _ o1 (by (clear hb hb0 ha h0 h1 o1 k0 he hl e2 kp hj e3; omega))
    · obtain ⟨m, t, h, hm⟩ := gen_first ha hb
      rw [h]
      have hne : plusO (endD e (lim b)) (timesO e (wh (same z b))) ≠ z := by
        by_cases he : e = z
        · have hl : lim b ≠ z := fun k => hf ⟨he, k⟩
          rw [he, z_times, plus_z]
          exact endD_ne hl
        · have hb' := lim_join hb
          unfold endD
          rw [if_neg he, ← mul_plus ha.1 (hb.filt _) (NF.wh k0), hb']
          exact times_ne he hb0
      have hz := z_lt hne
      rw [cmp, if_pos (by (clear hb hb0 ha h0 h1 o1 k0 hf h hm hne; omega))]
      exact hz
theorem npow_pow {a b : O} (ha : NF a) (hb : NF b) : ∀ k : Nat, npow (powO a b) k = powO a (timesO b (wh (k : Int)))
  | 0 => by rw [show ((0 : Nat) : Int) = 0 from rfl, wh_0, times_z, pow_z]; rfl
  | k + 1 => by
    show timesO (npow (powO a b) k) (powO a b) = _
    rw [npow_pow ha hb k, ← pow_plus ha (hb.times (NF.wh (by (clear ha hb; omega)))) hb, ← times_suc hb (by (clear ha hb; omega))]
    rfl
theorem Lm.times {b L : O} (hb : NF b) (hL : NF L) (hl : Lm L) : Lm (timesO b L) := by
  cases b with
  | z => exact trivial
  | c f d t =>
    refine Lm.of_same (hb.times hL) ?_
    show O.same z (mulP f d t L) = 0
    by_cases q : f = z
    · subst q
      have h := same_mul_at hb hL
      rw [h, hl.same, Int.mul_zero]
    · have hz := z_lt q
      rw [same_mul_below hb hz hL, hl.same, if_pos rfl]
theorem lim_of_Lm {L : O} (hL : NF L) (hl : Lm L) : lim L = L := by
  have := lim_join hL
  rw [hl.same, wh_0, plus_z] at this
  exact this
theorem gen_lim {e : O} {n : Int} {r L : O} (hL : NF L) (hl : Lm L) : genP (c e n r) e L = endP e L := by
  unfold genP
  rw [lim_of_Lm hL hl, hl.same]
  show timesO (endP e L) one = _
  rw [times_one]
theorem end_pow {e : O} {n : Int} {r b L : O} (ha : NF (c e n r)) (hb : NF b) (hb0 : b ≠ z) (hL : NF L) (hl : Lm L) :
    endP (plusO (endD e (lim b)) (timesO e (wh (same z b)))) L = endP e (timesO b L) := by
  by_cases h0 : L = z
  · rw [h0, end_z, times_z, end_z]
  · have k0 := same_nonneg z hb
    have lj := lim_join hb
    have nlb : NF (lim b) := hb.filt _
    rw [end_form, end_form]
    congr 1
    by_cases he : e = z
    · rw [he, z_times, plus_z]
      have e1 : ∀ x, endD z x = decr x := fun x => by unfold endD; rw [if_pos rfl]
      rw [e1, e1]
      by_cases hlb : lim b = z
      · have hb2 : b = wh (same z b) := by rw [hlb, z_plus] at lj; exact lj.symm
        have kp : 0 < same z b := by
          rcases Int.lt_trichotomy 0 (same z b) with k | k | k
          · exact k
          · rw [← k, wh_0] at hb2; exact absurd hb2 hb0
          · (clear ha hb hb0 hL hl h0 lj nlb he e1 hlb hb2; omega)
        rw [hlb]
        show endD z L = _
        rw [e1, hb2, wh_pos kp]
        congr 1
        exact (fin_times hl).symm
      · have hd := decr_ne hlb
        have lb := Lm.filt b
        unfold endD
        rw [if_neg hd]
        refine times_inj NF.w1 (by simp) ((nlb.decr lb).times hL) ((hb.times hL).decr (Lm.times hb hL hl)) ?_
        rw [w_decr (hb.times hL) (Lm.times hb hL hl), ← times_assoc NF.w1 (nlb.decr lb) hL, w_decr nlb lb]
        cases b with
        | z => exact absurd rfl hb0
        | c f d t =>
          have hf : f ≠ z := fun q => by
            subst q
            apply hlb
            show filt _ (c z d t) = z
            rw [filt_c, if_neg (by simp), Lt_z hb.2.2.1]
            rfl
          have el : lim (c f d t) = c f d (lim t) := by show filt _ (c f d t) = _; rw [filt_c, if_pos (by simpa using hf)]
          rw [el]
          exact lim_mul hl
    · have e1 : ∀ x, endD e x = timesO e x := fun x => by unfold endD; rw [if_neg he]
      rw [e1, e1, ← mul_plus ha.1 nlb (NF.wh k0), lj]
      have hne := times_ne he hb0
      unfold endD
      rw [if_neg hne, times_assoc ha.1 hb hL]
theorem pow_times {a b d : O} (ha : NF a) (hb : NF b) (hd : NF d) : powO (powO a b) d = powO a (timesO b d) := by
  by_cases hd0 : d = z
  · rw [hd0, times_z, pow_z, pow_z]
  · by_cases hb0 : b = z
    · rw [hb0, z_times, pow_z, pow_same hd0 (.inr rfl)]
    · by_cases h1 : a = one
      · rw [h1, pow_same hb0 (.inr rfl), pow_same hd0 (.inr rfl), pow_same (times_ne hb0 hd0) (.inr rfl)]
      · by_cases h0 : a = z
        · rw [h0, pow_same hb0 (.inl rfl), pow_same hd0 (.inl rfl), pow_same (times_ne hb0 hd0) (.inl rfl)]
        · have gt := pow_gt ha h0 h1 hb hb0
          have nA := ha.pow hb
          have lj := lim_join hd
          have kd := same_nonneg z hd
          have nLd : NF (lim d) := hd.filt _
          have ld := Lm.filt d
          have step : powO a (timesO b d) = timesO (powO a (timesO b (lim d))) (powO a (timesO b (wh (same z d)))) := by
            rw [← pow_plus ha (hb.times nLd) (hb.times (NF.wh kd)), ← mul_plus hb nLd (NF.wh kd), lj]
          rw [step]
          have npw := npow_pow ha hb (same z d).toNat
          have ek : (((same z d).toNat : Nat) : Int) = same z d := by (clear ha hb hd hd0 hb0 h1 h0 gt nA lj nLd ld step npw; omega)
          rw [ek] at npw
          rw [← npw]
          cases a with
          | z => exact absurd rfl h0
          | c e n r =>
            have pp : ∀ x, NF x → powO (c e n r) x = genP (c e n r) e x := fun x hx => pow_proper ha hx h1
            rw [pp _ (hb.times nLd), gen_lim (hb.times nLd) (Lm.times hb nLd ld), ← end_pow ha hb hb0 nLd ld]
            obtain ⟨m, t, h, hm⟩ := gen_first ha hb
            rw [← pp b hb] at h
            have hA1 : powO (c e n r) b ≠ one := fun k => by rw [k, cmp_self] at gt; (clear hb hd hd0 hb0 lj kd nLd ld ek ha h1 h0 nA step npw pp h hm k; omega)
            rw [h] at nA hA1 ⊢
            rw [pow_proper nA hd hA1]
            rfl
end O
end Nm
namespace Nm
namespace O
noncomputable def ot : O → Int
  | z => 0
  | c _ n r => max n (ot r)
theorem ot_c (e : O) (n : Int) (r : O) : ot (c e n r) = max n (ot r) := rfl
theorem ot_le_mx : ∀ a : O, ot a ≤ mx a
  | z => Int.le_refl _
  | c e n r => by have := ot_le_mx r; rw [ot_c, mx_c]; omega
theorem ot_nonneg : ∀ a : O, 0 ≤ ot a
  | z => Int.le_refl _
  | c _ n r => by have := ot_nonneg r; rw [ot_c]; omega
theorem ot_mul {e : O} {n : Int} {r : O} (h : NF (c e n r)) : ∀ {b : O}, NF b → ot (mulP e n r b) ≤ ot (c e n r) * ot b
  | z, _ => by show (0 : Int) ≤ _ * 0; (clear h; omega)
  | c f d t, hb => by
    have ih := ot_mul h hb.2.2.2
    have h1 := h.2.1
    have hd := hb.2.1
    have a1 : n ≤ ot (c e n r) := by rw [ot_c]; (clear h hb ih h1 hd; omega)
    have a2 : ot r ≤ ot (c e n r) := by rw [ot_c]; (clear h hb ih h1 hd a1; omega)
    have b1 : d ≤ ot (c f d t) := by rw [ot_c]; (clear h hb ih h1 hd a1 a2; omega)
    have b2 : ot t ≤ ot (c f d t) := by rw [ot_c]; (clear h hb ih h1 hd a1 a2 b1; omega)
    generalize ot (c e n r) = A at *
    generalize ot (c f d t) = B at *
    have m1 : n * d ≤ A * B := Int.mul_le_mul a1 b1 (by (clear h hb h1 ih a1 a2 b1 b2; omega)) (by (clear h hb hd ih a2 b1 b2; omega))
    have m2 : A * 1 ≤ A * B := Int.mul_le_mul_of_nonneg_left (by (clear h hb h1 ih a1 a2 b2 m1; omega)) (by (clear h hb hd ih a2 b1 b2 m1; omega))
    have m3 : 1 * B ≤ A * B := Int.mul_le_mul_of_nonneg_right (by (clear h hb hd ih a2 b1 b2 m1 m2; omega)) (by (clear h hb h1 ih a1 a2 b2 m1 m2; omega))
    have m4 : A * ot t ≤ A * B := Int.mul_le_mul_of_nonneg_left b2 (by (clear h hb hd ih a2 b1 b2 m1 m2 m3; omega))
    rw [mulP_c]
    split
    · rw [ot_c]; (clear h hb h1 hd ih a1 b1 b2 m3 m4; omega)
    · rw [ot_c]; (clear h hb h1 hd a1 a2 b2 m1 m2; omega)
theorem ot_times {a b : O} (ha : NF a) (hb : NF b) : ot (timesO a b) ≤ ot a * ot b := by
  cases a with
  | z => show (0 : Int) ≤ 0 * _; (clear hb ha; omega)
  | c e n r => exact ot_mul ha hb
theorem ot_npow {a : O} (ha : NF a) : ∀ k : Nat, ot (npow a k) ≤ ot a ^ k
  | 0 => by rw [Int.pow_zero]; show ot one ≤ 1; decide
  | k + 1 => by
    have h1 := ot_times (ha.npow k) ha
    have h2 := ot_npow ha k
    have h3 := ot_nonneg a
    show ot (timesO (npow a k) a) ≤ _
    rw [Int.pow_succ]
    exact Int.le_trans h1 (Int.mul_le_mul_of_nonneg_right h2 h3)
theorem ot_gen {e : O} {n : Int} {r b : O} (ha : NF (c e n r)) (hb : NF b) : ot (genP (c e n r) e b) ≤ ot (c e n r) ^ (same z b).toNat := by
  unfold genP
  have h1 := ot_times (ha.1.endP (hb.filt _) (Lm.filt b)) (ha.npow (same z b).toNat)
  have h2 := ot_npow ha (same z b).toNat
  have h3 : ot (endP e (lim b)) = 1 := by rw [end_form]; rfl
  have h1' : ot (timesO (endP e (lim b)) (npow (c e n r) (same z b).toNat)) ≤ ot (endP e (lim b)) * ot (npow (c e n r) (same z b).toNat) := h1
  rw [h3, Int.one_mul] at h1'
  exact Int.le_trans h1' h2
theorem cube {x T : Int} (h0 : 0 ≤ x) (h : x ≤ T) (h1 : 1 ≤ T) : ∀ {k : Nat}, k ≤ 3 → x ^ k ≤ T ^ 3 := by
  have base : ∀ k : Nat, x ^ k ≤ T ^ k := fun k => by
    induction k with
    | zero => rw [Int.pow_zero, Int.pow_zero]; (clear h0 h h1; omega)
    | succ k ih =>
      rw [Int.pow_succ, Int.pow_succ]
      have p : 0 ≤ x ^ k := Int.pow_nonneg h0
      exact Int.mul_le_mul ih h h0 (Int.le_trans p ih)
  intro k hk
  have := ipow_mono h1 (n := k) (3 - k)
  rw [show k + (3 - k) = 3 by (clear h0 h h1 base this; omega)] at this
  exact Int.le_trans (base k) this
theorem pow_ot {a b : O} {T : Int} (ha : NF a) (hb : NF b) (h : ot a ≤ T) (h1 : 1 ≤ T) (hk : same z b ≤ 3) : ot (powO a b) ≤ T ^ 3 := by
  have t1 := ipow_mono h1 (n := 0) 3
  rw [Int.pow_zero, Nat.zero_add] at t1
  have o1 : ot one = 1 := rfl
  by_cases hb0 : b = z
  · rw [hb0, pow_z, o1]; exact t1
  · by_cases ha1 : a = one
    · rw [pow_same hb0 (.inr ha1), ha1, o1]; exact t1
    · cases a with
      | z => rw [pow_same hb0 (.inl rfl)]; show (0 : Int) ≤ _; (clear hb h1 hk o1 hb0 ha h ha1; omega)
      | c e n r =>
        rw [pow_proper ha hb ha1]
        have k0 := same_nonneg z hb
        exact Int.le_trans (ot_gen ha hb) (cube (ot_nonneg _) h h1 (by (clear hb h1 t1 o1 hb0 ha h ha1; omega)))
theorem pow_wide {a b : O} (ha : NF a) (hb : NF b) (hk : same z b ≤ 3) : (powO a b).dp ≤ 1 + max a.dp b.dp ∧ hw (powO a b) ≤ 3 + 4 * hw a + hw b := by
  have o1 : hw one = 1 := rfl
  have d1 : one.dp = 1 := rfl
  by_cases hb0 : b = z
  · rw [hb0, pow_z]; (clear ha hb hk hb0; omega)
  · by_cases ha1 : a = one
    · rw [pow_same hb0 (.inr ha1), ha1]; (clear ha hb hk hb0 ha1; omega)
    · cases a with
      | z => rw [pow_same hb0 (.inl rfl)]; simp only [dp, hw]; (clear hb hk o1 d1 hb0 ha ha1; omega)
      | c e n r =>
        rw [pow_proper ha hb ha1]
        have e1 : dp e + 1 ≤ dp (c e n r) := Nat.le_max_left _ _
        have e2 : hw e ≤ hw (c e n r) := Nat.le_trans (Nat.le_max_left _ _) (Nat.le_max_right _ _)
        unfold genP
        have nL : NF (lim b) := hb.filt _
        have em := endP_more ha.1 nL (Lm.filt b)
        have l1 : (lim b).dp ≤ b.dp := dp_filt _ b
        have l2 : hw (lim b) ≤ hw b := hw_filt _ b
        have s0 := same_nonneg z hb
        have p1 := npow_dp (c e n r) (same z b).toNat
        have p2 := npow_hw (c e n r) (same z b).toNat
        have p3 : (same z b).toNat * hw (c e n r) ≤ 3 * hw (c e n r) := Nat.mul_le_mul (by (clear hb o1 d1 hb0 ha ha1 e1 e2 nL em l1 l2 p1 p2; omega)) (Nat.le_refl _)
        have t1 := dp_times (endP e (lim b)) (npow (c e n r) (same z b).toNat)
        have t2 := hw_times (endP e (lim b)) (npow (c e n r) (same z b).toNat)
        have em1 := em.1
        have em2 := em.2.1
        generalize hw (c e n r) = A at *
        generalize dp (c e n r) = D at *
        refine ⟨?_, ?_⟩
        · (clear hb hk o1 d1 hb0 ha ha1 nL l2 s0 t2 em1 em2 e2 p2 p3; omega)
        · (clear hb hk o1 d1 hb0 ha ha1 nL l1 s0 t1 em1 em2 e1 p1; omega)
theorem pow_mx {a b : O} {A B : Int} {k : Nat} (ha : NF a) (hb : NF b) (h1 : mx a ≤ A) (h2 : mx b ≤ B) (hk : same z b ≤ (k : Int)) : mx (powO a b) ≤ ((A + 1) * (B + 1) + 1) * (2 * (A + 2) ^ k) := by
  have a0 := mx_nonneg a
  have b0 := mx_nonneg b
  have t0 : 1 ≤ (A + 2) ^ k := by have := ipow_mono (B := A + 2) (by (clear ha hb h2 hk b0; omega)) (n := 0) k; rw [Int.pow_zero, Nat.zero_add] at this; exact this
  have q0 : 1 * 1 ≤ (A + 1) * (B + 1) := Int.mul_le_mul (by (clear ha hb h2 hk b0 t0; omega)) (by (clear ha hb h1 hk a0 t0; omega)) (by (clear ha hb h1 h2 hk a0 b0 t0; omega)) (by (clear ha hb h2 hk b0 t0; omega))
  have r0 : A ≤ (A + 1) * (B + 1) := by
    have : (A + 1) * 1 ≤ (A + 1) * (B + 1) := Int.mul_le_mul_of_nonneg_left (by (clear ha hb h1 hk a0 t0 q0; omega)) (by (clear ha hb h2 hk b0 t0 q0; omega))
    (clear ha hb h1 h2 hk a0 b0 t0 q0; omega)
  have r1 : ((A + 1) * (B + 1) + 1) * 1 ≤ ((A + 1) * (B + 1) + 1) * (2 * (A + 2) ^ k) := Int.mul_le_mul_of_nonneg_left (by (clear ha hb h1 h2 hk a0 b0 q0 r0; omega)) (by (clear ha hb h1 h2 hk a0 b0 t0 r0; omega))
  by_cases hb0 : b = z
  · rw [hb0, pow_z]
    have : mx one = 1 := rfl
    (clear ha hb h1 h2 hk a0 b0 t0 r0 hb0; omega)
  · by_cases ha1 : a = one
    · rw [pow_same hb0 (.inr ha1)]; (clear ha hb h2 hk a0 b0 t0 q0 hb0 ha1; omega)
    · cases a with
      | z => rw [pow_same hb0 (.inl rfl)]; show (0 : Int) ≤ _; (clear hb h2 hk b0 t0 r0 hb0 ha h1 a0 ha1; omega)
      | c e n r =>
        rw [pow_proper ha hb ha1]
        have e1 : mx e ≤ mx (c e n r) := by rw [mx_c]; (clear hb h2 hk b0 t0 q0 r0 r1 hb0 ha h1 a0 ha1; omega)
        unfold genP
        have nL : NF (lim b) := hb.filt _
        have l1 : mx (lim b) ≤ mx b := mx_filt _ b
        have l0 := mx_nonneg (lim b)
        have z0 := mx_nonneg e
        have em := (endP_more ha.1 nL (Lm.filt b)).2.2
        have em2 : (mx e + 1) * (mx (lim b) + 1) ≤ (A + 1) * (B + 1) := Int.mul_le_mul (by (clear hb h2 hk b0 t0 q0 r0 r1 hb0 ha a0 ha1 nL l1 l0 z0 em; omega)) (by (clear hb hk b0 t0 q0 r0 r1 hb0 ha h1 a0 ha1 e1 nL l0 z0 em; omega)) (by (clear hb h2 hk b0 t0 q0 r0 r1 hb0 ha h1 a0 ha1 e1 nL l1 z0 em; omega)) (by (clear hb h2 hk b0 t0 q0 r0 r1 hb0 ha ha1 e1 nL l1 l0 z0 em; omega))
        have s0 := same_nonneg z hb
        have p1 := npow_mx ha h1 (same z b).toNat
        have p2 := ipow_mono (B := A + 2) (by (clear hb h2 hk b0 t0 q0 r0 r1 hb0 ha ha1 e1 nL l1 l0 z0 em em2 s0 p1; omega)) (n := (same z b).toNat) (k - (same z b).toNat)
        rw [show (same z b).toNat + (k - (same z b).toNat) = k by (clear hb h2 b0 t0 q0 r0 r1 hb0 ha h1 a0 ha1 e1 nL l1 l0 z0 em em2 p1 p2; omega)] at p2
        have t2 := times_mx (ha.1.endP nL (Lm.filt b)) (ha.npow (same z b).toNat)
        have t2' : mx (timesO (endP e (lim b)) (npow (c e n r) (same z b).toNat)) ≤ (mx (endP e (lim b)) + 1) * (mx (npow (c e n r) (same z b).toNat) + 1) := t2
        have n0 := mx_nonneg (npow (c e n r) (same z b).toNat)
        have n1 := mx_nonneg (endP e (lim b))
        have em' : mx (endP e (lim b)) ≤ (mx e + 1) * (mx (lim b) + 1) := em
        exact Int.le_trans t2' (Int.mul_le_mul (by (clear hb h2 hk b0 t0 q0 r0 r1 hb0 ha h1 a0 ha1 e1 nL l1 l0 z0 s0 p1 p2 t2 t2' n0 n1 em'; omega)) (by (clear hb h2 hk b0 t0 q0 r0 r1 hb0 ha h1 a0 ha1 e1 nL l1 l0 z0 em em2 s0 t2 t2' n0 n1 em'; omega)) (by (clear hb h2 hk b0 t0 q0 r0 r1 hb0 ha h1 a0 ha1 e1 nL l1 l0 z0 em em2 s0 p1 p2 t2 t2' n1 em'; omega)) (by (clear hb h2 hk b0 t0 r0 r1 hb0 ha h1 a0 ha1 e1 nL l1 l0 z0 em em2 s0 p1 p2 t2 t2' n0 n1 em'; omega)))
theorem same_plus_le {b d : O} (hb : NF b) (hd : NF d) : same z (plusO b d) ≤ same z b + same z d := by
  have k0 := same_nonneg z hb
  by_cases h : lim d = z
  · rw [(lim_fin hb hd h).2]; (clear hb hd k0 h; omega)
  · rw [(lim_inf hb hd h).2]; (clear hb hd h; omega)
theorem same_times_le {b d : O} (hb : NF b) (hd : NF d) (h1 : same z b ≤ 3) (h2 : same z d ≤ 3) : same z (timesO b d) ≤ 9 := by
  have k1 := same_nonneg z hb
  have k2 := same_nonneg z hd
  cases b with
  | z => show (0 : Int) ≤ 9; (clear hd h2 k2 hb h1 k1; omega)
  | c f k t =>
    show same z (mulP f k t d) ≤ 9
    by_cases q : f = z
    · subst q
      rw [same_mul_at hb hd]
      rw [same_self hb.2.2.1] at h1 k1
      have : k * same z d ≤ 3 * 3 := Int.mul_le_mul h1 h2 k2 (by (clear hd h2 k2 hb h1 k1; omega))
      assumption
    · have hz := z_lt q
      rw [same_mul_below hb hz hd]
      rw [same_ne q] at h1
      split <;> (clear hd h2 k2 hb k1 q hz; omega)
end O
end Nm
namespace Nm
namespace O
theorem mx_minus : ∀ {a b : O}, NF a → NF b → mx (minusO a b) ≤ mx a
  | a, z, _, _ => by rw [minus_z]; exact Int.le_refl _
  | z, c _ _ _, _, _ => Int.le_refl _
  | c e n r, c e' n' r', ha, hb => by
    have := mx_minus ha.2.2.2 hb.2.2.2
    have h1 := hb.2.1
    unfold minusO
    split
    · split
      · rw [mx_c]; (clear ha hb h1; omega)
      · rw [mx_c, mx_c]; (clear ha hb this; omega)
    · exact Int.le_refl _
theorem wh_more {m : Int} (h : 0 ≤ m) : (wh m).size ≤ 1 ∧ (wh m).dp ≤ 1 ∧ mx (wh m) ≤ m := by
  unfold wh
  split
  · simp [size, dp, mx]; assumption
  · simp only [size, dp, mx_c]; simp [mx]; omega
theorem quo_more {e : O} {m : Int} (he : NF e) (h : 0 ≤ m) : ∀ {a : O}, NF a → (quoO e m a).size ≤ a.size + 1 ∧ (quoO e m a).dp ≤ a.dp + 1 ∧ mx (quoO e m a) ≤ max (mx a) m
  | z, _ => by
    have := wh_more h
    simp only [quoO, size, dp, mx]; (clear he; omega)
  | c x k t, ha => by
    have w := wh_more h
    have i := quo_more he h ha.2.2.2
    have s := size_minus x e
    have d := dp_minus x e
    have m1 := mx_minus ha.1 he
    have z1 := mx_nonneg x
    have z2 := mx_nonneg t
    rw [quoO]
    split
    · simp only [size, dp, mx_c]; (clear he h ha w z1 z2; omega)
    · simp only [size, dp, mx_c]; have := ha.2.1; (clear he h ha s d m1 z1 z2 this; omega)
end O
end Nm
namespace Nm
namespace O
noncomputable def val (b : Nat) : O → Nat
  | z => 0
  | c e n r => n.toNat * b ^ val b e + val b r
structure Wr (b : Nat) (a : O) : Prop where
  nf : NF a
  mx : O.mx a < b
end O
end Nm
namespace Nm
namespace O
noncomputable def tp (b : Nat) : O → Nat
  | z => 0
  | c e _ _ => val b e + 1
end O
end Nm
namespace Nm
namespace O
open Classical in
noncomputable def rep (b s : Nat) : O := if h : ∃ o, Wr b o ∧ val b o = s then choose h else z
noncomputable def tl (b : Nat) : Nat → O
  | 0 => z
  | s + 1 => c (rep b s) ((b : Int) - 1) (tl b s)
noncomputable def dn (b : Nat) (a : O) : O := app (lessO a) (tl b (val b (lastE a)))
noncomputable def tw : Nat → O
  | 0 => c z 1 z
  | d + 1 => c (tw d) 1 z
end O
end Nm
namespace Nm
namespace O
inductive Wy (b : Nat) : O → Prop where
  | z : Wy b z
  | c {a : O} (h0 : a ≠ O.z) (nf : NF a) (w : Wr b (lessO a)) (k : Wy b (lastE a)) : Wy b a
end O
end Nm
namespace Nm
namespace O
end O
end Nm
namespace Nm
namespace O
noncomputable def xb (b : Nat) : Nat := if b * b ≤ 55 then b else 54 / b + 1
noncomputable def topO (b : Nat) : O := if b < 56 then c (c z 1 z) (xb b : Int) z else c z 55 z
structure Rw (b k : Nat) (a : O) : Prop where
  wr : Wr (b + k) a
  top : Lt (topO b) a
  tp : O.tp (b + k) a ≤ 200
end O
end Nm
namespace Nm
namespace O
structure Hi (b : Nat) (a p e : O) (n : Int) : Prop where
  app : a = O.app p (c e n z)
  wp : Wr b p
  we : Wr b e
  n1 : 1 ≤ n
  n2 : n < b
  last : lastE a = e
  div : ∃ q, val b p = q * b ^ (val b e + 1)
  lt : p ≠ z → cmp e (lastE p) < 0
  dp : p.dp ≤ a.dp
  de : e.dp < a.dp
  top : ∀ x, Lt x a → Lt x p
end O
end Nm
namespace Nm
namespace O
end O
end Nm
namespace Nm
inductive Tr where
  | z
  | c (b r : Tr)
namespace Tr
noncomputable def pts : Tr → Nat
  | z => 1
  | c b r => pts b + pts r
noncomputable def dp : Tr → Nat
  | z => 0
  | c b r => max (dp b + 1) (dp r)
noncomputable def len : Tr → Nat
  | z => 0
  | c _ r => len r + 1
noncomputable def sm (f : Nat → Nat) : Nat → Nat
  | 0 => 0
  | n + 1 => sm f n + f n
structure Hang (n M : Nat) (ch : Nat → List Nat) (ds : Nat → Nat) : Prop where
  pos : 1 ≤ n
  d0 : ds 0 = 0
  in_ : ∀ v, v < n → ∀ j, j ∈ ch v → v < j ∧ j < n ∧ ds j = ds v + 1
  dp : ∀ v, v < n → ds v ≤ M
  sum : ∀ f : Nat → Nat, sm (fun v => ((ch v).map f).sum) n + f 0 = sm f n
  len : ∀ v, v < n → (ch v).length ≤ n
structure Grown (n M k : Nat) (ch : Nat → List Nat) (ds : Nat → Nat) (t : Nat → Tr) : Prop where
  pts : ∀ v, k ≤ v → v < n → Tr.pts (t v) = 1 + ((ch v).map fun j => Tr.pts (t j)).sum
  dp : ∀ v, k ≤ v → v < n → Tr.dp (t v) + ds v ≤ M
end Tr
end Nm
namespace Nm
namespace Tr
open O
noncomputable def nO : Tr → O
  | z => .z
  | c b r => mergeO (.c (nO b) 1 .z) (nO r)
noncomputable def app : Tr → Tr → Tr
  | z, u => u
  | c b r, u => c b (app r u)
noncomputable def getT : Tr → Nat → Option Tr
  | z, _ => none
  | c b _, 0 => some b
  | c _ r, i + 1 => getT r i
noncomputable def setT : Tr → Nat → Tr → Tr
  | z, _, _ => z
  | c _ r, 0, u => app u r
  | c b r, i + 1, u => c b (setT r i u)
noncomputable def reps (b : Tr) : Nat → Tr
  | 0 => z
  | n + 1 => c b (reps b n)
noncomputable def cutT (m : Nat) : Tr → List Nat → Tr
  | t, [] => t
  | t, [i] => setT t i z
  | t, [i, j] => match getT t i with
    | some b => setT t i (reps (setT b j z) (1 + m))
    | none => t
  | t, i :: j :: k :: w => match getT t i with
    | some b => setT t i (c (cutT m b (j :: k :: w)) z)
    | none => t
end Tr
end Nm
namespace Nm
namespace Tr
open O
end Tr
end Nm
namespace Nm
namespace Tr
open O
end Tr
end Nm
namespace Nm
namespace Tr
end Tr
end Nm
namespace Nm
namespace Tr
open O
end Tr
end Nm
namespace Nm
namespace Tr
noncomputable def isz : Tr → Bool
  | z => true
  | c _ _ => false
noncomputable def bare : Tr → Nat
  | z => 0
  | c b r => (if isz b = true then 1 else bare b) + bare r
end Tr
end Nm
namespace Nm
namespace O
inductive Ru (n : Int) : O → O → Prop
  | less {a : O} : a ≠ .z → lastE a = .z → Ru n a (lessO a)
  | succ {a : O} : a ≠ .z → lastE a ≠ .z → lastE (lastE a) = .z → Ru n a (O.app (lessO a) (.c (lessO (lastE a)) n .z))
  | lim {a o : O} : a ≠ .z → lastE a ≠ .z → lastE (lastE a) ≠ .z → Ru n (lastE a) o → Ru n a (O.app (lessO a) (.c o 1 .z))
end O
namespace Tr
open O
noncomputable def LeastAt (t : Tr) (i : Nat) (b : Tr) : Prop := getT t i = some b ∧ ∀ j d, getT t j = some d → (j ≤ i → 0 ≤ cmp (nO d) (nO b)) ∧ (i < j → 0 < cmp (nO d) (nO b))
noncomputable def Lst : Tr → List Nat → Prop
  | t, [] => t = z
  | t, i :: w => ∃ b, LeastAt t i b ∧ Lst b w
end Tr
end Nm
namespace Nm
namespace O
end O
end Nm
namespace Nm
namespace O
structure Bd (d s : Nat) (m : Int) (o : O) : Prop where
  nf : o.NF
  dp : o.dp ≤ d
  sz : o.size ≤ s
  mx : O.mx o ≤ m
end O
end Nm
namespace Nm
namespace O
end O
end Nm
namespace Nm
namespace O
end O
end Nm
namespace Nm
namespace O
end O
end Nm
namespace Nm
namespace O
end O
end Nm
namespace Nm
namespace O
noncomputable def e1 : O := c z 1 z
inductive Far (B k l : Nat) : Prop
  | two : B = 2 → k = 16 → l < 2 → Far B k l
  | three : B = 3 → k = 27 → l < 3 → Far B k l
end O
end Nm
namespace Nm
namespace O
end O
end Nm
namespace Nm
namespace O
inductive Dn (f : Nat → Int) (a : O) : List O → O → Prop where
  | one : Dn f a [a] a
  | step {os : List O} {b o : O} (h : Dn f a os b) (hb : b ≠ z) (l : Lad b (f (os.length - 1)) o) : Dn f a (os ++ [o]) o
end O
end Nm
namespace Nm
namespace Tr
instance decZ : (t : Tr) → Decidable (t = z)
  | z => .isTrue rfl
  | c _ _ => .isFalse (fun h => by cases h)
noncomputable def low : List Tr → Tr
  | [] => z
  | [t] => t
  | _ :: u :: l => low (u :: l)
noncomputable def step (ls : List Tr) (s : Nat) : Option (List Tr) :=
  if s = 40 ∧ low ls = z ∧ ls.length ≤ 41 then some (z :: ls)
  else if s = 41 then
    match ls with
    | t :: u :: l => some (u.app (c t z) :: l)
    | _ => none
  else none
structure Bg (ls : List Tr) : Prop where
  ne : ls ≠ []
  lo : low ls = z ∨ ∃ b, ls = [c b z]
  len : ls.length ≤ 42
noncomputable def rtS : List Nat → Bool → Int → Int → Option (Int × Int)
  | [], _, d, m => some (d, m)
  | s :: cs, f, d, m =>
    if ¬ (s = 40 ∨ s = 41) ∨ (f = false ∧ d = 0) then none
    else
      let d' := d + 1 - 2 * (if s = 41 then 1 else 0)
      if d' < 0 then none else rtS cs false d' (max m d')
noncomputable def rt (l : List Nat) : Bool := match rtS l true 0 0 with
  | none => false
  | some (d, m) => decide (l ≠ []) && decide (d = 0) && decide (l.length ≤ 1200) && decide (m ≤ 41)
end Tr
end Nm
namespace Nm
namespace Tr
open O
inductive Fel (f : Nat → Nat) (t : Tr) : List Tr → Tr → Prop
  | one : Fel f t [t] t
  | step {ts : List Tr} {u : Tr} {w : List Nat} (h : Fel f t ts u) (hz : u ≠ z) (hw : w ≠ []) (hl : Lst u w) (hp : pts (cutT (f (ts.length - 1)) u w) ≤ 60) : Fel f t (ts ++ [cutT (f (ts.length - 1)) u w]) (cutT (f (ts.length - 1)) u w)
section
variable {f : Nat → Nat} {t u : Tr} {ts : List Tr}
end
end Tr
end Nm
namespace Nm
set_option linter.all false
section
variable {α : Type} [DecidableEq α] {β : Type}
noncomputable def gT (t : List (α × β)) (k : α) : Option β := (t.find? fun p => decide (p.1 = k)).map (·.2)
noncomputable abbrev Tab (α : Type) := List (α × List α)
noncomputable def oth (T : Tab α) (k : α) : List α := (gT T k).getD []
noncomputable def mxs (R : List (α × Nat)) : List α → Option Nat
  | [] => some 0
  | o :: l => match gT R o, mxs R l with
    | some x, some y => some (max (x + 1) y)
    | _, _ => none
noncomputable def Cl (T : Tab α) (R : List (α × Nat)) : Prop := ∀ k r, gT R k = some r → mxs R (oth T k) = some r
noncomputable def Kind (T : Tab α) (k : α) : Prop := k ∈ T.map (·.1) ∨ ∃ e, e ∈ T ∧ k ∈ e.2
structure RankOk (T : Tab α) (R : List (α × Nat)) : Prop where
  nd : (R.map (·.1)).Nodup
  cl : Cl T R
  ks : ∀ k, k ∈ R.map (·.1) ↔ Kind T k
end
end Nm
namespace Nm
open O
mutual
inductive Rw (α : Type) where
  | set (b : α) (n : Int)
  | copy (b o : α)
  | add (b o : α)
  | less (b : α)
  | times (b : α) (rs : Rws α)
  | count (rs : Rws α) (n : Int)
inductive Rws (α : Type) where
  | nil
  | cons (r : Rw α) (rs : Rws α)
end
section
variable {α : Type}
mutual
noncomputable def Rw.hb : Rw α → Nat
  | .times _ rs => rs.hb + 2
  | .count rs _ => rs.hb + 3
  | _ => 1
noncomputable def Rws.hb : Rws α → Nat
  | .nil => 0
  | .cons r rs => rs.hb + r.hb
end
mutual
noncomputable def Rw.mb : Rw α → Nat
  | .times _ rs => (rs.mb + 2) * 2
  | .count rs n => (rs.mb + 2) * (n.toNat + 1) + 1
  | _ => 1
noncomputable def Rws.mb : Rws α → Nat
  | .nil => 0
  | .cons r rs => rs.mb + r.mb
end
mutual
noncomputable def Rw.lb : Rw α → Nat
  | .count rs _ => rs.lb + 2
  | _ => 1
noncomputable def Rws.lb : Rws α → Nat
  | .nil => 0
  | .cons r rs => rs.lb + r.lb
end
mutual
noncomputable def Rw.nn : Rw α → Prop
  | .times _ rs => rs.nn
  | .count rs n => rs.nn ∧ 0 ≤ n
  | _ => True
noncomputable def Rws.nn : Rws α → Prop
  | .nil => True
  | .cons r rs => r.nn ∧ rs.nn
end
noncomputable def Rws.L : Rws α → List (Rw α)
  | .nil => []
  | .cons r rs => r :: rs.L
noncomputable def Rws.of : List (Rw α) → Rws α
  | [] => .nil
  | r :: rs => .cons r (Rws.of rs)
structure Wb (o : O) (h m l : Nat) : Prop where
  nf : o.NF
  dp : o.dp ≤ 3
  hw : O.hw o ≤ h
  mx : O.mx o ≤ m
  ln : o.len ≤ l
end
end Nm
namespace Nm
open O
noncomputable def rk (os : List O) (o : O) : Nat := (os.filter fun x => decide (cmp x o < 0)).length
theorem filter_le {α : Type} {p q : α → Bool} : ∀ {l : List α}, (∀ x, x ∈ l → p x = true → q x = true) → (l.filter p).length ≤ (l.filter q).length
  | [], _ => Nat.le_refl _
  | x :: l, h => by
    have ih := filter_le (p := p) (q := q) (l := l) fun y hy => h y (List.mem_cons_of_mem _ hy)
    have hx := h x List.mem_cons_self
    rw [List.filter_cons, List.filter_cons]
    by_cases e : p x = true
    · rw [if_pos e, if_pos (hx e)]
      simp only [List.length_cons]
      (clear h hx e; omega)
    · rw [if_neg e]
      split
      · simp only [List.length_cons]; (clear h hx e; omega)
      · exact ih
theorem filter_lt {α : Type} {p q : α → Bool} : ∀ {l : List α} {a : α}, a ∈ l → p a = false → q a = true → (∀ x, x ∈ l → p x = true → q x = true) → (l.filter p).length < (l.filter q).length
  | x :: l, a, ha, h1, h2, h => by
    rw [List.filter_cons, List.filter_cons]
    rcases List.mem_cons.mp ha with rfl | ha
    · have ih := filter_le (p := p) (q := q) (l := l) fun y hy => h y (List.mem_cons_of_mem _ hy)
      rw [if_neg (by rw [h1]; exact Bool.false_ne_true), if_pos h2]
      simp only [List.length_cons]
      (clear h1 h2 ha h; omega)
    · have ih := filter_lt (p := p) (q := q) ha h1 h2 fun y hy => h y (List.mem_cons_of_mem _ hy)
      have hx := h x List.mem_cons_self
      by_cases e : p x = true
      · rw [if_pos e, if_pos (hx e)]
        simp only [List.length_cons]
        (clear h1 h2 h ha hx e; omega)
      · rw [if_neg e]
        split
        · simp only [List.length_cons]; (clear h1 h2 h ha hx e; omega)
        · exact ih
theorem perm_of {α : Type} [DecidableEq α] : ∀ {l m : List α}, l.Nodup → (∀ x, x ∈ l → x ∈ m) → m.length = l.length → l.Perm m
  | [], m, _, _, e => by rw [List.eq_nil_of_length_eq_zero e]
  | x :: l, m, hn, hs, e => by
    rw [List.nodup_cons] at hn
    have hx := hs x List.mem_cons_self
    have h1 := List.perm_cons_erase hx
    refine List.Perm.trans (List.Perm.cons x (perm_of (m := m.erase x) hn.2 (fun y hy => ?_) ?_)) h1.symm
    · exact (List.mem_erase_of_ne (fun (z : y = x) => hn.1 (by rw [← z]; exact hy))).mpr (hs y (List.mem_cons_of_mem _ hy))
    · rw [List.length_erase_of_mem hx, e]; rfl
end Nm
namespace Nm
open O
mutual
inductive Rq (α : Type) where
  | set (b : α) (n : Int)
  | copy (b o : α)
  | add (b o : α)
  | less (b : α)
  | times (b : α) (rs : Rqs α)
  | count (rs : Rqs α) (n : Int)
  | whl (b : α) (hs : List (O × List α)) (rs : Rqs α)
  | bear (b : α) (hs : List (O × List α)) (rs : Rqs α) (o : O)
inductive Rqs (α : Type) where
  | nil
  | cons (r : Rq α) (rs : Rqs α)
end
section
variable {α : Type}
noncomputable def hgt : List (O × List α) → O
  | [] => .z
  | p :: _ => O.plusO p.1 (O.wh 1)
noncomputable def hpw (hs : List (O × List α)) : O := .c (hgt hs) 1 .z
mutual
noncomputable def Rq.hb : Rq α → Nat
  | .times _ rs => rs.hb + 2
  | .count rs _ => rs.hb + 3
  | .whl _ hs rs => rs.hb + hw (hpw hs) + 2
  | .bear _ _ rs o => rs.hb + hw o + 2
  | _ => 1
noncomputable def Rqs.hb : Rqs α → Nat
  | .nil => 0
  | .cons r rs => rs.hb + r.hb
end
mutual
noncomputable def Rq.mb : Rq α → Nat
  | .times _ rs => (rs.mb + 2) * 2
  | .count rs n => (rs.mb + 2) * (n.toNat + 1) + 1
  | .whl _ hs rs => (rs.mb + 3) * ((mx (hpw hs)).toNat + 1) + 1
  | .bear _ _ rs o => (rs.mb + 3) * ((mx o).toNat + 1) + 1
  | _ => 1
noncomputable def Rqs.mb : Rqs α → Nat
  | .nil => 0
  | .cons r rs => rs.mb + r.mb
end
mutual
noncomputable def Rq.lb : Rq α → Nat
  | .count rs _ => rs.lb + 2
  | .whl _ hs rs => match hs with
    | [] => rs.lb + 2
    | _ :: _ => 2
  | .bear _ _ rs o => rs.lb + 1 + o.len + 1
  | _ => 1
noncomputable def Rqs.lb : Rqs α → Nat
  | .nil => 0
  | .cons r rs => rs.lb + r.lb
end
noncomputable def Eok (d : Nat) (hs : List (O × List α)) : Prop := ∀ p, p ∈ hs → p.1.NF ∧ p.1.dp ≤ d ∧ O.hw p.1 ≤ 100
mutual
noncomputable def Rq.nn : Rq α → Prop
  | .times _ rs => rs.nn
  | .count rs n => rs.nn ∧ 0 ≤ n
  | .whl _ hs rs => rs.nn ∧ Eok 3 hs
  | .bear _ hs rs o => rs.nn ∧ Eok 3 hs ∧ o.NF ∧ o.dp ≤ 4
  | _ => True
noncomputable def Rqs.nn : Rqs α → Prop
  | .nil => True
  | .cons r rs => r.nn ∧ rs.nn
end
noncomputable def Rqs.L : Rqs α → List (Rq α)
  | .nil => []
  | .cons r rs => r :: rs.L
noncomputable def Rqs.of : List (Rq α) → Rqs α
  | [] => .nil
  | r :: rs => .cons r (Rqs.of rs)
structure Wq (o : O) (h m l : Nat) : Prop where
  nf : o.NF
  dp : o.dp ≤ 4
  hw : O.hw o ≤ h
  mx : O.mx o ≤ m
  ln : o.len ≤ l
end
end Nm
namespace Nm
noncomputable abbrev PJ := Int × Int
noncomputable def cmpI (a b : PJ) : Int := if a.1 < b.1 then -1 else if b.1 < a.1 then 1 else if a.2 < b.2 then -1 else if b.2 < a.2 then 1 else 0
theorem cmpI_self (a : PJ) : cmpI a a = 0 := by unfold cmpI; simp
theorem cmpI_lt {a b : PJ} : cmpI a b < 0 ↔ a.1 < b.1 ∨ (a.1 = b.1 ∧ a.2 < b.2) := by unfold cmpI; split <;> (try split) <;> (try split) <;> (try split) <;> omega
theorem cmpI_trans (a b c : PJ) (h : cmpI a b < 0) (k : cmpI b c < 0) : cmpI a c < 0 := by rw [cmpI_lt] at *; omega
theorem cmpI_range (a b : PJ) : cmpI a b = -1 ∨ cmpI a b = 0 ∨ cmpI a b = 1 := by unfold cmpI; split <;> (try split) <;> (try split) <;> (try split) <;> simp
theorem cmpI_eq (a b : PJ) (h : cmpI a b = 0) : a = b := by
  unfold cmpI at h
  have : a.1 = b.1 ∧ a.2 = b.2 := by
    split at h <;> (try split at h) <;> (try split at h) <;> (try split at h) <;> first | omega | exact ⟨by omega, by omega⟩
  exact Prod.ext this.1 this.2
theorem cmpI_swap (a b : PJ) : cmpI b a = - cmpI a b := by
  unfold cmpI
  split <;> (try split) <;> (try split) <;> (try split) <;> (try split) <;> (try split) <;> (try split) <;> (try split) <;> omega
noncomputable def rkI (os : List PJ) (o : PJ) : Nat := (os.filter fun x => decide (cmpI x o < 0)).length
theorem rkI_lt {os : List PJ} {a b : PJ} (ha : a ∈ os) (h : cmpI a b < 0) : rkI os a < rkI os b := by
  unfold rkI
  refine filter_lt ha ?_ (decide_eq_true h) fun x _ hx => ?_
  · rw [cmpI_self]; rfl
  · exact decide_eq_true (cmpI_trans x a b (of_decide_eq_true hx) h)
theorem rkI_len {os : List PJ} {a : PJ} (ha : a ∈ os) : rkI os a < os.length := by
  have h := filter_lt (p := fun x => decide (cmpI x a < 0)) (q := fun _ => true) ha (by rw [cmpI_self]; rfl) rfl fun _ _ _ => rfl
  have e : (os.filter fun _ => true) = os := List.filter_eq_self.mpr fun _ _ => rfl
  unfold rkI
  rw [e] at h
  exact h
theorem rkI_iff {os : List PJ} {a b : PJ} (ha : a ∈ os) (hb : b ∈ os) : rkI os a < rkI os b ↔ cmpI a b < 0 := by
  constructor
  · intro h
    rcases cmpI_range a b with e | e | e
    · (clear ha hb h; omega)
    · rw [cmpI_eq a b e] at h; (clear ha hb e; omega)
    · have : cmpI b a < 0 := by rw [cmpI_swap]; (clear ha hb h; omega)
      have := rkI_lt hb this
      (clear ha hb e; omega)
  · exact rkI_lt ha
theorem rkI_inj {os : List PJ} {a b : PJ} (ha : a ∈ os) (hb : b ∈ os) (h : rkI os a = rkI os b) : a = b := by
  rcases cmpI_range a b with e | e | e
  · have := rkI_lt ha (show cmpI a b < 0 by (clear ha hb h; omega)); (clear ha hb e; omega)
  · exact cmpI_eq a b e
  · have := rkI_lt hb (show cmpI b a < 0 by rw [cmpI_swap]; (clear ha hb h; omega)); (clear ha hb e; omega)
noncomputable def DescI (l : List PJ) : Prop := l.Pairwise fun a b => cmpI b a < 0
theorem desc_ofI {os : List PJ} {n : Nat} (hn : os.length = n) (hd : os.Nodup) {p : List Nat} (hp : (p.map fun i => (os.map (rkI os)).getD i 0) = List.range n) (hi : ∀ i, i ∈ p → i < n) :
    DescI ((p.map fun i => os.getD i (0, 0)).reverse) ∧ ((p.map fun i => os.getD i (0, 0)).reverse).Perm os := by
  have hm : ∀ i, i ∈ p → os.getD i (0, 0) ∈ os := fun i h => by
    have hi' := hi i h
    rw [List.getD_eq_getElem?_getD, List.getElem?_eq_getElem (by (clear hd hp hi h; omega))]
    exact List.getElem_mem _
  have he : ∀ i, i ∈ p → (os.map (rkI os)).getD i 0 = rkI os (os.getD i (0, 0)) := fun i h => by
    have hi' := hi i h
    rw [List.getD_eq_getElem?_getD, List.getD_eq_getElem?_getD, List.getElem?_map, List.getElem?_eq_getElem (by (clear hd hp hi hm h; omega))]
    rfl
  have hr : (p.map fun i => os.getD i (0, 0)).map (rkI os) = List.range n := by
    rw [List.map_map, ← hp]
    exact List.map_congr_left fun i h => (he i h).symm
  have hmem : ∀ x, x ∈ (p.map fun i => os.getD i (0, 0)) → x ∈ os := fun x hx => by
    obtain ⟨i, h1, rfl⟩ := List.mem_map.mp hx
    exact hm i h1
  generalize (p.map fun i => os.getD i (0, 0)) = asc at hr hmem
  have hlen : asc.length = n := by have := congrArg List.length hr; simpa using this
  have hpw : asc.Pairwise fun a b => cmpI a b < 0 := by
    have h1 : (asc.map (rkI os)).Pairwise (· < ·) := by rw [hr]; exact List.pairwise_lt_range
    rw [List.pairwise_map] at h1
    exact h1.imp_of_mem fun {a b} ha hb h => (rkI_iff (hmem a ha) (hmem b hb)).mp h
  constructor
  · unfold DescI
    rw [List.pairwise_reverse]
    exact hpw
  · refine (List.reverse_perm asc).trans (perm_of ?_ hmem (by (clear hd hp hi hm he hr hmem hpw; omega)))
    exact hpw.imp fun {a b} h z => by rw [z, cmpI_self] at h; (clear hn hd hp hi hm he hr hmem hlen hpw z; omega)
end Nm
namespace Nm
open O
noncomputable def exI (t : O) (p : PJ) : O := if 0 < p.1 then c t p.1 (wh p.2) else wh p.2
structure Tp (t : O) : Prop where
  nf : NF t
  ne : t ≠ z
  dp : t.dp ≤ 2
  hw : hw t ≤ 1
  mx : mx t ≤ 2
structure Pr (p : PJ) : Prop where
  a0 : 0 ≤ p.1
  a1 : p.1 ≤ 3
  b0 : 0 ≤ p.2
  b1 : p.2 ≤ 10 ^ 12
theorem z_lt {t : O} (h : t ≠ z) : cmp z t < 0 := by
  cases t with
  | z => exact absurd rfl h
  | c _ _ _ => simp [cmp]
theorem wh_more {m : Int} (h : 0 ≤ m) : (wh m).dp ≤ 1 ∧ hw (wh m) ≤ 1 ∧ mx (wh m) ≤ m ∧ (wh m).len ≤ 1 := by
  unfold wh
  split
  · simp [O.dp, hw, mx, O.len]; assumption
  · refine ⟨by simp [O.dp], by simp [hw, O.len], ?_, by simp [O.len]⟩
    rw [mx_c]; simp only [mx]; omega
theorem exI_nf {t : O} {p : PJ} (T : Tp t) (h : Pr p) : NF (exI t p) := by
  have h1 := h.b0
  unfold exI
  split
  · refine ⟨T.nf, by assumption, ?_, NF.wh h1⟩
    unfold wh
    split
    · exact trivial
    · exact ⟨z_lt T.ne, trivial⟩
  · exact NF.wh h1
theorem exI_more {t : O} {p : PJ} (T : Tp t) (h : Pr p) : (exI t p).dp ≤ 3 ∧ hw (exI t p) ≤ 2 ∧ mx (exI t p) ≤ 10 ^ 12 := by
  obtain ⟨w1, w2, w3, w4⟩ := wh_more h.b0
  have t1 := T.dp
  have t2 := T.hw
  have t3 := T.mx
  have p1 := h.a1
  have p2 := h.b1
  unfold exI
  split
  · refine ⟨?_, ?_, ?_⟩
    · simp only [O.dp]; (clear T h w2 w3 w4 t2 t3 p1 p2; omega)
    · rw [hw_c]; (clear T h w1 w3 t1 t3 p1 p2; omega)
    · rw [mx_c]; (clear T h w1 w2 w4 t1 t2; omega)
  · exact ⟨by exact Nat.le_trans (by assumption) (Nat.le_of_ble_eq_true rfl), by exact Nat.le_trans (by assumption) (Nat.le_of_ble_eq_true rfl), by (clear T h w1 w2 w4 t1 t2 t3 p1; omega)⟩
theorem wh_lt {a b : Int} (h : a < b) (ha : 0 ≤ a) : cmp (wh a) (wh b) < 0 := by
  rw [wh_pos (show 0 < b by omega)]
  by_cases e : a = 0
  · rw [e]; simp [wh, cmp]
  · rw [wh_pos (show 0 < a by (clear h; omega))]
    simp [cmp, h]
theorem exI_lt {t : O} {p q : PJ} (T : Tp t) (hp : Pr p) (hq : Pr q) (h : cmpI p q < 0) : cmp (exI t p) (exI t q) < 0 := by
  have a0 := hp.a0
  have b0 := hp.b0
  have c0 := hq.b0
  rw [cmpI_lt] at h
  unfold exI
  by_cases h2 : 0 < q.1
  · rw [if_pos h2]
    by_cases h1 : 0 < p.1
    · rw [if_pos h1]
      simp only [cmp, cmp_self]
      rw [if_neg (by simp)]
      rcases h with h | h
      · rw [if_pos h]; (clear T hp hq a0 b0 c0 h2 h1 h; omega)
      · rw [if_neg (by (clear T hp hq a0 b0 c0 h2 h1; omega)), if_neg (by (clear T hp hq a0 b0 c0 h2 h1; omega))]
        exact wh_lt h.2 b0
    · rw [if_neg h1]
      unfold wh
      split
      · simp [cmp]
      · have := z_lt T.ne
        simp only [cmp]
        rw [if_pos (by (clear T hp hq h a0 b0 c0 h2 h1; omega))]
        assumption
  · rw [if_neg h2, if_neg (by (clear T hp hq a0 b0 c0; omega))]
    exact wh_lt (by (clear T hp hq b0 c0; omega)) b0
noncomputable def numI (t : O) (f : PJ → Int) : List PJ → O
  | [] => z
  | p :: ps => c (exI t p) (f p) (numI t f ps)
theorem numI_len (t : O) (f : PJ → Int) : ∀ ps : List PJ, (numI t f ps).len = ps.length
  | [] => rfl
  | p :: ps => by simp only [numI, O.len, List.length_cons, numI_len t f ps]
theorem numI_lt {t : O} {f : PJ → Int} {p : PJ} (T : Tp t) (hp : Pr p) : ∀ {ps : List PJ}, (∀ q, q ∈ ps → Pr q ∧ cmpI q p < 0) → Lt (exI t p) (numI t f ps)
  | [], _ => trivial
  | q :: ps, h => ⟨exI_lt T (h q List.mem_cons_self).1 hp (h q List.mem_cons_self).2, numI_lt T hp fun x hx => h x (List.mem_cons_of_mem _ hx)⟩
theorem numI_nf {t : O} {f : PJ → Int} (T : Tp t) : ∀ {ps : List PJ}, DescI ps → (∀ q, q ∈ ps → Pr q ∧ 1 ≤ f q) → NF (numI t f ps)
  | [], _, _ => trivial
  | q :: ps, d, h => by
    obtain ⟨d1, d2⟩ := List.pairwise_cons.mp d
    obtain ⟨h1, h2⟩ := h q List.mem_cons_self
    exact ⟨exI_nf T h1, h2, numI_lt T h1 fun x hx => ⟨(h x (List.mem_cons_of_mem _ hx)).1, d1 x hx⟩, numI_nf T d2 fun x hx => h x (List.mem_cons_of_mem _ hx)⟩
theorem numI_more {t : O} {f : PJ → Int} {B : Int} (hB : 10 ^ 12 ≤ B) (T : Tp t) : ∀ {ps : List PJ}, (∀ q, q ∈ ps → Pr q ∧ f q ≤ B) → (numI t f ps).dp ≤ 4 ∧ hw (numI t f ps) ≤ max 2 ps.length ∧ mx (numI t f ps) ≤ B
  | [], _ => by simp [numI, O.dp, hw, mx]; (clear T; omega)
  | q :: ps, h => by
    obtain ⟨h1, h2⟩ := h q List.mem_cons_self
    obtain ⟨i1, i2, i3⟩ := numI_more hB T fun x hx => h x (List.mem_cons_of_mem _ hx)
    obtain ⟨e1, e2, e3⟩ := exI_more T h1
    have l := numI_len t f ps
    refine ⟨?_, ?_, ?_⟩
    · simp only [numI, O.dp]; (clear hB T h h1 h2 i2 i3 e2 e3 l; omega)
    · simp only [numI]; rw [hw_c, l, List.length_cons]; (clear hB T h h1 h2 i1 i3 e1 e3; omega)
    · simp only [numI]; rw [mx_c]; (clear T h h1 i1 i2 e1 e2 l; omega)
noncomputable def sumL (os : List O) : O := os.foldl plusO z
noncomputable def sumR (os : List O) : O := os.foldr plusO z
theorem sumR_nf : ∀ {os : List O}, (∀ o, o ∈ os → NF o) → NF (sumR os)
  | [], _ => trivial
  | o :: os, h => (h o List.mem_cons_self).plus (sumR_nf fun x hx => h x (List.mem_cons_of_mem _ hx))
theorem foldl_R : ∀ {os : List O} {a : O}, NF a → (∀ o, o ∈ os → NF o) → os.foldl plusO a = plusO a (sumR os)
  | [], _, _, _ => rfl
  | o :: os, a, ha, h => by
    have no := h o List.mem_cons_self
    have hr := sumR_nf (os := os) fun x hx => h x (List.mem_cons_of_mem _ hx)
    rw [List.foldl_cons, foldl_R (ha.plus no) fun x hx => h x (List.mem_cons_of_mem _ hx), plus_assoc ha no hr]
    rfl
theorem sumL_R {os : List O} (h : ∀ o, o ∈ os → NF o) : sumL os = sumR os := (foldl_R (a := z) trivial h).trans (z_plus _)
theorem sum_cut {os : List O} (h : ∀ o, o ∈ os → NF o) (k : Nat) : plusO (sumL (os.take k)) (sumR (os.drop k)) = sumL os := by
  have h1 : ∀ o, o ∈ os.take k → NF o := fun o ho => h o (List.mem_of_mem_take ho)
  have h2 : ∀ o, o ∈ os.drop k → NF o := fun o ho => h o (List.mem_of_mem_drop ho)
  have n1 : NF (sumL (os.take k)) := by rw [sumL_R h1]; exact sumR_nf h1
  rw [← foldl_R n1 h2]
  unfold sumL
  rw [← List.foldl_append, List.take_append_drop]
theorem sumL_snoc (os : List O) (o : O) : sumL (os ++ [o]) = plusO (sumL os) o := by
  unfold sumL
  rw [List.foldl_append]
  rfl
structure Lim (D H : Nat) (M : Int) (o : O) : Prop where
  nf : NF o
  dp : o.dp ≤ D
  hw : hw o ≤ H
  mx : mx o ≤ M
theorem sumR_lim {D H : Nat} {M : Int} (hM : 0 ≤ M) : ∀ {os : List O}, (∀ o, o ∈ os → Lim D H M o) → Lim D (H * os.length) (M * os.length) (sumR os)
  | [], _ => ⟨trivial, Nat.zero_le _, Nat.zero_le _, by simp [sumR, mx]⟩
  | o :: os, h => by
    have i := sumR_lim hM fun x hx => h x (List.mem_cons_of_mem _ hx)
    have q := h o List.mem_cons_self
    have e : sumR (o :: os) = plusO o (sumR os) := rfl
    rw [e]
    refine ⟨q.nf.plus i.nf, ?_, ?_, ?_⟩
    · have := dp_plus o (sumR os); have := q.dp; have := i.dp; (clear hM h i q e; omega)
    · have h1 := hw_plus o (sumR os); have h2 := q.hw; have h3 := i.hw
      rw [List.length_cons, Nat.mul_succ]; (clear hM h i q e; omega)
    · have h1 := mx_plus (b := sumR os) q.nf; have h2 := q.mx; have h3 := i.mx
      rw [List.length_cons, Int.natCast_succ, Int.mul_add]; (clear hM h i q e; omega)
theorem minus_cut {a b d : O} (ha : NF a) (hb : NF b) (hd : NF d) (h : plusO b d = a) : cmp b a ≤ 0 ∧ minusO a b = d := by
  have h1 : cmp b a ≤ 0 := by
    by_cases e : d = z
    · rw [e, plus_z] at h; rw [h, cmp_self]; exact Int.le_refl _
    · have := lt_plus hb hd e; rw [h] at this; (clear ha hb hd h e; omega)
  refine ⟨h1, plus_inj hb (ha.minus h1) hd ?_⟩
  rw [plus_minus ha hb h1, h]
theorem cmp_more {a b : O} (ha : NF a) (hb : NF b) : cmp a (plusO a b) = if b = z then 0 else -1 := by
  have h := cmp_plus ha (show NF z from trivial) hb
  rw [plus_z] at h
  rw [h]
  cases b with
  | z => rfl
  | c _ _ _ => simp [cmp]
noncomputable def prodL (a : O) (os : List O) : O := os.foldl timesO a
noncomputable def prodR (os : List O) : O := os.foldr timesO one
theorem prodR_nf : ∀ {os : List O}, (∀ o, o ∈ os → NF o) → NF (prodR os)
  | [], _ => NF.one
  | o :: os, h => (h o List.mem_cons_self).times (prodR_nf fun x hx => h x (List.mem_cons_of_mem _ hx))
theorem prodL_R : ∀ {os : List O} {a : O}, NF a → (∀ o, o ∈ os → NF o) → prodL a os = timesO a (prodR os)
  | [], a, _, _ => times_one.symm
  | o :: os, a, ha, h => by
    have no := h o List.mem_cons_self
    have hr := prodR_nf (os := os) fun x hx => h x (List.mem_cons_of_mem _ hx)
    show prodL (timesO a o) os = _
    rw [prodL_R (ha.times no) fun x hx => h x (List.mem_cons_of_mem _ hx), times_assoc ha no hr]
    rfl
noncomputable def bigT (n : Nat) : Int := (10 ^ 41) ^ (n + 1)
theorem bigT_pos (n : Nat) : 1 ≤ bigT n := by
  induction n with
  | zero => decide
  | succ n ih => unfold bigT at *; rw [Int.pow_succ]; omega
theorem prodR_lim : ∀ {os : List O}, (∀ o, o ∈ os → Lim 4 3 (10 ^ 40) o) → NF (prodR os) ∧ (prodR os).dp ≤ 4 ∧ hw (prodR os) ≤ 3 * os.length + 1 ∧ mx (prodR os) + 1 ≤ bigT os.length
  | [], _ => ⟨NF.one, by decide, by decide, by decide⟩
  | o :: os, h => by
    obtain ⟨i1, i2, i3, i4⟩ := prodR_lim (os := os) fun x hx => h x (List.mem_cons_of_mem _ hx)
    have q := h o List.mem_cons_self
    have e : prodR (o :: os) = timesO o (prodR os) := rfl
    rw [e]
    refine ⟨q.nf.times i1, ?_, ?_, ?_⟩
    · have := dp_times o (prodR os); have := q.dp; (clear h i1 i3 i4 q e; omega)
    · have := hw_times o (prodR os); have := q.hw; rw [List.length_cons]; (clear h i1 i2 i4 q e; omega)
    · have h1 := times_mx q.nf i1
      have h2 := q.mx
      have h3 := mx_nonneg o
      have h4 := mx_nonneg (prodR os)
      have h5 : (mx o + 1) * (mx (prodR os) + 1) ≤ (10 ^ 40 + 1) * bigT os.length := Int.mul_le_mul (by (clear h i1 i2 i3 i4 q e h1 h4; omega)) i4 (by (clear h i1 i2 i3 i4 q e h1 h2 h3; omega)) (by decide)
      have h6 := bigT_pos os.length
      have h7 : bigT (os.length + 1) = bigT os.length * 10 ^ 41 := by unfold bigT; rw [Int.pow_succ]
      rw [List.length_cons, h7]
      (clear h i1 i2 i3 q e h2 h3 h6 h7; omega)
theorem bigT_le {n : Nat} (h : n ≤ 8) : bigT n ≤ 10 ^ 400 := by
  have : n = 0 ∨ n = 1 ∨ n = 2 ∨ n = 3 ∨ n = 4 ∨ n = 5 ∨ n = 6 ∨ n = 7 ∨ n = 8 := by omega
  rcases this with rfl | rfl | rfl | rfl | rfl | rfl | rfl | rfl | rfl <;> decide +kernel
theorem mul_sum {a : O} (ha : NF a) : ∀ {os : List O}, (∀ o, o ∈ os → NF o) → timesO a (sumR os) = sumR (os.map (timesO a))
  | [], _ => times_z a
  | o :: os, h => by
    have no := h o List.mem_cons_self
    have hr := sumR_nf (os := os) fun x hx => h x (List.mem_cons_of_mem _ hx)
    show timesO a (plusO o (sumR os)) = plusO (timesO a o) (sumR (os.map (timesO a)))
    rw [mul_plus ha no hr, mul_sum ha fun x hx => h x (List.mem_cons_of_mem _ hx)]
end Nm
namespace L2
open PySem PySem.Spec PyProof.Rows Nm
noncomputable def encP : O → List W
  | .z => []
  | .c e n r => .tup [.tup (encP e), .int n] :: encP r
noncomputable def enc (o : O) : W := .tup (encP o)
noncomputable def prt (e : O) (n : Int) : W := .tup [enc e, .int n]
theorem encP_z : encP .z = [] := rfl
theorem encP_c (e : O) (n : Int) (r : O) : encP (.c e n r) = prt e n :: encP r := rfl
theorem encP_length : ∀ a : O, (encP a).length = a.len
  | .z => rfl
  | .c e n r => by rw [encP_c, List.length_cons, encP_length r]; rfl
theorem prt_flat {e : O} {n : Int} (h : W.flats (encP e) = true) : (prt e n).flat = true := by
  simp [prt, enc, W.flat, W.flats, h]
theorem encP_flat : ∀ a : O, W.flats (encP a) = true
  | .z => by simp [encP, W.flats]
  | .c e n r => by
    rw [encP_c]
    simp [W.flats, prt_flat (encP_flat e), encP_flat r]
theorem enc_flat (a : O) : (enc a).flat = true := by simp [enc, W.flat, encP_flat a]
theorem prt_flat' (e : O) (n : Int) : (prt e n).flat = true := prt_flat (encP_flat e)
theorem encP_dep : ∀ a : O, W.deps (encP a) ≤ 2 * a.dp
  | .z => by simp [encP, W.deps]
  | .c e n r => by
    have h1 := encP_dep e
    have h2 := encP_dep r
    rw [encP_c]
    simp only [W.deps, prt, enc, W.dep, O.dp]
    omega
theorem enc_dep (a : O) : (enc a).dep ≤ 2 * a.dp + 1 := by
  have := encP_dep a
  simp only [enc, W.dep]
  omega
theorem prt_dep (e : O) (n : Int) : (prt e n).dep ≤ 2 * e.dp + 2 := by
  have := enc_dep e
  simp only [prt, W.dep, W.deps]
  omega
theorem encP_eq : ∀ a b : O, W.eqs (encP a) (encP b) = decide (a = b)
  | .z, .z => by simp [encP, W.eqs]
  | .z, .c _ _ _ => by simp [encP, W.eqs]
  | .c _ _ _, .z => by simp [encP, W.eqs]
  | .c e n r, .c e' n' r' => by
    have h1 := encP_eq e e'
    have h2 := encP_eq r r'
    simp only [encP, W.eqs, W.eq_tup, W.eq_int, h1, h2, Bool.and_true]
    rw [Bool.eq_iff_iff]
    simp only [Bool.and_eq_true, decide_eq_true_eq, beq_iff_eq, O.c.injEq]
    constructor
    · rintro ⟨⟨a, b⟩, c⟩; exact ⟨a, b, c⟩
    · rintro ⟨a, b, c⟩; exact ⟨⟨a, b⟩, c⟩
theorem enc_eq (a b : O) : (enc a).eq (enc b) = decide (a = b) := encP_eq a b
theorem prt_eq (e e' : O) (n n' : Int) : (prt e n).eq (prt e' n') = (decide (e = e') && decide (n = n')) := by
  have := enc_eq e e'
  simp only [prt, W.eq_tup, W.eq_int, W.eqs, this, Bool.and_true]
  congr 1
end L2
namespace L2
open PySem PySem.Spec PyProof.Rows Nm
theorem tup_eq (a b : O) : (W.tup (encP a)).eq (W.tup (encP b)) = decide (a = b) := enc_eq a b
theorem tup_flat (a : O) : (W.tup (encP a)).flat = true := enc_flat a
theorem tup_dep (a : O) : (W.tup (encP a)).dep ≤ 2 * a.dp + 1 := enc_dep a
noncomputable def cmpZ (n m : Int) : Int := if n < m then -1 else if m < n then 1 else 0
noncomputable def cmpP (e : O) (n : Int) (e' : O) (n' : Int) : Int := if O.cmp e e' ≠ 0 then O.cmp e e' else cmpZ n n'
theorem cmp_c (e : O) (n : Int) (r e' : O) (n' : Int) (r' : O) : O.cmp (.c e n r) (.c e' n' r') = if cmpP e n e' n' ≠ 0 then cmpP e n e' n' else O.cmp r r' := by
  unfold cmpP cmpZ
  rw [O.cmp]
  by_cases h : O.cmp e e' = 0
  · rcases Int.lt_trichotomy n n' with k | k | k
    · have k' : ¬ n' < n := by (clear h; omega)
      simp [h, k]
    · subst k
      simp [h]
    · have k' : ¬ n < n' := by (clear h; omega)
      simp [h, k, k']
  · simp [h]
theorem cmpP_zero {e : O} {n : Int} {e' : O} {n' : Int} : cmpP e n e' n' = 0 ↔ e = e' ∧ n = n' := by
  unfold cmpP cmpZ
  constructor
  · intro h
    by_cases he : O.cmp e e' = 0
    · rw [if_neg (by simpa using he)] at h
      refine ⟨O.cmp_eq _ _ he, ?_⟩
      split at h
      · (clear he; omega)
      · split at h
        · (clear he; omega)
        · (clear he h; omega)
    · rw [if_pos he] at h; exact absurd h he
  · rintro ⟨rfl, rfl⟩
    simp [O.cmp_self]
theorem compW_pure {C : Gp → Prop} {tt : WT} {te : WE} {i : Nat} {p : W → Bool} {f : W → W} {τ0 : WSt} {G : Gp} {q : List W → Gp → Prop} (hC : C G) : ∀ {ws acc : List W} {τ : WSt},
    (∀ w ∈ ws, ∀ k : Bool → Gp → Prop, k (p w) G → tt (τ0.set i (some w)) G k) → (∀ w ∈ ws, p w = true → ∀ k : W → Gp → Prop, k (f w) G → te (τ0.set i (some w)) G k) → acc.length + ws.length ≤ 100000 → (∀ x, τ.set i x = τ0.set i x) →
    q (acc ++ (ws.filter p).map f) G → compW C (hName i) tt te ws τ G acc q
  | [], acc, τ, _, _, _, _, hq => ⟨hC, by simpa using hq⟩
  | w :: ws, acc, τ, ht, he, hl, hτ, hq => by
    refine ⟨hC, ?_⟩
    show tt (τ.set i (some w)) G _
    rw [hτ]
    refine ht w List.mem_cons_self _ ?_
    have hτ' : ∀ x, (τ0.set i (some w)).set i x = τ0.set i x := fun x => List.set_set ..
    cases hp : p w with
    | true =>
      rw [if_pos rfl]
      refine he w List.mem_cons_self hp _ ⟨by simp at hl; (clear hC ht he hτ hq hτ' hp; omega), ?_⟩
      refine compW_pure hC (fun u hu => ht u (List.mem_cons_of_mem _ hu)) (fun u hu => he u (List.mem_cons_of_mem _ hu)) (by simp at hl ⊢; (clear hC ht he hτ hq hτ' hp; omega)) hτ' ?_
      rw [List.filter_cons, hp] at hq
      simpa using hq
    | false =>
      rw [if_neg Bool.false_ne_true]
      refine compW_pure hC (fun u hu => ht u (List.mem_cons_of_mem _ hu)) (fun u hu => he u (List.mem_cons_of_mem _ hu)) (by simp at hl ⊢; (clear hC ht he hτ hq hτ' hp; omega)) hτ' ?_
      rw [List.filter_cons, hp] at hq
      simpa using hq
theorem encP_inj {a b : O} (h : encP a = encP b) : a = b := by
  have := encP_eq a b
  rw [h, W.eqs_refl _ (encP_flat b)] at this
  simpa using this.symm
theorem encP_app : ∀ a b : O, encP (a.app b) = encP a ++ encP b
  | .z, b => by simp [O.app, encP]
  | .c e n r, b => by
    show encP (.c e n (r.app b)) = _
    rw [encP_c, encP_c, encP_app r b]
    rfl
theorem atI0 {α : Type} (x : α) (xs : List α) : atI (x :: xs) 0 = some x := by
  simp [atI, ixN]
theorem atI1 {α : Type} (x y : α) (xs : List α) : atI (x :: y :: xs) 1 = some y := by
  have h : (1 : Int) < ((xs.length : Int) + 1 + 1) := by omega
  simp [atI, ixN, h]
theorem int_flat (i : Int) : (W.int i).flat = true := by simp [W.flat]
theorem int_dep (i : Int) : (W.int i).dep = 0 := by simp [W.dep]
theorem int_eq (i j : Int) : (W.int i).eq (W.int j) = (i == j) := rfl
theorem nil_flat : (W.tup []).flat = true := by simp [W.flat, W.flats]
theorem nil_dep : (W.tup []).dep = 1 := by simp [W.dep, W.deps]
theorem tup_nil_eq (a : O) : (W.tup (encP a)).eq (W.tup []) = decide (a = .z) := enc_eq a .z
theorem beqZ (i j : Int) : (i == j) = decide (i = j) := by
  by_cases h : i = j <;> simp [h]
theorem GLe.done {G : Gp} {q : Gp → Prop} (h : q G) : ∃ G0, GLe G0 G ∧ q G0 := ⟨G, GLe.refl G, h⟩
theorem loopW_ind {C : Gp → Prop} {g : WG} {tb : WS} {d : WEnds} (Iv : List W → WSt → Gp → Prop) (stop : ∀ τ G, Iv [] τ G → C G ∧ d.nx τ G)
    (step : ∀ w ws τ G (k : WSt → Gp → Prop), Iv (w :: ws) τ G → (∀ τ3 G3, Iv ws τ3 G3 → k τ3 G3) → C G ∧ g w τ G fun τ2 G2 => tb { d with nx := k, ct := k, bk := d.nx } τ2 G2) : ∀ ws τ G, Iv ws τ G → loopW C g tb d ws τ G
  | [], τ, G, h => stop τ G h
  | w :: ws, τ, G, h => step w ws τ G _ h fun τ3 G3 h3 => loopW_ind Iv stop step ws τ3 G3 h3
theorem cmpZ_lt {n m : Int} (h : n < m) : cmpZ n m = -1 := by unfold cmpZ; rw [if_pos h]
theorem cmpZ_gt {n m : Int} (h : m < n) : cmpZ n m = 1 := by unfold cmpZ; rw [if_neg (by omega), if_pos h]
theorem cmpZ_self (n : Int) : cmpZ n n = 0 := by unfold cmpZ; simp
theorem cmp_len_nil {x y : O} (h : x = .z ∨ y = .z) : O.cmp x y = cmpZ x.len y.len := by
  rcases h with rfl | rfl
  · cases y with
    | z => rfl
    | c e n r => rw [cmpZ_lt (by simp only [O.len]; omega)]; rfl
  · cases x with
    | z => rfl
    | c e n r => rw [cmpZ_gt (by simp only [O.len]; omega)]; rfl
theorem cmpZ_shift {a b x y : Nat} (h : a + y = b + x) : cmpZ (a : Int) (b : Int) = cmpZ (x : Int) (y : Int) := by
  rcases Nat.lt_trichotomy x y with k | k | k
  · rw [cmpZ_lt (by omega), cmpZ_lt (by (clear h; omega))]
  · have : a = b := by omega
    subst k this
    rw [cmpZ_self, cmpZ_self]
  · rw [cmpZ_gt (by omega), cmpZ_gt (by (clear h; omega))]
end L2
namespace L2
open PySem PySem.Spec PyProof.Rows Nm
theorem encP_get : ∀ (a : O) (i : Nat), (encP a)[i]? = (a.getP i).map fun p => prt p.1 p.2
  | .z, i => by simp [encP, O.getP]
  | .c e n r, 0 => by rw [encP_c]; rfl
  | .c e n r, i + 1 => by
    rw [encP_c]
    simpa [O.getP] using encP_get r i
theorem encP_at {a : O} {i : Nat} {e : O} {n : Int} (h : a.getP i = some (e, n)) : atI (encP a) (i : Int) = some (prt e n) := atI_nat (by rw [encP_get, h]; rfl)
theorem encP_drop : ∀ (i : Nat) (a : O), (encP a).drop i = encP (O.dropO i a)
  | 0, a => rfl
  | i + 1, .z => by simp [encP, O.dropO]
  | i + 1, .c e n r => by
    rw [encP_c]
    simpa [O.dropO] using encP_drop i r
theorem encP_take : ∀ (i : Nat) (a : O), (encP a).take i = encP (O.takeO i a)
  | 0, a => by simp [O.takeO, encP]
  | i + 1, .z => by simp [encP, O.takeO]
  | i + 1, .c e n r => by
    rw [encP_c, List.take_succ_cons, encP_take i r]
    rfl
theorem cut_to (xs : List W) (k : Nat) : cutW xs none (some (k : Int)) = xs.take k := by
  unfold cutW
  rw [HT.sIx_none, HT.sIx_nat, List.drop_zero, Nat.sub_zero]
  rcases Nat.le_total k xs.length with h | h
  · rw [Nat.min_eq_left h]
  · rw [Nat.min_eq_right h, List.take_length, List.take_of_length_le h]
theorem cut_from (xs : List W) (k : Nat) : cutW xs (some (k : Int)) none = xs.drop k := by
  unfold cutW
  rw [HT.sIx_none, HT.sIx_nat]
  rcases Nat.le_total k xs.length with h | h
  · rw [Nat.min_eq_left h]
    exact List.take_of_length_le (by rw [List.length_drop]; (clear h; omega))
  · rw [Nat.min_eq_right h, List.drop_length, List.drop_of_length_le h]
    simp
theorem cut_to1 (xs : List W) : cutW xs none (some (-1)) = xs.take (xs.length - 1) := by
  unfold cutW
  have e : HT.sIx xs.length xs.length (some (-1)) = xs.length - 1 := by
    show (if (-1 : Int) < 0 then ((-1 : Int) + (xs.length : Int)).toNat else min (-1 : Int).toNat xs.length) = _
    rw [if_pos (by omega)]
    omega
  rw [HT.sIx_none, e, List.drop_zero, Nat.sub_zero]
theorem take_init : ∀ a : O, O.takeO (a.len - 1) a = O.init a
  | .z => rfl
  | .c _ _ .z => rfl
  | .c e n (.c e' n' r') => by
    have h := take_init (.c e' n' r')
    simp only [O.len, Nat.add_sub_cancel] at h ⊢
    rw [O.takeO, h]
    simp [O.init]
theorem cut_init (a : O) : cutW (encP a) none (some (-1)) = encP (O.init a) := by rw [cut_to1, encP_length, encP_take, take_init]
theorem last_c : ∀ {a : O}, a ≠ .z → ∃ e n, O.last a = .c e n .z ∧ a.getP (a.len - 1) = some (e, n)
  | .z, h => absurd rfl h
  | .c e n .z, _ => ⟨e, n, rfl, rfl⟩
  | .c e n (.c e' n' r'), _ => by
    obtain ⟨x, m, h1, h2⟩ := last_c (a := .c e' n' r') (by simp)
    refine ⟨x, m, ?_, ?_⟩
    · rw [← h1]; simp [O.last]
    · simp only [O.len, Nat.add_sub_cancel] at h2 ⊢
      rw [← h2]
      simp [O.getP]
theorem atI_neg1 {xs : List W} {w : W} (h : xs[xs.length - 1]? = some w) : atI xs (-1) = some w := by
  have hl : xs.length - 1 < xs.length := (List.getElem?_eq_some_iff.mp h).1
  unfold atI ixN
  rw [if_neg (by (clear h hl; omega)), if_pos (by (clear h; omega))]
  show xs[((-1 : Int) + (xs.length : Int)).toNat]? = some w
  rw [← h]
  congr 1
  (clear h; omega)
theorem encP_at_last {a : O} {e : O} {n : Int} (h : a.getP (a.len - 1) = some (e, n)) : atI (encP a) (-1) = some (prt e n) := atI_neg1 (by rw [encP_length, encP_get, h]; rfl)
theorem lts_encP : ∀ a b : O, W.ords (encP a) (encP b) = true ∧ W.lts (encP a) (encP b) = decide (O.cmp a b < 0)
  | .z, .z => by simp [encP, W.ords, W.lts, O.cmp]
  | .z, .c _ _ _ => by simp [encP, W.ords, W.lts, O.cmp]
  | .c _ _ _, .z => by simp [encP, W.ords, W.lts, O.cmp]
  | .c e n r, .c e' n' r' => by
    obtain ⟨o1, l1⟩ := lts_encP e e'
    obtain ⟨o2, l2⟩ := lts_encP r r'
    rw [encP_c, encP_c, W.ords, W.lts, prt_eq]
    by_cases h : (decide (e = e') && decide (n = n')) = true
    · rw [if_pos h, if_pos h]
      have h' : e = e' ∧ n = n' := by simpa using h
      obtain ⟨rfl, rfl⟩ := h'
      refine ⟨o2, ?_⟩
      rw [l2, O.cmp, if_neg (by rw [O.cmp_self]; simp), if_neg (by (clear o2 l2 o1 l1 h; omega)), if_neg (by (clear o2 l2 o1 l1 h; omega))]
    · rw [if_neg h, if_neg h]
      have ee : (W.tup (encP e)).eq (W.tup (encP e')) = decide (e = e') := tup_eq e e'
      unfold prt enc
      rw [W.ord, W.lt, W.ords, W.lts, ee]
      by_cases q : e = e'
      · subst q
        rw [if_pos (by simp), if_pos (by simp), W.ords, W.lts]
        have hn : ¬ n = n' := fun z => h (by simp [z])
        rw [int_eq, if_neg (by simpa using hn), if_neg (by simpa using hn), W.ord, W.lt]
        refine ⟨rfl, ?_⟩
        rw [O.cmp, if_neg (by rw [O.cmp_self]; simp)]
        by_cases k : n < n'
        · rw [if_pos k]; simp [k]
        · rw [if_neg k, if_pos (by (clear o2 l2 o1 l1 h ee; omega))]; simp [k]
      · rw [if_neg (by simpa using q), if_neg (by simpa using q), W.ord, W.lt]
        refine ⟨o1, ?_⟩
        rw [l1, O.cmp, if_pos (fun z => q (O.cmp_eq _ _ z))]
theorem encP_deps (a : O) (h : a.dp ≤ 70) : W.deps (encP a) ≤ 149 := by
  have := encP_dep a
  omega
end L2
namespace L2
open PySem PySem.Spec PyProof.Rows Nm
noncomputable def Df (K : PySem.W.Frag) (mg : Str → Option Value) (x : Str) (st : Stmt) (ps : List Str) : Prop := ∃ (f : Addr) (fd : FuncData), Fun K x x st f fd ∧ Binds K fd ps [] ∧ mg x = some (.ref f)
theorem Df.fx {P : Program} {w : World} {K : PySem.W.Frag} {mg : Str → Option Value} {base : Heap} {x : Str} {st : Stmt} {ps : List Str} {k : Nat} {sp : WSp} (D : Df K mg x st ps) (h : ∀ (f : Addr) (fd : FuncData), Fun K x x st f fd → WFn P w K mg base k f fd ps sp) : Fx P w K mg base x ps k sp := by
  obtain ⟨f, fd, F, b, m⟩ := D
  exact ⟨f, fd, h f fd F, m, F.kp, b⟩
noncomputable def spLaw : WSp := fun ws _ q _ => ∃ ns : List Int, ws = [.scr ns] ∧ ns.length ≤ 63 ∧ ∀ G', q (.bl true) G'
theorem scr_of {K : PySem.W.Frag} {H : Hp} {a : Addr} {ns : List Int} (hO : Only H) (hS : SqL K H a (ns.map V.int)) : Scr K H a ns := by
  rcases hS with (h | h) | h
  · rcases hO a with z | ⟨o, xs, z⟩
    · rw [z] at h; cases h
    · rw [z] at h; cases h
  · exact .inl h
  · exact .inr h
theorem law_start {K : PySem.W.Frag} {H : Hp} {a : Addr} {ns : List Int} (hO : Only H) (hS : SqL K H a (ns.map V.int)) (hl : ns.length ≤ 63) : LSp K spLaw [.ref a] H (fun v _ => v = .bl true) fun _ _ _ => False :=
  ⟨[.scr ns], fun _ => none, fun w _ => w = .bl true, fun _ _ => False, .cons (.scr (scr_of hO hS)) .nil, fun _ _ e => (by cases e), ⟨ns, rfl, hl, fun _ => rfl⟩, fun v H1 w G1 _ r _ e => (by subst e; cases r; rfl), fun _ _ _ _ _ _ z => z⟩
noncomputable def nums (os : List O) : List W := os.map fun o => .tup (encP o)
theorem nums_length (os : List O) : (nums os).length = os.length := List.length_map _
theorem nums_get {os : List O} {i : Nat} {o : O} (h : os[i]? = some o) : (nums os)[i]? = some (.tup (encP o)) := by
  unfold nums
  rw [List.getElem?_map, h]; rfl
theorem nums_app (os : List O) (o : O) : nums os ++ [.tup (encP o)] = nums (os ++ [o]) := by simp [nums]
theorem ints_at {ns : List Int} {i : Int} (h0 : 0 ≤ i) (h1 : i < ns.length) : ∃ n, atI ns i = some n := by
  have hl : i.toNat < ns.length := by omega
  have e : ((i.toNat : Nat) : Int) = i := Int.toNat_of_nonneg h0
  have q := atI_nat (List.getElem?_eq_getElem hl)
  rw [e] at q
  exact ⟨_, q⟩
theorem cpow10 (j : Int) : CPow 10 j = (0 ≤ j ∧ j ≤ 1000000) := by
  unfold CPow
  have : (10 : Int).natAbs < 2 ^ 64 := by decide
  simp [this]
theorem seqU {t u : WS} {d : WEnds} {τ : WSt} {G : Gp} (h : ∀ U : WS, U = u → t { d with nx := U d } τ G) : wSeq t u d τ G := h u rfl
theorem updG_ne' {G : Gp} {a b : Addr} {g g' : GO} (h : G b = some g') (ha : G a = none) : updG G a g b = some g' := by
  rw [updG_ne (fun z => by rw [z, ha] at h; cases h)]; exact h
theorem len_filt (p : O → Int → Bool) : ∀ a : O, (a.filt p).len ≤ a.len
  | .z => Nat.le_refl _
  | .c e n r => by
    have := len_filt p r
    rw [O.filt_c]
    split <;> simp only [O.len] <;> omega
theorem tyN_int (G : Gp) (i : Int) : tyN G (.int i) = some "int" := rfl
theorem tyN_bl (G : Gp) (b : Bool) : tyN G (.bl b) = some "bool" := rfl
theorem tyN_tup (G : Gp) (ws : List W) : tyN G (.tup ws) = some "tuple" := rfl
theorem tyN_non (G : Gp) : tyN G .non = some "NoneType" := rfl
theorem subN_ii : subN "int" "int" = true := by decide
theorem subN_ib : subN "int" "bool" = false := by decide
theorem subN_it : subN "int" "tuple" = false := by decide
theorem subN_bi : subN "bool" "int" = true := by decide
theorem subN_bb : subN "bool" "bool" = true := by decide
theorem subN_bt : subN "bool" "tuple" = false := by decide
theorem subN_tt : subN "tuple" "tuple" = true := by decide
theorem subN_ti : subN "tuple" "int" = false := by decide
theorem subN_tb : subN "tuple" "bool" = false := by decide
theorem subN_ll : subN "list" "list" = true := by decide
theorem subN_nt : subN "NoneType" "tuple" = false := by decide
theorem nums_flat : ∀ os : List O, W.flats (nums os) = true
  | [] => by simp [nums, W.flats]
  | o :: os => by
    have := nums_flat os
    have h := tup_flat o
    unfold nums at this ⊢
    simp [W.flats, this, h]
theorem nums_deps : ∀ {os : List O}, (∀ o, o ∈ os → o.dp ≤ 70) → W.deps (nums os) ≤ 141
  | [], _ => by simp [nums, W.deps]
  | o :: os, h => by
    have h1 := nums_deps (os := os) fun x hx => h x (List.mem_cons_of_mem o hx)
    have h2 := h o List.mem_cons_self
    have h3 := tup_dep o
    unfold nums at h1 ⊢
    simp only [List.map_cons, W.deps]
    (clear h; omega)
theorem nums_eqs_self (os : List O) : W.eqs (nums os) (nums os) = true := W.eqs_refl _ (nums_flat os)
theorem cast_0 : ((0 : Nat) : Int) = 0 := rfl
theorem cast_1 : ((1 : Nat) : Int) = 1 := rfl
theorem cast_2 : ((2 : Nat) : Int) = 2 := rfl
theorem cast_3 : ((3 : Nat) : Int) = 3 := rfl
theorem whileW {c : WT} {tb : WS} {d : WEnds} {τ : WSt} {G : Gp} (I : Nat → WSt → Gp → Prop) (h0 : ∃ m, I m τ G)
    (h : ∀ m τ G, I m τ G → ∀ B : WS, B = tb → c τ G fun b G1 => if b = true then ∃ N : WSt → Gp → Prop, (∀ τ1 G1, N τ1 G1 → ∃ m1, m1 < m ∧ I m1 τ1 G1) ∧ B { d with nx := N, ct := N, bk := d.nx } τ G1 else d.nx τ G1) : wWhile c tb d τ G :=
  ⟨I, h0, fun m τ G hI => h m τ G hI tb rfl⟩
theorem atI2 {α : Type} (x y v : α) (xs : List α) : atI (x :: y :: v :: xs) 2 = some v := atI_nat (j := 2) rfl
theorem upW_drop (n i : Nat) (h : i < n) : (upW n).drop i = .int (i : Int) :: (upW n).drop (i + 1) := by
  have hl : i < (upW n).length := by simp [upW, h]
  rw [List.drop_eq_getElem_cons hl]
  congr 1
  simp [upW]
theorem loop_up {C : Gp → Prop} {g : WG} {tb : WS} {d : WEnds} {τ : WSt} {G : Gp} (n : Nat) (Iv : Nat → WSt → Gp → Prop) (h0 : Iv 0 τ G) (stop : ∀ τ G, Iv n τ G → C G ∧ d.nx τ G)
    (step : ∀ (i : Nat) τ G (k : WSt → Gp → Prop), i < n → Iv i τ G → (∀ τ3 G3, Iv (i + 1) τ3 G3 → k τ3 G3) → C G ∧ g (.int (i : Int)) τ G fun τ2 G2 => tb { d with nx := k, ct := k, bk := d.nx } τ2 G2) : loopW C g tb d (upW n) τ G := by
  refine loopW_ind (fun ws τ G => ∃ i, i ≤ n ∧ ws = (upW n).drop i ∧ Iv i τ G) ?_ ?_ _ _ _ ⟨0, Nat.zero_le _, rfl, h0⟩
  · rintro τ G ⟨i, hi, hw, hI⟩
    have : i = n := by
      rcases Nat.lt_or_ge i n with k | k
      · rw [upW_drop n i k] at hw; cases hw
      · (clear h0 stop step hw hI; omega)
    subst this
    exact stop τ G hI
  · rintro w ws τ G k ⟨i, hi, hw, hI⟩ hk
    have hlt : i < n := by
      rcases Nat.lt_or_ge i n with j | j
      · exact j
      · rw [List.drop_of_length_le (by simp [upW]; assumption)] at hw; cases hw
    rw [upW_drop n i hlt] at hw
    cases hw
    exact step i τ G k hlt hI fun τ3 G3 h3 => hk τ3 G3 ⟨i + 1, hlt, rfl, h3⟩
theorem upS_drop (lo c : Int) (n i : Nat) (h : i < n) : (upS lo c n).drop i = .int (lo + (i : Int) * c) :: (upS lo c n).drop (i + 1) := by
  have hl : i < (upS lo c n).length := by simp [upS, h]
  rw [List.drop_eq_getElem_cons hl]
  congr 1
  simp [upS]
theorem loop_upS {C : Gp → Prop} {g : WG} {tb : WS} {d : WEnds} {τ : WSt} {G : Gp} (lo c : Int) (n : Nat) (Iv : Nat → WSt → Gp → Prop) (h0 : Iv 0 τ G) (stop : ∀ τ G, Iv n τ G → C G ∧ d.nx τ G)
    (step : ∀ (i : Nat) τ G (k : WSt → Gp → Prop), i < n → Iv i τ G → (∀ τ3 G3, Iv (i + 1) τ3 G3 → k τ3 G3) → C G ∧ g (.int (lo + (i : Int) * c)) τ G fun τ2 G2 => tb { d with nx := k, ct := k, bk := d.nx } τ2 G2) : loopW C g tb d (upS lo c n) τ G := by
  refine loopW_ind (fun ws τ G => ∃ i, i ≤ n ∧ ws = (upS lo c n).drop i ∧ Iv i τ G) ?_ ?_ _ _ _ ⟨0, Nat.zero_le _, rfl, h0⟩
  · rintro τ G ⟨i, hi, hw, hI⟩
    have : i = n := by
      rcases Nat.lt_or_ge i n with k | k
      · rw [upS_drop lo c n i k] at hw; cases hw
      · (clear h0 stop step hw hI; omega)
    subst this
    exact stop τ G hI
  · rintro w ws τ G k ⟨i, hi, hw, hI⟩ hk
    have hlt : i < n := by
      rcases Nat.lt_or_ge i n with j | j
      · exact j
      · rw [List.drop_of_length_le (by simp [upS]; assumption)] at hw; cases hw
    rw [upS_drop lo c n i hlt] at hw
    cases hw
    exact step i τ G k hlt hI fun τ3 G3 h3 => hk τ3 G3 ⟨i + 1, hlt, rfl, h3⟩
noncomputable def AllP (Pd : O → Int → Prop) : O → Prop
  | .z => True
  | .c e n r => Pd e n ∧ AllP Pd r
theorem AllP.imp {Pd Pd' : O → Int → Prop} (h : ∀ e n, Pd e n → Pd' e n) : ∀ {a : O}, AllP Pd a → AllP Pd' a
  | .z, _ => trivial
  | .c _ _ _, k => ⟨h _ _ k.1, AllP.imp h k.2⟩
theorem allP_dp : ∀ a : O, AllP (fun e _ => e.dp < a.dp ∧ e.size < a.size) a
  | .z => trivial
  | .c e n r => ⟨by simp only [O.dp, O.size]; omega, (allP_dp r).imp fun x m h => by simp only [O.dp, O.size]; omega⟩
theorem allP_hw : ∀ a : O, AllP (fun e _ => e.dp < a.dp ∧ O.hw e ≤ O.hw a) a
  | .z => trivial
  | .c e n r => ⟨by rw [O.hw_c]; simp only [O.dp]; omega, (allP_hw r).imp fun x m h => by rw [O.hw_c]; simp only [O.dp]; omega⟩
noncomputable def mapP (p : O → Int → Bool) (f : O → Int → W) : O → List W
  | .z => []
  | .c e n r => if p e n then f e n :: mapP p f r else mapP p f r
theorem comp_enc {C : Gp → Prop} {tt : WT} {te : WE} {i : Nat} {τ0 : WSt} {G : Gp} {q : List W → Gp → Prop} {Pd : O → Int → Prop} (p : O → Int → Bool) (f : O → Int → W) (hC : C G) : ∀ {a : O} {acc : List W} {τ : WSt}, AllP Pd a →
    (∀ e n, Pd e n → ∀ k : Bool → Gp → Prop, k (p e n) G → tt (τ0.set i (some (prt e n))) G k) → (∀ e n, Pd e n → p e n = true → ∀ k : W → Gp → Prop, k (f e n) G → te (τ0.set i (some (prt e n))) G k) → acc.length + a.len ≤ 100000 → (∀ x, τ.set i x = τ0.set i x) →
    q (acc ++ mapP p f a) G → compW C (hName i) tt te (encP a) τ G acc q
  | .z, acc, τ, _, _, _, _, _, hq => ⟨hC, by simpa [mapP] using hq⟩
  | .c e n r, acc, τ, hP, ht, he, hl, hτ, hq => by
    rw [encP_c]
    refine ⟨hC, ?_⟩
    show tt (τ.set i (some (prt e n))) G _
    rw [hτ]
    refine ht e n hP.1 _ ?_
    have hτ' : ∀ x, (τ0.set i (some (prt e n))).set i x = τ0.set i x := fun x => List.set_set ..
    simp only [O.len] at hl
    rw [mapP] at hq
    cases hp : p e n with
    | true =>
      rw [if_pos rfl]
      refine he e n hP.1 hp _ ⟨by (clear hC hP ht he hτ hq hτ' hp; omega), ?_⟩
      rw [hp, if_pos rfl] at hq
      exact comp_enc p f hC hP.2 ht he (by rw [List.length_append]; simp; (clear hC hP ht he hτ hq hτ' hp; omega)) hτ' (by simpa using hq)
    | false =>
      rw [if_neg Bool.false_ne_true]
      rw [hp, if_neg Bool.false_ne_true] at hq
      exact comp_enc p f hC hP.2 ht he (by (clear hC hP ht he hτ hq hτ' hp; omega)) hτ' hq
end L2
namespace L2
open PySem PySem.Spec PyProof.Rows Nm
theorem GLe.put {G G1 : Gp} {p : Addr} {g : GO} (h : GLe G G1) (hp : G p = none) : GLe G (updG G1 p g) := fun a u e => by
  have := h a u e
  unfold updG
  split
  · rename_i q; subst q; rw [hp] at e; cases e
  · exact this
noncomputable def cap : Int := (10 ^ 172) ^ 7
theorem cap_big {i : Int} (h0 : 0 ≤ i) (h : i ≤ cap) : i.natAbs < 2 ^ 4000 := by
  have h2 : cap < ((2 ^ 4000 : Nat) : Int) := by decide +kernel
  generalize (2 : Nat) ^ 4000 = B at h2 ⊢
  omega
theorem bigC {i j : Int} (h1 : 0 ≤ i) (h2 : i ≤ cap) (h3 : 0 ≤ j) (h4 : j ≤ cap) : BigM i j := ⟨cap_big h1 h2, cap_big h3 h4⟩
theorem le_cap : (10 : Int) ^ 200 ≤ cap := by decide +kernel
theorem pow_cap : (2 : Int) * (10 ^ 50 + 3) ^ 24 ≤ cap := by decide +kernel
end L2
namespace Nm
namespace O
theorem getP_hw {x : O} {k : Int} : ∀ {a : O} {i : Nat}, getP a i = some (x, k) → hw x ≤ hw a
  | z, _, h => by simp [getP] at h
  | c e n r, 0, h => by
    simp only [getP, Option.some.injEq, Prod.mk.injEq] at h
    rw [hw_c, h.1]; (clear h; omega)
  | c e n r, i + 1, h => by
    have := getP_hw (a := r) (i := i) (by simpa [getP] using h)
    rw [hw_c]; (clear h; omega)
theorem hw_drop : ∀ (i : Nat) (a : O), hw (dropO i a) ≤ hw a
  | 0, a => Nat.le_refl _
  | _ + 1, z => Nat.le_refl _
  | i + 1, c e n r => by have := hw_drop i r; rw [dropO, hw_c]; omega
theorem dp_drop : ∀ (i : Nat) (a : O), (dropO i a).dp ≤ a.dp
  | 0, a => Nat.le_refl _
  | _ + 1, z => Nat.le_refl _
  | i + 1, c e n r => by have := dp_drop i r; simp only [dropO, dp]; omega
theorem mx_drop : ∀ (i : Nat) (a : O), mx (dropO i a) ≤ mx a
  | 0, a => Int.le_refl _
  | _ + 1, z => Int.le_refl _
  | i + 1, c e n r => by have := mx_drop i r; rw [dropO, mx_c]; omega
end O
end Nm
namespace L2
open PySem PySem.Spec PyProof.Rows Nm
section
variable {P : Program} {w : World} {K : PySem.W.Frag} {mg : Str → Option Value} {base : Heap} {x : Str} {st : Stmt} {ps : List Str} {k : Nat} {sp : WSp}
end
end L2
namespace L2
open PySem PySem.Spec PyProof.Rows PySem.W
@[irreducible] def Cell (i : Int) : Prop := i.natAbs < 2 ^ 1048576
@[irreducible] def Wide (i : Int) : Prop := i.natAbs < 2 ^ 1048577
set_option exponentiation.threshold 500 in
noncomputable def CellM (i j : Int) : Prop := (Wide i ∧ j.natAbs < 2 ^ 4000) ∨ (i.natAbs < 2 ^ 4000 ∧ Wide j)
noncomputable def CMulC (i j : Int) : Prop := CMulB i j ∨ CellM i j
section
variable {X : Cx}
end
end L2
namespace L2
open PySem PySem.Spec PyProof.Rows
section
variable {X : Cx}
end
end L2
namespace L2
open PySem PySem.Spec PyProof.Rows
end L2
namespace Nm
namespace O
end O
end Nm
set_option linter.all false
set_option maxRecDepth 100000
namespace L2
open PySem PySem.Spec PyProof.Rows
section
variable {X : Cx}
variable {tg : Expr}
end
end L2
set_option linter.all false
namespace L2
open PySem PySem.Spec PyProof.Rows Nm
theorem comp_by {β : Type} {C : Gp → Prop} {te : WE} {i : Nat} {τ0 : WSt} {G : Gp} {q : List W → Gp → Prop} (key val : β → W) (hC : C G) : ∀ {ps : List β} {acc : List W} {τ : WSt},
    (∀ p, p ∈ ps → ∀ k : W → Gp → Prop, k (val p) G → te (τ0.set i (some (key p))) G k) → acc.length + ps.length ≤ 100000 → (∀ x, τ.set i x = τ0.set i x) → q (acc ++ ps.map val) G → compW C (hName i) wTrue te (ps.map key) τ G acc q
  | [], acc, τ, _, _, _, hq => ⟨hC, by simpa using hq⟩
  | p :: ps, acc, τ, ht, hl, hτ, hq => by
    refine ⟨hC, ?_⟩
    show te (τ.set i (some (key p))) G _
    rw [hτ]
    refine ht p List.mem_cons_self _ ?_
    rw [List.length_cons] at hl
    refine ⟨by (clear hC ht hτ hq; omega), comp_by key val hC (fun u hu => ht u (List.mem_cons_of_mem _ hu)) (by rw [List.length_append]; simp only [List.length_cons, List.length_nil]; (clear hC ht hτ hq; omega)) (fun x => ?_) (by simpa using hq)⟩
    rw [List.set_set]
theorem comp_ind {C : Gp → Prop} {te : WE} {i : Nat} {τ0 : WSt} {q : List W → Gp → Prop} (Iv : List W → List W → Gp → Prop) (stop : ∀ acc G, Iv [] acc G → C G ∧ q acc G)
    (step : ∀ x ws acc G (k : WK), Iv (x :: ws) acc G → (∀ v G1, Iv ws (acc ++ [v]) G1 → acc.length + 1 ≤ 100000 → k v G1) → C G ∧ te (τ0.set i (some x)) G k) : ∀ {ws acc : List W} {τ : WSt} {G : Gp}, Iv ws acc G → acc.length + ws.length ≤ 100000 → (∀ x, τ.set i x = τ0.set i x) → compW C (hName i) wTrue te ws τ G acc q
  | [], acc, τ, G, hI, _, _ => stop acc G hI
  | x :: ws, acc, τ, G, hI, hl, hτ => by
    rw [List.length_cons] at hl
    obtain ⟨h1, h2⟩ := step x ws acc G (fun v G4 => acc.length + 1 ≤ 100000 ∧ compW C (hName i) wTrue te ws (τ0.set i (some x)) G4 (acc ++ [v]) q) hI fun v G1 hv hn => ⟨hn, comp_ind Iv stop step hv (by rw [List.length_append]; simp only [List.length_cons, List.length_nil]; (clear stop step hI hτ hv hn; omega)) fun y => List.set_set ..⟩
    refine ⟨h1, ?_⟩
    show te (τ.set i (some x)) G _
    rw [hτ]
    exact h2
theorem fresh_of {G G' : Gp} {p : Addr} (h : GLe G G') (hp : G' p = none) : G p = none := by
  cases e : G p with
  | none => rfl
  | some g => rw [h _ _ e] at hp; cases hp
theorem gle_put {G G' : Gp} {p : Addr} {g : GO} (h : GLe G G') (hp : G p = none) : GLe G (updG G' p g) := fun x u e => (updG_ne (fun z => by rw [z, hp] at e; cases e)).trans (h _ _ e)
theorem cut_ft (xs : List W) (a b : Nat) : ∃ x y : Nat, cutW xs (some (a : Int)) (some (b : Int)) = (xs.drop x).take y ∧ y ≤ b - a := by
  unfold cutW
  rw [HT.sIx_nat, HT.sIx_nat]
  exact ⟨_, _, rfl, by omega⟩
end L2
set_option linter.all false
set_option maxRecDepth 100000
namespace L2
open PySem PySem.Spec PyProof.Rows
section
variable {X : Cx} {pins : List (Addr × Obj)} {σ : St} {H : Hp} {s : Shared} {a : Addr} {o : Obj} {kvs : List (Key × V)}
variable {tg : Expr}
end
end L2
set_option linter.all false
set_option maxRecDepth 100000
namespace L2
open PySem PySem.Spec PyProof.Rows
noncomputable def valW (kvs : List (Key × W)) (k : Key) : Option W := (kvs.find? fun kv => decide (kv.1 = k)).map (·.2)
noncomputable def putD (kvs : List (Key × W)) (k : Key) (w : W) : List (Key × W) :=
  if (kvs.any fun kv => decide (kv.1 = k)) = true then kvs.map (fun kv => if kv.1 = k then (kv.1, w) else kv) else kvs ++ [(k, w)]
inductive DP (K : PySem.W.Frag) (H : Hp) : List (Key × W) → List (Key × V) → Prop where
  | nil : DP K H [] []
  | cons {k : Key} {w : W} {v : V} {kvs : List (Key × W)} {us : List (Key × V)} (r : Rep K H w v) (t : DP K H kvs us) : DP K H ((k, w) :: kvs) ((k, v) :: us)
section
variable {K : PySem.W.Frag} {H H1 : Hp}
end
noncomputable def GD (G : Gp) (a : Addr) (kvs : List (Key × W)) : Prop := G a = some (.dic kvs) ∨ ∃ o us, G a = some (.fdc o us kvs)
section
variable {K : PySem.W.Frag} {H : Hp} {G : Gp} {a : Addr} {kvs : List (Key × W)}
end
section
variable {X : Cx} {pins : List (Addr × Obj)} {σ : St} {H : Hp} {s : Shared} {A : Around} {E : Value → Shared → Prop}
structure InL (ws : List W) (x : W) : Prop where
  fx : x.flat = true
  fs : W.flats ws = true
  hd : W.deps ws ≤ 149
inductive InW (G : Gp) (a : Addr) : W → Bool → Prop where
  | dic {kvs : List (Key × W)} {z : Str} (h : GD G a kvs) : InW G a (.str z) (valW kvs (.inr z)).isSome
  | lst {ws : List W} {x : W} (h : G a = some (.lst ws)) (l : InL ws x) : InW G a x (ws.any fun w => w.eq x)
open Classical in
noncomputable def WEnds.th (a : Addr) (d : WEnds) : WEnds where
  nx := fun τ G => ∃ o us kvs, G a = some (.fdc o us kvs) ∧ d.nx τ (updG G a (.dic kvs))
  rt := fun w G => ∃ o us kvs, G a = some (.fdc o us kvs) ∧ d.rt w (updG G a (.dic kvs))
  bk := fun τ G => ∃ o us kvs, G a = some (.fdc o us kvs) ∧ d.bk τ (updG G a (.dic kvs))
  ct := fun τ G => ∃ o us kvs, G a = some (.fdc o us kvs) ∧ d.ct τ (updG G a (.dic kvs))
noncomputable def Ends.th (a : Addr) (d : Ends) : Ends where
  nx := fun τ G => ∃ o us, G a = some (.frz o (.dK us)) ∧ d.nx τ (upd G a (.dK us))
  rt := fun w G => ∃ o us, G a = some (.frz o (.dK us)) ∧ d.rt w (upd G a (.dK us))
  bk := fun τ G => ∃ o us, G a = some (.frz o (.dK us)) ∧ d.bk τ (upd G a (.dK us))
  ct := fun τ G => ∃ o us, G a = some (.frz o (.dK us)) ∧ d.ct τ (upd G a (.dK us))
noncomputable def kW : Key → W
  | .inl i => .int i
  | .inr x => .str x
variable {tg : Expr}
end
end L2
set_option linter.all false
set_option maxRecDepth 100000
namespace L2
open PySem PySem.Spec PyProof.Rows
section
variable {X : Cx} {elts : List Expr} {k : Nat} {tp : Pos}
end
end L2
set_option linter.all false
set_option maxRecDepth 100000
namespace L2
open PySem PySem.Spec PyProof.Rows
section
variable {X : Cx} {pins : List (Addr × Obj)} {σ : St} {H : Hp} {s : Shared}
inductive LenW (G : Gp) (a : Addr) : Nat → Prop where
  | lst {ws : List W} (h : G a = some (.lst ws)) : LenW G a ws.length
  | dic {kvs : List (Key × W)} (h : GD G a kvs) : LenW G a kvs.length
inductive ItsW (G : Gp) (a : Addr) : List W → Prop where
  | lst {ws : List W} (h : G a = some (.lst ws)) : ItsW G a ws
  | dic {kvs : List (Key × W)} (h : GD G a kvs) : ItsW G a (kvs.map fun p => kW p.1)
inductive SameV (G : Gp) : W → W → Prop where
  | int (i : Int) : SameV G (.int i) (.int i)
  | lst {a b : Addr} {ws us : List W} (ea : G a = some (.lst ws)) (eb : G b = some (.lst us)) (f1 : W.flats ws = true) (f2 : W.flats us = true) (hd : W.deps ws ≤ 8) (he : W.eqs ws us = true) : SameV G (.ref a) (.ref b)
inductive EqD (G : Gp) (a b : Addr) : Bool → Prop where
  | lst {ws us : List W} (ea : G a = some (.lst ws)) (eb : G b = some (.lst us)) (f1 : W.flats ws = true) (f2 : W.flats us = true) (hd : W.deps ws ≤ 149) : EqD G a b (W.eqs ws us)
  | dic {kvs us : List (Key × W)} (ea : GD G a kvs) (eb : GD G b us) (hl : kvs.length = us.length) (hv : ∀ p, p ∈ kvs → ∃ w', valW us p.1 = some w' ∧ SameV G p.2 w') : EqD G a b true
structure Fst (ws : List W) (x : W) (j : Nat) : Prop where
  hit : ∃ w, ws[j]? = some w ∧ w.eq x = true
  no : ∀ m w, m < j → ws[m]? = some w → w.eq x = false
noncomputable def wRevL (te : WE) : WE := fun τ G q => te τ G fun x G1 => match x with
  | .ref a => ∃ ws, G1 a = some (.lst ws) ∧ ∀ p, G1 p = none → q (.ref p) (updG G1 p (.lst ws.reverse))
  | _ => False
theorem qe_rev {e : Expr} {te : WE} {j} {pos p2 p3 p4 : Pos} (he : QE X e te) : QE X (.Subscript e (.Slice none none (some (.UnaryOp .USub (.Constant (.int 1) j p3) p4)) p2) pos) (wRevL te) := by
  intro pins s σ H Q I ⟨τ, G, q, hs, hg, ht, hQ⟩
  refine Subscript_ (thn (he pins s σ H (fun v H1 => ∃ w G1, TLe H H1 ∧ Rep X.K H1 w v ∧ RelG X.K H1 G1 ∧ (match w with
    | .ref a => ∃ ws, G1 a = some (.lst ws) ∧ ∀ p, G1 p = none → q (.ref p) (updG G1 p (.lst ws.reverse))
    | _ => False)) I ⟨τ, G, _, hs, hg, ht, fun v H1 w G1 t1 r1 g1 q1 => ⟨w, G1, t1, r1, g1, q1⟩⟩) fun v s1 ⟨x, H1, I1, rx, w, G1, t1, r1, g1, q1⟩ => ?_)
  split at q1
  · rename_i a
    obtain ⟨ws, ea, q1⟩ := q1
    cases r1
    cases rx
    refine wpAny_Slice ?_
    rw [evalPart_none]
    refine wpAny_pure (wpAny_pure ?_)
    have ps : PO X (some (.UnaryOp .USub (.Constant (.int 1) j p3) p4)) (LO X.K (wPart (wNeg (wC (.int 1))))) := qo_some (qe_neg qe_int)
    refine thn (ps pins s1 σ H1 (fun o H2 => TLe H1 H2 ∧ RelG X.K H2 G1 ∧ o = some (-1)) I1 ⟨τ, G1, fun o G2 => o = some (-1) ∧ G2 = G1, hs.mono t1, g1, ⟨rfl, rfl⟩, fun o H2 G2 t2 g2 ⟨e1, e2⟩ => ⟨t2, e2 ▸ g2, e1⟩⟩) fun vk s2 ⟨o, H2, I2, pk, t2, g2, eo⟩ => ?_
    subst eo
    have I4 : Inv X pins σ H2 { s2 with heap := s2.heap.push { cls := .type "slice", data := .fields #[.none, .none, vk] } } := I2.kept (t' := s2.toks) fun b ob q => Heap.get?_push_of_some _ q
    obtain ⟨hl, xs, e1, rr⟩ := g2 a _ ea
    obtain ⟨its, rv, p, hz⟩ := I4.list (SqL.of e1)
    show wpAny (model X.prog X.w) X.A (subscriptTail e (.Slice none none (some (.UnaryOp .USub (.Constant (.int 1) j p3) p4)) p2) (.ref a) (.ref s2.heap.objs.size)) (EP X pins σ Q) X.xe { s2 with heap := s2.heap.push { cls := .type "slice", data := .fields #[.none, .none, vk] } }
    refine tail_any (ops := [.ref a, .ref s2.heap.objs.size]) (Heap.IsList.typeIs p.isList) PySem.F.slot_list_getitem.lookup (wpAny_getItem_list_slice p.isList (Heap.IsSliceOf.new ..) .none .none pk (by decide) ?_ (by rw [List.size_toArray, ← rv.length]; exact hz)) (by with_unfolding_all rfl)
    rw [PySem.W.krv_pick]
    have hp := I4.hok.fresh (Nat.le_refl (s2.heap.push { cls := .type "slice", data := .fields #[.none, .none, vk] }).objs.size)
    have hzr : xs.reverse.length ≤ sizeLine := by rw [List.length_reverse]; exact hz
    refine ⟨.ref (s2.heap.push { cls := .type "slice", data := .fields #[.none, .none, vk] }).objs.size, _, I4.laid (t' := s2.toks) (fun b o q => Heap.get?_push_of_some _ q) (Nat.le_refl _) (show ObjOk X.prog X.w _ _ _ (.lst xs.reverse) from ⟨hzr, its.reverse, 0, Vals.rev rv, Heap.get?_push_size _ rfl⟩), rfl, ?_⟩
    exact hQ _ _ _ _ ((t1.trans t2).trans (TLe.new hp _)) (.ref _) (g2.put (TLe.new hp _) rr.rev (by rw [List.length_reverse]; exact hl)) (q1 _ (g2.fresh hp))
  · exact q1.elim
end
end L2
set_option linter.all false
set_option maxRecDepth 100000
namespace L2
open PySem PySem.Spec PyProof.Rows
section
variable {prog : Program} {w : World} {A : Around} {R : Result → Shared → Prop} {I : Addr} {fp wr : List Addr} {Gn : Array GenState → Array GenState → Prop} {n : Nat} {P : Nat → Value → Prop} {St : Nat → Shared → Prop}
end
section
variable {prog : Program} {w : World} {A : Around} {E : Value → Shared → Prop} {s : Shared}
set_option maxHeartbeats 3200000 in
end
section
variable {X : Cx}
end
end L2
set_option linter.all false
set_option maxRecDepth 100000
namespace L2
open PySem PySem.Spec PyProof.Rows
section
variable {X : Cx} {pins : List (Addr × Obj)} {σ : St} {H : Hp} {s : Shared}
set_option maxHeartbeats 4000000 in
inductive DSrc (G : Gp) (a : Addr) (kvs : List (Key × W)) : Prop where
  | dic (h : GD G a kvs) : DSrc G a kvs
  | lst {ps : List (Key × W)} (h : G a = some (.lst (ps.map fun p => .tup [kW p.1, p.2]))) (e : kvs = ps.foldl (fun a p => putD a p.1 p.2) []) : DSrc G a kvs
end
end L2
set_option linter.all false
set_option maxRecDepth 100000
namespace L2
open PySem PySem.Spec PyProof.Rows
section
variable {prog : Program} {w : World} {A : Around} {s : Shared}
end
section
variable {X : Cx} {pins : List (Addr × Obj)} {σ : St} {H : Hp} {s : Shared}
inductive SameG (G : Gp) : Nat → W → W → Prop where
  | flat {n : Nat} {x y : W} (f1 : x.flat = true) (f2 : y.flat = true) (hd : x.dep ≤ 140) (he : x.eq y = true) : SameG G n x y
  | same {n : Nat} {a : Addr} : SameG G n (.ref a) (.ref a)
  | dic {n : Nat} {a b : Addr} {kvs us : List (Key × W)} (ea : GD G a kvs) (eb : GD G b us) (hl : kvs.length = us.length) (hv : ∀ p, p ∈ kvs → ∃ w', valW us p.1 = some w' ∧ SameV G p.2 w') : SameG G n (.ref a) (.ref b)
  | pair {n : Nat} {x1 x2 y1 y2 : W} (h1 : SameG G n x1 y1) (h2 : SameG G n x2 y2) : SameG G (n + 1) (.tup [x1, x2]) (.tup [y1, y2])
inductive EqX (G : Gp) (a b : Addr) : Bool → Prop where
  | old {r : Bool} (h : EqD G a b r) : EqX G a b r
  | nil {ws : List W} (ea : G a = some (.lst ws)) (eb : G b = some (.lst [])) : EqX G a b ws.isEmpty
  | deep {ws us : List W} (ea : G a = some (.lst ws)) (eb : G b = some (.lst us)) (hl : ws.length = us.length) (he : ∀ (j : Nat) (x y : W), ws[j]? = some x → us[j]? = some y → SameG G 9 x y) : EqX G a b true
end
end L2
set_option linter.all false
set_option maxRecDepth 100000
namespace L2
open PySem PySem.Spec PyProof.Rows Nm
mutual
inductive KIs (h : Heap) : Nat → W → Value → Prop where
  | int {d : Nat} (n : Int) (t : Tok) : KIs h d (.int n) (.int n t)
  | tup {d : Nat} {a : Addr} {o : Obj} {items : Array Value} {n : Nat} {ws : List W} (gO : h.get? a = some o) (hc : o.cls = .type "tuple") (dO : o.data = .seq items n) (hs : KIss h d ws items.toList) : KIs h (d + 1) (.tup ws) (.ref a)
inductive KIss (h : Heap) : Nat → List W → List Value → Prop where
  | nil {d : Nat} : KIss h d [] []
  | cons {d : Nat} {w : W} {v : Value} {ws : List W} {vs : List Value} (r : KIs h d w v) (rs : KIss h d ws vs) : KIss h d (w :: ws) (v :: vs)
end
section
variable {h h' : Heap}
mutual
theorem KIs.inj : ∀ {d d' : Nat} {w w' : W} {v : Value}, KIs h d w v → KIs h d' w' v → w = w'
  | _, _, _, _, _, .int n t, .int _ _ => rfl
  | _, _, _, _, _, .tup gO hc dO hs, .tup gO' hc' dO' hs' => by
    cases gO.symm.trans gO'
    rw [dO] at dO'
    injection dO' with e1 _
    subst e1
    rw [KIss.inj hs hs']
theorem KIss.inj : ∀ {d d' : Nat} {ws ws' : List W} {vs : List Value}, KIss h d ws vs → KIss h d' ws' vs → ws = ws'
  | _, _, _, _, _, .nil, .nil => rfl
  | _, _, _, _, _, .cons r rs, .cons r' rs' => by rw [KIs.inj r r', KIss.inj rs rs']
end
mutual
theorem KIs.keeps (k : ∀ a o items n, h.get? a = some o → o.data = .seq items n → h'.get? a = some o) : ∀ {d : Nat} {w : W} {v : Value}, KIs h d w v → KIs h' d w v
  | _, _, _, .int n t => .int n t
  | _, _, _, .tup gO hc dO hs => .tup (k _ _ _ _ gO dO) hc dO (KIss.keeps k hs)
theorem KIss.keeps (k : ∀ a o items n, h.get? a = some o → o.data = .seq items n → h'.get? a = some o) : ∀ {d : Nat} {ws : List W} {vs : List Value}, KIss h d ws vs → KIss h' d ws vs
  | _, _, _, .nil => .nil
  | _, _, _, .cons r rs => .cons (KIs.keeps k r) (KIss.keeps k rs)
end
end
section
variable (P : Program) (w : World)
mutual
noncomputable def hashW : W → Int
  | .int n => (mixKind P w).hash (.inl n)
  | .tup ws => reduceHash (Builtin.Tuple.tupleHashOf (hashWs ws))
  | _ => 0
noncomputable def hashWs : List W → List Int
  | [] => []
  | x :: xs => hashW x :: hashWs xs
end
mutual
noncomputable def drwW : W → Nat
  | .int _ => 1
  | .tup ws => drwWs ws + 1
  | _ => 0
noncomputable def drwWs : List W → Nat
  | [] => 0
  | x :: xs => drwW x + drwWs xs
end
end
theorem drw_app (xs ys : List W) : drwWs (xs ++ ys) = drwWs xs + drwWs ys := by
  induction xs with
  | nil => simp [drwWs]
  | cons x xs ih => show drwW x + drwWs (xs ++ ys) = _; rw [ih]; simp [drwWs, Nat.add_assoc]
theorem hash_app (P : Program) (w : World) (xs ys : List W) : hashWs P w (xs ++ ys) = hashWs P w xs ++ hashWs P w ys := by
  induction xs with
  | nil => rfl
  | cons x xs ih => show hashW P w x :: hashWs P w (xs ++ ys) = _; rw [ih]; rfl
section
variable {prog : Program} {w : World}
theorem kTup_type {s : Shared} {a : Addr} {o : Obj} (gO : s.heap.get? a = some o) (hc : o.cls = .type "tuple") : s.TypeIs (.ref a) "tuple" := ⟨o, gO, hc⟩
theorem hash_tup {A : Around} {E : Value → Shared → Prop} {s : Shared} {d : Nat} {ws : List W} {a : Addr} {o : Obj} {items : Array Value} {n : Nat} {Q : Int → Shared → Prop} (hu : A.units + d + 1 < cLine) (gO : s.heap.get? a = some o) (hc : o.cls = .type "tuple") (dO : o.data = .seq items n) (hi : KIss s.heap d ws items.toList)
    (ih : ∀ (x : W) (v : Value) (A' : Around) (E' : Value → Shared → Prop) (tk : Nat) (Q' : Int → Shared → Prop), x ∈ ws → KIs s.heap d x v → A'.units + d < cLine → Q' (hashW prog w x) { s with toks := tk + drwW x } → wpAny (model prog w) A' (pyHash v) Q' E' { s with toks := tk })
    (h : Q (hashW prog w (.tup ws)) { s with toks := s.toks + drwW (.tup ws) }) : wpAny (model prog w) A (pyHash (.ref a)) Q E s := by
  have tp := kTup_type gO hc
  unfold pyHash
  first | unfold pyHashByItsType | skip
  first | refine wpAny_bind (wpAny_cRoomFor_or (.inr (by (clear gO hc dO hi ih h tp; omega))) ?_) | skip
  refine wpAny_bind (wpAny_specialOf tp F.slot_tuple_hash.lookup ?_)
  rw [show (some (Value.builtin "tuple.__hash__") == some Value.none) = false from by rw [beq_builtin_none], if_neg Bool.false_ne_true]
  refine wpAny_bind (wpAny_specialOf tp F.slot_tuple_hash.lookup ?_)
  show wpAny _ _ (callSpecialIfBoundUnlessNone? (.ref a) "__hash__" _ >>= _) Q E s
  refine wpAny_bind (wpAny_callSpecialIfBoundUnlessNone?_slot tp F.slot_tuple_hash (wpAny_call_entry F.slot_tuple_hash tp F.entry_tuple_hash ?_ (F.args_tuple_hash_1 _)))
  show wpAny _ _ (Builtin.Tuple.tupleItemsOf (.ref a) >>= _) _ _ s
  refine wpAny_bind (wpAny_tupleItemsOf gO dO ?_)
  refine wpAny_bind ?_
  rw [← Array.forIn_toList]
  refine wpAny_forIn_list _
    (fun rest (b : Array Int) s' => ∃ done left, ws = done ++ left ∧ KIss s.heap d left rest ∧ b.toList = hashWs prog w done ∧ s' = { s with toks := s.toks + drwWs done })
    _ ?_ ?_ _ _ ⟨[], ws, rfl, hi, rfl, rfl⟩
  · rintro x rest b s' ⟨done, left, rfl, hL, hB, rfl⟩
    cases hL with
    | @cons _ k _ ks' _ h1 hL' =>
      refine wpAny_bind (ih k x _ _ _ _ (by simp) h1 (by first | omega | (show A.units + 1 + d < cLine; (clear gO hc dO tp hB hi ih h h1 hL'; omega))) ?_)
      have e1 : b.toList ++ [hashW prog w k] = hashWs prog w (done ++ [k]) := by rw [hB, hash_app]; rfl
      have e2 : s.toks + drwWs done + drwW k = s.toks + drwWs (done ++ [k]) := by rw [drw_app]; simp [drwWs, Nat.add_assoc]
      first
        | exact wpAny_pure ⟨done ++ [k], ks', by simp, hL', by simpa using e1, by rw [← e2]⟩
        | exact wpAny_bind (wpAny_pure (wpAny_pure ⟨done ++ [k], ks', by simp, hL', by simpa using e1, by rw [← e2]⟩))
  · rintro b s' ⟨done, left, rfl, hL, hB, rfl⟩
    cases hL
    rw [List.append_nil] at h
    show wpAny _ _ (retInt (Builtin.Tuple.tupleHashOf b.toList)) _ _ _
    rw [hB]
    refine wpAny_ret_mkInt ?_
    have h : Q (reduceHash (Builtin.Tuple.tupleHashOf (hashWs prog w done))) { s with toks := s.toks + (drwWs done + 1) } := h
    generalize hashWs prog w done = hs at h ⊢
    show wpAny _ _ (if (decide (-(2 : Int) ^ 63 ≤ Builtin.Tuple.tupleHashOf hs) && decide (Builtin.Tuple.tupleHashOf hs < 2 ^ 63)) = true then _ else _) Q E _
    unfold reduceHash at h
    by_cases hR : (decide (-(2 : Int) ^ 63 ≤ Builtin.Tuple.tupleHashOf hs) && decide (Builtin.Tuple.tupleHashOf hs < 2 ^ 63)) = true
    · rw [if_pos hR]
      rw [if_pos hR] at h
      exact wpAny_pure (by simpa [Nat.add_assoc] using h)
    · rw [if_neg hR]
      rw [if_neg hR] at h
      exact wpAny_bind (wpAny_rule (wpAny_pure (by simpa [Nat.add_assoc] using h)))
theorem KIs.hash {s : Shared} : ∀ (d : Nat) {x : W} {v : Value}, KIs s.heap d x v → ∀ {A : Around} {E : Value → Shared → Prop} {tk : Nat} {Q : Int → Shared → Prop}, A.units + d < cLine → Q (hashW prog w x) { s with toks := tk + drwW x } → wpAny (model prog w) A (pyHash v) Q E { s with toks := tk }
  | _, _, _, .int n t, A, E, tk, Q, hu, h => (mixKind prog w).pyHash (k := .inl n) (mixKind_int prog w n t) h
  | d + 1, _, _, .tup (ws := ws) gO hc dO hs, A, E, tk, Q, hu, h =>
    hash_tup (s := { s with toks := tk }) (d := d) (ws := ws) (by assumption) gO hc dO hs (fun x v A' E' tk' Q' _ hk hu' hq => KIs.hash d hk hu' hq) h
noncomputable def eqK (p : Prop) : Bool := @decide p (Classical.propDecidable p)
theorem eqK_t {p : Prop} (h : p) : eqK p = true := @decide_eq_true p (Classical.propDecidable p) h
theorem eqK_f {p : Prop} (h : ¬ p) : eqK p = false := @decide_eq_false p (Classical.propDecidable p) h
inductive Sh : W → W → Prop where
  | int (n m : Int) : Sh (.int n) (.int m)
  | tup {xs ys : List W} (h : ∀ p, p ∈ xs.zip ys → Sh p.1 p.2) : Sh (.tup xs) (.tup ys)
theorem eq_tup {A : Around} {E : Value → Shared → Prop} {s : Shared} {d : Nat} {x y : List W} {a b : Addr} {oa ob : Obj} {xs ys : Array Value} {na nb : Nat} {R : PySem.Fin → Shared → Prop} (gA : s.heap.get? a = some oa) (hca : oa.cls = .type "tuple") (dA : oa.data = .seq xs na) (hia : KIss s.heap d x xs.toList) (gB : s.heap.get? b = some ob) (hcb : ob.cls = .type "tuple") (dB : ob.data = .seq ys nb) (hib : KIss s.heap d y ys.toList)
    (hsh : ∀ p, p ∈ x.zip y → Sh p.1 p.2)
    (ih : ∀ (p q : W) (u v : Value) (E' : Value → Shared → Prop) (Q' : Bool → Shared → Prop), KIs s.heap d p u → KIs s.heap d q v → Sh p q → Q' (eqK (p = q)) s → wpAny (model prog w) A (eqBool u v) Q' E' s)
    (h : R (.done (.ret (.bool (eqK (x = y))))) s) : wpAny (model prog w) A (Builtin.«tuple.__eq__» ⟨[.ref a, .ref b], []⟩) R E s := by
  have tpB := kTup_type gB hcb
  show wpAny _ _ (isInstance (.ref b) (.type "tuple") >>= _) _ _ s
  refine wpAny_bind (wpAny_isInstance tpB isSubtype_tuple_tuple ?_)
  simp only [Bool.not_true, Bool.false_eq_true, if_false]
  refine wpAny_bind (wpAny_tupleItemsOf gA dA ?_)
  refine wpAny_bind (wpAny_tupleItemsOf gB dB ?_)
  refine wpAny_bind ?_
  refine wpAny_forIn_list _
    (fun rest r s' => r.1 = none ∧ s' = s ∧ ∃ x' y' xs' ys', rest = List.zip xs' ys' ∧ KIss s.heap d x' xs' ∧ KIss s.heap d y' ys' ∧ ((x' = y') ↔ (x = y)) ∧ (∀ p, p ∈ x'.zip y' → Sh p.1 p.2) ∧ (xs'.length == ys'.length) = (xs.size == ys.size))
    _ ?_ ?_ _ _ ⟨rfl, rfl, x, y, xs.toList, ys.toList, rfl, hia, hib, Iff.rfl, hsh, by simp⟩
  · rintro ⟨u, v⟩ rest r s' ⟨hR, rfl, x', y', xs', ys', hZ, hx', hy', hdec, hs', hlen⟩
    cases hx' with
    | nil => simp at hZ
    | @cons _ k1 u' x'' xs'' h1 hx'' =>
      cases hy' with
      | nil => simp at hZ
      | @cons _ k2 v' y'' ys'' h2 hy'' =>
        simp only [List.zip_cons_cons, List.cons.injEq, Prod.mk.injEq] at hZ
        obtain ⟨⟨rfl, rfl⟩, rfl⟩ := hZ
        refine wpAny_bind (ih k1 k2 _ _ _ _ h1 h2 (hs' (k1, k2) List.mem_cons_self) ?_)
        by_cases hk : k1 = k2
        · subst hk
          rw [eqK_t rfl]
          simp only [Bool.not_true, Bool.false_eq_true, if_false]
          refine wpAny_pure ⟨rfl, rfl, x'', y'', xs'', ys'', rfl, hx'', hy'', ?_, fun p hp => hs' p (List.mem_cons_of_mem _ hp), by simpa using hlen⟩
          rw [← hdec]
          simp
        · rw [eqK_f hk]
          simp only [Bool.not_false, if_true]
          have hf : eqK (x = y) = false := eqK_f fun z => hk (by have := hdec.mpr z; injection this)
          rw [hf] at h
          exact wpAny_bind (wpAny_pure (wpAny_pure (wpAny_pure h)))
  · rintro ⟨q1, q2⟩ s' ⟨hR, rfl, x', y', xs', ys', hZ, hx', hy', hdec, hs', hlen⟩
    simp only at hR
    subst hR
    refine wpAny_pure ?_
    have hfin : (xs.size == ys.size) = eqK (x = y) := by
      rw [← hlen]
      cases hx' with
      | nil =>
        cases hy' with
        | nil => rw [eqK_t (hdec.mp rfl)]; rfl
        | cons _ _ => rw [eqK_f (fun z => by have := hdec.mpr z; cases this)]; rfl
      | cons _ _ =>
        cases hy' with
        | nil => rw [eqK_f (fun z => by have := hdec.mpr z; cases this)]; rfl
        | cons _ _ => simp at hZ
    show R (.done (.ret (.bool (xs.size == ys.size)))) s'
    rw [hfin]; exact h
theorem KIs.eqs {s : Shared} : ∀ (d : Nat) {x y : W} {u v : Value}, KIs s.heap d x u → KIs s.heap d y v → Sh x y → ∀ {A : Around} {E : Value → Shared → Prop} {Q : Bool → Shared → Prop}, A.units + 2 * d < cLine → Q (eqK (x = y)) s → wpAny (model prog w) A (PySem.eqBool u v) Q E s
  | _, _, _, _, _, .int n t, .int m t', _, A, E, Q, hu, h => by
    refine (mixKind prog w).eqBool (a := .inl n) (b := .inl m) (mixKind_int prog w n t) (mixKind_int prog w m t') ?_
    have : decide ((Sum.inl n : Key) = .inl m) = eqK (W.int n = .int m) := by
      by_cases e : n = m
      · subst e; rw [decide_eq_true rfl, eqK_t rfl]
      · rw [decide_eq_false (fun z => e (Sum.inl.inj z)), eqK_f (fun z => by injection z with z; exact e z)]
    rw [this]; exact h
  | _, _, _, _, _, .int n t, .tup _ _ _ _, hs, A, E, Q, hu, h => (nomatch hs)
  | _, _, _, _, _, .tup _ _ _ _, .int m t', hs, A, E, Q, hu, h => (nomatch hs)
  | d + 1, _, _, _, _, .tup (a := a) (ws := ws) gO hc dO hs, .tup (a := a') (ws := ws') gO' hc' dO' hs', .tup hsh, A, E, Q, hu, h => by
    unfold PySem.eqBool
    try with_reducible refine wpAny_holding ?_
    show wpAny _ _ (if (Value.ref a == Value.ref a') = true then _ else _) Q E s
    by_cases hab : (Value.ref a == Value.ref a') = true
    · rw [if_pos hab]
      have e : a = a' := by have := eq_of_beq hab; injection this
      subst e
      have := KIs.inj (.tup gO hc dO hs) (.tup gO' hc' dO' hs')
      rw [eqK_t this] at h
      exact wpAny_bind (wpAny_rule (wpAny_pure h))
    · rw [if_neg hab]
      refine wpAny_bind (wpAny_richCompare_same_room (op := .Eq) (kTup_type gO hc) (kTup_type gO' hc') F.slot_tuple_eq
        (wpAny_call_entry F.slot_tuple_eq (kTup_type gO hc) F.entry_tuple_eq (eq_tup gO hc dO hs gO' hc' dO' hs' hsh (fun p q u v E' Q' hp hq hpq hQ => KIs.eqs d hp hq hpq (by first | omega | (show A.units + 1 + 2 * d < cLine; (clear gO hc dO hs gO' hc' dO' hs' hsh h hab hp hq hpq hQ; omega)) | (show A.units + 1 + 1 + 2 * d < cLine; omega)) hQ) ⟨_, rfl, (fun e => nomatch e), wpAny_truthy_bool ?_⟩) (F.args_tuple_eq_2 _ _)) (by (clear gO hc dO hs gO' hc' dO' hs' hsh h hab; omega)))
      have : eqK (ws = ws') = eqK (W.tup ws = .tup ws') := by
        by_cases e : ws = ws'
        · subst e; rw [eqK_t rfl, eqK_t rfl]
        · rw [eqK_f e, eqK_f (fun z => by injection z with z; exact e z)]
      rw [this]; exact h
theorem KIs.quiet {s : Shared} : ∀ (d : Nat) {x : W} {v : Value}, KIs s.heap d x v → ∀ {A : Around} {E : Value → Shared → Prop} {Q : Bool → Shared → Prop}, Q true s → wpAny (model prog w) A (eqIsQuiet d v) Q E s
  | _, _, _, .int n t, A, E, Q, h => by
    rw [eqIsQuiet_byValue _ rfl]
    exact wpAny_pure h
  | d + 1, _, _, .tup gO hc dO hs, A, E, Q, h => by
    have tp := kTup_type gO hc
    unfold eqIsQuiet
    refine wpAny_bind (wpAny_specialOf tp F.slot_tuple_eq.lookup ?_)
    refine wpAny_bind (wpAny_isInstance tp isSubtype_tuple_tuple ?_)
    simp only [Bool.not_true, Bool.false_eq_true, if_false]
    refine wpAny_bind (wpAny_seqItems gO dO ?_)
    refine wpAny_bind ?_
    show wpAny _ _ (forIn _ _ _) _ _ s
    rw [← Array.forIn_toList]
    refine wpAny_forIn_list _ (fun rest r s' => r.1 = none ∧ s' = s ∧ ∃ ws, KIss s.heap d ws rest) _ ?_ ?_ _ _ ⟨rfl, rfl, _, hs⟩
    · rintro v rest r s' ⟨hR, rfl, ws, hk⟩
      cases hk with
      | cons q1 rs1 =>
        refine wpAny_bind (KIs.quiet d q1 ?_)
        simp only [Bool.not_true, Bool.false_eq_true, if_false]
        exact wpAny_pure ⟨rfl, rfl, _, rs1⟩
    · rintro ⟨q1, q2⟩ s' ⟨hR, rfl, _⟩
      simp only at hR
      subst hR
      exact wpAny_pure h
end
end L2
set_option linter.all false
set_option maxRecDepth 100000
namespace L2
open PySem PySem.Spec PyProof.Rows Nm
section
variable {X : Cx} {pins : List (Addr × Obj)} {σ : St} {H : Hp} {s : Shared}
end
inductive KVO (K : PySem.W.Frag) (H : Hp) : List (O × W) → List (O × Addr × Value) → Prop where
  | nil : KVO K H [] []
  | cons {k : O} {a : Addr} {w : W} {v : V} {u : Value} {kvs : List (O × W)} {xs : List (O × Addr × Value)} (rk : Rep K H (.tup (encP k)) (.ref a)) (rv : Rep K H w v) (ru : RelV v u) (t : KVO K H kvs xs) : KVO K H ((k, w) :: kvs) ((k, a, u) :: xs)
section
variable {X : Cx} {pins : List (Addr × Obj)} {σ : St} {H : Hp} {s : Shared}
theorem room20 {k : Nat} {A : Around} (hr : Room k A) : A.in1.units + 20 < cLine := by
  have := hr.un
  show A.units + 1 + 20 < cLine
  (clear hr; omega)
theorem TLe.ex {a : Addr} {φ : Heap → Prop} (hp : H a = some (.ext φ)) (o : HO) : TLe H (upd H a o) :=
  ⟨fun _ _ h => by rw [upd_ne (ne_of h hp (by intro z; cases z))]; exact h, fun _ _ _ h => by rw [upd_ne (ne_of h hp (by intro z; cases z))]; exact h⟩
end
end L2
set_option linter.all false
set_option maxRecDepth 100000
namespace L2
open PySem PySem.Spec PyProof.Rows Nm PySem.W
noncomputable def kRun {α : Type} (lt : Nat → Nat → Bool) : KasT α → α
  | .ret a => a
  | .ask i j k => kRun lt (k (lt i j))
noncomputable def kOk {α : Type} (n : Nat) : KasT α → Bool
  | .ret _ => true
  | .ask i j k => decide (i < n) && decide (j < n) && kOk n (k true) && kOk n (k false)
theorem kas_pure {α : Type} {n : Nat} {lt : Nat → Nat → Bool} {cmp : Nat → Nat → (Bool → Shared → Prop) → Shared → Prop} {s : Shared} (hc : ∀ i j, i < n → j < n → ∀ C : Bool → Shared → Prop, C (lt i j) s → cmp i j C s) {Q : α → Shared → Prop} : ∀ t : KasT α, kOk n t = true → Q (kRun lt t) s → t.kasWp cmp Q s
  | .ret a, _, h => h
  | .ask i j k, ok, h => by
    simp only [kOk, Bool.and_eq_true, decide_eq_true_eq] at ok
    refine hc i j ok.1.1.1 ok.1.1.2 _ ?_
    have h : Q (kRun lt (k (lt i j))) s := h
    have : kOk n (k (lt i j)) = true := by
      cases lt i j with
      | true => exact ok.1.2
      | false => exact ok.2
    exact kas_pure hc (k (lt i j)) this h
noncomputable def ltOf (σ : List Nat) (i j : Nat) : Bool := decide (σ.getD i 0 < σ.getD j 0)
noncomputable def kChk (n : Nat) (σ : List Nat) : Bool := ((kRun (ltOf σ) (kas_sort n)).toList.map fun i => σ.getD i 0) == List.range n && (kRun (ltOf σ) (kas_sort n)).toList.all fun i => decide (i < n)
noncomputable def allL (n : Nat) : Nat → List (List Nat)
  | 0 => [[]]
  | m + 1 => (allL n m).flatMap fun l => (List.range n).map fun x => x :: l
theorem allL_mem {n : Nat} : ∀ {l : List Nat}, (∀ x, x ∈ l → x < n) → l ∈ allL n l.length
  | [], _ => List.mem_singleton.mpr rfl
  | x :: l, h => List.mem_flatMap.mpr ⟨l, allL_mem fun y hy => h y (List.mem_cons_of_mem _ hy), List.mem_map.mpr ⟨x, List.mem_range.mpr (h x List.mem_cons_self), rfl⟩⟩
noncomputable def ndB : List Nat → Bool
  | [] => true
  | x :: l => !l.contains x && ndB l
theorem ndB_of : ∀ {l : List Nat}, l.Nodup → ndB l = true
  | [], _ => rfl
  | x :: l, h => by
    rw [List.nodup_cons] at h
    rw [ndB, ndB_of h.2, Bool.and_true]
    simpa using h.1
noncomputable def chkN (n : Nat) : Bool := kOk n (kas_sort n) && (allL n n).all fun σ => !ndB σ || kChk n σ
theorem chk2 : chkN 2 = true := by decide +kernel
theorem chk3 : chkN 3 = true := by decide +kernel
theorem chk4 : chkN 4 = true := by decide +kernel
theorem chk5 : chkN 5 = true := by decide +kernel
theorem chk_at {n : Nat} (h2 : 2 ≤ n) (h5 : n ≤ 5) : chkN n = true := by
  have : n = 2 ∨ n = 3 ∨ n = 4 ∨ n = 5 := by omega
  rcases this with rfl | rfl | rfl | rfl
  · exact chk2
  · exact chk3
  · exact chk4
  · exact chk5
section
variable {X : Cx} {pins : List (Addr × Obj)} {σ : St} {H : Hp} {s : Shared}
end
end L2
set_option linter.all false
set_option maxRecDepth 100000
namespace L2
open PySem PySem.Spec PyProof.Rows Nm PySem.W
noncomputable def EntAt (h : Heap) (d : Addr) (es : Array DictEntry) (ep : Nat) : Prop := ∃ o, h.get? d = some o ∧ o.ExactDict ∧ o.data = .dict es ep
theorem EntAt.at {h h' : Heap} {d : Addr} {es : Array DictEntry} {ep : Nat} (x : EntAt h d es ep) (k : ∀ o, h.get? d = some o → h'.get? d = some o) : EntAt h' d es ep := let ⟨o, e, r⟩ := x; ⟨o, k o e, r⟩
theorem EntAt.ty {s : Shared} {d : Addr} {es : Array DictEntry} {ep : Nat} (x : EntAt s.heap d es ep) : s.TypeIs (.ref d) "dict" := let ⟨o, e, c, _⟩ := x; ⟨o, e, c.1⟩
section
variable {prog : Program} {w : World} {A : Around} {E : Value → Shared → Prop} {s : Shared} {it d : Addr} {i ep : Nat} {es : Array DictEntry}
theorem iter_ent {Q : Value → Shared → Prop} (lo : (d == sysModules) = false) (x : EntAt s.heap d es ep)
    (q : Q (.ref s.heap.objs.size) { s with heap := s.heap.push { cls := .type "dict_keyiterator", data := .fields #[.ref d, .int 0 0, .int es.size 0, .int ep 0] } }) : wpAny (model prog w) A (pyIter (.ref d)) Q E s := by
  have ty := x.ty
  obtain ⟨o, gO, _, dO⟩ := x
  refine wpAny_pyIter_slot ty F.slot_dict_iter (wpAny_call_entry F.slot_dict_iter ty F.entry_dict_iter ?tree (F.args_dict_iter_1 _))
  case tree =>
    unfold Builtin.«dict.__iter__» Builtin.Dict.dictSlotNone
    refine wpAny_bind (wpAny_bind (wpAny_notOrdered_dict ty (wpAny_pure (a := Value.ref d) ?_)))
    show wpAny _ _ (Builtin.Dict.showsAll d >>= _) _ _ s
    unfold Builtin.Dict.showsAll
    rw [lo, if_neg Bool.false_ne_true]
    refine wpAny_bind (wpAny_pure (wpAny_bind (wpAny_dictEntries gO dO (wpAny_bind (wpAny_dictEpoch gO dO ?_)))))
    refine wpAny_bind (wpAny_newObj_type (wpAny_pure ⟨_, rfl, "dict_keyiterator", _, ⟨_, Heap.get?_push_size _ rfl, rfl⟩, F.slot_dict_keyiterator_next.lookup, ?_⟩))
    simpa [rawInt] using q
theorem next_ent {Q : Option Value → Shared → Prop} (ki : s.heap.IsKeyIter it d i es.size ep) (x : EntAt s.heap d es ep) (hi : i < es.size)
    (q : ∀ h', h'.IsKeyIter it d (i + 1) es.size ep → Heap.SameBut it s.heap h' → Q (some es[i].key) { s with heap := h' }) : wpAny (model prog w) A (pyNext (.ref it)) Q E s := by
  have tk := ki.typeIs
  obtain ⟨o, gI, cI, dI⟩ := id ki
  obtain ⟨od, gO, _, dO⟩ := x
  unfold pyNext
  refine wpAny_bind (wpAny_attempt (wpAny_callSpecial?_slot (name := Str.ofString "__next__") tk F.slot_dict_keyiterator_next (wpAny_call_entry F.slot_dict_keyiterator_next tk F.entry_dict_keyiterator_next ?tree (F.args_dict_keyiterator_next_1 _))))
  case tree =>
    refine wpAny_bind (wpAny_pure (wpAny_bind (wpAny_bind ?_)))
    first | refine wpAny_bind (wpAny_typeNameOfWhole_keyiter tk (wpAny_pure (wpAny_bind (wpAny_fieldsOf gI dI ?_)))) | refine wpAny_bind (wpAny_typeNameOf_keyiter tk (wpAny_pure (wpAny_bind (wpAny_fieldsOf gI dI ?_))))
    simp only [show Builtin.Dict_items.ownsTuple "dict_keyiterator" = false from by decide, Bool.false_eq_true, if_false]
    show wpAny _ _ (if (Value.ref d == Value.none) = true then _ else _) _ _ s
    rw [show (Value.ref d == Value.none) = false from rfl, if_neg Bool.false_ne_true]
    refine wpAny_bind (wpAny_pure (wpAny_bind (wpAny_dictEntries gO dO ?_)))
    rw [if_neg (by simp)]
    refine wpAny_bind (wpAny_pure (wpAny_bind (wpAny_dictEpoch gO dO ?_)))
    rw [if_neg (by simp)]
    refine wpAny_pure ?_
    simp only [show ¬ ((i : Int) < 0) from by (clear ki hi q tk gI cI dI gO dO; omega), if_false, Int.toNat_natCast, Array.getElem?_eq_getElem hi]
    refine wpAny_bind ?_
    first | refine wpAny_bind (wpAny_typeNameOfWhole_keyiter tk (wpAny_pure (wpAny_bind (wpAny_isOneOf_keyiter tk ?_)))) | refine wpAny_bind (wpAny_typeNameOf_keyiter tk (wpAny_pure (wpAny_bind (wpAny_isOneOf_keyiter tk ?_))))
    show wpAny _ _ (setField (.ref it) 1 (rawInt ((i : Int) + 1)) >>= _) _ _ s
    refine wpAny_bind (wpAny_setField gI dI (by simp) ?_)
    have ki' : (s.heap.update it (Obj.mapFields (·.setIfInBounds 1 (rawInt ((i : Int) + 1))))).IsKeyIter it d (i + 1) es.size ep :=
      ⟨_, Heap.get?_update_self _ gI (Obj.isFreed_of_fields (Obj.data_mapFields dI _)), (Obj.cls_mapFields ..).trans cI, by rw [Obj.data_mapFields dI]; simp [rawInt]⟩
    refine wpAny_bind (wpAny_holding (wpAny_bind (wpAny_isOneOf_keyiter (s := { s with heap := s.heap.update it (Obj.mapFields (·.setIfInBounds 1 (rawInt ((i : Int) + 1)))) }) ki'.typeIs ?_)))
    exact wpAny_pure (a := es[i].key) (wpAny_pure ⟨_, rfl, wpAny_pure (q _ ki' (Heap.SameBut.update ..))⟩)
theorem end_ent {Q : Option Value → Shared → Prop} (hh : A.handled = none) (ki : s.heap.IsKeyIter it d i es.size ep) (x : EntAt s.heap d es ep) (hi : es.size ≤ i)
    (q : ∀ h', Heap.ExtBut it s.heap h' → Q none { s with heap := h' }) : wpAny (model prog w) A (pyNext (.ref it)) Q E s := by
  have tk := ki.typeIs
  obtain ⟨o, gI, cI, dI⟩ := id ki
  obtain ⟨od, gO, _, dO⟩ := x
  unfold pyNext
  refine wpAny_bind (wpAny_attempt (wpAny_callSpecial?_slot (name := Str.ofString "__next__") tk F.slot_dict_keyiterator_next (wpAny_call_entry F.slot_dict_keyiterator_next tk F.entry_dict_keyiterator_next ?tree (F.args_dict_keyiterator_next_1 _))))
  case tree =>
    refine wpAny_bind (wpAny_pure (wpAny_bind (wpAny_bind ?_)))
    first | refine wpAny_bind (wpAny_typeNameOfWhole_keyiter tk (wpAny_pure (wpAny_bind (wpAny_fieldsOf gI dI ?_)))) | refine wpAny_bind (wpAny_typeNameOf_keyiter tk (wpAny_pure (wpAny_bind (wpAny_fieldsOf gI dI ?_))))
    simp only [show Builtin.Dict_items.ownsTuple "dict_keyiterator" = false from by decide, Bool.false_eq_true, if_false]
    show wpAny _ _ (if (Value.ref d == Value.none) = true then _ else _) _ _ s
    rw [show (Value.ref d == Value.none) = false from rfl, if_neg Bool.false_ne_true]
    refine wpAny_bind (wpAny_pure (wpAny_bind (wpAny_dictEntries gO dO ?_)))
    rw [if_neg (by simp)]
    refine wpAny_bind (wpAny_pure (wpAny_bind (wpAny_dictEpoch gO dO ?_)))
    rw [if_neg (by simp)]
    refine wpAny_pure ?_
    simp only [show ¬ ((i : Int) < 0) from by (clear hh ki hi q tk gI cI dI gO dO; omega), if_false, Int.toNat_natCast, Array.getElem?_eq_none hi]
    refine wpAny_bind ?_
    first | refine wpAny_bind (wpAny_typeNameOfWhole_keyiter tk (wpAny_pure ?_)) | refine wpAny_bind (wpAny_typeNameOf_keyiter tk (wpAny_pure ?_))
    show wpAny _ _ (setField (.ref it) 0 .none >>= _) _ _ s
    refine wpAny_bind (wpAny_setField gI dI (by simp) ?_)
    show wpAny _ _ (newExc (.type "StopIteration") [] >>= _) _ _ _
    refine wpAny_bind ?_
    simp only [newExc, newTuple]
    refine wpAny_bind (wpAny_newObj_type (wpAny_bind (m := firstArgMember _ _) (wpAny_of_eq (a := Value.none) (by first | rfl | (simp only [firstArgMember]; rfl)) (wpAny_newObj_type ?_ (by size_fits)))) (by size_fits))
    simp only [raiseNew]
    refine wpAny_bind (wpAny_handled ?_)
    rw [show A.in1.handled = none from hh]
    refine wpAny_bind (wpAny_pure (wpAny_throw ?_))
    refine wpAny_bind (wpAny_isInstance (T := "StopIteration") (b := true) ⟨_, Heap.get?_push_size _ rfl, rfl⟩ isSubtype_stop ?_)
    exact wpAny_pure (q _ (((Heap.SameBut.update ..).extBut.push _).push _))
theorem walks_ent (hh : A.handled = none) (I : Addr) (hne : d ≠ I) : Walks prog w A I [I, d] [I] es.size (fun i v => ∃ e, es[i]? = some e ∧ v = e.key) (fun i h => h.IsKeyIter I d i es.size ep ∧ EntAt h d es ep) where
  sub := fun b hb => by simp at hb; simp [hb]
  frame := fun _ _ _ st hk => ⟨st.1.at fun o e => hk I (by simp) o e, st.2.at fun o e => hk d (by simp) o e⟩
  item := fun i s Q E hi st hQ => next_ent st.1 st.2 hi fun h' ki' sb => hQ _ h' s.toks ⟨_, Array.getElem?_eq_getElem hi, rfl⟩ ⟨ki', st.2.at fun o e => (sb.2 d hne).trans e⟩ fun b o hb e => (sb.2 b (fun z => hb (by simp [z]))).trans e
  done := fun s Q E st hQ => end_ent hh st.1 st.2 (Nat.le_refl _) fun h' eb => hQ h' s.toks fun b o hb e => eb b o (fun z => hb (by simp [z])) e
  self := fun _ _ _ _ st hQ => wpAny_pyIter_keyiter st.1 hQ
theorem kdl_ent (lo : (d == sysModules) = false) : KdlSrc prog w "dict" d d es.size (fun i v => ∃ e, es[i]? = some e ∧ v = e.key) (fun h => EntAt h d es ep) where
  type := fun _ x => x.ty
  there := fun _ x => let ⟨_, e, _⟩ := x; ⟨Heap.lt_size e, Heap.lt_size e⟩
  keep := fun _ _ x hk => x.at fun o e => hk d (.inl rfl) o e
  notList := by decide
  notTuple := by decide
  hint := fun _ _ _ _ x hq => kdl_hint_dict x.ty hq
  iter := fun _ _ hh x => ⟨_, _, (fun _ _ hq => iter_ent lo x hq), walks_ent hh _ (let ⟨_, e, _⟩ := x; Nat.ne_of_lt (Heap.lt_size e)), ⟨⟨_, Heap.get?_push_size _ rfl, rfl, rfl⟩, x.at fun o e => Heap.get?_push_of_some _ e⟩⟩
end
end L2
set_option linter.all false
set_option maxRecDepth 100000
set_option maxHeartbeats 1000000
namespace L2
open PySem PySem.Spec PyProof.Rows Nm PySem.W
inductive NV (K : PySem.W.Frag) (H : Hp) : List O → List Value → Prop where
  | nil : NV K H [] []
  | cons {o : O} {a : Addr} {os : List O} {us : List Value} (r : Rep K H (.tup (encP o)) (.ref a)) (hd : o.dp ≤ 3) (t : NV K H os us) : NV K H (o :: os) (.ref a :: us)
section
variable {X : Cx} {pins : List (Addr × Obj)} {σ : St} {H : Hp} {s : Shared}
theorem pairs_rev (vs : List Value) : (vs.toArray.zip vs.toArray).reverse = pairsOf vs.reverse := by
  apply Array.toList_inj.mp
  show (vs.toArray.zip vs.toArray).reverse.toList = (vs.reverse.toArray.zip vs.reverse.toArray).toList
  rw [Array.toList_reverse, Array.toList_zip, Array.toList_zip]
  show (List.zip vs vs).reverse = List.zip vs.reverse vs.reverse
  unfold List.zip
  exact List.reverse_zipWith rfl
end
end L2
set_option linter.all false
set_option maxRecDepth 100000
set_option maxHeartbeats 1000000
namespace L2
open PySem PySem.Spec PyProof.Rows Nm PySem.W
section
variable {X : Cx} {pins : List (Addr × Obj)} {σ : St} {H : Hp} {s : Shared}
theorem boot_sorted : bootBuiltins "sorted" = some (.builtin "sorted") := by decide +kernel
end
end L2
set_option linter.all false
set_option maxRecDepth 100000
namespace L2
open PySem PySem.Spec PyProof.Rows Nm
noncomputable def encI (p : PJ) : List W := [.int p.1, .int p.2]
theorem sh_encI (a b : PJ) : Sh (.tup (encI a)) (.tup (encI b)) := .tup fun p hp => by
  unfold encI at hp
  simp only [List.zip_cons_cons, List.zip_nil_left] at hp
  rcases List.mem_cons.mp hp with rfl | hp
  · exact .int _ _
  · rw [List.mem_singleton.mp hp]; exact .int _ _
theorem encI_inj {a b : PJ} (h : W.tup (encI a) = .tup (encI b)) : a = b := by
  unfold encI at h
  injection h with h
  injection h with h1 h2
  injection h2 with h2 _
  injection h1 with h1
  injection h2 with h2
  exact Prod.ext h1 h2
noncomputable def pKind (prog : Program) (w : World) : HeapKind prog w PJ where
  is := fun h o a => KIs h 8 (.tup (encI o)) (.ref a)
  hash := fun o => hashW prog w (.tup (encI o))
  draws := fun o => drwW (.tup (encI o))
  room := fun A => A.units + 20 < cLine
  inj := fun hx hy => encI_inj (KIs.inj hx hy)
  keeps := fun x gO dO hs => x.keeps fun a o items n gO' dO' => by
    rename_i d' od es ep
    have hne : a ≠ d' := fun z => by
      subst z
      cases gO.symm.trans gO'
      rw [dO] at dO'; cases dO'
    exact (hs.2 a hne).trans gO'
  pyHash := fun hu hk h => KIs.hash 8 hk (by (clear hk h; omega)) h
  eqBool := fun hu hx hy h => KIs.eqs 8 hx hy (sh_encI _ _) (by (clear hx hy h; omega)) (by
    rename_i x y _ _ _
    have : eqK (W.tup (encI x) = .tup (encI y)) = decide (x = y) := by
      by_cases e : x = y
      · subst e; rw [eqK_t rfl, decide_eq_true rfl]
      · rw [eqK_f (fun z => e (encI_inj z)), decide_eq_false e]
    rw [this]; exact h)
  quiet := fun hk h => KIs.quiet 8 hk h
section
variable {X : Cx} {pins : List (Addr × Obj)} {σ : St} {H : Hp} {s : Shared}
theorem rep_pair (I : Inv X pins σ H s) {o : PJ} {a : Addr} (r : Rep X.K H (.tup (encI o)) (.ref a)) : (pKind X.prog X.w).is s.heap o a := by
  unfold encI at r
  cases r with
  | tup hT rr =>
    obtain ⟨its, rv, ⟨ob, e, c, n, dd⟩, _⟩ := I.tuple (SqT.of hT)
    cases rr with
    | cons q1 qs =>
      cases qs with
      | cons q2 qs =>
        cases qs
        cases rv with
        | cons w1 ws =>
          cases ws with
          | cons w2 ws =>
            cases ws
            cases q1
            cases q2
            obtain ⟨t1, rfl⟩ := w1
            obtain ⟨t2, rfl⟩ := w2
            exact .tup e c dd (.cons (.int _ _) (.cons (.int _ _) .nil))
end
inductive KVI (K : PySem.W.Frag) (H : Hp) : List (PJ × W) → List (PJ × Addr × Value) → Prop where
  | nil : KVI K H [] []
  | cons {k : PJ} {a : Addr} {w : W} {v : V} {u : Value} {kvs : List (PJ × W)} {xs : List (PJ × Addr × Value)} (rk : Rep K H (.tup (encI k)) (.ref a)) (rv : Rep K H w v) (ru : RelV v u) (t : KVI K H kvs xs) : KVI K H ((k, w) :: kvs) ((k, a, u) :: xs)
theorem KVI.mono {K : PySem.W.Frag} {H H1 : Hp} (t : TLe H H1) : ∀ {kvs : List (PJ × W)} {xs : List (PJ × Addr × Value)}, KVI K H kvs xs → KVI K H1 kvs xs
  | _, _, .nil => .nil
  | _, _, .cons rk rv ru r => .cons (rk.mono t) (rv.mono t) ru (KVI.mono t r)
theorem KVI.keys {K : PySem.W.Frag} {H : Hp} : ∀ {kvs : List (PJ × W)} {xs : List (PJ × Addr × Value)}, KVI K H kvs xs → xs.map (·.1) = kvs.map (·.1)
  | _, _, .nil => rfl
  | _, _, .cons _ _ _ r => by rw [List.map_cons, List.map_cons, KVI.keys r]
theorem KVI.mem {K : PySem.W.Frag} {H : Hp} : ∀ {kvs : List (PJ × W)} {xs : List (PJ × Addr × Value)}, KVI K H kvs xs → ∀ x, x ∈ xs → Rep K H (.tup (encI x.1)) (.ref x.2.1)
  | _, _, .nil, x, hx => (nomatch hx)
  | _, _, .cons rk _ _ r, x, hx => by
    rcases List.mem_cons.mp hx with rfl | hx
    · exact rk
    · exact KVI.mem r x hx
noncomputable def DiiH (P : Program) (w : World) (a : Addr) (xs : List (PJ × Addr × Value)) : Heap → Prop := fun h => ∃ o es ep, h.get? a = some o ∧ o.ExactDict ∧ o.data = .dict es ep ∧ es.toList = xs.map (entryOfKey (pKind P w))
noncomputable def DiiP (P : Program) (w : World) (K : PySem.W.Frag) (kvs : List (PJ × W)) : Hp → Addr → Prop := fun H a => kvs.length ≤ 1000 ∧ (a == sysModules) = false ∧ (kvs.map (·.1)).Nodup ∧ ∃ xs, H a = some (.ext (DiiH P w a xs)) ∧ KVI K H kvs xs
noncomputable abbrev dii (P : Program) (w : World) (K : PySem.W.Frag) (kvs : List (PJ × W)) : GO := .any (DiiP P w K kvs)
theorem DiiP.ok {P : Program} {w : World} {K : PySem.W.Frag} {kvs : List (PJ × W)} {H : Hp} {a : Addr} (h : DiiP P w K kvs H a) : GOk K H a (dii P w K kvs) := by
  refine ⟨h, ?_, fun H1 H2 t e x => ?_⟩
  · obtain ⟨_, _, _, xs, e, _⟩ := h
    exact ⟨_, e⟩
  · obtain ⟨a1, a2, a3, xs, e1, kv⟩ := x
    exact ⟨a1, a2, a3, xs, e.trans e1, kv.mono t⟩
section
variable {X : Cx} {pins : List (Addr × Obj)} {σ : St} {H : Hp} {s : Shared}
theorem DiiP.dict {kvs : List (PJ × W)} {a : Addr} (I : Inv X pins σ H s) (h : DiiP X.prog X.w X.K kvs H a) : ∃ xs, H a = some (.ext (DiiH X.prog X.w a xs)) ∧ KVI X.K H kvs xs ∧ s.heap.DictOfH (pKind X.prog X.w) a xs := by
  obtain ⟨a1, a2, a3, xs, e, kv⟩ := h
  obtain ⟨⟨o, es, ep, h1, h2, h3, h4⟩, _⟩ := I.hok a _ e
  exact ⟨xs, e, kv, o, es, ep, h1, h2, h3, h4, fun x hx => rep_pair I (kv.mem x hx), by rw [kv.keys]; exact a3⟩
theorem diiH_ok {P : Program} {w : World} {H : Hp} {h : Heap} {a : Addr} {xs : List (PJ × Addr × Value)} (d : DiiH P w a xs h) : ObjOk P w H h a (.ext (DiiH P w a xs)) := by
  refine ⟨d, ?_, fun h1 h2 x k => ?_⟩
  · obtain ⟨o, _, _, e, _⟩ := d
    exact ⟨o, e⟩
  · obtain ⟨o, es, ep, e, r⟩ := x
    exact ⟨o, es, ep, k _ e, r⟩
noncomputable def wDicI (P : Program) (w : World) (K : PySem.W.Frag) : WE := fun _ G q => ∀ p, G p = none → q (.ref p) (updG G p (dii P w K []))
theorem qe_dicI {pos : Pos} : QE X (.Dict [] [] pos) (wDicI X.prog X.w X.K) := by
  have pe : PE X (.Dict [] [] pos) (fun _ H Q => ∀ p, H p = none → (p == sysModules) = false → Q (.ref p) (upd H p (.ext (DiiH X.prog X.w p [])))) := fun pins s σ H Q I h =>
    wpAny_Dict_empty ⟨.ref s.heap.objs.size, _, I.laid (a := s.heap.objs.size) (o := .ext (DiiH X.prog X.w s.heap.objs.size [])) (t' := s.toks) (fun _ _ q => Heap.get?_push_of_some _ q) (Nat.le_refl _) (diiH_ok ⟨_, #[], 0, Heap.get?_push_size _ rfl, ⟨rfl, rfl, rfl⟩, rfl, rfl⟩), rfl, h _ (I.hok.fresh (Nat.le_refl _)) (beq_eq_false_iff_ne.mpr (Ne.symm (Nat.ne_of_lt I.bigD)))⟩
  exact pe.imp fun σ H Q z0 => z0.el fun τ G q hs hg ht hQ p hp hm => hQ _ _ _ _ (TLe.new hp _) (.ref p) (hg.lay (g := dii X.prog X.w X.K []) (TLe.new hp _) (DiiP.ok ⟨Nat.zero_le _, hm, by simp, [], upd_same, .nil⟩)) (ht p (hg.fresh hp))
noncomputable def valI (kvs : List (PJ × W)) (k : PJ) : Option W := (kvs.find? fun p => decide (p.1 = k)).map (·.2)
theorem KVI.at {K : PySem.W.Frag} {k : PJ} : ∀ {kvs : List (PJ × W)} {xs : List (PJ × Addr × Value)}, KVI K H kvs xs → (valI kvs k = none ∧ atKey xs k = none) ∨ ∃ w a v u, valI kvs k = some w ∧ atKey xs k = some (a, u) ∧ Rep K H w v ∧ RelV v u
  | _, _, .nil => .inl ⟨rfl, rfl⟩
  | _, _, .cons (k := k') (a := a) (w := w) (v := v) (u := u) rk rv ru t => by
    by_cases e : k' = k
    · exact .inr ⟨w, a, v, u, by simp [valI, e], by simp [atKey, e], rv, ru⟩
    · rcases KVI.at (k := k) t with ⟨h1, h2⟩ | ⟨w', a', v', u', h1, h2, h3, h4⟩
      · exact .inl ⟨by simpa [valI, List.find?_cons, e] using h1, by simpa [atKey, List.find?_cons, e] using h2⟩
      · exact .inr ⟨w', a', v', u', by simpa [valI, List.find?_cons, e] using h1, by simpa [atKey, List.find?_cons, e] using h2, h3, h4⟩
theorem valI_mem {kvs : List (PJ × W)} {k : PJ} {x : W} (h : valI kvs k = some x) : (k, x) ∈ kvs := by
  unfold valI at h
  obtain ⟨p, hp, rfl⟩ := Option.map_eq_some_iff.mp h
  have h1 := List.mem_of_find?_eq_some hp
  have h2 := List.find?_some hp
  have h3 : p.1 = k := of_decide_eq_true h2
  rw [← h3]
  exact h1
noncomputable def rIxI (P : Program) (w : World) (K : PySem.W.Frag) : W2 := fun x y G q => match x, y with
  | .ref a, .tup ts => ∃ kvs o x, ts = encI o ∧ G a = some (dii P w K kvs) ∧ valI kvs o = some x ∧ q x G
  | x, y => rIx3 x y G q
theorem q_ixI {k : Nat} (hr : Room k X.A) : QIx X (rIxI X.prog X.w X.K) := by
  intro value slice pins s σ H x y v u Q I rx ry ⟨wx, wy, G, q, r1, r2, g, h, hQ⟩ hsl
  unfold rIxI at h
  split at h
  · rename_i a ts
    obtain ⟨kvs, o, x, rfl, hG, hv, h⟩ := h
    cases r1
    cases rx
    have hD := (g a _ hG).1
    obtain ⟨xs, _, kv, dd⟩ := hD.dict I
    rcases kv.at (k := o) with ⟨e, _⟩ | ⟨x', b', v', u', e, e', r, ru⟩
    · rw [e] at hv; cases hv
    · rw [e] at hv; cases hv
      cases r2 with
      | @tup b _ _ hT rr =>
        cases (show u = Value.ref b from ry)
        exact tail_any dd.typeIs PySem.F.slot_dict_getitem.lookup (wpAny_getItem_heap (knd := pKind X.prog X.w) (room20 hr) (rep_pair I (.tup hT rr)) dd e' ⟨v', H, I.tok _, ru, hQ _ H _ G (TLe.refl H) r g h⟩) hsl
  · exact q_ix value slice pins s σ H x _ v u Q I rx ry ⟨wx, wy, G, q, r1, r2, g, h, hQ⟩ hsl
theorem KVI.length {K : PySem.W.Frag} : ∀ {kvs : List (PJ × W)} {xs : List (PJ × Addr × Value)}, KVI K H kvs xs → xs.length = kvs.length
  | _, _, .nil => rfl
  | _, _, .cons _ _ _ t => by rw [List.length_cons, List.length_cons, KVI.length t]
noncomputable def putI (kvs : List (PJ × W)) (k : PJ) (x : W) : List (PJ × W) := if (valI kvs k).isSome then kvs.map (fun p => if p.1 = k then (p.1, x) else p) else kvs ++ [(k, x)]
theorem putI_len (kvs : List (PJ × W)) (k : PJ) (x : W) : (putI kvs k x).length ≤ kvs.length + 1 := by
  unfold putI
  split
  · rw [List.length_map]; omega
  · rw [List.length_append]; exact Nat.le_refl _
theorem putI_mem {kvs : List (PJ × W)} {k : PJ} {x : W} {p : PJ × W} (h : p ∈ putI kvs k x) : p = (k, x) ∨ p ∈ kvs := by
  unfold putI at h
  split at h
  · obtain ⟨q, hq, rfl⟩ := List.mem_map.mp h
    split
    · rename_i e; rw [e]; exact .inl rfl
    · exact .inr hq
  · rcases List.mem_append.mp h with h | h
    · exact .inr h
    · exact .inl (List.mem_singleton.mp h)
theorem putI_keys {kvs : List (PJ × W)} {k : PJ} {x : W} (hn : (kvs.map (·.1)).Nodup) : ((putI kvs k x).map (·.1)).Nodup := by
  unfold putI
  split
  · rename_i h
    have e : (kvs.map (fun p => if p.1 = k then (p.1, x) else p)).map (·.1) = kvs.map (·.1) := by
      rw [List.map_map]
      exact List.map_congr_left fun p _ => by show (if p.1 = k then (p.1, x) else p).1 = p.1; split <;> rfl
    rw [e]; exact hn
  · rename_i h
    rw [List.map_append, List.nodup_append]
    refine ⟨hn, by simp, fun y hy z hz e => ?_⟩
    simp only [List.map_cons, List.map_nil, List.mem_singleton] at hz
    obtain ⟨p, hp, hpe⟩ := List.mem_map.mp hy
    have hh : valI kvs k = none := by simpa using h
    unfold valI at hh
    rw [Option.map_eq_none_iff, List.find?_eq_none] at hh
    exact hh p hp (decide_eq_true (hpe.trans (e.trans hz)))
theorem KVI.snoc {K : PySem.W.Frag} {k : PJ} {a : Addr} {x : W} {v : V} {u : Value} (rk : Rep K H (.tup (encI k)) (.ref a)) (rv : Rep K H x v) (ru : RelV v u) : ∀ {kvs : List (PJ × W)} {xs : List (PJ × Addr × Value)}, KVI K H kvs xs → KVI K H (kvs ++ [(k, x)]) (xs ++ [(k, a, u)])
  | _, _, .nil => .cons rk rv ru .nil
  | _, _, .cons r1 r2 r3 t => .cons r1 r2 r3 (KVI.snoc rk rv ru t)
theorem KVI.turn {K : PySem.W.Frag} {k : PJ} {x : W} {v : V} {u : Value} (rv : Rep K H x v) (ru : RelV v u) : ∀ {kvs : List (PJ × W)} {xs : List (PJ × Addr × Value)}, KVI K H kvs xs → KVI K H (kvs.map (fun p => if p.1 = k then (p.1, x) else p)) (xs.map (putAt k u))
  | _, _, .nil => .nil
  | _, _, .cons (k := k') r1 r2 r3 t => by
    rw [List.map_cons, List.map_cons]
    by_cases e : k' = k
    · rw [if_pos e, show putAt k u (k', _, _) = (k', _, u) from if_pos e]
      exact .cons r1 rv ru (KVI.turn rv ru t)
    · rw [if_neg e, show putAt k u (k', _, _) = (k', _, _) from if_neg e]
      exact .cons r1 r2 r3 (KVI.turn rv ru t)
theorem KVI.put {K : PySem.W.Frag} {k : PJ} {a : Addr} {x : W} {v : V} {u : Value} (rk : Rep K H (.tup (encI k)) (.ref a)) (rv : Rep K H x v) (ru : RelV v u) {kvs : List (PJ × W)} {xs : List (PJ × Addr × Value)} (h : KVI K H kvs xs) : KVI K H (putI kvs k x) (storedH xs k a u) := by
  rcases h.at (k := k) with ⟨e, e'⟩ | ⟨x', b', v', u', e, e', r, _⟩
  · rw [storedH_new e']
    unfold putI
    rw [e]
    exact KVI.snoc rk rv ru h
  · rw [storedH_old e']
    unfold putI
    rw [e]
    exact KVI.turn rv ru h
noncomputable def wDPutI (P : Program) (w : World) (K : PySem.W.Frag) (tv to ti : WE) : WS := fun d τ G => tv τ G fun x G1 => to τ G1 fun y G2 => ti τ G2 fun z G3 => ∃ a k kvs, y = .ref a ∧ z = .tup (encI k) ∧ G3 a = some (dii P w K kvs) ∧ kvs.length + 1 ≤ 1000 ∧ d.nx τ (updG G3 a (dii P w K (putI kvs k x)))
theorem qs_dputI {n : Nat} {o i value : Expr} {to ti tv : WE} {pos pos' : Pos} (hr : Room n X.A) (hv : QE X value tv) (ho : QE X o to) (hi : QE X i ti) (hs : swapsWith value (some (.Subscript o i pos')) pos.line X.env = pure false := by rfl) :
    QS X (.Assign [.Subscript o i pos'] value pos) (wDPutI X.prog X.w X.K tv to ti) := by
  intro pins s σ H D I h
  obtain ⟨τ, G, d, hst, hg, ht, l⟩ := h
  refine wpAny_Assign_Subscript (thn (hv pins s σ H (fun v H1 => ∃ x G1, TLe H H1 ∧ Rep X.K H1 x v ∧ RelG X.K H1 G1 ∧ to τ G1 fun y G2 => ti τ G2 fun z G3 => ∃ a k kvs, y = .ref a ∧ z = .tup (encI k) ∧ G3 a = some (dii X.prog X.w X.K kvs) ∧ kvs.length + 1 ≤ 1000 ∧ d.nx τ (updG G3 a (dii X.prog X.w X.K (putI kvs k x)))) I ⟨τ, G, _, hst, hg, ht, fun v H1 w G1 t1 r1 g1 q1 => ⟨w, G1, t1, r1, g1, q1⟩⟩) fun r s1 ⟨v, H1, I1, rv, x, G1, t1, r1, g1, q1⟩ => ?_) hs
  refine thn (ho pins s1 σ H1 (fun v2 H2 => ∃ w2 G2, TLe H1 H2 ∧ Rep X.K H2 w2 v2 ∧ RelG X.K H2 G2 ∧ ti τ G2 fun z G3 => ∃ a k kvs, w2 = .ref a ∧ z = .tup (encI k) ∧ G3 a = some (dii X.prog X.w X.K kvs) ∧ kvs.length + 1 ≤ 1000 ∧ d.nx τ (updG G3 a (dii X.prog X.w X.K (putI kvs k x)))) I1 ⟨τ, G1, _, hst.mono t1, g1, q1, fun v2 H2 w2 G2 t2 r2 g2 q2 => ⟨w2, G2, t2, r2, g2, q2⟩⟩) fun u s2 ⟨y, H2, I2, rx, w2, G2, t2, r2, g2, q2⟩ => ?_
  refine thn (hi pins s2 σ H2 (fun v3 H3 => ∃ w3 G3, TLe H2 H3 ∧ Rep X.K H3 w3 v3 ∧ RelG X.K H3 G3 ∧ ∃ a k kvs, w2 = .ref a ∧ w3 = .tup (encI k) ∧ G3 a = some (dii X.prog X.w X.K kvs) ∧ kvs.length + 1 ≤ 1000 ∧ d.nx τ (updG G3 a (dii X.prog X.w X.K (putI kvs k x)))) I2 ⟨τ, G2, _, (hst.mono t1).mono t2, g2, q2, fun v3 H3 w3 G3 t3 r3 g3 q3 => ⟨w3, G3, t3, r3, g3, q3⟩⟩) fun iv s3 ⟨z, H3, I3, ry, w3, G3, t3, r3, g3, a, k, kvs, e1, e2, e3, hl, q3⟩ => ?_
  subst e1 e2
  cases r2
  cases rx
  have hD := (g3 a _ e3).1
  obtain ⟨xs, eH, kv, dd⟩ := hD.dict I3
  have hsz : xs.length ≤ sizeLine := by rw [kv.length, sizeLine_eq]; (clear hr hv ho hi hs I hst hg ht l I1 rv t1 r1 g1 q1 I2 t2 g2 I3 ry t3 g3 e3 q3 q2 r3 hD eH kv dd; omega)
  have r3' := r3
  cases r3 with
  | @tup b _ _ hT rr =>
    cases (show iv = Value.ref b from ry)
    refine wpAny_setItem_heap (hsz := hsz) (knd := pKind X.prog X.w) (room20 hr) (rep_pair I3 r3') dd fun h' hm' hs' => ?_
    obtain ⟨ob, es, ep, m1, m2, m3, m4, _⟩ := id hm'
    have dh : DiiH X.prog X.w a (storedH xs k b r) h' := ⟨ob, es, ep, m1, m2, m3, m4⟩
    have tl := TLe.ex eH (.ext (DiiH X.prog X.w a (storedH xs k b r)))
    have I4 := d_write (t' := s3.toks + (pKind X.prog X.w).draws k) I3 (by rw [eH]; exact True.intro) hs' ⟨ob, m1⟩ (diiH_ok dh)
    have tt := (t1.trans t2).trans t3
    have hD2 : DiiP X.prog X.w X.K (putI kvs k x) (upd H3 a (.ext (DiiH X.prog X.w a (storedH xs k b r)))) a := ⟨Nat.le_trans (putI_len _ _ _) hl, hD.2.1, putI_keys hD.2.2.1, _, upd_same, (KVI.put r3' (r1.mono (t2.trans t3)) rv kv).mono tl⟩
    exact ⟨σ, _, I4, l.nx σ _ τ _ (tt.trans tl) (hst.mono (tt.trans tl)) (g3.lay (g := dii X.prog X.w X.K _) tl hD2.ok) q3⟩
end
end L2
set_option linter.all false
set_option maxRecDepth 100000
set_option maxHeartbeats 1000000
namespace L2
open PySem PySem.Spec PyProof.Rows Nm PySem.W
inductive NVI (K : PySem.W.Frag) (H : Hp) : List PJ → List Value → Prop where
  | nil : NVI K H [] []
  | cons {o : PJ} {a : Addr} {os : List PJ} {us : List Value} (r : Rep K H (.tup (encI o)) (.ref a)) (t : NVI K H os us) : NVI K H (o :: os) (.ref a :: us)
theorem NVI.length {K : PySem.W.Frag} {H : Hp} : ∀ {os : List PJ} {us : List Value}, NVI K H os us → os.length = us.length
  | _, _, .nil => rfl
  | _, _, .cons _ t => congrArg (· + 1) t.length
theorem NVI.app {K : PySem.W.Frag} {H : Hp} : ∀ {os ps : List PJ} {us vs : List Value}, NVI K H os us → NVI K H ps vs → NVI K H (os ++ ps) (us ++ vs)
  | _, _, _, _, .nil, t => t
  | _, _, _, _, .cons r t, t2 => .cons r (t.app t2)
theorem NVI.rev {K : PySem.W.Frag} {H : Hp} : ∀ {os : List PJ} {us : List Value}, NVI K H os us → NVI K H os.reverse us.reverse
  | _, _, .nil => .nil
  | _, _, .cons r t => by
    rw [List.reverse_cons, List.reverse_cons]
    exact t.rev.app (.cons r .nil)
theorem NVI.at {K : PySem.W.Frag} {H : Hp} : ∀ {os : List PJ} {us : List Value}, NVI K H os us → ∀ i, i < os.length → ∃ a, us.getD i Value.none = .ref a ∧ Rep K H (.tup (encI (os.getD i (0, 0)))) (.ref a)
  | _, _, .nil, i, h => absurd h (Nat.not_lt_zero _)
  | _, _, .cons r t, 0, _ => ⟨_, rfl, r⟩
  | _, _, .cons r t, i + 1, h => t.at i (Nat.lt_of_succ_lt_succ h)
theorem NVI.pick {K : PySem.W.Frag} {H : Hp} {os : List PJ} {us : List Value} (h : NVI K H os us) : ∀ {p : List Nat}, (∀ i, i ∈ p → i < os.length) → NVI K H (p.map fun i => os.getD i (0, 0)) (p.map fun i => us.getD i Value.none)
  | [], _ => .nil
  | i :: p, hp => by
    obtain ⟨a, h1, h2⟩ := h.at i (hp i List.mem_cons_self)
    rw [List.map_cons, List.map_cons, h1]
    exact .cons h2 (h.pick fun j hj => hp j (List.mem_cons_of_mem _ hj))
section
variable {X : Cx} {pins : List (Addr × Obj)} {σ : St} {H : Hp} {s : Shared}
theorem pr_at (I : Inv X pins σ H s) {o : PJ} {a : Addr} (r : Rep X.K H (.tup (encI o)) (.ref a)) : ∃ ob n t1 t2, s.heap.get? a = some ob ∧ ob.cls = .type "tuple" ∧ ob.data = .seq #[.int o.1 t1, .int o.2 t2] n := by
  unfold encI at r
  cases r with
  | tup hT rr =>
    obtain ⟨its, rv, ⟨ob, e, c, n, dd⟩, _⟩ := I.tuple (SqT.of hT)
    cases rr with
    | cons q1 qs =>
      cases qs with
      | cons q2 qs =>
        cases qs
        cases rv with
        | cons w1 ws =>
          cases ws with
          | cons w2 ws =>
            cases ws
            cases q1
            cases q2
            obtain ⟨t1, rfl⟩ := w1
            obtain ⟨t2, rfl⟩ := w2
            exact ⟨ob, n, t1, t2, e, c, dd⟩
theorem nvi_tups (I : Inv X pins σ H s) : ∀ {os : List PJ} {us : List Value}, NVI X.K H os us → ∃ fs : List Value, KatTups s.heap us fs ∧ fs.length = us.length ∧ ∀ v, v ∈ fs → ∃ n t, v = Value.int n t
  | _, _, .nil => ⟨[], KatTups.nil, rfl, fun _ h => (nomatch h)⟩
  | _, _, .cons r t => by
    obtain ⟨fs, h1, h2, h3⟩ := nvi_tups I t
    obtain ⟨ob, n, t1, t2, e, c, dd⟩ := pr_at I r
    refine ⟨_ :: fs, KatTups.cons e c dd rfl h1, by simp [h2], fun v hv => ?_⟩
    rcases List.mem_cons.mp hv with rfl | hv
    · exact ⟨_, _, rfl⟩
    · exact h3 v hv
theorem nvi_kind (I : Inv X pins σ H s) {A : Around} {E : Value → Shared → Prop} {os : List PJ} {us : List Value} (nv : NVI X.K H os us) (h1 : 1 ≤ us.length) {Q : SortKind → Shared → Prop} (q : Q (tuples' true) s) : wpAny (model X.prog X.w) A (keyKind' us.toArray) Q E s := by
  obtain ⟨fs, k1, k2, k3⟩ := nvi_tups I nv
  refine kat_kind (T := .type "int") k1 (by (clear I nv q k1 k3; omega)) (fun v hv => ?_) rfl q
  obtain ⟨n, t, rfl⟩ := k3 v hv
  exact Looks.now
theorem key_pr (I : Inv X pins σ H s) {a b : PJ} {p q : Addr} (rp : Rep X.K H (.tup (encI a)) (.ref p)) (rq : Rep X.K H (.tup (encI b)) (.ref q)) {A : Around} {E : Value → Shared → Prop} {Q : Bool → Shared → Prop} (h : Q (decide (cmpI a b < 0)) s) : wpAny (model X.prog X.w) A (keyLt' (tuples' true) (.ref p) (.ref q)) Q E s := by
  obtain ⟨o1, n1, t1, t2, e1, c1, d1⟩ := pr_at I rp
  obtain ⟨o2, n2, t3, t4, e2, c2, d2⟩ := pr_at I rq
  refine kat_lt e1 d1 e2 d2 ?_
  show KatLex _ _ _ _ _ _ [(Value.int a.1 t1, Value.int b.1 t3), (Value.int a.2 t2, Value.int b.2 t4)] 0 s
  refine kat_cons (wpAny_eqBool_int ?_)
  by_cases h1 : a.1 = b.1
  · rw [beq_iff_eq.mpr h1]
    refine kat_yes (kat_cons (wpAny_eqBool_int ?_))
    by_cases h2 : a.2 = b.2
    · rw [beq_iff_eq.mpr h2]
      refine kat_yes (kat_nil ?_)
      rw [decide_eq_false (by rw [cmpI_lt]; (clear I rp rq h e1 c1 d1 e2 c2 d2; omega))] at h
      simpa using h
    · rw [beq_eq_false_iff_ne.mpr h2]
      refine kat_no ?_
      rw [show (true && (0 + 1 == 0)) = false from rfl]
      refine kat_one _ _ ?_
      have e : decide (cmpI a b < 0) = decide (a.2 < b.2) := decide_eq_decide.mpr (by rw [cmpI_lt]; (clear I rp rq h e1 c1 d1 e2 c2 d2 h2; omega))
      rw [e] at h
      exact PySem.P.lt_int h
  · rw [beq_eq_false_iff_ne.mpr h1]
    refine kat_no ?_
    rw [show (true && (0 == 0)) = true from rfl]
    have e : decide (cmpI a b < 0) = decide (a.1 < b.1) := decide_eq_decide.mpr (by rw [cmpI_lt]; (clear I rp rq h e1 c1 d1 e2 c2 d2; omega))
    rw [e] at h
    exact oneLt_int h
theorem rkI_order {os : List PJ} {n : Nat} (hn : os.length = n) (h2 : 2 ≤ n) (h5 : n ≤ 5) (hd : os.Nodup) : kOk n (kas_sort n) = true ∧ ∃ p : List Nat, p = (kRun (ltOf (os.map (rkI os))) (kas_sort n)).toList ∧ (p.map fun i => (os.map (rkI os)).getD i 0) = List.range n ∧ ∀ i, i ∈ p → i < n := by
  have hc := chk_at h2 h5
  unfold chkN at hc
  rw [Bool.and_eq_true] at hc
  refine ⟨hc.1, _, rfl, ?_⟩
  have hm : os.map (rkI os) ∈ allL n n := by
    have := allL_mem (n := n) (l := os.map (rkI os)) fun x hx => by
      obtain ⟨o, ho, rfl⟩ := List.mem_map.mp hx
      rw [← hn]
      exact rkI_len ho
    rw [List.length_map, hn] at this
    exact this
  have hnd : (os.map (rkI os)).Nodup := by
    rw [List.Nodup, List.pairwise_map]
    exact hd.imp_of_mem fun {a b} ha hb hne z => hne (rkI_inj ha hb z)
  have h3 := List.all_eq_true.mp hc.2 _ hm
  rw [ndB_of hnd, Bool.not_true, Bool.false_or] at h3
  unfold kChk at h3
  rw [Bool.and_eq_true] at h3
  refine ⟨by simpa using h3.1, fun i hi => ?_⟩
  have := List.all_eq_true.mp h3.2 i hi
  simpa using this
theorem lt_ranksI {os : List PJ} {i j : Nat} (hi : i < os.length) (hj : j < os.length) : ltOf (os.map (rkI os)) i j = decide (cmpI (os.getD i (0, 0)) (os.getD j (0, 0)) < 0) := by
  have e : ∀ k, k < os.length → (os.map (rkI os)).getD k 0 = rkI os (os.getD k (0, 0)) ∧ os.getD k (0, 0) ∈ os := fun k hk => by
    rw [List.getD_eq_getElem?_getD, List.getD_eq_getElem?_getD, List.getElem?_map, List.getElem?_eq_getElem hk]
    exact ⟨rfl, List.getElem_mem hk⟩
  unfold ltOf
  rw [(e i hi).1, (e j hj).1]
  exact decide_eq_decide.mpr (rkI_iff (e i hi).2 (e j hj).2)
theorem sort_prs (I : Inv X pins σ H s) {A : Around} {E : Value → Shared → Prop} {a : Addr} {vs : List Value} {os : List PJ} {n : Nat} {R : PySem.Fin → Shared → Prop} (ho : s.heap.get? a = some (seqObj "list" vs.toArray n)) (fa : FpOk X pins H a) (nv : NVI X.K H os vs) (hnd : os.Nodup) (h5 : vs.length ≤ 5) (hu : A.units + 25 < cLine)
    (h : ∀ (out : List Value) (ks : List PJ) (h' : Heap) (e : Nat), (∀ b o, b ≠ a → s.heap.get? b = some o → h'.get? b = some o) → h'.get? a = some (seqObj "list" out.toArray e) → NVI X.K H ks out → DescI ks → ks.Perm os → R (.done (.ret .none)) { s with heap := h' }) :
    wpAny (model X.prog X.w) A (Builtin.«list.sort» ⟨[.ref a], [(Str.ofString "reverse", .bool true)]⟩) R E s := by
  have hlen := nv.length
  rw [list_sort_rev]
  have ha : a < s.heap.objs.size := Heap.lt_size ho
  refine wpAny_bind (listItems_at ho rfl ?_)
  refine wpAny_bind (listUpdate_at ho rfl ?_ (by rw [List.size_toArray, sizeLine_eq]; exact Nat.le_trans (by assumption) (Nat.le_of_ble_eq_true rfl)) (Nat.zero_le _))
  obtain ⟨e1, ho1⟩ : ∃ e1, (s.heap.update a (Obj.mapSeq fun _ => #[])).get? a = some (seqObj "list" #[] e1) := ⟨_, get?_update_seq ho (fun _ => #[])⟩
  refine wpAny_bind (seqEpoch_at ho1 rfl ?_)
  refine wpAny_bind (wpAny_newTuple ?_ (by show vs.length ≤ _; rw [sizeLine_eq]; exact Nat.le_trans (by assumption) (Nat.le_of_ble_eq_true rfl)))
  refine wpAny_bind (wpAny_newList ?_ (Nat.zero_le _))
  refine wpAny_holding ?_
  have sb : Heap.SameBut a s.heap (s.heap.update a (Obj.mapSeq fun _ => #[])) := Heap.SameBut.update ..
  have keep6 : ∀ b o, b ≠ a → s.heap.get? b = some o → (((s.heap.update a (Obj.mapSeq fun _ => #[])).push (seqObj "tuple" vs.toArray 0)).push (seqObj "list" #[] 0)).get? b = some o := fun b o hb e => Heap.get?_push_of_some _ (Heap.get?_push_of_some _ ((sb.2 b hb).trans e))
  have ho6 : (((s.heap.update a (Obj.mapSeq fun _ => #[])).push (seqObj "tuple" vs.toArray 0)).push (seqObj "list" #[] 0)).get? a = some (seqObj "list" #[] e1) := Heap.get?_push_of_some _ (Heap.get?_push_of_some _ ho1)
  show wpAny (model X.prog X.w) A _ R E { s with heap := ((s.heap.update a (Obj.mapSeq fun _ => #[])).push (seqObj "tuple" vs.toArray 0)).push (seqObj "list" #[] 0) }
  generalize ((s.heap.update a (Obj.mapSeq fun _ => #[])).push (seqObj "tuple" vs.toArray 0)).push (seqObj "list" #[] 0) = h6 at keep6 ho6 ⊢
  obtain ⟨f0, f1, f2, f3, f4, f5⟩ := fa
  have I6 : Inv X pins σ H { s with heap := h6 } := I.turned (t' := s.toks) keep6 f0 f1 f3 f4 f5
  simp only [if_true]
  refine wpAny_bind (wpAny_rule ?_)
  -- what is left once the order is known
  have fin : ∀ (out : List Value) (ks : List PJ), NVI X.K H ks out → DescI ks → ks.Perm os → out.length = vs.length → wpAny (model X.prog X.w) A (Builtin.List.listUpdate (.ref a) fun _ => out.toArray) (fun _ s' => ∃ h' e, s' = { s with heap := h' } ∧ (∀ b o, b ≠ a → s.heap.get? b = some o → h'.get? b = some o) ∧ h'.get? a = some (seqObj "list" out.toArray e)) E { s with heap := h6 } := fun out ks _ _ _ hl => by
    refine listUpdate_at ho6 rfl ?_ (Nat.zero_le _) (by rw [List.size_toArray, sizeLine_eq]; (clear I ho nv hnd hu h ha ho1 sb keep6 ho6 f0 f1 f2 f3 f4 f5 I6; omega))
    have sb2 : Heap.SameBut a h6 (h6.update a (Obj.mapSeq fun _ => out.toArray)) := Heap.SameBut.update ..
    exact ⟨_, _, rfl, fun b o hb e => (sb2.2 b hb).trans (keep6 b o hb e), get?_update_seq ho6 fun _ => out.toArray⟩
  by_cases h2 : vs.toArray.size < 2
  · rw [if_pos h2, if_pos h2]
    refine wpAny_bind (wpAny_pure ?_)
    rw [StateT.run_pure]
    refine wpAny_bind (wpAny_pure ?_)
    dsimp only
    refine wpAny_bind (seqEpoch_at ho6 rfl ?_)
    have eo : ((arrOf (SortSt.mk' general' (vs.toArray.zip vs.toArray).reverse #[] 7 none)).map (·.2)).reverse = vs.toArray := by
      show (((vs.toArray.zip vs.toArray).reverse).map (·.2)).reverse = vs.toArray
      apply Array.toList_inj.mp
      simp [List.map_snd_zip]
    rw [eo]
    have hd1 : DescI os := by
      have : os.length < 2 := by rw [hlen]; simpa using h2
      match os, this with
      | [], _ => exact List.Pairwise.nil
      | [x], _ => exact List.pairwise_singleton _ _
    refine wpAny_bind (wpAny_mono (fin vs os nv hd1 (List.Perm.refl _) rfl) (fun _ s' ⟨h', e, es, k1, k2⟩ => ?_) fun _ _ x => x)
    subst es
    simp only [bne_self_eq_false, Bool.false_eq_true, if_false]
    exact wpAny_pure (h vs os h' e k1 k2 nv hd1 (List.Perm.refl _))
  · rw [if_neg h2, if_neg h2]
    have hn2 : 2 ≤ vs.length := by simpa using h2
    refine wpAny_bind (nvi_kind I6 nv (by (clear I ho nv hnd hu h ha ho1 sb keep6 ho6 f0 f1 f2 f3 f4 f5 I6 fin h2; omega)) ?_)
    have nv' := nv.rev
    have hl' : os.reverse.length = vs.length := by rw [List.length_reverse]; exact hlen
    have hnd' : os.reverse.Nodup := by rw [List.Nodup, List.pairwise_reverse]; exact hnd.imp fun h => h.symm
    obtain ⟨ok, p, hp, hp1, hp2⟩ := rkI_order hl' hn2 h5 hnd'
    obtain ⟨dsc, prm⟩ := desc_ofI hl' hnd' hp1 hp2
    have nvp := (nv'.pick (p := p) fun i hi => by rw [hl']; exact hp2 i hi).rev
    have hlp : p.length = vs.length := by have := congrArg List.length hp1; simpa using this
    have hask : (kas_sort vs.length).kasWp (kas_cmp X.prog X.w A (tuples' true) (pairsOf vs.reverse)) (fun p' s' => s' = { s with heap := h6 } ∧ p'.toList = p) { s with heap := h6 } := by
      refine kas_pure (n := vs.length) (lt := ltOf (os.reverse.map (rkI os.reverse))) (fun i j hi hj C hC => ?_) _ ok ⟨rfl, hp.symm⟩
      rw [← kas_ask_eq]
      unfold kas_ask
      obtain ⟨a1, g1, g2⟩ := nv'.at i (by rw [hl']; exact hi)
      obtain ⟨a2, k1, k2⟩ := nv'.at j (by rw [hl']; exact hj)
      rw [g1, k1]
      rw [lt_ranksI (by rw [hl']; exact hi) (by rw [hl']; exact hj)] at hC
      exact key_pr I6 g2 k2 hC
    have est : SortSt.mk' (tuples' true) (vs.toArray.zip vs.toArray).reverse #[] 7 none = kas_st (tuples' true) (pairsOf vs.reverse) (List.toArray (List.range vs.length)) := by
      have e := kas_range (pairsOf vs.reverse)
      rw [pairsOf_size, List.length_reverse] at e
      rw [pairs_rev]
      show SortSt.mk' (tuples' true) (pairsOf vs.reverse) #[] 7 none = SortSt.mk' (tuples' true) ((List.toArray (List.range vs.length)).map (kas_item (pairsOf vs.reverse))) #[] 7 none
      rw [e]
    have run := kas_runs (E := E) (κ := tuples' true) (it := pairsOf vs.reverse) (Q := fun _ st' s' => s' = { s with heap := h6 } ∧ (arrOf st').map (·.2) = (p.map fun i => vs.reverse.getD i Value.none).toArray ∧ failedOf st' = none) hn2 (by (clear I ho nv hnd hu h ha ho1 sb keep6 ho6 f0 f1 f2 f3 f4 f5 I6 fin h2 nv' hnd' ok hp hp1 hp2 dsc prm nvp hask est; omega)) (fun p' st' s' a1 a2 a3 a4 => ⟨a4.1, by
      apply Array.toList_inj.mp
      rw [a2, Array.map_map, Array.toList_map, a4.2]
      exact List.map_congr_left fun i _ => by show (kas_item (pairsOf vs.reverse) i).2 = _; rw [kas_item_eq], a3⟩) hask
    rw [← est] at run
    refine wpAny_bind (wpAny_mono run ?_ fun _ _ e => e)
    rintro ⟨⟨⟩, st'⟩ s' ⟨rfl, har, hf⟩
    dsimp only
    refine wpAny_bind (seqEpoch_at ho6 rfl ?_)
    rw [har, show (p.map fun i => vs.reverse.getD i Value.none).toArray.reverse = ((p.map fun i => vs.reverse.getD i Value.none).reverse).toArray by simp]
    have prm2 := prm.trans (List.reverse_perm os)
    refine wpAny_bind (wpAny_mono (fin _ _ nvp dsc prm2 (by rw [List.length_reverse, List.length_map, hlp])) (fun _ s' ⟨h', e, es, k1, k2⟩ => ?_) fun _ _ x => x)
    subst es
    rw [hf]
    simp only [bne_self_eq_false, Bool.false_eq_true, if_false]
    exact wpAny_pure (h _ _ h' e k1 k2 nvp dsc prm2)
theorem KVI.ents {P : Program} {w : World} {K : PySem.W.Frag} : ∀ {kvs : List (PJ × W)} {xs : List (PJ × Addr × Value)}, KVI K H kvs xs → NVI K H (kvs.map (·.1)) ((xs.map (entryOfKey (pKind P w))).map (·.key))
  | _, _, .nil => .nil
  | _, _, .cons rkI _ _ t => .cons rkI (KVI.ents t)
theorem call_sortI {k : Nat} (hr : Room k X.A) (hc : X.calm = true) (I : Inv X pins σ H s) {d : Addr} {kvs : List (PJ × W)} (hD : DiiP X.prog X.w X.K kvs H d) (h5 : kvs.length ≤ 5) {E : Value → Shared → Prop} {Q : Value → Shared → Prop}
    (h : ∀ (h1 : Heap) (ks : List PJ) (out : List Value) (h' : Heap) (tk e : Nat), Inv X pins σ H { s with heap := h1, toks := tk } → (∀ b o, h1.get? b = some o → h'.get? b = some o) → h'.get? h1.objs.size = some (seqObj "list" out.toArray e) → NVI X.K H ks out → DescI ks → ks.Perm (kvs.map (·.1)) → Q (.ref h1.objs.size) { s with heap := h', toks := tk }) :
    wpAny (model X.prog X.w) X.A (call (.builtin "sorted") [.ref d] [(Str.ofString "reverse", .bool true)]) Q E s := by
  have hun := hr.un
  obtain ⟨xs, eH, kv, ob, es, ep, m1, m2, m3, m4, _⟩ := hD.dict I
  have hsz : es.size = kvs.length := by rw [size_of_entries m4, kv.length]
  refine call_function_entry_kw kind_sorted plain_sorted entry_sorted (args_sorted_rev _ _) ?_
  unfold Builtin.«sorted»
  refine wpAny_bind (m := checkCount "sorted" 1 1 _) (wpAny_pure ?_)
  refine wpAny_bind (kdu_collect (A := X.A.in1) (kdl_ent (es := es) (ep := ep) hD.2.1) (I.ok.hd hc) ⟨ob, m1, m2, m3⟩ (by rw [hsz, sizeLine_eq]; exact Nat.le_trans (by assumption) (Nat.le_of_ble_eq_true rfl)) fun h1 tk acc k1 hacc => ?_)
  have hal : acc.toList = es.toList.map (·.key) := by
    apply List.ext_getElem?
    intro i
    rw [List.getElem?_map]
    by_cases hi : i < es.size
    · have hi2 : i < acc.size := by rw [hacc.1]; exact hi
      obtain ⟨e, e1, e2⟩ := hacc.2 i acc[i] (Array.getElem?_eq_getElem hi2)
      rw [Array.getElem?_toList, Array.getElem?_toList, e1, Array.getElem?_eq_getElem hi2, e2]
      rfl
    · rw [Array.getElem?_toList, Array.getElem?_toList, Array.getElem?_eq_none (by rw [hacc.1]; (clear hr hc I hD h5 h hun eH kv m1 m2 m3 m4 hsz k1 hacc; omega)), Array.getElem?_eq_none (by (clear hr hc I hD h5 h hun eH kv m1 m2 m3 m4 hsz k1 hacc; omega))]
      rfl
  have nv : NVI X.K H (kvs.map (·.1)) acc.toList := by
    rw [hal, m4]
    exact KVI.ents kv
  have hlen : acc.toList.length ≤ 5 := by rw [← nv.length, List.length_map]; exact h5
  refine wpAny_bind (wpAny_newList ?_ (by rw [sizeLine_eq]; exact Nat.le_trans (by assumption) (Nat.le_of_ble_eq_true rfl)))
  have I1 : Inv X pins σ H { s with heap := h1, toks := tk } := I.kept k1
  have fp : FpOk X pins H h1.objs.size := I1.fpOk (Nat.le_refl _) (I1.hok.fresh (Nat.le_refl _))
  have I2 : Inv X pins σ H { s with heap := h1.push (seqObj "list" acc.toList.toArray 0), toks := tk } := I1.kept fun b o e => Heap.get?_push_of_some _ e
  refine wpAny_bind (wpAny_holding (wpAny_call_entry_kw slot_list_sort ⟨_, Heap.get?_push_size _ rfl, rfl⟩ entry_list_sort (sort_prs I2 (Heap.get?_push_size _ rfl) fp nv hD.2.2.1 hlen (by show X.A.units + 1 + 1 + 25 < cLine; (clear hr hc I hD h5 h eH kv m1 m2 m3 m4 hsz k1 hacc hal nv hlen I1 fp I2; omega)) fun out ks h' e k2 g2 nvk ds pm => ⟨_, rfl, ?_⟩) (args_list_sort_rev _ _)))
  exact wpAny_pure ⟨_, rfl, h h1 ks out h' tk e I1 (fun b o e => k2 b o (Nat.ne_of_lt (Heap.lt_size e)) (Heap.get?_push_of_some _ e)) g2 nvk ds pm⟩
theorem NVI.vals {K : PySem.W.Frag} : ∀ {os : List PJ} {us : List Value}, NVI K H os us → ∃ vs : List V, Reps K H (os.map fun o => .tup (encI o)) vs ∧ Vals vs us
  | _, _, .nil => ⟨[], .nil, .nil⟩
  | _, _, .cons (a := a) r t => by
    obtain ⟨vs, h1, h2⟩ := NVI.vals t
    exact ⟨.ref a :: vs, .cons r h1, .cons rfl h2⟩
noncomputable def wSortI (P : Program) (w : World) (K : PySem.W.Frag) (te : WE) : WE := fun τ G q => te τ G fun x G1 => match x with
  | .ref a => ∃ kvs, G1 a = some (dii P w K kvs) ∧ kvs.length ≤ 5 ∧ ∀ (p : Addr) (ks : List PJ), G1 p = none → DescI ks → ks.Perm (kvs.map (·.1)) → q (.ref p) (updG G1 p (.lst (ks.map fun o => .tup (encI o))))
  | _ => False
theorem qe_sortI {n : Nat} {e : Expr} {te : WE} {j} {p pos kp cp : Pos} (hr : Room n X.A) (hc : X.calm = true) (hg : Gl X "sorted") (hm : X.mg "sorted" = none) (he : QE X e te)
    (hs1 : starEach [e] X.env = (false, eval e X.env) :: starEach [] X.env := by rfl) (hb1 : backTo pos (starEach [e] X.env) = (false, eval e X.env) :: backTo pos (starEach [] X.env) := by rfl) (hpl : (backTo pos (starEach [e] X.env)).any (·.1) = false := by rfl) :
    QE X (.Call (.Name "sorted" p) [e] [⟨some "reverse", .Constant (.bool true) j cp, kp⟩] pos) (wSortI X.prog X.w X.K te) := by
  intro pins s σ H Q I ⟨τ, G, q, hs, hgG, ht, hQ⟩
  refine wpAny_Call_Name_kw (ld_blt I hg hm boot_sorted ?_)
  have go := (pa_cons he pa_nil hs1) pos pins s σ H (fun vs H1 => ∃ v w G1, vs = [v] ∧ TLe H H1 ∧ Rep X.K H1 w v ∧ RelG X.K H1 G1 ∧ (match w with
      | .ref a => ∃ kvs, G1 a = some (dii X.prog X.w X.K kvs) ∧ kvs.length ≤ 5 ∧ ∀ (p : Addr) (ks : List PJ), G1 p = none → DescI ks → ks.Perm (kvs.map (·.1)) → q (.ref p) (updG G1 p (.lst (ks.map fun o => .tup (encI o))))
      | _ => False)) I ⟨τ, G, _, hs, hgG, ht, fun v H1 w G1 t1 r1 g1 q1 => ⟨v, w, G1, rfl, t1, r1, g1, q1⟩⟩
  refine callWith_kw (thn go fun us s1 ⟨vs, H1, I1, rv, v, w, G1, ev, t1, rw1, g1, hw⟩ => kws_cons ?_) hb1 hpl rfl rfl
  subst ev
  refine thn (pe_bl (X := X) (b := true) (j := j) (pos := cp) pins s1 σ H1 (fun v H2 => v = .bl true ∧ H2 = H1) I1 ⟨rfl, rfl⟩) fun u2 s2 ⟨v2, H2, I2, rv2, e1, e2⟩ => kws_nil ?_
  subst e1 e2
  cases (show u2 = Value.bool true from rv2)
  show wpAny _ _ (call (.builtin "sorted") us [("reverse", .bool true)]) _ _ s2
  split at hw
  · rename_i a
    obtain ⟨kvs, e, h5, h⟩ := hw
    cases rw1
    obtain ⟨u, rfl, ru⟩ := vals1 rv
    cases (show u = Value.ref a from ru)
    refine call_sortI hr hc I2 (g1 a _ e).1 h5 fun h1 ks out h' tk ee I3 k3 g3 nvk ds pm => ?_
    obtain ⟨vs, r1, r2⟩ := nvk.vals
    have hl : ks.length ≤ 5 := by have := pm.length_eq; rw [List.length_map] at this; (clear hr hc hg hm he hs1 hb1 hpl I hs hgG ht hQ go I2 I1 t1 g1 rv2 e h ru rv I3 k3 g3 nvk ds pm r1 r2; omega)
    have hp := I3.hok.fresh (Nat.le_refl h1.objs.size)
    have hvl : vs.length ≤ sizeLine := by rw [← r1.length, List.length_map, sizeLine_eq]; exact Nat.le_trans (by assumption) (Nat.le_of_ble_eq_true rfl)
    refine ⟨.ref h1.objs.size, _, I3.laid (t' := tk) k3 (Nat.le_refl _) (show ObjOk X.prog X.w _ h' _ (.lst vs) from ⟨hvl, out, ee, r2, g3⟩), rfl, ?_⟩
    exact hQ _ _ _ _ (t1.trans (TLe.new hp _)) (.ref _) (g1.put (TLe.new hp _) r1 (by rw [List.length_map]; exact Nat.le_trans (by assumption) (Nat.le_of_ble_eq_true rfl))) (h _ ks (g1.fresh hp) ds pm)
  · exact hw.elim
end
end L2

set_option Elab.async false
set_option linter.all false
open PySem PySem.Spec PyProof.Rows L2 Nm
seal QE QT QW QA QS QSs QG QGs QI QO QTs QOp QIx QCall
seal PySem.compareOp PySem.binaryOp PySem.unaryOp

set_option bootstrap.genMatcherCode true
set_option compiler.extract_closed false
local macro_rules | `(tactic| walk_at "R") => `(tactic| simp (config := { failIfUnchanged := false, maxSteps := 2000000 }) only [wDicI, wDPutI, wSortI, rIxI, jRevL, wRevL, wStart, wSeq, wIf, wTest, wOp, wVar, wC, wNeg, wRet, wNext, wAsg, wPar, wNever, wNevers, wRaise, wTry, wTryA, wTryY, wIfY, wSeqY, wCallY, wDoY, wAs, wIsx, wIsn, wMaxD, wTupRev, wTupRvT, wBits, jRngG, CPowB, rIsB, wCallX, wDct, hName, wCall, wCB, wCons, wNil, wTup, wLst, wIsi, wAnd, wOr, wNot, wAndV, wOrV, wNotV, wIfE, wDrop, wSl, wPart, wNoPart, wFor, jSeq, jRng, jRng2, jRng3, jZip, jRev, jEnum, jEnumL, wExt, wComp, wApp, wTrue, hTup, hCons, hNil, vAdd, rSub3, L2.vInt, L2.vInt0, rEq4, rNe4, rEq3, rNe3, rLt3, rGe3, rIsA, rIsN, rIx3, rSl3, cLen, cTuple, cList, cSum, cInt, cMax, cMax4, cMin, List.map_cons, List.map_nil, List.length_cons, List.length_nil, List.replicate_succ, List.replicate_zero, List.cons_append, List.nil_append, List.append_nil, List.getElem?_cons_zero, List.getElem?_cons_succ, List.set_cons_zero, List.set_cons_succ, Nat.reduceAdd, Nat.reduceSub, Nat.zero_add, Nat.add_zero, Nat.sub_self, Nat.sub_zero, atI0, atI1, atI2, Option.some.injEq, exists_eq_left', int_flat, int_dep, int_eq, nil_flat, nil_dep, beqZ, decide_eq_true_eq, Bool.not_eq_true', decide_eq_false_iff_not, true_and, Nat.zero_le, cpow10, CMulC, CMulB, CDivB, CMul, CDiv, Int.reduceLE, Int.reduceLT, Nat.reducePow, Nat.reduceLT, Nat.reduceLeDiff, Int.reduceToNat, Int.reducePow, Int.reduceNeg, and_true, or_true, true_or, and_self, tyN_int, tyN_bl, tyN_tup, tyN_non, subN_ii, subN_ib, subN_it, subN_bi, subN_bb, subN_bt, subN_tt, subN_ti, subN_tb, subN_ll, subN_nt, Int.toNat_natCast, if_true, if_false, Bool.false_eq_true, Bool.true_eq_false, Bool.not_true, Bool.not_false, eq_self, not_true_eq_false, not_false_eq_true, cast_0, cast_1, cast_2, cast_3])
set_option bootstrap.genMatcherCode false
namespace Lw
open PySem PySem.Spec PyProof.Rows L2 Nm
noncomputable def top (i : Nat) : Stmt := PySem.Challenge.pw_hydrahouse_k81_whole_sums_and_products.main.body.getD i (.Pass ⟨0, 0, 0, 0⟩)
structure Txt (K : PySem.W.Frag) (mg : Str → Option Value) : Prop where
  d_is_whole : DfD K mg "is_whole" (top 7) ["thing", "least"] [.int 0]
  d_whole : Df K mg "whole" (top 8) ["n"]
  d_raised : DfD K mg "raised" (top 9) ["exponent", "times"] [.int 1]
  d_compare : Df K mg "compare" (top 10) ["a", "b"]
  d_whole_part : Df K mg "whole_part" (top 11) ["a"]
  d_without_whole : Df K mg "without_whole" (top 12) ["a"]
  d_plus : Df K mg "plus" (top 14) ["a", "b"]
  d_parts_above : Df K mg "parts_above" (top 15) ["a", "exponent"]
  d_total : Df K mg "total" (top 16) ["some"]
  d_minus : Df K mg "minus" (top 17) ["a", "b"]
  d_parts_alike : Df K mg "parts_alike" (top 18) ["a", "b"]
  d_times : Df K mg "times" (top 20) ["a", "b"]
  d_divided : Df K mg "divided" (top 21) ["a", "b"]
  d_how_often : Df K mg "how_often" (top 22) ["a", "b"]
  d_power : Df K mg "power" (top 26) ["a", "b"]
  d_power_of_part : Df K mg "power_of_part" (top 27) ["part", "b"]
  d_is_too_great : Df K mg "is_too_great" (top 28) ["a", "b"]
  d_endless_power : Df K mg "endless_power" (top 29) ["a", "limit"]
  d_whole_power : Df K mg "whole_power" (top 30) ["a", "n"]
  d__law_order : Df K mg "_law_order" (top 32) ["_law_one", "_law_other"]
  d__law_exponent : Df K mg "_law_exponent" (top 33) ["_law_pair_here", "_law_top"]
  d__law_pair : Df K mg "_law_pair" (top 34) ["_law_cell"]
  d__law_number : Df K mg "_law_number" (top 35) ["_law_cells", "_law_many", "_law_bound", "_law_top"]
  d__law_numbers : Df K mg "_law_numbers" (top 36) ["_law_cells", "_law_top"]
  d__law_short : Df K mg "_law_short" (top 37) ["_law_number_here"]
  d__law_sums : Df K mg "_law_sums" (top 38) ["_law_numbers_here"]
  d__law_products : Df K mg "_law_products" (top 39) ["_law_numbers_here"]
  d__law_powers : Df K mg "_law_powers" (top 40) ["_law_base", "_law_exponents"]
  c_MOST_FACTORS : ∃ t : Tok, mg "MOST_FACTORS" = some (.int 24 t)
  c_MOST_PARTS : ∃ t : Tok, mg "MOST_PARTS" = some (.int 24 t)
  z_ValueError : mg "ValueError" = none
  z_bool : mg "bool" = none
  z_int : mg "int" = none
  z_isinstance : mg "isinstance" = none
  z_len : mg "len" = none
  z_list : mg "list" = none
  z_max : mg "max" = none
  z_min : mg "min" = none
  z_range : mg "range" = none
  z_reversed : mg "reversed" = none
  z_sorted : mg "sorted" = none
  z_sum : mg "sum" = none
  z_tuple : mg "tuple" = none
section
variable {P : Program} {w : World} {K : PySem.W.Frag} {mg : Str → Option Value} {base : Heap} {f : Addr} {fd : FuncData}
set_option maxRecDepth 100000
set_option maxHeartbeats 0
noncomputable def spCm : WSp := fun ws G q _ => ∃ a b : O, ws = [.tup (encP a), .tup (encP b)] ∧ a.dp ≤ 60 ∧ q (.int (O.cmp a b)) G
noncomputable def spPa : WSp := fun ws G q _ => ∃ a x : O, ws = [.tup (encP a), .tup (encP x)] ∧ a.NF ∧ a.dp ≤ 60 ∧ a.len ≤ 1000 ∧ q (.int (O.stay x a)) G
noncomputable def spPs : WSp := fun ws G q _ => ∃ a b : O, ws = [.tup (encP a), .tup (encP b)] ∧ a.NF ∧ a.dp ≤ 60 ∧ b.dp ≤ 60 ∧ a.len ≤ 1000 ∧ b.len ≤ 1000 ∧ q (.tup (encP (O.plusO a b))) G

/-! the program's order -/
theorem scCm : FnScope ["a", "b"] ["a", "b"] (defScope (top 10)) := ⟨rfl, rfl, rfl, by decide +kernel, rfl, by decide +kernel, by decide +kernel⟩
theorem fnCm (F : Fun K "compare" "compare" (top 10) f fd) : WFn P w K mg base 1 f fd ["a", "b"] spCm := by
  have nd := scCm.nd
  refine fn3 F scCm (fun ws G q e h => by obtain ⟨_, _, rfl, _⟩ := h; rfl) (fun cdv A outer s H E hr => ?_)
  apply bodyOf
  · exact (qss_cons (qs_if (qt_cmp (q_eq4 hr) (qe_var 0 rfl (.inl rfl)) (qe_var 1 rfl (.inl rfl)) (nomark _)) (qss_cons (qs_ret qe_int) qss_nil) qss_nil) (qss_cons (qs_ret (qe_ifExp (qt_cmp (q_lt3 hr) (qe_var 0 rfl (.inl rfl)) (qe_var 1 rfl (.inl rfl)) (nomark _)) (qe_neg qe_int) qe_int)) qss_nil))
  · rintro ws G q e ⟨a, b, rfl, hx, hq⟩
    walk_at "R"
    have h1 := lts_encP a b
    have hd := tup_dep a
    rw [tup_eq, h1.2]
    refine ⟨tup_flat a, tup_flat b, by (clear F nd hr hq h1; omega), ?_⟩
    rcases O.cmp_range a b with k | k | k
    · rw [if_neg (by simp; intro z; rw [z, O.cmp_self] at k; (clear F nd hr hx hq h1 hd z; omega)), if_pos (by simp; (clear F nd hr hx hq h1 hd; omega))]
      exact ⟨encP_flat a, encP_flat b, encP_deps a (by exact Nat.le_trans (by assumption) (Nat.le_of_ble_eq_true rfl)), h1.1, GLe.done (by rw [k] at hq; exact hq)⟩
    · rw [if_pos (by simpa using O.cmp_eq _ _ k)]
      exact GLe.done (by rw [k] at hq; exact hq)
    · rw [if_neg (by simp; intro z; rw [z, O.cmp_self] at k; (clear F nd hr hx hq h1 hd z; omega)), if_neg (by simp; (clear F nd hr hx hq h1 hd; omega))]
      exact ⟨encP_flat a, encP_flat b, encP_deps a (by exact Nat.le_trans (by assumption) (Nat.le_of_ble_eq_true rfl)), h1.1, GLe.done (by rw [k] at hq; exact hq)⟩

/-! the program's sum -/
theorem scPa : FnScope ["a", "exponent", "low", "high", "middle"] ["a", "exponent"] (defScope (top 15)) := ⟨rfl, rfl, rfl, by decide +kernel, rfl, by decide +kernel, by decide +kernel⟩
theorem fnPa (F : Fun K "parts_above" "parts_above" (top 15) f fd) (F1 : Fx P w K mg base "compare" ["a", "b"] 1 spCm) (ml : mg "len" = none) : WFn P w K mg base 2 f fd ["a", "exponent"] spPa := by
  have nd := scPa.nd
  refine fn3 F scPa (fun ws G q e h => by obtain ⟨_, _, rfl, _⟩ := h; rfl) (fun cdv A outer s H E hr => ?_)
  apply bodyOf
  · exact (qss_cons (qs_set 2 nd rfl (.inl rfl) qe_int) (qss_cons (qs_set 3 nd rfl (.inl rfl) (qe_callB q_len rfl ml PySem.boot_len (qa_cons (qe_var 0 rfl (.inl rfl)) qa_nil))) (qss_cons (qs_while PySem.PassesOwn.never (qt_cmp (q_lt3 hr) (qe_var 2 rfl (.inl rfl)) (qe_var 3 rfl (.inl rfl)) (nomark _)) (qss_cons (qs_set 4 nd rfl (.inl rfl) (qe_op q_divB (qe_op q_add (qe_var 2 rfl (.inl rfl)) (qe_var 3 rfl (.inl rfl))) qe_int)) (qss_cons (qs_if (qt_cmp q_gt (qe_fxn F1 (Room.mono hr (by omega)) rfl (qa_cons (qe_ix q_ix (qe_ix q_ix (qe_var 0 rfl (.inl rfl)) (qe_var 4 rfl (.inl rfl)) (fun _ _ => rfl)) qe_int (fun _ _ => rfl)) (qa_cons (qe_var 1 rfl (.inl rfl)) qa_nil))) qe_int (nomark _)) (qss_cons (qs_set 2 nd rfl (.inl rfl) (qe_op q_add (qe_var 4 rfl (.inl rfl)) qe_int)) qss_nil) (qss_cons (qs_set 3 nd rfl (.inl rfl) (qe_var 4 rfl (.inl rfl))) qss_nil)) qss_nil))) (qss_cons (qs_ret (qe_var 2 rfl (.inl rfl))) qss_nil))))
  · rintro ws G q e ⟨a, x, rfl, hn, hx, hl, hq⟩
    refine seqU fun U hU => ?_
    walk_at "R"
    subst hU
    refine seqU fun U hU => ?_
    walk_at "R"
    rw [encP_length]
    subst hU
    refine seqU fun U hU => ?_
    refine ⟨fun m τ G' => G' = G ∧ ∃ (lo hi : Nat) (t4 : Option W), τ = [some (.tup (encP a)), some (.tup (encP x)), some (.int (lo : Int)), some (.int (hi : Int)), t4] ∧ lo ≤ O.stay x a ∧ O.stay x a ≤ hi ∧ hi ≤ a.len ∧ m = hi - lo, ⟨a.len, rfl, 0, a.len, none, rfl, Nat.zero_le _, O.stay_le, Nat.le_refl _, rfl⟩, ?_⟩
    rintro m τ G' ⟨rfl, lo, hi, t4, rfl, h1, h2, h3, rfl⟩
    walk_at "R"
    split
    · rename_i hlt
      refine ⟨fun τ1 G1 => G1 = G' ∧ ∃ (lo' hi' : Nat) (t4 : Option W), τ1 = [some (.tup (encP a)), some (.tup (encP x)), some (.int (lo' : Int)), some (.int (hi' : Int)), t4] ∧ lo' ≤ O.stay x a ∧ O.stay x a ≤ hi' ∧ hi' ≤ a.len ∧ hi' - lo' < hi - lo, ?_, ?_⟩
      · rintro τ1 G1 ⟨rfl, lo', hi', t4, rfl, k1, k2, k3, k4⟩
        exact ⟨_, k4, rfl, lo', hi', t4, rfl, k1, k2, k3, rfl⟩
      · have em : ((lo : Int) + hi) / 2 = (((lo + hi) / 2 : Nat) : Int) := by (clear F F1 ml nd hr hn hx hl hU hq h1 h2 h3 hlt; omega)
        obtain ⟨y, n, hp⟩ := O.getP_some (a := a) (i := (lo + hi) / 2) (by (clear F F1 ml nd hr hn hx hl hU hq h1 h2; omega))
        rw [em]
        refine ⟨_, encP_at hp, ?_⟩
        have hs := O.getP_size hp
        have hab := O.above_iff (e := x) hn hp
        unfold prt enc
        walk_at "R"
        refine ⟨y, x, rfl, by (clear F F1 ml nd hr hn hl hU hq h1 h2 h3 hlt em hp hab; omega), ?_⟩
        walk_at "R"
        split
        · rename_i hc
          have := hab.mp hc
          exact ⟨(lo + hi) / 2 + 1, hi, _, rfl, by assumption, h2, h3, by (clear F F1 ml nd hr hn hx hU hq h1 h2 hp hs hab hc this; omega)⟩
        · rename_i hc
          have := fun z => hc (hab.mpr z)
          exact ⟨lo, (lo + hi) / 2, _, rfl, h1, by (clear F F1 ml nd hr hn hx hl hU hq h1 h2 h3 hlt em hp hs; omega), by (clear F F1 ml nd hr hn hx hl hU hq h1 h2 hp hs hab hc this; omega), by (clear F F1 ml nd hr hn hx hU hq h1 h2 hp hs hab hc this; omega)⟩
    · subst hU
      walk_at "R"
      have : (lo : Int) = O.stay x a := by (clear F F1 ml nd hr hn hx hl hq h3; omega)
      rw [this]
      exact GLe.done hq
theorem scPs : FnScope ["a", "b", "exponent", "stay", "both"] ["a", "b"] (defScope (top 14)) := ⟨rfl, rfl, rfl, by decide +kernel, rfl, by decide +kernel, by decide +kernel⟩
theorem fnPs (F : Fun K "plus" "plus" (top 14) f fd) (F1 : Fx P w K mg base "parts_above" ["a", "exponent"] 2 spPa) (ml : mg "len" = none) : WFn P w K mg base 3 f fd ["a", "b"] spPs := by
  have nd := scPs.nd
  refine fn3 F scPs (fun ws G q e h => by obtain ⟨_, _, rfl, _⟩ := h; rfl) (fun cdv A outer s H E hr => ?_)
  apply bodyOf
  · exact (qss_cons (qs_if (qt_cmp (q_eq4 hr) (qe_var 1 rfl (.inl rfl)) (qe_tup qa_nil) (nomark _)) (qss_cons (qs_ret (qe_var 0 rfl (.inl rfl))) qss_nil) qss_nil) (qss_cons (qs_set 2 nd rfl (.inl rfl) (qe_ix q_ix (qe_ix q_ix (qe_var 1 rfl (.inl rfl)) qe_int (fun _ _ => rfl)) qe_int (fun _ _ => rfl))) (qss_cons (qs_set 3 nd rfl (.inl rfl) (qe_fxn F1 (Room.mono hr (by omega)) rfl (qa_cons (qe_var 0 rfl (.inl rfl)) (qa_cons (qe_var 2 rfl (.inl rfl)) qa_nil)))) (qss_cons (qs_if (qt_w (qw_and (qt_cmp (q_lt3 hr) (qe_var 3 rfl (.inl rfl)) (qe_callB q_len rfl ml PySem.boot_len (qa_cons (qe_var 0 rfl (.inl rfl)) qa_nil)) (nomark _)) (qw_and1 (qt_cmp (q_eq4 hr) (qe_ix q_ix (qe_ix q_ix (qe_var 0 rfl (.inl rfl)) (qe_var 3 rfl (.inl rfl)) (fun _ _ => rfl)) qe_int (fun _ _ => rfl)) (qe_var 2 rfl (.inl rfl)) (nomark _))))) (qss_cons (qs_set 4 nd rfl (.inl rfl) (qe_tup (qa_cons (qe_var 2 rfl (.inl rfl)) (qa_cons (qe_op q_add (qe_ix q_ix (qe_ix q_ix (qe_var 0 rfl (.inl rfl)) (qe_var 3 rfl (.inl rfl)) (fun _ _ => rfl)) qe_int (fun _ _ => rfl)) (qe_ix q_ix (qe_ix q_ix (qe_var 1 rfl (.inl rfl)) qe_int (fun _ _ => rfl)) qe_int (fun _ _ => rfl))) qa_nil)))) (qss_cons (qs_ret (qe_op q_add (qe_op q_add (qe_slice (qe_var 0 rfl (.inl rfl)) qo_none (qo_some (qe_var 3 rfl (.inl rfl)))) (qe_tup (qa_cons (qe_var 4 rfl (.inl rfl)) qa_nil))) (qe_slice (qe_var 1 rfl (.inl rfl)) (qo_some qe_int) qo_none))) qss_nil)) qss_nil) (qss_cons (qs_ret (qe_op q_add (qe_slice (qe_var 0 rfl (.inl rfl)) qo_none (qo_some (qe_var 3 rfl (.inl rfl)))) (qe_var 1 rfl (.inl rfl)))) qss_nil)))))
  · rintro ws G q e ⟨a, b, rfl, hn, hx, hy, hl, hl2, hq⟩
    have hd := tup_dep b
    refine seqU fun U hU => ?_
    walk_at "R"
    refine ⟨tup_flat b, by (clear F F1 ml nd hr hn hx hl hl2 hq hU; omega), ?_⟩
    rw [tup_nil_eq]
    cases b with
    | z =>
      rw [if_pos (by simp)]
      exact GLe.done hq
    | c e n r =>
      rw [if_neg (by simp)]
      simp only [O.len] at hl2
      have hde : e.dp ≤ 60 := by simp only [O.dp] at hy; (clear F F1 ml nd hr hn hx hl hU hl2 hq hd; omega)
      subst hU
      refine seqU fun U hU => ?_
      rw [encP_c]
      unfold prt enc
      walk_at "R"
      subst hU
      refine seqU fun U hU => ?_
      walk_at "R"
      refine ⟨a, e, rfl, hn, hx, hl, ?_⟩
      subst hU
      have hst := O.stay_le (e := e) (a := a)
      have hsame := O.same_stay (e := e) hn
      have htake := O.take_stay (e := e) hn
      have e1 : cutW (W.tup [W.tup (encP e), W.int n] :: encP r) (some 1) none = encP r := by rw [show (1 : Int) = ((1 : Nat) : Int) from rfl, cut_from]; rfl
      have e2 : cutW (encP a) none (some (O.stay e a : Int)) = encP (O.filt (fun x _ => decide (0 < O.cmp x e)) a) := by rw [cut_to, encP_take, htake]
      have l1 := len_filt (fun x _ => decide (0 < O.cmp x e)) a
      have hq' : q (.tup (encP (O.filt (fun x _ => decide (0 < O.cmp x e)) a) ++ (prt e (O.same e a + n) :: encP r))) G := by
        rw [O.plus_c, encP_app, encP_c] at hq
        exact hq
      refine seqU fun U hU => ?_
      have other : O.same e a = 0 → U { nx := fun x G1 => ∃ G0, GLe G0 G1 ∧ q W.non G0, rt := fun w G1 => ∃ G0, GLe G0 G1 ∧ q w G0 } [some (W.tup (encP a)), some (W.tup (W.tup [W.tup (encP e), W.int n] :: encP r)), some (W.tup (encP e)), some (W.int (O.stay e a)), none] G := fun hz => by
        subst hU
        walk_at "R"
        rw [e2]
        refine ⟨by rw [encP_length, encP_length]; (clear F F1 ml nd hr hn hx hy hq hd hde hst hsame htake e1 e2 hq' hz; omega), GLe.done ?_⟩
        rw [hz, Int.zero_add] at hq'
        exact hq'
      walk_at "R"
      rw [encP_length]
      split
      · rename_i hlt
        obtain ⟨y, m, hp⟩ := O.getP_some (a := a) (i := O.stay e a) (by (clear F F1 ml nd hr hn hx hl hy hl2 hq hd hde hst hsame htake e1 e2 l1 hq' hU other; omega))
        have hs := O.getP_size hp
        have hdy := tup_dep y
        refine ⟨_, encP_at hp, ?_⟩
        rw [hp] at hsame
        have hsame' : O.same e a = if y = e then m else 0 := hsame
        unfold prt enc
        walk_at "R"
        refine ⟨tup_flat y, tup_flat e, by (clear F F1 ml nd hr hn hl hy hl2 hq hd hde hst htake e1 e2 l1 hq' hU other hlt hsame hp hsame'; omega), ?_⟩
        rw [tup_eq]
        by_cases hye : y = e
        · rw [if_pos (by simpa using hye)]
          refine ⟨_, encP_at hp, ?_⟩
          unfold prt enc
          walk_at "R"
          rw [e1, e2]
          rw [if_pos hye] at hsame'
          refine ⟨by rw [encP_length]; (clear F F1 ml nd hr hn hx hy hl2 hq hd hde hst htake e1 e2 hq' hU other hlt hsame hp hs hdy hsame' hye; omega), by rw [List.length_append, encP_length, encP_length]; simp; (clear F F1 ml nd hr hn hx hy hq hd hde hst htake e1 e2 hq' hU other hlt hsame hp hs hdy hsame' hye; omega), GLe.done ?_⟩
          rw [hsame'] at hq'
          rw [List.append_assoc]
          exact hq'
        · rw [if_neg (by simpa using hye)]
          rw [if_neg hye] at hsame'
          exact other hsame'
      · rename_i hlt
        rw [O.getP_none.mpr (by (clear F F1 ml nd hr hn hx hl hy hl2 hq hd hde hsame htake e1 e2 l1 hq' hU other; omega))] at hsame
        exact other hsame

/-! the program's products -/
theorem last_whole : ∀ {a : O} {x : O} {n : Int}, a.NF → O.last a = .c x n .z → O.same .z a = if x = .z then n else 0
  | .z, _, _, _, h => by cases h
  | .c e m .z, x, n, ha, h => by
    have : O.last (.c e m .z) = .c e m .z := rfl
    rw [this] at h
    injection h with h1 h2 _
    subst h1 h2
    by_cases k : e = .z
    · subst k; rw [if_pos rfl, O.same_self ha.2.2.1]
    · rw [if_neg k, O.same_ne k]; rfl
  | .c e m (.c e' m' r'), x, n, ha, h => by
    have e0 : O.last (.c e m (.c e' m' r')) = O.last (.c e' m' r') := by simp [O.last]
    rw [e0] at h
    have hne : e ≠ .z := fun z => by
      subst z
      have := ha.2.2.1.1
      cases e' <;> simp [O.cmp] at this
    rw [O.same_ne hne]
    exact last_whole ha.2.2.2 h
theorem no_whole : ∀ {a : O}, a.NF → O.same .z a = 0 → O.filt (fun y _ => decide (¬ y = .z)) a = a
  | .z, _, _ => rfl
  | .c e m r, ha, h => by
    have hne : e ≠ .z := fun z => by
      subst z
      rw [O.same_self ha.2.2.1] at h
      have := ha.2.1
      (clear ha; omega)
    rw [O.same_ne hne] at h
    rw [O.filt_c, if_pos (by simpa using hne), no_whole ha.2.2.2 h]
theorem with_whole : ∀ {a : O}, a.NF → O.same .z a ≠ 0 → O.filt (fun y _ => decide (¬ y = .z)) a = O.init a
  | .z, _, h => absurd rfl h
  | .c e m .z, ha, h => by
    have : e = .z := Classical.byContradiction fun k => h (by rw [O.same_ne k]; rfl)
    subst this
    rfl
  | .c e m (.c e' m' r'), ha, h => by
    have hne : e ≠ .z := fun z => by
      subst z
      have := ha.2.2.1.1
      cases e' <;> simp [O.cmp] at this
    rw [O.same_ne hne] at h
    have e0 : O.init (.c e m (.c e' m' r')) = .c e m (O.init (.c e' m' r')) := by simp [O.init]
    rw [O.filt_c, if_pos (by simpa using hne), with_whole ha.2.2.2 h, e0]
noncomputable def spWp : WSp := fun ws G q _ => ∃ a : O, ws = [.tup (encP a)] ∧ a.NF ∧ a.dp ≤ 60 ∧ q (.int (O.same .z a)) G
noncomputable def spWo : WSp := fun ws G q _ => ∃ a : O, ws = [.tup (encP a)] ∧ a.NF ∧ a.dp ≤ 60 ∧ q (.tup (encP (O.filt (fun y _ => decide (¬ y = .z)) a))) G
theorem scWp : FnScope ["a"] ["a"] (defScope (top 11)) := ⟨rfl, rfl, rfl, by decide +kernel, rfl, by decide +kernel, by decide +kernel⟩
theorem fnWp (F : Fun K "whole_part" "whole_part" (top 11) f fd) : WFn P w K mg base 1 f fd ["a"] spWp := by
  have nd := scWp.nd
  refine fn3 F scWp (fun ws G q e h => by obtain ⟨_, rfl, _⟩ := h; rfl) (fun cdv A outer s H E hr => ?_)
  apply bodyOf
  · exact (qss_cons (qs_if (qt_w (qw_or (qt_cmp (q_eq4 hr) (qe_var 0 rfl (.inl rfl)) (qe_tup qa_nil) (nomark _)) (qw_or1 (qt_cmp (q_ne4 hr) (qe_ix q_ix (qe_ix q_ix (qe_var 0 rfl (.inl rfl)) (qe_neg qe_int) (fun _ _ => rfl)) qe_int (fun _ _ => rfl)) (qe_tup qa_nil) (nomark _))))) (qss_cons (qs_ret qe_int) qss_nil) qss_nil) (qss_cons (qs_ret (qe_ix q_ix (qe_ix q_ix (qe_var 0 rfl (.inl rfl)) (qe_neg qe_int) (fun _ _ => rfl)) qe_int (fun _ _ => rfl))) qss_nil))
  · rintro ws G q e ⟨a, rfl, ha, hd, hq⟩
    have hd2 := tup_dep a
    walk_at "R"
    refine ⟨tup_flat a, by (clear F nd hr ha hq; omega), ?_⟩
    rw [tup_nil_eq]
    by_cases hz : a = .z
    · subst hz
      rw [if_pos (by simp)]
      exact GLe.done hq
    · rw [if_neg (by simpa using hz)]
      obtain ⟨x, n, h1, h2⟩ := last_c hz
      have hw := last_whole ha h1
      have hs := O.getP_size h2
      have hdx := tup_dep x
      refine ⟨_, encP_at_last h2, ?_⟩
      unfold prt enc
      walk_at "R"
      refine ⟨tup_flat x, by (clear F nd hr ha hq hd2 hz h1 h2 hw; omega), ?_⟩
      rw [tup_nil_eq]
      by_cases hx : x = .z
      · rw [if_neg (by simpa using hx)]
        rw [if_pos hx] at hw
        have h3 := encP_at_last h2
        unfold prt enc at h3
        refine ⟨_, h3, ?_⟩
        walk_at "R"
        rw [hw] at hq
        exact GLe.done hq
      · rw [if_pos (by simpa using hx)]
        rw [if_neg hx] at hw
        rw [hw] at hq
        exact GLe.done hq
theorem scWo : FnScope ["a"] ["a"] (defScope (top 12)) := ⟨rfl, rfl, rfl, by decide +kernel, rfl, by decide +kernel, by decide +kernel⟩
theorem fnWo (F : Fun K "without_whole" "without_whole" (top 12) f fd) (F1 : Fx P w K mg base "whole_part" ["a"] 1 spWp) : WFn P w K mg base 2 f fd ["a"] spWo := by
  have nd := scWo.nd
  refine fn3 F scWo (fun ws G q e h => by obtain ⟨_, rfl, _⟩ := h; rfl) (fun cdv A outer s H E hr => ?_)
  apply bodyOf
  · exact (qss_cons (qs_if (qt_cmp (q_eq4 hr) (qe_fxn F1 (Room.mono hr (by omega)) rfl (qa_cons (qe_var 0 rfl (.inl rfl)) qa_nil)) qe_int (nomark _)) (qss_cons (qs_ret (qe_var 0 rfl (.inl rfl))) qss_nil) qss_nil) (qss_cons (qs_ret (qe_slice (qe_var 0 rfl (.inl rfl)) qo_none (qo_some (qe_neg qe_int)))) qss_nil))
  · rintro ws G q e ⟨a, rfl, ha, hd, hq⟩
    walk_at "R"
    refine ⟨a, rfl, ha, hd, ?_⟩
    walk_at "R"
    split
    · rename_i h
      rw [no_whole ha h] at hq
      exact GLe.done hq
    · rename_i h
      rw [with_whole ha h] at hq
      rw [cut_init]
      exact GLe.done hq

/-! times -/
noncomputable def mapE (e : O) : O → O
  | .z => .z
  | .c f d t => .c (O.plusO e f) d (mapE e t)
theorem mapP_mapE (e : O) : ∀ b : O, mapP (fun _ _ => true) (fun x m => prt (O.plusO e x) m) b = encP (mapE e b)
  | .z => rfl
  | .c f d t => by rw [mapP, if_pos rfl, mapP_mapE e t]; rfl
theorem len_mapE (e : O) : ∀ b : O, (mapE e b).len = b.len
  | .z => rfl
  | .c f d t => by simp only [mapE, O.len, len_mapE e t]
theorem mul_split {e : O} {n : Int} {r : O} : ∀ {b : O}, b.NF → O.mulP e n r b = O.app (mapE e (O.filt (fun y _ => decide (¬ y = .z)) b)) (if O.same .z b = 0 then .z else .c e (n * O.same .z b) r)
  | .z, _ => rfl
  | .c f d t, hb => by
    rw [O.mulP_c, O.filt_c]
    by_cases k : f = .z
    · subst k
      have hd := hb.2.1
      rw [if_pos rfl, if_neg (by simp), O.Lt_z hb.2.2.1, O.same_self (r := .z) trivial, if_neg (by (clear hb; omega))]
      rfl
    · rw [if_neg k, if_pos (by simpa using k), O.same_ne k, mul_split hb.2.2.2]
      rfl
noncomputable def spTi : WSp := fun ws G q _ => ∃ a b : O, ws = [.tup (encP a), .tup (encP b)] ∧ a.NF ∧ b.NF ∧ a.dp ≤ 40 ∧ b.dp ≤ 40 ∧ O.hw a ≤ 1000 ∧ O.hw b ≤ 1000 ∧ O.mx a ≤ cap ∧ O.mx b ≤ cap ∧ q (.tup (encP (O.timesO a b))) G
theorem scTi : FnScope ["a", "b", "exponent", "parts", "many"] ["a", "b"] (defScope (top 20)) := ⟨rfl, rfl, rfl, by decide +kernel, rfl, by decide +kernel, by decide +kernel⟩
theorem fnTi (F : Fun K "times" "times" (top 20) f fd) (F1 : Fx P w K mg base "whole_part" ["a"] 1 spWp) (F2 : Fx P w K mg base "without_whole" ["a"] 2 spWo) (F3 : Fx P w K mg base "plus" ["a", "b"] 3 spPs) (mt : mg "tuple" = none) : WFn P w K mg base 4 f fd ["a", "b"] spTi := by
  have nd := scTi.nd
  refine fn3 F scTi (fun ws G q e h => by obtain ⟨_, _, rfl, _⟩ := h; rfl) (fun cdv A outer s H E hr => ?_)
  apply bodyOf
  · exact (qss_cons (qs_if (qt_w (qw_or (qt_cmp (q_eq4 hr) (qe_var 0 rfl (.inl rfl)) (qe_tup qa_nil) (nomark _)) (qw_or1 (qt_cmp (q_eq4 hr) (qe_var 1 rfl (.inl rfl)) (qe_tup qa_nil) (nomark _))))) (qss_cons (qs_ret (qe_tup qa_nil)) qss_nil) qss_nil) (qss_cons (qs_set 2 nd rfl (.inr rfl) (qe_ix q_ix (qe_ix q_ix (qe_var 0 rfl (.inl rfl)) qe_int (fun _ _ => rfl)) qe_int (fun _ _ => rfl))) (qss_cons (qs_comp 3 (compSc (by first | rfl | decide +kernel)) rfl nd rfl (.inl rfl) (qi_seq (qe_fxn F2 (Room.mono hr (by omega)) rfl (qa_cons (qe_var 1 rfl (.inl rfl)) qa_nil))) (fun _ _ _ _ => (qg_nameB 1 (by first | assumption | decide +kernel | rfl) rfl (.inl rfl))) (fun _ _ _ _ => qts_nil) (fun _ _ _ _ => (qe_tup (qa_cons (qe_fxn F3 (Room.mono hr (by omega)) rfl (qa_cons (qe_var 3 rfl (.inr (.inl rfl))) (qa_cons (qe_ix q_ix (qe_var 1 rfl (.inl rfl)) qe_int (fun _ _ => rfl)) qa_nil))) (qa_cons (qe_ix q_ix (qe_var 1 rfl (.inl rfl)) qe_int (fun _ _ => rfl)) qa_nil))))) (qss_cons (qs_set 4 nd rfl (.inl rfl) (qe_fxn F1 (Room.mono hr (by omega)) rfl (qa_cons (qe_var 1 rfl (.inl rfl)) qa_nil))) (qss_cons (qs_if (qt_cmp (q_eq4 hr) (qe_var 4 rfl (.inl rfl)) qe_int (nomark _)) (qss_cons (qs_ret (qe_callTy q_tuple rfl mt b_tuple (qa_cons (qe_var 3 rfl (.inl rfl)) qa_nil))) qss_nil) qss_nil) (qss_cons (qs_ret (qe_op q_add (qe_op q_add (qe_callTy q_tuple rfl mt b_tuple (qa_cons (qe_var 3 rfl (.inl rfl)) qa_nil)) (qe_tup (qa_cons (qe_tup (qa_cons (qe_var 2 rfl (.inr (.inl rfl))) (qa_cons (qe_op q_mulB (qe_ix q_ix (qe_ix q_ix (qe_var 0 rfl (.inl rfl)) qe_int (fun _ _ => rfl)) qe_int (fun _ _ => rfl)) (qe_var 4 rfl (.inl rfl))) qa_nil))) qa_nil))) (qe_slice (qe_var 0 rfl (.inl rfl)) (qo_some qe_int) qo_none))) qss_nil))))))
  · rintro ws G q e ⟨a, b, rfl, na, nb, da, db, sa, sb, ma, mb, hq⟩
    have hda := tup_dep a
    have hdb := tup_dep b
    have la := O.len_le_hw a
    have lb := O.len_le_hw b
    refine seqU fun U hU => ?_
    walk_at "R"
    refine ⟨tup_flat a, by (clear F F1 F2 F3 mt nd hr na nb db sa sb ma mb hq hdb la lb hU; omega), ?_⟩
    rw [tup_nil_eq]
    cases a with
    | z =>
      rw [if_pos (by simp)]
      exact GLe.done hq
    | c e n r =>
      rw [if_neg (by simp)]
      refine ⟨tup_flat b, by (clear F F1 F2 F3 mt nd hr nb sb mb lb hU na da sa ma hq hda la; omega), ?_⟩
      rw [tup_nil_eq]
      by_cases hb0 : b = .z
      · subst hb0
        rw [if_pos (by simp)]
        exact GLe.done hq
      · rw [if_neg (by simpa using hb0)]
        subst hU
        rw [O.hw_c] at sa
        simp only [O.dp, O.len] at da la
        have le1 := O.len_le_hw e
        have lr1 := O.len_le_hw r
        rw [encP_c]
        unfold prt enc
        refine seqU fun U hU => ?_
        walk_at "R"
        subst hU
        refine seqU fun U hU => ?_
        walk_at "R"
        refine ⟨b, rfl, nb, by exact Nat.le_trans (by assumption) (Nat.le_of_ble_eq_true rfl), ?_⟩
        walk_at "R"
        show compW _ _ _ _ _ [none, none, none, some (W.tup (encP e))] G [] _
        have lf := len_filt (fun y _ => decide (¬ y = O.z)) b
        have df := O.dp_filt (fun y _ => decide (¬ y = O.z)) b
        have sf := O.hw_filt (fun y _ => decide (¬ y = O.z)) b
        refine comp_enc (fun _ _ => true) (fun x m => prt (O.plusO e x) m) trivial (allP_hw _) (fun y m hy k hk => ?_) (fun y m hy _ k hk => ?_) (by rw [List.length_nil]; (clear F F1 F2 F3 mt nd hr nb db mb hdb na da sa ma hq hda la hb0 le1 lr1 hU df sf; omega)) (fun _ => rfl) fun p1 hp1 => ?_
        · walk_at "R"
          exact hk
        · have ly := O.len_le_hw y
          unfold prt enc at hk ⊢
          walk_at "R"
          exact ⟨e, y, rfl, na.1, by (clear F F1 F2 F3 mt nd hr nb db sb mb hdb lb na sa ma hq hda la hb0 le1 hU lf df sf hy hk ly; omega), by (clear F F1 F2 F3 mt nd hr nb sb mb hdb lb na da sa ma hq hda la hb0 le1 lr1 hU lf sf hk ly; omega), by (clear F F1 F2 F3 mt nd hr nb db sb mb hdb lb na da ma hq hda la hb0 hU lf df sf hy hk ly; omega), by (clear F F1 F2 F3 mt nd hr nb db mb hdb lb na da sa ma hq hda la hb0 le1 lr1 hU lf df hk; omega), hk⟩
        rw [List.nil_append, mapP_mapE]
        have hG1 := updG_same (G := G) (a := p1) (g := GO.lst (encP (mapE e (O.filt (fun y _ => decide (¬ y = O.z)) b))))
        have le : GLe G (updG G p1 (GO.lst (encP (mapE e (O.filt (fun y _ => decide (¬ y = O.z)) b))))) := GLe.new hp1
        generalize updG G p1 (GO.lst (encP (mapE e (O.filt (fun y _ => decide (¬ y = O.z)) b)))) = G1 at hG1 le ⊢
        subst hU
        refine seqU fun U hU => ?_
        walk_at "R"
        refine ⟨b, rfl, nb, by exact Nat.le_trans (by assumption) (Nat.le_of_ble_eq_true rfl), ?_⟩
        have hsp : O.timesO (.c e n r) b = _ := mul_split (e := e) (n := n) (r := r) nb
        rw [hsp] at hq
        have hn := na.2.1
        have hsm := O.same_le_mx .z nb
        have hs0 := O.same_nonneg .z nb
        rw [O.mx_c] at ma
        have lm := len_mapE e (O.filt (fun y _ => decide (¬ y = O.z)) b)
        subst hU
        refine seqU fun U hU => ?_
        walk_at "R"
        split
        · rename_i h0
          refine ⟨_, hG1, G, le, ?_⟩
          rw [if_pos h0] at hq
          have : O.app (mapE e (O.filt (fun y _ => decide (¬ y = O.z)) b)) .z = mapE e (O.filt (fun y _ => decide (¬ y = O.z)) b) := encP_inj (by rw [encP_app, encP_z, List.append_nil])
          rw [this] at hq
          exact hq
        · rename_i h0
          rw [if_neg h0, encP_app, encP_c] at hq
          subst hU
          have e1 : cutW (W.tup [W.tup (encP e), W.int n] :: encP r) (some 1) none = encP r := by rw [show (1 : Int) = ((1 : Nat) : Int) from rfl, cut_from]; rfl
          walk_at "R"
          rw [e1]
          refine ⟨_, hG1, .inr (bigC (by (clear F F1 F2 F3 mt nd hr nb db sb mb hdb lb na da sa ma hq hda la hb0 le1 lr1 lf df sf hp1 hG1 le hsp hsm hs0 lm h0 e1; omega)) (by (clear F F1 F2 F3 mt nd hr nb db sb mb hdb lb na da sa hq hda la hb0 le1 lr1 lf df sf hp1 hG1 le hsp hn hsm lm e1; omega)) (by assumption) (by (clear F F1 F2 F3 mt nd hr nb db sb hdb lb na da sa ma hq hda la hb0 le1 lr1 lf df sf hp1 hG1 le hsp hn hs0 lm h0 e1; omega))), by rw [encP_length, lm]; (clear F F1 F2 F3 mt nd hr nb db mb hdb na da sa ma hq hda la hb0 le1 lr1 df sf hp1 hG1 le hsp hn hsm hs0 h0 e1; omega), by rw [List.length_append, encP_length, encP_length, List.length_cons, List.length_nil, lm]; (clear F F1 F2 F3 mt nd hr nb db mb hdb na da ma hq hda la hb0 le1 lr1 df sf hp1 hG1 le hsp hn hsm e1; omega), G, le, ?_⟩
          rw [List.append_assoc]
          exact hq

/-! what is taken away -/
noncomputable def spAl : WSp := fun ws G q _ => ∃ a b : O, ws = [.tup (encP a), .tup (encP b)] ∧ a.dp ≤ 60 ∧ q (.int (O.alike a b : Nat)) G
theorem scAl : FnScope ["a", "b", "alike"] ["a", "b"] (defScope (top 18)) := ⟨rfl, rfl, rfl, by decide +kernel, rfl, by decide +kernel, by decide +kernel⟩
theorem fnAl (F : Fun K "parts_alike" "parts_alike" (top 18) f fd) (ml : mg "len" = none) : WFn P w K mg base 1 f fd ["a", "b"] spAl := by
  have nd := scAl.nd
  refine fn3 F scAl (fun ws G q e h => by obtain ⟨_, _, rfl, _⟩ := h; rfl) (fun cdv A outer s H E hr => ?_)
  apply bodyOf
  · exact (qss_cons (qs_set 2 nd rfl (.inl rfl) qe_int) (qss_cons (qs_while PySem.PassesOwn.never (qt_w (qw_and (qt_cmp (q_lt3 hr) (qe_var 2 rfl (.inl rfl)) (qe_callB q_len rfl ml PySem.boot_len (qa_cons (qe_var 0 rfl (.inl rfl)) qa_nil)) (nomark _)) (qw_and (qt_cmp (q_lt3 hr) (qe_var 2 rfl (.inl rfl)) (qe_callB q_len rfl ml PySem.boot_len (qa_cons (qe_var 1 rfl (.inl rfl)) qa_nil)) (nomark _)) (qw_and1 (qt_cmp (q_eq4 hr) (qe_ix q_ix (qe_var 0 rfl (.inl rfl)) (qe_var 2 rfl (.inl rfl)) (fun _ _ => rfl)) (qe_ix q_ix (qe_var 1 rfl (.inl rfl)) (qe_var 2 rfl (.inl rfl)) (fun _ _ => rfl)) (nomark _)))))) (qss_cons (qs_set 2 nd rfl (.inl rfl) (qe_op q_add (qe_var 2 rfl (.inl rfl)) qe_int)) qss_nil)) (qss_cons (qs_ret (qe_var 2 rfl (.inl rfl))) qss_nil)))
  · rintro ws G q e ⟨a, b, rfl, hd, hq⟩
    have hle := O.alike_le a b
    refine seqU fun U hU => ?_
    walk_at "R"
    subst hU
    refine seqU fun U hU => ?_
    refine whileW (fun m τ G' => G' = G ∧ ∃ i : Nat, τ = [some (.tup (encP a)), some (.tup (encP b)), some (.int (i : Int))] ∧ i ≤ O.alike a b ∧ m = a.len - i) ⟨_, rfl, 0, rfl, Nat.zero_le _, rfl⟩ ?_
    rintro m τ G' ⟨rfl, i, rfl, hi, rfl⟩ B hB
    have stop : i = O.alike a b → U { nx := fun x G1 => ∃ G0, GLe G0 G1 ∧ q W.non G0, rt := fun w G1 => ∃ G0, GLe G0 G1 ∧ q w G0 } [some (.tup (encP a)), some (.tup (encP b)), some (.int (i : Int))] G' := fun h => by
      subst hU
      walk_at "R"
      rw [h]
      exact GLe.done hq
    walk_at "R"
    rw [encP_length, encP_length]
    split
    · rename_i h1
      split
      · rename_i h2
        obtain ⟨x, n, hp⟩ := O.getP_some (a := a) (i := i) (by (clear F ml nd hr hd hle hU hq hi hB stop h2; omega))
        obtain ⟨x', n', hp'⟩ := O.getP_some (a := b) (i := i) (by (clear F ml nd hr hd hle hU hq hi hB stop h1 hp; omega))
        have hs := O.getP_size hp
        have hat := O.alike_at hp hp' hi
        have pd := prt_dep x n
        refine ⟨_, encP_at hp, _, encP_at hp', ?_⟩
        refine ⟨prt_flat' x n, prt_flat' x' n', by (clear F ml nd hr hle hU hq hi hB stop h1 h2 hp hp' hat; omega), ?_⟩
        rw [prt_eq]
        by_cases hh : x = x' ∧ n = n'
        · rw [if_pos (by simpa using hh)]
          refine ⟨fun τ1 G1 => G1 = G' ∧ τ1 = [some (.tup (encP a)), some (.tup (encP b)), some (.int ((i + 1 : Nat) : Int))], ?_, ?_⟩
          · rintro τ1 G1 ⟨rfl, rfl⟩
            have := hat.mpr hh
            exact ⟨a.len - (i + 1), by (clear F ml nd hr hd hle hU hi hB h2 hp hp' hs hat pd hh hq stop this; omega), rfl, i + 1, rfl, by assumption, rfl⟩
          · subst hB
            walk_at "R"
            rfl
        · rw [if_neg (by simpa using hh)]
          have : ¬ i < O.alike a b := fun k => hh (hat.mp k)
          exact stop (by (clear F ml nd hr hd hle hU hq hB stop h1 h2 hp hp' hs hat pd hh; omega))
      · exact stop (by (clear F ml nd hr hd hU hq hB stop h1; omega))
    · exact stop (by (clear F ml nd hr hd hU hq hB stop; omega))
noncomputable def spMi : WSp := fun ws G q _ => ∃ a b : O, ws = [.tup (encP a), .tup (encP b)] ∧ O.cmp b a ≤ 0 ∧ a.dp ≤ 60 ∧ b.dp ≤ 60 ∧ a.len ≤ 5000 ∧ q (.tup (encP (O.minusO a b))) G
theorem scMi : FnScope ["a", "b", "alike", "rest"] ["a", "b"] (defScope (top 17)) := ⟨rfl, rfl, rfl, by decide +kernel, rfl, by decide +kernel, by decide +kernel⟩
theorem fnMi (F : Fun K "minus" "minus" (top 17) f fd) (F1 : Fx P w K mg base "compare" ["a", "b"] 1 spCm) (F2 : Fx P w K mg base "parts_alike" ["a", "b"] 1 spAl) (ml : mg "len" = none) : WFn P w K mg base 2 f fd ["a", "b"] spMi := by
  have nd := scMi.nd
  refine fn3 F scMi (fun ws G q e h => by obtain ⟨_, _, rfl, _⟩ := h; rfl) (fun cdv A outer s H E hr => ?_)
  apply bodyOf
  · exact (qss_cons (qs_if (qt_cmp q_gt (qe_fxn F1 (Room.mono hr (by omega)) rfl (qa_cons (qe_var 1 rfl (.inl rfl)) (qa_cons (qe_var 0 rfl (.inl rfl)) qa_nil))) qe_int (nomark _)) (qss_cons qs_never qss_nil) qss_nil) (qss_cons (qs_set 2 nd rfl (.inl rfl) (qe_fxn F2 (Room.mono hr (by omega)) rfl (qa_cons (qe_var 0 rfl (.inl rfl)) (qa_cons (qe_var 1 rfl (.inl rfl)) qa_nil)))) (qss_cons (qs_set 3 nd rfl (.inl rfl) (qe_slice (qe_var 0 rfl (.inl rfl)) (qo_some (qe_var 2 rfl (.inl rfl))) qo_none)) (qss_cons (qs_if (qt_w (qw_or (qt_cmp (q_eq4 hr) (qe_var 2 rfl (.inl rfl)) (qe_callB q_len rfl ml PySem.boot_len (qa_cons (qe_var 1 rfl (.inl rfl)) qa_nil)) (nomark _)) (qw_or1 (qt_cmp (q_ne4 hr) (qe_ix q_ix (qe_ix q_ix (qe_var 3 rfl (.inl rfl)) qe_int (fun _ _ => rfl)) qe_int (fun _ _ => rfl)) (qe_ix q_ix (qe_ix q_ix (qe_var 1 rfl (.inl rfl)) (qe_var 2 rfl (.inl rfl)) (fun _ _ => rfl)) qe_int (fun _ _ => rfl)) (nomark _))))) (qss_cons (qs_ret (qe_var 3 rfl (.inl rfl))) qss_nil) qss_nil) (qss_cons (qs_ret (qe_op q_add (qe_tup (qa_cons (qe_tup (qa_cons (qe_ix q_ix (qe_ix q_ix (qe_var 3 rfl (.inl rfl)) qe_int (fun _ _ => rfl)) qe_int (fun _ _ => rfl)) (qa_cons (qe_op q_sub (qe_ix q_ix (qe_ix q_ix (qe_var 3 rfl (.inl rfl)) qe_int (fun _ _ => rfl)) qe_int (fun _ _ => rfl)) (qe_ix q_ix (qe_ix q_ix (qe_var 1 rfl (.inl rfl)) (qe_var 2 rfl (.inl rfl)) (fun _ _ => rfl)) qe_int (fun _ _ => rfl))) qa_nil))) qa_nil)) (qe_slice (qe_var 3 rfl (.inl rfl)) (qo_some qe_int) qo_none))) qss_nil)))))
  · rintro ws G q e ⟨a, b, rfl, hc, hd, hd2, hl, hq⟩
    have hle := O.alike_le a b
    refine seqU fun U hU => ?_
    walk_at "R"
    refine ⟨b, a, rfl, hd2, ?_⟩
    walk_at "R"
    rw [if_neg (by (clear F F1 F2 ml nd hr hd hd2 hl hq hle hU; omega))]
    subst hU
    refine seqU fun U hU => ?_
    walk_at "R"
    refine ⟨a, b, rfl, hd, ?_⟩
    subst hU
    refine seqU fun U hU => ?_
    walk_at "R"
    rw [cut_from, encP_drop]
    subst hU
    refine seqU fun U hU => ?_
    walk_at "R"
    rw [encP_length]
    by_cases hb : O.alike a b = b.len
    · rw [if_pos (by (clear F F1 F2 ml nd hr hc hd hd2 hl hq hle hU; omega))]
      rw [O.minus_end hb] at hq
      exact GLe.done hq
    · rw [if_neg (by (clear F F1 F2 ml nd hr hc hd hd2 hl hq hle hU; omega))]
      obtain ⟨x, n, x', n', h1, h2, h3⟩ := O.alike_more hc (by (clear F F1 F2 ml nd hr hc hd hd2 hl hq hU; omega))
      have hdr := O.dropO_get h1
      have hs := O.getP_size h1
      have hdx := tup_dep x
      have lend := O.len_dropO (O.alike a b + 1) a
      rw [hdr, encP_c]
      unfold prt enc
      walk_at "R"
      refine ⟨_, encP_at h2, ?_⟩
      unfold prt enc
      walk_at "R"
      refine ⟨tup_flat x, tup_flat x', by (clear F F1 F2 ml nd hr hc hd2 hl hq hle hU hb h1 h2 h3 hdr lend; omega), ?_⟩
      rw [tup_eq]
      by_cases hx : x = x'
      · rw [if_neg (by simpa using hx)]
        rw [h3, if_pos hx, encP_c] at hq
        subst hU
        have e1 : cutW (W.tup [W.tup (encP x), W.int n] :: encP (O.dropO (O.alike a b + 1) a)) (some 1) none = encP (O.dropO (O.alike a b + 1) a) := by rw [show (1 : Int) = ((1 : Nat) : Int) from rfl, cut_from]; rfl
        walk_at "R"
        refine ⟨_, encP_at h2, ?_⟩
        unfold prt enc
        walk_at "R"
        rw [e1, encP_length]
        exact ⟨by (clear F F1 F2 ml nd hr hc hd hd2 hle hb hq h1 h2 h3 hdr hs hdx hx e1; omega), GLe.done hq⟩
      · rw [if_pos (by simpa using hx)]
        rw [h3, if_neg hx, hdr, encP_c] at hq
        exact GLe.done hq

/-! the program's ladder -/
noncomputable def spWh : WSp := fun ws G q _ => ∃ n k : Int, ws = [.int n, .int k] ∧ q (.bl (decide (k ≤ n))) G
theorem scWh : FnScope ["thing", "least"] ["thing", "least"] (defScope (top 7)) := ⟨rfl, rfl, rfl, by decide +kernel, rfl, by decide +kernel, by decide +kernel⟩
theorem fnWh {T : Addr} {ds : List Value} (F : FunD K "is_whole" "is_whole" (top 7) f fd T ds) (mi : mg "isinstance" = none) (mn : mg "int" = none) (mb : mg "bool" = none) : WFn P w K mg base 1 f fd ["thing", "least"] spWh := by
  have nd := scWh.nd
  refine fn3D F scWh (fun ws G q e h => by obtain ⟨_, _, rfl, _⟩ := h; rfl) (fun cdv A outer s H E hr => ?_)
  apply bodyOf
  · exact (qss_cons (qs_ret (qe_and (qe_isi (T := "int") (x := "int") (by first | simp [isiT] | assumption | decide +kernel) PyProof.Rows.boot_int mn rfl mi rfl (qe_var 0 rfl (.inl rfl))) (qe_and (qe_not (qe_isi (T := "bool") (x := "bool") (by first | simp [isiT] | assumption | decide +kernel) PyProof.Rows.boot_bool mb rfl mi rfl (qe_var 0 rfl (.inl rfl)))) (qe_one (qe_cmp q_ge (qe_var 0 rfl (.inl rfl)) (qe_var 1 rfl (.inl rfl)) (nomark _)))))) qss_nil)
  · rintro ws G q e ⟨n, k, rfl, hq⟩
    walk_at "R"
    exact GLe.done hq
noncomputable def spRs : WSp := fun ws G q _ => ∃ (x : O) (n : Int), ws = [.tup (encP x), .int n] ∧ 0 ≤ n ∧ q (.tup (encP (if n = 0 then .z else .c x n .z))) G
theorem scRs : FnScope ["exponent", "times"] ["exponent", "times"] (defScope (top 9)) := ⟨rfl, rfl, rfl, by decide +kernel, rfl, by decide +kernel, by decide +kernel⟩
theorem fnRs {T : Addr} {ds : List Value} (F : FunD K "raised" "raised" (top 9) f fd T ds) (F1 : Fxd P w K mg base "is_whole" ["thing", "least"] 1 spWh [.int 0]) : WFn P w K mg base 2 f fd ["exponent", "times"] spRs := by
  have nd := scRs.nd
  refine fn3D F scRs (fun ws G q e h => by obtain ⟨_, _, rfl, _⟩ := h; rfl) (fun cdv A outer s H E hr => ?_)
  apply bodyOf
  · exact (qss_cons (qs_if (qt_not (qt_val (qe_fxd F1 (Room.mono hr (by omega)) rfl (qa_cons (qe_var 1 rfl (.inl rfl)) qa_nil)))) (qss_cons qs_never qss_nil) qss_nil) (qss_cons (qs_if (qt_cmp (q_eq4 hr) (qe_var 1 rfl (.inl rfl)) qe_int (nomark _)) (qss_cons (qs_ret (qe_tup qa_nil)) qss_nil) qss_nil) (qss_cons (qs_ret (qe_tup (qa_cons (qe_tup (qa_cons (qe_var 0 rfl (.inl rfl)) (qa_cons (qe_var 1 rfl (.inl rfl)) qa_nil))) qa_nil))) qss_nil)))
  · rintro ws G q e ⟨x, n, rfl, hn, hq⟩
    walk_at "R"
    refine ⟨n, 0, rfl, ?_⟩
    walk_at "R"
    rw [if_neg (by (clear F F1 nd hr hq; omega))]
    split
    · rename_i h
      rw [if_pos h] at hq
      exact GLe.done hq
    · rename_i h
      rw [if_neg h, encP_c] at hq
      exact GLe.done hq

/-! quotients -/
theorem k400 : (10 : Int) ^ 400 ≤ cap := by decide +kernel
theorem p400 : (0 : Int) ≤ 10 ^ 400 := by decide +kernel
theorem k150 : (10 : Int) ^ 150 ≤ cap := by decide +kernel
noncomputable def spWl : WSp := fun ws G q _ => ∃ n : Int, ws = [.int n] ∧ 0 ≤ n ∧ q (.tup (encP (O.wh n))) G
theorem scWl : FnScope ["n"] ["n"] (defScope (top 8)) := ⟨rfl, rfl, rfl, by decide +kernel, rfl, by decide +kernel, by decide +kernel⟩
theorem fnWl (F : Fun K "whole" "whole" (top 8) f fd) (F1 : Fx P w K mg base "raised" ["exponent", "times"] 2 spRs) : WFn P w K mg base 3 f fd ["n"] spWl := by
  have nd := scWl.nd
  refine fn3 F scWl (fun ws G q e h => by obtain ⟨_, rfl, _⟩ := h; rfl) (fun cdv A outer s H E hr => ?_)
  apply bodyOf
  · exact (qss_cons (qs_ret (qe_fxn F1 (Room.mono hr (by omega)) rfl (qa_cons (qe_tup qa_nil) (qa_cons (qe_var 0 rfl (.inl rfl)) qa_nil)))) qss_nil)
  · rintro ws G q e ⟨n, rfl, hn, hq⟩
    walk_at "R"
    exact ⟨.z, n, rfl, hn, GLe.done hq⟩
noncomputable def headLe (e : O) : O → Prop
  | .z => True
  | .c x _ _ => O.cmp x e ≤ 0
noncomputable def spHo : WSp := fun ws G q _ => ∃ (a e : O) (n : Int) (r : O), ws = [.tup (encP a), .tup (encP (.c e n r))] ∧ a.NF ∧ O.NF (.c e n r) ∧ headLe e a ∧ a.dp ≤ 40 ∧ O.dp (.c e n r) ≤ 40 ∧ O.hw (.c e n r) ≤ 1000 ∧ O.mx a ≤ 10 ^ 400 ∧ O.mx (.c e n r) ≤ 10 ^ 150 ∧
  ∀ m : Int, 0 ≤ m → m ≤ 10 ^ 400 → O.cmp (O.timesO (.c e n r) (O.wh m)) a ≤ 0 → O.cmp a (O.timesO (.c e n r) (O.wh (m + 1))) < 0 → q (.int m) G
theorem scHo : FnScope ["a", "b", "many"] ["a", "b"] (defScope (top 22)) := ⟨rfl, rfl, rfl, by decide +kernel, rfl, by decide +kernel, by decide +kernel⟩
theorem fnHo (F : Fun K "how_often" "how_often" (top 22) f fd) (F1 : Fx P w K mg base "compare" ["a", "b"] 1 spCm) (F2 : Fx P w K mg base "times" ["a", "b"] 4 spTi) (F3 : Fx P w K mg base "whole" ["n"] 3 spWl) : WFn P w K mg base 5 f fd ["a", "b"] spHo := by
  have nd := scHo.nd
  refine fn3 F scHo (fun ws G q e h => by obtain ⟨_, _, _, _, rfl, _⟩ := h; rfl) (fun cdv A outer s H E hr => ?_)
  apply bodyOf
  · exact (qss_cons (qs_if (qt_w (qw_or (qt_cmp (q_eq4 hr) (qe_var 0 rfl (.inl rfl)) (qe_tup qa_nil) (nomark _)) (qw_or1 (qt_cmp (q_ne4 hr) (qe_ix q_ix (qe_ix q_ix (qe_var 0 rfl (.inl rfl)) qe_int (fun _ _ => rfl)) qe_int (fun _ _ => rfl)) (qe_ix q_ix (qe_ix q_ix (qe_var 1 rfl (.inl rfl)) qe_int (fun _ _ => rfl)) qe_int (fun _ _ => rfl)) (nomark _))))) (qss_cons (qs_ret qe_int) qss_nil) qss_nil) (qss_cons (qs_set 2 nd rfl (.inl rfl) (qe_op q_divB (qe_ix q_ix (qe_ix q_ix (qe_var 0 rfl (.inl rfl)) qe_int (fun _ _ => rfl)) qe_int (fun _ _ => rfl)) (qe_ix q_ix (qe_ix q_ix (qe_var 1 rfl (.inl rfl)) qe_int (fun _ _ => rfl)) qe_int (fun _ _ => rfl)))) (qss_cons (qs_if (qt_w (qw_and (qt_cmp q_gt (qe_var 2 rfl (.inl rfl)) qe_int (nomark _)) (qw_and1 (qt_cmp q_gt (qe_fxn F1 (Room.mono hr (by omega)) rfl (qa_cons (qe_fxn F2 (Room.mono hr (by omega)) rfl (qa_cons (qe_var 1 rfl (.inl rfl)) (qa_cons (qe_fxn F3 (Room.mono hr (by omega)) rfl (qa_cons (qe_var 2 rfl (.inl rfl)) qa_nil)) qa_nil))) (qa_cons (qe_var 0 rfl (.inl rfl)) qa_nil))) qe_int (nomark _))))) (qss_cons (qs_ret (qe_op q_sub (qe_var 2 rfl (.inl rfl)) qe_int)) qss_nil) qss_nil) (qss_cons (qs_ret (qe_var 2 rfl (.inl rfl))) qss_nil))))
  · rintro ws G q e ⟨a, y, n, r, rfl, ha, hb, hle, hda, hdb, hwb, hma, hmb, hq⟩
    have hda' := tup_dep a
    rw [encP_c]
    unfold prt enc
    refine seqU fun U hU => ?_
    walk_at "R"
    refine ⟨tup_flat a, by (clear F F1 F2 F3 nd hr ha hb hle hdb hwb hma hmb hq hU; omega), ?_⟩
    rw [tup_nil_eq]
    cases a with
    | z =>
      rw [if_pos (by simp)]
      have := O.often_none (e := y) (n := n) (r := r) (L := .z) (by simp [O.cmp])
      exact GLe.done (hq 0 (by (clear F F1 F2 F3 nd hr hb hdb hwb hmb hU ha hle hda hma hq hda' this; omega)) (by assumption) this.1 this.2)
    | c x k t =>
      rw [if_neg (by simp)]
      rw [encP_c]
      unfold prt enc
      have hdx := tup_dep x
      have hk := ha.2.1
      have hn := hb.2.1
      simp only [O.dp] at hda
      rw [O.mx_c] at hma
      have hmb' := hmb
      rw [O.mx_c] at hmb'
      walk_at "R"
      refine ⟨tup_flat x, tup_flat y, by (clear F F1 F2 F3 nd hr hb hdb hwb hmb hU ha hle hma hq hda' hk hn hmb'; omega), ?_⟩
      rw [tup_eq]
      by_cases hxy : x = y
      · rw [if_neg (by simpa using hxy)]
        subst hxy
        subst hU
        refine seqU fun U hU => ?_
        walk_at "R"
        have d0 : 0 ≤ k / n := Int.ediv_nonneg (by (clear F F1 F2 F3 nd hr ha hda hma hda' hdx hn hb hdb hwb hmb hle hq hmb' hU; omega)) (by (clear F F1 F2 F3 nd hr ha hda hma hda' hdx hk hb hdb hwb hmb hle hq hmb' hU; omega))
        have d1 : k / n ≤ k := Int.ediv_le_self _ (by (clear F F1 F2 F3 nd hr ha hda hma hda' hdx hn hb hdb hwb hmb hle hq hmb' hU d0; omega))
        refine ⟨.inr (bigD (by assumption) (by (clear F F1 F2 F3 nd hr ha hda hma hda' hdx hk hb hdb hwb hmb hle hq hU d0 d1; omega))), ?_⟩
        subst hU
        refine seqU fun U hU => ?_
        have plain : ¬ (0 < k / n ∧ 0 < O.cmp (O.timesO (.c x n r) (O.wh (k / n))) (.c x k t)) → U { nx := fun x G1 => ∃ G0, GLe G0 G1 ∧ q W.non G0, rt := fun w G1 => ∃ G0, GLe G0 G1 ∧ q w G0 } [some (W.tup (W.tup [W.tup (encP x), W.int k] :: encP t)), some (W.tup (W.tup [W.tup (encP x), W.int n] :: encP r)), some (W.int (k / n))] G := fun hh => by
          subst hU
          walk_at "R"
          have := O.often_ok hn hk hh
          exact GLe.done (hq _ this.1 (by (clear F F1 F2 F3 nd hr ha hda hda' hdx hn hb hdb hwb hmb hle hq hmb' d0 this; omega)) this.2.1 this.2.2)
        walk_at "R"
        split
        · rename_i h1
          refine ⟨_, rfl, d0, ?_⟩
          have w1 : O.hw (O.wh (k / n)) ≤ 1 := by rw [O.wh_pos h1]; simp [O.hw, O.len]
          have w2 : (O.wh (k / n)).dp ≤ 1 := by rw [O.wh_pos h1]; simp [O.dp]
          have w3 : O.mx (O.wh (k / n)) ≤ cap := Int.le_trans (b := 10 ^ 400) (by rw [O.wh_pos h1, O.mx_c]; simp only [O.mx]; (clear F F1 F2 F3 nd hr ha hda hda' hdx hn hb hdb hwb hmb hle hq hmb' d0 hU h1 w1 w2; omega)) k400
          refine ⟨.c x n r, _, rfl, hb, O.NF.wh d0, by assumption, by exact Nat.le_trans (by assumption) (Nat.le_of_ble_eq_true rfl), by assumption, by exact Nat.le_trans (by assumption) (Nat.le_of_ble_eq_true rfl), Int.le_trans hmb k150, w3, ?_⟩
          have w4 := O.dp_times (.c x n r) (O.wh (k / n))
          refine ⟨_, .c x k t, rfl, by (clear F F1 F2 F3 nd hr ha hda hma hda' hdx hk hn hb hwb hmb hle hq hmb' d0 d1 hU plain h1 w1 w3; omega), ?_⟩
          walk_at "R"
          split
          · rename_i h2
            have := O.often_less hn hk h1 h2
            exact GLe.done (hq _ this.1 (by (clear F F1 F2 F3 nd hr ha hda hda' hdx hn hb hdb hwb hmb hle hq hmb' d0 hU h1 w1 w2 w3 w4 h2 this; omega)) this.2.1 this.2.2)
          · rename_i h2
            exact plain fun h => h2 h.2
        · rename_i h1
          exact plain fun h => h1 h.1
      · rw [if_pos (by simpa using hxy)]
        have hne : O.cmp x y ≠ 0 := fun h => hxy (O.cmp_eq _ _ h)
        have hl : O.cmp x y ≤ 0 := hle
        have := O.often_none (e := y) (n := n) (r := r) (L := .c x k t) (by rw [O.cmp, if_pos hne]; (clear F F1 F2 F3 nd hr hb hdb hwb hmb hU ha hle hda hma hq hda' hdx hk hn hmb' hxy; omega))
        exact GLe.done (hq 0 (by (clear F F1 F2 F3 nd hr hb hdb hwb hmb hU ha hle hda hma hq hda' hdx hk hn hmb' hxy hne hl this; omega)) (by (clear F F1 F2 F3 nd hr hb hdb hwb hmb hU ha hle hda hma hq hda' hdx hk hn hmb' hxy hne hl this; omega)) this.1 this.2)
noncomputable def spDv : WSp := fun ws G q _ => ∃ a b : O, ws = [.tup (encP a), .tup (encP b)] ∧ a.NF ∧ b.NF ∧ b ≠ .z ∧ a.dp ≤ 30 ∧ b.dp ≤ 30 ∧ O.hw a ≤ 5000 ∧ O.hw b ≤ 1000 ∧ O.mx a ≤ 10 ^ 400 ∧ O.mx b ≤ 10 ^ 150 ∧
  ∀ Q R : O, Q.NF → R.NF → O.cmp R b < 0 → O.plusO (O.timesO b Q) R = a → Q.dp ≤ a.dp + 1 → R.dp ≤ a.dp → q (.tup [.tup (encP Q), .tup (encP R)]) G
theorem scDv : FnScope ["a", "b", "exponent", "quotient", "above", "left", "many"] ["a", "b"] (defScope (top 21)) := ⟨rfl, rfl, rfl, by decide +kernel, rfl, by decide +kernel, by decide +kernel⟩
theorem fnDv (F : Fun K "divided" "divided" (top 21) f fd) (F1 : Fx P w K mg base "compare" ["a", "b"] 1 spCm) (F2 : Fx P w K mg base "times" ["a", "b"] 4 spTi) (F3 : Fx P w K mg base "whole" ["n"] 3 spWl) (F4 : Fx P w K mg base "minus" ["a", "b"] 2 spMi) (F5 : Fx P w K mg base "how_often" ["a", "b"] 5 spHo) (ml : mg "len" = none) (mt : mg "tuple" = none) : WFn P w K mg base 6 f fd ["a", "b"] spDv := by
  have nd := scDv.nd
  refine fn3 F scDv (fun ws G q e h => by obtain ⟨_, _, rfl, _⟩ := h; rfl) (fun cdv A outer s H E hr => ?_)
  apply bodyOf
  · exact (qss_cons (qs_if (qt_cmp (q_eq4 hr) (qe_var 1 rfl (.inl rfl)) (qe_tup qa_nil) (nomark _)) (qss_cons qs_never qss_nil) qss_nil) (qss_cons (qs_set 2 nd rfl (.inl rfl) (qe_ix q_ix (qe_ix q_ix (qe_var 1 rfl (.inl rfl)) qe_int (fun _ _ => rfl)) qe_int (fun _ _ => rfl))) (qss_cons (qs_set 3 nd rfl (.inl rfl) (qe_lst qa_nil)) (qss_cons (qs_set 4 nd rfl (.inl rfl) qe_int) (qss_cons (qs_while PySem.PassesOwn.never (qt_w (qw_and (qt_cmp (q_lt3 hr) (qe_var 4 rfl (.inl rfl)) (qe_callB q_len rfl ml PySem.boot_len (qa_cons (qe_var 0 rfl (.inl rfl)) qa_nil)) (nomark _)) (qw_and1 (qt_cmp q_gt (qe_fxn F1 (Room.mono hr (by omega)) rfl (qa_cons (qe_ix q_ix (qe_ix q_ix (qe_var 0 rfl (.inl rfl)) (qe_var 4 rfl (.inl rfl)) (fun _ _ => rfl)) qe_int (fun _ _ => rfl)) (qa_cons (qe_var 2 rfl (.inl rfl)) qa_nil))) qe_int (nomark _))))) (qss_cons (qs_expr (qe_app (qe_var 3 rfl (.inl rfl)) (qe_tup (qa_cons (qe_fxn F4 (Room.mono hr (by omega)) rfl (qa_cons (qe_ix q_ix (qe_ix q_ix (qe_var 0 rfl (.inl rfl)) (qe_var 4 rfl (.inl rfl)) (fun _ _ => rfl)) qe_int (fun _ _ => rfl)) (qa_cons (qe_var 2 rfl (.inl rfl)) qa_nil))) (qa_cons (qe_ix q_ix (qe_ix q_ix (qe_var 0 rfl (.inl rfl)) (qe_var 4 rfl (.inl rfl)) (fun _ _ => rfl)) qe_int (fun _ _ => rfl)) qa_nil))))) (qss_cons (qs_set 4 nd rfl (.inl rfl) (qe_op q_add (qe_var 4 rfl (.inl rfl)) qe_int)) qss_nil))) (qss_cons (qs_set 5 nd rfl (.inl rfl) (qe_slice (qe_var 0 rfl (.inl rfl)) (qo_some (qe_var 4 rfl (.inl rfl))) qo_none)) (qss_cons (qs_set 6 nd rfl (.inl rfl) (qe_fxn F5 (Room.mono hr (by omega)) rfl (qa_cons (qe_var 5 rfl (.inl rfl)) (qa_cons (qe_var 1 rfl (.inl rfl)) qa_nil)))) (qss_cons (qs_ret (qe_tup (qa_cons (qe_op q_add (qe_callTy q_tuple rfl mt b_tuple (qa_cons (qe_var 3 rfl (.inl rfl)) qa_nil)) (qe_fxn F3 (Room.mono hr (by omega)) rfl (qa_cons (qe_var 6 rfl (.inl rfl)) qa_nil))) (qa_cons (qe_fxn F4 (Room.mono hr (by omega)) rfl (qa_cons (qe_var 5 rfl (.inl rfl)) (qa_cons (qe_fxn F2 (Room.mono hr (by omega)) rfl (qa_cons (qe_var 1 rfl (.inl rfl)) (qa_cons (qe_fxn F3 (Room.mono hr (by omega)) rfl (qa_cons (qe_var 6 rfl (.inl rfl)) qa_nil)) qa_nil))) qa_nil))) qa_nil)))) qss_nil))))))))
  · rintro ws G q e ⟨a, b, rfl, ha, hb, hz, hda, hdb, hwa, hwb, hma, hmb, hq⟩
    have hdb' := tup_dep b
    have la := O.len_le_hw a
    refine seqU fun U hU => ?_
    walk_at "R"
    refine ⟨tup_flat b, by (clear F F1 F2 F3 F4 F5 ml mt nd hr ha hb hz hda hwa hwb hma hmb hq la hU; omega), ?_⟩
    rw [tup_nil_eq, if_neg (by simpa using hz)]
    subst hU
    cases b with
    | z => exact absurd rfl hz
    | c y n r =>
      have hdy : y.dp < O.dp (.c y n r) := by simp only [O.dp]; (clear F F1 F2 F3 F4 F5 ml mt nd hr ha hda hwa hma la hb hz hdb hwb hmb hq hdb'; omega)
      refine seqU fun U hU => ?_
      rw [encP_c]
      unfold prt enc
      walk_at "R"
      subst hU
      refine seqU fun U hU => ?_
      walk_at "R"
      intro p hp
      subst hU
      refine seqU fun U hU => ?_
      walk_at "R"
      subst hU
      refine seqU fun U hU => ?_
      have g0 := updG_same (G := G) (a := p) (g := GO.lst [])
      have le0 : GLe G (updG G p (GO.lst [])) := GLe.new hp
      generalize updG G p (GO.lst []) = G0 at g0 le0 ⊢
      have sle := O.stay_le (e := y) (a := a)
      refine whileW (fun m τ G' => GLe G G' ∧ ∃ i : Nat, τ = [some (.tup (encP a)), some (.tup (W.tup [W.tup (encP y), W.int n] :: encP r)), some (.tup (encP y)), some (.ref p), some (.int (i : Int)), none, none] ∧ i ≤ O.stay y a ∧ G' p = some (.lst (encP (O.quo y (O.takeO i a)))) ∧ m = a.len - i) ⟨_, le0, 0, rfl, Nat.zero_le _, g0, rfl⟩ ?_
      rintro m τ G' ⟨le, i, rfl, hi, g, rfl⟩ B hB
      have stop : i = O.stay y a → U { nx := fun x G1 => ∃ G0, GLe G0 G1 ∧ q W.non G0, rt := fun w G1 => ∃ G0, GLe G0 G1 ∧ q w G0 } [some (.tup (encP a)), some (.tup (W.tup [W.tup (encP y), W.int n] :: encP r)), some (.tup (encP y)), some (.ref p), some (.int (i : Int)), none, none] G' := fun h => by
        subst h
        subst hU
        have hdl := O.dp_drop (O.stay y a) a
        have hml := O.mx_drop (O.stay y a) a
        have hwl := O.hw_drop (O.stay y a) a
        have ll := O.len_le_hw (O.dropO (O.stay y a) a)
        refine seqU fun U hU => ?_
        walk_at "R"
        rw [cut_from, encP_drop]
        subst hU
        refine seqU fun U hU => ?_
        walk_at "R"
        have hle : headLe y (O.dropO (O.stay y a) a) := by
          cases hh : O.getP a (O.stay y a) with
          | none => rw [O.dropO_len (O.getP_none.mp hh)]; exact trivial
          | some pr =>
            obtain ⟨x, k⟩ := pr
            rw [O.dropO_get hh]
            have := O.above_iff (e := y) ha hh
            show O.cmp x y ≤ 0
            (clear F F1 F2 F3 F4 F5 ml mt nd hr ha hda hwa hma la hb hz hdb hwb hmb hq hdb' hdy hp g0 le0 sle le hB hi g hdl hml hwl ll hU hh; omega)
        refine ⟨_, y, n, r, rfl, ha.drop, hb, hle, by (clear F F1 F2 F3 F4 F5 ml mt nd hr ha hwa hma la hb hz hdb hwb hmb hq hdb' hdy hp g0 le0 sle le hB hi g hml hwl ll hU hle; omega), by exact Nat.le_trans (by assumption) (Nat.le_of_ble_eq_true rfl), by assumption, by (clear F F1 F2 F3 F4 F5 ml mt nd hr ha hda hwa la hb hz hdb hwb hmb hq hdb' hdy hp g0 le0 sle le hB hi g hdl hwl ll hU hle; omega), by assumption, fun m m0 m1 h1 h2 => ?_⟩
        have hdiv := O.div_ok hb m0 ha h1 h2
        have w1 : O.hw (O.wh m) ≤ 1 := by unfold O.wh; split <;> simp [O.hw, O.len]
        have w2 : (O.wh m).dp ≤ 1 := by unfold O.wh; split <;> simp [O.dp]
        have w3 : O.mx (O.wh m) ≤ cap := Int.le_trans (b := 10 ^ 400) (by
          unfold O.wh
          split
          · exact p400
          · rw [O.mx_c]; simp only [O.mx]; (clear F F1 F2 F3 F4 F5 ml mt nd hr ha hda hwa hma la hb hz hdb hwb hmb hq hdb' hdy hp g0 le0 sle le hB hi g hdl hml hwl ll hU hle h1 h2 hdiv w1 w2; omega)) k400
        have w4 := O.dp_times (.c y n r) (O.wh m)
        subst hU
        walk_at "R"
        have lq : (encP (O.quo y (O.takeO (O.stay y a) a))).length ≤ 5000 := by rw [encP_length, O.quo_len]; have := O.len_take (O.stay y a) a; (clear F F1 F2 F3 F4 F5 ml mt nd hr ha hda hma hb hz hdb hwb hmb hq hdb' hdy hp g0 le0 sle le hB hi g hdl hml hwl ll hle m0 m1 h1 h2 hdiv w1 w2 w3 w4; omega)
        have lw : (encP (O.wh m)).length ≤ 1 := by rw [encP_length]; have := O.len_le_hw (O.wh m); (clear F F1 F2 F3 F4 F5 ml mt nd hr ha hda hwa hma la hb hz hdb hwb hmb hq hdb' hdy hp g0 le0 sle le hB hi g hdl hml hwl ll hle m0 m1 h1 h2 hdiv w2 w3 w4 lq; omega)
        refine ⟨_, g, m, rfl, m0, ?_, m, rfl, m0, .c y n r, _, rfl, hb, O.NF.wh m0, by exact Nat.le_trans (by assumption) (Nat.le_of_ble_eq_true rfl), by exact Nat.le_trans (by assumption) (Nat.le_of_ble_eq_true rfl), by assumption, by exact Nat.le_trans (by assumption) (Nat.le_of_ble_eq_true rfl), Int.le_trans hmb k150, w3, _, _, rfl, h1, by (clear F F1 F2 F3 F4 F5 ml mt nd hr ha hwa hma la hb hz hdb hwb hmb hq hdb' hdy hp g0 le0 sle le hB hi g hml hwl ll hle m0 m1 h1 h2 hdiv w1 w2 w3 w4 lq lw; omega), by (clear F F1 F2 F3 F4 F5 ml mt nd hr ha hda hwa hma la hb hz hwb hmb hq hdb' hp g0 le0 sle le hB hi g hdl hml hwl ll hle m0 m1 h1 h2 hdiv w1 w3 lq lw; omega), by (clear F F1 F2 F3 F4 F5 ml mt nd hr ha hda hma la hb hz hdb hwb hmb hq hdb' hdy hp g0 le0 sle le hB hi g hdl hml hle m0 m1 h1 h2 hdiv w1 w2 w3 w4 lq lw; omega), G, le, ?_⟩
        · exact Nat.le_trans (Nat.add_le_add lq lw) (by (clear F F1 F2 F3 F4 F5 ml mt nd hr ha hda hwa hma la hb hz hdb hwb hmb hq hdb' hdy hp g0 le0 sle le hB hi g hdl hml hwl ll hle m0 m1 h1 h2 hdiv w1 w2 w3 w4 lq lw; omega))
        · rw [← encP_app, O.quo_app y m ha]
          have qm := O.quo_more (e := y) hb.1 m0 ha
          exact hq _ _ hdiv.1 hdiv.2.1 hdiv.2.2.1 hdiv.2.2.2 qm.2.1 (Nat.le_trans (O.dp_minus _ _) hdl)
      walk_at "R"
      rw [encP_length]
      split
      · rename_i h1
        obtain ⟨x, k, hp1⟩ := O.getP_some (a := a) (i := i) (by (clear F F1 F2 F3 F4 F5 ml mt nd hr ha hda hwa hma la hb hz hdb hwb hmb hq hdb' hdy hp hU g0 le0 sle le hi g hB stop; omega))
        have hs := O.getP_size hp1
        have hab := O.above_iff (e := y) ha hp1
        have hpn := O.getP_NF ha hp1
        have hwx := O.getP_hw hp1
        have lx := O.len_le_hw x
        refine ⟨_, encP_at hp1, ?_⟩
        unfold prt enc
        walk_at "R"
        refine ⟨x, y, rfl, by (clear F F1 F2 F3 F4 F5 ml mt nd hr ha hwa hma la hb hz hdb hwb hmb hq hdb' hdy hp hU g0 le0 sle le hi g hB stop h1 hp1 hab hpn hwx lx; omega), ?_⟩
        walk_at "R"
        split
        · rename_i h2
          have hlt := hab.mp h2
          have sw := O.cmp_swap x y
          refine ⟨fun τ1 G1 => GLe G G1 ∧ τ1 = [some (.tup (encP a)), some (.tup (W.tup [W.tup (encP y), W.int n] :: encP r)), some (.tup (encP y)), some (.ref p), some (.int ((i + 1 : Nat) : Int)), none, none] ∧ G1 p = some (.lst (encP (O.quo y (O.takeO (i + 1) a)))), ?_, ?_⟩
          · rintro τ1 G1 ⟨le1, rfl, g1⟩
            exact ⟨a.len - (i + 1), by (clear F F1 F2 F3 F4 F5 ml mt nd hr ha hda hwa hma la hb hz hdb hwb hmb hq hdb' hdy hp hU g0 le0 sle le hi g hB stop hp1 hs hab hpn hwx lx h2 hlt sw le1 g1; omega), le1, i + 1, rfl, by assumption, g1, rfl⟩
          · subst hB
            walk_at "R"
            refine ⟨⟨_, g⟩, _, encP_at hp1, ?_⟩
            unfold prt enc
            refine ⟨_, atI0 _ _, x, y, rfl, by (clear F F1 F2 F3 F4 F5 ml mt nd hr ha hda hwa hma la hb hz hdb hwb hmb hq hdb' hdy hp hU g0 le0 sle le hi g stop h1 hp1 hs hab hpn hwx lx hlt; omega), by (clear F F1 F2 F3 F4 F5 ml mt nd hr ha hwa hma la hb hz hdb hwb hmb hq hdb' hdy hp hU g0 le0 sle le hi g stop h1 hp1 hab hpn hwx lx h2 hlt sw; omega), by (clear F F1 F2 F3 F4 F5 ml mt nd hr ha hda hwa hma la hb hz hwb hmb hq hdb' hp hU g0 le0 sle le hi g stop h1 hp1 hs hab hpn hwx lx h2 hlt sw; omega), by (clear F F1 F2 F3 F4 F5 ml mt nd hr ha hda hma la hb hz hdb hwb hmb hq hdb' hdy hp hU g0 le0 sle le hi g stop h1 hp1 hs hab hpn h2 hlt sw; omega), _, encP_at hp1, ?_⟩
            unfold prt enc
            refine ⟨_, atI1 _ _ _, _, g, by rw [encP_length, O.quo_len]; have := O.len_take i a; (clear F F1 F2 F3 F4 F5 ml mt nd hr ha hda hma hb hz hdb hwb hmb hq hdb' hdy hp hU g0 le0 sle le hi g stop h1 hp1 hs hab hpn hwx lx h2 hlt sw; omega), GLe.put le hp, rfl, ?_⟩
            rw [updG_same, O.take_snoc hp1, O.quo_join, encP_app]
            rfl
        · rename_i h2
          have : ¬ i < O.stay y a := fun k => h2 (hab.mpr k)
          exact stop (by (clear F F1 F2 F3 F4 F5 ml mt nd hr ha hda hwa hma la hb hz hdb hwb hmb hq hdb' hdy hp hU g0 le0 sle le g hB stop h1 hp1 hs hab hpn hwx lx h2; omega))
      · exact stop (by (clear F F1 F2 F3 F4 F5 ml mt nd hr ha hda hwa hma la hb hz hdb hwb hmb hq hdb' hdy hp hU g0 le0 le g hB stop; omega))

/-! powers -/
theorem allP_lm : ∀ {a : O}, a.NF → O.Lm a → AllP (fun e _ => e.NF ∧ e ≠ .z ∧ e.dp < a.dp ∧ O.hw e ≤ O.hw a) a
  | .z, _, _ => trivial
  | .c e n r, h, l => by
    refine ⟨⟨h.1, l.1, by simp only [O.dp]; (clear h l; omega), by rw [O.hw_c]; (clear h l; omega)⟩, ?_⟩
    refine AllP.imp (fun e' _ ⟨h1, h2, h3, h4⟩ => ⟨h1, h2, ?_, ?_⟩) (allP_lm h.2.2.2 l.2)
    · simp only [O.dp]; (clear h l h1 h2 h3 h4; omega)
    · rw [O.hw_c]; (clear h l h1 h2 h3 h4; omega)
theorem mapP_decr : ∀ a : O, mapP (fun _ _ => true) (fun e n => prt (O.minusO e O.one) n) a = encP (O.decr a)
  | .z => rfl
  | .c e n r => by rw [mapP, if_pos rfl, mapP_decr r]; rfl
theorem mapP_times : ∀ a : O, ∃ ns : List Int, mapP (fun _ _ => true) (fun _ n => .int n) a = ns.map W.int ∧ ns.length = a.len ∧ ∀ x, x ∈ ns → x ≤ O.ot a
  | .z => ⟨[], rfl, rfl, fun x h => by cases h⟩
  | .c e n r => by
    obtain ⟨ns, h1, h2, h3⟩ := mapP_times r
    refine ⟨n :: ns, by rw [mapP, if_pos rfl, h1]; rfl, by simp [O.len, h2], fun x hx => ?_⟩
    rw [O.ot_c]
    rcases List.mem_cons.mp hx with rfl | h
    · (clear h1 h2 h3 hx; omega)
    · have := h3 x h; (clear h1 h2 h3 hx h; omega)
noncomputable def spWn : WSp := fun ws G q _ => ∃ (a : O) (n : Nat), ws = [.tup (encP a), .int (n : Int)] ∧ a.NF ∧ n ≤ 24 ∧ a.dp ≤ 35 ∧ O.hw a ≤ 30 ∧ O.mx a ≤ cap ∧ 2 * (O.mx a + 2) ^ n ≤ cap ∧ q (.tup (encP (O.npow a n))) G
theorem scWn : FnScope ["a", "n", "found", "step"] ["a", "n"] (defScope (top 30)) := ⟨rfl, rfl, rfl, by decide +kernel, rfl, by decide +kernel, by decide +kernel⟩
theorem fnWn (F : Fun K "whole_power" "whole_power" (top 30) f fd) (F1 : Fx P w K mg base "times" ["a", "b"] 4 spTi) (F2 : Fx P w K mg base "whole" ["n"] 3 spWl) (mr : mg "range" = none) : WFn P w K mg base 5 f fd ["a", "n"] spWn := by
  have nd := scWn.nd
  refine fn3 F scWn (fun ws G q e h => by obtain ⟨_, _, rfl, _⟩ := h; rfl) (fun cdv A outer s H E hr => ?_)
  apply bodyOf
  · exact (qss_cons (qs_set 2 nd rfl (.inl rfl) (qe_fxn F2 (Room.mono hr (by omega)) rfl (qa_cons qe_int qa_nil))) (qss_cons (qs_for PySem.PassesOwn.never rfl (qi_range rfl mr (qa_cons (qe_var 1 rfl (.inl rfl)) qa_nil)) (qg_name 3 nd rfl (.inl rfl)) (qss_cons (qs_set 2 nd rfl (.inl rfl) (qe_fxn F1 (Room.mono hr (by omega)) rfl (qa_cons (qe_var 2 rfl (.inl rfl)) (qa_cons (qe_var 0 rfl (.inl rfl)) qa_nil)))) qss_nil)) (qss_cons (qs_ret (qe_var 2 rfl (.inl rfl))) qss_nil)))
  · rintro ws G q e ⟨a, n, rfl, ha, hn, hd, hw, hm, hm2, hq⟩
    refine seqU fun U hU => ?_
    walk_at "R"
    refine ⟨1, rfl, by (clear F F1 F2 mr nd hr ha hn hd hw hm hm2 hq hU; omega), ?_⟩
    subst hU
    refine seqU fun U hU => ?_
    walk_at "R"
    refine ⟨by omega, by omega, ?_⟩
    have hc := le_cap
    have hpc := pow_cap
    refine loop_up (n : Int).toNat (fun i τ G' => G' = G ∧ ∃ t3, τ = [some (.tup (encP a)), some (.int (n : Int)), some (.tup (encP (O.npow a i))), t3]) ⟨rfl, _, rfl⟩ ?_ ?_
    · rintro τ G' ⟨rfl, t3, rfl⟩
      refine ⟨trivial, ?_⟩
      subst hU
      walk_at "R"
      exact GLe.done hq
    · rintro i τ G' kk hi ⟨rfl, t3, rfl⟩ hk
      refine ⟨trivial, ?_⟩
      have h1 := O.npow_hw a i
      have h2 := O.npow_dp a i
      have h3 := O.npow_mx ha (Int.le_refl _) i
      have m0 := O.mx_nonneg a
      have h5 := O.ipow_mono (B := O.mx a + 2) (by (clear F F1 F2 mr nd hr ha hn hd hw hm hm2 hU hc hpc hi hq hk h1 h2 h3; omega)) (n := i) (n - i)
      rw [show i + (n - i) = n by (clear F F1 F2 mr nd hr ha hd hw hm hm2 hU hc hpc hq hk h1 h2 h3 m0 h5; omega)] at h5
      have h4 : i * O.hw a ≤ 24 * 30 := Nat.mul_le_mul (by (clear F F1 F2 mr nd hr ha hd hw hm hm2 hU hc hpc hq hk h1 h2 h3 m0 h5; omega)) hw
      walk_at "R"
      refine ⟨_, a, rfl, ha.npow i, ha, by (clear F F1 F2 mr nd hr ha hn hw hm hm2 hU hc hpc hi hq hk h1 h3 m0 h5 h4; omega), by exact Nat.le_trans (by assumption) (Nat.le_of_ble_eq_true rfl), by (clear F F1 F2 mr nd hr ha hn hd hw hm hm2 hU hc hpc hi hq hk h2 h3 m0 h5; omega), by exact Nat.le_trans (by assumption) (Nat.le_of_ble_eq_true rfl), ?_, by assumption, ?_⟩
      · (clear F F1 F2 mr nd hr ha hn hd hw hm hU hc hpc hi hq hk h1 h2 m0 h4; omega)
      · exact hk _ _ ⟨rfl, _, rfl⟩
noncomputable def spEp : WSp := fun ws G q _ => ∃ (e : O) (n : Int) (r L : O), ws = [.tup (encP (.c e n r)), .tup (encP L)] ∧ e.NF ∧ L.NF ∧ O.Lm L ∧ e.dp ≤ 35 ∧ L.dp ≤ 35 ∧ O.hw e ≤ 500 ∧ O.hw L ≤ 500 ∧ O.mx e ≤ cap ∧ O.mx L ≤ cap ∧ q (.tup (encP (O.endP e L))) G
theorem scEp : FnScope ["a", "limit"] ["a", "limit"] (defScope (top 29)) := ⟨rfl, rfl, rfl, by decide +kernel, rfl, by decide +kernel, by decide +kernel⟩
theorem fnEp (F : Fun K "endless_power" "endless_power" (top 29) f fd) (F1 : Fx P w K mg base "times" ["a", "b"] 4 spTi) (F2 : Fx P w K mg base "whole" ["n"] 3 spWl) (F3 : Fx P w K mg base "minus" ["a", "b"] 2 spMi) (F4 : Fxd P w K mg base "raised" ["exponent", "times"] 2 spRs [.int 1]) (mt : mg "tuple" = none) : WFn P w K mg base 5 f fd ["a", "limit"] spEp := by
  have nd := scEp.nd
  refine fn3 F scEp (fun ws G q e h => by obtain ⟨_, _, _, _, rfl, _⟩ := h; rfl) (fun cdv A outer s H E hr => ?_)
  apply bodyOf
  · exact (qss_cons (qs_if (qt_cmp (q_eq4 hr) (qe_ix q_ix (qe_ix q_ix (qe_var 0 rfl (.inl rfl)) qe_int (fun _ _ => rfl)) qe_int (fun _ _ => rfl)) (qe_tup qa_nil) (nomark _)) (qss_cons (qs_ret (qe_fxd F4 (Room.mono hr (by omega)) rfl (qa_cons (qe_callTy q_tuple rfl mt b_tuple (qa_cons (qe_comp (compSc (by first | rfl | decide +kernel)) rfl (qi_seq (qe_var 1 rfl (.inl rfl))) (fun _ _ _ _ => (qg_nameB 1 (by first | assumption | decide +kernel | rfl) rfl (.inl rfl))) (fun _ _ _ _ => qts_nil) (fun _ _ _ _ => (qe_tup (qa_cons (qe_fxn F3 (Room.mono hr (by omega)) rfl (qa_cons (qe_ix q_ix (qe_var 1 rfl (.inl rfl)) qe_int (fun _ _ => rfl)) (qa_cons (qe_fxn F2 (Room.mono hr (by omega)) rfl (qa_cons qe_int qa_nil)) qa_nil))) (qa_cons (qe_ix q_ix (qe_var 1 rfl (.inl rfl)) qe_int (fun _ _ => rfl)) qa_nil))))) qa_nil)) qa_nil))) qss_nil) qss_nil) (qss_cons (qs_ret (qe_fxd F4 (Room.mono hr (by omega)) rfl (qa_cons (qe_fxn F1 (Room.mono hr (by omega)) rfl (qa_cons (qe_ix q_ix (qe_ix q_ix (qe_var 0 rfl (.inl rfl)) qe_int (fun _ _ => rfl)) qe_int (fun _ _ => rfl)) (qa_cons (qe_var 1 rfl (.inl rfl)) qa_nil))) qa_nil))) qss_nil))
  · rintro ws G q e0 ⟨e, n, r, L, rfl, he, hL, hl, hde, hdL, hwe, hwL, hme, hmL, hq⟩
    have hdx := tup_dep e
    have ll := O.len_le_hw L
    rw [encP_c]
    unfold prt enc
    refine seqU fun U hU => ?_
    walk_at "R"
    refine ⟨tup_flat e, by (clear F F1 F2 F3 F4 mt nd hr he hL hl hdL hwe hwL hme hmL hq ll hU; omega), ?_⟩
    rw [tup_nil_eq]
    unfold O.endP at hq
    by_cases h : e = .z
    · rw [if_pos (by simpa using h)]
      rw [if_pos h] at hq
      show compW _ _ _ _ _ [none, none, none, none] G [] _
      refine comp_enc (fun _ _ => true) (fun x m => prt (O.minusO x O.one) m) trivial (allP_lm hL hl) (fun y m hy k hk => ?_) (fun y m hy _ k hk => ?_) (by rw [List.length_nil]; (clear F F1 F2 F3 F4 mt nd hr he hL hl hde hdL hwe hme hmL hq hdx hU h; omega)) (fun _ => rfl) fun p1 hp1 => ?_
      · walk_at "R"
        exact hk
      · have ly := O.len_le_hw y
        unfold prt enc at hk ⊢
        walk_at "R"
        exact ⟨1, rfl, by (clear F F1 F2 F3 F4 mt nd hr he hL hl hde hdL hwe hwL hme hmL hq hdx ll hU h hy hk ly; omega), y, O.one, rfl, O.one_le_ne hy.1 hy.2.1, by (clear F F1 F2 F3 F4 mt nd hr he hL hl hde hwe hwL hme hmL hq hdx ll hU h hk ly; omega), by decide, by (clear F F1 F2 F3 F4 mt nd hr he hL hl hde hdL hwe hme hmL hq hdx ll hU h hk; omega), hk⟩
      rw [List.nil_append, mapP_decr]
      refine ⟨_, updG_same, O.decr L, 1, rfl, by (clear F F1 F2 F3 F4 mt nd hr he hL hl hde hdL hwe hwL hme hmL hq hdx ll hU h hp1; omega), G, GLe.new hp1, ?_⟩
      rw [if_neg (by (clear F F1 F2 F3 F4 mt nd hr he hL hl hde hdL hwe hwL hme hmL hq hdx ll hU h hp1; omega))]
      exact hq
    · rw [if_neg (by simpa using h)]
      rw [if_neg h] at hq
      subst hU
      walk_at "R"
      refine ⟨e, L, rfl, he, hL, by exact Nat.le_trans (by assumption) (Nat.le_of_ble_eq_true rfl), by exact Nat.le_trans (by assumption) (Nat.le_of_ble_eq_true rfl), by exact Nat.le_trans (by assumption) (Nat.le_of_ble_eq_true rfl), by exact Nat.le_trans (by assumption) (Nat.le_of_ble_eq_true rfl), hme, hmL, _, 1, rfl, by (clear F F1 F2 F3 F4 mt nd hr he hL hl hde hdL hwe hwL hme hmL hq hdx ll h; omega), ?_⟩
      rw [if_neg (by (clear F F1 F2 F3 F4 mt nd hr he hL hl hde hdL hwe hwL hme hmL hq hdx ll h; omega))]
      exact GLe.done hq
noncomputable def spTg : WSp := fun ws G q _ => ∃ a b : O, ws = [.tup (encP a), .tup (encP b)] ∧ a ≠ .z ∧ a.dp ≤ 60 ∧ b.NF ∧ b.dp ≤ 60 ∧ O.same .z b ≤ 24 ∧ a.len ≤ 24 ∧ O.ot a < 10 ^ 60 ∧ q (.bl false) G
theorem scTg : FnScope ["a", "b"] ["a", "b"] (defScope (top 28)) := ⟨rfl, rfl, rfl, by decide +kernel, rfl, by decide +kernel, by decide +kernel⟩
theorem fnTg (F : Fun K "is_too_great" "is_too_great" (top 28) f fd) (F1 : Fx P w K mg base "whole_part" ["a"] 1 spWp) (ml : mg "len" = none) (mx : mg "max" = none) {t1 t2 : Tok} (hf : mg "MOST_FACTORS" = some (.int 24 t1)) (hp : mg "MOST_PARTS" = some (.int 24 t2)) : WFn P w K mg base 2 f fd ["a", "b"] spTg := by
  have nd := scTg.nd
  refine fn3 F scTg (fun ws G q e h => by obtain ⟨_, _, rfl, _⟩ := h; rfl) (fun cdv A outer s H E hr => ?_)
  apply bodyOf
  · exact (qss_cons (qs_if (qt_w (qw_or (qt_cmp q_gt (qe_fxn F1 (Room.mono hr (by omega)) rfl (qa_cons (qe_var 1 rfl (.inl rfl)) qa_nil)) (qe_gint rfl hf) (nomark _)) (qw_or1 (qt_cmp q_gt (qe_callB q_len rfl ml PySem.boot_len (qa_cons (qe_var 0 rfl (.inl rfl)) qa_nil)) (qe_gint rfl hp) (nomark _))))) (qss_cons (qs_ret qe_bl) qss_nil) qss_nil) (qss_cons (qs_ret (qe_cmp q_ge (qe_callB (q_max4 rfl) rfl mx b_max (qa_cons (qe_comp (compSc (by first | rfl | decide +kernel)) rfl (qi_seq (qe_var 0 rfl (.inl rfl))) (fun _ _ _ _ => (qg_nameB 1 (by first | assumption | decide +kernel | rfl) rfl (.inl rfl))) (fun _ _ _ _ => qts_nil) (fun _ _ _ _ => (qe_ix q_ix (qe_var 1 rfl (.inl rfl)) qe_int (fun _ _ => rfl)))) qa_nil)) (qe_op q_pow qe_int qe_int) (nomark _))) qss_nil))
  · rintro ws G q e0 ⟨a, b, rfl, hz, hda, nb, hdb, hs, hla, hma, hq⟩
    refine seqU fun U hU => ?_
    walk_at "R"
    refine ⟨b, rfl, nb, hdb, ?_⟩
    walk_at "R"
    rw [if_neg (by (clear F F1 ml mx hf hp nd hr hz hda nb hdb hla hma hq hU; omega)), encP_length, if_neg (by (clear F F1 ml mx hf hp nd hr hz hda nb hdb hs hma hq hU; omega))]
    subst hU
    walk_at "R"
    show compW _ _ _ _ _ [none, none] G [] _
    refine comp_enc (fun _ _ => true) (fun _ n => .int n) trivial (allP_dp a) (fun y m hy k hk => ?_) (fun y m _ _ k hk => ?_) (by rw [List.length_nil]; (clear F F1 ml mx hf hp nd hr hz hda nb hdb hs hma hq; omega)) (fun _ => rfl) fun p1 hp1 => ?_
    · walk_at "R"
      exact hk
    · unfold prt enc
      walk_at "R"
      exact hk
    obtain ⟨ns, h1, h2, h3⟩ := mapP_times a
    rw [List.nil_append, h1]
    have h0 : ns ≠ [] := fun h => by
      rw [h] at h2
      cases a with
      | z => exact hz rfl
      | c _ _ _ => simp [O.len] at h2
    refine ⟨ns, updG_same, h0, fun m hm _ => ?_⟩
    have := h3 m hm
    walk_at "R"
    refine ⟨G, GLe.new hp1, ?_⟩
    rw [decide_eq_false (by (clear F F1 ml mx hf hp nd hr hz hda nb hdb hs hla hq hp1 h1 h2 h3 h0 hm; omega))]
    exact hq
noncomputable def spPp : WSp := fun ws G q _ => ∃ (e : O) (n : Int) (b : O), ws = [prt e n, .tup (encP b)] ∧ e.NF ∧ b.NF ∧ 1 ≤ n ∧ e.dp ≤ 40 ∧ b.dp ≤ 40 ∧ O.hw e ≤ 1000 ∧ O.hw b ≤ 1000 ∧ O.mx e ≤ cap ∧ O.mx b ≤ cap ∧ q (.tup (encP (.c (O.timesO e b) (if 0 < O.same .z b then n else 1) .z))) G
theorem scPp : FnScope ["part", "b", "many"] ["part", "b"] (defScope (top 27)) := ⟨rfl, rfl, rfl, by decide +kernel, rfl, by decide +kernel, by decide +kernel⟩
theorem fnPp (F : Fun K "power_of_part" "power_of_part" (top 27) f fd) (F1 : Fx P w K mg base "whole_part" ["a"] 1 spWp) (F2 : Fx P w K mg base "times" ["a", "b"] 4 spTi) (F3 : Fx P w K mg base "raised" ["exponent", "times"] 2 spRs) : WFn P w K mg base 5 f fd ["part", "b"] spPp := by
  have nd := scPp.nd
  refine fn3 F scPp (fun ws G q e h => by obtain ⟨_, _, _, rfl, _⟩ := h; rfl) (fun cdv A outer s H E hr => ?_)
  apply bodyOf
  · exact (qss_cons (qs_set 2 nd rfl (.inl rfl) (qe_ifExp (qt_cmp q_gt (qe_fxn F1 (Room.mono hr (by omega)) rfl (qa_cons (qe_var 1 rfl (.inl rfl)) qa_nil)) qe_int (nomark _)) (qe_ix q_ix (qe_var 0 rfl (.inl rfl)) qe_int (fun _ _ => rfl)) qe_int)) (qss_cons (qs_ret (qe_fxn F3 (Room.mono hr (by omega)) rfl (qa_cons (qe_fxn F2 (Room.mono hr (by omega)) rfl (qa_cons (qe_ix q_ix (qe_var 0 rfl (.inl rfl)) qe_int (fun _ _ => rfl)) (qa_cons (qe_var 1 rfl (.inl rfl)) qa_nil))) (qa_cons (qe_var 2 rfl (.inl rfl)) qa_nil)))) qss_nil))
  · rintro ws G q e0 ⟨e, n, b, rfl, ne, nb, hn, hde, hdb, hwe, hwb, hme, hmb, hq⟩
    unfold prt enc
    refine seqU fun U hU => ?_
    have fin : ∀ k : Int, 1 ≤ k → k = (if 0 < O.same .z b then n else 1) → U { nx := fun x G1 => ∃ G0, GLe G0 G1 ∧ q W.non G0, rt := fun w G1 => ∃ G0, GLe G0 G1 ∧ q w G0 } [some (.tup [.tup (encP e), .int n]), some (.tup (encP b)), some (.int k)] G := fun k hk ek => by
      subst hU
      walk_at "R"
      refine ⟨e, b, rfl, ne, nb, hde, hdb, hwe, hwb, hme, hmb, _, k, rfl, by (clear F F1 F2 F3 nd hr ne nb hn hde hdb hwe hwb hme hmb hq; omega), ?_⟩
      rw [if_neg (by (clear F F1 F2 F3 nd hr ne nb hn hde hdb hwe hwb hme hmb hq; omega)), ek]
      exact GLe.done hq
    walk_at "R"
    refine ⟨b, rfl, nb, by exact Nat.le_trans (by assumption) (Nat.le_of_ble_eq_true rfl), ?_⟩
    walk_at "R"
    split
    · rename_i h
      exact fin n hn (by rw [if_pos h])
    · rename_i h
      exact fin 1 (by (clear F F1 F2 F3 nd hr ne nb hn hde hdb hwe hwb hme hmb hq hU fin h; omega)) (by rw [if_neg h])
noncomputable def spPw : WSp := fun ws G q _ => ∃ a b : O, ws = [.tup (encP a), .tup (encP b)] ∧ a.NF ∧ b.NF ∧ a.dp ≤ 30 ∧ b.dp ≤ 30 ∧ O.hw a ≤ 24 ∧ O.hw b ≤ 400 ∧ O.mx a ≤ 10 ^ 150 ∧ O.mx b ≤ 10 ^ 100 ∧ (a = .z ∨ a = O.one ∨ (∃ e n, a = .c e n .z ∧ e ≠ .z) ∨ (O.same .z b ≤ 24 ∧ O.ot a < 10 ^ 60 ∧ 2 * (O.mx a + 2) ^ (O.same .z b).toNat ≤ cap)) ∧ q (.tup (encP (O.powO a b))) G
theorem scPw : FnScope ["a", "b"] ["a", "b"] (defScope (top 26)) := ⟨rfl, rfl, rfl, by decide +kernel, rfl, by decide +kernel, by decide +kernel⟩
theorem fnPw (F : Fun K "power" "power" (top 26) f fd) (F1 : Fx P w K mg base "whole" ["n"] 3 spWl) (F2 : Fx P w K mg base "power_of_part" ["part", "b"] 5 spPp) (F3 : Fx P w K mg base "is_too_great" ["a", "b"] 2 spTg) (F4 : Fx P w K mg base "times" ["a", "b"] 4 spTi) (F5 : Fx P w K mg base "endless_power" ["a", "limit"] 5 spEp) (F6 : Fx P w K mg base "without_whole" ["a"] 2 spWo) (F7 : Fx P w K mg base "whole_power" ["a", "n"] 5 spWn) (F8 : Fx P w K mg base "whole_part" ["a"] 1 spWp) (ml : mg "len" = none) : WFn P w K mg base 6 f fd ["a", "b"] spPw := by
  have nd := scPw.nd
  refine fn3 F scPw (fun ws G q e h => by obtain ⟨_, _, rfl, _⟩ := h; rfl) (fun cdv A outer s H E hr => ?_)
  apply bodyOf
  · exact (qss_cons (qs_if (qt_cmp (q_eq4 hr) (qe_var 1 rfl (.inl rfl)) (qe_tup qa_nil) (nomark _)) (qss_cons (qs_ret (qe_fxn F1 (Room.mono hr (by omega)) rfl (qa_cons qe_int qa_nil))) qss_nil) qss_nil) (qss_cons (qs_if (qt_w (qw_or (qt_cmp (q_eq4 hr) (qe_var 0 rfl (.inl rfl)) (qe_tup qa_nil) (nomark _)) (qw_or1 (qt_cmp (q_eq4 hr) (qe_var 0 rfl (.inl rfl)) (qe_fxn F1 (Room.mono hr (by omega)) rfl (qa_cons qe_int qa_nil)) (nomark _))))) (qss_cons (qs_ret (qe_var 0 rfl (.inl rfl))) qss_nil) qss_nil) (qss_cons (qs_if (qt_w (qw_and (qt_cmp (q_eq4 hr) (qe_callB q_len rfl ml PySem.boot_len (qa_cons (qe_var 0 rfl (.inl rfl)) qa_nil)) qe_int (nomark _)) (qw_and1 (qt_cmp (q_ne4 hr) (qe_ix q_ix (qe_ix q_ix (qe_var 0 rfl (.inl rfl)) qe_int (fun _ _ => rfl)) qe_int (fun _ _ => rfl)) (qe_tup qa_nil) (nomark _))))) (qss_cons (qs_ret (qe_fxn F2 (Room.mono hr (by omega)) rfl (qa_cons (qe_ix q_ix (qe_var 0 rfl (.inl rfl)) qe_int (fun _ _ => rfl)) (qa_cons (qe_var 1 rfl (.inl rfl)) qa_nil)))) qss_nil) qss_nil) (qss_cons (qs_if (qt_val (qe_fxn F3 (Room.mono hr (by omega)) rfl (qa_cons (qe_var 0 rfl (.inl rfl)) (qa_cons (qe_var 1 rfl (.inl rfl)) qa_nil)))) (qss_cons qs_never qss_nil) qss_nil) (qss_cons (qs_ret (qe_fxn F4 (Room.mono hr (by omega)) rfl (qa_cons (qe_fxn F5 (Room.mono hr (by omega)) rfl (qa_cons (qe_var 0 rfl (.inl rfl)) (qa_cons (qe_fxn F6 (Room.mono hr (by omega)) rfl (qa_cons (qe_var 1 rfl (.inl rfl)) qa_nil)) qa_nil))) (qa_cons (qe_fxn F7 (Room.mono hr (by omega)) rfl (qa_cons (qe_var 0 rfl (.inl rfl)) (qa_cons (qe_fxn F8 (Room.mono hr (by omega)) rfl (qa_cons (qe_var 1 rfl (.inl rfl)) qa_nil)) qa_nil))) qa_nil)))) qss_nil)))))
  · rintro ws G q e0 ⟨a, b, rfl, na, nb, hda, hdb, hwa, hwb, hma, hmb, hc, hq⟩
    have ha' := tup_dep a
    have hb' := tup_dep b
    have hcap := le_cap
    refine seqU fun U hU => ?_
    walk_at "R"
    refine ⟨tup_flat b, by (clear F F1 F2 F3 F4 F5 F6 F7 F8 ml nd hr na nb hda hwa hwb hma hmb hc hq ha' hcap hU; omega), ?_⟩
    rw [tup_nil_eq]
    by_cases hb0 : b = .z
    · rw [if_pos (by simpa using hb0)]
      rw [hb0, O.pow_z] at hq
      exact ⟨1, rfl, by (clear F F1 F2 F3 F4 F5 F6 F7 F8 ml nd hr na nb hda hdb hwa hwb hma hmb hc hq ha' hb' hcap hU hb0; omega), GLe.done hq⟩
    · rw [if_neg (by simpa using hb0)]
      subst hU
      refine seqU fun U hU => ?_
      walk_at "R"
      refine ⟨tup_flat a, by (clear F F1 F2 F3 F4 F5 F6 F7 F8 ml nd hr na nb hdb hwa hwb hma hmb hc hq hb' hcap hb0 hU; omega), ?_⟩
      rw [tup_nil_eq]
      by_cases ha0 : a = .z
      · rw [if_pos (by simpa using ha0)]
        rw [O.pow_same hb0 (.inl ha0)] at hq
        exact GLe.done hq
      · rw [if_neg (by simpa using ha0)]
        refine ⟨1, rfl, by (clear F F1 F2 F3 F4 F5 F6 F7 F8 ml nd hr na nb hda hdb hwa hwb hma hmb hc hq ha' hb' hcap hb0 hU ha0; omega), ?_⟩
        have e1 : O.wh 1 = O.one := rfl
        rw [e1]
        refine ⟨tup_flat a, tup_flat O.one, by (clear F F1 F2 F3 F4 F5 F6 F7 F8 ml nd hr na nb hdb hwa hwb hma hmb hc hq hb' hcap hb0 hU ha0 e1; omega), ?_⟩
        rw [tup_eq]
        by_cases ha1 : a = O.one
        · rw [if_pos (by simpa using ha1)]
          rw [O.pow_same hb0 (.inr ha1)] at hq
          exact GLe.done hq
        · rw [if_neg (by simpa using ha1)]
          subst hU
          refine seqU fun U hU => ?_
          cases a with
          | z => exact absurd rfl ha0
          | c e n r =>
            have hde := tup_dep e
            have lr := O.len_le_hw r
            have gen : (e = .z ∨ r ≠ .z) → (O.same .z b ≤ 24 ∧ O.ot (.c e n r) < 10 ^ 60 ∧ 2 * (O.mx (.c e n r) + 2) ^ (O.same .z b).toNat ≤ cap) → U { nx := fun x G1 => ∃ G0, GLe G0 G1 ∧ q W.non G0, rt := fun w G1 => ∃ G0, GLe G0 G1 ∧ q w G0 } [some (W.tup (encP (.c e n r))), some (W.tup (encP b))] G := fun hg hs' => by
              obtain ⟨hs, hot, hmc⟩ := hs'
              subst hU
              have s0 := O.same_nonneg .z nb
              have lm := O.len_le_hw (.c e n r)
              rw [O.pow_gen hb0 ha1 hg] at hq
              refine seqU fun U hU => ?_
              walk_at "R"
              refine ⟨.c e n r, b, rfl, by simp, by exact Nat.le_trans (by assumption) (Nat.le_of_ble_eq_true rfl), nb, by exact Nat.le_trans (by assumption) (Nat.le_of_ble_eq_true rfl), hs, by (clear F F1 F2 F3 F4 F5 F6 F7 F8 ml nd hr nb hdb hwb hmb hb' hcap hb0 e1 na hda hma hc hq ha' ha0 ha1 hde lr hg hs hot hmc s0 hU; omega), hot, ?_⟩
              walk_at "R"
              subst hU
              walk_at "R"
              have hma' := hma
              have hwa' := hwa
              rw [O.mx_c] at hma'
              rw [O.hw_c] at hwa'
              have hda' := hda
              simp only [O.dp] at hda'
              obtain ⟨L, hL⟩ : ∃ L, L = O.filt (fun y _ => decide (¬ y = .z)) b := ⟨_, rfl⟩
              have nL : O.NF L := hL ▸ nb.filt _
              have lL : O.Lm L := hL ▸ O.Lm.filt b
              have d1 : L.dp ≤ b.dp := hL ▸ O.dp_filt (fun y _ => decide (¬ y = O.z)) b
              have w1 : O.hw L ≤ O.hw b := hL ▸ O.hw_filt (fun y _ => decide (¬ y = O.z)) b
              have m1 : O.mx L ≤ O.mx b := hL ▸ O.mx_filt (fun y _ => decide (¬ y = O.z)) b
              unfold O.genP O.lim at hq
              rw [← hL] at hq
              have em := O.endP_more na.1 nL lL
              have mm : (O.mx e + 1) * (O.mx L + 1) ≤ (10 ^ 150 + 1) * (10 ^ 100 + 1) := Int.mul_le_mul (by (clear F F1 F2 F3 F4 F5 F6 F7 F8 ml nd hr nb hdb hwb hmb hb' hcap hb0 e1 na hda hwa hma hc ha' ha0 ha1 hde hg hs hot hmc s0 lm hwa' hda' hq hL nL lL d1 w1 m1 em; omega)) (by (clear F F1 F2 F3 F4 F5 F6 F7 F8 ml nd hr nb hdb hwb hb' hcap hb0 e1 na hda hwa hma hc ha' ha0 ha1 hde lr hg hs hot hmc s0 lm hma' hwa' hda' hq hL nL lL d1 w1 em; omega)) (by have := O.mx_nonneg L; (clear F F1 F2 F3 F4 F5 F6 F7 F8 ml nd hr nb hdb hwb hmb hb' hcap hb0 e1 na hda hwa hma hc ha' ha0 ha1 hde lr hg hs hot hmc s0 lm hma' hwa' hda' hq hL nL lL d1 w1 m1 em; omega)) (by (clear F F1 F2 F3 F4 F5 F6 F7 F8 ml nd hr nb hdb hwb hmb hb' hcap hb0 e1 na hda hwa hma hc ha' ha0 ha1 hde lr hg hs hot hmc s0 lm hma' hwa' hda' hq hL nL lL d1 w1 m1 em; omega))
              have mm2 : ((10 : Int) ^ 150 + 1) * (10 ^ 100 + 1) ≤ cap := by decide +kernel
              have h1 := O.npow_hw (.c e n r) (O.same .z b).toNat
              have h2 := O.npow_dp (.c e n r) (O.same .z b).toNat
              have h3 := O.npow_mx na (Int.le_refl _) (O.same .z b).toNat
              have mm0 := O.mx_nonneg (.c e n r)
              have h4 : (O.same .z b).toNat * O.hw (.c e n r) ≤ 24 * 24 := Nat.mul_le_mul (by (clear F F1 F2 F3 F4 F5 F6 F7 F8 ml nd hr nb hdb hwb hmb hb' hcap hb0 e1 na hda hwa hma hc ha' ha0 ha1 hde lr hg hot hmc lm hma' hwa' hda' hq hL nL lL d1 w1 m1 em mm mm2 h1 h2 h3 mm0; omega)) hwa
              have hpc := pow_cap
              refine ⟨b, rfl, nb, by exact Nat.le_trans (by assumption) (Nat.le_of_ble_eq_true rfl), ?_⟩
              rw [← hL]
              refine ⟨e, n, r, L, rfl, na.1, nL, lL, by (clear F F1 F2 F3 F4 F5 F6 F7 F8 ml nd hr nb hwb hmb hb' hcap hb0 e1 na hda hwa hma hc ha' ha0 ha1 hde lr hg hs hot hmc s0 lm hma' hwa' hq hL nL lL w1 m1 em mm mm2 h1 h2 h3 mm0 h4 hpc; omega), by (clear F F1 F2 F3 F4 F5 F6 F7 F8 ml nd hr nb hwb hmb hb' hcap hb0 e1 na hda hwa hma hc ha' ha0 ha1 hde lr hg hs hot hmc s0 lm hma' hwa' hda' hq hL nL lL w1 m1 em mm mm2 h1 h2 h3 mm0 h4 hpc; omega), by (clear F F1 F2 F3 F4 F5 F6 F7 F8 ml nd hr nb hdb hwb hmb hb' hcap hb0 e1 na hda hwa hma hc ha' ha0 ha1 hde hg hs hot hmc s0 lm hma' hda' hq hL nL lL d1 w1 m1 em mm mm2 h1 h2 h3 mm0 h4 hpc; omega), by (clear F F1 F2 F3 F4 F5 F6 F7 F8 ml nd hr nb hdb hmb hb' hcap hb0 e1 na hda hwa hma hc ha' ha0 ha1 hde lr hg hs hot hmc s0 lm hma' hwa' hda' hq hL nL lL d1 m1 em mm mm2 h1 h2 h3 mm0 h4 hpc; omega), by (clear F F1 F2 F3 F4 F5 F6 F7 F8 ml nd hr nb hdb hwb hmb hb' hcap hb0 e1 na hda hwa hma hc ha' ha0 ha1 hde hg hs hot hmc s0 lm hwa' hda' hq hL nL lL d1 w1 m1 em mm mm2 h1 h2 h3 mm0 h4; omega), by (clear F F1 F2 F3 F4 F5 F6 F7 F8 ml nd hr nb hdb hwb hb' hcap hb0 e1 na hda hwa hma hc ha' ha0 ha1 hde lr hg hs hot hmc s0 lm hma' hwa' hda' hq hL nL lL d1 w1 em mm mm2 h1 h2 h3 mm0 h4; omega), ?_⟩
              refine ⟨b, rfl, nb, by exact Nat.le_trans (by assumption) (Nat.le_of_ble_eq_true rfl), .c e n r, (O.same .z b).toNat, by congr 3; (clear F F1 F2 F3 F4 F5 F6 F7 F8 ml nd hr nb hdb hwb hmb hb' hcap hb0 e1 na hda hwa hma hc ha' ha0 ha1 hde lr hg hot hmc lm hma' hwa' hda' hq hL nL lL d1 w1 m1 em mm mm2 h1 h2 h3 mm0 h4 hpc; omega), na, by (clear F F1 F2 F3 F4 F5 F6 F7 F8 ml nd hr nb hdb hwb hmb hb' hcap hb0 e1 na hda hwa hma hc ha' ha0 ha1 hde lr hg hot hmc lm hma' hwa' hda' hq hL nL lL d1 w1 m1 em mm mm2 h1 h2 h3 mm0 h4 hpc; omega), by exact Nat.le_trans (by assumption) (Nat.le_of_ble_eq_true rfl), by exact Nat.le_trans (by assumption) (Nat.le_of_ble_eq_true rfl), by (clear F F1 F2 F3 F4 F5 F6 F7 F8 ml nd hr nb hdb hwb hmb hb' hcap hb0 e1 na hda hwa hc ha' ha0 ha1 hde lr hg hs hot hmc s0 lm hma' hwa' hda' hq hL nL lL d1 w1 m1 em mm mm2 h1 h2 h3 h4; omega), hmc, ?_⟩
              refine ⟨_, _, rfl, na.1.endP nL lL, na.npow _, by (clear F F1 F2 F3 F4 F5 F6 F7 F8 ml nd hr nb hwb hmb hb' hcap hb0 e1 na hda hwa hma hc ha' ha0 ha1 hde lr hg hs hot hmc s0 lm hma' hwa' hq hL nL lL w1 m1 mm mm2 h1 h2 h3 mm0 h4 hpc; omega), by (clear F F1 F2 F3 F4 F5 F6 F7 F8 ml nd hr nb hdb hwb hmb hb' hcap hb0 e1 na hwa hma hc ha' ha0 ha1 hde lr hg hs hot hmc s0 lm hma' hwa' hda' hq hL nL lL d1 w1 m1 em mm mm2 h1 h3 mm0 h4 hpc; omega), by (clear F F1 F2 F3 F4 F5 F6 F7 F8 ml nd hr nb hdb hmb hb' hcap hb0 e1 na hda hwa hma hc ha' ha0 ha1 hde hg hs hot hmc s0 lm hma' hda' hq hL nL lL d1 m1 mm mm2 h1 h2 h3 mm0 h4 hpc; omega), by (clear F F1 F2 F3 F4 F5 F6 F7 F8 ml nd hr nb hdb hwb hmb hb' hcap hb0 e1 na hda hwa hma hc ha' ha0 ha1 hde lr hg hs hot hmc s0 lm hma' hwa' hda' hq hL nL lL d1 w1 m1 em mm mm2 h2 h3 mm0 hpc; omega), by (clear F F1 F2 F3 F4 F5 F6 F7 F8 ml nd hr nb hdb hwb hmb hb' hcap hb0 e1 na hda hwa hma hc ha' ha0 ha1 hde lr hg hs hot hmc s0 lm hma' hwa' hda' hq hL nL lL d1 w1 m1 mm2 h1 h2 h3 mm0 h4; omega), by (clear F F1 F2 F3 F4 F5 F6 F7 F8 ml nd hr nb hdb hwb hmb hb' hcap hb0 e1 na hda hwa hma hc ha' ha0 ha1 hde lr hg hs hot s0 lm hma' hwa' hda' hq hL nL lL d1 w1 m1 em mm mm2 h1 h2 mm0 h4 hpc; omega), ?_⟩
              exact GLe.done hq
            have hma' := hma
            have hwa' := hwa
            rw [O.mx_c] at hma'
            rw [O.hw_c] at hwa'
            have hda' := hda
            simp only [O.dp] at hda'
            rw [encP_c]
            unfold prt enc
            walk_at "R"
            rw [encP_length]
            split
            · rename_i hl1
              have hr0 : r = .z := by
                cases r with
                | z => rfl
                | c _ _ _ => exfalso; simp only [O.len] at hl1; (clear F F1 F2 F3 F4 F5 F6 F7 F8 ml nd hr nb hdb hwb hmb hb' hcap hb0 e1 hU hde na hda hwa hma hc hq ha' ha0 ha1 lr gen hma' hwa' hda'; omega)
              subst hr0
              refine ⟨tup_flat e, by (clear F F1 F2 F3 F4 F5 F6 F7 F8 ml nd hr nb hdb hwb hmb hb' hcap hb0 e1 hU na hda hwa hma hc hq ha' ha0 ha1 lr gen hma' hwa' hl1; omega), ?_⟩
              rw [tup_nil_eq]
              by_cases he : e = .z
              · rw [if_neg (by simpa using he)]
                rcases hc with h | h | ⟨e', n', h, h'⟩ | h
                · cases h
                · exact absurd h ha1
                · cases h; exact absurd he h'
                · exact gen (.inl he) h
              · rw [if_pos (by simpa using he)]
                have hma' := hma
                have hwa' := hwa
                rw [O.mx_c] at hma'
                rw [O.hw_c] at hwa'
                have hda' := hda
                simp only [O.dp] at hda'
                rw [O.pow_part he hb0] at hq
                exact ⟨e, n, b, rfl, na.1, nb, na.2.1, by (clear F F1 F2 F3 F4 F5 F6 F7 F8 ml nd hr nb hdb hwb hmb hb' hcap hb0 e1 hU hde na hda hwa hma hc hq ha' ha0 ha1 lr gen hl1 he hma' hwa'; omega), by exact Nat.le_trans (by assumption) (Nat.le_of_ble_eq_true rfl), by (clear F F1 F2 F3 F4 F5 F6 F7 F8 ml nd hr nb hdb hwb hmb hb' hcap hb0 e1 hU hde na hda hwa hma hc hq ha' ha0 ha1 lr gen he hma' hwa' hda'; omega), by exact Nat.le_trans (by assumption) (Nat.le_of_ble_eq_true rfl), by (clear F F1 F2 F3 F4 F5 F6 F7 F8 ml nd hr nb hdb hwb hmb hb' hb0 e1 hU hde na hda hwa hma hc hq ha' ha0 ha1 lr gen he hma' hwa' hda'; omega), by (clear F F1 F2 F3 F4 F5 F6 F7 F8 ml nd hr nb hdb hwb hb' hb0 e1 hU hde na hda hwa hma hc hq ha' ha0 ha1 lr gen hl1 he hma' hwa' hda'; omega), GLe.done hq⟩
            · rename_i hl1
              have hr0 : r ≠ .z := fun h => by subst h; simp only [O.len] at hl1; (clear F F1 F2 F3 F4 F5 F6 F7 F8 ml nd hr nb hdb hwb hmb hb' hcap hb0 e1 hU hde na hda hwa hma hc hq ha' ha0 ha1 lr gen hma' hwa' hda'; omega)
              rcases hc with h | h | ⟨e', n', h, h'⟩ | h
              · cases h
              · exact absurd h ha1
              · cases h; exact absurd rfl hr0
              · exact gen (.inr hr0) h

/-! a part's exponent and times, read at once -/
theorem ix_exp {a x : O} {n : Int} {i j k : Nat} {τ : WSt} {G : Gp} {q : WK} (hx : a.getP i = some (x, n)) (h1 : τ[j]? = some (some (.tup (encP a)))) (h2 : τ[k]? = some (some (.int (i : Int)))) (hq : q (.tup (encP x)) G) : wOp rIx3 (wOp rIx3 (wVar j) (wVar k)) (wC (.int 0)) τ G q := by
  simp only [wOp, wVar, h1, h2, rIx3, wC]
  refine ⟨_, encP_at hx, ?_⟩
  exact ⟨_, rfl, hq⟩
theorem ix_tm {a x : O} {n : Int} {i j k : Nat} {τ : WSt} {G : Gp} {q : WK} (hx : a.getP i = some (x, n)) (h1 : τ[j]? = some (some (.tup (encP a)))) (h2 : τ[k]? = some (some (.int (i : Int)))) (hq : q (.int n) G) : wOp rIx3 (wOp rIx3 (wVar j) (wVar k)) (wC (.int 1)) τ G q := by
  simp only [wOp, wVar, h1, h2, rIx3, wC]
  refine ⟨_, encP_at hx, ?_⟩
  exact ⟨_, rfl, hq⟩

/-! the law's own order, pairs and numbers -/
theorem ii_sub (n m : Int) : (if m < n then (1 : Int) else 0) - (if n < m then (1 : Int) else 0) = cmpZ n m := by
  unfold cmpZ
  rcases Int.lt_trichotomy n m with k | k | k
  · have k' : ¬ m < n := by omega
    simp [k, k']
  · subst k
    simp
  · have k' : ¬ n < m := by omega
    simp [k, k']
noncomputable def spOr (d : Nat) : WSp := fun ws G q _ => ∃ a b : O, ws = [.tup (encP a), .tup (encP b)] ∧ a.dp < d ∧ O.hw a ≤ 1000 ∧ O.hw b ≤ 1000 ∧ q (.int (O.cmp a b)) G
theorem scOr : FnScope ["_law_one", "_law_other", "_law_k", "_law_side"] ["_law_one", "_law_other"] (defScope (top 32)) := ⟨rfl, rfl, rfl, by decide +kernel, rfl, by decide +kernel, by decide +kernel⟩
theorem fnOr {d k : Nat} (F : Fun K "_law_order" "_law_order" (top 32) f fd) (F0 : Fx P w K mg base "_law_order" ["_law_one", "_law_other"] k (spOr d)) (ml : mg "len" = none) (mr : mg "range" = none) (mm : mg "min" = none) (mi : mg "int" = none) : WFn P w K mg base (k + 1) f fd ["_law_one", "_law_other"] (spOr (d + 1)) := by
  have nd := scOr.nd
  refine fn3 F scOr (fun ws G q e h => by obtain ⟨_, _, rfl, _⟩ := h; rfl) (fun cdv A outer s H E hr => ?_)
  apply bodyOf
  · exact (qss_cons (qs_for PySem.PassesOwn.never rfl (qi_range rfl mr (qa_cons (qe_callB (q_min rfl) rfl mm b_min (qa_cons (qe_callB q_len rfl ml PySem.boot_len (qa_cons (qe_var 0 rfl (.inl rfl)) qa_nil)) (qa_cons (qe_callB q_len rfl ml PySem.boot_len (qa_cons (qe_var 1 rfl (.inl rfl)) qa_nil)) qa_nil))) qa_nil)) (qg_name 2 nd rfl (.inl rfl)) (qss_cons (qs_set 3 nd rfl (.inl rfl) (qe_fxn F0 (Room.mono hr (by omega)) rfl (qa_cons (qe_ix q_ix (qe_ix q_ix (qe_var 0 rfl (.inl rfl)) (qe_var 2 rfl (.inl rfl)) (fun _ _ => rfl)) qe_int (fun _ _ => rfl)) (qa_cons (qe_ix q_ix (qe_ix q_ix (qe_var 1 rfl (.inl rfl)) (qe_var 2 rfl (.inl rfl)) (fun _ _ => rfl)) qe_int (fun _ _ => rfl)) qa_nil)))) (qss_cons (qs_if (qt_cmp (q_ne4 hr) (qe_var 3 rfl (.inl rfl)) qe_int (nomark _)) (qss_cons (qs_ret (qe_var 3 rfl (.inl rfl))) qss_nil) qss_nil) (qss_cons (qs_if (qt_cmp (q_ne4 hr) (qe_ix q_ix (qe_ix q_ix (qe_var 0 rfl (.inl rfl)) (qe_var 2 rfl (.inl rfl)) (fun _ _ => rfl)) qe_int (fun _ _ => rfl)) (qe_ix q_ix (qe_ix q_ix (qe_var 1 rfl (.inl rfl)) (qe_var 2 rfl (.inl rfl)) (fun _ _ => rfl)) qe_int (fun _ _ => rfl)) (nomark _)) (qss_cons (qs_ret (qe_op q_sub (qe_callTy q_int rfl mi PyProof.Rows.boot_int (qa_cons (qe_cmp q_gt (qe_ix q_ix (qe_ix q_ix (qe_var 0 rfl (.inl rfl)) (qe_var 2 rfl (.inl rfl)) (fun _ _ => rfl)) qe_int (fun _ _ => rfl)) (qe_ix q_ix (qe_ix q_ix (qe_var 1 rfl (.inl rfl)) (qe_var 2 rfl (.inl rfl)) (fun _ _ => rfl)) qe_int (fun _ _ => rfl)) (nomark _)) qa_nil)) (qe_callTy q_int rfl mi PyProof.Rows.boot_int (qa_cons (qe_cmp (q_lt3 hr) (qe_ix q_ix (qe_ix q_ix (qe_var 0 rfl (.inl rfl)) (qe_var 2 rfl (.inl rfl)) (fun _ _ => rfl)) qe_int (fun _ _ => rfl)) (qe_ix q_ix (qe_ix q_ix (qe_var 1 rfl (.inl rfl)) (qe_var 2 rfl (.inl rfl)) (fun _ _ => rfl)) qe_int (fun _ _ => rfl)) (nomark _)) qa_nil)))) qss_nil) qss_nil) qss_nil)))) (qss_cons (qs_ret (qe_op q_sub (qe_callTy q_int rfl mi PyProof.Rows.boot_int (qa_cons (qe_cmp q_gt (qe_callB q_len rfl ml PySem.boot_len (qa_cons (qe_var 0 rfl (.inl rfl)) qa_nil)) (qe_callB q_len rfl ml PySem.boot_len (qa_cons (qe_var 1 rfl (.inl rfl)) qa_nil)) (nomark _)) qa_nil)) (qe_callTy q_int rfl mi PyProof.Rows.boot_int (qa_cons (qe_cmp (q_lt3 hr) (qe_callB q_len rfl ml PySem.boot_len (qa_cons (qe_var 0 rfl (.inl rfl)) qa_nil)) (qe_callB q_len rfl ml PySem.boot_len (qa_cons (qe_var 1 rfl (.inl rfl)) qa_nil)) (nomark _)) qa_nil)))) qss_nil))
  · rintro ws G q e ⟨a, b, rfl, hd, sa, sb, hq⟩
    refine seqU fun U hU => ?_
    walk_at "R"
    rw [encP_length, encP_length]
    have la := O.len_le_hw a
    have lb := O.len_le_hw b
    refine ⟨by split <;> (clear F F0 ml mr mm mi nd hr hd sa sb hq hU la lb; omega), by split <;> (clear F F0 ml mr mm mi nd hr hd hq hU; omega), ?_⟩
    have em : (if (b.len : Int) < (a.len : Int) then (b.len : Int) else (a.len : Int)).toNat = min a.len b.len := by split <;> (clear F F0 ml mr mm mi nd hr hd sa sb hq hU la lb; omega)
    rw [em]
    refine loop_up (min a.len b.len) (fun i τ G' => G' = G ∧ ∃ t2 t3, τ = [some (.tup (encP a)), some (.tup (encP b)), t2, t3] ∧ O.cmp a b = O.cmp (O.dropO i a) (O.dropO i b)) ⟨rfl, none, none, rfl, rfl⟩ ?_ ?_
    · rintro τ G' ⟨rfl, t2, t3, rfl, hc⟩
      refine ⟨trivial, ?_⟩
      subst hU
      walk_at "R"
      rw [encP_length, encP_length, ii_sub]
      have l1 := O.len_dropO (min a.len b.len) a
      have l2 := O.len_dropO (min a.len b.len) b
      have hz : O.dropO (min a.len b.len) a = .z ∨ O.dropO (min a.len b.len) b = .z := by
        rcases Nat.le_total a.len b.len with h | h
        · exact .inl (O.dropO_len (by (clear F F0 ml mr mm mi nd hr hd sa sb la lb em hq hc l1 l2; omega)))
        · exact .inr (O.dropO_len (by (clear F F0 ml mr mm mi nd hr hd sa sb la lb em hq hc l1 l2; omega)))
      rw [cmp_len_nil hz] at hc
      have e2 : cmpZ (a.len : Int) (b.len : Int) = cmpZ ((O.dropO (min a.len b.len) a).len : Int) ((O.dropO (min a.len b.len) b).len : Int) := cmpZ_shift (by rw [l1, l2]; (clear F F0 ml mr mm mi nd hr hd sa sb la lb em hq hc l1 l2 hz; omega))
      rw [e2, ← hc]
      exact GLe.done hq
    · rintro i τ G' kk hi ⟨rfl, t2, t3, rfl, hc⟩ hk
      obtain ⟨x, n, hx⟩ := O.getP_some (a := a) (i := i) (by (clear F F0 ml mr mm mi nd hr hd sa sb hU la lb em hq hc hk; omega))
      obtain ⟨y, m, hy⟩ := O.getP_some (a := b) (i := i) (by (clear F F0 ml mr mm mi nd hr hd sa sb hU la lb em hq hc hk hx; omega))
      have gx := O.getP_size hx
      have gy := O.getP_size hy
      have wx := O.getP_hw hx
      have wy := O.getP_hw hy
      rw [O.dropO_get hx, O.dropO_get hy, cmp_c] at hc
      refine ⟨trivial, ?_⟩
      generalize hA0 : wOp rIx3 (wOp rIx3 (wVar 0) (wVar 2)) (wC (W.int 0)) = A0
      generalize hB0 : wOp rIx3 (wOp rIx3 (wVar 1) (wVar 2)) (wC (W.int 0)) = B0
      generalize hA1 : wOp rIx3 (wOp rIx3 (wVar 0) (wVar 2)) (wC (W.int 1)) = A1
      generalize hB1 : wOp rIx3 (wOp rIx3 (wVar 1) (wVar 2)) (wC (W.int 1)) = B1
      have fA : ∀ (t3 : Option W) (q : WK), q (.int n) G' → A1 [some (.tup (encP a)), some (.tup (encP b)), some (.int (i : Int)), t3] G' q := fun t3 q h => hA1 ▸ ix_tm hx rfl rfl h
      have fB : ∀ (t3 : Option W) (q : WK), q (.int m) G' → B1 [some (.tup (encP a)), some (.tup (encP b)), some (.int (i : Int)), t3] G' q := fun t3 q h => hB1 ▸ ix_tm hy rfl rfl h
      refine seqU fun U1 hU1 => ?_
      walk_at "R"
      subst hA0 hB0
      refine ix_exp hx rfl rfl (ix_exp hy rfl rfl ?_)
      refine ⟨x, y, rfl, by (clear F F0 ml mr mm mi nd hr sa sb hU la lb em hi hq hk hx hc hy gy wx wy hA1 hB1 fA fB hU1; omega), by (clear F F0 ml mr mm mi nd hr hd sb hU la lb em hi hq hk hx hc hy gx gy wy hA1 hB1 fA fB hU1; omega), by (clear F F0 ml mr mm mi nd hr hd sa hU la lb em hi hq hk hx hc hy gx gy wx hA1 hB1 fA fB hU1; omega), ?_⟩
      subst hU1
      refine seqU fun U1 hU1 => ?_
      walk_at "R"
      by_cases h0 : O.cmp x y = 0
      · have hP : cmpP x n y m = cmpZ n m := if_neg (by simpa using h0)
        rw [hP] at hc
        rw [if_neg (by simpa using h0)]
        subst hU1
        walk_at "R"
        refine fA _ _ (fB _ _ ?_)
        walk_at "R"
        by_cases hn : n = m
        · rw [if_neg (by simpa using hn)]
          rw [hn, cmpZ_self, if_neg (by simp)] at hc
          exact hk _ _ ⟨rfl, _, _, rfl, hc⟩
        · rw [if_pos (by simpa using hn)]
          refine fA _ _ (fB _ _ ?_)
          walk_at "R"
          refine fA _ _ (fB _ _ ?_)
          walk_at "R"
          rw [ii_sub]
          rw [if_pos (fun z => hn (cmpP_zero.mp (hP.trans z)).2)] at hc
          rw [← hc]
          exact GLe.done hq
      · rw [if_pos (by simpa using h0)]
        have hP : cmpP x n y m = O.cmp x y := if_pos h0
        rw [hP, if_pos h0] at hc
        rw [← hc]
        exact GLe.done hq
theorem fxOr (T : Txt K mg) : ∀ d : Nat, Fx P w K mg base "_law_order" ["_law_one", "_law_other"] d (spOr d)
  | 0 => T.d__law_order.fx fun f fd F => WFn.none fun ws G q e ⟨a, b, _, h, _⟩ => by (clear T F; omega)
  | d + 1 => T.d__law_order.fx fun f fd F => fnOr F (fxOr T d) T.z_len T.z_range T.z_min T.z_int
noncomputable def spEx : WSp := fun ws G q _ => ∃ (p : PJ) (t : O), ws = [.tup (encI p), .tup (encP t)] ∧ Pr p ∧ q (.tup (encP (exI t p))) G
theorem scEx : FnScope ["_law_pair_here", "_law_top", "_law_parts"] ["_law_pair_here", "_law_top"] (defScope (top 33)) := ⟨rfl, rfl, rfl, by decide +kernel, rfl, by decide +kernel, by decide +kernel⟩
theorem fnEx (F : Fun K "_law_exponent" "_law_exponent" (top 33) f fd) (mt : mg "tuple" = none) : WFn P w K mg base 1 f fd ["_law_pair_here", "_law_top"] spEx := by
  have nd := scEx.nd
  refine fn3 F scEx (fun ws G q e h => by obtain ⟨_, _, rfl, _⟩ := h; rfl) (fun cdv A outer s H E hr => ?_)
  apply bodyOf
  · exact (qss_cons (qs_set 2 nd rfl (.inl rfl) (qe_lst qa_nil)) (qss_cons (qs_if (qt_cmp q_gt (qe_ix q_ix (qe_var 0 rfl (.inl rfl)) qe_int (fun _ _ => rfl)) qe_int (nomark _)) (qss_cons (qs_expr (qe_app (qe_var 2 rfl (.inl rfl)) (qe_tup (qa_cons (qe_var 1 rfl (.inl rfl)) (qa_cons (qe_ix q_ix (qe_var 0 rfl (.inl rfl)) qe_int (fun _ _ => rfl)) qa_nil))))) qss_nil) qss_nil) (qss_cons (qs_if (qt_cmp q_gt (qe_ix q_ix (qe_var 0 rfl (.inl rfl)) qe_int (fun _ _ => rfl)) qe_int (nomark _)) (qss_cons (qs_expr (qe_app (qe_var 2 rfl (.inl rfl)) (qe_tup (qa_cons (qe_tup qa_nil) (qa_cons (qe_ix q_ix (qe_var 0 rfl (.inl rfl)) qe_int (fun _ _ => rfl)) qa_nil))))) qss_nil) qss_nil) (qss_cons (qs_ret (qe_callTy q_tuple rfl mt b_tuple (qa_cons (qe_var 2 rfl (.inl rfl)) qa_nil))) qss_nil))))
  · rintro ws G q e ⟨⟨x, y⟩, t, rfl, hp, hq⟩
    have hy : 0 ≤ y := hp.b0
    unfold encI
    refine seqU fun U hU => ?_
    walk_at "R"
    intro l hl
    have g0 := updG_same (G := G) (a := l) (g := GO.lst [])
    have le0 : GLe G (updG G l (GO.lst [])) := GLe.new hl
    generalize updG G l (GO.lst []) = G0 at g0 le0 ⊢
    subst hU
    refine seqU fun U hU => ?_
    have tail : ∀ (G1 : Gp) (a : O), GLe G G1 → G1 l = some (.lst (encP a)) → a.len ≤ 1 → O.app a (O.wh y) = exI t (x, y) → U { nx := fun x G1 => ∃ G0, GLe G0 G1 ∧ q W.non G0, rt := fun w G1 => ∃ G0, GLe G0 G1 ∧ q w G0 } [some (.tup [.int x, .int y]), some (.tup (encP t)), some (.ref l)] G1 := fun G1 a le g la ea => by
      subst hU
      refine seqU fun U hU => ?_
      walk_at "R"
      split
      · rename_i h
        refine ⟨⟨_, g⟩, _, g, by rw [encP_length]; exact Nat.le_trans (by assumption) (Nat.le_of_ble_eq_true rfl), ?_⟩
        subst hU
        walk_at "R"
        refine ⟨_, updG_same, G, GLe.put le hl, ?_⟩
        have e1 : encP a ++ [W.tup [W.tup [], W.int y]] = encP (exI t (x, y)) := by rw [← ea, O.wh_pos h, encP_app]; rfl
        rw [e1]
        exact hq
      · rename_i h
        subst hU
        walk_at "R"
        refine ⟨_, g, G, le, ?_⟩
        have e0 : y = 0 := by (clear F mt nd hr hp hq hl g0 le0 le g la ea; omega)
        rw [e0, O.wh_0, O.app_z] at ea
        rw [ea, ← e0]
        exact hq
    walk_at "R"
    split
    · rename_i h
      refine ⟨⟨_, g0⟩, _, g0, by simp, ?_⟩
      refine tail _ (.c t x .z) (GLe.put le0 hl) updG_same (by simp [O.len]) ?_
      unfold exI
      rw [if_pos h]
      rfl
    · rename_i h
      refine tail _ .z le0 g0 (by simp [O.len]) ?_
      unfold exI
      rw [if_neg h]
      rfl
noncomputable def spPr : WSp := fun ws G q _ => ∃ c : Int, ws = [.int c] ∧ ∀ p : PJ, Pr p → q (.tup (encI p)) G
theorem scPr : FnScope ["_law_cell"] ["_law_cell"] (defScope (top 34)) := ⟨rfl, rfl, rfl, by decide +kernel, rfl, by decide +kernel, by decide +kernel⟩
theorem fnPr (F : Fun K "_law_pair" "_law_pair" (top 34) f fd) : WFn P w K mg base 1 f fd ["_law_cell"] spPr := by
  have nd := scPr.nd
  refine fn3 F scPr (fun ws G q e h => by obtain ⟨_, rfl, _⟩ := h; rfl) (fun cdv A outer s H E hr => ?_)
  apply bodyOf
  · exact (qss_cons (qs_if (qt_cmp (q_eq4 hr) (qe_op q_mod (qe_op q_divB (qe_var 0 rfl (.inl rfl)) qe_int) qe_int) qe_int (nomark _)) (qss_cons (qs_ret (qe_tup (qa_cons (qe_op q_mod (qe_var 0 rfl (.inl rfl)) qe_int) (qa_cons (qe_op q_mod (qe_op q_divB (qe_var 0 rfl (.inl rfl)) qe_int) (qe_op q_pow qe_int qe_int)) qa_nil)))) qss_nil) qss_nil) (qss_cons (qs_ret (qe_tup (qa_cons (qe_op q_mod (qe_var 0 rfl (.inl rfl)) qe_int) (qa_cons (qe_op q_mod (qe_op q_divB (qe_var 0 rfl (.inl rfl)) qe_int) qe_int) qa_nil)))) qss_nil))
  · rintro ws G q e ⟨c, rfl, hq⟩
    refine seqU fun U hU => ?_
    walk_at "R"
    split
    · exact GLe.done (hq (c % 4, c / 80 % 1000000000000) ⟨by show 0 ≤ c % 4; (clear F nd hr hq hU; omega), by show c % 4 ≤ 3; (clear F nd hr hq hU; omega), by show 0 ≤ c / 80 % 1000000000000; (clear F nd hr hq hU; omega), by show c / 80 % 1000000000000 ≤ 10 ^ 12; (clear F nd hr hq hU; omega)⟩)
    · subst hU
      walk_at "R"
      exact GLe.done (hq (c % 4, c / 4 % 4) ⟨by show 0 ≤ c % 4; (clear F nd hr hq; omega), by show c % 4 ≤ 3; (clear F nd hr hq; omega), by show 0 ≤ c / 4 % 4; (clear F nd hr hq; omega), by show c / 4 % 4 ≤ 10 ^ 12; (clear F nd hr hq; omega)⟩)

/-! a number out of cells -/
noncomputable def am (kvs : List (PJ × W)) (p : PJ) : Int := match valI kvs p with
  | some (.int n) => n
  | _ => 0
theorem am_at {kvs : List (PJ × W)} {p : PJ} {B : Int} (hk : ∀ x, x ∈ kvs → Pr x.1 ∧ ∃ n, x.2 = .int n ∧ 1 ≤ n ∧ n ≤ B) (h : p ∈ kvs.map (·.1)) : valI kvs p = some (.int (am kvs p)) ∧ 1 ≤ am kvs p ∧ am kvs p ≤ B := by
  cases e : valI kvs p with
  | none =>
    obtain ⟨y, hy, ey⟩ := List.mem_map.mp h
    unfold valI at e
    exact absurd (decide_eq_true ey) (List.find?_eq_none.mp (Option.map_eq_none_iff.mp e) _ hy)
  | some x =>
    obtain ⟨_, n, hn, h1, h2⟩ := hk _ (valI_mem e)
    have hx : x = .int n := hn
    subst hx
    have : am kvs p = n := by unfold am; rw [e]
    rw [this]
    exact ⟨rfl, h1, h2⟩
theorem map_numI (t : O) (f : PJ → Int) : ∀ ks : List PJ, ks.map (fun p => prt (exI t p) (f p)) = encP (numI t f ks)
  | [] => rfl
  | p :: ks => by rw [List.map_cons, map_numI t f ks]; rfl
noncomputable def spNu : WSp := fun ws G q _ => ∃ (l : Addr) (ns : List Int) (m B : Int) (t : O), ws = [.ref l, .int m, .int B, .tup (encP t)] ∧ G l = some (.lst (ns.map W.int)) ∧ 0 ≤ m ∧ m ≤ 3 ∧ 10 ^ 12 ≤ B ∧ B ≤ 10 ^ 40 ∧ Tp t ∧ ∀ o : O, Lim 4 3 B o → (o.len : Int) ≤ m → q (.tup (encP o)) G
theorem scNu : FnScope ["_law_cells", "_law_many", "_law_bound", "_law_top", "_law_together", "_law_cell", "_law_pair_here", "_law_amount"] ["_law_cells", "_law_many", "_law_bound", "_law_top"] (defScope (top 35)) := ⟨rfl, rfl, rfl, by decide +kernel, rfl, by decide +kernel, by decide +kernel⟩
theorem fnNu (F : Fun K "_law_number" "_law_number" (top 35) f fd) (F1 : Fx P w K mg base "_law_pair" ["_law_cell"] 1 spPr) (F2 : Fx P w K mg base "_law_exponent" ["_law_pair_here", "_law_top"] 1 spEx) (mt : mg "tuple" = none) (ms : mg "sorted" = none) : WFn P w K mg base 6 f fd ["_law_cells", "_law_many", "_law_bound", "_law_top"] spNu := by
  have nd := scNu.nd
  refine fn3 (k := 5) F scNu (fun ws G q e h => by obtain ⟨_, _, _, _, _, rfl, _⟩ := h; rfl) (fun cdv A outer s H E hr => ?_)
  apply bodyOf
  · refine' qss_cons (qs_set 4 (by assumption) rfl (by first | exact Or.inl rfl | exact Or.inr rfl) (show QE _ _ (wDicI P w K) from qe_dicI)) (qss_cons (qs_for PassesOwn.never rfl ?it ?tg (qss_cons ?s1 (qss_cons ?s2 (qss_cons ?s3 (qss_one (show QS _ _ (wDPutI P w K _ _ _) from qs_dputI hr ?dv ?dd ?dk)))))) (qss_one (qs_ret (qe_callTy q_tuple rfl mt b_tuple (qa_cons (qe_comp (compSc (by first | rfl | decide +kernel)) rfl (qi_seq (show QE _ _ (wSortI P w K _) from qe_sortI hr rfl rfl ms ?sn)) (fun _ _ _ _ => ?cg) (fun _ _ _ _ => ?ct) (fun _ _ _ _ => qe_tup (qa_cons ?ce (qa_cons (qe_ix (show QIx _ (rIxI P w K) from q_ixI hr) ?cn ?cx (fun _ _ => rfl)) qa_nil)))) qa_nil)))))
    case it => exact (qi_seq (qe_slice (qe_var 0 rfl (.inl rfl)) qo_none (qo_some (qe_var 1 rfl (.inl rfl)))))
    case tg => exact (qg_name 5 nd rfl (.inl rfl))
    case s1 => exact (qs_set 6 nd rfl (.inl rfl) (qe_fxn F1 (Room.mono hr (by omega)) rfl (qa_cons (qe_var 5 rfl (.inl rfl)) qa_nil)))
    case s2 => exact (qs_set 7 nd rfl (.inl rfl) (qe_op q_add qe_int (qe_op q_mod (qe_op q_divB (qe_var 5 rfl (.inl rfl)) qe_int) qe_int)))
    case s3 => exact (qs_if (qt_cmp (q_eq4 hr) (qe_op q_mod (qe_op q_divB (qe_var 5 rfl (.inl rfl)) qe_int) qe_int) qe_int (nomark _)) (qss_cons (qs_set 7 nd rfl (.inl rfl) (qe_op q_add qe_int (qe_op q_mod (qe_op q_divB (qe_var 5 rfl (.inl rfl)) qe_int) (qe_var 2 rfl (.inl rfl))))) qss_nil) qss_nil)
    case dv => exact (qe_var 7 rfl (.inl rfl))
    case dd => exact (qe_var 4 rfl (.inr (.inl rfl)))
    case dk => exact (qe_var 6 rfl (.inl rfl))
    case sn => exact (qe_var 4 rfl (.inr (.inl rfl)))
    case cg => exact (qg_nameB 1 (by first | assumption | decide +kernel | rfl) rfl (.inl rfl))
    case ct => exact qts_nil
    case ce => exact (qe_fxn F2 (Room.mono hr (by omega)) rfl (qa_cons (qe_var 1 rfl (.inl rfl)) (qa_cons (qe_var 4 rfl (.inr (.inl rfl))) qa_nil)))
    case cn => exact (qe_var 3 rfl (.inr (.inl rfl)))
    case cx => exact (qe_var 1 rfl (.inl rfl))
  · rintro ws G q e ⟨l, ns, m, B, t, rfl, hG, m0, m3, B1, B2, ht, hq⟩
    obtain ⟨m, rfl⟩ : ∃ k : Nat, m = (k : Int) := ⟨m.toNat, by (clear F F1 F2 mt ms nd hr hG B1 B2 ht hq; omega)⟩
    refine seqU fun U hU => ?_
    walk_at "R"
    intro d hd
    have hG1 := updG_ne' (g := dii P w K []) hG hd
    have gd := updG_same (G := G) (a := d) (g := dii P w K [])
    have le0 : GLe G (updG G d (dii P w K [])) := GLe.new hd
    generalize updG G d (dii P w K []) = G1 at hG1 gd le0 ⊢
    subst hU
    refine seqU fun U hU => ?_
    walk_at "R"
    have hc : cutW (ns.map W.int) none (some (m : Int)) = (ns.take m).map W.int := by rw [cut_to, List.map_take]
    refine ⟨_, hG1, fun p hp => ?_⟩
    rw [hc]
    refine ⟨_, updG_same, ?_⟩
    have gd2 := updG_ne' (g := GO.lst ((ns.take m).map W.int)) gd hp
    have gp2 := updG_same (G := G1) (a := p) (g := GO.lst ((ns.take m).map W.int))
    have le1 : GLe G (updG G1 p (GO.lst ((ns.take m).map W.int))) := le0.trans (GLe.new hp)
    have hpd : p ≠ d := fun z => by rw [z, gd] at hp; cases hp
    have hp0 : G p = none := fresh_of le0 hp
    generalize updG G1 p (GO.lst ((ns.take m).map W.int)) = G2 at gd2 gp2 le1 ⊢
    refine loopW_ind (fun ws τ G' => ∃ (cs : List Int) (kvs : List (PJ × W)) (t5 t6 t7 : Option W), ws = cs.map W.int ∧ τ = [some (.ref l), some (.int (m : Int)), some (.int B), some (.tup (encP t)), some (.ref d), t5, t6, t7] ∧ GLe G G' ∧ G' p = some (.lst ((ns.take m).map W.int)) ∧ G' d = some (dii P w K kvs) ∧ kvs.length + cs.length ≤ m ∧ ∀ x, x ∈ kvs → Pr x.1 ∧ ∃ n, x.2 = .int n ∧ 1 ≤ n ∧ n ≤ B) ?_ ?_ _ _ _
      ⟨ns.take m, [], none, none, none, rfl, rfl, le1, gp2, gd2, by rw [List.length_take]; simp only [List.length_nil]; (clear F F1 F2 mt ms nd hr hG B1 B2 ht m0 m3 hq hd hG1 gd le0 hU hc hp hpd hp0 gd2 gp2 le1; omega), fun _ h => (nomatch h)⟩
    · rintro τ G' ⟨cs, kvs, t5, t6, t7, hw, rfl, le, gp, gd, hl, hk⟩
      refine ⟨gp, ?_⟩
      subst hU
      walk_at "R"
      refine ⟨kvs, gd, by (clear F F1 F2 mt ms nd hr hG B1 B2 ht hq hd hG1 le0 hc hp hpd hp0 gd2 gp2 le1 hw le gp gd hk; omega), fun a ks ha hds hpm => ⟨_, updG_same, ?_⟩⟩
      have hks : ∀ x, x ∈ ks → x ∈ kvs.map (·.1) := fun x hx => hpm.mem_iff.mp hx
      have hpr : ∀ x, x ∈ ks → Pr x := fun x hx => by
        obtain ⟨y, hy, rfl⟩ := List.mem_map.mp (hks x hx)
        exact (hk y hy).1
      have hlk : ks.length ≤ m := by have := hpm.length_eq; rw [List.length_map] at this; (clear F F1 F2 mt ms nd hr hG B1 B2 ht m0 m3 hq hd hG1 le0 hc hp hpd hp0 gd2 gp2 le1 hw le gp gd hk ha hds hpm hks hpr; omega)
      have ga := updG_ne' (g := GO.lst (ks.map fun o => W.tup (encI o))) gd ha
      have gaa := updG_same (G := G') (a := a) (g := GO.lst (ks.map fun o => W.tup (encI o)))
      have le3 : GLe G (updG G' a (GO.lst (ks.map fun o => W.tup (encI o)))) := le.trans (GLe.new ha)
      generalize updG G' a (GO.lst (ks.map fun o => W.tup (encI o))) = G3 at ga gaa le3 ⊢
      show compW _ _ _ _ _ [none, none, none, some (W.ref d), some (W.tup (encP t))] G3 [] _
      refine comp_by (fun o => W.tup (encI o)) (fun o => prt (exI t o) (am kvs o)) gaa (fun o ho k hk2 => ?_) (by simp only [List.length_nil]; (clear F F1 F2 mt ms nd hr hG B1 B2 ht hq hd hG1 le0 hc hp hpd hp0 gd2 gp2 le1 hw le gp gd hl hk ha hds hpm hks hpr ga gaa le3; omega)) (fun _ => rfl) ?_
      · walk_at "R"
        refine ⟨o, t, rfl, hpr o ho, ?_⟩
        obtain ⟨v1, _, _⟩ := am_at hk (hks o ho)
        refine ⟨kvs, o, _, rfl, ga, v1, ?_⟩
        exact hk2
      · intro p2 hp2
        refine ⟨_, updG_same, G, le3.trans (GLe.new hp2), ?_⟩
        rw [List.nil_append, map_numI]
        obtain ⟨b1, b2, b3⟩ := numI_more (f := am kvs) B1 ht fun x hx => ⟨hpr x hx, (am_at hk (hks x hx)).2.2⟩
        exact hq _ ⟨numI_nf ht hds fun x hx => ⟨hpr x hx, (am_at hk (hks x hx)).2.1⟩, b1, by (clear F F1 F2 mt ms nd hr hG B1 B2 ht hq hd hG1 le0 hc hp hpd hp0 gd2 gp2 le1 hw le gp gd hl hk ha hds hpm hks hpr ga gaa le3 hp2 b1 b3; omega), b3⟩ (by rw [numI_len]; (clear F F1 F2 mt ms nd hr hG B1 B2 ht m0 m3 hq hd hG1 le0 hc hp hpd hp0 gd2 gp2 le1 hw le gp gd hl hk ha hds hpm hks hpr ga gaa le3 hp2 b1 b2 b3; omega))
    · rintro w1 ws τ G' kk ⟨cs, kvs, t5, t6, t7, hw, rfl, le, gp, gd, hl, hk⟩ hkk
      cases cs with
      | nil => cases hw
      | cons c cs =>
        cases hw
        refine ⟨gp, ?_⟩
        refine seqU fun U1 hU1 => ?_
        walk_at "R"
        refine ⟨c, rfl, fun pr hpr => ?_⟩
        subst hU1
        refine seqU fun U1 hU1 => ?_
        walk_at "R"
        subst hU1
        refine seqU fun U1 hU1 => ?_
        have put : ∀ n : Int, 1 ≤ n → n ≤ B → U1 { nx := kk, ct := kk, bk := U { nx := fun x G1 => ∃ G0, GLe G0 G1 ∧ q W.non G0, rt := fun w G1 => ∃ G0, GLe G0 G1 ∧ q w G0 }, rt := fun w G1 => ∃ G0, GLe G0 G1 ∧ q w G0 } [some (.ref l), some (.int (m : Int)), some (.int B), some (.tup (encP t)), some (.ref d), some (.int c), some (.tup (encI pr)), some (.int n)] G' := fun n n1 n2 => by
          subst hU1
          walk_at "R"
          refine ⟨d, pr, kvs, rfl, rfl, gd, by rw [List.length_cons] at hl; (clear F F1 F2 mt ms nd hr hG B1 B2 ht hq hd hG1 le0 hU hc hp hpd hp0 gd2 gp2 le1 le gp gd hk hkk hpr n1 n2; omega), ?_⟩
          refine hkk _ _ ⟨cs, putI kvs pr (.int n), _, _, _, rfl, rfl, gle_put le hd, updG_ne hpd ▸ gp, updG_same, ?_, fun x hx => ?_⟩
          · have := putI_len kvs pr (.int n)
            rw [List.length_cons] at hl
            (clear F F1 F2 mt ms nd hr hG B1 B2 ht m0 m3 hq hd hG1 le0 hU hc hp hpd hp0 gd2 gp2 le1 le gp gd hk hkk hpr n1 n2; omega)
          · rcases putI_mem hx with rfl | hx
            · exact ⟨hpr, n, rfl, n1, n2⟩
            · exact hk x hx
        walk_at "R"
        split
        · refine ⟨by (clear F F1 F2 mt ms nd hr hG ht m0 m3 hq hd hG1 le0 hU hc hp hpd hp0 gd2 gp2 le1 le gp gd hk hl hkk hpr hU1 put; omega), put _ ?_ ?_⟩
          · have := Int.emod_nonneg (c / 80) (show B ≠ 0 by (clear F F1 F2 mt ms nd hr hG ht m0 m3 hq hd hG1 le0 hU hc hp hpd hp0 gd2 gp2 le1 le gp gd hk hl hkk hpr hU1 put; omega)); (clear F F1 F2 mt ms nd hr hG B1 B2 ht m0 m3 hq hd hG1 le0 hU hc hp hpd hp0 gd2 gp2 le1 le gp gd hk hl hkk hpr hU1 put; omega)
          · have := Int.emod_lt_of_pos (c / 80) (show 0 < B by (clear F F1 F2 mt ms nd hr hG ht m0 m3 hq hd hG1 le0 hU hc hp hpd hp0 gd2 gp2 le1 le gp gd hk hl hkk hpr hU1 put; omega)); (clear F F1 F2 mt ms nd hr hG B1 B2 ht m0 m3 hq hd hG1 le0 hU hc hp hpd hp0 gd2 gp2 le1 le gp gd hk hl hkk hpr hU1 put; omega)
        · exact put _ (by (clear F F1 F2 mt ms nd hr hG B1 B2 ht m0 m3 hq hd hG1 le0 hU hc hp hpd hp0 gd2 gp2 le1 le gp gd hk hl hkk hpr hU1 put; omega)) (by (clear F F1 F2 mt ms nd hr hG ht m0 m3 hq hd hG1 le0 hU hc hp hpd hp0 gd2 gp2 le1 le gp gd hk hl hkk hpr hU1 put; omega))

/-! the law's numbers -/
theorem rsz3 (n : Nat) : (rsz 0 (n : Int) 3).toNat = (n + 2) / 3 := by
  unfold rsz Builtin.Range.rangeSize
  rw [if_pos (by omega)]
  by_cases h : (0 : Int) < n
  · rw [if_pos h]; omega
  · rw [if_neg h]; omega
theorem cut_mid (xs : List W) (a b : Nat) (h : a ≤ xs.length) : cutW xs (some (a : Int)) (some (b : Int)) = (xs.drop a).take (b - a) := by
  unfold cutW
  rw [HT.sIx_nat, HT.sIx_nat, Nat.min_eq_left h]
  rcases Nat.le_total b xs.length with k | k
  · rw [Nat.min_eq_left k]
  · rw [Nat.min_eq_right k, List.take_of_length_le (by rw [List.length_drop]; (clear h k; omega)), List.take_of_length_le (by rw [List.length_drop]; omega)]
noncomputable def spNs : WSp := fun ws G q _ => ∃ (l : Addr) (ns : List Int) (t : O), ws = [.ref l, .tup (encP t)] ∧ G l = some (.lst (ns.map W.int)) ∧ ns.length ≤ 60 ∧ Tp t ∧ ∀ (p : Addr) (os : List O), G p = none → os.length ≤ 20 → (∀ o, o ∈ os → Lim 4 3 (10 ^ 40) o) → q (.ref p) (updG G p (.lst (nums os)))
theorem scNs : FnScope ["_law_cells", "_law_top", "_law_found", "_law_at", "_law_few"] ["_law_cells", "_law_top"] (defScope (top 36)) := ⟨rfl, rfl, rfl, by decide +kernel, rfl, by decide +kernel, by decide +kernel⟩
theorem fnNs (F : Fun K "_law_numbers" "_law_numbers" (top 36) f fd) (F1 : Fx P w K mg base "_law_number" ["_law_cells", "_law_many", "_law_bound", "_law_top"] 6 spNu) (ml : mg "len" = none) (mr : mg "range" = none) : WFn P w K mg base 7 f fd ["_law_cells", "_law_top"] spNs := by
  have nd := scNs.nd
  refine fn3 F scNs (fun ws G q e h => by obtain ⟨_, _, _, rfl, _⟩ := h; rfl) (fun cdv A outer s H E hr => ?_)
  apply bodyOf
  · exact (qss_cons (qs_set 2 nd rfl (.inl rfl) (qe_lst qa_nil)) (qss_cons (qs_for PySem.PassesOwn.never rfl (qi_range3 rfl mr (qa_cons qe_int (qa_cons (qe_callB q_len rfl ml PySem.boot_len (qa_cons (qe_var 0 rfl (.inl rfl)) qa_nil)) (qa_cons qe_int qa_nil)))) (qg_name 3 nd rfl (.inl rfl)) (qss_cons (qs_set 4 nd rfl (.inl rfl) (qe_slice (qe_var 0 rfl (.inl rfl)) (qo_some (qe_var 3 rfl (.inl rfl))) (qo_some (qe_op q_add (qe_var 3 rfl (.inl rfl)) qe_int)))) (qss_cons (qs_expr (qe_app (qe_var 2 rfl (.inl rfl)) (qe_fxn F1 (Room.mono hr (by omega)) rfl (qa_cons (qe_op q_add (qe_lst (qa_cons (qe_op q_divB (qe_ix q_ix (qe_var 4 rfl (.inl rfl)) qe_int (fun _ _ => rfl)) qe_int) qa_nil)) (qe_slice (qe_var 4 rfl (.inl rfl)) (qo_some qe_int) qo_none)) (qa_cons (qe_op q_mod (qe_ix q_ix (qe_var 4 rfl (.inl rfl)) qe_int (fun _ _ => rfl)) qe_int) (qa_cons (qe_op q_pow qe_int qe_int) (qa_cons (qe_var 1 rfl (.inl rfl)) qa_nil))))))) qss_nil))) (qss_cons (qs_ret (qe_var 2 rfl (.inl rfl))) qss_nil)))
  · rintro ws G q e ⟨l, ns, t, rfl, hG, h60, ht, hq⟩
    refine seqU fun U hU => ?_
    walk_at "R"
    intro p hp
    have hG1 := updG_ne' (g := GO.lst []) hG hp
    have gp := updG_same (G := G) (a := p) (g := GO.lst [])
    have le0 : GLe G (updG G p (GO.lst [])) := GLe.new hp
    generalize updG G p (GO.lst []) = G1 at hG1 gp le0 ⊢
    subst hU
    refine seqU fun U hU => ?_
    walk_at "R"
    refine ⟨_, hG1, ?_⟩
    rw [List.length_map, rsz3]
    refine ⟨⟨by (clear F F1 ml mr nd hr hG h60 ht hq hp hG1 gp le0 hU; omega), by (clear F F1 ml mr nd hr hG h60 ht hq hp hG1 gp le0 hU; omega), by (clear F F1 ml mr nd hr hG h60 ht hq hp hG1 gp le0 hU; omega), by (clear F F1 ml mr nd hr hG h60 ht hq hp hG1 gp le0 hU; omega), by (clear F F1 ml mr nd hr hG ht hq hp hG1 gp le0 hU; omega), by (clear F F1 ml mr nd hr hG ht hq hp hG1 gp le0 hU; omega)⟩, ?_⟩
    refine loop_upS 0 3 ((ns.length + 2) / 3) (fun i τ G' => ∃ (os : List O) (t3 t4 : Option W), τ = [some (.ref l), some (.tup (encP t)), some (.ref p), t3, t4] ∧ GLe G G' ∧ G' p = some (.lst (nums os)) ∧ os.length = i ∧ ∀ o, o ∈ os → Lim 4 3 (10 ^ 40) o) ⟨[], none, none, rfl, le0, gp, rfl, fun _ h => (nomatch h)⟩ ?_ ?_
    · rintro τ G' ⟨os, t3, t4, rfl, le, gp, hl, ho⟩
      refine ⟨trivial, ?_⟩
      subst hU
      walk_at "R"
      refine ⟨updG G p (.lst (nums os)), fun a g ea => ?_, hq p os hp (by (clear F F1 ml mr nd hr hG ht hq hp hG1 le0 le gp ho; omega)) ho⟩
      by_cases hb : a = p
      · subst hb
        rw [updG_same] at ea
        rw [gp, ea]
      · rw [updG_ne hb] at ea
        exact le a g ea
    · rintro i τ G' kk hi ⟨os, t3, t4, rfl, le, gp, hl, ho⟩ hk
      refine ⟨trivial, ?_⟩
      have hG2 := le _ _ hG
      have hlt : i * 3 < ns.length := by (clear F F1 ml mr nd hr hG h60 ht hq hp hG1 le0 hU le gp ho hk hG2; omega)
      have e1 : cutW (ns.map W.int) (some (0 + (i : Int) * 3)) (some (0 + (i : Int) * 3 + 3)) = ((ns.drop (i * 3)).take 3).map W.int := by
        rw [show (0 + (i : Int) * 3) = ((i * 3 : Nat) : Int) by (clear F F1 ml mr nd hr hG h60 ht hq hp hG1 le0 hU hi le gp hl ho hk hG2 hlt; omega), show (((i * 3 : Nat) : Int) + 3) = ((i * 3 + 3 : Nat) : Int) by (clear F F1 ml mr nd hr hG h60 ht hq hp hG1 le0 hU hi le gp hl ho hk hG2 hlt; omega), cut_mid _ _ _ (by rw [List.length_map]; (clear F F1 ml mr nd hr hG h60 ht hq hp hG1 le0 hU hi le gp ho hk hG2; omega)), show i * 3 + 3 - i * 3 = 3 by (clear F F1 ml mr nd hr hG h60 ht hq hp hG1 le0 hU hi le gp hl ho hk hG2 hlt; omega), List.map_take, List.map_drop]
      obtain ⟨c, cs, hcs⟩ : ∃ c cs, (ns.drop (i * 3)).take 3 = c :: cs := by
        cases h : (ns.drop (i * 3)).take 3 with
        | nil => have := congrArg List.length h; rw [List.length_take, List.length_drop] at this; simp only [List.length_nil] at this; (clear F F1 ml mr nd hr hG h60 ht hq hp hG1 le0 hU hi le gp ho hk hG2 e1 h; omega)
        | cons c cs => exact ⟨c, cs, rfl⟩
      rw [hcs] at e1
      refine seqU fun U1 hU1 => ?_
      walk_at "R"
      refine ⟨_, hG2, fun p1 hp1 => ?_⟩
      rw [e1]
      have gp1 := updG_ne' (g := GO.lst (List.map W.int (c :: cs))) gp hp1
      have gf := updG_same (G := G') (a := p1) (g := GO.lst (List.map W.int (c :: cs)))
      have le1 : GLe G (updG G' p1 (GO.lst (List.map W.int (c :: cs)))) := le.trans (GLe.new hp1)
      generalize updG G' p1 (GO.lst (List.map W.int (c :: cs))) = G2 at gp1 gf le1 ⊢
      subst hU1
      walk_at "R"
      have e2 : cutW (List.map W.int (c :: cs)) (some 1) none = cs.map W.int := by rw [show (1 : Int) = ((1 : Nat) : Int) from rfl, cut_from]; rfl
      have lcs : cs.length ≤ 2 := by have := congrArg List.length hcs; rw [List.length_take, List.length_cons] at this; (clear F F1 ml mr nd hr hG h60 ht hq hp hG1 le0 hU hi le gp hl ho hk hG2 hlt e1 hcs hp1 gp1 gf le1 e2; omega)
      refine ⟨⟨_, gp1⟩, _, _, gf, atI0 _ _, ?_⟩
      walk_at "R"
      refine fun p3 hp3 => ⟨_, updG_ne' gf hp3, ?_⟩
      rw [e2]
      refine fun p4 hp4 => ⟨_, _, updG_ne' updG_same hp4, updG_same, by simp only [List.length_cons, List.length_nil, List.length_map]; (clear F F1 ml mr nd hr hG h60 ht hq hp hG1 le0 hU hi le gp hl ho hk hG2 hlt e1 hcs hp1 gp1 gf le1 e2 hp3 hp4; omega), fun p5 hp5 => ⟨_, _, updG_ne' (updG_ne' (updG_ne' gf hp3) hp4) hp5, atI0 _ _, ?_⟩⟩
      walk_at "R"
      have gp5 := updG_ne' (g := GO.lst (W.int (c / 4) :: cs.map W.int)) (updG_ne' (g := GO.lst (cs.map W.int)) (updG_ne' (g := GO.lst [W.int (c / 4)]) gp1 hp3) hp4) hp5
      have le5 := ((le1.trans (GLe.new (g := GO.lst [W.int (c / 4)]) hp3)).trans (GLe.new (g := GO.lst (cs.map W.int)) hp4)).trans (GLe.new (g := GO.lst (W.int (c / 4) :: cs.map W.int)) hp5)
      refine ⟨p5, (c / 4) :: cs, c % 4, _, t, rfl, updG_same, by (clear F F1 ml mr nd hr hG h60 ht hq hp hG1 le0 hU hi le gp hl ho hk hG2 hlt e1 hcs hp1 gp1 gf le1 e2 lcs hp3 hp4 hp5 gp5 le5; omega), by (clear F F1 ml mr nd hr hG h60 ht hq hp hG1 le0 hU hi le gp hl ho hk hG2 hlt e1 hcs hp1 gp1 gf le1 e2 lcs hp3 hp4 hp5 gp5 le5; omega), by decide, by decide, ht, fun o ho' hlen => ⟨_, gp5, by rw [nums_length]; (clear F F1 ml mr nd hr hG ht hq hp hG1 le0 hU hi le gp ho hk hG2 e1 hcs hp1 gp1 gf le1 e2 lcs hp3 hp4 hp5 gp5 le5 ho' hlen; omega), ?_⟩⟩
      rw [nums_app]
      refine hk _ _ ⟨os ++ [o], _, _, rfl, gle_put le5 hp, updG_same, by rw [List.length_append, hl]; rfl, fun x hx => ?_⟩
      rcases List.mem_append.mp hx with hx | hx
      · exact ho x hx
      · rw [List.mem_singleton.mp hx]; exact ho'
theorem lt_noz {x : O} : ∀ {a : O}, O.Lt x a → O.Lt x (O.filt (fun y _ => decide (¬ y = .z)) a)
  | .z, _ => trivial
  | .c y n r, h => by
    rw [O.filt_c]
    split
    · exact ⟨h.1, lt_noz h.2⟩
    · exact lt_noz h.2
/-- without the whole part, and a whole part put behind -/
theorem nf_whole {n : Int} (hn : 1 ≤ n) : ∀ {a : O}, a.NF → O.NF (O.app (O.filt (fun y _ => decide (¬ y = .z)) a) (.c .z n .z))
  | .z, _ => ⟨trivial, hn, trivial, trivial⟩
  | .c y m r, h => by
    rw [O.filt_c]
    split
    · rename_i hy
      have hy' : y ≠ .z := by simpa using hy
      have : O.cmp .z y < 0 := O.z_lt hy'
      exact ⟨h.1, h.2.1, O.Lt.app (lt_noz h.2.2.1) ⟨this, trivial⟩, nf_whole hn h.2.2.2⟩
    · exact nf_whole hn h.2.2.2
theorem short_lim {a : O} (ha : Lim 4 3 (10 ^ 40) a) : Lim 4 4 (10 ^ 40) (O.app (O.lim a) (O.wh (O.same .z a % 3))) ∧ O.same .z (O.app (O.lim a) (O.wh (O.same .z a % 3))) ≤ 2 := by
  have h1 := ha.dp
  have h2 := ha.hw
  have h3 := ha.mx
  have hm0 := Int.emod_nonneg (O.same .z a) (show (3 : Int) ≠ 0 by (clear ha h1 h2 h3; omega))
  have hm1 := Int.emod_lt_of_pos (O.same .z a) (show (0 : Int) < 3 by (clear ha h1 h2 h3 hm0; omega))
  have l1 : (O.lim a).dp ≤ a.dp := O.dp_filt _ a
  have l2 : O.hw (O.lim a) ≤ O.hw a := O.hw_filt _ a
  have l3 : O.mx (O.lim a) ≤ O.mx a := O.mx_filt _ a
  have l4 : (O.lim a).len ≤ a.len := len_filt _ a
  have l5 := O.hw_app (O.lim a) (O.wh (O.same .z a % 3))
  have l6 := O.len_le_hw a
  obtain ⟨w1, w2, w3, w4⟩ := wh_more hm0
  have w5 := O.len_le_hw (O.lim a)
  have hd : O.dp (O.app (O.lim a) (O.wh (O.same .z a % 3))) ≤ 4 := by rw [O.dp_app]; (clear ha h2 h3 hm0 hm1 l2 l3 l4 l5 l6 w2 w3 w4 w5; omega)
  have hx : O.mx (O.app (O.lim a) (O.wh (O.same .z a % 3))) ≤ 10 ^ 40 := by rw [O.mx_app]; (clear ha h1 h2 hm1 l1 l2 l4 l5 l6 w1 w2 w4 w5 hd; omega)
  refine ⟨⟨?_, hd, by (clear ha h1 h3 hm0 hm1 l1 l3 l4 l6 w1 w3 hd hx; omega), hx⟩, ?_⟩
  · by_cases h0 : O.same .z a % 3 = 0
    · rw [h0, O.wh_0, O.app_z]; exact ha.nf.filt _
    · rw [O.wh_pos (by (clear ha h1 h2 h3 hm1 l1 l2 l3 l4 l5 l6 w1 w2 w3 w4 w5 hd hx; omega))]; exact nf_whole (by (clear ha h1 h2 h3 hm1 l1 l2 l3 l4 l5 l6 w1 w2 w3 w4 w5 hd hx; omega)) ha.nf
  · have e1 : O.same .z (O.lim a) = 0 := by rw [O.same_lim, if_pos rfl]
    rw [O.same_app, e1]
    by_cases h0 : O.same .z a % 3 = 0
    · rw [h0]; show (0 : Int) + 0 ≤ 2; (clear ha h1 h2 h3 hm0 hm1 l1 l2 l3 l4 l5 l6 w1 w2 w3 w4 w5 hd hx e1 h0; omega)
    · rw [(O.lim_wh (by (clear ha h1 h2 h3 hm1 l1 l2 l3 l4 l5 l6 w1 w2 w3 w4 w5 hd hx e1; omega))).2]; (clear ha h1 h2 h3 hm1 l1 l2 l3 l4 l5 l6 w1 w2 w3 w4 w5 hd hx e1 h0; omega)
noncomputable def spSh : WSp := fun ws G q _ => ∃ a : O, ws = [.tup (encP a)] ∧ Lim 4 3 (10 ^ 40) a ∧ ∀ o : O, Lim 4 4 (10 ^ 40) o → O.same .z o ≤ 2 → q (.tup (encP o)) G
theorem scSh : FnScope ["_law_number_here"] ["_law_number_here"] (defScope (top 37)) := ⟨rfl, rfl, rfl, by decide +kernel, rfl, by decide +kernel, by decide +kernel⟩
theorem fnSh (F : Fun K "_law_short" "_law_short" (top 37) f fd) (ml : mg "len" = none) : WFn P w K mg base 1 f fd ["_law_number_here"] spSh := by
  have nd := scSh.nd
  refine fn3 F scSh (fun ws G q e h => by obtain ⟨_, rfl, _⟩ := h; rfl) (fun cdv A outer s H E hr => ?_)
  apply bodyOf
  · exact (qss_cons (qs_if (qt_w (qw_or (qt_cmp (q_eq4 hr) (qe_callB q_len rfl ml PySem.boot_len (qa_cons (qe_var 0 rfl (.inl rfl)) qa_nil)) qe_int (nomark _)) (qw_or1 (qt_cmp (q_ne4 hr) (qe_ix q_ix (qe_ix q_ix (qe_var 0 rfl (.inl rfl)) (qe_neg qe_int) (fun _ _ => rfl)) qe_int (fun _ _ => rfl)) (qe_tup qa_nil) (nomark _))))) (qss_cons (qs_ret (qe_var 0 rfl (.inl rfl))) qss_nil) qss_nil) (qss_cons (qs_if (qt_cmp (q_eq4 hr) (qe_op q_mod (qe_ix q_ix (qe_ix q_ix (qe_var 0 rfl (.inl rfl)) (qe_neg qe_int) (fun _ _ => rfl)) qe_int (fun _ _ => rfl)) qe_int) qe_int (nomark _)) (qss_cons (qs_ret (qe_slice (qe_var 0 rfl (.inl rfl)) qo_none (qo_some (qe_neg qe_int)))) qss_nil) qss_nil) (qss_cons (qs_ret (qe_op q_add (qe_slice (qe_var 0 rfl (.inl rfl)) qo_none (qo_some (qe_neg qe_int))) (qe_tup (qa_cons (qe_tup (qa_cons (qe_tup qa_nil) (qa_cons (qe_op q_mod (qe_ix q_ix (qe_ix q_ix (qe_var 0 rfl (.inl rfl)) (qe_neg qe_int) (fun _ _ => rfl)) qe_int (fun _ _ => rfl)) qe_int) qa_nil))) qa_nil)))) qss_nil)))
  · rintro ws G q e ⟨a, rfl, ha, hq⟩
    have na := ha.nf
    have hda := ha.dp
    obtain ⟨s1, s2⟩ := short_lim ha
    have hq := hq _ s1 s2
    have plain : O.same .z a = 0 → q (.tup (encP a)) G := fun h => by
      rw [h, show (0 : Int) % 3 = 0 from rfl, O.wh_0, O.app_z, show O.lim a = a from no_whole na h] at hq
      exact hq
    refine seqU fun U hU => ?_
    walk_at "R"
    rw [encP_length]
    by_cases hz : a = .z
    · subst hz
      rw [if_pos (show ((O.len .z : Nat) : Int) = 0 from rfl)]
      exact GLe.done (plain rfl)
    · have hl : ¬ (a.len : Int) = 0 := by
        cases a with
        | z => exact absurd rfl hz
        | c _ _ _ => simp only [O.len]; (clear F ml nd hr hU ha na hda s1 s2 hq plain hz; omega)
      rw [if_neg hl]
      obtain ⟨x, n, h1, h2⟩ := last_c hz
      have hw := last_whole na h1
      have hs := O.getP_size h2
      have hdx := tup_dep x
      have h3 := encP_at_last h2
      unfold prt enc at h3
      refine ⟨_, h3, ?_⟩
      walk_at "R"
      refine ⟨tup_flat x, by (clear F ml nd hr ha na s1 s2 hq plain hU hz hl h1 h2 hw h3; omega), ?_⟩
      rw [tup_nil_eq]
      by_cases hx : x = .z
      · rw [if_neg (by simpa using hx)]
        rw [if_pos hx] at hw
        have n1 : 1 ≤ n := (O.getP_NF na h2).2
        have e1 : O.lim a = O.init a := with_whole na (by (clear F ml nd hr ha na hda s1 s2 hq plain hU hz hl h1 h2 hs hdx h3 hx; omega))
        rw [e1, hw] at hq
        subst hx
        subst hU
        refine seqU fun U hU => ?_
        walk_at "R"
        refine ⟨_, h3, ?_⟩
        walk_at "R"
        split
        · rename_i h0
          rw [cut_init]
          rw [h0, O.wh_0, O.app_z] at hq
          exact GLe.done hq
        · rename_i h0
          subst hU
          walk_at "R"
          refine ⟨_, h3, ?_⟩
          walk_at "R"
          rw [cut_init]
          have l4 : (O.init a).len ≤ a.len := by rw [← e1]; exact len_filt _ a
          have l5 := O.len_le_hw a
          have l6 := ha.hw
          refine ⟨by rw [encP_length]; (clear F ml nd hr ha na hda s1 s2 plain hz hl hq hw n1 e1 h1 h2 hs hdx h3 h0; omega), GLe.done ?_⟩
          rw [O.wh_pos (by (clear F ml nd hr ha na hda s1 s2 plain hz hl hq hw n1 e1 h1 h2 hs hdx h3 l4 l5 l6; omega)), encP_app] at hq
          exact hq
      · rw [if_pos (by simpa using hx)]
        rw [if_neg hx] at hw
        exact GLe.done (plain hw)

/-! sums -/
noncomputable def spTt : WSp := fun ws G q _ => ∃ (p : Addr) (os : List O), ws = [.ref p] ∧ G p = some (.lst (nums os)) ∧ os.length ≤ 20 ∧ (∀ o, o ∈ os → o.NF ∧ o.dp ≤ 10 ∧ O.hw o ≤ 20) ∧ q (.tup (encP (sumR os))) G
theorem scTt : FnScope ["some", "found", "number"] ["some"] (defScope (top 16)) := ⟨rfl, rfl, rfl, by decide +kernel, rfl, by decide +kernel, by decide +kernel⟩
theorem fnTt (F : Fun K "total" "total" (top 16) f fd) (F1 : Fx P w K mg base "plus" ["a", "b"] 3 spPs) : WFn P w K mg base 4 f fd ["some"] spTt := by
  have nd := scTt.nd
  refine fn3 F scTt (fun ws G q e h => by obtain ⟨_, _, rfl, _⟩ := h; rfl) (fun cdv A outer s H E hr => ?_)
  apply bodyOf
  · exact (qss_cons (qs_set 1 nd rfl (.inl rfl) (qe_tup qa_nil)) (qss_cons (qs_for PySem.PassesOwn.never rfl (qi_seq (qe_var 0 rfl (.inl rfl))) (qg_name 2 nd rfl (.inl rfl)) (qss_cons (qs_set 1 nd rfl (.inl rfl) (qe_fxn F1 (Room.mono hr (by omega)) rfl (qa_cons (qe_var 1 rfl (.inl rfl)) (qa_cons (qe_var 2 rfl (.inl rfl)) qa_nil)))) qss_nil)) (qss_cons (qs_ret (qe_var 1 rfl (.inl rfl))) qss_nil)))
  · rintro ws G q e ⟨p, os, rfl, hG, hl, ho, hq⟩
    have hno : ∀ o, o ∈ os → o.NF := fun o h => (ho o h).1
    rw [← sumL_R hno] at hq
    refine seqU fun U hU => ?_
    walk_at "R"
    subst hU
    refine seqU fun U hU => ?_
    walk_at "R"
    refine ⟨_, hG, ?_⟩
    refine loopW_ind (fun ws τ G' => G' = G ∧ ∃ (acc : O) (rs : List O) (t : Option W), ws = nums rs ∧ τ = [some (.ref p), some (.tup (encP acc)), t] ∧ rs.foldl O.plusO acc = sumL os ∧ acc.NF ∧ acc.dp ≤ 10 ∧ O.hw acc + 20 * rs.length ≤ 400 ∧ ∀ o, o ∈ rs → o.NF ∧ o.dp ≤ 10 ∧ O.hw o ≤ 20) ?_ ?_ _ _ _
      ⟨rfl, .z, os, none, rfl, rfl, rfl, trivial, by simp [O.dp], by simp [O.hw]; (clear F F1 nd hr hG ho hq hno hU; omega), ho⟩
    · rintro τ G' ⟨rfl, acc, rs, t, hw, rfl, hf, _, _, _, _⟩
      refine ⟨hG, ?_⟩
      subst hU
      walk_at "R"
      cases rs with
      | nil =>
        rw [List.foldl_nil] at hf
        rw [hf]
        exact GLe.done hq
      | cons _ _ => cases hw
    · rintro w1 ws τ G' kk ⟨rfl, acc, rs, t, hw, rfl, hf, hn, hd, hs, hr⟩ hk
      cases rs with
      | nil => cases hw
      | cons o rs =>
        cases hw
        refine ⟨hG, ?_⟩
        obtain ⟨no, do', so⟩ := hr o List.mem_cons_self
        have l1 := O.len_le_hw o
        have l2 := O.len_le_hw acc
        have d2 := O.dp_plus acc o
        have s2 := O.hw_plus acc o
        simp only [List.length_cons] at hs
        walk_at "R"
        refine ⟨acc, o, rfl, hn, by exact Nat.le_trans (by assumption) (Nat.le_of_ble_eq_true rfl), by exact Nat.le_trans (by assumption) (Nat.le_of_ble_eq_true rfl), by (clear F F1 nd hl ho hno hU hG hq hn hd hf hr hk no do' so l1 d2 s2; omega), by (clear F F1 nd hl ho hno hU hG hq hn hd hf hs hr hk no do' l2 d2 s2; omega), ?_⟩
        exact hk _ _ ⟨rfl, _, rs, _, rfl, rfl, hf, hn.plus no, by (clear F F1 nd hl ho hno hU hG hq hn hf hs hr hk no so l1 l2 s2; omega), by (clear F F1 nd hl ho hno hU hG hq hn hd hf hr hk no do' l1 l2 d2; omega), fun x hx => hr x (List.mem_cons_of_mem _ hx)⟩
noncomputable def lefts (os : List O) (k : Nat) : List O := (List.range (k + 1)).map fun i => sumL (os.take i)
noncomputable def rights (os : List O) (k : Nat) : List O := (List.range (k + 1)).map fun i => sumR (os.drop (os.length - i))
theorem lefts_snoc {os : List O} {k : Nat} {o : O} (h : os[k]? = some o) : lefts os (k + 1) = lefts os k ++ [O.plusO (sumL (os.take k)) o] := by
  unfold lefts
  rw [List.range_succ, List.map_append]
  simp only [List.map_cons, List.map_nil]
  have : os.take (k + 1) = os.take k ++ [o] := by rw [List.take_succ, h]; rfl
  rw [this, sumL_snoc]
theorem rights_snoc {os : List O} {k : Nat} {o : O} (hk : k < os.length) (h : os[os.length - 1 - k]? = some o) : rights os (k + 1) = rights os k ++ [O.plusO o (sumR (os.drop (os.length - k)))] := by
  unfold rights
  rw [List.range_succ, List.map_append]
  simp only [List.map_cons, List.map_nil]
  have e : os.drop (os.length - (k + 1)) = o :: os.drop (os.length - k) := by
    have hlt : os.length - 1 - k < os.length := by (clear h; omega)
    rw [show os.length - (k + 1) = os.length - 1 - k by (clear h hlt; omega), List.drop_eq_getElem_cons hlt]
    rw [List.getElem?_eq_getElem hlt] at h
    injection h with h
    rw [h, show os.length - 1 - k + 1 = os.length - k by (clear hlt h; omega)]
  rw [e]
  rfl
theorem lefts_len (os : List O) (k : Nat) : (lefts os k).length = k + 1 := by unfold lefts; rw [List.length_map, List.length_range]
theorem rights_len (os : List O) (k : Nat) : (rights os k).length = k + 1 := by unfold rights; rw [List.length_map, List.length_range]
theorem lefts_at {os : List O} {k i : Nat} (h : i ≤ k) : (lefts os k)[i]? = some (sumL (os.take i)) := by
  unfold lefts
  rw [List.getElem?_map, List.getElem?_range (by omega)]
  rfl
theorem rights_at {os : List O} {i : Nat} (h : i ≤ os.length) : ((rights os os.length).reverse)[i]? = some (sumR (os.drop i)) := by
  rw [List.getElem?_reverse (by rw [rights_len]; omega), rights_len]
  unfold rights
  rw [List.getElem?_map, List.getElem?_range (by omega)]
  show some (sumR (os.drop (os.length - (os.length + 1 - 1 - i)))) = _
  rw [show os.length - (os.length + 1 - 1 - i) = i by omega]
theorem nums_rev (os : List O) : (nums os).reverse = nums os.reverse := by unfold nums; rw [List.map_reverse]
noncomputable def spSu : WSp := fun ws G q _ => ∃ (p : Addr) (os : List O), ws = [.ref p] ∧ G p = some (.lst (nums os)) ∧ os.length ≤ 20 ∧ (∀ o, o ∈ os → Lim 4 3 (10 ^ 40) o) ∧ q (.bl true) G
theorem scSu : FnScope ["_law_numbers_here", "_law_lefts", "_law_number_here", "_law_rights", "_law_every", "_law_k", "_law_due"] ["_law_numbers_here"] (defScope (top 38)) := ⟨rfl, rfl, rfl, by decide +kernel, rfl, by decide +kernel, by decide +kernel⟩
theorem fnSu (F : Fun K "_law_sums" "_law_sums" (top 38) f fd) (F1 : Fx P w K mg base "plus" ["a", "b"] 3 spPs) (F2 : Fx P w K mg base "total" ["some"] 4 spTt) (F3 : Fx P w K mg base "minus" ["a", "b"] 2 spMi) (F4 : Fx P w K mg base "_law_order" ["_law_one", "_law_other"] 60 (spOr 60)) (ml : mg "len" = none) (mr : mg "range" = none) (mv : mg "reversed" = none) (mi : mg "int" = none) : WFn P w K mg base 61 f fd ["_law_numbers_here"] spSu := by
  have nd := scSu.nd
  refine fn3 F scSu (fun ws G q e h => by obtain ⟨_, _, rfl, _⟩ := h; rfl) (fun cdv A outer s H E hr => ?_)
  apply bodyOf
  · exact (qss_cons (qs_set 1 nd rfl (.inl rfl) (qe_lst (qa_cons (qe_tup qa_nil) qa_nil))) (qss_cons (qs_for PySem.PassesOwn.never rfl (qi_seq (qe_var 0 rfl (.inl rfl))) (qg_name 2 nd rfl (.inl rfl)) (qss_cons (qs_expr (qe_app (qe_var 1 rfl (.inl rfl)) (qe_fxn F1 (Room.mono hr (by omega)) rfl (qa_cons (qe_ix q_ix (qe_var 1 rfl (.inl rfl)) (qe_neg qe_int) (fun _ _ => rfl)) (qa_cons (qe_var 2 rfl (.inl rfl)) qa_nil))))) qss_nil)) (qss_cons (qs_set 3 nd rfl (.inl rfl) (qe_lst (qa_cons (qe_tup qa_nil) qa_nil))) (qss_cons (qs_for PySem.PassesOwn.never rfl (qi_revL rfl mv (qa_cons (qe_var 0 rfl (.inl rfl)) qa_nil)) (qg_name 2 nd rfl (.inl rfl)) (qss_cons (qs_expr (qe_app (qe_var 3 rfl (.inl rfl)) (qe_fxn F1 (Room.mono hr (by omega)) rfl (qa_cons (qe_var 2 rfl (.inl rfl)) (qa_cons (qe_ix q_ix (qe_var 3 rfl (.inl rfl)) (qe_neg qe_int) (fun _ _ => rfl)) qa_nil))))) qss_nil)) (qss_cons (qs_set 3 nd rfl (.inl rfl) (qe_rev (qe_var 3 rfl (.inl rfl)))) (qss_cons (qs_set 4 nd rfl (.inl rfl) (qe_fxn F2 (Room.mono hr (by omega)) rfl (qa_cons (qe_var 0 rfl (.inl rfl)) qa_nil))) (qss_cons (qs_for PySem.PassesOwn.never rfl (qi_range rfl mr (qa_cons (qe_callB q_len rfl ml PySem.boot_len (qa_cons (qe_var 1 rfl (.inl rfl)) qa_nil)) qa_nil)) (qg_name 5 nd rfl (.inl rfl)) (qss_cons (qs_if (qt_cmp (q_ne4 hr) (qe_fxn F1 (Room.mono hr (by omega)) rfl (qa_cons (qe_ix q_ix (qe_var 1 rfl (.inl rfl)) (qe_var 5 rfl (.inl rfl)) (fun _ _ => rfl)) (qa_cons (qe_ix q_ix (qe_var 3 rfl (.inl rfl)) (qe_var 5 rfl (.inl rfl)) (fun _ _ => rfl)) qa_nil))) (qe_var 4 rfl (.inl rfl)) (nomark _)) (qss_cons (qs_ret qe_bl) qss_nil) qss_nil) (qss_cons (qs_if (qt_cmp (q_ne4 hr) (qe_fxn F3 (Room.mono hr (by omega)) rfl (qa_cons (qe_var 4 rfl (.inl rfl)) (qa_cons (qe_ix q_ix (qe_var 1 rfl (.inl rfl)) (qe_var 5 rfl (.inl rfl)) (fun _ _ => rfl)) qa_nil))) (qe_ix q_ix (qe_var 3 rfl (.inl rfl)) (qe_var 5 rfl (.inl rfl)) (fun _ _ => rfl)) (nomark _)) (qss_cons (qs_ret qe_bl) qss_nil) qss_nil) (qss_cons (qs_if (qt_cmp q_gt (qe_var 5 rfl (.inl rfl)) qe_int (nomark _)) (qss_cons (qs_set 6 nd rfl (.inl rfl) (qe_neg (qe_callTy q_int rfl mi PyProof.Rows.boot_int (qa_cons (qe_cmp (q_ne4 hr) (qe_ix q_ix (qe_var 0 rfl (.inl rfl)) (qe_op q_sub (qe_var 5 rfl (.inl rfl)) qe_int) (fun _ _ => rfl)) (qe_tup qa_nil) (nomark _)) qa_nil)))) (qss_cons (qs_if (qt_cmp (q_ne4 hr) (qe_fxn F4 (Room.mono hr (by omega)) rfl (qa_cons (qe_ix q_ix (qe_var 1 rfl (.inl rfl)) (qe_op q_sub (qe_var 5 rfl (.inl rfl)) qe_int) (fun _ _ => rfl)) (qa_cons (qe_ix q_ix (qe_var 1 rfl (.inl rfl)) (qe_var 5 rfl (.inl rfl)) (fun _ _ => rfl)) qa_nil))) (qe_var 6 rfl (.inl rfl)) (nomark _)) (qss_cons (qs_ret qe_bl) qss_nil) qss_nil) qss_nil)) qss_nil) qss_nil)))) (qss_cons (qs_if (qt_cmp (q_ne4 hr) (qe_ix q_ix (qe_var 3 rfl (.inl rfl)) qe_int (fun _ _ => rfl)) (qe_var 4 rfl (.inl rfl)) (nomark _)) (qss_cons (qs_ret qe_bl) qss_nil) qss_nil) (qss_cons (qs_ret (qe_cmp (q_eq4 hr) (qe_ix q_ix (qe_var 1 rfl (.inl rfl)) (qe_neg qe_int) (fun _ _ => rfl)) (qe_var 4 rfl (.inl rfl)) (nomark _))) qss_nil)))))))))
  · rintro ws G q e ⟨p, os, rfl, hG, hl, ho, hq⟩
    have hno : ∀ o, o ∈ os → o.NF := fun o h => (ho o h).nf
    have hR : ∀ k, Lim 4 60 (10 ^ 42) (sumR (os.drop k)) := fun k => by
      have h := sumR_lim (os := os.drop k) (by decide) fun o h => ho o (List.mem_of_mem_drop h)
      have l : (os.drop k).length ≤ 20 := by rw [List.length_drop]; (clear F F1 F2 F3 F4 ml mr mv mi nd hr hG ho hq hno h; omega)
      exact ⟨h.nf, h.dp, by have := h.hw; (clear F F1 F2 F3 F4 ml mr mv mi nd hr hG hl ho hq hno h; omega), by have := h.mx; (clear F F1 F2 F3 F4 ml mr mv mi nd hr hG hl ho hq hno h; omega)⟩
    have hL : ∀ k, Lim 4 60 (10 ^ 42) (sumL (os.take k)) := fun k => by
      have h := sumR_lim (os := os.take k) (by decide) fun o h => ho o (List.mem_of_mem_take h)
      have l : (os.take k).length ≤ 20 := by rw [List.length_take]; (clear F F1 F2 F3 F4 ml mr mv mi nd hr hG ho hq hno hR h; omega)
      rw [sumL_R fun o h => hno o (List.mem_of_mem_take h)]
      exact ⟨h.nf, h.dp, by have := h.hw; (clear F F1 F2 F3 F4 ml mr mv mi nd hr hG hl ho hq hno hR h; omega), by have := h.mx; (clear F F1 F2 F3 F4 ml mr mv mi nd hr hG hl ho hq hno hR h; omega)⟩
    refine seqU fun U hU => ?_
    walk_at "R"
    intro p1 hp1
    have g1 : updG G p1 (GO.lst [W.tup []]) p1 = some (.lst (nums (lefts os 0))) := updG_same
    have gp := updG_ne' (g := GO.lst [W.tup []]) hG hp1
    have le1 : GLe G (updG G p1 (GO.lst [W.tup []])) := GLe.new hp1
    have hne1 : p1 ≠ p := fun z => by rw [z, hG] at hp1; cases hp1
    generalize updG G p1 (GO.lst [W.tup []]) = G1 at g1 gp le1 ⊢
    subst hU
    refine seqU fun U hU => ?_
    walk_at "R"
    refine ⟨_, gp, ?_⟩
    refine loopW_ind (fun ws τ G' => ∃ (k : Nat) (t2 : Option W), k ≤ os.length ∧ ws = nums (os.drop k) ∧ τ = [some (.ref p), some (.ref p1), t2, none, none, none, none] ∧ GLe G G' ∧ G' p = some (.lst (nums os)) ∧ G' p1 = some (.lst (nums (lefts os k)))) ?_ ?_ _ _ _ ⟨0, none, Nat.zero_le _, rfl, rfl, le1, gp, g1⟩
    · rintro τ G' ⟨k, t2, hk, hw, rfl, le, gp, g1⟩
      refine ⟨gp, ?_⟩
      have hkn : k = os.length := by
        rcases Nat.lt_or_ge k os.length with h | h
        · rw [List.drop_eq_getElem_cons h] at hw; cases hw
        · (clear F F1 F2 F3 F4 ml mr mv mi nd hr hG hl ho hq hno hR hL hp1 hne1 le1 hU hw le gp g1; omega)
      subst hkn
      subst hU
      dsimp only
      refine seqU fun U hU => ?_
      walk_at "R"
      intro p2 hp2
      have hne2 : p2 ≠ p := fun z => by rw [z, gp] at hp2; cases hp2
      have hne3 : p2 ≠ p1 := fun z => by rw [z, g1] at hp2; cases hp2
      have g2 : updG G' p2 (GO.lst [W.tup []]) p2 = some (.lst (nums (rights os 0))) := by
        have e : rights os 0 = [.z] := by unfold rights; simp [sumR]
        rw [updG_same, e]; rfl
      have gp2 := updG_ne' (g := GO.lst [W.tup []]) gp hp2
      have g12 := updG_ne' (g := GO.lst [W.tup []]) g1 hp2
      have le2 : GLe G (updG G' p2 (GO.lst [W.tup []])) := le.trans (GLe.new hp2)
      have hp20 : G p2 = none := fresh_of le hp2
      generalize updG G' p2 (GO.lst [W.tup []]) = G2 at g2 gp2 g12 le2 ⊢
      subst hU
      refine seqU fun U hU => ?_
      walk_at "R"
      refine ⟨_, gp2, ?_⟩
      rw [nums_rev]
      refine loopW_ind (fun ws τ G' => ∃ (k : Nat) (t2 : Option W), k ≤ os.length ∧ ws = nums (os.reverse.drop k) ∧ τ = [some (.ref p), some (.ref p1), t2, some (.ref p2), none, none, none] ∧ GLe G G' ∧ G' p = some (.lst (nums os)) ∧ G' p1 = some (.lst (nums (lefts os os.length))) ∧ G' p2 = some (.lst (nums (rights os k)))) ?_ ?_ _ _ _ ⟨0, _, Nat.zero_le _, rfl, rfl, le2, gp2, g12, g2⟩
      · rintro τ G' ⟨k, t2, hk, hw, rfl, le, gp, g1, g2⟩
        refine ⟨gp, ?_⟩
        have hkn : k = os.length := by
          rcases Nat.lt_or_ge k os.length with h | h
          · rw [List.drop_eq_getElem_cons (by rw [List.length_reverse]; exact h)] at hw; cases hw
          · (clear F F1 F2 F3 F4 ml mr mv mi nd hr hG hl ho hq hno hR hL hp1 hne1 le1 hp2 hne2 hne3 hp20 gp2 g12 le2 hU hw le gp g1 g2; omega)
        subst hkn
        subst hU
        dsimp only
        refine seqU fun U hU => ?_
        walk_at "R"
        refine ⟨_, g2, fun p3 hp3 => ?_⟩
        rw [nums_rev]
        have gp3 := updG_ne' (g := GO.lst (nums (rights os os.length).reverse)) gp hp3
        have g13 := updG_ne' (g := GO.lst (nums (rights os os.length).reverse)) g1 hp3
        have g33 := updG_same (G := G') (a := p3) (g := GO.lst (nums (rights os os.length).reverse))
        have le3 : GLe G (updG G' p3 (GO.lst (nums (rights os os.length).reverse))) := le.trans (GLe.new hp3)
        generalize updG G' p3 (GO.lst (nums (rights os os.length).reverse)) = G3 at gp3 g13 g33 le3 ⊢
        subst hU
        refine seqU fun U hU => ?_
        walk_at "R"
        refine ⟨p, os, rfl, gp3, hl, fun o h => ⟨(ho o h).nf, by have := (ho o h).dp; exact Nat.le_trans (by assumption) (Nat.le_of_ble_eq_true rfl), by have := (ho o h).hw; exact Nat.le_trans (by assumption) (Nat.le_of_ble_eq_true rfl)⟩, ?_⟩
        have eL : sumL (os.take os.length) = sumR os := by rw [List.take_length, sumL_R hno]
        have eR : sumR (os.drop 0) = sumR os := by rw [List.drop_zero]
        have hE := hR 0
        rw [eR] at hE
        have dE := hE.dp
        have wE := hE.hw
        have lE := O.len_le_hw (sumR os)
        have tE := tup_dep (sumR os)
        subst hU
        refine seqU fun U hU => ?_
        walk_at "R"
        refine ⟨_, g13, ?_⟩
        rw [nums_length, lefts_len]
        refine ⟨by omega, by omega, ?_⟩
        have aL : ∀ i : Nat, i ≤ os.length → atI (nums (lefts os os.length)) (i : Int) = some (.tup (encP (sumL (os.take i)))) := fun i hi => atI_nat (nums_get (lefts_at hi))
        have aR : ∀ i : Nat, i ≤ os.length → atI (nums (rights os os.length).reverse) (i : Int) = some (.tup (encP (sumR (os.drop i)))) := fun i hi => atI_nat (nums_get (rights_at hi))
        refine loop_up (os.length + 1) (fun i τ G' => G' = G3 ∧ ∃ t5 t6, τ = [some (.ref p), some (.ref p1), t2, some (.ref p3), some (.tup (encP (sumR os))), t5, t6]) ⟨rfl, _, _, rfl⟩ ?_ ?_
        · rintro τ G' ⟨rfl, t5, t6, rfl⟩
          refine ⟨trivial, ?_⟩
          subst hU
          dsimp only
          refine seqU fun U hU => ?_
          walk_at "R"
          refine ⟨_, _, g33, aR 0 (Nat.zero_le _), ?_⟩
          rw [eR]
          walk_at "R"
          refine ⟨tup_flat _, tup_flat _, by (clear F F1 F2 F3 F4 ml mr mv mi nd hr hG hl ho hq hno hR hL hp1 hne1 le1 hp2 hne2 hne3 hp20 gp2 g12 le2 le gp g1 hk hw g2 hp3 eL eR hE wE lE aL aR gp3 g13 g33 le3 hU; omega), ?_⟩
          rw [tup_eq, if_neg (by simp)]
          subst hU
          walk_at "R"
          refine ⟨_, _, g13, atI_neg1 (by rw [nums_length, lefts_len]; exact nums_get (lefts_at (Nat.le_refl _))), ?_⟩
          rw [show os.length + 1 - 1 = os.length from rfl, eL]
          walk_at "R"
          refine ⟨tup_flat _, tup_flat _, by (clear F F1 F2 F3 F4 ml mr mv mi nd hr hG hl ho hq hno hR hL hp1 hne1 le1 hp2 hne2 hne3 hp20 gp2 g12 le2 le gp g1 hk hw g2 hp3 eL eR hE wE lE aL aR gp3 g13 g33 le3; omega), ?_⟩
          rw [tup_eq, decide_eq_true rfl]
          exact ⟨G, le3, hq⟩
        · rintro i τ G' kk hi ⟨rfl, t5, t6, rfl⟩ hk
          refine ⟨trivial, ?_⟩
          have hLi := hL i
          have hRi := hR i
          have l1 := hLi.dp
          have l2 := hLi.hw
          have l3 := O.len_le_hw (sumL (os.take i))
          have l4 := tup_dep (sumL (os.take i))
          have r1 := hRi.dp
          have r2 := hRi.hw
          have r3 := O.len_le_hw (sumR (os.drop i))
          have r4 := tup_dep (sumR (os.drop i))
          have cut := sum_cut hno i
          rw [sumL_R hno] at cut
          obtain ⟨mc1, mc2⟩ := minus_cut hE.nf hLi.nf hRi.nf cut
          have d1 := O.dp_plus (sumL (os.take i)) (sumR (os.drop i))
          refine seqU fun U1 hU1 => ?_
          walk_at "R"
          refine ⟨_, _, g13, aL i (by (clear F F1 F2 F3 F4 ml mr mv mi nd hr hG hl ho hq hno hR hL hp1 hne1 le1 hp2 hne2 hne3 hp20 gp2 g12 le2 le gp g1 hw g2 hp3 eL eR hE dE wE lE tE hU aL aR gp3 g13 g33 le3 hk hLi hRi l1 l2 l3 l4 r1 r2 r3 r4 cut mc1 mc2 d1 hU1; omega)), _, _, g33, aR i (by (clear F F1 F2 F3 F4 ml mr mv mi nd hr hG hl ho hq hno hR hL hp1 hne1 le1 hp2 hne2 hne3 hp20 gp2 g12 le2 le gp g1 hw g2 hp3 eL eR hE dE wE lE tE hU aL aR gp3 g13 g33 le3 hk hLi hRi l1 l2 l3 l4 r1 r2 r3 r4 cut mc1 mc2 d1 hU1; omega)), ?_⟩
          refine ⟨_, _, rfl, hLi.nf, by exact Nat.le_trans (by assumption) (Nat.le_of_ble_eq_true rfl), by exact Nat.le_trans (by assumption) (Nat.le_of_ble_eq_true rfl), by (clear F F1 F2 F3 F4 ml mr mv mi nd hr hG hl ho hq hno hR hL hp1 hne1 le1 hp2 hne2 hne3 hp20 gp2 g12 le2 le gp g1 hw g2 hp3 eL eR hE dE wE lE tE hU aL aR hi gp3 g13 g33 le3 hk hLi hRi l1 l4 r1 r2 r3 r4 cut mc1 mc2 d1 hU1; omega), by (clear F F1 F2 F3 F4 ml mr mv mi nd hr hG hl ho hq hno hR hL hp1 hne1 le1 hp2 hne2 hne3 hp20 gp2 g12 le2 le gp g1 hw g2 hp3 eL eR hE dE wE lE tE hU aL aR hi gp3 g13 g33 le3 hk hLi hRi l1 l2 l3 l4 r1 r4 cut mc1 mc2 d1 hU1; omega), ?_⟩
          rw [cut]
          walk_at "R"
          refine ⟨tup_flat _, tup_flat _, by (clear F F1 F2 F3 F4 ml mr mv mi nd hr hG hl ho hq hno hR hL hp1 hne1 le1 hp2 hne2 hne3 hp20 gp2 g12 le2 le gp g1 hw g2 hp3 eL eR hE wE lE hU aL aR hi gp3 g13 g33 le3 hk hLi hRi l1 l2 l3 l4 r1 r2 r3 r4 cut mc1 mc2 d1 hU1; omega), ?_⟩
          rw [tup_eq, if_neg (by simp)]
          subst hU1
          refine seqU fun U1 hU1 => ?_
          walk_at "R"
          refine ⟨_, _, g13, aL i (by (clear F F1 F2 F3 F4 ml mr mv mi nd hr hG hl ho hq hno hR hL hp1 hne1 le1 hp2 hne2 hne3 hp20 gp2 g12 le2 le gp g1 hw g2 hp3 eL eR hE dE wE lE tE hU aL aR gp3 g13 g33 le3 hk hLi hRi l1 l2 l3 l4 r1 r2 r3 r4 cut mc1 mc2 d1 hU1; omega)), ?_⟩
          refine ⟨_, _, rfl, mc1, by exact Nat.le_trans (by assumption) (Nat.le_of_ble_eq_true rfl), by exact Nat.le_trans (by assumption) (Nat.le_of_ble_eq_true rfl), by (clear F F1 F2 F3 F4 ml mr mv mi nd hr hG hl ho hq hno hR hL hp1 hne1 le1 hp2 hne2 hne3 hp20 gp2 g12 le2 le gp g1 hw g2 hp3 eL eR hE dE tE hU aL aR hi gp3 g13 g33 le3 hk hLi hRi l1 l2 l3 l4 r1 r2 r3 r4 cut mc1 mc2 d1 hU1; omega), ?_⟩
          rw [mc2]
          refine ⟨_, _, g33, aR i (by (clear F F1 F2 F3 F4 ml mr mv mi nd hr hG hl ho hq hno hR hL hp1 hne1 le1 hp2 hne2 hne3 hp20 gp2 g12 le2 le gp g1 hw g2 hp3 eL eR hE dE wE lE tE hU aL aR gp3 g13 g33 le3 hk hLi hRi l1 l2 l3 l4 r1 r2 r3 r4 cut mc1 mc2 d1 hU1; omega)), ?_⟩
          walk_at "R"
          refine ⟨tup_flat _, tup_flat _, by (clear F F1 F2 F3 F4 ml mr mv mi nd hr hG hl ho hq hno hR hL hp1 hne1 le1 hp2 hne2 hne3 hp20 gp2 g12 le2 le gp g1 hw g2 hp3 eL eR hE dE wE lE tE hU aL aR hi gp3 g13 g33 le3 hk hLi hRi l1 l2 l3 l4 r2 r3 cut mc1 mc2 d1 hU1; omega), ?_⟩
          rw [tup_eq, if_neg (by simp)]
          subst hU1
          walk_at "R"
          split
          · rename_i h0
            obtain ⟨j, rfl⟩ : ∃ j, i = j + 1 := ⟨i - 1, by (clear F F1 F2 F3 F4 ml mr mv mi nd hr hG hl ho hq hno hR hL hp1 hne1 le1 hp2 hne2 hne3 hp20 gp2 g12 le2 le gp g1 hw g2 hp3 eL eR hE dE wE lE tE hU aL aR hi gp3 g13 g33 le3 hk hLi hRi l1 l2 l3 l4 r1 r2 r3 r4 cut mc1 mc2 d1; omega)⟩
            have hj : j < os.length := by (clear F F1 F2 F3 F4 ml mr mv mi nd hr hG hl ho hq hno hR hL hp1 hne1 le1 hp2 hne2 hne3 hp20 gp2 g12 le2 le gp g1 hw g2 hp3 eL eR hE dE wE lE tE hU aL aR gp3 g13 g33 le3 hk hLi hRi l1 l2 l3 l4 r1 r2 r3 r4 cut mc1 mc2 d1 h0; omega)
            obtain ⟨o, eo⟩ : ∃ o, os[j]? = some o := ⟨_, List.getElem?_eq_getElem hj⟩
            have no := (ho o (List.mem_of_getElem? eo))
            have nd := no.dp
            have od := tup_dep o
            have e1 : ((j + 1 : Nat) : Int) - 1 = (j : Int) := by (clear F F1 F2 F3 F4 ml mr mv mi hr hG hl ho hq hno hR hL hp1 hne1 le1 hp2 hne2 hne3 hp20 gp2 g12 le2 le gp g1 hw g2 hp3 eL eR hE dE wE lE tE hU aL aR gp3 g13 g33 le3 hk hi hLi hRi l1 l2 l3 l4 r1 r2 r3 r4 cut mc1 mc2 d1 h0 hj eo no nd od; omega)
            have hLj := hL j
            have j1 := hLj.dp
            have j2 := hLj.hw
            rw [e1]
            refine ⟨_, _, gp3, atI_nat (nums_get eo), ?_⟩
            walk_at "R"
            refine ⟨tup_flat o, by (clear F F1 F2 F3 F4 ml mr mv mi hr hG hl ho hq hno hR hL hp1 hne1 le1 hp2 hne2 hne3 hp20 gp2 g12 le2 le gp g1 hw g2 hp3 eL eR hE dE wE lE tE hU aL aR gp3 g13 g33 le3 hk hi hLi hRi l1 l2 l3 l4 r1 r2 r3 r4 cut mc1 mc2 d1 h0 hj eo no e1 hLj j1 j2; omega), ?_⟩
            rw [tup_nil_eq]
            have e2 : sumL (os.take (j + 1)) = O.plusO (sumL (os.take j)) o := by
              have : os.take (j + 1) = os.take j ++ [o] := by rw [List.take_succ, eo]; rfl
              rw [this, sumL_snoc]
            have e3 : O.cmp (sumL (os.take j)) (sumL (os.take (j + 1))) = -(if decide (o = O.z) = false then (1 : Int) else 0) := by
              rw [e2, cmp_more hLj.nf no.nf]
              by_cases hz : o = .z
              · rw [if_pos hz, if_neg (by simpa using hz)]; rfl
              · rw [if_neg hz, if_pos (by simpa using hz)]
            refine ⟨_, _, g13, aL j (by (clear F F1 F2 F3 F4 ml mr mv mi hr hG hl ho hq hno hR hL hp1 hne1 le1 hp2 hne2 hne3 hp20 gp2 g12 le2 le gp g1 hw g2 hp3 eL eR hE dE wE lE tE hU aL aR gp3 g13 g33 le3 hk hLi hRi l1 l2 l3 l4 r1 r2 r3 r4 cut mc1 mc2 d1 h0 hj eo no nd od e1 hLj j1 j2 e2 e3; omega)), _, _, g13, aL (j + 1) (by assumption), _, _, rfl, by (clear F F1 F2 F3 F4 ml mr mv mi hr hG hl ho hq hno hR hL hp1 hne1 le1 hp2 hne2 hne3 hp20 gp2 g12 le2 le gp g1 hw g2 hp3 eL eR hE dE wE lE tE hU aL aR gp3 g13 g33 le3 hk hi hLi hRi l1 l2 l3 l4 r1 r2 r3 r4 cut mc1 mc2 d1 h0 hj eo no nd od e1 hLj j2 e2 e3; omega), by exact Nat.le_trans (by assumption) (Nat.le_of_ble_eq_true rfl), by exact Nat.le_trans (by assumption) (Nat.le_of_ble_eq_true rfl), ?_⟩
            rw [e3]
            walk_at "R"
            exact hk _ _ ⟨rfl, _, _, rfl⟩
          · exact hk _ _ ⟨rfl, _, _, rfl⟩
      · rintro w1 ws τ G' kk ⟨k, t2, hk, hw, rfl, le, gp, g1, g2⟩ hkk
        have hlt : k < os.length := by
          rcases Nat.lt_or_ge k os.length with h | h
          · exact h
          · rw [List.drop_of_length_le (by rw [List.length_reverse]; exact h)] at hw; cases hw
        rw [List.drop_eq_getElem_cons (by rw [List.length_reverse]; exact hlt)] at hw
        obtain ⟨o, eo⟩ : ∃ o, os[os.length - 1 - k]? = some o := ⟨_, List.getElem?_eq_getElem (by (clear F F1 F2 F3 F4 ml mr mv mi nd hr hG hl ho hq hno hR hL hp1 hne1 le1 hp2 hne2 hne3 hp20 gp2 g12 le2 hU hk le gp g1 g2 hkk hw; omega))⟩
        have eo2 : os.reverse[k]'(by rw [List.length_reverse]; exact hlt) = o := by
          have := List.getElem?_reverse (l := os) hlt
          rw [eo, List.getElem?_eq_getElem (by rw [List.length_reverse]; exact hlt)] at this
          injection this
        rw [eo2] at hw
        cases hw
        refine ⟨gp, ?_⟩
        have no := (ho o (List.mem_of_getElem? eo))
        have nd := no.dp
        have nw := no.hw
        have ln := O.len_le_hw o
        have hr := hR (os.length - k)
        have rd := hr.dp
        have rw' := hr.hw
        have rl := O.len_le_hw (sumR (os.drop (os.length - k)))
        have hat : atI (nums (rights os k)) (-1) = some (.tup (encP (sumR (os.drop (os.length - k))))) := atI_neg1 (by
          rw [nums_length, rights_len]
          refine nums_get ?_
          unfold rights
          rw [List.getElem?_map, List.getElem?_range (by (clear F F1 F2 F3 F4 ml mr mv mi hG hl ho hq hno hR hL hp1 hne1 le1 hw hp2 hne2 hne3 hp20 gp2 g12 le2 hU hk le gp g1 g2 hlt eo eo2 hkk no nd nw ln hr rd rw' rl; omega))]
          rfl)
        walk_at "R"
        refine ⟨⟨_, g2⟩, _, _, g2, hat, ?_⟩
        refine ⟨_, _, rfl, no.nf, by exact Nat.le_trans (by assumption) (Nat.le_of_ble_eq_true rfl), by exact Nat.le_trans (by assumption) (Nat.le_of_ble_eq_true rfl), by (clear F F1 F2 F3 F4 ml mr mv mi hG hl ho hq hno hR hL hp1 hne1 le1 hw hp2 hne2 hne3 hp20 gp2 g12 le2 hU hk le gp g1 g2 hlt eo eo2 hkk no nd hr rd rw' rl hat; omega), by (clear F F1 F2 F3 F4 ml mr mv mi hG hl ho hq hno hR hL hp1 hne1 le1 hw hp2 hne2 hne3 hp20 gp2 g12 le2 hU hk le gp g1 g2 hlt eo eo2 hkk no nd nw ln hr rd hat; omega), _, g2, by rw [nums_length, rights_len]; (clear F F1 F2 F3 F4 ml mr mv mi hG ho hq hno hR hL hp1 hne1 le1 hw hp2 hne2 hne3 hp20 gp2 g12 le2 hU hk le gp g1 g2 eo eo2 hkk no nd nw ln hr rd rw' rl hat; omega), ?_⟩
        rw [nums_app, ← rights_snoc hlt eo]
        exact hkk _ _ ⟨k + 1, _, hlt, rfl, rfl, gle_put le hp20, updG_ne (Ne.symm hne2) ▸ gp, updG_ne (Ne.symm hne3) ▸ g1, updG_same⟩
    · rintro w1 ws τ G' kk ⟨k, t2, hk, hw, rfl, le, gp, g1⟩ hkk
      have hlt : k < os.length := by
        rcases Nat.lt_or_ge k os.length with h | h
        · exact h
        · rw [List.drop_of_length_le h] at hw; cases hw
      rw [List.drop_eq_getElem_cons hlt] at hw
      obtain ⟨o, eo⟩ : ∃ o, os[k]? = some o := ⟨_, List.getElem?_eq_getElem hlt⟩
      have eo2 : os[k] = o := by rw [List.getElem?_eq_getElem hlt] at eo; injection eo
      rw [eo2] at hw
      cases hw
      refine ⟨gp, ?_⟩
      have no := (ho o (List.mem_of_getElem? eo))
      have nd := no.dp
      have nw := no.hw
      have ln := O.len_le_hw o
      have hr := hL k
      have rd := hr.dp
      have rw' := hr.hw
      have rl := O.len_le_hw (sumL (os.take k))
      have hat : atI (nums (lefts os k)) (-1) = some (.tup (encP (sumL (os.take k)))) := atI_neg1 (by
        rw [nums_length, lefts_len]
        exact nums_get (lefts_at (by (clear F F1 F2 F3 F4 ml mr mv mi hG hl ho hq hno hR hL hp1 hne1 le1 hU hk le gp g1 hlt eo eo2 hkk no nd nw ln hr rd rw' rl; omega))))
      walk_at "R"
      refine ⟨⟨_, g1⟩, _, _, g1, hat, ?_⟩
      refine ⟨_, _, rfl, hr.nf, by exact Nat.le_trans (by assumption) (Nat.le_of_ble_eq_true rfl), by exact Nat.le_trans (by assumption) (Nat.le_of_ble_eq_true rfl), by (clear F F1 F2 F3 F4 ml mr mv mi hG hl ho hq hno hR hL hp1 hne1 le1 hU hk le gp g1 hlt eo eo2 hkk no nd nw ln hr rd hat; omega), by (clear F F1 F2 F3 F4 ml mr mv mi hG hl ho hq hno hR hL hp1 hne1 le1 hU hk le gp g1 hlt eo eo2 hkk no nd hr rd rw' rl hat; omega), _, g1, by rw [nums_length, lefts_len]; (clear F F1 F2 F3 F4 ml mr mv mi hG ho hq hno hR hL hp1 hne1 le1 hU hk le gp g1 eo eo2 hkk no nd nw ln hr rd rw' rl hat; omega), ?_⟩
      rw [nums_app, ← lefts_snoc eo]
      exact hkk _ _ ⟨k + 1, _, hlt, rfl, rfl, gle_put le hp1, updG_ne (Ne.symm hne1) ▸ gp, updG_same⟩

/-! products -/
theorem filter_nums (os : List O) : ((nums os).filter fun w => !(w.eq (.tup []))).map id = nums (os.filter fun o => decide (¬ o = .z)) := by
  rw [List.map_id]
  unfold nums
  rw [List.filter_map]
  congr 1
  refine List.filter_congr fun o _ => ?_
  show (!((W.tup (encP o)).eq (.tup []))) = _
  rw [tup_nil_eq]
  simp
noncomputable def spPd : WSp := fun ws G q _ => ∃ (p : Addr) (os : List O), ws = [.ref p] ∧ G p = some (.lst (nums os)) ∧ os.length ≤ 20 ∧ (∀ o, o ∈ os → Lim 4 3 (10 ^ 40) o) ∧ q (.bl true) G
theorem scPd : FnScope ["_law_numbers_here", "_law_some", "_law_left", "_law_number_here", "_law_right"] ["_law_numbers_here"] (defScope (top 39)) := ⟨rfl, rfl, rfl, by decide +kernel, rfl, by decide +kernel, by decide +kernel⟩
theorem fnPd (F : Fun K "_law_products" "_law_products" (top 39) f fd) (F1 : Fx P w K mg base "times" ["a", "b"] 4 spTi) (F2 : Fx P w K mg base "divided" ["a", "b"] 6 spDv) (ml : mg "len" = none) (mv : mg "reversed" = none) : WFn P w K mg base 7 f fd ["_law_numbers_here"] spPd := by
  have nd := scPd.nd
  refine fn3 F scPd (fun ws G q e h => by obtain ⟨_, _, rfl, _⟩ := h; rfl) (fun cdv A outer s H E hr => ?_)
  apply bodyOf
  · exact (qss_cons (qs_set 1 nd rfl (.inl rfl) (qe_slice (qe_comp (compSc (by first | rfl | decide +kernel)) rfl (qi_seq (qe_var 0 rfl (.inl rfl))) (fun _ _ _ _ => (qg_nameB 1 (by first | assumption | decide +kernel | rfl) rfl (.inl rfl))) (fun _ _ _ _ => (qts_one (qt_cmp (q_ne4 hr) (qe_var 1 rfl (.inl rfl)) (qe_tup qa_nil) (nomark _)))) (fun _ _ _ _ => (qe_var 1 rfl (.inl rfl)))) qo_none (qo_some qe_int))) (qss_cons (qs_if (qt_cmp (q_eq4 hr) (qe_callB q_len rfl ml PySem.boot_len (qa_cons (qe_var 1 rfl (.inl rfl)) qa_nil)) qe_int (nomark _)) (qss_cons (qs_ret qe_bl) qss_nil) qss_nil) (qss_cons (qs_set 2 nd rfl (.inl rfl) (qe_tup (qa_cons (qe_tup (qa_cons (qe_tup qa_nil) (qa_cons qe_int qa_nil))) qa_nil))) (qss_cons (qs_for PySem.PassesOwn.never rfl (qi_seq (qe_var 1 rfl (.inl rfl))) (qg_name 3 nd rfl (.inl rfl)) (qss_cons (qs_set 2 nd rfl (.inl rfl) (qe_fxn F1 (Room.mono hr (by omega)) rfl (qa_cons (qe_var 2 rfl (.inl rfl)) (qa_cons (qe_var 3 rfl (.inl rfl)) qa_nil)))) qss_nil)) (qss_cons (qs_set 4 nd rfl (.inl rfl) (qe_tup (qa_cons (qe_tup (qa_cons (qe_tup qa_nil) (qa_cons qe_int qa_nil))) qa_nil))) (qss_cons (qs_for PySem.PassesOwn.never rfl (qi_revL rfl mv (qa_cons (qe_slice (qe_var 1 rfl (.inl rfl)) (qo_some qe_int) qo_none) qa_nil)) (qg_name 3 nd rfl (.inl rfl)) (qss_cons (qs_set 4 nd rfl (.inl rfl) (qe_fxn F1 (Room.mono hr (by omega)) rfl (qa_cons (qe_var 3 rfl (.inl rfl)) (qa_cons (qe_var 4 rfl (.inl rfl)) qa_nil)))) qss_nil)) (qss_cons (qs_ret (qe_and (qe_cmp (q_eq4 hr) (qe_var 2 rfl (.inl rfl)) (qe_fxn F1 (Room.mono hr (by omega)) rfl (qa_cons (qe_ix q_ix (qe_var 1 rfl (.inl rfl)) qe_int (fun _ _ => rfl)) (qa_cons (qe_var 4 rfl (.inl rfl)) qa_nil))) (nomark _)) (qe_one (qe_cmp (q_eq4 hr) (qe_fxn F2 (Room.mono hr (by omega)) rfl (qa_cons (qe_var 2 rfl (.inl rfl)) (qa_cons (qe_ix q_ix (qe_var 1 rfl (.inl rfl)) qe_int (fun _ _ => rfl)) qa_nil))) (qe_tup (qa_cons (qe_var 4 rfl (.inl rfl)) (qa_cons (qe_tup qa_nil) qa_nil))) (nomark _))))) qss_nil)))))))
  · rintro ws G q e ⟨p, os, rfl, hG, hl, ho, hq⟩
    refine seqU fun U hU => ?_
    walk_at "R"
    refine ⟨_, hG, ?_⟩
    show compW _ _ _ _ _ [none, none] G [] _
    have hdp : ∀ o, o ∈ os → (W.tup (encP o)).dep ≤ 150 := fun o h => by have h1 := tup_dep o; have h2 := (ho o h).dp; (clear F F1 F2 ml mv nd hr hG hl ho hq hU h; omega)
    refine compW_pure (p := fun w => !(w.eq (.tup []))) (f := id) hG (fun w hw k hk => ?_) (fun w hw _ k hk => ?_) (by rw [nums_length]; simp only [List.length_nil]; (clear F F1 F2 ml mv nd hr hG ho hq hU hdp; omega)) (fun _ => rfl) fun p1 hp1 => ?_
    · obtain ⟨o, hmo, rfl⟩ := List.mem_map.mp hw
      walk_at "R"
      refine ⟨tup_flat o, hdp o hmo, ?_⟩
      cases h : (W.tup (encP o)).eq (W.tup []) with
      | true => rw [h] at hk; simpa using hk
      | false => rw [h] at hk; simpa using hk
    · walk_at "R"
      exact hk
    rw [List.nil_append, filter_nums]
    refine ⟨_, updG_same, ?_⟩
    have e8 : cutW (nums (os.filter fun o => decide (¬ o = .z))) none (some 8) = nums ((os.filter fun o => decide (¬ o = .z)).take 8) := by
      rw [show (8 : Int) = ((8 : Nat) : Int) from rfl, cut_to]
      unfold nums
      rw [List.map_take]
    rw [e8]
    have hs : ∀ o, o ∈ (os.filter fun o => decide (¬ o = .z)).take 8 → Lim 4 3 (10 ^ 40) o ∧ o ≠ .z := fun o h => by
      have h1 := List.mem_filter.mp (List.mem_of_mem_take h)
      exact ⟨ho o h1.1, by simpa using h1.2⟩
    have hs8 : ((os.filter fun o => decide (¬ o = .z)).take 8).length ≤ 8 := by rw [List.length_take]; (clear F F1 F2 ml mv nd hr hG hl ho hq hU hdp hp1 e8 hs; omega)
    intro p2 hp2
    have le2 : GLe G (updG (updG G p1 (GO.lst (nums (os.filter fun o => decide (¬ o = .z))))) p2 (GO.lst (nums ((os.filter fun o => decide (¬ o = .z)).take 8)))) := (GLe.new hp1).trans (GLe.new hp2)
    have g2 := updG_same (G := updG G p1 (GO.lst (nums (os.filter fun o => decide (¬ o = .z))))) (a := p2) (g := GO.lst (nums ((os.filter fun o => decide (¬ o = .z)).take 8)))
    generalize updG (updG G p1 (GO.lst (nums (os.filter fun o => decide (¬ o = .z))))) p2 (GO.lst (nums ((os.filter fun o => decide (¬ o = .z)).take 8))) = G2 at le2 g2 ⊢
    generalize (os.filter fun o => decide (¬ o = .z)).take 8 = xs at hs hs8 g2 ⊢
    subst hU
    refine seqU fun U hU => ?_
    walk_at "R"
    refine ⟨_, g2, ?_⟩
    rw [nums_length]
    cases xs with
    | nil =>
      rw [if_pos (show ((([] : List O).length : Nat) : Int) = 0 from rfl)]
      exact ⟨G, le2, hq⟩
    | cons x xs =>
      rw [if_neg (by rw [List.length_cons]; (clear F F1 F2 ml mv nd hr hG hl ho hq hdp hp1 e8 hp2 le2 hU hs hs8 g2; omega))]
      rw [List.length_cons] at hs8
      have hx := hs x List.mem_cons_self
      have hT : ∀ k, ∀ o, o ∈ (x :: xs).take k → Lim 4 3 (10 ^ 40) o := fun k o h => (hs o (List.mem_of_mem_take h)).1
      have hD : ∀ k, ∀ o, o ∈ xs.drop k → Lim 4 3 (10 ^ 40) o := fun k o h => (hs o (List.mem_cons_of_mem _ (List.mem_of_mem_drop h))).1
      have hcap : ∀ ys : List O, ys.length ≤ 8 → (∀ o, o ∈ ys → Lim 4 3 (10 ^ 40) o) → (prodR ys).NF ∧ (prodR ys).dp ≤ 4 ∧ O.hw (prodR ys) ≤ 25 ∧ O.mx (prodR ys) ≤ 10 ^ 400 := fun ys h1 h2 => by
        obtain ⟨i1, i2, i3, i4⟩ := prodR_lim h2
        have := bigT_le h1
        exact ⟨i1, i2, by (clear F F1 F2 ml mv nd hr hG hl ho hq hdp hp1 e8 hp2 le2 hU hs hs8 g2 hx hT hD h2 i1 i2 i4 this; omega), by (clear F F1 F2 ml mv nd hr hG hl ho hq hdp hp1 e8 hp2 le2 hU hs hs8 g2 hx hT hD h1 h2 i1 i2 i3; omega)⟩
      have x1 := hx.1.dp
      have x2 := hx.1.hw
      have x3 := hx.1.mx
      subst hU
      refine seqU fun U hU => ?_
      walk_at "R"
      subst hU
      refine seqU fun U hU => ?_
      walk_at "R"
      refine ⟨_, g2, ?_⟩
      have k40 : (10 : Int) ^ 40 ≤ cap := by decide +kernel
      refine loopW_ind (fun ws τ G' => G' = G2 ∧ ∃ (k : Nat) (t3 : Option W), k ≤ (x :: xs).length ∧ ws = nums ((x :: xs).drop k) ∧ τ = [some (.ref p), some (.ref p2), some (.tup (encP (prodR ((x :: xs).take k)))), t3, none]) ?_ ?_ _ _ _ ⟨rfl, 0, none, Nat.zero_le _, rfl, rfl⟩
      · rintro τ G' ⟨rfl, k, t3, hk, hw, rfl⟩
        refine ⟨g2, ?_⟩
        have hkn : k = (x :: xs).length := by
          rcases Nat.lt_or_ge k (x :: xs).length with h | h
          · rw [List.drop_eq_getElem_cons h] at hw; cases hw
          · (clear F F1 F2 ml mv nd hr hG hl ho hq hdp hp1 e8 hp2 hs hs8 hx hT hD hcap x1 x2 x3 hU k40 le2 g2 hw; omega)
        rw [hkn, List.take_length]
        subst hU
        dsimp only
        refine seqU fun U hU => ?_
        walk_at "R"
        subst hU
        refine seqU fun U hU => ?_
        walk_at "R"
        have e1 : cutW (nums (x :: xs)) (some 1) none = nums xs := by rw [show (1 : Int) = ((1 : Nat) : Int) from rfl, cut_from]; rfl
        refine ⟨_, g2, fun p3 hp3 => ?_⟩
        rw [e1]
        refine ⟨_, updG_same, ?_⟩
        have le3 : GLe G (updG G' p3 (GO.lst (nums xs))) := le2.trans (GLe.new hp3)
        have g3 := updG_same (G := G') (a := p3) (g := GO.lst (nums xs))
        have g23 := updG_ne' (g := GO.lst (nums xs)) g2 hp3
        generalize updG G' p3 (GO.lst (nums xs)) = G3 at le3 g3 g23 ⊢
        rw [nums_rev]
        refine loopW_ind (fun ws τ G' => G' = G3 ∧ ∃ (k : Nat) (t3 : Option W), k ≤ xs.length ∧ ws = nums (xs.reverse.drop k) ∧ τ = [some (.ref p), some (.ref p2), some (.tup (encP (prodR (x :: xs)))), t3, some (.tup (encP (prodR (xs.drop (xs.length - k)))))]) ?_ ?_ _ _ _ ⟨rfl, 0, t3, Nat.zero_le _, rfl, by rw [Nat.sub_zero, List.drop_length]; rfl⟩
        · rintro τ G' ⟨rfl, k, t3, hk, hw, rfl⟩
          refine ⟨g3, ?_⟩
          have hkn : k = xs.length := by
            rcases Nat.lt_or_ge k xs.length with h | h
            · rw [List.drop_eq_getElem_cons (by rw [List.length_reverse]; exact h)] at hw; cases hw
            · (clear F F1 F2 ml mv nd hr hG hl ho hq hdp hp1 e8 hp2 hs hs8 hx hT hD hcap x1 x2 x3 k40 le2 g2 hkn hU e1 hp3 le3 g3 g23 hw; omega)
          rw [hkn, Nat.sub_self, List.drop_zero]
          obtain ⟨c1, c2, c3, c4⟩ := hcap xs (by (clear F F1 F2 ml mv nd hr hG hl ho hq hdp hp1 e8 hp2 hs hx hT hD hcap x1 x2 x3 k40 le2 g2 hU e1 hp3 le3 g3 g23 hk hw; omega)) fun o h => (hs o (List.mem_cons_of_mem _ h)).1
          obtain ⟨f1, f2, f3, f4⟩ := hcap (x :: xs) (by rw [List.length_cons]; assumption) fun o h => (hs o h).1
          have h1 := tup_dep (prodR (x :: xs))
          have h2 := tup_dep (prodR xs)
          have epr : O.timesO x (prodR xs) = prodR (x :: xs) := rfl
          subst hU
          walk_at "R"
          refine ⟨_, _, g23, atI0 _ _, x, _, rfl, hx.1.nf, c1, by exact Nat.le_trans (by assumption) (Nat.le_of_ble_eq_true rfl), by exact Nat.le_trans (by assumption) (Nat.le_of_ble_eq_true rfl), by exact Nat.le_trans (by assumption) (Nat.le_of_ble_eq_true rfl), by exact Nat.le_trans (by assumption) (Nat.le_of_ble_eq_true rfl), Int.le_trans x3 k40, Int.le_trans c4 k400, ?_⟩
          rw [epr]
          refine ⟨tup_flat _, tup_flat _, by (clear F F1 F2 ml mv nd hr hG hl ho hq hdp hp1 e8 hp2 hs hs8 hx hT hD hcap x1 x2 x3 k40 le2 g2 e1 hp3 le3 g3 g23 hk hw hkn c1 c2 c3 c4 f1 f3 f4 h2 epr; omega), ?_⟩
          rw [tup_eq, if_pos (by simp)]
          refine ⟨_, _, g23, atI0 _ _, _, x, rfl, f1, hx.1.nf, hx.2, by exact Nat.le_trans (by assumption) (Nat.le_of_ble_eq_true rfl), by exact Nat.le_trans (by assumption) (Nat.le_of_ble_eq_true rfl), by exact Nat.le_trans (by assumption) (Nat.le_of_ble_eq_true rfl), by exact Nat.le_trans (by assumption) (Nat.le_of_ble_eq_true rfl), f4, Int.le_trans x3 (by decide), fun Q R nQ nR lR hQR dQ dR => ?_⟩
          have lz : O.cmp .z x < 0 := z_lt hx.2
          have hqr : O.plusO (O.timesO x Q) R = O.plusO (O.timesO x (prodR xs)) .z := by rw [hQR, O.plus_z]; rfl
          obtain ⟨rfl, rfl⟩ := O.div_unique (R := .z) hx.1.nf hx.2 nQ c1 nR trivial lR lz hqr
          have e4 : (W.tup [W.tup (encP (prodR xs)), W.tup (encP .z)]).eq (W.tup [W.tup (encP (prodR xs)), W.tup []]) = true := by
            simp only [W.eq_tup, W.eqs, encP_eq, encP]
            simp
          refine ⟨?_, ?_, ?_, ?_⟩
          · simp [W.flat, W.flats, encP_flat]
          · simp [W.flat, W.flats, encP_flat]
          · have h3 := encP_dep (prodR xs)
            simp only [W.dep, W.deps, encP]
            (clear F F1 F2 ml mv nd hr hG hl ho hq hdp hp1 e8 hp2 hs hs8 hx hT hD hcap x1 x2 x3 k40 le2 g2 e1 hp3 le3 g3 g23 hk hw hkn c1 c2 c3 c4 f1 f3 f4 h1 h2 epr lz nQ nR lR dR hQR hqr e4; omega)
          · rw [e4]
            exact ⟨G, le3, hq⟩
        · rintro w1 ws τ G' kk ⟨rfl, k, t3, hk, hw, rfl⟩ hkk
          have hlt : k < xs.length := by
            rcases Nat.lt_or_ge k xs.length with h | h
            · exact h
            · rw [List.drop_of_length_le (by rw [List.length_reverse]; exact h)] at hw; cases hw
          rw [List.drop_eq_getElem_cons (by rw [List.length_reverse]; exact hlt)] at hw
          have hlt2 : xs.length - 1 - k < xs.length := by (clear F F1 F2 ml mv nd hr hG hl ho hq hdp hp1 e8 hp2 hs hs8 hx hT hD hcap x1 x2 x3 k40 le2 g2 hkn hU e1 hp3 le3 g3 g23 hk hkk hw; omega)
          obtain ⟨o, eo⟩ : ∃ o, xs[xs.length - 1 - k]? = some o := ⟨_, List.getElem?_eq_getElem hlt2⟩
          have eo2 : xs.reverse[k]'(by rw [List.length_reverse]; exact hlt) = o := by
            have := List.getElem?_reverse (l := xs) hlt
            rw [eo, List.getElem?_eq_getElem (by rw [List.length_reverse]; exact hlt)] at this
            injection this
          rw [eo2] at hw
          cases hw
          refine ⟨g3, ?_⟩
          have no := (hs o (List.mem_cons_of_mem _ (List.mem_of_getElem? eo))).1
          have n1 := no.dp
          have n2 := no.hw
          have n3 := no.mx
          obtain ⟨c1, c2, c3, c4⟩ := hcap (xs.drop (xs.length - k)) (by rw [List.length_drop]; (clear F F1 F2 ml mv nd hr hG hl ho hq hdp hp1 e8 hp2 hs hx hT hD hcap x1 x2 x3 k40 le2 g2 hw hkn hU e1 hp3 le3 g3 g23 hk hlt2 eo eo2 hkk no n1 n2 n3; omega)) (hD _)
          walk_at "R"
          refine ⟨o, _, rfl, no.nf, c1, by exact Nat.le_trans (by assumption) (Nat.le_of_ble_eq_true rfl), by exact Nat.le_trans (by assumption) (Nat.le_of_ble_eq_true rfl), by exact Nat.le_trans (by assumption) (Nat.le_of_ble_eq_true rfl), by exact Nat.le_trans (by assumption) (Nat.le_of_ble_eq_true rfl), Int.le_trans n3 k40, Int.le_trans c4 k400, ?_⟩
          have e2 : xs.drop (xs.length - (k + 1)) = o :: xs.drop (xs.length - k) := by
            rw [show xs.length - (k + 1) = xs.length - 1 - k by (clear F F1 F2 ml mv nd hr hG hl ho hq hdp hp1 e8 hp2 hs hs8 hx hT hD hcap x1 x2 x3 k40 le2 g2 hw hkn hU e1 hp3 le3 g3 g23 hk hlt2 eo eo2 hkk no n1 n2 n3 c1 c2 c3 c4; omega), List.drop_eq_getElem_cons hlt2]
            rw [List.getElem?_eq_getElem hlt2] at eo
            injection eo with eo
            rw [eo, show xs.length - 1 - k + 1 = xs.length - k by (clear F F1 F2 ml mv nd hr hG hl ho hq hdp hp1 e8 hp2 hs hs8 hx hT hD hcap x1 x2 x3 k40 le2 g2 hw hkn hU e1 hp3 le3 g3 g23 hk hlt2 eo2 hkk no n1 n2 n3 c1 c2 c3 c4 eo; omega)]
          have e3 : O.timesO o (prodR (xs.drop (xs.length - k))) = prodR (xs.drop (xs.length - (k + 1))) := by rw [e2]; rfl
          rw [e3]
          exact hkk _ _ ⟨rfl, k + 1, _, hlt, rfl, rfl⟩
      · rintro w1 ws τ G' kk ⟨rfl, k, t3, hk, hw, rfl⟩ hkk
        have hlt : k < (x :: xs).length := by
          rcases Nat.lt_or_ge k (x :: xs).length with h | h
          · exact h
          · rw [List.drop_of_length_le h] at hw; cases hw
        rw [List.drop_eq_getElem_cons hlt] at hw
        obtain ⟨o, eo⟩ : ∃ o, (x :: xs)[k]? = some o := ⟨_, List.getElem?_eq_getElem hlt⟩
        have eo2 : (x :: xs)[k] = o := by rw [List.getElem?_eq_getElem hlt] at eo; injection eo
        rw [eo2] at hw
        cases hw
        refine ⟨g2, ?_⟩
        have no := (hs o (List.mem_of_getElem? eo)).1
        have n1 := no.dp
        have n2 := no.hw
        have n3 := no.mx
        obtain ⟨c1, c2, c3, c4⟩ := hcap _ (by rw [List.length_take]; simp only [List.length_cons] at *; (clear F F1 F2 ml mv nd hr hG hl ho hq hdp hp1 e8 hp2 hs hx hT hD hcap x1 x2 x3 hU k40 le2 g2 hlt eo eo2 hkk no n1 n2 n3; omega)) (hT k)
        walk_at "R"
        refine ⟨_, o, rfl, c1, no.nf, by exact Nat.le_trans (by assumption) (Nat.le_of_ble_eq_true rfl), by exact Nat.le_trans (by assumption) (Nat.le_of_ble_eq_true rfl), by exact Nat.le_trans (by assumption) (Nat.le_of_ble_eq_true rfl), by exact Nat.le_trans (by assumption) (Nat.le_of_ble_eq_true rfl), Int.le_trans c4 k400, Int.le_trans n3 k40, ?_⟩
        have e1 : O.timesO (prodR ((x :: xs).take k)) o = prodR ((x :: xs).take (k + 1)) := by
          have ht : (x :: xs).take (k + 1) = (x :: xs).take k ++ [o] := by rw [List.take_succ, eo]; rfl
          have hn : ∀ y, y ∈ (x :: xs).take (k + 1) → y.NF := fun y hy => (hT (k + 1) y hy).nf
          have hn0 : ∀ y, y ∈ (x :: xs).take k → y.NF := fun y hy => (hT k y hy).nf
          have q1 := prodL_R O.NF.one hn
          have q2 := prodL_R O.NF.one hn0
          rw [O.one_times (prodR_nf hn)] at q1
          rw [O.one_times (prodR_nf hn0)] at q2
          rw [← q1, ← q2, ht]
          unfold prodL
          rw [List.foldl_append]
          rfl
        rw [e1]
        exact hkk _ _ ⟨rfl, k + 1, _, hlt, rfl, rfl⟩

/-! powers -/
theorem ipow_le {x T : Int} (h0 : 0 ≤ x) (h : x ≤ T) (h1 : 1 ≤ T) {k K : Nat} (hk : k ≤ K) : x ^ k ≤ T ^ K := by
  have base : ∀ k : Nat, x ^ k ≤ T ^ k := fun k => by
    induction k with
    | zero => rw [Int.pow_zero, Int.pow_zero]; (clear h0 h h1 hk; omega)
    | succ k ih =>
      rw [Int.pow_succ, Int.pow_succ]
      have p : 0 ≤ x ^ k := Int.pow_nonneg h0
      exact Int.mul_le_mul ih h h0 (Int.le_trans p ih)
  have := O.ipow_mono h1 (n := k) (K - k)
  rw [show k + (K - k) = K by (clear h0 h h1 base this; omega)] at this
  exact Int.le_trans (base k) this
theorem pw_cap {a : O} {A : Int} {k K : Nat} (h : O.mx a ≤ A) (hk : k ≤ K) (hc : 2 * (A + 2) ^ K ≤ cap) : 2 * (O.mx a + 2) ^ k ≤ cap := by
  have m0 := O.mx_nonneg a
  have := ipow_le (x := O.mx a + 2) (T := A + 2) (by (clear h hk hc; omega)) (by (clear hk hc m0; omega)) (by (clear hk hc; omega)) hk
  (clear h hk m0; omega)
theorem k1510 : (2 : Int) * (10 ^ 15 + 2) ^ 10 ≤ cap := by decide +kernel
theorem k902 : (2 : Int) * (10 ^ 90 + 2) ^ 2 ≤ cap := by decide +kernel
theorem kmx10 : (((10 : Int) ^ 15 + 1) * (10 ^ 42 + 1) + 1) * (2 * (10 ^ 15 + 2) ^ 10) ≤ cap := by decide +kernel
theorem kmx2 : (((10 : Int) ^ 15 + 1) * (10 ^ 42 + 1) + 1) * (2 * (10 ^ 15 + 2) ^ 2) ≤ 10 ^ 90 := by decide +kernel
theorem k153 : ((10 : Int) ^ 15) ^ 3 < 10 ^ 60 := by decide +kernel
theorem k81c : ((10 : Int) ^ 40 + 1) * (10 ^ 40 + 1) ≤ 10 ^ 100 := by decide +kernel
theorem askA {a b : O} {G : Gp} {q : WK} {e : WX} (sa : Lim 4 3 (10 ^ 15) a) (nb : b.NF) (db : b.dp ≤ 30) (wb : O.hw b ≤ 400) (mb : O.mx b ≤ 10 ^ 100) (kb : O.same .z b ≤ 10) (h : q (.tup (encP (O.powO a b))) G) : spPw [.tup (encP a), .tup (encP b)] G q e := by
  have d1 := sa.dp
  have w1 := sa.hw
  have m1 := sa.mx
  have o1 := O.ot_le_mx a
  exact ⟨a, b, rfl, sa.nf, nb, by exact Nat.le_trans (by assumption) (Nat.le_of_ble_eq_true rfl), db, by exact Nat.le_trans (by assumption) (Nat.le_of_ble_eq_true rfl), wb, by (clear sa nb db wb mb kb h d1 w1 o1; omega), mb, .inr (.inr (.inr ⟨by (clear sa nb db wb mb h d1 w1 m1 o1; omega), by (clear sa nb db wb mb kb h d1 w1; omega), pw_cap sa.mx (by (clear sa nb db wb mb h d1 w1 m1 o1; omega)) k1510⟩)), h⟩
noncomputable def spPo : WSp := fun ws G q _ => ∃ (a : O) (p : Addr) (es : List O), ws = [.tup (encP a), .ref p] ∧ G p = some (.lst (nums es)) ∧ Lim 4 3 (10 ^ 15) a ∧ es.length ≤ 5 ∧ (∀ o, o ∈ es → Lim 4 4 (10 ^ 40) o ∧ O.same .z o ≤ 2) ∧ q (.bl true) G
theorem scPo : FnScope ["_law_base", "_law_exponents", "_law_found", "_law_exponent_here", "_law_one", "_law_other"] ["_law_base", "_law_exponents"] (defScope (top 40)) := ⟨rfl, rfl, rfl, by decide +kernel, rfl, by decide +kernel, by decide +kernel⟩
theorem fnPo (F : Fun K "_law_powers" "_law_powers" (top 40) f fd) (F1 : Fx P w K mg base "times" ["a", "b"] 4 spTi) (F2 : Fx P w K mg base "power" ["a", "b"] 6 spPw) (F3 : Fx P w K mg base "total" ["some"] 4 spTt) (ml : mg "len" = none) : WFn P w K mg base 7 f fd ["_law_base", "_law_exponents"] spPo := by
  have nd := scPo.nd
  refine fn3 F scPo (fun ws G q e h => by obtain ⟨_, _, _, rfl, _⟩ := h; rfl) (fun cdv A outer s H E hr => ?_)
  apply bodyOf
  · exact (qss_cons (qs_set 2 nd rfl (.inl rfl) (qe_tup (qa_cons (qe_tup (qa_cons (qe_tup qa_nil) (qa_cons qe_int qa_nil))) qa_nil))) (qss_cons (qs_for PySem.PassesOwn.never rfl (qi_seq (qe_var 1 rfl (.inl rfl))) (qg_name 3 nd rfl (.inl rfl)) (qss_cons (qs_set 2 nd rfl (.inl rfl) (qe_fxn F1 (Room.mono hr (by omega)) rfl (qa_cons (qe_var 2 rfl (.inl rfl)) (qa_cons (qe_fxn F2 (Room.mono hr (by omega)) rfl (qa_cons (qe_var 0 rfl (.inl rfl)) (qa_cons (qe_var 3 rfl (.inl rfl)) qa_nil))) qa_nil)))) qss_nil)) (qss_cons (qs_if (qt_cmp (q_ne4 hr) (qe_fxn F2 (Room.mono hr (by omega)) rfl (qa_cons (qe_var 0 rfl (.inl rfl)) (qa_cons (qe_fxn F3 (Room.mono hr (by omega)) rfl (qa_cons (qe_var 1 rfl (.inl rfl)) qa_nil)) qa_nil))) (qe_var 2 rfl (.inl rfl)) (nomark _)) (qss_cons (qs_ret qe_bl) qss_nil) qss_nil) (qss_cons (qs_if (qt_cmp (q_lt3 hr) (qe_callB q_len rfl ml PySem.boot_len (qa_cons (qe_var 1 rfl (.inl rfl)) qa_nil)) qe_int (nomark _)) (qss_cons (qs_ret qe_bl) qss_nil) qss_nil) (qss_cons (qs_set 4 nd rfl (.inl rfl) (qe_ix q_ix (qe_var 1 rfl (.inl rfl)) (qe_neg qe_int) (fun _ _ => rfl))) (qss_cons (qs_set 5 nd rfl (.inl rfl) (qe_ix q_ix (qe_var 1 rfl (.inl rfl)) qe_int (fun _ _ => rfl))) (qss_cons (qs_ret (qe_cmp (q_eq4 hr) (qe_fxn F2 (Room.mono hr (by omega)) rfl (qa_cons (qe_fxn F2 (Room.mono hr (by omega)) rfl (qa_cons (qe_var 0 rfl (.inl rfl)) (qa_cons (qe_var 4 rfl (.inl rfl)) qa_nil))) (qa_cons (qe_var 5 rfl (.inl rfl)) qa_nil))) (qe_fxn F2 (Room.mono hr (by omega)) rfl (qa_cons (qe_var 0 rfl (.inl rfl)) (qa_cons (qe_fxn F1 (Room.mono hr (by omega)) rfl (qa_cons (qe_var 4 rfl (.inl rfl)) (qa_cons (qe_var 5 rfl (.inl rfl)) qa_nil))) qa_nil))) (nomark _))) qss_nil)))))))
  · rintro ws G q e ⟨a, p, es, rfl, hG, sa, hl, ho, hq⟩
    have a1 := sa.dp
    have a2 := sa.hw
    have hno : ∀ o, o ∈ es → o.NF := fun o h => (ho o h).1.nf
    have hS : ∀ k, Lim 4 20 (10 ^ 42) (sumL (es.take k)) := fun k => by
      have h := sumR_lim (os := es.take k) (by decide) fun o h => (ho o (List.mem_of_mem_take h)).1
      have l : (es.take k).length ≤ 5 := by rw [List.length_take]; (clear F F1 F2 F3 ml nd hr hG sa ho hq a1 a2 hno h; omega)
      rw [sumL_R fun o h => hno o (List.mem_of_mem_take h)]
      exact ⟨h.nf, h.dp, by have := h.hw; (clear F F1 F2 F3 ml nd hr hG sa hl ho hq a1 a2 hno h; omega), by have := h.mx; (clear F F1 F2 F3 ml nd hr hG sa hl ho hq a1 a2 hno h; omega)⟩
    have hZ : ∀ k, k ≤ es.length → O.same .z (sumL (es.take k)) ≤ 2 * (k : Int) := fun k => by
      induction k with
      | zero => intro _; show (0 : Int) ≤ _; (clear F F1 F2 F3 ml nd hr hG sa hl ho hq a1 a2 hno hS; omega)
      | succ k ih =>
        intro hk
        obtain ⟨o, eo⟩ : ∃ o, es[k]? = some o := ⟨_, List.getElem?_eq_getElem (by assumption)⟩
        have h1 := ih (by (clear F F1 F2 F3 ml nd hr hG sa hl ho hq a1 a2 hno hS ih eo; omega))
        have h2 := ho o (List.mem_of_getElem? eo)
        have : es.take (k + 1) = es.take k ++ [o] := by rw [List.take_succ, eo]; rfl
        rw [this, sumL_snoc]
        have h3 := O.same_plus_le (hS k).nf h2.1.nf
        have h4 := h2.2
        (clear F F1 F2 F3 ml nd hr hG sa hl ho hq a1 a2 hno hS ih hk eo this h4; omega)
    have hP : ∀ k, k ≤ es.length → (O.powO a (sumL (es.take k))).NF ∧ (O.powO a (sumL (es.take k))).dp ≤ 5 ∧ O.hw (O.powO a (sumL (es.take k))) ≤ 98 ∧ O.mx (O.powO a (sumL (es.take k))) ≤ cap := fun k hk => by
      have s1 := hS k
      have s2 := hZ k hk
      have b := O.pow_bound sa.nf s1.nf (.inr (by (clear F F1 F2 F3 ml nd hr hG sa ho hq a1 a2 hno hS hZ s1; omega)))
      have m := O.pow_mx sa.nf s1.nf sa.mx s1.mx (k := 10) (by (clear F F1 F2 F3 ml nd hr hG sa ho hq a1 a2 hno hS hZ s1 b; omega))
      have d1 := s1.dp
      have d2 := s1.hw
      exact ⟨sa.nf.pow s1.nf, by (clear F F1 F2 F3 ml nd hr hG sa hl ho hq a2 hno hS hZ hk s1 s2 m d2; omega), by (clear F F1 F2 F3 ml nd hr hG sa hl ho hq a1 hno hS hZ hk s1 s2 m d1; omega), Int.le_trans m kmx10⟩
    have hE : ∀ o, o ∈ es → (O.powO a o).NF ∧ (O.powO a o).dp ≤ 5 ∧ O.hw (O.powO a o) ≤ 19 ∧ O.mx (O.powO a o) ≤ 10 ^ 90 ∧ O.ot (O.powO a o) < 10 ^ 60 := fun o h => by
      obtain ⟨s1, s2⟩ := ho o h
      have b := O.pow_wide sa.nf s1.nf (by (clear F F1 F2 F3 ml nd hr hG sa hl ho hq a1 a2 hno hS hZ hP h s1; omega))
      have m := O.pow_mx (B := 10 ^ 42) sa.nf s1.nf sa.mx (by have := s1.mx; (clear F F1 F2 F3 ml nd hr hG sa hl ho hq a1 a2 hno hS hZ hP h s1 s2 b; omega)) (k := 2) (by assumption)
      have t := O.pow_ot sa.nf s1.nf (Int.le_trans (O.ot_le_mx a) sa.mx) (by (clear F F1 F2 F3 ml nd hr hG sa hl ho hq a1 a2 hno hS hZ hP h s1 s2 b m; omega)) (by (clear F F1 F2 F3 ml nd hr hG sa hl ho hq a1 a2 hno hS hZ hP h s1 b m; omega))
      have d1 := s1.dp
      have d2 := s1.hw
      exact ⟨sa.nf.pow s1.nf, by (clear F F1 F2 F3 ml nd hr hG sa hl ho hq a2 hno hS hZ hP h s1 s2 m t d2; omega), by (clear F F1 F2 F3 ml nd hr hG sa hl ho hq a1 hno hS hZ hP h s1 s2 m t d1; omega), Int.le_trans m kmx2, by have := k153; (clear F F1 F2 F3 ml nd hr hG sa hl ho hq a1 a2 hno hS hZ hP h s1 s2 b m d1 d2 this; omega)⟩
    have k90 : (10 : Int) ^ 90 ≤ cap := by decide +kernel
    refine seqU fun U hU => ?_
    walk_at "R"
    subst hU
    refine seqU fun U hU => ?_
    walk_at "R"
    refine ⟨_, hG, ?_⟩
    refine loopW_ind (fun ws τ G' => G' = G ∧ ∃ (k : Nat) (t3 : Option W), k ≤ es.length ∧ ws = nums (es.drop k) ∧ τ = [some (.tup (encP a)), some (.ref p), some (.tup (encP (O.powO a (sumL (es.take k))))), t3, none, none]) ?_ ?_ _ _ _ ⟨rfl, 0, none, Nat.zero_le _, rfl, by rw [show sumL (es.take 0) = .z from rfl, O.pow_z]; rfl⟩
    · rintro τ G' ⟨rfl, k, t3, hk, hw, rfl⟩
      refine ⟨hG, ?_⟩
      have hkn : k = es.length := by
        rcases Nat.lt_or_ge k es.length with h | h
        · rw [List.drop_eq_getElem_cons h] at hw; cases hw
        · (clear F F1 F2 F3 ml nd hr sa hl ho a1 a2 hno hS hZ hP hE k90 hU hG hq hw; omega)
      subst hkn
      have s1 := hS es.length
      have s2 := hZ es.length (Nat.le_refl _)
      obtain ⟨c1, c2, c3, c4⟩ := hP es.length (Nat.le_refl _)
      rw [List.take_length, sumL_R hno] at s1 s2 c1 c2 c3 c4 ⊢
      have d1 := s1.dp
      have d2 := s1.hw
      have d3 := s1.mx
      have d4 := tup_dep (O.powO a (sumR es))
      subst hU
      dsimp only
      refine seqU fun U hU => ?_
      walk_at "R"
      refine ⟨p, es, rfl, hG, by (clear F F1 F2 F3 ml nd hr sa ho a1 a2 hno hS hZ hP hE k90 hG hq hk hw s1 s2 c1 c2 c3 c4 d1 d2 d3 d4 hU; omega), fun o h => ⟨hno o h, by have := (ho o h).1.dp; exact Nat.le_trans (by assumption) (Nat.le_of_ble_eq_true rfl), by have := (ho o h).1.hw; exact Nat.le_trans (by assumption) (Nat.le_of_ble_eq_true rfl)⟩, ?_⟩
      refine askA sa s1.nf (by exact Nat.le_trans (by assumption) (Nat.le_of_ble_eq_true rfl)) (by exact Nat.le_trans (by assumption) (Nat.le_of_ble_eq_true rfl)) (by (clear F F1 F2 F3 ml nd hr sa hl ho a1 a2 hno hS hZ hP hE k90 hG hq hk hw s1 s2 c1 c2 c3 c4 d1 d2 d4 hU; omega)) (by (clear F F1 F2 F3 ml nd hr sa ho a1 a2 hno hS hZ hP hE k90 hG hq hk hw s1 c1 c2 c3 c4 d1 d2 d3 d4 hU; omega)) ?_
      refine ⟨tup_flat _, tup_flat _, by (clear F F1 F2 F3 ml nd hr sa hl ho a1 a2 hno hS hZ hP hE k90 hG hq hk hw s1 s2 c1 c3 c4 d1 d2 d3 hU; omega), ?_⟩
      rw [tup_eq, if_neg (by simp)]
      subst hU
      refine seqU fun U hU => ?_
      walk_at "R"
      refine ⟨_, hG, ?_⟩
      rw [nums_length]
      split
      · exact GLe.done hq
      · rename_i h2
        obtain ⟨o, eo⟩ : ∃ o, es[0]? = some o := ⟨_, List.getElem?_eq_getElem (by (clear F F1 F2 F3 ml nd hr sa ho a1 a2 hno hS hZ hP hE k90 hG hq hk hw s1 s2 c1 c2 c3 c4 d1 d2 d3 d4 hU; omega))⟩
        obtain ⟨x, ex⟩ : ∃ x, es[es.length - 1]? = some x := ⟨_, List.getElem?_eq_getElem (by (clear F F1 F2 F3 ml nd hr sa ho a1 a2 hno hS hZ hP hE k90 hG hq hk hw s1 s2 c1 c2 c3 c4 d1 d2 d3 d4 hU eo; omega))⟩
        have mo := List.mem_of_getElem? eo
        have mx := List.mem_of_getElem? ex
        obtain ⟨so, zo⟩ := ho o mo
        obtain ⟨sx, zx⟩ := ho x mx
        obtain ⟨x1, x2, x3, x4, x5⟩ := hE x mx
        have o1 := so.dp
        have o2 := so.hw
        have o3 := so.mx
        have y1 := sx.dp
        have y2 := sx.hw
        have y3 := sx.mx
        subst hU
        refine seqU fun U hU => ?_
        walk_at "R"
        refine ⟨_, _, hG, atI_neg1 (by rw [nums_length]; exact nums_get ex), ?_⟩
        subst hU
        refine seqU fun U hU => ?_
        walk_at "R"
        refine ⟨_, _, hG, atI_nat (j := 0) (nums_get eo), ?_⟩
        subst hU
        walk_at "R"
        refine askA sa sx.nf (by exact Nat.le_trans (by assumption) (Nat.le_of_ble_eq_true rfl)) (by exact Nat.le_trans (by assumption) (Nat.le_of_ble_eq_true rfl)) (by (clear F F1 F2 F3 ml nd hr sa hl ho a1 a2 hno hS hZ hP hE k90 hG hq hk hw s1 s2 c1 c2 c3 c4 d1 d2 d3 d4 h2 eo ex mo mx so zo sx zx x1 x2 x3 x4 x5 o1 o2 o3 y1 y2; omega)) (by (clear F F1 F2 F3 ml nd hr sa hl ho a1 a2 hno hS hZ hP hE k90 hG hq hk hw s1 s2 c1 c2 c3 c4 d1 d2 d3 d4 h2 eo ex mo mx so zo sx x1 x2 x3 x4 x5 o1 o2 o3 y1 y2 y3; omega)) ?_
        refine ⟨O.powO a x, o, rfl, x1, so.nf, by exact Nat.le_trans (by assumption) (Nat.le_of_ble_eq_true rfl), by exact Nat.le_trans (by assumption) (Nat.le_of_ble_eq_true rfl), by exact Nat.le_trans (by assumption) (Nat.le_of_ble_eq_true rfl), by exact Nat.le_trans (by assumption) (Nat.le_of_ble_eq_true rfl), by (clear F F1 F2 F3 ml nd hr sa hl ho a1 a2 hno hS hZ hP hE k90 hG hq hk hw s1 s2 c1 c2 c3 c4 d1 d2 d3 d4 h2 eo ex mo mx so zo sx zx x1 x2 x3 x5 o1 o2 o3 y1 y2 y3; omega), by (clear F F1 F2 F3 ml nd hr sa hl ho a1 a2 hno hS hZ hP hE k90 hG hq hk hw s1 s2 c1 c2 c3 c4 d1 d2 d3 d4 h2 eo ex mo mx so zo sx zx x1 x2 x3 x4 x5 o1 o2 y1 y2 y3; omega), .inr (.inr (.inr ⟨by (clear F F1 F2 F3 ml nd hr sa hl ho a1 a2 hno hS hZ hP hE k90 hG hq hk hw s1 s2 c1 c2 c3 c4 d1 d2 d3 d4 h2 eo ex mo mx so sx zx x1 x2 x3 x4 x5 o1 o2 o3 y1 y2 y3; omega), x5, pw_cap x4 (by (clear F F1 F2 F3 ml nd hr sa hl ho a1 a2 hno hS hZ hP hE k90 hG hq hk hw s1 s2 c1 c2 c3 c4 d1 d2 d3 d4 h2 eo ex mo mx so sx zx x1 x2 x3 x4 x5 o1 o2 o3 y1 y2 y3; omega)) k902⟩)), ?_⟩
        have tm := O.times_mx sx.nf so.nf
        have m0 := O.mx_nonneg x
        have m1 := O.mx_nonneg o
        have tm2 : (O.mx x + 1) * (O.mx o + 1) ≤ (10 ^ 40 + 1) * (10 ^ 40 + 1) := Int.mul_le_mul (by (clear F F1 F2 F3 ml nd hr sa hl ho a1 a2 hno hS hZ hP hE k90 hG hq hk hw s1 s2 c1 c2 c3 c4 d1 d2 d3 d4 h2 eo ex mo mx so zo sx zx x1 x2 x3 x4 x5 o1 o2 o3 y1 y2 tm m1; omega)) (by (clear F F1 F2 F3 ml nd hr sa hl ho a1 a2 hno hS hZ hP hE k90 hG hq hk hw s1 s2 c1 c2 c3 c4 d1 d2 d3 d4 h2 eo ex mo mx so zo sx zx x1 x2 x3 x4 x5 o1 o2 y1 y2 y3 tm m0; omega)) (by (clear F F1 F2 F3 ml nd hr sa hl ho a1 a2 hno hS hZ hP hE k90 hG hq hk hw s1 s2 c1 c2 c3 c4 d1 d2 d3 d4 h2 eo ex mo mx so zo sx zx x1 x2 x3 x4 x5 o1 o2 y1 y2 y3 tm m0; omega)) (by (clear F F1 F2 F3 ml nd hr sa hl ho a1 a2 hno hS hZ hP hE k90 hG hq hk hw s1 s2 c1 c2 c3 c4 d1 d2 d3 d4 h2 eo ex mo mx so zo sx zx x1 x2 x3 x4 x5 o1 o2 o3 y1 y2 y3 tm m0 m1; omega))
        have td := O.dp_times x o
        have tw := O.hw_times x o
        have tz := O.same_times_le sx.nf so.nf (by (clear F F1 F2 F3 ml nd hr sa hl ho a1 a2 hno hS hZ hP hE k90 hG hq hk hw s1 s2 c1 c2 c3 c4 d1 d2 d3 d4 h2 eo ex mo mx so zo sx x1 x2 x3 x4 x5 o1 o2 o3 y1 y2 y3 tm m0 m1 tm2 td tw; omega)) (by (clear F F1 F2 F3 ml nd hr sa hl ho a1 a2 hno hS hZ hP hE k90 hG hq hk hw s1 s2 c1 c2 c3 c4 d1 d2 d3 d4 h2 eo ex mo mx so sx zx x1 x2 x3 x4 x5 o1 o2 o3 y1 y2 y3 tm m0 m1 tm2 td tw; omega))
        have k := k81c
        refine ⟨x, o, rfl, sx.nf, so.nf, by exact Nat.le_trans (by assumption) (Nat.le_of_ble_eq_true rfl), by exact Nat.le_trans (by assumption) (Nat.le_of_ble_eq_true rfl), by exact Nat.le_trans (by assumption) (Nat.le_of_ble_eq_true rfl), by exact Nat.le_trans (by assumption) (Nat.le_of_ble_eq_true rfl), Int.le_trans y3 (by decide +kernel), Int.le_trans o3 (by decide +kernel), ?_⟩
        refine askA sa (sx.nf.times so.nf) (by (clear F F1 F2 F3 ml nd hr sa hl ho a1 a2 hno hS hZ hP hE k90 hG hq hk hw s1 s2 c1 c2 c3 c4 d1 d2 d3 d4 h2 eo ex mo mx so zo sx zx x1 x2 x3 x4 x5 o2 o3 y2 y3 tm m0 m1 tm2 tw tz k; omega)) (by (clear F F1 F2 F3 ml nd hr sa hl ho a1 a2 hno hS hZ hP hE k90 hG hq hk hw s1 s2 c1 c2 c3 c4 d1 d2 d3 d4 h2 eo ex mo mx so zo sx zx x1 x2 x3 x4 x5 o1 o3 y1 y3 tm m0 m1 tm2 td tz k; omega)) (by (clear F F1 F2 F3 ml nd hr sa hl ho a1 a2 hno hS hZ hP hE k90 hG hq hk hw s1 s2 c1 c2 c3 c4 d1 d2 d3 d4 h2 eo ex mo mx so zo sx zx x1 x2 x3 x4 x5 o1 o2 o3 y1 y2 y3 m0 m1 td tw tz k; omega)) (by (clear F F1 F2 F3 ml nd hr sa hl ho a1 a2 hno hS hZ hP hE k90 hG hq hk hw s1 s2 c1 c2 c3 c4 d1 d2 d3 d4 h2 eo ex mo mx so zo sx zx x1 x2 x3 x4 x5 o1 o2 o3 y1 y2 y3 tm m0 m1 tm2 td tw k; omega)) ?_
        rw [O.pow_times sa.nf sx.nf so.nf]
        have w3 := O.pow_bound sa.nf (sx.nf.times so.nf) (.inr (by (clear F F1 F2 F3 ml nd hr sa hl ho a1 a2 hno hS hZ hP hE k90 hG hq hk hw s1 s2 c1 c2 c3 c4 d1 d2 d3 d4 h2 eo ex mo mx so zo sx zx x1 x2 x3 x4 x5 o1 o2 o3 y1 y2 y3 tm m0 m1 tm2 td tw k; omega)))
        have w4 := tup_dep (O.powO a (O.timesO x o))
        refine ⟨tup_flat _, tup_flat _, by (clear F F1 F2 F3 ml nd hr sa hl ho a2 hno hS hZ hP hE k90 hG hq hk hw s1 s2 c1 c2 c3 c4 d1 d2 d3 d4 h2 eo ex mo mx so zo sx zx x1 x2 x3 x4 x5 o2 o3 y2 y3 tm m0 m1 tm2 tw tz k; omega), ?_⟩
        rw [tup_eq, decide_eq_true rfl]
        exact GLe.done hq
    · rintro w1 ws τ G' kk ⟨rfl, k, t3, hk, hw, rfl⟩ hkk
      have hlt : k < es.length := by
        rcases Nat.lt_or_ge k es.length with h | h
        · exact h
        · rw [List.drop_of_length_le h] at hw; cases hw
      rw [List.drop_eq_getElem_cons hlt] at hw
      obtain ⟨o, eo⟩ : ∃ o, es[k]? = some o := ⟨_, List.getElem?_eq_getElem hlt⟩
      have eo2 : es[k] = o := by rw [List.getElem?_eq_getElem hlt] at eo; injection eo
      rw [eo2] at hw
      cases hw
      refine ⟨hG, ?_⟩
      have mo := List.mem_of_getElem? eo
      obtain ⟨so, zo⟩ := ho o mo
      obtain ⟨x1, x2, x3, x4, x5⟩ := hE o mo
      obtain ⟨c1, c2, c3, c4⟩ := hP k hk
      have o1 := so.dp
      have o2 := so.hw
      have o3 := so.mx
      walk_at "R"
      refine askA sa so.nf (by exact Nat.le_trans (by assumption) (Nat.le_of_ble_eq_true rfl)) (by exact Nat.le_trans (by assumption) (Nat.le_of_ble_eq_true rfl)) (by (clear F F1 F2 F3 ml nd hr sa hl ho a1 a2 hno hS hZ hP hE k90 hU hG hq hk hlt eo eo2 hkk mo so zo x1 x2 x3 x4 x5 c1 c2 c3 c4 o1 o2; omega)) (by (clear F F1 F2 F3 ml nd hr sa hl ho a1 a2 hno hS hZ hP hE k90 hU hG hq hk hlt eo eo2 hkk mo so x1 x2 x3 x4 x5 c1 c2 c3 c4 o1 o2 o3; omega)) ?_
      refine ⟨_, _, rfl, c1, x1, by exact Nat.le_trans (by assumption) (Nat.le_of_ble_eq_true rfl), by exact Nat.le_trans (by assumption) (Nat.le_of_ble_eq_true rfl), by exact Nat.le_trans (by assumption) (Nat.le_of_ble_eq_true rfl), by exact Nat.le_trans (by assumption) (Nat.le_of_ble_eq_true rfl), c4, Int.le_trans x4 k90, ?_⟩
      have e1 : O.timesO (O.powO a (sumL (es.take k))) (O.powO a o) = O.powO a (sumL (es.take (k + 1))) := by
        have : es.take (k + 1) = es.take k ++ [o] := by rw [List.take_succ, eo]; rfl
        rw [this, sumL_snoc, O.pow_plus sa.nf (hS k).nf so.nf]
      rw [e1]
      exact hkk _ _ ⟨rfl, k + 1, _, hlt, rfl, rfl⟩

/-! the law -/
theorem cut_ints (ns : List Int) (a b : Nat) : ∃ ms : List Int, cutW (ns.map W.int) (some (a : Int)) (some (b : Int)) = ms.map W.int ∧ ms.length ≤ b - a := by
  obtain ⟨x, y, e, h⟩ := cut_ft (ns.map W.int) a b
  refine ⟨(ns.drop x).take y, by rw [e, List.map_take, List.map_drop], by rw [List.length_take]; (clear e; omega)⟩
theorem scLw : FnScope ["_law_script", "_law_way", "_law_one", "_law_top", "_law_base", "_law_numbers_here", "_law_handed"] ["_law_script"] (defScope (top 41)) := ⟨rfl, rfl, rfl, by decide +kernel, rfl, by decide +kernel, by decide +kernel⟩
theorem fnLw (F : Fun K "law" "law" (top 41) f fd) (F1 : Fx P w K mg base "_law_number" ["_law_cells", "_law_many", "_law_bound", "_law_top"] 6 spNu) (F2 : Fx P w K mg base "_law_numbers" ["_law_cells", "_law_top"] 7 spNs) (F3 : Fx P w K mg base "_law_sums" ["_law_numbers_here"] 61 spSu) (F4 : Fx P w K mg base "_law_products" ["_law_numbers_here"] 7 spPd) (F5 : Fx P w K mg base "times" ["a", "b"] 4 spTi) (F6 : Fx P w K mg base "total" ["some"] 4 spTt) (F7 : Fx P w K mg base "_law_powers" ["_law_base", "_law_exponents"] 7 spPo) (F8 : Fx P w K mg base "_law_short" ["_law_number_here"] 1 spSh) (ml : mg "len" = none) (ms : mg "sum" = none) (mt : mg "list" = none) : WFn P w K mg base 110 f fd ["_law_script"] spLaw := by
  have nd := scLw.nd
  refine fn3 (k := 109) F scLw (fun ws G q e h => by obtain ⟨_, rfl, _⟩ := h; rfl) (fun cdv A outer s H E hr => ?_)
  apply bodyOf
  · exact (qss_cons (qs_set 1 nd rfl (.inl rfl) (qe_op q_mod (qe_callB (q_sum rfl) rfl ms b_sum (qa_cons (qe_slice (qe_var 0 rfl (.inl rfl)) qo_none (qo_some qe_int)) qa_nil)) qe_int)) (qss_cons (qs_set 2 nd rfl (.inl rfl) (qe_tup (qa_cons (qe_tup (qa_cons (qe_tup qa_nil) (qa_cons qe_int qa_nil))) qa_nil))) (qss_cons (qs_set 3 nd rfl (.inl rfl) (qe_ix q_ix (qe_lst (qa_cons (qe_var 2 rfl (.inl rfl)) (qa_cons (qe_tup (qa_cons (qe_tup (qa_cons (qe_tup qa_nil) (qa_cons qe_int qa_nil))) qa_nil)) (qa_cons (qe_tup (qa_cons (qe_tup (qa_cons (qe_var 2 rfl (.inl rfl)) (qa_cons qe_int qa_nil))) qa_nil)) qa_nil)))) (qe_var 1 rfl (.inl rfl)) (fun _ _ => rfl))) (qss_cons (qs_set 4 nd rfl (.inr rfl) (qe_tup qa_nil)) (qss_cons (qs_if (qt_cmp q_gt (qe_callB q_len rfl ml PySem.boot_len (qa_cons (qe_var 0 rfl (.inl rfl)) qa_nil)) qe_int (nomark _)) (qss_cons (qs_set 4 nd rfl (.inr rfl) (qe_fxn F1 (Room.mono hr (by omega)) rfl (qa_cons (qe_op q_add (qe_lst (qa_cons (qe_op q_divB (qe_ix q_ix (qe_var 0 rfl (.inl rfl)) qe_int (fun _ _ => rfl)) qe_int) qa_nil)) (qe_slice (qe_var 0 rfl (.inl rfl)) (qo_some qe_int) (qo_some qe_int))) (qa_cons (qe_op q_mod (qe_ix q_ix (qe_var 0 rfl (.inl rfl)) qe_int (fun _ _ => rfl)) qe_int) (qa_cons (qe_op q_pow qe_int qe_int) (qa_cons (qe_var 3 rfl (.inl rfl)) qa_nil)))))) qss_nil) qss_nil) (qss_cons (qs_set 5 nd rfl (.inl rfl) (qe_fxn F2 (Room.mono hr (by omega)) rfl (qa_cons (qe_slice (qe_var 0 rfl (.inl rfl)) (qo_some qe_int) (qo_some qe_int)) (qa_cons (qe_var 3 rfl (.inl rfl)) qa_nil)))) (qss_cons (qs_set 6 nd rfl (.inl rfl) (qe_callTy q_list rfl mt b_list (qa_cons (qe_var 5 rfl (.inl rfl)) qa_nil))) (qss_cons (qs_if (qt_w (qw_or (qt_not (qt_val (qe_fxn F3 (Room.mono hr (by omega)) rfl (qa_cons (qe_var 6 rfl (.inl rfl)) qa_nil)))) (qw_or1 (qt_not (qt_val (qe_fxn F4 (Room.mono hr (by omega)) rfl (qa_cons (qe_var 5 rfl (.inl rfl)) qa_nil))))))) (qss_cons (qs_ret qe_bl) qss_nil) qss_nil) (qss_cons (qs_if (qt_cmp (q_ne4 hr) (qe_fxn F5 (Room.mono hr (by omega)) rfl (qa_cons (qe_var 4 rfl (.inr (.inl rfl))) (qa_cons (qe_fxn F6 (Room.mono hr (by omega)) rfl (qa_cons (qe_var 6 rfl (.inl rfl)) qa_nil)) qa_nil))) (qe_fxn F6 (Room.mono hr (by omega)) rfl (qa_cons (qe_comp (compSc (by first | rfl | decide +kernel)) rfl (qi_seq (qe_var 5 rfl (.inl rfl))) (fun _ _ _ _ => (qg_nameB 1 (by first | assumption | decide +kernel | rfl) rfl (.inl rfl))) (fun _ _ _ _ => qts_nil) (fun _ _ _ _ => (qe_fxn F5 (Room.mono hr (by omega)) rfl (qa_cons (qe_var 3 rfl (.inr (.inl rfl))) (qa_cons (qe_var 1 rfl (.inl rfl)) qa_nil))))) qa_nil)) (nomark _)) (qss_cons (qs_ret qe_bl) qss_nil) qss_nil) (qss_cons (qs_if (qt_not (qt_val (qe_fxn F7 (Room.mono hr (by omega)) rfl (qa_cons (qe_var 4 rfl (.inr (.inl rfl))) (qa_cons (qe_comp (compSc (by first | rfl | decide +kernel)) rfl (qi_seq (qe_slice (qe_var 5 rfl (.inl rfl)) qo_none (qo_some qe_int))) (fun _ _ _ _ => (qg_nameB 1 (by first | assumption | decide +kernel | rfl) rfl (.inl rfl))) (fun _ _ _ _ => qts_nil) (fun _ _ _ _ => (qe_fxn F8 (Room.mono hr (by omega)) rfl (qa_cons (qe_var 1 rfl (.inl rfl)) qa_nil)))) qa_nil))))) (qss_cons (qs_ret qe_bl) qss_nil) qss_nil) (qss_cons (qs_ret (qe_cmp (q_eq4 hr) (qe_var 6 rfl (.inl rfl)) (qe_var 5 rfl (.inl rfl)) (nomark _))) qss_nil)))))))))))
  · rintro ws G q e ⟨ns, rfl, hl, hq⟩
    refine seqU fun U hU => ?_
    walk_at "R"
    refine ⟨by exact Nat.le_trans (by assumption) (Nat.le_of_ble_eq_true rfl), fun p0 hp0 => ?_⟩
    have c0 : cutW (ns.map W.int) none (some 3) = (ns.take 3).map W.int := by rw [show (3 : Int) = ((3 : Nat) : Int) from rfl, cut_to, List.map_take]
    rw [c0]
    refine ⟨_, updG_same, ?_⟩
    have le0 : GLe G (updG G p0 (GO.lst ((ns.take 3).map W.int))) := GLe.new hp0
    generalize updG G p0 (GO.lst ((ns.take 3).map W.int)) = G0 at le0 ⊢
    have hway : (ns.take 3).sum % 3 = 0 ∨ (ns.take 3).sum % 3 = 1 ∨ (ns.take 3).sum % 3 = 2 := by (clear F F1 F2 F3 F4 F5 F6 F7 F8 ml ms mt nd hr hl hq hU hp0 c0 le0; omega)
    generalize (ns.take 3).sum % 3 = way at hway ⊢
    subst hU
    refine seqU fun U hU => ?_
    walk_at "R"
    subst hU
    refine seqU fun U hU => ?_
    have main : ∀ (G1 : Gp) (t : O), GLe G G1 → Tp t → U { nx := fun x G1 => ∃ G0, GLe G0 G1 ∧ q W.non G0, rt := fun w G1 => ∃ G0, GLe G0 G1 ∧ q w G0 } [some (.scr ns), some (.int way), some (.tup [.tup [.tup [], .int 1]]), some (.tup (encP t)), none, none, none] G1 := fun G1 t le1 ht => by
      subst hU
      refine seqU fun U hU => ?_
      walk_at "R"
      subst hU
      refine seqU fun U hU => ?_
      have rest : ∀ (G2 : Gp) (a : O), GLe G G2 → Lim 4 3 (10 ^ 15) a → U { nx := fun x G1 => ∃ G0, GLe G0 G1 ∧ q W.non G0, rt := fun w G1 => ∃ G0, GLe G0 G1 ∧ q w G0 } [some (.scr ns), some (.int way), some (.tup [.tup [.tup [], .int 1]]), some (.tup (encP t)), some (.tup (encP a)), none, none] G2 := fun G2 a le2 ha => by
        have a1 := ha.dp
        have a2 := ha.hw
        have a3 := ha.mx
        subst hU
        refine seqU fun U hU => ?_
        walk_at "R"
        obtain ⟨ms, e1, e2⟩ := cut_ints ns 3 63
        have e1 : cutW (ns.map W.int) (some 3) (some 63) = ms.map W.int := e1
        rw [e1]
        refine ⟨by exact Nat.le_trans (by assumption) (Nat.le_of_ble_eq_true rfl), fun p2 hp2 => ⟨p2, ms, t, rfl, updG_same, by assumption, ht, fun p3 os hp3 hos ho => ?_⟩⟩
        have le3 : GLe G (updG (updG G2 p2 (GO.lst (ms.map W.int))) p3 (GO.lst (nums os))) := (le2.trans (GLe.new hp2)).trans (GLe.new hp3)
        have g3 := updG_same (G := updG G2 p2 (GO.lst (ms.map W.int))) (a := p3) (g := GO.lst (nums os))
        generalize updG (updG G2 p2 (GO.lst (ms.map W.int))) p3 (GO.lst (nums os)) = G3 at le3 g3 ⊢
        have hno : ∀ o, o ∈ os → o.NF := fun o h => (ho o h).nf
        subst hU
        refine seqU fun U hU => ?_
        walk_at "R"
        refine ⟨_, g3, fun p4 hp4 => ?_⟩
        have le4 : GLe G (updG G3 p4 (GO.lst (nums os))) := le3.trans (GLe.new hp4)
        have g4 := updG_same (G := G3) (a := p4) (g := GO.lst (nums os))
        have g34 := updG_ne' (g := GO.lst (nums os)) g3 hp4
        generalize updG G3 p4 (GO.lst (nums os)) = G4 at le4 g4 g34 ⊢
        subst hU
        refine seqU fun U hU => ?_
        walk_at "R"
        refine ⟨p4, os, rfl, g4, hos, ho, ?_⟩
        walk_at "R"
        refine ⟨p3, os, rfl, g34, hos, ho, ?_⟩
        walk_at "R"
        subst hU
        refine seqU fun U hU => ?_
        walk_at "R"
        have hE := sumR_lim (by decide) ho
        have b1 := hE.dp
        have b2 := hE.hw
        have b3 := hE.mx
        refine ⟨p4, os, rfl, g4, hos, fun o h => ⟨hno o h, by have := (ho o h).dp; exact Nat.le_trans (by assumption) (Nat.le_of_ble_eq_true rfl), by have := (ho o h).hw; exact Nat.le_trans (by assumption) (Nat.le_of_ble_eq_true rfl)⟩, ?_⟩
        have k42 : (10 : Int) ^ 42 ≤ cap := by decide +kernel
        have k15 : (10 : Int) ^ 15 ≤ cap := by decide +kernel
        have k40 : (10 : Int) ^ 40 ≤ cap := by decide +kernel
        refine ⟨a, _, rfl, ha.nf, hE.nf, by exact Nat.le_trans (by assumption) (Nat.le_of_ble_eq_true rfl), by exact Nat.le_trans (by assumption) (Nat.le_of_ble_eq_true rfl), by exact Nat.le_trans (by assumption) (Nat.le_of_ble_eq_true rfl), by (clear F F1 F2 F3 F4 F5 F6 F7 F8 ml mt nd hr hl hq hp0 c0 le0 hway le1 ht le2 ha a1 a2 a3 e2 e1 hp2 hp3 ho le3 g3 hno hp4 le4 g4 g34 hU hE b1 b3 k42 k15 k40; omega), Int.le_trans a3 k15, Int.le_trans (b := 10 ^ 42) (by (clear F F1 F2 F3 F4 F5 F6 F7 F8 ml mt nd hr hl hq hp0 c0 le0 hway le1 ht le2 ha a1 a2 a3 e2 e1 hp2 hp3 ho le3 g3 hno hp4 le4 g4 g34 hU hE b1 b2 k42 k15 k40; omega)) k42, ?_⟩
        refine ⟨_, g34, ?_⟩
        show compW _ _ _ _ (os.map fun o => W.tup (encP o)) [none, none, none, some (W.tup (encP a))] G4 [] _
        refine comp_by (fun o => W.tup (encP o)) (fun o => W.tup (encP (O.timesO a o))) g34 (fun o hm k hk => ?_) (by simp only [List.length_nil]; (clear F F1 F2 F3 F4 F5 F6 F7 F8 ml mt nd hr hl hq hp0 c0 le0 hway le1 ht le2 ha a1 a2 a3 e2 e1 hp2 hp3 ho le3 g3 hno hp4 le4 g4 g34 hU hE b1 b2 b3 k42 k15 k40; omega)) (fun _ => rfl) fun p5 hp5 => ?_
        · have o1 := (ho o hm).dp
          have o2 := (ho o hm).hw
          walk_at "R"
          exact ⟨a, o, rfl, ha.nf, hno o hm, by exact Nat.le_trans (by assumption) (Nat.le_of_ble_eq_true rfl), by exact Nat.le_trans (by assumption) (Nat.le_of_ble_eq_true rfl), by exact Nat.le_trans (by assumption) (Nat.le_of_ble_eq_true rfl), by exact Nat.le_trans (by assumption) (Nat.le_of_ble_eq_true rfl), Int.le_trans a3 k15, Int.le_trans (ho o hm).mx k40, hk⟩
        have e5 : ([] : List W) ++ os.map (fun o => W.tup (encP (O.timesO a o))) = nums (os.map (O.timesO a)) := by rw [List.nil_append]; unfold nums; rw [List.map_map]; rfl
        rw [e5]
        refine ⟨p5, _, rfl, updG_same, by rw [List.length_map]; exact hos, fun o h => ?_, ?_⟩
        · obtain ⟨x, hx, rfl⟩ := List.mem_map.mp h
          have o1 := (ho x hx).dp
          have o2 := (ho x hx).hw
          have o3 := O.dp_times a x
          have o4 := O.hw_times a x
          exact ⟨ha.nf.times (hno x hx), by (clear F F1 F2 F3 F4 F5 F6 F7 F8 ml mt nd hr hl hq hp0 c0 le0 hway le1 ht le2 ha a2 a3 e2 e1 hp2 hp3 hos ho le3 g3 hno hp4 le4 g4 g34 hU hE b1 b2 b3 k42 k15 k40 hp5 e5 hx h o2 o4; omega), by (clear F F1 F2 F3 F4 F5 F6 F7 F8 ml mt nd hr hl hq hp0 c0 le0 hway le1 ht le2 ha a1 a3 e2 e1 hp2 hp3 hos ho le3 g3 hno hp4 le4 g4 g34 hU hE b1 b2 b3 k42 k15 k40 hp5 e5 hx h o1 o3; omega)⟩
        rw [← mul_sum ha.nf hno]
        have d5 := O.dp_times a (sumR os)
        have d6 := tup_dep (O.timesO a (sumR os))
        walk_at "R"
        refine ⟨tup_flat _, tup_flat _, by (clear F F1 F2 F3 F4 F5 F6 F7 F8 ml mt nd hr hl hq hp0 c0 le0 hway le1 ht le2 ha a2 a3 e2 e1 hp2 hp3 hos ho le3 g3 hno hp4 le4 g4 g34 hU hE b2 b3 k42 k15 k40 hp5 e5; omega), ?_⟩
        rw [tup_eq, if_neg (by simp)]
        have le5 : GLe G (updG G4 p5 (GO.lst (nums (os.map (O.timesO a))))) := le4.trans (GLe.new hp5)
        have g45 := updG_ne' (g := GO.lst (nums (os.map (O.timesO a)))) g4 hp5
        have g35 := updG_ne' (g := GO.lst (nums (os.map (O.timesO a)))) g34 hp5
        generalize updG G4 p5 (GO.lst (nums (os.map (O.timesO a)))) = G5 at le5 g45 g35 ⊢
        subst hU
        refine seqU fun U hU => ?_
        walk_at "R"
        have e6 : cutW (nums os) none (some 5) = nums (os.take 5) := by
          rw [show (5 : Int) = ((5 : Nat) : Int) from rfl, cut_to]
          unfold nums
          rw [List.map_take]
        refine ⟨_, g35, fun p6 hp6 => ?_⟩
        rw [e6]
        refine ⟨_, updG_same, ?_⟩
        have le6 : GLe G (updG G5 p6 (GO.lst (nums (os.take 5)))) := le5.trans (GLe.new hp6)
        have g6 := updG_same (G := G5) (a := p6) (g := GO.lst (nums (os.take 5)))
        have g46 := updG_ne' (g := GO.lst (nums (os.take 5))) g45 hp6
        have g36 := updG_ne' (g := GO.lst (nums (os.take 5))) g35 hp6
        generalize updG G5 p6 (GO.lst (nums (os.take 5))) = G6 at le6 g6 g46 g36 ⊢
        show compW _ _ _ _ _ [none, none, none] G6 [] _
        have l5 : (os.take 5).length ≤ 5 := by rw [List.length_take]; (clear F F1 F2 F3 F4 F5 F6 F7 F8 ml mt nd hr hl hq hp0 c0 le0 hway le1 ht le2 ha a1 a2 a3 e2 e1 hp2 hp3 ho le3 g3 hno hp4 le4 g4 g34 hE b1 b2 b3 k42 k15 k40 hp5 e5 d5 d6 le5 g45 g35 hU e6 hp6 le6 g6 g46 g36; omega)
        refine comp_ind (fun ws acc G' => G' = G6 ∧ ∃ (k : Nat) (es : List O), ws = nums ((os.take 5).drop k) ∧ acc = nums es ∧ es.length = k ∧ k ≤ (os.take 5).length ∧ ∀ o, o ∈ es → Lim 4 4 (10 ^ 40) o ∧ O.same .z o ≤ 2) ?_ ?_ ⟨rfl, 0, [], rfl, rfl, rfl, Nat.zero_le _, fun _ h => (nomatch h)⟩ (by rw [nums_length]; simp only [List.length_nil]; (clear F F1 F2 F3 F4 F5 F6 F7 F8 ml mt nd hr hl hq hp0 c0 le0 hway le1 ht le2 ha a1 a2 a3 e2 e1 hp2 hp3 hos ho le3 g3 hno hp4 le4 g4 g34 hE b1 b2 b3 k42 k15 k40 hp5 e5 d5 d6 le5 g45 g35 hU e6 hp6 le6 g6 g46 g36; omega)) (fun _ => rfl)
        · rintro acc G' ⟨rfl, k, es, hw, rfl, hk, hk5, hes⟩
          refine ⟨g6, fun p7 hp7 => ⟨a, p7, es, rfl, updG_same, ha, by (clear F F1 F2 F3 F4 F5 F6 F7 F8 ml mt nd hr hl hq hp0 c0 le0 hway le1 ht le2 ha a1 a2 a3 e2 e1 hp2 hp3 hos ho le3 g3 hno hp4 le4 g4 g34 hE b1 b2 b3 k42 k15 k40 hp5 e5 d5 d6 le5 g45 g35 hU e6 hp6 le6 g6 g46 g36 hw hes hp7; omega), hes, ?_⟩⟩
          walk_at "R"
          have le7 : GLe G (updG G' p7 (GO.lst (nums es))) := le6.trans (GLe.new hp7)
          have g47 := updG_ne' (g := GO.lst (nums es)) g46 hp7
          have g37 := updG_ne' (g := GO.lst (nums es)) g36 hp7
          have dn := nums_deps (os := os) fun o h => by have := (ho o h).dp; exact Nat.le_trans (by assumption) (Nat.le_of_ble_eq_true rfl)
          subst hU
          walk_at "R"
          refine ⟨_, _, g47, g37, nums_flat _, nums_flat _, by exact Nat.le_trans (by assumption) (Nat.le_of_ble_eq_true rfl), ?_⟩
          rw [nums_eqs_self]
          exact ⟨G, le7, hq _⟩
        · rintro x ws acc G' kk ⟨rfl, k, es, hw, rfl, hk, hk5, hes⟩ hkk
          have hlt : k < (os.take 5).length := by
            rcases Nat.lt_or_ge k (os.take 5).length with h | h
            · exact h
            · rw [List.drop_of_length_le h] at hw; cases hw
          rw [List.drop_eq_getElem_cons hlt] at hw
          cases hw
          refine ⟨g6, ?_⟩
          have hm : (os.take 5)[k] ∈ os := List.mem_of_mem_take (List.getElem_mem hlt)
          walk_at "R"
          refine ⟨_, rfl, ho _ hm, fun o h1 h2 => hkk _ _ ⟨rfl, k + 1, es ++ [o], rfl, nums_app _ _, by rw [List.length_append, hk]; rfl, hlt, fun y hy => ?_⟩ (by rw [nums_length]; (clear F F1 F2 F3 F4 F5 F6 F7 F8 ml mt nd hr hl hq hp0 c0 le0 hway le1 ht le2 ha a1 a2 a3 e2 e1 hp2 hp3 hos ho le3 g3 hno hp4 le4 g4 g34 hE b1 b2 b3 k42 k15 k40 hp5 e5 d5 d6 le5 g45 g35 hU e6 hp6 le6 g6 g46 g36 hk5 hes hkk hm h1 h2; omega))⟩
          rcases List.mem_append.mp hy with hy | hy
          · exact hes y hy
          · rw [List.mem_singleton.mp hy]; exact ⟨h1, h2⟩
      walk_at "R"
      split
      · rename_i h0
        obtain ⟨n, hn⟩ := ints_at (ns := ns) (i := 0) (by (clear F F1 F2 F3 F4 F5 F6 F7 F8 ml ms mt nd hr hl hq hp0 c0 le0 hway le1 ht hU rest h0; omega)) (by assumption)
        obtain ⟨ms, e1, e2⟩ := cut_ints ns 1 2
        have e1 : cutW (ns.map W.int) (some 1) (some 2) = ms.map W.int := e1
        rw [e1]
        refine ⟨n, hn, fun p2 hp2 => ⟨by exact Nat.le_trans (by assumption) (Nat.le_of_ble_eq_true rfl), fun p3 hp3 => ⟨_, _, updG_ne' updG_same hp3, updG_same, by simp only [List.length_cons, List.length_nil, List.length_map]; (clear F F1 F2 F3 F4 F5 F6 F7 F8 ml mt nd hr hl hq hp0 c0 le0 hway le1 ht hU rest h0 hn e1 hp2 hp3; omega), fun p4 hp4 => ⟨n, hn, ?_⟩⟩⟩⟩
        refine ⟨p4, (n / 3) :: ms, n % 3, _, t, rfl, updG_same, by (clear F F1 F2 F3 F4 F5 F6 F7 F8 ml mt nd hr hl hq hp0 c0 le0 hway le1 ht hU rest h0 hn e2 e1 hp2 hp3 hp4; omega), by (clear F F1 F2 F3 F4 F5 F6 F7 F8 ml mt nd hr hl hq hp0 c0 le0 hway le1 ht hU rest h0 hn e2 e1 hp2 hp3 hp4; omega), by decide, by decide, ht, fun o ho hlen => ?_⟩
        exact rest _ o (((le1.trans (GLe.new hp2)).trans (GLe.new hp3)).trans (GLe.new hp4)) ho
      · exact rest _ .z le1 ⟨trivial, by decide, by decide, by decide⟩
    walk_at "R"
    intro p1 hp1
    rcases hway with rfl | rfl | rfl
    · refine ⟨_, _, updG_same, atI_nat (j := 0) rfl, main _ (.c .z 1 .z) (le0.trans (GLe.new hp1)) ⟨⟨trivial, by (clear F F1 F2 F3 F4 F5 F6 F7 F8 ml ms mt nd hr hl hq hp0 c0 le0 hU hp1 main; omega), trivial, trivial⟩, by simp, by decide, by decide, by decide⟩⟩
    · refine ⟨_, _, updG_same, atI_nat (j := 1) rfl, main _ (.c .z 2 .z) (le0.trans (GLe.new hp1)) ⟨⟨trivial, by (clear F F1 F2 F3 F4 F5 F6 F7 F8 ml ms mt nd hr hl hq hp0 c0 le0 hU hp1 main; omega), trivial, trivial⟩, by simp, by decide, by decide, by decide⟩⟩
    · refine ⟨_, _, updG_same, atI_nat (j := 2) rfl, main _ (.c (.c .z 1 .z) 1 .z) (le0.trans (GLe.new hp1)) ⟨⟨⟨trivial, by (clear F F1 F2 F3 F4 F5 F6 F7 F8 ml ms mt nd hr hl hq hp0 c0 le0 hU hp1 main; omega), trivial, trivial⟩, by (clear F F1 F2 F3 F4 F5 F6 F7 F8 ml ms mt nd hr hl hq hp0 c0 le0 hU hp1 main; omega), trivial, trivial⟩, by simp, by decide, by decide, by decide⟩⟩
theorem law_ok (T : Txt K mg) (F : Fun K "law" "law" (top 41) f fd) : WFn P w K mg base 110 f fd ["_law_script"] spLaw := by
  have Or := fxOr (P := P) (w := w) (base := base) T 60
  have Cm := T.d_compare.fx (P := P) (w := w) (base := base) fun f fd F => fnCm F
  have Pa := T.d_parts_above.fx fun f fd F => fnPa F Cm T.z_len
  have Ps := T.d_plus.fx fun f fd F => fnPs F Pa T.z_len
  have Wp := T.d_whole_part.fx (P := P) (w := w) (base := base) fun f fd F => fnWp F
  have Wo := T.d_without_whole.fx fun f fd F => fnWo F Wp
  have Ti := T.d_times.fx fun f fd F => fnTi F Wp Wo Ps T.z_tuple
  have Wh := T.d_is_whole.fxd (P := P) (w := w) (base := base) fun f fd T' ds F => fnWh F T.z_isinstance T.z_int T.z_bool
  have Rs := T.d_raised.fx (P := P) (w := w) (base := base) fun f fd T' ds F => fnRs F Wh
  have Rd := T.d_raised.fxd (P := P) (w := w) (base := base) fun f fd T' ds F => fnRs F Wh
  have Wl := T.d_whole.fx fun f fd F => fnWl F Rs
  have Al := T.d_parts_alike.fx (P := P) (w := w) (base := base) fun f fd F => fnAl F T.z_len
  have Mi := T.d_minus.fx fun f fd F => fnMi F Cm Al T.z_len
  have Ho := T.d_how_often.fx fun f fd F => fnHo F Cm Ti Wl
  have Dv := T.d_divided.fx fun f fd F => fnDv F Cm Ti Wl Mi Ho T.z_len T.z_tuple
  have Wn := T.d_whole_power.fx fun f fd F => fnWn F Ti Wl T.z_range
  have Ep := T.d_endless_power.fx fun f fd F => fnEp F Ti Wl Mi Rd T.z_tuple
  obtain ⟨t1, c1⟩ := T.c_MOST_FACTORS
  obtain ⟨t2, c2⟩ := T.c_MOST_PARTS
  have Tg := T.d_is_too_great.fx fun f fd F => fnTg F Wp T.z_len T.z_max c1 c2
  have Pp := T.d_power_of_part.fx fun f fd F => fnPp F Wp Ti Rs
  have Pw := T.d_power.fx fun f fd F => fnPw F Wl Pp Tg Ti Ep Wo Wn Wp T.z_len
  have Ex := T.d__law_exponent.fx (P := P) (w := w) (base := base) fun f fd F => fnEx F T.z_tuple
  have Pr := T.d__law_pair.fx (P := P) (w := w) (base := base) fun f fd F => fnPr F
  have Nu := T.d__law_number.fx fun f fd F => fnNu F Pr Ex T.z_tuple T.z_sorted
  have Ns := T.d__law_numbers.fx fun f fd F => fnNs F Nu T.z_len T.z_range
  have Sh := T.d__law_short.fx (P := P) (w := w) (base := base) fun f fd F => fnSh F T.z_len
  have Tt := T.d_total.fx fun f fd F => fnTt F Ps
  have Su := T.d__law_sums.fx fun f fd F => fnSu F Ps Tt Mi Or T.z_len T.z_range T.z_reversed T.z_int
  have Pd := T.d__law_products.fx fun f fd F => fnPd F Ti Dv T.z_len T.z_reversed
  have Po := T.d__law_powers.fx fun f fd F => fnPo F Ti Pw Tt T.z_len
  exact fnLw F Nu Ns Su Pd Ti Tt Po Sh T.z_len T.z_sum T.z_list


end
set_option maxHeartbeats 0 in
theorem all_mk {l : PySem.W.OpenLaw} {w : World} {K : PySem.W.Frag} {h : Heap} {mg : Str → Option Value} {fa f1 f2 f3 f4 f5 f6 f7 f8 f9 f10 f11 f12 f13 f14 f15 f16 f17 f18 f19 f20 f21 f22 f23 f24 f25 f26 f27 f28 f29 : Addr} (X : K.In h) (G : h.Ns mainGlobals mg) (hfa : mg "law" = some (.ref fa))
    {od1 an1 od2 an2 od3 an3 od4 an4 od5 an5 od6 an6 od7 an7 od8 an8 od9 an9 od10 an10 od11 an11 od12 an12 od13 an13 od14 an14 od15 an15 od16 an16 od17 an17 od18 an18 od19 an19 od20 an20 od21 an21 od22 an22 od23 an23 od24 an24 od25 an25 od26 an26 od27 an27 od28 an28 od29 an29 : Option Addr} {sl1 sl2 sl3 sl4 sl5 sl6 sl7 sl8 sl9 sl10 sl11 sl12 sl13 sl14 sl15 sl16 sl17 sl18 sl19 sl20 sl21 sl22 sl23 sl24 sl25 sl26 sl27 sl28 sl29 : Array (Option Value)} {oc1 kV1 dc1 pm1 cd1 ct1 oc2 kV2 dc2 pm2 cd2 ct2 oc3 kV3 dc3 pm3 cd3 ct3 oc4 kV4 dc4 pm4 cd4 ct4 oc5 kV5 dc5 pm5 cd5 ct5 oc6 kV6 dc6 pm6 cd6 ct6 oc7 kV7 dc7 pm7 cd7 ct7 oc8 kV8 dc8 pm8 cd8 ct8 oc9 kV9 dc9 pm9 cd9 ct9 oc10 kV10 dc10 pm10 cd10 ct10 oc11 kV11 dc11 pm11 cd11 ct11 oc12 kV12 dc12 pm12 cd12 ct12 oc13 kV13 dc13 pm13 cd13 ct13 oc14 kV14 dc14 pm14 cd14 ct14 oc15 kV15 dc15 pm15 cd15 ct15 oc16 kV16 dc16 pm16 cd16 ct16 oc17 kV17 dc17 pm17 cd17 ct17 oc18 kV18 dc18 pm18 cd18 ct18 oc19 kV19 dc19 pm19 cd19 ct19 oc20 kV20 dc20 pm20 cd20 ct20 oc21 kV21 dc21 pm21 cd21 ct21 oc22 kV22 dc22 pm22 cd22 ct22 oc23 kV23 dc23 pm23 cd23 ct23 oc24 kV24 dc24 pm24 cd24 ct24 oc25 kV25 dc25 pm25 cd25 ct25 oc26 kV26 dc26 pm26 cd26 ct26 oc27 kV27 dc27 pm27 cd27 ct27 oc28 kV28 dc28 pm28 cd28 ct28 oc29 kV29 dc29 pm29 cd29 ct29 : Value} {T1 : Addr} {tc1 : Value} {td1 : Option Addr} {tn1 : Nat} {ts1 : Array (Option Value)} {tk1_0 : Tok} {T3 : Addr} {tc3 : Value} {td3 : Option Addr} {tn3 : Nat} {ts3 : Array (Option Value)} {tk3_0 : Tok} {ct_1 : Tok} {ct_2 : Tok}
    (a1 : PySem.W.nsIn K mainGlobals "is_whole" = some (some (.ref f1))) (l1 : K.lookup f1 = some ⟨oc1, od1, .func (PySem.W.fnOf "is_whole" "is_whole" (defArgs (top 7)) (defBody (top 7)) (defScope (top 7)) (.ref T1) kV1 dc1 pm1 an1 cd1 ct1), sl1⟩) (c1 : PySem.W.codeIn K cd1 "is_whole" = true) (k1 : PySem.W.keepIn K (.ref f1) = true)
    (a2 : PySem.W.nsIn K mainGlobals "whole" = some (some (.ref f2))) (l2 : K.lookup f2 = some ⟨oc2, od2, .func (PySem.W.fnOf "whole" "whole" (defArgs (top 8)) (defBody (top 8)) (defScope (top 8)) .none kV2 dc2 pm2 an2 cd2 ct2), sl2⟩) (c2 : PySem.W.codeIn K cd2 "whole" = true) (k2 : PySem.W.keepIn K (.ref f2) = true)
    (a3 : PySem.W.nsIn K mainGlobals "raised" = some (some (.ref f3))) (l3 : K.lookup f3 = some ⟨oc3, od3, .func (PySem.W.fnOf "raised" "raised" (defArgs (top 9)) (defBody (top 9)) (defScope (top 9)) (.ref T3) kV3 dc3 pm3 an3 cd3 ct3), sl3⟩) (c3 : PySem.W.codeIn K cd3 "raised" = true) (k3 : PySem.W.keepIn K (.ref f3) = true)
    (a4 : PySem.W.nsIn K mainGlobals "compare" = some (some (.ref f4))) (l4 : K.lookup f4 = some ⟨oc4, od4, .func (PySem.W.fnOf "compare" "compare" (defArgs (top 10)) (defBody (top 10)) (defScope (top 10)) .none kV4 dc4 pm4 an4 cd4 ct4), sl4⟩) (c4 : PySem.W.codeIn K cd4 "compare" = true) (k4 : PySem.W.keepIn K (.ref f4) = true)
    (a5 : PySem.W.nsIn K mainGlobals "whole_part" = some (some (.ref f5))) (l5 : K.lookup f5 = some ⟨oc5, od5, .func (PySem.W.fnOf "whole_part" "whole_part" (defArgs (top 11)) (defBody (top 11)) (defScope (top 11)) .none kV5 dc5 pm5 an5 cd5 ct5), sl5⟩) (c5 : PySem.W.codeIn K cd5 "whole_part" = true) (k5 : PySem.W.keepIn K (.ref f5) = true)
    (a6 : PySem.W.nsIn K mainGlobals "without_whole" = some (some (.ref f6))) (l6 : K.lookup f6 = some ⟨oc6, od6, .func (PySem.W.fnOf "without_whole" "without_whole" (defArgs (top 12)) (defBody (top 12)) (defScope (top 12)) .none kV6 dc6 pm6 an6 cd6 ct6), sl6⟩) (c6 : PySem.W.codeIn K cd6 "without_whole" = true) (k6 : PySem.W.keepIn K (.ref f6) = true)
    (a7 : PySem.W.nsIn K mainGlobals "plus" = some (some (.ref f7))) (l7 : K.lookup f7 = some ⟨oc7, od7, .func (PySem.W.fnOf "plus" "plus" (defArgs (top 14)) (defBody (top 14)) (defScope (top 14)) .none kV7 dc7 pm7 an7 cd7 ct7), sl7⟩) (c7 : PySem.W.codeIn K cd7 "plus" = true) (k7 : PySem.W.keepIn K (.ref f7) = true)
    (a8 : PySem.W.nsIn K mainGlobals "parts_above" = some (some (.ref f8))) (l8 : K.lookup f8 = some ⟨oc8, od8, .func (PySem.W.fnOf "parts_above" "parts_above" (defArgs (top 15)) (defBody (top 15)) (defScope (top 15)) .none kV8 dc8 pm8 an8 cd8 ct8), sl8⟩) (c8 : PySem.W.codeIn K cd8 "parts_above" = true) (k8 : PySem.W.keepIn K (.ref f8) = true)
    (a9 : PySem.W.nsIn K mainGlobals "total" = some (some (.ref f9))) (l9 : K.lookup f9 = some ⟨oc9, od9, .func (PySem.W.fnOf "total" "total" (defArgs (top 16)) (defBody (top 16)) (defScope (top 16)) .none kV9 dc9 pm9 an9 cd9 ct9), sl9⟩) (c9 : PySem.W.codeIn K cd9 "total" = true) (k9 : PySem.W.keepIn K (.ref f9) = true)
    (a10 : PySem.W.nsIn K mainGlobals "minus" = some (some (.ref f10))) (l10 : K.lookup f10 = some ⟨oc10, od10, .func (PySem.W.fnOf "minus" "minus" (defArgs (top 17)) (defBody (top 17)) (defScope (top 17)) .none kV10 dc10 pm10 an10 cd10 ct10), sl10⟩) (c10 : PySem.W.codeIn K cd10 "minus" = true) (k10 : PySem.W.keepIn K (.ref f10) = true)
    (a11 : PySem.W.nsIn K mainGlobals "parts_alike" = some (some (.ref f11))) (l11 : K.lookup f11 = some ⟨oc11, od11, .func (PySem.W.fnOf "parts_alike" "parts_alike" (defArgs (top 18)) (defBody (top 18)) (defScope (top 18)) .none kV11 dc11 pm11 an11 cd11 ct11), sl11⟩) (c11 : PySem.W.codeIn K cd11 "parts_alike" = true) (k11 : PySem.W.keepIn K (.ref f11) = true)
    (a12 : PySem.W.nsIn K mainGlobals "times" = some (some (.ref f12))) (l12 : K.lookup f12 = some ⟨oc12, od12, .func (PySem.W.fnOf "times" "times" (defArgs (top 20)) (defBody (top 20)) (defScope (top 20)) .none kV12 dc12 pm12 an12 cd12 ct12), sl12⟩) (c12 : PySem.W.codeIn K cd12 "times" = true) (k12 : PySem.W.keepIn K (.ref f12) = true)
    (a13 : PySem.W.nsIn K mainGlobals "divided" = some (some (.ref f13))) (l13 : K.lookup f13 = some ⟨oc13, od13, .func (PySem.W.fnOf "divided" "divided" (defArgs (top 21)) (defBody (top 21)) (defScope (top 21)) .none kV13 dc13 pm13 an13 cd13 ct13), sl13⟩) (c13 : PySem.W.codeIn K cd13 "divided" = true) (k13 : PySem.W.keepIn K (.ref f13) = true)
    (a14 : PySem.W.nsIn K mainGlobals "how_often" = some (some (.ref f14))) (l14 : K.lookup f14 = some ⟨oc14, od14, .func (PySem.W.fnOf "how_often" "how_often" (defArgs (top 22)) (defBody (top 22)) (defScope (top 22)) .none kV14 dc14 pm14 an14 cd14 ct14), sl14⟩) (c14 : PySem.W.codeIn K cd14 "how_often" = true) (k14 : PySem.W.keepIn K (.ref f14) = true)
    (a15 : PySem.W.nsIn K mainGlobals "power" = some (some (.ref f15))) (l15 : K.lookup f15 = some ⟨oc15, od15, .func (PySem.W.fnOf "power" "power" (defArgs (top 26)) (defBody (top 26)) (defScope (top 26)) .none kV15 dc15 pm15 an15 cd15 ct15), sl15⟩) (c15 : PySem.W.codeIn K cd15 "power" = true) (k15 : PySem.W.keepIn K (.ref f15) = true)
    (a16 : PySem.W.nsIn K mainGlobals "power_of_part" = some (some (.ref f16))) (l16 : K.lookup f16 = some ⟨oc16, od16, .func (PySem.W.fnOf "power_of_part" "power_of_part" (defArgs (top 27)) (defBody (top 27)) (defScope (top 27)) .none kV16 dc16 pm16 an16 cd16 ct16), sl16⟩) (c16 : PySem.W.codeIn K cd16 "power_of_part" = true) (k16 : PySem.W.keepIn K (.ref f16) = true)
    (a17 : PySem.W.nsIn K mainGlobals "is_too_great" = some (some (.ref f17))) (l17 : K.lookup f17 = some ⟨oc17, od17, .func (PySem.W.fnOf "is_too_great" "is_too_great" (defArgs (top 28)) (defBody (top 28)) (defScope (top 28)) .none kV17 dc17 pm17 an17 cd17 ct17), sl17⟩) (c17 : PySem.W.codeIn K cd17 "is_too_great" = true) (k17 : PySem.W.keepIn K (.ref f17) = true)
    (a18 : PySem.W.nsIn K mainGlobals "endless_power" = some (some (.ref f18))) (l18 : K.lookup f18 = some ⟨oc18, od18, .func (PySem.W.fnOf "endless_power" "endless_power" (defArgs (top 29)) (defBody (top 29)) (defScope (top 29)) .none kV18 dc18 pm18 an18 cd18 ct18), sl18⟩) (c18 : PySem.W.codeIn K cd18 "endless_power" = true) (k18 : PySem.W.keepIn K (.ref f18) = true)
    (a19 : PySem.W.nsIn K mainGlobals "whole_power" = some (some (.ref f19))) (l19 : K.lookup f19 = some ⟨oc19, od19, .func (PySem.W.fnOf "whole_power" "whole_power" (defArgs (top 30)) (defBody (top 30)) (defScope (top 30)) .none kV19 dc19 pm19 an19 cd19 ct19), sl19⟩) (c19 : PySem.W.codeIn K cd19 "whole_power" = true) (k19 : PySem.W.keepIn K (.ref f19) = true)
    (a20 : PySem.W.nsIn K mainGlobals "_law_order" = some (some (.ref f20))) (l20 : K.lookup f20 = some ⟨oc20, od20, .func (PySem.W.fnOf "_law_order" "_law_order" (defArgs (top 32)) (defBody (top 32)) (defScope (top 32)) .none kV20 dc20 pm20 an20 cd20 ct20), sl20⟩) (c20 : PySem.W.codeIn K cd20 "_law_order" = true) (k20 : PySem.W.keepIn K (.ref f20) = true)
    (a21 : PySem.W.nsIn K mainGlobals "_law_exponent" = some (some (.ref f21))) (l21 : K.lookup f21 = some ⟨oc21, od21, .func (PySem.W.fnOf "_law_exponent" "_law_exponent" (defArgs (top 33)) (defBody (top 33)) (defScope (top 33)) .none kV21 dc21 pm21 an21 cd21 ct21), sl21⟩) (c21 : PySem.W.codeIn K cd21 "_law_exponent" = true) (k21 : PySem.W.keepIn K (.ref f21) = true)
    (a22 : PySem.W.nsIn K mainGlobals "_law_pair" = some (some (.ref f22))) (l22 : K.lookup f22 = some ⟨oc22, od22, .func (PySem.W.fnOf "_law_pair" "_law_pair" (defArgs (top 34)) (defBody (top 34)) (defScope (top 34)) .none kV22 dc22 pm22 an22 cd22 ct22), sl22⟩) (c22 : PySem.W.codeIn K cd22 "_law_pair" = true) (k22 : PySem.W.keepIn K (.ref f22) = true)
    (a23 : PySem.W.nsIn K mainGlobals "_law_number" = some (some (.ref f23))) (l23 : K.lookup f23 = some ⟨oc23, od23, .func (PySem.W.fnOf "_law_number" "_law_number" (defArgs (top 35)) (defBody (top 35)) (defScope (top 35)) .none kV23 dc23 pm23 an23 cd23 ct23), sl23⟩) (c23 : PySem.W.codeIn K cd23 "_law_number" = true) (k23 : PySem.W.keepIn K (.ref f23) = true)
    (a24 : PySem.W.nsIn K mainGlobals "_law_numbers" = some (some (.ref f24))) (l24 : K.lookup f24 = some ⟨oc24, od24, .func (PySem.W.fnOf "_law_numbers" "_law_numbers" (defArgs (top 36)) (defBody (top 36)) (defScope (top 36)) .none kV24 dc24 pm24 an24 cd24 ct24), sl24⟩) (c24 : PySem.W.codeIn K cd24 "_law_numbers" = true) (k24 : PySem.W.keepIn K (.ref f24) = true)
    (a25 : PySem.W.nsIn K mainGlobals "_law_short" = some (some (.ref f25))) (l25 : K.lookup f25 = some ⟨oc25, od25, .func (PySem.W.fnOf "_law_short" "_law_short" (defArgs (top 37)) (defBody (top 37)) (defScope (top 37)) .none kV25 dc25 pm25 an25 cd25 ct25), sl25⟩) (c25 : PySem.W.codeIn K cd25 "_law_short" = true) (k25 : PySem.W.keepIn K (.ref f25) = true)
    (a26 : PySem.W.nsIn K mainGlobals "_law_sums" = some (some (.ref f26))) (l26 : K.lookup f26 = some ⟨oc26, od26, .func (PySem.W.fnOf "_law_sums" "_law_sums" (defArgs (top 38)) (defBody (top 38)) (defScope (top 38)) .none kV26 dc26 pm26 an26 cd26 ct26), sl26⟩) (c26 : PySem.W.codeIn K cd26 "_law_sums" = true) (k26 : PySem.W.keepIn K (.ref f26) = true)
    (a27 : PySem.W.nsIn K mainGlobals "_law_products" = some (some (.ref f27))) (l27 : K.lookup f27 = some ⟨oc27, od27, .func (PySem.W.fnOf "_law_products" "_law_products" (defArgs (top 39)) (defBody (top 39)) (defScope (top 39)) .none kV27 dc27 pm27 an27 cd27 ct27), sl27⟩) (c27 : PySem.W.codeIn K cd27 "_law_products" = true) (k27 : PySem.W.keepIn K (.ref f27) = true)
    (a28 : PySem.W.nsIn K mainGlobals "_law_powers" = some (some (.ref f28))) (l28 : K.lookup f28 = some ⟨oc28, od28, .func (PySem.W.fnOf "_law_powers" "_law_powers" (defArgs (top 40)) (defBody (top 40)) (defScope (top 40)) .none kV28 dc28 pm28 an28 cd28 ct28), sl28⟩) (c28 : PySem.W.codeIn K cd28 "_law_powers" = true) (k28 : PySem.W.keepIn K (.ref f28) = true)
    (a29 : PySem.W.nsIn K mainGlobals "law" = some (some (.ref f29))) (l29 : K.lookup f29 = some ⟨oc29, od29, .func (PySem.W.fnOf "law" "law" (defArgs (top 41)) (defBody (top 41)) (defScope (top 41)) .none kV29 dc29 pm29 an29 cd29 ct29), sl29⟩) (c29 : PySem.W.codeIn K cd29 "law" = true) (k29 : PySem.W.keepIn K (.ref f29) = true)
    (t1 : K.lookup T1 = some ⟨tc1, td1, .seq #[.int 0 tk1_0] tn1, ts1⟩)
    (t3 : K.lookup T3 = some ⟨tc3, td3, .seq #[.int 1 tk3_0] tn3, ts3⟩)
    (cc1 : PySem.W.nsIn K mainGlobals "MOST_FACTORS" = some (some (.int 24 ct_1)))
    (cc2 : PySem.W.nsIn K mainGlobals "MOST_PARTS" = some (some (.int 24 ct_2)))
    (z1 : PySem.W.nsIn K mainGlobals "ValueError" = some none) (z2 : PySem.W.nsIn K mainGlobals "bool" = some none) (z3 : PySem.W.nsIn K mainGlobals "int" = some none) (z4 : PySem.W.nsIn K mainGlobals "isinstance" = some none) (z5 : PySem.W.nsIn K mainGlobals "len" = some none) (z6 : PySem.W.nsIn K mainGlobals "list" = some none) (z7 : PySem.W.nsIn K mainGlobals "max" = some none) (z8 : PySem.W.nsIn K mainGlobals "min" = some none) (z9 : PySem.W.nsIn K mainGlobals "range" = some none) (z10 : PySem.W.nsIn K mainGlobals "reversed" = some none) (z11 : PySem.W.nsIn K mainGlobals "sorted" = some none) (z12 : PySem.W.nsIn K mainGlobals "sum" = some none) (z13 : PySem.W.nsIn K mainGlobals "tuple" = some none) :
    ∃ fd : FuncData, (∀ (s : Shared) (v : Value), BindsTo s fd ⟨[v], []⟩ [("_law_script", v)]) ∧ ∀ base : Heap, K.In base → base.Ns mainGlobals mg → FnOk l.prog w K mg base CX0 110 fa fd ["_law_script"] (LSp K spLaw) := by
  have e := hfa.symm.trans (PySem.W.mg_of X G a29)
  cases e
  have F1 : FunD K "is_whole" "is_whole" (top 7) f1 _ T1 [.int 0 tk1_0] := fun_mkD l1 c1 k1 t1 rfl
  have b1 : Binds K _ ["thing", "least"] [] := F1.binds fun _ _ _ _ _ _ us hl => (fun (q : us.length = 2) => by clear hl; revert us; refine lnS (fun _ => lnS (fun _ => lnZ ?_)); exact ⟨_, rfl, rfl⟩) (by simpa using hl)
  have e1 : Binds K _ ["thing", "least"] [.int 0 tk1_0] := F1.binds fun _ _ _ _ _ _ us hl => (fun (q : us.length = 1) => by clear hl; revert us; refine lnS (fun _ => lnZ ?_); exact ⟨_, rfl, rfl⟩) (by simpa using hl)
  have F2 := fun_mk (st := top 8) l2 c2 k2
  have b2 := F2.binds (ps := ["n"]) fun _ _ _ _ _ _ => lnS (fun _ => lnZ rfl)
  have F3 : FunD K "raised" "raised" (top 9) f3 _ T3 [.int 1 tk3_0] := fun_mkD l3 c3 k3 t3 rfl
  have b3 : Binds K _ ["exponent", "times"] [] := F3.binds fun _ _ _ _ _ _ us hl => (fun (q : us.length = 2) => by clear hl; revert us; refine lnS (fun _ => lnS (fun _ => lnZ ?_)); exact ⟨_, rfl, rfl⟩) (by simpa using hl)
  have e3 : Binds K _ ["exponent", "times"] [.int 1 tk3_0] := F3.binds fun _ _ _ _ _ _ us hl => (fun (q : us.length = 1) => by clear hl; revert us; refine lnS (fun _ => lnZ ?_); exact ⟨_, rfl, rfl⟩) (by simpa using hl)
  have F4 := fun_mk (st := top 10) l4 c4 k4
  have b4 := F4.binds (ps := ["a", "b"]) fun _ _ _ _ _ _ => lnS (fun _ => lnS (fun _ => lnZ rfl))
  have F5 := fun_mk (st := top 11) l5 c5 k5
  have b5 := F5.binds (ps := ["a"]) fun _ _ _ _ _ _ => lnS (fun _ => lnZ rfl)
  have F6 := fun_mk (st := top 12) l6 c6 k6
  have b6 := F6.binds (ps := ["a"]) fun _ _ _ _ _ _ => lnS (fun _ => lnZ rfl)
  have F7 := fun_mk (st := top 14) l7 c7 k7
  have b7 := F7.binds (ps := ["a", "b"]) fun _ _ _ _ _ _ => lnS (fun _ => lnS (fun _ => lnZ rfl))
  have F8 := fun_mk (st := top 15) l8 c8 k8
  have b8 := F8.binds (ps := ["a", "exponent"]) fun _ _ _ _ _ _ => lnS (fun _ => lnS (fun _ => lnZ rfl))
  have F9 := fun_mk (st := top 16) l9 c9 k9
  have b9 := F9.binds (ps := ["some"]) fun _ _ _ _ _ _ => lnS (fun _ => lnZ rfl)
  have F10 := fun_mk (st := top 17) l10 c10 k10
  have b10 := F10.binds (ps := ["a", "b"]) fun _ _ _ _ _ _ => lnS (fun _ => lnS (fun _ => lnZ rfl))
  have F11 := fun_mk (st := top 18) l11 c11 k11
  have b11 := F11.binds (ps := ["a", "b"]) fun _ _ _ _ _ _ => lnS (fun _ => lnS (fun _ => lnZ rfl))
  have F12 := fun_mk (st := top 20) l12 c12 k12
  have b12 := F12.binds (ps := ["a", "b"]) fun _ _ _ _ _ _ => lnS (fun _ => lnS (fun _ => lnZ rfl))
  have F13 := fun_mk (st := top 21) l13 c13 k13
  have b13 := F13.binds (ps := ["a", "b"]) fun _ _ _ _ _ _ => lnS (fun _ => lnS (fun _ => lnZ rfl))
  have F14 := fun_mk (st := top 22) l14 c14 k14
  have b14 := F14.binds (ps := ["a", "b"]) fun _ _ _ _ _ _ => lnS (fun _ => lnS (fun _ => lnZ rfl))
  have F15 := fun_mk (st := top 26) l15 c15 k15
  have b15 := F15.binds (ps := ["a", "b"]) fun _ _ _ _ _ _ => lnS (fun _ => lnS (fun _ => lnZ rfl))
  have F16 := fun_mk (st := top 27) l16 c16 k16
  have b16 := F16.binds (ps := ["part", "b"]) fun _ _ _ _ _ _ => lnS (fun _ => lnS (fun _ => lnZ rfl))
  have F17 := fun_mk (st := top 28) l17 c17 k17
  have b17 := F17.binds (ps := ["a", "b"]) fun _ _ _ _ _ _ => lnS (fun _ => lnS (fun _ => lnZ rfl))
  have F18 := fun_mk (st := top 29) l18 c18 k18
  have b18 := F18.binds (ps := ["a", "limit"]) fun _ _ _ _ _ _ => lnS (fun _ => lnS (fun _ => lnZ rfl))
  have F19 := fun_mk (st := top 30) l19 c19 k19
  have b19 := F19.binds (ps := ["a", "n"]) fun _ _ _ _ _ _ => lnS (fun _ => lnS (fun _ => lnZ rfl))
  have F20 := fun_mk (st := top 32) l20 c20 k20
  have b20 := F20.binds (ps := ["_law_one", "_law_other"]) fun _ _ _ _ _ _ => lnS (fun _ => lnS (fun _ => lnZ rfl))
  have F21 := fun_mk (st := top 33) l21 c21 k21
  have b21 := F21.binds (ps := ["_law_pair_here", "_law_top"]) fun _ _ _ _ _ _ => lnS (fun _ => lnS (fun _ => lnZ rfl))
  have F22 := fun_mk (st := top 34) l22 c22 k22
  have b22 := F22.binds (ps := ["_law_cell"]) fun _ _ _ _ _ _ => lnS (fun _ => lnZ rfl)
  have F23 := fun_mk (st := top 35) l23 c23 k23
  have b23 := F23.binds (ps := ["_law_cells", "_law_many", "_law_bound", "_law_top"]) fun _ _ _ _ _ _ => lnS (fun _ => lnS (fun _ => lnS (fun _ => lnS (fun _ => lnZ rfl))))
  have F24 := fun_mk (st := top 36) l24 c24 k24
  have b24 := F24.binds (ps := ["_law_cells", "_law_top"]) fun _ _ _ _ _ _ => lnS (fun _ => lnS (fun _ => lnZ rfl))
  have F25 := fun_mk (st := top 37) l25 c25 k25
  have b25 := F25.binds (ps := ["_law_number_here"]) fun _ _ _ _ _ _ => lnS (fun _ => lnZ rfl)
  have F26 := fun_mk (st := top 38) l26 c26 k26
  have b26 := F26.binds (ps := ["_law_numbers_here"]) fun _ _ _ _ _ _ => lnS (fun _ => lnZ rfl)
  have F27 := fun_mk (st := top 39) l27 c27 k27
  have b27 := F27.binds (ps := ["_law_numbers_here"]) fun _ _ _ _ _ _ => lnS (fun _ => lnZ rfl)
  have F28 := fun_mk (st := top 40) l28 c28 k28
  have b28 := F28.binds (ps := ["_law_base", "_law_exponents"]) fun _ _ _ _ _ _ => lnS (fun _ => lnS (fun _ => lnZ rfl))
  have F29 := fun_mk (st := top 41) l29 c29 k29
  have T : Txt K mg := ⟨⟨f1, _, T1, _, [.int 0], F1, b1, e1, PySem.W.mg_of X G a1, (.cons ⟨_, rfl⟩ .nil), fun _ => (.cons (.int _) .nil)⟩, ⟨f2, _, F2, b2, PySem.W.mg_of X G a2⟩, ⟨f3, _, T3, _, [.int 1], F3, b3, e3, PySem.W.mg_of X G a3, (.cons ⟨_, rfl⟩ .nil), fun _ => (.cons (.int _) .nil)⟩, ⟨f4, _, F4, b4, PySem.W.mg_of X G a4⟩, ⟨f5, _, F5, b5, PySem.W.mg_of X G a5⟩, ⟨f6, _, F6, b6, PySem.W.mg_of X G a6⟩, ⟨f7, _, F7, b7, PySem.W.mg_of X G a7⟩, ⟨f8, _, F8, b8, PySem.W.mg_of X G a8⟩, ⟨f9, _, F9, b9, PySem.W.mg_of X G a9⟩, ⟨f10, _, F10, b10, PySem.W.mg_of X G a10⟩, ⟨f11, _, F11, b11, PySem.W.mg_of X G a11⟩, ⟨f12, _, F12, b12, PySem.W.mg_of X G a12⟩, ⟨f13, _, F13, b13, PySem.W.mg_of X G a13⟩, ⟨f14, _, F14, b14, PySem.W.mg_of X G a14⟩, ⟨f15, _, F15, b15, PySem.W.mg_of X G a15⟩, ⟨f16, _, F16, b16, PySem.W.mg_of X G a16⟩, ⟨f17, _, F17, b17, PySem.W.mg_of X G a17⟩, ⟨f18, _, F18, b18, PySem.W.mg_of X G a18⟩, ⟨f19, _, F19, b19, PySem.W.mg_of X G a19⟩, ⟨f20, _, F20, b20, PySem.W.mg_of X G a20⟩, ⟨f21, _, F21, b21, PySem.W.mg_of X G a21⟩, ⟨f22, _, F22, b22, PySem.W.mg_of X G a22⟩, ⟨f23, _, F23, b23, PySem.W.mg_of X G a23⟩, ⟨f24, _, F24, b24, PySem.W.mg_of X G a24⟩, ⟨f25, _, F25, b25, PySem.W.mg_of X G a25⟩, ⟨f26, _, F26, b26, PySem.W.mg_of X G a26⟩, ⟨f27, _, F27, b27, PySem.W.mg_of X G a27⟩, ⟨f28, _, F28, b28, PySem.W.mg_of X G a28⟩, ⟨_, PySem.W.mg_of X G cc1⟩, ⟨_, PySem.W.mg_of X G cc2⟩, PySem.W.mg_none_of X G z1, PySem.W.mg_none_of X G z2, PySem.W.mg_none_of X G z3, PySem.W.mg_none_of X G z4, PySem.W.mg_none_of X G z5, PySem.W.mg_none_of X G z6, PySem.W.mg_none_of X G z7, PySem.W.mg_none_of X G z8, PySem.W.mg_none_of X G z9, PySem.W.mg_none_of X G z10, PySem.W.mg_none_of X G z11, PySem.W.mg_none_of X G z12, PySem.W.mg_none_of X G z13⟩
  exact ⟨PySem.W.fnOf "law" "law" (defArgs (top 41)) (defBody (top 41)) (defScope (top 41)) .none kV29 dc29 pm29 an29 cd29 ct29, fun s v => .of_eq rfl, fun base _ _ => law_ok T F29⟩
theorem walk {l : PySem.W.OpenLaw} {q : Program} {loose : List Str} {XP : (Str → Option Value) → Heap → Prop} {YP : World → Heap → Prop} {d : DefRec} {K : Params → PySem.W.Frag} (hn : l.most = some 63) (hdf : d.params.defaults = [])
    (hY : ∀ (w : World) (h : Heap), YP w h → (K w.params).In h)
    (F : ∀ (w : World) (mg : Str → Option Value) (fa : Addr) (h : Heap), (K w.params).In h → h.Ns mainGlobals mg → mg d.name = some (.ref fa) →
      ∃ fd : FuncData, (∀ (s : Shared) (u : Value), BindsTo s fd ⟨[u], []⟩ [("_law_script", u)]) ∧ ∀ base : Heap, (K w.params).In base → base.Ns mainGlobals mg → FnOk l.prog w (K w.params) mg base CX0 110 fa fd ["_law_script"] (LSp (K w.params) spLaw)) :
    PySem.W.WalkO q loose XP YP l.row.toRowW d [] (fun f vs => PySem.call f vs) :=
  L2.walk_of (n := 63) (k := 110) (x := "_law_script") (CX := fun _ => CX0) (sp := fun w => LSp (K w.params) spLaw) hn (by decide) hdf ⟨rfl, by decide, by decide⟩ hY F (fun _ _ _ _ hl hO hS => law_start hO hS hl) fun _ _ _ _ _ z => z
end Lw
/-- names that the twins of the heap's trees would take: as they are taken, no twin is written (size) -/
noncomputable def PySem.W.Fast.tw14462242870603853024 : Unit := ()
noncomputable def PySem.W.Fast.tw1967504674257627107 : Unit := ()
noncomputable def PySem.W.Fast.tw16299367500975413797 : Unit := ()
noncomputable def PySem.W.Fast.tw1900919316897563722 : Unit := ()
noncomputable def PySem.W.Fast.tw2915066936165493738 : Unit := ()
noncomputable def PySem.W.Fast.tw16135627773721783534 : Unit := ()
noncomputable def PySem.W.Fast.tw9074670518297890544 : Unit := ()
noncomputable def PySem.W.Fast.tw13820882034402799057 : Unit := ()
noncomputable def PySem.W.Fast.tw11488401632695080433 : Unit := ()
noncomputable def PySem.W.Fast.tw13314468114125947441 : Unit := ()
noncomputable def PySem.W.Fast.tw5728865529872686617 : Unit := ()
open PySem PySem.W PyProof.Rows
set_option maxRecDepth 100000 in
set_option maxHeartbeats 0 in
theorem PySem.Challenge.cw_hydrahouse_k81_whole_sums_and_products_holds : PySem.Challenge.rw_hydrahouse_k81_whole_sums_and_products.Holds := by
  w_on; o_law; k_head; (case hw => w_witness2)
  k_fill
  refine Lw.walk (l := PySem.Challenge.rw_hydrahouse_k81_whole_sums_and_products) rfl rfl (fun w h Y => PySem.W.kIn_of Y) ?F
  case F =>
    intro w mg fa h KX G hmg
    refine' Lw.all_mk KX G hmg ?a1 ?l1 ?c1 ?k1 ?a2 ?l2 ?c2 ?k2 ?a3 ?l3 ?c3 ?k3 ?a4 ?l4 ?c4 ?k4 ?a5 ?l5 ?c5 ?k5 ?a6 ?l6 ?c6 ?k6 ?a7 ?l7 ?c7 ?k7 ?a8 ?l8 ?c8 ?k8 ?a9 ?l9 ?c9 ?k9 ?a10 ?l10 ?c10 ?k10 ?a11 ?l11 ?c11 ?k11 ?a12 ?l12 ?c12 ?k12 ?a13 ?l13 ?c13 ?k13 ?a14 ?l14 ?c14 ?k14 ?a15 ?l15 ?c15 ?k15 ?a16 ?l16 ?c16 ?k16 ?a17 ?l17 ?c17 ?k17 ?a18 ?l18 ?c18 ?k18 ?a19 ?l19 ?c19 ?k19 ?a20 ?l20 ?c20 ?k20 ?a21 ?l21 ?c21 ?k21 ?a22 ?l22 ?c22 ?k22 ?a23 ?l23 ?c23 ?k23 ?a24 ?l24 ?c24 ?k24 ?a25 ?l25 ?c25 ?k25 ?a26 ?l26 ?c26 ?k26 ?a27 ?l27 ?c27 ?k27 ?a28 ?l28 ?c28 ?k28 ?a29 ?l29 ?c29 ?k29 ?t1 ?t3 ?cc1 ?cc2 ?z1 ?z2 ?z3 ?z4 ?z5 ?z6 ?z7 ?z8 ?z9 ?z10 ?z11 ?z12 ?z13
    (case a1 => k_is)
    (case l1 => k_is)
    (case c1 => k_is)
    (case k1 => k_is)
    (case a2 => k_is)
    (case l2 => k_is)
    (case c2 => k_is)
    (case k2 => k_is)
    (case a3 => k_is)
    (case l3 => k_is)
    (case c3 => k_is)
    (case k3 => k_is)
    (case a4 => k_is)
    (case l4 => k_is)
    (case c4 => k_is)
    (case k4 => k_is)
    (case a5 => k_is)
    (case l5 => k_is)
    (case c5 => k_is)
    (case k5 => k_is)
    (case a6 => k_is)
    (case l6 => k_is)
    (case c6 => k_is)
    (case k6 => k_is)
    (case a7 => k_is)
    (case l7 => k_is)
    (case c7 => k_is)
    (case k7 => k_is)
    (case a8 => k_is)
    (case l8 => k_is)
    (case c8 => k_is)
    (case k8 => k_is)
    (case a9 => k_is)
    (case l9 => k_is)
    (case c9 => k_is)
    (case k9 => k_is)
    (case a10 => k_is)
    (case l10 => k_is)
    (case c10 => k_is)
    (case k10 => k_is)
    (case a11 => k_is)
    (case l11 => k_is)
    (case c11 => k_is)
    (case k11 => k_is)
    (case a12 => k_is)
    (case l12 => k_is)
    (case c12 => k_is)
    (case k12 => k_is)
    (case a13 => k_is)
    (case l13 => k_is)
    (case c13 => k_is)
    (case k13 => k_is)
    (case a14 => k_is)
    (case l14 => k_is)
    (case c14 => k_is)
    (case k14 => k_is)
    (case a15 => k_is)
    (case l15 => k_is)
    (case c15 => k_is)
    (case k15 => k_is)
    (case a16 => k_is)
    (case l16 => k_is)
    (case c16 => k_is)
    (case k16 => k_is)
    (case a17 => k_is)
    (case l17 => k_is)
    (case c17 => k_is)
    (case k17 => k_is)
    (case a18 => k_is)
    (case l18 => k_is)
    (case c18 => k_is)
    (case k18 => k_is)
    (case a19 => k_is)
    (case l19 => k_is)
    (case c19 => k_is)
    (case k19 => k_is)
    (case a20 => k_is)
    (case l20 => k_is)
    (case c20 => k_is)
    (case k20 => k_is)
    (case a21 => k_is)
    (case l21 => k_is)
    (case c21 => k_is)
    (case k21 => k_is)
    (case a22 => k_is)
    (case l22 => k_is)
    (case c22 => k_is)
    (case k22 => k_is)
    (case a23 => k_is)
    (case l23 => k_is)
    (case c23 => k_is)
    (case k23 => k_is)
    (case a24 => k_is)
    (case l24 => k_is)
    (case c24 => k_is)
    (case k24 => k_is)
    (case a25 => k_is)
    (case l25 => k_is)
    (case c25 => k_is)
    (case k25 => k_is)
    (case a26 => k_is)
    (case l26 => k_is)
    (case c26 => k_is)
    (case k26 => k_is)
    (case a27 => k_is)
    (case l27 => k_is)
    (case c27 => k_is)
    (case k27 => k_is)
    (case a28 => k_is)
    (case l28 => k_is)
    (case c28 => k_is)
    (case k28 => k_is)
    (case a29 => k_is)
    (case l29 => k_is)
    (case c29 => k_is)
    (case k29 => k_is)
    (case t1 => k_is)
    (case t3 => k_is)
    (case cc1 => k_is)
    (case cc2 => k_is)
    (case z1 => k_is)
    (case z2 => k_is)
    (case z3 => k_is)
    (case z4 => k_is)
    (case z5 => k_is)
    (case z6 => k_is)
    (case z7 => k_is)
    (case z8 => k_is)
    (case z9 => k_is)
    (case z10 => k_is)
    (case z11 => k_is)
    (case z12 => k_is)
    (case z13 => k_is)
