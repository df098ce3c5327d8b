import PyProof.Rows.All
import Wide.All
import OpenK.AllK
import Wide.FinOn
import PySem.Challenge.RW_hydrahouse_k47_plays_taken_back
set_option bootstrap.genMatcherCode false
-- CHANGE: your row's module here, as the last of these rows
set_option Elab.async false
set_option linter.all false
set_option maxRecDepth 100000
namespace L2
open PySem PySem.Spec PyProof.Rows
noncomputable abbrev Key := Sum Int Str
noncomputable def keyIs : Key → Value → Bool
  | .inl k, v => Value.isInt k v
  | .inr x, v => Value.isStrOf x v
noncomputable def keyH (w : World) : Key → Int
  | .inl k => hashInt k
  | .inr x => hashStr w x
theorem keyIs_shape : ∀ {k : Key} {v : Value}, keyIs k v = true → (∃ i t, k = Sum.inl i ∧ v = Value.int i t) ∨ (∃ x t, k = Sum.inr x ∧ v = Value.str x t)
  | .inl i, v, h => by
    obtain ⟨t, e⟩ := Value.isInt_shape (k := i) (v := v) h
    exact .inl ⟨i, t, rfl, e⟩
  | .inr x, v, h => by
    obtain ⟨t, e⟩ := Value.isStrOf_shape (x := x) (v := v) h
    exact .inr ⟨x, t, rfl, e⟩
theorem key_ll (a b : Int) : decide ((Sum.inl a : Key) = Sum.inl b) = (a == b) := by
  by_cases e : a = b
  · subst e; simp
  · have h : ¬ (Sum.inl a : Key) = Sum.inl b := fun q => e (Sum.inl.inj q)
    rw [decide_eq_false h]
    exact (beq_eq_false_iff_ne.mpr e).symm
theorem key_rr (a b : Str) : decide ((Sum.inr a : Key) = Sum.inr b) = decide (a = b) := by
  by_cases e : a = b
  · subst e; simp
  · have h : ¬ (Sum.inr a : Key) = Sum.inr b := fun q => e (Sum.inr.inj q)
    rw [decide_eq_false h, decide_eq_false e]
theorem key_lr (a : Int) (b : Str) : decide ((Sum.inl a : Key) = Sum.inr b) = false := decide_eq_false (fun q => nomatch q)
theorem key_rl (a : Str) (b : Int) : decide ((Sum.inr a : Key) = Sum.inl b) = false := decide_eq_false (fun q => nomatch q)
noncomputable def mixKind (prog : Program) (w : World) : PySem.KeyKind prog w Key where
  is := keyIs
  hash := keyH w
  inj := fun v a b ha hb => by
    rcases keyIs_shape ha with ⟨i, t, rfl, rfl⟩ | ⟨x, t, rfl, rfl⟩
    · rcases keyIs_shape hb with ⟨j, u, rfl, e⟩ | ⟨y, u, rfl, e⟩
      · injection e with e1 _; rw [e1]
      · exact nomatch e
    · rcases keyIs_shape hb with ⟨j, u, rfl, e⟩ | ⟨y, u, rfl, e⟩
      · exact nomatch e
      · injection e with e1 _; rw [e1]
  byValue := fun k v h => by
    rcases keyIs_shape h with ⟨i, t, rfl, rfl⟩ | ⟨x, t, rfl, rfl⟩ <;> rfl
  pyHash := fun hv h => by
    rcases keyIs_shape hv with ⟨i, t, rfl, rfl⟩ | ⟨x, t, rfl, rfl⟩
    · exact wpAny_pyHash_int h
    · exact wpAny_pyHash_str h
  eqBool := fun hu hv h => by
    rcases keyIs_shape hu with ⟨i, t, rfl, rfl⟩ | ⟨x, t, rfl, rfl⟩
    · rcases keyIs_shape hv with ⟨j, u, rfl, rfl⟩ | ⟨y, u, rfl, rfl⟩
      · rw [key_ll] at h; exact wpAny_eqBool_int h
      · rw [key_lr] at h; exact SeqAt.EqAt.int_str i t y u _ _ _ _ h
    · rcases keyIs_shape hv with ⟨j, u, rfl, rfl⟩ | ⟨y, u, rfl, rfl⟩
      · rw [key_rl] at h; exact SeqAt.EqAt.str_int x t j u _ _ _ _ h
      · rw [key_rr] at h; exact wpAny_eqBool_str h
  «strs» := fun k x t v h => by
    rcases keyIs_shape h with ⟨i, u, rfl, e⟩ | ⟨y, u, rfl, e⟩
    · exact nomatch e
    · injection e with e1 _
      subst e1
      cases v <;> rfl
end L2
namespace L2
open PySem PySem.Spec PyProof.Rows
inductive V where
  | non | bl (b : Bool) | int (i : Int) | str (x : Str) | byt (b : Array UInt8) | flt (b : UInt64) | ref (a : Addr) | ty (n : String)
  deriving DecidableEq
noncomputable def RelV : V → Value → Prop
  | .non, u => u = Value.none
  | .bl b, u => u = Value.bool b
  | .int i, u => ∃ t, u = Value.int i t
  | .str x, u => ∃ t, u = Value.str x t
  | .byt b, u => ∃ t, u = Value.bytes b t
  | .flt b, u => ∃ t, u = Value.float b t
  | .ref a, u => u = Value.ref a
  | .ty n, u => u = Value.type n
noncomputable abbrev Vals : List V → List Value → Prop := Paired RelV
theorem Vals.length {xs : List V} {us : List Value} (r : Vals xs us) : xs.length = us.length := Paired.length r
theorem Vals.get : ∀ {xs : List V} {us : List Value} {i : Nat} {x : V}, Vals xs us → xs[i]? = some x → ∃ u, us[i]? = some u ∧ RelV x u
  | _, _, _, _, .nil, e => by simp at e
  | _, _, 0, _, .cons r _, e => by simp at e; subst e; exact ⟨_, rfl, r⟩
  | _, _, i + 1, x, .cons _ t, e => by
    obtain ⟨u, h1, h2⟩ := Vals.get (i := i) (x := x) t (by simpa using e)
    exact ⟨u, by simpa using h1, h2⟩
theorem Vals.set {x : V} {u : Value} (r : RelV x u) : ∀ {xs : List V} {us : List Value} (i : Nat), Vals xs us → Vals (xs.set i x) (us.set i u)
  | _, _, _, .nil => .nil
  | _, _, 0, .cons _ t => .cons r t
  | _, _, i + 1, .cons q t => .cons q (Vals.set r i t)
theorem Vals.append : ∀ {xs ys : List V} {us ws : List Value}, Vals xs us → Vals ys ws → Vals (xs ++ ys) (us ++ ws)
  | _, _, _, _, .nil, s => s
  | _, _, _, _, .cons r t, s => .cons r (Vals.append t s)
theorem Vals.take : ∀ {xs : List V} {us : List Value} (n : Nat), Vals xs us → Vals (xs.take n) (us.take n)
  | _, _, 0, _ => .nil
  | _, _, _ + 1, .nil => .nil
  | _, _, n + 1, .cons r t => .cons r (Vals.take n t)
theorem Vals.drop : ∀ {xs : List V} {us : List Value} (n : Nat), Vals xs us → Vals (xs.drop n) (us.drop n)
  | _, _, 0, r => r
  | _, _, _ + 1, .nil => .nil
  | _, _, n + 1, .cons _ t => Vals.drop n t
noncomputable def RelO : Option V → Option Value → Prop
  | some v, some u => RelV v u
  | none, none => True
  | _, _ => False
noncomputable def KV {κ : Type} : List (κ × V) → List (κ × Value) → Prop := Paired fun (p : κ × V) (q : κ × Value) => p.1 = q.1 ∧ RelV p.2 q.2
noncomputable def kV : Key → V
  | .inl i => .int i
  | .inr x => .str x
inductive HO where
  | lst (xs : List V)
  | tup (xs : List V)
  | dK (kvs : List (Key × V)) | dT (kvs : List (List Key × V))
  | set (S : Int → Bool) (n : Nat)
  | ins (C dx : Addr) (fs : List (Str × V))
  | own (x : Addr)
  | xd (fs : List (Str × V))
  | met (f x : Addr)
  | rng (lo hi : Int)
  | frz (o : Obj) (u : HO)
  | tbl (ps : Array Value)
  | ext (φ : Heap → Prop)
noncomputable abbrev Hp := Addr → Option HO
noncomputable def upd (H : Hp) (a : Addr) (o : HO) : Hp := fun b => if b = a then some o else H b
theorem upd_same {H : Hp} {a : Addr} {o : HO} : upd H a o a = some o := by unfold upd; rw [if_pos rfl]
theorem upd_ne {H : Hp} {a b : Addr} {o : HO} (h : b ≠ a) : upd H a o b = H b := by unfold upd; rw [if_neg h]
theorem ne_of {H : Hp} {a b : Addr} {o u : HO} (h : H a = some o) (h' : H b = some u) (d : o ≠ u) : a ≠ b := by
  intro e; subst e; rw [h] at h'; exact d (Option.some.inj h')
theorem ne_of_none {H : Hp} {a b : Addr} {o : HO} (h : H a = some o) (h' : H b = none) : a ≠ b := by
  intro e; subst e; rw [h] at h'; cases h'
section
variable (P : Program) (w : World)
noncomputable def ObjOk (H : Hp) (h : Heap) (a : Addr) : HO → Prop
  | .lst xs => xs.length ≤ sizeLine ∧ ∃ (its : List Value) (n : Nat), Vals xs its ∧ h.get? a = some { cls := .type "list", data := .seq its.toArray n }
  | .tup xs => xs.length ≤ sizeLine ∧ ∃ its : List Value, Vals xs its ∧ IsTup h a its.toArray
  | .dK kvs => kvs.length ≤ sizeLine ∧ (a == sysModules) = false ∧ ∃ vs, KV kvs vs ∧ h.DictOf (mixKind P w) a vs
  | .dT kvs => kvs.length ≤ sizeLine ∧ (a == sysModules) = false ∧ ∃ xs : List (List Key × Addr × Value),
      Paired (fun (p : List Key × V) (q : List Key × Addr × Value) => p.1 = q.1 ∧ H q.2.1 = some (.tup (p.1.map kV)) ∧ RelV p.2 q.2.2) kvs xs ∧
      ∃ o es ep, h.get? a = some o ∧ o.ExactDict ∧ o.data = .dict es ep ∧ es.toList = xs.map (entryOfKey (tupleKind (mixKind P w))) ∧ (xs.map (·.1)).Nodup
  | .set S n => h.SetOf (intKind P w) a S n
  | .ins C dx fs => H dx = some (.own a) ∧ fs.length ≤ 1000 ∧ dx ≠ a ∧ h.get? a = some (PySem.W.instObj C dx) ∧
      ∃ mA, h.Ns1 dx mA ∧ (∀ f, RelO (fs.lookup f) (mA f)) ∧ PySem.Within mA (fs.map (·.1))
  | .own _ => ∃ o, h.get? a = some o
  | .xd fs => ∃ mA, h.Ns1 a mA ∧ ∀ f, RelO (fs.lookup f) (mA f)
  | .rng lo hi => ∃ t u v, h.get? a = some { cls := .type "range", data := .fields #[.int lo t, .int hi u, .int 1 v] }
  | .frz o u => h.get? a = some o ∧ ObjOk H h a u
  | .tbl ps => h.get? a = some { cls := .none, data := .fields ps }
  | .met f x => h.get? a = some (PySem.W.methodObj (.ref f) (.ref x))
  | .ext φ => φ h ∧ (∃ o, h.get? a = some o) ∧ ∀ h1 h2 : Heap, φ h1 → (∀ o, h1.get? a = some o → h2.get? a = some o) → φ h2
noncomputable def HOk (H : Hp) (h : Heap) : Prop := ∀ a o, H a = some o → ObjOk P w H h a o
end
section
variable {P : Program} {w : World} {H H' : Hp} {h h' : Heap} {a : Addr} {o : HO}
theorem ObjOk.lt (x : ObjOk P w H h a o) : a < h.objs.size := by
  cases o with
  | lst xs => obtain ⟨_, _, _, _, e⟩ := x; exact Heap.lt_size e
  | tup xs => obtain ⟨_, _, _, p⟩ := x; exact p.lt
  | dK kvs => obtain ⟨_, _, _, _, o, _, _, e, _⟩ := x; exact Heap.lt_size e
  | dT kvs => obtain ⟨_, _, _, _, o, _, _, e, _⟩ := x; exact Heap.lt_size e
  | set S n => obtain ⟨o, _, _, _, e, _⟩ := x; exact Heap.lt_size e
  | ins C dx fs => obtain ⟨_, _, _, e, _⟩ := x; exact Heap.lt_size e
  | own y => obtain ⟨_, e⟩ := x; exact Heap.lt_size e
  | xd fs => obtain ⟨_, ⟨_, _, _, e, _⟩, _⟩ := x; exact Heap.lt_size e
  | rng lo hi => obtain ⟨_, _, _, e⟩ := x; exact Heap.lt_size e
  | frz ob u => obtain ⟨e, _⟩ := x; exact Heap.lt_size e
  | tbl ps => exact Heap.lt_size (show h.get? a = some _ from x)
  | met f y => exact Heap.lt_size (show h.get? a = some _ from x)
  | ext φ => obtain ⟨_, ⟨_, e⟩, _⟩ := x; exact Heap.lt_size e
theorem Paired.mapP {α β : Type} {F G : α → β → Prop} : ∀ {l₁ : List α} {l₂ : List β}, Paired F l₁ l₂ → (∀ a b, F a b → G a b) → Paired G l₁ l₂
  | _, _, .nil, _ => .nil
  | _, _, .cons r t, f => .cons (f _ _ r) (Paired.mapP t f)
theorem ObjOk.stay (x : ObjOk P w H h a o) (k : ∀ b u, (b = a ∨ H b = some (.own a)) → h.get? b = some u → h'.get? b = some u)
    (ho : ∀ b, H b = some (.own a) → H' b = some (.own a)) (ht : ∀ b xs, H b = some (.tup xs) → H' b = some (.tup xs)) : ObjOk P w H' h' a o := by
  induction o with
  | lst xs => obtain ⟨z, its, n, r, e⟩ := x; exact ⟨z, its, n, r, k _ _ (.inl rfl) e⟩
  | tup xs => obtain ⟨z, its, r, ob, e, c⟩ := x; exact ⟨z, its, r, ob, k _ _ (.inl rfl) e, c⟩
  | dK kvs => obtain ⟨z, y, vs, r, ob, es, ep, e, c⟩ := x; exact ⟨z, y, vs, r, ob, es, ep, k _ _ (.inl rfl) e, c⟩
  | dT kvs =>
    obtain ⟨z, y, xs, r, ob, es, ep, e, c⟩ := x
    exact ⟨z, y, xs, Paired.mapP r fun p q z => ⟨z.1, ht _ _ z.2.1, z.2.2⟩, ob, es, ep, k _ _ (.inl rfl) e, c⟩
  | set S n => obtain ⟨ob, es, ep, t, e, c⟩ := x; exact ⟨ob, es, ep, t, k _ _ (.inl rfl) e, c⟩
  | ins C dx fs =>
    obtain ⟨d, z, ne, e, mA, ⟨od, es, ep, e2, c⟩, r⟩ := x
    exact ⟨ho _ d, z, ne, k _ _ (.inl rfl) e, mA, ⟨od, es, ep, k _ _ (.inr d) e2, c⟩, r⟩
  | own y => obtain ⟨ob, e⟩ := x; exact ⟨ob, k _ _ (.inl rfl) e⟩
  | xd fs => obtain ⟨mA, ⟨od, es, ep, e, c⟩, r⟩ := x; exact ⟨mA, ⟨od, es, ep, k _ _ (.inl rfl) e, c⟩, r⟩
  | rng lo hi => obtain ⟨t, u, v, e⟩ := x; exact ⟨t, u, v, k _ _ (.inl rfl) e⟩
  | frz ob u ih => obtain ⟨e, q⟩ := x; exact ⟨k _ _ (.inl rfl) e, ih q⟩
  | tbl ps =>
    have e : h.get? a = some { cls := .none, data := .fields ps } := x
    show h'.get? a = some { cls := .none, data := .fields ps }
    exact k a _ (.inl rfl) e
  | met f y =>
    have e : h.get? a = some (PySem.W.methodObj (.ref f) (.ref y)) := x
    show h'.get? a = some (PySem.W.methodObj (.ref f) (.ref y))
    exact k a _ (.inl rfl) e
  | ext φ => obtain ⟨p, ⟨o, e⟩, st⟩ := x; exact ⟨st _ _ p fun o q => k _ _ (.inl rfl) q, ⟨o, k _ _ (.inl rfl) e⟩, st⟩
theorem HOk.lt (x : HOk P w H h) (e : H a = some o) : a < h.objs.size := (x a o e).lt
theorem HOk.fresh (x : HOk P w H h) (e : h.objs.size ≤ a) : H a = none := by
  cases q : H a with
  | none => rfl
  | some u => exact absurd (Nat.lt_of_lt_of_le (x.lt q) e) (Nat.lt_irrefl _)
theorem HOk.kept (x : HOk P w H h) (k : ∀ b u, h.get? b = some u → h'.get? b = some u) : HOk P w H h' := fun a o e =>
  (x a o e).stay (fun b u _ q => k b u q) (fun _ q => q) fun _ _ q => q
theorem HOk.laid (x : HOk P w H h) (k : ∀ b u, h.get? b = some u → h'.get? b = some u) (hp : h.objs.size ≤ a) (new : ObjOk P w (upd H a o) h' a o) : HOk P w (upd H a o) h' := fun b u e => by
  have hn := x.fresh hp
  by_cases hb : b = a
  · subst hb; rw [upd_same] at e; cases e; exact new
  · rw [upd_ne hb] at e
    exact (x b u e).stay (fun c v _ q => k c v q) (fun c q => by rw [upd_ne (ne_of_none q hn)]; exact q) fun c xs q => by rw [upd_ne (ne_of_none q hn)]; exact q
end
noncomputable def Rd (H : Hp) (a : Addr) (u : HO) : Prop := H a = some u ∨ ∃ o, H a = some (.frz o u)
theorem Rd.ok {P : Program} {w : World} {H : Hp} {h : Heap} {a : Addr} {u : HO} (r : Rd H a u) (x : HOk P w H h) : ObjOk P w H h a u := by
  rcases r with r | ⟨o, r⟩
  · exact x a u r
  · obtain ⟨_, q⟩ := x a _ r
    exact q
noncomputable def Mut : Option HO → Prop
  | some (.lst _) => True
  | some (.dK _) => True
  | some (.dT _) => True
  | some (.set _ _) => True
  | some (.ins _ _ _) => True
  | some (.ext _) => True
  | _ => False
section
variable {P : Program} {w : World} {H : Hp} {h h' : Heap} {x e : Addr} {o' : HO}
theorem HOk.write (ok : HOk P w H h) (mu : Mut (H x)) (he : e = x ∨ H e = some (.own x)) (k : ∀ b u, b ≠ e → h.get? b = some u → h'.get? b = some u) (heo : ∃ u, h'.get? e = some u)
    (new : ObjOk P w (upd H x o') h' x o') : HOk P w (upd H x o') h' := fun b u q => by
  have nown : ∀ c y, H c = some (.own y) → c ≠ x := fun c y r z => by subst z; rw [r] at mu; exact mu
  have ntup : ∀ c xs, H c = some (.tup xs) → c ≠ x := fun c xs r z => by subst z; rw [r] at mu; exact mu
  by_cases hb : b = x
  · subst hb; rw [upd_same] at q; cases q; exact new
  · rw [upd_ne hb] at q
    by_cases hbe : b = e
    · have q' : H b = some (.own x) := by
        rcases he with z | z
        · exact absurd (hbe.trans z) hb
        · rw [hbe]; exact z
      rw [q] at q'; cases q'
      obtain ⟨v, hv⟩ := heo
      exact ⟨v, by rw [hbe]; exact hv⟩
    · refine (ok b u q).stay (fun c v hc r => k c v ?_ r) (fun c r => by rw [upd_ne (nown c b r)]; exact r) fun c xs r => by rw [upd_ne (ntup c xs r)]; exact r
      rcases hc with rfl | hc
      · exact hbe
      · rintro rfl
        rcases he with z | z
        · exact nown c b hc z
        · rw [hc] at z; cases z; exact hb rfl
end
structure Un (fs ex : List Addr) (H H' : Hp) (h h' : Heap) : Prop where
  keep : ∀ b o, h.get? b = some o → H b = none → b ∉ fs → b ∉ ex → h'.get? b = some o
  slot : ∀ b o, h.get? b = some o → H b = none → b ∈ fs → b ∉ ex → ∃ sl, h'.get? b = some { o with slots := sl }
  free : ∀ b o, h.get? b = some o → H b = none → b ∉ ex → H' b = none
  there : ∀ b o, h.get? b = some o → b ∉ ex → ∃ o', h'.get? b = some o'
  tups : ∀ b xs, H b = some (.tup xs) → H' b = some (.tup xs)
  frzs : ∀ b o u, H b = some (.frz o u) → H' b = some (.frz o u)
  tbls : ∀ b ps, H b = some (.tbl ps) → ∃ more, H' b = some (.tbl (ps ++ more))
section
variable {fs fs' ex ex' : List Addr} {H H1 H2 : Hp} {h h1 h2 h' : Heap} {a x e : Addr} {o : HO}
theorem Un.any (u : Un fs ex H H1 h h1) {b : Addr} {ob : Obj} (q : h.get? b = some ob) (n : H b = none) (hx : b ∉ ex) : ∃ sl, h1.get? b = some { ob with slots := sl } := by
  by_cases hb : b ∈ fs
  · exact u.slot b ob q n hb hx
  · exact ⟨ob.slots, u.keep b ob q n hb hx⟩
theorem Un.kept (k : ∀ b u, h.get? b = some u → h'.get? b = some u) : Un fs ex H H h h' :=
  ⟨fun b ob q _ _ _ => k b ob q, fun b ob q _ _ _ => ⟨ob.slots, k b ob q⟩, fun _ _ _ n _ => n, fun b ob q _ => ⟨ob, k b ob q⟩, fun _ _ q => q, fun _ _ _ q => q, fun _ ps q => ⟨#[], by rw [q]; simp⟩⟩
theorem Un.refl : Un fs ex H H h h := Un.kept fun _ _ q => q
theorem Un.laid (k : ∀ b u, h.get? b = some u → h'.get? b = some u) (hp : h.objs.size ≤ a) (hn : H a = none) : Un fs ex H (upd H a o) h h' where
  keep := fun b u q _ _ _ => k b u q
  slot := fun b u q _ _ _ => ⟨u.slots, k b u q⟩
  free := fun b u q n _ => by rw [upd_ne (Nat.ne_of_lt (Nat.lt_of_lt_of_le (Heap.lt_size q) hp))]; exact n
  there := fun b u q _ => ⟨u, k b u q⟩
  tups := fun b xs q => by rw [upd_ne (ne_of_none q hn)]; exact q
  frzs := fun b u xs q => by rw [upd_ne (ne_of_none q hn)]; exact q
  tbls := fun b ps q => ⟨#[], by rw [upd_ne (ne_of_none q hn), q]; simp⟩
theorem Un.write (mu : Mut (H x)) (he : e = x ∨ H e = some (.own x)) (k : ∀ b u, b ≠ e → h.get? b = some u → h'.get? b = some u) (heo : ∃ u, h'.get? e = some u) : Un fs ex H (upd H x o) h h' := by
  have hx : ∀ b, H b = none → b ≠ x := fun b n z => by subst z; rw [n] at mu; exact mu
  have hb : ∀ b, H b = none → b ≠ e := fun b n z => by
    subst z
    rcases he with r | r
    · exact hx b n r
    · rw [n] at r; cases r
  have hm : ∀ b u, H b = some u → ¬ Mut (some u) → b ≠ x := fun b u q nm z => by subst z; rw [q] at mu; exact nm mu
  refine ⟨fun b u q n _ _ => k b u (hb b n) q, fun b u q n _ _ => ⟨u.slots, k b u (hb b n) q⟩, fun b u q n _ => by rw [upd_ne (hx b n)]; exact n, fun b u q _ => ?_,
    fun b xs q => by rw [upd_ne (hm b _ q fun z => z)]; exact q, fun b u xs q => by rw [upd_ne (hm b _ q fun z => z)]; exact q, fun b ps q => ⟨#[], by rw [upd_ne (hm b _ q fun z => z), q]; simp⟩⟩
  by_cases hbe : b = e
  · subst hbe; exact heo
  · exact ⟨u, k b u hbe q⟩
end
noncomputable def trk (h : Heap) (H : Hp) : List Addr := (List.range h.objs.size).filter fun a => (H a).isSome
noncomputable def hidT (h : Heap) (H : Hp) : Heap := PySem.W.hideAll h (trk h H)
theorem hidT_size (h : Heap) (H : Hp) : (hidT h H).objs.size = h.objs.size := PySem.W.hideAll_size _ _
theorem hidT_get {h : Heap} {H : Hp} {b : Addr} {o : Obj} (e : h.get? b = some o) (n : H b = none) : (hidT h H).get? b = some o :=
  PySem.W.hideAll_get _ e fun hm => by
    have q : (H b).isSome = true := (List.mem_filter.mp hm).2
    rw [n] at q; simp at q
theorem of_hidT {h : Heap} {H : Hp} {b : Addr} {o : Obj} (e : (hidT h H).get? b = some o) : h.get? b = some o ∧ H b = none := by
  have e' : h.get? b = some o := PySem.W.of_hideAll (trk h H) e
  refine ⟨e', ?_⟩
  cases q : H b with
  | none => rfl
  | some x =>
    have hm : b ∈ trk h H := List.mem_filter.mpr ⟨List.mem_range.mpr (Heap.lt_size e'), by simp [q]⟩
    have z : (hidT h H).get? b = none := PySem.W.hideAll_none (trk h H) hm
    rw [z] at e; cases e
noncomputable def allNews (g h : Heap) (L : Addr) : List (Addr × Obj) := (List.range h.objs.size).filterMap fun a => if a = L ∨ (g.get? a).isSome = true then none else (h.get? a).map fun o => (a, o)
noncomputable def rest (g h : Heap) (L d : Addr) : List (Addr × Obj) := (allNews g h L).filter fun p => decide (p.1 ≠ d)
end L2
namespace L2
open PySem PySem.Spec PyProof.Rows
structure Mod (K : PySem.W.Frag) (mg : Str → Option Value) (base : Heap) : Prop where
  kin : K.In base
  glob : base.Ns mainGlobals mg
  blt : ∃ mb, base.Ns builtinsNs mb ∧ ∀ x : Str, x ≠ "__name__" → mb x = bootBuiltins x
  nolimit : base.NoLimit
structure Cx where
  prog : Program
  w : World
  K : PySem.W.Frag
  mg : Str → Option Value
  base : Heap
  A : Around
  N : List Str
  s₀ : Shared
  H₀ : Hp
  env : Env
  outer : List Env
  stack : List Env
  ex : List Addr
  fn : Str → Bool
  calm : Bool
  pn : List (Addr × Obj)
  xe : Value → Shared → Prop
noncomputable def frs (l : List Env) : List Addr := l.filterMap (·.frame)
noncomputable abbrev Cx.fs (X : Cx) : List Addr := frs X.outer
noncomputable def Vis (sc : Scope) (x : Str) : Prop := sc.names.lookup x = some .local ∨ sc.names.lookup x = some .cell ∨ sc.names.lookup x = some .free
noncomputable def Loc (sc : Scope) (x : Str) : Prop := sc.names.lookup x = some .local ∨ sc.names.lookup x = some .cell
noncomputable def Look (env : Env) (h : Heap) (m : Str → Option Value) (x : Str) (u : Value) : Prop :=
  (env.kindOf x = some .local ∧ m x = some u) ∨ ((env.kindOf x = some .cell ∨ env.kindOf x = some .free) ∧ ∃ c, env.cells.lookup x = some c ∧ h.IsCell c (some u))
structure Cx.Ok (X : Cx) : Prop where
  mod : Mod X.K X.mg X.base
  kind : X.env.scope.kind = .function
  glob : X.env.globals = mainGlobals
  blt : X.env.builtins = builtinsNs
  above : X.s₀.heap.objs.size ≤ X.env.locals
  inj : ∀ x y c, X.env.cells.lookup x = some c → X.env.cells.lookup y = some c → x = y
  has : ∀ x, (X.env.kindOf x = some .cell ∨ X.env.kindOf x = some .free) → ∃ c, X.env.cells.lookup x = some c
  cab : ∀ x c, X.fn x = true → X.env.cells.lookup x = some c → X.s₀.heap.objs.size ≤ c
  hd : X.calm = true → X.A.handled = none
  frames : X.A.frames = some X.stack
  stk : X.stack = X.outer ∨ (X.stack = X.env :: X.outer ∧ X.env.frame = some X.env.locals)
  exf : ∀ b ∈ X.ex, b ≠ X.env.locals ∧ ∀ x c, X.env.cells.lookup x = some c → c ≠ b
  bs : ∀ b o, X.base.get? b = some o → X.s₀.heap.get? b = some o ∧ X.H₀ b = none
  bsz : X.base.objs.size ≤ X.s₀.heap.objs.size
  noex : ∀ b o, X.base.get? b = some o → b ∉ X.ex
  exfs : ∀ b ∈ X.ex, b ∉ X.fs
  funs : X.s₀.heap.FunFrames X.base X.outer
  frf : ∀ b ∈ X.fs, X.H₀ b = none
structure Inv (X : Cx) (pins : List (Addr × Obj)) (σ : List (Option V)) (H : Hp) (s : Shared) : Prop where
  ok : X.Ok
  os : s.os = X.s₀.os
  bare : AllBare s.gens
  base : Un X.fs X.ex X.H₀ H X.s₀.heap s.heap
  loc : ∃ m, s.heap.Ns X.env.locals m ∧ ∀ (i : Nat) (x : Str) (v : V), X.N[i]? = some x → σ[i]? = some (some v) → Vis X.env.scope x → ∃ u, RelV v u ∧ Look X.env s.heap m x u
  cell : ∀ x c, X.env.cells.lookup x = some c → ∃ v, s.heap.IsCell c v
  free : H X.env.locals = none
  freeC : ∀ x c, X.env.cells.lookup x = some c → H c = none
  pin : ∀ p ∈ X.pn ++ pins, s.heap.get? p.1 = some p.2 ∧ H p.1 = none ∧ p.1 ≠ X.env.locals ∧ p.1 ∉ X.fs ∧ ∀ v, p.2.data ≠ .cell v
  hok : HOk X.prog X.w H s.heap
  len : σ.length = X.N.length
section
variable {X : Cx} {pins : List (Addr × Obj)} {σ : List (Option V)} {H H' : Hp} {s : Shared} {h' : Heap}
theorem Cx.Ok.nofr (ok : X.Ok) {b : Addr} {o : Obj} (e : X.base.get? b = some o) : b ∉ X.fs := fun hb => by
  have := (ok.funs.mem hb).1
  rw [e] at this; cases this
theorem Inv.bs (I : Inv X pins σ H s) : ∀ b o, X.base.get? b = some o → s.heap.get? b = some o ∧ H b = none := fun b o e =>
  ⟨I.base.keep b o (I.ok.bs b o e).1 (I.ok.bs b o e).2 (I.ok.nofr e) (I.ok.noex b o e), I.base.free b o (I.ok.bs b o e).1 (I.ok.bs b o e).2 (I.ok.noex b o e)⟩
theorem Inv.bk (I : Inv X pins σ H s) : ∀ b o, X.base.get? b = some o → s.heap.get? b = some o := fun b o e => (I.bs b o e).1
theorem Inv.mod (I : Inv X pins σ H s) : Mod X.K X.mg X.base := I.ok.mod
theorem Inv.kIn (I : Inv X pins σ H s) : X.K.In s.heap := I.ok.mod.kin.keeps I.bk
theorem Inv.lt (I : Inv X pins σ H s) : X.env.locals < s.heap.objs.size := let ⟨_, hn, _⟩ := I.loc; hn.lt
theorem Inv.sz (I : Inv X pins σ H s) : X.s₀.heap.objs.size ≤ s.heap.objs.size := Nat.le_trans I.ok.above (Nat.le_of_lt I.lt)
theorem Inv.nofs (I : Inv X pins σ H s) {a : Addr} (h : s.heap.objs.size ≤ a) : a ∉ X.fs := fun hb => by
  obtain ⟨_, o, ho, _⟩ := I.ok.funs.mem hb
  exact absurd (Nat.lt_of_lt_of_le (Heap.lt_size ho) (Nat.le_trans I.sz h)) (Nat.lt_irrefl _)
theorem Inv.cne (I : Inv X pins σ H s) : ∀ x c, X.env.cells.lookup x = some c → c ≠ X.env.locals := fun x c e z => by
  obtain ⟨v, o, ho, hd⟩ := I.cell x c e
  obtain ⟨m, ⟨o', es, ep, ho', hd', _⟩, _⟩ := I.loc
  rw [z, ho'] at ho; cases ho; rw [hd'] at hd; cases hd
theorem Inv.funs (I : Inv X pins σ H s) : s.heap.FunFrames X.base X.outer := by
  have all : ∀ (l : List Env), (∀ b ∈ frs l, b ∈ X.fs) → X.s₀.heap.FunFrames X.base l → s.heap.FunFrames X.base l := by
    intro l
    induction l with
    | nil => intro _ _; trivial
    | cons env r ih =>
      intro hs hl
      obtain ⟨hk, ⟨L, o, hf, hn, ho, hd⟩, hr⟩ := hl
      have hL : L ∈ X.fs := hs L (by unfold frs; rw [List.filterMap_cons, hf]; exact List.mem_cons_self)
      obtain ⟨sl, e⟩ := I.base.slot L o ho (I.ok.frf L hL) hL fun z => I.ok.exfs L z hL
      exact ⟨hk, ⟨L, _, hf, hn, e, hd⟩, ih (fun b hb => hs b (by unfold frs; rw [List.filterMap_cons, hf]; exact List.mem_cons_of_mem _ hb)) hr⟩
  exact all X.outer (fun _ hb => hb) I.ok.funs
theorem Inv.stack (I : Inv X pins σ H s) : s.heap.FunFrames X.base X.stack := by
  rcases I.ok.stk with e | ⟨e, hf⟩
  · rw [e]; exact I.funs
  · rw [e]
    obtain ⟨m, hn, _⟩ := I.loc
    refine .cons (by rw [I.ok.kind]; decide) hf hn ?_ I.funs
    exact Heap.get?_none_of_le (Nat.le_trans I.ok.bsz I.ok.above)
theorem Inv.stkSub (I : Inv X pins σ H s) : ∀ b ∈ frs X.stack, b ∈ X.env.locals :: X.fs := fun b hb => by
  rcases I.ok.stk with e | ⟨e, hf⟩
  · rw [e] at hb; exact List.mem_cons_of_mem _ hb
  · rw [e] at hb
    unfold frs at hb
    rw [List.filterMap_cons, hf] at hb
    exact hb
theorem Inv.stkFree (I : Inv X pins σ H s) : ∀ b ∈ frs X.stack, H b = none := fun b hb => by
  rcases List.mem_cons.mp (I.stkSub b hb) with e | hb
  · rw [e]; exact I.free
  · obtain ⟨_, o, ho, _⟩ := I.ok.funs.mem hb
    exact I.base.free b o ho (I.ok.frf b hb) fun z => I.ok.exfs b z hb
theorem Inv.step {g' : Array GenState} {t' : Nat} {d' : Drawn} {ch : List Addr} (I : Inv X pins σ H s)
    (hch : ∀ b ∈ ch, (b ∈ X.ex ∨ X.s₀.heap.objs.size ≤ b) ∧ b ≠ X.env.locals ∧ (∀ x c, X.env.cells.lookup x = some c → c ≠ b) ∧ ∀ p ∈ X.pn ++ pins, p.1 ≠ b)
    (keep : ∀ b o, b ≠ X.env.locals → b ∉ X.fs → b ∉ ch → s.heap.get? b = some o → H b = none → h'.get? b = some o)
    (slot : ∀ b o, b ≠ X.env.locals → b ∈ X.fs → b ∉ ch → s.heap.get? b = some o → H b = none → ∃ sl, h'.get? b = some { o with slots := sl }) (free : ∀ b o, b ∉ ch → s.heap.get? b = some o → H b = none → H' b = none)
    (there : ∀ b o, b ∉ ch → s.heap.get? b = some o → ∃ o', h'.get? b = some o')
    (tups : ∀ b xs, H b = some (.tup xs) → H' b = some (.tup xs)) (frzs : ∀ b o u, H b = some (.frz o u) → H' b = some (.frz o u)) (tbls : ∀ b ps, H b = some (.tbl ps) → ∃ more, H' b = some (.tbl (ps ++ more)))
    (ns : ∀ m, s.heap.Ns X.env.locals m → h'.Ns X.env.locals m) (hok : HOk X.prog X.w H' h') (hg : AllBare g') :
    Inv X pins σ H' { s with heap := h', gens := g', drawn := d', toks := t' } := by
  have neL : ∀ b o, X.s₀.heap.get? b = some o → b ≠ X.env.locals := fun b o e => Nat.ne_of_lt (Nat.lt_of_lt_of_le (Heap.lt_size e) I.ok.above)
  have neC : ∀ b o, X.s₀.heap.get? b = some o → b ∉ X.ex → b ∉ ch := fun b o e hx hb => by
    rcases (hch b hb).1 with z | z
    · exact hx z
    · exact absurd (Nat.lt_of_lt_of_le (Heap.lt_size e) z) (Nat.lt_irrefl _)
  have cellK : ∀ x c, X.env.cells.lookup x = some c → ∀ v, s.heap.IsCell c v → h'.IsCell c v := fun x c e v ⟨o, ho, hd⟩ => by
    have nch : c ∉ ch := fun z => (hch c z).2.2.1 x c e rfl
    by_cases hc : c ∈ X.fs
    · obtain ⟨sl, q⟩ := slot c o (I.cne x c e) hc nch ho (I.freeC x c e)
      exact ⟨_, q, hd⟩
    · exact ⟨o, keep c o (I.cne x c e) hc nch ho (I.freeC x c e), hd⟩
  refine ⟨I.ok, I.os, hg, ⟨fun b o e n hb hx => ?_, fun b o e n hb hx => ?_, fun b o e n hx => ?_, fun b o e hx => ?_, fun b xs e => tups b xs (I.base.tups b xs e), fun b o xs e => frzs b o xs (I.base.frzs b o xs e), fun b ps e => ?_⟩, ?_, fun x c e => ?_, ?_, fun x c e => ?_, fun p hp => ?_, hok, I.len⟩
  · exact keep b o (neL b o e) hb (neC b o e hx) (I.base.keep b o e n hb hx) (I.base.free b o e n hx)
  · obtain ⟨sl, e1⟩ := I.base.slot b o e n hb hx
    obtain ⟨sl', e2⟩ := slot b _ (neL b o e) hb (neC b o e hx) e1 (I.base.free b o e n hx)
    exact ⟨sl', e2⟩
  · obtain ⟨o', e1⟩ := I.base.there b o e hx
    exact free b o' (neC b o e hx) e1 (I.base.free b o e n hx)
  · obtain ⟨o', e1⟩ := I.base.there b o e hx
    exact there b o' (neC b o e hx) e1
  · obtain ⟨m1, e1⟩ := I.base.tbls b ps e
    obtain ⟨m2, e2⟩ := tbls b _ e1
    exact ⟨m1 ++ m2, by rw [e2, Array.append_assoc]⟩
  · obtain ⟨m, hn, hl⟩ := I.loc
    refine ⟨m, ns m hn, fun i x v e1 e2 e3 => ?_⟩
    obtain ⟨u, r, l⟩ := hl i x v e1 e2 e3
    refine ⟨u, r, ?_⟩
    rcases l with l | ⟨k, c, e, z⟩
    · exact .inl l
    · exact .inr ⟨k, c, e, cellK x c e _ z⟩
  · obtain ⟨v, z⟩ := I.cell x c e
    exact ⟨v, cellK x c e v z⟩
  · obtain ⟨m, ⟨o, _, _, ho, _⟩, _⟩ := I.loc
    exact free _ o (fun z => (hch _ z).2.1 rfl) ho I.free
  · obtain ⟨v, o, ho, hd⟩ := I.cell x c e
    exact free c o (fun z => (hch c z).2.2.1 x c e rfl) ho (I.freeC x c e)
  · obtain ⟨e, n, ne, nf, d⟩ := I.pin p hp
    have nch : p.1 ∉ ch := fun z => (hch p.1 z).2.2.2 p hp rfl
    exact ⟨keep p.1 p.2 ne nf nch e n, free p.1 p.2 nch e n, ne, nf, d⟩
theorem Inv.un {t' : Nat} (I : Inv X pins σ H s) (u : Un X.fs [] H H' s.heap h') (hok : HOk X.prog X.w H' h') : Inv X pins σ H' { s with heap := h', toks := t' } := by
  obtain ⟨m, ⟨o, es, ep, ho, r⟩, _⟩ := id I.loc
  obtain ⟨sl, hL⟩ := u.any ho I.free (by simp)
  exact I.step (g' := s.gens) (d' := s.drawn) (ch := []) (fun _ z => nomatch z) (fun b o _ hb _ e n => u.keep b o e n hb (by simp)) (fun b o _ hb _ e n => u.slot b o e n hb (by simp)) (fun b o _ e n => u.free b o e n (by simp)) (fun b o _ e => u.there b o e (by simp)) u.tups u.frzs u.tbls (fun m' hm => by
    obtain ⟨o', es', ep', ho', r'⟩ := hm
    rw [ho] at ho'; cases ho'
    exact ⟨_, es', ep', hL, r'⟩) hok I.bare
theorem Inv.call {g' : Array GenState} {t' : Nat} {d' : Drawn} {ch : List Addr} (I : Inv X pins σ H s) (u : Un (frs X.stack) ch H H' s.heap h') (hok : HOk X.prog X.w H' h') (hg : AllBare g')
    (hch : ∀ b ∈ ch, (b ∈ X.ex ∨ X.s₀.heap.objs.size ≤ b) ∧ b ≠ X.env.locals ∧ (∀ x c, X.env.cells.lookup x = some c → c ≠ b) ∧ ∀ p ∈ X.pn ++ pins, p.1 ≠ b) :
    Inv X pins σ H' { s with heap := h', gens := g', drawn := d', toks := t' } := by
  obtain ⟨m, ⟨o, es, ep, ho, r⟩, _⟩ := id I.loc
  obtain ⟨sl, hL⟩ := u.any ho I.free fun z => (hch _ z).2.1 rfl
  exact I.step (ch := ch) hch (fun b o hL hb hc e n => u.keep b o e n (fun z => (List.mem_cons.mp (I.stkSub b z)).elim hL hb) hc) (fun b o _ _ hc e n => u.any e n hc) (fun b o hc e n => u.free b o e n hc) (fun b o hc e => u.there b o e hc) u.tups u.frzs u.tbls (fun m' hm => by
    obtain ⟨o', es', ep', ho', r'⟩ := hm
    rw [ho] at ho'; cases ho'
    exact ⟨_, es', ep', hL, r'⟩) hok hg
theorem Inv.turned {t' : Nat} {it : Addr} (I : Inv X pins σ H s) (k : ∀ b o, b ≠ it → s.heap.get? b = some o → h'.get? b = some o) (hn : H it = none) (hL : it ≠ X.env.locals)
    (h1 : it ∈ X.ex ∨ X.s₀.heap.objs.size ≤ it) (h2 : ∀ x c, X.env.cells.lookup x = some c → c ≠ it) (h3 : ∀ p ∈ X.pn ++ pins, p.1 ≠ it) : Inv X pins σ H { s with heap := h', toks := t' } := by
  have nit : ∀ b u, H b = some u → b ≠ it := fun b u e z => by rw [z, hn] at e; cases e
  refine I.step (g' := s.gens) (d' := s.drawn) (ch := [it]) (fun b hb => ?_) (fun b o _ _ hc e _ => k b o (fun z => hc (by simp [z])) e) (fun b o _ _ hc e _ => ⟨o.slots, k b o (fun z => hc (by simp [z])) e⟩) (fun _ _ _ _ n => n)
    (fun b o hc e => ⟨o, k b o (fun z => hc (by simp [z])) e⟩) (fun _ _ e => e) (fun _ _ _ e => e) (fun b ps e => ⟨#[], by rw [e]; simp⟩) (fun m hm => ?_) (fun b u e => ?_) I.bare
  · have e : b = it := by simpa using hb
    subst e
    exact ⟨h1, hL, h2, h3⟩
  · obtain ⟨o, es, ep, ho, r⟩ := hm
    exact ⟨o, es, ep, k _ o (Ne.symm hL) ho, r⟩
  · refine (I.hok b u e).stay (fun c v hc q => k c v ?_ q) (fun _ q => q) fun _ _ q => q
    rcases hc with z | z
    · rw [z]; exact nit b u e
    · exact nit c _ z
theorem Inv.tok (I : Inv X pins σ H s) (t : Nat) : Inv X pins σ H { s with toks := t } := I.un (h' := s.heap) (t' := t) Un.refl I.hok
theorem Inv.kept {t' : Nat} (I : Inv X pins σ H s) (k : ∀ b u, s.heap.get? b = some u → h'.get? b = some u) : Inv X pins σ H { s with heap := h', toks := t' } := I.un (Un.kept k) (I.hok.kept k)
theorem Inv.laid {a : Addr} {o : HO} {t' : Nat} (I : Inv X pins σ H s) (k : ∀ b u, s.heap.get? b = some u → h'.get? b = some u) (hp : s.heap.objs.size ≤ a) (new : ObjOk X.prog X.w (upd H a o) h' a o) :
    Inv X pins σ (upd H a o) { s with heap := h', toks := t' } := I.un (Un.laid k hp (I.hok.fresh hp)) (I.hok.laid k hp new)
theorem Inv.write {x e : Addr} {o : HO} {t' : Nat} (I : Inv X pins σ H s) (mu : Mut (H x)) (he : e = x ∨ H e = some (.own x)) (k : ∀ b u, b ≠ e → s.heap.get? b = some u → h'.get? b = some u) (heo : ∃ u, h'.get? e = some u)
    (new : ObjOk X.prog X.w (upd H x o) h' x o) : Inv X pins σ (upd H x o) { s with heap := h', toks := t' } := I.un (Un.write mu he k heo) (I.hok.write mu he k heo new)
theorem Inv.pins_of {pins' : List (Addr × Obj)} (I : Inv X pins σ H s) (h : ∀ p ∈ pins', s.heap.get? p.1 = some p.2 ∧ H p.1 = none ∧ p.1 ≠ X.env.locals ∧ p.1 ∉ X.fs ∧ ∀ v, p.2.data ≠ .cell v) : Inv X pins' σ H s :=
  ⟨I.ok, I.os, I.bare, I.base, I.loc, I.cell, I.free, I.freeC, fun p hp => (List.mem_append.mp hp).elim (fun z => I.pin p (List.mem_append_left _ z)) (h p), I.hok, I.len⟩
theorem nodup_ix {N : List Str} (hN : N.Nodup) {i j : Nat} {x : Str} (a : N[i]? = some x) (b : N[j]? = some x) : i = j := by
  obtain ⟨h1, e1⟩ := List.getElem?_eq_some_iff.mp a
  obtain ⟨h2, e2⟩ := List.getElem?_eq_some_iff.mp b
  exact (List.getElem_inj hN).mp (e1.trans e2.symm)
theorem store_ok2 {M : Model} {A : Around} {E : Value → Shared → Prop} {i : Nat} {x : Str} {v : V} {u : Value} {Q : Unit → Shared → Prop} (I : Inv X pins σ H s) (hN : X.N.Nodup) (hi : X.N[i]? = some x) (hx : Loc X.env.scope x) (r : RelV v u)
    (h : ∀ s', Inv X pins (σ.set i (some v)) H s' → (∃ a, Heap.SameBut a s.heap s'.heap ∧ (a = X.env.locals ∨ X.env.cells.lookup x = some a)) → Q () s') (hf : X.fn x = true ∨ X.env.scope.names.lookup x = some .local := by first | exact .inl rfl | exact .inr rfl | assumption) : wpAny M A (storeName X.env x u) Q E s := by
  obtain ⟨m, hn, hl⟩ := id I.loc
  have hcls : (X.env.scope.kind == .class || (X.env.scope.kind == .module && X.env.locals != X.env.globals)) = false := by rw [I.ok.kind]; rfl
  have hiσ : i < σ.length := by rw [I.len]; exact (List.getElem?_eq_some_iff.mp hi).1
  have cne := I.cne
  have tracked : ∀ {a : Addr} {h' : Heap}, (∃ o, s.heap.get? a = some o ∧ H a = none) → Heap.SameBut a s.heap h' → HOk X.prog X.w H h' := fun {a h'} ha hs b ob e => by
    obtain ⟨_, _, hfree⟩ := ha
    refine (I.hok b ob e).stay (fun c w' hc q => (hs.2 c ?_).trans q) (fun _ q => q) fun _ _ q => q
    rintro rfl
    rcases hc with rfl | hc
    · rw [hfree] at e; cases e
    · rw [hfree] at hc; cases hc
  rcases hx with hk | hk
  · refine wpAny_storeName_local hk hn (fun h' hn' hs => ?_) hcls
    obtain ⟨oL, _, _, hoL, _⟩ := id hn
    refine h _ ⟨I.ok, I.os, I.bare, ⟨fun b o e n hb hx => ?_, fun b o e n hb hx => ?_, I.base.free, fun b o e hx => ?_, I.base.tups, I.base.frzs, I.base.tbls⟩, ⟨_, hn', fun j y v' e1 e2 e3 => ?_⟩, fun y c e => ?_, I.free, I.freeC, fun p hp => ?_, tracked ⟨oL, hoL, I.free⟩ hs, by simpa using I.len⟩ ⟨_, hs, .inl rfl⟩
    · exact (hs.2 b (Nat.ne_of_lt (Nat.lt_of_lt_of_le (Heap.lt_size e) I.ok.above))).trans (I.base.keep b o e n hb hx)
    · obtain ⟨sl, e1⟩ := I.base.slot b o e n hb hx
      exact ⟨sl, (hs.2 b (Nat.ne_of_lt (Nat.lt_of_lt_of_le (Heap.lt_size e) I.ok.above))).trans e1⟩
    · obtain ⟨o', e1⟩ := I.base.there b o e hx
      exact ⟨o', (hs.2 b (Nat.ne_of_lt (Nat.lt_of_lt_of_le (Heap.lt_size e) I.ok.above))).trans e1⟩
    · by_cases hj : j = i
      · subst hj
        rw [hi] at e1; cases e1
        rw [List.getElem?_set_self hiσ] at e2
        cases e2
        exact ⟨u, r, .inl ⟨hk, by simp⟩⟩
      · rw [List.getElem?_set_ne (Ne.symm hj)] at e2
        obtain ⟨u', r', q⟩ := hl j y v' e1 e2 e3
        refine ⟨u', r', ?_⟩
        rcases q with ⟨k, e⟩ | ⟨k, c, e, z⟩
        · refine .inl ⟨k, ?_⟩
          have : y ≠ x := fun e => hj (nodup_ix hN e1 (e ▸ hi))
          simp [this, e]
        · exact .inr ⟨k, c, e, z.sameBut hs (cne y c e)⟩
    · obtain ⟨w', z⟩ := I.cell y c e
      exact ⟨w', z.sameBut hs (cne y c e)⟩
    · obtain ⟨e, n, ne, nf, d⟩ := I.pin p hp
      exact ⟨(hs.2 p.1 ne).trans e, n, ne, nf, d⟩
  · have hfn : X.fn x = true := by
      rcases hf with z | z
      · exact z
      · rw [z] at hk; cases hk
    obtain ⟨c, hc⟩ := I.ok.has x (.inl hk)
    obtain ⟨w', z⟩ := I.cell x c hc
    refine wpAny_storeName_cell I.ok.kind hk hc z (fun h' hc' hs => ?_)
    obtain ⟨oc, hoc, hocd⟩ := id z
    refine h { s with heap := h' } ⟨I.ok, I.os, I.bare, ⟨fun b o e n hb hx => ?_, fun b o e n hb hx => ?_, I.base.free, fun b o e hx => ?_, I.base.tups, I.base.frzs, I.base.tbls⟩, ⟨m, hn.sameBut hs (Ne.symm (cne x c hc)), fun j y v' e1 e2 e3 => ?_⟩, fun y c' e => ?_, I.free, I.freeC, fun p hp => ?_, tracked ⟨oc, hoc, I.freeC x c hc⟩ hs, by simpa using I.len⟩ ⟨c, hs, .inr hc⟩
    · exact (hs.2 b (Nat.ne_of_lt (Nat.lt_of_lt_of_le (Heap.lt_size e) (I.ok.cab x c hfn hc)))).trans (I.base.keep b o e n hb hx)
    · obtain ⟨sl, e1⟩ := I.base.slot b o e n hb hx
      exact ⟨sl, (hs.2 b (Nat.ne_of_lt (Nat.lt_of_lt_of_le (Heap.lt_size e) (I.ok.cab x c hfn hc)))).trans e1⟩
    · obtain ⟨o', e1⟩ := I.base.there b o e hx
      exact ⟨o', (hs.2 b (Nat.ne_of_lt (Nat.lt_of_lt_of_le (Heap.lt_size e) (I.ok.cab x c hfn hc)))).trans e1⟩
    · by_cases hj : j = i
      · subst hj
        rw [hi] at e1; cases e1
        rw [List.getElem?_set_self hiσ] at e2
        cases e2
        exact ⟨u, r, .inr ⟨.inl hk, c, hc, hc'⟩⟩
      · rw [List.getElem?_set_ne (Ne.symm hj)] at e2
        obtain ⟨u', r', q⟩ := hl j y v' e1 e2 e3
        refine ⟨u', r', ?_⟩
        rcases q with q | ⟨k, c', e, z'⟩
        · exact .inl q
        · refine .inr ⟨k, c', e, z'.sameBut hs ?_⟩
          rintro rfl
          exact hj (nodup_ix hN e1 (I.ok.inj _ _ _ e hc ▸ hi))
    · by_cases hcc : c' = c
      · subst hcc; exact ⟨_, hc'⟩
      · obtain ⟨w2, z2⟩ := I.cell y c' e
        exact ⟨w2, z2.sameBut hs hcc⟩
    · obtain ⟨e, n, ne, nf, d⟩ := I.pin p hp
      refine ⟨(hs.2 p.1 ?_).trans e, n, ne, nf, d⟩
      intro q
      rw [q, hoc] at e
      have q' : oc = p.2 := Option.some.inj e
      exact d w' (by rw [← q']; exact hocd)
theorem store_ok {M : Model} {A : Around} {E : Value → Shared → Prop} {i : Nat} {x : Str} {v : V} {u : Value} {Q : Unit → Shared → Prop} (I : Inv X pins σ H s) (hN : X.N.Nodup) (hi : X.N[i]? = some x) (hx : Loc X.env.scope x) (r : RelV v u)
    (h : ∀ s', Inv X pins (σ.set i (some v)) H s' → Q () s') (hf : X.fn x = true ∨ X.env.scope.names.lookup x = some .local := by first | exact .inl rfl | exact .inr rfl | assumption) : wpAny M A (storeName X.env x u) Q E s :=
  store_ok2 I hN hi hx r (fun s' I' _ => h s' I') hf
theorem Inv.call' {s' : Shared} {ch : List Addr} (I : Inv X pins σ H s) (ho : s'.os = s.os) (u : Un (frs X.stack) ch H H' s.heap s'.heap) (hok : HOk X.prog X.w H' s'.heap) (hg : AllBare s'.gens)
    (hch : ∀ b ∈ ch, (b ∈ X.ex ∨ X.s₀.heap.objs.size ≤ b) ∧ b ≠ X.env.locals ∧ (∀ x c, X.env.cells.lookup x = some c → c ≠ b) ∧ ∀ p ∈ X.pn ++ pins, p.1 ≠ b) : Inv X pins σ H' s' := by
  obtain ⟨h', g', d', t', o'⟩ := s'
  have e : o' = s.os := ho
  subst e
  exact I.call (g' := g') (t' := t') (d' := d') u hok hg hch
end
noncomputable abbrev XK := Value → Option Addr → Hp → Prop
noncomputable abbrev St := List (Option V)
noncomputable abbrev VK := V → Hp → Prop
noncomputable abbrev TE := St → Hp → VK → Prop
noncomputable abbrev TT := St → Hp → (Bool → Hp → Prop) → Prop
noncomputable abbrev TA := St → Hp → (List V → Hp → Prop) → Prop
structure Ends where
  nx : St → Hp → Prop
  rt : VK
  bk : St → Hp → Prop := fun _ _ => False
  ct : St → Hp → Prop := fun _ _ => False
noncomputable abbrev TS := Ends → St → Hp → Prop
noncomputable def EP (X : Cx) (pins : List (Addr × Obj)) (σ : St) (Q : VK) (u : Value) (s' : Shared) : Prop := ∃ v H', Inv X pins σ H' s' ∧ RelV v u ∧ Q v H'
noncomputable def TP (X : Cx) (pins : List (Addr × Obj)) (σ : St) (Q : Bool → Hp → Prop) (b : Bool) (s' : Shared) : Prop := ∃ H', Inv X pins σ H' s' ∧ Q b H'
noncomputable def AP (X : Cx) (pins : List (Addr × Obj)) (σ : St) (Q : List V → Hp → Prop) (us : List Value) (s' : Shared) : Prop := ∃ vs H', Inv X pins σ H' s' ∧ Vals vs us ∧ Q vs H'
noncomputable def SP (X : Cx) (pins : List (Addr × Obj)) (D : Ends) (f : Flow) (s' : Shared) : Prop :=
  match f with
  | .next => ∃ σ' H', Inv X pins σ' H' s' ∧ D.nx σ' H'
  | .brk => ∃ σ' H', Inv X pins σ' H' s' ∧ D.bk σ' H'
  | .cont => ∃ σ' H', Inv X pins σ' H' s' ∧ D.ct σ' H'
  | .ret u => ∃ v σ' H', Inv X pins σ' H' s' ∧ RelV v u ∧ D.rt v H'
noncomputable def PE (X : Cx) (e : Expr) (t : TE) : Prop :=
  ∀ (pins : List (Addr × Obj)) (s : Shared) (σ : St) (H : Hp) (Q : VK), Inv X pins σ H s → t σ H Q → wpAny (model X.prog X.w) X.A (eval e X.env) (EP X pins σ Q) X.xe s
noncomputable def PT (X : Cx) (e : Expr) (t : TT) : Prop :=
  ∀ (pins : List (Addr × Obj)) (s : Shared) (σ : St) (H : Hp) (Q : Bool → Hp → Prop), Inv X pins σ H s → t σ H Q → wpAny (model X.prog X.w) X.A (isTrue e X.env (eval e X.env)) (TP X pins σ Q) X.xe s
noncomputable def PW (X : Cx) (e : Expr) (t : TT) : Prop :=
  ∀ (whole : Sem Value) (pins : List (Addr × Obj)) (s : Shared) (σ : St) (H : Hp) (Q : Bool → Hp → Prop), Inv X pins σ H s → t σ H Q → wpAny (model X.prog X.w) X.A (isTrue e X.env whole) (TP X pins σ Q) X.xe s
theorem PW.pt {X : Cx} {e : Expr} {t : TT} (h : PW X e t) : PT X e t := h _
noncomputable def PA (X : Cx) (es : List Expr) (t : TA) : Prop :=
  ∀ (pos : Pos) (pins : List (Addr × Obj)) (s : Shared) (σ : St) (H : Hp) (Q : List V → Hp → Prop), Inv X pins σ H s → t σ H Q → wpAny (model X.prog X.w) X.A (spliced (backTo pos (starEach es X.env))) (AP X pins σ Q) X.xe s
noncomputable def PS (X : Cx) (st : Stmt) (t : TS) : Prop :=
  ∀ (pins : List (Addr × Obj)) (s : Shared) (σ : St) (H : Hp) (D : Ends), Inv X pins σ H s → t D σ H → wpAny (model X.prog X.w) X.A (exec st X.env) (SP X pins D) X.xe s
noncomputable def PSs (X : Cx) (st : List Stmt) (t : TS) : Prop :=
  ∀ (pins : List (Addr × Obj)) (s : Shared) (σ : St) (H : Hp) (D : Ends), Inv X pins σ H s → t D σ H → wpAny (model X.prog X.w) X.A (execs st X.env) (SP X pins D) X.xe s
theorem thn {α : Type} {t : Sem α} {Q Q' : α → Shared → Prop} {M : Model} {A : Around} {E : Value → Shared → Prop} {s : Shared} (h : wpAny M A t Q E s) (hQ : ∀ a s, Q a s → Q' a s) : wpAny M A t Q' E s := wpAny_mono h hQ fun _ _ x => x
end L2
namespace L2
open PySem PySem.Spec PyProof.Rows
section
variable {X : Cx}
noncomputable def tVar (i : Nat) : TE := fun σ H Q => ∃ v, σ[i]? = some (some v) ∧ Q v H
noncomputable def tC (v : V) : TE := fun _ H Q => Q v H
theorem pe_var {i : Nat} {x : Str} {pos : Pos} (hN : X.N[i]? = some x) (hv : Vis X.env.scope x) (hd : (x == ("__debug__" : Str)) = false := by decide) (hcd : (x == ("__classdict__" : Str)) = false := by decide) : PE X (.Name x pos) (tVar i) := by
  intro pins s σ H Q I h
  obtain ⟨v, e, h⟩ := h
  obtain ⟨m, hn, hl⟩ := I.loc
  obtain ⟨u, r, l⟩ := hl i x v hN e hv
  have fin : EP X pins σ Q u s := ⟨v, H, I, r, h⟩
  rcases l with ⟨hk, hm⟩ | ⟨hk, c, hc, hcell⟩
  · exact wpAny_Name (wpAny_loadName_local I.ok.kind hk hn hm fin) hd
  · rcases hk with hk | hk
    · exact wpAny_Name (wpAny_loadName_cell I.ok.kind hk hc hcell fin) hd
    · exact wpAny_Name (wpAny_loadName_free I.ok.kind hk hc hcell fin hcd) hd
theorem pe_int {i j pos} : PE X (.Constant (.int i) j pos) (tC (.int i)) := fun _ _ _ H _ I h => wpAny_Constant_int ⟨.int i, H, I.tok _, ⟨_, rfl⟩, h⟩
theorem pe_bl {b j pos} : PE X (.Constant (.bool b) j pos) (tC (.bl b)) := fun _ _ _ H _ I h => Constant_bool ⟨.bl b, H, I, rfl, h⟩
theorem pe_non {j pos} : PE X (.Constant .none j pos) (tC .non) := fun _ _ _ H _ I h => Constant_none ⟨.non, H, I, rfl, h⟩
theorem pe_str {x j pos} : PE X (.Constant (.str x) j pos) (tC (.str x)) := fun _ _ _ H _ I h => Calls.Constant_str ⟨.str x, H, I.tok _, ⟨_, rfl⟩, h⟩
noncomputable def Gl (X : Cx) (x : Str) : Prop := X.env.kindOf x = some .globalImplicit
theorem ld_glob {E : Value → Shared → Prop} {pins : List (Addr × Obj)} {s : Shared} {σ : St} {H : Hp} {x : Str} {u : Value} {pos : Pos} {Q : Value → Shared → Prop} (I : Inv X pins σ H s) (hg : Gl X x) (hm : X.mg x = some u) (h : Q u s)
    (hd : (x == ("__debug__" : Str)) = false := by decide) : wpAny (model X.prog X.w) X.A (eval (.Name x pos) X.env) Q E s :=
  Calls.Name_function_global I.ok.kind hg (Calls.loadGlobal_global (by rw [I.ok.glob]; exact I.mod.glob.keeps I.bk) hm h) hd
theorem ld_blt {E : Value → Shared → Prop} {pins : List (Addr × Obj)} {s : Shared} {σ : St} {H : Hp} {x : Str} {u : Value} {pos : Pos} {Q : Value → Shared → Prop} (I : Inv X pins σ H s) (hg : Gl X x) (hm : X.mg x = none) (hv : bootBuiltins x = some u) (h : Q u s)
    (hn : x ≠ "__name__" := by decide) (hd : (x == ("__debug__" : Str)) = false := by decide) : wpAny (model X.prog X.w) X.A (eval (.Name x pos) X.env) Q E s := by
  obtain ⟨mb, h1, h2⟩ := I.mod.blt
  exact Calls.Name_function_global I.ok.kind hg (Calls.loadGlobal_builtin (by rw [I.ok.glob]; exact I.mod.glob.keeps I.bk) hm (by rw [I.ok.blt]; exact h1.keeps I.bk) ((h2 x hn).trans hv) h) hd
theorem pe_glob {x : Str} {v : V} {u : Value} {pos : Pos} (hg : Gl X x) (hm : X.mg x = some u) (r : RelV v u) (hd : (x == ("__debug__" : Str)) = false := by decide) : PE X (.Name x pos) (tC v) :=
  fun _ _ _ H _ I h => ld_glob I hg hm ⟨v, H, I, r, h⟩ hd
theorem pe_bltn {x : Str} {v : V} {u : Value} {pos : Pos} (hg : Gl X x) (hm : X.mg x = none) (hv : bootBuiltins x = some u) (r : RelV v u) (hn : x ≠ "__name__" := by decide) (hd : (x == ("__debug__" : Str)) = false := by decide) : PE X (.Name x pos) (tC v) :=
  fun _ _ _ H _ I h => ld_blt I hg hm hv ⟨v, H, I, r, h⟩ hn hd
variable {a b : Expr} {ta tb : TE} {pos : Pos}
noncomputable def tB (t : TE) : TT := fun σ H Q => t σ H fun x H1 => ∃ c, x = .bl c ∧ Q c H1
theorem pt_val {e : Expr} {t : TE} (h : PE X e t) (he : ∀ whole, isTrue e X.env whole = (do let v ← whole; standAt e.pos; holding [v] (truthy v)) := by intro _; rfl) : PT X e (tB t) := by
  intro pins s σ H Q I hw
  refine isTrue_plain (thn (h pins s σ H _ I hw) fun v s1 ⟨x, H1, I1, r1, q1⟩ => ?_) (he _)
  obtain ⟨d, rfl, q⟩ := q1
  cases r1
  exact wpAny_truthy_bool ⟨H1, I1, q⟩
variable {tA tB' : TT} {rest : List Expr}
noncomputable def tAnd (t u : TT) : TT := fun σ H Q => t σ H fun c H1 => if c = true then u σ H1 Q else Q false H1
noncomputable def tOr (t u : TT) : TT := fun σ H Q => t σ H fun c H1 => if c = true then Q true H1 else u σ H1 Q
noncomputable def tNot (t : TT) : TT := fun σ H Q => t σ H fun c H1 => Q (!c) H1
theorem pw_and1 (ha : PT X a tA) : PW X (.BoolOp .And [a] pos) tA := by
  intro wh pins s σ H Q I h
  refine isTrue_and (thn (ha pins s σ H Q I h) fun c s1 e => ?_)
  cases c with
  | true => exact isTrue_and_nil e
  | false => exact e
theorem pw_or1 (ha : PT X a tA) : PW X (.BoolOp .Or [a] pos) tA := by
  intro wh pins s σ H Q I h
  refine isTrue_or (thn (ha pins s σ H Q I h) fun c s1 e => ?_)
  cases c with
  | false => exact isTrue_or_nil e
  | true => exact e
theorem pw_and (ha : PT X a tA) (hb : PW X (.BoolOp .And (b :: rest) pos) tB') : PW X (.BoolOp .And (a :: b :: rest) pos) (tAnd tA tB') := by
  intro wh pins s σ H Q I h
  refine isTrue_and (thn (ha pins s σ H _ I h) fun c s1 ⟨H1, I1, q1⟩ => ?_)
  cases c with
  | true => exact hb wh pins s1 σ H1 Q I1 q1
  | false => exact ⟨H1, I1, q1⟩
theorem pw_or (ha : PT X a tA) (hb : PW X (.BoolOp .Or (b :: rest) pos) tB') : PW X (.BoolOp .Or (a :: b :: rest) pos) (tOr tA tB') := by
  intro wh pins s σ H Q I h
  refine isTrue_or (thn (ha pins s σ H _ I h) fun c s1 ⟨H1, I1, q1⟩ => ?_)
  cases c with
  | true => exact ⟨H1, I1, q1⟩
  | false => exact hb wh pins s1 σ H1 Q I1 q1
theorem pt_not (ha : PT X a tA) : PT X (.UnaryOp .Not a pos) (tNot tA) := by
  intro pins s σ H Q I h
  exact isTrue_not (ha pins s σ H (fun c H1 => Q (!c) H1) I h)
noncomputable def tAndV (ta tb : TE) : TE := fun σ H Q => ta σ H fun x H1 => ∃ c, x = .bl c ∧ if c = true then tb σ H1 Q else Q (.bl false) H1
noncomputable def tNotV (ta : TE) : TE := fun σ H Q => ta σ H fun x H1 => ∃ c, x = .bl c ∧ Q (.bl (!c)) H1
theorem pe_one {op} {t : TE} (h : PE X a t) : PE X (.BoolOp op [a] pos) t := fun pins s σ H Q I hw => BoolOp_one (h pins s σ H Q I hw)
theorem pe_and (ha : PE X a ta) (hb : PE X (.BoolOp .And (b :: rest) pos) tb) : PE X (.BoolOp .And (a :: b :: rest) pos) (tAndV ta tb) := by
  intro pins s σ H Q I h
  refine BoolOp_and (thn (ha pins s σ H _ I h) fun v s1 ⟨x, H1, I1, r1, q1⟩ => ?_)
  obtain ⟨c, rfl, q1⟩ := q1
  cases r1
  refine wpAny_truthy_bool ?_
  cases c with
  | true => exact hb pins s1 σ H1 Q I1 q1
  | false => exact ⟨.bl false, H1, I1, rfl, q1⟩
theorem pe_not (ha : PE X a ta) : PE X (.UnaryOp .Not a pos) (tNotV ta) := by
  intro pins s σ H Q I h
  refine UnaryOp_ (thn (ha pins s σ H _ I h) fun v s1 ⟨x, H1, I1, r1, q1⟩ => ?_)
  obtain ⟨c, rfl, q1⟩ := q1
  cases r1
  exact not_of (wpAny_truthy_bool ⟨.bl (!c), H1, I1, rfl, q1⟩)
noncomputable def tIf (t : TT) (ta tb : TE) : TE := fun σ H Q => t σ H fun c H1 => if c = true then ta σ H1 Q else tb σ H1 Q
theorem pe_ifExp {c : Expr} (hc : PT X c tA) (ha : PE X a ta) (hb : PE X b tb) : PE X (.IfExp c a b pos) (tIf tA ta tb) := by
  intro pins s σ H Q I h
  refine wpAny_IfExp (thn (hc pins s σ H _ I h) fun d s1 ⟨H1, I1, q1⟩ => ?_)
  cases d with
  | true => exact ha pins s1 σ H1 Q I1 q1
  | false => exact hb pins s1 σ H1 Q I1 q1
end
end L2
namespace L2
open PySem PySem.Spec PyProof.Rows
noncomputable def SqL (K : PySem.W.Frag) (H : Hp) (a : Addr) (xs : List V) : Prop :=
  Rd H a (.lst xs) ∨
    ∃ (o : Obj) (its : Array Value) (n : Nat), K.lookup a = some o ∧ o.cls = .type "list" ∧ o.dict = none ∧ o.data = .seq its n ∧ its.size ≤ sizeLine ∧ Vals xs its.toList
noncomputable def SqT (K : PySem.W.Frag) (H : Hp) (a : Addr) (xs : List V) : Prop :=
  Rd H a (.tup xs) ∨
    ∃ (o : Obj) (its : Array Value) (n : Nat), K.lookup a = some o ∧ o.cls = .type "tuple" ∧ o.data = .seq its n ∧ its.size ≤ sizeLine ∧ Vals xs its.toList
noncomputable def absV : Value → Option V
  | .none => some .non
  | .bool b => some (.bl b)
  | .int i _ => some (.int i)
  | .str x _ => some (.str x)
  | .bytes b _ => some (.byt b)
  | .float b _ => some (.flt b)
  | .ref a => some (.ref a)
  | .type n => some (.ty n)
  | _ => none
theorem RelV.abs {x : V} {u : Value} (r : RelV x u) : absV u = some x := by
  cases x with
  | non => cases r; rfl
  | bl _ => cases r; rfl
  | int _ => obtain ⟨t, rfl⟩ := r; rfl
  | str _ => obtain ⟨t, rfl⟩ := r; rfl
  | byt _ => obtain ⟨t, rfl⟩ := r; rfl
  | flt _ => obtain ⟨t, rfl⟩ := r; rfl
  | ref _ => cases r; rfl
  | ty _ => cases r; rfl
theorem RelV.inj {x y : V} {u : Value} (r : RelV x u) (q : RelV y u) : x = y := Option.some.inj (r.abs.symm.trans q.abs)
theorem Vals.inj : ∀ {xs ys : List V} {us : List Value}, Vals xs us → Vals ys us → xs = ys
  | _, _, _, .nil, .nil => rfl
  | _, _, _, .cons r t, .cons r' t' => by rw [r.inj r', Vals.inj t t']
section
variable {X : Cx} {pins : List (Addr × Obj)} {σ : St} {H : Hp} {s : Shared} {a : Addr} {xs ys : List V}
theorem SqL.of {K : PySem.W.Frag} (h : H a = some (.lst xs)) : SqL K H a xs := .inl (.inl h)
theorem SqT.of {K : PySem.W.Frag} (h : H a = some (.tup xs)) : SqT K H a xs := .inl (.inl h)
theorem Inv.list (I : Inv X pins σ H s) (h : SqL X.K H a xs) : ∃ its : List Value, Vals xs its ∧ PlainL s.heap a its.toArray ∧ xs.length ≤ sizeLine := by
  rcases h with h | ⟨o, its, n, hk, hc, hd, hs, hz, r⟩
  · obtain ⟨z, its, n, r, e⟩ := h.ok I.hok
    exact ⟨its, r, ⟨_, n, e, rfl, rfl, rfl⟩, z⟩
  · refine ⟨its.toList, r, ⟨o, n, I.kIn a o hk, hc, hd, by simpa using hs⟩, ?_⟩
    have e := r.length
    simp only [Array.length_toList] at e
    (clear I hk hc hd hs r; omega)
theorem Inv.tuple (I : Inv X pins σ H s) (h : SqT X.K H a xs) : ∃ its : List Value, Vals xs its ∧ IsTup s.heap a its.toArray ∧ xs.length ≤ sizeLine := by
  rcases h with h | ⟨o, its, n, hk, hc, hs, hz, r⟩
  · obtain ⟨z, its, r, p⟩ := h.ok I.hok
    exact ⟨its, r, p, z⟩
  · refine ⟨its.toList, r, ⟨o, I.kIn a o hk, hc, n, by simpa using hs⟩, ?_⟩
    have e := r.length
    simp only [Array.length_toList] at e
    (clear I hk hc hs r; omega)
theorem Inv.list_inj (I : Inv X pins σ H s) (h : SqL X.K H a xs) (h' : SqL X.K H a ys) : xs = ys := by
  obtain ⟨its, r, ⟨o, n, e, _, _, d⟩, _⟩ := I.list h
  obtain ⟨its', r', ⟨o', n', e', _, _, d'⟩, _⟩ := I.list h'
  rw [e] at e'; cases e'
  rw [d] at d'
  injection d' with d1 _
  have : its = its' := by simpa using congrArg Array.toList d1
  subst this
  exact r.inj r'
theorem Inv.tuple_inj (I : Inv X pins σ H s) (h : SqT X.K H a xs) (h' : SqT X.K H a ys) : xs = ys := by
  obtain ⟨its, r, ⟨o, e, _, n, d⟩, _⟩ := I.tuple h
  obtain ⟨its', r', ⟨o', e', _, n', d'⟩, _⟩ := I.tuple h'
  rw [e] at e'; cases e'
  rw [d] at d'
  injection d' with d1 _
  have : its = its' := by simpa using congrArg Array.toList d1
  subst this
  exact r.inj r'
end
noncomputable abbrev Cx.wish (X : Cx) (E : Value → Shared → Prop) : Cx := { X with xe := E }
noncomputable abbrev Cx.nox (X : Cx) : Cx := X.wish fun _ _ => False
theorem Cx.Ok.wish {X : Cx} (ok : X.Ok) (E : Value → Shared → Prop) : (X.wish E).Ok :=
  ⟨ok.mod, ok.kind, ok.glob, ok.blt, ok.above, ok.inj, ok.has, ok.cab, ok.hd, ok.frames, ok.stk, ok.exf, ok.bs, ok.bsz, ok.noex, ok.exfs, ok.funs, ok.frf⟩
theorem Cx.Ok.unwish {X : Cx} {E : Value → Shared → Prop} (ok : (X.wish E).Ok) : X.Ok :=
  ⟨ok.mod, ok.kind, ok.glob, ok.blt, ok.above, ok.inj, ok.has, ok.cab, ok.hd, ok.frames, ok.stk, ok.exf, ok.bs, ok.bsz, ok.noex, ok.exfs, ok.funs, ok.frf⟩
section
variable {X : Cx} {pins : List (Addr × Obj)} {σ : St} {H : Hp} {s : Shared} {E : Value → Shared → Prop}
theorem Inv.wish (I : Inv X pins σ H s) (E : Value → Shared → Prop) : Inv (X.wish E) pins σ H s := ⟨I.ok.wish E, I.os, I.bare, I.base, I.loc, I.cell, I.free, I.freeC, I.pin, I.hok, I.len⟩
theorem Inv.unwish (I : Inv (X.wish E) pins σ H s) : Inv X pins σ H s := ⟨I.ok.unwish, I.os, I.bare, I.base, I.loc, I.cell, I.free, I.freeC, I.pin, I.hok, I.len⟩
theorem SP.unwish {D : Ends} {f : Flow} {s' : Shared} (h : SP (X.wish E) pins D f s') : SP X pins D f s' := by
  cases f with
  | next => obtain ⟨σ', H', I, q⟩ := h; exact ⟨σ', H', I.unwish, q⟩
  | brk => obtain ⟨σ', H', I, q⟩ := h; exact ⟨σ', H', I.unwish, q⟩
  | cont => obtain ⟨σ', H', I, q⟩ := h; exact ⟨σ', H', I.unwish, q⟩
  | ret u => obtain ⟨v, σ', H', I, r, q⟩ := h; exact ⟨v, σ', H', I.unwish, r, q⟩
theorem PSs.nox {st : List Stmt} {t : TS} (h : PSs X.nox st t) : PSs X st t := fun pins s σ H D I hw =>
  wpAny_mono (h pins s σ H D (I.wish _) hw) (fun _ _ q => q.unwish) fun _ _ z => False.elim z
end
section
variable {X : Cx} {st : Stmt} {rest : List Stmt} {t u : TS} {e : Expr} {te : TE} {pos : Pos}
noncomputable def tNext : TS := fun D σ H => D.nx σ H
noncomputable def tSeq (t u : TS) : TS := fun D σ H => t { D with nx := u D } σ H
theorem pss_nil : PSs X [] tNext := fun _ _ σ H _ I h => wpAny_execs_nil ⟨σ, H, I, h⟩
theorem pss_cons (h1 : PS X st t) (h2 : PSs X rest u) : PSs X (st :: rest) (tSeq t u) := by
  intro pins s σ H D I h
  refine wpAny_execs_cons (thn (h1 pins s σ H { D with nx := u D } I h) fun f s1 q => ?_)
  cases f with
  | next =>
    obtain ⟨σ', H', I', q⟩ := q
    exact h2 pins s1 σ' H' D I' q
  | ret v => exact q
  | brk => exact q
  | cont => exact q
theorem pss_one (h1 : PS X st t) : PSs X [st] t := by
  intro pins s σ H D I h
  refine wpAny_execs_cons (thn (h1 pins s σ H D I h) fun f s1 q => ?_)
  cases f with
  | next => exact wpAny_execs_nil q
  | ret v => exact q
  | brk => exact q
  | cont => exact q
theorem Inv.quiet {pins : List (Addr × Obj)} {σ : St} {H : Hp} {s : Shared} (I : Inv X pins σ H s) : interactive X.env = false := by simp [interactive, I.ok.kind]
noncomputable def tDrop (te : TE) : TS := fun D σ H => te σ H fun _ H1 => D.nx σ H1
theorem ps_expr (he : PE X e te) (hs : swapsWith e none pos.line X.env = pure false := by rfl) : PS X (.Expr e pos) (tDrop te) := by
  intro pins s σ H D I h
  exact wpAny_Expr_any (thn (he pins s σ H _ I h) fun v s1 ⟨x, H1, I1, r1, q1⟩ => ⟨σ, H1, I1, q1⟩) I.quiet hs
noncomputable def tRet (te : TE) : TS := fun D σ H => te σ H D.rt
theorem ps_ret (he : PE X e te) : PS X (.Return (some e) pos) (tRet te) := by
  intro pins s σ H D I h
  exact wpAny_Return_some (thn (he pins s σ H _ I h) fun v s1 ⟨x, H1, I1, r1, q1⟩ => ⟨x, σ, H1, I1, r1, q1⟩)
noncomputable def tIfS (c : TT) (t u : TS) : TS := fun D σ H => c σ H fun b H1 => if b = true then t D σ H1 else u D σ H1
theorem ps_if {c : Expr} {a b : List Stmt} {tc : TT} (hc : PT X c tc) (ha : PSs X a t) (hb : PSs X b u) : PS X (.If c a b pos) (tIfS tc t u) := by
  intro pins s σ H D I h
  refine wpAny_If (thn (hc pins s σ H _ I h) fun d s1 ⟨H1, I1, q1⟩ => ?_)
  cases d with
  | true => exact ha pins s1 σ H1 D I1 q1
  | false => exact hb pins s1 σ H1 D I1 q1
end
noncomputable abbrev TG := V → St → Hp → (St → Hp → Prop) → Prop
noncomputable abbrev TGs := List V → St → Hp → (St → Hp → Prop) → Prop
noncomputable def PG (X : Cx) (target : Expr) (t : TG) : Prop :=
  ∀ (pins : List (Addr × Obj)) (s : Shared) (σ : St) (H : Hp) (v : V) (u : Value) (Q : St → Hp → Prop), Inv X pins σ H s → RelV v u → t v σ H Q →
    wpAny (model X.prog X.w) X.A (assign target X.env u) (fun _ s' => ∃ σ' H', Inv X pins σ' H' s' ∧ Q σ' H') X.xe s
noncomputable def PGs (X : Cx) (ts : List Expr) (t : TGs) : Prop :=
  ∀ (pins : List (Addr × Obj)) (s : Shared) (σ : St) (H : Hp) (vs : List V) (us : List Value) (Q : St → Hp → Prop), Inv X pins σ H s → Vals vs us → t vs σ H Q →
    wpAny (model X.prog X.w) X.A (assignInOrder ((assignEach ts X.env).map (·.2)) us) (fun _ s' => ∃ σ' H', Inv X pins σ' H' s' ∧ Q σ' H') X.xe s
noncomputable abbrev TSet := V → V → V → Hp → (Hp → Prop) → Prop
noncomputable def PSet (X : Cx) (t : TSet) : Prop :=
  ∀ (pins : List (Addr × Obj)) (s : Shared) (σ : St) (H : Hp) (o i v : V) (ov iv u : Value) (Q : Hp → Prop), Inv X pins σ H s → RelV o ov → RelV i iv → RelV v u → t o i v H Q →
    wpAny (model X.prog X.w) X.A (setItem ov iv u) (fun _ s' => ∃ H', Inv X pins σ H' s' ∧ Q H') X.xe s
section
variable {X : Cx} {pos : Pos}
noncomputable def gName (i : Nat) : TG := fun v σ H Q => Q (σ.set i (some v)) H
theorem pg_name {i : Nat} {x : Str} (hN : X.N.Nodup) (hi : X.N[i]? = some x) (hx : Loc X.env.scope x) (hf : X.fn x = true ∨ X.env.scope.names.lookup x = some .local := by first | exact .inl rfl | exact .inr rfl | assumption) : PG X (.Name x pos) (gName i) := by
  intro pins s σ H v u Q I r h
  exact wpAny_assign_Name (store_ok I hN hi hx r (fun s' I' => ⟨_, H, I', h⟩) hf)
noncomputable def gNil : TGs := fun vs σ H Q => vs = [] ∧ Q σ H
noncomputable def gCons (t : TG) (u : TGs) : TGs := fun vs σ H Q => ∃ v r, vs = v :: r ∧ t v σ H fun σ' H' => u r σ' H' Q
theorem pgs_nil : PGs X [] gNil := by
  intro pins s σ H vs us Q I r h
  obtain ⟨e, h⟩ := h
  subst e
  cases r
  exact assignInOrder_nil ⟨σ, H, I, h⟩
theorem pgs_cons {e : Expr} {es : List Expr} {t : TG} {u : TGs} (h1 : PG X e t) (h2 : PGs X es u)
    (hs : (assignEach (e :: es) X.env).map (·.2) = assign e X.env :: (assignEach es X.env).map (·.2) := by rfl) : PGs X (e :: es) (gCons t u) := by
  intro pins s σ H vs us Q I r h
  obtain ⟨v, vr, e1, h⟩ := h
  subst e1
  cases r with
  | cons r rr =>
    rw [hs]
    refine assignInOrder_cons (thn (h1 pins s σ H _ _ _ I r h) fun _ s1 ⟨σ1, H1, I1, q1⟩ => ?_)
    exact h2 pins s1 σ1 H1 _ _ Q I1 rr q1
noncomputable def gTup (K : PySem.W.Frag) (n : Nat) (t : TGs) : TG := fun v σ H Q => ∃ a xs, v = .ref a ∧ SqT K H a xs ∧ xs.length = n ∧ t xs σ H Q
theorem pg_tup {es : List Expr} {k : Nat} {t : TGs} {n : Nat} (hc : X.calm = true) (h : PGs X es t)
    (hn : (assignEach es X.env).length = n := by rfl) (hst : (assignEach es X.env).findIdx? (·.1) = none := by rfl) : PG X (.Tuple es k pos) (gTup X.K n t) := by
  intro pins s σ H v u Q I r hw
  obtain ⟨a, xs, e1, hq, hl, hw⟩ := hw
  subst e1
  cases r
  obtain ⟨its, rv, ht, hz⟩ := I.tuple hq
  refine assign_Tuple_tuple (I.ok.hd hc) ht (by simp [hn, ← hl, rv.length]) hst fun h' hx => ?_
  have I1 : Inv X pins σ H { s with heap := h' } := I.kept (t' := s.toks) fun b o e => hx b o (Nat.ne_of_lt (Heap.lt_size e)) e
  exact h pins _ σ H xs _ Q I1 (by simpa using rv) hw
noncomputable def gSub (to ti : TE) (t : TSet) : TG := fun v σ H Q => to σ H fun o H1 => ti σ H1 fun i H2 => t o i v H2 fun H3 => Q σ H3
theorem pg_sub {o i : Expr} {to ti : TE} {t : TSet} (ho : PE X o to) (hi : PE X i ti) (hs : PSet X t)
    (ha : ∀ v, assign (.Subscript o i pos) X.env v = (do
      let ov ← holding [v] (eval o X.env)
      let iv ← holding [v, ov] (eval i X.env)
      standAt pos
      holding [v, ov, iv] (setItem ov iv v)
      release [v, ov, iv] []) := by intro _; rfl) : PG X (.Subscript o i pos) (gSub to ti t) := by
  intro pins s σ H v u Q I r h
  rw [ha]
  refine wpAny_bind (wpAny_holding (thn (ho pins s σ H _ I h) fun ov s1 ⟨x, H1, I1, r1, q1⟩ => ?_))
  refine wpAny_bind (wpAny_holding (thn (hi pins s1 σ H1 _ I1 q1) fun iv s2 ⟨y, H2, I2, r2, q2⟩ => ?_))
  refine wpAny_bind (wpAny_standAt (wpAny_bind (wpAny_holding (thn (hs pins s2 σ H2 x y v ov iv u _ I2 r1 r2 r q2) fun _ s3 ⟨H3, I3, q3⟩ => ?_))))
  exact wpAny_release ⟨σ, H3, I3, q3⟩
noncomputable def tAsg (te : TE) (g : TG) : TS := fun D σ H => te σ H fun x H1 => g x σ H1 D.nx
theorem ps_asg {tg e : Expr} {te : TE} {g : TG} (he : PE X e te) (hg : PG X tg g) (hs : swapsWithSole [tg] e pos.line X.env = pure false := by rfl) (hw : swappedStores [tg] e X.env = pure none := by rfl)
    (h1 : (assignEach [tg] X.env).map (·.2) = [assign tg X.env] := by rfl) : PS X (.Assign [tg] e pos) (tAsg te g) := by
  intro pins s σ H D I h
  refine wpAny_Assign_stores (thn (he pins s σ H _ I h) fun v s1 ⟨x, H1, I1, r1, q1⟩ => ?_) hs hw
  rw [h1]
  exact thn (hg pins s1 σ H1 x v _ I1 r1 q1) fun _ s2 q => q
theorem ps_set {i : Nat} {x : Str} {e : Expr} {te : TE} {pos' : Pos} (hN : X.N.Nodup) (hi : X.N[i]? = some x) (hx : Loc X.env.scope x) (he : PE X e te) (hs : swapsWith e (some (.Name x pos')) pos.line X.env = pure false := by rfl) (hf : X.fn x = true ∨ X.env.scope.names.lookup x = some .local := by first | exact .inl rfl | exact .inr rfl | assumption) :
    PS X (.Assign [.Name x pos'] e pos) (tAsg te (gName i)) := by
  intro pins s σ H D I h
  refine wpAny_Assign_Name (thn (he pins s σ H _ I h) fun v s1 ⟨y, H1, I1, r1, q1⟩ => ?_) hs
  exact store_ok I1 hN hi hx r1 (fun s2 I2 => ⟨_, H1, I2, q1⟩) hf
end
section
variable {X : Cx} {pos : Pos}
noncomputable def tWhile (c : TT) (tb : TS) : TS := fun D σ H => ∃ W : Nat → St → Hp → Prop, (∃ m, W m σ H) ∧ ∀ m σ H, W m σ H →
  c σ H fun b H1 => if b = true then ∃ N : St → Hp → Prop, (∀ σ' H', N σ' H' → ∃ m', m' < m ∧ W m' σ' H') ∧ tb { D with nx := N, ct := N, bk := D.nx } σ H1 else D.nx σ H1
theorem ps_while {c : Expr} {body : List Stmt} {tc : TT} {tb : TS} (hp : PassesOwn (model X.prog X.w) X.A X.env X.xe) (hc : PT X c tc) (hb : PSs X body tb) : PS X (.While c body [] pos) (tWhile tc tb) := by
  intro pins s σ H D I h
  obtain ⟨W, ⟨m0, w0⟩, turn⟩ := h
  refine wpAny_While (codeAny_whileLoop (fun n s' => ∃ σ' H', Inv X pins σ' H' s' ∧ W n σ' H') ?_ m0 ⟨σ, H, I, w0⟩)
  rintro n s1 ⟨σ1, H1, I1, w1⟩
  refine wpAny_passesOwn hp (thn (hc pins s1 σ1 H1 _ I1 (turn n σ1 H1 w1)) fun b s2 ⟨H2, I2, q2⟩ => ?_)
  cases b with
  | true =>
    obtain ⟨N, hN, q2⟩ := q2
    rw [if_pos rfl]
    refine wpAny_passesOwn hp (thn (hb pins s2 σ1 H2 _ I2 q2) fun f s3 q3 => ?_)
    cases f with
    | next =>
      obtain ⟨σ3, H3, I3, n3⟩ := q3
      obtain ⟨m', hm, w3⟩ := hN σ3 H3 n3
      exact ⟨m', hm, σ3, H3, I3, w3⟩
    | cont =>
      obtain ⟨σ3, H3, I3, n3⟩ := q3
      obtain ⟨m', hm, w3⟩ := hN σ3 H3 n3
      exact ⟨m', hm, σ3, H3, I3, w3⟩
    | brk => exact q3
    | ret v => exact q3
  | false =>
    rw [if_neg Bool.false_ne_true]
    exact wpAny_execs_nil ⟨σ1, H2, I2, q2⟩
end
structure It where
  go : Nat → Hp → Prop
  yld : Nat → Hp → V → Hp → Prop
  stop : Nat → Hp → Prop
noncomputable def FpOk (X : Cx) (pins : List (Addr × Obj)) (H : Hp) (b : Addr) : Prop :=
  H b = none ∧ b ≠ X.env.locals ∧ b ∉ X.fs ∧ (b ∈ X.ex ∨ X.s₀.heap.objs.size ≤ b) ∧ (∀ x c, X.env.cells.lookup x = some c → c ≠ b) ∧ ∀ p ∈ X.pn ++ pins, p.1 ≠ b
theorem Inv.fpOk {X : Cx} {pins : List (Addr × Obj)} {σ : St} {H H' : Hp} {s : Shared} {b : Addr} (I : Inv X pins σ H s) (hb : s.heap.objs.size ≤ b) (hn : H' b = none) : FpOk X pins H' b := by
  refine ⟨hn, Nat.ne_of_gt (Nat.lt_of_lt_of_le I.lt hb), I.nofs hb, .inr (Nat.le_trans I.sz hb), fun x c e z => ?_, fun p hp z => ?_⟩
  · obtain ⟨v, q⟩ := I.cell x c e
    exact absurd (Nat.lt_of_lt_of_le q.lt (by rw [z]; exact hb)) (Nat.lt_irrefl _)
  · exact absurd (Nat.lt_of_lt_of_le (Heap.lt_size (I.pin p hp).1) (by rw [z]; exact hb)) (Nat.lt_irrefl _)
structure Turn (P : Program) (w : World) (K : PySem.W.Frag) (tg : Expr) (J : It) (fp : List Addr) (it : Addr) (tn : Nat → Heap → Prop) : Prop where
  mem : it ∈ fp
  obj : ∀ i h, tn i h → ∀ b ∈ fp, ∃ o, h.get? b = some o ∧ ∀ v, o.data ≠ .cell v
  keep : ∀ i h h', tn i h → (∀ b ∈ fp, ∀ o, h.get? b = some o → h'.get? b = some o) → tn i h'
  item : ∀ (X : Cx), X.prog = P → X.w = w → X.K = K → X.calm = true → ∀ (i : Nat) (pins : List (Addr × Obj)) (s : Shared) (σ : St) (H : Hp) (E : Value → Shared → Prop), Inv X pins σ H s → (∀ b ∈ fp, FpOk X pins H b) → tn i s.heap → J.go i H →
    wpAny (model P w) X.A (pyNext (.ref it)) (fun r s1 => ∃ u, r = some u ∧
      wpAny (model P w) X.A (letOwnedTupleGo tg (.ref it) u) (fun _ s2 => ∃ x H', Inv X pins σ H' s2 ∧ RelV x u ∧ J.yld i H x H' ∧ tn (i + 1) s2.heap ∧ ∀ b ∈ fp, H' b = none) E s1) E s
  done : ∀ (X : Cx), X.prog = P → X.w = w → X.K = K → X.calm = true → ∀ (i : Nat) (pins : List (Addr × Obj)) (s : Shared) (σ : St) (H : Hp) (E : Value → Shared → Prop), Inv X pins σ H s → (∀ b ∈ fp, FpOk X pins H b) → tn i s.heap → J.stop i H →
    wpAny (model P w) X.A (pyNext (.ref it)) (fun r s1 => r = none ∧ Inv X pins σ H s1) E s
  self : ∀ (A : Around) (i : Nat) (s : Shared) (Q : Value → Shared → Prop) (E : Value → Shared → Prop), tn i s.heap → Q (.ref it) s → wpAny (model P w) A (pyIter (.ref it)) Q E s
noncomputable abbrev TI := St → Hp → (It → Hp → Prop) → Prop
noncomputable def PIE (X : Cx) (pins : List (Addr × Obj)) (σ : St) (tg : Expr) (R : It → Hp → Prop) (itv : Value) (s2 : Shared) : Prop :=
  ∃ (it : Addr) (fp : List Addr) (tn : Nat → Heap → Prop) (J : It) (H' : Hp), itv = .ref it ∧ Inv X pins σ H' s2 ∧ Turn X.prog X.w X.K tg J fp it tn ∧ tn 0 s2.heap ∧ (∀ b ∈ fp, FpOk X pins H' b) ∧ R J H'
noncomputable def PI (X : Cx) (tg iter : Expr) (wi : TI) : Prop :=
  ∀ (pins : List (Addr × Obj)) (s : Shared) (σ : St) (H : Hp) (R : It → Hp → Prop), Inv X pins σ H s → wi σ H R →
    wpAny (model X.prog X.w) X.A (eval iter X.env) (fun v s1 => wpAny (model X.prog X.w) X.A (pyIter v) (PIE X pins σ tg R) X.xe s1) X.xe s
theorem go_of {M : Model} {A : Around} {E : Value → Shared → Prop} {s : Shared} {tg : Expr} {it : Addr} {u : Value} {o : Obj} {n : String} {vs : Array Value} {Q : Unit → Shared → Prop} (ho : s.heap.get? it = some o) (hc : o.cls = .type n) (hd : o.data = .fields vs)
    (hn : ["enumerate", "zip", "dict_itemiterator", "dict_reverseitemiterator", "odict_iterator", "itertools.zip_longest", "itertools.pairwise"].contains n = false) (hQ : Q () s) : wpAny M A (letOwnedTupleGo tg (.ref it) u) Q E s := by
  unfold letOwnedTupleGo
  cases tg <;> first
    | exact wpAny_pure hQ
    | (cases u <;> first
        | exact wpAny_pure hQ
        | (refine wpAny_bind (wpAny_load ho ?_)
           rw [hc, hd]
           show wpAny M A (if (["enumerate", "zip", "dict_itemiterator", "dict_reverseitemiterator", "odict_iterator", "itertools.zip_longest", "itertools.pairwise"].contains n && vs[0]? == some (rawInt _)) = true then _ else _) Q E s
           rw [if_neg (by intro h; rw [hn, Bool.false_and] at h; cases h)]
           exact wpAny_pure hQ))
noncomputable def Itl (K : PySem.W.Frag) (a : Addr) : It :=
  ⟨fun i H => ∃ xs x, SqL K H a xs ∧ xs[i]? = some x, fun i H x H' => H' = H ∧ ∀ xs, SqL K H a xs → xs[i]? = some x, fun i H => ∃ xs, SqL K H a xs ∧ xs.length ≤ i⟩
noncomputable def Itt (K : PySem.W.Frag) (a : Addr) : It :=
  ⟨fun i H => ∃ xs x, SqT K H a xs ∧ xs[i]? = some x, fun i H x H' => H' = H ∧ ∀ xs, SqT K H a xs → xs[i]? = some x, fun i H => ∃ xs, SqT K H a xs ∧ xs.length ≤ i⟩
noncomputable def Itr (lo : Int) (n : Nat) : It := ⟨fun i _ => i < n, fun i H x H' => H' = H ∧ x = .int (lo + i), fun i _ => n ≤ i⟩
theorem turn_list {P : Program} {w : World} {K : PySem.W.Frag} {tg : Expr} (a it : Addr) : Turn P w K tg (Itl K a) [it] it (fun i h => h.IsListIter it a i) where
  mem := by simp
  obj := fun i h st b hb => by
    have e : b = it := by simpa using hb
    subst e
    obtain ⟨o, e, c, d⟩ := st
    exact ⟨o, e, fun v z => by rw [d] at z; cases z⟩
  keep := fun i h h' st k => st.at fun o e => k it (by simp) o e
  item := by
    intro X hP hw hK hc i pins s σ H E I hf st hg
    subst hP hw hK
    obtain ⟨xs, x, hq, hx⟩ := hg
    obtain ⟨its, rv, p, hz⟩ := I.list hq
    obtain ⟨u, hu, ru⟩ := rv.get hx
    obtain ⟨f0, f1, f2, f3, f4, f5⟩ := hf it (by simp)
    refine wpAny_pyNext_list_item st p.isList (x := u) (by simpa using hu) fun h' st' sb => ?_
    have I1 : Inv X pins σ H { s with heap := h' } := I.turned (t' := s.toks) (fun b o hb e => (sb.2 b hb).trans e) f0 f1 f3 f4 f5
    obtain ⟨o, e, c, d⟩ := id st'
    exact ⟨u, rfl, go_of (s := { s with heap := h' }) e c d (by decide) ⟨x, H, I1, ru, ⟨rfl, fun ys hy => by rw [I.list_inj hy hq]; exact hx⟩, st', fun b hb => (hf b hb).1⟩⟩
  done := by
    intro X hP hw hK hc i pins s σ H E I hf st hg
    subst hP hw hK
    obtain ⟨xs, hq, hx⟩ := hg
    obtain ⟨its, rv, p, hz⟩ := I.list hq
    obtain ⟨f0, f1, f2, f3, f4, f5⟩ := hf it (by simp)
    have hl := rv.length
    exact wpAny_pyNext_list_end (I.ok.hd hc) st p.isList (by simp; (clear hc I hf st hq rv p hz f0 f1 f2 f3 f4 f5; omega)) fun h' eb => ⟨rfl, I.turned (t' := s.toks) (fun b o hb e => eb b o hb e) f0 f1 f3 f4 f5⟩
  self := fun _ _ _ _ _ st h => wpAny_pyIter_listiter st h
theorem turn_tuple {P : Program} {w : World} {K : PySem.W.Frag} {tg : Expr} (a it : Addr) : Turn P w K tg (Itt K a) [it] it (fun i h => h.IsTupleIter it a i) where
  mem := by simp
  obj := fun i h st b hb => by
    have e : b = it := by simpa using hb
    subst e
    obtain ⟨o, e, c, d⟩ := st
    exact ⟨o, e, fun v z => by rw [d] at z; cases z⟩
  keep := fun i h h' st k => st.at fun o e => k it (by simp) o e
  item := by
    intro X hP hw hK hc i pins s σ H E I hf st hg
    subst hP hw hK
    obtain ⟨xs, x, hq, hx⟩ := hg
    obtain ⟨its, rv, p, hz⟩ := I.tuple hq
    obtain ⟨u, hu, ru⟩ := rv.get hx
    obtain ⟨f0, f1, f2, f3, f4, f5⟩ := hf it (by simp)
    refine wpAny_pyNext_tuple_item st (show s.heap.IsTuple a its.toArray from p) (x := u) (by simpa using hu) fun h' st' sb => ?_
    have I1 : Inv X pins σ H { s with heap := h' } := I.turned (t' := s.toks) (fun b o hb e => (sb.2 b hb).trans e) f0 f1 f3 f4 f5
    obtain ⟨o, e, c, d⟩ := id st'
    exact ⟨u, rfl, go_of (s := { s with heap := h' }) e c d (by decide) ⟨x, H, I1, ru, ⟨rfl, fun ys hy => by rw [I.tuple_inj hy hq]; exact hx⟩, st', fun b hb => (hf b hb).1⟩⟩
  done := by
    intro X hP hw hK hc i pins s σ H E I hf st hg
    subst hP hw hK
    obtain ⟨xs, hq, hx⟩ := hg
    obtain ⟨its, rv, p, hz⟩ := I.tuple hq
    obtain ⟨f0, f1, f2, f3, f4, f5⟩ := hf it (by simp)
    have hl := rv.length
    exact wpAny_pyNext_tuple_end (I.ok.hd hc) st (show s.heap.IsTuple a its.toArray from p) (by simp; (clear hc I hf st hq rv p hz f0 f1 f2 f3 f4 f5; omega)) fun h' eb => ⟨rfl, I.turned (t' := s.toks) (fun b o hb e => eb b o hb e) f0 f1 f3 f4 f5⟩
  self := fun _ _ _ _ _ st h => wpAny_pyIter_tupleiter st h
theorem turn_range {P : Program} {w : World} {K : PySem.W.Frag} {tg : Expr} (it : Addr) (lo : Int) (n : Nat) : Turn P w K tg (Itr lo n) [it] it (fun i h => IsRangeIter h it (lo + (i : Nat) * 1) ((n : Int) - (i : Nat)) 1) where
  mem := by simp
  obj := fun i h st b hb => by
    have e : b = it := by simpa using hb
    subst e
    exact ⟨_, st, fun v z => by
      have z' : Data.fields _ = Data.cell v := z
      cases z'⟩
  keep := fun i h h' st k => k it (by simp) _ st
  item := by
    intro X hP hw hK hc i pins s σ H E I hf st hg
    subst hP hw hK
    obtain ⟨f0, f1, f2, f3, f4, f5⟩ := hf it (by simp)
    have W := Walks.range (prog := X.prog) (w := X.w) (I.ok.hd hc) it lo 1 n
    refine W.item i s _ _ hg st fun v h' tk hv st' kk => ?_
    obtain ⟨t, rfl⟩ := hv
    have I1 : Inv X pins σ H { s with heap := h', toks := tk } := I.turned (fun b o hb e => kk b o (by simpa using hb) e) f0 f1 f3 f4 f5
    refine ⟨_, rfl, go_of (s := { s with heap := h', toks := tk }) (n := "range_iterator") st' rfl rfl (by decide) ⟨.int (lo + i), H, I1, ⟨t, ?_⟩, ⟨rfl, rfl⟩, st', fun b hb => (hf b hb).1⟩⟩
    rw [Int.mul_one]
  done := by
    intro X hP hw hK hc i pins s σ H E I hf st hg
    subst hP hw hK
    obtain ⟨f0, f1, f2, f3, f4, f5⟩ := hf it (by simp)
    exact wpAny_pyNext_range_end (I.ok.hd hc) st (by have : n ≤ i := hg; (clear hc I hf st hg f0 f1 f2 f3 f4 f5; omega)) fun h' eb => ⟨rfl, I.turned (t' := s.toks) (fun b o hb e => eb b o hb e) f0 f1 f3 f4 f5⟩
  self := fun _ _ _ _ _ st h => wpAny_pyIter_rangeiter st h
end L2
namespace L2
open PySem PySem.Spec PyProof.Rows
section
variable {X : Cx} {tg : Expr}
theorem range_it {pins : List (Addr × Obj)} {σ : St} {H : Hp} {s : Shared} {R : It → Hp → Prop} {E : Value → Shared → Prop} {lo hi : Int} {t u v : Tok} {tk : Nat} (I : Inv X pins σ H s) (h1 : -(2 ^ 62) ≤ lo) (h2 : lo < 2 ^ 62) (h3 : -(2 ^ 62) ≤ hi) (h4 : hi < 2 ^ 62)
    (q : R (Itr lo (hi - lo).toNat) H) : wpAny (model X.prog X.w) X.A (pyIter (.ref s.heap.objs.size)) (PIE X pins σ tg R) E { s with heap := s.heap.push { cls := .type "range", data := .fields #[.int lo t, .int hi u, .int 1 v] }, toks := tk } := by
  refine wpAny_pyIter_range (IsRange.new ..) (small_one h1 h2 h3 h4) ?_
  have I1 : Inv X pins σ H { s with heap := s.heap.push { cls := .type "range", data := .fields #[.int lo t, .int hi u, .int 1 v] }, toks := tk } := I.kept fun b o e => Heap.get?_push_of_some _ e
  refine ⟨(s.heap.push { cls := .type "range", data := .fields #[.int lo t, .int hi u, .int 1 v] }).objs.size, [(s.heap.push { cls := .type "range", data := .fields #[.int lo t, .int hi u, .int 1 v] }).objs.size], _, _, H, rfl,
    I1.kept (t' := tk) fun b o e => Heap.get?_push_of_some _ e, turn_range _ lo (hi - lo).toNat, ?_, fun b hb => ?_, q⟩
  · have e1 : lo + ((0 : Nat) : Int) * 1 = lo := by simp
    have e2 : (((hi - lo).toNat : Nat) : Int) - ((0 : Nat) : Int) = Builtin.Range.rangeSize lo hi 1 := by rw [rangeSize_one]; split <;> (clear I h1 h2 h3 h4 q I1 e1; omega)
    show IsRangeIter _ _ (lo + ((0 : Nat) : Int) * 1) ((((hi - lo).toNat : Nat) : Int) - ((0 : Nat) : Int)) 1
    rw [e1, e2]
    exact Heap.get?_push_size _ rfl
  · have e : b = (s.heap.push { cls := .type "range", data := .fields #[.int lo t, .int hi u, .int 1 v] }).objs.size := by simpa using hb
    subst e
    exact I1.fpOk (Nat.le_refl _) (I1.hok.fresh (Nat.le_refl _))
noncomputable def iRng1 (ta : TA) : TI := fun σ H R => ta σ H fun vs H1 => ∃ j : Int, vs = [.int j] ∧ -(2 ^ 62) ≤ j ∧ j < 2 ^ 62 ∧ R (Itr 0 j.toNat) H1
theorem pi_range1 {a : Expr} {ta : TA} {p pos : Pos} (hg : Gl X "range") (hm : X.mg "range" = none) (ha : PA X [a] ta) (hs : starEach [a] X.env = [(false, eval a X.env)] := by rfl) : PI X tg (.Call (.Name "range" p) [a] [] pos) (iRng1 ta) := by
  intro pins s σ H R I h
  refine Call_ (ld_blt I hg hm boot_range (PyProof.Rows.callWith_type1 (thn (ha pos pins s σ H _ I h) fun us s1 ⟨vs, H1, I1, r1, q1⟩ => ?_) hs rfl))
  obtain ⟨j, e, q1, q2, q⟩ := q1
  subst e
  cases r1 with
  | cons r rr =>
    cases rr
    obtain ⟨t, rfl⟩ := r
    exact call_range_1 (range_it I1 (by (clear hg hm ha hs I h I1 q1 q2 q; omega)) (by (clear hg hm ha hs I h I1 q1 q2 q; omega)) q1 q2 (by simpa using q))
noncomputable def tFor (wi : TI) (g : TG) (tb : TS) : TS := fun D σ H => wi σ H fun J H1 => ∃ W : Nat → Nat → St → Hp → Prop, (∃ m, W 0 m σ H1) ∧ ∀ i m σ H, W i m σ H →
  (J.stop i H ∧ D.nx σ H) ∨ (J.go i H ∧ ∃ N : St → Hp → Prop, (∀ σ' H', N σ' H' → ∃ m', m' < m ∧ W (i + 1) m' σ' H') ∧ ∀ x H', J.yld i H x H' → g x σ H' fun σ2 H2 => tb { D with nx := N, ct := N, bk := D.nx } σ2 H2)
noncomputable def pinsAt (fp : List Addr) (h : Heap) : List (Addr × Obj) := fp.filterMap fun b => (h.get? b).map fun o => (b, o)
theorem mem_pinsAt {fp : List Addr} {h : Heap} {b : Addr} {o : Obj} (hb : b ∈ fp) (e : h.get? b = some o) : (b, o) ∈ pinsAt fp h := List.mem_filterMap.mpr ⟨b, hb, by rw [e]; rfl⟩
theorem of_pinsAt {fp : List Addr} {h : Heap} {p : Addr × Obj} (hp : p ∈ pinsAt fp h) : p.1 ∈ fp ∧ h.get? p.1 = some p.2 := by
  obtain ⟨b, hb, e⟩ := List.mem_filterMap.mp hp
  cases q : h.get? b with
  | none => rw [q] at e; cases e
  | some o =>
    rw [q] at e
    have e' : (b, o) = p := Option.some.inj e
    subst e'
    exact ⟨hb, q⟩
theorem Inv.pinned {pins : List (Addr × Obj)} {σ : St} {H : Hp} {s : Shared} {fp : List Addr} (I : Inv X pins σ H s) (hf : ∀ b ∈ fp, FpOk X pins H b) (ho : ∀ b ∈ fp, ∃ o, s.heap.get? b = some o ∧ ∀ v, o.data ≠ .cell v) : Inv X (pins ++ pinsAt fp s.heap) σ H s :=
  I.pins_of fun p hp => (List.mem_append.mp hp).elim (fun z => I.pin p (List.mem_append_right _ z)) fun z => by
    obtain ⟨hb, e⟩ := of_pinsAt z
    obtain ⟨f0, f1, f2, _⟩ := hf p.1 hb
    obtain ⟨o, e', d⟩ := ho p.1 hb
    rw [e] at e'; cases e'
    exact ⟨e, f0, f1, f2, d⟩
theorem Inv.unpinned {pins pl : List (Addr × Obj)} {σ : St} {H : Hp} {s : Shared} (I : Inv X (pins ++ pl) σ H s) : Inv X pins σ H s := I.pins_of fun p hp => I.pin p (List.mem_append_right _ (List.mem_append_left _ hp))
theorem ps_for {iter : Expr} {body : List Stmt} {wi : TI} {g : TG} {tb : TS} {pos : Pos} (hp : PassesOwn (model X.prog X.w) X.A X.env X.xe) (hc : X.calm = true) (hi : PI X tg iter wi) (hg : PG X tg g) (hb : PSs X body tb)
    (hs : ∀ x, foldedSetIterable iter X.env x = pure x := by intro _; rfl) : PS X (.For tg iter body [] pos) (tFor wi g tb) := by
  intro pins s σ H D I h
  refine wpAny_For (thn (hi pins s σ H _ I h) fun v s1 h1 => thn h1 fun itv s2 h2 => ?_) hs
  obtain ⟨it, fp, tn, J, H2, e, I2, T, st2, f2, W, ⟨m0, w0⟩, turn⟩ := h2
  subst e
  -- what stays true of the iterator's objects through the loop
  have stat : ∀ {H' : Hp}, (∀ b ∈ fp, H' b = none) → ∀ b ∈ fp, FpOk X pins H' b := fun hn b hb => ⟨hn b hb, (f2 b hb).2⟩
  refine codeAny_forLoop_any (fun n s' => ∃ i σ' H', Inv X pins σ' H' s' ∧ tn i s'.heap ∧ (∀ b ∈ fp, H' b = none) ∧ W i n σ' H') ?_ m0 ⟨0, σ, H2, I2, st2, fun b hb => (f2 b hb).1, w0⟩
  rintro n s3 ⟨i, σ3, H3, I3, st3, fr3, w3⟩
  rcases turn i n σ3 H3 w3 with ⟨stop, qn⟩ | ⟨go, N, hN, step⟩
  · refine wpAny_passesOwn hp (thn (T.done X rfl rfl rfl hc i pins s3 σ3 H3 X.xe I3 (stat fr3) st3 stop) fun r s4 ⟨hr, I4⟩ => ?_)
    subst hr
    exact wpAny_execs_nil ⟨σ3, H3, I4, qn⟩
  · refine wpAny_passesOwn hp (thn (T.item X rfl rfl rfl hc i pins s3 σ3 H3 X.xe I3 (stat fr3) st3 go) fun r s4 ⟨u, hr, h4⟩ => ?_)
    subst hr
    refine wpAny_passesOwn hp (thn h4 fun _ s5 ⟨x, H5, I5, r5, y5, st5, fr5⟩ => ?_)
    have I5' := I5.pinned (stat fr5) (T.obj _ _ st5)
    refine wpAny_passesOwn hp (thn (hg _ s5 σ3 H5 x u _ I5' r5 (step x H5 y5)) fun _ s6 ⟨σ6, H6, I6, q6⟩ => ?_)
    refine wpAny_passesOwn hp (thn (hb _ s6 σ6 H6 _ I6 q6) fun f s7 q7 => ?_)
    have again : ∀ {σ7 : St} {H7 : Hp}, Inv X (pins ++ pinsAt fp s5.heap) σ7 H7 s7 → N σ7 H7 → ∃ m, m < n ∧ ∃ i σ' H', Inv X pins σ' H' s7 ∧ tn i s7.heap ∧ (∀ b ∈ fp, H' b = none) ∧ W i m σ' H' := fun {σ7 H7} I7 n7 => by
      obtain ⟨m', hm, w7⟩ := hN σ7 H7 n7
      refine ⟨m', hm, i + 1, σ7, H7, I7.unpinned, T.keep _ _ _ st5 fun b hb o e => (I7.pin (b, o) (List.mem_append_right _ (List.mem_append_right _ (mem_pinsAt hb e)))).1, fun b hb => ?_, w7⟩
      obtain ⟨o, e, d⟩ := T.obj _ _ st5 b hb
      exact (I7.pin (b, o) (List.mem_append_right _ (List.mem_append_right _ (mem_pinsAt hb e)))).2.1
    cases f with
    | next => obtain ⟨σ7, H7, I7, n7⟩ := q7; exact again I7 n7
    | cont => obtain ⟨σ7, H7, I7, n7⟩ := q7; exact again I7 n7
    | brk => obtain ⟨σ7, H7, I7, q7⟩ := q7; exact ⟨σ7, H7, I7.unpinned, q7⟩
    | ret v => obtain ⟨x7, σ7, H7, I7, r7, q7⟩ := q7; exact ⟨x7, σ7, H7, I7.unpinned, r7, q7⟩
end
end L2
namespace L2
open PySem PySem.Spec PyProof.Rows
noncomputable abbrev R2 := V → V → Hp → VK → Prop
noncomputable def OpR (X : Cx) (f : Value → Value → Sem Value) (r : R2) : Prop :=
  ∀ (pins : List (Addr × Obj)) (s : Shared) (σ : St) (H : Hp) (x y : V) (v u : Value) (Q : VK), Inv X pins σ H s → RelV x v → RelV y u → r x y H Q →
    wpAny (model X.prog X.w) X.A (f v u) (EP X pins σ Q) X.xe s
noncomputable def UnR (X : Cx) (f : Value → Sem Value) (r : V → Hp → VK → Prop) : Prop :=
  ∀ (pins : List (Addr × Obj)) (s : Shared) (σ : St) (H : Hp) (x : V) (v : Value) (Q : VK), Inv X pins σ H s → RelV x v → r x H Q →
    wpAny (model X.prog X.w) X.A (f v) (EP X pins σ Q) X.xe s
noncomputable def CallR (X : Cx) (f : Value) (r : List V → Hp → VK → Prop) : Prop :=
  ∀ (pins : List (Addr × Obj)) (s : Shared) (σ : St) (H : Hp) (xs : List V) (us : List Value) (Q : VK), Inv X pins σ H s → Vals xs us → r xs H Q →
    wpAny (model X.prog X.w) X.A (call f us) (EP X pins σ Q) X.xe s
noncomputable def tOp (r : R2) (ta tb : TE) : TE := fun σ H Q => ta σ H fun x H1 => tb σ H1 fun y H2 => r x y H2 Q
noncomputable def tUn (r : V → Hp → VK → Prop) (ta : TE) : TE := fun σ H Q => ta σ H fun x H1 => r x H1 Q
noncomputable def rI (C : Int → Int → Prop) (g : Int → Int → V) : R2 := fun x y H Q => ∃ i j, x = .int i ∧ y = .int j ∧ C i j ∧ Q (g i j) H
noncomputable def rI0 (g : Int → Int → V) : R2 := fun x y H Q => ∃ i j, x = .int i ∧ y = .int j ∧ Q (g i j) H
noncomputable def rU (g : Int → V) : V → Hp → VK → Prop := fun x H Q => ∃ i, x = .int i ∧ Q (g i) H
section
variable {X : Cx} {a b c : Expr} {ta tb tc : TE} {pos : Pos}
theorem binT (ha : PE X a ta) (hb : PE X b tb) {pins : List (Addr × Obj)} {s : Shared} {σ : St} {H : Hp} {R : V → V → Hp → Prop} (I : Inv X pins σ H s)
    (h : ta σ H fun x H1 => tb σ H1 fun y H2 => R x y H2) {Q : Value → Shared → Prop} {f : Value → Value → Sem Value}
    (hf : ∀ v u s2 x y H2, Inv X pins σ H2 s2 → RelV x v → RelV y u → R x y H2 → wpAny (model X.prog X.w) X.A (f v u) Q X.xe s2) :
    wpAny (model X.prog X.w) X.A (eval a X.env) (fun v s₁ => wpAny (model X.prog X.w) X.A (eval b X.env) (fun u s₂ => wpAny (model X.prog X.w) X.A (f v u) Q X.xe s₂) X.xe s₁) X.xe s := by
  refine thn (ha pins s σ H _ I h) fun v s1 ⟨x, H1, I1, r1, q1⟩ => ?_
  refine thn (hb pins s1 σ H1 _ I1 q1) fun u s2 ⟨y, H2, I2, r2, q2⟩ => ?_
  exact hf v u s2 x y H2 I2 r1 r2 q2
theorem pe_op {op : Operator} {r : R2} (ho : OpR X (binaryOp op) r) (ha : PE X a ta) (hb : PE X b tb) : PE X (.BinOp a op b pos) (tOp r ta tb) := by
  intro pins s σ H Q I h
  exact wpAny_BinOp (binT ha hb I h fun v u s2 x y H2 I2 rx ry q => ho pins s2 σ H2 x y v u Q I2 rx ry q)
theorem pe_un {op : UnaryOp} {r : V → Hp → VK → Prop} (ho : UnR X (unaryOp op) r) (ha : PE X a ta) : PE X (.UnaryOp op a pos) (tUn r ta) := by
  intro pins s σ H Q I h
  exact UnaryOp_ (thn (ha pins s σ H _ I h) fun v s1 ⟨x, H1, I1, r1, q1⟩ => ho pins s1 σ H1 x v Q I1 r1 q1)
theorem opI {f : Value → Value → Sem Value} {C : Int → Int → Prop} {g : Int → Int → Int}
    (rule : ∀ (i j : Int) (t u : Tok) (s : Shared) (Q : Value → Shared → Prop) (E : Value → Shared → Prop), C i j → Q (.int (g i j) s.toks) { s with toks := s.toks + 1 } → wpAny (model X.prog X.w) X.A (f (.int i t) (.int j u)) Q E s) :
    OpR X f (rI C fun i j => .int (g i j)) := by
  intro pins s σ H x y v u Q I rx ry h
  obtain ⟨i, j, rfl, rfl, hc, q⟩ := h
  obtain ⟨t, rfl⟩ := rx
  obtain ⟨t', rfl⟩ := ry
  exact rule i j t t' s _ _ hc ⟨.int (g i j), H, I.tok _, ⟨_, rfl⟩, q⟩
theorem opI0 {f : Value → Value → Sem Value} {g : Int → Int → Int}
    (rule : ∀ (i j : Int) (t u : Tok) (s : Shared) (Q : Value → Shared → Prop) (E : Value → Shared → Prop), Q (.int (g i j) s.toks) { s with toks := s.toks + 1 } → wpAny (model X.prog X.w) X.A (f (.int i t) (.int j u)) Q E s) :
    OpR X f (rI0 fun i j => .int (g i j)) := by
  intro pins s σ H x y v u Q I rx ry h
  obtain ⟨i, j, rfl, rfl, q⟩ := h
  obtain ⟨t, rfl⟩ := rx
  obtain ⟨t', rfl⟩ := ry
  exact rule i j t t' s _ _ ⟨.int (g i j), H, I.tok _, ⟨_, rfl⟩, q⟩
theorem opB0 {f : Value → Value → Sem Value} {g : Int → Int → Bool}
    (rule : ∀ (i j : Int) (t u : Tok) (s : Shared) (Q : Value → Shared → Prop) (E : Value → Shared → Prop), Q (.bool (g i j)) s → wpAny (model X.prog X.w) X.A (f (.int i t) (.int j u)) Q E s) :
    OpR X f (rI0 fun i j => .bl (g i j)) := by
  intro pins s σ H x y v u Q I rx ry h
  obtain ⟨i, j, rfl, rfl, q⟩ := h
  obtain ⟨t, rfl⟩ := rx
  obtain ⟨t', rfl⟩ := ry
  exact rule i j t t' s _ _ ⟨.bl (g i j), H, I, rfl, q⟩
noncomputable def CDiv (i j : Int) : Prop := 0 < j ∧ j < 1073741824
noncomputable def CPow (i j : Int) : Prop := 0 ≤ j ∧ j ≤ 1000000 ∧ i.natAbs < 2 ^ 64
noncomputable def CMul (i j : Int) : Prop := (-(2 ^ 64) < i ∧ i < 2 ^ 64) ∨ (-(2 ^ 64) < j ∧ j < 2 ^ 64)
theorem CMul.ok {i j : Int} (h : CMul i j) : IntMulOk i j := by
  rcases h with ⟨h1, h2⟩ | ⟨h1, h2⟩
  · exact .of_left (intBits_le_64 h1 h2)
  · exact .of_right (intBits_le_64 h1 h2)
theorem op_add : OpR X (binaryOp .Add) (rI0 fun i j => .int (i + j)) := opI0 fun _ _ _ _ _ _ _ q => add_int q
theorem op_sub : OpR X (binaryOp .Sub) (rI0 fun i j => .int (i - j)) := opI0 fun _ _ _ _ _ _ _ q => sub_int q
theorem op_mod : OpR X (binaryOp .Mod) (rI (fun _ j => 0 < j) fun i j => .int (i % j)) := opI fun i j _ _ _ _ _ hc q => by
  have h1 : (0 : Int) < j := hc
  exact mod_int' (by (clear q h1; omega)) (by rw [Int.fmod_eq_emod_of_nonneg i (by (clear q h1; omega))]; exact q)
theorem unI {f : Value → Sem Value} {g : Int → Int}
    (rule : ∀ (i : Int) (t : Tok) (s : Shared) (Q : Value → Shared → Prop) (E : Value → Shared → Prop), Q (.int (g i) s.toks) { s with toks := s.toks + 1 } → wpAny (model X.prog X.w) X.A (f (.int i t)) Q E s) :
    UnR X f (rU fun i => .int (g i)) := by
  intro pins s σ H x v Q I rx h
  obtain ⟨i, rfl, q⟩ := h
  obtain ⟨t, rfl⟩ := rx
  exact rule i t s _ _ ⟨.int (g i), H, I.tok _, ⟨_, rfl⟩, q⟩
theorem un_neg : UnR X (unaryOp .USub) (rU fun i => .int (-i)) := unI fun _ _ _ _ _ q => neg_int q
end
section
variable {X : Cx} {a b c : Expr} {ta tb tc : TE} {pos : Pos}
theorem op_lt : OpR X (compareOp .Lt) (rI0 fun i j => .bl (decide (i < j))) := opB0 fun _ _ _ _ _ _ _ q => lt_int q
theorem op_le : OpR X (compareOp .LtE) (rI0 fun i j => .bl (decide (i ≤ j))) := opB0 fun _ _ _ _ _ _ _ q => le_int q
theorem op_gt : OpR X (compareOp .Gt) (rI0 fun i j => .bl (decide (j < i))) := opB0 fun _ _ _ _ _ _ _ q => gt_int q
theorem op_ge : OpR X (compareOp .GtE) (rI0 fun i j => .bl (decide (j ≤ i))) := opB0 fun _ _ _ _ _ _ _ q => ge_int q
theorem nomark (b : Expr) {op : CmpOp} (h : op ≠ .In := by decide) (h2 : op ≠ .NotIn := by decide) : behindInMarks op b = false := by
  have e1 : (op == CmpOp.In) = false := by cases op <;> first | rfl | exact absurd rfl h
  have e2 : (op == CmpOp.NotIn) = false := by cases op <;> first | rfl | exact absurd rfl h2
  cases b <;> simp [behindInMarks, e1, e2]
theorem pe_cmpR {op : CmpOp} {r : R2} (ho : OpR X (compareOp op) r) (ha : PE X a ta) (hb : PE X b tb) (hm : behindInMarks op b = false) : PE X (.Compare a [op] [b] pos) (tOp r ta tb) := by
  intro pins s σ H Q I h
  exact wpAny_Compare1 (binT ha hb I h fun v u s2 x y H2 I2 rx ry q => ho pins s2 σ H2 x y v u Q I2 rx ry q) hm
noncomputable def tTest (t : TE) : TT := fun σ H Q => t σ H fun x H' => ∃ k, x = .bl k ∧ Q k H'
theorem pt_cmpR {op : CmpOp} {r : R2} (ho : OpR X (compareOp op) r) (ha : PE X a ta) (hb : PE X b tb) (hm : behindInMarks op b = false) : PT X (.Compare a [op] [b] pos) (tTest (tOp r ta tb)) := by
  intro pins s σ H Q I h
  refine wpAny_isTrue_Compare1 (thn (ha pins s σ H _ I h) fun v s1 ⟨x, H1, I1, r1, q1⟩ => thn (hb pins s1 σ H1 _ I1 q1) fun u s2 ⟨y, H2, I2, r2, q2⟩ =>
    thn (ho pins s2 σ H2 x y v u _ I2 r1 r2 q2) fun c s3 ⟨z, H3, I3, r3, k, e, q3⟩ => ?_) hm
  subst e
  cases r3
  exact wpAny_truthy_bool ⟨H3, I3, q3⟩
theorem line63 : (sizeLine : Nat) < 2 ^ 63 := by rw [sizeLine_eq]; decide
theorem vals1 {x : V} {us : List Value} (r : Vals [x] us) : ∃ u, us = [u] ∧ RelV x u := by
  cases r with
  | cons r1 r2 => cases r2; exact ⟨_, rfl, r1⟩
theorem vals2 {x y : V} {us : List Value} (r : Vals [x, y] us) : ∃ u w', us = [u, w'] ∧ RelV x u ∧ RelV y w' := by
  cases r with
  | cons r1 r2 =>
    cases r2 with
    | cons r3 r4 => cases r4; exact ⟨_, _, rfl, r1, r3⟩
theorem call_min2 (hc : X.calm = true) : CallR X (.builtin "min") (fun xs H Q => ∃ i j, xs = [.int i, .int j] ∧ Q (.int (if j < i then j else i)) H) := by
  intro pins s σ H xs us Q I r h
  obtain ⟨i, j, rfl, q⟩ := h
  obtain ⟨u, w', rfl, ⟨t, rfl⟩, ⟨t', rfl⟩⟩ := vals2 r
  refine min_two_ints (I.ok.hd hc) fun h' tk k => ⟨_, H, I.kept k, ?_, q⟩
  by_cases hj : j < i
  · rw [if_pos hj, if_pos hj]; exact ⟨_, rfl⟩
  · rw [if_neg hj, if_neg hj]; exact ⟨_, rfl⟩
theorem call_int1 : CallR X (.type "int") (fun xs H Q => (∃ i, xs = [.int i] ∧ Q (.int i) H) ∨ ∃ k, xs = [.bl k] ∧ Q (.int (if k then 1 else 0)) H) := by
  intro pins s σ H xs us Q I r h
  rcases h with ⟨i, rfl, q⟩ | ⟨k, rfl, q⟩
  · obtain ⟨u, rfl, t, rfl⟩ := vals1 r
    exact call_int_int ⟨.int i, H, I, ⟨_, rfl⟩, q⟩
  · obtain ⟨u, rfl, r1⟩ := vals1 r
    cases r1
    exact call_int_bool ⟨.int (if k then 1 else 0), H, I.tok _, ⟨_, rfl⟩, q⟩
end
end L2
namespace L2
open PySem PySem.Spec PyProof.Rows
structure ObjM (h : Heap) (x dx C : Addr) (mA : Str → Option Value) : Prop where
  obj : h.get? x = some (PySem.W.instObj C dx)
  ns : h.Ns1 dx mA
  ne : dx ≠ x
theorem lookIn_ns {h : Heap} {dx : Addr} {mA : Str → Option Value} (n : h.Ns1 dx mA) : ∃ od, h.get? dx = some od ∧ ∀ name, PySem.W.lookIn name od = some (mA name) := by
  obtain ⟨o, es, ep, ho, hd, hk, _, hm⟩ := n
  refine ⟨o, ho, fun name => ?_⟩
  have e := hm name
  unfold nsFind findBy at e
  rw [← Array.find?_toList] at e
  unfold PySem.W.lookIn
  rw [hd]
  dsimp only
  split
  · rename_i y q
    rw [q] at e
    exact congrArg some e
  · rename_i q
    rw [q] at e
    have a : es.toList.any (·.refKey) = false := by
      rw [List.any_eq_false]
      intro y hy
      obtain ⟨z, t, hkey⟩ := hk y (Array.mem_toList_iff.mp hy)
      simp [DictEntry.refKey, hkey]
    have a' : ¬ es.toList.any (·.refKey) = true := by rw [a]; exact Bool.false_ne_true
    rw [if_neg a']
    exact congrArg some e
theorem ObjM.look {h : Heap} {x dx C : Addr} {mA : Str → Option Value} (I : ObjM h x dx C mA) : ∃ od, PySem.W.InstAt h x (PySem.W.instObj C dx) C (some od) ∧ ∀ name, PySem.W.lookIn name od = some (mA name) :=
  let ⟨od, ho, hl⟩ := lookIn_ns I.ns
  ⟨od, ⟨I.obj, rfl, rfl, ho⟩, hl⟩
section
variable {prog : Program} {w : World} {A : Around} {E : Value → Shared → Prop} {s : Shared} {K : PySem.W.Frag} {x dx C f : Addr} {mA : Str → Option Value} {name : Str} {v : Value}
theorem get_map {expr : Bool} {Q : Value → Shared → Prop} (X : K.In s.heap) (I : ObjM s.heap x dx C mA) (hg : PySem.W.plainGet K C name = true) (hh : PySem.W.hasDictIn K C = true)
    (ha : PySem.W.findIn K (.ref C) name = some none) (hv : mA name = some v) (hv' : PySem.W.handedIn v = true) (h : Q v { s with toks := s.toks + 1 }) :
    wpAny (model prog w) A (getAttr (.ref x) name expr) Q E s := by
  obtain ⟨od, J, hl⟩ := I.look
  exact PySem.W.get_value X J (PySem.W.plainGet_of hg).1 (PySem.W.findObj_own hh ha rfl (by rw [hl, hv])) hv' h
theorem get_meth {pl : Sem Bool} {Q : Value × List Value → Shared → Prop} (X : K.In s.heap) (I : ObjM s.heap x dx C mA) (hg : PySem.W.plainGet K C name = true)
    (hf : PySem.W.findIn K (.ref C) name = some (some (.ref f))) (ht : PySem.W.isFn K (.ref f) = true) (hv : mA name = none) (h : Q (.ref f, [.ref x]) s) :
    wpAny (model prog w) A (getMethod (.ref x) name pl) Q E s := by
  obtain ⟨od, J, hl⟩ := I.look
  exact PySem.W.method_fn X J (PySem.W.plainGet_of hg).1 (PySem.W.plainGet_of hg).2 hf (beq_iff_eq.mp ht) (by show (PySem.W.lookIn name od).map (·.isSome) = some false; rw [hl, hv]; rfl) h
theorem set_map {ns : List Str} {Q : Unit → Shared → Prop} (X : K.In s.heap) (I : ObjM s.heap x dx C mA)
    (hs : PySem.W.findIn K (.ref C) "__setattr__" = some (some (.builtin "object.__setattr__"))) (hp : PySem.W.plainOver K C = true) (ht : PySem.W.takerIn K C name = some none) (hh : PySem.W.hasDictIn K C = true)
    (hw : PySem.Within mA ns) (hsz : ns.length ≤ sizeLine)
    (h : ∀ h', ObjM h' x dx C (fun y => if y = name then some v else mA y) → Heap.SameBut dx s.heap h' → Q () { s with heap := h', toks := s.toks + 2 }) :
    wpAny (model prog w) A (setAttr (.ref x) name v) Q E s := by
  obtain ⟨od, J, hl⟩ := I.look
  refine PySem.W.set_plain X J hs (PySem.W.osa_open (s := { s with toks := s.toks + 1 }) (r := none) X J hp ht fun b => ?_)
  obtain ⟨cd, hc, hd'⟩ := PySem.W.any_some hh
  have hx : s.heap.get? x = some ⟨.ref C, some dx, .plain, #[]⟩ := I.obj
  refine wpAny_bind (wpAny_pure (wpAny_bind (wpAny_bind (wpAny_loadPart hx (wpAny_bind (PySem.W.Looks.here (s := { s with toks := s.toks + 1 }) (PySem.W.looks_clsIn X hc) ?_))))))
  rw [hd']
  refine wpAny_pure (a := some dx) (wpAny_bind (wpAny_pure (wpAny_bind ?_)))
  refine wpAny_nsSet1 (s := { s with toks := s.toks + 1 }) I.ns fun h' hn2 hs2 => ?_
  obtain ⟨oD, esD, epD, hoD, hdD, hcD⟩ := hn2.count (PySem.Within.cons name v hw)
  refine wpAny_bind (wpAny_lookBehind hoD (by rw [hdD]; exact pastItsLine_dict (Nat.le_trans hcD (by rw [List.length_cons]; (clear X I hs hp ht hh hw h J hl hc hd' hx hn2 hs2 hoD hdD hcD; omega)))) ?_)
  exact wpAny_pure (h _ ⟨(hs2.2 _ (Ne.symm I.ne)).trans I.obj, hn2, I.ne⟩ hs2)
theorem make_map {R : Result → Shared → Prop} {vs : List Value} {kw : List (Str × Value)} (X : K.In s.heap) (hm : PySem.W.makesIn K C = true)
    (hi : PySem.W.findIn K (.ref C) "__init__" = some (some (.ref f))) (hf : PySem.W.typeIn K (.ref f) = some (.type "function"))
    (h : codeAny (model prog w) (A.under (.builtin "type.__call__" ⟨.ref C :: vs, kw⟩)) (.call (.ref f) ⟨.ref (s.heap.objs.size + 1) :: vs, kw⟩) (PySem.W.InitBack (s.heap.objs.size + 1) R)
      { s with heap := (s.heap.push PySem.W.emptyDict).push (PySem.W.instObj C s.heap.objs.size) }) :
    codeAny (model prog w) A (.call (.ref C) ⟨vs, kw⟩) R s := by
  obtain ⟨hh, g, d, t, os⟩ := s
  exact PySem.W.make_core (PySem.W.makes_of X hm) (PySem.W.looks_findIn X hi) (fun self => PySem.W.bind_fn X self hf) (.inl rfl) h
end
noncomputable def putF (f : Str) (v : V) : List (Str × V) → List (Str × V)
  | [] => [(f, v)]
  | (g, x) :: r => if g = f then (g, v) :: r else (g, x) :: putF f v r
theorem lookup_putF (f g : Str) (v : V) : ∀ fs : List (Str × V), (putF f v fs).lookup g = if g = f then some v else fs.lookup g
  | [] => by
    show List.lookup g [(f, v)] = _
    by_cases h : g = f
    · have hb : (g == f) = true := beq_iff_eq.mpr h
      simp only [List.lookup, hb, if_pos h]
    · have hb : (g == f) = false := beq_eq_false_iff_ne.mpr h
      simp only [List.lookup, hb, if_neg h]
  | (k, x) :: r => by
    have ih := lookup_putF f g v r
    rw [show putF f v ((k, x) :: r) = (if k = f then (k, v) :: r else (k, x) :: putF f v r) from rfl]
    by_cases hk : k = f
    · rw [if_pos hk]
      by_cases h : g = k
      · have hb : (g == k) = true := beq_iff_eq.mpr h
        simp only [List.lookup, hb, if_pos (h.trans hk)]
      · have hb : (g == k) = false := beq_eq_false_iff_ne.mpr h
        simp only [List.lookup, hb, if_neg (fun e : g = f => h (e.trans hk.symm))]
    · rw [if_neg hk]
      by_cases h : g = k
      · have hb : (g == k) = true := beq_iff_eq.mpr h
        simp only [List.lookup, hb, if_neg (fun e : g = f => hk (h.symm.trans e))]
      · have hb : (g == k) = false := beq_eq_false_iff_ne.mpr h
        simp only [List.lookup, hb]
        exact ih
theorem keys_putF (f : Str) (v : V) : ∀ fs : List (Str × V), f ∈ (putF f v fs).map (·.1) ∧ ∀ g, g ∈ fs.map (·.1) → g ∈ (putF f v fs).map (·.1)
  | [] => ⟨by simp [putF], fun g h => by simp at h⟩
  | (k, x) :: r => by
    obtain ⟨i1, i2⟩ := keys_putF f v r
    rw [show putF f v ((k, x) :: r) = (if k = f then (k, v) :: r else (k, x) :: putF f v r) from rfl]
    by_cases hk : k = f
    · rw [if_pos hk]
      subst hk
      exact ⟨by simp, fun g h => by simpa using h⟩
    · rw [if_neg hk]
      refine ⟨?_, fun g h => ?_⟩
      · rw [List.map_cons]
        exact List.mem_cons_of_mem _ i1
      · rw [List.map_cons] at h ⊢
        rcases List.mem_cons.mp h with e | e
        · exact List.mem_cons.mpr (.inl e)
        · exact List.mem_cons_of_mem _ (i2 g e)
theorem length_putF (f : Str) (v : V) : ∀ fs : List (Str × V), (putF f v fs).length ≤ fs.length + 1
  | [] => by simp [putF]
  | (k, x) :: r => by
    have ih := length_putF f v r
    rw [show putF f v ((k, x) :: r) = (if k = f then (k, v) :: r else (k, x) :: putF f v r) from rfl]
    by_cases hk : k = f
    · rw [if_pos hk, List.length_cons, List.length_cons]; (clear ih hk; omega)
    · rw [if_neg hk, List.length_cons, List.length_cons]; (clear hk; omega)
theorem RelO.some_of {v : V} {o : Option Value} (r : RelO (some v) o) : ∃ u, o = some u ∧ RelV v u := by
  cases o with
  | none => exact (show False from r).elim
  | some u => exact ⟨u, rfl, r⟩
theorem RelO.none_of {o : Option Value} (r : RelO none o) : o = none := by
  cases o with
  | none => rfl
  | some u => exact (show False from r).elim
theorem handed_of {v : V} {u : Value} (r : RelV v u) : PySem.W.handedIn u = true := by
  cases v with
  | non => cases (show u = Value.none from r); rfl
  | bl b => cases (show u = Value.bool b from r); rfl
  | int i => obtain ⟨t, e⟩ := (show ∃ t, u = Value.int i t from r); cases e; rfl
  | str x => obtain ⟨t, e⟩ := (show ∃ t, u = Value.str x t from r); cases e; rfl
  | byt b => obtain ⟨t, e⟩ := (show ∃ t, u = Value.bytes b t from r); cases e; rfl
  | flt b => obtain ⟨t, e⟩ := (show ∃ t, u = Value.float b t from r); cases e; rfl
  | ref a => cases (show u = Value.ref a from r); rfl
  | ty n => cases (show u = Value.type n from r); rfl
section
variable {P : Program} {w : World} {H H' : Hp} {h h' : Heap} {a C dx : Addr} {fs fs' : List (Str × V)}
theorem ins_get (hok : HOk P w H h) (e : H a = some (.ins C dx fs)) : ∃ mA, ObjM h a dx C mA ∧ (∀ f, RelO (fs.lookup f) (mA f)) ∧ PySem.Within mA (fs.map (·.1)) ∧ fs.length ≤ 1000 ∧ H dx = some (.own a) := by
  obtain ⟨d, z, ne, ob, mA, n, r, q⟩ := (show ObjOk P w H h a (.ins C dx fs) from hok a _ e)
  exact ⟨mA, ⟨ob, n, ne⟩, r, q, z, d⟩
end
structure Cls (K : PySem.W.Frag) (C : Addr) : Prop where
  pg : PySem.W.plainGet K C Str.empty = true
  hd : PySem.W.hasDictIn K C = true
  po : PySem.W.plainOver K C = true
  sa : PySem.W.findIn K (.ref C) "__setattr__" = some (some (.builtin "object.__setattr__"))
theorem Cls.get {K : PySem.W.Frag} {C : Addr} (c : Cls K C) (f : Str) : PySem.W.plainGet K C f = true := c.pg
noncomputable def NoAttr (K : PySem.W.Frag) (C : Addr) (f : Str) : Prop := PySem.W.findIn K (.ref C) f = some none
theorem NoAttr.taker {K : PySem.W.Frag} {C : Addr} {f : Str} (n : NoAttr K C f) : PySem.W.takerIn K C f = some none := by
  unfold PySem.W.takerIn
  rw [show PySem.W.findIn K (.ref C) f = some none from n]
  rfl
structure Con (K : PySem.W.Frag) (C : Addr) (f : Str) (v : V) (u : Value) : Prop where
  at_ : PySem.W.findIn K (.ref C) f = some (some u)
  rel : RelV v u
  get : PySem.W.specialIn K u "__get__" = some none
  cp : PySem.W.copiedNames.contains f = false
structure Meth (K : PySem.W.Frag) (C : Addr) (m : Str) (f : Addr) : Prop where
  at_ : PySem.W.findIn K (.ref C) m = some (some (.ref f))
  fn : PySem.W.isFn K (.ref f) = true
  kp : PySem.W.keepIn K (.ref f) = true
section
variable {X : Cx} {pins : List (Addr × Obj)} {σ : St} {H : Hp} {s : Shared} {a C dx : Addr} {fs : List (Str × V)} {f : Str} {v : V} {A : Around} {E : Value → Shared → Prop}
theorem getattr_ok {b : Bool} {Q : Value → Shared → Prop} (I : Inv X pins σ H s) (e : H a = some (.ins C dx fs)) (c : Cls X.K C) (n : NoAttr X.K C f) (l : fs.lookup f = some v)
    (h : ∀ u s', Inv X pins σ H s' → RelV v u → Q u s') : wpAny (model X.prog X.w) A (getAttr (.ref a) f b) Q E s := by
  obtain ⟨mA, O, r, _, _, _⟩ := ins_get I.hok e
  obtain ⟨u, hu, ru⟩ := RelO.some_of (v := v) (o := mA f) (by rw [← l]; exact r f)
  exact get_map I.kIn O (c.get f) c.hd n hu (handed_of ru) (h u _ (I.tok _) ru)
theorem getmeth_ok {m : Str} {g : Addr} {pl : Sem Bool} {Q : Value × List Value → Shared → Prop} (I : Inv X pins σ H s) (e : H a = some (.ins C dx fs)) (c : Cls X.K C) (k : Meth X.K C m g) (l : fs.lookup m = none)
    (h : Q (.ref g, [.ref a]) s) : wpAny (model X.prog X.w) A (getMethod (.ref a) m pl) Q E s := by
  obtain ⟨mA, O, r, _, _, _⟩ := ins_get I.hok e
  have hn : mA m = none := RelO.none_of (by rw [← l]; exact r m)
  exact get_meth I.kIn O (c.get m) k.at_ k.fn hn h
theorem setattr_ok {y : V} {u : Value} {Q : Unit → Shared → Prop} (I : Inv X pins σ H s) (e : H a = some (.ins C dx fs)) (c : Cls X.K C) (n : NoAttr X.K C f) (hl : fs.length < 1000) (ry : RelV y u)
    (h : ∀ s', Inv X pins σ (upd H a (.ins C dx (putF f y fs))) s' → Q () s') : wpAny (model X.prog X.w) A (setAttr (.ref a) f u) Q E s := by
  obtain ⟨mA, O, r, wi, _, ho⟩ := ins_get I.hok e
  have hz : (fs.map (·.1)).length ≤ sizeLine := by rw [List.length_map, sizeLine_eq]; exact Nat.le_trans (by assumption) (Nat.le_of_ble_eq_true rfl)
  refine set_map I.kIn O c.sa c.po n.taker c.hd wi hz fun h' O' sb => h _ ?_
  have hd : ∃ o, h'.get? dx = some o := let ⟨o, _, _, e', _⟩ := O'.ns; ⟨o, e'⟩
  refine I.write (x := a) (e := dx) (by rw [e]; exact True.intro) (.inr ho) (fun b q hb z => (sb.2 b hb).trans z) hd ?_
  refine ⟨by rw [upd_ne O.ne]; exact ho, ?_, O.ne, O'.obj, _, O'.ns, fun g => ?_, fun g hg => ?_⟩
  · have := length_putF f y fs; (clear I e c n ry h O r wi ho hz O' sb hd; omega)
  · show RelO ((putF f y fs).lookup g) (if g = f then some u else mA g)
    rw [lookup_putF]
    by_cases q : g = f
    · rw [if_pos q, if_pos q]; exact ry
    · rw [if_neg q, if_neg q]; exact r g
  · by_cases q : g = f
    · rw [q]; exact (keys_putF f y fs).1
    · refine (keys_putF f y fs).2 g (wi g fun z => hg ?_)
      show (if g = f then some u else mA g) = none
      rw [if_neg q]; exact z
theorem Inv.made (I : Inv X pins σ H s) : Inv X pins σ (upd (upd H s.heap.objs.size (.own (s.heap.objs.size + 1))) (s.heap.objs.size + 1) (.ins C s.heap.objs.size []))
    { s with heap := (s.heap.push PySem.W.emptyDict).push (PySem.W.instObj C s.heap.objs.size) } := by
  have e1 : (s.heap.push PySem.W.emptyDict).get? s.heap.objs.size = some PySem.W.emptyDict := Heap.get?_push_size s.heap rfl
  have e2 : ((s.heap.push PySem.W.emptyDict).push (PySem.W.instObj C s.heap.objs.size)).get? (s.heap.objs.size + 1) = some (PySem.W.instObj C s.heap.objs.size) := by
    have := Heap.get?_push_size (s.heap.push PySem.W.emptyDict) (o := PySem.W.instObj C s.heap.objs.size) rfl
    rwa [Heap.size_push] at this
  have e3 : (s.heap.push PySem.W.emptyDict).Ns s.heap.objs.size (fun _ => none) := ⟨PySem.W.emptyDict, #[], _, e1, rfl, (fun e he => absurd he (by simp)), fun _ => rfl⟩
  have I1 := I.laid (a := s.heap.objs.size) (o := .own (s.heap.objs.size + 1)) (h' := s.heap.push PySem.W.emptyDict) (t' := s.toks) (fun b u q => Heap.get?_push_of_some _ q) (Nat.le_refl _) ⟨_, e1⟩
  refine I1.laid (a := s.heap.objs.size + 1) (o := .ins C s.heap.objs.size []) (t' := s.toks) (fun b u q => Heap.get?_push_of_some _ q) (Nat.le_of_eq (Heap.size_push _ _)) ?_
  have ne : s.heap.objs.size ≠ s.heap.objs.size + 1 := Nat.ne_of_lt (Nat.lt_succ_self _)
  refine ⟨by rw [upd_ne ne, upd_same], Nat.zero_le _, ne, e2, fun _ => none, (Heap.Ns1.of_empty e3).at fun o q => Heap.get?_push_of_some _ q, fun _ => True.intro, fun y hy => absurd rfl hy⟩
theorem attr_of {prog : Program} {w : World} {env : Env} {e : Expr} {f : Str} {pos : Pos} {s : Shared} {Q : Value → Shared → Prop} (hb : attributeBase e f env (eval e env) = eval e env)
    (h : wpAny (model prog w) A (eval e env) (fun o s₁ => wpAny (model prog w) A (getAttr o f true) Q E s₁) E s) : wpAny (model prog w) A (eval (.Attribute e f pos) env) Q E s :=
  Attribute_any_ h (by rw [arm_eval_Attribute, hb])
end
noncomputable def tFld (K : PySem.W.Frag) (ta : TE) (f : Str) : TE := fun σ H Q => ta σ H fun x H1 => ∃ a C dx fs v, x = .ref a ∧ H1 a = some (.ins C dx fs) ∧ Cls K C ∧ NoAttr K C f ∧ fs.lookup f = some v ∧ Q v H1
noncomputable def sFld (K : PySem.W.Frag) (ta tv : TE) (f : Str) : TS := fun D σ H => tv σ H fun y H1 => ta σ H1 fun x H2 => ∃ a C dx fs, x = .ref a ∧ H2 a = some (.ins C dx fs) ∧ Cls K C ∧ NoAttr K C f ∧ fs.length < 1000 ∧
  D.nx σ (upd H2 a (.ins C dx (putF f y fs)))
section
variable {X : Cx} {o e value : Expr} {f : Str} {pos pos' tpos : Pos} {ta tv : TE}
theorem pe_fld (he : PE X e ta) (hb : attributeBase e f X.env (eval e X.env) = eval e X.env) : PE X (.Attribute e f pos) (tFld X.K ta f) := by
  intro pins s σ H Q I h
  refine attr_of hb (thn (he pins s σ H _ I h) fun u s1 ⟨x, H1, I1, rx, a, C, dx, fs, v, ex, ea, c, n, l, q⟩ => ?_)
  subst ex
  obtain rfl : u = Value.ref a := rx
  exact getattr_ok I1 ea c n l fun u' s2 I2 ru => ⟨v, H1, I2, ru, q⟩
theorem ps_fld (ha : PE X o ta) (hv : PE X value tv) (hs : swapsWith value (some (.Attribute o f pos')) pos.line X.env = pure false) : PS X (.Assign [.Attribute o f pos'] value pos) (sFld X.K ta tv f) := by
  intro pins s σ H D I h
  refine plainObj_wpAny_Assign_Attribute (thn (hv pins s σ H _ I h) fun u s1 ⟨y, H1, I1, ry, q⟩ => thn (ha pins s1 σ H1 _ I1 q) fun ov s2 ⟨x, H2, I2, rx, a, C, dx, fs, ex, ea, c, n, l, q2⟩ => ?_) hs
  subst ex
  obtain rfl : ov = Value.ref a := rx
  exact setattr_ok I2 ea c n l ry fun s3 I3 => ⟨σ, _, I3, q2⟩
end
section
variable {X : Cx} {pins : List (Addr × Obj)} {σ : St} {H : Hp} {s : Shared} {A : Around} {E : Value → Shared → Prop} {Q : Value → Shared → Prop} {c : Value} {b : Bool}
inductive TyOf (K : PySem.W.Frag) (H : Hp) : V → Value → Prop where
  | non : TyOf K H .non (.type "NoneType")
  | bl (x : Bool) : TyOf K H (.bl x) (.type "bool")
  | int (i : Int) : TyOf K H (.int i) (.type "int")
  | str (x : Str) : TyOf K H (.str x) (.type "str")
  | flt (x : UInt64) : TyOf K H (.flt x) (.type "float")
  | lst {a : Addr} {xs : List V} (e : H a = some (.lst xs)) : TyOf K H (.ref a) (.type "list")
  | frz {a : Addr} {o : Obj} {xs : List V} (e : H a = some (.frz o (.lst xs))) : TyOf K H (.ref a) (.type "list")
  | tup {a : Addr} {xs : List V} (e : H a = some (.tup xs)) : TyOf K H (.ref a) (.type "tuple")
  | dK {a : Addr} {kvs : List (Key × V)} (e : H a = some (.dK kvs)) : TyOf K H (.ref a) (.type "dict")
  | dT {a : Addr} {kvs : List (List Key × V)} (e : H a = some (.dT kvs)) : TyOf K H (.ref a) (.type "dict")
  | ins {a C dx : Addr} {fs : List (Str × V)} (e : H a = some (.ins C dx fs)) (cl : Cls K C) (ha : PySem.W.findIn K (.ref C) "__class__" = some (some (.builtin "object.__class__")))
      (hn : PySem.W.specialIn K (.builtin "object.__class__") "__get__" = some (some (.builtin "getset_descriptor.__get__"))) (htk : PySem.W.takesIn K (.builtin "object.__class__") = some true)
      (hm : PySem.W.mroIn K C (.type "object") = some true) : TyOf K H (.ref a) (.ref C)
theorem isinst_ok {x : V} {u t : Value} (I : Inv X pins σ H s) (rx : RelV x u) (ty : TyOf X.K H x t) (e : PySem.W.kitOne X.K t c = some b) (h : ∀ tk, Q (.bool b) { s with toks := tk }) :
    wpAny (model X.prog X.w) A (call (.builtin "isinstance") [u, c]) Q E s := by
  cases ty with
  | non => cases (show u = Value.none from rx); exact PySem.W.kia_one PySem.W.kitx_none I.kIn True.intro e (fun z => nomatch z) h
  | bl y => cases (show u = Value.bool y from rx); exact PySem.W.kia_one PySem.W.kitx_bool I.kIn True.intro e (fun z => nomatch z) h
  | int i => obtain ⟨t, q⟩ := (show ∃ t, u = Value.int i t from rx); cases q; exact PySem.W.kia_one PySem.W.kitx_int I.kIn True.intro e (fun z => nomatch z) h
  | str y => obtain ⟨t, q⟩ := (show ∃ t, u = Value.str y t from rx); cases q; exact PySem.W.kia_one PySem.W.kitx_str I.kIn True.intro e (fun z => nomatch z) h
  | flt y => obtain ⟨t, q⟩ := (show ∃ t, u = Value.float y t from rx); cases q; exact PySem.W.kia_one PySem.W.kitx_float I.kIn True.intro e (fun z => nomatch z) h
  | @lst a xs ea =>
    cases (show u = Value.ref a from rx)
    obtain ⟨_, _, n, _, h1⟩ := (show ObjOk X.prog X.w H s.heap a (.lst xs) from I.hok a _ ea)
    exact PySem.W.kia_one PySem.W.kitx_list I.kIn ⟨_, h1, rfl⟩ e (fun z => nomatch z) h
  | @frz a ob xs ea =>
    cases (show u = Value.ref a from rx)
    obtain ⟨_, _, _, n, _, h1⟩ := (show ObjOk X.prog X.w H s.heap a (.frz ob (.lst xs)) from I.hok a _ ea)
    exact PySem.W.kia_one PySem.W.kitx_list I.kIn ⟨_, h1, rfl⟩ e (fun z => nomatch z) h
  | @tup a xs ea =>
    cases (show u = Value.ref a from rx)
    obtain ⟨_, _, _, p⟩ := (show ObjOk X.prog X.w H s.heap a (.tup xs) from I.hok a _ ea)
    obtain ⟨o, h1, h2, _⟩ := p
    exact PySem.W.kia_one PySem.W.kitx_tuple I.kIn ⟨o, h1, h2⟩ e (fun z => nomatch z) h
  | @dK a kvs ea =>
    cases (show u = Value.ref a from rx)
    obtain ⟨_, _, vs, _, p⟩ := (show ObjOk X.prog X.w H s.heap a (.dK kvs) from I.hok a _ ea)
    obtain ⟨o, es, ep, h1, h2, _⟩ := p
    exact PySem.W.kia_one PySem.W.kitx_dict I.kIn ⟨o, h1, h2.1⟩ e (fun z => nomatch z) h
  | @dT a kvs ea =>
    cases (show u = Value.ref a from rx)
    obtain ⟨_, _, xs, _, o, es, ep, h1, h2, _⟩ := (show ObjOk X.prog X.w H s.heap a (.dT kvs) from I.hok a _ ea)
    exact PySem.W.kia_one PySem.W.kitx_dict I.kIn ⟨o, h1, h2.1⟩ e (fun z => nomatch z) h
  | @ins a C dx fs ea cl ha hn htk hm =>
    cases (show u = Value.ref a from rx)
    obtain ⟨mA, O, _⟩ := ins_get I.hok ea
    obtain ⟨od, J, _⟩ := O.look
    exact PySem.W.kia_one (PySem.W.kitx_own (cl.get _) cl.hd ha hn htk hm) I.kIn J e (fun z => nomatch z) h
end
end L2
namespace L2
open PySem PySem.Spec PyProof.Rows
structure Room (k : Nat) (A : Around) : Prop where
  hd : A.handled = none
  dp : A.depth + 3 * k + 5 < recursionLimit
  un : A.units + 16 * k + 200 < cLine
theorem Room.mono {j k : Nat} {A : Around} (r : Room k A) (h : j ≤ k) : Room j A := ⟨r.hd, by have := r.dp; (clear r; omega), by have := r.un; (clear r; omega)⟩
theorem Room.deeper {k : Nat} {A : Around} (r : Room (k + 1) A) (env : Env) : Room k (A.deeper env) :=
  ⟨r.hd, by have := r.dp; show A.depth + 1 + 3 * k + 5 < _; (clear r; omega), by have := r.un; show A.units + 3 + 16 * k + 200 < _; (clear r; omega)⟩
theorem make_depth {A : Around} {C : Addr} {us : List Value} {kw : List (Str × Value)} : (A.under (.builtin "type.__call__" ⟨.ref C :: us, kw⟩)).depth = A.depth + 1 := by
  first | rfl | simp [Around.under, Code.weight, Code.isCreation, Code.isGuard, Code.isCaller, Code.frames, Code.isFrame, guardIds]
theorem make_units {A : Around} {C : Addr} {us : List Value} {kw : List (Str × Value)} : (A.under (.builtin "type.__call__" ⟨.ref C :: us, kw⟩)).units = A.units + 1 := by
  first | rfl | simp [Around.under, Code.cUnits, Code.frames, Code.isFrame]
theorem Room.make {k : Nat} {A : Around} (r : Room (k + 1) A) (C : Addr) (us : List Value) (kw : List (Str × Value)) : Room k (A.under (.builtin "type.__call__" ⟨.ref C :: us, kw⟩)) :=
  ⟨r.hd, by have := r.dp; rw [make_depth]; (clear r; omega), by have := r.un; rw [make_units]; (clear r; omega)⟩
theorem Room.depth {k : Nat} {A : Around} (r : Room k A) : A.depth < recursionLimit := by have := r.dp; (clear r; omega)
noncomputable def tNil : TA := fun _ H Q => Q [] H
noncomputable def tCons (ta : TE) (tr : TA) : TA := fun σ H Q => ta σ H fun x H1 => tr σ H1 fun xs H2 => Q (x :: xs) H2
section
variable {X : Cx} {e : Expr} {es : List Expr} {te : TE} {t : TA} {pos : Pos}
theorem pa_nil : PA X [] tNil := fun _ _ _ _ H Q I h => Calls.spliced_nil ⟨[], H, I, .nil, h⟩
theorem pa_cons (ha : PE X e te) (hr : PA X es t) (hs : starEach (e :: es) X.env = (false, eval e X.env) :: starEach es X.env := by rfl) : PA X (e :: es) (tCons te t) := by
  intro pos pins s σ H Q I h
  rw [hs]
  show wpAny _ _ (spliced ((false, eval e X.env) :: backTo pos (starEach es X.env))) _ _ s
  refine Calls.spliced_cons (thn (ha pins s σ H _ I h) fun u s1 ⟨x, H1, I1, r1, q1⟩ => ?_)
  exact thn (hr pos pins s1 σ H1 _ I1 q1) fun us s2 ⟨xs, H2, I2, r2, q2⟩ => ⟨x :: xs, H2, I2, .cons r1 r2, q2⟩
noncomputable def tTup (t : TA) : TE := fun σ H Q => t σ H fun xs H1 => xs.length ≤ sizeLine ∧ ∀ p, H1 p = none → Q (.ref p) (upd H1 p (.tup xs))
noncomputable def tLst (t : TA) : TE := fun σ H Q => t σ H fun xs H1 => xs.length ≤ sizeLine ∧ ∀ p, H1 p = none → Q (.ref p) (upd H1 p (.lst xs))
theorem pe_tup {x1} (h : PA X es t) : PE X (.Tuple es x1 pos) (tTup t) := by
  intro pins s σ H Q I hq
  refine wpAny_Tuple_spliced (thn (h pos pins s σ H _ I hq) fun us s1 ⟨xs, H1, I1, r, z, q⟩ => ⟨by rw [← r.length]; exact z, ?_⟩)
  have hf : H1 s1.heap.objs.size = none := I1.hok.fresh (Nat.le_refl _)
  refine ⟨.ref s1.heap.objs.size, upd H1 s1.heap.objs.size (.tup xs), I1.laid (t' := s1.toks) (fun b u e => Heap.get?_push_of_some _ e) (Nat.le_refl _) ?_, rfl, q _ hf⟩
  exact ⟨z, us, r, ⟨_, Heap.get?_push_size _ rfl, rfl, _, rfl⟩⟩
theorem pe_lst (h : PA X es t) : PE X (.List es pos) (tLst t) := by
  intro pins s σ H Q I hq
  refine wpAny_List_spliced (thn (h pos pins s σ H _ I hq) fun us s1 ⟨xs, H1, I1, r, z, q⟩ => ⟨by rw [← r.length]; exact z, ?_⟩)
  have hf : H1 s1.heap.objs.size = none := I1.hok.fresh (Nat.le_refl _)
  refine ⟨.ref s1.heap.objs.size, upd H1 s1.heap.objs.size (.lst xs), I1.laid (t' := s1.toks) (fun b u e => Heap.get?_push_of_some _ e) (Nat.le_refl _) ?_, rfl, q _ hf⟩
  exact ⟨z, us, 0, r, Heap.get?_push_size _ rfl⟩
end
noncomputable abbrev Sp := List V → Hp → VK → XK → Prop
noncomputable abbrev CXT := List Env → Hp → Shared → XK → Value → Shared → Prop
structure Env0 (P : Program) (w : World) (K : PySem.W.Frag) (mg : Str → Option Value) (base : Heap) (A : Around) (outer : List Env) (s : Shared) (H : Hp) : Prop where
  frames : A.frames = some outer
  mod : Mod K mg base
  bs : ∀ b o, base.get? b = some o → s.heap.get? b = some o ∧ H b = none
  bsz : base.objs.size ≤ s.heap.objs.size
  funs : s.heap.FunFrames base outer
  frf : ∀ b ∈ frs outer, H b = none
  hok : HOk P w H s.heap
  bare : AllBare s.gens
noncomputable def CE (outer : List Env) (P : Program) (w : World) (H : Hp) (s : Shared) (Q : VK) (u : Value) (s' : Shared) : Prop :=
  ∃ v H', s'.os = s.os ∧ AllBare s'.gens ∧ Un (frs outer) [] H H' s.heap s'.heap ∧ HOk P w H' s'.heap ∧ RelV v u ∧ Q v H'
noncomputable def CR (CX : CXT) (outer : List Env) (P : Program) (w : World) (H : Hp) (s : Shared) (Q : VK) (E : XK) (r : Result) (s' : Shared) : Prop :=
  match r with
  | .ok (.ret u) => CE outer P w H s Q u s'
  | .ok _ => False
  | .error e => CX outer H s E e s'
structure FnOk (P : Program) (w : World) (K : PySem.W.Frag) (mg : Str → Option Value) (base : Heap) (CX : CXT) (k : Nat) (f : Addr) (fd : FuncData) (ps : List Str) (sp : Sp) : Prop where
  len : ∀ vs H Q E, sp vs H Q E → vs.length = ps.length
  run : ∀ (A : Around) (outer : List Env) (s : Shared) (H : Hp) (args : Args) (us : List Value) (vs : List V) (Q : VK) (E : XK), Room k A → Env0 P w K mg base A outer s H → BindsTo s fd args (ps.zip us) → Vals vs us → sp vs H Q E →
    codeAny (model P w) A (.call (.ref f) args) (CR CX outer P w H s Q E) s
theorem Env0.make {P : Program} {w : World} {K : PySem.W.Frag} {mg : Str → Option Value} {base : Heap} {A : Around} {outer : List Env} {s : Shared} {H : Hp} (e : Env0 P w K mg base A outer s H) (C : Addr) (us : List Value) (kw : List (Str × Value)) :
    Env0 P w K mg base (A.under (.builtin "type.__call__" ⟨.ref C :: us, kw⟩)) outer s H := ⟨by first | exact e.frames | (simpa [Around.under, Code.envs, Code.isFrame, pushEnvs] using e.frames), e.mod, e.bs, e.bsz, e.funs, e.frf, e.hok, e.bare⟩
section
variable {X : Cx} {pins : List (Addr × Obj)} {σ : St} {H : Hp} {s s' : Shared}
theorem Inv.env0 (I : Inv X pins σ H s) : Env0 X.prog X.w X.K X.mg X.base X.A X.stack s H :=
  ⟨I.ok.frames, I.ok.mod, I.bs, Nat.le_trans I.ok.bsz I.sz, I.stack, I.stkFree, I.hok, I.bare⟩
theorem Inv.after {Q : VK} {u : Value} (I : Inv X pins σ H s) (h : CE X.stack X.prog X.w H s Q u s') : EP X pins σ Q u s' := by
  obtain ⟨v, H', os, bare, un, hok, r, q⟩ := h
  obtain ⟨hh, g, d, t, os'⟩ := s'
  obtain rfl : os' = s.os := os
  exact ⟨v, H', I.call (h' := hh) (g' := g) (d' := d) (t' := t) (ch := []) un hok bare (fun b z => absurd z (by simp)), r, q⟩
end
noncomputable def tCall (sp : Sp) (dvs : List V) (E : XK) (t : TA) : TE := fun σ H Q => t σ H fun vs H1 => sp (vs ++ dvs) H1 Q E
noncomputable def tMeth (C : Addr) (m : Str) (sp : Sp) (dvs : List V) (E : XK) (ta : TE) (t : TA) : TE := fun σ H Q => ta σ H fun x H1 => ∃ a dx fs, x = .ref a ∧ H1 a = some (.ins C dx fs) ∧ fs.lookup m = none ∧
  t σ H1 fun vs H2 => sp (x :: (vs ++ dvs)) H2 Q E
noncomputable def tMake (C : Addr) (sp : Sp) (dvs : List V) (E : XK) (t : TA) : TE := fun σ H Q => t σ H fun vs H1 => ∀ x dx, H1 x = none → H1 dx = none → dx ≠ x →
  sp (.ref x :: (vs ++ dvs)) (upd (upd H1 dx (.own x)) x (.ins C dx [])) (fun v H2 => v = .non ∧ Q (.ref x) H2) E
noncomputable def Binds (K : PySem.W.Frag) (fd : FuncData) (ps : List Str) (ds : List Value) : Prop :=
  ∀ (s : Shared) (us : List Value), K.In s.heap → (us ++ ds).length = ps.length → BindsTo s fd ⟨us, []⟩ (ps.zip (us ++ ds))
theorem Binds.all {K : PySem.W.Frag} {fd : FuncData} {ps : List Str} (h : ∀ us : List Value, us.length = ps.length → bindArgs fd ⟨us, []⟩ = pure (ps.zip us)) : Binds K fd ps [] := fun s us _ hl => by
  rw [List.append_nil] at hl ⊢
  exact .of_eq (h us hl)
noncomputable def Passes (CX : CXT) (X : Cx) (E : XK) : Prop := ∀ (pins : List (Addr × Obj)) (σ : St) (H : Hp) (s : Shared) (e : Value) (s' : Shared), Inv X pins σ H s → CX X.stack H s E e s' → X.xe e s'
section
variable {X : Cx} {CX : CXT} {k : Nat} {f C : Addr} {fd : FuncData} {ps : List Str} {sp : Sp} {dvs : List V} {ds : List Value} {E : XK} {x m : Str} {p pos apos : Pos} {e o : Expr} {es : List Expr} {ta : TE} {t : TA}
theorem run_fn {pins : List (Addr × Obj)} {σ : St} {H : Hp} {s : Shared} {Q : VK} {us : List Value} {vs : List V} (F : FnOk X.prog X.w X.K X.mg X.base CX k f fd ps sp) (hr : Room k X.A) (hb : Binds X.K fd ps ds) (hd : Vals dvs ds) (hx : Passes CX X E)
    (I : Inv X pins σ H s) (r : Vals vs us) (h : sp (vs ++ dvs) H Q E) : wpAny (model X.prog X.w) X.A (call (.ref f) us) (EP X pins σ Q) X.xe s := by
  have r2 : Vals (vs ++ dvs) (us ++ ds) := r.append hd
  have hl : (us ++ ds).length = ps.length := by rw [← r2.length]; exact F.len _ _ _ _ h
  refine wpAny_call (codeAny_mono (F.run X.A X.stack s H ⟨us, []⟩ (us ++ ds) (vs ++ dvs) Q E hr I.env0 (hb s us I.kIn hl) r2 h) fun r s' hq => ?_)
  cases r with
  | error e => exact hx pins σ H s e s' I hq
  | ok fl =>
    cases fl with
    | ret u => exact I.after hq
    | next => exact False.elim hq
    | brk => exact False.elim hq
    | cont => exact False.elim hq
theorem pe_call (F : FnOk X.prog X.w X.K X.mg X.base CX k f fd ps sp) (hr : Room k X.A) (hg : Gl X x) (hm : X.mg x = some (.ref f)) (hk : PySem.W.keepIn X.K (.ref f) = true) (hb : Binds X.K fd ps ds) (hd : Vals dvs ds) (hx : Passes CX X E)
    (ha : PA X (e :: es) t) (hdb : (x == ("__debug__" : Str)) = false := by decide) (he : starEach (e :: es) X.env = (false, eval e X.env) :: starEach es X.env := by rfl) (hpl : (backTo pos (starEach es X.env)).any (·.1) = false := by rfl) :
    PE X (.Call (.Name x p) (e :: es) [] pos) (tCall sp dvs E t) := by
  intro pins s σ H Q I h
  refine wpAny_Call_Name_kw (ld_glob I hg hm ?_ hdb)
  refine PySem.W.callWith_K (h₀ := X.base) I.ok.mod.kin hk (thn (ha pos pins s σ H _ I h) fun us s1 ⟨vs, H1, I1, r, q⟩ => ⟨I1.kIn, ?_⟩) he hpl
  exact run_fn F hr hb hd hx I1 r q
theorem pe_meth {pl : Sem Bool} (he : PE X o ta) (c : Cls X.K C) (hm : Meth X.K C m f) (F : FnOk X.prog X.w X.K X.mg X.base CX k f fd ps sp) (hr : Room k X.A) (hb : Binds X.K fd ps ds) (hd : Vals dvs ds) (hx : Passes CX X E) (ha : PA X (e :: es) t)
    (hst : starEach (e :: es) X.env = (false, eval e X.env) :: starEach es X.env := by rfl) (hpl : (backTo pos (starEach es X.env)).any (·.1) = false := by rfl)
    (ht : eval (.Call (.Attribute o m apos) (e :: es) [] pos) X.env = (do
      let ov ← eval o X.env
      standAt apos.atName
      let (f, first) ← holding [ov] (getMethod ov m pl)
      callWith pos f first (backTo pos (starEach (e :: es) X.env)) (backToKw pos (keywordEach [] X.env))) := by rfl) :
    PE X (.Call (.Attribute o m apos) (e :: es) [] pos) (tMeth C m sp dvs E ta t) := by
  intro pins s σ H Q I h
  refine PySem.W.methodCall_KW (pl := pl) (thn (he pins s σ H _ I h) fun u s1 ⟨x, H1, I1, rx, a, dx, fs, ex, ea, l, q⟩ => ?_) ht
  subst ex
  obtain rfl : u = Value.ref a := rx
  refine getmeth_ok I1 ea c hm l ?_
  refine PySem.W.callWith_K (first := [.ref a]) (h₀ := X.base) I.ok.mod.kin hm.kp (thn (ha pos pins s1 σ H1 _ I1 q) fun us s2 ⟨vs, H2, I2, r, q2⟩ => ⟨I2.kIn, ?_⟩) hst hpl
  exact run_fn (us := .ref a :: us) (vs := .ref a :: vs) F hr hb hd hx I2 (.cons rfl r) q2
theorem pe_meth0 {pl : Sem Bool} (he : PE X o ta) (c : Cls X.K C) (hm : Meth X.K C m f) (F : FnOk X.prog X.w X.K X.mg X.base CX k f fd ps sp) (hr : Room k X.A) (hb : Binds X.K fd ps ds) (hd : Vals dvs ds) (hx : Passes CX X E)
    (ht : eval (.Call (.Attribute o m apos) [] [] pos) X.env = (do
      let ov ← eval o X.env
      standAt apos.atName
      let (f, first) ← holding [ov] (getMethod ov m pl)
      callWith pos f first (backTo pos (starEach [] X.env)) (backToKw pos (keywordEach [] X.env))) := by rfl) :
    PE X (.Call (.Attribute o m apos) [] [] pos) (tMeth C m sp dvs E ta tNil) := by
  intro pins s σ H Q I h
  refine PySem.W.methodCall_KW (pl := pl) (thn (he pins s σ H _ I h) fun u s1 ⟨x, H1, I1, rx, a, dx, fs, ex, ea, l, q⟩ => ?_) ht
  subst ex
  obtain rfl : u = Value.ref a := rx
  refine getmeth_ok I1 ea c hm l ?_
  exact PySem.W.callWith_K0 (first := [.ref a]) I1.kIn hm.kp (run_fn (us := [.ref a]) (vs := [.ref a]) F hr hb hd hx I1 (.cons rfl .nil) q)
structure Mk (K : PySem.W.Frag) (C f : Addr) : Prop where
  makes : PySem.W.makesIn K C = true
  init : PySem.W.findIn K (.ref C) "__init__" = some (some (.ref f))
  fn : PySem.W.isFn K (.ref f) = true
  kp : PySem.W.keepIn K (.ref C) = true
theorem run_make {pins : List (Addr × Obj)} {σ : St} {H : Hp} {s : Shared} {Q : VK} {us : List Value} {vs : List V} (M : Mk X.K C f) (F : FnOk X.prog X.w X.K X.mg X.base CX k f fd ps sp) (hr : Room (k + 1) X.A) (hb : Binds X.K fd ps ds) (hd : Vals dvs ds)
    (hx : Passes CX X E) (I : Inv X pins σ H s) (r : Vals vs us)
    (h : ∀ x dx, H x = none → H dx = none → dx ≠ x → sp (.ref x :: (vs ++ dvs)) (upd (upd H dx (.own x)) x (.ins C dx [])) (fun v H2 => v = .non ∧ Q (.ref x) H2) E) :
    wpAny (model X.prog X.w) X.A (call (.ref C) us) (EP X pins σ Q) X.xe s := by
  have hq := h (s.heap.objs.size + 1) s.heap.objs.size (I.hok.fresh (Nat.le_succ _)) (I.hok.fresh (Nat.le_refl _)) (Nat.ne_of_lt (Nat.lt_succ_self _))
  have I2 := Inv.made (C := C) I
  have r2 : Vals (V.ref (s.heap.objs.size + 1) :: (vs ++ dvs)) (Value.ref (s.heap.objs.size + 1) :: (us ++ ds)) := .cons rfl (r.append hd)
  have hl : (Value.ref (s.heap.objs.size + 1) :: us ++ ds).length = ps.length := by
    have e := r2.length
    rw [F.len _ _ _ _ hq] at e
    exact e.symm
  refine wpAny_call (make_map (f := f) I.kIn M.makes M.init (beq_iff_eq.mp M.fn) (codeAny_mono (F.run _ X.stack _ _ ⟨Value.ref (s.heap.objs.size + 1) :: us, []⟩ (Value.ref (s.heap.objs.size + 1) :: (us ++ ds)) _ _ E (hr.make C us [])
    (I2.env0.make C us []) (hb _ (Value.ref (s.heap.objs.size + 1) :: us) I2.kIn hl) r2 hq) fun r s' hq' => ?_))
  cases r with
  | error e => exact hx pins σ _ _ e s' I2 hq'
  | ok fl =>
    cases fl with
    | ret u =>
      obtain ⟨v, H', I3, rv, ev, q3⟩ := I2.after hq'
      subst ev
      exact ⟨rv, ⟨V.ref (s.heap.objs.size + 1), H', I3, rfl, q3⟩⟩
    | next => exact False.elim hq'
    | brk => exact False.elim hq'
    | cont => exact False.elim hq'
theorem pe_make (M : Mk X.K C f) (F : FnOk X.prog X.w X.K X.mg X.base CX k f fd ps sp) (hr : Room (k + 1) X.A) (hg : Gl X x) (hm : X.mg x = some (.ref C)) (hb : Binds X.K fd ps ds) (hd : Vals dvs ds) (hx : Passes CX X E)
    (ha : PA X (e :: es) t) (hdb : (x == ("__debug__" : Str)) = false := by decide) (he : starEach (e :: es) X.env = (false, eval e X.env) :: starEach es X.env := by rfl) (hpl : (backTo pos (starEach es X.env)).any (·.1) = false := by rfl) :
    PE X (.Call (.Name x p) (e :: es) [] pos) (tMake C sp dvs E t) := by
  intro pins s σ H Q I h
  refine wpAny_Call_Name_kw (ld_glob I hg hm ?_ hdb)
  refine PySem.W.callWith_K (h₀ := X.base) I.ok.mod.kin M.kp (thn (ha pos pins s σ H _ I h) fun us s1 ⟨vs, H1, I1, r, q⟩ => ⟨I1.kIn, ?_⟩) he hpl
  exact run_make M F hr hb hd hx I1 r q
end
section
variable {X : Cx} {CX : CXT} {k : Nat} {f C : Addr} {fd : FuncData} {ps ks : List Str} {sp : Sp} {E : XK} {x m : Str} {p pos apos kpos : Pos} {e o : Expr} {es : List Expr} {kws : List Keyword} {te ta : TE} {t tk : TA} {nm : Option Str}
structure KBinds (K : PySem.W.Frag) (fd : FuncData) (ps ks : List Str) (g : List Value → List Value → List Value) (gV : List V → List V → List V) : Prop where
  to : ∀ (s : Shared) (us ws : List Value), K.In s.heap → (g us ws).length = ps.length → BindsTo s fd ⟨us, ks.zip ws⟩ (ps.zip (g us ws))
  rel : ∀ {vs : List V} {us : List Value} {zs : List V} {ws : List Value}, Vals vs us → Vals zs ws → Vals (gV vs zs) (g us ws)
variable {g : List Value → List Value → List Value} {gV : List V → List V → List V}
end
structure FnScope (N P : List Str) (sc : Scope) : Prop where
  kind : sc.kind = .function
  co : sc.isCoroutine = false
  gen : sc.isGenerator = false
  nd : N.Nodup
  pre : N.take P.length = P
  par : ∀ x ∈ P, sc.names.lookup x = some .local ∨ sc.names.lookup x = some .cell
  nofree : ∀ y ∈ sc.names, y.2 ≠ .free
theorem bindL_out {kindOf : Str → Option NameKind} {x : Str} : ∀ {binds : List (Str × Value)} {m : Str → Option Value}, (∀ v, (x, v) ∉ binds) → bindL kindOf binds m x = m x
  | [], _, _ => rfl
  | (n, v) :: r, m, h => by
    unfold bindL
    rw [bindL_out fun w hw => h w (List.mem_cons_of_mem _ hw)]
    split
    · have : x ≠ n := by rintro rfl; exact h v List.mem_cons_self
      simp [this]
    · rfl
theorem bindC_out {kindOf : Str → Option NameKind} {x : Str} : ∀ {binds : List (Str × Value)} {m : Str → Option Value}, (∀ v, (x, v) ∉ binds) → bindC kindOf binds m x = m x
  | [], _, _ => rfl
  | (n, v) :: r, m, h => by
    unfold bindC
    rw [bindC_out fun w hw => h w (List.mem_cons_of_mem _ hw)]
    split
    · rfl
    · have : x ≠ n := by rintro rfl; exact h v List.mem_cons_self
      simp [this]
theorem bindL_get {kindOf : Str → Option NameKind} {x : Str} {v : Value} : ∀ {P : List Str} {vs : List Value} {i : Nat} {m : Str → Option Value}, P.Nodup → P[i]? = some x → vs[i]? = some v → kindOf x = some .local →
    bindL kindOf (P.zip vs) m x = some v
  | [], _, _, _, _, h, _, _ => by simp at h
  | _ :: _, [], _, _, _, _, h, _ => by simp at h
  | p :: P, w :: vs, 0, m, nd, h1, h2, hk => by
    simp at h1 h2; subst h1; subst h2
    show bindL kindOf ((p, w) :: P.zip vs) m p = _
    unfold bindL
    rw [bindL_out fun v hv => (List.nodup_cons.mp nd).1 (List.of_mem_zip hv).1, if_pos hk]
    simp
  | p :: P, w :: vs, i + 1, m, nd, h1, h2, hk => by
    show bindL kindOf ((p, w) :: P.zip vs) m x = _
    unfold bindL
    exact bindL_get (i := i) (List.nodup_cons.mp nd).2 (by simpa using h1) (by simpa using h2) hk
theorem bindC_get {kindOf : Str → Option NameKind} {x : Str} {v : Value} : ∀ {P : List Str} {vs : List Value} {i : Nat} {m : Str → Option Value}, P.Nodup → P[i]? = some x → vs[i]? = some v → kindOf x ≠ some .local →
    bindC kindOf (P.zip vs) m x = some v
  | [], _, _, _, _, h, _, _ => by simp at h
  | _ :: _, [], _, _, _, _, h, _ => by simp at h
  | p :: P, w :: vs, 0, m, nd, h1, h2, hk => by
    simp at h1 h2; subst h1; subst h2
    show bindC kindOf ((p, w) :: P.zip vs) m p = _
    unfold bindC
    rw [bindC_out fun v hv => (List.nodup_cons.mp nd).1 (List.of_mem_zip hv).1, if_neg hk]
    simp
  | p :: P, w :: vs, i + 1, m, nd, h1, h2, hk => by
    show bindC kindOf ((p, w) :: P.zip vs) m x = _
    unfold bindC
    exact bindC_get (i := i) (List.nodup_cons.mp nd).2 (by simpa using h1) (by simpa using h2) hk
noncomputable def start (N : List Str) (vs : List V) : St := vs.map some ++ List.replicate (N.length - vs.length) none
noncomputable def cxOf (CX : CXT) (P : Program) (w : World) (K : PySem.W.Frag) (mg : Str → Option Value) (base : Heap) (N : List Str) (qual : Str) (scope : Scope) (f : Addr) (cd : Value) (A : Around) (outer : List Env) (s : Shared) (H : Hp) (E : XK) : Cx where
  prog := P
  w := w
  K := K
  mg := mg
  base := base
  A := A.deeper (envOfC qual scope s.heap.objs.size f cd)
  N := N
  s₀ := s
  H₀ := H
  env := envOfC qual scope s.heap.objs.size f cd
  outer := outer
  stack := envOfC qual scope s.heap.objs.size f cd :: outer
  ex := []
  calm := true
  fn := fun _ => true
  pn := []
  xe := fun e s' => wpAny (model P w) (A.deeper (envOfC qual scope s.heap.objs.size f cd)) (leaving (envOfC qual scope s.heap.objs.size f cd) e) (fun _ s'' => CX outer H s E e s'') (fun e' s'' => CX outer H s E e' s'') s'
theorem cell_has {sc : Scope} {n : Nat} {x : Str} (h : sc.names.lookup x = some .cell) : ∃ c, (cellsFrom n sc.names []).lookup x = some c := by
  have q := PySem.W.cellsFrom_some sc.names n [] (.inl h)
  exact Option.isSome_iff_exists.mp q
theorem inv_start {CX : CXT} {P : Program} {w : World} {K : PySem.W.Frag} {mg : Str → Option Value} {base : Heap} {N ps : List Str} {qual : Str} {scope : Scope} {f : Addr} {cd : Value} {A : Around} {outer : List Env} {s s1 : Shared} {H : Hp} {E : XK} {us : List Value} {vs : List V}
    (S : FnScope N ps scope) (hd : A.handled = none) (e0 : Env0 P w K mg base A outer s H) (hl : vs.length = ps.length) (r : Vals vs us)
    (x : InCallC s s.heap.objs.size (bindL (envOfC qual scope s.heap.objs.size f cd).kindOf (ps.zip us) fun _ => none) (cellsFrom (s.heap.objs.size + 1) scope.names []) (bindC (envOfC qual scope s.heap.objs.size f cd).kindOf (ps.zip us) fun _ => none) s1) :
    Inv (cxOf CX P w K mg base N qual scope f cd A outer s H E) [] (start N vs) H s1 := by
  have hpl : ps.length ≤ N.length := by have := congrArg List.length S.pre; rw [List.length_take] at this; (clear S hd e0 hl r x; omega)
  obtain ⟨h1, tk, rfl, hk⟩ := x.done
  have noA : ∀ b : Addr, b ∉ (cxOf CX P w K mg base N qual scope f cd A outer s H E).ex := fun b z => absurd (show b ∈ ([] : List Addr) from z) (by simp)
  refine ⟨⟨e0.mod, S.kind, rfl, rfl, Nat.le_refl _, fun y z c h1 h2 => ?_, fun y hy => ?_, fun y c _ h => ?_, fun _ => hd, Around.frames_deeper e0.frames, .inr ⟨rfl, rfl⟩, fun b z => absurd z (noA b), e0.bs, e0.bsz, fun b _ _ => noA b, fun b z => absurd z (noA b), e0.funs, e0.frf⟩,
    rfl, e0.bare, Un.kept hk, ⟨_, x.toInCall.ns, fun i y v h1 h2 h3 => ?_⟩, fun y c h => ⟨_, x.cell y c h⟩, e0.hok.fresh (Nat.le_refl _), fun y c h => ?_, fun p hp => absurd (show p ∈ ([] : List (Addr × Obj)) from hp) (by simp), e0.hok.kept hk, ?_⟩
  · exact name_of_addr x.apart (PySem.mem_of_lookup h1) (PySem.mem_of_lookup h2)
  · have hy : scope.names.lookup y = some .cell ∨ scope.names.lookup y = some .free := hy
    rcases hy with hy | hy
    · exact cell_has hy
    · exact absurd rfl (S.nofree _ (PySem.mem_of_lookup hy))
  · exact Nat.le_of_lt (x.above y c (PySem.mem_of_lookup h))
  · have hi : i < vs.length := by
      unfold start at h2
      by_cases hi : i < vs.length
      · exact hi
      · rw [List.getElem?_append_right (by simpa using hi)] at h2
        rw [List.getElem?_replicate] at h2
        split at h2 <;> cases h2
    have ha : vs[i]? = some v := by
      unfold start at h2
      rw [List.getElem?_append_left (by simpa using hi), List.getElem?_map] at h2
      cases e : vs[i]? with
      | none => rw [e] at h2; cases h2
      | some a => rw [e] at h2; cases h2; rfl
    obtain ⟨u, hu, rv⟩ := r.get ha
    have hp : ps[i]? = some y := by
      rw [← S.pre, List.getElem?_take_of_lt (by (clear S hd e0 r hpl hk x noA h1 h2 h3 ha hu rv; omega))]; exact h1
    have ndP : ps.Nodup := by rw [← S.pre]; exact S.nd.sublist (List.take_sublist _ _)
    refine ⟨u, rv, ?_⟩
    rcases S.par y (List.mem_of_getElem? hp) with k | k
    · exact .inl ⟨k, bindL_get ndP hp hu k⟩
    · obtain ⟨c, e⟩ := cell_has (n := s.heap.objs.size + 1) k
      refine .inr ⟨.inl k, c, e, ?_⟩
      have q := x.cell y c e
      rw [bindC_get ndP hp hu (by show scope.names.lookup y ≠ _; rw [k]; decide)] at q
      exact q
  · exact e0.hok.fresh (Nat.le_of_lt (x.above y c (PySem.mem_of_lookup h)))
  · unfold start
    show _ = N.length
    rw [List.length_append, List.length_map, List.length_replicate]
    (clear S hd e0 r hk x noA; omega)
theorem fn_of {CX : CXT} {P : Program} {w : World} {K : PySem.W.Frag} {mg : Str → Option Value} {base : Heap} {k : Nat} {f : Addr} {name qual : Str} {params : Arguments} {body : List Stmt} {scope : Scope} {dV kV doc pm cdv ct oc : Value} {an od : Option Addr}
    {osl : Array (Option Value)} {N ps : List Str} {sp : Sp} (lk : K.lookup f = some ⟨oc, od, .func (PySem.W.fnOf name qual params body scope dV kV doc pm an cdv ct), osl⟩) (hcd : PySem.W.codeIn K cdv qual = true) (S : FnScope N ps scope)
    (len : ∀ vs H Q E, sp vs H Q E → vs.length = ps.length)
    (hbody : ∀ (A : Around) (outer : List Env) (s : Shared) (H : Hp) (vs : List V) (Q : VK) (E : XK), Room k (A.deeper (envOfC qual scope s.heap.objs.size f cdv)) → sp vs H Q E →
      ∃ t, PSs (cxOf CX P w K mg base N qual scope f cdv A outer s H E) body t ∧ t { nx := fun _ H' => Q .non H', rt := Q } (start N vs) H) :
    FnOk P w K mg base CX (k + 1) f (PySem.W.fnOf name qual params body scope dV kV doc pm an cdv ct) ps sp := by
  refine ⟨len, fun A outer s H args us vs Q E hr e0 hb r hsp => ?_⟩
  have hl := len _ _ _ _ hsp
  have KX : K.In s.heap := e0.mod.kin.keeps fun b o e => (e0.bs b o e).1
  have lim : s.heap.NoLimit := e0.mod.nolimit.keeps fun b o e => (e0.bs b o e).1
  have hkind : ∀ y ∈ ps.zip us, scope.names.lookup y.1 = some .local ∨ (scope.names.lookup y.1 = some .cell ∧ ((cellsFrom (s.heap.objs.size + 1) scope.names []).lookup y.1).isSome = true) := fun ⟨n, v⟩ hy => by
    rcases S.par n (List.of_mem_zip hy).1 with q | q
    · exact .inl q
    · exact .inr ⟨q, PySem.W.cellsFrom_some _ _ _ (.inl q)⟩
  refine codeAny_call_function hr.depth (KX _ _ lk) rfl S.co S.gen rfl (PySem.W.codeRec_of KX hcd) (hb _ _ _ _ ?_)
  refine wpAny_newFunctionEnv_cells S.kind hkind fun env he s1 x => ?_
  subst he
  refine ⟨lim.keeps x.toInCall.keep, codeAny_func ?_⟩
  obtain ⟨t, ht, hq⟩ := hbody A outer s H vs Q E (hr.deeper _) hsp
  have I : Inv (cxOf CX P w K mg base N qual scope f cdv A outer s H E) [] (start N vs) H s1 := inv_start S hr.hd e0 hl r x
  refine wpAny_mono (ht [] s1 (start N vs) H _ I hq) (fun fl s' hs => ?_) fun e s' hs => hs
  have fin : ∀ {σ' : St} {H' : Hp} {v : V} {u : Value}, Inv (cxOf CX P w K mg base N qual scope f cdv A outer s H E) [] σ' H' s' → RelV v u → Q v H' → CE outer P w H s Q u s' :=
    fun {σ' H' v u} J rv q => ⟨v, H', J.os, J.bare, J.base, J.hok, rv, q⟩
  cases fl with
  | ret u =>
    obtain ⟨v, σ', H', J, rv, q⟩ := hs
    exact fin J rv q
  | next =>
    obtain ⟨σ', H', J, q⟩ := hs
    exact fin (v := V.non) (u := Value.none) J rfl q
  | brk =>
    obtain ⟨_, _, _, q⟩ := hs
    exact False.elim q
  | cont =>
    obtain ⟨_, _, _, q⟩ := hs
    exact False.elim q
end L2
namespace L2
open PySem PySem.Spec PyProof.Rows
section
variable {X : Cx} {x : Str} {p pos : Pos} {e : Expr} {es : List Expr} {t : TA} {id T : String} {r : List V → Hp → VK → Prop}
noncomputable def tCB (r : List V → Hp → VK → Prop) (t : TA) : TE := fun σ H Q => t σ H fun vs H1 => r vs H1 Q
theorem pe_callB (hc : CallR X (.builtin id) r) (hg : Gl X x) (hm : X.mg x = none) (hv : bootBuiltins x = some (.builtin id)) (ha : PA X (e :: es) t) (hn : x ≠ "__name__" := by decide) (hdb : (x == ("__debug__" : Str)) = false := by decide)
    (he : starEach (e :: es) X.env = (false, eval e X.env) :: starEach es X.env := by rfl) (hpl : (backTo pos (starEach es X.env)).any (·.1) = false := by rfl) : PE X (.Call (.Name x p) (e :: es) [] pos) (tCB r t) := by
  intro pins s σ H Q I h
  refine wpAny_Call_Name_kw (ld_blt I hg hm hv ?_ hn hdb)
  exact PyProof.Rows.callWith_builtin1 (thn (ha pos pins s σ H _ I h) fun us s1 ⟨vs, H1, I1, r1, q1⟩ => hc pins s1 σ H1 vs us Q I1 r1 q1) he hpl
theorem pe_callTy (hc : CallR X (.type T) r) (hg : Gl X x) (hm : X.mg x = none) (hv : bootBuiltins x = some (.type T)) (ha : PA X (e :: es) t) (hn : x ≠ "__name__" := by decide) (hdb : (x == ("__debug__" : Str)) = false := by decide)
    (he : starEach (e :: es) X.env = (false, eval e X.env) :: starEach es X.env := by rfl) (hpl : (backTo pos (starEach es X.env)).any (·.1) = false := by rfl) : PE X (.Call (.Name x p) (e :: es) [] pos) (tCB r t) := by
  intro pins s σ H Q I h
  refine wpAny_Call_Name_kw (ld_blt I hg hm hv ?_ hn hdb)
  exact PyProof.Rows.callWith_type1 (thn (ha pos pins s σ H _ I h) fun us s1 ⟨vs, H1, I1, r1, q1⟩ => hc pins s1 σ H1 vs us Q I1 r1 q1) he hpl
end
end L2
namespace HT
open PySem PyProof.Rows
theorem rcLt_int (A : Around) (s : Shared) (a : Int) (t : Tok) (c : Int) (u : Tok) (prog : Program) (w : World) (E : Value → Shared → Prop) (Q : Value → Shared → Prop) (h : Q (.bool (decide (a < c))) s) :
    wpAny (model prog w) A (richCompare .Lt (.int a t) (.int c u)) Q E s :=
  (PyProof.Rows.lt_int h : wpAny (model prog w) A (compareOp .Lt (.int a t) (.int c u)) Q E s)
section
open PySem.SeqAt
open PySem.AutoSeq1 (wpAny_loadPart')
open PySem.MeetsSeq PySem.MeetsSeq2 PySem.MeetsSeq3
end
section
variable {prog : Program} {w : World} {A : Around} {E : Value → Shared → Prop} {s : Shared}
theorem cat_tup {t b : Addr} {vs ws : List Value} {Q : Value → Shared → Prop} (ht : IsTup s.heap t vs.toArray) (hb : IsTup s.heap b ws.toArray) (hv : vs ≠ [])
    (h1 : ws = [] → Q (.ref t) s) (h2 : ws ≠ [] → Q (.ref s.heap.objs.size) { s with heap := s.heap.push { cls := .type "tuple", data := .seq (vs ++ ws).toArray } })
    (hsz : vs.length + ws.length ≤ sizeLine) : wpAny (model prog w) A (binaryOp .Add (.ref t) (.ref b)) Q E s := by
  obtain ⟨⟨cls, dd, data, sl⟩, ho, hc, n, hd⟩ := id ht
  obtain ⟨⟨cls2, dd2, data2, sl2⟩, ho2, hc2, n2, hd2⟩ := id hb
  simp only at hc hd hc2 hd2
  subst hc hd hc2 hd2
  have e : vs.toArray ++ ws.toArray = (vs ++ ws).toArray := by simp
  by_cases hw : ws = []
  · exact concat_meets ⟨_, ho, rfl⟩ ⟨_, ho2, rfl⟩ noFill_tuple_add seq_tuple_add PySem.F.slot_tuple_add PySem.F.entry_tuple_add (PySem.F.args_tuple_add_2 _ _)
      (tuple_addW1 t b vs.toArray ws.toArray n n2 dd dd2 sl sl2 (by simpa using hv) (by simp [hw])) ⟨ho, ho2, h1 hw⟩
  · refine concat_meets ⟨_, ho, rfl⟩ ⟨_, ho2, rfl⟩ noFill_tuple_add seq_tuple_add PySem.F.slot_tuple_add PySem.F.entry_tuple_add (PySem.F.args_tuple_add_2 _ _)
      (tuple_addW2 t b vs.toArray ws.toArray n n2 dd dd2 sl sl2 (by simpa using hv) (by simpa using hw) (by rw [List.size_toArray, List.size_toArray]; exact hsz)) ⟨ho, ho2, ?_⟩
    rw [e]
    exact h2 hw
noncomputable def sIx (n d : Nat) : Option Int → Nat
  | none => d
  | some v => if v < 0 then (v + (n : Int)).toNat else min v.toNat n
theorem sIx_none (n d : Nat) : sIx n d none = d := rfl
theorem sIx_nat (n d k : Nat) : sIx n d (some (k : Int)) = min k n := by
  show (if (k : Int) < 0 then ((k : Int) + (n : Int)).toNat else min (k : Int).toNat n) = min k n
  rw [if_neg (by omega), Int.toNat_natCast]
theorem sIx_le (n d : Nat) (hd : d ≤ n) (o : Option Int) : sIx n d o ≤ n := by
  cases o with
  | none => exact hd
  | some v =>
    show (if v < 0 then (v + (n : Int)).toNat else min v.toNat n) ≤ n
    by_cases hv : v < 0
    · rw [if_pos hv]; omega
    · rw [if_neg hv]; exact Nat.min_le_right _ _
theorem clip_eq (v : Int) (n d : Nat) : (if v < 0 then max (v + (n : Int)) 0 else min v (n : Int)) = ((sIx n d (some v) : Nat) : Int) := by
  show (if v < 0 then max (v + (n : Int)) 0 else min v (n : Int)) = (((if v < 0 then (v + (n : Int)).toNat else min v.toNat n) : Nat) : Int)
  by_cases hv : v < 0
  · simp only [if_pos hv]; (clear hv; omega)
  · simp only [if_neg hv]; omega
theorem adjust_gen (lo hi : Option Int) (n : Nat) : Builtin.Slice.sliceAdjust lo hi 1 (n : Int) = (((sIx n 0 lo : Nat) : Int), ((sIx n n hi : Nat) : Int)) := by
  have h1 : ¬ ((1 : Int) < 0) := by omega
  unfold Builtin.Slice.sliceAdjust
  simp only [h1, if_false]
  refine Prod.ext ?_ ?_
  · cases lo with
    | none => rfl
    | some v => exact clip_eq v n 0
  · cases hi with
    | none => rfl
    | some v => exact clip_eq v n n
theorem places_gen (i j : Nat) : Builtin.Slice.slicePlaces (i : Int) (j : Int) 1 = j - i := by
  unfold Builtin.Slice.slicePlaces
  have h1 : (1 : Int) > 0 := by omega
  simp only [h1, if_true, Int.ediv_one]
  split <;> (clear h1; omega)
theorem slicePart_ {v : Value} {o : Option Int} {Q : Option Int → Shared → Prop} (p : IsPart v o) (h : Q o s) : wpAny (model prog w) A (Builtin.Slice.slicePartIndex v) Q E s := by
  cases p with
  | none => exact slicePart_none h
  | int i t => exact slicePart_int h
theorem sliceApplied_gen {sl : Addr} {vl vu : Value} {lo hi : Option Int} {n : Nat} {Q : Int × Int × Nat → Shared → Prop} (hs : s.heap.IsSliceOf sl vl vu .none) (pl : IsPart vl lo) (pu : IsPart vu hi)
    (h : Q (((sIx n 0 lo : Nat) : Int), 1, sIx n n hi - sIx n 0 lo) s) : wpAny (model prog w) A (Builtin.Slice.sliceApplied (.ref sl) (pure (n : Int))) Q E s := by
  obtain ⟨os, hos, hcs, hds⟩ := id hs
  unfold Builtin.Slice.sliceApplied Builtin.Slice.sliceFields
  refine wpAny_bind (wpAny_bind (wpAny_field hos hds (x := vl) rfl (wpAny_bind (wpAny_field hos hds (x := vu) rfl (wpAny_bind (wpAny_field hos hds (x := .none) rfl (wpAny_pure ?_)))))))
  refine wpAny_bind (slicePart_none ?_)
  show wpAny _ _ (if ((1 : Int) == 0) = true then _ else _) _ _ s
  rw [if_neg (by decide)]
  refine wpAny_bind (slicePart_ pl (wpAny_bind (slicePart_ pu (wpAny_bind (wpAny_pure ?_)))))
  show wpAny _ _ (match Builtin.Slice.sliceAdjust lo hi 1 (n : Int) with | (lo, hi) => pure (lo, (1 : Int), Builtin.Slice.slicePlaces lo hi 1)) _ _ s
  rw [adjust_gen lo hi n]
  show wpAny _ _ (pure (((sIx n 0 lo : Nat) : Int), (1 : Int), Builtin.Slice.slicePlaces ((sIx n 0 lo : Nat) : Int) ((sIx n n hi : Nat) : Int) 1)) _ _ s
  rw [places_gen]
  exact wpAny_pure h
theorem pick_gen (xs : Array Value) (i k : Nat) : ((List.range k).filterMap fun (m : Nat) => xs[((i : Int) + (m : Int) * 1).toNat]?).toArray = ((xs.toList.drop i).take k).toArray := by
  have e : (fun (m : Nat) => xs[((i : Int) + (m : Int) * 1).toNat]?) = fun m => xs[i + m]? := by
    funext m
    have : ((i : Int) + (m : Int) * 1).toNat = i + m := by omega
    rw [this]
  rw [e]
  have := pick_run xs i k
  rw [List.filterMap_map] at this
  have e2 : ((fun x => xs[x]?) ∘ fun x => i + x) = fun m => xs[i + m]? := rfl
  rw [e2] at this
  rw [this]
theorem getItem_tuple_cut {t sl : Addr} {items : Array Value} {vl vu : Value} {lo hi : Option Int} {Q : Value → Shared → Prop} (ht : IsTup s.heap t items) (hs : s.heap.IsSliceOf sl vl vu .none) (pl : IsPart vl lo) (pu : IsPart vu hi)
    (hw : ¬ (sIx items.size 0 lo = 0 ∧ sIx items.size items.size hi = items.size))
    (h : Q (.ref s.heap.objs.size) { s with heap := s.heap.push { cls := .type "tuple", data := .seq ((items.toList.drop (sIx items.size 0 lo)).take (sIx items.size items.size hi - sIx items.size 0 lo)).toArray } })
    (hsz : items.size ≤ sizeLine) : wpAny (model prog w) A (getItem (.ref t) (.ref sl)) Q E s := by
  have htake : sizeOk (.seq ((items.toList.drop (sIx items.size 0 lo)).take (sIx items.size items.size hi - sIx items.size 0 lo)).toArray) := by
    show ((items.toList.drop (sIx items.size 0 lo)).take (sIx items.size items.size hi - sIx items.size 0 lo)).toArray.size ≤ sizeLine
    rw [List.size_toArray, List.length_take, List.length_drop, Array.length_toList]
    (clear ht hs pl pu hw h; omega)
  have hj : sIx items.size items.size hi ≤ items.size := sIx_le _ _ (Nat.le_refl _) hi
  obtain ⟨os, hos, hcs, hds⟩ := id hs
  have hTs : s.TypeIs (.ref sl) "slice" := ⟨os, hos, hcs⟩
  unfold getItem
  try with_reducible refine wpAny_holding ?_
  first | refine wpAny_bind (wpAny_pure ?_) | skip
  refine wpAny_bind (wpAny_sequenceKey ht.typeIs (by decide) ?_)
  refine wpAny_bind (wpAny_callSpecial?_slot (name := Str.ofString "__getitem__") ht.typeIs PyProof.Rows.slot_tuple_getitem
    (wpAny_call_entry PyProof.Rows.slot_tuple_getitem ht.typeIs entry_tuple_getitem ?_ (args_tuple_getitem _ _)))
  show wpAny _ _ (Builtin.Tuple.tupleItemsOf (.ref t) >>= _) _ _ s
  refine wpAny_bind (tupleItemsOf_ ht ?_)
  refine wpAny_bind (wpAny_typeOf hTs ?_)
  rw [if_pos (by decide)]
  refine wpAny_bind (sliceApplied_gen hs pl pu ?_)
  have hno : ¬ ((((sIx items.size 0 lo : Nat) : Int) == 0 && (1 : Int) == 1 && (sIx items.size items.size hi - sIx items.size 0 lo) == items.size) = true) := by
    intro q
    rw [Bool.and_eq_true, Bool.and_eq_true] at q
    have q1 : ((sIx items.size 0 lo : Nat) : Int) = 0 := eq_of_beq q.1.1
    have q2 : sIx items.size items.size hi - sIx items.size 0 lo = items.size := eq_of_beq q.2
    exact hw ⟨by (clear ht hs pl pu hw h hsz htake hj hos hcs hds hTs q q2; omega), by (clear ht hs pl pu hw h hsz htake hos hcs hds hTs q; omega)⟩
  show wpAny _ _ (if (((sIx items.size 0 lo : Nat) : Int) == 0 && (1 : Int) == 1 && (sIx items.size items.size hi - sIx items.size 0 lo) == items.size) = true then _ else _) _ _ s
  rw [if_neg hno, pick_gen]
  first
    | exact wpAny_bind (m := Builtin.Tuple.tupleExact _) (wpAny_newObj_type (wpAny_pure ⟨_, rfl, wpAny_pure h⟩) htake)
    | exact wpAny_bind (m := Builtin.Tuple.tupleExact _) (wpAny_newObj_type (wpAny_bind (wpAny_pure (wpAny_pure ⟨_, rfl, wpAny_pure h⟩))) htake)
    | exact wpAny_bind (wpAny_bind (m := Builtin.Tuple.tupleExact _) (wpAny_newObj_type (wpAny_pure (wpAny_pure ⟨_, rfl, wpAny_pure h⟩)) htake))
    | exact wpAny_bind (wpAny_bind (m := Builtin.Tuple.tupleExact _) (wpAny_newObj_type (wpAny_pure ⟨_, rfl, wpAny_pure h⟩) htake))
end
end HT
namespace L2
open PySem PySem.Spec PyProof.Rows
noncomputable abbrev TO := St → Hp → (Option Int → Hp → Prop) → Prop
noncomputable def PO (X : Cx) (e : Option Expr) (t : TO) : Prop :=
  ∀ (pins : List (Addr × Obj)) (s : Shared) (σ : St) (H : Hp) (Q : Option Int → Hp → Prop), Inv X pins σ H s → t σ H Q →
    wpAny (model X.prog X.w) X.A (evalPart e X.env) (fun u s' => ∃ o H', Inv X pins σ H' s' ∧ IsPart u o ∧ Q o H') X.xe s
noncomputable def tNoPart : TO := fun _ H Q => Q none H
noncomputable def tPart (t : TE) : TO := fun σ H Q => t σ H fun x H1 => ∃ i, x = .int i ∧ Q (some i) H1
theorem intsAre_of {ns : List Int} : ∀ {us : List Value}, Vals (ns.map V.int) us → IntsAre us ns := by
  induction ns with
  | nil => intro us r; rw [List.map_nil] at r; cases r; exact .nil
  | cons n ns ih =>
    intro us r
    rw [List.map_cons] at r
    cases r with
    | cons r1 r2 =>
      obtain ⟨t, e⟩ := r1
      subst e
      exact .cons n t (ih r2)
section
variable {X : Cx} {e : Expr} {te : TE} {lo hi : Option Expr} {tl th : TO} {pos p2 : Pos}
theorem po_none : PO X none tNoPart := by
  intro pins s σ H Q I h
  rw [evalPart_none]
  exact wpAny_pure ⟨none, H, I, .none, h⟩
theorem po_some (h : PE X e te) : PO X (some e) (tPart te) := by
  intro pins s σ H Q I hw
  rw [evalPart_some]
  refine thn (h pins s σ H _ I hw) fun u s1 ⟨x, H1, I1, r1, q1⟩ => ?_
  obtain ⟨i, rfl, q⟩ := q1
  obtain ⟨t, rfl⟩ := r1
  exact ⟨some i, H1, I1, .int i t, q⟩
noncomputable def SlR (X : Cx) (r : V → Option Int → Option Int → Hp → VK → Prop) : Prop :=
  ∀ (pins : List (Addr × Obj)) (s : Shared) (σ : St) (H : Hp) (x : V) (v vl vu : Value) (lo hi : Option Int) (sl : Addr) (Q : VK), Inv X pins σ H s → RelV x v → s.heap.IsSliceOf sl vl vu .none → IsPart vl lo → IsPart vu hi → r x lo hi H Q →
    ∃ T id, typeLookup (.type T) "__getitem__" = pure (some (.builtin id)) ∧ s.TypeIs v T ∧ wpAny (model X.prog X.w) X.A (getItem v (.ref sl)) (EP X pins σ Q) X.xe s
noncomputable def tSl (r : V → Option Int → Option Int → Hp → VK → Prop) (te : TE) (tl th : TO) : TE := fun σ H Q => te σ H fun x H1 => tl σ H1 fun l H2 => th σ H2 fun u H3 => r x l u H3 Q
theorem pe_slice {r : V → Option Int → Option Int → Hp → VK → Prop} (hr : SlR X r) (he : PE X e te) (hl : PO X lo tl) (hu : PO X hi th) : PE X (.Subscript e (.Slice lo hi none p2) pos) (tSl r te tl th) := by
  intro pins s σ H Q I h
  refine Subscript_ (thn (he pins s σ H _ I h) fun v s1 ⟨x, H1, I1, r1, q1⟩ => ?_)
  refine wpAny_Slice (thn (hl pins s1 σ H1 _ I1 q1) fun vl s2 ⟨l, H2, I2, pl, q2⟩ => thn (hu pins s2 σ H2 _ I2 q2) fun vu s3 ⟨u, H3, I3, pu, q3⟩ => ?_)
  rw [evalPart_none]
  refine wpAny_pure ?_
  have I4 : Inv X pins σ H3 { s3 with heap := s3.heap.push { cls := .type "slice", data := .fields #[vl, vu, .none] } } := I3.kept (t' := s3.toks) fun b ob q => Heap.get?_push_of_some _ q
  obtain ⟨T, id, hT, ht, hg⟩ := hr pins { s3 with heap := s3.heap.push { cls := .type "slice", data := .fields #[vl, vu, .none] } } σ H3 x v vl vu l u s3.heap.objs.size Q I4 r1 (Heap.IsSliceOf.new ..) pl pu q3
  show wpAny (model X.prog X.w) X.A (subscriptTail e (.Slice lo hi none p2) v (.ref s3.heap.objs.size)) (EP X pins σ Q) X.xe { s3 with heap := s3.heap.push { cls := .type "slice", data := .fields #[vl, vu, .none] } }
  exact tail_any (ops := [.ref s3.heap.objs.size, v]) ht hT hg (by with_unfolding_all rfl)
noncomputable def cutV (xs : List V) (lo hi : Option Int) : List V := (xs.drop (HT.sIx xs.length 0 lo)).take (HT.sIx xs.length xs.length hi - HT.sIx xs.length 0 lo)
theorem cutV_length (xs : List V) (lo hi : Option Int) : (cutV xs lo hi).length ≤ xs.length := by
  unfold cutV
  rw [List.length_take, List.length_drop]
  omega
noncomputable def rSlT (K : PySem.W.Frag) : V → Option Int → Option Int → Hp → VK → Prop := fun x lo hi H Q => ∃ a xs, x = .ref a ∧ SqT K H a xs ∧
  ¬ (HT.sIx xs.length 0 lo = 0 ∧ HT.sIx xs.length xs.length hi = xs.length) ∧ ∀ p, H p = none → Q (.ref p) (upd H p (.tup (cutV xs lo hi)))
theorem sl_tup : SlR X (rSlT X.K) := by
  intro pins s σ H x v vl vu lo hi sl Q I rx hs pl pu h
  obtain ⟨a, xs, rfl, hx, hw, q⟩ := h
  cases rx
  obtain ⟨its, r, ht, hz⟩ := I.tuple hx
  have hlen : its.toArray.size = xs.length := by rw [List.size_toArray]; exact r.length.symm
  refine ⟨"tuple", _, PyProof.Rows.slot_tuple_getitem.lookup, ht.typeIs, ?_⟩
  refine HT.getItem_tuple_cut ht hs pl pu (by rw [hlen]; exact hw) ?_ (by rw [hlen]; exact hz)
  rw [hlen]
  refine ⟨.ref s.heap.objs.size, _, I.laid (t' := s.toks) (o := .tup (cutV xs lo hi)) (fun b ob q => Heap.get?_push_of_some _ q) (Nat.le_refl _) ?_, rfl, q _ (I.hok.fresh (Nat.le_refl _))⟩
  exact ⟨Nat.le_trans (cutV_length xs lo hi) hz, _, (r.drop (HT.sIx xs.length 0 lo)).take (HT.sIx xs.length xs.length hi - HT.sIx xs.length 0 lo), IsTup.new _ _⟩
noncomputable def rCatT (K : PySem.W.Frag) : R2 := fun x y H Q => ∃ a b xs ys, x = .ref a ∧ y = .ref b ∧ SqT K H a xs ∧ SqT K H b ys ∧ xs ≠ [] ∧ xs.length + ys.length ≤ sizeLine ∧
  (ys = [] → Q (.ref a) H) ∧ (ys ≠ [] → ∀ p, H p = none → Q (.ref p) (upd H p (.tup (xs ++ ys))))
theorem Vals.nil_iff {xs : List V} {us : List Value} (r : Vals xs us) : us = [] ↔ xs = [] := by
  cases r with
  | nil => simp
  | cons _ _ => simp
theorem op_catT : OpR X (binaryOp .Add) (rCatT X.K) := by
  intro pins s σ H x y v u Q I rx ry h
  obtain ⟨a, b, xs, ys, rfl, rfl, ha, hb, hx, hz, q1, q2⟩ := h
  cases rx
  cases ry
  obtain ⟨its, r1, p1, _⟩ := I.tuple ha
  obtain ⟨its2, r2, p2, _⟩ := I.tuple hb
  refine HT.cat_tup p1 p2 (fun z => hx (r1.nil_iff.mp z)) (fun z => ⟨.ref a, H, I, rfl, q1 (r2.nil_iff.mp z)⟩) (fun z => ?_) (by rw [← r1.length, ← r2.length]; exact hz)
  refine ⟨.ref s.heap.objs.size, _, I.laid (t' := s.toks) (o := .tup (xs ++ ys)) (fun b ob q => Heap.get?_push_of_some _ q) (Nat.le_refl _) ?_, rfl, q2 (fun w => z (r2.nil_iff.mpr w)) _ (I.hok.fresh (Nat.le_refl _))⟩
  exact ⟨by rw [List.length_append]; exact hz, _, r1.append r2, IsTup.new _ _⟩
end
end L2
namespace L2
open PySem PySem.Spec PyProof.Rows
noncomputable def ixN (n : Nat) (i : Int) : Option Nat := if 0 ≤ i then (if i < n then some i.toNat else none) else if -(n : Int) ≤ i then some (i + n).toNat else none
noncomputable def atI {α : Type} (xs : List α) (i : Int) : Option α := (ixN xs.length i).bind fun j => xs[j]?
theorem ixN_seq {n : Nat} {i : Int} {j : Nat} (h : ixN n i = some j) : seqIndex? i n = some j ∧ j < n ∧ -(n : Int) ≤ i ∧ i < n := by
  unfold ixN at h
  by_cases h0 : 0 ≤ i
  · rw [if_pos h0] at h
    by_cases h1 : i < n
    · rw [if_pos h1] at h
      have e : i.toNat = j := Option.some.inj h
      exact ⟨by rw [seqIndex_of h0 h1, e], by (clear h; omega), by (clear h h1 e; omega), h1⟩
    · rw [if_neg h1] at h; cases h
  · rw [if_neg h0] at h
    by_cases h1 : -(n : Int) ≤ i
    · rw [if_pos h1] at h
      have e : (i + n).toNat = j := Option.some.inj h
      exact ⟨by rw [seqIndex_neg (by (clear h h1 e; omega)) h1, e], by (clear h; omega), h1, by (clear h e; omega)⟩
    · rw [if_neg h1] at h; cases h
theorem atI_get {α : Type} {xs : List α} {i : Int} {v : α} (h : atI xs i = some v) : ∃ j, seqIndex? i xs.length = some j ∧ xs[j]? = some v ∧ j < xs.length ∧ -(xs.length : Int) ≤ i ∧ i < xs.length := by
  unfold atI at h
  cases e : ixN xs.length i with
  | none => rw [e] at h; cases h
  | some j =>
    rw [e] at h
    obtain ⟨h1, h2, h3, h4⟩ := ixN_seq e
    exact ⟨j, h1, h, h2, h3, h4⟩
theorem atI_nat {α : Type} {xs : List α} {j : Nat} {v : α} (h : xs[j]? = some v) : atI xs (j : Int) = some v := by
  have hj : j < xs.length := (List.getElem?_eq_some_iff.mp h).1
  have e : ixN xs.length (j : Int) = some j := by
    unfold ixN
    rw [if_pos (by (clear h hj; omega)), if_pos (by (clear h; omega))]; simp
  unfold atI; rw [e]; exact h
noncomputable def PlainIx (b : Expr) : Prop := ∀ o i, subscripted b false o i = operate [o, i] (getItem o i)
noncomputable def IxR (X : Cx) (r : R2) : Prop :=
  ∀ (value slice : Expr) (pins : List (Addr × Obj)) (s : Shared) (σ : St) (H : Hp) (x y : V) (v u : Value) (Q : VK), Inv X pins σ H s → RelV x v → RelV y u → r x y H Q →
    subscripted slice false v u = operate [v, u] (getItem v u) → wpAny (model X.prog X.w) X.A (subscriptTail value slice v u) (EP X pins σ Q) X.xe s
noncomputable def MtR (X : Cx) (id : String) (r : V → List V → Hp → VK → Prop) : Prop :=
  ∀ (pins : List (Addr × Obj)) (s : Shared) (σ : St) (H : Hp) (x : V) (xs : List V) (v : Value) (us : List Value) (Q : VK), Inv X pins σ H s → RelV x v → Vals xs us → r x xs H Q →
    wpAny (model X.prog X.w) X.A (call (.builtin id) (v :: us)) (EP X pins σ Q) X.xe s
section
variable {X : Cx} {a b : Expr} {ta tb : TE} {pos : Pos}
theorem pe_ix {r : R2} (hr : IxR X r) (ha : PE X a ta) (hb : PE X b tb) (hs : PlainIx b) : PE X (.Subscript a b pos) (tOp r ta tb) := by
  intro pins s σ H Q I h
  exact Subscript_ (binT ha hb I h fun v u s2 x y H2 I2 rx ry q => hr a b pins s2 σ H2 x y v u Q I2 rx ry q (hs _ _))
noncomputable def rIxL (K : PySem.W.Frag) : R2 := fun x y H Q => ∃ p xs i v, x = .ref p ∧ y = .int i ∧ SqL K H p xs ∧ atI xs i = some v ∧ Q v H
noncomputable def rIxT (K : PySem.W.Frag) : R2 := fun x y H Q => ∃ p xs i v, x = .ref p ∧ y = .int i ∧ SqT K H p xs ∧ atI xs i = some v ∧ Q v H
theorem ix_list : IxR X (rIxL X.K) := by
  intro value slice pins s σ H x y v u Q I rx ry h hs
  obtain ⟨p, xs, i, z, rfl, rfl, hq, he, q⟩ := h
  cases rx
  obtain ⟨t, rfl⟩ := ry
  obtain ⟨its, r, pl, hz⟩ := I.list hq
  obtain ⟨j, h1, h2, h3, h4, h5⟩ := atI_get he
  obtain ⟨w, ew, rw'⟩ := r.get h2
  have hl := r.length
  have hn := line63
  have fin : EP X pins σ Q w s := ⟨z, H, I, rw', q⟩
  by_cases h0 : 0 ≤ i
  · have hj : i.toNat = j := by
      rw [seqIndex_of h0 h5] at h1
      exact Option.some.inj h1
    exact item_listR pl.isList h0 (by (clear I hq he q hs r pl h1 h2 h3 h4 ew rw' fin h0 hj; omega)) (by rw [hj]; simpa using ew) fin hs
  · have hj : (i + (its.toArray.size : Int)).toNat = j := by
      rw [seqIndex_neg (by (clear I hq he q hs r pl hz h1 h2 h3 h4 h5 ew rw' hl hn fin; omega)) h4] at h1
      rw [List.size_toArray, ← hl]
      exact Option.some.inj h1
    exact subscriptTail_builtinR (x := w) pl.isList.typeIs slot_list_getitem.lookup
      (wpAny_getItem_list_neg (Q := fun r s' => r = w ∧ EP X pins σ Q r s') pl.isList (by (clear I hq he q hs r pl hz h1 h2 h3 h4 h5 ew rw' hl hn fin hj; omega)) (by rw [List.size_toArray] <;> (clear I hq he q hs r pl hz h1 h2 h3 h5 ew rw' hn fin h0 hj; omega)) (by (clear I hq he q hs r pl h1 h2 h3 h5 ew rw' fin h0 hj; omega)) (by rw [hj]; simpa using ew) ⟨rfl, fin⟩) hs
theorem ix_tup : IxR X (rIxT X.K) := by
  intro value slice pins s σ H x y v u Q I rx ry h hs
  obtain ⟨p, xs, i, z, rfl, rfl, hq, he, q⟩ := h
  cases rx
  obtain ⟨t, rfl⟩ := ry
  obtain ⟨its, r, pl, hz⟩ := I.tuple hq
  obtain ⟨j, h1, h2, h3, h4, h5⟩ := atI_get he
  obtain ⟨w, ew, rw'⟩ := r.get h2
  have hl := r.length
  have hn := line63
  have fin : EP X pins σ Q w s := ⟨z, H, I, rw', q⟩
  exact subscriptTail_builtinR (x := w) pl.typeIs slot_tuple_getitem.lookup
    (getItem_tuple (j := j) (Q := fun r s' => r = w ∧ EP X pins σ Q r s') pl (by (clear I hq he q hs r pl h1 h2 h5 ew rw' fin; omega)) (by (clear I hq he q hs r pl h1 h2 h4 ew rw' fin; omega)) (by rw [List.size_toArray, ← hl]; exact h1) (by simpa using ew) ⟨rfl, fin⟩) hs
theorem mapSeq_set (its : List Value) (n j : Nat) (u : Value) : Obj.mapSeq (·.setIfInBounds j u) { cls := .type "list", data := .seq its.toArray n } = { cls := .type "list", data := .seq (its.set j u).toArray n } := by
  simp [Obj.mapSeq]
theorem Inv.lst {pins : List (Addr × Obj)} {σ : St} {H : Hp} {s : Shared} {p : Addr} {xs : List V} (I : Inv X pins σ H s) (h : H p = some (.lst xs)) :
    ∃ (its : List Value) (n : Nat), Vals xs its ∧ s.heap.get? p = some { cls := .type "list", data := .seq its.toArray n } ∧ xs.length ≤ sizeLine := by
  obtain ⟨z, its, n, r, e⟩ := I.hok p _ h
  exact ⟨its, n, r, e, z⟩
theorem Inv.lstUpd {pins : List (Addr × Obj)} {σ : St} {H : Hp} {s : Shared} {p : Addr} {xs ys : List V} {its its' : List Value} {n n' : Nat} {f : Obj → Obj} (I : Inv X pins σ H s) (h : H p = some (.lst xs))
    (ho : s.heap.get? p = some { cls := .type "list", data := .seq its.toArray n }) (hf : f { cls := .type "list", data := .seq its.toArray n } = { cls := .type "list", data := .seq its'.toArray n' }) (r : Vals ys its') (hz : ys.length ≤ sizeLine) (t : Nat) :
    Inv X pins σ (upd H p (.lst ys)) { s with heap := s.heap.update p f, toks := t } := by
  have e : (s.heap.update p f).get? p = some { cls := .type "list", data := .seq its'.toArray n' } := by
    rw [Heap.get?_update_self f ho (by rw [hf] <;> rfl), hf]
  refine I.write (x := p) (e := p) (by rw [h]; trivial) (.inl rfl) (fun b u hb q => (Heap.get?_update_other _ _ (Ne.symm hb)).trans q) ⟨_, e⟩ ?_
  exact ⟨hz, its', n', r, e⟩
noncomputable def rSetL : V → V → V → Hp → (Hp → Prop) → Prop := fun o i v H Q => ∃ p xs k j, o = .ref p ∧ i = .int k ∧ H p = some (.lst xs) ∧ ixN xs.length k = some j ∧ Q (upd H p (.lst (xs.set j v)))
theorem set_list : PSet X rSetL := by
  intro pins s σ H o i v ov iv u Q I ro ri rv h
  obtain ⟨p, xs, k, j, rfl, rfl, hp, hj, q⟩ := h
  cases ro
  obtain ⟨t, rfl⟩ := ri
  obtain ⟨its, n, r, ho, hz⟩ := I.lst hp
  obtain ⟨h1, h2, h3, h4⟩ := ixN_seq hj
  have hl := r.length
  have hn := line63
  have I' : Inv X pins σ (upd H p (.lst (xs.set j v))) { s with heap := s.heap.update p (Obj.mapSeq (·.setIfInBounds j u)) } :=
    I.lstUpd hp ho (mapSeq_set its n j u) (r.set rv j) (by rw [List.length_set]; exact hz) s.toks
  by_cases h0 : 0 ≤ k
  · have hk : k.toNat = j := by
      rw [seqIndex_of h0 h4] at h1
      exact Option.some.inj h1
    exact PySem.W.ki_setAt ho h0 (by (clear I rv hp hj q r ho h1 h2 h3 I' h0 hk; omega)) (by rw [List.size_toArray, ← hl]; exact h4) (by rw [hk]; exact ⟨_, I', q⟩)
  · have hk : (k + (its.toArray.size : Int)).toNat = j := by
      rw [seqIndex_neg (by (clear I rv hp hj q r ho hz h1 h2 h3 h4 hl hn I'; omega)) h3] at h1
      rw [List.size_toArray, ← hl]
      exact Option.some.inj h1
    exact PySem.W.ki_setBack ho (by (clear I rv hp hj q r ho hz h1 h2 h3 h4 hl hn I' hk; omega)) (by rw [List.size_toArray, ← hl]; exact h3) (by (clear I rv hp hj q r ho h1 h2 h4 I' h0 hk; omega)) (by rw [hk]; exact ⟨_, I', q⟩)
theorem slice_bounds (lo hi : Option Int) (n : Nat) : (sliceBounds lo hi none n).1 = ((HT.sIx n 0 lo : Nat) : Int) ∧ (sliceBounds lo hi none n).2.1 = ((HT.sIx n n hi : Nat) : Int) ∧ (sliceBounds lo hi none n).2.2 = 1 := by
  refine ⟨?_, ?_, rfl⟩
  · cases lo with
    | none => simp [sliceBounds, HT.sIx]
    | some i =>
      simp only [sliceBounds, HT.sIx, Option.getD_none, show (1 : Int) > 0 by decide, if_true]
      by_cases h : i < 0
      · simp only [h, if_true] <;> omega
      · simp only [h, if_false] <;> omega
  · cases hi with
    | none => simp [sliceBounds, HT.sIx]
    | some i =>
      simp only [sliceBounds, HT.sIx, Option.getD_none, show (1 : Int) > 0 by decide, if_true]
      by_cases h : i < 0
      · simp only [h, if_true] <;> omega
      · simp only [h, if_false] <;> omega
theorem slicePick_cut (its : List Value) (lo hi : Option Int) : slicePick its.toArray lo hi none = ((its.drop (HT.sIx its.length 0 lo)).take (HT.sIx its.length its.length hi - HT.sIx its.length 0 lo)).toArray := by
  obtain ⟨h1, h2, h3⟩ := slice_bounds lo hi its.toArray.size
  unfold slicePick
  rw [h1, h2, h3]
  simp only [sliceRange_one, pick_run, List.size_toArray] <;> rfl
noncomputable def rSlL (K : PySem.W.Frag) : V → Option Int → Option Int → Hp → VK → Prop := fun x lo hi H Q => ∃ a xs, x = .ref a ∧ SqL K H a xs ∧ ∀ p, H p = none → Q (.ref p) (upd H p (.lst (cutV xs lo hi)))
theorem sl_list : SlR X (rSlL X.K) := by
  intro pins s σ H x v vl vu lo hi sl Q I rx hs pl pu h
  obtain ⟨a, xs, rfl, hx, q⟩ := h
  cases rx
  obtain ⟨its, r, ht, hz⟩ := I.list hx
  have hlen := r.length
  refine ⟨"list", _, slot_list_getitem.lookup, ht.isList.typeIs, ?_⟩
  refine wpAny_getItem_list_slice ht.isList hs pl pu .none (by simp) ?_ (by rw [List.size_toArray] <;> (clear I hs pl pu hx q r ht; omega))
  rw [slicePick_cut, ← hlen]
  refine ⟨.ref s.heap.objs.size, _, I.laid (t' := s.toks) (o := .lst (cutV xs lo hi)) (fun b ob q => Heap.get?_push_of_some _ q) (Nat.le_refl _) ?_, rfl, q _ (I.hok.fresh (Nat.le_refl _))⟩
  exact ⟨Nat.le_trans (cutV_length xs lo hi) hz, _, 0, (r.drop (HT.sIx xs.length 0 lo)).take (HT.sIx xs.length xs.length hi - HT.sIx xs.length 0 lo), Heap.get?_push_size _ rfl⟩
theorem call_len_seq : CallR X (.builtin "len") (fun xs H Q => ∃ p ys, xs = [.ref p] ∧ (SqL X.K H p ys ∨ SqT X.K H p ys) ∧ Q (.int ys.length) H) := by
  intro pins s σ H xs us Q I r h
  obtain ⟨p, ys, rfl, hq, q⟩ := h
  obtain ⟨u, rfl, rx⟩ := vals1 r
  cases rx
  have hn := line63
  rcases hq with hq | hq
  · obtain ⟨its, r', pl, hz⟩ := I.list hq
    have hlen := r'.length
    exact Calls.call_len_list pl.isList (by simp only [List.size_toArray] <;> (clear I q r hq r' pl; omega)) ⟨.int ys.length, H, I.tok _, ⟨s.toks + 1, by rw [List.size_toArray, hlen]⟩, q⟩
  · obtain ⟨its, r', pl, hz⟩ := I.tuple hq
    have hlen := r'.length
    exact len_tuple pl (by simp only [List.size_toArray] <;> (clear I q r hq r' pl; omega)) ⟨.int ys.length, H, I.tok _, ⟨s.toks + 1, by rw [List.size_toArray, hlen]⟩, q⟩
theorem call_list_of : CallR X (.type "list") (fun xs H Q => ∃ p ys, xs = [.ref p] ∧ (SqL X.K H p ys ∨ SqT X.K H p ys) ∧ ∀ l, H l = none → Q (.ref l) (upd H l (.lst ys))) := by
  intro pins s σ H xs us Q I r h
  obtain ⟨p, ys, rfl, hq, q⟩ := h
  obtain ⟨u, rfl, rx⟩ := vals1 r
  cases rx
  have fin : ∀ (its : List Value), Vals ys its → ys.length ≤ sizeLine → ∀ (h' : Heap) (c' : Nat), (∀ b o', s.heap.get? b = some o' → h'.get? b = some o') →
      h'.get? s.heap.objs.size = some { cls := .type "list", dict := none, data := .seq its.toArray c', slots := #[] } → EP X pins σ Q (.ref s.heap.objs.size) { s with heap := h' } := fun its r' hz h' c' kp e =>
    ⟨.ref s.heap.objs.size, _, I.laid (t' := s.toks) kp (Nat.le_refl _) (show ObjOk X.prog X.w _ h' _ (.lst ys) from ⟨hz, its, c', r', e⟩), rfl, q _ (I.hok.fresh (Nat.le_refl _))⟩
  rcases hq with hq | hq
  · obtain ⟨its, r', pl, hz⟩ := I.list hq
    have hlen := r'.length
    obtain ⟨o, ho, hc, n, hd⟩ := pl.isList
    exact call_list_seq p (.inl rfl) ho hc hd (fun h' c' kp e => fin its r' hz h' c' kp e) (by simp only [List.size_toArray] <;> (clear I q r fin hq r' pl ho hc hd; omega))
  · obtain ⟨its, r', pl, hz⟩ := I.tuple hq
    have hlen := r'.length
    obtain ⟨o, ho, hc, n, hd⟩ := pl
    exact call_list_seq p (.inr rfl) ho hc hd (fun h' c' kp e => fin its r' hz h' c' kp e) (by simp only [List.size_toArray] <;> (clear I q r fin hq r' ho hc hd; omega))
theorem call_tuple_of : CallR X (.type "tuple") (fun xs H Q => ∃ p ys, xs = [.ref p] ∧ ((SqL X.K H p ys ∧ ∀ l, H l = none → Q (.ref l) (upd H l (.tup ys))) ∨ (SqT X.K H p ys ∧ Q (.ref p) H))) := by
  intro pins s σ H xs us Q I r h
  obtain ⟨p, ys, rfl, h⟩ := h
  obtain ⟨u, rfl, rx⟩ := vals1 r
  cases rx
  rcases h with ⟨hq, q⟩ | ⟨hq, q⟩
  · obtain ⟨its, r', pl, hz⟩ := I.list hq
    have hlen := r'.length
    refine call_tuple_list pl.isList (fun h' kp => ?_) (by simp only [List.size_toArray] <;> (clear I r hq q r' pl; omega))
    have I1 : Inv X pins σ H { s with heap := h' } := I.kept (t' := s.toks) kp
    have I2 : Inv X pins σ (upd H h'.objs.size (.tup ys)) { s with heap := h'.push { cls := .type "tuple", data := .seq its.toArray } } :=
      I1.laid (t' := s.toks) (fun b o e => Heap.get?_push_of_some _ e) (Nat.le_refl _) (show ObjOk X.prog X.w _ _ _ (.tup ys) from ⟨hz, its, r', IsTup.new _ _⟩)
    exact ⟨.ref h'.objs.size, _, I2, rfl, q _ (I1.hok.fresh (Nat.le_refl _))⟩
  · obtain ⟨its, r', pl, hz⟩ := I.tuple hq
    exact call_tuple_same pl ⟨.ref p, H, I, rfl, q⟩
noncomputable def tyV (K : PySem.W.Frag) (T : String) (x : V) (H : Hp) : Prop := match x with
  | .str _ => T = "str"
  | .int _ => T = "int"
  | .ref p => (T = "list" ∧ ∃ xs, SqL K H p xs) ∨ (T = "tuple" ∧ ∃ o, K.lookup p = some o ∧ o.cls = .type "tuple" ∧ o.dict = none) ∨
      (T = "dict" ∧ ((∃ kvs, H p = some (.dK kvs)) ∨ ∃ kvs, H p = some (.dT kvs))) ∨ (T = "set" ∧ ∃ S n, H p = some (.set S n))
  | _ => False
theorem tyV_is {pins : List (Addr × Obj)} {σ : St} {H : Hp} {s : Shared} {T : String} {x : V} {v : Value} (I : Inv X pins σ H s) (r : RelV x v) (ty : tyV X.K T x H) :
    s.TypeIs v T ∧ ∀ a, v = .ref a → ∃ ob, s.heap.get? a = some ob ∧ ob.dict = none := by
  cases x with
  | str z =>
    obtain ⟨t, rfl⟩ := r
    cases (show T = "str" from ty)
    exact ⟨typeIs_str s z t, fun _ e => nomatch e⟩
  | int i =>
    obtain ⟨t, rfl⟩ := r
    cases (show T = "int" from ty)
    exact ⟨typeIs_int s i t, fun _ e => nomatch e⟩
  | ref p =>
    cases r
    rcases ty with ⟨rfl, xs, hq⟩ | ⟨rfl, o, hk, hc, hd⟩ | ⟨rfl, hk⟩ | ⟨rfl, S, n, hk⟩
    · obtain ⟨its, _, pl, _⟩ := I.list hq
      refine ⟨pl.isList.typeIs, fun a e => ?_⟩
      cases e
      obtain ⟨o, n, e, c, hd, _⟩ := pl
      exact ⟨o, e, hd⟩
    · refine ⟨⟨o, I.kIn p o hk, hc⟩, fun a e => ?_⟩
      cases e
      exact ⟨o, I.kIn _ o hk, hd⟩
    · have z : ∃ o, s.heap.get? p = some o ∧ o.ExactDict := by
        rcases hk with ⟨kvs, hk⟩ | ⟨kvs, hk⟩
        · obtain ⟨_, _, _, _, o, _, _, e, ex, _⟩ := I.hok p _ hk
          exact ⟨o, e, ex⟩
        · obtain ⟨_, _, _, _, o, _, _, e, ex, _⟩ := I.hok p _ hk
          exact ⟨o, e, ex⟩
      obtain ⟨o, e, ex⟩ := z
      refine ⟨⟨o, e, ex.1⟩, fun a e2 => ?_⟩
      cases e2
      exact ⟨o, e, ex.2.1⟩
    · obtain ⟨o, _, _, _, e, ex, _⟩ := I.hok p _ hk
      refine ⟨⟨o, e, ex.1⟩, fun a e2 => ?_⟩
      cases e2
      exact ⟨o, e, ex.2.1⟩
  | _ => exact False.elim ty
noncomputable def tBM0 (K : PySem.W.Frag) (T : String) (r : V → List V → Hp → VK → Prop) (to : TE) : TE := fun σ H Q => to σ H fun x H1 => tyV K T x H1 ∧ r x [] H1 Q
noncomputable def tBM (K : PySem.W.Frag) (T : String) (r : V → List V → Hp → VK → Prop) (to : TE) (t : TA) : TE := fun σ H Q => to σ H fun x H1 => tyV K T x H1 ∧ t σ H1 fun xs H2 => r x xs H2 Q
variable {o e : Expr} {es : List Expr} {to : TE} {t : TA} {name : Str} {apos cpos : Pos} {T id : String} {r : V → List V → Hp → VK → Prop}
theorem pe_bm0 (pa : PlainAttrs T) (slot : Slot T name id) (hty : typeOf (.builtin id) = pure (.type "method_descriptor")) (hm : MtR X id r) (ho : PE X o to)
    (hbase : attributeBase o name X.env (eval o X.env) = eval o X.env := by rfl) (hline : (apos.endLine == cpos.line) = true := by rfl) : PE X (.Call (.Attribute o name apos) [] [] cpos) (tBM0 X.K T r to) := by
  intro pins s σ H Q I h
  refine wpAny_Call_method0_late hbase hline (thn (ho pins s σ H _ I h) fun v s1 ⟨x, H1, I1, r1, ty, q1⟩ => ?_)
  obtain ⟨h1, h2⟩ := tyV_is I1 r1 ty
  exact ⟨T, id, pa, slot, hty, h1, h2, Calls.callWith_builtin rfl (PySem.evalArgs_none (hm pins s1 σ H1 x [] v [] Q I1 r1 .nil q1))⟩
theorem pe_bm (pa : PlainAttrs T) (slot : Slot T name id) (hty : typeOf (.builtin id) = pure (.type "method_descriptor")) (hm : MtR X id r) (ho : PE X o to) (ha : PA X (e :: es) t)
    (hbase : attributeBase o name X.env (eval o X.env) = eval o X.env := by rfl)
    (hfew : ((backTo cpos (starEach (e :: es) X.env)).all (fun x => !x.1) && (backToKw cpos (keywordEach [] X.env)).all (fun x => x.1.isSome)
      && decide ((e :: es).length + ([] : List Keyword).length + (if ([] : List Keyword).isEmpty then 0 else 1) < 30)) = true := by rfl)
    (hline : (apos.endLine == cpos.line) = true := by rfl) (hs : starEach (e :: es) X.env = (false, eval e X.env) :: starEach es X.env := by rfl) (hplain : (backTo cpos (starEach es X.env)).any (·.1) = false := by rfl) :
    PE X (.Call (.Attribute o name apos) (e :: es) [] cpos) (tBM X.K T r to t) := by
  intro pins s σ H Q I h
  refine wpAny_Call_method_late hbase hfew hline rfl (thn (ho pins s σ H _ I h) fun v s1 ⟨x, H1, I1, r1, ty, q1⟩ => ?_)
  obtain ⟨h1, h2⟩ := tyV_is I1 r1 ty
  refine ⟨T, id, pa, slot, hty, h1, h2, ?_⟩
  have hA := ha cpos pins s1 σ H1 _ I1 q1
  rw [hs] at hA ⊢
  refine Calls.callWith_builtin (by show (false || (backTo cpos (starEach es X.env)).any (·.1)) = false; rw [hplain] <;> rfl) (Calls.evalArgs_plain ?_)
  exact thn hA fun us s2 ⟨vs, H2, I2, r2, q2⟩ => hm pins s2 σ H2 x vs v us Q I2 r1 r2 q2
end
end L2
namespace L2
open PySem PySem.Spec PyProof.Rows
noncomputable def MtM (X : Cx) (id : String) (r : V → List V → Hp → VK → Prop) : Prop :=
  ∀ (pins : List (Addr × Obj)) (s : Shared) (σ : St) (H : Hp) (x : V) (xs : List V) (v : Value) (us : List Value) (Q : VK), Inv X pins σ H s → RelV x v → Vals xs us → r x xs H Q →
    wpAny (model X.prog X.w) X.A (call (.builtin id) (v :: us)) (EP X pins σ Q) X.xe s
theorem Vals.one : ∀ {x : V} {us : List Value}, Vals [x] us → ∃ u, us = [u] ∧ RelV x u
  | _, _, .cons r .nil => ⟨_, rfl, r⟩
theorem Vals.zero : ∀ {us : List Value}, Vals [] us → us = []
  | _, .nil => rfl
theorem Vals.dropLast {xs : List V} {us : List Value} (h : Vals xs us) : Vals xs.dropLast us.dropLast := by
  induction h with
  | nil => exact .nil
  | cons r t ih =>
    cases t with
    | nil => exact .nil
    | cons q t' => exact .cons r ih
theorem Vals.rep {xs : List V} {us : List Value} (h : Vals xs us) : ∀ k : Nat, Vals (List.replicate k xs).flatten (List.replicate k us).flatten
  | 0 => .nil
  | k + 1 => by
    rw [List.replicate_succ, List.replicate_succ, List.flatten_cons, List.flatten_cons]
    exact Vals.append h (Vals.rep h k)
theorem erase_last {α : Type} (l : List α) : l.eraseIdx (l.length - 1) = l.dropLast := by
  induction l with
  | nil => rfl
  | cons a r ih =>
    cases r with
    | nil => rfl
    | cons b r =>
      have e : (a :: b :: r).length - 1 = ((b :: r).length - 1) + 1 := by
        have h1 : (a :: b :: r).length = r.length + 2 := rfl
        have h2 : (b :: r).length = r.length + 1 := rfl
        assumption
      rw [e, List.eraseIdx_cons_succ, ih]
      all_goals rfl
theorem foldl_rep (its : List Value) : ∀ (k : Nat) (acc : List Value),
    List.foldl (fun x1 x2 => x1 ++ x2) acc.toArray (List.replicate k its.toArray) = (acc ++ (List.replicate k its).flatten).toArray
  | 0, acc => by simp
  | k + 1, acc => by
    have e : acc.toArray ++ its.toArray = (acc ++ its).toArray := by simp
    have e2 : (acc ++ its) ++ (List.replicate k its).flatten = acc ++ (List.replicate (k + 1) its).flatten := by
      rw [List.replicate_succ, List.flatten_cons, List.append_assoc]
    rw [← e2, ← foldl_rep its k (acc ++ its), ← e, List.replicate_succ, List.foldl_cons]
section
variable {X : Cx} {pins : List (Addr × Obj)} {σ : St} {H : Hp} {s : Shared} {l b : Addr} {xs ys zs : List V}
theorem Inv.lset {its its' : List Value} {n : Nat} {f : Array Value → Array Value} {t' : Nat} (I : Inv X pins σ H s) (hH : H l = some (.lst xs))
    (e : s.heap.get? l = some { cls := .type "list", data := .seq its.toArray n }) (hf : f its.toArray = its'.toArray) (hv : Vals ys its') (hz : ys.length ≤ sizeLine) :
    Inv X pins σ (upd H l (.lst ys)) { s with heap := s.heap.update l (Obj.mapSeq f), toks := t' } := by
  have q := PySem.IsL.update e f
  rw [hf] at q
  refine I.write (x := l) (e := l) (by rw [hH]; exact trivial) (.inl rfl) (fun b' u hb hu => (Heap.get?_update_other s.heap (Obj.mapSeq f) (Ne.symm hb)).trans hu) ⟨_, q⟩ ?_
  exact ⟨hz, its', _, hv, q⟩
theorem Inv.lnew {its : List Value} {t' : Nat} (I : Inv X pins σ H s) (hv : Vals ys its) (hz : ys.length ≤ sizeLine) :
    Inv X pins σ (upd H s.heap.objs.size (.lst ys)) { s with heap := s.heap.push { cls := .type "list", data := .seq its.toArray }, toks := t' } :=
  I.laid (fun _ _ q => Heap.get?_push_of_some _ q) (Nat.le_refl _) ⟨hz, its, 0, hv, Heap.get?_push_size _ rfl⟩
theorem Inv.fresh (I : Inv X pins σ H s) : H s.heap.objs.size = none := I.hok.fresh (Nat.le_refl _)
theorem Inv.lstM (I : Inv X pins σ H s) (hH : H l = some (.lst xs)) : xs.length ≤ sizeLine ∧ ∃ (its : List Value) (n : Nat), Vals xs its ∧ xs.length = its.length ∧ s.heap.get? l = some { cls := .type "list", data := .seq its.toArray n } := by
  obtain ⟨z, its, n, r, e⟩ := I.hok l _ hH
  exact ⟨z, its, n, r, r.length, e⟩
theorem notLongL {n : Nat} (h : n ≤ sizeLine) : Builtin.List.listTooLong n = false := by
  unfold Builtin.List.listTooLong
  exact decide_eq_false (by omega)
end
section
variable {X : Cx}
noncomputable def rAppend : V → List V → Hp → VK → Prop := fun x vs H Q => ∃ l xs y, x = .ref l ∧ vs = [y] ∧ H l = some (.lst xs) ∧ xs.length < sizeLine ∧ Q .non (upd H l (.lst (xs ++ [y])))
theorem mt_append : MtM X "list.append" rAppend := by
  intro pins s σ H x vs v us Q I rx rv h
  obtain ⟨l, xs, y, rfl, rfl, hH, hz, q⟩ := h
  cases rx
  obtain ⟨u, rfl, ru⟩ := rv.one
  obtain ⟨z, its, n, r, hl, e⟩ := I.lstM hH
  refine call_meets F.slot_list_append ⟨_, e, rfl⟩ F.entry_list_append (F.args_list_append_2 _ _) (PySem.list_append l its.toArray n u (by rw [List.size_toArray]; (clear I hH q ru rv z r e; omega))) ⟨e, ?_⟩
  refine ⟨.non, _, I.lset (its' := its ++ [u]) hH e (by simp) (r.append (.cons ru .nil)) ?_, rfl, q⟩
  rw [List.length_append, List.length_singleton]
  assumption
noncomputable def rPop : V → List V → Hp → VK → Prop := fun x vs H Q => ∃ l xs y, x = .ref l ∧ vs = [] ∧ H l = some (.lst xs) ∧ xs[xs.length - 1]? = some y ∧ Q y (upd H l (.lst xs.dropLast))
theorem mt_pop : MtM X "list.pop" rPop := by
  intro pins s σ H x vs v us Q I rx rv h
  obtain ⟨l, xs, y, rfl, rfl, hH, hy, q⟩ := h
  cases rx
  have hus := rv.zero
  subst hus
  obtain ⟨z, its, n, r, hl, e⟩ := I.lstM hH
  obtain ⟨u, hu, ru⟩ := r.get hy
  have hy' : its.toArray[its.toArray.size - 1]? = some u := by
    show its.toArray[its.length - 1]? = some u
    rw [← Array.getElem?_toList, ← hl]
    exact hu
  refine call_meets F.slot_list_pop ⟨_, e, rfl⟩ F.entry_list_pop (F.args_list_pop_1 _) (MeetsSeq.list_pop_last l its.toArray n u hy' (by rw [List.size_toArray]; (clear I hH hy q rv r e hu ru hy'; omega))) ⟨e, ?_⟩
  refine ⟨y, _, I.lset (its' := its.dropLast) hH e ?_ r.dropLast ?_, ru, q⟩
  · show its.toArray.eraseIdxIfInBounds (its.toArray.size - 1) = its.dropLast.toArray
    rw [List.size_toArray, List.eraseIdxIfInBounds_toArray, erase_last]
  · rw [List.length_dropLast]
    (clear I hH hy q rv r e hu ru hy'; omega)
noncomputable def rCat : R2 := fun x y H Q => ∃ l b xs zs, x = .ref l ∧ y = .ref b ∧ H l = some (.lst xs) ∧ H b = some (.lst zs) ∧ xs.length + zs.length ≤ sizeLine ∧ ∀ p, H p = none → Q (.ref p) (upd H p (.lst (xs ++ zs)))
theorem op_cat : OpR X (binaryOp .Add) rCat := by
  intro pins s σ H x y v u Q I rx ry h
  obtain ⟨l, b, xs, zs, rfl, rfl, hH, hB, hz, q⟩ := h
  cases rx
  cases ry
  obtain ⟨z, its, n, r, hl, e⟩ := I.lstM hH
  obtain ⟨z2, its2, n2, r2, hl2, e2⟩ := I.lstM hB
  refine PySem.P.add_list e e2 ?_ (by rw [List.size_toArray, List.size_toArray]; (clear I hH hB q z r e z2 r2 e2; omega))
  have ea : its.toArray ++ its2.toArray = (its ++ its2).toArray := by simp
  rw [ea]
  exact ⟨.ref _, _, I.lnew (t' := s.toks) (r.append r2) (by rw [List.length_append]; assumption), rfl, q _ I.fresh⟩
noncomputable def rRep : R2 := fun x y H Q => ∃ l k xs, x = .ref l ∧ y = .int k ∧ H l = some (.lst xs) ∧ -(2 ^ 63) ≤ k ∧ k < 2 ^ 63 ∧ xs.length * k.toNat ≤ sizeLine ∧
  ∀ p, H p = none → Q (.ref p) (upd H p (.lst (List.replicate k.toNat xs).flatten))
theorem len_rep {α : Type} (xs : List α) (k : Nat) : (List.replicate k xs).flatten.length = k * xs.length := by
  induction k with
  | zero => simp
  | succ k ih => rw [List.replicate_succ, List.flatten_cons, List.length_append, ih, Nat.succ_mul, Nat.add_comm]
theorem op_rep : OpR X (binaryOp .Mult) rRep := by
  intro pins s σ H x y v u Q I rx ry h
  obtain ⟨l, k, xs, rfl, rfl, hH, h1, h2, hz, q⟩ := h
  cases rx
  obtain ⟨t, rfl⟩ := ry
  obtain ⟨z, its, n, r, hl, e⟩ := I.lstM hH
  have hlen : its.toArray.size * k.toNat ≤ sizeLine := by rw [List.size_toArray, ← hl]; exact hz
  have hcap : ¬ its.toArray.size * k.toNat > (2 ^ 63 - 1) / 8 := by
    have : (sizeLine : Nat) ≤ (2 ^ 63 - 1) / 8 := by decide
    (clear I hH h1 h2 hz q z r hl e; omega)
  have hfit : ¬ (!Builtin.List.listFitsIndex k) = true := by
    rw [fitsIndex_both h1 h2]
    exact Bool.false_ne_true
  have hlong : ¬ Builtin.List.listTooLong (its.toArray.size * k.toNat) = true := by
    rw [notLongL hlen]
    exact Bool.false_ne_true
  have hnew : List.foldl (fun x1 x2 => x1 ++ x2) #[] (List.replicate (if its.toArray.isEmpty = true then 0 else k.toNat) its.toArray) = (List.replicate k.toNat its).flatten.toArray := by
    have f0 : ∀ m : Nat, List.foldl (fun x1 x2 => x1 ++ x2) #[] (List.replicate m its.toArray) = (List.replicate m its).flatten.toArray := fun m => by
      have := foldl_rep its m []
      rw [List.nil_append] at this
      exact this
    rw [f0]
    cases its with
    | nil => simp
    | cons a r' => rw [if_neg (by simp)]
  refine wpAny_binaryOp_repeat_ref (T := "list") (U := "int") (by decide) ⟨_, e, rfl⟩ (fun s' => typeIs_int s' k t) noFill_list_mul F.fills_int_mul F.slot_int_rmul repeat_list F.slot_int_index.lookup
    (call_meets F.slot_int_rmul (typeIs_int s k t) F.entry_int_rmul (F.args_int_rmul_2 _ _) (int___rmul___int_list k t l its.toArray n)
      ⟨e, rfl, ⟨_, e, rfl⟩, call_meets F.slot_list_mul ⟨_, e, rfl⟩ F.entry_list_mul (F.args_list_mul_2 _ _) (AutoListH.list___mul___list_int_3 l its.toArray n k t hfit hcap hlong) ⟨e, ?_⟩⟩)
  rw [hnew]
  exact ⟨.ref _, _, I.lnew (t' := s.toks) (r.rep k.toNat) (by rw [len_rep, Nat.mul_comm]; exact hz), rfl, q _ I.fresh⟩
end
section
variable {prog : Program} {w : World} {A : Around} {E : Value → Shared → Prop} {s : Shared}
set_option maxRecDepth 100000 in
end
section
variable {X : Cx}
end
end L2
namespace Att
open PySem PySem.W PySem.Calls PyProof.Rows
theorem ints_of_wellAll {P : Params} {h : Heap} : ∀ (ns : List Int) (vs : List Value), WellAll P h vs (ns.map WData.int) → IntsAre vs ns := by
  intro ns
  induction ns with
  | nil =>
    intro vs w
    rw [List.map_nil] at w
    cases w
    exact .nil
  | cons n ns ih =>
    intro vs w
    rw [List.map_cons] at w
    cases w with
    | cons a b =>
      cases a
      exact .cons _ _ (ih _ b)
theorem script_of {l : OpenLaw} {n : Nat} (hn : l.most = some n) {P : Params} {h : Heap} {args : List WData} {vals : List Value}
    (hpre : l.row.toRowW.claim.pre args = true) (hwl : WellAll P h vals args) :
    ∃ a vs ns, vals = [Value.ref a] ∧ args = [WData.list (ns.map WData.int)] ∧ h.get? a = some { cls := .type "list", data := .seq vs.toArray } ∧ IntsAre vs ns ∧ ns.length ≤ n := by
  have hsh : WShape.hasAll [] args [.list .int] = true := (pre_splitW hpre).1
  have hc : l.pre.holds [] { args := args } = true := (pre_splitW hpre).2
  obtain ⟨d, r, rfl, h1, h2⟩ := hasAllW_cons hsh
  obtain rfl := hasAllW_nil h2
  obtain ⟨xs, rfl, h3⟩ := hasW_list h1
  obtain ⟨ns, rfl⟩ := items_int h3
  have hlen : ns.length ≤ n := by
    unfold OpenLaw.pre at hc
    have h4 : (WTm.not (.lt (.lit (.int (n : Int))) (.len (.arg 0)))).holds [] { args := [.list (ns.map .int)] } = true := by
      have h4 := (holds_andW hc).1
      rw [hn] at h4
      exact h4
    have h5 := condW_of h4 (w_not (w_lt w_lit (w_len_list (w_arg rfl))))
    rw [List.length_map] at h5
    refine Nat.le_of_not_lt fun q => ?_
    have q' : (n : Int) < ((ns.length : Nat) : Int) := by (clear hn h2 h3 h1 hpre hwl hsh hc h4 h5; omega)
    first
      | (rw [decide_eq_true q'] at h5; exact absurd h5 (by decide))
      | (simp at h5; omega)
  cases hwl with
  | cons w1 w2 =>
    cases w2
    cases w1 with
    | list ho hall => exact ⟨_, _, ns, rfl, rfl, ho, ints_of_wellAll ns _ hall, hlen⟩
theorem post_true (l : OpenLaw) (args : List WData) : l.row.toRowW.claim.post args (.bool true) args = true :=
  postW_of (r := l.row.toRowW) (X := (true == true))
    (show WShape.has [] (.bool true) .bool = true by first | rfl | decide | simp [WShape.has, WShape.arms, WShape.armsAll])
    (show (WTm.eq .res (.lit (.bool true))).value [] { args := args, res := some (.bool true), after := args } = some (.bool (true == true)) from w_eq_bool (w_res rfl) w_lit) rfl
section
variable {prog : Program} {w : World} {A : Around} {E : Value → Shared → Prop} {s : Shared} {K : Frag}
end
end Att
namespace L2
open PySem PySem.Spec PyProof.Rows
theorem vals_ints : ∀ {vs : List Value} {ns : List Int}, IntsAre vs ns → Vals (ns.map V.int) vs
  | _, _, .nil => .nil
  | _, _, .cons n t h => .cons ⟨t, rfl⟩ (vals_ints h)
noncomputable def Only (H : Hp) : Prop := ∀ b, H b = none ∨ ∃ o xs, H b = some (.frz o (.lst xs))
theorem law_call {P : Program} {w : World} {K : PySem.W.Frag} {mg mb : Str → Option Value} {CX : CXT} {k : Nat} {fa a : Addr} {fd : FuncData} {x : Str} {sp : Sp} {s₁ : Shared} {vs : List Value} {ns : List Int}
    (KX : K.In s₁.heap) (hns : s₁.heap.Ns mainGlobals mg) (hb : s₁.heap.Ns builtinsNs mb) (hbb : ∀ x : Str, x ≠ "__name__" → mb x = bootBuiltins x) (hlim : s₁.heap.NoLimit) (hg : s₁.gens = #[])
    (ha : s₁.heap.get? a = some { cls := .type "list", data := .seq vs.toArray }) (hi : IntsAre vs ns) (hl : ns.length ≤ sizeLine) (hr : Room k callerA)
    (F : ∀ base : Heap, K.In base → base.Ns mainGlobals mg → FnOk P w K mg base CX k fa fd [x] sp) (hbind : ∀ (s : Shared) (u : Value), BindsTo s fd ⟨[u], []⟩ [(x, u)])
    (hsp : ∀ H : Hp, Only H → SqL K H a (ns.map V.int) → sp [.ref a] H (fun v _ => v = .bl true) fun _ _ _ => False)
    (hCX : ∀ H e s', CX [] H s₁ (fun _ _ _ => False) e s' → False) :
    codeAny (model P w) callerA (.call (.ref fa) ⟨[.ref a], []⟩) (fun r s' => r = .ok (.ret (.bool true)) ∧ OldK s₁.heap s'.heap ∧ s'.os = s₁.os ∧ AllBare s'.gens) s₁ := by
  have rv := vals_ints hi
  have lenV := hi.length
  -- from an abstract heap in which nothing but the script may be tracked
  have core : ∀ H : Hp, Only H → SqL K H a (ns.map V.int) → HOk P w H s₁.heap → (∀ b, H b ≠ none → b = a) → (H a ≠ none → K.lookup a = none) →
      codeAny (model P w) callerA (.call (.ref fa) ⟨[.ref a], []⟩) (fun r s' => r = .ok (.ret (.bool true)) ∧ OldK s₁.heap s'.heap ∧ s'.os = s₁.os ∧ AllBare s'.gens) s₁ := by
    intro H hO hS hok hA hK
    have base_of : ∀ {b : Addr} {o : Obj}, s₁.heap.get? b = some o → H b = none → (hidT s₁.heap H).get? b = some o := fun e n => hidT_get e n
    have noA : ∀ {b : Addr} {o : Obj} {es : Array DictEntry} {ep : Nat}, s₁.heap.get? b = some o → o.data = .dict es ep → H b = none := fun {b o es ep} e d => by
      cases q : H b with
      | none => rfl
      | some u =>
        have e' : b = a := hA b (by rw [q]; simp)
        subst e'
        rw [ha] at e; cases e
        have d' : Data.seq vs.toArray _ = Data.dict es ep := d
        cases d'
    have nsK : ∀ {b : Addr} {m : Str → Option Value}, s₁.heap.Ns b m → (hidT s₁.heap H).Ns b m := fun {b m} ⟨o, es, ep, e, d, r⟩ => ⟨o, es, ep, base_of e (noA e d), d, r⟩
    have hKb : K.In (hidT s₁.heap H) := fun b o e => base_of (KX b o e) (by
      cases q : H b with
      | none => rfl
      | some u =>
        have e' : b = a := hA b (by rw [q]; simp)
        subst e'
        rw [hK (by rw [q]; simp)] at e; cases e)
    have hM : Mod K mg (hidT s₁.heap H) := ⟨hKb, nsK hns, ⟨mb, nsK hb, hbb⟩, let ⟨mc, h1, h2⟩ := hlim; ⟨mc, nsK h1, h2⟩⟩
    have e0 : Env0 P w K mg (hidT s₁.heap H) callerA [] s₁ H := ⟨rfl, hM, fun b o e => of_hidT e, Nat.le_of_eq (hidT_size _ _), trivial, fun b hb => absurd (show b ∈ ([] : List Addr) from hb) (by simp), hok, .of_eq hg⟩
    refine codeAny_mono ((F _ hKb (nsK hns)).run callerA [] s₁ H ⟨[.ref a], []⟩ [.ref a] [.ref a] _ _ hr e0 (hbind s₁ (.ref a)) (.cons rfl .nil) (hsp H hO hS)) fun r s' h => ?_
    cases r with
    | error e => exact (hCX H e s' h).elim
    | ok fl =>
      cases fl with
      | next => exact False.elim h
      | brk => exact False.elim h
      | cont => exact False.elim h
      | ret u =>
        obtain ⟨v, H', os, bare, un, hok', r', q⟩ := h
        have q' : v = .bl true := q
        subst q'
        obtain rfl : u = Value.bool true := r'
        refine ⟨rfl, OldK.of_keep fun b o e => ?_, os, bare⟩
        cases q : H b with
        | none => exact un.keep b o e q (by intro z; exact absurd (show b ∈ ([] : List Addr) from z) (by simp)) (by simp)
        | some u =>
          rcases hO b with z | ⟨ob, xs, z⟩
          · rw [q] at z; cases z
          · have z2 := un.frzs b ob _ z
            obtain ⟨e1, _⟩ := hok b _ z
            obtain ⟨e2, _⟩ := hok' b _ z2
            rw [e] at e1; cases e1
            exact e2
  cases hk : K.lookup a with
  | some o =>
    -- the script is one of the module's own objects
    have e := KX a o hk
    rw [ha] at e
    cases e
    refine core (fun _ => none) (fun _ => .inl rfl) (.inr ⟨_, vs.toArray, _, hk, rfl, rfl, rfl, by rw [List.size_toArray, lenV]; exact hl, by simpa using rv⟩) (fun b u z => by have z' : (none : Option HO) = some u := z; cases z') (fun b z => absurd rfl z) fun z => absurd rfl z
  | none =>
    refine core (fun b => if b = a then some (.frz { cls := .type "list", data := .seq vs.toArray } (.lst (ns.map V.int))) else none) (fun b => ?_) (.inl (.inr ⟨{ cls := .type "list", data := .seq vs.toArray }, if_pos rfl⟩)) (fun b u z => ?_) (fun b z => ?_) fun _ => hk
    · by_cases hb : b = a
      · exact .inr ⟨_, _, if_pos hb⟩
      · exact .inl (if_neg hb)
    · by_cases hb : b = a
      · have z' := (if_pos hb).symm.trans z
        cases z'
        subst hb
        exact ⟨ha, by rw [List.length_map]; exact hl, vs, _, rv, ha⟩
      · have z' := (if_neg hb).symm.trans z
        cases z'
    · by_cases hb : b = a
      · exact hb
      · exact absurd (if_neg hb) z
end L2
namespace L2
open PySem PySem.Spec PyProof.Rows
end L2
namespace L2
open PySem PySem.Spec PyProof.Rows
noncomputable def defArgs (s : Stmt) : Arguments := match s with
  | .FunctionDef _ a _ _ _ _ _ _ _ _ => a
  | _ => { posonlyargs := [], args := [], vararg := none, kwonlyargs := [], kw_defaults := [], kwarg := none, defaults := [] }
noncomputable def defBody (s : Stmt) : List Stmt := match s with
  | .FunctionDef _ _ b _ _ _ _ _ _ _ => b
  | _ => []
noncomputable def defScope (s : Stmt) : Scope := match s with
  | .FunctionDef _ _ _ _ _ _ sc _ _ _ => sc
  | _ => { kind := .function, names := [], isGenerator := false, isCoroutine := false }
noncomputable abbrev CX0 : CXT := fun _ _ _ _ _ _ => False
noncomputable abbrev E0 : XK := fun _ _ _ => False
theorem pass0 {X : Cx} : Passes CX0 X E0 := fun _ _ _ _ _ _ _ h => h.elim
structure Fun (K : PySem.W.Frag) (x qual : Str) (st : Stmt) (f : Addr) (fd : FuncData) : Prop where
  ex : ∃ (oc : Value) (od : Option Addr) (kV doc pm : Value) (an : Option Addr) (cdv ct : Value) (osl : Array (Option Value)),
    fd = PySem.W.fnOf x qual (defArgs st) (defBody st) (defScope st) .none kV doc pm an cdv ct ∧ K.lookup f = some ⟨oc, od, .func fd, osl⟩ ∧ PySem.W.codeIn K cdv qual = true
  kp : PySem.W.keepIn K (.ref f) = true
section
variable {P : Program} {w : World} {K : PySem.W.Frag} {mg : Str → Option Value} {base : Heap}
theorem Fun.ok {x qual : Str} {st : Stmt} {f : Addr} {fd : FuncData} {N ps : List Str} {k : Nat} {sp : Sp} (F : Fun K x qual st f fd) (S : FnScope N ps (defScope st)) (len : ∀ vs H Q E, sp vs H Q E → vs.length = ps.length)
    (hbody : ∀ (cdv : Value) (A : Around) (outer : List Env) (s : Shared) (H : Hp) (vs : List V) (Q : VK) (E : XK), Room k (A.deeper (envOfC qual (defScope st) s.heap.objs.size f cdv)) → sp vs H Q E →
      ∃ t, PSs (cxOf CX0 P w K mg base N qual (defScope st) f cdv A outer s H E).nox (defBody st) t ∧ t { nx := fun _ H' => Q .non H', rt := Q } (start N vs) H) : FnOk P w K mg base CX0 (k + 1) f fd ps sp := by
  obtain ⟨oc, od, kV, doc, pm, an, cdv, ct, osl, rfl, lk, hcd⟩ := F.ex
  refine fn_of lk hcd S len fun A outer s H vs Q E hr hsp => ?_
  obtain ⟨t, h, q⟩ := hbody cdv A outer s H vs Q E hr hsp
  exact ⟨t, h.nox, q⟩
theorem Fun.binds {x qual : Str} {st : Stmt} {f : Addr} {fd : FuncData} {ps : List Str} (F : Fun K x qual st f fd)
    (h : ∀ (kV doc pm : Value) (an : Option Addr) (cdv ct : Value) (us : List Value), us.length = ps.length → bindArgs (PySem.W.fnOf x qual (defArgs st) (defBody st) (defScope st) .none kV doc pm an cdv ct) ⟨us, []⟩ = pure (ps.zip us)) : Binds K fd ps [] := by
  obtain ⟨oc, od, kV, doc, pm, an, cdv, ct, osl, rfl, lk, hcd⟩ := F.ex
  exact .all (h kV doc pm an cdv ct)
theorem fun_mk {x qual : Str} {st : Stmt} {f : Addr} {oc : Value} {od an : Option Addr} {osl : Array (Option Value)} {kV doc pm cdv ct : Value} (l : K.lookup f = some ⟨oc, od, .func (PySem.W.fnOf x qual (defArgs st) (defBody st) (defScope st) .none kV doc pm an cdv ct), osl⟩)
    (c : PySem.W.codeIn K cdv qual = true) (k : PySem.W.keepIn K (.ref f) = true) : Fun K x qual st f (PySem.W.fnOf x qual (defArgs st) (defBody st) (defScope st) .none kV doc pm an cdv ct) := ⟨⟨oc, od, kV, doc, pm, an, cdv, ct, osl, rfl, l, c⟩, k⟩
end
section
variable {X : Cx}
end
end L2
namespace L2
open PySem PySem.Spec PyProof.Rows
inductive W where
  | non | bl (b : Bool) | int (i : Int) | str (x : Str) | ref (a : Addr) | tup (xs : List W) | scr (ns : List Int)
inductive GO where
  | lst (ws : List W)
  | dct
  | exc (C : Addr)
  | dic (kvs : List (Key × W))
  | fdc (o : Obj) (us : List (Key × V)) (kvs : List (Key × W))
  | ins (C : Addr) (fs : List (Str × W))
  | tbl (ps : Array Value)
noncomputable abbrev Gp := Addr → Option GO
noncomputable def updG (G : Gp) (a : Addr) (g : GO) : Gp := fun b => if b = a then some g else G b
theorem updG_same {G : Gp} {a : Addr} {g : GO} : updG G a g a = some g := by unfold updG; rw [if_pos rfl]
theorem updG_ne {G : Gp} {a b : Addr} {g : GO} (h : b ≠ a) : updG G a g b = G b := by unfold updG; rw [if_neg h]
noncomputable def Scr (K : PySem.W.Frag) (H : Hp) (a : Addr) (ns : List Int) : Prop :=
  (∃ o, H a = some (.frz o (.lst (ns.map V.int)))) ∨
    ∃ (o : Obj) (its : Array Value) (n : Nat), K.lookup a = some o ∧ o.cls = .type "list" ∧ o.dict = none ∧ o.data = .seq its n ∧ its.size ≤ sizeLine ∧ Vals (ns.map V.int) its.toList
theorem Scr.sq {K : PySem.W.Frag} {H : Hp} {a : Addr} {ns : List Int} (h : Scr K H a ns) : SqL K H a (ns.map V.int) := by
  rcases h with ⟨o, h⟩ | h
  · exact .inl (.inr ⟨o, h⟩)
  · exact .inr h
structure TLe (H H1 : Hp) : Prop where
  tup : ∀ a xs, H a = some (.tup xs) → H1 a = some (.tup xs)
  frz : ∀ a o xs, H a = some (.frz o (.lst xs)) → H1 a = some (.frz o (.lst xs))
theorem TLe.refl (H : Hp) : TLe H H := ⟨fun _ _ h => h, fun _ _ _ h => h⟩
theorem TLe.trans {H H1 H2 : Hp} (a : TLe H H1) (b : TLe H1 H2) : TLe H H2 :=
  ⟨fun x xs h => b.tup x xs (a.tup x xs h), fun x o u h => b.frz x o u (a.frz x o u h)⟩
theorem TLe.new {H : Hp} {p : Addr} (hp : H p = none) (o : HO) : TLe H (upd H p o) :=
  ⟨fun _ _ h => by rw [upd_ne (ne_of_none h hp)]; exact h, fun _ _ _ h => by rw [upd_ne (ne_of_none h hp)]; exact h⟩
theorem TLe.lst {H : Hp} {p : Addr} {xs : List V} (hp : H p = some (.lst xs)) (o : HO) : TLe H (upd H p o) :=
  ⟨fun _ _ h => by rw [upd_ne (ne_of h hp (by intro z; cases z))]; exact h, fun _ _ _ h => by rw [upd_ne (ne_of h hp (by intro z; cases z))]; exact h⟩
mutual
inductive Rep (K : PySem.W.Frag) (H : Hp) : W → V → Prop where
  | non : Rep K H .non .non
  | bl (b : Bool) : Rep K H (.bl b) (.bl b)
  | int (i : Int) : Rep K H (.int i) (.int i)
  | str (x : Str) : Rep K H (.str x) (.str x)
  | ref (a : Addr) : Rep K H (.ref a) (.ref a)
  | tup {a : Addr} {ws : List W} {xs : List V} (h : H a = some (.tup xs)) (r : Reps K H ws xs) : Rep K H (.tup ws) (.ref a)
  | scr {a : Addr} {ns : List Int} (h : Scr K H a ns) : Rep K H (.scr ns) (.ref a)
inductive Reps (K : PySem.W.Frag) (H : Hp) : List W → List V → Prop where
  | nil : Reps K H [] []
  | cons {w : W} {v : V} {ws : List W} {vs : List V} (r : Rep K H w v) (rs : Reps K H ws vs) : Reps K H (w :: ws) (v :: vs)
end
section
variable {K : PySem.W.Frag} {H H1 : Hp}
theorem Scr.mono {a : Addr} {ns : List Int} (t : TLe H H1) (h : Scr K H a ns) : Scr K H1 a ns := by
  rcases h with ⟨o, h⟩ | h
  · exact .inl ⟨o, t.frz _ _ _ h⟩
  · exact .inr h
mutual
theorem Rep.mono (t : TLe H H1) : ∀ {w : W} {v : V}, Rep K H w v → Rep K H1 w v
  | _, _, .non => .non
  | _, _, .bl b => .bl b
  | _, _, .int i => .int i
  | _, _, .str x => .str x
  | _, _, .ref a => .ref a
  | _, _, .tup h r => .tup (t.tup _ _ h) (Reps.mono t r)
  | _, _, .scr h => .scr (h.mono t)
theorem Reps.mono (t : TLe H H1) : ∀ {ws : List W} {vs : List V}, Reps K H ws vs → Reps K H1 ws vs
  | _, _, .nil => .nil
  | _, _, .cons r rs => .cons (Rep.mono t r) (Reps.mono t rs)
end
theorem Reps.length : ∀ {ws : List W} {vs : List V}, Reps K H ws vs → ws.length = vs.length
  | _, _, .nil => rfl
  | _, _, .cons _ rs => congrArg (· + 1) rs.length
theorem Reps.append : ∀ {ws us : List W} {vs xs : List V}, Reps K H ws vs → Reps K H us xs → Reps K H (ws ++ us) (vs ++ xs)
  | _, _, _, _, .nil, s => s
  | _, _, _, _, .cons r rs, s => .cons r (rs.append s)
theorem Reps.take : ∀ {ws : List W} {vs : List V} (n : Nat), Reps K H ws vs → Reps K H (ws.take n) (vs.take n)
  | _, _, 0, _ => .nil
  | _, _, _ + 1, .nil => .nil
  | _, _, n + 1, .cons r rs => .cons r (rs.take n)
theorem Reps.drop : ∀ {ws : List W} {vs : List V} (n : Nat), Reps K H ws vs → Reps K H (ws.drop n) (vs.drop n)
  | _, _, 0, r => r
  | _, _, _ + 1, .nil => .nil
  | _, _, n + 1, .cons _ rs => rs.drop n
theorem Reps.get : ∀ {ws : List W} {vs : List V} {i : Nat} {w : W}, Reps K H ws vs → ws[i]? = some w → ∃ v, vs[i]? = some v ∧ Rep K H w v
  | _, _, _, _, .nil, e => by simp at e
  | _, _, 0, _, .cons r _, e => by simp at e; subst e; exact ⟨_, rfl, r⟩
  | _, _, i + 1, w, .cons _ rs, e => by
    obtain ⟨v, h1, h2⟩ := Reps.get (i := i) (w := w) rs (by simpa using e)
    exact ⟨v, by simpa using h1, h2⟩
theorem Reps.ints : ∀ ns : List Int, Reps K H (ns.map W.int) (ns.map V.int)
  | [] => .nil
  | n :: ns => .cons (.int n) (Reps.ints ns)
end
noncomputable abbrev bmV : List Value := [.type "ValueError", .type "Exception", .type "BaseException", .type "object"]
structure XC (K : PySem.W.Frag) (C : Addr) (bm : List Value) : Prop where
  obj : ∀ h : Heap, K.In h → ∃ N nm qn bs hdct sn sub ab col dd k0 k1 k2 k3 k5 mN, h.get? C = some (excClassObj nm qn C N bs bm hdct sn sub ab col dd k0 k1 k2 k3 k5 "ValueError.__new__") ∧ h.Ns N mN ∧ mN "__init__" = none ∧ OwnTail h bmV bm
  mro : ∀ v, PySem.W.mroIn K C v = some ((Value.ref C :: bm).contains v)
structure XQ (K : PySem.W.Frag) (C : Addr) : Prop where
  ga : PySem.W.findIn K (.ref C) "__getattribute__" = some (some (.builtin "BaseException.__getattribute__"))
  gx : PySem.W.findIn K (.ref C) "__getattr__" = some none
  gc : PySem.W.findIn K (.ref C) "__class__" = some (some (.builtin "object.__class__"))
structure XD (K : PySem.W.Frag) (D : Addr) : Prop where
  cls : ∃ cd, PySem.W.clsIn K D = some cd
  ty : PySem.W.typeIn K (.ref D) = some (.type "type")
  ins : PySem.W.instIn K (.ref D) (.type "type") = some true
structure XO (K : PySem.W.Frag) (C : Addr) : Prop where
  c : ∃ bm, XC K C bm
  q : XQ K C
  d : XD K C
noncomputable def GOk (K : PySem.W.Frag) (H : Hp) (a : Addr) : GO → Prop
  | .lst ws => ws.length ≤ 100000 ∧ ∃ xs, H a = some (.lst xs) ∧ Reps K H ws xs
  | .dct => H a = some (.dK [])
  | .exc C => XO K C ∧ H a = some (.ext fun h => ∃ o, h.get? a = some o ∧ o.cls = .ref C)
  | .dic kvs => kvs.length ≤ 100000 ∧ ∃ kvs', H a = some (.dK kvs') ∧ kvs'.map (·.1) = kvs.map (·.1) ∧ Reps K H (kvs.map (·.2)) (kvs'.map (·.2))
  | .fdc o us kvs => kvs.length ≤ 100000 ∧ H a = some (.frz o (.dK us)) ∧ us.map (·.1) = kvs.map (·.1) ∧ Reps K H (kvs.map (·.2)) (us.map (·.2))
  | .ins C fs => fs.length ≤ 100 ∧ ∃ dx fs', H a = some (.ins C dx fs') ∧ fs'.map (·.1) = fs.map (·.1) ∧ Reps K H (fs.map (·.2)) (fs'.map (·.2))
  | .tbl ps => H a = some (.tbl ps)
noncomputable def RelG (K : PySem.W.Frag) (H : Hp) (G : Gp) : Prop := ∀ a g, G a = some g → GOk K H a g
section
variable {K : PySem.W.Frag} {H H1 : Hp} {G : Gp} {p a : Addr} {g : GO}
theorem GOk.has (h : GOk K H a g) : ∃ o, H a = some o := by
  cases g with
  | lst ws => obtain ⟨_, _, e, _⟩ := h; exact ⟨_, e⟩
  | dct => exact ⟨_, h⟩
  | exc C => exact ⟨_, h.2⟩
  | dic kvs => obtain ⟨_, _, e, _⟩ := h; exact ⟨_, e⟩
  | fdc o us kvs => obtain ⟨_, e, _⟩ := h; exact ⟨_, e⟩
  | ins C fs => obtain ⟨_, _, _, e, _⟩ := h; exact ⟨_, e⟩
  | tbl ps => exact ⟨_, h⟩
theorem GOk.mono (t : TLe H H1) (e : H1 a = H a) (h : GOk K H a g) : GOk K H1 a g := by
  cases g with
  | lst ws => obtain ⟨l, xs, e1, r⟩ := h; exact ⟨l, xs, e.trans e1, r.mono t⟩
  | dct => exact e.trans h
  | exc C => exact ⟨h.1, e.trans h.2⟩
  | dic kvs => obtain ⟨l, xs, e1, n, r⟩ := h; exact ⟨l, xs, e.trans e1, n, r.mono t⟩
  | fdc o us kvs => obtain ⟨l, e1, n, r⟩ := h; exact ⟨l, e.trans e1, n, r.mono t⟩
  | ins C fs => obtain ⟨l, dx, xs, e1, n, r⟩ := h; exact ⟨l, dx, xs, e.trans e1, n, r.mono t⟩
  | tbl ps => exact e.trans h
theorem RelG.fresh (h : RelG K H G) (hp : H p = none) : G p = none := by
  cases e : G p with
  | none => rfl
  | some g =>
    obtain ⟨o, e1⟩ := (h p _ e).has
    rw [hp] at e1; cases e1
theorem RelG.upd (h : RelG K H G) (t : TLe H (upd H p o)) (hG : G p = none) : RelG K (L2.upd H p o) G := fun a g e => by
  have hne : a ≠ p := fun z => by rw [z, hG] at e; cases e
  exact (h a g e).mono t (upd_ne hne)
theorem RelG.keep (h : RelG K H G) (hp : H p = none) (o : HO) : RelG K (L2.upd H p o) G := h.upd (TLe.new hp o) (h.fresh hp)
theorem RelG.lay (h : RelG K H G) {o : HO} (t : TLe H (L2.upd H p o)) (n : GOk K (L2.upd H p o) p g) : RelG K (L2.upd H p o) (updG G p g) := fun a g' e => by
  by_cases hb : a = p
  · subst hb
    rw [updG_same] at e; cases e
    exact n
  · rw [updG_ne hb] at e
    exact (h a g' e).mono t (upd_ne hb)
theorem RelG.put (h : RelG K H G) {xs : List V} {ws : List W} (t : TLe H (L2.upd H p (.lst xs))) (r : Reps K H ws xs) (hl : ws.length ≤ 100000) : RelG K (L2.upd H p (.lst xs)) (updG G p (.lst ws)) := h.lay t ⟨hl, xs, upd_same, r.mono t⟩
noncomputable def GLe (G0 G : Gp) : Prop := ∀ a g, G0 a = some g → G a = some g
theorem RelG.le {G0 : Gp} (h : RelG K H G) (l : GLe G0 G) : RelG K H G0 := fun a g e => h a g (l a g e)
theorem GLe.refl (G : Gp) : GLe G G := fun _ _ h => h
theorem GLe.trans {G0 G1 G2 : Gp} (a : GLe G0 G1) (b : GLe G1 G2) : GLe G0 G2 := fun x g h => b x g (a x g h)
theorem GLe.new {g : GO} (hp : G p = none) : GLe G (updG G p g) := fun a u e => by
  rw [updG_ne (fun z => by rw [z, hp] at e; cases e)]; exact e
end
noncomputable abbrev WSt := List (Option W)
noncomputable def RelSt (K : PySem.W.Frag) (H : Hp) (τ : WSt) (σ : St) : Prop := τ.length = σ.length ∧ ∀ (i : Nat) (w : W), τ[i]? = some (some w) → ∃ v, σ[i]? = some (some v) ∧ Rep K H w v
section
variable {K : PySem.W.Frag} {H H1 : Hp} {τ : WSt} {σ : St}
theorem RelSt.mono (t : TLe H H1) (h : RelSt K H τ σ) : RelSt K H1 τ σ := ⟨h.1, fun i w e => let ⟨v, e1, r⟩ := h.2 i w e; ⟨v, e1, r.mono t⟩⟩
theorem RelSt.set (h : RelSt K H τ σ) {w : W} {v : V} (r : Rep K H w v) (i : Nat) : RelSt K H (τ.set i (some w)) (σ.set i (some v)) := by
  refine ⟨by simpa using h.1, fun j u e => ?_⟩
  by_cases hj : i = j
  · subst hj
    by_cases hl : i < τ.length
    · rw [List.getElem?_set_self hl] at e
      cases e
      exact ⟨v, List.getElem?_set_self (by rw [← h.1]; exact hl), r⟩
    · rw [List.getElem?_eq_none (by simpa using hl)] at e; cases e
  · rw [List.getElem?_set_ne hj] at e
    obtain ⟨u', e1, r1⟩ := h.2 j u e
    exact ⟨u', by rw [List.getElem?_set_ne hj]; exact e1, r1⟩
theorem RelSt.start {N : List Str} {ws : List W} {vs : List V} (r : Reps K H ws vs) : RelSt K H (ws.map some ++ List.replicate (N.length - ws.length) none) (L2.start N vs) := by
  unfold L2.start
  refine ⟨by simp [r.length], fun i w e => ?_⟩
  by_cases hi : i < ws.length
  · rw [List.getElem?_append_left (by simpa using hi), List.getElem?_map] at e
    cases e1 : ws[i]? with
    | none => rw [e1] at e; cases e
    | some u =>
      rw [e1] at e; cases e
      obtain ⟨v, e2, rv⟩ := r.get e1
      refine ⟨v, ?_, rv⟩
      rw [List.getElem?_append_left (by simpa [← r.length] using hi), List.getElem?_map, e2]
      rfl
  · rw [List.getElem?_append_right (by simpa using hi), List.getElem?_replicate] at e
    split at e <;> cases e
end
noncomputable abbrev WK := W → Gp → Prop
noncomputable abbrev WE := WSt → Gp → WK → Prop
noncomputable abbrev WT := WSt → Gp → (Bool → Gp → Prop) → Prop
noncomputable abbrev WA := WSt → Gp → (List W → Gp → Prop) → Prop
structure WEnds where
  nx : WSt → Gp → Prop
  rt : WK
  bk : WSt → Gp → Prop := fun _ _ => False
  ct : WSt → Gp → Prop := fun _ _ => False
noncomputable abbrev WS := WEnds → WSt → Gp → Prop
noncomputable abbrev WG := W → WSt → Gp → (WSt → Gp → Prop) → Prop
noncomputable abbrev WGs := List W → WSt → Gp → (WSt → Gp → Prop) → Prop
noncomputable def LEx (K : PySem.W.Frag) (t : WE) : TE := fun σ H Q => ∃ τ G q, RelSt K H τ σ ∧ RelG K H G ∧ t τ G q ∧ ∀ v H1 w G1, TLe H H1 → Rep K H1 w v → RelG K H1 G1 → q w G1 → Q v H1
noncomputable def LTx (K : PySem.W.Frag) (t : WT) : TT := fun σ H Q => ∃ τ G q, RelSt K H τ σ ∧ RelG K H G ∧ t τ G q ∧ ∀ b H1 G1, TLe H H1 → RelG K H1 G1 → q b G1 → Q b H1
noncomputable def LA (K : PySem.W.Frag) (t : WA) : TA := fun σ H Q => ∃ τ G q, RelSt K H τ σ ∧ RelG K H G ∧ t τ G q ∧ ∀ vs H1 ws G1, TLe H H1 → Reps K H1 ws vs → RelG K H1 G1 → q ws G1 → Q vs H1
structure LEnds (K : PySem.W.Frag) (H : Hp) (d : WEnds) (D : Ends) : Prop where
  nx : ∀ σ1 H1 τ1 G1, TLe H H1 → RelSt K H1 τ1 σ1 → RelG K H1 G1 → d.nx τ1 G1 → D.nx σ1 H1
  rt : ∀ v H1 w G1, TLe H H1 → Rep K H1 w v → RelG K H1 G1 → d.rt w G1 → D.rt v H1
  bk : ∀ σ1 H1 τ1 G1, TLe H H1 → RelSt K H1 τ1 σ1 → RelG K H1 G1 → d.bk τ1 G1 → D.bk σ1 H1
  ct : ∀ σ1 H1 τ1 G1, TLe H H1 → RelSt K H1 τ1 σ1 → RelG K H1 G1 → d.ct τ1 G1 → D.ct σ1 H1
noncomputable def LS (K : PySem.W.Frag) (t : WS) : TS := fun D σ H => ∃ τ G d, RelSt K H τ σ ∧ RelG K H G ∧ t d τ G ∧ LEnds K H d D
theorem LEx.el {K : PySem.W.Frag} {t : WE} {σ : St} {H : Hp} {Q : VK} {P : Prop} (h : LEx K t σ H Q) (k : ∀ (τ : WSt) (G : Gp) (q : WK), RelSt K H τ σ → RelG K H G → t τ G q → (∀ v H1 w G1, TLe H H1 → Rep K H1 w v → RelG K H1 G1 → q w G1 → Q v H1) → P) : P := by
  obtain ⟨τ, G, q, a, b, c, d⟩ := h
  exact k τ G q a b c d
theorem LTx.el {K : PySem.W.Frag} {t : WT} {σ : St} {H : Hp} {Q : Bool → Hp → Prop} {P : Prop} (h : LTx K t σ H Q) (k : ∀ (τ : WSt) (G : Gp) (q : Bool → Gp → Prop), RelSt K H τ σ → RelG K H G → t τ G q → (∀ b H1 G1, TLe H H1 → RelG K H1 G1 → q b G1 → Q b H1) → P) : P := by
  obtain ⟨τ, G, q, a, b, c, d⟩ := h
  exact k τ G q a b c d
theorem LA.el {K : PySem.W.Frag} {t : WA} {σ : St} {H : Hp} {Q : List V → Hp → Prop} {P : Prop} (h : LA K t σ H Q) (k : ∀ (τ : WSt) (G : Gp) (q : List W → Gp → Prop), RelSt K H τ σ → RelG K H G → t τ G q → (∀ vs H1 ws G1, TLe H H1 → Reps K H1 ws vs → RelG K H1 G1 → q ws G1 → Q vs H1) → P) : P := by
  obtain ⟨τ, G, q, a, b, c, d⟩ := h
  exact k τ G q a b c d
theorem LS.el {K : PySem.W.Frag} {t : WS} {D : Ends} {σ : St} {H : Hp} {P : Prop} (h : LS K t D σ H) (k : ∀ (τ : WSt) (G : Gp) (d : WEnds), RelSt K H τ σ → RelG K H G → t d τ G → LEnds K H d D → P) : P := by
  obtain ⟨τ, G, q, a, b, c, d⟩ := h
  exact k τ G q a b c d
noncomputable def LG (K : PySem.W.Frag) (t : WG) : TG := fun v σ H Q => ∃ w τ G q, Rep K H w v ∧ RelSt K H τ σ ∧ RelG K H G ∧ t w τ G q ∧ ∀ σ1 H1 τ1 G1, TLe H H1 → RelSt K H1 τ1 σ1 → RelG K H1 G1 → q τ1 G1 → Q σ1 H1
noncomputable def LGs (K : PySem.W.Frag) (t : WGs) : TGs := fun vs σ H Q => ∃ ws τ G q, Reps K H ws vs ∧ RelSt K H τ σ ∧ RelG K H G ∧ t ws τ G q ∧ ∀ σ1 H1 τ1 G1, TLe H H1 → RelSt K H1 τ1 σ1 → RelG K H1 G1 → q τ1 G1 → Q σ1 H1
noncomputable def QE (X : Cx) (e : Expr) (t : WE) : Prop := PE X e (LEx X.K t)
noncomputable def QT (X : Cx) (e : Expr) (t : WT) : Prop := PT X e (LTx X.K t)
noncomputable def QW (X : Cx) (e : Expr) (t : WT) : Prop := PW X e (LTx X.K t)
noncomputable def QA (X : Cx) (es : List Expr) (t : WA) : Prop := PA X es (LA X.K t)
noncomputable def QS (X : Cx) (st : Stmt) (t : WS) : Prop := PS X st (LS X.K t)
noncomputable def QSs (X : Cx) (st : List Stmt) (t : WS) : Prop := PSs X st (LS X.K t)
noncomputable def QG (X : Cx) (e : Expr) (t : WG) : Prop := PG X e (LG X.K t)
noncomputable def QGs (X : Cx) (es : List Expr) (t : WGs) : Prop := PGs X es (LGs X.K t)
section
variable {X : Cx}
theorem PE.imp {e : Expr} {t t' : TE} (h : PE X e t) (f : ∀ σ H Q, t' σ H Q → t σ H Q) : PE X e t' := fun pins s σ H Q I q => h pins s σ H Q I (f _ _ _ q)
theorem PT.imp {e : Expr} {t t' : TT} (h : PT X e t) (f : ∀ σ H Q, t' σ H Q → t σ H Q) : PT X e t' := fun pins s σ H Q I q => h pins s σ H Q I (f _ _ _ q)
theorem PW.imp {e : Expr} {t t' : TT} (h : PW X e t) (f : ∀ σ H Q, t' σ H Q → t σ H Q) : PW X e t' := fun wh pins s σ H Q I q => h wh pins s σ H Q I (f _ _ _ q)
theorem PA.imp {e : List Expr} {t t' : TA} (h : PA X e t) (f : ∀ σ H Q, t' σ H Q → t σ H Q) : PA X e t' := fun pos pins s σ H Q I q => h pos pins s σ H Q I (f _ _ _ q)
theorem PS.imp {e : Stmt} {t t' : TS} (h : PS X e t) (f : ∀ D σ H, t' D σ H → t D σ H) : PS X e t' := fun pins s σ H D I q => h pins s σ H D I (f _ _ _ q)
theorem PSs.imp {e : List Stmt} {t t' : TS} (h : PSs X e t) (f : ∀ D σ H, t' D σ H → t D σ H) : PSs X e t' := fun pins s σ H D I q => h pins s σ H D I (f _ _ _ q)
theorem PG.imp {e : Expr} {t t' : TG} (h : PG X e t) (f : ∀ v σ H Q, t' v σ H Q → t v σ H Q) : PG X e t' := fun pins s σ H v u Q I r q => h pins s σ H v u Q I r (f _ _ _ _ q)
theorem PGs.imp {e : List Expr} {t t' : TGs} (h : PGs X e t) (f : ∀ v σ H Q, t' v σ H Q → t v σ H Q) : PGs X e t' := fun pins s σ H v u Q I r q => h pins s σ H v u Q I r (f _ _ _ _ q)
noncomputable def wVar (i : Nat) : WE := fun τ G q => match τ[i]? with | some (some w) => q w G | _ => False
noncomputable def wC (w : W) : WE := fun _ G q => q w G
theorem qe_var (i : Nat) {x : Str} {pos : Pos} (hN : X.N[i]? = some x) (hv : Vis X.env.scope x) (hd : (x == ("__debug__" : Str)) = false := by decide) (hcd : (x == ("__classdict__" : Str)) = false := by decide) : QE X (.Name x pos) (wVar i) := by
  refine (pe_var hN hv hd hcd).imp fun σ H Q z0 => z0.el fun τ G q hs hg ht hQ => ?_
  unfold wVar at ht
  split at ht
  · rename_i w e
    obtain ⟨v, e1, r⟩ := hs.2 i w e
    exact ⟨v, e1, hQ v H w G (TLe.refl H) r hg ht⟩
  · exact ht.elim
theorem qe_const {e : Expr} {v : V} {w : W} (h : PE X e (tC v)) (r : ∀ H, Rep X.K H w v) : QE X e (wC w) :=
  h.imp fun σ H Q z0 => z0.el fun τ G q hs hg ht hQ => hQ v H w G (TLe.refl H) (r H) hg ht
theorem qe_int {i j pos} : QE X (.Constant (.int i) j pos) (wC (.int i)) := qe_const pe_int fun _ => .int i
theorem qe_bl {b j pos} : QE X (.Constant (.bool b) j pos) (wC (.bl b)) := qe_const pe_bl fun _ => .bl b
theorem qe_non {j pos} : QE X (.Constant .none j pos) (wC .non) := qe_const pe_non fun _ => .non
theorem qe_str {x j pos} : QE X (.Constant (.str x) j pos) (wC (.str x)) := qe_const pe_str fun _ => .str x
noncomputable abbrev W2 := W → W → Gp → WK → Prop
noncomputable def LR (K : PySem.W.Frag) (r : W2) : R2 := fun x y H Q => ∃ wx wy G q, Rep K H wx x ∧ Rep K H wy y ∧ RelG K H G ∧ r wx wy G q ∧ ∀ v H1 w G1, TLe H H1 → Rep K H1 w v → RelG K H1 G1 → q w G1 → Q v H1
noncomputable def QOp (X : Cx) (f : Value → Value → Sem Value) (r : W2) : Prop := OpR X f (LR X.K r)
noncomputable def QIx (X : Cx) (r : W2) : Prop := IxR X (LR X.K r)
noncomputable def wOp (r : W2) (ta tb : WE) : WE := fun τ G q => ta τ G fun x G1 => tb τ G1 fun y G2 => r x y G2 q
theorem LEx.op {K : PySem.W.Frag} {r : W2} {ta tb : WE} {σ : St} {H : Hp} {Q : VK} (h : LEx K (wOp r ta tb) σ H Q) : tOp (LR K r) (LEx K ta) (LEx K tb) σ H Q := by
  obtain ⟨τ, G, q, hs, hg, ht, hQ⟩ := h
  refine ⟨τ, G, _, hs, hg, ht, fun v H1 w G1 t1 r1 g1 q1 => ?_⟩
  refine ⟨τ, G1, _, hs.mono t1, g1, q1, fun v2 H2 w2 G2 t2 r2 g2 q2 => ?_⟩
  exact ⟨w, w2, G2, q, r1.mono t2, r2, g2, q2, fun v3 H3 w3 G3 t3 r3 g3 q3 => hQ v3 H3 w3 G3 ((t1.trans t2).trans t3) r3 g3 q3⟩
theorem qe_op {op : Operator} {r : W2} {a b : Expr} {ta tb : WE} {pos : Pos} (ho : QOp X (binaryOp op) r) (ha : QE X a ta) (hb : QE X b tb) : QE X (.BinOp a op b pos) (wOp r ta tb) :=
  (pe_op ho ha hb).imp fun _ _ _ h => h.op
theorem qe_cmp {op : CmpOp} {r : W2} {a b : Expr} {ta tb : WE} {pos : Pos} (ho : QOp X (compareOp op) r) (ha : QE X a ta) (hb : QE X b tb) (hm : behindInMarks op b = false) : QE X (.Compare a [op] [b] pos) (wOp r ta tb) :=
  (pe_cmpR ho ha hb hm).imp fun _ _ _ h => h.op
theorem qe_ix {r : W2} {a b : Expr} {ta tb : WE} {pos : Pos} (ho : QIx X r) (ha : QE X a ta) (hb : QE X b tb) (hs : PlainIx b) : QE X (.Subscript a b pos) (wOp r ta tb) :=
  (pe_ix ho ha hb hs).imp fun _ _ _ h => h.op
noncomputable def wTest (t : WE) : WT := fun τ G q => t τ G fun x G1 => match x with | .bl b => q b G1 | _ => False
theorem LTx.test {K : PySem.W.Frag} {t : WE} {σ : St} {H : Hp} {Q : Bool → Hp → Prop} (h : LTx K (wTest t) σ H Q) : tTest (LEx K t) σ H Q := by
  obtain ⟨τ, G, q, hs, hg, ht, hQ⟩ := h
  refine ⟨τ, G, _, hs, hg, ht, fun v H1 w G1 t1 r1 g1 q1 => ?_⟩
  split at q1
  · rename_i b
    cases r1
    exact ⟨b, rfl, hQ b H1 G1 t1 g1 q1⟩
  · exact q1.elim
theorem qt_cmp {op : CmpOp} {r : W2} {a b : Expr} {ta tb : WE} {pos : Pos} (ho : QOp X (compareOp op) r) (ha : QE X a ta) (hb : QE X b tb) (hm : behindInMarks op b = false) : QT X (.Compare a [op] [b] pos) (wTest (wOp r ta tb)) :=
  (pt_cmpR ho ha hb hm).imp fun σ H Q h => by
    obtain ⟨τ, G, q, hs, hg, ht, hQ⟩ := h.test
    exact LEx.op ⟨τ, G, q, hs, hg, ht, hQ⟩
theorem qt_val {e : Expr} {t : WE} (h : QE X e t) (he : ∀ whole, isTrue e X.env whole = (do let v ← whole; standAt e.pos; holding [v] (truthy v)) := by intro _; rfl) : QT X e (wTest t) :=
  (pt_val h he).imp fun σ H Q h => h.test
noncomputable def wAnd (t u : WT) : WT := fun τ G q => t τ G fun c G1 => if c = true then u τ G1 q else q false G1
noncomputable def wOr (t u : WT) : WT := fun τ G q => t τ G fun c G1 => if c = true then q true G1 else u τ G1 q
noncomputable def wNot (t : WT) : WT := fun τ G q => t τ G fun c G1 => q (!c) G1
theorem qw_and1 {a : Expr} {t : WT} {pos : Pos} (ha : QT X a t) : QW X (.BoolOp .And [a] pos) t := pw_and1 ha
theorem qw_or1 {a : Expr} {t : WT} {pos : Pos} (ha : QT X a t) : QW X (.BoolOp .Or [a] pos) t := pw_or1 ha
theorem qw_and {a b : Expr} {rest : List Expr} {t u : WT} {pos : Pos} (ha : QT X a t) (hb : QW X (.BoolOp .And (b :: rest) pos) u) : QW X (.BoolOp .And (a :: b :: rest) pos) (wAnd t u) :=
  (pw_and ha hb).imp fun σ H Q z0 => z0.el fun τ G q hs hg ht hQ => ⟨τ, G, _, hs, hg, ht, fun c H1 G1 t1 g1 q1 => by
    cases c with
    | true => rw [if_pos rfl] at q1 ⊢; exact ⟨τ, G1, q, hs.mono t1, g1, q1, fun b H2 G2 t2 g2 q2 => hQ b H2 G2 (t1.trans t2) g2 q2⟩
    | false => rw [if_neg Bool.false_ne_true] at q1 ⊢; exact hQ false H1 G1 t1 g1 q1⟩
theorem qw_or {a b : Expr} {rest : List Expr} {t u : WT} {pos : Pos} (ha : QT X a t) (hb : QW X (.BoolOp .Or (b :: rest) pos) u) : QW X (.BoolOp .Or (a :: b :: rest) pos) (wOr t u) :=
  (pw_or ha hb).imp fun σ H Q z0 => z0.el fun τ G q hs hg ht hQ => ⟨τ, G, _, hs, hg, ht, fun c H1 G1 t1 g1 q1 => by
    cases c with
    | true => rw [if_pos rfl] at q1 ⊢; exact hQ true H1 G1 t1 g1 q1
    | false => rw [if_neg Bool.false_ne_true] at q1 ⊢; exact ⟨τ, G1, q, hs.mono t1, g1, q1, fun b H2 G2 t2 g2 q2 => hQ b H2 G2 (t1.trans t2) g2 q2⟩⟩
theorem qt_w {e : Expr} {t : WT} (h : QW X e t) : QT X e t := PW.pt h
theorem qt_not {a : Expr} {t : WT} {pos : Pos} (ha : QT X a t) : QT X (.UnaryOp .Not a pos) (wNot t) :=
  (pt_not ha).imp fun σ H Q z0 => z0.el fun τ G q hs hg ht hQ => ⟨τ, G, _, hs, hg, ht, fun c H1 G1 t1 g1 q1 => hQ (!c) H1 G1 t1 g1 q1⟩
noncomputable def wAndV (ta tb : WE) : WE := fun τ G q => ta τ G fun x G1 => match x with | .bl c => if c = true then tb τ G1 q else q (.bl false) G1 | _ => False
noncomputable def wOrV (ta tb : WE) : WE := fun τ G q => ta τ G fun x G1 => match x with | .bl c => if c = true then q (.bl true) G1 else tb τ G1 q | _ => False
noncomputable def wNotV (ta : WE) : WE := fun τ G q => ta τ G fun x G1 => match x with | .bl c => q (.bl (!c)) G1 | _ => False
theorem qe_one {a : Expr} {op} {t : WE} {pos : Pos} (h : QE X a t) : QE X (.BoolOp op [a] pos) t := pe_one h
theorem qe_and {a b : Expr} {rest : List Expr} {ta tb : WE} {pos : Pos} (ha : QE X a ta) (hb : QE X (.BoolOp .And (b :: rest) pos) tb) : QE X (.BoolOp .And (a :: b :: rest) pos) (wAndV ta tb) :=
  (pe_and ha hb).imp fun σ H Q z0 => z0.el fun τ G q hs hg ht hQ => ⟨τ, G, _, hs, hg, ht, fun v H1 w G1 t1 r1 g1 q1 => by
    split at q1
    · rename_i c
      cases r1
      refine ⟨c, rfl, ?_⟩
      cases c with
      | true => rw [if_pos rfl] at q1 ⊢; exact ⟨τ, G1, q, hs.mono t1, g1, q1, fun v2 H2 w2 G2 t2 r2 g2 q2 => hQ v2 H2 w2 G2 (t1.trans t2) r2 g2 q2⟩
      | false => rw [if_neg Bool.false_ne_true] at q1 ⊢; exact hQ _ H1 _ G1 t1 (.bl false) g1 q1
    · exact q1.elim⟩
theorem qe_not {a : Expr} {ta : WE} {pos : Pos} (ha : QE X a ta) : QE X (.UnaryOp .Not a pos) (wNotV ta) :=
  (pe_not ha).imp fun σ H Q z0 => z0.el fun τ G q hs hg ht hQ => ⟨τ, G, _, hs, hg, ht, fun v H1 w G1 t1 r1 g1 q1 => by
    split at q1
    · rename_i c
      cases r1
      exact ⟨c, rfl, hQ _ H1 _ G1 t1 (.bl _) g1 q1⟩
    · exact q1.elim⟩
noncomputable def wIfE (c : WT) (ta tb : WE) : WE := fun τ G q => c τ G fun b G1 => if b = true then ta τ G1 q else tb τ G1 q
theorem qe_ifExp {c a b : Expr} {tc : WT} {ta tb : WE} {pos : Pos} (hc : QT X c tc) (ha : QE X a ta) (hb : QE X b tb) : QE X (.IfExp c a b pos) (wIfE tc ta tb) :=
  (pe_ifExp hc ha hb).imp fun σ H Q z0 => z0.el fun τ G q hs hg ht hQ => ⟨τ, G, _, hs, hg, ht, fun c H1 G1 t1 g1 q1 => by
    cases c with
    | true => rw [if_pos rfl] at q1 ⊢; exact ⟨τ, G1, q, hs.mono t1, g1, q1, fun v2 H2 w2 G2 t2 r2 g2 q2 => hQ v2 H2 w2 G2 (t1.trans t2) r2 g2 q2⟩
    | false => rw [if_neg Bool.false_ne_true] at q1 ⊢; exact ⟨τ, G1, q, hs.mono t1, g1, q1, fun v2 H2 w2 G2 t2 r2 g2 q2 => hQ v2 H2 w2 G2 (t1.trans t2) r2 g2 q2⟩⟩
noncomputable def wNil : WA := fun _ G q => q [] G
noncomputable def wCons (ta : WE) (tr : WA) : WA := fun τ G q => ta τ G fun x G1 => tr τ G1 fun xs G2 => q (x :: xs) G2
theorem qa_nil : QA X [] wNil := pa_nil.imp fun σ H Q z0 => z0.el fun τ G q hs hg ht hQ => hQ [] H [] G (TLe.refl H) .nil hg ht
theorem qa_cons {e : Expr} {es : List Expr} {te : WE} {t : WA} (ha : QE X e te) (hr : QA X es t) (hs : starEach (e :: es) X.env = (false, eval e X.env) :: starEach es X.env := by rfl) : QA X (e :: es) (wCons te t) :=
  (pa_cons ha hr hs).imp fun σ H Q z0 => z0.el fun τ G q hs hg ht hQ => ⟨τ, G, _, hs, hg, ht, fun v H1 w G1 t1 r1 g1 q1 =>
    ⟨τ, G1, _, hs.mono t1, g1, q1, fun vs H2 ws G2 t2 r2 g2 q2 => hQ (v :: vs) H2 (w :: ws) G2 (t1.trans t2) (.cons (r1.mono t2) r2) g2 q2⟩⟩
theorem line_le {n : Nat} (h : n ≤ 100000) : n ≤ sizeLine := by rw [sizeLine_eq]; exact Nat.le_trans (by assumption) (Nat.le_of_ble_eq_true rfl)
noncomputable def wTup (t : WA) : WE := fun τ G q => t τ G fun ws G1 => ws.length ≤ 100000 ∧ q (.tup ws) G1
noncomputable def wLst (t : WA) : WE := fun τ G q => t τ G fun ws G1 => ws.length ≤ 100000 ∧ ∀ p, G1 p = none → q (.ref p) (updG G1 p (.lst ws))
theorem qe_tup {es : List Expr} {x1} {t : WA} {pos : Pos} (h : QA X es t) : QE X (.Tuple es x1 pos) (wTup t) :=
  (pe_tup h).imp fun σ H Q z0 => z0.el fun τ G q hs hg ht hQ => ⟨τ, G, _, hs, hg, ht, fun vs H1 ws G1 t1 r1 g1 q1 =>
    ⟨by rw [← r1.length]; exact line_le q1.1, fun p hp => hQ _ _ _ G1 (t1.trans (TLe.new hp _)) (.tup upd_same (r1.mono (TLe.new hp _))) (g1.keep hp _) q1.2⟩⟩
theorem qe_lst {es : List Expr} {t : WA} {pos : Pos} (h : QA X es t) : QE X (.List es pos) (wLst t) :=
  (pe_lst h).imp fun σ H Q z0 => z0.el fun τ G q hs hg ht hQ => ⟨τ, G, _, hs, hg, ht, fun vs H1 ws G1 t1 r1 g1 q1 =>
    ⟨by rw [← r1.length]; exact line_le q1.1, fun p hp => hQ _ _ _ _ (t1.trans (TLe.new hp _)) (.ref p) (g1.put (TLe.new hp _) r1 q1.1) (q1.2 p (g1.fresh hp))⟩⟩
noncomputable def wNext : WS := fun d τ G => d.nx τ G
noncomputable def wSeq (t u : WS) : WS := fun d τ G => t { d with nx := u d } τ G
theorem LEnds.mono {K : PySem.W.Frag} {H H1 : Hp} {d : WEnds} {D : Ends} (l : LEnds K H d D) (t : TLe H H1) : LEnds K H1 d D :=
  ⟨fun σ2 H2 τ2 G2 t2 => l.nx σ2 H2 τ2 G2 (t.trans t2), fun v H2 w G2 t2 => l.rt v H2 w G2 (t.trans t2), fun σ2 H2 τ2 G2 t2 => l.bk σ2 H2 τ2 G2 (t.trans t2), fun σ2 H2 τ2 G2 t2 => l.ct σ2 H2 τ2 G2 (t.trans t2)⟩
theorem qss_nil : QSs X [] wNext := pss_nil.imp fun D σ H z0 => z0.el fun τ G d hs hg ht l => l.nx σ H τ G (TLe.refl H) hs hg ht
theorem qss_cons {st : Stmt} {rest : List Stmt} {t u : WS} (h1 : QS X st t) (h2 : QSs X rest u) : QSs X (st :: rest) (wSeq t u) :=
  (pss_cons h1 h2).imp fun D σ H z0 => z0.el fun τ G d hs hg ht l => ⟨τ, G, _, hs, hg, ht, ⟨fun σ1 H1 τ1 G1 t1 s1 g1 q1 => ⟨τ1, G1, d, s1, g1, q1, l.mono t1⟩, l.rt, l.bk, l.ct⟩⟩
theorem qss_one {st : Stmt} {t : WS} (h1 : QS X st t) : QSs X [st] t := pss_one h1
noncomputable def wDrop (te : WE) : WS := fun d τ G => te τ G fun _ G1 => d.nx τ G1
theorem qs_expr {e : Expr} {te : WE} {pos : Pos} (he : QE X e te) (hs : swapsWith e none pos.line X.env = pure false := by rfl) : QS X (.Expr e pos) (wDrop te) :=
  (ps_expr he hs).imp fun D σ H z0 => z0.el fun τ G d hs hg ht l => ⟨τ, G, _, hs, hg, ht, fun v H1 w G1 t1 r1 g1 q1 => l.nx σ H1 τ G1 t1 (hs.mono t1) g1 q1⟩
noncomputable def wRet (te : WE) : WS := fun d τ G => te τ G d.rt
theorem qs_ret {e : Expr} {te : WE} {pos : Pos} (he : QE X e te) : QS X (.Return (some e) pos) (wRet te) :=
  (ps_ret he).imp fun D σ H z0 => z0.el fun τ G d hs hg ht l => ⟨τ, G, _, hs, hg, ht, fun v H1 w G1 t1 r1 g1 q1 => l.rt v H1 w G1 t1 r1 g1 q1⟩
noncomputable def wIf (c : WT) (t u : WS) : WS := fun d τ G => c τ G fun b G1 => if b = true then t d τ G1 else u d τ G1
theorem qs_if {c : Expr} {a b : List Stmt} {tc : WT} {t u : WS} {pos : Pos} (hc : QT X c tc) (ha : QSs X a t) (hb : QSs X b u) : QS X (.If c a b pos) (wIf tc t u) :=
  (ps_if hc ha hb).imp fun D σ H z0 => z0.el fun τ G d hs hg ht l => ⟨τ, G, _, hs, hg, ht, fun c H1 G1 t1 g1 q1 => by
    cases c with
    | true => rw [if_pos rfl] at q1 ⊢; exact ⟨τ, G1, d, hs.mono t1, g1, q1, l.mono t1⟩
    | false => rw [if_neg Bool.false_ne_true] at q1 ⊢; exact ⟨τ, G1, d, hs.mono t1, g1, q1, l.mono t1⟩⟩
noncomputable def hName (i : Nat) : WG := fun w τ G q => q (τ.set i (some w)) G
theorem qg_name (i : Nat) {x : Str} {pos : Pos} (hN : X.N.Nodup) (hi : X.N[i]? = some x) (hx : Loc X.env.scope x) (hf : X.fn x = true ∨ X.env.scope.names.lookup x = some .local := by first | exact .inl rfl | exact .inr rfl | assumption) : QG X (.Name x pos) (hName i) :=
  (pg_name hN hi hx hf).imp fun v σ H Q ⟨w, τ, G, q, r, hs, hg, ht, hQ⟩ => hQ _ H _ G (TLe.refl H) (hs.set r i) hg ht
noncomputable def hNil : WGs := fun ws τ G q => match ws with | [] => q τ G | _ => False
noncomputable def hCons (t : WG) (u : WGs) : WGs := fun ws τ G q => match ws with | w :: r => t w τ G fun τ1 G1 => u r τ1 G1 q | [] => False
theorem qgs_nil : QGs X [] hNil := pgs_nil.imp fun vs σ H Q ⟨ws, τ, G, q, r, hs, hg, ht, hQ⟩ => by
  unfold hNil at ht
  cases r with
  | nil => exact ⟨rfl, hQ σ H τ G (TLe.refl H) hs hg ht⟩
  | cons _ _ => exact ht.elim
theorem qgs_cons {e : Expr} {es : List Expr} {t : WG} {u : WGs} (h1 : QG X e t) (h2 : QGs X es u)
    (hs : (assignEach (e :: es) X.env).map (·.2) = assign e X.env :: (assignEach es X.env).map (·.2) := by rfl) : QGs X (e :: es) (hCons t u) :=
  (pgs_cons h1 h2 hs).imp fun vs σ H Q ⟨ws, τ, G, q, r, hs, hg, ht, hQ⟩ => by
    unfold hCons at ht
    cases r with
    | nil => exact ht.elim
    | cons r rs =>
      exact ⟨_, _, rfl, _, τ, G, _, r, hs, hg, ht, fun σ1 H1 τ1 G1 t1 s1 g1 q1 => ⟨_, τ1, G1, q, rs.mono t1, s1, g1, q1, fun σ2 H2 τ2 G2 t2 => hQ σ2 H2 τ2 G2 (t1.trans t2)⟩⟩
noncomputable def hTup (n : Nat) (t : WGs) : WG := fun w τ G q => match w with | .tup ws => ws.length = n ∧ t ws τ G q | _ => False
theorem qg_tup {es : List Expr} {k : Nat} {t : WGs} {pos : Pos} (hc : X.calm = true) (h : QGs X es t)
    (hn : (assignEach es X.env).length = es.length := by rfl) (hst : (assignEach es X.env).findIdx? (·.1) = none := by rfl) : QG X (.Tuple es k pos) (hTup es.length t) :=
  (pg_tup hc h hn hst).imp fun v σ H Q ⟨w, τ, G, q, r, hs, hg, ht, hQ⟩ => by
    unfold hTup at ht
    cases r with
    | tup h r => exact ⟨_, _, rfl, SqT.of h, by rw [← r.length]; exact ht.1, _, τ, G, q, r, hs, hg, ht.2, hQ⟩
    | _ => exact ht.elim
noncomputable def wAsg (te : WE) (g : WG) : WS := fun d τ G => te τ G fun x G1 => g x τ G1 d.nx
theorem LS.asg {K : PySem.W.Frag} {te : WE} {g : WG} {D : Ends} {σ : St} {H : Hp} (h : LS K (wAsg te g) D σ H) : tAsg (LEx K te) (LG K g) D σ H := by
  obtain ⟨τ, G, d, hs, hg, ht, l⟩ := h
  exact ⟨τ, G, _, hs, hg, ht, fun v H1 w G1 t1 r1 g1 q1 => ⟨w, τ, G1, _, r1, hs.mono t1, g1, q1, fun σ2 H2 τ2 G2 t2 => l.nx σ2 H2 τ2 G2 (t1.trans t2)⟩⟩
theorem qs_set (i : Nat) {x : Str} {e : Expr} {te : WE} {pos' pos : Pos} (hN : X.N.Nodup) (hi : X.N[i]? = some x) (hx : Loc X.env.scope x) (he : QE X e te) (hs : swapsWith e (some (.Name x pos')) pos.line X.env = pure false := by rfl) (hf : X.fn x = true ∨ X.env.scope.names.lookup x = some .local := by first | exact .inl rfl | exact .inr rfl | assumption) :
    QS X (.Assign [.Name x pos'] e pos) (wAsg te (hName i)) :=
  (ps_set hN hi hx he hs hf).imp fun D σ H z0 => z0.el fun τ G d hs hg ht l =>
    ⟨τ, G, _, hs, hg, ht, fun v H1 w G1 t1 r1 g1 q1 => l.nx _ H1 _ G1 t1 ((hs.mono t1).set r1 i) g1 q1⟩
theorem qs_asg {tg e : Expr} {te : WE} {g : WG} {pos : Pos} (he : QE X e te) (hg : QG X tg g) (hs : swapsWithSole [tg] e pos.line X.env = pure false := by rfl) (hw : swappedStores [tg] e X.env = pure none := by rfl)
    (h1 : (assignEach [tg] X.env).map (·.2) = [assign tg X.env] := by rfl) : QS X (.Assign [tg] e pos) (wAsg te g) :=
  (ps_asg he hg hs hw h1).imp fun _ _ _ h => h.asg
noncomputable def wWhile (c : WT) (tb : WS) : WS := fun d τ G => ∃ I : Nat → WSt → Gp → Prop, (∃ m, I m τ G) ∧ ∀ m τ G, I m τ G →
  c τ G fun b G1 => if b = true then ∃ N : WSt → Gp → Prop, (∀ τ1 G1, N τ1 G1 → ∃ m1, m1 < m ∧ I m1 τ1 G1) ∧ tb { d with nx := N, ct := N, bk := d.nx } τ G1 else d.nx τ G1
theorem qs_while {c : Expr} {body : List Stmt} {tc : WT} {tb : WS} {pos : Pos} (hp : PassesOwn (model X.prog X.w) X.A X.env X.xe) (hc : QT X c tc) (hb : QSs X body tb) : QS X (.While c body [] pos) (wWhile tc tb) :=
  (ps_while hp hc hb).imp fun D σ H ⟨τ, G, d, hs, hg, ⟨I, ⟨m, i0⟩, turn⟩, l⟩ => by
    refine ⟨fun m σ1 H1 => ∃ τ1 G1, TLe H H1 ∧ RelSt X.K H1 τ1 σ1 ∧ RelG X.K H1 G1 ∧ I m τ1 G1, ⟨m, τ, G, TLe.refl H, hs, hg, i0⟩, ?_⟩
    rintro m1 σ1 H1 ⟨τ1, G1, t1, s1, g1, i1⟩
    refine ⟨τ1, G1, _, s1, g1, turn m1 τ1 G1 i1, fun b H2 G2 t2 g2 q2 => ?_⟩
    cases b with
    | true =>
      rw [if_pos rfl] at q2 ⊢
      obtain ⟨N, hN, q2⟩ := q2
      refine ⟨fun σ3 H3 => ∃ τ3 G3, TLe H H3 ∧ RelSt X.K H3 τ3 σ3 ∧ RelG X.K H3 G3 ∧ N τ3 G3, ?_, τ1, G2, _, s1.mono t2, g2, q2, ?_⟩
      · rintro σ3 H3 ⟨τ3, G3, t3, s3, g3, n3⟩
        obtain ⟨m3, hm, i3⟩ := hN τ3 G3 n3
        exact ⟨m3, hm, τ3, G3, t3, s3, g3, i3⟩
      · have tt := t1.trans t2
        exact ⟨fun σ3 H3 τ3 G3 t3 s3 g3 q3 => ⟨τ3, G3, tt.trans t3, s3, g3, q3⟩, fun v H3 w G3 t3 => l.rt v H3 w G3 (tt.trans t3), fun σ3 H3 τ3 G3 t3 => l.nx σ3 H3 τ3 G3 (tt.trans t3), fun σ3 H3 τ3 G3 t3 s3 g3 q3 => ⟨τ3, G3, tt.trans t3, s3, g3, q3⟩⟩
    | false =>
      rw [if_neg Bool.false_ne_true] at q2 ⊢
      exact l.nx σ1 H2 τ1 G2 (t1.trans t2) (s1.mono t2) g2 q2
end
end L2
namespace L2
open PySem PySem.Spec PyProof.Rows
section
variable {X : Cx}
noncomputable abbrev WX := Value → Gp → Prop
noncomputable abbrev WSp := List W → Gp → WK → WX → Prop
noncomputable def LSp (K : PySem.W.Frag) (sp : WSp) : Sp := fun vs H Q E => ∃ ws G q e, Reps K H ws vs ∧ RelG K H G ∧ sp ws G q e ∧ (∀ v H1 w G1, TLe H H1 → Rep K H1 w v → RelG K H1 G1 → q w G1 → Q v H1) ∧
  ∀ c d H1 G1, TLe H H1 → RelG K H1 G1 → e c G1 → E c d H1
noncomputable abbrev WFn (P : Program) (w : World) (K : PySem.W.Frag) (mg : Str → Option Value) (base : Heap) (k : Nat) (f : Addr) (fd : FuncData) (ps : List Str) (sp : WSp) : Prop := FnOk P w K mg base CX0 k f fd ps (LSp K sp)
noncomputable def wCall (sp : WSp) (dws : List W) (t : WA) : WE := fun τ G q => t τ G fun ws G1 => sp (ws ++ dws) G1 q fun _ _ => False
theorem LEx.call {K : PySem.W.Frag} {sp : WSp} {dws : List W} {dvs : List V} {t : WA} {σ : St} {H : Hp} {Q : VK} {E : XK} (hd : ∀ H, Reps K H dws dvs) (h : LEx K (wCall sp dws t) σ H Q) : tCall (LSp K sp) dvs E (LA K t) σ H Q := by
  obtain ⟨τ, G, q, hs, hg, ht, hQ⟩ := h
  exact ⟨τ, G, _, hs, hg, ht, fun vs H1 ws G1 t1 r1 g1 q1 => ⟨ws ++ dws, G1, q, _, r1.append (hd H1), g1, q1, fun v H2 w G2 t2 => hQ v H2 w G2 (t1.trans t2), fun _ _ _ _ _ _ z => z.elim⟩⟩
theorem qe_call {k : Nat} {f : Addr} {fd : FuncData} {ps : List Str} {sp : WSp} {x : Str} {p pos : Pos} {e : Expr} {es : List Expr} {t : WA} (F : WFn X.prog X.w X.K X.mg X.base k f fd ps sp) (hr : Room k X.A) (hg : Gl X x) (hm : X.mg x = some (.ref f))
    (hk : PySem.W.keepIn X.K (.ref f) = true) (hb : Binds X.K fd ps []) (ha : QA X (e :: es) t) (hdb : (x == ("__debug__" : Str)) = false := by decide)
    (he : starEach (e :: es) X.env = (false, eval e X.env) :: starEach es X.env := by rfl) (hpl : (backTo pos (starEach es X.env)).any (·.1) = false := by rfl) : QE X (.Call (.Name x p) (e :: es) [] pos) (wCall sp [] t) :=
  (pe_call F hr hg hm hk hb .nil pass0 ha hdb he hpl).imp fun _ _ _ h => h.call fun _ => .nil
noncomputable def wStart (N : List Str) (ws : List W) : WSt := ws.map some ++ List.replicate (N.length - ws.length) none
theorem WFn.none {P : Program} {w : World} {K : PySem.W.Frag} {mg : Str → Option Value} {base : Heap} {k : Nat} {f : Addr} {fd : FuncData} {ps : List Str} {sp : WSp} (h : ∀ ws G q e, ¬ sp ws G q e) : WFn P w K mg base k f fd ps sp :=
  ⟨fun _ _ _ _ ⟨_, _, _, _, _, _, z, _⟩ => absurd z (h _ _ _ _), fun _ _ _ _ _ _ _ _ _ _ _ _ _ ⟨_, _, _, _, _, _, z, _⟩ => absurd z (h _ _ _ _)⟩
theorem fn3 {P : Program} {w : World} {K : PySem.W.Frag} {mg : Str → Option Value} {base : Heap} {x qual : Str} {st : Stmt} {f : Addr} {fd : FuncData} {N ps : List Str} {k : Nat} {sp : WSp} (F : Fun K x qual st f fd) (S : FnScope N ps (defScope st)) (len : ∀ ws G q e, sp ws G q e → ws.length = ps.length)
    (hbody : ∀ (cdv : Value) (A : Around) (outer : List Env) (s : Shared) (H : Hp) (E : XK), Room k (A.deeper (envOfC qual (defScope st) s.heap.objs.size f cdv)) →
      ∃ t, QSs (cxOf CX0 P w K mg base N qual (defScope st) f cdv A outer s H E).nox (defBody st) t ∧
        ∀ (ws : List W) (G : Gp) (q : WK) (e : WX), sp ws G q e → t { nx := fun _ G1 => ∃ G0, GLe G0 G1 ∧ q .non G0, rt := fun w G1 => ∃ G0, GLe G0 G1 ∧ q w G0 } (wStart N ws) G) : WFn P w K mg base (k + 1) f fd ps sp := by
  refine F.ok S (fun vs H Q E ⟨ws, G, q, e, r, g, z, _⟩ => by rw [← r.length]; exact len _ _ _ _ z) (fun cdv A outer s H vs Q E hr ⟨ws, G, q, e, r, g, z, hQ, _⟩ => ?_)
  obtain ⟨t, ht, hq⟩ := hbody cdv A outer s H E hr
  exact ⟨_, ht, _, G, _, RelSt.start r, g, hq ws G q e z, ⟨fun σ1 H1 τ1 G1 t1 s1 g1 ⟨G0, l, q1⟩ => hQ .non H1 .non G0 t1 .non (g1.le l) q1, fun v H1 w G1 t1 r1 g1 ⟨G0, l, q1⟩ => hQ v H1 w G0 t1 r1 (g1.le l) q1, fun _ _ _ _ _ _ _ z => z.elim, fun _ _ _ _ _ _ _ z => z.elim⟩⟩
noncomputable def LCall (K : PySem.W.Frag) (r : List W → Gp → WK → Prop) : List V → Hp → VK → Prop := fun vs H Q => ∃ ws G q, Reps K H ws vs ∧ RelG K H G ∧ r ws G q ∧ ∀ v H1 w G1, TLe H H1 → Rep K H1 w v → RelG K H1 G1 → q w G1 → Q v H1
noncomputable def QCall (X : Cx) (f : Value) (r : List W → Gp → WK → Prop) : Prop := CallR X f (LCall X.K r)
noncomputable def wCB (r : List W → Gp → WK → Prop) (t : WA) : WE := fun τ G q => t τ G fun ws G1 => r ws G1 q
theorem LEx.cb {K : PySem.W.Frag} {r : List W → Gp → WK → Prop} {t : WA} {σ : St} {H : Hp} {Q : VK} (h : LEx K (wCB r t) σ H Q) : tCB (LCall K r) (LA K t) σ H Q := by
  obtain ⟨τ, G, q, hs, hg, ht, hQ⟩ := h
  exact ⟨τ, G, _, hs, hg, ht, fun vs H1 ws G1 t1 r1 g1 q1 => ⟨ws, G1, q, r1, g1, q1, fun v H2 w G2 t2 => hQ v H2 w G2 (t1.trans t2)⟩⟩
theorem qe_callB {id : String} {r : List W → Gp → WK → Prop} {x : Str} {p pos : Pos} {e : Expr} {es : List Expr} {t : WA} (hc : QCall X (.builtin id) r) (hg : Gl X x) (hm : X.mg x = none) (hv : bootBuiltins x = some (.builtin id)) (ha : QA X (e :: es) t)
    (hn : x ≠ "__name__" := by decide) (hdb : (x == ("__debug__" : Str)) = false := by decide)
    (he : starEach (e :: es) X.env = (false, eval e X.env) :: starEach es X.env := by rfl) (hpl : (backTo pos (starEach es X.env)).any (·.1) = false := by rfl) : QE X (.Call (.Name x p) (e :: es) [] pos) (wCB r t) :=
  (pe_callB hc hg hm hv ha hn hdb he hpl).imp fun _ _ _ h => h.cb
theorem qe_callTy {T : String} {r : List W → Gp → WK → Prop} {x : Str} {p pos : Pos} {e : Expr} {es : List Expr} {t : WA} (hc : QCall X (.type T) r) (hg : Gl X x) (hm : X.mg x = none) (hv : bootBuiltins x = some (.type T)) (ha : QA X (e :: es) t)
    (hn : x ≠ "__name__" := by decide) (hdb : (x == ("__debug__" : Str)) = false := by decide)
    (he : starEach (e :: es) X.env = (false, eval e X.env) :: starEach es X.env := by rfl) (hpl : (backTo pos (starEach es X.env)).any (·.1) = false := by rfl) : QE X (.Call (.Name x p) (e :: es) [] pos) (wCB r t) :=
  (pe_callTy hc hg hm hv ha hn hdb he hpl).imp fun _ _ _ h => h.cb
theorem Reps.one {K : PySem.W.Frag} {H : Hp} {w : W} {vs : List V} (r : Reps K H [w] vs) : ∃ v, vs = [v] ∧ Rep K H w v := by
  cases r with
  | cons r rs => cases rs; exact ⟨_, rfl, r⟩
theorem Reps.two {K : PySem.W.Frag} {H : Hp} {w u : W} {vs : List V} (r : Reps K H [w, u] vs) : ∃ v x, vs = [v, x] ∧ Rep K H w v ∧ Rep K H u x := by
  cases r with
  | cons r rs =>
    obtain ⟨x, rfl, r2⟩ := rs.one
    exact ⟨_, _, rfl, r, r2⟩
noncomputable def cLen : List W → Gp → WK → Prop := fun ws G q => match ws with
  | [.tup xs] => q (.int xs.length) G
  | [.scr ns] => q (.int ns.length) G
  | [.ref a] => ∃ xs, G a = some (.lst xs) ∧ q (.int xs.length) G
  | _ => False
theorem q_len : QCall X (.builtin "len") cLen := by
  intro pins s σ H xs us Q I r ⟨ws, G, q, rw', g, h, hQ⟩
  cases rw' with
  | nil => exact False.elim h
  | cons r1 rr' =>
    cases rr' with
    | cons _ _ => cases r1 <;> exact False.elim h
    | nil =>
      cases r1 with
      | tup hh rr => exact call_len_seq pins s σ H _ us Q I r ⟨_, _, rfl, .inr (SqT.of hh), hQ _ H _ G (TLe.refl H) (by rw [rr.length]; exact .int _) g h⟩
      | scr hh => exact call_len_seq pins s σ H _ us Q I r ⟨_, _, rfl, .inl hh.sq, hQ _ H _ G (TLe.refl H) (by rw [List.length_map]; exact .int _) g h⟩
      | ref a =>
        obtain ⟨ys, e, h⟩ := h
        obtain ⟨_, zs, e1, rr⟩ := g a _ e
        exact call_len_seq pins s σ H _ us Q I r ⟨_, _, rfl, .inl (SqL.of e1), hQ _ H _ G (TLe.refl H) (by rw [rr.length]; exact .int _) g h⟩
      | _ => exact False.elim h
noncomputable def cTuple : List W → Gp → WK → Prop := fun ws G q => match ws with
  | [.tup xs] => q (.tup xs) G
  | [.ref a] => ∃ xs, G a = some (.lst xs) ∧ q (.tup xs) G
  | _ => False
theorem q_tuple : QCall X (.type "tuple") cTuple := by
  intro pins s σ H xs us Q I r ⟨ws, G, q, rw', g, h, hQ⟩
  cases rw' with
  | nil => exact False.elim h
  | cons r1 rr' =>
    cases rr' with
    | cons _ _ => cases r1 <;> exact False.elim h
    | nil =>
      cases r1 with
      | tup hh rr => exact call_tuple_of pins s σ H _ us Q I r ⟨_, _, rfl, .inr ⟨SqT.of hh, hQ _ H _ G (TLe.refl H) (.tup hh rr) g h⟩⟩
      | ref a =>
        obtain ⟨ys, e, h⟩ := h
        obtain ⟨_, zs, e1, rr⟩ := g a _ e
        exact call_tuple_of pins s σ H _ us Q I r ⟨_, _, rfl, .inl ⟨SqL.of e1, fun l hl => hQ _ _ _ G (TLe.new hl _) (.tup upd_same (rr.mono (TLe.new hl _))) (g.keep hl _) h⟩⟩
      | _ => exact False.elim h
noncomputable def cList : List W → Gp → WK → Prop := fun ws G q => match ws with
  | [.tup xs] => xs.length ≤ 100000 ∧ ∀ p, G p = none → q (.ref p) (updG G p (.lst xs))
  | [.ref a] => ∃ xs, G a = some (.lst xs) ∧ ∀ p, G p = none → q (.ref p) (updG G p (.lst xs))
  | _ => False
theorem q_list : QCall X (.type "list") cList := by
  intro pins s σ H xs us Q I r ⟨ws, G, q, rw', g, h, hQ⟩
  unfold cList at h
  split at h
  · rename_i ys
    obtain ⟨v, rfl, r1⟩ := rw'.one
    cases r1 with
    | tup hh rr => exact call_list_of pins s σ H _ us Q I r ⟨_, _, rfl, .inr (SqT.of hh), fun l hl => hQ _ _ _ _ (TLe.new hl _) (.ref l) (g.put (TLe.new hl _) rr h.1) (h.2 l (g.fresh hl))⟩
  · rename_i a
    obtain ⟨ys, e, h⟩ := h
    obtain ⟨v, rfl, r1⟩ := rw'.one
    cases r1
    obtain ⟨hl, zs, e1, rr⟩ := g a _ e
    exact call_list_of pins s σ H _ us Q I r ⟨_, _, rfl, .inl (SqL.of e1), fun l hl' => hQ _ _ _ _ (TLe.new hl' _) (.ref l) (g.put (TLe.new hl' _) rr hl) (h l (g.fresh hl'))⟩
  · exact h.elim
noncomputable def cInt : List W → Gp → WK → Prop := fun ws G q => match ws with
  | [.int i] => q (.int i) G
  | [.bl b] => q (.int (if b then 1 else 0)) G
  | _ => False
theorem q_int : QCall X (.type "int") cInt := by
  intro pins s σ H xs us Q I r ⟨ws, G, q, rw', g, h, hQ⟩
  cases rw' with
  | nil => exact False.elim h
  | cons r1 rr' =>
    cases rr' with
    | cons _ _ => cases r1 <;> exact False.elim h
    | nil =>
      cases r1 with
      | int i => exact call_int1 pins s σ H _ us Q I r (.inl ⟨_, rfl, hQ _ H _ G (TLe.refl H) (.int _) g h⟩)
      | bl b => exact call_int1 pins s σ H _ us Q I r (.inr ⟨_, rfl, hQ _ H _ G (TLe.refl H) (.int _) g h⟩)
      | _ => exact False.elim h
noncomputable def cMax : List W → Gp → WK → Prop := fun ws G q => match ws with
  | [.int i, .int j] => q (.int (if j > i then j else i)) G
  | _ => False
noncomputable def b2z (b : Bool) : Int := if b then 1 else 0
noncomputable def vAdd : W2 := fun x y G q => match x, y with
  | .int i, .int j => q (.int (i + j)) G
  | .tup xs, .tup ys => xs.length + ys.length ≤ 100000 ∧ q (.tup (xs ++ ys)) G
  | .ref a, .ref b => ∃ xs ys, G a = some (.lst xs) ∧ G b = some (.lst ys) ∧ xs.length + ys.length ≤ 100000 ∧ ∀ p, G p = none → q (.ref p) (updG G p (.lst (xs ++ ys)))
  | _, _ => False
theorem cat0 {pins : List (Addr × Obj)} {σ : St} {H : Hp} {s : Shared} {a b : Addr} {ys : List V} {Q : VK} (I : Inv X pins σ H s) (ha : H a = some (.tup [])) (hb : H b = some (.tup ys)) (q : Q (.ref b) H) : wpAny (model X.prog X.w) X.A (binaryOp .Add (.ref a) (.ref b)) (EP X pins σ Q) X.xe s := by
  obtain ⟨its, r1, p1, _⟩ := I.tuple (SqT.of ha)
  obtain ⟨its2, r2, p2, _⟩ := I.tuple (SqT.of hb)
  cases r1
  obtain ⟨⟨cls, dd, data, sl⟩, ho, hc, n, hd⟩ := id p1
  obtain ⟨⟨cls2, dd2, data2, sl2⟩, ho2, hc2, n2, hd2⟩ := id p2
  simp only at hc hd hc2 hd2
  subst hc hd hc2 hd2
  exact concat_meets ⟨_, ho, rfl⟩ ⟨_, ho2, rfl⟩ noFill_tuple_add seq_tuple_add PySem.F.slot_tuple_add PySem.F.entry_tuple_add (PySem.F.args_tuple_add_2 _ _)
    (tuple_addW0 a b #[] its2.toArray n n2 dd dd2 sl sl2 rfl) ⟨ho, ho2, ⟨.ref b, H, I, rfl, q⟩⟩
theorem q_add : QOp X (binaryOp .Add) vAdd := by
  intro pins s σ H x y v u Q I rx ry ⟨wx, wy, G, q, r1, r2, g, h, hQ⟩
  cases r1 with
  | int i =>
    cases r2 with
    | int j => exact op_add pins s σ H _ _ v u Q I rx ry ⟨_, _, rfl, rfl, hQ _ H _ G (TLe.refl H) (.int _) g h⟩
    | _ => exact False.elim h
  | @tup a ws xs ha ra =>
    cases r2 with
    | @tup b us ys hb rb =>
      cases xs with
      | nil =>
        cases ra
        cases rx
        cases ry
        exact cat0 I ha hb (hQ _ H _ G (TLe.refl H) (.tup hb rb) g h.2)
      | cons x0 xr =>
        refine op_catT pins s σ H _ _ v u Q I rx ry ⟨a, b, _, _, rfl, rfl, SqT.of ha, SqT.of hb, by simp, by rw [← ra.length, ← rb.length]; exact line_le h.1, fun e => ?_, fun _ p hp => ?_⟩
        · subst e
          cases rb
          have h2 := h.2
          rw [List.append_nil] at h2
          exact hQ _ H _ G (TLe.refl H) (.tup ha ra) g h2
        · exact hQ _ _ _ G (TLe.new hp _) (.tup upd_same ((ra.append rb).mono (TLe.new hp _))) (g.keep hp _) h.2
    | _ => exact False.elim h
  | ref a =>
    cases r2 with
    | ref b =>
      obtain ⟨xs, ys, ea, eb, hl, h⟩ := h
      obtain ⟨_, xs', ha, ra⟩ := g _ _ ea
      obtain ⟨_, ys', hb, rb⟩ := g _ _ eb
      refine op_cat pins s σ H _ _ v u Q I rx ry ⟨_, _, _, _, rfl, rfl, ha, hb, by rw [← ra.length, ← rb.length]; exact line_le hl, fun p hp => ?_⟩
      exact hQ _ _ _ _ (TLe.new hp _) (.ref p) (g.put (TLe.new hp _) (ra.append rb) (by rw [List.length_append]; exact hl)) (h p (g.fresh hp))
    | _ => exact False.elim h
  | _ => exact False.elim h
noncomputable def vInt (C : Int → Int → Prop) (f : Int → Int → W) : W2 := fun x y G q => match x, y with
  | .int i, .int j => C i j ∧ q (f i j) G
  | _, _ => False
theorem q_rint {f : Value → Value → Sem Value} {C : Int → Int → Prop} {g : Int → Int → Int} (h : OpR X f (rI C fun i j => .int (g i j))) : QOp X f (vInt C fun i j => .int (g i j)) := by
  intro pins s σ H x y v u Q I rx ry ⟨wx, wy, G, q, r1, r2, gg, hh, hQ⟩
  unfold vInt at hh
  split at hh
  · cases r1
    cases r2
    exact h pins s σ H _ _ v u Q I rx ry ⟨_, _, rfl, rfl, hh.1, hQ _ H _ G (TLe.refl H) (.int _) gg hh.2⟩
  · exact hh.elim
noncomputable def vInt0 (f : Int → Int → W) : W2 := fun x y G q => match x, y with
  | .int i, .int j => q (f i j) G
  | _, _ => False
theorem q_rbl {f : Value → Value → Sem Value} {g : Int → Int → Bool} (h : OpR X f (rI0 fun i j => .bl (g i j))) : QOp X f (vInt0 fun i j => .bl (g i j)) := by
  intro pins s σ H x y v u Q I rx ry ⟨wx, wy, G, q, r1, r2, gg, hh, hQ⟩
  unfold vInt0 at hh
  split at hh
  · cases r1
    cases r2
    exact h pins s σ H _ _ v u Q I rx ry ⟨_, _, rfl, rfl, hQ _ H _ G (TLe.refl H) (.bl _) gg hh⟩
  · exact hh.elim
noncomputable abbrev vMod : W2 := vInt (fun _ j => 0 < j) fun i j => .int (i % j)
theorem q_mod : QOp X (binaryOp .Mod) vMod := q_rint op_mod
noncomputable abbrev vLe : W2 := vInt0 fun i j => .bl (decide (i ≤ j))
noncomputable abbrev vGt : W2 := vInt0 fun i j => .bl (decide (j < i))
noncomputable abbrev vGe : W2 := vInt0 fun i j => .bl (decide (j ≤ i))
theorem q_le : QOp X (compareOp .LtE) vLe := q_rbl op_le
theorem q_gt : QOp X (compareOp .Gt) vGt := q_rbl op_gt
theorem q_ge : QOp X (compareOp .GtE) vGe := q_rbl op_ge
noncomputable def rIx3 : W2 := fun x y G q => match x, y with
  | .tup xs, .int i => ∃ w, atI xs i = some w ∧ q w G
  | .scr ns, .int i => ∃ n, atI ns i = some n ∧ q (.int n) G
  | .ref a, .int i => ∃ xs w, G a = some (.lst xs) ∧ atI xs i = some w ∧ q w G
  | _, _ => False
theorem Reps.at {K : PySem.W.Frag} {H : Hp} {ws : List W} {vs : List V} {i : Int} {w : W} (r : Reps K H ws vs) (e : atI ws i = some w) : ∃ v, atI vs i = some v ∧ Rep K H w v := by
  unfold atI at e ⊢
  rw [r.length] at e
  cases h : ixN vs.length i with
  | none => rw [h] at e; cases e
  | some j =>
    rw [h] at e
    exact r.get e
theorem atI_map {α β : Type} (f : α → β) (xs : List α) (i : Int) : atI (xs.map f) i = (atI xs i).map f := by
  unfold atI
  rw [List.length_map]
  cases ixN xs.length i with
  | none => rfl
  | some j => simp
theorem q_ix : QIx X rIx3 := by
  intro value slice pins s σ H x y v u Q I rx ry ⟨wx, wy, G, q, r1, r2, g, h, hQ⟩ hsl
  cases r2 with
  | int i =>
    cases r1 with
    | tup hh rr =>
      obtain ⟨w, e, h⟩ := h
      obtain ⟨v', e', r'⟩ := rr.at e
      exact ix_tup value slice pins s σ H _ _ v u Q I rx ry ⟨_, _, _, v', rfl, rfl, SqT.of hh, e', hQ _ H _ G (TLe.refl H) r' g h⟩ hsl
    | scr hh =>
      obtain ⟨n, e, h⟩ := h
      exact ix_list value slice pins s σ H _ _ v u Q I rx ry ⟨_, _, _, .int n, rfl, rfl, hh.sq, by rw [atI_map, e]; rfl, hQ _ H _ G (TLe.refl H) (.int n) g h⟩ hsl
    | ref a =>
      obtain ⟨xs, w, ea, e, h⟩ := h
      obtain ⟨_, zs, e1, rr⟩ := g _ _ ea
      obtain ⟨v', e', r'⟩ := rr.at e
      exact ix_list value slice pins s σ H _ _ v u Q I rx ry ⟨_, _, _, v', rfl, rfl, SqL.of e1, e', hQ _ H _ G (TLe.refl H) r' g h⟩ hsl
    | _ => exact False.elim h
  | _ => cases r1 <;> exact False.elim h
end
end L2
namespace L2
open PySem PySem.Spec PyProof.Rows
mutual
noncomputable def W.flat : W → Bool
  | .tup xs => W.flats xs
  | .ref _ => false
  | .scr _ => false
  | _ => true
noncomputable def W.flats : List W → Bool
  | [] => true
  | x :: xs => W.flat x && W.flats xs
end
mutual
noncomputable def W.dep : W → Nat
  | .tup xs => W.deps xs + 1
  | _ => 0
noncomputable def W.deps : List W → Nat
  | [] => 0
  | x :: xs => max (W.dep x) (W.deps xs)
end
mutual
noncomputable def W.eq : W → W → Bool
  | .non, .non => true
  | .bl a, .bl b => a == b
  | .bl a, .int j => (if a then 1 else 0) == j
  | .int i, .bl b => i == (if b then 1 else 0)
  | .int i, .int j => i == j
  | .str x, .str y => x == y
  | .tup xs, .tup ys => W.eqs xs ys
  | _, _ => false
noncomputable def W.eqs : List W → List W → Bool
  | [], [] => true
  | x :: xs, y :: ys => W.eq x y && W.eqs xs ys
  | _, _ => false
end
theorem noFT {P : Prop} (h : false = true) : P := Bool.noConfusion h
theorem W.eq_int (i j : Int) : (W.int i).eq (W.int j) = (i == j) := rfl
theorem W.eq_tup (xs ys : List W) : (W.tup xs).eq (W.tup ys) = W.eqs xs ys := rfl
mutual
theorem W.eq_refl : ∀ w : W, w.flat = true → w.eq w = true
  | .non, _ => rfl
  | .bl b, _ => beq_self_eq_true b
  | .int i, _ => beq_self_eq_true i
  | .str x, _ => beq_self_eq_true x
  | .tup xs, h => W.eqs_refl xs h
  | .ref _, h => noFT h
  | .scr _, h => noFT h
theorem W.eqs_refl : ∀ ws : List W, W.flats ws = true → W.eqs ws ws = true
  | [], _ => rfl
  | x :: xs, h => by
    have h' : x.flat = true ∧ W.flats xs = true := (Bool.and_eq_true _ _).mp h
    exact (Bool.and_eq_true _ _).mpr ⟨W.eq_refl x h'.1, W.eqs_refl xs h'.2⟩
end
mutual
theorem Rep.inj {K : PySem.W.Frag} {H : Hp} : ∀ {w u : W} {v : V}, w.flat = true → u.flat = true → Rep K H w v → Rep K H u v → w = u := by
  intro w u v h1 h2 r1 r2
  cases r1 with
  | non => cases r2; rfl
  | bl _ => cases r2; rfl
  | int _ => cases r2; rfl
  | str _ => cases r2; rfl
  | ref _ => exact noFT h1
  | scr _ => exact noFT h1
  | tup e1 r1 =>
    cases r2 with
    | ref _ => exact noFT h2
    | scr _ => exact noFT h2
    | tup e2 r2 =>
      rw [e1] at e2; cases e2
      rw [Reps.inj h1 h2 r1 r2]
theorem Reps.inj {K : PySem.W.Frag} {H : Hp} : ∀ {ws us : List W} {vs : List V}, W.flats ws = true → W.flats us = true → Reps K H ws vs → Reps K H us vs → ws = us := by
  intro ws us vs h1 h2 r1 r2
  cases r1 with
  | nil => cases r2; rfl
  | cons r1 s1 =>
    cases r2 with
    | cons r2 s2 =>
      simp only [W.flats, Bool.and_eq_true] at h1 h2
      rw [Rep.inj h1.1 h2.1 r1 r2, Reps.inj h1.2 h2.2 s1 s2]
end
theorem W.flats_get : ∀ {ws : List W} {j : Nat} {w : W}, W.flats ws = true → ws[j]? = some w → w.flat = true
  | [], _, _, _, e => by simp at e
  | x :: xs, 0, w, h, e => by
    have h' : x.flat = true ∧ W.flats xs = true := by simpa [W.flats] using h
    simp at e; subst e; exact h'.1
  | x :: xs, j + 1, w, h, e => by
    have h' : x.flat = true ∧ W.flats xs = true := by simpa [W.flats] using h
    exact W.flats_get h'.2 (by simpa using e)
theorem W.deps_get : ∀ {ws : List W} {j : Nat} {w : W}, ws[j]? = some w → w.dep ≤ W.deps ws
  | [], _, _, e => by simp at e
  | x :: xs, 0, w, e => by simp at e; subst e; simp [W.deps]; omega
  | x :: xs, j + 1, w, e => by
    have := W.deps_get (ws := xs) (j := j) (w := w) (by simpa using e)
    simp only [W.deps]; (clear e; omega)
theorem W.eqs_iff : ∀ (ws us : List W), W.eqs ws us = true ↔ ws.length = us.length ∧ ∀ (j : Nat) (a b : W), ws[j]? = some a → us[j]? = some b → W.eq a b = true
  | [], [] => by simp [W.eqs]
  | [], _ :: _ => by simp [W.eqs]
  | _ :: _, [] => by simp [W.eqs]
  | x :: xs, y :: ys => by
    rw [W.eqs, Bool.and_eq_true, W.eqs_iff xs ys]
    constructor
    · rintro ⟨h1, h2, h3⟩
      refine ⟨by simp [h2], fun j a b ea eb => ?_⟩
      cases j with
      | zero => simp at ea eb; subst ea eb; exact h1
      | succ j => exact h3 j a b (by simpa using ea) (by simpa using eb)
    · rintro ⟨h1, h2⟩
      exact ⟨h2 0 x y rfl rfl, by simpa using h1, fun j a b ea eb => h2 (j + 1) a b (by simpa using ea) (by simpa using eb)⟩
noncomputable def eqAtJ (ws us : List W) (j : Nat) : Bool := match ws[j]?, us[j]? with | some a, some b => W.eq a b | _, _ => true
theorem eqs_range (ws us : List W) : ((List.range (min ws.length us.length)).all (eqAtJ ws us) && (ws.length == us.length)) = W.eqs ws us := by
  rw [Bool.eq_iff_iff, Bool.and_eq_true, W.eqs_iff, List.all_eq_true, beq_iff_eq]
  constructor
  · rintro ⟨h1, h2⟩
    refine ⟨h2, fun j a b ea eb => ?_⟩
    have hj : j < ws.length := (List.getElem?_eq_some_iff.mp ea).1
    have := h1 j (List.mem_range.mpr (by (clear h1 ea eb; omega)))
    unfold eqAtJ at this
    rw [ea, eb] at this
    exact this
  · rintro ⟨h1, h2⟩
    refine ⟨fun j _ => ?_, h1⟩
    unfold eqAtJ
    split
    · rename_i a b ea eb; exact h2 j a b ea eb
    · rfl
section
variable {X : Cx} {pins : List (Addr × Obj)} {σ : St} {H : Hp} {s : Shared}
theorem Inv.tupH {a : Addr} {xs : List V} (I : Inv X pins σ H s) (h : H a = some (.tup xs)) : ∃ its : List Value, Vals xs its ∧ s.heap.IsTuple a its.toArray ∧ xs.length ≤ sizeLine := I.tuple (SqT.of h)
theorem eq_rep (I : Inv X pins σ H s) : ∀ (n : Nat) (A : Around) {w1 w2 : W} {v1 v2 : V} {u1 u2 : Value}, w1.dep < n → w1.flat = true → w2.flat = true → A.units + n < cLine → Rep X.K H w1 v1 → Rep X.K H w2 v2 → RelV v1 u1 → RelV v2 u2 →
    SeqAt.EqAt A s u1 u2 (w1.eq w2) ∧ SeqAt.RcAt A s u1 u2 (w1.eq w2) ∧ SeqAt.RcNeAt A s u1 u2 (!(w1.eq w2)) := by
  intro n
  induction n with
  | zero => intro A w1 w2 v1 v2 u1 u2 h; (clear I; omega)
  | succ n ih =>
    intro A w1 w2 v1 v2 u1 u2 hd f1 f2 hu r1 r2 q1 q2
    have hu0 : A.units < cLine := by (clear I ih f1 f2 r1 r2 q1 q2; omega)
    have hui : A.in1.units + n < cLine := by show A.units + 1 + n < cLine; (clear I ih hd f1 f2 r1 r2 q1 q2 hu0; omega)
    cases r1 with
    | ref a => exact noFT f1
    | scr a => exact noFT f1
    | non =>
      cases (show u1 = Value.none from q1)
      cases r2 with
      | ref a => exact noFT f2
      | scr a => exact noFT f2
      | non => cases (show u2 = Value.none from q2); exact ⟨SeqAt.EqAt.same _, SeqAt.RcAt.none_none, SeqAt.RcNeAt.none_none⟩
      | bl b => cases (show u2 = Value.bool b from q2); exact ⟨SeqAt.EqAt.none_bool b, SeqAt.RcAt.none_bool b, SeqAt.RcNeAt.none_bool b⟩
      | int b => obtain ⟨t, rfl⟩ := q2; exact ⟨SeqAt.EqAt.none_int b t, SeqAt.RcAt.none_int b t, SeqAt.RcNeAt.none_int b t⟩
      | str b => obtain ⟨t, rfl⟩ := q2; exact ⟨SeqAt.EqAt.none_str b t, SeqAt.RcAt.none_str b t, SeqAt.RcNeAt.none_str b t⟩
      | tup h r =>
        cases (show u2 = Value.ref _ from q2)
        obtain ⟨its, _, p, _⟩ := Inv.tupH I h
        exact ⟨SeqAt.EqAt.none_tuple p hu0, SeqAt.RcAt.none_tuple p hu0, SeqAt.RcNeAt.none_tuple p hu0⟩
    | bl a =>
      cases (show u1 = Value.bool a from q1)
      cases r2 with
      | ref a => exact noFT f2
      | scr a => exact noFT f2
      | non => cases (show u2 = Value.none from q2); exact ⟨SeqAt.EqAt.bool_none a, SeqAt.RcAt.bool_none a, SeqAt.RcNeAt.bool_none a⟩
      | bl b => cases (show u2 = Value.bool b from q2); exact ⟨SeqAt.EqAt.bool_bool a b, SeqAt.RcAt.bool_bool a b, SeqAt.RcNeAt.bool_bool a b⟩
      | int b => obtain ⟨t, rfl⟩ := q2; exact ⟨SeqAt.EqAt.bool_int a b t, SeqAt.RcAt.bool_int a b t, SeqAt.RcNeAt.bool_int a b t⟩
      | str b => obtain ⟨t, rfl⟩ := q2; exact ⟨SeqAt.EqAt.bool_str a b t, SeqAt.RcAt.bool_str a b t, SeqAt.RcNeAt.bool_str a b t⟩
      | tup h r =>
        cases (show u2 = Value.ref _ from q2)
        obtain ⟨its, _, p, _⟩ := Inv.tupH I h
        exact ⟨SeqAt.EqAt.bool_tuple a p hu0, SeqAt.RcAt.bool_tuple a p hu0, SeqAt.RcNeAt.bool_tuple a p hu0⟩
    | int a =>
      obtain ⟨ta, rfl⟩ := q1
      cases r2 with
      | ref a => exact noFT f2
      | scr a => exact noFT f2
      | non => cases (show u2 = Value.none from q2); exact ⟨SeqAt.EqAt.int_none a ta, SeqAt.RcAt.int_none a ta, SeqAt.RcNeAt.int_none a ta⟩
      | bl b => cases (show u2 = Value.bool b from q2); exact ⟨SeqAt.EqAt.int_bool a ta b, SeqAt.RcAt.int_bool a ta b, SeqAt.RcNeAt.int_bool a ta b⟩
      | int b => obtain ⟨t, rfl⟩ := q2; exact ⟨SeqAt.EqAt.int_int a ta b t, SeqAt.RcAt.int_int a ta b t, SeqAt.RcNeAt.int_int a ta b t⟩
      | str b => obtain ⟨t, rfl⟩ := q2; exact ⟨SeqAt.EqAt.int_str a ta b t, SeqAt.RcAt.int_str a ta b t, SeqAt.RcNeAt.int_str a ta b t⟩
      | tup h r =>
        cases (show u2 = Value.ref _ from q2)
        obtain ⟨its, _, p, _⟩ := Inv.tupH I h
        exact ⟨SeqAt.EqAt.int_tuple a ta p hu0, SeqAt.RcAt.int_tuple a ta p hu0, SeqAt.RcNeAt.int_tuple a ta p hu0⟩
    | str a =>
      obtain ⟨ta, rfl⟩ := q1
      cases r2 with
      | ref a => exact noFT f2
      | scr a => exact noFT f2
      | non => cases (show u2 = Value.none from q2); exact ⟨SeqAt.EqAt.str_none a ta, SeqAt.RcAt.str_none a ta, SeqAt.RcNeAt.str_none a ta⟩
      | bl b => cases (show u2 = Value.bool b from q2); exact ⟨SeqAt.EqAt.str_bool a ta b, SeqAt.RcAt.str_bool a ta b, SeqAt.RcNeAt.str_bool a ta b⟩
      | int b => obtain ⟨t, rfl⟩ := q2; exact ⟨SeqAt.EqAt.str_int a ta b t, SeqAt.RcAt.str_int a ta b t, SeqAt.RcNeAt.str_int a ta b t⟩
      | str b => obtain ⟨t, rfl⟩ := q2; exact ⟨SeqAt.EqAt.str_str a ta b t, SeqAt.RcAt.str_str a ta b t, SeqAt.RcNeAt.str_str a ta b t⟩
      | tup h r =>
        cases (show u2 = Value.ref _ from q2)
        obtain ⟨its, _, p, _⟩ := Inv.tupH I h
        exact ⟨SeqAt.EqAt.str_tuple a ta p hu0, SeqAt.RcAt.str_tuple a ta p hu0, SeqAt.RcNeAt.str_tuple a ta p hu0⟩
    | @tup a ws xs h r =>
      cases (show u1 = Value.ref _ from q1)
      obtain ⟨its, rv, p, _⟩ := Inv.tupH I h
      cases r2 with
      | ref a => exact noFT f2
      | scr a => exact noFT f2
      | non => cases (show u2 = Value.none from q2); exact ⟨SeqAt.EqAt.tuple_none p hu0, SeqAt.RcAt.tuple_none p hu0, SeqAt.RcNeAt.tuple_none p hu0⟩
      | bl b => cases (show u2 = Value.bool b from q2); exact ⟨SeqAt.EqAt.tuple_bool b p hu0, SeqAt.RcAt.tuple_bool b p hu0, SeqAt.RcNeAt.tuple_bool b p hu0⟩
      | int b => obtain ⟨t, rfl⟩ := q2; exact ⟨SeqAt.EqAt.tuple_int b t p hu0, SeqAt.RcAt.tuple_int b t p hu0, SeqAt.RcNeAt.tuple_int b t p hu0⟩
      | str b => obtain ⟨t, rfl⟩ := q2; exact ⟨SeqAt.EqAt.tuple_str b t p hu0, SeqAt.RcAt.tuple_str b t p hu0, SeqAt.RcNeAt.tuple_str b t p hu0⟩
      | @tup b us ys h2 r2 =>
        cases (show u2 = Value.ref _ from q2)
        obtain ⟨its2, rv2, p2, _⟩ := Inv.tupH I h2
        have g1 : W.flats ws = true := f1
        have g2 : W.flats us = true := f2
        have hd' : W.deps ws < n := by simp only [W.dep] at hd; (clear I ih hu hu0 hui h r f1 q1 rv p h2 r2 f2 q2 rv2 p2 g1 g2; omega)
        have e1 : its.length = ws.length := by rw [← rv.length, r.length]
        have e2 : its2.length = us.length := by rw [← rv2.length, r2.length]
        have he : ∀ j (h1 : j < its.toArray.size) (h2 : j < its2.toArray.size), SeqAt.EqAt A.in1 s its.toArray[j] its2.toArray[j] (eqAtJ ws us j) := fun j j1 j2 => by
          rw [List.size_toArray] at j1 j2
          have ea : ws[j]? = some ws[j] := List.getElem?_eq_getElem (by (clear I ih hu hu0 hui h r hd f1 q1 rv p h2 r2 f2 q2 rv2 p2 g1 g2 hd' e2 j2; omega))
          have eb : us[j]? = some us[j] := List.getElem?_eq_getElem (by (clear I ih hu hu0 hui h r hd f1 q1 rv p h2 r2 f2 q2 rv2 p2 g1 g2 hd' e1 j1 ea; omega))
          obtain ⟨va, ea1, ra⟩ := r.get ea
          obtain ⟨vb, eb1, rb⟩ := r2.get eb
          obtain ⟨ua, ea2, qa⟩ := rv.get ea1
          obtain ⟨ub, eb2, qb⟩ := rv2.get eb1
          have za : its.toArray[j] = ua := by
            have := (List.getElem?_eq_some_iff.mp ea2).2
            simpa using this
          have zb : its2.toArray[j] = ub := by
            have := (List.getElem?_eq_some_iff.mp eb2).2
            simpa using this
          rw [za, zb]
          have := (ih A.in1 (w1 := ws[j]) (w2 := us[j]) (Nat.lt_of_le_of_lt (W.deps_get ea) hd') (W.flats_get g1 ea) (W.flats_get g2 eb) hui ra rb qa qb).1
          unfold eqAtJ
          rw [ea, eb]
          exact this
        have er := eqs_range ws us
        have c1 := SeqAt.RcAt.tuples p p2 hu0 he
        have c2 := SeqAt.RcNeAt.tuples p p2 hu0 he
        rw [List.size_toArray, List.size_toArray, e1, e2, er] at c1 c2
        have ee : (W.tup ws).eq (W.tup us) = W.eqs ws us := rfl
        rw [ee]
        refine ⟨?_, c1, c2⟩
        by_cases hab : a = b
        · subst hab
          have z := Rep.inj f1 f2 (Rep.tup h r) (Rep.tup h2 r2)
          have t : W.eqs ws us = true := by
            cases z
            exact W.eqs_refl ws g1
          rw [t]
          exact SeqAt.EqAt.same _
        · exact SeqAt.EqAt.of_refs hab c1
end
section
variable {X : Cx}
noncomputable def rEq3 : W2 := fun x y G q => x.flat = true ∧ y.flat = true ∧ x.dep ≤ 150 ∧ q (.bl (x.eq y)) G
noncomputable def rNe3 : W2 := fun x y G q => x.flat = true ∧ y.flat = true ∧ x.dep ≤ 150 ∧ q (.bl (!(x.eq y))) G
theorem q_eq {k : Nat} (hr : Room k X.A) : QOp X (compareOp .Eq) rEq3 := by
  intro pins s σ H x y v u Q I rx ry ⟨wx, wy, G, q, r1, r2, g, ⟨f1, f2, hd, h⟩, hQ⟩
  exact (eq_rep I 151 X.A (by (clear hr I rx ry r1 r2 g f1 f2 h hQ; omega)) f1 f2 (by have := hr.un; (clear hr I rx ry r1 r2 g f1 f2 hd h hQ; omega)) r1 r2 rx ry).2.1 X.prog X.w X.xe _ ⟨.bl _, H, I, rfl, hQ _ H _ G (TLe.refl H) (.bl _) g h⟩
theorem q_ne {k : Nat} (hr : Room k X.A) : QOp X (compareOp .NotEq) rNe3 := by
  intro pins s σ H x y v u Q I rx ry ⟨wx, wy, G, q, r1, r2, g, ⟨f1, f2, hd, h⟩, hQ⟩
  exact (eq_rep I 151 X.A (by (clear hr I rx ry r1 r2 g f1 f2 h hQ; omega)) f1 f2 (by have := hr.un; (clear hr I rx ry r1 r2 g f1 f2 hd h hQ; omega)) r1 r2 rx ry).2.2 X.prog X.w X.xe _ ⟨.bl _, H, I, rfl, hQ _ H _ G (TLe.refl H) (.bl _) g h⟩
noncomputable def rSub3 : W2 := fun x y G q => match x, y with
  | .int i, .int j => q (.int (i - j)) G
  | .bl a, .bl b => q (.int (b2i a - b2i b)) G
  | _, _ => False
theorem q_sub : QOp X (binaryOp .Sub) rSub3 := by
  intro pins s σ H x y v u Q I rx ry ⟨wx, wy, G, q, r1, r2, g, h, hQ⟩
  cases r1 with
  | int i =>
    cases r2 with
    | int j => exact op_sub pins s σ H _ _ v u Q I rx ry ⟨_, _, rfl, rfl, hQ _ H _ G (TLe.refl H) (.int _) g h⟩
    | _ => exact False.elim h
  | bl a =>
    cases r2 with
    | bl b =>
      cases rx
      cases ry
      exact sub_bool ⟨.int _, H, I.tok _, ⟨_, rfl⟩, hQ _ H _ G (TLe.refl H) (.int _) g h⟩
    | _ => exact False.elim h
  | _ => exact False.elim h
noncomputable def isNon : W → Bool
  | .non => true
  | _ => false
noncomputable def rIsN (neg : Bool) : W2 := fun x y G q => y = .non ∧ q (.bl (neg ^^ isNon x)) G
noncomputable abbrev WO := WSt → Gp → (Option Int → Gp → Prop) → Prop
noncomputable def LO (K : PySem.W.Frag) (t : WO) : TO := fun σ H Q => ∃ τ G q, RelSt K H τ σ ∧ RelG K H G ∧ t τ G q ∧ ∀ o H1 G1, TLe H H1 → RelG K H1 G1 → q o G1 → Q o H1
noncomputable def QO (X : Cx) (e : Option Expr) (t : WO) : Prop := PO X e (LO X.K t)
theorem PO.imp {e : Option Expr} {t t' : TO} (h : PO X e t) (f : ∀ σ H Q, t' σ H Q → t σ H Q) : PO X e t' := fun pins s σ H Q I q => h pins s σ H Q I (f _ _ _ q)
noncomputable def wNoPart : WO := fun _ G q => q none G
noncomputable def wPart (t : WE) : WO := fun τ G q => t τ G fun x G1 => match x with | .int i => q (some i) G1 | _ => False
theorem qo_none : QO X none wNoPart := po_none.imp fun σ H Q ⟨τ, G, q, hs, hg, ht, hQ⟩ => hQ none H G (TLe.refl H) hg ht
theorem qo_some {e : Expr} {te : WE} (h : QE X e te) : QO X (some e) (wPart te) :=
  (po_some h).imp fun σ H Q ⟨τ, G, q, hs, hg, ht, hQ⟩ => ⟨τ, G, _, hs, hg, ht, fun v H1 w G1 t1 r1 g1 q1 => by
    split at q1
    · cases r1
      exact ⟨_, rfl, hQ _ H1 G1 t1 g1 q1⟩
    · exact q1.elim⟩
noncomputable def cutW (xs : List W) (lo hi : Option Int) : List W := (xs.drop (HT.sIx xs.length 0 lo)).take (HT.sIx xs.length xs.length hi - HT.sIx xs.length 0 lo)
theorem Reps.cut {K : PySem.W.Frag} {H : Hp} {ws : List W} {vs : List V} (r : Reps K H ws vs) (lo hi : Option Int) : Reps K H (cutW ws lo hi) (cutV vs lo hi) := by
  unfold cutW cutV
  rw [r.length]
  exact (r.drop _).take _
noncomputable abbrev W3 := W → Option Int → Option Int → Gp → WK → Prop
noncomputable def rSl3 : W3 := fun x lo hi G q => match x with
  | .tup xs => q (.tup (cutW xs lo hi)) G
  | .scr ns => ns.length ≤ 100000 ∧ ∀ p, G p = none → q (.ref p) (updG G p (.lst (cutW (ns.map W.int) lo hi)))
  | .ref a => ∃ xs, G a = some (.lst xs) ∧ ∀ p, G p = none → q (.ref p) (updG G p (.lst (cutW xs lo hi)))
  | _ => False
theorem cutW_length (xs : List W) (lo hi : Option Int) : (cutW xs lo hi).length ≤ xs.length := by
  unfold cutW
  rw [List.length_take, List.length_drop]
  exact Nat.le_trans (Nat.min_le_right _ _) (Nat.sub_le _ _)
theorem cutW_whole {xs : List W} {lo hi : Option Int} (h : HT.sIx xs.length 0 lo = 0 ∧ HT.sIx xs.length xs.length hi = xs.length) : cutW xs lo hi = xs := by
  unfold cutW
  rw [h.1, h.2, List.drop_zero, Nat.sub_zero, List.take_length]
theorem tup_whole {prog : Program} {w : World} {A : Around} {E : Value → Shared → Prop} {s : Shared} {t sl : Addr} {items : Array Value} {vl vu : Value} {lo hi : Option Int} {Q : Value → Shared → Prop} (ht : IsTup s.heap t items) (hs : s.heap.IsSliceOf sl vl vu .none) (pl : IsPart vl lo) (pu : IsPart vu hi)
    (hw : HT.sIx items.size 0 lo = 0 ∧ HT.sIx items.size items.size hi = items.size) (h : Q (.ref t) s) : wpAny (model prog w) A (getItem (.ref t) (.ref sl)) Q E s := by
  obtain ⟨os, hos, hcs, hds⟩ := id hs
  have hTs : s.TypeIs (.ref sl) "slice" := ⟨os, hos, hcs⟩
  unfold getItem
  try with_reducible refine wpAny_holding ?_
  first | refine wpAny_bind (wpAny_pure ?_) | skip
  refine wpAny_bind (wpAny_sequenceKey ht.typeIs (by decide) ?_)
  refine wpAny_bind (wpAny_callSpecial?_slot (name := Str.ofString "__getitem__") ht.typeIs PyProof.Rows.slot_tuple_getitem
    (wpAny_call_entry PyProof.Rows.slot_tuple_getitem ht.typeIs entry_tuple_getitem ?_ (args_tuple_getitem _ _)))
  show wpAny _ _ (Builtin.Tuple.tupleItemsOf (.ref t) >>= _) _ _ s
  refine wpAny_bind (tupleItemsOf_ ht ?_)
  refine wpAny_bind (wpAny_typeOf hTs ?_)
  rw [if_pos (by decide)]
  refine wpAny_bind (HT.sliceApplied_gen hs pl pu ?_)
  have hyes : (((HT.sIx items.size 0 lo : Nat) : Int) == 0 && (1 : Int) == 1 && (HT.sIx items.size items.size hi - HT.sIx items.size 0 lo) == items.size) = true := by
    rw [hw.1, hw.2]; simp
  show wpAny _ _ (if (((HT.sIx items.size 0 lo : Nat) : Int) == 0 && (1 : Int) == 1 && (HT.sIx items.size items.size hi - HT.sIx items.size 0 lo) == items.size) = true then _ else _) _ _ s
  rw [if_pos hyes]
  refine wpAny_bind ?_
  show wpAny _ _ (typeOf (.ref t) >>= _) _ _ s
  refine wpAny_bind (wpAny_typeOf ht.typeIs (wpAny_pure ?_))
  rw [if_pos (by simp)]
  exact wpAny_bind (wpAny_rule (wpAny_pure ⟨_, rfl, wpAny_pure h⟩))
noncomputable def LSl (K : PySem.W.Frag) (r : W3) : V → Option Int → Option Int → Hp → VK → Prop := fun x lo hi H Q => ∃ w G q, Rep K H w x ∧ RelG K H G ∧ r w lo hi G q ∧ ∀ v H1 w G1, TLe H H1 → Rep K H1 w v → RelG K H1 G1 → q w G1 → Q v H1
theorem q_sl : SlR X (LSl X.K rSl3) := by
  intro pins s σ H x v vl vu lo hi sl Q I rx hs pl pu ⟨w, G, q, r, g, h, hQ⟩
  unfold rSl3 at h
  split at h
  · cases r with
    | @tup a ws xs hh rr =>
      by_cases hw : HT.sIx xs.length 0 lo = 0 ∧ HT.sIx xs.length xs.length hi = xs.length
      · cases rx
        obtain ⟨its, rv, ht, hz⟩ := I.tuple (SqT.of hh)
        have hlen : its.toArray.size = xs.length := by rw [List.size_toArray]; exact rv.length.symm
        refine ⟨"tuple", _, PyProof.Rows.slot_tuple_getitem.lookup, ht.typeIs, ?_⟩
        refine tup_whole ht hs pl pu (by rw [hlen]; exact hw) ⟨.ref a, H, I, rfl, ?_⟩
        rw [cutW_whole (by rw [rr.length]; exact hw)] at h
        exact hQ _ H _ G (TLe.refl H) (.tup hh rr) g h
      · exact sl_tup pins s σ H _ v vl vu lo hi sl Q I rx hs pl pu ⟨a, xs, rfl, SqT.of hh, hw, fun p hp => hQ _ _ _ G (TLe.new hp _) (.tup upd_same ((rr.cut lo hi).mono (TLe.new hp _))) (g.keep hp _) h⟩
  · rename_i ns
    cases r with
    | scr hh =>
      refine sl_list pins s σ H _ v vl vu lo hi sl Q I rx hs pl pu ⟨_, _, rfl, hh.sq, fun p hp => hQ _ _ _ _ (TLe.new hp _) (.ref p) (g.put (TLe.new hp _) ((Reps.ints ns).cut lo hi) ?_) (h.2 p (g.fresh hp))⟩
      exact Nat.le_trans (cutW_length _ _ _) (by rw [List.length_map]; exact h.1)
  · obtain ⟨xs, e, h⟩ := h
    cases r
    obtain ⟨hl, zs, e1, rr⟩ := g _ _ e
    exact sl_list pins s σ H _ v vl vu lo hi sl Q I rx hs pl pu ⟨_, zs, rfl, SqL.of e1, fun p hp => hQ _ _ _ _ (TLe.new hp _) (.ref p) (g.put (TLe.new hp _) (rr.cut lo hi) (Nat.le_trans (cutW_length _ _ _) hl)) (h p (g.fresh hp))⟩
  · exact h.elim
noncomputable def wSl (te : WE) (tl th : WO) : WE := fun τ G q => te τ G fun x G1 => tl τ G1 fun l G2 => th τ G2 fun u G3 => rSl3 x l u G3 q
theorem qe_slice {e : Expr} {lo hi : Option Expr} {te : WE} {tl th : WO} {pos p2 : Pos} (he : QE X e te) (hl : QO X lo tl) (hu : QO X hi th) : QE X (.Subscript e (.Slice lo hi none p2) pos) (wSl te tl th) :=
  (pe_slice q_sl he hl hu).imp fun σ H Q z0 => z0.el fun τ G q hs hg ht hQ => ⟨τ, G, _, hs, hg, ht, fun v H1 w G1 t1 r1 g1 q1 => ⟨τ, G1, _, hs.mono t1, g1, q1, fun l H2 G2 t2 g2 q2 =>
    ⟨τ, G2, _, (hs.mono t1).mono t2, g2, q2, fun u H3 G3 t3 g3 q3 => ⟨w, G3, q, (r1.mono t2).mono t3, g3, q3, fun v4 H4 w4 G4 t4 => hQ v4 H4 w4 G4 (((t1.trans t2).trans t3).trans t4)⟩⟩⟩⟩
theorem boot_isi : bootBuiltins "isinstance" = some (.builtin "isinstance") := by decide +kernel
noncomputable def tyN (G : Gp) : W → Option String
  | .non => some "NoneType"
  | .bl _ => some "bool"
  | .int _ => some "int"
  | .str _ => some "str"
  | .tup _ => some "tuple"
  | .ref a => match G a with | some (.lst _) => some "list" | some .dct => some "dict" | some (.dic _) => some "dict" | _ => none
  | .scr _ => none
noncomputable def subN : String → String → Bool
  | "int", "int" => true
  | "bool", "int" => true
  | "bool", "bool" => true
  | "tuple", "tuple" => true
  | "list", "list" => true
  | "str", "str" => true
  | _, _ => false
noncomputable def isiT (T : String) : Prop := T = "int" ∨ T = "bool" ∨ T = "tuple" ∨ T = "list" ∨ T = "str"
theorem kit_of {K : PySem.W.Frag} {t T : String} (ht : t = "NoneType" ∨ t = "bool" ∨ t = "int" ∨ t = "str" ∨ t = "tuple" ∨ t = "list" ∨ t = "dict") (hT : isiT T) : PySem.W.kitOne K (.type t) (.type T) = some (subN t T) := by
  rcases ht with rfl | rfl | rfl | rfl | rfl | rfl | rfl <;> rcases hT with rfl | rfl | rfl | rfl | rfl <;> first | rfl | kernel_rfl | decide +kernel
noncomputable def wIsi (T : String) (te : WE) : WE := fun τ G q => te τ G fun x G1 => match tyN G1 x with | some t => q (.bl (subN t T)) G1 | none => False
theorem tyOf_rep {K : PySem.W.Frag} {H : Hp} {G : Gp} {w : W} {v : V} {t : String} (g : RelG K H G) (r : Rep K H w v) (e : tyN G w = some t) : TyOf K H v (.type t) ∧ (t = "NoneType" ∨ t = "bool" ∨ t = "int" ∨ t = "str" ∨ t = "tuple" ∨ t = "list" ∨ t = "dict") := by
  unfold tyN at e
  cases r with
  | non => cases e; exact ⟨.non, by simp⟩
  | bl b => cases e; exact ⟨.bl b, by simp⟩
  | int i => cases e; exact ⟨.int i, by simp⟩
  | str x => cases e; exact ⟨.str x, by simp⟩
  | tup h _ => cases e; exact ⟨.tup h, by simp⟩
  | scr h => cases e
  | ref a =>
    simp only at e
    split at e
    · rename_i ws e1
      cases e
      obtain ⟨_, xs, e2, _⟩ := g a _ e1
      exact ⟨.lst e2, by simp⟩
    · rename_i e1
      cases e
      exact ⟨.dK (g a _ e1), by simp⟩
    · rename_i kvs e1
      cases e
      obtain ⟨_, kvs', e2, _⟩ := g a _ e1
      exact ⟨.dK e2, by simp⟩
    · cases e
theorem q_isi {T : String} (hT : isiT T) {pins : List (Addr × Obj)} {σ : St} {H : Hp} {s : Shared} {v : V} {u : Value} {w : W} {G : Gp} {q : WK} {Q : VK} (I : Inv X pins σ H s) (ru : RelV v u) (r : Rep X.K H w v) (g : RelG X.K H G)
    (h : match tyN G w with | some t => q (.bl (subN t T)) G | none => False) (hQ : ∀ v H1 w G1, TLe H H1 → Rep X.K H1 w v → RelG X.K H1 G1 → q w G1 → Q v H1) :
    wpAny (model X.prog X.w) X.A (call (.builtin "isinstance") [u, .type T]) (EP X pins σ Q) X.xe s := by
  split at h
  · rename_i t e
    obtain ⟨ty, hk⟩ := tyOf_rep g r e
    exact isinst_ok I ru ty (kit_of hk hT) fun tk => ⟨.bl _, H, I.tok tk, rfl, hQ _ H _ G (TLe.refl H) (.bl _) g h⟩
  · exact h.elim
theorem qe_isi {T : String} {x : Str} {e : Expr} {te : WE} {p p2 pos : Pos} (hT : isiT T) (hv : bootBuiltins x = some (.type T)) (hm : X.mg x = none) (hgx : Gl X x) (hm1 : X.mg "isinstance" = none) (hg1 : Gl X "isinstance") (he : QE X e te) (hn : x ≠ "__name__" := by decide) (hd : (x == ("__debug__" : Str)) = false := by decide)
    (hs1 : starEach [e, .Name x p2] X.env = (false, eval e X.env) :: starEach [.Name x p2] X.env := by rfl) (hs2 : starEach [.Name x p2] X.env = (false, eval (.Name x p2) X.env) :: starEach [] X.env := by rfl)
    (hpl : (backTo pos (starEach [.Name x p2] X.env)).any (·.1) = false := by rfl) : QE X (.Call (.Name "isinstance" p) [e, .Name x p2] [] pos) (wIsi T te) := by
  have hb : PE X (.Name x p2) (tC (.ty T)) := pe_bltn hgx hm hv rfl hn hd
  have ha : PA X [e, .Name x p2] (tCons (LEx X.K te) (tCons (tC (.ty T)) tNil)) := pa_cons he (pa_cons hb pa_nil hs2) hs1
  have hc : CallR X (.builtin "isinstance") (fun vs H Q => ∃ (v : V) (w : W) (G : Gp) (q : WK), vs = [v, .ty T] ∧ Rep X.K H w v ∧ RelG X.K H G ∧ (match tyN G w with | some t => q (.bl (subN t T)) G | none => False) ∧ ∀ v H1 w G1, TLe H H1 → Rep X.K H1 w v → RelG X.K H1 G1 → q w G1 → Q v H1) := by
    intro pins s σ H xs us Q I r ⟨v, w, G, q, e1, r1, g1, h, hQ⟩
    subst e1
    obtain ⟨u, u2, rfl, ru, ru2⟩ := vals2 r
    cases (show u2 = Value.type T from ru2)
    exact q_isi hT I ru r1 g1 h hQ
  exact (pe_callB hc hg1 hm1 boot_isi ha (by decide) (by decide) hs1 hpl).imp fun σ H Q z0 => z0.el fun τ G q hs hg ht hQ => ⟨τ, G, _, hs, hg, ht, fun v H1 w G1 t1 r1 g1 q1 =>
    ⟨v, w, G1, q, rfl, r1, g1, q1, fun v2 H2 w2 G2 t2 => hQ v2 H2 w2 G2 (t1.trans t2)⟩⟩
noncomputable def cSum : List W → Gp → WK → Prop := fun ws G q => match ws with
  | [.ref a] => ∃ ns : List Int, G a = some (.lst (ns.map W.int)) ∧ q (.int ns.sum) G
  | _ => False
theorem Reps.ints_of {K : PySem.W.Frag} {H : Hp} : ∀ {ns : List Int} {vs : List V}, Reps K H (ns.map W.int) vs → vs = ns.map V.int
  | [], _, r => by cases r; rfl
  | n :: ns, _, r => by
    cases r with
    | cons r rs =>
      cases r
      rw [Reps.ints_of rs]
      rfl
theorem q_sum (hc : X.calm = true) : QCall X (.builtin "sum") cSum := by
  intro pins s σ H xs us Q I r ⟨ws, G, q, rw', g, h, hQ⟩
  unfold cSum at h
  split at h
  · rename_i a
    obtain ⟨ns, e, h⟩ := h
    obtain ⟨v, rfl, r1⟩ := rw'.one
    cases r1
    obtain ⟨_, zs, e1, rr⟩ := g a _ e
    obtain rfl := rr.ints_of
    obtain ⟨u, rfl, ru⟩ := vals1 r
    cases (show u = Value.ref a from ru)
    obtain ⟨its, rv, p, hz⟩ := I.list (SqL.of e1)
    have hi : IntsAre its ns := L2.intsAre_of rv
    obtain ⟨ys, ey⟩ := hi.allInts.items
    have hn : (ys.toList.map (·.1)) = ns := by rw [← nums_intItems, ← ey, ← hi.numsOf]
    have hl : s.heap.IsList a (intItems ys) := by rw [← ey]; exact p.isList
    refine sum_intListG (I.ok.hd hc) hl fun h' tk t' hk => ⟨.int _, H, I.kept hk, ⟨t', rfl⟩, ?_⟩
    have es : preSum (numAt ys) ys.size = ns.sum := by rw [preSum_eq, List.take_of_length_le (by simp), hn]
    rw [es]
    exact hQ _ H _ G (TLe.refl H) (.int _) g h
  · exact h.elim
noncomputable def wApp (to te : WE) : WE := fun τ G q => to τ G fun x G1 => match x with
  | .ref a => (∃ xs, G1 a = some (.lst xs)) ∧ te τ G1 fun y G2 => ∃ ys, G2 a = some (.lst ys) ∧ ys.length + 1 ≤ 100000 ∧ q .non (updG G2 a (.lst (ys ++ [y])))
  | _ => False
theorem qe_app {o e : Expr} {to te : WE} {apos cpos : Pos} (ho : QE X o to) (he : QE X e te)
    (hbase : attributeBase o "append" X.env (eval o X.env) = eval o X.env := by rfl)
    (hfew : ((backTo cpos (starEach [e] X.env)).all (fun x => !x.1) && (backToKw cpos (keywordEach [] X.env)).all (fun x => x.1.isSome)
      && decide (([e] : List Expr).length + ([] : List Keyword).length + (if ([] : List Keyword).isEmpty then 0 else 1) < 30)) = true := by rfl)
    (hline : (apos.endLine == cpos.line) = true := by rfl) (hs : starEach [e] X.env = (false, eval e X.env) :: starEach [] X.env := by rfl) :
    QE X (.Call (.Attribute o "append" apos) [e] [] cpos) (wApp to te) :=
  (pe_bm PySem.F.plainAttrs_list PySem.F.slot_list_append PySem.F.type_list_append mt_append ho (pa_cons he pa_nil hs) hbase hfew hline hs rfl).imp fun σ H Q z0 => z0.el fun τ G q hs hg ht hQ =>
    ⟨τ, G, _, hs, hg, ht, fun v H1 w G1 t1 r1 g1 q1 => by
      split at q1
      · rename_i a
        cases r1
        obtain ⟨⟨xs, e1⟩, q1⟩ := q1
        obtain ⟨_, xs', h1, _⟩ := g1 a _ e1
        refine ⟨.inl ⟨rfl, xs', SqL.of h1⟩, τ, G1, _, hs.mono t1, g1, q1, fun v2 H2 w2 G2 t2 r2 g2 q2 => ?_⟩
        obtain ⟨ys, e2, hl, q2⟩ := q2
        obtain ⟨_, ys', h2, rr⟩ := g2 a _ e2
        refine ⟨a, ys', v2, rfl, rfl, h2, ?_, ?_⟩
        · rw [← rr.length]
          exact line_le hl
        · exact hQ _ _ _ _ ((t1.trans t2).trans (TLe.lst h2 _)) .non (g2.put (TLe.lst h2 _) (rr.append (.cons r2 .nil)) (by rw [List.length_append]; exact hl)) q2
      · exact q1.elim⟩
end
end L2
namespace L2
open PySem PySem.Spec PyProof.Rows
structure Itn (K : PySem.W.Frag) (J : It) (ws : List W) (C : Gp → Prop) (H0 : Hp) : Prop where
  stop : ∀ i H G, TLe H0 H → RelG K H G → C G → ws.length ≤ i → J.stop i H
  go : ∀ i w H G, TLe H0 H → RelG K H G → C G → ws[i]? = some w → J.go i H ∧ ∀ x H', J.yld i H x H' → TLe H H' ∧ Rep K H' w x ∧ RelG K H' G
noncomputable abbrev WI := WSt → Gp → (List W → (Gp → Prop) → Gp → Prop) → Prop
noncomputable def LI (K : PySem.W.Frag) (t : WI) : TI := fun σ H R => ∃ τ G r, RelSt K H τ σ ∧ RelG K H G ∧ t τ G r ∧ ∀ J H1 ws C G1, TLe H H1 → RelG K H1 G1 → Itn K J ws C H1 → r ws C G1 → R J H1
noncomputable def QI (X : Cx) (tg iter : Expr) (t : WI) : Prop := PI X tg iter (LI X.K t)
section
variable {X : Cx} {tg : Expr}
theorem PI.imp {e : Expr} {t t' : TI} (h : PI X tg e t) (f : ∀ σ H R, t' σ H R → t σ H R) : PI X tg e t' := fun pins s σ H R I q => h pins s σ H R I (f _ _ _ q)
theorem pi_seq {l : Expr} {tl : TE} (hl : PE X l tl) : PI X tg l (fun σ H R => tl σ H fun x H1 => ∃ a, x = .ref a ∧ (((∃ xs, SqL X.K H1 a xs) ∧ R (Itl X.K a) H1) ∨ ((∃ xs, SqT X.K H1 a xs) ∧ R (Itt X.K a) H1))) := by
  intro pins s σ H R I h
  refine thn (hl pins s σ H _ I h) fun v s1 ⟨x, H1, I1, r1, q1⟩ => ?_
  obtain ⟨a, e, q1⟩ := q1
  subst e
  cases r1
  rcases q1 with ⟨⟨xs, hq⟩, q⟩ | ⟨⟨xs, hq⟩, q⟩
  · obtain ⟨its, rv, p, hz⟩ := I1.list hq
    refine wpAny_pyIter_list p.isList ?_
    refine ⟨s1.heap.objs.size, [s1.heap.objs.size], _, _, H1, rfl, I1.kept (t' := s1.toks) fun b o e => Heap.get?_push_of_some _ e, turn_list a _, ⟨_, Heap.get?_push_size _ rfl, rfl, rfl⟩, fun b hb => ?_, q⟩
    have e : b = s1.heap.objs.size := by simpa using hb
    subst e
    exact I1.fpOk (Nat.le_refl _) (I1.hok.fresh (Nat.le_refl _))
  · obtain ⟨its, rv, p, hz⟩ := I1.tuple hq
    refine wpAny_pyIter_tuple (show s1.heap.IsTuple a its.toArray from p) ?_
    refine ⟨s1.heap.objs.size, [s1.heap.objs.size], _, _, H1, rfl, I1.kept (t' := s1.toks) fun b o e => Heap.get?_push_of_some _ e, turn_tuple a _, ⟨_, Heap.get?_push_size _ rfl, rfl, rfl⟩, fun b hb => ?_, q⟩
    have e : b = s1.heap.objs.size := by simpa using hb
    subst e
    exact I1.fpOk (Nat.le_refl _) (I1.hok.fresh (Nat.le_refl _))
theorem itn_tup {K : PySem.W.Frag} {a : Addr} {ws : List W} {xs : List V} {H : Hp} (h : H a = some (.tup xs)) (r : Reps K H ws xs) : Itn K (Itt K a) ws (fun _ => True) H where
  stop := fun i H1 G t g _ hl => ⟨xs, SqT.of (t.tup _ _ h), by rw [← r.length]; exact hl⟩
  go := fun i w H1 G t g _ e => by
    obtain ⟨v, e1, rv⟩ := r.get e
    refine ⟨⟨xs, v, SqT.of (t.tup _ _ h), e1⟩, fun x H' ⟨eH, hy⟩ => ?_⟩
    subst eH
    have e2 := hy xs (SqT.of (t.tup _ _ h))
    rw [e1] at e2; cases e2
    exact ⟨TLe.refl _, rv.mono t, g⟩
theorem itn_lst {K : PySem.W.Frag} {a : Addr} {ws : List W} {H : Hp} : Itn K (Itl K a) ws (fun G => G a = some (.lst ws)) H where
  stop := fun i H1 G t g e hl => by
    obtain ⟨_, xs, h1, r⟩ := g a _ e
    exact ⟨xs, SqL.of h1, by rw [← r.length]; exact hl⟩
  go := fun i w H1 G t g eG e => by
    obtain ⟨_, xs, h1, r⟩ := g a _ eG
    obtain ⟨v, e1, rv⟩ := r.get e
    refine ⟨⟨xs, v, SqL.of h1, e1⟩, fun x H' ⟨eH, hy⟩ => ?_⟩
    subst eH
    have e2 := hy xs (SqL.of h1)
    rw [e1] at e2; cases e2
    exact ⟨TLe.refl _, rv, g⟩
theorem itn_scr {K : PySem.W.Frag} {a : Addr} {ns : List Int} {H : Hp} (h : Scr K H a ns) : Itn K (Itl K a) (ns.map W.int) (fun _ => True) H where
  stop := fun i H1 G t g _ hl => ⟨_, (h.mono t).sq, by simpa using hl⟩
  go := fun i w H1 G t g _ e => by
    have r : Reps K H1 (ns.map W.int) (ns.map V.int) := Reps.ints ns
    obtain ⟨v, e1, rv⟩ := r.get e
    refine ⟨⟨_, v, (h.mono t).sq, e1⟩, fun x H' ⟨eH, hy⟩ => ?_⟩
    subst eH
    have e2 := hy _ (h.mono t).sq
    rw [e1] at e2; cases e2
    exact ⟨TLe.refl _, rv, g⟩
noncomputable def jSeq (te : WE) : WI := fun τ G r => te τ G fun x G1 => match x with
  | .tup ws => r ws (fun _ => True) G1
  | .scr ns => r (ns.map W.int) (fun _ => True) G1
  | .ref a => ∃ ws, G1 a = some (.lst ws) ∧ r ws (fun G => G a = some (.lst ws)) G1
  | _ => False
theorem qi_seq {l : Expr} {te : WE} (hl : QE X l te) : QI X tg l (jSeq te) :=
  (pi_seq hl).imp fun σ H R ⟨τ, G, r, hs, hg, ht, hR⟩ => ⟨τ, G, _, hs, hg, ht, fun v H1 w G1 t1 r1 g1 q1 => by
    split at q1
    · cases r1 with
      | tup h rr => exact ⟨_, rfl, .inr ⟨⟨_, SqT.of h⟩, hR _ H1 _ _ G1 t1 g1 (itn_tup h rr) q1⟩⟩
    · cases r1 with
      | scr h => exact ⟨_, rfl, .inl ⟨⟨_, h.sq⟩, hR _ H1 _ _ G1 t1 g1 (itn_scr h) q1⟩⟩
    · obtain ⟨ws, e, q1⟩ := q1
      cases r1
      obtain ⟨_, xs, h1, _⟩ := g1 _ _ e
      exact ⟨_, rfl, .inl ⟨⟨xs, SqL.of h1⟩, hR _ H1 _ _ G1 t1 g1 itn_lst q1⟩⟩
    · exact q1.elim⟩
noncomputable def upW (n : Nat) : List W := (List.range n).map fun (i : Nat) => W.int (i : Int)
theorem itn_rng {K : PySem.W.Frag} {n : Nat} {H : Hp} : Itn K (Itr 0 n) (upW n) (fun _ => True) H where
  stop := fun i H1 G t g _ hl => by have h : n ≤ i := by simpa [upW] using hl
                                    exact h
  go := fun i w H1 G t g _ e => by
    unfold upW at e
    rw [List.getElem?_map] at e
    have hi : i < n := by
      cases h : (List.range n)[i]? with
      | none => rw [h] at e; cases e
      | some k =>
        have := (List.getElem?_eq_some_iff.mp h).1
        simpa using this
    rw [List.getElem?_range hi] at e
    cases e
    refine ⟨hi, fun x H' ⟨eH, hy⟩ => ?_⟩
    subst eH
    subst hy
    exact ⟨TLe.refl _, by simpa using Rep.int _, g⟩
noncomputable def jRng (ta : WA) : WI := fun τ G r => ta τ G fun ws G1 => match ws with
  | [.int j] => -(2 ^ 62) ≤ j ∧ j < 2 ^ 62 ∧ r (upW j.toNat) (fun _ => True) G1
  | _ => False
theorem qi_range {a : Expr} {ta : WA} {p pos : Pos} (hg : Gl X "range") (hm : X.mg "range" = none) (ha : QA X [a] ta) (hs : starEach [a] X.env = [(false, eval a X.env)] := by rfl) : QI X tg (.Call (.Name "range" p) [a] [] pos) (jRng ta) :=
  (pi_range1 hg hm ha hs).imp fun σ H R ⟨τ, G, r, hs, hg, ht, hR⟩ => ⟨τ, G, _, hs, hg, ht, fun vs H1 ws G1 t1 r1 g1 q1 => by
    split at q1
    · obtain ⟨v, rfl, r2⟩ := r1.one
      cases r2 with
      | int j => exact ⟨_, rfl, q1.1, q1.2.1, hR _ H1 _ _ G1 t1 g1 itn_rng q1.2.2⟩
    · exact q1.elim⟩
noncomputable def loopW (C : Gp → Prop) (g : WG) (tb : WS) (d : WEnds) : List W → WSt → Gp → Prop
  | [], τ, G => C G ∧ d.nx τ G
  | w :: ws, τ, G => C G ∧ g w τ G fun τ2 G2 => tb { d with nx := loopW C g tb d ws, ct := loopW C g tb d ws, bk := d.nx } τ2 G2
noncomputable def wFor (wi : WI) (g : WG) (tb : WS) : WS := fun d τ G => wi τ G fun ws C G1 => loopW C g tb d ws τ G1
theorem qs_for {iter : Expr} {body : List Stmt} {wi : WI} {g : WG} {tb : WS} {pos : Pos} (hp : PassesOwn (model X.prog X.w) X.A X.env X.xe) (hc : X.calm = true) (hi : QI X tg iter wi) (hg : QG X tg g) (hb : QSs X body tb)
    (hs : ∀ x, foldedSetIterable iter X.env x = pure x := by intro _; rfl) : QS X (.For tg iter body [] pos) (wFor wi g tb) :=
  (ps_for hp hc hi hg hb hs).imp fun D σ H z0 => z0.el fun τ G d hs hg ht l => ⟨τ, G, _, hs, hg, ht, fun J H1 ws C G1 t1 g1 it q1 => by
    refine ⟨fun i m σ2 H2 => ∃ τ2 G2, m = ws.length - i ∧ i ≤ ws.length ∧ TLe H1 H2 ∧ RelSt X.K H2 τ2 σ2 ∧ RelG X.K H2 G2 ∧ loopW C g tb d (ws.drop i) τ2 G2, ⟨ws.length, τ, G1, by simp, Nat.zero_le _, TLe.refl _, hs.mono t1, g1, by simpa using q1⟩, ?_⟩
    rintro i m σ2 H2 ⟨τ2, G2, rfl, hi, t2, s2, g2, q2⟩
    by_cases hlt : i < ws.length
    · have ed : ws.drop i = ws[i] :: ws.drop (i + 1) := List.drop_eq_getElem_cons hlt
      rw [ed] at q2
      obtain ⟨c2, q2⟩ := q2
      obtain ⟨go, yl⟩ := it.go i ws[i] H2 G2 t2 g2 c2 (List.getElem?_eq_getElem hlt)
      refine .inr ⟨go, fun σ3 H3 => ∃ τ3 G3, TLe H1 H3 ∧ RelSt X.K H3 τ3 σ3 ∧ RelG X.K H3 G3 ∧ loopW C g tb d (ws.drop (i + 1)) τ3 G3, ?_, fun x H' hy => ?_⟩
      · rintro σ3 H3 ⟨τ3, G3, t3, s3, g3, q3⟩
        exact ⟨ws.length - (i + 1), by (clear hp hc hb z0 hs hg ht l t1 g1 it q1 hi t2 s2 g2 ed c2 q2 go yl t3 s3 g3 q3; omega), τ3, G3, rfl, hlt, t3, s3, g3, q3⟩
      · obtain ⟨tx, rx, gx⟩ := yl x H' hy
        refine ⟨ws[i], τ2, G2, _, rx, s2.mono tx, gx, q2, fun σ3 H3 τ3 G3 t3 s3 g3 q3 => ?_⟩
        have tt := (t2.trans tx).trans t3
        have t0 := t1.trans tt
        exact ⟨τ3, G3, _, s3, g3, q3, ⟨fun σ4 H4 τ4 G4 t4 s4 g4 q4 => ⟨τ4, G4, tt.trans t4, s4, g4, q4⟩, fun v H4 w G4 t4 => l.rt v H4 w G4 (t0.trans t4), fun σ4 H4 τ4 G4 t4 => l.nx σ4 H4 τ4 G4 (t0.trans t4), fun σ4 H4 τ4 G4 t4 s4 g4 q4 => ⟨τ4, G4, tt.trans t4, s4, g4, q4⟩⟩⟩
    · have e : i = ws.length := by (clear hp hc hb z0 hs hg ht l t1 g1 it q1 t2 s2 g2 q2; omega)
      subst e
      rw [List.drop_length] at q2
      exact .inl ⟨it.stop _ H2 G2 t2 g2 q2.1 (Nat.le_refl _), l.nx σ2 H2 τ2 G2 (t1.trans t2) s2 g2 q2.2⟩⟩
end
end L2
namespace L2
open PySem PySem.Spec PyProof.Rows
section
variable {prog : Program} {w : World} {A : Around} {E : Value → Shared → Prop} {s : Shared}
theorem nextT_item {it t : Addr} {i : Nat} {items : Array Value} {x : Value} {Q : Value → Shared → Prop} (a : s.heap.IsTupleIter it t i) (b : s.heap.IsTuple t items) (e : items[i]? = some x) (q : ∀ h', h'.IsTupleIter it t (i + 1) → Heap.SameBut it s.heap h' → Q x { s with heap := h' }) : wpAny (model prog w) A (Builtin.SmallTypes.nextOf (.ref it)) Q E s := by
  obtain ⟨o, ho, hc, hd⟩ := id a; obtain ⟨ol, hol, _, nl, hdl⟩ := b; unfold Builtin.SmallTypes.nextOf
  refine wpAny_bind (wpAny_callSpecial?_slot (name := Str.ofString "__next__") a.typeIs F.slot_tuple_iterator_next (wpAny_call_entry F.slot_tuple_iterator_next a.typeIs F.entry_tuple_iterator_next ?_ (F.args_tuple_iterator_next_1 _)))
  show wpAny _ _ (field (.ref it) 0 >>= _) _ _ s; refine wpAny_bind (wpAny_field ho hd (x := .ref t) rfl ?_)
  show wpAny _ _ (if (Value.ref t == Value.none) = true then _ else _) _ _ s; rw [if_neg (show ¬ ((Value.ref t == Value.none) = true) from Bool.false_ne_true)]
  show wpAny _ _ (field (.ref it) 1 >>= _) _ _ s; refine wpAny_bind (wpAny_field ho hd (x := .int i 0) rfl ?_)
  show wpAny _ _ (seqItems? (.ref t) >>= _) _ _ s; refine wpAny_bind (wpAny_seqItems hol hdl ?_); simp only [Int.toNat_natCast, e]
  refine wpAny_bind (wpAny_setField ho hd (by simp) (wpAny_pure ⟨x, rfl, wpAny_pure (q _ ⟨_, Heap.get?_update_self _ ho (Obj.isFreed_of_fields (Obj.data_mapFields hd _)), (Obj.cls_mapFields ..).trans hc, by rw [Obj.data_mapFields hd]; simp [rawInt]⟩ (Heap.SameBut.update ..))⟩))
theorem nextT_end {it t : Addr} {i : Nat} {items : Array Value} {Q : Value → Shared → Prop} (hh : A.handled = none) (a : s.heap.IsTupleIter it t i) (b : s.heap.IsTuple t items) (e : items[i]? = none) (q : ∀ h' x, Heap.ExtBut it s.heap h' → (∃ o, h'.get? x = some o ∧ o.cls = .type "StopIteration") → E (.ref x) { s with heap := h' }) : wpAny (model prog w) A (Builtin.SmallTypes.nextOf (.ref it)) Q E s := by
  obtain ⟨o, ho, hc, hd⟩ := id a; obtain ⟨ol, hol, _, nl, hdl⟩ := b; unfold Builtin.SmallTypes.nextOf
  refine wpAny_bind (wpAny_callSpecial?_slot (name := Str.ofString "__next__") a.typeIs F.slot_tuple_iterator_next (wpAny_call_entry F.slot_tuple_iterator_next a.typeIs F.entry_tuple_iterator_next ?_ (F.args_tuple_iterator_next_1 _)))
  show wpAny _ _ (field (.ref it) 0 >>= _) _ _ s; refine wpAny_bind (wpAny_field ho hd (x := .ref t) rfl ?_)
  show wpAny _ _ (if (Value.ref t == Value.none) = true then _ else _) _ _ s; rw [if_neg (show ¬ ((Value.ref t == Value.none) = true) from Bool.false_ne_true)]
  show wpAny _ _ (field (.ref it) 1 >>= _) _ _ s; refine wpAny_bind (wpAny_field ho hd (x := .int i 0) rfl ?_)
  show wpAny _ _ (seqItems? (.ref t) >>= _) _ _ s; refine wpAny_bind (wpAny_seqItems hol hdl ?_); simp only [Int.toNat_natCast, e]
  refine wpAny_bind (wpAny_rule (wpAny_bind (wpAny_setField ho hd (by simp) ?_))); show wpAny _ _ (newExc (.type "StopIteration") [] >>= _) _ _ _
  refine wpAny_bind ?_; simp only [newExc, newTuple]; refine wpAny_bind (wpAny_newObj_type ?_ (by size_fits))
  refine wpAny_bind (m := firstArgMember _ _) (wpAny_of_eq (a := Value.none) (by first | rfl | (simp only [firstArgMember]; rfl)) ?_); refine wpAny_newObj_type ?_ (by size_fits)
  simp only [raiseNew]; refine wpAny_bind (wpAny_handled ?_); first | rw [show A.in1.handled = none from hh] | rw [hh]
  refine wpAny_bind (wpAny_pure (wpAny_throw ?_)); exact q _ _ (((Heap.SameBut.update ..).extBut.push _).push _) ⟨_, Heap.get?_push_size _ rfl, rfl⟩
structure ZA (z p r i j a b : Addr) : Prop where
  zp : p ≠ z
  zr : r ≠ z
  zi : i ≠ z
  zj : j ≠ z
  pr : p ≠ r
  pi : p ≠ i
  pj : p ≠ j
  ri : r ≠ i
  rj : r ≠ j
  ij : i ≠ j
  az : a ≠ z
  ar : a ≠ r
  ai : a ≠ i
  aj : a ≠ j
  bz : b ≠ z
  br : b ≠ r
  bi : b ≠ i
  bj : b ≠ j
structure ZT (z p r i j a b : Addr) (n : Nat) (f : Value) (h : Heap) : Prop where
  hz : IsZip h z p r f
  hp : IsPair h p (.ref i) (.ref j)
  hr : ∃ x y, IsPair h r x y
  hi : h.IsTupleIter i a n
  hj : h.IsTupleIter j b n
theorem zipT_item {z p r i j a b : Addr} {n : Nat} {xs ys : Array Value} {x y : Value} {Q : Option Value → Shared → Prop} (D : ZA z p r i j a b) (T : ZT z p r i j a b n .none s.heap) (ha : s.heap.IsTuple a xs) (hb : s.heap.IsTuple b ys) (hx : xs[n]? = some x) (hy : ys[n]? = some y)
    (q : ∀ h', ZT z p r i j a b (n + 1) (rawInt s.heap.objs.size) h' → IsPair h' s.heap.objs.size x y → (∀ c o, c ≠ z → c ≠ r → c ≠ i → c ≠ j → s.heap.get? c = some o → h'.get? c = some o) → Q (some (.ref s.heap.objs.size)) { s with heap := h' }) : wpAny (model prog w) A (pyNext (.ref z)) Q E s := by
  obtain ⟨hz, hp, ⟨u, v, hr⟩, hi, hj⟩ := T
  have hT : s.TypeIs (.ref z) "zip" := ⟨_, hz, rfl⟩; unfold pyNext
  refine wpAny_bind (wpAny_attempt (wpAny_callSpecial?_slot (name := Str.ofString "__next__") hT F.slot_zip_next (wpAny_call_entry F.slot_zip_next hT F.entry_zip_next ?_ (F.args_zip_next_1 _))))
  show wpAny _ _ (field (.ref z) 2 >>= _) _ _ _; refine wpAny_bind (wpAny_field hz rfl (x := .bool false) rfl ?_)
  show wpAny _ _ (field (.ref z) 3 >>= _) _ _ _; refine wpAny_bind (wpAny_field hz rfl (x := .ref p) rfl ?_); refine wpAny_bind (wpAny_seqItems hp rfl ?_)
  show wpAny _ _ (Builtin.SmallTypes.ownedTupleIsFree (.ref z) >>= _) _ _ _; refine wpAny_bind ?_; unfold Builtin.SmallTypes.ownedTupleIsFree
  refine wpAny_bind (wpAny_field hz rfl (x := .none) rfl (wpAny_pure ?_)); simp only [if_true]; refine wpAny_bind (wpAny_rule ?_)
  refine wpAny_bind (wpAny_field hz rfl (x := .ref r) rfl ?_); refine wpAny_bind (wpAny_setField_rec hz (by simp) fun h1 z1 b1 => ?_)
  have z1 : IsZip h1 z p r .ellipsis := z1
  refine wpAny_bind ?_; simp only [List.zipIdx_cons, List.zipIdx_nil, List.forIn_cons, List.forIn_nil]
  refine wpAny_bind (wpAny_bind (wpAny_onRaise ?_)); show wpAny _ _ (Builtin.SmallTypes.nextOf (.ref i) >>= _) _ _ _
  refine wpAny_bind (nextT_item (hi.extBut b1.extBut D.zi) (ha.extBut b1.extBut D.az) hx fun h2 i2 b2 => wpAny_pure ?_)
  have r2 : IsPair h2 r u v := b2.extBut _ _ D.ri (b1.extBut _ _ D.zr hr)
  refine wpAny_bind (wpAny_seqItems r2 rfl ?_); refine wpAny_bind (wpAny_updateSeq_pair r2 fun h3 r3 b3 => ?_)
  have r3 : IsPair h3 r x v := r3
  refine wpAny_bind (wpAny_letGo (wpAny_pure ?_)); refine wpAny_bind (wpAny_bind (wpAny_onRaise ?_)); show wpAny _ _ (Builtin.SmallTypes.nextOf (.ref j) >>= _) _ _ _
  refine wpAny_bind (nextT_item (((hj.extBut b1.extBut D.zj).extBut b2.extBut D.ij.symm).extBut b3.extBut D.rj.symm) (((hb.extBut b1.extBut D.bz).extBut b2.extBut D.bi).extBut b3.extBut D.br) hy fun h4 j4 b4 => wpAny_pure ?_)
  have r4 : IsPair h4 r x v := b4.extBut _ _ D.rj r3
  refine wpAny_bind (wpAny_seqItems r4 rfl ?_); refine wpAny_bind (wpAny_updateSeq_pair r4 fun h5 r5 b5 => ?_)
  have r5 : IsPair h5 r x y := r5
  refine wpAny_bind (wpAny_letGo (wpAny_pure (wpAny_pure ?_))); refine wpAny_bind (wpAny_seqItems r5 rfl ?_); refine wpAny_bind (wpAny_newTuple ?_)
  have sz : h5.objs.size = s.heap.objs.size := by rw [b5.1, b4.1, b3.1, b2.1, b1.1]
  have z5 : IsZip h5 z p r .ellipsis := b5.extBut _ _ D.zr.symm (b4.extBut _ _ D.zj.symm (b3.extBut _ _ D.zr.symm (b2.extBut _ _ D.zi.symm z1)))
  have k5 : ∀ c o, c ≠ z → c ≠ r → c ≠ i → c ≠ j → s.heap.get? c = some o → h5.get? c = some o := fun c o c1 c2 c3 c4 e => b5.extBut _ _ c2 (b4.extBut _ _ c4 (b3.extBut _ _ c2 (b2.extBut _ _ c3 (b1.extBut _ _ c1 e))))
  have i5 : h5.IsTupleIter i a (n + 1) := ((i2.extBut b3.extBut D.ri.symm).extBut b4.extBut D.ij).extBut b5.extBut D.ri.symm
  have j5 : h5.IsTupleIter j b (n + 1) := j4.extBut b5.extBut D.rj.symm
  have ltz : z < h5.objs.size := Heap.lt_size z5
  show wpAny _ _ (Builtin.SmallTypes.ownedTupleHandOut (.ref z) (.ref h5.objs.size) >>= _) _ _ _; refine wpAny_bind ?_; unfold Builtin.SmallTypes.ownedTupleHandOut
  have z6 : IsZip (h5.push { cls := .type "tuple", data := .seq #[x, y] }) z p r .ellipsis := Heap.get?_push_of_some _ z5
  refine wpAny_bind (wpAny_setField_rec z6 (by simp) fun h7 z7 b7 => ?_)
  have z7 : IsZip h7 z p r (rawInt h5.objs.size) := z7
  refine wpAny_setField_rec z7 (by simp) fun h8 z8 b8 => ?_
  have z8 : IsZip h8 z p r (rawInt h5.objs.size) := z8
  have up : ∀ c o, c ≠ z → h5.get? c = some o → h8.get? c = some o := fun c o c1 e => b8.extBut _ _ c1 (b7.extBut _ _ c1 (Heap.get?_push_of_some _ e))
  have t8 : IsPair h8 h5.objs.size x y := b8.extBut _ _ (Nat.ne_of_gt ltz) (b7.extBut _ _ (Nat.ne_of_gt ltz) (Heap.get?_push_size _ rfl))
  rw [sz] at z8 t8
  refine wpAny_pure ⟨_, rfl, wpAny_pure ?_⟩; show Q (some (.ref h5.objs.size)) _; rw [sz]
  exact q h8 ⟨z8, up _ _ D.zp (k5 _ _ D.zp D.pr D.pi D.pj hp), ⟨_, _, up _ _ D.zr r5⟩, i5.at fun o e => up _ o D.zi e, j5.at fun o e => up _ o D.zj e⟩ t8 fun c o c1 c2 c3 c4 e => up c o c1 (k5 c o c1 c2 c3 c4 e)
theorem zipT_end {z p r i j a b : Addr} {n : Nat} {xs ys : Array Value} {Q : Option Value → Shared → Prop} (hh : A.handled = none) (D : ZA z p r i j a b) (T : ZT z p r i j a b n .none s.heap) (ha : s.heap.IsTuple a xs) (hb : s.heap.IsTuple b ys) (hx : xs[n]? = none ∨ ys[n]? = none)
    (q : ∀ h', (∀ c o, c ≠ z → c ≠ r → c ≠ i → c ≠ j → s.heap.get? c = some o → h'.get? c = some o) → Q none { s with heap := h' }) : wpAny (model prog w) A (pyNext (.ref z)) Q E s := by
  obtain ⟨hz, hp, ⟨u, v, hr⟩, hi, hj⟩ := T
  have hT : s.TypeIs (.ref z) "zip" := ⟨_, hz, rfl⟩; unfold pyNext
  have fin : ∀ (h' : Heap) (e : Addr), (∀ c o, c ≠ z → c ≠ r → c ≠ i → c ≠ j → s.heap.get? c = some o → h'.get? c = some o) → (∃ o, h'.get? e = some o ∧ o.cls = .type "StopIteration") → wpAny (model prog w) A (do if (← isInstance (.ref e) (.type "StopIteration")) then pure none else throw (.ref e)) Q E { s with heap := h' } := fun h' e k he => by
    obtain ⟨o, ho, hc⟩ := he
    exact wpAny_bind (wpAny_isInstance (T := "StopIteration") (b := true) ⟨o, ho, hc⟩ isSubtype_stop (wpAny_pure (q _ k)))
  refine wpAny_bind (wpAny_attempt (wpAny_callSpecial?_slot (name := Str.ofString "__next__") hT F.slot_zip_next (wpAny_call_entry F.slot_zip_next hT F.entry_zip_next ?_ (F.args_zip_next_1 _))))
  show wpAny _ _ (field (.ref z) 2 >>= _) _ _ _; refine wpAny_bind (wpAny_field hz rfl (x := .bool false) rfl ?_)
  show wpAny _ _ (field (.ref z) 3 >>= _) _ _ _; refine wpAny_bind (wpAny_field hz rfl (x := .ref p) rfl ?_); refine wpAny_bind (wpAny_seqItems hp rfl ?_)
  show wpAny _ _ (Builtin.SmallTypes.ownedTupleIsFree (.ref z) >>= _) _ _ _; refine wpAny_bind ?_; unfold Builtin.SmallTypes.ownedTupleIsFree
  refine wpAny_bind (wpAny_field hz rfl (x := .none) rfl (wpAny_pure ?_)); simp only [if_true]; refine wpAny_bind (wpAny_rule ?_)
  refine wpAny_bind (wpAny_field hz rfl (x := .ref r) rfl ?_); refine wpAny_bind (wpAny_setField_rec hz (by simp) fun h1 z1 b1 => ?_)
  have z1 : IsZip h1 z p r .ellipsis := z1
  refine wpAny_bind ?_; simp only [List.zipIdx_cons, List.zipIdx_nil, List.forIn_cons, List.forIn_nil]
  refine wpAny_bind (wpAny_bind (wpAny_onRaise ?_)); show wpAny _ _ (Builtin.SmallTypes.nextOf (.ref i) >>= _) _ _ _
  cases e1 : xs[n]? with
  | none =>
    refine wpAny_bind (nextT_end hh (hi.extBut b1.extBut D.zi) (ha.extBut b1.extBut D.az) e1 fun h2 e b2 he => ?_)
    obtain ⟨oe, hoe, hce⟩ := he
    have z2 : IsZip h2 z p r .ellipsis := b2 _ _ D.zi.symm z1
    have ez : e ≠ z := fun x => by subst x; rw [z2] at hoe; cases hoe; simp at hce
    exact wpAny_setField_rec z2 (by simp) fun h3 _ b3 => fin h3 e (fun c o c1 _ c3 _ x => b3.extBut _ _ c1 (b2 _ _ c3 (b1.extBut _ _ c1 x))) ⟨oe, b3.extBut _ _ ez hoe, hce⟩
  | some x =>
    have e2 : ys[n]? = none := by rcases hx with h | h; · rw [e1] at h; cases h
                                  · exact h
    refine wpAny_bind (nextT_item (hi.extBut b1.extBut D.zi) (ha.extBut b1.extBut D.az) e1 fun h2 i2 b2 => wpAny_pure ?_)
    have r2 : IsPair h2 r u v := b2.extBut _ _ D.ri (b1.extBut _ _ D.zr hr)
    refine wpAny_bind (wpAny_seqItems r2 rfl ?_); refine wpAny_bind (wpAny_updateSeq_pair r2 fun h3 r3 b3 => ?_)
    refine wpAny_bind (wpAny_letGo (wpAny_pure ?_)); refine wpAny_bind (wpAny_bind (wpAny_onRaise ?_)); show wpAny _ _ (Builtin.SmallTypes.nextOf (.ref j) >>= _) _ _ _
    refine wpAny_bind (nextT_end hh (((hj.extBut b1.extBut D.zj).extBut b2.extBut D.ij.symm).extBut b3.extBut D.rj.symm) (((hb.extBut b1.extBut D.bz).extBut b2.extBut D.bi).extBut b3.extBut D.br) e2 fun h4 e b4 he => ?_)
    obtain ⟨oe, hoe, hce⟩ := he
    have z4 : IsZip h4 z p r .ellipsis := b4 _ _ D.zj.symm (b3.extBut _ _ D.zr.symm (b2.extBut _ _ D.zi.symm z1))
    have ez : e ≠ z := fun x => by subst x; rw [z4] at hoe; cases hoe; simp at hce
    exact wpAny_setField_rec z4 (by simp) fun h5 _ b5 => fin h5 e (fun c o c1 c2 c3 c4 x => b5.extBut _ _ c1 (b4 _ _ c4 (b3.extBut _ _ c2 (b2.extBut _ _ c3 (b1.extBut _ _ c1 x))))) ⟨oe, b5.extBut _ _ ez hoe, hce⟩
end
noncomputable def zq1 (h : Heap) (a : Addr) : Heap := h.push { cls := .type "tuple_iterator", data := .fields #[.ref a, .int 0 0] }
noncomputable def zq2 (h : Heap) (a b : Addr) : Heap := (zq1 h a).push { cls := .type "tuple_iterator", data := .fields #[.ref b, .int 0 0] }
noncomputable def zq3 (h : Heap) (a b : Addr) : Heap := (zq2 h a b).push { cls := .type "tuple", data := .seq #[.ref h.objs.size, .ref (zq1 h a).objs.size] }
noncomputable def zq4 (h : Heap) (a b : Addr) : Heap := (zq3 h a b).push { cls := .type "tuple", data := .seq #[.none, .none] }
noncomputable def zq5 (h : Heap) (a b : Addr) : Heap := (zq4 h a b).push { cls := .type "zip", data := .fields #[.none, .bool false, .bool false, .ref (zq2 h a b).objs.size, .ref (zq3 h a b).objs.size] }
theorem zip_newT (a b : Addr) (xs ys : Array Value) : Meets (Builtin.«zip.__new__» ⟨[.type "zip", .ref a, .ref b], []⟩) (fun _ R s => s.heap.IsTuple a xs ∧ s.heap.IsTuple b ys ∧ R (.ok (.ret (.ref (zq4 s.heap a b).objs.size))) { s with heap := zq5 s.heap a b }) :=
  .of_wp fun prog w A R s h => by
    obtain ⟨hp, g, d, tk, os⟩ := s; obtain ⟨ha, hb, h⟩ := h; have hsub := sub_zip
    have h1 : Heap.IsTuple (Shared.heap ⟨hp, g, d, tk, os⟩) a xs := ha
    have h2 : Heap.IsTuple (Shared.heap ⟨hp.push { cls := .type "tuple_iterator", data := .fields #[.ref a, .int 0 0] }, g, d, tk, os⟩) b ys := Heap.IsTuple.push hb _
    wp_walk using wpAny_pyIter_tuple h1, wpAny_pyIter_tuple h2
    exact ⟨_, rfl, h⟩
theorem call_zipT {prog : Program} {w : World} {A : Around} {E : Value → Shared → Prop} {s : Shared} {a b : Addr} {xs ys : Array Value} {Q : Value → Shared → Prop} (ha : s.heap.IsTuple a xs) (hb : s.heap.IsTuple b ys)
    (q : ∀ h', ZT (s.heap.objs.size + 4) (s.heap.objs.size + 2) (s.heap.objs.size + 3) s.heap.objs.size (s.heap.objs.size + 1) a b 0 .none h' → (∀ c o, s.heap.get? c = some o → h'.get? c = some o) → Q (.ref (s.heap.objs.size + 4)) { s with heap := h' }) :
    wpAny (model prog w) A (call (.type "zip") [.ref a, .ref b]) Q E s := by
  refine callType_new F.called_zip (by decide) (F.typeCall_zip_2 _ _) (F.newCall_zip_2 _ _) (fun obj => F.args_object_init_3 obj _ _) F.entry_zip_new (zip_newT a b xs ys) ⟨ha, hb, ?_⟩
  have z1 : (zq1 s.heap a).objs.size = s.heap.objs.size + 1 := Heap.size_push ..
  have z2 : (zq2 s.heap a b).objs.size = s.heap.objs.size + 2 := by unfold zq2; rw [Heap.size_push, z1]
  have z3 : (zq3 s.heap a b).objs.size = s.heap.objs.size + 3 := by unfold zq3; rw [Heap.size_push, z2]
  have z4 : (zq4 s.heap a b).objs.size = s.heap.objs.size + 4 := by unfold zq4; rw [Heap.size_push, z3]
  have g5 : (zq5 s.heap a b).get? (zq4 s.heap a b).objs.size = some _ := Heap.get?_push_size _ rfl
  have g4 : (zq5 s.heap a b).get? (zq3 s.heap a b).objs.size = some _ := Heap.get?_push_of_some _ (Heap.get?_push_size _ rfl)
  have g3 : (zq5 s.heap a b).get? (zq2 s.heap a b).objs.size = some _ := Heap.get?_push_of_some _ (Heap.get?_push_of_some _ (Heap.get?_push_size _ rfl))
  have g2 : (zq5 s.heap a b).get? (zq1 s.heap a).objs.size = some _ := Heap.get?_push_of_some _ (Heap.get?_push_of_some _ (Heap.get?_push_of_some _ (Heap.get?_push_size _ rfl)))
  have g1 : (zq5 s.heap a b).get? s.heap.objs.size = some _ := Heap.get?_push_of_some _ (Heap.get?_push_of_some _ (Heap.get?_push_of_some _ (Heap.get?_push_of_some _ (Heap.get?_push_size _ rfl))))
  rw [z2, z3, z4] at g5; rw [z1, z2] at g3; rw [z3] at g4; rw [z1] at g2
  show _ ∧ _; rw [z4]
  exact ⟨⟨_, g5, rfl⟩, q _ ⟨g5, g3, ⟨_, _, g4⟩, ⟨_, g1, rfl, rfl⟩, ⟨_, g2, rfl, rfl⟩⟩ fun c o x => Heap.get?_push_of_some _ (Heap.get?_push_of_some _ (Heap.get?_push_of_some _ (Heap.get?_push_of_some _ (Heap.get?_push_of_some _ x))))⟩
theorem za_new {n a b : Nat} (ha : a < n) (hb : b < n) : ZA (n + 4) (n + 2) (n + 3) n (n + 1) a b := by
  constructor <;> (show (_ : Nat) ≠ (_ : Nat); omega)
end L2
namespace L2
open PySem PySem.Spec PyProof.Rows
section
variable {prog : Program} {w : World} {A : Around} {R : Result → Shared → Prop} {s : Shared}
noncomputable abbrev nox : Value → Shared → Prop := fun _ _ => False
noncomputable abbrev tests (ifs : List Expr) (env : Env) : Sem Bool := forIn ifs true fun c r => if r = true then do let ok ← isTrue c env (eval c env); pure (ForInStep.yield ok) else pure (ForInStep.yield r)
theorem comp_loop {elt tg iter : Expr} {ifs : List Expr} {scope : Scope} {pos : Pos} {it acc : Value} {env : Env} (I : Nat → Shared → Prop)
    (turn : ∀ n s, I n s → wpAny (model prog w) A (pyNext it) (fun r s1 => match r with
      | none => R (.ok .next) s1
      | some v => wpAny (model prog w) A (letOwnedTupleGo tg it v) (fun _ s2 => wpAny (model prog w) A (assign tg env v) (fun _ s3 => wpAny (model prog w) A (tests ifs env) (fun ok s4 =>
          if ok = true then wpAny (model prog w) A (eval elt env) (fun x s5 => wpAny (model prog w) A (call (.builtin "list.append") [acc, x]) (fun _ s6 => ∃ m, m < n ∧ I m s6) nox s5) nox s4
          else ∃ m, m < n ∧ I m s4) nox s3) nox s2) nox s1) nox s) (n : Nat) (h : I n s) :
    codeAny (model prog w) A (.compLoop (.ListComp elt [⟨tg, iter, ifs, 0⟩] scope pos) 0 it acc env) R s := by
  refine codeAny_loop rfl I (fun n s hI => ?_) n h
  show wpAny _ A ((compTurn (.ListComp elt [⟨tg, iter, ifs, 0⟩] scope pos) 0 it acc env).onRaise (fun x => do noteFrame x env; theTreesLotGoes x)) _ _ s
  refine wpAny_noted ?_; rw [compTurn_list]
  refine wpAny_bind (wpAny_standAt (wpAny_bind (wpAny_mono (turn n s hI) (fun r s1 h1 => ?_) fun _ _ z => z.elim)))
  cases r with
  | none => exact wpAny_pure h1
  | some v =>
    refine wpAny_bind (wpAny_mono h1 (fun _ s2 h2 => wpAny_bind (wpAny_mono h2 (fun _ s3 h3 => wpAny_bind (wpAny_mono h3 (fun ok s4 h4 => ?_) fun _ _ z => z.elim)) fun _ _ z => z.elim)) fun _ _ z => z.elim)
    cases ok with
    | false => exact wpAny_pure ⟨rfl, h4⟩
    | true =>
      refine wpAny_bind (wpAny_bind (wpAny_mono h4 (fun x s5 h5 => ?_) fun _ _ z => z.elim))
      exact wpAny_bind (wpAny_mono h5 (fun _ s6 h6 => wpAny_pure (wpAny_pure ⟨rfl, h6⟩)) fun _ _ z => z.elim)
end
noncomputable def clOf (env : Env) : List (Str × NameKind) → List (Str × Addr) → List (Str × Addr)
  | [], cs => cs
  | (n, k) :: r, cs => if k == .free then clOf env r ((n, (env.cells.lookup n).getD 0) :: cs) else clOf env r cs
theorem closure_of {env : Env} {scope : Scope} (h : ∀ y ∈ scope.names, y.2 = .free → ∃ c, env.cells.lookup y.1 = some c) : closureFor scope env = pure (clOf env scope.names []) := by
  unfold closureFor
  have key : ∀ (l : List (Str × NameKind)) (cs : List (Str × Addr)), (∀ y ∈ l, y.2 = .free → ∃ c, env.cells.lookup y.1 = some c) →
      (forIn l cs fun (x : Str × NameKind) (r : List (Str × Addr)) => (if (x.2 == NameKind.free) = true then (do let y ← cellOf env x.1; pure (ForInStep.yield ((x.1, y) :: r))) else pure (ForInStep.yield r) : Sem (ForInStep (List (Str × Addr))))) = (pure (clOf env l cs) : Sem (List (Str × Addr))) := by
    intro l
    induction l with
    | nil => intro cs _; rfl
    | cons y r ih =>
      intro cs hl
      obtain ⟨n, k⟩ := y
      rw [List.forIn_cons]
      unfold clOf
      by_cases hk : (k == NameKind.free) = true
      · have hk' : k = .free := by simpa using hk
        obtain ⟨c, hc⟩ := hl (n, k) List.mem_cons_self hk'
        simp only [hk, if_true]
        have e : cellOf env n = pure c := by unfold cellOf; rw [hc]
        rw [e, hc]
        simp only [pure_bind, Option.getD_some]
        exact ih _ fun y hy => hl y (List.mem_cons_of_mem _ hy)
      · simp only [hk, if_false, Bool.false_eq_true]
        simp only [pure_bind]
        exact ih _ fun y hy => hl y (List.mem_cons_of_mem _ hy)
  have := key scope.names [] h
  simp only [bind_pure]
  exact this
theorem clOf_lookup {env : Env} : ∀ {l : List (Str × NameKind)} {cs : List (Str × Addr)}, (∀ y ∈ l, y.2 = .free → ∃ c, env.cells.lookup y.1 = some c) → (∀ x c, cs.lookup x = some c → env.cells.lookup x = some c) → ∀ x c, (clOf env l cs).lookup x = some c → env.cells.lookup x = some c
  | [], _, _, hc, x, c, e => hc x c e
  | (n, k) :: r, cs, hl, hc, x, c, e => by
    unfold clOf at e
    have hr : ∀ y ∈ r, y.2 = .free → ∃ c, env.cells.lookup y.1 = some c := fun y hy => hl y (List.mem_cons_of_mem _ hy)
    split at e
    · rename_i hk
      obtain ⟨c0, hc0⟩ := hl (n, k) List.mem_cons_self (by simpa using hk)
      refine clOf_lookup hr (fun x' c' e' => ?_) x c e
      rw [List.lookup_cons] at e'
      cases hx : x' == n with
      | true =>
        rw [hx] at e'
        have : x' = n := by simpa using hx
        subst this
        rw [hc0] at e'
        simp at e'
        subst e'
        exact hc0
      | false => rw [hx] at e'; exact hc x' c' e'
    · exact clOf_lookup hr hc x c e
theorem clOf_has {env : Env} : ∀ {l : List (Str × NameKind)} {cs : List (Str × Addr)} {x : Str}, ((x, NameKind.free) ∈ l ∨ ∃ c, cs.lookup x = some c) → ∃ c, (clOf env l cs).lookup x = some c
  | [], _, _, h => by
    rcases h with h | h
    · simp at h
    · exact h
  | (n, k) :: r, cs, x, h => by
    unfold clOf
    have keep : (∃ c, cs.lookup x = some c) → ∃ c, ((n, (env.cells.lookup n).getD 0) :: cs).lookup x = some c := fun ⟨c, e⟩ => by
      rw [List.lookup_cons]
      cases hx : x == n with
      | true => exact ⟨_, rfl⟩
      | false => exact ⟨c, e⟩
    split
    · rename_i hk
      refine clOf_has ?_
      rcases h with h | h
      · rcases List.mem_cons.mp h with h | h
        · cases h
          exact .inr ⟨(env.cells.lookup n).getD 0, by rw [List.lookup_cons]; simp⟩
        · exact .inl h
      · exact .inr (keep h)
    · rename_i hk
      refine clOf_has ?_
      rcases h with h | h
      · rcases List.mem_cons.mp h with h | h
        · cases h
          exact absurd rfl hk
        · exact .inl h
      · exact .inr h
theorem relabel_lookup {env : Env} : ∀ {l : List (Str × NameKind)} {x : Str} {k : NameKind}, (l.map fun (n, k) => if (k == NameKind.free && env.scope.kind == .function && env.kindOf n == some .cell) then (n, NameKind.cell) else (n, k)).lookup x = some k → (k = .cell ∨ k = .free) → (∀ y ∈ l, y.2 ≠ .cell) → (x, NameKind.free) ∈ l
  | [], _, _, e, _, _ => by simp at e
  | (n, k0) :: r, x, k, e, hk, hc => by
    rw [List.map_cons, List.lookup_cons] at e
    have hr : ∀ y ∈ r, y.2 ≠ .cell := fun y hy => hc y (List.mem_cons_of_mem _ hy)
    have hn : (if (k0 == NameKind.free && env.scope.kind == .function && env.kindOf n == some .cell) = true then (n, NameKind.cell) else (n, k0)).1 = n := by split <;> rfl
    rw [hn] at e
    cases hx : x == n with
    | false => rw [hx] at e; exact List.mem_cons_of_mem _ (relabel_lookup e hk hr)
    | true =>
      rw [hx] at e
      have hxn : x = n := by simpa using hx
      subst hxn
      have e' : (if (k0 == NameKind.free && env.scope.kind == .function && env.kindOf x == some .cell) = true then (x, NameKind.cell) else (x, k0)).2 = k := Option.some.inj e
      by_cases hf : k0 = .free
      · subst hf; exact List.mem_cons_self
      · rw [if_neg (by simp [hf])] at e'
        have e'' : k0 = k := e'
        subst e''
        rcases hk with h | h
        · exact absurd h (hc _ List.mem_cons_self)
        · exact absurd h hf
theorem relabel_local {env : Env} : ∀ {l : List (Str × NameKind)} {x : Str}, (l.map fun (n, k) => if (k == NameKind.free && env.scope.kind == .function && env.kindOf n == some .cell) then (n, NameKind.cell) else (n, k)).lookup x = some .local → l.lookup x = some .local
  | [], _, e => by simp at e
  | (n, k0) :: r, x, e => by
    rw [List.map_cons, List.lookup_cons] at e
    rw [List.lookup_cons]
    have hn : (if (k0 == NameKind.free && env.scope.kind == .function && env.kindOf n == some .cell) = true then (n, NameKind.cell) else (n, k0)).1 = n := by split <;> rfl
    rw [hn] at e
    cases hx : x == n with
    | false => rw [hx] at e; exact relabel_local e
    | true =>
      rw [hx] at e
      have e' : (if (k0 == NameKind.free && env.scope.kind == .function && env.kindOf n == some .cell) = true then (n, NameKind.cell) else (n, k0)).2 = NameKind.local := Option.some.inj e
      split at e'
      · cases e'
      · exact congrArg some e'
noncomputable def bCx (X : Cx) (N : List Str) (scope : Scope) (C : Addr) (fp : List Addr) (s₀ : Shared) (H₀ : Hp) : Cx where
  prog := X.prog
  w := X.w
  K := X.K
  mg := X.mg
  base := X.base
  A := X.A
  N := N
  s₀ := s₀
  H₀ := H₀
  env := compEnvC scope (clOf X.env scope.names []) C X.env
  outer := X.stack
  stack := X.stack
  ex := fp
  fn := fun _ => false
  calm := X.calm
  pn := []
  xe := nox
structure CompSc (X : Cx) (scope : Scope) (N : List Str) (fv : List (Option Nat)) : Prop where
  kind : scope.kind = .function
  nocell : ∀ y ∈ scope.names, y.2 ≠ .cell
  names : ∀ x ∈ scope.names, x.2 = .local → scope.names.lookup x.1 = some .local
  free : ∀ y ∈ scope.names, y.2 = .free → X.env.scope.names.lookup y.1 = some .cell
  fvs : ∀ (i j : Nat) (x : Str), N[i]? = some x → fv[i]? = some (some j) → X.N[j]? = some x ∧ X.env.scope.names.lookup x = some .cell ∧ (x, NameKind.free) ∈ scope.names
  len : fv.length = N.length
  fvl : ∀ {x : Str}, (x, NameKind.free) ∈ scope.names → scope.names.lookup x ≠ some .local
noncomputable def pick {α : Type} (fv : List (Option Nat)) (σ : List (Option α)) : List (Option α) := fv.map fun o => o.bind fun j => (σ[j]?).join
theorem pick_get {α : Type} {fv : List (Option Nat)} {σ : List (Option α)} {i : Nat} {v : α} (h : (pick fv σ)[i]? = some (some v)) : ∃ j, fv[i]? = some (some j) ∧ σ[j]? = some (some v) := by
  unfold pick at h
  rw [List.getElem?_map] at h
  cases e : fv[i]? with
  | none => rw [e] at h; cases h
  | some o =>
    rw [e] at h
    cases o with
    | none => cases h
    | some j =>
      have h' : (σ[j]?).join = some v := Option.some.inj h
      refine ⟨j, rfl, ?_⟩
      cases e2 : σ[j]? with
      | none => rw [e2] at h'; cases h'
      | some o => rw [e2] at h'; exact congrArg some h'
theorem pick_rel {K : PySem.W.Frag} {H : Hp} {τ : WSt} {σ : St} {fv : List (Option Nat)} (h : RelSt K H τ σ) : RelSt K H (pick fv τ) (pick fv σ) := by
  refine ⟨by simp [pick], fun i w e => ?_⟩
  obtain ⟨j, ej, ew⟩ := pick_get e
  obtain ⟨v, ev, r⟩ := h.2 j w ew
  refine ⟨v, ?_, r⟩
  unfold pick
  rw [List.getElem?_map, ej]
  show some ((σ[j]?).join) = _
  rw [ev]
  rfl
section
variable {X : Cx} {pins : List (Addr × Obj)} {σ : St} {H H2 : Hp} {s s2 : Shared} {scope : Scope} {N : List Str} {fv : List (Option Nat)} {fp : List Addr} {C D : Addr}
theorem CompSc.cells (S : CompSc X scope N fv) (I : Inv X pins σ H s) : ∀ y ∈ scope.names, y.2 = .free → ∃ c, X.env.cells.lookup y.1 = some c := fun y hy hk => I.ok.has y.1 (.inl (S.free y hy hk))
theorem block_inv {h4 : Heap} {t4 : Nat} {m : Str → Option Value} (I : Inv X pins σ H2 s2) (S : CompSc X scope N fv) (hf : ∀ b ∈ fp, FpOk X pins H2 b) (hfo : ∀ b ∈ fp, b < s2.heap.objs.size) (keep : ∀ b o, s2.heap.get? b = some o → h4.get? b = some o)
    (hC : s2.heap.objs.size ≤ C) (ns : h4.Ns C m) : Inv (bCx X N scope C fp s2 H2) [] (pick fv σ) H2 { s2 with heap := h4, toks := t4 } := by
  have look : ∀ x c, (clOf X.env scope.names []).lookup x = some c → X.env.cells.lookup x = some c := clOf_lookup (S.cells I) (fun x c e => by simp at e)
  refine ⟨⟨I.ok.mod, S.kind, I.ok.glob, I.ok.blt, hC, fun x y c e1 e2 => I.ok.inj x y c (look x c e1) (look y c e2), fun x hx => ?_, fun x c h => absurd (show false = true from h) Bool.false_ne_true, I.ok.hd, I.ok.frames, .inl rfl, fun b hb => ?_, I.bs, Nat.le_trans I.ok.bsz I.sz, fun b o e hb => ?_, fun b hb hx => ?_, I.stack, I.stkFree⟩,
    rfl, I.bare, Un.kept keep, ⟨m, ns, fun i x v e1 e2 e3 => ?_⟩, fun x c e => ?_, I.hok.fresh hC, fun x c e => I.freeC x c (look x c e), fun p hp => absurd (show p ∈ ([] : List (Addr × Obj)) from hp) (by simp), I.hok.kept keep, ?_⟩
  · rcases hx with hx | hx
    · exact clOf_has (.inl (relabel_lookup hx (.inl rfl) S.nocell))
    · exact clOf_has (.inl (relabel_lookup hx (.inr rfl) S.nocell))
  · exact ⟨Nat.ne_of_lt (Nat.lt_of_lt_of_le (hfo b hb) hC), fun x c e => (hf b hb).2.2.2.2.1 x c (look x c e)⟩
  · rcases (hf b hb).2.2.2.1 with z | z
    · exact I.ok.noex b o e z
    · exact absurd (Nat.lt_of_lt_of_le (Heap.lt_size e) (Nat.le_trans I.ok.bsz z)) (Nat.lt_irrefl _)
  · rcases List.mem_cons.mp (I.stkSub b hx) with z | z
    · exact (hf b hb).2.1 z
    · exact (hf b hb).2.2.1 z
  · obtain ⟨j, ej, ev⟩ := pick_get e2
    obtain ⟨h1, h2, h3⟩ := S.fvs i j x e1 ej
    obtain ⟨m0, _, hl⟩ := I.loc
    obtain ⟨u, r, l⟩ := hl j x v h1 ev (.inr (.inl h2))
    refine ⟨u, r, .inr ?_⟩
    rcases l with ⟨k, _⟩ | ⟨_, c, ec, o, ho, hd⟩
    · exact absurd (h2.symm.trans k) (by intro z; cases z)
    · obtain ⟨c', ec'⟩ := clOf_has (env := X.env) (l := scope.names) (cs := []) (x := x) (.inl h3)
      have e' := look x c' ec'
      rw [ec] at e'
      cases e'
      refine ⟨?_, c, ec', o, keep _ _ ho, hd⟩
      rcases e3 with e3 | e3 | e3
      · exact absurd (relabel_local e3) fun z => S.fvl h3 z
      · exact .inl e3
      · exact .inr e3
  · obtain ⟨v, o, ho, hd⟩ := I.cell x c (look x c e)
    exact ⟨v, o, keep _ _ ho, hd⟩
  · show (pick fv σ).length = N.length
    unfold pick
    rw [List.length_map, S.len]
end
end L2
namespace L2
open PySem PySem.Spec PyProof.Rows
noncomputable def compW (C : Gp → Prop) (g : WG) (tt : WT) (te : WE) : List W → WSt → Gp → List W → (List W → Gp → Prop) → Prop
  | [], _, G, acc, q => C G ∧ q acc G
  | w :: ws, τ, G, acc, q => C G ∧ g w τ G fun τ2 G2 => tt τ2 G2 fun b G3 => if b = true then te τ2 G3 fun v G4 => acc.length + 1 ≤ 100000 ∧ compW C g tt te ws τ2 G4 (acc ++ [v]) q else compW C g tt te ws τ2 G3 acc q
noncomputable def QTs (X : Cx) (ifs : List Expr) (t : WT) : Prop :=
  ∀ (pins : List (Addr × Obj)) (s : Shared) (σ : St) (H : Hp) (Q : Bool → Hp → Prop), Inv X pins σ H s → LTx X.K t σ H Q → wpAny (model X.prog X.w) X.A (tests ifs X.env) (TP X pins σ Q) X.xe s
noncomputable def wTrue : WT := fun _ G q => q true G
theorem qts_nil {X : Cx} : QTs X [] wTrue := fun pins s σ H Q I ⟨τ, G, q, hs, hg, ht, hQ⟩ => wpAny_tests_nil ⟨H, I, hQ true H G (TLe.refl H) hg ht⟩
theorem RelG.track {K : PySem.W.Frag} {H : Hp} {G : Gp} {p : Addr} {xs : List V} {ws : List W} (h : RelG K H G) (e : H p = some (.lst xs)) (r : Reps K H ws xs) (hl : ws.length ≤ 100000) : RelG K H (updG G p (.lst ws)) := fun a g ea => by
  by_cases hb : a = p
  · subst hb
    rw [updG_same] at ea; cases ea
    exact ⟨hl, xs, e, r⟩
  · rw [updG_ne hb] at ea
    exact h a g ea
section
variable {X : Cx} {pins : List (Addr × Obj)} {σ : St} {H2 : Hp} {s2 : Shared} {scope : Scope} {N : List Str} {fv : List (Option Nat)} {fp : List Addr} {tg elt iter : Expr} {ifs : List Expr} {pos : Pos} {J : It} {it : Addr} {tn : Nat → Heap → Prop}
  {g : WG} {tt : WT} {te : WE} {ws : List W} {Cd : Gp → Prop} {τ : WSt} {G : Gp} {q : List W → Gp → Prop}
structure CompEnd (X : Cx) (pins : List (Addr × Obj)) (σ : St) (H2 : Hp) (s2 : Shared) (G : Gp) (q : List W → Gp → Prop) (D C : Addr) (s' : Shared) : Prop where
  ex : ∃ (Hf : Hp) (Gf : Gp) (rs : List W), (∃ m, s'.heap.Ns C m) ∧ Inv X pins σ Hf s' ∧ Hf C = none ∧ s2.heap.objs.size ≤ C ∧ TLe H2 Hf ∧ RelG X.K Hf (updG Gf D (.lst rs)) ∧ G D = none ∧ q rs Gf
structure CompI (Y : Cx) (fp : List Addr) (tn : Nat → Heap → Prop) (ws : List W) (H2 : Hp) (D : Addr) (R : List W → WSt → Gp → List W → Prop) (n : Nat) (s : Shared) (i : Nat) (σ1 : St) (H1 : Hp) (τ1 : WSt) (G1 : Gp) (acc : List W) (vs : List V) (its : List Value) : Prop where
  hn : n = ws.length - i
  hi : i ≤ ws.length
  inv : Inv Y [] σ1 H1 s
  st : tn i s.heap
  fr : ∀ b ∈ fp, H1 b = none
  hd : H1 D = none
  pl : s.heap.PlainList D its.toArray
  rv : Vals vs its
  ra : Reps Y.K H1 acc vs
  tl : TLe H2 H1
  rs : RelSt Y.K H1 τ1 σ1
  rg : RelG Y.K H1 G1
  cw : R (ws.drop i) τ1 G1 acc
  hl : acc.length ≤ 100000
theorem comp_block (I : Inv X pins σ H2 s2) (S : CompSc X scope N fv) (hc : X.calm = true) (T : Turn X.prog X.w X.K tg J fp it tn) (st : tn 0 s2.heap) (hf : ∀ b ∈ fp, FpOk X pins H2 b)
    (hg : ∀ C, QG (bCx X N scope C fp s2 H2) tg g) (htt : ∀ C, QTs (bCx X N scope C fp s2 H2) ifs tt) (hte : ∀ C, QE (bCx X N scope C fp s2 H2) elt te)
    (itn : Itn X.K J ws Cd H2) (hs : RelSt X.K H2 τ σ) (gr : RelG X.K H2 G) (hw : compW Cd g tt te ws (pick fv τ) G [] q) {RR : Value → Addr → Result → Shared → Prop} {E : Value → Shared → Prop}
    (hRR : ∀ D C s', CompEnd X pins σ H2 s2 G q D C s' → RR (.ref D) C (.ok .next) s') :
    wpAny (model X.prog X.w) X.A (newList []) (fun acc s3 => wpAny (model X.prog X.w) X.A (newFunctionEnv scope X.env.globals (clOf X.env scope.names []) [] X.env.qual none .none (some X.env)) (fun cenv s4 =>
      codeAny (model X.prog X.w) X.A (.compStart (.ListComp elt [⟨tg, iter, ifs, 0⟩] scope pos) 0 (.ref it) acc { cenv with scope := relabel scope X.env }) (RR acc cenv.locals) s4) E s3) E s2 := by
  have hfo : ∀ b ∈ fp, b < s2.heap.objs.size := fun b hb => let ⟨o, e, _⟩ := T.obj _ _ st b hb; Heap.lt_size e
  refine wpAny_newObj_type (wpAny_newFunctionEnv S.nocell (by intro y hy; simp at hy) (fun h1 hns1 hsb1 => ?_) S.kind)
  dsimp only at hns1 hsb1 ⊢
  generalize hP : s2.heap.push { cls := .type "list", dict := none, data := .seq ([] : List Value).toArray } = P at hns1 hsb1 ⊢
  generalize hD : s2.heap.objs.size = D at *
  have hC : P.objs.size = D + 1 := by rw [← hP, Heap.size_push, hD]
  generalize hCC : P.objs.size = C at *
  have hDC : D ≠ C := by rw [hC]; exact Nat.ne_of_lt (Nat.lt_succ_self _)
  have hDleC : D ≤ C := by rw [hC]; exact Nat.le_succ _
  have old : ∀ b o, s2.heap.get? b = some o → h1.get? b = some o := fun b o e => hsb1.extBut b o (Nat.ne_of_lt (Nat.lt_of_lt_of_le (Heap.lt_size e) (by rw [hD]; exact hDleC))) (Heap.get?_push_of_some _ (hP ▸ Heap.get?_push_of_some _ e))
  have hacc : h1.PlainList D #[] := ⟨0, hsb1.extBut _ _ hDC (Heap.get?_push_of_some _ (by rw [← hP, ← hD]; exact Heap.get?_push_size _ rfl))⟩
  have look : ∀ x c, (clOf X.env scope.names []).lookup x = some c → X.env.cells.lookup x = some c := clOf_lookup (S.cells I) (fun x c e => by simp at e)
  have cD : ∀ x c, (clOf X.env scope.names []).lookup x = some c → c ≠ D := fun x c e z => by
    obtain ⟨v, o, ho, _⟩ := I.cell x c (look x c e)
    exact absurd (Heap.lt_size ho) (by rw [z, hD]; exact Nat.lt_irrefl _)
  have sD : D ∉ frs X.stack := fun hb => by
    rcases List.mem_cons.mp (I.stkSub D hb) with z | z
    · exact absurd I.lt (by rw [← z, hD]; exact Nat.lt_irrefl _)
    · exact I.nofs (by rw [hD]; exact Nat.le_refl _) z
  have fD : D ∉ fp := fun hb => absurd (hfo D hb) (Nat.lt_irrefl _)
  have fpX : ∀ {H1 : Hp} {ps : List (Addr × Obj)}, (∀ b ∈ fp, H1 b = none) → (∀ p ∈ ps, p.1 ∉ fp) → ∀ b ∈ fp, FpOk (bCx X N scope C fp s2 H2) ps H1 b := fun {H1 ps} hn hp b hb => by
    refine ⟨hn b hb, Nat.ne_of_lt (Nat.lt_of_lt_of_le (hfo b hb) hDleC), fun hx => ?_, .inl hb, fun x c e => (hf b hb).2.2.2.2.1 x c (look x c e), fun p hp' z => hp p hp' (z ▸ hb)⟩
    rcases List.mem_cons.mp (I.stkSub b hx) with z | z
    · exact (hf b hb).2.1 z
    · exact (hf b hb).2.2.1 z
  have J0 : Inv (bCx X N scope C fp s2 H2) [] (pick fv σ) H2 { s2 with heap := h1, toks := s2.toks + ([] : List (Str × Value)).length } := block_inv I S hf (by rw [hD]; exact hfo) old (by rw [hD]; exact hDleC) hns1
  have loop : codeAny (model X.prog X.w) X.A (.compLoop (.ListComp elt [⟨tg, iter, ifs, 0⟩] scope pos) 0 (.ref it) (.ref D) (bCx X N scope C fp s2 H2).env) (RR (.ref D) C) { s2 with heap := h1, toks := s2.toks + ([] : List (Str × Value)).length } := by
    refine comp_loop (fun n s => ∃ i σ1 H1 τ1 G1 acc vs its, CompI (bCx X N scope C fp s2 H2) fp tn ws H2 D (fun l τ1 G1 acc => compW Cd g tt te l τ1 G1 acc q) n s i σ1 H1 τ1 G1 acc vs its) ?_ ws.length
      ⟨0, _, H2, _, G, [], [], [], by simp, Nat.zero_le _, J0, T.keep _ _ _ st fun b _ o e => old b o e, fun b hb => (hf b hb).1, I.hok.fresh (by rw [hD]; exact Nat.le_refl _), hacc, .nil, .nil, TLe.refl _, pick_rel hs, gr, by simpa using hw, by simp⟩
    rintro n s ⟨i, σ1, H1, τ1, G1, acc, vs, its, rfl, hi, J1, st1, fr1, d1, pl1, rv1, ra1, t1, s1, g1, q1, hl1⟩
    obtain ⟨kk, eD⟩ := pl1
    have J1p : Inv (bCx X N scope C fp s2 H2) [(D, { cls := .type "list", data := .seq its.toArray kk })] σ1 H1 s := J1.pins_of fun p hp => by
      have e := List.mem_singleton.mp hp
      subst e
      exact ⟨eD, d1, hDC, sD, fun v z => by cases z⟩
    have pnf : ∀ p ∈ [((D, { cls := .type "list", data := .seq its.toArray kk }) : Addr × Obj)], p.1 ∉ fp := fun p hp => by
      have e := List.mem_singleton.mp hp
      subst e
      exact fD
    by_cases hlt : i < ws.length
    · have ed : ws.drop i = ws[i] :: ws.drop (i + 1) := List.drop_eq_getElem_cons hlt
      rw [ed] at q1
      obtain ⟨c1, q1⟩ := q1
      obtain ⟨go, yl⟩ := itn.go i ws[i] H1 G1 t1 g1 c1 (List.getElem?_eq_getElem hlt)
      refine thn (T.item (bCx X N scope C fp s2 H2) rfl rfl rfl hc i _ s σ1 H1 nox J1p (fpX fr1 pnf) st1 go) fun r s4 ⟨u, hr, h4⟩ => ?_
      subst hr
      refine thn h4 fun _ s5 ⟨x, H5, I5, r5, y5, st5, fr5⟩ => ?_
      obtain ⟨tx, rx, gx⟩ := yl x H5 y5
      have I5' := I5.pinned (fpX fr5 pnf) (T.obj _ _ st5)
      refine thn (hg C _ s5 σ1 H5 x u (fun σ6 H6 => ∃ τ6 G6, TLe H5 H6 ∧ RelSt X.K H6 τ6 σ6 ∧ RelG X.K H6 G6 ∧ tt τ6 G6 fun b G3 => if b = true then te τ6 G3 fun v G4 => acc.length + 1 ≤ 100000 ∧ compW Cd g tt te (ws.drop (i + 1)) τ6 G4 (acc ++ [v]) q else compW Cd g tt te (ws.drop (i + 1)) τ6 G3 acc q) I5' r5
        ⟨ws[i], τ1, G1, _, rx, s1.mono tx, gx, q1, fun σ6 H6 τ6 G6 t6 s6 g6 q6 => ⟨τ6, G6, t6, s6, g6, q6⟩⟩) fun _ s6 ⟨σ6, H6, I6, τ6, G6, t6, rs6, g6, q6⟩ => ?_
      refine thn (htt C _ s6 σ6 H6 (fun b H7 => ∃ G7, TLe H6 H7 ∧ RelG X.K H7 G7 ∧ (if b = true then te τ6 G7 fun v G4 => acc.length + 1 ≤ 100000 ∧ compW Cd g tt te (ws.drop (i + 1)) τ6 G4 (acc ++ [v]) q else compW Cd g tt te (ws.drop (i + 1)) τ6 G7 acc q)) I6
        ⟨τ6, G6, _, rs6, g6, q6, fun b H7 G7 t7 g7 q7 => ⟨G7, t7, g7, q7⟩⟩) fun ok s7 ⟨H7, I7, G7, t7, g7, q7⟩ => ?_
      have t17 : TLe H1 H7 := (tx.trans t6).trans t7
      -- what the pins keep up to a later state
      have keepFp : ∀ {σ8 : St} {H8 : Hp} {s8 : Shared}, Inv (bCx X N scope C fp s2 H2) ([(D, { cls := .type "list", data := .seq its.toArray kk })] ++ pinsAt fp s5.heap) σ8 H8 s8 → tn (i + 1) s8.heap ∧ (∀ b ∈ fp, H8 b = none) ∧ H8 D = none ∧ s8.heap.get? D = some { cls := .type "list", data := .seq its.toArray kk } ∧ ∀ b ∈ fp, ∃ o, s8.heap.get? b = some o := fun {σ8 H8 s8} I8 => by
        refine ⟨T.keep _ _ _ st5 fun b hb o e => (I8.pin (b, o) (List.mem_append_right _ (List.mem_append_right _ (mem_pinsAt hb e)))).1, fun b hb => ?_, (I8.pin (D, _) (List.mem_append_right _ (List.mem_append_left _ List.mem_cons_self))).2.1, (I8.pin (D, _) (List.mem_append_right _ (List.mem_append_left _ List.mem_cons_self))).1, fun b hb => ?_⟩
        · obtain ⟨o, e, _⟩ := T.obj _ _ st5 b hb
          exact (I8.pin (b, o) (List.mem_append_right _ (List.mem_append_right _ (mem_pinsAt hb e)))).2.1
        · obtain ⟨o, e, _⟩ := T.obj _ _ st5 b hb
          exact ⟨o, (I8.pin (b, o) (List.mem_append_right _ (List.mem_append_right _ (mem_pinsAt hb e)))).1⟩
      cases ok with
      | false =>
        rw [if_neg Bool.false_ne_true] at q7 ⊢
        obtain ⟨k1, k2, k3, k4, _⟩ := keepFp I7
        exact ⟨ws.length - (i + 1), by omega, i + 1, σ6, H7, τ6, G7, acc, vs, its, rfl, hlt, I7.pins_of fun p hp => absurd hp (by simp), k1, k2, k3, ⟨kk, k4⟩, rv1, ra1.mono t17, t1.trans t17, rs6.mono t7, g7, q7, hl1⟩
      | true =>
        rw [if_pos rfl] at q7 ⊢
        refine thn (hte C _ s7 σ6 H7 (fun v H8 => ∃ w8 G8, TLe H7 H8 ∧ Rep X.K H8 w8 v ∧ RelG X.K H8 G8 ∧ acc.length + 1 ≤ 100000 ∧ compW Cd g tt te (ws.drop (i + 1)) τ6 G8 (acc ++ [w8]) q) I7
          ⟨τ6, G7, _, rs6.mono t7, g7, q7, fun v H8 w8 G8 t8 r8 g8 q8 => ⟨w8, G8, t8, r8, g8, q8⟩⟩) fun u8 s8 ⟨v8, H8, I8, rv8, w8, G8, t8, r8, g8, hl8, q8⟩ => ?_
        obtain ⟨k1, k2, k3, k4, k5⟩ := keepFp I8
        have t18 : TLe H1 H8 := t17.trans t8
        refine wpAny_list_append_plain ⟨kk, k4⟩ (fun h9 pl9 sb9 => ?_) (by rw [List.size_toArray, ← rv1.length, ← ra1.length]; exact line_le hl1)
        have I9 : Inv (bCx X N scope C fp s2 H2) [] σ6 H8 { s8 with heap := h9 } := (I8.pins_of (pins' := []) fun p hp => absurd hp (by simp)).turned (t' := s8.toks) (fun b o hb e => (sb9.2 b hb).trans e) k3 hDC (.inr (by show s2.heap.objs.size ≤ D; rw [hD]; exact Nat.le_refl _)) (fun x c e => cD x c e) fun p hp => absurd (show p ∈ ([] : List (Addr × Obj)) from hp) (by simp)
        refine ⟨ws.length - (i + 1), by omega, i + 1, σ6, H8, τ6, G8, acc ++ [w8], vs ++ [v8], its ++ [u8], rfl, hlt, I9, T.keep _ _ _ k1 fun b hb o e => (sb9.2 b (fun z => fD (z ▸ hb))).trans e, k2, k3, by simpa using pl9, rv1.append (.cons rv8 .nil), (ra1.mono t18).append (.cons r8 .nil), t1.trans t18, (rs6.mono t7).mono t8, g8, q8, by rw [List.length_append]; exact hl8⟩
    · have e : i = ws.length := by omega
      subst e
      rw [List.drop_length] at q1
      refine thn (T.done (bCx X N scope C fp s2 H2) rfl rfl rfl hc _ _ s σ1 H1 nox J1p (fpX fr1 pnf) st1 (itn.stop _ H1 G1 t1 g1 q1.1 (Nat.le_refl _))) fun r s4 ⟨hr, I4⟩ => ?_
      subst hr
      have eD4 := (I4.pin (D, _) (List.mem_append_right _ List.mem_cons_self)).1
      have zl : vs.length ≤ sizeLine := by rw [← ra1.length]; exact line_le hl1
      have hb2 : ∀ b o, s2.heap.get? b = some o → b ≠ D := fun b o e => by
        have := Heap.lt_size e
        rw [hD] at this
        exact Nat.ne_of_lt this
      refine hRR D C s4 ⟨upd H1 D (.lst vs), G1, acc, let ⟨m, hn, _⟩ := I4.loc; ⟨m, hn⟩, ?_, ?_, by rw [hD]; exact hDleC, t1.trans (TLe.new d1 _), ?_, gr.fresh (I.hok.fresh (by rw [hD]; exact Nat.le_refl _)), q1.2⟩
      · refine I.call' (ch := fp) I4.os ⟨fun b o e n hb hx => I4.base.keep b o e n hb hx, fun b o e n hb hx => I4.base.slot b o e n hb hx, fun b o e n hx => ?_, fun b o e hx => I4.base.there b o e hx, fun b xs e => ?_, fun b o u e => ?_, fun b ps e => ?_⟩ ?_ I4.bare fun b hb => ⟨(hf b hb).2.2.2.1, (hf b hb).2.1, fun x c e => (hf b hb).2.2.2.2.1 x c e, fun p hp => (hf b hb).2.2.2.2.2 p hp⟩
        · rw [upd_ne (hb2 b o e)]; exact I4.base.free b o e n hx
        · rw [upd_ne (ne_of_none (I4.base.tups b xs e) d1)]; exact I4.base.tups b xs e
        · rw [upd_ne (ne_of_none (I4.base.frzs b o u e) d1)]; exact I4.base.frzs b o u e
        · obtain ⟨more, e'⟩ := I4.base.tbls b ps e
          exact ⟨more, by rw [upd_ne (ne_of_none e' d1)]; exact e'⟩
        · intro b u e
          by_cases hbD : b = D
          · subst hbD
            rw [upd_same] at e; cases e
            exact ⟨zl, its, kk, rv1, eD4⟩
          · rw [upd_ne hbD] at e
            exact (I4.hok b u e).stay (fun c v _ q => q) (fun c q => by rw [upd_ne (ne_of_none q d1)]; exact q) fun c xs q => by rw [upd_ne (ne_of_none q d1)]; exact q
      · rw [upd_ne (Ne.symm hDC)]; exact I4.free
      · exact (g1.upd (TLe.new d1 _) (g1.fresh d1)).track upd_same (ra1.mono (TLe.new d1 _)) hl1
  exact codeAny_compStart_list loop (T.self _ 0 _ _ _ (T.keep _ _ _ st fun b _ o e => old b o e) loop)
noncomputable def wComp (wi : WI) (fv : List (Option Nat)) (g : WG) (tt : WT) (te : WE) : WE := fun τ G q => wi τ G fun ws Cd G1 => compW Cd g tt te ws (pick fv τ) G1 [] fun rs G2 => ∀ p, G1 p = none → q (.ref p) (updG G2 p (.lst rs))
theorem qe_comp {wi : WI} (S : CompSc X scope N fv) (hc : X.calm = true) (hi : QI X tg iter wi) (hg : ∀ C fp s2 H2, QG (bCx X N scope C fp s2 H2) tg g) (htt : ∀ C fp s2 H2, QTs (bCx X N scope C fp s2 H2) ifs tt) (hte : ∀ C fp s2 H2, QE (bCx X N scope C fp s2 H2) elt te)
    (hs : ∀ x, foldedSetIterable iter X.env x = pure x := by intro _; rfl) : QE X (.ListComp elt [⟨tg, iter, ifs, 0⟩] scope pos) (wComp wi fv g tt te) := by
  intro pins s σ H Q I ⟨τ, G, q, hτ, hG, ht, hQ⟩
  rw [eval_ListComp]
  refine wpAny_comprehension_free (use := none) rfl hs (closure_of (S.cells I)) S.kind S.names (thn (hi pins s σ H (fun J H1 => ∃ ws Cd G1, TLe H H1 ∧ RelG X.K H1 G1 ∧ Itn X.K J ws Cd H1 ∧ compW Cd g tt te ws (pick fv τ) G1 [] fun rs G2 => ∀ p, G1 p = none → q (.ref p) (updG G2 p (.lst rs))) I
    ⟨τ, G, _, hτ, hG, ht, fun J H1 ws C G1 t1 g1 it r1 => ⟨ws, C, G1, t1, g1, it, r1⟩⟩) fun v s1 h1 => thn h1 fun itv s2 h2 => ?_)
  obtain ⟨it, fp, tn, J, H2, e, I2, T, st2, f2, ws, Cd, G1, t1, g1, itn, hw⟩ := h2
  subst e
  refine comp_block (RR := fun acc C => compPost (model X.prog X.w) X.A X.xe none (EP X pins σ Q) acc C) I2 S hc T st2 f2 (fun C => hg C fp s2 H2) (fun C => htt C fp s2 H2) (fun C => hte C fp s2 H2) itn (hτ.mono t1) g1 hw fun D C s' ⟨Hf, Gf, rs, ⟨m, hn⟩, I5, hC, hCs, t5, g5, hD, q5⟩ => ?_
  refine ⟨m, hn, fun h' sb => ?_⟩
  have hlt : C ≠ X.env.locals := fun z => absurd I2.lt (Nat.not_lt.mpr (z ▸ hCs))
  have I6 : Inv X pins σ Hf { s' with heap := h' } := I5.turned (t' := s'.toks) (fun b o hb e => (sb.2 b hb).trans e) hC hlt (.inr (Nat.le_trans I2.sz hCs)) (fun x c e z => by
    obtain ⟨v, o, ho, _⟩ := I2.cell x c e
    exact absurd (Heap.lt_size ho) (Nat.not_lt.mpr (z ▸ hCs))) fun p hp z => absurd (Heap.lt_size (I2.pin p hp).1) (Nat.not_lt.mpr (z ▸ hCs))
  exact ⟨.ref D, Hf, I6, rfl, hQ _ Hf _ _ (t1.trans t5) (.ref D) g5 (q5 D hD)⟩
end
end L2
namespace L2
open PySem PySem.Spec PyProof.Rows
noncomputable def Itz (K : PySem.W.Frag) (a b : Addr) : It :=
  ⟨fun i H => ∃ xs ys x y, SqT K H a xs ∧ SqT K H b ys ∧ xs[i]? = some x ∧ ys[i]? = some y,
   fun i H v H' => ∃ p x y, H p = none ∧ (∀ xs, SqT K H a xs → xs[i]? = some x) ∧ (∀ ys, SqT K H b ys → ys[i]? = some y) ∧ v = .ref p ∧ H' = upd H p (.tup [x, y]),
   fun i H => ∃ xs ys, SqT K H a xs ∧ SqT K H b ys ∧ (xs.length ≤ i ∨ ys.length ≤ i)⟩
section
variable {P : Program} {w : World} {K : PySem.W.Frag}
theorem turn_zip {elts : List Expr} {k : Nat} {pos : Pos} {z p r i j a b : Addr} (D : ZA z p r i j a b) : Turn P w K (.Tuple elts k pos) (Itz K a b) [z, p, r, i, j] z (fun n h => ZT z p r i j a b n .none h) where
  mem := by simp
  obj := fun n h T c hc => by
    obtain ⟨hz, hp, ⟨x, y, hr⟩, ⟨oi, hi, _, di⟩, ⟨oj, hj, _, dj⟩⟩ := T
    simp only [List.mem_cons, List.mem_nil_iff, or_false] at hc
    rcases hc with rfl | rfl | rfl | rfl | rfl
    · exact ⟨_, hz, fun v q => by cases q⟩
    · exact ⟨_, hp, fun v q => by cases q⟩
    · exact ⟨_, hr, fun v q => by cases q⟩
    · exact ⟨_, hi, fun v q => by rw [di] at q; cases q⟩
    · exact ⟨_, hj, fun v q => by rw [dj] at q; cases q⟩
  keep := fun n h h' T kk => by
    obtain ⟨hz, hp, ⟨x, y, hr⟩, hi, hj⟩ := T
    exact ⟨kk z (by simp) _ hz, kk p (by simp) _ hp, ⟨x, y, kk r (by simp) _ hr⟩, hi.at fun o e => kk i (by simp) o e, hj.at fun o e => kk j (by simp) o e⟩
  item := by
    intro X hP hw hK hc n pins s σ H E I hf T hg
    subst hP hw hK
    obtain ⟨xs, ys, x, y, qa, qb, ex, ey⟩ := hg
    obtain ⟨its, rv, pa, hza⟩ := I.tuple qa
    obtain ⟨its2, rv2, pb, hzb⟩ := I.tuple qb
    obtain ⟨ux, eux, rx⟩ := rv.get ex
    obtain ⟨uy, euy, ry⟩ := rv2.get ey
    refine zipT_item D T (show s.heap.IsTuple a its.toArray from pa) (show s.heap.IsTuple b its2.toArray from pb) (by simpa using eux) (by simpa using euy) fun h1 T1 t1 k1 => ⟨_, rfl, ?_⟩
    refine wpAny_letOwnedTupleGo_zip T1.hz fun h2 hz2 sb2 => ?_
    have lt : ∀ {c : Addr} {o : Obj}, s.heap.get? c = some o → c ≠ s.heap.objs.size := fun e => Nat.ne_of_lt (Heap.lt_size e)
    have hnew : H s.heap.objs.size = none := I.hok.fresh (Nat.le_refl _)
    have zne : z ≠ s.heap.objs.size := lt T.hz
    have keep : ∀ c o, c ≠ z → c ≠ r → c ≠ i → c ≠ j → s.heap.get? c = some o → h2.get? c = some o := fun c o c1 c2 c3 c4 e => sb2.extBut c o c1 (k1 c o c1 c2 c3 c4 e)
    have tn : h2.get? s.heap.objs.size = some { cls := .type "tuple", data := .seq #[ux, uy] } := sb2.extBut _ _ (Ne.symm zne) t1
    have inZ : ∀ c ∈ [z, r, i, j], c ∈ [z, p, r, i, j] := fun c hc => by
      simp only [List.mem_cons, List.mem_nil_iff, or_false] at hc ⊢
      rcases hc with h | h | h | h <;> simp [h]
    have notin : ∀ {c : Addr}, c ∉ [z, r, i, j] → c ≠ z ∧ c ≠ r ∧ c ≠ i ∧ c ≠ j := fun {c} hc => by
      simp only [List.mem_cons, List.mem_nil_iff, or_false, not_or] at hc
      exact hc
    have tracked : ∀ c u, H c = some u → c ∉ [z, r, i, j] := fun c u e hc => by
      rw [(hf c (inZ c hc)).1] at e; cases e
    refine ⟨.ref s.heap.objs.size, upd H s.heap.objs.size (.tup [x, y]), ?_, rfl, ⟨_, x, y, hnew, fun zs hz => by rw [I.tuple_inj hz qa]; exact ex, fun zs hz => by rw [I.tuple_inj hz qb]; exact ey, rfl, rfl⟩, ⟨hz2, ?_, ?_, ?_, ?_⟩, fun c hc => ?_⟩
    · show Inv X pins σ _ { s with heap := h2, gens := s.gens, drawn := s.drawn, toks := s.toks }
      refine I.step (g' := s.gens) (d' := s.drawn) (t' := s.toks) (ch := [z, r, i, j]) (fun c hc => ?_) (fun c o _ _ hc e _ => ?_) (fun c o _ _ hc e _ => ⟨o.slots, ?_⟩) (fun c o _ e n => ?_) (fun c o hc e => ⟨o, ?_⟩) (fun c xs e => ?_) (fun c o u e => ?_) (fun c ps e => ⟨#[], ?_⟩) (fun m hm => ?_) (fun c u e => ?_) I.bare
      · obtain ⟨_, f1, _, f3, f4, f5⟩ := hf c (inZ c hc)
        exact ⟨f3, f1, f4, f5⟩
      · obtain ⟨c1, c2, c3, c4⟩ := notin hc; exact keep c o c1 c2 c3 c4 e
      · obtain ⟨c1, c2, c3, c4⟩ := notin hc; exact keep c o c1 c2 c3 c4 e
      · rw [upd_ne (lt e)]; exact n
      · obtain ⟨c1, c2, c3, c4⟩ := notin hc; exact keep c o c1 c2 c3 c4 e
      · rw [upd_ne (ne_of_none e hnew)]; exact e
      · rw [upd_ne (ne_of_none e hnew)]; exact e
      · rw [upd_ne (ne_of_none e hnew), e]; simp
      · obtain ⟨o, es, ep, ho, rest⟩ := hm
        have nl : ∀ c ∈ [z, r, i, j], X.env.locals ≠ c := fun c hc => Ne.symm (hf c (inZ c hc)).2.1
        exact ⟨o, es, ep, keep _ o (nl z (by simp)) (nl r (by simp)) (nl i (by simp)) (nl j (by simp)) ho, rest⟩
      · by_cases hcs : c = s.heap.objs.size
        · subst hcs
          rw [upd_same] at e; cases e
          exact ⟨by show 2 ≤ sizeLine; decide, [ux, uy], .cons rx (.cons ry .nil), ⟨_, tn, rfl, _, rfl⟩⟩
        · rw [upd_ne hcs] at e
          refine (I.hok c u e).stay (fun c' v hc' q => ?_) (fun c' q => by rw [upd_ne (ne_of_none q hnew)]; exact q) fun c' xs q => by rw [upd_ne (ne_of_none q hnew)]; exact q
          have nt : c' ∉ [z, r, i, j] := by
            rcases hc' with rfl | hc'
            · exact tracked _ _ e
            · exact tracked _ _ hc'
          obtain ⟨c1, c2, c3, c4⟩ := notin nt
          exact keep c' v c1 c2 c3 c4 q
    · exact sb2.extBut _ _ D.zp T1.hp
    · obtain ⟨x', y', hr⟩ := T1.hr
      exact ⟨x', y', sb2.extBut _ _ D.zr hr⟩
    · exact T1.hi.extBut sb2.extBut D.zi
    · exact T1.hj.extBut sb2.extBut D.zj
    · obtain ⟨o, e, _⟩ : ∃ o, s.heap.get? c = some o ∧ True := by
        obtain ⟨hz, hp, ⟨x, y, hr⟩, ⟨oi, hi, _, di⟩, ⟨oj, hj, _, dj⟩⟩ := T
        simp only [List.mem_cons, List.mem_nil_iff, or_false] at hc
        rcases hc with rfl | rfl | rfl | rfl | rfl
        · exact ⟨_, hz, trivial⟩
        · exact ⟨_, hp, trivial⟩
        · exact ⟨_, hr, trivial⟩
        · exact ⟨_, hi, trivial⟩
        · exact ⟨_, hj, trivial⟩
      rw [upd_ne (lt e)]; exact (hf c hc).1
  done := by
    intro X hP hw hK hc n pins s σ H E I hf T hg
    subst hP hw hK
    obtain ⟨xs, ys, qa, qb, hl⟩ := hg
    obtain ⟨its, rv, pa, hza⟩ := I.tuple qa
    obtain ⟨its2, rv2, pb, hzb⟩ := I.tuple qb
    have la := rv.length
    have lb := rv2.length
    have hx : its.toArray[n]? = none ∨ its2.toArray[n]? = none := by
      rcases hl with h | h
      · exact .inl (by simp; (clear D hc I hf T qa qb rv pa hza rv2 pb hzb lb; omega))
      · exact .inr (by simp; (clear D hc I hf T qa qb rv pa hza rv2 pb hzb la; omega))
    refine zipT_end (I.ok.hd hc) D T (show s.heap.IsTuple a its.toArray from pa) (show s.heap.IsTuple b its2.toArray from pb) hx fun h' k1 => ⟨rfl, ?_⟩
    have inZ : ∀ c ∈ [z, r, i, j], c ∈ [z, p, r, i, j] := fun c hc => by
      simp only [List.mem_cons, List.mem_nil_iff, or_false] at hc ⊢
      rcases hc with h | h | h | h <;> simp [h]
    have notin : ∀ {c : Addr}, c ∉ [z, r, i, j] → c ≠ z ∧ c ≠ r ∧ c ≠ i ∧ c ≠ j := fun {c} hc => by
      simp only [List.mem_cons, List.mem_nil_iff, or_false, not_or] at hc
      exact hc
    have tracked : ∀ c u, H c = some u → c ∉ [z, r, i, j] := fun c u e hc => by
      rw [(hf c (inZ c hc)).1] at e; cases e
    have kk : ∀ c o, c ∉ [z, r, i, j] → s.heap.get? c = some o → h'.get? c = some o := fun c o hc e => by
      obtain ⟨c1, c2, c3, c4⟩ := notin hc; exact k1 c o c1 c2 c3 c4 e
    refine I.step (g' := s.gens) (d' := s.drawn) (t' := s.toks) (ch := [z, r, i, j]) (fun c hc => ?_) (fun c o _ _ hc e _ => kk c o hc e) (fun c o _ _ hc e _ => ⟨o.slots, kk c o hc e⟩) (fun _ _ _ _ n => n) (fun c o hc e => ⟨o, kk c o hc e⟩) (fun _ _ e => e) (fun _ _ _ e => e) (fun c ps e => ⟨#[], by rw [e]; simp⟩) (fun m hm => ?_) (fun c u e => ?_) I.bare
    · obtain ⟨_, f1, _, f3, f4, f5⟩ := hf c (inZ c hc)
      exact ⟨f3, f1, f4, f5⟩
    · obtain ⟨o, es, ep, ho, rest⟩ := hm
      have nl : X.env.locals ∉ [z, r, i, j] := fun hc => (hf _ (inZ _ hc)).2.1 rfl
      exact ⟨o, es, ep, kk _ o nl ho, rest⟩
    · refine (I.hok c u e).stay (fun c' v hc' q => kk c' v ?_ q) (fun _ q => q) fun _ _ q => q
      rcases hc' with rfl | hc'
      · exact tracked _ _ e
      · exact tracked _ _ hc'
  self := fun _ _ _ _ _ T h => wpAny_pyIter_zip T.hz h
end
noncomputable def zipW : List W → List W → List W
  | x :: xs, y :: ys => .tup [x, y] :: zipW xs ys
  | _, _ => []
theorem zipW_get : ∀ {xs ys : List W} {i : Nat} {w : W}, (zipW xs ys)[i]? = some w → ∃ x y, xs[i]? = some x ∧ ys[i]? = some y ∧ w = .tup [x, y]
  | [], _, _, _, e => by simp [zipW] at e
  | _ :: _, [], _, _, e => by simp [zipW] at e
  | x :: xs, y :: ys, 0, w, e => by simp [zipW] at e; exact ⟨x, y, rfl, rfl, e.symm⟩
  | x :: xs, y :: ys, i + 1, w, e => by
    obtain ⟨a, b, h1, h2, h3⟩ := zipW_get (xs := xs) (ys := ys) (i := i) (w := w) (by simpa [zipW] using e)
    exact ⟨a, b, by simpa using h1, by simpa using h2, h3⟩
theorem zipW_length : ∀ (xs ys : List W), (zipW xs ys).length = min xs.length ys.length
  | [], _ => by simp [zipW]
  | _ :: _, [] => by simp [zipW]
  | _ :: xs, _ :: ys => by simp only [zipW, List.length_cons, zipW_length xs ys]; exact (Nat.succ_min_succ _ _).symm
section
variable {X : Cx}
theorem itn_zip {K : PySem.W.Frag} {a b : Addr} {ws us : List W} {xs ys : List V} {H : Hp} (ha : H a = some (.tup xs)) (hb : H b = some (.tup ys)) (ra : Reps K H ws xs) (rb : Reps K H us ys) : Itn K (Itz K a b) (zipW ws us) (fun _ => True) H where
  stop := fun i H1 G t g _ hl => ⟨xs, ys, SqT.of (t.tup _ _ ha), SqT.of (t.tup _ _ hb), by
    rw [zipW_length] at hl
    rw [← ra.length, ← rb.length]
    (clear ha hb ra rb t g; omega)⟩
  go := fun i w H1 G t g _ e => by
    obtain ⟨x, y, ex, ey, rfl⟩ := zipW_get e
    obtain ⟨vx, e1, r1⟩ := ra.get ex
    obtain ⟨vy, e2, r2⟩ := rb.get ey
    refine ⟨⟨xs, ys, vx, vy, SqT.of (t.tup _ _ ha), SqT.of (t.tup _ _ hb), e1, e2⟩, fun v H' ⟨p, x', y', hp, h1, h2, ev, eH⟩ => ?_⟩
    have z1 := h1 _ (SqT.of (t.tup _ _ ha))
    have z2 := h2 _ (SqT.of (t.tup _ _ hb))
    rw [e1] at z1; cases z1
    rw [e2] at z2; cases z2
    subst ev eH
    have tn := TLe.new hp (HO.tup [vx, vy])
    exact ⟨tn, .tup upd_same (.cons ((r1.mono t).mono tn) (.cons ((r2.mono t).mono tn) .nil)), g.keep hp _⟩
noncomputable def jZip (ta : WA) : WI := fun τ G r => ta τ G fun ws G1 => match ws with
  | [.tup xs, .tup ys] => r (zipW xs ys) (fun _ => True) G1
  | _ => False
theorem boot_zip : bootBuiltins "zip" = some (.type "zip") := by decide +kernel
theorem inv_tt {ws : List W} {f : List W → List W → Prop} (h : match ws with | [.tup xs, .tup ys] => f xs ys | _ => False) : ∃ xs ys, ws = [.tup xs, .tup ys] ∧ f xs ys := by
  rcases ws with _ | ⟨a, _ | ⟨b, r⟩⟩
  · exact h.elim
  · cases a <;> exact h.elim
  · cases a with
    | tup i =>
      cases b with
      | tup j => cases r with
        | nil => exact ⟨i, j, rfl, h⟩
        | cons _ _ => exact h.elim
      | _ => exact h.elim
    | _ => exact h.elim
theorem qi_zip {elts : List Expr} {k : Nat} {tp : Pos} {a b : Expr} {ta : WA} {p pos : Pos} (hg : Gl X "zip") (hm : X.mg "zip" = none) (ha : QA X [a, b] ta) (hs : starEach [a, b] X.env = [(false, eval a X.env), (false, eval b X.env)] := by rfl) (hs2 : starEach [b] X.env = [(false, eval b X.env)] := by rfl) :
    QI X (.Tuple elts k tp) (.Call (.Name "zip" p) [a, b] [] pos) (jZip ta) := by
  intro pins s σ H R I ⟨τ, G, r, hτ, hG, ht, hR⟩
  refine Call_ (ld_blt I hg hm boot_zip (PyProof.Rows.callWith_type1 (thn (ha pos pins s σ H (fun vs H1 => ∃ ws G1, TLe H H1 ∧ Reps X.K H1 ws vs ∧ RelG X.K H1 G1 ∧ match ws with | [.tup xs, .tup ys] => r (zipW xs ys) (fun _ => True) G1 | _ => False) I ⟨τ, G, _, hτ, hG, ht, fun vs H1 ws G1 t1 r1 g1 q1 => ⟨ws, G1, t1, r1, g1, q1⟩⟩) fun us s1 ⟨vs, H1, I1, ru, ws, G1, t1, r1, g1, q1⟩ => ?_) (by rw [hs, hs2]) (by rw [hs2]; rfl)))
  obtain ⟨xs, ys, rfl, q1⟩ := inv_tt q1
  obtain ⟨v1, v2, rfl, ra, rb⟩ := r1.two
  cases ra with
  | @tup pa _ xs' ha' ra =>
    cases rb with
    | @tup pb _ ys' hb' rb =>
      obtain ⟨u1, u2, rfl, w1, w2⟩ := vals2 ru
      cases (show u1 = Value.ref pa from w1)
      cases (show u2 = Value.ref pb from w2)
      obtain ⟨its, _, p1, _⟩ := I1.tuple (SqT.of ha')
      obtain ⟨its2, _, p2, _⟩ := I1.tuple (SqT.of hb')
      refine call_zipT (show s1.heap.IsTuple pa its.toArray from p1) (show s1.heap.IsTuple pb its2.toArray from p2) fun h' T kk => ?_
      refine wpAny_pyIter_zip T.hz ?_
      have I2 : Inv X pins σ H1 { s1 with heap := h' } := I1.kept (t' := s1.toks) kk
      refine ⟨_, [s1.heap.objs.size + 4, s1.heap.objs.size + 2, s1.heap.objs.size + 3, s1.heap.objs.size, s1.heap.objs.size + 1], _, _, H1, rfl, I2, turn_zip (za_new p1.lt p2.lt), T, fun c hc => ?_, hR _ H1 _ _ G1 t1 g1 (itn_zip ha' hb' ra rb) q1⟩
      have hle : s1.heap.objs.size ≤ c := by
        simp only [List.mem_cons, List.mem_nil_iff, or_false] at hc
        rcases hc with rfl | rfl | rfl | rfl | rfl
        · exact Nat.le_add_right _ _
        · exact Nat.le_add_right _ _
        · exact Nat.le_add_right _ _
        · exact Nat.le_refl _
        · exact Nat.le_add_right _ _
      exact I1.fpOk hle (I1.hok.fresh hle)
noncomputable def wNeg (te : WE) : WE := fun τ G q => te τ G fun x G1 => match x with | .int i => q (.int (-i)) G1 | _ => False
theorem qe_neg {a : Expr} {ta : WE} {pos : Pos} (ha : QE X a ta) : QE X (.UnaryOp .USub a pos) (wNeg ta) :=
  (pe_un un_neg ha).imp fun σ H Q z0 => z0.el fun τ G q hs hg ht hQ => ⟨τ, G, _, hs, hg, ht, fun v H1 w G1 t1 r1 g1 q1 => by
    split at q1
    · cases r1
      exact ⟨_, rfl, hQ _ H1 _ G1 t1 (.int _) g1 q1⟩
    · exact q1.elim⟩
noncomputable def Fx (P : Program) (w : World) (K : PySem.W.Frag) (mg : Str → Option Value) (base : Heap) (x : Str) (ps : List Str) (k : Nat) (sp : WSp) : Prop :=
  ∃ (f : Addr) (fd : FuncData), WFn P w K mg base k f fd ps sp ∧ mg x = some (.ref f) ∧ PySem.W.keepIn K (.ref f) = true ∧ Binds K fd ps []
theorem qe_fx {x : Str} {ps : List Str} {k : Nat} {sp : WSp} {p pos : Pos} {e : Expr} {es : List Expr} {t : WA} (F : Fx X.prog X.w X.K X.mg X.base x ps k sp) (hr : Room k X.A) (hg : Gl X x) (ha : QA X (e :: es) t) (hdb : (x == ("__debug__" : Str)) = false := by decide)
    (he : starEach (e :: es) X.env = (false, eval e X.env) :: starEach es X.env := by rfl) (hpl : (backTo pos (starEach es X.env)).any (·.1) = false := by rfl) : QE X (.Call (.Name x p) (e :: es) [] pos) (wCall sp [] t) := by
  obtain ⟨f, fd, h1, h2, h3, h4⟩ := F
  exact qe_call h1 hr hg h2 h3 h4 ha hdb he hpl
noncomputable def compN (scope : Scope) : List Str := scope.names.map (·.1)
noncomputable def compFv (N : List Str) (scope : Scope) : List (Option Nat) := scope.names.map fun y => if y.2 == .free then N.findIdx? (· == y.1) else none
noncomputable def compOk (outer scope : Scope) : Bool :=
  scope.kind == .function && scope.names.all (fun y => y.2 != .cell) && scope.names.all (fun y => y.2 != .local || scope.names.lookup y.1 == some .local) &&
    scope.names.all (fun y => y.2 != .free || (outer.names.lookup y.1 == some .cell && scope.names.lookup y.1 != some .local))
theorem compSc {scope : Scope} (h : compOk X.env.scope scope = true) : CompSc X scope (compN scope) (compFv X.N scope) := by
  unfold compOk at h
  simp only [Bool.and_eq_true, List.all_eq_true, Bool.or_eq_true, bne_iff_ne, beq_iff_eq, ne_eq] at h
  obtain ⟨⟨⟨h1, h2⟩, h3⟩, h4⟩ := h
  refine ⟨h1, h2, fun x hx hk => (h3 x hx).resolve_left fun z => z hk, fun y hy hk => ((h4 y hy).resolve_left fun z => z hk).1, fun i j x e1 e2 => ?_, by simp [compN, compFv], fun {x} hx => ((h4 _ hx).resolve_left fun z => z rfl).2⟩
  unfold compN at e1
  unfold compFv at e2
  rw [List.getElem?_map] at e1 e2
  cases e : scope.names[i]? with
  | none => rw [e] at e1; cases e1
  | some y =>
    rw [e] at e1 e2
    have e1' : y.1 = x := Option.some.inj e1
    have e2' : (if (y.2 == NameKind.free) = true then X.N.findIdx? (· == y.1) else none) = some j := Option.some.inj e2
    have hm : y ∈ scope.names := List.mem_of_getElem? e
    split at e2'
    · rename_i hk
      have hk' : y.2 = .free := by simpa using hk
      have hy : y = (x, NameKind.free) := by rw [← e1', ← hk']
      have := List.findIdx?_eq_some_iff_getElem.mp e2'
      obtain ⟨hj, hj2, _⟩ := this
      refine ⟨?_, ?_, hy ▸ hm⟩
      · rw [List.getElem?_eq_getElem hj]
        have : X.N[j] = y.1 := by simpa using hj2
        rw [this, e1']
      · have := ((h4 y hm).resolve_left fun z => z hk').1
        rw [e1'] at this
        exact this
    · cases e2'
theorem qg_nameB (i : Nat) {N : List Str} {scope : Scope} {C : Addr} {fp : List Addr} {s2 : Shared} {H2 : Hp} {x : Str} {pos : Pos} (hN : N.Nodup) (hi : N[i]? = some x) (hx : Loc (bCx X N scope C fp s2 H2).env.scope x) (hf : (bCx X N scope C fp s2 H2).fn x = true ∨ (bCx X N scope C fp s2 H2).env.scope.names.lookup x = some .local := by first | exact .inl rfl | exact .inr rfl) :
    QG (bCx X N scope C fp s2 H2) (.Name x pos) (hName i) := qg_name (X := bCx X N scope C fp s2 H2) i hN hi hx hf
theorem b_tuple : bootBuiltins "tuple" = some (.type "tuple") := by decide +kernel
theorem b_list : bootBuiltins "list" = some (.type "list") := by decide +kernel
theorem b_sum : bootBuiltins "sum" = some (.builtin "sum") := by decide +kernel
theorem bodyOf {body : List Stmt} {R : WS → Prop} {t : WS} (h : QSs X body t) (g : R t) : ∃ t, QSs X body t ∧ R t := ⟨t, h, g⟩
end
end L2
namespace L2
open PySem PySem.Spec PyProof.Rows
mutual
noncomputable def W.lt : W → W → Bool
  | .int i, .int j => decide (i < j)
  | .tup xs, .tup ys => W.lts xs ys
  | _, _ => false
noncomputable def W.lts : List W → List W → Bool
  | [], [] => false
  | [], _ :: _ => true
  | _ :: _, [] => false
  | x :: xs, y :: ys => if W.eq x y = true then W.lts xs ys else W.lt x y
end
mutual
noncomputable def W.ord : W → W → Bool
  | .int _, .int _ => true
  | .tup xs, .tup ys => W.ords xs ys
  | _, _ => false
noncomputable def W.ords : List W → List W → Bool
  | x :: xs, y :: ys => if W.eq x y = true then W.ords xs ys else W.ord x y
  | _, _ => true
end
noncomputable def LtAt (A : Around) (s : Shared) (y x : Value) (b : Bool) : Prop :=
  ∀ (prog : Program) (w : World) (E : Value → Shared → Prop) (Q : Value → Shared → Prop), Q (.bool b) s → wpAny (model prog w) A (richCompare .Lt y x) Q E s
inductive CmpL (A : Around) (s : Shared) : List Value → List Value → Bool → Prop where
  | nn : CmpL A s [] [] false
  | nc {y : Value} {ys : List Value} : CmpL A s [] (y :: ys) true
  | cn {x : Value} {xs : List Value} : CmpL A s (x :: xs) [] false
  | eq {x y : Value} {xs ys : List Value} {r : Bool} (h : SeqAt.EqAt A s x y true) (t : CmpL A s xs ys r) : CmpL A s (x :: xs) (y :: ys) r
  | ne {x y : Value} {xs ys : List Value} {r : Bool} (h : SeqAt.EqAt A s x y false) (t : LtAt A s x y r) : CmpL A s (x :: xs) (y :: ys) r
section
open PySem.SeqAt
open PySem.AutoSeq1 (wpAny_loadPart')
open PySem.MeetsSeq PySem.MeetsSeq2 PySem.MeetsSeq3
theorem tuple_ltAt (l b : Addr) (items items2 : Array Value) (n n2 : Nat) (dd dd2 : Option Addr) (sl sl2 : Array (Option Value)) (r : Bool) :
    Meets (Builtin.«tuple.__lt__» ⟨[.ref l, .ref b], []⟩)
      (fun A R s => s.heap.get? l = some { cls := .type "tuple", dict := dd, data := .seq items n, slots := sl } ∧ s.heap.get? b = some { cls := .type "tuple", dict := dd2, data := .seq items2 n2, slots := sl2 } ∧
        CmpL A.in1 s items.toList items2.toList r ∧ R (.ok (.ret (.bool r))) s) :=
  .of_wp fun prog w A R s h => by
    obtain ⟨hp, g, d, tk, os⟩ := s; obtain ⟨hl, hb, hc, h⟩ := h
    have f2 := AutoSeq1.sub_tuple_tuple
    wp_walk using wpAny_loadPart' hl, wpAny_loadPart' hb, wpAny_forIn_list _ (fun rest b s' => b.1 = none ∧ s' = ⟨hp, g, d, tk, os⟩ ∧ ∃ (vs ws : List Value), rest = vs.zip ws ∧
      CmpL A.in1 ⟨hp, g, d, tk, os⟩ vs ws r ∧ vs.length + items2.size = ws.length + items.size) _
    case turn =>
      rintro ⟨y, x⟩ rest b s' ⟨hb', rfl, vs, ws, hz, hC, hlen⟩
      cases hC with
      | nn => rw [List.zip_nil_left] at hz; cases hz
      | nc => rw [List.zip_nil_left] at hz; cases hz
      | cn => rw [List.zip_nil_right] at hz; cases hz
      | eq he ht =>
        rw [List.zip_cons_cons] at hz
        injection hz with hyx hrest
        injection hyx with hy hx
        subst hy hx
        simp only [List.length_cons] at hlen
        refine wpAny_bind (he prog w _ _ ?_)
        wp_walk
        exact ⟨rfl, rfl, _, _, hrest, ht, by (clear hl hb hc h f2 hb' ht hrest he; omega)⟩
      | ne he ht =>
        rw [List.zip_cons_cons] at hz
        injection hz with hyx hrest
        injection hyx with hy hx
        subst hy hx
        refine wpAny_bind (he prog w _ _ ?_)
        have hri := ht prog w
        wp_walk using hri
        exact ⟨_, rfl, by simpa using h⟩
    case fin =>
      rintro ⟨b1, b2⟩ s' ⟨hb', rfl, vs, ws, hz, hC, hlen⟩
      simp only at hb'
      subst hb'
      have hv : r = decide (items.size < items2.size) := by
        cases hC with
        | nn => simp only [List.length_nil] at hlen; exact (decide_eq_false (by (clear hl hb f2 hz hc h; omega))).symm
        | nc => simp only [List.length_nil, List.length_cons] at hlen; exact (decide_eq_true (by (clear hl hb f2 hz hc h; omega))).symm
        | cn => simp only [List.length_nil, List.length_cons] at hlen; exact (decide_eq_false (by (clear hl hb f2 hz hc h; omega))).symm
        | eq he ht => rw [List.zip_cons_cons] at hz; cases hz
        | ne he ht => rw [List.zip_cons_cons] at hz; cases hz
      rw [hv] at h
      wp_walk
      exact ⟨_, rfl, by simpa [Builtin.Tuple.tupleCompareSizes] using h⟩
    case h =>
      exact ⟨rfl, rfl, _, _, rfl, hc, by simp; (clear hl hb hc h f2; omega)⟩
end
theorem LtAt.tuples {A : Around} {s : Shared} {l b : Addr} {items items2 : Array Value} {r : Bool} (hl : s.heap.IsTuple l items) (hb : s.heap.IsTuple b items2) (hu : A.units < cLine)
    (hc : CmpL A.in1 s items.toList items2.toList r) : LtAt A s (.ref l) (.ref b) r := fun prog w E Q h => by
  obtain ⟨⟨cls, dd, data, sl⟩, ho, hcl, n, hd⟩ := id hl
  obtain ⟨⟨cls2, dd2, data2, sl2⟩, ho2, hc2, n2, hd2⟩ := id hb
  simp only at hcl hd hc2 hd2
  subst hcl hd hc2 hd2
  exact richCompare_meets_room (op := .Lt) ⟨_, ho, rfl⟩ ⟨_, ho2, rfl⟩ PySem.F.slot_tuple_lt PySem.F.entry_tuple_lt (PySem.F.args_tuple_lt_2 _ _) (tuple_ltAt l b items items2 n n2 dd dd2 sl sl2 r)
    ⟨ho, ho2, hc, show Value.bool r ≠ Value.notImplemented ∧ Q (.bool r) s from ⟨(fun x => nomatch x), h⟩⟩ hu
section
variable {X : Cx} {pins : List (Addr × Obj)} {σ : St} {H : Hp} {s : Shared}
theorem ltL_rep (I : Inv X pins σ H s) (n : Nat) (A : Around)
    (ih : ∀ {w1 w2 : W} {v1 v2 : V} {u1 u2 : Value}, w1.dep < n → w1.flat = true → w2.flat = true → W.ord w1 w2 = true → Rep X.K H w1 v1 → Rep X.K H w2 v2 → RelV v1 u1 → RelV v2 u2 → LtAt A s u1 u2 (w1.lt w2)) (hu : A.units + n < cLine) :
    ∀ {ws us : List W} {xs ys : List V} {its its2 : List Value}, W.deps ws < n → W.flats ws = true → W.flats us = true → W.ords ws us = true → Reps X.K H ws xs → Reps X.K H us ys → Vals xs its → Vals ys its2 → CmpL A s its its2 (W.lts ws us) := by
  intro ws
  induction ws with
  | nil =>
    intro us xs ys its its2 hd f1 f2 ho r1 r2 q1 q2
    cases r1
    cases q1
    cases r2 with
    | nil => cases q2; simpa [W.lts] using CmpL.nn
    | cons _ _ => cases q2; simpa [W.lts] using CmpL.nc
  | cons x xs IH =>
    intro us vs1 vs2 its its2 hd f1 f2 ho r1 r2 q1 q2
    cases r1 with
    | cons r1 s1 =>
      cases q1 with
      | cons q1 t1 =>
        cases r2 with
        | nil => cases q2; simpa [W.lts] using CmpL.cn
        | @cons y ys _ _ r2 s2 =>
          cases q2 with
          | cons q2 t2 =>
            simp only [W.deps] at hd
            simp only [W.flats, Bool.and_eq_true] at f1 f2
            have e := (eq_rep I n A (w1 := x) (w2 := y) (by (clear I ih hu IH r1 s1 q1 t1 r2 s2 ho q2 t2 f1 f2; omega)) f1.1 f2.1 hu r1 r2 q1 q2).1
            rw [W.ords] at ho
            rw [W.lts]
            cases he : W.eq x y with
            | true =>
              rw [he] at e ho
              rw [if_pos rfl] at ho ⊢
              exact .eq e (IH (by (clear I ih hu IH r1 s1 q1 t1 r2 s2 ho q2 t2 f1 f2 e he; omega)) f1.2 f2.2 ho s1 s2 t1 t2)
            | false =>
              rw [he] at e ho
              rw [if_neg Bool.false_ne_true] at ho ⊢
              exact .ne e (ih (by (clear I ih hu IH r1 s1 q1 t1 r2 s2 ho q2 t2 f1 f2 e he; omega)) f1.1 f2.1 ho r1 r2 q1 q2)
theorem lt_rep (I : Inv X pins σ H s) : ∀ (n : Nat) (A : Around) {w1 w2 : W} {v1 v2 : V} {u1 u2 : Value}, w1.dep < n → w1.flat = true → w2.flat = true → W.ord w1 w2 = true → A.units + n < cLine → Rep X.K H w1 v1 → Rep X.K H w2 v2 → RelV v1 u1 → RelV v2 u2 →
    LtAt A s u1 u2 (w1.lt w2) := by
  intro n
  induction n with
  | zero => intro A w1 w2 v1 v2 u1 u2 h; (clear I; omega)
  | succ n ih =>
    intro A w1 w2 v1 v2 u1 u2 hd f1 f2 ho hu r1 r2 q1 q2
    cases r1 with
    | ref a => simp [W.flat] at f1
    | scr a => simp [W.flat] at f1
    | non => simp [W.ord] at ho
    | bl b => simp [W.ord] at ho
    | str b => simp [W.ord] at ho
    | int a =>
      cases r2 with
      | int b =>
        obtain ⟨t, rfl⟩ := q1
        obtain ⟨t', rfl⟩ := q2
        rw [W.lt]
        exact fun prog w E Q h => HT.rcLt_int A s a t b t' prog w E Q h
      | _ => simp [W.ord] at ho
    | @tup a ws xs h r =>
      cases r2 with
      | @tup b us ys h2 r2 =>
        cases (show u1 = Value.ref _ from q1)
        cases (show u2 = Value.ref _ from q2)
        obtain ⟨its, rv, p, _⟩ := Inv.tupH I h
        obtain ⟨its2, rv2, p2, _⟩ := Inv.tupH I h2
        have g1 : W.flats ws = true := by simpa [W.flat] using f1
        have g2 : W.flats us = true := by simpa [W.flat] using f2
        have ho' : W.ords ws us = true := by simpa [W.ord] using ho
        have hd' : W.deps ws < n := by simp only [W.dep] at hd; (clear I ih hu h r f1 h2 r2 f2 ho q1 q2 rv p rv2 p2 g1 g2 ho'; omega)
        have hui : A.in1.units + n < cLine := by show A.units + 1 + n < cLine; (clear I ih h r hd f1 h2 r2 f2 ho q1 q2 rv p rv2 p2 g1 g2 ho' hd'; omega)
        rw [W.lt]
        exact LtAt.tuples p p2 (by (clear I ih h r hd f1 h2 r2 f2 ho q1 q2 rv p rv2 p2 g1 g2 ho' hd' hui; omega)) (ltL_rep I n A.in1 (fun h1 h2 h3 h4 => ih A.in1 h1 h2 h3 h4 hui) hui hd' g1 g2 ho' r r2 rv rv2)
      | _ => simp [W.ord] at ho
end
section
variable {X : Cx}
noncomputable def rLt3 : W2 := fun x y G q => match x, y with
  | .int i, .int j => q (.bl (decide (i < j))) G
  | .tup xs, .tup ys => W.flats xs = true ∧ W.flats ys = true ∧ W.deps xs ≤ 149 ∧ W.ords xs ys = true ∧ q (.bl (W.lts xs ys)) G
  | _, _ => False
theorem q_lt3 {k : Nat} (hr : Room k X.A) : QOp X (compareOp .Lt) rLt3 := by
  intro pins s σ H x y v u Q I rx ry ⟨wx, wy, G, q, r1, r2, g, h, hQ⟩
  unfold rLt3 at h
  split at h
  · cases r1
    cases r2
    exact op_lt pins s σ H _ _ v u Q I rx ry ⟨_, _, rfl, rfl, hQ _ H _ G (TLe.refl H) (.bl _) g h⟩
  · rename_i xs ys
    obtain ⟨f1, f2, hd, ho, h⟩ := h
    have z := lt_rep I 151 X.A (w1 := .tup xs) (w2 := .tup ys) (by simp only [W.dep]; (clear hr I rx ry g hQ r1 r2 f1 f2 ho h; omega)) (by simpa [W.flat] using f1) (by simpa [W.flat] using f2) (by simpa [W.ord] using ho) (by have := hr.un; (clear hr I rx ry g hQ r1 r2 f1 f2 hd ho h; omega)) r1 r2 rx ry
    rw [W.lt] at z
    exact z X.prog X.w X.xe _ ⟨.bl _, H, I, rfl, hQ _ H _ G (TLe.refl H) (.bl _) g h⟩
  · exact h.elim
end
end L2
namespace L2
open PySem PySem.Spec PyProof.Rows
section
variable {X : Cx}
end
end L2
namespace L2
open PySem PySem.Spec PyProof.Rows
section
variable {X : Cx} {pins : List (Addr × Obj)} {σ : St} {H : Hp} {s : Shared}
theorem eqJ (I : Inv X pins σ H s) {n : Nat} {A : Around} {ws us : List W} {xs ys : List V} {its its2 : List Value} (hd : W.deps ws < n) (g1 : W.flats ws = true) (g2 : W.flats us = true) (hu : A.in1.units + n < cLine) (r : Reps X.K H ws xs) (r2 : Reps X.K H us ys) (rv : Vals xs its) (rv2 : Vals ys its2) :
    ∀ j (h1 : j < its.toArray.size) (h2 : j < its2.toArray.size), SeqAt.EqAt A.in1 s its.toArray[j] its2.toArray[j] (eqAtJ ws us j) := fun j j1 j2 => by
  have e1 : its.length = ws.length := by rw [← rv.length, r.length]
  have e2 : its2.length = us.length := by rw [← rv2.length, r2.length]
  rw [List.size_toArray] at j1 j2
  have ea : ws[j]? = some ws[j] := List.getElem?_eq_getElem (by (clear I hd g1 g2 hu r r2 rv rv2 j2 e2; omega))
  have eb : us[j]? = some us[j] := List.getElem?_eq_getElem (by (clear I hd g1 g2 hu r r2 rv rv2 j1 e1 ea; omega))
  obtain ⟨va, ea1, ra⟩ := r.get ea
  obtain ⟨vb, eb1, rb⟩ := r2.get eb
  obtain ⟨ua, ea2, qa⟩ := rv.get ea1
  obtain ⟨ub, eb2, qb⟩ := rv2.get eb1
  have za : its.toArray[j] = ua := by
    have := (List.getElem?_eq_some_iff.mp ea2).2
    simpa using this
  have zb : its2.toArray[j] = ub := by
    have := (List.getElem?_eq_some_iff.mp eb2).2
    simpa using this
  rw [za, zb]
  have := (eq_rep I n A.in1 (w1 := ws[j]) (w2 := us[j]) (Nat.lt_of_le_of_lt (W.deps_get ea) hd) (W.flats_get g1 ea) (W.flats_get g2 eb) hu ra rb qa qb).1
  unfold eqAtJ
  rw [ea, eb]
  exact this
theorem eqs_len {ws us : List W} (h : ws.length ≠ us.length) : W.eqs ws us = false := by
  cases e : W.eqs ws us with
  | false => rfl
  | true => exact absurd ((W.eqs_iff ws us).mp e).1 h
end
section
variable {X : Cx}
noncomputable def rEq4 : W2 := fun x y G q => match x, y with
  | .ref a, .ref b => ∃ xs ys, G a = some (.lst xs) ∧ G b = some (.lst ys) ∧ W.flats xs = true ∧ W.flats ys = true ∧ W.deps xs ≤ 149 ∧ q (.bl (W.eqs xs ys)) G
  | x, y => rEq3 x y G q
noncomputable def rNe4 : W2 := fun x y G q => match x, y with
  | .ref a, .ref b => ∃ xs ys, G a = some (.lst xs) ∧ G b = some (.lst ys) ∧ W.flats xs = true ∧ W.flats ys = true ∧ W.deps xs ≤ 149 ∧ q (.bl (!(W.eqs xs ys))) G
  | x, y => rNe3 x y G q
theorem q_eq4 {k : Nat} (hr : Room k X.A) : QOp X (compareOp .Eq) rEq4 := by
  intro pins s σ H x y v u Q I rx ry ⟨wx, wy, G, q, r1, r2, g, h, hQ⟩
  unfold rEq4 at h
  split at h
  · obtain ⟨ws, us, ea, eb, f1, f2, hd, h⟩ := h
    cases r1
    cases r2
    cases rx
    cases ry
    obtain ⟨_, xs, e1, ra⟩ := g _ _ ea
    obtain ⟨_, ys, e2, rb⟩ := g _ _ eb
    obtain ⟨its, rv, p, _⟩ := I.list (SqL.of e1)
    obtain ⟨its2, rv2, p2, _⟩ := I.list (SqL.of e2)
    have l1 : its.length = ws.length := by rw [← rv.length, ra.length]
    have l2 : its2.length = us.length := by rw [← rv2.length, rb.length]
    have hu := hr.un
    have fin : EP X pins σ Q (.bool (W.eqs ws us)) s := ⟨.bl _, H, I, rfl, hQ _ H _ G (TLe.refl H) (.bl _) g h⟩
    by_cases hl : ws.length = us.length
    · have c1 := SeqAt.RcAt.lists p.isList p2.isList (by rw [List.size_toArray, List.size_toArray, l1, l2, hl]) (A := X.A) (by (clear hr I g hQ ea eb f1 f2 hd h e1 ra e2 rb rv p rv2 p2 l1 l2 fin hl; omega)) (eqJ I (n := 150) (by (clear hr I g hQ ea eb f1 f2 h e1 ra e2 rb rv p rv2 p2 l1 l2 hu fin hl; omega)) f1 f2 (by show X.A.units + 1 + 150 < cLine; (clear hr I g hQ ea eb f1 f2 hd h e1 ra e2 rb rv p rv2 p2 l1 l2 fin hl; omega)) ra rb rv rv2)
      have er := eqs_range ws us
      rw [← hl, Nat.min_self, beq_self_eq_true, Bool.and_true] at er
      rw [List.size_toArray, l1, er] at c1
      exact c1 X.prog X.w X.xe _ fin
    · rw [eqs_len hl] at fin
      exact SeqAt.RcAt.lists_lengths p.isList p2.isList (by rw [List.size_toArray, List.size_toArray, l1, l2]; simpa using hl) (A := X.A) (by (clear hr I g hQ ea eb f1 f2 hd h e1 ra e2 rb rv p rv2 p2 l1 l2 fin hl; omega)) X.prog X.w X.xe _ fin
  · exact q_eq hr pins s σ H x y v u Q I rx ry ⟨wx, wy, G, q, r1, r2, g, h, hQ⟩
theorem q_ne4 {k : Nat} (hr : Room k X.A) : QOp X (compareOp .NotEq) rNe4 := by
  intro pins s σ H x y v u Q I rx ry ⟨wx, wy, G, q, r1, r2, g, h, hQ⟩
  unfold rNe4 at h
  split at h
  · obtain ⟨ws, us, ea, eb, f1, f2, hd, h⟩ := h
    cases r1
    cases r2
    cases rx
    cases ry
    obtain ⟨_, xs, e1, ra⟩ := g _ _ ea
    obtain ⟨_, ys, e2, rb⟩ := g _ _ eb
    obtain ⟨its, rv, p, _⟩ := I.list (SqL.of e1)
    obtain ⟨its2, rv2, p2, _⟩ := I.list (SqL.of e2)
    have l1 : its.length = ws.length := by rw [← rv.length, ra.length]
    have l2 : its2.length = us.length := by rw [← rv2.length, rb.length]
    have hu := hr.un
    have fin : EP X pins σ Q (.bool (!(W.eqs ws us))) s := ⟨.bl _, H, I, rfl, hQ _ H _ G (TLe.refl H) (.bl _) g h⟩
    by_cases hl : ws.length = us.length
    · have c1 := SeqAt.RcNeAt.lists p.isList p2.isList (by rw [List.size_toArray, List.size_toArray, l1, l2, hl]) (A := X.A) (by (clear hr I g hQ ea eb f1 f2 hd h e1 ra e2 rb rv p rv2 p2 l1 l2 fin hl; omega)) (eqJ I (n := 150) (by (clear hr I g hQ ea eb f1 f2 h e1 ra e2 rb rv p rv2 p2 l1 l2 hu fin hl; omega)) f1 f2 (by show X.A.units + 1 + 150 < cLine; (clear hr I g hQ ea eb f1 f2 hd h e1 ra e2 rb rv p rv2 p2 l1 l2 fin hl; omega)) ra rb rv rv2)
      have er := eqs_range ws us
      rw [← hl, Nat.min_self, beq_self_eq_true, Bool.and_true] at er
      rw [List.size_toArray, l1, er] at c1
      exact c1 X.prog X.w X.xe _ fin
    · rw [eqs_len hl] at fin
      exact SeqAt.RcNeAt.lists_lengths p.isList p2.isList (by rw [List.size_toArray, List.size_toArray, l1, l2]; simpa using hl) (A := X.A) (by (clear hr I g hQ ea eb f1 f2 hd h e1 ra e2 rb rv p rv2 p2 l1 l2 fin hl; omega)) X.prog X.w X.xe _ fin
  · exact q_ne hr pins s σ H x y v u Q I rx ry ⟨wx, wy, G, q, r1, r2, g, h, hQ⟩
end
end L2
namespace L2
open PySem PySem.Spec PyProof.Rows
noncomputable def Itr3 (lo c : Int) (n : Nat) : It := ⟨fun i _ => i < n, fun i H x H' => H' = H ∧ x = .int (lo + i * c), fun i _ => n ≤ i⟩
theorem turn_range3 {P : Program} {w : World} {K : PySem.W.Frag} {tg : Expr} (it : Addr) (lo c : Int) (n : Nat) : Turn P w K tg (Itr3 lo c n) [it] it (fun i h => IsRangeIter h it (lo + (i : Nat) * c) ((n : Int) - (i : Nat)) c) where
  mem := by simp
  obj := fun i h st b hb => by
    have e : b = it := by simpa using hb
    subst e
    exact ⟨_, st, fun v z => by
      have z' : Data.fields _ = Data.cell v := z
      cases z'⟩
  keep := fun i h h' st k => k it (by simp) _ st
  item := by
    intro X hP hw hK hc i pins s σ H E I hf st hg
    subst hP hw hK
    obtain ⟨f0, f1, f2, f3, f4, f5⟩ := hf it (by simp)
    have W := Walks.range (prog := X.prog) (w := X.w) (I.ok.hd hc) it lo c n
    refine W.item i s _ _ hg st fun v h' tk hv st' kk => ?_
    obtain ⟨t, rfl⟩ := hv
    have I1 : Inv X pins σ H { s with heap := h', toks := tk } := I.turned (fun b o hb e => kk b o (by simpa using hb) e) f0 f1 f3 f4 f5
    exact ⟨_, rfl, go_of (s := { s with heap := h', toks := tk }) (n := "range_iterator") st' rfl rfl (by decide) ⟨.int (lo + i * c), H, I1, ⟨t, rfl⟩, ⟨rfl, rfl⟩, st', fun b hb => (hf b hb).1⟩⟩
  done := by
    intro X hP hw hK hc i pins s σ H E I hf st hg
    subst hP hw hK
    obtain ⟨f0, f1, f2, f3, f4, f5⟩ := hf it (by simp)
    exact wpAny_pyNext_range_end (I.ok.hd hc) st (by have : n ≤ i := hg; (clear hc I hf st hg f0 f1 f2 f3 f4 f5; omega)) fun h' eb => ⟨rfl, I.turned (t' := s.toks) (fun b o hb e => eb b o hb e) f0 f1 f3 f4 f5⟩
  self := fun _ _ _ _ _ st h => wpAny_pyIter_rangeiter st h
structure CR3 (lo hi c : Int) : Prop where
  c0 : 0 < c
  c1 : c < 1000
  l0 : -(2 ^ 40) ≤ lo
  l1 : lo < 2 ^ 40
  h0 : -(2 ^ 40) ≤ hi
  h1 : hi < 2 ^ 40
noncomputable def rsz (lo hi c : Int) : Int := Builtin.Range.rangeSize lo hi c
theorem CR3.size {lo hi c : Int} (h : CR3 lo hi c) : 0 ≤ rsz lo hi c ∧ rsz lo hi c ≤ 2 ^ 42 := by
  obtain ⟨c0, c1, l0, l1, h0, h1⟩ := h
  unfold rsz Builtin.Range.rangeSize
  rw [if_pos c0]
  split
  · have k0 : 0 ≤ (hi - lo - 1) / c := Int.ediv_nonneg (by (clear c0 c1 l0 l1 h0 h1; omega)) (by (clear l0 l1 h0 h1; omega))
    have k1 : (hi - lo - 1) / c ≤ hi - lo - 1 := Int.ediv_le_self _ (by (clear c0 c1 l0 l1 h0 h1 k0; omega))
    (clear c0 c1; omega)
  · (clear c0 c1 l0 l1 h0 h1; omega)
theorem CR3.last {lo hi c : Int} (h : CR3 lo hi c) : rsz lo hi c * c ≤ 2 ^ 52 := by
  have := h.size
  have h1 : rsz lo hi c * c ≤ 2 ^ 42 * 1000 := Int.mul_le_mul this.2 (by have := h.c1; (clear h; omega)) (by have := h.c0; (clear h; omega)) (by (clear h this; omega))
  (clear h this; omega)
section
variable {X : Cx} {tg : Expr}
theorem CR3.small {lo hi c : Int} (h : CR3 lo hi c) : Builtin.Range.small lo hi c = true := by
  have hs := h.size
  have hl := h.last
  obtain ⟨c0, c1, l0, l1, h0, h1⟩ := h
  unfold rsz at hs hl
  unfold Builtin.Range.small
  have : 0 ≤ Builtin.Range.rangeSize lo hi c * c := Int.mul_nonneg hs.1 (by (clear hs hl l0 l1 h0 h1; omega))
  simp only [Builtin.Range.rangeFitsLong, Bool.and_eq_true, Bool.or_eq_true, decide_eq_true_eq, beq_iff_eq, show c > 0 from c0, if_true]
  (clear hl this; omega)
noncomputable def upS (lo c : Int) (n : Nat) : List W := (List.range n).map fun (i : Nat) => W.int (lo + (i : Int) * c)
theorem itn_rng3 {K : PySem.W.Frag} {lo c : Int} {n : Nat} {H : Hp} : Itn K (Itr3 lo c n) (upS lo c n) (fun _ => True) H where
  stop := fun i H1 G t g _ hl => by have h : n ≤ i := by simpa [upS] using hl
                                    exact h
  go := fun i w H1 G t g _ e => by
    unfold upS at e
    rw [List.getElem?_map] at e
    have hi : i < n := by
      cases h : (List.range n)[i]? with
      | none => rw [h] at e; cases e
      | some k =>
        have := (List.getElem?_eq_some_iff.mp h).1
        simpa using this
    rw [List.getElem?_range hi] at e
    cases e
    refine ⟨hi, fun x H' ⟨eH, hy⟩ => ?_⟩
    subst eH
    subst hy
    exact ⟨TLe.refl _, .int _, g⟩
noncomputable def jRng3 (ta : WA) : WI := fun τ G r => ta τ G fun ws G1 => match ws with
  | [.int lo, .int hi, .int c] => CR3 lo hi c ∧ r (upS lo c (rsz lo hi c).toNat) (fun _ => True) G1
  | _ => False
noncomputable def upL (lo : Int) (n : Nat) : List W := (List.range n).map fun (i : Nat) => W.int (lo + (i : Int))
noncomputable def jRng2 (ta : WA) : WI := fun τ G r => ta τ G fun ws G1 => match ws with
  | [.int i, .int j] => (-(2 ^ 62) ≤ i ∧ i < 2 ^ 62 ∧ -(2 ^ 62) ≤ j ∧ j < 2 ^ 62) ∧ r (upL i (j - i).toNat) (fun _ => True) G1
  | _ => False
end
section
variable {X : Cx}
noncomputable def cMin : List W → Gp → WK → Prop := fun ws G q => match ws with
  | [.int i, .int j] => q (.int (if j < i then j else i)) G
  | _ => False
theorem q_min (hc : X.calm = true) : QCall X (.builtin "min") cMin := by
  intro pins s σ H xs us Q I r ⟨ws, G, q, rw', g, h, hQ⟩
  unfold cMin at h
  split at h
  · obtain ⟨v, u, rfl, r1, r2⟩ := rw'.two
    cases r1
    cases r2
    exact call_min2 hc pins s σ H _ us Q I r ⟨_, _, rfl, hQ _ H _ G (TLe.refl H) (.int _) g h⟩
  · exact h.elim
theorem b_min : bootBuiltins "min" = some (.builtin "min") := by decide +kernel
noncomputable def BigM (i j : Int) : Prop := i.natAbs < 2 ^ 4000 ∧ j.natAbs < 2 ^ 4000
noncomputable def BigD (j : Int) : Prop := 0 < j ∧ j.natAbs < 2 ^ 4000
theorem le_big {n : Nat} (h : n ≤ 10 ^ 200) : n < 2 ^ 4000 := Nat.lt_of_le_of_lt h (by decide +kernel)
theorem bigM {i j : Int} (h1 : i.natAbs ≤ 10 ^ 200) (h2 : j.natAbs ≤ 10 ^ 200) : BigM i j := ⟨le_big h1, le_big h2⟩
noncomputable def CMulB (i j : Int) : Prop := CMul i j ∨ BigM i j
theorem CMulB.ok {i j : Int} (h : CMulB i j) : IntMulOk i j := by
  rcases h with h | ⟨h1, h2⟩
  · exact h.ok
  · have b1 := PyProof.Rows.intBits_le h1
    have b2 := PyProof.Rows.intBits_le h2
    unfold IntMulOk Builtin.Int.intTooBig
    have : ¬ (((Builtin.Int.intBits i + Builtin.Int.intBits j : Int)) > bitsLine) := by
      have hb : (8000 : Int) ≤ bitsLine := by decide
      (clear h1 h2; omega)
    simp [this]
noncomputable def CDivB (i j : Int) : Prop := CDiv i j ∨ BigD j
theorem op_fdivB : OpR X (binaryOp .FloorDiv) (rI CDivB fun i j => .int (i / j)) := opI fun i j _ _ _ _ _ hc q => by
  rcases hc with hc | ⟨h0, h1⟩
  · have h1 : (0 : Int) < j := hc.1
    have h2 : j < 1073741824 := hc.2
    exact floordiv_int (by (clear q hc; omega)) (by rw [Int.fdiv_eq_ediv_of_nonneg i (by (clear q hc; omega))]; exact q) (.inl (PyProof.noPylong_small (by (clear q hc; omega))))
  · refine floordiv_int (by (clear q h1; omega)) (by rw [Int.fdiv_eq_ediv_of_nonneg i (by (clear q h1; omega))]; exact q) (.inl (PyProof.noPylong_of_log2 ?_))
    have hne : j.natAbs ≠ 0 := by (clear q h1; omega)
    exact Nat.lt_of_lt_of_le ((Nat.log2_lt hne).mpr h1) (by decide)
noncomputable abbrev vDivB : W2 := vInt CDivB fun i j => .int (i / j)
theorem q_divB : QOp X (binaryOp .FloorDiv) vDivB := q_rint op_fdivB
end
end L2
namespace L2
open PySem PySem.Spec PyProof.Rows
section
variable {X : Cx}
noncomputable def wPar (i j : Nat) (ta : WA) : WS := fun d τ G => ta τ G fun ws G1 => match ws with
  | [v, w] => d.nx ((τ.set i (some v)).set j (some w)) G1
  | _ => False
end
end L2
namespace L2
open PySem PySem.Spec PyProof.Rows
structure FunD (K : PySem.W.Frag) (x qual : Str) (st : Stmt) (f : Addr) (fd : FuncData) (T : Addr) (ds : List Value) : Prop where
  ex : ∃ (oc : Value) (od : Option Addr) (kV doc pm : Value) (an : Option Addr) (cdv ct : Value) (osl : Array (Option Value)) (ot : Obj) (nt : Nat),
    fd = PySem.W.fnOf x qual (defArgs st) (defBody st) (defScope st) (.ref T) kV doc pm an cdv ct ∧ K.lookup f = some ⟨oc, od, .func fd, osl⟩ ∧ PySem.W.codeIn K cdv qual = true ∧ K.lookup T = some ot ∧ ot.data = .seq ds.toArray nt
  kp : PySem.W.keepIn K (.ref f) = true
section
variable {P : Program} {w : World} {K : PySem.W.Frag} {mg : Str → Option Value} {base : Heap} {x qual : Str} {st : Stmt} {f T : Addr} {fd : FuncData} {ds : List Value}
theorem fun_mkD {oc : Value} {od an : Option Addr} {osl : Array (Option Value)} {kV doc pm cdv ct : Value} {ot : Obj} {nt : Nat} (l : K.lookup f = some ⟨oc, od, .func (PySem.W.fnOf x qual (defArgs st) (defBody st) (defScope st) (.ref T) kV doc pm an cdv ct), osl⟩)
    (c : PySem.W.codeIn K cdv qual = true) (k : PySem.W.keepIn K (.ref f) = true) (t : K.lookup T = some ot) (h : ot.data = .seq ds.toArray nt) : FunD K x qual st f (PySem.W.fnOf x qual (defArgs st) (defBody st) (defScope st) (.ref T) kV doc pm an cdv ct) T ds :=
  ⟨⟨oc, od, kV, doc, pm, an, cdv, ct, osl, ot, nt, rfl, l, c, t, h⟩, k⟩
theorem FunD.binds {ps : List Str} {es : List Value} (F : FunD K x qual st f fd T ds)
    (h : ∀ (kV doc pm : Value) (an : Option Addr) (cdv ct : Value) (us : List Value), (us ++ es).length = ps.length → ∃ k, bindArgs (PySem.W.fnOf x qual (defArgs st) (defBody st) (defScope st) (.ref T) kV doc pm an cdv ct) ⟨us, []⟩ = seqItems? (.ref T) >>= k ∧ k (some ds.toArray) = pure (ps.zip (us ++ es))) : Binds K fd ps es := by
  obtain ⟨oc, od, kV, doc, pm, an, cdv, ct, osl, ot, nt, rfl, lk, hcd, ht, hd⟩ := F.ex
  intro s us KX hl
  obtain ⟨k, h1, h2⟩ := h kV doc pm an cdv ct us hl
  exact BindsTo.of_defaults (T := T) rfl (KX _ _ ht) hd h1 h2
theorem fn3D {N ps : List Str} {k : Nat} {sp : WSp} (F : FunD K x qual st f fd T ds) (S : FnScope N ps (defScope st)) (len : ∀ ws G q e, sp ws G q e → ws.length = ps.length)
    (hbody : ∀ (cdv : Value) (A : Around) (outer : List Env) (s : Shared) (H : Hp) (E : XK), Room k (A.deeper (envOfC qual (defScope st) s.heap.objs.size f cdv)) →
      ∃ t, QSs (cxOf CX0 P w K mg base N qual (defScope st) f cdv A outer s H E).nox (defBody st) t ∧
        ∀ (ws : List W) (G : Gp) (q : WK) (e : WX), sp ws G q e → t { nx := fun _ G1 => ∃ G0, GLe G0 G1 ∧ q .non G0, rt := fun w G1 => ∃ G0, GLe G0 G1 ∧ q w G0 } (wStart N ws) G) : WFn P w K mg base (k + 1) f fd ps sp := by
  obtain ⟨oc, od, kV, doc, pm, an, cdv, ct, osl, ot, nt, rfl, lk, hcd, ht, hd⟩ := F.ex
  refine fn_of lk hcd S (fun vs H Q E ⟨ws, G, q, e, r, g, z, _⟩ => by rw [← r.length]; exact len _ _ _ _ z) (fun A outer s H vs Q E hr ⟨ws, G, q, e, r, g, z, hQ, _⟩ => ?_)
  obtain ⟨t, ht, hq⟩ := hbody cdv A outer s H E hr
  have ht' : PSs (cxOf CX0 P w K mg base N qual (defScope st) f cdv A outer s H E).nox (defBody st) (LS K t) := ht
  exact ⟨_, ht'.nox, _, G, _, RelSt.start r, g, hq ws G q e z, ⟨fun σ1 H1 τ1 G1 t1 s1 g1 ⟨G0, l, q1⟩ => hQ .non H1 .non G0 t1 .non (g1.le l) q1, fun v H1 w G1 t1 r1 g1 ⟨G0, l, q1⟩ => hQ v H1 w G0 t1 r1 (g1.le l) q1, fun _ _ _ _ _ _ _ z => z.elim, fun _ _ _ _ _ _ _ z => z.elim⟩⟩
noncomputable def Fxd (P : Program) (w : World) (K : PySem.W.Frag) (mg : Str → Option Value) (base : Heap) (x : Str) (ps : List Str) (k : Nat) (sp : WSp) (dws : List W) : Prop :=
  ∃ (f : Addr) (fd : FuncData) (ds : List Value) (dvs : List V), WFn P w K mg base k f fd ps sp ∧ mg x = some (.ref f) ∧ PySem.W.keepIn K (.ref f) = true ∧ Binds K fd ps ds ∧ Vals dvs ds ∧ ∀ H, Reps K H dws dvs
noncomputable def DfD (K : PySem.W.Frag) (mg : Str → Option Value) (x : Str) (st : Stmt) (ps : List Str) (dws : List W) : Prop :=
  ∃ (f : Addr) (fd : FuncData) (T : Addr) (ds : List Value) (dvs : List V), FunD K x x st f fd T ds ∧ Binds K fd ps [] ∧ Binds K fd ps ds ∧ mg x = some (.ref f) ∧ Vals dvs ds ∧ ∀ H, Reps K H dws dvs
theorem DfD.fxd {ps : List Str} {k : Nat} {sp : WSp} {dws : List W} (D : DfD K mg x st ps dws) (h : ∀ (f : Addr) (fd : FuncData) (T : Addr) (ds : List Value), FunD K x x st f fd T ds → WFn P w K mg base k f fd ps sp) : Fxd P w K mg base x ps k sp dws := by
  obtain ⟨f, fd, T, ds, dvs, F, b, b', m, v, r⟩ := D
  exact ⟨f, fd, ds, dvs, h f fd T ds F, m, F.kp, b', v, r⟩
end
section
variable {X : Cx}
theorem qe_fxn {x : Str} {ps : List Str} {k : Nat} {sp : WSp} {p pos : Pos} {e : Expr} {es : List Expr} {t : WA} (F : Fx X.prog X.w X.K X.mg X.base x ps k sp) (hr : Room k X.A) (hg : Gl X x) (ha : QA X (e :: es) t) (_hn : (e :: es).length = ps.length := by rfl) (hdb : (x == ("__debug__" : Str)) = false := by decide)
    (he : starEach (e :: es) X.env = (false, eval e X.env) :: starEach es X.env := by rfl) (hpl : (backTo pos (starEach es X.env)).any (·.1) = false := by rfl) : QE X (.Call (.Name x p) (e :: es) [] pos) (wCall sp [] t) := qe_fx F hr hg ha hdb he hpl
theorem qe_fxd {x : Str} {ps : List Str} {k : Nat} {sp : WSp} {dws : List W} {p pos : Pos} {e : Expr} {es : List Expr} {t : WA} (F : Fxd X.prog X.w X.K X.mg X.base x ps k sp dws) (hr : Room k X.A) (hg : Gl X x) (ha : QA X (e :: es) t) (_hn : (e :: es).length + dws.length = ps.length := by rfl) (hdb : (x == ("__debug__" : Str)) = false := by decide)
    (he : starEach (e :: es) X.env = (false, eval e X.env) :: starEach es X.env := by rfl) (hpl : (backTo pos (starEach es X.env)).any (·.1) = false := by rfl) : QE X (.Call (.Name x p) (e :: es) [] pos) (wCall sp dws t) := by
  obtain ⟨f, fd, ds, dvs, h1, h2, h3, h4, h5, h6⟩ := F
  exact (pe_call h1 hr hg h2 h3 h4 h5 pass0 ha hdb he hpl).imp fun _ _ _ h => h.call h6
noncomputable def wNever : WS := fun _ _ _ => False
end
end L2
namespace L2
open PySem PySem.Spec PyProof.Rows
variable {X : Cx}
noncomputable def cMax4 : List W → Gp → WK → Prop := fun ws G q => match ws with
  | [.int i, .int j] => q (.int (if j > i then j else i)) G
  | [.int i, .int j, .int k] => q (.int (if j > i then (if k > j then k else j) else if k > i then k else i)) G
  | [.ref a] => ∃ ns : List Int, G a = some (.lst (ns.map W.int)) ∧ ns ≠ [] ∧ ∀ m : Int, m ∈ ns → (∀ x, x ∈ ns → x ≤ m) → q (.int m) G
  | _ => False
theorem qe_gint {x : Str} {i : Int} {t : Tok} {pos : Pos} (hg : Gl X x) (hm : X.mg x = some (.int i t)) (hd : (x == ("__debug__" : Str)) = false := by decide) : QE X (.Name x pos) (wC (.int i)) := qe_const (pe_glob (v := .int i) hg hm ⟨t, rfl⟩ hd) fun _ => .int i
end L2
namespace L2
open PySem PySem.Spec PyProof.Rows
theorem XC.of {K : PySem.W.Frag} {C : Addr} (q : PySem.W.excIn K C bmV "ValueError.__new__" = true) : ∃ bm, XC K C bm := by
  unfold PySem.W.excIn at q
  cases lk : List.lookup C K with
  | none => rw [lk] at q; exact noFT q
  | some o =>
    rw [lk] at q
    obtain ⟨cls, d1, data, ⟨ls⟩⟩ := o
    cases cls with
    | type s =>
      by_cases hs : s = "type"
      · subst hs
        cases data with
        | cls cl =>
          obtain ⟨nm, bs, mro, ns, qn, hd, sn, sb, ab, co, del⟩ := cl
          rcases mro with _ | ⟨v, tl⟩
          · exact noFT q
          cases v with
          | ref C2 =>
            rcases ls with _ | ⟨j0, _ | ⟨j1, _ | ⟨j2, _ | ⟨j3, _ | ⟨(_ | j4), r⟩⟩⟩⟩⟩
            any_goals first | exact noFT q | skip
            cases j4 with
            | builtin id =>
              rcases r with _ | ⟨j5, _ | _⟩
              any_goals first | exact noFT q | skip
              replace q : (C2 == C && id == "ValueError.__new__" && !del && W.tailIn K bmV tl && W.nsOkIn K ns && W.nsIn K ns (Str.ofString "__init__") == some none) = true := q
              simp only [beq_iff_eq, Bool.not_eq_true', Bool.and_eq_true] at q
              obtain ⟨⟨⟨⟨⟨e1, e2⟩, e3⟩, e4⟩, e5⟩, e6⟩ := q
              subst e1 e2
              subst e3
              refine ⟨tl, fun h X => ⟨ns, nm, qn, bs, hd, sn, sb, ab, co, d1, j0, j1, j2, j3, j5, _, X _ _ lk, .of_isNs (PySem.W.isNs_of_in X e5), PySem.W.nsMap_none_of_in X e5 e6, PySem.W.tail_of_in X e4⟩, fun v => ?_⟩
              unfold PySem.W.mroIn PySem.W.clsIn
              rw [lk]
              rfl
            | _ => exact noFT q
          | _ => exact noFT q
        | _ => exact noFT q
      · delta PySem.W.excIn.match_6 at q
        change (dite (s = "type") _ _ : Bool) = true at q
        rw [dif_neg hs] at q
        exact noFT q
    | _ => exact noFT q
theorem XC.has {K : PySem.W.Frag} {C : Addr} {bm : List Value} (x : XC K C bm) {h : Heap} (X : K.In h) {t : String} {b : Bool} (hb : bmV.contains (.type t) = b) : (Value.ref C :: bm).contains (.type t) = b := by
  obtain ⟨_, _, _, _, _, _, _, _, _, _, _, _, _, _, _, _, _, _, _, T⟩ := x.obj h X
  rw [List.contains_cons, T.hasType hb]
  rfl
section
variable {M : Model} {A : Around} {E : Value → Shared → Prop} {K : PySem.W.Frag} {C D a : Addr} {bm bmD : List Value} {oe : Obj}
theorem exc_match {s : Shared} {Q : Bool → Shared → Prop} {b : Bool} (X : K.In s.heap) (hC : XC K C bm) (hD : XC K D bmD) (he : s.heap.get? a = some oe) (hcls : oe.cls = .ref C) (hs : PySem.W.mroIn K C (.ref D) = some b) (hq : Q b s) :
    wpAny M A (excMatches (.ref a) (.ref D)) Q E s := by
  obtain ⟨h, g, d, t, os⟩ := s
  have hb := hD.has X (t := "BaseException") (b := true) rfl
  have hcd : (Value.ref C :: bm).contains (.ref D) = b := by
    have := (hC.mro (.ref D)).symm.trans hs
    exact Option.some.inj this
  obtain ⟨N1, n1, q1, b1, d1, s1, u1, a1, c1, f1, g0, g1, g2, g3, g5, m1, gC, _, _, _⟩ := hC.obj h X
  obtain ⟨N2, n2, q2, b2, d2, s2, u2, a2, c2, f2, l0, l1, l2, l3, l5, m2, gD, _, _, _⟩ := hD.obj h X
  have nt := tc_notTuple
  unfold excMatches
  repeat (first | (with_reducible refine wpAny_loadPart_at he ?_; rw [hcls]) | with_reducible refine wpAny_loadPart_at gD ?_ | (with_reducible refine wpAny_isSubtype_exc gD ?_; rw [hb]) | (with_reducible refine wpAny_isSubtype_exc gC ?_; rw [hcd]) | wp_step)
  cases b with
  | true => wp_walk; exact hq
  | false => wp_walk; exact hq
theorem isi_type {prog : Program} {w : World} {s : Shared} {Q : Value → Shared → Prop} {v t : Value} {T : String} (X : K.In s.heap) (ht : ∀ M, PySem.W.Looks M s.heap (typeOf v) t) (hk : PySem.W.kitMeta T = true) (hne : (t == Value.type T) = false)
    (e : PySem.W.subIn K t (.type T) = some true) (hx : v ≠ .builtin "__main__.__loader__#opaque") (h : Q (.bool true) s) : wpAny (model prog w) A (call (.builtin "isinstance") [v, .type T]) Q E s := by
  refine call_isinstance (S := fun _ R s => (K.In s.heap ∧ ∀ M, PySem.W.Looks M s.heap (typeOf v) t) ∧ R (.ok (.ret (.bool true))) s) (fun _ _ _ _ s hs => isinstance_outer ?_ hx) ⟨⟨X, ht⟩, h⟩
  obtain ⟨⟨X, ht⟩, hq⟩ := hs
  obtain ⟨hh, g, d, tt, os⟩ := s
  unfold Builtin.«isinstance.nested»
  refine wpAny_bind ((ht _).at ?_)
  rw [if_neg (by rw [hne]; exact Bool.false_ne_true)]
  refine wpAny_bind ((PySem.W.Looks.of_pure (PySem.W.kitMeta_of hk)).at ?_)
  rw [if_pos (by decide)]
  k_delta "plainIsInstance"
  refine wpAny_bind (wpAny_bind ((PySem.W.Looks.of_pure (r := true) rfl).at ?_))
  simp only [Bool.not_true, if_false, Bool.false_eq_true]
  have li : ∀ M, PySem.W.Looks M hh (isInstance v (.type T)) true := fun M => (ht M).andThen (PySem.W.looks_subIn X e)
  refine wpAny_bind ((li _).at ?_)
  simp only [if_true]
  exact wpAny_pure (wpAny_pure hq)
end
theorem HOk.none_of {P : Program} {w : World} {H : Hp} {h : Heap} {a : Addr} (x : HOk P w H h) (e : h.get? a = none) : H a = none := by
  cases q : H a with
  | none => rfl
  | some o =>
    have y := x a o q
    cases o with
    | lst xs => obtain ⟨_, _, _, _, z⟩ := y; rw [e] at z; cases z
    | tup xs => obtain ⟨_, _, _, p, z, _⟩ := y; rw [e] at z; cases z
    | dK kvs => obtain ⟨_, _, _, _, o, _, _, z, _⟩ := y; rw [e] at z; cases z
    | dT kvs => obtain ⟨_, _, _, _, o, _, _, z, _⟩ := y; rw [e] at z; cases z
    | set S n => obtain ⟨o, _, _, _, z, _⟩ := y; rw [e] at z; cases z
    | ins C dx fs => obtain ⟨_, _, _, z, _⟩ := y; rw [e] at z; cases z
    | own y2 => obtain ⟨_, z⟩ := y; rw [e] at z; cases z
    | xd fs => obtain ⟨_, ⟨_, _, _, z, _⟩, _⟩ := y; rw [e] at z; cases z
    | rng lo hi => obtain ⟨_, _, _, z⟩ := y; rw [e] at z; cases z
    | frz ob u => obtain ⟨z, _⟩ := y; rw [e] at z; cases z
    | tbl ps => have z : h.get? a = some _ := y; rw [e] at z; cases z
    | met f y2 => have z : h.get? a = some _ := y; rw [e] at z; cases z
    | ext φ => obtain ⟨_, ⟨_, z⟩, _⟩ := y; rw [e] at z; cases z
theorem funs_hid {h B : Heap} {m : List Addr} : ∀ {l : List Env}, h.FunFrames B l → (∀ b ∈ frs l, b ∈ m) → h.FunFrames (PySem.W.hideAll h m) l
  | [], _, _ => trivial
  | env :: r, ⟨e0, ⟨L, o, e1, _, e3, e4⟩, e5⟩, hm =>
    have hl : frs (env :: r) = L :: frs r := by unfold frs; rw [List.filterMap_cons, e1]
    ⟨e0, ⟨L, o, e1, PySem.W.hideAll_none m (hm L (by rw [hl]; exact .head _)), e3, e4⟩, funs_hid e5 fun b hb => hm b (by rw [hl]; exact .tail _ hb)⟩
structure Fl (P : Program) (w : World) (fs : List Addr) (H H' : Hp) (h0 h : Heap) (a T : Addr) (c fl : Value) : Prop where
  un : Un fs [] H H' h0 h
  hok : HOk P w H' h
  na : h0.get? a = none
  nT : h0.get? T = none
  ha : H' a = none
  hT : H' T = none
  tr : ∃ oe vs oT ts a0, h.get? a = some oe ∧ (oe.cls = c ∧ vs[0]? = some a0) ∧ oe.data = .fields vs ∧ vs[1]? = some (.ref T) ∧ T ≠ a ∧ h.get? T = some oT ∧ oT.data = .fields ts ∧ ts[3]? = some fl
section
variable {P : Program} {w : World} {fs : List Addr} {H H' : Hp} {h0 h h' : Heap} {a T : Addr} {c fl fl' : Value}
theorem Fl.traced (F : Fl P w fs H H' h0 h a T c fl) : ∃ a0, h.TracedAtW (PySem.W.hideAll h (a :: T :: fs)) a c a0 fl := by
  obtain ⟨oe, vs, oT, ts, a0, e1, e2, e3, e4, e5, e6, e7, e8⟩ := F.tr
  exact ⟨a0, oe, vs, T, oT, ts, e1, e2, e3, e4, PySem.W.hideAll_none _ (.tail _ (.head _)), e5, e6, e7, e8⟩
theorem Fl.move {a0 : Value} (F : Fl P w fs H H' h0 h a T c fl) (hfs : ∀ b ∈ fs, H' b = none ∧ ∃ o, h.get? b = some o ∧ ∀ vs, o.data ≠ .fields vs)
    (k1 : (PySem.W.hideAll h (a :: T :: fs)).StaysIn h') (k3 : h'.TracedAtW (PySem.W.hideAll h (a :: T :: fs)) a c a0 fl') (k4 : h.UpToSlots h') : ∃ T', Fl P w fs H H' h0 h' a T' c fl' := by
  have keep : ∀ b o, b ≠ a → b ≠ T → b ∉ fs → h.get? b = some o → h'.get? b = some o := fun b o n1 n2 n3 e => k1 b o (PySem.W.hideAll_get _ e (by simp [n1, n2, n3]))
  have slot : ∀ b o, b ∈ fs → h.get? b = some o → ∃ sl, h'.get? b = some { o with slots := sl } := fun b o hb e => by
    obtain ⟨_, o2, e2, d2⟩ := hfs b hb
    rw [e] at e2; cases e2
    exact k4 b o e d2
  obtain ⟨oe, vs, T', oT, ts, q1, q2, q3, q4, q5, q6, q7, q8, q9⟩ := k3
  have hT' : T' = T ∨ h.get? T' = none := by
    by_cases z : T' = T
    · exact .inl z
    · refine .inr ?_
      cases e : h.get? T' with
      | none => rfl
      | some o =>
        by_cases zf : T' ∈ fs
        · obtain ⟨_, o2, e2, d2⟩ := hfs T' zf
          obtain ⟨sl, e3⟩ := k4 T' o2 e2 d2
          rw [q7] at e3; cases e3
          exact absurd q8 (d2 ts)
        · rw [PySem.W.hideAll_get _ e (by simp [z, zf, q6])] at q5; cases q5
  have back : ∀ b, h.get? b = none → h0.get? b = none := fun b e => by
    cases q : h0.get? b with
    | none => rfl
    | some o =>
      obtain ⟨o', e'⟩ := F.un.there b o q (by simp)
      rw [e] at e'; cases e'
  refine ⟨T', ⟨⟨fun b o q n hb hx => ?_, fun b o q n hb hx => ?_, F.un.free, fun b o q hx => ?_, F.un.tups, F.un.frzs, F.un.tbls⟩, fun b u e => ?_, F.na, ?_, F.ha, ?_, ⟨oe, vs, oT, ts, a0, q1, q2, q3, q4, q6, q7, q8, q9⟩⟩⟩
  · exact keep b o (fun z => by rw [z, F.na] at q; cases q) (fun z => by rw [z, F.nT] at q; cases q) hb (F.un.keep b o q n hb hx)
  · obtain ⟨sl, e1⟩ := F.un.slot b o q n hb hx
    obtain ⟨sl2, e2⟩ := slot b _ hb e1
    exact ⟨sl2, e2⟩
  · obtain ⟨o1, e1⟩ := F.un.there b o q hx
    by_cases hb : b ∈ fs
    · obtain ⟨sl, e2⟩ := slot b o1 hb e1
      exact ⟨_, e2⟩
    · exact ⟨o1, keep b o1 (fun z => by rw [z, F.na] at q; cases q) (fun z => by rw [z, F.nT] at q; cases q) hb e1⟩
  · have nn : ∀ x v, H' x = some v → x ≠ a ∧ x ≠ T ∧ x ∉ fs := fun x v e => ⟨fun z => (by rw [z, F.ha] at e; cases e), fun z => (by rw [z, F.hT] at e; cases e), fun z => (by rw [(hfs x z).1] at e; cases e)⟩
    refine (F.hok b u e).stay (fun x v hc q => ?_) (fun _ q => q) fun _ _ q => q
    rcases hc with hc | hc
    · obtain ⟨z1, z2, z3⟩ := nn b u e
      rw [hc] at q ⊢
      exact keep b v z1 z2 z3 q
    · obtain ⟨z1, z2, z3⟩ := nn x _ hc
      exact keep x v z1 z2 z3 q
  · rcases hT' with z | z
    · rw [z]; exact F.nT
    · exact back T' z
  · rcases hT' with z | z
    · rw [z]; exact F.hT
    · exact F.hok.none_of z
end
noncomputable def CX1 (P : Program) (w : World) : CXT := fun outer H s E e s' => ∃ a T C H', e = .ref a ∧ s'.os = s.os ∧ AllBare s'.gens ∧ Fl P w (frs outer) H H' s.heap s'.heap a T (.ref C) .none ∧ E (.ref C) none H'
noncomputable abbrev RFn (P : Program) (w : World) (K : PySem.W.Frag) (mg : Str → Option Value) (base : Heap) (k : Nat) (f : Addr) (fd : FuncData) (ps : List Str) (sp : WSp) : Prop := FnOk P w K mg base (CX1 P w) k f fd ps (LSp K sp)
section
variable {P : Program} {w : World} {K : PySem.W.Frag} {mg : Str → Option Value} {base : Heap} {N : List Str} {qual : Str} {scope : Scope} {f : Addr} {cdv : Value} {A : Around} {outer : List Env} {s : Shared} {H : Hp} {E : XK}
theorem leaves {pins : List (Addr × Obj)} {σ : St} {H2 : Hp} {s2 : Shared} {h' : Heap} {e C : Addr} {vs : List Value} (I : Inv (cxOf (CX1 P w) P w K mg base N qual scope f cdv A outer s H E) pins σ H2 s2)
    (mx : Heap.MadeExcOf s2.heap h' e (.ref C) vs) (hE : E (.ref C) none H2) : (cxOf (CX1 P w) P w K mg base N qual scope f cdv A outer s H E).xe (.ref e) { s2 with heap := h' } := by
  have ST := I.stack
  have SF := I.stkFree
  refine wpAny_leaves_madeW (base := PySem.W.hideAll s2.heap (frs (envOfC qual scope s.heap.objs.size f cdv :: outer))) (h := s2.heap) (L := s.heap.objs.size) I.ok.frames rfl (fun b o q => PySem.W.of_hideAll _ q) (funs_hid ST fun _ z => z) mx fun h3 t fly _ _ ups => ?_
  obtain ⟨k1, _, _, k3⟩ := fly
  obtain ⟨oe, ws, T, oT, ts, q1, q2, q3, q4, q5, q6, q7, q8, q9⟩ := k3
  have keep : ∀ b o, b ∉ frs (envOfC qual scope s.heap.objs.size f cdv :: outer) → s2.heap.get? b = some o → h3.get? b = some o := fun b o hb q => k1 b o (PySem.W.hideAll_get _ q hb)
  have slot : ∀ b o, b ∈ frs (envOfC qual scope s.heap.objs.size f cdv :: outer) → s2.heap.get? b = some o → (∃ sl, h3.get? b = some { o with slots := sl }) ∧ ∀ vs, o.data ≠ .fields vs := fun b o hb q => by
    obtain ⟨_, o2, e2, d2⟩ := ST.mem hb
    rw [q] at e2; cases e2
    exact ⟨ups b o (mx.keeps b o q) d2, d2⟩
  have nL : ∀ b o, s.heap.get? b = some o → b ∉ frs outer → b ∉ frs (envOfC qual scope s.heap.objs.size f cdv :: outer) := fun b o q hb z => by
    rcases List.mem_cons.mp (show b ∈ s.heap.objs.size :: frs outer from z) with z | z
    · exact absurd (Heap.lt_size q) (by rw [z]; exact Nat.lt_irrefl _)
    · exact hb z
  have back : ∀ b, s2.heap.get? b = none → s.heap.get? b = none := fun b q => by
    cases z : s.heap.get? b with
    | none => rfl
    | some o =>
      obtain ⟨o', e'⟩ := I.base.there b o z (by intro y; cases y)
      rw [q] at e'; cases e'
  have nT : s2.heap.get? T = none := by
    cases z : s2.heap.get? T with
    | none => rfl
    | some o =>
      by_cases zf : T ∈ frs (envOfC qual scope s.heap.objs.size f cdv :: outer)
      · obtain ⟨⟨sl, e3⟩, d2⟩ := slot T o zf z
        rw [q7] at e3; cases e3
        exact absurd q8 (d2 ts)
      · rw [PySem.W.hideAll_get _ z zf] at q5; cases q5
  refine ⟨e, T, C, H2, rfl, I.os, I.bare, ⟨⟨fun b o q n hb hx => ?_, fun b o q n hb hx => ?_, fun b o q n hx => I.base.free b o q n (by intro y; cases y), fun b o q hx => ?_, I.base.tups, I.base.frzs, I.base.tbls⟩, fun b u q => ?_, back e mx.new, back T nT, I.hok.none_of mx.new, I.hok.none_of nT,
    ⟨oe, ws, oT, ts, _, q1, q2, q3, q4, q6, q7, q8, q9⟩⟩, hE⟩
  · exact keep b o (nL b o q hb) (I.base.keep b o q n hb (by intro y; cases y))
  · obtain ⟨sl, e1⟩ := I.base.slot b o q n hb (by intro y; cases y)
    obtain ⟨⟨sl2, e2⟩, _⟩ := slot b _ (List.mem_cons_of_mem _ hb) e1
    exact ⟨sl2, e2⟩
  · obtain ⟨o1, e1⟩ := I.base.there b o q (by intro y; cases y)
    by_cases hb : b ∈ frs (envOfC qual scope s.heap.objs.size f cdv :: outer)
    · obtain ⟨⟨sl, e2⟩, _⟩ := slot b o1 hb e1
      exact ⟨_, e2⟩
    · exact ⟨o1, keep b o1 hb e1⟩
  · have nn : ∀ x v, H2 x = some v → x ∉ frs (envOfC qual scope s.heap.objs.size f cdv :: outer) := fun x v q z => by rw [SF x z] at q; cases q
    refine (I.hok b u q).stay (fun x v hc q2 => ?_) (fun _ q => q) fun _ _ q => q
    rcases hc with hc | hc
    · rw [hc] at q2 ⊢
      exact keep b v (nn b u q) q2
    · exact keep x v (nn x _ hc) q2
noncomputable def wRaise (C : Addr) (e : WX) : WS := fun _ _ G => e (.ref C) G
theorem qs_raise {x msg : Str} {C : Addr} {bm : List Value} {e : WX} {np cpos pos p1 : Pos} {j} (hm : mg x = some (.ref C)) (hC : XC K C bm) (hE : ∀ H1 G1, TLe H H1 → RelG K H1 G1 → e (.ref C) G1 → E (.ref C) none H1)
    (hg : Gl (cxOf (CX1 P w) P w K mg base N qual scope f cdv A outer s H E) x) (hd : (x == ("__debug__" : Str)) = false := by decide) :
    QS (cxOf (CX1 P w) P w K mg base N qual scope f cdv A outer s H E) (.Raise (some (.Call (.Name x np) [.Constant (.str msg) j p1] [] cpos)) none pos) (wRaise C e) := by
  intro pins s2 σ H2 D I ⟨τ, G, d, hs, hgG, ht, l⟩
  obtain ⟨N1, n1, q1, b1, d1, s1, u1, a1, c1, f1, g0, g1, g2, g3, g5, m1, gC, gN, gi, gT⟩ := hC.obj _ I.ok.mod.kin
  refine wpAny_Raise_call_subT (C := C) (nm := n1) (q := q1) (N := N1) (bs := b1) (bm := bm) (hdct := d1) (sn := s1) (sub := u1) (ab := a1) (col := c1) (dd := f1) (k0 := g0) (k1 := g1) (k2 := g2) (k3 := g3) (k5 := g5) PySem.F.excBase_ValueError (mN := m1) (gT.hasType rfl) (I.ok.hd rfl) rfl gi
    (ld_glob I hg hm ⟨rfl, ?_⟩ hd)
  have ha := (pa_cons (X := cxOf (CX1 P w) P w K mg base N qual scope f cdv A outer s H E) (pe_str (x := msg) (j := j) (pos := p1)) pa_nil) cpos pins s2 σ H2 (fun vs H' => vs.length = 1 ∧ H' = H2) I ⟨rfl, rfl⟩
  refine Calls.evalArgs_plain (wpAny_mono ha (fun us s3 h3 => ?_) fun _ _ y => y)
  obtain ⟨vs, H3, I3, rv, hl, rfl⟩ := h3
  refine ⟨rfl, ?_, I3.bk _ _ gC, gN.keeps I3.bk, gT.keeps I3.bk, fun h' a mx => leaves I3 mx (hE _ G ⟨I3.base.tups, fun b o u q => I3.base.frzs b o _ q⟩ hgG ht)⟩
  show us.length ≤ sizeLine
  rw [← rv.length, hl]
  decide
end
noncomputable def wNevers : WS := fun _ _ _ => False
theorem fn3R {P : Program} {w : World} {K : PySem.W.Frag} {mg : Str → Option Value} {base : Heap} {x qual : Str} {st : Stmt} {f : Addr} {fd : FuncData} {N ps : List Str} {k : Nat} {sp : WSp} (F : Fun K x qual st f fd) (S : FnScope N ps (defScope st)) (len : ∀ ws G q e, sp ws G q e → ws.length = ps.length)
    (hbody : ∀ (cdv : Value) (A : Around) (outer : List Env) (s : Shared) (H : Hp) (E : XK) (ws : List W) (G : Gp) (q : WK) (e : WX), Room k (A.deeper (envOfC qual (defScope st) s.heap.objs.size f cdv)) → sp ws G q e → (∀ c H1 G1, TLe H H1 → RelG K H1 G1 → e c G1 → E c none H1) →
      ∃ t, QSs (cxOf (CX1 P w) P w K mg base N qual (defScope st) f cdv A outer s H E) (defBody st) t ∧ t { nx := fun _ G1 => ∃ G0, GLe G0 G1 ∧ q .non G0, rt := fun w G1 => ∃ G0, GLe G0 G1 ∧ q w G0 } (wStart N ws) G) : RFn P w K mg base (k + 1) f fd ps sp := by
  obtain ⟨oc, od, kV, doc, pm, an, cdv, ct, osl, rfl, lk, hcd⟩ := F.ex
  refine fn_of lk hcd S (fun vs H Q E ⟨ws, G, q, e, r, g, z, _⟩ => by rw [← r.length]; exact len _ _ _ _ z) (fun A outer s H vs Q E hr ⟨ws, G, q, e, r, g, z, hQ, hX⟩ => ?_)
  obtain ⟨t, ht, hq⟩ := hbody cdv A outer s H E ws G q e hr z fun c H1 G1 t1 g1 z1 => hX c none H1 G1 t1 g1 z1
  exact ⟨_, ht, _, G, _, RelSt.start r, g, hq, ⟨fun σ1 H1 τ1 G1 t1 s1 g1 ⟨G0, l, q1⟩ => hQ .non H1 .non G0 t1 .non (g1.le l) q1, fun v H1 w G1 t1 r1 g1 ⟨G0, l, q1⟩ => hQ v H1 w G0 t1 r1 (g1.le l) q1, fun _ _ _ _ _ _ _ z => z.elim, fun _ _ _ _ _ _ _ z => z.elim⟩⟩
theorem fn3DR {P : Program} {w : World} {K : PySem.W.Frag} {mg : Str → Option Value} {base : Heap} {x qual : Str} {st : Stmt} {f T : Addr} {ds : List Value} {fd : FuncData} {N ps : List Str} {k : Nat} {sp : WSp} (F : FunD K x qual st f fd T ds) (S : FnScope N ps (defScope st)) (len : ∀ ws G q e, sp ws G q e → ws.length = ps.length)
    (hbody : ∀ (cdv : Value) (A : Around) (outer : List Env) (s : Shared) (H : Hp) (E : XK) (ws : List W) (G : Gp) (q : WK) (e : WX), Room k (A.deeper (envOfC qual (defScope st) s.heap.objs.size f cdv)) → sp ws G q e → (∀ c H1 G1, TLe H H1 → RelG K H1 G1 → e c G1 → E c none H1) →
      ∃ t, QSs (cxOf (CX1 P w) P w K mg base N qual (defScope st) f cdv A outer s H E) (defBody st) t ∧ t { nx := fun _ G1 => ∃ G0, GLe G0 G1 ∧ q .non G0, rt := fun w G1 => ∃ G0, GLe G0 G1 ∧ q w G0 } (wStart N ws) G) : RFn P w K mg base (k + 1) f fd ps sp := by
  obtain ⟨oc, od, kV, doc, pm, an, cdv, ct, osl, ot, nt, rfl, lk, hcd, ht, hd⟩ := F.ex
  refine fn_of lk hcd S (fun vs H Q E ⟨ws, G, q, e, r, g, z, _⟩ => by rw [← r.length]; exact len _ _ _ _ z) (fun A outer s H vs Q E hr ⟨ws, G, q, e, r, g, z, hQ, hX⟩ => ?_)
  obtain ⟨t, ht, hq⟩ := hbody cdv A outer s H E ws G q e hr z fun c H1 G1 t1 g1 z1 => hX c none H1 G1 t1 g1 z1
  exact ⟨_, ht, _, G, _, RelSt.start r, g, hq, ⟨fun σ1 H1 τ1 G1 t1 s1 g1 ⟨G0, l, q1⟩ => hQ .non H1 .non G0 t1 .non (g1.le l) q1, fun v H1 w G1 t1 r1 g1 ⟨G0, l, q1⟩ => hQ v H1 w G0 t1 r1 (g1.le l) q1, fun _ _ _ _ _ _ _ z => z.elim, fun _ _ _ _ _ _ _ z => z.elim⟩⟩
noncomputable def Rx (P : Program) (w : World) (K : PySem.W.Frag) (mg : Str → Option Value) (base : Heap) (x : Str) (ps : List Str) (k : Nat) (sp : WSp) (dws : List W) : Prop :=
  ∃ (f : Addr) (fd : FuncData) (ds : List Value) (dvs : List V), RFn P w K mg base k f fd ps sp ∧ mg x = some (.ref f) ∧ PySem.W.keepIn K (.ref f) = true ∧ Binds K fd ps ds ∧ Vals dvs ds ∧ ∀ H, Reps K H dws dvs
noncomputable abbrev Cx.xmk (X : Cx) (a : Addr) (oe : Obj) : Cx := { X with A := X.A.mark (some (.ref a)), calm := false, xe := fun _ _ => False, pn := (a, oe) :: X.pn }
section
variable {X : Cx} {pins : List (Addr × Obj)} {σ : St} {H : Hp} {s : Shared} {a : Addr} {oe : Obj}
theorem Inv.xmk (I : Inv X pins σ H s) (e : s.heap.get? a = some oe) (n : H a = none) (hl : a ≠ X.env.locals) (hf : a ∉ X.fs) (hd : ∀ v, oe.data ≠ .cell v) : Inv (X.xmk a oe) pins σ H s :=
  ⟨⟨I.ok.mod, I.ok.kind, I.ok.glob, I.ok.blt, I.ok.above, I.ok.inj, I.ok.has, I.ok.cab, fun z => (Bool.false_ne_true z).elim, I.ok.frames, I.ok.stk, I.ok.exf, I.ok.bs, I.ok.bsz, I.ok.noex, I.ok.exfs, I.ok.funs, I.ok.frf⟩, I.os, I.bare, I.base, I.loc, I.cell, I.free, I.freeC,
    fun p hp => by
      rcases List.mem_cons.mp (show p ∈ (a, oe) :: (X.pn ++ pins) from hp) with z | z
      · rw [z]; exact ⟨e, n, hl, hf, hd⟩
      · exact I.pin p z, I.hok, I.len⟩
theorem Inv.unx (I : Inv (X.xmk a oe) pins σ H s) (hh : X.calm = true → X.A.handled = none) : Inv X pins σ H s :=
  ⟨⟨I.ok.mod, I.ok.kind, I.ok.glob, I.ok.blt, I.ok.above, I.ok.inj, I.ok.has, I.ok.cab, hh, I.ok.frames, I.ok.stk, I.ok.exf, I.ok.bs, I.ok.bsz, I.ok.noex, I.ok.exfs, I.ok.funs, I.ok.frf⟩, I.os, I.bare, I.base, I.loc, I.cell, I.free, I.freeC,
    fun p hp => I.pin p (List.mem_cons_of_mem _ hp), I.hok, I.len⟩
theorem SP.unx {D : Ends} {f : Flow} {s' : Shared} (h : SP (X.xmk a oe) pins D f s') (hh : X.calm = true → X.A.handled = none) : SP X pins D f s' := by
  cases f with
  | next => obtain ⟨σ', H', I, q⟩ := h; exact ⟨σ', H', I.unx hh, q⟩
  | brk => obtain ⟨σ', H', I, q⟩ := h; exact ⟨σ', H', I.unx hh, q⟩
  | cont => obtain ⟨σ', H', I, q⟩ := h; exact ⟨σ', H', I.unx hh, q⟩
  | ret u => obtain ⟨v, σ', H', I, r, q⟩ := h; exact ⟨v, σ', H', I.unx hh, r, q⟩
end
noncomputable def QH (X : Cx) (C : Addr) (hs : List ExceptHandler) (th : WS) : Prop :=
  ∀ (pins : List (Addr × Obj)) (s0 : Shared) (σ : St) (H0 : Hp) (s : Shared) (H : Hp) (a T : Addr) (D : Ends), Inv X pins σ H0 s0 → Fl X.prog X.w (frs X.stack) H0 H s0.heap s.heap a T (.ref C) .none → s.os = s0.os → AllBare s.gens → LS X.K th D σ H →
    wpAny (model X.prog X.w) X.A (handleBy (.ref a) X.env hs) (SP X pins D) X.xe s
section
variable {X : Cx} {pins : List (Addr × Obj)} {σ : St} {H0 H : Hp} {s0 s : Shared} {a T : Addr} {c fl : Value}
theorem Fl.inv (F : Fl X.prog X.w (frs X.stack) H0 H s0.heap s.heap a T c fl) (I : Inv X pins σ H0 s0) (os : s.os = s0.os) (bare : AllBare s.gens) : Inv X pins σ H s := I.call' (ch := []) os F.un F.hok bare fun b z => absurd z (by simp)
theorem Inv.frmem (I : Inv X pins σ H s) : ∀ b ∈ frs X.stack, H b = none ∧ ∃ o, s.heap.get? b = some o ∧ ∀ vs, o.data ≠ .fields vs := fun b hb => ⟨I.stkFree b hb, (I.stack.mem hb).2⟩
theorem Fl.there (F : Fl X.prog X.w (frs X.stack) H0 H s0.heap s.heap a T c fl) (I : Inv X pins σ H0 s0) : ∃ oe, s.heap.get? a = some oe ∧ oe.cls = c ∧ H a = none ∧ a ≠ X.env.locals ∧ a ∉ X.fs ∧ ∀ v, oe.data ≠ .cell v := by
  obtain ⟨oe, vs, oT, ts, a0, e1, e2, e3, _⟩ := F.tr
  refine ⟨oe, e1, e2.1, F.ha, fun z => ?_, fun z => ?_, fun v z => by rw [e3] at z; cases z⟩
  · obtain ⟨m, ⟨o, _, _, ho, _⟩, _⟩ := I.loc
    rw [← z, F.na] at ho; cases ho
  · obtain ⟨_, o, ho, _⟩ := I.funs.mem z
    rw [F.na] at ho; cases ho
theorem Fl.lands {M : Model} {A : Around} {E : Value → Shared → Prop} {Q : Unit → Shared → Prop} (F : Fl X.prog X.w (frs X.stack) H0 H s0.heap s.heap a T c fl) (I : Inv X pins σ H0 s0) (os : s.os = s0.os) (bare : AllBare s.gens)
    (h : ∀ h' T', Fl X.prog X.w (frs X.stack) H0 H s0.heap h' a T' c .none → Q () { s with heap := h' }) : wpAny M A (setFlight (.ref a) none) Q E s := by
  have I1 := F.inv I os bare
  obtain ⟨a0, tr⟩ := F.traced
  refine wpAny_setFlight_noneW (base := PySem.W.hideAll s.heap (a :: T :: frs X.stack)) (fun b o q => PySem.W.of_hideAll _ q) (funs_hid I1.stack fun b z => .tail _ (.tail _ z)) tr fun h' k1 _ k3 k4 => ?_
  obtain ⟨T', F'⟩ := F.move I1.frmem k1 k3 fun b o e n => ⟨o.slots, k4 b o e n⟩
  exact h h' T' F'
variable {C D : Addr} {bm bmD : List Value} {x : Str} {p pos : Pos} {name : Option Str} {body : List Stmt} {rest : List ExceptHandler} {b0 : Stmt} {th : WS}
theorem qh_skip (hm : X.mg x = some (.ref D)) (hg : Gl X x) (hC : XC X.K C bm) (hD : XC X.K D bmD) (hs : PySem.W.mroIn X.K C (.ref D) = some false) (hr : QH X C rest th) (hd : (x == ("__debug__" : Str)) = false := by decide) :
    QH X C (.ExceptHandler (some (.Name x p)) name body pos :: rest) th := by
  intro pins s0 σ H0 s H a T D' I0 F os bare hLS
  have I := F.inv I0 os bare
  obtain ⟨oe, e1, e2, e3, e4, e5, e6⟩ := F.there I0
  refine wpAny_handleBy_cons (codeAny_handlers_test (ld_glob (X := X.xmk a oe) (I.xmk e1 e3 e4 e5 e6) hg hm ?_ hd)) (by intro q; cases q)
  refine exc_match I.kIn hC hD e1 e2 hs ?_
  exact hr pins s0 σ H0 s H a T D' I0 F os bare hLS
theorem qh_take (hm : X.mg x = some (.ref D)) (hg : Gl X x) (hC : XC X.K C bm) (hD : XC X.K D bmD) (hs : PySem.W.mroIn X.K C (.ref D) = some true) (hb : ∀ a oe, oe.cls = .ref C → QSs (X.xmk a oe) (b0 :: body) th) (hd : (x == ("__debug__" : Str)) = false := by decide) :
    QH X C (.ExceptHandler (some (.Name x p)) none (b0 :: body) pos :: rest) th := by
  intro pins s0 σ H0 s H a T D' I0 F os bare hLS
  have I := F.inv I0 os bare
  obtain ⟨oe, e1, e2, e3, e4, e5, e6⟩ := F.there I0
  refine wpAny_handleBy_cons (codeAny_handlers_test (ld_glob (X := X.xmk a oe) (I.xmk e1 e3 e4 e5 e6) hg hm ?_ hd)) (by intro q; cases q)
  refine exc_match I.kIn hC hD e1 e2 hs ?_
  refine codeAny_handlers_suite (F.lands I0 os bare fun h' T' F' => ?_)
  have I' := Fl.inv (s := { s with heap := h' }) F' I0 os bare
  obtain ⟨oe', q1, q2, q3, q4, q5, q6⟩ := Fl.there (s := { s with heap := h' }) F' I0
  exact wpAny_mono (hb a oe' q2 pins _ σ H D' (I'.xmk q1 q3 q4 q5 q6) hLS) (fun f s2 z => z.unx I0.ok.hd) fun _ _ z => z.elim
theorem unbind_ok {M : Model} {A : Around} {E : Value → Shared → Prop} {Q : Unit → Shared → Prop} {i : Nat} {n : Str} (I : Inv X pins σ H s) (hN : X.N.Nodup) (hi : X.N[i]? = some n) (hl : X.env.scope.names.lookup n = some .local)
    (h : ∀ s', Inv X pins (σ.set i none) H s' → Q () s') : wpAny M A (do bindName X.env n .none; unbindBehindTheSuite X.env n pos) Q E s := by
  obtain ⟨m, hn, hlk⟩ := id I.loc
  obtain ⟨oL, _, _, hoL, _⟩ := id hn
  refine wpAny_nameGoes_keeps hl hn (by rw [I.ok.kind]; rfl) fun h' v hn' hs => h _ ?_
  have ne0 : ∀ b o, X.s₀.heap.get? b = some o → b ≠ X.env.locals := fun b o e => Nat.ne_of_lt (Nat.lt_of_lt_of_le (Heap.lt_size e) I.ok.above)
  refine ⟨I.ok, I.os, I.bare, ⟨fun b o e n hb hx => ?_, fun b o e n hb hx => ?_, I.base.free, fun b o e hx => ?_, I.base.tups, I.base.frzs, I.base.tbls⟩, ⟨_, hn', fun j y v' e1 e2 e3 => ?_⟩, fun y c e => ?_, I.free, I.freeC, fun p hp => ?_, fun b ob e => ?_, by simpa using I.len⟩
  · exact (hs.2 b (ne0 b o e)).trans (I.base.keep b o e n hb hx)
  · obtain ⟨sl, z⟩ := I.base.slot b o e n hb hx
    exact ⟨sl, (hs.2 b (ne0 b o e)).trans z⟩
  · obtain ⟨o', z⟩ := I.base.there b o e hx
    exact ⟨o', (hs.2 b (ne0 b o e)).trans z⟩
  · have hj : j ≠ i := fun z => by
      subst z
      by_cases hjl : j < σ.length
      · rw [List.getElem?_set_self hjl] at e2; cases e2
      · rw [List.getElem?_eq_none (by simpa using hjl)] at e2; cases e2
    rw [List.getElem?_set_ne (Ne.symm hj)] at e2
    obtain ⟨u', r', q⟩ := hlk j y v' e1 e2 e3
    refine ⟨u', r', ?_⟩
    rcases q with ⟨k, e⟩ | ⟨k, c, e, z⟩
    · refine .inl ⟨k, ?_⟩
      have : y ≠ n := fun e => hj (nodup_ix hN e1 (e ▸ hi))
      simp [this, e]
    · exact .inr ⟨k, c, e, z.sameBut hs (I.cne y c e)⟩
  · obtain ⟨w', z⟩ := I.cell y c e
    exact ⟨w', z.sameBut hs (I.cne y c e)⟩
  · obtain ⟨e, n, ne, nf, d⟩ := I.pin p hp
    exact ⟨(hs.2 p.1 ne).trans e, n, ne, nf, d⟩
  · refine (I.hok b ob e).stay (fun x w' hc q => (hs.2 x ?_).trans q) (fun _ q => q) fun _ _ q => q
    intro z
    rcases hc with hc | hc
    · rw [← hc, z, I.free] at e; cases e
    · rw [z, I.free] at hc; cases hc
noncomputable def wAs (i : Nat) (ts : Addr → WS) : WS := fun d τ G => ∀ a, G a = none → ts a { nx := fun τ1 G1 => d.nx (τ1.set i none) G1, rt := d.rt, bk := fun τ1 G1 => d.bk (τ1.set i none) G1, ct := fun τ1 G1 => d.ct (τ1.set i none) G1 } (τ.set i (some (.ref a))) G
theorem RelSt.drop {K : PySem.W.Frag} {H : Hp} {τ : WSt} {σ : St} (h : RelSt K H τ σ) (i : Nat) : RelSt K H (τ.set i none) (σ.set i none) := by
  refine ⟨by simpa using h.1, fun j u e => ?_⟩
  by_cases hj : i = j
  · subst hj
    by_cases hl : i < τ.length
    · rw [List.getElem?_set_self hl] at e; cases e
    · rw [List.getElem?_eq_none (by simpa using hl)] at e; cases e
  · rw [List.getElem?_set_ne hj] at e
    obtain ⟨u', e1, r1⟩ := h.2 j u e
    exact ⟨u', by rw [List.getElem?_set_ne hj]; exact e1, r1⟩
noncomputable def wTry (sp : WSp) (dws : List W) (t : WA) (C : Addr) (th : WS) : WS := fun d τ G => t τ G fun ws G1 => sp (ws ++ dws) G1 (fun _ G2 => d.nx τ G2) fun c G2 => c = .ref C ∧ th d τ G2
end
section
variable {X : Cx} {a : Addr} {oe : Obj} {C D : Addr} {bm bmD : List Value}
noncomputable def wIsx (i : Nat) (a : Addr) : WE := fun τ G q => τ[i]? = some (some (.ref a)) ∧ q (.bl true) G
theorem vals2' {x y : V} {us : List Value} (r : Vals [x, y] us) : ∃ u v, us = [u, v] ∧ RelV x u ∧ RelV y v := by
  cases r with
  | cons r1 r =>
    cases r with
    | cons r2 r => cases r; exact ⟨_, _, rfl, r1, r2⟩
end
theorem XC.self {K : PySem.W.Frag} {C : Addr} {bm : List Value} (x : XC K C bm) : PySem.W.mroIn K C (.ref C) = some true := by rw [x.mro]; simp
theorem km_V : PySem.W.kitMeta "ValueError" = true := by decide +kernel
theorem boot_V : bootBuiltins "ValueError" = some (.type "ValueError") := by decide +kernel
end L2
namespace L2
open PySem PySem.Spec PyProof.Rows
section
variable {prog : Program} {w : World} {A : Around} {R : Result → Shared → Prop} {I : Addr} {fp wr : List Addr} {n : Nat} {P : Nat → Value → Prop} {St : Nat → Heap → Prop} {kw : List (Str × Value)}
end
section
variable {prog : Program} {w : World} {A : Around} {E : Value → Shared → Prop} {s : Shared} {l : Addr} {xs : Array (Int × Tok)} {d : Value}
end
section
variable {X : Cx}
noncomputable def wMaxD (te : WE) (d : Int) : WE := fun τ G q => te τ G fun x G1 => match x with
  | .ref a => ∃ ns : List Int, G1 a = some (.lst (ns.map W.int)) ∧ (ns = [] → q (.int d) G1) ∧ ∀ m : Int, m ∈ ns → (∀ x, x ∈ ns → x ≤ m) → q (.int m) G1
  | _ => False
noncomputable def rIsB (neg : Bool) : W2 := fun x y G q => match x, y with
  | .bl a, .bl b => q (.bl (neg ^^ (a == b))) G
  | _, _ => False
end
end L2
namespace L2
open PySem PySem.Spec PyProof.Rows
section
variable {P : Program} {w : World} {K : PySem.W.Frag} {mg : Str → Option Value} {base : Heap} {N : List Str} {qual : Str} {scope : Scope} {f : Addr} {cdv : Value} {A : Around} {outer : List Env} {s : Shared} {H : Hp} {E : XK}
theorem passes1 {E' : XK} (hE : ∀ C H1, TLe H H1 → E' (.ref C) none H1 → E (.ref C) none H1) : Passes (CX1 P w) (cxOf (CX1 P w) P w K mg base N qual scope f cdv A outer s H E) E' := by
  intro pins σ H2 s2 e s3 I hx
  obtain ⟨a, T, C, H', rfl, os, bare, F, hw⟩ := hx
  have I' := F.inv I os bare
  obtain ⟨a0, tr⟩ := F.traced
  show wpAny _ _ (leaving (envOfC qual scope s.heap.objs.size f cdv) (.ref a)) _ _ s3
  refine wpAny_leaving_nextW (base := PySem.W.hideAll s3.heap (a :: T :: frs (envOfC qual scope s.heap.objs.size f cdv :: outer))) (outer := outer) (L := s.heap.objs.size) I'.ok.frames (funs_hid I'.stack fun b z => .tail _ (.tail _ z)) rfl tr (fun b o q => PySem.W.of_hideAll _ q) (PySem.W.hideAll_none _ (.head _)) fun h3 left => ?_
  obtain ⟨k1, _, k3, k4⟩ := left
  obtain ⟨T', F'⟩ := F.move I'.frmem k1 k3 k4
  have nL : ∀ b o, s.heap.get? b = some o → b ∉ frs outer → b ∉ frs (envOfC qual scope s.heap.objs.size f cdv :: outer) := fun b o q hb z => by
    rcases List.mem_cons.mp (show b ∈ s.heap.objs.size :: frs outer from z) with z | z
    · exact absurd (Heap.lt_size q) (by rw [z]; exact Nat.lt_irrefl _)
    · exact hb z
  have no : ∀ b : Addr, b ∉ (cxOf (CX1 P w) P w K mg base N qual scope f cdv A outer s H E).ex := fun b y => nomatch y
  have back : ∀ b, s2.heap.get? b = none → s.heap.get? b = none := fun b q => by
    cases z : s.heap.get? b with
    | none => rfl
    | some o =>
      obtain ⟨o', e'⟩ := I.base.there b o z (no b)
      rw [q] at e'; cases e'
  have tl : TLe H H' := ⟨fun b xs q => F.un.tups b xs (I.base.tups b xs q), fun b o u q => F.un.frzs b o _ (I.base.frzs b o _ q)⟩
  refine ⟨a, T', C, H', rfl, os.trans I.os, bare, ⟨⟨fun b o q n hb hx => ?_, fun b o q n hb hx => ?_, fun b o q n hx => ?_, fun b o q hx => ?_, fun b xs q => F.un.tups b xs (I.base.tups b xs q), fun b o u q => F.un.frzs b o u (I.base.frzs b o u q), fun b ps q => ?_⟩, F'.hok, back a F'.na, back T' F'.nT, F'.ha, F'.hT, F'.tr⟩, hE C H' tl hw⟩
  · exact F'.un.keep b o (I.base.keep b o q n hb (no b)) (I.base.free b o q n (no b)) (nL b o q hb) (by simp)
  · obtain ⟨sl, e1⟩ := I.base.slot b o q n hb (no b)
    obtain ⟨sl2, e2⟩ := F'.un.slot b _ e1 (I.base.free b o q n (no b)) (List.mem_cons_of_mem _ hb) (by simp)
    exact ⟨sl2, e2⟩
  · obtain ⟨o', e'⟩ := I.base.there b o q (no b)
    exact F'.un.free b o' e' (I.base.free b o q n (no b)) (by simp)
  · obtain ⟨o', e'⟩ := I.base.there b o q (no b)
    exact F'.un.there b o' e' (by simp)
  · obtain ⟨m1, e1⟩ := I.base.tbls b ps q
    obtain ⟨m2, e2⟩ := F.un.tbls b _ e1
    exact ⟨m1 ++ m2, by rw [e2, Array.append_assoc]⟩
noncomputable def wCallX (sp : WSp) (dws : List W) (t : WA) (e : WX) : WE := fun τ G q => t τ G fun ws G1 => sp (ws ++ dws) G1 q e
theorem qe_callX {x : Str} {ps : List Str} {k : Nat} {sp : WSp} {dws : List W} {p pos : Pos} {e0 : Expr} {es : List Expr} {t : WA} {e : WX} (F : Rx P w K mg base x ps k sp dws) (hr : Room k (A.deeper (envOfC qual scope s.heap.objs.size f cdv)))
    (hE : ∀ c H1 G1, TLe H H1 → RelG K H1 G1 → e c G1 → E c none H1) (hg : Gl (cxOf (CX1 P w) P w K mg base N qual scope f cdv A outer s H E) x) (ha : QA (cxOf (CX1 P w) P w K mg base N qual scope f cdv A outer s H E) (e0 :: es) t) (hdb : (x == ("__debug__" : Str)) = false := by decide)
    (he : starEach (e0 :: es) (envOfC qual scope s.heap.objs.size f cdv) = (false, eval e0 (envOfC qual scope s.heap.objs.size f cdv)) :: starEach es (envOfC qual scope s.heap.objs.size f cdv) := by rfl) (hpl : (backTo pos (starEach es (envOfC qual scope s.heap.objs.size f cdv))).any (·.1) = false := by rfl) :
    QE (cxOf (CX1 P w) P w K mg base N qual scope f cdv A outer s H E) (.Call (.Name x p) (e0 :: es) [] pos) (wCallX sp dws t e) := by
  obtain ⟨f1, fd, ds, dvs, F1, h2, h3, h4, h5, h6⟩ := F
  refine (pe_call (X := cxOf (CX1 P w) P w K mg base N qual scope f cdv A outer s H E) (E := fun c _ H1 => ∃ G1, RelG K H1 G1 ∧ e c G1) F1 hr hg h2 h3 h4 h5 (passes1 fun C H1 t1 z => ?_) ha hdb he hpl).imp fun σ H2 Q h => ?_
  · obtain ⟨G1, g1, z1⟩ := z
    exact hE _ H1 G1 t1 g1 z1
  · obtain ⟨τ, G, q, hs, hgG, ht, hQ⟩ := h
    exact ⟨τ, G, _, hs, hgG, ht, fun vs H1 ws G1 t1 r1 g1 q1 => ⟨ws ++ dws, G1, q, e, r1.append (h6 H1), g1, q1, fun v H3 w G3 t3 => hQ v H3 w G3 (t1.trans t3), fun c d H3 G3 _ g3 z => ⟨G3, g3, z⟩⟩⟩
end
section
variable {X : Cx} {pins : List (Addr × Obj)} {σ : St} {H : Hp} {s : Shared}
noncomputable def wDct : WE := fun _ G q => ∀ p, G p = none → q (.ref p) (updG G p .dct)
end
end L2
namespace L2
open PySem PySem.Spec PyProof.Rows
section
variable {prog : Program} {w : World} {A : Around} {E : Value → Shared → Prop} {s : Shared} {I l : Addr} {items : Array Value}
end
section
variable {X : Cx}
noncomputable def wTupRev (te : WE) : WE := fun τ G q => te τ G fun x G1 => match x with
  | .ref a => ∃ ws, G1 a = some (.lst ws) ∧ q (.tup ws.reverse) G1
  | _ => False
end
end L2
namespace L2
open PySem PySem.Spec PyProof.Rows
noncomputable def CRG (lo hi c : Int) : Prop := CR3 lo hi c ∨ (c = -1 ∧ -(2 ^ 40) ≤ lo ∧ lo < 2 ^ 40 ∧ -(2 ^ 40) ≤ hi ∧ hi < 2 ^ 40)
theorem rsz_down (a b : Int) : rsz a b (-1) = ((a - b).toNat : Int) := by
  unfold rsz Builtin.Range.rangeSize
  rw [if_neg (by decide)]
  split
  · have : (a - b - 1) / (1 : Int) = a - b - 1 := Int.ediv_one _
    simp only [Int.neg_neg]
    omega
  · omega
theorem CRG.nn {lo hi c : Int} (h : CRG lo hi c) : 0 ≤ rsz lo hi c := by
  rcases h with h | ⟨rfl, h⟩
  · exact h.size.1
  · rw [rsz_down]; (clear h; omega)
theorem CRG.small {lo hi c : Int} (h : CRG lo hi c) : Builtin.Range.small lo hi c = true := by
  rcases h with h | ⟨rfl, l0, l1, h0, h1⟩
  · exact h.small
  · have e : Builtin.Range.rangeSize lo hi (-1) = ((lo - hi).toNat : Int) := rsz_down lo hi
    unfold Builtin.Range.small
    rw [e]
    simp only [Builtin.Range.rangeFitsLong, Bool.and_eq_true, Bool.or_eq_true, decide_eq_true_eq, beq_iff_eq]
    rw [if_neg (by decide)]
    simp only [Bool.and_eq_true, decide_eq_true_eq]
    (clear e; omega)
theorem CRG.ne {lo hi c : Int} (h : CRG lo hi c) : c ≠ 0 := by
  rcases h with h | ⟨rfl, _⟩
  · have := h.c0; (clear h; omega)
  · decide
theorem CRG.lo {lo hi c : Int} (h : CRG lo hi c) : c.natAbs < 1073741824 := by
  rcases h with h | ⟨rfl, _⟩
  · have := h.c0; have := h.c1; (clear h; omega)
  · decide
section
variable {X : Cx} {tg : Expr}
theorem range_itG {pins : List (Addr × Obj)} {σ : St} {H : Hp} {s : Shared} {R : It → Hp → Prop} {E : Value → Shared → Prop} {lo hi c : Int} {t u v : Tok} {tk : Nat} (I : Inv X pins σ H s) (h : CRG lo hi c)
    (q : R (Itr3 lo c (rsz lo hi c).toNat) H) : wpAny (model X.prog X.w) X.A (pyIter (.ref s.heap.objs.size)) (PIE X pins σ tg R) E { s with heap := s.heap.push { cls := .type "range", data := .fields #[.int lo t, .int hi u, .int c v] }, toks := tk } := by
  refine wpAny_pyIter_range (IsRange.new ..) h.small ?_
  have I1 : Inv X pins σ H { s with heap := s.heap.push { cls := .type "range", data := .fields #[.int lo t, .int hi u, .int c v] }, toks := tk } := I.kept fun b o e => Heap.get?_push_of_some _ e
  refine ⟨(s.heap.push { cls := .type "range", data := .fields #[.int lo t, .int hi u, .int c v] }).objs.size, [(s.heap.push { cls := .type "range", data := .fields #[.int lo t, .int hi u, .int c v] }).objs.size], _, _, H, rfl,
    I1.kept (t' := tk) fun b o e => Heap.get?_push_of_some _ e, turn_range3 _ lo c (rsz lo hi c).toNat, ?_, fun b hb => ?_, q⟩
  · have e1 : lo + ((0 : Nat) : Int) * c = lo := by simp
    have e2 : (((rsz lo hi c).toNat : Nat) : Int) - ((0 : Nat) : Int) = Builtin.Range.rangeSize lo hi c := by have := h.nn; unfold rsz at this ⊢; (clear I h q I1 e1; omega)
    show IsRangeIter _ _ (lo + ((0 : Nat) : Int) * c) ((((rsz lo hi c).toNat : Nat) : Int) - ((0 : Nat) : Int)) c
    rw [e1, e2]
    exact Heap.get?_push_size _ rfl
  · have e : b = (s.heap.push { cls := .type "range", data := .fields #[.int lo t, .int hi u, .int c v] }).objs.size := by simpa using hb
    subst e
    exact I1.fpOk (Nat.le_refl _) (I1.hok.fresh (Nat.le_refl _))
noncomputable def jRngG (ta : WA) : WI := fun τ G r => ta τ G fun ws G1 => match ws with
  | [.int lo, .int hi, .int c] => CRG lo hi c ∧ r (upS lo c (rsz lo hi c).toNat) (fun _ => True) G1
  | _ => False
theorem inv_iii {ws : List W} {f : Int → Int → Int → Prop} (h : match ws with | [.int i, .int j, .int k] => f i j k | _ => False) : ∃ i j k, ws = [.int i, .int j, .int k] ∧ f i j k := by
  rcases ws with _ | ⟨a, _ | ⟨b, _ | ⟨c, r⟩⟩⟩
  · exact h.elim
  · cases a <;> exact h.elim
  · cases a with
    | int i => cases b <;> exact h.elim
    | _ => exact h.elim
  · cases a with
    | int i =>
      cases b with
      | int j =>
        cases c with
        | int k => cases r with
          | nil => exact ⟨i, j, k, rfl, h⟩
          | cons _ _ => exact h.elim
        | _ => exact h.elim
      | _ => exact h.elim
    | _ => exact h.elim
theorem qi_rangeG {a b c : Expr} {ta : WA} {p pos : Pos} (hg : Gl X "range") (hm : X.mg "range" = none) (ha : QA X [a, b, c] ta) (hs : starEach [a, b, c] X.env = [(false, eval a X.env), (false, eval b X.env), (false, eval c X.env)] := by rfl) (hs2 : starEach [b, c] X.env = [(false, eval b X.env), (false, eval c X.env)] := by rfl) :
    QI X tg (.Call (.Name "range" p) [a, b, c] [] pos) (jRngG ta) := by
  intro pins s σ H R I ⟨τ, G, r, hτ, hG, ht, hR⟩
  refine Call_ (ld_blt I hg hm boot_range (PyProof.Rows.callWith_type1 (thn (ha pos pins s σ H (fun vs H1 => ∃ ws G1, TLe H H1 ∧ Reps X.K H1 ws vs ∧ RelG X.K H1 G1 ∧ match ws with | [.int lo, .int hi, .int c] => CRG lo hi c ∧ r (upS lo c (rsz lo hi c).toNat) (fun _ => True) G1 | _ => False) I ⟨τ, G, _, hτ, hG, ht, fun vs H1 ws G1 t1 r1 g1 q1 => ⟨ws, G1, t1, r1, g1, q1⟩⟩) fun us s1 ⟨vs, H1, I1, ru, ws, G1, t1, r1, g1, q1⟩ => ?_) (by rw [hs, hs2]) (by rw [hs2]; rfl)))
  obtain ⟨lo, hi, c, rfl, q1⟩ := inv_iii q1
  cases r1 with
  | cons ra rr =>
    cases ra
    cases rr with
    | cons rb rr =>
      cases rb
      cases rr with
      | cons rc rr =>
        cases rc
        cases rr
        cases ru with
        | cons va vv =>
          obtain ⟨t, rfl⟩ := va
          cases vv with
          | cons vb vv =>
            obtain ⟨t', rfl⟩ := vb
            cases vv with
            | cons vc vv =>
              obtain ⟨t'', rfl⟩ := vc
              cases vv
              exact call_range_3 q1.1.ne (range_itG I1 q1.1 (hR _ H1 _ _ G1 t1 g1 itn_rng3 q1.2)) (.inl (PyProof.noPylong_small q1.1.lo))
noncomputable def bits (i : Int) : Int := (Builtin.Int.intBits i : Nat)
noncomputable def wBits (to : WE) : WE := fun τ G q => to τ G fun x G1 => match x with
  | .int i => q (.int (bits i)) G1
  | _ => False
noncomputable def BigP (i j : Int) : Prop := 0 ≤ j ∧ j ≤ 1000 ∧ i.natAbs < 2 ^ 4000
noncomputable def CPowB (i j : Int) : Prop := CPow i j ∨ BigP i j
end
end L2
namespace L2
open PySem PySem.Spec PyProof.Rows
section
variable {X : Cx} {C : Addr} {th : WS} {x : Str} {p pos : Pos}
noncomputable def wTryA (i : Nat) (sp : WSp) (dws : List W) (t : WA) (C : Addr) (th : WS) : WS := fun d τ G => t τ G fun ws G1 => sp (ws ++ dws) G1 (fun v G2 => d.nx (τ.set i (some v)) G2) fun c G2 => c = .ref C ∧ th d τ G2
end
end L2
set_option maxRecDepth 100000
namespace L2
open PySem PySem.Spec PyProof.Rows
section
variable {X : Cx}
noncomputable def insW {α : Type} (xs : List α) (k : Nat) (y : α) : List α := xs.take k ++ y :: xs.drop k
theorem insW_len {α : Type} (xs : List α) (k : Nat) (y : α) : (insW xs k y).length = xs.length + 1 := by
  unfold insW
  rw [List.length_append, List.length_cons, ← Nat.add_assoc, ← List.length_append, List.take_append_drop]
theorem Vals.ins {xs : List V} {its : List Value} {y : V} {u : Value} {k : Nat} (h : Vals xs its) (hy : RelV y u) : Vals (insW xs k y) (insW its k u) := (Vals.take k h).append (.cons hy (Vals.drop k h))
theorem ins_arr (l : List Value) (k : Nat) (y : Value) : (l.toArray.extract 0 k).push y ++ l.toArray.extract k = (insW l k y).toArray := by
  apply Array.toList_inj.mp
  unfold insW
  simp
  exact List.take_of_length_le (by simp)
noncomputable def rIns : V → List V → Hp → VK → Prop := fun x vs H Q => ∃ l xs i y, x = .ref l ∧ vs = [.int i, y] ∧ H l = some (.lst xs) ∧ 0 ≤ i ∧ i ≤ (xs.length : Int) ∧ xs.length < sizeLine ∧ Q .non (upd H l (.lst (insW xs i.toNat y)))
theorem mt_insert : MtM X "list.insert" rIns := by
  intro pins s σ H x vs v us Q I rx rv h
  obtain ⟨l, xs, i, y, rfl, rfl, hH, h0, hk, hz, q⟩ := h
  cases rx
  obtain ⟨u1, u2, rfl, r1, r2⟩ := vals2 rv
  obtain ⟨t, rfl⟩ := r1
  obtain ⟨z, its, n, r, hl, e⟩ := I.lstM hH
  have h63 : i < 2 ^ 63 := by
    have h1 : (xs.length : Int) < 2 ^ 63 := by exact_mod_cast Nat.lt_trans hz line63
    exact Int.lt_of_le_of_lt hk h1
  have hc : ¬ (!Builtin.List.listFitsIndex i) = true := by rw [fitsIndex_both (Int.le_trans (by decide) h0) h63]; decide
  have hsz : its.toArray.size ≤ sizeLine := by rw [List.size_toArray, ← hl]; exact z
  have e1 : (if i < 0 then (i + (its.toArray.size : Int)).toNat else min i.toNat its.toArray.size) = i.toNat := by
    rw [if_neg (Int.not_lt.mpr h0), List.size_toArray, ← hl]
    exact Nat.min_eq_left (Int.toNat_le.mpr hk)
  clear h63
  refine call_meets F.slot_list_insert ⟨_, e, rfl⟩ F.entry_list_insert (F.args_list_insert_3 _ _ _) (AutoSeq1.list_insert_list_int_val_1 l its.toArray n i t u2 hc hsz) ⟨e, ?_⟩
  refine ⟨.non, _, I.lset (its' := insW its i.toNat u2) hH e ?_ (Vals.ins r r2) ?_, rfl, q⟩
  · show (its.toArray.extract 0 (if i < 0 then (i + (its.toArray.size : Int)).toNat else min i.toNat its.toArray.size)).push u2 ++ its.toArray.extract (if i < 0 then (i + (its.toArray.size : Int)).toNat else min i.toNat its.toArray.size) = _
    rw [e1, ins_arr]
  · rw [insW_len]; exact hz
noncomputable def wIns (to tk te : WE) : WE := fun τ G q => to τ G fun x G1 => match x with
  | .ref a => (∃ xs, G1 a = some (.lst xs)) ∧ tk τ G1 fun i G2 => te τ G2 fun y G3 => ∃ ys k, i = .int k ∧ G3 a = some (.lst ys) ∧ 0 ≤ k ∧ k ≤ (ys.length : Int) ∧ ys.length + 1 ≤ 100000 ∧ q .non (updG G3 a (.lst (insW ys k.toNat y)))
  | _ => False
theorem qe_ins {o k e : Expr} {to tk te : WE} {apos cpos : Pos} (ho : QE X o to) (hk : QE X k tk) (he : QE X e te)
    (hbase : attributeBase o "insert" X.env (eval o X.env) = eval o X.env := by rfl)
    (hfew : ((backTo cpos (starEach [k, e] X.env)).all (fun x => !x.1) && (backToKw cpos (keywordEach [] X.env)).all (fun x => x.1.isSome)
      && decide (([k, e] : List Expr).length + ([] : List Keyword).length + (if ([] : List Keyword).isEmpty then 0 else 1) < 30)) = true := by rfl)
    (hline : (apos.endLine == cpos.line) = true := by rfl) (hs : starEach [k, e] X.env = (false, eval k X.env) :: starEach [e] X.env := by rfl) (hs2 : starEach [e] X.env = (false, eval e X.env) :: starEach [] X.env := by rfl) (hpl : (backTo cpos (starEach [e] X.env)).any (·.1) = false := by rfl) :
    QE X (.Call (.Attribute o "insert" apos) [k, e] [] cpos) (wIns to tk te) :=
  (pe_bm PySem.F.plainAttrs_list PySem.F.slot_list_insert PySem.F.type_list_insert mt_insert ho (pa_cons hk (pa_cons he pa_nil hs2) hs) hbase hfew hline hs hpl).imp fun σ H Q z0 => z0.el fun τ G q hs hg ht hQ =>
    ⟨τ, G, _, hs, hg, ht, fun v H1 w G1 t1 r1 g1 q1 => by
      split at q1
      · rename_i a
        cases r1
        obtain ⟨⟨xs, e1⟩, q1⟩ := q1
        obtain ⟨_, xs', h1, _⟩ := g1 a _ e1
        refine ⟨.inl ⟨rfl, xs', SqL.of h1⟩, τ, G1, _, hs.mono t1, g1, q1, fun v2 H2 w2 G2 t2 r2 g2 q2 => ?_⟩
        refine ⟨τ, G2, _, (hs.mono t1).mono t2, g2, q2, fun v3 H3 w3 G3 t3 r3 g3 q3 => ?_⟩
        obtain ⟨ys, k, rfl, e2, h0, hk, hl, q3⟩ := q3
        cases r2
        obtain ⟨_, ys', h2, rr⟩ := g3 a _ e2
        refine ⟨a, ys', k, v3, rfl, rfl, h2, h0, by rw [← rr.length]; exact hk, ?_, ?_⟩
        · rw [← rr.length]
          exact line_le hl
        · exact hQ _ _ _ _ (((t1.trans t2).trans t3).trans (TLe.lst h2 _)) .non (g3.put (TLe.lst h2 _) ((rr.take k.toNat).append (.cons r3 (rr.drop k.toNat))) (by show (insW ys k.toNat w3).length ≤ _; rw [insW_len]; exact hl)) q3
      · exact q1.elim⟩
noncomputable def hSub (to ti : WE) : WG := fun w τ G q => to τ G fun x G1 => ti τ G1 fun y G2 => ∃ a ys, ∃ k : Nat, x = .ref a ∧ y = .int (k : Int) ∧ G2 a = some (.lst ys) ∧ k < ys.length ∧ ys.length ≤ 100000 ∧ q τ (updG G2 a (.lst (ys.set k w)))
theorem Reps.set {K : PySem.W.Frag} {H : Hp} {w : W} {v : V} (r : Rep K H w v) : ∀ {ws : List W} {vs : List V} (n : Nat), Reps K H ws vs → Reps K H (ws.set n w) (vs.set n v)
  | _, _, _, .nil => .nil
  | _, _, 0, .cons _ t => .cons r t
  | _, _, n + 1, .cons s t => .cons s (Reps.set r n t)
theorem qg_sub {o i : Expr} {to ti : WE} {pos : Pos} (ho : QE X o to) (hi : QE X i ti)
    (ha : ∀ v, assign (.Subscript o i pos) X.env v = (do
      let ov ← holding [v] (eval o X.env)
      let iv ← holding [v, ov] (eval i X.env)
      standAt pos
      holding [v, ov, iv] (setItem ov iv v)
      release [v, ov, iv] []) := by intro _; rfl) : QG X (.Subscript o i pos) (hSub to ti) :=
  (pg_sub ho hi set_list ha).imp fun v σ H Q ⟨w, τ, G, q, r, hs, hg, ht, hQ⟩ =>
    ⟨τ, G, _, hs, hg, ht, fun v1 H1 w1 G1 t1 r1 g1 q1 => ⟨τ, G1, _, hs.mono t1, g1, q1, fun v2 H2 w2 G2 t2 r2 g2 q2 => by
      obtain ⟨a, ys, k, rfl, rfl, e2, hk, hl, q2⟩ := q2
      cases r1
      cases r2
      obtain ⟨_, ys', h2, rr⟩ := g2 a _ e2
      have hlen := rr.length
      refine ⟨a, ys', _, k, rfl, rfl, h2, ?_, ?_⟩
      · unfold ixN
        rw [if_pos (by (clear ho hi ha r hs hg ht hQ t1 g1 t2 g2 q1 e2 hk hl q2 h2 rr hlen; omega)), if_pos (by (clear ho hi ha r hs hg ht hQ t1 g1 t2 g2 q1 e2 hl q2 h2 rr; omega))]
        rfl
      · have tt := (t1.trans t2).trans (TLe.lst h2 (.lst (ys'.set k v)))
        exact hQ _ _ _ _ tt (hs.mono tt) (g2.put (TLe.lst h2 _) (Reps.set (r.mono (t1.trans t2)) k rr) (by rw [List.length_set]; exact hl)) q2⟩⟩
end
theorem noFill_tuple_mul : fillsNumberSlot (.type "tuple") "mul" = pure false :=
  PySem.fillsNumberSlot_seq (id := "tuple.__mul__") (r := some (.builtin "tuple.__rmul__")) F.slot_tuple_mul.lookup (by decide +kernel) F.slot_tuple_rmul.lookup (by decide +kernel)
theorem repeat_tuple : seqRepeat? (.type "tuple") = pure (some (.builtin "tuple.__mul__")) := by
  unfold seqRepeat?
  rw [PySem.seqSlot_of (T := "tuple") (name := "__mul__") (id := "tuple.__mul__") F.slot_tuple_mul.lookup (by decide +kernel), PySem.seqSlot_of (T := "tuple") (name := "__rmul__") (id := "tuple.__rmul__") F.slot_tuple_rmul.lookup (by decide +kernel)]
  rfl
theorem int_rmul_tuple (a : Int) (t : Tok) (l : Addr) (items : Array Value) (n : Nat) (dd : Option Addr) (sl : Array (Option Value)) :
    Meets (Builtin.«int.__rmul__» ⟨[.int a t, .ref l], []⟩) (fun _ R s => s.heap.get? l = some { cls := .type "tuple", dict := dd, data := .seq items n, slots := sl } ∧ R (.ok (.ret Value.notImplemented)) s) :=
  .of_wp fun prog w A R s h => by obtain ⟨hp, g, d, tk, os⟩ := s; obtain ⟨hl, h⟩ := h; wp_walk; exact ⟨_, rfl, h⟩
theorem tuple_mul1 (l : Addr) (items : Array Value) (n : Nat) (dd : Option Addr) (sl : Array (Option Value)) (u : Tok) :
    Meets (Builtin.«tuple.__mul__» ⟨[.ref l, .int 1 u], []⟩) (fun _ R s => s.heap.get? l = some { cls := .type "tuple", dict := dd, data := .seq items n, slots := sl } ∧ R (.ok (.ret (.ref l))) s) :=
  .of_wp fun prog w A R s h => by
    obtain ⟨hp, g, d, tk, os⟩ := s; obtain ⟨hl, h⟩ := h
    wp_walk
    exact ⟨_, rfl, h⟩
theorem tuple_mulN (l : Addr) (items : Array Value) (n : Nat) (dd : Option Addr) (sl : Array (Option Value)) (x : Int) (u : Tok) (h0 : items.isEmpty = false) (h1 : (x == 1) = false) (h2 : 0 < x) (hf : (decide (x < -(2 ^ 63)) || decide (x ≥ 2 ^ 63)) = false) (hm : decide ((items.size : Int) * x > (2 ^ 63 - 1) / 8) = false) (ht : Builtin.Tuple.tupleTooMany ((items.size : Int) * x) = false) (hsz : ((List.replicate x.toNat items).foldl (· ++ ·) #[]).size ≤ sizeLine) :
    Meets (Builtin.«tuple.__mul__» ⟨[.ref l, .int x u], []⟩) (fun _ R s => s.heap.get? l = some { cls := .type "tuple", dict := dd, data := .seq items n, slots := sl } ∧ R (.ok (.ret (.ref s.heap.objs.size))) { s with heap := s.heap.push { cls := .type "tuple", data := .seq ((List.replicate x.toNat items).foldl (· ++ ·) #[]) } }) :=
  .of_wp fun prog w A R s h => by
    obtain ⟨hp, g, d, tk, os⟩ := s; obtain ⟨hl, h⟩ := h
    have c1 : (items.isEmpty || x == 1) = false := by rw [h0, h1]; rfl
    have c2 : (decide (x ≤ 0) || items.isEmpty) = false := by rw [h0, decide_eq_false (by (clear h0 h1 hf hm ht hsz hl h c1; omega))]; rfl
    wp_walk
    refine wpAny_ite_false (by rw [hf]; rfl) ?_
    wp_walk
    refine wpAny_ite_false hm ?_
    wp_walk
    exact ⟨_, rfl, h⟩
theorem tuple_mul0 (l : Addr) (items : Array Value) (n : Nat) (dd : Option Addr) (sl : Array (Option Value)) (u : Tok) (h0 : items.isEmpty = false) :
    Meets (Builtin.«tuple.__mul__» ⟨[.ref l, .int 0 u], []⟩) (fun _ R s => s.heap.get? l = some { cls := .type "tuple", dict := dd, data := .seq items n, slots := sl } ∧ R (.ok (.ret (.ref s.heap.objs.size))) { s with heap := s.heap.push { cls := .type "tuple", data := .seq #[] } }) :=
  .of_wp fun prog w A R s h => by
    obtain ⟨hp, g, d, tk, os⟩ := s; obtain ⟨hl, h⟩ := h
    have c1 : (items.isEmpty || (0 : Int) == 1) = false := by rw [h0]; rfl
    wp_walk
    exact ⟨_, rfl, h⟩
section
variable {X : Cx}
noncomputable def rRepT (K : PySem.W.Frag) : R2 := fun x y H Q => ∃ a k xs, x = .ref a ∧ y = .int k ∧ SqT K H a xs ∧ xs ≠ [] ∧ 0 ≤ k ∧ k ≤ 100000 ∧ xs.length * k.toNat ≤ sizeLine ∧
  (k = 1 → Q (.ref a) H) ∧ (k ≠ 1 → ∀ p, H p = none → Q (.ref p) (upd H p (.tup (List.replicate k.toNat xs).flatten)))
theorem op_repT : OpR X (binaryOp .Mult) (rRepT X.K) := by
  intro pins s σ H x y v u Q I rx ry h
  obtain ⟨a, k, xs, rfl, rfl, ha, hx, h0, h1, hz, q1, q2⟩ := h
  cases rx
  obtain ⟨t, rfl⟩ := ry
  obtain ⟨its, r1, p1, _⟩ := I.tuple ha
  have hl := r1.length
  obtain ⟨⟨cls, dd, data, sl⟩, ho, hc, n, hd⟩ := id p1
  simp only at hc hd
  subst hc hd
  have he : its.toArray.isEmpty = false := by
    cases its with
    | nil => exact absurd (r1.nil_iff.mp rfl) hx
    | cons _ _ => rfl
  refine wpAny_binaryOp_repeat_ref (T := "tuple") (U := "int") (by decide) ⟨_, ho, rfl⟩ (fun s' => typeIs_int s' k t) noFill_tuple_mul F.fills_int_mul F.slot_int_rmul repeat_tuple F.slot_int_index.lookup
    (call_meets F.slot_int_rmul (typeIs_int s k t) F.entry_int_rmul (F.args_int_rmul_2 _ _) (int_rmul_tuple k t a its.toArray n dd sl) ⟨ho, rfl, ⟨_, ho, rfl⟩, ?_⟩)
  by_cases hk1 : k = 1
  · subst hk1
    exact call_meets F.slot_tuple_mul ⟨_, ho, rfl⟩ F.entry_tuple_mul (F.args_tuple_mul_2 _ _) (tuple_mul1 a its.toArray n dd sl t) ⟨ho, ⟨.ref a, H, I, rfl, q1 rfl⟩⟩
  · by_cases hk0 : k = 0
    · subst hk0
      refine call_meets F.slot_tuple_mul ⟨_, ho, rfl⟩ F.entry_tuple_mul (F.args_tuple_mul_2 _ _) (tuple_mul0 a its.toArray n dd sl t he) ⟨ho, ?_⟩
      refine ⟨.ref s.heap.objs.size, _, I.laid (t' := s.toks) (o := .tup []) (fun b ob q => Heap.get?_push_of_some _ q) (Nat.le_refl _) ?_, rfl, q2 (by decide) _ (I.hok.fresh (Nat.le_refl _))⟩
      exact ⟨Nat.zero_le _, [], .nil, IsTup.new _ _⟩
    · have hsz : (its.toArray.size : Int) * k ≤ (sizeLine : Int) := by
        rw [List.size_toArray, ← hl, ← Int.toNat_of_nonneg h0]
        exact_mod_cast hz
      have hnew : List.foldl (fun x1 x2 => x1 ++ x2) #[] (List.replicate k.toNat its.toArray) = (List.replicate k.toNat its).flatten.toArray := by
        have := foldl_rep its k.toNat []
        rw [List.nil_append] at this
        exact this
      refine call_meets F.slot_tuple_mul ⟨_, ho, rfl⟩ F.entry_tuple_mul (F.args_tuple_mul_2 _ _) (tuple_mulN a its.toArray n dd sl k t he (by simpa using hk1) (by (clear I ha hx hz q1 q2 r1 p1 hl ho he hk1 hsz hnew; omega)) ?_ ?_ ?_ ?_) ⟨ho, ?_⟩
      · rw [decide_eq_false (by (clear I ha hx hz q1 q2 r1 p1 hl ho he hk1 hk0 hsz hnew; omega)), decide_eq_false (by (clear I ha hx hz q1 q2 r1 p1 hl ho he hk1 hk0 hsz hnew; omega))]; rfl
      · refine decide_eq_false (Int.not_lt.mpr (Int.le_trans hsz ?_))
        decide
      · unfold Builtin.Tuple.tupleTooMany
        exact decide_eq_false (Int.not_lt.mpr hsz)
      · rw [hnew, List.size_toArray, len_rep, Nat.mul_comm, ← hl]
        exact hz
      · rw [hnew]
        refine ⟨.ref s.heap.objs.size, _, I.laid (t' := s.toks) (o := .tup (List.replicate k.toNat xs).flatten) (fun b ob q => Heap.get?_push_of_some _ q) (Nat.le_refl _) ?_, rfl, q2 hk1 _ (I.hok.fresh (Nat.le_refl _))⟩
        exact ⟨by rw [len_rep, Nat.mul_comm]; exact hz, _, r1.rep k.toNat, IsTup.new _ _⟩
end
end L2
namespace L2
open PySem PySem.Spec PyProof.Rows
section
variable {X : Cx}
noncomputable def hSub1 (to ti : WE) : WG := fun w τ G q => to τ G fun x G1 => ti τ G1 fun y G2 => ∃ a ys, x = .ref a ∧ y = .int (-1) ∧ G2 a = some (.lst ys) ∧ 0 < ys.length ∧ ys.length ≤ 100000 ∧ q τ (updG G2 a (.lst (ys.set (ys.length - 1) w)))
theorem qg_sub1 {o i : Expr} {to ti : WE} {pos : Pos} (ho : QE X o to) (hi : QE X i ti)
    (ha : ∀ v, assign (.Subscript o i pos) X.env v = (do
      let ov ← holding [v] (eval o X.env)
      let iv ← holding [v, ov] (eval i X.env)
      standAt pos
      holding [v, ov, iv] (setItem ov iv v)
      release [v, ov, iv] []) := by intro _; rfl) : QG X (.Subscript o i pos) (hSub1 to ti) :=
  (pg_sub ho hi set_list ha).imp fun v σ H Q ⟨w, τ, G, q, r, hs, hg, ht, hQ⟩ =>
    ⟨τ, G, _, hs, hg, ht, fun v1 H1 w1 G1 t1 r1 g1 q1 => ⟨τ, G1, _, hs.mono t1, g1, q1, fun v2 H2 w2 G2 t2 r2 g2 q2 => by
      obtain ⟨a, ys, rfl, rfl, e2, hk, hl, q2⟩ := q2
      cases r1
      cases r2
      obtain ⟨_, ys', h2, rr⟩ := g2 a _ e2
      have hlen := rr.length
      refine ⟨a, ys', _, ys.length - 1, rfl, rfl, h2, ?_, ?_⟩
      · unfold ixN
        rw [if_neg (by (clear ho hi ha r hs hg ht hQ t1 g1 t2 g2 q1 e2 hk hl q2 h2 rr hlen; omega)), if_pos (by (clear ho hi ha r hs hg ht hQ t1 g1 t2 g2 q1 e2 q2 h2 rr; omega)), ← hlen]
        congr 1
        (clear ho hi ha r hs hg ht hQ t1 g1 t2 g2 q1 e2 q2 h2 rr; omega)
      · have tt := (t1.trans t2).trans (TLe.lst h2 (.lst (ys'.set (ys.length - 1) v)))
        exact hQ _ _ _ _ tt (hs.mono tt) (g2.put (TLe.lst h2 _) (Reps.set (r.mono (t1.trans t2)) _ rr) (by rw [List.length_set]; exact hl)) q2⟩⟩
end
end L2
namespace L2
open PySem PySem.Spec PyProof.Rows
noncomputable abbrev WEx := Addr → WSt → Gp → Prop
noncomputable def XP (X : Cx) (pins : List (Addr × Obj)) (H : Hp) (ex : WEx) (e : Value) (s' : Shared) : Prop :=
  ∃ a T C H0 s0 σ H' τ G, e = .ref a ∧ Inv X pins σ H0 s0 ∧ Fl X.prog X.w (frs X.stack) H0 H' s0.heap s'.heap a T (.ref C) .none ∧ s'.os = s0.os ∧ AllBare s'.gens ∧ TLe H H' ∧ RelSt X.K H' τ σ ∧ RelG X.K H' G ∧ ex C τ G
noncomputable def QY (X : Cx) (st : Stmt) (t : WEx → WS) : Prop :=
  ∀ (ex : WEx) (pins : List (Addr × Obj)) (s : Shared) (σ : St) (H : Hp) (D : Ends), Inv X pins σ H s → LS X.K (t ex) D σ H → wpAny (model X.prog X.w) X.A (exec st X.env) (SP X pins D) (XP X pins H ex) s
noncomputable def QYs (X : Cx) (st : List Stmt) (t : WEx → WS) : Prop :=
  ∀ (ex : WEx) (pins : List (Addr × Obj)) (s : Shared) (σ : St) (H : Hp) (D : Ends), Inv X pins σ H s → LS X.K (t ex) D σ H → wpAny (model X.prog X.w) X.A (execs st X.env) (SP X pins D) (XP X pins H ex) s
section
variable {X : Cx} {x : Str} {p pos : Pos}
theorem qys_one {st : Stmt} {t : WEx → WS} (h : QY X st t) : QYs X [st] t := by
  intro ex pins s σ H D I hl
  refine wpAny_execs_cons (thn (h ex pins s σ H D I hl) fun f s1 q => ?_)
  cases f with
  | next => exact wpAny_execs_nil q
  | ret v => exact q
  | brk => exact q
  | cont => exact q
noncomputable def wSeqY (t u : WEx → WS) : WEx → WS := fun ex => wSeq (t ex) (u ex)
noncomputable def wIfY (c : WT) (t u : WEx → WS) : WEx → WS := fun ex => wIf c (t ex) (u ex)
noncomputable def wCallY (i : Nat) (sp : WSp) (dws : List W) (t : WA) : WEx → WS := fun ex d τ G => t τ G fun ws G1 => sp (ws ++ dws) G1 (fun v G2 => d.nx (τ.set i (some v)) G2) fun c G2 => ∀ C, c = .ref C → ex C τ G2
noncomputable def wDoY (sp : WSp) (dws : List W) (t : WA) : WEx → WS := fun ex d τ G => t τ G fun ws G1 => sp (ws ++ dws) G1 (fun _ G2 => d.nx τ G2) fun c G2 => ∀ C, c = .ref C → ex C τ G2
noncomputable def wTryY (t : WEx → WS) (cs : List (Addr × WS)) : WS := fun d τ G => t (fun C τ1 G1 => ∃ th, (C, th) ∈ cs ∧ th d τ1 G1) d τ G
theorem qs_tryY {body : List Stmt} {h0 : ExceptHandler} {hs : List ExceptHandler} {t : WEx → WS} {cs : List (Addr × WS)} (hst : X.stack = X.env :: X.outer) (hfr : X.env.frame = some X.env.locals) (hb : QYs X body t) (hh : ∀ c, c ∈ cs → QH X c.1 (h0 :: hs) c.2) :
    QS X (.Try body (h0 :: hs) [] [] pos) (wTryY t cs) := by
  intro pins s σ H D I ⟨τ, G, d, rs, rg, ht, l⟩
  refine wpAny_Try_except (wpAny_mono (hb _ pins s σ H D I ⟨τ, G, d, rs, rg, ht, l⟩) (fun f s1 q => ?_) fun e s' hx => ?_)
  · cases f with
    | next => exact wpAny_execs_nil q
    | ret v => exact q
    | brk => exact q
    | cont => exact q
  · obtain ⟨a, T, C, H1, s1, σ1, H', τ1, G1, rfl, I1, F1, os, bare, tl, rs1, rg1, th, hc, hx⟩ := hx
    have I' := F1.inv I1 os bare
    obtain ⟨a0, tr⟩ := F1.traced
    refine wpAny_noteFrame_onW (base := PySem.W.hideAll s'.heap (a :: T :: frs X.stack)) (outer := X.outer) (by rw [← hst]; exact I'.ok.frames) (by rw [← hst]; exact funs_hid I'.stack fun b z => .tail _ (.tail _ z)) hfr tr (fun b o q => PySem.W.of_hideAll _ q) (PySem.W.hideAll_none _ (.head _)) fun h2 N2 => ?_
    obtain ⟨k1, _, k3, k4⟩ := N2
    obtain ⟨T2, F2⟩ := F1.move I'.frmem k1 k3 k4
    refine Fl.lands (s := { s' with heap := h2 }) F2 I1 os bare fun h3 T3 F3 => ?_
    exact hh _ hc pins s1 σ1 H1 { s' with heap := h3 } H' a T3 D I1 F3 os bare ⟨τ1, G1, d, rs1, rg1, hx, l.mono tl⟩
theorem qhs_nil {hs : List ExceptHandler} : ∀ c : Addr × WS, c ∈ ([] : List (Addr × WS)) → QH X c.1 hs c.2 := fun _ h => nomatch h
theorem qhs_cons {hs : List ExceptHandler} {C : Addr} {th : WS} {cs : List (Addr × WS)} (h1 : QH X C hs th) (h2 : ∀ c : Addr × WS, c ∈ cs → QH X c.1 hs c.2) : ∀ c : Addr × WS, c ∈ (C, th) :: cs → QH X c.1 hs c.2 := fun c h => by
  rcases List.mem_cons.mp h with z | z
  · rw [z]; exact h1
  · exact h2 c z
end
end L2
namespace L2
open PySem PySem.Spec PyProof.Rows
section
variable {prog : Program} {w : World} {A : Around} {E : Value → Shared → Prop} {s : Shared}
end
noncomputable def jRev (ta : WA) : WI := fun τ G r => ta τ G fun ws G1 => match ws with
  | [.tup xs] => r xs.reverse (fun _ => True) G1
  | _ => False
end L2
namespace L2
open PySem PySem.Spec PyProof.Rows
noncomputable def enumW : Nat → List W → List W
  | _, [] => []
  | i, x :: xs => .tup [.int (i : Int), x] :: enumW (i + 1) xs
section
variable {prog : Program} {w : World} {A : Around} {E : Value → Shared → Prop} {s : Shared}
end
noncomputable def jEnum (ta : WA) : WI := fun τ G r => ta τ G fun ws G1 => match ws with
  | [.tup xs] => r (enumW 0 xs) (fun _ => True) G1
  | _ => False
end L2
namespace L2
open PySem PySem.Spec PyProof.Rows
mutual
noncomputable def W.ge : W → W → Bool
  | .int i, .int j => decide (i ≥ j)
  | .tup xs, .tup ys => W.ges xs ys
  | _, _ => false
noncomputable def W.ges : List W → List W → Bool
  | [], [] => true
  | [], _ :: _ => false
  | _ :: _, [] => true
  | x :: xs, y :: ys => if W.eq x y = true then W.ges xs ys else W.ge x y
end
noncomputable def GeAt (A : Around) (s : Shared) (y x : Value) (b : Bool) : Prop :=
  ∀ (prog : Program) (w : World) (E : Value → Shared → Prop) (Q : Value → Shared → Prop), Q (.bool b) s → wpAny (model prog w) A (richCompare .GtE y x) Q E s
inductive CmpG (A : Around) (s : Shared) : List Value → List Value → Bool → Prop where
  | nn : CmpG A s [] [] true
  | nc {y : Value} {ys : List Value} : CmpG A s [] (y :: ys) false
  | cn {x : Value} {xs : List Value} : CmpG A s (x :: xs) [] true
  | eq {x y : Value} {xs ys : List Value} {r : Bool} (h : SeqAt.EqAt A s x y true) (t : CmpG A s xs ys r) : CmpG A s (x :: xs) (y :: ys) r
  | ne {x y : Value} {xs ys : List Value} {r : Bool} (h : SeqAt.EqAt A s x y false) (t : GeAt A s x y r) : CmpG A s (x :: xs) (y :: ys) r
section
open PySem.SeqAt
open PySem.AutoSeq1 (wpAny_loadPart')
open PySem.MeetsSeq PySem.MeetsSeq2 PySem.MeetsSeq3
end
section
variable {X : Cx} {pins : List (Addr × Obj)} {σ : St} {H : Hp} {s : Shared}
end
section
variable {X : Cx}
noncomputable def rGe3 : W2 := fun x y G q => match x, y with
  | .int i, .int j => q (.bl (decide (i ≥ j))) G
  | .tup xs, .tup ys => W.flats xs = true ∧ W.flats ys = true ∧ W.deps xs ≤ 149 ∧ W.ords xs ys = true ∧ q (.bl (W.ges xs ys)) G
  | _, _ => False
end
section
variable {X : Cx}
noncomputable def wExt (to te : WE) : WE := fun τ G q => to τ G fun x G1 => match x with
  | .ref a => (∃ xs, G1 a = some (.lst xs)) ∧ te τ G1 fun y G2 => match y with
    | .ref b => ∃ ys zs, G2 a = some (.lst ys) ∧ G2 b = some (.lst zs) ∧ ys.length + zs.length ≤ 100000 ∧ q .non (updG G2 a (.lst (ys ++ zs)))
    | _ => False
  | _ => False
end
end L2
namespace L2
open PySem PySem.Spec PyProof.Rows
section
variable {prog : Program} {w : World} {A : Around} {E : Value → Shared → Prop} {h : Heap} {g : Array GenState} {d : Drawn} {t : Nat} {os : OsState} {a C : Addr} {o : Obj} {K : PySem.W.Frag} {bm : List Value}
theorem class_get_x {R : Result → Shared → Prop} (X : K.In h) (hC : XC K C bm) (hx : h.get? a = some o) (hc : o.cls = .ref C) (hq : R (.ok (.ret (.ref C))) ⟨h, g, d, t, os⟩) :
    codeAny (model prog w) A (.call (.builtin "getset_descriptor.__get__") ⟨[.builtin "object.__class__", .ref a, .ref C], []⟩) R ⟨h, g, d, t, os⟩ := by
  have hT5 : (⟨h, g, d, t, os⟩ : Shared).TypeIs (.builtin "object.__class__") "getset_descriptor" := F.typeOf_object_class
  have hcB : (Value.ref C :: bm).contains (.type (".".intercalate ("object.__class__".cutAt '.').dropLast)) = true := by
    rw [F.owner_object_class]; exact hC.has X rfl
  obtain ⟨N1, n1, q1, b1, d1, s1, u1, a1, c1, f1, g0, g1, g2, g3, g5, m1, gC, _, _, _⟩ := hC.obj h X
  refine codeAny_call_builtin F.slot_gs_get.plain F.entry_gs_get (F.slot_gs_get.check _ _ _ _ _ _ _ _ hT5 (F.args_gs_get _ _ _) ?_)
  repeat (any_goals (first | assumption | (with_reducible refine wpAny_loadPart_at hx ?_; rw [hc]) | (with_reducible refine wpAny_isSubtype_exc gC ?_; rw [hcB]) | wp_step))
  refine ⟨Code.quiet_builtin _ (by decide +kernel), codeAny_builtin F.entry_object_class ?_⟩
  repeat (any_goals (first | assumption | (with_reducible refine wpAny_loadPart_at hx ?_; rw [hc]) | wp_step))
theorem class_entry_x {tk : Tok} {Q : Fin → Shared → Prop} (X : K.In h) (hC : XC K C bm) (hQ : XQ K C) (hx : h.get? a = some o) (hc : o.cls = .ref C) (hq : Q (.done (.ret (.ref C))) ⟨h, g, d, t, os⟩) :
    wpAny (model prog w) A (Builtin.«object.__getattribute__» ⟨[.ref a, .str "__class__" tk], []⟩) Q E ⟨h, g, d, t, os⟩ := by
  have hT5 : (⟨h, g, d, t, os⟩ : Shared).TypeIs (.builtin "object.__class__") "getset_descriptor" := F.typeOf_object_class
  have f5 := F.typeOf_object_class
  have f6 := F.slot_gs_get.lookup
  have f7 := F.slot_gs_set.lookup
  have L1 := PySem.W.looks_findIn (M := model prog w) X hQ.gc
  repeat (any_goals (first | assumption | (with_reducible refine wpAny_loadPart_at hx ?_; rw [hc]) | with_reducible refine L1.at ?_ | wp_step))
  refine class_get_x X hC hx hc ?_
  repeat (any_goals (first | assumption | wp_step))
theorem check_ga_x {M : Model} {nameV : Value} {Q : Unit → Shared → Prop} (X : K.In h) (hC : XC K C bm) (hx : h.get? a = some o) (hc : o.cls = .ref C) (hq : Q () ⟨h, g, d, t, os⟩) : wpAny M A (checkBuiltinCall "BaseException.__getattribute__" ⟨[.ref a, nameV], []⟩) Q E ⟨h, g, d, t, os⟩ := by
  have hk : builtinKind "BaseException.__getattribute__" = some .slot := by decide +kernel
  have hsplit : splitId "BaseException.__getattribute__" = some ("BaseException", "__getattribute__") := by decide +kernel
  have hcB : (Value.ref C :: bm).contains (.type "BaseException") = true := hC.has X rfl
  have ha := F.args_bexc_ga (.ref a) nameV
  obtain ⟨N1, n1, q1, b1, d1, s1, u1, a1, c1, f1, g0, g1, g2, g3, g5, m1, gC, _, _, _⟩ := hC.obj h X
  simp only [checkBuiltinCall, hk, hsplit]
  refine wpAny_bind ?_
  · unfold isInstance
    repeat (first | (with_reducible refine wpAny_loadPart_at hx ?_; rw [hc]) | (with_reducible refine wpAny_isSubtype_exc gC ?_; rw [hcB]) | wp_step)
    exact hq
theorem class_call_x {tk : Tok} {R : Result → Shared → Prop} (X : K.In h) (hC : XC K C bm) (hQ : XQ K C) (hx : h.get? a = some o) (hc : o.cls = .ref C) (hq : R (.ok (.ret (.ref C))) ⟨h, g, d, t, os⟩) :
    codeAny (model prog w) A (.call (.builtin "BaseException.__getattribute__") ⟨[.ref a, .str "__class__" tk], []⟩) R ⟨h, g, d, t, os⟩ :=
  codeAny_call_builtin F.excAttr_ValueError.ga.plain F.entry_bexc_ga (check_ga_x X hC hx hc (class_entry_x X hC hQ hx hc hq))
theorem class_by_x {tk : Tok} {fill expr : Bool} {Q : Value → Shared → Prop} (X : K.In h) (hC : XC K C bm) (hQ : XQ K C) (hx : h.get? a = some o) (hc : o.cls = .ref C) (hq : Q (.ref C) ⟨h, g, d, t, os⟩) :
    wpAny (model prog w) A (getAttrBy (.ref a) (.str "__class__" tk) fill expr) Q E ⟨h, g, d, t, os⟩ := by
  have f3 := F.excAttr_ValueError.ga.bind (.ref a)
  have hx0 : (expr && onTheHeap (Value.builtin "BaseException.__getattribute__")) = false := by cases expr <;> rfl
  have hx2 : (Value.builtin "BaseException.__getattribute__" == Value.builtin "object.__getattribute__") = false := by decide +kernel
  have hx1 : (onTheHeap (Value.ref C) && Value.builtin "BaseException.__getattribute__" == Value.builtin "object.__getattribute__") = false := by rw [hx2]; rfl
  have L1 := PySem.W.looks_findIn (M := model prog w) X hQ.ga
  have L2 := PySem.W.looks_findIn (M := model prog w) X hQ.gx
  repeat (any_goals (first | assumption | (with_reducible refine wpAny_loadPart_at hx ?_; rw [hc]) | with_reducible refine L1.at ?_ | with_reducible refine L2.at ?_ | wp_step))
  refine class_call_x X hC hQ hx hc ?_
  repeat (any_goals (first | assumption | wp_step))
theorem class_attr_x {Q : Option Value → Shared → Prop} (X : K.In h) (hC : XC K C bm) (hQ : XQ K C) (hx : h.get? a = some o) (hc : o.cls = .ref C) (hq : Q (some (.ref C)) ⟨h, g, d, t + 1, os⟩) :
    wpAny (model prog w) A (getAttr? (.ref a) "__class__") Q E ⟨h, g, d, t, os⟩ := by
  unfold getAttr? getAttrBy?
  repeat (any_goals (first | assumption | with_reducible apply class_by_x X hC hQ hx hc | wp_step))
end
section
variable {prog : Program} {w : World} {A : Around} {E : Value → Shared → Prop} {s : Shared} {a C D : Addr} {o : Obj} {K : PySem.W.Frag} {bm : List Value}
theorem isx_no_nested {dep : Int} {tk : Tok} {Q : Fin → Shared → Prop} (X : K.In s.heap) (hC : XC K C bm) (hQ : XQ K C) (hE : XD K C) (hD : XD K D) (hs : PySem.W.mroIn K C (.ref D) = some false) (hne : C ≠ D) (hx : s.heap.get? a = some o) (hc : o.cls = .ref C)
    (h : Q (.done (.ret (.bool false))) { s with toks := s.toks + 1 }) :
    wpAny (model prog w) A (Builtin.«isinstance.nested» ⟨[.ref a, .ref D, .int dep tk], []⟩) Q E s := by
  obtain ⟨hh, g, d, tt, os⟩ := s
  have ht : PySem.W.Looks (model prog w) hh (typeOf (.ref a)) (.ref C) := hc ▸ (PySem.W.Looks.ld hx).andThen .now
  unfold Builtin.«isinstance.nested»
  refine wpAny_bind (ht.at ?_)
  rw [if_neg (fun q => by cases beq_iff_eq.mp q; exact hne rfl)]
  have L1 := PySem.W.looks_typeIn (M := model prog w) X hD.ty
  have L2 := PySem.W.looks_instIn (M := model prog w) X hD.ins
  have L4 : PySem.W.Looks (model prog w) hh (isSubtype (.ref C) (.ref D)) false := PySem.W.looks_subIn X hs
  have L3 : PySem.W.Looks (model prog w) hh (isInstance (.ref a) (.ref D)) false := ht.andThen L4
  refine wpAny_bind (L1.at ?_)
  rw [if_pos (by decide)]
  k_delta "plainIsInstance"
  obtain ⟨cd, e0⟩ := hD.cls
  obtain ⟨cd', e1⟩ := hE.cls
  have L5 := PySem.W.looks_typeIn (M := model prog w) X hE.ty
  have L6 := PySem.W.looks_instIn (M := model prog w) X hE.ins
  unfold isType
  repeat lk
  unfold PySem.W.clsIn at e0 e1
  split at e0
  · rename_i ho
    split at e1
    · rename_i ho1
      refine PySem.W.nd_load (X _ _ ho) (PySem.W.nd_pure (wpAny_pure ?_))
      simp only [Bool.not_true, Bool.false_eq_true, if_false]
      refine wpAny_bind (L3.at ?_)
      simp only [Bool.false_eq_true, if_false]
      refine wpAny_bind (class_attr_x X hC hQ hx hc ?_)
      dsimp only
      refine wpAny_bind ?_
      refine PySem.W.nd_load (X _ _ ho1) (PySem.W.nd_pure ?_)
      simp only [Bool.not_true, Bool.false_eq_true, if_false]
      refine wpAny_bind (wpAny_rule ?_)
      refine L4.at ?_
      exact wpAny_pure h
    · cases e1
  · cases e0
theorem isx_no_call {Q : Value → Shared → Prop} (X : K.In s.heap) (hC : XC K C bm) (hQ : XQ K C) (hE : XD K C) (hD : XD K D) (hs : PySem.W.mroIn K C (.ref D) = some false) (hne : C ≠ D) (hx : s.heap.get? a = some o) (hc : o.cls = .ref C)
    (h : Q (.bool false) { s with toks := s.toks + 1 }) : wpAny (model prog w) A (call (.builtin "isinstance") [.ref a, .ref D]) Q E s :=
  call_isinstance (S := fun _ R s => (K.In s.heap ∧ s.heap.get? a = some o) ∧ R (.ok (.ret (.bool false))) { s with toks := s.toks + 1 })
    (fun _ _ _ _ _ hs1 => isinstance_outer (isx_no_nested hs1.1.1 hC hQ hE hD hs hne hs1.1.2 hc hs1.2) (fun z => nomatch z)) ⟨⟨X, hx⟩, h⟩
end
theorem ne_of_mro {K : PySem.W.Frag} {C D : Addr} {bm : List Value} (hC : XC K C bm) (hs : PySem.W.mroIn K C (.ref D) = some false) : C ≠ D := fun z => by
  subst z
  rw [hC.self] at hs; cases hs
section
variable {X : Cx} {a : Addr} {oe : Obj} {C D : Addr} {bm : List Value}
noncomputable def wIsn (i : Nat) (a : Addr) : WE := fun τ G q => τ[i]? = some (some (.ref a)) ∧ q (.bl false) G
end
end L2
namespace L2
open PySem PySem.Spec PyProof.Rows
theorem RFn.calm {P : Program} {w : World} {K : PySem.W.Frag} {mg : Str → Option Value} {base : Heap} {k : Nat} {f : Addr} {fd : FuncData} {ps : List Str} {sp sp' : WSp} (F : RFn P w K mg base k f fd ps sp) (h : ∀ ws G q e, sp' ws G q e → sp ws G q fun _ _ => False) : WFn P w K mg base k f fd ps sp' := by
  refine ⟨fun vs H Q E ⟨ws, G, q, e, r, g, z, hQ, _⟩ => F.len vs H Q (fun _ _ _ => False) ⟨ws, G, q, fun _ _ => False, r, g, h _ _ _ _ z, hQ, fun _ _ _ _ _ _ z => z.elim⟩, fun A outer s H args us vs Q E hr he hb hv ⟨ws, G, q, e, r, g, z, hQ, _⟩ => ?_⟩
  refine codeAny_mono (F.run A outer s H args us vs Q (fun _ _ _ => False) hr he hb hv ⟨ws, G, q, fun _ _ => False, r, g, h _ _ _ _ z, hQ, fun _ _ _ _ _ _ z => z.elim⟩) fun r s' hq => ?_
  cases r with
  | ok fl =>
    cases fl with
    | ret u => exact hq
    | next => exact hq
    | brk => exact hq
    | cont => exact hq
  | error e =>
    obtain ⟨a, T, C, H', _, _, _, _, z⟩ := hq
    exact z.elim
end L2
namespace L2
open PySem PySem.Spec PyProof.Rows
noncomputable def jEnumL (ta : WA) : WI := fun τ G r => ta τ G fun ws G1 => match ws with
  | [.ref a] => ∃ l, G1 a = some (.lst l) ∧ r (enumW 0 l) (fun G => G a = some (.lst l)) G1
  | _ => False
end L2
set_option maxRecDepth 100000
namespace L2
open PySem PySem.Spec PyProof.Rows
section
variable {prog : Program} {w : World} {A : Around} {E : Value → Shared → Prop} {s : Shared} {I l : Addr} {items : Array Value}
end
section
variable {X : Cx}
noncomputable def wTupRvT (te : WE) : WE := fun τ G q => te τ G fun x G1 => match x with
  | .tup ws => q (.tup ws.reverse) G1
  | _ => False
end
end L2
namespace L2
open PySem PySem.Spec PyProof.Rows
section
variable {X : Cx}
noncomputable def rIsA (neg : Bool) : W2 := fun x y G q => match y with
  | .non => q (.bl (neg ^^ isNon x)) G
  | .bl b => match x with
    | .bl a => q (.bl (neg ^^ (a == b))) G
    | _ => False
  | _ => False
end
end L2
set_option maxRecDepth 100000
namespace L2
open PySem PySem.Spec PyProof.Rows
noncomputable abbrev Cx.xmq (X : Cx) (a : Addr) : Cx := { X with A := X.A.mark (some (.ref a)), calm := false, xe := fun _ _ => False }
noncomputable abbrev exO (a C : Addr) : HO := .ext fun h => ∃ o, h.get? a = some o ∧ o.cls = .ref C
section
variable {X : Cx} {pins : List (Addr × Obj)} {σ : St} {H0 H : Hp} {s0 s : Shared} {a T C D : Addr}
theorem Inv.takeX (I0 : Inv X pins σ H0 s0) (F : Fl X.prog X.w (frs X.stack) H0 H s0.heap s.heap a T (.ref C) .none) (os : s.os = s0.os) (bare : AllBare s.gens) :
    Inv (X.xmq a) pins σ (upd H a (exO a C)) s := by
  have I := F.inv I0 os bare
  obtain ⟨oe, e1, e2, e3, e4, e5, e6⟩ := F.there I0
  have ne : ∀ b o, X.s₀.heap.get? b = some o → b ∉ X.ex → b ≠ a := fun b o q hx z => by
    obtain ⟨o', e'⟩ := I0.base.there b o q hx
    rw [z, F.na] at e'; cases e'
  have nh : ∀ b u, H b = some u → b ≠ a := fun b u q z => by rw [z, e3] at q; cases q
  refine ⟨⟨I.ok.mod, I.ok.kind, I.ok.glob, I.ok.blt, I.ok.above, I.ok.inj, I.ok.has, I.ok.cab, fun z => (Bool.false_ne_true z).elim, I.ok.frames, I.ok.stk, I.ok.exf, I.ok.bs, I.ok.bsz, I.ok.noex, I.ok.exfs, I.ok.funs, I.ok.frf⟩, I.os, I.bare,
    ⟨I.base.keep, I.base.slot, fun b o q n hx => ?_, I.base.there, fun b xs q => ?_, fun b o u q => ?_, fun b ps q => ?_⟩, I.loc, I.cell, ?_, fun x c q => ?_, fun p hp => ?_, fun b u q => ?_, I.len⟩
  · rw [upd_ne (ne b o q hx)]
    exact I.base.free b o q n hx
  · have := I.base.tups b xs q
    rw [upd_ne (nh b _ this)]; exact this
  · have := I.base.frzs b o u q
    rw [upd_ne (nh b _ this)]; exact this
  · obtain ⟨m, this⟩ := I.base.tbls b ps q
    exact ⟨m, by rw [upd_ne (nh b _ this)]; exact this⟩
  · rw [upd_ne (Ne.symm e4)]; exact I.free
  · have hc : c ≠ a := fun z => by
      obtain ⟨v, o, h1, h2⟩ := I.cell x c q
      rw [z, e1] at h1; cases h1
      exact e6 _ h2
    rw [upd_ne hc]; exact I.freeC x c q
  · obtain ⟨p1, p2, p3, p4, p5⟩ := I.pin p hp
    have hp0 := (I0.pin p hp).1
    have hne : p.1 ≠ a := fun z => by rw [z, F.na] at hp0; cases hp0
    exact ⟨p1, by rw [upd_ne hne]; exact p2, p3, p4, p5⟩
  · by_cases hb : b = a
    · subst hb
      rw [upd_same] at q; cases q
      exact ⟨⟨oe, e1, e2⟩, ⟨oe, e1⟩, fun h1 h2 ⟨o, z1, z2⟩ k => ⟨o, k o z1, z2⟩⟩
    · rw [upd_ne hb] at q
      exact (I.hok b u q).stay (fun _ _ _ z => z) (fun x z => by rw [upd_ne (nh x _ z)]; exact z) fun x xs z => by rw [upd_ne (nh x _ z)]; exact z
theorem Inv.unq (I : Inv (X.xmq a) pins σ H s) (hh : X.calm = true → X.A.handled = none) : Inv X pins σ H s :=
  ⟨⟨I.ok.mod, I.ok.kind, I.ok.glob, I.ok.blt, I.ok.above, I.ok.inj, I.ok.has, I.ok.cab, hh, I.ok.frames, I.ok.stk, I.ok.exf, I.ok.bs, I.ok.bsz, I.ok.noex, I.ok.exfs, I.ok.funs, I.ok.frf⟩, I.os, I.bare, I.base, I.loc, I.cell, I.free, I.freeC, I.pin, I.hok, I.len⟩
theorem SP.unq {D : Ends} {f : Flow} {s' : Shared} (h : SP (X.xmq a) pins D f s') (hh : X.calm = true → X.A.handled = none) : SP X pins D f s' := by
  cases f with
  | next => obtain ⟨σ', H', I, q⟩ := h; exact ⟨σ', H', I.unq hh, q⟩
  | brk => obtain ⟨σ', H', I, q⟩ := h; exact ⟨σ', H', I.unq hh, q⟩
  | cont => obtain ⟨σ', H', I, q⟩ := h; exact ⟨σ', H', I.unq hh, q⟩
  | ret u => obtain ⟨v, σ', H', I, r, q⟩ := h; exact ⟨v, σ', H', I.unq hh, r, q⟩
noncomputable def wAsG (i : Nat) (C : Addr) (ts : WS) : WS := fun d τ G => ∀ a, G a = none → ts { nx := fun τ1 G1 => d.nx (τ1.set i none) G1, rt := d.rt, bk := fun τ1 G1 => d.bk (τ1.set i none) G1, ct := fun τ1 G1 => d.ct (τ1.set i none) G1 } (τ.set i (some (.ref a))) (updG G a (.exc C))
variable {bm bmD : List Value} {x : Str} {p pos : Pos} {name : Option Str} {body : List Stmt} {rest : List ExceptHandler} {b0 : Stmt} {th : WS}
theorem qh_asG (i : Nat) {n : Str} {ts : WS} (hm : X.mg x = some (.ref D)) (hg : Gl X x) (hO : XO X.K C) (hD : XC X.K D bmD) (hs : PySem.W.mroIn X.K C (.ref D) = some true) (hN : X.N.Nodup) (hi : X.N[i]? = some n) (hl : X.env.scope.names.lookup n = some .local)
    (hb : ∀ a, QSs (X.xmq a) (b0 :: body) ts) (hd : (x == ("__debug__" : Str)) = false := by decide) :
    QH X C (.ExceptHandler (some (.Name x p)) (some n) (b0 :: body) pos :: rest) (wAsG i C ts) := by
  intro pins s0 σ H0 s H a T D' I0 F os bare ⟨τ, G, d, rs, rg, ht, l⟩
  have I := F.inv I0 os bare
  obtain ⟨bm, hC⟩ := hO.c
  obtain ⟨oe, e1, e2, e3, e4, e5, e6⟩ := F.there I0
  refine wpAny_handleBy_cons (codeAny_handlers_test (ld_glob (X := X.xmk a oe) (I.xmk e1 e3 e4 e5 e6) hg hm ?_ hd)) (by intro q; cases q)
  refine exc_match I.kIn hC hD e1 e2 hs ?_
  refine codeAny_handlers_suite_as (F.lands I0 os bare fun h' T' F' => ?_)
  obtain ⟨oe', q1, q2, q3, q4, q5, q6⟩ := Fl.there (s := { s with heap := h' }) F' I0
  have J := Inv.takeX (s := { s with heap := h' }) I0 F' os bare
  have tl : TLe H (upd H a (exO a C)) := TLe.new q3 _
  refine store_ok (X := X.xmq a) (v := .ref a) J hN hi (.inl hl) rfl (fun s3 I3 => ?_) (.inr hl)
  have rs' : RelSt X.K (upd H a (exO a C)) (τ.set i (some (.ref a))) (σ.set i (some (.ref a))) := (rs.mono tl).set (.ref a) i
  have rg' : RelG X.K (upd H a (exO a C)) (updG G a (.exc C)) := rg.lay tl ⟨hO, upd_same⟩
  refine wpAny_mono (hb a pins s3 _ _ { nx := fun σ1 H1 => D'.nx (σ1.set i none) H1, rt := D'.rt, bk := fun σ1 H1 => D'.bk (σ1.set i none) H1, ct := fun σ1 H1 => D'.ct (σ1.set i none) H1 } I3
    ⟨_, _, _, rs', rg', ht a (rg.fresh q3), ⟨fun σ1 H1 τ1 G1 t1 r1 g1 z => l.nx _ H1 _ G1 (tl.trans t1) (r1.drop i) g1 z, fun v H1 w G1 t1 => l.rt v H1 w G1 (tl.trans t1), fun σ1 H1 τ1 G1 t1 r1 g1 z => l.bk _ H1 _ G1 (tl.trans t1) (r1.drop i) g1 z, fun σ1 H1 τ1 G1 t1 r1 g1 z => l.ct _ H1 _ G1 (tl.trans t1) (r1.drop i) g1 z⟩⟩) (fun f s2 z => ?_) fun _ _ z => z.elim
  have z2 := z.unq I0.ok.hd
  cases f with
  | next => obtain ⟨σ', H', I2, q⟩ := z2; exact unbind_ok I2 hN hi hl fun s' I4 => ⟨_, H', I4, q⟩
  | brk => obtain ⟨σ', H', I2, q⟩ := z2; exact unbind_ok I2 hN hi hl fun s' I4 => ⟨_, H', I4, q⟩
  | cont => obtain ⟨σ', H', I2, q⟩ := z2; exact unbind_ok I2 hN hi hl fun s' I4 => ⟨_, H', I4, q⟩
  | ret u => obtain ⟨v, σ', H', I2, r, q⟩ := z2; exact unbind_ok I2 hN hi hl fun s' I4 => ⟨v, _, H', I4, r, q⟩
theorem Inv.excAt (I : Inv X pins σ H s) (e : H a = some (exO a C)) : ∃ o, s.heap.get? a = some o ∧ o.cls = .ref C := (I.hok a _ e).1
theorem Inv.excTyG (I : Inv X pins σ H s) (e : H a = some (exO a C)) (M : Model) : PySem.W.Looks M s.heap (typeOf (.ref a)) (.ref C) := by
  obtain ⟨o, e, hc⟩ := I.excAt e
  exact hc ▸ (PySem.W.Looks.ld e).andThen .now
noncomputable def wIsE (K : PySem.W.Frag) (i : Nat) (D : Addr) : WE := fun τ G q => ∃ a C b, τ[i]? = some (some (.ref a)) ∧ G a = some (.exc C) ∧ PySem.W.mroIn K C (.ref D) = some b ∧ q (.bl b) G
theorem isIn_of {K : PySem.W.Frag} {C D : Addr} (hD : XD K D) (h : PySem.W.mroIn K C (.ref D) = some true) : PySem.W.isIn K (.ref C) D = true := by
  unfold PySem.W.isIn
  obtain ⟨cd, e⟩ := hD.cls
  have hs : PySem.W.subIn K (.ref C) (.ref D) = some true := h
  rw [e, hD.ty, hD.ins, hs]
  simp
theorem qe_isE {i : Nat} {n y : Str} {p p1 p2 pos : Pos} (hi : X.N[i]? = some n) (hv : Vis X.env.scope n) (hym : X.mg y = some (.ref D)) (hD : XD X.K D) (hgy : Gl X y)
    (hm1 : X.mg "isinstance" = none) (hg1 : Gl X "isinstance") (hdy : (y == ("__debug__" : Str)) = false := by decide) (hd : (n == ("__debug__" : Str)) = false := by decide) (hcd : (n == ("__classdict__" : Str)) = false := by decide)
    (hs1 : starEach [.Name n p1, .Name y p2] X.env = (false, eval (.Name n p1) X.env) :: starEach [.Name y p2] X.env := by rfl) (hs2 : starEach [.Name y p2] X.env = (false, eval (.Name y p2) X.env) :: starEach [] X.env := by rfl)
    (hpl : (backTo pos (starEach [.Name y p2] X.env)).any (·.1) = false := by rfl) : QE X (.Call (.Name "isinstance" p) [.Name n p1, .Name y p2] [] pos) (wIsE X.K i D) := by
  have hv1 : PE X (.Name n p1) (tVar i) := pe_var hi hv hd hcd
  have ha : PA X [.Name n p1, .Name y p2] (tCons (tVar i) (tCons (tC (.ref D)) tNil)) := pa_cons hv1 (pa_cons (pe_glob hgy hym rfl hdy) pa_nil hs2) hs1
  have hCR : CallR X (.builtin "isinstance") (fun vs H Q => ∃ a C b, vs = [.ref a, .ref D] ∧ XO X.K C ∧ H a = some (exO a C) ∧ PySem.W.mroIn X.K C (.ref D) = some b ∧ Q (.bl b) H) := by
    intro pins s σ H xs us Q I r ⟨a, C, b, e1, hO, hH, hb, q⟩
    subst e1
    obtain ⟨u, u2, rfl, ru, ru2⟩ := vals2' r
    cases (show u = Value.ref a from ru)
    cases (show u2 = Value.ref D from ru2)
    obtain ⟨bm, hC⟩ := hO.c
    cases b with
    | true => exact PySem.W.isi_call I.kIn (I.excTyG hH) (isIn_of hD hb) (fun z => nomatch z) ⟨.bl true, H, I, rfl, q⟩
    | false =>
      obtain ⟨o, e, hc⟩ := I.excAt hH
      exact isx_no_call I.kIn hC hO.q hO.d hD hb (ne_of_mro hC hb) e hc ⟨.bl false, H, I.tok _, rfl, q⟩
  exact (pe_callB hCR hg1 hm1 boot_isi ha (by decide) (by decide) hs1 hpl).imp fun σ H Q ⟨τ, G, q, hs, hg, ⟨a, C, b, ht, hG, hb, hq⟩, hQ⟩ => by
    obtain ⟨v, e1, r⟩ := hs.2 i _ ht
    cases r
    obtain ⟨hO, hH⟩ := hg a _ hG
    exact ⟨_, e1, a, C, b, rfl, hO, hH, hb, hQ _ H _ G (TLe.refl H) (.bl b) hg hq⟩
noncomputable def wIsV (i : Nat) : WE := fun τ G q => ∃ a C, τ[i]? = some (some (.ref a)) ∧ G a = some (.exc C) ∧ q (.bl true) G
theorem qe_isV {T : String} {i : Nat} {n y : Str} {p p1 p2 pos : Pos} (hi : X.N[i]? = some n) (hv : Vis X.env.scope n) (hT : bmV.contains (.type T) = true) (hkm : PySem.W.kitMeta T = true) (hyb : bootBuiltins y = some (.type T)) (hym : X.mg y = none) (hgy : Gl X y)
    (hm1 : X.mg "isinstance" = none) (hg1 : Gl X "isinstance") (hn : y ≠ "__name__" := by decide) (hdy : (y == ("__debug__" : Str)) = false := by decide) (hd : (n == ("__debug__" : Str)) = false := by decide) (hcd : (n == ("__classdict__" : Str)) = false := by decide)
    (hs1 : starEach [.Name n p1, .Name y p2] X.env = (false, eval (.Name n p1) X.env) :: starEach [.Name y p2] X.env := by rfl) (hs2 : starEach [.Name y p2] X.env = (false, eval (.Name y p2) X.env) :: starEach [] X.env := by rfl)
    (hpl : (backTo pos (starEach [.Name y p2] X.env)).any (·.1) = false := by rfl) : QE X (.Call (.Name "isinstance" p) [.Name n p1, .Name y p2] [] pos) (wIsV i) := by
  have hv1 : PE X (.Name n p1) (tVar i) := pe_var hi hv hd hcd
  have ha : PA X [.Name n p1, .Name y p2] (tCons (tVar i) (tCons (tC (.ty T)) tNil)) := pa_cons hv1 (pa_cons (pe_bltn hgy hym hyb rfl hn hdy) pa_nil hs2) hs1
  have hCR : CallR X (.builtin "isinstance") (fun vs H Q => ∃ a C, vs = [.ref a, .ty T] ∧ XO X.K C ∧ H a = some (exO a C) ∧ Q (.bl true) H) := by
    intro pins s σ H xs us Q I r ⟨a, C, e1, hO, hH, q⟩
    subst e1
    obtain ⟨u, u2, rfl, ru, ru2⟩ := vals2' r
    cases (show u = Value.ref a from ru)
    cases (show u2 = Value.type T from ru2)
    obtain ⟨bm, hC⟩ := hO.c
    exact isi_type I.kIn (I.excTyG hH) hkm rfl (by show PySem.W.mroIn X.K C _ = _; rw [hC.mro, hC.has I.kIn hT]) (fun z => nomatch z) ⟨.bl true, H, I, rfl, q⟩
  exact (pe_callB hCR hg1 hm1 boot_isi ha (by decide) (by decide) hs1 hpl).imp fun σ H Q ⟨τ, G, q, hs, hg, ⟨a, C, ht, hG, hq⟩, hQ⟩ => by
    obtain ⟨v, e1, r⟩ := hs.2 i _ ht
    cases r
    obtain ⟨hO, hH⟩ := hg a _ hG
    exact ⟨_, e1, a, C, rfl, hO, hH, hQ _ H _ G (TLe.refl H) (.bl true) hg hq⟩
noncomputable def cAny : List W → Gp → WK → Prop := fun ws G q => match ws with
  | [.ref a] => ∃ bs : List Bool, G a = some (.lst (bs.map W.bl)) ∧ q (.bl (bs.any id)) G
  | _ => False
end
end L2
set_option maxRecDepth 100000
namespace L2
open PySem PySem.Spec PyProof.Rows
structure RoomN (k : Nat) (A : Around) : Prop where
  dp : A.depth + 3 * k + 5 < recursionLimit
  un : A.units + 16 * k + 200 < cLine
theorem Room.n {k : Nat} {A : Around} (r : Room k A) : RoomN k A := ⟨r.dp, r.un⟩
theorem RoomN.mark {k : Nat} {A : Around} {v : Option Value} (r : RoomN k A) : RoomN k (A.mark v) := ⟨r.dp, r.un⟩
theorem RoomN.mono {j k : Nat} {A : Around} (r : RoomN k A) (h : j ≤ k) : RoomN j A := ⟨by have := r.dp; (clear r; omega), by have := r.un; (clear r; omega)⟩
theorem RoomN.deeper {k : Nat} {A : Around} (r : RoomN (k + 1) A) (env : Env) : RoomN k (A.deeper env) :=
  ⟨by have := r.dp; show A.depth + 1 + 3 * k + 5 < _; (clear r; omega), by have := r.un; show A.units + 3 + 16 * k + 200 < _; (clear r; omega)⟩
noncomputable abbrev Cx.wild (X : Cx) : Cx := { X with calm := false }
structure FnN (P : Program) (w : World) (K : PySem.W.Frag) (mg : Str → Option Value) (base : Heap) (CX : CXT) (k : Nat) (f : Addr) (fd : FuncData) (ps : List Str) (sp : Sp) : Prop where
  len : ∀ vs H Q E, sp vs H Q E → vs.length = ps.length
  run : ∀ (A : Around) (outer : List Env) (s : Shared) (H : Hp) (args : Args) (us : List Value) (vs : List V) (Q : VK) (E : XK), RoomN k A → Env0 P w K mg base A outer s H → BindsTo s fd args (ps.zip us) → Vals vs us → sp vs H Q E →
    codeAny (model P w) A (.call (.ref f) args) (CR CX outer P w H s Q E) s
theorem fn_ofN {CX : CXT} {P : Program} {w : World} {K : PySem.W.Frag} {mg : Str → Option Value} {base : Heap} {k : Nat} {f : Addr} {name qual : Str} {params : Arguments} {body : List Stmt} {scope : Scope} {dV kV doc pm cdv ct oc : Value} {an od : Option Addr}
    {osl : Array (Option Value)} {N ps : List Str} {sp : Sp} (lk : K.lookup f = some ⟨oc, od, .func (PySem.W.fnOf name qual params body scope dV kV doc pm an cdv ct), osl⟩) (hcd : PySem.W.codeIn K cdv qual = true) (S : FnScope N ps scope)
    (len : ∀ vs H Q E, sp vs H Q E → vs.length = ps.length)
    (hbody : ∀ (A : Around) (outer : List Env) (s : Shared) (H : Hp) (vs : List V) (Q : VK) (E : XK), RoomN k (A.deeper (envOfC qual scope s.heap.objs.size f cdv)) → sp vs H Q E →
      ∃ t, PSs (cxOf CX P w K mg base N qual scope f cdv A outer s H E).wild body t ∧ t { nx := fun _ H' => Q .non H', rt := Q } (start N vs) H) :
    FnN P w K mg base CX (k + 1) f (PySem.W.fnOf name qual params body scope dV kV doc pm an cdv ct) ps sp := by
  refine ⟨len, fun A outer s H args us vs Q E hr e0 hb r hsp => ?_⟩
  have hl := len _ _ _ _ hsp
  have KX : K.In s.heap := e0.mod.kin.keeps fun b o e => (e0.bs b o e).1
  have lim : s.heap.NoLimit := e0.mod.nolimit.keeps fun b o e => (e0.bs b o e).1
  have hkind : ∀ y ∈ ps.zip us, scope.names.lookup y.1 = some .local ∨ (scope.names.lookup y.1 = some .cell ∧ ((cellsFrom (s.heap.objs.size + 1) scope.names []).lookup y.1).isSome = true) := fun ⟨n, v⟩ hy => by
    rcases S.par n (List.of_mem_zip hy).1 with q | q
    · exact .inl q
    · exact .inr ⟨q, PySem.W.cellsFrom_some _ _ _ (.inl q)⟩
  refine codeAny_call_function (by have := hr.dp; (clear lk hcd S len hbody hr e0 hb r hsp hl KX lim hkind; omega)) (KX _ _ lk) rfl S.co S.gen rfl (PySem.W.codeRec_of KX hcd) (hb _ _ _ _ ?_)
  refine wpAny_newFunctionEnv_cells S.kind hkind fun env he s1 x => ?_
  subst he
  refine ⟨lim.keeps x.toInCall.keep, codeAny_func ?_⟩
  obtain ⟨t, ht, hq⟩ := hbody A outer s H vs Q E (hr.deeper _) hsp
  have I0 : Inv (cxOf CX P w K mg base N qual scope f cdv { A with handled := none } outer s H E) [] (start N vs) H s1 := inv_start S rfl ⟨e0.frames, e0.mod, e0.bs, e0.bsz, e0.funs, e0.frf, e0.hok, e0.bare⟩ hl r x
  have I : Inv (cxOf CX P w K mg base N qual scope f cdv A outer s H E).wild [] (start N vs) H s1 :=
    ⟨⟨I0.ok.mod, I0.ok.kind, I0.ok.glob, I0.ok.blt, I0.ok.above, I0.ok.inj, I0.ok.has, I0.ok.cab, fun z => (Bool.false_ne_true z).elim, I0.ok.frames, I0.ok.stk, I0.ok.exf, I0.ok.bs, I0.ok.bsz, I0.ok.noex, I0.ok.exfs, I0.ok.funs, I0.ok.frf⟩, I0.os, I0.bare, I0.base, I0.loc, I0.cell, I0.free, I0.freeC, I0.pin, I0.hok, I0.len⟩
  refine wpAny_mono (ht [] s1 (start N vs) H _ I hq) (fun fl s' hs => ?_) fun e s' hs => hs
  have fin : ∀ {σ' : St} {H' : Hp} {v : V} {u : Value}, Inv (cxOf CX P w K mg base N qual scope f cdv A outer s H E).wild [] σ' H' s' → RelV v u → Q v H' → CE outer P w H s Q u s' :=
    fun {σ' H' v u} J rv q => ⟨v, H', J.os, J.bare, J.base, J.hok, rv, q⟩
  cases fl with
  | ret u =>
    obtain ⟨v, σ', H', J, rv, q⟩ := hs
    exact fin J rv q
  | next =>
    obtain ⟨σ', H', J, q⟩ := hs
    exact fin (v := V.non) (u := Value.none) J rfl q
  | brk =>
    obtain ⟨_, _, _, q⟩ := hs
    exact False.elim q
  | cont =>
    obtain ⟨_, _, _, q⟩ := hs
    exact False.elim q
noncomputable abbrev WFnN (P : Program) (w : World) (K : PySem.W.Frag) (mg : Str → Option Value) (base : Heap) (k : Nat) (f : Addr) (fd : FuncData) (ps : List Str) (sp : WSp) : Prop := FnN P w K mg base CX0 k f fd ps (LSp K sp)
theorem fn3N {P : Program} {w : World} {K : PySem.W.Frag} {mg : Str → Option Value} {base : Heap} {x qual : Str} {st : Stmt} {f : Addr} {fd : FuncData} {N ps : List Str} {k : Nat} {sp : WSp} (F : Fun K x qual st f fd) (S : FnScope N ps (defScope st)) (len : ∀ ws G q e, sp ws G q e → ws.length = ps.length)
    (hbody : ∀ (cdv : Value) (A : Around) (outer : List Env) (s : Shared) (H : Hp) (E : XK), RoomN k (A.deeper (envOfC qual (defScope st) s.heap.objs.size f cdv)) →
      ∃ t, QSs (cxOf CX0 P w K mg base N qual (defScope st) f cdv A outer s H E).wild.nox (defBody st) t ∧
        ∀ (ws : List W) (G : Gp) (q : WK) (e : WX), sp ws G q e → t { nx := fun _ G1 => ∃ G0, GLe G0 G1 ∧ q .non G0, rt := fun w G1 => ∃ G0, GLe G0 G1 ∧ q w G0 } (wStart N ws) G) : WFnN P w K mg base (k + 1) f fd ps sp := by
  obtain ⟨oc, od, kV, doc, pm, an, cdv, ct, osl, rfl, lk, hcd⟩ := F.ex
  refine fn_ofN lk hcd S (fun vs H Q E ⟨ws, G, q, e, r, g, z, _⟩ => by rw [← r.length]; exact len _ _ _ _ z) (fun A outer s H vs Q E hr ⟨ws, G, q, e, r, g, z, hQ, _⟩ => ?_)
  obtain ⟨t, ht, hq⟩ := hbody cdv A outer s H E hr
  have ht' : PSs (cxOf CX0 P w K mg base N qual (defScope st) f cdv A outer s H E).wild.nox (defBody st) (LS K t) := ht
  exact ⟨_, ht'.nox, _, G, _, RelSt.start r, g, hq ws G q e z, ⟨fun σ1 H1 τ1 G1 t1 s1 g1 ⟨G0, l, q1⟩ => hQ .non H1 .non G0 t1 .non (g1.le l) q1, fun v H1 w G1 t1 r1 g1 ⟨G0, l, q1⟩ => hQ v H1 w G0 t1 r1 (g1.le l) q1, fun _ _ _ _ _ _ _ z => z.elim, fun _ _ _ _ _ _ _ z => z.elim⟩⟩
noncomputable def FxN (P : Program) (w : World) (K : PySem.W.Frag) (mg : Str → Option Value) (base : Heap) (x : Str) (ps : List Str) (k : Nat) (sp : WSp) : Prop :=
  ∃ (f : Addr) (fd : FuncData), WFnN P w K mg base k f fd ps sp ∧ mg x = some (.ref f) ∧ PySem.W.keepIn K (.ref f) = true ∧ Binds K fd ps []
section
variable {X : Cx}
theorem qe_fxN {x : Str} {ps : List Str} {k : Nat} {sp : WSp} {p pos : Pos} {e : Expr} {es : List Expr} {t : WA} (F : FxN X.prog X.w X.K X.mg X.base x ps k sp) (hr : RoomN k X.A) (hg : Gl X x) (ha : QA X (e :: es) t) (hdb : (x == ("__debug__" : Str)) = false := by decide)
    (he : starEach (e :: es) X.env = (false, eval e X.env) :: starEach es X.env := by rfl) (hpl : (backTo pos (starEach es X.env)).any (·.1) = false := by rfl) : QE X (.Call (.Name x p) (e :: es) [] pos) (wCall sp [] t) := by
  obtain ⟨f, fd, F, hm, hk, hb⟩ := F
  intro pins s σ H Q I h
  refine wpAny_Call_Name_kw (ld_glob I hg hm ?_ hdb)
  refine PySem.W.callWith_K (h₀ := X.base) I.ok.mod.kin hk (thn (ha pos pins s σ H _ I (LEx.call (dvs := []) (E := fun _ _ _ => False) (fun _ => .nil) h)) fun us s1 ⟨vs, H1, I1, r, q⟩ => ⟨I1.kIn, ?_⟩) he hpl
  have r2 : Vals (vs ++ []) (us ++ []) := r.append .nil
  have hl : (us ++ []).length = ps.length := by rw [← r2.length]; exact F.len _ _ _ _ q
  refine wpAny_call (codeAny_mono (F.run X.A X.stack s1 H1 ⟨us, []⟩ (us ++ []) (vs ++ []) Q _ hr I1.env0 (hb s1 us I1.kIn hl) r2 q) fun r s' hq => ?_)
  cases r with
  | error e => exact False.elim hq
  | ok fl =>
    cases fl with
    | ret u => exact I1.after hq
    | next => exact False.elim hq
    | brk => exact False.elim hq
    | cont => exact False.elim hq
end
end L2
namespace L2
open PySem PySem.Spec PyProof.Rows
section
variable {P : Program} {w : World} {K : PySem.W.Frag} {mg : Str → Option Value} {base : Heap} {k : Nat} {f : Addr} {fd : FuncData} {ps : List Str} {sp sp' : WSp}
end
end L2
set_option maxRecDepth 100000
namespace L2
open PySem PySem.Spec PyProof.Rows
theorem TLe.ins {H : Hp} {p C dx : Addr} {fs : List (Str × V)} (hp : H p = some (.ins C dx fs)) (o : HO) : TLe H (upd H p o) :=
  ⟨fun _ _ h => by rw [upd_ne (ne_of h hp (by intro z; cases z))]; exact h, fun _ _ _ h => by rw [upd_ne (ne_of h hp (by intro z; cases z))]; exact h⟩
noncomputable def putW (f : Str) (v : W) : List (Str × W) → List (Str × W)
  | [] => [(f, v)]
  | (g, x) :: r => if g = f then (g, v) :: r else (g, x) :: putW f v r
section
variable {K : PySem.W.Frag} {H : Hp}
theorem flds_lookup {f : Str} {w : W} : ∀ {fs : List (Str × W)} {fs' : List (Str × V)}, fs'.map (·.1) = fs.map (·.1) → Reps K H (fs.map (·.2)) (fs'.map (·.2)) → fs.lookup f = some w → ∃ v, fs'.lookup f = some v ∧ Rep K H w v
  | [], _, _, _, e => by cases e
  | (g, x) :: r, [], n, _, _ => by cases n
  | (g, x) :: r, (g', x') :: r', n, rs, e => by
    rw [List.map_cons, List.map_cons, List.cons.injEq] at n
    obtain ⟨n1, n2⟩ := n
    have n1 : g' = g := n1
    subst n1
    cases rs with
    | cons r1 r2 =>
      rw [List.lookup_cons] at e ⊢
      cases h : f == g' with
      | true => rw [h] at e; cases e; exact ⟨x', rfl, r1⟩
      | false => rw [h] at e; exact flds_lookup n2 r2 e
theorem flds_none {f : Str} : ∀ {fs : List (Str × W)} {fs' : List (Str × V)}, fs'.map (·.1) = fs.map (·.1) → fs.lookup f = none → fs'.lookup f = none
  | [], [], _, _ => rfl
  | [], _ :: _, n, _ => by cases n
  | _ :: _, [], n, _ => by cases n
  | (g, x) :: r, (g', x') :: r', n, e => by
    rw [List.map_cons, List.map_cons, List.cons.injEq] at n
    obtain ⟨n1, n2⟩ := n
    have n1 : g' = g := n1
    subst n1
    rw [List.lookup_cons] at e ⊢
    cases h : f == g' with
    | true => rw [h] at e; cases e
    | false => rw [h] at e; exact flds_none n2 e
theorem flds_put {f : Str} {w : W} {v : V} (rv : Rep K H w v) : ∀ {fs : List (Str × W)} {fs' : List (Str × V)}, fs'.map (·.1) = fs.map (·.1) → Reps K H (fs.map (·.2)) (fs'.map (·.2)) → (putF f v fs').map (·.1) = (putW f w fs).map (·.1) ∧ Reps K H ((putW f w fs).map (·.2)) ((putF f v fs').map (·.2)) ∧ (putW f w fs).length ≤ fs.length + 1
  | [], [], _, _ => ⟨rfl, .cons rv .nil, Nat.le_refl _⟩
  | [], _ :: _, n, _ => by cases n
  | _ :: _, [], n, _ => by cases n
  | (g, x) :: r, (g', x') :: r', n, rs => by
    rw [List.map_cons, List.map_cons, List.cons.injEq] at n
    obtain ⟨n1, n2⟩ := n
    have n1 : g' = g := n1
    subst n1
    cases rs with
    | cons r1 r2 =>
      obtain ⟨a1, a2, a3⟩ := flds_put (f := f) rv n2 r2
      unfold putF putW
      by_cases h : g' = f
      · rw [if_pos h, if_pos h]
        refine ⟨?_, .cons rv r2, by simp⟩
        rw [List.map_cons, List.map_cons, n2]
      · rw [if_neg h, if_neg h]
        refine ⟨?_, .cons r1 a2, by simp; assumption⟩
        rw [List.map_cons, List.map_cons, a1]
end
section
variable {X : Cx}
noncomputable def wFld (K : PySem.W.Frag) (to : WE) (f : Str) : WE := fun τ G q => to τ G fun x G1 => ∃ a C fs v, x = .ref a ∧ G1 a = some (.ins C fs) ∧ (Cls K C ∧ NoAttr K C f) ∧ fs.lookup f = some v ∧ q v G1
theorem qe_fld {o : Expr} {to : WE} {f : Str} {pos : Pos} (ho : QE X o to) (hb : attributeBase o f X.env (eval o X.env) = eval o X.env := by rfl) : QE X (.Attribute o f pos) (wFld X.K to f) :=
  (pe_fld ho hb).imp fun σ H Q z0 => z0.el fun τ G q hs hg ht hQ => ⟨τ, G, _, hs, hg, ht, fun v H1 w G1 t1 r1 g1 q1 => by
    obtain ⟨a, C, fs, v', rfl, hG, hc, hl, q1⟩ := q1
    cases r1
    obtain ⟨_, dx, fs', hH, hn, hr⟩ := g1 a _ hG
    obtain ⟨v2, hv2, rv2⟩ := flds_lookup hn hr hl
    exact ⟨a, C, dx, fs', v2, rfl, hH, hc.1, hc.2, hv2, hQ v2 H1 v' G1 t1 rv2 g1 q1⟩⟩
noncomputable def wFldS (K : PySem.W.Frag) (to te : WE) (f : Str) : WS := fun d τ G => te τ G fun y G1 => to τ G1 fun x G2 => ∃ a C fs, x = .ref a ∧ G2 a = some (.ins C fs) ∧ (Cls K C ∧ NoAttr K C f) ∧ fs.length < 100 ∧ d.nx τ (updG G2 a (.ins C (putW f y fs)))
theorem qs_fld {o e : Expr} {to te : WE} {f : Str} {pos pos' : Pos} (ho : QE X o to) (he : QE X e te) (hs : swapsWith e (some (.Attribute o f pos')) pos.line X.env = pure false := by rfl) : QS X (.Assign [.Attribute o f pos'] e pos) (wFldS X.K to te f) :=
  (ps_fld ho he hs).imp fun D σ H z0 => z0.el fun τ G d rs rg ht l => ⟨τ, G, _, rs, rg, ht, fun y H1 w G1 t1 r1 g1 q1 => ⟨τ, G1, _, rs.mono t1, g1, q1, fun v H2 w2 G2 t2 r2 g2 q2 => by
    obtain ⟨a, C, fs, rfl, hG, hc, hlen, q2⟩ := q2
    cases r2
    obtain ⟨_, dx, fs', hH, hn, hr⟩ := g2 a _ hG
    obtain ⟨a1, a2, a3⟩ := flds_put (f := f) (r1.mono t2) hn hr
    have tl := TLe.ins hH (.ins C dx (putF f y fs'))
    have hlen' : fs'.length = fs.length := by simpa using congrArg List.length hn
    refine ⟨a, C, dx, fs', rfl, hH, hc.1, hc.2, by (clear ho he hs z0 rs rg ht l t1 r1 g1 q1 t2 g2 hG hc q2 hH hn hr a1 a2 a3 tl; omega), l.nx σ _ τ _ ((t1.trans t2).trans tl) (((rs.mono t1).mono t2).mono tl) (g2.lay (g := .ins C (putW f w fs)) tl ⟨by (clear ho he hs z0 rs rg ht l t1 r1 g1 q1 t2 g2 hG hc q2 hH hn hr a1 a2 tl; omega), dx, _, upd_same, a1, a2.mono tl⟩) q2⟩⟩⟩
noncomputable def wMake (C : Addr) (sp : WSp) (dws : List W) (t : WA) : WE := fun τ G q => t τ G fun ws G1 => ∀ p, G1 p = none → sp (.ref p :: (ws ++ dws)) (updG G1 p (.ins C [])) (fun v G2 => v = .non ∧ q (.ref p) G2) fun _ _ => False
theorem LEx.make {K : PySem.W.Frag} {C : Addr} {sp : WSp} {dws : List W} {dvs : List V} {t : WA} {σ : St} {H : Hp} {Q : VK} {E : XK} (hd : ∀ H, Reps K H dws dvs) (h : LEx K (wMake C sp dws t) σ H Q) : tMake C (LSp K sp) dvs E (LA K t) σ H Q := by
  obtain ⟨τ, G, q, hs, hg, ht, hQ⟩ := h
  refine ⟨τ, G, _, hs, hg, ht, fun vs H1 ws G1 t1 r1 g1 q1 x dx hx hdx hne => ?_⟩
  have hdx' : upd H1 dx (.own x) x = none := by rw [upd_ne (Ne.symm hne)]; exact hx
  have tl := (TLe.new hdx (.own x)).trans (TLe.new hdx' (.ins C dx []))
  have g2 : RelG K (upd (upd H1 dx (.own x)) x (.ins C dx [])) (updG G1 x (.ins C [])) := (g1.keep hdx (.own x)).lay (TLe.new hdx' _) ⟨by simp, dx, [], upd_same, rfl, .nil⟩
  exact ⟨.ref x :: (ws ++ dws), _, _, _, .cons (.ref x) ((r1.mono tl).append (hd _)), g2, q1 x (g1.fresh hx), fun v H2 w G2 t2 r2 g2 q2 => by
    obtain ⟨e, q2⟩ := q2
    subst e
    cases r2
    exact ⟨rfl, hQ _ H2 _ G2 ((t1.trans tl).trans t2) (.ref x) g2 q2⟩, fun _ _ _ _ _ _ z => z.elim⟩
theorem qe_make {C f : Addr} {fd : FuncData} {k : Nat} {x : Str} {ps : List Str} {sp : WSp} {p pos : Pos} {e : Expr} {es : List Expr} {t : WA} (M : Mk X.K C f) (F : WFn X.prog X.w X.K X.mg X.base k f fd ps sp) (hr : Room (k + 1) X.A) (hg : Gl X x) (hm : X.mg x = some (.ref C)) (hb : Binds X.K fd ps [])
    (ha : QA X (e :: es) t) (hdb : (x == ("__debug__" : Str)) = false := by decide) (he : starEach (e :: es) X.env = (false, eval e X.env) :: starEach es X.env := by rfl) (hpl : (backTo pos (starEach es X.env)).any (·.1) = false := by rfl) :
    QE X (.Call (.Name x p) (e :: es) [] pos) (wMake C sp [] t) :=
  (pe_make (dvs := []) M F hr hg hm hb .nil (pass0 (X := X)) ha hdb he hpl).imp fun _ _ _ h => LEx.make (fun _ => .nil) h
noncomputable def wMeth (C : Addr) (m : Str) (sp : WSp) (dws : List W) (to : WE) (t : WA) : WE := fun τ G q => to τ G fun x G1 => ∃ a fs, x = .ref a ∧ G1 a = some (.ins C fs) ∧ fs.lookup m = none ∧ t τ G1 fun ws G2 => sp (x :: (ws ++ dws)) G2 q fun _ _ => False
theorem LEx.meth {K : PySem.W.Frag} {C : Addr} {m : Str} {sp : WSp} {dws : List W} {dvs : List V} {to : WE} {t : WA} {σ : St} {H : Hp} {Q : VK} {E : XK} (hd : ∀ H, Reps K H dws dvs) (h : LEx K (wMeth C m sp dws to t) σ H Q) : tMeth C m (LSp K sp) dvs E (LEx K to) (LA K t) σ H Q := by
  obtain ⟨τ, G, q, hs, hg, ht, hQ⟩ := h
  refine ⟨τ, G, _, hs, hg, ht, fun x H1 w G1 t1 r1 g1 q1 => ?_⟩
  obtain ⟨a, fs, rfl, hG, hl, q1⟩ := q1
  cases r1
  obtain ⟨_, dx, fs', hH, hn, _⟩ := g1 a _ hG
  refine ⟨a, dx, fs', rfl, hH, flds_none hn hl, τ, G1, _, hs.mono t1, g1, q1, fun vs H2 ws G2 t2 r2 g2 q2 => ?_⟩
  exact ⟨.ref a :: (ws ++ dws), G2, q, _, .cons (.ref a) (r2.append (hd _)), g2, q2, fun v H3 w3 G3 t3 => hQ v H3 w3 G3 ((t1.trans t2).trans t3), fun _ _ _ _ _ _ z => z.elim⟩
structure Mt (P : Program) (w : World) (K : PySem.W.Frag) (mg : Str → Option Value) (base : Heap) (C : Addr) (m : Str) (ps : List Str) (k : Nat) (sp : WSp) (dws : List W) : Prop where
  ex : ∃ (f : Addr) (fd : FuncData) (ds : List Value) (dvs : List V), Meth K C m f ∧ WFn P w K mg base k f fd ps sp ∧ Binds K fd ps ds ∧ Vals dvs ds ∧ ∀ H, Reps K H dws dvs
  cl : Cls K C
theorem qe_meth {C : Addr} {m : Str} {k : Nat} {ps : List Str} {sp : WSp} {dws : List W} {o e : Expr} {es : List Expr} {to : WE} {t : WA} {apos pos : Pos} {pl : Sem Bool} (ho : QE X o to) (M : Mt X.prog X.w X.K X.mg X.base C m ps k sp dws) (hr : Room k X.A) (ha : QA X (e :: es) t)
    (hst : starEach (e :: es) X.env = (false, eval e X.env) :: starEach es X.env := by rfl) (hpl : (backTo pos (starEach es X.env)).any (·.1) = false := by rfl)
    (ht : eval (.Call (.Attribute o m apos) (e :: es) [] pos) X.env = (do
      let ov ← eval o X.env
      standAt apos.atName
      let (f, first) ← holding [ov] (getMethod ov m pl)
      callWith pos f first (backTo pos (starEach (e :: es) X.env)) (backToKw pos (keywordEach [] X.env))) := by rfl) : QE X (.Call (.Attribute o m apos) (e :: es) [] pos) (wMeth C m sp dws to t) := by
  obtain ⟨⟨f, fd, ds, dvs, hm, F, hb, hd, hrep⟩, c⟩ := M
  exact (pe_meth (pl := pl) ho c hm F hr hb hd (pass0 (X := X)) ha hst hpl ht).imp fun _ _ _ h => LEx.meth hrep h
theorem qe_meth0 {C : Addr} {m : Str} {k : Nat} {ps : List Str} {sp : WSp} {dws : List W} {o : Expr} {to : WE} {apos pos : Pos} {pl : Sem Bool} (ho : QE X o to) (M : Mt X.prog X.w X.K X.mg X.base C m ps k sp dws) (hr : Room k X.A)
    (ht : eval (.Call (.Attribute o m apos) [] [] pos) X.env = (do
      let ov ← eval o X.env
      standAt apos.atName
      let (f, first) ← holding [ov] (getMethod ov m pl)
      callWith pos f first (backTo pos (starEach [] X.env)) (backToKw pos (keywordEach [] X.env))) := by rfl) : QE X (.Call (.Attribute o m apos) [] [] pos) (wMeth C m sp dws to wNil) := by
  obtain ⟨⟨f, fd, ds, dvs, hm, F, hb, hd, hrep⟩, c⟩ := M
  refine (pe_meth0 (pl := pl) ho c hm F hr hb hd (pass0 (X := X)) ht).imp fun σ H Q z0 => z0.el fun τ G q hs hg ht hQ => ?_
  refine ⟨τ, G, _, hs, hg, ht, fun x H1 w G1 t1 r1 g1 q1 => ?_⟩
  obtain ⟨a, fs, rfl, hG, hl, q1⟩ := q1
  cases r1
  obtain ⟨_, dx, fs', hH, hn, _⟩ := g1 a _ hG
  exact ⟨a, dx, fs', rfl, hH, flds_none hn hl, .ref a :: ([] ++ dws), G1, q, _, .cons (.ref a) (hrep _), g1, q1, fun v H3 w3 G3 t3 => hQ v H3 w3 G3 (t1.trans t3), fun _ _ _ _ _ _ z => z.elim⟩
noncomputable def wPop (to : WE) : WE := fun τ G q => to τ G fun x G1 => match x with
  | .ref a => ∃ ys y, G1 a = some (.lst (ys ++ [y])) ∧ q y (updG G1 a (.lst ys))
  | _ => False
theorem Reps.snoc {K : PySem.W.Frag} {H : Hp} : ∀ {ys : List W} {y : W} {xs : List V}, Reps K H (ys ++ [y]) xs → ∃ v, xs[xs.length - 1]? = some v ∧ Rep K H y v ∧ Reps K H ys xs.dropLast
  | [], y, xs, r => by
    obtain ⟨v, rfl, rv⟩ := r.one
    exact ⟨v, rfl, rv, .nil⟩
  | w :: ys, y, _, .cons (v := v) (vs := vs) r rs => by
    obtain ⟨u, h1, h2, h3⟩ := Reps.snoc rs
    have hl := rs.length
    cases vs with
    | nil => simp at hl
    | cons v2 vs2 =>
      refine ⟨u, ?_, h2, ?_⟩
      · simpa using h1
      · rw [List.dropLast_cons₂]
        exact .cons r h3
theorem qe_pop {o : Expr} {to : WE} {apos cpos : Pos} (ho : QE X o to)
    (hbase : attributeBase o "pop" X.env (eval o X.env) = eval o X.env := by rfl) (hline : (apos.endLine == cpos.line) = true := by rfl) : QE X (.Call (.Attribute o "pop" apos) [] [] cpos) (wPop to) :=
  (pe_bm0 PySem.F.plainAttrs_list PySem.F.slot_list_pop PySem.F.type_list_pop mt_pop ho hbase hline).imp fun σ H Q z0 => z0.el fun τ G q hs hg ht hQ =>
    ⟨τ, G, _, hs, hg, ht, fun v H1 w G1 t1 r1 g1 q1 => by
      split at q1
      · rename_i a
        cases r1
        obtain ⟨ys, y, e1, q1⟩ := q1
        obtain ⟨hl, xs', h1, rr⟩ := g1 a _ e1
        obtain ⟨u, hu, ru, rd⟩ := rr.snoc
        refine ⟨.inl ⟨rfl, xs', SqL.of h1⟩, a, xs', u, rfl, rfl, h1, hu, ?_⟩
        have tl := TLe.lst h1 (.lst xs'.dropLast)
        exact hQ _ _ _ _ (t1.trans tl) (ru.mono tl) (g1.put tl rd (by simp at hl; exact Nat.le_trans (by assumption) (Nat.le_of_ble_eq_true rfl))) q1
      · exact q1.elim⟩
noncomputable def clsB : Stmt → List Stmt
  | .ClassDef _ _ _ b _ _ _ _ _ _ _ => b
  | _ => []
noncomputable def Md (K : PySem.W.Frag) (C : Addr) (m qual : Str) (st : Stmt) (ps : List Str) : Prop := ∃ (f : Addr) (fd : FuncData), Meth K C m f ∧ Fun K m qual st f fd ∧ Binds K fd ps []
noncomputable def MdD (K : PySem.W.Frag) (C : Addr) (m qual : Str) (st : Stmt) (ps : List Str) (dws : List W) : Prop := ∃ (f : Addr) (fd : FuncData) (T : Addr) (ds : List Value) (dvs : List V), Meth K C m f ∧ FunD K m qual st f fd T ds ∧ Binds K fd ps [] ∧ Binds K fd ps ds ∧ Vals dvs ds ∧ ∀ H, Reps K H dws dvs
noncomputable def MdI (K : PySem.W.Frag) (C : Addr) (qual : Str) (st : Stmt) (ps : List Str) : Prop := ∃ (f : Addr) (fd : FuncData), Mk K C f ∧ Fun K "__init__" qual st f fd ∧ Binds K fd ps []
section
variable {P : Program} {w : World} {K : PySem.W.Frag} {mg : Str → Option Value} {base : Heap} {C : Addr} {m qual : Str} {st : Stmt} {ps : List Str} {k : Nat} {sp : WSp} {dws : List W}
theorem Md.mt (D : Md K C m qual st ps) (c : Cls K C) (h : ∀ (f : Addr) (fd : FuncData), Fun K m qual st f fd → WFn P w K mg base k f fd ps sp) : Mt P w K mg base C m ps k sp [] := by
  obtain ⟨f, fd, hm, F, b⟩ := D
  exact ⟨⟨f, fd, [], [], hm, h f fd F, b, .nil, fun _ => .nil⟩, c⟩
noncomputable def New (P : Program) (w : World) (K : PySem.W.Frag) (mg : Str → Option Value) (base : Heap) (x : Str) (C : Addr) (ps : List Str) (k : Nat) (sp : WSp) : Prop := ∃ (f : Addr) (fd : FuncData), Mk K C f ∧ WFn P w K mg base k f fd ps sp ∧ mg x = some (.ref C) ∧ Binds K fd ps []
theorem MdI.new {x : Str} (D : MdI K C qual st ps) (hm : mg x = some (.ref C)) (h : ∀ (f : Addr) (fd : FuncData), Fun K "__init__" qual st f fd → WFn P w K mg base k f fd ps sp) : New P w K mg base x C ps k sp := by
  obtain ⟨f, fd, M, F, b⟩ := D
  exact ⟨f, fd, M, h f fd F, hm, b⟩
end
theorem qe_new {C : Addr} {k : Nat} {x : Str} {ps : List Str} {sp : WSp} {p pos : Pos} {e : Expr} {es : List Expr} {t : WA} (M : New X.prog X.w X.K X.mg X.base x C ps k sp) (hr : Room (k + 1) X.A) (hg : Gl X x)
    (ha : QA X (e :: es) t) (hdb : (x == ("__debug__" : Str)) = false := by decide) (he : starEach (e :: es) X.env = (false, eval e X.env) :: starEach es X.env := by rfl) (hpl : (backTo pos (starEach es X.env)).any (·.1) = false := by rfl) :
    QE X (.Call (.Name x p) (e :: es) [] pos) (wMake C sp [] t) := by
  obtain ⟨f, fd, M, F, hm, b⟩ := M
  exact qe_make M F hr hg hm b ha hdb he hpl
noncomputable def wBrk : WS := fun d τ G => d.bk τ G
noncomputable def wCnt : WS := fun d τ G => d.ct τ G
theorem lnZ {α : Type} {p : List α → Prop} (h : p []) (us : List α) (e : us.length = 0) : p us := by
  rw [List.eq_nil_of_length_eq_zero e]; exact h
theorem lnS {α : Type} {n : Nat} {p : List α → Prop} (h : ∀ a, ∀ us : List α, us.length = n → p (a :: us)) (us : List α) (e : us.length = n + 1) : p us := by
  cases us with
  | nil => exact absurd e (Nat.succ_ne_zero n).symm
  | cons a us => exact h a us (Nat.succ.inj e)
end
end L2
set_option linter.all false
set_option maxRecDepth 100000
namespace L2
open PySem PySem.Spec PyProof.Rows
structure RMt (P : Program) (w : World) (K : PySem.W.Frag) (mg : Str → Option Value) (base : Heap) (C : Addr) (m : Str) (ps : List Str) (k : Nat) (sp : WSp) (dws : List W) : Prop where
  ex : ∃ (f : Addr) (fd : FuncData) (ds : List Value) (dvs : List V), Meth K C m f ∧ RFn P w K mg base k f fd ps sp ∧ Binds K fd ps ds ∧ Vals dvs ds ∧ ∀ H, Reps K H dws dvs
  cl : Cls K C
section
variable {X : Cx} {x : Str} {p pos : Pos}
noncomputable def wMDoY (C : Addr) (m : Str) (sp : WSp) (dws : List W) (to : WE) (t : WA) : WEx → WS := fun ex d τ G => to τ G fun x G1 => ∃ a fs, x = .ref a ∧ G1 a = some (.ins C fs) ∧ fs.lookup m = none ∧ t τ G1 fun ws G2 => sp (x :: (ws ++ dws)) G2 (fun _ G3 => d.nx τ G3) fun c G3 => ∀ D, c = .ref D → ex D τ G3
noncomputable def wMSetY (i : Nat) (C : Addr) (m : Str) (sp : WSp) (dws : List W) (to : WE) : WEx → WS := fun ex d τ G => to τ G fun x G1 => ∃ a fs, x = .ref a ∧ G1 a = some (.ins C fs) ∧ fs.lookup m = none ∧ sp (x :: ([] ++ dws)) G1 (fun v G3 => d.nx (τ.set i (some v)) G3) fun c G3 => ∀ D, c = .ref D → ex D τ G3
theorem run_fnY {f : Addr} {fd : FuncData} {k : Nat} {ps : List Str} {sp : WSp} {ds : List Value} {dvs : List V} {pins : List (Addr × Obj)} {σ : St} {H0 H : Hp} {s : Shared} {us : List Value} {vs : List V} {ex : WEx} {τ : WSt} {N : V → Hp → Prop} {Q : Value → Shared → Prop} (F : RFn X.prog X.w X.K X.mg X.base k f fd ps sp) (hr : Room k X.A) (hb : Binds X.K fd ps ds) (hd : Vals dvs ds)
    (I : Inv X pins σ H s) (r : Vals vs us) (h : LSp X.K sp (vs ++ dvs) H N fun c _ H2 => ∀ D, c = .ref D → TLe H0 H2 ∧ ∃ G2, RelSt X.K H2 τ σ ∧ RelG X.K H2 G2 ∧ ex D τ G2) (hQ : ∀ u s', EP X pins σ N u s' → Q u s') :
    wpAny (model X.prog X.w) X.A (call (.ref f) us) Q (XP X pins H0 ex) s := by
  have r2 : Vals (vs ++ dvs) (us ++ ds) := r.append hd
  have hl : (us ++ ds).length = ps.length := by rw [← r2.length]; exact F.len _ _ _ _ h
  refine wpAny_call (codeAny_mono (F.run X.A X.stack s H ⟨us, []⟩ (us ++ ds) (vs ++ dvs) _ _ hr I.env0 (hb s us I.kIn hl) r2 h) fun r s' hq => ?_)
  cases r with
  | ok fl =>
    cases fl with
    | ret u => exact hQ u s' (I.after hq)
    | next => exact False.elim hq
    | brk => exact False.elim hq
    | cont => exact False.elim hq
  | error e =>
    obtain ⟨a, T, C', H', rfl, os, bare, F1, hx⟩ := hq
    obtain ⟨tl, G2, rs2, rg2, hx⟩ := hx C' rfl
    exact ⟨a, T, C', H, s, σ, H', τ, G2, rfl, I, F1, os, bare, tl, rs2, rg2, hx⟩
theorem qy_mdo {C : Addr} {m : Str} {k : Nat} {ps : List Str} {sp : WSp} {dws : List W} {o e : Expr} {es : List Expr} {to : WE} {t : WA} {apos cpos epos : Pos} {pl : Sem Bool} (hnx : ∀ e s, ¬ X.xe e s) (ho : QE X o to) (M : RMt X.prog X.w X.K X.mg X.base C m ps k sp dws) (hr : Room k X.A) (ha : QA X (e :: es) t)
    (hst : starEach (e :: es) X.env = (false, eval e X.env) :: starEach es X.env := by rfl) (hpl : (backTo cpos (starEach es X.env)).any (·.1) = false := by rfl)
    (ht : eval (.Call (.Attribute o m apos) (e :: es) [] cpos) X.env = (do
      let ov ← eval o X.env
      standAt apos.atName
      let (f, first) ← holding [ov] (getMethod ov m pl)
      callWith cpos f first (backTo cpos (starEach (e :: es) X.env)) (backToKw cpos (keywordEach [] X.env))) := by rfl)
    (hsw : swapsWith (.Call (.Attribute o m apos) (e :: es) [] cpos) none epos.line X.env = pure false := by rfl) :
    QY X (.Expr (.Call (.Attribute o m apos) (e :: es) [] cpos) epos) (wMDoY C m sp dws to t) := by
  intro ex pins s σ H D I ⟨τ, G, d, rs, rg, ht0, l⟩
  obtain ⟨⟨f, fd, ds, dvs, hm, F, hb, hd, hrep⟩, c⟩ := M
  have go := ho pins s σ H (fun v H1 => ∃ a dx fs', v = .ref a ∧ H1 a = some (.ins C dx fs') ∧ fs'.lookup m = none ∧ LA X.K t σ H1 fun vs H2 => LSp X.K sp (.ref a :: (vs ++ dvs)) H2 (fun _ H3 => D.nx σ H3) fun c _ H3 => ∀ D, c = .ref D → TLe H H3 ∧ ∃ G3, RelSt X.K H3 τ σ ∧ RelG X.K H3 G3 ∧ ex D τ G3) I
    ⟨τ, G, _, rs, rg, ht0, fun v H1 w G1 t1 r1 g1 q1 => by
      obtain ⟨a, fs, rfl, hG, hl, q1⟩ := q1
      cases r1
      obtain ⟨_, dx, fs', hH, hn, _⟩ := g1 a _ hG
      refine ⟨a, dx, fs', rfl, hH, flds_none hn hl, τ, G1, _, rs.mono t1, g1, q1, fun vs H2 ws G2 t2 r2 g2 q2 => ?_⟩
      exact ⟨.ref a :: (ws ++ dws), G2, _, _, .cons (.ref a) (r2.append (hrep _)), g2, q2, fun v H3 w3 G3 t3 r3 g3 q3 => l.nx σ H3 τ G3 ((t1.trans t2).trans t3) (rs.mono ((t1.trans t2).trans t3)) g3 q3,
        fun c dd H3 G3 t3 g3 q3 C ec => ⟨(t1.trans t2).trans t3, G3, rs.mono ((t1.trans t2).trans t3), g3, q3 C ec⟩⟩⟩
  refine wpAny_Expr_any (PySem.W.methodCall_KW (pl := pl) (wpAny_mono go (fun u s1 h1 => ?_) fun e s1 z => (hnx e s1 z).elim) ht) I.quiet hsw
  obtain ⟨v, H1, I1, rx, a, dx, fs', e1, ea, hl, q⟩ := h1
  subst e1
  obtain rfl : u = Value.ref a := rx
  refine getmeth_ok I1 ea c hm hl ?_
  refine PySem.W.callWith_K (first := [.ref a]) (h₀ := X.base) I.ok.mod.kin hm.kp (wpAny_mono (ha cpos pins s1 σ H1 _ I1 q) (fun us s2 ⟨vs, H2, I2, r, q2⟩ => ⟨I2.kIn, ?_⟩) fun e s1 z => (hnx e s1 z).elim) hst hpl
  exact run_fnY (us := .ref a :: us) (vs := .ref a :: vs) F hr hb hd I2 (.cons rfl r) q2 fun u s' ⟨v, H3, I3, _, q3⟩ => ⟨σ, H3, I3, q3⟩
theorem qy_mset0 (i : Nat) {y : Str} {C : Addr} {m : Str} {k : Nat} {ps : List Str} {sp : WSp} {dws : List W} {o : Expr} {to : WE} {apos cpos epos ypos : Pos} {pl : Sem Bool} (hnx : ∀ e s, ¬ X.xe e s) (hN : X.N.Nodup) (hi : X.N[i]? = some y) (hy : Loc X.env.scope y) (ho : QE X o to) (M : RMt X.prog X.w X.K X.mg X.base C m ps k sp dws) (hr : Room k X.A)
    (ht : eval (.Call (.Attribute o m apos) [] [] cpos) X.env = (do
      let ov ← eval o X.env
      standAt apos.atName
      let (f, first) ← holding [ov] (getMethod ov m pl)
      callWith cpos f first (backTo cpos (starEach [] X.env)) (backToKw cpos (keywordEach [] X.env))) := by rfl)
    (hsw : swapsWith (.Call (.Attribute o m apos) [] [] cpos) (some (.Name y ypos)) epos.line X.env = pure false := by rfl) (hf : X.fn y = true ∨ X.env.scope.names.lookup y = some .local := by first | exact .inl rfl | exact .inr rfl | assumption) :
    QY X (.Assign [.Name y ypos] (.Call (.Attribute o m apos) [] [] cpos) epos) (wMSetY i C m sp dws to) := by
  intro ex pins s σ H D I ⟨τ, G, d, rs, rg, ht0, l⟩
  obtain ⟨⟨f, fd, ds, dvs, hm, F, hb, hd, hrep⟩, c⟩ := M
  have go := ho pins s σ H (fun v H1 => ∃ a dx fs', v = .ref a ∧ H1 a = some (.ins C dx fs') ∧ fs'.lookup m = none ∧ LSp X.K sp (.ref a :: ([] ++ dvs)) H1 (fun v H3 => D.nx (σ.set i (some v)) H3) fun c _ H3 => ∀ D, c = .ref D → TLe H H3 ∧ ∃ G3, RelSt X.K H3 τ σ ∧ RelG X.K H3 G3 ∧ ex D τ G3) I
    ⟨τ, G, _, rs, rg, ht0, fun v H1 w G1 t1 r1 g1 q1 => by
      obtain ⟨a, fs, rfl, hG, hl, q1⟩ := q1
      cases r1
      obtain ⟨_, dx, fs', hH, hn, _⟩ := g1 a _ hG
      exact ⟨a, dx, fs', rfl, hH, flds_none hn hl, .ref a :: ([] ++ dws), G1, _, _, .cons (.ref a) (hrep _), g1, q1, fun v H3 w3 G3 t3 r3 g3 q3 => l.nx _ H3 _ G3 (t1.trans t3) ((rs.mono (t1.trans t3)).set r3 i) g3 q3,
        fun c dd H3 G3 t3 g3 q3 C ec => ⟨t1.trans t3, G3, rs.mono (t1.trans t3), g3, q3 C ec⟩⟩⟩
  refine wpAny_Assign_Name (PySem.W.methodCall_KW (pl := pl) (wpAny_mono go (fun u s1 h1 => ?_) fun e s1 z => (hnx e s1 z).elim) ht) hsw
  obtain ⟨v, H1, I1, rx, a, dx, fs', e1, ea, hl, q⟩ := h1
  subst e1
  obtain rfl : u = Value.ref a := rx
  refine getmeth_ok I1 ea c hm hl ?_
  refine PySem.W.callWith_K0 (first := [.ref a]) I1.kIn hm.kp ?_
  exact run_fnY (us := [.ref a]) (vs := [.ref a]) F hr hb hd I1 (.cons rfl .nil) q fun u s' ⟨v, H3, I3, rv, q3⟩ => store_ok I3 hN hi hy rv (fun s2 I2 => ⟨_, H3, I2, q3⟩) hf
theorem qe_gref {D : Addr} {y : Str} {p : Pos} (hg : Gl X y) (hm : X.mg y = some (.ref D)) (hd : (y == ("__debug__" : Str)) = false := by decide) : QE X (.Name y p) (wC (.ref D)) := qe_const (v := .ref D) (pe_glob (v := .ref D) hg hm rfl hd) fun _ => .ref D
theorem kitx_exc {K : PySem.W.Frag} {a C : Addr} {bm : List Value} (hC : XC K C bm) (hQ : XQ K C) (hE : XD K C) : PySem.W.KitX K (.ref a) (.ref C) (fun h => ∃ o, h.get? a = some o ∧ o.cls = .ref C) where
  ty := fun M h X ⟨o, h1, h2⟩ => h2 ▸ (PySem.W.Looks.ld h1).andThen .now
  it := fun M h X _ => by
    obtain ⟨cd, e⟩ := hE.cls
    unfold PySem.W.clsIn at e
    split at e
    · rename_i ho
      intro A' Q' E' s' k q
      unfold isType loadHead
      exact wpAny_bind (wpAny_loadPart (k _ _ (X _ _ ho)) (wpAny_pure q))
    · cases e
  ne := fun h tp dd its n sl X htp => by
    obtain ⟨cd, e⟩ := hE.cls
    refine Bool.eq_false_iff.mpr fun q => ?_
    have e2 : C = tp := Value.ref.inj (beq_iff_eq.mp q)
    subst e2
    unfold PySem.W.clsIn at e
    split at e
    · rename_i ho
      have := X _ _ ho
      rw [htp] at this
      cases this
    · cases e
  ca := fun {_ _ _ _ _ s} X ⟨o, h1, h2⟩ k => by
    obtain ⟨h, g, d, t, os⟩ := s
    exact class_attr_x X hC hQ h1 h2 k
theorem kitAny_no {K : PySem.W.Frag} {C : Addr} {bm : List Value} (hC : XC K C bm) : ∀ {Ds : List Addr}, (∀ D, D ∈ Ds → XD K D ∧ PySem.W.mroIn K C (.ref D) = some false) → PySem.W.kitAny K (.ref C) (Ds.map Value.ref) = some false
  | [], _ => rfl
  | D :: Ds, h => by
    obtain ⟨hD, hs⟩ := h D List.mem_cons_self
    have h1 : PySem.W.kitOne K (.ref C) (.ref D) = some false := by
      unfold PySem.W.kitOne
      rw [if_neg (fun q => ne_of_mro hC hs (Value.ref.inj (beq_iff_eq.mp q)))]
      unfold PySem.W.kitCls
      obtain ⟨cd, e⟩ := hD.cls
      have h2 : ((PySem.W.clsIn K D).isSome && PySem.W.typeIn K (.ref D) == some (.type "type")) = true := by rw [e, hD.ty]; rfl
      show (if ((PySem.W.clsIn K D).isSome && PySem.W.typeIn K (.ref D) == some (.type "type")) = true then PySem.W.subIn K (.ref C) (.ref D) else none) = some false
      rw [if_pos h2]
      exact hs
    show (match PySem.W.kitOne K (.ref C) (.ref D) with | some true => some true | some false => PySem.W.kitAny K (.ref C) (Ds.map Value.ref) | none => none) = some false
    rw [h1]
    exact kitAny_no hC fun D hD => h D (List.mem_cons_of_mem _ hD)
theorem Reps.refs {K : PySem.W.Frag} {H : Hp} : ∀ {Ds : List Addr} {vs : List V}, Reps K H (Ds.map W.ref) vs → vs = Ds.map V.ref
  | [], _, r => by cases r; rfl
  | D :: Ds, _, r => by
    cases r with
    | cons r rs => cases r; rw [Reps.refs rs]; rfl
theorem vals_refs : ∀ {Ds : List Addr} {us : List Value}, Vals (Ds.map V.ref) us → us = Ds.map Value.ref
  | [], _, r => by cases r; rfl
  | D :: Ds, _, r => by
    cases r with
    | cons r rs => rw [vals_refs rs, show _ = Value.ref D from r]; rfl
noncomputable def wIsT (K : PySem.W.Frag) (t1 t2 : WE) : WE := fun τ G q => t1 τ G fun x G1 => t2 τ G1 fun y G2 => ∃ (a C : Addr) (Ds : List Addr), x = .ref a ∧ y = .tup (Ds.map W.ref) ∧ G2 a = some (.exc C) ∧ (∀ D, D ∈ Ds → XD K D ∧ PySem.W.mroIn K C (.ref D) = some false) ∧ q (.bl false) G2
theorem qe_isT {e1 e2 : Expr} {t1 t2 : WE} {p pos : Pos} (h1 : QE X e1 t1) (h2 : QE X e2 t2) (hm1 : X.mg "isinstance" = none) (hg1 : Gl X "isinstance")
    (hs1 : starEach [e1, e2] X.env = (false, eval e1 X.env) :: starEach [e2] X.env := by rfl) (hs2 : starEach [e2] X.env = (false, eval e2 X.env) :: starEach [] X.env := by rfl)
    (hpl : (backTo pos (starEach [e2] X.env)).any (·.1) = false := by rfl) : QE X (.Call (.Name "isinstance" p) [e1, e2] [] pos) (wIsT X.K t1 t2) := by
  have ha := pa_cons h1 (pa_cons h2 pa_nil hs2) hs1
  have hCR : CallR X (.builtin "isinstance") (fun vs H Q => ∃ (a C tp : Addr) (Ds : List Addr), vs = [.ref a, .ref tp] ∧ XO X.K C ∧ H a = some (exO a C) ∧ H tp = some (.tup (Ds.map V.ref)) ∧ (∀ D, D ∈ Ds → XD X.K D ∧ PySem.W.mroIn X.K C (.ref D) = some false) ∧ Q (.bl false) H) := by
    intro pins s σ H xs us Q I r ⟨a, C, tp, Ds, e1, hO, hH, hT, hb, q⟩
    subst e1
    obtain ⟨u, u2, rfl, ru, ru2⟩ := vals2' r
    cases (show u = Value.ref a from ru)
    cases (show u2 = Value.ref tp from ru2)
    obtain ⟨bm, hC⟩ := hO.c
    obtain ⟨its, rv, ⟨⟨cls, dd, data, sl⟩, ho, hcl, n, hdt⟩, hz⟩ := I.tuple (SqT.of hT)
    simp only at hcl hdt
    subst hcl hdt
    have ei := vals_refs rv
    subst ei
    exact PySem.W.kia_tup (kitx_exc hC hO.q hO.d) I.kIn (I.excAt hH) ho (kitAny_no hC hb) (fun z => nomatch z) fun tk => ⟨.bl false, H, I.tok tk, rfl, q⟩
  exact (pe_callB hCR hg1 hm1 boot_isi ha (by decide) (by decide) hs1 hpl).imp fun σ H Q z0 => z0.el fun τ G q hs hg ht hQ => ⟨τ, G, _, hs, hg, ht, fun v H1 w G1 t1 r1 g1 q1 => ⟨τ, G1, _, hs.mono t1, g1, q1, fun v2 H2 w2 G2 t2 r2 g2 q2 => by
    obtain ⟨a, C, Ds, rfl, rfl, hG, hb, q2⟩ := q2
    cases r1
    cases r2 with
    | @tup tp _ xs hT rr =>
      obtain ⟨hO, hH⟩ := g2 a _ hG
      have ex := rr.refs
      subst ex
      exact ⟨a, C, tp, Ds, rfl, hO, hH, hT, hb, hQ _ H2 _ G2 (t1.trans t2) (.bl false) g2 q2⟩⟩⟩
end
end L2
set_option linter.all false
set_option maxRecDepth 100000
namespace L2
open PySem PySem.Spec PyProof.Rows
section
variable {X : Cx} {p pos : Pos}
end
end L2
set_option linter.all false
set_option maxRecDepth 100000
namespace L2
open PySem PySem.Spec PyProof.Rows
end L2
namespace Nm
inductive O where
  | z
  | c (e : O) (n : Int) (r : O)
  deriving DecidableEq
namespace O
noncomputable def cmp : O → O → Int
  | z, z => 0
  | z, c _ _ _ => -1
  | c _ _ _, z => 1
  | c e n r, c e' n' r' =>
    if cmp e e' ≠ 0 then cmp e e' else if n < n' then -1 else if n' < n then 1 else cmp r r'
noncomputable def size : O → Nat
  | z => 0
  | c e _ r => 1 + size e + size r
noncomputable def dp : O → Nat
  | z => 0
  | c e _ r => max (dp e + 1) (dp r)
noncomputable def len : O → Nat
  | z => 0
  | c _ _ r => len r + 1
noncomputable def app : O → O → O
  | z, b => b
  | c e n r, b => c e n (app r b)
noncomputable def filt (p : O → Int → Bool) : O → O
  | z => z
  | c e n r => if p e n then c e n (filt p r) else filt p r
noncomputable def same (x : O) : O → Int
  | z => 0
  | c e n r => if e = x then n + same x r else same x r
noncomputable def init : O → O
  | z => z
  | c _ _ z => z
  | c e n r => c e n (init r)
noncomputable def last : O → O
  | z => z
  | c e n z => c e n z
  | c _ _ r => last r
theorem cmp_self : ∀ a : O, cmp a a = 0
  | z => rfl
  | c e n r => by simp [cmp, cmp_self e, cmp_self r]
theorem cmp_eq : ∀ a b : O, cmp a b = 0 → a = b
  | z, z, _ => rfl
  | z, c _ _ _, h => by simp [cmp] at h
  | c _ _ _, z, h => by simp [cmp] at h
  | c e n r, c e' n' r', h => by
    unfold cmp at h
    by_cases he : cmp e e' = 0
    · rw [if_neg (by simpa using he)] at h
      by_cases h1 : n < n'
      · rw [if_pos h1] at h; (clear he h1; omega)
      · rw [if_neg h1] at h
        by_cases h2 : n' < n
        · rw [if_pos h2] at h; (clear he h1 h2; omega)
        · rw [if_neg h2] at h
          have := cmp_eq e e' he
          have := cmp_eq r r' h
          have : n = n' := by (clear h he this; omega)
          subst_vars
          rfl
    · rw [if_pos he] at h; exact absurd h he
theorem cmp_range : ∀ a b : O, cmp a b = -1 ∨ cmp a b = 0 ∨ cmp a b = 1
  | z, z => by simp [cmp]
  | z, c _ _ _ => by simp [cmp]
  | c _ _ _, z => by simp [cmp]
  | c e n r, c e' n' r' => by
    have h1 := cmp_range e e'
    have h2 := cmp_range r r'
    unfold cmp
    split
    · exact h1
    · split
      · exact .inl rfl
      · split
        · exact .inr (.inr rfl)
        · exact h2
theorem cmp_swap : ∀ a b : O, cmp b a = - cmp a b
  | z, z => rfl
  | z, c _ _ _ => rfl
  | c _ _ _, z => rfl
  | c e n r, c e' n' r' => by
    have h1 := cmp_swap e e'
    have h2 := cmp_swap r r'
    unfold cmp
    rw [h1, h2]
    by_cases he : cmp e e' = 0
    · rcases Int.lt_trichotomy n n' with k | k | k
      · have k' : ¬ n' < n := by (clear h1 h2 he; omega)
        simp [he, k, k']
      · subst k
        simp [he]
      · have k' : ¬ n < n' := by (clear h1 h2 he; omega)
        simp [he, k, k']
    · have he' : ¬ - cmp e e' = 0 := by (clear h1 h2; omega)
      simp [he, he']
theorem cmp_trans : ∀ a b d : O, cmp a b < 0 → cmp b d < 0 → cmp a d < 0
  | z, z, _, h, _ => by simp [cmp] at h
  | z, c _ _ _, z, _, h => by simp [cmp] at h
  | z, c _ _ _, c _ _ _, _, _ => by simp [cmp]
  | c _ _ _, z, _, h, _ => by simp [cmp] at h
  | c _ _ _, c _ _ _, z, _, h => by simp [cmp] at h
  | c e n r, c e' n' r', c f m t, h1, h2 => by
    have ih1 := cmp_trans e e' f
    have ih2 := cmp_trans r r' t
    have r1 := cmp_range e e'
    have r2 := cmp_range e' f
    unfold cmp at h1 h2 ⊢
    by_cases k1 : cmp e e' = 0
    · have e1 := cmp_eq e e' k1
      subst e1
      rw [if_neg (by (clear ih2 ih1 r1 r2 h1 h2; omega))] at h1
      by_cases k2 : cmp e f = 0
      · rw [if_neg (by (clear ih2 ih1 r1 r2 h1 h2 k1; omega))] at h2 ⊢
        by_cases a1 : n < n'
        · by_cases a2 : n' < m
          · rw [if_pos (by (clear ih2 ih1 r1 r2 h1 h2 k1 k2; omega))]; (clear ih2 ih1 r1 r2 h1 h2 k1 k2 a1 a2; omega)
          · rw [if_neg a2] at h2
            by_cases a3 : m < n'
            · rw [if_pos a3] at h2; (clear ih2 ih1 r1 r2 h1 k1 k2 a1 a2 a3; omega)
            · rw [if_pos (by (clear ih2 ih1 r1 r2 h1 h2 k1 k2; omega))]; (clear ih2 ih1 r1 r2 h1 h2 k1 k2 a1 a2 a3; omega)
        · rw [if_neg a1] at h1
          by_cases a2 : n' < n
          · rw [if_pos a2] at h1; (clear ih2 ih1 r1 r2 h2 k1 k2 a1 a2; omega)
          · rw [if_neg a2] at h1
            by_cases a3 : n' < m
            · rw [if_pos (by (clear ih2 ih1 r1 r2 h1 h2 k1 k2; omega))]; (clear ih2 ih1 r1 r2 h1 h2 k1 k2 a1 a2 a3; omega)
            · rw [if_neg a3] at h2
              by_cases a4 : m < n'
              · rw [if_pos a4] at h2; (clear ih2 ih1 r1 r2 h1 k1 k2 a1 a2 a3 a4; omega)
              · rw [if_neg a4] at h2
                rw [if_neg (by (clear ih2 ih1 r1 r2 h1 h2 k1 k2; omega)), if_neg (by (clear ih2 ih1 r1 r2 h1 h2 k1 k2; omega))]
                exact ih2 h1 h2
      · rw [if_pos k2] at h2 ⊢; exact h2
    · rw [if_pos k1] at h1
      by_cases k2 : cmp e' f = 0
      · have e2 := cmp_eq e' f k2
        subst e2
        rw [if_pos k1]; exact h1
      · rw [if_pos k2] at h2
        have := ih1 h1 h2
        rw [if_pos (by (clear ih1 ih2 r1 r2 h1 h2 k1 k2; omega))]; exact this
noncomputable def Lt (e : O) : O → Prop
  | z => True
  | c x _ r => cmp x e < 0 ∧ Lt e r
noncomputable def NF : O → Prop
  | z => True
  | c e n r => NF e ∧ 1 ≤ n ∧ Lt e r ∧ NF r
theorem same_nonneg (x : O) : ∀ {a : O}, NF a → 0 ≤ same x a
  | z, _ => by simp [same]
  | c e n r, h => by
    have h1 := h.2.1
    have h2 := same_nonneg x h.2.2.2
    unfold same
    split <;> omega
end O
end Nm
namespace Nm
namespace O
theorem not_lt_self (a : O) : ¬ cmp a a < 0 := by rw [cmp_self]; omega
theorem same_z (x : O) : same x z = 0 := rfl
theorem same_eq (e : O) (n : Int) (r : O) : same e (c e n r) = n + same e r := by simp [same]
theorem same_ne {x e : O} (h : e ≠ x) (n : Int) (r : O) : same x (c e n r) = same x r := by simp [same, h]
theorem same_of_Lt {e x : O} (hx : ¬ cmp x e < 0) : ∀ {r : O}, Lt e r → same x r = 0
  | z, _ => rfl
  | c y n t, h => by
    have hy : y ≠ x := fun k => hx (k ▸ h.1)
    rw [same_ne hy]
    exact same_of_Lt hx h.2
theorem same_self {e : O} {n : Int} {r : O} (h : Lt e r) : same e (c e n r) = n := by
  rw [same_eq, same_of_Lt (not_lt_self e) h]; (clear h; omega)
theorem same_above {x e : O} {n : Int} {r : O} (h : Lt e r) (hx : 0 < cmp x e) : same x (c e n r) = 0 := by
  have hne : e ≠ x := fun k => by subst k; rw [cmp_self] at hx; (clear h; omega)
  rw [same_ne hne, same_of_Lt (by (clear h hne; omega)) h]
theorem same_ext : ∀ {a b : O}, NF a → NF b → (∀ x, same x a = same x b) → a = b
  | z, z, _, _, _ => rfl
  | z, c e n r, _, hb, h => by
    have := h e
    rw [same_self hb.2.2.1, same_z] at this
    have := hb.2.1
    (clear hb h; omega)
  | c e n r, z, ha, _, h => by
    have := h e
    rw [same_self ha.2.2.1, same_z] at this
    have := ha.2.1
    (clear ha h; omega)
  | c e n r, c e' n' r', ha, hb, h => by
    rcases cmp_range e e' with k | k | k
    · have h1 := h e'
      rw [same_self hb.2.2.1, same_above ha.2.2.1 (by have := cmp_swap e e'; (clear ha hb h h1; omega))] at h1
      have := hb.2.1
      (clear ha hb h k; omega)
    · have k' := cmp_eq _ _ k
      subst k'
      have h1 := h e
      rw [same_self ha.2.2.1, same_self hb.2.2.1] at h1
      subst h1
      have hr : r = r' := same_ext ha.2.2.2 hb.2.2.2 fun x => by
        by_cases hx : e = x
        · subst hx
          rw [same_of_Lt (not_lt_self e) ha.2.2.1, same_of_Lt (not_lt_self e) hb.2.2.1]
        · have := h x
          rw [same_ne hx, same_ne hx] at this
          exact this
      rw [hr]
    · have h1 := h e
      rw [same_self ha.2.2.1, same_above hb.2.2.1 (by (clear ha hb h h1; omega))] at h1
      have := ha.2.1
      (clear ha hb h k; omega)
theorem lt_of_first {x : O} : ∀ {a b : O}, NF a → NF b → same x a < same x b → (∀ y, 0 < cmp y x → same y a = same y b) → cmp a b < 0
  | z, z, _, _, h, _ => by simp [same] at h
  | z, c _ _ _, _, _, _, _ => by simp [cmp]
  | c e n r, z, ha, _, h, _ => by
    have := same_nonneg x ha
    rw [same_z] at h
    (clear ha; omega)
  | c e n r, c e' n' r', ha, hb, h, hy => by
    rcases cmp_range e e' with k | k | k
    · rw [cmp, if_pos (by (clear ha hb h hy; omega))]; (clear ha hb h hy; omega)
    · have k' := cmp_eq _ _ k
      subst k'
      rw [cmp, if_neg (by (clear ha hb h hy; omega))]
      rcases cmp_range x e with q | q | q
      · have hne : e ≠ x := fun z => by subst z; rw [cmp_self] at q; (clear ha hb k h hy; omega)
        have h1 := hy e (by have := cmp_swap x e; (clear ha hb h hy k hne; omega))
        rw [same_self ha.2.2.1, same_self hb.2.2.1] at h1
        subst h1
        rw [if_neg (by (clear ha k q hne hb h hy; omega)), if_neg (by (clear ha k q hne hb h hy; omega))]
        rw [same_ne hne, same_ne hne] at h
        refine lt_of_first ha.2.2.2 hb.2.2.2 h fun y hyx => ?_
        by_cases hye : e = y
        · subst hye
          rw [same_of_Lt (not_lt_self e) ha.2.2.1, same_of_Lt (not_lt_self e) hb.2.2.1]
        · have := hy y hyx
          rw [same_ne hye, same_ne hye] at this
          exact this
      · have q' := cmp_eq _ _ q
        subst q'
        rw [same_self ha.2.2.1, same_self hb.2.2.1] at h
        rw [if_pos h]; (clear ha hb h hy k q; omega)
      · rw [same_above ha.2.2.1 (by (clear ha hb h hy k; omega)), same_above hb.2.2.1 (by (clear ha hb h hy k; omega))] at h
        (clear ha hb hy k q; omega)
    · have hn := ha.2.1
      rcases cmp_range e x with q | q | q
      · have qx : 0 < cmp x e := by have := cmp_swap e x; (clear ha hb h hy k hn; omega)
        have qx' : 0 < cmp x e' := by
          have := cmp_trans e' e x (by have := cmp_swap e e'; (clear ha hb h hy hn q qx; omega)) (by (clear ha hb h hy k hn qx; omega))
          have := cmp_swap e' x
          (clear ha hb h hy k hn q qx; omega)
        rw [same_above ha.2.2.1 qx, same_above hb.2.2.1 qx'] at h
        (clear ha hb hy k hn q qx qx'; omega)
      · have q' := cmp_eq _ _ q
        subst q'
        rw [same_self ha.2.2.1, same_above hb.2.2.1 (by (clear ha hb hn h hy q; omega))] at h
        (clear ha hb k hy q; omega)
      · have h1 := hy e (by (clear ha hb h hy k hn; omega))
        rw [same_self ha.2.2.1, same_above hb.2.2.1 (by (clear ha hb h hy hn q h1; omega))] at h1
        (clear ha hb h hy k q; omega)
theorem first_of_lt : ∀ {a b : O}, NF a → NF b → cmp a b < 0 → ∃ x, same x a < same x b ∧ ∀ y, 0 < cmp y x → same y a = same y b
  | z, z, _, _, h => by simp [cmp] at h
  | z, c e n r, _, hb, _ => by
    refine ⟨e, ?_, fun y hy => ?_⟩
    · rw [same_self hb.2.2.1, same_z]; have := hb.2.1; assumption
    · rw [same_above hb.2.2.1 hy, same_z]
  | c _ _ _, z, _, _, h => by simp [cmp] at h
  | c e n r, c e' n' r', ha, hb, h => by
    rcases cmp_range e e' with k | k | k
    · refine ⟨e', ?_, fun y hy => ?_⟩
      · rw [same_self hb.2.2.1, same_above ha.2.2.1 (by have := cmp_swap e e'; (clear ha hb h; omega))]; have := hb.2.1; assumption
      · have hy2 : 0 < cmp y e := by
          have := cmp_trans e e' y (by (clear ha hb h hy; omega)) (by have := cmp_swap y e'; (clear ha hb h k; omega))
          have := cmp_swap e y
          (clear ha hb h k hy; omega)
        rw [same_above hb.2.2.1 hy, same_above ha.2.2.1 hy2]
    · have k' := cmp_eq _ _ k
      subst k'
      rw [cmp, if_neg (by (clear ha hb h; omega))] at h
      by_cases h1 : n < n'
      · refine ⟨e, ?_, fun y hy => ?_⟩
        · rw [same_self ha.2.2.1, same_self hb.2.2.1]; exact h1
        · rw [same_above hb.2.2.1 hy, same_above ha.2.2.1 hy]
      · rw [if_neg h1] at h
        by_cases h2 : n' < n
        · rw [if_pos h2] at h; (clear ha hb k h1 h2; omega)
        · rw [if_neg h2] at h
          have hn : n = n' := by (clear ha hb h k; omega)
          subst hn
          obtain ⟨x, hx, hy⟩ := first_of_lt ha.2.2.2 hb.2.2.2 h
          have hxe : cmp x e < 0 := by
            refine Classical.byContradiction fun q => ?_
            rw [same_of_Lt q ha.2.2.1, same_of_Lt q hb.2.2.1] at hx
            (clear ha h k hb h1 h2 hy q; omega)
          have hne : e ≠ x := fun z => by subst z; rw [cmp_self] at hxe; (clear ha h k hb h1 h2 hx hy; omega)
          refine ⟨x, by rw [same_ne hne, same_ne hne]; exact hx, fun y hyx => ?_⟩
          by_cases hye : e = y
          · subst hye
            rw [same_self ha.2.2.1, same_self hb.2.2.1]
          · rw [same_ne hye, same_ne hye]; exact hy y hyx
    · rw [cmp, if_pos (by (clear ha hb h; omega))] at h; (clear ha hb; omega)
end O
end Nm
namespace Nm
namespace O
noncomputable def mergeO : O → O → O
  | z, b => b
  | c e n r, z => c e n r
  | c e n r, c e' n' r' => if 0 < cmp e e' then c e n (mergeO r (c e' n' r')) else if cmp e e' < 0 then c e' n' (mergeO (c e n r) r') else c e (n + n') (mergeO r r')
termination_by a b => a.len + b.len
decreasing_by all_goals (simp only [len]; omega)
theorem merge_z (a : O) : mergeO a z = a := by cases a <;> simp [mergeO]
theorem z_merge (a : O) : mergeO z a = a := by simp [mergeO]
theorem merge_c (e : O) (n : Int) (r e' : O) (n' : Int) (r' : O) : mergeO (c e n r) (c e' n' r') = if 0 < cmp e e' then c e n (mergeO r (c e' n' r')) else if cmp e e' < 0 then c e' n' (mergeO (c e n r) r') else c e (n + n') (mergeO r r') := by rw [mergeO]
theorem same_c (x e : O) (n : Int) (r : O) : same x (c e n r) = (if e = x then n else 0) + same x r := by
  by_cases h : e = x
  · subst h; rw [same_eq, if_pos rfl]
  · rw [same_ne h, if_neg h]; (clear h; omega)
theorem same_merge (x : O) : ∀ (k : Nat) (a b : O), a.len + b.len ≤ k → same x (mergeO a b) = same x a + same x b
  | _, z, b, _ => by rw [z_merge, same_z]; omega
  | _, c e n r, z, _ => by rw [merge_z, same_z]; omega
  | 0, c e n r, c e' n' r', h => by simp only [len] at h; omega
  | k + 1, c e n r, c e' n' r', h => by
    simp only [len] at h
    rw [merge_c]
    by_cases h1 : 0 < cmp e e'
    · rw [if_pos h1, same_c x e, same_merge x k r (c e' n' r') (by simp only [len]; (clear h1; omega)), same_c x e n r]; (clear h h1; omega)
    · rw [if_neg h1]
      by_cases h2 : cmp e e' < 0
      · rw [if_pos h2, same_c x e', same_merge x k (c e n r) r' (by simp only [len]; (clear h1 h2; omega)), same_c x e' n' r']; (clear h h1 h2; omega)
      · have h3 := cmp_eq e e' (by (clear h; omega))
        subst h3
        rw [if_neg h2, same_c x e, same_merge x k r r' (by (clear h1 h2; omega)), same_c x e n r, same_c x e n' r']
        by_cases h4 : e = x
        · rw [if_pos h4, if_pos h4, if_pos h4]; (clear h h1 h2 h4; omega)
        · rw [if_neg h4, if_neg h4, if_neg h4]; (clear h h1 h2 h4; omega)
theorem same_merged (x a b : O) : same x (mergeO a b) = same x a + same x b := same_merge x _ a b (Nat.le_refl _)
theorem Lt.mono {e f : O} (h : cmp e f < 0) : ∀ {r : O}, Lt e r → Lt f r
  | z, _ => trivial
  | c _ _ _, k => ⟨cmp_trans _ _ _ k.1 h, Lt.mono h k.2⟩
theorem Lt.merge {g : O} : ∀ (k : Nat) (a b : O), a.len + b.len ≤ k → Lt g a → Lt g b → Lt g (mergeO a b)
  | _, z, b, _, _, hb => by rw [z_merge]; exact hb
  | _, c e n r, z, _, ha, _ => by rw [merge_z]; exact ha
  | 0, c e n r, c e' n' r', h, _, _ => by simp only [len] at h; omega
  | k + 1, c e n r, c e' n' r', h, ha, hb => by
    simp only [len] at h
    rw [merge_c]
    split
    · exact ⟨ha.1, Lt.merge k r _ (by simp only [len]; (clear ha hb; omega)) ha.2 hb⟩
    · split
      · exact ⟨hb.1, Lt.merge k _ r' (by simp only [len]; (clear ha hb; omega)) ha hb.2⟩
      · exact ⟨ha.1, Lt.merge k r r' (by (clear ha hb; omega)) ha.2 hb.2⟩
theorem NF.merge' : ∀ (k : Nat) (a b : O), a.len + b.len ≤ k → NF a → NF b → NF (mergeO a b)
  | _, z, b, _, _, hb => by rw [z_merge]; exact hb
  | _, c e n r, z, _, ha, _ => by rw [merge_z]; exact ha
  | 0, c e n r, c e' n' r', h, _, _ => by simp only [len] at h; omega
  | k + 1, c e n r, c e' n' r', h, ha, hb => by
    simp only [len] at h
    rw [merge_c]
    split
    · rename_i h1
      have hl : cmp e' e < 0 := by have := cmp_swap e e'; (clear h ha hb; omega)
      exact ⟨ha.1, ha.2.1, Lt.merge _ _ _ (Nat.le_refl _) ha.2.2.1 ⟨hl, hb.2.2.1.mono hl⟩, NF.merge' k r _ (by simp only [len]; (clear ha hb h1 hl; omega)) ha.2.2.2 hb⟩
    · split
      · rename_i h1 h2
        exact ⟨hb.1, hb.2.1, Lt.merge _ _ _ (Nat.le_refl _) ⟨h2, ha.2.2.1.mono h2⟩ hb.2.2.1, NF.merge' k _ r' (by simp only [len]; (clear ha hb h1 h2; omega)) ha hb.2.2.2⟩
      · rename_i h1 h2
        have h3 := cmp_eq e e' (by (clear h ha hb; omega))
        subst h3
        exact ⟨ha.1, by have := ha.2.1; have := hb.2.1; (clear h ha hb h1 h2; omega), Lt.merge _ _ _ (Nat.le_refl _) ha.2.2.1 hb.2.2.1, NF.merge' k r r' (by (clear ha hb h1 h2; omega)) ha.2.2.2 hb.2.2.2⟩
theorem NF.merge {a b : O} (ha : NF a) (hb : NF b) : NF (mergeO a b) := NF.merge' _ a b (Nat.le_refl _) ha hb
theorem merge_comm {a b : O} (ha : NF a) (hb : NF b) : mergeO a b = mergeO b a := same_ext (ha.merge hb) (hb.merge ha) fun x => by rw [same_merged, same_merged]; (clear ha hb; omega)
theorem merge_assoc {a b d : O} (ha : NF a) (hb : NF b) (hd : NF d) : mergeO (mergeO a b) d = mergeO a (mergeO b d) := same_ext ((ha.merge hb).merge hd) (ha.merge (hb.merge hd)) fun x => by simp only [same_merged]; (clear ha hb hd; omega)
theorem merge_lt {a b d : O} (ha : NF a) (hb : NF b) (hd : NF d) (h : cmp b d < 0) : cmp (mergeO a b) (mergeO a d) < 0 := by
  obtain ⟨x, hx, hy⟩ := first_of_lt hb hd h
  exact lt_of_first (x := x) (ha.merge hb) (ha.merge hd) (by simp only [same_merged]; (clear ha hb hd h hy; omega)) fun y hyx => by simp only [same_merged]; rw [hy y hyx]
end O
end Nm
namespace Nm
namespace O
noncomputable def getP : O → Nat → Option (O × Int)
  | z, _ => none
  | c e n _, 0 => some (e, n)
  | c _ _ r, i + 1 => getP r i
noncomputable def dropO : Nat → O → O
  | 0, a => a
  | _ + 1, z => z
  | i + 1, c _ _ r => dropO i r
theorem getP_none : ∀ {a : O} {i : Nat}, getP a i = none ↔ a.len ≤ i
  | z, i => by simp [getP, len]
  | c e n r, 0 => by simp [getP, len]
  | c e n r, i + 1 => by
    have := getP_none (a := r) (i := i)
    simp only [getP, len, this]; (clear this; omega)
theorem getP_some {a : O} {i : Nat} (h : i < a.len) : ∃ e n, getP a i = some (e, n) := by
  cases k : getP a i with
  | none => rw [getP_none] at k; omega
  | some p => exact ⟨p.1, p.2, rfl⟩
theorem dropO_get : ∀ {a : O} {i : Nat} {e : O} {n : Int}, getP a i = some (e, n) → dropO i a = c e n (dropO (i + 1) a)
  | z, _, _, _, h => by simp [getP] at h
  | c e n r, 0, _, _, h => by simp [getP] at h; obtain ⟨rfl, rfl⟩ := h; simp [dropO]
  | c e n r, i + 1, x, m, h => by
    have := dropO_get (a := r) (i := i) (e := x) (n := m) (by simpa [getP] using h)
    simpa [dropO] using this
theorem dropO_len : ∀ {a : O} {i : Nat}, a.len ≤ i → dropO i a = z
  | z, 0, _ => rfl
  | z, _ + 1, _ => rfl
  | c e n r, 0, h => by simp only [len] at h; omega
  | c e n r, i + 1, h => by
    simp only [len] at h
    exact dropO_len (a := r) (i := i) (by omega)
theorem len_dropO : ∀ (i : Nat) (a : O), (dropO i a).len = a.len - i
  | 0, a => rfl
  | _ + 1, z => by simp [dropO, len]
  | i + 1, c e n r => by
    have := len_dropO i r
    simp only [dropO, len, this]; omega
theorem getP_size : ∀ {a : O} {i : Nat} {e : O} {n : Int}, getP a i = some (e, n) → e.size < a.size ∧ e.dp < a.dp
  | z, _, _, _, h => by simp [getP] at h
  | c e n r, 0, _, _, h => by simp [getP] at h; obtain ⟨rfl, rfl⟩ := h; simp only [size, dp]; omega
  | c e n r, i + 1, x, m, h => by
    have := getP_size (a := r) (i := i) (e := x) (n := m) (by simpa [getP] using h)
    simp only [size, dp]; (clear h; omega)
noncomputable def stay (e a : O) : Nat := (filt (fun x _ => decide (0 < cmp x e)) a).len
end O
end Nm
namespace Nm
namespace O
noncomputable def mx : O → Int
  | z => 0
  | c e n r => max n (max (mx e) (mx r))
theorem dp_app : ∀ a b : O, dp (app a b) = max (dp a) (dp b)
  | z, b => by show dp b = max 0 (dp b); omega
  | c e n r, b => by
    show dp (c e n (app r b)) = _
    simp only [dp, dp_app r b]; rw [Nat.max_assoc]
structure Good (B : Int) (o : O) : Prop where
  nf : NF o
  sz : o.size ≤ 24
  mx : O.mx o ≤ B
end O
end Nm
namespace Nm
namespace O
section
variable {e : O} {n : Int} {r : O}
end
end O
end Nm
namespace Nm
namespace O
section
variable {e : O} {n : Int} {r : O}
end
end O
end Nm
namespace Nm
namespace O
end O
end Nm
namespace Nm
namespace O
noncomputable def hw : O → Nat
  | z => 0
  | c e _ r => max (len r + 1) (max (hw e) (hw r))
theorem len_app' : ∀ a b : O, (app a b).len = a.len + b.len
  | z, b => by simp [app, len]
  | c e n r, b => by have := len_app' r b; simp only [app, len]; omega
end O
end Nm
namespace Nm
namespace O
noncomputable def lessO : O → O
  | z => z
  | c e n z => if n = 1 then z else c e (n - 1) z
  | c e n (c e' n' r') => c e n (lessO (c e' n' r'))
noncomputable def lastE : O → O
  | z => z
  | c e _ z => e
  | c _ _ (c e' n' r') => lastE (c e' n' r')
theorem lt_of_Lt {e : O} {n : Int} {t : O} (h : Lt e t) : cmp t (c e n z) < 0 := by
  cases t with
  | z => simp [cmp]
  | c f d u =>
    have := h.1
    rw [cmp, if_pos (by (clear h; omega))]
    exact this
theorem app_z : ∀ a : O, app a z = a
  | z => rfl
  | c e n r => by show c e n (app r z) = _; rw [app_z r]
noncomputable def Lim (a : O) : Prop := a ≠ z ∧ same z a = 0
inductive Lad : O → Int → O → Prop where
  | suc {a : O} {n : Int} (h0 : a ≠ z) (h : lastE a = z) : Lad a n (lessO a)
  | lim {a : O} {n : Int} {o : O} (h0 : a ≠ z) (h : Lim (lastE a)) (k : Lad (lastE a) n o) : Lad a n (app (lessO a) (c o 1 z))
  | one {a : O} {n : Int} (h0 : a ≠ z) (h : lastE a ≠ z) (h' : ¬ Lim (lastE a)) : Lad a n (app (lessO a) (if n = 0 then z else c (lessO (lastE a)) n z))
end O
end Nm
namespace Nm
namespace O
theorem app_assoc : ∀ a b d : O, app (app a b) d = app a (app b d)
  | z, _, _ => rfl
  | c e k r, b, d => by show c e k (app (app r b) d) = c e k (app r (app b d)); rw [app_assoc r b d]
end O
end Nm
namespace Nm
namespace O
structure Rg (a b : O) (n : Int) : Prop where
  pos : 0 ≤ n
  pass : ∀ o, Lad a n o → cmp b o < 0
  least : 0 < n → ∀ o, Lad a (n - 1) o → ¬ cmp b o < 0
end O
end Nm
namespace Nm
namespace O
noncomputable def alike : O → O → Nat
  | c e n r, c e' n' r' => if e = e' ∧ n = n' then alike r r' + 1 else 0
  | _, _ => 0
end O
end Nm
namespace Nm
namespace O
end O
end Nm
namespace Nm
namespace O
noncomputable def wh (m : Int) : O := if m = 0 then z else c z m z
end O
end Nm
namespace Nm
namespace O
noncomputable abbrev one : O := c z 1 z
noncomputable abbrev lim (b : O) : O := filt (fun y _ => decide (¬ y = z)) b
end O
end Nm
namespace Nm
namespace O
section
variable {x : O} {n m : Int}
end
end O
end Nm
namespace Nm
namespace O
noncomputable abbrev w1 : O := c one 1 z
end O
end Nm
namespace Nm
namespace O
end O
end Nm
namespace Nm
namespace O
noncomputable def ot : O → Int
  | z => 0
  | c _ n r => max n (ot r)
end O
end Nm
namespace Nm
namespace O
end O
end Nm
namespace Nm
namespace O
noncomputable def val (b : Nat) : O → Nat
  | z => 0
  | c e n r => n.toNat * b ^ val b e + val b r
structure Wr (b : Nat) (a : O) : Prop where
  nf : NF a
  mx : O.mx a < b
end O
end Nm
namespace Nm
namespace O
noncomputable def tp (b : Nat) : O → Nat
  | z => 0
  | c e _ _ => val b e + 1
end O
end Nm
namespace Nm
namespace O
open Classical in
noncomputable def rep (b s : Nat) : O := if h : ∃ o, Wr b o ∧ val b o = s then choose h else z
noncomputable def tl (b : Nat) : Nat → O
  | 0 => z
  | s + 1 => c (rep b s) ((b : Int) - 1) (tl b s)
end O
end Nm
namespace Nm
namespace O
inductive Wy (b : Nat) : O → Prop where
  | z : Wy b z
  | c {a : O} (h0 : a ≠ O.z) (nf : NF a) (w : Wr b (lessO a)) (k : Wy b (lastE a)) : Wy b a
end O
end Nm
namespace Nm
namespace O
end O
end Nm
namespace Nm
namespace O
noncomputable def xb (b : Nat) : Nat := if b * b ≤ 55 then b else 54 / b + 1
noncomputable def topO (b : Nat) : O := if b < 56 then c (c z 1 z) (xb b : Int) z else c z 55 z
structure Rw (b k : Nat) (a : O) : Prop where
  wr : Wr (b + k) a
  top : Lt (topO b) a
  tp : O.tp (b + k) a ≤ 200
end O
end Nm
namespace Nm
namespace O
structure Hi (b : Nat) (a p e : O) (n : Int) : Prop where
  app : a = O.app p (c e n z)
  wp : Wr b p
  we : Wr b e
  n1 : 1 ≤ n
  n2 : n < b
  last : lastE a = e
  div : ∃ q, val b p = q * b ^ (val b e + 1)
  lt : p ≠ z → cmp e (lastE p) < 0
  dp : p.dp ≤ a.dp
  de : e.dp < a.dp
  top : ∀ x, Lt x a → Lt x p
end O
end Nm
namespace Nm
namespace O
end O
end Nm
namespace Nm
inductive Tr where
  | z
  | c (b r : Tr)
namespace Tr
noncomputable def pts : Tr → Nat
  | z => 1
  | c b r => pts b + pts r
noncomputable def dp : Tr → Nat
  | z => 0
  | c b r => max (dp b + 1) (dp r)
noncomputable def len : Tr → Nat
  | z => 0
  | c _ r => len r + 1
noncomputable def ofL : List Tr → Tr
  | [] => z
  | b :: l => c b (ofL l)
theorem pts_pos : ∀ t : Tr, 1 ≤ pts t
  | z => Nat.le_refl _
  | c b r => by have := pts_pos r; show 1 ≤ pts b + pts r; omega
theorem len_pts : ∀ t : Tr, len t + 1 ≤ pts t
  | z => Nat.le_refl _
  | c b r => by
    have := pts_pos b
    have := len_pts r
    show len r + 1 + 1 ≤ pts b + pts r
    omega
theorem pts_ofL : ∀ l : List Tr, pts (ofL l) = 1 + (l.map pts).sum
  | [] => rfl
  | b :: l => by
    have := pts_ofL l
    show pts b + pts (ofL l) = 1 + ((b :: l).map pts).sum
    rw [List.map_cons, List.sum_cons]
    omega
theorem dp_ofL {d : Nat} : ∀ {l : List Tr}, (∀ b, b ∈ l → dp b + 1 ≤ d) → dp (ofL l) ≤ d
  | [], _ => Nat.zero_le _
  | b :: l, h => by
    have h1 := h b List.mem_cons_self
    have h2 := dp_ofL (l := l) fun x hx => h x (List.mem_cons_of_mem _ hx)
    show max (dp b + 1) (dp (ofL l)) ≤ d
    (clear h; omega)
noncomputable def sm (f : Nat → Nat) : Nat → Nat
  | 0 => 0
  | n + 1 => sm f n + f n
theorem sm_congr {f g : Nat → Nat} : ∀ {n : Nat}, (∀ v, v < n → f v = g v) → sm f n = sm g n
  | 0, _ => rfl
  | n + 1, h => by
    show sm f n + f n = sm g n + g n
    rw [sm_congr fun v hv => h v (by (clear h; omega)), h n (by (clear h; omega))]
theorem sm_add {f g : Nat → Nat} : ∀ n : Nat, sm (fun v => f v + g v) n = sm f n + sm g n
  | 0 => rfl
  | n + 1 => by
    have := sm_add (f := f) (g := g) n
    show sm (fun v => f v + g v) n + (f n + g n) = sm f n + f n + (sm g n + g n)
    omega
theorem sm_one : ∀ n : Nat, sm (fun _ => 1) n = n
  | 0 => rfl
  | n + 1 => by show sm (fun _ => 1) n + 1 = n + 1; rw [sm_one n]
theorem sm_at {f : Nat → Nat} {a d : Nat} : ∀ {n : Nat}, a < n → sm (fun v => if v = a then f v + d else f v) n = sm f n + d
  | 0, h => by omega
  | n + 1, h => by
    show sm (fun v => if v = a then f v + d else f v) n + (if n = a then f n + d else f n) = sm f n + f n + d
    by_cases e : n = a
    · subst e
      rw [if_pos rfl, sm_congr (g := f) fun v hv => if_neg (by (clear h; omega))]
      (clear h; omega)
    · rw [if_neg e, sm_at (n := n) (by omega)]
      (clear h e; omega)
structure Hang (n M : Nat) (ch : Nat → List Nat) (ds : Nat → Nat) : Prop where
  pos : 1 ≤ n
  d0 : ds 0 = 0
  in_ : ∀ v, v < n → ∀ j, j ∈ ch v → v < j ∧ j < n ∧ ds j = ds v + 1
  dp : ∀ v, v < n → ds v ≤ M
  sum : ∀ f : Nat → Nat, sm (fun v => ((ch v).map f).sum) n + f 0 = sm f n
  len : ∀ v, v < n → (ch v).length ≤ n
theorem hang0 {M : Nat} : Hang 1 M (fun _ => []) (fun _ => 0) := by
  refine ⟨Nat.le_refl _, rfl, fun v _ j hj => (by cases hj), fun _ _ => Nat.zero_le _, fun f => ?_, fun _ _ => Nat.zero_le _⟩
  show 0 + (([] : List Nat).map f).sum + f 0 = 0 + f 0
  simp
theorem sum_split (f : Nat → Nat) (l : List Nat) (k y : Nat) : ((l.take k ++ y :: l.drop k).map f).sum = (l.map f).sum + f y := by
  rw [List.map_append, List.map_cons, List.sum_append, List.sum_cons]
  have : (l.map f).sum = ((l.take k).map f).sum + ((l.drop k).map f).sum := by
    rw [← List.sum_append, ← List.map_append, List.take_append_drop]
  omega
theorem Hang.more {n M a k : Nat} {ch : Nat → List Nat} {ds : Nat → Nat} (h : Hang n M ch ds) (ha : a < n) (hd : ds a < M) :
    Hang (n + 1) M (fun v => if v = a then (ch v).take k ++ n :: (ch v).drop k else if v = n then [] else ch v) (fun v => if v = n then ds a + 1 else ds v) := by
  have hp := h.pos
  refine ⟨by (clear h ha hd; omega), ?_, fun v hv j hj => ?_, fun v hv => ?_, fun f => ?_, fun v hv => ?_⟩
  · rw [if_neg (by (clear h ha hd; omega))]; exact h.d0
  · by_cases e : v = a
    · subst e
      (try dsimp only at hj ⊢)
      rw [if_pos rfl] at hj
      rw [if_neg (show v ≠ n by (clear h hp hv hd hj; omega))]
      rcases List.mem_append.mp hj with m | m
      · obtain ⟨h1, h2, h3⟩ := h.in_ v ha j (List.mem_of_mem_take m)
        exact ⟨h1, by (clear h hp hv ha hd hj m h1 h3; omega), by rw [if_neg (by (clear h hp hv ha hd hj m h1 h3; omega))]; exact h3⟩
      · rcases List.mem_cons.mp m with rfl | m
        · exact ⟨ha, by (clear hd h hp hv ha hj m; omega), by rw [if_pos rfl]⟩
        · obtain ⟨h1, h2, h3⟩ := h.in_ v ha j (List.mem_of_mem_drop m)
          exact ⟨h1, by (clear h hp hv ha hd hj m h1 h3; omega), by rw [if_neg (by (clear h hp hv ha hd hj m h1 h3; omega))]; exact h3⟩
    · (try dsimp only at hj ⊢)
      rw [if_neg e] at hj
      by_cases e2 : v = n
      · rw [if_pos e2] at hj; cases hj
      · rw [if_neg e2] at hj
        obtain ⟨h1, h2, h3⟩ := h.in_ v (by (clear h ha hd hp hj e; omega)) j hj
        exact ⟨h1, by (clear h ha hd hp hv hj e e2 h1 h3; omega), by rw [if_neg (by (clear h ha hd hp hv hj e e2 h1 h3; omega)), if_neg e2]; exact h3⟩
  · (try dsimp only)
    by_cases e : v = n
    · rw [if_pos e]; assumption
    · rw [if_neg e]; exact h.dp v (by (clear h ha hd hp; omega))
  · have e1 : sm (fun v => ((if v = a then (ch v).take k ++ n :: (ch v).drop k else if v = n then [] else ch v).map f).sum) n = sm (fun v => if v = a then ((ch v).map f).sum + f n else ((ch v).map f).sum) n := by
      refine sm_congr fun v hv => ?_
      by_cases e : v = a
      · rw [if_pos e, if_pos e, sum_split]
      · rw [if_neg e, if_neg e, if_neg (by (clear h ha hd hp e; omega))]
    have e2 := sm_at (f := fun v => ((ch v).map f).sum) (d := f n) ha
    have e3 := h.sum f
    show sm _ n + ((if n = a then _ else if n = n then [] else ch n).map f).sum + f 0 = sm f n + f n
    rw [if_neg (show n ≠ a by (clear h hd hp e1 e2 e3; omega)), if_pos rfl, e1, e2]
    show sm _ n + f n + 0 + f 0 = sm f n + f n
    (clear h ha hd hp e1 e2; omega)
  · (try dsimp only)
    by_cases e : v = a
    · rw [if_pos e, List.length_append, List.length_cons, List.length_take, List.length_drop]
      have := h.len v (by (clear h hd hp hv; omega))
      (clear h ha hd hp hv e; omega)
    · rw [if_neg e]
      by_cases e2 : v = n
      · rw [if_pos e2]; exact Nat.zero_le _
      · rw [if_neg e2]
        have := h.len v (by (clear h ha hd hp e; omega))
        (clear h ha hd hp hv e e2; omega)
structure Grown (n M k : Nat) (ch : Nat → List Nat) (ds : Nat → Nat) (t : Nat → Tr) : Prop where
  pts : ∀ v, k ≤ v → v < n → Tr.pts (t v) = 1 + ((ch v).map fun j => Tr.pts (t j)).sum
  dp : ∀ v, k ≤ v → v < n → Tr.dp (t v) + ds v ≤ M
theorem Grown.start {n M : Nat} {ch : Nat → List Nat} {ds : Nat → Nat} {t : Nat → Tr} : Grown n M n ch ds t := ⟨fun v h1 h2 => by omega, fun v h1 h2 => by omega⟩
theorem Grown.step {n M k : Nat} {ch : Nat → List Nat} {ds : Nat → Nat} {t : Nat → Tr} (h : Hang n M ch ds) (g : Grown n M (k + 1) ch ds t) (hk : k < n) : Grown n M k ch ds (fun v => if v = k then ofL ((ch k).map t) else t v) := by
  have key : ∀ v, k ≤ v → v < n → ((ch v).map fun j => Tr.pts (if j = k then ofL ((ch k).map t) else t j)) = (ch v).map fun j => Tr.pts (t j) := fun v h1 h2 => by
    refine List.map_congr_left fun j hj => ?_
    have := h.in_ v h2 j hj
    rw [if_neg (by (clear h g hk h2 hj; omega))]
  refine ⟨fun v h1 h2 => ?_, fun v h1 h2 => ?_⟩
  · (try dsimp only)
    rw [key v h1 h2]
    by_cases e : v = k
    · subst e
      rw [if_pos rfl, pts_ofL, List.map_map]
      rfl
    · rw [if_neg e]; exact g.pts v (by (clear h g hk key h2; omega)) h2
  · (try dsimp only)
    by_cases e : v = k
    · subst e
      rw [if_pos rfl]
      have hM := h.dp v h2
      have : Tr.dp (ofL ((ch v).map t)) ≤ M - ds v := dp_ofL fun b hb => by
        obtain ⟨j, hj, rfl⟩ := List.mem_map.mp hb
        obtain ⟨h3, h4, h5⟩ := h.in_ v h2 j hj
        have := g.dp j (by assumption) h4
        (clear h h2 g hk key h1 hj hb h3 h4; omega)
      (clear h h2 g hk key h1; omega)
    · rw [if_neg e]; exact g.dp v (by (clear h g hk key h2; omega)) h2
theorem Grown.root {n M : Nat} {ch : Nat → List Nat} {ds : Nat → Nat} {t : Nat → Tr} (h : Hang n M ch ds) (g : Grown n M 0 ch ds t) : Tr.pts (t 0) = n ∧ Tr.dp (t 0) ≤ M := by
  have hp := h.pos
  have e1 := h.sum fun j => Tr.pts (t j)
  have e2 : sm (fun v => Tr.pts (t v)) n = n + sm (fun v => ((ch v).map fun j => Tr.pts (t j)).sum) n := by
    rw [sm_congr (g := fun v => 1 + ((ch v).map fun j => Tr.pts (t j)).sum) fun v hv => g.pts v (Nat.zero_le _) hv, sm_add, sm_one]
  have e3 := g.dp 0 (Nat.le_refl _) (by assumption)
  rw [h.d0] at e3
  exact ⟨by (clear h g hp e3; omega), by assumption⟩
end Tr
end Nm
namespace Nm
namespace Tr
open O
noncomputable def nO : Tr → O
  | z => .z
  | c b r => mergeO (.c (nO b) 1 .z) (nO r)
theorem one_nf {x : O} (h : x.NF) : (O.c x 1 .z).NF := ⟨h, by decide, trivial, trivial⟩
theorem nO_nf : ∀ t : Tr, (nO t).NF
  | z => trivial
  | c b r => (one_nf (nO_nf b)).merge (nO_nf r)
theorem dp_merge : ∀ (k : Nat) (a b : O), a.len + b.len ≤ k → (mergeO a b).dp ≤ max a.dp b.dp ∧ (mergeO a b).len ≤ a.len + b.len
  | k, .z, b, _ => by rw [z_merge]; exact ⟨Nat.le_max_right _ _, Nat.le_add_left _ _⟩
  | k, .c e n r, .z, _ => by rw [merge_z]; exact ⟨Nat.le_max_left _ _, Nat.le_add_right _ _⟩
  | 0, .c e n r, .c e' n' r', h => by simp only [O.len] at h; omega
  | k + 1, .c e n r, .c e' n' r', h => by
    have h1 : r.len + 1 + (r'.len + 1) ≤ k + 1 := h
    clear h
    have xl : ∀ {x y m : Nat}, x ≤ m → y ≤ m → max x y ≤ m := fun p q => Nat.max_le.mpr ⟨p, q⟩
    have e1 : e.dp + 1 ≤ max (O.c e n r).dp (O.c e' n' r').dp := Nat.le_trans (Nat.le_max_left (e.dp + 1) r.dp) (Nat.le_max_left _ _)
    have e2 : e'.dp + 1 ≤ max (O.c e n r).dp (O.c e' n' r').dp := Nat.le_trans (Nat.le_max_left (e'.dp + 1) r'.dp) (Nat.le_max_right _ _)
    have r1 : r.dp ≤ max (O.c e n r).dp (O.c e' n' r').dp := Nat.le_trans (Nat.le_max_right (e.dp + 1) r.dp) (Nat.le_max_left _ _)
    have r2 : r'.dp ≤ max (O.c e n r).dp (O.c e' n' r').dp := Nat.le_trans (Nat.le_max_right (e'.dp + 1) r'.dp) (Nat.le_max_right _ _)
    rw [merge_c]
    split
    · have h2 := dp_merge k r (.c e' n' r') (show r.len + (r'.len + 1) ≤ k by (clear xl e1 e2 r1 r2; omega))
      exact ⟨xl e1 (Nat.le_trans h2.1 (xl r1 (Nat.le_max_right _ _))), show (mergeO r (.c e' n' r')).len + 1 ≤ r.len + 1 + (r'.len + 1) from Nat.le_trans (Nat.succ_le_succ h2.2) (Nat.le_of_eq (Nat.succ_add _ _).symm)⟩
    · split
      · have h2 := dp_merge k (.c e n r) r' (show r.len + 1 + r'.len ≤ k by (clear xl e1 e2 r1 r2; omega))
        exact ⟨xl e2 (Nat.le_trans h2.1 (xl (Nat.le_max_left _ _) r2)), Nat.succ_le_succ h2.2⟩
      · have h2 := dp_merge k r r' (by (clear xl e1 e2 r1 r2; omega))
        refine ⟨xl e1 (Nat.le_trans h2.1 (xl r1 r2)), ?_⟩
        have h3 := h2.2
        show (mergeO r r').len + 1 ≤ r.len + 1 + (r'.len + 1)
        clear h2 e1 e2 r1 r2 xl
        (clear h1; omega)
theorem nO_dp : ∀ t : Tr, (nO t).dp ≤ dp t ∧ (nO t).len ≤ len t
  | z => ⟨Nat.le_refl _, Nat.le_refl _⟩
  | c b r => by
    have h1 := nO_dp b
    have h2 := nO_dp r
    have h3 := dp_merge _ (.c (nO b) 1 .z) (nO r) (Nat.le_refl _)
    show (mergeO (.c (nO b) 1 .z) (nO r)).dp ≤ max (dp b + 1) (dp r) ∧ (mergeO (.c (nO b) 1 .z) (nO r)).len ≤ len r + 1
    simp only [O.dp, O.len] at h3
    omega
noncomputable def app : Tr → Tr → Tr
  | z, u => u
  | c b r, u => c b (app r u)
theorem nO_app : ∀ t u : Tr, nO (app t u) = mergeO (nO t) (nO u)
  | z, u => by show nO u = mergeO .z (nO u); rw [z_merge]
  | c b r, u => by
    show mergeO (.c (nO b) 1 .z) (nO (app r u)) = mergeO (mergeO (.c (nO b) 1 .z) (nO r)) (nO u)
    rw [nO_app r u, merge_assoc (one_nf (nO_nf b)) (nO_nf r) (nO_nf u)]
theorem pts_app : ∀ t u : Tr, pts (app t u) + 1 = pts t + pts u
  | z, u => by show pts u + 1 = 1 + pts u; omega
  | c b r, u => by
    have := pts_app r u
    show pts b + pts (app r u) + 1 = pts b + pts r + pts u
    omega
theorem dp_app : ∀ t u : Tr, dp (app t u) = max (dp t) (dp u)
  | z, u => by show dp u = max 0 (dp u); omega
  | c b r, u => by
    have := dp_app r u
    show max (dp b + 1) (dp (app r u)) = max (max (dp b + 1) (dp r)) (dp u)
    rw [this, Nat.max_assoc]
noncomputable def getT : Tr → Nat → Option Tr
  | z, _ => none
  | c b _, 0 => some b
  | c _ r, i + 1 => getT r i
theorem getT_lt : ∀ {t : Tr} {i : Nat}, i < len t → ∃ b, getT t i = some b
  | z, _, h => by simp [len] at h
  | c b r, 0, _ => ⟨b, rfl⟩
  | c b r, i + 1, h => getT_lt (t := r) (by simp only [len] at h; omega)
theorem getT_some : ∀ {t b : Tr} {i : Nat}, getT t i = some b → i < len t ∧ pts b < pts t ∧ dp b < dp t
  | z, _, _, h => by cases h
  | c b r, x, 0, h => by
    cases h
    have := pts_pos r
    exact ⟨Nat.succ_pos _, by show pts b < pts b + pts r; omega, by show dp b < max (dp b + 1) (dp r); (clear this; omega)⟩
  | c b r, x, i + 1, h => by
    obtain ⟨h1, h2, h3⟩ := getT_some (t := r) h
    have := pts_pos b
    exact ⟨by simp only [len]; (clear h h2 h3 this; omega), by show pts x < pts b + pts r; (clear h h1 h3; omega), by show dp x < max (dp b + 1) (dp r); (clear h h1 h2 this; omega)⟩
noncomputable def setT : Tr → Nat → Tr → Tr
  | z, _, _ => z
  | c _ r, 0, u => app u r
  | c b r, i + 1, u => c b (setT r i u)
theorem set_nO : ∀ {t b : Tr} {i : Nat}, getT t i = some b → ∃ R : O, R.NF ∧ nO t = mergeO R (.c (nO b) 1 .z) ∧ ∀ u, nO (setT t i u) = mergeO R (nO u)
  | z, _, _, h => by cases h
  | c b r, x, 0, h => by
    cases h
    refine ⟨nO r, nO_nf r, merge_comm (one_nf (nO_nf b)) (nO_nf r), fun u => ?_⟩
    show nO (app u r) = _
    rw [nO_app, merge_comm (nO_nf u) (nO_nf r)]
  | c b r, x, i + 1, h => by
    obtain ⟨R, h1, h2, h3⟩ := set_nO (t := r) h
    refine ⟨mergeO (.c (nO b) 1 .z) R, (one_nf (nO_nf b)).merge h1, ?_, fun u => ?_⟩
    · show mergeO (.c (nO b) 1 .z) (nO r) = _
      rw [h2, merge_assoc (one_nf (nO_nf b)) h1 (one_nf (nO_nf x))]
    · show mergeO (.c (nO b) 1 .z) (nO (setT r i u)) = _
      rw [h3, merge_assoc (one_nf (nO_nf b)) h1 (nO_nf u)]
theorem set_lt {t b u : Tr} {i : Nat} (h : getT t i = some b) (hu : O.Lt (nO b) (nO u)) : cmp (nO (setT t i u)) (nO t) < 0 := by
  obtain ⟨R, h1, h2, h3⟩ := set_nO h
  rw [h2, h3]
  exact merge_lt h1 (nO_nf u) (one_nf (nO_nf b)) (lt_of_Lt hu)
theorem set_pts : ∀ {t b u : Tr} {i : Nat}, getT t i = some b → pts (setT t i u) + pts b + 1 = pts t + pts u
  | z, _, _, _, h => by cases h
  | c b r, x, u, 0, h => by
    cases h
    have := pts_app u r
    show pts (app u r) + pts b + 1 = pts b + pts r + pts u
    omega
  | c b r, x, u, i + 1, h => by
    have := set_pts (t := r) (u := u) h
    show pts b + pts (setT r i u) + pts x + 1 = pts b + pts r + pts u
    (clear h; omega)
theorem set_dp : ∀ (t u : Tr) (i : Nat), dp (setT t i u) ≤ max (dp t) (dp u)
  | z, u, i => by show 0 ≤ _; omega
  | c b r, u, 0 => by
    have := dp_app u r
    show dp (app u r) ≤ max (max (dp b + 1) (dp r)) (dp u)
    rw [this]
    exact Nat.max_le.mpr ⟨Nat.le_max_right _ _, Nat.le_trans (Nat.le_max_right _ _) (Nat.le_max_left _ _)⟩
  | c b r, u, i + 1 => by
    have := set_dp r u i
    show max (dp b + 1) (dp (setT r i u)) ≤ max (max (dp b + 1) (dp r)) (dp u)
    exact Nat.max_le.mpr ⟨Nat.le_trans (Nat.le_max_left _ _) (Nat.le_max_left _ _), Nat.le_trans this (Nat.max_le.mpr ⟨Nat.le_trans (Nat.le_max_right _ _) (Nat.le_max_left _ _), Nat.le_max_right _ _⟩)⟩
noncomputable def reps (b : Tr) : Nat → Tr
  | 0 => z
  | n + 1 => c b (reps b n)
theorem reps_pts (b : Tr) : ∀ n, pts (reps b n) = 1 + n * pts b
  | 0 => by show 1 = 1 + 0 * pts b; omega
  | n + 1 => by
    have := reps_pts b n
    show pts b + pts (reps b n) = 1 + (n + 1) * pts b
    rw [Nat.succ_mul]
    omega
theorem reps_dp (b : Tr) : ∀ n, dp (reps b n) ≤ dp b + 1
  | 0 => Nat.zero_le _
  | n + 1 => by
    have := reps_dp b n
    show max (dp b + 1) (dp (reps b n)) ≤ _
    omega
theorem reps_Lt {b : Tr} {x : O} (h : cmp (nO b) x < 0) : ∀ n, O.Lt x (nO (reps b n))
  | 0 => trivial
  | n + 1 => O.Lt.merge _ _ _ (Nat.le_refl _) ⟨h, trivial⟩ (reps_Lt h n)
noncomputable def subT : Tr → List Nat → Option Tr
  | t, [] => some t
  | t, i :: w => match getT t i with
    | some b => subT b w
    | none => none
theorem subT_cons {t : Tr} {i : Nat} {w : List Nat} {s : Tr} (h : subT t (i :: w) = some s) : ∃ b, getT t i = some b ∧ subT b w = some s := by
  unfold subT at h
  split at h
  · rename_i b hb
    exact ⟨b, hb, h⟩
  · cases h
theorem subT_snoc : ∀ {t s b : Tr} {w : List Nat} {i : Nat}, subT t w = some s → getT s i = some b → subT t (w ++ [i]) = some b
  | t, s, b, [], i, h, hb => by
    cases h
    show subT t [i] = some b
    unfold subT
    rw [hb]
    rfl
  | t, s, b, j :: w, i, h, hb => by
    obtain ⟨x, h1, h2⟩ := subT_cons h
    show subT t (j :: (w ++ [i])) = some b
    unfold subT
    rw [h1]
    exact subT_snoc h2 hb
theorem subT_pts : ∀ {w : List Nat} {t s : Tr}, subT t w = some s → pts s ≤ pts t ∧ dp s + w.length ≤ dp t
  | [], t, s, h => by cases h; exact ⟨Nat.le_refl _, Nat.le_refl _⟩
  | i :: w, t, s, h => by
    obtain ⟨b, h1, h2⟩ := subT_cons h
    have := getT_some h1
    have := subT_pts h2
    simp only [List.length_cons]
    (clear h h1 h2; omega)
noncomputable def cutT (m : Nat) : Tr → List Nat → Tr
  | t, [] => t
  | t, [i] => setT t i z
  | t, [i, j] => match getT t i with
    | some b => setT t i (reps (setT b j z) (1 + m))
    | none => t
  | t, i :: j :: k :: w => match getT t i with
    | some b => setT t i (c (cutT m b (j :: k :: w)) z)
    | none => t
theorem cut_one {m : Nat} {t : Tr} {i : Nat} : cutT m t [i] = setT t i z := by rw [cutT]
theorem cut_two {m : Nat} {t b : Tr} {i j : Nat} (h : getT t i = some b) : cutT m t [i, j] = setT t i (reps (setT b j z) (1 + m)) := by rw [cutT, h]
theorem cut_more {m : Nat} {t b : Tr} {i j k : Nat} {w : List Nat} (h : getT t i = some b) : cutT m t (i :: j :: k :: w) = setT t i (c (cutT m b (j :: k :: w)) z) := by rw [cutT, h]
theorem cut_ok {m : Nat} : ∀ {w : List Nat} {t : Tr}, w ≠ [] → subT t w = some z → cmp (nO (cutT m t w)) (nO t) < 0 ∧ pts (cutT m t w) ≤ (m + 1) * pts t ∧ dp (cutT m t w) ≤ dp t
  | [], _, h, _ => absurd rfl h
  | [i], t, _, h => by
    obtain ⟨b, h1, h2⟩ := subT_cons h
    rw [cut_one]
    have p := set_pts (u := z) h1
    have q : 1 * pts t ≤ (m + 1) * pts t := Nat.mul_le_mul_right _ (by (clear h h1 h2 p; omega))
    have d := set_dp t z i
    have e1 : pts z = 1 := rfl
    have e2 : dp z = 0 := rfl
    exact ⟨set_lt h1 trivial, by (clear h h1 h2 d e2; omega), by (clear h h1 h2 p q e1; omega)⟩
  | [i, j], t, _, h => by
    obtain ⟨b, h1, h2⟩ := subT_cons h
    obtain ⟨x, h3, h4⟩ := subT_cons h2
    rw [cut_two h1]
    have l := set_lt (u := z) h3 trivial
    have p := set_pts (u := reps (setT b j z) (1 + m)) h1
    have p2 := set_pts (u := z) h3
    have p3 := reps_pts (setT b j z) (1 + m)
    have d := set_dp t (reps (setT b j z) (1 + m)) i
    have d2 := reps_dp (setT b j z) (1 + m)
    have d3 := set_dp b z j
    have g := getT_some h1
    have e1 : pts z = 1 := rfl
    have e2 : dp z = 0 := rfl
    have q1 : (1 + m) * pts (setT b j z) ≤ (1 + m) * pts b := Nat.mul_le_mul_left _ (by (clear h h1 h2 h3 h4 l p p3 d d2 d3 g e2; omega))
    have q2 : (1 + m) * pts b = pts b + m * pts b := by rw [Nat.add_mul, Nat.one_mul]
    have q3 : m * pts b ≤ m * pts t := Nat.mul_le_mul_left _ (by (clear h h1 h2 h3 h4 l p p3 d d2 d3 e2 q1; omega))
    have q4 : (m + 1) * pts t = m * pts t + pts t := by rw [Nat.add_mul, Nat.one_mul]
    exact ⟨set_lt h1 (reps_Lt l _), by (clear h h1 h2 h3 h4 l d d2 d3 g e2; omega), by (clear h h1 h2 h3 h4 l p p2 p3 e1 q1 q2 q3 q4; omega)⟩
  | i :: j :: k :: w, t, _, h => by
    obtain ⟨b, h1, h2⟩ := subT_cons h
    obtain ⟨i1, i2, i3⟩ := cut_ok (m := m) (w := j :: k :: w) (t := b) (fun z => by cases z) h2
    rw [cut_more h1]
    have p := set_pts (u := c (cutT m b (j :: k :: w)) z) h1
    have d := set_dp t (c (cutT m b (j :: k :: w)) z) i
    have g := getT_some h1
    have e1 : pts (c (cutT m b (j :: k :: w)) z) = pts (cutT m b (j :: k :: w)) + 1 := rfl
    have e2 : dp (c (cutT m b (j :: k :: w)) z) = max (dp (cutT m b (j :: k :: w)) + 1) 0 := rfl
    have q2 : (m + 1) * pts b = m * pts b + pts b := by rw [Nat.add_mul, Nat.one_mul]
    have q3 : m * pts b ≤ m * pts t := Nat.mul_le_mul_left _ (by (clear h h1 h2 i1 i2 i3 p d e1 e2 q2; omega))
    have q4 : (m + 1) * pts t = m * pts t + pts t := by rw [Nat.add_mul, Nat.one_mul]
    exact ⟨set_lt h1 (reps_Lt i1 1), by (clear h h1 h2 i1 i3 d g e2; omega), by (clear h h1 h2 i1 i2 p e1 q2 q3 q4; omega)⟩
end Tr
end Nm
namespace Nm
namespace Tr
open O
end Tr
end Nm
namespace Nm
namespace Tr
open O
end Tr
end Nm
namespace Nm
namespace Tr
theorem sub_last : ∀ {w : List Nat} {t s : Tr}, w ≠ [] → subT t w = some z → subT t (w.take (w.length - 1)) = some s → 2 ≤ s.pts ∧ ∃ i, w = w.take (w.length - 1) ++ [i] ∧ getT s i = some z
  | [], _, _, h, _, _ => absurd rfl h
  | [i], t, s, _, h, hs => by
    cases hs
    obtain ⟨b, h1, h2⟩ := subT_cons h
    cases h2
    have g := getT_some h1
    have : pts z = 1 := rfl
    exact ⟨by (clear h h1; omega), i, rfl, h1⟩
  | i :: j :: w, t, s, _, h, hs => by
    obtain ⟨b, h1, h2⟩ := subT_cons h
    have e : (i :: j :: w).take ((i :: j :: w).length - 1) = i :: (j :: w).take ((j :: w).length - 1) := rfl
    rw [e] at hs ⊢
    obtain ⟨b', h3, h4⟩ := subT_cons hs
    rw [h1] at h3; cases h3
    obtain ⟨p, k, e1, e2⟩ := sub_last (w := j :: w) (fun z => by cases z) h2 h4
    exact ⟨p, k, by rw [List.cons_append, ← e1], e2⟩
theorem sub_prefix : ∀ {w : List Nat} {t e : Tr} (k : Nat), subT t w = some e → ∃ s, subT t (w.take k) = some s ∧ subT s (w.drop k) = some e
  | _, t, _, 0, h => ⟨t, by rw [List.take_zero]; rfl, by rw [List.drop_zero]; exact h⟩
  | [], t, _, k + 1, h => ⟨t, rfl, h⟩
  | i :: w, t, e, k + 1, h => by
    obtain ⟨b, h1, h2⟩ := subT_cons h
    obtain ⟨s, h3, h4⟩ := sub_prefix k h2
    refine ⟨s, ?_, h4⟩
    rw [List.take_succ_cons]
    unfold subT
    rw [h1]
    exact h3
theorem sub_next : ∀ {w : List Nat} {t s : Tr} {k i : Nat}, subT t (w.take k) = some s → w[k]? = some i → subT t (w.take (k + 1)) = getT s i
  | [], _, _, _, _, _, h => by simp at h
  | j :: w, t, s, 0, i, h, hi => by
    cases h
    cases hi
    show subT t [j] = getT t j
    unfold subT
    cases getT t j with
    | none => rfl
    | some b => rfl
  | j :: w, t, s, k + 1, i, h, hi => by
    rw [List.take_succ_cons] at h ⊢
    obtain ⟨b, h1, h2⟩ := subT_cons h
    show subT t (j :: w.take (k + 1)) = _
    unfold subT
    rw [h1]
    exact sub_next h2 hi
end Tr
end Nm
namespace Nm
namespace Tr
open O
end Tr
end Nm
namespace Nm
namespace Tr
noncomputable def isz : Tr → Bool
  | z => true
  | c _ _ => false
noncomputable def bare : Tr → Nat
  | z => 0
  | c b r => (if isz b = true then 1 else bare b) + bare r
end Tr
end Nm
namespace Nm
namespace O
inductive Ru (n : Int) : O → O → Prop
  | less {a : O} : a ≠ .z → lastE a = .z → Ru n a (lessO a)
  | succ {a : O} : a ≠ .z → lastE a ≠ .z → lastE (lastE a) = .z → Ru n a (O.app (lessO a) (.c (lessO (lastE a)) n .z))
  | lim {a o : O} : a ≠ .z → lastE a ≠ .z → lastE (lastE a) ≠ .z → Ru n (lastE a) o → Ru n a (O.app (lessO a) (.c o 1 .z))
end O
namespace Tr
open O
noncomputable def LeastAt (t : Tr) (i : Nat) (b : Tr) : Prop := getT t i = some b ∧ ∀ j d, getT t j = some d → (j ≤ i → 0 ≤ cmp (nO d) (nO b)) ∧ (i < j → 0 < cmp (nO d) (nO b))
noncomputable def Lst : Tr → List Nat → Prop
  | t, [] => t = z
  | t, i :: w => ∃ b, LeastAt t i b ∧ Lst b w
theorem cut_left {m : Nat} : ∀ {w : List Nat} {t s : Tr}, w ≠ [] → subT t w = some z → subT t (w.take (w.length - 1)) = some s → pts (cutT m t w) = if w.length = 1 then pts t - 1 else pts t - 1 + m * (pts s - 1)
  | [], _, _, h, _, _ => absurd rfl h
  | [i], t, s, _, h, _ => by
    obtain ⟨b, h1, h2⟩ := subT_cons h
    cases h2
    have p := set_pts (u := z) h1
    have e : pts z = 1 := rfl
    rw [cut_one, if_pos (show [i].length = 1 from rfl)]
    (clear h h1 e; omega)
  | [i, j], t, s, _, h, hs => by
    obtain ⟨b, h1, h2⟩ := subT_cons h
    obtain ⟨x, h3, h4⟩ := subT_cons h2
    cases h4
    have hs' : subT t [i] = some s := hs
    obtain ⟨b', q1, q2⟩ := subT_cons hs'
    rw [h1] at q1; cases q1
    cases q2
    have p := set_pts (u := reps (setT s j z) (1 + m)) h1
    have p2 := set_pts (u := z) h3
    have p3 := reps_pts (setT s j z) (1 + m)
    have g := getT_some h1
    have e : pts z = 1 := rfl
    have p4 : pts (setT s j z) = pts s - 1 := by (clear h hs hs' h1 h2 h3 p p3 g e; omega)
    rw [p4, Nat.add_mul, Nat.one_mul] at p3
    rw [cut_two h1, if_neg (by simp)]
    have bp := pts_pos s
    (clear h hs hs' h1 h2 h3 e bp; omega)
  | i :: j :: k :: w, t, s, _, h, hs => by
    obtain ⟨b, h1, h2⟩ := subT_cons h
    have hs' : subT t (i :: (j :: k :: w).take ((j :: k :: w).length - 1)) = some s := hs
    obtain ⟨b', q1, q2⟩ := subT_cons hs'
    rw [h1] at q1; cases q1
    have ih := cut_left (m := m) (w := j :: k :: w) (t := b) (fun z => by cases z) h2 q2
    have p := set_pts (u := c (cutT m b (j :: k :: w)) z) h1
    have e1 : pts (c (cutT m b (j :: k :: w)) z) = pts (cutT m b (j :: k :: w)) + 1 := rfl
    have g := getT_some h1
    have bp := pts_pos b
    rw [if_neg (by simp only [List.length_cons]; (clear h hs h1 h2 hs' q2 ih p e1 g bp; omega))] at ih
    rw [cut_more h1, if_neg (by simp only [List.length_cons]; (clear h hs h1 h2 hs' q2 ih p e1 g bp; omega))]
    (clear h hs h1 h2 hs' q2; omega)
end Tr
end Nm
namespace Nm
namespace O
end O
end Nm
namespace Nm
namespace O
structure Bd (d s : Nat) (m : Int) (o : O) : Prop where
  nf : o.NF
  dp : o.dp ≤ d
  sz : o.size ≤ s
  mx : O.mx o ≤ m
end O
end Nm
namespace Nm
namespace O
end O
end Nm
namespace Nm
namespace O
end O
end Nm
namespace Nm
namespace O
end O
end Nm
namespace Nm
namespace O
end O
end Nm
namespace Nm
namespace O
noncomputable def e1 : O := c z 1 z
inductive Far (B k l : Nat) : Prop
  | two : B = 2 → k = 16 → l < 2 → Far B k l
  | three : B = 3 → k = 27 → l < 3 → Far B k l
end O
end Nm
namespace Nm
namespace O
end O
end Nm
namespace Nm
namespace O
inductive Dn (f : Nat → Int) (a : O) : List O → O → Prop where
  | one : Dn f a [a] a
  | step {os : List O} {b o : O} (h : Dn f a os b) (hb : b ≠ z) (l : Lad b (f (os.length - 1)) o) : Dn f a (os ++ [o]) o
end O
end Nm
namespace Nm
namespace Tr
noncomputable def sh : Tr → List Nat
  | z => []
  | c b r => 40 :: (sh b ++ 41 :: sh r)
instance decZ : (t : Tr) → Decidable (t = z)
  | z => .isTrue rfl
  | c _ _ => .isFalse (fun h => by cases h)
noncomputable def low : List Tr → Tr
  | [] => z
  | [t] => t
  | _ :: u :: l => low (u :: l)
noncomputable def step (ls : List Tr) (s : Nat) : Option (List Tr) :=
  if s = 40 ∧ low ls = z ∧ ls.length ≤ 41 then some (z :: ls)
  else if s = 41 then
    match ls with
    | t :: u :: l => some (u.app (c t z) :: l)
    | _ => none
  else none
structure Bg (ls : List Tr) : Prop where
  ne : ls ≠ []
  lo : low ls = z ∨ ∃ b, ls = [c b z]
  len : ls.length ≤ 42
noncomputable def rtS : List Nat → Bool → Int → Int → Option (Int × Int)
  | [], _, d, m => some (d, m)
  | s :: cs, f, d, m =>
    if ¬ (s = 40 ∨ s = 41) ∨ (f = false ∧ d = 0) then none
    else
      let d' := d + 1 - 2 * (if s = 41 then 1 else 0)
      if d' < 0 then none else rtS cs false d' (max m d')
noncomputable def rt (l : List Nat) : Bool := match rtS l true 0 0 with
  | none => false
  | some (d, m) => decide (l ≠ []) && decide (d = 0) && decide (l.length ≤ 1200) && decide (m ≤ 41)
end Tr
end Nm
namespace Nm
namespace Tr
open O
inductive Fel (f : Nat → Nat) (t : Tr) : List Tr → Tr → Prop
  | one : Fel f t [t] t
  | step {ts : List Tr} {u : Tr} {w : List Nat} (h : Fel f t ts u) (hz : u ≠ z) (hw : w ≠ []) (hl : Lst u w) (hp : pts (cutT (f (ts.length - 1)) u w) ≤ 60) : Fel f t (ts ++ [cutT (f (ts.length - 1)) u w]) (cutT (f (ts.length - 1)) u w)
section
variable {f : Nat → Nat} {t u : Tr} {ts : List Tr}
end
end Tr
end Nm
namespace Nm
set_option linter.all false
section
variable {α : Type} [DecidableEq α] {β : Type}
noncomputable def gT (t : List (α × β)) (k : α) : Option β := (t.find? fun p => decide (p.1 = k)).map (·.2)
noncomputable abbrev Tab (α : Type) := List (α × List α)
noncomputable def oth (T : Tab α) (k : α) : List α := (gT T k).getD []
noncomputable def mxs (R : List (α × Nat)) : List α → Option Nat
  | [] => some 0
  | o :: l => match gT R o, mxs R l with
    | some x, some y => some (max (x + 1) y)
    | _, _ => none
noncomputable def Cl (T : Tab α) (R : List (α × Nat)) : Prop := ∀ k r, gT R k = some r → mxs R (oth T k) = some r
noncomputable def Kind (T : Tab α) (k : α) : Prop := k ∈ T.map (·.1) ∨ ∃ e, e ∈ T ∧ k ∈ e.2
structure RankOk (T : Tab α) (R : List (α × Nat)) : Prop where
  nd : (R.map (·.1)).Nodup
  cl : Cl T R
  ks : ∀ k, k ∈ R.map (·.1) ↔ Kind T k
end
end Nm
namespace L2
open PySem PySem.Spec PyProof.Rows Nm
noncomputable def encP : O → List W
  | .z => []
  | .c e n r => .tup [.tup (encP e), .int n] :: encP r
noncomputable def enc (o : O) : W := .tup (encP o)
noncomputable def prt (e : O) (n : Int) : W := .tup [enc e, .int n]
theorem encP_z : encP .z = [] := rfl
theorem encP_c (e : O) (n : Int) (r : O) : encP (.c e n r) = prt e n :: encP r := rfl
theorem encP_length : ∀ a : O, (encP a).length = a.len
  | .z => rfl
  | .c e n r => by rw [encP_c, List.length_cons, encP_length r]; rfl
theorem prt_flat {e : O} {n : Int} (h : W.flats (encP e) = true) : (prt e n).flat = true := by
  simp [prt, enc, W.flat, W.flats, h]
theorem encP_flat : ∀ a : O, W.flats (encP a) = true
  | .z => by simp [encP, W.flats]
  | .c e n r => by
    rw [encP_c]
    simp [W.flats, prt_flat (encP_flat e), encP_flat r]
theorem enc_flat (a : O) : (enc a).flat = true := by simp [enc, W.flat, encP_flat a]
theorem prt_flat' (e : O) (n : Int) : (prt e n).flat = true := prt_flat (encP_flat e)
theorem encP_dep : ∀ a : O, W.deps (encP a) ≤ 2 * a.dp
  | .z => by simp [encP, W.deps]
  | .c e n r => by
    have h1 := encP_dep e
    have h2 := encP_dep r
    rw [encP_c]
    simp only [W.deps, prt, enc, W.dep, O.dp]
    omega
theorem enc_dep (a : O) : (enc a).dep ≤ 2 * a.dp + 1 := by
  have := encP_dep a
  simp only [enc, W.dep]
  omega
theorem prt_dep (e : O) (n : Int) : (prt e n).dep ≤ 2 * e.dp + 2 := by
  have := enc_dep e
  simp only [prt, W.dep, W.deps]
  omega
theorem encP_eq : ∀ a b : O, W.eqs (encP a) (encP b) = decide (a = b)
  | .z, .z => by simp [encP, W.eqs]
  | .z, .c _ _ _ => by simp [encP, W.eqs]
  | .c _ _ _, .z => by simp [encP, W.eqs]
  | .c e n r, .c e' n' r' => by
    have h1 := encP_eq e e'
    have h2 := encP_eq r r'
    simp only [encP, W.eqs, W.eq_tup, W.eq_int, h1, h2, Bool.and_true]
    rw [Bool.eq_iff_iff]
    simp only [Bool.and_eq_true, decide_eq_true_eq, beq_iff_eq, O.c.injEq]
    constructor
    · rintro ⟨⟨a, b⟩, c⟩; exact ⟨a, b, c⟩
    · rintro ⟨a, b, c⟩; exact ⟨⟨a, b⟩, c⟩
theorem enc_eq (a b : O) : (enc a).eq (enc b) = decide (a = b) := encP_eq a b
theorem prt_eq (e e' : O) (n n' : Int) : (prt e n).eq (prt e' n') = (decide (e = e') && decide (n = n')) := by
  have := enc_eq e e'
  simp only [prt, W.eq_tup, W.eq_int, W.eqs, this, Bool.and_true]
  congr 1
end L2
namespace L2
open PySem PySem.Spec PyProof.Rows Nm
theorem tup_eq (a b : O) : (W.tup (encP a)).eq (W.tup (encP b)) = decide (a = b) := enc_eq a b
theorem tup_flat (a : O) : (W.tup (encP a)).flat = true := enc_flat a
theorem tup_dep (a : O) : (W.tup (encP a)).dep ≤ 2 * a.dp + 1 := enc_dep a
noncomputable def cmpZ (n m : Int) : Int := if n < m then -1 else if m < n then 1 else 0
noncomputable def cmpP (e : O) (n : Int) (e' : O) (n' : Int) : Int := if O.cmp e e' ≠ 0 then O.cmp e e' else cmpZ n n'
theorem cmp_c (e : O) (n : Int) (r e' : O) (n' : Int) (r' : O) : O.cmp (.c e n r) (.c e' n' r') = if cmpP e n e' n' ≠ 0 then cmpP e n e' n' else O.cmp r r' := by
  unfold cmpP cmpZ
  rw [O.cmp]
  by_cases h : O.cmp e e' = 0
  · rcases Int.lt_trichotomy n n' with k | k | k
    · have k' : ¬ n' < n := by (clear h; omega)
      simp [h, k]
    · subst k
      simp [h]
    · have k' : ¬ n < n' := by (clear h; omega)
      simp [h, k, k']
  · simp [h]
theorem encP_app : ∀ a b : O, encP (a.app b) = encP a ++ encP b
  | .z, b => by simp [O.app, encP]
  | .c e n r, b => by
    show encP (.c e n (r.app b)) = _
    rw [encP_c, encP_c, encP_app r b]
    rfl
theorem atI0 {α : Type} (x : α) (xs : List α) : atI (x :: xs) 0 = some x := by
  simp [atI, ixN]
theorem atI1 {α : Type} (x y : α) (xs : List α) : atI (x :: y :: xs) 1 = some y := by
  have h : (1 : Int) < ((xs.length : Int) + 1 + 1) := by omega
  simp [atI, ixN, h]
theorem int_flat (i : Int) : (W.int i).flat = true := by simp [W.flat]
theorem int_dep (i : Int) : (W.int i).dep = 0 := by simp [W.dep]
theorem int_eq (i j : Int) : (W.int i).eq (W.int j) = (i == j) := rfl
theorem nil_flat : (W.tup []).flat = true := by simp [W.flat, W.flats]
theorem nil_dep : (W.tup []).dep = 1 := by simp [W.dep, W.deps]
theorem beqZ (i j : Int) : (i == j) = decide (i = j) := by
  by_cases h : i = j <;> simp [h]
theorem GLe.done {G : Gp} {q : Gp → Prop} (h : q G) : ∃ G0, GLe G0 G ∧ q G0 := ⟨G, GLe.refl G, h⟩
theorem loopW_ind {C : Gp → Prop} {g : WG} {tb : WS} {d : WEnds} (Iv : List W → WSt → Gp → Prop) (stop : ∀ τ G, Iv [] τ G → C G ∧ d.nx τ G)
    (step : ∀ w ws τ G (k : WSt → Gp → Prop), Iv (w :: ws) τ G → (∀ τ3 G3, Iv ws τ3 G3 → k τ3 G3) → C G ∧ g w τ G fun τ2 G2 => tb { d with nx := k, ct := k, bk := d.nx } τ2 G2) : ∀ ws τ G, Iv ws τ G → loopW C g tb d ws τ G
  | [], τ, G, h => stop τ G h
  | w :: ws, τ, G, h => step w ws τ G _ h fun τ3 G3 h3 => loopW_ind Iv stop step ws τ3 G3 h3
theorem zip_nil {x y : O} (h : zipW (encP x) (encP y) = []) : x = .z ∨ y = .z := by
  cases x with
  | z => exact .inl rfl
  | c e n r =>
    cases y with
    | z => exact .inr rfl
    | c e' n' r' => simp [encP, zipW] at h
theorem zip_cons {x y : O} {w : W} {ws : List W} (h : zipW (encP x) (encP y) = w :: ws) : ∃ e n r e' n' r', x = .c e n r ∧ y = .c e' n' r' ∧ w = .tup [prt e n, prt e' n'] ∧ ws = zipW (encP r) (encP r') := by
  cases x with
  | z => simp [encP, zipW] at h
  | c e n r =>
    cases y with
    | z => simp [encP, zipW] at h
    | c e' n' r' =>
      rw [encP_c, encP_c] at h
      simp only [zipW, List.cons.injEq] at h
      exact ⟨e, n, r, e', n', r', rfl, rfl, h.1.symm, h.2.symm⟩
theorem cmpZ_lt {n m : Int} (h : n < m) : cmpZ n m = -1 := by unfold cmpZ; rw [if_pos h]
theorem cmpZ_gt {n m : Int} (h : m < n) : cmpZ n m = 1 := by unfold cmpZ; rw [if_neg (by omega), if_pos h]
theorem cmpZ_self (n : Int) : cmpZ n n = 0 := by unfold cmpZ; simp
theorem cmp_len_nil {x y : O} (h : x = .z ∨ y = .z) : O.cmp x y = cmpZ x.len y.len := by
  rcases h with rfl | rfl
  · cases y with
    | z => rfl
    | c e n r => rw [cmpZ_lt (by simp only [O.len]; omega)]; rfl
  · cases x with
    | z => rfl
    | c e n r => rw [cmpZ_gt (by simp only [O.len]; omega)]; rfl
theorem cmpZ_shift {a b x y : Nat} (h : a + y = b + x) : cmpZ (a : Int) (b : Int) = cmpZ (x : Int) (y : Int) := by
  rcases Nat.lt_trichotomy x y with k | k | k
  · rw [cmpZ_lt (by omega), cmpZ_lt (by (clear h; omega))]
  · have : a = b := by omega
    subst k this
    rw [cmpZ_self, cmpZ_self]
  · rw [cmpZ_gt (by omega), cmpZ_gt (by (clear h; omega))]
end L2
namespace L2
open PySem PySem.Spec PyProof.Rows Nm
theorem encP_get : ∀ (a : O) (i : Nat), (encP a)[i]? = (a.getP i).map fun p => prt p.1 p.2
  | .z, i => by simp [encP, O.getP]
  | .c e n r, 0 => by rw [encP_c]; rfl
  | .c e n r, i + 1 => by
    rw [encP_c]
    simpa [O.getP] using encP_get r i
theorem encP_at {a : O} {i : Nat} {e : O} {n : Int} (h : a.getP i = some (e, n)) : atI (encP a) (i : Int) = some (prt e n) := atI_nat (by rw [encP_get, h]; rfl)
theorem encP_drop : ∀ (i : Nat) (a : O), (encP a).drop i = encP (O.dropO i a)
  | 0, a => rfl
  | i + 1, .z => by simp [encP, O.dropO]
  | i + 1, .c e n r => by
    rw [encP_c]
    simpa [O.dropO] using encP_drop i r
theorem cut_to (xs : List W) (k : Nat) : cutW xs none (some (k : Int)) = xs.take k := by
  unfold cutW
  rw [HT.sIx_none, HT.sIx_nat, List.drop_zero, Nat.sub_zero]
  rcases Nat.le_total k xs.length with h | h
  · rw [Nat.min_eq_left h]
  · rw [Nat.min_eq_right h, List.take_length, List.take_of_length_le h]
theorem cut_from (xs : List W) (k : Nat) : cutW xs (some (k : Int)) none = xs.drop k := by
  unfold cutW
  rw [HT.sIx_none, HT.sIx_nat]
  rcases Nat.le_total k xs.length with h | h
  · rw [Nat.min_eq_left h]
    exact List.take_of_length_le (by rw [List.length_drop]; (clear h; omega))
  · rw [Nat.min_eq_right h, List.drop_length, List.drop_of_length_le h]
    simp
theorem cut_to1 (xs : List W) : cutW xs none (some (-1)) = xs.take (xs.length - 1) := by
  unfold cutW
  have e : HT.sIx xs.length xs.length (some (-1)) = xs.length - 1 := by
    show (if (-1 : Int) < 0 then ((-1 : Int) + (xs.length : Int)).toNat else min (-1 : Int).toNat xs.length) = _
    rw [if_pos (by omega)]
    omega
  rw [HT.sIx_none, e, List.drop_zero, Nat.sub_zero]
theorem atI_neg1 {xs : List W} {w : W} (h : xs[xs.length - 1]? = some w) : atI xs (-1) = some w := by
  have hl : xs.length - 1 < xs.length := (List.getElem?_eq_some_iff.mp h).1
  unfold atI ixN
  rw [if_neg (by (clear h hl; omega)), if_pos (by (clear h; omega))]
  show xs[((-1 : Int) + (xs.length : Int)).toNat]? = some w
  rw [← h]
  congr 1
  (clear h; omega)
theorem lts_encP : ∀ a b : O, W.ords (encP a) (encP b) = true ∧ W.lts (encP a) (encP b) = decide (O.cmp a b < 0)
  | .z, .z => by simp [encP, W.ords, W.lts, O.cmp]
  | .z, .c _ _ _ => by simp [encP, W.ords, W.lts, O.cmp]
  | .c _ _ _, .z => by simp [encP, W.ords, W.lts, O.cmp]
  | .c e n r, .c e' n' r' => by
    obtain ⟨o1, l1⟩ := lts_encP e e'
    obtain ⟨o2, l2⟩ := lts_encP r r'
    rw [encP_c, encP_c, W.ords, W.lts, prt_eq]
    by_cases h : (decide (e = e') && decide (n = n')) = true
    · rw [if_pos h, if_pos h]
      have h' : e = e' ∧ n = n' := by simpa using h
      obtain ⟨rfl, rfl⟩ := h'
      refine ⟨o2, ?_⟩
      rw [l2, O.cmp, if_neg (by rw [O.cmp_self]; simp), if_neg (by (clear o2 l2 o1 l1 h; omega)), if_neg (by (clear o2 l2 o1 l1 h; omega))]
    · rw [if_neg h, if_neg h]
      have ee : (W.tup (encP e)).eq (W.tup (encP e')) = decide (e = e') := tup_eq e e'
      unfold prt enc
      rw [W.ord, W.lt, W.ords, W.lts, ee]
      by_cases q : e = e'
      · subst q
        rw [if_pos (by simp), if_pos (by simp), W.ords, W.lts]
        have hn : ¬ n = n' := fun z => h (by simp [z])
        rw [int_eq, if_neg (by simpa using hn), if_neg (by simpa using hn), W.ord, W.lt]
        refine ⟨rfl, ?_⟩
        rw [O.cmp, if_neg (by rw [O.cmp_self]; simp)]
        by_cases k : n < n'
        · rw [if_pos k]; simp [k]
        · rw [if_neg k, if_pos (by (clear o2 l2 o1 l1 h ee; omega))]; simp [k]
      · rw [if_neg (by simpa using q), if_neg (by simpa using q), W.ord, W.lt]
        refine ⟨o1, ?_⟩
        rw [l1, O.cmp, if_pos (fun z => q (O.cmp_eq _ _ z))]
theorem encP_deps (a : O) (h : a.dp ≤ 70) : W.deps (encP a) ≤ 149 := by
  have := encP_dep a
  omega
end L2
namespace L2
open PySem PySem.Spec PyProof.Rows Nm
noncomputable def Df (K : PySem.W.Frag) (mg : Str → Option Value) (x : Str) (st : Stmt) (ps : List Str) : Prop := ∃ (f : Addr) (fd : FuncData), Fun K x x st f fd ∧ Binds K fd ps [] ∧ mg x = some (.ref f)
theorem Df.fx {P : Program} {w : World} {K : PySem.W.Frag} {mg : Str → Option Value} {base : Heap} {x : Str} {st : Stmt} {ps : List Str} {k : Nat} {sp : WSp} (D : Df K mg x st ps) (h : ∀ (f : Addr) (fd : FuncData), Fun K x x st f fd → WFn P w K mg base k f fd ps sp) : Fx P w K mg base x ps k sp := by
  obtain ⟨f, fd, F, b, m⟩ := D
  exact ⟨f, fd, h f fd F, m, F.kp, b⟩
theorem scr_of {K : PySem.W.Frag} {H : Hp} {a : Addr} {ns : List Int} (hO : Only H) (hS : SqL K H a (ns.map V.int)) : Scr K H a ns := by
  rcases hS with (h | h) | h
  · rcases hO a with z | ⟨o, xs, z⟩
    · rw [z] at h; cases h
    · rw [z] at h; cases h
  · exact .inl h
  · exact .inr h
noncomputable def nums (os : List O) : List W := os.map fun o => .tup (encP o)
theorem nums_length (os : List O) : (nums os).length = os.length := List.length_map _
theorem nums_app (os : List O) (o : O) : nums os ++ [.tup (encP o)] = nums (os ++ [o]) := by simp [nums]
theorem mod_in {i j : Int} (h : 0 < j) : 0 ≤ i % j ∧ i % j < j := ⟨Int.emod_nonneg _ (by omega), Int.emod_lt_of_pos _ h⟩
theorem cpow10 (j : Int) : CPow 10 j = (0 ≤ j ∧ j ≤ 1000000) := by
  unfold CPow
  have : (10 : Int).natAbs < 2 ^ 64 := by decide
  simp [this]
theorem seqU {t u : WS} {d : WEnds} {τ : WSt} {G : Gp} (h : ∀ U : WS, U = u → t { d with nx := U d } τ G) : wSeq t u d τ G := h u rfl
theorem updG_ne' {G : Gp} {a b : Addr} {g g' : GO} (h : G b = some g') (ha : G a = none) : updG G a g b = some g' := by
  rw [updG_ne (fun z => by rw [z, ha] at h; cases h)]; exact h
theorem ix_new {g : Option GO} {xs : List W} {i : Int} {R : List W → W → Prop} (e : g = some (.lst xs)) (h : ∃ w, atI xs i = some w ∧ R xs w) : ∃ xs' w, g = some (.lst xs') ∧ atI xs' i = some w ∧ R xs' w := by
  obtain ⟨w, e', r⟩ := h
  exact ⟨xs, w, e, e', r⟩
theorem tyN_int (G : Gp) (i : Int) : tyN G (.int i) = some "int" := rfl
theorem tyN_bl (G : Gp) (b : Bool) : tyN G (.bl b) = some "bool" := rfl
theorem tyN_tup (G : Gp) (ws : List W) : tyN G (.tup ws) = some "tuple" := rfl
theorem tyN_non (G : Gp) : tyN G .non = some "NoneType" := rfl
theorem subN_ii : subN "int" "int" = true := by decide
theorem subN_ib : subN "int" "bool" = false := by decide
theorem subN_it : subN "int" "tuple" = false := by decide
theorem subN_bi : subN "bool" "int" = true := by decide
theorem subN_bb : subN "bool" "bool" = true := by decide
theorem subN_bt : subN "bool" "tuple" = false := by decide
theorem subN_tt : subN "tuple" "tuple" = true := by decide
theorem subN_ti : subN "tuple" "int" = false := by decide
theorem subN_tb : subN "tuple" "bool" = false := by decide
theorem subN_ll : subN "list" "list" = true := by decide
theorem subN_nt : subN "NoneType" "tuple" = false := by decide
theorem nums_flat : ∀ os : List O, W.flats (nums os) = true
  | [] => by simp [nums, W.flats]
  | o :: os => by
    have := nums_flat os
    have h := tup_flat o
    unfold nums at this ⊢
    simp [W.flats, this, h]
theorem nums_deps : ∀ {os : List O}, (∀ o, o ∈ os → o.dp ≤ 70) → W.deps (nums os) ≤ 141
  | [], _ => by simp [nums, W.deps]
  | o :: os, h => by
    have h1 := nums_deps (os := os) fun x hx => h x (List.mem_cons_of_mem o hx)
    have h2 := h o List.mem_cons_self
    have h3 := tup_dep o
    unfold nums at h1 ⊢
    simp only [List.map_cons, W.deps]
    (clear h; omega)
theorem cast_0 : ((0 : Nat) : Int) = 0 := rfl
theorem cast_1 : ((1 : Nat) : Int) = 1 := rfl
theorem cast_2 : ((2 : Nat) : Int) = 2 := rfl
theorem cast_3 : ((3 : Nat) : Int) = 3 := rfl
theorem whileW {c : WT} {tb : WS} {d : WEnds} {τ : WSt} {G : Gp} (I : Nat → WSt → Gp → Prop) (h0 : ∃ m, I m τ G)
    (h : ∀ m τ G, I m τ G → ∀ B : WS, B = tb → c τ G fun b G1 => if b = true then ∃ N : WSt → Gp → Prop, (∀ τ1 G1, N τ1 G1 → ∃ m1, m1 < m ∧ I m1 τ1 G1) ∧ B { d with nx := N, ct := N, bk := d.nx } τ G1 else d.nx τ G1) : wWhile c tb d τ G :=
  ⟨I, h0, fun m τ G hI => h m τ G hI tb rfl⟩
theorem ifU {c : WT} {t u : WS} {d : WEnds} {τ : WSt} {G : Gp} (h : ∀ T U : WS, T = t → U = u → c τ G fun b G1 => if b = true then T d τ G1 else U d τ G1) : wIf c t u d τ G := h t u rfl rfl
theorem atI2 {α : Type} (x y v : α) (xs : List α) : atI (x :: y :: v :: xs) 2 = some v := atI_nat (j := 2) rfl
theorem upW_drop (n i : Nat) (h : i < n) : (upW n).drop i = .int (i : Int) :: (upW n).drop (i + 1) := by
  have hl : i < (upW n).length := by simp [upW, h]
  rw [List.drop_eq_getElem_cons hl]
  congr 1
  simp [upW]
theorem loop_up {C : Gp → Prop} {g : WG} {tb : WS} {d : WEnds} {τ : WSt} {G : Gp} (n : Nat) (Iv : Nat → WSt → Gp → Prop) (h0 : Iv 0 τ G) (stop : ∀ τ G, Iv n τ G → C G ∧ d.nx τ G)
    (step : ∀ (i : Nat) τ G (k : WSt → Gp → Prop), i < n → Iv i τ G → (∀ τ3 G3, Iv (i + 1) τ3 G3 → k τ3 G3) → C G ∧ g (.int (i : Int)) τ G fun τ2 G2 => tb { d with nx := k, ct := k, bk := d.nx } τ2 G2) : loopW C g tb d (upW n) τ G := by
  refine loopW_ind (fun ws τ G => ∃ i, i ≤ n ∧ ws = (upW n).drop i ∧ Iv i τ G) ?_ ?_ _ _ _ ⟨0, Nat.zero_le _, rfl, h0⟩
  · rintro τ G ⟨i, hi, hw, hI⟩
    have : i = n := by
      rcases Nat.lt_or_ge i n with k | k
      · rw [upW_drop n i k] at hw; cases hw
      · (clear h0 stop step hw hI; omega)
    subst this
    exact stop τ G hI
  · rintro w ws τ G k ⟨i, hi, hw, hI⟩ hk
    have hlt : i < n := by
      rcases Nat.lt_or_ge i n with j | j
      · exact j
      · rw [List.drop_of_length_le (by simp [upW]; assumption)] at hw; cases hw
    rw [upW_drop n i hlt] at hw
    cases hw
    exact step i τ G k hlt hI fun τ3 G3 h3 => hk τ3 G3 ⟨i + 1, hlt, rfl, h3⟩
theorem upS_drop (lo c : Int) (n i : Nat) (h : i < n) : (upS lo c n).drop i = .int (lo + (i : Int) * c) :: (upS lo c n).drop (i + 1) := by
  have hl : i < (upS lo c n).length := by simp [upS, h]
  rw [List.drop_eq_getElem_cons hl]
  congr 1
  simp [upS]
theorem loop_upS {C : Gp → Prop} {g : WG} {tb : WS} {d : WEnds} {τ : WSt} {G : Gp} (lo c : Int) (n : Nat) (Iv : Nat → WSt → Gp → Prop) (h0 : Iv 0 τ G) (stop : ∀ τ G, Iv n τ G → C G ∧ d.nx τ G)
    (step : ∀ (i : Nat) τ G (k : WSt → Gp → Prop), i < n → Iv i τ G → (∀ τ3 G3, Iv (i + 1) τ3 G3 → k τ3 G3) → C G ∧ g (.int (lo + (i : Int) * c)) τ G fun τ2 G2 => tb { d with nx := k, ct := k, bk := d.nx } τ2 G2) : loopW C g tb d (upS lo c n) τ G := by
  refine loopW_ind (fun ws τ G => ∃ i, i ≤ n ∧ ws = (upS lo c n).drop i ∧ Iv i τ G) ?_ ?_ _ _ _ ⟨0, Nat.zero_le _, rfl, h0⟩
  · rintro τ G ⟨i, hi, hw, hI⟩
    have : i = n := by
      rcases Nat.lt_or_ge i n with k | k
      · rw [upS_drop lo c n i k] at hw; cases hw
      · (clear h0 stop step hw hI; omega)
    subst this
    exact stop τ G hI
  · rintro w ws τ G k ⟨i, hi, hw, hI⟩ hk
    have hlt : i < n := by
      rcases Nat.lt_or_ge i n with j | j
      · exact j
      · rw [List.drop_of_length_le (by simp [upS]; assumption)] at hw; cases hw
    rw [upS_drop lo c n i hlt] at hw
    cases hw
    exact step i τ G k hlt hI fun τ3 G3 h3 => hk τ3 G3 ⟨i + 1, hlt, rfl, h3⟩
noncomputable def mapP (p : O → Int → Bool) (f : O → Int → W) : O → List W
  | .z => []
  | .c e n r => if p e n then f e n :: mapP p f r else mapP p f r
end L2
namespace L2
open PySem PySem.Spec PyProof.Rows Nm
theorem GLe.put {G G1 : Gp} {p : Addr} {g : GO} (h : GLe G G1) (hp : G p = none) : GLe G (updG G1 p g) := fun a u e => by
  have := h a u e
  unfold updG
  split
  · rename_i q; subst q; rw [hp] at e; cases e
  · exact this
theorem GLe.none {G G1 : Gp} {p : Addr} (h : GLe G G1) (hp : G1 p = none) : G p = none := by
  cases hh : G p with
  | none => rfl
  | some g => have := h _ _ hh; rw [hp] at this; cases this
end L2
namespace Nm
namespace O
end O
end Nm
namespace L2
open PySem PySem.Spec PyProof.Rows Nm
section
variable {P : Program} {w : World} {K : PySem.W.Frag} {mg : Str → Option Value} {base : Heap} {x : Str} {st : Stmt} {ps : List Str} {k : Nat} {sp : WSp}
theorem DfD.rx {dws : List W} (D : DfD K mg x st ps dws) (h : ∀ (f : Addr) (fd : FuncData) (T : Addr) (ds : List Value), FunD K x x st f fd T ds → RFn P w K mg base k f fd ps sp) : Rx P w K mg base x ps k sp [] := by
  obtain ⟨f, fd, T, ds, dvs, F, b, b', m, _, _⟩ := D
  exact ⟨f, fd, [], [], h f fd T ds F, m, F.kp, b, .nil, fun _ => .nil⟩
end
end L2
namespace L2
open PySem PySem.Spec PyProof.Rows PySem.W
@[irreducible] def Cell (i : Int) : Prop := i.natAbs < 2 ^ 1048576
theorem weight_mem : ∀ {ns : List Int} {n : Int}, n ∈ ns → WData.weight (.int n) ≤ WData.weightAll (ns.map WData.int)
  | m :: ns, n, h => by
    rw [List.map_cons, WData.weightAll]
    rcases List.mem_cons.mp h with rfl | h
    · (clear h; omega)
    · have := weight_mem h; (clear h; omega)
theorem cell_of {n : Int} (h : WData.weight (.int n) ≤ 1048576) : Cell n := by
  unfold WData.weight at h
  unfold Cell
  generalize 1048576 = a at h ⊢
  by_cases h0 : n = 0
  · subst h0
    exact Nat.two_pow_pos a
  · rw [if_neg (by simpa using h0)] at h
    have : n.natAbs ≠ 0 := by (clear h; omega)
    exact (Nat.log2_lt this).mp (by assumption)
theorem cells_of {ns : List Int} (h : WData.layableAll [.list (ns.map WData.int)] = true) : ∀ n, n ∈ ns → Cell n := by
  intro n hn
  have h1 : WData.layable (.list (ns.map WData.int)) = true := (List.all_eq_true.mp h) _ List.mem_cons_self
  have h2 : WData.weight (.list (ns.map WData.int)) ≤ 2 ^ 20 := by
    have := (Bool.and_eq_true_iff.mp h1).2
    exact of_decide_eq_true this
  have h3 : WData.weight (.list (ns.map WData.int)) = WData.weightAll (ns.map WData.int) := by rw [WData.weight]
  have := weight_mem hn
  exact cell_of (by (clear h hn h1; omega))
@[irreducible] def Wide (i : Int) : Prop := i.natAbs < 2 ^ 1048577
set_option exponentiation.threshold 500 in
noncomputable def CellM (i j : Int) : Prop := (Wide i ∧ j.natAbs < 2 ^ 4000) ∨ (i.natAbs < 2 ^ 4000 ∧ Wide j)
noncomputable def CMulC (i j : Int) : Prop := CMulB i j ∨ CellM i j
theorem CMulC.ok {i j : Int} (h : CMulC i j) : IntMulOk i j := by
  have key : ∀ {x y : Int}, Wide x → y.natAbs < 2 ^ 4000 → ¬ (((Builtin.Int.intBits x + Builtin.Int.intBits y : Int)) > bitsLine) := fun {x y} h1 h2 => by
    unfold Wide at h1
    have b1 := PyProof.Rows.intBits_le h1
    have b2 := PyProof.Rows.intBits_le h2
    have hb : (1053000 : Int) ≤ bitsLine := by decide
    (clear h h1 h2; omega)
  rcases h with h | ⟨h1, h2⟩ | ⟨h1, h2⟩
  · exact h.ok
  · have := key h1 h2
    unfold IntMulOk Builtin.Int.intTooBig
    simp [this]
  · have := key h2 h1
    rw [Int.add_comm] at this
    unfold IntMulOk Builtin.Int.intTooBig
    simp [this]
section
variable {X : Cx}
theorem op_mulC : OpR X (binaryOp .Mult) (rI CMulC fun i j => .int (i * j)) := opI fun _ _ _ _ _ _ _ hc q => mul_int q hc.ok
end
noncomputable def spLawC : WSp := fun ws _ q _ => ∃ ns : List Int, ws = [.scr ns] ∧ ns.length ≤ 63 ∧ (∀ n, n ∈ ns → Cell n) ∧ ∀ G', q (.bl true) G'
theorem law_startC {K : PySem.W.Frag} {H : Hp} {a : Addr} {ns : List Int} (hO : Only H) (hS : SqL K H a (ns.map V.int)) (hl : ns.length ≤ 63) (hc : ∀ n, n ∈ ns → Cell n) : LSp K spLawC [.ref a] H (fun v _ => v = .bl true) fun _ _ _ => False :=
  ⟨[.scr ns], fun _ => none, fun w _ => w = .bl true, fun _ _ => False, .cons (.scr (scr_of hO hS)) .nil, fun _ _ e => (by cases e), ⟨ns, rfl, hl, hc, fun _ => rfl⟩, fun v H1 w G1 _ r _ e => (by subst e; cases r; rfl), fun _ _ _ _ _ _ z => z⟩
theorem attC {l : OpenLaw} {n : Nat} {q : Program} {loose : List Str} {XP : (Str → Option Value) → Heap → Prop} {YP : World → Heap → Prop} {d : DefRec}
    (hn : l.most = some n) (hdf : d.params.defaults = [])
    (call : ∀ (w : World) (s₀ s₁ : Shared) (mg mb : Str → Option Value) (fa : Addr) (a : Addr) (vs : List Value) (ns : List Int),
      Ground q loose [] XP w s₀ mg mb s₁.heap → YP w s₁.heap → mg d.name = some (.ref fa) →
      s₁.heap.get? a = some { cls := .type "list", data := .seq vs.toArray } → IntsAre vs ns → ns.length ≤ n → (∀ n, n ∈ ns → Cell n) → s₁.gens = #[] →
      codeAny (model l.prog w) callerA (.call (.ref fa) ⟨[.ref a], []⟩) (fun r s' => r = .ok (.ret (.bool true)) ∧ OldK s₁.heap s'.heap ∧ s'.os = s₁.os ∧ AllBare s'.gens) s₁) :
    WalkO q loose XP YP l.row.toRowW d [] (fun f vs => PySem.call f vs) := by
  intro w s₀ s₁ mg mb G Y fa o pm cd doc dV kV ho hd hcd hD hmg hg args vals as hpre hlay hrd hwl hlo
  obtain rfl : dV = .none := Dflts.none hD hdf
  obtain rfl : kV = .none := Dflts.noKw hD
  obtain ⟨a, vs, ns, ea, rfl, hobj, hints, hlen⟩ := Att.script_of hn hpre hwl
  subst ea
  refine enter_call (codeAny_mono (call w s₀ s₁ mg mb fa a vs ns G Y hmg hobj hints hlen (cells_of hlay) hg) fun r s' hq => ?_)
  obtain ⟨rfl, h2, h3, h4⟩ := hq
  exact ⟨.inl ⟨.bool true, .bool true, [], rfl, fun _ => rfl, .bool true, Att.post_true l _, fun _ => ⟨List.Pairwise.nil, fun _ hm => (nomatch hm)⟩⟩, h2, h3, h4⟩
theorem walk_ofC {l : PySem.W.OpenLaw} {n k : Nat} {q : Program} {loose : List Str} {XP : (Str → Option Value) → Heap → Prop} {YP : World → Heap → Prop} {d : DefRec} {K : Params → PySem.W.Frag} {CX : World → CXT} {sp : World → Sp} {x : Str}
    (hn : l.most = some n) (hn2 : n ≤ sizeLine) (hdf : d.params.defaults = []) (hr : Room k callerA)
    (hY : ∀ (w : World) (h : Heap), YP w h → (K w.params).In h)
    (F : ∀ (w : World) (mg : Str → Option Value) (fa : Addr) (h : Heap), (K w.params).In h → h.Ns mainGlobals mg → mg d.name = some (.ref fa) →
      ∃ fd : FuncData, (∀ (s : Shared) (u : Value), BindsTo s fd ⟨[u], []⟩ [(x, u)]) ∧
        ∀ base : Heap, (K w.params).In base → base.Ns mainGlobals mg → FnOk l.prog w (K w.params) mg base (CX w) k fa fd [x] (sp w))
    (hsp : ∀ (w : World) (H : Hp) (a : Addr) (ns : List Int), ns.length ≤ n → (∀ n, n ∈ ns → Cell n) → Only H → SqL (K w.params) H a (ns.map V.int) → sp w [.ref a] H (fun v _ => v = .bl true) fun _ _ _ => False)
    (hCX : ∀ (w : World) (H : Hp) (s : Shared) (e : Value) (s' : Shared), CX w [] H s (fun _ _ _ => False) e s' → False) :
    PySem.W.WalkO q loose XP YP l.row.toRowW d [] (fun f vs => PySem.call f vs) := by
  refine attC hn hdf fun w s₀ s₁ mg mb fa a vs ns G Y hmg hobj hints hlen hc hg => ?_
  have KX := hY w _ Y
  obtain ⟨fd, hb, hF⟩ := F w mg fa _ KX G.T.g hmg
  exact law_call KX G.T.g G.T.b G.T.builtins G.T.nolimit hg hobj hints (Nat.le_trans hlen hn2) hr hF hb (fun H hO hS => hsp w H a ns hlen hc hO hS) fun H e s' => hCX w H s₁ e s'
theorem comp_map {C : Gp → Prop} {te : WE} {i : Nat} {τ0 : WSt} {G : Gp} {q : List W → Gp → Prop} {f : W → W} (hC : C G) : ∀ {ws acc : List W} {τ : WSt},
    (∀ w, w ∈ ws → ∀ k : W → Gp → Prop, k (f w) G → te (τ0.set i (some w)) G k) → acc.length + ws.length ≤ 100000 → (∀ x, τ.set i x = τ0.set i x) → q (acc ++ ws.map f) G → compW C (hName i) wTrue te ws τ G acc q
  | [], acc, τ, _, _, _, hq => ⟨hC, by simpa using hq⟩
  | w :: ws, acc, τ, ht, hl, hτ, hq => by
    refine ⟨hC, ?_⟩
    show te (τ.set i (some w)) G _
    rw [hτ]
    refine ht w List.mem_cons_self _ ?_
    rw [List.length_cons] at hl
    refine ⟨by (clear hC ht hτ hq; omega), comp_map hC (fun u hu => ht u (List.mem_cons_of_mem _ hu)) (by rw [List.length_append]; simp only [List.length_cons, List.length_nil]; (clear hC ht hτ hq; omega)) (fun x => ?_) (by simpa using hq)⟩
    rw [List.set_set]
end L2
namespace L2
open PySem PySem.Spec PyProof.Rows
theorem Reps.rep {K : PySem.W.Frag} {H : Hp} {ws : List W} {vs : List V} (r : Reps K H ws vs) : ∀ k : Nat, Reps K H (List.replicate k ws).flatten (List.replicate k vs).flatten
  | 0 => .nil
  | k + 1 => by
    rw [List.replicate_succ, List.flatten_cons, List.replicate_succ, List.flatten_cons]
    exact r.append (Reps.rep r k)
section
variable {X : Cx}
noncomputable def vMulT : W2 := fun x y G q => match x, y with
  | .int i, .int j => CMulC i j ∧ q (.int (i * j)) G
  | .ref a, .int k => ∃ xs, G a = some (.lst xs) ∧ 0 ≤ k ∧ k ≤ 100000 ∧ xs.length * k.toNat ≤ 100000 ∧ ∀ p, G p = none → q (.ref p) (updG G p (.lst (List.replicate k.toNat xs).flatten))
  | .tup xs, .int k => xs ≠ [] ∧ 0 ≤ k ∧ k ≤ 100000 ∧ xs.length * k.toNat ≤ 100000 ∧ q (.tup (List.replicate k.toNat xs).flatten) G
  | _, _ => False
theorem q_mulT : QOp X (binaryOp .Mult) vMulT := by
  intro pins s σ H x y v u Q I rx ry ⟨wx, wy, G, q, r1, r2, g, h, hQ⟩
  cases r2 with
  | int k =>
    cases r1 with
    | int i => exact op_mulC pins s σ H _ _ v u Q I rx ry ⟨_, _, rfl, rfl, h.1, hQ _ H _ G (TLe.refl H) (.int _) g h.2⟩
    | ref a =>
      obtain ⟨xs, ea, h0, h1, hl, h⟩ := h
      obtain ⟨_, xs', ha, ra⟩ := g _ _ ea
      refine op_rep pins s σ H _ _ v u Q I rx ry ⟨_, _, _, rfl, rfl, ha, Int.le_trans (by decide) h0, Int.lt_of_le_of_lt h1 (by decide), by rw [← ra.length]; exact line_le hl, fun p hp => ?_⟩
      exact hQ _ _ _ _ (TLe.new hp _) (.ref p) (g.put (TLe.new hp _) (ra.rep _) (by rw [len_rep, Nat.mul_comm]; exact hl)) (h p (g.fresh hp))
    | @tup a ws xs ha ra =>
      obtain ⟨hne, h0, h1, hl, h⟩ := h
      refine op_repT pins s σ H _ _ v u Q I rx ry ⟨a, _, _, rfl, rfl, SqT.of ha, fun z => ?_, h0, h1, by rw [← ra.length]; exact line_le hl, fun e => ?_, fun _ p hp => ?_⟩
      · subst z
        cases ra
        exact hne rfl
      · subst e
        have e1 : ∀ zs : List W, (List.replicate (Int.toNat 1) zs).flatten = zs := fun zs => by simp
        rw [e1] at h
        exact hQ _ H _ G (TLe.refl H) (.tup ha ra) g h
      · exact hQ _ _ _ G (TLe.new hp _) (.tup upd_same ((ra.rep _).mono (TLe.new hp _))) (g.keep hp _) h
    | _ => exact False.elim h
  | _ => cases r1 <;> exact False.elim h
end
end L2
namespace L2
open PySem PySem.Spec PyProof.Rows
theorem Df.fxN {P : Program} {w : World} {K : PySem.W.Frag} {mg : Str → Option Value} {base : Heap} {x : Str} {st : Stmt} {ps : List Str} {k : Nat} {sp : WSp} (D : Df K mg x st ps) (h : ∀ (f : Addr) (fd : FuncData), Fun K x x st f fd → WFnN P w K mg base k f fd ps sp) : FxN P w K mg base x ps k sp := by
  obtain ⟨f, fd, F, b, m⟩ := D
  exact ⟨f, fd, h f fd F, m, F.kp, b⟩
end L2
namespace Nm
namespace O
end O
end Nm
set_option linter.all false
set_option maxRecDepth 100000
namespace L2
open PySem PySem.Spec PyProof.Rows
section
variable {X : Cx}
variable {tg : Expr}
end
end L2
set_option Elab.async false
set_option linter.all false
open PySem PySem.Spec PyProof.Rows L2 Nm
seal QE QT QW QA QS QSs QG QGs QI QO QTs QOp QIx QCall
seal PySem.compareOp PySem.binaryOp PySem.unaryOp
set_option bootstrap.genMatcherCode true
set_option compiler.extract_closed false
local macro_rules | `(tactic| walk_at "R") => `(tactic| simp (config := { failIfUnchanged := false, maxSteps := 2000000 }) only [wIsT, wMDoY, wMSetY, wFld, wFldS, wMake, wMeth, wPop, wBrk, wCnt, putW, wIsE, wIsV, wAsG, cAny, wIns, hSub, hSub1, vMulT, wStart, wSeq, wIf, wTest, wOp, wVar, wC, wNeg, wRet, wNext, wAsg, wPar, wNever, wNevers, wRaise, wTry, wTryA, wTryY, wIfY, wSeqY, wCallY, wDoY, wAs, wIsx, wIsn, wMaxD, wTupRev, wTupRvT, wBits, jRngG, CPowB, rIsB, wCallX, wDct, hName, wCall, wCB, wCons, wNil, wTup, wLst, wIsi, wAnd, wOr, wNot, wAndV, wOrV, wNotV, wIfE, wDrop, wSl, wPart, wNoPart, wFor, jSeq, jRng, jRng2, jRng3, jZip, jRev, jEnum, jEnumL, wExt, wComp, wApp, wTrue, hTup, hCons, hNil, vAdd, rSub3, L2.vInt, L2.vInt0, rEq4, rNe4, rEq3, rNe3, rLt3, rGe3, rIsA, rIsN, rIx3, rSl3, cLen, cTuple, cList, cSum, cInt, cMax, cMax4, cMin, List.map_cons, List.map_nil, List.length_cons, List.length_nil, List.replicate_succ, List.replicate_zero, List.cons_append, List.nil_append, List.append_nil, List.getElem?_cons_zero, List.getElem?_cons_succ, List.set_cons_zero, List.set_cons_succ, Nat.reduceAdd, Nat.reduceSub, Nat.zero_add, Nat.add_zero, Nat.sub_self, Nat.sub_zero, atI0, atI1, atI2, Option.some.injEq, exists_eq_left', int_flat, int_dep, int_eq, nil_flat, nil_dep, beqZ, decide_eq_true_eq, Bool.not_eq_true', decide_eq_false_iff_not, true_and, Nat.zero_le, cpow10, CMulC, CMulB, CDivB, CMul, CDiv, Int.reduceLE, Int.reduceLT, Nat.reducePow, Nat.reduceLT, Nat.reduceLeDiff, Int.reduceToNat, Int.reducePow, Int.reduceNeg, and_true, or_true, true_or, and_self, tyN_int, tyN_bl, tyN_tup, tyN_non, subN_ii, subN_ib, subN_it, subN_bi, subN_bb, subN_bt, subN_tt, subN_ti, subN_tb, subN_ll, subN_nt, Int.toNat_natCast, if_true, if_false, Bool.false_eq_true, Bool.true_eq_false, Bool.not_true, Bool.not_false, eq_self, not_true_eq_false, not_false_eq_true, cast_0, cast_1, cast_2, cast_3])
set_option bootstrap.genMatcherCode false
namespace Lw
open PySem PySem.Spec PyProof.Rows L2 Nm
noncomputable def top (i : Nat) : Stmt := PySem.Challenge.pw_hydrahouse_k47_plays_taken_back.main.body.getD i (.Pass ⟨0, 0, 0, 0⟩)
noncomputable def mtd (i j : Nat) : Stmt := (clsB (top i)).getD j (.Pass ⟨0, 0, 0, 0⟩)
structure Txt (K : PySem.W.Frag) (mg : Str → Option Value) : Prop where
  d_is_whole : DfD K mg "is_whole" (top 16) ["thing", "least"] [.int 0]
  d_compare : Df K mg "compare" (top 17) ["a", "b"]
  d_merged : Df K mg "merged" (top 19) ["a", "b"]
  d_points : Df K mg "points" (top 22) ["tree"]
  d_number_of : Df K mg "number_of" (top 23) ["tree"]
  d_cut : DfD K mg "cut" (top 24) ["tree", "way", "many"] [.int 1]
  d_is_head : Df K mg "is_head" (top 26) ["tree", "way"]
  d_points_left : Df K mg "points_left" (top 27) ["tree", "way", "many"]
  d_cut_and_grown : Df K mg "cut_and_grown" (top 28) ["tree", "way", "many"]
  d_without_branch : Df K mg "without_branch" (top 29) ["tree", "place"]
  d__law_mix : Df K mg "_law_mix" (top 33) ["_law_cell", "_law_k"]
  d__law_tree : Df K mg "_law_tree" (top 34) ["_law_cells", "_law_most"]
  d__law_compare : Df K mg "_law_compare" (top 35) ["_law_a", "_law_b"]
  d__law_put : Df K mg "_law_put" (top 36) ["_law_a", "_law_exponent"]
  d__law_number : Df K mg "_law_number" (top 37) ["_law_tree_here"]
  d__law_alike : Df K mg "_law_alike" (top 38) ["_law_found", "_law_due"]
  d__law_points : Df K mg "_law_points" (top 39) ["_law_tree_here"]
  d__law_head : Df K mg "_law_head" (top 40) ["_law_tree_here", "_law_cell"]
  d__law_at : Df K mg "_law_at" (top 41) ["_law_tree_here", "_law_way"]
  d__law_without : Df K mg "_law_without" (top 42) ["_law_tree_here", "_law_at_here", "_law_others"]
  d__law_cut : Df K mg "_law_cut" (top 43) ["_law_tree_here", "_law_way", "_law_many"]
  d__law_refused : Df K mg "_law_refused" (top 44) ["_law_play", "_law_way", "_law_many"]
  d__law_other : Df K mg "_law_other" (top 45) ["_law_e"]
  d__law_back : Df K mg "_law_back" (top 46) ["_law_play", "_law_line"]
  d__law_cutting : Df K mg "_law_cutting" (top 47) ["_law_play", "_law_line", "_law_mixed"]
  d__law_look : Df K mg "_law_look" (top 48) ["_law_play", "_law_line", "_law_shelf", "_law_mixed"]
  d__law_deed : Df K mg "_law_deed" (top 49) ["_law_play", "_law_line", "_law_shelf", "_law_mixed"]
  d__law_all_back : Df K mg "_law_all_back" (top 50) ["_law_play", "_law_line", "_law_shelf"]
  a_cut_trees : mg "cut_trees" = mg "cut"
  k_Play : ∃ C : Addr, mg "Play" = some (.ref C) ∧ Cls K C ∧ NoAttr K C "met" ∧ NoAttr K C "reached" ∧ MdI K C "Play.__init__" (mtd 31 0) ["self", "tree"] ∧ Md K C "tree" "Play.tree" (mtd 31 1) ["self"] ∧ MdD K C "cut" "Play.cut" (mtd 31 2) ["self", "way", "many"] [.int 1] ∧ Md K C "back" "Play.back" (mtd 31 3) ["self"] ∧ Md K C "numbers" "Play.numbers" (mtd 31 4) ["self"]
  x_ : ∃ c0 c1 c2 c3 c4 c5 c6 c7 c8 c9 c10 c11 c12 c13 : Addr, (mg "HydraError" = some (.ref c0) ∧ PySem.W.excIn K c0 [.type "ValueError", .type "Exception", .type "BaseException", .type "object"] "ValueError.__new__" = true) ∧ (mg "NoHead" = some (.ref c1) ∧ PySem.W.excIn K c1 [.type "ValueError", .type "Exception", .type "BaseException", .type "object"] "ValueError.__new__" = true) ∧ (mg "NoNumber" = some (.ref c2) ∧ PySem.W.excIn K c2 [.type "ValueError", .type "Exception", .type "BaseException", .type "object"] "ValueError.__new__" = true) ∧ (mg "TooGreat" = some (.ref c3) ∧ PySem.W.excIn K c3 [.type "ValueError", .type "Exception", .type "BaseException", .type "object"] "ValueError.__new__" = true) ∧ (mg "NoStep" = some (.ref c4) ∧ PySem.W.excIn K c4 [.type "ValueError", .type "Exception", .type "BaseException", .type "object"] "ValueError.__new__" = true) ∧ (mg "NoChore" = some (.ref c5) ∧ PySem.W.excIn K c5 [.type "ValueError", .type "Exception", .type "BaseException", .type "object"] "ValueError.__new__" = true) ∧ (mg "NoFall" = some (.ref c6) ∧ PySem.W.excIn K c6 [.type "ValueError", .type "Exception", .type "BaseException", .type "object"] "ValueError.__new__" = true) ∧ (mg "NoFit" = some (.ref c7) ∧ PySem.W.excIn K c7 [.type "ValueError", .type "Exception", .type "BaseException", .type "object"] "ValueError.__new__" = true) ∧ (mg "NoLimit" = some (.ref c8) ∧ PySem.W.excIn K c8 [.type "ValueError", .type "Exception", .type "BaseException", .type "object"] "ValueError.__new__" = true) ∧ (mg "NoName" = some (.ref c9) ∧ PySem.W.excIn K c9 [.type "ValueError", .type "Exception", .type "BaseException", .type "object"] "ValueError.__new__" = true) ∧ (mg "NoRow" = some (.ref c10) ∧ PySem.W.excIn K c10 [.type "ValueError", .type "Exception", .type "BaseException", .type "object"] "ValueError.__new__" = true) ∧ (mg "NoText" = some (.ref c11) ∧ PySem.W.excIn K c11 [.type "ValueError", .type "Exception", .type "BaseException", .type "object"] "ValueError.__new__" = true) ∧ (mg "Nought" = some (.ref c12) ∧ PySem.W.excIn K c12 [.type "ValueError", .type "Exception", .type "BaseException", .type "object"] "ValueError.__new__" = true) ∧ (mg "TooHigh" = some (.ref c13) ∧ PySem.W.excIn K c13 [.type "ValueError", .type "Exception", .type "BaseException", .type "object"] "ValueError.__new__" = true) ∧ PySem.W.mroIn K c1 (.ref c0) = some true ∧ PySem.W.mroIn K c1 (.ref c2) = some false ∧ PySem.W.mroIn K c1 (.ref c3) = some false ∧ PySem.W.mroIn K c1 (.ref c4) = some false ∧ PySem.W.mroIn K c1 (.ref c5) = some false ∧ PySem.W.mroIn K c1 (.ref c6) = some false ∧ PySem.W.mroIn K c1 (.ref c7) = some false ∧ PySem.W.mroIn K c1 (.ref c8) = some false ∧ PySem.W.mroIn K c1 (.ref c9) = some false ∧ PySem.W.mroIn K c1 (.ref c10) = some false ∧ PySem.W.mroIn K c1 (.ref c11) = some false ∧ PySem.W.mroIn K c1 (.ref c12) = some false ∧ PySem.W.mroIn K c1 (.ref c13) = some false ∧ PySem.W.mroIn K c2 (.ref c0) = some true ∧ PySem.W.mroIn K c2 (.ref c1) = some false ∧ PySem.W.mroIn K c2 (.ref c3) = some false ∧ PySem.W.mroIn K c2 (.ref c4) = some false ∧ PySem.W.mroIn K c2 (.ref c5) = some false ∧ PySem.W.mroIn K c2 (.ref c6) = some false ∧ PySem.W.mroIn K c2 (.ref c7) = some false ∧ PySem.W.mroIn K c2 (.ref c8) = some false ∧ PySem.W.mroIn K c2 (.ref c9) = some false ∧ PySem.W.mroIn K c2 (.ref c10) = some false ∧ PySem.W.mroIn K c2 (.ref c11) = some false ∧ PySem.W.mroIn K c2 (.ref c12) = some false ∧ PySem.W.mroIn K c2 (.ref c13) = some false ∧ PySem.W.mroIn K c3 (.ref c0) = some true ∧ PySem.W.mroIn K c3 (.ref c1) = some false ∧ PySem.W.mroIn K c3 (.ref c2) = some false ∧ PySem.W.mroIn K c3 (.ref c4) = some false ∧ PySem.W.mroIn K c3 (.ref c5) = some false ∧ PySem.W.mroIn K c3 (.ref c6) = some false ∧ PySem.W.mroIn K c3 (.ref c7) = some false ∧ PySem.W.mroIn K c3 (.ref c8) = some false ∧ PySem.W.mroIn K c3 (.ref c9) = some false ∧ PySem.W.mroIn K c3 (.ref c10) = some false ∧ PySem.W.mroIn K c3 (.ref c11) = some false ∧ PySem.W.mroIn K c3 (.ref c12) = some false ∧ PySem.W.mroIn K c3 (.ref c13) = some false ∧ PySem.W.mroIn K c4 (.ref c0) = some true ∧ PySem.W.mroIn K c4 (.ref c1) = some false ∧ PySem.W.mroIn K c4 (.ref c2) = some false ∧ PySem.W.mroIn K c4 (.ref c3) = some false ∧ PySem.W.mroIn K c4 (.ref c5) = some false ∧ PySem.W.mroIn K c4 (.ref c6) = some false ∧ PySem.W.mroIn K c4 (.ref c7) = some false ∧ PySem.W.mroIn K c4 (.ref c8) = some false ∧ PySem.W.mroIn K c4 (.ref c9) = some false ∧ PySem.W.mroIn K c4 (.ref c10) = some false ∧ PySem.W.mroIn K c4 (.ref c11) = some false ∧ PySem.W.mroIn K c4 (.ref c12) = some false ∧ PySem.W.mroIn K c4 (.ref c13) = some false ∧ (XQ K c0 ∧ XD K c0) ∧ (XQ K c1 ∧ XD K c1) ∧ (XQ K c2 ∧ XD K c2) ∧ (XQ K c3 ∧ XD K c3) ∧ (XQ K c4 ∧ XD K c4) ∧ (XQ K c5 ∧ XD K c5) ∧ (XQ K c6 ∧ XD K c6) ∧ (XQ K c7 ∧ XD K c7) ∧ (XQ K c8 ∧ XD K c8) ∧ (XQ K c9 ∧ XD K c9) ∧ (XQ K c10 ∧ XD K c10) ∧ (XQ K c11 ∧ XD K c11) ∧ (XQ K c12 ∧ XD K c12) ∧ (XQ K c13 ∧ XD K c13)
  c_MOST_POINTS : ∃ t : Tok, mg "MOST_POINTS" = some (.int 600 t)
  z_ValueError : mg "ValueError" = none
  z_bool : mg "bool" = none
  z_int : mg "int" = none
  z_isinstance : mg "isinstance" = none
  z_len : mg "len" = none
  z_list : mg "list" = none
  z_min : mg "min" = none
  z_range : mg "range" = none
  z_sum : mg "sum" = none
  z_tuple : mg "tuple" = none
  z_zip : mg "zip" = none
section
variable {P : Program} {w : World} {K : PySem.W.Frag} {mg : Str → Option Value} {base : Heap} {f : Addr} {fd : FuncData}
set_option maxRecDepth 100000
set_option maxHeartbeats 0
noncomputable def spCm : WSp := fun ws G q _ => ∃ a b : O, ws = [.tup (encP a), .tup (encP b)] ∧ a.dp ≤ 60 ∧ q (.int (O.cmp a b)) G
noncomputable def spMg : WSp := fun ws G q _ => ∃ a b : O, ws = [.tup (encP a), .tup (encP b)] ∧ a.dp ≤ 60 ∧ a.len ≤ 1000 ∧ b.len ≤ 1000 ∧ q (.tup (encP (O.mergeO a b))) G
theorem scCm : FnScope ["a", "b"] ["a", "b"] (defScope (top 17)) := ⟨rfl, rfl, rfl, by decide +kernel, rfl, by decide +kernel, by decide +kernel⟩
theorem fnCm (F : Fun K "compare" "compare" (top 17) f fd) : WFn P w K mg base 1 f fd ["a", "b"] spCm := by
  have nd := scCm.nd
  refine fn3 F scCm (fun ws G q e h => by obtain ⟨_, _, rfl, _⟩ := h; rfl) (fun cdv A outer s H E hr => ?_)
  apply bodyOf
  · exact (qss_cons (qs_if (qt_cmp (q_eq4 hr) (qe_var 0 rfl (.inl rfl)) (qe_var 1 rfl (.inl rfl)) (nomark _)) (qss_cons (qs_ret qe_int) qss_nil) qss_nil) (qss_cons (qs_ret (qe_ifExp (qt_cmp (q_lt3 hr) (qe_var 0 rfl (.inl rfl)) (qe_var 1 rfl (.inl rfl)) (nomark _)) (qe_neg qe_int) qe_int)) qss_nil))
  · rintro ws G q e ⟨a, b, rfl, hx, hq⟩
    walk_at "R"
    have h1 := lts_encP a b
    have hd := tup_dep a
    rw [tup_eq, h1.2]
    refine ⟨tup_flat a, tup_flat b, by (clear F nd hr hq h1; omega), ?_⟩
    rcases O.cmp_range a b with k | k | k
    · rw [if_neg (by simp; intro z; rw [z, O.cmp_self] at k; (clear F nd hr hx hq h1 hd z; omega)), if_pos (by simp; (clear F nd hr hx hq h1 hd; omega))]
      exact ⟨encP_flat a, encP_flat b, encP_deps a (by exact Nat.le_trans (by assumption) (Nat.le_of_ble_eq_true rfl)), h1.1, GLe.done (by rw [k] at hq; exact hq)⟩
    · rw [if_pos (by simpa using O.cmp_eq _ _ k)]
      exact GLe.done (by rw [k] at hq; exact hq)
    · rw [if_neg (by simp; intro z; rw [z, O.cmp_self] at k; (clear F nd hr hx hq h1 hd z; omega)), if_neg (by simp; (clear F nd hr hx hq h1 hd; omega))]
      exact ⟨encP_flat a, encP_flat b, encP_deps a (by exact Nat.le_trans (by assumption) (Nat.le_of_ble_eq_true rfl)), h1.1, GLe.done (by rw [k] at hq; exact hq)⟩
theorem ix_exp {a x : O} {n : Int} {i j k : Nat} {τ : WSt} {G : Gp} {q : WK} (hx : a.getP i = some (x, n)) (h1 : τ[j]? = some (some (.tup (encP a)))) (h2 : τ[k]? = some (some (.int (i : Int)))) (hq : q (.tup (encP x)) G) : wOp rIx3 (wOp rIx3 (wVar j) (wVar k)) (wC (.int 0)) τ G q := by
  simp only [wOp, wVar, h1, h2, rIx3, wC]
  refine ⟨_, encP_at hx, ?_⟩
  exact ⟨_, rfl, hq⟩
theorem ix_tm {a x : O} {n : Int} {i j k : Nat} {τ : WSt} {G : Gp} {q : WK} (hx : a.getP i = some (x, n)) (h1 : τ[j]? = some (some (.tup (encP a)))) (h2 : τ[k]? = some (some (.int (i : Int)))) (hq : q (.int n) G) : wOp rIx3 (wOp rIx3 (wVar j) (wVar k)) (wC (.int 1)) τ G q := by
  simp only [wOp, wVar, h1, h2, rIx3, wC]
  refine ⟨_, encP_at hx, ?_⟩
  exact ⟨_, rfl, hq⟩
theorem scMg : FnScope ["a", "b", "parts", "i", "j", "order"] ["a", "b"] (defScope (top 19)) := ⟨rfl, rfl, rfl, by decide +kernel, rfl, by decide +kernel, by decide +kernel⟩
theorem fnMg (F : Fun K "merged" "merged" (top 19) f fd) (F1 : Fx P w K mg base "compare" ["a", "b"] 1 spCm) (ml : mg "len" = none) (mt : mg "tuple" = none) : WFn P w K mg base 2 f fd ["a", "b"] spMg := by
  have nd := scMg.nd
  refine fn3 F scMg (fun ws G q e h => by obtain ⟨_, _, rfl, _⟩ := h; rfl) (fun cdv A outer s H E hr => ?_)
  apply bodyOf
  · exact (qss_cons (qs_set 2 nd rfl (.inl rfl) (qe_lst qa_nil)) (qss_cons (qs_set 3 nd rfl (.inl rfl) qe_int) (qss_cons (qs_set 4 nd rfl (.inl rfl) qe_int) (qss_cons (qs_while PySem.PassesOwn.never (qt_w (qw_and (qt_cmp (q_lt3 hr) (qe_var 3 rfl (.inl rfl)) (qe_callB q_len rfl ml PySem.boot_len (qa_cons (qe_var 0 rfl (.inl rfl)) qa_nil)) (nomark _)) (qw_and1 (qt_cmp (q_lt3 hr) (qe_var 4 rfl (.inl rfl)) (qe_callB q_len rfl ml PySem.boot_len (qa_cons (qe_var 1 rfl (.inl rfl)) qa_nil)) (nomark _))))) (qss_cons (qs_set 5 nd rfl (.inl rfl) (qe_fxn F1 (Room.mono hr (by omega)) rfl (qa_cons (qe_ix q_ix (qe_ix q_ix (qe_var 0 rfl (.inl rfl)) (qe_var 3 rfl (.inl rfl)) (fun _ _ => rfl)) qe_int (fun _ _ => rfl)) (qa_cons (qe_ix q_ix (qe_ix q_ix (qe_var 1 rfl (.inl rfl)) (qe_var 4 rfl (.inl rfl)) (fun _ _ => rfl)) qe_int (fun _ _ => rfl)) qa_nil)))) (qss_cons (qs_if (qt_cmp q_gt (qe_var 5 rfl (.inl rfl)) qe_int (nomark _)) (qss_cons (qs_expr (qe_app (qe_var 2 rfl (.inl rfl)) (qe_ix q_ix (qe_var 0 rfl (.inl rfl)) (qe_var 3 rfl (.inl rfl)) (fun _ _ => rfl)))) qss_nil) (qss_cons (qs_if (qt_cmp (q_lt3 hr) (qe_var 5 rfl (.inl rfl)) qe_int (nomark _)) (qss_cons (qs_expr (qe_app (qe_var 2 rfl (.inl rfl)) (qe_ix q_ix (qe_var 1 rfl (.inl rfl)) (qe_var 4 rfl (.inl rfl)) (fun _ _ => rfl)))) qss_nil) (qss_cons (qs_expr (qe_app (qe_var 2 rfl (.inl rfl)) (qe_tup (qa_cons (qe_ix q_ix (qe_ix q_ix (qe_var 0 rfl (.inl rfl)) (qe_var 3 rfl (.inl rfl)) (fun _ _ => rfl)) qe_int (fun _ _ => rfl)) (qa_cons (qe_op q_add (qe_ix q_ix (qe_ix q_ix (qe_var 0 rfl (.inl rfl)) (qe_var 3 rfl (.inl rfl)) (fun _ _ => rfl)) qe_int (fun _ _ => rfl)) (qe_ix q_ix (qe_ix q_ix (qe_var 1 rfl (.inl rfl)) (qe_var 4 rfl (.inl rfl)) (fun _ _ => rfl)) qe_int (fun _ _ => rfl))) qa_nil))))) qss_nil)) qss_nil)) (qss_cons (qs_if (qt_cmp q_ge (qe_var 5 rfl (.inl rfl)) qe_int (nomark _)) (qss_cons (qs_set 3 nd rfl (.inl rfl) (qe_op q_add (qe_var 3 rfl (.inl rfl)) qe_int)) qss_nil) qss_nil) (qss_cons (qs_if (qt_cmp q_le (qe_var 5 rfl (.inl rfl)) qe_int (nomark _)) (qss_cons (qs_set 4 nd rfl (.inl rfl) (qe_op q_add (qe_var 4 rfl (.inl rfl)) qe_int)) qss_nil) qss_nil) qss_nil))))) (qss_cons (qs_ret (qe_op q_add (qe_op q_add (qe_callTy q_tuple rfl mt b_tuple (qa_cons (qe_var 2 rfl (.inl rfl)) qa_nil)) (qe_slice (qe_var 0 rfl (.inl rfl)) (qo_some (qe_var 3 rfl (.inl rfl))) qo_none)) (qe_slice (qe_var 1 rfl (.inl rfl)) (qo_some (qe_var 4 rfl (.inl rfl))) qo_none))) qss_nil)))))
  · rintro ws G q e ⟨a, b, rfl, hx, hl, hl2, hq⟩
    refine seqU fun U hU => ?_
    walk_at "R"
    intro p hp
    subst hU
    refine seqU fun U hU => ?_
    walk_at "R"
    subst hU
    refine seqU fun U hU => ?_
    walk_at "R"
    subst hU
    refine seqU fun U hU => ?_
    refine whileW (fun m τ G' => ∃ (i j : Nat) (ws : List W) (t5 : Option W), τ = [some (.tup (encP a)), some (.tup (encP b)), some (.ref p), some (.int (i : Int)), some (.int (j : Int)), t5] ∧ G' p = some (.lst ws) ∧ GLe G G' ∧ ws ++ encP (O.mergeO (O.dropO i a) (O.dropO j b)) = encP (O.mergeO a b) ∧ i ≤ a.len ∧ j ≤ b.len ∧ ws.length ≤ i + j ∧ m = a.len - i + (b.len - j))
      ⟨_, 0, 0, [], none, rfl, updG_same, GLe.new hp, rfl, Nat.zero_le _, Nat.zero_le _, Nat.zero_le _, rfl⟩ ?_
    rintro m τ G' ⟨i, j, ws, t5, rfl, hG, le, hw, hi, hj, hwl, rfl⟩ B hB
    walk_at "R"
    rw [encP_length, encP_length]
    have fin : (a.len ≤ i ∨ b.len ≤ j) → U { nx := fun x G1 => ∃ G0, GLe G0 G1 ∧ q W.non G0, rt := fun w G1 => ∃ G0, GLe G0 G1 ∧ q w G0 } [some (.tup (encP a)), some (.tup (encP b)), some (.ref p), some (.int (i : Int)), some (.int (j : Int)), t5] G' := fun hend => by
      subst hU
      walk_at "R"
      rw [cut_from, cut_from, encP_drop, encP_drop]
      have la := O.len_dropO i a
      have lb := O.len_dropO j b
      refine ⟨ws, hG, by rw [encP_length]; (clear F F1 ml mt nd hr hx hq hp hG le hw hB hend lb; omega), by rw [List.length_append, encP_length, encP_length]; (clear F F1 ml mt nd hr hx hq hp hG le hw hB hend; omega), G, le, ?_⟩
      rcases hend with h | h
      · rw [O.dropO_len h, O.z_merge] at hw
        rw [O.dropO_len h]
        simp only [encP_z, List.append_nil]
        rw [hw]
        exact hq
      · rw [O.dropO_len h, O.merge_z] at hw
        rw [O.dropO_len h]
        simp only [encP_z, List.append_nil]
        rw [hw]
        exact hq
    split
    · rename_i h1
      split
      · rename_i h2
        refine ⟨fun τ1 G1 => ∃ (i' j' : Nat) (ws : List W) (t5 : Option W), τ1 = [some (.tup (encP a)), some (.tup (encP b)), some (.ref p), some (.int (i' : Int)), some (.int (j' : Int)), t5] ∧ G1 p = some (.lst ws) ∧ GLe G G1 ∧ ws ++ encP (O.mergeO (O.dropO i' a) (O.dropO j' b)) = encP (O.mergeO a b) ∧ i' ≤ a.len ∧ j' ≤ b.len ∧ ws.length ≤ i' + j' ∧ a.len - i' + (b.len - j') < a.len - i + (b.len - j), ?_, ?_⟩
        · rintro τ1 G1 ⟨i', j', ws', t5', rfl, k1, k2, k3, k4, k5, k6, k7⟩
          exact ⟨_, k7, i', j', ws', t5', rfl, k1, k2, k3, k4, k5, k6, rfl⟩
        · obtain ⟨y, n, hp1⟩ := O.getP_some (a := a) (i := i) (by (clear F F1 ml mt nd hr hx hl hl2 hq hp hU hG le hw hi hj hwl hB fin h2; omega))
          obtain ⟨y', n', hp2⟩ := O.getP_some (a := b) (i := j) (by (clear F F1 ml mt nd hr hx hl hl2 hq hp hU hG le hw hi hj hwl hB fin h1 hp1; omega))
          have hs := O.getP_size hp1
          have hA := encP_at hp1
          have hBt := encP_at hp2
          have le' : ∀ g, GLe G (updG G' p g) := fun g a' g' ea => by
            rw [updG_ne (fun z => by rw [z, hp] at ea; cases ea)]
            exact le a' g' ea
          rw [O.dropO_get hp1, O.dropO_get hp2, O.merge_c] at hw
          subst hB
          generalize hA0 : wOp rIx3 (wOp rIx3 (wVar 0) (wVar 3)) (wC (W.int 0)) = A0
          generalize hA1 : wOp rIx3 (wOp rIx3 (wVar 0) (wVar 3)) (wC (W.int 1)) = A1
          generalize hB0 : wOp rIx3 (wOp rIx3 (wVar 1) (wVar 4)) (wC (W.int 0)) = B0
          generalize hB1 : wOp rIx3 (wOp rIx3 (wVar 1) (wVar 4)) (wC (W.int 1)) = B1
          have fA0 : ∀ (t5 : Option W) (q : WK), q (.tup (encP y)) G' → A0 [some (.tup (encP a)), some (.tup (encP b)), some (.ref p), some (.int (i : Int)), some (.int (j : Int)), t5] G' q := fun t5 q h => hA0 ▸ ix_exp hp1 rfl rfl h
          have fA1 : ∀ (t5 : Option W) (q : WK), q (.int n) G' → A1 [some (.tup (encP a)), some (.tup (encP b)), some (.ref p), some (.int (i : Int)), some (.int (j : Int)), t5] G' q := fun t5 q h => hA1 ▸ ix_tm hp1 rfl rfl h
          have fB0 : ∀ (t5 : Option W) (q : WK), q (.tup (encP y')) G' → B0 [some (.tup (encP a)), some (.tup (encP b)), some (.ref p), some (.int (i : Int)), some (.int (j : Int)), t5] G' q := fun t5 q h => hB0 ▸ ix_exp hp2 rfl rfl h
          have fB1 : ∀ (t5 : Option W) (q : WK), q (.int n') G' → B1 [some (.tup (encP a)), some (.tup (encP b)), some (.ref p), some (.int (i : Int)), some (.int (j : Int)), t5] G' q := fun t5 q h => hB1 ▸ ix_tm hp2 rfl rfl h
          clear hA0 hA1 hB0 hB1
          refine seqU fun U1 hU1 => ?_
          walk_at "R"
          refine fA0 _ _ (fB0 _ _ ?_)
          refine ⟨y, y', rfl, by (clear F F1 ml mt nd hr hl hl2 hq hp hU hG le hi hj hwl fin h1 h2 hp1 hw hp2 hA hBt le' fA0 fA1 fB0 fB1 hU1; omega), ?_⟩
          subst hU1
          refine seqU fun U1 hU1 => ?_
          walk_at "R"
          by_cases c1 : 0 < O.cmp y y'
          · rw [if_pos c1] at hw ⊢
            rw [encP_c] at hw
            refine ⟨⟨_, hG⟩, _, hA, ws, hG, by (clear F F1 ml mt nd hr hx hq hp hU hG le hi hj fin hp1 hw hp2 hs hA hBt le' fA0 fA1 fB0 fB1 hU1 c1; omega), ?_⟩
            subst hU1
            refine seqU fun U1 hU1 => ?_
            walk_at "R"
            rw [if_pos (by (clear F F1 ml mt nd hr hx hl hl2 hq hp hU hG le hi hj hwl fin h1 h2 hp1 hw hp2 hs hA hBt le' fA0 fA1 fB0 fB1 hU1; omega))]
            subst hU1
            walk_at "R"
            rw [if_neg (by (clear F F1 ml mt nd hr hx hl hl2 hq hp hU hG le hi hj hwl fin h1 h2 hp1 hw hp2 hs hA hBt le' fA0 fA1 fB0 fB1; omega))]
            exact ⟨i + 1, j, ws ++ [prt y n], _, rfl, updG_same, le' _, by rw [List.append_assoc, O.dropO_get hp2]; exact hw, by (clear F F1 ml mt nd hr hx hl hl2 hq hp hU hG le hi hj hwl fin h2 hp1 hw hp2 hs hA hBt le' fA0 fA1 fB0 fB1 c1; omega), hj, by simp; (clear F F1 ml mt nd hr hx hl hl2 hq hp hU hG le hi hj fin h1 h2 hp1 hw hp2 hs hA hBt le' fA0 fA1 fB0 fB1 c1; omega), by (clear F F1 ml mt nd hr hx hl hl2 hq hp hU hG le hi hj hwl fin hp1 hw hp2 hs hA hBt le' fA0 fA1 fB0 fB1 c1; omega)⟩
          · rw [if_neg c1] at hw ⊢
            by_cases c2 : O.cmp y y' < 0
            · rw [if_pos c2] at hw ⊢
              rw [encP_c] at hw
              refine ⟨⟨_, hG⟩, _, hBt, ws, hG, by (clear F F1 ml mt nd hr hx hq hp hU hG le hi hj fin hp1 hw hp2 hs hA hBt le' fA0 fA1 fB0 fB1 hU1 c1 c2; omega), ?_⟩
              subst hU1
              refine seqU fun U1 hU1 => ?_
              walk_at "R"
              rw [if_neg (by (clear F F1 ml mt nd hr hx hl hl2 hq hp hU hG le hi hj hwl fin h1 h2 hp1 hw hp2 hs hA hBt le' fA0 fA1 fB0 fB1 c1 hU1; omega))]
              subst hU1
              walk_at "R"
              rw [if_pos (by (clear F F1 ml mt nd hr hx hl hl2 hq hp hU hG le hi hj hwl fin h1 h2 hp1 hw hp2 hs hA hBt le' fA0 fA1 fB0 fB1 c1; omega))]
              exact ⟨i, j + 1, ws ++ [prt y' n'], _, rfl, updG_same, le' _, by rw [List.append_assoc, O.dropO_get hp1]; exact hw, hi, by (clear F F1 ml mt nd hr hx hl hl2 hq hp hU hG le hi hj hwl fin h1 hp1 hw hp2 hs hA hBt le' fA0 fA1 fB0 fB1 c1 c2; omega), by simp; (clear F F1 ml mt nd hr hx hl hl2 hq hp hU hG le hi hj fin h1 h2 hp1 hw hp2 hs hA hBt le' fA0 fA1 fB0 fB1 c1 c2; omega), by (clear F F1 ml mt nd hr hx hl hl2 hq hp hU hG le hi hj hwl fin h1 hp1 hw hp2 hs hA hBt le' fA0 fA1 fB0 fB1 c1 c2; omega)⟩
            · rw [if_neg c2] at hw ⊢
              rw [encP_c] at hw
              refine ⟨⟨_, hG⟩, fA0 _ _ (fA1 _ _ (fB1 _ _ ?_))⟩
              walk_at "R"
              refine ⟨ws, hG, by (clear F F1 ml mt nd hr hx hq hp hU hG le hi hj fin hp1 hw hp2 hs hA hBt le' fA0 fA1 fB0 fB1 hU1 c1 c2; omega), ?_⟩
              subst hU1
              refine seqU fun U1 hU1 => ?_
              walk_at "R"
              rw [if_pos (by (clear F F1 ml mt nd hr hx hl hl2 hq hp hU hG le hi hj hwl fin h1 h2 hp1 hw hp2 hs hA hBt le' fA0 fA1 fB0 fB1 hU1; omega))]
              subst hU1
              walk_at "R"
              rw [if_pos (by (clear F F1 ml mt nd hr hx hl hl2 hq hp hU hG le hi hj hwl fin h1 h2 hp1 hw hp2 hs hA hBt le' fA0 fA1 fB0 fB1; omega))]
              exact ⟨i + 1, j + 1, ws ++ [prt y (n + n')], _, rfl, updG_same, le' _, by rw [List.append_assoc]; exact hw, by (clear F F1 ml mt nd hr hx hl hl2 hq hp hU hG le hi hj hwl fin h2 hp1 hw hp2 hs hA hBt le' fA0 fA1 fB0 fB1 c1 c2; omega), by (clear F F1 ml mt nd hr hx hl hl2 hq hp hU hG le hi hj hwl fin h1 hp1 hw hp2 hs hA hBt le' fA0 fA1 fB0 fB1 c1 c2; omega), by simp; (clear F F1 ml mt nd hr hx hl hl2 hq hp hU hG le hi hj fin h1 h2 hp1 hw hp2 hs hA hBt le' fA0 fA1 fB0 fB1 c1 c2; omega), by (clear F F1 ml mt nd hr hx hl hl2 hq hp hU hG le hi hj hwl fin hp1 hw hp2 hs hA hBt le' fA0 fA1 fB0 fB1 c1 c2; omega)⟩
      · exact fin (.inr (by (clear F F1 ml mt nd hr hx hl hl2 hq hp hU hG le hw hi hwl hB fin h1; omega)))
    · exact fin (.inl (by (clear F F1 ml mt nd hr hx hl hl2 hq hp hU hG le hw hj hwl hB fin; omega)))
noncomputable def spMk : WSp := fun ws G q _ => ∃ c k : Int, ws = [.int c, .int k] ∧ 0 ≤ k ∧ k ≤ 1000 ∧ ∀ v : Int, 0 ≤ v → v < 2147483647 → q (.int v) G
theorem scMk : FnScope ["_law_cell", "_law_k"] ["_law_cell", "_law_k"] (defScope (top 33)) := ⟨rfl, rfl, rfl, by decide +kernel, rfl, by decide +kernel, by decide +kernel⟩
theorem fnMk (F : Fun K "_law_mix" "_law_mix" (top 33) f fd) : WFn P w K mg base 1 f fd ["_law_cell", "_law_k"] spMk := by
  have nd := scMk.nd
  refine fn3 F scMk (fun ws G q e h => by obtain ⟨_, _, rfl, _⟩ := h; rfl) (fun cdv A outer s H E hr => ?_)
  apply bodyOf
  · exact (qss_cons (qs_ret (qe_op q_mod (qe_op q_add (qe_op q_add (qe_op q_add (qe_op q_mulT (qe_var 0 rfl (.inl rfl)) qe_int) (qe_op q_mulT (qe_op q_mulT (qe_var 1 rfl (.inl rfl)) (qe_var 1 rfl (.inl rfl))) qe_int)) (qe_op q_mulT qe_int (qe_var 1 rfl (.inl rfl)))) qe_int) qe_int)) qss_nil)
  · rintro ws G q e ⟨c, k, rfl, h0, h1, hq⟩
    walk_at "R"
    have hz := mod_in (i := c * 48271 + k * k * 69621 + 11 * k + 1) (j := 2147483647) (by (clear F nd hr h0 h1 hq; omega))
    refine ⟨.inl (.inl (.inl (by (clear F nd hr hq hz; omega)))), ?_⟩
    exact GLe.done (hq _ hz.1 hz.2)
noncomputable def spLc (d : Nat) : WSp := fun ws G q _ => ∃ a b : O, ws = [.tup (encP a), .tup (encP b)] ∧ a.dp < d ∧ b.dp ≤ 60 ∧ q (.int (O.cmp a b)) G
theorem scLc : FnScope ["_law_a", "_law_b", "_law_one", "_law_two", "_law_side"] ["_law_a", "_law_b"] (defScope (top 35)) := ⟨rfl, rfl, rfl, by decide +kernel, rfl, by decide +kernel, by decide +kernel⟩
theorem b2z (i j : Int) : (if j < i then (1 : Int) else 0) - (if i < j then 1 else 0) = cmpZ i j := by
  by_cases hA : j < i <;> by_cases hB : i < j <;> simp [cmpZ, hA, hB] <;> omega
theorem fnLc {d k : Nat} (hd : d ≤ 60) (F : Fun K "_law_compare" "_law_compare" (top 35) f fd) (F1 : Fx P w K mg base "_law_compare" ["_law_a", "_law_b"] k (spLc d)) (ml : mg "len" = none) (mz : mg "zip" = none) (mn : mg "int" = none) : WFn P w K mg base (k + 1) f fd ["_law_a", "_law_b"] (spLc (d + 1)) := by
  have nd := scLc.nd
  refine fn3 F scLc (fun ws G q e h => by obtain ⟨_, _, rfl, _⟩ := h; rfl) (fun cdv A outer s H E hr => ?_)
  apply bodyOf
  · exact (qss_cons (qs_for PySem.PassesOwn.never rfl (qi_zip rfl mz (qa_cons (qe_var 0 rfl (.inl rfl)) (qa_cons (qe_var 1 rfl (.inl rfl)) qa_nil))) (qg_tup rfl (qgs_cons (qg_name 2 nd rfl (.inl rfl)) (qgs_cons (qg_name 3 nd rfl (.inl rfl)) qgs_nil))) (qss_cons (qs_if (qt_cmp (q_ne4 hr) (qe_var 2 rfl (.inl rfl)) (qe_var 3 rfl (.inl rfl)) (nomark _)) (qss_cons (qs_set 4 nd rfl (.inl rfl) (qe_fxn F1 (Room.mono hr (by omega)) rfl (qa_cons (qe_ix q_ix (qe_var 2 rfl (.inl rfl)) qe_int (fun _ _ => rfl)) (qa_cons (qe_ix q_ix (qe_var 3 rfl (.inl rfl)) qe_int (fun _ _ => rfl)) qa_nil)))) (qss_cons (qs_if (qt_cmp (q_eq4 hr) (qe_var 4 rfl (.inl rfl)) qe_int (nomark _)) (qss_cons (qs_ret (qe_op q_sub (qe_callTy q_int rfl mn PyProof.Rows.boot_int (qa_cons (qe_cmp q_gt (qe_ix q_ix (qe_var 2 rfl (.inl rfl)) qe_int (fun _ _ => rfl)) (qe_ix q_ix (qe_var 3 rfl (.inl rfl)) qe_int (fun _ _ => rfl)) (nomark _)) qa_nil)) (qe_callTy q_int rfl mn PyProof.Rows.boot_int (qa_cons (qe_cmp (q_lt3 hr) (qe_ix q_ix (qe_var 2 rfl (.inl rfl)) qe_int (fun _ _ => rfl)) (qe_ix q_ix (qe_var 3 rfl (.inl rfl)) qe_int (fun _ _ => rfl)) (nomark _)) qa_nil)))) qss_nil) qss_nil) (qss_cons (qs_ret (qe_var 4 rfl (.inl rfl))) qss_nil))) qss_nil) qss_nil)) (qss_cons (qs_ret (qe_op q_sub (qe_callTy q_int rfl mn PyProof.Rows.boot_int (qa_cons (qe_cmp q_gt (qe_callB q_len rfl ml PySem.boot_len (qa_cons (qe_var 0 rfl (.inl rfl)) qa_nil)) (qe_callB q_len rfl ml PySem.boot_len (qa_cons (qe_var 1 rfl (.inl rfl)) qa_nil)) (nomark _)) qa_nil)) (qe_callTy q_int rfl mn PyProof.Rows.boot_int (qa_cons (qe_cmp (q_lt3 hr) (qe_callB q_len rfl ml PySem.boot_len (qa_cons (qe_var 0 rfl (.inl rfl)) qa_nil)) (qe_callB q_len rfl ml PySem.boot_len (qa_cons (qe_var 1 rfl (.inl rfl)) qa_nil)) (nomark _)) qa_nil)))) qss_nil))
  · rintro ws G q e ⟨a, b, rfl, hx, hy, hq⟩
    refine seqU fun U hU => ?_
    walk_at "R"
    refine loopW_ind (fun ws τ G' => G' = G ∧ ∃ x y t2 t3 t4, ws = zipW (encP x) (encP y) ∧ τ = [some (.tup (encP a)), some (.tup (encP b)), t2, t3, t4] ∧ O.cmp a b = O.cmp x y ∧ a.len + y.len = b.len + x.len ∧ x.dp < d + 1 ∧ y.dp ≤ 60) ?_ ?_ _ _ _ ⟨rfl, a, b, none, none, none, rfl, rfl, rfl, by (clear hd F F1 ml mz mn nd hr hx hy hq hU; omega), hx, hy⟩
    · rintro τ G' ⟨rfl, x, y, t2, t3, t4, hz, rfl, hc, hl, hx', hy'⟩
      refine ⟨trivial, ?_⟩
      subst hU
      walk_at "R"
      refine GLe.done ?_
      rw [encP_length, encP_length, b2z, cmpZ_shift hl, ← cmp_len_nil (zip_nil hz.symm), ← hc]
      exact hq
    · rintro w1 ws τ G' k1 ⟨rfl, x, y, t2, t3, t4, hz, rfl, hc, hl, hx', hy'⟩ hk
      obtain ⟨x1, n, r, x1', n', r', rfl, rfl, rfl, rfl⟩ := zip_cons hz.symm
      refine ⟨trivial, ?_⟩
      have pd := prt_dep x1 n
      have pd' := prt_dep x1' n'
      have hx2 : x1.dp < d := by simp only [O.dp] at hx'; (clear hd F F1 ml mz mn nd hr hx hy hU hq hy' hc hl hk hz pd pd'; omega)
      have hy2 : x1'.dp ≤ 60 := by simp only [O.dp] at hy'; (clear hd F F1 ml mz mn nd hr hx hy hU hq hx' hc hl hk hz pd pd' hx2; omega)
      have again : cmpP x1 n x1' n' = 0 → ∀ t2 t3 t4, k1 [some (.tup (encP a)), some (.tup (encP b)), t2, t3, t4] G' := fun z t2 t3 t4 => by
        rw [cmp_c, if_neg (by simpa using z)] at hc
        refine hk _ _ ⟨rfl, r, r', _, _, _, rfl, rfl, hc, ?_, ?_, ?_⟩
        · simp only [O.len] at hl; (clear hd F F1 ml mz mn nd hr hx hy hU hq hx' hy' hc hk hz pd pd' hx2 hy2 z; omega)
        · simp only [O.dp] at hx'; (clear hd F F1 ml mz mn nd hr hx hy hU hq hy' hc hl hk hz pd pd' hy2 z; omega)
        · simp only [O.dp] at hy'; (clear hd F F1 ml mz mn nd hr hx hy hU hq hx' hc hl hk hz pd pd' hx2 z; omega)
      have leave : cmpP x1 n x1' n' ≠ 0 → q (.int (cmpP x1 n x1' n')) G' := fun z => by
        rw [hc, cmp_c, if_pos z] at hq
        exact hq
      unfold cmpP at again leave
      simp only [hTup, hCons, hNil, hName, List.set_cons_succ, List.set_cons_zero]
      refine ⟨rfl, ?_⟩
      refine seqU fun U1 hU1 => ?_
      refine ifU fun T1 T2 hT1 hT2 => ?_
      walk_at "R"
      refine ⟨prt_flat' x1 n, prt_flat' x1' n', by (clear F F1 ml mz mn nd hr hx hy hU hq hx' hy' hc hl hk hz pd' hy2 again leave hU1 hT1 hT2; omega), ?_⟩
      rw [prt_eq]
      by_cases hh : x1 = x1' ∧ n = n'
      · rw [if_neg (by simpa using hh)]
        subst hT2 hU1
        walk_at "R"
        obtain ⟨h1, h2⟩ := hh
        subst h1 h2
        rw [O.cmp_self, if_neg (by simp)] at again
        exact again (cmpZ_self n) _ _ _
      · rw [if_pos (by simpa using hh)]
        subst hT1
        refine seqU fun U2 hU2 => ?_
        unfold prt enc
        walk_at "R"
        refine ⟨x1, x1', rfl, hx2, hy2, ?_⟩
        subst hU2
        refine seqU fun U2 hU2 => ?_
        refine ifU fun T3 T4 hT3 hT4 => ?_
        walk_at "R"
        by_cases h : O.cmp x1 x1' = 0
        · rw [if_pos h]
          subst hT3
          walk_at "R"
          rw [b2z]
          have e0 := O.cmp_eq _ _ h
          rw [if_neg (by simpa using h)] at leave
          refine GLe.done (leave fun z => hh ⟨e0, ?_⟩)
          rcases Int.lt_trichotomy n n' with k2 | k2 | k2
          · rw [cmpZ_lt k2] at z; (clear hd F F1 ml mz mn nd hr hx hy hU hq hx' hy' hc hl hk hz pd pd' hx2 hy2 again leave hU1 hT2 hh hU2 hT4 h e0 k2; omega)
          · exact k2
          · rw [cmpZ_gt k2] at z; (clear hd F F1 ml mz mn nd hr hx hy hU hq hx' hy' hc hl hk hz pd pd' hx2 hy2 again leave hU1 hT2 hh hU2 hT4 h e0 k2; omega)
        · rw [if_neg h]
          subst hT4 hU2
          walk_at "R"
          rw [if_pos h] at leave
          exact GLe.done (leave h)
theorem fxLc (T : Txt K mg) : ∀ d : Nat, d ≤ 60 → Fx P w K mg base "_law_compare" ["_law_a", "_law_b"] d (spLc d)
  | 0, _ => T.d__law_compare.fx fun f fd F => WFn.none fun ws G q e ⟨a, b, _, h, _⟩ => by (clear T F; omega)
  | d + 1, h => T.d__law_compare.fx fun f fd F => fnLc (by (clear T F; omega)) F (fxLc T d (by (clear T F; omega))) T.z_len T.z_zip T.z_int
noncomputable def encT : Tr → List W
  | .z => []
  | .c b r => .tup (encT b) :: encT r
structure Hp1 (G0 G : Gp) (p pu pd : Addr) (n : Nat) (ad : Nat → Addr) (ch : Nat → List Nat) (ds : Nat → Nat) (cs : List Int) : Prop where
  le : GLe G0 G
  cs : G p = some (.lst (cs.map W.int))
  u : G pu = some (.lst ((List.range n).map fun v => W.ref (ad v)))
  d : G pd = some (.lst ((List.range n).map fun v => W.int ((ds v : Nat) : Int)))
  c : ∀ v, v < n → G (ad v) = some (.lst ((ch v).map fun j => W.int ((j : Nat) : Int)))
  inj : ∀ v w, v < n → w < n → ad v = ad w → v = w
  ne : ∀ v, v < n → ad v ≠ p ∧ ad v ≠ pu ∧ ad v ≠ pd ∧ G0 (ad v) = none
  pu : p ≠ pu ∧ p ≠ pd ∧ pu ≠ pd ∧ G0 pu = none ∧ G0 pd = none
theorem Hp1.start {G : Gp} {p a0 pu pd : Addr} {cs : List Int} (hp : G p = some (.lst (cs.map W.int))) (h0 : G a0 = none) (h1 : updG G a0 (.lst []) pu = none) (h2 : updG (updG G a0 (.lst [])) pu (.lst [.ref a0]) pd = none) :
    Hp1 G (updG (updG (updG G a0 (.lst [])) pu (.lst [.ref a0])) pd (.lst [.int 0])) p pu pd 1 (fun _ => a0) (fun _ => []) (fun _ => 0) cs := by
  have ne0 : ∀ x g, G x = some g → x ≠ a0 := fun x g e z => by rw [z, h0] at e; cases e
  have n1 : pu ≠ a0 := fun z => by rw [z, updG_same] at h1; cases h1
  have g1 : G pu = none := by rw [updG_ne n1] at h1; exact h1
  have n2 : pd ≠ pu := fun z => by rw [z, updG_same] at h2; cases h2
  have h2' : updG G a0 (.lst []) pd = none := by rw [updG_ne n2] at h2; exact h2
  have n3 : pd ≠ a0 := fun z => by rw [z, updG_same] at h2'; cases h2'
  have g2 : G pd = none := by rw [updG_ne n3] at h2'; exact h2'
  have p1 : p ≠ pu := fun z => by rw [z, g1] at hp; cases hp
  have p2 : p ≠ pd := fun z => by rw [z, g2] at hp; cases hp
  have p3 := ne0 p _ hp
  refine ⟨((GLe.new h0).put g1).put g2, ?_, ?_, ?_, fun v hv => ?_, fun v w hv hw _ => by (clear hp h0 h1 h2 ne0 n1 g1 n2 h2' n3 g2 p1 p2 p3; omega), fun v hv => ⟨p3.symm, n1.symm, n3.symm, h0⟩, p1, p2, n2.symm, g1, g2⟩
  · rw [updG_ne p2, updG_ne p1, updG_ne p3]; exact hp
  · rw [updG_ne n2.symm]; exact updG_same
  · exact updG_same
  · rw [updG_ne n3.symm, updG_ne n1.symm]; exact updG_same
theorem rng_map {α : Type} {f g : Nat → α} {n : Nat} (h : ∀ v, v < n → f v = g v) : (List.range n).map f = (List.range n).map g := List.map_congr_left fun v hv => h v (List.mem_range.mp hv)
theorem Hp1.more {G0 G : Gp} {p pu pd q : Addr} {n a k : Nat} {ad : Nat → Addr} {ch : Nat → List Nat} {ds : Nat → Nat} {cs : List Int} (h : Hp1 G0 G p pu pd n ad ch ds cs) (ha : a < n) (hq : G q = none) {x : W} {d : Int} (hx : x = .int ((n : Nat) : Int)) (hd : d = ((ds a + 1 : Nat) : Int)) :
    Hp1 G0 (updG (updG (updG (updG G (ad a) (.lst (insW ((ch a).map fun j => W.int ((j : Nat) : Int)) k x))) pd (.lst (((List.range n).map fun v => W.int ((ds v : Nat) : Int)) ++ [.int d]))) q (.lst [])) pu (.lst (((List.range n).map fun v => W.ref (ad v)) ++ [.ref q]))) p pu pd (n + 1)
      (fun v => if v = n then q else ad v) (fun v => if v = a then (ch v).take k ++ n :: (ch v).drop k else if v = n then [] else ch v) (fun v => if v = n then ds a + 1 else ds v) cs := by
  subst hx hd
  obtain ⟨p1, p2, p3, g1, g2⟩ := h.pu
  obtain ⟨a1, a2, a3, a4⟩ := h.ne a ha
  have q1 : ∀ x g, G x = some g → x ≠ q := fun x g e z => by rw [z, hq] at e; cases e
  have qp := q1 p _ h.cs
  have qu := q1 pu _ h.u
  have qd := q1 pd _ h.d
  have qa := fun v hv => q1 (ad v) _ (h.c v hv)
  have g0q : G0 q = none := h.le.none hq
  refine ⟨(((h.le.put a4).put g2).put g0q).put g1, ?_, ?_, ?_, fun v hv => ?_, fun v w hv hw e => ?_, fun v hv => ?_, p1, p2, p3, g1, g2⟩
  · rw [updG_ne p1, updG_ne qp, updG_ne p2, updG_ne a1.symm]; exact h.cs
  · have e1 : (List.range n).map (fun v => W.ref (if v = n then q else ad v)) = (List.range n).map fun v => W.ref (ad v) := rng_map fun v hv => by rw [if_neg (by (clear h ha hq p1 p2 p3 g1 g2 a1 a2 a3 a4 q1 qp qu qd qa g0q; omega))]
    rw [updG_same, List.range_succ, List.map_append, e1, List.map_cons, if_pos rfl, List.map_nil]
  · have e1 : (List.range n).map (fun v => W.int (((if v = n then ds a + 1 else ds v : Nat) : Nat) : Int)) = (List.range n).map fun v => W.int ((ds v : Nat) : Int) := rng_map fun v hv => by rw [if_neg (by (clear h ha hq p1 p2 p3 g1 g2 a1 a2 a3 a4 q1 qp qu qd qa g0q; omega))]
    rw [updG_ne p3.symm, updG_ne qd, updG_same, List.range_succ, List.map_append, e1, List.map_cons, if_pos rfl, List.map_nil]
  · by_cases e : v = n
    · rw [if_pos e, if_neg (show v ≠ a by (clear h hq p1 p2 p3 g1 g2 a1 a2 a3 a4 q1 qp qu qd qa g0q hv; omega)), if_pos e, updG_ne qu.symm]
      exact updG_same
    · obtain ⟨v1, v2, v3, _⟩ := h.ne v (by (clear h ha hq p1 p2 p3 g1 g2 a1 a2 a3 a4 q1 qp qu qd qa g0q; omega))
      rw [if_neg e, updG_ne v2, updG_ne (qa v (by (clear h ha hq p1 p2 p3 g1 g2 a1 a2 a3 a4 q1 qp qu qd qa g0q v1 v2 v3; omega))), updG_ne v3]
      by_cases e2 : v = a
      · subst e2
        rw [if_pos rfl, updG_same]
        unfold insW
        rw [List.map_append, List.map_cons, List.map_take, List.map_drop]
      · rw [if_neg e2, if_neg e, updG_ne (fun z => e2 (h.inj v a (by (clear h hq p1 p2 p3 g1 g2 a1 a2 a3 a4 q1 qp qu qd qa g0q v1 v2 v3 z; omega)) ha z))]
        exact h.c v (by (clear h hq p1 p2 p3 g1 g2 a1 a2 a3 a4 q1 qp qu qd qa g0q v1 v2 v3; omega))
  · by_cases e1 : v = n
    · by_cases e2 : w = n
      · (clear h ha hq p1 p2 p3 g1 g2 a1 a2 a3 a4 q1 qp qu qd qa g0q hv hw e; omega)
      · rw [if_pos e1, if_neg e2] at e
        exact absurd e.symm (qa w (by (clear h ha hq p1 p2 p3 g1 g2 a1 a2 a3 a4 q1 qp qu qd qa g0q hv e; omega)))
    · by_cases e2 : w = n
      · rw [if_neg e1, if_pos e2] at e
        exact absurd e (qa v (by (clear h ha hq p1 p2 p3 g1 g2 a1 a2 a3 a4 q1 qp qu qd qa g0q hw e; omega)))
      · rw [if_neg e1, if_neg e2] at e
        exact h.inj v w (by (clear h ha hq p1 p2 p3 g1 g2 a1 a2 a3 a4 q1 qp qu qd qa g0q e; omega)) (by (clear h ha hq p1 p2 p3 g1 g2 a1 a2 a3 a4 q1 qp qu qd qa g0q hv e e1; omega)) e
  · by_cases e1 : v = n
    · rw [if_pos e1]; exact ⟨qp.symm, qu.symm, qd.symm, g0q⟩
    · rw [if_neg e1]; exact h.ne v (by (clear h ha hq p1 p2 p3 g1 g2 a1 a2 a3 a4 q1 qp qu qd qa g0q; omega))
theorem rng_at {α : Type} {f : Nat → α} {n k : Nat} (h : k < n) : atI ((List.range n).map f) (k : Int) = some (f k) := atI_nat (by simp [h])
theorem rep_rng {α : Type} (x : α) : ∀ n : Nat, (List.replicate n [x]).flatten = (List.range n).map fun _ => x
  | 0 => rfl
  | n + 1 => by rw [List.replicate_succ', List.flatten_append, rep_rng x n, List.range_succ, List.map_append]; rfl
structure Hp2 (G0 G : Gp) (pu pb : Addr) (n : Nat) (ad : Nat → Addr) (ch : Nat → List Nat) (bs : Nat → W) : Prop where
  le : GLe G0 G
  u : G pu = some (.lst ((List.range n).map fun v => W.ref (ad v)))
  c : ∀ v, v < n → G (ad v) = some (.lst ((ch v).map fun j => W.int ((j : Nat) : Int)))
  b : G pb = some (.lst ((List.range n).map bs))
  ne : pb ≠ pu ∧ G0 pb = none
  na : ∀ v, v < n → ad v ≠ pb
theorem Hp2.new {G0 G : Gp} {pu pb r : Addr} {n : Nat} {ad : Nat → Addr} {ch : Nat → List Nat} {bs : Nat → W} {g : GO} (h : Hp2 G0 G pu pb n ad ch bs) (hr : G r = none) : Hp2 G0 (updG G r g) pu pb n ad ch bs :=
  ⟨h.le.trans (GLe.new hr), updG_ne' h.u hr, fun v hv => updG_ne' (h.c v hv) hr, updG_ne' h.b hr, h.ne, h.na⟩
theorem set_rng {α : Type} {f : Nat → α} {n k : Nat} {x : α} : ((List.range n).map f).set k x = (List.range n).map fun v => if v = k then x else f v := by
  apply List.ext_getElem?
  intro j
  rw [List.getElem?_set, List.getElem?_map, List.getElem?_map, List.length_map, List.length_range]
  by_cases e : k = j
  · subst e
    rw [if_pos rfl]
    by_cases hk : k < n
    · rw [if_pos hk, List.getElem?_range hk]; simp
    · rw [if_neg hk, List.getElem?_eq_none (by simp; omega)]; rfl
  · rw [if_neg e]
    cases hj : (List.range n)[j]? with
    | none => rfl
    | some v =>
      have : v = j := by
        obtain ⟨h1, h2⟩ := List.getElem?_eq_some_iff.mp hj
        rw [List.getElem_range] at h2
        (clear e hj h1; omega)
      subst this
      show some (f v) = some (if v = k then x else f v)
      rw [if_neg (fun z => e z.symm)]
theorem Hp2.set {G0 G : Gp} {pu pb : Addr} {n k : Nat} {ad : Nat → Addr} {ch : Nat → List Nat} {bs : Nat → W} {x : W} (h : Hp2 G0 G pu pb n ad ch bs) : Hp2 G0 (updG G pb (.lst (((List.range n).map bs).set k x))) pu pb n ad ch (fun v => if v = k then x else bs v) :=
  ⟨h.le.put h.ne.2, by rw [updG_ne h.ne.1.symm]; exact h.u, fun v hv => by rw [updG_ne (h.na v hv)]; exact h.c v hv, by rw [updG_same, set_rng], h.ne, h.na⟩
theorem enc_ofL : ∀ l : List Tr, encT (Tr.ofL l) = l.map fun b => W.tup (encT b)
  | [] => rfl
  | b :: l => by
    show W.tup (encT b) :: encT (Tr.ofL l) = _
    rw [enc_ofL l]
    rfl
noncomputable def fB (bs : Nat → W) : W → W := fun w => match w with
  | .int j => bs j.toNat
  | w => w
noncomputable def spTr : WSp := fun ws G q _ => ∃ (p : Addr) (cs : List Int) (M : Nat), ws = [.ref p, .int (M : Int)] ∧ G p = some (.lst (cs.map W.int)) ∧ cs.length ≤ 100 ∧ 1 ≤ M ∧ M ≤ 20 ∧ ∀ t : Tr, t.pts = cs.length + 1 → t.dp ≤ M → q (.tup (encT t)) G
theorem scTr : FnScope ["_law_cells", "_law_most", "_law_under", "_law_depths", "_law_k", "_law_mixed", "_law_at_here", "_law_built"] ["_law_cells", "_law_most"] (defScope (top 34)) := ⟨rfl, rfl, rfl, by decide +kernel, rfl, by decide +kernel, by decide +kernel⟩
theorem fnTr (F : Fun K "_law_tree" "_law_tree" (top 34) f fd) (F1 : Fx P w K mg base "_law_mix" ["_law_cell", "_law_k"] 1 spMk) (ml : mg "len" = none) (mr : mg "range" = none) (mt : mg "tuple" = none) : WFn P w K mg base 2 f fd ["_law_cells", "_law_most"] spTr := by
  have nd := scTr.nd
  refine fn3 F scTr (fun ws G q e h => by obtain ⟨_, _, _, rfl, _⟩ := h; rfl) (fun cdv A outer s H E hr => ?_)
  apply bodyOf
  · exact (qss_cons (qs_set 2 nd rfl (.inl rfl) (qe_lst (qa_cons (qe_lst qa_nil) qa_nil))) (qss_cons (qs_set 3 nd rfl (.inl rfl) (qe_lst (qa_cons qe_int qa_nil))) (qss_cons (qs_for PySem.PassesOwn.never rfl (qi_range rfl mr (qa_cons (qe_callB q_len rfl ml PySem.boot_len (qa_cons (qe_var 0 rfl (.inl rfl)) qa_nil)) qa_nil)) (qg_name 4 nd rfl (.inl rfl)) (qss_cons (qs_set 5 nd rfl (.inl rfl) (qe_fxn F1 (Room.mono hr (by omega)) rfl (qa_cons (qe_ix q_ix (qe_var 0 rfl (.inl rfl)) (qe_var 4 rfl (.inl rfl)) (fun _ _ => rfl)) (qa_cons (qe_var 4 rfl (.inl rfl)) qa_nil)))) (qss_cons (qs_set 6 nd rfl (.inl rfl) (qe_op q_mod (qe_op q_divB (qe_var 5 rfl (.inl rfl)) qe_int) (qe_callB q_len rfl ml PySem.boot_len (qa_cons (qe_var 3 rfl (.inl rfl)) qa_nil)))) (qss_cons (qs_if (qt_cmp (q_eq4 hr) (qe_op q_mod (qe_var 5 rfl (.inl rfl)) qe_int) qe_int (nomark _)) (qss_cons (qs_set 6 nd rfl (.inl rfl) (qe_op q_sub (qe_callB q_len rfl ml PySem.boot_len (qa_cons (qe_var 3 rfl (.inl rfl)) qa_nil)) qe_int)) qss_nil) qss_nil) (qss_cons (qs_if (qt_cmp q_ge (qe_ix q_ix (qe_var 3 rfl (.inl rfl)) (qe_var 6 rfl (.inl rfl)) (fun _ _ => rfl)) (qe_var 1 rfl (.inl rfl)) (nomark _)) (qss_cons (qs_set 6 nd rfl (.inl rfl) qe_int) qss_nil) qss_nil) (qss_cons (qs_expr (qe_ins (qe_ix q_ix (qe_var 2 rfl (.inl rfl)) (qe_var 6 rfl (.inl rfl)) (fun _ _ => rfl)) (qe_op q_mod (qe_op q_divB (qe_var 5 rfl (.inl rfl)) qe_int) (qe_op q_add (qe_callB q_len rfl ml PySem.boot_len (qa_cons (qe_ix q_ix (qe_var 2 rfl (.inl rfl)) (qe_var 6 rfl (.inl rfl)) (fun _ _ => rfl)) qa_nil)) qe_int)) (qe_callB q_len rfl ml PySem.boot_len (qa_cons (qe_var 3 rfl (.inl rfl)) qa_nil)))) (qss_cons (qs_expr (qe_app (qe_var 3 rfl (.inl rfl)) (qe_op q_add (qe_ix q_ix (qe_var 3 rfl (.inl rfl)) (qe_var 6 rfl (.inl rfl)) (fun _ _ => rfl)) qe_int))) (qss_cons (qs_expr (qe_app (qe_var 2 rfl (.inl rfl)) (qe_lst qa_nil))) qss_nil)))))))) (qss_cons (qs_set 7 nd rfl (.inr rfl) (qe_op q_mulT (qe_lst (qa_cons (qe_tup qa_nil) qa_nil)) (qe_callB q_len rfl ml PySem.boot_len (qa_cons (qe_var 3 rfl (.inl rfl)) qa_nil)))) (qss_cons (qs_for PySem.PassesOwn.never rfl (qi_rangeG rfl mr (qa_cons (qe_op q_sub (qe_callB q_len rfl ml PySem.boot_len (qa_cons (qe_var 3 rfl (.inl rfl)) qa_nil)) qe_int) (qa_cons (qe_neg qe_int) (qa_cons (qe_neg qe_int) qa_nil)))) (qg_name 4 nd rfl (.inl rfl)) (qss_cons (qs_asg (qe_callTy q_tuple rfl mt b_tuple (qa_cons (qe_comp (compSc (by first | rfl | decide +kernel)) rfl (qi_seq (qe_ix q_ix (qe_var 2 rfl (.inl rfl)) (qe_var 4 rfl (.inl rfl)) (fun _ _ => rfl))) (fun _ _ _ _ => (qg_nameB 1 (by first | assumption | decide +kernel | rfl) rfl (.inl rfl))) (fun _ _ _ _ => qts_nil) (fun _ _ _ _ => (qe_ix q_ix (qe_var 2 rfl (.inr (.inl rfl))) (qe_var 1 rfl (.inl rfl)) (fun _ _ => rfl)))) qa_nil)) (qg_sub (qe_var 7 rfl (.inr (.inl rfl))) (qe_var 4 rfl (.inl rfl)))) qss_nil)) (qss_cons (qs_ret (qe_ix q_ix (qe_var 7 rfl (.inr (.inl rfl))) qe_int (fun _ _ => rfl))) qss_nil))))))
  · rintro ws G q e ⟨p, cs, M, rfl, hp, hl, hM1, hM2, hq⟩
    refine seqU fun U hU => ?_
    walk_at "R"
    intro a0 h0 pu h1
    subst hU
    refine seqU fun U hU => ?_
    walk_at "R"
    intro pd h2
    have S0 := Hp1.start hp h0 h1 h2
    generalize updG (updG (updG G a0 (.lst [])) pu (.lst [.ref a0])) pd (.lst [.int 0]) = G1 at S0
    subst hU
    refine seqU fun U hU => ?_
    walk_at "R"
    refine ⟨_, S0.cs, ?_⟩
    rw [List.length_map]
    refine ⟨by omega, by omega, ?_⟩
    refine loop_up cs.length (fun i τ G' => ∃ (ad : Nat → Addr) (ch : Nat → List Nat) (ds : Nat → Nat) (t4 t5 t6 : Option W), τ = [some (.ref p), some (.int (M : Int)), some (.ref pu), some (.ref pd), t4, t5, t6, none] ∧ Hp1 G G' p pu pd (i + 1) ad ch ds cs ∧ Tr.Hang (i + 1) M ch ds) ⟨_, _, _, none, none, none, rfl, S0, Tr.hang0⟩ ?_ ?_
    · rintro τ G' ⟨ad, ch, ds, t4, t5, t6, rfl, S, hH⟩
      have hl2 : cs.length + 1 ≤ 101 := by (clear F F1 ml mr mt nd hr hp hM1 hM2 hq h0 h1 h2 S0 hU S hH; omega)
      refine ⟨trivial, ?_⟩
      subst hU
      dsimp only
      have hn := hH.pos
      generalize cs.length + 1 = n at hl2 hq S hH hn
      refine seqU fun U hU => ?_
      walk_at "R"
      intro b1 hb1
      refine ⟨_, updG_ne' S.d hb1, _, updG_same, ?_⟩
      rw [List.length_map, List.length_range]
      refine ⟨by (clear F F1 ml mr mt nd hr hp hl hM1 hM2 h0 h1 h2 S0 hq S hH hU hb1; omega), by (clear F F1 ml mr mt nd hr hp hl hM1 hM2 h0 h1 h2 S0 hq S hH hU hb1; omega), by simp only [List.length_cons, List.length_nil]; (clear F F1 ml mr mt nd hr hp hl hM1 hM2 h0 h1 h2 S0 hq S hH hU hb1; omega), fun pb hpb => ?_⟩
      rw [rep_rng]
      have fr : ∀ x g, G' x = some g → x ≠ pb := fun x g e z => by
        have := updG_ne' (g := GO.lst [W.tup []]) e hb1
        rw [z, hpb] at this
        cases this
      obtain ⟨_, _, _, _, _⟩ := S.pu
      have S2 : Hp2 G (updG (updG G' b1 (.lst [.tup []])) pb (.lst ((List.range n).map fun _ => W.tup []))) pu pb n ad ch (fun _ => W.tup []) :=
        ⟨(S.le.trans (GLe.new hb1)).trans (GLe.new hpb), updG_ne' (updG_ne' S.u hb1) hpb, fun v hv => updG_ne' (updG_ne' (S.c v hv) hb1) hpb, updG_same, ⟨(fr pu _ S.u).symm, (S.le.trans (GLe.new hb1)).none hpb⟩, fun v hv => fr _ _ (S.c v hv)⟩
      have Sd : updG (updG G' b1 (.lst [.tup []])) pb (.lst ((List.range n).map fun _ => W.tup [])) pd = some (.lst ((List.range n).map fun v => W.int ((ds v : Nat) : Int))) := updG_ne' (updG_ne' S.d hb1) hpb
      generalize updG (updG G' b1 (.lst [.tup []])) pb (.lst ((List.range n).map fun _ => W.tup [])) = G2 at S2 Sd
      subst hU
      refine seqU fun U hU => ?_
      walk_at "R"
      refine ⟨_, Sd, ?_⟩
      rw [List.length_map, List.length_range]
      refine ⟨.inr ⟨rfl, by (clear F F1 ml mr mt nd hr hp hl hM1 hM2 h0 h1 h2 S0 hq S hH hb1 hpb fr S2 Sd hU; omega), by (clear F F1 ml mr mt nd hr hp hl hM1 hM2 h0 h1 h2 S0 hq S hH hb1 hpb fr S2 Sd hU; omega), by (clear F F1 ml mr mt nd hr hp hl hM1 hM2 h0 h1 h2 S0 hl2 hq S hH hn hb1 hpb fr S2 Sd hU; omega), by (clear F F1 ml mr mt nd hr hp hl hM1 hM2 h0 h1 h2 S0 hl2 hq S hH hn hb1 hpb fr S2 Sd hU; omega)⟩, ?_⟩
      rw [rsz_down, show (((((n : Nat) : Int) - 1 - -1).toNat : Nat) : Int).toNat = n by (clear F F1 ml mr mt nd hr hp hl hM1 hM2 h0 h1 h2 S0 hq S hH hb1 hpb fr S2 Sd hU; omega)]
      refine loop_upS _ _ n (fun i τ G3 => ∃ (t : Nat → Tr) (bs : Nat → W) (t4 : Option W), τ = [some (.ref p), some (.int (M : Int)), some (.ref pu), some (.ref pd), t4, t5, t6, some (.ref pb)] ∧ Hp2 G G3 pu pb n ad ch bs ∧ (∀ v, n - i ≤ v → v < n → bs v = .tup (encT (t v))) ∧ Tr.Grown n M (n - i) ch ds t) ⟨fun _ => .z, _, t4, rfl, S2, fun v h1 h2 => by (clear F F1 ml mr mt nd hr hp hl hM1 hM2 h0 S0 hq S hH hb1 hpb fr S2 Sd hU; omega), Tr.Grown.start⟩ ?_ ?_
      · rintro τ G3 ⟨t, bs, t4, rfl, S3, hb, hg⟩
        refine ⟨trivial, ?_⟩
        rw [Nat.sub_self] at hb hg
        obtain ⟨r1, r2⟩ := hg.root hH
        subst hU
        walk_at "R"
        refine ⟨_, _, S3.b, rng_at (k := 0) (by assumption), ?_⟩
        rw [hb 0 (Nat.le_refl _) (by assumption)]
        exact ⟨G, S3.le, hq _ r1 r2⟩
      · rintro i τ G3 kk hi ⟨t, bs, t4, rfl, S3, hb, hg⟩ hk
        refine ⟨trivial, ?_⟩
        obtain ⟨k, hk0⟩ : ∃ k, n - i = k + 1 := ⟨n - i - 1, by (clear F F1 ml mr mt nd hr hp hl hM1 hM2 h0 h1 h2 S0 hl2 hq S hH hn hb1 hpb fr S2 Sd hU S3 hb hg hk; omega)⟩
        rw [hk0] at hb hg
        have ek : (n : Int) - 1 + (i : Int) * -1 = (k : Int) := by (clear F F1 ml mr mt nd hr hp hl hM1 hM2 h0 h1 h2 S0 hl2 hq S hH hn hb1 hpb fr S2 Sd hU S3 hk hg hb; omega)
        rw [ek]
        have hkn : k < n := by (clear F F1 ml mr mt nd hr hp hl hM1 hM2 h0 h1 h2 S0 hl2 hq S hH hn hb1 hpb fr S2 Sd hU hi S3 hk hg hb hk0; omega)
        have lk := hH.len k hkn
        walk_at "R"
        refine ⟨_, _, S3.u, rng_at hkn, ?_⟩
        dsimp only
        refine ⟨_, S3.c k hkn, ?_⟩
        show compW _ _ _ _ _ [none, none, some (.ref pb)] G3 [] _
        refine comp_map (f := fB bs) (τ0 := [none, none, some (.ref pb)]) (S3.c k hkn) (fun w hw kc hkc => ?_) (by rw [List.length_map, List.length_nil]; (clear F F1 ml mr mt nd hr hp hl hM1 hM2 h0 h1 h2 S0 hq S hH hb1 hpb fr S2 Sd hU hi S3 hk hg hb hk0 hkn; omega)) (fun _ => rfl) fun r hr => ?_
        · obtain ⟨j, hj, rfl⟩ := List.mem_map.mp hw
          obtain ⟨_, jn, _⟩ := hH.in_ k hkn j hj
          walk_at "R"
          exact ⟨_, _, S3.b, rng_at jn, hkc⟩
        · rw [List.nil_append, List.map_map]
          refine ⟨_, updG_same, pb, _, k, rfl, rfl, updG_ne' S3.b hr, by rw [List.length_map, List.length_range]; exact hkn, by rw [List.length_map, List.length_range]; exact Nat.le_trans (by assumption) (Nat.le_of_ble_eq_true rfl), ?_⟩
          have ex : (ch k).map ((fB bs) ∘ fun j => W.int ((j : Nat) : Int)) = encT (Tr.ofL ((ch k).map t)) := by
            rw [enc_ofL, List.map_map]
            refine List.map_congr_left fun j hj => ?_
            obtain ⟨j1, jn, _⟩ := hH.in_ k hkn j hj
            exact hb j (by assumption) jn
          rw [ex]
          refine hk _ _ ⟨fun v => if v = k then Tr.ofL ((ch k).map t) else t v, _, _, rfl, (S3.new hr).set, fun v h1 h2 => ?_, ?_⟩
          · (try dsimp only)
            by_cases e : v = k
            · rw [if_pos e, if_pos e]
            · rw [if_neg e, if_neg e]
              exact hb v (by (clear F F1 ml mr mt nd hp hl hM1 hM2 h0 S0 hl2 hq S hH hn hb1 hpb fr S2 Sd hU S3 hk hg hb hk0 hkn lk hr ex h2; omega)) h2
          · rw [show n - (i + 1) = k by (clear F F1 ml mr mt nd hp hl hM1 hM2 h0 h1 h2 S0 hl2 hq S hH hn hb1 hpb fr S2 Sd hU S3 hk hg hb hk0 hkn lk hr ex; omega)]
            exact hg.step hH hkn
    · rintro i τ G' kk hi ⟨ad, ch, ds, t4, t5, t6, rfl, S, hH⟩ hk
      refine ⟨trivial, ?_⟩
      have hci : cs[i]? = some cs[i] := List.getElem?_eq_getElem hi
      refine seqU fun U1 hU1 => ?_
      walk_at "R"
      refine ⟨_, .int cs[i], S.cs, atI_nat (by rw [List.getElem?_map, hci]; rfl), _, _, rfl, by (clear F F1 ml mr mt nd hr hp hl hM1 hM2 hq h0 h1 h2 S0 hU hi S hH hk hci hU1; omega), by (clear F F1 ml mr mt nd hr hp hM1 hM2 hq h0 h1 h2 S0 hU S hH hk hci hU1; omega), fun x x0 x1 => ?_⟩
      generalize cs[i] = ci at hci
      subst hU1
      refine seqU fun U1 hU1 => ?_
      walk_at "R"
      refine ⟨_, S.d, ?_⟩
      rw [List.length_map, List.length_range]
      refine ⟨by (clear F F1 ml mr mt nd hr hp hl hM1 hM2 hq h0 h1 h2 S0 hU hi S hH hk x0 x1 hci hU1; omega), ?_⟩
      have m3 := mod_in (i := x / 3) (j := ((i + 1 : Nat) : Int)) (by (clear F F1 ml mr mt nd hr hp hl hM1 hM2 hq h0 h1 h2 S0 hU hi S hH hk x0 x1 hci hU1; omega))
      obtain ⟨a, ha0⟩ := Int.eq_ofNat_of_zero_le m3.1
      rw [ha0] at m3 ⊢
      subst hU1
      refine seqU fun U1 hU1 => ?_
      have main : ∀ a : Nat, a < i + 1 → U1 { nx := kk, ct := kk, bk := U { nx := fun x G1 => ∃ G0, GLe G0 G1 ∧ q W.non G0, rt := fun w G1 => ∃ G0, GLe G0 G1 ∧ q w G0 }, rt := fun w G1 => ∃ G0, GLe G0 G1 ∧ q w G0 } [some (.ref p), some (.int (M : Int)), some (.ref pu), some (.ref pd), some (.int (i : Int)), some (.int x), some (.int (a : Int)), none] G' := by
        intro a ha
        subst hU1
        refine seqU fun U1 hU1 => ?_
        have main2 : ∀ a : Nat, a < i + 1 → ds a < M → U1 { nx := kk, ct := kk, bk := U { nx := fun x G1 => ∃ G0, GLe G0 G1 ∧ q W.non G0, rt := fun w G1 => ∃ G0, GLe G0 G1 ∧ q w G0 }, rt := fun w G1 => ∃ G0, GLe G0 G1 ∧ q w G0 } [some (.ref p), some (.int (M : Int)), some (.ref pu), some (.ref pd), some (.int (i : Int)), some (.int x), some (.int (a : Int)), none] G' := by
          intro a ha hd
          have ca := S.c a ha
          have la := hH.len a ha
          obtain ⟨z1, z2, z3, _⟩ := S.ne a ha
          obtain ⟨_, _, z4, _, _⟩ := S.pu
          subst hU1
          refine seqU fun U1 hU1 => ?_
          walk_at "R"
          refine ⟨_, _, S.u, rng_at ha, ?_⟩
          dsimp only
          refine ⟨⟨_, ca⟩, _, _, S.u, rng_at ha, ?_⟩
          dsimp only
          refine ⟨_, ca, ?_⟩
          rw [List.length_map]
          have m4 := mod_in (i := x / 1000) (j := ((ch a).length : Int) + 1) (by (clear F F1 ml mr mt nd hr hp hl hM1 hM2 hq h0 h1 h2 S0 hU hi S hH hk x0 x1 hci m3 ha0 ha hd ca la z1 z2 z3 z4 hU1; omega))
          generalize x / 1000 % (((ch a).length : Int) + 1) = k at m4
          refine ⟨by (clear F F1 ml mr mt nd hr hp hl hM1 hM2 hq h0 h1 h2 S0 hU hi S hH hk x0 x1 hci m3 ha0 ha hd ca la z1 z2 z3 z4 hU1 m4; omega), _, S.d, _, k, rfl, ca, m4.1, ?_, ?_, ?_⟩
          · rw [List.length_map]; (clear F F1 ml mr mt nd hr hp hl hM1 hM2 hq h0 h1 h2 S0 hU hi S hH hk x0 x1 hci m3 ha0 ha hd ca la z1 z2 z3 z4 hU1; omega)
          · rw [List.length_map]; (clear F F1 ml mr mt nd hr hp hM1 hM2 hq h0 h1 h2 S0 hU S hH hk x0 x1 hci m3 ha0 ha hd ca z1 z2 z3 z4 hU1 m4; omega)
          have gd : updG G' (ad a) (.lst (insW ((ch a).map fun j => W.int ((j : Nat) : Int)) k.toNat (.int (((List.range (i + 1)).map fun v => W.int ((ds v : Nat) : Int)).length : Int)))) pd = some (.lst ((List.range (i + 1)).map fun v => W.int ((ds v : Nat) : Int))) := by rw [updG_ne z3.symm]; exact S.d
          have gu : updG G' (ad a) (.lst (insW ((ch a).map fun j => W.int ((j : Nat) : Int)) k.toNat (.int (((List.range (i + 1)).map fun v => W.int ((ds v : Nat) : Int)).length : Int)))) pu = some (.lst ((List.range (i + 1)).map fun v => W.ref (ad v))) := by rw [updG_ne z2.symm]; exact S.u
          subst hU1
          refine seqU fun U1 hU1 => ?_
          walk_at "R"
          refine ⟨⟨_, gd⟩, _, _, gd, rng_at ha, ?_⟩
          walk_at "R"
          refine ⟨_, gd, ?_, ?_⟩
          · rw [List.length_map, List.length_range]; (clear F F1 ml mr mt nd hr hp hM1 hM2 hq h0 h1 h2 S0 hU S hH hk x0 x1 hci m3 ha0 ha hd ca la z1 z2 z3 z4 m4 gd gu hU1; omega)
          subst hU1
          walk_at "R"
          refine ⟨⟨_, by rw [updG_ne z4]; exact gu⟩, fun r hr => ?_⟩
          have r1 : r ≠ pd := fun z => by rw [z, updG_same] at hr; cases hr
          rw [updG_ne r1] at hr
          have r2 : r ≠ ad a := fun z => by rw [z, updG_same] at hr; cases hr
          rw [updG_ne r2] at hr
          have r3 : r ≠ pu := fun z => by rw [z, S.u] at hr; cases hr
          refine ⟨_, by rw [updG_ne r3.symm, updG_ne z4]; exact gu, by rw [List.length_map, List.length_range]; (clear F F1 ml mr mt nd hp hM1 hM2 hq h0 h1 h2 S0 hU S hH hk x0 x1 hci m3 ha0 ha hd ca la z1 z2 z3 z4 m4 gd gu hr r1 r2 r3; omega), ?_⟩
          exact hk _ _ ⟨_, _, _, _, _, _, rfl, S.more (k := k.toNat) ha hr (by rw [List.length_map, List.length_range]) (by (clear F F1 ml mr mt nd hp hl hM1 hM2 hq h0 h1 h2 S0 hU hi S hH hk x0 x1 hci m3 ha0 ha hd ca la z1 z2 z3 z4 m4 gd gu hr r1 r2 r3; omega)), hH.more ha hd⟩
        walk_at "R"
        refine ⟨_, _, S.d, rng_at ha, ?_⟩
        walk_at "R"
        split
        · exact main2 0 (by (clear F F1 ml mr mt nd hr hp hl hM1 hM2 hq h0 h1 h2 S0 hU hi S hH hk x0 x1 hci m3 ha0 ha hU1 main2; omega)) (by rw [hH.d0]; assumption)
        · exact main2 a ha (by (clear F F1 ml mr mt nd hr hp hl hM1 hM2 hq h0 h1 h2 S0 hU hi S hH hk x0 x1 hci m3 ha0 ha hU1 main2; omega))
      walk_at "R"
      split
      · refine ⟨_, S.d, ?_⟩
        rw [List.length_map, List.length_range, show ((i + 1 : Nat) : Int) - 1 = (i : Int) by (clear F F1 ml mr mt nd hr hp hl hM1 hM2 hq h0 h1 h2 S0 hU hi S hH hk x0 x1 hci m3 ha0 hU1 main; omega)]
        exact main i (by (clear F F1 ml mr mt nd hr hp hl hM1 hM2 hq h0 h1 h2 S0 hU hi S hH hk x0 x1 hci m3 ha0 hU1 main; omega))
      · exact main a (by (clear F F1 ml mr mt nd hr hp hl hM1 hM2 hq h0 h1 h2 S0 hU hi S hH hk x0 x1 hci hU1 main; omega))
theorem encT_len : ∀ t : Tr, (encT t).length = t.len
  | .z => rfl
  | .c b r => by show (encT r).length + 1 = _; rw [encT_len r]; rfl
theorem encT_get : ∀ (t : Tr) (i : Nat), (encT t)[i]? = (t.getT i).map fun b => W.tup (encT b)
  | .z, _ => rfl
  | .c b r, 0 => rfl
  | .c b r, i + 1 => encT_get r i
theorem encT_at {t b : Tr} {i : Nat} (h : t.getT i = some b) : atI (encT t) (i : Int) = some (.tup (encT b)) := atI_nat (by rw [encT_get, h]; rfl)
theorem encT_app : ∀ t u : Tr, encT (t.app u) = encT t ++ encT u
  | .z, _ => rfl
  | .c b r, u => by show W.tup (encT b) :: encT (r.app u) = _; rw [encT_app r u]; rfl
theorem encT_set : ∀ {t b : Tr} {i : Nat} (u : Tr), t.getT i = some b → encT (t.setT i u) = (encT t).take i ++ encT u ++ (encT t).drop (i + 1)
  | .z, _, _, _, h => by cases h
  | .c b r, _, 0, u, _ => by show encT (u.app r) = [] ++ encT u ++ encT r; rw [encT_app]; rfl
  | .c b r, x, i + 1, u, h => by
    show W.tup (encT b) :: encT (r.setT i u) = _
    rw [encT_set (t := r) u h]
    rfl
theorem encT_reps (b : Tr) : ∀ n, encT (b.reps n) = (List.replicate n [W.tup (encT b)]).flatten
  | 0 => rfl
  | n + 1 => by
    show W.tup (encT b) :: encT (b.reps n) = _
    rw [encT_reps b n, List.replicate_succ, List.flatten_cons]
    rfl
theorem encT_z {t : Tr} : encT t = [] ↔ t = .z := by
  cases t with
  | z => exact ⟨fun _ => rfl, fun _ => rfl⟩
  | c b r => exact ⟨fun h => (by cases h), fun h => (by cases h)⟩
theorem tupT_flat : ∀ t : Tr, (W.tup (encT t)).flat = true
  | .z => rfl
  | .c b r => by
    have h1 := tupT_flat b
    have h2 := tupT_flat r
    simp only [encT, W.flat, W.flats, Bool.and_eq_true] at h1 h2 ⊢
    exact ⟨h1, h2⟩
theorem tupT_dep : ∀ t : Tr, (W.tup (encT t)).dep ≤ t.dp + 1
  | .z => by simp [encT, W.dep, W.deps]
  | .c b r => by
    have h1 := tupT_dep b
    have h2 := tupT_dep r
    simp only [encT, W.dep, W.deps, Tr.dp] at h1 h2 ⊢
    omega
theorem tupT_nil (t : Tr) : (W.tup (encT t)).eq (.tup []) = true ↔ t = .z := by
  cases t with
  | z => simp [encT, W.eq_tup, W.eqs]
  | c b r => simp [encT, W.eq_tup, W.eqs]
noncomputable def AllT (Pd : Tr → Prop) : Tr → Prop
  | .z => True
  | .c b r => Pd b ∧ AllT Pd r
theorem allT_dp : ∀ t : Tr, AllT (fun b => b.dp < t.dp ∧ b.pts < t.pts) t
  | .z => trivial
  | .c b r => by
    have key : ∀ (d m : Nat) (s : Tr), s.dp ≤ d → s.pts ≤ m → AllT (fun b => b.dp < d ∧ b.pts < m) s := by
      intro d m s
      induction s with
      | z => intro _ _; trivial
      | c x y _ ih =>
        intro h1 h2
        have p1 := x.pts_pos
        have p2 := y.pts_pos
        simp only [Tr.dp, Tr.pts] at h1 h2
        exact ⟨⟨by (clear ih h2 p1 p2; omega), by (clear ih h1 p1; omega)⟩, ih (by (clear ih h2 p1 p2; omega)) (by (clear ih h1 p2; omega))⟩
    exact key _ _ _ (Nat.le_refl _) (Nat.le_refl _)
noncomputable def mapT (f : Tr → W) : Tr → List W
  | .z => []
  | .c b r => f b :: mapT f r
theorem comp_T {C : Gp → Prop} {te : WE} {i : Nat} {τ0 : WSt} {G : Gp} {q : List W → Gp → Prop} {Pd : Tr → Prop} (f : Tr → W) (hC : C G) : ∀ {t : Tr} {acc : List W} {τ : WSt}, AllT Pd t →
    (∀ b, Pd b → ∀ k : W → Gp → Prop, k (f b) G → te (τ0.set i (some (.tup (encT b)))) G k) → acc.length + t.len ≤ 100000 → (∀ x, τ.set i x = τ0.set i x) → q (acc ++ mapT f t) G → compW C (hName i) wTrue te (encT t) τ G acc q
  | .z, acc, τ, _, _, _, _, hq => ⟨hC, by simpa [mapT] using hq⟩
  | .c b r, acc, τ, hP, ht, hl, hτ, hq => by
    refine ⟨hC, ?_⟩
    show te (τ.set i (some (.tup (encT b)))) G _
    rw [hτ]
    refine ht b hP.1 _ ?_
    simp only [Tr.len] at hl
    refine ⟨by (clear hC hP ht hτ hq; omega), comp_T f hC hP.2 ht (by rw [List.length_append]; simp only [List.length_cons, List.length_nil]; (clear hC hP ht hτ hq; omega)) (fun x => ?_) (by simpa [mapT] using hq)⟩
    rw [List.set_set]
noncomputable def spPn (d : Nat) : WSp := fun ws G q _ => ∃ t : Tr, ws = [.tup (encT t)] ∧ t.dp < d ∧ t.pts ≤ 1000 ∧ q (.int ((t.pts : Nat) : Int)) G
theorem mapT_pts : ∀ t : Tr, ∃ ns : List Int, mapT (fun b => W.int ((b.pts : Nat) : Int)) t = ns.map W.int ∧ 1 + ns.sum = ((t.pts : Nat) : Int)
  | .z => ⟨[], rfl, rfl⟩
  | .c b r => by
    obtain ⟨ns, h1, h2⟩ := mapT_pts r
    refine ⟨((b.pts : Nat) : Int) :: ns, by rw [mapT, h1]; rfl, ?_⟩
    rw [List.sum_cons]
    show 1 + (((b.pts : Nat) : Int) + ns.sum) = ((b.pts + r.pts : Nat) : Int)
    (clear h1; omega)
theorem scPn : FnScope ["tree"] ["tree"] (defScope (top 22)) := ⟨rfl, rfl, rfl, by decide +kernel, rfl, by decide +kernel, by decide +kernel⟩
theorem fnPn {d k : Nat} (F : Fun K "points" "points" (top 22) f fd) (F0 : Fx P w K mg base "points" ["tree"] k (spPn d)) (ms : mg "sum" = none) : WFn P w K mg base (k + 1) f fd ["tree"] (spPn (d + 1)) := by
  have nd := scPn.nd
  refine fn3 F scPn (fun ws G q e h => by obtain ⟨_, rfl, _⟩ := h; rfl) (fun cdv A outer s H E hr => ?_)
  apply bodyOf
  · exact (qss_cons (qs_ret (qe_op q_add qe_int (qe_callB (q_sum rfl) rfl ms b_sum (qa_cons (qe_comp (compSc (by first | rfl | decide +kernel)) rfl (qi_seq (qe_var 0 rfl (.inl rfl))) (fun _ _ _ _ => (qg_nameB 1 (by first | assumption | decide +kernel | rfl) rfl (.inl rfl))) (fun _ _ _ _ => qts_nil) (fun _ _ _ _ => (qe_fxn F0 (Room.mono hr (by omega)) rfl (qa_cons (qe_var 1 rfl (.inl rfl)) qa_nil)))) qa_nil)))) qss_nil)
  · rintro ws G q e ⟨t, rfl, hd, hp, hq⟩
    have hl := t.len_pts
    walk_at "R"
    show compW _ _ _ _ _ [none, none, none] G [] _
    refine comp_T (τ0 := [none, none, none]) (fun b => W.int ((b.pts : Nat) : Int)) trivial (allT_dp t) (fun b hb kc hkc => ?_) (by simp only [List.length_nil]; (clear F F0 ms nd hr hd hq; omega)) (fun _ => rfl) fun p hp => ?_
    · walk_at "R"
      exact ⟨b, rfl, by (clear F F0 ms nd hr hp hq hl hkc; omega), by (clear F F0 ms nd hr hd hq hl hkc; omega), hkc⟩
    · obtain ⟨ns, h1, h2⟩ := mapT_pts t
      rw [List.nil_append, h1]
      refine ⟨ns, updG_same, ?_⟩
      rw [h2]
      exact ⟨G, GLe.new hp, hq⟩
theorem fxPn (T : Txt K mg) : ∀ d : Nat, Fx P w K mg base "points" ["tree"] d (spPn d)
  | 0 => T.d_points.fx fun f fd F => WFn.none fun ws G q e ⟨t, _, h, _⟩ => by (clear T F; omega)
  | d + 1 => T.d_points.fx fun f fd F => fnPn F (fxPn T d) T.z_sum
noncomputable def spNo (d : Nat) : WSp := fun ws G q _ => ∃ t : Tr, ws = [.tup (encT t)] ∧ t.dp < d ∧ t.pts ≤ 900 ∧ q (.tup (encP t.nO)) G
theorem scNo : FnScope ["tree", "found", "branch"] ["tree"] (defScope (top 23)) := ⟨rfl, rfl, rfl, by decide +kernel, rfl, by decide +kernel, by decide +kernel⟩
theorem fnNo {d k : Nat} (hk2 : 2 ≤ k) (hd5 : d ≤ 50) (F : Fun K "number_of" "number_of" (top 23) f fd) (F0 : Fx P w K mg base "number_of" ["tree"] k (spNo d)) (F1 : Fx P w K mg base "merged" ["a", "b"] 2 spMg) : WFn P w K mg base (k + 1) f fd ["tree"] (spNo (d + 1)) := by
  have nd := scNo.nd
  refine fn3 F scNo (fun ws G q e h => by obtain ⟨_, rfl, _⟩ := h; rfl) (fun cdv A outer s H E hr => ?_)
  apply bodyOf
  · exact (qss_cons (qs_set 1 nd rfl (.inl rfl) (qe_tup qa_nil)) (qss_cons (qs_for PySem.PassesOwn.never rfl (qi_seq (qe_var 0 rfl (.inl rfl))) (qg_name 2 nd rfl (.inl rfl)) (qss_cons (qs_set 1 nd rfl (.inl rfl) (qe_fxn F1 (Room.mono hr hk2) rfl (qa_cons (qe_var 1 rfl (.inl rfl)) (qa_cons (qe_tup (qa_cons (qe_tup (qa_cons (qe_fxn F0 (Room.mono hr (by omega)) rfl (qa_cons (qe_var 2 rfl (.inl rfl)) qa_nil)) (qa_cons qe_int qa_nil))) qa_nil)) qa_nil)))) qss_nil)) (qss_cons (qs_ret (qe_var 1 rfl (.inl rfl))) qss_nil)))
  · rintro ws G q e ⟨t, rfl, hd, hp, hq⟩
    have hl := t.len_pts
    refine seqU fun U hU => ?_
    walk_at "R"
    subst hU
    refine seqU fun U hU => ?_
    walk_at "R"
    refine loopW_ind (fun ws τ G' => G' = G ∧ ∃ (r : Tr) (a : O) (t2 : Option W), ws = encT r ∧ τ = [some (.tup (encT t)), some (.tup (encP a)), t2] ∧ a.NF ∧ O.mergeO a r.nO = t.nO ∧ a.dp ≤ d + 1 ∧ a.len + r.len ≤ t.len ∧ r.dp < d + 1 ∧ r.pts ≤ t.pts) ?_ ?_ _ _ _ ⟨rfl, t, .z, none, rfl, rfl, trivial, O.z_merge _, Nat.zero_le _, by simp [O.len], hd, Nat.le_refl _⟩
    · rintro τ G' ⟨rfl, r, a, t2, hw, rfl, na, hm, _⟩
      refine ⟨trivial, ?_⟩
      have hz := encT_z.mp hw.symm
      subst hz
      have hm2 : O.mergeO a .z = t.nO := hm
      rw [O.merge_z] at hm2
      subst hU
      walk_at "R"
      rw [hm2]
      exact GLe.done hq
    · rintro w1 ws τ G' kk ⟨rfl, r, a, t2, hw, rfl, na, hm, da, la, dr, pr⟩ hk
      cases r with
      | z => cases hw
      | c b r =>
        obtain ⟨rfl, rfl⟩ := List.cons.inj hw
        have pb := b.pts_pos
        have pr1 := r.pts_pos
        have db := b.nO_dp
        simp only [Tr.dp, Tr.pts, Tr.len] at dr pr la
        refine ⟨trivial, ?_⟩
        walk_at "R"
        refine ⟨b, rfl, by (clear hk2 hd5 F F0 F1 nd hr hd hp hl hU hq na da hm la pr hk hw pb pr1 db; omega), by (clear hk2 hd5 F F0 F1 nd hr hd hl hU hq na da hm la dr hk hw pb db; omega), ?_⟩
        have e1 : W.tup [W.tup [W.tup (encP b.nO), .int 1]] = W.tup (encP (O.c b.nO 1 .z)) := by rw [encP_c]; rfl
        dsimp only
        rw [e1]
        have dm := Tr.dp_merge _ a (.c b.nO 1 .z) (Nat.le_refl _)
        simp only [O.dp, O.len] at dm
        refine ⟨a, .c b.nO 1 .z, rfl, by (clear hk2 F F0 F1 nd hr hd hp hl hU hq na hm la dr pr hk hw pb pr1 db e1 dm; omega), by (clear hk2 hd5 F F0 F1 nd hr hd hU hq na da hm dr pr hk hw pb pr1 db e1 dm; omega), by simp [O.len], ?_⟩
        walk_at "R"
        refine hk _ _ ⟨rfl, r, _, _, rfl, rfl, na.merge (Tr.one_nf b.nO_nf), ?_, by (clear hk2 hd5 F F0 F1 nd hr hd hp hl hU hq na hm la pr hk hw pb pr1 e1; omega), by (clear hk2 hd5 F F0 F1 nd hr hd hp hl hU hq na da hm dr pr hk hw pb pr1 db e1; omega), by (clear hk2 hd5 F F0 F1 nd hr hd hp hl hU hq na da hm la pr hk hw pb pr1 db e1 dm; omega), by (clear hk2 hd5 F F0 F1 nd hr hd hp hl hU hq na da hm la dr hk hw pr1 db e1 dm; omega)⟩
        rw [O.merge_assoc na (Tr.one_nf b.nO_nf) r.nO_nf]
        exact hm
theorem fxNo (T : Txt K mg) : ∀ d : Nat, d ≤ 50 → Fx P w K mg base "number_of" ["tree"] (d + 2) (spNo d)
  | 0, _ => T.d_number_of.fx fun f fd F => WFn.none fun ws G q e ⟨t, _, h, _⟩ => by (clear T F; omega)
  | d + 1, h => T.d_number_of.fx fun f fd F => fnNo (by (clear T F; omega)) (by (clear T F; omega)) F (fxNo T d (by (clear T F; omega))) (T.d_merged.fx fun f fd F => fnMg F (T.d_compare.fx fun f fd F => fnCm F) T.z_len T.z_tuple)
noncomputable def spPu : WSp := fun ws G q _ => ∃ a e : O, ws = [.tup (encP a), .tup (encP e)] ∧ a.dp ≤ 50 ∧ e.dp ≤ 50 ∧ a.len ≤ 1000 ∧ q (.tup (encP (O.mergeO a (.c e 1 .z)))) G
theorem scPu : FnScope ["_law_a", "_law_exponent", "_law_k", "_law_side"] ["_law_a", "_law_exponent"] (defScope (top 36)) := ⟨rfl, rfl, rfl, by decide +kernel, rfl, by decide +kernel, by decide +kernel⟩
theorem fnPu (F : Fun K "_law_put" "_law_put" (top 36) f fd) (F1 : Fx P w K mg base "_law_compare" ["_law_a", "_law_b"] 60 (spLc 60)) (ml : mg "len" = none) (mr : mg "range" = none) : WFn P w K mg base 61 f fd ["_law_a", "_law_exponent"] spPu := by
  have nd := scPu.nd
  refine fn3 F scPu (fun ws G q e h => by obtain ⟨_, _, rfl, _⟩ := h; rfl) (fun cdv A outer s H E hr => ?_)
  apply bodyOf
  · exact (qss_cons (qs_for PySem.PassesOwn.never rfl (qi_range rfl mr (qa_cons (qe_callB q_len rfl ml PySem.boot_len (qa_cons (qe_var 0 rfl (.inl rfl)) qa_nil)) qa_nil)) (qg_name 2 nd rfl (.inl rfl)) (qss_cons (qs_set 3 nd rfl (.inl rfl) (qe_fxn F1 (Room.mono hr (by omega)) rfl (qa_cons (qe_var 1 rfl (.inl rfl)) (qa_cons (qe_ix q_ix (qe_ix q_ix (qe_var 0 rfl (.inl rfl)) (qe_var 2 rfl (.inl rfl)) (fun _ _ => rfl)) qe_int (fun _ _ => rfl)) qa_nil)))) (qss_cons (qs_if (qt_cmp (q_eq4 hr) (qe_var 3 rfl (.inl rfl)) qe_int (nomark _)) (qss_cons (qs_ret (qe_op q_add (qe_op q_add (qe_slice (qe_var 0 rfl (.inl rfl)) qo_none (qo_some (qe_var 2 rfl (.inl rfl)))) (qe_tup (qa_cons (qe_tup (qa_cons (qe_var 1 rfl (.inl rfl)) (qa_cons (qe_op q_add (qe_ix q_ix (qe_ix q_ix (qe_var 0 rfl (.inl rfl)) (qe_var 2 rfl (.inl rfl)) (fun _ _ => rfl)) qe_int (fun _ _ => rfl)) qe_int) qa_nil))) qa_nil))) (qe_slice (qe_var 0 rfl (.inl rfl)) (qo_some (qe_op q_add (qe_var 2 rfl (.inl rfl)) qe_int)) qo_none))) qss_nil) qss_nil) (qss_cons (qs_if (qt_cmp q_gt (qe_var 3 rfl (.inl rfl)) qe_int (nomark _)) (qss_cons (qs_ret (qe_op q_add (qe_op q_add (qe_slice (qe_var 0 rfl (.inl rfl)) qo_none (qo_some (qe_var 2 rfl (.inl rfl)))) (qe_tup (qa_cons (qe_tup (qa_cons (qe_var 1 rfl (.inl rfl)) (qa_cons qe_int qa_nil))) qa_nil))) (qe_slice (qe_var 0 rfl (.inl rfl)) (qo_some (qe_var 2 rfl (.inl rfl))) qo_none))) qss_nil) qss_nil) qss_nil)))) (qss_cons (qs_ret (qe_op q_add (qe_var 0 rfl (.inl rfl)) (qe_tup (qa_cons (qe_tup (qa_cons (qe_var 1 rfl (.inl rfl)) (qa_cons qe_int qa_nil))) qa_nil)))) qss_nil))
  · rintro ws G q e ⟨a, x, rfl, da, dx, la, hq⟩
    refine seqU fun U hU => ?_
    walk_at "R"
    rw [encP_length]
    refine ⟨by omega, by omega, ?_⟩
    refine loop_up a.len (fun i τ G' => G' = G ∧ ∃ (pre suf : O) (t2 t3 : Option W), τ = [some (.tup (encP a)), some (.tup (encP x)), t2, t3] ∧ a = O.app pre suf ∧ pre.len = i ∧ O.mergeO a (.c x 1 .z) = O.app pre (O.mergeO suf (.c x 1 .z))) ⟨rfl, .z, a, none, none, rfl, rfl, rfl, rfl⟩ ?_ ?_
    · rintro τ G' ⟨rfl, pre, suf, t2, t3, rfl, ha, hl, hm⟩
      refine ⟨trivial, ?_⟩
      have l2 := O.len_app' pre suf
      rw [← ha] at l2
      have hz : suf = .z := by
        cases suf with
        | z => rfl
        | c _ _ _ => simp only [O.len] at l2; (clear F F1 ml mr nd hr da dx la hU hq ha hm; omega)
      subst hz
      rw [O.app_z] at ha
      subst ha
      rw [hm, O.z_merge, encP_app, encP_c] at hq
      subst hU
      walk_at "R"
      refine ⟨by rw [encP_length]; exact Nat.le_trans (by assumption) (Nat.le_of_ble_eq_true rfl), GLe.done hq⟩
    · rintro i τ G' kk hi ⟨rfl, pre, suf, t2, t3, rfl, ha, hl, hm⟩ hk
      refine ⟨trivial, ?_⟩
      have l2 := O.len_app' pre suf
      rw [← ha] at l2
      cases suf with
      | z => simp only [O.len] at l2; (clear F F1 ml mr nd hr da dx la hU hq hk ha hm; omega)
      | c y n r =>
        have ea : encP a = encP pre ++ prt y n :: encP r := by rw [ha, encP_app, encP_c]
        have e0 : atI (encP a) (i : Int) = some (prt y n) := atI_nat (by rw [ea, List.getElem?_append_right (by rw [encP_length]; (clear F F1 ml mr nd hr da dx la hU hi hq hk ha hm l2 ea; omega)), encP_length, hl, Nat.sub_self]; rfl)
        have dy : y.dp < a.dp := by
          have := O.dp_app pre (.c y n r)
          rw [← ha] at this
          simp only [O.dp] at this
          (clear F F1 ml mr nd hr da dx la hU hi hq hl hk ha hm l2 ea e0; omega)
        have tk : (encP a).take i = encP pre := by rw [ea, ← hl, ← encP_length, List.take_left]
        have dr : (encP a).drop i = prt y n :: encP r := by rw [ea, ← hl, ← encP_length, List.drop_left]
        have dr1 : (encP a).drop (i + 1) = encP r := by rw [← List.drop_drop, dr]; rfl
        refine seqU fun U1 hU1 => ?_
        walk_at "R"
        refine ⟨_, e0, ?_⟩
        unfold prt enc
        walk_at "R"
        refine ⟨x, y, rfl, by (clear F F1 ml mr nd hr da la hU hi hq hl hk ha hm l2 ea e0 dy tk dr dr1 hU1; omega), by (clear F F1 ml mr nd hr dx la hU hi hq hl hk ha hm l2 ea e0 tk dr dr1 hU1; omega), ?_⟩
        rw [O.merge_c] at hm
        have sw := O.cmp_swap x y
        subst hU1
        refine seqU fun U1 hU1 => ?_
        walk_at "R"
        rcases O.cmp_range x y with c1 | c1 | c1
        · rw [if_neg (by (clear F F1 ml mr nd hr da dx la hU hi hq hl hk ha hm l2 ea e0 dy tk dr dr1 sw hU1; omega))]
          subst hU1
          walk_at "R"
          rw [if_neg (by (clear F F1 ml mr nd hr da dx la hU hi hq hl hk ha hm l2 ea e0 dy tk dr dr1 sw; omega))]
          rw [if_pos (by (clear F F1 ml mr nd hr da dx la hU hi hq hl hk ha hm l2 ea e0 dy tk dr dr1; omega))] at hm
          refine hk _ _ ⟨rfl, O.app pre (.c y n .z), r, _, _, rfl, ?_, ?_, ?_⟩
          · rw [ha, O.app_assoc]; rfl
          · rw [O.len_app']; simp only [O.len]; (clear F F1 ml mr nd hr da dx la hU hi hq hk ha hm l2 ea e0 dy tk dr dr1 sw c1; omega)
          · rw [hm, O.app_assoc]; rfl
        · rw [if_pos c1]
          have exy := O.cmp_eq x y c1
          subst exy
          rw [if_neg (by (clear F F1 ml mr nd hr da dx la hU hi hq hl hk tk dr1 hU1 ha hm l2 ea e0 dy dr c1; omega)), if_neg (by (clear F F1 ml mr nd hr da dx la hU hi hq hl hk tk dr1 hU1 ha hm l2 ea e0 dy dr c1; omega)), O.merge_z] at hm
          rw [hm, encP_app, encP_c] at hq
          refine ⟨_, e0, ?_⟩
          unfold prt enc
          walk_at "R"
          rw [cut_to, tk, show (i : Int) + 1 = ((i + 1 : Nat) : Int) from rfl, cut_from, dr1]
          simp only [O.len] at l2
          refine ⟨by rw [encP_length]; (clear F F1 ml mr nd hr da dx hU hk hq tk dr1 hU1 ha hm ea e0 dy dr sw c1; omega), ?_, GLe.done ?_⟩
          · simp only [List.length_append, List.length_cons, List.length_nil, encP_length]; (clear F F1 ml mr nd hr da dx hU hi hl hk hq tk dr1 hU1 ha hm ea e0 dy dr sw c1; omega)
          · rw [List.append_assoc]
            exact hq
        · rw [if_neg (by (clear F F1 ml mr nd hr da dx la hU hi hq hl hk ha hm l2 ea e0 dy tk dr dr1 sw hU1; omega))]
          subst hU1
          walk_at "R"
          rw [if_pos (by (clear F F1 ml mr nd hr da dx la hU hi hq hl hk ha hm l2 ea e0 dy tk dr dr1 sw; omega))]
          rw [if_neg (by (clear F F1 ml mr nd hr da dx la hU hi hq hl hk ha hm l2 ea e0 dy tk dr dr1; omega)), if_pos (by (clear F F1 ml mr nd hr da dx la hU hi hq hl hk ha hm l2 ea e0 dy tk dr dr1; omega)), O.merge_z] at hm
          rw [hm, encP_app, encP_c, encP_c] at hq
          rw [cut_to, tk, cut_from, dr]
          simp only [O.len] at l2
          refine ⟨by rw [encP_length]; (clear F F1 ml mr nd hr da dx hU hk hq ha hm ea e0 dy tk dr dr1 sw c1; omega), ?_, GLe.done ?_⟩
          · simp only [List.length_append, List.length_cons, List.length_nil, encP_length]; (clear F F1 ml mr nd hr da dx hU hi hl hk hq ha hm ea e0 dy tk dr dr1 sw c1; omega)
          · rw [List.append_assoc]
            exact hq
noncomputable def spLn (d : Nat) : WSp := fun ws G q _ => ∃ t : Tr, ws = [.tup (encT t)] ∧ t.dp < d ∧ t.pts ≤ 900 ∧ q (.tup (encP t.nO)) G
theorem scLn : FnScope ["_law_tree_here", "_law_found", "_law_branch"] ["_law_tree_here"] (defScope (top 37)) := ⟨rfl, rfl, rfl, by decide +kernel, rfl, by decide +kernel, by decide +kernel⟩
theorem fnLn {d k : Nat} (hk2 : 61 ≤ k) (hd5 : d ≤ 40) (F : Fun K "_law_number" "_law_number" (top 37) f fd) (F0 : Fx P w K mg base "_law_number" ["_law_tree_here"] k (spLn d)) (F1 : Fx P w K mg base "_law_put" ["_law_a", "_law_exponent"] 61 spPu) : WFn P w K mg base (k + 1) f fd ["_law_tree_here"] (spLn (d + 1)) := by
  have nd := scLn.nd
  refine fn3 F scLn (fun ws G q e h => by obtain ⟨_, rfl, _⟩ := h; rfl) (fun cdv A outer s H E hr => ?_)
  apply bodyOf
  · exact (qss_cons (qs_set 1 nd rfl (.inl rfl) (qe_tup qa_nil)) (qss_cons (qs_for PySem.PassesOwn.never rfl (qi_seq (qe_var 0 rfl (.inl rfl))) (qg_name 2 nd rfl (.inl rfl)) (qss_cons (qs_set 1 nd rfl (.inl rfl) (qe_fxn F1 (Room.mono hr hk2) rfl (qa_cons (qe_var 1 rfl (.inl rfl)) (qa_cons (qe_fxn F0 (Room.mono hr (by omega)) rfl (qa_cons (qe_var 2 rfl (.inl rfl)) qa_nil)) qa_nil)))) qss_nil)) (qss_cons (qs_ret (qe_var 1 rfl (.inl rfl))) qss_nil)))
  · rintro ws G q e ⟨t, rfl, hd, hp, hq⟩
    have hl := t.len_pts
    refine seqU fun U hU => ?_
    walk_at "R"
    subst hU
    refine seqU fun U hU => ?_
    walk_at "R"
    refine loopW_ind (fun ws τ G' => G' = G ∧ ∃ (r : Tr) (a : O) (t2 : Option W), ws = encT r ∧ τ = [some (.tup (encT t)), some (.tup (encP a)), t2] ∧ a.NF ∧ O.mergeO a r.nO = t.nO ∧ a.dp ≤ d + 1 ∧ a.len + r.len ≤ t.len ∧ r.dp < d + 1 ∧ r.pts ≤ t.pts) ?_ ?_ _ _ _ ⟨rfl, t, .z, none, rfl, rfl, trivial, O.z_merge _, Nat.zero_le _, by simp [O.len], hd, Nat.le_refl _⟩
    · rintro τ G' ⟨rfl, r, a, t2, hw, rfl, na, hm, _⟩
      refine ⟨trivial, ?_⟩
      have hz := encT_z.mp hw.symm
      subst hz
      have hm2 : O.mergeO a .z = t.nO := hm
      rw [O.merge_z] at hm2
      subst hU
      walk_at "R"
      rw [hm2]
      exact GLe.done hq
    · rintro w1 ws τ G' kk ⟨rfl, r, a, t2, hw, rfl, na, hm, da, la, dr, pr⟩ hk
      cases r with
      | z => cases hw
      | c b r =>
        obtain ⟨rfl, rfl⟩ := List.cons.inj hw
        have pb := b.pts_pos
        have pr1 := r.pts_pos
        have db := b.nO_dp
        simp only [Tr.dp, Tr.pts, Tr.len] at dr pr la
        refine ⟨trivial, ?_⟩
        walk_at "R"
        refine ⟨b, rfl, by (clear hk2 hd5 F F0 F1 nd hr hd hp hl hU hq na da hm la pr hk hw pb pr1 db; omega), by (clear hk2 hd5 F F0 F1 nd hr hd hl hU hq na da hm la dr hk hw pb db; omega), ?_⟩
        have dm := Tr.dp_merge _ a (.c b.nO 1 .z) (Nat.le_refl _)
        simp only [O.dp, O.len] at dm
        refine ⟨a, b.nO, rfl, by (clear hk2 F F0 F1 nd hr hd hp hl hU hq na hm la dr pr hk hw pb pr1 db dm; omega), by (clear hk2 F F0 F1 nd hr hd hp hl hU hq na hm la pr hk hw pb pr1 dm; omega), by (clear hk2 hd5 F F0 F1 nd hr hd hU hq na da hm dr pr hk hw pb pr1 db dm; omega), ?_⟩
        refine hk _ _ ⟨rfl, r, _, _, rfl, rfl, na.merge (Tr.one_nf b.nO_nf), ?_, by (clear hk2 hd5 F F0 F1 nd hr hd hp hl hU hq na hm la pr hk hw pb pr1; omega), by (clear hk2 hd5 F F0 F1 nd hr hd hp hl hU hq na da hm dr pr hk hw pb pr1 db; omega), by (clear hk2 hd5 F F0 F1 nd hr hd hp hl hU hq na da hm la pr hk hw pb pr1 db dm; omega), by (clear hk2 hd5 F F0 F1 nd hr hd hp hl hU hq na da hm la dr hk hw pr1 db dm; omega)⟩
        rw [O.merge_assoc na (Tr.one_nf b.nO_nf) r.nO_nf]
        exact hm
theorem fxLn (T : Txt K mg) (F1 : Fx P w K mg base "_law_put" ["_law_a", "_law_exponent"] 61 spPu) : ∀ d : Nat, d ≤ 20 → Fx P w K mg base "_law_number" ["_law_tree_here"] (d + 61) (spLn d)
  | 0, _ => T.d__law_number.fx fun f fd F => WFn.none fun ws G q e ⟨t, _, h, _⟩ => by (clear T F1 F; omega)
  | d + 1, h => T.d__law_number.fx fun f fd F => fnLn (by (clear T F1 F; omega)) (by (clear T F1 F; omega)) F (fxLn T F1 d (by (clear T F1 F; omega))) F1
noncomputable def whB : W → Int → Bool
  | .int n, k => decide (k ≤ n)
  | _, _ => false
noncomputable def whK : W → Prop
  | .int _ => True
  | .bl _ => True
  | .str _ => True
  | .non => True
  | .tup _ => True
  | _ => False
noncomputable def spWh : WSp := fun ws G q _ => ∃ (x : W) (k : Int), ws = [x, .int k] ∧ whK x ∧ q (.bl (whB x k)) G
theorem scWh : FnScope ["thing", "least"] ["thing", "least"] (defScope (top 16)) := ⟨rfl, rfl, rfl, by decide +kernel, rfl, by decide +kernel, by decide +kernel⟩
theorem subN_si : subN "str" "int" = false := by decide
theorem subN_ni : subN "NoneType" "int" = false := by decide
theorem tyN_str (G : Gp) (x : Str) : tyN G (.str x) = some "str" := rfl
theorem fnWh {T : Addr} {ds : List Value} (F : FunD K "is_whole" "is_whole" (top 16) f fd T ds) (mi : mg "isinstance" = none) (mn : mg "int" = none) (mb : mg "bool" = none) : WFn P w K mg base 1 f fd ["thing", "least"] spWh := by
  have nd := scWh.nd
  refine fn3D F scWh (fun ws G q e h => by obtain ⟨_, _, rfl, _⟩ := h; rfl) (fun cdv A outer s H E hr => ?_)
  apply bodyOf
  · exact (qss_cons (qs_ret (qe_and (qe_isi (T := "int") (x := "int") (by first | simp [isiT] | assumption | decide +kernel) PyProof.Rows.boot_int mn rfl mi rfl (qe_var 0 rfl (.inl rfl))) (qe_and (qe_not (qe_isi (T := "bool") (x := "bool") (by first | simp [isiT] | assumption | decide +kernel) PyProof.Rows.boot_bool mb rfl mi rfl (qe_var 0 rfl (.inl rfl)))) (qe_one (qe_cmp q_ge (qe_var 0 rfl (.inl rfl)) (qe_var 1 rfl (.inl rfl)) (nomark _)))))) qss_nil)
  · rintro ws G q e ⟨x, k, rfl, hx, hq⟩
    cases x with
    | int n =>
      walk_at "R"
      exact GLe.done hq
    | bl b =>
      walk_at "R"
      exact GLe.done hq
    | str b =>
      walk_at "R"
      simp only [tyN_str, subN_si, Bool.false_eq_true, if_false]
      exact GLe.done hq
    | non =>
      walk_at "R"
      simp only [subN_ni, Bool.false_eq_true, if_false]
      exact GLe.done hq
    | tup xs =>
      walk_at "R"
      exact GLe.done hq
    | ref a => exact hx.elim
    | scr a => exact hx.elim
noncomputable def wayW (w : List Nat) : List W := w.map fun i => W.int ((i : Nat) : Int)
theorem way_get {w : List Nat} {j i : Nat} (h : w[j]? = some i) : (wayW w)[j]? = some (.int ((i : Nat) : Int)) := by unfold wayW; rw [List.getElem?_map, h]; rfl
theorem way_len (w : List Nat) : (wayW w).length = w.length := List.length_map ..
noncomputable def badP (s : Tr) : W → Prop
  | .int i => i < 0 ∨ ((s.len : Nat) : Int) ≤ i
  | .bl _ => True
  | .str _ => True
  | .non => True
  | _ => False
noncomputable def oddW (t : Tr) (G : Gp) (x : W) : Prop :=
  x = .non ∨ (∃ n, x = .int n) ∨ (∃ c, x = .str c) ∨ (∃ p ws, x = .ref p ∧ G p = some (.lst ws)) ∨ x = .tup [] ∨
  (∃ (v : List Nat) (s : Tr) (y : W) (r : List Nat), x = .tup (wayW v ++ y :: wayW r) ∧ Tr.subT t v = some s ∧ badP s y) ∨
  ∃ (v : List Nat) (s : Tr), v ≠ [] ∧ x = .tup (wayW v) ∧ Tr.subT t v = some s ∧ s ≠ .z
theorem way_flats : ∀ w : List Nat, W.flats (wayW w) = true
  | [] => rfl
  | i :: w => by
    have := way_flats w
    simp only [wayW, List.map_cons, W.flat, W.flats, Bool.and_eq_true] at this ⊢
    exact ⟨trivial, this⟩
theorem way_deps : ∀ w : List Nat, W.deps (wayW w) ≤ 1
  | [] => by simp [wayW, W.deps]
  | i :: w => by
    have := way_deps w
    simp only [wayW, List.map_cons, W.dep, W.deps] at this ⊢
    assumption
theorem flats_app : ∀ xs ys : List W, W.flats (xs ++ ys) = (W.flats xs && W.flats ys)
  | [], ys => by simp [W.flats]
  | x :: xs, ys => by
    have := flats_app xs ys
    simp only [List.cons_append, W.flats, this, Bool.and_assoc]
theorem deps_app : ∀ xs ys : List W, W.deps (xs ++ ys) = max (W.deps xs) (W.deps ys)
  | [], ys => by simp [W.deps]
  | x :: xs, ys => by
    have := deps_app xs ys
    simp only [List.cons_append, W.deps, this]
    (clear this; omega)
theorem badP_flat {s : Tr} {y : W} (h : badP s y) : y.flat = true ∧ y.dep ≤ 1 ∧ whK y := by
  cases y <;> first | exact h.elim | exact ⟨rfl, by simp [W.dep], trivial⟩
theorem tup_ne {x : W} {xs : List W} : (W.tup (x :: xs)).eq (.tup []) = false := by simp [W.eq, W.eqs]
noncomputable def spIh : WSp := fun ws G q _ => ∃ (t : Tr) (x : W), ws = [.tup (encT t), x] ∧ t.dp ≤ 50 ∧ ((∃ w, x = .tup (wayW w) ∧ Tr.subT t w = some .z ∧ w ≠ [] ∧ q (.bl true) G) ∨ (oddW t G x ∧ q (.bl false) G))
theorem scIh : FnScope ["tree", "way", "point", "place"] ["tree", "way"] (defScope (top 26)) := ⟨rfl, rfl, rfl, by decide +kernel, rfl, by decide +kernel, by decide +kernel⟩
theorem subN_lt : subN "list" "tuple" = false := by decide
theorem subN_st : subN "str" "tuple" = false := by decide
theorem fnIh (F : Fun K "is_head" "is_head" (top 26) f fd) (F1 : Fxd P w K mg base "is_whole" ["thing", "least"] 1 spWh [.int 0]) (mi : mg "isinstance" = none) (mt : mg "tuple" = none) (ml : mg "len" = none) : WFn P w K mg base 2 f fd ["tree", "way"] spIh := by
  have nd := scIh.nd
  refine fn3 F scIh (fun ws G q e h => by obtain ⟨_, _, rfl, _⟩ := h; rfl) (fun cdv A outer s H E hr => ?_)
  apply bodyOf
  · exact (qss_cons (qs_if (qt_w (qw_or (qt_not (qt_val (qe_isi (T := "tuple") (x := "tuple") (by first | simp [isiT] | assumption | decide +kernel) b_tuple mt rfl mi rfl (qe_var 1 rfl (.inl rfl))))) (qw_or1 (qt_cmp (q_eq4 hr) (qe_var 1 rfl (.inl rfl)) (qe_tup qa_nil) (nomark _))))) (qss_cons (qs_ret qe_bl) qss_nil) qss_nil) (qss_cons (qs_set 2 nd rfl (.inl rfl) (qe_var 0 rfl (.inl rfl))) (qss_cons (qs_for PySem.PassesOwn.never rfl (qi_seq (qe_var 1 rfl (.inl rfl))) (qg_name 3 nd rfl (.inl rfl)) (qss_cons (qs_if (qt_w (qw_or (qt_not (qt_val (qe_fxd F1 (Room.mono hr (by omega)) rfl (qa_cons (qe_var 3 rfl (.inl rfl)) qa_nil)))) (qw_or1 (qt_cmp q_ge (qe_var 3 rfl (.inl rfl)) (qe_callB q_len rfl ml PySem.boot_len (qa_cons (qe_var 2 rfl (.inl rfl)) qa_nil)) (nomark _))))) (qss_cons (qs_ret qe_bl) qss_nil) qss_nil) (qss_cons (qs_set 2 nd rfl (.inl rfl) (qe_ix q_ix (qe_var 2 rfl (.inl rfl)) (qe_var 3 rfl (.inl rfl)) (fun _ _ => rfl))) qss_nil))) (qss_cons (qs_ret (qe_cmp (q_eq4 hr) (qe_var 2 rfl (.inl rfl)) (qe_tup qa_nil) (nomark _))) qss_nil))))
  · rintro ws G q e ⟨t, x, rfl, hd, hx⟩
    refine seqU fun U hU => ?_
    have go : ∀ (xs : List W) (v : List Nat) (y : List W) (s0 : Tr) (b : Bool), xs = wayW v ++ y → Tr.subT t v = some s0 → q (.bl b) G → (y = [] ∧ (s0 = .z ∧ b = true ∨ s0 ≠ .z ∧ b = false) ∨ ∃ y0 r, y = y0 :: r ∧ badP s0 y0 ∧ b = false) → U { nx := fun x G1 => ∃ G0, GLe G0 G1 ∧ q W.non G0, rt := fun w G1 => ∃ G0, GLe G0 G1 ∧ q w G0 } [some (.tup (encT t)), some (.tup xs), none, none] G := by
      intro xs v y s0 b ex hv hq hy
      subst hU
      refine seqU fun U hU => ?_
      walk_at "R"
      subst hU
      refine seqU fun U hU => ?_
      walk_at "R"
      refine loopW_ind (fun ws τ G' => G' = G ∧ ∃ (r : List Nat) (s : Tr) (t3 : Option W), ws = wayW r ++ y ∧ τ = [some (.tup (encT t)), some (.tup xs), some (.tup (encT s)), t3] ∧ Tr.subT s r = some s0 ∧ s.dp ≤ t.dp) ?_ ?_ _ _ _ ⟨rfl, v, t, none, ex, rfl, hv, Nat.le_refl _⟩
      · rintro τ G' ⟨rfl, r, s, t3, hr, rfl, hs, ds⟩
        refine ⟨trivial, ?_⟩
        cases r with
        | cons i r => cases hr
        | nil =>
          cases hs
          rcases hy with ⟨rfl, hz⟩ | ⟨y0, r, rfl, _⟩
          · have sd := tupT_dep s0
            subst hU
            walk_at "R"
            refine ⟨tupT_flat s0, by (clear F F1 mi mt ml nd hv hx hq hz ex hr; omega), ?_⟩
            rcases hz with ⟨rfl, rfl⟩ | ⟨hz, rfl⟩
            · exact GLe.done hq
            · have e0 : (W.tup (encT s0)).eq (.tup []) = false := by
                cases h : (W.tup (encT s0)).eq (.tup []) with
                | false => rfl
                | true => exact absurd ((tupT_nil s0).mp h) hz
              rw [e0]
              exact GLe.done hq
          · cases hr
      · rintro w1 ws τ G' kk ⟨rfl, r, s, t3, hr, rfl, hs, ds⟩ hk
        cases r with
        | nil =>
          cases hs
          rcases hy with ⟨rfl, hz⟩ | ⟨y0, r, rfl, hb, rfl⟩
          · cases hr
          · obtain ⟨rfl, rfl⟩ := List.cons.inj hr
            obtain ⟨_, _, hk1⟩ := badP_flat hb
            refine ⟨trivial, ?_⟩
            refine seqU fun U1 hU1 => ?_
            walk_at "R"
            refine ⟨_, _, rfl, hk1, ?_⟩
            cases w1 with
            | int i =>
              have hb' : i < 0 ∨ ((s0.len : Nat) : Int) ≤ i := hb
              show if whB (W.int i) 0 = false then _ else _
              by_cases hi : i < 0
              · rw [if_pos (show whB (W.int i) 0 = false from decide_eq_false (by (clear F F1 mi mt ml nd hd hv hU hx ds hq hU1 hb ex hk hr hk1 hb'; omega)))]
                exact GLe.done hq
              · rw [if_neg (show ¬ whB (W.int i) 0 = false by rw [show whB (W.int i) 0 = true from decide_eq_true (by (clear F F1 mi mt ml nd hd hv hU hx ds hq hU1 hb ex hk hr hk1 hb'; omega))]; decide)]
                show if decide (((encT s0).length : Int) ≤ i) = true then _ else _
                rw [encT_len, if_pos (decide_eq_true (by (clear F F1 mi mt ml nd hd hv hU hx ds hq hU1 hb ex hk hr hk1; omega)))]
                exact GLe.done hq
            | bl _ => exact GLe.done hq
            | str _ => exact GLe.done hq
            | non => exact GLe.done hq
            | tup _ => exact hb.elim
            | ref _ => exact hb.elim
            | scr _ => exact hb.elim
        | cons i r =>
          obtain ⟨rfl, rfl⟩ := List.cons.inj hr
          obtain ⟨b, h1, h2⟩ := Tr.subT_cons hs
          have g1 := Tr.getT_some h1
          refine ⟨trivial, ?_⟩
          refine seqU fun U1 hU1 => ?_
          walk_at "R"
          refine ⟨_, _, rfl, trivial, ?_⟩
          show if _ then _ else _
          rw [if_neg (by simp [whB]), encT_len, if_neg (by (clear F F1 mi mt ml nd hd ex hv hy hU hx hq ds hs hk hr h1 h2 hU1; omega))]
          subst hU1
          walk_at "R"
          refine ⟨_, encT_at h1, ?_⟩
          exact hk _ _ ⟨rfl, r, b, _, rfl, rfl, h2, by (clear F F1 mi mt ml nd hd ex hv hy hU hx hq hs hk hr h1 h2; omega)⟩
    rcases hx with ⟨v, rfl, hv, hne, hq⟩ | ⟨ho, hq⟩
    · match v, hne with
      | i :: v, _ =>
        have f1 := way_flats (i :: v)
        have d1 := way_deps (i :: v)
        walk_at "R"
        refine ⟨by simpa [W.flat] using f1, by simp only [W.dep]; (clear F F1 mi mt ml nd hr hd hU go hne hq hv f1; omega), ?_⟩
        rw [show (W.tup (wayW (i :: v))).eq (.tup []) = false from tup_ne, if_neg (by decide)]
        exact go _ (i :: v) [] .z true (List.append_nil _).symm hv hq (.inl ⟨rfl, .inl ⟨rfl, rfl⟩⟩)
    · rcases ho with rfl | ⟨n, rfl⟩ | ⟨c, rfl⟩ | ⟨p, ws, rfl, hp⟩ | rfl | ⟨v, s0, y, r, rfl, hv, hb⟩ | ⟨v, s0, hne, rfl, hv, hz⟩
      · walk_at "R"
        exact GLe.done hq
      · walk_at "R"
        exact GLe.done hq
      · walk_at "R"
        simp only [tyN_str, subN_st, if_true]
        exact GLe.done hq
      · walk_at "R"
        simp only [tyN, hp, subN_lt, if_true]
        exact GLe.done hq
      · walk_at "R"
        exact GLe.done hq
      · obtain ⟨hf, hdp, _⟩ := badP_flat hb
        have f1 := way_flats v
        have d1 := way_deps v
        have f2 := way_flats r
        have d2 := way_deps r
        walk_at "R"
        refine ⟨?_, ?_, ?_⟩
        · show W.flats (wayW v ++ y :: wayW r) = true
          rw [flats_app, f1]; simp only [W.flats, hf, f2]; rfl
        · show W.deps (wayW v ++ y :: wayW r) + 1 ≤ 150
          rw [deps_app]; simp only [W.deps]; (clear F F1 mi mt ml nd hr hd hU go hq hv hb hf f1 f2; omega)
        · have e0 : (W.tup (wayW v ++ y :: wayW r)).eq (.tup []) = false := by
            cases v with
            | nil => exact tup_ne
            | cons i v => exact tup_ne
          rw [e0, if_neg (by decide)]
          exact go _ v _ s0 false rfl hv hq (.inr ⟨y, wayW r, rfl, hb, rfl⟩)
      · match v, hne with
        | i :: v, _ =>
          have f1 := way_flats (i :: v)
          have d1 := way_deps (i :: v)
          walk_at "R"
          refine ⟨by simpa [W.flat] using f1, by simp only [W.dep]; (clear F F1 mi mt ml nd hr hd hU go hq hne hz hv f1; omega), ?_⟩
          rw [show (W.tup (wayW (i :: v))).eq (.tup []) = false from tup_ne, if_neg (by decide)]
          exact go _ (i :: v) [] s0 false (List.append_nil _).symm hv hq (.inl ⟨rfl, .inr ⟨hz, rfl⟩⟩)
noncomputable def spWb : WSp := fun ws G q _ => ∃ (t b : Tr) (i : Nat), ws = [.tup (encT t), .int (i : Int)] ∧ t.getT i = some b ∧ t.pts ≤ 1000 ∧ q (.tup (encT (t.setT i .z))) G
theorem scWb : FnScope ["tree", "place"] ["tree", "place"] (defScope (top 29)) := ⟨rfl, rfl, rfl, by decide +kernel, rfl, by decide +kernel, by decide +kernel⟩
theorem fnWb (F : Fun K "without_branch" "without_branch" (top 29) f fd) : WFn P w K mg base 1 f fd ["tree", "place"] spWb := by
  have nd := scWb.nd
  refine fn3 F scWb (fun ws G q e h => by obtain ⟨_, _, _, rfl, _⟩ := h; rfl) (fun cdv A outer s H E hr => ?_)
  apply bodyOf
  · exact (qss_cons (qs_ret (qe_op q_add (qe_slice (qe_var 0 rfl (.inl rfl)) qo_none (qo_some (qe_var 1 rfl (.inl rfl)))) (qe_slice (qe_var 0 rfl (.inl rfl)) (qo_some (qe_op q_add (qe_var 1 rfl (.inl rfl)) qe_int)) qo_none))) qss_nil)
  · rintro ws G q e ⟨t, b, i, rfl, hb, hp, hq⟩
    have hl := t.len_pts
    rw [encT_set .z hb] at hq
    walk_at "R"
    rw [cut_to, show (i : Int) + 1 = ((i + 1 : Nat) : Int) from rfl, cut_from]
    refine ⟨?_, GLe.done ?_⟩
    · rw [List.length_take, List.length_drop, encT_len]; (clear F nd hr hb hq; omega)
    · have : encT .z = [] := rfl
      rw [this, List.append_nil] at hq
      exact hq
noncomputable def spCg (d : Nat) : WSp := fun ws G q _ => ∃ (t : Tr) (w : List Nat) (m : Nat), ws = [.tup (encT t), .tup (wayW w), .int (m : Int)] ∧ Tr.subT t w = some .z ∧ 2 ≤ w.length ∧ t.dp < d ∧ t.pts ≤ 100 ∧ m ≤ 700 ∧ q (.tup (encT (Tr.cutT m t w))) G
theorem scCg : FnScope ["tree", "way", "many", "place", "grown"] ["tree", "way", "many"] (defScope (top 28)) := ⟨rfl, rfl, rfl, by decide +kernel, rfl, by decide +kernel, by decide +kernel⟩
theorem fnCg {d k : Nat} (hk1 : 1 ≤ k) (F : Fun K "cut_and_grown" "cut_and_grown" (top 28) f fd) (F0 : Fx P w K mg base "cut_and_grown" ["tree", "way", "many"] k (spCg d)) (F1 : Fx P w K mg base "without_branch" ["tree", "place"] 1 spWb) (ml : mg "len" = none) : WFn P w K mg base (k + 1) f fd ["tree", "way", "many"] (spCg (d + 1)) := by
  have nd := scCg.nd
  refine fn3 F scCg (fun ws G q e h => by obtain ⟨_, _, _, rfl, _⟩ := h; rfl) (fun cdv A outer s H E hr => ?_)
  apply bodyOf
  · exact (qss_cons (qs_set 3 nd rfl (.inl rfl) (qe_ix q_ix (qe_var 1 rfl (.inl rfl)) qe_int (fun _ _ => rfl))) (qss_cons (qs_if (qt_cmp (q_eq4 hr) (qe_callB q_len rfl ml PySem.boot_len (qa_cons (qe_var 1 rfl (.inl rfl)) qa_nil)) qe_int (nomark _)) (qss_cons (qs_set 4 nd rfl (.inl rfl) (qe_op q_mulT (qe_tup (qa_cons (qe_fxn F1 (Room.mono hr hk1) rfl (qa_cons (qe_ix q_ix (qe_var 0 rfl (.inl rfl)) (qe_var 3 rfl (.inl rfl)) (fun _ _ => rfl)) (qa_cons (qe_ix q_ix (qe_var 1 rfl (.inl rfl)) qe_int (fun _ _ => rfl)) qa_nil))) qa_nil)) (qe_op q_add qe_int (qe_var 2 rfl (.inl rfl))))) qss_nil) (qss_cons (qs_set 4 nd rfl (.inl rfl) (qe_tup (qa_cons (qe_fxn F0 (Room.mono hr (by omega)) rfl (qa_cons (qe_ix q_ix (qe_var 0 rfl (.inl rfl)) (qe_var 3 rfl (.inl rfl)) (fun _ _ => rfl)) (qa_cons (qe_slice (qe_var 1 rfl (.inl rfl)) (qo_some qe_int) qo_none) (qa_cons (qe_var 2 rfl (.inl rfl)) qa_nil)))) qa_nil))) qss_nil)) (qss_cons (qs_ret (qe_op q_add (qe_op q_add (qe_slice (qe_var 0 rfl (.inl rfl)) qo_none (qo_some (qe_var 3 rfl (.inl rfl)))) (qe_var 4 rfl (.inl rfl))) (qe_slice (qe_var 0 rfl (.inl rfl)) (qo_some (qe_op q_add (qe_var 3 rfl (.inl rfl)) qe_int)) qo_none))) qss_nil)))
  · rintro ws G q e ⟨t, w, m, rfl, hs, hw, hd, hp, hm, hq⟩
    have hl := t.len_pts
    match w, hw with
    | i :: j :: w, _ =>
      obtain ⟨b, h1, h2⟩ := Tr.subT_cons hs
      obtain ⟨x, h3, h4⟩ := Tr.subT_cons h2
      have g1 := Tr.getT_some h1
      have pb := b.len_pts
      refine seqU fun U hU => ?_
      walk_at "R"
      refine ⟨_, atI_nat (j := 0) rfl, ?_⟩
      subst hU
      refine seqU fun U hU => ?_
      have fin : ∀ u : Tr, u.pts ≤ 80000 → Tr.cutT m t (i :: j :: w) = t.setT i u → U { nx := fun x G1 => ∃ G0, GLe G0 G1 ∧ q W.non G0, rt := fun w G1 => ∃ G0, GLe G0 G1 ∧ q w G0 } [some (.tup (encT t)), some (.tup (wayW (i :: j :: w))), some (.int (m : Int)), some (.int (i : Int)), some (.tup (encT u))] G := by
        intro u hu he
        have lu := u.len_pts
        rw [he, encT_set u h1] at hq
        subst hU
        walk_at "R"
        rw [cut_to, show (i : Int) + 1 = ((i + 1 : Nat) : Int) from rfl, cut_from]
        refine ⟨?_, ?_, GLe.done hq⟩
        · rw [List.length_take, encT_len, encT_len]; (clear hk1 F F0 F1 ml nd hr hw hd hm hs h1 h2 h3 h4 pb hq he; omega)
        · rw [List.length_append, List.length_take, List.length_drop, encT_len, encT_len]; (clear hk1 F F0 F1 ml nd hr hw hd hm hs h1 h2 h3 h4 pb hq he; omega)
      walk_at "R"
      rw [way_len]
      cases w with
      | nil =>
        have p2 := Tr.set_pts (u := .z) h3
        have e0 : Tr.pts .z = 1 := rfl
        rw [if_pos (by simp only [List.length_cons, List.length_nil]; rfl)]
        refine ⟨_, encT_at h1, _, atI_nat (j := 1) rfl, b, x, j, rfl, h3, by (clear hk1 F F0 F1 ml nd hr hw hd hm hl h1 h3 pb hU hs hq h2 h4 fin; omega), ?_⟩
        refine ⟨by simp, by (clear hk1 F F0 F1 ml nd hr hw hd hp hl h1 h3 g1 pb hU hs hq h2 h4 fin p2 e0; omega), by (clear hk1 F F0 F1 ml nd hr hw hd hp hl h1 h3 g1 pb hU hs hq h2 h4 fin p2 e0; omega), by (clear hk1 F F0 F1 ml nd hr hw hd hp hl h1 h3 g1 pb hU hs hq h2 h4 fin p2 e0; omega), ?_⟩
        rw [show (1 + (m : Int)).toNat = 1 + m by (clear hk1 F F0 F1 ml nd hr hw hd hp hl h1 h3 g1 pb hU hs hq h2 h4 fin p2 e0; omega), ← encT_reps]
        refine fin _ ?_ (Tr.cut_two h1)
        rw [Tr.reps_pts]
        have : (1 + m) * (b.setT j .z).pts ≤ 701 * 100 := Nat.mul_le_mul (by (clear hk1 F F0 F1 ml nd hr hw hd hp hl h1 h3 g1 pb hU hs hq h2 h4 fin p2 e0; omega)) (by (clear hk1 F F0 F1 ml nd hr hw hd hm hl h1 h3 pb hU hs hq h2 h4 fin; omega))
        (clear hk1 F F0 F1 ml nd hr hw hd hp hm hl h1 h3 g1 pb hU hs hq h2 h4 fin p2 e0; omega)
      | cons k w =>
        obtain ⟨_, c2, _⟩ := Tr.cut_ok (m := m) (w := j :: k :: w) (t := b) (fun z => by cases z) h2
        have c3 : (m + 1) * b.pts ≤ 701 * 100 := Nat.mul_le_mul (by (clear hk1 F F0 F1 ml nd hr hw hd hp hl h1 h3 g1 pb hU hs hq h2 h4 fin c2; omega)) (by (clear hk1 F F0 F1 ml nd hr hw hd hm hl h1 h3 pb hU hs hq h2 h4 fin c2; omega))
        rw [if_neg (by simp only [List.length_cons]; (clear hk1 F F0 F1 ml nd hr hw hd hp hm hl h1 h3 g1 pb hU hs hq h2 h4 fin c2 c3; omega))]
        refine ⟨_, encT_at h1, ?_⟩
        refine ⟨b, j :: k :: w, m, ?_, h2, by simp, by (clear hk1 F F0 F1 ml nd hr hw hp hm hl h1 h3 pb hU hs hq h2 h4 fin c2 c3; omega), by (clear hk1 F F0 F1 ml nd hr hw hd hm hl h1 h3 pb hU hs hq h2 h4 fin c2 c3; omega), hm, ?_⟩
        · rw [show (1 : Int) = ((1 : Nat) : Int) from rfl, cut_from]; rfl
        · exact fin (.c (Tr.cutT m b (j :: k :: w)) .z) (by show _ + 1 ≤ _; (clear hk1 F F0 F1 ml nd hr hw hd hp hm hl h1 h3 g1 pb hU hs hq h2 h4 fin; omega)) (Tr.cut_more h1)
theorem fxCg (T : Txt K mg) : ∀ d : Nat, Fx P w K mg base "cut_and_grown" ["tree", "way", "many"] (d + 1) (spCg d)
  | 0 => T.d_cut_and_grown.fx fun f fd F => WFn.none fun ws G q e ⟨t, w, m, _, _, _, h, _⟩ => by (clear T F; omega)
  | d + 1 => T.d_cut_and_grown.fx fun f fd F => fnCg (by (clear T F; omega)) F (fxCg T d) (T.d_without_branch.fx fun f fd F => fnWb F) T.z_len
theorem sub_take : ∀ {w : List Nat} {t e : Tr} (k : Nat), Tr.subT t w = some e → ∃ s, Tr.subT t (w.take k) = some s
  | _, t, _, 0, _ => ⟨t, by rw [List.take_zero]; rfl⟩
  | [], t, _, k + 1, _ => ⟨t, rfl⟩
  | i :: w, t, e, k + 1, h => by
    obtain ⟨b, h1, h2⟩ := Tr.subT_cons h
    obtain ⟨s, h3⟩ := sub_take k h2
    refine ⟨s, ?_⟩
    rw [List.take_succ_cons]
    unfold Tr.subT
    rw [h1]
    exact h3
noncomputable def leftT (t s : Tr) (w : List Nat) (m : Nat) : Nat := if w.length = 1 then t.pts - 1 else t.pts - 1 + m * (s.pts - 1)
theorem left_many {t s : Tr} {i j m : Nat} {w : List Nat} (hs : Tr.subT t (i :: j :: w) = some .z) (h0 : Tr.subT t ((i :: j :: w).take ((i :: j :: w).length - 1)) = some s) (hl : leftT t s (i :: j :: w) m ≤ 600) : m ≤ 700 := by
  have p := (Tr.sub_last (fun z => by cases z) hs h0).1
  unfold leftT at hl
  rw [if_neg (by simp only [List.length_cons]; (clear hs h0 hl p; omega))] at hl
  have : m * 1 ≤ m * (s.pts - 1) := Nat.mul_le_mul_left _ (by (clear hs h0 hl; omega))
  (clear hs h0 p; omega)
noncomputable def spPl : WSp := fun ws G q _ => ∃ (t s : Tr) (w : List Nat) (m : Nat), ws = [.tup (encT t), .tup (wayW w), .int (m : Int)] ∧ Tr.subT t (w.take (w.length - 1)) = some s ∧ t.dp < 40 ∧ t.pts ≤ 100 ∧ m ≤ 10 ^ 60 ∧ q (.int ((leftT t s w m : Nat) : Int)) G
theorem scPl : FnScope ["tree", "way", "many", "left", "point", "place"] ["tree", "way", "many"] (defScope (top 27)) := ⟨rfl, rfl, rfl, by decide +kernel, rfl, by decide +kernel, by decide +kernel⟩
theorem fnPl (F : Fun K "points_left" "points_left" (top 27) f fd) (F1 : Fx P w K mg base "points" ["tree"] 40 (spPn 40)) (ml : mg "len" = none) : WFn P w K mg base 41 f fd ["tree", "way", "many"] spPl := by
  have nd := scPl.nd
  refine fn3 F scPl (fun ws G q e h => by obtain ⟨_, _, _, _, rfl, _⟩ := h; rfl) (fun cdv A outer s H E hr => ?_)
  apply bodyOf
  · exact (qss_cons (qs_set 3 nd rfl (.inl rfl) (qe_op q_sub (qe_fxn F1 (Room.mono hr (by omega)) rfl (qa_cons (qe_var 0 rfl (.inl rfl)) qa_nil)) qe_int)) (qss_cons (qs_if (qt_cmp (q_eq4 hr) (qe_callB q_len rfl ml PySem.boot_len (qa_cons (qe_var 1 rfl (.inl rfl)) qa_nil)) qe_int (nomark _)) (qss_cons (qs_ret (qe_var 3 rfl (.inl rfl))) qss_nil) qss_nil) (qss_cons (qs_set 4 nd rfl (.inl rfl) (qe_var 0 rfl (.inl rfl))) (qss_cons (qs_for PySem.PassesOwn.never rfl (qi_seq (qe_slice (qe_var 1 rfl (.inl rfl)) qo_none (qo_some (qe_neg qe_int)))) (qg_name 5 nd rfl (.inl rfl)) (qss_cons (qs_set 4 nd rfl (.inl rfl) (qe_ix q_ix (qe_var 4 rfl (.inl rfl)) (qe_var 5 rfl (.inl rfl)) (fun _ _ => rfl))) qss_nil)) (qss_cons (qs_ret (qe_op q_add (qe_var 3 rfl (.inl rfl)) (qe_op q_mulT (qe_var 2 rfl (.inl rfl)) (qe_op q_sub (qe_fxn F1 (Room.mono hr (by omega)) rfl (qa_cons (qe_var 4 rfl (.inl rfl)) qa_nil)) qe_int)))) qss_nil)))))
  · rintro ws G q e ⟨t, s0, w, m, rfl, h0, hd, hp, hm, hq⟩
    have tp := t.pts_pos
    refine seqU fun U hU => ?_
    walk_at "R"
    refine ⟨t, rfl, by assumption, by exact Nat.le_trans (by assumption) (Nat.le_of_ble_eq_true rfl), ?_⟩
    walk_at "R"
    subst hU
    refine seqU fun U hU => ?_
    walk_at "R"
    rw [way_len]
    unfold leftT at hq
    split
    · rw [if_pos (by (clear F F1 ml nd hr h0 hd hp hm hq tp hU; omega))] at hq
      rw [show ((t.pts : Nat) : Int) - 1 = ((t.pts - 1 : Nat) : Int) by (clear F F1 ml nd hr h0 hd hm hq hU; omega)]
      exact GLe.done hq
    rw [if_neg (by (clear F F1 ml nd hr h0 hd hp hm hq tp hU; omega))] at hq
    subst hU
    refine seqU fun U hU => ?_
    walk_at "R"
    subst hU
    refine seqU fun U hU => ?_
    walk_at "R"
    rw [cut_to1, way_len, show (wayW w).take (w.length - 1) = wayW (w.take (w.length - 1)) from List.map_take.symm]
    refine loopW_ind (fun ws τ G' => G' = G ∧ ∃ (r : List Nat) (s : Tr) (t5 : Option W), ws = wayW r ∧ τ = [some (.tup (encT t)), some (.tup (wayW w)), some (.int (m : Int)), some (.int (((t.pts : Nat) : Int) - 1)), some (.tup (encT s)), t5] ∧ Tr.subT s r = some s0 ∧ s.pts ≤ t.pts ∧ s.dp ≤ t.dp) ?_ ?_ _ _ _ ⟨rfl, _, t, none, rfl, rfl, h0, Nat.le_refl _, Nat.le_refl _⟩
    · rintro τ G' ⟨rfl, r, s, t5, hr, rfl, hs1, ps, ds⟩
      refine ⟨trivial, ?_⟩
      cases r with
      | cons i r => cases hr
      | nil =>
        cases hs1
        have pp := s0.pts_pos
        subst hU
        walk_at "R"
        refine ⟨s0, rfl, by (clear F F1 ml nd h0 hp hm tp hq hr ps pp; omega), by (clear F F1 ml nd h0 hd hm hq hr ds pp; omega), ?_⟩
        walk_at "R"
        refine ⟨.inl (.inr (bigM (by exact Nat.le_trans (by assumption) (Nat.le_of_ble_eq_true rfl)) (by (clear F F1 ml nd h0 hd hm hq hr ds; omega)))), ?_⟩
        have e1 : ((t.pts : Nat) : Int) - 1 + (m : Int) * (((s0.pts : Nat) : Int) - 1) = ((t.pts - 1 + m * (s0.pts - 1) : Nat) : Int) := by
          rw [Int.natCast_add, Int.natCast_mul, show ((s0.pts - 1 : Nat) : Int) = ((s0.pts : Nat) : Int) - 1 by (clear F F1 ml nd h0 hd hp hm tp hq hr ps ds; omega), show ((t.pts - 1 : Nat) : Int) = ((t.pts : Nat) : Int) - 1 by (clear F F1 ml nd h0 hd hm hq hr ps ds pp; omega)]
        rw [e1]
        exact GLe.done hq
    · rintro w1 ws τ G' kk ⟨rfl, r, s, t5, hr, rfl, hs1, ps, ds⟩ hk
      cases r with
      | nil => cases hr
      | cons i r =>
        obtain ⟨rfl, rfl⟩ := List.cons.inj hr
        obtain ⟨b, h1, h2⟩ := Tr.subT_cons hs1
        have g1 := Tr.getT_some h1
        refine ⟨trivial, ?_⟩
        walk_at "R"
        refine ⟨_, encT_at h1, ?_⟩
        exact hk _ _ ⟨rfl, r, b, _, rfl, rfl, h2, by (clear F F1 ml nd h0 hd hp hm tp hU hq ds hs1 hk hr h1 h2; omega), by (clear F F1 ml nd h0 hd hp hm tp hU hq ps hs1 hk hr h1 h2; omega)⟩
noncomputable def Al : Nat → W → Prop
  | 0, _ => False
  | k + 1, w => (∃ n, w = .int n) ∨ ∃ xs, w = .tup xs ∧ ∀ x, x ∈ xs → Al k x
theorem al_enc : ∀ (o : O) (k : Nat), 2 * o.dp ≤ k → ∀ x, x ∈ encP o → Al k x
  | .z, _, _, x, hx => by cases hx
  | .c e n r, k, h, x, hx => by
    simp only [O.dp] at h
    rw [encP_c] at hx
    rcases List.mem_cons.mp hx with rfl | hx
    · obtain ⟨j, rfl⟩ : ∃ j, k = j + 2 := ⟨k - 2, by (clear hx; omega)⟩
      refine .inr ⟨_, rfl, fun y hy => ?_⟩
      rcases List.mem_cons.mp hy with rfl | hy
      · exact .inr ⟨_, rfl, al_enc e j (by (clear hx hy; omega))⟩
      · rcases List.mem_cons.mp hy with rfl | hy
        · exact .inl ⟨_, rfl⟩
        · cases hy
    · exact al_enc r k (by (clear hx; omega)) x hx
noncomputable def spAl (d : Nat) : WSp := fun ws G q _ => ∃ x : W, ws = [x, x] ∧ Al d x ∧ q (.bl true) G
theorem scAl : FnScope ["_law_found", "_law_due", "_law_one", "_law_two"] ["_law_found", "_law_due"] (defScope (top 38)) := ⟨rfl, rfl, rfl, by decide +kernel, rfl, by decide +kernel, by decide +kernel⟩
theorem fnAl {d k : Nat} (F : Fun K "_law_alike" "_law_alike" (top 38) f fd) (F0 : Fx P w K mg base "_law_alike" ["_law_found", "_law_due"] k (spAl d)) (mi : mg "isinstance" = none) (mn : mg "int" = none) (mb : mg "bool" = none) (mt : mg "tuple" = none) (ml : mg "len" = none) (mz : mg "zip" = none) : WFn P w K mg base (k + 1) f fd ["_law_found", "_law_due"] (spAl (d + 1)) := by
  have nd := scAl.nd
  refine fn3 F scAl (fun ws G q e h => by obtain ⟨_, rfl, _⟩ := h; rfl) (fun cdv A outer s H E hr => ?_)
  apply bodyOf
  · exact (qss_cons (qs_if (qt_val (qe_isi (T := "int") (x := "int") (by first | simp [isiT] | assumption | decide +kernel) PyProof.Rows.boot_int mn rfl mi rfl (qe_var 1 rfl (.inl rfl)))) (qss_cons (qs_ret (qe_and (qe_isi (T := "int") (x := "int") (by first | simp [isiT] | assumption | decide +kernel) PyProof.Rows.boot_int mn rfl mi rfl (qe_var 0 rfl (.inl rfl))) (qe_and (qe_not (qe_isi (T := "bool") (x := "bool") (by first | simp [isiT] | assumption | decide +kernel) PyProof.Rows.boot_bool mb rfl mi rfl (qe_var 0 rfl (.inl rfl)))) (qe_one (qe_cmp (q_eq4 hr) (qe_var 0 rfl (.inl rfl)) (qe_var 1 rfl (.inl rfl)) (nomark _)))))) qss_nil) qss_nil) (qss_cons (qs_if (qt_w (qw_or (qt_not (qt_val (qe_isi (T := "tuple") (x := "tuple") (by first | simp [isiT] | assumption | decide +kernel) b_tuple mt rfl mi rfl (qe_var 0 rfl (.inl rfl))))) (qw_or1 (qt_cmp (q_ne4 hr) (qe_callB q_len rfl ml PySem.boot_len (qa_cons (qe_var 0 rfl (.inl rfl)) qa_nil)) (qe_callB q_len rfl ml PySem.boot_len (qa_cons (qe_var 1 rfl (.inl rfl)) qa_nil)) (nomark _))))) (qss_cons (qs_ret qe_bl) qss_nil) qss_nil) (qss_cons (qs_for PySem.PassesOwn.never rfl (qi_zip rfl mz (qa_cons (qe_var 0 rfl (.inl rfl)) (qa_cons (qe_var 1 rfl (.inl rfl)) qa_nil))) (qg_tup rfl (qgs_cons (qg_name 2 nd rfl (.inl rfl)) (qgs_cons (qg_name 3 nd rfl (.inl rfl)) qgs_nil))) (qss_cons (qs_if (qt_not (qt_val (qe_fxn F0 (Room.mono hr (by omega)) rfl (qa_cons (qe_var 2 rfl (.inl rfl)) (qa_cons (qe_var 3 rfl (.inl rfl)) qa_nil))))) (qss_cons (qs_ret qe_bl) qss_nil) qss_nil) qss_nil)) (qss_cons (qs_ret qe_bl) qss_nil))))
  · rintro ws G q e ⟨x, rfl, hx, hq⟩
    rcases hx with ⟨n, rfl⟩ | ⟨xs, rfl, hx⟩
    · refine seqU fun U hU => ?_
      walk_at "R"
      rw [decide_eq_true trivial]
      exact GLe.done hq
    · refine seqU fun U hU => ?_
      walk_at "R"
      subst hU
      refine seqU fun U hU => ?_
      walk_at "R"
      subst hU
      refine seqU fun U hU => ?_
      walk_at "R"
      refine loopW_ind (fun ws τ G' => G' = G ∧ ∃ (ys : List W) (t2 t3 : Option W), ws = zipW ys ys ∧ τ = [some (.tup xs), some (.tup xs), t2, t3] ∧ ∀ x, x ∈ ys → Al d x) ?_ ?_ _ _ _ ⟨rfl, xs, none, none, rfl, rfl, hx⟩
      · rintro τ G' ⟨rfl, ys, t2, t3, hz, rfl, hy⟩
        refine ⟨trivial, ?_⟩
        subst hU
        walk_at "R"
        exact GLe.done hq
      · rintro w1 ws τ G' k1 ⟨rfl, ys, t2, t3, hz, rfl, hy⟩ hk
        cases ys with
        | nil => cases hz
        | cons y ys =>
          obtain ⟨rfl, rfl⟩ := List.cons.inj hz
          refine ⟨trivial, ?_⟩
          walk_at "R"
          refine ⟨y, rfl, hy y List.mem_cons_self, ?_⟩
          walk_at "R"
          exact hk _ _ ⟨rfl, ys, _, _, rfl, rfl, fun x h => hy x (List.mem_cons_of_mem _ h)⟩
theorem fxAl (T : Txt K mg) : ∀ d : Nat, Fx P w K mg base "_law_alike" ["_law_found", "_law_due"] d (spAl d)
  | 0 => T.d__law_alike.fx fun f fd F => WFn.none fun ws G q e ⟨x, _, h, _⟩ => h
  | d + 1 => T.d__law_alike.fx fun f fd F => fnAl F (fxAl T d) T.z_isinstance T.z_int T.z_bool T.z_tuple T.z_len T.z_zip
theorem scLp : FnScope ["_law_tree_here"] ["_law_tree_here"] (defScope (top 39)) := ⟨rfl, rfl, rfl, by decide +kernel, rfl, by decide +kernel, by decide +kernel⟩
theorem fnLp {d k : Nat} (F : Fun K "_law_points" "_law_points" (top 39) f fd) (F0 : Fx P w K mg base "_law_points" ["_law_tree_here"] k (spPn d)) (ms : mg "sum" = none) : WFn P w K mg base (k + 1) f fd ["_law_tree_here"] (spPn (d + 1)) := by
  have nd := scLp.nd
  refine fn3 F scLp (fun ws G q e h => by obtain ⟨_, rfl, _⟩ := h; rfl) (fun cdv A outer s H E hr => ?_)
  apply bodyOf
  · exact (qss_cons (qs_ret (qe_op q_add qe_int (qe_callB (q_sum rfl) rfl ms b_sum (qa_cons (qe_comp (compSc (by first | rfl | decide +kernel)) rfl (qi_seq (qe_var 0 rfl (.inl rfl))) (fun _ _ _ _ => (qg_nameB 1 (by first | assumption | decide +kernel | rfl) rfl (.inl rfl))) (fun _ _ _ _ => qts_nil) (fun _ _ _ _ => (qe_fxn F0 (Room.mono hr (by omega)) rfl (qa_cons (qe_var 1 rfl (.inl rfl)) qa_nil)))) qa_nil)))) qss_nil)
  · rintro ws G q e ⟨t, rfl, hd, hp, hq⟩
    have hl := t.len_pts
    walk_at "R"
    show compW _ _ _ _ _ [none, none, none] G [] _
    refine comp_T (τ0 := [none, none, none]) (fun b => W.int ((b.pts : Nat) : Int)) trivial (allT_dp t) (fun b hb kc hkc => ?_) (by simp only [List.length_nil]; (clear F F0 ms nd hr hd hq; omega)) (fun _ => rfl) fun p hp => ?_
    · walk_at "R"
      exact ⟨b, rfl, by (clear F F0 ms nd hr hp hq hl hkc; omega), by (clear F F0 ms nd hr hd hq hl hkc; omega), hkc⟩
    · obtain ⟨ns, h1, h2⟩ := mapT_pts t
      rw [List.nil_append, h1]
      refine ⟨ns, updG_same, ?_⟩
      rw [h2]
      exact ⟨G, GLe.new hp, hq⟩
theorem fxLp (T : Txt K mg) : ∀ d : Nat, Fx P w K mg base "_law_points" ["_law_tree_here"] d (spPn d)
  | 0 => T.d__law_points.fx fun f fd F => WFn.none fun ws G q e ⟨t, _, h, _⟩ => by (clear T F; omega)
  | d + 1 => T.d__law_points.fx fun f fd F => fnLp F (fxLp T d) T.z_sum
noncomputable def spHd : WSp := fun ws G q _ => ∃ (t : Tr) (c : Int), ws = [.tup (encT t), .int c] ∧ t.dp ≤ 50 ∧ t.pts ≤ 900 ∧ ∀ w : List Nat, Tr.subT t w = some .z → q (.tup (wayW w)) G
theorem scHd : FnScope ["_law_tree_here", "_law_cell", "_law_way", "_law_at_here"] ["_law_tree_here", "_law_cell"] (defScope (top 40)) := ⟨rfl, rfl, rfl, by decide +kernel, rfl, by decide +kernel, by decide +kernel⟩
theorem fnHd (F : Fun K "_law_head" "_law_head" (top 40) f fd) (F1 : Fx P w K mg base "_law_mix" ["_law_cell", "_law_k"] 1 spMk) (ml : mg "len" = none) : WFn P w K mg base 2 f fd ["_law_tree_here", "_law_cell"] spHd := by
  have nd := scHd.nd
  refine fn3 F scHd (fun ws G q e h => by obtain ⟨_, _, rfl, _⟩ := h; rfl) (fun cdv A outer s H E hr => ?_)
  apply bodyOf
  · exact (qss_cons (qs_set 2 nd rfl (.inl rfl) (qe_tup qa_nil)) (qss_cons (qs_while PySem.PassesOwn.never (qt_cmp (q_ne4 hr) (qe_var 0 rfl (.inl rfl)) (qe_tup qa_nil) (nomark _)) (qss_cons (qs_set 1 nd rfl (.inl rfl) (qe_fxn F1 (Room.mono hr (by omega)) rfl (qa_cons (qe_var 1 rfl (.inl rfl)) (qa_cons (qe_callB q_len rfl ml PySem.boot_len (qa_cons (qe_var 2 rfl (.inl rfl)) qa_nil)) qa_nil)))) (qss_cons (qs_set 3 nd rfl (.inl rfl) (qe_op q_mod (qe_op q_divB (qe_var 1 rfl (.inl rfl)) qe_int) (qe_callB q_len rfl ml PySem.boot_len (qa_cons (qe_var 0 rfl (.inl rfl)) qa_nil)))) (qss_cons (qs_set 2 nd rfl (.inl rfl) (qe_op q_add (qe_var 2 rfl (.inl rfl)) (qe_tup (qa_cons (qe_var 3 rfl (.inl rfl)) qa_nil)))) (qss_cons (qs_set 0 nd rfl (.inl rfl) (qe_ix q_ix (qe_var 0 rfl (.inl rfl)) (qe_var 3 rfl (.inl rfl)) (fun _ _ => rfl))) qss_nil))))) (qss_cons (qs_ret (qe_var 2 rfl (.inl rfl))) qss_nil)))
  · rintro ws G q e ⟨t, c, rfl, hd, hp, hq⟩
    refine seqU fun U hU => ?_
    walk_at "R"
    subst hU
    refine seqU fun U hU => ?_
    refine whileW (fun j τ G' => G' = G ∧ ∃ (s : Tr) (w : List Nat) (c : Int) (t3 : Option W), τ = [some (.tup (encT s)), some (.int c), some (.tup (wayW w)), t3] ∧ Tr.subT t w = some s ∧ w.length + s.dp ≤ t.dp ∧ s.pts ≤ 900 ∧ j = s.dp) ⟨_, rfl, t, [], c, none, rfl, rfl, by simp, hp, rfl⟩ ?_
    rintro j τ G' ⟨rfl, s, w, c, t3, rfl, hs, hl, hps, rfl⟩ B' hB'
    have sd := tupT_dep s
    have sl := s.len_pts
    walk_at "R"
    refine ⟨tupT_flat s, by (clear F F1 ml nd hr hp hU hq hs hps hB' sl; omega), ?_⟩
    by_cases h0 : s = .z
    · have e0 := (tupT_nil s).mpr h0
      rw [e0, if_neg (by decide)]
      subst hU
      walk_at "R"
      exact GLe.done (hq w (h0 ▸ hs))
    · have e0 : (W.tup (encT s)).eq (.tup []) = false := by
        cases h : (W.tup (encT s)).eq (.tup []) with
        | false => rfl
        | true => exact absurd ((tupT_nil s).mp h) h0
      rw [e0, if_pos rfl]
      have l1 : 1 ≤ s.len := by
        cases s with
        | z => exact absurd rfl h0
        | c _ _ => simp only [Tr.len]; (clear F F1 ml nd hr hd hp hU hq hB' hs hl hps sd sl h0 e0; omega)
      refine ⟨fun τ1 G1 => G1 = G' ∧ ∃ (i : Nat) (b : Tr) (c : Int), τ1 = [some (.tup (encT b)), some (.int c), some (.tup (wayW (w ++ [i]))), some (.int (i : Int))] ∧ s.getT i = some b, ?_, ?_⟩
      · rintro τ1 G1 ⟨rfl, i, b, c, rfl, hb⟩
        have g := Tr.getT_some hb
        exact ⟨b.dp, g.2.2, rfl, b, w ++ [i], c, _, rfl, Tr.subT_snoc hs hb, by rw [List.length_append, List.length_singleton]; (clear F F1 ml nd hr hd hp hU hs hps hB' sd sl h0 e0 l1 hq hb; omega), by (clear F F1 ml nd hr hd hp hU hs hl hB' sd sl h0 e0 l1 hq hb; omega), rfl⟩
      · subst hB'
        refine seqU fun U1 hU1 => ?_
        walk_at "R"
        refine ⟨_, _, rfl, by (clear F F1 ml nd hr hd hp hU hq hs hl hps sd sl h0 e0 l1 hU1; omega), by rw [way_len]; (clear F F1 ml nd hr hp hU hq hs hps sd sl h0 e0 l1 hU1; omega), fun x x0 x1 => ?_⟩
        walk_at "R"
        subst hU1
        refine seqU fun U1 hU1 => ?_
        walk_at "R"
        rw [encT_len]
        have m1 := mod_in (i := x / 7) (j := (s.len : Int)) (by (clear F F1 ml nd hr hd hp hU hq hs hl hps sd sl h0 e0 x0 x1 hU1; omega))
        refine ⟨by (clear F F1 ml nd hr hd hp hU hq hs hl hps sd sl h0 e0 x0 x1 hU1 m1; omega), ?_⟩
        obtain ⟨i, hi⟩ := Int.eq_ofNat_of_zero_le m1.1
        rw [hi] at m1 ⊢
        obtain ⟨b, hb⟩ := Tr.getT_lt (t := s) (i := i) (by (clear F F1 ml nd hr hd hp hU hq hs hl hps sd sl h0 e0 l1 x0 x1 hU1; omega))
        subst hU1
        refine seqU fun U1 hU1 => ?_
        walk_at "R"
        refine ⟨by rw [way_len]; (clear F F1 ml nd hr hp hU hq hs hps sd sl h0 e0 l1 x0 x1 m1 hi hb hU1; omega), ?_⟩
        subst hU1
        walk_at "R"
        refine ⟨_, encT_at hb, i, b, x, ?_, hb⟩
        unfold wayW
        rw [List.map_append]
        rfl
noncomputable def spLa : WSp := fun ws G q _ => ∃ (t s : Tr) (w : List Nat), ws = [.tup (encT t), .tup (wayW w)] ∧ Tr.subT t w = some s ∧ q (.tup (encT s)) G
theorem scLa : FnScope ["_law_tree_here", "_law_way", "_law_place"] ["_law_tree_here", "_law_way"] (defScope (top 41)) := ⟨rfl, rfl, rfl, by decide +kernel, rfl, by decide +kernel, by decide +kernel⟩
theorem fnLa (F : Fun K "_law_at" "_law_at" (top 41) f fd) : WFn P w K mg base 1 f fd ["_law_tree_here", "_law_way"] spLa := by
  have nd := scLa.nd
  refine fn3 F scLa (fun ws G q e h => by obtain ⟨_, _, _, rfl, _⟩ := h; rfl) (fun cdv A outer s H E hr => ?_)
  apply bodyOf
  · exact (qss_cons (qs_for PySem.PassesOwn.never rfl (qi_seq (qe_var 1 rfl (.inl rfl))) (qg_name 2 nd rfl (.inl rfl)) (qss_cons (qs_set 0 nd rfl (.inl rfl) (qe_ix q_ix (qe_var 0 rfl (.inl rfl)) (qe_var 2 rfl (.inl rfl)) (fun _ _ => rfl))) qss_nil)) (qss_cons (qs_ret (qe_var 0 rfl (.inl rfl))) qss_nil))
  · rintro ws G q e ⟨t, s0, w, rfl, hs, hq⟩
    refine seqU fun U hU => ?_
    walk_at "R"
    refine loopW_ind (fun ws τ G' => G' = G ∧ ∃ (r : List Nat) (s : Tr) (t2 : Option W), ws = wayW r ∧ τ = [some (.tup (encT s)), some (.tup (wayW w)), t2] ∧ Tr.subT s r = some s0) ?_ ?_ _ _ _ ⟨rfl, w, t, none, rfl, rfl, hs⟩
    · rintro τ G' ⟨rfl, r, s, t2, hr, rfl, hs⟩
      refine ⟨trivial, ?_⟩
      cases r with
      | nil =>
        cases hs
        subst hU
        walk_at "R"
        exact GLe.done hq
      | cons i r => cases hr
    · rintro w1 ws τ G' kk ⟨rfl, r, s, t2, hr, rfl, hs⟩ hk
      cases r with
      | nil => cases hr
      | cons i r =>
        obtain ⟨rfl, rfl⟩ := List.cons.inj hr
        obtain ⟨b, h1, h2⟩ := Tr.subT_cons hs
        refine ⟨trivial, ?_⟩
        walk_at "R"
        refine ⟨_, encT_at h1, ?_⟩
        exact hk _ _ ⟨rfl, r, b, _, rfl, rfl, h2⟩
noncomputable def spLq : WSp := fun ws G q _ => ∃ (t b u : Tr) (i : Nat), ws = [.tup (encT t), .int (i : Int), .tup (encT u)] ∧ t.getT i = some b ∧ t.pts ≤ 1000 ∧ u.pts ≤ 80000 ∧ q (.tup (encT (t.setT i u))) G
theorem scLq : FnScope ["_law_tree_here", "_law_at_here", "_law_others"] ["_law_tree_here", "_law_at_here", "_law_others"] (defScope (top 42)) := ⟨rfl, rfl, rfl, by decide +kernel, rfl, by decide +kernel, by decide +kernel⟩
theorem fnLq (F : Fun K "_law_without" "_law_without" (top 42) f fd) : WFn P w K mg base 1 f fd ["_law_tree_here", "_law_at_here", "_law_others"] spLq := by
  have nd := scLq.nd
  refine fn3 F scLq (fun ws G q e h => by obtain ⟨_, _, _, _, rfl, _⟩ := h; rfl) (fun cdv A outer s H E hr => ?_)
  apply bodyOf
  · exact (qss_cons (qs_ret (qe_op q_add (qe_op q_add (qe_slice (qe_var 0 rfl (.inl rfl)) qo_none (qo_some (qe_var 1 rfl (.inl rfl)))) (qe_var 2 rfl (.inl rfl))) (qe_slice (qe_var 0 rfl (.inl rfl)) (qo_some (qe_op q_add (qe_var 1 rfl (.inl rfl)) qe_int)) qo_none))) qss_nil)
  · rintro ws G q e ⟨t, b, u, i, rfl, hb, hp, hu, hq⟩
    have hl := t.len_pts
    have lu := u.len_pts
    rw [encT_set u hb] at hq
    walk_at "R"
    rw [cut_to, show (i : Int) + 1 = ((i + 1 : Nat) : Int) from rfl, cut_from]
    refine ⟨?_, ?_, GLe.done hq⟩
    · rw [List.length_take, encT_len, encT_len]; (clear F nd hr hb hq; omega)
    · rw [List.length_append, List.length_take, List.length_drop, encT_len, encT_len]; (clear F nd hr hb hq; omega)
noncomputable def spLt : WSp := fun ws G q _ => ∃ (t : Tr) (w : List Nat) (m : Nat), ws = [.tup (encT t), .tup (wayW w), .int (m : Int)] ∧ Tr.subT t w = some .z ∧ w ≠ [] ∧ t.dp < 40 ∧ t.pts ≤ 100 ∧ (2 ≤ w.length → m ≤ 700) ∧ q (.tup (encT (Tr.cutT m t w))) G
theorem scLt : FnScope ["_law_tree_here", "_law_way", "_law_many", "_law_below", "_law_others", "_law_k"] ["_law_tree_here", "_law_way", "_law_many"] (defScope (top 43)) := ⟨rfl, rfl, rfl, by decide +kernel, rfl, by decide +kernel, by decide +kernel⟩
theorem fnLt (F : Fun K "_law_cut" "_law_cut" (top 43) f fd) (F1 : Fx P w K mg base "_law_at" ["_law_tree_here", "_law_way"] 1 spLa) (F2 : Fx P w K mg base "_law_without" ["_law_tree_here", "_law_at_here", "_law_others"] 1 spLq) (ml : mg "len" = none) (mr : mg "range" = none) : WFn P w K mg base 2 f fd ["_law_tree_here", "_law_way", "_law_many"] spLt := by
  have nd := scLt.nd
  refine fn3 F scLt (fun ws G q e h => by obtain ⟨_, _, _, rfl, _⟩ := h; rfl) (fun cdv A outer s H E hr => ?_)
  apply bodyOf
  · exact (qss_cons (qs_if (qt_cmp (q_eq4 hr) (qe_callB q_len rfl ml PySem.boot_len (qa_cons (qe_var 1 rfl (.inl rfl)) qa_nil)) qe_int (nomark _)) (qss_cons (qs_ret (qe_fxn F2 (Room.mono hr (by omega)) rfl (qa_cons (qe_var 0 rfl (.inl rfl)) (qa_cons (qe_ix q_ix (qe_var 1 rfl (.inl rfl)) qe_int (fun _ _ => rfl)) (qa_cons (qe_tup qa_nil) qa_nil))))) qss_nil) qss_nil) (qss_cons (qs_set 3 nd rfl (.inl rfl) (qe_fxn F1 (Room.mono hr (by omega)) rfl (qa_cons (qe_var 0 rfl (.inl rfl)) (qa_cons (qe_slice (qe_var 1 rfl (.inl rfl)) qo_none (qo_some (qe_neg qe_int))) qa_nil)))) (qss_cons (qs_set 4 nd rfl (.inl rfl) (qe_op q_mulT (qe_tup (qa_cons (qe_fxn F2 (Room.mono hr (by omega)) rfl (qa_cons (qe_var 3 rfl (.inl rfl)) (qa_cons (qe_ix q_ix (qe_var 1 rfl (.inl rfl)) (qe_neg qe_int) (fun _ _ => rfl)) (qa_cons (qe_tup qa_nil) qa_nil)))) qa_nil)) (qe_op q_add (qe_var 2 rfl (.inl rfl)) qe_int))) (qss_cons (qs_for PySem.PassesOwn.never rfl (qi_rangeG rfl mr (qa_cons (qe_op q_sub (qe_callB q_len rfl ml PySem.boot_len (qa_cons (qe_var 1 rfl (.inl rfl)) qa_nil)) qe_int) (qa_cons (qe_neg qe_int) (qa_cons (qe_neg qe_int) qa_nil)))) (qg_name 5 nd rfl (.inl rfl)) (qss_cons (qs_set 4 nd rfl (.inl rfl) (qe_tup (qa_cons (qe_fxn F2 (Room.mono hr (by omega)) rfl (qa_cons (qe_fxn F1 (Room.mono hr (by omega)) rfl (qa_cons (qe_var 0 rfl (.inl rfl)) (qa_cons (qe_slice (qe_var 1 rfl (.inl rfl)) qo_none (qo_some (qe_var 5 rfl (.inl rfl)))) qa_nil))) (qa_cons (qe_ix q_ix (qe_var 1 rfl (.inl rfl)) (qe_var 5 rfl (.inl rfl)) (fun _ _ => rfl)) (qa_cons (qe_var 4 rfl (.inl rfl)) qa_nil)))) qa_nil))) qss_nil)) (qss_cons (qs_ret (qe_ix q_ix (qe_var 4 rfl (.inl rfl)) qe_int (fun _ _ => rfl))) qss_nil)))))
  · rintro ws G q e ⟨t, w, m, rfl, hs, hw, hd, hp, hm, hq⟩
    have sp0 := Tr.subT_pts hs
    refine seqU fun U hU => ?_
    walk_at "R"
    rw [way_len]
    by_cases h1 : w.length = 1
    · rw [if_pos (by (clear F F1 F2 ml mr nd hr hs hw hd hp hm hq sp0 hU; omega))]
      match w, h1 with
      | [i], _ =>
        obtain ⟨b, h1, h2⟩ := Tr.subT_cons hs
        rw [Tr.cut_one] at hq
        refine ⟨_, atI_nat (j := 0) rfl, t, b, .z, i, rfl, h1, by exact Nat.le_trans (by assumption) (Nat.le_of_ble_eq_true rfl), by decide, ?_⟩
        exact GLe.done hq
    rw [if_neg (by (clear F F1 F2 ml mr nd hr hs hw hd hp hm hq sp0 hU; omega))]
    have hl2 : 2 ≤ w.length := by
      cases w with
      | nil => exact absurd rfl hw
      | cons i w => simp only [List.length_cons] at h1 ⊢; (clear F F1 F2 ml mr nd hr hd hp hU hs hw hm hq sp0; omega)
    have hm := hm hl2
    obtain ⟨n, hn⟩ : ∃ n, w.length = n + 2 := ⟨w.length - 2, by (clear F F1 F2 ml mr nd hr hs hw hd hp hq sp0 hU h1 hm; omega)⟩
    obtain ⟨s1, e1, e2⟩ := Tr.sub_prefix (w.length - 1) hs
    obtain ⟨p2, i1, ew, g1⟩ := Tr.sub_last hw hs e1
    have q1 := Tr.subT_pts e1
    have hi1 : w[n + 1]? = some i1 := by
      rw [ew, List.getElem?_append_right (by rw [List.length_take]; (clear F F1 F2 ml mr nd hr hs hw hd hp hq sp0 hU h1 hm e1 e2 p2 ew g1 q1; omega)), List.length_take, show n + 1 - min (w.length - 1) w.length = 0 by (clear F F1 F2 ml mr nd hr hs hw hd hp hq sp0 hU h1 hm e1 e2 p2 ew g1 q1; omega)]
      rfl
    subst hU
    refine seqU fun U hU => ?_
    walk_at "R"
    rw [cut_to1, way_len, show (wayW w).take (w.length - 1) = wayW (w.take (w.length - 1)) from List.map_take.symm]
    refine ⟨t, s1, _, rfl, e1, ?_⟩
    subst hU
    refine seqU fun U hU => ?_
    walk_at "R"
    have px := Tr.set_pts (u := .z) g1
    have pz : Tr.pts .z = 1 := rfl
    have pm : (m + 1) * (s1.setT i1 .z).pts ≤ 701 * 100 := Nat.mul_le_mul (by (clear F F1 F2 ml mr nd hr hs hw hd hp hq sp0 h1 hl2 hn e1 e2 p2 ew g1 q1 hi1 hU px pz; omega)) (by (clear F F1 F2 ml mr nd hr hs hw hd hq sp0 h1 hl2 hm hn e1 e2 p2 ew g1 hi1 hU pz; omega))
    refine ⟨_, atI_neg1 (by rw [way_len, show w.length - 1 = n + 1 by (clear F F1 F2 ml mr nd hr hs hw hd hp hq sp0 h1 hm e1 e2 p2 ew g1 q1 hi1 hU px pz pm; omega)]; exact way_get hi1), s1, .z, .z, i1, rfl, g1, by (clear F F1 F2 ml mr nd hr hs hw hd hq sp0 h1 hl2 hm hn e1 e2 p2 ew g1 hi1 hU pz pm; omega), by decide, ?_⟩
    refine ⟨by simp, by (clear F F1 F2 ml mr nd hr hs hw hd hp hq sp0 h1 hl2 hn e1 e2 p2 ew g1 q1 hi1 hU px pz pm; omega), by (clear F F1 F2 ml mr nd hr hs hw hd hp hq sp0 h1 hl2 hn e1 e2 p2 ew g1 q1 hi1 hU px pz pm; omega), by (clear F F1 F2 ml mr nd hr hs hw hd hp hq sp0 h1 hl2 hn e1 e2 p2 ew g1 q1 hi1 hU px pz pm; omega), ?_⟩
    rw [show ((m : Int) + 1).toNat = m + 1 by (clear F F1 F2 ml mr nd hr hs hw hd hp hq sp0 h1 hl2 hn e1 e2 p2 ew g1 q1 hi1 hU px pz pm; omega), ← encT_reps]
    subst hU
    refine seqU fun U hU => ?_
    walk_at "R"
    rw [way_len]
    refine ⟨.inr ⟨rfl, by (clear F F1 F2 ml mr nd hr hs hw hd hp hq sp0 h1 hm e1 e2 p2 ew g1 q1 hi1 px pz pm hU; omega), by (clear F F1 F2 ml mr nd hr hs hw hp hq h1 hl2 hm e1 e2 p2 ew g1 q1 hi1 px pz pm hU; omega), by (clear F F1 F2 ml mr nd hr hs hw hd hp hq sp0 h1 hl2 hm hn e1 e2 p2 ew g1 q1 hi1 px pz pm hU; omega), by (clear F F1 F2 ml mr nd hr hs hw hd hp hq sp0 h1 hl2 hm hn e1 e2 p2 ew g1 q1 hi1 px pz pm hU; omega)⟩, ?_⟩
    rw [rsz_down, show ((((w.length : Nat) : Int) - 2 - -1).toNat : Nat) = n + 1 by (clear F F1 F2 ml mr nd hr hs hw hd hp hq sp0 h1 hm e1 e2 p2 ew g1 q1 hi1 px pz pm hU; omega), Int.toNat_natCast]
    refine loop_upS _ _ (n + 1) (fun j τ G' => G' = G ∧ ∃ (u : Tr) (t5 : Option W), τ = [some (.tup (encT t)), some (.tup (wayW w)), some (.int (m : Int)), some (.tup (encT s1)), some (.tup (encT u)), t5] ∧ u.pts ≤ 80000 ∧ (j = 0 → u = (s1.setT i1 .z).reps (m + 1)) ∧ (0 < j → ∃ s2, Tr.subT t (w.take (n + 1 - j)) = some s2 ∧ u = .c (Tr.cutT m s2 (w.drop (n + 1 - j))) .z)) ⟨rfl, _, none, rfl, by rw [Tr.reps_pts]; (clear F F1 F2 ml mr nd hr hs hw hd hp hq sp0 h1 hl2 hm hn e1 e2 p2 ew g1 q1 hi1 px pz hU; omega), fun _ => rfl, fun h => by (clear F F1 F2 ml mr nd hr hs hw hd hp hq sp0 h1 hl2 hm hn e1 e2 p2 ew g1 q1 hi1 px pz pm hU; omega)⟩ ?_ ?_
    · rintro τ G' ⟨rfl, u, t5, rfl, _, _, hu⟩
      refine ⟨trivial, ?_⟩
      obtain ⟨s2, h2, rfl⟩ := hu (by (clear F F1 F2 ml mr nd hr hs hw hd hp sp0 h1 hm e1 e2 p2 ew g1 q1 hi1 px pz pm hU hq hu; omega))
      rw [Nat.sub_self, List.take_zero] at h2
      cases h2
      rw [Nat.sub_self, List.drop_zero]
      subst hU
      walk_at "R"
      exact ⟨_, atI_nat (j := 0) rfl, GLe.done hq⟩
    · rintro j τ G' kk hj ⟨rfl, u, t5, rfl, up, hu0, hu1⟩ hk
      refine ⟨trivial, ?_⟩
      rw [show ((w.length : Nat) : Int) - 2 + (j : Int) * -1 = ((n - j : Nat) : Int) by (clear F F1 F2 ml mr nd hr hs hw hd hp sp0 h1 hl2 hm e1 e2 p2 ew g1 q1 hi1 px pz pm hU hq up hu0 hu1 hk; omega)]
      obtain ⟨i, hi⟩ : ∃ i, w[n - j]? = some i := ⟨w[n - j]'(by (clear F F1 F2 ml mr nd hr hs hw hd hp sp0 h1 hl2 hm e1 e2 p2 ew g1 q1 hi1 px pz pm hU hq up hu0 hu1 hk; omega)), List.getElem?_eq_getElem (by (clear F F1 F2 ml mr nd hr hs hw hd hp sp0 h1 hl2 hm e1 e2 p2 ew g1 q1 hi1 px pz pm hU hq up hu0 hu1 hk; omega))⟩
      obtain ⟨s3, f1, f2⟩ := Tr.sub_prefix (n - j) hs
      have fd : w.drop (n - j) = i :: w.drop (n - j + 1) := by
        rw [List.drop_eq_getElem_cons (by (clear F F1 F2 ml mr nd hr hs hw hd hp sp0 h1 hl2 hm e1 e2 p2 ew g1 q1 hi1 px pz pm hU hq up hu0 hu1 hk hi f1 f2; omega))]
        rw [List.getElem?_eq_getElem (by (clear F F1 F2 ml mr nd hr hs hw hd hp sp0 h1 hl2 hm e1 e2 p2 ew g1 q1 hi1 px pz pm hU hq up hu0 hu1 hk hi f1 f2; omega))] at hi
        rw [Option.some.inj hi]
      rw [fd] at f2
      obtain ⟨b, f3, f4⟩ := Tr.subT_cons f2
      have f5 := Tr.sub_next f1 hi
      rw [f3] at f5
      have q3 := Tr.subT_pts f1
      have ec : s3.setT i u = Tr.cutT m s3 (w.drop (n - j)) := by
        rw [fd]
        by_cases j0 : j = 0
        · subst j0
          have e5 : b = s1 := by
            rw [Nat.sub_zero, show n + 1 = w.length - 1 by (clear F F1 F2 ml mr nd hr hs hw hd hp sp0 h1 hm e1 e2 p2 ew g1 q1 hi1 px pz pm hU hq up f3 hj hu0 hu1 hk hi f1 f2 fd f4 f5 q3; omega), e1] at f5
            exact (Option.some.inj f5).symm
          subst e5
          have e6 : w.drop (n - 0 + 1) = [i1] := by
            rw [Nat.sub_zero, List.drop_eq_getElem_cons (by (clear F F1 F2 ml mr nd hr hs hw hd hp sp0 h1 hl2 hm ew hi1 pz hU hq up f3 hj hu1 hi f1 f2 fd f4 f5 q3 e1 e2 p2 g1 q1 px pm hu0 hk; omega)), List.drop_eq_nil_of_le (by (clear F F1 F2 ml mr nd hr hs hw hd hp sp0 h1 hl2 hm ew hi1 pz hU hq up f3 hj hu1 hi f1 f2 fd f4 f5 q3 e1 e2 p2 g1 q1 px pm hu0 hk; omega))]
            rw [List.getElem?_eq_getElem (by (clear F F1 F2 ml mr nd hr hs hw hd hp sp0 h1 hl2 hm ew hi1 pz hU hq up f3 hj hu1 hi f1 f2 fd f4 f5 q3 e1 e2 p2 g1 q1 px pm hu0 hk; omega))] at hi1
            rw [Option.some.inj hi1]
          rw [e6, Tr.cut_two f3, hu0 rfl, Nat.add_comm 1 m]
        · obtain ⟨s2, h2, rfl⟩ := hu1 (by (clear F F1 F2 ml mr nd hr hs hw hd hp sp0 h1 hl2 hm hn e1 e2 p2 ew g1 q1 hi1 px pz pm hU hj hq up hu0 hu1 hk hi f1 f2 fd f3 f4 f5 q3; omega))
          rw [show n + 1 - j = n - j + 1 by omega, f5] at h2
          cases h2
          rw [show n + 1 - j = n - j + 1 by (clear F F1 F2 ml mr nd hr hs hw hd hp sp0 h1 hl2 hm hn e1 e2 p2 ew g1 q1 hi1 px pz pm hU hq hk hi f1 f2 fd f3 f4 f5 q3 j0 up hu0 hu1; omega)]
          have l3 : 2 ≤ (w.drop (n - j + 1)).length := by rw [List.length_drop]; (clear F F1 F2 ml mr nd hr hs hw hd hp sp0 h1 hl2 hm e1 e2 p2 ew g1 q1 hi1 px pz pm hU hq hk hi f1 f2 fd f3 f4 f5 q3 up; omega)
          match h9 : w.drop (n - j + 1), l3 with
          | a1 :: a2 :: r, _ => rw [Tr.cut_more f3]
      have wne : w.drop (n - j) ≠ [] := by rw [fd]; exact fun z => by cases z
      obtain ⟨_, c2, _⟩ := Tr.cut_ok (m := m) (w := w.drop (n - j)) (t := s3) wne (by rw [fd]; exact f2)
      have c3 : (m + 1) * s3.pts ≤ 701 * 100 := Nat.mul_le_mul (by omega) (by omega)
      walk_at "R"
      rw [cut_to, show (wayW w).take (n - j) = wayW (w.take (n - j)) from List.map_take.symm]
      refine ⟨t, s3, _, rfl, f1, _, atI_nat (way_get hi), s3, b, u, i, rfl, f3, by omega, up, ?_⟩
      rw [ec]
      exact hk _ _ ⟨rfl, .c _ .z, _, rfl, by show _ + 1 ≤ _; omega, fun h => by omega, fun _ => ⟨s3, by rw [show n + 1 - (j + 1) = n - j by omega]; exact f1, by rw [show n + 1 - (j + 1) = n - j by omega]⟩⟩
noncomputable def trsW (ts : List Tr) : List W := ts.map fun t => .tup (encT t)
theorem enc_trs : ∀ l : List Tr, encT (Tr.ofL l) = trsW l
  | [] => rfl
  | b :: l => by
    show W.tup (encT b) :: encT (Tr.ofL l) = _
    rw [enc_trs l]
    rfl
theorem trs_get {ts : List Tr} {i : Nat} {t : Tr} (h : ts[i]? = some t) : (trsW ts)[i]? = some (.tup (encT t)) := by
  unfold trsW
  rw [List.getElem?_map, h]; rfl
theorem trs_len (ts : List Tr) : (trsW ts).length = ts.length := List.length_map _
theorem trs_of {ts : List Tr} {i : Nat} {w : W} (h : (trsW ts)[i]? = some w) : ∃ t, ts[i]? = some t ∧ w = .tup (encT t) := by
  unfold trsW at h
  rw [List.getElem?_map] at h
  cases e : ts[i]? with
  | none => rw [e] at h; cases h
  | some t => rw [e] at h; cases h; exact ⟨t, rfl, rfl⟩
noncomputable def PlayAt (C : Addr) (G : Gp) (p a b : Addr) (ts : List Tr) : Prop := G p = some (.ins C [("met", .ref a), ("reached", .ref b)]) ∧ G a = some (.lst (trsW ts)) ∧ G b = some (.lst (nums (ts.map Tr.nO))) ∧ a ≠ b
noncomputable def Kept (a b : Addr) (G G' : Gp) : Prop := ∀ x g, x ≠ a → x ≠ b → G x = some g → G' x = some g
theorem PlayAt.pa {C : Addr} {G : Gp} {p a b : Addr} {ts : List Tr} (h : PlayAt C G p a b ts) : p ≠ a ∧ p ≠ b := by
  obtain ⟨h1, h2, h3, _⟩ := h
  refine ⟨fun z => ?_, fun z => ?_⟩
  · rw [z, h2] at h1; cases h1
  · rw [z, h3] at h1; cases h1
theorem trs_app (ts : List Tr) (t : Tr) : trsW (ts ++ [t]) = trsW ts ++ [.tup (encT t)] := by
  unfold trsW
  rw [List.map_append]
  rfl
theorem nums_app (ts : List Tr) (t : Tr) : nums ((ts ++ [t]).map Tr.nO) = nums (ts.map Tr.nO) ++ [.tup (encP t.nO)] := by
  unfold nums
  rw [List.map_append, List.map_append]
  rfl
theorem at_end (xs : List W) (x : W) : atI (xs ++ [x]) (-1) = some x := atI_neg1 (by simp)
noncomputable def spIt (C : Addr) : WSp := fun ws G q _ => ∃ (p : Addr) (t : Tr), ws = [.ref p, .tup (encT t)] ∧ G p = some (.ins C []) ∧ t.dp < 40 ∧ t.pts ≤ 900 ∧ ∀ (a b : Addr) (G' : Gp), G a = none → G b = none → (∀ x g, x ≠ p → G x = some g → G' x = some g) → PlayAt C G' p a b [t] → q .non G'
theorem scIt : FnScope ["self", "tree"] ["self", "tree"] (defScope (mtd 31 0)) := ⟨rfl, rfl, rfl, by decide +kernel, rfl, by decide +kernel, by decide +kernel⟩
theorem fnIt {C : Addr} (F : Fun K "__init__" "Play.__init__" (mtd 31 0) f fd) (F1 : Fx P w K mg base "number_of" ["tree"] 42 (spNo 40)) (hc : Cls K C) (h1 : NoAttr K C "met") (h2 : NoAttr K C "reached") : WFn P w K mg base 43 f fd ["self", "tree"] (spIt C) := by
  have nd := scIt.nd
  refine fn3 F scIt (fun ws G q e h => by obtain ⟨_, _, rfl, _⟩ := h; rfl) (fun cdv A outer s H E hr => ?_)
  apply bodyOf
  · exact (qss_cons (qs_fld (qe_var 0 rfl (.inl rfl)) (qe_lst (qa_cons (qe_var 1 rfl (.inl rfl)) qa_nil))) (qss_cons (qs_fld (qe_var 0 rfl (.inl rfl)) (qe_lst (qa_cons (qe_fxn F1 (Room.mono hr (by omega)) rfl (qa_cons (qe_var 1 rfl (.inl rfl)) qa_nil)) qa_nil))) qss_nil))
  · rintro ws G q e ⟨p, t, rfl, hp, hd, hpt, hq⟩
    refine seqU fun U hU => ?_
    walk_at "R"
    intro a ha
    have pa : p ≠ a := fun z => by rw [z, ha] at hp; cases hp
    refine ⟨p, C, [], rfl, by rw [updG_ne pa]; exact hp, ⟨hc, h1⟩, by decide, ?_⟩
    subst hU
    walk_at "R"
    refine ⟨t, rfl, hd, hpt, ?_⟩
    intro b hb
    have pb : p ≠ b := fun z => by rw [← z, updG_same] at hb; cases hb
    have hb' : updG G a (.lst [.tup (encT t)]) b = none := by rw [updG_ne pb.symm] at hb; exact hb
    have ab : a ≠ b := fun z => by rw [← z, updG_same] at hb'; cases hb'
    have gb : G b = none := by rw [updG_ne ab.symm] at hb'; exact hb'
    refine ⟨p, C, _, rfl, by rw [updG_ne pb, updG_same], ⟨hc, h2⟩, by simp [putW], GLe.done (hq a b _ ha gb (fun x g hx hg => ?_) ⟨?_, ?_, ?_, ab⟩)⟩
    · have xa : x ≠ a := fun z => by rw [z, ha] at hg; cases hg
      have xb : x ≠ b := fun z => by rw [z, gb] at hg; cases hg
      rw [updG_ne hx, updG_ne xb, updG_ne hx, updG_ne xa]
      exact hg
    · rw [updG_same]
      rfl
    · rw [updG_ne pa.symm, updG_ne ab, updG_ne pa.symm, updG_same]
      rfl
    · rw [updG_ne pb.symm, updG_same]
      rfl
noncomputable def spMt (C : Addr) : WSp := fun ws G q _ => ∃ (p a b : Addr) (ts : List Tr) (t : Tr), ws = [.ref p] ∧ PlayAt C G p a b (ts ++ [t]) ∧ q (.tup (encT t)) G
theorem scMt : FnScope ["self"] ["self"] (defScope (mtd 31 1)) := ⟨rfl, rfl, rfl, by decide +kernel, rfl, by decide +kernel, by decide +kernel⟩
theorem fnMt {C : Addr} (F : Fun K "tree" "Play.tree" (mtd 31 1) f fd) (hc : Cls K C) (h1 : NoAttr K C "met") : WFn P w K mg base 1 f fd ["self"] (spMt C) := by
  have nd := scMt.nd
  refine fn3 F scMt (fun ws G q e h => by obtain ⟨_, _, _, _, _, rfl, _⟩ := h; rfl) (fun cdv A outer s H E hr => ?_)
  apply bodyOf
  · exact (qss_cons (qs_ret (qe_ix q_ix (qe_fld (qe_var 0 rfl (.inl rfl))) (qe_neg qe_int) (fun _ _ => rfl))) qss_nil)
  · rintro ws G q e ⟨p, a, b, ts, t, rfl, hP, hq⟩
    walk_at "R"
    refine ⟨p, C, _, .ref a, rfl, hP.1, ⟨hc, h1⟩, rfl, ?_⟩
    exact ⟨_, _, hP.2.1, by rw [trs_app]; exact at_end _ _, GLe.done hq⟩
structure CutQ (t : Tr) (w : List Nat) (s : Tr) : Prop where
  z : Tr.subT t w = some .z
  ne : w ≠ []
  s : Tr.subT t (w.take (w.length - 1)) = some s
inductive CutC (C0 C1 C2 : Addr) (t : Tr) (G : Gp) (x y : W) (e : Value → Prop) (ok : List Nat → Nat → Prop) : Prop where
  | odd (h : oddW t G x) (he : e (.ref C0)) : CutC C0 C1 C2 t G x y e ok
  | num {w : List Nat} {s : Tr} (hx : x = .tup (wayW w)) (h : CutQ t w s) (k1 : whK y) (k2 : whB y 0 = false) (he : e (.ref C1)) : CutC C0 C1 C2 t G x y e ok
  | great {w : List Nat} {s : Tr} {m : Nat} (hx : x = .tup (wayW w)) (h : CutQ t w s) (hy : y = .int (m : Int)) (hm : m ≤ 10 ^ 12) (hl : 600 < leftT t s w m) (he : e (.ref C2)) : CutC C0 C1 C2 t G x y e ok
  | ok {w : List Nat} {s : Tr} {m : Nat} (hx : x = .tup (wayW w)) (h : CutQ t w s) (hy : y = .int (m : Int)) (hm : m ≤ 700) (hl : leftT t s w m ≤ 600) (hq : ok w m) : CutC C0 C1 C2 t G x y e ok
noncomputable def spCu (C0 C1 C2 : Addr) : WSp := fun ws G q e => ∃ (t : Tr) (x y : W), ws = [.tup (encT t), x, y] ∧ t.dp < 40 ∧ t.pts ≤ 100 ∧ CutC C0 C1 C2 t G x y (fun c => e c G) fun w m => q (.tup (encT (Tr.cutT m t w))) G
theorem scCu : FnScope ["tree", "way", "many"] ["tree", "way", "many"] (defScope (top 24)) := ⟨rfl, rfl, rfl, by decide +kernel, rfl, by decide +kernel, by decide +kernel⟩
theorem rnCu {C0 C1 C2 : Addr} {bm0 bm1 bm2 : List Value} {tk : Tok} {T : Addr} {ds : List Value} (F : FunD K "cut" "cut" (top 24) f fd T ds) (F1 : Fx P w K mg base "is_head" ["tree", "way"] 2 spIh) (F2 : Fxd P w K mg base "is_whole" ["thing", "least"] 1 spWh [.int 0]) (F3 : Fx P w K mg base "points_left" ["tree", "way", "many"] 41 spPl) (F4 : Fx P w K mg base "without_branch" ["tree", "place"] 1 spWb) (F5 : Fx P w K mg base "cut_and_grown" ["tree", "way", "many"] 41 (spCg 40)) (hM : mg "MOST_POINTS" = some (.int 600 tk)) (ml : mg "len" = none) (m0 : mg "NoHead" = some (.ref C0)) (x0 : XC K C0 bm0) (m1 : mg "NoNumber" = some (.ref C1)) (x1 : XC K C1 bm1) (m2 : mg "TooGreat" = some (.ref C2)) (x2 : XC K C2 bm2) : RFn P w K mg base 42 f fd ["tree", "way", "many"] (spCu C0 C1 C2) := by
  have nd := scCu.nd
  refine fn3DR F scCu (fun ws G q e h => by obtain ⟨_, _, _, rfl, _⟩ := h; rfl) (fun cdv A outer s H E ws G q e hr hsp hE => ?_)
  apply bodyOf
  · refine' qss_cons (qs_if ?c1 (qss_one (qs_raise m0 x0 (fun H1 G1 => hE (.ref C0) H1 G1) rfl)) qss_nil) (qss_cons (qs_if ?c2 (qss_one (qs_raise m1 x1 (fun H1 G1 => hE (.ref C1) H1 G1) rfl)) qss_nil) (qss_cons (qs_if ?c3 (qss_one (qs_raise m2 x2 (fun H1 G1 => hE (.ref C2) H1 G1) rfl)) qss_nil) ?s5))
    case c1 => exact (qt_not (qt_val (qe_fxn F1 (Room.mono hr (by omega)) rfl (qa_cons (qe_var 0 rfl (.inl rfl)) (qa_cons (qe_var 1 rfl (.inl rfl)) qa_nil)))))
    case c2 => exact (qt_not (qt_val (qe_fxd F2 (Room.mono hr (by omega)) rfl (qa_cons (qe_var 2 rfl (.inl rfl)) qa_nil))))
    case c3 => exact (qt_cmp q_gt (qe_fxn F3 (Room.mono hr (by omega)) rfl (qa_cons (qe_var 0 rfl (.inl rfl)) (qa_cons (qe_var 1 rfl (.inl rfl)) (qa_cons (qe_var 2 rfl (.inl rfl)) qa_nil)))) (qe_gint rfl hM) (nomark _))
    case s5 => exact (qss_cons (qs_if (qt_cmp (q_eq4 hr) (qe_callB q_len rfl ml PySem.boot_len (qa_cons (qe_var 1 rfl (.inl rfl)) qa_nil)) qe_int (nomark _)) (qss_cons (qs_ret (qe_fxn F4 (Room.mono hr (by omega)) rfl (qa_cons (qe_var 0 rfl (.inl rfl)) (qa_cons (qe_ix q_ix (qe_var 1 rfl (.inl rfl)) qe_int (fun _ _ => rfl)) qa_nil)))) qss_nil) qss_nil) (qss_cons (qs_ret (qe_fxn F5 (Room.mono hr (by omega)) rfl (qa_cons (qe_var 0 rfl (.inl rfl)) (qa_cons (qe_var 1 rfl (.inl rfl)) (qa_cons (qe_var 2 rfl (.inl rfl)) qa_nil))))) qss_nil))
  · obtain ⟨t, x, y, rfl, hd, hp, hxy⟩ := hsp
    refine seqU fun U hU => ?_
    walk_at "R"
    have way : ∀ {w : List Nat} {s : Tr}, CutQ t w s → (whK y ∧ whB y 0 = false ∧ e (.ref C1) G ∨ ∃ m : Nat, y = .int (m : Int) ∧ m ≤ 10 ^ 12 ∧ (600 < leftT t s w m ∧ e (.ref C2) G ∨ leftT t s w m ≤ 600 ∧ m ≤ 700 ∧ q (.tup (encT (Tr.cutT m t w))) G)) → U { nx := fun x G1 => ∃ G0, GLe G0 G1 ∧ q W.non G0, rt := fun w G1 => ∃ G0, GLe G0 G1 ∧ q w G0 } [some (.tup (encT t)), some (.tup (wayW w)), some y] G := fun {w s0} hc hy => by
      obtain ⟨hs, hw, h0⟩ := hc
      subst hU
      refine seqU fun U hU => ?_
      walk_at "R"
      rcases hy with ⟨k1, k2, he⟩ | ⟨m, rfl, hm, hy⟩
      · refine ⟨_, _, rfl, k1, ?_⟩
        rw [k2]
        exact he
      refine ⟨_, _, rfl, trivial, ?_⟩
      rw [show whB (.int (m : Int)) 0 = true from by simp [whB]]
      walk_at "R"
      subst hU
      refine seqU fun U hU => ?_
      walk_at "R"
      refine ⟨t, s0, w, m, rfl, h0, hd, hp, Nat.le_trans hm (by decide), ?_⟩
      walk_at "R"
      rcases hy with ⟨hl, he⟩ | ⟨hl, hm7, hq⟩
      · rw [if_pos (by (clear F F1 F2 F3 F4 F5 hM ml m0 x0 m1 x1 m2 x2 nd hr hE hd hp hs hw h0 hxy hm hU he; omega))]
        exact he
      rw [if_neg (by (clear F F1 F2 F3 F4 F5 hM ml m0 x0 m1 x1 m2 x2 nd hr hE hd hp hs hw h0 hxy hm hU hm7 hq; omega))]
      subst hU
      refine seqU fun U hU => ?_
      walk_at "R"
      rw [way_len]
      cases w with
      | nil => exact absurd rfl hw
      | cons i w =>
        cases w with
        | nil =>
          obtain ⟨b, h1, h2⟩ := Tr.subT_cons hs
          rw [if_pos (by simp only [List.length_cons, List.length_nil]; rfl)]
          rw [Tr.cut_one] at hq
          refine ⟨_, atI_nat (j := 0) rfl, t, b, i, rfl, h1, by exact Nat.le_trans (by assumption) (Nat.le_of_ble_eq_true rfl), ?_⟩
          exact GLe.done hq
        | cons j w =>
          rw [if_neg (by simp only [List.length_cons]; (clear F F1 F2 F3 F4 F5 hM ml m0 x0 m1 x1 m2 x2 nd hr hE hd hp hxy hm hm7 hU hs hw h0 hl hq; omega))]
          subst hU
          walk_at "R"
          exact ⟨t, i :: j :: w, m, rfl, hs, by simp, hd, hp, hm7, GLe.done hq⟩
    cases hxy with
    | odd ho he =>
      refine ⟨t, x, rfl, by (clear F F1 F2 F3 F4 F5 hM ml m0 x0 m1 x1 m2 x2 nd hr hE hp hU way ho he; omega), .inr ⟨ho, ?_⟩⟩
      exact he
    | @num w s0 hx hc k1 k2 he =>
      subst hx
      refine ⟨t, _, rfl, by (clear F F1 F2 F3 F4 F5 hM ml m0 x0 m1 x1 m2 x2 nd hr hE hp hU way hc k1 k2 he; omega), .inl ⟨w, rfl, hc.z, hc.ne, ?_⟩⟩
      walk_at "R"
      exact way hc (.inl ⟨k1, k2, he⟩)
    | @great w s0 m hx hc hy hm hl he =>
      subst hx
      refine ⟨t, _, rfl, by (clear F F1 F2 F3 F4 F5 hM ml m0 x0 m1 x1 m2 x2 nd hr hE hp hU way hc hy hm hl he; omega), .inl ⟨w, rfl, hc.z, hc.ne, ?_⟩⟩
      walk_at "R"
      exact way hc (.inr ⟨m, hy, hm, .inl ⟨hl, he⟩⟩)
    | @ok w s0 m hx hc hy hm hl hq =>
      subst hx
      refine ⟨t, _, rfl, by (clear F F1 F2 F3 F4 F5 hM ml m0 x0 m1 x1 m2 x2 nd hr hE hp hU way hc hy hm hl hq; omega), .inl ⟨w, rfl, hc.z, hc.ne, ?_⟩⟩
      walk_at "R"
      exact way hc (.inr ⟨m, hy, Nat.le_trans hm (by decide), .inr ⟨hl, hm, hq⟩⟩)
theorem oddW_le {t : Tr} {G G' : Gp} {x : W} (le : GLe G G') (h : oddW t G x) : oddW t G' x := by
  rcases h with h | h | h | ⟨p, ws, h, hp⟩ | h | h | h
  · exact .inl h
  · exact .inr (.inl h)
  · exact .inr (.inr (.inl h))
  · exact .inr (.inr (.inr (.inl ⟨p, ws, h, le _ _ hp⟩)))
  · exact .inr (.inr (.inr (.inr (.inl h))))
  · exact .inr (.inr (.inr (.inr (.inr (.inl h)))))
  · exact .inr (.inr (.inr (.inr (.inr (.inr h)))))
noncomputable def spNs (C : Addr) : WSp := fun ws G q _ => ∃ (p a b : Addr) (ts : List Tr), ws = [.ref p] ∧ PlayAt C G p a b ts ∧ ∀ (c : Addr), G c = none → q (.ref c) (updG G c (.lst (nums (ts.map Tr.nO))))
theorem scNs : FnScope ["self"] ["self"] (defScope (mtd 31 4)) := ⟨rfl, rfl, rfl, by decide +kernel, rfl, by decide +kernel, by decide +kernel⟩
theorem fnNs {C : Addr} (F : Fun K "numbers" "Play.numbers" (mtd 31 4) f fd) (hc : Cls K C) (h2 : NoAttr K C "reached") (ml : mg "list" = none) : WFn P w K mg base 1 f fd ["self"] (spNs C) := by
  have nd := scNs.nd
  refine fn3 F scNs (fun ws G q e h => by obtain ⟨_, _, _, _, rfl, _⟩ := h; rfl) (fun cdv A outer s H E hr => ?_)
  apply bodyOf
  · exact (qss_cons (qs_ret (qe_callTy q_list rfl ml b_list (qa_cons (qe_fld (qe_var 0 rfl (.inl rfl))) qa_nil))) qss_nil)
  · rintro ws G q e ⟨p, a, b, ts, rfl, hP, hq⟩
    walk_at "R"
    refine ⟨p, C, _, .ref b, rfl, hP.1, ⟨hc, h2⟩, rfl, ?_⟩
    exact ⟨_, hP.2.2.1, fun c h => GLe.done (hq c h)⟩
theorem CutC.imp {C0 C1 C2 : Addr} {t : Tr} {G : Gp} {x y : W} {e e' : Value → Prop} {ok ok' : List Nat → Nat → Prop} (h : CutC C0 C1 C2 t G x y e ok) (he : ∀ c, e c → e' c) (ho : ∀ w m s, CutQ t w s → leftT t s w m ≤ 600 → m ≤ 700 → ok w m → ok' w m) : CutC C0 C1 C2 t G x y e' ok' := by
  cases h with
  | odd h hh => exact .odd h (he _ hh)
  | num hx h k1 k2 hh => exact .num hx h k1 k2 (he _ hh)
  | great hx h hy hm hl hh => exact .great hx h hy hm hl (he _ hh)
  | ok hx h hy hm hl hq => exact .ok hx h hy hm hl (ho _ _ _ h hl hm hq)
noncomputable def spMc (C C0 C1 C2 : Addr) : WSp := fun ws G q e => ∃ (p a b : Addr) (ts : List Tr) (t : Tr) (x y : W), ws = [.ref p, x, y] ∧ PlayAt C G p a b (ts ++ [t]) ∧ t.dp < 39 ∧ t.pts ≤ 100 ∧ ts.length ≤ 1000 ∧
  CutC C0 C1 C2 t G x y (fun c => e c G) fun w m => (Tr.cutT m t w).pts ≤ 900 ∧ ∀ G', PlayAt C G' p a b ((ts ++ [t]) ++ [Tr.cutT m t w]) → Kept a b G G' → q (.tup (encP (Tr.nO (Tr.cutT m t w)))) G'
theorem scMc : FnScope ["self", "way", "many", "grown"] ["self", "way", "many"] (defScope (mtd 31 2)) := ⟨rfl, rfl, rfl, by decide +kernel, rfl, by decide +kernel, by decide +kernel⟩
theorem rnMc {C C0 C1 C2 : Addr} {T : Addr} {ds : List Value} (F : FunD K "cut" "Play.cut" (mtd 31 2) f fd T ds) (F1 : Fx P w K mg base "number_of" ["tree"] 42 (spNo 40)) (F2 : Rx P w K mg base "cut_trees" ["tree", "way", "many"] 42 (spCu C0 C1 C2) []) (hc : Cls K C) (h1 : NoAttr K C "met") (h2 : NoAttr K C "reached") : RFn P w K mg base 43 f fd ["self", "way", "many"] (spMc C C0 C1 C2) := by
  have nd := scMc.nd
  refine fn3DR F scMc (fun ws G q e h => by obtain ⟨_, _, _, _, _, _, _, rfl, _⟩ := h; rfl) (fun cdv A outer s H E ws G q e hr hsp hE => ?_)
  apply bodyOf
  · exact (qss_cons (qs_set 3 nd rfl (.inl rfl) (qe_callX F2 (Room.mono hr (by omega)) hE rfl (qa_cons (qe_ix q_ix (qe_fld (qe_var 0 rfl (.inl rfl))) (qe_neg qe_int) (fun _ _ => rfl)) (qa_cons (qe_var 1 rfl (.inl rfl)) (qa_cons (qe_var 2 rfl (.inl rfl)) qa_nil))))) (qss_cons (qs_expr (qe_app (qe_fld (qe_var 0 rfl (.inl rfl))) (qe_var 3 rfl (.inl rfl)))) (qss_cons (qs_expr (qe_app (qe_fld (qe_var 0 rfl (.inl rfl))) (qe_fxn F1 (Room.mono hr (by omega)) rfl (qa_cons (qe_var 3 rfl (.inl rfl)) qa_nil)))) (qss_cons (qs_ret (qe_ix q_ix (qe_fld (qe_var 0 rfl (.inl rfl))) (qe_neg qe_int) (fun _ _ => rfl))) qss_nil))))
  · obtain ⟨p, a, b, ts, t, x, y, rfl, hP, hd, hp, hts, hC⟩ := hsp
    refine seqU fun U hU => ?_
    walk_at "R"
    refine ⟨p, C, _, .ref a, rfl, hP.1, ⟨hc, h1⟩, rfl, ?_⟩
    refine ⟨_, _, hP.2.1, by rw [trs_app]; exact at_end _ _, t, x, y, rfl, by exact Nat.le_trans (by assumption) (Nat.le_of_ble_eq_true rfl), hp, hC.imp (fun _ h => h) fun w0 m s0 hQ hl hm7 hok => ?_⟩
    obtain ⟨hpt, hq⟩ := hok
    have ck := Tr.cut_ok (m := m) hQ.ne hQ.z
    subst hU
    refine seqU fun U hU => ?_
    walk_at "R"
    obtain ⟨hp1, hp2, hp3, hab⟩ := hP
    have pab := PlayAt.pa ⟨hp1, hp2, hp3, hab⟩
    refine ⟨p, C, _, .ref a, rfl, hp1, ⟨hc, h1⟩, rfl, ?_⟩
    refine ⟨⟨_, hp2⟩, _, hp2, by rw [trs_len]; simp only [List.length_append, List.length_cons, List.length_nil]; (clear F F1 F2 hc h1 h2 nd hr hE hd hp hC hQ hl hm7 hpt hq ck hU hp1 hp2 hp3 hab pab; omega), ?_⟩
    rw [← trs_app]
    have hp1' : updG G a (.lst (trsW ((ts ++ [t]) ++ [Tr.cutT m t w0]))) p = _ := (updG_ne pab.1).trans hp1
    have hp2' : updG G a (.lst (trsW ((ts ++ [t]) ++ [Tr.cutT m t w0]))) a = _ := updG_same
    have hp3' : updG G a (.lst (trsW ((ts ++ [t]) ++ [Tr.cutT m t w0]))) b = _ := (updG_ne hab.symm).trans hp3
    have kp : ∀ x g, x ≠ a → G x = some g → updG G a (.lst (trsW ((ts ++ [t]) ++ [Tr.cutT m t w0]))) x = some g := fun x g hx hg => (updG_ne hx).trans hg
    generalize updG G a (.lst (trsW ((ts ++ [t]) ++ [Tr.cutT m t w0]))) = G1 at hp1' hp2' hp3' kp ⊢
    subst hU
    refine seqU fun U hU => ?_
    walk_at "R"
    refine ⟨p, C, _, .ref b, rfl, hp1', ⟨hc, h2⟩, rfl, ?_⟩
    refine ⟨⟨_, hp3'⟩, Tr.cutT m t w0, rfl, by (clear F F1 F2 hc h1 h2 nd hr hE hp hts hC hQ hl hm7 hpt hq hp1 hp2 hp3 hab pab hp1' hp2' hp3' kp hU; omega), hpt, _, hp3', ?_, ?_⟩
    · rw [nums_length, List.length_map, List.length_append]; simp only [List.length_cons, List.length_nil]; (clear F F1 F2 hc h1 h2 nd hr hE hd hp hC hQ hl hm7 hpt hq ck hp1 hp2 hp3 hab pab hp1' hp2' hp3' kp hU; omega)
    rw [← nums_app]
    subst hU
    walk_at "R"
    refine ⟨p, C, _, .ref b, rfl, (updG_ne pab.2).trans hp1', ⟨hc, h2⟩, rfl, ?_⟩
    refine ⟨_, _, updG_same, by rw [nums_app]; exact at_end _ _, GLe.done (hq _ ⟨(updG_ne pab.2).trans hp1', (updG_ne hab).trans hp2', updG_same, hab⟩ fun x g xa xb hg => ?_)⟩
    rw [updG_ne xb]
    exact kp x g xa hg
noncomputable def spBk (C C4 : Addr) : WSp := fun ws G q e => ∃ (p a b : Addr) (ts : List Tr) (t : Tr), ws = [.ref p] ∧ PlayAt C G p a b (ts ++ [t]) ∧ (ts = [] → e (.ref C4) G) ∧ ∀ ts' u, ts = ts' ++ [u] → ∀ G', PlayAt C G' p a b (ts' ++ [u]) → Kept a b G G' → q (.tup (encP u.nO)) G'
theorem scBk : FnScope ["self"] ["self"] (defScope (mtd 31 3)) := ⟨rfl, rfl, rfl, by decide +kernel, rfl, by decide +kernel, by decide +kernel⟩
theorem rnBk {C C4 : Addr} {bm4 : List Value} (F : Fun K "back" "Play.back" (mtd 31 3) f fd) (hc : Cls K C) (h1 : NoAttr K C "met") (h2 : NoAttr K C "reached") (ml : mg "len" = none) (m4 : mg "NoStep" = some (.ref C4)) (x4 : XC K C4 bm4) : RFn P w K mg base 1 f fd ["self"] (spBk C C4) := by
  have nd := scBk.nd
  refine fn3R (k := 0) F scBk (fun ws G q e h => by obtain ⟨_, _, _, _, _, rfl, _⟩ := h; rfl) (fun cdv A outer s H E ws G q e hr hsp hE => ?_)
  apply bodyOf
  · refine' qss_cons (qs_if ?c1 (qss_one (qs_raise m4 x4 (fun H1 G1 => hE (.ref C4) H1 G1) rfl)) qss_nil) ?s2
    case c1 => exact (qt_cmp (q_eq4 hr) (qe_callB q_len rfl ml PySem.boot_len (qa_cons (qe_fld (qe_var 0 rfl (.inl rfl))) qa_nil)) qe_int (nomark _))
    case s2 => exact (qss_cons (qs_expr (qe_pop (qe_fld (qe_var 0 rfl (.inl rfl))))) (qss_cons (qs_expr (qe_pop (qe_fld (qe_var 0 rfl (.inl rfl))))) (qss_cons (qs_ret (qe_ix q_ix (qe_fld (qe_var 0 rfl (.inl rfl))) (qe_neg qe_int) (fun _ _ => rfl))) qss_nil)))
  · obtain ⟨p, a, b, ts, t, rfl, hP, he, hq⟩ := hsp
    refine seqU fun U hU => ?_
    walk_at "R"
    refine ⟨p, C, _, .ref a, rfl, hP.1, ⟨hc, h1⟩, rfl, ?_⟩
    refine ⟨_, hP.2.1, ?_⟩
    rcases List.eq_nil_or_concat ts with rfl | ⟨ts', u, rfl⟩
    · rw [trs_len, if_pos (by simp)]
      exact he rfl
    rw [List.concat_eq_append] at hP hq
    rw [trs_len, if_neg (by simp only [List.length_append, List.length_cons, List.length_nil, List.concat_eq_append]; (clear F hc h1 h2 ml m4 x4 nd hr hE hU hP he hq; omega))]
    subst hU
    refine seqU fun U hU => ?_
    walk_at "R"
    obtain ⟨hp1, hp2, hp3, hab⟩ := hP
    have pab := PlayAt.pa ⟨hp1, hp2, hp3, hab⟩
    rw [trs_app] at hp2
    rw [nums_app] at hp3
    refine ⟨p, C, _, .ref a, rfl, hp1, ⟨hc, h1⟩, rfl, ?_⟩
    refine ⟨_, _, hp2, ?_⟩
    have hp1' : updG G a (.lst (trsW (ts' ++ [u]))) p = _ := (updG_ne pab.1).trans hp1
    have hp2' : updG G a (.lst (trsW (ts' ++ [u]))) a = _ := updG_same
    have hp3' : updG G a (.lst (trsW (ts' ++ [u]))) b = _ := (updG_ne hab.symm).trans hp3
    have kp : ∀ x g, x ≠ a → G x = some g → updG G a (.lst (trsW (ts' ++ [u]))) x = some g := fun x g hx hg => (updG_ne hx).trans hg
    generalize updG G a (.lst (trsW (ts' ++ [u]))) = G1 at hp1' hp2' hp3' kp ⊢
    subst hU
    refine seqU fun U hU => ?_
    walk_at "R"
    refine ⟨p, C, _, .ref b, rfl, hp1', ⟨hc, h2⟩, rfl, ?_⟩
    refine ⟨_, _, hp3', ?_⟩
    subst hU
    walk_at "R"
    refine ⟨p, C, _, .ref b, rfl, (updG_ne pab.2).trans hp1', ⟨hc, h2⟩, rfl, ?_⟩
    refine ⟨_, _, updG_same, by rw [nums_app]; exact at_end _ _, GLe.done (hq ts' u rfl _ ⟨(updG_ne pab.2).trans hp1', (updG_ne hab).trans hp2', updG_same, hab⟩ fun x g xa xb hg => ?_)⟩
    rw [updG_ne xb]
    exact kp x g xa hg
noncomputable def lineW (ts : List Tr) : List W := ts.map fun t => .tup [.tup (encT t), .tup (encP t.nO)]
structure Gm (C : Addr) (G : Gp) (p a b r : Addr) (ts : List Tr) : Prop where
  pl : PlayAt C G p a b ts
  ln : G r = some (.lst (lineW ts))
  ra : r ≠ a
  rb : r ≠ b
noncomputable def OkT (t : Tr) : Prop := t.dp ≤ 5 ∧ t.pts ≤ 31
noncomputable def OkL (ts : List Tr) : Prop := (∀ t, t ∈ ts → OkT t) ∧ ts.length ≤ 100
noncomputable def Kp3 (a b r : Addr) (G G' : Gp) : Prop := ∀ x g, x ≠ a → x ≠ b → x ≠ r → G x = some g → G' x = some g
theorem line_len (ts : List Tr) : (lineW ts).length = ts.length := List.length_map ..
theorem line_app (ts : List Tr) (t : Tr) : lineW (ts ++ [t]) = lineW ts ++ [.tup [.tup (encT t), .tup (encP t.nO)]] := by
  unfold lineW
  rw [List.map_append]
  rfl
theorem Gm.le {C : Addr} {G G' : Gp} {p a b r : Addr} {ts : List Tr} (h : Gm C G p a b r ts) (l : GLe G G') : Gm C G' p a b r ts :=
  ⟨⟨l _ _ h.pl.1, l _ _ h.pl.2.1, l _ _ h.pl.2.2.1, h.pl.2.2.2⟩, l _ _ h.ln, h.ra, h.rb⟩
theorem Kp3.of {a b r : Addr} {G G' : Gp} (l : GLe G G') : Kp3 a b r G G' := fun x g _ _ _ e => l x g e
theorem Kp3.trans {a b r : Addr} {G G' G'' : Gp} (h : Kp3 a b r G G') (k : Kp3 a b r G' G'') : Kp3 a b r G G'' := fun x g h1 h2 h3 e => k x g h1 h2 h3 (h x g h1 h2 h3 e)
theorem Kp3.le {a b r : Addr} {G G' G'' : Gp} (h : Kp3 a b r G G') (k : GLe G' G'') : Kp3 a b r G G'' := fun x g h1 h2 h3 e => k x g (h x g h1 h2 h3 e)
theorem kept_le {a b r : Addr} {G G' : Gp} (h : Kept a b G G') : Kp3 a b r G G' := fun x g h1 h2 _ e => h x g h1 h2 e
structure Cls3 (K : PySem.W.Frag) (C0 C1 C2 : Addr) : Prop where
  x0 : ∃ bm, XC K C0 bm
  x1 : ∃ bm, XC K C1 bm
  x2 : ∃ bm, XC K C2 bm
  s10 : PySem.W.mroIn K C1 (.ref C0) = some false
  s20 : PySem.W.mroIn K C2 (.ref C0) = some false
  s21 : PySem.W.mroIn K C2 (.ref C1) = some false
noncomputable def why (C0 C1 C2 : Addr) (c : Value) (z : Str) : Prop := c = .ref C0 ∧ z = "no head" ∨ c = .ref C1 ∧ z = "no number" ∨ c = .ref C2 ∧ z = "too great"
noncomputable def spRf (C C0 C1 C2 : Addr) : WSp := fun ws G q _ => ∃ (p a b : Addr) (ts : List Tr) (t : Tr) (x y : W) (z : Str), ws = [.ref p, x, y] ∧ PlayAt C G p a b (ts ++ [t]) ∧ t.dp < 39 ∧ t.pts ≤ 100 ∧ ts.length ≤ 1000 ∧ CutC C0 C1 C2 t G x y (fun c => why C0 C1 C2 c z) (fun _ _ => False) ∧ q (.str z) G
theorem scRf : FnScope ["_law_play", "_law_way", "_law_many", "_law_found"] ["_law_play", "_law_way", "_law_many"] (defScope (top 44)) := ⟨rfl, rfl, rfl, by decide +kernel, rfl, by decide +kernel, by decide +kernel⟩
theorem fnRf {C C0 C1 C2 : Addr} (F : Fun K "_law_refused" "_law_refused" (top 44) f fd) (M : RMt P w K mg base C "cut" ["self", "way", "many"] 43 (spMc C C0 C1 C2) []) (m0 : mg "NoHead" = some (.ref C0)) (m1 : mg "NoNumber" = some (.ref C1)) (m2 : mg "TooGreat" = some (.ref C2)) (hX : Cls3 K C0 C1 C2) : WFn P w K mg base 44 f fd ["_law_play", "_law_way", "_law_many"] (spRf C C0 C1 C2) := by
  have nd := scRf.nd
  obtain ⟨b0, x0⟩ := hX.x0
  obtain ⟨b1, x1⟩ := hX.x1
  obtain ⟨b2, x2⟩ := hX.x2
  refine fn3 (k := 43) F scRf (fun ws G q e h => by obtain ⟨_, _, _, _, _, _, _, _, rfl, _⟩ := h; rfl) (fun cdv A outer s H E hr => ?_)
  apply bodyOf
  · refine' qss_cons ?s1 (qss_cons (qs_tryY rfl rfl (qys_one (qy_mdo (fun _ _ z => z) ?o M (Room.mono hr (by (clear F M m0 m1 m2 hX nd x0 x1 x2 hr; omega))) ?a))
      (qhs_cons (qh_take m0 rfl x0 x0 x0.self fun a oe hoe => qss_one (qs_set 3 nd rfl (Or.inl rfl) qe_str))
      (qhs_cons (qh_skip m0 rfl x1 x0 hX.s10 (qh_take m1 rfl x1 x1 x1.self fun a oe hoe => qss_one (qs_set 3 nd rfl (Or.inl rfl) qe_str)))
      (qhs_cons (qh_skip m0 rfl x2 x0 hX.s20 (qh_skip m1 rfl x2 x1 hX.s21 (qh_take m2 rfl x2 x2 x2.self fun a oe hoe => qss_one (qs_set 3 nd rfl (Or.inl rfl) qe_str))))
      qhs_nil)))) ?s3)
    case s1 => exact (qs_set 3 nd rfl (.inl rfl) qe_str)
    case o => exact (qe_var 0 rfl (.inl rfl))
    case a => exact (qa_cons (qe_var 1 rfl (.inl rfl)) (qa_cons (qe_var 2 rfl (.inl rfl)) qa_nil))
    case s3 => exact (qss_cons (qs_ret (qe_var 3 rfl (.inl rfl))) qss_nil)
  · rintro ws G q e ⟨p, a, b, ts, t, x, y, z, rfl, hP, hd, hp, hl, hC, hq⟩
    refine seqU fun U hU => ?_
    walk_at "R"
    subst hU
    refine seqU fun U hU => ?_
    walk_at "R"
    refine ⟨p, _, rfl, hP.1, rfl, p, a, b, ts, t, x, y, rfl, hP, hd, hp, hl, hC.imp (fun c hc D hD => ?_) fun _ _ _ _ _ _ h => h.elim⟩
    subst hU
    rcases hc with ⟨h1, h2⟩ | ⟨h1, h2⟩ | ⟨h1, h2⟩
    · rw [h1] at hD
      cases hD
      subst h2
      refine ⟨_, .head _, ?_⟩
      walk_at "R"
      exact GLe.done hq
    · rw [h1] at hD
      cases hD
      subst h2
      refine ⟨_, .tail _ (.head _), ?_⟩
      walk_at "R"
      exact GLe.done hq
    · rw [h1] at hD
      cases hD
      subst h2
      refine ⟨_, .tail _ (.tail _ (.head _)), ?_⟩
      walk_at "R"
      exact GLe.done hq
structure Oth (K : PySem.W.Frag) (mg : Str → Option Value) (C : Addr) (c1 c2 c3 c4 c5 c6 d1 d2 d3 d4 d5 d6 : Addr) : Prop where
  m1 : mg "NoChore" = some (.ref c1)
  m2 : mg "NoFall" = some (.ref c2)
  m3 : mg "NoFit" = some (.ref c3)
  m4 : mg "NoHead" = some (.ref c4)
  m5 : mg "NoLimit" = some (.ref c5)
  m6 : mg "NoName" = some (.ref c6)
  n1 : mg "NoNumber" = some (.ref d1)
  n2 : mg "NoRow" = some (.ref d2)
  n3 : mg "NoText" = some (.ref d3)
  n4 : mg "Nought" = some (.ref d4)
  n5 : mg "TooGreat" = some (.ref d5)
  n6 : mg "TooHigh" = some (.ref d6)
  h1 : ∀ D, D ∈ [c1, c2, c3, c4, c5, c6] → XD K D ∧ PySem.W.mroIn K C (.ref D) = some false
  h2 : ∀ D, D ∈ [d1, d2, d3, d4, d5, d6] → XD K D ∧ PySem.W.mroIn K C (.ref D) = some false
noncomputable def spOt (C : Addr) : WSp := fun ws G q _ => ∃ a : Addr, ws = [.ref a] ∧ G a = some (.exc C) ∧ q (.bl false) G
theorem scOt : FnScope ["_law_e"] ["_law_e"] (defScope (top 45)) := ⟨rfl, rfl, rfl, by decide +kernel, rfl, by decide +kernel, by decide +kernel⟩
theorem fnOt {C c1 c2 c3 c4 c5 c6 d1 d2 d3 d4 d5 d6 : Addr} (F : Fun K "_law_other" "_law_other" (top 45) f fd) (hO : Oth K mg C c1 c2 c3 c4 c5 c6 d1 d2 d3 d4 d5 d6) (mi : mg "isinstance" = none) : WFnN P w K mg base 1 f fd ["_law_e"] (spOt C) := by
  have nd := scOt.nd
  obtain ⟨m1, m2, m3, m4, m5, m6, n1, n2, n3, n4, n5, n6, h1, h2⟩ := hO
  refine fn3N F scOt (fun ws G q e h => by obtain ⟨_, rfl, _⟩ := h; rfl) (fun cdv A outer s H E hr => ?_)
  apply bodyOf
  · exact (qss_cons (qs_if (qt_val (qe_isT (qe_var 0 rfl (.inl rfl)) (qe_tup (qa_cons (qe_gref rfl m1) (qa_cons (qe_gref rfl m2) (qa_cons (qe_gref rfl m3) (qa_cons (qe_gref rfl m4) (qa_cons (qe_gref rfl m5) (qa_cons (qe_gref rfl m6) qa_nil))))))) mi rfl)) (qss_cons (qs_ret qe_bl) qss_nil) qss_nil) (qss_cons (qs_ret (qe_isT (qe_var 0 rfl (.inl rfl)) (qe_tup (qa_cons (qe_gref rfl n1) (qa_cons (qe_gref rfl n2) (qa_cons (qe_gref rfl n3) (qa_cons (qe_gref rfl n4) (qa_cons (qe_gref rfl n5) (qa_cons (qe_gref rfl n6) qa_nil))))))) mi rfl)) qss_nil))
  · rintro ws G q e ⟨a, rfl, ha, hq⟩
    refine seqU fun U hU => ?_
    walk_at "R"
    refine ⟨a, C, [c1, c2, c3, c4, c5, c6], rfl, rfl, ha, h1, ?_⟩
    subst hU
    walk_at "R"
    exact ⟨a, C, [d1, d2, d3, d4, d5, d6], rfl, rfl, ha, h2, GLe.done hq⟩
noncomputable def bkL (ts : List Tr) (t : Tr) : List Tr := if ts = [] then [t] else ts
noncomputable def spBa (C : Addr) : WSp := fun ws G q _ => ∃ (p a b r : Addr) (ts : List Tr) (t : Tr), ws = [.ref p, .ref r] ∧ Gm C G p a b r (ts ++ [t]) ∧ OkL (ts ++ [t]) ∧ ∀ G', Gm C G' p a b r (bkL ts t) → Kp3 a b r G G' → q (.bl true) G'
theorem scBa : FnScope ["_law_play", "_law_line", "_law_told", "_law_found", "_law_e"] ["_law_play", "_law_line"] (defScope (top 46)) := ⟨rfl, rfl, rfl, by decide +kernel, rfl, by decide +kernel, by decide +kernel⟩
theorem al_num {t : Tr} (h : OkT t) : Al 40 (.tup (encP t.nO)) := by
  have h1 := t.nO_dp.1
  have h2 := h.1
  exact .inr ⟨_, rfl, al_enc t.nO 39 (by (clear h; omega))⟩
theorem line_end (ts : List Tr) (t : Tr) : atI (lineW (ts ++ [t])) (-1) = some (.tup [.tup (encT t), .tup (encP t.nO)]) := by
  rw [line_app]; exact at_end _ _
theorem fnBa {C C4 Hy : Addr} {bH : List Value} (F : Fun K "_law_back" "_law_back" (top 46) f fd) (M : RMt P w K mg base C "back" ["self"] 1 (spBk C C4) []) (F1 : FxN P w K mg base "_law_other" ["_law_e"] 1 (spOt C4)) (F2 : Fx P w K mg base "_law_alike" ["_law_found", "_law_due"] 40 (spAl 40))
    (o4 : XO K C4) (dd4 : XD K C4) (s4 : PySem.W.mroIn K C4 (.ref Hy) = some true) (s44 : PySem.W.mroIn K C4 (.ref C4) = some true) (mH : mg "HydraError" = some (.ref Hy)) (xH : XC K Hy bH) (m4 : mg "NoStep" = some (.ref C4)) (mi : mg "isinstance" = none) (mv : mg "ValueError" = none) (ml : mg "len" = none) : WFn P w K mg base 41 f fd ["_law_play", "_law_line"] (spBa C) := by
  have nd := scBa.nd
  refine fn3 (k := 40) F scBa (fun ws G q e h => by obtain ⟨_, _, _, _, _, _, rfl, _⟩ := h; rfl) (fun cdv A outer s H E hr => ?_)
  apply bodyOf
  · refine' qss_cons ?s1 (qss_cons ?s2 (qss_cons ?tr ?s4))
    case s1 => exact (qs_set 2 nd rfl (.inl rfl) (qe_lst qa_nil))
    case s2 => exact (qs_set 3 nd rfl (.inl rfl) qe_non)
    case tr =>
      refine' qs_tryY rfl rfl (qys_one (qy_mset0 3 (fun _ _ z => z) nd rfl (Or.inl rfl) ?o M (Room.mono hr (by (clear F M F1 F2 o4 dd4 s4 s44 mH xH m4 mi mv ml nd hr; omega))))) (qhs_cons (qh_asG 4 mH rfl o4 xH s4 nd rfl rfl fun a => ?b0) qhs_nil)
      case o => exact (qe_var 0 rfl (.inl rfl))
      case b0 =>
        have hrn := (Room.n hr).mark (v := some (.ref a))
        exact qss_one (qs_set 2 nd rfl (Or.inl rfl) (qe_lst (qa_cons (show QE _ _ (wIsE K 4 C4) from qe_isE rfl (by first | exact Or.inl rfl | exact Or.inr (Or.inl rfl) | exact Or.inr (Or.inr rfl)) m4 dd4 rfl mi rfl) (qa_cons (qe_isV (T := "ValueError") (i := 4) rfl (by first | exact Or.inl rfl | exact Or.inr (Or.inl rfl) | exact Or.inr (Or.inr rfl)) rfl km_V boot_V mv rfl mi rfl) (qa_cons (qe_fxN F1 (RoomN.mono hrn (by (clear F M F1 F2 o4 dd4 s4 s44 mH xH m4 mi mv ml nd hr hrn; omega))) rfl (qa_cons (qe_var (i := 4) rfl (by first | exact Or.inl rfl | exact Or.inr (Or.inl rfl) | exact Or.inr (Or.inr rfl))) qa_nil)) qa_nil)))))
    case s4 => exact (qss_cons (qs_if (qt_cmp (q_eq4 hr) (qe_callB q_len rfl ml PySem.boot_len (qa_cons (qe_var 1 rfl (.inl rfl)) qa_nil)) qe_int (nomark _)) (qss_cons (qs_ret (qe_cmp (q_eq4 hr) (qe_var 2 rfl (.inl rfl)) (qe_lst (qa_cons qe_bl (qa_cons qe_bl (qa_cons qe_bl qa_nil)))) (nomark _))) qss_nil) qss_nil) (qss_cons (qs_expr (qe_pop (qe_var 1 rfl (.inl rfl)))) (qss_cons (qs_ret (qe_and (qe_cmp (q_eq4 hr) (qe_var 2 rfl (.inl rfl)) (qe_lst qa_nil) (nomark _)) (qe_one (qe_fxn F2 (Room.mono hr (by omega)) rfl (qa_cons (qe_var 3 rfl (.inl rfl)) (qa_cons (qe_ix q_ix (qe_ix q_ix (qe_var 1 rfl (.inl rfl)) (qe_neg qe_int) (fun _ _ => rfl)) qe_int (fun _ _ => rfl)) qa_nil)))))) qss_nil)))
  · rintro ws G q e ⟨p, a, b, r, ts, t, rfl, hG, hOk, hq⟩
    refine seqU fun U hU => ?_
    walk_at "R"
    intro p1 hp1
    have le1 := GLe.new (g := GO.lst []) hp1
    have g1 := updG_same (G := G) (a := p1) (g := GO.lst [])
    generalize updG G p1 (.lst []) = G1 at le1 g1 ⊢
    have hG1 := hG.le le1
    subst hU
    refine seqU fun U hU => ?_
    walk_at "R"
    subst hU
    refine seqU fun U hU => ?_
    walk_at "R"
    refine ⟨p, _, rfl, hG1.pl.1, rfl, p, a, b, ts, t, rfl, hG1.pl, fun h0 D hD => ?_, fun ts' u h0 G' hP hK => ?_⟩
    · cases hD
      subst h0
      refine ⟨_, .head _, ?_⟩
      walk_at "R"
      intro x hx
      refine ⟨x, C4, true, rfl, updG_same, s44, x, C4, rfl, updG_same, x, rfl, updG_same, fun p2 hp2 => ?_⟩
      have le2 := (le1.trans (GLe.new (g := GO.exc C4) hx)).trans (GLe.new (g := GO.lst [.bl true, .bl true, .bl false]) hp2)
      have g2 := updG_same (G := updG G1 x (.exc C4)) (a := p2) (g := GO.lst [.bl true, .bl true, .bl false])
      generalize updG (updG G1 x (.exc C4)) p2 (.lst [.bl true, .bl true, .bl false]) = G2 at le2 g2 ⊢
      have hG2 := hG.le le2
      subst hU
      refine seqU fun U hU => ?_
      walk_at "R"
      refine ⟨_, hG2.ln, ?_⟩
      rw [line_len, if_pos (by simp)]
      exact fun p3 hp3 => ⟨_, _, updG_ne' g2 hp3, updG_same, rfl, rfl, by decide, G2, GLe.new hp3, hq _ hG2 (.of le2)⟩
    · subst h0
      have hn : ∀ x g, G x = some g → p1 ≠ x := fun x g e z => by rw [z, e] at hp1; cases hp1
      have ln := hK r _ hG.ra hG.rb hG1.ln
      have g1' := hK p1 _ (hn _ _ hG.pl.2.1) (hn _ _ hG.pl.2.2.1) g1
      subst hU
      refine seqU fun U hU => ?_
      walk_at "R"
      refine ⟨_, ln, ?_⟩
      rw [line_len, if_neg (by simp only [List.length_append, List.length_cons, List.length_nil]; (clear F M F1 F2 o4 dd4 s4 s44 mH xH m4 mi mv ml nd hr hp1 le1 g1 hP hK hG hOk hq hG1 hn ln g1' hU; omega))]
      subst hU
      refine seqU fun U hU => ?_
      walk_at "R"
      rw [line_app] at ln
      refine ⟨_, _, ln, ?_⟩
      have pr : p ≠ r := fun z => by have h1 := hG.pl.1; rw [z, hG.ln] at h1; cases h1
      have hP2 : Gm C (updG G' r (.lst (lineW (ts' ++ [u])))) p a b r (ts' ++ [u]) := ⟨⟨(updG_ne pr).trans hP.1, (updG_ne hG.ra.symm).trans hP.2.1, (updG_ne hG.rb.symm).trans hP.2.2.1, hP.2.2.2⟩, updG_same, hG.ra, hG.rb⟩
      have kp : Kp3 a b r G (updG G' r (.lst (lineW (ts' ++ [u])))) := fun x g h1 h2 h3 e => (updG_ne h3).trans (hK x g h1 h2 (le1 x g e))
      have g2' : updG G' r (.lst (lineW (ts' ++ [u]))) p1 = _ := (updG_ne (hn _ _ hG.ln)).trans g1'
      have fin := hq _ (by unfold bkL; rw [if_neg (by simp)]; exact hP2) kp
      generalize updG G' r (.lst (lineW (ts' ++ [u]))) = G2 at hP2 kp g2' fin ⊢
      subst hU
      walk_at "R"
      intro p3 hp3
      refine ⟨_, _, updG_ne' g2' hp3, updG_same, rfl, rfl, by decide, ?_⟩
      rw [if_pos (show W.eqs [] [] = true from rfl)]
      refine ⟨_, _, updG_ne' hP2.ln hp3, line_end ts' u, _, rfl, _, rfl, al_num (hOk.1 u (by simp)), G2, GLe.new hp3, fin⟩
theorem many_ok {X : Int} {n l : Nat} (h2 : 2 ≤ l) (hn : n ≤ 31) : ∃ m : Nat, (if ((32 : Int) - (n : Int)) / ((l : Int) - 1) < X / 2 % 4 then ((32 : Int) - (n : Int)) / ((l : Int) - 1) else X / 2 % 4) = (m : Int) ∧ m ≤ 3 ∧ m * (l - 1) + n ≤ 32 := by
  have e1 : ((32 : Int) - (n : Int)) / ((l : Int) - 1) = (((32 - n) / (l - 1) : Nat) : Int) := by
    rw [show (32 : Int) - (n : Int) = ((32 - n : Nat) : Int) by (clear h2; omega), show (l : Int) - 1 = ((l - 1 : Nat) : Int) by (clear hn; omega)]
    rfl
  rw [e1]
  have hd := Nat.div_mul_le_self (32 - n) (l - 1)
  generalize (32 - n) / (l - 1) = D at hd ⊢
  have hm := mod_in (i := X / 2) (j := 4) (by (clear h2 hn e1 hd; omega))
  obtain ⟨j, hj⟩ := Int.eq_ofNat_of_zero_le hm.1
  rw [hj] at hm ⊢
  by_cases h : (D : Int) < (j : Int)
  · rw [if_pos h]
    exact ⟨D, rfl, by (clear h2 hn e1 hd; omega), by (clear h2 e1 hm hj h; omega)⟩
  · rw [if_neg h]
    have h3 : j * (l - 1) ≤ D * (l - 1) := Nat.mul_le_mul_right _ (by (clear h2 hn e1 hd hm; omega))
    exact ⟨j, rfl, by (clear h2 hn e1 hd h h3; omega), by (clear h2 e1 hm hj h; omega)⟩
theorem RMt.calm {C : Addr} {m : Str} {ps : List Str} {k : Nat} {sp sp' : WSp} {dws : List W} (M : RMt P w K mg base C m ps k sp dws) (h : ∀ ws G q e, sp' ws G q e → sp ws G q fun _ _ => False) : Mt P w K mg base C m ps k sp' dws :=
  ⟨by obtain ⟨f, fd, ds, dvs, h1, h2, h3, h4, h5⟩ := M.ex; exact ⟨f, fd, ds, dvs, h1, h2.calm h, h3, h4, h5⟩, M.cl⟩
noncomputable def spMq (C C0 C1 C2 : Addr) : WSp := fun ws G q _ => spMc C C0 C1 C2 ws G q fun _ _ => False
noncomputable def spCt (C : Addr) : WSp := fun ws G q _ => ∃ (p a b r : Addr) (ts : List Tr) (t : Tr) (X : Int), ws = [.ref p, .ref r, .int X] ∧ 0 ≤ X ∧ Gm C G p a b r (ts ++ [t]) ∧ OkL (ts ++ [t]) ∧ t ≠ .z ∧ ∀ G' u, Gm C G' p a b r ((ts ++ [t]) ++ [u]) → OkT u → Kp3 a b r G G' → q (.bl true) G'
theorem scCt : FnScope ["_law_play", "_law_line", "_law_mixed", "_law_now", "_law_way", "_law_part", "_law_many", "_law_found", "_law_then"] ["_law_play", "_law_line", "_law_mixed"] (defScope (top 47)) := ⟨rfl, rfl, rfl, by decide +kernel, rfl, by decide +kernel, by decide +kernel⟩
theorem fnCt {C C0 C1 C2 : Addr} (F : Fun K "_law_cutting" "_law_cutting" (top 47) f fd) (M1 : Mt P w K mg base C "cut" ["self", "way", "many"] 43 (spMq C C0 C1 C2) [.int 1]) (M2 : Mt P w K mg base C "cut" ["self", "way", "many"] 43 (spMq C C0 C1 C2) []) (F1 : Fx P w K mg base "_law_head" ["_law_tree_here", "_law_cell"] 2 spHd) (F2 : Fx P w K mg base "_law_points" ["_law_tree_here"] 40 (spPn 40)) (F3 : Fx P w K mg base "_law_at" ["_law_tree_here", "_law_way"] 1 spLa) (F4 : Fx P w K mg base "_law_cut" ["_law_tree_here", "_law_way", "_law_many"] 2 spLt) (F5 : Fx P w K mg base "_law_number" ["_law_tree_here"] 77 (spLn 16)) (F6 : Fx P w K mg base "_law_alike" ["_law_found", "_law_due"] 40 (spAl 40)) (mm : mg "min" = none) : WFn P w K mg base 78 f fd ["_law_play", "_law_line", "_law_mixed"] (spCt C) := by
  have nd := scCt.nd
  refine fn3 (k := 77) F scCt (fun ws G q e h => by obtain ⟨_, _, _, _, _, _, _, rfl, _⟩ := h; rfl) (fun cdv A outer s H E hr => ?_)
  apply bodyOf
  · refine' qss_cons ?s1 (qss_cons ?s2 (qss_cons ?s3 (qss_cons ?s4 (qss_cons (qs_if ?c (qss_one (qs_set 7 nd rfl (Or.inl rfl) (qe_meth ?o1 M1 (Room.mono hr (by (clear F M1 M2 F1 F2 F3 F4 F5 F6 mm nd hr; omega))) ?a1))) (qss_one (qs_set 7 nd rfl (Or.inl rfl) (qe_meth ?o2 M2 (Room.mono hr (by (clear F M1 M2 F1 F2 F3 F4 F5 F6 mm nd hr; omega))) ?a2)))) ?s6))))
    case s1 => exact (qs_set 3 nd rfl (.inl rfl) (qe_ix q_ix (qe_ix q_ix (qe_var 1 rfl (.inl rfl)) (qe_neg qe_int) (fun _ _ => rfl)) qe_int (fun _ _ => rfl)))
    case s2 => exact (qs_set 4 nd rfl (.inl rfl) (qe_fxn F1 (Room.mono hr (by omega)) rfl (qa_cons (qe_var 3 rfl (.inl rfl)) (qa_cons (qe_var 2 rfl (.inl rfl)) qa_nil))))
    case s3 => exact (qs_set 5 nd rfl (.inl rfl) (qe_op q_sub (qe_fxn F2 (Room.mono hr (by omega)) rfl (qa_cons (qe_fxn F3 (Room.mono hr (by omega)) rfl (qa_cons (qe_var 3 rfl (.inl rfl)) (qa_cons (qe_slice (qe_var 4 rfl (.inl rfl)) qo_none (qo_some (qe_neg qe_int))) qa_nil))) qa_nil)) qe_int))
    case s4 => exact (qs_set 6 nd rfl (.inl rfl) (qe_callB (q_min rfl) rfl mm b_min (qa_cons (qe_op q_mod (qe_op q_divB (qe_var 2 rfl (.inl rfl)) qe_int) qe_int) (qa_cons (qe_op q_divB (qe_op q_sub qe_int (qe_fxn F2 (Room.mono hr (by omega)) rfl (qa_cons (qe_var 3 rfl (.inl rfl)) qa_nil))) (qe_var 5 rfl (.inl rfl))) qa_nil))))
    case c => exact (qt_w (qw_and (qt_cmp (q_eq4 hr) (qe_op q_mod (qe_var 2 rfl (.inl rfl)) qe_int) qe_int (nomark _)) (qw_and1 (qt_cmp (q_eq4 hr) (qe_var 6 rfl (.inl rfl)) qe_int (nomark _)))))
    case o1 => exact (qe_var 0 rfl (.inl rfl))
    case a1 => exact (qa_cons (qe_var 4 rfl (.inl rfl)) qa_nil)
    case o2 => exact (qe_var 0 rfl (.inl rfl))
    case a2 => exact (qa_cons (qe_var 4 rfl (.inl rfl)) (qa_cons (qe_var 6 rfl (.inl rfl)) qa_nil))
    case s6 => exact (qss_cons (qs_set 8 nd rfl (.inl rfl) (qe_fxn F4 (Room.mono hr (by omega)) rfl (qa_cons (qe_var 3 rfl (.inl rfl)) (qa_cons (qe_var 4 rfl (.inl rfl)) (qa_cons (qe_var 6 rfl (.inl rfl)) qa_nil))))) (qss_cons (qs_expr (qe_app (qe_var 1 rfl (.inl rfl)) (qe_tup (qa_cons (qe_var 8 rfl (.inl rfl)) (qa_cons (qe_fxn F5 (Room.mono hr (by omega)) rfl (qa_cons (qe_var 8 rfl (.inl rfl)) qa_nil)) qa_nil))))) (qss_cons (qs_ret (qe_fxn F6 (Room.mono hr (by omega)) rfl (qa_cons (qe_var 7 rfl (.inl rfl)) (qa_cons (qe_ix q_ix (qe_ix q_ix (qe_var 1 rfl (.inl rfl)) (qe_neg qe_int) (fun _ _ => rfl)) qe_int (fun _ _ => rfl)) qa_nil)))) qss_nil)))
  · rintro ws G q e ⟨p, a, b, r, ts, t, X, rfl, hX0, hG, hOk, hz, hq⟩
    have ht := hOk.1 t (by simp)
    have hl := hOk.2
    rw [List.length_append, List.length_singleton] at hl
    refine seqU fun U hU => ?_
    walk_at "R"
    refine ⟨_, _, hG.ln, line_end ts t, ?_⟩
    walk_at "R"
    subst hU
    refine seqU fun U hU => ?_
    walk_at "R"
    refine ⟨t, X, rfl, by have := ht.1; exact Nat.le_trans (by assumption) (Nat.le_of_ble_eq_true rfl), by have := ht.2; exact Nat.le_trans (by assumption) (Nat.le_of_ble_eq_true rfl), fun w hw => ?_⟩
    have hne : w ≠ [] := fun z => by subst z; exact hz (Option.some.inj hw)
    obtain ⟨s1, e1, e2⟩ := Tr.sub_prefix (w.length - 1) hw
    subst hU
    refine seqU fun U hU => ?_
    walk_at "R"
    rw [cut_to1, way_len, show (wayW w).take (w.length - 1) = wayW (w.take (w.length - 1)) from List.map_take.symm]
    have hc : CutQ t w s1 := ⟨hw, hne, e1⟩
    obtain ⟨p2, i1, ew, g1⟩ := Tr.sub_last hne hw e1
    have sq := Tr.subT_pts e1
    refine ⟨t, s1, _, rfl, e1, s1, rfl, by have := ht.1; (clear F M1 M2 F1 F2 F3 F4 F5 F6 mm nd hr hX0 hG hOk hz hq ht hl hw hne e1 e2 hU hc p2 ew g1; omega), by have := ht.2; (clear F M1 M2 F1 F2 F3 F4 F5 F6 mm nd hr hX0 hG hOk hz hq ht hl hw hne e1 e2 hU hc p2 ew g1; omega), ?_⟩
    walk_at "R"
    subst hU
    refine seqU fun U hU => ?_
    walk_at "R"
    have htd := ht.1
    have htp := ht.2
    have sp := s1.pts_pos
    refine ⟨t, rfl, by (clear F M1 M2 F1 F2 F3 F4 F5 F6 mm nd hr hX0 hG hOk hz hq ht hl hw hne e1 e2 hc p2 ew g1 sq hU htp sp; omega), by exact Nat.le_trans (by assumption) (Nat.le_of_ble_eq_true rfl), ?_⟩
    dsimp only
    obtain ⟨m, hm, hm3, hml⟩ := many_ok (X := X) p2 htp
    rw [hm]
    refine ⟨.inl (by (clear F M1 M2 F1 F2 F3 F4 F5 F6 mm nd hr hX0 hG hOk hz hq ht hl hw hne e1 e2 hc ew g1 hU htd sp hm hm3 hml; omega)), ?_⟩
    clear hm
    have hcl := Tr.cut_left (m := m) hne hw e1
    have hll : leftT t s1 w m = (Tr.cutT m t w).pts := hcl.symm
    have hco := (Tr.cut_ok (m := m) hne hw).2.2
    have hup : (Tr.cutT m t w).pts ≤ 31 := by
      rw [hcl]
      have tp := t.pts_pos
      split <;> (clear F M1 M2 F1 F2 F3 F4 F5 F6 mm nd hr hX0 hG hOk hz hq ht hl hw hne e1 e2 hc p2 ew g1 sq hU htd sp hm3 hcl hll hco; omega)
    have okU : OkT (Tr.cutT m t w) := ⟨Nat.le_trans hco htd, hup⟩
    have cut : ∀ (Q : WK), (∀ G', PlayAt C G' p a b ((ts ++ [t]) ++ [Tr.cutT m t w]) → Kept a b G G' → Q (.tup (encP (Tr.nO (Tr.cutT m t w)))) G') → spMq C C0 C1 C2 [.ref p, .tup (wayW w), .int (m : Int)] G Q fun _ _ => False := fun Q hQ => ⟨p, a, b, ts, t, _, _, rfl, hG.pl, by (clear F M1 M2 F1 F2 F3 F4 F5 F6 mm nd hr hX0 hG hOk hz hq ht hl hw hne e1 e2 hc p2 ew g1 sq hU htp sp hm3 hml hcl hll hco hup okU hQ; omega), by exact Nat.le_trans (by assumption) (Nat.le_of_ble_eq_true rfl), by omega, .ok rfl hc rfl (by exact Nat.le_trans (by assumption) (Nat.le_of_ble_eq_true rfl)) (by (clear F M1 M2 F1 F2 F3 F4 F5 F6 mm nd hr hX0 hG hOk hz hq ht hl hw hne e1 e2 hc p2 ew g1 sq hU htd htp sp hm3 hml hco okU hQ; omega)) ⟨by exact Nat.le_trans (by assumption) (Nat.le_of_ble_eq_true rfl), hQ⟩⟩
    subst hU
    refine seqU fun U hU => ?_
    walk_at "R"
    have fin : ∀ G', PlayAt C G' p a b ((ts ++ [t]) ++ [Tr.cutT m t w]) → Kept a b G G' → U { nx := fun x G1 => ∃ G0, GLe G0 G1 ∧ q W.non G0, rt := fun w G1 => ∃ G0, GLe G0 G1 ∧ q w G0 } [some (W.ref p), some (W.ref r), some (W.int X), some (W.tup (encT t)), some (W.tup (wayW w)), some (W.int (↑s1.pts - 1)), some (W.int ↑m), some (.tup (encP (Tr.nO (Tr.cutT m t w)))), none] G' := by
      intro G' hP hK
      have ln := hK r _ hG.ra hG.rb hG.ln
      subst hU
      refine seqU fun U hU => ?_
      walk_at "R"
      refine ⟨t, w, m, rfl, hw, hne, by omega, by exact Nat.le_trans (by assumption) (Nat.le_of_ble_eq_true rfl), fun _ => by exact Nat.le_trans (by assumption) (Nat.le_of_ble_eq_true rfl), ?_⟩
      subst hU
      refine seqU fun U hU => ?_
      walk_at "R"
      refine ⟨⟨_, ln⟩, Tr.cutT m t w, rfl, by omega, by exact Nat.le_trans (by assumption) (Nat.le_of_ble_eq_true rfl), _, ln, by rw [line_len, List.length_append, List.length_singleton]; exact Nat.le_trans (by assumption) (Nat.le_of_ble_eq_true rfl), ?_⟩
      rw [← line_app]
      have pr : p ≠ r := fun z => by have h1 := hG.pl.1; rw [z, hG.ln] at h1; cases h1
      have hP2 : Gm C (updG G' r (.lst (lineW ((ts ++ [t]) ++ [Tr.cutT m t w])))) p a b r ((ts ++ [t]) ++ [Tr.cutT m t w]) := ⟨⟨(updG_ne pr).trans hP.1, (updG_ne hG.ra.symm).trans hP.2.1, (updG_ne hG.rb.symm).trans hP.2.2.1, hP.2.2.2⟩, updG_same, hG.ra, hG.rb⟩
      have kp : Kp3 a b r G (updG G' r (.lst (lineW ((ts ++ [t]) ++ [Tr.cutT m t w])))) := fun x g h1 h2 h3 e => (updG_ne h3).trans (hK x g h1 h2 e)
      generalize updG G' r (.lst (lineW ((ts ++ [t]) ++ [Tr.cutT m t w]))) = G2 at hP2 kp ⊢
      subst hU
      walk_at "R"
      exact ⟨_, _, hP2.ln, line_end (ts ++ [t]) (Tr.cutT m t w), _, rfl, _, rfl, al_num okU, GLe.done (hq _ _ hP2 okU kp)⟩
    by_cases x1 : X % 2 = 1
    · rw [if_pos x1]
      by_cases m1 : (m : Int) = 1
      · rw [if_pos m1]
        refine ⟨p, _, rfl, hG.pl.1, rfl, ?_⟩
        rw [show W.int 1 = W.int (m : Int) by rw [m1]]
        exact cut _ fin
      · rw [if_neg m1]
        exact ⟨p, _, rfl, hG.pl.1, rfl, cut _ fin⟩
    · rw [if_neg x1]
      exact ⟨p, _, rfl, hG.pl.1, rfl, cut _ fin⟩
noncomputable def prW (x : Addr × Addr) : W := .tup [.ref x.1, .ref x.2]
structure Sh (G : Gp) (h : Addr) (sh : List (Addr × Addr)) (mv : List Addr) : Prop where
  at_ : G h = some (.lst (sh.map prW))
  ou : h ∉ mv
  li : sh.length ≤ 100
  al : ∀ x, x ∈ sh → x.1 ∉ mv ∧ x.2 ∉ mv ∧ x.1 ≠ h ∧ x.2 ≠ h ∧ ∃ xs, G x.1 = some (.lst xs) ∧ G x.2 = some (.lst xs) ∧ W.flats xs = true ∧ W.deps xs ≤ 149
noncomputable def KpL (l : List Addr) (G G' : Gp) : Prop := ∀ x g, x ∉ l → G x = some g → G' x = some g
theorem KpL.of {l : List Addr} {G G' : Gp} (h : GLe G G') : KpL l G G' := fun x g _ e => h x g e
theorem KpL.trans {l : List Addr} {G G' G'' : Gp} (h : KpL l G G') (k : KpL l G' G'') : KpL l G G'' := fun x g n e => k x g n (h x g n e)
theorem KpL.of3 {a b r : Addr} {l : List Addr} {G G' : Gp} (h : Kp3 a b r G G') (ha : a ∈ l) (hb : b ∈ l) (hr : r ∈ l) : KpL l G G' := fun x g n e => h x g (fun z => n (z ▸ ha)) (fun z => n (z ▸ hb)) (fun z => n (z ▸ hr)) e
theorem Sh.keep {G G' : Gp} {h : Addr} {sh : List (Addr × Addr)} {mv : List Addr} (s : Sh G h sh mv) (k : KpL mv G G') : Sh G' h sh mv :=
  ⟨k _ _ s.ou s.at_, s.ou, s.li, fun x hx => by
    obtain ⟨h1, h2, h3, h4, xs, h5, h6, h7⟩ := s.al x hx
    exact ⟨h1, h2, h3, h4, xs, k _ _ h1 h5, k _ _ h2 h6, h7⟩⟩
theorem Gm.keep {C : Addr} {G G' : Gp} {p a b r : Addr} {ts : List Tr} {l : List Addr} (h : Gm C G p a b r ts) (k : KpL l G G') (hp : p ∉ l) (ha : a ∉ l) (hb : b ∉ l) (hr : r ∉ l) : Gm C G' p a b r ts :=
  ⟨⟨k _ _ hp h.pl.1, k _ _ ha h.pl.2.1, k _ _ hb h.pl.2.2.1, h.pl.2.2.2⟩, k _ _ hr h.ln, h.ra, h.rb⟩
theorem ins_ne {C : Addr} {G : Gp} {p a : Addr} {fs : List (Str × W)} {ws : List W} (h : G p = some (.ins C fs)) (k : G a = some (.lst ws)) : p ≠ a := fun z => by rw [z, k] at h; cases h
noncomputable def sndW : W → W
  | .tup [_, y] => y
  | _ => .non
theorem snd_line (ts : List Tr) : (lineW ts).map sndW = nums (ts.map Tr.nO) := by
  unfold lineW nums
  rw [List.map_map, List.map_map]
  rfl
theorem al_T : ∀ (t : Tr) (k : Nat), t.dp ≤ k → ∀ x, x ∈ encT t → Al k x
  | .z, _, _, x, hx => by cases hx
  | .c b r, k, h, x, hx => by
    simp only [Tr.dp] at h
    have hx' : x ∈ W.tup (encT b) :: encT r := hx
    rcases List.mem_cons.mp hx' with rfl | hx'
    · obtain ⟨j, rfl⟩ : ∃ j, k = j + 1 := ⟨k - 1, by (clear hx hx'; omega)⟩
      exact .inr ⟨_, rfl, al_T b j (by (clear hx hx'; omega))⟩
    · exact al_T r k (by (clear hx hx'; omega)) x hx'
theorem al_tree {t : Tr} (h : OkT t) : Al 40 (.tup (encT t)) := .inr ⟨_, rfl, al_T t 39 (Nat.le_trans h.1 (by decide))⟩
theorem al_nums {ts : List Tr} (h : ∀ t, t ∈ ts → OkT t) : Al 40 (.tup (nums (ts.map Tr.nO))) := .inr ⟨_, rfl, fun x hx => by
  obtain ⟨o, ho, rfl⟩ := List.mem_map.mp hx
  obtain ⟨t, ht, rfl⟩ := List.mem_map.mp ho
  have h1 := t.nO_dp.1
  have h2 := (h t ht).1
  exact .inr ⟨_, rfl, al_enc t.nO 38 (by (clear h ht ho hx; omega))⟩⟩
noncomputable def spLk (C : Addr) : WSp := fun ws G q _ => ∃ (p a b r h : Addr) (ts : List Tr) (t : Tr) (sh : List (Addr × Addr)) (mv : List Addr) (X : Int), ws = [.ref p, .ref r, .ref h, .int X] ∧ Gm C G p a b r (ts ++ [t]) ∧ OkL (ts ++ [t]) ∧ Sh G h sh mv ∧ sh.length < 100 ∧ (∀ x, x ∈ mv → ∃ g, G x = some g) ∧ a ∈ mv ∧ b ∈ mv ∧ r ∈ mv ∧ ∀ G' sh', Sh G' h sh' mv → sh'.length ≤ sh.length + 1 → KpL [h] G G' → q (.bl true) G'
theorem scLk : FnScope ["_law_play", "_law_line", "_law_shelf", "_law_mixed", "_law_told"] ["_law_play", "_law_line", "_law_shelf", "_law_mixed"] (defScope (top 48)) := ⟨rfl, rfl, rfl, by decide +kernel, rfl, by decide +kernel, by decide +kernel⟩
theorem fnLk {C : Addr} (F : Fun K "_law_look" "_law_look" (top 48) f fd) (M1 : Mt P w K mg base C "tree" ["self"] 1 (spMt C) []) (M2 : Mt P w K mg base C "numbers" ["self"] 1 (spNs C) []) (F1 : Fx P w K mg base "_law_alike" ["_law_found", "_law_due"] 40 (spAl 40)) (mi : mg "isinstance" = none) (ml : mg "list" = none) (mt : mg "tuple" = none) : WFn P w K mg base 41 f fd ["_law_play", "_law_line", "_law_shelf", "_law_mixed"] (spLk C) := by
  have nd := scLk.nd
  refine fn3 (k := 40) F scLk (fun ws G q e h => by obtain ⟨_, _, _, _, _, _, _, _, _, _, rfl, _⟩ := h; rfl) (fun cdv A outer s H E hr => ?_)
  apply bodyOf
  · exact (qss_cons (qs_if (qt_w (qw_and (qt_cmp (q_eq4 hr) (qe_op q_mod (qe_var 3 rfl (.inl rfl)) qe_int) qe_int (nomark _)) (qw_and1 (qt_not (qt_val (qe_fxn F1 (Room.mono hr (by omega)) rfl (qa_cons (qe_meth0 (qe_var 0 rfl (.inl rfl)) M1 (Room.mono hr (by omega))) (qa_cons (qe_ix q_ix (qe_ix q_ix (qe_var 1 rfl (.inl rfl)) (qe_neg qe_int) (fun _ _ => rfl)) qe_int (fun _ _ => rfl)) qa_nil)))))))) (qss_cons (qs_ret qe_bl) qss_nil) qss_nil) (qss_cons (qs_set 4 nd rfl (.inl rfl) (qe_meth0 (qe_var 0 rfl (.inl rfl)) M2 (Room.mono hr (by omega)))) (qss_cons (qs_if (qt_w (qw_or (qt_not (qt_val (qe_isi (T := "list") (x := "list") (by first | simp [isiT] | assumption | decide +kernel) b_list ml rfl mi rfl (qe_var 4 rfl (.inl rfl))))) (qw_or1 (qt_not (qt_val (qe_fxn F1 (Room.mono hr (by omega)) rfl (qa_cons (qe_callTy q_tuple rfl mt b_tuple (qa_cons (qe_var 4 rfl (.inl rfl)) qa_nil)) (qa_cons (qe_callTy q_tuple rfl mt b_tuple (qa_cons (qe_comp (compSc (by first | rfl | decide +kernel)) rfl (qi_seq (qe_var 1 rfl (.inl rfl))) (fun _ _ _ _ => (qg_nameB 1 (by first | assumption | decide +kernel | rfl) rfl (.inl rfl))) (fun _ _ _ _ => qts_nil) (fun _ _ _ _ => (qe_ix q_ix (qe_var 1 rfl (.inl rfl)) qe_int (fun _ _ => rfl)))) qa_nil)) qa_nil)))))))) (qss_cons (qs_ret qe_bl) qss_nil) qss_nil) (qss_cons (qs_if (qt_cmp (q_eq4 hr) (qe_op q_mod (qe_op q_divB (qe_var 3 rfl (.inl rfl)) qe_int) qe_int) qe_int (nomark _)) (qss_cons (qs_expr (qe_app (qe_var 2 rfl (.inl rfl)) (qe_tup (qa_cons (qe_var 4 rfl (.inl rfl)) (qa_cons (qe_callTy q_list rfl ml b_list (qa_cons (qe_var 4 rfl (.inl rfl)) qa_nil)) qa_nil))))) qss_nil) (qss_cons (qs_expr (qe_app (qe_var 4 rfl (.inl rfl)) (qe_tup qa_nil))) qss_nil)) (qss_cons (qs_ret (qe_fxn F1 (Room.mono hr (by omega)) rfl (qa_cons (qe_meth0 (qe_var 0 rfl (.inl rfl)) M1 (Room.mono hr (by omega))) (qa_cons (qe_ix q_ix (qe_ix q_ix (qe_var 1 rfl (.inl rfl)) (qe_neg qe_int) (fun _ _ => rfl)) qe_int (fun _ _ => rfl)) qa_nil)))) qss_nil)))))
  · rintro ws G q e ⟨p, a, b, r, h, ts, t, sh, mv, X, rfl, hG, hOk, hS, hsh, hmv, am, bm, rm, hq⟩
    have ht := hOk.1 t (by simp)
    have hl := hOk.2
    rw [List.length_append, List.length_singleton] at hl
    refine seqU fun U hU => ?_
    walk_at "R"
    have rest : U { nx := fun x G1 => ∃ G0, GLe G0 G1 ∧ q W.non G0, rt := fun w G1 => ∃ G0, GLe G0 G1 ∧ q w G0 } [some (W.ref p), some (W.ref r), some (W.ref h), some (W.int X), none] G := by
      subst hU
      refine seqU fun U hU => ?_
      walk_at "R"
      refine ⟨p, _, rfl, hG.pl.1, rfl, p, a, b, ts ++ [t], rfl, hG.pl, fun c hc => ?_⟩
      have le1 := GLe.new (g := GO.lst (nums ((ts ++ [t]).map Tr.nO))) hc
      have g1 := updG_same (G := G) (a := c) (g := GO.lst (nums ((ts ++ [t]).map Tr.nO)))
      generalize updG G c (.lst (nums ((ts ++ [t]).map Tr.nO))) = G1 at le1 g1 ⊢
      have hG1 := hG.le le1
      subst hU
      refine seqU fun U hU => ?_
      walk_at "R"
      have ty : tyN G1 (.ref c) = some "list" := by simp only [tyN, g1]
      rw [ty]
      walk_at "R"
      refine ⟨_, g1, _, hG1.ln, comp_map (f := sndW) (τ0 := [none, none]) hG1.ln (fun w1 hw k hk => ?_) (by rw [line_len, List.length_append]; simp only [List.length_nil, List.length_cons]; (clear F M1 M2 F1 mi ml mt nd hr hG hOk hS hsh hmv am bm rm hq ht hc le1 g1 hG1 hU ty; omega)) (fun _ => rfl) fun p2 hp2 => ?_⟩
      · obtain ⟨t1, _, rfl⟩ := List.mem_map.mp hw
        walk_at "R"
        exact hk
      rw [List.nil_append, snd_line]
      refine ⟨_, updG_same, _, rfl, al_nums hOk.1, ?_⟩
      walk_at "R"
      have le2 := le1.trans (GLe.new (g := GO.lst (nums ((ts ++ [t]).map Tr.nO))) hp2)
      have g2 := updG_ne' (g := GO.lst (nums ((ts ++ [t]).map Tr.nO))) g1 hp2
      generalize updG G1 p2 (.lst (nums ((ts ++ [t]).map Tr.nO))) = G2 at le2 g2 ⊢
      subst hU
      refine seqU fun U hU => ?_
      have end_ : ∀ G3 sh', Sh G3 h sh' mv → sh'.length ≤ sh.length + 1 → KpL [h] G G3 → Gm C G3 p a b r (ts ++ [t]) → U { nx := fun x G1 => ∃ G0, GLe G0 G1 ∧ q W.non G0, rt := fun w G1 => ∃ G0, GLe G0 G1 ∧ q w G0 } [some (W.ref p), some (W.ref r), some (W.ref h), some (W.int X), some (W.ref c)] G3 := by
        intro G3 sh' hS' hl' hK hG3
        subst hU
        walk_at "R"
        exact ⟨p, _, rfl, hG3.pl.1, rfl, p, a, b, ts, t, rfl, hG3.pl, _, _, hG3.ln, line_end ts t, _, rfl, _, rfl, al_tree ht, GLe.done (hq _ _ hS' hl' hK)⟩
      walk_at "R"
      have nc : ∀ x g, G x = some g → x ≠ c := fun x g e z => by rw [z, hc] at e; cases e
      have hS2 := hS.keep (KpL.of le2)
      have ph : p ∉ [h] := fun m => ins_ne hG.pl.1 hS.at_ (List.mem_singleton.mp m)
      have xh : ∀ x, x ∈ mv → x ∉ [h] := fun x hx m => hS.ou (List.mem_singleton.mp m ▸ hx)
      by_cases x4 : X / 2 % 2 = 0
      · rw [if_pos x4]
        refine ⟨⟨_, hS2.at_⟩, _, g2, fun p3 hp3 => ⟨_, updG_ne' hS2.at_ hp3, by rw [List.length_map]; (clear F M1 M2 F1 mi ml mt nd hr hG hOk hS hmv am bm rm hq ht hl hc le1 g1 hG1 ty hp2 le2 g2 hU end_ nc hS2 ph xh x4 hp3; omega), ?_⟩⟩
        rw [show sh.map prW ++ [W.tup [W.ref c, W.ref p3]] = (sh ++ [(c, p3)]).map prW by rw [List.map_append]; rfl]
        have n3 : ∀ x g, G x = some g → p3 ≠ x := fun x g e z => by rw [z, le2 _ _ e] at hp3; cases hp3
        have kk : KpL [h] G (updG (updG G2 p3 (.lst (nums ((ts ++ [t]).map Tr.nO)))) h (.lst ((sh ++ [(c, p3)]).map prW))) := fun x g n e => (updG_ne (fun z => n (List.mem_singleton.mpr z))).trans (updG_ne' (le2 _ _ e) hp3)
        have cl : c ≠ h := (nc _ _ hS.at_).symm
        have p3h := n3 _ _ hS.at_
        refine end_ _ (sh ++ [(c, p3)]) ⟨updG_same, hS.ou, by rw [List.length_append, List.length_singleton]; assumption, fun x hx => ?_⟩ (by rw [List.length_append, List.length_singleton]; omega) kk (hG.keep kk ph (xh _ am) (xh _ bm) (xh _ rm))
        rcases List.mem_append.mp hx with hx | hx
        · obtain ⟨h1, h2, h3, h4, xs, h5, h6, h7⟩ := hS2.al x hx
          exact ⟨h1, h2, h3, h4, xs, (updG_ne h3).trans (updG_ne' h5 hp3), (updG_ne h4).trans (updG_ne' h6 hp3), h7⟩
        · cases List.mem_singleton.mp hx
          refine ⟨fun m => ?_, fun m => ?_, cl, p3h, _, (updG_ne cl).trans (updG_ne' g2 hp3), (updG_ne p3h).trans updG_same, nums_flat _, Nat.le_trans (nums_deps fun o ho => ?_) (by decide)⟩
          · obtain ⟨g, e⟩ := hmv _ m
            exact nc _ _ e rfl
          · obtain ⟨g, e⟩ := hmv _ m
            exact n3 _ _ e rfl
          · obtain ⟨t1, ht1, rfl⟩ := List.mem_map.mp ho
            have h1 := t1.nO_dp.1
            have h2 := (hOk.1 t1 ht1).1
            omega
      · rw [if_neg x4]
        refine ⟨⟨_, g2⟩, _, g2, by rw [nums_length, List.length_map, List.length_append, List.length_singleton]; exact Nat.le_trans (by assumption) (Nat.le_of_ble_eq_true rfl), ?_⟩
        have kk : ∀ l, KpL l G (updG G2 c (.lst (nums ((ts ++ [t]).map Tr.nO) ++ [W.tup []]))) := fun l x g n e => (updG_ne (nc x g e)).trans (le2 _ _ e)
        exact end_ _ sh (hS.keep (kk mv)) (by (clear F M1 M2 F1 mi ml mt nd hr hG hOk hS hsh hmv am bm rm hq ht hl hc le1 g1 hG1 ty hp2 le2 g2 hU end_ nc hS2 ph xh x4 kk; omega)) (kk [h]) (hG.keep (kk [h]) ph (xh _ am) (xh _ bm) (xh _ rm))
    by_cases x2 : X % 2 = 0
    · rw [if_pos x2]
      exact ⟨p, _, rfl, hG.pl.1, rfl, p, a, b, ts, t, rfl, hG.pl, _, _, hG.ln, line_end ts t, _, rfl, _, rfl, al_tree ht, rest⟩
    · rw [if_neg x2]
      exact rest
theorem pick_at {xs : List W} {X n : Int} {R : W → Prop} (hn : n = (xs.length : Int)) (h0 : 0 < xs.length) (hR : ∀ (j : Nat) (w : W), X % n = (j : Int) → xs[j]? = some w → R w) : ∃ w, atI xs (X % n) = some w ∧ R w := by
  have hm := mod_in (i := X) (j := n) (by (clear hR; omega))
  obtain ⟨j, hj⟩ := Int.eq_ofNat_of_zero_le hm.1
  rw [hj] at hm ⊢
  have hl : j < xs.length := by (clear h0 hR; omega)
  exact ⟨xs[j], atI_nat (List.getElem?_eq_getElem hl), hR j _ hj (List.getElem?_eq_getElem hl)⟩
theorem snoc_of {α : Type} {l : List α} (h : l ≠ []) : ∃ ts t, l = ts ++ [t] := by
  rcases List.eq_nil_or_concat l with rfl | ⟨ts, t, rfl⟩
  · exact absurd rfl h
  · exact ⟨ts, t, List.concat_eq_append ..⟩
theorem wIf_hide {tt : WT} {b1 b2 : WS} {D : WEnds} {τ : WSt} {G : Gp} (h : ∀ B, B = b1 → wIf tt B b2 D τ G) : wIf tt b1 b2 D τ G := h _ rfl
noncomputable def spDe (C : Addr) : WSp := fun ws G q _ => ∃ (p a b r h : Addr) (ts : List Tr) (t : Tr) (sh : List (Addr × Addr)) (mv : List Addr) (X : Int), ws = [.ref p, .ref r, .ref h, .int X] ∧ 0 ≤ X ∧ X ≤ 10000000000 ∧ Gm C G p a b r (ts ++ [t]) ∧ OkL (ts ++ [t]) ∧ ts.length < 99 ∧ Sh G h sh mv ∧ sh.length < 100 ∧ (∀ x, x ∈ mv → ∃ g, G x = some g) ∧ a ∈ mv ∧ b ∈ mv ∧ r ∈ mv ∧ ∀ G' ts' t' sh', Gm C G' p a b r (ts' ++ [t']) → OkL (ts' ++ [t']) → ts'.length ≤ ts.length + 1 → Sh G' h sh' mv → sh'.length ≤ sh.length + 1 → KpL [a, b, r, h] G G' → q (.bl true) G'
theorem scDe : FnScope ["_law_play", "_law_line", "_law_shelf", "_law_mixed", "_law_now", "_law_way", "_law_odd"] ["_law_play", "_law_line", "_law_shelf", "_law_mixed"] (defScope (top 49)) := ⟨rfl, rfl, rfl, by decide +kernel, rfl, by decide +kernel, by decide +kernel⟩
theorem fnDe {C C0 C1 C2 : Addr} (F : Fun K "_law_deed" "_law_deed" (top 49) f fd) (F1 : Fx P w K mg base "_law_head" ["_law_tree_here", "_law_cell"] 2 spHd) (F2 : Fx P w K mg base "_law_back" ["_law_play", "_law_line"] 41 (spBa C)) (F3 : Fx P w K mg base "_law_refused" ["_law_play", "_law_way", "_law_many"] 44 (spRf C C0 C1 C2)) (F4 : Fx P w K mg base "_law_cutting" ["_law_play", "_law_line", "_law_mixed"] 78 (spCt C)) (F5 : Fx P w K mg base "_law_look" ["_law_play", "_law_line", "_law_shelf", "_law_mixed"] 41 (spLk C)) (ml : mg "len" = none) (mL : mg "list" = none) : WFn P w K mg base 79 f fd ["_law_play", "_law_line", "_law_shelf", "_law_mixed"] (spDe C) := by
  have nd := scDe.nd
  refine fn3 (k := 78) F scDe (fun ws G q e h => by obtain ⟨_, _, _, _, _, _, _, _, _, _, rfl, _⟩ := h; rfl) (fun cdv A outer s H E hr => ?_)
  apply bodyOf
  · exact (qss_cons (qs_set 4 nd rfl (.inl rfl) (qe_ix q_ix (qe_ix q_ix (qe_var 1 rfl (.inl rfl)) (qe_neg qe_int) (fun _ _ => rfl)) qe_int (fun _ _ => rfl))) (qss_cons (qs_set 5 nd rfl (.inl rfl) (qe_fxn F1 (Room.mono hr (by omega)) rfl (qa_cons (qe_var 4 rfl (.inl rfl)) (qa_cons (qe_var 3 rfl (.inl rfl)) qa_nil)))) (qss_cons (qs_if (qt_cmp (q_eq4 hr) (qe_op q_mod (qe_var 3 rfl (.inl rfl)) qe_int) qe_int (nomark _)) (qss_cons (qs_ret (qe_fxn F2 (Room.mono hr (by omega)) rfl (qa_cons (qe_var 0 rfl (.inl rfl)) (qa_cons (qe_var 1 rfl (.inl rfl)) qa_nil)))) qss_nil) qss_nil) (qss_cons (qs_if (qt_w (qw_and (qt_cmp (q_eq4 hr) (qe_op q_mod (qe_var 3 rfl (.inl rfl)) qe_int) qe_int (nomark _)) (qw_and (qt_cmp (q_ne4 hr) (qe_var 4 rfl (.inl rfl)) (qe_tup qa_nil) (nomark _)) (qw_and1 (qt_cmp (q_eq4 hr) (qe_op q_mod (qe_op q_divB (qe_var 3 rfl (.inl rfl)) qe_int) qe_int) qe_int (nomark _)))))) (qss_cons (qs_ret (qe_cmp (q_eq4 hr) (qe_fxn F3 (Room.mono hr (by omega)) rfl (qa_cons (qe_var 0 rfl (.inl rfl)) (qa_cons (qe_var 5 rfl (.inl rfl)) (qa_cons (qe_ix q_ix (qe_lst (qa_cons (qe_neg qe_int) (qa_cons qe_bl (qa_cons qe_non (qa_cons qe_str qa_nil))))) (qe_op q_mod (qe_op q_divB (qe_var 3 rfl (.inl rfl)) qe_int) qe_int) (fun _ _ => rfl)) qa_nil)))) qe_str (nomark _))) qss_nil) qss_nil) (qss_cons (qs_if (qt_w (qw_or (qt_cmp (q_eq4 hr) (qe_op q_mod (qe_var 3 rfl (.inl rfl)) qe_int) qe_int (nomark _)) (qw_or1 (qt_w (qw_and (qt_cmp (q_lt3 hr) (qe_op q_mod (qe_var 3 rfl (.inl rfl)) qe_int) qe_int (nomark _)) (qw_and1 (qt_cmp (q_eq4 hr) (qe_var 4 rfl (.inl rfl)) (qe_tup qa_nil) (nomark _)))))))) (qss_cons (qs_set 6 nd rfl (.inl rfl) (qe_ix q_ix (qe_lst (qa_cons (qe_op q_add (qe_var 5 rfl (.inl rfl)) (qe_tup (qa_cons qe_int qa_nil))) (qa_cons (qe_tup qa_nil) (qa_cons (qe_callTy q_list rfl mL b_list (qa_cons (qe_var 5 rfl (.inl rfl)) qa_nil)) (qa_cons qe_non (qa_cons (qe_tup (qa_cons (qe_neg qe_int) qa_nil)) (qa_cons qe_str qa_nil))))))) (qe_op q_mod (qe_op q_divB (qe_var 3 rfl (.inl rfl)) qe_int) qe_int) (fun _ _ => rfl))) (qss_cons (qs_ret (qe_cmp (q_eq4 hr) (qe_fxn F3 (Room.mono hr (by omega)) rfl (qa_cons (qe_var 0 rfl (.inl rfl)) (qa_cons (qe_var 6 rfl (.inl rfl)) (qa_cons (qe_ix q_ix (qe_lst (qa_cons qe_int (qa_cons qe_int (qa_cons qe_int (qa_cons qe_non qa_nil))))) (qe_op q_mod (qe_op q_divB (qe_var 3 rfl (.inl rfl)) qe_int) qe_int) (fun _ _ => rfl)) qa_nil)))) qe_str (nomark _))) qss_nil)) qss_nil) (qss_cons (qs_if (qt_w (qw_and (qt_cmp (q_eq4 hr) (qe_op q_mod (qe_var 3 rfl (.inl rfl)) qe_int) qe_int (nomark _)) (qw_and1 (qt_cmp q_gt (qe_callB q_len rfl ml PySem.boot_len (qa_cons (qe_var 5 rfl (.inl rfl)) qa_nil)) qe_int (nomark _))))) (qss_cons (qs_ret (qe_cmp (q_eq4 hr) (qe_fxn F3 (Room.mono hr (by omega)) rfl (qa_cons (qe_var 0 rfl (.inl rfl)) (qa_cons (qe_var 5 rfl (.inl rfl)) (qa_cons (qe_op q_add qe_int (qe_op q_divB (qe_var 3 rfl (.inl rfl)) qe_int)) qa_nil)))) qe_str (nomark _))) qss_nil) qss_nil) (qss_cons (qs_if (qt_cmp (q_lt3 hr) (qe_op q_mod (qe_var 3 rfl (.inl rfl)) qe_int) qe_int (nomark _)) (qss_cons (qs_ret (qe_fxn F4 (Room.mono hr (by omega)) rfl (qa_cons (qe_var 0 rfl (.inl rfl)) (qa_cons (qe_var 1 rfl (.inl rfl)) (qa_cons (qe_op q_divB (qe_var 3 rfl (.inl rfl)) qe_int) qa_nil))))) qss_nil) qss_nil) (qss_cons (qs_ret (qe_fxn F5 (Room.mono hr (by omega)) rfl (qa_cons (qe_var 0 rfl (.inl rfl)) (qa_cons (qe_var 1 rfl (.inl rfl)) (qa_cons (qe_var 2 rfl (.inl rfl)) (qa_cons (qe_op q_divB (qe_var 3 rfl (.inl rfl)) qe_int) qa_nil)))))) qss_nil))))))))
  · rintro ws G q e ⟨p, a, b, r, h, ts, t, sh, mv, X, rfl, hX0, hX1, hG, hOk, hts, hS, hsh, hmv, am, bm, rm, hq⟩
    have ht := hOk.1 t (by simp)
    have htd := ht.1
    have htp := ht.2
    have same : ∀ G', GLe G G' → q (.bl true) G' := fun G' le => hq G' ts t sh (hG.le le) hOk (by (clear F F1 F2 F3 F4 F5 ml mL nd hr hX0 hX1 hG hOk hts hS hsh hmv am bm rm hq ht htd htp le; omega)) (hS.keep (.of le)) (by (clear F F1 F2 F3 F4 F5 ml mL nd hr hX0 hX1 hG hOk hts hS hsh hmv am bm rm hq ht htd htp le; omega)) (.of le)
    have moved : ∀ (ws : List Tr) G', Gm C G' p a b r ws → OkL ws → ws ≠ [] → ws.length ≤ ts.length + 2 → Kp3 a b r G G' → q (.bl true) G' := fun ws G' hG' hO hne hlen hK => by
      obtain ⟨ts', t', rfl⟩ := snoc_of hne
      rw [List.length_append, List.length_singleton] at hlen
      exact hq G' ts' t' sh hG' hO (by (clear F F1 F2 F3 F4 F5 ml mL nd hr hX0 hX1 hG hOk hts hS hsh hmv am bm rm hq ht htd htp same hK hG' hO hne; omega)) (hS.keep (.of3 hK am bm rm)) (by (clear F F1 F2 F3 F4 F5 ml mL nd hr hX0 hX1 hG hOk hts hS hsh hmv am bm rm hq ht htd htp same hK hG' hO hne hlen; omega)) (.of3 hK (by simp) (by simp) (by simp))
    refine seqU fun U hU => ?_
    walk_at "R"
    refine ⟨_, _, hG.ln, line_end ts t, ?_⟩
    walk_at "R"
    subst hU
    refine seqU fun U hU => ?_
    walk_at "R"
    refine ⟨t, X, rfl, by exact Nat.le_trans (by assumption) (Nat.le_of_ble_eq_true rfl), by exact Nat.le_trans (by assumption) (Nat.le_of_ble_eq_true rfl), fun w hw => ?_⟩
    subst hU
    refine seqU fun U hU => ?_
    walk_at "R"
    by_cases x4 : X % 8 = 4
    · rw [if_pos x4]
      refine ⟨p, a, b, r, ts, t, rfl, hG, hOk, fun G' hG' hK => GLe.done (moved _ G' hG' ?_ ?_ ?_ hK)⟩
      · unfold bkL
        split
        · exact ⟨fun u hu => by rw [List.mem_singleton.mp hu]; exact ht, by simp⟩
        · exact ⟨fun u hu => hOk.1 u (List.mem_append_left _ hu), by (clear F F1 F2 F3 F4 F5 ml mL nd hr hX0 hX1 hG hOk hS hsh hmv am bm rm hq ht htd htp same moved hw hU x4 hG' hK; omega)⟩
      · unfold bkL
        split
        · simp
        · assumption
      · unfold bkL
        split
        · simp
        · (clear F F1 F2 F3 F4 F5 ml mL nd hr hX0 hX1 hG hOk hts hS hsh hmv am bm rm hq ht htd htp same moved hw hU x4 hG' hK; omega)
    rw [if_neg x4]
    have e1 : t = .z → (W.tup (encT t)).eq (.tup []) = true := (tupT_nil t).mpr
    have e2 : t ≠ .z → (W.tup (encT t)).eq (.tup []) = false := fun h0 => by
      cases hb : (W.tup (encT t)).eq (.tup []) with
      | false => rfl
      | true => exact absurd ((tupT_nil t).mp hb) h0
    have tf := tupT_flat t
    have td := tupT_dep t
    have hcq : t ≠ .z → ∃ s1, CutQ t w s1 ∧ 2 ≤ s1.pts := fun h0 => by
      have hne : w ≠ [] := fun z => by subst z; exact h0 (Option.some.inj hw)
      obtain ⟨s1, e1, _⟩ := Tr.sub_prefix (w.length - 1) hw
      exact ⟨s1, ⟨hw, hne, e1⟩, (Tr.sub_last hne hw e1).1⟩
    have wl := Tr.subT_pts hw
    have lw := way_len w
    subst hU
    refine seqU fun U hU => ?_
    walk_at "R"
    have r2 : ¬ (X % 8 = 5 ∧ t ≠ .z ∧ X / 8 % 3 = 1) → U { nx := fun x G1 => ∃ G0, GLe G0 G1 ∧ q W.non G0, rt := fun w G1 => ∃ G0, GLe G0 G1 ∧ q w G0 } [some (W.ref p), some (W.ref r), some (W.ref h), some (W.int X), some (W.tup (encT t)), some (W.tup (wayW w)), none] G := by
      intro n1
      subst hU
      refine seqU fun U hU => ?_
      refine wIf_hide fun B hB => ?_
      walk_at "R"
      have odd : B { nx := U { nx := fun x G1 => ∃ G0, GLe G0 G1 ∧ q W.non G0, rt := fun w G1 => ∃ G0, GLe G0 G1 ∧ q w G0 }, rt := fun w G1 => ∃ G0, GLe G0 G1 ∧ q w G0 } [some (W.ref p), some (W.ref r), some (W.ref h), some (W.int X), some (W.tup (encT t)), some (W.tup (wayW w)), none] G := by
        subst hB
        walk_at "R"
        refine ⟨by (clear F F1 F2 F3 F4 F5 ml mL nd hr hX0 hX1 hG hOk hts hS hsh hmv am bm rm hq ht htp same moved hw x4 e1 e2 tf td hcq n1 hU; omega), by (clear F F1 F2 F3 F4 F5 ml mL nd hr hX0 hX1 hG hOk hts hS hsh hmv am bm rm hq ht htp same moved hw x4 e1 e2 tf td hcq n1 hU; omega), fun p1 hp1 p2 hp2 => ix_new updG_same (pick_at rfl (by simp) fun j x hj hx p3 hp3 => ix_new updG_same (pick_at rfl (by simp) fun j2 y hj2 hy => ?_))⟩
        have g1 : updG G p1 (.lst (wayW w)) p1 = some (.lst (wayW w)) := updG_same
        have le2 := (GLe.new (g := GO.lst (wayW w)) hp1).trans (GLe.new (g := .lst [W.tup (wayW w ++ [W.int 0]), W.tup [], W.ref p1, W.non, W.tup [W.int (-1)], W.str (Str.ofString "0")]) hp2)
        have le3 := le2.trans (GLe.new (g := .lst [W.int 0, W.int 1, W.int 3, W.non]) hp3)
        have g3 := updG_ne' (g := .lst [W.int 0, W.int 1, W.int 3, W.non]) (updG_ne' (g := .lst [W.tup (wayW w ++ [W.int 0]), W.tup [], W.ref p1, W.non, W.tup [W.int (-1)], W.str (Str.ofString "0")]) g1 hp2) hp3
        generalize updG (updG (updG G p1 (.lst (wayW w))) p2 (.lst [W.tup (wayW w ++ [W.int 0]), W.tup [], W.ref p1, W.non, W.tup [W.int (-1)], W.str (Str.ofString "0")])) p3 (.lst [W.int 0, W.int 1, W.int 3, W.non]) = G3 at le3 g3 ⊢
        refine ⟨p, a, b, ts, t, x, y, "no head", rfl, (hG.le le3).pl, by omega, by exact Nat.le_trans (by assumption) (Nat.le_of_ble_eq_true rfl), by omega, .odd ?_ (.inl ⟨rfl, rfl⟩), rfl, rfl, by decide, GLe.done (same _ le3)⟩
        have hm := List.mem_of_getElem? hx
        simp only [List.mem_cons, List.mem_nil_iff, or_false] at hm
        rcases hm with rfl | rfl | rfl | rfl | rfl | rfl
        · exact .inr (.inr (.inr (.inr (.inr (.inl ⟨w, .z, _, [], rfl, hw, .inr (by decide)⟩)))))
        · exact .inr (.inr (.inr (.inr (.inl rfl))))
        · exact .inr (.inr (.inr (.inl ⟨_, _, rfl, g3⟩)))
        · exact .inl rfl
        · exact .inr (.inr (.inr (.inr (.inr (.inl ⟨[], t, _, [], rfl, rfl, .inl (by decide)⟩)))))
        · exact .inr (.inr (.inl ⟨_, rfl⟩))
      have r3 : X % 8 ≠ 5 → (X % 8 < 4 → t ≠ .z) → U { nx := fun x G1 => ∃ G0, GLe G0 G1 ∧ q W.non G0, rt := fun w G1 => ∃ G0, GLe G0 G1 ∧ q w G0 } [some (W.ref p), some (W.ref r), some (W.ref h), some (W.int X), some (W.tup (encT t)), some (W.tup (wayW w)), none] G := by
        intro n2 n3
        clear odd hB n1
        subst hU
        refine seqU fun U hU => ?_
        walk_at "R"
        have r4 : U { nx := fun x G1 => ∃ G0, GLe G0 G1 ∧ q W.non G0, rt := fun w G1 => ∃ G0, GLe G0 G1 ∧ q w G0 } [some (W.ref p), some (W.ref r), some (W.ref h), some (W.int X), some (W.tup (encT t)), some (W.tup (wayW w)), none] G := by
          subst hU
          refine seqU fun U hU => ?_
          walk_at "R"
          by_cases x4 : X % 8 < 4
          · rw [if_pos x4]
            refine ⟨p, a, b, r, ts, t, X / 8, rfl, by (clear F F1 F2 F3 F4 F5 ml mL nd hr hG hOk hts hS hsh hmv am bm rm hq ht htd htp same moved hw e1 e2 tf td hcq wl lw n2 n3 hU; omega), hG, hOk, n3 x4, fun G' u hG' hu hK => GLe.done (moved _ G' hG' ⟨fun v hv => ?_, ?_⟩ (by simp) ?_ hK)⟩
            · rcases List.mem_append.mp hv with hv | hv
              · exact hOk.1 v hv
              · rw [List.mem_singleton.mp hv]; exact hu
            · simp only [List.length_append, List.length_singleton]; omega
            · simp only [List.length_append, List.length_singleton]; omega
          · rw [if_neg x4]
            subst hU
            walk_at "R"
            refine ⟨p, a, b, r, h, ts, t, sh, mv, X / 8, rfl, hG, hOk, hS, hsh, hmv, am, bm, rm, fun G' sh' hS' hl' hK => GLe.done (hq G' ts t sh' (hG.keep hK ?_ ?_ ?_ ?_) hOk (by omega) hS' hl' fun x g n e => hK x g (fun m => n ?_) e)⟩
            · exact fun m => ins_ne hG.pl.1 hS.at_ (List.mem_singleton.mp m)
            · exact fun m => hS.ou (List.mem_singleton.mp m ▸ am)
            · exact fun m => hS.ou (List.mem_singleton.mp m ▸ bm)
            · exact fun m => hS.ou (List.mem_singleton.mp m ▸ rm)
            · rw [List.mem_singleton.mp m]; simp
        by_cases x6 : X % 8 = 6
        · rw [if_pos x6]
          by_cases l1 : ((wayW w).length : Int) > 1
          · rw [if_pos l1]
            have tz : t ≠ .z := fun z => by
              subst z
              cases w with
              | nil => simp [wayW] at l1
              | cons i w =>
                obtain ⟨b, h1, _⟩ := Tr.subT_cons hw
                cases h1
            obtain ⟨s1, hc, h2⟩ := hcq tz
            obtain ⟨m, hm⟩ := Int.eq_ofNat_of_zero_le (show 0 ≤ 600 + X / 8 by omega)
            rw [hm]
            refine ⟨p, a, b, ts, t, _, _, "too great", rfl, hG.pl, by omega, by exact Nat.le_trans (by assumption) (Nat.le_of_ble_eq_true rfl), by omega, .great rfl hc rfl (by omega) ?_ (.inr (.inr ⟨rfl, rfl⟩)), rfl, rfl, by decide, GLe.done (same _ (GLe.refl _))⟩
            unfold leftT
            have tp := (Tr.subT_pts hc.s).1
            have m1 : m * 1 ≤ m * (s1.pts - 1) := Nat.mul_le_mul_left _ (by omega)
            rw [if_neg (by omega)]
            omega
          · rw [if_neg l1]
            exact r4
        · rw [if_neg x6]
          exact r4
      by_cases x5 : X % 8 = 5
      · rw [if_pos x5]
        exact odd
      · rw [if_neg x5]
        by_cases x4 : X % 8 < 4
        · rw [if_pos x4]
          refine ⟨tf, by omega, ?_⟩
          by_cases tz : t = .z
          · rw [e1 tz, if_pos rfl]
            exact odd
          · rw [e2 tz, if_neg (by decide)]
            exact r3 x5 fun _ => tz
        · rw [if_neg x4]
          exact r3 x5 fun z => absurd z x4
    by_cases x5 : X % 8 = 5
    · rw [if_pos x5]
      refine ⟨tf, by (clear F F1 F2 F3 F4 F5 ml mL nd hr hX0 hX1 hG hOk hts hS hsh hmv am bm rm hq ht htp same moved hw x4 e1 e2 tf hcq wl lw hU r2 x5; omega), ?_⟩
      by_cases tz : t = .z
      · rw [e1 tz, if_neg (by decide)]
        exact r2 fun z => z.2.1 tz
      · rw [e2 tz, if_pos rfl]
        by_cases x3 : X / 8 % 3 = 1
        · rw [if_pos x3]
          intro p1 hp1
          refine ix_new updG_same (pick_at rfl (by simp) fun j y hj hy => ?_)
          have le1 := GLe.new (g := .lst [W.int (-1), W.bl true, W.non, W.str (Str.ofString "1")]) hp1
          generalize updG G p1 (.lst [W.int (-1), W.bl true, W.non, W.str (Str.ofString "1")]) = G1 at le1 ⊢
          obtain ⟨s1, hc, _⟩ := hcq tz
          have hm := List.mem_of_getElem? hy
          simp only [List.mem_cons, List.mem_nil_iff, or_false] at hm
          refine ⟨p, a, b, ts, t, _, y, "no number", rfl, (hG.le le1).pl, by omega, by exact Nat.le_trans (by assumption) (Nat.le_of_ble_eq_true rfl), by omega, .num rfl hc ?_ ?_ (.inr (.inl ⟨rfl, rfl⟩)), rfl, rfl, by decide, GLe.done (same _ le1)⟩
          · rcases hm with rfl | rfl | rfl | rfl <;> trivial
          · rcases hm with rfl | rfl | rfl | rfl <;> first | rfl | exact decide_eq_false (by omega)
        · rw [if_neg x3]
          exact r2 fun z => x3 z.2.2
    · rw [if_neg x5]
      exact r2 fun z => x5 z.1
noncomputable def spAb (C : Addr) : WSp := fun ws G q _ => ∃ (p a b r h : Addr) (ts : List Tr) (t : Tr) (sh : List (Addr × Addr)) (mv : List Addr), ws = [.ref p, .ref r, .ref h] ∧ Gm C G p a b r (ts ++ [t]) ∧ OkL (ts ++ [t]) ∧ Sh G h sh mv ∧ sh.length < 100 ∧ (∀ x, x ∈ mv → ∃ g, G x = some g) ∧ a ∈ mv ∧ b ∈ mv ∧ r ∈ mv ∧ ∀ G' t' sh', Gm C G' p a b r ([] ++ [t']) → OkL ([] ++ [t']) → Sh G' h sh' mv → sh'.length ≤ sh.length + 1 → KpL [a, b, r, h] G G' → q (.bl true) G'
theorem KpL.sub {l m : List Addr} {G G' : Gp} (h : KpL l G G') (k : ∀ x, x ∈ l → x ∈ m) : KpL m G G' := fun x g n e => h x g (fun z => n (k x z)) e
theorem Kp3.ex {a b r : Addr} {G G' : Gp} {mv : List Addr} (h : Kp3 a b r G G') (ha : ∃ g, G' a = some g) (hb : ∃ g, G' b = some g) (hr : ∃ g, G' r = some g) (k : ∀ x, x ∈ mv → ∃ g, G x = some g) : ∀ x, x ∈ mv → ∃ g, G' x = some g := fun x hx => by
  by_cases h1 : x = a
  · rw [h1]; exact ha
  by_cases h2 : x = b
  · rw [h2]; exact hb
  by_cases h3 : x = r
  · rw [h3]; exact hr
  obtain ⟨g, e⟩ := k x hx
  exact ⟨g, h x g h1 h2 h3 e⟩
theorem Gm.exs {C : Addr} {G : Gp} {p a b r : Addr} {ts : List Tr} (h : Gm C G p a b r ts) : (∃ g, G a = some g) ∧ (∃ g, G b = some g) ∧ ∃ g, G r = some g := ⟨⟨_, h.pl.2.1⟩, ⟨_, h.pl.2.2.1⟩, ⟨_, h.ln⟩⟩
theorem scAb : FnScope ["_law_play", "_law_line", "_law_shelf"] ["_law_play", "_law_line", "_law_shelf"] (defScope (top 50)) := ⟨rfl, rfl, rfl, by decide +kernel, rfl, by decide +kernel, by decide +kernel⟩
theorem fnAb {C : Addr} (F : Fun K "_law_all_back" "_law_all_back" (top 50) f fd) (F1 : Fx P w K mg base "_law_back" ["_law_play", "_law_line"] 41 (spBa C)) (F2 : Fx P w K mg base "_law_look" ["_law_play", "_law_line", "_law_shelf", "_law_mixed"] 41 (spLk C)) (ml : mg "len" = none) : WFn P w K mg base 42 f fd ["_law_play", "_law_line", "_law_shelf"] (spAb C) := by
  have nd := scAb.nd
  refine fn3 (k := 41) F scAb (fun ws G q e h => by obtain ⟨_, _, _, _, _, _, _, _, _, rfl, _⟩ := h; rfl) (fun cdv A outer s H E hr => ?_)
  apply bodyOf
  · exact (qss_cons (qs_while PySem.PassesOwn.never (qt_cmp q_gt (qe_callB q_len rfl ml PySem.boot_len (qa_cons (qe_var 1 rfl (.inl rfl)) qa_nil)) qe_int (nomark _)) (qss_cons (qs_if (qt_not (qt_val (qe_fxn F1 (Room.mono hr (by omega)) rfl (qa_cons (qe_var 0 rfl (.inl rfl)) (qa_cons (qe_var 1 rfl (.inl rfl)) qa_nil))))) (qss_cons (qs_ret qe_bl) qss_nil) qss_nil) qss_nil)) (qss_cons (qs_ret (qe_and (qe_fxn F1 (Room.mono hr (by omega)) rfl (qa_cons (qe_var 0 rfl (.inl rfl)) (qa_cons (qe_var 1 rfl (.inl rfl)) qa_nil))) (qe_one (qe_fxn F2 (Room.mono hr (by omega)) rfl (qa_cons (qe_var 0 rfl (.inl rfl)) (qa_cons (qe_var 1 rfl (.inl rfl)) (qa_cons (qe_var 2 rfl (.inl rfl)) (qa_cons qe_int qa_nil)))))))) qss_nil))
  · rintro ws G q e ⟨p, a, b, r, h, ts, t, sh, mv, rfl, hG, hOk, hS, hsh, hmv, am, bm, rm, hq⟩
    refine seqU fun U hU => ?_
    refine whileW (fun j τ G' => τ = [some (.ref p), some (.ref r), some (.ref h)] ∧ ∃ (us : List Tr) (u : Tr), Gm C G' p a b r (us ++ [u]) ∧ OkL (us ++ [u]) ∧ Kp3 a b r G G' ∧ j = us.length) ⟨_, rfl, ts, t, hG, hOk, .of (GLe.refl _), rfl⟩ ?_
    rintro j τ G1 ⟨rfl, us, u, hG1, hO1, hK1, rfl⟩ B' hB'
    walk_at "R"
    refine ⟨_, hG1.ln, ?_⟩
    rw [line_len, List.length_append, List.length_singleton]
    by_cases l1 : ((us.length + 1 : Nat) : Int) > 1
    · rw [if_pos l1]
      refine ⟨fun τ1 G1 => τ1 = [some (.ref p), some (.ref r), some (.ref h)] ∧ ∃ (vs : List Tr) (v : Tr), Gm C G1 p a b r (vs ++ [v]) ∧ OkL (vs ++ [v]) ∧ Kp3 a b r G G1 ∧ vs.length < us.length, ?_, ?_⟩
      · rintro τ1 G2 ⟨rfl, vs, v, h1, h2, h3, h4⟩
        exact ⟨vs.length, h4, rfl, vs, v, h1, h2, h3, rfl⟩
      · subst hB'
        walk_at "R"
        refine ⟨p, a, b, r, us, u, rfl, hG1, hO1, fun G' hG' hK => ?_⟩
        walk_at "R"
        have hne : us ≠ [] := fun z => by rw [z] at l1; exact absurd l1 (by decide)
        unfold bkL at hG'
        rw [if_neg hne] at hG'
        obtain ⟨vs, v, rfl⟩ := snoc_of hne
        refine ⟨vs, v, hG', ⟨fun x hx => hO1.1 x (List.mem_append_left _ hx), ?_⟩, hK1.trans hK, by rw [List.length_append, List.length_singleton]; (clear F F1 F2 ml nd hr hG hOk hS hsh hmv am bm rm hq hU hK1 hK hG1 hO1 l1 hG' hne; omega)⟩
        have := hO1.2
        rw [List.length_append] at this
        (clear F F1 F2 ml nd hr hG hOk hS hsh hmv am bm rm hq hU hK1 hK hG1 hO1 l1 hG' hne; omega)
    · rw [if_neg l1]
      have hz : us = [] := List.length_eq_zero_iff.mp (by (clear F F1 F2 ml nd hr hG hOk hS hsh hmv am bm rm hq hU hG1 hO1 hK1 hB'; omega))
      subst hz
      subst hU
      walk_at "R"
      refine ⟨p, a, b, r, [], u, rfl, hG1, hO1, fun G' hG' hK => ?_⟩
      walk_at "R"
      have hG2 : Gm C G' p a b r ([] ++ [u]) := hG'
      have hk2 := hK1.trans hK
      have hS2 := hS.keep (KpL.of3 hk2 am bm rm)
      obtain ⟨x1, x2, x3⟩ := hG2.exs
      refine ⟨p, a, b, r, h, [], u, sh, mv, 0, rfl, hG2, hO1, hS2, hsh, hk2.ex x1 x2 x3 hmv, am, bm, rm, fun G3 sh' hS3 hl3 hK3 => GLe.done (hq G3 u sh' (hG2.keep hK3 ?_ ?_ ?_ ?_) hO1 hS3 hl3 ?_)⟩
      · exact fun m => ins_ne hG2.pl.1 hS2.at_ (List.mem_singleton.mp m)
      · exact fun m => hS.ou (List.mem_singleton.mp m ▸ am)
      · exact fun m => hS.ou (List.mem_singleton.mp m ▸ bm)
      · exact fun m => hS.ou (List.mem_singleton.mp m ▸ rm)
      · exact (KpL.of3 hk2 (by simp) (by simp) (by simp)).trans (hK3.sub fun x hx => by rw [List.mem_singleton.mp hx]; simp)
structure Gd where
  p : Addr
  a : Addr
  b : Addr
  r : Addr
noncomputable def Gd.mv (g : Gd) : List Addr := [g.a, g.b, g.r]
noncomputable def mvs (gs : List Gd) (pl li : Addr) : List Addr := gs.flatMap Gd.mv ++ [pl, li]
theorem mem_mvs {gs : List Gd} {pl li x : Addr} : x ∈ mvs gs pl li ↔ (∃ g, g ∈ gs ∧ x ∈ g.mv) ∨ x = pl ∨ x = li := by
  unfold mvs
  rw [List.mem_append, List.mem_flatMap]
  simp
structure Tbl (C : Addr) (G : Gp) (pl li h : Addr) (gs : List Gd) (n : Nat) : Prop where
  pl_ : G pl = some (.lst (gs.map fun g => .ref g.p))
  li_ : G li = some (.lst (gs.map fun g => .ref g.r))
  gm : ∀ g, g ∈ gs → ∃ ts t, Gm C G g.p g.a g.b g.r (ts ++ [t]) ∧ OkL (ts ++ [t]) ∧ ts.length ≤ n
  sh : ∃ sh, Sh G h sh (mvs gs pl li) ∧ sh.length ≤ n
  ne : pl ≠ li
  nl : ∀ g, g ∈ gs → pl ∉ g.mv ∧ li ∉ g.mv
  dis : ∀ g g', g ∈ gs → g' ∈ gs → g ≠ g' → ∀ x, x ∈ g'.mv → x ∉ g.mv
theorem Tbl.ex {C : Addr} {G : Gp} {pl li h : Addr} {gs : List Gd} {n : Nat} (T : Tbl C G pl li h gs n) : ∀ x, x ∈ mvs gs pl li → ∃ g, G x = some g := fun x hx => by
  rcases mem_mvs.mp hx with ⟨g, hg, hx⟩ | rfl | rfl
  · obtain ⟨ts, t, hG, _⟩ := T.gm g hg
    simp only [Gd.mv, List.mem_cons, List.not_mem_nil, or_false] at hx
    rcases hx with rfl | rfl | rfl
    · exact ⟨_, hG.pl.2.1⟩
    · exact ⟨_, hG.pl.2.2.1⟩
    · exact ⟨_, hG.ln⟩
  · exact ⟨_, T.pl_⟩
  · exact ⟨_, T.li_⟩
theorem Tbl.upd {C : Addr} {G G' : Gp} {pl li h : Addr} {gs : List Gd} {n n' : Nat} {g : Gd} {ts : List Tr} {t : Tr} {sh : List (Addr × Addr)} (T : Tbl C G pl li h gs n) (hn : n ≤ n') (hg : g ∈ gs) (hG : Gm C G' g.p g.a g.b g.r (ts ++ [t])) (hO : OkL (ts ++ [t])) (hl : ts.length ≤ n') (hS : Sh G' h sh (mvs gs pl li)) (hs : sh.length ≤ n') (hK : KpL [g.a, g.b, g.r, h] G G') : Tbl C G' pl li h gs n' := by
  have out : ∀ x, x ∈ mvs gs pl li → x ∉ g.mv → x ∉ [g.a, g.b, g.r, h] := fun x hx hn z => by
    simp only [Gd.mv, List.mem_cons, List.not_mem_nil, or_false, not_or] at hn z
    rcases z with z | z | z | z
    · exact hn.1 z
    · exact hn.2.1 z
    · exact hn.2.2 z
    · exact hS.ou (z ▸ hx)
  have o1 := out pl (mem_mvs.mpr (.inr (.inl rfl))) (T.nl g hg).1
  have o2 := out li (mem_mvs.mpr (.inr (.inr rfl))) (T.nl g hg).2
  refine ⟨hK _ _ o1 T.pl_, hK _ _ o2 T.li_, fun g' hg' => ?_, ⟨sh, hS, hs⟩, T.ne, T.nl, T.dis⟩
  by_cases e : g' = g
  · subst e
    exact ⟨ts, t, hG, hO, hl⟩
  · obtain ⟨us, u, h1, h2, h3⟩ := T.gm g' hg'
    obtain ⟨sh0, hS0, _⟩ := T.sh
    have o3 : ∀ x, x ∈ g'.mv → x ∉ [g.a, g.b, g.r, h] := fun x hx => out x (mem_mvs.mpr (.inl ⟨g', hg', hx⟩)) (T.dis g g' hg hg' (fun z => e z.symm) x hx)
    obtain ⟨vs, v, k1, _⟩ := T.gm g hg
    refine ⟨us, u, h1.keep hK (fun z => ?_) (o3 _ (by simp [Gd.mv])) (o3 _ (by simp [Gd.mv])) (o3 _ (by simp [Gd.mv])), h2, Nat.le_trans h3 hn⟩
    simp only [List.mem_cons, List.not_mem_nil, or_false] at z
    rcases z with z | z | z | z
    · exact ins_ne h1.pl.1 k1.pl.2.1 z
    · exact ins_ne h1.pl.1 k1.pl.2.2.1 z
    · exact ins_ne h1.pl.1 k1.ln z
    · exact ins_ne h1.pl.1 hS0.at_ z
theorem Tbl.add {C : Addr} {G G' : Gp} {pl li h : Addr} {gs : List Gd} {n : Nat} {g : Gd} {t : Tr} (T : Tbl C G pl li h gs n) (hK : KpL [pl, li] G G') (h1 : G' pl = some (.lst ((gs ++ [g]).map fun g => .ref g.p))) (h2 : G' li = some (.lst ((gs ++ [g]).map fun g => .ref g.r))) (hG : Gm C G' g.p g.a g.b g.r ([] ++ [t])) (hO : OkT t) (fr : ∀ x, x ∈ g.mv → G x = none) : Tbl C G' pl li h (gs ++ [g]) n := by
  have nw : ∀ x v, G x = some v → x ∉ g.mv := fun x v e z => by rw [fr x z] at e; cases e
  obtain ⟨sh, hS, hs⟩ := T.sh
  have old : ∀ x, x ∉ mvs gs pl li → x ∉ [pl, li] := fun x hx z => hx (mem_mvs.mpr (.inr (by simpa using z)))
  have nwm : ∀ x v, G x = some v → x ∉ mvs gs pl li → x ∉ mvs (gs ++ [g]) pl li := fun x v e hx z => by
    rcases mem_mvs.mp z with ⟨g', hg', z⟩ | z
    · rcases List.mem_append.mp hg' with hg' | hg'
      · exact hx (mem_mvs.mpr (.inl ⟨g', hg', z⟩))
      · rw [List.mem_singleton.mp hg'] at z; exact nw _ _ e z
    · exact hx (mem_mvs.mpr (.inr z))
  refine ⟨h1, h2, fun g' hg' => ?_, ⟨sh, ⟨hK _ _ (old _ hS.ou) hS.at_, nwm _ _ hS.at_ hS.ou, hS.li, fun x hx => ?_⟩, hs⟩, T.ne, fun g' hg' => ?_, fun g1 g2 hg1 hg2 hne x hx z => ?_⟩
  · rcases List.mem_append.mp hg' with hg' | hg'
    · obtain ⟨us, u, k1, k2, k3⟩ := T.gm g' hg'
      have nl := T.nl g' hg'
      have o : ∀ x, x ∈ g'.mv → x ∉ [pl, li] := fun x hx z => by
        simp only [List.mem_cons, List.not_mem_nil, or_false] at z
        rcases z with z | z
        · exact nl.1 (z ▸ hx)
        · exact nl.2 (z ▸ hx)
      refine ⟨us, u, k1.keep hK (fun z => ?_) (o _ (by simp [Gd.mv])) (o _ (by simp [Gd.mv])) (o _ (by simp [Gd.mv])), k2, k3⟩
      simp only [List.mem_cons, List.not_mem_nil, or_false] at z
      rcases z with z | z
      · exact ins_ne k1.pl.1 T.pl_ z
      · exact ins_ne k1.pl.1 T.li_ z
    · rw [List.mem_singleton.mp hg']
      exact ⟨[], t, hG, ⟨fun u hu => by rw [List.mem_singleton.mp hu]; exact hO, by simp⟩, Nat.zero_le _⟩
  · obtain ⟨a1, a2, a3, a4, xs, a5, a6, a7⟩ := hS.al x hx
    exact ⟨nwm _ _ a5 a1, nwm _ _ a6 a2, a3, a4, xs, hK _ _ (old _ a1) a5, hK _ _ (old _ a2) a6, a7⟩
  · rcases List.mem_append.mp hg' with hg' | hg'
    · exact T.nl g' hg'
    · rw [List.mem_singleton.mp hg']
      exact ⟨nw _ _ T.pl_, nw _ _ T.li_⟩
  · rcases List.mem_append.mp hg1 with k1 | k1
    · rcases List.mem_append.mp hg2 with k2 | k2
      · exact T.dis g1 g2 k1 k2 hne x hx z
      · rw [List.mem_singleton.mp k2] at hx
        obtain ⟨v, e⟩ := T.ex x (mem_mvs.mpr (.inl ⟨g1, k1, z⟩))
        exact nw _ _ e hx
    · rcases List.mem_append.mp hg2 with k2 | k2
      · rw [List.mem_singleton.mp k1] at z
        obtain ⟨v, e⟩ := T.ex x (mem_mvs.mpr (.inl ⟨g2, k2, hx⟩))
        exact nw _ _ e z
      · exact hne ((List.mem_singleton.mp k1).trans (List.mem_singleton.mp k2).symm)
theorem cut_ft (xs : List W) (a b : Nat) : ∃ x y : Nat, cutW xs (some (a : Int)) (some (b : Int)) = (xs.drop x).take y ∧ y ≤ b - a := by
  unfold cutW
  rw [HT.sIx_nat, HT.sIx_nat]
  exact ⟨_, _, rfl, by omega⟩
theorem Tbl.pick {gs : List Gd} {j : Nat} (h : j < gs.length) : ∃ g, g ∈ gs ∧ atI (gs.map fun g => W.ref g.p) (j : Int) = some (.ref g.p) ∧ atI (gs.map fun g => W.ref g.r) (j : Int) = some (.ref g.r) :=
  ⟨gs[j], List.getElem_mem h, atI_nat (by rw [List.getElem?_map, List.getElem?_eq_getElem h]; rfl), atI_nat (by rw [List.getElem?_map, List.getElem?_eq_getElem h]; rfl)⟩
theorem Tbl.mono {C : Addr} {G : Gp} {pl li h : Addr} {gs : List Gd} {n n' : Nat} (T : Tbl C G pl li h gs n) (hn : n ≤ n') : Tbl C G pl li h gs n' :=
  ⟨T.pl_, T.li_, fun g hg => by obtain ⟨ts, t, h1, h2, h3⟩ := T.gm g hg; exact ⟨ts, t, h1, h2, Nat.le_trans h3 hn⟩, by obtain ⟨sh, h1, h2⟩ := T.sh; exact ⟨sh, h1, Nat.le_trans h2 hn⟩, T.ne, T.nl, T.dis⟩
theorem Tbl.looked {C : Addr} {G G' : Gp} {pl li h : Addr} {gs : List Gd} {n n' : Nat} {g : Gd} {sh : List (Addr × Addr)} (T : Tbl C G pl li h gs n) (hn : n ≤ n') (hg : g ∈ gs) (hS : Sh G' h sh (mvs gs pl li)) (hs : sh.length ≤ n') (hK : KpL [h] G G') : Tbl C G' pl li h gs n' := by
  obtain ⟨ts, t, h1, h2, h3⟩ := T.gm g hg
  obtain ⟨sh0, hS0, _⟩ := T.sh
  have o : ∀ x, x ∈ g.mv → x ∉ [h] := fun x hx m => hS0.ou (mem_mvs.mpr (.inl ⟨g, hg, List.mem_singleton.mp m ▸ hx⟩))
  exact T.upd hn hg (h1.keep hK (fun m => ins_ne h1.pl.1 hS0.at_ (List.mem_singleton.mp m)) (o _ (by simp [Gd.mv])) (o _ (by simp [Gd.mv])) (o _ (by simp [Gd.mv]))) h2 (Nat.le_trans h3 hn) hS hs (hK.sub fun x hx => by rw [List.mem_singleton.mp hx]; simp)
theorem Gd.in_ {gs : List Gd} {pl li : Addr} {g : Gd} (hg : g ∈ gs) : g.a ∈ mvs gs pl li ∧ g.b ∈ mvs gs pl li ∧ g.r ∈ mvs gs pl li :=
  ⟨mem_mvs.mpr (.inl ⟨g, hg, by simp [Gd.mv]⟩), mem_mvs.mpr (.inl ⟨g, hg, by simp [Gd.mv]⟩), mem_mvs.mpr (.inl ⟨g, hg, by simp [Gd.mv]⟩)⟩
theorem scLw : FnScope ["_law_script", "_law_plays", "_law_lines", "_law_shelf", "_law_k", "_law_tree_here", "_law_mixed", "_law_told", "_law_kept"] ["_law_script"] (defScope (top 51)) := ⟨rfl, rfl, rfl, by decide +kernel, rfl, by decide +kernel, by decide +kernel⟩
theorem fnLw {C : Addr} (F : Fun K "law" "law" (top 51) f fd) (N1 : New P w K mg base "Play" C ["self", "tree"] 43 (spIt C)) (F1 : Fx P w K mg base "_law_tree" ["_law_cells", "_law_most"] 2 spTr) (F2 : Fx P w K mg base "_law_number" ["_law_tree_here"] 77 (spLn 16)) (F3 : Fx P w K mg base "_law_mix" ["_law_cell", "_law_k"] 1 spMk) (F4 : Fx P w K mg base "_law_deed" ["_law_play", "_law_line", "_law_shelf", "_law_mixed"] 79 (spDe C)) (F5 : Fx P w K mg base "_law_look" ["_law_play", "_law_line", "_law_shelf", "_law_mixed"] 41 (spLk C)) (F6 : Fx P w K mg base "_law_cutting" ["_law_play", "_law_line", "_law_mixed"] 78 (spCt C)) (F7 : Fx P w K mg base "_law_all_back" ["_law_play", "_law_line", "_law_shelf"] 42 (spAb C)) (mr : mg "range" = none) (mm : mg "min" = none) (ml : mg "len" = none) : WFn P w K mg base 80 f fd ["_law_script"] spLawC := by
  have nd := scLw.nd
  refine fn3 (k := 79) F scLw (fun ws G q e h => by obtain ⟨_, rfl, _⟩ := h; rfl) (fun cdv A outer s H E hr => ?_)
  apply bodyOf
  · exact (qss_cons (qs_set 1 nd rfl (.inl rfl) (qe_lst qa_nil)) (qss_cons (qs_set 2 nd rfl (.inl rfl) (qe_lst qa_nil)) (qss_cons (qs_set 3 nd rfl (.inl rfl) (qe_lst qa_nil)) (qss_cons (qs_for PySem.PassesOwn.never rfl (qi_range rfl mr (qa_cons qe_int qa_nil)) (qg_name 4 nd rfl (.inl rfl)) (qss_cons (qs_set 5 nd rfl (.inl rfl) (qe_fxn F1 (Room.mono hr (by omega)) rfl (qa_cons (qe_slice (qe_var 0 rfl (.inl rfl)) (qo_some (qe_op q_mulT qe_int (qe_var 4 rfl (.inl rfl)))) (qo_some (qe_op q_add (qe_op q_mulT qe_int (qe_var 4 rfl (.inl rfl))) qe_int))) (qa_cons qe_int qa_nil)))) (qss_cons (qs_expr (qe_app (qe_var 1 rfl (.inl rfl)) (qe_new N1 (Room.mono hr (by omega)) rfl (qa_cons (qe_var 5 rfl (.inl rfl)) qa_nil)))) (qss_cons (qs_expr (qe_app (qe_var 2 rfl (.inl rfl)) (qe_lst (qa_cons (qe_tup (qa_cons (qe_var 5 rfl (.inl rfl)) (qa_cons (qe_fxn F2 (Room.mono hr (by omega)) rfl (qa_cons (qe_var 5 rfl (.inl rfl)) qa_nil)) qa_nil))) qa_nil)))) qss_nil)))) (qss_cons (qs_for PySem.PassesOwn.never rfl (qi_range rfl mr (qa_cons (qe_callB (q_min rfl) rfl mm b_min (qa_cons qe_int (qa_cons (qe_callB q_len rfl ml PySem.boot_len (qa_cons (qe_var 0 rfl (.inl rfl)) qa_nil)) qa_nil))) qa_nil)) (qg_name 4 nd rfl (.inl rfl)) (qss_cons (qs_set 6 nd rfl (.inl rfl) (qe_fxn F3 (Room.mono hr (by omega)) rfl (qa_cons (qe_ix q_ix (qe_var 0 rfl (.inl rfl)) (qe_var 4 rfl (.inl rfl)) (fun _ _ => rfl)) (qa_cons (qe_op q_add qe_int (qe_var 4 rfl (.inl rfl))) qa_nil)))) (qss_cons (qs_if (qt_not (qt_val (qe_fxn F4 (Room.mono hr (by omega)) rfl (qa_cons (qe_ix q_ix (qe_var 1 rfl (.inl rfl)) (qe_op q_mod (qe_var 6 rfl (.inl rfl)) qe_int) (fun _ _ => rfl)) (qa_cons (qe_ix q_ix (qe_var 2 rfl (.inl rfl)) (qe_op q_mod (qe_var 6 rfl (.inl rfl)) qe_int) (fun _ _ => rfl)) (qa_cons (qe_var 3 rfl (.inl rfl)) (qa_cons (qe_op q_divB (qe_var 6 rfl (.inl rfl)) qe_int) qa_nil))))))) (qss_cons (qs_ret qe_bl) qss_nil) qss_nil) qss_nil))) (qss_cons (qs_for PySem.PassesOwn.never rfl (qi_range rfl mr (qa_cons qe_int qa_nil)) (qg_name 4 nd rfl (.inl rfl)) (qss_cons (qs_if (qt_not (qt_val (qe_fxn F5 (Room.mono hr (by omega)) rfl (qa_cons (qe_ix q_ix (qe_var 1 rfl (.inl rfl)) (qe_var 4 rfl (.inl rfl)) (fun _ _ => rfl)) (qa_cons (qe_ix q_ix (qe_var 2 rfl (.inl rfl)) (qe_var 4 rfl (.inl rfl)) (fun _ _ => rfl)) (qa_cons (qe_var 3 rfl (.inl rfl)) (qa_cons (qe_var 4 rfl (.inl rfl)) qa_nil))))))) (qss_cons (qs_ret qe_bl) qss_nil) qss_nil) qss_nil)) (qss_cons (qs_for PySem.PassesOwn.never rfl (qi_range rfl mr (qa_cons qe_int qa_nil)) (qg_name 4 nd rfl (.inl rfl)) (qss_cons (qs_if (qt_w (qw_and (qt_cmp (q_ne4 hr) (qe_ix q_ix (qe_ix q_ix (qe_ix q_ix (qe_var 2 rfl (.inl rfl)) qe_int (fun _ _ => rfl)) (qe_neg qe_int) (fun _ _ => rfl)) qe_int (fun _ _ => rfl)) (qe_tup qa_nil) (nomark _)) (qw_and1 (qt_not (qt_val (qe_fxn F6 (Room.mono hr (by omega)) rfl (qa_cons (qe_ix q_ix (qe_var 1 rfl (.inl rfl)) qe_int (fun _ _ => rfl)) (qa_cons (qe_ix q_ix (qe_var 2 rfl (.inl rfl)) qe_int (fun _ _ => rfl)) (qa_cons (qe_op q_add (qe_op q_mulT qe_int (qe_var 4 rfl (.inl rfl))) qe_int) qa_nil))))))))) (qss_cons (qs_ret qe_bl) qss_nil) qss_nil) qss_nil)) (qss_cons (qs_for PySem.PassesOwn.never rfl (qi_range rfl mr (qa_cons qe_int qa_nil)) (qg_name 4 nd rfl (.inl rfl)) (qss_cons (qs_if (qt_not (qt_val (qe_fxn F7 (Room.mono hr (by omega)) rfl (qa_cons (qe_ix q_ix (qe_var 1 rfl (.inl rfl)) (qe_var 4 rfl (.inl rfl)) (fun _ _ => rfl)) (qa_cons (qe_ix q_ix (qe_var 2 rfl (.inl rfl)) (qe_var 4 rfl (.inl rfl)) (fun _ _ => rfl)) (qa_cons (qe_var 3 rfl (.inl rfl)) qa_nil)))))) (qss_cons (qs_ret qe_bl) qss_nil) qss_nil) qss_nil)) (qss_cons (qs_for PySem.PassesOwn.never rfl (qi_seq (qe_var 3 rfl (.inl rfl))) (qg_tup rfl (qgs_cons (qg_name 7 nd rfl (.inl rfl)) (qgs_cons (qg_name 8 nd rfl (.inl rfl)) qgs_nil))) (qss_cons (qs_if (qt_cmp (q_ne4 hr) (qe_var 7 rfl (.inl rfl)) (qe_var 8 rfl (.inl rfl)) (nomark _)) (qss_cons (qs_ret qe_bl) qss_nil) qss_nil) qss_nil)) (qss_cons (qs_ret qe_bl) qss_nil))))))))))
  · rintro ws G q e ⟨ns, rfl, hl, hc, hq⟩
    refine seqU fun U hU => ?_
    walk_at "R"
    intro pl hpl
    subst hU
    refine seqU fun U hU => ?_
    walk_at "R"
    intro li hli
    subst hU
    refine seqU fun U hU => ?_
    walk_at "R"
    intro h hh
    have T0 : Tbl C (updG (updG (updG G pl (.lst [])) li (.lst [])) h (.lst [])) pl li h [] 0 := by
      have g1 := updG_ne' (g := GO.lst []) (updG_ne' (g := GO.lst []) (updG_same (G := G) (a := pl) (g := GO.lst [])) hli) hh
      have g2 := updG_ne' (g := GO.lst []) (updG_same (G := updG G pl (.lst [])) (a := li) (g := GO.lst [])) hh
      have n1 : h ≠ pl := fun z => by rw [z, updG_ne' (updG_same) hli] at hh; cases hh
      have n2 : h ≠ li := fun z => by rw [z, updG_same] at hh; cases hh
      have n3 : pl ≠ li := fun z => by rw [← z, updG_same] at hli; cases hli
      exact ⟨g1, g2, fun g hg => (nomatch hg), ⟨[], ⟨updG_same, fun z => by rcases mem_mvs.mp z with ⟨_, hg, _⟩ | z | z; exact (nomatch hg); exact n1 z; exact n2 z, by simp, fun x hx => (nomatch hx)⟩, Nat.le_refl _⟩, n3, fun g hg => (nomatch hg), fun g g' hg => (nomatch hg)⟩
    generalize updG (updG (updG G pl (.lst [])) li (.lst [])) h (.lst []) = Ga at T0 ⊢
    clear hpl hli hh
    subst hU
    refine seqU fun U hU => ?_
    walk_at "R"
    refine loop_up 2 (fun i τ G' => ∃ (gs : List Gd) (t4 t5 : Option W), τ = [some (W.scr ns), some (W.ref pl), some (W.ref li), some (W.ref h), t4, t5, none, none, none] ∧ Tbl C G' pl li h gs 0 ∧ gs.length = i) ⟨[], none, none, rfl, T0, rfl⟩ ?_ ?_
    · rintro τ G1 ⟨gs, t4, t5, rfl, T1, hgs⟩
      refine ⟨trivial, ?_⟩
      clear T0
      dsimp only
      subst hU
      refine seqU fun U hU => ?_
      walk_at "R"
      obtain ⟨N, hN, hN1, hN2⟩ : ∃ N : Nat, (if (ns.length : Int) < 24 then (ns.length : Int) else 24) = (N : Int) ∧ N ≤ 24 ∧ N ≤ ns.length := by
        split
        · exact ⟨ns.length, rfl, by (clear F N1 F1 F2 F3 F4 F5 F6 F7 mr mm ml nd hr hc hq T1 hgs hU; omega), Nat.le_refl _⟩
        · exact ⟨24, rfl, by (clear F N1 F1 F2 F3 F4 F5 F6 F7 mr mm ml nd hr hl hc hq T1 hgs hU; omega), by (clear F N1 F1 F2 F3 F4 F5 F6 F7 mr mm ml nd hr hc hq T1 hgs hU; omega)⟩
      rw [hN, Int.toNat_natCast]
      refine ⟨by omega, by omega, ?_⟩
      refine loop_up N (fun i τ G' => ∃ t4 t5 t6 : Option W, τ = [some (W.scr ns), some (W.ref pl), some (W.ref li), some (W.ref h), t4, t5, t6, none, none] ∧ Tbl C G' pl li h gs i) ⟨t4, t5, none, rfl, T1⟩ ?_ ?_
      · rintro τ G2 ⟨t4, t5, t6, rfl, T2⟩
        refine ⟨trivial, ?_⟩
        have T2' := T2.mono hN1
        clear T1 T2
        dsimp only
        subst hU
        refine seqU fun U hU => ?_
        walk_at "R"
        refine loop_up 2 (fun i τ G' => ∃ t4 : Option W, τ = [some (W.scr ns), some (W.ref pl), some (W.ref li), some (W.ref h), t4, t5, t6, none, none] ∧ Tbl C G' pl li h gs (24 + i)) ⟨t4, rfl, T2'⟩ ?_ ?_
        · rintro τ G3 ⟨t4, rfl, T3⟩
          refine ⟨trivial, ?_⟩
          clear T2'
          dsimp only
          subst hU
          refine seqU fun U hU => ?_
          walk_at "R"
          refine loop_up 12 (fun i τ G' => ∃ t4 : Option W, τ = [some (W.scr ns), some (W.ref pl), some (W.ref li), some (W.ref h), t4, t5, t6, none, none] ∧ Tbl C G' pl li h gs (26 + i)) ⟨t4, rfl, T3⟩ ?_ ?_
          · rintro τ G4 ⟨t4, rfl, T4⟩
            refine ⟨trivial, ?_⟩
            clear T3
            dsimp only
            subst hU
            refine seqU fun U hU => ?_
            walk_at "R"
            refine loop_up 2 (fun i τ G' => ∃ t4 : Option W, τ = [some (W.scr ns), some (W.ref pl), some (W.ref li), some (W.ref h), t4, t5, t6, none, none] ∧ Tbl C G' pl li h gs (38 + i)) ⟨t4, rfl, T4⟩ ?_ ?_
            · rintro τ G5 ⟨t4, rfl, T5⟩
              refine ⟨trivial, ?_⟩
              clear T4
              dsimp only
              subst hU
              refine seqU fun U hU => ?_
              walk_at "R"
              obtain ⟨sh, hS, hs⟩ := T5.sh
              refine ⟨_, hS.at_, loopW_ind (fun ws τ G' => ∃ (l : List (Addr × Addr)) (t7 t8 : Option W), ws = l.map prW ∧ (∀ x, x ∈ l → x ∈ sh) ∧ G' = G5 ∧ τ = [some (W.scr ns), some (W.ref pl), some (W.ref li), some (W.ref h), t4, t5, t6, t7, t8]) ?_ ?_ _ _ _ ⟨sh, none, none, rfl, fun _ z => z, rfl, rfl⟩⟩
              · rintro τ G' ⟨l, t7, t8, _, _, rfl, rfl⟩
                refine ⟨hS.at_, ?_⟩
                dsimp only
                subst hU
                walk_at "R"
                exact GLe.done (hq _)
              · rintro w1 ws τ G' k ⟨l, t7, t8, hw, hm, rfl, rfl⟩ hk
                cases l with
                | nil => cases hw
                | cons x l =>
                  rw [List.map_cons] at hw
                  injection hw with e1 e2
                  subst e1 e2
                  obtain ⟨_, _, _, _, xs, h5, h6, h7, h8⟩ := hS.al x (hm x (.head _))
                  refine ⟨hS.at_, ?_⟩
                  unfold prW
                  walk_at "R"
                  refine ⟨xs, xs, h5, h6, h7, h7, h8, ?_⟩
                  rw [W.eqs_refl xs h7, if_neg (by decide)]
                  exact hk _ _ ⟨l, _, _, rfl, fun y hy => hm y (.tail _ hy), rfl, rfl⟩
            · rintro i τ G5 kk hi ⟨t4, rfl, T5⟩ hk
              refine ⟨trivial, ?_⟩
              clear hU
              obtain ⟨g, hg, ap, ar⟩ := Tbl.pick (gs := gs) (j := i) (by (clear F N1 F1 F2 F3 F4 F5 F6 F7 mr mm ml nd hr hl hc hq hN hN1 hN2 T4 T5 hk; omega))
              obtain ⟨ts, t, hG, hO, hlen⟩ := T5.gm g hg
              obtain ⟨sh, hS, hs⟩ := T5.sh
              have gi := Gd.in_ (pl := pl) (li := li) hg
              walk_at "R"
              refine ⟨_, _, T5.pl_, ap, _, _, T5.li_, ar, g.p, g.a, g.b, g.r, h, ts, t, sh, _, rfl, hG, hO, hS, by (clear F N1 F1 F2 F3 F4 F5 F6 F7 mr mm ml nd hr hl hc hq hgs hN hN1 hN2 T4 T5 hk hg ap ar hG hO hlen hS gi; omega), T5.ex, gi.1, gi.2.1, gi.2.2, fun G' t' sh' k1 k2 k3 k4 k5 => ?_⟩
              walk_at "R"
              exact hk _ _ ⟨_, rfl, T5.upd (by (clear F N1 F1 F2 F3 F4 F5 F6 F7 mr mm ml nd hr hl hc hq hgs hN hN1 hN2 T4 hi T5 hk hg ap ar hG hO hlen hS hs gi k1 k2 k3 k4 k5; omega)) hg k1 k2 (Nat.zero_le _) k3 (by (clear F N1 F1 F2 F3 F4 F5 F6 F7 mr mm ml nd hr hl hc hq hgs hN hN1 hN2 T4 hi T5 hk hg ap ar hG hO hlen hS gi k1 k2 k3 k5; omega)) k5⟩
          · rintro i τ G4 kk hi ⟨t4, rfl, T4⟩ hk
            refine ⟨trivial, ?_⟩
            clear hU
            obtain ⟨g, hg, ap, ar⟩ := Tbl.pick (gs := gs) (j := 0) (by (clear F N1 F1 F2 F3 F4 F5 F6 F7 mr mm ml nd hr hl hc hq hN hN1 hN2 T3 hi T4 hk; omega))
            obtain ⟨ts, t, hG, hO, hlen⟩ := T4.gm g hg
            obtain ⟨sh, hS, hs⟩ := T4.sh
            have gi := Gd.in_ (pl := pl) (li := li) hg
            walk_at "R"
            have ht := hO.1 t (by simp)
            have td := tupT_dep t
            have tdp := ht.1
            refine ⟨_, _, T4.li_, ar, _, _, hG.ln, line_end ts t, _, rfl, tupT_flat t, by (clear F N1 F1 F2 F3 F4 F5 F6 F7 mr mm ml nd hr hl hc hq hgs hN hN1 hN2 T3 hi T4 hk hg ap ar hG hO hlen hS hs gi ht; omega), ?_⟩
            by_cases tz : t = .z
            · rw [(tupT_nil t).mpr tz, if_neg (by decide)]
              exact hk _ _ ⟨_, rfl, T4.mono (by (clear F N1 F1 F2 F3 F4 F5 F6 F7 mr mm ml nd hr hl hc hq hgs hN hN1 hN2 T3 hi T4 hk hg ap ar hG hO hlen hS hs gi ht td tdp tz; omega))⟩
            · have e2 : (W.tup (encT t)).eq (.tup []) = false := by
                cases hb : (W.tup (encT t)).eq (.tup []) with
                | false => rfl
                | true => exact absurd ((tupT_nil t).mp hb) tz
              rw [e2, if_pos rfl]
              refine ⟨_, _, T4.pl_, ap, _, _, T4.li_, ar, g.p, g.a, g.b, g.r, ts, t, _, rfl, by (clear F N1 F1 F2 F3 F4 F5 F6 F7 mr mm ml nd hr hl hc hq hgs hN hN1 hN2 T3 T4 hk hg ap ar hG hO hlen hS hs gi ht td tdp tz e2; omega), hG, hO, tz, fun G' u k1 k2 k3 => ?_⟩
              walk_at "R"
              have kl := KpL.of3 k3 gi.1 gi.2.1 gi.2.2
              refine hk _ _ ⟨_, rfl, T4.upd (by omega) hg k1 ⟨fun v hv => ?_, ?_⟩ ?_ (hS.keep kl) (by omega) (.of3 k3 (by simp) (by simp) (by simp))⟩
              · rcases List.mem_append.mp hv with hv | hv
                · exact hO.1 v hv
                · rw [List.mem_singleton.mp hv]; exact k2
              · simp only [List.length_append, List.length_singleton]; (clear F N1 F1 F2 F3 F4 F5 F6 F7 mr mm ml nd hr hl hc hq hgs hN hN1 hN2 T3 T4 hk hg ap ar hG hO hS hs gi ht td tdp tz e2 k1 k2 k3 kl; omega)
              · simp only [List.length_append, List.length_singleton]; omega
        · rintro i τ G3 kk hi ⟨t4, rfl, T3⟩ hk
          refine ⟨trivial, ?_⟩
          clear hU
          obtain ⟨g, hg, ap, ar⟩ := Tbl.pick (gs := gs) (j := i) (by (clear F N1 F1 F2 F3 F4 F5 F6 F7 mr mm ml nd hr hl hc hq hN hN1 hN2 T2' T3 hk; omega))
          obtain ⟨ts, t, hG, hO, hlen⟩ := T3.gm g hg
          obtain ⟨sh, hS, hs⟩ := T3.sh
          have gi := Gd.in_ (pl := pl) (li := li) hg
          walk_at "R"
          refine ⟨_, _, T3.pl_, ap, _, _, T3.li_, ar, g.p, g.a, g.b, g.r, h, ts, t, sh, _, _, rfl, hG, hO, hS, by (clear F N1 F1 F2 F3 F4 F5 F6 F7 mr mm ml nd hr hl hc hq hgs hN hN1 hN2 T2' T3 hk hg ap ar hG hO hlen hS gi; omega), T3.ex, gi.1, gi.2.1, gi.2.2, fun G' sh' k1 k2 k3 => ?_⟩
          walk_at "R"
          exact hk _ _ ⟨_, rfl, T3.looked (by (clear F N1 F1 F2 F3 F4 F5 F6 F7 mr mm ml nd hr hl hc hq hgs hN hN1 hN2 T2' hi T3 hk hg ap ar hG hO hlen hS hs gi k1 k2 k3; omega)) hg k1 (by (clear F N1 F1 F2 F3 F4 F5 F6 F7 mr mm ml nd hr hl hc hq hgs hN hN1 hN2 T2' hi T3 hk hg ap ar hG hO hlen hS gi k1 k3; omega)) k3⟩
      · rintro i τ G2 kk hi ⟨t4, t5, t6, rfl, T2⟩ hk
        refine ⟨trivial, ?_⟩
        clear hU
        refine seqU fun U1 hU1 => ?_
        walk_at "R"
        refine ⟨_, atI_nat (List.getElem?_eq_getElem (show i < ns.length by (clear F N1 F1 F2 F3 F4 F5 F6 F7 mr mm ml nd hr hl hc hq T1 hgs hN hN1 T2 hk hU1; omega))), _, _, rfl, by (clear F N1 F1 F2 F3 F4 F5 F6 F7 mr mm ml nd hr hl hc hq T1 hgs hN hN1 hN2 hi T2 hk hU1; omega), by (clear F N1 F1 F2 F3 F4 F5 F6 F7 mr mm ml nd hr hl hc hq T1 hgs hN hN2 T2 hk hU1; omega), fun v v0 v1 => ?_⟩
        have vm := mod_in (i := v) (j := 2) (by (clear F N1 F1 F2 F3 F4 F5 F6 F7 mr mm ml nd hr hl hc hq T1 hgs hN hN1 hN2 hi T2 hk hU1 v0 v1; omega))
        obtain ⟨j, hj⟩ := Int.eq_ofNat_of_zero_le vm.1
        obtain ⟨g, hg, ap, ar⟩ := Tbl.pick (gs := gs) (j := j) (by (clear F N1 F1 F2 F3 F4 F5 F6 F7 mr mm ml nd hr hl hc hq T1 hN hN1 hN2 hi T2 hk hU1 v0 v1; omega))
        obtain ⟨ts, t, hG, hO, hlen⟩ := T2.gm g hg
        obtain ⟨sh, hS, hs⟩ := T2.sh
        have gi := Gd.in_ (pl := pl) (li := li) hg
        subst hU1
        walk_at "R"
        rw [hj]
        refine ⟨_, _, T2.pl_, ap, _, _, T2.li_, ar, g.p, g.a, g.b, g.r, h, ts, t, sh, _, v / 2, rfl, by (clear F N1 F1 F2 F3 F4 F5 F6 F7 mr mm ml nd hr hl hc hq T1 hgs hN hN1 hN2 hi T2 hk hg ap ar hG hO hlen hS hs gi; omega), by (clear F N1 F1 F2 F3 F4 F5 F6 F7 mr mm ml nd hr hl hc hq T1 hgs hN hN1 hN2 hi T2 hk hg ap ar hG hO hlen hS hs gi; omega), hG, hO, by (clear F N1 F1 F2 F3 F4 F5 F6 F7 mr mm ml nd hr hl hc hq T1 hgs hN hN2 T2 hk v0 v1 vm hj hg ap ar hG hO hS hs gi; omega), hS, by (clear F N1 F1 F2 F3 F4 F5 F6 F7 mr mm ml nd hr hl hc hq T1 hgs hN hN2 T2 hk v0 v1 vm hj hg ap ar hG hO hlen hS gi; omega), T2.ex, gi.1, gi.2.1, gi.2.2, fun G' ts' t' sh' k1 k2 k3 k4 k5 k6 => ?_⟩
        walk_at "R"
        exact hk _ _ ⟨_, _, _, rfl, T2.upd (by omega) hg k1 k2 (by (clear F N1 F1 F2 F3 F4 F5 F6 F7 mr mm ml nd hr hl hc hq T1 hgs hN hN1 hN2 hi T2 hk v0 v1 vm hj hg ap ar hG hO hS hs gi k1 k2 k4 k5 k6; omega)) k4 (by omega) k6⟩
    · rintro i τ G1 kk hi ⟨gs, t4, t5, rfl, T1, hgs⟩ hk
      refine ⟨trivial, ?_⟩
      clear T0 hU
      refine seqU fun U1 hU1 => ?_
      walk_at "R"
      obtain ⟨cs, hcs, hcl⟩ : ∃ cs : List Int, cutW (ns.map W.int) (some (8 * (i : Int))) (some (8 * (i : Int) + 8)) = cs.map W.int ∧ cs.length ≤ 8 := by
        obtain ⟨x, y, h1, h2⟩ := cut_ft (ns.map W.int) (8 * i) (8 * i + 8)
        rw [show ((8 * i : Nat) : Int) = 8 * (i : Int) by (clear F N1 F1 F2 F3 F4 F5 F6 F7 mr mm ml nd hr hl hc hq hi T1 hgs hk hU1 h1 h2; omega), show ((8 * i + 8 : Nat) : Int) = 8 * (i : Int) + 8 by (clear F N1 F1 F2 F3 F4 F5 F6 F7 mr mm ml nd hr hl hc hq hi T1 hgs hk hU1 h1 h2; omega)] at h1
        exact ⟨(ns.drop x).take y, by rw [List.map_take, List.map_drop]; exact h1, by rw [List.length_take]; (clear F N1 F1 F2 F3 F4 F5 F6 F7 mr mm ml nd hr hl hc hq hi T1 hgs hk hU1 h1; omega)⟩
      rw [hcs]
      refine ⟨by exact Nat.le_trans (by assumption) (Nat.le_of_ble_eq_true rfl), fun p0 hp0 => ⟨p0, cs, 5, rfl, updG_same, by exact Nat.le_trans (by assumption) (Nat.le_of_ble_eq_true rfl), by (clear F N1 F1 F2 F3 F4 F5 F6 F7 mr mm ml nd hr hl hc hq hi T1 hgs hk hU1 hcs hcl hp0; omega), by (clear F N1 F1 F2 F3 F4 F5 F6 F7 mr mm ml nd hr hl hc hq hi T1 hgs hk hU1 hcs hcl hp0; omega), fun t tp td => ?_⟩⟩
      have leA := GLe.new (g := .lst (cs.map W.int)) hp0
      have plA := updG_ne' (g := .lst (cs.map W.int)) T1.pl_ hp0
      have liA := updG_ne' (g := .lst (cs.map W.int)) T1.li_ hp0
      generalize updG G1 p0 (.lst (cs.map W.int)) = G2 at leA plA liA ⊢
      subst hU1
      refine seqU fun U1 hU1 => ?_
      walk_at "R"
      refine ⟨⟨_, plA⟩, fun p hp => ⟨p, t, rfl, updG_same, by (clear F N1 F1 F2 F3 F4 F5 F6 F7 mr mm ml nd hr hl hc hq hi T1 hgs hk hcs hcl hp0 tp leA plA liA hU1 hp; omega), by (clear F N1 F1 F2 F3 F4 F5 F6 F7 mr mm ml nd hr hl hc hq hi T1 hgs hk hcs hp0 td leA plA liA hU1 hp; omega), fun a b Gb ha hb kp hPl => ⟨rfl, _, kp pl _ (fun z => by rw [← z, plA] at hp; cases hp) (updG_ne' plA hp), by rw [List.length_map]; (clear F N1 F1 F2 F3 F4 F5 F6 F7 mr mm ml nd hr hl hc hq T1 hk hcs hcl hp0 tp td leA plA liA hU1 hp ha hb kp hPl; omega), ?_⟩⟩⟩
      have fr : ∀ x, updG G2 p (.ins C []) x = none → G1 x = none := fun x hx => by
        cases e : G1 x with
        | none => rfl
        | some g => rw [updG_ne' (leA x g e) hp] at hx; cases hx
      have ne1 : ∀ x y g, G1 x = none → G1 y = some g → x ≠ y := fun x y g h1 h2 z => by rw [z, h2] at h1; cases h1
      have fa := fr _ ha
      have fb := fr _ hb
      have fp : G1 p = none := by
        cases e : G1 p with
        | none => rfl
        | some g => rw [leA p g e] at hp; cases hp
      have kB : ∀ x g, G1 x = some g → Gb x = some g := fun x g e => kp x g (fun z => ne1 p p g fp (z ▸ e) rfl) (updG_ne' (leA x g e) hp)
      have P3 : PlayAt C (updG Gb pl (.lst (gs.map (fun g => W.ref g.p) ++ [.ref p]))) p a b [t] := ⟨(updG_ne (ne1 _ _ _ fp T1.pl_)).trans hPl.1, (updG_ne (ne1 _ _ _ fa T1.pl_)).trans hPl.2.1, (updG_ne (ne1 _ _ _ fb T1.pl_)).trans hPl.2.2.1, hPl.2.2.2⟩
      have k3 : ∀ x g, x ≠ pl → G1 x = some g → updG Gb pl (.lst (gs.map (fun g => W.ref g.p) ++ [.ref p])) x = some g := fun x g n e => (updG_ne n).trans (kB x g e)
      have pl3 : updG Gb pl (.lst (gs.map (fun g => W.ref g.p) ++ [.ref p])) pl = _ := updG_same
      generalize updG Gb pl (.lst (gs.map (fun g => W.ref g.p) ++ [.ref p])) = G3 at P3 k3 pl3 ⊢
      have li3 := k3 _ _ T1.ne.symm T1.li_
      clear kB hPl kp ha hb fr hp leA plA liA
      subst hU1
      walk_at "R"
      have ner : ∀ x g r, G3 r = none → G3 x = some g → r ≠ x := fun x g r h1 h2 z => by rw [z, h2] at h1; cases h1
      refine ⟨⟨_, li3⟩, t, rfl, by (clear F N1 F1 F2 F3 F4 F5 F6 F7 mr mm ml nd hr hl hc hq hi T1 hgs hk hcs hcl hp0 tp ne1 fa fb fp P3 k3 pl3 li3 ner; omega), by (clear F N1 F1 F2 F3 F4 F5 F6 F7 mr mm ml nd hr hl hc hq hi T1 hgs hk hcs hp0 td ne1 fa fb fp P3 k3 pl3 li3 ner; omega), fun r hr0 => ⟨_, updG_ne' li3 hr0, by rw [List.length_map]; (clear F N1 F1 F2 F3 F4 F5 F6 F7 mr mm ml nd hr hl hc hq T1 hk hcs hcl hp0 tp td ne1 fa fb fp P3 k3 pl3 li3 ner hr0; omega), hk _ _ ⟨gs ++ [⟨p, a, b, r⟩], _, _, rfl, ?_, by rw [List.length_append, List.length_singleton]; (clear F N1 F1 F2 F3 F4 F5 F6 F7 mr mm ml nd hr hl hc hq hi T1 hk hcs hcl hp0 tp td ne1 fa fb fp P3 k3 pl3 li3 ner hr0; omega)⟩⟩⟩
      refine T1.add (t := t) (fun x g n e => ?_) ?_ ?_ ⟨⟨(updG_ne (ne1 _ _ _ fp T1.li_)).trans (updG_ne' P3.1 hr0), (updG_ne (ne1 _ _ _ fa T1.li_)).trans (updG_ne' P3.2.1 hr0), (updG_ne (ne1 _ _ _ fb T1.li_)).trans (updG_ne' P3.2.2.1 hr0), P3.2.2.2⟩, (updG_ne (ner _ _ _ hr0 li3)).trans updG_same, ner _ _ _ hr0 P3.2.1, ner _ _ _ hr0 P3.2.2.1⟩ ⟨td, by (clear F N1 F1 F2 F3 F4 F5 F6 F7 mr mm ml nd hr hl hc hq hi T1 hgs hk hcs hp0 td ne1 fa fb fp P3 k3 pl3 li3 ner hr0; omega)⟩ (fun x hx => ?_)
      · simp only [List.mem_cons, List.not_mem_nil, or_false, not_or] at n
        exact (updG_ne n.2).trans (updG_ne' (k3 x g n.1 e) hr0)
      · rw [List.map_append]
        exact (updG_ne T1.ne).trans (updG_ne' pl3 hr0)
      · rw [List.map_append]
        exact updG_same
      · simp only [Gd.mv, List.mem_cons, List.not_mem_nil, or_false] at hx
        rcases hx with rfl | rfl | rfl
        · exact fa
        · exact fb
        · cases e : G1 x with
          | none => rfl
          | some g => rw [k3 x g (ner _ _ _ hr0 pl3) e] at hr0; cases hr0
theorem rx_alias {x y : Str} {ps : List Str} {k : Nat} {sp : WSp} {dws : List W} (F : Rx P w K mg base x ps k sp dws) (h : mg y = mg x) : Rx P w K mg base y ps k sp dws := by
  obtain ⟨f, fd, ds, dvs, h1, h2, h3⟩ := F
  exact ⟨f, fd, ds, dvs, h1, h.trans h2, h3⟩
theorem md_rmt {C : Addr} {m qual : Str} {st : Stmt} {ps : List Str} {k : Nat} {sp : WSp} (D : Md K C m qual st ps) (c : Cls K C) (h : ∀ (f : Addr) (fd : FuncData), Fun K m qual st f fd → RFn P w K mg base k f fd ps sp) : RMt P w K mg base C m ps k sp [] := by
  obtain ⟨f, fd, hm, F, b⟩ := D
  exact ⟨⟨f, fd, [], [], hm, h f fd F, b, .nil, fun _ => .nil⟩, c⟩
theorem mdD_rmt {C : Addr} {m qual : Str} {st : Stmt} {ps : List Str} {k : Nat} {sp : WSp} {dws : List W} (D : MdD K C m qual st ps dws) (c : Cls K C) (h : ∀ (f : Addr) (fd : FuncData) (T : Addr) (ds : List Value), FunD K m qual st f fd T ds → RFn P w K mg base k f fd ps sp) : RMt P w K mg base C m ps k sp [] ∧ RMt P w K mg base C m ps k sp dws := by
  obtain ⟨f, fd, T, ds, dvs, hm, F, b, b', v, r⟩ := D
  exact ⟨⟨⟨f, fd, [], [], hm, h f fd T ds F, b, .nil, fun _ => .nil⟩, c⟩, ⟨⟨f, fd, ds, dvs, hm, h f fd T ds F, b', v, r⟩, c⟩⟩
theorem law_ok (T : Txt K mg) (F : Fun K "law" "law" (top 51) f fd) : WFn P w K mg base 80 f fd ["_law_script"] spLawC := by
  obtain ⟨c0, c1, c2, c3, c4, c5, c6, c7, c8, c9, c10, c11, c12, c13, ⟨m0, q0⟩, ⟨m1, q1⟩, ⟨m2, q2⟩, ⟨m3, q3⟩, ⟨m4, q4⟩, ⟨m5, _⟩, ⟨m6, _⟩, ⟨m7, _⟩, ⟨m8, _⟩, ⟨m9, _⟩, ⟨m10, _⟩, ⟨m11, _⟩, ⟨m12, _⟩, ⟨m13, _⟩, _, _, _, _, _, _, _, _, _, _, _, _, _, _, s21, _, _, _, _, _, _, _, _, _, _, _, _, s31, s32, _, _, _, _, _, _, _, _, _, _, s40, s41, s42, s43, s45, s46, s47, s48, s49, s410, s411, s412, s413, _, ⟨_, d1⟩, ⟨_, d2⟩, ⟨_, d3⟩, ⟨Q4, d4⟩, ⟨_, d5⟩, ⟨_, d6⟩, ⟨_, d7⟩, ⟨_, d8⟩, ⟨_, d9⟩, ⟨_, d10⟩, ⟨_, d11⟩, ⟨_, d12⟩, ⟨_, d13⟩⟩ := T.x_
  obtain ⟨bH, xH⟩ := XC.of q0
  obtain ⟨b1, x1⟩ := XC.of q1
  obtain ⟨b2, x2⟩ := XC.of q2
  obtain ⟨b3, x3⟩ := XC.of q3
  obtain ⟨b4, x4⟩ := XC.of q4
  have o4 : XO K c4 := ⟨XC.of q4, Q4, d4⟩
  have hX : Cls3 K c1 c2 c3 := ⟨⟨b1, x1⟩, ⟨b2, x2⟩, ⟨b3, x3⟩, s21, s31, s32⟩
  have hO : Oth K mg c4 c5 c6 c7 c1 c8 c9 c2 c10 c11 c12 c3 c13 := ⟨m5, m6, m7, m1, m8, m9, m2, m10, m11, m12, m3, m13, fun D hD => by
    simp only [List.mem_cons, List.not_mem_nil, or_false] at hD
    rcases hD with rfl | rfl | rfl | rfl | rfl | rfl
    · exact ⟨d5, s45⟩
    · exact ⟨d6, s46⟩
    · exact ⟨d7, s47⟩
    · exact ⟨d1, s41⟩
    · exact ⟨d8, s48⟩
    · exact ⟨d9, s49⟩, fun D hD => by
    simp only [List.mem_cons, List.not_mem_nil, or_false] at hD
    rcases hD with rfl | rfl | rfl | rfl | rfl | rfl
    · exact ⟨d2, s42⟩
    · exact ⟨d10, s410⟩
    · exact ⟨d11, s411⟩
    · exact ⟨d12, s412⟩
    · exact ⟨d3, s43⟩
    · exact ⟨d13, s413⟩⟩
  obtain ⟨tM, hM⟩ := T.c_MOST_POINTS
  obtain ⟨C, mC, cC, n1, n2, i0, i1, i2, i3, i4⟩ := T.k_Play
  have No := fxNo (P := P) (w := w) (base := base) T 40 (by decide)
  have Pu := T.d__law_put.fx (P := P) (w := w) (base := base) fun f fd F => fnPu F (fxLc T 60 (by decide)) T.z_len T.z_range
  have Ln := fxLn T Pu 16 (by decide)
  have Mk := T.d__law_mix.fx (P := P) (w := w) (base := base) fun f fd F => fnMk F
  have Tr := T.d__law_tree.fx fun f fd F => fnTr F Mk T.z_len T.z_range T.z_tuple
  have Wd := T.d_is_whole.fxd (P := P) (w := w) (base := base) fun f fd T' ds F => fnWh F T.z_isinstance T.z_int T.z_bool
  have Ih := T.d_is_head.fx fun f fd F => fnIh F Wd T.z_isinstance T.z_tuple T.z_len
  have Pl := T.d_points_left.fx (P := P) (w := w) (base := base) fun f fd F => fnPl F (fxPn T 40) T.z_len
  have Wb := T.d_without_branch.fx (P := P) (w := w) (base := base) fun f fd F => fnWb F
  have Cz : Rx P w K mg base "cut" ["tree", "way", "many"] 42 (spCu c1 c2 c3) [] := T.d_cut.rx fun f fd T' ds F => rnCu F Ih Wd Pl Wb (fxCg T 40) hM T.z_len m1 x1 m2 x2 m3 x3
  have Ct := rx_alias Cz T.a_cut_trees
  have N1 := i0.new (P := P) (w := w) (base := base) mC fun f fd F => fnIt F No cC n1 n2
  have Mt1 := i1.mt (P := P) (w := w) (mg := mg) (base := base) cC fun f fd F => fnMt F cC n1
  have Mc := mdD_rmt (P := P) (w := w) (base := base) i2 cC fun f fd T' ds F => rnMc F No Ct cC n1 n2
  have Mb := md_rmt (P := P) (w := w) (base := base) i3 cC fun f fd F => rnBk F cC n1 n2 T.z_len m4 x4
  have Mn := i4.mt (P := P) (w := w) (base := base) cC fun f fd F => fnNs F cC n2 T.z_list
  have La := T.d__law_at.fx (P := P) (w := w) (base := base) fun f fd F => fnLa F
  have Lq := T.d__law_without.fx (P := P) (w := w) (base := base) fun f fd F => fnLq F
  have Lt := T.d__law_cut.fx fun f fd F => fnLt F La Lq T.z_len T.z_range
  have Hd := T.d__law_head.fx fun f fd F => fnHd F Mk T.z_len
  have Ot := T.d__law_other.fxN (P := P) (w := w) (base := base) fun f fd F => fnOt F hO T.z_isinstance
  have Al := fxAl (P := P) (w := w) (base := base) T 40
  have Rf := T.d__law_refused.fx fun f fd F => fnRf F Mc.1 m1 m2 m3 hX
  have Ba := T.d__law_back.fx fun f fd F => fnBa F Mb Ot Al o4 d4 s40 x4.self m0 xH m4 T.z_isinstance T.z_ValueError T.z_len
  have Cg := T.d__law_cutting.fx fun f fd F => fnCt F (RMt.calm Mc.2 fun _ _ _ _ h => h) (RMt.calm Mc.1 fun _ _ _ _ h => h) Hd (fxLp T 40) La Lt Ln Al T.z_min
  have Lk := T.d__law_look.fx fun f fd F => fnLk F Mt1 Mn Al T.z_isinstance T.z_list T.z_tuple
  have De := T.d__law_deed.fx fun f fd F => fnDe F Hd Ba Rf Cg Lk T.z_len T.z_list
  have Ab := T.d__law_all_back.fx fun f fd F => fnAb F Ba Lk T.z_len
  exact fnLw F N1 Tr Ln Mk De Lk Cg Ab T.z_range T.z_min T.z_len
end
set_option maxHeartbeats 0 in
theorem all_mk {l : PySem.W.OpenLaw} {w : World} {K : PySem.W.Frag} {h : Heap} {mg : Str → Option Value} {fa f1 f2 f3 f4 f5 f6 f7 f8 f9 f10 f11 f12 f13 f14 f15 f16 f17 f18 f19 f20 f21 f22 f23 f24 f25 f26 f27 f28 f29 : Addr} (X : K.In h) (G : h.Ns mainGlobals mg) (hfa : mg "law" = some (.ref fa))
    {od1 an1 od2 an2 od3 an3 od4 an4 od5 an5 od6 an6 od7 an7 od8 an8 od9 an9 od10 an10 od11 an11 od12 an12 od13 an13 od14 an14 od15 an15 od16 an16 od17 an17 od18 an18 od19 an19 od20 an20 od21 an21 od22 an22 od23 an23 od24 an24 od25 an25 od26 an26 od27 an27 od28 an28 od29 an29 : Option Addr} {sl1 sl2 sl3 sl4 sl5 sl6 sl7 sl8 sl9 sl10 sl11 sl12 sl13 sl14 sl15 sl16 sl17 sl18 sl19 sl20 sl21 sl22 sl23 sl24 sl25 sl26 sl27 sl28 sl29 : Array (Option Value)} {oc1 kV1 dc1 pm1 cd1 ct1 oc2 kV2 dc2 pm2 cd2 ct2 oc3 kV3 dc3 pm3 cd3 ct3 oc4 kV4 dc4 pm4 cd4 ct4 oc5 kV5 dc5 pm5 cd5 ct5 oc6 kV6 dc6 pm6 cd6 ct6 oc7 kV7 dc7 pm7 cd7 ct7 oc8 kV8 dc8 pm8 cd8 ct8 oc9 kV9 dc9 pm9 cd9 ct9 oc10 kV10 dc10 pm10 cd10 ct10 oc11 kV11 dc11 pm11 cd11 ct11 oc12 kV12 dc12 pm12 cd12 ct12 oc13 kV13 dc13 pm13 cd13 ct13 oc14 kV14 dc14 pm14 cd14 ct14 oc15 kV15 dc15 pm15 cd15 ct15 oc16 kV16 dc16 pm16 cd16 ct16 oc17 kV17 dc17 pm17 cd17 ct17 oc18 kV18 dc18 pm18 cd18 ct18 oc19 kV19 dc19 pm19 cd19 ct19 oc20 kV20 dc20 pm20 cd20 ct20 oc21 kV21 dc21 pm21 cd21 ct21 oc22 kV22 dc22 pm22 cd22 ct22 oc23 kV23 dc23 pm23 cd23 ct23 oc24 kV24 dc24 pm24 cd24 ct24 oc25 kV25 dc25 pm25 cd25 ct25 oc26 kV26 dc26 pm26 cd26 ct26 oc27 kV27 dc27 pm27 cd27 ct27 oc28 kV28 dc28 pm28 cd28 ct28 oc29 kV29 dc29 pm29 cd29 ct29 : Value} {T1 : Addr} {tc1 : Value} {td1 : Option Addr} {tn1 : Nat} {ts1 : Array (Option Value)} {tk1_0 : Tok} {T6 : Addr} {tc6 : Value} {td6 : Option Addr} {tn6 : Nat} {ts6 : Array (Option Value)} {tk6_0 : Tok} {kc0 : Addr} {mf0_0 : Addr} {md0_0 man0_0 : Option Addr} {msl0_0 : Array (Option Value)} {moc0_0 mkV0_0 mdc0_0 mpm0_0 mcd0_0 mct0_0 : Value} {mf0_1 : Addr} {md0_1 man0_1 : Option Addr} {msl0_1 : Array (Option Value)} {moc0_1 mkV0_1 mdc0_1 mpm0_1 mcd0_1 mct0_1 : Value} {mf0_2 : Addr} {md0_2 man0_2 : Option Addr} {msl0_2 : Array (Option Value)} {moc0_2 mkV0_2 mdc0_2 mpm0_2 mcd0_2 mct0_2 : Value} {mT0_2 : Addr} {mtc0_2 : Value} {mtd0_2 : Option Addr} {mtn0_2 : Nat} {mts0_2 : Array (Option Value)} {mtk0_2_0 : Tok} {mf0_3 : Addr} {md0_3 man0_3 : Option Addr} {msl0_3 : Array (Option Value)} {moc0_3 mkV0_3 mdc0_3 mpm0_3 mcd0_3 mct0_3 : Value} {mf0_4 : Addr} {md0_4 man0_4 : Option Addr} {msl0_4 : Array (Option Value)} {moc0_4 mkV0_4 mdc0_4 mpm0_4 mcd0_4 mct0_4 : Value} {ct_1 : Tok} {xc0 : Addr} {xcd0 : ClassData} {xc1 : Addr} {xcd1 : ClassData} {xc2 : Addr} {xcd2 : ClassData} {xc3 : Addr} {xcd3 : ClassData} {xc4 : Addr} {xcd4 : ClassData} {xc5 : Addr} {xcd5 : ClassData} {xc6 : Addr} {xcd6 : ClassData} {xc7 : Addr} {xcd7 : ClassData} {xc8 : Addr} {xcd8 : ClassData} {xc9 : Addr} {xcd9 : ClassData} {xc10 : Addr} {xcd10 : ClassData} {xc11 : Addr} {xcd11 : ClassData} {xc12 : Addr} {xcd12 : ClassData} {xc13 : Addr} {xcd13 : ClassData}
    (a1 : PySem.W.nsIn K mainGlobals "is_whole" = some (some (.ref f1))) (l1 : K.lookup f1 = some ⟨oc1, od1, .func (PySem.W.fnOf "is_whole" "is_whole" (defArgs (top 16)) (defBody (top 16)) (defScope (top 16)) (.ref T1) kV1 dc1 pm1 an1 cd1 ct1), sl1⟩) (c1 : PySem.W.codeIn K cd1 "is_whole" = true) (k1 : PySem.W.keepIn K (.ref f1) = true)
    (a2 : PySem.W.nsIn K mainGlobals "compare" = some (some (.ref f2))) (l2 : K.lookup f2 = some ⟨oc2, od2, .func (PySem.W.fnOf "compare" "compare" (defArgs (top 17)) (defBody (top 17)) (defScope (top 17)) .none kV2 dc2 pm2 an2 cd2 ct2), sl2⟩) (c2 : PySem.W.codeIn K cd2 "compare" = true) (k2 : PySem.W.keepIn K (.ref f2) = true)
    (a3 : PySem.W.nsIn K mainGlobals "merged" = some (some (.ref f3))) (l3 : K.lookup f3 = some ⟨oc3, od3, .func (PySem.W.fnOf "merged" "merged" (defArgs (top 19)) (defBody (top 19)) (defScope (top 19)) .none kV3 dc3 pm3 an3 cd3 ct3), sl3⟩) (c3 : PySem.W.codeIn K cd3 "merged" = true) (k3 : PySem.W.keepIn K (.ref f3) = true)
    (a4 : PySem.W.nsIn K mainGlobals "points" = some (some (.ref f4))) (l4 : K.lookup f4 = some ⟨oc4, od4, .func (PySem.W.fnOf "points" "points" (defArgs (top 22)) (defBody (top 22)) (defScope (top 22)) .none kV4 dc4 pm4 an4 cd4 ct4), sl4⟩) (c4 : PySem.W.codeIn K cd4 "points" = true) (k4 : PySem.W.keepIn K (.ref f4) = true)
    (a5 : PySem.W.nsIn K mainGlobals "number_of" = some (some (.ref f5))) (l5 : K.lookup f5 = some ⟨oc5, od5, .func (PySem.W.fnOf "number_of" "number_of" (defArgs (top 23)) (defBody (top 23)) (defScope (top 23)) .none kV5 dc5 pm5 an5 cd5 ct5), sl5⟩) (c5 : PySem.W.codeIn K cd5 "number_of" = true) (k5 : PySem.W.keepIn K (.ref f5) = true)
    (a6 : PySem.W.nsIn K mainGlobals "cut" = some (some (.ref f6))) (l6 : K.lookup f6 = some ⟨oc6, od6, .func (PySem.W.fnOf "cut" "cut" (defArgs (top 24)) (defBody (top 24)) (defScope (top 24)) (.ref T6) kV6 dc6 pm6 an6 cd6 ct6), sl6⟩) (c6 : PySem.W.codeIn K cd6 "cut" = true) (k6 : PySem.W.keepIn K (.ref f6) = true)
    (a7 : PySem.W.nsIn K mainGlobals "is_head" = some (some (.ref f7))) (l7 : K.lookup f7 = some ⟨oc7, od7, .func (PySem.W.fnOf "is_head" "is_head" (defArgs (top 26)) (defBody (top 26)) (defScope (top 26)) .none kV7 dc7 pm7 an7 cd7 ct7), sl7⟩) (c7 : PySem.W.codeIn K cd7 "is_head" = true) (k7 : PySem.W.keepIn K (.ref f7) = true)
    (a8 : PySem.W.nsIn K mainGlobals "points_left" = some (some (.ref f8))) (l8 : K.lookup f8 = some ⟨oc8, od8, .func (PySem.W.fnOf "points_left" "points_left" (defArgs (top 27)) (defBody (top 27)) (defScope (top 27)) .none kV8 dc8 pm8 an8 cd8 ct8), sl8⟩) (c8 : PySem.W.codeIn K cd8 "points_left" = true) (k8 : PySem.W.keepIn K (.ref f8) = true)
    (a9 : PySem.W.nsIn K mainGlobals "cut_and_grown" = some (some (.ref f9))) (l9 : K.lookup f9 = some ⟨oc9, od9, .func (PySem.W.fnOf "cut_and_grown" "cut_and_grown" (defArgs (top 28)) (defBody (top 28)) (defScope (top 28)) .none kV9 dc9 pm9 an9 cd9 ct9), sl9⟩) (c9 : PySem.W.codeIn K cd9 "cut_and_grown" = true) (k9 : PySem.W.keepIn K (.ref f9) = true)
    (a10 : PySem.W.nsIn K mainGlobals "without_branch" = some (some (.ref f10))) (l10 : K.lookup f10 = some ⟨oc10, od10, .func (PySem.W.fnOf "without_branch" "without_branch" (defArgs (top 29)) (defBody (top 29)) (defScope (top 29)) .none kV10 dc10 pm10 an10 cd10 ct10), sl10⟩) (c10 : PySem.W.codeIn K cd10 "without_branch" = true) (k10 : PySem.W.keepIn K (.ref f10) = true)
    (a11 : PySem.W.nsIn K mainGlobals "_law_mix" = some (some (.ref f11))) (l11 : K.lookup f11 = some ⟨oc11, od11, .func (PySem.W.fnOf "_law_mix" "_law_mix" (defArgs (top 33)) (defBody (top 33)) (defScope (top 33)) .none kV11 dc11 pm11 an11 cd11 ct11), sl11⟩) (c11 : PySem.W.codeIn K cd11 "_law_mix" = true) (k11 : PySem.W.keepIn K (.ref f11) = true)
    (a12 : PySem.W.nsIn K mainGlobals "_law_tree" = some (some (.ref f12))) (l12 : K.lookup f12 = some ⟨oc12, od12, .func (PySem.W.fnOf "_law_tree" "_law_tree" (defArgs (top 34)) (defBody (top 34)) (defScope (top 34)) .none kV12 dc12 pm12 an12 cd12 ct12), sl12⟩) (c12 : PySem.W.codeIn K cd12 "_law_tree" = true) (k12 : PySem.W.keepIn K (.ref f12) = true)
    (a13 : PySem.W.nsIn K mainGlobals "_law_compare" = some (some (.ref f13))) (l13 : K.lookup f13 = some ⟨oc13, od13, .func (PySem.W.fnOf "_law_compare" "_law_compare" (defArgs (top 35)) (defBody (top 35)) (defScope (top 35)) .none kV13 dc13 pm13 an13 cd13 ct13), sl13⟩) (c13 : PySem.W.codeIn K cd13 "_law_compare" = true) (k13 : PySem.W.keepIn K (.ref f13) = true)
    (a14 : PySem.W.nsIn K mainGlobals "_law_put" = some (some (.ref f14))) (l14 : K.lookup f14 = some ⟨oc14, od14, .func (PySem.W.fnOf "_law_put" "_law_put" (defArgs (top 36)) (defBody (top 36)) (defScope (top 36)) .none kV14 dc14 pm14 an14 cd14 ct14), sl14⟩) (c14 : PySem.W.codeIn K cd14 "_law_put" = true) (k14 : PySem.W.keepIn K (.ref f14) = true)
    (a15 : PySem.W.nsIn K mainGlobals "_law_number" = some (some (.ref f15))) (l15 : K.lookup f15 = some ⟨oc15, od15, .func (PySem.W.fnOf "_law_number" "_law_number" (defArgs (top 37)) (defBody (top 37)) (defScope (top 37)) .none kV15 dc15 pm15 an15 cd15 ct15), sl15⟩) (c15 : PySem.W.codeIn K cd15 "_law_number" = true) (k15 : PySem.W.keepIn K (.ref f15) = true)
    (a16 : PySem.W.nsIn K mainGlobals "_law_alike" = some (some (.ref f16))) (l16 : K.lookup f16 = some ⟨oc16, od16, .func (PySem.W.fnOf "_law_alike" "_law_alike" (defArgs (top 38)) (defBody (top 38)) (defScope (top 38)) .none kV16 dc16 pm16 an16 cd16 ct16), sl16⟩) (c16 : PySem.W.codeIn K cd16 "_law_alike" = true) (k16 : PySem.W.keepIn K (.ref f16) = true)
    (a17 : PySem.W.nsIn K mainGlobals "_law_points" = some (some (.ref f17))) (l17 : K.lookup f17 = some ⟨oc17, od17, .func (PySem.W.fnOf "_law_points" "_law_points" (defArgs (top 39)) (defBody (top 39)) (defScope (top 39)) .none kV17 dc17 pm17 an17 cd17 ct17), sl17⟩) (c17 : PySem.W.codeIn K cd17 "_law_points" = true) (k17 : PySem.W.keepIn K (.ref f17) = true)
    (a18 : PySem.W.nsIn K mainGlobals "_law_head" = some (some (.ref f18))) (l18 : K.lookup f18 = some ⟨oc18, od18, .func (PySem.W.fnOf "_law_head" "_law_head" (defArgs (top 40)) (defBody (top 40)) (defScope (top 40)) .none kV18 dc18 pm18 an18 cd18 ct18), sl18⟩) (c18 : PySem.W.codeIn K cd18 "_law_head" = true) (k18 : PySem.W.keepIn K (.ref f18) = true)
    (a19 : PySem.W.nsIn K mainGlobals "_law_at" = some (some (.ref f19))) (l19 : K.lookup f19 = some ⟨oc19, od19, .func (PySem.W.fnOf "_law_at" "_law_at" (defArgs (top 41)) (defBody (top 41)) (defScope (top 41)) .none kV19 dc19 pm19 an19 cd19 ct19), sl19⟩) (c19 : PySem.W.codeIn K cd19 "_law_at" = true) (k19 : PySem.W.keepIn K (.ref f19) = true)
    (a20 : PySem.W.nsIn K mainGlobals "_law_without" = some (some (.ref f20))) (l20 : K.lookup f20 = some ⟨oc20, od20, .func (PySem.W.fnOf "_law_without" "_law_without" (defArgs (top 42)) (defBody (top 42)) (defScope (top 42)) .none kV20 dc20 pm20 an20 cd20 ct20), sl20⟩) (c20 : PySem.W.codeIn K cd20 "_law_without" = true) (k20 : PySem.W.keepIn K (.ref f20) = true)
    (a21 : PySem.W.nsIn K mainGlobals "_law_cut" = some (some (.ref f21))) (l21 : K.lookup f21 = some ⟨oc21, od21, .func (PySem.W.fnOf "_law_cut" "_law_cut" (defArgs (top 43)) (defBody (top 43)) (defScope (top 43)) .none kV21 dc21 pm21 an21 cd21 ct21), sl21⟩) (c21 : PySem.W.codeIn K cd21 "_law_cut" = true) (k21 : PySem.W.keepIn K (.ref f21) = true)
    (a22 : PySem.W.nsIn K mainGlobals "_law_refused" = some (some (.ref f22))) (l22 : K.lookup f22 = some ⟨oc22, od22, .func (PySem.W.fnOf "_law_refused" "_law_refused" (defArgs (top 44)) (defBody (top 44)) (defScope (top 44)) .none kV22 dc22 pm22 an22 cd22 ct22), sl22⟩) (c22 : PySem.W.codeIn K cd22 "_law_refused" = true) (k22 : PySem.W.keepIn K (.ref f22) = true)
    (a23 : PySem.W.nsIn K mainGlobals "_law_other" = some (some (.ref f23))) (l23 : K.lookup f23 = some ⟨oc23, od23, .func (PySem.W.fnOf "_law_other" "_law_other" (defArgs (top 45)) (defBody (top 45)) (defScope (top 45)) .none kV23 dc23 pm23 an23 cd23 ct23), sl23⟩) (c23 : PySem.W.codeIn K cd23 "_law_other" = true) (k23 : PySem.W.keepIn K (.ref f23) = true)
    (a24 : PySem.W.nsIn K mainGlobals "_law_back" = some (some (.ref f24))) (l24 : K.lookup f24 = some ⟨oc24, od24, .func (PySem.W.fnOf "_law_back" "_law_back" (defArgs (top 46)) (defBody (top 46)) (defScope (top 46)) .none kV24 dc24 pm24 an24 cd24 ct24), sl24⟩) (c24 : PySem.W.codeIn K cd24 "_law_back" = true) (k24 : PySem.W.keepIn K (.ref f24) = true)
    (a25 : PySem.W.nsIn K mainGlobals "_law_cutting" = some (some (.ref f25))) (l25 : K.lookup f25 = some ⟨oc25, od25, .func (PySem.W.fnOf "_law_cutting" "_law_cutting" (defArgs (top 47)) (defBody (top 47)) (defScope (top 47)) .none kV25 dc25 pm25 an25 cd25 ct25), sl25⟩) (c25 : PySem.W.codeIn K cd25 "_law_cutting" = true) (k25 : PySem.W.keepIn K (.ref f25) = true)
    (a26 : PySem.W.nsIn K mainGlobals "_law_look" = some (some (.ref f26))) (l26 : K.lookup f26 = some ⟨oc26, od26, .func (PySem.W.fnOf "_law_look" "_law_look" (defArgs (top 48)) (defBody (top 48)) (defScope (top 48)) .none kV26 dc26 pm26 an26 cd26 ct26), sl26⟩) (c26 : PySem.W.codeIn K cd26 "_law_look" = true) (k26 : PySem.W.keepIn K (.ref f26) = true)
    (a27 : PySem.W.nsIn K mainGlobals "_law_deed" = some (some (.ref f27))) (l27 : K.lookup f27 = some ⟨oc27, od27, .func (PySem.W.fnOf "_law_deed" "_law_deed" (defArgs (top 49)) (defBody (top 49)) (defScope (top 49)) .none kV27 dc27 pm27 an27 cd27 ct27), sl27⟩) (c27 : PySem.W.codeIn K cd27 "_law_deed" = true) (k27 : PySem.W.keepIn K (.ref f27) = true)
    (a28 : PySem.W.nsIn K mainGlobals "_law_all_back" = some (some (.ref f28))) (l28 : K.lookup f28 = some ⟨oc28, od28, .func (PySem.W.fnOf "_law_all_back" "_law_all_back" (defArgs (top 50)) (defBody (top 50)) (defScope (top 50)) .none kV28 dc28 pm28 an28 cd28 ct28), sl28⟩) (c28 : PySem.W.codeIn K cd28 "_law_all_back" = true) (k28 : PySem.W.keepIn K (.ref f28) = true)
    (a29 : PySem.W.nsIn K mainGlobals "law" = some (some (.ref f29))) (l29 : K.lookup f29 = some ⟨oc29, od29, .func (PySem.W.fnOf "law" "law" (defArgs (top 51)) (defBody (top 51)) (defScope (top 51)) .none kV29 dc29 pm29 an29 cd29 ct29), sl29⟩) (c29 : PySem.W.codeIn K cd29 "law" = true) (k29 : PySem.W.keepIn K (.ref f29) = true)
    (t1 : K.lookup T1 = some ⟨tc1, td1, .seq #[.int 0 tk1_0] tn1, ts1⟩)
    (t6 : K.lookup T6 = some ⟨tc6, td6, .seq #[.int 1 tk6_0] tn6, ts6⟩)
    (cc1 : PySem.W.nsIn K mainGlobals "MOST_POINTS" = some (some (.int 600 ct_1)))
    (xa0 : PySem.W.nsIn K mainGlobals "HydraError" = some (some (.ref xc0))) (xe0 : PySem.W.excIn K xc0 [.type "ValueError", .type "Exception", .type "BaseException", .type "object"] "ValueError.__new__" = true)
    (xa1 : PySem.W.nsIn K mainGlobals "NoHead" = some (some (.ref xc1))) (xe1 : PySem.W.excIn K xc1 [.type "ValueError", .type "Exception", .type "BaseException", .type "object"] "ValueError.__new__" = true)
    (xa2 : PySem.W.nsIn K mainGlobals "NoNumber" = some (some (.ref xc2))) (xe2 : PySem.W.excIn K xc2 [.type "ValueError", .type "Exception", .type "BaseException", .type "object"] "ValueError.__new__" = true)
    (xa3 : PySem.W.nsIn K mainGlobals "TooGreat" = some (some (.ref xc3))) (xe3 : PySem.W.excIn K xc3 [.type "ValueError", .type "Exception", .type "BaseException", .type "object"] "ValueError.__new__" = true)
    (xa4 : PySem.W.nsIn K mainGlobals "NoStep" = some (some (.ref xc4))) (xe4 : PySem.W.excIn K xc4 [.type "ValueError", .type "Exception", .type "BaseException", .type "object"] "ValueError.__new__" = true)
    (xa5 : PySem.W.nsIn K mainGlobals "NoChore" = some (some (.ref xc5))) (xe5 : PySem.W.excIn K xc5 [.type "ValueError", .type "Exception", .type "BaseException", .type "object"] "ValueError.__new__" = true)
    (xa6 : PySem.W.nsIn K mainGlobals "NoFall" = some (some (.ref xc6))) (xe6 : PySem.W.excIn K xc6 [.type "ValueError", .type "Exception", .type "BaseException", .type "object"] "ValueError.__new__" = true)
    (xa7 : PySem.W.nsIn K mainGlobals "NoFit" = some (some (.ref xc7))) (xe7 : PySem.W.excIn K xc7 [.type "ValueError", .type "Exception", .type "BaseException", .type "object"] "ValueError.__new__" = true)
    (xa8 : PySem.W.nsIn K mainGlobals "NoLimit" = some (some (.ref xc8))) (xe8 : PySem.W.excIn K xc8 [.type "ValueError", .type "Exception", .type "BaseException", .type "object"] "ValueError.__new__" = true)
    (xa9 : PySem.W.nsIn K mainGlobals "NoName" = some (some (.ref xc9))) (xe9 : PySem.W.excIn K xc9 [.type "ValueError", .type "Exception", .type "BaseException", .type "object"] "ValueError.__new__" = true)
    (xa10 : PySem.W.nsIn K mainGlobals "NoRow" = some (some (.ref xc10))) (xe10 : PySem.W.excIn K xc10 [.type "ValueError", .type "Exception", .type "BaseException", .type "object"] "ValueError.__new__" = true)
    (xa11 : PySem.W.nsIn K mainGlobals "NoText" = some (some (.ref xc11))) (xe11 : PySem.W.excIn K xc11 [.type "ValueError", .type "Exception", .type "BaseException", .type "object"] "ValueError.__new__" = true)
    (xa12 : PySem.W.nsIn K mainGlobals "Nought" = some (some (.ref xc12))) (xe12 : PySem.W.excIn K xc12 [.type "ValueError", .type "Exception", .type "BaseException", .type "object"] "ValueError.__new__" = true)
    (xa13 : PySem.W.nsIn K mainGlobals "TooHigh" = some (some (.ref xc13))) (xe13 : PySem.W.excIn K xc13 [.type "ValueError", .type "Exception", .type "BaseException", .type "object"] "ValueError.__new__" = true)
    (xm1_0 : PySem.W.mroIn K xc1 (.ref xc0) = some true)
    (xm1_2 : PySem.W.mroIn K xc1 (.ref xc2) = some false)
    (xm1_3 : PySem.W.mroIn K xc1 (.ref xc3) = some false)
    (xm1_4 : PySem.W.mroIn K xc1 (.ref xc4) = some false)
    (xm1_5 : PySem.W.mroIn K xc1 (.ref xc5) = some false)
    (xm1_6 : PySem.W.mroIn K xc1 (.ref xc6) = some false)
    (xm1_7 : PySem.W.mroIn K xc1 (.ref xc7) = some false)
    (xm1_8 : PySem.W.mroIn K xc1 (.ref xc8) = some false)
    (xm1_9 : PySem.W.mroIn K xc1 (.ref xc9) = some false)
    (xm1_10 : PySem.W.mroIn K xc1 (.ref xc10) = some false)
    (xm1_11 : PySem.W.mroIn K xc1 (.ref xc11) = some false)
    (xm1_12 : PySem.W.mroIn K xc1 (.ref xc12) = some false)
    (xm1_13 : PySem.W.mroIn K xc1 (.ref xc13) = some false)
    (xm2_0 : PySem.W.mroIn K xc2 (.ref xc0) = some true)
    (xm2_1 : PySem.W.mroIn K xc2 (.ref xc1) = some false)
    (xm2_3 : PySem.W.mroIn K xc2 (.ref xc3) = some false)
    (xm2_4 : PySem.W.mroIn K xc2 (.ref xc4) = some false)
    (xm2_5 : PySem.W.mroIn K xc2 (.ref xc5) = some false)
    (xm2_6 : PySem.W.mroIn K xc2 (.ref xc6) = some false)
    (xm2_7 : PySem.W.mroIn K xc2 (.ref xc7) = some false)
    (xm2_8 : PySem.W.mroIn K xc2 (.ref xc8) = some false)
    (xm2_9 : PySem.W.mroIn K xc2 (.ref xc9) = some false)
    (xm2_10 : PySem.W.mroIn K xc2 (.ref xc10) = some false)
    (xm2_11 : PySem.W.mroIn K xc2 (.ref xc11) = some false)
    (xm2_12 : PySem.W.mroIn K xc2 (.ref xc12) = some false)
    (xm2_13 : PySem.W.mroIn K xc2 (.ref xc13) = some false)
    (xm3_0 : PySem.W.mroIn K xc3 (.ref xc0) = some true)
    (xm3_1 : PySem.W.mroIn K xc3 (.ref xc1) = some false)
    (xm3_2 : PySem.W.mroIn K xc3 (.ref xc2) = some false)
    (xm3_4 : PySem.W.mroIn K xc3 (.ref xc4) = some false)
    (xm3_5 : PySem.W.mroIn K xc3 (.ref xc5) = some false)
    (xm3_6 : PySem.W.mroIn K xc3 (.ref xc6) = some false)
    (xm3_7 : PySem.W.mroIn K xc3 (.ref xc7) = some false)
    (xm3_8 : PySem.W.mroIn K xc3 (.ref xc8) = some false)
    (xm3_9 : PySem.W.mroIn K xc3 (.ref xc9) = some false)
    (xm3_10 : PySem.W.mroIn K xc3 (.ref xc10) = some false)
    (xm3_11 : PySem.W.mroIn K xc3 (.ref xc11) = some false)
    (xm3_12 : PySem.W.mroIn K xc3 (.ref xc12) = some false)
    (xm3_13 : PySem.W.mroIn K xc3 (.ref xc13) = some false)
    (xm4_0 : PySem.W.mroIn K xc4 (.ref xc0) = some true)
    (xm4_1 : PySem.W.mroIn K xc4 (.ref xc1) = some false)
    (xm4_2 : PySem.W.mroIn K xc4 (.ref xc2) = some false)
    (xm4_3 : PySem.W.mroIn K xc4 (.ref xc3) = some false)
    (xm4_5 : PySem.W.mroIn K xc4 (.ref xc5) = some false)
    (xm4_6 : PySem.W.mroIn K xc4 (.ref xc6) = some false)
    (xm4_7 : PySem.W.mroIn K xc4 (.ref xc7) = some false)
    (xm4_8 : PySem.W.mroIn K xc4 (.ref xc8) = some false)
    (xm4_9 : PySem.W.mroIn K xc4 (.ref xc9) = some false)
    (xm4_10 : PySem.W.mroIn K xc4 (.ref xc10) = some false)
    (xm4_11 : PySem.W.mroIn K xc4 (.ref xc11) = some false)
    (xm4_12 : PySem.W.mroIn K xc4 (.ref xc12) = some false)
    (xm4_13 : PySem.W.mroIn K xc4 (.ref xc13) = some false)
    (xqa0 : PySem.W.findIn K (.ref xc0) "__getattribute__" = some (some (.builtin "BaseException.__getattribute__"))) (xqb0 : PySem.W.findIn K (.ref xc0) "__getattr__" = some none) (xqc0 : PySem.W.findIn K (.ref xc0) "__class__" = some (some (.builtin "object.__class__"))) (xqd0 : PySem.W.clsIn K xc0 = some xcd0) (xqe0 : PySem.W.typeIn K (.ref xc0) = some (.type "type")) (xqf0 : PySem.W.instIn K (.ref xc0) (.type "type") = some true)
    (xqa1 : PySem.W.findIn K (.ref xc1) "__getattribute__" = some (some (.builtin "BaseException.__getattribute__"))) (xqb1 : PySem.W.findIn K (.ref xc1) "__getattr__" = some none) (xqc1 : PySem.W.findIn K (.ref xc1) "__class__" = some (some (.builtin "object.__class__"))) (xqd1 : PySem.W.clsIn K xc1 = some xcd1) (xqe1 : PySem.W.typeIn K (.ref xc1) = some (.type "type")) (xqf1 : PySem.W.instIn K (.ref xc1) (.type "type") = some true)
    (xqa2 : PySem.W.findIn K (.ref xc2) "__getattribute__" = some (some (.builtin "BaseException.__getattribute__"))) (xqb2 : PySem.W.findIn K (.ref xc2) "__getattr__" = some none) (xqc2 : PySem.W.findIn K (.ref xc2) "__class__" = some (some (.builtin "object.__class__"))) (xqd2 : PySem.W.clsIn K xc2 = some xcd2) (xqe2 : PySem.W.typeIn K (.ref xc2) = some (.type "type")) (xqf2 : PySem.W.instIn K (.ref xc2) (.type "type") = some true)
    (xqa3 : PySem.W.findIn K (.ref xc3) "__getattribute__" = some (some (.builtin "BaseException.__getattribute__"))) (xqb3 : PySem.W.findIn K (.ref xc3) "__getattr__" = some none) (xqc3 : PySem.W.findIn K (.ref xc3) "__class__" = some (some (.builtin "object.__class__"))) (xqd3 : PySem.W.clsIn K xc3 = some xcd3) (xqe3 : PySem.W.typeIn K (.ref xc3) = some (.type "type")) (xqf3 : PySem.W.instIn K (.ref xc3) (.type "type") = some true)
    (xqa4 : PySem.W.findIn K (.ref xc4) "__getattribute__" = some (some (.builtin "BaseException.__getattribute__"))) (xqb4 : PySem.W.findIn K (.ref xc4) "__getattr__" = some none) (xqc4 : PySem.W.findIn K (.ref xc4) "__class__" = some (some (.builtin "object.__class__"))) (xqd4 : PySem.W.clsIn K xc4 = some xcd4) (xqe4 : PySem.W.typeIn K (.ref xc4) = some (.type "type")) (xqf4 : PySem.W.instIn K (.ref xc4) (.type "type") = some true)
    (xqa5 : PySem.W.findIn K (.ref xc5) "__getattribute__" = some (some (.builtin "BaseException.__getattribute__"))) (xqb5 : PySem.W.findIn K (.ref xc5) "__getattr__" = some none) (xqc5 : PySem.W.findIn K (.ref xc5) "__class__" = some (some (.builtin "object.__class__"))) (xqd5 : PySem.W.clsIn K xc5 = some xcd5) (xqe5 : PySem.W.typeIn K (.ref xc5) = some (.type "type")) (xqf5 : PySem.W.instIn K (.ref xc5) (.type "type") = some true)
    (xqa6 : PySem.W.findIn K (.ref xc6) "__getattribute__" = some (some (.builtin "BaseException.__getattribute__"))) (xqb6 : PySem.W.findIn K (.ref xc6) "__getattr__" = some none) (xqc6 : PySem.W.findIn K (.ref xc6) "__class__" = some (some (.builtin "object.__class__"))) (xqd6 : PySem.W.clsIn K xc6 = some xcd6) (xqe6 : PySem.W.typeIn K (.ref xc6) = some (.type "type")) (xqf6 : PySem.W.instIn K (.ref xc6) (.type "type") = some true)
    (xqa7 : PySem.W.findIn K (.ref xc7) "__getattribute__" = some (some (.builtin "BaseException.__getattribute__"))) (xqb7 : PySem.W.findIn K (.ref xc7) "__getattr__" = some none) (xqc7 : PySem.W.findIn K (.ref xc7) "__class__" = some (some (.builtin "object.__class__"))) (xqd7 : PySem.W.clsIn K xc7 = some xcd7) (xqe7 : PySem.W.typeIn K (.ref xc7) = some (.type "type")) (xqf7 : PySem.W.instIn K (.ref xc7) (.type "type") = some true)
    (xqa8 : PySem.W.findIn K (.ref xc8) "__getattribute__" = some (some (.builtin "BaseException.__getattribute__"))) (xqb8 : PySem.W.findIn K (.ref xc8) "__getattr__" = some none) (xqc8 : PySem.W.findIn K (.ref xc8) "__class__" = some (some (.builtin "object.__class__"))) (xqd8 : PySem.W.clsIn K xc8 = some xcd8) (xqe8 : PySem.W.typeIn K (.ref xc8) = some (.type "type")) (xqf8 : PySem.W.instIn K (.ref xc8) (.type "type") = some true)
    (xqa9 : PySem.W.findIn K (.ref xc9) "__getattribute__" = some (some (.builtin "BaseException.__getattribute__"))) (xqb9 : PySem.W.findIn K (.ref xc9) "__getattr__" = some none) (xqc9 : PySem.W.findIn K (.ref xc9) "__class__" = some (some (.builtin "object.__class__"))) (xqd9 : PySem.W.clsIn K xc9 = some xcd9) (xqe9 : PySem.W.typeIn K (.ref xc9) = some (.type "type")) (xqf9 : PySem.W.instIn K (.ref xc9) (.type "type") = some true)
    (xqa10 : PySem.W.findIn K (.ref xc10) "__getattribute__" = some (some (.builtin "BaseException.__getattribute__"))) (xqb10 : PySem.W.findIn K (.ref xc10) "__getattr__" = some none) (xqc10 : PySem.W.findIn K (.ref xc10) "__class__" = some (some (.builtin "object.__class__"))) (xqd10 : PySem.W.clsIn K xc10 = some xcd10) (xqe10 : PySem.W.typeIn K (.ref xc10) = some (.type "type")) (xqf10 : PySem.W.instIn K (.ref xc10) (.type "type") = some true)
    (xqa11 : PySem.W.findIn K (.ref xc11) "__getattribute__" = some (some (.builtin "BaseException.__getattribute__"))) (xqb11 : PySem.W.findIn K (.ref xc11) "__getattr__" = some none) (xqc11 : PySem.W.findIn K (.ref xc11) "__class__" = some (some (.builtin "object.__class__"))) (xqd11 : PySem.W.clsIn K xc11 = some xcd11) (xqe11 : PySem.W.typeIn K (.ref xc11) = some (.type "type")) (xqf11 : PySem.W.instIn K (.ref xc11) (.type "type") = some true)
    (xqa12 : PySem.W.findIn K (.ref xc12) "__getattribute__" = some (some (.builtin "BaseException.__getattribute__"))) (xqb12 : PySem.W.findIn K (.ref xc12) "__getattr__" = some none) (xqc12 : PySem.W.findIn K (.ref xc12) "__class__" = some (some (.builtin "object.__class__"))) (xqd12 : PySem.W.clsIn K xc12 = some xcd12) (xqe12 : PySem.W.typeIn K (.ref xc12) = some (.type "type")) (xqf12 : PySem.W.instIn K (.ref xc12) (.type "type") = some true)
    (xqa13 : PySem.W.findIn K (.ref xc13) "__getattribute__" = some (some (.builtin "BaseException.__getattribute__"))) (xqb13 : PySem.W.findIn K (.ref xc13) "__getattr__" = some none) (xqc13 : PySem.W.findIn K (.ref xc13) "__class__" = some (some (.builtin "object.__class__"))) (xqd13 : PySem.W.clsIn K xc13 = some xcd13) (xqe13 : PySem.W.typeIn K (.ref xc13) = some (.type "type")) (xqf13 : PySem.W.instIn K (.ref xc13) (.type "type") = some true)
    (al0 : PySem.W.nsIn K mainGlobals "cut_trees" = some (some (.ref f6)))
    (ka0 : PySem.W.nsIn K mainGlobals "Play" = some (some (.ref kc0))) (kpg0 : PySem.W.plainGet K kc0 Str.empty = true) (khd0 : PySem.W.hasDictIn K kc0 = true) (kpo0 : PySem.W.plainOver K kc0 = true) (ksa0 : PySem.W.findIn K (.ref kc0) "__setattr__" = some (some (.builtin "object.__setattr__"))) (kmk0 : PySem.W.makesIn K kc0 = true) (kkc0 : PySem.W.keepIn K (.ref kc0) = true) (kn0_0 : PySem.W.findIn K (.ref kc0) "met" = some none) (kn0_1 : PySem.W.findIn K (.ref kc0) "reached" = some none) (kf0_0 : PySem.W.findIn K (.ref kc0) "__init__" = some (some (.ref mf0_0))) (kfn0_0 : PySem.W.isFn K (.ref mf0_0) = true) (kl0_0 : K.lookup mf0_0 = some ⟨moc0_0, md0_0, .func (PySem.W.fnOf "__init__" "Play.__init__" (defArgs (mtd 31 0)) (defBody (mtd 31 0)) (defScope (mtd 31 0)) .none mkV0_0 mdc0_0 mpm0_0 man0_0 mcd0_0 mct0_0), msl0_0⟩) (kcd0_0 : PySem.W.codeIn K mcd0_0 "Play.__init__" = true) (kkp0_0 : PySem.W.keepIn K (.ref mf0_0) = true) (kf0_1 : PySem.W.findIn K (.ref kc0) "tree" = some (some (.ref mf0_1))) (kfn0_1 : PySem.W.isFn K (.ref mf0_1) = true) (kl0_1 : K.lookup mf0_1 = some ⟨moc0_1, md0_1, .func (PySem.W.fnOf "tree" "Play.tree" (defArgs (mtd 31 1)) (defBody (mtd 31 1)) (defScope (mtd 31 1)) .none mkV0_1 mdc0_1 mpm0_1 man0_1 mcd0_1 mct0_1), msl0_1⟩) (kcd0_1 : PySem.W.codeIn K mcd0_1 "Play.tree" = true) (kkp0_1 : PySem.W.keepIn K (.ref mf0_1) = true) (kf0_2 : PySem.W.findIn K (.ref kc0) "cut" = some (some (.ref mf0_2))) (kfn0_2 : PySem.W.isFn K (.ref mf0_2) = true) (kl0_2 : K.lookup mf0_2 = some ⟨moc0_2, md0_2, .func (PySem.W.fnOf "cut" "Play.cut" (defArgs (mtd 31 2)) (defBody (mtd 31 2)) (defScope (mtd 31 2)) (.ref mT0_2) mkV0_2 mdc0_2 mpm0_2 man0_2 mcd0_2 mct0_2), msl0_2⟩) (kcd0_2 : PySem.W.codeIn K mcd0_2 "Play.cut" = true) (kkp0_2 : PySem.W.keepIn K (.ref mf0_2) = true) (kt0_2 : K.lookup mT0_2 = some ⟨mtc0_2, mtd0_2, .seq #[.int 1 mtk0_2_0] mtn0_2, mts0_2⟩) (kf0_3 : PySem.W.findIn K (.ref kc0) "back" = some (some (.ref mf0_3))) (kfn0_3 : PySem.W.isFn K (.ref mf0_3) = true) (kl0_3 : K.lookup mf0_3 = some ⟨moc0_3, md0_3, .func (PySem.W.fnOf "back" "Play.back" (defArgs (mtd 31 3)) (defBody (mtd 31 3)) (defScope (mtd 31 3)) .none mkV0_3 mdc0_3 mpm0_3 man0_3 mcd0_3 mct0_3), msl0_3⟩) (kcd0_3 : PySem.W.codeIn K mcd0_3 "Play.back" = true) (kkp0_3 : PySem.W.keepIn K (.ref mf0_3) = true) (kf0_4 : PySem.W.findIn K (.ref kc0) "numbers" = some (some (.ref mf0_4))) (kfn0_4 : PySem.W.isFn K (.ref mf0_4) = true) (kl0_4 : K.lookup mf0_4 = some ⟨moc0_4, md0_4, .func (PySem.W.fnOf "numbers" "Play.numbers" (defArgs (mtd 31 4)) (defBody (mtd 31 4)) (defScope (mtd 31 4)) .none mkV0_4 mdc0_4 mpm0_4 man0_4 mcd0_4 mct0_4), msl0_4⟩) (kcd0_4 : PySem.W.codeIn K mcd0_4 "Play.numbers" = true) (kkp0_4 : PySem.W.keepIn K (.ref mf0_4) = true)
    (z1 : PySem.W.nsIn K mainGlobals "ValueError" = some none) (z2 : PySem.W.nsIn K mainGlobals "bool" = some none) (z3 : PySem.W.nsIn K mainGlobals "int" = some none) (z4 : PySem.W.nsIn K mainGlobals "isinstance" = some none) (z5 : PySem.W.nsIn K mainGlobals "len" = some none) (z6 : PySem.W.nsIn K mainGlobals "list" = some none) (z7 : PySem.W.nsIn K mainGlobals "min" = some none) (z8 : PySem.W.nsIn K mainGlobals "range" = some none) (z9 : PySem.W.nsIn K mainGlobals "sum" = some none) (z10 : PySem.W.nsIn K mainGlobals "tuple" = some none) (z11 : PySem.W.nsIn K mainGlobals "zip" = some none) :
    ∃ fd : FuncData, (∀ (s : Shared) (v : Value), BindsTo s fd ⟨[v], []⟩ [("_law_script", v)]) ∧ ∀ base : Heap, K.In base → base.Ns mainGlobals mg → FnOk l.prog w K mg base CX0 80 fa fd ["_law_script"] (LSp K spLawC) := by
  have e := hfa.symm.trans (PySem.W.mg_of X G a29)
  cases e
  have F1 : FunD K "is_whole" "is_whole" (top 16) f1 _ T1 [.int 0 tk1_0] := fun_mkD l1 c1 k1 t1 rfl
  have b1 : Binds K _ ["thing", "least"] [] := F1.binds fun _ _ _ _ _ _ us hl => (fun (q : us.length = 2) => by clear hl; revert us; refine lnS (fun _ => lnS (fun _ => lnZ ?_)); exact ⟨_, rfl, rfl⟩) (by simpa using hl)
  have e1 : Binds K _ ["thing", "least"] [.int 0 tk1_0] := F1.binds fun _ _ _ _ _ _ us hl => (fun (q : us.length = 1) => by clear hl; revert us; refine lnS (fun _ => lnZ ?_); exact ⟨_, rfl, rfl⟩) (by simpa using hl)
  have F2 := fun_mk (st := top 17) l2 c2 k2
  have b2 := F2.binds (ps := ["a", "b"]) fun _ _ _ _ _ _ => lnS (fun _ => lnS (fun _ => lnZ rfl))
  have F3 := fun_mk (st := top 19) l3 c3 k3
  have b3 := F3.binds (ps := ["a", "b"]) fun _ _ _ _ _ _ => lnS (fun _ => lnS (fun _ => lnZ rfl))
  have F4 := fun_mk (st := top 22) l4 c4 k4
  have b4 := F4.binds (ps := ["tree"]) fun _ _ _ _ _ _ => lnS (fun _ => lnZ rfl)
  have F5 := fun_mk (st := top 23) l5 c5 k5
  have b5 := F5.binds (ps := ["tree"]) fun _ _ _ _ _ _ => lnS (fun _ => lnZ rfl)
  have F6 : FunD K "cut" "cut" (top 24) f6 _ T6 [.int 1 tk6_0] := fun_mkD l6 c6 k6 t6 rfl
  have b6 : Binds K _ ["tree", "way", "many"] [] := F6.binds fun _ _ _ _ _ _ us hl => (fun (q : us.length = 3) => by clear hl; revert us; refine lnS (fun _ => lnS (fun _ => lnS (fun _ => lnZ ?_))); exact ⟨_, rfl, rfl⟩) (by simpa using hl)
  have e6 : Binds K _ ["tree", "way", "many"] [.int 1 tk6_0] := F6.binds fun _ _ _ _ _ _ us hl => (fun (q : us.length = 2) => by clear hl; revert us; refine lnS (fun _ => lnS (fun _ => lnZ ?_)); exact ⟨_, rfl, rfl⟩) (by simpa using hl)
  have F7 := fun_mk (st := top 26) l7 c7 k7
  have b7 := F7.binds (ps := ["tree", "way"]) fun _ _ _ _ _ _ => lnS (fun _ => lnS (fun _ => lnZ rfl))
  have F8 := fun_mk (st := top 27) l8 c8 k8
  have b8 := F8.binds (ps := ["tree", "way", "many"]) fun _ _ _ _ _ _ => lnS (fun _ => lnS (fun _ => lnS (fun _ => lnZ rfl)))
  have F9 := fun_mk (st := top 28) l9 c9 k9
  have b9 := F9.binds (ps := ["tree", "way", "many"]) fun _ _ _ _ _ _ => lnS (fun _ => lnS (fun _ => lnS (fun _ => lnZ rfl)))
  have F10 := fun_mk (st := top 29) l10 c10 k10
  have b10 := F10.binds (ps := ["tree", "place"]) fun _ _ _ _ _ _ => lnS (fun _ => lnS (fun _ => lnZ rfl))
  have F11 := fun_mk (st := top 33) l11 c11 k11
  have b11 := F11.binds (ps := ["_law_cell", "_law_k"]) fun _ _ _ _ _ _ => lnS (fun _ => lnS (fun _ => lnZ rfl))
  have F12 := fun_mk (st := top 34) l12 c12 k12
  have b12 := F12.binds (ps := ["_law_cells", "_law_most"]) fun _ _ _ _ _ _ => lnS (fun _ => lnS (fun _ => lnZ rfl))
  have F13 := fun_mk (st := top 35) l13 c13 k13
  have b13 := F13.binds (ps := ["_law_a", "_law_b"]) fun _ _ _ _ _ _ => lnS (fun _ => lnS (fun _ => lnZ rfl))
  have F14 := fun_mk (st := top 36) l14 c14 k14
  have b14 := F14.binds (ps := ["_law_a", "_law_exponent"]) fun _ _ _ _ _ _ => lnS (fun _ => lnS (fun _ => lnZ rfl))
  have F15 := fun_mk (st := top 37) l15 c15 k15
  have b15 := F15.binds (ps := ["_law_tree_here"]) fun _ _ _ _ _ _ => lnS (fun _ => lnZ rfl)
  have F16 := fun_mk (st := top 38) l16 c16 k16
  have b16 := F16.binds (ps := ["_law_found", "_law_due"]) fun _ _ _ _ _ _ => lnS (fun _ => lnS (fun _ => lnZ rfl))
  have F17 := fun_mk (st := top 39) l17 c17 k17
  have b17 := F17.binds (ps := ["_law_tree_here"]) fun _ _ _ _ _ _ => lnS (fun _ => lnZ rfl)
  have F18 := fun_mk (st := top 40) l18 c18 k18
  have b18 := F18.binds (ps := ["_law_tree_here", "_law_cell"]) fun _ _ _ _ _ _ => lnS (fun _ => lnS (fun _ => lnZ rfl))
  have F19 := fun_mk (st := top 41) l19 c19 k19
  have b19 := F19.binds (ps := ["_law_tree_here", "_law_way"]) fun _ _ _ _ _ _ => lnS (fun _ => lnS (fun _ => lnZ rfl))
  have F20 := fun_mk (st := top 42) l20 c20 k20
  have b20 := F20.binds (ps := ["_law_tree_here", "_law_at_here", "_law_others"]) fun _ _ _ _ _ _ => lnS (fun _ => lnS (fun _ => lnS (fun _ => lnZ rfl)))
  have F21 := fun_mk (st := top 43) l21 c21 k21
  have b21 := F21.binds (ps := ["_law_tree_here", "_law_way", "_law_many"]) fun _ _ _ _ _ _ => lnS (fun _ => lnS (fun _ => lnS (fun _ => lnZ rfl)))
  have F22 := fun_mk (st := top 44) l22 c22 k22
  have b22 := F22.binds (ps := ["_law_play", "_law_way", "_law_many"]) fun _ _ _ _ _ _ => lnS (fun _ => lnS (fun _ => lnS (fun _ => lnZ rfl)))
  have F23 := fun_mk (st := top 45) l23 c23 k23
  have b23 := F23.binds (ps := ["_law_e"]) fun _ _ _ _ _ _ => lnS (fun _ => lnZ rfl)
  have F24 := fun_mk (st := top 46) l24 c24 k24
  have b24 := F24.binds (ps := ["_law_play", "_law_line"]) fun _ _ _ _ _ _ => lnS (fun _ => lnS (fun _ => lnZ rfl))
  have F25 := fun_mk (st := top 47) l25 c25 k25
  have b25 := F25.binds (ps := ["_law_play", "_law_line", "_law_mixed"]) fun _ _ _ _ _ _ => lnS (fun _ => lnS (fun _ => lnS (fun _ => lnZ rfl)))
  have F26 := fun_mk (st := top 48) l26 c26 k26
  have b26 := F26.binds (ps := ["_law_play", "_law_line", "_law_shelf", "_law_mixed"]) fun _ _ _ _ _ _ => lnS (fun _ => lnS (fun _ => lnS (fun _ => lnS (fun _ => lnZ rfl))))
  have F27 := fun_mk (st := top 49) l27 c27 k27
  have b27 := F27.binds (ps := ["_law_play", "_law_line", "_law_shelf", "_law_mixed"]) fun _ _ _ _ _ _ => lnS (fun _ => lnS (fun _ => lnS (fun _ => lnS (fun _ => lnZ rfl))))
  have F28 := fun_mk (st := top 50) l28 c28 k28
  have b28 := F28.binds (ps := ["_law_play", "_law_line", "_law_shelf"]) fun _ _ _ _ _ _ => lnS (fun _ => lnS (fun _ => lnS (fun _ => lnZ rfl)))
  have F29 := fun_mk (st := top 51) l29 c29 k29
  have FM0_0 := fun_mk (st := mtd 31 0) kl0_0 kcd0_0 kkp0_0
  have bM0_0 := FM0_0.binds (ps := ["self", "tree"]) fun _ _ _ _ _ _ => lnS (fun _ => lnS (fun _ => lnZ rfl))
  have FM0_1 := fun_mk (st := mtd 31 1) kl0_1 kcd0_1 kkp0_1
  have bM0_1 := FM0_1.binds (ps := ["self"]) fun _ _ _ _ _ _ => lnS (fun _ => lnZ rfl)
  have FM0_2 : FunD K "cut" "Play.cut" (mtd 31 2) mf0_2 _ mT0_2 [.int 1 mtk0_2_0] := fun_mkD kl0_2 kcd0_2 kkp0_2 kt0_2 rfl
  have bM0_2 : Binds K _ ["self", "way", "many"] [] := FM0_2.binds fun _ _ _ _ _ _ us hl => (fun (q : us.length = 3) => by clear hl; revert us; refine lnS (fun _ => lnS (fun _ => lnS (fun _ => lnZ ?_))); exact ⟨_, rfl, rfl⟩) (by simpa using hl)
  have eM0_2 : Binds K _ ["self", "way", "many"] [.int 1 mtk0_2_0] := FM0_2.binds fun _ _ _ _ _ _ us hl => (fun (q : us.length = 2) => by clear hl; revert us; refine lnS (fun _ => lnS (fun _ => lnZ ?_)); exact ⟨_, rfl, rfl⟩) (by simpa using hl)
  have FM0_3 := fun_mk (st := mtd 31 3) kl0_3 kcd0_3 kkp0_3
  have bM0_3 := FM0_3.binds (ps := ["self"]) fun _ _ _ _ _ _ => lnS (fun _ => lnZ rfl)
  have FM0_4 := fun_mk (st := mtd 31 4) kl0_4 kcd0_4 kkp0_4
  have bM0_4 := FM0_4.binds (ps := ["self"]) fun _ _ _ _ _ _ => lnS (fun _ => lnZ rfl)
  have T : Txt K mg := ⟨⟨f1, _, T1, _, [.int 0], F1, b1, e1, PySem.W.mg_of X G a1, (.cons ⟨_, rfl⟩ .nil), fun _ => (.cons (.int _) .nil)⟩, ⟨f2, _, F2, b2, PySem.W.mg_of X G a2⟩, ⟨f3, _, F3, b3, PySem.W.mg_of X G a3⟩, ⟨f4, _, F4, b4, PySem.W.mg_of X G a4⟩, ⟨f5, _, F5, b5, PySem.W.mg_of X G a5⟩, ⟨f6, _, T6, _, [.int 1], F6, b6, e6, PySem.W.mg_of X G a6, (.cons ⟨_, rfl⟩ .nil), fun _ => (.cons (.int _) .nil)⟩, ⟨f7, _, F7, b7, PySem.W.mg_of X G a7⟩, ⟨f8, _, F8, b8, PySem.W.mg_of X G a8⟩, ⟨f9, _, F9, b9, PySem.W.mg_of X G a9⟩, ⟨f10, _, F10, b10, PySem.W.mg_of X G a10⟩, ⟨f11, _, F11, b11, PySem.W.mg_of X G a11⟩, ⟨f12, _, F12, b12, PySem.W.mg_of X G a12⟩, ⟨f13, _, F13, b13, PySem.W.mg_of X G a13⟩, ⟨f14, _, F14, b14, PySem.W.mg_of X G a14⟩, ⟨f15, _, F15, b15, PySem.W.mg_of X G a15⟩, ⟨f16, _, F16, b16, PySem.W.mg_of X G a16⟩, ⟨f17, _, F17, b17, PySem.W.mg_of X G a17⟩, ⟨f18, _, F18, b18, PySem.W.mg_of X G a18⟩, ⟨f19, _, F19, b19, PySem.W.mg_of X G a19⟩, ⟨f20, _, F20, b20, PySem.W.mg_of X G a20⟩, ⟨f21, _, F21, b21, PySem.W.mg_of X G a21⟩, ⟨f22, _, F22, b22, PySem.W.mg_of X G a22⟩, ⟨f23, _, F23, b23, PySem.W.mg_of X G a23⟩, ⟨f24, _, F24, b24, PySem.W.mg_of X G a24⟩, ⟨f25, _, F25, b25, PySem.W.mg_of X G a25⟩, ⟨f26, _, F26, b26, PySem.W.mg_of X G a26⟩, ⟨f27, _, F27, b27, PySem.W.mg_of X G a27⟩, ⟨f28, _, F28, b28, PySem.W.mg_of X G a28⟩, (PySem.W.mg_of X G al0).trans (PySem.W.mg_of X G a6).symm, ⟨kc0, PySem.W.mg_of X G ka0, ⟨kpg0, khd0, kpo0, ksa0⟩, kn0_0, kn0_1, ⟨mf0_0, _, ⟨kmk0, kf0_0, kfn0_0, kkc0⟩, FM0_0, bM0_0⟩, ⟨mf0_1, _, ⟨kf0_1, kfn0_1, kkp0_1⟩, FM0_1, bM0_1⟩, ⟨mf0_2, _, mT0_2, _, [.int 1], ⟨kf0_2, kfn0_2, kkp0_2⟩, FM0_2, bM0_2, eM0_2, (.cons ⟨_, rfl⟩ .nil), fun _ => (.cons (.int _) .nil)⟩, ⟨mf0_3, _, ⟨kf0_3, kfn0_3, kkp0_3⟩, FM0_3, bM0_3⟩, ⟨mf0_4, _, ⟨kf0_4, kfn0_4, kkp0_4⟩, FM0_4, bM0_4⟩⟩, ⟨xc0, xc1, xc2, xc3, xc4, xc5, xc6, xc7, xc8, xc9, xc10, xc11, xc12, xc13, ⟨PySem.W.mg_of X G xa0, xe0⟩, ⟨PySem.W.mg_of X G xa1, xe1⟩, ⟨PySem.W.mg_of X G xa2, xe2⟩, ⟨PySem.W.mg_of X G xa3, xe3⟩, ⟨PySem.W.mg_of X G xa4, xe4⟩, ⟨PySem.W.mg_of X G xa5, xe5⟩, ⟨PySem.W.mg_of X G xa6, xe6⟩, ⟨PySem.W.mg_of X G xa7, xe7⟩, ⟨PySem.W.mg_of X G xa8, xe8⟩, ⟨PySem.W.mg_of X G xa9, xe9⟩, ⟨PySem.W.mg_of X G xa10, xe10⟩, ⟨PySem.W.mg_of X G xa11, xe11⟩, ⟨PySem.W.mg_of X G xa12, xe12⟩, ⟨PySem.W.mg_of X G xa13, xe13⟩, xm1_0, xm1_2, xm1_3, xm1_4, xm1_5, xm1_6, xm1_7, xm1_8, xm1_9, xm1_10, xm1_11, xm1_12, xm1_13, xm2_0, xm2_1, xm2_3, xm2_4, xm2_5, xm2_6, xm2_7, xm2_8, xm2_9, xm2_10, xm2_11, xm2_12, xm2_13, xm3_0, xm3_1, xm3_2, xm3_4, xm3_5, xm3_6, xm3_7, xm3_8, xm3_9, xm3_10, xm3_11, xm3_12, xm3_13, xm4_0, xm4_1, xm4_2, xm4_3, xm4_5, xm4_6, xm4_7, xm4_8, xm4_9, xm4_10, xm4_11, xm4_12, xm4_13, ⟨⟨xqa0, xqb0, xqc0⟩, ⟨⟨_, xqd0⟩, xqe0, xqf0⟩⟩, ⟨⟨xqa1, xqb1, xqc1⟩, ⟨⟨_, xqd1⟩, xqe1, xqf1⟩⟩, ⟨⟨xqa2, xqb2, xqc2⟩, ⟨⟨_, xqd2⟩, xqe2, xqf2⟩⟩, ⟨⟨xqa3, xqb3, xqc3⟩, ⟨⟨_, xqd3⟩, xqe3, xqf3⟩⟩, ⟨⟨xqa4, xqb4, xqc4⟩, ⟨⟨_, xqd4⟩, xqe4, xqf4⟩⟩, ⟨⟨xqa5, xqb5, xqc5⟩, ⟨⟨_, xqd5⟩, xqe5, xqf5⟩⟩, ⟨⟨xqa6, xqb6, xqc6⟩, ⟨⟨_, xqd6⟩, xqe6, xqf6⟩⟩, ⟨⟨xqa7, xqb7, xqc7⟩, ⟨⟨_, xqd7⟩, xqe7, xqf7⟩⟩, ⟨⟨xqa8, xqb8, xqc8⟩, ⟨⟨_, xqd8⟩, xqe8, xqf8⟩⟩, ⟨⟨xqa9, xqb9, xqc9⟩, ⟨⟨_, xqd9⟩, xqe9, xqf9⟩⟩, ⟨⟨xqa10, xqb10, xqc10⟩, ⟨⟨_, xqd10⟩, xqe10, xqf10⟩⟩, ⟨⟨xqa11, xqb11, xqc11⟩, ⟨⟨_, xqd11⟩, xqe11, xqf11⟩⟩, ⟨⟨xqa12, xqb12, xqc12⟩, ⟨⟨_, xqd12⟩, xqe12, xqf12⟩⟩, ⟨⟨xqa13, xqb13, xqc13⟩, ⟨⟨_, xqd13⟩, xqe13, xqf13⟩⟩⟩, ⟨_, PySem.W.mg_of X G cc1⟩, PySem.W.mg_none_of X G z1, PySem.W.mg_none_of X G z2, PySem.W.mg_none_of X G z3, PySem.W.mg_none_of X G z4, PySem.W.mg_none_of X G z5, PySem.W.mg_none_of X G z6, PySem.W.mg_none_of X G z7, PySem.W.mg_none_of X G z8, PySem.W.mg_none_of X G z9, PySem.W.mg_none_of X G z10, PySem.W.mg_none_of X G z11⟩
  exact ⟨PySem.W.fnOf "law" "law" (defArgs (top 51)) (defBody (top 51)) (defScope (top 51)) .none kV29 dc29 pm29 an29 cd29 ct29, fun s v => .of_eq rfl, fun base _ _ => law_ok T F29⟩
theorem walk {l : PySem.W.OpenLaw} {q : Program} {loose : List Str} {XP : (Str → Option Value) → Heap → Prop} {YP : World → Heap → Prop} {d : DefRec} {K : Params → PySem.W.Frag} (hn : l.most = some 63) (hdf : d.params.defaults = [])
    (hY : ∀ (w : World) (h : Heap), YP w h → (K w.params).In h)
    (F : ∀ (w : World) (mg : Str → Option Value) (fa : Addr) (h : Heap), (K w.params).In h → h.Ns mainGlobals mg → mg d.name = some (.ref fa) →
      ∃ fd : FuncData, (∀ (s : Shared) (u : Value), BindsTo s fd ⟨[u], []⟩ [("_law_script", u)]) ∧ ∀ base : Heap, (K w.params).In base → base.Ns mainGlobals mg → FnOk l.prog w (K w.params) mg base CX0 80 fa fd ["_law_script"] (LSp (K w.params) spLawC)) :
    PySem.W.WalkO q loose XP YP l.row.toRowW d [] (fun f vs => PySem.call f vs) :=
  L2.walk_ofC (n := 63) (k := 80) (x := "_law_script") (CX := fun _ => CX0) (sp := fun w => LSp (K w.params) spLawC) hn (by decide) hdf ⟨rfl, by decide, by decide⟩ hY F (fun _ _ _ _ hl hc hO hS => law_startC hO hS hl hc) fun _ _ _ _ _ z => z
end Lw
noncomputable def PySem.W.Fast.tw771015521819892226 : Unit := ()
noncomputable def PySem.W.Fast.tw8737692092462543236 : Unit := ()
noncomputable def PySem.W.Fast.tw1136479475728376997 : Unit := ()
noncomputable def PySem.W.Fast.tw16923824818777862373 : Unit := ()
noncomputable def PySem.W.Fast.tw3997900461468190278 : Unit := ()
noncomputable def PySem.W.Fast.tw16081602646403839079 : Unit := ()
noncomputable def PySem.W.Fast.tw6305362980891570503 : Unit := ()
noncomputable def PySem.W.Fast.tw7849277711603508425 : Unit := ()
noncomputable def PySem.W.Fast.tw4204338128366209643 : Unit := ()
noncomputable def PySem.W.Fast.tw13504047179632801741 : Unit := ()
noncomputable def PySem.W.Fast.tw14679173439104629010 : Unit := ()
noncomputable def PySem.W.Fast.tw10339784379142009778 : Unit := ()
noncomputable def PySem.W.Fast.tw6325031307712463187 : Unit := ()
noncomputable def PySem.W.Fast.tw1382938641348311574 : Unit := ()
noncomputable def PySem.W.Fast.tw4605539172612246583 : Unit := ()
noncomputable def PySem.W.Fast.tw10867673715999897239 : Unit := ()
noncomputable def PySem.W.Fast.tw2346627616446555865 : Unit := ()
noncomputable def PySem.W.Fast.tw12202639090002584603 : Unit := ()
noncomputable def PySem.W.Fast.tw9055484011492779196 : Unit := ()
noncomputable def PySem.W.Fast.tw8320734219421775037 : Unit := ()
noncomputable def PySem.W.Fast.tw175529471850145054 : Unit := ()
noncomputable def PySem.W.Fast.tw8951000447492959999 : Unit := ()
open PySem PySem.W PyProof.Rows
set_option maxRecDepth 100000 in
set_option maxHeartbeats 0 in
theorem PySem.Challenge.cw_hydrahouse_k47_plays_taken_back_holds : PySem.Challenge.rw_hydrahouse_k47_plays_taken_back.Holds := by
  w_on; o_law; k_head; (case hw => w_witness2)
  k_fill
  refine Lw.walk (l := PySem.Challenge.rw_hydrahouse_k47_plays_taken_back) rfl rfl (fun w h Y => PySem.W.kIn_of Y) ?F
  case F =>
    intro w mg fa h KX G hmg
    refine' Lw.all_mk KX G hmg ?a1 ?l1 ?c1 ?k1 ?a2 ?l2 ?c2 ?k2 ?a3 ?l3 ?c3 ?k3 ?a4 ?l4 ?c4 ?k4 ?a5 ?l5 ?c5 ?k5 ?a6 ?l6 ?c6 ?k6 ?a7 ?l7 ?c7 ?k7 ?a8 ?l8 ?c8 ?k8 ?a9 ?l9 ?c9 ?k9 ?a10 ?l10 ?c10 ?k10 ?a11 ?l11 ?c11 ?k11 ?a12 ?l12 ?c12 ?k12 ?a13 ?l13 ?c13 ?k13 ?a14 ?l14 ?c14 ?k14 ?a15 ?l15 ?c15 ?k15 ?a16 ?l16 ?c16 ?k16 ?a17 ?l17 ?c17 ?k17 ?a18 ?l18 ?c18 ?k18 ?a19 ?l19 ?c19 ?k19 ?a20 ?l20 ?c20 ?k20 ?a21 ?l21 ?c21 ?k21 ?a22 ?l22 ?c22 ?k22 ?a23 ?l23 ?c23 ?k23 ?a24 ?l24 ?c24 ?k24 ?a25 ?l25 ?c25 ?k25 ?a26 ?l26 ?c26 ?k26 ?a27 ?l27 ?c27 ?k27 ?a28 ?l28 ?c28 ?k28 ?a29 ?l29 ?c29 ?k29 ?t1 ?t6 ?cc1 ?xa0 ?xe0 ?xa1 ?xe1 ?xa2 ?xe2 ?xa3 ?xe3 ?xa4 ?xe4 ?xa5 ?xe5 ?xa6 ?xe6 ?xa7 ?xe7 ?xa8 ?xe8 ?xa9 ?xe9 ?xa10 ?xe10 ?xa11 ?xe11 ?xa12 ?xe12 ?xa13 ?xe13 ?xm1_0 ?xm1_2 ?xm1_3 ?xm1_4 ?xm1_5 ?xm1_6 ?xm1_7 ?xm1_8 ?xm1_9 ?xm1_10 ?xm1_11 ?xm1_12 ?xm1_13 ?xm2_0 ?xm2_1 ?xm2_3 ?xm2_4 ?xm2_5 ?xm2_6 ?xm2_7 ?xm2_8 ?xm2_9 ?xm2_10 ?xm2_11 ?xm2_12 ?xm2_13 ?xm3_0 ?xm3_1 ?xm3_2 ?xm3_4 ?xm3_5 ?xm3_6 ?xm3_7 ?xm3_8 ?xm3_9 ?xm3_10 ?xm3_11 ?xm3_12 ?xm3_13 ?xm4_0 ?xm4_1 ?xm4_2 ?xm4_3 ?xm4_5 ?xm4_6 ?xm4_7 ?xm4_8 ?xm4_9 ?xm4_10 ?xm4_11 ?xm4_12 ?xm4_13 ?xqa0 ?xqb0 ?xqc0 ?xqd0 ?xqe0 ?xqf0 ?xqa1 ?xqb1 ?xqc1 ?xqd1 ?xqe1 ?xqf1 ?xqa2 ?xqb2 ?xqc2 ?xqd2 ?xqe2 ?xqf2 ?xqa3 ?xqb3 ?xqc3 ?xqd3 ?xqe3 ?xqf3 ?xqa4 ?xqb4 ?xqc4 ?xqd4 ?xqe4 ?xqf4 ?xqa5 ?xqb5 ?xqc5 ?xqd5 ?xqe5 ?xqf5 ?xqa6 ?xqb6 ?xqc6 ?xqd6 ?xqe6 ?xqf6 ?xqa7 ?xqb7 ?xqc7 ?xqd7 ?xqe7 ?xqf7 ?xqa8 ?xqb8 ?xqc8 ?xqd8 ?xqe8 ?xqf8 ?xqa9 ?xqb9 ?xqc9 ?xqd9 ?xqe9 ?xqf9 ?xqa10 ?xqb10 ?xqc10 ?xqd10 ?xqe10 ?xqf10 ?xqa11 ?xqb11 ?xqc11 ?xqd11 ?xqe11 ?xqf11 ?xqa12 ?xqb12 ?xqc12 ?xqd12 ?xqe12 ?xqf12 ?xqa13 ?xqb13 ?xqc13 ?xqd13 ?xqe13 ?xqf13 ?al0 ?ka0 ?kpg0 ?khd0 ?kpo0 ?ksa0 ?kmk0 ?kkc0 ?kn0_0 ?kn0_1 ?kf0_0 ?kfn0_0 ?kl0_0 ?kcd0_0 ?kkp0_0 ?kf0_1 ?kfn0_1 ?kl0_1 ?kcd0_1 ?kkp0_1 ?kf0_2 ?kfn0_2 ?kl0_2 ?kcd0_2 ?kkp0_2 ?kt0_2 ?kf0_3 ?kfn0_3 ?kl0_3 ?kcd0_3 ?kkp0_3 ?kf0_4 ?kfn0_4 ?kl0_4 ?kcd0_4 ?kkp0_4 ?z1 ?z2 ?z3 ?z4 ?z5 ?z6 ?z7 ?z8 ?z9 ?z10 ?z11
    (case a1 => k_is)
    (case l1 => k_is)
    (case c1 => k_is)
    (case k1 => k_is)
    (case a2 => k_is)
    (case l2 => k_is)
    (case c2 => k_is)
    (case k2 => k_is)
    (case a3 => k_is)
    (case l3 => k_is)
    (case c3 => k_is)
    (case k3 => k_is)
    (case a4 => k_is)
    (case l4 => k_is)
    (case c4 => k_is)
    (case k4 => k_is)
    (case a5 => k_is)
    (case l5 => k_is)
    (case c5 => k_is)
    (case k5 => k_is)
    (case a6 => k_is)
    (case l6 => k_is)
    (case c6 => k_is)
    (case k6 => k_is)
    (case a7 => k_is)
    (case l7 => k_is)
    (case c7 => k_is)
    (case k7 => k_is)
    (case a8 => k_is)
    (case l8 => k_is)
    (case c8 => k_is)
    (case k8 => k_is)
    (case a9 => k_is)
    (case l9 => k_is)
    (case c9 => k_is)
    (case k9 => k_is)
    (case a10 => k_is)
    (case l10 => k_is)
    (case c10 => k_is)
    (case k10 => k_is)
    (case a11 => k_is)
    (case l11 => k_is)
    (case c11 => k_is)
    (case k11 => k_is)
    (case a12 => k_is)
    (case l12 => k_is)
    (case c12 => k_is)
    (case k12 => k_is)
    (case a13 => k_is)
    (case l13 => k_is)
    (case c13 => k_is)
    (case k13 => k_is)
    (case a14 => k_is)
    (case l14 => k_is)
    (case c14 => k_is)
    (case k14 => k_is)
    (case a15 => k_is)
    (case l15 => k_is)
    (case c15 => k_is)
    (case k15 => k_is)
    (case a16 => k_is)
    (case l16 => k_is)
    (case c16 => k_is)
    (case k16 => k_is)
    (case a17 => k_is)
    (case l17 => k_is)
    (case c17 => k_is)
    (case k17 => k_is)
    (case a18 => k_is)
    (case l18 => k_is)
    (case c18 => k_is)
    (case k18 => k_is)
    (case a19 => k_is)
    (case l19 => k_is)
    (case c19 => k_is)
    (case k19 => k_is)
    (case a20 => k_is)
    (case l20 => k_is)
    (case c20 => k_is)
    (case k20 => k_is)
    (case a21 => k_is)
    (case l21 => k_is)
    (case c21 => k_is)
    (case k21 => k_is)
    (case a22 => k_is)
    (case l22 => k_is)
    (case c22 => k_is)
    (case k22 => k_is)
    (case a23 => k_is)
    (case l23 => k_is)
    (case c23 => k_is)
    (case k23 => k_is)
    (case a24 => k_is)
    (case l24 => k_is)
    (case c24 => k_is)
    (case k24 => k_is)
    (case a25 => k_is)
    (case l25 => k_is)
    (case c25 => k_is)
    (case k25 => k_is)
    (case a26 => k_is)
    (case l26 => k_is)
    (case c26 => k_is)
    (case k26 => k_is)
    (case a27 => k_is)
    (case l27 => k_is)
    (case c27 => k_is)
    (case k27 => k_is)
    (case a28 => k_is)
    (case l28 => k_is)
    (case c28 => k_is)
    (case k28 => k_is)
    (case a29 => k_is)
    (case l29 => k_is)
    (case c29 => k_is)
    (case k29 => k_is)
    (case t1 => k_is)
    (case t6 => k_is)
    (case cc1 => k_is)
    (case xa0 => k_is)
    (case xe0 => k_exc)
    (case xa1 => k_is)
    (case xe1 => k_exc)
    (case xa2 => k_is)
    (case xe2 => k_exc)
    (case xa3 => k_is)
    (case xe3 => k_exc)
    (case xa4 => k_is)
    (case xe4 => k_exc)
    (case xa5 => k_is)
    (case xe5 => k_exc)
    (case xa6 => k_is)
    (case xe6 => k_exc)
    (case xa7 => k_is)
    (case xe7 => k_exc)
    (case xa8 => k_is)
    (case xe8 => k_exc)
    (case xa9 => k_is)
    (case xe9 => k_exc)
    (case xa10 => k_is)
    (case xe10 => k_exc)
    (case xa11 => k_is)
    (case xe11 => k_exc)
    (case xa12 => k_is)
    (case xe12 => k_exc)
    (case xa13 => k_is)
    (case xe13 => k_exc)
    (case xm1_0 => k_is)
    (case xm1_2 => k_is)
    (case xm1_3 => k_is)
    (case xm1_4 => k_is)
    (case xm1_5 => k_is)
    (case xm1_6 => k_is)
    (case xm1_7 => k_is)
    (case xm1_8 => k_is)
    (case xm1_9 => k_is)
    (case xm1_10 => k_is)
    (case xm1_11 => k_is)
    (case xm1_12 => k_is)
    (case xm1_13 => k_is)
    (case xm2_0 => k_is)
    (case xm2_1 => k_is)
    (case xm2_3 => k_is)
    (case xm2_4 => k_is)
    (case xm2_5 => k_is)
    (case xm2_6 => k_is)
    (case xm2_7 => k_is)
    (case xm2_8 => k_is)
    (case xm2_9 => k_is)
    (case xm2_10 => k_is)
    (case xm2_11 => k_is)
    (case xm2_12 => k_is)
    (case xm2_13 => k_is)
    (case xm3_0 => k_is)
    (case xm3_1 => k_is)
    (case xm3_2 => k_is)
    (case xm3_4 => k_is)
    (case xm3_5 => k_is)
    (case xm3_6 => k_is)
    (case xm3_7 => k_is)
    (case xm3_8 => k_is)
    (case xm3_9 => k_is)
    (case xm3_10 => k_is)
    (case xm3_11 => k_is)
    (case xm3_12 => k_is)
    (case xm3_13 => k_is)
    (case xm4_0 => k_is)
    (case xm4_1 => k_is)
    (case xm4_2 => k_is)
    (case xm4_3 => k_is)
    (case xm4_5 => k_is)
    (case xm4_6 => k_is)
    (case xm4_7 => k_is)
    (case xm4_8 => k_is)
    (case xm4_9 => k_is)
    (case xm4_10 => k_is)
    (case xm4_11 => k_is)
    (case xm4_12 => k_is)
    (case xm4_13 => k_is)
    (case xqa0 => k_is)
    (case xqb0 => k_is)
    (case xqc0 => k_is)
    (case xqd0 => k_is)
    (case xqe0 => k_is)
    (case xqf0 => k_is)
    (case xqa1 => k_is)
    (case xqb1 => k_is)
    (case xqc1 => k_is)
    (case xqd1 => k_is)
    (case xqe1 => k_is)
    (case xqf1 => k_is)
    (case xqa2 => k_is)
    (case xqb2 => k_is)
    (case xqc2 => k_is)
    (case xqd2 => k_is)
    (case xqe2 => k_is)
    (case xqf2 => k_is)
    (case xqa3 => k_is)
    (case xqb3 => k_is)
    (case xqc3 => k_is)
    (case xqd3 => k_is)
    (case xqe3 => k_is)
    (case xqf3 => k_is)
    (case xqa4 => k_is)
    (case xqb4 => k_is)
    (case xqc4 => k_is)
    (case xqd4 => k_is)
    (case xqe4 => k_is)
    (case xqf4 => k_is)
    (case xqa5 => k_is)
    (case xqb5 => k_is)
    (case xqc5 => k_is)
    (case xqd5 => k_is)
    (case xqe5 => k_is)
    (case xqf5 => k_is)
    (case xqa6 => k_is)
    (case xqb6 => k_is)
    (case xqc6 => k_is)
    (case xqd6 => k_is)
    (case xqe6 => k_is)
    (case xqf6 => k_is)
    (case xqa7 => k_is)
    (case xqb7 => k_is)
    (case xqc7 => k_is)
    (case xqd7 => k_is)
    (case xqe7 => k_is)
    (case xqf7 => k_is)
    (case xqa8 => k_is)
    (case xqb8 => k_is)
    (case xqc8 => k_is)
    (case xqd8 => k_is)
    (case xqe8 => k_is)
    (case xqf8 => k_is)
    (case xqa9 => k_is)
    (case xqb9 => k_is)
    (case xqc9 => k_is)
    (case xqd9 => k_is)
    (case xqe9 => k_is)
    (case xqf9 => k_is)
    (case xqa10 => k_is)
    (case xqb10 => k_is)
    (case xqc10 => k_is)
    (case xqd10 => k_is)
    (case xqe10 => k_is)
    (case xqf10 => k_is)
    (case xqa11 => k_is)
    (case xqb11 => k_is)
    (case xqc11 => k_is)
    (case xqd11 => k_is)
    (case xqe11 => k_is)
    (case xqf11 => k_is)
    (case xqa12 => k_is)
    (case xqb12 => k_is)
    (case xqc12 => k_is)
    (case xqd12 => k_is)
    (case xqe12 => k_is)
    (case xqf12 => k_is)
    (case xqa13 => k_is)
    (case xqb13 => k_is)
    (case xqc13 => k_is)
    (case xqd13 => k_is)
    (case xqe13 => k_is)
    (case xqf13 => k_is)
    (case al0 => k_is)
    (case ka0 => k_is)
    (case kpg0 => k_is)
    (case khd0 => k_is)
    (case kpo0 => k_is)
    (case ksa0 => k_is)
    (case kmk0 => k_is)
    (case kkc0 => k_is)
    (case kn0_0 => k_is)
    (case kn0_1 => k_is)
    (case kf0_0 => k_is)
    (case kfn0_0 => k_is)
    (case kl0_0 => k_is)
    (case kcd0_0 => k_is)
    (case kkp0_0 => k_is)
    (case kf0_1 => k_is)
    (case kfn0_1 => k_is)
    (case kl0_1 => k_is)
    (case kcd0_1 => k_is)
    (case kkp0_1 => k_is)
    (case kf0_2 => k_is)
    (case kfn0_2 => k_is)
    (case kl0_2 => k_is)
    (case kcd0_2 => k_is)
    (case kkp0_2 => k_is)
    (case kt0_2 => k_is)
    (case kf0_3 => k_is)
    (case kfn0_3 => k_is)
    (case kl0_3 => k_is)
    (case kcd0_3 => k_is)
    (case kkp0_3 => k_is)
    (case kf0_4 => k_is)
    (case kfn0_4 => k_is)
    (case kl0_4 => k_is)
    (case kcd0_4 => k_is)
    (case kkp0_4 => k_is)
    (case z1 => k_is)
    (case z2 => k_is)
    (case z3 => k_is)
    (case z4 => k_is)
    (case z5 => k_is)
    (case z6 => k_is)
    (case z7 => k_is)
    (case z8 => k_is)
    (case z9 => k_is)
    (case z10 => k_is)
    (case z11 => k_is)
