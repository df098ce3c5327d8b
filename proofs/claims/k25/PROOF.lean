import PyProof.Rows.All
import Wide.All
import OpenK.AllK
import Wide.FinOn
import KE.KEqDict
import KE.KPairComp
import KE.KDictList
import KE.KRevSl
import PyProof.Rows.SetFrom
import KE.KRevIter
import KE.KDictOf
import KE.KSortAsk
import KE.KSortTup
import PyProof.Rows.SortRev
import KE.KDictSum
import PySem.Challenge.RW_hydrahouse_k25_woven
set_option bootstrap.genMatcherCode false
-- CHANGE: your row's module here, as the last of these rows
set_option Elab.async false
set_option linter.all false
set_option maxRecDepth 100000
namespace L2
open PySem PySem.Spec PyProof.Rows
noncomputable abbrev Key := Sum Int Str
noncomputable def keyIs : Key → Value → Bool
  | .inl k, v => Value.isInt k v
  | .inr x, v => Value.isStrOf x v
noncomputable def keyH (w : World) : Key → Int
  | .inl k => hashInt k
  | .inr x => hashStr w x
theorem keyIs_shape : ∀ {k : Key} {v : Value}, keyIs k v = true → (∃ i t, k = Sum.inl i ∧ v = Value.int i t) ∨ (∃ x t, k = Sum.inr x ∧ v = Value.str x t)
  | .inl i, v, h => by
    obtain ⟨t, e⟩ := Value.isInt_shape (k := i) (v := v) h
    exact .inl ⟨i, t, rfl, e⟩
  | .inr x, v, h => by
    obtain ⟨t, e⟩ := Value.isStrOf_shape (x := x) (v := v) h
    exact .inr ⟨x, t, rfl, e⟩
theorem keyIs_int (i : Int) (t : Tok) : keyIs (.inl i) (.int i t) = true := by simp [keyIs, Value.isInt]
theorem keyIs_str (x : Str) (t : Tok) : keyIs (.inr x) (.str x t) = true := by simp [keyIs, Value.isStrOf]
theorem key_ll (a b : Int) : decide ((Sum.inl a : Key) = Sum.inl b) = (a == b) := by
  by_cases e : a = b
  · subst e; simp
  · have h : ¬ (Sum.inl a : Key) = Sum.inl b := fun q => e (Sum.inl.inj q)
    rw [decide_eq_false h]
    exact (beq_eq_false_iff_ne.mpr e).symm
theorem key_rr (a b : Str) : decide ((Sum.inr a : Key) = Sum.inr b) = decide (a = b) := by
  by_cases e : a = b
  · subst e; simp
  · have h : ¬ (Sum.inr a : Key) = Sum.inr b := fun q => e (Sum.inr.inj q)
    rw [decide_eq_false h, decide_eq_false e]
theorem key_lr (a : Int) (b : Str) : decide ((Sum.inl a : Key) = Sum.inr b) = false := decide_eq_false (fun q => nomatch q)
theorem key_rl (a : Str) (b : Int) : decide ((Sum.inr a : Key) = Sum.inl b) = false := decide_eq_false (fun q => nomatch q)
noncomputable def mixKind (prog : Program) (w : World) : PySem.KeyKind prog w Key where
  is := keyIs
  hash := keyH w
  inj := fun v a b ha hb => by
    rcases keyIs_shape ha with ⟨i, t, rfl, rfl⟩ | ⟨x, t, rfl, rfl⟩
    · rcases keyIs_shape hb with ⟨j, u, rfl, e⟩ | ⟨y, u, rfl, e⟩
      · injection e with e1 _; rw [e1]
      · exact nomatch e
    · rcases keyIs_shape hb with ⟨j, u, rfl, e⟩ | ⟨y, u, rfl, e⟩
      · exact nomatch e
      · injection e with e1 _; rw [e1]
  byValue := fun k v h => by
    rcases keyIs_shape h with ⟨i, t, rfl, rfl⟩ | ⟨x, t, rfl, rfl⟩ <;> rfl
  pyHash := fun hv h => by
    rcases keyIs_shape hv with ⟨i, t, rfl, rfl⟩ | ⟨x, t, rfl, rfl⟩
    · exact wpAny_pyHash_int h
    · exact wpAny_pyHash_str h
  eqBool := fun hu hv h => by
    rcases keyIs_shape hu with ⟨i, t, rfl, rfl⟩ | ⟨x, t, rfl, rfl⟩
    · rcases keyIs_shape hv with ⟨j, u, rfl, rfl⟩ | ⟨y, u, rfl, rfl⟩
      · rw [key_ll] at h; exact wpAny_eqBool_int h
      · rw [key_lr] at h; exact SeqAt.EqAt.int_str i t y u _ _ _ _ h
    · rcases keyIs_shape hv with ⟨j, u, rfl, rfl⟩ | ⟨y, u, rfl, rfl⟩
      · rw [key_rl] at h; exact SeqAt.EqAt.str_int x t j u _ _ _ _ h
      · rw [key_rr] at h; exact wpAny_eqBool_str h
  «strs» := fun k x t v h => by
    rcases keyIs_shape h with ⟨i, u, rfl, e⟩ | ⟨y, u, rfl, e⟩
    · exact nomatch e
    · injection e with e1 _
      subst e1
      cases v <;> rfl
theorem mixKind_int (prog : Program) (w : World) (i : Int) (t : Tok) : (mixKind prog w).is (.inl i) (.int i t) = true := keyIs_int i t
theorem mixKind_str (prog : Program) (w : World) (x : Str) (t : Tok) : (mixKind prog w).is (.inr x) (.str x t) = true := keyIs_str x t
end L2
namespace L2
open PySem PySem.Spec PyProof.Rows
inductive V where
  | non | bl (b : Bool) | int (i : Int) | str (x : Str) | byt (b : Array UInt8) | flt (b : UInt64) | ref (a : Addr) | ty (n : String)
  deriving DecidableEq
noncomputable def RelV : V → Value → Prop
  | .non, u => u = Value.none
  | .bl b, u => u = Value.bool b
  | .int i, u => ∃ t, u = Value.int i t
  | .str x, u => ∃ t, u = Value.str x t
  | .byt b, u => ∃ t, u = Value.bytes b t
  | .flt b, u => ∃ t, u = Value.float b t
  | .ref a, u => u = Value.ref a
  | .ty n, u => u = Value.type n
noncomputable abbrev Vals : List V → List Value → Prop := Paired RelV
theorem Vals.length {xs : List V} {us : List Value} (r : Vals xs us) : xs.length = us.length := Paired.length r
theorem Vals.get : ∀ {xs : List V} {us : List Value} {i : Nat} {x : V}, Vals xs us → xs[i]? = some x → ∃ u, us[i]? = some u ∧ RelV x u
  | _, _, _, _, .nil, e => by simp at e
  | _, _, 0, _, .cons r _, e => by simp at e; subst e; exact ⟨_, rfl, r⟩
  | _, _, i + 1, x, .cons _ t, e => by
    obtain ⟨u, h1, h2⟩ := Vals.get (i := i) (x := x) t (by simpa using e)
    exact ⟨u, by simpa using h1, h2⟩
theorem Vals.append : ∀ {xs ys : List V} {us ws : List Value}, Vals xs us → Vals ys ws → Vals (xs ++ ys) (us ++ ws)
  | _, _, _, _, .nil, s => s
  | _, _, _, _, .cons r t, s => .cons r (Vals.append t s)
theorem Vals.take : ∀ {xs : List V} {us : List Value} (n : Nat), Vals xs us → Vals (xs.take n) (us.take n)
  | _, _, 0, _ => .nil
  | _, _, _ + 1, .nil => .nil
  | _, _, n + 1, .cons r t => .cons r (Vals.take n t)
theorem Vals.drop : ∀ {xs : List V} {us : List Value} (n : Nat), Vals xs us → Vals (xs.drop n) (us.drop n)
  | _, _, 0, r => r
  | _, _, _ + 1, .nil => .nil
  | _, _, n + 1, .cons _ t => Vals.drop n t
noncomputable def RelO : Option V → Option Value → Prop
  | some v, some u => RelV v u
  | none, none => True
  | _, _ => False
noncomputable def KV {κ : Type} : List (κ × V) → List (κ × Value) → Prop := Paired fun (p : κ × V) (q : κ × Value) => p.1 = q.1 ∧ RelV p.2 q.2
noncomputable def kV : Key → V
  | .inl i => .int i
  | .inr x => .str x
inductive HO where
  | lst (xs : List V)
  | tup (xs : List V)
  | dK (kvs : List (Key × V)) | dT (kvs : List (List Key × V))
  | set (S : Int → Bool) (n : Nat)
  | ins (C dx : Addr) (fs : List (Str × V))
  | own (x : Addr)
  | xd (fs : List (Str × V))
  | met (f x : Addr)
  | rng (lo hi : Int)
  | frz (o : Obj) (u : HO)
  | tbl (ps : Array Value)
  | ext (φ : Heap → Prop)
noncomputable abbrev Hp := Addr → Option HO
noncomputable def upd (H : Hp) (a : Addr) (o : HO) : Hp := fun b => if b = a then some o else H b
theorem upd_same {H : Hp} {a : Addr} {o : HO} : upd H a o a = some o := by unfold upd; rw [if_pos rfl]
theorem upd_ne {H : Hp} {a b : Addr} {o : HO} (h : b ≠ a) : upd H a o b = H b := by unfold upd; rw [if_neg h]
theorem ne_of {H : Hp} {a b : Addr} {o u : HO} (h : H a = some o) (h' : H b = some u) (d : o ≠ u) : a ≠ b := by
  intro e; subst e; rw [h] at h'; exact d (Option.some.inj h')
theorem ne_of_none {H : Hp} {a b : Addr} {o : HO} (h : H a = some o) (h' : H b = none) : a ≠ b := by
  intro e; subst e; rw [h] at h'; cases h'
section
variable (P : Program) (w : World)
noncomputable def ObjOk (H : Hp) (h : Heap) (a : Addr) : HO → Prop
  | .lst xs => xs.length ≤ sizeLine ∧ ∃ (its : List Value) (n : Nat), Vals xs its ∧ h.get? a = some { cls := .type "list", data := .seq its.toArray n }
  | .tup xs => xs.length ≤ sizeLine ∧ ∃ its : List Value, Vals xs its ∧ IsTup h a its.toArray
  | .dK kvs => kvs.length ≤ sizeLine ∧ (a == sysModules) = false ∧ ∃ vs, KV kvs vs ∧ h.DictOf (mixKind P w) a vs
  | .dT kvs => kvs.length ≤ sizeLine ∧ (a == sysModules) = false ∧ ∃ xs : List (List Key × Addr × Value),
      Paired (fun (p : List Key × V) (q : List Key × Addr × Value) => p.1 = q.1 ∧ H q.2.1 = some (.tup (p.1.map kV)) ∧ RelV p.2 q.2.2) kvs xs ∧
      ∃ o es ep, h.get? a = some o ∧ o.ExactDict ∧ o.data = .dict es ep ∧ es.toList = xs.map (entryOfKey (tupleKind (mixKind P w))) ∧ (xs.map (·.1)).Nodup
  | .set S n => h.SetOf (intKind P w) a S n
  | .ins C dx fs => H dx = some (.own a) ∧ fs.length ≤ 1000 ∧ dx ≠ a ∧ h.get? a = some (PySem.W.instObj C dx) ∧
      ∃ mA, h.Ns1 dx mA ∧ (∀ f, RelO (fs.lookup f) (mA f)) ∧ PySem.Within mA (fs.map (·.1))
  | .own _ => ∃ o, h.get? a = some o
  | .xd fs => ∃ mA, h.Ns1 a mA ∧ ∀ f, RelO (fs.lookup f) (mA f)
  | .rng lo hi => ∃ t u v, h.get? a = some { cls := .type "range", data := .fields #[.int lo t, .int hi u, .int 1 v] }
  | .frz o u => h.get? a = some o ∧ ObjOk H h a u
  | .tbl ps => h.get? a = some { cls := .none, data := .fields ps }
  | .met f x => h.get? a = some (PySem.W.methodObj (.ref f) (.ref x))
  | .ext φ => φ h ∧ (∃ o, h.get? a = some o) ∧ ∀ h1 h2 : Heap, φ h1 → (∀ o, h1.get? a = some o → h2.get? a = some o) → φ h2
noncomputable def HOk (H : Hp) (h : Heap) : Prop := ∀ a o, H a = some o → ObjOk P w H h a o
end
section
variable {P : Program} {w : World} {H H' : Hp} {h h' : Heap} {a : Addr} {o : HO}
theorem ObjOk.lt (x : ObjOk P w H h a o) : a < h.objs.size := by
  cases o with
  | lst xs => obtain ⟨_, _, _, _, e⟩ := x; exact Heap.lt_size e
  | tup xs => obtain ⟨_, _, _, p⟩ := x; exact p.lt
  | dK kvs => obtain ⟨_, _, _, _, o, _, _, e, _⟩ := x; exact Heap.lt_size e
  | dT kvs => obtain ⟨_, _, _, _, o, _, _, e, _⟩ := x; exact Heap.lt_size e
  | set S n => obtain ⟨o, _, _, _, e, _⟩ := x; exact Heap.lt_size e
  | ins C dx fs => obtain ⟨_, _, _, e, _⟩ := x; exact Heap.lt_size e
  | own y => obtain ⟨_, e⟩ := x; exact Heap.lt_size e
  | xd fs => obtain ⟨_, ⟨_, _, _, e, _⟩, _⟩ := x; exact Heap.lt_size e
  | rng lo hi => obtain ⟨_, _, _, e⟩ := x; exact Heap.lt_size e
  | frz ob u => obtain ⟨e, _⟩ := x; exact Heap.lt_size e
  | tbl ps => exact Heap.lt_size (show h.get? a = some _ from x)
  | met f y => exact Heap.lt_size (show h.get? a = some _ from x)
  | ext φ => obtain ⟨_, ⟨_, e⟩, _⟩ := x; exact Heap.lt_size e
theorem Paired.mapP {α β : Type} {F G : α → β → Prop} : ∀ {l₁ : List α} {l₂ : List β}, Paired F l₁ l₂ → (∀ a b, F a b → G a b) → Paired G l₁ l₂
  | _, _, .nil, _ => .nil
  | _, _, .cons r t, f => .cons (f _ _ r) (Paired.mapP t f)
theorem ObjOk.stay (x : ObjOk P w H h a o) (k : ∀ b u, (b = a ∨ H b = some (.own a)) → h.get? b = some u → h'.get? b = some u)
    (ho : ∀ b, H b = some (.own a) → H' b = some (.own a)) (ht : ∀ b xs, H b = some (.tup xs) → H' b = some (.tup xs)) : ObjOk P w H' h' a o := by
  induction o with
  | lst xs => obtain ⟨z, its, n, r, e⟩ := x; exact ⟨z, its, n, r, k _ _ (.inl rfl) e⟩
  | tup xs => obtain ⟨z, its, r, ob, e, c⟩ := x; exact ⟨z, its, r, ob, k _ _ (.inl rfl) e, c⟩
  | dK kvs => obtain ⟨z, y, vs, r, ob, es, ep, e, c⟩ := x; exact ⟨z, y, vs, r, ob, es, ep, k _ _ (.inl rfl) e, c⟩
  | dT kvs =>
    obtain ⟨z, y, xs, r, ob, es, ep, e, c⟩ := x
    exact ⟨z, y, xs, Paired.mapP r fun p q z => ⟨z.1, ht _ _ z.2.1, z.2.2⟩, ob, es, ep, k _ _ (.inl rfl) e, c⟩
  | set S n => obtain ⟨ob, es, ep, t, e, c⟩ := x; exact ⟨ob, es, ep, t, k _ _ (.inl rfl) e, c⟩
  | ins C dx fs =>
    obtain ⟨d, z, ne, e, mA, ⟨od, es, ep, e2, c⟩, r⟩ := x
    exact ⟨ho _ d, z, ne, k _ _ (.inl rfl) e, mA, ⟨od, es, ep, k _ _ (.inr d) e2, c⟩, r⟩
  | own y => obtain ⟨ob, e⟩ := x; exact ⟨ob, k _ _ (.inl rfl) e⟩
  | xd fs => obtain ⟨mA, ⟨od, es, ep, e, c⟩, r⟩ := x; exact ⟨mA, ⟨od, es, ep, k _ _ (.inl rfl) e, c⟩, r⟩
  | rng lo hi => obtain ⟨t, u, v, e⟩ := x; exact ⟨t, u, v, k _ _ (.inl rfl) e⟩
  | frz ob u ih => obtain ⟨e, q⟩ := x; exact ⟨k _ _ (.inl rfl) e, ih q⟩
  | tbl ps =>
    have e : h.get? a = some { cls := .none, data := .fields ps } := x
    show h'.get? a = some { cls := .none, data := .fields ps }
    exact k a _ (.inl rfl) e
  | met f y =>
    have e : h.get? a = some (PySem.W.methodObj (.ref f) (.ref y)) := x
    show h'.get? a = some (PySem.W.methodObj (.ref f) (.ref y))
    exact k a _ (.inl rfl) e
  | ext φ => obtain ⟨p, ⟨o, e⟩, st⟩ := x; exact ⟨st _ _ p fun o q => k _ _ (.inl rfl) q, ⟨o, k _ _ (.inl rfl) e⟩, st⟩
theorem HOk.lt (x : HOk P w H h) (e : H a = some o) : a < h.objs.size := (x a o e).lt
theorem HOk.fresh (x : HOk P w H h) (e : h.objs.size ≤ a) : H a = none := by
  cases q : H a with
  | none => rfl
  | some u => exact absurd (Nat.lt_of_lt_of_le (x.lt q) e) (Nat.lt_irrefl _)
theorem HOk.kept (x : HOk P w H h) (k : ∀ b u, h.get? b = some u → h'.get? b = some u) : HOk P w H h' := fun a o e =>
  (x a o e).stay (fun b u _ q => k b u q) (fun _ q => q) fun _ _ q => q
theorem HOk.laid (x : HOk P w H h) (k : ∀ b u, h.get? b = some u → h'.get? b = some u) (hp : h.objs.size ≤ a) (new : ObjOk P w (upd H a o) h' a o) : HOk P w (upd H a o) h' := fun b u e => by
  have hn := x.fresh hp
  by_cases hb : b = a
  · subst hb; rw [upd_same] at e; cases e; exact new
  · rw [upd_ne hb] at e
    exact (x b u e).stay (fun c v _ q => k c v q) (fun c q => by rw [upd_ne (ne_of_none q hn)]; exact q) fun c xs q => by rw [upd_ne (ne_of_none q hn)]; exact q
end
noncomputable def Rd (H : Hp) (a : Addr) (u : HO) : Prop := H a = some u ∨ ∃ o, H a = some (.frz o u)
theorem Rd.ok {P : Program} {w : World} {H : Hp} {h : Heap} {a : Addr} {u : HO} (r : Rd H a u) (x : HOk P w H h) : ObjOk P w H h a u := by
  rcases r with r | ⟨o, r⟩
  · exact x a u r
  · obtain ⟨_, q⟩ := x a _ r
    exact q
noncomputable def Mut : Option HO → Prop
  | some (.lst _) => True
  | some (.dK _) => True
  | some (.dT _) => True
  | some (.set _ _) => True
  | some (.ins _ _ _) => True
  | some (.ext _) => True
  | _ => False
section
variable {P : Program} {w : World} {H : Hp} {h h' : Heap} {x e : Addr} {o' : HO}
theorem HOk.write (ok : HOk P w H h) (mu : Mut (H x)) (he : e = x ∨ H e = some (.own x)) (k : ∀ b u, b ≠ e → h.get? b = some u → h'.get? b = some u) (heo : ∃ u, h'.get? e = some u)
    (new : ObjOk P w (upd H x o') h' x o') : HOk P w (upd H x o') h' := fun b u q => by
  have nown : ∀ c y, H c = some (.own y) → c ≠ x := fun c y r z => by subst z; rw [r] at mu; exact mu
  have ntup : ∀ c xs, H c = some (.tup xs) → c ≠ x := fun c xs r z => by subst z; rw [r] at mu; exact mu
  by_cases hb : b = x
  · subst hb; rw [upd_same] at q; cases q; exact new
  · rw [upd_ne hb] at q
    by_cases hbe : b = e
    · have q' : H b = some (.own x) := by
        rcases he with z | z
        · exact absurd (hbe.trans z) hb
        · rw [hbe]; exact z
      rw [q] at q'; cases q'
      obtain ⟨v, hv⟩ := heo
      exact ⟨v, by rw [hbe]; exact hv⟩
    · refine (ok b u q).stay (fun c v hc r => k c v ?_ r) (fun c r => by rw [upd_ne (nown c b r)]; exact r) fun c xs r => by rw [upd_ne (ntup c xs r)]; exact r
      rcases hc with rfl | hc
      · exact hbe
      · rintro rfl
        rcases he with z | z
        · exact nown c b hc z
        · rw [hc] at z; cases z; exact hb rfl
end
structure Un (fs ex : List Addr) (H H' : Hp) (h h' : Heap) : Prop where
  keep : ∀ b o, h.get? b = some o → H b = none → b ∉ fs → b ∉ ex → h'.get? b = some o
  slot : ∀ b o, h.get? b = some o → H b = none → b ∈ fs → b ∉ ex → ∃ sl, h'.get? b = some { o with slots := sl }
  free : ∀ b o, h.get? b = some o → H b = none → b ∉ ex → H' b = none
  there : ∀ b o, h.get? b = some o → b ∉ ex → ∃ o', h'.get? b = some o'
  tups : ∀ b xs, H b = some (.tup xs) → H' b = some (.tup xs)
  frzs : ∀ b o u, H b = some (.frz o u) → H' b = some (.frz o u)
  tbls : ∀ b ps, H b = some (.tbl ps) → ∃ more, H' b = some (.tbl (ps ++ more))
section
variable {fs fs' ex ex' : List Addr} {H H1 H2 : Hp} {h h1 h2 h' : Heap} {a x e : Addr} {o : HO}
theorem Un.any (u : Un fs ex H H1 h h1) {b : Addr} {ob : Obj} (q : h.get? b = some ob) (n : H b = none) (hx : b ∉ ex) : ∃ sl, h1.get? b = some { ob with slots := sl } := by
  by_cases hb : b ∈ fs
  · exact u.slot b ob q n hb hx
  · exact ⟨ob.slots, u.keep b ob q n hb hx⟩
theorem Un.kept (k : ∀ b u, h.get? b = some u → h'.get? b = some u) : Un fs ex H H h h' :=
  ⟨fun b ob q _ _ _ => k b ob q, fun b ob q _ _ _ => ⟨ob.slots, k b ob q⟩, fun _ _ _ n _ => n, fun b ob q _ => ⟨ob, k b ob q⟩, fun _ _ q => q, fun _ _ _ q => q, fun _ ps q => ⟨#[], by rw [q]; simp⟩⟩
theorem Un.refl : Un fs ex H H h h := Un.kept fun _ _ q => q
theorem Un.laid (k : ∀ b u, h.get? b = some u → h'.get? b = some u) (hp : h.objs.size ≤ a) (hn : H a = none) : Un fs ex H (upd H a o) h h' where
  keep := fun b u q _ _ _ => k b u q
  slot := fun b u q _ _ _ => ⟨u.slots, k b u q⟩
  free := fun b u q n _ => by rw [upd_ne (Nat.ne_of_lt (Nat.lt_of_lt_of_le (Heap.lt_size q) hp))]; exact n
  there := fun b u q _ => ⟨u, k b u q⟩
  tups := fun b xs q => by rw [upd_ne (ne_of_none q hn)]; exact q
  frzs := fun b u xs q => by rw [upd_ne (ne_of_none q hn)]; exact q
  tbls := fun b ps q => ⟨#[], by rw [upd_ne (ne_of_none q hn), q]; simp⟩
theorem Un.write (mu : Mut (H x)) (he : e = x ∨ H e = some (.own x)) (k : ∀ b u, b ≠ e → h.get? b = some u → h'.get? b = some u) (heo : ∃ u, h'.get? e = some u) : Un fs ex H (upd H x o) h h' := by
  have hx : ∀ b, H b = none → b ≠ x := fun b n z => by subst z; rw [n] at mu; exact mu
  have hb : ∀ b, H b = none → b ≠ e := fun b n z => by
    subst z
    rcases he with r | r
    · exact hx b n r
    · rw [n] at r; cases r
  have hm : ∀ b u, H b = some u → ¬ Mut (some u) → b ≠ x := fun b u q nm z => by subst z; rw [q] at mu; exact nm mu
  refine ⟨fun b u q n _ _ => k b u (hb b n) q, fun b u q n _ _ => ⟨u.slots, k b u (hb b n) q⟩, fun b u q n _ => by rw [upd_ne (hx b n)]; exact n, fun b u q _ => ?_,
    fun b xs q => by rw [upd_ne (hm b _ q fun z => z)]; exact q, fun b u xs q => by rw [upd_ne (hm b _ q fun z => z)]; exact q, fun b ps q => ⟨#[], by rw [upd_ne (hm b _ q fun z => z), q]; simp⟩⟩
  by_cases hbe : b = e
  · subst hbe; exact heo
  · exact ⟨u, k b u hbe q⟩
end
noncomputable def trk (h : Heap) (H : Hp) : List Addr := (List.range h.objs.size).filter fun a => (H a).isSome
noncomputable def hidT (h : Heap) (H : Hp) : Heap := PySem.W.hideAll h (trk h H)
theorem hidT_size (h : Heap) (H : Hp) : (hidT h H).objs.size = h.objs.size := PySem.W.hideAll_size _ _
theorem hidT_get {h : Heap} {H : Hp} {b : Addr} {o : Obj} (e : h.get? b = some o) (n : H b = none) : (hidT h H).get? b = some o :=
  PySem.W.hideAll_get _ e fun hm => by
    have q : (H b).isSome = true := (List.mem_filter.mp hm).2
    rw [n] at q; simp at q
theorem of_hidT {h : Heap} {H : Hp} {b : Addr} {o : Obj} (e : (hidT h H).get? b = some o) : h.get? b = some o ∧ H b = none := by
  have e' : h.get? b = some o := PySem.W.of_hideAll (trk h H) e
  refine ⟨e', ?_⟩
  cases q : H b with
  | none => rfl
  | some x =>
    have hm : b ∈ trk h H := List.mem_filter.mpr ⟨List.mem_range.mpr (Heap.lt_size e'), by simp [q]⟩
    have z : (hidT h H).get? b = none := PySem.W.hideAll_none (trk h H) hm
    rw [z] at e; cases e
noncomputable def allNews (g h : Heap) (L : Addr) : List (Addr × Obj) := (List.range h.objs.size).filterMap fun a => if a = L ∨ (g.get? a).isSome = true then none else (h.get? a).map fun o => (a, o)
noncomputable def rest (g h : Heap) (L d : Addr) : List (Addr × Obj) := (allNews g h L).filter fun p => decide (p.1 ≠ d)
end L2
namespace L2
open PySem PySem.Spec PyProof.Rows
structure Mod (K : PySem.W.Frag) (mg : Str → Option Value) (base : Heap) : Prop where
  kin : K.In base
  glob : base.Ns mainGlobals mg
  blt : ∃ mb, base.Ns builtinsNs mb ∧ ∀ x : Str, x ≠ "__name__" → mb x = bootBuiltins x
  nolimit : base.NoLimit
structure Cx where
  prog : Program
  w : World
  K : PySem.W.Frag
  mg : Str → Option Value
  base : Heap
  A : Around
  N : List Str
  s₀ : Shared
  H₀ : Hp
  env : Env
  outer : List Env
  stack : List Env
  ex : List Addr
  fn : Str → Bool
  calm : Bool
  pn : List (Addr × Obj)
  xe : Value → Shared → Prop
noncomputable def frs (l : List Env) : List Addr := l.filterMap (·.frame)
noncomputable abbrev Cx.fs (X : Cx) : List Addr := frs X.outer
noncomputable def Vis (sc : Scope) (x : Str) : Prop := sc.names.lookup x = some .local ∨ sc.names.lookup x = some .cell ∨ sc.names.lookup x = some .free
noncomputable def Loc (sc : Scope) (x : Str) : Prop := sc.names.lookup x = some .local ∨ sc.names.lookup x = some .cell
noncomputable def Look (env : Env) (h : Heap) (m : Str → Option Value) (x : Str) (u : Value) : Prop :=
  (env.kindOf x = some .local ∧ m x = some u) ∨ ((env.kindOf x = some .cell ∨ env.kindOf x = some .free) ∧ ∃ c, env.cells.lookup x = some c ∧ h.IsCell c (some u))
structure Cx.Ok (X : Cx) : Prop where
  mod : Mod X.K X.mg X.base
  kind : X.env.scope.kind = .function
  glob : X.env.globals = mainGlobals
  blt : X.env.builtins = builtinsNs
  above : X.s₀.heap.objs.size ≤ X.env.locals
  inj : ∀ x y c, X.env.cells.lookup x = some c → X.env.cells.lookup y = some c → x = y
  has : ∀ x, (X.env.kindOf x = some .cell ∨ X.env.kindOf x = some .free) → ∃ c, X.env.cells.lookup x = some c
  cab : ∀ x c, X.fn x = true → X.env.cells.lookup x = some c → X.s₀.heap.objs.size ≤ c
  hd : X.calm = true → X.A.handled = none
  frames : X.A.frames = some X.stack
  stk : X.stack = X.outer ∨ (X.stack = X.env :: X.outer ∧ X.env.frame = some X.env.locals)
  exf : ∀ b ∈ X.ex, b ≠ X.env.locals ∧ ∀ x c, X.env.cells.lookup x = some c → c ≠ b
  bs : ∀ b o, X.base.get? b = some o → X.s₀.heap.get? b = some o ∧ X.H₀ b = none
  bsz : X.base.objs.size ≤ X.s₀.heap.objs.size
  noex : ∀ b o, X.base.get? b = some o → b ∉ X.ex
  exfs : ∀ b ∈ X.ex, b ∉ X.fs
  funs : X.s₀.heap.FunFrames X.base X.outer
  frf : ∀ b ∈ X.fs, X.H₀ b = none
structure Inv (X : Cx) (pins : List (Addr × Obj)) (σ : List (Option V)) (H : Hp) (s : Shared) : Prop where
  ok : X.Ok
  os : s.os = X.s₀.os
  bare : AllBare s.gens
  base : Un X.fs X.ex X.H₀ H X.s₀.heap s.heap
  loc : ∃ m, s.heap.Ns X.env.locals m ∧ ∀ (i : Nat) (x : Str) (v : V), X.N[i]? = some x → σ[i]? = some (some v) → Vis X.env.scope x → ∃ u, RelV v u ∧ Look X.env s.heap m x u
  cell : ∀ x c, X.env.cells.lookup x = some c → ∃ v, s.heap.IsCell c v
  free : H X.env.locals = none
  freeC : ∀ x c, X.env.cells.lookup x = some c → H c = none
  pin : ∀ p ∈ X.pn ++ pins, s.heap.get? p.1 = some p.2 ∧ H p.1 = none ∧ p.1 ≠ X.env.locals ∧ p.1 ∉ X.fs ∧ ∀ v, p.2.data ≠ .cell v
  hok : HOk X.prog X.w H s.heap
  len : σ.length = X.N.length
section
variable {X : Cx} {pins : List (Addr × Obj)} {σ : List (Option V)} {H H' : Hp} {s : Shared} {h' : Heap}
theorem Cx.Ok.nofr (ok : X.Ok) {b : Addr} {o : Obj} (e : X.base.get? b = some o) : b ∉ X.fs := fun hb => by
  have := (ok.funs.mem hb).1
  rw [e] at this; cases this
theorem Inv.bs (I : Inv X pins σ H s) : ∀ b o, X.base.get? b = some o → s.heap.get? b = some o ∧ H b = none := fun b o e =>
  ⟨I.base.keep b o (I.ok.bs b o e).1 (I.ok.bs b o e).2 (I.ok.nofr e) (I.ok.noex b o e), I.base.free b o (I.ok.bs b o e).1 (I.ok.bs b o e).2 (I.ok.noex b o e)⟩
theorem Inv.bk (I : Inv X pins σ H s) : ∀ b o, X.base.get? b = some o → s.heap.get? b = some o := fun b o e => (I.bs b o e).1
theorem Inv.mod (I : Inv X pins σ H s) : Mod X.K X.mg X.base := I.ok.mod
theorem Inv.kIn (I : Inv X pins σ H s) : X.K.In s.heap := I.ok.mod.kin.keeps I.bk
theorem Inv.lt (I : Inv X pins σ H s) : X.env.locals < s.heap.objs.size := let ⟨_, hn, _⟩ := I.loc; hn.lt
theorem Inv.sz (I : Inv X pins σ H s) : X.s₀.heap.objs.size ≤ s.heap.objs.size := Nat.le_trans I.ok.above (Nat.le_of_lt I.lt)
theorem Inv.nofs (I : Inv X pins σ H s) {a : Addr} (h : s.heap.objs.size ≤ a) : a ∉ X.fs := fun hb => by
  obtain ⟨_, o, ho, _⟩ := I.ok.funs.mem hb
  exact absurd (Nat.lt_of_lt_of_le (Heap.lt_size ho) (Nat.le_trans I.sz h)) (Nat.lt_irrefl _)
theorem Inv.cne (I : Inv X pins σ H s) : ∀ x c, X.env.cells.lookup x = some c → c ≠ X.env.locals := fun x c e z => by
  obtain ⟨v, o, ho, hd⟩ := I.cell x c e
  obtain ⟨m, ⟨o', es, ep, ho', hd', _⟩, _⟩ := I.loc
  rw [z, ho'] at ho; cases ho; rw [hd'] at hd; cases hd
theorem Inv.funs (I : Inv X pins σ H s) : s.heap.FunFrames X.base X.outer := by
  have all : ∀ (l : List Env), (∀ b ∈ frs l, b ∈ X.fs) → X.s₀.heap.FunFrames X.base l → s.heap.FunFrames X.base l := by
    intro l
    induction l with
    | nil => intro _ _; trivial
    | cons env r ih =>
      intro hs hl
      obtain ⟨hk, ⟨L, o, hf, hn, ho, hd⟩, hr⟩ := hl
      have hL : L ∈ X.fs := hs L (by unfold frs; rw [List.filterMap_cons, hf]; exact List.mem_cons_self)
      obtain ⟨sl, e⟩ := I.base.slot L o ho (I.ok.frf L hL) hL fun z => I.ok.exfs L z hL
      exact ⟨hk, ⟨L, _, hf, hn, e, hd⟩, ih (fun b hb => hs b (by unfold frs; rw [List.filterMap_cons, hf]; exact List.mem_cons_of_mem _ hb)) hr⟩
  exact all X.outer (fun _ hb => hb) I.ok.funs
theorem Inv.stack (I : Inv X pins σ H s) : s.heap.FunFrames X.base X.stack := by
  rcases I.ok.stk with e | ⟨e, hf⟩
  · rw [e]; exact I.funs
  · rw [e]
    obtain ⟨m, hn, _⟩ := I.loc
    refine .cons (by rw [I.ok.kind]; decide) hf hn ?_ I.funs
    exact Heap.get?_none_of_le (Nat.le_trans I.ok.bsz I.ok.above)
theorem Inv.stkSub (I : Inv X pins σ H s) : ∀ b ∈ frs X.stack, b ∈ X.env.locals :: X.fs := fun b hb => by
  rcases I.ok.stk with e | ⟨e, hf⟩
  · rw [e] at hb; exact List.mem_cons_of_mem _ hb
  · rw [e] at hb
    unfold frs at hb
    rw [List.filterMap_cons, hf] at hb
    exact hb
theorem Inv.stkFree (I : Inv X pins σ H s) : ∀ b ∈ frs X.stack, H b = none := fun b hb => by
  rcases List.mem_cons.mp (I.stkSub b hb) with e | hb
  · rw [e]; exact I.free
  · obtain ⟨_, o, ho, _⟩ := I.ok.funs.mem hb
    exact I.base.free b o ho (I.ok.frf b hb) fun z => I.ok.exfs b z hb
theorem Inv.step {g' : Array GenState} {t' : Nat} {d' : Drawn} {ch : List Addr} (I : Inv X pins σ H s)
    (hch : ∀ b ∈ ch, (b ∈ X.ex ∨ X.s₀.heap.objs.size ≤ b) ∧ b ≠ X.env.locals ∧ (∀ x c, X.env.cells.lookup x = some c → c ≠ b) ∧ ∀ p ∈ X.pn ++ pins, p.1 ≠ b)
    (keep : ∀ b o, b ≠ X.env.locals → b ∉ X.fs → b ∉ ch → s.heap.get? b = some o → H b = none → h'.get? b = some o)
    (slot : ∀ b o, b ≠ X.env.locals → b ∈ X.fs → b ∉ ch → s.heap.get? b = some o → H b = none → ∃ sl, h'.get? b = some { o with slots := sl }) (free : ∀ b o, b ∉ ch → s.heap.get? b = some o → H b = none → H' b = none)
    (there : ∀ b o, b ∉ ch → s.heap.get? b = some o → ∃ o', h'.get? b = some o')
    (tups : ∀ b xs, H b = some (.tup xs) → H' b = some (.tup xs)) (frzs : ∀ b o u, H b = some (.frz o u) → H' b = some (.frz o u)) (tbls : ∀ b ps, H b = some (.tbl ps) → ∃ more, H' b = some (.tbl (ps ++ more)))
    (ns : ∀ m, s.heap.Ns X.env.locals m → h'.Ns X.env.locals m) (hok : HOk X.prog X.w H' h') (hg : AllBare g') :
    Inv X pins σ H' { s with heap := h', gens := g', drawn := d', toks := t' } := by
  have neL : ∀ b o, X.s₀.heap.get? b = some o → b ≠ X.env.locals := fun b o e => Nat.ne_of_lt (Nat.lt_of_lt_of_le (Heap.lt_size e) I.ok.above)
  have neC : ∀ b o, X.s₀.heap.get? b = some o → b ∉ X.ex → b ∉ ch := fun b o e hx hb => by
    rcases (hch b hb).1 with z | z
    · exact hx z
    · exact absurd (Nat.lt_of_lt_of_le (Heap.lt_size e) z) (Nat.lt_irrefl _)
  have cellK : ∀ x c, X.env.cells.lookup x = some c → ∀ v, s.heap.IsCell c v → h'.IsCell c v := fun x c e v ⟨o, ho, hd⟩ => by
    have nch : c ∉ ch := fun z => (hch c z).2.2.1 x c e rfl
    by_cases hc : c ∈ X.fs
    · obtain ⟨sl, q⟩ := slot c o (I.cne x c e) hc nch ho (I.freeC x c e)
      exact ⟨_, q, hd⟩
    · exact ⟨o, keep c o (I.cne x c e) hc nch ho (I.freeC x c e), hd⟩
  refine ⟨I.ok, I.os, hg, ⟨fun b o e n hb hx => ?_, fun b o e n hb hx => ?_, fun b o e n hx => ?_, fun b o e hx => ?_, fun b xs e => tups b xs (I.base.tups b xs e), fun b o xs e => frzs b o xs (I.base.frzs b o xs e), fun b ps e => ?_⟩, ?_, fun x c e => ?_, ?_, fun x c e => ?_, fun p hp => ?_, hok, I.len⟩
  · exact keep b o (neL b o e) hb (neC b o e hx) (I.base.keep b o e n hb hx) (I.base.free b o e n hx)
  · obtain ⟨sl, e1⟩ := I.base.slot b o e n hb hx
    obtain ⟨sl', e2⟩ := slot b _ (neL b o e) hb (neC b o e hx) e1 (I.base.free b o e n hx)
    exact ⟨sl', e2⟩
  · obtain ⟨o', e1⟩ := I.base.there b o e hx
    exact free b o' (neC b o e hx) e1 (I.base.free b o e n hx)
  · obtain ⟨o', e1⟩ := I.base.there b o e hx
    exact there b o' (neC b o e hx) e1
  · obtain ⟨m1, e1⟩ := I.base.tbls b ps e
    obtain ⟨m2, e2⟩ := tbls b _ e1
    exact ⟨m1 ++ m2, by rw [e2, Array.append_assoc]⟩
  · obtain ⟨m, hn, hl⟩ := I.loc
    refine ⟨m, ns m hn, fun i x v e1 e2 e3 => ?_⟩
    obtain ⟨u, r, l⟩ := hl i x v e1 e2 e3
    refine ⟨u, r, ?_⟩
    rcases l with l | ⟨k, c, e, z⟩
    · exact .inl l
    · exact .inr ⟨k, c, e, cellK x c e _ z⟩
  · obtain ⟨v, z⟩ := I.cell x c e
    exact ⟨v, cellK x c e v z⟩
  · obtain ⟨m, ⟨o, _, _, ho, _⟩, _⟩ := I.loc
    exact free _ o (fun z => (hch _ z).2.1 rfl) ho I.free
  · obtain ⟨v, o, ho, hd⟩ := I.cell x c e
    exact free c o (fun z => (hch c z).2.2.1 x c e rfl) ho (I.freeC x c e)
  · obtain ⟨e, n, ne, nf, d⟩ := I.pin p hp
    have nch : p.1 ∉ ch := fun z => (hch p.1 z).2.2.2 p hp rfl
    exact ⟨keep p.1 p.2 ne nf nch e n, free p.1 p.2 nch e n, ne, nf, d⟩
theorem Inv.un {t' : Nat} (I : Inv X pins σ H s) (u : Un X.fs [] H H' s.heap h') (hok : HOk X.prog X.w H' h') : Inv X pins σ H' { s with heap := h', toks := t' } := by
  obtain ⟨m, ⟨o, es, ep, ho, r⟩, _⟩ := id I.loc
  obtain ⟨sl, hL⟩ := u.any ho I.free (by simp)
  exact I.step (g' := s.gens) (d' := s.drawn) (ch := []) (fun _ z => nomatch z) (fun b o _ hb _ e n => u.keep b o e n hb (by simp)) (fun b o _ hb _ e n => u.slot b o e n hb (by simp)) (fun b o _ e n => u.free b o e n (by simp)) (fun b o _ e => u.there b o e (by simp)) u.tups u.frzs u.tbls (fun m' hm => by
    obtain ⟨o', es', ep', ho', r'⟩ := hm
    rw [ho] at ho'; cases ho'
    exact ⟨_, es', ep', hL, r'⟩) hok I.bare
theorem Inv.call {g' : Array GenState} {t' : Nat} {d' : Drawn} {ch : List Addr} (I : Inv X pins σ H s) (u : Un (frs X.stack) ch H H' s.heap h') (hok : HOk X.prog X.w H' h') (hg : AllBare g')
    (hch : ∀ b ∈ ch, (b ∈ X.ex ∨ X.s₀.heap.objs.size ≤ b) ∧ b ≠ X.env.locals ∧ (∀ x c, X.env.cells.lookup x = some c → c ≠ b) ∧ ∀ p ∈ X.pn ++ pins, p.1 ≠ b) :
    Inv X pins σ H' { s with heap := h', gens := g', drawn := d', toks := t' } := by
  obtain ⟨m, ⟨o, es, ep, ho, r⟩, _⟩ := id I.loc
  obtain ⟨sl, hL⟩ := u.any ho I.free fun z => (hch _ z).2.1 rfl
  exact I.step (ch := ch) hch (fun b o hL hb hc e n => u.keep b o e n (fun z => (List.mem_cons.mp (I.stkSub b z)).elim hL hb) hc) (fun b o _ _ hc e n => u.any e n hc) (fun b o hc e n => u.free b o e n hc) (fun b o hc e => u.there b o e hc) u.tups u.frzs u.tbls (fun m' hm => by
    obtain ⟨o', es', ep', ho', r'⟩ := hm
    rw [ho] at ho'; cases ho'
    exact ⟨_, es', ep', hL, r'⟩) hok hg
theorem Inv.turned {t' : Nat} {it : Addr} (I : Inv X pins σ H s) (k : ∀ b o, b ≠ it → s.heap.get? b = some o → h'.get? b = some o) (hn : H it = none) (hL : it ≠ X.env.locals)
    (h1 : it ∈ X.ex ∨ X.s₀.heap.objs.size ≤ it) (h2 : ∀ x c, X.env.cells.lookup x = some c → c ≠ it) (h3 : ∀ p ∈ X.pn ++ pins, p.1 ≠ it) : Inv X pins σ H { s with heap := h', toks := t' } := by
  have nit : ∀ b u, H b = some u → b ≠ it := fun b u e z => by rw [z, hn] at e; cases e
  refine I.step (g' := s.gens) (d' := s.drawn) (ch := [it]) (fun b hb => ?_) (fun b o _ _ hc e _ => k b o (fun z => hc (by simp [z])) e) (fun b o _ _ hc e _ => ⟨o.slots, k b o (fun z => hc (by simp [z])) e⟩) (fun _ _ _ _ n => n)
    (fun b o hc e => ⟨o, k b o (fun z => hc (by simp [z])) e⟩) (fun _ _ e => e) (fun _ _ _ e => e) (fun b ps e => ⟨#[], by rw [e]; simp⟩) (fun m hm => ?_) (fun b u e => ?_) I.bare
  · have e : b = it := by simpa using hb
    subst e
    exact ⟨h1, hL, h2, h3⟩
  · obtain ⟨o, es, ep, ho, r⟩ := hm
    exact ⟨o, es, ep, k _ o (Ne.symm hL) ho, r⟩
  · refine (I.hok b u e).stay (fun c v hc q => k c v ?_ q) (fun _ q => q) fun _ _ q => q
    rcases hc with z | z
    · rw [z]; exact nit b u e
    · exact nit c _ z
theorem Inv.tok (I : Inv X pins σ H s) (t : Nat) : Inv X pins σ H { s with toks := t } := I.un (h' := s.heap) (t' := t) Un.refl I.hok
theorem Inv.kept {t' : Nat} (I : Inv X pins σ H s) (k : ∀ b u, s.heap.get? b = some u → h'.get? b = some u) : Inv X pins σ H { s with heap := h', toks := t' } := I.un (Un.kept k) (I.hok.kept k)
theorem Inv.laid {a : Addr} {o : HO} {t' : Nat} (I : Inv X pins σ H s) (k : ∀ b u, s.heap.get? b = some u → h'.get? b = some u) (hp : s.heap.objs.size ≤ a) (new : ObjOk X.prog X.w (upd H a o) h' a o) :
    Inv X pins σ (upd H a o) { s with heap := h', toks := t' } := I.un (Un.laid k hp (I.hok.fresh hp)) (I.hok.laid k hp new)
theorem Inv.write {x e : Addr} {o : HO} {t' : Nat} (I : Inv X pins σ H s) (mu : Mut (H x)) (he : e = x ∨ H e = some (.own x)) (k : ∀ b u, b ≠ e → s.heap.get? b = some u → h'.get? b = some u) (heo : ∃ u, h'.get? e = some u)
    (new : ObjOk X.prog X.w (upd H x o) h' x o) : Inv X pins σ (upd H x o) { s with heap := h', toks := t' } := I.un (Un.write mu he k heo) (I.hok.write mu he k heo new)
theorem Inv.pins_of {pins' : List (Addr × Obj)} (I : Inv X pins σ H s) (h : ∀ p ∈ pins', s.heap.get? p.1 = some p.2 ∧ H p.1 = none ∧ p.1 ≠ X.env.locals ∧ p.1 ∉ X.fs ∧ ∀ v, p.2.data ≠ .cell v) : Inv X pins' σ H s :=
  ⟨I.ok, I.os, I.bare, I.base, I.loc, I.cell, I.free, I.freeC, fun p hp => (List.mem_append.mp hp).elim (fun z => I.pin p (List.mem_append_left _ z)) (h p), I.hok, I.len⟩
theorem nodup_ix {N : List Str} (hN : N.Nodup) {i j : Nat} {x : Str} (a : N[i]? = some x) (b : N[j]? = some x) : i = j := by
  obtain ⟨h1, e1⟩ := List.getElem?_eq_some_iff.mp a
  obtain ⟨h2, e2⟩ := List.getElem?_eq_some_iff.mp b
  exact (List.getElem_inj hN).mp (e1.trans e2.symm)
theorem store_ok2 {M : Model} {A : Around} {E : Value → Shared → Prop} {i : Nat} {x : Str} {v : V} {u : Value} {Q : Unit → Shared → Prop} (I : Inv X pins σ H s) (hN : X.N.Nodup) (hi : X.N[i]? = some x) (hx : Loc X.env.scope x) (r : RelV v u)
    (h : ∀ s', Inv X pins (σ.set i (some v)) H s' → (∃ a, Heap.SameBut a s.heap s'.heap ∧ (a = X.env.locals ∨ X.env.cells.lookup x = some a)) → Q () s') (hf : X.fn x = true ∨ X.env.scope.names.lookup x = some .local := by first | exact .inl rfl | exact .inr rfl | assumption) : wpAny M A (storeName X.env x u) Q E s := by
  obtain ⟨m, hn, hl⟩ := id I.loc
  have hcls : (X.env.scope.kind == .class || (X.env.scope.kind == .module && X.env.locals != X.env.globals)) = false := by rw [I.ok.kind]; rfl
  have hiσ : i < σ.length := by rw [I.len]; exact (List.getElem?_eq_some_iff.mp hi).1
  have cne := I.cne
  have tracked : ∀ {a : Addr} {h' : Heap}, (∃ o, s.heap.get? a = some o ∧ H a = none) → Heap.SameBut a s.heap h' → HOk X.prog X.w H h' := fun {a h'} ha hs b ob e => by
    obtain ⟨_, _, hfree⟩ := ha
    refine (I.hok b ob e).stay (fun c w' hc q => (hs.2 c ?_).trans q) (fun _ q => q) fun _ _ q => q
    rintro rfl
    rcases hc with rfl | hc
    · rw [hfree] at e; cases e
    · rw [hfree] at hc; cases hc
  rcases hx with hk | hk
  · refine wpAny_storeName_local hk hn (fun h' hn' hs => ?_) hcls
    obtain ⟨oL, _, _, hoL, _⟩ := id hn
    refine h _ ⟨I.ok, I.os, I.bare, ⟨fun b o e n hb hx => ?_, fun b o e n hb hx => ?_, I.base.free, fun b o e hx => ?_, I.base.tups, I.base.frzs, I.base.tbls⟩, ⟨_, hn', fun j y v' e1 e2 e3 => ?_⟩, fun y c e => ?_, I.free, I.freeC, fun p hp => ?_, tracked ⟨oL, hoL, I.free⟩ hs, by simpa using I.len⟩ ⟨_, hs, .inl rfl⟩
    · exact (hs.2 b (Nat.ne_of_lt (Nat.lt_of_lt_of_le (Heap.lt_size e) I.ok.above))).trans (I.base.keep b o e n hb hx)
    · obtain ⟨sl, e1⟩ := I.base.slot b o e n hb hx
      exact ⟨sl, (hs.2 b (Nat.ne_of_lt (Nat.lt_of_lt_of_le (Heap.lt_size e) I.ok.above))).trans e1⟩
    · obtain ⟨o', e1⟩ := I.base.there b o e hx
      exact ⟨o', (hs.2 b (Nat.ne_of_lt (Nat.lt_of_lt_of_le (Heap.lt_size e) I.ok.above))).trans e1⟩
    · by_cases hj : j = i
      · subst hj
        rw [hi] at e1; cases e1
        rw [List.getElem?_set_self hiσ] at e2
        cases e2
        exact ⟨u, r, .inl ⟨hk, by simp⟩⟩
      · rw [List.getElem?_set_ne (Ne.symm hj)] at e2
        obtain ⟨u', r', q⟩ := hl j y v' e1 e2 e3
        refine ⟨u', r', ?_⟩
        rcases q with ⟨k, e⟩ | ⟨k, c, e, z⟩
        · refine .inl ⟨k, ?_⟩
          have : y ≠ x := fun e => hj (nodup_ix hN e1 (e ▸ hi))
          simp [this, e]
        · exact .inr ⟨k, c, e, z.sameBut hs (cne y c e)⟩
    · obtain ⟨w', z⟩ := I.cell y c e
      exact ⟨w', z.sameBut hs (cne y c e)⟩
    · obtain ⟨e, n, ne, nf, d⟩ := I.pin p hp
      exact ⟨(hs.2 p.1 ne).trans e, n, ne, nf, d⟩
  · have hfn : X.fn x = true := by
      rcases hf with z | z
      · exact z
      · rw [z] at hk; cases hk
    obtain ⟨c, hc⟩ := I.ok.has x (.inl hk)
    obtain ⟨w', z⟩ := I.cell x c hc
    refine wpAny_storeName_cell I.ok.kind hk hc z (fun h' hc' hs => ?_)
    obtain ⟨oc, hoc, hocd⟩ := id z
    refine h { s with heap := h' } ⟨I.ok, I.os, I.bare, ⟨fun b o e n hb hx => ?_, fun b o e n hb hx => ?_, I.base.free, fun b o e hx => ?_, I.base.tups, I.base.frzs, I.base.tbls⟩, ⟨m, hn.sameBut hs (Ne.symm (cne x c hc)), fun j y v' e1 e2 e3 => ?_⟩, fun y c' e => ?_, I.free, I.freeC, fun p hp => ?_, tracked ⟨oc, hoc, I.freeC x c hc⟩ hs, by simpa using I.len⟩ ⟨c, hs, .inr hc⟩
    · exact (hs.2 b (Nat.ne_of_lt (Nat.lt_of_lt_of_le (Heap.lt_size e) (I.ok.cab x c hfn hc)))).trans (I.base.keep b o e n hb hx)
    · obtain ⟨sl, e1⟩ := I.base.slot b o e n hb hx
      exact ⟨sl, (hs.2 b (Nat.ne_of_lt (Nat.lt_of_lt_of_le (Heap.lt_size e) (I.ok.cab x c hfn hc)))).trans e1⟩
    · obtain ⟨o', e1⟩ := I.base.there b o e hx
      exact ⟨o', (hs.2 b (Nat.ne_of_lt (Nat.lt_of_lt_of_le (Heap.lt_size e) (I.ok.cab x c hfn hc)))).trans e1⟩
    · by_cases hj : j = i
      · subst hj
        rw [hi] at e1; cases e1
        rw [List.getElem?_set_self hiσ] at e2
        cases e2
        exact ⟨u, r, .inr ⟨.inl hk, c, hc, hc'⟩⟩
      · rw [List.getElem?_set_ne (Ne.symm hj)] at e2
        obtain ⟨u', r', q⟩ := hl j y v' e1 e2 e3
        refine ⟨u', r', ?_⟩
        rcases q with q | ⟨k, c', e, z'⟩
        · exact .inl q
        · refine .inr ⟨k, c', e, z'.sameBut hs ?_⟩
          rintro rfl
          exact hj (nodup_ix hN e1 (I.ok.inj _ _ _ e hc ▸ hi))
    · by_cases hcc : c' = c
      · subst hcc; exact ⟨_, hc'⟩
      · obtain ⟨w2, z2⟩ := I.cell y c' e
        exact ⟨w2, z2.sameBut hs hcc⟩
    · obtain ⟨e, n, ne, nf, d⟩ := I.pin p hp
      refine ⟨(hs.2 p.1 ?_).trans e, n, ne, nf, d⟩
      intro q
      rw [q, hoc] at e
      have q' : oc = p.2 := Option.some.inj e
      exact d w' (by rw [← q']; exact hocd)
theorem store_ok {M : Model} {A : Around} {E : Value → Shared → Prop} {i : Nat} {x : Str} {v : V} {u : Value} {Q : Unit → Shared → Prop} (I : Inv X pins σ H s) (hN : X.N.Nodup) (hi : X.N[i]? = some x) (hx : Loc X.env.scope x) (r : RelV v u)
    (h : ∀ s', Inv X pins (σ.set i (some v)) H s' → Q () s') (hf : X.fn x = true ∨ X.env.scope.names.lookup x = some .local := by first | exact .inl rfl | exact .inr rfl | assumption) : wpAny M A (storeName X.env x u) Q E s :=
  store_ok2 I hN hi hx r (fun s' I' _ => h s' I') hf
theorem Inv.call' {s' : Shared} {ch : List Addr} (I : Inv X pins σ H s) (ho : s'.os = s.os) (u : Un (frs X.stack) ch H H' s.heap s'.heap) (hok : HOk X.prog X.w H' s'.heap) (hg : AllBare s'.gens)
    (hch : ∀ b ∈ ch, (b ∈ X.ex ∨ X.s₀.heap.objs.size ≤ b) ∧ b ≠ X.env.locals ∧ (∀ x c, X.env.cells.lookup x = some c → c ≠ b) ∧ ∀ p ∈ X.pn ++ pins, p.1 ≠ b) : Inv X pins σ H' s' := by
  obtain ⟨h', g', d', t', o'⟩ := s'
  have e : o' = s.os := ho
  subst e
  exact I.call (g' := g') (t' := t') (d' := d') u hok hg hch
end
noncomputable abbrev XK := Value → Option Addr → Hp → Prop
noncomputable abbrev St := List (Option V)
noncomputable abbrev VK := V → Hp → Prop
noncomputable abbrev TE := St → Hp → VK → Prop
noncomputable abbrev TT := St → Hp → (Bool → Hp → Prop) → Prop
noncomputable abbrev TA := St → Hp → (List V → Hp → Prop) → Prop
structure Ends where
  nx : St → Hp → Prop
  rt : VK
  bk : St → Hp → Prop := fun _ _ => False
  ct : St → Hp → Prop := fun _ _ => False
noncomputable abbrev TS := Ends → St → Hp → Prop
noncomputable def EP (X : Cx) (pins : List (Addr × Obj)) (σ : St) (Q : VK) (u : Value) (s' : Shared) : Prop := ∃ v H', Inv X pins σ H' s' ∧ RelV v u ∧ Q v H'
noncomputable def TP (X : Cx) (pins : List (Addr × Obj)) (σ : St) (Q : Bool → Hp → Prop) (b : Bool) (s' : Shared) : Prop := ∃ H', Inv X pins σ H' s' ∧ Q b H'
noncomputable def AP (X : Cx) (pins : List (Addr × Obj)) (σ : St) (Q : List V → Hp → Prop) (us : List Value) (s' : Shared) : Prop := ∃ vs H', Inv X pins σ H' s' ∧ Vals vs us ∧ Q vs H'
noncomputable def SP (X : Cx) (pins : List (Addr × Obj)) (D : Ends) (f : Flow) (s' : Shared) : Prop :=
  match f with
  | .next => ∃ σ' H', Inv X pins σ' H' s' ∧ D.nx σ' H'
  | .brk => ∃ σ' H', Inv X pins σ' H' s' ∧ D.bk σ' H'
  | .cont => ∃ σ' H', Inv X pins σ' H' s' ∧ D.ct σ' H'
  | .ret u => ∃ v σ' H', Inv X pins σ' H' s' ∧ RelV v u ∧ D.rt v H'
noncomputable def PE (X : Cx) (e : Expr) (t : TE) : Prop :=
  ∀ (pins : List (Addr × Obj)) (s : Shared) (σ : St) (H : Hp) (Q : VK), Inv X pins σ H s → t σ H Q → wpAny (model X.prog X.w) X.A (eval e X.env) (EP X pins σ Q) X.xe s
noncomputable def PT (X : Cx) (e : Expr) (t : TT) : Prop :=
  ∀ (pins : List (Addr × Obj)) (s : Shared) (σ : St) (H : Hp) (Q : Bool → Hp → Prop), Inv X pins σ H s → t σ H Q → wpAny (model X.prog X.w) X.A (isTrue e X.env (eval e X.env)) (TP X pins σ Q) X.xe s
noncomputable def PW (X : Cx) (e : Expr) (t : TT) : Prop :=
  ∀ (whole : Sem Value) (pins : List (Addr × Obj)) (s : Shared) (σ : St) (H : Hp) (Q : Bool → Hp → Prop), Inv X pins σ H s → t σ H Q → wpAny (model X.prog X.w) X.A (isTrue e X.env whole) (TP X pins σ Q) X.xe s
theorem PW.pt {X : Cx} {e : Expr} {t : TT} (h : PW X e t) : PT X e t := h _
noncomputable def PA (X : Cx) (es : List Expr) (t : TA) : Prop :=
  ∀ (pos : Pos) (pins : List (Addr × Obj)) (s : Shared) (σ : St) (H : Hp) (Q : List V → Hp → Prop), Inv X pins σ H s → t σ H Q → wpAny (model X.prog X.w) X.A (spliced (backTo pos (starEach es X.env))) (AP X pins σ Q) X.xe s
noncomputable def PS (X : Cx) (st : Stmt) (t : TS) : Prop :=
  ∀ (pins : List (Addr × Obj)) (s : Shared) (σ : St) (H : Hp) (D : Ends), Inv X pins σ H s → t D σ H → wpAny (model X.prog X.w) X.A (exec st X.env) (SP X pins D) X.xe s
noncomputable def PSs (X : Cx) (st : List Stmt) (t : TS) : Prop :=
  ∀ (pins : List (Addr × Obj)) (s : Shared) (σ : St) (H : Hp) (D : Ends), Inv X pins σ H s → t D σ H → wpAny (model X.prog X.w) X.A (execs st X.env) (SP X pins D) X.xe s
theorem thn {α : Type} {t : Sem α} {Q Q' : α → Shared → Prop} {M : Model} {A : Around} {E : Value → Shared → Prop} {s : Shared} (h : wpAny M A t Q E s) (hQ : ∀ a s, Q a s → Q' a s) : wpAny M A t Q' E s := wpAny_mono h hQ fun _ _ x => x
end L2
namespace L2
open PySem PySem.Spec PyProof.Rows
section
variable {X : Cx}
noncomputable def tVar (i : Nat) : TE := fun σ H Q => ∃ v, σ[i]? = some (some v) ∧ Q v H
noncomputable def tC (v : V) : TE := fun _ H Q => Q v H
theorem pe_var {i : Nat} {x : Str} {pos : Pos} (hN : X.N[i]? = some x) (hv : Vis X.env.scope x) (hd : (x == ("__debug__" : Str)) = false := by decide) (hcd : (x == ("__classdict__" : Str)) = false := by decide) : PE X (.Name x pos) (tVar i) := by
  intro pins s σ H Q I h
  obtain ⟨v, e, h⟩ := h
  obtain ⟨m, hn, hl⟩ := I.loc
  obtain ⟨u, r, l⟩ := hl i x v hN e hv
  have fin : EP X pins σ Q u s := ⟨v, H, I, r, h⟩
  rcases l with ⟨hk, hm⟩ | ⟨hk, c, hc, hcell⟩
  · exact wpAny_Name (wpAny_loadName_local I.ok.kind hk hn hm fin) hd
  · rcases hk with hk | hk
    · exact wpAny_Name (wpAny_loadName_cell I.ok.kind hk hc hcell fin) hd
    · exact wpAny_Name (wpAny_loadName_free I.ok.kind hk hc hcell fin hcd) hd
theorem pe_int {i j pos} : PE X (.Constant (.int i) j pos) (tC (.int i)) := fun _ _ _ H _ I h => wpAny_Constant_int ⟨.int i, H, I.tok _, ⟨_, rfl⟩, h⟩
theorem pe_bl {b j pos} : PE X (.Constant (.bool b) j pos) (tC (.bl b)) := fun _ _ _ H _ I h => Constant_bool ⟨.bl b, H, I, rfl, h⟩
noncomputable def Gl (X : Cx) (x : Str) : Prop := X.env.kindOf x = some .globalImplicit
theorem ld_glob {E : Value → Shared → Prop} {pins : List (Addr × Obj)} {s : Shared} {σ : St} {H : Hp} {x : Str} {u : Value} {pos : Pos} {Q : Value → Shared → Prop} (I : Inv X pins σ H s) (hg : Gl X x) (hm : X.mg x = some u) (h : Q u s)
    (hd : (x == ("__debug__" : Str)) = false := by decide) : wpAny (model X.prog X.w) X.A (eval (.Name x pos) X.env) Q E s :=
  Calls.Name_function_global I.ok.kind hg (Calls.loadGlobal_global (by rw [I.ok.glob]; exact I.mod.glob.keeps I.bk) hm h) hd
theorem ld_blt {E : Value → Shared → Prop} {pins : List (Addr × Obj)} {s : Shared} {σ : St} {H : Hp} {x : Str} {u : Value} {pos : Pos} {Q : Value → Shared → Prop} (I : Inv X pins σ H s) (hg : Gl X x) (hm : X.mg x = none) (hv : bootBuiltins x = some u) (h : Q u s)
    (hn : x ≠ "__name__" := by decide) (hd : (x == ("__debug__" : Str)) = false := by decide) : wpAny (model X.prog X.w) X.A (eval (.Name x pos) X.env) Q E s := by
  obtain ⟨mb, h1, h2⟩ := I.mod.blt
  exact Calls.Name_function_global I.ok.kind hg (Calls.loadGlobal_builtin (by rw [I.ok.glob]; exact I.mod.glob.keeps I.bk) hm (by rw [I.ok.blt]; exact h1.keeps I.bk) ((h2 x hn).trans hv) h) hd
theorem pe_glob {x : Str} {v : V} {u : Value} {pos : Pos} (hg : Gl X x) (hm : X.mg x = some u) (r : RelV v u) (hd : (x == ("__debug__" : Str)) = false := by decide) : PE X (.Name x pos) (tC v) :=
  fun _ _ _ H _ I h => ld_glob I hg hm ⟨v, H, I, r, h⟩ hd
theorem pe_bltn {x : Str} {v : V} {u : Value} {pos : Pos} (hg : Gl X x) (hm : X.mg x = none) (hv : bootBuiltins x = some u) (r : RelV v u) (hn : x ≠ "__name__" := by decide) (hd : (x == ("__debug__" : Str)) = false := by decide) : PE X (.Name x pos) (tC v) :=
  fun _ _ _ H _ I h => ld_blt I hg hm hv ⟨v, H, I, r, h⟩ hn hd
variable {a b : Expr} {ta tb : TE} {pos : Pos}
noncomputable def tB (t : TE) : TT := fun σ H Q => t σ H fun x H1 => ∃ c, x = .bl c ∧ Q c H1
theorem pt_val {e : Expr} {t : TE} (h : PE X e t) (he : ∀ whole, isTrue e X.env whole = (do let v ← whole; standAt e.pos; holding [v] (truthy v)) := by intro _; rfl) : PT X e (tB t) := by
  intro pins s σ H Q I hw
  refine isTrue_plain (thn (h pins s σ H _ I hw) fun v s1 ⟨x, H1, I1, r1, q1⟩ => ?_) (he _)
  obtain ⟨d, rfl, q⟩ := q1
  cases r1
  exact wpAny_truthy_bool ⟨H1, I1, q⟩
variable {tA tB' : TT} {rest : List Expr}
noncomputable def tAnd (t u : TT) : TT := fun σ H Q => t σ H fun c H1 => if c = true then u σ H1 Q else Q false H1
noncomputable def tOr (t u : TT) : TT := fun σ H Q => t σ H fun c H1 => if c = true then Q true H1 else u σ H1 Q
noncomputable def tNot (t : TT) : TT := fun σ H Q => t σ H fun c H1 => Q (!c) H1
theorem pw_and1 (ha : PT X a tA) : PW X (.BoolOp .And [a] pos) tA := by
  intro wh pins s σ H Q I h
  refine isTrue_and (thn (ha pins s σ H Q I h) fun c s1 e => ?_)
  cases c with
  | true => exact isTrue_and_nil e
  | false => exact e
theorem pw_or1 (ha : PT X a tA) : PW X (.BoolOp .Or [a] pos) tA := by
  intro wh pins s σ H Q I h
  refine isTrue_or (thn (ha pins s σ H Q I h) fun c s1 e => ?_)
  cases c with
  | false => exact isTrue_or_nil e
  | true => exact e
theorem pw_and (ha : PT X a tA) (hb : PW X (.BoolOp .And (b :: rest) pos) tB') : PW X (.BoolOp .And (a :: b :: rest) pos) (tAnd tA tB') := by
  intro wh pins s σ H Q I h
  refine isTrue_and (thn (ha pins s σ H _ I h) fun c s1 ⟨H1, I1, q1⟩ => ?_)
  cases c with
  | true => exact hb wh pins s1 σ H1 Q I1 q1
  | false => exact ⟨H1, I1, q1⟩
theorem pw_or (ha : PT X a tA) (hb : PW X (.BoolOp .Or (b :: rest) pos) tB') : PW X (.BoolOp .Or (a :: b :: rest) pos) (tOr tA tB') := by
  intro wh pins s σ H Q I h
  refine isTrue_or (thn (ha pins s σ H _ I h) fun c s1 ⟨H1, I1, q1⟩ => ?_)
  cases c with
  | true => exact ⟨H1, I1, q1⟩
  | false => exact hb wh pins s1 σ H1 Q I1 q1
theorem pt_not (ha : PT X a tA) : PT X (.UnaryOp .Not a pos) (tNot tA) := by
  intro pins s σ H Q I h
  exact isTrue_not (ha pins s σ H (fun c H1 => Q (!c) H1) I h)
noncomputable def tAndV (ta tb : TE) : TE := fun σ H Q => ta σ H fun x H1 => ∃ c, x = .bl c ∧ if c = true then tb σ H1 Q else Q (.bl false) H1
noncomputable def tNotV (ta : TE) : TE := fun σ H Q => ta σ H fun x H1 => ∃ c, x = .bl c ∧ Q (.bl (!c)) H1
theorem pe_one {op} {t : TE} (h : PE X a t) : PE X (.BoolOp op [a] pos) t := fun pins s σ H Q I hw => BoolOp_one (h pins s σ H Q I hw)
theorem pe_and (ha : PE X a ta) (hb : PE X (.BoolOp .And (b :: rest) pos) tb) : PE X (.BoolOp .And (a :: b :: rest) pos) (tAndV ta tb) := by
  intro pins s σ H Q I h
  refine BoolOp_and (thn (ha pins s σ H _ I h) fun v s1 ⟨x, H1, I1, r1, q1⟩ => ?_)
  obtain ⟨c, rfl, q1⟩ := q1
  cases r1
  refine wpAny_truthy_bool ?_
  cases c with
  | true => exact hb pins s1 σ H1 Q I1 q1
  | false => exact ⟨.bl false, H1, I1, rfl, q1⟩
theorem pe_not (ha : PE X a ta) : PE X (.UnaryOp .Not a pos) (tNotV ta) := by
  intro pins s σ H Q I h
  refine UnaryOp_ (thn (ha pins s σ H _ I h) fun v s1 ⟨x, H1, I1, r1, q1⟩ => ?_)
  obtain ⟨c, rfl, q1⟩ := q1
  cases r1
  exact not_of (wpAny_truthy_bool ⟨.bl (!c), H1, I1, rfl, q1⟩)
noncomputable def tIf (t : TT) (ta tb : TE) : TE := fun σ H Q => t σ H fun c H1 => if c = true then ta σ H1 Q else tb σ H1 Q
theorem pe_ifExp {c : Expr} (hc : PT X c tA) (ha : PE X a ta) (hb : PE X b tb) : PE X (.IfExp c a b pos) (tIf tA ta tb) := by
  intro pins s σ H Q I h
  refine wpAny_IfExp (thn (hc pins s σ H _ I h) fun d s1 ⟨H1, I1, q1⟩ => ?_)
  cases d with
  | true => exact ha pins s1 σ H1 Q I1 q1
  | false => exact hb pins s1 σ H1 Q I1 q1
end
end L2
namespace L2
open PySem PySem.Spec PyProof.Rows
noncomputable def SqL (K : PySem.W.Frag) (H : Hp) (a : Addr) (xs : List V) : Prop :=
  Rd H a (.lst xs) ∨
    ∃ (o : Obj) (its : Array Value) (n : Nat), K.lookup a = some o ∧ o.cls = .type "list" ∧ o.dict = none ∧ o.data = .seq its n ∧ its.size ≤ sizeLine ∧ Vals xs its.toList
noncomputable def SqT (K : PySem.W.Frag) (H : Hp) (a : Addr) (xs : List V) : Prop :=
  Rd H a (.tup xs) ∨
    ∃ (o : Obj) (its : Array Value) (n : Nat), K.lookup a = some o ∧ o.cls = .type "tuple" ∧ o.data = .seq its n ∧ its.size ≤ sizeLine ∧ Vals xs its.toList
noncomputable def absV : Value → Option V
  | .none => some .non
  | .bool b => some (.bl b)
  | .int i _ => some (.int i)
  | .str x _ => some (.str x)
  | .bytes b _ => some (.byt b)
  | .float b _ => some (.flt b)
  | .ref a => some (.ref a)
  | .type n => some (.ty n)
  | _ => none
theorem RelV.abs {x : V} {u : Value} (r : RelV x u) : absV u = some x := by
  cases x with
  | non => cases r; rfl
  | bl _ => cases r; rfl
  | int _ => obtain ⟨t, rfl⟩ := r; rfl
  | str _ => obtain ⟨t, rfl⟩ := r; rfl
  | byt _ => obtain ⟨t, rfl⟩ := r; rfl
  | flt _ => obtain ⟨t, rfl⟩ := r; rfl
  | ref _ => cases r; rfl
  | ty _ => cases r; rfl
theorem RelV.inj {x y : V} {u : Value} (r : RelV x u) (q : RelV y u) : x = y := Option.some.inj (r.abs.symm.trans q.abs)
theorem Vals.inj : ∀ {xs ys : List V} {us : List Value}, Vals xs us → Vals ys us → xs = ys
  | _, _, _, .nil, .nil => rfl
  | _, _, _, .cons r t, .cons r' t' => by rw [r.inj r', Vals.inj t t']
section
variable {X : Cx} {pins : List (Addr × Obj)} {σ : St} {H : Hp} {s : Shared} {a : Addr} {xs ys : List V}
theorem SqL.of {K : PySem.W.Frag} (h : H a = some (.lst xs)) : SqL K H a xs := .inl (.inl h)
theorem SqT.of {K : PySem.W.Frag} (h : H a = some (.tup xs)) : SqT K H a xs := .inl (.inl h)
theorem Inv.list (I : Inv X pins σ H s) (h : SqL X.K H a xs) : ∃ its : List Value, Vals xs its ∧ PlainL s.heap a its.toArray ∧ xs.length ≤ sizeLine := by
  rcases h with h | ⟨o, its, n, hk, hc, hd, hs, hz, r⟩
  · obtain ⟨z, its, n, r, e⟩ := h.ok I.hok
    exact ⟨its, r, ⟨_, n, e, rfl, rfl, rfl⟩, z⟩
  · refine ⟨its.toList, r, ⟨o, n, I.kIn a o hk, hc, hd, by simpa using hs⟩, ?_⟩
    have e := r.length
    simp only [Array.length_toList] at e
    (clear I hk hc hd hs r; omega)
theorem Inv.tuple (I : Inv X pins σ H s) (h : SqT X.K H a xs) : ∃ its : List Value, Vals xs its ∧ IsTup s.heap a its.toArray ∧ xs.length ≤ sizeLine := by
  rcases h with h | ⟨o, its, n, hk, hc, hs, hz, r⟩
  · obtain ⟨z, its, r, p⟩ := h.ok I.hok
    exact ⟨its, r, p, z⟩
  · refine ⟨its.toList, r, ⟨o, I.kIn a o hk, hc, n, by simpa using hs⟩, ?_⟩
    have e := r.length
    simp only [Array.length_toList] at e
    (clear I hk hc hs r; omega)
theorem Inv.list_inj (I : Inv X pins σ H s) (h : SqL X.K H a xs) (h' : SqL X.K H a ys) : xs = ys := by
  obtain ⟨its, r, ⟨o, n, e, _, _, d⟩, _⟩ := I.list h
  obtain ⟨its', r', ⟨o', n', e', _, _, d'⟩, _⟩ := I.list h'
  rw [e] at e'; cases e'
  rw [d] at d'
  injection d' with d1 _
  have : its = its' := by simpa using congrArg Array.toList d1
  subst this
  exact r.inj r'
theorem Inv.tuple_inj (I : Inv X pins σ H s) (h : SqT X.K H a xs) (h' : SqT X.K H a ys) : xs = ys := by
  obtain ⟨its, r, ⟨o, e, _, n, d⟩, _⟩ := I.tuple h
  obtain ⟨its', r', ⟨o', e', _, n', d'⟩, _⟩ := I.tuple h'
  rw [e] at e'; cases e'
  rw [d] at d'
  injection d' with d1 _
  have : its = its' := by simpa using congrArg Array.toList d1
  subst this
  exact r.inj r'
end
noncomputable abbrev Cx.wish (X : Cx) (E : Value → Shared → Prop) : Cx := { X with xe := E }
noncomputable abbrev Cx.nox (X : Cx) : Cx := X.wish fun _ _ => False
theorem Cx.Ok.wish {X : Cx} (ok : X.Ok) (E : Value → Shared → Prop) : (X.wish E).Ok :=
  ⟨ok.mod, ok.kind, ok.glob, ok.blt, ok.above, ok.inj, ok.has, ok.cab, ok.hd, ok.frames, ok.stk, ok.exf, ok.bs, ok.bsz, ok.noex, ok.exfs, ok.funs, ok.frf⟩
theorem Cx.Ok.unwish {X : Cx} {E : Value → Shared → Prop} (ok : (X.wish E).Ok) : X.Ok :=
  ⟨ok.mod, ok.kind, ok.glob, ok.blt, ok.above, ok.inj, ok.has, ok.cab, ok.hd, ok.frames, ok.stk, ok.exf, ok.bs, ok.bsz, ok.noex, ok.exfs, ok.funs, ok.frf⟩
section
variable {X : Cx} {pins : List (Addr × Obj)} {σ : St} {H : Hp} {s : Shared} {E : Value → Shared → Prop}
theorem Inv.wish (I : Inv X pins σ H s) (E : Value → Shared → Prop) : Inv (X.wish E) pins σ H s := ⟨I.ok.wish E, I.os, I.bare, I.base, I.loc, I.cell, I.free, I.freeC, I.pin, I.hok, I.len⟩
theorem Inv.unwish (I : Inv (X.wish E) pins σ H s) : Inv X pins σ H s := ⟨I.ok.unwish, I.os, I.bare, I.base, I.loc, I.cell, I.free, I.freeC, I.pin, I.hok, I.len⟩
theorem SP.unwish {D : Ends} {f : Flow} {s' : Shared} (h : SP (X.wish E) pins D f s') : SP X pins D f s' := by
  cases f with
  | next => obtain ⟨σ', H', I, q⟩ := h; exact ⟨σ', H', I.unwish, q⟩
  | brk => obtain ⟨σ', H', I, q⟩ := h; exact ⟨σ', H', I.unwish, q⟩
  | cont => obtain ⟨σ', H', I, q⟩ := h; exact ⟨σ', H', I.unwish, q⟩
  | ret u => obtain ⟨v, σ', H', I, r, q⟩ := h; exact ⟨v, σ', H', I.unwish, r, q⟩
theorem PSs.nox {st : List Stmt} {t : TS} (h : PSs X.nox st t) : PSs X st t := fun pins s σ H D I hw =>
  wpAny_mono (h pins s σ H D (I.wish _) hw) (fun _ _ q => q.unwish) fun _ _ z => False.elim z
end
section
variable {X : Cx} {st : Stmt} {rest : List Stmt} {t u : TS} {e : Expr} {te : TE} {pos : Pos}
noncomputable def tNext : TS := fun D σ H => D.nx σ H
noncomputable def tSeq (t u : TS) : TS := fun D σ H => t { D with nx := u D } σ H
theorem pss_nil : PSs X [] tNext := fun _ _ σ H _ I h => wpAny_execs_nil ⟨σ, H, I, h⟩
theorem pss_cons (h1 : PS X st t) (h2 : PSs X rest u) : PSs X (st :: rest) (tSeq t u) := by
  intro pins s σ H D I h
  refine wpAny_execs_cons (thn (h1 pins s σ H { D with nx := u D } I h) fun f s1 q => ?_)
  cases f with
  | next =>
    obtain ⟨σ', H', I', q⟩ := q
    exact h2 pins s1 σ' H' D I' q
  | ret v => exact q
  | brk => exact q
  | cont => exact q
theorem pss_one (h1 : PS X st t) : PSs X [st] t := by
  intro pins s σ H D I h
  refine wpAny_execs_cons (thn (h1 pins s σ H D I h) fun f s1 q => ?_)
  cases f with
  | next => exact wpAny_execs_nil q
  | ret v => exact q
  | brk => exact q
  | cont => exact q
theorem Inv.quiet {pins : List (Addr × Obj)} {σ : St} {H : Hp} {s : Shared} (I : Inv X pins σ H s) : interactive X.env = false := by simp [interactive, I.ok.kind]
noncomputable def tDrop (te : TE) : TS := fun D σ H => te σ H fun _ H1 => D.nx σ H1
theorem ps_expr (he : PE X e te) (hs : swapsWith e none pos.line X.env = pure false := by rfl) : PS X (.Expr e pos) (tDrop te) := by
  intro pins s σ H D I h
  exact wpAny_Expr_any (thn (he pins s σ H _ I h) fun v s1 ⟨x, H1, I1, r1, q1⟩ => ⟨σ, H1, I1, q1⟩) I.quiet hs
noncomputable def tRet (te : TE) : TS := fun D σ H => te σ H D.rt
theorem ps_ret (he : PE X e te) : PS X (.Return (some e) pos) (tRet te) := by
  intro pins s σ H D I h
  exact wpAny_Return_some (thn (he pins s σ H _ I h) fun v s1 ⟨x, H1, I1, r1, q1⟩ => ⟨x, σ, H1, I1, r1, q1⟩)
noncomputable def tIfS (c : TT) (t u : TS) : TS := fun D σ H => c σ H fun b H1 => if b = true then t D σ H1 else u D σ H1
theorem ps_if {c : Expr} {a b : List Stmt} {tc : TT} (hc : PT X c tc) (ha : PSs X a t) (hb : PSs X b u) : PS X (.If c a b pos) (tIfS tc t u) := by
  intro pins s σ H D I h
  refine wpAny_If (thn (hc pins s σ H _ I h) fun d s1 ⟨H1, I1, q1⟩ => ?_)
  cases d with
  | true => exact ha pins s1 σ H1 D I1 q1
  | false => exact hb pins s1 σ H1 D I1 q1
end
noncomputable abbrev TG := V → St → Hp → (St → Hp → Prop) → Prop
noncomputable abbrev TGs := List V → St → Hp → (St → Hp → Prop) → Prop
noncomputable def PG (X : Cx) (target : Expr) (t : TG) : Prop :=
  ∀ (pins : List (Addr × Obj)) (s : Shared) (σ : St) (H : Hp) (v : V) (u : Value) (Q : St → Hp → Prop), Inv X pins σ H s → RelV v u → t v σ H Q →
    wpAny (model X.prog X.w) X.A (assign target X.env u) (fun _ s' => ∃ σ' H', Inv X pins σ' H' s' ∧ Q σ' H') X.xe s
noncomputable def PGs (X : Cx) (ts : List Expr) (t : TGs) : Prop :=
  ∀ (pins : List (Addr × Obj)) (s : Shared) (σ : St) (H : Hp) (vs : List V) (us : List Value) (Q : St → Hp → Prop), Inv X pins σ H s → Vals vs us → t vs σ H Q →
    wpAny (model X.prog X.w) X.A (assignInOrder ((assignEach ts X.env).map (·.2)) us) (fun _ s' => ∃ σ' H', Inv X pins σ' H' s' ∧ Q σ' H') X.xe s
section
variable {X : Cx} {pos : Pos}
noncomputable def gName (i : Nat) : TG := fun v σ H Q => Q (σ.set i (some v)) H
theorem pg_name {i : Nat} {x : Str} (hN : X.N.Nodup) (hi : X.N[i]? = some x) (hx : Loc X.env.scope x) (hf : X.fn x = true ∨ X.env.scope.names.lookup x = some .local := by first | exact .inl rfl | exact .inr rfl | assumption) : PG X (.Name x pos) (gName i) := by
  intro pins s σ H v u Q I r h
  exact wpAny_assign_Name (store_ok I hN hi hx r (fun s' I' => ⟨_, H, I', h⟩) hf)
noncomputable def gNil : TGs := fun vs σ H Q => vs = [] ∧ Q σ H
noncomputable def gCons (t : TG) (u : TGs) : TGs := fun vs σ H Q => ∃ v r, vs = v :: r ∧ t v σ H fun σ' H' => u r σ' H' Q
theorem pgs_nil : PGs X [] gNil := by
  intro pins s σ H vs us Q I r h
  obtain ⟨e, h⟩ := h
  subst e
  cases r
  exact assignInOrder_nil ⟨σ, H, I, h⟩
theorem pgs_cons {e : Expr} {es : List Expr} {t : TG} {u : TGs} (h1 : PG X e t) (h2 : PGs X es u)
    (hs : (assignEach (e :: es) X.env).map (·.2) = assign e X.env :: (assignEach es X.env).map (·.2) := by rfl) : PGs X (e :: es) (gCons t u) := by
  intro pins s σ H vs us Q I r h
  obtain ⟨v, vr, e1, h⟩ := h
  subst e1
  cases r with
  | cons r rr =>
    rw [hs]
    refine assignInOrder_cons (thn (h1 pins s σ H _ _ _ I r h) fun _ s1 ⟨σ1, H1, I1, q1⟩ => ?_)
    exact h2 pins s1 σ1 H1 _ _ Q I1 rr q1
noncomputable def gTup (K : PySem.W.Frag) (n : Nat) (t : TGs) : TG := fun v σ H Q => ∃ a xs, v = .ref a ∧ SqT K H a xs ∧ xs.length = n ∧ t xs σ H Q
theorem pg_tup {es : List Expr} {k : Nat} {t : TGs} {n : Nat} (hc : X.calm = true) (h : PGs X es t)
    (hn : (assignEach es X.env).length = n := by rfl) (hst : (assignEach es X.env).findIdx? (·.1) = none := by rfl) : PG X (.Tuple es k pos) (gTup X.K n t) := by
  intro pins s σ H v u Q I r hw
  obtain ⟨a, xs, e1, hq, hl, hw⟩ := hw
  subst e1
  cases r
  obtain ⟨its, rv, ht, hz⟩ := I.tuple hq
  refine assign_Tuple_tuple (I.ok.hd hc) ht (by simp [hn, ← hl, rv.length]) hst fun h' hx => ?_
  have I1 : Inv X pins σ H { s with heap := h' } := I.kept (t' := s.toks) fun b o e => hx b o (Nat.ne_of_lt (Heap.lt_size e)) e
  exact h pins _ σ H xs _ Q I1 (by simpa using rv) hw
noncomputable def tAsg (te : TE) (g : TG) : TS := fun D σ H => te σ H fun x H1 => g x σ H1 D.nx
theorem ps_set {i : Nat} {x : Str} {e : Expr} {te : TE} {pos' : Pos} (hN : X.N.Nodup) (hi : X.N[i]? = some x) (hx : Loc X.env.scope x) (he : PE X e te) (hs : swapsWith e (some (.Name x pos')) pos.line X.env = pure false := by rfl) (hf : X.fn x = true ∨ X.env.scope.names.lookup x = some .local := by first | exact .inl rfl | exact .inr rfl | assumption) :
    PS X (.Assign [.Name x pos'] e pos) (tAsg te (gName i)) := by
  intro pins s σ H D I h
  refine wpAny_Assign_Name (thn (he pins s σ H _ I h) fun v s1 ⟨y, H1, I1, r1, q1⟩ => ?_) hs
  exact store_ok I1 hN hi hx r1 (fun s2 I2 => ⟨_, H1, I2, q1⟩) hf
end
section
variable {X : Cx} {pos : Pos}
noncomputable def tWhile (c : TT) (tb : TS) : TS := fun D σ H => ∃ W : Nat → St → Hp → Prop, (∃ m, W m σ H) ∧ ∀ m σ H, W m σ H →
  c σ H fun b H1 => if b = true then ∃ N : St → Hp → Prop, (∀ σ' H', N σ' H' → ∃ m', m' < m ∧ W m' σ' H') ∧ tb { D with nx := N, ct := N, bk := D.nx } σ H1 else D.nx σ H1
theorem ps_while {c : Expr} {body : List Stmt} {tc : TT} {tb : TS} (hp : PassesOwn (model X.prog X.w) X.A X.env X.xe) (hc : PT X c tc) (hb : PSs X body tb) : PS X (.While c body [] pos) (tWhile tc tb) := by
  intro pins s σ H D I h
  obtain ⟨W, ⟨m0, w0⟩, turn⟩ := h
  refine wpAny_While (codeAny_whileLoop (fun n s' => ∃ σ' H', Inv X pins σ' H' s' ∧ W n σ' H') ?_ m0 ⟨σ, H, I, w0⟩)
  rintro n s1 ⟨σ1, H1, I1, w1⟩
  refine wpAny_passesOwn hp (thn (hc pins s1 σ1 H1 _ I1 (turn n σ1 H1 w1)) fun b s2 ⟨H2, I2, q2⟩ => ?_)
  cases b with
  | true =>
    obtain ⟨N, hN, q2⟩ := q2
    rw [if_pos rfl]
    refine wpAny_passesOwn hp (thn (hb pins s2 σ1 H2 _ I2 q2) fun f s3 q3 => ?_)
    cases f with
    | next =>
      obtain ⟨σ3, H3, I3, n3⟩ := q3
      obtain ⟨m', hm, w3⟩ := hN σ3 H3 n3
      exact ⟨m', hm, σ3, H3, I3, w3⟩
    | cont =>
      obtain ⟨σ3, H3, I3, n3⟩ := q3
      obtain ⟨m', hm, w3⟩ := hN σ3 H3 n3
      exact ⟨m', hm, σ3, H3, I3, w3⟩
    | brk => exact q3
    | ret v => exact q3
  | false =>
    rw [if_neg Bool.false_ne_true]
    exact wpAny_execs_nil ⟨σ1, H2, I2, q2⟩
end
structure It where
  go : Nat → Hp → Prop
  yld : Nat → Hp → V → Hp → Prop
  stop : Nat → Hp → Prop
noncomputable def FpOk (X : Cx) (pins : List (Addr × Obj)) (H : Hp) (b : Addr) : Prop :=
  H b = none ∧ b ≠ X.env.locals ∧ b ∉ X.fs ∧ (b ∈ X.ex ∨ X.s₀.heap.objs.size ≤ b) ∧ (∀ x c, X.env.cells.lookup x = some c → c ≠ b) ∧ ∀ p ∈ X.pn ++ pins, p.1 ≠ b
theorem Inv.fpOk {X : Cx} {pins : List (Addr × Obj)} {σ : St} {H H' : Hp} {s : Shared} {b : Addr} (I : Inv X pins σ H s) (hb : s.heap.objs.size ≤ b) (hn : H' b = none) : FpOk X pins H' b := by
  refine ⟨hn, Nat.ne_of_gt (Nat.lt_of_lt_of_le I.lt hb), I.nofs hb, .inr (Nat.le_trans I.sz hb), fun x c e z => ?_, fun p hp z => ?_⟩
  · obtain ⟨v, q⟩ := I.cell x c e
    exact absurd (Nat.lt_of_lt_of_le q.lt (by rw [z]; exact hb)) (Nat.lt_irrefl _)
  · exact absurd (Nat.lt_of_lt_of_le (Heap.lt_size (I.pin p hp).1) (by rw [z]; exact hb)) (Nat.lt_irrefl _)
structure Turn (P : Program) (w : World) (K : PySem.W.Frag) (tg : Expr) (J : It) (fp : List Addr) (it : Addr) (tn : Nat → Heap → Prop) : Prop where
  mem : it ∈ fp
  obj : ∀ i h, tn i h → ∀ b ∈ fp, ∃ o, h.get? b = some o ∧ ∀ v, o.data ≠ .cell v
  keep : ∀ i h h', tn i h → (∀ b ∈ fp, ∀ o, h.get? b = some o → h'.get? b = some o) → tn i h'
  item : ∀ (X : Cx), X.prog = P → X.w = w → X.K = K → X.calm = true → ∀ (i : Nat) (pins : List (Addr × Obj)) (s : Shared) (σ : St) (H : Hp) (E : Value → Shared → Prop), Inv X pins σ H s → (∀ b ∈ fp, FpOk X pins H b) → tn i s.heap → J.go i H →
    wpAny (model P w) X.A (pyNext (.ref it)) (fun r s1 => ∃ u, r = some u ∧
      wpAny (model P w) X.A (letOwnedTupleGo tg (.ref it) u) (fun _ s2 => ∃ x H', Inv X pins σ H' s2 ∧ RelV x u ∧ J.yld i H x H' ∧ tn (i + 1) s2.heap ∧ ∀ b ∈ fp, H' b = none) E s1) E s
  done : ∀ (X : Cx), X.prog = P → X.w = w → X.K = K → X.calm = true → ∀ (i : Nat) (pins : List (Addr × Obj)) (s : Shared) (σ : St) (H : Hp) (E : Value → Shared → Prop), Inv X pins σ H s → (∀ b ∈ fp, FpOk X pins H b) → tn i s.heap → J.stop i H →
    wpAny (model P w) X.A (pyNext (.ref it)) (fun r s1 => r = none ∧ Inv X pins σ H s1) E s
  self : ∀ (A : Around) (i : Nat) (s : Shared) (Q : Value → Shared → Prop) (E : Value → Shared → Prop), tn i s.heap → Q (.ref it) s → wpAny (model P w) A (pyIter (.ref it)) Q E s
noncomputable abbrev TI := St → Hp → (It → Hp → Prop) → Prop
noncomputable def PIE (X : Cx) (pins : List (Addr × Obj)) (σ : St) (tg : Expr) (R : It → Hp → Prop) (itv : Value) (s2 : Shared) : Prop :=
  ∃ (it : Addr) (fp : List Addr) (tn : Nat → Heap → Prop) (J : It) (H' : Hp), itv = .ref it ∧ Inv X pins σ H' s2 ∧ Turn X.prog X.w X.K tg J fp it tn ∧ tn 0 s2.heap ∧ (∀ b ∈ fp, FpOk X pins H' b) ∧ R J H'
noncomputable def PI (X : Cx) (tg iter : Expr) (wi : TI) : Prop :=
  ∀ (pins : List (Addr × Obj)) (s : Shared) (σ : St) (H : Hp) (R : It → Hp → Prop), Inv X pins σ H s → wi σ H R →
    wpAny (model X.prog X.w) X.A (eval iter X.env) (fun v s1 => wpAny (model X.prog X.w) X.A (pyIter v) (PIE X pins σ tg R) X.xe s1) X.xe s
theorem go_of {M : Model} {A : Around} {E : Value → Shared → Prop} {s : Shared} {tg : Expr} {it : Addr} {u : Value} {o : Obj} {n : String} {vs : Array Value} {Q : Unit → Shared → Prop} (ho : s.heap.get? it = some o) (hc : o.cls = .type n) (hd : o.data = .fields vs)
    (hn : ["enumerate", "zip", "dict_itemiterator", "dict_reverseitemiterator", "odict_iterator", "itertools.zip_longest", "itertools.pairwise"].contains n = false) (hQ : Q () s) : wpAny M A (letOwnedTupleGo tg (.ref it) u) Q E s := by
  unfold letOwnedTupleGo
  cases tg <;> first
    | exact wpAny_pure hQ
    | (cases u <;> first
        | exact wpAny_pure hQ
        | (refine wpAny_bind (wpAny_load ho ?_)
           rw [hc, hd]
           show wpAny M A (if (["enumerate", "zip", "dict_itemiterator", "dict_reverseitemiterator", "odict_iterator", "itertools.zip_longest", "itertools.pairwise"].contains n && vs[0]? == some (rawInt _)) = true then _ else _) Q E s
           rw [if_neg (by intro h; rw [hn, Bool.false_and] at h; cases h)]
           exact wpAny_pure hQ))
noncomputable def Itl (K : PySem.W.Frag) (a : Addr) : It :=
  ⟨fun i H => ∃ xs x, SqL K H a xs ∧ xs[i]? = some x, fun i H x H' => H' = H ∧ ∀ xs, SqL K H a xs → xs[i]? = some x, fun i H => ∃ xs, SqL K H a xs ∧ xs.length ≤ i⟩
noncomputable def Itt (K : PySem.W.Frag) (a : Addr) : It :=
  ⟨fun i H => ∃ xs x, SqT K H a xs ∧ xs[i]? = some x, fun i H x H' => H' = H ∧ ∀ xs, SqT K H a xs → xs[i]? = some x, fun i H => ∃ xs, SqT K H a xs ∧ xs.length ≤ i⟩
noncomputable def Itr (lo : Int) (n : Nat) : It := ⟨fun i _ => i < n, fun i H x H' => H' = H ∧ x = .int (lo + i), fun i _ => n ≤ i⟩
theorem turn_list {P : Program} {w : World} {K : PySem.W.Frag} {tg : Expr} (a it : Addr) : Turn P w K tg (Itl K a) [it] it (fun i h => h.IsListIter it a i) where
  mem := by simp
  obj := fun i h st b hb => by
    have e : b = it := by simpa using hb
    subst e
    obtain ⟨o, e, c, d⟩ := st
    exact ⟨o, e, fun v z => by rw [d] at z; cases z⟩
  keep := fun i h h' st k => st.at fun o e => k it (by simp) o e
  item := by
    intro X hP hw hK hc i pins s σ H E I hf st hg
    subst hP hw hK
    obtain ⟨xs, x, hq, hx⟩ := hg
    obtain ⟨its, rv, p, hz⟩ := I.list hq
    obtain ⟨u, hu, ru⟩ := rv.get hx
    obtain ⟨f0, f1, f2, f3, f4, f5⟩ := hf it (by simp)
    refine wpAny_pyNext_list_item st p.isList (x := u) (by simpa using hu) fun h' st' sb => ?_
    have I1 : Inv X pins σ H { s with heap := h' } := I.turned (t' := s.toks) (fun b o hb e => (sb.2 b hb).trans e) f0 f1 f3 f4 f5
    obtain ⟨o, e, c, d⟩ := id st'
    exact ⟨u, rfl, go_of (s := { s with heap := h' }) e c d (by decide) ⟨x, H, I1, ru, ⟨rfl, fun ys hy => by rw [I.list_inj hy hq]; exact hx⟩, st', fun b hb => (hf b hb).1⟩⟩
  done := by
    intro X hP hw hK hc i pins s σ H E I hf st hg
    subst hP hw hK
    obtain ⟨xs, hq, hx⟩ := hg
    obtain ⟨its, rv, p, hz⟩ := I.list hq
    obtain ⟨f0, f1, f2, f3, f4, f5⟩ := hf it (by simp)
    have hl := rv.length
    exact wpAny_pyNext_list_end (I.ok.hd hc) st p.isList (by simp; (clear hc I hf st hq rv p hz f0 f1 f2 f3 f4 f5; omega)) fun h' eb => ⟨rfl, I.turned (t' := s.toks) (fun b o hb e => eb b o hb e) f0 f1 f3 f4 f5⟩
  self := fun _ _ _ _ _ st h => wpAny_pyIter_listiter st h
theorem turn_tuple {P : Program} {w : World} {K : PySem.W.Frag} {tg : Expr} (a it : Addr) : Turn P w K tg (Itt K a) [it] it (fun i h => h.IsTupleIter it a i) where
  mem := by simp
  obj := fun i h st b hb => by
    have e : b = it := by simpa using hb
    subst e
    obtain ⟨o, e, c, d⟩ := st
    exact ⟨o, e, fun v z => by rw [d] at z; cases z⟩
  keep := fun i h h' st k => st.at fun o e => k it (by simp) o e
  item := by
    intro X hP hw hK hc i pins s σ H E I hf st hg
    subst hP hw hK
    obtain ⟨xs, x, hq, hx⟩ := hg
    obtain ⟨its, rv, p, hz⟩ := I.tuple hq
    obtain ⟨u, hu, ru⟩ := rv.get hx
    obtain ⟨f0, f1, f2, f3, f4, f5⟩ := hf it (by simp)
    refine wpAny_pyNext_tuple_item st (show s.heap.IsTuple a its.toArray from p) (x := u) (by simpa using hu) fun h' st' sb => ?_
    have I1 : Inv X pins σ H { s with heap := h' } := I.turned (t' := s.toks) (fun b o hb e => (sb.2 b hb).trans e) f0 f1 f3 f4 f5
    obtain ⟨o, e, c, d⟩ := id st'
    exact ⟨u, rfl, go_of (s := { s with heap := h' }) e c d (by decide) ⟨x, H, I1, ru, ⟨rfl, fun ys hy => by rw [I.tuple_inj hy hq]; exact hx⟩, st', fun b hb => (hf b hb).1⟩⟩
  done := by
    intro X hP hw hK hc i pins s σ H E I hf st hg
    subst hP hw hK
    obtain ⟨xs, hq, hx⟩ := hg
    obtain ⟨its, rv, p, hz⟩ := I.tuple hq
    obtain ⟨f0, f1, f2, f3, f4, f5⟩ := hf it (by simp)
    have hl := rv.length
    exact wpAny_pyNext_tuple_end (I.ok.hd hc) st (show s.heap.IsTuple a its.toArray from p) (by simp; (clear hc I hf st hq rv p hz f0 f1 f2 f3 f4 f5; omega)) fun h' eb => ⟨rfl, I.turned (t' := s.toks) (fun b o hb e => eb b o hb e) f0 f1 f3 f4 f5⟩
  self := fun _ _ _ _ _ st h => wpAny_pyIter_tupleiter st h
theorem turn_range {P : Program} {w : World} {K : PySem.W.Frag} {tg : Expr} (it : Addr) (lo : Int) (n : Nat) : Turn P w K tg (Itr lo n) [it] it (fun i h => IsRangeIter h it (lo + (i : Nat) * 1) ((n : Int) - (i : Nat)) 1) where
  mem := by simp
  obj := fun i h st b hb => by
    have e : b = it := by simpa using hb
    subst e
    exact ⟨_, st, fun v z => by
      have z' : Data.fields _ = Data.cell v := z
      cases z'⟩
  keep := fun i h h' st k => k it (by simp) _ st
  item := by
    intro X hP hw hK hc i pins s σ H E I hf st hg
    subst hP hw hK
    obtain ⟨f0, f1, f2, f3, f4, f5⟩ := hf it (by simp)
    have W := Walks.range (prog := X.prog) (w := X.w) (I.ok.hd hc) it lo 1 n
    refine W.item i s _ _ hg st fun v h' tk hv st' kk => ?_
    obtain ⟨t, rfl⟩ := hv
    have I1 : Inv X pins σ H { s with heap := h', toks := tk } := I.turned (fun b o hb e => kk b o (by simpa using hb) e) f0 f1 f3 f4 f5
    refine ⟨_, rfl, go_of (s := { s with heap := h', toks := tk }) (n := "range_iterator") st' rfl rfl (by decide) ⟨.int (lo + i), H, I1, ⟨t, ?_⟩, ⟨rfl, rfl⟩, st', fun b hb => (hf b hb).1⟩⟩
    rw [Int.mul_one]
  done := by
    intro X hP hw hK hc i pins s σ H E I hf st hg
    subst hP hw hK
    obtain ⟨f0, f1, f2, f3, f4, f5⟩ := hf it (by simp)
    exact wpAny_pyNext_range_end (I.ok.hd hc) st (by have : n ≤ i := hg; (clear hc I hf st hg f0 f1 f2 f3 f4 f5; omega)) fun h' eb => ⟨rfl, I.turned (t' := s.toks) (fun b o hb e => eb b o hb e) f0 f1 f3 f4 f5⟩
  self := fun _ _ _ _ _ st h => wpAny_pyIter_rangeiter st h
end L2
namespace L2
open PySem PySem.Spec PyProof.Rows
section
variable {X : Cx} {tg : Expr}
theorem range_it {pins : List (Addr × Obj)} {σ : St} {H : Hp} {s : Shared} {R : It → Hp → Prop} {E : Value → Shared → Prop} {lo hi : Int} {t u v : Tok} {tk : Nat} (I : Inv X pins σ H s) (h1 : -(2 ^ 62) ≤ lo) (h2 : lo < 2 ^ 62) (h3 : -(2 ^ 62) ≤ hi) (h4 : hi < 2 ^ 62)
    (q : R (Itr lo (hi - lo).toNat) H) : wpAny (model X.prog X.w) X.A (pyIter (.ref s.heap.objs.size)) (PIE X pins σ tg R) E { s with heap := s.heap.push { cls := .type "range", data := .fields #[.int lo t, .int hi u, .int 1 v] }, toks := tk } := by
  refine wpAny_pyIter_range (IsRange.new ..) (small_one h1 h2 h3 h4) ?_
  have I1 : Inv X pins σ H { s with heap := s.heap.push { cls := .type "range", data := .fields #[.int lo t, .int hi u, .int 1 v] }, toks := tk } := I.kept fun b o e => Heap.get?_push_of_some _ e
  refine ⟨(s.heap.push { cls := .type "range", data := .fields #[.int lo t, .int hi u, .int 1 v] }).objs.size, [(s.heap.push { cls := .type "range", data := .fields #[.int lo t, .int hi u, .int 1 v] }).objs.size], _, _, H, rfl,
    I1.kept (t' := tk) fun b o e => Heap.get?_push_of_some _ e, turn_range _ lo (hi - lo).toNat, ?_, fun b hb => ?_, q⟩
  · have e1 : lo + ((0 : Nat) : Int) * 1 = lo := by simp
    have e2 : (((hi - lo).toNat : Nat) : Int) - ((0 : Nat) : Int) = Builtin.Range.rangeSize lo hi 1 := by rw [rangeSize_one]; split <;> (clear I h1 h2 h3 h4 q I1 e1; omega)
    show IsRangeIter _ _ (lo + ((0 : Nat) : Int) * 1) ((((hi - lo).toNat : Nat) : Int) - ((0 : Nat) : Int)) 1
    rw [e1, e2]
    exact Heap.get?_push_size _ rfl
  · have e : b = (s.heap.push { cls := .type "range", data := .fields #[.int lo t, .int hi u, .int 1 v] }).objs.size := by simpa using hb
    subst e
    exact I1.fpOk (Nat.le_refl _) (I1.hok.fresh (Nat.le_refl _))
noncomputable def iRng1 (ta : TA) : TI := fun σ H R => ta σ H fun vs H1 => ∃ j : Int, vs = [.int j] ∧ -(2 ^ 62) ≤ j ∧ j < 2 ^ 62 ∧ R (Itr 0 j.toNat) H1
noncomputable def iRng2 (ta : TA) : TI := fun σ H R => ta σ H fun vs H1 => ∃ i j : Int, vs = [.int i, .int j] ∧ (-(2 ^ 62) ≤ i ∧ i < 2 ^ 62 ∧ -(2 ^ 62) ≤ j ∧ j < 2 ^ 62) ∧ R (Itr i (j - i).toNat) H1
theorem pi_range1 {a : Expr} {ta : TA} {p pos : Pos} (hg : Gl X "range") (hm : X.mg "range" = none) (ha : PA X [a] ta) (hs : starEach [a] X.env = [(false, eval a X.env)] := by rfl) : PI X tg (.Call (.Name "range" p) [a] [] pos) (iRng1 ta) := by
  intro pins s σ H R I h
  refine Call_ (ld_blt I hg hm boot_range (PyProof.Rows.callWith_type1 (thn (ha pos pins s σ H _ I h) fun us s1 ⟨vs, H1, I1, r1, q1⟩ => ?_) hs rfl))
  obtain ⟨j, e, q1, q2, q⟩ := q1
  subst e
  cases r1 with
  | cons r rr =>
    cases rr
    obtain ⟨t, rfl⟩ := r
    exact call_range_1 (range_it I1 (by (clear hg hm ha hs I h I1 q1 q2 q; omega)) (by (clear hg hm ha hs I h I1 q1 q2 q; omega)) q1 q2 (by simpa using q))
theorem pi_range2 {a b : Expr} {ta : TA} {p pos : Pos} (hg : Gl X "range") (hm : X.mg "range" = none) (ha : PA X [a, b] ta) (hs : starEach [a, b] X.env = [(false, eval a X.env), (false, eval b X.env)] := by rfl) (hs2 : starEach [b] X.env = [(false, eval b X.env)] := by rfl) :
    PI X tg (.Call (.Name "range" p) [a, b] [] pos) (iRng2 ta) := by
  intro pins s σ H R I h
  refine Call_ (ld_blt I hg hm boot_range (PyProof.Rows.callWith_type1 (thn (ha pos pins s σ H _ I h) fun us s1 ⟨vs, H1, I1, r1, q1⟩ => ?_) (by rw [hs, hs2]) (by rw [hs2]; rfl)))
  obtain ⟨i, j, e, ⟨q1, q2, q3, q4⟩, q⟩ := q1
  subst e
  cases r1 with
  | cons r rr =>
    cases rr with
    | cons r' rr =>
      cases rr
      obtain ⟨t, rfl⟩ := r
      obtain ⟨t', rfl⟩ := r'
      exact call_range_2 (range_it I1 q1 q2 q3 q4 q)
noncomputable def tFor (wi : TI) (g : TG) (tb : TS) : TS := fun D σ H => wi σ H fun J H1 => ∃ W : Nat → Nat → St → Hp → Prop, (∃ m, W 0 m σ H1) ∧ ∀ i m σ H, W i m σ H →
  (J.stop i H ∧ D.nx σ H) ∨ (J.go i H ∧ ∃ N : St → Hp → Prop, (∀ σ' H', N σ' H' → ∃ m', m' < m ∧ W (i + 1) m' σ' H') ∧ ∀ x H', J.yld i H x H' → g x σ H' fun σ2 H2 => tb { D with nx := N, ct := N, bk := D.nx } σ2 H2)
noncomputable def pinsAt (fp : List Addr) (h : Heap) : List (Addr × Obj) := fp.filterMap fun b => (h.get? b).map fun o => (b, o)
theorem mem_pinsAt {fp : List Addr} {h : Heap} {b : Addr} {o : Obj} (hb : b ∈ fp) (e : h.get? b = some o) : (b, o) ∈ pinsAt fp h := List.mem_filterMap.mpr ⟨b, hb, by rw [e]; rfl⟩
theorem of_pinsAt {fp : List Addr} {h : Heap} {p : Addr × Obj} (hp : p ∈ pinsAt fp h) : p.1 ∈ fp ∧ h.get? p.1 = some p.2 := by
  obtain ⟨b, hb, e⟩ := List.mem_filterMap.mp hp
  cases q : h.get? b with
  | none => rw [q] at e; cases e
  | some o =>
    rw [q] at e
    have e' : (b, o) = p := Option.some.inj e
    subst e'
    exact ⟨hb, q⟩
theorem Inv.pinned {pins : List (Addr × Obj)} {σ : St} {H : Hp} {s : Shared} {fp : List Addr} (I : Inv X pins σ H s) (hf : ∀ b ∈ fp, FpOk X pins H b) (ho : ∀ b ∈ fp, ∃ o, s.heap.get? b = some o ∧ ∀ v, o.data ≠ .cell v) : Inv X (pins ++ pinsAt fp s.heap) σ H s :=
  I.pins_of fun p hp => (List.mem_append.mp hp).elim (fun z => I.pin p (List.mem_append_right _ z)) fun z => by
    obtain ⟨hb, e⟩ := of_pinsAt z
    obtain ⟨f0, f1, f2, _⟩ := hf p.1 hb
    obtain ⟨o, e', d⟩ := ho p.1 hb
    rw [e] at e'; cases e'
    exact ⟨e, f0, f1, f2, d⟩
theorem Inv.unpinned {pins pl : List (Addr × Obj)} {σ : St} {H : Hp} {s : Shared} (I : Inv X (pins ++ pl) σ H s) : Inv X pins σ H s := I.pins_of fun p hp => I.pin p (List.mem_append_right _ (List.mem_append_left _ hp))
theorem ps_for {iter : Expr} {body : List Stmt} {wi : TI} {g : TG} {tb : TS} {pos : Pos} (hp : PassesOwn (model X.prog X.w) X.A X.env X.xe) (hc : X.calm = true) (hi : PI X tg iter wi) (hg : PG X tg g) (hb : PSs X body tb)
    (hs : ∀ x, foldedSetIterable iter X.env x = pure x := by intro _; rfl) : PS X (.For tg iter body [] pos) (tFor wi g tb) := by
  intro pins s σ H D I h
  refine wpAny_For (thn (hi pins s σ H _ I h) fun v s1 h1 => thn h1 fun itv s2 h2 => ?_) hs
  obtain ⟨it, fp, tn, J, H2, e, I2, T, st2, f2, W, ⟨m0, w0⟩, turn⟩ := h2
  subst e
  -- what stays true of the iterator's objects through the loop
  have stat : ∀ {H' : Hp}, (∀ b ∈ fp, H' b = none) → ∀ b ∈ fp, FpOk X pins H' b := fun hn b hb => ⟨hn b hb, (f2 b hb).2⟩
  refine codeAny_forLoop_any (fun n s' => ∃ i σ' H', Inv X pins σ' H' s' ∧ tn i s'.heap ∧ (∀ b ∈ fp, H' b = none) ∧ W i n σ' H') ?_ m0 ⟨0, σ, H2, I2, st2, fun b hb => (f2 b hb).1, w0⟩
  rintro n s3 ⟨i, σ3, H3, I3, st3, fr3, w3⟩
  rcases turn i n σ3 H3 w3 with ⟨stop, qn⟩ | ⟨go, N, hN, step⟩
  · refine wpAny_passesOwn hp (thn (T.done X rfl rfl rfl hc i pins s3 σ3 H3 X.xe I3 (stat fr3) st3 stop) fun r s4 ⟨hr, I4⟩ => ?_)
    subst hr
    exact wpAny_execs_nil ⟨σ3, H3, I4, qn⟩
  · refine wpAny_passesOwn hp (thn (T.item X rfl rfl rfl hc i pins s3 σ3 H3 X.xe I3 (stat fr3) st3 go) fun r s4 ⟨u, hr, h4⟩ => ?_)
    subst hr
    refine wpAny_passesOwn hp (thn h4 fun _ s5 ⟨x, H5, I5, r5, y5, st5, fr5⟩ => ?_)
    have I5' := I5.pinned (stat fr5) (T.obj _ _ st5)
    refine wpAny_passesOwn hp (thn (hg _ s5 σ3 H5 x u _ I5' r5 (step x H5 y5)) fun _ s6 ⟨σ6, H6, I6, q6⟩ => ?_)
    refine wpAny_passesOwn hp (thn (hb _ s6 σ6 H6 _ I6 q6) fun f s7 q7 => ?_)
    have again : ∀ {σ7 : St} {H7 : Hp}, Inv X (pins ++ pinsAt fp s5.heap) σ7 H7 s7 → N σ7 H7 → ∃ m, m < n ∧ ∃ i σ' H', Inv X pins σ' H' s7 ∧ tn i s7.heap ∧ (∀ b ∈ fp, H' b = none) ∧ W i m σ' H' := fun {σ7 H7} I7 n7 => by
      obtain ⟨m', hm, w7⟩ := hN σ7 H7 n7
      refine ⟨m', hm, i + 1, σ7, H7, I7.unpinned, T.keep _ _ _ st5 fun b hb o e => (I7.pin (b, o) (List.mem_append_right _ (List.mem_append_right _ (mem_pinsAt hb e)))).1, fun b hb => ?_, w7⟩
      obtain ⟨o, e, d⟩ := T.obj _ _ st5 b hb
      exact (I7.pin (b, o) (List.mem_append_right _ (List.mem_append_right _ (mem_pinsAt hb e)))).2.1
    cases f with
    | next => obtain ⟨σ7, H7, I7, n7⟩ := q7; exact again I7 n7
    | cont => obtain ⟨σ7, H7, I7, n7⟩ := q7; exact again I7 n7
    | brk => obtain ⟨σ7, H7, I7, q7⟩ := q7; exact ⟨σ7, H7, I7.unpinned, q7⟩
    | ret v => obtain ⟨x7, σ7, H7, I7, r7, q7⟩ := q7; exact ⟨x7, σ7, H7, I7.unpinned, r7, q7⟩
end
end L2
namespace L2
open PySem PySem.Spec PyProof.Rows
noncomputable abbrev R2 := V → V → Hp → VK → Prop
noncomputable def OpR (X : Cx) (f : Value → Value → Sem Value) (r : R2) : Prop :=
  ∀ (pins : List (Addr × Obj)) (s : Shared) (σ : St) (H : Hp) (x y : V) (v u : Value) (Q : VK), Inv X pins σ H s → RelV x v → RelV y u → r x y H Q →
    wpAny (model X.prog X.w) X.A (f v u) (EP X pins σ Q) X.xe s
noncomputable def UnR (X : Cx) (f : Value → Sem Value) (r : V → Hp → VK → Prop) : Prop :=
  ∀ (pins : List (Addr × Obj)) (s : Shared) (σ : St) (H : Hp) (x : V) (v : Value) (Q : VK), Inv X pins σ H s → RelV x v → r x H Q →
    wpAny (model X.prog X.w) X.A (f v) (EP X pins σ Q) X.xe s
noncomputable def CallR (X : Cx) (f : Value) (r : List V → Hp → VK → Prop) : Prop :=
  ∀ (pins : List (Addr × Obj)) (s : Shared) (σ : St) (H : Hp) (xs : List V) (us : List Value) (Q : VK), Inv X pins σ H s → Vals xs us → r xs H Q →
    wpAny (model X.prog X.w) X.A (call f us) (EP X pins σ Q) X.xe s
noncomputable def tOp (r : R2) (ta tb : TE) : TE := fun σ H Q => ta σ H fun x H1 => tb σ H1 fun y H2 => r x y H2 Q
noncomputable def tUn (r : V → Hp → VK → Prop) (ta : TE) : TE := fun σ H Q => ta σ H fun x H1 => r x H1 Q
noncomputable def rI (C : Int → Int → Prop) (g : Int → Int → V) : R2 := fun x y H Q => ∃ i j, x = .int i ∧ y = .int j ∧ C i j ∧ Q (g i j) H
noncomputable def rI0 (g : Int → Int → V) : R2 := fun x y H Q => ∃ i j, x = .int i ∧ y = .int j ∧ Q (g i j) H
noncomputable def rU (g : Int → V) : V → Hp → VK → Prop := fun x H Q => ∃ i, x = .int i ∧ Q (g i) H
section
variable {X : Cx} {a b c : Expr} {ta tb tc : TE} {pos : Pos}
theorem binT (ha : PE X a ta) (hb : PE X b tb) {pins : List (Addr × Obj)} {s : Shared} {σ : St} {H : Hp} {R : V → V → Hp → Prop} (I : Inv X pins σ H s)
    (h : ta σ H fun x H1 => tb σ H1 fun y H2 => R x y H2) {Q : Value → Shared → Prop} {f : Value → Value → Sem Value}
    (hf : ∀ v u s2 x y H2, Inv X pins σ H2 s2 → RelV x v → RelV y u → R x y H2 → wpAny (model X.prog X.w) X.A (f v u) Q X.xe s2) :
    wpAny (model X.prog X.w) X.A (eval a X.env) (fun v s₁ => wpAny (model X.prog X.w) X.A (eval b X.env) (fun u s₂ => wpAny (model X.prog X.w) X.A (f v u) Q X.xe s₂) X.xe s₁) X.xe s := by
  refine thn (ha pins s σ H _ I h) fun v s1 ⟨x, H1, I1, r1, q1⟩ => ?_
  refine thn (hb pins s1 σ H1 _ I1 q1) fun u s2 ⟨y, H2, I2, r2, q2⟩ => ?_
  exact hf v u s2 x y H2 I2 r1 r2 q2
theorem pe_op {op : Operator} {r : R2} (ho : OpR X (binaryOp op) r) (ha : PE X a ta) (hb : PE X b tb) : PE X (.BinOp a op b pos) (tOp r ta tb) := by
  intro pins s σ H Q I h
  exact wpAny_BinOp (binT ha hb I h fun v u s2 x y H2 I2 rx ry q => ho pins s2 σ H2 x y v u Q I2 rx ry q)
theorem pe_un {op : UnaryOp} {r : V → Hp → VK → Prop} (ho : UnR X (unaryOp op) r) (ha : PE X a ta) : PE X (.UnaryOp op a pos) (tUn r ta) := by
  intro pins s σ H Q I h
  exact UnaryOp_ (thn (ha pins s σ H _ I h) fun v s1 ⟨x, H1, I1, r1, q1⟩ => ho pins s1 σ H1 x v Q I1 r1 q1)
theorem opI {f : Value → Value → Sem Value} {C : Int → Int → Prop} {g : Int → Int → Int}
    (rule : ∀ (i j : Int) (t u : Tok) (s : Shared) (Q : Value → Shared → Prop) (E : Value → Shared → Prop), C i j → Q (.int (g i j) s.toks) { s with toks := s.toks + 1 } → wpAny (model X.prog X.w) X.A (f (.int i t) (.int j u)) Q E s) :
    OpR X f (rI C fun i j => .int (g i j)) := by
  intro pins s σ H x y v u Q I rx ry h
  obtain ⟨i, j, rfl, rfl, hc, q⟩ := h
  obtain ⟨t, rfl⟩ := rx
  obtain ⟨t', rfl⟩ := ry
  exact rule i j t t' s _ _ hc ⟨.int (g i j), H, I.tok _, ⟨_, rfl⟩, q⟩
theorem opI0 {f : Value → Value → Sem Value} {g : Int → Int → Int}
    (rule : ∀ (i j : Int) (t u : Tok) (s : Shared) (Q : Value → Shared → Prop) (E : Value → Shared → Prop), Q (.int (g i j) s.toks) { s with toks := s.toks + 1 } → wpAny (model X.prog X.w) X.A (f (.int i t) (.int j u)) Q E s) :
    OpR X f (rI0 fun i j => .int (g i j)) := by
  intro pins s σ H x y v u Q I rx ry h
  obtain ⟨i, j, rfl, rfl, q⟩ := h
  obtain ⟨t, rfl⟩ := rx
  obtain ⟨t', rfl⟩ := ry
  exact rule i j t t' s _ _ ⟨.int (g i j), H, I.tok _, ⟨_, rfl⟩, q⟩
theorem opB0 {f : Value → Value → Sem Value} {g : Int → Int → Bool}
    (rule : ∀ (i j : Int) (t u : Tok) (s : Shared) (Q : Value → Shared → Prop) (E : Value → Shared → Prop), Q (.bool (g i j)) s → wpAny (model X.prog X.w) X.A (f (.int i t) (.int j u)) Q E s) :
    OpR X f (rI0 fun i j => .bl (g i j)) := by
  intro pins s σ H x y v u Q I rx ry h
  obtain ⟨i, j, rfl, rfl, q⟩ := h
  obtain ⟨t, rfl⟩ := rx
  obtain ⟨t', rfl⟩ := ry
  exact rule i j t t' s _ _ ⟨.bl (g i j), H, I, rfl, q⟩
noncomputable def CDiv (i j : Int) : Prop := 0 < j ∧ j < 1073741824
noncomputable def CPow (i j : Int) : Prop := 0 ≤ j ∧ j ≤ 1000000 ∧ i.natAbs < 2 ^ 64
noncomputable def CMul (i j : Int) : Prop := (-(2 ^ 64) < i ∧ i < 2 ^ 64) ∨ (-(2 ^ 64) < j ∧ j < 2 ^ 64)
theorem CMul.ok {i j : Int} (h : CMul i j) : IntMulOk i j := by
  rcases h with ⟨h1, h2⟩ | ⟨h1, h2⟩
  · exact .of_left (intBits_le_64 h1 h2)
  · exact .of_right (intBits_le_64 h1 h2)
theorem op_add : OpR X (binaryOp .Add) (rI0 fun i j => .int (i + j)) := opI0 fun _ _ _ _ _ _ _ q => add_int q
theorem op_sub : OpR X (binaryOp .Sub) (rI0 fun i j => .int (i - j)) := opI0 fun _ _ _ _ _ _ _ q => sub_int q
theorem op_mod : OpR X (binaryOp .Mod) (rI (fun _ j => 0 < j) fun i j => .int (i % j)) := opI fun i j _ _ _ _ _ hc q => by
  have h1 : (0 : Int) < j := hc
  exact mod_int' (by (clear q h1; omega)) (by rw [Int.fmod_eq_emod_of_nonneg i (by (clear q h1; omega))]; exact q)
theorem op_pow : OpR X (binaryOp .Pow) (rI CPow fun i j => .int (i ^ j.toNat)) := opI fun _ _ _ _ _ _ _ hc q => pow_int_small hc.1 hc.2.1 hc.2.2 q
theorem unI {f : Value → Sem Value} {g : Int → Int}
    (rule : ∀ (i : Int) (t : Tok) (s : Shared) (Q : Value → Shared → Prop) (E : Value → Shared → Prop), Q (.int (g i) s.toks) { s with toks := s.toks + 1 } → wpAny (model X.prog X.w) X.A (f (.int i t)) Q E s) :
    UnR X f (rU fun i => .int (g i)) := by
  intro pins s σ H x v Q I rx h
  obtain ⟨i, rfl, q⟩ := h
  obtain ⟨t, rfl⟩ := rx
  exact rule i t s _ _ ⟨.int (g i), H, I.tok _, ⟨_, rfl⟩, q⟩
theorem un_neg : UnR X (unaryOp .USub) (rU fun i => .int (-i)) := unI fun _ _ _ _ _ q => neg_int q
end
section
variable {X : Cx} {a b c : Expr} {ta tb tc : TE} {pos : Pos}
theorem op_lt : OpR X (compareOp .Lt) (rI0 fun i j => .bl (decide (i < j))) := opB0 fun _ _ _ _ _ _ _ q => lt_int q
theorem op_le : OpR X (compareOp .LtE) (rI0 fun i j => .bl (decide (i ≤ j))) := opB0 fun _ _ _ _ _ _ _ q => le_int q
theorem op_gt : OpR X (compareOp .Gt) (rI0 fun i j => .bl (decide (j < i))) := opB0 fun _ _ _ _ _ _ _ q => gt_int q
theorem op_ge : OpR X (compareOp .GtE) (rI0 fun i j => .bl (decide (j ≤ i))) := opB0 fun _ _ _ _ _ _ _ q => ge_int q
theorem nomark (b : Expr) {op : CmpOp} (h : op ≠ .In := by decide) (h2 : op ≠ .NotIn := by decide) : behindInMarks op b = false := by
  have e1 : (op == CmpOp.In) = false := by cases op <;> first | rfl | exact absurd rfl h
  have e2 : (op == CmpOp.NotIn) = false := by cases op <;> first | rfl | exact absurd rfl h2
  cases b <;> simp [behindInMarks, e1, e2]
theorem pe_cmpR {op : CmpOp} {r : R2} (ho : OpR X (compareOp op) r) (ha : PE X a ta) (hb : PE X b tb) (hm : behindInMarks op b = false) : PE X (.Compare a [op] [b] pos) (tOp r ta tb) := by
  intro pins s σ H Q I h
  exact wpAny_Compare1 (binT ha hb I h fun v u s2 x y H2 I2 rx ry q => ho pins s2 σ H2 x y v u Q I2 rx ry q) hm
noncomputable def tTest (t : TE) : TT := fun σ H Q => t σ H fun x H' => ∃ k, x = .bl k ∧ Q k H'
theorem pt_cmpR {op : CmpOp} {r : R2} (ho : OpR X (compareOp op) r) (ha : PE X a ta) (hb : PE X b tb) (hm : behindInMarks op b = false) : PT X (.Compare a [op] [b] pos) (tTest (tOp r ta tb)) := by
  intro pins s σ H Q I h
  refine wpAny_isTrue_Compare1 (thn (ha pins s σ H _ I h) fun v s1 ⟨x, H1, I1, r1, q1⟩ => thn (hb pins s1 σ H1 _ I1 q1) fun u s2 ⟨y, H2, I2, r2, q2⟩ =>
    thn (ho pins s2 σ H2 x y v u _ I2 r1 r2 q2) fun c s3 ⟨z, H3, I3, r3, k, e, q3⟩ => ?_) hm
  subst e
  cases r3
  exact wpAny_truthy_bool ⟨H3, I3, q3⟩
theorem line63 : (sizeLine : Nat) < 2 ^ 63 := by rw [sizeLine_eq]; decide
theorem vals1 {x : V} {us : List Value} (r : Vals [x] us) : ∃ u, us = [u] ∧ RelV x u := by
  cases r with
  | cons r1 r2 => cases r2; exact ⟨_, rfl, r1⟩
theorem vals2 {x y : V} {us : List Value} (r : Vals [x, y] us) : ∃ u w', us = [u, w'] ∧ RelV x u ∧ RelV y w' := by
  cases r with
  | cons r1 r2 =>
    cases r2 with
    | cons r3 r4 => cases r4; exact ⟨_, _, rfl, r1, r3⟩
theorem call_max2 (hc : X.calm = true) : CallR X (.builtin "max") (fun xs H Q => ∃ i j, xs = [.int i, .int j] ∧ Q (.int (if j > i then j else i)) H) := by
  intro pins s σ H xs us Q I r h
  obtain ⟨i, j, rfl, q⟩ := h
  obtain ⟨u, w', rfl, ⟨t, rfl⟩, ⟨t', rfl⟩⟩ := vals2 r
  refine max_two_ints (I.ok.hd hc) fun h' tk k => ⟨_, H, I.kept k, ?_, q⟩
  by_cases hj : j > i
  · rw [if_pos hj, if_pos hj]; exact ⟨_, rfl⟩
  · rw [if_neg hj, if_neg hj]; exact ⟨_, rfl⟩
theorem call_min2 (hc : X.calm = true) : CallR X (.builtin "min") (fun xs H Q => ∃ i j, xs = [.int i, .int j] ∧ Q (.int (if j < i then j else i)) H) := by
  intro pins s σ H xs us Q I r h
  obtain ⟨i, j, rfl, q⟩ := h
  obtain ⟨u, w', rfl, ⟨t, rfl⟩, ⟨t', rfl⟩⟩ := vals2 r
  refine min_two_ints (I.ok.hd hc) fun h' tk k => ⟨_, H, I.kept k, ?_, q⟩
  by_cases hj : j < i
  · rw [if_pos hj, if_pos hj]; exact ⟨_, rfl⟩
  · rw [if_neg hj, if_neg hj]; exact ⟨_, rfl⟩
theorem call_int1 : CallR X (.type "int") (fun xs H Q => (∃ i, xs = [.int i] ∧ Q (.int i) H) ∨ ∃ k, xs = [.bl k] ∧ Q (.int (if k then 1 else 0)) H) := by
  intro pins s σ H xs us Q I r h
  rcases h with ⟨i, rfl, q⟩ | ⟨k, rfl, q⟩
  · obtain ⟨u, rfl, t, rfl⟩ := vals1 r
    exact call_int_int ⟨.int i, H, I, ⟨_, rfl⟩, q⟩
  · obtain ⟨u, rfl, r1⟩ := vals1 r
    cases r1
    exact call_int_bool ⟨.int (if k then 1 else 0), H, I.tok _, ⟨_, rfl⟩, q⟩
end
end L2
namespace L2
open PySem PySem.Spec PyProof.Rows
structure ObjM (h : Heap) (x dx C : Addr) (mA : Str → Option Value) : Prop where
  obj : h.get? x = some (PySem.W.instObj C dx)
  ns : h.Ns1 dx mA
  ne : dx ≠ x
theorem lookIn_ns {h : Heap} {dx : Addr} {mA : Str → Option Value} (n : h.Ns1 dx mA) : ∃ od, h.get? dx = some od ∧ ∀ name, PySem.W.lookIn name od = some (mA name) := by
  obtain ⟨o, es, ep, ho, hd, hk, _, hm⟩ := n
  refine ⟨o, ho, fun name => ?_⟩
  have e := hm name
  unfold nsFind findBy at e
  rw [← Array.find?_toList] at e
  unfold PySem.W.lookIn
  rw [hd]
  dsimp only
  split
  · rename_i y q
    rw [q] at e
    exact congrArg some e
  · rename_i q
    rw [q] at e
    have a : es.toList.any (·.refKey) = false := by
      rw [List.any_eq_false]
      intro y hy
      obtain ⟨z, t, hkey⟩ := hk y (Array.mem_toList_iff.mp hy)
      simp [DictEntry.refKey, hkey]
    have a' : ¬ es.toList.any (·.refKey) = true := by rw [a]; exact Bool.false_ne_true
    rw [if_neg a']
    exact congrArg some e
theorem ObjM.look {h : Heap} {x dx C : Addr} {mA : Str → Option Value} (I : ObjM h x dx C mA) : ∃ od, PySem.W.InstAt h x (PySem.W.instObj C dx) C (some od) ∧ ∀ name, PySem.W.lookIn name od = some (mA name) :=
  let ⟨od, ho, hl⟩ := lookIn_ns I.ns
  ⟨od, ⟨I.obj, rfl, rfl, ho⟩, hl⟩
section
variable {prog : Program} {w : World} {A : Around} {E : Value → Shared → Prop} {s : Shared} {K : PySem.W.Frag} {x dx C f : Addr} {mA : Str → Option Value} {name : Str} {v : Value}
end
theorem RelO.some_of {v : V} {o : Option Value} (r : RelO (some v) o) : ∃ u, o = some u ∧ RelV v u := by
  cases o with
  | none => exact (show False from r).elim
  | some u => exact ⟨u, rfl, r⟩
section
variable {P : Program} {w : World} {H H' : Hp} {h h' : Heap} {a C dx : Addr} {fs fs' : List (Str × V)}
theorem ins_get (hok : HOk P w H h) (e : H a = some (.ins C dx fs)) : ∃ mA, ObjM h a dx C mA ∧ (∀ f, RelO (fs.lookup f) (mA f)) ∧ PySem.Within mA (fs.map (·.1)) ∧ fs.length ≤ 1000 ∧ H dx = some (.own a) := by
  obtain ⟨d, z, ne, ob, mA, n, r, q⟩ := (show ObjOk P w H h a (.ins C dx fs) from hok a _ e)
  exact ⟨mA, ⟨ob, n, ne⟩, r, q, z, d⟩
end
structure Cls (K : PySem.W.Frag) (C : Addr) : Prop where
  pg : PySem.W.plainGet K C Str.empty = true
  hd : PySem.W.hasDictIn K C = true
  po : PySem.W.plainOver K C = true
  sa : PySem.W.findIn K (.ref C) "__setattr__" = some (some (.builtin "object.__setattr__"))
theorem Cls.get {K : PySem.W.Frag} {C : Addr} (c : Cls K C) (f : Str) : PySem.W.plainGet K C f = true := c.pg
structure Con (K : PySem.W.Frag) (C : Addr) (f : Str) (v : V) (u : Value) : Prop where
  at_ : PySem.W.findIn K (.ref C) f = some (some u)
  rel : RelV v u
  get : PySem.W.specialIn K u "__get__" = some none
  cp : PySem.W.copiedNames.contains f = false
structure Meth (K : PySem.W.Frag) (C : Addr) (m : Str) (f : Addr) : Prop where
  at_ : PySem.W.findIn K (.ref C) m = some (some (.ref f))
  fn : PySem.W.isFn K (.ref f) = true
  kp : PySem.W.keepIn K (.ref f) = true
section
variable {X : Cx} {pins : List (Addr × Obj)} {σ : St} {H : Hp} {s : Shared} {a C dx : Addr} {fs : List (Str × V)} {f : Str} {v : V} {A : Around} {E : Value → Shared → Prop}
end
section
variable {X : Cx} {o e value : Expr} {f : Str} {pos pos' tpos : Pos} {ta tv : TE}
end
section
variable {X : Cx} {pins : List (Addr × Obj)} {σ : St} {H : Hp} {s : Shared} {A : Around} {E : Value → Shared → Prop} {Q : Value → Shared → Prop} {c : Value} {b : Bool}
inductive TyOf (K : PySem.W.Frag) (H : Hp) : V → Value → Prop where
  | non : TyOf K H .non (.type "NoneType")
  | bl (x : Bool) : TyOf K H (.bl x) (.type "bool")
  | int (i : Int) : TyOf K H (.int i) (.type "int")
  | str (x : Str) : TyOf K H (.str x) (.type "str")
  | flt (x : UInt64) : TyOf K H (.flt x) (.type "float")
  | lst {a : Addr} {xs : List V} (e : H a = some (.lst xs)) : TyOf K H (.ref a) (.type "list")
  | frz {a : Addr} {o : Obj} {xs : List V} (e : H a = some (.frz o (.lst xs))) : TyOf K H (.ref a) (.type "list")
  | tup {a : Addr} {xs : List V} (e : H a = some (.tup xs)) : TyOf K H (.ref a) (.type "tuple")
  | dK {a : Addr} {kvs : List (Key × V)} (e : H a = some (.dK kvs)) : TyOf K H (.ref a) (.type "dict")
  | dT {a : Addr} {kvs : List (List Key × V)} (e : H a = some (.dT kvs)) : TyOf K H (.ref a) (.type "dict")
  | ins {a C dx : Addr} {fs : List (Str × V)} (e : H a = some (.ins C dx fs)) (cl : Cls K C) (ha : PySem.W.findIn K (.ref C) "__class__" = some (some (.builtin "object.__class__")))
      (hn : PySem.W.specialIn K (.builtin "object.__class__") "__get__" = some (some (.builtin "getset_descriptor.__get__"))) (htk : PySem.W.takesIn K (.builtin "object.__class__") = some true)
      (hm : PySem.W.mroIn K C (.type "object") = some true) : TyOf K H (.ref a) (.ref C)
theorem isinst_ok {x : V} {u t : Value} (I : Inv X pins σ H s) (rx : RelV x u) (ty : TyOf X.K H x t) (e : PySem.W.kitOne X.K t c = some b) (h : ∀ tk, Q (.bool b) { s with toks := tk }) :
    wpAny (model X.prog X.w) A (call (.builtin "isinstance") [u, c]) Q E s := by
  cases ty with
  | non => cases (show u = Value.none from rx); exact PySem.W.kia_one PySem.W.kitx_none I.kIn True.intro e (fun z => nomatch z) h
  | bl y => cases (show u = Value.bool y from rx); exact PySem.W.kia_one PySem.W.kitx_bool I.kIn True.intro e (fun z => nomatch z) h
  | int i => obtain ⟨t, q⟩ := (show ∃ t, u = Value.int i t from rx); cases q; exact PySem.W.kia_one PySem.W.kitx_int I.kIn True.intro e (fun z => nomatch z) h
  | str y => obtain ⟨t, q⟩ := (show ∃ t, u = Value.str y t from rx); cases q; exact PySem.W.kia_one PySem.W.kitx_str I.kIn True.intro e (fun z => nomatch z) h
  | flt y => obtain ⟨t, q⟩ := (show ∃ t, u = Value.float y t from rx); cases q; exact PySem.W.kia_one PySem.W.kitx_float I.kIn True.intro e (fun z => nomatch z) h
  | @lst a xs ea =>
    cases (show u = Value.ref a from rx)
    obtain ⟨_, _, n, _, h1⟩ := (show ObjOk X.prog X.w H s.heap a (.lst xs) from I.hok a _ ea)
    exact PySem.W.kia_one PySem.W.kitx_list I.kIn ⟨_, h1, rfl⟩ e (fun z => nomatch z) h
  | @frz a ob xs ea =>
    cases (show u = Value.ref a from rx)
    obtain ⟨_, _, _, n, _, h1⟩ := (show ObjOk X.prog X.w H s.heap a (.frz ob (.lst xs)) from I.hok a _ ea)
    exact PySem.W.kia_one PySem.W.kitx_list I.kIn ⟨_, h1, rfl⟩ e (fun z => nomatch z) h
  | @tup a xs ea =>
    cases (show u = Value.ref a from rx)
    obtain ⟨_, _, _, p⟩ := (show ObjOk X.prog X.w H s.heap a (.tup xs) from I.hok a _ ea)
    obtain ⟨o, h1, h2, _⟩ := p
    exact PySem.W.kia_one PySem.W.kitx_tuple I.kIn ⟨o, h1, h2⟩ e (fun z => nomatch z) h
  | @dK a kvs ea =>
    cases (show u = Value.ref a from rx)
    obtain ⟨_, _, vs, _, p⟩ := (show ObjOk X.prog X.w H s.heap a (.dK kvs) from I.hok a _ ea)
    obtain ⟨o, es, ep, h1, h2, _⟩ := p
    exact PySem.W.kia_one PySem.W.kitx_dict I.kIn ⟨o, h1, h2.1⟩ e (fun z => nomatch z) h
  | @dT a kvs ea =>
    cases (show u = Value.ref a from rx)
    obtain ⟨_, _, xs, _, o, es, ep, h1, h2, _⟩ := (show ObjOk X.prog X.w H s.heap a (.dT kvs) from I.hok a _ ea)
    exact PySem.W.kia_one PySem.W.kitx_dict I.kIn ⟨o, h1, h2.1⟩ e (fun z => nomatch z) h
  | @ins a C dx fs ea cl ha hn htk hm =>
    cases (show u = Value.ref a from rx)
    obtain ⟨mA, O, _⟩ := ins_get I.hok ea
    obtain ⟨od, J, _⟩ := O.look
    exact PySem.W.kia_one (PySem.W.kitx_own (cl.get _) cl.hd ha hn htk hm) I.kIn J e (fun z => nomatch z) h
end
end L2
namespace L2
open PySem PySem.Spec PyProof.Rows
structure Room (k : Nat) (A : Around) : Prop where
  hd : A.handled = none
  dp : A.depth + 3 * k + 5 < recursionLimit
  un : A.units + 16 * k + 200 < cLine
theorem Room.mono {j k : Nat} {A : Around} (r : Room k A) (h : j ≤ k) : Room j A := ⟨r.hd, by have := r.dp; (clear r; omega), by have := r.un; (clear r; omega)⟩
theorem Room.deeper {k : Nat} {A : Around} (r : Room (k + 1) A) (env : Env) : Room k (A.deeper env) :=
  ⟨r.hd, by have := r.dp; show A.depth + 1 + 3 * k + 5 < _; (clear r; omega), by have := r.un; show A.units + 3 + 16 * k + 200 < _; (clear r; omega)⟩
theorem Room.depth {k : Nat} {A : Around} (r : Room k A) : A.depth < recursionLimit := by have := r.dp; (clear r; omega)
noncomputable def tNil : TA := fun _ H Q => Q [] H
noncomputable def tCons (ta : TE) (tr : TA) : TA := fun σ H Q => ta σ H fun x H1 => tr σ H1 fun xs H2 => Q (x :: xs) H2
section
variable {X : Cx} {e : Expr} {es : List Expr} {te : TE} {t : TA} {pos : Pos}
theorem pa_nil : PA X [] tNil := fun _ _ _ _ H Q I h => Calls.spliced_nil ⟨[], H, I, .nil, h⟩
theorem pa_cons (ha : PE X e te) (hr : PA X es t) (hs : starEach (e :: es) X.env = (false, eval e X.env) :: starEach es X.env := by rfl) : PA X (e :: es) (tCons te t) := by
  intro pos pins s σ H Q I h
  rw [hs]
  show wpAny _ _ (spliced ((false, eval e X.env) :: backTo pos (starEach es X.env))) _ _ s
  refine Calls.spliced_cons (thn (ha pins s σ H _ I h) fun u s1 ⟨x, H1, I1, r1, q1⟩ => ?_)
  exact thn (hr pos pins s1 σ H1 _ I1 q1) fun us s2 ⟨xs, H2, I2, r2, q2⟩ => ⟨x :: xs, H2, I2, .cons r1 r2, q2⟩
noncomputable def tTup (t : TA) : TE := fun σ H Q => t σ H fun xs H1 => xs.length ≤ sizeLine ∧ ∀ p, H1 p = none → Q (.ref p) (upd H1 p (.tup xs))
noncomputable def tLst (t : TA) : TE := fun σ H Q => t σ H fun xs H1 => xs.length ≤ sizeLine ∧ ∀ p, H1 p = none → Q (.ref p) (upd H1 p (.lst xs))
theorem pe_tup {x1} (h : PA X es t) : PE X (.Tuple es x1 pos) (tTup t) := by
  intro pins s σ H Q I hq
  refine wpAny_Tuple_spliced (thn (h pos pins s σ H _ I hq) fun us s1 ⟨xs, H1, I1, r, z, q⟩ => ⟨by rw [← r.length]; exact z, ?_⟩)
  have hf : H1 s1.heap.objs.size = none := I1.hok.fresh (Nat.le_refl _)
  refine ⟨.ref s1.heap.objs.size, upd H1 s1.heap.objs.size (.tup xs), I1.laid (t' := s1.toks) (fun b u e => Heap.get?_push_of_some _ e) (Nat.le_refl _) ?_, rfl, q _ hf⟩
  exact ⟨z, us, r, ⟨_, Heap.get?_push_size _ rfl, rfl, _, rfl⟩⟩
theorem pe_lst (h : PA X es t) : PE X (.List es pos) (tLst t) := by
  intro pins s σ H Q I hq
  refine wpAny_List_spliced (thn (h pos pins s σ H _ I hq) fun us s1 ⟨xs, H1, I1, r, z, q⟩ => ⟨by rw [← r.length]; exact z, ?_⟩)
  have hf : H1 s1.heap.objs.size = none := I1.hok.fresh (Nat.le_refl _)
  refine ⟨.ref s1.heap.objs.size, upd H1 s1.heap.objs.size (.lst xs), I1.laid (t' := s1.toks) (fun b u e => Heap.get?_push_of_some _ e) (Nat.le_refl _) ?_, rfl, q _ hf⟩
  exact ⟨z, us, 0, r, Heap.get?_push_size _ rfl⟩
end
noncomputable abbrev Sp := List V → Hp → VK → XK → Prop
noncomputable abbrev CXT := List Env → Hp → Shared → XK → Value → Shared → Prop
structure Env0 (P : Program) (w : World) (K : PySem.W.Frag) (mg : Str → Option Value) (base : Heap) (A : Around) (outer : List Env) (s : Shared) (H : Hp) : Prop where
  frames : A.frames = some outer
  mod : Mod K mg base
  bs : ∀ b o, base.get? b = some o → s.heap.get? b = some o ∧ H b = none
  bsz : base.objs.size ≤ s.heap.objs.size
  funs : s.heap.FunFrames base outer
  frf : ∀ b ∈ frs outer, H b = none
  hok : HOk P w H s.heap
  bare : AllBare s.gens
noncomputable def CE (outer : List Env) (P : Program) (w : World) (H : Hp) (s : Shared) (Q : VK) (u : Value) (s' : Shared) : Prop :=
  ∃ v H', s'.os = s.os ∧ AllBare s'.gens ∧ Un (frs outer) [] H H' s.heap s'.heap ∧ HOk P w H' s'.heap ∧ RelV v u ∧ Q v H'
noncomputable def CR (CX : CXT) (outer : List Env) (P : Program) (w : World) (H : Hp) (s : Shared) (Q : VK) (E : XK) (r : Result) (s' : Shared) : Prop :=
  match r with
  | .ok (.ret u) => CE outer P w H s Q u s'
  | .ok _ => False
  | .error e => CX outer H s E e s'
structure FnOk (P : Program) (w : World) (K : PySem.W.Frag) (mg : Str → Option Value) (base : Heap) (CX : CXT) (k : Nat) (f : Addr) (fd : FuncData) (ps : List Str) (sp : Sp) : Prop where
  len : ∀ vs H Q E, sp vs H Q E → vs.length = ps.length
  run : ∀ (A : Around) (outer : List Env) (s : Shared) (H : Hp) (args : Args) (us : List Value) (vs : List V) (Q : VK) (E : XK), Room k A → Env0 P w K mg base A outer s H → BindsTo s fd args (ps.zip us) → Vals vs us → sp vs H Q E →
    codeAny (model P w) A (.call (.ref f) args) (CR CX outer P w H s Q E) s
section
variable {X : Cx} {pins : List (Addr × Obj)} {σ : St} {H : Hp} {s s' : Shared}
theorem Inv.env0 (I : Inv X pins σ H s) : Env0 X.prog X.w X.K X.mg X.base X.A X.stack s H :=
  ⟨I.ok.frames, I.ok.mod, I.bs, Nat.le_trans I.ok.bsz I.sz, I.stack, I.stkFree, I.hok, I.bare⟩
theorem Inv.after {Q : VK} {u : Value} (I : Inv X pins σ H s) (h : CE X.stack X.prog X.w H s Q u s') : EP X pins σ Q u s' := by
  obtain ⟨v, H', os, bare, un, hok, r, q⟩ := h
  obtain ⟨hh, g, d, t, os'⟩ := s'
  obtain rfl : os' = s.os := os
  exact ⟨v, H', I.call (h' := hh) (g' := g) (d' := d) (t' := t) (ch := []) un hok bare (fun b z => absurd z (by simp)), r, q⟩
end
noncomputable def tCall (sp : Sp) (dvs : List V) (E : XK) (t : TA) : TE := fun σ H Q => t σ H fun vs H1 => sp (vs ++ dvs) H1 Q E
noncomputable def Binds (K : PySem.W.Frag) (fd : FuncData) (ps : List Str) (ds : List Value) : Prop :=
  ∀ (s : Shared) (us : List Value), K.In s.heap → (us ++ ds).length = ps.length → BindsTo s fd ⟨us, []⟩ (ps.zip (us ++ ds))
theorem Binds.all {K : PySem.W.Frag} {fd : FuncData} {ps : List Str} (h : ∀ us : List Value, us.length = ps.length → bindArgs fd ⟨us, []⟩ = pure (ps.zip us)) : Binds K fd ps [] := fun s us _ hl => by
  rw [List.append_nil] at hl ⊢
  exact .of_eq (h us hl)
noncomputable def Passes (CX : CXT) (X : Cx) (E : XK) : Prop := ∀ (pins : List (Addr × Obj)) (σ : St) (H : Hp) (s : Shared) (e : Value) (s' : Shared), Inv X pins σ H s → CX X.stack H s E e s' → X.xe e s'
section
variable {X : Cx} {CX : CXT} {k : Nat} {f C : Addr} {fd : FuncData} {ps : List Str} {sp : Sp} {dvs : List V} {ds : List Value} {E : XK} {x m : Str} {p pos apos : Pos} {e o : Expr} {es : List Expr} {ta : TE} {t : TA}
theorem run_fn {pins : List (Addr × Obj)} {σ : St} {H : Hp} {s : Shared} {Q : VK} {us : List Value} {vs : List V} (F : FnOk X.prog X.w X.K X.mg X.base CX k f fd ps sp) (hr : Room k X.A) (hb : Binds X.K fd ps ds) (hd : Vals dvs ds) (hx : Passes CX X E)
    (I : Inv X pins σ H s) (r : Vals vs us) (h : sp (vs ++ dvs) H Q E) : wpAny (model X.prog X.w) X.A (call (.ref f) us) (EP X pins σ Q) X.xe s := by
  have r2 : Vals (vs ++ dvs) (us ++ ds) := r.append hd
  have hl : (us ++ ds).length = ps.length := by rw [← r2.length]; exact F.len _ _ _ _ h
  refine wpAny_call (codeAny_mono (F.run X.A X.stack s H ⟨us, []⟩ (us ++ ds) (vs ++ dvs) Q E hr I.env0 (hb s us I.kIn hl) r2 h) fun r s' hq => ?_)
  cases r with
  | error e => exact hx pins σ H s e s' I hq
  | ok fl =>
    cases fl with
    | ret u => exact I.after hq
    | next => exact False.elim hq
    | brk => exact False.elim hq
    | cont => exact False.elim hq
theorem pe_call (F : FnOk X.prog X.w X.K X.mg X.base CX k f fd ps sp) (hr : Room k X.A) (hg : Gl X x) (hm : X.mg x = some (.ref f)) (hk : PySem.W.keepIn X.K (.ref f) = true) (hb : Binds X.K fd ps ds) (hd : Vals dvs ds) (hx : Passes CX X E)
    (ha : PA X (e :: es) t) (hdb : (x == ("__debug__" : Str)) = false := by decide) (he : starEach (e :: es) X.env = (false, eval e X.env) :: starEach es X.env := by rfl) (hpl : (backTo pos (starEach es X.env)).any (·.1) = false := by rfl) :
    PE X (.Call (.Name x p) (e :: es) [] pos) (tCall sp dvs E t) := by
  intro pins s σ H Q I h
  refine wpAny_Call_Name_kw (ld_glob I hg hm ?_ hdb)
  refine PySem.W.callWith_K (h₀ := X.base) I.ok.mod.kin hk (thn (ha pos pins s σ H _ I h) fun us s1 ⟨vs, H1, I1, r, q⟩ => ⟨I1.kIn, ?_⟩) he hpl
  exact run_fn F hr hb hd hx I1 r q
structure Mk (K : PySem.W.Frag) (C f : Addr) : Prop where
  makes : PySem.W.makesIn K C = true
  init : PySem.W.findIn K (.ref C) "__init__" = some (some (.ref f))
  fn : PySem.W.isFn K (.ref f) = true
  kp : PySem.W.keepIn K (.ref C) = true
end
section
variable {X : Cx} {CX : CXT} {k : Nat} {f C : Addr} {fd : FuncData} {ps ks : List Str} {sp : Sp} {E : XK} {x m : Str} {p pos apos kpos : Pos} {e o : Expr} {es : List Expr} {kws : List Keyword} {te ta : TE} {t tk : TA} {nm : Option Str}
structure KBinds (K : PySem.W.Frag) (fd : FuncData) (ps ks : List Str) (g : List Value → List Value → List Value) (gV : List V → List V → List V) : Prop where
  to : ∀ (s : Shared) (us ws : List Value), K.In s.heap → (g us ws).length = ps.length → BindsTo s fd ⟨us, ks.zip ws⟩ (ps.zip (g us ws))
  rel : ∀ {vs : List V} {us : List Value} {zs : List V} {ws : List Value}, Vals vs us → Vals zs ws → Vals (gV vs zs) (g us ws)
variable {g : List Value → List Value → List Value} {gV : List V → List V → List V}
end
structure FnScope (N P : List Str) (sc : Scope) : Prop where
  kind : sc.kind = .function
  co : sc.isCoroutine = false
  gen : sc.isGenerator = false
  nd : N.Nodup
  pre : N.take P.length = P
  par : ∀ x ∈ P, sc.names.lookup x = some .local ∨ sc.names.lookup x = some .cell
  nofree : ∀ y ∈ sc.names, y.2 ≠ .free
theorem bindL_out {kindOf : Str → Option NameKind} {x : Str} : ∀ {binds : List (Str × Value)} {m : Str → Option Value}, (∀ v, (x, v) ∉ binds) → bindL kindOf binds m x = m x
  | [], _, _ => rfl
  | (n, v) :: r, m, h => by
    unfold bindL
    rw [bindL_out fun w hw => h w (List.mem_cons_of_mem _ hw)]
    split
    · have : x ≠ n := by rintro rfl; exact h v List.mem_cons_self
      simp [this]
    · rfl
theorem bindC_out {kindOf : Str → Option NameKind} {x : Str} : ∀ {binds : List (Str × Value)} {m : Str → Option Value}, (∀ v, (x, v) ∉ binds) → bindC kindOf binds m x = m x
  | [], _, _ => rfl
  | (n, v) :: r, m, h => by
    unfold bindC
    rw [bindC_out fun w hw => h w (List.mem_cons_of_mem _ hw)]
    split
    · rfl
    · have : x ≠ n := by rintro rfl; exact h v List.mem_cons_self
      simp [this]
theorem bindL_get {kindOf : Str → Option NameKind} {x : Str} {v : Value} : ∀ {P : List Str} {vs : List Value} {i : Nat} {m : Str → Option Value}, P.Nodup → P[i]? = some x → vs[i]? = some v → kindOf x = some .local →
    bindL kindOf (P.zip vs) m x = some v
  | [], _, _, _, _, h, _, _ => by simp at h
  | _ :: _, [], _, _, _, _, h, _ => by simp at h
  | p :: P, w :: vs, 0, m, nd, h1, h2, hk => by
    simp at h1 h2; subst h1; subst h2
    show bindL kindOf ((p, w) :: P.zip vs) m p = _
    unfold bindL
    rw [bindL_out fun v hv => (List.nodup_cons.mp nd).1 (List.of_mem_zip hv).1, if_pos hk]
    simp
  | p :: P, w :: vs, i + 1, m, nd, h1, h2, hk => by
    show bindL kindOf ((p, w) :: P.zip vs) m x = _
    unfold bindL
    exact bindL_get (i := i) (List.nodup_cons.mp nd).2 (by simpa using h1) (by simpa using h2) hk
theorem bindC_get {kindOf : Str → Option NameKind} {x : Str} {v : Value} : ∀ {P : List Str} {vs : List Value} {i : Nat} {m : Str → Option Value}, P.Nodup → P[i]? = some x → vs[i]? = some v → kindOf x ≠ some .local →
    bindC kindOf (P.zip vs) m x = some v
  | [], _, _, _, _, h, _, _ => by simp at h
  | _ :: _, [], _, _, _, _, h, _ => by simp at h
  | p :: P, w :: vs, 0, m, nd, h1, h2, hk => by
    simp at h1 h2; subst h1; subst h2
    show bindC kindOf ((p, w) :: P.zip vs) m p = _
    unfold bindC
    rw [bindC_out fun v hv => (List.nodup_cons.mp nd).1 (List.of_mem_zip hv).1, if_neg hk]
    simp
  | p :: P, w :: vs, i + 1, m, nd, h1, h2, hk => by
    show bindC kindOf ((p, w) :: P.zip vs) m x = _
    unfold bindC
    exact bindC_get (i := i) (List.nodup_cons.mp nd).2 (by simpa using h1) (by simpa using h2) hk
noncomputable def start (N : List Str) (vs : List V) : St := vs.map some ++ List.replicate (N.length - vs.length) none
noncomputable def cxOf (CX : CXT) (P : Program) (w : World) (K : PySem.W.Frag) (mg : Str → Option Value) (base : Heap) (N : List Str) (qual : Str) (scope : Scope) (f : Addr) (cd : Value) (A : Around) (outer : List Env) (s : Shared) (H : Hp) (E : XK) : Cx where
  prog := P
  w := w
  K := K
  mg := mg
  base := base
  A := A.deeper (envOfC qual scope s.heap.objs.size f cd)
  N := N
  s₀ := s
  H₀ := H
  env := envOfC qual scope s.heap.objs.size f cd
  outer := outer
  stack := envOfC qual scope s.heap.objs.size f cd :: outer
  ex := []
  calm := true
  fn := fun _ => true
  pn := []
  xe := fun e s' => wpAny (model P w) (A.deeper (envOfC qual scope s.heap.objs.size f cd)) (leaving (envOfC qual scope s.heap.objs.size f cd) e) (fun _ s'' => CX outer H s E e s'') (fun e' s'' => CX outer H s E e' s'') s'
theorem cell_has {sc : Scope} {n : Nat} {x : Str} (h : sc.names.lookup x = some .cell) : ∃ c, (cellsFrom n sc.names []).lookup x = some c := by
  have q := PySem.W.cellsFrom_some sc.names n [] (.inl h)
  exact Option.isSome_iff_exists.mp q
theorem inv_start {CX : CXT} {P : Program} {w : World} {K : PySem.W.Frag} {mg : Str → Option Value} {base : Heap} {N ps : List Str} {qual : Str} {scope : Scope} {f : Addr} {cd : Value} {A : Around} {outer : List Env} {s s1 : Shared} {H : Hp} {E : XK} {us : List Value} {vs : List V}
    (S : FnScope N ps scope) (hd : A.handled = none) (e0 : Env0 P w K mg base A outer s H) (hl : vs.length = ps.length) (r : Vals vs us)
    (x : InCallC s s.heap.objs.size (bindL (envOfC qual scope s.heap.objs.size f cd).kindOf (ps.zip us) fun _ => none) (cellsFrom (s.heap.objs.size + 1) scope.names []) (bindC (envOfC qual scope s.heap.objs.size f cd).kindOf (ps.zip us) fun _ => none) s1) :
    Inv (cxOf CX P w K mg base N qual scope f cd A outer s H E) [] (start N vs) H s1 := by
  have hpl : ps.length ≤ N.length := by have := congrArg List.length S.pre; rw [List.length_take] at this; (clear S hd e0 hl r x; omega)
  obtain ⟨h1, tk, rfl, hk⟩ := x.done
  have noA : ∀ b : Addr, b ∉ (cxOf CX P w K mg base N qual scope f cd A outer s H E).ex := fun b z => absurd (show b ∈ ([] : List Addr) from z) (by simp)
  refine ⟨⟨e0.mod, S.kind, rfl, rfl, Nat.le_refl _, fun y z c h1 h2 => ?_, fun y hy => ?_, fun y c _ h => ?_, fun _ => hd, Around.frames_deeper e0.frames, .inr ⟨rfl, rfl⟩, fun b z => absurd z (noA b), e0.bs, e0.bsz, fun b _ _ => noA b, fun b z => absurd z (noA b), e0.funs, e0.frf⟩,
    rfl, e0.bare, Un.kept hk, ⟨_, x.toInCall.ns, fun i y v h1 h2 h3 => ?_⟩, fun y c h => ⟨_, x.cell y c h⟩, e0.hok.fresh (Nat.le_refl _), fun y c h => ?_, fun p hp => absurd (show p ∈ ([] : List (Addr × Obj)) from hp) (by simp), e0.hok.kept hk, ?_⟩
  · exact name_of_addr x.apart (PySem.mem_of_lookup h1) (PySem.mem_of_lookup h2)
  · have hy : scope.names.lookup y = some .cell ∨ scope.names.lookup y = some .free := hy
    rcases hy with hy | hy
    · exact cell_has hy
    · exact absurd rfl (S.nofree _ (PySem.mem_of_lookup hy))
  · exact Nat.le_of_lt (x.above y c (PySem.mem_of_lookup h))
  · have hi : i < vs.length := by
      unfold start at h2
      by_cases hi : i < vs.length
      · exact hi
      · rw [List.getElem?_append_right (by simpa using hi)] at h2
        rw [List.getElem?_replicate] at h2
        split at h2 <;> cases h2
    have ha : vs[i]? = some v := by
      unfold start at h2
      rw [List.getElem?_append_left (by simpa using hi), List.getElem?_map] at h2
      cases e : vs[i]? with
      | none => rw [e] at h2; cases h2
      | some a => rw [e] at h2; cases h2; rfl
    obtain ⟨u, hu, rv⟩ := r.get ha
    have hp : ps[i]? = some y := by
      rw [← S.pre, List.getElem?_take_of_lt (by (clear S hd e0 r hpl hk x noA h1 h2 h3 ha hu rv; omega))]; exact h1
    have ndP : ps.Nodup := by rw [← S.pre]; exact S.nd.sublist (List.take_sublist _ _)
    refine ⟨u, rv, ?_⟩
    rcases S.par y (List.mem_of_getElem? hp) with k | k
    · exact .inl ⟨k, bindL_get ndP hp hu k⟩
    · obtain ⟨c, e⟩ := cell_has (n := s.heap.objs.size + 1) k
      refine .inr ⟨.inl k, c, e, ?_⟩
      have q := x.cell y c e
      rw [bindC_get ndP hp hu (by show scope.names.lookup y ≠ _; rw [k]; decide)] at q
      exact q
  · exact e0.hok.fresh (Nat.le_of_lt (x.above y c (PySem.mem_of_lookup h)))
  · unfold start
    show _ = N.length
    rw [List.length_append, List.length_map, List.length_replicate]
    (clear S hd e0 r hk x noA; omega)
theorem fn_of {CX : CXT} {P : Program} {w : World} {K : PySem.W.Frag} {mg : Str → Option Value} {base : Heap} {k : Nat} {f : Addr} {name qual : Str} {params : Arguments} {body : List Stmt} {scope : Scope} {dV kV doc pm cdv ct oc : Value} {an od : Option Addr}
    {osl : Array (Option Value)} {N ps : List Str} {sp : Sp} (lk : K.lookup f = some ⟨oc, od, .func (PySem.W.fnOf name qual params body scope dV kV doc pm an cdv ct), osl⟩) (hcd : PySem.W.codeIn K cdv qual = true) (S : FnScope N ps scope)
    (len : ∀ vs H Q E, sp vs H Q E → vs.length = ps.length)
    (hbody : ∀ (A : Around) (outer : List Env) (s : Shared) (H : Hp) (vs : List V) (Q : VK) (E : XK), Room k (A.deeper (envOfC qual scope s.heap.objs.size f cdv)) → sp vs H Q E →
      ∃ t, PSs (cxOf CX P w K mg base N qual scope f cdv A outer s H E) body t ∧ t { nx := fun _ H' => Q .non H', rt := Q } (start N vs) H) :
    FnOk P w K mg base CX (k + 1) f (PySem.W.fnOf name qual params body scope dV kV doc pm an cdv ct) ps sp := by
  refine ⟨len, fun A outer s H args us vs Q E hr e0 hb r hsp => ?_⟩
  have hl := len _ _ _ _ hsp
  have KX : K.In s.heap := e0.mod.kin.keeps fun b o e => (e0.bs b o e).1
  have lim : s.heap.NoLimit := e0.mod.nolimit.keeps fun b o e => (e0.bs b o e).1
  have hkind : ∀ y ∈ ps.zip us, scope.names.lookup y.1 = some .local ∨ (scope.names.lookup y.1 = some .cell ∧ ((cellsFrom (s.heap.objs.size + 1) scope.names []).lookup y.1).isSome = true) := fun ⟨n, v⟩ hy => by
    rcases S.par n (List.of_mem_zip hy).1 with q | q
    · exact .inl q
    · exact .inr ⟨q, PySem.W.cellsFrom_some _ _ _ (.inl q)⟩
  refine codeAny_call_function hr.depth (KX _ _ lk) rfl S.co S.gen rfl (PySem.W.codeRec_of KX hcd) (hb _ _ _ _ ?_)
  refine wpAny_newFunctionEnv_cells S.kind hkind fun env he s1 x => ?_
  subst he
  refine ⟨lim.keeps x.toInCall.keep, codeAny_func ?_⟩
  obtain ⟨t, ht, hq⟩ := hbody A outer s H vs Q E (hr.deeper _) hsp
  have I : Inv (cxOf CX P w K mg base N qual scope f cdv A outer s H E) [] (start N vs) H s1 := inv_start S hr.hd e0 hl r x
  refine wpAny_mono (ht [] s1 (start N vs) H _ I hq) (fun fl s' hs => ?_) fun e s' hs => hs
  have fin : ∀ {σ' : St} {H' : Hp} {v : V} {u : Value}, Inv (cxOf CX P w K mg base N qual scope f cdv A outer s H E) [] σ' H' s' → RelV v u → Q v H' → CE outer P w H s Q u s' :=
    fun {σ' H' v u} J rv q => ⟨v, H', J.os, J.bare, J.base, J.hok, rv, q⟩
  cases fl with
  | ret u =>
    obtain ⟨v, σ', H', J, rv, q⟩ := hs
    exact fin J rv q
  | next =>
    obtain ⟨σ', H', J, q⟩ := hs
    exact fin (v := V.non) (u := Value.none) J rfl q
  | brk =>
    obtain ⟨_, _, _, q⟩ := hs
    exact False.elim q
  | cont =>
    obtain ⟨_, _, _, q⟩ := hs
    exact False.elim q
end L2
namespace L2
open PySem PySem.Spec PyProof.Rows
section
variable {X : Cx} {x : Str} {p pos : Pos} {e : Expr} {es : List Expr} {t : TA} {id T : String} {r : List V → Hp → VK → Prop}
noncomputable def tCB (r : List V → Hp → VK → Prop) (t : TA) : TE := fun σ H Q => t σ H fun vs H1 => r vs H1 Q
theorem pe_callB (hc : CallR X (.builtin id) r) (hg : Gl X x) (hm : X.mg x = none) (hv : bootBuiltins x = some (.builtin id)) (ha : PA X (e :: es) t) (hn : x ≠ "__name__" := by decide) (hdb : (x == ("__debug__" : Str)) = false := by decide)
    (he : starEach (e :: es) X.env = (false, eval e X.env) :: starEach es X.env := by rfl) (hpl : (backTo pos (starEach es X.env)).any (·.1) = false := by rfl) : PE X (.Call (.Name x p) (e :: es) [] pos) (tCB r t) := by
  intro pins s σ H Q I h
  refine wpAny_Call_Name_kw (ld_blt I hg hm hv ?_ hn hdb)
  exact PyProof.Rows.callWith_builtin1 (thn (ha pos pins s σ H _ I h) fun us s1 ⟨vs, H1, I1, r1, q1⟩ => hc pins s1 σ H1 vs us Q I1 r1 q1) he hpl
theorem pe_callTy (hc : CallR X (.type T) r) (hg : Gl X x) (hm : X.mg x = none) (hv : bootBuiltins x = some (.type T)) (ha : PA X (e :: es) t) (hn : x ≠ "__name__" := by decide) (hdb : (x == ("__debug__" : Str)) = false := by decide)
    (he : starEach (e :: es) X.env = (false, eval e X.env) :: starEach es X.env := by rfl) (hpl : (backTo pos (starEach es X.env)).any (·.1) = false := by rfl) : PE X (.Call (.Name x p) (e :: es) [] pos) (tCB r t) := by
  intro pins s σ H Q I h
  refine wpAny_Call_Name_kw (ld_blt I hg hm hv ?_ hn hdb)
  exact PyProof.Rows.callWith_type1 (thn (ha pos pins s σ H _ I h) fun us s1 ⟨vs, H1, I1, r1, q1⟩ => hc pins s1 σ H1 vs us Q I1 r1 q1) he hpl
end
end L2
namespace HT
open PySem PyProof.Rows
theorem rcLt_int (A : Around) (s : Shared) (a : Int) (t : Tok) (c : Int) (u : Tok) (prog : Program) (w : World) (E : Value → Shared → Prop) (Q : Value → Shared → Prop) (h : Q (.bool (decide (a < c))) s) :
    wpAny (model prog w) A (richCompare .Lt (.int a t) (.int c u)) Q E s :=
  (PyProof.Rows.lt_int h : wpAny (model prog w) A (compareOp .Lt (.int a t) (.int c u)) Q E s)
section
open PySem.SeqAt
open PySem.AutoSeq1 (wpAny_loadPart')
open PySem.MeetsSeq PySem.MeetsSeq2 PySem.MeetsSeq3
end
section
variable {prog : Program} {w : World} {A : Around} {E : Value → Shared → Prop} {s : Shared}
theorem cat_tup {t b : Addr} {vs ws : List Value} {Q : Value → Shared → Prop} (ht : IsTup s.heap t vs.toArray) (hb : IsTup s.heap b ws.toArray) (hv : vs ≠ [])
    (h1 : ws = [] → Q (.ref t) s) (h2 : ws ≠ [] → Q (.ref s.heap.objs.size) { s with heap := s.heap.push { cls := .type "tuple", data := .seq (vs ++ ws).toArray } })
    (hsz : vs.length + ws.length ≤ sizeLine) : wpAny (model prog w) A (binaryOp .Add (.ref t) (.ref b)) Q E s := by
  obtain ⟨⟨cls, dd, data, sl⟩, ho, hc, n, hd⟩ := id ht
  obtain ⟨⟨cls2, dd2, data2, sl2⟩, ho2, hc2, n2, hd2⟩ := id hb
  simp only at hc hd hc2 hd2
  subst hc hd hc2 hd2
  have e : vs.toArray ++ ws.toArray = (vs ++ ws).toArray := by simp
  by_cases hw : ws = []
  · exact concat_meets ⟨_, ho, rfl⟩ ⟨_, ho2, rfl⟩ noFill_tuple_add seq_tuple_add PySem.F.slot_tuple_add PySem.F.entry_tuple_add (PySem.F.args_tuple_add_2 _ _)
      (tuple_addW1 t b vs.toArray ws.toArray n n2 dd dd2 sl sl2 (by simpa using hv) (by simp [hw])) ⟨ho, ho2, h1 hw⟩
  · refine concat_meets ⟨_, ho, rfl⟩ ⟨_, ho2, rfl⟩ noFill_tuple_add seq_tuple_add PySem.F.slot_tuple_add PySem.F.entry_tuple_add (PySem.F.args_tuple_add_2 _ _)
      (tuple_addW2 t b vs.toArray ws.toArray n n2 dd dd2 sl sl2 (by simpa using hv) (by simpa using hw) (by rw [List.size_toArray, List.size_toArray]; exact hsz)) ⟨ho, ho2, ?_⟩
    rw [e]
    exact h2 hw
noncomputable def sIx (n d : Nat) : Option Int → Nat
  | none => d
  | some v => if v < 0 then (v + (n : Int)).toNat else min v.toNat n
theorem sIx_none (n d : Nat) : sIx n d none = d := rfl
theorem sIx_nat (n d k : Nat) : sIx n d (some (k : Int)) = min k n := by
  show (if (k : Int) < 0 then ((k : Int) + (n : Int)).toNat else min (k : Int).toNat n) = min k n
  rw [if_neg (by omega), Int.toNat_natCast]
theorem sIx_le (n d : Nat) (hd : d ≤ n) (o : Option Int) : sIx n d o ≤ n := by
  cases o with
  | none => exact hd
  | some v =>
    show (if v < 0 then (v + (n : Int)).toNat else min v.toNat n) ≤ n
    by_cases hv : v < 0
    · rw [if_pos hv]; omega
    · rw [if_neg hv]; exact Nat.min_le_right _ _
theorem clip_eq (v : Int) (n d : Nat) : (if v < 0 then max (v + (n : Int)) 0 else min v (n : Int)) = ((sIx n d (some v) : Nat) : Int) := by
  show (if v < 0 then max (v + (n : Int)) 0 else min v (n : Int)) = (((if v < 0 then (v + (n : Int)).toNat else min v.toNat n) : Nat) : Int)
  by_cases hv : v < 0
  · simp only [if_pos hv]; (clear hv; omega)
  · simp only [if_neg hv]; omega
theorem adjust_gen (lo hi : Option Int) (n : Nat) : Builtin.Slice.sliceAdjust lo hi 1 (n : Int) = (((sIx n 0 lo : Nat) : Int), ((sIx n n hi : Nat) : Int)) := by
  have h1 : ¬ ((1 : Int) < 0) := by omega
  unfold Builtin.Slice.sliceAdjust
  simp only [h1, if_false]
  refine Prod.ext ?_ ?_
  · cases lo with
    | none => rfl
    | some v => exact clip_eq v n 0
  · cases hi with
    | none => rfl
    | some v => exact clip_eq v n n
theorem places_gen (i j : Nat) : Builtin.Slice.slicePlaces (i : Int) (j : Int) 1 = j - i := by
  unfold Builtin.Slice.slicePlaces
  have h1 : (1 : Int) > 0 := by omega
  simp only [h1, if_true, Int.ediv_one]
  split <;> (clear h1; omega)
theorem slicePart_ {v : Value} {o : Option Int} {Q : Option Int → Shared → Prop} (p : IsPart v o) (h : Q o s) : wpAny (model prog w) A (Builtin.Slice.slicePartIndex v) Q E s := by
  cases p with
  | none => exact slicePart_none h
  | int i t => exact slicePart_int h
theorem sliceApplied_gen {sl : Addr} {vl vu : Value} {lo hi : Option Int} {n : Nat} {Q : Int × Int × Nat → Shared → Prop} (hs : s.heap.IsSliceOf sl vl vu .none) (pl : IsPart vl lo) (pu : IsPart vu hi)
    (h : Q (((sIx n 0 lo : Nat) : Int), 1, sIx n n hi - sIx n 0 lo) s) : wpAny (model prog w) A (Builtin.Slice.sliceApplied (.ref sl) (pure (n : Int))) Q E s := by
  obtain ⟨os, hos, hcs, hds⟩ := id hs
  unfold Builtin.Slice.sliceApplied Builtin.Slice.sliceFields
  refine wpAny_bind (wpAny_bind (wpAny_field hos hds (x := vl) rfl (wpAny_bind (wpAny_field hos hds (x := vu) rfl (wpAny_bind (wpAny_field hos hds (x := .none) rfl (wpAny_pure ?_)))))))
  refine wpAny_bind (slicePart_none ?_)
  show wpAny _ _ (if ((1 : Int) == 0) = true then _ else _) _ _ s
  rw [if_neg (by decide)]
  refine wpAny_bind (slicePart_ pl (wpAny_bind (slicePart_ pu (wpAny_bind (wpAny_pure ?_)))))
  show wpAny _ _ (match Builtin.Slice.sliceAdjust lo hi 1 (n : Int) with | (lo, hi) => pure (lo, (1 : Int), Builtin.Slice.slicePlaces lo hi 1)) _ _ s
  rw [adjust_gen lo hi n]
  show wpAny _ _ (pure (((sIx n 0 lo : Nat) : Int), (1 : Int), Builtin.Slice.slicePlaces ((sIx n 0 lo : Nat) : Int) ((sIx n n hi : Nat) : Int) 1)) _ _ s
  rw [places_gen]
  exact wpAny_pure h
theorem pick_gen (xs : Array Value) (i k : Nat) : ((List.range k).filterMap fun (m : Nat) => xs[((i : Int) + (m : Int) * 1).toNat]?).toArray = ((xs.toList.drop i).take k).toArray := by
  have e : (fun (m : Nat) => xs[((i : Int) + (m : Int) * 1).toNat]?) = fun m => xs[i + m]? := by
    funext m
    have : ((i : Int) + (m : Int) * 1).toNat = i + m := by omega
    rw [this]
  rw [e]
  have := pick_run xs i k
  rw [List.filterMap_map] at this
  have e2 : ((fun x => xs[x]?) ∘ fun x => i + x) = fun m => xs[i + m]? := rfl
  rw [e2] at this
  rw [this]
theorem getItem_tuple_cut {t sl : Addr} {items : Array Value} {vl vu : Value} {lo hi : Option Int} {Q : Value → Shared → Prop} (ht : IsTup s.heap t items) (hs : s.heap.IsSliceOf sl vl vu .none) (pl : IsPart vl lo) (pu : IsPart vu hi)
    (hw : ¬ (sIx items.size 0 lo = 0 ∧ sIx items.size items.size hi = items.size))
    (h : Q (.ref s.heap.objs.size) { s with heap := s.heap.push { cls := .type "tuple", data := .seq ((items.toList.drop (sIx items.size 0 lo)).take (sIx items.size items.size hi - sIx items.size 0 lo)).toArray } })
    (hsz : items.size ≤ sizeLine) : wpAny (model prog w) A (getItem (.ref t) (.ref sl)) Q E s := by
  have htake : sizeOk (.seq ((items.toList.drop (sIx items.size 0 lo)).take (sIx items.size items.size hi - sIx items.size 0 lo)).toArray) := by
    show ((items.toList.drop (sIx items.size 0 lo)).take (sIx items.size items.size hi - sIx items.size 0 lo)).toArray.size ≤ sizeLine
    rw [List.size_toArray, List.length_take, List.length_drop, Array.length_toList]
    (clear ht hs pl pu hw h; omega)
  have hj : sIx items.size items.size hi ≤ items.size := sIx_le _ _ (Nat.le_refl _) hi
  obtain ⟨os, hos, hcs, hds⟩ := id hs
  have hTs : s.TypeIs (.ref sl) "slice" := ⟨os, hos, hcs⟩
  unfold getItem
  try with_reducible refine wpAny_holding ?_
  first | refine wpAny_bind (wpAny_pure ?_) | skip
  refine wpAny_bind (wpAny_sequenceKey ht.typeIs (by decide) ?_)
  refine wpAny_bind (wpAny_callSpecial?_slot (name := Str.ofString "__getitem__") ht.typeIs PyProof.Rows.slot_tuple_getitem
    (wpAny_call_entry PyProof.Rows.slot_tuple_getitem ht.typeIs entry_tuple_getitem ?_ (args_tuple_getitem _ _)))
  show wpAny _ _ (Builtin.Tuple.tupleItemsOf (.ref t) >>= _) _ _ s
  refine wpAny_bind (tupleItemsOf_ ht ?_)
  refine wpAny_bind (wpAny_typeOf hTs ?_)
  rw [if_pos (by decide)]
  refine wpAny_bind (sliceApplied_gen hs pl pu ?_)
  have hno : ¬ ((((sIx items.size 0 lo : Nat) : Int) == 0 && (1 : Int) == 1 && (sIx items.size items.size hi - sIx items.size 0 lo) == items.size) = true) := by
    intro q
    rw [Bool.and_eq_true, Bool.and_eq_true] at q
    have q1 : ((sIx items.size 0 lo : Nat) : Int) = 0 := eq_of_beq q.1.1
    have q2 : sIx items.size items.size hi - sIx items.size 0 lo = items.size := eq_of_beq q.2
    exact hw ⟨by (clear ht hs pl pu hw h hsz htake hj hos hcs hds hTs q q2; omega), by (clear ht hs pl pu hw h hsz htake hos hcs hds hTs q; omega)⟩
  show wpAny _ _ (if (((sIx items.size 0 lo : Nat) : Int) == 0 && (1 : Int) == 1 && (sIx items.size items.size hi - sIx items.size 0 lo) == items.size) = true then _ else _) _ _ s
  rw [if_neg hno, pick_gen]
  first
    | exact wpAny_bind (m := Builtin.Tuple.tupleExact _) (wpAny_newObj_type (wpAny_pure ⟨_, rfl, wpAny_pure h⟩) htake)
    | exact wpAny_bind (m := Builtin.Tuple.tupleExact _) (wpAny_newObj_type (wpAny_bind (wpAny_pure (wpAny_pure ⟨_, rfl, wpAny_pure h⟩))) htake)
    | exact wpAny_bind (wpAny_bind (m := Builtin.Tuple.tupleExact _) (wpAny_newObj_type (wpAny_pure (wpAny_pure ⟨_, rfl, wpAny_pure h⟩)) htake))
    | exact wpAny_bind (wpAny_bind (m := Builtin.Tuple.tupleExact _) (wpAny_newObj_type (wpAny_pure ⟨_, rfl, wpAny_pure h⟩) htake))
end
end HT
namespace L2
open PySem PySem.Spec PyProof.Rows
noncomputable abbrev TO := St → Hp → (Option Int → Hp → Prop) → Prop
noncomputable def PO (X : Cx) (e : Option Expr) (t : TO) : Prop :=
  ∀ (pins : List (Addr × Obj)) (s : Shared) (σ : St) (H : Hp) (Q : Option Int → Hp → Prop), Inv X pins σ H s → t σ H Q →
    wpAny (model X.prog X.w) X.A (evalPart e X.env) (fun u s' => ∃ o H', Inv X pins σ H' s' ∧ IsPart u o ∧ Q o H') X.xe s
noncomputable def tNoPart : TO := fun _ H Q => Q none H
noncomputable def tPart (t : TE) : TO := fun σ H Q => t σ H fun x H1 => ∃ i, x = .int i ∧ Q (some i) H1
theorem intsAre_of {ns : List Int} : ∀ {us : List Value}, Vals (ns.map V.int) us → IntsAre us ns := by
  induction ns with
  | nil => intro us r; rw [List.map_nil] at r; cases r; exact .nil
  | cons n ns ih =>
    intro us r
    rw [List.map_cons] at r
    cases r with
    | cons r1 r2 =>
      obtain ⟨t, e⟩ := r1
      subst e
      exact .cons n t (ih r2)
section
variable {X : Cx} {e : Expr} {te : TE} {lo hi : Option Expr} {tl th : TO} {pos p2 : Pos}
theorem po_none : PO X none tNoPart := by
  intro pins s σ H Q I h
  rw [evalPart_none]
  exact wpAny_pure ⟨none, H, I, .none, h⟩
theorem po_some (h : PE X e te) : PO X (some e) (tPart te) := by
  intro pins s σ H Q I hw
  rw [evalPart_some]
  refine thn (h pins s σ H _ I hw) fun u s1 ⟨x, H1, I1, r1, q1⟩ => ?_
  obtain ⟨i, rfl, q⟩ := q1
  obtain ⟨t, rfl⟩ := r1
  exact ⟨some i, H1, I1, .int i t, q⟩
noncomputable def SlR (X : Cx) (r : V → Option Int → Option Int → Hp → VK → Prop) : Prop :=
  ∀ (pins : List (Addr × Obj)) (s : Shared) (σ : St) (H : Hp) (x : V) (v vl vu : Value) (lo hi : Option Int) (sl : Addr) (Q : VK), Inv X pins σ H s → RelV x v → s.heap.IsSliceOf sl vl vu .none → IsPart vl lo → IsPart vu hi → r x lo hi H Q →
    ∃ T id, typeLookup (.type T) "__getitem__" = pure (some (.builtin id)) ∧ s.TypeIs v T ∧ wpAny (model X.prog X.w) X.A (getItem v (.ref sl)) (EP X pins σ Q) X.xe s
noncomputable def tSl (r : V → Option Int → Option Int → Hp → VK → Prop) (te : TE) (tl th : TO) : TE := fun σ H Q => te σ H fun x H1 => tl σ H1 fun l H2 => th σ H2 fun u H3 => r x l u H3 Q
theorem pe_slice {r : V → Option Int → Option Int → Hp → VK → Prop} (hr : SlR X r) (he : PE X e te) (hl : PO X lo tl) (hu : PO X hi th) : PE X (.Subscript e (.Slice lo hi none p2) pos) (tSl r te tl th) := by
  intro pins s σ H Q I h
  refine Subscript_ (thn (he pins s σ H _ I h) fun v s1 ⟨x, H1, I1, r1, q1⟩ => ?_)
  refine wpAny_Slice (thn (hl pins s1 σ H1 _ I1 q1) fun vl s2 ⟨l, H2, I2, pl, q2⟩ => thn (hu pins s2 σ H2 _ I2 q2) fun vu s3 ⟨u, H3, I3, pu, q3⟩ => ?_)
  rw [evalPart_none]
  refine wpAny_pure ?_
  have I4 : Inv X pins σ H3 { s3 with heap := s3.heap.push { cls := .type "slice", data := .fields #[vl, vu, .none] } } := I3.kept (t' := s3.toks) fun b ob q => Heap.get?_push_of_some _ q
  obtain ⟨T, id, hT, ht, hg⟩ := hr pins { s3 with heap := s3.heap.push { cls := .type "slice", data := .fields #[vl, vu, .none] } } σ H3 x v vl vu l u s3.heap.objs.size Q I4 r1 (Heap.IsSliceOf.new ..) pl pu q3
  show wpAny (model X.prog X.w) X.A (subscriptTail e (.Slice lo hi none p2) v (.ref s3.heap.objs.size)) (EP X pins σ Q) X.xe { s3 with heap := s3.heap.push { cls := .type "slice", data := .fields #[vl, vu, .none] } }
  exact tail_any (ops := [.ref s3.heap.objs.size, v]) ht hT hg (by with_unfolding_all rfl)
noncomputable def cutV (xs : List V) (lo hi : Option Int) : List V := (xs.drop (HT.sIx xs.length 0 lo)).take (HT.sIx xs.length xs.length hi - HT.sIx xs.length 0 lo)
theorem cutV_length (xs : List V) (lo hi : Option Int) : (cutV xs lo hi).length ≤ xs.length := by
  unfold cutV
  rw [List.length_take, List.length_drop]
  omega
noncomputable def rSlT (K : PySem.W.Frag) : V → Option Int → Option Int → Hp → VK → Prop := fun x lo hi H Q => ∃ a xs, x = .ref a ∧ SqT K H a xs ∧
  ¬ (HT.sIx xs.length 0 lo = 0 ∧ HT.sIx xs.length xs.length hi = xs.length) ∧ ∀ p, H p = none → Q (.ref p) (upd H p (.tup (cutV xs lo hi)))
theorem sl_tup : SlR X (rSlT X.K) := by
  intro pins s σ H x v vl vu lo hi sl Q I rx hs pl pu h
  obtain ⟨a, xs, rfl, hx, hw, q⟩ := h
  cases rx
  obtain ⟨its, r, ht, hz⟩ := I.tuple hx
  have hlen : its.toArray.size = xs.length := by rw [List.size_toArray]; exact r.length.symm
  refine ⟨"tuple", _, PyProof.Rows.slot_tuple_getitem.lookup, ht.typeIs, ?_⟩
  refine HT.getItem_tuple_cut ht hs pl pu (by rw [hlen]; exact hw) ?_ (by rw [hlen]; exact hz)
  rw [hlen]
  refine ⟨.ref s.heap.objs.size, _, I.laid (t' := s.toks) (o := .tup (cutV xs lo hi)) (fun b ob q => Heap.get?_push_of_some _ q) (Nat.le_refl _) ?_, rfl, q _ (I.hok.fresh (Nat.le_refl _))⟩
  exact ⟨Nat.le_trans (cutV_length xs lo hi) hz, _, (r.drop (HT.sIx xs.length 0 lo)).take (HT.sIx xs.length xs.length hi - HT.sIx xs.length 0 lo), IsTup.new _ _⟩
noncomputable def rCatT (K : PySem.W.Frag) : R2 := fun x y H Q => ∃ a b xs ys, x = .ref a ∧ y = .ref b ∧ SqT K H a xs ∧ SqT K H b ys ∧ xs ≠ [] ∧ xs.length + ys.length ≤ sizeLine ∧
  (ys = [] → Q (.ref a) H) ∧ (ys ≠ [] → ∀ p, H p = none → Q (.ref p) (upd H p (.tup (xs ++ ys))))
theorem Vals.nil_iff {xs : List V} {us : List Value} (r : Vals xs us) : us = [] ↔ xs = [] := by
  cases r with
  | nil => simp
  | cons _ _ => simp
theorem op_catT : OpR X (binaryOp .Add) (rCatT X.K) := by
  intro pins s σ H x y v u Q I rx ry h
  obtain ⟨a, b, xs, ys, rfl, rfl, ha, hb, hx, hz, q1, q2⟩ := h
  cases rx
  cases ry
  obtain ⟨its, r1, p1, _⟩ := I.tuple ha
  obtain ⟨its2, r2, p2, _⟩ := I.tuple hb
  refine HT.cat_tup p1 p2 (fun z => hx (r1.nil_iff.mp z)) (fun z => ⟨.ref a, H, I, rfl, q1 (r2.nil_iff.mp z)⟩) (fun z => ?_) (by rw [← r1.length, ← r2.length]; exact hz)
  refine ⟨.ref s.heap.objs.size, _, I.laid (t' := s.toks) (o := .tup (xs ++ ys)) (fun b ob q => Heap.get?_push_of_some _ q) (Nat.le_refl _) ?_, rfl, q2 (fun w => z (r2.nil_iff.mpr w)) _ (I.hok.fresh (Nat.le_refl _))⟩
  exact ⟨by rw [List.length_append]; exact hz, _, r1.append r2, IsTup.new _ _⟩
end
end L2
namespace L2
open PySem PySem.Spec PyProof.Rows
noncomputable def ixN (n : Nat) (i : Int) : Option Nat := if 0 ≤ i then (if i < n then some i.toNat else none) else if -(n : Int) ≤ i then some (i + n).toNat else none
noncomputable def atI {α : Type} (xs : List α) (i : Int) : Option α := (ixN xs.length i).bind fun j => xs[j]?
theorem ixN_seq {n : Nat} {i : Int} {j : Nat} (h : ixN n i = some j) : seqIndex? i n = some j ∧ j < n ∧ -(n : Int) ≤ i ∧ i < n := by
  unfold ixN at h
  by_cases h0 : 0 ≤ i
  · rw [if_pos h0] at h
    by_cases h1 : i < n
    · rw [if_pos h1] at h
      have e : i.toNat = j := Option.some.inj h
      exact ⟨by rw [seqIndex_of h0 h1, e], by (clear h; omega), by (clear h h1 e; omega), h1⟩
    · rw [if_neg h1] at h; cases h
  · rw [if_neg h0] at h
    by_cases h1 : -(n : Int) ≤ i
    · rw [if_pos h1] at h
      have e : (i + n).toNat = j := Option.some.inj h
      exact ⟨by rw [seqIndex_neg (by (clear h h1 e; omega)) h1, e], by (clear h; omega), h1, by (clear h e; omega)⟩
    · rw [if_neg h1] at h; cases h
theorem atI_get {α : Type} {xs : List α} {i : Int} {v : α} (h : atI xs i = some v) : ∃ j, seqIndex? i xs.length = some j ∧ xs[j]? = some v ∧ j < xs.length ∧ -(xs.length : Int) ≤ i ∧ i < xs.length := by
  unfold atI at h
  cases e : ixN xs.length i with
  | none => rw [e] at h; cases h
  | some j =>
    rw [e] at h
    obtain ⟨h1, h2, h3, h4⟩ := ixN_seq e
    exact ⟨j, h1, h, h2, h3, h4⟩
theorem atI_nat {α : Type} {xs : List α} {j : Nat} {v : α} (h : xs[j]? = some v) : atI xs (j : Int) = some v := by
  have hj : j < xs.length := (List.getElem?_eq_some_iff.mp h).1
  have e : ixN xs.length (j : Int) = some j := by
    unfold ixN
    rw [if_pos (by (clear h hj; omega)), if_pos (by (clear h; omega))]; simp
  unfold atI; rw [e]; exact h
noncomputable def PlainIx (b : Expr) : Prop := ∀ o i, subscripted b false o i = operate [o, i] (getItem o i)
noncomputable def IxR (X : Cx) (r : R2) : Prop :=
  ∀ (value slice : Expr) (pins : List (Addr × Obj)) (s : Shared) (σ : St) (H : Hp) (x y : V) (v u : Value) (Q : VK), Inv X pins σ H s → RelV x v → RelV y u → r x y H Q →
    subscripted slice false v u = operate [v, u] (getItem v u) → wpAny (model X.prog X.w) X.A (subscriptTail value slice v u) (EP X pins σ Q) X.xe s
noncomputable def MtR (X : Cx) (id : String) (r : V → List V → Hp → VK → Prop) : Prop :=
  ∀ (pins : List (Addr × Obj)) (s : Shared) (σ : St) (H : Hp) (x : V) (xs : List V) (v : Value) (us : List Value) (Q : VK), Inv X pins σ H s → RelV x v → Vals xs us → r x xs H Q →
    wpAny (model X.prog X.w) X.A (call (.builtin id) (v :: us)) (EP X pins σ Q) X.xe s
section
variable {X : Cx} {a b : Expr} {ta tb : TE} {pos : Pos}
theorem pe_ix {r : R2} (hr : IxR X r) (ha : PE X a ta) (hb : PE X b tb) (hs : PlainIx b) : PE X (.Subscript a b pos) (tOp r ta tb) := by
  intro pins s σ H Q I h
  exact Subscript_ (binT ha hb I h fun v u s2 x y H2 I2 rx ry q => hr a b pins s2 σ H2 x y v u Q I2 rx ry q (hs _ _))
noncomputable def rIxL (K : PySem.W.Frag) : R2 := fun x y H Q => ∃ p xs i v, x = .ref p ∧ y = .int i ∧ SqL K H p xs ∧ atI xs i = some v ∧ Q v H
noncomputable def rIxT (K : PySem.W.Frag) : R2 := fun x y H Q => ∃ p xs i v, x = .ref p ∧ y = .int i ∧ SqT K H p xs ∧ atI xs i = some v ∧ Q v H
noncomputable def rIxS : R2 := fun x y H Q => ∃ z i c, x = .str z ∧ y = .int i ∧ z.length ≤ sizeLine ∧ atI z.cps.toList i = some c ∧ Q (.str ⟨#[c]⟩) H
theorem ix_list : IxR X (rIxL X.K) := by
  intro value slice pins s σ H x y v u Q I rx ry h hs
  obtain ⟨p, xs, i, z, rfl, rfl, hq, he, q⟩ := h
  cases rx
  obtain ⟨t, rfl⟩ := ry
  obtain ⟨its, r, pl, hz⟩ := I.list hq
  obtain ⟨j, h1, h2, h3, h4, h5⟩ := atI_get he
  obtain ⟨w, ew, rw'⟩ := r.get h2
  have hl := r.length
  have hn := line63
  have fin : EP X pins σ Q w s := ⟨z, H, I, rw', q⟩
  by_cases h0 : 0 ≤ i
  · have hj : i.toNat = j := by
      rw [seqIndex_of h0 h5] at h1
      exact Option.some.inj h1
    exact item_listR pl.isList h0 (by (clear I hq he q hs r pl h1 h2 h3 h4 ew rw' fin h0 hj; omega)) (by rw [hj]; simpa using ew) fin hs
  · have hj : (i + (its.toArray.size : Int)).toNat = j := by
      rw [seqIndex_neg (by (clear I hq he q hs r pl hz h1 h2 h3 h4 h5 ew rw' hl hn fin; omega)) h4] at h1
      rw [List.size_toArray, ← hl]
      exact Option.some.inj h1
    exact subscriptTail_builtinR (x := w) pl.isList.typeIs slot_list_getitem.lookup
      (wpAny_getItem_list_neg (Q := fun r s' => r = w ∧ EP X pins σ Q r s') pl.isList (by (clear I hq he q hs r pl hz h1 h2 h3 h4 h5 ew rw' hl hn fin hj; omega)) (by rw [List.size_toArray] <;> (clear I hq he q hs r pl hz h1 h2 h3 h5 ew rw' hn fin h0 hj; omega)) (by (clear I hq he q hs r pl h1 h2 h3 h5 ew rw' fin h0 hj; omega)) (by rw [hj]; simpa using ew) ⟨rfl, fin⟩) hs
theorem ix_tup : IxR X (rIxT X.K) := by
  intro value slice pins s σ H x y v u Q I rx ry h hs
  obtain ⟨p, xs, i, z, rfl, rfl, hq, he, q⟩ := h
  cases rx
  obtain ⟨t, rfl⟩ := ry
  obtain ⟨its, r, pl, hz⟩ := I.tuple hq
  obtain ⟨j, h1, h2, h3, h4, h5⟩ := atI_get he
  obtain ⟨w, ew, rw'⟩ := r.get h2
  have hl := r.length
  have hn := line63
  have fin : EP X pins σ Q w s := ⟨z, H, I, rw', q⟩
  exact subscriptTail_builtinR (x := w) pl.typeIs slot_tuple_getitem.lookup
    (getItem_tuple (j := j) (Q := fun r s' => r = w ∧ EP X pins σ Q r s') pl (by (clear I hq he q hs r pl h1 h2 h5 ew rw' fin; omega)) (by (clear I hq he q hs r pl h1 h2 h4 ew rw' fin; omega)) (by rw [List.size_toArray, ← hl]; exact h1) (by simpa using ew) ⟨rfl, fin⟩) hs
theorem ix_str : IxR X rIxS := by
  intro value slice pins s σ H x y v u Q I rx ry h hs
  obtain ⟨z, i, c, rfl, rfl, hz, he, q⟩ := h
  obtain ⟨t, rfl⟩ := rx
  obtain ⟨t', rfl⟩ := ry
  obtain ⟨j, h1, h2, h3, h4, h5⟩ := atI_get he
  have hl : z.cps.toList.length = z.length := by simp [Str.length]
  rw [hl] at h1 h4 h5
  have hn := line63
  exact tail_any (typeIs_str s z t) slot_str_getitem.lookup (getItem_str (c := c) (by
    have e1 : decide (i < -(2 ^ 63 : Int)) = false := decide_eq_false (by (clear I he q hs h1 h2 h3 h5; omega))
    have e2 : decide (i ≥ 2 ^ 63) = false := decide_eq_false (by (clear I he q hs h1 h2 h3 h4 e1; omega))
    rw [e1, e2, Bool.or_false]) (by rw [h1]; simpa using h2) ⟨.str ⟨#[c]⟩, H, I.tok _, ⟨_, rfl⟩, q⟩) hs
theorem slice_bounds (lo hi : Option Int) (n : Nat) : (sliceBounds lo hi none n).1 = ((HT.sIx n 0 lo : Nat) : Int) ∧ (sliceBounds lo hi none n).2.1 = ((HT.sIx n n hi : Nat) : Int) ∧ (sliceBounds lo hi none n).2.2 = 1 := by
  refine ⟨?_, ?_, rfl⟩
  · cases lo with
    | none => simp [sliceBounds, HT.sIx]
    | some i =>
      simp only [sliceBounds, HT.sIx, Option.getD_none, show (1 : Int) > 0 by decide, if_true]
      by_cases h : i < 0
      · simp only [h, if_true] <;> omega
      · simp only [h, if_false] <;> omega
  · cases hi with
    | none => simp [sliceBounds, HT.sIx]
    | some i =>
      simp only [sliceBounds, HT.sIx, Option.getD_none, show (1 : Int) > 0 by decide, if_true]
      by_cases h : i < 0
      · simp only [h, if_true] <;> omega
      · simp only [h, if_false] <;> omega
theorem slicePick_cut (its : List Value) (lo hi : Option Int) : slicePick its.toArray lo hi none = ((its.drop (HT.sIx its.length 0 lo)).take (HT.sIx its.length its.length hi - HT.sIx its.length 0 lo)).toArray := by
  obtain ⟨h1, h2, h3⟩ := slice_bounds lo hi its.toArray.size
  unfold slicePick
  rw [h1, h2, h3]
  simp only [sliceRange_one, pick_run, List.size_toArray] <;> rfl
noncomputable def rSlL (K : PySem.W.Frag) : V → Option Int → Option Int → Hp → VK → Prop := fun x lo hi H Q => ∃ a xs, x = .ref a ∧ SqL K H a xs ∧ ∀ p, H p = none → Q (.ref p) (upd H p (.lst (cutV xs lo hi)))
theorem sl_list : SlR X (rSlL X.K) := by
  intro pins s σ H x v vl vu lo hi sl Q I rx hs pl pu h
  obtain ⟨a, xs, rfl, hx, q⟩ := h
  cases rx
  obtain ⟨its, r, ht, hz⟩ := I.list hx
  have hlen := r.length
  refine ⟨"list", _, slot_list_getitem.lookup, ht.isList.typeIs, ?_⟩
  refine wpAny_getItem_list_slice ht.isList hs pl pu .none (by simp) ?_ (by rw [List.size_toArray] <;> (clear I hs pl pu hx q r ht; omega))
  rw [slicePick_cut, ← hlen]
  refine ⟨.ref s.heap.objs.size, _, I.laid (t' := s.toks) (o := .lst (cutV xs lo hi)) (fun b ob q => Heap.get?_push_of_some _ q) (Nat.le_refl _) ?_, rfl, q _ (I.hok.fresh (Nat.le_refl _))⟩
  exact ⟨Nat.le_trans (cutV_length xs lo hi) hz, _, 0, (r.drop (HT.sIx xs.length 0 lo)).take (HT.sIx xs.length xs.length hi - HT.sIx xs.length 0 lo), Heap.get?_push_size _ rfl⟩
theorem call_len_seq : CallR X (.builtin "len") (fun xs H Q => ∃ p ys, xs = [.ref p] ∧ (SqL X.K H p ys ∨ SqT X.K H p ys) ∧ Q (.int ys.length) H) := by
  intro pins s σ H xs us Q I r h
  obtain ⟨p, ys, rfl, hq, q⟩ := h
  obtain ⟨u, rfl, rx⟩ := vals1 r
  cases rx
  have hn := line63
  rcases hq with hq | hq
  · obtain ⟨its, r', pl, hz⟩ := I.list hq
    have hlen := r'.length
    exact Calls.call_len_list pl.isList (by simp only [List.size_toArray] <;> (clear I q r hq r' pl; omega)) ⟨.int ys.length, H, I.tok _, ⟨s.toks + 1, by rw [List.size_toArray, hlen]⟩, q⟩
  · obtain ⟨its, r', pl, hz⟩ := I.tuple hq
    have hlen := r'.length
    exact len_tuple pl (by simp only [List.size_toArray] <;> (clear I q r hq r' pl; omega)) ⟨.int ys.length, H, I.tok _, ⟨s.toks + 1, by rw [List.size_toArray, hlen]⟩, q⟩
theorem call_tuple_of : CallR X (.type "tuple") (fun xs H Q => ∃ p ys, xs = [.ref p] ∧ ((SqL X.K H p ys ∧ ∀ l, H l = none → Q (.ref l) (upd H l (.tup ys))) ∨ (SqT X.K H p ys ∧ Q (.ref p) H))) := by
  intro pins s σ H xs us Q I r h
  obtain ⟨p, ys, rfl, h⟩ := h
  obtain ⟨u, rfl, rx⟩ := vals1 r
  cases rx
  rcases h with ⟨hq, q⟩ | ⟨hq, q⟩
  · obtain ⟨its, r', pl, hz⟩ := I.list hq
    have hlen := r'.length
    refine call_tuple_list pl.isList (fun h' kp => ?_) (by simp only [List.size_toArray] <;> (clear I r hq q r' pl; omega))
    have I1 : Inv X pins σ H { s with heap := h' } := I.kept (t' := s.toks) kp
    have I2 : Inv X pins σ (upd H h'.objs.size (.tup ys)) { s with heap := h'.push { cls := .type "tuple", data := .seq its.toArray } } :=
      I1.laid (t' := s.toks) (fun b o e => Heap.get?_push_of_some _ e) (Nat.le_refl _) (show ObjOk X.prog X.w _ _ _ (.tup ys) from ⟨hz, its, r', IsTup.new _ _⟩)
    exact ⟨.ref h'.objs.size, _, I2, rfl, q _ (I1.hok.fresh (Nat.le_refl _))⟩
  · obtain ⟨its, r', pl, hz⟩ := I.tuple hq
    exact call_tuple_same pl ⟨.ref p, H, I, rfl, q⟩
noncomputable def tyV (K : PySem.W.Frag) (T : String) (x : V) (H : Hp) : Prop := match x with
  | .str _ => T = "str"
  | .int _ => T = "int"
  | .ref p => (T = "list" ∧ ∃ xs, SqL K H p xs) ∨ (T = "tuple" ∧ ∃ o, K.lookup p = some o ∧ o.cls = .type "tuple" ∧ o.dict = none) ∨
      (T = "dict" ∧ ((∃ kvs, H p = some (.dK kvs)) ∨ ∃ kvs, H p = some (.dT kvs))) ∨ (T = "set" ∧ ∃ S n, H p = some (.set S n))
  | _ => False
theorem tyV_is {pins : List (Addr × Obj)} {σ : St} {H : Hp} {s : Shared} {T : String} {x : V} {v : Value} (I : Inv X pins σ H s) (r : RelV x v) (ty : tyV X.K T x H) :
    s.TypeIs v T ∧ ∀ a, v = .ref a → ∃ ob, s.heap.get? a = some ob ∧ ob.dict = none := by
  cases x with
  | str z =>
    obtain ⟨t, rfl⟩ := r
    cases (show T = "str" from ty)
    exact ⟨typeIs_str s z t, fun _ e => nomatch e⟩
  | int i =>
    obtain ⟨t, rfl⟩ := r
    cases (show T = "int" from ty)
    exact ⟨typeIs_int s i t, fun _ e => nomatch e⟩
  | ref p =>
    cases r
    rcases ty with ⟨rfl, xs, hq⟩ | ⟨rfl, o, hk, hc, hd⟩ | ⟨rfl, hk⟩ | ⟨rfl, S, n, hk⟩
    · obtain ⟨its, _, pl, _⟩ := I.list hq
      refine ⟨pl.isList.typeIs, fun a e => ?_⟩
      cases e
      obtain ⟨o, n, e, c, hd, _⟩ := pl
      exact ⟨o, e, hd⟩
    · refine ⟨⟨o, I.kIn p o hk, hc⟩, fun a e => ?_⟩
      cases e
      exact ⟨o, I.kIn _ o hk, hd⟩
    · have z : ∃ o, s.heap.get? p = some o ∧ o.ExactDict := by
        rcases hk with ⟨kvs, hk⟩ | ⟨kvs, hk⟩
        · obtain ⟨_, _, _, _, o, _, _, e, ex, _⟩ := I.hok p _ hk
          exact ⟨o, e, ex⟩
        · obtain ⟨_, _, _, _, o, _, _, e, ex, _⟩ := I.hok p _ hk
          exact ⟨o, e, ex⟩
      obtain ⟨o, e, ex⟩ := z
      refine ⟨⟨o, e, ex.1⟩, fun a e2 => ?_⟩
      cases e2
      exact ⟨o, e, ex.2.1⟩
    · obtain ⟨o, _, _, _, e, ex, _⟩ := I.hok p _ hk
      refine ⟨⟨o, e, ex.1⟩, fun a e2 => ?_⟩
      cases e2
      exact ⟨o, e, ex.2.1⟩
  | _ => exact False.elim ty
noncomputable def tBM (K : PySem.W.Frag) (T : String) (r : V → List V → Hp → VK → Prop) (to : TE) (t : TA) : TE := fun σ H Q => to σ H fun x H1 => tyV K T x H1 ∧ t σ H1 fun xs H2 => r x xs H2 Q
variable {o e : Expr} {es : List Expr} {to : TE} {t : TA} {name : Str} {apos cpos : Pos} {T id : String} {r : V → List V → Hp → VK → Prop}
theorem pe_bm (pa : PlainAttrs T) (slot : Slot T name id) (hty : typeOf (.builtin id) = pure (.type "method_descriptor")) (hm : MtR X id r) (ho : PE X o to) (ha : PA X (e :: es) t)
    (hbase : attributeBase o name X.env (eval o X.env) = eval o X.env := by rfl)
    (hfew : ((backTo cpos (starEach (e :: es) X.env)).all (fun x => !x.1) && (backToKw cpos (keywordEach [] X.env)).all (fun x => x.1.isSome)
      && decide ((e :: es).length + ([] : List Keyword).length + (if ([] : List Keyword).isEmpty then 0 else 1) < 30)) = true := by rfl)
    (hline : (apos.endLine == cpos.line) = true := by rfl) (hs : starEach (e :: es) X.env = (false, eval e X.env) :: starEach es X.env := by rfl) (hplain : (backTo cpos (starEach es X.env)).any (·.1) = false := by rfl) :
    PE X (.Call (.Attribute o name apos) (e :: es) [] cpos) (tBM X.K T r to t) := by
  intro pins s σ H Q I h
  refine wpAny_Call_method_late hbase hfew hline rfl (thn (ho pins s σ H _ I h) fun v s1 ⟨x, H1, I1, r1, ty, q1⟩ => ?_)
  obtain ⟨h1, h2⟩ := tyV_is I1 r1 ty
  refine ⟨T, id, pa, slot, hty, h1, h2, ?_⟩
  have hA := ha cpos pins s1 σ H1 _ I1 q1
  rw [hs] at hA ⊢
  refine Calls.callWith_builtin (by show (false || (backTo cpos (starEach es X.env)).any (·.1)) = false; rw [hplain] <;> rfl) (Calls.evalArgs_plain ?_)
  exact thn hA fun us s2 ⟨vs, H2, I2, r2, q2⟩ => hm pins s2 σ H2 x vs v us Q I2 r1 r2 q2
end
end L2
namespace L2
open PySem PySem.Spec PyProof.Rows
noncomputable def MtM (X : Cx) (id : String) (r : V → List V → Hp → VK → Prop) : Prop :=
  ∀ (pins : List (Addr × Obj)) (s : Shared) (σ : St) (H : Hp) (x : V) (xs : List V) (v : Value) (us : List Value) (Q : VK), Inv X pins σ H s → RelV x v → Vals xs us → r x xs H Q →
    wpAny (model X.prog X.w) X.A (call (.builtin id) (v :: us)) (EP X pins σ Q) X.xe s
theorem Vals.one : ∀ {x : V} {us : List Value}, Vals [x] us → ∃ u, us = [u] ∧ RelV x u
  | _, _, .cons r .nil => ⟨_, rfl, r⟩
section
variable {X : Cx} {pins : List (Addr × Obj)} {σ : St} {H : Hp} {s : Shared} {l b : Addr} {xs ys zs : List V}
theorem Inv.lset {its its' : List Value} {n : Nat} {f : Array Value → Array Value} {t' : Nat} (I : Inv X pins σ H s) (hH : H l = some (.lst xs))
    (e : s.heap.get? l = some { cls := .type "list", data := .seq its.toArray n }) (hf : f its.toArray = its'.toArray) (hv : Vals ys its') (hz : ys.length ≤ sizeLine) :
    Inv X pins σ (upd H l (.lst ys)) { s with heap := s.heap.update l (Obj.mapSeq f), toks := t' } := by
  have q := PySem.IsL.update e f
  rw [hf] at q
  refine I.write (x := l) (e := l) (by rw [hH]; exact trivial) (.inl rfl) (fun b' u hb hu => (Heap.get?_update_other s.heap (Obj.mapSeq f) (Ne.symm hb)).trans hu) ⟨_, q⟩ ?_
  exact ⟨hz, its', _, hv, q⟩
theorem Inv.lnew {its : List Value} {t' : Nat} (I : Inv X pins σ H s) (hv : Vals ys its) (hz : ys.length ≤ sizeLine) :
    Inv X pins σ (upd H s.heap.objs.size (.lst ys)) { s with heap := s.heap.push { cls := .type "list", data := .seq its.toArray }, toks := t' } :=
  I.laid (fun _ _ q => Heap.get?_push_of_some _ q) (Nat.le_refl _) ⟨hz, its, 0, hv, Heap.get?_push_size _ rfl⟩
theorem Inv.fresh (I : Inv X pins σ H s) : H s.heap.objs.size = none := I.hok.fresh (Nat.le_refl _)
theorem Inv.lstM (I : Inv X pins σ H s) (hH : H l = some (.lst xs)) : xs.length ≤ sizeLine ∧ ∃ (its : List Value) (n : Nat), Vals xs its ∧ xs.length = its.length ∧ s.heap.get? l = some { cls := .type "list", data := .seq its.toArray n } := by
  obtain ⟨z, its, n, r, e⟩ := I.hok l _ hH
  exact ⟨z, its, n, r, r.length, e⟩
end
section
variable {X : Cx}
noncomputable def rAppend : V → List V → Hp → VK → Prop := fun x vs H Q => ∃ l xs y, x = .ref l ∧ vs = [y] ∧ H l = some (.lst xs) ∧ xs.length < sizeLine ∧ Q .non (upd H l (.lst (xs ++ [y])))
theorem mt_append : MtM X "list.append" rAppend := by
  intro pins s σ H x vs v us Q I rx rv h
  obtain ⟨l, xs, y, rfl, rfl, hH, hz, q⟩ := h
  cases rx
  obtain ⟨u, rfl, ru⟩ := rv.one
  obtain ⟨z, its, n, r, hl, e⟩ := I.lstM hH
  refine call_meets F.slot_list_append ⟨_, e, rfl⟩ F.entry_list_append (F.args_list_append_2 _ _) (PySem.list_append l its.toArray n u (by rw [List.size_toArray]; (clear I hH q ru rv z r e; omega))) ⟨e, ?_⟩
  refine ⟨.non, _, I.lset (its' := its ++ [u]) hH e (by simp) (r.append (.cons ru .nil)) ?_, rfl, q⟩
  rw [List.length_append, List.length_singleton]
  assumption
noncomputable def rCat : R2 := fun x y H Q => ∃ l b xs zs, x = .ref l ∧ y = .ref b ∧ H l = some (.lst xs) ∧ H b = some (.lst zs) ∧ xs.length + zs.length ≤ sizeLine ∧ ∀ p, H p = none → Q (.ref p) (upd H p (.lst (xs ++ zs)))
theorem op_cat : OpR X (binaryOp .Add) rCat := by
  intro pins s σ H x y v u Q I rx ry h
  obtain ⟨l, b, xs, zs, rfl, rfl, hH, hB, hz, q⟩ := h
  cases rx
  cases ry
  obtain ⟨z, its, n, r, hl, e⟩ := I.lstM hH
  obtain ⟨z2, its2, n2, r2, hl2, e2⟩ := I.lstM hB
  refine PySem.P.add_list e e2 ?_ (by rw [List.size_toArray, List.size_toArray]; (clear I hH hB q z r e z2 r2 e2; omega))
  have ea : its.toArray ++ its2.toArray = (its ++ its2).toArray := by simp
  rw [ea]
  exact ⟨.ref _, _, I.lnew (t' := s.toks) (r.append r2) (by rw [List.length_append]; assumption), rfl, q _ I.fresh⟩
end
section
variable {prog : Program} {w : World} {A : Around} {E : Value → Shared → Prop} {s : Shared}
set_option maxRecDepth 100000 in
end
section
variable {X : Cx}
end
end L2
namespace Att
open PySem PySem.W PySem.Calls PyProof.Rows
theorem ints_of_wellAll {P : Params} {h : Heap} : ∀ (ns : List Int) (vs : List Value), WellAll P h vs (ns.map WData.int) → IntsAre vs ns := by
  intro ns
  induction ns with
  | nil =>
    intro vs w
    rw [List.map_nil] at w
    cases w
    exact .nil
  | cons n ns ih =>
    intro vs w
    rw [List.map_cons] at w
    cases w with
    | cons a b =>
      cases a
      exact .cons _ _ (ih _ b)
theorem script_of {l : OpenLaw} {n : Nat} (hn : l.most = some n) {P : Params} {h : Heap} {args : List WData} {vals : List Value}
    (hpre : l.row.toRowW.claim.pre args = true) (hwl : WellAll P h vals args) :
    ∃ a vs ns, vals = [Value.ref a] ∧ args = [WData.list (ns.map WData.int)] ∧ h.get? a = some { cls := .type "list", data := .seq vs.toArray } ∧ IntsAre vs ns ∧ ns.length ≤ n := by
  have hsh : WShape.hasAll [] args [.list .int] = true := (pre_splitW hpre).1
  have hc : l.pre.holds [] { args := args } = true := (pre_splitW hpre).2
  obtain ⟨d, r, rfl, h1, h2⟩ := hasAllW_cons hsh
  obtain rfl := hasAllW_nil h2
  obtain ⟨xs, rfl, h3⟩ := hasW_list h1
  obtain ⟨ns, rfl⟩ := items_int h3
  have hlen : ns.length ≤ n := by
    unfold OpenLaw.pre at hc
    have h4 : (WTm.not (.lt (.lit (.int (n : Int))) (.len (.arg 0)))).holds [] { args := [.list (ns.map .int)] } = true := by
      have h4 := (holds_andW hc).1
      rw [hn] at h4
      exact h4
    have h5 := condW_of h4 (w_not (w_lt w_lit (w_len_list (w_arg rfl))))
    rw [List.length_map] at h5
    refine Nat.le_of_not_lt fun q => ?_
    have q' : (n : Int) < ((ns.length : Nat) : Int) := by (clear hn h2 h3 h1 hpre hwl hsh hc h4 h5; omega)
    first
      | (rw [decide_eq_true q'] at h5; exact absurd h5 (by decide))
      | (simp at h5; omega)
  cases hwl with
  | cons w1 w2 =>
    cases w2
    cases w1 with
    | list ho hall => exact ⟨_, _, ns, rfl, rfl, ho, ints_of_wellAll ns _ hall, hlen⟩
theorem post_true (l : OpenLaw) (args : List WData) : l.row.toRowW.claim.post args (.bool true) args = true :=
  postW_of (r := l.row.toRowW) (X := (true == true))
    (show WShape.has [] (.bool true) .bool = true by first | rfl | decide | simp [WShape.has, WShape.arms, WShape.armsAll])
    (show (WTm.eq .res (.lit (.bool true))).value [] { args := args, res := some (.bool true), after := args } = some (.bool (true == true)) from w_eq_bool (w_res rfl) w_lit) rfl
theorem attach_call {l : OpenLaw} {n : Nat} {q : Program} {loose : List Str} {XP : (Str → Option Value) → Heap → Prop} {YP : World → Heap → Prop} {d : DefRec}
    (hn : l.most = some n) (hdf : d.params.defaults = [])
    (call : ∀ (w : World) (s₀ s₁ : Shared) (mg mb : Str → Option Value) (fa : Addr) (o : Obj) (pm cd doc : Value) (a : Addr) (vs : List Value) (ns : List Int),
      Ground q loose [] XP w s₀ mg mb s₁.heap → YP w s₁.heap →
      s₁.heap.get? fa = some o → o.data = .func (docDef d.name d.params d.body d.scope pm cd doc) → s₁.heap.CodeRec cd d.name → mg d.name = some (.ref fa) →
      s₁.heap.get? a = some { cls := .type "list", data := .seq vs.toArray } → IntsAre vs ns → ns.length ≤ n → s₁.gens = #[] →
      codeAny (model l.prog w) callerA (.call (.ref fa) ⟨[.ref a], []⟩) (fun r s' => r = .ok (.ret (.bool true)) ∧ OldK s₁.heap s'.heap ∧ s'.os = s₁.os ∧ AllBare s'.gens) s₁) :
    WalkO q loose XP YP l.row.toRowW d [] (fun f vs => PySem.call f vs) := by
  intro w s₀ s₁ mg mb G Y fa o pm cd doc dV kV ho hd hcd hD hmg hg args vals as hpre hlay hrd hwl hlo
  obtain rfl : dV = .none := Dflts.none hD hdf
  obtain rfl : kV = .none := Dflts.noKw hD
  obtain ⟨a, vs, ns, rfl, rfl, hobj, hints, hlen⟩ := script_of hn hpre hwl
  refine enter_call (codeAny_mono (call w s₀ s₁ mg mb fa o pm cd doc a vs ns G Y ho (fd_plain hd) hcd hmg hobj hints hlen hg) fun r s' hq => ?_)
  obtain ⟨rfl, h2, h3, h4⟩ := hq
  exact ⟨.inl ⟨.bool true, .bool true, [], rfl, fun _ => rfl, .bool true, post_true l _, fun _ => ⟨List.Pairwise.nil, fun _ hm => (nomatch hm)⟩⟩, h2, h3, h4⟩
section
variable {prog : Program} {w : World} {A : Around} {E : Value → Shared → Prop} {s : Shared} {K : Frag}
end
end Att
namespace L2
open PySem PySem.Spec PyProof.Rows
theorem vals_ints : ∀ {vs : List Value} {ns : List Int}, IntsAre vs ns → Vals (ns.map V.int) vs
  | _, _, .nil => .nil
  | _, _, .cons n t h => .cons ⟨t, rfl⟩ (vals_ints h)
noncomputable def Only (H : Hp) : Prop := ∀ b, H b = none ∨ ∃ o xs, H b = some (.frz o (.lst xs))
theorem law_call {P : Program} {w : World} {K : PySem.W.Frag} {mg mb : Str → Option Value} {CX : CXT} {k : Nat} {fa a : Addr} {fd : FuncData} {x : Str} {sp : Sp} {s₁ : Shared} {vs : List Value} {ns : List Int}
    (KX : K.In s₁.heap) (hns : s₁.heap.Ns mainGlobals mg) (hb : s₁.heap.Ns builtinsNs mb) (hbb : ∀ x : Str, x ≠ "__name__" → mb x = bootBuiltins x) (hlim : s₁.heap.NoLimit) (hg : s₁.gens = #[])
    (ha : s₁.heap.get? a = some { cls := .type "list", data := .seq vs.toArray }) (hi : IntsAre vs ns) (hl : ns.length ≤ sizeLine) (hr : Room k callerA)
    (F : ∀ base : Heap, K.In base → base.Ns mainGlobals mg → FnOk P w K mg base CX k fa fd [x] sp) (hbind : ∀ (s : Shared) (u : Value), BindsTo s fd ⟨[u], []⟩ [(x, u)])
    (hsp : ∀ H : Hp, Only H → SqL K H a (ns.map V.int) → sp [.ref a] H (fun v _ => v = .bl true) fun _ _ _ => False)
    (hCX : ∀ H e s', CX [] H s₁ (fun _ _ _ => False) e s' → False) :
    codeAny (model P w) callerA (.call (.ref fa) ⟨[.ref a], []⟩) (fun r s' => r = .ok (.ret (.bool true)) ∧ OldK s₁.heap s'.heap ∧ s'.os = s₁.os ∧ AllBare s'.gens) s₁ := by
  have rv := vals_ints hi
  have lenV := hi.length
  -- from an abstract heap in which nothing but the script may be tracked
  have core : ∀ H : Hp, Only H → SqL K H a (ns.map V.int) → HOk P w H s₁.heap → (∀ b, H b ≠ none → b = a) → (H a ≠ none → K.lookup a = none) →
      codeAny (model P w) callerA (.call (.ref fa) ⟨[.ref a], []⟩) (fun r s' => r = .ok (.ret (.bool true)) ∧ OldK s₁.heap s'.heap ∧ s'.os = s₁.os ∧ AllBare s'.gens) s₁ := by
    intro H hO hS hok hA hK
    have base_of : ∀ {b : Addr} {o : Obj}, s₁.heap.get? b = some o → H b = none → (hidT s₁.heap H).get? b = some o := fun e n => hidT_get e n
    have noA : ∀ {b : Addr} {o : Obj} {es : Array DictEntry} {ep : Nat}, s₁.heap.get? b = some o → o.data = .dict es ep → H b = none := fun {b o es ep} e d => by
      cases q : H b with
      | none => rfl
      | some u =>
        have e' : b = a := hA b (by rw [q]; simp)
        subst e'
        rw [ha] at e; cases e
        have d' : Data.seq vs.toArray _ = Data.dict es ep := d
        cases d'
    have nsK : ∀ {b : Addr} {m : Str → Option Value}, s₁.heap.Ns b m → (hidT s₁.heap H).Ns b m := fun {b m} ⟨o, es, ep, e, d, r⟩ => ⟨o, es, ep, base_of e (noA e d), d, r⟩
    have hKb : K.In (hidT s₁.heap H) := fun b o e => base_of (KX b o e) (by
      cases q : H b with
      | none => rfl
      | some u =>
        have e' : b = a := hA b (by rw [q]; simp)
        subst e'
        rw [hK (by rw [q]; simp)] at e; cases e)
    have hM : Mod K mg (hidT s₁.heap H) := ⟨hKb, nsK hns, ⟨mb, nsK hb, hbb⟩, let ⟨mc, h1, h2⟩ := hlim; ⟨mc, nsK h1, h2⟩⟩
    have e0 : Env0 P w K mg (hidT s₁.heap H) callerA [] s₁ H := ⟨rfl, hM, fun b o e => of_hidT e, Nat.le_of_eq (hidT_size _ _), trivial, fun b hb => absurd (show b ∈ ([] : List Addr) from hb) (by simp), hok, .of_eq hg⟩
    refine codeAny_mono ((F _ hKb (nsK hns)).run callerA [] s₁ H ⟨[.ref a], []⟩ [.ref a] [.ref a] _ _ hr e0 (hbind s₁ (.ref a)) (.cons rfl .nil) (hsp H hO hS)) fun r s' h => ?_
    cases r with
    | error e => exact (hCX H e s' h).elim
    | ok fl =>
      cases fl with
      | next => exact False.elim h
      | brk => exact False.elim h
      | cont => exact False.elim h
      | ret u =>
        obtain ⟨v, H', os, bare, un, hok', r', q⟩ := h
        have q' : v = .bl true := q
        subst q'
        obtain rfl : u = Value.bool true := r'
        refine ⟨rfl, OldK.of_keep fun b o e => ?_, os, bare⟩
        cases q : H b with
        | none => exact un.keep b o e q (by intro z; exact absurd (show b ∈ ([] : List Addr) from z) (by simp)) (by simp)
        | some u =>
          rcases hO b with z | ⟨ob, xs, z⟩
          · rw [q] at z; cases z
          · have z2 := un.frzs b ob _ z
            obtain ⟨e1, _⟩ := hok b _ z
            obtain ⟨e2, _⟩ := hok' b _ z2
            rw [e] at e1; cases e1
            exact e2
  cases hk : K.lookup a with
  | some o =>
    -- the script is one of the module's own objects
    have e := KX a o hk
    rw [ha] at e
    cases e
    refine core (fun _ => none) (fun _ => .inl rfl) (.inr ⟨_, vs.toArray, _, hk, rfl, rfl, rfl, by rw [List.size_toArray, lenV]; exact hl, by simpa using rv⟩) (fun b u z => by have z' : (none : Option HO) = some u := z; cases z') (fun b z => absurd rfl z) fun z => absurd rfl z
  | none =>
    refine core (fun b => if b = a then some (.frz { cls := .type "list", data := .seq vs.toArray } (.lst (ns.map V.int))) else none) (fun b => ?_) (.inl (.inr ⟨{ cls := .type "list", data := .seq vs.toArray }, if_pos rfl⟩)) (fun b u z => ?_) (fun b z => ?_) fun _ => hk
    · by_cases hb : b = a
      · exact .inr ⟨_, _, if_pos hb⟩
      · exact .inl (if_neg hb)
    · by_cases hb : b = a
      · have z' := (if_pos hb).symm.trans z
        cases z'
        subst hb
        exact ⟨ha, by rw [List.length_map]; exact hl, vs, _, rv, ha⟩
      · have z' := (if_neg hb).symm.trans z
        cases z'
    · by_cases hb : b = a
      · exact hb
      · exact absurd (if_neg hb) z
end L2
namespace L2
open PySem PySem.Spec PyProof.Rows
theorem walk_of {l : PySem.W.OpenLaw} {n k : Nat} {q : Program} {loose : List Str} {XP : (Str → Option Value) → Heap → Prop} {YP : World → Heap → Prop} {d : DefRec} {K : Params → PySem.W.Frag} {CX : World → CXT} {sp : World → Sp} {x : Str}
    (hn : l.most = some n) (hn2 : n ≤ sizeLine) (hdf : d.params.defaults = []) (hr : Room k callerA)
    (hY : ∀ (w : World) (h : Heap), YP w h → (K w.params).In h)
    (F : ∀ (w : World) (mg : Str → Option Value) (fa : Addr) (h : Heap), (K w.params).In h → h.Ns mainGlobals mg → mg d.name = some (.ref fa) →
      ∃ fd : FuncData, (∀ (s : Shared) (u : Value), BindsTo s fd ⟨[u], []⟩ [(x, u)]) ∧
        ∀ base : Heap, (K w.params).In base → base.Ns mainGlobals mg → FnOk l.prog w (K w.params) mg base (CX w) k fa fd [x] (sp w))
    (hsp : ∀ (w : World) (H : Hp) (a : Addr) (ns : List Int), ns.length ≤ n → Only H → SqL (K w.params) H a (ns.map V.int) → sp w [.ref a] H (fun v _ => v = .bl true) fun _ _ _ => False)
    (hCX : ∀ (w : World) (H : Hp) (s : Shared) (e : Value) (s' : Shared), CX w [] H s (fun _ _ _ => False) e s' → False) :
    PySem.W.WalkO q loose XP YP l.row.toRowW d [] (fun f vs => PySem.call f vs) := by
  refine Att.attach_call hn hdf fun w s₀ s₁ mg mb fa o pm cd doc a vs ns G Y ho hd hcd hmg hobj hints hlen hg => ?_
  have KX := hY w _ Y
  obtain ⟨fd, hb, hF⟩ := F w mg fa _ KX G.T.g hmg
  exact law_call KX G.T.g G.T.b G.T.builtins G.T.nolimit hg hobj hints (Nat.le_trans hlen hn2) hr hF hb (fun H hO hS => hsp w H a ns hlen hO hS) fun H e s' => hCX w H s₁ e s'
end L2
namespace L2
open PySem PySem.Spec PyProof.Rows
noncomputable def defArgs (s : Stmt) : Arguments := match s with
  | .FunctionDef _ a _ _ _ _ _ _ _ _ => a
  | _ => { posonlyargs := [], args := [], vararg := none, kwonlyargs := [], kw_defaults := [], kwarg := none, defaults := [] }
noncomputable def defBody (s : Stmt) : List Stmt := match s with
  | .FunctionDef _ _ b _ _ _ _ _ _ _ => b
  | _ => []
noncomputable def defScope (s : Stmt) : Scope := match s with
  | .FunctionDef _ _ _ _ _ _ sc _ _ _ => sc
  | _ => { kind := .function, names := [], isGenerator := false, isCoroutine := false }
noncomputable abbrev CX0 : CXT := fun _ _ _ _ _ _ => False
noncomputable abbrev E0 : XK := fun _ _ _ => False
theorem pass0 {X : Cx} : Passes CX0 X E0 := fun _ _ _ _ _ _ _ h => h.elim
structure Fun (K : PySem.W.Frag) (x qual : Str) (st : Stmt) (f : Addr) (fd : FuncData) : Prop where
  ex : ∃ (oc : Value) (od : Option Addr) (kV doc pm : Value) (an : Option Addr) (cdv ct : Value) (osl : Array (Option Value)),
    fd = PySem.W.fnOf x qual (defArgs st) (defBody st) (defScope st) .none kV doc pm an cdv ct ∧ K.lookup f = some ⟨oc, od, .func fd, osl⟩ ∧ PySem.W.codeIn K cdv qual = true
  kp : PySem.W.keepIn K (.ref f) = true
section
variable {P : Program} {w : World} {K : PySem.W.Frag} {mg : Str → Option Value} {base : Heap}
theorem Fun.ok {x qual : Str} {st : Stmt} {f : Addr} {fd : FuncData} {N ps : List Str} {k : Nat} {sp : Sp} (F : Fun K x qual st f fd) (S : FnScope N ps (defScope st)) (len : ∀ vs H Q E, sp vs H Q E → vs.length = ps.length)
    (hbody : ∀ (cdv : Value) (A : Around) (outer : List Env) (s : Shared) (H : Hp) (vs : List V) (Q : VK) (E : XK), Room k (A.deeper (envOfC qual (defScope st) s.heap.objs.size f cdv)) → sp vs H Q E →
      ∃ t, PSs (cxOf CX0 P w K mg base N qual (defScope st) f cdv A outer s H E).nox (defBody st) t ∧ t { nx := fun _ H' => Q .non H', rt := Q } (start N vs) H) : FnOk P w K mg base CX0 (k + 1) f fd ps sp := by
  obtain ⟨oc, od, kV, doc, pm, an, cdv, ct, osl, rfl, lk, hcd⟩ := F.ex
  refine fn_of lk hcd S len fun A outer s H vs Q E hr hsp => ?_
  obtain ⟨t, h, q⟩ := hbody cdv A outer s H vs Q E hr hsp
  exact ⟨t, h.nox, q⟩
theorem Fun.binds {x qual : Str} {st : Stmt} {f : Addr} {fd : FuncData} {ps : List Str} (F : Fun K x qual st f fd)
    (h : ∀ (kV doc pm : Value) (an : Option Addr) (cdv ct : Value) (us : List Value), us.length = ps.length → bindArgs (PySem.W.fnOf x qual (defArgs st) (defBody st) (defScope st) .none kV doc pm an cdv ct) ⟨us, []⟩ = pure (ps.zip us)) : Binds K fd ps [] := by
  obtain ⟨oc, od, kV, doc, pm, an, cdv, ct, osl, rfl, lk, hcd⟩ := F.ex
  exact .all (h kV doc pm an cdv ct)
theorem fun_mk {x qual : Str} {st : Stmt} {f : Addr} {oc : Value} {od an : Option Addr} {osl : Array (Option Value)} {kV doc pm cdv ct : Value} (l : K.lookup f = some ⟨oc, od, .func (PySem.W.fnOf x qual (defArgs st) (defBody st) (defScope st) .none kV doc pm an cdv ct), osl⟩)
    (c : PySem.W.codeIn K cdv qual = true) (k : PySem.W.keepIn K (.ref f) = true) : Fun K x qual st f (PySem.W.fnOf x qual (defArgs st) (defBody st) (defScope st) .none kV doc pm an cdv ct) := ⟨⟨oc, od, kV, doc, pm, an, cdv, ct, osl, rfl, l, c⟩, k⟩
end
section
variable {X : Cx}
end
end L2
set_option maxRecDepth 100000
set_option linter.all false
namespace L2
open PySem PySem.Spec PyProof.Rows
section
variable {κ : Type} [DecidableEq κ]
noncomputable def valV (kvs : List (κ × V)) (k : κ) : Option V := (kvs.find? fun kv => decide (kv.1 = k)).map (·.2)
noncomputable def putK (kvs : List (κ × V)) (k : κ) (v : V) : List (κ × V) :=
  if (kvs.any fun kv => decide (kv.1 = k)) = true then kvs.map (fun kv => if kv.1 = k then (kv.1, v) else kv) else kvs ++ [(k, v)]
theorem valV_pos {p : κ × V} {r : List (κ × V)} {k : κ} (e : p.1 = k) : valV (p :: r) k = some p.2 := by simp [valV, List.find?_cons, e]
theorem valV_neg {p : κ × V} {r : List (κ × V)} {k : κ} (e : ¬ p.1 = k) : valV (p :: r) k = valV r k := by simp [valV, List.find?_cons, e]
theorem length_putK (kvs : List (κ × V)) (k : κ) (v : V) : (putK kvs k v).length ≤ kvs.length + 1 := by
  unfold putK
  split
  · rw [List.length_map]; omega
  · rw [List.length_append, List.length_cons, List.length_nil]; omega
theorem RelO.getD {o : Option V} {u : Option Value} {d : V} {d' : Value} (r : RelO o u) (rd : RelV d d') : RelV (o.getD d) (u.getD d') := by
  cases o with
  | none => cases u with
    | none => exact rd
    | some _ => exact (show False from r).elim
  | some _ => cases u with
    | none => exact (show False from r).elim
    | some _ => exact r
theorem KV.val {kvs : List (κ × V)} {vs : List (κ × Value)} (r : KV kvs vs) (k : κ) : RelO (valV kvs k) (valueAt vs k) := by
  unfold KV at r
  induction r with
  | nil => exact True.intro
  | @cons p q ps qs h t ih =>
    obtain ⟨h1, h2⟩ := h
    by_cases e : p.1 = k
    · have e' : q.1 = k := h1.symm.trans e
      have b : valueAt (q :: qs) k = some q.2 := by simp [valueAt, List.find?_cons, e']
      rw [valV_pos e, b]; exact h2
    · have e' : ¬ q.1 = k := fun z => e (h1.trans z)
      have b : valueAt (q :: qs) k = valueAt qs k := by simp [valueAt, List.find?_cons, e']
      rw [valV_neg e, b]; exact ih
theorem KV.any {kvs : List (κ × V)} {vs : List (κ × Value)} (r : KV kvs vs) (k : κ) : (kvs.any fun kv => decide (kv.1 = k)) = vs.any fun kv => decide (kv.1 = k) := by
  unfold KV at r
  induction r with
  | nil => rfl
  | cons h t ih => rw [List.any_cons, List.any_cons, ih, h.1]
theorem KV.repl {kvs : List (κ × V)} {vs : List (κ × Value)} (r : KV kvs vs) (k : κ) {y : V} {u : Value} (ry : RelV y u) :
    KV (kvs.map fun kv => if kv.1 = k then (kv.1, y) else kv) (vs.map fun kv => if kv.1 = k then (kv.1, u) else kv) := by
  unfold KV at r ⊢
  induction r with
  | nil => exact .nil
  | @cons p q ps qs h t ih =>
    rw [List.map_cons, List.map_cons]
    refine .cons ?_ ih
    obtain ⟨h1, h2⟩ := h
    by_cases e : p.1 = k
    · rw [if_pos e, if_pos (h1.symm.trans e)]; exact ⟨h1, ry⟩
    · rw [if_neg e, if_neg (fun z => e (h1.trans z))]; exact ⟨h1, h2⟩
theorem KV.put {kvs : List (κ × V)} {vs : List (κ × Value)} (r : KV kvs vs) (k : κ) {y : V} {u : Value} (ry : RelV y u) : KV (putK kvs k y) (stored vs k u) := by
  unfold putK stored
  rw [r.any k]
  by_cases e : (vs.any fun kv => decide (kv.1 = k)) = true
  · rw [if_pos e, if_pos e]; exact r.repl k ry
  · rw [if_neg e, if_neg e]; exact Paired.snoc r ⟨rfl, ry⟩
theorem KV.keys {kvs : List (κ × V)} {vs : List (κ × Value)} (r : KV kvs vs) : kvs.map (·.1) = vs.map (·.1) := by
  unfold KV at r
  induction r with
  | nil => rfl
  | cons h t ih => rw [List.map_cons, List.map_cons, ih, h.1]
theorem KV.length {kvs : List (κ × V)} {vs : List (κ × Value)} (r : KV kvs vs) : kvs.length = vs.length := Paired.length r
end
theorem kV_is {P : Program} {w : World} {k : Key} {u : Value} (r : RelV (kV k) u) : (mixKind P w).is k u = true := by
  cases k with
  | inl i => obtain ⟨t, e⟩ := (show ∃ t, u = Value.int i t from r); subst e; exact mixKind_int P w i t
  | inr x => obtain ⟨t, e⟩ := (show ∃ t, u = Value.str x t from r); subst e; exact mixKind_str P w x t
section
variable {P : Program} {w : World} {H : Hp} {h : Heap} {a : Addr}
theorem rd_of {u : HO} (ok : HOk P w H h) (e : Rd H a u) : ObjOk P w H h a u := e.ok ok
theorem dk_rd {kvs : List (Key × V)} (ok : HOk P w H h) (e : Rd H a (.dK kvs)) : kvs.length ≤ sizeLine ∧ (a == sysModules) = false ∧ ∃ vs, KV kvs vs ∧ h.DictOf (mixKind P w) a vs :=
  show ObjOk P w H h a (.dK kvs) from rd_of ok e
theorem dk_of {kvs : List (Key × V)} (ok : HOk P w H h) (e : H a = some (.dK kvs)) : kvs.length ≤ sizeLine ∧ (a == sysModules) = false ∧ ∃ vs, KV kvs vs ∧ h.DictOf (mixKind P w) a vs := dk_rd ok (.inl e)
end
section
variable {X : Cx} {pins : List (Addr × Obj)} {σ : St} {H : Hp} {s : Shared} {a : Addr} {y v : V} {u r : Value} {o : Option V} {A : Around} {E : Value → Shared → Prop}
theorem Inv.bigD (I : Inv X pins σ H s) : sysModules < s.heap.objs.size := by
  have h : mainGlobals < s.heap.objs.size := (I.mod.glob.keeps I.bk).lt
  exact Nat.lt_trans (by decide) h
theorem d_write {h' : Heap} {t' : Nat} {ob : HO} (I : Inv X pins σ H s) (mu : Mut (H a)) (hs : Heap.SameBut a s.heap h') (he : ∃ q, h'.get? a = some q) (new : ObjOk X.prog X.w (upd H a ob) h' a ob) :
    Inv X pins σ (upd H a ob) { s with heap := h', toks := t' } :=
  I.write (x := a) (e := a) mu (.inl rfl) (fun b q hb z => (hs.2 b hb).trans z) he new
theorem dk_new {P : Program} {w : World} {H' : Hp} {h' : Heap} {kvs : List (Key × V)} {vs : List (Key × Value)} (z : kvs.length ≤ sizeLine) (hd : (a == sysModules) = false) (rel : KV kvs vs) (dd : h'.DictOf (mixKind P w) a vs) :
    ObjOk P w H' h' a (.dK kvs) := ⟨z, hd, vs, rel, dd⟩
end
section
variable {X : Cx} {pins : List (Addr × Obj)} {σ : St} {H : Hp} {s : Shared} {a : Addr} {kvs : List (Key × V)} {k : Key} {u : Value} {A : Around} {E : Value → Shared → Prop}
end
section
variable {X : Cx} {o i e value : Expr} {pos pos' tpos : Pos} {td ty tv : TE}
end
theorem dk_emptyD {P : Program} {w : World} {H : Hp} (h : Heap) (hb : sysModules < h.objs.size) : ObjOk P w H (h.push { cls := .type "dict", data := .dict #[] }) h.objs.size (.dK []) :=
  ⟨Nat.zero_le _, beq_eq_false_iff_ne.mpr (Ne.symm (Nat.ne_of_lt hb)), [], .nil, Heap.DictOf.new h⟩
noncomputable def tDNewK : TE := fun _ H Q => ∀ p, H p = none → Q (.ref p) (upd H p (.dK []))
section
variable {X : Cx} {pos : Pos}
theorem pe_dnewK : PE X (.Dict [] [] pos) tDNewK := fun pins s σ H Q I h =>
  wpAny_Dict_empty ⟨.ref s.heap.objs.size, _, I.laid (a := s.heap.objs.size) (o := .dK []) (t' := s.toks) (fun _ _ q => Heap.get?_push_of_some _ q) (Nat.le_refl _) (dk_emptyD s.heap I.bigD), rfl, h _ (I.hok.fresh (Nat.le_refl _))⟩
end
structure M1 (X : Cx) (o : Expr) (m : Str) (apos : Pos) (e : Expr) (cpos : Pos) : Prop where
  base : attributeBase o m X.env (eval o X.env) = eval o X.env
  few : ((backTo cpos (starEach [e] X.env)).all (fun x => !x.1) && (backToKw cpos (keywordEach [] X.env)).all (fun x => x.1.isSome)
    && decide (([e] : List Expr).length + ([] : List Keyword).length + (if ([] : List Keyword).isEmpty then 0 else 1) < 30)) = true
  line : (apos.endLine == cpos.line) = true
  trees : backTo cpos (starEach [e] X.env) = [(false, eval e X.env)]
structure M2 (X : Cx) (o : Expr) (m : Str) (apos : Pos) (e f : Expr) (cpos : Pos) : Prop where
  base : attributeBase o m X.env (eval o X.env) = eval o X.env
  few : ((backTo cpos (starEach [e, f] X.env)).all (fun x => !x.1) && (backToKw cpos (keywordEach [] X.env)).all (fun x => x.1.isSome)
    && decide (([e, f] : List Expr).length + ([] : List Keyword).length + (if ([] : List Keyword).isEmpty then 0 else 1) < 30)) = true
  line : (apos.endLine == cpos.line) = true
  trees : backTo cpos (starEach [e, f] X.env) = [(false, eval e X.env), (false, eval f X.env)]
section
variable {X : Cx} {pins : List (Addr × Obj)} {σ : St} {H : Hp} {s : Shared} {a : Addr} {y d : V} {u r : Value} {o : Option V} {A : Around} {E : Value → Shared → Prop}
end
section
variable {X : Cx} {o e f : Expr} {apos cpos : Pos} {td ty tx : TE}
end
section
variable {X : Cx} {pins : List (Addr × Obj)} {σ : St} {H : Hp} {s : Shared} {a : Addr} {kvs : List (Key × V)} {A : Around} {E : Value → Shared → Prop}
end
section
variable {X : Cx} {pins : List (Addr × Obj)} {σ : St} {H : Hp} {s : Shared} {a : Addr} {y : V} {u : Value} {A : Around} {E : Value → Shared → Prop}
end
end L2
namespace L2
open PySem PySem.Spec PyProof.Rows
inductive W where
  | non | bl (b : Bool) | int (i : Int) | str (x : Str) | ref (a : Addr) | tup (xs : List W) | scr (ns : List Int)
inductive GO where
  | lst (ws : List W)
  | dct
  | exc (C : Addr)
  | dic (kvs : List (Key × W))
  | fdc (o : Obj) (us : List (Key × V)) (kvs : List (Key × W))
  | ins (C : Addr) (fs : List (Str × W))
  | tbl (ps : Array Value)
  | any (P : Hp → Addr → Prop)
noncomputable abbrev Gp := Addr → Option GO
noncomputable def updG (G : Gp) (a : Addr) (g : GO) : Gp := fun b => if b = a then some g else G b
theorem updG_same {G : Gp} {a : Addr} {g : GO} : updG G a g a = some g := by unfold updG; rw [if_pos rfl]
theorem updG_ne {G : Gp} {a b : Addr} {g : GO} (h : b ≠ a) : updG G a g b = G b := by unfold updG; rw [if_neg h]
noncomputable def Scr (K : PySem.W.Frag) (H : Hp) (a : Addr) (ns : List Int) : Prop :=
  (∃ o, H a = some (.frz o (.lst (ns.map V.int)))) ∨
    ∃ (o : Obj) (its : Array Value) (n : Nat), K.lookup a = some o ∧ o.cls = .type "list" ∧ o.dict = none ∧ o.data = .seq its n ∧ its.size ≤ sizeLine ∧ Vals (ns.map V.int) its.toList
theorem Scr.sq {K : PySem.W.Frag} {H : Hp} {a : Addr} {ns : List Int} (h : Scr K H a ns) : SqL K H a (ns.map V.int) := by
  rcases h with ⟨o, h⟩ | h
  · exact .inl (.inr ⟨o, h⟩)
  · exact .inr h
structure TLe (H H1 : Hp) : Prop where
  tup : ∀ a xs, H a = some (.tup xs) → H1 a = some (.tup xs)
  frz : ∀ a o xs, H a = some (.frz o (.lst xs)) → H1 a = some (.frz o (.lst xs))
theorem TLe.refl (H : Hp) : TLe H H := ⟨fun _ _ h => h, fun _ _ _ h => h⟩
theorem TLe.trans {H H1 H2 : Hp} (a : TLe H H1) (b : TLe H1 H2) : TLe H H2 :=
  ⟨fun x xs h => b.tup x xs (a.tup x xs h), fun x o u h => b.frz x o u (a.frz x o u h)⟩
theorem TLe.new {H : Hp} {p : Addr} (hp : H p = none) (o : HO) : TLe H (upd H p o) :=
  ⟨fun _ _ h => by rw [upd_ne (ne_of_none h hp)]; exact h, fun _ _ _ h => by rw [upd_ne (ne_of_none h hp)]; exact h⟩
theorem TLe.lst {H : Hp} {p : Addr} {xs : List V} (hp : H p = some (.lst xs)) (o : HO) : TLe H (upd H p o) :=
  ⟨fun _ _ h => by rw [upd_ne (ne_of h hp (by intro z; cases z))]; exact h, fun _ _ _ h => by rw [upd_ne (ne_of h hp (by intro z; cases z))]; exact h⟩
mutual
inductive Rep (K : PySem.W.Frag) (H : Hp) : W → V → Prop where
  | non : Rep K H .non .non
  | bl (b : Bool) : Rep K H (.bl b) (.bl b)
  | int (i : Int) : Rep K H (.int i) (.int i)
  | str (x : Str) : Rep K H (.str x) (.str x)
  | ref (a : Addr) : Rep K H (.ref a) (.ref a)
  | tup {a : Addr} {ws : List W} {xs : List V} (h : H a = some (.tup xs)) (r : Reps K H ws xs) : Rep K H (.tup ws) (.ref a)
  | scr {a : Addr} {ns : List Int} (h : Scr K H a ns) : Rep K H (.scr ns) (.ref a)
inductive Reps (K : PySem.W.Frag) (H : Hp) : List W → List V → Prop where
  | nil : Reps K H [] []
  | cons {w : W} {v : V} {ws : List W} {vs : List V} (r : Rep K H w v) (rs : Reps K H ws vs) : Reps K H (w :: ws) (v :: vs)
end
section
variable {K : PySem.W.Frag} {H H1 : Hp}
theorem Scr.mono {a : Addr} {ns : List Int} (t : TLe H H1) (h : Scr K H a ns) : Scr K H1 a ns := by
  rcases h with ⟨o, h⟩ | h
  · exact .inl ⟨o, t.frz _ _ _ h⟩
  · exact .inr h
mutual
theorem Rep.mono (t : TLe H H1) : ∀ {w : W} {v : V}, Rep K H w v → Rep K H1 w v
  | _, _, .non => .non
  | _, _, .bl b => .bl b
  | _, _, .int i => .int i
  | _, _, .str x => .str x
  | _, _, .ref a => .ref a
  | _, _, .tup h r => .tup (t.tup _ _ h) (Reps.mono t r)
  | _, _, .scr h => .scr (h.mono t)
theorem Reps.mono (t : TLe H H1) : ∀ {ws : List W} {vs : List V}, Reps K H ws vs → Reps K H1 ws vs
  | _, _, .nil => .nil
  | _, _, .cons r rs => .cons (Rep.mono t r) (Reps.mono t rs)
end
theorem Reps.length : ∀ {ws : List W} {vs : List V}, Reps K H ws vs → ws.length = vs.length
  | _, _, .nil => rfl
  | _, _, .cons _ rs => congrArg (· + 1) rs.length
theorem Reps.append : ∀ {ws us : List W} {vs xs : List V}, Reps K H ws vs → Reps K H us xs → Reps K H (ws ++ us) (vs ++ xs)
  | _, _, _, _, .nil, s => s
  | _, _, _, _, .cons r rs, s => .cons r (rs.append s)
theorem Reps.take : ∀ {ws : List W} {vs : List V} (n : Nat), Reps K H ws vs → Reps K H (ws.take n) (vs.take n)
  | _, _, 0, _ => .nil
  | _, _, _ + 1, .nil => .nil
  | _, _, n + 1, .cons r rs => .cons r (rs.take n)
theorem Reps.drop : ∀ {ws : List W} {vs : List V} (n : Nat), Reps K H ws vs → Reps K H (ws.drop n) (vs.drop n)
  | _, _, 0, r => r
  | _, _, _ + 1, .nil => .nil
  | _, _, n + 1, .cons _ rs => rs.drop n
theorem Reps.get : ∀ {ws : List W} {vs : List V} {i : Nat} {w : W}, Reps K H ws vs → ws[i]? = some w → ∃ v, vs[i]? = some v ∧ Rep K H w v
  | _, _, _, _, .nil, e => by simp at e
  | _, _, 0, _, .cons r _, e => by simp at e; subst e; exact ⟨_, rfl, r⟩
  | _, _, i + 1, w, .cons _ rs, e => by
    obtain ⟨v, h1, h2⟩ := Reps.get (i := i) (w := w) rs (by simpa using e)
    exact ⟨v, by simpa using h1, h2⟩
theorem Reps.ints : ∀ ns : List Int, Reps K H (ns.map W.int) (ns.map V.int)
  | [] => .nil
  | n :: ns => .cons (.int n) (Reps.ints ns)
end
noncomputable abbrev bmV : List Value := [.type "ValueError", .type "Exception", .type "BaseException", .type "object"]
structure XC (K : PySem.W.Frag) (C : Addr) (bm : List Value) : Prop where
  obj : ∀ h : Heap, K.In h → ∃ N nm qn bs hdct sn sub ab col dd k0 k1 k2 k3 k5 mN, h.get? C = some (excClassObj nm qn C N bs bm hdct sn sub ab col dd k0 k1 k2 k3 k5 "ValueError.__new__") ∧ h.Ns N mN ∧ mN "__init__" = none ∧ OwnTail h bmV bm
  mro : ∀ v, PySem.W.mroIn K C v = some ((Value.ref C :: bm).contains v)
structure XQ (K : PySem.W.Frag) (C : Addr) : Prop where
  ga : PySem.W.findIn K (.ref C) "__getattribute__" = some (some (.builtin "BaseException.__getattribute__"))
  gx : PySem.W.findIn K (.ref C) "__getattr__" = some none
  gc : PySem.W.findIn K (.ref C) "__class__" = some (some (.builtin "object.__class__"))
structure XD (K : PySem.W.Frag) (D : Addr) : Prop where
  cls : ∃ cd, PySem.W.clsIn K D = some cd
  ty : PySem.W.typeIn K (.ref D) = some (.type "type")
  ins : PySem.W.instIn K (.ref D) (.type "type") = some true
structure XO (K : PySem.W.Frag) (C : Addr) : Prop where
  c : ∃ bm, XC K C bm
  q : XQ K C
  d : XD K C
noncomputable def GOk (K : PySem.W.Frag) (H : Hp) (a : Addr) : GO → Prop
  | .lst ws => ws.length ≤ 100000 ∧ ∃ xs, H a = some (.lst xs) ∧ Reps K H ws xs
  | .dct => H a = some (.dK [])
  | .exc C => XO K C ∧ H a = some (.ext fun h => ∃ o, h.get? a = some o ∧ o.cls = .ref C)
  | .dic kvs => kvs.length ≤ 100000 ∧ ∃ kvs', H a = some (.dK kvs') ∧ kvs'.map (·.1) = kvs.map (·.1) ∧ Reps K H (kvs.map (·.2)) (kvs'.map (·.2))
  | .fdc o us kvs => kvs.length ≤ 100000 ∧ H a = some (.frz o (.dK us)) ∧ us.map (·.1) = kvs.map (·.1) ∧ Reps K H (kvs.map (·.2)) (us.map (·.2))
  | .ins C fs => fs.length ≤ 100 ∧ ∃ dx fs', H a = some (.ins C dx fs') ∧ fs'.map (·.1) = fs.map (·.1) ∧ Reps K H (fs.map (·.2)) (fs'.map (·.2))
  | .tbl ps => H a = some (.tbl ps)
  | .any P => P H a ∧ (∃ o, H a = some o) ∧ ∀ H1 H2 : Hp, TLe H1 H2 → H2 a = H1 a → P H1 a → P H2 a
noncomputable def RelG (K : PySem.W.Frag) (H : Hp) (G : Gp) : Prop := ∀ a g, G a = some g → GOk K H a g
section
variable {K : PySem.W.Frag} {H H1 : Hp} {G : Gp} {p a : Addr} {g : GO}
theorem GOk.has (h : GOk K H a g) : ∃ o, H a = some o := by
  cases g with
  | lst ws => obtain ⟨_, _, e, _⟩ := h; exact ⟨_, e⟩
  | dct => exact ⟨_, h⟩
  | exc C => exact ⟨_, h.2⟩
  | dic kvs => obtain ⟨_, _, e, _⟩ := h; exact ⟨_, e⟩
  | fdc o us kvs => obtain ⟨_, e, _⟩ := h; exact ⟨_, e⟩
  | ins C fs => obtain ⟨_, _, _, e, _⟩ := h; exact ⟨_, e⟩
  | tbl ps => exact ⟨_, h⟩
  | any P => exact h.2.1
theorem GOk.mono (t : TLe H H1) (e : H1 a = H a) (h : GOk K H a g) : GOk K H1 a g := by
  cases g with
  | lst ws => obtain ⟨l, xs, e1, r⟩ := h; exact ⟨l, xs, e.trans e1, r.mono t⟩
  | dct => exact e.trans h
  | exc C => exact ⟨h.1, e.trans h.2⟩
  | dic kvs => obtain ⟨l, xs, e1, n, r⟩ := h; exact ⟨l, xs, e.trans e1, n, r.mono t⟩
  | fdc o us kvs => obtain ⟨l, e1, n, r⟩ := h; exact ⟨l, e.trans e1, n, r.mono t⟩
  | ins C fs => obtain ⟨l, dx, xs, e1, n, r⟩ := h; exact ⟨l, dx, xs, e.trans e1, n, r.mono t⟩
  | tbl ps => exact e.trans h
  | any P => exact ⟨h.2.2 _ _ t e h.1, (let ⟨o, e1⟩ := h.2.1; ⟨o, e.trans e1⟩), h.2.2⟩
theorem RelG.fresh (h : RelG K H G) (hp : H p = none) : G p = none := by
  cases e : G p with
  | none => rfl
  | some g =>
    obtain ⟨o, e1⟩ := (h p _ e).has
    rw [hp] at e1; cases e1
theorem RelG.upd (h : RelG K H G) (t : TLe H (upd H p o)) (hG : G p = none) : RelG K (L2.upd H p o) G := fun a g e => by
  have hne : a ≠ p := fun z => by rw [z, hG] at e; cases e
  exact (h a g e).mono t (upd_ne hne)
theorem RelG.keep (h : RelG K H G) (hp : H p = none) (o : HO) : RelG K (L2.upd H p o) G := h.upd (TLe.new hp o) (h.fresh hp)
theorem RelG.lay (h : RelG K H G) {o : HO} (t : TLe H (L2.upd H p o)) (n : GOk K (L2.upd H p o) p g) : RelG K (L2.upd H p o) (updG G p g) := fun a g' e => by
  by_cases hb : a = p
  · subst hb
    rw [updG_same] at e; cases e
    exact n
  · rw [updG_ne hb] at e
    exact (h a g' e).mono t (upd_ne hb)
theorem RelG.put (h : RelG K H G) {xs : List V} {ws : List W} (t : TLe H (L2.upd H p (.lst xs))) (r : Reps K H ws xs) (hl : ws.length ≤ 100000) : RelG K (L2.upd H p (.lst xs)) (updG G p (.lst ws)) := h.lay t ⟨hl, xs, upd_same, r.mono t⟩
noncomputable def GLe (G0 G : Gp) : Prop := ∀ a g, G0 a = some g → G a = some g
theorem RelG.le {G0 : Gp} (h : RelG K H G) (l : GLe G0 G) : RelG K H G0 := fun a g e => h a g (l a g e)
theorem GLe.refl (G : Gp) : GLe G G := fun _ _ h => h
theorem GLe.trans {G0 G1 G2 : Gp} (a : GLe G0 G1) (b : GLe G1 G2) : GLe G0 G2 := fun x g h => b x g (a x g h)
theorem GLe.new {g : GO} (hp : G p = none) : GLe G (updG G p g) := fun a u e => by
  rw [updG_ne (fun z => by rw [z, hp] at e; cases e)]; exact e
end
noncomputable abbrev WSt := List (Option W)
noncomputable def RelSt (K : PySem.W.Frag) (H : Hp) (τ : WSt) (σ : St) : Prop := τ.length = σ.length ∧ ∀ (i : Nat) (w : W), τ[i]? = some (some w) → ∃ v, σ[i]? = some (some v) ∧ Rep K H w v
section
variable {K : PySem.W.Frag} {H H1 : Hp} {τ : WSt} {σ : St}
theorem RelSt.mono (t : TLe H H1) (h : RelSt K H τ σ) : RelSt K H1 τ σ := ⟨h.1, fun i w e => let ⟨v, e1, r⟩ := h.2 i w e; ⟨v, e1, r.mono t⟩⟩
theorem RelSt.set (h : RelSt K H τ σ) {w : W} {v : V} (r : Rep K H w v) (i : Nat) : RelSt K H (τ.set i (some w)) (σ.set i (some v)) := by
  refine ⟨by simpa using h.1, fun j u e => ?_⟩
  by_cases hj : i = j
  · subst hj
    by_cases hl : i < τ.length
    · rw [List.getElem?_set_self hl] at e
      cases e
      exact ⟨v, List.getElem?_set_self (by rw [← h.1]; exact hl), r⟩
    · rw [List.getElem?_eq_none (by simpa using hl)] at e; cases e
  · rw [List.getElem?_set_ne hj] at e
    obtain ⟨u', e1, r1⟩ := h.2 j u e
    exact ⟨u', by rw [List.getElem?_set_ne hj]; exact e1, r1⟩
theorem RelSt.start {N : List Str} {ws : List W} {vs : List V} (r : Reps K H ws vs) : RelSt K H (ws.map some ++ List.replicate (N.length - ws.length) none) (L2.start N vs) := by
  unfold L2.start
  refine ⟨by simp [r.length], fun i w e => ?_⟩
  by_cases hi : i < ws.length
  · rw [List.getElem?_append_left (by simpa using hi), List.getElem?_map] at e
    cases e1 : ws[i]? with
    | none => rw [e1] at e; cases e
    | some u =>
      rw [e1] at e; cases e
      obtain ⟨v, e2, rv⟩ := r.get e1
      refine ⟨v, ?_, rv⟩
      rw [List.getElem?_append_left (by simpa [← r.length] using hi), List.getElem?_map, e2]
      rfl
  · rw [List.getElem?_append_right (by simpa using hi), List.getElem?_replicate] at e
    split at e <;> cases e
end
noncomputable abbrev WK := W → Gp → Prop
noncomputable abbrev WE := WSt → Gp → WK → Prop
noncomputable abbrev WT := WSt → Gp → (Bool → Gp → Prop) → Prop
noncomputable abbrev WA := WSt → Gp → (List W → Gp → Prop) → Prop
structure WEnds where
  nx : WSt → Gp → Prop
  rt : WK
  bk : WSt → Gp → Prop := fun _ _ => False
  ct : WSt → Gp → Prop := fun _ _ => False
noncomputable abbrev WS := WEnds → WSt → Gp → Prop
noncomputable abbrev WG := W → WSt → Gp → (WSt → Gp → Prop) → Prop
noncomputable abbrev WGs := List W → WSt → Gp → (WSt → Gp → Prop) → Prop
noncomputable def LEx (K : PySem.W.Frag) (t : WE) : TE := fun σ H Q => ∃ τ G q, RelSt K H τ σ ∧ RelG K H G ∧ t τ G q ∧ ∀ v H1 w G1, TLe H H1 → Rep K H1 w v → RelG K H1 G1 → q w G1 → Q v H1
noncomputable def LTx (K : PySem.W.Frag) (t : WT) : TT := fun σ H Q => ∃ τ G q, RelSt K H τ σ ∧ RelG K H G ∧ t τ G q ∧ ∀ b H1 G1, TLe H H1 → RelG K H1 G1 → q b G1 → Q b H1
noncomputable def LA (K : PySem.W.Frag) (t : WA) : TA := fun σ H Q => ∃ τ G q, RelSt K H τ σ ∧ RelG K H G ∧ t τ G q ∧ ∀ vs H1 ws G1, TLe H H1 → Reps K H1 ws vs → RelG K H1 G1 → q ws G1 → Q vs H1
structure LEnds (K : PySem.W.Frag) (H : Hp) (d : WEnds) (D : Ends) : Prop where
  nx : ∀ σ1 H1 τ1 G1, TLe H H1 → RelSt K H1 τ1 σ1 → RelG K H1 G1 → d.nx τ1 G1 → D.nx σ1 H1
  rt : ∀ v H1 w G1, TLe H H1 → Rep K H1 w v → RelG K H1 G1 → d.rt w G1 → D.rt v H1
  bk : ∀ σ1 H1 τ1 G1, TLe H H1 → RelSt K H1 τ1 σ1 → RelG K H1 G1 → d.bk τ1 G1 → D.bk σ1 H1
  ct : ∀ σ1 H1 τ1 G1, TLe H H1 → RelSt K H1 τ1 σ1 → RelG K H1 G1 → d.ct τ1 G1 → D.ct σ1 H1
noncomputable def LS (K : PySem.W.Frag) (t : WS) : TS := fun D σ H => ∃ τ G d, RelSt K H τ σ ∧ RelG K H G ∧ t d τ G ∧ LEnds K H d D
theorem LEx.el {K : PySem.W.Frag} {t : WE} {σ : St} {H : Hp} {Q : VK} {P : Prop} (h : LEx K t σ H Q) (k : ∀ (τ : WSt) (G : Gp) (q : WK), RelSt K H τ σ → RelG K H G → t τ G q → (∀ v H1 w G1, TLe H H1 → Rep K H1 w v → RelG K H1 G1 → q w G1 → Q v H1) → P) : P := by
  obtain ⟨τ, G, q, a, b, c, d⟩ := h
  exact k τ G q a b c d
theorem LTx.el {K : PySem.W.Frag} {t : WT} {σ : St} {H : Hp} {Q : Bool → Hp → Prop} {P : Prop} (h : LTx K t σ H Q) (k : ∀ (τ : WSt) (G : Gp) (q : Bool → Gp → Prop), RelSt K H τ σ → RelG K H G → t τ G q → (∀ b H1 G1, TLe H H1 → RelG K H1 G1 → q b G1 → Q b H1) → P) : P := by
  obtain ⟨τ, G, q, a, b, c, d⟩ := h
  exact k τ G q a b c d
theorem LA.el {K : PySem.W.Frag} {t : WA} {σ : St} {H : Hp} {Q : List V → Hp → Prop} {P : Prop} (h : LA K t σ H Q) (k : ∀ (τ : WSt) (G : Gp) (q : List W → Gp → Prop), RelSt K H τ σ → RelG K H G → t τ G q → (∀ vs H1 ws G1, TLe H H1 → Reps K H1 ws vs → RelG K H1 G1 → q ws G1 → Q vs H1) → P) : P := by
  obtain ⟨τ, G, q, a, b, c, d⟩ := h
  exact k τ G q a b c d
theorem LS.el {K : PySem.W.Frag} {t : WS} {D : Ends} {σ : St} {H : Hp} {P : Prop} (h : LS K t D σ H) (k : ∀ (τ : WSt) (G : Gp) (d : WEnds), RelSt K H τ σ → RelG K H G → t d τ G → LEnds K H d D → P) : P := by
  obtain ⟨τ, G, q, a, b, c, d⟩ := h
  exact k τ G q a b c d
noncomputable def LG (K : PySem.W.Frag) (t : WG) : TG := fun v σ H Q => ∃ w τ G q, Rep K H w v ∧ RelSt K H τ σ ∧ RelG K H G ∧ t w τ G q ∧ ∀ σ1 H1 τ1 G1, TLe H H1 → RelSt K H1 τ1 σ1 → RelG K H1 G1 → q τ1 G1 → Q σ1 H1
noncomputable def LGs (K : PySem.W.Frag) (t : WGs) : TGs := fun vs σ H Q => ∃ ws τ G q, Reps K H ws vs ∧ RelSt K H τ σ ∧ RelG K H G ∧ t ws τ G q ∧ ∀ σ1 H1 τ1 G1, TLe H H1 → RelSt K H1 τ1 σ1 → RelG K H1 G1 → q τ1 G1 → Q σ1 H1
noncomputable def QE (X : Cx) (e : Expr) (t : WE) : Prop := PE X e (LEx X.K t)
noncomputable def QT (X : Cx) (e : Expr) (t : WT) : Prop := PT X e (LTx X.K t)
noncomputable def QW (X : Cx) (e : Expr) (t : WT) : Prop := PW X e (LTx X.K t)
noncomputable def QA (X : Cx) (es : List Expr) (t : WA) : Prop := PA X es (LA X.K t)
noncomputable def QS (X : Cx) (st : Stmt) (t : WS) : Prop := PS X st (LS X.K t)
noncomputable def QSs (X : Cx) (st : List Stmt) (t : WS) : Prop := PSs X st (LS X.K t)
noncomputable def QG (X : Cx) (e : Expr) (t : WG) : Prop := PG X e (LG X.K t)
noncomputable def QGs (X : Cx) (es : List Expr) (t : WGs) : Prop := PGs X es (LGs X.K t)
section
variable {X : Cx}
theorem PE.imp {e : Expr} {t t' : TE} (h : PE X e t) (f : ∀ σ H Q, t' σ H Q → t σ H Q) : PE X e t' := fun pins s σ H Q I q => h pins s σ H Q I (f _ _ _ q)
theorem PT.imp {e : Expr} {t t' : TT} (h : PT X e t) (f : ∀ σ H Q, t' σ H Q → t σ H Q) : PT X e t' := fun pins s σ H Q I q => h pins s σ H Q I (f _ _ _ q)
theorem PW.imp {e : Expr} {t t' : TT} (h : PW X e t) (f : ∀ σ H Q, t' σ H Q → t σ H Q) : PW X e t' := fun wh pins s σ H Q I q => h wh pins s σ H Q I (f _ _ _ q)
theorem PA.imp {e : List Expr} {t t' : TA} (h : PA X e t) (f : ∀ σ H Q, t' σ H Q → t σ H Q) : PA X e t' := fun pos pins s σ H Q I q => h pos pins s σ H Q I (f _ _ _ q)
theorem PS.imp {e : Stmt} {t t' : TS} (h : PS X e t) (f : ∀ D σ H, t' D σ H → t D σ H) : PS X e t' := fun pins s σ H D I q => h pins s σ H D I (f _ _ _ q)
theorem PSs.imp {e : List Stmt} {t t' : TS} (h : PSs X e t) (f : ∀ D σ H, t' D σ H → t D σ H) : PSs X e t' := fun pins s σ H D I q => h pins s σ H D I (f _ _ _ q)
theorem PG.imp {e : Expr} {t t' : TG} (h : PG X e t) (f : ∀ v σ H Q, t' v σ H Q → t v σ H Q) : PG X e t' := fun pins s σ H v u Q I r q => h pins s σ H v u Q I r (f _ _ _ _ q)
theorem PGs.imp {e : List Expr} {t t' : TGs} (h : PGs X e t) (f : ∀ v σ H Q, t' v σ H Q → t v σ H Q) : PGs X e t' := fun pins s σ H v u Q I r q => h pins s σ H v u Q I r (f _ _ _ _ q)
noncomputable def wVar (i : Nat) : WE := fun τ G q => match τ[i]? with | some (some w) => q w G | _ => False
noncomputable def wC (w : W) : WE := fun _ G q => q w G
theorem qe_var (i : Nat) {x : Str} {pos : Pos} (hN : X.N[i]? = some x) (hv : Vis X.env.scope x) (hd : (x == ("__debug__" : Str)) = false := by decide) (hcd : (x == ("__classdict__" : Str)) = false := by decide) : QE X (.Name x pos) (wVar i) := by
  refine (pe_var hN hv hd hcd).imp fun σ H Q z0 => z0.el fun τ G q hs hg ht hQ => ?_
  unfold wVar at ht
  split at ht
  · rename_i w e
    obtain ⟨v, e1, r⟩ := hs.2 i w e
    exact ⟨v, e1, hQ v H w G (TLe.refl H) r hg ht⟩
  · exact ht.elim
theorem qe_const {e : Expr} {v : V} {w : W} (h : PE X e (tC v)) (r : ∀ H, Rep X.K H w v) : QE X e (wC w) :=
  h.imp fun σ H Q z0 => z0.el fun τ G q hs hg ht hQ => hQ v H w G (TLe.refl H) (r H) hg ht
theorem qe_int {i j pos} : QE X (.Constant (.int i) j pos) (wC (.int i)) := qe_const pe_int fun _ => .int i
theorem qe_bl {b j pos} : QE X (.Constant (.bool b) j pos) (wC (.bl b)) := qe_const pe_bl fun _ => .bl b
noncomputable abbrev W2 := W → W → Gp → WK → Prop
noncomputable def LR (K : PySem.W.Frag) (r : W2) : R2 := fun x y H Q => ∃ wx wy G q, Rep K H wx x ∧ Rep K H wy y ∧ RelG K H G ∧ r wx wy G q ∧ ∀ v H1 w G1, TLe H H1 → Rep K H1 w v → RelG K H1 G1 → q w G1 → Q v H1
noncomputable def QOp (X : Cx) (f : Value → Value → Sem Value) (r : W2) : Prop := OpR X f (LR X.K r)
noncomputable def QIx (X : Cx) (r : W2) : Prop := IxR X (LR X.K r)
noncomputable def wOp (r : W2) (ta tb : WE) : WE := fun τ G q => ta τ G fun x G1 => tb τ G1 fun y G2 => r x y G2 q
theorem LEx.op {K : PySem.W.Frag} {r : W2} {ta tb : WE} {σ : St} {H : Hp} {Q : VK} (h : LEx K (wOp r ta tb) σ H Q) : tOp (LR K r) (LEx K ta) (LEx K tb) σ H Q := by
  obtain ⟨τ, G, q, hs, hg, ht, hQ⟩ := h
  refine ⟨τ, G, _, hs, hg, ht, fun v H1 w G1 t1 r1 g1 q1 => ?_⟩
  refine ⟨τ, G1, _, hs.mono t1, g1, q1, fun v2 H2 w2 G2 t2 r2 g2 q2 => ?_⟩
  exact ⟨w, w2, G2, q, r1.mono t2, r2, g2, q2, fun v3 H3 w3 G3 t3 r3 g3 q3 => hQ v3 H3 w3 G3 ((t1.trans t2).trans t3) r3 g3 q3⟩
theorem qe_op {op : Operator} {r : W2} {a b : Expr} {ta tb : WE} {pos : Pos} (ho : QOp X (binaryOp op) r) (ha : QE X a ta) (hb : QE X b tb) : QE X (.BinOp a op b pos) (wOp r ta tb) :=
  (pe_op ho ha hb).imp fun _ _ _ h => h.op
theorem qe_cmp {op : CmpOp} {r : W2} {a b : Expr} {ta tb : WE} {pos : Pos} (ho : QOp X (compareOp op) r) (ha : QE X a ta) (hb : QE X b tb) (hm : behindInMarks op b = false) : QE X (.Compare a [op] [b] pos) (wOp r ta tb) :=
  (pe_cmpR ho ha hb hm).imp fun _ _ _ h => h.op
theorem qe_ix {r : W2} {a b : Expr} {ta tb : WE} {pos : Pos} (ho : QIx X r) (ha : QE X a ta) (hb : QE X b tb) (hs : PlainIx b) : QE X (.Subscript a b pos) (wOp r ta tb) :=
  (pe_ix ho ha hb hs).imp fun _ _ _ h => h.op
noncomputable def wTest (t : WE) : WT := fun τ G q => t τ G fun x G1 => match x with | .bl b => q b G1 | _ => False
theorem LTx.test {K : PySem.W.Frag} {t : WE} {σ : St} {H : Hp} {Q : Bool → Hp → Prop} (h : LTx K (wTest t) σ H Q) : tTest (LEx K t) σ H Q := by
  obtain ⟨τ, G, q, hs, hg, ht, hQ⟩ := h
  refine ⟨τ, G, _, hs, hg, ht, fun v H1 w G1 t1 r1 g1 q1 => ?_⟩
  split at q1
  · rename_i b
    cases r1
    exact ⟨b, rfl, hQ b H1 G1 t1 g1 q1⟩
  · exact q1.elim
theorem qt_cmp {op : CmpOp} {r : W2} {a b : Expr} {ta tb : WE} {pos : Pos} (ho : QOp X (compareOp op) r) (ha : QE X a ta) (hb : QE X b tb) (hm : behindInMarks op b = false) : QT X (.Compare a [op] [b] pos) (wTest (wOp r ta tb)) :=
  (pt_cmpR ho ha hb hm).imp fun σ H Q h => by
    obtain ⟨τ, G, q, hs, hg, ht, hQ⟩ := h.test
    exact LEx.op ⟨τ, G, q, hs, hg, ht, hQ⟩
theorem qt_val {e : Expr} {t : WE} (h : QE X e t) (he : ∀ whole, isTrue e X.env whole = (do let v ← whole; standAt e.pos; holding [v] (truthy v)) := by intro _; rfl) : QT X e (wTest t) :=
  (pt_val h he).imp fun σ H Q h => h.test
noncomputable def wAnd (t u : WT) : WT := fun τ G q => t τ G fun c G1 => if c = true then u τ G1 q else q false G1
noncomputable def wOr (t u : WT) : WT := fun τ G q => t τ G fun c G1 => if c = true then q true G1 else u τ G1 q
noncomputable def wNot (t : WT) : WT := fun τ G q => t τ G fun c G1 => q (!c) G1
theorem qw_and1 {a : Expr} {t : WT} {pos : Pos} (ha : QT X a t) : QW X (.BoolOp .And [a] pos) t := pw_and1 ha
theorem qw_or1 {a : Expr} {t : WT} {pos : Pos} (ha : QT X a t) : QW X (.BoolOp .Or [a] pos) t := pw_or1 ha
theorem qw_and {a b : Expr} {rest : List Expr} {t u : WT} {pos : Pos} (ha : QT X a t) (hb : QW X (.BoolOp .And (b :: rest) pos) u) : QW X (.BoolOp .And (a :: b :: rest) pos) (wAnd t u) :=
  (pw_and ha hb).imp fun σ H Q z0 => z0.el fun τ G q hs hg ht hQ => ⟨τ, G, _, hs, hg, ht, fun c H1 G1 t1 g1 q1 => by
    cases c with
    | true => rw [if_pos rfl] at q1 ⊢; exact ⟨τ, G1, q, hs.mono t1, g1, q1, fun b H2 G2 t2 g2 q2 => hQ b H2 G2 (t1.trans t2) g2 q2⟩
    | false => rw [if_neg Bool.false_ne_true] at q1 ⊢; exact hQ false H1 G1 t1 g1 q1⟩
theorem qw_or {a b : Expr} {rest : List Expr} {t u : WT} {pos : Pos} (ha : QT X a t) (hb : QW X (.BoolOp .Or (b :: rest) pos) u) : QW X (.BoolOp .Or (a :: b :: rest) pos) (wOr t u) :=
  (pw_or ha hb).imp fun σ H Q z0 => z0.el fun τ G q hs hg ht hQ => ⟨τ, G, _, hs, hg, ht, fun c H1 G1 t1 g1 q1 => by
    cases c with
    | true => rw [if_pos rfl] at q1 ⊢; exact hQ true H1 G1 t1 g1 q1
    | false => rw [if_neg Bool.false_ne_true] at q1 ⊢; exact ⟨τ, G1, q, hs.mono t1, g1, q1, fun b H2 G2 t2 g2 q2 => hQ b H2 G2 (t1.trans t2) g2 q2⟩⟩
theorem qt_w {e : Expr} {t : WT} (h : QW X e t) : QT X e t := PW.pt h
theorem qt_not {a : Expr} {t : WT} {pos : Pos} (ha : QT X a t) : QT X (.UnaryOp .Not a pos) (wNot t) :=
  (pt_not ha).imp fun σ H Q z0 => z0.el fun τ G q hs hg ht hQ => ⟨τ, G, _, hs, hg, ht, fun c H1 G1 t1 g1 q1 => hQ (!c) H1 G1 t1 g1 q1⟩
noncomputable def wAndV (ta tb : WE) : WE := fun τ G q => ta τ G fun x G1 => match x with | .bl c => if c = true then tb τ G1 q else q (.bl false) G1 | _ => False
noncomputable def wOrV (ta tb : WE) : WE := fun τ G q => ta τ G fun x G1 => match x with | .bl c => if c = true then q (.bl true) G1 else tb τ G1 q | _ => False
noncomputable def wNotV (ta : WE) : WE := fun τ G q => ta τ G fun x G1 => match x with | .bl c => q (.bl (!c)) G1 | _ => False
theorem qe_one {a : Expr} {op} {t : WE} {pos : Pos} (h : QE X a t) : QE X (.BoolOp op [a] pos) t := pe_one h
theorem qe_and {a b : Expr} {rest : List Expr} {ta tb : WE} {pos : Pos} (ha : QE X a ta) (hb : QE X (.BoolOp .And (b :: rest) pos) tb) : QE X (.BoolOp .And (a :: b :: rest) pos) (wAndV ta tb) :=
  (pe_and ha hb).imp fun σ H Q z0 => z0.el fun τ G q hs hg ht hQ => ⟨τ, G, _, hs, hg, ht, fun v H1 w G1 t1 r1 g1 q1 => by
    split at q1
    · rename_i c
      cases r1
      refine ⟨c, rfl, ?_⟩
      cases c with
      | true => rw [if_pos rfl] at q1 ⊢; exact ⟨τ, G1, q, hs.mono t1, g1, q1, fun v2 H2 w2 G2 t2 r2 g2 q2 => hQ v2 H2 w2 G2 (t1.trans t2) r2 g2 q2⟩
      | false => rw [if_neg Bool.false_ne_true] at q1 ⊢; exact hQ _ H1 _ G1 t1 (.bl false) g1 q1
    · exact q1.elim⟩
theorem qe_not {a : Expr} {ta : WE} {pos : Pos} (ha : QE X a ta) : QE X (.UnaryOp .Not a pos) (wNotV ta) :=
  (pe_not ha).imp fun σ H Q z0 => z0.el fun τ G q hs hg ht hQ => ⟨τ, G, _, hs, hg, ht, fun v H1 w G1 t1 r1 g1 q1 => by
    split at q1
    · rename_i c
      cases r1
      exact ⟨c, rfl, hQ _ H1 _ G1 t1 (.bl _) g1 q1⟩
    · exact q1.elim⟩
noncomputable def wIfE (c : WT) (ta tb : WE) : WE := fun τ G q => c τ G fun b G1 => if b = true then ta τ G1 q else tb τ G1 q
theorem qe_ifExp {c a b : Expr} {tc : WT} {ta tb : WE} {pos : Pos} (hc : QT X c tc) (ha : QE X a ta) (hb : QE X b tb) : QE X (.IfExp c a b pos) (wIfE tc ta tb) :=
  (pe_ifExp hc ha hb).imp fun σ H Q z0 => z0.el fun τ G q hs hg ht hQ => ⟨τ, G, _, hs, hg, ht, fun c H1 G1 t1 g1 q1 => by
    cases c with
    | true => rw [if_pos rfl] at q1 ⊢; exact ⟨τ, G1, q, hs.mono t1, g1, q1, fun v2 H2 w2 G2 t2 r2 g2 q2 => hQ v2 H2 w2 G2 (t1.trans t2) r2 g2 q2⟩
    | false => rw [if_neg Bool.false_ne_true] at q1 ⊢; exact ⟨τ, G1, q, hs.mono t1, g1, q1, fun v2 H2 w2 G2 t2 r2 g2 q2 => hQ v2 H2 w2 G2 (t1.trans t2) r2 g2 q2⟩⟩
noncomputable def wNil : WA := fun _ G q => q [] G
noncomputable def wCons (ta : WE) (tr : WA) : WA := fun τ G q => ta τ G fun x G1 => tr τ G1 fun xs G2 => q (x :: xs) G2
theorem qa_nil : QA X [] wNil := pa_nil.imp fun σ H Q z0 => z0.el fun τ G q hs hg ht hQ => hQ [] H [] G (TLe.refl H) .nil hg ht
theorem qa_cons {e : Expr} {es : List Expr} {te : WE} {t : WA} (ha : QE X e te) (hr : QA X es t) (hs : starEach (e :: es) X.env = (false, eval e X.env) :: starEach es X.env := by rfl) : QA X (e :: es) (wCons te t) :=
  (pa_cons ha hr hs).imp fun σ H Q z0 => z0.el fun τ G q hs hg ht hQ => ⟨τ, G, _, hs, hg, ht, fun v H1 w G1 t1 r1 g1 q1 =>
    ⟨τ, G1, _, hs.mono t1, g1, q1, fun vs H2 ws G2 t2 r2 g2 q2 => hQ (v :: vs) H2 (w :: ws) G2 (t1.trans t2) (.cons (r1.mono t2) r2) g2 q2⟩⟩
theorem line_le {n : Nat} (h : n ≤ 100000) : n ≤ sizeLine := by rw [sizeLine_eq]; exact Nat.le_trans (by assumption) (Nat.le_of_ble_eq_true rfl)
noncomputable def wTup (t : WA) : WE := fun τ G q => t τ G fun ws G1 => ws.length ≤ 100000 ∧ q (.tup ws) G1
noncomputable def wLst (t : WA) : WE := fun τ G q => t τ G fun ws G1 => ws.length ≤ 100000 ∧ ∀ p, G1 p = none → q (.ref p) (updG G1 p (.lst ws))
theorem qe_tup {es : List Expr} {x1} {t : WA} {pos : Pos} (h : QA X es t) : QE X (.Tuple es x1 pos) (wTup t) :=
  (pe_tup h).imp fun σ H Q z0 => z0.el fun τ G q hs hg ht hQ => ⟨τ, G, _, hs, hg, ht, fun vs H1 ws G1 t1 r1 g1 q1 =>
    ⟨by rw [← r1.length]; exact line_le q1.1, fun p hp => hQ _ _ _ G1 (t1.trans (TLe.new hp _)) (.tup upd_same (r1.mono (TLe.new hp _))) (g1.keep hp _) q1.2⟩⟩
theorem qe_lst {es : List Expr} {t : WA} {pos : Pos} (h : QA X es t) : QE X (.List es pos) (wLst t) :=
  (pe_lst h).imp fun σ H Q z0 => z0.el fun τ G q hs hg ht hQ => ⟨τ, G, _, hs, hg, ht, fun vs H1 ws G1 t1 r1 g1 q1 =>
    ⟨by rw [← r1.length]; exact line_le q1.1, fun p hp => hQ _ _ _ _ (t1.trans (TLe.new hp _)) (.ref p) (g1.put (TLe.new hp _) r1 q1.1) (q1.2 p (g1.fresh hp))⟩⟩
noncomputable def wNext : WS := fun d τ G => d.nx τ G
noncomputable def wSeq (t u : WS) : WS := fun d τ G => t { d with nx := u d } τ G
theorem LEnds.mono {K : PySem.W.Frag} {H H1 : Hp} {d : WEnds} {D : Ends} (l : LEnds K H d D) (t : TLe H H1) : LEnds K H1 d D :=
  ⟨fun σ2 H2 τ2 G2 t2 => l.nx σ2 H2 τ2 G2 (t.trans t2), fun v H2 w G2 t2 => l.rt v H2 w G2 (t.trans t2), fun σ2 H2 τ2 G2 t2 => l.bk σ2 H2 τ2 G2 (t.trans t2), fun σ2 H2 τ2 G2 t2 => l.ct σ2 H2 τ2 G2 (t.trans t2)⟩
theorem qss_nil : QSs X [] wNext := pss_nil.imp fun D σ H z0 => z0.el fun τ G d hs hg ht l => l.nx σ H τ G (TLe.refl H) hs hg ht
theorem qss_cons {st : Stmt} {rest : List Stmt} {t u : WS} (h1 : QS X st t) (h2 : QSs X rest u) : QSs X (st :: rest) (wSeq t u) :=
  (pss_cons h1 h2).imp fun D σ H z0 => z0.el fun τ G d hs hg ht l => ⟨τ, G, _, hs, hg, ht, ⟨fun σ1 H1 τ1 G1 t1 s1 g1 q1 => ⟨τ1, G1, d, s1, g1, q1, l.mono t1⟩, l.rt, l.bk, l.ct⟩⟩
theorem qss_one {st : Stmt} {t : WS} (h1 : QS X st t) : QSs X [st] t := pss_one h1
noncomputable def wDrop (te : WE) : WS := fun d τ G => te τ G fun _ G1 => d.nx τ G1
theorem qs_expr {e : Expr} {te : WE} {pos : Pos} (he : QE X e te) (hs : swapsWith e none pos.line X.env = pure false := by rfl) : QS X (.Expr e pos) (wDrop te) :=
  (ps_expr he hs).imp fun D σ H z0 => z0.el fun τ G d hs hg ht l => ⟨τ, G, _, hs, hg, ht, fun v H1 w G1 t1 r1 g1 q1 => l.nx σ H1 τ G1 t1 (hs.mono t1) g1 q1⟩
noncomputable def wRet (te : WE) : WS := fun d τ G => te τ G d.rt
theorem qs_ret {e : Expr} {te : WE} {pos : Pos} (he : QE X e te) : QS X (.Return (some e) pos) (wRet te) :=
  (ps_ret he).imp fun D σ H z0 => z0.el fun τ G d hs hg ht l => ⟨τ, G, _, hs, hg, ht, fun v H1 w G1 t1 r1 g1 q1 => l.rt v H1 w G1 t1 r1 g1 q1⟩
noncomputable def wIf (c : WT) (t u : WS) : WS := fun d τ G => c τ G fun b G1 => if b = true then t d τ G1 else u d τ G1
theorem qs_if {c : Expr} {a b : List Stmt} {tc : WT} {t u : WS} {pos : Pos} (hc : QT X c tc) (ha : QSs X a t) (hb : QSs X b u) : QS X (.If c a b pos) (wIf tc t u) :=
  (ps_if hc ha hb).imp fun D σ H z0 => z0.el fun τ G d hs hg ht l => ⟨τ, G, _, hs, hg, ht, fun c H1 G1 t1 g1 q1 => by
    cases c with
    | true => rw [if_pos rfl] at q1 ⊢; exact ⟨τ, G1, d, hs.mono t1, g1, q1, l.mono t1⟩
    | false => rw [if_neg Bool.false_ne_true] at q1 ⊢; exact ⟨τ, G1, d, hs.mono t1, g1, q1, l.mono t1⟩⟩
noncomputable def hName (i : Nat) : WG := fun w τ G q => q (τ.set i (some w)) G
theorem qg_name (i : Nat) {x : Str} {pos : Pos} (hN : X.N.Nodup) (hi : X.N[i]? = some x) (hx : Loc X.env.scope x) (hf : X.fn x = true ∨ X.env.scope.names.lookup x = some .local := by first | exact .inl rfl | exact .inr rfl | assumption) : QG X (.Name x pos) (hName i) :=
  (pg_name hN hi hx hf).imp fun v σ H Q ⟨w, τ, G, q, r, hs, hg, ht, hQ⟩ => hQ _ H _ G (TLe.refl H) (hs.set r i) hg ht
noncomputable def hNil : WGs := fun ws τ G q => match ws with | [] => q τ G | _ => False
noncomputable def hCons (t : WG) (u : WGs) : WGs := fun ws τ G q => match ws with | w :: r => t w τ G fun τ1 G1 => u r τ1 G1 q | [] => False
theorem qgs_nil : QGs X [] hNil := pgs_nil.imp fun vs σ H Q ⟨ws, τ, G, q, r, hs, hg, ht, hQ⟩ => by
  unfold hNil at ht
  cases r with
  | nil => exact ⟨rfl, hQ σ H τ G (TLe.refl H) hs hg ht⟩
  | cons _ _ => exact ht.elim
theorem qgs_cons {e : Expr} {es : List Expr} {t : WG} {u : WGs} (h1 : QG X e t) (h2 : QGs X es u)
    (hs : (assignEach (e :: es) X.env).map (·.2) = assign e X.env :: (assignEach es X.env).map (·.2) := by rfl) : QGs X (e :: es) (hCons t u) :=
  (pgs_cons h1 h2 hs).imp fun vs σ H Q ⟨ws, τ, G, q, r, hs, hg, ht, hQ⟩ => by
    unfold hCons at ht
    cases r with
    | nil => exact ht.elim
    | cons r rs =>
      exact ⟨_, _, rfl, _, τ, G, _, r, hs, hg, ht, fun σ1 H1 τ1 G1 t1 s1 g1 q1 => ⟨_, τ1, G1, q, rs.mono t1, s1, g1, q1, fun σ2 H2 τ2 G2 t2 => hQ σ2 H2 τ2 G2 (t1.trans t2)⟩⟩
noncomputable def hTup (n : Nat) (t : WGs) : WG := fun w τ G q => match w with | .tup ws => ws.length = n ∧ t ws τ G q | _ => False
theorem qg_tup {es : List Expr} {k : Nat} {t : WGs} {pos : Pos} (hc : X.calm = true) (h : QGs X es t)
    (hn : (assignEach es X.env).length = es.length := by rfl) (hst : (assignEach es X.env).findIdx? (·.1) = none := by rfl) : QG X (.Tuple es k pos) (hTup es.length t) :=
  (pg_tup hc h hn hst).imp fun v σ H Q ⟨w, τ, G, q, r, hs, hg, ht, hQ⟩ => by
    unfold hTup at ht
    cases r with
    | tup h r => exact ⟨_, _, rfl, SqT.of h, by rw [← r.length]; exact ht.1, _, τ, G, q, r, hs, hg, ht.2, hQ⟩
    | _ => exact ht.elim
noncomputable def wAsg (te : WE) (g : WG) : WS := fun d τ G => te τ G fun x G1 => g x τ G1 d.nx
theorem qs_set (i : Nat) {x : Str} {e : Expr} {te : WE} {pos' pos : Pos} (hN : X.N.Nodup) (hi : X.N[i]? = some x) (hx : Loc X.env.scope x) (he : QE X e te) (hs : swapsWith e (some (.Name x pos')) pos.line X.env = pure false := by rfl) (hf : X.fn x = true ∨ X.env.scope.names.lookup x = some .local := by first | exact .inl rfl | exact .inr rfl | assumption) :
    QS X (.Assign [.Name x pos'] e pos) (wAsg te (hName i)) :=
  (ps_set hN hi hx he hs hf).imp fun D σ H z0 => z0.el fun τ G d hs hg ht l =>
    ⟨τ, G, _, hs, hg, ht, fun v H1 w G1 t1 r1 g1 q1 => l.nx _ H1 _ G1 t1 ((hs.mono t1).set r1 i) g1 q1⟩
noncomputable def wWhile (c : WT) (tb : WS) : WS := fun d τ G => ∃ I : Nat → WSt → Gp → Prop, (∃ m, I m τ G) ∧ ∀ m τ G, I m τ G →
  c τ G fun b G1 => if b = true then ∃ N : WSt → Gp → Prop, (∀ τ1 G1, N τ1 G1 → ∃ m1, m1 < m ∧ I m1 τ1 G1) ∧ tb { d with nx := N, ct := N, bk := d.nx } τ G1 else d.nx τ G1
theorem qs_while {c : Expr} {body : List Stmt} {tc : WT} {tb : WS} {pos : Pos} (hp : PassesOwn (model X.prog X.w) X.A X.env X.xe) (hc : QT X c tc) (hb : QSs X body tb) : QS X (.While c body [] pos) (wWhile tc tb) :=
  (ps_while hp hc hb).imp fun D σ H ⟨τ, G, d, hs, hg, ⟨I, ⟨m, i0⟩, turn⟩, l⟩ => by
    refine ⟨fun m σ1 H1 => ∃ τ1 G1, TLe H H1 ∧ RelSt X.K H1 τ1 σ1 ∧ RelG X.K H1 G1 ∧ I m τ1 G1, ⟨m, τ, G, TLe.refl H, hs, hg, i0⟩, ?_⟩
    rintro m1 σ1 H1 ⟨τ1, G1, t1, s1, g1, i1⟩
    refine ⟨τ1, G1, _, s1, g1, turn m1 τ1 G1 i1, fun b H2 G2 t2 g2 q2 => ?_⟩
    cases b with
    | true =>
      rw [if_pos rfl] at q2 ⊢
      obtain ⟨N, hN, q2⟩ := q2
      refine ⟨fun σ3 H3 => ∃ τ3 G3, TLe H H3 ∧ RelSt X.K H3 τ3 σ3 ∧ RelG X.K H3 G3 ∧ N τ3 G3, ?_, τ1, G2, _, s1.mono t2, g2, q2, ?_⟩
      · rintro σ3 H3 ⟨τ3, G3, t3, s3, g3, n3⟩
        obtain ⟨m3, hm, i3⟩ := hN τ3 G3 n3
        exact ⟨m3, hm, τ3, G3, t3, s3, g3, i3⟩
      · have tt := t1.trans t2
        exact ⟨fun σ3 H3 τ3 G3 t3 s3 g3 q3 => ⟨τ3, G3, tt.trans t3, s3, g3, q3⟩, fun v H3 w G3 t3 => l.rt v H3 w G3 (tt.trans t3), fun σ3 H3 τ3 G3 t3 => l.nx σ3 H3 τ3 G3 (tt.trans t3), fun σ3 H3 τ3 G3 t3 s3 g3 q3 => ⟨τ3, G3, tt.trans t3, s3, g3, q3⟩⟩
    | false =>
      rw [if_neg Bool.false_ne_true] at q2 ⊢
      exact l.nx σ1 H2 τ1 G2 (t1.trans t2) (s1.mono t2) g2 q2
end
end L2
namespace L2
open PySem PySem.Spec PyProof.Rows
section
variable {X : Cx}
noncomputable abbrev WX := Value → Gp → Prop
noncomputable abbrev WSp := List W → Gp → WK → WX → Prop
noncomputable def LSp (K : PySem.W.Frag) (sp : WSp) : Sp := fun vs H Q E => ∃ ws G q e, Reps K H ws vs ∧ RelG K H G ∧ sp ws G q e ∧ (∀ v H1 w G1, TLe H H1 → Rep K H1 w v → RelG K H1 G1 → q w G1 → Q v H1) ∧
  ∀ c d H1 G1, TLe H H1 → RelG K H1 G1 → e c G1 → E c d H1
noncomputable abbrev WFn (P : Program) (w : World) (K : PySem.W.Frag) (mg : Str → Option Value) (base : Heap) (k : Nat) (f : Addr) (fd : FuncData) (ps : List Str) (sp : WSp) : Prop := FnOk P w K mg base CX0 k f fd ps (LSp K sp)
noncomputable def wCall (sp : WSp) (dws : List W) (t : WA) : WE := fun τ G q => t τ G fun ws G1 => sp (ws ++ dws) G1 q fun _ _ => False
theorem LEx.call {K : PySem.W.Frag} {sp : WSp} {dws : List W} {dvs : List V} {t : WA} {σ : St} {H : Hp} {Q : VK} {E : XK} (hd : ∀ H, Reps K H dws dvs) (h : LEx K (wCall sp dws t) σ H Q) : tCall (LSp K sp) dvs E (LA K t) σ H Q := by
  obtain ⟨τ, G, q, hs, hg, ht, hQ⟩ := h
  exact ⟨τ, G, _, hs, hg, ht, fun vs H1 ws G1 t1 r1 g1 q1 => ⟨ws ++ dws, G1, q, _, r1.append (hd H1), g1, q1, fun v H2 w G2 t2 => hQ v H2 w G2 (t1.trans t2), fun _ _ _ _ _ _ z => z.elim⟩⟩
theorem qe_call {k : Nat} {f : Addr} {fd : FuncData} {ps : List Str} {sp : WSp} {x : Str} {p pos : Pos} {e : Expr} {es : List Expr} {t : WA} (F : WFn X.prog X.w X.K X.mg X.base k f fd ps sp) (hr : Room k X.A) (hg : Gl X x) (hm : X.mg x = some (.ref f))
    (hk : PySem.W.keepIn X.K (.ref f) = true) (hb : Binds X.K fd ps []) (ha : QA X (e :: es) t) (hdb : (x == ("__debug__" : Str)) = false := by decide)
    (he : starEach (e :: es) X.env = (false, eval e X.env) :: starEach es X.env := by rfl) (hpl : (backTo pos (starEach es X.env)).any (·.1) = false := by rfl) : QE X (.Call (.Name x p) (e :: es) [] pos) (wCall sp [] t) :=
  (pe_call F hr hg hm hk hb .nil pass0 ha hdb he hpl).imp fun _ _ _ h => h.call fun _ => .nil
noncomputable def wStart (N : List Str) (ws : List W) : WSt := ws.map some ++ List.replicate (N.length - ws.length) none
theorem WFn.none {P : Program} {w : World} {K : PySem.W.Frag} {mg : Str → Option Value} {base : Heap} {k : Nat} {f : Addr} {fd : FuncData} {ps : List Str} {sp : WSp} (h : ∀ ws G q e, ¬ sp ws G q e) : WFn P w K mg base k f fd ps sp :=
  ⟨fun _ _ _ _ ⟨_, _, _, _, _, _, z, _⟩ => absurd z (h _ _ _ _), fun _ _ _ _ _ _ _ _ _ _ _ _ _ ⟨_, _, _, _, _, _, z, _⟩ => absurd z (h _ _ _ _)⟩
theorem fn3 {P : Program} {w : World} {K : PySem.W.Frag} {mg : Str → Option Value} {base : Heap} {x qual : Str} {st : Stmt} {f : Addr} {fd : FuncData} {N ps : List Str} {k : Nat} {sp : WSp} (F : Fun K x qual st f fd) (S : FnScope N ps (defScope st)) (len : ∀ ws G q e, sp ws G q e → ws.length = ps.length)
    (hbody : ∀ (cdv : Value) (A : Around) (outer : List Env) (s : Shared) (H : Hp) (E : XK), Room k (A.deeper (envOfC qual (defScope st) s.heap.objs.size f cdv)) →
      ∃ t, QSs (cxOf CX0 P w K mg base N qual (defScope st) f cdv A outer s H E).nox (defBody st) t ∧
        ∀ (ws : List W) (G : Gp) (q : WK) (e : WX), sp ws G q e → t { nx := fun _ G1 => ∃ G0, GLe G0 G1 ∧ q .non G0, rt := fun w G1 => ∃ G0, GLe G0 G1 ∧ q w G0 } (wStart N ws) G) : WFn P w K mg base (k + 1) f fd ps sp := by
  refine F.ok S (fun vs H Q E ⟨ws, G, q, e, r, g, z, _⟩ => by rw [← r.length]; exact len _ _ _ _ z) (fun cdv A outer s H vs Q E hr ⟨ws, G, q, e, r, g, z, hQ, _⟩ => ?_)
  obtain ⟨t, ht, hq⟩ := hbody cdv A outer s H E hr
  exact ⟨_, ht, _, G, _, RelSt.start r, g, hq ws G q e z, ⟨fun σ1 H1 τ1 G1 t1 s1 g1 ⟨G0, l, q1⟩ => hQ .non H1 .non G0 t1 .non (g1.le l) q1, fun v H1 w G1 t1 r1 g1 ⟨G0, l, q1⟩ => hQ v H1 w G0 t1 r1 (g1.le l) q1, fun _ _ _ _ _ _ _ z => z.elim, fun _ _ _ _ _ _ _ z => z.elim⟩⟩
noncomputable def LCall (K : PySem.W.Frag) (r : List W → Gp → WK → Prop) : List V → Hp → VK → Prop := fun vs H Q => ∃ ws G q, Reps K H ws vs ∧ RelG K H G ∧ r ws G q ∧ ∀ v H1 w G1, TLe H H1 → Rep K H1 w v → RelG K H1 G1 → q w G1 → Q v H1
noncomputable def QCall (X : Cx) (f : Value) (r : List W → Gp → WK → Prop) : Prop := CallR X f (LCall X.K r)
noncomputable def wCB (r : List W → Gp → WK → Prop) (t : WA) : WE := fun τ G q => t τ G fun ws G1 => r ws G1 q
theorem LEx.cb {K : PySem.W.Frag} {r : List W → Gp → WK → Prop} {t : WA} {σ : St} {H : Hp} {Q : VK} (h : LEx K (wCB r t) σ H Q) : tCB (LCall K r) (LA K t) σ H Q := by
  obtain ⟨τ, G, q, hs, hg, ht, hQ⟩ := h
  exact ⟨τ, G, _, hs, hg, ht, fun vs H1 ws G1 t1 r1 g1 q1 => ⟨ws, G1, q, r1, g1, q1, fun v H2 w G2 t2 => hQ v H2 w G2 (t1.trans t2)⟩⟩
theorem qe_callB {id : String} {r : List W → Gp → WK → Prop} {x : Str} {p pos : Pos} {e : Expr} {es : List Expr} {t : WA} (hc : QCall X (.builtin id) r) (hg : Gl X x) (hm : X.mg x = none) (hv : bootBuiltins x = some (.builtin id)) (ha : QA X (e :: es) t)
    (hn : x ≠ "__name__" := by decide) (hdb : (x == ("__debug__" : Str)) = false := by decide)
    (he : starEach (e :: es) X.env = (false, eval e X.env) :: starEach es X.env := by rfl) (hpl : (backTo pos (starEach es X.env)).any (·.1) = false := by rfl) : QE X (.Call (.Name x p) (e :: es) [] pos) (wCB r t) :=
  (pe_callB hc hg hm hv ha hn hdb he hpl).imp fun _ _ _ h => h.cb
theorem qe_callTy {T : String} {r : List W → Gp → WK → Prop} {x : Str} {p pos : Pos} {e : Expr} {es : List Expr} {t : WA} (hc : QCall X (.type T) r) (hg : Gl X x) (hm : X.mg x = none) (hv : bootBuiltins x = some (.type T)) (ha : QA X (e :: es) t)
    (hn : x ≠ "__name__" := by decide) (hdb : (x == ("__debug__" : Str)) = false := by decide)
    (he : starEach (e :: es) X.env = (false, eval e X.env) :: starEach es X.env := by rfl) (hpl : (backTo pos (starEach es X.env)).any (·.1) = false := by rfl) : QE X (.Call (.Name x p) (e :: es) [] pos) (wCB r t) :=
  (pe_callTy hc hg hm hv ha hn hdb he hpl).imp fun _ _ _ h => h.cb
theorem Reps.one {K : PySem.W.Frag} {H : Hp} {w : W} {vs : List V} (r : Reps K H [w] vs) : ∃ v, vs = [v] ∧ Rep K H w v := by
  cases r with
  | cons r rs => cases rs; exact ⟨_, rfl, r⟩
theorem Reps.two {K : PySem.W.Frag} {H : Hp} {w u : W} {vs : List V} (r : Reps K H [w, u] vs) : ∃ v x, vs = [v, x] ∧ Rep K H w v ∧ Rep K H u x := by
  cases r with
  | cons r rs =>
    obtain ⟨x, rfl, r2⟩ := rs.one
    exact ⟨_, _, rfl, r, r2⟩
noncomputable def cLen : List W → Gp → WK → Prop := fun ws G q => match ws with
  | [.tup xs] => q (.int xs.length) G
  | [.scr ns] => q (.int ns.length) G
  | [.ref a] => ∃ xs, G a = some (.lst xs) ∧ q (.int xs.length) G
  | _ => False
theorem q_len : QCall X (.builtin "len") cLen := by
  intro pins s σ H xs us Q I r ⟨ws, G, q, rw', g, h, hQ⟩
  cases rw' with
  | nil => exact False.elim h
  | cons r1 rr' =>
    cases rr' with
    | cons _ _ => cases r1 <;> exact False.elim h
    | nil =>
      cases r1 with
      | tup hh rr => exact call_len_seq pins s σ H _ us Q I r ⟨_, _, rfl, .inr (SqT.of hh), hQ _ H _ G (TLe.refl H) (by rw [rr.length]; exact .int _) g h⟩
      | scr hh => exact call_len_seq pins s σ H _ us Q I r ⟨_, _, rfl, .inl hh.sq, hQ _ H _ G (TLe.refl H) (by rw [List.length_map]; exact .int _) g h⟩
      | ref a =>
        obtain ⟨ys, e, h⟩ := h
        obtain ⟨_, zs, e1, rr⟩ := g a _ e
        exact call_len_seq pins s σ H _ us Q I r ⟨_, _, rfl, .inl (SqL.of e1), hQ _ H _ G (TLe.refl H) (by rw [rr.length]; exact .int _) g h⟩
      | _ => exact False.elim h
noncomputable def cTuple : List W → Gp → WK → Prop := fun ws G q => match ws with
  | [.tup xs] => q (.tup xs) G
  | [.ref a] => ∃ xs, G a = some (.lst xs) ∧ q (.tup xs) G
  | _ => False
theorem q_tuple : QCall X (.type "tuple") cTuple := by
  intro pins s σ H xs us Q I r ⟨ws, G, q, rw', g, h, hQ⟩
  cases rw' with
  | nil => exact False.elim h
  | cons r1 rr' =>
    cases rr' with
    | cons _ _ => cases r1 <;> exact False.elim h
    | nil =>
      cases r1 with
      | tup hh rr => exact call_tuple_of pins s σ H _ us Q I r ⟨_, _, rfl, .inr ⟨SqT.of hh, hQ _ H _ G (TLe.refl H) (.tup hh rr) g h⟩⟩
      | ref a =>
        obtain ⟨ys, e, h⟩ := h
        obtain ⟨_, zs, e1, rr⟩ := g a _ e
        exact call_tuple_of pins s σ H _ us Q I r ⟨_, _, rfl, .inl ⟨SqL.of e1, fun l hl => hQ _ _ _ G (TLe.new hl _) (.tup upd_same (rr.mono (TLe.new hl _))) (g.keep hl _) h⟩⟩
      | _ => exact False.elim h
noncomputable def cList : List W → Gp → WK → Prop := fun ws G q => match ws with
  | [.tup xs] => xs.length ≤ 100000 ∧ ∀ p, G p = none → q (.ref p) (updG G p (.lst xs))
  | [.ref a] => ∃ xs, G a = some (.lst xs) ∧ ∀ p, G p = none → q (.ref p) (updG G p (.lst xs))
  | _ => False
noncomputable def cInt : List W → Gp → WK → Prop := fun ws G q => match ws with
  | [.int i] => q (.int i) G
  | [.bl b] => q (.int (if b then 1 else 0)) G
  | _ => False
theorem q_int : QCall X (.type "int") cInt := by
  intro pins s σ H xs us Q I r ⟨ws, G, q, rw', g, h, hQ⟩
  cases rw' with
  | nil => exact False.elim h
  | cons r1 rr' =>
    cases rr' with
    | cons _ _ => cases r1 <;> exact False.elim h
    | nil =>
      cases r1 with
      | int i => exact call_int1 pins s σ H _ us Q I r (.inl ⟨_, rfl, hQ _ H _ G (TLe.refl H) (.int _) g h⟩)
      | bl b => exact call_int1 pins s σ H _ us Q I r (.inr ⟨_, rfl, hQ _ H _ G (TLe.refl H) (.int _) g h⟩)
      | _ => exact False.elim h
noncomputable def cMax : List W → Gp → WK → Prop := fun ws G q => match ws with
  | [.int i, .int j] => q (.int (if j > i then j else i)) G
  | _ => False
noncomputable def vAdd : W2 := fun x y G q => match x, y with
  | .int i, .int j => q (.int (i + j)) G
  | .tup xs, .tup ys => xs.length + ys.length ≤ 100000 ∧ q (.tup (xs ++ ys)) G
  | .ref a, .ref b => ∃ xs ys, G a = some (.lst xs) ∧ G b = some (.lst ys) ∧ xs.length + ys.length ≤ 100000 ∧ ∀ p, G p = none → q (.ref p) (updG G p (.lst (xs ++ ys)))
  | _, _ => False
theorem cat0 {pins : List (Addr × Obj)} {σ : St} {H : Hp} {s : Shared} {a b : Addr} {ys : List V} {Q : VK} (I : Inv X pins σ H s) (ha : H a = some (.tup [])) (hb : H b = some (.tup ys)) (q : Q (.ref b) H) : wpAny (model X.prog X.w) X.A (binaryOp .Add (.ref a) (.ref b)) (EP X pins σ Q) X.xe s := by
  obtain ⟨its, r1, p1, _⟩ := I.tuple (SqT.of ha)
  obtain ⟨its2, r2, p2, _⟩ := I.tuple (SqT.of hb)
  cases r1
  obtain ⟨⟨cls, dd, data, sl⟩, ho, hc, n, hd⟩ := id p1
  obtain ⟨⟨cls2, dd2, data2, sl2⟩, ho2, hc2, n2, hd2⟩ := id p2
  simp only at hc hd hc2 hd2
  subst hc hd hc2 hd2
  exact concat_meets ⟨_, ho, rfl⟩ ⟨_, ho2, rfl⟩ noFill_tuple_add seq_tuple_add PySem.F.slot_tuple_add PySem.F.entry_tuple_add (PySem.F.args_tuple_add_2 _ _)
    (tuple_addW0 a b #[] its2.toArray n n2 dd dd2 sl sl2 rfl) ⟨ho, ho2, ⟨.ref b, H, I, rfl, q⟩⟩
theorem q_add : QOp X (binaryOp .Add) vAdd := by
  intro pins s σ H x y v u Q I rx ry ⟨wx, wy, G, q, r1, r2, g, h, hQ⟩
  cases r1 with
  | int i =>
    cases r2 with
    | int j => exact op_add pins s σ H _ _ v u Q I rx ry ⟨_, _, rfl, rfl, hQ _ H _ G (TLe.refl H) (.int _) g h⟩
    | _ => exact False.elim h
  | @tup a ws xs ha ra =>
    cases r2 with
    | @tup b us ys hb rb =>
      cases xs with
      | nil =>
        cases ra
        cases rx
        cases ry
        exact cat0 I ha hb (hQ _ H _ G (TLe.refl H) (.tup hb rb) g h.2)
      | cons x0 xr =>
        refine op_catT pins s σ H _ _ v u Q I rx ry ⟨a, b, _, _, rfl, rfl, SqT.of ha, SqT.of hb, by simp, by rw [← ra.length, ← rb.length]; exact line_le h.1, fun e => ?_, fun _ p hp => ?_⟩
        · subst e
          cases rb
          have h2 := h.2
          rw [List.append_nil] at h2
          exact hQ _ H _ G (TLe.refl H) (.tup ha ra) g h2
        · exact hQ _ _ _ G (TLe.new hp _) (.tup upd_same ((ra.append rb).mono (TLe.new hp _))) (g.keep hp _) h.2
    | _ => exact False.elim h
  | ref a =>
    cases r2 with
    | ref b =>
      obtain ⟨xs, ys, ea, eb, hl, h⟩ := h
      obtain ⟨_, xs', ha, ra⟩ := g _ _ ea
      obtain ⟨_, ys', hb, rb⟩ := g _ _ eb
      refine op_cat pins s σ H _ _ v u Q I rx ry ⟨_, _, _, _, rfl, rfl, ha, hb, by rw [← ra.length, ← rb.length]; exact line_le hl, fun p hp => ?_⟩
      exact hQ _ _ _ _ (TLe.new hp _) (.ref p) (g.put (TLe.new hp _) (ra.append rb) (by rw [List.length_append]; exact hl)) (h p (g.fresh hp))
    | _ => exact False.elim h
  | _ => exact False.elim h
noncomputable def vInt (C : Int → Int → Prop) (f : Int → Int → W) : W2 := fun x y G q => match x, y with
  | .int i, .int j => C i j ∧ q (f i j) G
  | _, _ => False
theorem q_rint {f : Value → Value → Sem Value} {C : Int → Int → Prop} {g : Int → Int → Int} (h : OpR X f (rI C fun i j => .int (g i j))) : QOp X f (vInt C fun i j => .int (g i j)) := by
  intro pins s σ H x y v u Q I rx ry ⟨wx, wy, G, q, r1, r2, gg, hh, hQ⟩
  unfold vInt at hh
  split at hh
  · cases r1
    cases r2
    exact h pins s σ H _ _ v u Q I rx ry ⟨_, _, rfl, rfl, hh.1, hQ _ H _ G (TLe.refl H) (.int _) gg hh.2⟩
  · exact hh.elim
noncomputable def vInt0 (f : Int → Int → W) : W2 := fun x y G q => match x, y with
  | .int i, .int j => q (f i j) G
  | _, _ => False
theorem q_rbl {f : Value → Value → Sem Value} {g : Int → Int → Bool} (h : OpR X f (rI0 fun i j => .bl (g i j))) : QOp X f (vInt0 fun i j => .bl (g i j)) := by
  intro pins s σ H x y v u Q I rx ry ⟨wx, wy, G, q, r1, r2, gg, hh, hQ⟩
  unfold vInt0 at hh
  split at hh
  · cases r1
    cases r2
    exact h pins s σ H _ _ v u Q I rx ry ⟨_, _, rfl, rfl, hQ _ H _ G (TLe.refl H) (.bl _) gg hh⟩
  · exact hh.elim
noncomputable abbrev vMod : W2 := vInt (fun _ j => 0 < j) fun i j => .int (i % j)
noncomputable abbrev vPow : W2 := vInt CPow fun i j => .int (i ^ j.toNat)
theorem q_mod : QOp X (binaryOp .Mod) vMod := q_rint op_mod
theorem q_pow : QOp X (binaryOp .Pow) vPow := q_rint op_pow
noncomputable abbrev vLe : W2 := vInt0 fun i j => .bl (decide (i ≤ j))
noncomputable abbrev vGt : W2 := vInt0 fun i j => .bl (decide (j < i))
noncomputable abbrev vGe : W2 := vInt0 fun i j => .bl (decide (j ≤ i))
theorem q_le : QOp X (compareOp .LtE) vLe := q_rbl op_le
theorem q_gt : QOp X (compareOp .Gt) vGt := q_rbl op_gt
theorem q_ge : QOp X (compareOp .GtE) vGe := q_rbl op_ge
noncomputable def rIx3 : W2 := fun x y G q => match x, y with
  | .tup xs, .int i => ∃ w, atI xs i = some w ∧ q w G
  | .scr ns, .int i => ∃ n, atI ns i = some n ∧ q (.int n) G
  | .ref a, .int i => ∃ xs w, G a = some (.lst xs) ∧ atI xs i = some w ∧ q w G
  | _, _ => False
theorem Reps.at {K : PySem.W.Frag} {H : Hp} {ws : List W} {vs : List V} {i : Int} {w : W} (r : Reps K H ws vs) (e : atI ws i = some w) : ∃ v, atI vs i = some v ∧ Rep K H w v := by
  unfold atI at e ⊢
  rw [r.length] at e
  cases h : ixN vs.length i with
  | none => rw [h] at e; cases e
  | some j =>
    rw [h] at e
    exact r.get e
theorem atI_map {α β : Type} (f : α → β) (xs : List α) (i : Int) : atI (xs.map f) i = (atI xs i).map f := by
  unfold atI
  rw [List.length_map]
  cases ixN xs.length i with
  | none => rfl
  | some j => simp
theorem q_ix : QIx X rIx3 := by
  intro value slice pins s σ H x y v u Q I rx ry ⟨wx, wy, G, q, r1, r2, g, h, hQ⟩ hsl
  cases r2 with
  | int i =>
    cases r1 with
    | tup hh rr =>
      obtain ⟨w, e, h⟩ := h
      obtain ⟨v', e', r'⟩ := rr.at e
      exact ix_tup value slice pins s σ H _ _ v u Q I rx ry ⟨_, _, _, v', rfl, rfl, SqT.of hh, e', hQ _ H _ G (TLe.refl H) r' g h⟩ hsl
    | scr hh =>
      obtain ⟨n, e, h⟩ := h
      exact ix_list value slice pins s σ H _ _ v u Q I rx ry ⟨_, _, _, .int n, rfl, rfl, hh.sq, by rw [atI_map, e]; rfl, hQ _ H _ G (TLe.refl H) (.int n) g h⟩ hsl
    | ref a =>
      obtain ⟨xs, w, ea, e, h⟩ := h
      obtain ⟨_, zs, e1, rr⟩ := g _ _ ea
      obtain ⟨v', e', r'⟩ := rr.at e
      exact ix_list value slice pins s σ H _ _ v u Q I rx ry ⟨_, _, _, v', rfl, rfl, SqL.of e1, e', hQ _ H _ G (TLe.refl H) r' g h⟩ hsl
    | _ => exact False.elim h
  | _ => cases r1 <;> exact False.elim h
end
end L2
namespace L2
open PySem PySem.Spec PyProof.Rows
mutual
noncomputable def W.flat : W → Bool
  | .tup xs => W.flats xs
  | .ref _ => false
  | .scr _ => false
  | _ => true
noncomputable def W.flats : List W → Bool
  | [] => true
  | x :: xs => W.flat x && W.flats xs
end
mutual
noncomputable def W.dep : W → Nat
  | .tup xs => W.deps xs + 1
  | _ => 0
noncomputable def W.deps : List W → Nat
  | [] => 0
  | x :: xs => max (W.dep x) (W.deps xs)
end
mutual
noncomputable def W.eq : W → W → Bool
  | .non, .non => true
  | .bl a, .bl b => a == b
  | .bl a, .int j => (if a then 1 else 0) == j
  | .int i, .bl b => i == (if b then 1 else 0)
  | .int i, .int j => i == j
  | .str x, .str y => x == y
  | .tup xs, .tup ys => W.eqs xs ys
  | _, _ => false
noncomputable def W.eqs : List W → List W → Bool
  | [], [] => true
  | x :: xs, y :: ys => W.eq x y && W.eqs xs ys
  | _, _ => false
end
theorem noFT {P : Prop} (h : false = true) : P := Bool.noConfusion h
theorem W.eq_int (i j : Int) : (W.int i).eq (W.int j) = (i == j) := rfl
theorem W.eq_tup (xs ys : List W) : (W.tup xs).eq (W.tup ys) = W.eqs xs ys := rfl
mutual
theorem W.eq_refl : ∀ w : W, w.flat = true → w.eq w = true
  | .non, _ => rfl
  | .bl b, _ => beq_self_eq_true b
  | .int i, _ => beq_self_eq_true i
  | .str x, _ => beq_self_eq_true x
  | .tup xs, h => W.eqs_refl xs h
  | .ref _, h => noFT h
  | .scr _, h => noFT h
theorem W.eqs_refl : ∀ ws : List W, W.flats ws = true → W.eqs ws ws = true
  | [], _ => rfl
  | x :: xs, h => by
    have h' : x.flat = true ∧ W.flats xs = true := (Bool.and_eq_true _ _).mp h
    exact (Bool.and_eq_true _ _).mpr ⟨W.eq_refl x h'.1, W.eqs_refl xs h'.2⟩
end
mutual
theorem Rep.inj {K : PySem.W.Frag} {H : Hp} : ∀ {w u : W} {v : V}, w.flat = true → u.flat = true → Rep K H w v → Rep K H u v → w = u := by
  intro w u v h1 h2 r1 r2
  cases r1 with
  | non => cases r2; rfl
  | bl _ => cases r2; rfl
  | int _ => cases r2; rfl
  | str _ => cases r2; rfl
  | ref _ => exact noFT h1
  | scr _ => exact noFT h1
  | tup e1 r1 =>
    cases r2 with
    | ref _ => exact noFT h2
    | scr _ => exact noFT h2
    | tup e2 r2 =>
      rw [e1] at e2; cases e2
      rw [Reps.inj h1 h2 r1 r2]
theorem Reps.inj {K : PySem.W.Frag} {H : Hp} : ∀ {ws us : List W} {vs : List V}, W.flats ws = true → W.flats us = true → Reps K H ws vs → Reps K H us vs → ws = us := by
  intro ws us vs h1 h2 r1 r2
  cases r1 with
  | nil => cases r2; rfl
  | cons r1 s1 =>
    cases r2 with
    | cons r2 s2 =>
      simp only [W.flats, Bool.and_eq_true] at h1 h2
      rw [Rep.inj h1.1 h2.1 r1 r2, Reps.inj h1.2 h2.2 s1 s2]
end
theorem W.flats_get : ∀ {ws : List W} {j : Nat} {w : W}, W.flats ws = true → ws[j]? = some w → w.flat = true
  | [], _, _, _, e => by simp at e
  | x :: xs, 0, w, h, e => by
    have h' : x.flat = true ∧ W.flats xs = true := by simpa [W.flats] using h
    simp at e; subst e; exact h'.1
  | x :: xs, j + 1, w, h, e => by
    have h' : x.flat = true ∧ W.flats xs = true := by simpa [W.flats] using h
    exact W.flats_get h'.2 (by simpa using e)
theorem W.deps_get : ∀ {ws : List W} {j : Nat} {w : W}, ws[j]? = some w → w.dep ≤ W.deps ws
  | [], _, _, e => by simp at e
  | x :: xs, 0, w, e => by simp at e; subst e; simp [W.deps]; omega
  | x :: xs, j + 1, w, e => by
    have := W.deps_get (ws := xs) (j := j) (w := w) (by simpa using e)
    simp only [W.deps]; (clear e; omega)
theorem W.eqs_iff : ∀ (ws us : List W), W.eqs ws us = true ↔ ws.length = us.length ∧ ∀ (j : Nat) (a b : W), ws[j]? = some a → us[j]? = some b → W.eq a b = true
  | [], [] => by simp [W.eqs]
  | [], _ :: _ => by simp [W.eqs]
  | _ :: _, [] => by simp [W.eqs]
  | x :: xs, y :: ys => by
    rw [W.eqs, Bool.and_eq_true, W.eqs_iff xs ys]
    constructor
    · rintro ⟨h1, h2, h3⟩
      refine ⟨by simp [h2], fun j a b ea eb => ?_⟩
      cases j with
      | zero => simp at ea eb; subst ea eb; exact h1
      | succ j => exact h3 j a b (by simpa using ea) (by simpa using eb)
    · rintro ⟨h1, h2⟩
      exact ⟨h2 0 x y rfl rfl, by simpa using h1, fun j a b ea eb => h2 (j + 1) a b (by simpa using ea) (by simpa using eb)⟩
noncomputable def eqAtJ (ws us : List W) (j : Nat) : Bool := match ws[j]?, us[j]? with | some a, some b => W.eq a b | _, _ => true
theorem eqs_range (ws us : List W) : ((List.range (min ws.length us.length)).all (eqAtJ ws us) && (ws.length == us.length)) = W.eqs ws us := by
  rw [Bool.eq_iff_iff, Bool.and_eq_true, W.eqs_iff, List.all_eq_true, beq_iff_eq]
  constructor
  · rintro ⟨h1, h2⟩
    refine ⟨h2, fun j a b ea eb => ?_⟩
    have hj : j < ws.length := (List.getElem?_eq_some_iff.mp ea).1
    have := h1 j (List.mem_range.mpr (by (clear h1 ea eb; omega)))
    unfold eqAtJ at this
    rw [ea, eb] at this
    exact this
  · rintro ⟨h1, h2⟩
    refine ⟨fun j _ => ?_, h1⟩
    unfold eqAtJ
    split
    · rename_i a b ea eb; exact h2 j a b ea eb
    · rfl
section
variable {X : Cx} {pins : List (Addr × Obj)} {σ : St} {H : Hp} {s : Shared}
theorem Inv.tupH {a : Addr} {xs : List V} (I : Inv X pins σ H s) (h : H a = some (.tup xs)) : ∃ its : List Value, Vals xs its ∧ s.heap.IsTuple a its.toArray ∧ xs.length ≤ sizeLine := I.tuple (SqT.of h)
theorem eq_rep (I : Inv X pins σ H s) : ∀ (n : Nat) (A : Around) {w1 w2 : W} {v1 v2 : V} {u1 u2 : Value}, w1.dep < n → w1.flat = true → w2.flat = true → A.units + n < cLine → Rep X.K H w1 v1 → Rep X.K H w2 v2 → RelV v1 u1 → RelV v2 u2 →
    SeqAt.EqAt A s u1 u2 (w1.eq w2) ∧ SeqAt.RcAt A s u1 u2 (w1.eq w2) ∧ SeqAt.RcNeAt A s u1 u2 (!(w1.eq w2)) := by
  intro n
  induction n with
  | zero => intro A w1 w2 v1 v2 u1 u2 h; (clear I; omega)
  | succ n ih =>
    intro A w1 w2 v1 v2 u1 u2 hd f1 f2 hu r1 r2 q1 q2
    have hu0 : A.units < cLine := by (clear I ih f1 f2 r1 r2 q1 q2; omega)
    have hui : A.in1.units + n < cLine := by show A.units + 1 + n < cLine; (clear I ih hd f1 f2 r1 r2 q1 q2 hu0; omega)
    cases r1 with
    | ref a => exact noFT f1
    | scr a => exact noFT f1
    | non =>
      cases (show u1 = Value.none from q1)
      cases r2 with
      | ref a => exact noFT f2
      | scr a => exact noFT f2
      | non => cases (show u2 = Value.none from q2); exact ⟨SeqAt.EqAt.same _, SeqAt.RcAt.none_none, SeqAt.RcNeAt.none_none⟩
      | bl b => cases (show u2 = Value.bool b from q2); exact ⟨SeqAt.EqAt.none_bool b, SeqAt.RcAt.none_bool b, SeqAt.RcNeAt.none_bool b⟩
      | int b => obtain ⟨t, rfl⟩ := q2; exact ⟨SeqAt.EqAt.none_int b t, SeqAt.RcAt.none_int b t, SeqAt.RcNeAt.none_int b t⟩
      | str b => obtain ⟨t, rfl⟩ := q2; exact ⟨SeqAt.EqAt.none_str b t, SeqAt.RcAt.none_str b t, SeqAt.RcNeAt.none_str b t⟩
      | tup h r =>
        cases (show u2 = Value.ref _ from q2)
        obtain ⟨its, _, p, _⟩ := Inv.tupH I h
        exact ⟨SeqAt.EqAt.none_tuple p hu0, SeqAt.RcAt.none_tuple p hu0, SeqAt.RcNeAt.none_tuple p hu0⟩
    | bl a =>
      cases (show u1 = Value.bool a from q1)
      cases r2 with
      | ref a => exact noFT f2
      | scr a => exact noFT f2
      | non => cases (show u2 = Value.none from q2); exact ⟨SeqAt.EqAt.bool_none a, SeqAt.RcAt.bool_none a, SeqAt.RcNeAt.bool_none a⟩
      | bl b => cases (show u2 = Value.bool b from q2); exact ⟨SeqAt.EqAt.bool_bool a b, SeqAt.RcAt.bool_bool a b, SeqAt.RcNeAt.bool_bool a b⟩
      | int b => obtain ⟨t, rfl⟩ := q2; exact ⟨SeqAt.EqAt.bool_int a b t, SeqAt.RcAt.bool_int a b t, SeqAt.RcNeAt.bool_int a b t⟩
      | str b => obtain ⟨t, rfl⟩ := q2; exact ⟨SeqAt.EqAt.bool_str a b t, SeqAt.RcAt.bool_str a b t, SeqAt.RcNeAt.bool_str a b t⟩
      | tup h r =>
        cases (show u2 = Value.ref _ from q2)
        obtain ⟨its, _, p, _⟩ := Inv.tupH I h
        exact ⟨SeqAt.EqAt.bool_tuple a p hu0, SeqAt.RcAt.bool_tuple a p hu0, SeqAt.RcNeAt.bool_tuple a p hu0⟩
    | int a =>
      obtain ⟨ta, rfl⟩ := q1
      cases r2 with
      | ref a => exact noFT f2
      | scr a => exact noFT f2
      | non => cases (show u2 = Value.none from q2); exact ⟨SeqAt.EqAt.int_none a ta, SeqAt.RcAt.int_none a ta, SeqAt.RcNeAt.int_none a ta⟩
      | bl b => cases (show u2 = Value.bool b from q2); exact ⟨SeqAt.EqAt.int_bool a ta b, SeqAt.RcAt.int_bool a ta b, SeqAt.RcNeAt.int_bool a ta b⟩
      | int b => obtain ⟨t, rfl⟩ := q2; exact ⟨SeqAt.EqAt.int_int a ta b t, SeqAt.RcAt.int_int a ta b t, SeqAt.RcNeAt.int_int a ta b t⟩
      | str b => obtain ⟨t, rfl⟩ := q2; exact ⟨SeqAt.EqAt.int_str a ta b t, SeqAt.RcAt.int_str a ta b t, SeqAt.RcNeAt.int_str a ta b t⟩
      | tup h r =>
        cases (show u2 = Value.ref _ from q2)
        obtain ⟨its, _, p, _⟩ := Inv.tupH I h
        exact ⟨SeqAt.EqAt.int_tuple a ta p hu0, SeqAt.RcAt.int_tuple a ta p hu0, SeqAt.RcNeAt.int_tuple a ta p hu0⟩
    | str a =>
      obtain ⟨ta, rfl⟩ := q1
      cases r2 with
      | ref a => exact noFT f2
      | scr a => exact noFT f2
      | non => cases (show u2 = Value.none from q2); exact ⟨SeqAt.EqAt.str_none a ta, SeqAt.RcAt.str_none a ta, SeqAt.RcNeAt.str_none a ta⟩
      | bl b => cases (show u2 = Value.bool b from q2); exact ⟨SeqAt.EqAt.str_bool a ta b, SeqAt.RcAt.str_bool a ta b, SeqAt.RcNeAt.str_bool a ta b⟩
      | int b => obtain ⟨t, rfl⟩ := q2; exact ⟨SeqAt.EqAt.str_int a ta b t, SeqAt.RcAt.str_int a ta b t, SeqAt.RcNeAt.str_int a ta b t⟩
      | str b => obtain ⟨t, rfl⟩ := q2; exact ⟨SeqAt.EqAt.str_str a ta b t, SeqAt.RcAt.str_str a ta b t, SeqAt.RcNeAt.str_str a ta b t⟩
      | tup h r =>
        cases (show u2 = Value.ref _ from q2)
        obtain ⟨its, _, p, _⟩ := Inv.tupH I h
        exact ⟨SeqAt.EqAt.str_tuple a ta p hu0, SeqAt.RcAt.str_tuple a ta p hu0, SeqAt.RcNeAt.str_tuple a ta p hu0⟩
    | @tup a ws xs h r =>
      cases (show u1 = Value.ref _ from q1)
      obtain ⟨its, rv, p, _⟩ := Inv.tupH I h
      cases r2 with
      | ref a => exact noFT f2
      | scr a => exact noFT f2
      | non => cases (show u2 = Value.none from q2); exact ⟨SeqAt.EqAt.tuple_none p hu0, SeqAt.RcAt.tuple_none p hu0, SeqAt.RcNeAt.tuple_none p hu0⟩
      | bl b => cases (show u2 = Value.bool b from q2); exact ⟨SeqAt.EqAt.tuple_bool b p hu0, SeqAt.RcAt.tuple_bool b p hu0, SeqAt.RcNeAt.tuple_bool b p hu0⟩
      | int b => obtain ⟨t, rfl⟩ := q2; exact ⟨SeqAt.EqAt.tuple_int b t p hu0, SeqAt.RcAt.tuple_int b t p hu0, SeqAt.RcNeAt.tuple_int b t p hu0⟩
      | str b => obtain ⟨t, rfl⟩ := q2; exact ⟨SeqAt.EqAt.tuple_str b t p hu0, SeqAt.RcAt.tuple_str b t p hu0, SeqAt.RcNeAt.tuple_str b t p hu0⟩
      | @tup b us ys h2 r2 =>
        cases (show u2 = Value.ref _ from q2)
        obtain ⟨its2, rv2, p2, _⟩ := Inv.tupH I h2
        have g1 : W.flats ws = true := f1
        have g2 : W.flats us = true := f2
        have hd' : W.deps ws < n := by simp only [W.dep] at hd; (clear I ih hu hu0 hui h r f1 q1 rv p h2 r2 f2 q2 rv2 p2 g1 g2; omega)
        have e1 : its.length = ws.length := by rw [← rv.length, r.length]
        have e2 : its2.length = us.length := by rw [← rv2.length, r2.length]
        have he : ∀ j (h1 : j < its.toArray.size) (h2 : j < its2.toArray.size), SeqAt.EqAt A.in1 s its.toArray[j] its2.toArray[j] (eqAtJ ws us j) := fun j j1 j2 => by
          rw [List.size_toArray] at j1 j2
          have ea : ws[j]? = some ws[j] := List.getElem?_eq_getElem (by (clear I ih hu hu0 hui h r hd f1 q1 rv p h2 r2 f2 q2 rv2 p2 g1 g2 hd' e2 j2; omega))
          have eb : us[j]? = some us[j] := List.getElem?_eq_getElem (by (clear I ih hu hu0 hui h r hd f1 q1 rv p h2 r2 f2 q2 rv2 p2 g1 g2 hd' e1 j1 ea; omega))
          obtain ⟨va, ea1, ra⟩ := r.get ea
          obtain ⟨vb, eb1, rb⟩ := r2.get eb
          obtain ⟨ua, ea2, qa⟩ := rv.get ea1
          obtain ⟨ub, eb2, qb⟩ := rv2.get eb1
          have za : its.toArray[j] = ua := by
            have := (List.getElem?_eq_some_iff.mp ea2).2
            simpa using this
          have zb : its2.toArray[j] = ub := by
            have := (List.getElem?_eq_some_iff.mp eb2).2
            simpa using this
          rw [za, zb]
          have := (ih A.in1 (w1 := ws[j]) (w2 := us[j]) (Nat.lt_of_le_of_lt (W.deps_get ea) hd') (W.flats_get g1 ea) (W.flats_get g2 eb) hui ra rb qa qb).1
          unfold eqAtJ
          rw [ea, eb]
          exact this
        have er := eqs_range ws us
        have c1 := SeqAt.RcAt.tuples p p2 hu0 he
        have c2 := SeqAt.RcNeAt.tuples p p2 hu0 he
        rw [List.size_toArray, List.size_toArray, e1, e2, er] at c1 c2
        have ee : (W.tup ws).eq (W.tup us) = W.eqs ws us := rfl
        rw [ee]
        refine ⟨?_, c1, c2⟩
        by_cases hab : a = b
        · subst hab
          have z := Rep.inj f1 f2 (Rep.tup h r) (Rep.tup h2 r2)
          have t : W.eqs ws us = true := by
            cases z
            exact W.eqs_refl ws g1
          rw [t]
          exact SeqAt.EqAt.same _
        · exact SeqAt.EqAt.of_refs hab c1
end
section
variable {X : Cx}
noncomputable def rEq3 : W2 := fun x y G q => x.flat = true ∧ y.flat = true ∧ x.dep ≤ 150 ∧ q (.bl (x.eq y)) G
noncomputable def rNe3 : W2 := fun x y G q => x.flat = true ∧ y.flat = true ∧ x.dep ≤ 150 ∧ q (.bl (!(x.eq y))) G
theorem q_eq {k : Nat} (hr : Room k X.A) : QOp X (compareOp .Eq) rEq3 := by
  intro pins s σ H x y v u Q I rx ry ⟨wx, wy, G, q, r1, r2, g, ⟨f1, f2, hd, h⟩, hQ⟩
  exact (eq_rep I 151 X.A (by (clear hr I rx ry r1 r2 g f1 f2 h hQ; omega)) f1 f2 (by have := hr.un; (clear hr I rx ry r1 r2 g f1 f2 hd h hQ; omega)) r1 r2 rx ry).2.1 X.prog X.w X.xe _ ⟨.bl _, H, I, rfl, hQ _ H _ G (TLe.refl H) (.bl _) g h⟩
theorem q_ne {k : Nat} (hr : Room k X.A) : QOp X (compareOp .NotEq) rNe3 := by
  intro pins s σ H x y v u Q I rx ry ⟨wx, wy, G, q, r1, r2, g, ⟨f1, f2, hd, h⟩, hQ⟩
  exact (eq_rep I 151 X.A (by (clear hr I rx ry r1 r2 g f1 f2 h hQ; omega)) f1 f2 (by have := hr.un; (clear hr I rx ry r1 r2 g f1 f2 hd h hQ; omega)) r1 r2 rx ry).2.2 X.prog X.w X.xe _ ⟨.bl _, H, I, rfl, hQ _ H _ G (TLe.refl H) (.bl _) g h⟩
noncomputable def rSub3 : W2 := fun x y G q => match x, y with
  | .int i, .int j => q (.int (i - j)) G
  | .bl a, .bl b => q (.int (b2i a - b2i b)) G
  | _, _ => False
theorem q_sub : QOp X (binaryOp .Sub) rSub3 := by
  intro pins s σ H x y v u Q I rx ry ⟨wx, wy, G, q, r1, r2, g, h, hQ⟩
  cases r1 with
  | int i =>
    cases r2 with
    | int j => exact op_sub pins s σ H _ _ v u Q I rx ry ⟨_, _, rfl, rfl, hQ _ H _ G (TLe.refl H) (.int _) g h⟩
    | _ => exact False.elim h
  | bl a =>
    cases r2 with
    | bl b =>
      cases rx
      cases ry
      exact sub_bool ⟨.int _, H, I.tok _, ⟨_, rfl⟩, hQ _ H _ G (TLe.refl H) (.int _) g h⟩
    | _ => exact False.elim h
  | _ => exact False.elim h
noncomputable def isNon : W → Bool
  | .non => true
  | _ => false
noncomputable def rIsN (neg : Bool) : W2 := fun x y G q => y = .non ∧ q (.bl (neg ^^ isNon x)) G
noncomputable abbrev WO := WSt → Gp → (Option Int → Gp → Prop) → Prop
noncomputable def LO (K : PySem.W.Frag) (t : WO) : TO := fun σ H Q => ∃ τ G q, RelSt K H τ σ ∧ RelG K H G ∧ t τ G q ∧ ∀ o H1 G1, TLe H H1 → RelG K H1 G1 → q o G1 → Q o H1
noncomputable def QO (X : Cx) (e : Option Expr) (t : WO) : Prop := PO X e (LO X.K t)
theorem PO.imp {e : Option Expr} {t t' : TO} (h : PO X e t) (f : ∀ σ H Q, t' σ H Q → t σ H Q) : PO X e t' := fun pins s σ H Q I q => h pins s σ H Q I (f _ _ _ q)
noncomputable def wNoPart : WO := fun _ G q => q none G
noncomputable def wPart (t : WE) : WO := fun τ G q => t τ G fun x G1 => match x with | .int i => q (some i) G1 | _ => False
theorem qo_none : QO X none wNoPart := po_none.imp fun σ H Q ⟨τ, G, q, hs, hg, ht, hQ⟩ => hQ none H G (TLe.refl H) hg ht
theorem qo_some {e : Expr} {te : WE} (h : QE X e te) : QO X (some e) (wPart te) :=
  (po_some h).imp fun σ H Q ⟨τ, G, q, hs, hg, ht, hQ⟩ => ⟨τ, G, _, hs, hg, ht, fun v H1 w G1 t1 r1 g1 q1 => by
    split at q1
    · cases r1
      exact ⟨_, rfl, hQ _ H1 G1 t1 g1 q1⟩
    · exact q1.elim⟩
noncomputable def cutW (xs : List W) (lo hi : Option Int) : List W := (xs.drop (HT.sIx xs.length 0 lo)).take (HT.sIx xs.length xs.length hi - HT.sIx xs.length 0 lo)
theorem Reps.cut {K : PySem.W.Frag} {H : Hp} {ws : List W} {vs : List V} (r : Reps K H ws vs) (lo hi : Option Int) : Reps K H (cutW ws lo hi) (cutV vs lo hi) := by
  unfold cutW cutV
  rw [r.length]
  exact (r.drop _).take _
noncomputable abbrev W3 := W → Option Int → Option Int → Gp → WK → Prop
noncomputable def rSl3 : W3 := fun x lo hi G q => match x with
  | .tup xs => q (.tup (cutW xs lo hi)) G
  | .scr ns => ns.length ≤ 100000 ∧ ∀ p, G p = none → q (.ref p) (updG G p (.lst (cutW (ns.map W.int) lo hi)))
  | .ref a => ∃ xs, G a = some (.lst xs) ∧ ∀ p, G p = none → q (.ref p) (updG G p (.lst (cutW xs lo hi)))
  | _ => False
theorem cutW_length (xs : List W) (lo hi : Option Int) : (cutW xs lo hi).length ≤ xs.length := by
  unfold cutW
  rw [List.length_take, List.length_drop]
  exact Nat.le_trans (Nat.min_le_right _ _) (Nat.sub_le _ _)
theorem cutW_whole {xs : List W} {lo hi : Option Int} (h : HT.sIx xs.length 0 lo = 0 ∧ HT.sIx xs.length xs.length hi = xs.length) : cutW xs lo hi = xs := by
  unfold cutW
  rw [h.1, h.2, List.drop_zero, Nat.sub_zero, List.take_length]
theorem tup_whole {prog : Program} {w : World} {A : Around} {E : Value → Shared → Prop} {s : Shared} {t sl : Addr} {items : Array Value} {vl vu : Value} {lo hi : Option Int} {Q : Value → Shared → Prop} (ht : IsTup s.heap t items) (hs : s.heap.IsSliceOf sl vl vu .none) (pl : IsPart vl lo) (pu : IsPart vu hi)
    (hw : HT.sIx items.size 0 lo = 0 ∧ HT.sIx items.size items.size hi = items.size) (h : Q (.ref t) s) : wpAny (model prog w) A (getItem (.ref t) (.ref sl)) Q E s := by
  obtain ⟨os, hos, hcs, hds⟩ := id hs
  have hTs : s.TypeIs (.ref sl) "slice" := ⟨os, hos, hcs⟩
  unfold getItem
  try with_reducible refine wpAny_holding ?_
  first | refine wpAny_bind (wpAny_pure ?_) | skip
  refine wpAny_bind (wpAny_sequenceKey ht.typeIs (by decide) ?_)
  refine wpAny_bind (wpAny_callSpecial?_slot (name := Str.ofString "__getitem__") ht.typeIs PyProof.Rows.slot_tuple_getitem
    (wpAny_call_entry PyProof.Rows.slot_tuple_getitem ht.typeIs entry_tuple_getitem ?_ (args_tuple_getitem _ _)))
  show wpAny _ _ (Builtin.Tuple.tupleItemsOf (.ref t) >>= _) _ _ s
  refine wpAny_bind (tupleItemsOf_ ht ?_)
  refine wpAny_bind (wpAny_typeOf hTs ?_)
  rw [if_pos (by decide)]
  refine wpAny_bind (HT.sliceApplied_gen hs pl pu ?_)
  have hyes : (((HT.sIx items.size 0 lo : Nat) : Int) == 0 && (1 : Int) == 1 && (HT.sIx items.size items.size hi - HT.sIx items.size 0 lo) == items.size) = true := by
    rw [hw.1, hw.2]; simp
  show wpAny _ _ (if (((HT.sIx items.size 0 lo : Nat) : Int) == 0 && (1 : Int) == 1 && (HT.sIx items.size items.size hi - HT.sIx items.size 0 lo) == items.size) = true then _ else _) _ _ s
  rw [if_pos hyes]
  refine wpAny_bind ?_
  show wpAny _ _ (typeOf (.ref t) >>= _) _ _ s
  refine wpAny_bind (wpAny_typeOf ht.typeIs (wpAny_pure ?_))
  rw [if_pos (by simp)]
  exact wpAny_bind (wpAny_rule (wpAny_pure ⟨_, rfl, wpAny_pure h⟩))
noncomputable def LSl (K : PySem.W.Frag) (r : W3) : V → Option Int → Option Int → Hp → VK → Prop := fun x lo hi H Q => ∃ w G q, Rep K H w x ∧ RelG K H G ∧ r w lo hi G q ∧ ∀ v H1 w G1, TLe H H1 → Rep K H1 w v → RelG K H1 G1 → q w G1 → Q v H1
theorem q_sl : SlR X (LSl X.K rSl3) := by
  intro pins s σ H x v vl vu lo hi sl Q I rx hs pl pu ⟨w, G, q, r, g, h, hQ⟩
  unfold rSl3 at h
  split at h
  · cases r with
    | @tup a ws xs hh rr =>
      by_cases hw : HT.sIx xs.length 0 lo = 0 ∧ HT.sIx xs.length xs.length hi = xs.length
      · cases rx
        obtain ⟨its, rv, ht, hz⟩ := I.tuple (SqT.of hh)
        have hlen : its.toArray.size = xs.length := by rw [List.size_toArray]; exact rv.length.symm
        refine ⟨"tuple", _, PyProof.Rows.slot_tuple_getitem.lookup, ht.typeIs, ?_⟩
        refine tup_whole ht hs pl pu (by rw [hlen]; exact hw) ⟨.ref a, H, I, rfl, ?_⟩
        rw [cutW_whole (by rw [rr.length]; exact hw)] at h
        exact hQ _ H _ G (TLe.refl H) (.tup hh rr) g h
      · exact sl_tup pins s σ H _ v vl vu lo hi sl Q I rx hs pl pu ⟨a, xs, rfl, SqT.of hh, hw, fun p hp => hQ _ _ _ G (TLe.new hp _) (.tup upd_same ((rr.cut lo hi).mono (TLe.new hp _))) (g.keep hp _) h⟩
  · rename_i ns
    cases r with
    | scr hh =>
      refine sl_list pins s σ H _ v vl vu lo hi sl Q I rx hs pl pu ⟨_, _, rfl, hh.sq, fun p hp => hQ _ _ _ _ (TLe.new hp _) (.ref p) (g.put (TLe.new hp _) ((Reps.ints ns).cut lo hi) ?_) (h.2 p (g.fresh hp))⟩
      exact Nat.le_trans (cutW_length _ _ _) (by rw [List.length_map]; exact h.1)
  · obtain ⟨xs, e, h⟩ := h
    cases r
    obtain ⟨hl, zs, e1, rr⟩ := g _ _ e
    exact sl_list pins s σ H _ v vl vu lo hi sl Q I rx hs pl pu ⟨_, zs, rfl, SqL.of e1, fun p hp => hQ _ _ _ _ (TLe.new hp _) (.ref p) (g.put (TLe.new hp _) (rr.cut lo hi) (Nat.le_trans (cutW_length _ _ _) hl)) (h p (g.fresh hp))⟩
  · exact h.elim
noncomputable def wSl (te : WE) (tl th : WO) : WE := fun τ G q => te τ G fun x G1 => tl τ G1 fun l G2 => th τ G2 fun u G3 => rSl3 x l u G3 q
theorem qe_slice {e : Expr} {lo hi : Option Expr} {te : WE} {tl th : WO} {pos p2 : Pos} (he : QE X e te) (hl : QO X lo tl) (hu : QO X hi th) : QE X (.Subscript e (.Slice lo hi none p2) pos) (wSl te tl th) :=
  (pe_slice q_sl he hl hu).imp fun σ H Q z0 => z0.el fun τ G q hs hg ht hQ => ⟨τ, G, _, hs, hg, ht, fun v H1 w G1 t1 r1 g1 q1 => ⟨τ, G1, _, hs.mono t1, g1, q1, fun l H2 G2 t2 g2 q2 =>
    ⟨τ, G2, _, (hs.mono t1).mono t2, g2, q2, fun u H3 G3 t3 g3 q3 => ⟨w, G3, q, (r1.mono t2).mono t3, g3, q3, fun v4 H4 w4 G4 t4 => hQ v4 H4 w4 G4 (((t1.trans t2).trans t3).trans t4)⟩⟩⟩⟩
theorem boot_isi : bootBuiltins "isinstance" = some (.builtin "isinstance") := by decide +kernel
noncomputable def tyN (G : Gp) : W → Option String
  | .non => some "NoneType"
  | .bl _ => some "bool"
  | .int _ => some "int"
  | .str _ => some "str"
  | .tup _ => some "tuple"
  | .ref a => match G a with | some (.lst _) => some "list" | some .dct => some "dict" | some (.dic _) => some "dict" | _ => none
  | .scr _ => none
noncomputable def subN : String → String → Bool
  | "int", "int" => true
  | "bool", "int" => true
  | "bool", "bool" => true
  | "tuple", "tuple" => true
  | "list", "list" => true
  | "str", "str" => true
  | _, _ => false
noncomputable def isiT (T : String) : Prop := T = "int" ∨ T = "bool" ∨ T = "tuple" ∨ T = "list" ∨ T = "str"
theorem kit_of {K : PySem.W.Frag} {t T : String} (ht : t = "NoneType" ∨ t = "bool" ∨ t = "int" ∨ t = "str" ∨ t = "tuple" ∨ t = "list" ∨ t = "dict") (hT : isiT T) : PySem.W.kitOne K (.type t) (.type T) = some (subN t T) := by
  rcases ht with rfl | rfl | rfl | rfl | rfl | rfl | rfl <;> rcases hT with rfl | rfl | rfl | rfl | rfl <;> first | rfl | kernel_rfl | decide +kernel
noncomputable def wIsi (T : String) (te : WE) : WE := fun τ G q => te τ G fun x G1 => match tyN G1 x with | some t => q (.bl (subN t T)) G1 | none => False
theorem tyOf_rep {K : PySem.W.Frag} {H : Hp} {G : Gp} {w : W} {v : V} {t : String} (g : RelG K H G) (r : Rep K H w v) (e : tyN G w = some t) : TyOf K H v (.type t) ∧ (t = "NoneType" ∨ t = "bool" ∨ t = "int" ∨ t = "str" ∨ t = "tuple" ∨ t = "list" ∨ t = "dict") := by
  unfold tyN at e
  cases r with
  | non => cases e; exact ⟨.non, by simp⟩
  | bl b => cases e; exact ⟨.bl b, by simp⟩
  | int i => cases e; exact ⟨.int i, by simp⟩
  | str x => cases e; exact ⟨.str x, by simp⟩
  | tup h _ => cases e; exact ⟨.tup h, by simp⟩
  | scr h => cases e
  | ref a =>
    simp only at e
    split at e
    · rename_i ws e1
      cases e
      obtain ⟨_, xs, e2, _⟩ := g a _ e1
      exact ⟨.lst e2, by simp⟩
    · rename_i e1
      cases e
      exact ⟨.dK (g a _ e1), by simp⟩
    · rename_i kvs e1
      cases e
      obtain ⟨_, kvs', e2, _⟩ := g a _ e1
      exact ⟨.dK e2, by simp⟩
    · cases e
theorem q_isi {T : String} (hT : isiT T) {pins : List (Addr × Obj)} {σ : St} {H : Hp} {s : Shared} {v : V} {u : Value} {w : W} {G : Gp} {q : WK} {Q : VK} (I : Inv X pins σ H s) (ru : RelV v u) (r : Rep X.K H w v) (g : RelG X.K H G)
    (h : match tyN G w with | some t => q (.bl (subN t T)) G | none => False) (hQ : ∀ v H1 w G1, TLe H H1 → Rep X.K H1 w v → RelG X.K H1 G1 → q w G1 → Q v H1) :
    wpAny (model X.prog X.w) X.A (call (.builtin "isinstance") [u, .type T]) (EP X pins σ Q) X.xe s := by
  split at h
  · rename_i t e
    obtain ⟨ty, hk⟩ := tyOf_rep g r e
    exact isinst_ok I ru ty (kit_of hk hT) fun tk => ⟨.bl _, H, I.tok tk, rfl, hQ _ H _ G (TLe.refl H) (.bl _) g h⟩
  · exact h.elim
theorem qe_isi {T : String} {x : Str} {e : Expr} {te : WE} {p p2 pos : Pos} (hT : isiT T) (hv : bootBuiltins x = some (.type T)) (hm : X.mg x = none) (hgx : Gl X x) (hm1 : X.mg "isinstance" = none) (hg1 : Gl X "isinstance") (he : QE X e te) (hn : x ≠ "__name__" := by decide) (hd : (x == ("__debug__" : Str)) = false := by decide)
    (hs1 : starEach [e, .Name x p2] X.env = (false, eval e X.env) :: starEach [.Name x p2] X.env := by rfl) (hs2 : starEach [.Name x p2] X.env = (false, eval (.Name x p2) X.env) :: starEach [] X.env := by rfl)
    (hpl : (backTo pos (starEach [.Name x p2] X.env)).any (·.1) = false := by rfl) : QE X (.Call (.Name "isinstance" p) [e, .Name x p2] [] pos) (wIsi T te) := by
  have hb : PE X (.Name x p2) (tC (.ty T)) := pe_bltn hgx hm hv rfl hn hd
  have ha : PA X [e, .Name x p2] (tCons (LEx X.K te) (tCons (tC (.ty T)) tNil)) := pa_cons he (pa_cons hb pa_nil hs2) hs1
  have hc : CallR X (.builtin "isinstance") (fun vs H Q => ∃ (v : V) (w : W) (G : Gp) (q : WK), vs = [v, .ty T] ∧ Rep X.K H w v ∧ RelG X.K H G ∧ (match tyN G w with | some t => q (.bl (subN t T)) G | none => False) ∧ ∀ v H1 w G1, TLe H H1 → Rep X.K H1 w v → RelG X.K H1 G1 → q w G1 → Q v H1) := by
    intro pins s σ H xs us Q I r ⟨v, w, G, q, e1, r1, g1, h, hQ⟩
    subst e1
    obtain ⟨u, u2, rfl, ru, ru2⟩ := vals2 r
    cases (show u2 = Value.type T from ru2)
    exact q_isi hT I ru r1 g1 h hQ
  exact (pe_callB hc hg1 hm1 boot_isi ha (by decide) (by decide) hs1 hpl).imp fun σ H Q z0 => z0.el fun τ G q hs hg ht hQ => ⟨τ, G, _, hs, hg, ht, fun v H1 w G1 t1 r1 g1 q1 =>
    ⟨v, w, G1, q, rfl, r1, g1, q1, fun v2 H2 w2 G2 t2 => hQ v2 H2 w2 G2 (t1.trans t2)⟩⟩
noncomputable def cSum : List W → Gp → WK → Prop := fun ws G q => match ws with
  | [.ref a] => ∃ ns : List Int, G a = some (.lst (ns.map W.int)) ∧ q (.int ns.sum) G
  | _ => False
theorem Reps.ints_of {K : PySem.W.Frag} {H : Hp} : ∀ {ns : List Int} {vs : List V}, Reps K H (ns.map W.int) vs → vs = ns.map V.int
  | [], _, r => by cases r; rfl
  | n :: ns, _, r => by
    cases r with
    | cons r rs =>
      cases r
      rw [Reps.ints_of rs]
      rfl
theorem q_sum (hc : X.calm = true) : QCall X (.builtin "sum") cSum := by
  intro pins s σ H xs us Q I r ⟨ws, G, q, rw', g, h, hQ⟩
  unfold cSum at h
  split at h
  · rename_i a
    obtain ⟨ns, e, h⟩ := h
    obtain ⟨v, rfl, r1⟩ := rw'.one
    cases r1
    obtain ⟨_, zs, e1, rr⟩ := g a _ e
    obtain rfl := rr.ints_of
    obtain ⟨u, rfl, ru⟩ := vals1 r
    cases (show u = Value.ref a from ru)
    obtain ⟨its, rv, p, hz⟩ := I.list (SqL.of e1)
    have hi : IntsAre its ns := L2.intsAre_of rv
    obtain ⟨ys, ey⟩ := hi.allInts.items
    have hn : (ys.toList.map (·.1)) = ns := by rw [← nums_intItems, ← ey, ← hi.numsOf]
    have hl : s.heap.IsList a (intItems ys) := by rw [← ey]; exact p.isList
    refine sum_intListG (I.ok.hd hc) hl fun h' tk t' hk => ⟨.int _, H, I.kept hk, ⟨t', rfl⟩, ?_⟩
    have es : preSum (numAt ys) ys.size = ns.sum := by rw [preSum_eq, List.take_of_length_le (by simp), hn]
    rw [es]
    exact hQ _ H _ G (TLe.refl H) (.int _) g h
  · exact h.elim
noncomputable def wApp (to te : WE) : WE := fun τ G q => to τ G fun x G1 => match x with
  | .ref a => (∃ xs, G1 a = some (.lst xs)) ∧ te τ G1 fun y G2 => ∃ ys, G2 a = some (.lst ys) ∧ ys.length + 1 ≤ 100000 ∧ q .non (updG G2 a (.lst (ys ++ [y])))
  | _ => False
theorem qe_app {o e : Expr} {to te : WE} {apos cpos : Pos} (ho : QE X o to) (he : QE X e te)
    (hbase : attributeBase o "append" X.env (eval o X.env) = eval o X.env := by rfl)
    (hfew : ((backTo cpos (starEach [e] X.env)).all (fun x => !x.1) && (backToKw cpos (keywordEach [] X.env)).all (fun x => x.1.isSome)
      && decide (([e] : List Expr).length + ([] : List Keyword).length + (if ([] : List Keyword).isEmpty then 0 else 1) < 30)) = true := by rfl)
    (hline : (apos.endLine == cpos.line) = true := by rfl) (hs : starEach [e] X.env = (false, eval e X.env) :: starEach [] X.env := by rfl) :
    QE X (.Call (.Attribute o "append" apos) [e] [] cpos) (wApp to te) :=
  (pe_bm PySem.F.plainAttrs_list PySem.F.slot_list_append PySem.F.type_list_append mt_append ho (pa_cons he pa_nil hs) hbase hfew hline hs rfl).imp fun σ H Q z0 => z0.el fun τ G q hs hg ht hQ =>
    ⟨τ, G, _, hs, hg, ht, fun v H1 w G1 t1 r1 g1 q1 => by
      split at q1
      · rename_i a
        cases r1
        obtain ⟨⟨xs, e1⟩, q1⟩ := q1
        obtain ⟨_, xs', h1, _⟩ := g1 a _ e1
        refine ⟨.inl ⟨rfl, xs', SqL.of h1⟩, τ, G1, _, hs.mono t1, g1, q1, fun v2 H2 w2 G2 t2 r2 g2 q2 => ?_⟩
        obtain ⟨ys, e2, hl, q2⟩ := q2
        obtain ⟨_, ys', h2, rr⟩ := g2 a _ e2
        refine ⟨a, ys', v2, rfl, rfl, h2, ?_, ?_⟩
        · rw [← rr.length]
          exact line_le hl
        · exact hQ _ _ _ _ ((t1.trans t2).trans (TLe.lst h2 _)) .non (g2.put (TLe.lst h2 _) (rr.append (.cons r2 .nil)) (by rw [List.length_append]; exact hl)) q2
      · exact q1.elim⟩
end
end L2
namespace L2
open PySem PySem.Spec PyProof.Rows
structure Itn (K : PySem.W.Frag) (J : It) (ws : List W) (C : Gp → Prop) (H0 : Hp) : Prop where
  stop : ∀ i H G, TLe H0 H → RelG K H G → C G → ws.length ≤ i → J.stop i H
  go : ∀ i w H G, TLe H0 H → RelG K H G → C G → ws[i]? = some w → J.go i H ∧ ∀ x H', J.yld i H x H' → TLe H H' ∧ Rep K H' w x ∧ RelG K H' G
noncomputable abbrev WI := WSt → Gp → (List W → (Gp → Prop) → Gp → Prop) → Prop
noncomputable def LI (K : PySem.W.Frag) (t : WI) : TI := fun σ H R => ∃ τ G r, RelSt K H τ σ ∧ RelG K H G ∧ t τ G r ∧ ∀ J H1 ws C G1, TLe H H1 → RelG K H1 G1 → Itn K J ws C H1 → r ws C G1 → R J H1
noncomputable def QI (X : Cx) (tg iter : Expr) (t : WI) : Prop := PI X tg iter (LI X.K t)
section
variable {X : Cx} {tg : Expr}
theorem PI.imp {e : Expr} {t t' : TI} (h : PI X tg e t) (f : ∀ σ H R, t' σ H R → t σ H R) : PI X tg e t' := fun pins s σ H R I q => h pins s σ H R I (f _ _ _ q)
theorem pi_seq {l : Expr} {tl : TE} (hl : PE X l tl) : PI X tg l (fun σ H R => tl σ H fun x H1 => ∃ a, x = .ref a ∧ (((∃ xs, SqL X.K H1 a xs) ∧ R (Itl X.K a) H1) ∨ ((∃ xs, SqT X.K H1 a xs) ∧ R (Itt X.K a) H1))) := by
  intro pins s σ H R I h
  refine thn (hl pins s σ H _ I h) fun v s1 ⟨x, H1, I1, r1, q1⟩ => ?_
  obtain ⟨a, e, q1⟩ := q1
  subst e
  cases r1
  rcases q1 with ⟨⟨xs, hq⟩, q⟩ | ⟨⟨xs, hq⟩, q⟩
  · obtain ⟨its, rv, p, hz⟩ := I1.list hq
    refine wpAny_pyIter_list p.isList ?_
    refine ⟨s1.heap.objs.size, [s1.heap.objs.size], _, _, H1, rfl, I1.kept (t' := s1.toks) fun b o e => Heap.get?_push_of_some _ e, turn_list a _, ⟨_, Heap.get?_push_size _ rfl, rfl, rfl⟩, fun b hb => ?_, q⟩
    have e : b = s1.heap.objs.size := by simpa using hb
    subst e
    exact I1.fpOk (Nat.le_refl _) (I1.hok.fresh (Nat.le_refl _))
  · obtain ⟨its, rv, p, hz⟩ := I1.tuple hq
    refine wpAny_pyIter_tuple (show s1.heap.IsTuple a its.toArray from p) ?_
    refine ⟨s1.heap.objs.size, [s1.heap.objs.size], _, _, H1, rfl, I1.kept (t' := s1.toks) fun b o e => Heap.get?_push_of_some _ e, turn_tuple a _, ⟨_, Heap.get?_push_size _ rfl, rfl, rfl⟩, fun b hb => ?_, q⟩
    have e : b = s1.heap.objs.size := by simpa using hb
    subst e
    exact I1.fpOk (Nat.le_refl _) (I1.hok.fresh (Nat.le_refl _))
theorem itn_tup {K : PySem.W.Frag} {a : Addr} {ws : List W} {xs : List V} {H : Hp} (h : H a = some (.tup xs)) (r : Reps K H ws xs) : Itn K (Itt K a) ws (fun _ => True) H where
  stop := fun i H1 G t g _ hl => ⟨xs, SqT.of (t.tup _ _ h), by rw [← r.length]; exact hl⟩
  go := fun i w H1 G t g _ e => by
    obtain ⟨v, e1, rv⟩ := r.get e
    refine ⟨⟨xs, v, SqT.of (t.tup _ _ h), e1⟩, fun x H' ⟨eH, hy⟩ => ?_⟩
    subst eH
    have e2 := hy xs (SqT.of (t.tup _ _ h))
    rw [e1] at e2; cases e2
    exact ⟨TLe.refl _, rv.mono t, g⟩
theorem itn_lst {K : PySem.W.Frag} {a : Addr} {ws : List W} {H : Hp} : Itn K (Itl K a) ws (fun G => G a = some (.lst ws)) H where
  stop := fun i H1 G t g e hl => by
    obtain ⟨_, xs, h1, r⟩ := g a _ e
    exact ⟨xs, SqL.of h1, by rw [← r.length]; exact hl⟩
  go := fun i w H1 G t g eG e => by
    obtain ⟨_, xs, h1, r⟩ := g a _ eG
    obtain ⟨v, e1, rv⟩ := r.get e
    refine ⟨⟨xs, v, SqL.of h1, e1⟩, fun x H' ⟨eH, hy⟩ => ?_⟩
    subst eH
    have e2 := hy xs (SqL.of h1)
    rw [e1] at e2; cases e2
    exact ⟨TLe.refl _, rv, g⟩
theorem itn_scr {K : PySem.W.Frag} {a : Addr} {ns : List Int} {H : Hp} (h : Scr K H a ns) : Itn K (Itl K a) (ns.map W.int) (fun _ => True) H where
  stop := fun i H1 G t g _ hl => ⟨_, (h.mono t).sq, by simpa using hl⟩
  go := fun i w H1 G t g _ e => by
    have r : Reps K H1 (ns.map W.int) (ns.map V.int) := Reps.ints ns
    obtain ⟨v, e1, rv⟩ := r.get e
    refine ⟨⟨_, v, (h.mono t).sq, e1⟩, fun x H' ⟨eH, hy⟩ => ?_⟩
    subst eH
    have e2 := hy _ (h.mono t).sq
    rw [e1] at e2; cases e2
    exact ⟨TLe.refl _, rv, g⟩
noncomputable def jSeq (te : WE) : WI := fun τ G r => te τ G fun x G1 => match x with
  | .tup ws => r ws (fun _ => True) G1
  | .scr ns => r (ns.map W.int) (fun _ => True) G1
  | .ref a => ∃ ws, G1 a = some (.lst ws) ∧ r ws (fun G => G a = some (.lst ws)) G1
  | _ => False
theorem qi_seq {l : Expr} {te : WE} (hl : QE X l te) : QI X tg l (jSeq te) :=
  (pi_seq hl).imp fun σ H R ⟨τ, G, r, hs, hg, ht, hR⟩ => ⟨τ, G, _, hs, hg, ht, fun v H1 w G1 t1 r1 g1 q1 => by
    split at q1
    · cases r1 with
      | tup h rr => exact ⟨_, rfl, .inr ⟨⟨_, SqT.of h⟩, hR _ H1 _ _ G1 t1 g1 (itn_tup h rr) q1⟩⟩
    · cases r1 with
      | scr h => exact ⟨_, rfl, .inl ⟨⟨_, h.sq⟩, hR _ H1 _ _ G1 t1 g1 (itn_scr h) q1⟩⟩
    · obtain ⟨ws, e, q1⟩ := q1
      cases r1
      obtain ⟨_, xs, h1, _⟩ := g1 _ _ e
      exact ⟨_, rfl, .inl ⟨⟨xs, SqL.of h1⟩, hR _ H1 _ _ G1 t1 g1 itn_lst q1⟩⟩
    · exact q1.elim⟩
noncomputable def upW (n : Nat) : List W := (List.range n).map fun (i : Nat) => W.int (i : Int)
theorem itn_rng {K : PySem.W.Frag} {n : Nat} {H : Hp} : Itn K (Itr 0 n) (upW n) (fun _ => True) H where
  stop := fun i H1 G t g _ hl => by have h : n ≤ i := by simpa [upW] using hl
                                    exact h
  go := fun i w H1 G t g _ e => by
    unfold upW at e
    rw [List.getElem?_map] at e
    have hi : i < n := by
      cases h : (List.range n)[i]? with
      | none => rw [h] at e; cases e
      | some k =>
        have := (List.getElem?_eq_some_iff.mp h).1
        simpa using this
    rw [List.getElem?_range hi] at e
    cases e
    refine ⟨hi, fun x H' ⟨eH, hy⟩ => ?_⟩
    subst eH
    subst hy
    exact ⟨TLe.refl _, by simpa using Rep.int _, g⟩
noncomputable def jRng (ta : WA) : WI := fun τ G r => ta τ G fun ws G1 => match ws with
  | [.int j] => -(2 ^ 62) ≤ j ∧ j < 2 ^ 62 ∧ r (upW j.toNat) (fun _ => True) G1
  | _ => False
theorem qi_range {a : Expr} {ta : WA} {p pos : Pos} (hg : Gl X "range") (hm : X.mg "range" = none) (ha : QA X [a] ta) (hs : starEach [a] X.env = [(false, eval a X.env)] := by rfl) : QI X tg (.Call (.Name "range" p) [a] [] pos) (jRng ta) :=
  (pi_range1 hg hm ha hs).imp fun σ H R ⟨τ, G, r, hs, hg, ht, hR⟩ => ⟨τ, G, _, hs, hg, ht, fun vs H1 ws G1 t1 r1 g1 q1 => by
    split at q1
    · obtain ⟨v, rfl, r2⟩ := r1.one
      cases r2 with
      | int j => exact ⟨_, rfl, q1.1, q1.2.1, hR _ H1 _ _ G1 t1 g1 itn_rng q1.2.2⟩
    · exact q1.elim⟩
noncomputable def loopW (C : Gp → Prop) (g : WG) (tb : WS) (d : WEnds) : List W → WSt → Gp → Prop
  | [], τ, G => C G ∧ d.nx τ G
  | w :: ws, τ, G => C G ∧ g w τ G fun τ2 G2 => tb { d with nx := loopW C g tb d ws, ct := loopW C g tb d ws, bk := d.nx } τ2 G2
noncomputable def wFor (wi : WI) (g : WG) (tb : WS) : WS := fun d τ G => wi τ G fun ws C G1 => loopW C g tb d ws τ G1
theorem qs_for {iter : Expr} {body : List Stmt} {wi : WI} {g : WG} {tb : WS} {pos : Pos} (hp : PassesOwn (model X.prog X.w) X.A X.env X.xe) (hc : X.calm = true) (hi : QI X tg iter wi) (hg : QG X tg g) (hb : QSs X body tb)
    (hs : ∀ x, foldedSetIterable iter X.env x = pure x := by intro _; rfl) : QS X (.For tg iter body [] pos) (wFor wi g tb) :=
  (ps_for hp hc hi hg hb hs).imp fun D σ H z0 => z0.el fun τ G d hs hg ht l => ⟨τ, G, _, hs, hg, ht, fun J H1 ws C G1 t1 g1 it q1 => by
    refine ⟨fun i m σ2 H2 => ∃ τ2 G2, m = ws.length - i ∧ i ≤ ws.length ∧ TLe H1 H2 ∧ RelSt X.K H2 τ2 σ2 ∧ RelG X.K H2 G2 ∧ loopW C g tb d (ws.drop i) τ2 G2, ⟨ws.length, τ, G1, by simp, Nat.zero_le _, TLe.refl _, hs.mono t1, g1, by simpa using q1⟩, ?_⟩
    rintro i m σ2 H2 ⟨τ2, G2, rfl, hi, t2, s2, g2, q2⟩
    by_cases hlt : i < ws.length
    · have ed : ws.drop i = ws[i] :: ws.drop (i + 1) := List.drop_eq_getElem_cons hlt
      rw [ed] at q2
      obtain ⟨c2, q2⟩ := q2
      obtain ⟨go, yl⟩ := it.go i ws[i] H2 G2 t2 g2 c2 (List.getElem?_eq_getElem hlt)
      refine .inr ⟨go, fun σ3 H3 => ∃ τ3 G3, TLe H1 H3 ∧ RelSt X.K H3 τ3 σ3 ∧ RelG X.K H3 G3 ∧ loopW C g tb d (ws.drop (i + 1)) τ3 G3, ?_, fun x H' hy => ?_⟩
      · rintro σ3 H3 ⟨τ3, G3, t3, s3, g3, q3⟩
        exact ⟨ws.length - (i + 1), by (clear hp hc hb z0 hs hg ht l t1 g1 it q1 hi t2 s2 g2 ed c2 q2 go yl t3 s3 g3 q3; omega), τ3, G3, rfl, hlt, t3, s3, g3, q3⟩
      · obtain ⟨tx, rx, gx⟩ := yl x H' hy
        refine ⟨ws[i], τ2, G2, _, rx, s2.mono tx, gx, q2, fun σ3 H3 τ3 G3 t3 s3 g3 q3 => ?_⟩
        have tt := (t2.trans tx).trans t3
        have t0 := t1.trans tt
        exact ⟨τ3, G3, _, s3, g3, q3, ⟨fun σ4 H4 τ4 G4 t4 s4 g4 q4 => ⟨τ4, G4, tt.trans t4, s4, g4, q4⟩, fun v H4 w G4 t4 => l.rt v H4 w G4 (t0.trans t4), fun σ4 H4 τ4 G4 t4 => l.nx σ4 H4 τ4 G4 (t0.trans t4), fun σ4 H4 τ4 G4 t4 s4 g4 q4 => ⟨τ4, G4, tt.trans t4, s4, g4, q4⟩⟩⟩
    · have e : i = ws.length := by (clear hp hc hb z0 hs hg ht l t1 g1 it q1 t2 s2 g2 q2; omega)
      subst e
      rw [List.drop_length] at q2
      exact .inl ⟨it.stop _ H2 G2 t2 g2 q2.1 (Nat.le_refl _), l.nx σ2 H2 τ2 G2 (t1.trans t2) s2 g2 q2.2⟩⟩
end
end L2
namespace L2
open PySem PySem.Spec PyProof.Rows
section
variable {prog : Program} {w : World} {A : Around} {E : Value → Shared → Prop} {s : Shared}
theorem nextT_item {it t : Addr} {i : Nat} {items : Array Value} {x : Value} {Q : Value → Shared → Prop} (a : s.heap.IsTupleIter it t i) (b : s.heap.IsTuple t items) (e : items[i]? = some x) (q : ∀ h', h'.IsTupleIter it t (i + 1) → Heap.SameBut it s.heap h' → Q x { s with heap := h' }) : wpAny (model prog w) A (Builtin.SmallTypes.nextOf (.ref it)) Q E s := by
  obtain ⟨o, ho, hc, hd⟩ := id a; obtain ⟨ol, hol, _, nl, hdl⟩ := b; unfold Builtin.SmallTypes.nextOf
  refine wpAny_bind (wpAny_callSpecial?_slot (name := Str.ofString "__next__") a.typeIs F.slot_tuple_iterator_next (wpAny_call_entry F.slot_tuple_iterator_next a.typeIs F.entry_tuple_iterator_next ?_ (F.args_tuple_iterator_next_1 _)))
  show wpAny _ _ (field (.ref it) 0 >>= _) _ _ s; refine wpAny_bind (wpAny_field ho hd (x := .ref t) rfl ?_)
  show wpAny _ _ (if (Value.ref t == Value.none) = true then _ else _) _ _ s; rw [if_neg (show ¬ ((Value.ref t == Value.none) = true) from Bool.false_ne_true)]
  show wpAny _ _ (field (.ref it) 1 >>= _) _ _ s; refine wpAny_bind (wpAny_field ho hd (x := .int i 0) rfl ?_)
  show wpAny _ _ (seqItems? (.ref t) >>= _) _ _ s; refine wpAny_bind (wpAny_seqItems hol hdl ?_); simp only [Int.toNat_natCast, e]
  refine wpAny_bind (wpAny_setField ho hd (by simp) (wpAny_pure ⟨x, rfl, wpAny_pure (q _ ⟨_, Heap.get?_update_self _ ho (Obj.isFreed_of_fields (Obj.data_mapFields hd _)), (Obj.cls_mapFields ..).trans hc, by rw [Obj.data_mapFields hd]; simp [rawInt]⟩ (Heap.SameBut.update ..))⟩))
theorem nextT_end {it t : Addr} {i : Nat} {items : Array Value} {Q : Value → Shared → Prop} (hh : A.handled = none) (a : s.heap.IsTupleIter it t i) (b : s.heap.IsTuple t items) (e : items[i]? = none) (q : ∀ h' x, Heap.ExtBut it s.heap h' → (∃ o, h'.get? x = some o ∧ o.cls = .type "StopIteration") → E (.ref x) { s with heap := h' }) : wpAny (model prog w) A (Builtin.SmallTypes.nextOf (.ref it)) Q E s := by
  obtain ⟨o, ho, hc, hd⟩ := id a; obtain ⟨ol, hol, _, nl, hdl⟩ := b; unfold Builtin.SmallTypes.nextOf
  refine wpAny_bind (wpAny_callSpecial?_slot (name := Str.ofString "__next__") a.typeIs F.slot_tuple_iterator_next (wpAny_call_entry F.slot_tuple_iterator_next a.typeIs F.entry_tuple_iterator_next ?_ (F.args_tuple_iterator_next_1 _)))
  show wpAny _ _ (field (.ref it) 0 >>= _) _ _ s; refine wpAny_bind (wpAny_field ho hd (x := .ref t) rfl ?_)
  show wpAny _ _ (if (Value.ref t == Value.none) = true then _ else _) _ _ s; rw [if_neg (show ¬ ((Value.ref t == Value.none) = true) from Bool.false_ne_true)]
  show wpAny _ _ (field (.ref it) 1 >>= _) _ _ s; refine wpAny_bind (wpAny_field ho hd (x := .int i 0) rfl ?_)
  show wpAny _ _ (seqItems? (.ref t) >>= _) _ _ s; refine wpAny_bind (wpAny_seqItems hol hdl ?_); simp only [Int.toNat_natCast, e]
  refine wpAny_bind (wpAny_rule (wpAny_bind (wpAny_setField ho hd (by simp) ?_))); show wpAny _ _ (newExc (.type "StopIteration") [] >>= _) _ _ _
  refine wpAny_bind ?_; simp only [newExc, newTuple]; refine wpAny_bind (wpAny_newObj_type ?_ (by size_fits))
  refine wpAny_bind (m := firstArgMember _ _) (wpAny_of_eq (a := Value.none) (by first | rfl | (simp only [firstArgMember]; rfl)) ?_); refine wpAny_newObj_type ?_ (by size_fits)
  simp only [raiseNew]; refine wpAny_bind (wpAny_handled ?_); first | rw [show A.in1.handled = none from hh] | rw [hh]
  refine wpAny_bind (wpAny_pure (wpAny_throw ?_)); exact q _ _ (((Heap.SameBut.update ..).extBut.push _).push _) ⟨_, Heap.get?_push_size _ rfl, rfl⟩
structure ZA (z p r i j a b : Addr) : Prop where
  zp : p ≠ z
  zr : r ≠ z
  zi : i ≠ z
  zj : j ≠ z
  pr : p ≠ r
  pi : p ≠ i
  pj : p ≠ j
  ri : r ≠ i
  rj : r ≠ j
  ij : i ≠ j
  az : a ≠ z
  ar : a ≠ r
  ai : a ≠ i
  aj : a ≠ j
  bz : b ≠ z
  br : b ≠ r
  bi : b ≠ i
  bj : b ≠ j
structure ZT (z p r i j a b : Addr) (n : Nat) (f : Value) (h : Heap) : Prop where
  hz : IsZip h z p r f
  hp : IsPair h p (.ref i) (.ref j)
  hr : ∃ x y, IsPair h r x y
  hi : h.IsTupleIter i a n
  hj : h.IsTupleIter j b n
theorem zipT_item {z p r i j a b : Addr} {n : Nat} {xs ys : Array Value} {x y : Value} {Q : Option Value → Shared → Prop} (D : ZA z p r i j a b) (T : ZT z p r i j a b n .none s.heap) (ha : s.heap.IsTuple a xs) (hb : s.heap.IsTuple b ys) (hx : xs[n]? = some x) (hy : ys[n]? = some y)
    (q : ∀ h', ZT z p r i j a b (n + 1) (rawInt s.heap.objs.size) h' → IsPair h' s.heap.objs.size x y → (∀ c o, c ≠ z → c ≠ r → c ≠ i → c ≠ j → s.heap.get? c = some o → h'.get? c = some o) → Q (some (.ref s.heap.objs.size)) { s with heap := h' }) : wpAny (model prog w) A (pyNext (.ref z)) Q E s := by
  obtain ⟨hz, hp, ⟨u, v, hr⟩, hi, hj⟩ := T
  have hT : s.TypeIs (.ref z) "zip" := ⟨_, hz, rfl⟩; unfold pyNext
  refine wpAny_bind (wpAny_attempt (wpAny_callSpecial?_slot (name := Str.ofString "__next__") hT F.slot_zip_next (wpAny_call_entry F.slot_zip_next hT F.entry_zip_next ?_ (F.args_zip_next_1 _))))
  show wpAny _ _ (field (.ref z) 2 >>= _) _ _ _; refine wpAny_bind (wpAny_field hz rfl (x := .bool false) rfl ?_)
  show wpAny _ _ (field (.ref z) 3 >>= _) _ _ _; refine wpAny_bind (wpAny_field hz rfl (x := .ref p) rfl ?_); refine wpAny_bind (wpAny_seqItems hp rfl ?_)
  show wpAny _ _ (Builtin.SmallTypes.ownedTupleIsFree (.ref z) >>= _) _ _ _; refine wpAny_bind ?_; unfold Builtin.SmallTypes.ownedTupleIsFree
  refine wpAny_bind (wpAny_field hz rfl (x := .none) rfl (wpAny_pure ?_)); simp only [if_true]; refine wpAny_bind (wpAny_rule ?_)
  refine wpAny_bind (wpAny_field hz rfl (x := .ref r) rfl ?_); refine wpAny_bind (wpAny_setField_rec hz (by simp) fun h1 z1 b1 => ?_)
  have z1 : IsZip h1 z p r .ellipsis := z1
  refine wpAny_bind ?_; simp only [List.zipIdx_cons, List.zipIdx_nil, List.forIn_cons, List.forIn_nil]
  refine wpAny_bind (wpAny_bind (wpAny_onRaise ?_)); show wpAny _ _ (Builtin.SmallTypes.nextOf (.ref i) >>= _) _ _ _
  refine wpAny_bind (nextT_item (hi.extBut b1.extBut D.zi) (ha.extBut b1.extBut D.az) hx fun h2 i2 b2 => wpAny_pure ?_)
  have r2 : IsPair h2 r u v := b2.extBut _ _ D.ri (b1.extBut _ _ D.zr hr)
  refine wpAny_bind (wpAny_seqItems r2 rfl ?_); refine wpAny_bind (wpAny_updateSeq_pair r2 fun h3 r3 b3 => ?_)
  have r3 : IsPair h3 r x v := r3
  refine wpAny_bind (wpAny_letGo (wpAny_pure ?_)); refine wpAny_bind (wpAny_bind (wpAny_onRaise ?_)); show wpAny _ _ (Builtin.SmallTypes.nextOf (.ref j) >>= _) _ _ _
  refine wpAny_bind (nextT_item (((hj.extBut b1.extBut D.zj).extBut b2.extBut D.ij.symm).extBut b3.extBut D.rj.symm) (((hb.extBut b1.extBut D.bz).extBut b2.extBut D.bi).extBut b3.extBut D.br) hy fun h4 j4 b4 => wpAny_pure ?_)
  have r4 : IsPair h4 r x v := b4.extBut _ _ D.rj r3
  refine wpAny_bind (wpAny_seqItems r4 rfl ?_); refine wpAny_bind (wpAny_updateSeq_pair r4 fun h5 r5 b5 => ?_)
  have r5 : IsPair h5 r x y := r5
  refine wpAny_bind (wpAny_letGo (wpAny_pure (wpAny_pure ?_))); refine wpAny_bind (wpAny_seqItems r5 rfl ?_); refine wpAny_bind (wpAny_newTuple ?_)
  have sz : h5.objs.size = s.heap.objs.size := by rw [b5.1, b4.1, b3.1, b2.1, b1.1]
  have z5 : IsZip h5 z p r .ellipsis := b5.extBut _ _ D.zr.symm (b4.extBut _ _ D.zj.symm (b3.extBut _ _ D.zr.symm (b2.extBut _ _ D.zi.symm z1)))
  have k5 : ∀ c o, c ≠ z → c ≠ r → c ≠ i → c ≠ j → s.heap.get? c = some o → h5.get? c = some o := fun c o c1 c2 c3 c4 e => b5.extBut _ _ c2 (b4.extBut _ _ c4 (b3.extBut _ _ c2 (b2.extBut _ _ c3 (b1.extBut _ _ c1 e))))
  have i5 : h5.IsTupleIter i a (n + 1) := ((i2.extBut b3.extBut D.ri.symm).extBut b4.extBut D.ij).extBut b5.extBut D.ri.symm
  have j5 : h5.IsTupleIter j b (n + 1) := j4.extBut b5.extBut D.rj.symm
  have ltz : z < h5.objs.size := Heap.lt_size z5
  show wpAny _ _ (Builtin.SmallTypes.ownedTupleHandOut (.ref z) (.ref h5.objs.size) >>= _) _ _ _; refine wpAny_bind ?_; unfold Builtin.SmallTypes.ownedTupleHandOut
  have z6 : IsZip (h5.push { cls := .type "tuple", data := .seq #[x, y] }) z p r .ellipsis := Heap.get?_push_of_some _ z5
  refine wpAny_bind (wpAny_setField_rec z6 (by simp) fun h7 z7 b7 => ?_)
  have z7 : IsZip h7 z p r (rawInt h5.objs.size) := z7
  refine wpAny_setField_rec z7 (by simp) fun h8 z8 b8 => ?_
  have z8 : IsZip h8 z p r (rawInt h5.objs.size) := z8
  have up : ∀ c o, c ≠ z → h5.get? c = some o → h8.get? c = some o := fun c o c1 e => b8.extBut _ _ c1 (b7.extBut _ _ c1 (Heap.get?_push_of_some _ e))
  have t8 : IsPair h8 h5.objs.size x y := b8.extBut _ _ (Nat.ne_of_gt ltz) (b7.extBut _ _ (Nat.ne_of_gt ltz) (Heap.get?_push_size _ rfl))
  rw [sz] at z8 t8
  refine wpAny_pure ⟨_, rfl, wpAny_pure ?_⟩; show Q (some (.ref h5.objs.size)) _; rw [sz]
  exact q h8 ⟨z8, up _ _ D.zp (k5 _ _ D.zp D.pr D.pi D.pj hp), ⟨_, _, up _ _ D.zr r5⟩, i5.at fun o e => up _ o D.zi e, j5.at fun o e => up _ o D.zj e⟩ t8 fun c o c1 c2 c3 c4 e => up c o c1 (k5 c o c1 c2 c3 c4 e)
theorem zipT_end {z p r i j a b : Addr} {n : Nat} {xs ys : Array Value} {Q : Option Value → Shared → Prop} (hh : A.handled = none) (D : ZA z p r i j a b) (T : ZT z p r i j a b n .none s.heap) (ha : s.heap.IsTuple a xs) (hb : s.heap.IsTuple b ys) (hx : xs[n]? = none ∨ ys[n]? = none)
    (q : ∀ h', (∀ c o, c ≠ z → c ≠ r → c ≠ i → c ≠ j → s.heap.get? c = some o → h'.get? c = some o) → Q none { s with heap := h' }) : wpAny (model prog w) A (pyNext (.ref z)) Q E s := by
  obtain ⟨hz, hp, ⟨u, v, hr⟩, hi, hj⟩ := T
  have hT : s.TypeIs (.ref z) "zip" := ⟨_, hz, rfl⟩; unfold pyNext
  have fin : ∀ (h' : Heap) (e : Addr), (∀ c o, c ≠ z → c ≠ r → c ≠ i → c ≠ j → s.heap.get? c = some o → h'.get? c = some o) → (∃ o, h'.get? e = some o ∧ o.cls = .type "StopIteration") → wpAny (model prog w) A (do if (← isInstance (.ref e) (.type "StopIteration")) then pure none else throw (.ref e)) Q E { s with heap := h' } := fun h' e k he => by
    obtain ⟨o, ho, hc⟩ := he
    exact wpAny_bind (wpAny_isInstance (T := "StopIteration") (b := true) ⟨o, ho, hc⟩ isSubtype_stop (wpAny_pure (q _ k)))
  refine wpAny_bind (wpAny_attempt (wpAny_callSpecial?_slot (name := Str.ofString "__next__") hT F.slot_zip_next (wpAny_call_entry F.slot_zip_next hT F.entry_zip_next ?_ (F.args_zip_next_1 _))))
  show wpAny _ _ (field (.ref z) 2 >>= _) _ _ _; refine wpAny_bind (wpAny_field hz rfl (x := .bool false) rfl ?_)
  show wpAny _ _ (field (.ref z) 3 >>= _) _ _ _; refine wpAny_bind (wpAny_field hz rfl (x := .ref p) rfl ?_); refine wpAny_bind (wpAny_seqItems hp rfl ?_)
  show wpAny _ _ (Builtin.SmallTypes.ownedTupleIsFree (.ref z) >>= _) _ _ _; refine wpAny_bind ?_; unfold Builtin.SmallTypes.ownedTupleIsFree
  refine wpAny_bind (wpAny_field hz rfl (x := .none) rfl (wpAny_pure ?_)); simp only [if_true]; refine wpAny_bind (wpAny_rule ?_)
  refine wpAny_bind (wpAny_field hz rfl (x := .ref r) rfl ?_); refine wpAny_bind (wpAny_setField_rec hz (by simp) fun h1 z1 b1 => ?_)
  have z1 : IsZip h1 z p r .ellipsis := z1
  refine wpAny_bind ?_; simp only [List.zipIdx_cons, List.zipIdx_nil, List.forIn_cons, List.forIn_nil]
  refine wpAny_bind (wpAny_bind (wpAny_onRaise ?_)); show wpAny _ _ (Builtin.SmallTypes.nextOf (.ref i) >>= _) _ _ _
  cases e1 : xs[n]? with
  | none =>
    refine wpAny_bind (nextT_end hh (hi.extBut b1.extBut D.zi) (ha.extBut b1.extBut D.az) e1 fun h2 e b2 he => ?_)
    obtain ⟨oe, hoe, hce⟩ := he
    have z2 : IsZip h2 z p r .ellipsis := b2 _ _ D.zi.symm z1
    have ez : e ≠ z := fun x => by subst x; rw [z2] at hoe; cases hoe; simp at hce
    exact wpAny_setField_rec z2 (by simp) fun h3 _ b3 => fin h3 e (fun c o c1 _ c3 _ x => b3.extBut _ _ c1 (b2 _ _ c3 (b1.extBut _ _ c1 x))) ⟨oe, b3.extBut _ _ ez hoe, hce⟩
  | some x =>
    have e2 : ys[n]? = none := by rcases hx with h | h; · rw [e1] at h; cases h
                                  · exact h
    refine wpAny_bind (nextT_item (hi.extBut b1.extBut D.zi) (ha.extBut b1.extBut D.az) e1 fun h2 i2 b2 => wpAny_pure ?_)
    have r2 : IsPair h2 r u v := b2.extBut _ _ D.ri (b1.extBut _ _ D.zr hr)
    refine wpAny_bind (wpAny_seqItems r2 rfl ?_); refine wpAny_bind (wpAny_updateSeq_pair r2 fun h3 r3 b3 => ?_)
    refine wpAny_bind (wpAny_letGo (wpAny_pure ?_)); refine wpAny_bind (wpAny_bind (wpAny_onRaise ?_)); show wpAny _ _ (Builtin.SmallTypes.nextOf (.ref j) >>= _) _ _ _
    refine wpAny_bind (nextT_end hh (((hj.extBut b1.extBut D.zj).extBut b2.extBut D.ij.symm).extBut b3.extBut D.rj.symm) (((hb.extBut b1.extBut D.bz).extBut b2.extBut D.bi).extBut b3.extBut D.br) e2 fun h4 e b4 he => ?_)
    obtain ⟨oe, hoe, hce⟩ := he
    have z4 : IsZip h4 z p r .ellipsis := b4 _ _ D.zj.symm (b3.extBut _ _ D.zr.symm (b2.extBut _ _ D.zi.symm z1))
    have ez : e ≠ z := fun x => by subst x; rw [z4] at hoe; cases hoe; simp at hce
    exact wpAny_setField_rec z4 (by simp) fun h5 _ b5 => fin h5 e (fun c o c1 c2 c3 c4 x => b5.extBut _ _ c1 (b4 _ _ c4 (b3.extBut _ _ c2 (b2.extBut _ _ c3 (b1.extBut _ _ c1 x))))) ⟨oe, b5.extBut _ _ ez hoe, hce⟩
end
noncomputable def zq1 (h : Heap) (a : Addr) : Heap := h.push { cls := .type "tuple_iterator", data := .fields #[.ref a, .int 0 0] }
noncomputable def zq2 (h : Heap) (a b : Addr) : Heap := (zq1 h a).push { cls := .type "tuple_iterator", data := .fields #[.ref b, .int 0 0] }
noncomputable def zq3 (h : Heap) (a b : Addr) : Heap := (zq2 h a b).push { cls := .type "tuple", data := .seq #[.ref h.objs.size, .ref (zq1 h a).objs.size] }
noncomputable def zq4 (h : Heap) (a b : Addr) : Heap := (zq3 h a b).push { cls := .type "tuple", data := .seq #[.none, .none] }
noncomputable def zq5 (h : Heap) (a b : Addr) : Heap := (zq4 h a b).push { cls := .type "zip", data := .fields #[.none, .bool false, .bool false, .ref (zq2 h a b).objs.size, .ref (zq3 h a b).objs.size] }
theorem zip_newT (a b : Addr) (xs ys : Array Value) : Meets (Builtin.«zip.__new__» ⟨[.type "zip", .ref a, .ref b], []⟩) (fun _ R s => s.heap.IsTuple a xs ∧ s.heap.IsTuple b ys ∧ R (.ok (.ret (.ref (zq4 s.heap a b).objs.size))) { s with heap := zq5 s.heap a b }) :=
  .of_wp fun prog w A R s h => by
    obtain ⟨hp, g, d, tk, os⟩ := s; obtain ⟨ha, hb, h⟩ := h; have hsub := sub_zip
    have h1 : Heap.IsTuple (Shared.heap ⟨hp, g, d, tk, os⟩) a xs := ha
    have h2 : Heap.IsTuple (Shared.heap ⟨hp.push { cls := .type "tuple_iterator", data := .fields #[.ref a, .int 0 0] }, g, d, tk, os⟩) b ys := Heap.IsTuple.push hb _
    wp_walk using wpAny_pyIter_tuple h1, wpAny_pyIter_tuple h2
    exact ⟨_, rfl, h⟩
theorem call_zipT {prog : Program} {w : World} {A : Around} {E : Value → Shared → Prop} {s : Shared} {a b : Addr} {xs ys : Array Value} {Q : Value → Shared → Prop} (ha : s.heap.IsTuple a xs) (hb : s.heap.IsTuple b ys)
    (q : ∀ h', ZT (s.heap.objs.size + 4) (s.heap.objs.size + 2) (s.heap.objs.size + 3) s.heap.objs.size (s.heap.objs.size + 1) a b 0 .none h' → (∀ c o, s.heap.get? c = some o → h'.get? c = some o) → Q (.ref (s.heap.objs.size + 4)) { s with heap := h' }) :
    wpAny (model prog w) A (call (.type "zip") [.ref a, .ref b]) Q E s := by
  refine callType_new F.called_zip (by decide) (F.typeCall_zip_2 _ _) (F.newCall_zip_2 _ _) (fun obj => F.args_object_init_3 obj _ _) F.entry_zip_new (zip_newT a b xs ys) ⟨ha, hb, ?_⟩
  have z1 : (zq1 s.heap a).objs.size = s.heap.objs.size + 1 := Heap.size_push ..
  have z2 : (zq2 s.heap a b).objs.size = s.heap.objs.size + 2 := by unfold zq2; rw [Heap.size_push, z1]
  have z3 : (zq3 s.heap a b).objs.size = s.heap.objs.size + 3 := by unfold zq3; rw [Heap.size_push, z2]
  have z4 : (zq4 s.heap a b).objs.size = s.heap.objs.size + 4 := by unfold zq4; rw [Heap.size_push, z3]
  have g5 : (zq5 s.heap a b).get? (zq4 s.heap a b).objs.size = some _ := Heap.get?_push_size _ rfl
  have g4 : (zq5 s.heap a b).get? (zq3 s.heap a b).objs.size = some _ := Heap.get?_push_of_some _ (Heap.get?_push_size _ rfl)
  have g3 : (zq5 s.heap a b).get? (zq2 s.heap a b).objs.size = some _ := Heap.get?_push_of_some _ (Heap.get?_push_of_some _ (Heap.get?_push_size _ rfl))
  have g2 : (zq5 s.heap a b).get? (zq1 s.heap a).objs.size = some _ := Heap.get?_push_of_some _ (Heap.get?_push_of_some _ (Heap.get?_push_of_some _ (Heap.get?_push_size _ rfl)))
  have g1 : (zq5 s.heap a b).get? s.heap.objs.size = some _ := Heap.get?_push_of_some _ (Heap.get?_push_of_some _ (Heap.get?_push_of_some _ (Heap.get?_push_of_some _ (Heap.get?_push_size _ rfl))))
  rw [z2, z3, z4] at g5; rw [z1, z2] at g3; rw [z3] at g4; rw [z1] at g2
  show _ ∧ _; rw [z4]
  exact ⟨⟨_, g5, rfl⟩, q _ ⟨g5, g3, ⟨_, _, g4⟩, ⟨_, g1, rfl, rfl⟩, ⟨_, g2, rfl, rfl⟩⟩ fun c o x => Heap.get?_push_of_some _ (Heap.get?_push_of_some _ (Heap.get?_push_of_some _ (Heap.get?_push_of_some _ (Heap.get?_push_of_some _ x))))⟩
theorem za_new {n a b : Nat} (ha : a < n) (hb : b < n) : ZA (n + 4) (n + 2) (n + 3) n (n + 1) a b := by
  constructor <;> (show (_ : Nat) ≠ (_ : Nat); omega)
end L2
namespace L2
open PySem PySem.Spec PyProof.Rows
section
variable {prog : Program} {w : World} {A : Around} {R : Result → Shared → Prop} {s : Shared}
noncomputable abbrev nox : Value → Shared → Prop := fun _ _ => False
noncomputable abbrev tests (ifs : List Expr) (env : Env) : Sem Bool := forIn ifs true fun c r => if r = true then do let ok ← isTrue c env (eval c env); pure (ForInStep.yield ok) else pure (ForInStep.yield r)
theorem comp_loop {elt tg iter : Expr} {ifs : List Expr} {scope : Scope} {pos : Pos} {it acc : Value} {env : Env} (I : Nat → Shared → Prop)
    (turn : ∀ n s, I n s → wpAny (model prog w) A (pyNext it) (fun r s1 => match r with
      | none => R (.ok .next) s1
      | some v => wpAny (model prog w) A (letOwnedTupleGo tg it v) (fun _ s2 => wpAny (model prog w) A (assign tg env v) (fun _ s3 => wpAny (model prog w) A (tests ifs env) (fun ok s4 =>
          if ok = true then wpAny (model prog w) A (eval elt env) (fun x s5 => wpAny (model prog w) A (call (.builtin "list.append") [acc, x]) (fun _ s6 => ∃ m, m < n ∧ I m s6) nox s5) nox s4
          else ∃ m, m < n ∧ I m s4) nox s3) nox s2) nox s1) nox s) (n : Nat) (h : I n s) :
    codeAny (model prog w) A (.compLoop (.ListComp elt [⟨tg, iter, ifs, 0⟩] scope pos) 0 it acc env) R s := by
  refine codeAny_loop rfl I (fun n s hI => ?_) n h
  show wpAny _ A ((compTurn (.ListComp elt [⟨tg, iter, ifs, 0⟩] scope pos) 0 it acc env).onRaise (fun x => do noteFrame x env; theTreesLotGoes x)) _ _ s
  refine wpAny_noted ?_; rw [compTurn_list]
  refine wpAny_bind (wpAny_standAt (wpAny_bind (wpAny_mono (turn n s hI) (fun r s1 h1 => ?_) fun _ _ z => z.elim)))
  cases r with
  | none => exact wpAny_pure h1
  | some v =>
    refine wpAny_bind (wpAny_mono h1 (fun _ s2 h2 => wpAny_bind (wpAny_mono h2 (fun _ s3 h3 => wpAny_bind (wpAny_mono h3 (fun ok s4 h4 => ?_) fun _ _ z => z.elim)) fun _ _ z => z.elim)) fun _ _ z => z.elim)
    cases ok with
    | false => exact wpAny_pure ⟨rfl, h4⟩
    | true =>
      refine wpAny_bind (wpAny_bind (wpAny_mono h4 (fun x s5 h5 => ?_) fun _ _ z => z.elim))
      exact wpAny_bind (wpAny_mono h5 (fun _ s6 h6 => wpAny_pure (wpAny_pure ⟨rfl, h6⟩)) fun _ _ z => z.elim)
end
noncomputable def clOf (env : Env) : List (Str × NameKind) → List (Str × Addr) → List (Str × Addr)
  | [], cs => cs
  | (n, k) :: r, cs => if k == .free then clOf env r ((n, (env.cells.lookup n).getD 0) :: cs) else clOf env r cs
theorem closure_of {env : Env} {scope : Scope} (h : ∀ y ∈ scope.names, y.2 = .free → ∃ c, env.cells.lookup y.1 = some c) : closureFor scope env = pure (clOf env scope.names []) := by
  unfold closureFor
  have key : ∀ (l : List (Str × NameKind)) (cs : List (Str × Addr)), (∀ y ∈ l, y.2 = .free → ∃ c, env.cells.lookup y.1 = some c) →
      (forIn l cs fun (x : Str × NameKind) (r : List (Str × Addr)) => (if (x.2 == NameKind.free) = true then (do let y ← cellOf env x.1; pure (ForInStep.yield ((x.1, y) :: r))) else pure (ForInStep.yield r) : Sem (ForInStep (List (Str × Addr))))) = (pure (clOf env l cs) : Sem (List (Str × Addr))) := by
    intro l
    induction l with
    | nil => intro cs _; rfl
    | cons y r ih =>
      intro cs hl
      obtain ⟨n, k⟩ := y
      rw [List.forIn_cons]
      unfold clOf
      by_cases hk : (k == NameKind.free) = true
      · have hk' : k = .free := by simpa using hk
        obtain ⟨c, hc⟩ := hl (n, k) List.mem_cons_self hk'
        simp only [hk, if_true]
        have e : cellOf env n = pure c := by unfold cellOf; rw [hc]
        rw [e, hc]
        simp only [pure_bind, Option.getD_some]
        exact ih _ fun y hy => hl y (List.mem_cons_of_mem _ hy)
      · simp only [hk, if_false, Bool.false_eq_true]
        simp only [pure_bind]
        exact ih _ fun y hy => hl y (List.mem_cons_of_mem _ hy)
  have := key scope.names [] h
  simp only [bind_pure]
  exact this
theorem clOf_lookup {env : Env} : ∀ {l : List (Str × NameKind)} {cs : List (Str × Addr)}, (∀ y ∈ l, y.2 = .free → ∃ c, env.cells.lookup y.1 = some c) → (∀ x c, cs.lookup x = some c → env.cells.lookup x = some c) → ∀ x c, (clOf env l cs).lookup x = some c → env.cells.lookup x = some c
  | [], _, _, hc, x, c, e => hc x c e
  | (n, k) :: r, cs, hl, hc, x, c, e => by
    unfold clOf at e
    have hr : ∀ y ∈ r, y.2 = .free → ∃ c, env.cells.lookup y.1 = some c := fun y hy => hl y (List.mem_cons_of_mem _ hy)
    split at e
    · rename_i hk
      obtain ⟨c0, hc0⟩ := hl (n, k) List.mem_cons_self (by simpa using hk)
      refine clOf_lookup hr (fun x' c' e' => ?_) x c e
      rw [List.lookup_cons] at e'
      cases hx : x' == n with
      | true =>
        rw [hx] at e'
        have : x' = n := by simpa using hx
        subst this
        rw [hc0] at e'
        simp at e'
        subst e'
        exact hc0
      | false => rw [hx] at e'; exact hc x' c' e'
    · exact clOf_lookup hr hc x c e
theorem clOf_has {env : Env} : ∀ {l : List (Str × NameKind)} {cs : List (Str × Addr)} {x : Str}, ((x, NameKind.free) ∈ l ∨ ∃ c, cs.lookup x = some c) → ∃ c, (clOf env l cs).lookup x = some c
  | [], _, _, h => by
    rcases h with h | h
    · simp at h
    · exact h
  | (n, k) :: r, cs, x, h => by
    unfold clOf
    have keep : (∃ c, cs.lookup x = some c) → ∃ c, ((n, (env.cells.lookup n).getD 0) :: cs).lookup x = some c := fun ⟨c, e⟩ => by
      rw [List.lookup_cons]
      cases hx : x == n with
      | true => exact ⟨_, rfl⟩
      | false => exact ⟨c, e⟩
    split
    · rename_i hk
      refine clOf_has ?_
      rcases h with h | h
      · rcases List.mem_cons.mp h with h | h
        · cases h
          exact .inr ⟨(env.cells.lookup n).getD 0, by rw [List.lookup_cons]; simp⟩
        · exact .inl h
      · exact .inr (keep h)
    · rename_i hk
      refine clOf_has ?_
      rcases h with h | h
      · rcases List.mem_cons.mp h with h | h
        · cases h
          exact absurd rfl hk
        · exact .inl h
      · exact .inr h
theorem relabel_lookup {env : Env} : ∀ {l : List (Str × NameKind)} {x : Str} {k : NameKind}, (l.map fun (n, k) => if (k == NameKind.free && env.scope.kind == .function && env.kindOf n == some .cell) then (n, NameKind.cell) else (n, k)).lookup x = some k → (k = .cell ∨ k = .free) → (∀ y ∈ l, y.2 ≠ .cell) → (x, NameKind.free) ∈ l
  | [], _, _, e, _, _ => by simp at e
  | (n, k0) :: r, x, k, e, hk, hc => by
    rw [List.map_cons, List.lookup_cons] at e
    have hr : ∀ y ∈ r, y.2 ≠ .cell := fun y hy => hc y (List.mem_cons_of_mem _ hy)
    have hn : (if (k0 == NameKind.free && env.scope.kind == .function && env.kindOf n == some .cell) = true then (n, NameKind.cell) else (n, k0)).1 = n := by split <;> rfl
    rw [hn] at e
    cases hx : x == n with
    | false => rw [hx] at e; exact List.mem_cons_of_mem _ (relabel_lookup e hk hr)
    | true =>
      rw [hx] at e
      have hxn : x = n := by simpa using hx
      subst hxn
      have e' : (if (k0 == NameKind.free && env.scope.kind == .function && env.kindOf x == some .cell) = true then (x, NameKind.cell) else (x, k0)).2 = k := Option.some.inj e
      by_cases hf : k0 = .free
      · subst hf; exact List.mem_cons_self
      · rw [if_neg (by simp [hf])] at e'
        have e'' : k0 = k := e'
        subst e''
        rcases hk with h | h
        · exact absurd h (hc _ List.mem_cons_self)
        · exact absurd h hf
theorem relabel_local {env : Env} : ∀ {l : List (Str × NameKind)} {x : Str}, (l.map fun (n, k) => if (k == NameKind.free && env.scope.kind == .function && env.kindOf n == some .cell) then (n, NameKind.cell) else (n, k)).lookup x = some .local → l.lookup x = some .local
  | [], _, e => by simp at e
  | (n, k0) :: r, x, e => by
    rw [List.map_cons, List.lookup_cons] at e
    rw [List.lookup_cons]
    have hn : (if (k0 == NameKind.free && env.scope.kind == .function && env.kindOf n == some .cell) = true then (n, NameKind.cell) else (n, k0)).1 = n := by split <;> rfl
    rw [hn] at e
    cases hx : x == n with
    | false => rw [hx] at e; exact relabel_local e
    | true =>
      rw [hx] at e
      have e' : (if (k0 == NameKind.free && env.scope.kind == .function && env.kindOf n == some .cell) = true then (n, NameKind.cell) else (n, k0)).2 = NameKind.local := Option.some.inj e
      split at e'
      · cases e'
      · exact congrArg some e'
noncomputable def bCx (X : Cx) (N : List Str) (scope : Scope) (C : Addr) (fp : List Addr) (s₀ : Shared) (H₀ : Hp) : Cx where
  prog := X.prog
  w := X.w
  K := X.K
  mg := X.mg
  base := X.base
  A := X.A
  N := N
  s₀ := s₀
  H₀ := H₀
  env := compEnvC scope (clOf X.env scope.names []) C X.env
  outer := X.stack
  stack := X.stack
  ex := fp
  fn := fun _ => false
  calm := X.calm
  pn := []
  xe := nox
structure CompSc (X : Cx) (scope : Scope) (N : List Str) (fv : List (Option Nat)) : Prop where
  kind : scope.kind = .function
  nocell : ∀ y ∈ scope.names, y.2 ≠ .cell
  names : ∀ x ∈ scope.names, x.2 = .local → scope.names.lookup x.1 = some .local
  free : ∀ y ∈ scope.names, y.2 = .free → X.env.scope.names.lookup y.1 = some .cell
  fvs : ∀ (i j : Nat) (x : Str), N[i]? = some x → fv[i]? = some (some j) → X.N[j]? = some x ∧ X.env.scope.names.lookup x = some .cell ∧ (x, NameKind.free) ∈ scope.names
  len : fv.length = N.length
  fvl : ∀ {x : Str}, (x, NameKind.free) ∈ scope.names → scope.names.lookup x ≠ some .local
noncomputable def pick {α : Type} (fv : List (Option Nat)) (σ : List (Option α)) : List (Option α) := fv.map fun o => o.bind fun j => (σ[j]?).join
theorem pick_get {α : Type} {fv : List (Option Nat)} {σ : List (Option α)} {i : Nat} {v : α} (h : (pick fv σ)[i]? = some (some v)) : ∃ j, fv[i]? = some (some j) ∧ σ[j]? = some (some v) := by
  unfold pick at h
  rw [List.getElem?_map] at h
  cases e : fv[i]? with
  | none => rw [e] at h; cases h
  | some o =>
    rw [e] at h
    cases o with
    | none => cases h
    | some j =>
      have h' : (σ[j]?).join = some v := Option.some.inj h
      refine ⟨j, rfl, ?_⟩
      cases e2 : σ[j]? with
      | none => rw [e2] at h'; cases h'
      | some o => rw [e2] at h'; exact congrArg some h'
theorem pick_rel {K : PySem.W.Frag} {H : Hp} {τ : WSt} {σ : St} {fv : List (Option Nat)} (h : RelSt K H τ σ) : RelSt K H (pick fv τ) (pick fv σ) := by
  refine ⟨by simp [pick], fun i w e => ?_⟩
  obtain ⟨j, ej, ew⟩ := pick_get e
  obtain ⟨v, ev, r⟩ := h.2 j w ew
  refine ⟨v, ?_, r⟩
  unfold pick
  rw [List.getElem?_map, ej]
  show some ((σ[j]?).join) = _
  rw [ev]
  rfl
section
variable {X : Cx} {pins : List (Addr × Obj)} {σ : St} {H H2 : Hp} {s s2 : Shared} {scope : Scope} {N : List Str} {fv : List (Option Nat)} {fp : List Addr} {C D : Addr}
theorem CompSc.cells (S : CompSc X scope N fv) (I : Inv X pins σ H s) : ∀ y ∈ scope.names, y.2 = .free → ∃ c, X.env.cells.lookup y.1 = some c := fun y hy hk => I.ok.has y.1 (.inl (S.free y hy hk))
theorem block_inv {h4 : Heap} {t4 : Nat} {m : Str → Option Value} (I : Inv X pins σ H2 s2) (S : CompSc X scope N fv) (hf : ∀ b ∈ fp, FpOk X pins H2 b) (hfo : ∀ b ∈ fp, b < s2.heap.objs.size) (keep : ∀ b o, s2.heap.get? b = some o → h4.get? b = some o)
    (hC : s2.heap.objs.size ≤ C) (ns : h4.Ns C m) : Inv (bCx X N scope C fp s2 H2) [] (pick fv σ) H2 { s2 with heap := h4, toks := t4 } := by
  have look : ∀ x c, (clOf X.env scope.names []).lookup x = some c → X.env.cells.lookup x = some c := clOf_lookup (S.cells I) (fun x c e => by simp at e)
  refine ⟨⟨I.ok.mod, S.kind, I.ok.glob, I.ok.blt, hC, fun x y c e1 e2 => I.ok.inj x y c (look x c e1) (look y c e2), fun x hx => ?_, fun x c h => absurd (show false = true from h) Bool.false_ne_true, I.ok.hd, I.ok.frames, .inl rfl, fun b hb => ?_, I.bs, Nat.le_trans I.ok.bsz I.sz, fun b o e hb => ?_, fun b hb hx => ?_, I.stack, I.stkFree⟩,
    rfl, I.bare, Un.kept keep, ⟨m, ns, fun i x v e1 e2 e3 => ?_⟩, fun x c e => ?_, I.hok.fresh hC, fun x c e => I.freeC x c (look x c e), fun p hp => absurd (show p ∈ ([] : List (Addr × Obj)) from hp) (by simp), I.hok.kept keep, ?_⟩
  · rcases hx with hx | hx
    · exact clOf_has (.inl (relabel_lookup hx (.inl rfl) S.nocell))
    · exact clOf_has (.inl (relabel_lookup hx (.inr rfl) S.nocell))
  · exact ⟨Nat.ne_of_lt (Nat.lt_of_lt_of_le (hfo b hb) hC), fun x c e => (hf b hb).2.2.2.2.1 x c (look x c e)⟩
  · rcases (hf b hb).2.2.2.1 with z | z
    · exact I.ok.noex b o e z
    · exact absurd (Nat.lt_of_lt_of_le (Heap.lt_size e) (Nat.le_trans I.ok.bsz z)) (Nat.lt_irrefl _)
  · rcases List.mem_cons.mp (I.stkSub b hx) with z | z
    · exact (hf b hb).2.1 z
    · exact (hf b hb).2.2.1 z
  · obtain ⟨j, ej, ev⟩ := pick_get e2
    obtain ⟨h1, h2, h3⟩ := S.fvs i j x e1 ej
    obtain ⟨m0, _, hl⟩ := I.loc
    obtain ⟨u, r, l⟩ := hl j x v h1 ev (.inr (.inl h2))
    refine ⟨u, r, .inr ?_⟩
    rcases l with ⟨k, _⟩ | ⟨_, c, ec, o, ho, hd⟩
    · exact absurd (h2.symm.trans k) (by intro z; cases z)
    · obtain ⟨c', ec'⟩ := clOf_has (env := X.env) (l := scope.names) (cs := []) (x := x) (.inl h3)
      have e' := look x c' ec'
      rw [ec] at e'
      cases e'
      refine ⟨?_, c, ec', o, keep _ _ ho, hd⟩
      rcases e3 with e3 | e3 | e3
      · exact absurd (relabel_local e3) fun z => S.fvl h3 z
      · exact .inl e3
      · exact .inr e3
  · obtain ⟨v, o, ho, hd⟩ := I.cell x c (look x c e)
    exact ⟨v, o, keep _ _ ho, hd⟩
  · show (pick fv σ).length = N.length
    unfold pick
    rw [List.length_map, S.len]
end
end L2
namespace L2
open PySem PySem.Spec PyProof.Rows
noncomputable def compW (C : Gp → Prop) (g : WG) (tt : WT) (te : WE) : List W → WSt → Gp → List W → (List W → Gp → Prop) → Prop
  | [], _, G, acc, q => C G ∧ q acc G
  | w :: ws, τ, G, acc, q => C G ∧ g w τ G fun τ2 G2 => tt τ2 G2 fun b G3 => if b = true then te τ2 G3 fun v G4 => acc.length + 1 ≤ 100000 ∧ compW C g tt te ws τ2 G4 (acc ++ [v]) q else compW C g tt te ws τ2 G3 acc q
noncomputable def QTs (X : Cx) (ifs : List Expr) (t : WT) : Prop :=
  ∀ (pins : List (Addr × Obj)) (s : Shared) (σ : St) (H : Hp) (Q : Bool → Hp → Prop), Inv X pins σ H s → LTx X.K t σ H Q → wpAny (model X.prog X.w) X.A (tests ifs X.env) (TP X pins σ Q) X.xe s
noncomputable def wTrue : WT := fun _ G q => q true G
theorem qts_nil {X : Cx} : QTs X [] wTrue := fun pins s σ H Q I ⟨τ, G, q, hs, hg, ht, hQ⟩ => wpAny_tests_nil ⟨H, I, hQ true H G (TLe.refl H) hg ht⟩
theorem qts_one {X : Cx} {c : Expr} {t : WT} (h : QT X c t) : QTs X [c] t := fun pins s σ H Q I hw => wpAny_tests_one (h pins s σ H Q I hw)
theorem RelG.track {K : PySem.W.Frag} {H : Hp} {G : Gp} {p : Addr} {xs : List V} {ws : List W} (h : RelG K H G) (e : H p = some (.lst xs)) (r : Reps K H ws xs) (hl : ws.length ≤ 100000) : RelG K H (updG G p (.lst ws)) := fun a g ea => by
  by_cases hb : a = p
  · subst hb
    rw [updG_same] at ea; cases ea
    exact ⟨hl, xs, e, r⟩
  · rw [updG_ne hb] at ea
    exact h a g ea
section
variable {X : Cx} {pins : List (Addr × Obj)} {σ : St} {H2 : Hp} {s2 : Shared} {scope : Scope} {N : List Str} {fv : List (Option Nat)} {fp : List Addr} {tg elt iter : Expr} {ifs : List Expr} {pos : Pos} {J : It} {it : Addr} {tn : Nat → Heap → Prop}
  {g : WG} {tt : WT} {te : WE} {ws : List W} {Cd : Gp → Prop} {τ : WSt} {G : Gp} {q : List W → Gp → Prop}
structure CompEnd (X : Cx) (pins : List (Addr × Obj)) (σ : St) (H2 : Hp) (s2 : Shared) (G : Gp) (q : List W → Gp → Prop) (D C : Addr) (s' : Shared) : Prop where
  ex : ∃ (Hf : Hp) (Gf : Gp) (rs : List W), (∃ m, s'.heap.Ns C m) ∧ Inv X pins σ Hf s' ∧ Hf C = none ∧ s2.heap.objs.size ≤ C ∧ TLe H2 Hf ∧ RelG X.K Hf (updG Gf D (.lst rs)) ∧ G D = none ∧ Gf D = none ∧ q rs Gf
structure CompI (Y : Cx) (fp : List Addr) (tn : Nat → Heap → Prop) (ws : List W) (H2 : Hp) (D : Addr) (R : List W → WSt → Gp → List W → Prop) (n : Nat) (s : Shared) (i : Nat) (σ1 : St) (H1 : Hp) (τ1 : WSt) (G1 : Gp) (acc : List W) (vs : List V) (its : List Value) : Prop where
  hn : n = ws.length - i
  hi : i ≤ ws.length
  inv : Inv Y [] σ1 H1 s
  st : tn i s.heap
  fr : ∀ b ∈ fp, H1 b = none
  hd : H1 D = none
  pl : s.heap.PlainList D its.toArray
  rv : Vals vs its
  ra : Reps Y.K H1 acc vs
  tl : TLe H2 H1
  rs : RelSt Y.K H1 τ1 σ1
  rg : RelG Y.K H1 G1
  cw : R (ws.drop i) τ1 G1 acc
  hl : acc.length ≤ 100000
theorem comp_block (I : Inv X pins σ H2 s2) (S : CompSc X scope N fv) (hc : X.calm = true) (T : Turn X.prog X.w X.K tg J fp it tn) (st : tn 0 s2.heap) (hf : ∀ b ∈ fp, FpOk X pins H2 b)
    (hg : ∀ C, QG (bCx X N scope C fp s2 H2) tg g) (htt : ∀ C, QTs (bCx X N scope C fp s2 H2) ifs tt) (hte : ∀ C, QE (bCx X N scope C fp s2 H2) elt te)
    (itn : Itn X.K J ws Cd H2) (hs : RelSt X.K H2 τ σ) (gr : RelG X.K H2 G) (hw : compW Cd g tt te ws (pick fv τ) G [] q) {RR : Value → Addr → Result → Shared → Prop} {E : Value → Shared → Prop}
    (hRR : ∀ D C s', CompEnd X pins σ H2 s2 G q D C s' → RR (.ref D) C (.ok .next) s') :
    wpAny (model X.prog X.w) X.A (newList []) (fun acc s3 => wpAny (model X.prog X.w) X.A (newFunctionEnv scope X.env.globals (clOf X.env scope.names []) [] X.env.qual none .none (some X.env)) (fun cenv s4 =>
      codeAny (model X.prog X.w) X.A (.compStart (.ListComp elt [⟨tg, iter, ifs, 0⟩] scope pos) 0 (.ref it) acc { cenv with scope := relabel scope X.env }) (RR acc cenv.locals) s4) E s3) E s2 := by
  have hfo : ∀ b ∈ fp, b < s2.heap.objs.size := fun b hb => let ⟨o, e, _⟩ := T.obj _ _ st b hb; Heap.lt_size e
  refine wpAny_newObj_type (wpAny_newFunctionEnv S.nocell (by intro y hy; simp at hy) (fun h1 hns1 hsb1 => ?_) S.kind)
  dsimp only at hns1 hsb1 ⊢
  generalize hP : s2.heap.push { cls := .type "list", dict := none, data := .seq ([] : List Value).toArray } = P at hns1 hsb1 ⊢
  generalize hD : s2.heap.objs.size = D at *
  have hC : P.objs.size = D + 1 := by rw [← hP, Heap.size_push, hD]
  generalize hCC : P.objs.size = C at *
  have hDC : D ≠ C := by rw [hC]; exact Nat.ne_of_lt (Nat.lt_succ_self _)
  have hDleC : D ≤ C := by rw [hC]; exact Nat.le_succ _
  have old : ∀ b o, s2.heap.get? b = some o → h1.get? b = some o := fun b o e => hsb1.extBut b o (Nat.ne_of_lt (Nat.lt_of_lt_of_le (Heap.lt_size e) (by rw [hD]; exact hDleC))) (Heap.get?_push_of_some _ (hP ▸ Heap.get?_push_of_some _ e))
  have hacc : h1.PlainList D #[] := ⟨0, hsb1.extBut _ _ hDC (Heap.get?_push_of_some _ (by rw [← hP, ← hD]; exact Heap.get?_push_size _ rfl))⟩
  have look : ∀ x c, (clOf X.env scope.names []).lookup x = some c → X.env.cells.lookup x = some c := clOf_lookup (S.cells I) (fun x c e => by simp at e)
  have cD : ∀ x c, (clOf X.env scope.names []).lookup x = some c → c ≠ D := fun x c e z => by
    obtain ⟨v, o, ho, _⟩ := I.cell x c (look x c e)
    exact absurd (Heap.lt_size ho) (by rw [z, hD]; exact Nat.lt_irrefl _)
  have sD : D ∉ frs X.stack := fun hb => by
    rcases List.mem_cons.mp (I.stkSub D hb) with z | z
    · exact absurd I.lt (by rw [← z, hD]; exact Nat.lt_irrefl _)
    · exact I.nofs (by rw [hD]; exact Nat.le_refl _) z
  have fD : D ∉ fp := fun hb => absurd (hfo D hb) (Nat.lt_irrefl _)
  have fpX : ∀ {H1 : Hp} {ps : List (Addr × Obj)}, (∀ b ∈ fp, H1 b = none) → (∀ p ∈ ps, p.1 ∉ fp) → ∀ b ∈ fp, FpOk (bCx X N scope C fp s2 H2) ps H1 b := fun {H1 ps} hn hp b hb => by
    refine ⟨hn b hb, Nat.ne_of_lt (Nat.lt_of_lt_of_le (hfo b hb) hDleC), fun hx => ?_, .inl hb, fun x c e => (hf b hb).2.2.2.2.1 x c (look x c e), fun p hp' z => hp p hp' (z ▸ hb)⟩
    rcases List.mem_cons.mp (I.stkSub b hx) with z | z
    · exact (hf b hb).2.1 z
    · exact (hf b hb).2.2.1 z
  have J0 : Inv (bCx X N scope C fp s2 H2) [] (pick fv σ) H2 { s2 with heap := h1, toks := s2.toks + ([] : List (Str × Value)).length } := block_inv I S hf (by rw [hD]; exact hfo) old (by rw [hD]; exact hDleC) hns1
  have loop : codeAny (model X.prog X.w) X.A (.compLoop (.ListComp elt [⟨tg, iter, ifs, 0⟩] scope pos) 0 (.ref it) (.ref D) (bCx X N scope C fp s2 H2).env) (RR (.ref D) C) { s2 with heap := h1, toks := s2.toks + ([] : List (Str × Value)).length } := by
    refine comp_loop (fun n s => ∃ i σ1 H1 τ1 G1 acc vs its, CompI (bCx X N scope C fp s2 H2) fp tn ws H2 D (fun l τ1 G1 acc => compW Cd g tt te l τ1 G1 acc q) n s i σ1 H1 τ1 G1 acc vs its) ?_ ws.length
      ⟨0, _, H2, _, G, [], [], [], by simp, Nat.zero_le _, J0, T.keep _ _ _ st fun b _ o e => old b o e, fun b hb => (hf b hb).1, I.hok.fresh (by rw [hD]; exact Nat.le_refl _), hacc, .nil, .nil, TLe.refl _, pick_rel hs, gr, by simpa using hw, by simp⟩
    rintro n s ⟨i, σ1, H1, τ1, G1, acc, vs, its, rfl, hi, J1, st1, fr1, d1, pl1, rv1, ra1, t1, s1, g1, q1, hl1⟩
    obtain ⟨kk, eD⟩ := pl1
    have J1p : Inv (bCx X N scope C fp s2 H2) [(D, { cls := .type "list", data := .seq its.toArray kk })] σ1 H1 s := J1.pins_of fun p hp => by
      have e := List.mem_singleton.mp hp
      subst e
      exact ⟨eD, d1, hDC, sD, fun v z => by cases z⟩
    have pnf : ∀ p ∈ [((D, { cls := .type "list", data := .seq its.toArray kk }) : Addr × Obj)], p.1 ∉ fp := fun p hp => by
      have e := List.mem_singleton.mp hp
      subst e
      exact fD
    by_cases hlt : i < ws.length
    · have ed : ws.drop i = ws[i] :: ws.drop (i + 1) := List.drop_eq_getElem_cons hlt
      rw [ed] at q1
      obtain ⟨c1, q1⟩ := q1
      obtain ⟨go, yl⟩ := itn.go i ws[i] H1 G1 t1 g1 c1 (List.getElem?_eq_getElem hlt)
      refine thn (T.item (bCx X N scope C fp s2 H2) rfl rfl rfl hc i _ s σ1 H1 nox J1p (fpX fr1 pnf) st1 go) fun r s4 ⟨u, hr, h4⟩ => ?_
      subst hr
      refine thn h4 fun _ s5 ⟨x, H5, I5, r5, y5, st5, fr5⟩ => ?_
      obtain ⟨tx, rx, gx⟩ := yl x H5 y5
      have I5' := I5.pinned (fpX fr5 pnf) (T.obj _ _ st5)
      refine thn (hg C _ s5 σ1 H5 x u (fun σ6 H6 => ∃ τ6 G6, TLe H5 H6 ∧ RelSt X.K H6 τ6 σ6 ∧ RelG X.K H6 G6 ∧ tt τ6 G6 fun b G3 => if b = true then te τ6 G3 fun v G4 => acc.length + 1 ≤ 100000 ∧ compW Cd g tt te (ws.drop (i + 1)) τ6 G4 (acc ++ [v]) q else compW Cd g tt te (ws.drop (i + 1)) τ6 G3 acc q) I5' r5
        ⟨ws[i], τ1, G1, _, rx, s1.mono tx, gx, q1, fun σ6 H6 τ6 G6 t6 s6 g6 q6 => ⟨τ6, G6, t6, s6, g6, q6⟩⟩) fun _ s6 ⟨σ6, H6, I6, τ6, G6, t6, rs6, g6, q6⟩ => ?_
      refine thn (htt C _ s6 σ6 H6 (fun b H7 => ∃ G7, TLe H6 H7 ∧ RelG X.K H7 G7 ∧ (if b = true then te τ6 G7 fun v G4 => acc.length + 1 ≤ 100000 ∧ compW Cd g tt te (ws.drop (i + 1)) τ6 G4 (acc ++ [v]) q else compW Cd g tt te (ws.drop (i + 1)) τ6 G7 acc q)) I6
        ⟨τ6, G6, _, rs6, g6, q6, fun b H7 G7 t7 g7 q7 => ⟨G7, t7, g7, q7⟩⟩) fun ok s7 ⟨H7, I7, G7, t7, g7, q7⟩ => ?_
      have t17 : TLe H1 H7 := (tx.trans t6).trans t7
      -- what the pins keep up to a later state
      have keepFp : ∀ {σ8 : St} {H8 : Hp} {s8 : Shared}, Inv (bCx X N scope C fp s2 H2) ([(D, { cls := .type "list", data := .seq its.toArray kk })] ++ pinsAt fp s5.heap) σ8 H8 s8 → tn (i + 1) s8.heap ∧ (∀ b ∈ fp, H8 b = none) ∧ H8 D = none ∧ s8.heap.get? D = some { cls := .type "list", data := .seq its.toArray kk } ∧ ∀ b ∈ fp, ∃ o, s8.heap.get? b = some o := fun {σ8 H8 s8} I8 => by
        refine ⟨T.keep _ _ _ st5 fun b hb o e => (I8.pin (b, o) (List.mem_append_right _ (List.mem_append_right _ (mem_pinsAt hb e)))).1, fun b hb => ?_, (I8.pin (D, _) (List.mem_append_right _ (List.mem_append_left _ List.mem_cons_self))).2.1, (I8.pin (D, _) (List.mem_append_right _ (List.mem_append_left _ List.mem_cons_self))).1, fun b hb => ?_⟩
        · obtain ⟨o, e, _⟩ := T.obj _ _ st5 b hb
          exact (I8.pin (b, o) (List.mem_append_right _ (List.mem_append_right _ (mem_pinsAt hb e)))).2.1
        · obtain ⟨o, e, _⟩ := T.obj _ _ st5 b hb
          exact ⟨o, (I8.pin (b, o) (List.mem_append_right _ (List.mem_append_right _ (mem_pinsAt hb e)))).1⟩
      cases ok with
      | false =>
        rw [if_neg Bool.false_ne_true] at q7 ⊢
        obtain ⟨k1, k2, k3, k4, _⟩ := keepFp I7
        exact ⟨ws.length - (i + 1), by omega, i + 1, σ6, H7, τ6, G7, acc, vs, its, rfl, hlt, I7.pins_of fun p hp => absurd hp (by simp), k1, k2, k3, ⟨kk, k4⟩, rv1, ra1.mono t17, t1.trans t17, rs6.mono t7, g7, q7, hl1⟩
      | true =>
        rw [if_pos rfl] at q7 ⊢
        refine thn (hte C _ s7 σ6 H7 (fun v H8 => ∃ w8 G8, TLe H7 H8 ∧ Rep X.K H8 w8 v ∧ RelG X.K H8 G8 ∧ acc.length + 1 ≤ 100000 ∧ compW Cd g tt te (ws.drop (i + 1)) τ6 G8 (acc ++ [w8]) q) I7
          ⟨τ6, G7, _, rs6.mono t7, g7, q7, fun v H8 w8 G8 t8 r8 g8 q8 => ⟨w8, G8, t8, r8, g8, q8⟩⟩) fun u8 s8 ⟨v8, H8, I8, rv8, w8, G8, t8, r8, g8, hl8, q8⟩ => ?_
        obtain ⟨k1, k2, k3, k4, k5⟩ := keepFp I8
        have t18 : TLe H1 H8 := t17.trans t8
        refine wpAny_list_append_plain ⟨kk, k4⟩ (fun h9 pl9 sb9 => ?_) (by rw [List.size_toArray, ← rv1.length, ← ra1.length]; exact line_le hl1)
        have I9 : Inv (bCx X N scope C fp s2 H2) [] σ6 H8 { s8 with heap := h9 } := (I8.pins_of (pins' := []) fun p hp => absurd hp (by simp)).turned (t' := s8.toks) (fun b o hb e => (sb9.2 b hb).trans e) k3 hDC (.inr (by show s2.heap.objs.size ≤ D; rw [hD]; exact Nat.le_refl _)) (fun x c e => cD x c e) fun p hp => absurd (show p ∈ ([] : List (Addr × Obj)) from hp) (by simp)
        refine ⟨ws.length - (i + 1), by omega, i + 1, σ6, H8, τ6, G8, acc ++ [w8], vs ++ [v8], its ++ [u8], rfl, hlt, I9, T.keep _ _ _ k1 fun b hb o e => (sb9.2 b (fun z => fD (z ▸ hb))).trans e, k2, k3, by simpa using pl9, rv1.append (.cons rv8 .nil), (ra1.mono t18).append (.cons r8 .nil), t1.trans t18, (rs6.mono t7).mono t8, g8, q8, by rw [List.length_append]; exact hl8⟩
    · have e : i = ws.length := by omega
      subst e
      rw [List.drop_length] at q1
      refine thn (T.done (bCx X N scope C fp s2 H2) rfl rfl rfl hc _ _ s σ1 H1 nox J1p (fpX fr1 pnf) st1 (itn.stop _ H1 G1 t1 g1 q1.1 (Nat.le_refl _))) fun r s4 ⟨hr, I4⟩ => ?_
      subst hr
      have eD4 := (I4.pin (D, _) (List.mem_append_right _ List.mem_cons_self)).1
      have zl : vs.length ≤ sizeLine := by rw [← ra1.length]; exact line_le hl1
      have hb2 : ∀ b o, s2.heap.get? b = some o → b ≠ D := fun b o e => by
        have := Heap.lt_size e
        rw [hD] at this
        exact Nat.ne_of_lt this
      refine hRR D C s4 ⟨upd H1 D (.lst vs), G1, acc, let ⟨m, hn, _⟩ := I4.loc; ⟨m, hn⟩, ?_, ?_, by rw [hD]; exact hDleC, t1.trans (TLe.new d1 _), ?_, gr.fresh (I.hok.fresh (by rw [hD]; exact Nat.le_refl _)), g1.fresh d1, q1.2⟩
      · refine I.call' (ch := fp) I4.os ⟨fun b o e n hb hx => I4.base.keep b o e n hb hx, fun b o e n hb hx => I4.base.slot b o e n hb hx, fun b o e n hx => ?_, fun b o e hx => I4.base.there b o e hx, fun b xs e => ?_, fun b o u e => ?_, fun b ps e => ?_⟩ ?_ I4.bare fun b hb => ⟨(hf b hb).2.2.2.1, (hf b hb).2.1, fun x c e => (hf b hb).2.2.2.2.1 x c e, fun p hp => (hf b hb).2.2.2.2.2 p hp⟩
        · rw [upd_ne (hb2 b o e)]; exact I4.base.free b o e n hx
        · rw [upd_ne (ne_of_none (I4.base.tups b xs e) d1)]; exact I4.base.tups b xs e
        · rw [upd_ne (ne_of_none (I4.base.frzs b o u e) d1)]; exact I4.base.frzs b o u e
        · obtain ⟨more, e'⟩ := I4.base.tbls b ps e
          exact ⟨more, by rw [upd_ne (ne_of_none e' d1)]; exact e'⟩
        · intro b u e
          by_cases hbD : b = D
          · subst hbD
            rw [upd_same] at e; cases e
            exact ⟨zl, its, kk, rv1, eD4⟩
          · rw [upd_ne hbD] at e
            exact (I4.hok b u e).stay (fun c v _ q => q) (fun c q => by rw [upd_ne (ne_of_none q d1)]; exact q) fun c xs q => by rw [upd_ne (ne_of_none q d1)]; exact q
      · rw [upd_ne (Ne.symm hDC)]; exact I4.free
      · exact (g1.upd (TLe.new d1 _) (g1.fresh d1)).track upd_same (ra1.mono (TLe.new d1 _)) hl1
  exact codeAny_compStart_list loop (T.self _ 0 _ _ _ (T.keep _ _ _ st fun b _ o e => old b o e) loop)
noncomputable def wComp (wi : WI) (fv : List (Option Nat)) (g : WG) (tt : WT) (te : WE) : WE := fun τ G q => wi τ G fun ws Cd G1 => compW Cd g tt te ws (pick fv τ) G1 [] fun rs G2 => ∀ p, G1 p = none → q (.ref p) (updG G2 p (.lst rs))
theorem qe_comp {wi : WI} (S : CompSc X scope N fv) (hc : X.calm = true) (hi : QI X tg iter wi) (hg : ∀ C fp s2 H2, QG (bCx X N scope C fp s2 H2) tg g) (htt : ∀ C fp s2 H2, QTs (bCx X N scope C fp s2 H2) ifs tt) (hte : ∀ C fp s2 H2, QE (bCx X N scope C fp s2 H2) elt te)
    (hs : ∀ x, foldedSetIterable iter X.env x = pure x := by intro _; rfl) : QE X (.ListComp elt [⟨tg, iter, ifs, 0⟩] scope pos) (wComp wi fv g tt te) := by
  intro pins s σ H Q I ⟨τ, G, q, hτ, hG, ht, hQ⟩
  rw [eval_ListComp]
  refine wpAny_comprehension_free (use := none) rfl hs (closure_of (S.cells I)) S.kind S.names (thn (hi pins s σ H (fun J H1 => ∃ ws Cd G1, TLe H H1 ∧ RelG X.K H1 G1 ∧ Itn X.K J ws Cd H1 ∧ compW Cd g tt te ws (pick fv τ) G1 [] fun rs G2 => ∀ p, G1 p = none → q (.ref p) (updG G2 p (.lst rs))) I
    ⟨τ, G, _, hτ, hG, ht, fun J H1 ws C G1 t1 g1 it r1 => ⟨ws, C, G1, t1, g1, it, r1⟩⟩) fun v s1 h1 => thn h1 fun itv s2 h2 => ?_)
  obtain ⟨it, fp, tn, J, H2, e, I2, T, st2, f2, ws, Cd, G1, t1, g1, itn, hw⟩ := h2
  subst e
  refine comp_block (RR := fun acc C => compPost (model X.prog X.w) X.A X.xe none (EP X pins σ Q) acc C) I2 S hc T st2 f2 (fun C => hg C fp s2 H2) (fun C => htt C fp s2 H2) (fun C => hte C fp s2 H2) itn (hτ.mono t1) g1 hw fun D C s' ⟨Hf, Gf, rs, ⟨m, hn⟩, I5, hC, hCs, t5, g5, hD, hD2, q5⟩ => ?_
  refine ⟨m, hn, fun h' sb => ?_⟩
  have hlt : C ≠ X.env.locals := fun z => absurd I2.lt (Nat.not_lt.mpr (z ▸ hCs))
  have I6 : Inv X pins σ Hf { s' with heap := h' } := I5.turned (t' := s'.toks) (fun b o hb e => (sb.2 b hb).trans e) hC hlt (.inr (Nat.le_trans I2.sz hCs)) (fun x c e z => by
    obtain ⟨v, o, ho, _⟩ := I2.cell x c e
    exact absurd (Heap.lt_size ho) (Nat.not_lt.mpr (z ▸ hCs))) fun p hp z => absurd (Heap.lt_size (I2.pin p hp).1) (Nat.not_lt.mpr (z ▸ hCs))
  exact ⟨.ref D, Hf, I6, rfl, hQ _ Hf _ _ (t1.trans t5) (.ref D) g5 (q5 D hD)⟩
theorem qs_comp (i : Nat) {y : Str} {py spos : Pos} {wi : WI} (S : CompSc X scope N fv) (hc : X.calm = true) (hN : X.N.Nodup) (hiN : X.N[i]? = some y) (hy : Loc X.env.scope y) (hi : QI X tg iter wi) (hg : ∀ C fp s2 H2, QG (bCx X N scope C fp s2 H2) tg g) (htt : ∀ C fp s2 H2, QTs (bCx X N scope C fp s2 H2) ifs tt) (hte : ∀ C fp s2 H2, QE (bCx X N scope C fp s2 H2) elt te)
    (hsw : swapsWith (.ListComp elt [⟨tg, iter, ifs, 0⟩] scope pos) (some (.Name y py)) spos.line X.env = pure true := by rfl) (hs : ∀ x, foldedSetIterable iter X.env x = pure x := by intro _; rfl) (hfn : X.fn y = true ∨ X.env.scope.names.lookup y = some .local := by first | exact .inl rfl | exact .inr rfl | assumption) :
    QS X (.Assign [.Name y py] (.ListComp elt [⟨tg, iter, ifs, 0⟩] scope pos) spos) (wAsg (wComp wi fv g tt te) (hName i)) := by
  intro pins s σ H D0 I ⟨τ, G, d, hτ, hG, ht, l⟩
  rw [exec_Assign_Name_used _ _ _ _ hsw]
  refine wpAny_bind (wpAny_standAt (wpAny_bind ?_))
  show wpAny _ _ (do let _ ← comprehension (.ListComp elt [⟨tg, iter, ifs, 0⟩] scope pos) scope X.env _ (newList []) false (eval iter X.env) (some (assign (.Name y py) X.env))) _ _ s
  refine wpAny_bind (wpAny_mono (wpAny_comprehension_free (use := some (assign (.Name y py) X.env)) (Q := fun _ s' => SP X pins D0 .next s') rfl hs (closure_of (S.cells I)) S.kind S.names (thn (hi pins s σ H (fun J H1 => ∃ ws Cd G1, TLe H H1 ∧ RelG X.K H1 G1 ∧ Itn X.K J ws Cd H1 ∧ compW Cd g tt te ws (pick fv τ) G1 [] fun rs G2 => ∀ p, G1 p = none → hName i (.ref p) τ (updG G2 p (.lst rs)) d.nx) I
    ⟨τ, G, _, hτ, hG, ht, fun J H1 ws C G1 t1 g1 it r1 => ⟨ws, C, G1, t1, g1, it, r1⟩⟩) fun v s1 h1 => thn h1 fun itv s2 h2 => ?_)) (fun _ s' hq => wpAny_pure (wpAny_pure hq)) fun _ _ e => e)
  obtain ⟨it, fp, tn, J, H2, e, I2, T, st2, f2, ws, Cd, G1, t1, g1, itn, hw⟩ := h2
  subst e
  refine comp_block (RR := fun acc C => compPost (model X.prog X.w) X.A X.xe (some (assign (.Name y py) X.env)) (fun _ s' => SP X pins D0 .next s') acc C) I2 S hc T st2 f2 (fun C => hg C fp s2 H2) (fun C => htt C fp s2 H2) (fun C => hte C fp s2 H2) itn (hτ.mono t1) g1 hw fun D C s' ⟨Hf, Gf, rs, ⟨m, hn⟩, I5, hC, hCs, t5, g5, hD, hD2, q5⟩ => ?_
  have hlt : C ≠ X.env.locals := fun z => absurd I2.lt (Nat.not_lt.mpr (z ▸ hCs))
  have hcell : ∀ x c, X.env.cells.lookup x = some c → c ≠ C := fun x c e z => by
    obtain ⟨v, o, ho, _⟩ := I2.cell x c e
    exact absurd (Heap.lt_size ho) (Nat.not_lt.mpr (z ▸ hCs))
  show wpAny _ _ (assign (.Name y py) X.env (.ref D)) _ _ s'
  refine wpAny_assign_Name (store_ok2 I5 hN hiN hy (v := .ref D) rfl (fun s6 I6 ⟨a, sb6, ha⟩ => ?_) hfn)
  have haC : C ≠ a := by
    rcases ha with z | z
    · rw [z]; exact hlt
    · exact Ne.symm (hcell y a z)
  refine ⟨m, hn.sameBut sb6 haC, fun h' sb => ?_⟩
  have I7 : Inv X pins (σ.set i (some (.ref D))) Hf { s6 with heap := h' } := I6.turned (t' := s6.toks) (fun b o hb e => (sb.2 b hb).trans e) hC hlt (.inr (Nat.le_trans I2.sz hCs)) hcell fun p hp z => absurd (Heap.lt_size (I2.pin p hp).1) (Nat.not_lt.mpr (z ▸ hCs))
  exact ⟨_, Hf, I7, l.nx _ Hf _ _ (t1.trans t5) ((hτ.mono (t1.trans t5)).set (.ref D) i) g5 (q5 D hD)⟩
end
end L2
namespace L2
open PySem PySem.Spec PyProof.Rows
noncomputable def Itz (K : PySem.W.Frag) (a b : Addr) : It :=
  ⟨fun i H => ∃ xs ys x y, SqT K H a xs ∧ SqT K H b ys ∧ xs[i]? = some x ∧ ys[i]? = some y,
   fun i H v H' => ∃ p x y, H p = none ∧ (∀ xs, SqT K H a xs → xs[i]? = some x) ∧ (∀ ys, SqT K H b ys → ys[i]? = some y) ∧ v = .ref p ∧ H' = upd H p (.tup [x, y]),
   fun i H => ∃ xs ys, SqT K H a xs ∧ SqT K H b ys ∧ (xs.length ≤ i ∨ ys.length ≤ i)⟩
section
variable {P : Program} {w : World} {K : PySem.W.Frag}
theorem turn_zip {elts : List Expr} {k : Nat} {pos : Pos} {z p r i j a b : Addr} (D : ZA z p r i j a b) : Turn P w K (.Tuple elts k pos) (Itz K a b) [z, p, r, i, j] z (fun n h => ZT z p r i j a b n .none h) where
  mem := by simp
  obj := fun n h T c hc => by
    obtain ⟨hz, hp, ⟨x, y, hr⟩, ⟨oi, hi, _, di⟩, ⟨oj, hj, _, dj⟩⟩ := T
    simp only [List.mem_cons, List.mem_nil_iff, or_false] at hc
    rcases hc with rfl | rfl | rfl | rfl | rfl
    · exact ⟨_, hz, fun v q => by cases q⟩
    · exact ⟨_, hp, fun v q => by cases q⟩
    · exact ⟨_, hr, fun v q => by cases q⟩
    · exact ⟨_, hi, fun v q => by rw [di] at q; cases q⟩
    · exact ⟨_, hj, fun v q => by rw [dj] at q; cases q⟩
  keep := fun n h h' T kk => by
    obtain ⟨hz, hp, ⟨x, y, hr⟩, hi, hj⟩ := T
    exact ⟨kk z (by simp) _ hz, kk p (by simp) _ hp, ⟨x, y, kk r (by simp) _ hr⟩, hi.at fun o e => kk i (by simp) o e, hj.at fun o e => kk j (by simp) o e⟩
  item := by
    intro X hP hw hK hc n pins s σ H E I hf T hg
    subst hP hw hK
    obtain ⟨xs, ys, x, y, qa, qb, ex, ey⟩ := hg
    obtain ⟨its, rv, pa, hza⟩ := I.tuple qa
    obtain ⟨its2, rv2, pb, hzb⟩ := I.tuple qb
    obtain ⟨ux, eux, rx⟩ := rv.get ex
    obtain ⟨uy, euy, ry⟩ := rv2.get ey
    refine zipT_item D T (show s.heap.IsTuple a its.toArray from pa) (show s.heap.IsTuple b its2.toArray from pb) (by simpa using eux) (by simpa using euy) fun h1 T1 t1 k1 => ⟨_, rfl, ?_⟩
    refine wpAny_letOwnedTupleGo_zip T1.hz fun h2 hz2 sb2 => ?_
    have lt : ∀ {c : Addr} {o : Obj}, s.heap.get? c = some o → c ≠ s.heap.objs.size := fun e => Nat.ne_of_lt (Heap.lt_size e)
    have hnew : H s.heap.objs.size = none := I.hok.fresh (Nat.le_refl _)
    have zne : z ≠ s.heap.objs.size := lt T.hz
    have keep : ∀ c o, c ≠ z → c ≠ r → c ≠ i → c ≠ j → s.heap.get? c = some o → h2.get? c = some o := fun c o c1 c2 c3 c4 e => sb2.extBut c o c1 (k1 c o c1 c2 c3 c4 e)
    have tn : h2.get? s.heap.objs.size = some { cls := .type "tuple", data := .seq #[ux, uy] } := sb2.extBut _ _ (Ne.symm zne) t1
    have inZ : ∀ c ∈ [z, r, i, j], c ∈ [z, p, r, i, j] := fun c hc => by
      simp only [List.mem_cons, List.mem_nil_iff, or_false] at hc ⊢
      rcases hc with h | h | h | h <;> simp [h]
    have notin : ∀ {c : Addr}, c ∉ [z, r, i, j] → c ≠ z ∧ c ≠ r ∧ c ≠ i ∧ c ≠ j := fun {c} hc => by
      simp only [List.mem_cons, List.mem_nil_iff, or_false, not_or] at hc
      exact hc
    have tracked : ∀ c u, H c = some u → c ∉ [z, r, i, j] := fun c u e hc => by
      rw [(hf c (inZ c hc)).1] at e; cases e
    refine ⟨.ref s.heap.objs.size, upd H s.heap.objs.size (.tup [x, y]), ?_, rfl, ⟨_, x, y, hnew, fun zs hz => by rw [I.tuple_inj hz qa]; exact ex, fun zs hz => by rw [I.tuple_inj hz qb]; exact ey, rfl, rfl⟩, ⟨hz2, ?_, ?_, ?_, ?_⟩, fun c hc => ?_⟩
    · show Inv X pins σ _ { s with heap := h2, gens := s.gens, drawn := s.drawn, toks := s.toks }
      refine I.step (g' := s.gens) (d' := s.drawn) (t' := s.toks) (ch := [z, r, i, j]) (fun c hc => ?_) (fun c o _ _ hc e _ => ?_) (fun c o _ _ hc e _ => ⟨o.slots, ?_⟩) (fun c o _ e n => ?_) (fun c o hc e => ⟨o, ?_⟩) (fun c xs e => ?_) (fun c o u e => ?_) (fun c ps e => ⟨#[], ?_⟩) (fun m hm => ?_) (fun c u e => ?_) I.bare
      · obtain ⟨_, f1, _, f3, f4, f5⟩ := hf c (inZ c hc)
        exact ⟨f3, f1, f4, f5⟩
      · obtain ⟨c1, c2, c3, c4⟩ := notin hc; exact keep c o c1 c2 c3 c4 e
      · obtain ⟨c1, c2, c3, c4⟩ := notin hc; exact keep c o c1 c2 c3 c4 e
      · rw [upd_ne (lt e)]; exact n
      · obtain ⟨c1, c2, c3, c4⟩ := notin hc; exact keep c o c1 c2 c3 c4 e
      · rw [upd_ne (ne_of_none e hnew)]; exact e
      · rw [upd_ne (ne_of_none e hnew)]; exact e
      · rw [upd_ne (ne_of_none e hnew), e]; simp
      · obtain ⟨o, es, ep, ho, rest⟩ := hm
        have nl : ∀ c ∈ [z, r, i, j], X.env.locals ≠ c := fun c hc => Ne.symm (hf c (inZ c hc)).2.1
        exact ⟨o, es, ep, keep _ o (nl z (by simp)) (nl r (by simp)) (nl i (by simp)) (nl j (by simp)) ho, rest⟩
      · by_cases hcs : c = s.heap.objs.size
        · subst hcs
          rw [upd_same] at e; cases e
          exact ⟨by show 2 ≤ sizeLine; decide, [ux, uy], .cons rx (.cons ry .nil), ⟨_, tn, rfl, _, rfl⟩⟩
        · rw [upd_ne hcs] at e
          refine (I.hok c u e).stay (fun c' v hc' q => ?_) (fun c' q => by rw [upd_ne (ne_of_none q hnew)]; exact q) fun c' xs q => by rw [upd_ne (ne_of_none q hnew)]; exact q
          have nt : c' ∉ [z, r, i, j] := by
            rcases hc' with rfl | hc'
            · exact tracked _ _ e
            · exact tracked _ _ hc'
          obtain ⟨c1, c2, c3, c4⟩ := notin nt
          exact keep c' v c1 c2 c3 c4 q
    · exact sb2.extBut _ _ D.zp T1.hp
    · obtain ⟨x', y', hr⟩ := T1.hr
      exact ⟨x', y', sb2.extBut _ _ D.zr hr⟩
    · exact T1.hi.extBut sb2.extBut D.zi
    · exact T1.hj.extBut sb2.extBut D.zj
    · obtain ⟨o, e, _⟩ : ∃ o, s.heap.get? c = some o ∧ True := by
        obtain ⟨hz, hp, ⟨x, y, hr⟩, ⟨oi, hi, _, di⟩, ⟨oj, hj, _, dj⟩⟩ := T
        simp only [List.mem_cons, List.mem_nil_iff, or_false] at hc
        rcases hc with rfl | rfl | rfl | rfl | rfl
        · exact ⟨_, hz, trivial⟩
        · exact ⟨_, hp, trivial⟩
        · exact ⟨_, hr, trivial⟩
        · exact ⟨_, hi, trivial⟩
        · exact ⟨_, hj, trivial⟩
      rw [upd_ne (lt e)]; exact (hf c hc).1
  done := by
    intro X hP hw hK hc n pins s σ H E I hf T hg
    subst hP hw hK
    obtain ⟨xs, ys, qa, qb, hl⟩ := hg
    obtain ⟨its, rv, pa, hza⟩ := I.tuple qa
    obtain ⟨its2, rv2, pb, hzb⟩ := I.tuple qb
    have la := rv.length
    have lb := rv2.length
    have hx : its.toArray[n]? = none ∨ its2.toArray[n]? = none := by
      rcases hl with h | h
      · exact .inl (by simp; (clear D hc I hf T qa qb rv pa hza rv2 pb hzb lb; omega))
      · exact .inr (by simp; (clear D hc I hf T qa qb rv pa hza rv2 pb hzb la; omega))
    refine zipT_end (I.ok.hd hc) D T (show s.heap.IsTuple a its.toArray from pa) (show s.heap.IsTuple b its2.toArray from pb) hx fun h' k1 => ⟨rfl, ?_⟩
    have inZ : ∀ c ∈ [z, r, i, j], c ∈ [z, p, r, i, j] := fun c hc => by
      simp only [List.mem_cons, List.mem_nil_iff, or_false] at hc ⊢
      rcases hc with h | h | h | h <;> simp [h]
    have notin : ∀ {c : Addr}, c ∉ [z, r, i, j] → c ≠ z ∧ c ≠ r ∧ c ≠ i ∧ c ≠ j := fun {c} hc => by
      simp only [List.mem_cons, List.mem_nil_iff, or_false, not_or] at hc
      exact hc
    have tracked : ∀ c u, H c = some u → c ∉ [z, r, i, j] := fun c u e hc => by
      rw [(hf c (inZ c hc)).1] at e; cases e
    have kk : ∀ c o, c ∉ [z, r, i, j] → s.heap.get? c = some o → h'.get? c = some o := fun c o hc e => by
      obtain ⟨c1, c2, c3, c4⟩ := notin hc; exact k1 c o c1 c2 c3 c4 e
    refine I.step (g' := s.gens) (d' := s.drawn) (t' := s.toks) (ch := [z, r, i, j]) (fun c hc => ?_) (fun c o _ _ hc e _ => kk c o hc e) (fun c o _ _ hc e _ => ⟨o.slots, kk c o hc e⟩) (fun _ _ _ _ n => n) (fun c o hc e => ⟨o, kk c o hc e⟩) (fun _ _ e => e) (fun _ _ _ e => e) (fun c ps e => ⟨#[], by rw [e]; simp⟩) (fun m hm => ?_) (fun c u e => ?_) I.bare
    · obtain ⟨_, f1, _, f3, f4, f5⟩ := hf c (inZ c hc)
      exact ⟨f3, f1, f4, f5⟩
    · obtain ⟨o, es, ep, ho, rest⟩ := hm
      have nl : X.env.locals ∉ [z, r, i, j] := fun hc => (hf _ (inZ _ hc)).2.1 rfl
      exact ⟨o, es, ep, kk _ o nl ho, rest⟩
    · refine (I.hok c u e).stay (fun c' v hc' q => kk c' v ?_ q) (fun _ q => q) fun _ _ q => q
      rcases hc' with rfl | hc'
      · exact tracked _ _ e
      · exact tracked _ _ hc'
  self := fun _ _ _ _ _ T h => wpAny_pyIter_zip T.hz h
end
noncomputable def zipW : List W → List W → List W
  | x :: xs, y :: ys => .tup [x, y] :: zipW xs ys
  | _, _ => []
theorem zipW_get : ∀ {xs ys : List W} {i : Nat} {w : W}, (zipW xs ys)[i]? = some w → ∃ x y, xs[i]? = some x ∧ ys[i]? = some y ∧ w = .tup [x, y]
  | [], _, _, _, e => by simp [zipW] at e
  | _ :: _, [], _, _, e => by simp [zipW] at e
  | x :: xs, y :: ys, 0, w, e => by simp [zipW] at e; exact ⟨x, y, rfl, rfl, e.symm⟩
  | x :: xs, y :: ys, i + 1, w, e => by
    obtain ⟨a, b, h1, h2, h3⟩ := zipW_get (xs := xs) (ys := ys) (i := i) (w := w) (by simpa [zipW] using e)
    exact ⟨a, b, by simpa using h1, by simpa using h2, h3⟩
theorem zipW_length : ∀ (xs ys : List W), (zipW xs ys).length = min xs.length ys.length
  | [], _ => by simp [zipW]
  | _ :: _, [] => by simp [zipW]
  | _ :: xs, _ :: ys => by simp only [zipW, List.length_cons, zipW_length xs ys]; exact (Nat.succ_min_succ _ _).symm
section
variable {X : Cx}
theorem itn_zip {K : PySem.W.Frag} {a b : Addr} {ws us : List W} {xs ys : List V} {H : Hp} (ha : H a = some (.tup xs)) (hb : H b = some (.tup ys)) (ra : Reps K H ws xs) (rb : Reps K H us ys) : Itn K (Itz K a b) (zipW ws us) (fun _ => True) H where
  stop := fun i H1 G t g _ hl => ⟨xs, ys, SqT.of (t.tup _ _ ha), SqT.of (t.tup _ _ hb), by
    rw [zipW_length] at hl
    rw [← ra.length, ← rb.length]
    (clear ha hb ra rb t g; omega)⟩
  go := fun i w H1 G t g _ e => by
    obtain ⟨x, y, ex, ey, rfl⟩ := zipW_get e
    obtain ⟨vx, e1, r1⟩ := ra.get ex
    obtain ⟨vy, e2, r2⟩ := rb.get ey
    refine ⟨⟨xs, ys, vx, vy, SqT.of (t.tup _ _ ha), SqT.of (t.tup _ _ hb), e1, e2⟩, fun v H' ⟨p, x', y', hp, h1, h2, ev, eH⟩ => ?_⟩
    have z1 := h1 _ (SqT.of (t.tup _ _ ha))
    have z2 := h2 _ (SqT.of (t.tup _ _ hb))
    rw [e1] at z1; cases z1
    rw [e2] at z2; cases z2
    subst ev eH
    have tn := TLe.new hp (HO.tup [vx, vy])
    exact ⟨tn, .tup upd_same (.cons ((r1.mono t).mono tn) (.cons ((r2.mono t).mono tn) .nil)), g.keep hp _⟩
noncomputable def jZip (ta : WA) : WI := fun τ G r => ta τ G fun ws G1 => match ws with
  | [.tup xs, .tup ys] => r (zipW xs ys) (fun _ => True) G1
  | _ => False
theorem boot_zip : bootBuiltins "zip" = some (.type "zip") := by decide +kernel
theorem inv_tt {ws : List W} {f : List W → List W → Prop} (h : match ws with | [.tup xs, .tup ys] => f xs ys | _ => False) : ∃ xs ys, ws = [.tup xs, .tup ys] ∧ f xs ys := by
  rcases ws with _ | ⟨a, _ | ⟨b, r⟩⟩
  · exact h.elim
  · cases a <;> exact h.elim
  · cases a with
    | tup i =>
      cases b with
      | tup j => cases r with
        | nil => exact ⟨i, j, rfl, h⟩
        | cons _ _ => exact h.elim
      | _ => exact h.elim
    | _ => exact h.elim
theorem qi_zip {elts : List Expr} {k : Nat} {tp : Pos} {a b : Expr} {ta : WA} {p pos : Pos} (hg : Gl X "zip") (hm : X.mg "zip" = none) (ha : QA X [a, b] ta) (hs : starEach [a, b] X.env = [(false, eval a X.env), (false, eval b X.env)] := by rfl) (hs2 : starEach [b] X.env = [(false, eval b X.env)] := by rfl) :
    QI X (.Tuple elts k tp) (.Call (.Name "zip" p) [a, b] [] pos) (jZip ta) := by
  intro pins s σ H R I ⟨τ, G, r, hτ, hG, ht, hR⟩
  refine Call_ (ld_blt I hg hm boot_zip (PyProof.Rows.callWith_type1 (thn (ha pos pins s σ H (fun vs H1 => ∃ ws G1, TLe H H1 ∧ Reps X.K H1 ws vs ∧ RelG X.K H1 G1 ∧ match ws with | [.tup xs, .tup ys] => r (zipW xs ys) (fun _ => True) G1 | _ => False) I ⟨τ, G, _, hτ, hG, ht, fun vs H1 ws G1 t1 r1 g1 q1 => ⟨ws, G1, t1, r1, g1, q1⟩⟩) fun us s1 ⟨vs, H1, I1, ru, ws, G1, t1, r1, g1, q1⟩ => ?_) (by rw [hs, hs2]) (by rw [hs2]; rfl)))
  obtain ⟨xs, ys, rfl, q1⟩ := inv_tt q1
  obtain ⟨v1, v2, rfl, ra, rb⟩ := r1.two
  cases ra with
  | @tup pa _ xs' ha' ra =>
    cases rb with
    | @tup pb _ ys' hb' rb =>
      obtain ⟨u1, u2, rfl, w1, w2⟩ := vals2 ru
      cases (show u1 = Value.ref pa from w1)
      cases (show u2 = Value.ref pb from w2)
      obtain ⟨its, _, p1, _⟩ := I1.tuple (SqT.of ha')
      obtain ⟨its2, _, p2, _⟩ := I1.tuple (SqT.of hb')
      refine call_zipT (show s1.heap.IsTuple pa its.toArray from p1) (show s1.heap.IsTuple pb its2.toArray from p2) fun h' T kk => ?_
      refine wpAny_pyIter_zip T.hz ?_
      have I2 : Inv X pins σ H1 { s1 with heap := h' } := I1.kept (t' := s1.toks) kk
      refine ⟨_, [s1.heap.objs.size + 4, s1.heap.objs.size + 2, s1.heap.objs.size + 3, s1.heap.objs.size, s1.heap.objs.size + 1], _, _, H1, rfl, I2, turn_zip (za_new p1.lt p2.lt), T, fun c hc => ?_, hR _ H1 _ _ G1 t1 g1 (itn_zip ha' hb' ra rb) q1⟩
      have hle : s1.heap.objs.size ≤ c := by
        simp only [List.mem_cons, List.mem_nil_iff, or_false] at hc
        rcases hc with rfl | rfl | rfl | rfl | rfl
        · exact Nat.le_add_right _ _
        · exact Nat.le_add_right _ _
        · exact Nat.le_add_right _ _
        · exact Nat.le_refl _
        · exact Nat.le_add_right _ _
      exact I1.fpOk hle (I1.hok.fresh hle)
noncomputable def wNeg (te : WE) : WE := fun τ G q => te τ G fun x G1 => match x with | .int i => q (.int (-i)) G1 | _ => False
theorem qe_neg {a : Expr} {ta : WE} {pos : Pos} (ha : QE X a ta) : QE X (.UnaryOp .USub a pos) (wNeg ta) :=
  (pe_un un_neg ha).imp fun σ H Q z0 => z0.el fun τ G q hs hg ht hQ => ⟨τ, G, _, hs, hg, ht, fun v H1 w G1 t1 r1 g1 q1 => by
    split at q1
    · cases r1
      exact ⟨_, rfl, hQ _ H1 _ G1 t1 (.int _) g1 q1⟩
    · exact q1.elim⟩
noncomputable def Fx (P : Program) (w : World) (K : PySem.W.Frag) (mg : Str → Option Value) (base : Heap) (x : Str) (ps : List Str) (k : Nat) (sp : WSp) : Prop :=
  ∃ (f : Addr) (fd : FuncData), WFn P w K mg base k f fd ps sp ∧ mg x = some (.ref f) ∧ PySem.W.keepIn K (.ref f) = true ∧ Binds K fd ps []
theorem qe_fx {x : Str} {ps : List Str} {k : Nat} {sp : WSp} {p pos : Pos} {e : Expr} {es : List Expr} {t : WA} (F : Fx X.prog X.w X.K X.mg X.base x ps k sp) (hr : Room k X.A) (hg : Gl X x) (ha : QA X (e :: es) t) (hdb : (x == ("__debug__" : Str)) = false := by decide)
    (he : starEach (e :: es) X.env = (false, eval e X.env) :: starEach es X.env := by rfl) (hpl : (backTo pos (starEach es X.env)).any (·.1) = false := by rfl) : QE X (.Call (.Name x p) (e :: es) [] pos) (wCall sp [] t) := by
  obtain ⟨f, fd, h1, h2, h3, h4⟩ := F
  exact qe_call h1 hr hg h2 h3 h4 ha hdb he hpl
noncomputable def compN (scope : Scope) : List Str := scope.names.map (·.1)
noncomputable def compFv (N : List Str) (scope : Scope) : List (Option Nat) := scope.names.map fun y => if y.2 == .free then N.findIdx? (· == y.1) else none
noncomputable def compOk (outer scope : Scope) : Bool :=
  scope.kind == .function && scope.names.all (fun y => y.2 != .cell) && scope.names.all (fun y => y.2 != .local || scope.names.lookup y.1 == some .local) &&
    scope.names.all (fun y => y.2 != .free || (outer.names.lookup y.1 == some .cell && scope.names.lookup y.1 != some .local))
theorem compSc {scope : Scope} (h : compOk X.env.scope scope = true) : CompSc X scope (compN scope) (compFv X.N scope) := by
  unfold compOk at h
  simp only [Bool.and_eq_true, List.all_eq_true, Bool.or_eq_true, bne_iff_ne, beq_iff_eq, ne_eq] at h
  obtain ⟨⟨⟨h1, h2⟩, h3⟩, h4⟩ := h
  refine ⟨h1, h2, fun x hx hk => (h3 x hx).resolve_left fun z => z hk, fun y hy hk => ((h4 y hy).resolve_left fun z => z hk).1, fun i j x e1 e2 => ?_, by simp [compN, compFv], fun {x} hx => ((h4 _ hx).resolve_left fun z => z rfl).2⟩
  unfold compN at e1
  unfold compFv at e2
  rw [List.getElem?_map] at e1 e2
  cases e : scope.names[i]? with
  | none => rw [e] at e1; cases e1
  | some y =>
    rw [e] at e1 e2
    have e1' : y.1 = x := Option.some.inj e1
    have e2' : (if (y.2 == NameKind.free) = true then X.N.findIdx? (· == y.1) else none) = some j := Option.some.inj e2
    have hm : y ∈ scope.names := List.mem_of_getElem? e
    split at e2'
    · rename_i hk
      have hk' : y.2 = .free := by simpa using hk
      have hy : y = (x, NameKind.free) := by rw [← e1', ← hk']
      have := List.findIdx?_eq_some_iff_getElem.mp e2'
      obtain ⟨hj, hj2, _⟩ := this
      refine ⟨?_, ?_, hy ▸ hm⟩
      · rw [List.getElem?_eq_getElem hj]
        have : X.N[j] = y.1 := by simpa using hj2
        rw [this, e1']
      · have := ((h4 y hm).resolve_left fun z => z hk').1
        rw [e1'] at this
        exact this
    · cases e2'
theorem qg_nameB (i : Nat) {N : List Str} {scope : Scope} {C : Addr} {fp : List Addr} {s2 : Shared} {H2 : Hp} {x : Str} {pos : Pos} (hN : N.Nodup) (hi : N[i]? = some x) (hx : Loc (bCx X N scope C fp s2 H2).env.scope x) (hf : (bCx X N scope C fp s2 H2).fn x = true ∨ (bCx X N scope C fp s2 H2).env.scope.names.lookup x = some .local := by first | exact .inl rfl | exact .inr rfl) :
    QG (bCx X N scope C fp s2 H2) (.Name x pos) (hName i) := qg_name (X := bCx X N scope C fp s2 H2) i hN hi hx hf
theorem b_tuple : bootBuiltins "tuple" = some (.type "tuple") := by decide +kernel
theorem b_max : bootBuiltins "max" = some (.builtin "max") := by decide +kernel
theorem b_sum : bootBuiltins "sum" = some (.builtin "sum") := by decide +kernel
theorem bodyOf {body : List Stmt} {R : WS → Prop} {t : WS} (h : QSs X body t) (g : R t) : ∃ t, QSs X body t ∧ R t := ⟨t, h, g⟩
end
end L2
namespace L2
open PySem PySem.Spec PyProof.Rows
mutual
noncomputable def W.lt : W → W → Bool
  | .int i, .int j => decide (i < j)
  | .tup xs, .tup ys => W.lts xs ys
  | _, _ => false
noncomputable def W.lts : List W → List W → Bool
  | [], [] => false
  | [], _ :: _ => true
  | _ :: _, [] => false
  | x :: xs, y :: ys => if W.eq x y = true then W.lts xs ys else W.lt x y
end
mutual
noncomputable def W.ord : W → W → Bool
  | .int _, .int _ => true
  | .tup xs, .tup ys => W.ords xs ys
  | _, _ => false
noncomputable def W.ords : List W → List W → Bool
  | x :: xs, y :: ys => if W.eq x y = true then W.ords xs ys else W.ord x y
  | _, _ => true
end
noncomputable def LtAt (A : Around) (s : Shared) (y x : Value) (b : Bool) : Prop :=
  ∀ (prog : Program) (w : World) (E : Value → Shared → Prop) (Q : Value → Shared → Prop), Q (.bool b) s → wpAny (model prog w) A (richCompare .Lt y x) Q E s
inductive CmpL (A : Around) (s : Shared) : List Value → List Value → Bool → Prop where
  | nn : CmpL A s [] [] false
  | nc {y : Value} {ys : List Value} : CmpL A s [] (y :: ys) true
  | cn {x : Value} {xs : List Value} : CmpL A s (x :: xs) [] false
  | eq {x y : Value} {xs ys : List Value} {r : Bool} (h : SeqAt.EqAt A s x y true) (t : CmpL A s xs ys r) : CmpL A s (x :: xs) (y :: ys) r
  | ne {x y : Value} {xs ys : List Value} {r : Bool} (h : SeqAt.EqAt A s x y false) (t : LtAt A s x y r) : CmpL A s (x :: xs) (y :: ys) r
section
open PySem.SeqAt
open PySem.AutoSeq1 (wpAny_loadPart')
open PySem.MeetsSeq PySem.MeetsSeq2 PySem.MeetsSeq3
theorem tuple_ltAt (l b : Addr) (items items2 : Array Value) (n n2 : Nat) (dd dd2 : Option Addr) (sl sl2 : Array (Option Value)) (r : Bool) :
    Meets (Builtin.«tuple.__lt__» ⟨[.ref l, .ref b], []⟩)
      (fun A R s => s.heap.get? l = some { cls := .type "tuple", dict := dd, data := .seq items n, slots := sl } ∧ s.heap.get? b = some { cls := .type "tuple", dict := dd2, data := .seq items2 n2, slots := sl2 } ∧
        CmpL A.in1 s items.toList items2.toList r ∧ R (.ok (.ret (.bool r))) s) :=
  .of_wp fun prog w A R s h => by
    obtain ⟨hp, g, d, tk, os⟩ := s; obtain ⟨hl, hb, hc, h⟩ := h
    have f2 := AutoSeq1.sub_tuple_tuple
    wp_walk using wpAny_loadPart' hl, wpAny_loadPart' hb, wpAny_forIn_list _ (fun rest b s' => b.1 = none ∧ s' = ⟨hp, g, d, tk, os⟩ ∧ ∃ (vs ws : List Value), rest = vs.zip ws ∧
      CmpL A.in1 ⟨hp, g, d, tk, os⟩ vs ws r ∧ vs.length + items2.size = ws.length + items.size) _
    case turn =>
      rintro ⟨y, x⟩ rest b s' ⟨hb', rfl, vs, ws, hz, hC, hlen⟩
      cases hC with
      | nn => rw [List.zip_nil_left] at hz; cases hz
      | nc => rw [List.zip_nil_left] at hz; cases hz
      | cn => rw [List.zip_nil_right] at hz; cases hz
      | eq he ht =>
        rw [List.zip_cons_cons] at hz
        injection hz with hyx hrest
        injection hyx with hy hx
        subst hy hx
        simp only [List.length_cons] at hlen
        refine wpAny_bind (he prog w _ _ ?_)
        wp_walk
        exact ⟨rfl, rfl, _, _, hrest, ht, by (clear hl hb hc h f2 hb' ht hrest he; omega)⟩
      | ne he ht =>
        rw [List.zip_cons_cons] at hz
        injection hz with hyx hrest
        injection hyx with hy hx
        subst hy hx
        refine wpAny_bind (he prog w _ _ ?_)
        have hri := ht prog w
        wp_walk using hri
        exact ⟨_, rfl, by simpa using h⟩
    case fin =>
      rintro ⟨b1, b2⟩ s' ⟨hb', rfl, vs, ws, hz, hC, hlen⟩
      simp only at hb'
      subst hb'
      have hv : r = decide (items.size < items2.size) := by
        cases hC with
        | nn => simp only [List.length_nil] at hlen; exact (decide_eq_false (by (clear hl hb f2 hz hc h; omega))).symm
        | nc => simp only [List.length_nil, List.length_cons] at hlen; exact (decide_eq_true (by (clear hl hb f2 hz hc h; omega))).symm
        | cn => simp only [List.length_nil, List.length_cons] at hlen; exact (decide_eq_false (by (clear hl hb f2 hz hc h; omega))).symm
        | eq he ht => rw [List.zip_cons_cons] at hz; cases hz
        | ne he ht => rw [List.zip_cons_cons] at hz; cases hz
      rw [hv] at h
      wp_walk
      exact ⟨_, rfl, by simpa [Builtin.Tuple.tupleCompareSizes] using h⟩
    case h =>
      exact ⟨rfl, rfl, _, _, rfl, hc, by simp; (clear hl hb hc h f2; omega)⟩
end
theorem LtAt.tuples {A : Around} {s : Shared} {l b : Addr} {items items2 : Array Value} {r : Bool} (hl : s.heap.IsTuple l items) (hb : s.heap.IsTuple b items2) (hu : A.units < cLine)
    (hc : CmpL A.in1 s items.toList items2.toList r) : LtAt A s (.ref l) (.ref b) r := fun prog w E Q h => by
  obtain ⟨⟨cls, dd, data, sl⟩, ho, hcl, n, hd⟩ := id hl
  obtain ⟨⟨cls2, dd2, data2, sl2⟩, ho2, hc2, n2, hd2⟩ := id hb
  simp only at hcl hd hc2 hd2
  subst hcl hd hc2 hd2
  exact richCompare_meets_room (op := .Lt) ⟨_, ho, rfl⟩ ⟨_, ho2, rfl⟩ PySem.F.slot_tuple_lt PySem.F.entry_tuple_lt (PySem.F.args_tuple_lt_2 _ _) (tuple_ltAt l b items items2 n n2 dd dd2 sl sl2 r)
    ⟨ho, ho2, hc, show Value.bool r ≠ Value.notImplemented ∧ Q (.bool r) s from ⟨(fun x => nomatch x), h⟩⟩ hu
section
variable {X : Cx} {pins : List (Addr × Obj)} {σ : St} {H : Hp} {s : Shared}
theorem ltL_rep (I : Inv X pins σ H s) (n : Nat) (A : Around)
    (ih : ∀ {w1 w2 : W} {v1 v2 : V} {u1 u2 : Value}, w1.dep < n → w1.flat = true → w2.flat = true → W.ord w1 w2 = true → Rep X.K H w1 v1 → Rep X.K H w2 v2 → RelV v1 u1 → RelV v2 u2 → LtAt A s u1 u2 (w1.lt w2)) (hu : A.units + n < cLine) :
    ∀ {ws us : List W} {xs ys : List V} {its its2 : List Value}, W.deps ws < n → W.flats ws = true → W.flats us = true → W.ords ws us = true → Reps X.K H ws xs → Reps X.K H us ys → Vals xs its → Vals ys its2 → CmpL A s its its2 (W.lts ws us) := by
  intro ws
  induction ws with
  | nil =>
    intro us xs ys its its2 hd f1 f2 ho r1 r2 q1 q2
    cases r1
    cases q1
    cases r2 with
    | nil => cases q2; simpa [W.lts] using CmpL.nn
    | cons _ _ => cases q2; simpa [W.lts] using CmpL.nc
  | cons x xs IH =>
    intro us vs1 vs2 its its2 hd f1 f2 ho r1 r2 q1 q2
    cases r1 with
    | cons r1 s1 =>
      cases q1 with
      | cons q1 t1 =>
        cases r2 with
        | nil => cases q2; simpa [W.lts] using CmpL.cn
        | @cons y ys _ _ r2 s2 =>
          cases q2 with
          | cons q2 t2 =>
            simp only [W.deps] at hd
            simp only [W.flats, Bool.and_eq_true] at f1 f2
            have e := (eq_rep I n A (w1 := x) (w2 := y) (by (clear I ih hu IH r1 s1 q1 t1 r2 s2 ho q2 t2 f1 f2; omega)) f1.1 f2.1 hu r1 r2 q1 q2).1
            rw [W.ords] at ho
            rw [W.lts]
            cases he : W.eq x y with
            | true =>
              rw [he] at e ho
              rw [if_pos rfl] at ho ⊢
              exact .eq e (IH (by (clear I ih hu IH r1 s1 q1 t1 r2 s2 ho q2 t2 f1 f2 e he; omega)) f1.2 f2.2 ho s1 s2 t1 t2)
            | false =>
              rw [he] at e ho
              rw [if_neg Bool.false_ne_true] at ho ⊢
              exact .ne e (ih (by (clear I ih hu IH r1 s1 q1 t1 r2 s2 ho q2 t2 f1 f2 e he; omega)) f1.1 f2.1 ho r1 r2 q1 q2)
theorem lt_rep (I : Inv X pins σ H s) : ∀ (n : Nat) (A : Around) {w1 w2 : W} {v1 v2 : V} {u1 u2 : Value}, w1.dep < n → w1.flat = true → w2.flat = true → W.ord w1 w2 = true → A.units + n < cLine → Rep X.K H w1 v1 → Rep X.K H w2 v2 → RelV v1 u1 → RelV v2 u2 →
    LtAt A s u1 u2 (w1.lt w2) := by
  intro n
  induction n with
  | zero => intro A w1 w2 v1 v2 u1 u2 h; (clear I; omega)
  | succ n ih =>
    intro A w1 w2 v1 v2 u1 u2 hd f1 f2 ho hu r1 r2 q1 q2
    cases r1 with
    | ref a => simp [W.flat] at f1
    | scr a => simp [W.flat] at f1
    | non => simp [W.ord] at ho
    | bl b => simp [W.ord] at ho
    | str b => simp [W.ord] at ho
    | int a =>
      cases r2 with
      | int b =>
        obtain ⟨t, rfl⟩ := q1
        obtain ⟨t', rfl⟩ := q2
        rw [W.lt]
        exact fun prog w E Q h => HT.rcLt_int A s a t b t' prog w E Q h
      | _ => simp [W.ord] at ho
    | @tup a ws xs h r =>
      cases r2 with
      | @tup b us ys h2 r2 =>
        cases (show u1 = Value.ref _ from q1)
        cases (show u2 = Value.ref _ from q2)
        obtain ⟨its, rv, p, _⟩ := Inv.tupH I h
        obtain ⟨its2, rv2, p2, _⟩ := Inv.tupH I h2
        have g1 : W.flats ws = true := by simpa [W.flat] using f1
        have g2 : W.flats us = true := by simpa [W.flat] using f2
        have ho' : W.ords ws us = true := by simpa [W.ord] using ho
        have hd' : W.deps ws < n := by simp only [W.dep] at hd; (clear I ih hu h r f1 h2 r2 f2 ho q1 q2 rv p rv2 p2 g1 g2 ho'; omega)
        have hui : A.in1.units + n < cLine := by show A.units + 1 + n < cLine; (clear I ih h r hd f1 h2 r2 f2 ho q1 q2 rv p rv2 p2 g1 g2 ho' hd'; omega)
        rw [W.lt]
        exact LtAt.tuples p p2 (by (clear I ih h r hd f1 h2 r2 f2 ho q1 q2 rv p rv2 p2 g1 g2 ho' hd' hui; omega)) (ltL_rep I n A.in1 (fun h1 h2 h3 h4 => ih A.in1 h1 h2 h3 h4 hui) hui hd' g1 g2 ho' r r2 rv rv2)
      | _ => simp [W.ord] at ho
end
section
variable {X : Cx}
noncomputable def rLt3 : W2 := fun x y G q => match x, y with
  | .int i, .int j => q (.bl (decide (i < j))) G
  | .tup xs, .tup ys => W.flats xs = true ∧ W.flats ys = true ∧ W.deps xs ≤ 149 ∧ W.ords xs ys = true ∧ q (.bl (W.lts xs ys)) G
  | _, _ => False
theorem q_lt3 {k : Nat} (hr : Room k X.A) : QOp X (compareOp .Lt) rLt3 := by
  intro pins s σ H x y v u Q I rx ry ⟨wx, wy, G, q, r1, r2, g, h, hQ⟩
  unfold rLt3 at h
  split at h
  · cases r1
    cases r2
    exact op_lt pins s σ H _ _ v u Q I rx ry ⟨_, _, rfl, rfl, hQ _ H _ G (TLe.refl H) (.bl _) g h⟩
  · rename_i xs ys
    obtain ⟨f1, f2, hd, ho, h⟩ := h
    have z := lt_rep I 151 X.A (w1 := .tup xs) (w2 := .tup ys) (by simp only [W.dep]; (clear hr I rx ry g hQ r1 r2 f1 f2 ho h; omega)) (by simpa [W.flat] using f1) (by simpa [W.flat] using f2) (by simpa [W.ord] using ho) (by have := hr.un; (clear hr I rx ry g hQ r1 r2 f1 f2 hd ho h; omega)) r1 r2 rx ry
    rw [W.lt] at z
    exact z X.prog X.w X.xe _ ⟨.bl _, H, I, rfl, hQ _ H _ G (TLe.refl H) (.bl _) g h⟩
  · exact h.elim
end
end L2
namespace L2
open PySem PySem.Spec PyProof.Rows
section
variable {X : Cx}
end
end L2
namespace L2
open PySem PySem.Spec PyProof.Rows
section
variable {X : Cx} {pins : List (Addr × Obj)} {σ : St} {H : Hp} {s : Shared}
theorem eqJ (I : Inv X pins σ H s) {n : Nat} {A : Around} {ws us : List W} {xs ys : List V} {its its2 : List Value} (hd : W.deps ws < n) (g1 : W.flats ws = true) (g2 : W.flats us = true) (hu : A.in1.units + n < cLine) (r : Reps X.K H ws xs) (r2 : Reps X.K H us ys) (rv : Vals xs its) (rv2 : Vals ys its2) :
    ∀ j (h1 : j < its.toArray.size) (h2 : j < its2.toArray.size), SeqAt.EqAt A.in1 s its.toArray[j] its2.toArray[j] (eqAtJ ws us j) := fun j j1 j2 => by
  have e1 : its.length = ws.length := by rw [← rv.length, r.length]
  have e2 : its2.length = us.length := by rw [← rv2.length, r2.length]
  rw [List.size_toArray] at j1 j2
  have ea : ws[j]? = some ws[j] := List.getElem?_eq_getElem (by (clear I hd g1 g2 hu r r2 rv rv2 j2 e2; omega))
  have eb : us[j]? = some us[j] := List.getElem?_eq_getElem (by (clear I hd g1 g2 hu r r2 rv rv2 j1 e1 ea; omega))
  obtain ⟨va, ea1, ra⟩ := r.get ea
  obtain ⟨vb, eb1, rb⟩ := r2.get eb
  obtain ⟨ua, ea2, qa⟩ := rv.get ea1
  obtain ⟨ub, eb2, qb⟩ := rv2.get eb1
  have za : its.toArray[j] = ua := by
    have := (List.getElem?_eq_some_iff.mp ea2).2
    simpa using this
  have zb : its2.toArray[j] = ub := by
    have := (List.getElem?_eq_some_iff.mp eb2).2
    simpa using this
  rw [za, zb]
  have := (eq_rep I n A.in1 (w1 := ws[j]) (w2 := us[j]) (Nat.lt_of_le_of_lt (W.deps_get ea) hd) (W.flats_get g1 ea) (W.flats_get g2 eb) hu ra rb qa qb).1
  unfold eqAtJ
  rw [ea, eb]
  exact this
theorem eqs_len {ws us : List W} (h : ws.length ≠ us.length) : W.eqs ws us = false := by
  cases e : W.eqs ws us with
  | false => rfl
  | true => exact absurd ((W.eqs_iff ws us).mp e).1 h
end
section
variable {X : Cx}
noncomputable def rEq4 : W2 := fun x y G q => match x, y with
  | .ref a, .ref b => ∃ xs ys, G a = some (.lst xs) ∧ G b = some (.lst ys) ∧ W.flats xs = true ∧ W.flats ys = true ∧ W.deps xs ≤ 149 ∧ q (.bl (W.eqs xs ys)) G
  | x, y => rEq3 x y G q
noncomputable def rNe4 : W2 := fun x y G q => match x, y with
  | .ref a, .ref b => ∃ xs ys, G a = some (.lst xs) ∧ G b = some (.lst ys) ∧ W.flats xs = true ∧ W.flats ys = true ∧ W.deps xs ≤ 149 ∧ q (.bl (!(W.eqs xs ys))) G
  | x, y => rNe3 x y G q
theorem q_eq4 {k : Nat} (hr : Room k X.A) : QOp X (compareOp .Eq) rEq4 := by
  intro pins s σ H x y v u Q I rx ry ⟨wx, wy, G, q, r1, r2, g, h, hQ⟩
  unfold rEq4 at h
  split at h
  · obtain ⟨ws, us, ea, eb, f1, f2, hd, h⟩ := h
    cases r1
    cases r2
    cases rx
    cases ry
    obtain ⟨_, xs, e1, ra⟩ := g _ _ ea
    obtain ⟨_, ys, e2, rb⟩ := g _ _ eb
    obtain ⟨its, rv, p, _⟩ := I.list (SqL.of e1)
    obtain ⟨its2, rv2, p2, _⟩ := I.list (SqL.of e2)
    have l1 : its.length = ws.length := by rw [← rv.length, ra.length]
    have l2 : its2.length = us.length := by rw [← rv2.length, rb.length]
    have hu := hr.un
    have fin : EP X pins σ Q (.bool (W.eqs ws us)) s := ⟨.bl _, H, I, rfl, hQ _ H _ G (TLe.refl H) (.bl _) g h⟩
    by_cases hl : ws.length = us.length
    · have c1 := SeqAt.RcAt.lists p.isList p2.isList (by rw [List.size_toArray, List.size_toArray, l1, l2, hl]) (A := X.A) (by (clear hr I g hQ ea eb f1 f2 hd h e1 ra e2 rb rv p rv2 p2 l1 l2 fin hl; omega)) (eqJ I (n := 150) (by (clear hr I g hQ ea eb f1 f2 h e1 ra e2 rb rv p rv2 p2 l1 l2 hu fin hl; omega)) f1 f2 (by show X.A.units + 1 + 150 < cLine; (clear hr I g hQ ea eb f1 f2 hd h e1 ra e2 rb rv p rv2 p2 l1 l2 fin hl; omega)) ra rb rv rv2)
      have er := eqs_range ws us
      rw [← hl, Nat.min_self, beq_self_eq_true, Bool.and_true] at er
      rw [List.size_toArray, l1, er] at c1
      exact c1 X.prog X.w X.xe _ fin
    · rw [eqs_len hl] at fin
      exact SeqAt.RcAt.lists_lengths p.isList p2.isList (by rw [List.size_toArray, List.size_toArray, l1, l2]; simpa using hl) (A := X.A) (by (clear hr I g hQ ea eb f1 f2 hd h e1 ra e2 rb rv p rv2 p2 l1 l2 fin hl; omega)) X.prog X.w X.xe _ fin
  · exact q_eq hr pins s σ H x y v u Q I rx ry ⟨wx, wy, G, q, r1, r2, g, h, hQ⟩
theorem q_ne4 {k : Nat} (hr : Room k X.A) : QOp X (compareOp .NotEq) rNe4 := by
  intro pins s σ H x y v u Q I rx ry ⟨wx, wy, G, q, r1, r2, g, h, hQ⟩
  unfold rNe4 at h
  split at h
  · obtain ⟨ws, us, ea, eb, f1, f2, hd, h⟩ := h
    cases r1
    cases r2
    cases rx
    cases ry
    obtain ⟨_, xs, e1, ra⟩ := g _ _ ea
    obtain ⟨_, ys, e2, rb⟩ := g _ _ eb
    obtain ⟨its, rv, p, _⟩ := I.list (SqL.of e1)
    obtain ⟨its2, rv2, p2, _⟩ := I.list (SqL.of e2)
    have l1 : its.length = ws.length := by rw [← rv.length, ra.length]
    have l2 : its2.length = us.length := by rw [← rv2.length, rb.length]
    have hu := hr.un
    have fin : EP X pins σ Q (.bool (!(W.eqs ws us))) s := ⟨.bl _, H, I, rfl, hQ _ H _ G (TLe.refl H) (.bl _) g h⟩
    by_cases hl : ws.length = us.length
    · have c1 := SeqAt.RcNeAt.lists p.isList p2.isList (by rw [List.size_toArray, List.size_toArray, l1, l2, hl]) (A := X.A) (by (clear hr I g hQ ea eb f1 f2 hd h e1 ra e2 rb rv p rv2 p2 l1 l2 fin hl; omega)) (eqJ I (n := 150) (by (clear hr I g hQ ea eb f1 f2 h e1 ra e2 rb rv p rv2 p2 l1 l2 hu fin hl; omega)) f1 f2 (by show X.A.units + 1 + 150 < cLine; (clear hr I g hQ ea eb f1 f2 hd h e1 ra e2 rb rv p rv2 p2 l1 l2 fin hl; omega)) ra rb rv rv2)
      have er := eqs_range ws us
      rw [← hl, Nat.min_self, beq_self_eq_true, Bool.and_true] at er
      rw [List.size_toArray, l1, er] at c1
      exact c1 X.prog X.w X.xe _ fin
    · rw [eqs_len hl] at fin
      exact SeqAt.RcNeAt.lists_lengths p.isList p2.isList (by rw [List.size_toArray, List.size_toArray, l1, l2]; simpa using hl) (A := X.A) (by (clear hr I g hQ ea eb f1 f2 hd h e1 ra e2 rb rv p rv2 p2 l1 l2 fin hl; omega)) X.prog X.w X.xe _ fin
  · exact q_ne hr pins s σ H x y v u Q I rx ry ⟨wx, wy, G, q, r1, r2, g, h, hQ⟩
end
end L2
namespace L2
open PySem PySem.Spec PyProof.Rows
noncomputable def Itr3 (lo c : Int) (n : Nat) : It := ⟨fun i _ => i < n, fun i H x H' => H' = H ∧ x = .int (lo + i * c), fun i _ => n ≤ i⟩
theorem turn_range3 {P : Program} {w : World} {K : PySem.W.Frag} {tg : Expr} (it : Addr) (lo c : Int) (n : Nat) : Turn P w K tg (Itr3 lo c n) [it] it (fun i h => IsRangeIter h it (lo + (i : Nat) * c) ((n : Int) - (i : Nat)) c) where
  mem := by simp
  obj := fun i h st b hb => by
    have e : b = it := by simpa using hb
    subst e
    exact ⟨_, st, fun v z => by
      have z' : Data.fields _ = Data.cell v := z
      cases z'⟩
  keep := fun i h h' st k => k it (by simp) _ st
  item := by
    intro X hP hw hK hc i pins s σ H E I hf st hg
    subst hP hw hK
    obtain ⟨f0, f1, f2, f3, f4, f5⟩ := hf it (by simp)
    have W := Walks.range (prog := X.prog) (w := X.w) (I.ok.hd hc) it lo c n
    refine W.item i s _ _ hg st fun v h' tk hv st' kk => ?_
    obtain ⟨t, rfl⟩ := hv
    have I1 : Inv X pins σ H { s with heap := h', toks := tk } := I.turned (fun b o hb e => kk b o (by simpa using hb) e) f0 f1 f3 f4 f5
    exact ⟨_, rfl, go_of (s := { s with heap := h', toks := tk }) (n := "range_iterator") st' rfl rfl (by decide) ⟨.int (lo + i * c), H, I1, ⟨t, rfl⟩, ⟨rfl, rfl⟩, st', fun b hb => (hf b hb).1⟩⟩
  done := by
    intro X hP hw hK hc i pins s σ H E I hf st hg
    subst hP hw hK
    obtain ⟨f0, f1, f2, f3, f4, f5⟩ := hf it (by simp)
    exact wpAny_pyNext_range_end (I.ok.hd hc) st (by have : n ≤ i := hg; (clear hc I hf st hg f0 f1 f2 f3 f4 f5; omega)) fun h' eb => ⟨rfl, I.turned (t' := s.toks) (fun b o hb e => eb b o hb e) f0 f1 f3 f4 f5⟩
  self := fun _ _ _ _ _ st h => wpAny_pyIter_rangeiter st h
structure CR3 (lo hi c : Int) : Prop where
  c0 : 0 < c
  c1 : c < 1000
  l0 : -(2 ^ 40) ≤ lo
  l1 : lo < 2 ^ 40
  h0 : -(2 ^ 40) ≤ hi
  h1 : hi < 2 ^ 40
noncomputable def rsz (lo hi c : Int) : Int := Builtin.Range.rangeSize lo hi c
theorem CR3.size {lo hi c : Int} (h : CR3 lo hi c) : 0 ≤ rsz lo hi c ∧ rsz lo hi c ≤ 2 ^ 42 := by
  obtain ⟨c0, c1, l0, l1, h0, h1⟩ := h
  unfold rsz Builtin.Range.rangeSize
  rw [if_pos c0]
  split
  · have k0 : 0 ≤ (hi - lo - 1) / c := Int.ediv_nonneg (by (clear c0 c1 l0 l1 h0 h1; omega)) (by (clear l0 l1 h0 h1; omega))
    have k1 : (hi - lo - 1) / c ≤ hi - lo - 1 := Int.ediv_le_self _ (by (clear c0 c1 l0 l1 h0 h1 k0; omega))
    (clear c0 c1; omega)
  · (clear c0 c1 l0 l1 h0 h1; omega)
theorem CR3.last {lo hi c : Int} (h : CR3 lo hi c) : rsz lo hi c * c ≤ 2 ^ 52 := by
  have := h.size
  have h1 : rsz lo hi c * c ≤ 2 ^ 42 * 1000 := Int.mul_le_mul this.2 (by have := h.c1; (clear h; omega)) (by have := h.c0; (clear h; omega)) (by (clear h this; omega))
  (clear h this; omega)
section
variable {X : Cx} {tg : Expr}
theorem CR3.small {lo hi c : Int} (h : CR3 lo hi c) : Builtin.Range.small lo hi c = true := by
  have hs := h.size
  have hl := h.last
  obtain ⟨c0, c1, l0, l1, h0, h1⟩ := h
  unfold rsz at hs hl
  unfold Builtin.Range.small
  have : 0 ≤ Builtin.Range.rangeSize lo hi c * c := Int.mul_nonneg hs.1 (by (clear hs hl l0 l1 h0 h1; omega))
  simp only [Builtin.Range.rangeFitsLong, Bool.and_eq_true, Bool.or_eq_true, decide_eq_true_eq, beq_iff_eq, show c > 0 from c0, if_true]
  (clear hl this; omega)
theorem range_it3 {pins : List (Addr × Obj)} {σ : St} {H : Hp} {s : Shared} {R : It → Hp → Prop} {E : Value → Shared → Prop} {lo hi c : Int} {t u v : Tok} {tk : Nat} (I : Inv X pins σ H s) (h : CR3 lo hi c)
    (q : R (Itr3 lo c (rsz lo hi c).toNat) H) : wpAny (model X.prog X.w) X.A (pyIter (.ref s.heap.objs.size)) (PIE X pins σ tg R) E { s with heap := s.heap.push { cls := .type "range", data := .fields #[.int lo t, .int hi u, .int c v] }, toks := tk } := by
  refine wpAny_pyIter_range (IsRange.new ..) h.small ?_
  have I1 : Inv X pins σ H { s with heap := s.heap.push { cls := .type "range", data := .fields #[.int lo t, .int hi u, .int c v] }, toks := tk } := I.kept fun b o e => Heap.get?_push_of_some _ e
  refine ⟨(s.heap.push { cls := .type "range", data := .fields #[.int lo t, .int hi u, .int c v] }).objs.size, [(s.heap.push { cls := .type "range", data := .fields #[.int lo t, .int hi u, .int c v] }).objs.size], _, _, H, rfl,
    I1.kept (t' := tk) fun b o e => Heap.get?_push_of_some _ e, turn_range3 _ lo c (rsz lo hi c).toNat, ?_, fun b hb => ?_, q⟩
  · have e1 : lo + ((0 : Nat) : Int) * c = lo := by simp
    have e2 : (((rsz lo hi c).toNat : Nat) : Int) - ((0 : Nat) : Int) = Builtin.Range.rangeSize lo hi c := by have := h.size.1; unfold rsz at this ⊢; (clear I h q I1 e1; omega)
    show IsRangeIter _ _ (lo + ((0 : Nat) : Int) * c) ((((rsz lo hi c).toNat : Nat) : Int) - ((0 : Nat) : Int)) c
    rw [e1, e2]
    exact Heap.get?_push_size _ rfl
  · have e : b = (s.heap.push { cls := .type "range", data := .fields #[.int lo t, .int hi u, .int c v] }).objs.size := by simpa using hb
    subst e
    exact I1.fpOk (Nat.le_refl _) (I1.hok.fresh (Nat.le_refl _))
noncomputable def upS (lo c : Int) (n : Nat) : List W := (List.range n).map fun (i : Nat) => W.int (lo + (i : Int) * c)
theorem itn_rng3 {K : PySem.W.Frag} {lo c : Int} {n : Nat} {H : Hp} : Itn K (Itr3 lo c n) (upS lo c n) (fun _ => True) H where
  stop := fun i H1 G t g _ hl => by have h : n ≤ i := by simpa [upS] using hl
                                    exact h
  go := fun i w H1 G t g _ e => by
    unfold upS at e
    rw [List.getElem?_map] at e
    have hi : i < n := by
      cases h : (List.range n)[i]? with
      | none => rw [h] at e; cases e
      | some k =>
        have := (List.getElem?_eq_some_iff.mp h).1
        simpa using this
    rw [List.getElem?_range hi] at e
    cases e
    refine ⟨hi, fun x H' ⟨eH, hy⟩ => ?_⟩
    subst eH
    subst hy
    exact ⟨TLe.refl _, .int _, g⟩
noncomputable def jRng3 (ta : WA) : WI := fun τ G r => ta τ G fun ws G1 => match ws with
  | [.int lo, .int hi, .int c] => CR3 lo hi c ∧ r (upS lo c (rsz lo hi c).toNat) (fun _ => True) G1
  | _ => False
theorem qi_range3 {a b c : Expr} {ta : WA} {p pos : Pos} (hg : Gl X "range") (hm : X.mg "range" = none) (ha : QA X [a, b, c] ta) (hs : starEach [a, b, c] X.env = [(false, eval a X.env), (false, eval b X.env), (false, eval c X.env)] := by rfl) (hs2 : starEach [b, c] X.env = [(false, eval b X.env), (false, eval c X.env)] := by rfl) :
    QI X tg (.Call (.Name "range" p) [a, b, c] [] pos) (jRng3 ta) := by
  intro pins s σ H R I ⟨τ, G, r, hτ, hG, ht, hR⟩
  refine Call_ (ld_blt I hg hm boot_range (PyProof.Rows.callWith_type1 (thn (ha pos pins s σ H (fun vs H1 => ∃ ws G1, TLe H H1 ∧ Reps X.K H1 ws vs ∧ RelG X.K H1 G1 ∧ match ws with | [.int lo, .int hi, .int c] => CR3 lo hi c ∧ r (upS lo c (rsz lo hi c).toNat) (fun _ => True) G1 | _ => False) I ⟨τ, G, _, hτ, hG, ht, fun vs H1 ws G1 t1 r1 g1 q1 => ⟨ws, G1, t1, r1, g1, q1⟩⟩) fun us s1 ⟨vs, H1, I1, ru, ws, G1, t1, r1, g1, q1⟩ => ?_) (by rw [hs, hs2]) (by rw [hs2]; rfl)))
  split at q1
  · rename_i lo hi c
    cases r1 with
    | cons ra rr =>
      cases ra
      cases rr with
      | cons rb rr =>
        cases rb
        cases rr with
        | cons rc rr =>
          cases rc
          cases rr
          cases ru with
          | cons va vv =>
            obtain ⟨t, rfl⟩ := va
            cases vv with
            | cons vb vv =>
              obtain ⟨t', rfl⟩ := vb
              cases vv with
              | cons vc vv =>
                obtain ⟨t'', rfl⟩ := vc
                cases vv
                exact call_range_3 (by have := q1.1.c0; (clear hg hm ha hs hs2 I hτ hG ht hR I1 t1 g1 q1; omega)) (range_it3 I1 q1.1 (hR _ H1 _ _ G1 t1 g1 itn_rng3 q1.2)) (.inl (PyProof.noPylong_small (by have := q1.1.c0; have := q1.1.c1; (clear hg hm ha hs hs2 I hτ hG ht hR I1 t1 g1 q1; omega))))
  · exact q1.elim
noncomputable def upL (lo : Int) (n : Nat) : List W := (List.range n).map fun (i : Nat) => W.int (lo + (i : Int))
theorem itn_rngL {K : PySem.W.Frag} {lo : Int} {n : Nat} {H : Hp} : Itn K (Itr lo n) (upL lo n) (fun _ => True) H where
  stop := fun i H1 G t g _ hl => by have h : n ≤ i := by simpa [upL] using hl
                                    exact h
  go := fun i w H1 G t g _ e => by
    unfold upL at e
    rw [List.getElem?_map] at e
    have hi : i < n := by
      cases h : (List.range n)[i]? with
      | none => rw [h] at e; cases e
      | some k =>
        have := (List.getElem?_eq_some_iff.mp h).1
        simpa using this
    rw [List.getElem?_range hi] at e
    cases e
    refine ⟨hi, fun x H' ⟨eH, hy⟩ => ?_⟩
    subst eH
    subst hy
    exact ⟨TLe.refl _, .int _, g⟩
noncomputable def jRng2 (ta : WA) : WI := fun τ G r => ta τ G fun ws G1 => match ws with
  | [.int i, .int j] => (-(2 ^ 62) ≤ i ∧ i < 2 ^ 62 ∧ -(2 ^ 62) ≤ j ∧ j < 2 ^ 62) ∧ r (upL i (j - i).toNat) (fun _ => True) G1
  | _ => False
theorem inv_ii {ws : List W} {f : Int → Int → Prop} (h : match ws with | [.int i, .int j] => f i j | _ => False) : ∃ i j, ws = [.int i, .int j] ∧ f i j := by
  rcases ws with _ | ⟨a, _ | ⟨b, r⟩⟩
  · exact h.elim
  · cases a <;> exact h.elim
  · cases a with
    | int i =>
      cases b with
      | int j => cases r with
        | nil => exact ⟨i, j, rfl, h⟩
        | cons _ _ => exact h.elim
      | _ => exact h.elim
    | _ => exact h.elim
theorem qi_range2 {a b : Expr} {ta : WA} {p pos : Pos} (hg : Gl X "range") (hm : X.mg "range" = none) (ha : QA X [a, b] ta) (hs : starEach [a, b] X.env = [(false, eval a X.env), (false, eval b X.env)] := by rfl) (hs2 : starEach [b] X.env = [(false, eval b X.env)] := by rfl) : QI X tg (.Call (.Name "range" p) [a, b] [] pos) (jRng2 ta) :=
  (pi_range2 hg hm ha hs hs2).imp fun σ H R ⟨τ, G, r, hs, hg, ht, hR⟩ => ⟨τ, G, _, hs, hg, ht, fun vs H1 ws G1 t1 r1 g1 q1 => by
    obtain ⟨i, j, rfl, q1⟩ := inv_ii q1
    obtain ⟨v, u, rfl, r2, r3⟩ := r1.two
    cases r2
    cases r3
    exact ⟨_, _, rfl, q1.1, hR _ H1 _ _ G1 t1 g1 itn_rngL q1.2⟩⟩
end
section
variable {X : Cx}
noncomputable def cMin : List W → Gp → WK → Prop := fun ws G q => match ws with
  | [.int i, .int j] => q (.int (if j < i then j else i)) G
  | _ => False
theorem q_min (hc : X.calm = true) : QCall X (.builtin "min") cMin := by
  intro pins s σ H xs us Q I r ⟨ws, G, q, rw', g, h, hQ⟩
  unfold cMin at h
  split at h
  · obtain ⟨v, u, rfl, r1, r2⟩ := rw'.two
    cases r1
    cases r2
    exact call_min2 hc pins s σ H _ us Q I r ⟨_, _, rfl, hQ _ H _ G (TLe.refl H) (.int _) g h⟩
  · exact h.elim
theorem b_min : bootBuiltins "min" = some (.builtin "min") := by decide +kernel
noncomputable def BigM (i j : Int) : Prop := i.natAbs < 2 ^ 4000 ∧ j.natAbs < 2 ^ 4000
noncomputable def BigD (j : Int) : Prop := 0 < j ∧ j.natAbs < 2 ^ 4000
theorem le_big {n : Nat} (h : n ≤ 10 ^ 200) : n < 2 ^ 4000 := Nat.lt_of_le_of_lt h (by decide +kernel)
theorem bigM {i j : Int} (h1 : i.natAbs ≤ 10 ^ 200) (h2 : j.natAbs ≤ 10 ^ 200) : BigM i j := ⟨le_big h1, le_big h2⟩
noncomputable def CMulB (i j : Int) : Prop := CMul i j ∨ BigM i j
theorem CMulB.ok {i j : Int} (h : CMulB i j) : IntMulOk i j := by
  rcases h with h | ⟨h1, h2⟩
  · exact h.ok
  · have b1 := PyProof.Rows.intBits_le h1
    have b2 := PyProof.Rows.intBits_le h2
    unfold IntMulOk Builtin.Int.intTooBig
    have : ¬ (((Builtin.Int.intBits i + Builtin.Int.intBits j : Int)) > bitsLine) := by
      have hb : (8000 : Int) ≤ bitsLine := by decide
      (clear h1 h2; omega)
    simp [this]
noncomputable abbrev vMulB : W2 := vInt CMulB fun i j => .int (i * j)
theorem op_mulB : OpR X (binaryOp .Mult) (rI CMulB fun i j => .int (i * j)) := opI fun _ _ _ _ _ _ _ hc q => mul_int q hc.ok
theorem q_mulB : QOp X (binaryOp .Mult) vMulB := q_rint op_mulB
noncomputable def CDivB (i j : Int) : Prop := CDiv i j ∨ BigD j
theorem op_fdivB : OpR X (binaryOp .FloorDiv) (rI CDivB fun i j => .int (i / j)) := opI fun i j _ _ _ _ _ hc q => by
  rcases hc with hc | ⟨h0, h1⟩
  · have h1 : (0 : Int) < j := hc.1
    have h2 : j < 1073741824 := hc.2
    exact floordiv_int (by (clear q hc; omega)) (by rw [Int.fdiv_eq_ediv_of_nonneg i (by (clear q hc; omega))]; exact q) (.inl (PyProof.noPylong_small (by (clear q hc; omega))))
  · refine floordiv_int (by (clear q h1; omega)) (by rw [Int.fdiv_eq_ediv_of_nonneg i (by (clear q h1; omega))]; exact q) (.inl (PyProof.noPylong_of_log2 ?_))
    have hne : j.natAbs ≠ 0 := by (clear q h1; omega)
    exact Nat.lt_of_lt_of_le ((Nat.log2_lt hne).mpr h1) (by decide)
noncomputable abbrev vDivB : W2 := vInt CDivB fun i j => .int (i / j)
theorem q_divB : QOp X (binaryOp .FloorDiv) vDivB := q_rint op_fdivB
end
end L2
namespace L2
open PySem PySem.Spec PyProof.Rows
section
variable {X : Cx}
noncomputable def wPar (i j : Nat) (ta : WA) : WS := fun d τ G => ta τ G fun ws G1 => match ws with
  | [v, w] => d.nx ((τ.set i (some v)).set j (some w)) G1
  | _ => False
end
end L2
namespace L2
open PySem PySem.Spec PyProof.Rows
structure FunD (K : PySem.W.Frag) (x qual : Str) (st : Stmt) (f : Addr) (fd : FuncData) (T : Addr) (ds : List Value) : Prop where
  ex : ∃ (oc : Value) (od : Option Addr) (kV doc pm : Value) (an : Option Addr) (cdv ct : Value) (osl : Array (Option Value)) (ot : Obj) (nt : Nat),
    fd = PySem.W.fnOf x qual (defArgs st) (defBody st) (defScope st) (.ref T) kV doc pm an cdv ct ∧ K.lookup f = some ⟨oc, od, .func fd, osl⟩ ∧ PySem.W.codeIn K cdv qual = true ∧ K.lookup T = some ot ∧ ot.data = .seq ds.toArray nt
  kp : PySem.W.keepIn K (.ref f) = true
section
variable {P : Program} {w : World} {K : PySem.W.Frag} {mg : Str → Option Value} {base : Heap} {x qual : Str} {st : Stmt} {f T : Addr} {fd : FuncData} {ds : List Value}
theorem fun_mkD {oc : Value} {od an : Option Addr} {osl : Array (Option Value)} {kV doc pm cdv ct : Value} {ot : Obj} {nt : Nat} (l : K.lookup f = some ⟨oc, od, .func (PySem.W.fnOf x qual (defArgs st) (defBody st) (defScope st) (.ref T) kV doc pm an cdv ct), osl⟩)
    (c : PySem.W.codeIn K cdv qual = true) (k : PySem.W.keepIn K (.ref f) = true) (t : K.lookup T = some ot) (h : ot.data = .seq ds.toArray nt) : FunD K x qual st f (PySem.W.fnOf x qual (defArgs st) (defBody st) (defScope st) (.ref T) kV doc pm an cdv ct) T ds :=
  ⟨⟨oc, od, kV, doc, pm, an, cdv, ct, osl, ot, nt, rfl, l, c, t, h⟩, k⟩
theorem FunD.binds {ps : List Str} {es : List Value} (F : FunD K x qual st f fd T ds)
    (h : ∀ (kV doc pm : Value) (an : Option Addr) (cdv ct : Value) (us : List Value), (us ++ es).length = ps.length → ∃ k, bindArgs (PySem.W.fnOf x qual (defArgs st) (defBody st) (defScope st) (.ref T) kV doc pm an cdv ct) ⟨us, []⟩ = seqItems? (.ref T) >>= k ∧ k (some ds.toArray) = pure (ps.zip (us ++ es))) : Binds K fd ps es := by
  obtain ⟨oc, od, kV, doc, pm, an, cdv, ct, osl, ot, nt, rfl, lk, hcd, ht, hd⟩ := F.ex
  intro s us KX hl
  obtain ⟨k, h1, h2⟩ := h kV doc pm an cdv ct us hl
  exact BindsTo.of_defaults (T := T) rfl (KX _ _ ht) hd h1 h2
theorem fn3D {N ps : List Str} {k : Nat} {sp : WSp} (F : FunD K x qual st f fd T ds) (S : FnScope N ps (defScope st)) (len : ∀ ws G q e, sp ws G q e → ws.length = ps.length)
    (hbody : ∀ (cdv : Value) (A : Around) (outer : List Env) (s : Shared) (H : Hp) (E : XK), Room k (A.deeper (envOfC qual (defScope st) s.heap.objs.size f cdv)) →
      ∃ t, QSs (cxOf CX0 P w K mg base N qual (defScope st) f cdv A outer s H E).nox (defBody st) t ∧
        ∀ (ws : List W) (G : Gp) (q : WK) (e : WX), sp ws G q e → t { nx := fun _ G1 => ∃ G0, GLe G0 G1 ∧ q .non G0, rt := fun w G1 => ∃ G0, GLe G0 G1 ∧ q w G0 } (wStart N ws) G) : WFn P w K mg base (k + 1) f fd ps sp := by
  obtain ⟨oc, od, kV, doc, pm, an, cdv, ct, osl, ot, nt, rfl, lk, hcd, ht, hd⟩ := F.ex
  refine fn_of lk hcd S (fun vs H Q E ⟨ws, G, q, e, r, g, z, _⟩ => by rw [← r.length]; exact len _ _ _ _ z) (fun A outer s H vs Q E hr ⟨ws, G, q, e, r, g, z, hQ, _⟩ => ?_)
  obtain ⟨t, ht, hq⟩ := hbody cdv A outer s H E hr
  have ht' : PSs (cxOf CX0 P w K mg base N qual (defScope st) f cdv A outer s H E).nox (defBody st) (LS K t) := ht
  exact ⟨_, ht'.nox, _, G, _, RelSt.start r, g, hq ws G q e z, ⟨fun σ1 H1 τ1 G1 t1 s1 g1 ⟨G0, l, q1⟩ => hQ .non H1 .non G0 t1 .non (g1.le l) q1, fun v H1 w G1 t1 r1 g1 ⟨G0, l, q1⟩ => hQ v H1 w G0 t1 r1 (g1.le l) q1, fun _ _ _ _ _ _ _ z => z.elim, fun _ _ _ _ _ _ _ z => z.elim⟩⟩
noncomputable def Fxd (P : Program) (w : World) (K : PySem.W.Frag) (mg : Str → Option Value) (base : Heap) (x : Str) (ps : List Str) (k : Nat) (sp : WSp) (dws : List W) : Prop :=
  ∃ (f : Addr) (fd : FuncData) (ds : List Value) (dvs : List V), WFn P w K mg base k f fd ps sp ∧ mg x = some (.ref f) ∧ PySem.W.keepIn K (.ref f) = true ∧ Binds K fd ps ds ∧ Vals dvs ds ∧ ∀ H, Reps K H dws dvs
noncomputable def DfD (K : PySem.W.Frag) (mg : Str → Option Value) (x : Str) (st : Stmt) (ps : List Str) (dws : List W) : Prop :=
  ∃ (f : Addr) (fd : FuncData) (T : Addr) (ds : List Value) (dvs : List V), FunD K x x st f fd T ds ∧ Binds K fd ps [] ∧ Binds K fd ps ds ∧ mg x = some (.ref f) ∧ Vals dvs ds ∧ ∀ H, Reps K H dws dvs
theorem DfD.fx {ps : List Str} {k : Nat} {sp : WSp} {dws : List W} (D : DfD K mg x st ps dws) (h : ∀ (f : Addr) (fd : FuncData) (T : Addr) (ds : List Value), FunD K x x st f fd T ds → WFn P w K mg base k f fd ps sp) : Fx P w K mg base x ps k sp := by
  obtain ⟨f, fd, T, ds, dvs, F, b, b', m, _, _⟩ := D
  exact ⟨f, fd, h f fd T ds F, m, F.kp, b⟩
theorem DfD.fxd {ps : List Str} {k : Nat} {sp : WSp} {dws : List W} (D : DfD K mg x st ps dws) (h : ∀ (f : Addr) (fd : FuncData) (T : Addr) (ds : List Value), FunD K x x st f fd T ds → WFn P w K mg base k f fd ps sp) : Fxd P w K mg base x ps k sp dws := by
  obtain ⟨f, fd, T, ds, dvs, F, b, b', m, v, r⟩ := D
  exact ⟨f, fd, ds, dvs, h f fd T ds F, m, F.kp, b', v, r⟩
end
section
variable {X : Cx}
theorem qe_fxn {x : Str} {ps : List Str} {k : Nat} {sp : WSp} {p pos : Pos} {e : Expr} {es : List Expr} {t : WA} (F : Fx X.prog X.w X.K X.mg X.base x ps k sp) (hr : Room k X.A) (hg : Gl X x) (ha : QA X (e :: es) t) (_hn : (e :: es).length = ps.length := by rfl) (hdb : (x == ("__debug__" : Str)) = false := by decide)
    (he : starEach (e :: es) X.env = (false, eval e X.env) :: starEach es X.env := by rfl) (hpl : (backTo pos (starEach es X.env)).any (·.1) = false := by rfl) : QE X (.Call (.Name x p) (e :: es) [] pos) (wCall sp [] t) := qe_fx F hr hg ha hdb he hpl
theorem qe_fxd {x : Str} {ps : List Str} {k : Nat} {sp : WSp} {dws : List W} {p pos : Pos} {e : Expr} {es : List Expr} {t : WA} (F : Fxd X.prog X.w X.K X.mg X.base x ps k sp dws) (hr : Room k X.A) (hg : Gl X x) (ha : QA X (e :: es) t) (_hn : (e :: es).length + dws.length = ps.length := by rfl) (hdb : (x == ("__debug__" : Str)) = false := by decide)
    (he : starEach (e :: es) X.env = (false, eval e X.env) :: starEach es X.env := by rfl) (hpl : (backTo pos (starEach es X.env)).any (·.1) = false := by rfl) : QE X (.Call (.Name x p) (e :: es) [] pos) (wCall sp dws t) := by
  obtain ⟨f, fd, ds, dvs, h1, h2, h3, h4, h5, h6⟩ := F
  exact (pe_call h1 hr hg h2 h3 h4 h5 pass0 ha hdb he hpl).imp fun _ _ _ h => h.call h6
noncomputable def wNever : WS := fun _ _ _ => False
theorem qs_never {st : Stmt} : QS X st wNever := fun _ _ _ _ _ _ ⟨_, _, _, _, _, z, _⟩ => z.elim
end
end L2
namespace L2
open PySem PySem.Spec PyProof.Rows
variable {X : Cx}
noncomputable def cMax4 : List W → Gp → WK → Prop := fun ws G q => match ws with
  | [.int i, .int j] => q (.int (if j > i then j else i)) G
  | [.int i, .int j, .int k] => q (.int (if j > i then (if k > j then k else j) else if k > i then k else i)) G
  | [.ref a] => ∃ ns : List Int, G a = some (.lst (ns.map W.int)) ∧ ns ≠ [] ∧ ∀ m : Int, m ∈ ns → (∀ x, x ∈ ns → x ≤ m) → q (.int m) G
  | _ => False
theorem q_max4 (hc : X.calm = true) : QCall X (.builtin "max") cMax4 := by
  intro pins s σ H xs us Q I r ⟨ws, G, q, rw', g, h, hQ⟩
  unfold cMax4 at h
  split at h
  · obtain ⟨v, u, rfl, r1, r2⟩ := rw'.two
    cases r1
    cases r2
    exact call_max2 hc pins s σ H _ us Q I r ⟨_, _, rfl, hQ _ H _ G (TLe.refl H) (.int _) g h⟩
  · rename_i i j k
    cases rw' with
    | cons r1 rw' =>
      cases rw' with
      | cons r2 rw' =>
        cases rw' with
        | cons r3 rw' =>
          cases rw'
          cases r1
          cases r2
          cases r3
          cases r with
          | cons a1 r =>
            cases r with
            | cons a2 r =>
              cases r with
              | cons a3 r =>
                cases r
                obtain ⟨t1, rfl⟩ := a1
                obtain ⟨t2, rfl⟩ := a2
                obtain ⟨t3, rfl⟩ := a3
                refine max_three_ints (I.ok.hd hc) fun h' tk k' => ⟨.int (if j > i then (if k > j then k else j) else if k > i then k else i), H, I.kept k', ?_, hQ _ H _ G (TLe.refl H) (.int _) g h⟩
                by_cases h1 : j > i
                · by_cases h2 : k > j
                  · rw [if_pos h1, if_pos h2, if_pos h1, if_pos h2]; exact ⟨_, rfl⟩
                  · rw [if_pos h1, if_neg h2, if_pos h1, if_neg h2]; exact ⟨_, rfl⟩
                · by_cases h2 : k > i
                  · rw [if_neg h1, if_pos h2, if_neg h1, if_pos h2]; exact ⟨_, rfl⟩
                  · rw [if_neg h1, if_neg h2, if_neg h1, if_neg h2]; exact ⟨_, rfl⟩
  · rename_i a
    obtain ⟨ns, e, hne, h⟩ := h
    obtain ⟨v, rfl, r1⟩ := rw'.one
    cases r1
    obtain ⟨_, zs, e1, rr⟩ := g a _ e
    obtain rfl := rr.ints_of
    obtain ⟨u, rfl, ru⟩ := vals1 r
    cases (show u = Value.ref a from ru)
    obtain ⟨its, rv, p, hz⟩ := I.list (SqL.of e1)
    have hi : IntsAre its ns := L2.intsAre_of rv
    obtain ⟨ys, ey⟩ := hi.allInts.items
    have hn : (ys.toList.map (·.1)) = ns := by rw [← nums_intItems, ← ey, ← hi.numsOf]
    have hl : s.heap.IsList a (intItems ys) := by rw [← ey]; exact p.isList
    have hsz : ys.size = ns.length := by rw [← hn]; simp
    have hpos : 0 < ys.size := by
      rw [hsz]
      exact List.length_pos_iff.mpr hne
    refine max_intList (I.ok.hd hc) hl hpos fun v h' tk hv hk => ?_
    have ab := argBest_gt (numAt ys) (ys.size - 1)
    generalize argBest (fun i j => decide (numAt ys i > numAt ys j)) (ys.size - 1) = ix at hv ab
    have hix : ix < ys.size := by (clear hc I g hQ e hne h rw' e1 rr ru r rv p hz hi ey hn hl hk hv; omega)
    have hna : ∀ j (hj : j < ys.size), numAt ys j = ns[j]'(by (clear hc I g hQ e hne h rw' e1 rr ru r rv p hz hi ey hn hl hpos hk hv ab hix; omega)) := fun j hj => by
      unfold numAt
      rw [Array.getElem?_eq_getElem hj]
      simp [← hn]
    have hv2 : v = Value.int (ys[ix].1) (ys[ix].2) := by
      unfold intItems at hv
      rw [Array.getElem?_map, Array.getElem?_eq_getElem hix] at hv
      simpa using hv.symm
    have hm : ys[ix].1 = ns[ix]'(by (clear hc I g hQ e hne h rw' e1 rr ru r rv p hz hi ey hn hl hpos hk hv ab hna hv2; omega)) := by
      have := hna ix hix
      unfold numAt at this
      rw [Array.getElem?_eq_getElem hix] at this
      simpa using this
    rw [hm] at hv2
    subst hv2
    refine ⟨.int _, H, I.kept hk, ⟨_, rfl⟩, hQ _ H _ G (TLe.refl H) (.int _) g (h _ (List.getElem_mem _) fun x hx => ?_)⟩
    obtain ⟨j, hj, rfl⟩ := List.mem_iff_getElem.mp hx
    have := ab.2 j (by (clear hc I g hQ e hne h rw' e1 rr ru r rv p hz hi ey hn hl hk ab hna hm hv hx; omega))
    rw [hna j (by (clear hc I g hQ e hne h rw' e1 rr ru r rv p hz hi ey hn hl hpos hk ab hna hm hv hx this; omega)), hna ix hix] at this
    exact this
  · exact h.elim
theorem qe_gint {x : Str} {i : Int} {t : Tok} {pos : Pos} (hg : Gl X x) (hm : X.mg x = some (.int i t)) (hd : (x == ("__debug__" : Str)) = false := by decide) : QE X (.Name x pos) (wC (.int i)) := qe_const (pe_glob (v := .int i) hg hm ⟨t, rfl⟩ hd) fun _ => .int i
end L2
namespace L2
open PySem PySem.Spec PyProof.Rows
section
variable {M : Model} {A : Around} {E : Value → Shared → Prop} {K : PySem.W.Frag} {C D a : Addr} {bm bmD : List Value} {oe : Obj}
end
structure Fl (P : Program) (w : World) (fs : List Addr) (H H' : Hp) (h0 h : Heap) (a T : Addr) (c fl : Value) : Prop where
  un : Un fs [] H H' h0 h
  hok : HOk P w H' h
  na : h0.get? a = none
  nT : h0.get? T = none
  ha : H' a = none
  hT : H' T = none
  tr : ∃ oe vs oT ts a0, h.get? a = some oe ∧ (oe.cls = c ∧ vs[0]? = some a0) ∧ oe.data = .fields vs ∧ vs[1]? = some (.ref T) ∧ T ≠ a ∧ h.get? T = some oT ∧ oT.data = .fields ts ∧ ts[3]? = some fl
section
variable {P : Program} {w : World} {fs : List Addr} {H H' : Hp} {h0 h h' : Heap} {a T : Addr} {c fl fl' : Value}
end
noncomputable def CX1 (P : Program) (w : World) : CXT := fun outer H s E e s' => ∃ a T C H', e = .ref a ∧ s'.os = s.os ∧ AllBare s'.gens ∧ Fl P w (frs outer) H H' s.heap s'.heap a T (.ref C) .none ∧ E (.ref C) none H'
noncomputable abbrev RFn (P : Program) (w : World) (K : PySem.W.Frag) (mg : Str → Option Value) (base : Heap) (k : Nat) (f : Addr) (fd : FuncData) (ps : List Str) (sp : WSp) : Prop := FnOk P w K mg base (CX1 P w) k f fd ps (LSp K sp)
section
variable {P : Program} {w : World} {K : PySem.W.Frag} {mg : Str → Option Value} {base : Heap} {N : List Str} {qual : Str} {scope : Scope} {f : Addr} {cdv : Value} {A : Around} {outer : List Env} {s : Shared} {H : Hp} {E : XK}
noncomputable def wRaise (C : Addr) (e : WX) : WS := fun _ _ G => e (.ref C) G
end
noncomputable def wNevers : WS := fun _ _ _ => False
section
variable {X : Cx} {pins : List (Addr × Obj)} {σ : St} {H : Hp} {s : Shared} {a : Addr} {oe : Obj}
end
section
variable {X : Cx} {pins : List (Addr × Obj)} {σ : St} {H0 H : Hp} {s0 s : Shared} {a T : Addr} {c fl : Value}
variable {C D : Addr} {bm bmD : List Value} {x : Str} {p pos : Pos} {name : Option Str} {body : List Stmt} {rest : List ExceptHandler} {b0 : Stmt} {th : WS}
noncomputable def wAs (i : Nat) (ts : Addr → WS) : WS := fun d τ G => ∀ a, G a = none → ts a { nx := fun τ1 G1 => d.nx (τ1.set i none) G1, rt := d.rt, bk := fun τ1 G1 => d.bk (τ1.set i none) G1, ct := fun τ1 G1 => d.ct (τ1.set i none) G1 } (τ.set i (some (.ref a))) G
noncomputable def wTry (sp : WSp) (dws : List W) (t : WA) (C : Addr) (th : WS) : WS := fun d τ G => t τ G fun ws G1 => sp (ws ++ dws) G1 (fun _ G2 => d.nx τ G2) fun c G2 => c = .ref C ∧ th d τ G2
end
section
variable {X : Cx} {a : Addr} {oe : Obj} {C D : Addr} {bm bmD : List Value}
noncomputable def wIsx (i : Nat) (a : Addr) : WE := fun τ G q => τ[i]? = some (some (.ref a)) ∧ q (.bl true) G
theorem vals2' {x y : V} {us : List Value} (r : Vals [x, y] us) : ∃ u v, us = [u, v] ∧ RelV x u ∧ RelV y v := by
  cases r with
  | cons r1 r =>
    cases r with
    | cons r2 r => cases r; exact ⟨_, _, rfl, r1, r2⟩
end
end L2
namespace L2
open PySem PySem.Spec PyProof.Rows
section
variable {prog : Program} {w : World} {A : Around} {R : Result → Shared → Prop} {I : Addr} {fp wr : List Addr} {n : Nat} {P : Nat → Value → Prop} {St : Nat → Heap → Prop} {kw : List (Str × Value)}
end
section
variable {prog : Program} {w : World} {A : Around} {E : Value → Shared → Prop} {s : Shared} {l : Addr} {xs : Array (Int × Tok)} {d : Value}
end
section
variable {X : Cx}
noncomputable def wMaxD (te : WE) (d : Int) : WE := fun τ G q => te τ G fun x G1 => match x with
  | .ref a => ∃ ns : List Int, G1 a = some (.lst (ns.map W.int)) ∧ (ns = [] → q (.int d) G1) ∧ ∀ m : Int, m ∈ ns → (∀ x, x ∈ ns → x ≤ m) → q (.int m) G1
  | _ => False
noncomputable def rIsB (neg : Bool) : W2 := fun x y G q => match x, y with
  | .bl a, .bl b => q (.bl (neg ^^ (a == b))) G
  | _, _ => False
end
end L2
namespace L2
open PySem PySem.Spec PyProof.Rows
section
variable {P : Program} {w : World} {K : PySem.W.Frag} {mg : Str → Option Value} {base : Heap} {N : List Str} {qual : Str} {scope : Scope} {f : Addr} {cdv : Value} {A : Around} {outer : List Env} {s : Shared} {H : Hp} {E : XK}
noncomputable def wCallX (sp : WSp) (dws : List W) (t : WA) (e : WX) : WE := fun τ G q => t τ G fun ws G1 => sp (ws ++ dws) G1 q e
end
section
variable {X : Cx} {pins : List (Addr × Obj)} {σ : St} {H : Hp} {s : Shared}
noncomputable def wDct : WE := fun _ G q => ∀ p, G p = none → q (.ref p) (updG G p .dct)
end
end L2
namespace L2
open PySem PySem.Spec PyProof.Rows
section
variable {prog : Program} {w : World} {A : Around} {E : Value → Shared → Prop} {s : Shared} {I l : Addr} {items : Array Value}
end
section
variable {X : Cx}
noncomputable def wTupRev (te : WE) : WE := fun τ G q => te τ G fun x G1 => match x with
  | .ref a => ∃ ws, G1 a = some (.lst ws) ∧ q (.tup ws.reverse) G1
  | _ => False
end
end L2
namespace L2
open PySem PySem.Spec PyProof.Rows
noncomputable def CRG (lo hi c : Int) : Prop := CR3 lo hi c ∨ (c = -1 ∧ -(2 ^ 40) ≤ lo ∧ lo < 2 ^ 40 ∧ -(2 ^ 40) ≤ hi ∧ hi < 2 ^ 40)
section
variable {X : Cx} {tg : Expr}
noncomputable def jRngG (ta : WA) : WI := fun τ G r => ta τ G fun ws G1 => match ws with
  | [.int lo, .int hi, .int c] => CRG lo hi c ∧ r (upS lo c (rsz lo hi c).toNat) (fun _ => True) G1
  | _ => False
noncomputable def bits (i : Int) : Int := (Builtin.Int.intBits i : Nat)
noncomputable def wBits (to : WE) : WE := fun τ G q => to τ G fun x G1 => match x with
  | .int i => q (.int (bits i)) G1
  | _ => False
noncomputable def BigP (i j : Int) : Prop := 0 ≤ j ∧ j ≤ 1000 ∧ i.natAbs < 2 ^ 4000
noncomputable def CPowB (i j : Int) : Prop := CPow i j ∨ BigP i j
end
end L2
namespace L2
open PySem PySem.Spec PyProof.Rows
section
variable {X : Cx} {C : Addr} {th : WS} {x : Str} {p pos : Pos}
noncomputable def wTryA (i : Nat) (sp : WSp) (dws : List W) (t : WA) (C : Addr) (th : WS) : WS := fun d τ G => t τ G fun ws G1 => sp (ws ++ dws) G1 (fun v G2 => d.nx (τ.set i (some v)) G2) fun c G2 => c = .ref C ∧ th d τ G2
end
end L2
set_option maxRecDepth 100000
namespace L2
open PySem PySem.Spec PyProof.Rows
section
variable {X : Cx}
end
section
variable {X : Cx}
end
end L2
namespace L2
open PySem PySem.Spec PyProof.Rows
section
variable {X : Cx}
end
end L2
namespace L2
open PySem PySem.Spec PyProof.Rows
noncomputable abbrev WEx := Addr → WSt → Gp → Prop
noncomputable def XP (X : Cx) (pins : List (Addr × Obj)) (H : Hp) (ex : WEx) (e : Value) (s' : Shared) : Prop :=
  ∃ a T C H0 s0 σ H' τ G, e = .ref a ∧ Inv X pins σ H0 s0 ∧ Fl X.prog X.w (frs X.stack) H0 H' s0.heap s'.heap a T (.ref C) .none ∧ s'.os = s0.os ∧ AllBare s'.gens ∧ TLe H H' ∧ RelSt X.K H' τ σ ∧ RelG X.K H' G ∧ ex C τ G
section
variable {X : Cx} {x : Str} {p pos : Pos}
noncomputable def wSeqY (t u : WEx → WS) : WEx → WS := fun ex => wSeq (t ex) (u ex)
noncomputable def wIfY (c : WT) (t u : WEx → WS) : WEx → WS := fun ex => wIf c (t ex) (u ex)
noncomputable def wCallY (i : Nat) (sp : WSp) (dws : List W) (t : WA) : WEx → WS := fun ex d τ G => t τ G fun ws G1 => sp (ws ++ dws) G1 (fun v G2 => d.nx (τ.set i (some v)) G2) fun c G2 => ∀ C, c = .ref C → ex C τ G2
noncomputable def wDoY (sp : WSp) (dws : List W) (t : WA) : WEx → WS := fun ex d τ G => t τ G fun ws G1 => sp (ws ++ dws) G1 (fun _ G2 => d.nx τ G2) fun c G2 => ∀ C, c = .ref C → ex C τ G2
noncomputable def wTryY (t : WEx → WS) (cs : List (Addr × WS)) : WS := fun d τ G => t (fun C τ1 G1 => ∃ th, (C, th) ∈ cs ∧ th d τ1 G1) d τ G
end
end L2
namespace L2
open PySem PySem.Spec PyProof.Rows
section
variable {prog : Program} {w : World} {A : Around} {E : Value → Shared → Prop} {s : Shared}
end
noncomputable def jRev (ta : WA) : WI := fun τ G r => ta τ G fun ws G1 => match ws with
  | [.tup xs] => r xs.reverse (fun _ => True) G1
  | _ => False
end L2
namespace L2
open PySem PySem.Spec PyProof.Rows
noncomputable def enumW : Nat → List W → List W
  | _, [] => []
  | i, x :: xs => .tup [.int (i : Int), x] :: enumW (i + 1) xs
section
variable {prog : Program} {w : World} {A : Around} {E : Value → Shared → Prop} {s : Shared}
end
noncomputable def jEnum (ta : WA) : WI := fun τ G r => ta τ G fun ws G1 => match ws with
  | [.tup xs] => r (enumW 0 xs) (fun _ => True) G1
  | _ => False
end L2
namespace L2
open PySem PySem.Spec PyProof.Rows
mutual
noncomputable def W.ge : W → W → Bool
  | .int i, .int j => decide (i ≥ j)
  | .tup xs, .tup ys => W.ges xs ys
  | _, _ => false
noncomputable def W.ges : List W → List W → Bool
  | [], [] => true
  | [], _ :: _ => false
  | _ :: _, [] => true
  | x :: xs, y :: ys => if W.eq x y = true then W.ges xs ys else W.ge x y
end
noncomputable def GeAt (A : Around) (s : Shared) (y x : Value) (b : Bool) : Prop :=
  ∀ (prog : Program) (w : World) (E : Value → Shared → Prop) (Q : Value → Shared → Prop), Q (.bool b) s → wpAny (model prog w) A (richCompare .GtE y x) Q E s
inductive CmpG (A : Around) (s : Shared) : List Value → List Value → Bool → Prop where
  | nn : CmpG A s [] [] true
  | nc {y : Value} {ys : List Value} : CmpG A s [] (y :: ys) false
  | cn {x : Value} {xs : List Value} : CmpG A s (x :: xs) [] true
  | eq {x y : Value} {xs ys : List Value} {r : Bool} (h : SeqAt.EqAt A s x y true) (t : CmpG A s xs ys r) : CmpG A s (x :: xs) (y :: ys) r
  | ne {x y : Value} {xs ys : List Value} {r : Bool} (h : SeqAt.EqAt A s x y false) (t : GeAt A s x y r) : CmpG A s (x :: xs) (y :: ys) r
section
open PySem.SeqAt
open PySem.AutoSeq1 (wpAny_loadPart')
open PySem.MeetsSeq PySem.MeetsSeq2 PySem.MeetsSeq3
end
section
variable {X : Cx} {pins : List (Addr × Obj)} {σ : St} {H : Hp} {s : Shared}
end
section
variable {X : Cx}
noncomputable def rGe3 : W2 := fun x y G q => match x, y with
  | .int i, .int j => q (.bl (decide (i ≥ j))) G
  | .tup xs, .tup ys => W.flats xs = true ∧ W.flats ys = true ∧ W.deps xs ≤ 149 ∧ W.ords xs ys = true ∧ q (.bl (W.ges xs ys)) G
  | _, _ => False
end
section
variable {X : Cx}
noncomputable def wExt (to te : WE) : WE := fun τ G q => to τ G fun x G1 => match x with
  | .ref a => (∃ xs, G1 a = some (.lst xs)) ∧ te τ G1 fun y G2 => match y with
    | .ref b => ∃ ys zs, G2 a = some (.lst ys) ∧ G2 b = some (.lst zs) ∧ ys.length + zs.length ≤ 100000 ∧ q .non (updG G2 a (.lst (ys ++ zs)))
    | _ => False
  | _ => False
end
end L2
namespace L2
open PySem PySem.Spec PyProof.Rows
section
variable {prog : Program} {w : World} {A : Around} {E : Value → Shared → Prop} {h : Heap} {g : Array GenState} {d : Drawn} {t : Nat} {os : OsState} {a C : Addr} {o : Obj} {K : PySem.W.Frag} {bm : List Value}
end
section
variable {prog : Program} {w : World} {A : Around} {E : Value → Shared → Prop} {s : Shared} {a C D : Addr} {o : Obj} {K : PySem.W.Frag} {bm : List Value}
end
section
variable {X : Cx} {a : Addr} {oe : Obj} {C D : Addr} {bm : List Value}
noncomputable def wIsn (i : Nat) (a : Addr) : WE := fun τ G q => τ[i]? = some (some (.ref a)) ∧ q (.bl false) G
end
end L2
namespace L2
open PySem PySem.Spec PyProof.Rows
end L2
namespace L2
open PySem PySem.Spec PyProof.Rows
noncomputable def jEnumL (ta : WA) : WI := fun τ G r => ta τ G fun ws G1 => match ws with
  | [.ref a] => ∃ l, G1 a = some (.lst l) ∧ r (enumW 0 l) (fun G => G a = some (.lst l)) G1
  | _ => False
end L2
set_option maxRecDepth 100000
namespace L2
open PySem PySem.Spec PyProof.Rows
section
variable {prog : Program} {w : World} {A : Around} {E : Value → Shared → Prop} {s : Shared} {I l : Addr} {items : Array Value}
end
section
variable {X : Cx}
noncomputable def wTupRvT (te : WE) : WE := fun τ G q => te τ G fun x G1 => match x with
  | .tup ws => q (.tup ws.reverse) G1
  | _ => False
end
end L2
namespace L2
open PySem PySem.Spec PyProof.Rows
section
variable {X : Cx}
noncomputable def rIsA (neg : Bool) : W2 := fun x y G q => match y with
  | .non => q (.bl (neg ^^ isNon x)) G
  | .bl b => match x with
    | .bl a => q (.bl (neg ^^ (a == b))) G
    | _ => False
  | _ => False
end
end L2
set_option maxRecDepth 100000
namespace L2
open PySem PySem.Spec PyProof.Rows
section
variable {X : Cx} {pins : List (Addr × Obj)} {σ : St} {H0 H : Hp} {s0 s : Shared} {a T C D : Addr}
variable {bm bmD : List Value} {x : Str} {p pos : Pos} {name : Option Str} {body : List Stmt} {rest : List ExceptHandler} {b0 : Stmt} {th : WS}
end
end L2
set_option maxRecDepth 100000
namespace L2
open PySem PySem.Spec PyProof.Rows
structure RoomN (k : Nat) (A : Around) : Prop where
  dp : A.depth + 3 * k + 5 < recursionLimit
  un : A.units + 16 * k + 200 < cLine
structure FnN (P : Program) (w : World) (K : PySem.W.Frag) (mg : Str → Option Value) (base : Heap) (CX : CXT) (k : Nat) (f : Addr) (fd : FuncData) (ps : List Str) (sp : Sp) : Prop where
  len : ∀ vs H Q E, sp vs H Q E → vs.length = ps.length
  run : ∀ (A : Around) (outer : List Env) (s : Shared) (H : Hp) (args : Args) (us : List Value) (vs : List V) (Q : VK) (E : XK), RoomN k A → Env0 P w K mg base A outer s H → BindsTo s fd args (ps.zip us) → Vals vs us → sp vs H Q E →
    codeAny (model P w) A (.call (.ref f) args) (CR CX outer P w H s Q E) s
section
variable {X : Cx}
end
end L2
namespace L2
open PySem PySem.Spec PyProof.Rows
section
variable {P : Program} {w : World} {K : PySem.W.Frag} {mg : Str → Option Value} {base : Heap} {k : Nat} {f : Addr} {fd : FuncData} {ps : List Str} {sp sp' : WSp}
end
end L2
set_option maxRecDepth 100000
namespace L2
open PySem PySem.Spec PyProof.Rows
section
variable {K : PySem.W.Frag} {H : Hp}
end
section
variable {X : Cx}
structure Mt (P : Program) (w : World) (K : PySem.W.Frag) (mg : Str → Option Value) (base : Heap) (C : Addr) (m : Str) (ps : List Str) (k : Nat) (sp : WSp) (dws : List W) : Prop where
  ex : ∃ (f : Addr) (fd : FuncData) (ds : List Value) (dvs : List V), Meth K C m f ∧ WFn P w K mg base k f fd ps sp ∧ Binds K fd ps ds ∧ Vals dvs ds ∧ ∀ H, Reps K H dws dvs
  cl : Cls K C
section
variable {P : Program} {w : World} {K : PySem.W.Frag} {mg : Str → Option Value} {base : Heap} {C : Addr} {m qual : Str} {st : Stmt} {ps : List Str} {k : Nat} {sp : WSp} {dws : List W}
end
theorem lnZ {α : Type} {p : List α → Prop} (h : p []) (us : List α) (e : us.length = 0) : p us := by
  rw [List.eq_nil_of_length_eq_zero e]; exact h
theorem lnS {α : Type} {n : Nat} {p : List α → Prop} (h : ∀ a, ∀ us : List α, us.length = n → p (a :: us)) (us : List α) (e : us.length = n + 1) : p us := by
  cases us with
  | nil => exact absurd e (Nat.succ_ne_zero n).symm
  | cons a us => exact h a us (Nat.succ.inj e)
end
end L2
set_option linter.all false
set_option maxRecDepth 100000
namespace L2
open PySem PySem.Spec PyProof.Rows
structure RMt (P : Program) (w : World) (K : PySem.W.Frag) (mg : Str → Option Value) (base : Heap) (C : Addr) (m : Str) (ps : List Str) (k : Nat) (sp : WSp) (dws : List W) : Prop where
  ex : ∃ (f : Addr) (fd : FuncData) (ds : List Value) (dvs : List V), Meth K C m f ∧ RFn P w K mg base k f fd ps sp ∧ Binds K fd ps ds ∧ Vals dvs ds ∧ ∀ H, Reps K H dws dvs
  cl : Cls K C
section
variable {X : Cx} {x : Str} {p pos : Pos}
end
end L2
set_option linter.all false
set_option maxRecDepth 100000
namespace L2
open PySem PySem.Spec PyProof.Rows
section
variable {X : Cx} {p pos : Pos}
end
end L2
set_option linter.all false
set_option maxRecDepth 100000
namespace L2
open PySem PySem.Spec PyProof.Rows
end L2
set_option linter.all false
namespace L2
open PySem PySem.Spec PyProof.Rows
section
variable {X : Cx}
end
end L2
namespace Nm
inductive O where
  | z
  | c (e : O) (n : Int) (r : O)
  deriving DecidableEq
namespace O
noncomputable def cmp : O → O → Int
  | z, z => 0
  | z, c _ _ _ => -1
  | c _ _ _, z => 1
  | c e n r, c e' n' r' =>
    if cmp e e' ≠ 0 then cmp e e' else if n < n' then -1 else if n' < n then 1 else cmp r r'
noncomputable def size : O → Nat
  | z => 0
  | c e _ r => 1 + size e + size r
noncomputable def dp : O → Nat
  | z => 0
  | c e _ r => max (dp e + 1) (dp r)
noncomputable def len : O → Nat
  | z => 0
  | c _ _ r => len r + 1
noncomputable def app : O → O → O
  | z, b => b
  | c e n r, b => c e n (app r b)
noncomputable def filt (p : O → Int → Bool) : O → O
  | z => z
  | c e n r => if p e n then c e n (filt p r) else filt p r
noncomputable def same (x : O) : O → Int
  | z => 0
  | c e n r => if e = x then n + same x r else same x r
noncomputable def init : O → O
  | z => z
  | c _ _ z => z
  | c e n r => c e n (init r)
noncomputable def last : O → O
  | z => z
  | c e n z => c e n z
  | c _ _ r => last r
theorem cmp_self : ∀ a : O, cmp a a = 0
  | z => rfl
  | c e n r => by simp [cmp, cmp_self e, cmp_self r]
theorem cmp_eq : ∀ a b : O, cmp a b = 0 → a = b
  | z, z, _ => rfl
  | z, c _ _ _, h => by simp [cmp] at h
  | c _ _ _, z, h => by simp [cmp] at h
  | c e n r, c e' n' r', h => by
    unfold cmp at h
    by_cases he : cmp e e' = 0
    · rw [if_neg (by simpa using he)] at h
      by_cases h1 : n < n'
      · rw [if_pos h1] at h; (clear he h1; omega)
      · rw [if_neg h1] at h
        by_cases h2 : n' < n
        · rw [if_pos h2] at h; (clear he h1 h2; omega)
        · rw [if_neg h2] at h
          have := cmp_eq e e' he
          have := cmp_eq r r' h
          have : n = n' := by (clear h he this; omega)
          subst_vars
          rfl
    · rw [if_pos he] at h; exact absurd h he
theorem cmp_range : ∀ a b : O, cmp a b = -1 ∨ cmp a b = 0 ∨ cmp a b = 1
  | z, z => by simp [cmp]
  | z, c _ _ _ => by simp [cmp]
  | c _ _ _, z => by simp [cmp]
  | c e n r, c e' n' r' => by
    have h1 := cmp_range e e'
    have h2 := cmp_range r r'
    unfold cmp
    split
    · exact h1
    · split
      · exact .inl rfl
      · split
        · exact .inr (.inr rfl)
        · exact h2
theorem cmp_swap : ∀ a b : O, cmp b a = - cmp a b
  | z, z => rfl
  | z, c _ _ _ => rfl
  | c _ _ _, z => rfl
  | c e n r, c e' n' r' => by
    have h1 := cmp_swap e e'
    have h2 := cmp_swap r r'
    unfold cmp
    rw [h1, h2]
    by_cases he : cmp e e' = 0
    · rcases Int.lt_trichotomy n n' with k | k | k
      · have k' : ¬ n' < n := by (clear h1 h2 he; omega)
        simp [he, k, k']
      · subst k
        simp [he]
      · have k' : ¬ n < n' := by (clear h1 h2 he; omega)
        simp [he, k, k']
    · have he' : ¬ - cmp e e' = 0 := by (clear h1 h2; omega)
      simp [he, he']
theorem cmp_trans : ∀ a b d : O, cmp a b < 0 → cmp b d < 0 → cmp a d < 0
  | z, z, _, h, _ => by simp [cmp] at h
  | z, c _ _ _, z, _, h => by simp [cmp] at h
  | z, c _ _ _, c _ _ _, _, _ => by simp [cmp]
  | c _ _ _, z, _, h, _ => by simp [cmp] at h
  | c _ _ _, c _ _ _, z, _, h => by simp [cmp] at h
  | c e n r, c e' n' r', c f m t, h1, h2 => by
    have ih1 := cmp_trans e e' f
    have ih2 := cmp_trans r r' t
    have r1 := cmp_range e e'
    have r2 := cmp_range e' f
    unfold cmp at h1 h2 ⊢
    by_cases k1 : cmp e e' = 0
    · have e1 := cmp_eq e e' k1
      subst e1
      rw [if_neg (by (clear ih2 ih1 r1 r2 h1 h2; omega))] at h1
      by_cases k2 : cmp e f = 0
      · rw [if_neg (by (clear ih2 ih1 r1 r2 h1 h2 k1; omega))] at h2 ⊢
        by_cases a1 : n < n'
        · by_cases a2 : n' < m
          · rw [if_pos (by (clear ih2 ih1 r1 r2 h1 h2 k1 k2; omega))]; (clear ih2 ih1 r1 r2 h1 h2 k1 k2 a1 a2; omega)
          · rw [if_neg a2] at h2
            by_cases a3 : m < n'
            · rw [if_pos a3] at h2; (clear ih2 ih1 r1 r2 h1 k1 k2 a1 a2 a3; omega)
            · rw [if_pos (by (clear ih2 ih1 r1 r2 h1 h2 k1 k2; omega))]; (clear ih2 ih1 r1 r2 h1 h2 k1 k2 a1 a2 a3; omega)
        · rw [if_neg a1] at h1
          by_cases a2 : n' < n
          · rw [if_pos a2] at h1; (clear ih2 ih1 r1 r2 h2 k1 k2 a1 a2; omega)
          · rw [if_neg a2] at h1
            by_cases a3 : n' < m
            · rw [if_pos (by (clear ih2 ih1 r1 r2 h1 h2 k1 k2; omega))]; (clear ih2 ih1 r1 r2 h1 h2 k1 k2 a1 a2 a3; omega)
            · rw [if_neg a3] at h2
              by_cases a4 : m < n'
              · rw [if_pos a4] at h2; (clear ih2 ih1 r1 r2 h1 k1 k2 a1 a2 a3 a4; omega)
              · rw [if_neg a4] at h2
                rw [if_neg (by (clear ih2 ih1 r1 r2 h1 h2 k1 k2; omega)), if_neg (by (clear ih2 ih1 r1 r2 h1 h2 k1 k2; omega))]
                exact ih2 h1 h2
      · rw [if_pos k2] at h2 ⊢; exact h2
    · rw [if_pos k1] at h1
      by_cases k2 : cmp e' f = 0
      · have e2 := cmp_eq e' f k2
        subst e2
        rw [if_pos k1]; exact h1
      · rw [if_pos k2] at h2
        have := ih1 h1 h2
        rw [if_pos (by (clear ih1 ih2 r1 r2 h1 h2 k1 k2; omega))]; exact this
theorem len_le_size : ∀ a : O, len a ≤ size a
  | z => Nat.le_refl _
  | c e n r => by
    have := len_le_size r
    simp only [len, size]
    omega
theorem size_app : ∀ a b : O, size (app a b) = size a + size b
  | z, b => by simp [app, size]
  | c e n r, b => by simp [app, size, size_app r b]; omega
noncomputable def Lt (e : O) : O → Prop
  | z => True
  | c x _ r => cmp x e < 0 ∧ Lt e r
noncomputable def NF : O → Prop
  | z => True
  | c e n r => NF e ∧ 1 ≤ n ∧ Lt e r ∧ NF r
theorem Lt.app {e : O} : ∀ {a b : O}, Lt e a → Lt e b → Lt e (app a b)
  | z, _, _, h => h
  | c _ _ _, _, h1, h2 => ⟨h1.1, Lt.app h1.2 h2⟩
theorem Lt.filt {e : O} (p : O → Int → Bool) : ∀ {a : O}, Lt e a → Lt e (O.filt p a)
  | z, _ => trivial
  | c _ _ _, h => by
    unfold O.filt
    split
    · exact ⟨h.1, Lt.filt p h.2⟩
    · exact Lt.filt p h.2
theorem NF.filt (p : O → Int → Bool) : ∀ {a : O}, NF a → NF (O.filt p a)
  | z, _ => trivial
  | c _ _ _, h => by
    unfold O.filt
    split
    · exact ⟨h.1, h.2.1, h.2.2.1.filt p, NF.filt p h.2.2.2⟩
    · exact NF.filt p h.2.2.2
theorem same_nonneg (x : O) : ∀ {a : O}, NF a → 0 ≤ same x a
  | z, _ => by simp [same]
  | c e n r, h => by
    have h1 := h.2.1
    have h2 := same_nonneg x h.2.2.2
    unfold same
    split <;> omega
theorem NF.join {e : O} {n : Int} {b : O} (he : NF e) (hn : 1 ≤ n) (hb : NF b) (hl : Lt e b) (hx : ∀ x, 0 < cmp x e → Lt x b) : ∀ {a : O}, NF a → NF (O.app (O.filt (fun x _ => decide (0 < cmp x e)) a) (c e n b))
  | z, _ => ⟨he, hn, hl, hb⟩
  | c x k r, h => by
    unfold O.filt
    split
    · rename_i hp
      have hp' : 0 < cmp x e := by simpa using hp
      have hs := cmp_swap x e
      exact ⟨h.1, h.2.1, Lt.app (h.2.2.1.filt _) ⟨by (clear he hn hb hl hx h hp; omega), hx x hp'⟩, NF.join he hn hb hl hx h.2.2.2⟩
    · exact NF.join he hn hb hl hx h.2.2.2
theorem Lt.init {e : O} : ∀ {a : O}, Lt e a → Lt e (O.init a)
  | z, _ => trivial
  | c _ _ z, _ => trivial
  | c x n (c x' n' r'), h => by
    have e0 : O.init (c x n (c x' n' r')) = c x n (O.init (c x' n' r')) := by simp [O.init]
    rw [e0]
    exact ⟨h.1, Lt.init h.2⟩
theorem NF.init : ∀ {a : O}, NF a → NF (O.init a)
  | z, _ => trivial
  | c _ _ z, _ => trivial
  | c x n (c x' n' r'), h => by
    have e0 : O.init (c x n (c x' n' r')) = c x n (O.init (c x' n' r')) := by simp [O.init]
    rw [e0]
    exact ⟨h.1, h.2.1, h.2.2.1.init, NF.init h.2.2.2⟩
end O
end Nm
namespace Nm
namespace O
theorem not_lt_self (a : O) : ¬ cmp a a < 0 := by rw [cmp_self]; omega
theorem same_z (x : O) : same x z = 0 := rfl
theorem same_eq (e : O) (n : Int) (r : O) : same e (c e n r) = n + same e r := by simp [same]
theorem same_ne {x e : O} (h : e ≠ x) (n : Int) (r : O) : same x (c e n r) = same x r := by simp [same, h]
theorem same_of_Lt {e x : O} (hx : ¬ cmp x e < 0) : ∀ {r : O}, Lt e r → same x r = 0
  | z, _ => rfl
  | c y n t, h => by
    have hy : y ≠ x := fun k => hx (k ▸ h.1)
    rw [same_ne hy]
    exact same_of_Lt hx h.2
theorem same_self {e : O} {n : Int} {r : O} (h : Lt e r) : same e (c e n r) = n := by
  rw [same_eq, same_of_Lt (not_lt_self e) h]; (clear h; omega)
theorem same_above {x e : O} {n : Int} {r : O} (h : Lt e r) (hx : 0 < cmp x e) : same x (c e n r) = 0 := by
  have hne : e ≠ x := fun k => by subst k; rw [cmp_self] at hx; (clear h; omega)
  rw [same_ne hne, same_of_Lt (by (clear h hne; omega)) h]
theorem same_ext : ∀ {a b : O}, NF a → NF b → (∀ x, same x a = same x b) → a = b
  | z, z, _, _, _ => rfl
  | z, c e n r, _, hb, h => by
    have := h e
    rw [same_self hb.2.2.1, same_z] at this
    have := hb.2.1
    (clear hb h; omega)
  | c e n r, z, ha, _, h => by
    have := h e
    rw [same_self ha.2.2.1, same_z] at this
    have := ha.2.1
    (clear ha h; omega)
  | c e n r, c e' n' r', ha, hb, h => by
    rcases cmp_range e e' with k | k | k
    · have h1 := h e'
      rw [same_self hb.2.2.1, same_above ha.2.2.1 (by have := cmp_swap e e'; (clear ha hb h h1; omega))] at h1
      have := hb.2.1
      (clear ha hb h k; omega)
    · have k' := cmp_eq _ _ k
      subst k'
      have h1 := h e
      rw [same_self ha.2.2.1, same_self hb.2.2.1] at h1
      subst h1
      have hr : r = r' := same_ext ha.2.2.2 hb.2.2.2 fun x => by
        by_cases hx : e = x
        · subst hx
          rw [same_of_Lt (not_lt_self e) ha.2.2.1, same_of_Lt (not_lt_self e) hb.2.2.1]
        · have := h x
          rw [same_ne hx, same_ne hx] at this
          exact this
      rw [hr]
    · have h1 := h e
      rw [same_self ha.2.2.1, same_above hb.2.2.1 (by (clear ha hb h h1; omega))] at h1
      have := ha.2.1
      (clear ha hb h k; omega)
theorem lt_of_first {x : O} : ∀ {a b : O}, NF a → NF b → same x a < same x b → (∀ y, 0 < cmp y x → same y a = same y b) → cmp a b < 0
  | z, z, _, _, h, _ => by simp [same] at h
  | z, c _ _ _, _, _, _, _ => by simp [cmp]
  | c e n r, z, ha, _, h, _ => by
    have := same_nonneg x ha
    rw [same_z] at h
    (clear ha; omega)
  | c e n r, c e' n' r', ha, hb, h, hy => by
    rcases cmp_range e e' with k | k | k
    · rw [cmp, if_pos (by (clear ha hb h hy; omega))]; (clear ha hb h hy; omega)
    · have k' := cmp_eq _ _ k
      subst k'
      rw [cmp, if_neg (by (clear ha hb h hy; omega))]
      rcases cmp_range x e with q | q | q
      · have hne : e ≠ x := fun z => by subst z; rw [cmp_self] at q; (clear ha hb k h hy; omega)
        have h1 := hy e (by have := cmp_swap x e; (clear ha hb h hy k hne; omega))
        rw [same_self ha.2.2.1, same_self hb.2.2.1] at h1
        subst h1
        rw [if_neg (by (clear ha k q hne hb h hy; omega)), if_neg (by (clear ha k q hne hb h hy; omega))]
        rw [same_ne hne, same_ne hne] at h
        refine lt_of_first ha.2.2.2 hb.2.2.2 h fun y hyx => ?_
        by_cases hye : e = y
        · subst hye
          rw [same_of_Lt (not_lt_self e) ha.2.2.1, same_of_Lt (not_lt_self e) hb.2.2.1]
        · have := hy y hyx
          rw [same_ne hye, same_ne hye] at this
          exact this
      · have q' := cmp_eq _ _ q
        subst q'
        rw [same_self ha.2.2.1, same_self hb.2.2.1] at h
        rw [if_pos h]; (clear ha hb h hy k q; omega)
      · rw [same_above ha.2.2.1 (by (clear ha hb h hy k; omega)), same_above hb.2.2.1 (by (clear ha hb h hy k; omega))] at h
        (clear ha hb hy k q; omega)
    · have hn := ha.2.1
      rcases cmp_range e x with q | q | q
      · have qx : 0 < cmp x e := by have := cmp_swap e x; (clear ha hb h hy k hn; omega)
        have qx' : 0 < cmp x e' := by
          have := cmp_trans e' e x (by have := cmp_swap e e'; (clear ha hb h hy hn q qx; omega)) (by (clear ha hb h hy k hn qx; omega))
          have := cmp_swap e' x
          (clear ha hb h hy k hn q qx; omega)
        rw [same_above ha.2.2.1 qx, same_above hb.2.2.1 qx'] at h
        (clear ha hb hy k hn q qx qx'; omega)
      · have q' := cmp_eq _ _ q
        subst q'
        rw [same_self ha.2.2.1, same_above hb.2.2.1 (by (clear ha hb hn h hy q; omega))] at h
        (clear ha hb k hy q; omega)
      · have h1 := hy e (by (clear ha hb h hy k hn; omega))
        rw [same_self ha.2.2.1, same_above hb.2.2.1 (by (clear ha hb h hy hn q h1; omega))] at h1
        (clear ha hb h hy k q; omega)
theorem first_of_lt : ∀ {a b : O}, NF a → NF b → cmp a b < 0 → ∃ x, same x a < same x b ∧ ∀ y, 0 < cmp y x → same y a = same y b
  | z, z, _, _, h => by simp [cmp] at h
  | z, c e n r, _, hb, _ => by
    refine ⟨e, ?_, fun y hy => ?_⟩
    · rw [same_self hb.2.2.1, same_z]; have := hb.2.1; assumption
    · rw [same_above hb.2.2.1 hy, same_z]
  | c _ _ _, z, _, _, h => by simp [cmp] at h
  | c e n r, c e' n' r', ha, hb, h => by
    rcases cmp_range e e' with k | k | k
    · refine ⟨e', ?_, fun y hy => ?_⟩
      · rw [same_self hb.2.2.1, same_above ha.2.2.1 (by have := cmp_swap e e'; (clear ha hb h; omega))]; have := hb.2.1; assumption
      · have hy2 : 0 < cmp y e := by
          have := cmp_trans e e' y (by (clear ha hb h hy; omega)) (by have := cmp_swap y e'; (clear ha hb h k; omega))
          have := cmp_swap e y
          (clear ha hb h k hy; omega)
        rw [same_above hb.2.2.1 hy, same_above ha.2.2.1 hy2]
    · have k' := cmp_eq _ _ k
      subst k'
      rw [cmp, if_neg (by (clear ha hb h; omega))] at h
      by_cases h1 : n < n'
      · refine ⟨e, ?_, fun y hy => ?_⟩
        · rw [same_self ha.2.2.1, same_self hb.2.2.1]; exact h1
        · rw [same_above hb.2.2.1 hy, same_above ha.2.2.1 hy]
      · rw [if_neg h1] at h
        by_cases h2 : n' < n
        · rw [if_pos h2] at h; (clear ha hb k h1 h2; omega)
        · rw [if_neg h2] at h
          have hn : n = n' := by (clear ha hb h k; omega)
          subst hn
          obtain ⟨x, hx, hy⟩ := first_of_lt ha.2.2.2 hb.2.2.2 h
          have hxe : cmp x e < 0 := by
            refine Classical.byContradiction fun q => ?_
            rw [same_of_Lt q ha.2.2.1, same_of_Lt q hb.2.2.1] at hx
            (clear ha h k hb h1 h2 hy q; omega)
          have hne : e ≠ x := fun z => by subst z; rw [cmp_self] at hxe; (clear ha h k hb h1 h2 hx hy; omega)
          refine ⟨x, by rw [same_ne hne, same_ne hne]; exact hx, fun y hyx => ?_⟩
          by_cases hye : e = y
          · subst hye
            rw [same_self ha.2.2.1, same_self hb.2.2.1]
          · rw [same_ne hye, same_ne hye]; exact hy y hyx
    · rw [cmp, if_pos (by (clear ha hb h; omega))] at h; (clear ha hb; omega)
theorem le_of_same {a b : O} (ha : NF a) (hb : NF b) (h : ∀ x, same x a ≤ same x b) : cmp a b ≤ 0 := by
  rcases cmp_range a b with k | k | k
  · (clear ha hb h; omega)
  · (clear ha hb h; omega)
  · have hs := cmp_swap a b
    obtain ⟨x, hx, _⟩ := first_of_lt hb ha (by (clear ha hb h; omega))
    have := h x
    (clear ha hb h k hs; omega)
noncomputable def plusO : O → O → O
  | a, z => a
  | a, c e n r => app (filt (fun x _ => decide (0 < cmp x e)) a) (c e (same e a + n) r)
theorem same_app : ∀ (x a b : O), same x (app a b) = same x a + same x b
  | x, z, b => by simp [app, same]
  | x, c e n r, b => by
    have := same_app x r b
    show same x (c e n (app r b)) = _
    by_cases h : e = x
    · subst h; rw [same_eq, same_eq, this]; (clear this; omega)
    · rw [same_ne h, same_ne h, this]
theorem same_filt (p : O → Bool) : ∀ (x a : O), same x (filt (fun y _ => p y) a) = if p x then same x a else 0
  | x, z => by simp [filt, same]
  | x, c e n r => by
    have ih := same_filt p x r
    unfold filt
    by_cases hp : p e = true
    · rw [if_pos hp]
      by_cases h : e = x
      · subst h; rw [same_eq, same_eq, ih, if_pos hp, if_pos hp]
      · rw [same_ne h, same_ne h, ih]
    · rw [if_neg hp, ih]
      by_cases h : e = x
      · subst h; rw [if_neg hp, if_neg hp]
      · rw [same_ne h]
theorem NF.join' {e : O} {n : Int} {b : O} (he : NF e) (hn : 1 ≤ n) (hb : NF b) (hl : Lt e b) {a : O} (ha : NF a) : NF (O.app (O.filt (fun x _ => decide (0 < cmp x e)) a) (c e n b)) := by
  refine NF.join he hn hb hl (fun x hx => ?_) ha
  have : ∀ {b : O}, Lt e b → Lt x b := by
    intro b
    induction b with
    | z => exact fun _ => trivial
    | c y m t _ ih => exact fun h => ⟨cmp_trans y e x h.1 (by have := cmp_swap x e; (clear he hn hb hl ha ih h; omega)), ih h.2⟩
  exact this hl
theorem NF.plus {a b : O} (ha : NF a) (hb : NF b) : NF (plusO a b) := by
  cases b with
  | z => exact ha
  | c e n r =>
    have := same_nonneg e ha
    exact NF.join' hb.1 (by have := hb.2.1; (clear ha hb; omega)) hb.2.2.2 hb.2.2.1 ha
theorem same_plus {a e : O} {n : Int} {r : O} (hr : Lt e r) (x : O) : same x (plusO a (c e n r)) = if 0 < cmp x e then same x a else if cmp x e < 0 then same x (c e n r) else same x a + same x (c e n r) := by
  show same x (app _ _) = _
  rw [same_app, same_filt (fun y => decide (0 < cmp y e))]
  by_cases h1 : 0 < cmp x e
  · rw [if_pos (by simpa using h1), if_pos h1, same_above hr h1]; (clear hr h1; omega)
  · rw [if_neg (by simpa using h1), if_neg h1]
    by_cases h2 : cmp x e < 0
    · have hne : e ≠ x := fun z => by subst z; rw [cmp_self] at h2; (clear hr h1; omega)
      rw [if_pos h2, same_ne hne, same_ne hne]; (clear hr h1 h2 hne; omega)
    · have : cmp x e = 0 := by (clear hr; omega)
      have h3 := cmp_eq _ _ this
      subst h3
      rw [if_neg h2, same_self hr, same_self hr]; (clear hr h1 h2 this; omega)
end O
end Nm
namespace Nm
namespace O
noncomputable def Cov (b y : O) : Prop := ∃ w, cmp y w < 0 ∧ same w b ≠ 0
theorem cov_z (y : O) : ¬ Cov z y := fun ⟨_, _, h⟩ => h rfl
theorem cov_c {e : O} {n : Int} {r y : O} (hn : 1 ≤ n) (hr : Lt e r) : Cov (c e n r) y ↔ cmp y e < 0 := by
  constructor
  · rintro ⟨w, hw, hs⟩
    have : ¬ 0 < cmp w e := fun k => hs (same_above hr k)
    rcases cmp_range w e with k | k | k
    · exact cmp_trans y w e hw (by (clear hn hr hw hs this; omega))
    · rw [cmp_eq _ _ k] at hw; exact hw
    · (clear hn hr hw hs; omega)
  · intro h
    exact ⟨e, h, by rw [same_self hr]; (clear hr h; omega)⟩
theorem same_plus_cov {a b y : O} (hb : NF b) (h : Cov b y) : same y (plusO a b) = same y b := by
  cases b with
  | z => exact absurd h (cov_z y)
  | c e n r =>
    have h' := (cov_c hb.2.1 hb.2.2.1).mp h
    rw [same_plus hb.2.2.1, if_neg (by (clear hb h; omega)), if_pos h']
theorem same_plus_bare {a b y : O} (hb : NF b) (h : ¬ Cov b y) : same y (plusO a b) = same y b + same y a := by
  cases b with
  | z => show same y a = 0 + same y a; (clear hb h; omega)
  | c e n r =>
    have h' : ¬ cmp y e < 0 := fun k => h ((cov_c hb.2.1 hb.2.2.1).mpr k)
    rw [same_plus hb.2.2.1]
    by_cases k : 0 < cmp y e
    · rw [if_pos k, same_above hb.2.2.1 k]; (clear hb h h' k; omega)
    · rw [if_neg k, if_neg h']; (clear hb h h' k; omega)
theorem cov_alike {b d x y : O} (h : ∀ y, 0 < cmp y x → same y b = same y d) (hy : ¬ cmp y x < 0) : Cov b y ↔ Cov d y := by
  have go : ∀ w, cmp y w < 0 → 0 < cmp w x := fun w hw => by
    have hs := cmp_swap w x
    rcases cmp_range y x with k | k | k
    · (clear h hw hs; omega)
    · rw [cmp_eq _ _ k] at hw; (clear h hy k; omega)
    · have h3 := cmp_trans x y w (by have := cmp_swap y x; (clear h hy hw hs; omega)) hw
      (clear h hy hw k; omega)
  constructor
  · rintro ⟨w, hw, hs⟩
    exact ⟨w, hw, by rw [← h w (go w hw)]; exact hs⟩
  · rintro ⟨w, hw, hs⟩
    exact ⟨w, hw, by rw [h w (go w hw)]; exact hs⟩
theorem plus_lt {a b d : O} (ha : NF a) (hb : NF b) (hd : NF d) (h : cmp b d < 0) : cmp (plusO a b) (plusO a d) < 0 := by
  obtain ⟨x, hx, hy⟩ := first_of_lt hb hd h
  refine lt_of_first (x := x) (ha.plus hb) (ha.plus hd) ?_ fun y hyx => ?_
  · have q := cov_alike hy (not_lt_self x)
    by_cases k : Cov b x
    · rw [same_plus_cov hb k, same_plus_cov hd (q.mp k)]; exact hx
    · rw [same_plus_bare hb k, same_plus_bare hd (fun z => k (q.mpr z))]; (clear ha hb hd h hy q k; omega)
  · have q := cov_alike (y := y) hy (by (clear ha hb hd h hx hy; omega))
    by_cases k : Cov b y
    · rw [same_plus_cov hb k, same_plus_cov hd (q.mp k)]; exact hy y hyx
    · rw [same_plus_bare hb k, same_plus_bare hd (fun z => k (q.mpr z)), hy y hyx]
theorem cmp_of_lt {f : O → O} {b d : O} (h1 : cmp b d < 0 → cmp (f b) (f d) < 0) (h2 : cmp d b < 0 → cmp (f d) (f b) < 0) : cmp (f b) (f d) = cmp b d := by
  rcases cmp_range b d with k | k | k
  · have := h1 (by (clear h1 h2; omega))
    rcases cmp_range (f b) (f d) with q | q | q <;> (clear h1 h2; omega)
  · rw [cmp_eq _ _ k, cmp_self, cmp_self]
  · have := h2 (by have := cmp_swap b d; (clear h1 h2; omega))
    have := cmp_swap (f d) (f b)
    rcases cmp_range (f b) (f d) with q | q | q <;> (clear h1 h2; omega)
theorem cmp_plus {a b d : O} (ha : NF a) (hb : NF b) (hd : NF d) : cmp (plusO a b) (plusO a d) = cmp b d := cmp_of_lt (plus_lt ha hb hd) (plus_lt ha hd hb)
noncomputable def mergeO : O → O → O
  | z, b => b
  | c e n r, z => c e n r
  | c e n r, c e' n' r' => if 0 < cmp e e' then c e n (mergeO r (c e' n' r')) else if cmp e e' < 0 then c e' n' (mergeO (c e n r) r') else c e (n + n') (mergeO r r')
termination_by a b => a.len + b.len
decreasing_by all_goals (simp only [len]; omega)
theorem merge_z (a : O) : mergeO a z = a := by cases a <;> simp [mergeO]
theorem z_merge (a : O) : mergeO z a = a := by simp [mergeO]
theorem merge_c (e : O) (n : Int) (r e' : O) (n' : Int) (r' : O) : mergeO (c e n r) (c e' n' r') = if 0 < cmp e e' then c e n (mergeO r (c e' n' r')) else if cmp e e' < 0 then c e' n' (mergeO (c e n r) r') else c e (n + n') (mergeO r r') := by rw [mergeO]
theorem same_c (x e : O) (n : Int) (r : O) : same x (c e n r) = (if e = x then n else 0) + same x r := by
  by_cases h : e = x
  · subst h; rw [same_eq, if_pos rfl]
  · rw [same_ne h, if_neg h]; (clear h; omega)
theorem same_merge (x : O) : ∀ (k : Nat) (a b : O), a.len + b.len ≤ k → same x (mergeO a b) = same x a + same x b
  | _, z, b, _ => by rw [z_merge, same_z]; omega
  | _, c e n r, z, _ => by rw [merge_z, same_z]; omega
  | 0, c e n r, c e' n' r', h => by simp only [len] at h; omega
  | k + 1, c e n r, c e' n' r', h => by
    simp only [len] at h
    rw [merge_c]
    by_cases h1 : 0 < cmp e e'
    · rw [if_pos h1, same_c x e, same_merge x k r (c e' n' r') (by simp only [len]; (clear h1; omega)), same_c x e n r]; (clear h h1; omega)
    · rw [if_neg h1]
      by_cases h2 : cmp e e' < 0
      · rw [if_pos h2, same_c x e', same_merge x k (c e n r) r' (by simp only [len]; (clear h1 h2; omega)), same_c x e' n' r']; (clear h h1 h2; omega)
      · have h3 := cmp_eq e e' (by (clear h; omega))
        subst h3
        rw [if_neg h2, same_c x e, same_merge x k r r' (by (clear h1 h2; omega)), same_c x e n r, same_c x e n' r']
        by_cases h4 : e = x
        · rw [if_pos h4, if_pos h4, if_pos h4]; (clear h h1 h2 h4; omega)
        · rw [if_neg h4, if_neg h4, if_neg h4]; (clear h h1 h2 h4; omega)
theorem same_merged (x a b : O) : same x (mergeO a b) = same x a + same x b := same_merge x _ a b (Nat.le_refl _)
theorem Lt.mono {e f : O} (h : cmp e f < 0) : ∀ {r : O}, Lt e r → Lt f r
  | z, _ => trivial
  | c _ _ _, k => ⟨cmp_trans _ _ _ k.1 h, Lt.mono h k.2⟩
theorem Lt.merge {g : O} : ∀ (k : Nat) (a b : O), a.len + b.len ≤ k → Lt g a → Lt g b → Lt g (mergeO a b)
  | _, z, b, _, _, hb => by rw [z_merge]; exact hb
  | _, c e n r, z, _, ha, _ => by rw [merge_z]; exact ha
  | 0, c e n r, c e' n' r', h, _, _ => by simp only [len] at h; omega
  | k + 1, c e n r, c e' n' r', h, ha, hb => by
    simp only [len] at h
    rw [merge_c]
    split
    · exact ⟨ha.1, Lt.merge k r _ (by simp only [len]; (clear ha hb; omega)) ha.2 hb⟩
    · split
      · exact ⟨hb.1, Lt.merge k _ r' (by simp only [len]; (clear ha hb; omega)) ha hb.2⟩
      · exact ⟨ha.1, Lt.merge k r r' (by (clear ha hb; omega)) ha.2 hb.2⟩
theorem NF.merge' : ∀ (k : Nat) (a b : O), a.len + b.len ≤ k → NF a → NF b → NF (mergeO a b)
  | _, z, b, _, _, hb => by rw [z_merge]; exact hb
  | _, c e n r, z, _, ha, _ => by rw [merge_z]; exact ha
  | 0, c e n r, c e' n' r', h, _, _ => by simp only [len] at h; omega
  | k + 1, c e n r, c e' n' r', h, ha, hb => by
    simp only [len] at h
    rw [merge_c]
    split
    · rename_i h1
      have hl : cmp e' e < 0 := by have := cmp_swap e e'; (clear h ha hb; omega)
      exact ⟨ha.1, ha.2.1, Lt.merge _ _ _ (Nat.le_refl _) ha.2.2.1 ⟨hl, hb.2.2.1.mono hl⟩, NF.merge' k r _ (by simp only [len]; (clear ha hb h1 hl; omega)) ha.2.2.2 hb⟩
    · split
      · rename_i h1 h2
        exact ⟨hb.1, hb.2.1, Lt.merge _ _ _ (Nat.le_refl _) ⟨h2, ha.2.2.1.mono h2⟩ hb.2.2.1, NF.merge' k _ r' (by simp only [len]; (clear ha hb h1 h2; omega)) ha hb.2.2.2⟩
      · rename_i h1 h2
        have h3 := cmp_eq e e' (by (clear h ha hb; omega))
        subst h3
        exact ⟨ha.1, by have := ha.2.1; have := hb.2.1; (clear h ha hb h1 h2; omega), Lt.merge _ _ _ (Nat.le_refl _) ha.2.2.1 hb.2.2.1, NF.merge' k r r' (by (clear ha hb h1 h2; omega)) ha.2.2.2 hb.2.2.2⟩
theorem NF.merge {a b : O} (ha : NF a) (hb : NF b) : NF (mergeO a b) := NF.merge' _ a b (Nat.le_refl _) ha hb
theorem merge_comm {a b : O} (ha : NF a) (hb : NF b) : mergeO a b = mergeO b a := same_ext (ha.merge hb) (hb.merge ha) fun x => by rw [same_merged, same_merged]; (clear ha hb; omega)
theorem merge_assoc {a b d : O} (ha : NF a) (hb : NF b) (hd : NF d) : mergeO (mergeO a b) d = mergeO a (mergeO b d) := same_ext ((ha.merge hb).merge hd) (ha.merge (hb.merge hd)) fun x => by simp only [same_merged]; (clear ha hb hd; omega)
theorem merge_lt {a b d : O} (ha : NF a) (hb : NF b) (hd : NF d) (h : cmp b d < 0) : cmp (mergeO a b) (mergeO a d) < 0 := by
  obtain ⟨x, hx, hy⟩ := first_of_lt hb hd h
  exact lt_of_first (x := x) (ha.merge hb) (ha.merge hd) (by simp only [same_merged]; (clear ha hb hd h hy; omega)) fun y hyx => by simp only [same_merged]; rw [hy y hyx]
theorem cmp_merge {a b d : O} (ha : NF a) (hb : NF b) (hd : NF d) : cmp (mergeO a b) (mergeO a d) = cmp b d := cmp_of_lt (merge_lt ha hb hd) (merge_lt ha hd hb)
theorem plus_le_merge {a b : O} (ha : NF a) (hb : NF b) : cmp (plusO a b) (mergeO a b) ≤ 0 := le_of_same (ha.plus hb) (ha.merge hb) fun x => by
  rw [same_merged]
  by_cases k : Cov b x
  · rw [same_plus_cov hb k]; have := same_nonneg x ha; (clear ha hb k; omega)
  · rw [same_plus_bare hb k]; (clear ha hb k; omega)
end O
end Nm
namespace Nm
namespace O
noncomputable def getP : O → Nat → Option (O × Int)
  | z, _ => none
  | c e n _, 0 => some (e, n)
  | c _ _ r, i + 1 => getP r i
noncomputable def dropO : Nat → O → O
  | 0, a => a
  | _ + 1, z => z
  | i + 1, c _ _ r => dropO i r
theorem getP_none : ∀ {a : O} {i : Nat}, getP a i = none ↔ a.len ≤ i
  | z, i => by simp [getP, len]
  | c e n r, 0 => by simp [getP, len]
  | c e n r, i + 1 => by
    have := getP_none (a := r) (i := i)
    simp only [getP, len, this]; (clear this; omega)
theorem getP_some {a : O} {i : Nat} (h : i < a.len) : ∃ e n, getP a i = some (e, n) := by
  cases k : getP a i with
  | none => rw [getP_none] at k; omega
  | some p => exact ⟨p.1, p.2, rfl⟩
theorem dropO_get : ∀ {a : O} {i : Nat} {e : O} {n : Int}, getP a i = some (e, n) → dropO i a = c e n (dropO (i + 1) a)
  | z, _, _, _, h => by simp [getP] at h
  | c e n r, 0, _, _, h => by simp [getP] at h; obtain ⟨rfl, rfl⟩ := h; simp [dropO]
  | c e n r, i + 1, x, m, h => by
    have := dropO_get (a := r) (i := i) (e := x) (n := m) (by simpa [getP] using h)
    simpa [dropO] using this
theorem dropO_len : ∀ {a : O} {i : Nat}, a.len ≤ i → dropO i a = z
  | z, 0, _ => rfl
  | z, _ + 1, _ => rfl
  | c e n r, 0, h => by simp only [len] at h; omega
  | c e n r, i + 1, h => by
    simp only [len] at h
    exact dropO_len (a := r) (i := i) (by omega)
theorem len_dropO : ∀ (i : Nat) (a : O), (dropO i a).len = a.len - i
  | 0, a => rfl
  | _ + 1, z => by simp [dropO, len]
  | i + 1, c e n r => by
    have := len_dropO i r
    simp only [dropO, len, this]; omega
theorem getP_size : ∀ {a : O} {i : Nat} {e : O} {n : Int}, getP a i = some (e, n) → e.size < a.size ∧ e.dp < a.dp
  | z, _, _, _, h => by simp [getP] at h
  | c e n r, 0, _, _, h => by simp [getP] at h; obtain ⟨rfl, rfl⟩ := h; simp only [size, dp]; omega
  | c e n r, i + 1, x, m, h => by
    have := getP_size (a := r) (i := i) (e := x) (n := m) (by simpa [getP] using h)
    simp only [size, dp]; (clear h; omega)
theorem NF.drop : ∀ {i : Nat} {a : O}, NF a → NF (dropO i a)
  | 0, _, h => h
  | _ + 1, z, _ => trivial
  | i + 1, c _ _ _, h => NF.drop (i := i) h.2.2.2
noncomputable def stay (e a : O) : Nat := (filt (fun x _ => decide (0 < cmp x e)) a).len
theorem filt_above_z {y e : O} (h : ¬ 0 < cmp y e) : ∀ {r : O}, Lt y r → filt (fun x _ => decide (0 < cmp x e)) r = z
  | z, _ => rfl
  | c x n t, k => by
    have hx : ¬ 0 < cmp x e := fun q => by
      have h1 := cmp_swap x e
      have h2 := cmp_trans e x y (by (clear h k; omega)) k.1
      have h3 := cmp_swap e y
      (clear k q h1; omega)
    unfold filt
    rw [if_neg (by simpa using hx)]
    exact filt_above_z h k.2
theorem filt_c (p : O → Int → Bool) (e : O) (n : Int) (r : O) : filt p (c e n r) = if p e n then c e n (filt p r) else filt p r := rfl
theorem stay_c_pos {e y : O} {n : Int} {r : O} (h : 0 < cmp y e) : stay e (c y n r) = stay e r + 1 := by
  unfold stay
  rw [filt_c, if_pos (by simpa using h)]
  rfl
theorem stay_c_neg {e y : O} {n : Int} {r : O} (h : ¬ 0 < cmp y e) (hr : Lt y r) : stay e (c y n r) = 0 := by
  unfold stay
  rw [filt_c, if_neg (by simpa using h), filt_above_z h hr]
  rfl
theorem stay_le {e : O} : ∀ {a : O}, stay e a ≤ a.len
  | z => Nat.le_refl _
  | c y n r => by
    have := stay_le (e := e) (a := r)
    unfold stay at this ⊢
    unfold filt
    split <;> simp only [len] <;> omega
theorem above_iff {e : O} : ∀ {a : O} {i : Nat} {x : O} {n : Int}, NF a → getP a i = some (x, n) → (0 < cmp x e ↔ i < stay e a)
  | z, _, _, _, _, h => by simp [getP] at h
  | c y m r, 0, x, n, ha, h => by
    simp [getP] at h
    obtain ⟨rfl, rfl⟩ := h
    by_cases k : 0 < cmp y e
    · rw [stay_c_pos k]; exact ⟨fun _ => by (clear ha k; omega), fun _ => k⟩
    · rw [stay_c_neg k ha.2.2.1]; exact ⟨fun q => absurd q k, fun q => by (clear ha k; omega)⟩
  | c y m r, i + 1, x, n, ha, h => by
    have h' : getP r i = some (x, n) := by simpa [getP] using h
    have ih := above_iff (e := e) ha.2.2.2 h'
    by_cases k : 0 < cmp y e
    · rw [stay_c_pos k, ih]; (clear ha h h' ih k; omega)
    · rw [stay_c_neg k ha.2.2.1]
      constructor
      · intro q
        have z0 : stay e r = 0 := by unfold stay; rw [filt_above_z k ha.2.2.1]; rfl
        have := ih.mp q
        (clear ha h h' ih k q; omega)
      · intro q; (clear ha h h' ih k; omega)
theorem same_stay {e : O} : ∀ {a : O}, NF a → same e a = match getP a (stay e a) with | some (x, m) => if x = e then m else 0 | none => 0
  | z, _ => rfl
  | c y n r, ha => by
    by_cases k : 0 < cmp y e
    · have hne : y ≠ e := fun q => by subst q; rw [cmp_self] at k; (clear ha; omega)
      rw [stay_c_pos k, same_ne hne, same_stay ha.2.2.2]
      rfl
    · rw [stay_c_neg k ha.2.2.1]
      show _ = if y = e then n else 0
      by_cases q : y = e
      · subst q
        rw [if_pos rfl, same_self ha.2.2.1]
      · rw [if_neg q, same_ne q]
        refine same_of_Lt (fun hl => ?_) ha.2.2.1
        have h1 := cmp_swap e y
        (clear ha q; omega)
noncomputable def takeO : Nat → O → O
  | 0, _ => z
  | _ + 1, z => z
  | i + 1, c e n r => c e n (takeO i r)
theorem take_stay {e : O} : ∀ {a : O}, NF a → takeO (stay e a) a = filt (fun x _ => decide (0 < cmp x e)) a
  | z, _ => rfl
  | c y n r, ha => by
    by_cases k : 0 < cmp y e
    · rw [stay_c_pos k, filt_c, if_pos (by simpa using k), takeO, take_stay ha.2.2.2]
    · rw [stay_c_neg k ha.2.2.1, filt_c, if_neg (by simpa using k), filt_above_z k ha.2.2.1]
      rfl
end O
end Nm
namespace Nm
namespace O
noncomputable def mx : O → Int
  | z => 0
  | c e n r => max n (max (mx e) (mx r))
theorem mx_c (e : O) (n : Int) (r : O) : mx (c e n r) = max n (max (mx e) (mx r)) := rfl
theorem mx_nonneg : ∀ a : O, 0 ≤ mx a
  | z => Int.le_refl _
  | c e n r => by have := mx_nonneg r; rw [mx_c]; omega
theorem mx_app : ∀ a b : O, mx (app a b) = max (mx a) (mx b)
  | z, b => by have := mx_nonneg b; show mx b = max 0 (mx b); omega
  | c e n r, b => by
    show mx (c e n (app r b)) = _
    rw [mx_c, mx_app r b, mx_c, Int.max_assoc, Int.max_assoc]
theorem mx_filt (p : O → Int → Bool) : ∀ a : O, mx (filt p a) ≤ mx a
  | z => Int.le_refl _
  | c e n r => by
    have := mx_filt p r
    rw [filt_c]
    split
    · rw [mx_c, mx_c]; omega
    · rw [mx_c]; omega
theorem same_le_mx (x : O) : ∀ {a : O}, NF a → same x a ≤ mx a
  | z, _ => Int.le_refl _
  | c e n r, h => by
    have h1 := same_le_mx x h.2.2.2
    rw [mx_c]
    by_cases k : e = x
    · subst k
      rw [same_self h.2.2.1]; (clear h h1; omega)
    · rw [same_ne k]; (clear h k; omega)
theorem mx_init : ∀ a : O, mx (init a) ≤ mx a
  | z => Int.le_refl _
  | c _ _ z => by simp only [init]; exact mx_nonneg _
  | c e n (c e' n' r') => by
    have h := mx_init (c e' n' r')
    have e0 : init (c e n (c e' n' r')) = c e n (init (c e' n' r')) := by simp [init]
    rw [e0, mx_c, mx_c e]
    (clear e0; omega)
theorem dp_app : ∀ a b : O, dp (app a b) = max (dp a) (dp b)
  | z, b => by show dp b = max 0 (dp b); omega
  | c e n r, b => by
    show dp (c e n (app r b)) = _
    simp only [dp, dp_app r b]; rw [Nat.max_assoc]
theorem dp_filt (p : O → Int → Bool) : ∀ a : O, dp (filt p a) ≤ dp a
  | z => Nat.le_refl _
  | c e n r => by
    have := dp_filt p r
    rw [filt_c]
    split <;> simp only [dp] <;> omega
theorem dp_plus (a b : O) : dp (plusO a b) ≤ max (dp a) (dp b) := by
  cases b with
  | z => show dp a ≤ _; omega
  | c e n r =>
    show dp (app _ _) ≤ _
    rw [dp_app]
    have := dp_filt (fun x _ => decide (0 < cmp x e)) a
    simp only [dp]
    omega
theorem dp_merge' : ∀ (k : Nat) (a b : O), a.len + b.len ≤ k → dp (mergeO a b) ≤ max (dp a) (dp b)
  | _, z, b, _ => by rw [z_merge]; omega
  | _, c e n r, z, _ => by rw [merge_z]; omega
  | 0, c e n r, c e' n' r', h => by simp only [len] at h; omega
  | k + 1, c e n r, c e' n' r', h => by
    simp only [len] at h
    rw [merge_c]
    split
    · have := dp_merge' k r (c e' n' r') (by simp only [len]; omega)
      have h1 : dp r ≤ dp (c e n r) := Nat.le_max_right _ _
      have h2 : dp e + 1 ≤ dp (c e n r) := Nat.le_max_left _ _
      exact Nat.max_le.mpr ⟨Nat.le_trans h2 (Nat.le_max_left _ _), Nat.le_trans this (Nat.max_le.mpr ⟨Nat.le_trans h1 (Nat.le_max_left _ _), Nat.le_max_right _ _⟩)⟩
    · split
      · have := dp_merge' k (c e n r) r' (by simp only [len]; omega)
        have h1 : dp r' ≤ dp (c e' n' r') := Nat.le_max_right _ _
        have h2 : dp e' + 1 ≤ dp (c e' n' r') := Nat.le_max_left _ _
        exact Nat.max_le.mpr ⟨Nat.le_trans h2 (Nat.le_max_right _ _), Nat.le_trans this (Nat.max_le.mpr ⟨Nat.le_max_left _ _, Nat.le_trans h1 (Nat.le_max_right _ _)⟩)⟩
      · have := dp_merge' k r r' (by omega)
        have h1 : dp r ≤ dp (c e n r) := Nat.le_max_right _ _
        have h2 : dp e + 1 ≤ dp (c e n r) := Nat.le_max_left _ _
        have h3 : dp r' ≤ dp (c e' n' r') := Nat.le_max_right _ _
        exact Nat.max_le.mpr ⟨Nat.le_trans h2 (Nat.le_max_left _ _), Nat.le_trans this (Nat.max_le.mpr ⟨Nat.le_trans h1 (Nat.le_max_left _ _), Nat.le_trans h3 (Nat.le_max_right _ _)⟩)⟩
theorem dp_merge (a b : O) : dp (mergeO a b) ≤ max (dp a) (dp b) := dp_merge' _ a b (Nat.le_refl _)
structure Good (B : Int) (o : O) : Prop where
  nf : NF o
  sz : o.size ≤ 24
  mx : O.mx o ≤ B
end O
end Nm
namespace Nm
namespace O
theorem z_plus : ∀ a : O, plusO z a = a
  | z => rfl
  | c e n r => by
    simp [plusO, filt, app, same]
theorem plus_z (a : O) : plusO a z = a := rfl
theorem plus_c (a e : O) (n : Int) (r : O) : plusO a (c e n r) = app (filt (fun x _ => decide (0 < cmp x e)) a) (c e (same e a + n) r) := rfl
noncomputable def minusO : O → O → O
  | a, z => a
  | z, _ => z
  | c e n r, c e' n' r' => if e = e' then (if n = n' then minusO r r' else c e (n - n') r) else c e n r
theorem minus_z (a : O) : minusO a z = a := by cases a <;> rfl
theorem Lt.minus {g : O} : ∀ {a b : O}, Lt g a → Lt g (minusO a b)
  | a, z, h => by rw [minus_z]; exact h
  | z, c _ _ _, h => h
  | c e n r, c e' n' r', h => by
    unfold minusO
    split
    · split
      · exact Lt.minus h.2
      · exact h
    · exact h
theorem NF.minus : ∀ {a b : O}, NF a → cmp b a ≤ 0 → NF (minusO a b)
  | a, z, h, _ => by rw [minus_z]; exact h
  | z, c _ _ _, h, _ => h
  | c e n r, c e' n' r', h, k => by
    unfold minusO
    split
    · rename_i q
      subst q
      rw [cmp, if_neg (by rw [cmp_self]; simp)] at k
      split
      · rename_i q2
        subst q2
        rw [if_neg (by (clear h k; omega)), if_neg (by (clear h k; omega))] at k
        exact NF.minus h.2.2.2 k
      · rename_i q2
        have : n' < n := by
          rcases Int.lt_trichotomy n' n with j | j | j
          · exact j
          · exact absurd j.symm q2
          · rw [if_neg (by (clear h k q2; omega)), if_pos j] at k; (clear h q2 j; omega)
        exact ⟨h.1, by (clear h k q2; omega), h.2.2.1, h.2.2.2⟩
    · exact h
theorem filt_self_z {e : O} {n : Int} {r : O} (hr : Lt e r) {f : O} (h : cmp e f ≤ 0) : filt (fun x _ => decide (0 < cmp x f)) (c e n r) = z := by
  rw [filt_c, if_neg (by simp; assumption), filt_above_z (by (clear hr; omega)) hr]
theorem plus_minus : ∀ {a b : O}, NF a → NF b → cmp b a ≤ 0 → plusO b (minusO a b) = a
  | a, z, _, _, _ => by rw [minus_z, z_plus]
  | z, c _ _ _, _, _, h => by simp [cmp] at h
  | c e n r, c e' n' r', ha, hb, h => by
    unfold minusO
    by_cases q : e = e'
    · subst q
      rw [cmp, if_neg (by rw [cmp_self]; simp)] at h
      rw [if_pos rfl]
      by_cases q2 : n = n'
      · subst q2
        rw [if_neg (by (clear ha hb h; omega)), if_neg (by (clear ha hb h; omega))] at h
        rw [if_pos rfl]
        have ih := plus_minus ha.2.2.2 hb.2.2.2 h
        have hl : Lt e (minusO r r') := ha.2.2.1.minus
        cases k : minusO r r' with
        | z =>
          rw [k, plus_z] at ih
          rw [plus_z, ih]
        | c f m t =>
          rw [k] at ih hl
          have hf : 0 < cmp e f := by have := cmp_swap e f; have := hl.1; (clear ha hb h hl ih k; omega)
          have hne : e ≠ f := fun z => by subst z; rw [cmp_self] at hf; (clear ha hb h hl ih k; omega)
          rw [plus_c] at ih ⊢
          rw [filt_c, if_pos (by simpa using hf), same_ne hne]
          show c e n (app _ _) = _
          rw [ih]
      · rw [if_neg q2]
        have hlt : n' < n := by
          rcases Int.lt_trichotomy n' n with j | j | j
          · exact j
          · exact absurd j.symm q2
          · rw [if_neg (by (clear ha hb h q2; omega)), if_pos j] at h; (clear ha hb q2 j; omega)
        rw [plus_c, filt_self_z hb.2.2.1 (by rw [cmp_self]; (clear ha hb h q2 hlt; omega)), same_self hb.2.2.1]
        show c e (n' + (n - n')) r = _
        have e1 : n' + (n - n') = n := by (clear ha hb h q2 hlt; omega)
        rw [e1]
    · rw [if_neg q]
      have hk : cmp e' e < 0 := by
        rcases cmp_range e' e with j | j | j
        · (clear ha hb h q; omega)
        · exact absurd (cmp_eq _ _ j).symm q
        · rw [cmp, if_pos (by (clear ha hb h q; omega))] at h; (clear ha hb q; omega)
      rw [plus_c, filt_self_z hb.2.2.1 (by (clear ha hb h q; omega)), same_above hb.2.2.1 (by have := cmp_swap e' e; (clear ha hb h q; omega))]
      show c e (0 + n) r = _
      rw [Int.zero_add]
theorem plus_inj {a b d : O} (ha : NF a) (hb : NF b) (hd : NF d) (h : plusO a b = plusO a d) : b = d := by
  have := cmp_plus ha hb hd
  rw [h, cmp_self] at this
  exact cmp_eq _ _ this.symm
theorem z_lt {a : O} (h : a ≠ z) : cmp z a < 0 := by
  cases a with
  | z => exact absurd rfl h
  | c _ _ _ => simp [cmp]
theorem lt_plus {e f : O} (he : NF e) (hf : NF f) (h : f ≠ z) : cmp e (plusO e f) < 0 := by
  have := cmp_plus (b := z) he trivial hf
  rw [plus_z] at this
  have := z_lt h
  (clear he hf h; omega)
noncomputable def mulP (e : O) (n : Int) (r : O) : O → O
  | z => z
  | c f d t => if f = z then c e (n * d) r else c (plusO e f) d (mulP e n r t)
noncomputable def timesO : O → O → O
  | z, _ => z
  | c e n r, b => mulP e n r b
theorem mulP_c (e : O) (n : Int) (r f : O) (d : Int) (t : O) : mulP e n r (c f d t) = if f = z then c e (n * d) r else c (plusO e f) d (mulP e n r t) := rfl
theorem times_z (a : O) : timesO a z = z := by cases a <;> rfl
theorem mulP_Lt {e : O} {n : Int} {r : O} (he : NF e) (hr : Lt e r) {f : O} (hf : NF f) (h0 : f ≠ z) : ∀ {t : O}, NF t → Lt f t → Lt (plusO e f) (mulP e n r t)
  | z, _, _ => trivial
  | c g d u, ht, hl => by
    rw [mulP_c]
    split
    · exact ⟨lt_plus he hf h0, hr.mono (lt_plus he hf h0)⟩
    · exact ⟨by rw [cmp_plus he ht.1 hf]; exact hl.1, mulP_Lt he hr hf h0 ht.2.2.2 hl.2⟩
theorem one_le_mul {a b : Int} (ha : 1 ≤ a) (hb : 1 ≤ b) : 1 ≤ a * b := by
  have := Int.mul_le_mul ha hb (by (clear ha hb; omega)) (by (clear hb; omega))
  simpa using this
theorem mulP_NF {e : O} {n : Int} {r : O} (h : NF (c e n r)) : ∀ {t : O}, NF t → NF (mulP e n r t)
  | z, _ => trivial
  | c g d u, ht => by
    rw [mulP_c]
    split
    · exact ⟨h.1, one_le_mul h.2.1 ht.2.1, h.2.2.1, h.2.2.2⟩
    · rename_i hg
      exact ⟨h.1.plus ht.1, ht.2.1, mulP_Lt h.1 h.2.2.1 ht.1 hg ht.2.2.2 ht.2.2.1, mulP_NF h ht.2.2.2⟩
theorem NF.times {a b : O} (ha : NF a) (hb : NF b) : NF (timesO a b) := by
  cases a with
  | z => exact trivial
  | c e n r => exact mulP_NF ha hb
theorem Lt_z {t : O} (h : Lt z t) : t = z := by
  cases t with
  | z => rfl
  | c x _ _ =>
    have := h.1
    cases x <;> simp [cmp] at this
section
variable {e : O} {n : Int} {r : O}
theorem same_mul_above (h : NF (c e n r)) {g : O} (hg : NF g) (h0 : g ≠ z) : ∀ {b : O}, NF b → same (plusO e g) (mulP e n r b) = same g b
  | z, _ => rfl
  | c f d t, hb => by
    rw [mulP_c]
    by_cases k : f = z
    · subst k
      rw [if_pos rfl, Lt_z hb.2.2.1]
      have hl := lt_plus h.1 hg h0
      have hs := cmp_swap e (plusO e g)
      rw [same_above h.2.2.1 (by (clear h hg h0 hb; omega)), same_ne (Ne.symm h0)]
      rfl
    · rw [if_neg k]
      by_cases q : f = g
      · subst q
        rw [same_self (mulP_Lt h.1 h.2.2.1 hg h0 hb.2.2.2 hb.2.2.1), same_self hb.2.2.1]
      · rw [same_ne (fun z => q (plus_inj h.1 hb.1 hg z)), same_ne q, same_mul_above h hg h0 hb.2.2.2]
theorem same_mul_at (h : NF (c e n r)) : ∀ {b : O}, NF b → same e (mulP e n r b) = n * same z b
  | z, _ => by show (0 : Int) = n * 0; (clear h; omega)
  | c f d t, hb => by
    rw [mulP_c]
    by_cases k : f = z
    · subst k
      rw [if_pos rfl, same_self h.2.2.1, same_self hb.2.2.1]
    · have hne : plusO e f ≠ e := fun q => by have := lt_plus h.1 hb.1 k; rw [q, cmp_self] at this; (clear h hb k q; omega)
      rw [if_neg k, same_ne hne, same_ne k, same_mul_at h hb.2.2.2]
theorem same_mul_below (h : NF (c e n r)) {y : O} (hy : cmp y e < 0) : ∀ {b : O}, NF b → same y (mulP e n r b) = if same z b = 0 then 0 else same y r
  | z, _ => by rw [same_z, if_pos rfl]; rfl
  | c f d t, hb => by
    have hd := hb.2.1
    rw [mulP_c]
    by_cases k : f = z
    · subst k
      have hne : e ≠ y := fun q => by subst q; rw [cmp_self] at hy; (clear h hd hb; omega)
      rw [if_pos rfl, same_ne hne, same_self hb.2.2.1, if_neg (by (clear h hy hb hne; omega))]
    · have hne : plusO e f ≠ y := fun q => by
        have h1 := lt_plus h.1 hb.1 k
        rw [q] at h1
        have h2 := cmp_swap e y
        (clear h hb hd k q; omega)
      rw [if_neg k, same_ne hne, same_ne k, same_mul_below h hy hb.2.2.2]
theorem above_form {y : O} (he : NF e) (hy : NF y) (h : cmp e y < 0) : ∃ g, NF g ∧ g ≠ z ∧ y = plusO e g := by
  refine ⟨minusO y e, hy.minus (by (clear he hy; omega)), fun k => ?_, (plus_minus hy he (by (clear he hy; omega))).symm⟩
  have := plus_minus hy he (by (clear he hy k; omega))
  rw [k, plus_z] at this
  rw [this, cmp_self] at h
  (clear he hy k this; omega)
end
theorem NF.of_same {x : O} : ∀ {a : O}, NF a → same x a ≠ 0 → NF x
  | z, _, h => absurd rfl h
  | c e n r, ha, h => by
    by_cases k : e = x
    · subst k; exact ha.1
    · rw [same_ne k] at h; exact NF.of_same ha.2.2.2 h
theorem same_ext' {a b : O} (ha : NF a) (hb : NF b) (h : ∀ x, NF x → same x a = same x b) : a = b := same_ext ha hb fun x => by
  refine Classical.byContradiction fun k => ?_
  by_cases q : NF x
  · exact k (h x q)
  · have h1 : same x a = 0 := Classical.byContradiction fun z => q (ha.of_same z)
    have h2 : same x b = 0 := Classical.byContradiction fun z => q (hb.of_same z)
    exact k (by rw [h1, h2])
end O
end Nm
namespace Nm
namespace O
section
variable {e : O} {n : Int} {r : O}
theorem cov_mul_above (h : NF (c e n r)) {d g : O} (hd : NF d) (hg : NF g) : Cov (mulP e n r d) (plusO e g) ↔ Cov d g := by
  constructor
  · rintro ⟨w, hw, hs⟩
    have hwN : NF w := (mulP_NF h hd).of_same hs
    have hew : cmp e w < 0 := by
      by_cases k : g = z
      · rw [k, plus_z] at hw; exact hw
      · exact cmp_trans _ _ _ (lt_plus h.1 hg k) hw
    obtain ⟨g', hg', h0, rfl⟩ := above_form h.1 hwN hew
    rw [cmp_plus h.1 hg hg'] at hw
    rw [same_mul_above h hg' h0 hd] at hs
    exact ⟨g', hw, hs⟩
  · rintro ⟨g', hw, hs⟩
    have hg' : NF g' := hd.of_same hs
    have h0 : g' ≠ z := fun k => by
      subst k
      have := cmp_swap z g
      cases g <;> simp [cmp] at hw
    exact ⟨plusO e g', by rw [cmp_plus h.1 hg hg']; exact hw, by rw [same_mul_above h hg' h0 hd]; exact hs⟩
theorem cov_mul_at (h : NF (c e n r)) {d : O} (hd : NF d) : Cov (mulP e n r d) e ↔ Cov d z := by
  have := cov_mul_above h hd (g := z) trivial
  rwa [plus_z] at this
theorem cov_mul_below (h : NF (c e n r)) {d y : O} (hd : NF d) (h0 : d ≠ z) (hy : cmp y e < 0) : Cov (mulP e n r d) y := by
  cases d with
  | z => exact absurd rfl h0
  | c f m t =>
    have hm := hd.2.1
    by_cases k : f = z
    · subst k
      refine ⟨e, hy, ?_⟩
      rw [same_mul_at h hd, same_self hd.2.2.1]
      have := one_le_mul h.2.1 hm
      (clear h hy hm hd h0; omega)
    · refine ⟨plusO e f, cmp_trans _ _ _ hy (lt_plus h.1 hd.1 k), ?_⟩
      rw [same_mul_above h hd.1 k hd, same_self hd.2.2.1]
      (clear h hy hd h0 k; omega)
end
theorem mul_plus {a b d : O} (ha : NF a) (hb : NF b) (hd : NF d) : timesO a (plusO b d) = plusO (timesO a b) (timesO a d) := by
  cases a with
  | z => rfl
  | c e n r =>
    by_cases hz : d = z
    · subst hz; rfl
    show mulP e n r (plusO b d) = plusO (mulP e n r b) (mulP e n r d)
    have hbd := hb.plus hd
    have hmd := mulP_NF ha hd
    refine same_ext' (mulP_NF ha hbd) ((mulP_NF ha hb).plus hmd) fun y hy => ?_
    rcases cmp_range y e with k | k | k
    · rw [same_plus_cov hmd (cov_mul_below ha hd hz (by (clear hb hd ha hz hbd hmd hy; omega))), same_mul_below ha (by (clear hb hd ha hz hbd hmd hy; omega)) hbd, same_mul_below ha (by (clear hb hd ha hz hbd hmd hy; omega)) hd]
      by_cases q : Cov d z
      · rw [same_plus_cov hd q]
      · rw [same_plus_bare hd q]
        have h1 : same z d ≠ 0 := by
          cases d with
          | z => exact absurd rfl hz
          | c f m t =>
            have hf : f = z := Classical.byContradiction fun j => q ((cov_c hd.2.1 hd.2.2.1).mpr (z_lt j))
            subst hf
            rw [same_self hd.2.2.1]
            have := hd.2.1
            (clear hb ha hy k hd hz hbd hmd q; omega)
        have h2 := same_nonneg z hd
        have h3 := same_nonneg z hb
        rw [if_neg h1, if_neg (by (clear hb hd ha hz hbd hmd hy k q; omega))]
    · have q := cmp_eq _ _ k
      subst q
      rw [same_mul_at ha hbd]
      by_cases q : Cov d z
      · rw [same_plus_cov hmd ((cov_mul_at ha hd).mpr q), same_plus_cov hd q, same_mul_at ha hd]
      · rw [same_plus_bare hmd (fun j => q ((cov_mul_at ha hd).mp j)), same_plus_bare hd q, same_mul_at ha hd, same_mul_at ha hb, Int.mul_add]
    · obtain ⟨g, hg, h0, rfl⟩ := above_form ha.1 hy (by have := cmp_swap y e; (clear hb hd ha hz hbd hmd hy; omega))
      rw [same_mul_above ha hg h0 hbd]
      by_cases q : Cov d g
      · rw [same_plus_cov hmd ((cov_mul_above ha hd hg).mpr q), same_plus_cov hd q, same_mul_above ha hg h0 hd]
      · rw [same_plus_bare hmd (fun j => q ((cov_mul_above ha hd hg).mp j)), same_plus_bare hd q, same_mul_above ha hg h0 hd, same_mul_above ha hg h0 hb]
end O
end Nm
namespace Nm
namespace O
end O
end Nm
namespace Nm
namespace O
noncomputable def hw : O → Nat
  | z => 0
  | c e _ r => max (len r + 1) (max (hw e) (hw r))
theorem hw_c (e : O) (n : Int) (r : O) : hw (c e n r) = max (len r + 1) (max (hw e) (hw r)) := rfl
theorem len_le_hw : ∀ a : O, len a ≤ hw a
  | z => Nat.le_refl _
  | c e n r => by rw [hw_c]; simp only [len]; omega
theorem len_app' : ∀ a b : O, (app a b).len = a.len + b.len
  | z, b => by simp [app, len]
  | c e n r, b => by have := len_app' r b; simp only [app, len]; omega
theorem len_filt' (p : O → Int → Bool) : ∀ a : O, (a.filt p).len ≤ a.len
  | z => Nat.le_refl _
  | c e n r => by
    have := len_filt' p r
    rw [filt_c]
    split <;> simp only [len] <;> omega
theorem hw_app : ∀ a b : O, hw (app a b) ≤ max (len a + len b) (max (hw a) (hw b))
  | z, b => by show hw b ≤ _; omega
  | c e n r, b => by
    have ih := hw_app r b
    show hw (c e n (app r b)) ≤ _
    have l0 : len (c e n r) = len r + 1 := rfl
    have b1 : hw e ≤ hw (c e n r) := Nat.le_trans (Nat.le_max_left _ _) (Nat.le_max_right _ _)
    have b2 : hw r ≤ hw (c e n r) := Nat.le_trans (Nat.le_max_right _ _) (Nat.le_max_right _ _)
    have c1 : len (c e n r) + len b ≤ max (len (c e n r) + len b) (max (hw (c e n r)) (hw b)) := Nat.le_max_left _ _
    have c2 : hw (c e n r) ≤ max (len (c e n r) + len b) (max (hw (c e n r)) (hw b)) := Nat.le_trans (Nat.le_max_left _ _) (Nat.le_max_right _ _)
    have c3 : hw b ≤ max (len (c e n r) + len b) (max (hw (c e n r)) (hw b)) := Nat.le_trans (Nat.le_max_right _ _) (Nat.le_max_right _ _)
    generalize max (len (c e n r) + len b) (max (hw (c e n r)) (hw b)) = R at c1 c2 c3 ⊢
    rw [hw_c, len_app']
    refine Nat.max_le.mpr ⟨by (clear ih b1 b2 c2 c3; omega), Nat.max_le.mpr ⟨Nat.le_trans b1 c2, Nat.le_trans ih (Nat.max_le.mpr ⟨by (clear ih b1 b2 c2 c3; omega), Nat.max_le.mpr ⟨Nat.le_trans b2 c2, c3⟩⟩)⟩⟩
theorem hw_filt (p : O → Int → Bool) : ∀ a : O, hw (filt p a) ≤ hw a
  | z => Nat.le_refl _
  | c e n r => by
    have ih := hw_filt p r
    have h := len_filt' p r
    rw [filt_c]
    split
    · rw [hw_c, hw_c]; omega
    · rw [hw_c]; (clear h; omega)
theorem hw_plus (a b : O) : hw (plusO a b) ≤ hw a + hw b := by
  cases b with
  | z => show hw a ≤ _; omega
  | c e n r =>
    rw [plus_c]
    have h1 := hw_app (filt (fun x _ => decide (0 < cmp x e)) a) (c e (same e a + n) r)
    have h2 := hw_filt (fun x _ => decide (0 < cmp x e)) a
    have h3 := len_filt' (fun x _ => decide (0 < cmp x e)) a
    have h4 := len_le_hw a
    have h5 := len_le_hw (c e n r)
    have e1 : hw (c e (same e a + n) r) = hw (c e n r) := rfl
    have e2 : len (c e (same e a + n) r) = len (c e n r) := rfl
    rw [e1, e2] at h1
    exact Nat.le_trans h1 (Nat.max_le.mpr ⟨by (clear h1 h2; omega), Nat.max_le.mpr ⟨by (clear h1 h3 h4 h5 e2; omega), by (clear h1 h3 h4 h5 e1 e2; omega)⟩⟩)
theorem mx_plus {a b : O} (ha : NF a) : mx (plusO a b) ≤ mx a + mx b := by
  have h0 := mx_nonneg a
  cases b with
  | z => show mx a ≤ mx a + 0; (clear ha h0; omega)
  | c e n r =>
    rw [plus_c, mx_app, mx_c, mx_c]
    have h2 := mx_filt (fun x _ => decide (0 < cmp x e)) a
    have h3 := same_le_mx e ha
    have h4 := mx_nonneg e
    have h5 := mx_nonneg r
    (clear ha h4; omega)
end O
end Nm
namespace Nm
namespace O
noncomputable def lessO : O → O
  | z => z
  | c e n z => if n = 1 then z else c e (n - 1) z
  | c e n (c e' n' r') => c e n (lessO (c e' n' r'))
noncomputable def lastE : O → O
  | z => z
  | c e _ z => e
  | c _ _ (c e' n' r') => lastE (c e' n' r')
theorem app_z : ∀ a : O, app a z = a
  | z => rfl
  | c e n r => by show c e n (app r z) = _; rw [app_z r]
noncomputable def Lim (a : O) : Prop := a ≠ z ∧ same z a = 0
inductive Lad : O → Int → O → Prop where
  | suc {a : O} {n : Int} (h0 : a ≠ z) (h : lastE a = z) : Lad a n (lessO a)
  | lim {a : O} {n : Int} {o : O} (h0 : a ≠ z) (h : Lim (lastE a)) (k : Lad (lastE a) n o) : Lad a n (app (lessO a) (c o 1 z))
  | one {a : O} {n : Int} (h0 : a ≠ z) (h : lastE a ≠ z) (h' : ¬ Lim (lastE a)) : Lad a n (app (lessO a) (if n = 0 then z else c (lessO (lastE a)) n z))
end O
end Nm
namespace Nm
namespace O
theorem app_assoc : ∀ a b d : O, app (app a b) d = app a (app b d)
  | z, _, _ => rfl
  | c e k r, b, d => by show c e k (app (app r b) d) = c e k (app r (app b d)); rw [app_assoc r b d]
end O
end Nm
namespace Nm
namespace O
structure Rg (a b : O) (n : Int) : Prop where
  pos : 0 ≤ n
  pass : ∀ o, Lad a n o → cmp b o < 0
  least : 0 < n → ∀ o, Lad a (n - 1) o → ¬ cmp b o < 0
end O
end Nm
namespace Nm
namespace O
end O
end Nm
namespace Nm
namespace O
theorem len_take : ∀ (i : Nat) (a : O), (takeO i a).len ≤ a.len
  | 0, a => Nat.zero_le _
  | _ + 1, z => Nat.le_refl _
  | i + 1, c e n r => by have := len_take i r; simp only [takeO, len]; omega
end O
end Nm
namespace Nm
namespace O
noncomputable def wh (m : Int) : O := if m = 0 then z else c z m z
theorem wh_0 : wh 0 = z := rfl
theorem wh_pos {m : Int} (h : 0 < m) : wh m = c z m z := by unfold wh; rw [if_neg (by omega)]
end O
end Nm
namespace Nm
namespace O
noncomputable abbrev one : O := c z 1 z
theorem NF.one : NF one := ⟨trivial, by omega, trivial, trivial⟩
noncomputable abbrev lim (b : O) : O := filt (fun y _ => decide (¬ y = z)) b
end O
end Nm
namespace Nm
namespace O
section
variable {x : O} {n m : Int}
end
end O
end Nm
namespace Nm
namespace O
noncomputable abbrev w1 : O := c one 1 z
theorem same_lim (x b : O) : same x (lim b) = if x = z then 0 else same x b := by
  show same x (filt (fun y _ => decide (¬ y = z)) b) = _
  rw [same_filt (fun y => decide (¬ y = z))]
  by_cases h : x = z
  · rw [if_pos h, if_neg (by simpa using h)]
  · rw [if_neg h, if_pos (by simpa using h)]
end O
end Nm
namespace Nm
namespace O
end O
end Nm
namespace Nm
namespace O
noncomputable def ot : O → Int
  | z => 0
  | c _ n r => max n (ot r)
end O
end Nm
namespace Nm
namespace O
end O
end Nm
namespace Nm
namespace O
noncomputable def val (b : Nat) : O → Nat
  | z => 0
  | c e n r => n.toNat * b ^ val b e + val b r
structure Wr (b : Nat) (a : O) : Prop where
  nf : NF a
  mx : O.mx a < b
end O
end Nm
namespace Nm
namespace O
noncomputable def tp (b : Nat) : O → Nat
  | z => 0
  | c e _ _ => val b e + 1
end O
end Nm
namespace Nm
namespace O
open Classical in
noncomputable def rep (b s : Nat) : O := if h : ∃ o, Wr b o ∧ val b o = s then choose h else z
noncomputable def tl (b : Nat) : Nat → O
  | 0 => z
  | s + 1 => c (rep b s) ((b : Int) - 1) (tl b s)
noncomputable def dn (b : Nat) (a : O) : O := app (lessO a) (tl b (val b (lastE a)))
end O
end Nm
namespace Nm
namespace O
inductive Wy (b : Nat) : O → Prop where
  | z : Wy b z
  | c {a : O} (h0 : a ≠ O.z) (nf : NF a) (w : Wr b (lessO a)) (k : Wy b (lastE a)) : Wy b a
end O
end Nm
namespace Nm
namespace O
end O
end Nm
namespace Nm
namespace O
noncomputable def xb (b : Nat) : Nat := if b * b ≤ 55 then b else 54 / b + 1
noncomputable def topO (b : Nat) : O := if b < 56 then c (c z 1 z) (xb b : Int) z else c z 55 z
structure Rw (b k : Nat) (a : O) : Prop where
  wr : Wr (b + k) a
  top : Lt (topO b) a
  tp : O.tp (b + k) a ≤ 200
end O
end Nm
namespace Nm
namespace O
structure Hi (b : Nat) (a p e : O) (n : Int) : Prop where
  app : a = O.app p (c e n z)
  wp : Wr b p
  we : Wr b e
  n1 : 1 ≤ n
  n2 : n < b
  last : lastE a = e
  div : ∃ q, val b p = q * b ^ (val b e + 1)
  lt : p ≠ z → cmp e (lastE p) < 0
  dp : p.dp ≤ a.dp
  de : e.dp < a.dp
  top : ∀ x, Lt x a → Lt x p
end O
end Nm
namespace Nm
namespace O
end O
end Nm
namespace Nm
inductive Tr where
  | z
  | c (b r : Tr)
namespace Tr
noncomputable def pts : Tr → Nat
  | z => 1
  | c b r => pts b + pts r
noncomputable def dp : Tr → Nat
  | z => 0
  | c b r => max (dp b + 1) (dp r)
noncomputable def len : Tr → Nat
  | z => 0
  | c _ r => len r + 1
noncomputable def ofL : List Tr → Tr
  | [] => z
  | b :: l => c b (ofL l)
noncomputable def sm (f : Nat → Nat) : Nat → Nat
  | 0 => 0
  | n + 1 => sm f n + f n
structure Hang (n M : Nat) (ch : Nat → List Nat) (ds : Nat → Nat) : Prop where
  pos : 1 ≤ n
  d0 : ds 0 = 0
  in_ : ∀ v, v < n → ∀ j, j ∈ ch v → v < j ∧ j < n ∧ ds j = ds v + 1
  dp : ∀ v, v < n → ds v ≤ M
  sum : ∀ f : Nat → Nat, sm (fun v => ((ch v).map f).sum) n + f 0 = sm f n
  len : ∀ v, v < n → (ch v).length ≤ n
structure Grown (n M k : Nat) (ch : Nat → List Nat) (ds : Nat → Nat) (t : Nat → Tr) : Prop where
  pts : ∀ v, k ≤ v → v < n → Tr.pts (t v) = 1 + ((ch v).map fun j => Tr.pts (t j)).sum
  dp : ∀ v, k ≤ v → v < n → Tr.dp (t v) + ds v ≤ M
end Tr
end Nm
namespace Nm
namespace Tr
open O
noncomputable def nO : Tr → O
  | z => .z
  | c b r => mergeO (.c (nO b) 1 .z) (nO r)
noncomputable def app : Tr → Tr → Tr
  | z, u => u
  | c b r, u => c b (app r u)
noncomputable def getT : Tr → Nat → Option Tr
  | z, _ => none
  | c b _, 0 => some b
  | c _ r, i + 1 => getT r i
noncomputable def setT : Tr → Nat → Tr → Tr
  | z, _, _ => z
  | c _ r, 0, u => app u r
  | c b r, i + 1, u => c b (setT r i u)
noncomputable def reps (b : Tr) : Nat → Tr
  | 0 => z
  | n + 1 => c b (reps b n)
noncomputable def cutT (m : Nat) : Tr → List Nat → Tr
  | t, [] => t
  | t, [i] => setT t i z
  | t, [i, j] => match getT t i with
    | some b => setT t i (reps (setT b j z) (1 + m))
    | none => t
  | t, i :: j :: k :: w => match getT t i with
    | some b => setT t i (c (cutT m b (j :: k :: w)) z)
    | none => t
end Tr
end Nm
namespace Nm
namespace Tr
open O
end Tr
end Nm
namespace Nm
namespace Tr
open O
end Tr
end Nm
namespace Nm
namespace Tr
end Tr
end Nm
namespace Nm
namespace Tr
open O
end Tr
end Nm
namespace Nm
namespace Tr
noncomputable def isz : Tr → Bool
  | z => true
  | c _ _ => false
noncomputable def bare : Tr → Nat
  | z => 0
  | c b r => (if isz b = true then 1 else bare b) + bare r
noncomputable def ahead : List Nat → List Nat → Bool
  | [], [] => false
  | [], _ :: _ => true
  | _ :: _, [] => false
  | x :: u, y :: v => if x = y then ahead u v else decide (x < y)
end Tr
end Nm
namespace Nm
namespace O
inductive Ru (n : Int) : O → O → Prop
  | less {a : O} : a ≠ .z → lastE a = .z → Ru n a (lessO a)
  | succ {a : O} : a ≠ .z → lastE a ≠ .z → lastE (lastE a) = .z → Ru n a (O.app (lessO a) (.c (lessO (lastE a)) n .z))
  | lim {a o : O} : a ≠ .z → lastE a ≠ .z → lastE (lastE a) ≠ .z → Ru n (lastE a) o → Ru n a (O.app (lessO a) (.c o 1 .z))
end O
namespace Tr
open O
noncomputable def LeastAt (t : Tr) (i : Nat) (b : Tr) : Prop := getT t i = some b ∧ ∀ j d, getT t j = some d → (j ≤ i → 0 ≤ cmp (nO d) (nO b)) ∧ (i < j → 0 < cmp (nO d) (nO b))
noncomputable def Lst : Tr → List Nat → Prop
  | t, [] => t = z
  | t, i :: w => ∃ b, LeastAt t i b ∧ Lst b w
end Tr
end Nm
namespace Nm
namespace O
end O
end Nm
namespace Nm
namespace O
structure Bd (d s : Nat) (m : Int) (o : O) : Prop where
  nf : o.NF
  dp : o.dp ≤ d
  sz : o.size ≤ s
  mx : O.mx o ≤ m
end O
end Nm
namespace Nm
namespace O
end O
end Nm
namespace Nm
namespace O
end O
end Nm
namespace Nm
namespace O
theorem len_app : ∀ a b : O, (app a b).len = a.len + b.len
  | z, b => by simp [app, len]
  | c e n r, b => by
    have := len_app r b
    show (app r b).len + 1 = r.len + 1 + b.len
    omega
end O
end Nm
namespace Nm
namespace O
end O
end Nm
namespace Nm
namespace O
noncomputable def e1 : O := c z 1 z
inductive Far (B k l : Nat) : Prop
  | two : B = 2 → k = 16 → l < 2 → Far B k l
  | three : B = 3 → k = 27 → l < 3 → Far B k l
end O
end Nm
namespace Nm
namespace O
end O
end Nm
namespace Nm
namespace O
inductive Dn (f : Nat → Int) (a : O) : List O → O → Prop where
  | one : Dn f a [a] a
  | step {os : List O} {b o : O} (h : Dn f a os b) (hb : b ≠ z) (l : Lad b (f (os.length - 1)) o) : Dn f a (os ++ [o]) o
end O
end Nm
namespace Nm
namespace Tr
instance decZ : (t : Tr) → Decidable (t = z)
  | z => .isTrue rfl
  | c _ _ => .isFalse (fun h => by cases h)
noncomputable def low : List Tr → Tr
  | [] => z
  | [t] => t
  | _ :: u :: l => low (u :: l)
noncomputable def step (ls : List Tr) (s : Nat) : Option (List Tr) :=
  if s = 40 ∧ low ls = z ∧ ls.length ≤ 41 then some (z :: ls)
  else if s = 41 then
    match ls with
    | t :: u :: l => some (u.app (c t z) :: l)
    | _ => none
  else none
structure Bg (ls : List Tr) : Prop where
  ne : ls ≠ []
  lo : low ls = z ∨ ∃ b, ls = [c b z]
  len : ls.length ≤ 42
noncomputable def rtS : List Nat → Bool → Int → Int → Option (Int × Int)
  | [], _, d, m => some (d, m)
  | s :: cs, f, d, m =>
    if ¬ (s = 40 ∨ s = 41) ∨ (f = false ∧ d = 0) then none
    else
      let d' := d + 1 - 2 * (if s = 41 then 1 else 0)
      if d' < 0 then none else rtS cs false d' (max m d')
noncomputable def rt (l : List Nat) : Bool := match rtS l true 0 0 with
  | none => false
  | some (d, m) => decide (l ≠ []) && decide (d = 0) && decide (l.length ≤ 1200) && decide (m ≤ 41)
end Tr
end Nm
namespace Nm
namespace Tr
open O
inductive Fel (f : Nat → Nat) (t : Tr) : List Tr → Tr → Prop
  | one : Fel f t [t] t
  | step {ts : List Tr} {u : Tr} {w : List Nat} (h : Fel f t ts u) (hz : u ≠ z) (hw : w ≠ []) (hl : Lst u w) (hp : pts (cutT (f (ts.length - 1)) u w) ≤ 60) : Fel f t (ts ++ [cutT (f (ts.length - 1)) u w]) (cutT (f (ts.length - 1)) u w)
section
variable {f : Nat → Nat} {t u : Tr} {ts : List Tr}
end
end Tr
end Nm
namespace Nm
set_option linter.all false
section
variable {α : Type} [DecidableEq α] {β : Type}
noncomputable def gT (t : List (α × β)) (k : α) : Option β := (t.find? fun p => decide (p.1 = k)).map (·.2)
noncomputable abbrev Tab (α : Type) := List (α × List α)
noncomputable def oth (T : Tab α) (k : α) : List α := (gT T k).getD []
noncomputable def mxs (R : List (α × Nat)) : List α → Option Nat
  | [] => some 0
  | o :: l => match gT R o, mxs R l with
    | some x, some y => some (max (x + 1) y)
    | _, _ => none
noncomputable def Cl (T : Tab α) (R : List (α × Nat)) : Prop := ∀ k r, gT R k = some r → mxs R (oth T k) = some r
noncomputable def Kind (T : Tab α) (k : α) : Prop := k ∈ T.map (·.1) ∨ ∃ e, e ∈ T ∧ k ∈ e.2
structure RankOk (T : Tab α) (R : List (α × Nat)) : Prop where
  nd : (R.map (·.1)).Nodup
  cl : Cl T R
  ks : ∀ k, k ∈ R.map (·.1) ↔ Kind T k
end
end Nm
namespace Nm
open O
mutual
inductive Rw (α : Type) where
  | set (b : α) (n : Int)
  | copy (b o : α)
  | add (b o : α)
  | less (b : α)
  | times (b : α) (rs : Rws α)
  | count (rs : Rws α) (n : Int)
inductive Rws (α : Type) where
  | nil
  | cons (r : Rw α) (rs : Rws α)
end
section
variable {α : Type}
mutual
noncomputable def Rw.hb : Rw α → Nat
  | .times _ rs => rs.hb + 2
  | .count rs _ => rs.hb + 3
  | _ => 1
noncomputable def Rws.hb : Rws α → Nat
  | .nil => 0
  | .cons r rs => rs.hb + r.hb
end
mutual
noncomputable def Rw.mb : Rw α → Nat
  | .times _ rs => (rs.mb + 2) * 2
  | .count rs n => (rs.mb + 2) * (n.toNat + 1) + 1
  | _ => 1
noncomputable def Rws.mb : Rws α → Nat
  | .nil => 0
  | .cons r rs => rs.mb + r.mb
end
mutual
noncomputable def Rw.lb : Rw α → Nat
  | .count rs _ => rs.lb + 2
  | _ => 1
noncomputable def Rws.lb : Rws α → Nat
  | .nil => 0
  | .cons r rs => rs.lb + r.lb
end
mutual
noncomputable def Rw.nn : Rw α → Prop
  | .times _ rs => rs.nn
  | .count rs n => rs.nn ∧ 0 ≤ n
  | _ => True
noncomputable def Rws.nn : Rws α → Prop
  | .nil => True
  | .cons r rs => r.nn ∧ rs.nn
end
mutual
noncomputable def Rw.dt : Rw α → Nat
  | .times _ rs => rs.dt + 1
  | .count rs _ => rs.dt + 1
  | _ => 0
noncomputable def Rws.dt : Rws α → Nat
  | .nil => 0
  | .cons r rs => max r.dt rs.dt
end
noncomputable def Rws.L : Rws α → List (Rw α)
  | .nil => []
  | .cons r rs => r :: rs.L
noncomputable def Rws.of : List (Rw α) → Rws α
  | [] => .nil
  | r :: rs => .cons r (Rws.of rs)
structure Wb (o : O) (h m l : Nat) : Prop where
  nf : o.NF
  dp : o.dp ≤ 3
  hw : O.hw o ≤ h
  mx : O.mx o ≤ m
  ln : o.len ≤ l
end
end Nm
namespace Nm
open O
noncomputable def rk (os : List O) (o : O) : Nat := (os.filter fun x => decide (cmp x o < 0)).length
theorem filter_le {α : Type} {p q : α → Bool} : ∀ {l : List α}, (∀ x, x ∈ l → p x = true → q x = true) → (l.filter p).length ≤ (l.filter q).length
  | [], _ => Nat.le_refl _
  | x :: l, h => by
    have ih := filter_le (p := p) (q := q) (l := l) fun y hy => h y (List.mem_cons_of_mem _ hy)
    have hx := h x List.mem_cons_self
    rw [List.filter_cons, List.filter_cons]
    by_cases e : p x = true
    · rw [if_pos e, if_pos (hx e)]
      simp only [List.length_cons]
      (clear h hx e; omega)
    · rw [if_neg e]
      split
      · simp only [List.length_cons]; (clear h hx e; omega)
      · exact ih
theorem filter_lt {α : Type} {p q : α → Bool} : ∀ {l : List α} {a : α}, a ∈ l → p a = false → q a = true → (∀ x, x ∈ l → p x = true → q x = true) → (l.filter p).length < (l.filter q).length
  | x :: l, a, ha, h1, h2, h => by
    rw [List.filter_cons, List.filter_cons]
    rcases List.mem_cons.mp ha with rfl | ha
    · have ih := filter_le (p := p) (q := q) (l := l) fun y hy => h y (List.mem_cons_of_mem _ hy)
      rw [if_neg (by rw [h1]; exact Bool.false_ne_true), if_pos h2]
      simp only [List.length_cons]
      (clear h1 h2 ha h; omega)
    · have ih := filter_lt (p := p) (q := q) ha h1 h2 fun y hy => h y (List.mem_cons_of_mem _ hy)
      have hx := h x List.mem_cons_self
      by_cases e : p x = true
      · rw [if_pos e, if_pos (hx e)]
        simp only [List.length_cons]
        (clear h1 h2 h ha hx e; omega)
      · rw [if_neg e]
        split
        · simp only [List.length_cons]; (clear h1 h2 h ha hx e; omega)
        · exact ih
theorem rk_lt {os : List O} {a b : O} (ha : a ∈ os) (h : cmp a b < 0) : rk os a < rk os b := by
  unfold rk
  refine filter_lt ha ?_ (decide_eq_true h) fun x _ hx => ?_
  · rw [cmp_self]; rfl
  · exact decide_eq_true (cmp_trans x a b (of_decide_eq_true hx) h)
theorem rk_iff {os : List O} {a b : O} (ha : a ∈ os) (hb : b ∈ os) : rk os a < rk os b ↔ cmp a b < 0 := by
  constructor
  · intro h
    rcases cmp_range a b with e | e | e
    · (clear ha hb h; omega)
    · rw [cmp_eq a b e] at h; (clear ha hb e; omega)
    · have : cmp b a < 0 := by rw [cmp_swap]; (clear ha hb h; omega)
      have := rk_lt hb this
      (clear ha hb e; omega)
  · exact rk_lt ha
theorem rk_inj {os : List O} {a b : O} (ha : a ∈ os) (hb : b ∈ os) (h : rk os a = rk os b) : a = b := by
  rcases cmp_range a b with e | e | e
  · have := rk_lt ha (show cmp a b < 0 by (clear ha hb h; omega)); (clear ha hb e; omega)
  · exact cmp_eq a b e
  · have := rk_lt hb (show cmp b a < 0 by rw [cmp_swap]; (clear ha hb h; omega)); (clear ha hb e; omega)
noncomputable def Desc (l : List O) : Prop := l.Pairwise fun a b => cmp b a < 0
end Nm
namespace Nm
open O
mutual
inductive Rq (α : Type) where
  | set (b : α) (n : Int)
  | copy (b o : α)
  | add (b o : α)
  | less (b : α)
  | times (b : α) (rs : Rqs α)
  | count (rs : Rqs α) (n : Int)
  | whl (b : α) (hs : List (O × List α)) (rs : Rqs α)
  | bear (b : α) (hs : List (O × List α)) (rs : Rqs α) (o : O)
inductive Rqs (α : Type) where
  | nil
  | cons (r : Rq α) (rs : Rqs α)
end
section
variable {α : Type}
noncomputable def hgt : List (O × List α) → O
  | [] => .z
  | p :: _ => O.plusO p.1 (O.wh 1)
noncomputable def hpw (hs : List (O × List α)) : O := .c (hgt hs) 1 .z
mutual
noncomputable def Rq.hb : Rq α → Nat
  | .times _ rs => rs.hb + 2
  | .count rs _ => rs.hb + 3
  | .whl _ hs rs => rs.hb + hw (hpw hs) + 2
  | .bear _ _ rs o => rs.hb + hw o + 2
  | _ => 1
noncomputable def Rqs.hb : Rqs α → Nat
  | .nil => 0
  | .cons r rs => rs.hb + r.hb
end
mutual
noncomputable def Rq.mb : Rq α → Nat
  | .times _ rs => (rs.mb + 2) * 2
  | .count rs n => (rs.mb + 2) * (n.toNat + 1) + 1
  | .whl _ hs rs => (rs.mb + 3) * ((mx (hpw hs)).toNat + 1) + 1
  | .bear _ _ rs o => (rs.mb + 3) * ((mx o).toNat + 1) + 1
  | _ => 1
noncomputable def Rqs.mb : Rqs α → Nat
  | .nil => 0
  | .cons r rs => rs.mb + r.mb
end
mutual
noncomputable def Rq.lb : Rq α → Nat
  | .count rs _ => rs.lb + 2
  | .whl _ hs rs => match hs with
    | [] => rs.lb + 2
    | _ :: _ => 2
  | .bear _ _ rs o => rs.lb + 1 + o.len + 1
  | _ => 1
noncomputable def Rqs.lb : Rqs α → Nat
  | .nil => 0
  | .cons r rs => rs.lb + r.lb
end
noncomputable def Eok (d : Nat) (hs : List (O × List α)) : Prop := ∀ p, p ∈ hs → p.1.NF ∧ p.1.dp ≤ d ∧ O.hw p.1 ≤ 100
mutual
noncomputable def Rq.nn : Rq α → Prop
  | .times _ rs => rs.nn
  | .count rs n => rs.nn ∧ 0 ≤ n
  | .whl _ hs rs => rs.nn ∧ Eok 3 hs
  | .bear _ hs rs o => rs.nn ∧ Eok 3 hs ∧ o.NF ∧ o.dp ≤ 4
  | _ => True
noncomputable def Rqs.nn : Rqs α → Prop
  | .nil => True
  | .cons r rs => r.nn ∧ rs.nn
end
mutual
noncomputable def Rq.dt : Rq α → Nat
  | .times _ rs => rs.dt + 1
  | .count rs _ => rs.dt + 1
  | .whl _ _ rs => rs.dt + 1
  | .bear _ _ rs _ => rs.dt + 1
  | _ => 0
noncomputable def Rqs.dt : Rqs α → Nat
  | .nil => 0
  | .cons r rs => max r.dt rs.dt
end
noncomputable def Rqs.L : Rqs α → List (Rq α)
  | .nil => []
  | .cons r rs => r :: rs.L
noncomputable def Rqs.of : List (Rq α) → Rqs α
  | [] => .nil
  | r :: rs => .cons r (Rqs.of rs)
structure Wq (o : O) (h m l : Nat) : Prop where
  nf : o.NF
  dp : o.dp ≤ 4
  hw : O.hw o ≤ h
  mx : O.mx o ≤ m
  ln : o.len ≤ l
end
end Nm
namespace Nm
noncomputable abbrev PJ := Int × Int
end Nm
namespace Nm
open O
structure Tp (t : O) : Prop where
  nf : NF t
  ne : t ≠ z
  dp : t.dp ≤ 2
  hw : hw t ≤ 1
  mx : mx t ≤ 2
structure Pr (p : PJ) : Prop where
  a0 : 0 ≤ p.1
  a1 : p.1 ≤ 3
  b0 : 0 ≤ p.2
  b1 : p.2 ≤ 10 ^ 12
theorem z_lt {t : O} (h : t ≠ z) : cmp z t < 0 := by
  cases t with
  | z => exact absurd rfl h
  | c _ _ _ => simp [cmp]
theorem wh_more {m : Int} (h : 0 ≤ m) : (wh m).dp ≤ 1 ∧ hw (wh m) ≤ 1 ∧ mx (wh m) ≤ m ∧ (wh m).len ≤ 1 := by
  unfold wh
  split
  · simp [O.dp, hw, mx, O.len]; assumption
  · refine ⟨by simp [O.dp], by simp [hw, O.len], ?_, by simp [O.len]⟩
    rw [mx_c]; simp only [mx]; omega
structure Lim (D H : Nat) (M : Int) (o : O) : Prop where
  nf : NF o
  dp : o.dp ≤ D
  hw : hw o ≤ H
  mx : mx o ≤ M
end Nm
namespace Nm
open O
noncomputable def wsum (h : O → Int) : O → Int
  | z => 0
  | c e n r => n * h e + wsum h r
noncomputable def dl (x : O) (e : O) : Int := if e = x then 1 else 0
theorem same_wsum (x : O) : ∀ a : O, same x a = wsum (dl x) a
  | z => rfl
  | c e n r => by
    rw [same_c, same_wsum x r]
    show _ = n * dl x e + wsum (dl x) r
    by_cases h : e = x
    · rw [if_pos h, show dl x e = 1 from if_pos h, Int.mul_one]
    · rw [if_neg h, show dl x e = 0 from if_neg h, Int.mul_zero]
noncomputable def EAll (P : O → Prop) : O → Prop
  | z => True
  | c e _ r => P e ∧ EAll P r
theorem EAll.mono {P Q : O → Prop} (h : ∀ e, P e → Q e) : ∀ {a : O}, EAll P a → EAll Q a
  | z, _ => trivial
  | c _ _ _, q => ⟨h _ q.1, q.2.mono h⟩
theorem EAll.both {P Q : O → Prop} : ∀ {a : O}, EAll P a → EAll Q a → EAll (fun e => P e ∧ Q e) a
  | z, _, _ => trivial
  | c _ _ _, p, q => ⟨⟨p.1, q.1⟩, p.2.both q.2⟩
theorem O.NF.exps : ∀ {a : O}, NF a → EAll NF a
  | z, _ => trivial
  | c _ _ _, h => ⟨h.1, O.NF.exps h.2.2.2⟩
theorem wsum_congr {f g : O → Int} {P : O → Prop} (h : ∀ e, P e → f e = g e) : ∀ {a : O}, EAll P a → wsum f a = wsum g a
  | z, _ => rfl
  | c e n r, q => by unfold wsum; rw [h e q.1, wsum_congr h q.2]
theorem wsum_zero {f : O → Int} {P : O → Prop} (h : ∀ e, P e → f e = 0) : ∀ {a : O}, EAll P a → wsum f a = 0
  | z, _ => rfl
  | c e n r, q => by unfold wsum; rw [h e q.1, wsum_zero h q.2]; simp
theorem wsum_add (f g : O → Int) : ∀ a : O, wsum (fun e => f e + g e) a = wsum f a + wsum g a
  | z => rfl
  | c e n r => by unfold wsum; rw [wsum_add f g r, Int.mul_add]; omega
theorem wsum_mul (k : Int) (f : O → Int) : ∀ a : O, wsum (fun e => k * f e) a = k * wsum f a
  | z => (Int.mul_zero k).symm
  | c e n r => by unfold wsum; rw [wsum_mul k f r, Int.mul_add, ← Int.mul_assoc, ← Int.mul_assoc, Int.mul_comm n k]
theorem wsum_swap (g : O → O → Int) (b : O) : ∀ a : O, wsum (fun e => wsum (fun f => g e f) b) a = wsum (fun f => wsum (fun e => g e f) a) b
  | z => by
    show (0 : Int) = wsum (fun _ => 0) b
    exact (wsum_zero (P := fun _ => True) (fun _ _ => rfl) (a := b) (by induction b with | z => trivial | c e n r _ ih => exact ⟨trivial, ih⟩)).symm
  | c e n r => by
    have : wsum (fun f => wsum (fun e => g e f) (c e n r)) b = wsum (fun f => n * g e f + wsum (fun e => g e f) r) b := rfl
    rw [this, wsum_add, wsum_mul, ← wsum_swap g b r]
    rfl
theorem wsum_merge' (h : O → Int) : ∀ (k : Nat) (a b : O), a.len + b.len ≤ k → wsum h (mergeO a b) = wsum h a + wsum h b
  | _, z, b, _ => by rw [z_merge]; exact (Int.zero_add _).symm
  | _, c e n r, z, _ => by rw [merge_z]; exact (Int.add_zero _).symm
  | 0, c e n r, c _ _ _, hk => by simp [O.len] at hk
  | k + 1, c e n r, c e' n' r', hk => by
    rw [merge_c]
    simp only [O.len] at hk
    by_cases h1 : 0 < cmp e e'
    · rw [if_pos h1]
      have := wsum_merge' h k r (c e' n' r') (by simp only [O.len]; (clear h1; omega))
      simp only [wsum] at this ⊢
      rw [this]; (clear hk h1 this; omega)
    · rw [if_neg h1]
      by_cases h2 : cmp e e' < 0
      · rw [if_pos h2]
        have := wsum_merge' h k (c e n r) r' (by simp only [O.len]; (clear h1 h2; omega))
        simp only [wsum] at this ⊢
        rw [this]; (clear hk h1 h2 this; omega)
      · rw [if_neg h2]
        have := wsum_merge' h k r r' (by (clear h1 h2; omega))
        have e0 : e = e' := cmp_eq e e' (by (clear hk this; omega))
        subst e0
        simp only [wsum]
        rw [this, Int.add_mul]; (clear hk this h1 h2; omega)
theorem wsum_merge (h : O → Int) (a b : O) : wsum h (mergeO a b) = wsum h a + wsum h b := wsum_merge' h _ a b (Nat.le_refl _)
noncomputable def putP (a e : O) (n : Int) : O := mergeO a (c e n z)
theorem putP_nf {a e : O} {n : Int} (ha : NF a) (he : NF e) (hn : 1 ≤ n) : NF (putP a e n) := ha.merge ⟨he, hn, trivial, trivial⟩
theorem wsum_put (h : O → Int) (a e : O) (n : Int) : wsum h (putP a e n) = wsum h a + n * h e := by
  unfold putP
  rw [wsum_merge]
  simp [wsum]
noncomputable def wv1 (e : O) (n : Int) : O → O
  | z => z
  | c f d r => putP (wv1 e n r) (mergeO e f) (n * d)
noncomputable def wov : O → O → O
  | z, _ => z
  | c e n r, b => mergeO (wv1 e n b) (wov r b)
theorem wsum_wv1 (h : O → Int) (e : O) (n : Int) : ∀ b : O, wsum h (wv1 e n b) = n * wsum (fun f => h (mergeO e f)) b
  | z => (Int.mul_zero n).symm
  | c f d r => by
    unfold wv1
    rw [wsum_put, wsum_wv1 h e n r]
    simp only [wsum]
    rw [Int.mul_add, Int.mul_assoc]; omega
theorem wsum_wov (h : O → Int) (b : O) : ∀ a : O, wsum h (wov a b) = wsum (fun e => wsum (fun f => h (mergeO e f)) b) a
  | z => rfl
  | c e n r => by
    unfold wov
    rw [wsum_merge, wsum_wv1, wsum_wov h b r]
    rfl
theorem mul_one_le {n d : Int} (h1 : 1 ≤ n) (h2 : 1 ≤ d) : 1 ≤ n * d := by
  have := Int.mul_le_mul h1 h2 (by (clear h1 h2; omega)) (by (clear h2; omega))
  assumption
theorem wv1_nf {e : O} {n : Int} (he : NF e) (hn : 1 ≤ n) : ∀ {b : O}, NF b → NF (wv1 e n b)
  | z, _ => trivial
  | c f d r, h => putP_nf (wv1_nf he hn h.2.2.2) (he.merge h.1) (mul_one_le hn h.2.1)
theorem wov_nf {b : O} (hb : NF b) : ∀ {a : O}, NF a → NF (wov a b)
  | z, _ => trivial
  | c e n r, h => (wv1_nf h.1 h.2.1 hb).merge (wov_nf hb h.2.2.2)
theorem same_wov (x a b : O) : same x (wov a b) = wsum (fun e => wsum (fun f => dl x (mergeO e f)) b) a := by rw [same_wsum, wsum_wov]
theorem wov_comm {a b : O} (ha : NF a) (hb : NF b) : wov a b = wov b a := same_ext (wov_nf hb ha) (wov_nf ha hb) fun x => by
  rw [same_wov, same_wov, wsum_swap]
  exact wsum_congr (P := NF) (fun f hf => wsum_congr (P := NF) (fun e he => by rw [merge_comm he hf]) ha.exps) hb.exps
theorem wov_assoc {a b d : O} (ha : NF a) (hb : NF b) (hd : NF d) : wov (wov a b) d = wov a (wov b d) := same_ext (wov_nf hd (wov_nf hb ha)) (wov_nf (wov_nf hd hb) ha) fun x => by
  rw [same_wov, same_wov, wsum_wov]
  refine wsum_congr (P := NF) (fun e he => ?_) ha.exps
  rw [wsum_wov]
  exact wsum_congr (P := NF) (fun f hf => wsum_congr (P := NF) (fun g hg => by rw [merge_assoc he hf hg]) hd.exps) hb.exps
theorem wov_merge {a b d : O} (ha : NF a) (hb : NF b) (hd : NF d) : wov a (mergeO b d) = mergeO (wov a b) (wov a d) := same_ext (wov_nf (hb.merge hd) ha) ((wov_nf hb ha).merge (wov_nf hd ha)) fun x => by
  rw [same_merged, same_wov, same_wov, same_wov, ← wsum_add]
  exact wsum_congr (P := NF) (fun e _ => wsum_merge _ b d) ha.exps
theorem wov_one {a : O} (ha : NF a) : wov a one = a := same_ext (wov_nf NF.one ha) ha fun x => by
  rw [same_wov, same_wsum]
  refine wsum_congr (P := NF) (fun e _ => ?_) ha.exps
  show 1 * dl x (mergeO e z) + 0 = _
  rw [merge_z]; (clear ha; omega)
theorem wov_z (a : O) : wov a z = z := by
  induction a with
  | z => rfl
  | c e n r _ ih => show mergeO z (wov r z) = z; rw [ih, z_merge]
theorem wov_single (e f : O) (n d : Int) : wov (c e n z) (c f d z) = c (mergeO e f) (n * d) z := by
  show mergeO (putP z (mergeO e f) (n * d)) z = _
  rw [merge_z]
  unfold putP
  rw [z_merge]
theorem same_pos_nf {x : O} : ∀ {a : O}, NF a → same x a ≠ 0 → NF x
  | z, _, h => absurd rfl h
  | c e n r, ha, h => by
    by_cases k : e = x
    · rw [← k]; exact ha.1
    · rw [same_ne k] at h; exact same_pos_nf ha.2.2.2 h
theorem same_nn (x : O) : ∀ {a : O}, NF a → 0 ≤ same x a
  | z, _ => Int.le_refl _
  | c e n r, ha => by
    have := same_nn x ha.2.2.2
    have h1 := ha.2.1
    rw [same_c]
    split <;> (clear ha; omega)
theorem merge_inj {e f g : O} (he : NF e) (hf : NF f) (hg : NF g) (h : mergeO e f = mergeO e g) : f = g := by
  have := cmp_merge he hf hg
  rw [h, cmp_self] at this
  exact cmp_eq f g this.symm
theorem line (x e b : O) (he : NF e) (hb : NF b) : (∃ f, NF f ∧ mergeO e f = x ∧ wsum (fun f => dl x (mergeO e f)) b = same f b) ∨ ((∀ f, NF f → mergeO e f ≠ x) ∧ wsum (fun f => dl x (mergeO e f)) b = 0) := by
  by_cases h : ∃ f, NF f ∧ mergeO e f = x
  · obtain ⟨f, hf, hx⟩ := h
    refine .inl ⟨f, hf, hx, ?_⟩
    rw [same_wsum]
    refine wsum_congr (P := NF) (fun g hg => ?_) hb.exps
    unfold dl
    by_cases k : g = f
    · rw [k, if_pos hx, if_pos rfl]
    · rw [if_neg k, if_neg fun z => k (merge_inj he hg hf (z.trans hx.symm))]
  · refine .inr ⟨fun f hf k => h ⟨f, hf, k⟩, ?_⟩
    refine wsum_zero (P := NF) (fun g hg => ?_) hb.exps
    unfold dl
    rw [if_neg fun k => h ⟨g, hg, k⟩]
theorem merge_le {e e' f f' : O} (he : NF e) (he' : NF e') (hf : NF f) (hf' : NF f') (h1 : cmp e e' ≤ 0) (h2 : cmp f f' ≤ 0) : cmp (mergeO e f) (mergeO e' f') ≤ 0 := by
  have a1 : cmp (mergeO e f) (mergeO e f') ≤ 0 := by rw [cmp_merge he hf hf']; exact h2
  have a2 : cmp (mergeO e f') (mergeO e' f') ≤ 0 := by rw [merge_comm he hf', merge_comm he' hf', cmp_merge hf' he he']; exact h1
  by_cases k : cmp (mergeO e f) (mergeO e f') = 0
  · rw [cmp_eq _ _ k]; exact a2
  · by_cases l : cmp (mergeO e f') (mergeO e' f') = 0
    · rw [← cmp_eq _ _ l]; exact a1
    · have := cmp_trans _ _ _ (show cmp (mergeO e f) (mergeO e f') < 0 by (clear he he' hf hf' h1 h2; omega)) (show cmp (mergeO e f') (mergeO e' f') < 0 by (clear he he' hf hf' h1 h2 a1 k; omega))
      (clear he he' hf hf' h1 h2 a1 a2 k l; omega)
theorem merge_lt_le {e e' f f' : O} (he : NF e) (he' : NF e') (hf : NF f) (hf' : NF f') (h1 : cmp e e' < 0) (h2 : cmp f f' ≤ 0) : cmp (mergeO e f) (mergeO e' f') < 0 := by
  have a1 : cmp (mergeO e f) (mergeO e f') ≤ 0 := by rw [cmp_merge he hf hf']; exact h2
  have a2 : cmp (mergeO e f') (mergeO e' f') < 0 := by rw [merge_comm he hf', merge_comm he' hf', cmp_merge hf' he he']; exact h1
  by_cases k : cmp (mergeO e f) (mergeO e f') = 0
  · rw [cmp_eq _ _ k]; exact a2
  · exact cmp_trans _ _ _ (show cmp (mergeO e f) (mergeO e f') < 0 by (clear he he' hf hf' h1 h2 a2; omega)) a2
theorem O.Lt.exps {e : O} : ∀ {r : O}, Lt e r → EAll (fun x => cmp x e < 0) r
  | z, _ => trivial
  | c _ _ _, h => ⟨h.1, O.Lt.exps h.2⟩
theorem wov_lt {a b d : O} (ha : NF a) (h0 : a ≠ z) (hb : NF b) (hd : NF d) (h : cmp b d < 0) : cmp (wov a b) (wov a d) < 0 := by
  cases a with
  | z => exact absurd rfl h0
  | c e n r =>
    obtain ⟨y, hy, hab⟩ := first_of_lt hb hd h
    have hyn : NF y := same_pos_nf hd (by have := same_nn y hb; (clear hb hd h ha h0 hab; omega))
    have he := ha.1
    have line_eq : ∀ (e' x : O), NF e' → (∀ f, NF f → mergeO e' f = x → 0 < cmp f y) → wsum (fun f => dl x (mergeO e' f)) b = wsum (fun f => dl x (mergeO e' f)) d := fun e' x he' hx => by
      rcases line x e' b he' hb with ⟨f, hf, k1, k2⟩ | ⟨k1, k2⟩
      · rcases line x e' d he' hd with ⟨g, hg, l1, l2⟩ | ⟨l1, l2⟩
        · have := merge_inj he' hf hg (k1.trans l1.symm)
          subst this
          rw [k2, l2, hab f (hx f hf k1)]
        · exact absurd k1 (l1 f hf)
      · rcases line x e' d he' hd with ⟨g, hg, l1, l2⟩ | ⟨l1, l2⟩
        · exact absurd l1 (k1 g hg)
        · rw [k2, l2]
    refine lt_of_first (x := mergeO e y) (wov_nf hb ha) (wov_nf hd ha) ?_ fun x hx => ?_
    · rw [same_wov, same_wov]
      have r1 : wsum (fun e' => wsum (fun f => dl (mergeO e y) (mergeO e' f)) b) r = wsum (fun e' => wsum (fun f => dl (mergeO e y) (mergeO e' f)) d) r := by
        refine wsum_congr (P := fun e' => NF e' ∧ cmp e' e < 0) (fun e' h' => line_eq e' _ h'.1 fun f hf k => ?_) (ha.2.2.2.exps.both (O.Lt.exps ha.2.2.1))
        rcases Int.lt_or_le 0 (cmp f y) with q | q
        · exact q
        · have := merge_lt_le h'.1 he hf hyn h'.2 q
          rw [k, cmp_self] at this; (clear hb hd h ha h0 hy hab hyn he line_eq h' hf k q; omega)
      have hd1 : ∀ t : O, NF t → wsum (fun f => dl (mergeO e y) (mergeO e f)) t = same y t := fun t ht => by
        rcases line (mergeO e y) e t he ht with ⟨f, hf, k1, k2⟩ | ⟨k1, _⟩
        · rw [k2, merge_inj he hf hyn k1]
        · exact absurd rfl (k1 y hyn)
      simp only [wsum] at r1 ⊢
      rw [r1, hd1 b hb, hd1 d hd]
      have := ha.2.1
      have h3 : n * same y b < n * same y d := by
        have := Int.mul_lt_mul_of_pos_left hy (show 0 < n by assumption)
        exact this
      (clear hb hd h ha h0 hy hab hyn he line_eq r1 hd1 this; omega)
    · rw [same_wov, same_wov]
      have key : ∀ e', NF e' → cmp e' e ≤ 0 → wsum (fun f => dl x (mergeO e' f)) b = wsum (fun f => dl x (mergeO e' f)) d := fun e' h1 h2 => line_eq e' x h1 fun f hf k => by
        rcases Int.lt_or_le 0 (cmp f y) with q | q
        · exact q
        · have := merge_le h1 he hf hyn h2 q
          rw [k] at this; (clear hb hd h ha h0 hy hab hyn he line_eq h1 h2 hf k q; omega)
      refine wsum_congr (P := fun e' => NF e' ∧ cmp e' e ≤ 0) (fun e' h' => key e' h'.1 h'.2) ?_
      exact ⟨⟨he, by rw [cmp_self]; exact Int.le_refl _⟩, (ha.2.2.2.exps.both (O.Lt.exps ha.2.2.1)).mono fun e' h => ⟨h.1, by (clear hb hd ha h0 hy hab hyn he line_eq hx key; omega)⟩⟩
theorem cmp_wov {a b d : O} (ha : NF a) (h0 : a ≠ z) (hb : NF b) (hd : NF d) : cmp (wov a b) (wov a d) = cmp b d := cmp_of_lt (wov_lt ha h0 hb hd) (wov_lt ha h0 hd hb)
end Nm
namespace Nm
open O
theorem EAll.merge' {P : O → Prop} : ∀ (k : Nat) (a b : O), a.len + b.len ≤ k → EAll P a → EAll P b → EAll P (mergeO a b)
  | _, z, b, _, _, hb => by rw [z_merge]; exact hb
  | _, c e n r, z, _, ha, _ => by rw [merge_z]; exact ha
  | 0, c e n r, c _ _ _, hk, _, _ => by simp [O.len] at hk
  | k + 1, c e n r, c e' n' r', hk, ha, hb => by
    rw [merge_c]
    simp only [O.len] at hk
    split
    · exact ⟨ha.1, EAll.merge' k _ _ (by simp only [O.len]; (clear ha hb; omega)) ha.2 hb⟩
    · split
      · exact ⟨hb.1, EAll.merge' k _ _ (by simp only [O.len]; (clear ha hb; omega)) ha hb.2⟩
      · exact ⟨ha.1, EAll.merge' k _ _ (by (clear ha hb; omega)) ha.2 hb.2⟩
theorem EAll.merge {P : O → Prop} {a b : O} (ha : EAll P a) (hb : EAll P b) : EAll P (mergeO a b) := EAll.merge' _ a b (Nat.le_refl _) ha hb
theorem len_merge' : ∀ (k : Nat) (a b : O), a.len + b.len ≤ k → (mergeO a b).len ≤ a.len + b.len
  | _, z, b, _ => by rw [z_merge]; omega
  | _, c e n r, z, _ => by rw [merge_z]; omega
  | 0, c e n r, c _ _ _, hk => by simp [O.len] at hk
  | k + 1, c e n r, c e' n' r', hk => by
    rw [merge_c]
    simp only [O.len] at hk
    have h1 := len_merge' k r (c e' n' r') (by simp only [O.len]; omega)
    have h2 := len_merge' k (c e n r) r' (by simp only [O.len]; (clear h1; omega))
    have h3 := len_merge' k r r' (by (clear h1 h2; omega))
    simp only [O.len] at h1 h2
    split
    · simp only [O.len]; (clear hk h2 h3; omega)
    · split
      · simp only [O.len]; (clear hk h1 h3; omega)
      · simp only [O.len]; (clear hk h1 h2; omega)
theorem len_merge (a b : O) : (mergeO a b).len ≤ a.len + b.len := len_merge' _ a b (Nat.le_refl _)
theorem mx_merge' : ∀ (k : Nat) (a b : O), a.len + b.len ≤ k → mx (mergeO a b) ≤ mx a + mx b
  | _, z, b, _ => by rw [z_merge]; have := mx_nonneg b; simp only [mx]; (clear this; omega)
  | _, c e n r, z, _ => by rw [merge_z]; simp only [mx]; omega
  | 0, c e n r, c _ _ _, hk => by simp [O.len] at hk
  | k + 1, c e n r, c e' n' r', hk => by
    rw [merge_c]
    simp only [O.len] at hk
    have h1 := mx_merge' k r (c e' n' r') (by simp only [O.len]; omega)
    have h2 := mx_merge' k (c e n r) r' (by simp only [O.len]; (clear h1; omega))
    have h3 := mx_merge' k r r' (by (clear h1 h2; omega))
    have p1 := mx_nonneg r
    have p2 := mx_nonneg r'
    have p3 := mx_nonneg e
    have p4 := mx_nonneg e'
    rw [mx_c] at h1
    rw [mx_c] at h2
    split
    · rw [mx_c, mx_c, mx_c]; (clear hk h2 h3 p1 p3; omega)
    · split
      · rw [mx_c, mx_c, mx_c]; (clear hk h1 h3 p2 p4; omega)
      · rw [mx_c, mx_c, mx_c]; (clear hk h1 h2 p1 p3; omega)
theorem mx_merge (a b : O) : mx (mergeO a b) ≤ mx a + mx b := mx_merge' _ a b (Nat.le_refl _)
theorem hw_of {m : Nat} : ∀ {a : O}, EAll (fun e => hw e ≤ m) a → hw a ≤ max a.len m
  | z, _ => Nat.zero_le _
  | c e n r, h => by
    have ih := hw_of h.2
    have h1 := h.1
    rw [hw_c]; simp only [O.len]; (clear h; omega)
theorem hw_exps : ∀ a : O, EAll (fun e => hw e ≤ hw a) a
  | z => trivial
  | c e n r => ⟨by rw [hw_c]; omega, (hw_exps r).mono fun x h => by rw [hw_c]; omega⟩
theorem hw_merge (a b : O) : hw (mergeO a b) ≤ hw a + hw b := by
  have h := hw_of (m := max (hw a) (hw b)) (((hw_exps a).mono fun x h => by omega).merge ((hw_exps b).mono fun x h => by omega))
  have l := len_merge a b
  have l1 := len_le_hw a
  have l2 := len_le_hw b
  omega
theorem dp_of {k : Nat} : ∀ {a : O}, EAll (fun e => e.dp ≤ k) a → a.dp ≤ k + 1
  | z, _ => Nat.zero_le _
  | c e n r, h => by
    have ih := dp_of h.2
    have h1 := h.1
    simp only [O.dp]; (clear h; omega)
theorem dp_exps {k : Nat} : ∀ {a : O}, a.dp ≤ k + 1 → EAll (fun e => e.dp ≤ k) a
  | z, _ => trivial
  | c e n r, h => by
    simp only [O.dp] at h
    exact ⟨by omega, dp_exps (by omega)⟩
theorem mx_exps : ∀ a : O, EAll (fun e => mx e ≤ mx a) a
  | z => trivial
  | c e n r => ⟨by rw [mx_c]; omega, (mx_exps r).mono fun x h => by rw [mx_c]; omega⟩
noncomputable def tot (a : O) : Int := wsum (fun _ => 1) a
theorem tot_c (e : O) (n : Int) (r : O) : tot (c e n r) = n + tot r := by unfold tot; simp only [wsum, Int.mul_one]
theorem tot_nn : ∀ {a : O}, NF a → 0 ≤ tot a
  | z, _ => Int.le_refl _
  | c e n r, h => by have := tot_nn h.2.2.2; have := h.2.1; rw [tot_c]; (clear h; omega)
theorem mx_of {m : Int} (hm : 0 ≤ m) : ∀ {a : O}, NF a → EAll (fun e => mx e ≤ m) a → mx a ≤ max (tot a) m
  | z, _, _ => by simp only [mx]; omega
  | c e n r, ha, h => by
    have ih := mx_of hm ha.2.2.2 h.2
    have h1 := h.1
    have h2 := tot_nn ha.2.2.2
    have h3 := ha.2.1
    rw [mx_c, tot_c]; (clear hm ha h; omega)
theorem tot_le : ∀ a : O, tot a ≤ a.len * mx a
  | z => Int.le_refl _
  | c e n r => by
    have ih := tot_le r
    have h1 : mx r ≤ mx (c e n r) := by rw [mx_c]; (clear ih; omega)
    have h2 : n ≤ mx (c e n r) := by rw [mx_c]; (clear ih h1; omega)
    have h3 : (r.len : Int) * mx r ≤ r.len * mx (c e n r) := Int.mul_le_mul_of_nonneg_left h1 (by (clear ih h1 h2; omega))
    rw [tot_c]
    simp only [O.len]
    rw [Int.natCast_succ, Int.add_mul]; (clear h1; omega)
theorem tot_wov (a b : O) : tot (wov a b) = tot a * tot b := by
  unfold tot
  rw [wsum_wov]
  have : (fun _ : O => wsum (fun _ => (1 : Int)) b) = fun _ => wsum (fun _ => 1) b * 1 := by funext; rw [Int.mul_one]
  rw [this, wsum_mul, Int.mul_comm]
theorem EAll.wv1 {P Q R : O → Prop} {e : O} {n : Int} (he : P e) (h : ∀ x y, P x → Q y → R (mergeO x y)) : ∀ {b : O}, EAll Q b → EAll R (wv1 e n b)
  | z, _ => trivial
  | c f d r, q => EAll.merge (EAll.wv1 he h q.2) ⟨h e f he q.1, trivial⟩
theorem EAll.wov {P Q R : O → Prop} {b : O} (hb : EAll Q b) (h : ∀ x y, P x → Q y → R (mergeO x y)) : ∀ {a : O}, EAll P a → EAll R (wov a b)
  | z, _ => trivial
  | c e n r, q => EAll.merge (EAll.wv1 q.1 h hb) (EAll.wov hb h q.2)
theorem len_wv1 (e : O) (n : Int) : ∀ b : O, (wv1 e n b).len ≤ b.len
  | z => Nat.le_refl _
  | c f d r => by
    have ih := len_wv1 e n r
    have := len_merge (wv1 e n r) (c (mergeO e f) (n * d) z)
    show (putP _ _ _).len ≤ _
    unfold putP
    simp only [O.len] at this ⊢; omega
theorem len_wov (b : O) : ∀ a : O, (wov a b).len ≤ a.len * b.len
  | z => Nat.zero_le _
  | c e n r => by
    have ih := len_wov b r
    have h1 := len_wv1 e n b
    have h2 := len_merge (wv1 e n b) (wov r b)
    show (mergeO _ _).len ≤ _
    simp only [O.len]
    rw [Nat.add_mul]; omega
structure Wn (D L H : Nat) (T M : Int) (a : O) : Prop where
  nf : NF a
  ln : a.len ≤ L
  tt : tot a ≤ T
  ex : EAll (fun e => e.dp ≤ D ∧ hw e ≤ H ∧ mx e ≤ M) a
theorem Wn.dp {D L H : Nat} {T M : Int} {a : O} (h : Wn D L H T M a) : a.dp ≤ D + 1 := dp_of (h.ex.mono fun _ x => x.1)
theorem Wn.hw {D L H : Nat} {T M : Int} {a : O} (h : Wn D L H T M a) : hw a ≤ max L H := by have := hw_of (h.ex.mono fun _ x => x.2.1); have := h.ln; (clear h; omega)
theorem Wn.mx {D L H : Nat} {T M : Int} {a : O} (hM : 0 ≤ M) (h : Wn D L H T M a) : mx a ≤ max T M := by have := mx_of hM h.nf (h.ex.mono fun _ x => x.2.2); have := h.tt; (clear hM h; omega)
theorem Wn.wov {D L1 L2 H1 H2 : Nat} {T1 T2 M1 M2 : Int} {a b : O} (ha : Wn D L1 H1 T1 M1 a) (hb : Wn D L2 H2 T2 M2 b) : Wn D (L1 * L2) (H1 + H2) (T1 * T2) (M1 + M2) (wov a b) := by
  refine ⟨wov_nf hb.nf ha.nf, ?_, ?_, ?_⟩
  · exact Nat.le_trans (len_wov b a) (Nat.mul_le_mul ha.ln hb.ln)
  · rw [tot_wov]
    exact Int.mul_le_mul ha.tt hb.tt (tot_nn hb.nf) (Int.le_trans (tot_nn ha.nf) ha.tt)
  · refine EAll.wov hb.ex (fun x y hx hy => ⟨?_, ?_, ?_⟩) ha.ex
    · have := dp_merge x y; (clear ha hb; omega)
    · have := hw_merge x y; (clear ha hb; omega)
    · have := mx_merge x y; (clear ha hb; omega)
theorem Wn.merge {D L1 L2 H : Nat} {T1 T2 M : Int} {a b : O} (ha : Wn D L1 H T1 M a) (hb : Wn D L2 H T2 M b) : Wn D (L1 + L2) H (T1 + T2) M (mergeO a b) := by
  refine ⟨ha.nf.merge hb.nf, ?_, ?_, ha.ex.merge hb.ex⟩
  · have := len_merge a b; have := ha.ln; have := hb.ln; (clear ha hb; omega)
  · have : tot (mergeO a b) = tot a + tot b := wsum_merge _ a b
    have := ha.tt; have := hb.tt; (clear ha hb; omega)
theorem Wn.of {D L H : Nat} {M : Int} {a : O} (hn : NF a) (hd : a.dp ≤ D + 1) (hl : a.len ≤ L) (hh : Nm.O.hw a ≤ H) (hm : Nm.O.mx a ≤ M) : Wn D L H (L * M) M a := by
  refine ⟨hn, hl, ?_, ?_⟩
  · have h0 := mx_nonneg a
    have h1 := tot_le a
    have h2 : (a.len : Int) * Nm.O.mx a ≤ L * M := Int.mul_le_mul (by (clear hn hd hh hm h0 h1; omega)) hm h0 (by (clear hn hd hl hh hm h0 h1; omega))
    (clear hn hd hl hh hm h0; omega)
  · exact (((dp_exps hd).both (hw_exps a)).both (mx_exps a)).mono fun e h => ⟨h.1.1, by have := h.1.2; (clear hn hd hl hm this; omega), by have := h.2; (clear hn hd hl hh this; omega)⟩
theorem Wn.mono {D L H L' H' : Nat} {T M T' M' : Int} {a : O} (h : Wn D L H T M a) (hl : L ≤ L') (hh : H ≤ H') (ht : T ≤ T') (hm : M ≤ M') : Wn D L' H' T' M' a :=
  ⟨h.nf, Nat.le_trans h.ln hl, Int.le_trans h.tt ht, h.ex.mono fun e x => ⟨x.1, by have := x.2.1; (clear h hl ht hm this; omega), by have := x.2.2; (clear h hl hh ht this; omega)⟩⟩
theorem le_trans' {a b d : O} (h1 : cmp a b ≤ 0) (h2 : cmp b d ≤ 0) : cmp a d ≤ 0 := by
  by_cases k : cmp a b = 0
  · rw [cmp_eq _ _ k]; exact h2
  · by_cases l : cmp b d = 0
    · rw [← cmp_eq _ _ l]; exact h1
    · have := cmp_trans a b d (by omega) (by (clear h1 k; omega)); (clear h1 h2 k l; omega)
theorem merge_c_Lt {g : O} {d : Int} {u : O} (h : NF (c g d u)) : mergeO (c g d z) u = c g d u := same_ext (NF.merge ⟨h.1, h.2.1, trivial, trivial⟩ h.2.2.2) h fun x => by
  rw [same_merged, same_c, same_c, same_z]; (clear h; omega)
theorem wov_part {e : O} {n : Int} {r : O} (ha : NF (c e n r)) {f : O} {d : Int} (hf : NF f) (hd : 1 ≤ d) : cmp (timesO (c e n r) (c f d z)) (wov (c e n r) (c f d z)) ≤ 0 := by
  have hb : NF (c f d z) := ⟨hf, hd, trivial, trivial⟩
  have nw := wov_nf hb ha
  have he := ha.1
  have hn := ha.2.1
  have sw : ∀ x, same x (wov (c e n r) (c f d z)) = d * wsum (fun e' => dl x (mergeO e' f)) (c e n r) := fun x => by
    rw [same_wov, ← wsum_mul]
    refine wsum_congr (P := NF) (fun e' _ => ?_) ha.exps
    simp only [wsum]; (clear ha hf hd hb nw he hn; omega)
  have nt : NF (timesO (c e n r) (c f d z)) := ha.times hb
  by_cases hz : f = z
  · subst hz
    refine le_of_same nt nw fun x => ?_
    rw [sw x]
    have e1 : wsum (fun e' => dl x (mergeO e' z)) (c e n r) = same x (c e n r) := by
      rw [same_wsum]
      exact wsum_congr (P := NF) (fun e' _ => by rw [merge_z]) ha.exps
    rw [e1]
    show same x (mulP e n r (c z d z)) ≤ _
    rw [mulP_c, if_pos rfl, same_c, same_c]
    have s0 := same_nonneg x ha.2.2.2
    have : same x r ≤ d * same x r := by
      have := Int.mul_le_mul_of_nonneg_right hd s0
      (clear ha hd he hn hf hb nw sw nt e1 s0; omega)
    rw [Int.mul_add]
    split
    · rw [Int.mul_comm n d]; (clear ha hd he hn hf hb nw sw nt e1 s0; omega)
    · (clear ha hd he hn hf hb nw sw nt e1 s0; omega)
  · have et : timesO (c e n r) (c f d z) = c (plusO e f) d z := by
      show mulP e n r (c f d z) = _
      rw [mulP_c, if_neg hz]; rfl
    rw [et]
    have npf := he.plus hf
    have nmf := he.merge hf
    have wle := plus_le_merge he hf
    have nn : ∀ x, 0 ≤ same x (wov (c e n r) (c f d z)) := fun x => same_nonneg x nw
    have atX : n * d ≤ same (mergeO e f) (wov (c e n r) (c f d z)) := by
      rw [sw]
      have h1 : 0 ≤ wsum (fun e' => dl (mergeO e f) (mergeO e' f)) r := by
        have : ∀ {t : O}, NF t → 0 ≤ wsum (fun e' => dl (mergeO e f) (mergeO e' f)) t := by
          intro t
          induction t with
          | z => intro _; exact Int.le_refl _
          | c e' m t _ ih =>
            intro ht
            have h1 := ih ht.2.2.2
            have h2 := ht.2.1
            simp only [wsum]
            have h3 : 0 ≤ m * dl (mergeO e f) (mergeO e' f) := Int.mul_nonneg (by (clear ha hf hd hb nw he hn sw nt hz et npf nmf wle nn ih ht h1; omega)) (by unfold dl; split <;> (clear ha hf hd hb nw he hn sw nt hz et npf nmf wle nn ih ht h1 h2; omega))
            (clear ha hf hd hb nw he hn sw nt hz et npf nmf wle nn ih ht h2; omega)
        exact this ha.2.2.2
      simp only [wsum]
      rw [show dl (mergeO e f) (mergeO e f) = 1 from if_pos rfl, Int.mul_one, Int.mul_add, Int.mul_comm n d]
      have := Int.mul_nonneg (show 0 ≤ d by (clear ha hf hb nw he hn sw nt hz et npf nmf wle nn h1; omega)) h1
      (clear ha hf hd hb nw he hn sw nt hz et npf nmf wle nn h1; omega)
    have hnd : d ≤ n * d := by have := Int.mul_le_mul_of_nonneg_right hn (show 0 ≤ d by (clear ha hf hb nw he hn sw nt hz et npf nmf wle nn atX; omega)); (clear ha hf hd hb nw he hn sw nt hz et npf nmf wle nn atX; omega)
    by_cases hq : plusO e f = mergeO e f
    · refine le_of_same ⟨npf, hd, trivial, trivial⟩ nw fun x => ?_
      rw [same_c, same_z]
      split
      · rename_i k; rw [← k, hq]; (clear ha hf hd hb nw he hn sw nt hz et npf nmf wle nn hq k; omega)
      · have := nn x; assumption
    · have hlt : cmp (plusO e f) (mergeO e f) < 0 := by
        have : cmp (plusO e f) (mergeO e f) ≠ 0 := fun k => hq (cmp_eq _ _ k)
        (clear ha hf hd hb nw he hn sw nt hz et npf nmf nn atX hnd hq; omega)
      have := lt_of_first (x := mergeO e f) (a := c (plusO e f) d z) (b := wov (c e n r) (c f d z)) ⟨npf, hd, trivial, trivial⟩ nw ?_ fun x hx => ?_
      · (clear ha hf hd hb nw he hn sw nt hz et npf nmf wle nn atX hnd hq hlt; omega)
      · rw [same_c, if_neg hq, same_z]; (clear ha hf hb nw he hn sw nt hz et npf nmf wle nn hq hlt; omega)
      · have k1 : plusO e f ≠ x := fun k => by
          rw [← k] at hx
          have := cmp_swap (plusO e f) (mergeO e f)
          (clear ha hf hd hb nw he hn sw nt hz et npf nmf wle nn atX hnd hq k this; omega)
        rw [same_c, if_neg k1, same_z, sw]
        have : wsum (fun e' => dl x (mergeO e' f)) (c e n r) = 0 := by
          refine wsum_zero (P := fun e' => NF e' ∧ cmp e' e ≤ 0) (fun e' h' => ?_) ⟨⟨he, by rw [cmp_self]; exact Int.le_refl _⟩, (ha.2.2.2.exps.both (O.Lt.exps ha.2.2.1)).mono fun e' h => ⟨h.1, by (clear ha hf hd hb nw he hn sw nt hz et npf nmf wle nn atX hnd hq hlt hx k1; omega)⟩⟩
          have := merge_le h'.1 he hf hf h'.2 (by rw [cmp_self]; exact Int.le_refl _)
          unfold dl
          rw [if_neg fun k => by rw [k] at this; (clear ha hf hd hb nw he hn sw nt hz et npf nmf wle nn atX hnd hq hlt k1 h' k; omega)]
        rw [this]; (clear ha hf hd hb nw he hn sw nt hz et npf nmf wle nn atX hnd hq hlt hx k1 this; omega)
theorem times_le_wov {a : O} (ha : NF a) : ∀ {b : O}, NF b → cmp (timesO a b) (wov a b) ≤ 0
  | z, _ => by rw [times_z, wov_z, cmp_self]; exact Int.le_refl _
  | c f d t, hb => by
    cases a with
    | z => show cmp z (wov z _) ≤ 0; show cmp z z ≤ 0; rw [cmp_self]; exact Int.le_refl _
    | c e n r =>
      have hs : NF (c f d z) := ⟨hb.1, hb.2.1, trivial, trivial⟩
      have ih := times_le_wov ha hb.2.2.2
      have e1 : wov (c e n r) (c f d t) = mergeO (wov (c e n r) (c f d z)) (wov (c e n r) t) := by rw [← wov_merge ha hs hb.2.2.2, merge_c_Lt hb]
      have e2 : timesO (c e n r) (c f d t) = plusO (timesO (c e n r) (c f d z)) (timesO (c e n r) t) := by
        rw [← mul_plus ha hs hb.2.2.2]
        congr 1
        refine same_ext hb (hs.plus hb.2.2.2) fun x => ?_
        by_cases k : Cov t x
        · rw [same_plus_cov hb.2.2.2 k]
          obtain ⟨w, w1, w2⟩ := k
          have : f ≠ x := fun q => by
            subst q
            have hw : ¬ cmp w f < 0 := fun q => by have := cmp_trans f w f w1 q; rw [cmp_self] at this; (clear hb ha hs ih e1 w2 w1 q; omega)
            exact w2 (same_of_Lt hw hb.2.2.1)
          rw [same_ne this]
        · rw [same_plus_bare hb.2.2.2 k, same_c, same_c, same_z]; (clear hb ha hs ih e1 k; omega)
      have n1 := ha.times hs
      have n2 := ha.times hb.2.2.2
      have w1 := wov_nf hs ha
      have w2 := wov_nf hb.2.2.2 ha
      rw [e1, e2]
      refine le_trans' (plus_le_merge n1 n2) ?_
      exact merge_le n1 w1 n2 w2 (wov_part ha hb.1 hb.2.1) ih
end Nm
namespace Nm
open O
theorem app_lim : ∀ {a : O}, NF a → app (lim a) (wh (same z a)) = a
  | z, _ => rfl
  | c e n r, h => by
    by_cases k : e = z
    · subst k
      have hr : r = z := by
        cases r with
        | z => rfl
        | c x _ _ =>
          have := h.2.2.1.1
          cases x <;> simp [cmp] at this
      subst hr
      have h1 := h.2.1
      have e1 : lim (c z n z) = z := by simp [filt]
      rw [e1, same_self (r := z) trivial, wh_pos (by assumption)]
      rfl
    · rw [same_ne k]
      have e1 : lim (c e n r) = c e n (lim r) := by show filt _ (c e n r) = _; rw [filt_c, if_pos (by simpa using k)]
      rw [e1]
      show c e n (app (lim r) (wh (same z r))) = _
      rw [app_lim h.2.2.2]
noncomputable def Nw (x : O) : Prop := NF x ∧ same z x = 0
theorem lim_nw {a : O} (h : NF a) : Nw (lim a) := ⟨h.filt _, by rw [same_lim, if_pos rfl]⟩
theorem app_wh_nf {x : O} (h : Nw x) {n : Int} (hn : 0 ≤ n) : NF (app x (wh n)) := by
  by_cases h0 : n = 0
  · rw [h0, wh_0, app_z]; exact h.1
  · rw [wh_pos (by (clear h; omega))]
    have main : ∀ {x : O}, NF x → same z x = 0 → NF (app x (c z n z)) := by
      intro x
      induction x with
      | z => intro _ _; exact ⟨trivial, by (clear h; omega), trivial, trivial⟩
      | c e m r _ ih =>
        intro hx hz
        have he : e ≠ z := fun k => by
          subst k
          rw [same_self hx.2.2.1] at hz
          have := hx.2.1
          (clear h hn h0 ih hx; omega)
        rw [same_ne he] at hz
        exact ⟨hx.1, hx.2.1, O.Lt.app hx.2.2.1 ⟨z_lt he, trivial⟩, ih hx.2.2.2 hz⟩
    exact main h.1 h.2
theorem same_app_wh {x : O} {n : Int} (y : O) : same y (app x (wh n)) = same y x + (if y = z then n else 0) := by
  rw [same_app]
  congr 1
  unfold wh
  split
  · rename_i h; rw [h]; split <;> rfl
  · rw [same_c, same_z]
    by_cases k : z = y
    · rw [if_pos k, if_pos k.symm]; (clear k; omega)
    · rw [if_neg k, if_neg (fun q => k q.symm)]; (clear k; omega)
theorem merge_wh {x y : O} (hx : Nw x) (hy : Nw y) {n m : Int} (hn : 0 ≤ n) (hm : 0 ≤ m) : mergeO (app x (wh n)) (app y (wh m)) = app (mergeO x y) (wh (n + m)) := by
  have nm : Nw (mergeO x y) := ⟨hx.1.merge hy.1, by rw [same_merged, hx.2, hy.2]; rfl⟩
  refine same_ext ((app_wh_nf hx hn).merge (app_wh_nf hy hm)) (app_wh_nf nm (by (clear hx hy nm; omega))) fun u => ?_
  rw [same_merged, same_app_wh, same_app_wh, same_app_wh, same_merged]
  split <;> (clear hx hy hn hm nm; omega)
theorem app_wh_lt {x y : O} (hx : Nw x) (hy : Nw y) {n m : Int} (hn : 0 ≤ n) (hm : 0 ≤ m) (h : cmp x y < 0 ∨ (x = y ∧ n < m)) : cmp (app x (wh n)) (app y (wh m)) < 0 := by
  rcases h with h | ⟨rfl, h⟩
  · obtain ⟨u, h1, h2⟩ := first_of_lt hx.1 hy.1 h
    have hu : u ≠ z := fun k => by rw [k, hx.2, hy.2] at h1; (clear hx hy hn hm h h2 k; omega)
    refine lt_of_first (x := u) (app_wh_nf hx hn) (app_wh_nf hy hm) ?_ fun v hv => ?_
    · rw [same_app_wh, same_app_wh, if_neg hu, if_neg hu]; (clear hx hy hn hm h h2 hu; omega)
    · have hv0 : v ≠ z := fun k => by
        rw [k] at hv
        have := z_lt hu
        (clear hx hy hn hm h h1 h2 hu k; omega)
      rw [same_app_wh, same_app_wh, if_neg hv0, if_neg hv0, h2 v hv]
  · refine lt_of_first (x := z) (app_wh_nf hx hn) (app_wh_nf hx hm) ?_ fun v hv => ?_
    · rw [same_app_wh, same_app_wh, if_pos rfl, if_pos rfl]; (clear hx hn hm hy; omega)
    · have hv0 : v ≠ z := fun k => by rw [k, cmp_self] at hv; (clear hx hn hm h hy k; omega)
      rw [same_app_wh, same_app_wh, if_neg hv0, if_neg hv0]
noncomputable def lsum (h : Int → Int) : List (Int × Int) → Int
  | [] => 0
  | p :: l => p.2 * h p.1 + lsum h l
theorem lsum_app (h : Int → Int) : ∀ l m : List (Int × Int), lsum h (l ++ m) = lsum h l + lsum h m
  | [], m => (Int.zero_add _).symm
  | p :: l, m => by show p.2 * h p.1 + lsum h (l ++ m) = _; rw [lsum_app h l m]; simp only [lsum]; omega
theorem lsum_perm {h : Int → Int} {l m : List (Int × Int)} (p : l.Perm m) : lsum h l = lsum h m := by
  induction p with
  | nil => rfl
  | cons x _ ih => simp only [lsum, ih]
  | swap x y l => simp only [lsum]; omega
  | trans _ _ h1 h2 => exact h1.trans h2
theorem lsum_congr {f g : Int → Int} : ∀ {l : List (Int × Int)}, (∀ p, p ∈ l → f p.1 = g p.1) → lsum f l = lsum g l
  | [], _ => rfl
  | p :: l, h => by simp only [lsum]; rw [h p List.mem_cons_self, lsum_congr fun q hq => h q (List.mem_cons_of_mem _ hq)]
noncomputable def getL (l : List (Int × Int)) (k : Int) : Option Int := (l.find? fun p => decide (p.1 = k)).map (·.2)
noncomputable def putL (l : List (Int × Int)) (k v : Int) : List (Int × Int) := if (l.any fun p => decide (p.1 = k)) = true then l.map (fun p => if p.1 = k then (p.1, v) else p) else l ++ [(k, v)]
theorem getL_none {l : List (Int × Int)} {k : Int} (h : (l.any fun p => decide (p.1 = k)) = false) : getL l k = none := by
  unfold getL
  rw [Option.map_eq_none_iff, List.find?_eq_none]
  intro p hp
  have := List.any_eq_false.mp h p hp
  exact this
theorem lsum_map (h : Int → Int) (k v : Int) : ∀ {l : List (Int × Int)}, (l.map (·.1)).Nodup → (l.any fun p => decide (p.1 = k)) = true → lsum h (l.map fun p => if p.1 = k then (p.1, v) else p) = lsum h l + (v - (getL l k).getD 0) * h k
  | [], _, ha => by simp at ha
  | p :: l, hn, ha => by
    rw [List.map_cons, List.nodup_cons] at hn
    rw [List.map_cons]
    by_cases e : p.1 = k
    · have hg : getL (p :: l) k = some p.2 := by simp [getL, List.find?_cons, e]
      have hl : l.map (fun p => if p.1 = k then (p.1, v) else p) = l := by
        have : ∀ q, q ∈ l → (if q.1 = k then (q.1, v) else q) = q := fun q hq => if_neg fun z => hn.1 (List.mem_map.mpr ⟨q, hq, z.trans e.symm⟩)
        rw [List.map_congr_left this]; simp
      rw [if_pos e, hl, hg]
      simp only [lsum, Option.getD_some, e]
      rw [Int.sub_mul]; (clear hn ha e hg hl; omega)
    · have ha' : (l.any fun p => decide (p.1 = k)) = true := by simpa [List.any_cons, e] using ha
      have hg : getL (p :: l) k = getL l k := by simp [getL, List.find?_cons, e]
      rw [if_neg e, hg]
      simp only [lsum]
      rw [lsum_map h k v hn.2 ha']; (clear hn ha e ha' hg; omega)
theorem lsum_put (h : Int → Int) {l : List (Int × Int)} (hn : (l.map (·.1)).Nodup) (k x : Int) : lsum h (putL l k ((getL l k).getD 0 + x)) = lsum h l + x * h k := by
  unfold putL
  by_cases ha : (l.any fun p => decide (p.1 = k)) = true
  · rw [if_pos ha, lsum_map h k _ hn ha]
    have : (getL l k).getD 0 + x - (getL l k).getD 0 = x := by (clear hn ha; omega)
    rw [this]
  · rw [if_neg ha, lsum_app, getL_none (Bool.eq_false_iff.mpr ha)]
    simp [lsum]
structure Dl (l : List (Int × Int)) : Prop where
  nd : (l.map (·.1)).Nodup
  ok : ∀ p, p ∈ l → 0 ≤ p.1 ∧ 1 ≤ p.2
theorem getL_nn {l : List (Int × Int)} (h : Dl l) (k : Int) : 0 ≤ (getL l k).getD 0 := by
  cases e : getL l k with
  | none => exact Int.le_refl _
  | some v =>
    unfold getL at e
    obtain ⟨p, hp, rfl⟩ := Option.map_eq_some_iff.mp e
    have := (h.ok p (List.mem_of_find?_eq_some hp)).2
    show 0 ≤ p.2
    (clear h hp e; omega)
theorem putL_len (l : List (Int × Int)) (k v : Int) : (putL l k v).length ≤ l.length + 1 := by
  unfold putL
  split
  · rw [List.length_map]; omega
  · rw [List.length_append]; exact Nat.le_refl _
theorem Dl.put {l : List (Int × Int)} (h : Dl l) {k v : Int} (hk : 0 ≤ k) (hv : 1 ≤ v) : Dl (putL l k v) := by
  unfold putL
  by_cases ha : (l.any fun p => decide (p.1 = k)) = true
  · rw [if_pos ha]
    constructor
    · have e : (l.map (fun p => if p.1 = k then (p.1, v) else p)).map (·.1) = l.map (·.1) := by
        rw [List.map_map]
        exact List.map_congr_left fun p _ => by show (if p.1 = k then (p.1, v) else p).1 = p.1; split <;> rfl
      rw [e]; exact h.nd
    · intro p hp
      obtain ⟨q, hq, rfl⟩ := List.mem_map.mp hp
      have := h.ok q hq
      split
      · exact ⟨this.1, hv⟩
      · exact this
  · rw [if_neg ha]
    constructor
    · rw [List.map_append, List.nodup_append]
      refine ⟨h.nd, by simp, fun x hx y hy e => ?_⟩
      simp only [List.map_cons, List.map_nil, List.mem_singleton] at hy
      obtain ⟨p, hp, hpe⟩ := List.mem_map.mp hx
      exact ha (List.any_eq_true.mpr ⟨p, hp, decide_eq_true (hpe.trans (e.trans hy))⟩)
    · intro p hp
      rcases List.mem_append.mp hp with hp | hp
      · exact h.ok p hp
      · rw [List.mem_singleton.mp hp]; exact ⟨hk, hv⟩
noncomputable abbrev Gr := O × List (Int × Int)
noncomputable def ofL (x : O) : List (Int × Int) → O → O
  | [], a => a
  | p :: l, a => c (app x (wh p.1)) p.2 (ofL x l a)
noncomputable def ofG : List Gr → O
  | [] => z
  | g :: gs => ofL g.1 g.2 (ofG gs)
theorem wsum_ofL (h : O → Int) (x : O) (a : O) : ∀ l : List (Int × Int), wsum h (ofL x l a) = lsum (fun n => h (app x (wh n))) l + wsum h a
  | [] => (Int.zero_add _).symm
  | p :: l => by
    show p.2 * h (app x (wh p.1)) + wsum h (ofL x l a) = _
    rw [wsum_ofL h x a l]
    simp only [lsum]; omega
noncomputable def gsum (h : O → Int → Int) : List Gr → Int
  | [] => 0
  | g :: gs => lsum (h g.1) g.2 + gsum h gs
theorem wsum_ofG (h : O → Int) : ∀ gs : List Gr, wsum h (ofG gs) = gsum (fun x n => h (app x (wh n))) gs
  | [] => rfl
  | g :: gs => by
    show wsum h (ofL g.1 g.2 (ofG gs)) = _
    rw [wsum_ofL, wsum_ofG h gs]
    rfl
theorem gsum_app (h : O → Int → Int) : ∀ gs hs : List Gr, gsum h (gs ++ hs) = gsum h gs + gsum h hs
  | [], hs => (Int.zero_add _).symm
  | g :: gs, hs => by show lsum _ _ + gsum h (gs ++ hs) = _; rw [gsum_app h gs hs]; simp only [gsum]; omega
theorem gsum_perm {h : O → Int → Int} {gs hs : List Gr} (p : gs.Perm hs) : gsum h gs = gsum h hs := by
  induction p with
  | nil => rfl
  | cons x _ ih => simp only [gsum, ih]
  | swap x y l => simp only [gsum]; omega
  | trans _ _ h1 h2 => exact h1.trans h2
structure Gg (gs : List Gr) : Prop where
  nw : ∀ g, g ∈ gs → Nw g.1
  nn : ∀ g, g ∈ gs → ∀ p, p ∈ g.2 → 0 ≤ p.1 ∧ 1 ≤ p.2
noncomputable def psum (h : O → Int → Int) (g k : Gr) : Int := lsum (fun n => lsum (fun m => h (mergeO g.1 k.1) (n + m)) k.2) g.2
noncomputable def dsum (h : O → Int → Int) (gs hs : List Gr) : Int := match gs with
  | [] => 0
  | g :: gs => (hs.map (psum h g)).foldr (· + ·) 0 + dsum h gs hs
theorem fold_lsum (f : Gr → Int → Int) (l : List (Int × Int)) : ∀ hs : List Gr, (hs.map fun k => lsum (f k) l).foldr (· + ·) 0 = lsum (fun n => (hs.map fun k => f k n).foldr (· + ·) 0) l
  | [] => by
    induction l with
    | nil => rfl
    | cons p l ih => simp only [List.map_nil, List.foldr_nil, lsum] at ih ⊢; omega
  | k :: hs => by
    rw [List.map_cons, List.foldr_cons, fold_lsum f l hs]
    induction l with
    | nil => rfl
    | cons p l ih =>
      simp only [lsum, List.map_cons, List.foldr_cons] at ih ⊢
      rw [Int.mul_add]; omega
theorem gsum_fold (h : O → Int → Int) : ∀ hs : List Gr, gsum h hs = (hs.map fun k => lsum (h k.1) k.2).foldr (· + ·) 0
  | [] => rfl
  | k :: hs => by simp only [gsum, List.map_cons, List.foldr_cons]; rw [gsum_fold h hs]
theorem dsum_wov (H : O → Int) {hs : List Gr} (gh : Gg hs) : ∀ {gs : List Gr}, Gg gs → dsum (fun x n => H (app x (wh n))) gs hs = wsum (fun e => wsum (fun f => H (mergeO e f)) (ofG hs)) (ofG gs)
  | [], _ => rfl
  | g :: gs, gg => by
    have ih := dsum_wov H gh (gs := gs) ⟨fun x hx => gg.nw x (List.mem_cons_of_mem _ hx), fun x hx => gg.nn x (List.mem_cons_of_mem _ hx)⟩
    show _ + dsum _ gs hs = wsum _ (ofL g.1 g.2 (ofG gs))
    rw [ih, wsum_ofL]
    congr 1
    show (hs.map (fun k => lsum (fun n => lsum (fun m => H (app (mergeO g.1 k.1) (wh (n + m)))) k.2) g.2)).foldr (· + ·) 0 = _
    rw [fold_lsum (fun k n => lsum (fun m => H (app (mergeO g.1 k.1) (wh (n + m)))) k.2) g.2 hs]
    refine lsum_congr fun p hp => ?_
    rw [wsum_ofG, gsum_fold]
    congr 1
    refine List.map_congr_left fun k hk => lsum_congr fun q hq => ?_
    have h1 := gg.nn g List.mem_cons_self p hp
    have h2 := gh.nn k hk q hq
    rw [merge_wh (gg.nw g List.mem_cons_self) (gh.nw k hk) h1.1 h2.1]
theorem ofL_snoc (x : O) (p : Int × Int) (a : O) : ∀ l : List (Int × Int), ofL x (l ++ [p]) a = ofL x l (c (app x (wh p.1)) p.2 a)
  | [] => rfl
  | q :: l => by show c _ _ (ofL x (l ++ [p]) a) = c _ _ _; rw [ofL_snoc x p a l]
theorem app_ofL (x : O) (b a : O) : ∀ l : List (Int × Int), app (ofL x l a) b = ofL x l (app a b)
  | [] => rfl
  | q :: l => by show c _ _ (app (ofL x l a) b) = c _ _ _; rw [app_ofL x b a l]
theorem app_ofG (b : O) : ∀ gs hs : List Gr, ofG hs = b → app (ofG gs) b = ofG (gs ++ hs)
  | [], hs, h => h.symm
  | g :: gs, hs, h => by
    show app (ofL g.1 g.2 (ofG gs)) b = ofL g.1 g.2 (ofG (gs ++ hs))
    rw [app_ofL, app_ofG b gs hs h]
noncomputable def inLast (gs : List Gr) (p : Int × Int) : List Gr := match gs with
  | [] => []
  | [g] => [(g.1, g.2 ++ [p])]
  | g :: h :: gs => g :: inLast (h :: gs) p
end Nm
namespace Nm
open O
theorem lt_ofL {y x A : O} (hA : Lt y A) : ∀ {l : List (Int × Int)}, (∀ p, p ∈ l → cmp (app x (wh p.1)) y < 0) → Lt y (ofL x l A)
  | [], _ => hA
  | p :: l, h => ⟨h p List.mem_cons_self, lt_ofL hA fun q hq => h q (List.mem_cons_of_mem _ hq)⟩
theorem lt_ofG {y : O} : ∀ {gs : List Gr}, (∀ g, g ∈ gs → ∀ p, p ∈ g.2 → cmp (app g.1 (wh p.1)) y < 0) → Lt y (ofG gs)
  | [], _ => trivial
  | g :: gs, h => lt_ofL (lt_ofG fun k hk => h k (List.mem_cons_of_mem _ hk)) (h g List.mem_cons_self)
theorem nf_ofL {x A : O} (hx : Nw x) (hA : NF A) : ∀ {l : List (Int × Int)}, (∀ p, p ∈ l → 0 ≤ p.1 ∧ 1 ≤ p.2 ∧ Lt (app x (wh p.1)) A) → l.Pairwise (fun p q => q.1 < p.1) → NF (ofL x l A)
  | [], _, _ => hA
  | p :: l, h, hp => by
    obtain ⟨h1, h2⟩ := List.pairwise_cons.mp hp
    obtain ⟨a1, a2, a3⟩ := h p List.mem_cons_self
    refine ⟨app_wh_nf hx a1, a2, lt_ofL a3 fun q hq => ?_, nf_ofL hx hA (fun q hq => h q (List.mem_cons_of_mem _ hq)) h2⟩
    exact app_wh_lt hx hx (h q (List.mem_cons_of_mem _ hq)).1 a1 (.inr ⟨rfl, h1 q hq⟩)
structure Go (gs : List Gr) : Prop where
  ds : Desc (gs.map (·.1))
  nw : ∀ g, g ∈ gs → Nw g.1
  nn : ∀ g, g ∈ gs → ∀ p, p ∈ g.2 → 0 ≤ p.1 ∧ 1 ≤ p.2
  pw : ∀ g, g ∈ gs → g.2.Pairwise (fun p q => q.1 < p.1)
theorem nf_ofG : ∀ {gs : List Gr}, Go gs → NF (ofG gs)
  | [], _ => trivial
  | g :: gs, h => by
    have hd : Desc ((g :: gs).map (·.1)) := h.ds
    rw [List.map_cons] at hd
    obtain ⟨d1, d2⟩ := List.pairwise_cons.mp hd
    have ih := nf_ofG (gs := gs) ⟨d2, fun k hk => h.nw k (List.mem_cons_of_mem _ hk), fun k hk => h.nn k (List.mem_cons_of_mem _ hk), fun k hk => h.pw k (List.mem_cons_of_mem _ hk)⟩
    refine nf_ofL (h.nw g List.mem_cons_self) ih (fun p hp => ?_) (h.pw g List.mem_cons_self)
    have hpp := h.nn g List.mem_cons_self p hp
    refine ⟨hpp.1, hpp.2, lt_ofG fun k hk q hq => ?_⟩
    exact app_wh_lt (h.nw k (List.mem_cons_of_mem _ hk)) (h.nw g List.mem_cons_self) (h.nn k (List.mem_cons_of_mem _ hk) q hq).1 hpp.1 (.inl (d1 k.1 (List.mem_map.mpr ⟨k, hk, rfl⟩)))
theorem len_ofL (x A : O) : ∀ l : List (Int × Int), (ofL x l A).len = l.length + A.len
  | [] => by simp [ofL]
  | p :: l => by show (ofL x l A).len + 1 = _; rw [len_ofL x A l, List.length_cons]; omega
noncomputable def byK (l : List (Int × Int)) (ns : List Int) : List (Int × Int) := ns.map fun n => (n, (getL l n).getD 0)
theorem getL_mem {l : List (Int × Int)} (hn : (l.map (·.1)).Nodup) {p : Int × Int} (h : p ∈ l) : getL l p.1 = some p.2 := by
  unfold getL
  induction l with
  | nil => exact nomatch h
  | cons q l ih =>
    rw [List.map_cons, List.nodup_cons] at hn
    rw [List.find?_cons]
    rcases List.mem_cons.mp h with rfl | h
    · simp
    · have : q.1 ≠ p.1 := fun e => hn.1 (by rw [e]; exact List.mem_map.mpr ⟨p, h, rfl⟩)
      simp only [this, decide_false]
      exact ih hn.2 h
theorem byK_perm {l : List (Int × Int)} (hn : (l.map (·.1)).Nodup) {ns : List Int} (hp : ns.Perm (l.map (·.1))) : (byK l ns).Perm l := by
  unfold byK
  refine (hp.map _).trans ?_
  rw [List.map_map]
  have : l.map ((fun n => (n, (getL l n).getD 0)) ∘ fun x => x.1) = l.map id := List.map_congr_left fun p hp => by
    show (p.1, (getL l p.1).getD 0) = p
    rw [getL_mem hn hp]; rfl
  rw [this, List.map_id]
theorem strict_of {ns : List Int} (h : ns.Pairwise (· ≥ ·)) (hn : ns.Nodup) : ns.Pairwise (fun a b => b < a) := by
  refine (h.and hn).imp fun {a b} h => ?_
  have h1 : a ≥ b := h.1
  have h2 : a ≠ b := h.2
  (clear hn h1; omega)
theorem gsum_keys {h : O → Int → Int} {gs hs : List Gr} (hn : (hs.map (·.1)).Nodup) (hp : (gs.map (·.1)).Perm (hs.map (·.1))) (hl : ∀ g, g ∈ gs → ∃ k, k ∈ hs ∧ k.1 = g.1 ∧ g.2.Perm k.2) : gsum h gs = gsum h hs := by
  have hlk : ∀ k, k ∈ hs → (hs.find? fun x => decide (x.1 = k.1)) = some k := by
    intro k hk
    clear hp hl
    induction hs with
    | nil => exact nomatch hk
    | cons q hs ih =>
      rw [List.map_cons, List.nodup_cons] at hn
      rw [List.find?_cons]
      rcases List.mem_cons.mp hk with rfl | hk
      · simp
      · have : q.1 ≠ k.1 := fun e => hn.1 (by rw [e]; exact List.mem_map.mpr ⟨k, hk, rfl⟩)
        simp only [this, decide_false]
        exact ih hn.2 hk
  let F : O → Gr := fun x => (hs.find? fun y => decide (y.1 = x)).getD (x, [])
  have hF : ∀ k, k ∈ hs → F k.1 = k := fun k hk => by show (hs.find? fun y => decide (y.1 = k.1)).getD (k.1, []) = k; rw [hlk k hk]; rfl
  have e1 : gsum h gs = gsum h ((gs.map (·.1)).map F) := by
    rw [List.map_map]
    have : ∀ l : List Gr, (∀ g, g ∈ l → ∃ k, k ∈ hs ∧ k.1 = g.1 ∧ g.2.Perm k.2) → gsum h l = gsum h (l.map (F ∘ fun x => x.1)) := by
      intro l
      induction l with
      | nil => intro _; rfl
      | cons g l ih =>
        intro hl
        obtain ⟨k, hk, ek, pk⟩ := hl g List.mem_cons_self
        rw [List.map_cons]
        simp only [gsum]
        rw [ih fun x hx => hl x (List.mem_cons_of_mem _ hx)]
        have : F g.1 = k := by rw [← ek]; exact hF k hk
        show _ = lsum (h (F g.1).1) (F g.1).2 + _
        rw [this, ek, lsum_perm pk]
    exact this gs hl
  have e2 : (hs.map (·.1)).map F = hs := by
    rw [List.map_map]
    have : hs.map (F ∘ fun x => x.1) = hs.map id := List.map_congr_left fun k hk => hF k hk
    rw [this, List.map_id]
  rw [e1, gsum_perm (hp.map F), e2]
end Nm
namespace L2
open PySem PySem.Spec PyProof.Rows Nm
noncomputable def encP : O → List W
  | .z => []
  | .c e n r => .tup [.tup (encP e), .int n] :: encP r
noncomputable def enc (o : O) : W := .tup (encP o)
noncomputable def prt (e : O) (n : Int) : W := .tup [enc e, .int n]
theorem encP_z : encP .z = [] := rfl
theorem encP_c (e : O) (n : Int) (r : O) : encP (.c e n r) = prt e n :: encP r := rfl
theorem encP_length : ∀ a : O, (encP a).length = a.len
  | .z => rfl
  | .c e n r => by rw [encP_c, List.length_cons, encP_length r]; rfl
theorem prt_flat {e : O} {n : Int} (h : W.flats (encP e) = true) : (prt e n).flat = true := by
  simp [prt, enc, W.flat, W.flats, h]
theorem encP_flat : ∀ a : O, W.flats (encP a) = true
  | .z => by simp [encP, W.flats]
  | .c e n r => by
    rw [encP_c]
    simp [W.flats, prt_flat (encP_flat e), encP_flat r]
theorem enc_flat (a : O) : (enc a).flat = true := by simp [enc, W.flat, encP_flat a]
theorem encP_dep : ∀ a : O, W.deps (encP a) ≤ 2 * a.dp
  | .z => by simp [encP, W.deps]
  | .c e n r => by
    have h1 := encP_dep e
    have h2 := encP_dep r
    rw [encP_c]
    simp only [W.deps, prt, enc, W.dep, O.dp]
    omega
theorem enc_dep (a : O) : (enc a).dep ≤ 2 * a.dp + 1 := by
  have := encP_dep a
  simp only [enc, W.dep]
  omega
theorem encP_eq : ∀ a b : O, W.eqs (encP a) (encP b) = decide (a = b)
  | .z, .z => by simp [encP, W.eqs]
  | .z, .c _ _ _ => by simp [encP, W.eqs]
  | .c _ _ _, .z => by simp [encP, W.eqs]
  | .c e n r, .c e' n' r' => by
    have h1 := encP_eq e e'
    have h2 := encP_eq r r'
    simp only [encP, W.eqs, W.eq_tup, W.eq_int, h1, h2, Bool.and_true]
    rw [Bool.eq_iff_iff]
    simp only [Bool.and_eq_true, decide_eq_true_eq, beq_iff_eq, O.c.injEq]
    constructor
    · rintro ⟨⟨a, b⟩, c⟩; exact ⟨a, b, c⟩
    · rintro ⟨a, b, c⟩; exact ⟨⟨a, b⟩, c⟩
theorem enc_eq (a b : O) : (enc a).eq (enc b) = decide (a = b) := encP_eq a b
theorem prt_eq (e e' : O) (n n' : Int) : (prt e n).eq (prt e' n') = (decide (e = e') && decide (n = n')) := by
  have := enc_eq e e'
  simp only [prt, W.eq_tup, W.eq_int, W.eqs, this, Bool.and_true]
  congr 1
end L2
namespace L2
open PySem PySem.Spec PyProof.Rows Nm
theorem tup_eq (a b : O) : (W.tup (encP a)).eq (W.tup (encP b)) = decide (a = b) := enc_eq a b
theorem tup_flat (a : O) : (W.tup (encP a)).flat = true := enc_flat a
theorem tup_dep (a : O) : (W.tup (encP a)).dep ≤ 2 * a.dp + 1 := enc_dep a
noncomputable def cmpZ (n m : Int) : Int := if n < m then -1 else if m < n then 1 else 0
noncomputable def cmpP (e : O) (n : Int) (e' : O) (n' : Int) : Int := if O.cmp e e' ≠ 0 then O.cmp e e' else cmpZ n n'
theorem cmp_c (e : O) (n : Int) (r e' : O) (n' : Int) (r' : O) : O.cmp (.c e n r) (.c e' n' r') = if cmpP e n e' n' ≠ 0 then cmpP e n e' n' else O.cmp r r' := by
  unfold cmpP cmpZ
  rw [O.cmp]
  by_cases h : O.cmp e e' = 0
  · rcases Int.lt_trichotomy n n' with k | k | k
    · have k' : ¬ n' < n := by (clear h; omega)
      simp [h, k]
    · subst k
      simp [h]
    · have k' : ¬ n < n' := by (clear h; omega)
      simp [h, k, k']
  · simp [h]
theorem encP_inj {a b : O} (h : encP a = encP b) : a = b := by
  have := encP_eq a b
  rw [h, W.eqs_refl _ (encP_flat b)] at this
  simpa using this.symm
theorem encP_app : ∀ a b : O, encP (a.app b) = encP a ++ encP b
  | .z, b => by simp [O.app, encP]
  | .c e n r, b => by
    show encP (.c e n (r.app b)) = _
    rw [encP_c, encP_c, encP_app r b]
    rfl
theorem atI0 {α : Type} (x : α) (xs : List α) : atI (x :: xs) 0 = some x := by
  simp [atI, ixN]
theorem atI1 {α : Type} (x y : α) (xs : List α) : atI (x :: y :: xs) 1 = some y := by
  have h : (1 : Int) < ((xs.length : Int) + 1 + 1) := by omega
  simp [atI, ixN, h]
theorem int_flat (i : Int) : (W.int i).flat = true := by simp [W.flat]
theorem int_dep (i : Int) : (W.int i).dep = 0 := by simp [W.dep]
theorem int_eq (i j : Int) : (W.int i).eq (W.int j) = (i == j) := rfl
theorem nil_flat : (W.tup []).flat = true := by simp [W.flat, W.flats]
theorem nil_dep : (W.tup []).dep = 1 := by simp [W.dep, W.deps]
theorem tup_nil_eq (a : O) : (W.tup (encP a)).eq (W.tup []) = decide (a = .z) := enc_eq a .z
theorem beqZ (i j : Int) : (i == j) = decide (i = j) := by
  by_cases h : i = j <;> simp [h]
theorem GLe.done {G : Gp} {q : Gp → Prop} (h : q G) : ∃ G0, GLe G0 G ∧ q G0 := ⟨G, GLe.refl G, h⟩
theorem loopW_ind {C : Gp → Prop} {g : WG} {tb : WS} {d : WEnds} (Iv : List W → WSt → Gp → Prop) (stop : ∀ τ G, Iv [] τ G → C G ∧ d.nx τ G)
    (step : ∀ w ws τ G (k : WSt → Gp → Prop), Iv (w :: ws) τ G → (∀ τ3 G3, Iv ws τ3 G3 → k τ3 G3) → C G ∧ g w τ G fun τ2 G2 => tb { d with nx := k, ct := k, bk := d.nx } τ2 G2) : ∀ ws τ G, Iv ws τ G → loopW C g tb d ws τ G
  | [], τ, G, h => stop τ G h
  | w :: ws, τ, G, h => step w ws τ G _ h fun τ3 G3 h3 => loopW_ind Iv stop step ws τ3 G3 h3
theorem zip_nil {x y : O} (h : zipW (encP x) (encP y) = []) : x = .z ∨ y = .z := by
  cases x with
  | z => exact .inl rfl
  | c e n r =>
    cases y with
    | z => exact .inr rfl
    | c e' n' r' => simp [encP, zipW] at h
theorem zip_cons {x y : O} {w : W} {ws : List W} (h : zipW (encP x) (encP y) = w :: ws) : ∃ e n r e' n' r', x = .c e n r ∧ y = .c e' n' r' ∧ w = .tup [prt e n, prt e' n'] ∧ ws = zipW (encP r) (encP r') := by
  cases x with
  | z => simp [encP, zipW] at h
  | c e n r =>
    cases y with
    | z => simp [encP, zipW] at h
    | c e' n' r' =>
      rw [encP_c, encP_c] at h
      simp only [zipW, List.cons.injEq] at h
      exact ⟨e, n, r, e', n', r', rfl, rfl, h.1.symm, h.2.symm⟩
theorem cmpZ_lt {n m : Int} (h : n < m) : cmpZ n m = -1 := by unfold cmpZ; rw [if_pos h]
theorem cmpZ_gt {n m : Int} (h : m < n) : cmpZ n m = 1 := by unfold cmpZ; rw [if_neg (by omega), if_pos h]
theorem cmpZ_self (n : Int) : cmpZ n n = 0 := by unfold cmpZ; simp
theorem cmp_len_nil {x y : O} (h : x = .z ∨ y = .z) : O.cmp x y = cmpZ x.len y.len := by
  rcases h with rfl | rfl
  · cases y with
    | z => rfl
    | c e n r => rw [cmpZ_lt (by simp only [O.len]; omega)]; rfl
  · cases x with
    | z => rfl
    | c e n r => rw [cmpZ_gt (by simp only [O.len]; omega)]; rfl
theorem cmpZ_shift {a b x y : Nat} (h : a + y = b + x) : cmpZ (a : Int) (b : Int) = cmpZ (x : Int) (y : Int) := by
  rcases Nat.lt_trichotomy x y with k | k | k
  · rw [cmpZ_lt (by omega), cmpZ_lt (by (clear h; omega))]
  · have : a = b := by omega
    subst k this
    rw [cmpZ_self, cmpZ_self]
  · rw [cmpZ_gt (by omega), cmpZ_gt (by (clear h; omega))]
end L2
namespace L2
open PySem PySem.Spec PyProof.Rows Nm
theorem encP_get : ∀ (a : O) (i : Nat), (encP a)[i]? = (a.getP i).map fun p => prt p.1 p.2
  | .z, i => by simp [encP, O.getP]
  | .c e n r, 0 => by rw [encP_c]; rfl
  | .c e n r, i + 1 => by
    rw [encP_c]
    simpa [O.getP] using encP_get r i
theorem encP_at {a : O} {i : Nat} {e : O} {n : Int} (h : a.getP i = some (e, n)) : atI (encP a) (i : Int) = some (prt e n) := atI_nat (by rw [encP_get, h]; rfl)
theorem encP_drop : ∀ (i : Nat) (a : O), (encP a).drop i = encP (O.dropO i a)
  | 0, a => rfl
  | i + 1, .z => by simp [encP, O.dropO]
  | i + 1, .c e n r => by
    rw [encP_c]
    simpa [O.dropO] using encP_drop i r
theorem encP_take : ∀ (i : Nat) (a : O), (encP a).take i = encP (O.takeO i a)
  | 0, a => by simp [O.takeO, encP]
  | i + 1, .z => by simp [encP, O.takeO]
  | i + 1, .c e n r => by
    rw [encP_c, List.take_succ_cons, encP_take i r]
    rfl
theorem cut_to (xs : List W) (k : Nat) : cutW xs none (some (k : Int)) = xs.take k := by
  unfold cutW
  rw [HT.sIx_none, HT.sIx_nat, List.drop_zero, Nat.sub_zero]
  rcases Nat.le_total k xs.length with h | h
  · rw [Nat.min_eq_left h]
  · rw [Nat.min_eq_right h, List.take_length, List.take_of_length_le h]
theorem cut_from (xs : List W) (k : Nat) : cutW xs (some (k : Int)) none = xs.drop k := by
  unfold cutW
  rw [HT.sIx_none, HT.sIx_nat]
  rcases Nat.le_total k xs.length with h | h
  · rw [Nat.min_eq_left h]
    exact List.take_of_length_le (by rw [List.length_drop]; (clear h; omega))
  · rw [Nat.min_eq_right h, List.drop_length, List.drop_of_length_le h]
    simp
theorem cut_to1 (xs : List W) : cutW xs none (some (-1)) = xs.take (xs.length - 1) := by
  unfold cutW
  have e : HT.sIx xs.length xs.length (some (-1)) = xs.length - 1 := by
    show (if (-1 : Int) < 0 then ((-1 : Int) + (xs.length : Int)).toNat else min (-1 : Int).toNat xs.length) = _
    rw [if_pos (by omega)]
    omega
  rw [HT.sIx_none, e, List.drop_zero, Nat.sub_zero]
theorem take_init : ∀ a : O, O.takeO (a.len - 1) a = O.init a
  | .z => rfl
  | .c _ _ .z => rfl
  | .c e n (.c e' n' r') => by
    have h := take_init (.c e' n' r')
    simp only [O.len, Nat.add_sub_cancel] at h ⊢
    rw [O.takeO, h]
    simp [O.init]
theorem cut_init (a : O) : cutW (encP a) none (some (-1)) = encP (O.init a) := by rw [cut_to1, encP_length, encP_take, take_init]
theorem last_c : ∀ {a : O}, a ≠ .z → ∃ e n, O.last a = .c e n .z ∧ a.getP (a.len - 1) = some (e, n)
  | .z, h => absurd rfl h
  | .c e n .z, _ => ⟨e, n, rfl, rfl⟩
  | .c e n (.c e' n' r'), _ => by
    obtain ⟨x, m, h1, h2⟩ := last_c (a := .c e' n' r') (by simp)
    refine ⟨x, m, ?_, ?_⟩
    · rw [← h1]; simp [O.last]
    · simp only [O.len, Nat.add_sub_cancel] at h2 ⊢
      rw [← h2]
      simp [O.getP]
theorem atI_neg1 {xs : List W} {w : W} (h : xs[xs.length - 1]? = some w) : atI xs (-1) = some w := by
  have hl : xs.length - 1 < xs.length := (List.getElem?_eq_some_iff.mp h).1
  unfold atI ixN
  rw [if_neg (by (clear h hl; omega)), if_pos (by (clear h; omega))]
  show xs[((-1 : Int) + (xs.length : Int)).toNat]? = some w
  rw [← h]
  congr 1
  (clear h; omega)
theorem encP_at_last {a : O} {e : O} {n : Int} (h : a.getP (a.len - 1) = some (e, n)) : atI (encP a) (-1) = some (prt e n) := atI_neg1 (by rw [encP_length, encP_get, h]; rfl)
theorem lts_encP : ∀ a b : O, W.ords (encP a) (encP b) = true ∧ W.lts (encP a) (encP b) = decide (O.cmp a b < 0)
  | .z, .z => by simp [encP, W.ords, W.lts, O.cmp]
  | .z, .c _ _ _ => by simp [encP, W.ords, W.lts, O.cmp]
  | .c _ _ _, .z => by simp [encP, W.ords, W.lts, O.cmp]
  | .c e n r, .c e' n' r' => by
    obtain ⟨o1, l1⟩ := lts_encP e e'
    obtain ⟨o2, l2⟩ := lts_encP r r'
    rw [encP_c, encP_c, W.ords, W.lts, prt_eq]
    by_cases h : (decide (e = e') && decide (n = n')) = true
    · rw [if_pos h, if_pos h]
      have h' : e = e' ∧ n = n' := by simpa using h
      obtain ⟨rfl, rfl⟩ := h'
      refine ⟨o2, ?_⟩
      rw [l2, O.cmp, if_neg (by rw [O.cmp_self]; simp), if_neg (by (clear o2 l2 o1 l1 h; omega)), if_neg (by (clear o2 l2 o1 l1 h; omega))]
    · rw [if_neg h, if_neg h]
      have ee : (W.tup (encP e)).eq (W.tup (encP e')) = decide (e = e') := tup_eq e e'
      unfold prt enc
      rw [W.ord, W.lt, W.ords, W.lts, ee]
      by_cases q : e = e'
      · subst q
        rw [if_pos (by simp), if_pos (by simp), W.ords, W.lts]
        have hn : ¬ n = n' := fun z => h (by simp [z])
        rw [int_eq, if_neg (by simpa using hn), if_neg (by simpa using hn), W.ord, W.lt]
        refine ⟨rfl, ?_⟩
        rw [O.cmp, if_neg (by rw [O.cmp_self]; simp)]
        by_cases k : n < n'
        · rw [if_pos k]; simp [k]
        · rw [if_neg k, if_pos (by (clear o2 l2 o1 l1 h ee; omega))]; simp [k]
      · rw [if_neg (by simpa using q), if_neg (by simpa using q), W.ord, W.lt]
        refine ⟨o1, ?_⟩
        rw [l1, O.cmp, if_pos (fun z => q (O.cmp_eq _ _ z))]
theorem encP_deps (a : O) (h : a.dp ≤ 70) : W.deps (encP a) ≤ 149 := by
  have := encP_dep a
  omega
end L2
namespace L2
open PySem PySem.Spec PyProof.Rows Nm
noncomputable def Df (K : PySem.W.Frag) (mg : Str → Option Value) (x : Str) (st : Stmt) (ps : List Str) : Prop := ∃ (f : Addr) (fd : FuncData), Fun K x x st f fd ∧ Binds K fd ps [] ∧ mg x = some (.ref f)
theorem Df.fx {P : Program} {w : World} {K : PySem.W.Frag} {mg : Str → Option Value} {base : Heap} {x : Str} {st : Stmt} {ps : List Str} {k : Nat} {sp : WSp} (D : Df K mg x st ps) (h : ∀ (f : Addr) (fd : FuncData), Fun K x x st f fd → WFn P w K mg base k f fd ps sp) : Fx P w K mg base x ps k sp := by
  obtain ⟨f, fd, F, b, m⟩ := D
  exact ⟨f, fd, h f fd F, m, F.kp, b⟩
noncomputable def spLaw : WSp := fun ws _ q _ => ∃ ns : List Int, ws = [.scr ns] ∧ ns.length ≤ 63 ∧ ∀ G', q (.bl true) G'
theorem scr_of {K : PySem.W.Frag} {H : Hp} {a : Addr} {ns : List Int} (hO : Only H) (hS : SqL K H a (ns.map V.int)) : Scr K H a ns := by
  rcases hS with (h | h) | h
  · rcases hO a with z | ⟨o, xs, z⟩
    · rw [z] at h; cases h
    · rw [z] at h; cases h
  · exact .inl h
  · exact .inr h
theorem law_start {K : PySem.W.Frag} {H : Hp} {a : Addr} {ns : List Int} (hO : Only H) (hS : SqL K H a (ns.map V.int)) (hl : ns.length ≤ 63) : LSp K spLaw [.ref a] H (fun v _ => v = .bl true) fun _ _ _ => False :=
  ⟨[.scr ns], fun _ => none, fun w _ => w = .bl true, fun _ _ => False, .cons (.scr (scr_of hO hS)) .nil, fun _ _ e => (by cases e), ⟨ns, rfl, hl, fun _ => rfl⟩, fun v H1 w G1 _ r _ e => (by subst e; cases r; rfl), fun _ _ _ _ _ _ z => z⟩
theorem mod_in {i j : Int} (h : 0 < j) : 0 ≤ i % j ∧ i % j < j := ⟨Int.emod_nonneg _ (by omega), Int.emod_lt_of_pos _ h⟩
theorem ints_at {ns : List Int} {i : Int} (h0 : 0 ≤ i) (h1 : i < ns.length) : ∃ n, atI ns i = some n := by
  have hl : i.toNat < ns.length := by omega
  have e : ((i.toNat : Nat) : Int) = i := Int.toNat_of_nonneg h0
  have q := atI_nat (List.getElem?_eq_getElem hl)
  rw [e] at q
  exact ⟨_, q⟩
theorem pick_ints {vs : List Int} {X n lo hi : Int} {R : W → Prop} (hn : n = (vs.length : Int)) (h0 : 0 < vs.length) (hall : ∀ v, v ∈ vs → lo ≤ v ∧ v ≤ hi) (hR : ∀ j, lo ≤ j → j ≤ hi → R (.int j)) : ∃ w, atI (vs.map W.int) (X % n) = some w ∧ R w := by
  have h := mod_in (i := X) (j := n) (by (clear hall hR; omega))
  have hl : (X % n).toNat < vs.length := by (clear hall hR; omega)
  have e : (((X % n).toNat : Nat) : Int) = X % n := Int.toNat_of_nonneg h.1
  have q : atI (vs.map W.int) (((X % n).toNat : Nat) : Int) = some (W.int vs[(X % n).toNat]) := atI_nat (by rw [List.getElem?_map, List.getElem?_eq_getElem hl]; rfl)
  rw [e] at q
  have := hall _ (List.getElem_mem hl)
  exact ⟨_, q, hR _ this.1 this.2⟩
theorem cpow10 (j : Int) : CPow 10 j = (0 ≤ j ∧ j ≤ 1000000) := by
  unfold CPow
  have : (10 : Int).natAbs < 2 ^ 64 := by decide
  simp [this]
theorem seqU {t u : WS} {d : WEnds} {τ : WSt} {G : Gp} (h : ∀ U : WS, U = u → t { d with nx := U d } τ G) : wSeq t u d τ G := h u rfl
theorem updG_ne' {G : Gp} {a b : Addr} {g g' : GO} (h : G b = some g') (ha : G a = none) : updG G a g b = some g' := by
  rw [updG_ne (fun z => by rw [z, ha] at h; cases h)]; exact h
theorem len_filt (p : O → Int → Bool) : ∀ a : O, (a.filt p).len ≤ a.len
  | .z => Nat.le_refl _
  | .c e n r => by
    have := len_filt p r
    rw [O.filt_c]
    split <;> simp only [O.len] <;> omega
theorem ix_eq {xs : List W} {i : Int} {R : List W → W → Prop} (h : ∃ w, atI xs i = some w ∧ R xs w) : ∃ xs' w, xs = xs' ∧ atI xs' i = some w ∧ R xs' w := by
  obtain ⟨w, e, r⟩ := h
  exact ⟨xs, w, rfl, e, r⟩
theorem ix_new {g : Option GO} {xs : List W} {i : Int} {R : List W → W → Prop} (e : g = some (.lst xs)) (h : ∃ w, atI xs i = some w ∧ R xs w) : ∃ xs' w, g = some (.lst xs') ∧ atI xs' i = some w ∧ R xs' w := by
  obtain ⟨w, e', r⟩ := h
  exact ⟨xs, w, e, e', r⟩
theorem tyN_int (G : Gp) (i : Int) : tyN G (.int i) = some "int" := rfl
theorem tyN_bl (G : Gp) (b : Bool) : tyN G (.bl b) = some "bool" := rfl
theorem tyN_tup (G : Gp) (ws : List W) : tyN G (.tup ws) = some "tuple" := rfl
theorem tyN_non (G : Gp) : tyN G .non = some "NoneType" := rfl
theorem subN_ii : subN "int" "int" = true := by decide
theorem subN_ib : subN "int" "bool" = false := by decide
theorem subN_it : subN "int" "tuple" = false := by decide
theorem subN_bi : subN "bool" "int" = true := by decide
theorem subN_bb : subN "bool" "bool" = true := by decide
theorem subN_bt : subN "bool" "tuple" = false := by decide
theorem subN_tt : subN "tuple" "tuple" = true := by decide
theorem subN_ti : subN "tuple" "int" = false := by decide
theorem subN_tb : subN "tuple" "bool" = false := by decide
theorem subN_ll : subN "list" "list" = true := by decide
theorem subN_nt : subN "NoneType" "tuple" = false := by decide
theorem cast_0 : ((0 : Nat) : Int) = 0 := rfl
theorem cast_1 : ((1 : Nat) : Int) = 1 := rfl
theorem cast_2 : ((2 : Nat) : Int) = 2 := rfl
theorem cast_3 : ((3 : Nat) : Int) = 3 := rfl
theorem whileW {c : WT} {tb : WS} {d : WEnds} {τ : WSt} {G : Gp} (I : Nat → WSt → Gp → Prop) (h0 : ∃ m, I m τ G)
    (h : ∀ m τ G, I m τ G → ∀ B : WS, B = tb → c τ G fun b G1 => if b = true then ∃ N : WSt → Gp → Prop, (∀ τ1 G1, N τ1 G1 → ∃ m1, m1 < m ∧ I m1 τ1 G1) ∧ B { d with nx := N, ct := N, bk := d.nx } τ G1 else d.nx τ G1) : wWhile c tb d τ G :=
  ⟨I, h0, fun m τ G hI => h m τ G hI tb rfl⟩
theorem atI2 {α : Type} (x y v : α) (xs : List α) : atI (x :: y :: v :: xs) 2 = some v := atI_nat (j := 2) rfl
theorem upW_drop (n i : Nat) (h : i < n) : (upW n).drop i = .int (i : Int) :: (upW n).drop (i + 1) := by
  have hl : i < (upW n).length := by simp [upW, h]
  rw [List.drop_eq_getElem_cons hl]
  congr 1
  simp [upW]
theorem loop_up {C : Gp → Prop} {g : WG} {tb : WS} {d : WEnds} {τ : WSt} {G : Gp} (n : Nat) (Iv : Nat → WSt → Gp → Prop) (h0 : Iv 0 τ G) (stop : ∀ τ G, Iv n τ G → C G ∧ d.nx τ G)
    (step : ∀ (i : Nat) τ G (k : WSt → Gp → Prop), i < n → Iv i τ G → (∀ τ3 G3, Iv (i + 1) τ3 G3 → k τ3 G3) → C G ∧ g (.int (i : Int)) τ G fun τ2 G2 => tb { d with nx := k, ct := k, bk := d.nx } τ2 G2) : loopW C g tb d (upW n) τ G := by
  refine loopW_ind (fun ws τ G => ∃ i, i ≤ n ∧ ws = (upW n).drop i ∧ Iv i τ G) ?_ ?_ _ _ _ ⟨0, Nat.zero_le _, rfl, h0⟩
  · rintro τ G ⟨i, hi, hw, hI⟩
    have : i = n := by
      rcases Nat.lt_or_ge i n with k | k
      · rw [upW_drop n i k] at hw; cases hw
      · (clear h0 stop step hw hI; omega)
    subst this
    exact stop τ G hI
  · rintro w ws τ G k ⟨i, hi, hw, hI⟩ hk
    have hlt : i < n := by
      rcases Nat.lt_or_ge i n with j | j
      · exact j
      · rw [List.drop_of_length_le (by simp [upW]; assumption)] at hw; cases hw
    rw [upW_drop n i hlt] at hw
    cases hw
    exact step i τ G k hlt hI fun τ3 G3 h3 => hk τ3 G3 ⟨i + 1, hlt, rfl, h3⟩
theorem upL_drop (lo : Int) (n i : Nat) (h : i < n) : (upL lo n).drop i = .int (lo + (i : Int)) :: (upL lo n).drop (i + 1) := by
  have hl : i < (upL lo n).length := by simp [upL, h]
  rw [List.drop_eq_getElem_cons hl]
  congr 1
  simp [upL]
theorem loop_upL {C : Gp → Prop} {g : WG} {tb : WS} {d : WEnds} {τ : WSt} {G : Gp} (lo : Int) (n : Nat) (Iv : Nat → WSt → Gp → Prop) (h0 : Iv 0 τ G) (stop : ∀ τ G, Iv n τ G → C G ∧ d.nx τ G)
    (step : ∀ (i : Nat) τ G (k : WSt → Gp → Prop), i < n → Iv i τ G → (∀ τ3 G3, Iv (i + 1) τ3 G3 → k τ3 G3) → C G ∧ g (.int (lo + (i : Int))) τ G fun τ2 G2 => tb { d with nx := k, ct := k, bk := d.nx } τ2 G2) : loopW C g tb d (upL lo n) τ G := by
  refine loopW_ind (fun ws τ G => ∃ i, i ≤ n ∧ ws = (upL lo n).drop i ∧ Iv i τ G) ?_ ?_ _ _ _ ⟨0, Nat.zero_le _, rfl, h0⟩
  · rintro τ G ⟨i, hi, hw, hI⟩
    have : i = n := by
      rcases Nat.lt_or_ge i n with k | k
      · rw [upL_drop lo n i k] at hw; cases hw
      · (clear h0 stop step hw hI; omega)
    subst this
    exact stop τ G hI
  · rintro w ws τ G k ⟨i, hi, hw, hI⟩ hk
    have hlt : i < n := by
      rcases Nat.lt_or_ge i n with j | j
      · exact j
      · rw [List.drop_of_length_le (by simp [upL]; assumption)] at hw; cases hw
    rw [upL_drop lo n i hlt] at hw
    cases hw
    exact step i τ G k hlt hI fun τ3 G3 h3 => hk τ3 G3 ⟨i + 1, hlt, rfl, h3⟩
theorem upS_drop (lo c : Int) (n i : Nat) (h : i < n) : (upS lo c n).drop i = .int (lo + (i : Int) * c) :: (upS lo c n).drop (i + 1) := by
  have hl : i < (upS lo c n).length := by simp [upS, h]
  rw [List.drop_eq_getElem_cons hl]
  congr 1
  simp [upS]
theorem loop_upS {C : Gp → Prop} {g : WG} {tb : WS} {d : WEnds} {τ : WSt} {G : Gp} (lo c : Int) (n : Nat) (Iv : Nat → WSt → Gp → Prop) (h0 : Iv 0 τ G) (stop : ∀ τ G, Iv n τ G → C G ∧ d.nx τ G)
    (step : ∀ (i : Nat) τ G (k : WSt → Gp → Prop), i < n → Iv i τ G → (∀ τ3 G3, Iv (i + 1) τ3 G3 → k τ3 G3) → C G ∧ g (.int (lo + (i : Int) * c)) τ G fun τ2 G2 => tb { d with nx := k, ct := k, bk := d.nx } τ2 G2) : loopW C g tb d (upS lo c n) τ G := by
  refine loopW_ind (fun ws τ G => ∃ i, i ≤ n ∧ ws = (upS lo c n).drop i ∧ Iv i τ G) ?_ ?_ _ _ _ ⟨0, Nat.zero_le _, rfl, h0⟩
  · rintro τ G ⟨i, hi, hw, hI⟩
    have : i = n := by
      rcases Nat.lt_or_ge i n with k | k
      · rw [upS_drop lo c n i k] at hw; cases hw
      · (clear h0 stop step hw hI; omega)
    subst this
    exact stop τ G hI
  · rintro w ws τ G k ⟨i, hi, hw, hI⟩ hk
    have hlt : i < n := by
      rcases Nat.lt_or_ge i n with j | j
      · exact j
      · rw [List.drop_of_length_le (by simp [upS]; assumption)] at hw; cases hw
    rw [upS_drop lo c n i hlt] at hw
    cases hw
    exact step i τ G k hlt hI fun τ3 G3 h3 => hk τ3 G3 ⟨i + 1, hlt, rfl, h3⟩
noncomputable def AllP (Pd : O → Int → Prop) : O → Prop
  | .z => True
  | .c e n r => Pd e n ∧ AllP Pd r
theorem AllP.imp {Pd Pd' : O → Int → Prop} (h : ∀ e n, Pd e n → Pd' e n) : ∀ {a : O}, AllP Pd a → AllP Pd' a
  | .z, _ => trivial
  | .c _ _ _, k => ⟨h _ _ k.1, AllP.imp h k.2⟩
theorem allP_dp : ∀ a : O, AllP (fun e _ => e.dp < a.dp ∧ e.size < a.size) a
  | .z => trivial
  | .c e n r => ⟨by simp only [O.dp, O.size]; omega, (allP_dp r).imp fun x m h => by simp only [O.dp, O.size]; omega⟩
theorem allP_hw : ∀ a : O, AllP (fun e _ => e.dp < a.dp ∧ O.hw e ≤ O.hw a) a
  | .z => trivial
  | .c e n r => ⟨by rw [O.hw_c]; simp only [O.dp]; omega, (allP_hw r).imp fun x m h => by rw [O.hw_c]; simp only [O.dp]; omega⟩
noncomputable def mapP (p : O → Int → Bool) (f : O → Int → W) : O → List W
  | .z => []
  | .c e n r => if p e n then f e n :: mapP p f r else mapP p f r
theorem mapP_prt (p : O → Int → Bool) : ∀ a : O, mapP p prt a = encP (a.filt p)
  | .z => rfl
  | .c e n r => by
    rw [mapP, O.filt_c, mapP_prt p r]
    split
    · rw [encP_c]
    · rfl
theorem mapP_same (x : O) : ∀ a : O, ∃ ns : List Int, mapP (fun e _ => decide (e = x)) (fun _ n => .int n) a = ns.map W.int ∧ ns.sum = O.same x a
  | .z => ⟨[], rfl, rfl⟩
  | .c e n r => by
    obtain ⟨ns, h1, h2⟩ := mapP_same x r
    by_cases h : e = x
    · subst h
      refine ⟨n :: ns, by rw [mapP, if_pos (by simp), h1]; rfl, ?_⟩
      rw [O.same_eq, List.sum_cons, h2]
    · refine ⟨ns, by rw [mapP, if_neg (by simpa using h), h1], ?_⟩
      rw [O.same_ne h, h2]
theorem comp_dem {C : Gp → Prop} {te : WE} {i : Nat} {τ0 : WSt} {G : Gp} {q : List W → Gp → Prop} (hC : C G) : ∀ {ws acc : List W} {τ : WSt},
    (∀ w, w ∈ ws → ∀ k : W → Gp → Prop, (∀ v : Int, k (.int v) G) → te (τ0.set i (some w)) G k) → acc.length + ws.length ≤ 100000 → (∀ x, τ.set i x = τ0.set i x) → (∀ us : List Int, us.length = ws.length → q (acc ++ us.map W.int) G) → compW C (hName i) wTrue te ws τ G acc q
  | [], acc, τ, _, _, _, hq => ⟨hC, by simpa using hq [] rfl⟩
  | w :: ws, acc, τ, ht, hl, hτ, hq => by
    refine ⟨hC, ?_⟩
    show te (τ.set i (some w)) G _
    rw [hτ]
    simp only [List.length_cons] at hl
    refine ht w List.mem_cons_self _ fun v => ⟨by (clear hC ht hτ hq; omega), ?_⟩
    exact comp_dem hC (fun u hu => ht u (List.mem_cons_of_mem _ hu)) (by simp; (clear hC ht hτ hq; omega)) (fun x => List.set_set ..) fun us hu => by
      have := hq (v :: us) (by simp [hu])
      simpa using this
theorem comp_enc {C : Gp → Prop} {tt : WT} {te : WE} {i : Nat} {τ0 : WSt} {G : Gp} {q : List W → Gp → Prop} {Pd : O → Int → Prop} (p : O → Int → Bool) (f : O → Int → W) (hC : C G) : ∀ {a : O} {acc : List W} {τ : WSt}, AllP Pd a →
    (∀ e n, Pd e n → ∀ k : Bool → Gp → Prop, k (p e n) G → tt (τ0.set i (some (prt e n))) G k) → (∀ e n, Pd e n → p e n = true → ∀ k : W → Gp → Prop, k (f e n) G → te (τ0.set i (some (prt e n))) G k) → acc.length + a.len ≤ 100000 → (∀ x, τ.set i x = τ0.set i x) →
    q (acc ++ mapP p f a) G → compW C (hName i) tt te (encP a) τ G acc q
  | .z, acc, τ, _, _, _, _, _, hq => ⟨hC, by simpa [mapP] using hq⟩
  | .c e n r, acc, τ, hP, ht, he, hl, hτ, hq => by
    rw [encP_c]
    refine ⟨hC, ?_⟩
    show tt (τ.set i (some (prt e n))) G _
    rw [hτ]
    refine ht e n hP.1 _ ?_
    have hτ' : ∀ x, (τ0.set i (some (prt e n))).set i x = τ0.set i x := fun x => List.set_set ..
    simp only [O.len] at hl
    rw [mapP] at hq
    cases hp : p e n with
    | true =>
      rw [if_pos rfl]
      refine he e n hP.1 hp _ ⟨by (clear hC hP ht he hτ hq hτ' hp; omega), ?_⟩
      rw [hp, if_pos rfl] at hq
      exact comp_enc p f hC hP.2 ht he (by rw [List.length_append]; simp; (clear hC hP ht he hτ hq hτ' hp; omega)) hτ' (by simpa using hq)
    | false =>
      rw [if_neg Bool.false_ne_true]
      rw [hp, if_neg Bool.false_ne_true] at hq
      exact comp_enc p f hC hP.2 ht he (by (clear hC hP ht he hτ hq hτ' hp; omega)) hτ' hq
end L2
namespace L2
open PySem PySem.Spec PyProof.Rows Nm
noncomputable def cap : Int := (10 ^ 172) ^ 7
theorem cap_big {i : Int} (h0 : 0 ≤ i) (h : i ≤ cap) : i.natAbs < 2 ^ 4000 := by
  have h2 : cap < ((2 ^ 4000 : Nat) : Int) := by decide +kernel
  generalize (2 : Nat) ^ 4000 = B at h2 ⊢
  omega
theorem bigC {i j : Int} (h1 : 0 ≤ i) (h2 : i ≤ cap) (h3 : 0 ≤ j) (h4 : j ≤ cap) : BigM i j := ⟨cap_big h1 h2, cap_big h3 h4⟩
end L2
namespace Nm
namespace O
theorem hw_take : ∀ (i : Nat) (a : O), hw (takeO i a) ≤ hw a
  | 0, a => Nat.zero_le _
  | _ + 1, z => Nat.le_refl _
  | i + 1, c e n r => by have := hw_take i r; have := len_take i r; rw [takeO, hw_c, hw_c]; omega
theorem hw_drop : ∀ (i : Nat) (a : O), hw (dropO i a) ≤ hw a
  | 0, a => Nat.le_refl _
  | _ + 1, z => Nat.le_refl _
  | i + 1, c e n r => by have := hw_drop i r; rw [dropO, hw_c]; omega
end O
end Nm
namespace L2
open PySem PySem.Spec PyProof.Rows Nm
section
variable {P : Program} {w : World} {K : PySem.W.Frag} {mg : Str → Option Value} {base : Heap} {x : Str} {st : Stmt} {ps : List Str} {k : Nat} {sp : WSp}
end
end L2
namespace L2
open PySem PySem.Spec PyProof.Rows PySem.W
@[irreducible] def Cell (i : Int) : Prop := i.natAbs < 2 ^ 1048576
@[irreducible] def Wide (i : Int) : Prop := i.natAbs < 2 ^ 1048577
set_option exponentiation.threshold 500 in
noncomputable def CellM (i j : Int) : Prop := (Wide i ∧ j.natAbs < 2 ^ 4000) ∨ (i.natAbs < 2 ^ 4000 ∧ Wide j)
noncomputable def CMulC (i j : Int) : Prop := CMulB i j ∨ CellM i j
section
variable {X : Cx}
end
end L2
namespace L2
open PySem PySem.Spec PyProof.Rows
section
variable {X : Cx}
end
end L2
namespace L2
open PySem PySem.Spec PyProof.Rows
end L2
namespace Nm
namespace O
end O
end Nm
set_option linter.all false
set_option maxRecDepth 100000
namespace L2
open PySem PySem.Spec PyProof.Rows
section
variable {X : Cx}
noncomputable def rIxS3 : W2 := fun x y G q => match x, y with
  | .str z, .int i => z.length ≤ 100000 ∧ ∃ c, atI z.cps.toList i = some c ∧ q (.str ⟨#[c]⟩) G
  | x, y => rIx3 x y G q
theorem q_ixS : QIx X rIxS3 := by
  intro value slice pins s σ H x y v u Q I rx ry ⟨wx, wy, G, q, r1, r2, g, h, hQ⟩ hsl
  unfold rIxS3 at h
  split at h
  · obtain ⟨hz, c, e, h⟩ := h
    cases r1
    cases r2
    exact ix_str value slice pins s σ H _ _ v u Q I rx ry ⟨_, _, c, rfl, rfl, line_le hz, e, hQ _ H _ G (TLe.refl H) (.str _) g h⟩ hsl
  · exact q_ix value slice pins s σ H x y v u Q I rx ry ⟨wx, wy, G, q, r1, r2, g, h, hQ⟩ hsl
variable {tg : Expr}
end
end L2
set_option linter.all false
namespace L2
open PySem PySem.Spec PyProof.Rows Nm
theorem fresh_of {G G' : Gp} {p : Addr} (h : GLe G G') (hp : G' p = none) : G p = none := by
  cases e : G p with
  | none => rfl
  | some g => rw [h _ _ e] at hp; cases hp
theorem updG_twice {G : Gp} {p : Addr} {g g' : GO} : updG (updG G p g) p g' = updG G p g' := by
  funext b
  unfold updG
  split <;> rfl
theorem gle_put {G G' : Gp} {p : Addr} {g : GO} (h : GLe G G') (hp : G p = none) : GLe G (updG G' p g) := fun x u e => (updG_ne (fun z => by rw [z, hp] at e; cases e)).trans (h _ _ e)
end L2
set_option linter.all false
set_option maxRecDepth 100000
namespace L2
open PySem PySem.Spec PyProof.Rows
section
variable {X : Cx} {pins : List (Addr × Obj)} {σ : St} {H : Hp} {s : Shared} {a : Addr} {o : Obj} {kvs : List (Key × V)}
variable {tg : Expr}
end
end L2
set_option linter.all false
set_option maxRecDepth 100000
namespace L2
open PySem PySem.Spec PyProof.Rows
noncomputable def valW (kvs : List (Key × W)) (k : Key) : Option W := (kvs.find? fun kv => decide (kv.1 = k)).map (·.2)
noncomputable def putD (kvs : List (Key × W)) (k : Key) (w : W) : List (Key × W) :=
  if (kvs.any fun kv => decide (kv.1 = k)) = true then kvs.map (fun kv => if kv.1 = k then (kv.1, w) else kv) else kvs ++ [(k, w)]
inductive DP (K : PySem.W.Frag) (H : Hp) : List (Key × W) → List (Key × V) → Prop where
  | nil : DP K H [] []
  | cons {k : Key} {w : W} {v : V} {kvs : List (Key × W)} {us : List (Key × V)} (r : Rep K H w v) (t : DP K H kvs us) : DP K H ((k, w) :: kvs) ((k, v) :: us)
section
variable {K : PySem.W.Frag} {H H1 : Hp}
theorem DP.of : ∀ {kvs : List (Key × W)} {us : List (Key × V)}, us.map (·.1) = kvs.map (·.1) → Reps K H (kvs.map (·.2)) (us.map (·.2)) → DP K H kvs us
  | [], [], _, _ => .nil
  | [], _ :: _, h, _ => by simp at h
  | _ :: _, [], h, _ => by simp at h
  | (k, w) :: kvs, (k', v) :: us, h, r => by
    simp only [List.map_cons, List.cons.injEq] at h
    obtain ⟨rfl, h⟩ := h
    cases r with
    | cons r rs => exact .cons r (DP.of h rs)
theorem DP.keys {kvs : List (Key × W)} {us : List (Key × V)} (d : DP K H kvs us) : us.map (·.1) = kvs.map (·.1) := by
  induction d with
  | nil => rfl
  | cons r t ih => rw [List.map_cons, List.map_cons, ih]
theorem DP.vals {kvs : List (Key × W)} {us : List (Key × V)} (d : DP K H kvs us) : Reps K H (kvs.map (·.2)) (us.map (·.2)) := by
  induction d with
  | nil => exact .nil
  | cons r t ih => exact .cons r ih
theorem DP.len {kvs : List (Key × W)} {us : List (Key × V)} (d : DP K H kvs us) : us.length = kvs.length := by
  have := congrArg List.length d.keys
  simpa using this
theorem DP.mono {kvs : List (Key × W)} {us : List (Key × V)} (t : TLe H H1) (d : DP K H kvs us) : DP K H1 kvs us := DP.of d.keys (d.vals.mono t)
theorem DP.val {kvs : List (Key × W)} {us : List (Key × V)} (d : DP K H kvs us) (k : Key) : (valW kvs k = none ∧ valV us k = none) ∨ ∃ w v, valW kvs k = some w ∧ valV us k = some v ∧ Rep K H w v := by
  induction d with
  | nil => exact .inl ⟨rfl, rfl⟩
  | @cons k' w v kvs us r t ih =>
    by_cases e : k' = k
    · exact .inr ⟨w, v, by simp [valW, List.find?_cons, e], valV_pos e, r⟩
    · rw [show valW ((k', w) :: kvs) k = valW kvs k by simp [valW, List.find?_cons, e], valV_neg (p := (k', v)) e]
      exact ih
theorem DP.any {kvs : List (Key × W)} {us : List (Key × V)} (d : DP K H kvs us) (k : Key) : (us.any fun kv => decide (kv.1 = k)) = kvs.any fun kv => decide (kv.1 = k) := by
  induction d with
  | nil => rfl
  | cons r t ih => rw [List.any_cons, List.any_cons, ih]
theorem DP.put {kvs : List (Key × W)} {us : List (Key × V)} (d : DP K H kvs us) (k : Key) {w : W} {v : V} (r : Rep K H w v) : DP K H (putD kvs k w) (putK us k v) := by
  unfold putD putK
  rw [d.any k]
  by_cases e : (kvs.any fun kv => decide (kv.1 = k)) = true
  · rw [if_pos e, if_pos e]
    clear e
    induction d with
    | nil => exact .nil
    | @cons k' w' v' kvs us r' t ih =>
      rw [List.map_cons, List.map_cons]
      by_cases e : k' = k
      · rw [if_pos e, if_pos e]; exact .cons r ih
      · rw [if_neg e, if_neg e]; exact .cons r' ih
  · rw [if_neg e, if_neg e]
    clear e
    induction d with
    | nil => exact .cons r .nil
    | cons r' t ih => exact .cons r' ih
end
theorem putD_len (kvs : List (Key × W)) (k : Key) (w : W) : (putD kvs k w).length ≤ kvs.length + 1 := by
  unfold putD
  split
  · rw [List.length_map]; omega
  · rw [List.length_append, List.length_cons, List.length_nil]; omega
noncomputable def GD (G : Gp) (a : Addr) (kvs : List (Key × W)) : Prop := G a = some (.dic kvs) ∨ ∃ o us, G a = some (.fdc o us kvs)
section
variable {K : PySem.W.Frag} {H : Hp} {G : Gp} {a : Addr} {kvs : List (Key × W)}
theorem GD.rd (h : GD G a kvs) (g : RelG K H G) : kvs.length ≤ 100000 ∧ ∃ us, Rd H a (.dK us) ∧ DP K H kvs us := by
  rcases h with h | ⟨o, us, h⟩
  · obtain ⟨l, us, e, n, r⟩ := g a _ h
    exact ⟨l, us, .inl e, DP.of n r⟩
  · obtain ⟨l, e, n, r⟩ := g a _ h
    exact ⟨l, us, .inr ⟨o, e⟩, DP.of n r⟩
theorem TLe.dk {us : List (Key × V)} (hp : H a = some (.dK us)) (o : HO) : TLe H (upd H a o) :=
  ⟨fun _ _ h => by rw [upd_ne (ne_of h hp (by intro z; cases z))]; exact h, fun _ _ _ h => by rw [upd_ne (ne_of h hp (by intro z; cases z))]; exact h⟩
end
section
variable {X : Cx} {pins : List (Addr × Obj)} {σ : St} {H : Hp} {s : Shared} {A : Around} {E : Value → Shared → Prop}
noncomputable def rIxD : W2 := fun x y G q => match x, y with
  | .ref a, .str z => ∃ kvs w, GD G a kvs ∧ valW kvs (.inr z) = some w ∧ q w G
  | x, y => rIxS3 x y G q
theorem q_ixD : QIx X rIxD := by
  intro value slice pins s σ H x y v u Q I rx ry ⟨wx, wy, G, q, r1, r2, g, h, hQ⟩ hsl
  unfold rIxD at h
  split at h
  · rename_i a z
    obtain ⟨kvs, w, hd, hv, h⟩ := h
    cases r1
    cases r2
    cases rx
    obtain ⟨_, us, rd, dp⟩ := hd.rd g
    obtain ⟨hl, hm, vs, rel, dd⟩ := dk_rd I.hok rd
    rcases dp.val (.inr z) with ⟨e, _⟩ | ⟨w', v', e, e', r⟩
    · rw [e] at hv; cases hv
    · rw [e] at hv; cases hv
      obtain ⟨u', hw, ru⟩ := RelO.some_of (v := v') (o := valueAt vs (.inr z)) (by rw [← e']; exact rel.val (.inr z))
      exact tail_any dd.typeIs PySem.F.slot_dict_getitem.lookup (wpAny_getItem_of (kV_is (P := X.prog) (w := X.w) (k := .inr z) ry) dd.mapOf hw ⟨v', H, I.tok _, ru, hQ _ H _ G (TLe.refl H) r g h⟩) hsl
  · exact q_ixS value slice pins s σ H x y v u Q I rx ry ⟨wx, wy, G, q, r1, r2, g, h, hQ⟩ hsl
structure InL (ws : List W) (x : W) : Prop where
  fx : x.flat = true
  fs : W.flats ws = true
  hd : W.deps ws ≤ 149
inductive InW (G : Gp) (a : Addr) : W → Bool → Prop where
  | dic {kvs : List (Key × W)} {z : Str} (h : GD G a kvs) : InW G a (.str z) (valW kvs (.inr z)).isSome
  | lst {ws : List W} {x : W} (h : G a = some (.lst ws)) (l : InL ws x) : InW G a x (ws.any fun w => w.eq x)
open Classical in
noncomputable def wDicN : WE := fun _ G q => ∀ p, G p = none → q (.ref p) (updG G p (.dic []))
theorem qe_dicN {pos : Pos} : QE X (.Dict [] [] pos) wDicN :=
  pe_dnewK.imp fun σ H Q z0 => z0.el fun τ G q hs hg ht hQ p hp => hQ _ _ _ _ (TLe.new hp _) (.ref p) (hg.lay (g := .dic []) (TLe.new hp _) ⟨Nat.zero_le _, [], upd_same, rfl, .nil⟩) (ht p (hg.fresh hp))
noncomputable def WEnds.th (a : Addr) (d : WEnds) : WEnds where
  nx := fun τ G => ∃ o us kvs, G a = some (.fdc o us kvs) ∧ d.nx τ (updG G a (.dic kvs))
  rt := fun w G => ∃ o us kvs, G a = some (.fdc o us kvs) ∧ d.rt w (updG G a (.dic kvs))
  bk := fun τ G => ∃ o us kvs, G a = some (.fdc o us kvs) ∧ d.bk τ (updG G a (.dic kvs))
  ct := fun τ G => ∃ o us kvs, G a = some (.fdc o us kvs) ∧ d.ct τ (updG G a (.dic kvs))
noncomputable def Ends.th (a : Addr) (d : Ends) : Ends where
  nx := fun τ G => ∃ o us, G a = some (.frz o (.dK us)) ∧ d.nx τ (upd G a (.dK us))
  rt := fun w G => ∃ o us, G a = some (.frz o (.dK us)) ∧ d.rt w (upd G a (.dK us))
  bk := fun τ G => ∃ o us, G a = some (.frz o (.dK us)) ∧ d.bk τ (upd G a (.dK us))
  ct := fun τ G => ∃ o us, G a = some (.frz o (.dK us)) ∧ d.ct τ (upd G a (.dK us))
noncomputable def kW : Key → W
  | .inl i => .int i
  | .inr x => .str x
variable {tg : Expr}
end
end L2
set_option linter.all false
set_option maxRecDepth 100000
namespace L2
open PySem PySem.Spec PyProof.Rows
section
variable {X : Cx} {elts : List Expr} {k : Nat} {tp : Pos}
end
end L2
set_option linter.all false
set_option maxRecDepth 100000
namespace L2
open PySem PySem.Spec PyProof.Rows
section
variable {X : Cx} {pins : List (Addr × Obj)} {σ : St} {H : Hp} {s : Shared}
inductive LenW (G : Gp) (a : Addr) : Nat → Prop where
  | lst {ws : List W} (h : G a = some (.lst ws)) : LenW G a ws.length
  | dic {kvs : List (Key × W)} (h : GD G a kvs) : LenW G a kvs.length
inductive ItsW (G : Gp) (a : Addr) : List W → Prop where
  | lst {ws : List W} (h : G a = some (.lst ws)) : ItsW G a ws
  | dic {kvs : List (Key × W)} (h : GD G a kvs) : ItsW G a (kvs.map fun p => kW p.1)
noncomputable def rGet : V → List V → Hp → VK → Prop := fun x vs H Q => ∃ a kvs k d, x = .ref a ∧ vs = [kV k, d] ∧ H a = some (.dK kvs) ∧ Q ((valV kvs k).getD d) H
theorem mt_get : MtR X "dict.get" rGet := by
  intro pins s σ H x vs v us Q I rx rv ⟨a, kvs, k, d, e1, e2, e, q⟩
  subst e1 e2
  cases rx
  obtain ⟨u1, u2, rfl, r1, r2⟩ := vals2 rv
  obtain ⟨z, hd, vs, rel, dd⟩ := dk_of I.hok e
  exact call_meetsIn PySem.F.slot_dict_get dd.typeIs PySem.F.entry_dict_get (PySem.F.args_dict_get_3 _ _ _) (meets_dict_get_default (mixKind X.prog X.w) a (kV_is r1) hd u2) ⟨_, dd.mapOf, _, H, I.tok _, (rel.val k).getD r2, q⟩
inductive SameV (G : Gp) : W → W → Prop where
  | int (i : Int) : SameV G (.int i) (.int i)
  | lst {a b : Addr} {ws us : List W} (ea : G a = some (.lst ws)) (eb : G b = some (.lst us)) (f1 : W.flats ws = true) (f2 : W.flats us = true) (hd : W.deps ws ≤ 8) (he : W.eqs ws us = true) : SameV G (.ref a) (.ref b)
inductive EqD (G : Gp) (a b : Addr) : Bool → Prop where
  | lst {ws us : List W} (ea : G a = some (.lst ws)) (eb : G b = some (.lst us)) (f1 : W.flats ws = true) (f2 : W.flats us = true) (hd : W.deps ws ≤ 149) : EqD G a b (W.eqs ws us)
  | dic {kvs us : List (Key × W)} (ea : GD G a kvs) (eb : GD G b us) (hl : kvs.length = us.length) (hv : ∀ p, p ∈ kvs → ∃ w', valW us p.1 = some w' ∧ SameV G p.2 w') : EqD G a b true
noncomputable def rEqD : W2 := fun x y G q => match x, y with
  | .ref a, .ref b => ∃ r, EqD G a b r ∧ q (.bl r) G
  | x, y => rEq3 x y G q
theorem same_at {A : Around} (hu : A.units + 20 < cLine) {G : Gp} {w1 w2 : W} {v1 v2 : V} {u1 u2 : Value} (I : Inv X pins σ H s) (g : RelG X.K H G) (h : SameV G w1 w2) (r1 : Rep X.K H w1 v1) (r2 : Rep X.K H w2 v2) (q1 : RelV v1 u1) (q2 : RelV v2 u2) : SeqAt.EqAt A s u1 u2 true := by
  cases h with
  | int i =>
    cases r1
    cases r2
    have := (eq_rep I 10 A (w1 := .int i) (w2 := .int i) (by show 0 < 10; decide) rfl rfl (by (clear I g q1 q2; omega)) (.int i) (.int i) q1 q2).1
    rw [int_eq] at this
    simpa using this
  | @lst a b ws us ea eb f1 f2 hd he =>
    cases r1
    cases r2
    cases q1
    cases q2
    by_cases hne : a = b
    · subst hne; exact SeqAt.EqAt.same _
    obtain ⟨_, xs, e1, ra⟩ := g _ _ ea
    obtain ⟨_, ys, e2, rb⟩ := g _ _ eb
    obtain ⟨its, rv, p, _⟩ := I.list (SqL.of e1)
    obtain ⟨its2, rv2, p2, _⟩ := I.list (SqL.of e2)
    have l1 : its.length = ws.length := by rw [← rv.length, ra.length]
    have l2 : its2.length = us.length := by rw [← rv2.length, rb.length]
    have hl : ws.length = us.length := by
      by_cases hl : ws.length = us.length
      · exact hl
      · rw [eqs_len hl] at he; cases he
    have c1 := SeqAt.RcAt.lists p.isList p2.isList (by rw [List.size_toArray, List.size_toArray, l1, l2, hl]) (A := A) (by (clear I g ea eb f1 f2 hd he hne e1 ra e2 rb rv p rv2 p2 l1 l2 hl; omega)) (eqJ I (n := 10) (by (clear hu I g ea eb f1 f2 he hne e1 ra e2 rb rv p rv2 p2 l1 l2 hl; omega)) f1 f2 (by show A.units + 1 + 10 < cLine; (clear I g ea eb f1 f2 hd he hne e1 ra e2 rb rv p rv2 p2 l1 l2 hl; omega)) ra rb rv rv2)
    have er := eqs_range ws us
    rw [← hl, Nat.min_self, beq_self_eq_true, Bool.and_true] at er
    rw [List.size_toArray, l1, er, he] at c1
    exact SeqAt.EqAt.of_refs hne c1
theorem hits_of {A : Around} (hu : A.units + 20 < cLine) {G : Gp} (I : Inv X pins σ H s) (g : RelG X.K H G) {kb : List (Key × Value)} {us : List (Key × W)} {ub : List (Key × V)} (db : DP X.K H us ub) (rb : KV ub kb) :
    ∀ {kvs : List (Key × W)} {ua : List (Key × V)} {ka : List (Key × Value)}, DP X.K H kvs ua → KV ua ka → (∀ p, p ∈ kvs → ∃ w', valW us p.1 = some w' ∧ SameV G p.2 w') → PySem.W.KeqHits A s kb ka true := by
  intro kvs ua ka d
  induction d generalizing ka with
  | nil =>
    intro r _
    cases r
    exact .nil
  | @cons k w v kvs ua rw' t ih =>
    intro r hv
    cases r with
    | @cons _ b _ bs r1 rt =>
      obtain ⟨b1, b2⟩ := b
      obtain ⟨e1, r2⟩ := r1
      cases (show k = b1 from e1)
      obtain ⟨w', hw, sv⟩ := hv _ List.mem_cons_self
      rcases db.val k with ⟨e, _⟩ | ⟨w2, v2, e, e', r3⟩
      · rw [e] at hw; cases hw
      · rw [e] at hw; cases hw
        obtain ⟨y, hy, ry⟩ := RelO.some_of (v := v2) (o := valueAt kb k) (by rw [← e']; exact rb.val k)
        exact .hit (e := true) (b := true) hy (same_at hu I g sv rw' r3 r2 ry) (ih rt fun p hp => hv p (List.mem_cons_of_mem _ hp))
theorem q_eqD {k : Nat} (hr : Room k X.A) : QOp X (compareOp .Eq) rEqD := by
  intro pins s σ H x y v u Q I rx ry ⟨wx, wy, G, q, r1, r2, g, h, hQ⟩
  unfold rEqD at h
  split at h
  · obtain ⟨r, he, h⟩ := h
    cases he with
    | lst ea eb f1 f2 hd => exact q_eq4 hr pins s σ H x y v u Q I rx ry ⟨_, _, G, q, r1, r2, g, ⟨_, _, ea, eb, f1, f2, hd, h⟩, hQ⟩
    | dic ea eb hl hv =>
      cases r1
      cases r2
      cases rx
      cases ry
      have hu := hr.un
      obtain ⟨_, ua, ra, da⟩ := ea.rd g
      obtain ⟨_, ub, rb, db⟩ := eb.rd g
      obtain ⟨_, ma, ka, qa, dda⟩ := dk_rd I.hok ra
      obtain ⟨_, mb, kb, qb, ddb⟩ := dk_rd I.hok rb
      have hlen : ka.length = kb.length := by rw [← qa.length, ← qb.length, da.len, db.len, hl]
      refine PySem.W.keq_eq ma mb dda ddb (by (clear hr I g hQ ea eb hl hv h ra da rb db ma qa dda mb qb ddb hlen; omega)) (fun _ => hits_of (A := X.A.in1) (by show X.A.units + 1 + 20 < cLine; (clear hr I g hQ ea eb hl hv h ra da rb db ma qa dda mb qb ddb hlen; omega)) I g db qb da qa hv) ?_
      rw [hlen, beq_self_eq_true, Bool.true_and]
      exact ⟨.bl _, H, I, rfl, hQ _ H _ G (TLe.refl H) (.bl _) g h⟩
  · exact q_eq hr pins s σ H x y v u Q I rx ry ⟨wx, wy, G, q, r1, r2, g, h, hQ⟩
structure Fst (ws : List W) (x : W) (j : Nat) : Prop where
  hit : ∃ w, ws[j]? = some w ∧ w.eq x = true
  no : ∀ m w, m < j → ws[m]? = some w → w.eq x = false
end
end L2
set_option linter.all false
set_option maxRecDepth 100000
namespace L2
open PySem PySem.Spec PyProof.Rows
section
variable {prog : Program} {w : World} {A : Around} {R : Result → Shared → Prop} {I : Addr} {fp wr : List Addr} {Gn : Array GenState → Array GenState → Prop} {n : Nat} {P : Nat → Value → Prop} {St : Nat → Shared → Prop}
end
section
variable {prog : Program} {w : World} {A : Around} {E : Value → Shared → Prop} {s : Shared}
set_option maxHeartbeats 3200000 in
end
section
variable {X : Cx}
end
end L2
set_option linter.all false
set_option maxRecDepth 100000
namespace L2
open PySem PySem.Spec PyProof.Rows
section
variable {X : Cx} {pins : List (Addr × Obj)} {σ : St} {H : Hp} {s : Shared}
set_option maxHeartbeats 4000000 in
inductive DSrc (G : Gp) (a : Addr) (kvs : List (Key × W)) : Prop where
  | dic (h : GD G a kvs) : DSrc G a kvs
  | lst {ps : List (Key × W)} (h : G a = some (.lst (ps.map fun p => .tup [kW p.1, p.2]))) (e : kvs = ps.foldl (fun a p => putD a p.1 p.2) []) : DSrc G a kvs
end
end L2
set_option linter.all false
set_option maxRecDepth 100000
namespace L2
open PySem PySem.Spec PyProof.Rows
section
variable {prog : Program} {w : World} {A : Around} {s : Shared}
noncomputable def EqIn (prog : Program) (w : World) (A : Around) (s : Shared) (u v : Value) : Prop := ∀ (E : Value → Shared → Prop) (Q : Bool → Shared → Prop), Q true s → wpAny (model prog w) A (eqBool u v) Q E s
theorem EqIn.of {u v : Value} (h : SeqAt.EqAt A s u v true) : EqIn prog w A s u v := fun E Q q => h prog w E Q q
theorem EqIn.refs {l b : Addr} (h : l ≠ b → ∀ (E : Value → Shared → Prop) (Q : Value → Shared → Prop), Q (.bool true) s → wpAny (model prog w) A (richCompare .Eq (.ref l) (.ref b)) Q E s) : EqIn prog w A s (.ref l) (.ref b) := by
  by_cases hne : l = b
  · subst hne
    exact .of (SeqAt.EqAt.same _)
  · exact fun E Q q => wpAny_holding (wpAny_ite_split (fun hab => absurd (by have := eq_of_beq hab; injection this) hne) fun _ => wpAny_bind (h hne E _ (wpAny_truthy_bool q)))
theorem rc_pair {l b : Addr} {x1 x2 y1 y2 : Value} (hl : s.heap.IsTuple l #[x1, x2]) (hb : s.heap.IsTuple b #[y1, y2]) (hu : A.units < cLine) (h1 : EqIn prog w A.in1 s x1 y1) (h2 : EqIn prog w A.in1 s x2 y2) (E : Value → Shared → Prop) (Q : Value → Shared → Prop) (q : Q (.bool true) s) :
    wpAny (model prog w) A (richCompare .Eq (.ref l) (.ref b)) Q E s := by
  obtain ⟨o1, e1, c1, n1, d1⟩ := id hl
  obtain ⟨o2, e2, c2, n2, d2⟩ := id hb
  refine wpAny_richCompare_same_room (T := "tuple") ⟨o1, e1, c1⟩ ⟨o2, e2, c2⟩ PySem.F.slot_tuple_eq (wpAny_call_entry PySem.F.slot_tuple_eq ⟨o1, e1, c1⟩ PySem.F.entry_tuple_eq ?_ (PySem.F.args_tuple_eq_2 _ _)) hu
  unfold Builtin.«tuple.__eq__»
  k_delta "compare"
  refine wpAny_bind ?_
  unfold slotArgs
  refine wpAny_ite_false (by rfl) (wpAny_ite_false (by rfl) (wpAny_pure ?_))
  dsimp only
  refine wpAny_bind (wpAny_isInstance (T := "tuple") (b := true) ⟨o2, e2, c2⟩ (by rfl) ?_)
  refine wpAny_ite_false (by rfl) ?_
  refine wpAny_bind (wpAny_tupleItemsOf e1 d1 ?_)
  refine wpAny_bind (wpAny_tupleItemsOf e2 d2 ?_)
  rw [show (#[x1, x2] : Array Value).toList.zip (#[y1, y2] : Array Value).toList = [(x1, y1), (x2, y2)] from rfl]
  simp only [List.forIn_cons, List.forIn_nil]
  refine wpAny_bind (wpAny_bind (wpAny_bind (h1 _ _ ?_)))
  refine wpAny_ite_false (by rfl) (wpAny_pure ?_)
  dsimp only
  refine wpAny_bind (wpAny_bind (h2 _ _ ?_))
  refine wpAny_ite_false (by rfl) (wpAny_pure ?_)
  refine wpAny_pure ?_
  dsimp only
  exact wpAny_pure ⟨.bool true, rfl, (fun z => nomatch z), q⟩
theorem eq_loop {c : Int} {r : Bool} (hc : (c = 2 ∧ r = true) ∨ (c = 3 ∧ r = false)) {l b : Addr} {items items2 : Array Value} {o1 o2 : Obj} {n1 n2 : Nat} (e1 : s.heap.get? l = some o1) (d1 : o1.data = .seq items n1) (e2 : s.heap.get? b = some o2) (d2 : o2.data = .seq items2 n2) (hz : items.size = items2.size) {R : Result → Shared → Prop}
    (he : ∀ (j : Nat) (u v : Value), items[j]? = some u → items2[j]? = some v → EqIn prog w A.in1 s u v) (hR : R (.ok (.ret (.bool r))) s) :
    ∀ (m i : Nat) (t t' : Tok), i + m = items.size → codeAny (model prog w) A (.builtin "list.__eq__.loop" ⟨[.ref l, .ref b, .int (i : Int) t, .int c t'], []⟩) R s
  | 0, i, t, t', hi => by
    refine codeAny_builtin PySem.MeetsSeq3.entry_eq_loop ?_
    have n1 : items[i]? = none := by simp; (clear hc e1 d1 e2 d2 he hR; omega)
    unfold Builtin.«list.__eq__.loop»
    k_delta "cmpOps"
    rcases hc with ⟨rfl, rfl⟩ | ⟨rfl, rfl⟩
    · dsimp only
      rw [show (([CmpOp.Lt, CmpOp.LtE, CmpOp.Eq, CmpOp.NotEq, CmpOp.Gt, CmpOp.GtE] : List CmpOp)[Int.toNat 2]?) = some CmpOp.Eq from rfl]
      refine wpAny_bind (wpAny_listItems e1 d1 (wpAny_bind (wpAny_listItems e2 d2 ?_)))
      rw [Int.toNat_natCast, n1]
      refine wpAny_bind (wpAny_listItems e1 d1 (wpAny_bind (wpAny_listItems e2 d2 ?_)))
      refine wpAny_pure ?_
      show R (Except.ok (Flow.ret (Value.bool (items.size == items2.size)))) s
      rw [hz, beq_self_eq_true]
      exact hR
    · dsimp only
      rw [show (([CmpOp.Lt, CmpOp.LtE, CmpOp.Eq, CmpOp.NotEq, CmpOp.Gt, CmpOp.GtE] : List CmpOp)[Int.toNat 3]?) = some CmpOp.NotEq from rfl]
      refine wpAny_bind (wpAny_listItems e1 d1 (wpAny_bind (wpAny_listItems e2 d2 ?_)))
      rw [Int.toNat_natCast, n1]
      refine wpAny_bind (wpAny_listItems e1 d1 (wpAny_bind (wpAny_listItems e2 d2 ?_)))
      refine wpAny_pure ?_
      show R (Except.ok (Flow.ret (Value.bool (items.size != items2.size)))) s
      rw [hz, bne_self_eq_false]
      exact hR
  | m + 1, i, t, t', hi => by
    have ih := eq_loop hc e1 d1 e2 d2 hz he hR m (i + 1) 0 0 (by (clear hc e1 d1 e2 d2 he hR; omega))
    refine codeAny_builtin PySem.MeetsSeq3.entry_eq_loop ?_
    have l1 : i < items.size := by (clear hc e1 d1 e2 d2 he hR ih; omega)
    have n1 : items[i]? = some items[i] := by simp
    have n2 : items2[i]? = some (items2[i]'(by (clear hc e1 d1 e2 d2 he hR ih l1 n1; omega))) := by simp
    unfold Builtin.«list.__eq__.loop»
    k_delta "cmpOps"
    rcases hc with ⟨rfl, rfl⟩ | ⟨rfl, rfl⟩
    · dsimp only
      rw [show (([CmpOp.Lt, CmpOp.LtE, CmpOp.Eq, CmpOp.NotEq, CmpOp.Gt, CmpOp.GtE] : List CmpOp)[Int.toNat 2]?) = some CmpOp.Eq from rfl]
      refine wpAny_bind (wpAny_listItems e1 d1 (wpAny_bind (wpAny_listItems e2 d2 ?_)))
      rw [Int.toNat_natCast, n1, n2]
      refine wpAny_bind (he i _ _ n1 n2 _ _ ?_)
      refine wpAny_ite_true (by rfl) ?_
      exact wpAny_pure ⟨PySem.plainId_quiet PySem.MeetsSeq3.plain_eq_loop _, ih⟩
    · dsimp only
      rw [show (([CmpOp.Lt, CmpOp.LtE, CmpOp.Eq, CmpOp.NotEq, CmpOp.Gt, CmpOp.GtE] : List CmpOp)[Int.toNat 3]?) = some CmpOp.NotEq from rfl]
      refine wpAny_bind (wpAny_listItems e1 d1 (wpAny_bind (wpAny_listItems e2 d2 ?_)))
      rw [Int.toNat_natCast, n1, n2]
      refine wpAny_bind (he i _ _ n1 n2 _ _ ?_)
      refine wpAny_ite_true (by rfl) ?_
      exact wpAny_pure ⟨PySem.plainId_quiet PySem.MeetsSeq3.plain_eq_loop _, ih⟩
theorem rc_list {op : CmpOp} {r : Bool} (hop : (op = .Eq ∧ r = true) ∨ (op = .NotEq ∧ r = false)) {l b : Addr} {items items2 : Array Value} (hl : s.heap.IsList l items) (hb : s.heap.IsList b items2) (hz : items.size = items2.size) (hu : A.units < cLine)
    (he : ∀ (j : Nat) (u v : Value), items[j]? = some u → items2[j]? = some v → EqIn prog w A.in1 s u v) (E : Value → Shared → Prop) (Q : Value → Shared → Prop) (q : Q (.bool r) s) :
    wpAny (model prog w) A (richCompare op (.ref l) (.ref b)) Q E s := by
  obtain ⟨o1, e1, c1, n1, d1⟩ := id hl
  obtain ⟨o2, e2, c2, n2, d2⟩ := id hb
  rcases hop with ⟨rfl, rfl⟩ | ⟨rfl, rfl⟩
  · refine wpAny_richCompare_same_room (T := "list") ⟨o1, e1, c1⟩ ⟨o2, e2, c2⟩ PySem.F.slot_list_eq (call_meetsIn PySem.F.slot_list_eq ⟨o1, e1, c1⟩ PySem.F.entry_list_eq (PySem.F.args_list_eq_2 _ _) (S := fun A' R s' => A' = A ∧ s' = s ∧ R (.ok (.ret (.bool true))) s) ?_ ⟨rfl, rfl, (fun z => nomatch z), q⟩) hu
    rintro A' R s' ⟨rfl, rfl, hR⟩
    unfold Builtin.«list.__eq__»
    k_delta "listCompare"
    refine wpAny_bind ?_
    unfold slotArgs
    refine wpAny_ite_false (by rfl) (wpAny_ite_false (by rfl) (wpAny_pure ?_))
    dsimp only
    refine wpAny_bind (wpAny_isInstance (T := "list") (b := true) ⟨o2, e2, c2⟩ PySem.AutoSeq1.sub_list_list ?_)
    refine wpAny_ite_false (by rfl) ?_
    refine wpAny_ite_true (by rfl) ?_
    refine wpAny_bind (wpAny_listItems e1 d1 (wpAny_bind (wpAny_listItems e2 d2 ?_)))
    refine wpAny_ite_false (by rw [hz, bne_self_eq_false]; rfl) ?_
    exact wpAny_pure ⟨PySem.plainId_quiet PySem.MeetsSeq3.plain_eq_loop _, eq_loop (.inl ⟨rfl, rfl⟩) e1 d1 e2 d2 hz he hR items.size 0 0 0 (by (clear hz c1 d1 c2 d2 hu hl hb e1 e2 q he hR; omega))⟩
  · refine wpAny_richCompare_same_room (T := "list") ⟨o1, e1, c1⟩ ⟨o2, e2, c2⟩ PySem.F.slot_list_ne (call_meetsIn PySem.F.slot_list_ne ⟨o1, e1, c1⟩ PySem.F.entry_list_ne (PySem.F.args_list_ne_2 _ _) (S := fun A' R s' => A' = A ∧ s' = s ∧ R (.ok (.ret (.bool false))) s) ?_ ⟨rfl, rfl, (fun z => nomatch z), q⟩) hu
    rintro A' R s' ⟨rfl, rfl, hR⟩
    unfold Builtin.«list.__ne__»
    k_delta "listCompare"
    refine wpAny_bind ?_
    unfold slotArgs
    refine wpAny_ite_false (by rfl) (wpAny_ite_false (by rfl) (wpAny_pure ?_))
    dsimp only
    refine wpAny_bind (wpAny_isInstance (T := "list") (b := true) ⟨o2, e2, c2⟩ PySem.AutoSeq1.sub_list_list ?_)
    refine wpAny_ite_false (by rfl) ?_
    refine wpAny_ite_true (by rfl) ?_
    refine wpAny_bind (wpAny_listItems e1 d1 (wpAny_bind (wpAny_listItems e2 d2 ?_)))
    refine wpAny_ite_false (by rw [hz, bne_self_eq_false]; rfl) ?_
    exact wpAny_pure ⟨PySem.plainId_quiet PySem.MeetsSeq3.plain_eq_loop _, eq_loop (.inr ⟨rfl, rfl⟩) e1 d1 e2 d2 hz he hR items.size 0 0 0 (by (clear hz c1 d1 c2 d2 hu hl hb e1 e2 q he hR; omega))⟩
end
section
variable {X : Cx} {pins : List (Addr × Obj)} {σ : St} {H : Hp} {s : Shared}
inductive SameG (G : Gp) : Nat → W → W → Prop where
  | flat {n : Nat} {x y : W} (f1 : x.flat = true) (f2 : y.flat = true) (hd : x.dep ≤ 140) (he : x.eq y = true) : SameG G n x y
  | same {n : Nat} {a : Addr} : SameG G n (.ref a) (.ref a)
  | dic {n : Nat} {a b : Addr} {kvs us : List (Key × W)} (ea : GD G a kvs) (eb : GD G b us) (hl : kvs.length = us.length) (hv : ∀ p, p ∈ kvs → ∃ w', valW us p.1 = some w' ∧ SameV G p.2 w') : SameG G n (.ref a) (.ref b)
  | pair {n : Nat} {x1 x2 y1 y2 : W} (h1 : SameG G n x1 y1) (h2 : SameG G n x2 y2) : SameG G (n + 1) (.tup [x1, x2]) (.tup [y1, y2])
theorem same_deep {G : Gp} (I : Inv X pins σ H s) (g : RelG X.K H G) {n : Nat} {w1 w2 : W} (h : SameG G n w1 w2) : ∀ {A : Around} {v1 v2 : V} {u1 u2 : Value}, A.units + n + 160 < cLine → Rep X.K H w1 v1 → Rep X.K H w2 v2 → RelV v1 u1 → RelV v2 u2 → EqIn X.prog X.w A s u1 u2 := by
  induction h with
  | @flat n x y f1 f2 hd he =>
    intro A v1 v2 u1 u2 hu r1 r2 q1 q2
    have := (eq_rep I 150 A (w1 := x) (w2 := y) (by (clear I g f1 f2 he hu r1 r2 q1 q2; omega)) f1 f2 (by (clear I g f1 f2 hd he r1 r2 q1 q2; omega)) r1 r2 q1 q2).1
    rw [he] at this
    exact .of this
  | same =>
    intro A v1 v2 u1 u2 hu r1 r2 q1 q2
    cases r1
    cases r2
    cases q1
    cases q2
    exact .of (SeqAt.EqAt.same _)
  | @dic n a b kvs us ea eb hl hv =>
    intro A v1 v2 u1 u2 hu r1 r2 q1 q2
    cases r1
    cases r2
    cases q1
    cases q2
    obtain ⟨_, ua, ra, da⟩ := ea.rd g
    obtain ⟨_, ub, rb, db⟩ := eb.rd g
    obtain ⟨_, ma, ka, qa, dda⟩ := dk_rd I.hok ra
    obtain ⟨_, mb, kb, qb, ddb⟩ := dk_rd I.hok rb
    have hlen : ka.length = kb.length := by rw [← qa.length, ← qb.length, da.len, db.len, hl]
    refine EqIn.refs fun hne E Q q => ?_
    refine PySem.W.keq_eq ma mb dda ddb (by (clear I g ea eb hl hv ra da rb db ma qa dda mb qb ddb hlen hne q; omega)) (fun _ => hits_of (A := A.in1) (by show A.units + 1 + 20 < cLine; (clear I g ea eb hl hv ra da rb db ma qa dda mb qb ddb hlen hne q; omega)) I g db qb da qa hv) ?_
    rw [hlen, beq_self_eq_true, Bool.true_and]
    exact q
  | @pair n x1 x2 y1 y2 h1 h2 ih1 ih2 =>
    intro A v1 v2 u1 u2 hu r1 r2 q1 q2
    cases r1 with
    | @tup a _ xs hT rr =>
      cases r2 with
      | @tup b _ ys hT2 rr2 =>
        cases (show u1 = Value.ref a from q1)
        cases (show u2 = Value.ref b from q2)
        obtain ⟨its, rv, hp, _⟩ := I.tuple (SqT.of hT)
        obtain ⟨its2, rv2, hp2, _⟩ := I.tuple (SqT.of hT2)
        cases rr with
        | cons a1 rr =>
          cases rr with
          | cons a2 rr =>
            cases rr
            cases rr2 with
            | cons b1 rr2 =>
              cases rr2 with
              | cons b2 rr2 =>
                cases rr2
                obtain ⟨p1, p2, rfl, c1, c2⟩ := vals2' rv
                obtain ⟨t1, t2, rfl, d1, d2⟩ := vals2' rv2
                exact EqIn.refs fun hne E Q q => rc_pair hp hp2 (by (clear I g h1 h2 ih1 ih2 q1 q2 a1 a2 hT b1 b2 hT2 hp rv c1 c2 hp2 rv2 d1 d2 hne q; omega)) (ih1 (A := A.in1) (by show A.units + 1 + n + 160 < cLine; (clear I g h1 h2 ih1 ih2 q1 q2 a1 a2 hT b1 b2 hT2 hp rv c1 c2 hp2 rv2 d1 d2 hne q; omega)) a1 b1 c1 d1) (ih2 (A := A.in1) (by show A.units + 1 + n + 160 < cLine; (clear I g h1 h2 ih1 ih2 q1 q2 a1 a2 hT b1 b2 hT2 hp rv c1 c2 hp2 rv2 d1 d2 hne q; omega)) a2 b2 c2 d2) E Q q
inductive EqX (G : Gp) (a b : Addr) : Bool → Prop where
  | old {r : Bool} (h : EqD G a b r) : EqX G a b r
  | nil {ws : List W} (ea : G a = some (.lst ws)) (eb : G b = some (.lst [])) : EqX G a b ws.isEmpty
  | deep {ws us : List W} (ea : G a = some (.lst ws)) (eb : G b = some (.lst us)) (hl : ws.length = us.length) (he : ∀ (j : Nat) (x y : W), ws[j]? = some x → us[j]? = some y → SameG G 9 x y) : EqX G a b true
noncomputable def rEqG : W2 := fun x y G q => match x, y with
  | .ref a, .ref b => ∃ r, EqX G a b r ∧ q (.bl r) G
  | x, y => rEq3 x y G q
theorem deep_rc {k : Nat} (hr : Room k X.A) {op : CmpOp} {r : Bool} (hop : (op = .Eq ∧ r = true) ∨ (op = .NotEq ∧ r = false)) {G : Gp} (I : Inv X pins σ H s) (g : RelG X.K H G) {a b : Addr} {ws us : List W} (ea : G a = some (.lst ws)) (eb : G b = some (.lst us)) (hl : ws.length = us.length)
    (he : ∀ (j : Nat) (x y : W), ws[j]? = some x → us[j]? = some y → SameG G 9 x y) (E : Value → Shared → Prop) (Q : Value → Shared → Prop) (q : Q (.bool r) s) : wpAny (model X.prog X.w) X.A (richCompare op (.ref a) (.ref b)) Q E s := by
  have hu := hr.un
  obtain ⟨_, xs, e1, ra⟩ := g _ _ ea
  obtain ⟨_, ys, e2, rb⟩ := g _ _ eb
  obtain ⟨its, rv, p, _⟩ := I.list (SqL.of e1)
  obtain ⟨its2, rv2, p2, _⟩ := I.list (SqL.of e2)
  have l1 : its.length = ws.length := by rw [← rv.length, ra.length]
  have l2 : its2.length = us.length := by rw [← rv2.length, rb.length]
  refine rc_list hop p.isList p2.isList (by rw [List.size_toArray, List.size_toArray, l1, l2, hl]) (by (clear hr hop I g ea eb hl he q e1 ra e2 rb rv p rv2 p2 l1 l2; omega)) (fun j u v hj hv => ?_) E Q q
  rw [List.getElem?_toArray] at hj hv
  have j1 : j < ws.length := by
    rw [← l1]
    exact (List.getElem?_eq_some_iff.mp hj).1
  have gw := List.getElem?_eq_getElem j1
  have gu := List.getElem?_eq_getElem (show j < us.length by (clear hr hop I g ea eb he q hu e1 ra e2 rb rv p rv2 p2 hj hv gw; omega))
  obtain ⟨x, hx, rx⟩ := ra.get gw
  obtain ⟨y, hy, ry⟩ := rb.get gu
  obtain ⟨u', hu', qu⟩ := rv.get hx
  obtain ⟨v', hv', qv⟩ := rv2.get hy
  rw [hj] at hu'
  rw [hv] at hv'
  cases hu'
  cases hv'
  exact same_deep I g (he j _ _ gw gu) (A := X.A.in1) (by show X.A.units + 1 + 9 + 160 < cLine; omega) rx ry qu qv
theorem nil_rc {k : Nat} (hr : Room k X.A) {G : Gp} (I : Inv X pins σ H s) (g : RelG X.K H G) {a b : Addr} {x : W} {ws : List W} (ea : G a = some (.lst (x :: ws))) (eb : G b = some (.lst [])) (E : Value → Shared → Prop) (Q : Value → Shared → Prop) :
    (Q (.bool false) s → wpAny (model X.prog X.w) X.A (richCompare .Eq (.ref a) (.ref b)) Q E s) ∧ (Q (.bool true) s → wpAny (model X.prog X.w) X.A (richCompare .NotEq (.ref a) (.ref b)) Q E s) := by
  have hu := hr.un
  obtain ⟨_, xs, e1, ra⟩ := g _ _ ea
  obtain ⟨_, ys, e2, rb⟩ := g _ _ eb
  obtain ⟨its, rv, p, _⟩ := I.list (SqL.of e1)
  obtain ⟨its2, rv2, p2, _⟩ := I.list (SqL.of e2)
  have l1 : its.length = (x :: ws).length := by rw [← rv.length, ra.length]
  have l2 : its2.length = ([] : List W).length := by rw [← rv2.length, rb.length]
  have ne : (its.toArray.size != its2.toArray.size) = true := by rw [List.size_toArray, List.size_toArray, l1, l2]; simp
  exact ⟨fun q => SeqAt.RcAt.lists_lengths p.isList p2.isList (by simpa using ne) (A := X.A) (by (clear hr I g ea eb e1 ra e2 rb rv p rv2 p2 l1 l2 ne q; omega)) X.prog X.w E Q q, fun q => SeqAt.RcNeAt.lists_lengths p.isList p2.isList (by simpa using ne) (A := X.A) (by (clear hr I g ea eb e1 ra e2 rb rv p rv2 p2 l1 l2 ne q; omega)) X.prog X.w E Q q⟩
theorem q_eqG {k : Nat} (hr : Room k X.A) : QOp X (compareOp .Eq) rEqG := by
  intro pins s σ H x y v u Q I rx ry ⟨wx, wy, G, q, r1, r2, g, h, hQ⟩
  unfold rEqG at h
  split at h
  · rename_i a b
    obtain ⟨r, he, h⟩ := h
    have fin : EP X pins σ Q (.bool r) s := ⟨.bl _, H, I, rfl, hQ _ H _ G (TLe.refl H) (.bl _) g h⟩
    cases he with
    | old he => exact q_eqD hr pins s σ H x y v u Q I rx ry ⟨_, _, G, q, r1, r2, g, ⟨r, he, h⟩, hQ⟩
    | @nil ws ea eb =>
      cases r1
      cases r2
      cases rx
      cases ry
      cases ws with
      | nil => exact deep_rc hr (.inl ⟨rfl, rfl⟩) I g ea eb rfl (fun j x y z => by cases z) X.xe _ fin
      | cons x ws => exact (nil_rc hr I g ea eb X.xe _).1 fin
    | deep ea eb hl he =>
      cases r1
      cases r2
      cases rx
      cases ry
      exact deep_rc hr (.inl ⟨rfl, rfl⟩) I g ea eb hl he X.xe _ fin
  · exact q_eq hr pins s σ H x y v u Q I rx ry ⟨wx, wy, G, q, r1, r2, g, h, hQ⟩
end
end L2
set_option linter.all false
set_option maxRecDepth 100000
namespace L2
open PySem PySem.Spec PyProof.Rows Nm
mutual
inductive KIs (h : Heap) : Nat → W → Value → Prop where
  | int {d : Nat} (n : Int) (t : Tok) : KIs h d (.int n) (.int n t)
  | tup {d : Nat} {a : Addr} {o : Obj} {items : Array Value} {n : Nat} {ws : List W} (gO : h.get? a = some o) (hc : o.cls = .type "tuple") (dO : o.data = .seq items n) (hs : KIss h d ws items.toList) : KIs h (d + 1) (.tup ws) (.ref a)
inductive KIss (h : Heap) : Nat → List W → List Value → Prop where
  | nil {d : Nat} : KIss h d [] []
  | cons {d : Nat} {w : W} {v : Value} {ws : List W} {vs : List Value} (r : KIs h d w v) (rs : KIss h d ws vs) : KIss h d (w :: ws) (v :: vs)
end
section
variable {h h' : Heap}
mutual
theorem KIs.inj : ∀ {d d' : Nat} {w w' : W} {v : Value}, KIs h d w v → KIs h d' w' v → w = w'
  | _, _, _, _, _, .int n t, .int _ _ => rfl
  | _, _, _, _, _, .tup gO hc dO hs, .tup gO' hc' dO' hs' => by
    cases gO.symm.trans gO'
    rw [dO] at dO'
    injection dO' with e1 _
    subst e1
    rw [KIss.inj hs hs']
theorem KIss.inj : ∀ {d d' : Nat} {ws ws' : List W} {vs : List Value}, KIss h d ws vs → KIss h d' ws' vs → ws = ws'
  | _, _, _, _, _, .nil, .nil => rfl
  | _, _, _, _, _, .cons r rs, .cons r' rs' => by rw [KIs.inj r r', KIss.inj rs rs']
end
mutual
theorem KIs.keeps (k : ∀ a o items n, h.get? a = some o → o.data = .seq items n → h'.get? a = some o) : ∀ {d : Nat} {w : W} {v : Value}, KIs h d w v → KIs h' d w v
  | _, _, _, .int n t => .int n t
  | _, _, _, .tup gO hc dO hs => .tup (k _ _ _ _ gO dO) hc dO (KIss.keeps k hs)
theorem KIss.keeps (k : ∀ a o items n, h.get? a = some o → o.data = .seq items n → h'.get? a = some o) : ∀ {d : Nat} {ws : List W} {vs : List Value}, KIss h d ws vs → KIss h' d ws vs
  | _, _, _, .nil => .nil
  | _, _, _, .cons r rs => .cons (KIs.keeps k r) (KIss.keeps k rs)
end
end
section
variable (P : Program) (w : World)
mutual
noncomputable def hashW : W → Int
  | .int n => (mixKind P w).hash (.inl n)
  | .tup ws => reduceHash (Builtin.Tuple.tupleHashOf (hashWs ws))
  | _ => 0
noncomputable def hashWs : List W → List Int
  | [] => []
  | x :: xs => hashW x :: hashWs xs
end
mutual
noncomputable def drwW : W → Nat
  | .int _ => 1
  | .tup ws => drwWs ws + 1
  | _ => 0
noncomputable def drwWs : List W → Nat
  | [] => 0
  | x :: xs => drwW x + drwWs xs
end
end
theorem drw_app (xs ys : List W) : drwWs (xs ++ ys) = drwWs xs + drwWs ys := by
  induction xs with
  | nil => simp [drwWs]
  | cons x xs ih => show drwW x + drwWs (xs ++ ys) = _; rw [ih]; simp [drwWs, Nat.add_assoc]
theorem hash_app (P : Program) (w : World) (xs ys : List W) : hashWs P w (xs ++ ys) = hashWs P w xs ++ hashWs P w ys := by
  induction xs with
  | nil => rfl
  | cons x xs ih => show hashW P w x :: hashWs P w (xs ++ ys) = _; rw [ih]; rfl
section
variable {prog : Program} {w : World}
theorem kTup_type {s : Shared} {a : Addr} {o : Obj} (gO : s.heap.get? a = some o) (hc : o.cls = .type "tuple") : s.TypeIs (.ref a) "tuple" := ⟨o, gO, hc⟩
theorem hash_tup {A : Around} {E : Value → Shared → Prop} {s : Shared} {d : Nat} {ws : List W} {a : Addr} {o : Obj} {items : Array Value} {n : Nat} {Q : Int → Shared → Prop} (hu : A.units + d + 1 < cLine) (gO : s.heap.get? a = some o) (hc : o.cls = .type "tuple") (dO : o.data = .seq items n) (hi : KIss s.heap d ws items.toList)
    (ih : ∀ (x : W) (v : Value) (A' : Around) (E' : Value → Shared → Prop) (tk : Nat) (Q' : Int → Shared → Prop), x ∈ ws → KIs s.heap d x v → A'.units + d < cLine → Q' (hashW prog w x) { s with toks := tk + drwW x } → wpAny (model prog w) A' (pyHash v) Q' E' { s with toks := tk })
    (h : Q (hashW prog w (.tup ws)) { s with toks := s.toks + drwW (.tup ws) }) : wpAny (model prog w) A (pyHash (.ref a)) Q E s := by
  have tp := kTup_type gO hc
  unfold pyHash
  first | unfold pyHashByItsType | skip
  first | refine wpAny_bind (wpAny_cRoomFor_or (.inr (by (clear gO hc dO hi ih h tp; omega))) ?_) | skip
  refine wpAny_bind (wpAny_specialOf tp F.slot_tuple_hash.lookup ?_)
  rw [show (some (Value.builtin "tuple.__hash__") == some Value.none) = false from by rw [beq_builtin_none], if_neg Bool.false_ne_true]
  refine wpAny_bind (wpAny_specialOf tp F.slot_tuple_hash.lookup ?_)
  show wpAny _ _ (callSpecialIfBoundUnlessNone? (.ref a) "__hash__" _ >>= _) Q E s
  refine wpAny_bind (wpAny_callSpecialIfBoundUnlessNone?_slot tp F.slot_tuple_hash (wpAny_call_entry F.slot_tuple_hash tp F.entry_tuple_hash ?_ (F.args_tuple_hash_1 _)))
  show wpAny _ _ (Builtin.Tuple.tupleItemsOf (.ref a) >>= _) _ _ s
  refine wpAny_bind (wpAny_tupleItemsOf gO dO ?_)
  refine wpAny_bind ?_
  rw [← Array.forIn_toList]
  refine wpAny_forIn_list _
    (fun rest (b : Array Int) s' => ∃ done left, ws = done ++ left ∧ KIss s.heap d left rest ∧ b.toList = hashWs prog w done ∧ s' = { s with toks := s.toks + drwWs done })
    _ ?_ ?_ _ _ ⟨[], ws, rfl, hi, rfl, rfl⟩
  · rintro x rest b s' ⟨done, left, rfl, hL, hB, rfl⟩
    cases hL with
    | @cons _ k _ ks' _ h1 hL' =>
      refine wpAny_bind (ih k x _ _ _ _ (by simp) h1 (by first | omega | (show A.units + 1 + d < cLine; (clear gO hc dO tp hB hi ih h h1 hL'; omega))) ?_)
      have e1 : b.toList ++ [hashW prog w k] = hashWs prog w (done ++ [k]) := by rw [hB, hash_app]; rfl
      have e2 : s.toks + drwWs done + drwW k = s.toks + drwWs (done ++ [k]) := by rw [drw_app]; simp [drwWs, Nat.add_assoc]
      first
        | exact wpAny_pure ⟨done ++ [k], ks', by simp, hL', by simpa using e1, by rw [← e2]⟩
        | exact wpAny_bind (wpAny_pure (wpAny_pure ⟨done ++ [k], ks', by simp, hL', by simpa using e1, by rw [← e2]⟩))
  · rintro b s' ⟨done, left, rfl, hL, hB, rfl⟩
    cases hL
    rw [List.append_nil] at h
    show wpAny _ _ (retInt (Builtin.Tuple.tupleHashOf b.toList)) _ _ _
    rw [hB]
    refine wpAny_ret_mkInt ?_
    have h : Q (reduceHash (Builtin.Tuple.tupleHashOf (hashWs prog w done))) { s with toks := s.toks + (drwWs done + 1) } := h
    generalize hashWs prog w done = hs at h ⊢
    show wpAny _ _ (if (decide (-(2 : Int) ^ 63 ≤ Builtin.Tuple.tupleHashOf hs) && decide (Builtin.Tuple.tupleHashOf hs < 2 ^ 63)) = true then _ else _) Q E _
    unfold reduceHash at h
    by_cases hR : (decide (-(2 : Int) ^ 63 ≤ Builtin.Tuple.tupleHashOf hs) && decide (Builtin.Tuple.tupleHashOf hs < 2 ^ 63)) = true
    · rw [if_pos hR]
      rw [if_pos hR] at h
      exact wpAny_pure (by simpa [Nat.add_assoc] using h)
    · rw [if_neg hR]
      rw [if_neg hR] at h
      exact wpAny_bind (wpAny_rule (wpAny_pure (by simpa [Nat.add_assoc] using h)))
theorem KIs.hash {s : Shared} : ∀ (d : Nat) {x : W} {v : Value}, KIs s.heap d x v → ∀ {A : Around} {E : Value → Shared → Prop} {tk : Nat} {Q : Int → Shared → Prop}, A.units + d < cLine → Q (hashW prog w x) { s with toks := tk + drwW x } → wpAny (model prog w) A (pyHash v) Q E { s with toks := tk }
  | _, _, _, .int n t, A, E, tk, Q, hu, h => (mixKind prog w).pyHash (k := .inl n) (mixKind_int prog w n t) h
  | d + 1, _, _, .tup (ws := ws) gO hc dO hs, A, E, tk, Q, hu, h =>
    hash_tup (s := { s with toks := tk }) (d := d) (ws := ws) (by assumption) gO hc dO hs (fun x v A' E' tk' Q' _ hk hu' hq => KIs.hash d hk hu' hq) h
noncomputable def eqK (p : Prop) : Bool := @decide p (Classical.propDecidable p)
theorem eqK_t {p : Prop} (h : p) : eqK p = true := @decide_eq_true p (Classical.propDecidable p) h
theorem eqK_f {p : Prop} (h : ¬ p) : eqK p = false := @decide_eq_false p (Classical.propDecidable p) h
inductive Sh : W → W → Prop where
  | int (n m : Int) : Sh (.int n) (.int m)
  | tup {xs ys : List W} (h : ∀ p, p ∈ xs.zip ys → Sh p.1 p.2) : Sh (.tup xs) (.tup ys)
theorem eq_tup {A : Around} {E : Value → Shared → Prop} {s : Shared} {d : Nat} {x y : List W} {a b : Addr} {oa ob : Obj} {xs ys : Array Value} {na nb : Nat} {R : PySem.Fin → Shared → Prop} (gA : s.heap.get? a = some oa) (hca : oa.cls = .type "tuple") (dA : oa.data = .seq xs na) (hia : KIss s.heap d x xs.toList) (gB : s.heap.get? b = some ob) (hcb : ob.cls = .type "tuple") (dB : ob.data = .seq ys nb) (hib : KIss s.heap d y ys.toList)
    (hsh : ∀ p, p ∈ x.zip y → Sh p.1 p.2)
    (ih : ∀ (p q : W) (u v : Value) (E' : Value → Shared → Prop) (Q' : Bool → Shared → Prop), KIs s.heap d p u → KIs s.heap d q v → Sh p q → Q' (eqK (p = q)) s → wpAny (model prog w) A (eqBool u v) Q' E' s)
    (h : R (.done (.ret (.bool (eqK (x = y))))) s) : wpAny (model prog w) A (Builtin.«tuple.__eq__» ⟨[.ref a, .ref b], []⟩) R E s := by
  have tpB := kTup_type gB hcb
  show wpAny _ _ (isInstance (.ref b) (.type "tuple") >>= _) _ _ s
  refine wpAny_bind (wpAny_isInstance tpB isSubtype_tuple_tuple ?_)
  simp only [Bool.not_true, Bool.false_eq_true, if_false]
  refine wpAny_bind (wpAny_tupleItemsOf gA dA ?_)
  refine wpAny_bind (wpAny_tupleItemsOf gB dB ?_)
  refine wpAny_bind ?_
  refine wpAny_forIn_list _
    (fun rest r s' => r.1 = none ∧ s' = s ∧ ∃ x' y' xs' ys', rest = List.zip xs' ys' ∧ KIss s.heap d x' xs' ∧ KIss s.heap d y' ys' ∧ ((x' = y') ↔ (x = y)) ∧ (∀ p, p ∈ x'.zip y' → Sh p.1 p.2) ∧ (xs'.length == ys'.length) = (xs.size == ys.size))
    _ ?_ ?_ _ _ ⟨rfl, rfl, x, y, xs.toList, ys.toList, rfl, hia, hib, Iff.rfl, hsh, by simp⟩
  · rintro ⟨u, v⟩ rest r s' ⟨hR, rfl, x', y', xs', ys', hZ, hx', hy', hdec, hs', hlen⟩
    cases hx' with
    | nil => simp at hZ
    | @cons _ k1 u' x'' xs'' h1 hx'' =>
      cases hy' with
      | nil => simp at hZ
      | @cons _ k2 v' y'' ys'' h2 hy'' =>
        simp only [List.zip_cons_cons, List.cons.injEq, Prod.mk.injEq] at hZ
        obtain ⟨⟨rfl, rfl⟩, rfl⟩ := hZ
        refine wpAny_bind (ih k1 k2 _ _ _ _ h1 h2 (hs' (k1, k2) List.mem_cons_self) ?_)
        by_cases hk : k1 = k2
        · subst hk
          rw [eqK_t rfl]
          simp only [Bool.not_true, Bool.false_eq_true, if_false]
          refine wpAny_pure ⟨rfl, rfl, x'', y'', xs'', ys'', rfl, hx'', hy'', ?_, fun p hp => hs' p (List.mem_cons_of_mem _ hp), by simpa using hlen⟩
          rw [← hdec]
          simp
        · rw [eqK_f hk]
          simp only [Bool.not_false, if_true]
          have hf : eqK (x = y) = false := eqK_f fun z => hk (by have := hdec.mpr z; injection this)
          rw [hf] at h
          exact wpAny_bind (wpAny_pure (wpAny_pure (wpAny_pure h)))
  · rintro ⟨q1, q2⟩ s' ⟨hR, rfl, x', y', xs', ys', hZ, hx', hy', hdec, hs', hlen⟩
    simp only at hR
    subst hR
    refine wpAny_pure ?_
    have hfin : (xs.size == ys.size) = eqK (x = y) := by
      rw [← hlen]
      cases hx' with
      | nil =>
        cases hy' with
        | nil => rw [eqK_t (hdec.mp rfl)]; rfl
        | cons _ _ => rw [eqK_f (fun z => by have := hdec.mpr z; cases this)]; rfl
      | cons _ _ =>
        cases hy' with
        | nil => rw [eqK_f (fun z => by have := hdec.mpr z; cases this)]; rfl
        | cons _ _ => simp at hZ
    show R (.done (.ret (.bool (xs.size == ys.size)))) s'
    rw [hfin]; exact h
theorem KIs.eqs {s : Shared} : ∀ (d : Nat) {x y : W} {u v : Value}, KIs s.heap d x u → KIs s.heap d y v → Sh x y → ∀ {A : Around} {E : Value → Shared → Prop} {Q : Bool → Shared → Prop}, A.units + 2 * d < cLine → Q (eqK (x = y)) s → wpAny (model prog w) A (PySem.eqBool u v) Q E s
  | _, _, _, _, _, .int n t, .int m t', _, A, E, Q, hu, h => by
    refine (mixKind prog w).eqBool (a := .inl n) (b := .inl m) (mixKind_int prog w n t) (mixKind_int prog w m t') ?_
    have : decide ((Sum.inl n : Key) = .inl m) = eqK (W.int n = .int m) := by
      by_cases e : n = m
      · subst e; rw [decide_eq_true rfl, eqK_t rfl]
      · rw [decide_eq_false (fun z => e (Sum.inl.inj z)), eqK_f (fun z => by injection z with z; exact e z)]
    rw [this]; exact h
  | _, _, _, _, _, .int n t, .tup _ _ _ _, hs, A, E, Q, hu, h => (nomatch hs)
  | _, _, _, _, _, .tup _ _ _ _, .int m t', hs, A, E, Q, hu, h => (nomatch hs)
  | d + 1, _, _, _, _, .tup (a := a) (ws := ws) gO hc dO hs, .tup (a := a') (ws := ws') gO' hc' dO' hs', .tup hsh, A, E, Q, hu, h => by
    unfold PySem.eqBool
    try with_reducible refine wpAny_holding ?_
    show wpAny _ _ (if (Value.ref a == Value.ref a') = true then _ else _) Q E s
    by_cases hab : (Value.ref a == Value.ref a') = true
    · rw [if_pos hab]
      have e : a = a' := by have := eq_of_beq hab; injection this
      subst e
      have := KIs.inj (.tup gO hc dO hs) (.tup gO' hc' dO' hs')
      rw [eqK_t this] at h
      exact wpAny_bind (wpAny_rule (wpAny_pure h))
    · rw [if_neg hab]
      refine wpAny_bind (wpAny_richCompare_same_room (op := .Eq) (kTup_type gO hc) (kTup_type gO' hc') F.slot_tuple_eq
        (wpAny_call_entry F.slot_tuple_eq (kTup_type gO hc) F.entry_tuple_eq (eq_tup gO hc dO hs gO' hc' dO' hs' hsh (fun p q u v E' Q' hp hq hpq hQ => KIs.eqs d hp hq hpq (by first | omega | (show A.units + 1 + 2 * d < cLine; (clear gO hc dO hs gO' hc' dO' hs' hsh h hab hp hq hpq hQ; omega)) | (show A.units + 1 + 1 + 2 * d < cLine; omega)) hQ) ⟨_, rfl, (fun e => nomatch e), wpAny_truthy_bool ?_⟩) (F.args_tuple_eq_2 _ _)) (by (clear gO hc dO hs gO' hc' dO' hs' hsh h hab; omega)))
      have : eqK (ws = ws') = eqK (W.tup ws = .tup ws') := by
        by_cases e : ws = ws'
        · subst e; rw [eqK_t rfl, eqK_t rfl]
        · rw [eqK_f e, eqK_f (fun z => by injection z with z; exact e z)]
      rw [this]; exact h
theorem KIs.quiet {s : Shared} : ∀ (d : Nat) {x : W} {v : Value}, KIs s.heap d x v → ∀ {A : Around} {E : Value → Shared → Prop} {Q : Bool → Shared → Prop}, Q true s → wpAny (model prog w) A (eqIsQuiet d v) Q E s
  | _, _, _, .int n t, A, E, Q, h => by
    rw [eqIsQuiet_byValue _ rfl]
    exact wpAny_pure h
  | d + 1, _, _, .tup gO hc dO hs, A, E, Q, h => by
    have tp := kTup_type gO hc
    unfold eqIsQuiet
    refine wpAny_bind (wpAny_specialOf tp F.slot_tuple_eq.lookup ?_)
    refine wpAny_bind (wpAny_isInstance tp isSubtype_tuple_tuple ?_)
    simp only [Bool.not_true, Bool.false_eq_true, if_false]
    refine wpAny_bind (wpAny_seqItems gO dO ?_)
    refine wpAny_bind ?_
    show wpAny _ _ (forIn _ _ _) _ _ s
    rw [← Array.forIn_toList]
    refine wpAny_forIn_list _ (fun rest r s' => r.1 = none ∧ s' = s ∧ ∃ ws, KIss s.heap d ws rest) _ ?_ ?_ _ _ ⟨rfl, rfl, _, hs⟩
    · rintro v rest r s' ⟨hR, rfl, ws, hk⟩
      cases hk with
      | cons q1 rs1 =>
        refine wpAny_bind (KIs.quiet d q1 ?_)
        simp only [Bool.not_true, Bool.false_eq_true, if_false]
        exact wpAny_pure ⟨rfl, rfl, _, rs1⟩
    · rintro ⟨q1, q2⟩ s' ⟨hR, rfl, _⟩
      simp only at hR
      subst hR
      exact wpAny_pure h
theorem sh_enc : ∀ a b : O, Sh (.tup (encP a)) (.tup (encP b)) := by
  have main : ∀ (k : Nat) (a b : O), a.size + b.size ≤ k → Sh (.tup (encP a)) (.tup (encP b)) := by
    intro k
    induction k with
    | zero =>
      intro a b h
      cases a with
      | z => exact .tup fun p hp => by simp [encP] at hp
      | c e n r => simp [O.size] at h
    | succ k ih =>
      intro a b h
      cases a with
      | z => exact .tup fun p hp => by simp [encP] at hp
      | c e n r =>
        cases b with
        | z => exact .tup fun p hp => by simp [encP] at hp
        | c e' n' r' =>
          have h1 : e.size + e'.size ≤ k := by simp only [O.size] at h; (clear ih; omega)
          have h2 : r.size + r'.size ≤ k := by simp only [O.size] at h; (clear ih h1; omega)
          refine .tup fun p hp => ?_
          rw [encP_c, encP_c, List.zip_cons_cons] at hp
          rcases List.mem_cons.mp hp with rfl | hp
          · refine .tup fun p hp => ?_
            simp only [List.zip_cons_cons, List.zip_nil_left] at hp
            rcases List.mem_cons.mp hp with rfl | hp
            · exact ih e e' h1
            · rw [List.mem_singleton.mp hp]
              exact .int n n'
          · cases ih r r' h2 with
            | tup h3 => exact h3 p hp
  exact fun a b => main _ a b (Nat.le_refl _)
theorem enc_inj {a b : O} (h : W.tup (encP a) = .tup (encP b)) : a = b := by injection h with h; exact encP_inj h
noncomputable def oKind (prog : Program) (w : World) : HeapKind prog w O where
  is := fun h o a => KIs h 8 (.tup (encP o)) (.ref a)
  hash := fun o => hashW prog w (.tup (encP o))
  draws := fun o => drwW (.tup (encP o))
  room := fun A => A.units + 20 < cLine
  inj := fun hx hy => enc_inj (KIs.inj hx hy)
  keeps := fun x gO dO hs => x.keeps fun a o items n gO' dO' => by
    rename_i d' od es ep
    have hne : a ≠ d' := fun z => by
      subst z
      cases gO.symm.trans gO'
      rw [dO] at dO'; cases dO'
    exact (hs.2 a hne).trans gO'
  pyHash := fun hu hk h => KIs.hash 8 hk (by (clear hk h; omega)) h
  eqBool := fun hu hx hy h => KIs.eqs 8 hx hy (sh_enc _ _) (by (clear hx hy h; omega)) (by
    rename_i x y _ _ _
    have : eqK (W.tup (encP x) = .tup (encP y)) = decide (x = y) := by
      by_cases e : x = y
      · subst e; rw [eqK_t rfl, decide_eq_true rfl]
      · rw [eqK_f (fun z => e (enc_inj z)), decide_eq_false e]
    rw [this]; exact h)
  quiet := fun hk h => KIs.quiet 8 hk h
end
end L2
set_option linter.all false
set_option maxRecDepth 100000
namespace L2
open PySem PySem.Spec PyProof.Rows Nm
mutual
theorem KIs.le {h : Heap} : ∀ {d d' : Nat} {w : W} {v : Value}, d ≤ d' → KIs h d w v → KIs h d' w v
  | _, _, _, _, _, .int n t => .int n t
  | _, d' + 1, _, _, l, .tup ho hc hd hs => .tup ho hc hd (KIss.le (Nat.le_of_succ_le_succ l) hs)
  | _, 0, _, _, l, .tup ho hc hd hs => absurd l (Nat.not_succ_le_zero _)
theorem KIss.le {h : Heap} : ∀ {d d' : Nat} {ws : List W} {vs : List Value}, d ≤ d' → KIss h d ws vs → KIss h d' ws vs
  | _, _, _, _, _, .nil => .nil
  | _, _, _, _, l, .cons r rs => .cons (KIs.le l r) (KIss.le l rs)
end
section
variable {X : Cx} {pins : List (Addr × Obj)} {σ : St} {H : Hp} {s : Shared}
theorem rep_num (I : Inv X pins σ H s) : ∀ (k : Nat) (o : O) (v : V) (u : Value), o.dp ≤ k → Rep X.K H (.tup (encP o)) v → RelV v u → KIs s.heap (2 * k + 1) (.tup (encP o)) u := by
  intro k
  induction k with
  | zero =>
    intro o v u hd r ru
    have : o = .z := by
      cases o with
      | z => rfl
      | c e n r => simp only [O.dp] at hd; (clear I ru r; omega)
    subst this
    cases r with
    | tup hT rr =>
      obtain ⟨its, rv, ⟨ob, e, c, n, dd⟩, _⟩ := I.tuple (SqT.of hT)
      cases rr
      cases rv
      cases (show u = Value.ref _ from ru)
      exact .tup e c dd .nil
  | succ k ih =>
    have parts : ∀ (o : O) (xs : List V) (its : List Value), o.dp ≤ k + 1 → Reps X.K H (encP o) xs → Vals xs its → KIss s.heap (2 * k + 2) (encP o) its := by
      intro o
      induction o with
      | z =>
        intro xs its hd rr rv
        cases rr
        cases rv
        exact .nil
      | c e n r ihe ihr =>
        intro xs its hd rr rv
        rw [encP_c] at rr ⊢
        cases rr with
        | cons r1 rs1 =>
          cases rv with
          | cons v1 vs1 =>
            have hd1 : e.dp ≤ k := by simp only [O.dp] at hd; (clear I ih ihe ihr r1 rs1 v1 vs1; omega)
            have hd2 : r.dp ≤ k + 1 := by simp only [O.dp] at hd; (clear I ih ihe ihr r1 rs1 v1 vs1; omega)
            refine .cons ?_ (ihr _ _ hd2 rs1 vs1)
            unfold prt at r1 ⊢
            cases r1 with
            | tup hT rr =>
              obtain ⟨its, rv, ⟨ob, ee, c, m, dd⟩, _⟩ := I.tuple (SqT.of hT)
              cases (show _ = Value.ref _ from v1)
              cases rr with
              | cons q1 qs =>
                cases qs with
                | cons q2 qs =>
                  cases qs
                  cases rv with
                  | cons w1 ws =>
                    cases ws with
                    | cons w2 ws =>
                      cases ws
                      refine .tup ee c dd (.cons (ih e _ _ hd1 q1 w1) (.cons ?_ .nil))
                      cases q2
                      obtain ⟨t, rfl⟩ := w2
                      exact .int _ _
    intro o v u hd r ru
    cases r with
    | tup hT rr =>
      obtain ⟨its, rv, ⟨ob, e, c, n, dd⟩, _⟩ := I.tuple (SqT.of hT)
      cases (show u = Value.ref _ from ru)
      exact .tup e c dd (parts o _ _ hd rr rv)
theorem rep_key3 (I : Inv X pins σ H s) {o : O} {a : Addr} (hd : o.dp ≤ 3) (r : Rep X.K H (.tup (encP o)) (.ref a)) : (oKind X.prog X.w).is s.heap o a := KIs.le (by decide) (rep_num I 3 o (.ref a) (.ref a) hd r rfl)
end
inductive KVO (K : PySem.W.Frag) (H : Hp) : List (O × W) → List (O × Addr × Value) → Prop where
  | nil : KVO K H [] []
  | cons {k : O} {a : Addr} {w : W} {v : V} {u : Value} {kvs : List (O × W)} {xs : List (O × Addr × Value)} (rk : Rep K H (.tup (encP k)) (.ref a)) (rv : Rep K H w v) (ru : RelV v u) (t : KVO K H kvs xs) : KVO K H ((k, w) :: kvs) ((k, a, u) :: xs)
theorem KVO.mono {K : PySem.W.Frag} {H H1 : Hp} (t : TLe H H1) : ∀ {kvs : List (O × W)} {xs : List (O × Addr × Value)}, KVO K H kvs xs → KVO K H1 kvs xs
  | _, _, .nil => .nil
  | _, _, .cons rk rv ru r => .cons (rk.mono t) (rv.mono t) ru (KVO.mono t r)
theorem KVO.keys {K : PySem.W.Frag} {H : Hp} : ∀ {kvs : List (O × W)} {xs : List (O × Addr × Value)}, KVO K H kvs xs → xs.map (·.1) = kvs.map (·.1)
  | _, _, .nil => rfl
  | _, _, .cons _ _ _ r => by rw [List.map_cons, List.map_cons, KVO.keys r]
theorem KVO.mem {K : PySem.W.Frag} {H : Hp} : ∀ {kvs : List (O × W)} {xs : List (O × Addr × Value)}, KVO K H kvs xs → ∀ x, x ∈ xs → Rep K H (.tup (encP x.1)) (.ref x.2.1)
  | _, _, .nil, x, hx => (nomatch hx)
  | _, _, .cons rk _ _ r, x, hx => by
    rcases List.mem_cons.mp hx with rfl | hx
    · exact rk
    · exact KVO.mem r x hx
noncomputable def DioH (P : Program) (w : World) (a : Addr) (xs : List (O × Addr × Value)) : Heap → Prop := fun h => ∃ o es ep, h.get? a = some o ∧ o.ExactDict ∧ o.data = .dict es ep ∧ es.toList = xs.map (entryOfKey (oKind P w))
noncomputable def DioP (P : Program) (w : World) (K : PySem.W.Frag) (kvs : List (O × W)) : Hp → Addr → Prop := fun H a => kvs.length ≤ 1000 ∧ (a == sysModules) = false ∧ (kvs.map (·.1)).Nodup ∧ (∀ p, p ∈ kvs → p.1.dp ≤ 3) ∧ ∃ xs, H a = some (.ext (DioH P w a xs)) ∧ KVO K H kvs xs
noncomputable abbrev dio (P : Program) (w : World) (K : PySem.W.Frag) (kvs : List (O × W)) : GO := .any (DioP P w K kvs)
theorem DioP.ok {P : Program} {w : World} {K : PySem.W.Frag} {kvs : List (O × W)} {H : Hp} {a : Addr} (h : DioP P w K kvs H a) : GOk K H a (dio P w K kvs) := by
  refine ⟨h, ?_, fun H1 H2 t e x => ?_⟩
  · obtain ⟨_, _, _, _, xs, e, _⟩ := h
    exact ⟨_, e⟩
  · obtain ⟨a1, a2, a3, a4, xs, e1, kv⟩ := x
    exact ⟨a1, a2, a3, a4, xs, e.trans e1, kv.mono t⟩
section
variable {X : Cx} {pins : List (Addr × Obj)} {σ : St} {H : Hp} {s : Shared}
theorem DioP.dict {kvs : List (O × W)} {a : Addr} (I : Inv X pins σ H s) (h : DioP X.prog X.w X.K kvs H a) : ∃ xs, H a = some (.ext (DioH X.prog X.w a xs)) ∧ KVO X.K H kvs xs ∧ s.heap.DictOfH (oKind X.prog X.w) a xs := by
  obtain ⟨a1, a2, a3, a4, xs, e, kv⟩ := h
  obtain ⟨⟨o, es, ep, h1, h2, h3, h4⟩, _⟩ := I.hok a _ e
  refine ⟨xs, e, kv, o, es, ep, h1, h2, h3, h4, fun x hx => ?_, by rw [kv.keys]; exact a3⟩
  refine rep_key3 I ?_ (kv.mem x hx)
  have : x.1 ∈ kvs.map (·.1) := by rw [← kv.keys]; exact List.mem_map.mpr ⟨x, hx, rfl⟩
  obtain ⟨p, hp, hpe⟩ := List.mem_map.mp this
  rw [← hpe]
  exact a4 p hp
theorem dioH_ok {P : Program} {w : World} {H : Hp} {h : Heap} {a : Addr} {xs : List (O × Addr × Value)} (d : DioH P w a xs h) : ObjOk P w H h a (.ext (DioH P w a xs)) := by
  refine ⟨d, ?_, fun h1 h2 x k => ?_⟩
  · obtain ⟨o, _, _, e, _⟩ := d
    exact ⟨o, e⟩
  · obtain ⟨o, es, ep, e, r⟩ := x
    exact ⟨o, es, ep, k _ e, r⟩
noncomputable def wDicO (P : Program) (w : World) (K : PySem.W.Frag) : WE := fun _ G q => ∀ p, G p = none → q (.ref p) (updG G p (dio P w K []))
theorem qe_dicO {pos : Pos} : QE X (.Dict [] [] pos) (wDicO X.prog X.w X.K) := by
  have pe : PE X (.Dict [] [] pos) (fun _ H Q => ∀ p, H p = none → (p == sysModules) = false → Q (.ref p) (upd H p (.ext (DioH X.prog X.w p [])))) := fun pins s σ H Q I h =>
    wpAny_Dict_empty ⟨.ref s.heap.objs.size, _, I.laid (a := s.heap.objs.size) (o := .ext (DioH X.prog X.w s.heap.objs.size [])) (t' := s.toks) (fun _ _ q => Heap.get?_push_of_some _ q) (Nat.le_refl _) (dioH_ok ⟨_, #[], 0, Heap.get?_push_size _ rfl, ⟨rfl, rfl, rfl⟩, rfl, rfl⟩), rfl, h _ (I.hok.fresh (Nat.le_refl _)) (beq_eq_false_iff_ne.mpr (Ne.symm (Nat.ne_of_lt I.bigD)))⟩
  exact pe.imp fun σ H Q z0 => z0.el fun τ G q hs hg ht hQ p hp hm => hQ _ _ _ _ (TLe.new hp _) (.ref p) (hg.lay (g := dio X.prog X.w X.K []) (TLe.new hp _) (DioP.ok ⟨Nat.zero_le _, hm, by simp, (fun _ h => (nomatch h)), [], upd_same, .nil⟩)) (ht p (hg.fresh hp))
noncomputable def valO (kvs : List (O × W)) (k : O) : Option W := (kvs.find? fun p => decide (p.1 = k)).map (·.2)
theorem KVO.at {K : PySem.W.Frag} {k : O} : ∀ {kvs : List (O × W)} {xs : List (O × Addr × Value)}, KVO K H kvs xs → (valO kvs k = none ∧ atKey xs k = none) ∨ ∃ w a v u, valO kvs k = some w ∧ atKey xs k = some (a, u) ∧ Rep K H w v ∧ RelV v u
  | _, _, .nil => .inl ⟨rfl, rfl⟩
  | _, _, .cons (k := k') (a := a) (w := w) (v := v) (u := u) rk rv ru t => by
    by_cases e : k' = k
    · exact .inr ⟨w, a, v, u, by simp [valO, e], by simp [atKey, e], rv, ru⟩
    · rcases KVO.at (k := k) t with ⟨h1, h2⟩ | ⟨w', a', v', u', h1, h2, h3, h4⟩
      · exact .inl ⟨by simpa [valO, List.find?_cons, e] using h1, by simpa [atKey, List.find?_cons, e] using h2⟩
      · exact .inr ⟨w', a', v', u', by simpa [valO, List.find?_cons, e] using h1, by simpa [atKey, List.find?_cons, e] using h2, h3, h4⟩
theorem valO_mem {kvs : List (O × W)} {k : O} {x : W} (h : valO kvs k = some x) : (k, x) ∈ kvs := by
  unfold valO at h
  obtain ⟨p, hp, rfl⟩ := Option.map_eq_some_iff.mp h
  have h1 := List.mem_of_find?_eq_some hp
  have h2 := List.find?_some hp
  have h3 : p.1 = k := of_decide_eq_true h2
  rw [← h3]
  exact h1
noncomputable def rIxO (P : Program) (w : World) (K : PySem.W.Frag) : W2 := fun x y G q => match x, y with
  | .ref a, .tup ts => ∃ kvs o x, ts = encP o ∧ G a = some (dio P w K kvs) ∧ valO kvs o = some x ∧ q x G
  | x, y => rIxD x y G q
theorem room20 {k : Nat} {A : Around} (hr : Room k A) : A.in1.units + 20 < cLine := by
  have := hr.un
  show A.units + 1 + 20 < cLine
  (clear hr; omega)
theorem q_ixO {k : Nat} (hr : Room k X.A) : QIx X (rIxO X.prog X.w X.K) := by
  intro value slice pins s σ H x y v u Q I rx ry ⟨wx, wy, G, q, r1, r2, g, h, hQ⟩ hsl
  unfold rIxO at h
  split at h
  · rename_i a ts
    obtain ⟨kvs, o, x, rfl, hG, hv, h⟩ := h
    cases r1
    cases rx
    have hD := (g a _ hG).1
    obtain ⟨xs, _, kv, dd⟩ := hD.dict I
    rcases kv.at (k := o) with ⟨e, _⟩ | ⟨x', b', v', u', e, e', r, ru⟩
    · rw [e] at hv; cases hv
    · rw [e] at hv; cases hv
      have hdp : o.dp ≤ 3 := hD.2.2.2.1 _ (valO_mem e)
      cases r2 with
      | @tup b _ _ hT rr =>
        cases (show u = Value.ref b from ry)
        exact tail_any dd.typeIs PySem.F.slot_dict_getitem.lookup (wpAny_getItem_heap (knd := oKind X.prog X.w) (room20 hr) (rep_key3 I hdp (.tup hT rr)) dd e' ⟨v', H, I.tok _, ru, hQ _ H _ G (TLe.refl H) r g h⟩) hsl
  · exact q_ixD value slice pins s σ H x _ v u Q I rx ry ⟨wx, wy, G, q, r1, r2, g, h, hQ⟩ hsl
theorem setDefault_heap {prog : Program} {w : World} {K : Type} [DecidableEq K] {knd : HeapKind prog w K} {A : Around} {E : Value → Shared → Prop} {s : Shared} {d a : Addr} {xs : List (K × Addr × Value)} {k : K} {dflt : Value} {Q : Value → Shared → Prop} (hu : knd.room A) (hkey : knd.is s.heap k a) (hm : s.heap.DictOfH knd d xs)
    (hthere : ∀ p, atKey xs k = some p → Q p.2 { s with toks := s.toks + knd.draws k })
    (hnew : atKey xs k = none → ∀ h', h'.DictOfH knd d (xs ++ [(k, a, dflt)]) → Heap.SameBut d s.heap h' → Q dflt { s with heap := h', toks := s.toks + knd.draws k }) (hsz : xs.length ≤ sizeLine) :
    wpAny (model prog w) A (dictSetDefault d (.ref a) dflt) Q E s := by
  obtain ⟨o, es, ep, ho, hc, hd, he, his, hn⟩ := hm
  unfold dictSetDefault
  try with_reducible refine wpAny_holding ?_
  refine wpAny_bind (knd.pyHash hu hkey ?_)
  refine wpAny_bind (wpAny_dictFind_heap (s := { s with toks := s.toks + knd.draws k }) hu hkey ho hd he his hn ?_ ?_)
  · intro hno
    have hnot : k ∉ xs.map (·.1) := not_mem_keys_of_get hno
    have hat := atKey_none_of_get hno
    refine wpAny_bind (wpAny_rule (wpAny_bind (wpAny_updateDictKeys (hz := by have e := size_of_entries he; (clear hu hkey hthere hnew ho hc hd he his hn hno hnot hat; omega)) (s := { s with toks := s.toks + knd.draws k }) ho hd (wpAny_pure (hnew hat _ ⟨_, _, ep + 1, Heap.get?_update_self _ ho (Obj.isFreed_of_dict (Obj.data_mapDictKeys hd _)),
      hc.mapDictKeys _, Obj.data_mapDictKeys hd _, ?_, ?_, ?_⟩ (Heap.SameBut.update ..))))))
    · simp [he, entryOfKey]
    · intro x hx
      rcases List.mem_append.mp hx with hx | hx
      · exact knd.keeps (his x hx) ho hd (Heap.SameBut.update ..)
      · simp only [List.mem_singleton] at hx
        subst hx
        exact knd.keeps hkey ho hd (Heap.SameBut.update ..)
    · rw [List.map_append, List.nodup_append]
      refine ⟨hn, by simp, ?_⟩
      intro x hx y hy
      simp only [List.map_cons, List.map_nil, List.mem_singleton] at hy
      subst hy
      exact fun e => hnot (e ▸ hx)
  · intro j p hj
    refine wpAny_bind (wpAny_dictEntries (s := { s with toks := s.toks + knd.draws k }) ho hd ?_)
    rw [entry_at he j, hj]
    exact wpAny_bind (wpAny_rule (wpAny_pure (hthere p (atKey_of_get hn hj))))
theorem meetsH_setdefault {prog : Program} {w : World} {K : Type} [DecidableEq K] (knd : HeapKind prog w K) (d a : Addr) (hd : (d == sysModules) = false) (dflt : Value) :
    MeetsIn prog w (Builtin.«dict.setdefault» ⟨[.ref d, .ref a, dflt], []⟩) (fun A R s => knd.room A.in1 ∧ ∃ k xs, knd.is s.heap k a ∧ s.heap.DictOfH knd d xs ∧ xs.length ≤ sizeLine ∧
      (∀ p, atKey xs k = some p → R (.ok (.ret p.2)) { s with toks := s.toks + knd.draws k }) ∧
      (atKey xs k = none → ∀ h', h'.DictOfH knd d (xs ++ [(k, a, dflt)]) → Heap.SameBut d s.heap h' → R (.ok (.ret dflt)) { s with heap := h', toks := s.toks + knd.draws k })) :=
  .of_wp fun A R s ⟨hu, k, xs, hkey, hm, hz, h1, h2⟩ => by
    unfold Builtin.«dict.setdefault»
    refine wpAny_bind ?_
    unfold Builtin.Dict.keyAndDefault
    refine wpAny_bind (wpAny_notOrdered_dict hm.typeIs ?_)
    show wpAny _ _ (pure (d, Value.ref a, some dflt)) _ _ s
    refine wpAny_pure ?_
    show wpAny _ _ (if (d == sysModules) = true then _ else (dictSetDefault d (.ref a) dflt >>= _)) _ _ s
    rw [if_neg (by rw [hd]; exact Bool.false_ne_true)]
    exact wpAny_bind (setDefault_heap hu hkey hm (fun p hp => wpAny_pure ⟨p.2, rfl, h1 p hp⟩) (fun hn h' hm' hs' => wpAny_pure ⟨dflt, rfl, h2 hn h' hm' hs'⟩) hz)
theorem pe_bmD {o e : Expr} {es : List Expr} {to : TE} {t : TA} {name : Str} {apos cpos : Pos} {id : String} {r : V → List V → Hp → VK → Prop} {ty : V → Hp → Prop} (hty0 : ∀ (pins : List (Addr × Obj)) (σ : St) (H : Hp) (s : Shared) (x : V) (v : Value), Inv X pins σ H s → RelV x v → ty x H → s.TypeIs v "dict" ∧ ∀ a, v = .ref a → ∃ ob, s.heap.get? a = some ob ∧ ob.dict = none)
    (slot : Slot "dict" name id) (hty : typeOf (.builtin id) = pure (.type "method_descriptor")) (hm : MtR X id r) (ho : PE X o to) (ha : PA X (e :: es) t)
    (hbase : attributeBase o name X.env (eval o X.env) = eval o X.env := by rfl)
    (hfew : ((backTo cpos (starEach (e :: es) X.env)).all (fun x => !x.1) && (backToKw cpos (keywordEach [] X.env)).all (fun x => x.1.isSome)
      && decide ((e :: es).length + ([] : List Keyword).length + (if ([] : List Keyword).isEmpty then 0 else 1) < 30)) = true := by rfl)
    (hline : (apos.endLine == cpos.line) = true := by rfl) (hs : starEach (e :: es) X.env = (false, eval e X.env) :: starEach es X.env := by rfl) (hplain : (backTo cpos (starEach es X.env)).any (·.1) = false := by rfl) :
    PE X (.Call (.Attribute o name apos) (e :: es) [] cpos) (fun σ H Q => to σ H fun x H1 => ty x H1 ∧ t σ H1 fun xs H2 => r x xs H2 Q) := by
  intro pins s σ H Q I h
  refine wpAny_Call_method_late hbase hfew hline rfl (thn (ho pins s σ H _ I h) fun v s1 ⟨x, H1, I1, r1, ty1, q1⟩ => ?_)
  obtain ⟨h1, h2⟩ := hty0 _ _ _ _ _ _ I1 r1 ty1
  refine ⟨"dict", id, PySem.F.plainAttrs_dict, slot, hty, h1, h2, ?_⟩
  have hA := ha cpos pins s1 σ H1 _ I1 q1
  rw [hs] at hA ⊢
  refine Calls.callWith_builtin (by show (false || (backTo cpos (starEach es X.env)).any (·.1)) = false; rw [hplain] <;> rfl) (Calls.evalArgs_plain ?_)
  exact thn hA fun us s2 ⟨vs, H2, I2, r2, q2⟩ => hm pins s2 σ H2 x vs v us Q I2 r1 r2 q2
noncomputable def rSdf (X : Cx) : V → List V → Hp → VK → Prop := fun x vs H Q => ∃ a b kvs o d w, x = .ref a ∧ vs = [.ref b, d] ∧ DioP X.prog X.w X.K kvs H a ∧ o.dp ≤ 3 ∧ Rep X.K H (.tup (encP o)) (.ref b) ∧ Rep X.K H w d ∧ kvs.length + 1 ≤ 1000 ∧
  (∀ w' v', valO kvs o = some w' → Rep X.K H w' v' → Q v' H) ∧ (valO kvs o = none → ∀ xs, DioP X.prog X.w X.K (kvs ++ [(o, w)]) (upd H a (.ext (DioH X.prog X.w a xs))) a → TLe H (upd H a (.ext (DioH X.prog X.w a xs))) → Q d (upd H a (.ext (DioH X.prog X.w a xs))))
theorem KVO.snoc {K : PySem.W.Frag} {k : O} {a : Addr} {x : W} {v : V} {u : Value} (rk : Rep K H (.tup (encP k)) (.ref a)) (rv : Rep K H x v) (ru : RelV v u) : ∀ {kvs : List (O × W)} {xs : List (O × Addr × Value)}, KVO K H kvs xs → KVO K H (kvs ++ [(k, x)]) (xs ++ [(k, a, u)])
  | _, _, .nil => .cons rk rv ru .nil
  | _, _, .cons r1 r2 r3 t => .cons r1 r2 r3 (KVO.snoc rk rv ru t)
theorem KVO.length {K : PySem.W.Frag} : ∀ {kvs : List (O × W)} {xs : List (O × Addr × Value)}, KVO K H kvs xs → xs.length = kvs.length
  | _, _, .nil => rfl
  | _, _, .cons _ _ _ t => by rw [List.length_cons, List.length_cons, KVO.length t]
theorem TLe.ex {a : Addr} {φ : Heap → Prop} (hp : H a = some (.ext φ)) (o : HO) : TLe H (upd H a o) :=
  ⟨fun _ _ h => by rw [upd_ne (ne_of h hp (by intro z; cases z))]; exact h, fun _ _ _ h => by rw [upd_ne (ne_of h hp (by intro z; cases z))]; exact h⟩
theorem mt_sdf {k : Nat} (hr : Room k X.A) : MtR X "dict.setdefault" (rSdf X) := by
  intro pins s σ H x vs v us Q I rx rv ⟨a, b, kvs, o, d, w, e1, e2, hD, hdp, hk, hw, hl, h1, h2⟩
  subst e1 e2
  cases rx
  obtain ⟨u1, u2, rfl, r1, r2⟩ := vals2 rv
  cases (show u1 = Value.ref b from r1)
  obtain ⟨xs, eH, kv, dd⟩ := hD.dict I
  have hsz : xs.length ≤ sizeLine := by rw [kv.length, sizeLine_eq]; (clear hr I hD hdp hk hw h1 h2 r2 rv r1 eH kv dd; omega)
  refine call_meetsIn PySem.F.slot_dict_setdefault dd.typeIs PySem.F.entry_dict_setdefault (PySem.F.args_dict_setdefault_3 _ _ _) (meetsH_setdefault (oKind X.prog X.w) a b hD.2.1 u2) ⟨room20 hr, o, xs, rep_key3 I hdp hk, dd, hsz, fun p hp => ?_, fun hn h' hm' hs' => ?_⟩
  · rcases kv.at (k := o) with ⟨e, e'⟩ | ⟨x', b', v', u', e, e', r, ru⟩
    · rw [e'] at hp; cases hp
    · rw [e'] at hp; cases hp
      exact ⟨v', H, I.tok _, ru, h1 x' v' e r⟩
  · rcases kv.at (k := o) with ⟨e, e'⟩ | ⟨x', b', v', u', e, e', r, ru⟩
    · have tl := TLe.ex eH (.ext (DioH X.prog X.w a (xs ++ [(o, b, u2)])))
      obtain ⟨ob, es, ep, m1, m2, m3, m4, _⟩ := id hm'
      have dh : DioH X.prog X.w a (xs ++ [(o, b, u2)]) h' := ⟨ob, es, ep, m1, m2, m3, m4⟩
      refine ⟨d, _, d_write (t' := s.toks + (oKind X.prog X.w).draws o) I (by rw [eH]; exact True.intro) hs' ⟨ob, m1⟩ (dioH_ok dh), r2, h2 e _ ⟨by rw [List.length_append]; exact hl, hD.2.1, ?_, fun p hp => ?_, _, upd_same, (KVO.snoc hk hw r2 kv).mono tl⟩ tl⟩
      · rw [List.map_append, List.nodup_append]
        refine ⟨hD.2.2.1, by simp, fun x hx y hy z => ?_⟩
        simp only [List.map_cons, List.map_nil, List.mem_singleton] at hy
        rw [hy] at z
        obtain ⟨p, hp, hpe⟩ := List.mem_map.mp hx
        unfold valO at e
        rw [Option.map_eq_none_iff, List.find?_eq_none] at e
        exact e p hp (decide_eq_true (hpe.trans z))
      · rcases List.mem_append.mp hp with hp | hp
        · exact hD.2.2.2.1 p hp
        · rw [List.mem_singleton.mp hp]; exact hdp
    · rw [hn] at e'; cases e'
noncomputable def tyDio (X : Cx) : V → Hp → Prop := fun x H => ∃ a kvs, x = .ref a ∧ DioP X.prog X.w X.K kvs H a
theorem tyDio_is (pins : List (Addr × Obj)) (σ : St) (H : Hp) (s : Shared) (x : V) (v : Value) (I : Inv X pins σ H s) (rx : RelV x v) (h : tyDio X x H) : s.TypeIs v "dict" ∧ ∀ a, v = .ref a → ∃ ob, s.heap.get? a = some ob ∧ ob.dict = none := by
  obtain ⟨a, kvs, rfl, hD⟩ := h
  cases rx
  obtain ⟨xs, _, _, dd⟩ := hD.dict I
  refine ⟨dd.typeIs, fun b e => ?_⟩
  cases e
  obtain ⟨ob, _, _, m1, m2, _⟩ := dd
  exact ⟨ob, m1, m2.2.1⟩
noncomputable def wSdf (P : Program) (w : World) (K : PySem.W.Frag) (to tk td : WE) : WE := fun τ G q => to τ G fun x G1 => match x with
  | .ref a => (∃ kvs, G1 a = some (dio P w K kvs)) ∧ tk τ G1 fun y G2 => td τ G2 fun d G3 => ∃ o kvs, y = .tup (encP o) ∧ o.dp ≤ 3 ∧ G3 a = some (dio P w K kvs) ∧ kvs.length + 1 ≤ 1000 ∧ (∀ x, valO kvs o = some x → q x G3) ∧ (valO kvs o = none → q d (updG G3 a (dio P w K (kvs ++ [(o, d)]))))
  | _ => False
theorem qe_sdf {o k e : Expr} {to tk te : WE} {apos cpos : Pos} {n : Nat} (hr : Room n X.A) (ho : QE X o to) (hk : QE X k tk) (he : QE X e te)
    (hbase : attributeBase o "setdefault" X.env (eval o X.env) = eval o X.env := by rfl)
    (hfew : ((backTo cpos (starEach [k, e] X.env)).all (fun x => !x.1) && (backToKw cpos (keywordEach [] X.env)).all (fun x => x.1.isSome)
      && decide (([k, e] : List Expr).length + ([] : List Keyword).length + (if ([] : List Keyword).isEmpty then 0 else 1) < 30)) = true := by rfl)
    (hline : (apos.endLine == cpos.line) = true := by rfl) (hs : starEach [k, e] X.env = (false, eval k X.env) :: starEach [e] X.env := by rfl) (hs2 : starEach [e] X.env = (false, eval e X.env) :: starEach [] X.env := by rfl) (hpl : (backTo cpos (starEach [e] X.env)).any (·.1) = false := by rfl) :
    QE X (.Call (.Attribute o "setdefault" apos) [k, e] [] cpos) (wSdf X.prog X.w X.K to tk te) :=
  (pe_bmD tyDio_is PySem.F.slot_dict_setdefault PySem.F.type_dict_setdefault (mt_sdf hr) ho (pa_cons hk (pa_cons he pa_nil hs2) hs) hbase hfew hline hs hpl).imp fun σ H Q z0 => z0.el fun τ G q hs hg ht hQ =>
    ⟨τ, G, _, hs, hg, ht, fun v H1 w G1 t1 r1 g1 q1 => by
      split at q1
      · rename_i a
        cases r1
        obtain ⟨⟨kvs, e1⟩, q1⟩ := q1
        refine ⟨⟨a, kvs, rfl, (g1 a _ e1).1⟩, τ, G1, _, hs.mono t1, g1, q1, fun v2 H2 w2 G2 t2 r2 g2 q2 => ?_⟩
        refine ⟨τ, G2, _, (hs.mono t1).mono t2, g2, q2, fun v3 H3 w3 G3 t3 r3 g3 q3 => ?_⟩
        obtain ⟨o, kvs, rfl, hdp, e2, hl, h1, h2⟩ := q3
        have r2' := r2.mono t3
        have tt := (t1.trans t2).trans t3
        cases r2 with
        | @tup b _ _ hT rr =>
          refine ⟨a, b, kvs, o, v3, w3, rfl, rfl, (g3 a _ e2).1, hdp, r2', r3, hl, fun w' v' hv rv' => hQ _ _ _ _ tt rv' g3 (h1 w' hv), fun hn xs hD tl => ?_⟩
          exact hQ _ _ _ _ (tt.trans tl) (r3.mono tl) (g3.lay (g := dio X.prog X.w X.K (kvs ++ [(o, w3)])) tl hD.ok) (h2 hn)
      · exact q1.elim⟩
end
end L2
set_option linter.all false
set_option maxRecDepth 100000
namespace L2
open PySem PySem.Spec PyProof.Rows Nm PySem.W
section
variable {X : Cx} {pins : List (Addr × Obj)} {σ : St} {H : Hp} {s : Shared}
theorem num_cmp (I : Inv X pins σ H s) {a b : O} {p q : Addr} (da : a.dp ≤ 3) (rp : Rep X.K H (.tup (encP a)) (.ref p)) (rq : Rep X.K H (.tup (encP b)) (.ref q)) : ∃ its its2 : List Value, IsTup s.heap p its.toArray ∧ IsTup s.heap q its2.toArray ∧ its.length = a.len ∧ its2.length = b.len ∧ ∀ A : Around, A.units + 20 < cLine → CmpL A s its its2 (decide (O.cmp a b < 0)) := by
  cases rp with
  | tup hT r =>
    cases rq with
    | tup hT2 r2 =>
      obtain ⟨its, rv, pt, _⟩ := I.tuple (SqT.of hT)
      obtain ⟨its2, rv2, pt2, _⟩ := I.tuple (SqT.of hT2)
      obtain ⟨l1, l2⟩ := lts_encP a b
      have hd := encP_dep a
      refine ⟨its, its2, pt, pt2, by rw [← rv.length, ← r.length, encP_length], by rw [← rv2.length, ← r2.length, encP_length], fun A hu => ?_⟩
      rw [← l2]
      exact ltL_rep I 10 A (fun h1 h2 h3 h4 q1 q2 q3 q4 => lt_rep I 10 A h1 h2 h3 h4 (by (clear I da r hT r2 hT2 rv pt rv2 pt2 l1 l2 hd h1 h2 h3 h4 q1 q2 q3 q4; omega)) q1 q2 q3 q4) (by (clear I da r hT r2 hT2 rv pt rv2 pt2 l1 l2 hd; omega)) (by (clear I r hT r2 hT2 rv pt rv2 pt2 l1 l2 hu; omega)) (encP_flat a) (encP_flat b) l1 r r2 rv rv2
theorem num_lt (I : Inv X pins σ H s) {a b : O} {p q : Addr} (da : a.dp ≤ 3) (rp : Rep X.K H (.tup (encP a)) (.ref p)) (rq : Rep X.K H (.tup (encP b)) (.ref q)) {A : Around} (hu : A.units + 25 < cLine) : LtAt A s (.ref p) (.ref q) (decide (O.cmp a b < 0)) := by
  obtain ⟨its, its2, p1, p2, _, _, hc⟩ := num_cmp I da rp rq
  exact LtAt.tuples p1 p2 (by (clear I da rp rq p1 p2 hc; omega)) (hc A.in1 (by show A.units + 1 + 20 < cLine; (clear I da rp rq p1 p2 hc; omega)))
theorem lt_one {prog : Program} {w : World} {A : Around} {E : Value → Shared → Prop} {s : Shared} {x y : Value} {b : Bool} (h : LtAt A s x y b) {Q : Bool → Shared → Prop} (q : Q b s) : wpAny (model prog w) A (oneLt' false x y) Q E s := by
  refine kat_one x y ?_
  show wpAny (model prog w) A (richCompare .Lt x y) _ E s
  exact h prog w E _ q
theorem key_gen (I : Inv X pins σ H s) {a b : O} {p q : Addr} (da : a.dp ≤ 3) (rp : Rep X.K H (.tup (encP a)) (.ref p)) (rq : Rep X.K H (.tup (encP b)) (.ref q)) {A : Around} (hu : A.units + 25 < cLine) {E : Value → Shared → Prop} {Q : Bool → Shared → Prop} (h : Q (decide (O.cmp a b < 0)) s) : wpAny (model X.prog X.w) A (keyLt' general' (.ref p) (.ref q)) Q E s := lt_one (num_lt I da rp rq hu) h
theorem lex_of {prog : Program} {w : World} {A : Around} {Q : Bool → Shared → Prop} {r : Bool} {s : Shared} {fin : Bool} : ∀ {xs ys : List Value} {i : Nat}, CmpL A s xs ys r → (xs.length = ys.length → fin = false) → (xs.length < ys.length → fin = true) → (ys.length < xs.length → fin = false) → Q r s → KatLex prog w A false fin Q (xs.zip ys) i s
  | _, _, i, .nn, h1, _, _, q => by
    have := h1 rfl
    subst this
    exact q
  | _, _, i, .nc, _, h2, _, q => by
    have := h2 (by simp)
    subst this
    exact q
  | _, _, i, .cn, _, _, h3, q => by
    have := h3 (by simp)
    subst this
    exact q
  | _, _, i, .eq he t, h1, h2, h3, q => by
    refine kat_cons (he prog w _ _ (kat_yes ?_))
    exact lex_of t (fun e => h1 (by simp [e])) (fun e => h2 (by simpa using e)) (fun e => h3 (by simpa using e)) q
  | _, _, i, .ne he t, _, _, _, q => by
    refine kat_cons (he prog w _ _ (kat_no ?_))
    rw [Bool.false_and]
    exact lt_one t q
theorem key_tup (I : Inv X pins σ H s) {a b : O} {p q : Addr} (da : a.dp ≤ 3) (rp : Rep X.K H (.tup (encP a)) (.ref p)) (rq : Rep X.K H (.tup (encP b)) (.ref q)) {A : Around} (hu : A.units + 25 < cLine) {E : Value → Shared → Prop} {Q : Bool → Shared → Prop} (h : Q (decide (O.cmp a b < 0)) s) : wpAny (model X.prog X.w) A (keyLt' (tuples' false) (.ref p) (.ref q)) Q E s := by
  obtain ⟨its, its2, ⟨o1, e1, c1, n1, d1⟩, ⟨o2, e2, c2, n2, d2⟩, _, _, hc⟩ := num_cmp I da rp rq
  refine kat_lt e1 d1 e2 d2 (lex_of (hc A (by (clear I da rp rq h e1 c1 d1 e2 c2 d2 hc; omega))) (fun e => ?_) (fun e => ?_) (fun e => ?_) h)
  · exact decide_eq_false (by simp only [List.size_toArray]; simp at e; (clear I da rp rq hu h e1 c1 d1 e2 c2 d2 hc; omega))
  · exact decide_eq_true (by simpa using e)
  · exact decide_eq_false (by simp only [List.size_toArray]; simp at e; (clear I da rp rq hu h e1 c1 d1 e2 c2 d2 hc; omega))
theorem key_one (I : Inv X pins σ H s) {a b : O} {p q : Addr} (da : a.dp ≤ 3) (rp : Rep X.K H (.tup (encP a)) (.ref p)) (rq : Rep X.K H (.tup (encP b)) (.ref q)) {A : Around} (hu : A.units + 25 < cLine) {E : Value → Shared → Prop} {Q : Bool → Shared → Prop} (h : Q (decide (O.cmp a b < 0)) s) : wpAny (model X.prog X.w) A (keyLt' oneType' (.ref p) (.ref q)) Q E s := by
  obtain ⟨its, its2, ⟨⟨cl1, dd1, da1, sl1⟩, e1, c1, n1, d1⟩, ⟨⟨cl2, dd2, da2, sl2⟩, e2, c2, n2, d2⟩, _, _, hc⟩ := num_cmp I da rp rq
  simp only at c1 d1 c2 d2
  subst c1 d1 c2 d2
  have ty : s.TypeIs (.ref p) "tuple" := ⟨_, e1, rfl⟩
  rw [keyLt'_oneType, oneLt'_eq]
  simp only [if_true]
  refine wpAny_bind (wpAny_cRoomFor_or (.inr (by (clear I da rp rq h hc e1 e2 ty; omega))) ?_)
  refine wpAny_bind (wpAny_callSpecialIfBound?_slot (name := Str.ofString "__lt__") ty PySem.F.slot_tuple_lt (call_meets PySem.F.slot_tuple_lt ty PySem.F.entry_tuple_lt (PySem.F.args_tuple_lt_2 _ _) (tuple_ltAt p q its.toArray its2.toArray n1 n2 dd1 dd2 sl1 sl2 (decide (O.cmp a b < 0))) ⟨e1, e2, by simpa using hc A.in1 (by show A.units + 1 + 20 < cLine; (clear I da rp rq h hc e1 e2 ty; omega)), ?_⟩))
  exact wpAny_truthy_bool h
end
end L2
set_option linter.all false
set_option maxRecDepth 100000
namespace L2
open PySem PySem.Spec PyProof.Rows Nm PySem.W
noncomputable def EntAt (h : Heap) (d : Addr) (es : Array DictEntry) (ep : Nat) : Prop := ∃ o, h.get? d = some o ∧ o.ExactDict ∧ o.data = .dict es ep
theorem EntAt.at {h h' : Heap} {d : Addr} {es : Array DictEntry} {ep : Nat} (x : EntAt h d es ep) (k : ∀ o, h.get? d = some o → h'.get? d = some o) : EntAt h' d es ep := let ⟨o, e, r⟩ := x; ⟨o, k o e, r⟩
theorem EntAt.ty {s : Shared} {d : Addr} {es : Array DictEntry} {ep : Nat} (x : EntAt s.heap d es ep) : s.TypeIs (.ref d) "dict" := let ⟨o, e, c, _⟩ := x; ⟨o, e, c.1⟩
section
variable {prog : Program} {w : World} {A : Around} {E : Value → Shared → Prop} {s : Shared} {it d : Addr} {i ep : Nat} {es : Array DictEntry}
theorem iter_ent {Q : Value → Shared → Prop} (lo : (d == sysModules) = false) (x : EntAt s.heap d es ep)
    (q : Q (.ref s.heap.objs.size) { s with heap := s.heap.push { cls := .type "dict_keyiterator", data := .fields #[.ref d, .int 0 0, .int es.size 0, .int ep 0] } }) : wpAny (model prog w) A (pyIter (.ref d)) Q E s := by
  have ty := x.ty
  obtain ⟨o, gO, _, dO⟩ := x
  refine wpAny_pyIter_slot ty F.slot_dict_iter (wpAny_call_entry F.slot_dict_iter ty F.entry_dict_iter ?tree (F.args_dict_iter_1 _))
  case tree =>
    unfold Builtin.«dict.__iter__» Builtin.Dict.dictSlotNone
    refine wpAny_bind (wpAny_bind (wpAny_notOrdered_dict ty (wpAny_pure (a := Value.ref d) ?_)))
    show wpAny _ _ (Builtin.Dict.showsAll d >>= _) _ _ s
    unfold Builtin.Dict.showsAll
    rw [lo, if_neg Bool.false_ne_true]
    refine wpAny_bind (wpAny_pure (wpAny_bind (wpAny_dictEntries gO dO (wpAny_bind (wpAny_dictEpoch gO dO ?_)))))
    refine wpAny_bind (wpAny_newObj_type (wpAny_pure ⟨_, rfl, "dict_keyiterator", _, ⟨_, Heap.get?_push_size _ rfl, rfl⟩, F.slot_dict_keyiterator_next.lookup, ?_⟩))
    simpa [rawInt] using q
theorem next_ent {Q : Option Value → Shared → Prop} (ki : s.heap.IsKeyIter it d i es.size ep) (x : EntAt s.heap d es ep) (hi : i < es.size)
    (q : ∀ h', h'.IsKeyIter it d (i + 1) es.size ep → Heap.SameBut it s.heap h' → Q (some es[i].key) { s with heap := h' }) : wpAny (model prog w) A (pyNext (.ref it)) Q E s := by
  have tk := ki.typeIs
  obtain ⟨o, gI, cI, dI⟩ := id ki
  obtain ⟨od, gO, _, dO⟩ := x
  unfold pyNext
  refine wpAny_bind (wpAny_attempt (wpAny_callSpecial?_slot (name := Str.ofString "__next__") tk F.slot_dict_keyiterator_next (wpAny_call_entry F.slot_dict_keyiterator_next tk F.entry_dict_keyiterator_next ?tree (F.args_dict_keyiterator_next_1 _))))
  case tree =>
    refine wpAny_bind (wpAny_pure (wpAny_bind (wpAny_bind ?_)))
    first | refine wpAny_bind (wpAny_typeNameOfWhole_keyiter tk (wpAny_pure (wpAny_bind (wpAny_fieldsOf gI dI ?_)))) | refine wpAny_bind (wpAny_typeNameOf_keyiter tk (wpAny_pure (wpAny_bind (wpAny_fieldsOf gI dI ?_))))
    simp only [show Builtin.Dict_items.ownsTuple "dict_keyiterator" = false from by decide, Bool.false_eq_true, if_false]
    show wpAny _ _ (if (Value.ref d == Value.none) = true then _ else _) _ _ s
    rw [show (Value.ref d == Value.none) = false from rfl, if_neg Bool.false_ne_true]
    refine wpAny_bind (wpAny_pure (wpAny_bind (wpAny_dictEntries gO dO ?_)))
    rw [if_neg (by simp)]
    refine wpAny_bind (wpAny_pure (wpAny_bind (wpAny_dictEpoch gO dO ?_)))
    rw [if_neg (by simp)]
    refine wpAny_pure ?_
    simp only [show ¬ ((i : Int) < 0) from by (clear ki hi q tk gI cI dI gO dO; omega), if_false, Int.toNat_natCast, Array.getElem?_eq_getElem hi]
    refine wpAny_bind ?_
    first | refine wpAny_bind (wpAny_typeNameOfWhole_keyiter tk (wpAny_pure (wpAny_bind (wpAny_isOneOf_keyiter tk ?_)))) | refine wpAny_bind (wpAny_typeNameOf_keyiter tk (wpAny_pure (wpAny_bind (wpAny_isOneOf_keyiter tk ?_))))
    show wpAny _ _ (setField (.ref it) 1 (rawInt ((i : Int) + 1)) >>= _) _ _ s
    refine wpAny_bind (wpAny_setField gI dI (by simp) ?_)
    have ki' : (s.heap.update it (Obj.mapFields (·.setIfInBounds 1 (rawInt ((i : Int) + 1))))).IsKeyIter it d (i + 1) es.size ep :=
      ⟨_, Heap.get?_update_self _ gI (Obj.isFreed_of_fields (Obj.data_mapFields dI _)), (Obj.cls_mapFields ..).trans cI, by rw [Obj.data_mapFields dI]; simp [rawInt]⟩
    refine wpAny_bind (wpAny_holding (wpAny_bind (wpAny_isOneOf_keyiter (s := { s with heap := s.heap.update it (Obj.mapFields (·.setIfInBounds 1 (rawInt ((i : Int) + 1)))) }) ki'.typeIs ?_)))
    exact wpAny_pure (a := es[i].key) (wpAny_pure ⟨_, rfl, wpAny_pure (q _ ki' (Heap.SameBut.update ..))⟩)
theorem end_ent {Q : Option Value → Shared → Prop} (hh : A.handled = none) (ki : s.heap.IsKeyIter it d i es.size ep) (x : EntAt s.heap d es ep) (hi : es.size ≤ i)
    (q : ∀ h', Heap.ExtBut it s.heap h' → Q none { s with heap := h' }) : wpAny (model prog w) A (pyNext (.ref it)) Q E s := by
  have tk := ki.typeIs
  obtain ⟨o, gI, cI, dI⟩ := id ki
  obtain ⟨od, gO, _, dO⟩ := x
  unfold pyNext
  refine wpAny_bind (wpAny_attempt (wpAny_callSpecial?_slot (name := Str.ofString "__next__") tk F.slot_dict_keyiterator_next (wpAny_call_entry F.slot_dict_keyiterator_next tk F.entry_dict_keyiterator_next ?tree (F.args_dict_keyiterator_next_1 _))))
  case tree =>
    refine wpAny_bind (wpAny_pure (wpAny_bind (wpAny_bind ?_)))
    first | refine wpAny_bind (wpAny_typeNameOfWhole_keyiter tk (wpAny_pure (wpAny_bind (wpAny_fieldsOf gI dI ?_)))) | refine wpAny_bind (wpAny_typeNameOf_keyiter tk (wpAny_pure (wpAny_bind (wpAny_fieldsOf gI dI ?_))))
    simp only [show Builtin.Dict_items.ownsTuple "dict_keyiterator" = false from by decide, Bool.false_eq_true, if_false]
    show wpAny _ _ (if (Value.ref d == Value.none) = true then _ else _) _ _ s
    rw [show (Value.ref d == Value.none) = false from rfl, if_neg Bool.false_ne_true]
    refine wpAny_bind (wpAny_pure (wpAny_bind (wpAny_dictEntries gO dO ?_)))
    rw [if_neg (by simp)]
    refine wpAny_bind (wpAny_pure (wpAny_bind (wpAny_dictEpoch gO dO ?_)))
    rw [if_neg (by simp)]
    refine wpAny_pure ?_
    simp only [show ¬ ((i : Int) < 0) from by (clear hh ki hi q tk gI cI dI gO dO; omega), if_false, Int.toNat_natCast, Array.getElem?_eq_none hi]
    refine wpAny_bind ?_
    first | refine wpAny_bind (wpAny_typeNameOfWhole_keyiter tk (wpAny_pure ?_)) | refine wpAny_bind (wpAny_typeNameOf_keyiter tk (wpAny_pure ?_))
    show wpAny _ _ (setField (.ref it) 0 .none >>= _) _ _ s
    refine wpAny_bind (wpAny_setField gI dI (by simp) ?_)
    show wpAny _ _ (newExc (.type "StopIteration") [] >>= _) _ _ _
    refine wpAny_bind ?_
    simp only [newExc, newTuple]
    refine wpAny_bind (wpAny_newObj_type (wpAny_bind (m := firstArgMember _ _) (wpAny_of_eq (a := Value.none) (by first | rfl | (simp only [firstArgMember]; rfl)) (wpAny_newObj_type ?_ (by size_fits)))) (by size_fits))
    simp only [raiseNew]
    refine wpAny_bind (wpAny_handled ?_)
    rw [show A.in1.handled = none from hh]
    refine wpAny_bind (wpAny_pure (wpAny_throw ?_))
    refine wpAny_bind (wpAny_isInstance (T := "StopIteration") (b := true) ⟨_, Heap.get?_push_size _ rfl, rfl⟩ isSubtype_stop ?_)
    exact wpAny_pure (q _ (((Heap.SameBut.update ..).extBut.push _).push _))
theorem walks_ent (hh : A.handled = none) (I : Addr) (hne : d ≠ I) : Walks prog w A I [I, d] [I] es.size (fun i v => ∃ e, es[i]? = some e ∧ v = e.key) (fun i h => h.IsKeyIter I d i es.size ep ∧ EntAt h d es ep) where
  sub := fun b hb => by simp at hb; simp [hb]
  frame := fun _ _ _ st hk => ⟨st.1.at fun o e => hk I (by simp) o e, st.2.at fun o e => hk d (by simp) o e⟩
  item := fun i s Q E hi st hQ => next_ent st.1 st.2 hi fun h' ki' sb => hQ _ h' s.toks ⟨_, Array.getElem?_eq_getElem hi, rfl⟩ ⟨ki', st.2.at fun o e => (sb.2 d hne).trans e⟩ fun b o hb e => (sb.2 b (fun z => hb (by simp [z]))).trans e
  done := fun s Q E st hQ => end_ent hh st.1 st.2 (Nat.le_refl _) fun h' eb => hQ h' s.toks fun b o hb e => eb b o (fun z => hb (by simp [z])) e
  self := fun _ _ _ _ st hQ => wpAny_pyIter_keyiter st.1 hQ
theorem kdl_ent (lo : (d == sysModules) = false) : KdlSrc prog w "dict" d d es.size (fun i v => ∃ e, es[i]? = some e ∧ v = e.key) (fun h => EntAt h d es ep) where
  type := fun _ x => x.ty
  there := fun _ x => let ⟨_, e, _⟩ := x; ⟨Heap.lt_size e, Heap.lt_size e⟩
  keep := fun _ _ x hk => x.at fun o e => hk d (.inl rfl) o e
  notList := by decide
  notTuple := by decide
  hint := fun _ _ _ _ x hq => kdl_hint_dict x.ty hq
  iter := fun _ _ hh x => ⟨_, _, (fun _ _ hq => iter_ent lo x hq), walks_ent hh _ (let ⟨_, e, _⟩ := x; Nat.ne_of_lt (Heap.lt_size e)), ⟨⟨_, Heap.get?_push_size _ rfl, rfl, rfl⟩, x.at fun o e => Heap.get?_push_of_some _ e⟩⟩
end
end L2
set_option linter.all false
set_option maxRecDepth 100000
set_option maxHeartbeats 1000000
namespace L2
open PySem PySem.Spec PyProof.Rows Nm PySem.W
inductive NV (K : PySem.W.Frag) (H : Hp) : List O → List Value → Prop where
  | nil : NV K H [] []
  | cons {o : O} {a : Addr} {os : List O} {us : List Value} (r : Rep K H (.tup (encP o)) (.ref a)) (hd : o.dp ≤ 3) (t : NV K H os us) : NV K H (o :: os) (.ref a :: us)
theorem NV.length {K : PySem.W.Frag} {H : Hp} : ∀ {os : List O} {us : List Value}, NV K H os us → os.length = us.length
  | _, _, .nil => rfl
  | _, _, .cons _ _ t => congrArg (· + 1) t.length
theorem NV.app {K : PySem.W.Frag} {H : Hp} : ∀ {os ps : List O} {us vs : List Value}, NV K H os us → NV K H ps vs → NV K H (os ++ ps) (us ++ vs)
  | _, _, _, _, .nil, t => t
  | _, _, _, _, .cons r hd t, t2 => .cons r hd (t.app t2)
theorem NV.rev {K : PySem.W.Frag} {H : Hp} : ∀ {os : List O} {us : List Value}, NV K H os us → NV K H os.reverse us.reverse
  | _, _, .nil => .nil
  | _, _, .cons r hd t => by
    rw [List.reverse_cons, List.reverse_cons]
    exact t.rev.app (.cons r hd .nil)
theorem NV.at {K : PySem.W.Frag} {H : Hp} : ∀ {os : List O} {us : List Value}, NV K H os us → ∀ i, i < os.length → ∃ a, us.getD i Value.none = .ref a ∧ Rep K H (.tup (encP (os.getD i .z))) (.ref a) ∧ (os.getD i .z).dp ≤ 3
  | _, _, .nil, i, h => absurd h (Nat.not_lt_zero _)
  | _, _, .cons r hd t, 0, _ => ⟨_, rfl, r, hd⟩
  | _, _, .cons r hd t, i + 1, h => t.at i (Nat.lt_of_succ_lt_succ h)
theorem NV.pick {K : PySem.W.Frag} {H : Hp} {os : List O} {us : List Value} (h : NV K H os us) : ∀ {p : List Nat}, (∀ i, i ∈ p → i < os.length) → NV K H (p.map fun i => os.getD i .z) (p.map fun i => us.getD i Value.none)
  | [], _ => .nil
  | i :: p, hp => by
    obtain ⟨a, h1, h2, h3⟩ := h.at i (hp i List.mem_cons_self)
    rw [List.map_cons, List.map_cons, h1]
    exact .cons h2 h3 (h.pick fun j hj => hp j (List.mem_cons_of_mem _ hj))
section
variable {X : Cx} {pins : List (Addr × Obj)} {σ : St} {H : Hp} {s : Shared}
theorem looks_tup {M : Model} {a : Addr} {o : Obj} {h : Heap} (e : h.get? a = some o) (c : o.cls = .type "tuple") : Looks M h (typeOf (.ref a)) (.type "tuple") := c ▸ ((Looks.ld e).andThen .now)
theorem nv_firsts (I : Inv X pins σ H s) {M : Model} {A : Around} {E : Value → Shared → Prop} : ∀ {os : List O} {us : List Value}, NV X.K H os us → ∃ fs : List (Option Value), fs.length = us.length ∧ (∀ v, some v ∈ fs → Looks M s.heap (typeOf v) (.type "tuple")) ∧ ∀ {Q : List (Option Value) → Shared → Prop}, Q fs s → wpAny M A (us.mapM firstOfTuple') Q E s
  | _, _, .nil => ⟨[], rfl, (fun _ h => (nomatch h)), fun q => by rw [List.mapM_nil]; exact wpAny_pure q⟩
  | _, _, .cons (o := o) (a := a) (us := us) r hd t => by
    obtain ⟨fs, h1, h2, h3⟩ := nv_firsts I t
    cases r with
    | tup hT rr =>
      obtain ⟨its, rv, ⟨ob, e, c, n, dd⟩, _⟩ := I.tuple (SqT.of hT)
      refine ⟨its[0]? :: fs, by simp [h1], fun v hv => ?_, fun {Q} q => ?_⟩
      · rcases List.mem_cons.mp hv with hv | hv
        · cases o with
          | z =>
            cases rr
            cases rv
            cases hv
          | c e1 n1 r1 =>
            rw [encP_c] at rr
            cases rr with
            | cons q1 qs =>
              cases rv with
              | cons w1 ws =>
                cases hv
                unfold prt at q1
                cases q1 with
                | tup hT2 _ =>
                  obtain ⟨its2, _, ⟨ob2, e2, c2, n2, dd2⟩, _⟩ := I.tuple (SqT.of hT2)
                  cases (show v = Value.ref _ from w1)
                  exact looks_tup e2 c2
        · exact h2 v hv
      · rw [List.mapM_cons]
        refine wpAny_bind ?_
        rw [kas_first_eq]
        refine wpAny_bind ((looks_tup e c).here ?_)
        rw [if_neg (by decide)]
        refine wpAny_bind (listItems_at e dd (wpAny_pure (wpAny_bind (h3 (wpAny_pure ?_)))))
        simpa using q
theorem nv_looks (I : Inv X pins σ H s) {M : Model} : ∀ {os : List O} {us : List Value}, NV X.K H os us → ∀ v, v ∈ us → Looks M s.heap (typeOf v) (.type "tuple")
  | _, _, .nil, v, hv => (nomatch hv)
  | _, _, .cons r hd t, v, hv => by
    rcases List.mem_cons.mp hv with rfl | hv
    · cases r with
      | tup hT rr =>
        obtain ⟨its, rv, ⟨ob, e, c, n, dd⟩, _⟩ := I.tuple (SqT.of hT)
        exact looks_tup e c
    · exact nv_looks I t v hv
theorem one_type {M : Model} {A : Around} {E : Value → Shared → Prop} {vs : List Value} (hne : vs ≠ []) (hT : ∀ v, v ∈ vs → Looks M s.heap (typeOf v) (.type "tuple")) {Q : Option Value → Shared → Prop} (q : Q (some (.type "tuple")) s) : wpAny M A (oneTypeOnly' vs.toArray) Q E s := by
  rw [oneTypeOnly'_eq, List.mapM_toArray, map_eq_pure_bind]
  refine wpAny_bind (wpAny_bind (kas_mapM (r := Value.type "tuple") _ (fun v hv Q' hq => (hT v hv).here hq) (wpAny_pure ?_)))
  cases vs with
  | nil => exact absurd rfl hne
  | cons v vs =>
    have e0 : (List.map (fun _ => Value.type "tuple") (v :: vs)).toArray[0]? = some (Value.type "tuple") := by simp
    have e1 : ((List.map (fun _ => Value.type "tuple") (v :: vs)).toArray.all fun x => x == Value.type "tuple") = true := by simp
    rw [e0]
    simp only [e1, if_true]
    exact wpAny_pure q
theorem nv_kind (I : Inv X pins σ H s) {A : Around} {E : Value → Shared → Prop} {os : List O} {us : List Value} (nv : NV X.K H os us) (h1 : 1 ≤ us.length) {Q : SortKind → Shared → Prop} (q : ∀ κ, (κ = tuples' false ∨ κ = general' ∨ κ = oneType') → Q κ s) : wpAny (model X.prog X.w) A (keyKind' us.toArray) Q E s := by
  obtain ⟨fs, l1, l2, l3⟩ := nv_firsts (M := model X.prog X.w) (A := A) (E := E) I nv
  have hne : us ≠ [] := fun z => by rw [z] at h1; exact absurd h1 (by decide)
  rw [kat_kind_eq, List.mapM_toArray, map_eq_pure_bind]
  refine wpAny_bind (wpAny_bind (l3 (wpAny_pure ?_)))
  by_cases hall : (fs.toArray.all fun x => x.isSome) = true
  · rw [if_pos hall]
    refine wpAny_bind (wpAny_rule ?_)
    have hfm : (fs.toArray.filterMap id) = (fs.filterMap id).toArray := by simp
    rw [hfm]
    refine wpAny_bind (one_type ?_ (fun v hv => ?_) ?_)
    · intro z
      have : fs ≠ [] := fun z2 => by rw [z2] at l1; exact hne (List.eq_nil_of_length_eq_zero l1.symm)
      cases fs with
      | nil => exact this rfl
      | cons f fs =>
        cases f with
        | none => simp at hall
        | some v => simp at z
    · obtain ⟨x, hx, hv⟩ := List.mem_filterMap.mp hv
      exact l2 v (by rw [← hv]; exact hx)
    · exact wpAny_pure (q _ (.inl rfl))
  · rw [if_neg hall]
    by_cases h0 : (fs.toArray[0]?.bind id).isSome = true
    · rw [if_pos h0]
      exact wpAny_pure (q _ (.inr (.inl rfl)))
    · rw [if_neg h0]
      refine wpAny_bind (one_type hne (nv_looks I nv) ?_)
      exact wpAny_pure (q _ (.inr (.inr rfl)))
theorem key_any (I : Inv X pins σ H s) {a b : O} {p q : Addr} (da : a.dp ≤ 3) (rp : Rep X.K H (.tup (encP a)) (.ref p)) (rq : Rep X.K H (.tup (encP b)) (.ref q)) {A : Around} (hu : A.units + 25 < cLine) {κ : SortKind} (hκ : κ = tuples' false ∨ κ = general' ∨ κ = oneType') {E : Value → Shared → Prop} {Q : Bool → Shared → Prop} (h : Q (decide (O.cmp a b < 0)) s) : wpAny (model X.prog X.w) A (keyLt' κ (.ref p) (.ref q)) Q E s := by
  rcases hκ with rfl | rfl | rfl
  · exact key_tup I da rp rq hu h
  · exact key_gen I da rp rq hu h
  · exact key_one I da rp rq hu h
theorem pairs_rev (vs : List Value) : (vs.toArray.zip vs.toArray).reverse = pairsOf vs.reverse := by
  apply Array.toList_inj.mp
  show (vs.toArray.zip vs.toArray).reverse.toList = (vs.reverse.toArray.zip vs.reverse.toArray).toList
  rw [Array.toList_reverse, Array.toList_zip, Array.toList_zip]
  show (List.zip vs vs).reverse = List.zip vs.reverse vs.reverse
  unfold List.zip
  exact List.reverse_zipWith rfl
end
end L2
set_option linter.all false
set_option maxRecDepth 100000
set_option maxHeartbeats 1000000
namespace L2
open PySem PySem.Spec PyProof.Rows Nm PySem.W
section
variable {X : Cx} {pins : List (Addr × Obj)} {σ : St} {H : Hp} {s : Shared}
theorem KVO.ents {P : Program} {w : World} {K : PySem.W.Frag} : ∀ {kvs : List (O × W)} {xs : List (O × Addr × Value)}, KVO K H kvs xs → (∀ p, p ∈ kvs → p.1.dp ≤ 3) → NV K H (kvs.map (·.1)) ((xs.map (entryOfKey (oKind P w))).map (·.key))
  | _, _, .nil, _ => .nil
  | _, _, .cons rk _ _ t, h => .cons rk (h _ List.mem_cons_self) (KVO.ents t fun p hp => h p (List.mem_cons_of_mem _ hp))
theorem NV.vals {K : PySem.W.Frag} : ∀ {os : List O} {us : List Value}, NV K H os us → ∃ vs : List V, Reps K H (os.map fun o => .tup (encP o)) vs ∧ Vals vs us
  | _, _, .nil => ⟨[], .nil, .nil⟩
  | _, _, .cons (a := a) r _ t => by
    obtain ⟨vs, h1, h2⟩ := NV.vals t
    exact ⟨.ref a :: vs, .cons r h1, .cons rfl h2⟩
theorem boot_sorted : bootBuiltins "sorted" = some (.builtin "sorted") := by decide +kernel
end
end L2
set_option linter.all false
set_option maxRecDepth 100000
namespace L2
open PySem PySem.Spec PyProof.Rows Nm PySem.W
noncomputable def kPath {α : Type} (n : Nat) (lt : Nat → Nat → Bool) (Q : α → Prop) : KasT α → Prop
  | .ret a => Q a
  | .ask i j k => i < n ∧ j < n ∧ kPath n lt Q (k (lt i j))
theorem kPath.wp {α : Type} {n : Nat} {lt : Nat → Nat → Bool} {Q : α → Prop} {cmp : Nat → Nat → (Bool → Shared → Prop) → Shared → Prop} {s : Shared} (hc : ∀ i j, i < n → j < n → ∀ C : Bool → Shared → Prop, C (lt i j) s → cmp i j C s) : ∀ t : KasT α, kPath n lt Q t → t.kasWp cmp (fun a s' => s' = s ∧ Q a) s
  | .ret a, h => ⟨rfl, h⟩
  | .ask i j k, h => hc i j h.1 h.2.1 _ (kPath.wp hc (k (lt i j)) h.2.2)
theorem kPath.bind {α β : Type} {n : Nat} {lt : Nat → Nat → Bool} {Q : α → Prop} {R : β → Prop} {f : α → KasT β} (hf : ∀ a, Q a → kPath n lt R (f a)) : ∀ t : KasT α, kPath n lt Q t → kPath n lt R (t.bind f)
  | .ret a, h => hf a h
  | .ask i j k, h => ⟨h.1, h.2.1, kPath.bind hf (k (lt i j)) h.2.2⟩
section
variable {n : Nat} {σ : Nat → Nat}
noncomputable abbrev ltv (σ : Nat → Nat) (i j : Nat) : Bool := decide (σ i < σ j)
structure Gd (n : Nat) (σ : Nat → Nat) (p : Array Nat) : Prop where
  sz : p.size = n
  lt : ∀ k, k < n → p.getD k 0 < n
  inj : ∀ j k, j < n → k < n → σ (p.getD j 0) = σ (p.getD k 0) → j = k
  pm : p.Perm (List.range n).toArray
theorem Gd.of (hσ : ∀ i j, i < n → j < n → σ i = σ j → i = j) {p : Array Nat} (h : p.Perm (List.range n).toArray) : Gd n σ p := by
  have hl : p.toList.Perm (List.range n) := by simpa using Array.perm_iff_toList_perm.mp h
  have hz : p.size = n := by have := hl.length_eq; simpa using this
  have hlt : ∀ k, k < n → p.getD k 0 < n := fun k hk => by
    have hk' : k < p.size := by (clear hσ h hl; omega)
    have : p.getD k 0 = p[k] := by simp [Array.getD, hk']
    rw [this]
    have hm : p[k] ∈ List.range n := hl.mem_iff.mp (by simp)
    exact List.mem_range.mp hm
  refine ⟨hz, hlt, fun j k hj hk e => ?_, h⟩
  have e2 := hσ _ _ (hlt j hj) (hlt k hk) e
  have hnd : p.toList.Nodup := hl.nodup_iff.mpr List.nodup_range
  have hj' : j < p.size := by (clear hσ h hl hlt hk e e2 hnd; omega)
  have hk' : k < p.size := by (clear hσ h hl hlt hj e e2 hnd hj'; omega)
  have a1 : p.getD j 0 = p.toList[j]'(by simpa using hj') := by simp [Array.getD, hj']
  have a2 : p.getD k 0 = p.toList[k]'(by simpa using hk') := by simp [Array.getD, hk']
  rw [a1, a2] at e2
  refine (List.getElem?_inj (l := p.toList) (by simpa using hj') hnd).mp ?_
  rw [List.getElem?_eq_getElem (by simpa using hj'), List.getElem?_eq_getElem (by simpa using hk'), e2]
noncomputable def vv (σ : Nat → Nat) (p : Array Nat) (k : Nat) : Nat := σ (p.getD k 0)
noncomputable def Asc (σ : Nat → Nat) (p : Array Nat) (m : Nat) : Prop := ∀ k, 1 ≤ k → k < m → vv σ p (k - 1) < vv σ p k
theorem Asc.lt {p : Array Nat} {m : Nat} (h : Asc σ p m) : ∀ d j, j + (d + 1) < m → vv σ p j < vv σ p (j + (d + 1))
  | 0, j, hj => by have := h (j + 1) (by (clear h hj; omega)) (by assumption); simpa using this
  | d + 1, j, hj => by
    have h1 := h.lt d j (by (clear h; omega))
    have h2 := h (j + (d + 2)) (by (clear h hj h1; omega)) (by assumption)
    have e : j + (d + 2) - 1 = j + (d + 1) := by (clear h hj h1 h2; omega)
    rw [e] at h2
    exact Nat.lt_trans h1 h2
theorem Asc.le {p : Array Nat} {m i j : Nat} (h : Asc σ p m) (hij : i < j) (hj : j < m) : vv σ p i < vv σ p j := by
  have := h.lt (j - i - 1) i (by (clear h; omega))
  rwa [show i + (j - i - 1 + 1) = j by (clear h hj this; omega)] at this
theorem vv_ne (g : Gd n σ p) {j k : Nat} (hj : j < n) (hk : k < n) (h : j ≠ k) : vv σ p j ≠ vv σ p k := fun e => h (g.inj j k hj hk e)
theorem asc_path {p : Array Nat} (g : Gd n σ p) : ∀ (f m : Nat), 1 ≤ m → m + f ≤ n → Asc σ p m → kPath n (ltv σ) (fun r => m ≤ r ∧ r ≤ m + f ∧ Asc σ p r ∧ (r < m + f → vv σ p r < vv σ p (r - 1))) (kas_asc p f m)
  | 0, m, h1, _, ha => ⟨Nat.le_refl _, Nat.le_refl _, ha, fun h => absurd h (Nat.lt_irrefl _)⟩
  | f + 1, m, h1, h2, ha => by
    refine ⟨g.lt m (by (clear g h1 ha; omega)), g.lt (m - 1) (by (clear g ha; omega)), ?_⟩
    by_cases c : σ (p.getD m 0) < σ (p.getD (m - 1) 0)
    · simp only [ltv, decide_eq_true c, if_true]
      exact ⟨Nat.le_refl _, by (clear g h1 h2 ha c; omega), ha, fun _ => c⟩
    · simp only [ltv, decide_eq_false c, Bool.false_eq_true, if_false]
      have hne := vv_ne g (j := m) (k := m - 1) (by (clear g h1 ha c; omega)) (by (clear g ha c; omega)) (by (clear g h2 ha c; omega))
      have hlt : vv σ p (m - 1) < vv σ p m := by unfold vv at *; (clear g h1 h2 ha; omega)
      have ha' : Asc σ p (m + 1) := fun k k1 k2 => by
        by_cases e : k = m
        · rw [e]; exact hlt
        · exact ha k k1 (by (clear g h1 h2 ha c hne hlt k1; omega))
      have ih := asc_path g f (m + 1) (by (clear g h2 ha c hne hlt ha'; omega)) (by (clear g h1 ha c hne hlt ha'; omega)) ha'
      have e : m + 1 + f = m + (f + 1) := by (clear g h1 h2 ha c hne hlt ha' ih; omega)
      rw [e] at ih
      exact kPath_mono (fun r hr => ⟨by (clear g h1 h2 ha c hne hlt ha' ih e; omega), hr.2.1, hr.2.2⟩) _ ih
where
  kPath_mono {α : Type} {Q R : α → Prop} (h : ∀ a, Q a → R a) : ∀ t : KasT α, kPath n (ltv σ) Q t → kPath n (ltv σ) R t
    | .ret a, q => h a q
    | .ask i j k, q => ⟨q.1, q.2.1, kPath_mono h (k (ltv σ i j)) q.2.2⟩
noncomputable def Dsc (σ : Nat → Nat) (p : Array Nat) (m : Nat) : Prop := ∀ k, 1 ≤ k → k < m → vv σ p k < vv σ p (k - 1)
theorem desc_path {p : Array Nat} (g : Gd n σ p) : ∀ (f m : Nat), 1 ≤ m → m + f ≤ n → Dsc σ p m → kPath n (ltv σ) (fun r => r.1 = p ∧ m ≤ r.2.1 ∧ r.2.1 ≤ m + f ∧ r.2.2 = 0 ∧ Dsc σ p r.2.1) (kas_desc f p m 0)
  | 0, m, h1, _, ha => ⟨rfl, Nat.le_refl _, Nat.le_refl _, rfl, ha⟩
  | f + 1, m, h1, h2, ha => by
    refine ⟨g.lt m (by (clear g h1 ha; omega)), g.lt (m - 1) (by (clear g ha; omega)), ?_⟩
    by_cases c : σ (p.getD m 0) < σ (p.getD (m - 1) 0)
    · simp only [ltv, decide_eq_true c, if_true, Nat.lt_irrefl, if_false, gt_iff_lt]
      have ha' : Dsc σ p (m + 1) := fun k k1 k2 => by
        by_cases e : k = m
        · rw [e]; exact c
        · exact ha k k1 (by (clear g h1 h2 ha c k1; omega))
      have ih := desc_path g f (m + 1) (by (clear g h2 ha c ha'; omega)) (by (clear g h1 ha c ha'; omega)) ha'
      exact asc_path.kPath_mono (fun r hr => ⟨hr.1, by have := hr.2.1; (clear g h1 h2 ha c ha' ih this; omega), by have := hr.2.2.1; (clear g h1 h2 ha c ha' ih this; omega), hr.2.2.2⟩) _ ih
    · simp only [ltv, decide_eq_false c, Bool.false_eq_true, if_false]
      have hne := vv_ne g (j := m) (k := m - 1) (by (clear g h1 ha c; omega)) (by (clear g ha c; omega)) (by (clear g h2 ha c; omega))
      have hlt : σ (p.getD (m - 1) 0) < σ (p.getD m 0) := by unfold vv at hne; (clear g h1 h2 ha; omega)
      refine ⟨g.lt (m - 1) (by (clear g ha c hne hlt; omega)), g.lt m (by (clear g h1 ha c hne hlt; omega)), ?_⟩
      simp only [decide_eq_true hlt, if_true]
      exact ⟨rfl, Nat.le_refl _, by show m ≤ m + (f + 1); (clear g h1 h2 ha c hne hlt; omega), rfl, ha⟩
theorem getD_of {p : Array Nat} {k : Nat} : p.getD k 0 = (p[k]?).getD 0 := by
  by_cases h : k < p.size
  · simp [Array.getD, h]
  · simp [Array.getD, h]
theorem rev_at {p : Array Nat} {m k : Nat} (hm : m ≤ p.size) : (kas_rev p 0 m).getD k 0 = if k < m then p.getD (m - 1 - k) 0 else p.getD k 0 := by
  unfold kas_rev
  rw [getD_of, getElem?_mirror_all hm]
  by_cases h : k < m
  · rw [if_pos ⟨Nat.zero_le _, h⟩, if_pos h, getD_of]; congr 2; (clear hm; omega)
  · rw [if_neg (fun z => h z.2), if_neg h, getD_of]
theorem tail_path (hσ : ∀ i j, i < n → j < n → σ i = σ j → i = j) {p : Array Nat} (g : Gd n σ p) {m : Nat} (h1 : 1 ≤ m) (h2 : m ≤ n) (hd : Dsc σ p m) : kPath n (ltv σ) (fun r => Gd n σ r.2 ∧ 1 ≤ r.1 ∧ r.1 ≤ n ∧ Asc σ r.2 r.1) (kas_tail3 m n p) := by
  have g' : Gd n σ (kas_rev p 0 m) := Gd.of hσ ((mirror_perm _ _ _ _).trans g.pm)
  have ha : Asc σ (kas_rev p 0 m) m := fun k k1 k2 => by
    unfold vv
    rw [rev_at (by rw [g.sz]; exact h2), rev_at (by rw [g.sz]; exact h2), if_pos (by (clear hσ g h1 h2 hd g'; omega)), if_pos k2]
    have := hd (m - k) (by (clear hσ g h1 h2 hd g' k1; omega)) (by (clear hσ g h1 h2 hd g'; omega))
    unfold vv at this
    rw [show m - 1 - (k - 1) = m - k by (clear hσ g h1 h2 hd g' this; omega), show m - 1 - k = m - k - 1 by (clear hσ g h1 h2 hd g' k1 this; omega)]
    exact this
  refine kPath.bind (Q := fun r => m ≤ r ∧ r ≤ m + (n - m) ∧ Asc σ (kas_rev p 0 m) r ∧ _) (fun r hr => ?_) _ (asc_path g' (n - m) m h1 (by (clear hσ g h1 hd g' ha; omega)) ha)
  exact ⟨g', by show 1 ≤ r; have := hr.1; (clear hσ g h2 hd g' ha this; omega), by show r ≤ n; have := hr.2.1; (clear hσ g h1 hd g' ha this; omega), hr.2.2.1⟩
theorem descPart_path (hσ : ∀ i j, i < n → j < n → σ i = σ j → i = j) {p : Array Nat} (g : Gd n σ p) (h2 : 2 ≤ n) (hd : vv σ p 1 < vv σ p 0) : kPath n (ltv σ) (fun r => Gd n σ r.2 ∧ 1 ≤ r.1 ∧ r.1 ≤ n ∧ Asc σ r.2 r.1) (kas_descPart 1 n p) := by
  have h0 : Dsc σ p 2 := fun k k1 k2 => by rw [show k = 1 by (clear hσ g h2 hd; omega)]; exact hd
  refine kPath.bind (fun r hr => ?_) _ (desc_path g (n - (1 + 1)) (1 + 1) (by (clear hσ g h2 hd h0; omega)) (by (clear hσ g hd h0; omega)) h0)
  obtain ⟨p', m, q⟩ := r
  obtain ⟨e1, e2, e3, e4, e5⟩ := hr
  simp only at e1 e2 e3 e4 e5
  subst e1 e4
  simp only [gt_iff_lt, Nat.lt_irrefl, if_false]
  exact tail_path hσ g (by (clear hσ h2 e3 g hd h0 e5; omega)) (by (clear hσ e2 g hd h0 e5; omega)) e5
theorem count_path (hσ : ∀ i j, i < n → j < n → σ i = σ j → i = j) {p : Array Nat} (g : Gd n σ p) (h2 : 2 ≤ n) : kPath n (ltv σ) (fun r => Gd n σ r.2 ∧ 1 ≤ r.1 ∧ r.1 ≤ n ∧ Asc σ r.2 r.1) (kas_count n p) := by
  refine kPath.bind (fun r hr => ?_) _ (asc_path g (n - 1) 1 (Nat.le_refl _) (by (clear hσ g; omega)) fun k k1 k2 => absurd k2 (by (clear hσ g h2; omega)))
  obtain ⟨r1, r2, r3, r4⟩ := hr
  by_cases e : r = n
  · rw [if_pos (by simpa using e)]
    exact ⟨g, r1, by show r ≤ n; (clear hσ g h2 r1 r2 r3 r4; omega), r3⟩
  · rw [if_neg (by simpa using e)]
    by_cases h : 1 < r
    · rw [if_pos h]
      refine ⟨g.lt 0 (by (clear hσ g r1 r2 r3 r4 e h; omega)), g.lt (r - 1) (by (clear hσ g r1 r3; omega)), ?_⟩
      have hlt : σ (p.getD 0 0) < σ (p.getD (r - 1) 0) := r3.le (i := 0) (j := r - 1) (by (clear hσ g h2 r1 r2 r3 r4 e; omega)) (by (clear hσ g h2 r1 r2 r3 r4 e; omega))
      simp only [ltv, decide_eq_true hlt, if_true]
      exact ⟨g, r1, by show r ≤ n; (clear hσ g r1 r3 h hlt; omega), r3⟩
    · rw [if_neg h]
      have : r = 1 := by (clear hσ g h2 r2 r3 r4 e; omega)
      subst this
      exact descPart_path hσ g h2 (r4 (by (clear hσ g r1 r3 h; omega)))
theorem place_path {p : Array Nat} (g : Gd n σ p) {k : Nat} (hk : k < n) (ha : Asc σ p k) : ∀ (f l r : Nat), l ≤ r → r ≤ k → r - l ≤ f → (∀ j, j < l → vv σ p j < vv σ p k) → (∀ j, r ≤ j → j < k → vv σ p k < vv σ p j) → kPath n (ltv σ) (fun m => m ≤ k ∧ (∀ j, j < m → vv σ p j < vv σ p k) ∧ (∀ j, m ≤ j → j < k → vv σ p k < vv σ p j)) (kas_place p k f l r)
  | 0, l, r, h1, h2, h3, a1, a2 => ⟨by (clear g hk ha h3 a1 a2; omega), a1, fun j hj hjk => a2 j (by (clear g hk ha h2 a1 a2 hjk; omega)) hjk⟩
  | f + 1, l, r, h1, h2, h3, a1, a2 => by
    unfold kas_place
    by_cases c : l ≥ r
    · rw [if_pos c]
      exact ⟨by (clear g hk ha h3 a1 a2; omega), a1, fun j hj hjk => a2 j (by (clear g hk ha h2 h3 a1 a2 hjk; omega)) hjk⟩
    · rw [if_neg c]
      have hm : (l + r) / 2 < r := by (clear g hk ha h1 h2 h3 a1 a2; omega)
      have hm2 : l ≤ (l + r) / 2 := by (clear g hk ha h1 h2 h3 a1 a2 hm; omega)
      refine ⟨g.lt k hk, g.lt _ (by (clear g ha h1 h3 a1 a2 c hm2; omega)), ?_⟩
      by_cases d : σ (p.getD k 0) < σ (p.getD ((l + r) / 2) 0)
      · simp only [ltv, decide_eq_true d, if_true]
        refine place_path g hk ha f l ((l + r) / 2) hm2 (by (clear g hk ha h1 h3 a1 a2 c hm2 d; omega)) (by (clear g hk ha h1 h2 a1 a2 d; omega)) a1 fun j hj hjk => ?_
        by_cases e : j = (l + r) / 2
        · rw [e]; exact d
        · exact Nat.lt_trans d (ha.le (by (clear g hk ha h1 h2 h3 a1 a2 c hm hm2 d hjk; omega)) hjk)
      · simp only [ltv, decide_eq_false d, Bool.false_eq_true, if_false]
        have hne := vv_ne g (j := k) (k := (l + r) / 2) hk (by (clear g ha h1 h3 a1 a2 c hm2 d; omega)) (by (clear g hk ha h1 h3 a1 a2 c hm2 d; omega))
        have hlt : vv σ p ((l + r) / 2) < vv σ p k := by unfold vv at *; (clear g hk ha h1 h2 h3 a1 a2 c hm hm2; omega)
        refine place_path g hk ha f ((l + r) / 2 + 1) r (by assumption) h2 (by (clear g hk ha h1 h2 a1 a2 d; omega)) (fun j hj => ?_) a2
        by_cases e : j = (l + r) / 2
        · rw [e]; exact hlt
        · exact Nat.lt_trans (ha.le (by (clear g hk ha h1 h2 h3 a1 a2 c hm hm2 d hne hlt; omega)) (by (clear g hk ha h1 h3 a1 a2 c hm2 d hne hlt hj e; omega))) hlt
theorem bub_at {p : Array Nat} {k l j : Nat} (hk : k < p.size) (hl : l ≤ k) : (bubble p k (k - l)).getD j 0 = if j = l then p.getD k 0 else if l < j ∧ j ≤ k then p.getD (j - 1) 0 else p.getD j 0 := by
  rw [getD_of, getElem?_bubble hk (k - l) (by (clear hk; omega)), show k - (k - l) = l by (clear hk; omega)]
  by_cases h1 : j = l
  · rw [if_pos h1, if_pos h1, getD_of]
  · rw [if_neg h1, if_neg h1]
    by_cases h2 : l < j ∧ j ≤ k
    · rw [if_pos h2, if_pos h2, getD_of]
    · rw [if_neg h2, if_neg h2, getD_of]
theorem bin_path (hσ : ∀ i j, i < n → j < n → σ i = σ j → i = j) : ∀ (f : Nat) (p : Array Nat) (k : Nat), Gd n σ p → k + f = n → Asc σ p k → kPath n (ltv σ) (fun r => Gd n σ r ∧ Asc σ r n) (kas_bin f p k)
  | 0, p, k, g, e, ha => by
    have : k = n := by assumption
    subst this
    exact ⟨g, ha⟩
  | f + 1, p, k, g, e, ha => by
    refine kPath.bind (fun l hl => ?_) _ (place_path g (by (clear hσ g ha; omega)) ha k 0 k (Nat.zero_le _) (Nat.le_refl _) (by (clear hσ g ha; omega)) (fun j hj => absurd hj (Nat.not_lt_zero _)) fun j h1 h2 => absurd h2 (by (clear hσ g ha; omega)))
    obtain ⟨l1, l2, l3⟩ := hl
    have hk : k < p.size := by rw [g.sz]; (clear hσ g ha l1 l2 l3; omega)
    refine bin_path hσ f _ (k + 1) (Gd.of hσ ((bubble_perm _ _ _).trans g.pm)) (by (clear hσ g ha l1 l2 l3 hk; omega)) fun j j1 j2 => ?_
    have e1 : ∀ i, vv σ (bubble p k (k - l)) i = if i = l then vv σ p k else if l < i ∧ i ≤ k then vv σ p (i - 1) else vv σ p i := fun i => by
      unfold vv
      rw [bub_at hk l1]
      split
      · rfl
      · split <;> rfl
    rw [e1, e1]
    by_cases c1 : j = l
    · rw [if_neg (by (clear hσ g e ha l1 l2 l3 hk j2 e1; omega)), if_neg (by (clear hσ g e ha l1 l2 l3 hk j2 e1; omega)), if_pos c1]
      exact l2 _ (by (clear hσ g e ha l1 l2 l3 hk j2 e1; omega))
    · rw [if_neg (c := j = l) c1]
      by_cases c2 : j - 1 = l
      · rw [if_pos c2, if_pos (by (clear hσ g ha l1 l2 l3 hk e1 c1; omega))]
        exact l3 _ (by (clear hσ g e ha l1 l2 l3 hk j1 j2 e1 c1; omega)) (by (clear hσ g ha l2 l3 hk e1 c1; omega))
      · rw [if_neg c2]
        by_cases c3 : l < j
        · rw [if_pos (show l < j - 1 ∧ j - 1 ≤ k by (clear hσ g ha l1 l2 l3 hk e1 c1; omega)), if_pos (by (clear hσ g ha l1 l2 l3 hk j1 e1 c1 c2; omega))]
          exact ha (j - 1) (by (clear hσ g e ha l1 l2 l3 hk j2 e1 c1; omega)) (by (clear hσ g ha l1 l2 l3 hk e1 c1 c2 c3; omega))
        · rw [if_neg (by (clear hσ g e ha l1 l2 l3 hk j2 e1 c1 c2; omega)), if_neg (by (clear hσ g e ha l1 l2 l3 hk j1 j2 e1 c1 c2; omega))]
          exact ha j j1 (by (clear hσ g ha l2 l3 hk e1; omega))
theorem sort_path (hσ : ∀ i j, i < n → j < n → σ i = σ j → i = j) (h2 : 2 ≤ n) : kPath n (ltv σ) (fun r => Gd n σ r ∧ Asc σ r n) (kas_sort n) := by
  have g0 : Gd n σ (List.toArray (List.range n)) := Gd.of hσ (Array.Perm.refl _)
  refine kPath.bind (fun r hr => ?_) _ (count_path hσ g0 h2)
  obtain ⟨g, h1, h3, ha⟩ := hr
  by_cases c : r.1 < n
  · rw [if_pos c, Nat.max_eq_left h1]
    exact bin_path hσ (n - r.1) r.2 r.1 g (by (clear hσ h2 g0 g h1 h3 ha; omega)) ha
  · rw [if_neg c]
    have : r.1 = n := by (clear hσ h2 g0 g h1 ha; omega)
    rw [this] at ha
    exact ⟨g, ha⟩
end
end L2
set_option linter.all false
set_option maxRecDepth 100000
set_option maxHeartbeats 1000000
namespace L2
open PySem PySem.Spec PyProof.Rows Nm PySem.W
theorem map_getD {α : Type} {d : α} : ∀ {os : List α}, (List.range os.length).map (fun i => os.getD i d) = os := by
  intro os
  apply List.ext_getElem?
  intro i
  rw [List.getElem?_map]
  by_cases h : i < os.length
  · rw [List.getElem?_range h, List.getElem?_eq_getElem h]
    simp [h]
  · rw [List.getElem?_eq_none (by simpa using h), List.getElem?_eq_none (by omega)]; rfl
theorem desc_path2 {os : List O} {n : Nat} (hn : os.length = n) (hd : os.Nodup) {r : Array Nat} (g : Gd n (fun i => rk os (os.getD i .z)) r) (ha : Asc (fun i => rk os (os.getD i .z)) r n) :
    Desc ((r.toList.map fun i => os.getD i .z).reverse) ∧ ((r.toList.map fun i => os.getD i .z).reverse).Perm os := by
  have hm : ∀ k, k < n → os.getD k .z ∈ os := fun k hk => by
    rw [List.getD_eq_getElem?_getD, List.getElem?_eq_getElem (by (clear hd g ha; omega))]
    exact List.getElem_mem _
  have hrl : r.toList.length = n := by simpa using g.sz
  constructor
  · unfold Desc
    rw [List.pairwise_reverse, List.pairwise_map, List.pairwise_iff_getElem]
    intro i j hi hj hij
    have h := ha.le hij (by (clear hn hd g ha hm hi hij; omega))
    unfold vv at h
    have e : ∀ k (hk : k < r.toList.length), r.getD k 0 = r.toList[k] := fun k hk => by
      have : k < r.size := by simpa using hk
      simp [Array.getD, this]
    rw [e i hi, e j hj] at h
    have l1 := g.lt i (by (clear hn hd g ha hm hij h e; omega))
    have l2 := g.lt j (by (clear hn hd g ha hm hij h e l1; omega))
    rw [e i hi] at l1
    rw [e j hj] at l2
    exact (rk_iff (hm _ l1) (hm _ l2)).mp h
  · refine (List.reverse_perm _).trans ?_
    have hp : r.toList.Perm (List.range n) := by simpa using Array.perm_iff_toList_perm.mp g.pm
    have := hp.map (fun i => os.getD i O.z)
    rw [← hn, map_getD] at this
    exact this
section
variable {X : Cx} {pins : List (Addr × Obj)} {σ : St} {H : Hp} {s : Shared}
theorem sort_nums64 (I : Inv X pins σ H s) {A : Around} {E : Value → Shared → Prop} {a : Addr} {vs : List Value} {os : List O} {n : Nat} {R : PySem.Fin → Shared → Prop} (ho : s.heap.get? a = some (seqObj "list" vs.toArray n)) (fa : FpOk X pins H a) (nv : NV X.K H os vs) (hnd : os.Nodup) (h64 : vs.length < 64) (hu : A.units + 25 < cLine)
    (h : ∀ (out : List Value) (ks : List O) (h' : Heap) (e : Nat), (∀ b o, b ≠ a → s.heap.get? b = some o → h'.get? b = some o) → h'.get? a = some (seqObj "list" out.toArray e) → NV X.K H ks out → Desc ks → ks.Perm os → R (.done (.ret .none)) { s with heap := h' }) :
    wpAny (model X.prog X.w) A (Builtin.«list.sort» ⟨[.ref a], [(Str.ofString "reverse", .bool true)]⟩) R E s := by
  have hlen := nv.length
  rw [list_sort_rev]
  have ha : a < s.heap.objs.size := Heap.lt_size ho
  refine wpAny_bind (listItems_at ho rfl ?_)
  refine wpAny_bind (listUpdate_at ho rfl ?_ (by rw [List.size_toArray, sizeLine_eq]; (clear I ho fa nv hnd hu h ha; omega)) (Nat.zero_le _))
  obtain ⟨e1, ho1⟩ : ∃ e1, (s.heap.update a (Obj.mapSeq fun _ => #[])).get? a = some (seqObj "list" #[] e1) := ⟨_, get?_update_seq ho (fun _ => #[])⟩
  refine wpAny_bind (seqEpoch_at ho1 rfl ?_)
  refine wpAny_bind (wpAny_newTuple ?_ (by show vs.length ≤ _; rw [sizeLine_eq]; (clear I ho fa nv hnd hu h ha ho1; omega)))
  refine wpAny_bind (wpAny_newList ?_ (Nat.zero_le _))
  refine wpAny_holding ?_
  have sb : Heap.SameBut a s.heap (s.heap.update a (Obj.mapSeq fun _ => #[])) := Heap.SameBut.update ..
  have keep6 : ∀ b o, b ≠ a → s.heap.get? b = some o → (((s.heap.update a (Obj.mapSeq fun _ => #[])).push (seqObj "tuple" vs.toArray 0)).push (seqObj "list" #[] 0)).get? b = some o := fun b o hb e => Heap.get?_push_of_some _ (Heap.get?_push_of_some _ ((sb.2 b hb).trans e))
  have ho6 : (((s.heap.update a (Obj.mapSeq fun _ => #[])).push (seqObj "tuple" vs.toArray 0)).push (seqObj "list" #[] 0)).get? a = some (seqObj "list" #[] e1) := Heap.get?_push_of_some _ (Heap.get?_push_of_some _ ho1)
  show wpAny (model X.prog X.w) A _ R E { s with heap := ((s.heap.update a (Obj.mapSeq fun _ => #[])).push (seqObj "tuple" vs.toArray 0)).push (seqObj "list" #[] 0) }
  generalize ((s.heap.update a (Obj.mapSeq fun _ => #[])).push (seqObj "tuple" vs.toArray 0)).push (seqObj "list" #[] 0) = h6 at keep6 ho6 ⊢
  obtain ⟨f0, f1, f2, f3, f4, f5⟩ := fa
  have I6 : Inv X pins σ H { s with heap := h6 } := I.turned (t' := s.toks) keep6 f0 f1 f3 f4 f5
  simp only [if_true]
  refine wpAny_bind (wpAny_rule ?_)
  -- what is left once the order is known
  have fin : ∀ (out : List Value) (ks : List O), NV X.K H ks out → Desc ks → ks.Perm os → out.length = vs.length → wpAny (model X.prog X.w) A (Builtin.List.listUpdate (.ref a) fun _ => out.toArray) (fun _ s' => ∃ h' e, s' = { s with heap := h' } ∧ (∀ b o, b ≠ a → s.heap.get? b = some o → h'.get? b = some o) ∧ h'.get? a = some (seqObj "list" out.toArray e)) E { s with heap := h6 } := fun out ks _ _ _ hl => by
    refine listUpdate_at ho6 rfl ?_ (Nat.zero_le _) (by rw [List.size_toArray, sizeLine_eq]; (clear I ho nv hnd hu h ha ho1 sb keep6 ho6 f0 f1 f2 f3 f4 f5 I6; omega))
    have sb2 : Heap.SameBut a h6 (h6.update a (Obj.mapSeq fun _ => out.toArray)) := Heap.SameBut.update ..
    exact ⟨_, _, rfl, fun b o hb e => (sb2.2 b hb).trans (keep6 b o hb e), get?_update_seq ho6 fun _ => out.toArray⟩
  by_cases h2 : vs.toArray.size < 2
  · rw [if_pos h2, if_pos h2]
    refine wpAny_bind (wpAny_pure ?_)
    rw [StateT.run_pure]
    refine wpAny_bind (wpAny_pure ?_)
    dsimp only
    refine wpAny_bind (seqEpoch_at ho6 rfl ?_)
    have eo : ((arrOf (SortSt.mk' general' (vs.toArray.zip vs.toArray).reverse #[] 7 none)).map (·.2)).reverse = vs.toArray := by
      show (((vs.toArray.zip vs.toArray).reverse).map (·.2)).reverse = vs.toArray
      apply Array.toList_inj.mp
      simp [List.map_snd_zip]
    rw [eo]
    have hd1 : Desc os := by
      have : os.length < 2 := by rw [hlen]; simpa using h2
      match os, this with
      | [], _ => exact List.Pairwise.nil
      | [x], _ => exact List.pairwise_singleton _ _
    refine wpAny_bind (wpAny_mono (fin vs os nv hd1 (List.Perm.refl _) rfl) (fun _ s' ⟨h', e, es, k1, k2⟩ => ?_) fun _ _ x => x)
    subst es
    simp only [bne_self_eq_false, Bool.false_eq_true, if_false]
    exact wpAny_pure (h vs os h' e k1 k2 nv hd1 (List.Perm.refl _))
  · rw [if_neg h2, if_neg h2]
    have hn2 : 2 ≤ vs.length := by simpa using h2
    refine wpAny_bind (nv_kind I6 nv (by (clear I ho nv hnd hu h ha ho1 sb keep6 ho6 f0 f1 f2 f3 f4 f5 I6 fin h2; omega)) fun κ hκ => ?_)
    have nv' := nv.rev
    have hl' : os.reverse.length = vs.length := by rw [List.length_reverse]; exact hlen
    have hnd' : os.reverse.Nodup := by rw [List.Nodup, List.pairwise_reverse]; exact hnd.imp fun h => h.symm
    have hm : ∀ k, k < vs.length → os.reverse.getD k .z ∈ os.reverse := fun k hk => by
      rw [List.getD_eq_getElem?_getD, List.getElem?_eq_getElem (by (clear I ho nv hnd h64 hu h ha ho1 sb keep6 ho6 f0 f1 f2 f3 f4 f5 I6 fin h2 hn2 hκ nv' hnd'; omega))]
      exact List.getElem_mem _
    have hσ : ∀ i j, i < vs.length → j < vs.length → rk os.reverse (os.reverse.getD i .z) = rk os.reverse (os.reverse.getD j .z) → i = j := fun i j hi hj e => by
      have e2 := rk_inj (hm i hi) (hm j hj) e
      rw [List.getD_eq_getElem?_getD, List.getD_eq_getElem?_getD] at e2
      refine (List.getElem?_inj (by omega) hnd').mp ?_
      rw [List.getElem?_eq_getElem (by omega), List.getElem?_eq_getElem (by omega)] at e2 ⊢
      exact congrArg some e2
    have hask : (kas_sort vs.length).kasWp (kas_cmp X.prog X.w A κ (pairsOf vs.reverse)) (fun p' s' => s' = { s with heap := h6 } ∧ Gd vs.length (fun i => rk os.reverse (os.reverse.getD i .z)) p' ∧ Asc (fun i => rk os.reverse (os.reverse.getD i .z)) p' vs.length) { s with heap := h6 } := by
      refine kPath.wp (n := vs.length) (lt := ltv fun i => rk os.reverse (os.reverse.getD i .z)) (fun i j hi hj C hC => ?_) _ (sort_path hσ hn2)
      rw [← kas_ask_eq]
      unfold kas_ask
      obtain ⟨a1, g1, g2, g3⟩ := nv'.at i (by rw [hl']; exact hi)
      obtain ⟨a2, k1, k2, k3⟩ := nv'.at j (by rw [hl']; exact hj)
      rw [g1, k1]
      have e : ltv (fun i => rk os.reverse (os.reverse.getD i .z)) i j = decide (O.cmp (os.reverse.getD i .z) (os.reverse.getD j .z) < 0) := decide_eq_decide.mpr (rk_iff (hm i hi) (hm j hj))
      rw [e] at hC
      exact key_any I6 g3 g2 k2 hu hκ hC
    have est : SortSt.mk' κ (vs.toArray.zip vs.toArray).reverse #[] 7 none = kas_st κ (pairsOf vs.reverse) (List.toArray (List.range vs.length)) := by
      have e := kas_range (pairsOf vs.reverse)
      rw [pairsOf_size, List.length_reverse] at e
      rw [pairs_rev]
      show SortSt.mk' κ (pairsOf vs.reverse) #[] 7 none = SortSt.mk' κ ((List.toArray (List.range vs.length)).map (kas_item (pairsOf vs.reverse))) #[] 7 none
      rw [e]
    have run := kas_runs (E := E) (κ := κ) (it := pairsOf vs.reverse) (Q := fun _ st' s' => s' = { s with heap := h6 } ∧ ∃ p' : Array Nat, (arrOf st').map (·.2) = (p'.toList.map fun i => vs.reverse.getD i Value.none).toArray ∧ failedOf st' = none ∧ Gd vs.length (fun i => rk os.reverse (os.reverse.getD i .z)) p' ∧ Asc (fun i => rk os.reverse (os.reverse.getD i .z)) p' vs.length) hn2 h64 (fun p' st' s' a1 a2 a3 a4 => ⟨a4.1, p', by
      apply Array.toList_inj.mp
      rw [a2, Array.map_map, Array.toList_map]
      exact List.map_congr_left fun i _ => by show (kas_item (pairsOf vs.reverse) i).2 = _; rw [kas_item_eq], a3, a4.2.1, a4.2.2⟩) hask
    rw [← est] at run
    refine wpAny_bind (wpAny_mono run ?_ fun _ _ e => e)
    rintro ⟨⟨⟩, st'⟩ s' ⟨rfl, p, har, hf, gp, ap⟩
    dsimp only
    obtain ⟨dsc, prm⟩ := desc_path2 hl' hnd' gp ap
    have hlt2 : ∀ i, i ∈ p.toList → i < os.reverse.length := fun i hi => by
      have hp : p.toList.Perm (List.range vs.length) := by simpa using Array.perm_iff_toList_perm.mp gp.pm
      rw [hl']
      exact List.mem_range.mp (hp.mem_iff.mp hi)
    have nvp := (nv'.pick (p := p.toList) hlt2).rev
    have hlp : p.toList.length = vs.length := by simpa using gp.sz
    refine wpAny_bind (seqEpoch_at ho6 rfl ?_)
    rw [har, show (p.toList.map fun i => vs.reverse.getD i Value.none).toArray.reverse = ((p.toList.map fun i => vs.reverse.getD i Value.none).reverse).toArray by simp]
    have prm2 := prm.trans (List.reverse_perm os)
    refine wpAny_bind (wpAny_mono (fin _ _ nvp dsc prm2 (by rw [List.length_reverse, List.length_map, hlp])) (fun _ s' ⟨h', e, es, k1, k2⟩ => ?_) fun _ _ x => x)
    subst es
    rw [hf]
    simp only [bne_self_eq_false, Bool.false_eq_true, if_false]
    exact wpAny_pure (h _ _ h' e k1 k2 nvp dsc prm2)
theorem call_sortO64 {k : Nat} (hr : Room k X.A) (hc : X.calm = true) (I : Inv X pins σ H s) {d : Addr} {kvs : List (O × W)} (hD : DioP X.prog X.w X.K kvs H d) (h5 : kvs.length ≤ 60) {E : Value → Shared → Prop} {Q : Value → Shared → Prop}
    (h : ∀ (h1 : Heap) (ks : List O) (out : List Value) (h' : Heap) (tk e : Nat), Inv X pins σ H { s with heap := h1, toks := tk } → (∀ b o, h1.get? b = some o → h'.get? b = some o) → h'.get? h1.objs.size = some (seqObj "list" out.toArray e) → NV X.K H ks out → Desc ks → ks.Perm (kvs.map (·.1)) → Q (.ref h1.objs.size) { s with heap := h', toks := tk }) :
    wpAny (model X.prog X.w) X.A (call (.builtin "sorted") [.ref d] [(Str.ofString "reverse", .bool true)]) Q E s := by
  have hun := hr.un
  obtain ⟨xs, eH, kv, ob, es, ep, m1, m2, m3, m4, _⟩ := hD.dict I
  have hsz : es.size = kvs.length := by rw [size_of_entries m4, kv.length]
  refine call_function_entry_kw kind_sorted plain_sorted entry_sorted (args_sorted_rev _ _) ?_
  unfold Builtin.«sorted»
  refine wpAny_bind (m := checkCount "sorted" 1 1 _) (wpAny_pure ?_)
  refine wpAny_bind (kdu_collect (A := X.A.in1) (kdl_ent (es := es) (ep := ep) hD.2.1) (I.ok.hd hc) ⟨ob, m1, m2, m3⟩ (by rw [hsz, sizeLine_eq]; exact Nat.le_trans (by assumption) (Nat.le_of_ble_eq_true rfl)) fun h1 tk acc k1 hacc => ?_)
  have hal : acc.toList = es.toList.map (·.key) := by
    apply List.ext_getElem?
    intro i
    rw [List.getElem?_map]
    by_cases hi : i < es.size
    · have hi2 : i < acc.size := by rw [hacc.1]; exact hi
      obtain ⟨e, e1, e2⟩ := hacc.2 i acc[i] (Array.getElem?_eq_getElem hi2)
      rw [Array.getElem?_toList, Array.getElem?_toList, e1, Array.getElem?_eq_getElem hi2, e2]
      rfl
    · rw [Array.getElem?_toList, Array.getElem?_toList, Array.getElem?_eq_none (by rw [hacc.1]; (clear hr hc I hD h5 h hun eH kv m1 m2 m3 m4 hsz k1 hacc; omega)), Array.getElem?_eq_none (by (clear hr hc I hD h5 h hun eH kv m1 m2 m3 m4 hsz k1 hacc; omega))]
      rfl
  have nv : NV X.K H (kvs.map (·.1)) acc.toList := by
    rw [hal, m4]
    exact KVO.ents kv hD.2.2.2.1
  have hlen : acc.toList.length < 64 := by rw [← nv.length, List.length_map]; (clear hr hc I hD h hun eH kv m1 m2 m3 m4 k1 hacc hal nv; omega)
  refine wpAny_bind (wpAny_newList ?_ (by rw [sizeLine_eq]; (clear hr hc I hD h5 h hun eH kv m1 m2 m3 m4 hsz k1 hacc hal nv; omega)))
  have I1 : Inv X pins σ H { s with heap := h1, toks := tk } := I.kept k1
  have fp : FpOk X pins H h1.objs.size := I1.fpOk (Nat.le_refl _) (I1.hok.fresh (Nat.le_refl _))
  have I2 : Inv X pins σ H { s with heap := h1.push (seqObj "list" acc.toList.toArray 0), toks := tk } := I1.kept fun b o e => Heap.get?_push_of_some _ e
  refine wpAny_bind (wpAny_holding (wpAny_call_entry_kw slot_list_sort ⟨_, Heap.get?_push_size _ rfl, rfl⟩ entry_list_sort (sort_nums64 I2 (Heap.get?_push_size _ rfl) fp nv hD.2.2.1 hlen (by show X.A.units + 1 + 1 + 25 < cLine; (clear hr hc I hD h5 h eH kv m1 m2 m3 m4 hsz k1 hacc hal nv hlen I1 fp I2; omega)) fun out ks h' e k2 g2 nvk ds pm => ⟨_, rfl, ?_⟩) (args_list_sort_rev _ _)))
  exact wpAny_pure ⟨_, rfl, h h1 ks out h' tk e I1 (fun b o e => k2 b o (Nat.ne_of_lt (Heap.lt_size e)) (Heap.get?_push_of_some _ e)) g2 nvk ds pm⟩
noncomputable def wSortO64 (P : Program) (w : World) (K : PySem.W.Frag) (te : WE) : WE := fun τ G q => te τ G fun x G1 => match x with
  | .ref a => ∃ kvs, G1 a = some (dio P w K kvs) ∧ kvs.length ≤ 60 ∧ ∀ (p : Addr) (ks : List O), G1 p = none → Desc ks → ks.Perm (kvs.map (·.1)) → q (.ref p) (updG G1 p (.lst (ks.map fun o => .tup (encP o))))
  | _ => False
theorem qe_sortO64 {n : Nat} {e : Expr} {te : WE} {j} {p pos kp cp : Pos} (hr : Room n X.A) (hc : X.calm = true) (hg : Gl X "sorted") (hm : X.mg "sorted" = none) (he : QE X e te)
    (hs1 : starEach [e] X.env = (false, eval e X.env) :: starEach [] X.env := by rfl) (hb1 : backTo pos (starEach [e] X.env) = (false, eval e X.env) :: backTo pos (starEach [] X.env) := by rfl) (hpl : (backTo pos (starEach [e] X.env)).any (·.1) = false := by rfl) :
    QE X (.Call (.Name "sorted" p) [e] [⟨some "reverse", .Constant (.bool true) j cp, kp⟩] pos) (wSortO64 X.prog X.w X.K te) := by
  intro pins s σ H Q I ⟨τ, G, q, hs, hgG, ht, hQ⟩
  refine wpAny_Call_Name_kw (ld_blt I hg hm boot_sorted ?_)
  have go := (pa_cons he pa_nil hs1) pos pins s σ H (fun vs H1 => ∃ v w G1, vs = [v] ∧ TLe H H1 ∧ Rep X.K H1 w v ∧ RelG X.K H1 G1 ∧ (match w with
      | .ref a => ∃ kvs, G1 a = some (dio X.prog X.w X.K kvs) ∧ kvs.length ≤ 60 ∧ ∀ (p : Addr) (ks : List O), G1 p = none → Desc ks → ks.Perm (kvs.map (·.1)) → q (.ref p) (updG G1 p (.lst (ks.map fun o => .tup (encP o))))
      | _ => False)) I ⟨τ, G, _, hs, hgG, ht, fun v H1 w G1 t1 r1 g1 q1 => ⟨v, w, G1, rfl, t1, r1, g1, q1⟩⟩
  refine callWith_kw (thn go fun us s1 ⟨vs, H1, I1, rv, v, w, G1, ev, t1, rw1, g1, hw⟩ => kws_cons ?_) hb1 hpl rfl rfl
  subst ev
  refine thn (pe_bl (X := X) (b := true) (j := j) (pos := cp) pins s1 σ H1 (fun v H2 => v = .bl true ∧ H2 = H1) I1 ⟨rfl, rfl⟩) fun u2 s2 ⟨v2, H2, I2, rv2, e1, e2⟩ => kws_nil ?_
  subst e1 e2
  cases (show u2 = Value.bool true from rv2)
  show wpAny _ _ (call (.builtin "sorted") us [("reverse", .bool true)]) _ _ s2
  split at hw
  · rename_i a
    obtain ⟨kvs, e, h5, h⟩ := hw
    cases rw1
    obtain ⟨u, rfl, ru⟩ := vals1 rv
    cases (show u = Value.ref a from ru)
    refine call_sortO64 hr hc I2 (g1 a _ e).1 h5 fun h1 ks out h' tk ee I3 k3 g3 nvk ds pm => ?_
    obtain ⟨vs, r1, r2⟩ := nvk.vals
    have hl : ks.length ≤ 60 := by have := pm.length_eq; rw [List.length_map] at this; omega
    have hp := I3.hok.fresh (Nat.le_refl h1.objs.size)
    have hvl : vs.length ≤ sizeLine := by rw [← r1.length, List.length_map, sizeLine_eq]; exact Nat.le_trans (by assumption) (Nat.le_of_ble_eq_true rfl)
    refine ⟨.ref h1.objs.size, _, I3.laid (t' := tk) k3 (Nat.le_refl _) (show ObjOk X.prog X.w _ h' _ (.lst vs) from ⟨hvl, out, ee, r2, g3⟩), rfl, ?_⟩
    exact hQ _ _ _ _ (t1.trans (TLe.new hp _)) (.ref _) (g1.put (TLe.new hp _) r1 (by rw [List.length_map]; exact Nat.le_trans (by assumption) (Nat.le_of_ble_eq_true rfl))) (h _ ks (g1.fresh hp) ds pm)
  · exact hw.elim
end
end L2
set_option linter.all false
set_option maxRecDepth 100000
set_option maxHeartbeats 1000000
namespace L2
open PySem PySem.Spec PyProof.Rows Nm PySem.W
section
variable {X : Cx} {pins : List (Addr × Obj)} {σ : St} {H : Hp} {s : Shared}
noncomputable def wDPutN (tv to ti : WE) : WS := fun d τ G => tv τ G fun w G1 => to τ G1 fun x G2 => ti τ G2 fun y G3 => ∃ a z kvs, x = .ref a ∧ y = .int z ∧ G3 a = some (.dic kvs) ∧ kvs.length + 1 ≤ 100000 ∧ d.nx τ (updG G3 a (.dic (putD kvs (.inl z) w)))
theorem qs_dputN {o i value : Expr} {to ti tv : WE} {pos pos' : Pos} (hv : QE X value tv) (ho : QE X o to) (hi : QE X i ti) (hs : swapsWith value (some (.Subscript o i pos')) pos.line X.env = pure false := by rfl) :
    QS X (.Assign [.Subscript o i pos'] value pos) (wDPutN tv to ti) := by
  intro pins s σ H D I h
  obtain ⟨τ, G, d, hst, hg, ht, l⟩ := h
  refine wpAny_Assign_Subscript (thn (hv pins s σ H (fun v H1 => ∃ w G1, TLe H H1 ∧ Rep X.K H1 w v ∧ RelG X.K H1 G1 ∧ to τ G1 fun x G2 => ti τ G2 fun y G3 => ∃ a z kvs, x = .ref a ∧ y = .int z ∧ G3 a = some (.dic kvs) ∧ kvs.length + 1 ≤ 100000 ∧ d.nx τ (updG G3 a (.dic (putD kvs (.inl z) w)))) I ⟨τ, G, _, hst, hg, ht, fun v H1 w G1 t1 r1 g1 q1 => ⟨w, G1, t1, r1, g1, q1⟩⟩) fun r s1 ⟨v, H1, I1, rv, w, G1, t1, r1, g1, q1⟩ => ?_) hs
  refine thn (ho pins s1 σ H1 (fun v2 H2 => ∃ w2 G2, TLe H1 H2 ∧ Rep X.K H2 w2 v2 ∧ RelG X.K H2 G2 ∧ ti τ G2 fun y G3 => ∃ a z kvs, w2 = .ref a ∧ y = .int z ∧ G3 a = some (.dic kvs) ∧ kvs.length + 1 ≤ 100000 ∧ d.nx τ (updG G3 a (.dic (putD kvs (.inl z) w)))) I1 ⟨τ, G1, _, hst.mono t1, g1, q1, fun v2 H2 w2 G2 t2 r2 g2 q2 => ⟨w2, G2, t2, r2, g2, q2⟩⟩) fun u s2 ⟨x, H2, I2, rx, w2, G2, t2, r2, g2, q2⟩ => ?_
  refine thn (hi pins s2 σ H2 (fun v3 H3 => ∃ w3 G3, TLe H2 H3 ∧ Rep X.K H3 w3 v3 ∧ RelG X.K H3 G3 ∧ ∃ a z kvs, w2 = .ref a ∧ w3 = .int z ∧ G3 a = some (.dic kvs) ∧ kvs.length + 1 ≤ 100000 ∧ d.nx τ (updG G3 a (.dic (putD kvs (.inl z) w)))) I2 ⟨τ, G2, _, (hst.mono t1).mono t2, g2, q2, fun v3 H3 w3 G3 t3 r3 g3 q3 => ⟨w3, G3, t3, r3, g3, q3⟩⟩) fun iv s3 ⟨y, H3, I3, ry, w3, G3, t3, r3, g3, a, z, kvs, e1, e2, e3, hl, q3⟩ => ?_
  subst e1 e2
  cases r2
  cases r3
  cases rx
  obtain ⟨_, us, e4, n4, r4⟩ := g3 a _ e3
  have dp := DP.of n4 r4
  obtain ⟨zl, hd, vs, rel, dd⟩ := dk_of I3.hok e4
  have hz : vs.length ≤ sizeLine := by rw [← rel.length]; exact zl
  have hlen : kvs.length + 1 ≤ sizeLine := line_le hl
  have hl2 : (putK us (.inl z) v).length ≤ sizeLine := by have := length_putK us (.inl z) v; have := dp.len; omega
  refine wpAny_setItem_pairs (hsz := hz) (kV_is (P := X.prog) (w := X.w) (k := .inl z) ry) dd fun h' dd' hs => ?_
  have he : ∃ q, h'.get? a = some q := let ⟨q, _, _, hq, _⟩ := dd'; ⟨q, hq⟩
  have I4 := d_write (t' := s3.toks + 1) I3 (by rw [e4]; exact True.intro) hs he (dk_new hl2 hd (rel.put (.inl z) rv) dd')
  have tt := (t1.trans t2).trans t3
  have t4 := TLe.dk e4 (.dK (putK us (.inl z) v))
  have dp2 := (dp.put (.inl z) (r1.mono (t2.trans t3))).mono t4
  exact ⟨σ, _, I4, l.nx σ _ τ _ (tt.trans t4) (hst.mono (tt.trans t4)) (g3.lay (g := .dic _) t4 ⟨Nat.le_trans (putD_len _ _ _) hl, _, upd_same, dp2.keys, dp2.vals⟩) q3⟩
noncomputable def wDGetN (to tk td : WE) : WE := fun τ G q => to τ G fun x G1 => match x with
  | .ref a => (∃ kvs, G1 a = some (.dic kvs)) ∧ tk τ G1 fun y G2 => td τ G2 fun d G3 => ∃ z kvs, y = .int z ∧ G3 a = some (.dic kvs) ∧ q ((valW kvs (.inl z)).getD d) G3
  | _ => False
theorem qe_dgetN {o k e : Expr} {to tk te : WE} {apos cpos : Pos} (ho : QE X o to) (hk : QE X k tk) (he : QE X e te)
    (hbase : attributeBase o "get" X.env (eval o X.env) = eval o X.env := by rfl)
    (hfew : ((backTo cpos (starEach [k, e] X.env)).all (fun x => !x.1) && (backToKw cpos (keywordEach [] X.env)).all (fun x => x.1.isSome)
      && decide (([k, e] : List Expr).length + ([] : List Keyword).length + (if ([] : List Keyword).isEmpty then 0 else 1) < 30)) = true := by rfl)
    (hline : (apos.endLine == cpos.line) = true := by rfl) (hs : starEach [k, e] X.env = (false, eval k X.env) :: starEach [e] X.env := by rfl) (hs2 : starEach [e] X.env = (false, eval e X.env) :: starEach [] X.env := by rfl) (hpl : (backTo cpos (starEach [e] X.env)).any (·.1) = false := by rfl) :
    QE X (.Call (.Attribute o "get" apos) [k, e] [] cpos) (wDGetN to tk te) :=
  (pe_bm PySem.F.plainAttrs_dict PySem.F.slot_dict_get PySem.F.type_dict_get mt_get ho (pa_cons hk (pa_cons he pa_nil hs2) hs) hbase hfew hline hs hpl).imp fun σ H Q z0 => z0.el fun τ G q hs hg ht hQ =>
    ⟨τ, G, _, hs, hg, ht, fun v H1 w G1 t1 r1 g1 q1 => by
      split at q1
      · rename_i a
        cases r1
        obtain ⟨⟨kvs, e1⟩, q1⟩ := q1
        obtain ⟨_, us, h1, _⟩ := g1 a _ e1
        refine ⟨.inr (.inr (.inl ⟨rfl, .inl ⟨us, h1⟩⟩)), τ, G1, _, hs.mono t1, g1, q1, fun v2 H2 w2 G2 t2 r2 g2 q2 => ?_⟩
        refine ⟨τ, G2, _, (hs.mono t1).mono t2, g2, q2, fun v3 H3 w3 G3 t3 r3 g3 q3 => ?_⟩
        obtain ⟨z, kvs, rfl, e2, q3⟩ := q3
        cases r2
        obtain ⟨_, us, h2, n, rr⟩ := g3 a _ e2
        refine ⟨a, us, .inl z, v3, rfl, rfl, h2, hQ _ _ _ _ ((t1.trans t2).trans t3) ?_ g3 q3⟩
        rcases (DP.of n rr).val (.inl z) with ⟨e, e'⟩ | ⟨w', v', e, e', r⟩
        · rw [e, e']; exact r3
        · rw [e, e']; exact r
      · exact q1.elim⟩
noncomputable def rIxN : W2 := fun x y G q => match x, y with
  | .ref a, .int z => ∃ kvs w, G a = some (.dic kvs) ∧ valW kvs (.inl z) = some w ∧ q w G
  | _, _ => False
theorem q_ixN : QIx X rIxN := by
  intro value slice pins s σ H x y v u Q I rx ry ⟨wx, wy, G, q, r1, r2, g, h, hQ⟩ hsl
  unfold rIxN at h
  split at h
  · rename_i a z
    obtain ⟨kvs, w, hd, hv, h⟩ := h
    cases r1
    cases r2
    cases rx
    obtain ⟨_, us, h2, n, rr⟩ := g a _ hd
    have dp := DP.of n rr
    obtain ⟨hl, hm, vs, rel, dd⟩ := dk_of I.hok h2
    rcases dp.val (.inl z) with ⟨e, _⟩ | ⟨w', v', e, e', r⟩
    · rw [e] at hv; cases hv
    · rw [e] at hv; cases hv
      obtain ⟨u', hw, ru⟩ := RelO.some_of (v := v') (o := valueAt vs (.inl z)) (by rw [← e']; exact rel.val (.inl z))
      exact tail_any dd.typeIs PySem.F.slot_dict_getitem.lookup (wpAny_getItem_of (kV_is (P := X.prog) (w := X.w) (k := .inl z) ry) dd.mapOf hw ⟨v', H, I.tok _, ru, hQ _ H _ G (TLe.refl H) r g h⟩) hsl
  · exact h.elim
noncomputable def ikey : Key → Int
  | .inl n => n
  | .inr _ => 0
theorem pairs_ints {P : Program} {w : World} : ∀ {es : List DictEntry} {vs : List (Key × Value)}, Pairs (mixKind P w) es vs → (∀ p, p ∈ vs → ∃ n, p.1 = .inl n) → IntsAre (es.map (·.key)) (vs.map fun p => ikey p.1)
  | _, _, .nil, _ => .nil
  | _, _, .cons (e := e) (kv := kv) h1 h2 t, hk => by
    obtain ⟨n, hn⟩ := hk kv List.mem_cons_self
    have h1 : keyIs kv.1 e.key = true := h1
    rcases keyIs_shape h1 with ⟨i, tk, e1, e2⟩ | ⟨x, tk, e1, e2⟩
    · rw [List.map_cons, List.map_cons, e2, e1]
      exact .cons i tk (pairs_ints t fun p hp => hk p (List.mem_cons_of_mem _ hp))
    · rw [hn] at e1; cases e1
theorem call_sortN (hc : X.calm = true) (I : Inv X pins σ H s) {d : Addr} {us : List (Key × V)} (hD : H d = some (.dK us)) (hk : ∀ p, p ∈ us → ∃ n, p.1 = .inl n) (h5 : us.length ≤ 60) {E : Value → Shared → Prop} {Q : Value → Shared → Prop}
    (h : ∀ (h1 : Heap) (ns : List Int) (out : List Value) (h' : Heap) (tk e : Nat), Inv X pins σ H { s with heap := h1, toks := tk } → (∀ b o, h1.get? b = some o → h'.get? b = some o) → h'.get? h1.objs.size = some (seqObj "list" out.toArray e) → IntsAre out ns → ns.Pairwise (· ≥ ·) → ns.Perm (us.map fun p => ikey p.1) → Q (.ref h1.objs.size) { s with heap := h', toks := tk }) :
    wpAny (model X.prog X.w) X.A (call (.builtin "sorted") [.ref d] [(Str.ofString "reverse", .bool true)]) Q E s := by
  obtain ⟨hz, hsm, vs, rel, ob, es, ep, m1, m2, m3, m4, m5, m6⟩ := dk_of I.hok hD
  have hkeys : vs.map (·.1) = us.map (·.1) := rel.keys.symm
  have hsz : es.size = us.length := by
    have h1 := m5.length
    have h2 := congrArg List.length hkeys
    simp only [List.length_map] at h2
    rw [← h2, ← h1, Array.length_toList]
  refine call_function_entry_kw kind_sorted plain_sorted entry_sorted (args_sorted_rev _ _) ?_
  unfold Builtin.«sorted»
  refine wpAny_bind (m := checkCount "sorted" 1 1 _) (wpAny_pure ?_)
  refine wpAny_bind (kdu_collect (A := X.A.in1) (kdl_ent (es := es) (ep := ep) hsm) (I.ok.hd hc) ⟨ob, m1, m2, m3⟩ (by rw [hsz, sizeLine_eq]; assumption) fun h1 tk acc k1 hacc => ?_)
  have hal : acc.toList = es.toList.map (·.key) := by
    apply List.ext_getElem?
    intro i
    rw [List.getElem?_map]
    by_cases hi : i < es.size
    · have hi2 : i < acc.size := by rw [hacc.1]; exact hi
      obtain ⟨e, e1, e2⟩ := hacc.2 i acc[i] (Array.getElem?_eq_getElem hi2)
      rw [Array.getElem?_toList, Array.getElem?_toList, e1, Array.getElem?_eq_getElem hi2, e2]
      rfl
    · rw [Array.getElem?_toList, Array.getElem?_toList, Array.getElem?_eq_none (by rw [hacc.1]; (clear hc I hD hk h5 h hz hsm rel m1 m2 m3 m4 m5 m6 hkeys hsz k1 hacc; omega)), Array.getElem?_eq_none (by (clear hc I hD hk h5 h hz hsm rel m1 m2 m3 m4 m5 m6 hkeys hsz k1 hacc; omega))]
      rfl
  have hkv : ∀ p, p ∈ vs → ∃ n, p.1 = .inl n := fun p hp => by
    have : p.1 ∈ us.map (·.1) := by rw [← hkeys]; exact List.mem_map.mpr ⟨p, hp, rfl⟩
    obtain ⟨q, hq, e⟩ := List.mem_map.mp this
    rw [← e]
    exact hk q hq
  have hints : IntsAre acc.toList (us.map fun p => ikey p.1) := by
    have := pairs_ints m5 hkv
    rw [← hal] at this
    have e : (vs.map fun p => ikey p.1) = us.map fun p => ikey p.1 := by
      have : (vs.map (·.1)).map ikey = (us.map (·.1)).map ikey := by rw [hkeys]
      rw [List.map_map, List.map_map] at this
      exact this
    rw [e] at this
    exact this
  have hlen : acc.toList.length < 64 := by rw [hal, List.length_map, Array.length_toList, hsz]; (clear hc I hD hk h hz hsm rel m1 m2 m3 m4 m5 m6 hkeys k1 hacc hal hkv hints; omega)
  refine wpAny_bind (wpAny_newList ?_ (by rw [sizeLine_eq]; (clear hc I hD hk h5 h hz hsm rel m1 m2 m3 m4 m5 m6 hkeys hsz k1 hacc hal hkv hints; omega)))
  have I1 : Inv X pins σ H { s with heap := h1, toks := tk } := I.kept k1
  refine wpAny_bind (wpAny_holding (wpAny_call_entry_kw slot_list_sort ⟨_, Heap.get?_push_size _ rfl, rfl⟩ entry_list_sort (list_sort_tree_rev (s := { s with heap := h1.push (seqObj "list" acc.toList.toArray 0), toks := tk }) (Heap.get?_push_size _ rfl) hints hlen fun out ns a1 a2 a3 => ⟨_, rfl, ?_⟩) (args_list_sort_rev _ _)))
  have a3 : ns.Pairwise (· ≥ ·) := a3
  have ho := Heap.get?_push_size (h := h1) (o := seqObj "list" acc.toList.toArray 0) rfl
  have s1 := Heap.SameBut.update (h1.push (seqObj "list" acc.toList.toArray 0)) h1.objs.size (Obj.mapSeq fun _ => (#[] : Array Value))
  obtain ⟨e1, ho1⟩ : ∃ e1, ((h1.push (seqObj "list" acc.toList.toArray 0)).update h1.objs.size (Obj.mapSeq fun _ => (#[] : Array Value))).get? h1.objs.size = some (seqObj "list" #[] e1) := ⟨_, get?_update_seq ho fun _ => #[]⟩
  have ho2 := Heap.get?_push_of_some (seqObj "list" #[] 0) (Heap.get?_push_of_some (seqObj "tuple" acc.toList.toArray 0) ho1)
  have s2 := Heap.SameBut.update ((((h1.push (seqObj "list" acc.toList.toArray 0)).update h1.objs.size (Obj.mapSeq fun _ => (#[] : Array Value))).push (seqObj "tuple" acc.toList.toArray 0)).push (seqObj "list" #[] 0)) h1.objs.size (Obj.mapSeq fun _ => out)
  obtain ⟨e3, ho3⟩ : ∃ e3, (((((h1.push (seqObj "list" acc.toList.toArray 0)).update h1.objs.size (Obj.mapSeq fun _ => (#[] : Array Value))).push (seqObj "tuple" acc.toList.toArray 0)).push (seqObj "list" #[] 0)).update h1.objs.size (Obj.mapSeq fun _ => out)).get? h1.objs.size = some (seqObj "list" out e3) := ⟨_, get?_update_seq ho2 fun _ => out⟩
  refine wpAny_pure ⟨_, rfl, h h1 ns out.toList _ tk e3 I1 (fun b o e => ?_) ?_ a1 a3 a2⟩
  · have hb : b ≠ h1.objs.size := Nat.ne_of_lt (Heap.lt_size e)
    exact (s2.2 b hb).trans (Heap.get?_push_of_some _ (Heap.get?_push_of_some _ ((s1.2 b hb).trans (Heap.get?_push_of_some _ e))))
  · rw [Array.toArray_toList]; exact ho3
theorem ints_vals {K : PySem.W.Frag} : ∀ {us : List Value} {ns : List Int}, IntsAre us ns → ∃ vs : List V, Reps K H (ns.map W.int) vs ∧ Vals vs us
  | _, _, .nil => ⟨[], .nil, .nil⟩
  | _, _, .cons n t h => by
    obtain ⟨vs, h1, h2⟩ := ints_vals h
    exact ⟨.int n :: vs, .cons (.int n) h1, .cons ⟨t, rfl⟩ h2⟩
noncomputable def wSortN (te : WE) : WE := fun τ G q => te τ G fun x G1 => match x with
  | .ref a => ∃ kvs, G1 a = some (.dic kvs) ∧ kvs.length ≤ 60 ∧ (∀ p, p ∈ kvs → ∃ n, p.1 = .inl n) ∧ ∀ (p : Addr) (ns : List Int), G1 p = none → ns.Pairwise (· ≥ ·) → ns.Perm (kvs.map fun p => ikey p.1) → q (.ref p) (updG G1 p (.lst (ns.map W.int)))
  | _ => False
theorem qe_sortN {e : Expr} {te : WE} {j} {p pos kp cp : Pos} (hc : X.calm = true) (hg : Gl X "sorted") (hm : X.mg "sorted" = none) (he : QE X e te)
    (hs1 : starEach [e] X.env = (false, eval e X.env) :: starEach [] X.env := by rfl) (hb1 : backTo pos (starEach [e] X.env) = (false, eval e X.env) :: backTo pos (starEach [] X.env) := by rfl) (hpl : (backTo pos (starEach [e] X.env)).any (·.1) = false := by rfl) :
    QE X (.Call (.Name "sorted" p) [e] [⟨some "reverse", .Constant (.bool true) j cp, kp⟩] pos) (wSortN te) := by
  intro pins s σ H Q I ⟨τ, G, q, hs, hgG, ht, hQ⟩
  refine wpAny_Call_Name_kw (ld_blt I hg hm boot_sorted ?_)
  have go := (pa_cons he pa_nil hs1) pos pins s σ H (fun vs H1 => ∃ v w G1, vs = [v] ∧ TLe H H1 ∧ Rep X.K H1 w v ∧ RelG X.K H1 G1 ∧ (match w with
      | .ref a => ∃ kvs, G1 a = some (.dic kvs) ∧ kvs.length ≤ 60 ∧ (∀ p, p ∈ kvs → ∃ n, p.1 = .inl n) ∧ ∀ (p : Addr) (ns : List Int), G1 p = none → ns.Pairwise (· ≥ ·) → ns.Perm (kvs.map fun p => ikey p.1) → q (.ref p) (updG G1 p (.lst (ns.map W.int)))
      | _ => False)) I ⟨τ, G, _, hs, hgG, ht, fun v H1 w G1 t1 r1 g1 q1 => ⟨v, w, G1, rfl, t1, r1, g1, q1⟩⟩
  refine callWith_kw (thn go fun us s1 ⟨vs, H1, I1, rv, v, w, G1, ev, t1, rw1, g1, hw⟩ => kws_cons ?_) hb1 hpl rfl rfl
  subst ev
  refine thn (pe_bl (X := X) (b := true) (j := j) (pos := cp) pins s1 σ H1 (fun v H2 => v = .bl true ∧ H2 = H1) I1 ⟨rfl, rfl⟩) fun u2 s2 ⟨v2, H2, I2, rv2, e1, e2⟩ => kws_nil ?_
  subst e1 e2
  cases (show u2 = Value.bool true from rv2)
  show wpAny _ _ (call (.builtin "sorted") us [("reverse", .bool true)]) _ _ s2
  split at hw
  · rename_i a
    obtain ⟨kvs, e, h5, hk, h⟩ := hw
    cases rw1
    obtain ⟨u, rfl, ru⟩ := vals1 rv
    cases (show u = Value.ref a from ru)
    obtain ⟨_, us, h2, n, rr⟩ := g1 a _ e
    have hul : us.length = kvs.length := by have := congrArg List.length n; simpa using this
    have hk' : ∀ p, p ∈ us → ∃ n, p.1 = .inl n := fun p hp => by
      have : p.1 ∈ kvs.map (·.1) := by rw [← n]; exact List.mem_map.mpr ⟨p, hp, rfl⟩
      obtain ⟨q, hq, e⟩ := List.mem_map.mp this
      rw [← e]
      exact hk q hq
    have ek : (us.map fun p => ikey p.1) = kvs.map fun p => ikey p.1 := by
      have : (us.map (·.1)).map ikey = (kvs.map (·.1)).map ikey := by rw [n]
      rw [List.map_map, List.map_map] at this
      exact this
    refine call_sortN hc I2 h2 hk' (by omega) fun h1 ns out h' tk ee I3 k3 g3 hints ds pm => ?_
    obtain ⟨vs, r1, r2⟩ := ints_vals (K := X.K) (H := H2) hints
    have hl : ns.length ≤ 60 := by have := pm.length_eq; rw [List.length_map] at this; omega
    have hp := I3.hok.fresh (Nat.le_refl h1.objs.size)
    have hvl : vs.length ≤ sizeLine := by rw [← r1.length, List.length_map, sizeLine_eq]; exact Nat.le_trans (by assumption) (Nat.le_of_ble_eq_true rfl)
    refine ⟨.ref h1.objs.size, _, I3.laid (t' := tk) k3 (Nat.le_refl _) (show ObjOk X.prog X.w _ h' _ (.lst vs) from ⟨hvl, out, ee, r2, g3⟩), rfl, ?_⟩
    rw [ek] at pm
    exact hQ _ _ _ _ (t1.trans (TLe.new hp _)) (.ref _) (g1.put (TLe.new hp _) r1 (by rw [List.length_map]; exact Nat.le_trans (by assumption) (Nat.le_of_ble_eq_true rfl))) (h _ ns (g1.fresh hp) ds pm)
  · exact hw.elim
end
end L2
set_option Elab.async false
set_option linter.all false
open PySem PySem.Spec PyProof.Rows L2 Nm
seal QE QT QW QA QS QSs QG QGs QI QO QTs QOp QIx QCall
seal PySem.compareOp PySem.binaryOp PySem.unaryOp
set_option bootstrap.genMatcherCode true
set_option compiler.extract_closed false
local macro_rules | `(tactic| walk_at "R") => `(tactic| simp (config := { failIfUnchanged := false, maxSteps := 2000000 }) only [wDicO, wSdf, wSortO64, rIxO, wDPutN, wDGetN, rIxN, wSortN, rEqG, wDicN, wStart, wSeq, wIf, wTest, wOp, wVar, wC, wNeg, wRet, wNext, wAsg, wPar, wNever, wNevers, wRaise, wTry, wTryA, wTryY, wIfY, wSeqY, wCallY, wDoY, wAs, wIsx, wIsn, wMaxD, wTupRev, wTupRvT, wBits, jRngG, CPowB, rIsB, wCallX, wDct, hName, wCall, wCB, wCons, wNil, wTup, wLst, wIsi, wAnd, wOr, wNot, wAndV, wOrV, wNotV, wIfE, wDrop, wSl, wPart, wNoPart, wFor, jSeq, jRng, jRng2, jRng3, jZip, jRev, jEnum, jEnumL, wExt, wComp, wApp, wTrue, hTup, hCons, hNil, vAdd, rSub3, L2.vInt, L2.vInt0, rEq4, rNe4, rEq3, rNe3, rLt3, rGe3, rIsA, rIsN, rIx3, rSl3, cLen, cTuple, cList, cSum, cInt, cMax, cMax4, cMin, List.map_cons, List.map_nil, List.length_cons, List.length_nil, List.replicate_succ, List.replicate_zero, List.cons_append, List.nil_append, List.append_nil, List.getElem?_cons_zero, List.getElem?_cons_succ, List.set_cons_zero, List.set_cons_succ, Nat.reduceAdd, Nat.reduceSub, Nat.zero_add, Nat.add_zero, Nat.sub_self, Nat.sub_zero, atI0, atI1, atI2, Option.some.injEq, exists_eq_left', int_flat, int_dep, int_eq, nil_flat, nil_dep, beqZ, decide_eq_true_eq, Bool.not_eq_true', decide_eq_false_iff_not, true_and, Nat.zero_le, cpow10, CMulC, CMulB, CDivB, CMul, CDiv, Int.reduceLE, Int.reduceLT, Nat.reducePow, Nat.reduceLT, Nat.reduceLeDiff, Int.reduceToNat, Int.reducePow, Int.reduceNeg, and_true, or_true, true_or, and_self, tyN_int, tyN_bl, tyN_tup, tyN_non, subN_ii, subN_ib, subN_it, subN_bi, subN_bb, subN_bt, subN_tt, subN_ti, subN_tb, subN_ll, subN_nt, Int.toNat_natCast, if_true, if_false, Bool.false_eq_true, Bool.true_eq_false, Bool.not_true, Bool.not_false, eq_self, not_true_eq_false, not_false_eq_true, cast_0, cast_1, cast_2, cast_3])
set_option bootstrap.genMatcherCode false
namespace Lw
open PySem PySem.Spec PyProof.Rows L2 Nm
noncomputable def top (i : Nat) : Stmt := PySem.Challenge.pw_hydrahouse_k25_woven.main.body.getD i (.Pass ⟨0, 0, 0, 0⟩)
structure Txt (K : PySem.W.Frag) (mg : Str → Option Value) : Prop where
  d_is_whole : DfD K mg "is_whole" (top 4) ["thing", "least"] [.int 0]
  d_whole : Df K mg "whole" (top 5) ["n"]
  d_raised : DfD K mg "raised" (top 6) ["exponent", "times"] [.int 1]
  d_compare : Df K mg "compare" (top 7) ["a", "b"]
  d_whole_part : Df K mg "whole_part" (top 8) ["a"]
  d_without_whole : Df K mg "without_whole" (top 9) ["a"]
  d_plus : Df K mg "plus" (top 11) ["a", "b"]
  d_parts_above : Df K mg "parts_above" (top 12) ["a", "exponent"]
  d_merged : Df K mg "merged" (top 13) ["a", "b"]
  d_times : Df K mg "times" (top 15) ["a", "b"]
  d_woven : Df K mg "woven" (top 16) ["a", "b"]
  d_by_endless : Df K mg "by_endless" (top 17) ["a"]
  d_weave_wholes : Df K mg "weave_wholes" (top 18) ["found", "some", "others"]
  d__law_cell_at : Df K mg "_law_cell_at" (top 20) ["_law_script", "_law_k"]
  d__law_mixed : Df K mg "_law_mixed" (top 21) ["_law_cell", "_law_k"]
  d__law_order : Df K mg "_law_order" (top 22) ["_law_a", "_law_b"]
  d__law_number : Df K mg "_law_number" (top 23) ["_law_found"]
  d__law_put : Df K mg "_law_put" (top 24) ["_law_parts", "_law_part"]
  d__law_many : Df K mg "_law_many" (top 25) ["_law_number_here"]
  d__law_drawn : Df K mg "_law_drawn" (top 26) ["_law_cell", "_law_level"]
  d__law_plus : Df K mg "_law_plus" (top 27) ["_law_a", "_law_b"]
  d__law_near : Df K mg "_law_near" (top 28) ["_law_a", "_law_cell"]
  d__law_parts_kept : Df K mg "_law_parts_kept" (top 29) ["_law_a", "_law_b"]
  d__law_grows : Df K mg "_law_grows" (top 30) ["_law_a", "_law_b", "_law_c"]
  z_ValueError : mg "ValueError" = none
  z_bool : mg "bool" = none
  z_int : mg "int" = none
  z_isinstance : mg "isinstance" = none
  z_len : mg "len" = none
  z_max : mg "max" = none
  z_min : mg "min" = none
  z_range : mg "range" = none
  z_sorted : mg "sorted" = none
  z_sum : mg "sum" = none
  z_tuple : mg "tuple" = none
  z_zip : mg "zip" = none
section
variable {P : Program} {w : World} {K : PySem.W.Frag} {mg : Str → Option Value} {base : Heap} {f : Addr} {fd : FuncData}
set_option maxRecDepth 100000
set_option maxHeartbeats 0
noncomputable def spCm : WSp := fun ws G q _ => ∃ a b : O, ws = [.tup (encP a), .tup (encP b)] ∧ a.dp ≤ 60 ∧ q (.int (O.cmp a b)) G
noncomputable def spPa : WSp := fun ws G q _ => ∃ a x : O, ws = [.tup (encP a), .tup (encP x)] ∧ a.NF ∧ a.dp ≤ 60 ∧ a.len ≤ 1000 ∧ q (.int (O.stay x a)) G
noncomputable def spPs : WSp := fun ws G q _ => ∃ a b : O, ws = [.tup (encP a), .tup (encP b)] ∧ a.NF ∧ a.dp ≤ 60 ∧ b.dp ≤ 60 ∧ a.len ≤ 1000 ∧ b.len ≤ 1000 ∧ q (.tup (encP (O.plusO a b))) G
noncomputable def spCa : WSp := fun ws G q _ => ∃ (ns : List Int) (k : Int), ws = [.scr ns, .int k] ∧ 0 ≤ k ∧ ∀ v : Int, q (.int v) G
noncomputable def spMx : WSp := fun ws G q _ => ∃ c k : Int, ws = [.int c, .int k] ∧ 0 ≤ k ∧ k ≤ 1000 ∧ ∀ v : Int, 0 ≤ v → v < 2147483579 → q (.int v) G
noncomputable def spOr (d : Nat) : WSp := fun ws G q _ => ∃ a b : O, ws = [.tup (encP a), .tup (encP b)] ∧ a.dp < d ∧ q (.int (O.cmp a b)) G
noncomputable def spNb (d : Nat) : WSp := fun ws G q _ => ∃ a : O, ws = [.tup (encP a)] ∧ a.NF ∧ a.dp < d ∧ O.hw a ≤ 5000 ∧ q (.bl true) G
noncomputable def spMn : WSp := fun ws G q _ => ∃ c : Int, ws = [.int c] ∧ 0 ≤ c ∧ c < 2147483579 ∧ ∀ v : Int, 1 ≤ v → v ≤ 10 ^ 15 → q (.int v) G
noncomputable def spGr : WSp := fun ws G q _ => ∃ c : Int, ws = [.int c] ∧ ∀ v : Int, 1 ≤ v → v ≤ 10 ^ 50 → q (.int v) G
structure Sml (d s : Nat) (m : Int) (o : O) : Prop where
  nf : o.NF
  dp : o.dp ≤ d
  sz : o.size ≤ s
  mx : O.mx o ≤ m
noncomputable def spPt : WSp := fun ws G q _ => ∃ (l : Addr) (a e : O) (n : Int), ws = [.ref l, prt e n] ∧ G l = some (.lst (encP a)) ∧ a.NF ∧ e.NF ∧ 1 ≤ n ∧ a.dp ≤ 20 ∧ e.dp ≤ 20 ∧ a.len ≤ 1000 ∧
  ∀ (l' : Addr) (G' : Gp) (a' : O), GLe G G' → G' l' = some (.lst (encP a')) → a'.NF → a'.len ≤ a.len + 1 → a'.dp ≤ max a.dp (e.dp + 1) → a'.size ≤ a.size + e.size + 1 → O.mx a' ≤ max (O.mx a) (max n (O.mx e)) → O.hw a' ≤ max (max (O.hw a) (O.hw e)) (a.len + 1) → q (.ref l') G'
noncomputable def spDr (L : Nat) : WSp := fun ws G q _ => ∃ (c : Int) (lv : Nat), ws = [.int c, .int (lv : Int)] ∧ lv < L ∧ lv ≤ 10 ∧ ∀ o : O, Sml (lv + 1) (4 ^ (lv + 1)) (10 ^ 15) o → O.hw o ≤ 3 → q (.tup (encP o)) G
noncomputable def spNy : WSp := fun ws G q _ => ∃ c k : Int, ws = [.int c, .int k] ∧ ∀ o : O, Sml 5 300 (10 ^ 50) o → O.hw o ≤ 4 → q (.tup (encP o)) G
structure Wd (h : Nat) (m : Int) (o : O) : Prop where
  nf : o.NF
  dp : o.dp ≤ 20
  hw : O.hw o ≤ h
  mx : O.mx o ≤ m
noncomputable def spNr : WSp := fun ws G q _ => ∃ (a : O) (c : Int), ws = [.tup (encP a), .int c] ∧ Sml 5 300 (10 ^ 50) a ∧ ∀ o : O, Wd 310 (10 ^ 52) o → q (.tup (encP o)) G
noncomputable def spOk : WSp := fun ws G q _ => ∃ a b c : O, ws = [.tup (encP a), .tup (encP b), .tup (encP c)] ∧ Wd 310 (10 ^ 52) a ∧ Wd 310 (10 ^ 52) b ∧ Wd 310 (10 ^ 52) c ∧ q (.bl true) G
noncomputable def spMg : WSp := fun ws G q _ => ∃ a b : O, ws = [.tup (encP a), .tup (encP b)] ∧ a.dp ≤ 60 ∧ a.len ≤ 1000 ∧ b.len ≤ 1000 ∧ q (.tup (encP (O.mergeO a b))) G
theorem scCm : FnScope ["a", "b"] ["a", "b"] (defScope (top 7)) := ⟨rfl, rfl, rfl, by decide +kernel, rfl, by decide +kernel, by decide +kernel⟩
theorem fnCm (F : Fun K "compare" "compare" (top 7) f fd) : WFn P w K mg base 1 f fd ["a", "b"] spCm := by
  have nd := scCm.nd
  refine fn3 F scCm (fun ws G q e h => by obtain ⟨_, _, rfl, _⟩ := h; rfl) (fun cdv A outer s H E hr => ?_)
  apply bodyOf
  · exact (qss_cons (qs_if (qt_cmp (q_eq4 hr) (qe_var 0 rfl (.inl rfl)) (qe_var 1 rfl (.inl rfl)) (nomark _)) (qss_cons (qs_ret qe_int) qss_nil) qss_nil) (qss_cons (qs_ret (qe_ifExp (qt_cmp (q_lt3 hr) (qe_var 0 rfl (.inl rfl)) (qe_var 1 rfl (.inl rfl)) (nomark _)) (qe_neg qe_int) qe_int)) qss_nil))
  · rintro ws G q e ⟨a, b, rfl, hx, hq⟩
    walk_at "R"
    have h1 := lts_encP a b
    have hd := tup_dep a
    rw [tup_eq, h1.2]
    refine ⟨tup_flat a, tup_flat b, by (clear F nd hr hq h1; omega), ?_⟩
    rcases O.cmp_range a b with k | k | k
    · rw [if_neg (by simp; intro z; rw [z, O.cmp_self] at k; (clear F nd hr hx hq h1 hd z; omega)), if_pos (by simp; (clear F nd hr hx hq h1 hd; omega))]
      exact ⟨encP_flat a, encP_flat b, encP_deps a (by exact Nat.le_trans (by assumption) (Nat.le_of_ble_eq_true rfl)), h1.1, GLe.done (by rw [k] at hq; exact hq)⟩
    · rw [if_pos (by simpa using O.cmp_eq _ _ k)]
      exact GLe.done (by rw [k] at hq; exact hq)
    · rw [if_neg (by simp; intro z; rw [z, O.cmp_self] at k; (clear F nd hr hx hq h1 hd z; omega)), if_neg (by simp; (clear F nd hr hx hq h1 hd; omega))]
      exact ⟨encP_flat a, encP_flat b, encP_deps a (by exact Nat.le_trans (by assumption) (Nat.le_of_ble_eq_true rfl)), h1.1, GLe.done (by rw [k] at hq; exact hq)⟩
theorem scPa : FnScope ["a", "exponent", "low", "high", "middle"] ["a", "exponent"] (defScope (top 12)) := ⟨rfl, rfl, rfl, by decide +kernel, rfl, by decide +kernel, by decide +kernel⟩
theorem fnPa (F : Fun K "parts_above" "parts_above" (top 12) f fd) (F1 : Fx P w K mg base "compare" ["a", "b"] 1 spCm) (ml : mg "len" = none) : WFn P w K mg base 2 f fd ["a", "exponent"] spPa := by
  have nd := scPa.nd
  refine fn3 F scPa (fun ws G q e h => by obtain ⟨_, _, rfl, _⟩ := h; rfl) (fun cdv A outer s H E hr => ?_)
  apply bodyOf
  · exact (qss_cons (qs_set 2 nd rfl (.inl rfl) qe_int) (qss_cons (qs_set 3 nd rfl (.inl rfl) (qe_callB q_len rfl ml PySem.boot_len (qa_cons (qe_var 0 rfl (.inl rfl)) qa_nil))) (qss_cons (qs_while PySem.PassesOwn.never (qt_cmp (q_lt3 hr) (qe_var 2 rfl (.inl rfl)) (qe_var 3 rfl (.inl rfl)) (nomark _)) (qss_cons (qs_set 4 nd rfl (.inl rfl) (qe_op q_divB (qe_op q_add (qe_var 2 rfl (.inl rfl)) (qe_var 3 rfl (.inl rfl))) qe_int)) (qss_cons (qs_if (qt_cmp q_gt (qe_fxn F1 (Room.mono hr (by omega)) rfl (qa_cons (qe_ix q_ix (qe_ix q_ix (qe_var 0 rfl (.inl rfl)) (qe_var 4 rfl (.inl rfl)) (fun _ _ => rfl)) qe_int (fun _ _ => rfl)) (qa_cons (qe_var 1 rfl (.inl rfl)) qa_nil))) qe_int (nomark _)) (qss_cons (qs_set 2 nd rfl (.inl rfl) (qe_op q_add (qe_var 4 rfl (.inl rfl)) qe_int)) qss_nil) (qss_cons (qs_set 3 nd rfl (.inl rfl) (qe_var 4 rfl (.inl rfl))) qss_nil)) qss_nil))) (qss_cons (qs_ret (qe_var 2 rfl (.inl rfl))) qss_nil))))
  · rintro ws G q e ⟨a, x, rfl, hn, hx, hl, hq⟩
    refine seqU fun U hU => ?_
    walk_at "R"
    subst hU
    refine seqU fun U hU => ?_
    walk_at "R"
    rw [encP_length]
    subst hU
    refine seqU fun U hU => ?_
    refine ⟨fun m τ G' => G' = G ∧ ∃ (lo hi : Nat) (t4 : Option W), τ = [some (.tup (encP a)), some (.tup (encP x)), some (.int (lo : Int)), some (.int (hi : Int)), t4] ∧ lo ≤ O.stay x a ∧ O.stay x a ≤ hi ∧ hi ≤ a.len ∧ m = hi - lo, ⟨a.len, rfl, 0, a.len, none, rfl, Nat.zero_le _, O.stay_le, Nat.le_refl _, rfl⟩, ?_⟩
    rintro m τ G' ⟨rfl, lo, hi, t4, rfl, h1, h2, h3, rfl⟩
    walk_at "R"
    split
    · rename_i hlt
      refine ⟨fun τ1 G1 => G1 = G' ∧ ∃ (lo' hi' : Nat) (t4 : Option W), τ1 = [some (.tup (encP a)), some (.tup (encP x)), some (.int (lo' : Int)), some (.int (hi' : Int)), t4] ∧ lo' ≤ O.stay x a ∧ O.stay x a ≤ hi' ∧ hi' ≤ a.len ∧ hi' - lo' < hi - lo, ?_, ?_⟩
      · rintro τ1 G1 ⟨rfl, lo', hi', t4, rfl, k1, k2, k3, k4⟩
        exact ⟨_, k4, rfl, lo', hi', t4, rfl, k1, k2, k3, rfl⟩
      · have em : ((lo : Int) + hi) / 2 = (((lo + hi) / 2 : Nat) : Int) := by (clear F F1 ml nd hr hn hx hl hU hq h1 h2 h3 hlt; omega)
        obtain ⟨y, n, hp⟩ := O.getP_some (a := a) (i := (lo + hi) / 2) (by (clear F F1 ml nd hr hn hx hl hU hq h1 h2; omega))
        rw [em]
        refine ⟨_, encP_at hp, ?_⟩
        have hs := O.getP_size hp
        have hab := O.above_iff (e := x) hn hp
        unfold prt enc
        walk_at "R"
        refine ⟨y, x, rfl, by (clear F F1 ml nd hr hn hl hU hq h1 h2 h3 hlt em hp hab; omega), ?_⟩
        walk_at "R"
        split
        · rename_i hc
          have := hab.mp hc
          exact ⟨(lo + hi) / 2 + 1, hi, _, rfl, by assumption, h2, h3, by (clear F F1 ml nd hr hn hx hU hq h1 h2 hp hs hab hc this; omega)⟩
        · rename_i hc
          have := fun z => hc (hab.mpr z)
          exact ⟨lo, (lo + hi) / 2, _, rfl, h1, by (clear F F1 ml nd hr hn hx hl hU hq h1 h2 h3 hlt em hp hs; omega), by (clear F F1 ml nd hr hn hx hl hU hq h1 h2 hp hs hab hc this; omega), by (clear F F1 ml nd hr hn hx hU hq h1 h2 hp hs hab hc this; omega)⟩
    · subst hU
      walk_at "R"
      have : (lo : Int) = O.stay x a := by (clear F F1 ml nd hr hn hx hl hq h3; omega)
      rw [this]
      exact GLe.done hq
theorem scPs : FnScope ["a", "b", "exponent", "stay", "both"] ["a", "b"] (defScope (top 11)) := ⟨rfl, rfl, rfl, by decide +kernel, rfl, by decide +kernel, by decide +kernel⟩
theorem fnPs (F : Fun K "plus" "plus" (top 11) f fd) (F1 : Fx P w K mg base "parts_above" ["a", "exponent"] 2 spPa) (ml : mg "len" = none) : WFn P w K mg base 3 f fd ["a", "b"] spPs := by
  have nd := scPs.nd
  refine fn3 F scPs (fun ws G q e h => by obtain ⟨_, _, rfl, _⟩ := h; rfl) (fun cdv A outer s H E hr => ?_)
  apply bodyOf
  · exact (qss_cons (qs_if (qt_cmp (q_eq4 hr) (qe_var 1 rfl (.inl rfl)) (qe_tup qa_nil) (nomark _)) (qss_cons (qs_ret (qe_var 0 rfl (.inl rfl))) qss_nil) qss_nil) (qss_cons (qs_set 2 nd rfl (.inl rfl) (qe_ix q_ix (qe_ix q_ix (qe_var 1 rfl (.inl rfl)) qe_int (fun _ _ => rfl)) qe_int (fun _ _ => rfl))) (qss_cons (qs_set 3 nd rfl (.inl rfl) (qe_fxn F1 (Room.mono hr (by omega)) rfl (qa_cons (qe_var 0 rfl (.inl rfl)) (qa_cons (qe_var 2 rfl (.inl rfl)) qa_nil)))) (qss_cons (qs_if (qt_w (qw_and (qt_cmp (q_lt3 hr) (qe_var 3 rfl (.inl rfl)) (qe_callB q_len rfl ml PySem.boot_len (qa_cons (qe_var 0 rfl (.inl rfl)) qa_nil)) (nomark _)) (qw_and1 (qt_cmp (q_eq4 hr) (qe_ix q_ix (qe_ix q_ix (qe_var 0 rfl (.inl rfl)) (qe_var 3 rfl (.inl rfl)) (fun _ _ => rfl)) qe_int (fun _ _ => rfl)) (qe_var 2 rfl (.inl rfl)) (nomark _))))) (qss_cons (qs_set 4 nd rfl (.inl rfl) (qe_tup (qa_cons (qe_var 2 rfl (.inl rfl)) (qa_cons (qe_op q_add (qe_ix q_ix (qe_ix q_ix (qe_var 0 rfl (.inl rfl)) (qe_var 3 rfl (.inl rfl)) (fun _ _ => rfl)) qe_int (fun _ _ => rfl)) (qe_ix q_ix (qe_ix q_ix (qe_var 1 rfl (.inl rfl)) qe_int (fun _ _ => rfl)) qe_int (fun _ _ => rfl))) qa_nil)))) (qss_cons (qs_ret (qe_op q_add (qe_op q_add (qe_slice (qe_var 0 rfl (.inl rfl)) qo_none (qo_some (qe_var 3 rfl (.inl rfl)))) (qe_tup (qa_cons (qe_var 4 rfl (.inl rfl)) qa_nil))) (qe_slice (qe_var 1 rfl (.inl rfl)) (qo_some qe_int) qo_none))) qss_nil)) qss_nil) (qss_cons (qs_ret (qe_op q_add (qe_slice (qe_var 0 rfl (.inl rfl)) qo_none (qo_some (qe_var 3 rfl (.inl rfl)))) (qe_var 1 rfl (.inl rfl)))) qss_nil)))))
  · rintro ws G q e ⟨a, b, rfl, hn, hx, hy, hl, hl2, hq⟩
    have hd := tup_dep b
    refine seqU fun U hU => ?_
    walk_at "R"
    refine ⟨tup_flat b, by (clear F F1 ml nd hr hn hx hl hl2 hq hU; omega), ?_⟩
    rw [tup_nil_eq]
    cases b with
    | z =>
      rw [if_pos (by simp)]
      exact GLe.done hq
    | c e n r =>
      rw [if_neg (by simp)]
      simp only [O.len] at hl2
      have hde : e.dp ≤ 60 := by simp only [O.dp] at hy; (clear F F1 ml nd hr hn hx hl hU hl2 hq hd; omega)
      subst hU
      refine seqU fun U hU => ?_
      rw [encP_c]
      unfold prt enc
      walk_at "R"
      subst hU
      refine seqU fun U hU => ?_
      walk_at "R"
      refine ⟨a, e, rfl, hn, hx, hl, ?_⟩
      subst hU
      have hst := O.stay_le (e := e) (a := a)
      have hsame := O.same_stay (e := e) hn
      have htake := O.take_stay (e := e) hn
      have e1 : cutW (W.tup [W.tup (encP e), W.int n] :: encP r) (some 1) none = encP r := by rw [show (1 : Int) = ((1 : Nat) : Int) from rfl, cut_from]; rfl
      have e2 : cutW (encP a) none (some (O.stay e a : Int)) = encP (O.filt (fun x _ => decide (0 < O.cmp x e)) a) := by rw [cut_to, encP_take, htake]
      have l1 := len_filt (fun x _ => decide (0 < O.cmp x e)) a
      have hq' : q (.tup (encP (O.filt (fun x _ => decide (0 < O.cmp x e)) a) ++ (prt e (O.same e a + n) :: encP r))) G := by
        rw [O.plus_c, encP_app, encP_c] at hq
        exact hq
      refine seqU fun U hU => ?_
      have other : O.same e a = 0 → U { nx := fun x G1 => ∃ G0, GLe G0 G1 ∧ q W.non G0, rt := fun w G1 => ∃ G0, GLe G0 G1 ∧ q w G0 } [some (W.tup (encP a)), some (W.tup (W.tup [W.tup (encP e), W.int n] :: encP r)), some (W.tup (encP e)), some (W.int (O.stay e a)), none] G := fun hz => by
        subst hU
        walk_at "R"
        rw [e2]
        refine ⟨by rw [encP_length, encP_length]; (clear F F1 ml nd hr hn hx hy hq hd hde hst hsame htake e1 e2 hq' hz; omega), GLe.done ?_⟩
        rw [hz, Int.zero_add] at hq'
        exact hq'
      walk_at "R"
      rw [encP_length]
      split
      · rename_i hlt
        obtain ⟨y, m, hp⟩ := O.getP_some (a := a) (i := O.stay e a) (by (clear F F1 ml nd hr hn hx hl hy hl2 hq hd hde hst hsame htake e1 e2 l1 hq' hU other; omega))
        have hs := O.getP_size hp
        have hdy := tup_dep y
        refine ⟨_, encP_at hp, ?_⟩
        rw [hp] at hsame
        have hsame' : O.same e a = if y = e then m else 0 := hsame
        unfold prt enc
        walk_at "R"
        refine ⟨tup_flat y, tup_flat e, by omega, ?_⟩
        rw [tup_eq]
        by_cases hye : y = e
        · rw [if_pos (by simpa using hye)]
          refine ⟨_, encP_at hp, ?_⟩
          unfold prt enc
          walk_at "R"
          rw [e1, e2]
          rw [if_pos hye] at hsame'
          refine ⟨by rw [encP_length]; omega, by rw [List.length_append, encP_length, encP_length]; simp; omega, GLe.done ?_⟩
          rw [hsame'] at hq'
          rw [List.append_assoc]
          exact hq'
        · rw [if_neg (by simpa using hye)]
          rw [if_neg hye] at hsame'
          exact other hsame'
      · rename_i hlt
        rw [O.getP_none.mpr (by (clear F F1 ml nd hr hn hx hl hy hl2 hq hd hde hsame htake e1 e2 l1 hq' hU other; omega))] at hsame
        exact other hsame
theorem scCa : FnScope ["_law_script", "_law_k"] ["_law_script", "_law_k"] (defScope (top 20)) := ⟨rfl, rfl, rfl, by decide +kernel, rfl, by decide +kernel, by decide +kernel⟩
theorem fnCa (F : Fun K "_law_cell_at" "_law_cell_at" (top 20) f fd) (ml : mg "len" = none) : WFn P w K mg base 1 f fd ["_law_script", "_law_k"] spCa := by
  have nd := scCa.nd
  refine fn3 F scCa (fun ws G q e h => by obtain ⟨_, _, rfl, _⟩ := h; rfl) (fun cdv A outer s H E hr => ?_)
  apply bodyOf
  · exact (qss_cons (qs_if (qt_cmp (q_lt3 hr) (qe_var 1 rfl (.inl rfl)) (qe_callB q_len rfl ml PySem.boot_len (qa_cons (qe_var 0 rfl (.inl rfl)) qa_nil)) (nomark _)) (qss_cons (qs_ret (qe_ix q_ix (qe_var 0 rfl (.inl rfl)) (qe_var 1 rfl (.inl rfl)) (fun _ _ => rfl))) qss_nil) qss_nil) (qss_cons (qs_ret qe_int) qss_nil))
  · rintro ws G q e ⟨ns, k, rfl, hk, hq⟩
    walk_at "R"
    split
    · obtain ⟨n, hn⟩ := ints_at (ns := ns) (i := k) hk (by assumption)
      exact ⟨n, hn, GLe.done (hq n)⟩
    · exact GLe.done (hq 0)
theorem scMx : FnScope ["_law_cell", "_law_k", "_law_number_here"] ["_law_cell", "_law_k"] (defScope (top 21)) := ⟨rfl, rfl, rfl, by decide +kernel, rfl, by decide +kernel, by decide +kernel⟩
theorem fnMx (F : Fun K "_law_mixed" "_law_mixed" (top 21) f fd) : WFn P w K mg base 1 f fd ["_law_cell", "_law_k"] spMx := by
  have nd := scMx.nd
  refine fn3 F scMx (fun ws G q e h => by obtain ⟨_, _, rfl, _⟩ := h; rfl) (fun cdv A outer s H E hr => ?_)
  apply bodyOf
  · exact (qss_cons (qs_set 2 nd rfl (.inl rfl) (qe_op q_mod (qe_op q_add (qe_op q_mod (qe_var 0 rfl (.inl rfl)) qe_int) (qe_op q_mulB qe_int (qe_op q_add (qe_var 1 rfl (.inl rfl)) qe_int))) qe_int)) (qss_cons (qs_set 2 nd rfl (.inl rfl) (qe_op q_mod (qe_op q_add (qe_op q_add (qe_op q_mulB (qe_var 2 rfl (.inl rfl)) (qe_var 2 rfl (.inl rfl))) (qe_op q_mulB qe_int (qe_var 1 rfl (.inl rfl)))) qe_int) qe_int)) (qss_cons (qs_ret (qe_op q_mod (qe_op q_mulB (qe_var 2 rfl (.inl rfl)) (qe_var 2 rfl (.inl rfl))) qe_int)) qss_nil)))
  · rintro ws G q e ⟨c, k, rfl, hk0, hk1, hq⟩
    refine seqU fun U hU => ?_
    walk_at "R"
    subst hU
    obtain ⟨x, hx⟩ : ∃ x, x = (c % 2147483629 + 48271 * (k + 1)) % 2147483647 := ⟨_, rfl⟩
    have hx1 : 0 ≤ x ∧ x < 2147483647 := by (clear F nd hr hk0 hk1 hq; omega)
    rw [← hx]
    refine seqU fun U hU => ?_
    walk_at "R"
    refine ⟨.inl (.inl (by (clear F nd hr hk0 hk1 hq hx1 hU; omega))), ?_⟩
    obtain ⟨y, hy⟩ : ∃ y, y = (x * x + 69621 * k + 7) % 2147483587 := ⟨_, rfl⟩
    have hy1 := mod_in (i := x * x + 69621 * k + 7) (j := 2147483587) (by (clear F nd hr hk0 hk1 hq hx hx1 hU hy; omega))
    rw [← hy] at hy1 ⊢
    subst hU
    walk_at "R"
    have hz := mod_in (i := y * y) (j := 2147483579) (by (clear F nd hr hk0 hk1 hq hx hx1 hy hy1; omega))
    exact ⟨.inl (.inl (by (clear F nd hr hk0 hk1 hq hx hx1 hy1 hz; omega))), GLe.done (hq _ hz.1 hz.2)⟩
theorem scMn : FnScope ["_law_number_here", "_law_kind"] ["_law_number_here"] (defScope (top 25)) := ⟨rfl, rfl, rfl, by decide +kernel, rfl, by decide +kernel, by decide +kernel⟩
theorem fnMn (F : Fun K "_law_many" "_law_many" (top 25) f fd) : WFn P w K mg base 1 f fd ["_law_number_here"] spMn := by
  have nd := scMn.nd
  refine fn3 F scMn (fun ws G q e h => by obtain ⟨_, rfl, _⟩ := h; rfl) (fun cdv A outer s H E hr => ?_)
  apply bodyOf
  · exact (qss_cons (qs_set 1 nd rfl (.inl rfl) (qe_op q_mod (qe_var 0 rfl (.inl rfl)) qe_int)) (qss_cons (qs_set 0 nd rfl (.inl rfl) (qe_op q_divB (qe_var 0 rfl (.inl rfl)) qe_int)) (qss_cons (qs_if (qt_cmp (q_eq4 hr) (qe_var 1 rfl (.inl rfl)) qe_int (nomark _)) (qss_cons (qs_ret (qe_op q_add qe_int (qe_op q_mod (qe_var 0 rfl (.inl rfl)) qe_int))) qss_nil) qss_nil) (qss_cons (qs_if (qt_cmp (q_eq4 hr) (qe_var 1 rfl (.inl rfl)) qe_int (nomark _)) (qss_cons (qs_ret (qe_op q_add qe_int (qe_op q_mod (qe_op q_mulB (qe_var 0 rfl (.inl rfl)) (qe_var 0 rfl (.inl rfl))) (qe_op q_pow qe_int qe_int)))) qss_nil) qss_nil) (qss_cons (qs_ret (qe_op q_add qe_int (qe_op q_mod (qe_var 0 rfl (.inl rfl)) qe_int))) qss_nil)))))
  · rintro ws G q e ⟨c, rfl, h0, h1, hq⟩
    walk_at "R"
    split
    · exact GLe.done (hq _ (by (clear F nd hr h0 h1 hq; omega)) (by (clear F nd hr h0 h1 hq; omega)))
    · split
      · have hz := mod_in (i := c / 6 * (c / 6)) (j := 1000000000000000) (by (clear F nd hr h0 h1 hq; omega))
        exact ⟨.inl (.inl (by (clear F nd hr hq hz; omega))), GLe.done (hq _ (by (clear F nd hr h0 h1 hq; omega)) (by (clear F nd hr h0 h1 hq; omega)))⟩
      · exact GLe.done (hq _ (by (clear F nd hr h0 h1 hq; omega)) (by (clear F nd hr h0 h1 hq; omega)))
theorem len_of_sml {d s : Nat} {m : Int} {o : O} (h : Sml d s m o) : o.len ≤ s := Nat.le_trans (O.len_le_size o) h.sz
theorem lt_noz {x : O} : ∀ {a : O}, O.Lt x a → O.Lt x (O.filt (fun y _ => decide (¬ y = .z)) a)
  | .z, _ => trivial
  | .c y n r, h => by
    rw [O.filt_c]
    split
    · exact ⟨h.1, lt_noz h.2⟩
    · exact lt_noz h.2
theorem nf_whole {n : Int} (hn : 1 ≤ n) : ∀ {a : O}, a.NF → O.NF (O.app (O.filt (fun y _ => decide (¬ y = .z)) a) (.c .z n .z))
  | .z, _ => ⟨trivial, hn, trivial, trivial⟩
  | .c y m r, h => by
    rw [O.filt_c]
    split
    · rename_i hy
      have hy' : y ≠ .z := by simpa using hy
      have : O.cmp .z y < 0 := O.z_lt hy'
      exact ⟨h.1, h.2.1, O.Lt.app (lt_noz h.2.2.1) ⟨this, trivial⟩, nf_whole hn h.2.2.2⟩
    · exact nf_whole hn h.2.2.2
theorem scOr : FnScope ["_law_a", "_law_b", "_law_one", "_law_other", "_law_side"] ["_law_a", "_law_b"] (defScope (top 22)) := ⟨rfl, rfl, rfl, by decide +kernel, rfl, by decide +kernel, by decide +kernel⟩
theorem fnOr {d k : Nat} (hd : d ≤ 60) (F : Fun K "_law_order" "_law_order" (top 22) f fd) (F1 : Fx P w K mg base "_law_order" ["_law_a", "_law_b"] k (spOr d)) (ml : mg "len" = none) (mz : mg "zip" = none) (mn : mg "int" = none) : WFn P w K mg base (k + 1) f fd ["_law_a", "_law_b"] (spOr (d + 1)) := by
  have nd := scOr.nd
  refine fn3 F scOr (fun ws G q e h => by obtain ⟨_, _, rfl, _⟩ := h; rfl) (fun cdv A outer s H E hr => ?_)
  apply bodyOf
  · exact (qss_cons (qs_for PySem.PassesOwn.never rfl (qi_zip rfl mz (qa_cons (qe_var 0 rfl (.inl rfl)) (qa_cons (qe_var 1 rfl (.inl rfl)) qa_nil))) (qg_tup rfl (qgs_cons (qg_name 2 nd rfl (.inl rfl)) (qgs_cons (qg_name 3 nd rfl (.inl rfl)) qgs_nil))) (qss_cons (qs_set 4 nd rfl (.inl rfl) (qe_fxn F1 (Room.mono hr (by omega)) rfl (qa_cons (qe_ix q_ix (qe_var 2 rfl (.inl rfl)) qe_int (fun _ _ => rfl)) (qa_cons (qe_ix q_ix (qe_var 3 rfl (.inl rfl)) qe_int (fun _ _ => rfl)) qa_nil)))) (qss_cons (qs_if (qt_cmp (q_ne4 hr) (qe_var 4 rfl (.inl rfl)) qe_int (nomark _)) (qss_cons (qs_ret (qe_var 4 rfl (.inl rfl))) qss_nil) qss_nil) (qss_cons (qs_if (qt_cmp (q_ne4 hr) (qe_ix q_ix (qe_var 2 rfl (.inl rfl)) qe_int (fun _ _ => rfl)) (qe_ix q_ix (qe_var 3 rfl (.inl rfl)) qe_int (fun _ _ => rfl)) (nomark _)) (qss_cons (qs_ret (qe_op q_sub qe_int (qe_op q_mulB qe_int (qe_callTy q_int rfl mn PyProof.Rows.boot_int (qa_cons (qe_cmp (q_lt3 hr) (qe_ix q_ix (qe_var 2 rfl (.inl rfl)) qe_int (fun _ _ => rfl)) (qe_ix q_ix (qe_var 3 rfl (.inl rfl)) qe_int (fun _ _ => rfl)) (nomark _)) qa_nil))))) qss_nil) qss_nil) qss_nil)))) (qss_cons (qs_ret (qe_op q_sub (qe_callTy q_int rfl mn PyProof.Rows.boot_int (qa_cons (qe_cmp q_gt (qe_callB q_len rfl ml PySem.boot_len (qa_cons (qe_var 0 rfl (.inl rfl)) qa_nil)) (qe_callB q_len rfl ml PySem.boot_len (qa_cons (qe_var 1 rfl (.inl rfl)) qa_nil)) (nomark _)) qa_nil)) (qe_callTy q_int rfl mn PyProof.Rows.boot_int (qa_cons (qe_cmp (q_lt3 hr) (qe_callB q_len rfl ml PySem.boot_len (qa_cons (qe_var 0 rfl (.inl rfl)) qa_nil)) (qe_callB q_len rfl ml PySem.boot_len (qa_cons (qe_var 1 rfl (.inl rfl)) qa_nil)) (nomark _)) qa_nil)))) qss_nil))
  · rintro ws G q e ⟨a, b, rfl, hx, hq⟩
    refine seqU fun U hU => ?_
    walk_at "R"
    refine loopW_ind (fun ws τ G' => G' = G ∧ ∃ x y t2 t3 t4, ws = zipW (encP x) (encP y) ∧ τ = [some (.tup (encP a)), some (.tup (encP b)), t2, t3, t4] ∧ O.cmp a b = O.cmp x y ∧ a.len + y.len = b.len + x.len ∧ x.dp < d + 1) ?_ ?_ _ _ _ ⟨rfl, a, b, none, none, none, rfl, rfl, rfl, by (clear hd F F1 ml mz mn nd hr hx hq hU; omega), hx⟩
    · rintro τ G' ⟨rfl, x, y, t2, t3, t4, hz, rfl, hc, hl, hx'⟩
      refine ⟨trivial, ?_⟩
      subst hU
      walk_at "R"
      refine GLe.done ?_
      have e : (if (b.len : Int) < (a.len : Int) then (1 : Int) else 0) - (if (a.len : Int) < (b.len : Int) then 1 else 0) = cmpZ a.len b.len := by
        by_cases hA : (b.len : Int) < a.len <;> by_cases hB : (a.len : Int) < b.len <;> simp [cmpZ, hA, hB] <;> (clear hd F F1 ml mz mn nd hr hx hq hz hc hx'; omega)
      rw [encP_length, encP_length, e, cmpZ_shift hl, ← cmp_len_nil (zip_nil hz.symm), ← hc]
      exact hq
    · rintro w1 ws τ G' k1 ⟨rfl, x, y, t2, t3, t4, hz, rfl, hc, hl, hx'⟩ hk
      obtain ⟨x1, n, r, x1', n', r', rfl, rfl, rfl, rfl⟩ := zip_cons hz.symm
      refine ⟨trivial, ?_⟩
      unfold prt enc
      have hx2 : x1.dp < d := by simp only [O.dp] at hx'; (clear hd F F1 ml mz mn nd hr hx hU hq hc hl hk hz; omega)
      have again : cmpP x1 n x1' n' = 0 → ∀ t2 t3 t4, k1 [some (.tup (encP a)), some (.tup (encP b)), t2, t3, t4] G' := fun z t2 t3 t4 => by
        rw [cmp_c, if_neg (by simpa using z)] at hc
        refine hk _ _ ⟨rfl, r, r', _, _, _, rfl, rfl, hc, ?_, ?_⟩
        · simp only [O.len] at hl; (clear hd F F1 ml mz mn nd hr hx hU hq hx' hc hk hz hx2 z; omega)
        · simp only [O.dp] at hx'; (clear hd F F1 ml mz mn nd hr hx hU hq hc hl hk hz hx2 z; omega)
      have leave : cmpP x1 n x1' n' ≠ 0 → q (.int (cmpP x1 n x1' n')) G' := fun z => by
        rw [hc, cmp_c, if_pos z] at hq
        exact hq
      unfold cmpP at again leave
      simp only [hTup, hCons, hNil, hName, List.length_cons, List.length_nil, List.set_cons_zero, List.set_cons_succ, Nat.zero_add, Nat.reduceAdd, true_and]
      refine seqU fun U1 hU1 => ?_
      walk_at "R"
      refine ⟨x1, x1', rfl, hx2, ?_⟩
      subst hU1
      refine seqU fun U1 hU1 => ?_
      walk_at "R"
      by_cases h : O.cmp x1 x1' = 0
      · rw [if_neg (by simpa using h)] at again leave ⊢
        subst hU1
        walk_at "R"
        by_cases h2 : n = n'
        · subst h2
          rw [if_neg (by simp)]
          exact again (cmpZ_self n) _ _ _
        · rw [if_pos h2]
          rcases Int.lt_trichotomy n n' with k2 | k2 | k2
          · rw [cmpZ_lt k2] at leave
            have := leave (by (clear hd F F1 ml mz mn nd hr hx hU hq hx' hc hl hk hz hx2 again leave h h2 k2; omega))
            rw [if_pos k2]
            exact GLe.done this
          · exact absurd k2 h2
          · rw [cmpZ_gt k2] at leave
            have := leave (by (clear hd F F1 ml mz mn nd hr hx hU hq hx' hc hl hk hz hx2 again leave h h2 k2; omega))
            rw [if_neg (by (clear hd F F1 ml mz mn nd hr hx hU hq hx' hc hl hk hz hx2 again leave h h2 this; omega))]
            exact GLe.done this
      · rw [if_pos h] at leave ⊢
        exact GLe.done (leave h)
theorem fxOr (T : Txt K mg) : ∀ d : Nat, d ≤ 60 → Fx P w K mg base "_law_order" ["_law_a", "_law_b"] d (spOr d)
  | 0, _ => T.d__law_order.fx fun f fd F => WFn.none fun ws G q e ⟨a, b, _, h, _⟩ => by (clear T F; omega)
  | d + 1, h => T.d__law_order.fx fun f fd F => fnOr (by (clear T F; omega)) F (fxOr T d (by (clear T F; omega))) T.z_len T.z_zip T.z_int
theorem scNb : FnScope ["_law_found", "_law_part", "_law_k"] ["_law_found"] (defScope (top 23)) := ⟨rfl, rfl, rfl, by decide +kernel, rfl, by decide +kernel, by decide +kernel⟩
theorem nf_at {a : O} (h : a.NF) {i : Nat} {e e' : O} {n n' : Int} (h1 : a.getP i = some (e, n)) (h2 : a.getP (i + 1) = some (e', n')) : O.cmp e e' = 1 := by
  have d1 := O.dropO_get h1
  have d2 := O.dropO_get h2
  have nd : (O.dropO i a).NF := h.drop
  rw [d1, d2] at nd
  have hc : O.cmp e' e < 0 := nd.2.2.1.1
  have hs := O.cmp_swap e' e
  rcases O.cmp_range e e' with k | k | k <;> omega
theorem fnNb {d k : Nat} (hd60 : d ≤ 60) (hk60 : 60 ≤ k) (F : Fun K "_law_number" "_law_number" (top 23) f fd) (F1 : Fx P w K mg base "_law_number" ["_law_found"] k (spNb d)) (F2 : Fx P w K mg base "_law_order" ["_law_a", "_law_b"] 60 (spOr 60)) (mi : mg "isinstance" = none) (mn : mg "int" = none) (mb : mg "bool" = none) (mt : mg "tuple" = none) (ml : mg "len" = none) (mr : mg "range" = none) : WFn P w K mg base (k + 1) f fd ["_law_found"] (spNb (d + 1)) := by
  have nd := scNb.nd
  refine fn3 F scNb (fun ws G q e h => by obtain ⟨_, rfl, _⟩ := h; rfl) (fun cdv A outer s H E hr => ?_)
  apply bodyOf
  · exact (qss_cons (qs_if (qt_not (qt_val (qe_isi (T := "tuple") (x := "tuple") (by first | simp [isiT] | assumption | decide +kernel) b_tuple mt rfl mi rfl (qe_var 0 rfl (.inl rfl))))) (qss_cons (qs_ret qe_bl) qss_nil) qss_nil) (qss_cons (qs_for PySem.PassesOwn.never rfl (qi_seq (qe_var 0 rfl (.inl rfl))) (qg_name 1 nd rfl (.inl rfl)) (qss_cons (qs_if (qt_w (qw_or (qt_not (qt_val (qe_isi (T := "tuple") (x := "tuple") (by first | simp [isiT] | assumption | decide +kernel) b_tuple mt rfl mi rfl (qe_var 1 rfl (.inl rfl))))) (qw_or (qt_cmp (q_ne4 hr) (qe_callB q_len rfl ml PySem.boot_len (qa_cons (qe_var 1 rfl (.inl rfl)) qa_nil)) qe_int (nomark _)) (qw_or1 (qt_not (qt_val (qe_fxn F1 (Room.mono hr (by omega)) rfl (qa_cons (qe_ix q_ix (qe_var 1 rfl (.inl rfl)) qe_int (fun _ _ => rfl)) qa_nil)))))))) (qss_cons (qs_ret qe_bl) qss_nil) qss_nil) (qss_cons (qs_if (qt_w (qw_or (qt_not (qt_val (qe_isi (T := "int") (x := "int") (by first | simp [isiT] | assumption | decide +kernel) PyProof.Rows.boot_int mn rfl mi rfl (qe_ix q_ix (qe_var 1 rfl (.inl rfl)) qe_int (fun _ _ => rfl))))) (qw_or (qt_val (qe_isi (T := "bool") (x := "bool") (by first | simp [isiT] | assumption | decide +kernel) PyProof.Rows.boot_bool mb rfl mi rfl (qe_ix q_ix (qe_var 1 rfl (.inl rfl)) qe_int (fun _ _ => rfl)))) (qw_or1 (qt_cmp (q_lt3 hr) (qe_ix q_ix (qe_var 1 rfl (.inl rfl)) qe_int (fun _ _ => rfl)) qe_int (nomark _)))))) (qss_cons (qs_ret qe_bl) qss_nil) qss_nil) qss_nil))) (qss_cons (qs_for PySem.PassesOwn.never rfl (qi_range2 rfl mr (qa_cons qe_int (qa_cons (qe_callB q_len rfl ml PySem.boot_len (qa_cons (qe_var 0 rfl (.inl rfl)) qa_nil)) qa_nil))) (qg_name 2 nd rfl (.inl rfl)) (qss_cons (qs_if (qt_cmp (q_ne4 hr) (qe_fxn F2 (Room.mono hr hk60) rfl (qa_cons (qe_ix q_ix (qe_ix q_ix (qe_var 0 rfl (.inl rfl)) (qe_op q_sub (qe_var 2 rfl (.inl rfl)) qe_int) (fun _ _ => rfl)) qe_int (fun _ _ => rfl)) (qa_cons (qe_ix q_ix (qe_ix q_ix (qe_var 0 rfl (.inl rfl)) (qe_var 2 rfl (.inl rfl)) (fun _ _ => rfl)) qe_int (fun _ _ => rfl)) qa_nil))) qe_int (nomark _)) (qss_cons (qs_ret qe_bl) qss_nil) qss_nil) qss_nil)) (qss_cons (qs_ret qe_bl) qss_nil))))
  · rintro ws G q e ⟨a, rfl, hn, hx, hs, hq⟩
    have hl := O.len_le_hw a
    refine seqU fun U hU => ?_
    walk_at "R"
    subst hU
    refine seqU fun U hU => ?_
    walk_at "R"
    refine loopW_ind (fun ws τ G' => G' = G ∧ ∃ (r : O) (t1 : Option W), ws = encP r ∧ τ = [some (.tup (encP a)), t1, none] ∧ r.NF ∧ r.dp < d + 1 ∧ O.hw r ≤ 5000) ?_ ?_ _ _ _ ⟨rfl, a, none, rfl, rfl, hn, hx, hs⟩
    · rintro τ G' ⟨rfl, r, t1, hw, rfl, _, _, _⟩
      refine ⟨trivial, ?_⟩
      subst hU
      dsimp only
      refine seqU fun U hU => ?_
      walk_at "R"
      rw [encP_length]
      refine ⟨by (clear hd60 hk60 F F1 F2 mi mn mb mt ml mr nd hr hn hx hq hw hU; omega), ?_⟩
      have hsz : ((a.len : Int) - 1).toNat = a.len - 1 := by (clear hd60 hk60 F F1 F2 mi mn mb mt ml mr nd hr hn hx hs hl hq hw hU; omega)
      rw [hsz]
      refine loop_upL 1 (a.len - 1) (fun i τ G1 => G1 = G' ∧ ∃ t1 t2, τ = [some (.tup (encP a)), t1, t2]) ⟨rfl, _, _, rfl⟩ ?_ ?_
      · rintro τ G1 ⟨rfl, t1, t2, rfl⟩
        refine ⟨trivial, ?_⟩
        subst hU
        walk_at "R"
        exact GLe.done hq
      · rintro i τ G1 kk hi ⟨rfl, t1, t2, rfl⟩ hk
        refine ⟨trivial, ?_⟩
        obtain ⟨y, n, hp1⟩ := O.getP_some (a := a) (i := i) (by (clear hd60 hk60 F F1 F2 mi mn mb mt ml mr nd hr hn hx hs hl hw hU hsz hq hk; omega))
        obtain ⟨y', n', hp2⟩ := O.getP_some (a := a) (i := i + 1) (by (clear hd60 hk60 F F1 F2 mi mn mb mt ml mr nd hr hn hx hs hl hw hU hsz hq hk hp1; omega))
        have hA := encP_at hp1
        have hB := encP_at hp2
        have hs1 := O.getP_size hp1
        have e1 : (1 : Int) + (i : Int) - 1 = (i : Int) := by omega
        have e2 : (1 : Int) + (i : Int) = ((i + 1 : Nat) : Int) := by omega
        unfold prt enc at hA hB
        walk_at "R"
        rw [e1, e2]
        refine ⟨_, hA, ?_⟩
        walk_at "R"
        refine ⟨_, hB, ?_⟩
        walk_at "R"
        refine ⟨y, y', rfl, by (clear hk60 F F1 F2 mi mn mb mt ml mr nd hr hn hs hl hw hU hsz hi hq hk hp1 hp2 hA hB e1 e2; omega), ?_⟩
        rw [nf_at hn hp1 hp2]
        walk_at "R"
        exact hk _ _ ⟨rfl, _, _, rfl⟩
    · rintro w1 ws τ G' kk ⟨rfl, r, t1, hw, rfl, nr, dr, sr⟩ hk
      cases r with
      | z => cases hw
      | c y m r =>
        rw [encP_c] at hw
        cases hw
        refine ⟨trivial, ?_⟩
        simp only [O.dp] at dr
        rw [O.hw_c] at sr
        have hm := nr.2.1
        refine seqU fun U1 hU1 => ?_
        unfold prt enc
        walk_at "R"
        refine ⟨y, rfl, nr.1, by (clear hd60 hk60 F F1 F2 mi mn mb mt ml mr nd hr hn hx hs hl hU hq nr sr hk hm hU1; omega), by (clear hd60 hk60 F F1 F2 mi mn mb mt ml mr nd hr hn hx hs hl hU hq nr dr hk hm hU1; omega), ?_⟩
        walk_at "R"
        subst hU1
        walk_at "R"
        rw [if_neg (by (clear hd60 hk60 F F1 F2 mi mn mb mt ml mr nd hr hn hx hs hl hU hq nr dr sr hk; omega))]
        exact hk _ _ ⟨rfl, r, _, rfl, rfl, nr.2.2.2, by (clear hd60 hk60 F F1 F2 mi mn mb mt ml mr nd hr hn hx hs hl hU hq nr sr hk hm; omega), by (clear hd60 hk60 F F1 F2 mi mn mb mt ml mr nd hr hn hx hs hl hU hq nr dr hk hm; omega)⟩
theorem fxNb (T : Txt K mg) : ∀ d : Nat, d ≤ 60 → Fx P w K mg base "_law_number" ["_law_found"] (d + 60) (spNb d)
  | 0, _ => T.d__law_number.fx fun f fd F => WFn.none fun ws G q e ⟨a, _, _, h, _⟩ => by (clear T F; omega)
  | d + 1, h => T.d__law_number.fx fun f fd F => by
    have := fnNb (by (clear T F; omega)) (by (clear T F; omega)) F (fxNb T d (by (clear T F; omega))) (fxOr T 60 (by decide)) T.z_isinstance T.z_int T.z_bool T.z_tuple T.z_len T.z_range
    exact (show d + 60 + 1 = d + 1 + 60 by (clear T h F this; omega)) ▸ this
theorem scPt : FnScope ["_law_parts", "_law_part", "_law_at"] ["_law_parts", "_law_part"] (defScope (top 24)) := ⟨rfl, rfl, rfl, by decide +kernel, rfl, by decide +kernel, by decide +kernel⟩
theorem mx_take : ∀ (i : Nat) (a : O), O.mx (O.takeO i a) ≤ O.mx a
  | 0, a => O.mx_nonneg a
  | _ + 1, .z => Int.le_refl _
  | i + 1, .c e n r => by have := mx_take i r; rw [O.takeO, O.mx_c, O.mx_c]; omega
theorem mx_drop : ∀ (i : Nat) (a : O), O.mx (O.dropO i a) ≤ O.mx a
  | 0, a => Int.le_refl _
  | _ + 1, .z => Int.le_refl _
  | i + 1, .c e n r => by have := mx_drop i r; rw [O.dropO, O.mx_c]; omega
theorem size_td : ∀ (i : Nat) (a : O), (O.takeO i a).size + (O.dropO i a).size = a.size
  | 0, a => by simp [O.takeO, O.dropO, O.size]
  | _ + 1, .z => rfl
  | i + 1, .c e n r => by have := size_td i r; simp only [O.takeO, O.dropO, O.size]; omega
theorem len_td : ∀ (i : Nat) (a : O), (O.takeO i a).len + (O.dropO i a).len = a.len
  | 0, a => by simp [O.takeO, O.dropO, O.len]
  | _ + 1, .z => rfl
  | i + 1, .c e n r => by have := len_td i r; simp only [O.takeO, O.dropO, O.len]; omega
theorem dp_td : ∀ (i : Nat) (a : O), (O.takeO i a).dp ≤ a.dp ∧ (O.dropO i a).dp ≤ a.dp
  | 0, a => by simp [O.takeO, O.dropO, O.dp]
  | _ + 1, .z => ⟨Nat.le_refl _, Nat.le_refl _⟩
  | i + 1, .c e n r => by have := dp_td i r; simp only [O.takeO, O.dropO, O.dp]; omega
theorem len_app : ∀ a b : O, (O.app a b).len = a.len + b.len
  | .z, b => by simp [O.app, O.len]
  | .c e n r, b => by have := len_app r b; simp only [O.app, O.len]; omega
theorem nf_put {e : O} {n : Int} (he : e.NF) (hn : 1 ≤ n) : ∀ {i : Nat} {a : O}, a.NF → (∀ j x m, j < i → a.getP j = some (x, m) → O.cmp x e = 1) → (∀ x m, a.getP i = some (x, m) → O.cmp x e < 0) → O.NF (O.app (O.takeO i a) (.c e n (O.dropO i a)))
  | 0, a, ha, _, h2 => by
    show O.NF (.c e n a)
    refine ⟨he, hn, ?_, ha⟩
    cases a with
    | z => exact trivial
    | c x m r =>
      have hx := h2 x m rfl
      exact ⟨hx, ha.2.2.1.mono hx⟩
  | i + 1, .z, ha, _, _ => ⟨he, hn, trivial, trivial⟩
  | i + 1, .c x m r, ha, h1, h2 => by
    have ih := nf_put he hn (i := i) (a := r) ha.2.2.2 (fun j y k hj hy => h1 (j + 1) y k (by (clear he hn ha h1 h2 hy; omega)) hy) (fun y k hy => h2 y k hy)
    have hx := h1 0 x m (by (clear he hn ha h1 h2 ih; omega)) rfl
    have hs := O.cmp_swap x e
    refine ⟨ha.1, ha.2.1, ?_, ih⟩
    have lt : ∀ (i : Nat) (r : O), O.Lt x r → O.Lt x (O.takeO i r) ∧ O.Lt x (O.dropO i r) := by
      intro i
      induction i with
      | zero => exact fun r h => ⟨trivial, h⟩
      | succ i ih =>
        intro r h
        cases r with
        | z => exact ⟨trivial, trivial⟩
        | c y k t => exact ⟨⟨h.1, (ih t h.2).1⟩, (ih t h.2).2⟩
    have := lt i r ha.2.2.1
    exact O.Lt.app this.1 ⟨by (clear he hn ha h1 h2 ih lt this; omega), this.2⟩
theorem fnPt (F : Fun K "_law_put" "_law_put" (top 24) f fd) (F2 : Fx P w K mg base "_law_order" ["_law_a", "_law_b"] 60 (spOr 60)) (ml : mg "len" = none) : WFn P w K mg base 61 f fd ["_law_parts", "_law_part"] spPt := by
  have nd := scPt.nd
  refine fn3 F scPt (fun ws G q e h => by obtain ⟨_, _, _, _, rfl, _⟩ := h; rfl) (fun cdv A outer s H E hr => ?_)
  apply bodyOf
  · exact (qss_cons (qs_set 2 nd rfl (.inl rfl) qe_int) (qss_cons (qs_while PySem.PassesOwn.never (qt_w (qw_and (qt_cmp (q_lt3 hr) (qe_var 2 rfl (.inl rfl)) (qe_callB q_len rfl ml PySem.boot_len (qa_cons (qe_var 0 rfl (.inl rfl)) qa_nil)) (nomark _)) (qw_and1 (qt_cmp (q_eq4 hr) (qe_fxn F2 (Room.mono hr (by omega)) rfl (qa_cons (qe_ix q_ix (qe_ix q_ix (qe_var 0 rfl (.inl rfl)) (qe_var 2 rfl (.inl rfl)) (fun _ _ => rfl)) qe_int (fun _ _ => rfl)) (qa_cons (qe_ix q_ix (qe_var 1 rfl (.inl rfl)) qe_int (fun _ _ => rfl)) qa_nil))) qe_int (nomark _))))) (qss_cons (qs_set 2 nd rfl (.inl rfl) (qe_op q_add (qe_var 2 rfl (.inl rfl)) qe_int)) qss_nil)) (qss_cons (qs_if (qt_w (qw_and (qt_cmp (q_lt3 hr) (qe_var 2 rfl (.inl rfl)) (qe_callB q_len rfl ml PySem.boot_len (qa_cons (qe_var 0 rfl (.inl rfl)) qa_nil)) (nomark _)) (qw_and1 (qt_cmp (q_eq4 hr) (qe_ix q_ix (qe_ix q_ix (qe_var 0 rfl (.inl rfl)) (qe_var 2 rfl (.inl rfl)) (fun _ _ => rfl)) qe_int (fun _ _ => rfl)) (qe_ix q_ix (qe_var 1 rfl (.inl rfl)) qe_int (fun _ _ => rfl)) (nomark _))))) (qss_cons (qs_ret (qe_var 0 rfl (.inl rfl))) qss_nil) qss_nil) (qss_cons (qs_ret (qe_op q_add (qe_op q_add (qe_slice (qe_var 0 rfl (.inl rfl)) qo_none (qo_some (qe_var 2 rfl (.inl rfl)))) (qe_lst (qa_cons (qe_var 1 rfl (.inl rfl)) qa_nil))) (qe_slice (qe_var 0 rfl (.inl rfl)) (qo_some (qe_var 2 rfl (.inl rfl))) qo_none))) qss_nil))))
  · rintro ws G q e ⟨l, a, x, n, rfl, hG, ha, hx, hn, hda, hdx, hl, hq⟩
    unfold prt enc
    refine seqU fun U hU => ?_
    walk_at "R"
    subst hU
    refine seqU fun U hU => ?_
    refine whileW (fun m τ G' => G' = G ∧ ∃ i : Nat, τ = [some (.ref l), some (.tup [.tup (encP x), .int n]), some (.int (i : Int))] ∧ i ≤ a.len ∧ (∀ j y m, j < i → a.getP j = some (y, m) → O.cmp y x = 1) ∧ m = a.len - i) ⟨_, rfl, 0, rfl, Nat.zero_le _, fun j y m h => by (clear F F2 ml nd hr hG ha hx hn hda hdx hl hq hU; omega), rfl⟩ ?_
    rintro m τ G' ⟨rfl, i, rfl, hi, habove, rfl⟩ B hB
    walk_at "R"
    simp only [hG, Option.some.injEq, GO.lst.injEq, exists_eq_left']
    rw [encP_length]
    have stop : (∀ y m, a.getP i = some (y, m) → O.cmp y x ≠ 1) → U { nx := fun x G1 => ∃ G0, GLe G0 G1 ∧ q W.non G0, rt := fun w G1 => ∃ G0, GLe G0 G1 ∧ q w G0 } [some (.ref l), some (.tup [.tup (encP x), .int n]), some (.int (i : Int))] G' := fun hst => by
      subst hU
      have put : (∀ y m, a.getP i = some (y, m) → y ≠ x) → O.NF (O.app (O.takeO i a) (.c x n (O.dropO i a))) := fun hne => nf_put hx hn ha habove fun y m hy => by
        have h1 := hst y m hy
        have h2 : O.cmp y x ≠ 0 := fun z => hne y m hy (O.cmp_eq _ _ z)
        rcases O.cmp_range y x with k | k | k <;> (clear F F2 ml nd hr ha hx hn hda hdx hl hG hq hi habove hB hst hne hy; omega)
      refine seqU fun U hU => ?_
      have fin : (∀ y m, a.getP i = some (y, m) → y ≠ x) → U { nx := fun x G1 => ∃ G0, GLe G0 G1 ∧ q W.non G0, rt := fun w G1 => ∃ G0, GLe G0 G1 ∧ q w G0 } [some (.ref l), some (.tup [.tup (encP x), .int n]), some (.int (i : Int))] G' := fun hne => by
        subst hU
        walk_at "R"
        have hlist : (cutW (encP a) none (some (i : Int)) ++ [W.tup [W.tup (encP x), W.int n]]) ++ cutW (encP a) (some (i : Int)) none = encP (O.app (O.takeO i a) (.c x n (O.dropO i a))) := by
          rw [cut_to, cut_from, encP_take, encP_drop, encP_app, encP_c, List.append_assoc]; rfl
        have lt := len_td i a
        have st := size_td i a
        have dt := dp_td i a
        have m1 := mx_take i a
        have m2 := mx_drop i a
        have l1 : (cutW (encP a) none (some (i : Int))).length ≤ 1000 := by rw [cut_to, encP_take, encP_length]; (clear F F2 ml nd hr ha hx hn hda hdx hG hq hi habove hB hst put hne hlist st dt m1 m2; omega)
        have l2 : (cutW (encP a) (some (i : Int)) none).length ≤ 1000 := by rw [cut_from, encP_drop, encP_length]; (clear F F2 ml nd hr ha hx hn hda hdx hG hq hi habove hB hst put hne hlist st dt m1 m2 l1; omega)
        refine ⟨_, hG, fun p1 h1 p2 h2 => ⟨_, _, updG_ne' updG_same h2, updG_same, by simp; exact Nat.le_trans (by assumption) (Nat.le_of_ble_eq_true rfl), fun p3 h3 => ⟨_, updG_ne' (updG_ne' (updG_ne' hG h1) h2) h3, fun p4 h4 => ⟨_, _, updG_ne' updG_same h4, updG_same, by simp; omega, fun p5 h5 => ⟨_, GLe.refl _, ?_⟩⟩⟩⟩⟩
        rw [hlist]
        refine hq p5 _ _ ((((GLe.new h1).trans (GLe.new h2)).trans (GLe.new h3)).trans ((GLe.new h4).trans (GLe.new h5))) updG_same (put hne) ?_ ?_ ?_ ?_ ?_
        · rw [len_app]; simp only [O.len]; omega
        · rw [O.dp_app]; simp only [O.dp]; omega
        · rw [O.size_app]; simp only [O.size]; omega
        · rw [O.mx_app, O.mx_c]; omega
        · have h1 := O.hw_app (O.takeO i a) (.c x n (O.dropO i a))
          have h2 := O.hw_drop i a
          have h3 := O.hw_take i a
          rw [O.hw_c] at h1
          simp only [O.len] at h1
          omega
      walk_at "R"
      simp only [hG, Option.some.injEq, GO.lst.injEq, exists_eq_left']
      rw [encP_length]
      split
      · obtain ⟨y, m, hp⟩ := O.getP_some (a := a) (i := i) (by (clear F F2 ml nd hr ha hx hn hda hdx hl hG hq hi habove hB hst put hU fin; omega))
        have hs := O.getP_size hp
        have hdy := tup_dep y
        refine ix_eq ⟨_, encP_at hp, ?_⟩
        unfold prt enc
        walk_at "R"
        refine ⟨tup_flat y, tup_flat x, by (clear F F2 ml nd hr ha hx hn hdx hl hG hq hi habove hB hst put hU fin hp; omega), ?_⟩
        rw [tup_eq]
        by_cases hyx : y = x
        · rw [if_pos (by simpa using hyx)]
          exact ⟨G', GLe.refl _, hq l G' a (GLe.refl _) hG ha (by (clear F F2 ml nd hr ha hx hn hda hdx hl hG hq hi habove hB hst put hU fin hp hs hdy hyx; omega)) (by (clear F F2 ml nd hr ha hx hn hda hdx hl hG hq hi habove hB hst put hU fin hp hs hdy hyx; omega)) (by (clear F F2 ml nd hr ha hx hn hda hdx hl hG hq hi habove hB hst put hU fin hp hs hdy hyx; omega)) (by (clear F F2 ml nd hr ha hx hn hda hdx hl hG hq hi habove hB hst put hU fin hp hs hdy hyx; omega)) (by (clear F F2 ml nd hr ha hx hn hda hdx hl hG hq hi habove hB hst put hU fin hp hs hdy hyx; omega))⟩
        · rw [if_neg (by simpa using hyx)]
          refine fin fun y' m' hy' => ?_
          rw [hp] at hy'
          cases hy'
          exact hyx
      · refine fin fun y' m' hy' => ?_
        rw [O.getP_none.mpr (by (clear F F2 ml nd hr ha hx hn hda hdx hl hG hq habove hB hst put hU fin hy'; omega))] at hy'
        cases hy'
    split
    · obtain ⟨y, m, hp⟩ := O.getP_some (a := a) (i := i) (by (clear F F2 ml nd hr ha hx hn hda hdx hl hU hG hq hi habove hB stop; omega))
      have hs := O.getP_size hp
      refine ix_eq ⟨_, encP_at hp, ?_⟩
      unfold prt enc
      walk_at "R"
      refine ⟨y, x, rfl, by (clear F F2 ml nd hr ha hx hn hdx hl hU hG hq hi habove hB stop hp; omega), ?_⟩
      walk_at "R"
      by_cases h1 : O.cmp y x = 1
      · rw [if_pos h1]
        refine ⟨fun τ1 G1 => G1 = G' ∧ τ1 = [some (.ref l), some (.tup [.tup (encP x), .int n]), some (.int ((i + 1 : Nat) : Int))], ?_, ?_⟩
        · rintro τ1 G1 ⟨rfl, rfl⟩
          refine ⟨a.len - (i + 1), by (clear F F2 ml nd hr ha hx hn hda hdx hl hU hi habove hB hp hs h1 hG hq stop; omega), rfl, i + 1, rfl, by (clear F F2 ml nd hr ha hx hn hda hdx hl hU hi habove hB hp hs h1 hG hq stop; omega), fun j y' m' hj hy' => ?_, rfl⟩
          by_cases hji : j < i
          · exact habove j y' m' hji hy'
          · have : j = i := by (clear F F2 ml nd hr ha hx hn hda hdx hl hU hi habove hB hp hs h1 hG hq stop hy'; omega)
            subst this
            rw [hp] at hy'
            cases hy'
            exact h1
        · subst hB
          walk_at "R"
          rfl
      · rw [if_neg h1]
        refine stop fun y' m' hy' => ?_
        rw [hp] at hy'
        cases hy'
        exact h1
    · refine stop fun y' m' hy' => ?_
      rw [O.getP_none.mpr (by (clear F F2 ml nd hr ha hx hn hda hdx hl hU hG hq habove hB stop hy'; omega))] at hy'
      cases hy'
theorem scDr : FnScope ["_law_cell", "_law_level", "_law_parts", "_law_k", "_law_number_here", "_law_exponent"] ["_law_cell", "_law_level"] (defScope (top 26)) := ⟨rfl, rfl, rfl, by decide +kernel, rfl, by decide +kernel, by decide +kernel⟩
theorem fnDr {L k : Nat} (hk60 : 61 ≤ k) (F : Fun K "_law_drawn" "_law_drawn" (top 26) f fd) (F1 : Fx P w K mg base "_law_drawn" ["_law_cell", "_law_level"] k (spDr L)) (F2 : Fx P w K mg base "_law_mixed" ["_law_cell", "_law_k"] 1 spMx) (F3 : Fx P w K mg base "_law_put" ["_law_parts", "_law_part"] 61 spPt) (F4 : Fx P w K mg base "_law_many" ["_law_number_here"] 1 spMn) (mr : mg "range" = none) (mt : mg "tuple" = none) : WFn P w K mg base (k + 1) f fd ["_law_cell", "_law_level"] (spDr (L + 1)) := by
  have nd := scDr.nd
  refine fn3 F scDr (fun ws G q e h => by obtain ⟨_, _, rfl, _⟩ := h; rfl) (fun cdv A outer s H E hr => ?_)
  apply bodyOf
  · exact (qss_cons (qs_set 2 nd rfl (.inl rfl) (qe_lst qa_nil)) (qss_cons (qs_for PySem.PassesOwn.never rfl (qi_range rfl mr (qa_cons (qe_ix q_ix (qe_lst (qa_cons qe_int (qa_cons qe_int (qa_cons qe_int (qa_cons qe_int (qa_cons qe_int (qa_cons qe_int qa_nil))))))) (qe_op q_mod (qe_op q_divB (qe_fxn F2 (Room.mono hr (by omega)) rfl (qa_cons (qe_var 0 rfl (.inl rfl)) (qa_cons qe_int qa_nil))) qe_int) qe_int) (fun _ _ => rfl)) qa_nil)) (qg_name 3 nd rfl (.inl rfl)) (qss_cons (qs_set 4 nd rfl (.inl rfl) (qe_fxn F2 (Room.mono hr (by omega)) rfl (qa_cons (qe_var 0 rfl (.inl rfl)) (qa_cons (qe_op q_add (qe_var 3 rfl (.inl rfl)) qe_int) qa_nil)))) (qss_cons (qs_set 5 nd rfl (.inl rfl) (qe_tup qa_nil)) (qss_cons (qs_if (qt_cmp q_gt (qe_var 1 rfl (.inl rfl)) qe_int (nomark _)) (qss_cons (qs_set 5 nd rfl (.inl rfl) (qe_fxn F1 (Room.mono hr (by omega)) rfl (qa_cons (qe_op q_divB (qe_var 4 rfl (.inl rfl)) qe_int) (qa_cons (qe_op q_sub (qe_var 1 rfl (.inl rfl)) qe_int) qa_nil)))) qss_nil) qss_nil) (qss_cons (qs_set 2 nd rfl (.inl rfl) (qe_fxn F3 (Room.mono hr hk60) rfl (qa_cons (qe_var 2 rfl (.inl rfl)) (qa_cons (qe_tup (qa_cons (qe_var 5 rfl (.inl rfl)) (qa_cons (qe_fxn F4 (Room.mono hr (by omega)) rfl (qa_cons (qe_op q_divB (qe_var 4 rfl (.inl rfl)) qe_int) qa_nil)) qa_nil))) qa_nil)))) qss_nil))))) (qss_cons (qs_ret (qe_callTy q_tuple rfl mt b_tuple (qa_cons (qe_var 2 rfl (.inl rfl)) qa_nil))) qss_nil)))
  · rintro ws G q e ⟨c, lv, rfl, hlv, hlv2, hq⟩
    refine seqU fun U hU => ?_
    walk_at "R"
    intro p hp
    subst hU
    refine seqU fun U hU => ?_
    walk_at "R"
    intro p1 hp1
    refine ⟨c, 0, rfl, by (clear hk60 F F1 F2 F3 F4 mr mt nd hr hlv hlv2 hq hp hU hp1; omega), by (clear hk60 F F1 F2 F3 F4 mr mt nd hr hlv hlv2 hq hp hU hp1; omega), fun v h0 h1 => ?_⟩
    walk_at "R"
    have hG1 : updG (updG G p (GO.lst [])) p1 (GO.lst [W.int 0, W.int 1, W.int 1, W.int 2, W.int 2, W.int 3]) p = some (.lst (encP .z)) := updG_ne' updG_same hp1
    have le1 : GLe G (updG (updG G p (GO.lst [])) p1 (GO.lst [W.int 0, W.int 1, W.int 1, W.int 2, W.int 2, W.int 3])) := (GLe.new hp).trans (GLe.new hp1)
    refine ix_new updG_same ?_
    generalize updG (updG G p (GO.lst [])) p1 (GO.lst [W.int 0, W.int 1, W.int 1, W.int 2, W.int 2, W.int 3]) = G1 at hG1 le1 ⊢
    refine pick_ints (vs := [0, 1, 1, 2, 2, 3]) (n := 6) (lo := 0) (hi := 3) rfl (by decide) (by decide) fun j j0 j1 => ?_
    try dsimp only
    refine ⟨by omega, by omega, ?_⟩
    obtain ⟨E1, hE1⟩ : ∃ E1 : Nat, E1 = if lv = 0 then 0 else 4 ^ lv := ⟨_, rfl⟩
    have hE3 : 3 * (E1 + 1) ≤ 4 ^ (lv + 1) := by
      rw [hE1]
      split
      · rename_i h; subst h; decide
      · have h4 : 4 ^ 1 ≤ 4 ^ lv := Nat.pow_le_pow_right (by decide) (by (clear hk60 F F1 F2 F3 F4 mr mt nd hr hlv hq hp hU hp1 h0 h1 hG1 le1 j0 j1 hE1; omega))
        rw [Nat.pow_succ]
        (clear hk60 F F1 F2 F3 F4 mr mt nd hr hlv hlv2 hq hp hU hp1 h0 h1 hG1 le1 j0 j1 hE1; omega)
    refine loop_up j.toNat (fun i τ G' => ∃ (l : Addr) (a : O) (t3 t4 t5 : Option W), τ = [some (.int c), some (.int (lv : Int)), some (.ref l), t3, t4, t5] ∧ G' l = some (.lst (encP a)) ∧ GLe G G' ∧ a.NF ∧ a.dp ≤ lv + 1 ∧ a.size ≤ i * (E1 + 1) ∧ a.len ≤ i ∧ O.mx a ≤ 10 ^ 15 ∧ O.hw a ≤ 3)
      ⟨p, .z, _, _, _, rfl, hG1, le1, trivial, by simp [O.dp], by simp [O.size], by simp [O.len], by simp [O.mx], by simp [O.hw]⟩ ?_ ?_
    · rintro τ G' ⟨l, a, t3, t4, t5, rfl, hl, le, na, da, sa, ln, ma, wa⟩
      refine ⟨trivial, ?_⟩
      subst hU
      walk_at "R"
      have : j.toNat * (E1 + 1) ≤ 3 * (E1 + 1) := Nat.mul_le_mul_right _ (by omega)
      exact ⟨_, hl, G, le, hq a ⟨na, da, by omega, ma⟩ wa⟩
    · rintro i τ G' kk hi ⟨l, a, t3, t4, t5, rfl, hl, le, na, da, sa, ln, ma, wa⟩ hk
      refine ⟨trivial, ?_⟩
      refine seqU fun U1 hU1 => ?_
      walk_at "R"
      refine ⟨c, (i : Int) + 1, rfl, by omega, by omega, fun n n0 n1 => ?_⟩
      subst hU1
      refine seqU fun U1 hU1 => ?_
      walk_at "R"
      subst hU1
      refine seqU fun U1 hU1 => ?_
      have body : ∀ x : O, x.NF → x.dp ≤ lv → x.size ≤ E1 → O.mx x ≤ 10 ^ 15 → O.hw x ≤ 3 → U1 { nx := kk, ct := kk, bk := U { nx := fun x G1 => ∃ G0, GLe G0 G1 ∧ q W.non G0, rt := fun w G1 => ∃ G0, GLe G0 G1 ∧ q w G0 }, rt := fun w G1 => ∃ G0, GLe G0 G1 ∧ q w G0 } [some (.int c), some (.int (lv : Int)), some (.ref l), some (.int (i : Int)), some (.int n), some (.tup (encP x))] G' := fun x nx dx sx mx wx => by
        subst hU1
        walk_at "R"
        refine ⟨n / 7, rfl, by omega, by omega, fun v v0 v1 => ?_⟩
        walk_at "R"
        refine ⟨l, a, x, v, rfl, hl, na, nx, v0, by omega, by omega, by omega, fun l' G2 a' le' hl' na' ln' da' sa' ma' wa' => ?_⟩
        have e : (i + 1) * (E1 + 1) = i * (E1 + 1) + (E1 + 1) := by rw [Nat.add_mul, Nat.one_mul]
        exact hk _ _ ⟨l', a', _, _, _, rfl, hl', le.trans le', na', by omega, by omega, by omega, by omega, by omega⟩
      walk_at "R"
      split
      · rename_i hpos
        refine ⟨n / 5, lv - 1, by congr 3; omega, by omega, by omega, fun o ho wo => ?_⟩
        have e1 : lv - 1 + 1 = lv := by omega
        have h1 := ho.dp
        have h2 := ho.sz
        rw [e1] at h1 h2
        refine body o ho.nf h1 ?_ ho.mx wo
        rw [hE1, if_neg (by omega)]
        exact h2
      · exact body .z trivial (by simp [O.dp]) (by simp [O.size]) (by simp [O.mx]) (by simp [O.hw])
theorem fxDr (T : Txt K mg) : ∀ L : Nat, L ≤ 10 → Fx P w K mg base "_law_drawn" ["_law_cell", "_law_level"] (L + 61) (spDr L)
  | 0, _ => T.d__law_drawn.fx fun f fd F => WFn.none fun ws G q e ⟨c, lv, _, h, _⟩ => by (clear T F; omega)
  | L + 1, h => T.d__law_drawn.fx fun f fd F => by
    have M := T.d__law_mixed.fx (P := P) (w := w) (base := base) fun f fd F => fnMx F
    have Pt := T.d__law_put.fx (P := P) (w := w) (base := base) fun f fd F => fnPt F (fxOr T 60 (by decide)) T.z_len
    have Mn := T.d__law_many.fx (P := P) (w := w) (base := base) fun f fd F => fnMn F
    have := fnDr (by (clear T F M Pt Mn; omega)) F (fxDr T L (by (clear T F M Pt Mn; omega))) M Pt Mn T.z_range T.z_tuple
    exact (show L + 61 + 1 = L + 1 + 61 by (clear T h F M Pt Mn this; omega)) ▸ this
theorem last_whole : ∀ {a : O} {x : O} {n : Int}, a.NF → O.last a = .c x n .z → O.same .z a = if x = .z then n else 0
  | .z, _, _, _, h => by cases h
  | .c e m .z, x, n, ha, h => by
    have : O.last (.c e m .z) = .c e m .z := rfl
    rw [this] at h
    injection h with h1 h2 _
    subst h1 h2
    by_cases k : e = .z
    · subst k; rw [if_pos rfl, O.same_self ha.2.2.1]
    · rw [if_neg k, O.same_ne k]; rfl
  | .c e m (.c e' m' r'), x, n, ha, h => by
    have e0 : O.last (.c e m (.c e' m' r')) = O.last (.c e' m' r') := by simp [O.last]
    rw [e0] at h
    have hne : e ≠ .z := fun z => by
      subst z
      have := ha.2.2.1.1
      cases e' <;> simp [O.cmp] at this
    rw [O.same_ne hne]
    exact last_whole ha.2.2.2 h
theorem no_whole : ∀ {a : O}, a.NF → O.same .z a = 0 → O.filt (fun y _ => decide (¬ y = .z)) a = a
  | .z, _, _ => rfl
  | .c e m r, ha, h => by
    have hne : e ≠ .z := fun z => by
      subst z
      rw [O.same_self ha.2.2.1] at h
      have := ha.2.1
      (clear ha; omega)
    rw [O.same_ne hne] at h
    rw [O.filt_c, if_pos (by simpa using hne), no_whole ha.2.2.2 h]
theorem with_whole : ∀ {a : O}, a.NF → O.same .z a ≠ 0 → O.filt (fun y _ => decide (¬ y = .z)) a = O.init a
  | .z, _, h => absurd rfl h
  | .c e m .z, ha, h => by
    have : e = .z := Classical.byContradiction fun k => h (by rw [O.same_ne k]; rfl)
    subst this
    rfl
  | .c e m (.c e' m' r'), ha, h => by
    have hne : e ≠ .z := fun z => by
      subst z
      have := ha.2.2.1.1
      cases e' <;> simp [O.cmp] at this
    rw [O.same_ne hne] at h
    have e0 : O.init (.c e m (.c e' m' r')) = .c e m (O.init (.c e' m' r')) := by simp [O.init]
    rw [O.filt_c, if_pos (by simpa using hne), with_whole ha.2.2.2 h, e0]
noncomputable def spWp : WSp := fun ws G q _ => ∃ a : O, ws = [.tup (encP a)] ∧ a.NF ∧ a.dp ≤ 60 ∧ q (.int (O.same .z a)) G
noncomputable def spWo : WSp := fun ws G q _ => ∃ a : O, ws = [.tup (encP a)] ∧ a.NF ∧ a.dp ≤ 60 ∧ q (.tup (encP (O.filt (fun y _ => decide (¬ y = .z)) a))) G
theorem scWp : FnScope ["a"] ["a"] (defScope (top 8)) := ⟨rfl, rfl, rfl, by decide +kernel, rfl, by decide +kernel, by decide +kernel⟩
theorem fnWp (F : Fun K "whole_part" "whole_part" (top 8) f fd) : WFn P w K mg base 1 f fd ["a"] spWp := by
  have nd := scWp.nd
  refine fn3 F scWp (fun ws G q e h => by obtain ⟨_, rfl, _⟩ := h; rfl) (fun cdv A outer s H E hr => ?_)
  apply bodyOf
  · exact (qss_cons (qs_if (qt_w (qw_or (qt_cmp (q_eq4 hr) (qe_var 0 rfl (.inl rfl)) (qe_tup qa_nil) (nomark _)) (qw_or1 (qt_cmp (q_ne4 hr) (qe_ix q_ix (qe_ix q_ix (qe_var 0 rfl (.inl rfl)) (qe_neg qe_int) (fun _ _ => rfl)) qe_int (fun _ _ => rfl)) (qe_tup qa_nil) (nomark _))))) (qss_cons (qs_ret qe_int) qss_nil) qss_nil) (qss_cons (qs_ret (qe_ix q_ix (qe_ix q_ix (qe_var 0 rfl (.inl rfl)) (qe_neg qe_int) (fun _ _ => rfl)) qe_int (fun _ _ => rfl))) qss_nil))
  · rintro ws G q e ⟨a, rfl, ha, hd, hq⟩
    have hd2 := tup_dep a
    walk_at "R"
    refine ⟨tup_flat a, by (clear F nd hr ha hq; omega), ?_⟩
    rw [tup_nil_eq]
    by_cases hz : a = .z
    · subst hz
      rw [if_pos (by simp)]
      exact GLe.done hq
    · rw [if_neg (by simpa using hz)]
      obtain ⟨x, n, h1, h2⟩ := last_c hz
      have hw := last_whole ha h1
      have hs := O.getP_size h2
      have hdx := tup_dep x
      refine ⟨_, encP_at_last h2, ?_⟩
      unfold prt enc
      walk_at "R"
      refine ⟨tup_flat x, by (clear F nd hr ha hq hd2 hz h1 h2 hw; omega), ?_⟩
      rw [tup_nil_eq]
      by_cases hx : x = .z
      · rw [if_neg (by simpa using hx)]
        rw [if_pos hx] at hw
        have h3 := encP_at_last h2
        unfold prt enc at h3
        refine ⟨_, h3, ?_⟩
        walk_at "R"
        rw [hw] at hq
        exact GLe.done hq
      · rw [if_pos (by simpa using hx)]
        rw [if_neg hx] at hw
        rw [hw] at hq
        exact GLe.done hq
theorem scWo : FnScope ["a"] ["a"] (defScope (top 9)) := ⟨rfl, rfl, rfl, by decide +kernel, rfl, by decide +kernel, by decide +kernel⟩
theorem fnWo (F : Fun K "without_whole" "without_whole" (top 9) f fd) (F1 : Fx P w K mg base "whole_part" ["a"] 1 spWp) : WFn P w K mg base 2 f fd ["a"] spWo := by
  have nd := scWo.nd
  refine fn3 F scWo (fun ws G q e h => by obtain ⟨_, rfl, _⟩ := h; rfl) (fun cdv A outer s H E hr => ?_)
  apply bodyOf
  · exact (qss_cons (qs_if (qt_cmp (q_eq4 hr) (qe_fxn F1 (Room.mono hr (by omega)) rfl (qa_cons (qe_var 0 rfl (.inl rfl)) qa_nil)) qe_int (nomark _)) (qss_cons (qs_ret (qe_var 0 rfl (.inl rfl))) qss_nil) qss_nil) (qss_cons (qs_ret (qe_slice (qe_var 0 rfl (.inl rfl)) qo_none (qo_some (qe_neg qe_int)))) qss_nil))
  · rintro ws G q e ⟨a, rfl, ha, hd, hq⟩
    walk_at "R"
    refine ⟨a, rfl, ha, hd, ?_⟩
    walk_at "R"
    split
    · rename_i h
      rw [no_whole ha h] at hq
      exact GLe.done hq
    · rename_i h
      rw [with_whole ha h] at hq
      rw [cut_init]
      exact GLe.done hq
noncomputable def mapE (e : O) : O → O
  | .z => .z
  | .c f d t => .c (O.plusO e f) d (mapE e t)
theorem mapP_mapE (e : O) : ∀ b : O, mapP (fun _ _ => true) (fun x m => prt (O.plusO e x) m) b = encP (mapE e b)
  | .z => rfl
  | .c f d t => by rw [mapP, if_pos rfl, mapP_mapE e t]; rfl
theorem len_mapE (e : O) : ∀ b : O, (mapE e b).len = b.len
  | .z => rfl
  | .c f d t => by simp only [mapE, O.len, len_mapE e t]
theorem mul_split {e : O} {n : Int} {r : O} : ∀ {b : O}, b.NF → O.mulP e n r b = O.app (mapE e (O.filt (fun y _ => decide (¬ y = .z)) b)) (if O.same .z b = 0 then .z else .c e (n * O.same .z b) r)
  | .z, _ => rfl
  | .c f d t, hb => by
    rw [O.mulP_c, O.filt_c]
    by_cases k : f = .z
    · subst k
      have hd := hb.2.1
      rw [if_pos rfl, if_neg (by simp), O.Lt_z hb.2.2.1, O.same_self (r := .z) trivial, if_neg (by (clear hb; omega))]
      rfl
    · rw [if_neg k, if_pos (by simpa using k), O.same_ne k, mul_split hb.2.2.2]
      rfl
noncomputable def spTi : WSp := fun ws G q _ => ∃ a b : O, ws = [.tup (encP a), .tup (encP b)] ∧ a.NF ∧ b.NF ∧ a.dp ≤ 40 ∧ b.dp ≤ 40 ∧ O.hw a ≤ 1000 ∧ O.hw b ≤ 1000 ∧ O.mx a ≤ cap ∧ O.mx b ≤ cap ∧ q (.tup (encP (O.timesO a b))) G
theorem scTi : FnScope ["a", "b", "exponent", "parts", "many"] ["a", "b"] (defScope (top 15)) := ⟨rfl, rfl, rfl, by decide +kernel, rfl, by decide +kernel, by decide +kernel⟩
theorem fnTi (F : Fun K "times" "times" (top 15) f fd) (F1 : Fx P w K mg base "whole_part" ["a"] 1 spWp) (F2 : Fx P w K mg base "without_whole" ["a"] 2 spWo) (F3 : Fx P w K mg base "plus" ["a", "b"] 3 spPs) (mt : mg "tuple" = none) : WFn P w K mg base 4 f fd ["a", "b"] spTi := by
  have nd := scTi.nd
  refine fn3 F scTi (fun ws G q e h => by obtain ⟨_, _, rfl, _⟩ := h; rfl) (fun cdv A outer s H E hr => ?_)
  apply bodyOf
  · exact (qss_cons (qs_if (qt_w (qw_or (qt_cmp (q_eq4 hr) (qe_var 0 rfl (.inl rfl)) (qe_tup qa_nil) (nomark _)) (qw_or1 (qt_cmp (q_eq4 hr) (qe_var 1 rfl (.inl rfl)) (qe_tup qa_nil) (nomark _))))) (qss_cons (qs_ret (qe_tup qa_nil)) qss_nil) qss_nil) (qss_cons (qs_set 2 nd rfl (.inr rfl) (qe_ix q_ix (qe_ix q_ix (qe_var 0 rfl (.inl rfl)) qe_int (fun _ _ => rfl)) qe_int (fun _ _ => rfl))) (qss_cons (qs_comp 3 (compSc (by first | rfl | decide +kernel)) rfl nd rfl (.inl rfl) (qi_seq (qe_fxn F2 (Room.mono hr (by omega)) rfl (qa_cons (qe_var 1 rfl (.inl rfl)) qa_nil))) (fun _ _ _ _ => (qg_nameB 1 (by first | assumption | decide +kernel | rfl) rfl (.inl rfl))) (fun _ _ _ _ => qts_nil) (fun _ _ _ _ => (qe_tup (qa_cons (qe_fxn F3 (Room.mono hr (by omega)) rfl (qa_cons (qe_var 3 rfl (.inr (.inl rfl))) (qa_cons (qe_ix q_ix (qe_var 1 rfl (.inl rfl)) qe_int (fun _ _ => rfl)) qa_nil))) (qa_cons (qe_ix q_ix (qe_var 1 rfl (.inl rfl)) qe_int (fun _ _ => rfl)) qa_nil))))) (qss_cons (qs_set 4 nd rfl (.inl rfl) (qe_fxn F1 (Room.mono hr (by omega)) rfl (qa_cons (qe_var 1 rfl (.inl rfl)) qa_nil))) (qss_cons (qs_if (qt_cmp (q_eq4 hr) (qe_var 4 rfl (.inl rfl)) qe_int (nomark _)) (qss_cons (qs_ret (qe_callTy q_tuple rfl mt b_tuple (qa_cons (qe_var 3 rfl (.inl rfl)) qa_nil))) qss_nil) qss_nil) (qss_cons (qs_ret (qe_op q_add (qe_op q_add (qe_callTy q_tuple rfl mt b_tuple (qa_cons (qe_var 3 rfl (.inl rfl)) qa_nil)) (qe_tup (qa_cons (qe_tup (qa_cons (qe_var 2 rfl (.inr (.inl rfl))) (qa_cons (qe_op q_mulB (qe_ix q_ix (qe_ix q_ix (qe_var 0 rfl (.inl rfl)) qe_int (fun _ _ => rfl)) qe_int (fun _ _ => rfl)) (qe_var 4 rfl (.inl rfl))) qa_nil))) qa_nil))) (qe_slice (qe_var 0 rfl (.inl rfl)) (qo_some qe_int) qo_none))) qss_nil))))))
  · rintro ws G q e ⟨a, b, rfl, na, nb, da, db, sa, sb, ma, mb, hq⟩
    have hda := tup_dep a
    have hdb := tup_dep b
    have la := O.len_le_hw a
    have lb := O.len_le_hw b
    refine seqU fun U hU => ?_
    walk_at "R"
    refine ⟨tup_flat a, by (clear F F1 F2 F3 mt nd hr na nb db sa sb ma mb hq hdb la lb hU; omega), ?_⟩
    rw [tup_nil_eq]
    cases a with
    | z =>
      rw [if_pos (by simp)]
      exact GLe.done hq
    | c e n r =>
      rw [if_neg (by simp)]
      refine ⟨tup_flat b, by (clear F F1 F2 F3 mt nd hr nb sb mb lb hU na da sa ma hq hda la; omega), ?_⟩
      rw [tup_nil_eq]
      by_cases hb0 : b = .z
      · subst hb0
        rw [if_pos (by simp)]
        exact GLe.done hq
      · rw [if_neg (by simpa using hb0)]
        subst hU
        rw [O.hw_c] at sa
        simp only [O.dp, O.len] at da la
        have le1 := O.len_le_hw e
        have lr1 := O.len_le_hw r
        rw [encP_c]
        unfold prt enc
        refine seqU fun U hU => ?_
        walk_at "R"
        subst hU
        refine seqU fun U hU => ?_
        walk_at "R"
        refine ⟨b, rfl, nb, by exact Nat.le_trans (by assumption) (Nat.le_of_ble_eq_true rfl), ?_⟩
        walk_at "R"
        show compW _ _ _ _ _ [none, none, none, some (W.tup (encP e))] G [] _
        have lf := len_filt (fun y _ => decide (¬ y = O.z)) b
        have df := O.dp_filt (fun y _ => decide (¬ y = O.z)) b
        have sf := O.hw_filt (fun y _ => decide (¬ y = O.z)) b
        refine comp_enc (fun _ _ => true) (fun x m => prt (O.plusO e x) m) trivial (allP_hw _) (fun y m hy k hk => ?_) (fun y m hy _ k hk => ?_) (by rw [List.length_nil]; (clear F F1 F2 F3 mt nd hr nb db mb hdb na da sa ma hq hda la hb0 le1 lr1 hU df sf; omega)) (fun _ => rfl) fun p1 hp1 => ?_
        · walk_at "R"
          exact hk
        · have ly := O.len_le_hw y
          unfold prt enc at hk ⊢
          walk_at "R"
          exact ⟨e, y, rfl, na.1, by omega, by (clear F F1 F2 F3 mt nd hr nb sb mb hdb lb na da sa ma hq hda la hb0 le1 lr1 hU lf sf hk ly; omega), by (clear F F1 F2 F3 mt nd hr nb db sb mb hdb lb na da ma hq hda la hb0 hU lf df sf hy hk ly; omega), by (clear F F1 F2 F3 mt nd hr nb db mb hdb lb na da sa ma hq hda la hb0 le1 lr1 hU lf df hk; omega), hk⟩
        rw [List.nil_append, mapP_mapE]
        have hG1 := updG_same (G := G) (a := p1) (g := GO.lst (encP (mapE e (O.filt (fun y _ => decide (¬ y = O.z)) b))))
        have le : GLe G (updG G p1 (GO.lst (encP (mapE e (O.filt (fun y _ => decide (¬ y = O.z)) b))))) := GLe.new hp1
        generalize updG G p1 (GO.lst (encP (mapE e (O.filt (fun y _ => decide (¬ y = O.z)) b)))) = G1 at hG1 le ⊢
        subst hU
        refine seqU fun U hU => ?_
        walk_at "R"
        refine ⟨b, rfl, nb, by exact Nat.le_trans (by assumption) (Nat.le_of_ble_eq_true rfl), ?_⟩
        have hsp : O.timesO (.c e n r) b = _ := mul_split (e := e) (n := n) (r := r) nb
        rw [hsp] at hq
        have hn := na.2.1
        have hsm := O.same_le_mx .z nb
        have hs0 := O.same_nonneg .z nb
        rw [O.mx_c] at ma
        have lm := len_mapE e (O.filt (fun y _ => decide (¬ y = O.z)) b)
        subst hU
        refine seqU fun U hU => ?_
        walk_at "R"
        split
        · rename_i h0
          refine ⟨_, hG1, G, le, ?_⟩
          rw [if_pos h0] at hq
          have : O.app (mapE e (O.filt (fun y _ => decide (¬ y = O.z)) b)) .z = mapE e (O.filt (fun y _ => decide (¬ y = O.z)) b) := encP_inj (by rw [encP_app, encP_z, List.append_nil])
          rw [this] at hq
          exact hq
        · rename_i h0
          rw [if_neg h0, encP_app, encP_c] at hq
          subst hU
          have e1 : cutW (W.tup [W.tup (encP e), W.int n] :: encP r) (some 1) none = encP r := by rw [show (1 : Int) = ((1 : Nat) : Int) from rfl, cut_from]; rfl
          walk_at "R"
          rw [e1]
          refine ⟨_, hG1, .inr (bigC (by omega) (by omega) (by assumption) (by omega)), by rw [encP_length, lm]; omega, by rw [List.length_append, encP_length, encP_length, List.length_cons, List.length_nil, lm]; omega, G, le, ?_⟩
          rw [List.append_assoc]
          exact hq
theorem ix_exp {a x : O} {n : Int} {i j k : Nat} {τ : WSt} {G : Gp} {q : WK} (hx : a.getP i = some (x, n)) (h1 : τ[j]? = some (some (.tup (encP a)))) (h2 : τ[k]? = some (some (.int (i : Int)))) (hq : q (.tup (encP x)) G) : wOp rIx3 (wOp rIx3 (wVar j) (wVar k)) (wC (.int 0)) τ G q := by
  simp only [wOp, wVar, h1, h2, rIx3, wC]
  refine ⟨_, encP_at hx, ?_⟩
  exact ⟨_, rfl, hq⟩
theorem ix_tm {a x : O} {n : Int} {i j k : Nat} {τ : WSt} {G : Gp} {q : WK} (hx : a.getP i = some (x, n)) (h1 : τ[j]? = some (some (.tup (encP a)))) (h2 : τ[k]? = some (some (.int (i : Int)))) (hq : q (.int n) G) : wOp rIx3 (wOp rIx3 (wVar j) (wVar k)) (wC (.int 1)) τ G q := by
  simp only [wOp, wVar, h1, h2, rIx3, wC]
  refine ⟨_, encP_at hx, ?_⟩
  exact ⟨_, rfl, hq⟩
theorem scMg : FnScope ["a", "b", "parts", "i", "j", "order"] ["a", "b"] (defScope (top 13)) := ⟨rfl, rfl, rfl, by decide +kernel, rfl, by decide +kernel, by decide +kernel⟩
theorem fnMg (F : Fun K "merged" "merged" (top 13) f fd) (F1 : Fx P w K mg base "compare" ["a", "b"] 1 spCm) (ml : mg "len" = none) (mt : mg "tuple" = none) : WFn P w K mg base 2 f fd ["a", "b"] spMg := by
  have nd := scMg.nd
  refine fn3 F scMg (fun ws G q e h => by obtain ⟨_, _, rfl, _⟩ := h; rfl) (fun cdv A outer s H E hr => ?_)
  apply bodyOf
  · exact (qss_cons (qs_set 2 nd rfl (.inl rfl) (qe_lst qa_nil)) (qss_cons (qs_set 3 nd rfl (.inl rfl) qe_int) (qss_cons (qs_set 4 nd rfl (.inl rfl) qe_int) (qss_cons (qs_while PySem.PassesOwn.never (qt_w (qw_and (qt_cmp (q_lt3 hr) (qe_var 3 rfl (.inl rfl)) (qe_callB q_len rfl ml PySem.boot_len (qa_cons (qe_var 0 rfl (.inl rfl)) qa_nil)) (nomark _)) (qw_and1 (qt_cmp (q_lt3 hr) (qe_var 4 rfl (.inl rfl)) (qe_callB q_len rfl ml PySem.boot_len (qa_cons (qe_var 1 rfl (.inl rfl)) qa_nil)) (nomark _))))) (qss_cons (qs_set 5 nd rfl (.inl rfl) (qe_fxn F1 (Room.mono hr (by omega)) rfl (qa_cons (qe_ix q_ix (qe_ix q_ix (qe_var 0 rfl (.inl rfl)) (qe_var 3 rfl (.inl rfl)) (fun _ _ => rfl)) qe_int (fun _ _ => rfl)) (qa_cons (qe_ix q_ix (qe_ix q_ix (qe_var 1 rfl (.inl rfl)) (qe_var 4 rfl (.inl rfl)) (fun _ _ => rfl)) qe_int (fun _ _ => rfl)) qa_nil)))) (qss_cons (qs_if (qt_cmp q_gt (qe_var 5 rfl (.inl rfl)) qe_int (nomark _)) (qss_cons (qs_expr (qe_app (qe_var 2 rfl (.inl rfl)) (qe_ix q_ix (qe_var 0 rfl (.inl rfl)) (qe_var 3 rfl (.inl rfl)) (fun _ _ => rfl)))) qss_nil) (qss_cons (qs_if (qt_cmp (q_lt3 hr) (qe_var 5 rfl (.inl rfl)) qe_int (nomark _)) (qss_cons (qs_expr (qe_app (qe_var 2 rfl (.inl rfl)) (qe_ix q_ix (qe_var 1 rfl (.inl rfl)) (qe_var 4 rfl (.inl rfl)) (fun _ _ => rfl)))) qss_nil) (qss_cons (qs_expr (qe_app (qe_var 2 rfl (.inl rfl)) (qe_tup (qa_cons (qe_ix q_ix (qe_ix q_ix (qe_var 0 rfl (.inl rfl)) (qe_var 3 rfl (.inl rfl)) (fun _ _ => rfl)) qe_int (fun _ _ => rfl)) (qa_cons (qe_op q_add (qe_ix q_ix (qe_ix q_ix (qe_var 0 rfl (.inl rfl)) (qe_var 3 rfl (.inl rfl)) (fun _ _ => rfl)) qe_int (fun _ _ => rfl)) (qe_ix q_ix (qe_ix q_ix (qe_var 1 rfl (.inl rfl)) (qe_var 4 rfl (.inl rfl)) (fun _ _ => rfl)) qe_int (fun _ _ => rfl))) qa_nil))))) qss_nil)) qss_nil)) (qss_cons (qs_if (qt_cmp q_ge (qe_var 5 rfl (.inl rfl)) qe_int (nomark _)) (qss_cons (qs_set 3 nd rfl (.inl rfl) (qe_op q_add (qe_var 3 rfl (.inl rfl)) qe_int)) qss_nil) qss_nil) (qss_cons (qs_if (qt_cmp q_le (qe_var 5 rfl (.inl rfl)) qe_int (nomark _)) (qss_cons (qs_set 4 nd rfl (.inl rfl) (qe_op q_add (qe_var 4 rfl (.inl rfl)) qe_int)) qss_nil) qss_nil) qss_nil))))) (qss_cons (qs_ret (qe_op q_add (qe_op q_add (qe_callTy q_tuple rfl mt b_tuple (qa_cons (qe_var 2 rfl (.inl rfl)) qa_nil)) (qe_slice (qe_var 0 rfl (.inl rfl)) (qo_some (qe_var 3 rfl (.inl rfl))) qo_none)) (qe_slice (qe_var 1 rfl (.inl rfl)) (qo_some (qe_var 4 rfl (.inl rfl))) qo_none))) qss_nil)))))
  · rintro ws G q e ⟨a, b, rfl, hx, hl, hl2, hq⟩
    refine seqU fun U hU => ?_
    walk_at "R"
    intro p hp
    subst hU
    refine seqU fun U hU => ?_
    walk_at "R"
    subst hU
    refine seqU fun U hU => ?_
    walk_at "R"
    subst hU
    refine seqU fun U hU => ?_
    refine whileW (fun m τ G' => ∃ (i j : Nat) (ws : List W) (t5 : Option W), τ = [some (.tup (encP a)), some (.tup (encP b)), some (.ref p), some (.int (i : Int)), some (.int (j : Int)), t5] ∧ G' p = some (.lst ws) ∧ GLe G G' ∧ ws ++ encP (O.mergeO (O.dropO i a) (O.dropO j b)) = encP (O.mergeO a b) ∧ i ≤ a.len ∧ j ≤ b.len ∧ ws.length ≤ i + j ∧ m = a.len - i + (b.len - j))
      ⟨_, 0, 0, [], none, rfl, updG_same, GLe.new hp, rfl, Nat.zero_le _, Nat.zero_le _, Nat.zero_le _, rfl⟩ ?_
    rintro m τ G' ⟨i, j, ws, t5, rfl, hG, le, hw, hi, hj, hwl, rfl⟩ B hB
    walk_at "R"
    rw [encP_length, encP_length]
    have fin : (a.len ≤ i ∨ b.len ≤ j) → U { nx := fun x G1 => ∃ G0, GLe G0 G1 ∧ q W.non G0, rt := fun w G1 => ∃ G0, GLe G0 G1 ∧ q w G0 } [some (.tup (encP a)), some (.tup (encP b)), some (.ref p), some (.int (i : Int)), some (.int (j : Int)), t5] G' := fun hend => by
      subst hU
      walk_at "R"
      rw [cut_from, cut_from, encP_drop, encP_drop]
      have la := O.len_dropO i a
      have lb := O.len_dropO j b
      refine ⟨ws, hG, by rw [encP_length]; (clear F F1 ml mt nd hr hx hq hp hG le hw hB hend lb; omega), by rw [List.length_append, encP_length, encP_length]; (clear F F1 ml mt nd hr hx hq hp hG le hw hB hend; omega), G, le, ?_⟩
      rcases hend with h | h
      · rw [O.dropO_len h, O.z_merge] at hw
        rw [O.dropO_len h]
        simp only [encP_z, List.append_nil]
        rw [hw]
        exact hq
      · rw [O.dropO_len h, O.merge_z] at hw
        rw [O.dropO_len h]
        simp only [encP_z, List.append_nil]
        rw [hw]
        exact hq
    split
    · rename_i h1
      split
      · rename_i h2
        refine ⟨fun τ1 G1 => ∃ (i' j' : Nat) (ws : List W) (t5 : Option W), τ1 = [some (.tup (encP a)), some (.tup (encP b)), some (.ref p), some (.int (i' : Int)), some (.int (j' : Int)), t5] ∧ G1 p = some (.lst ws) ∧ GLe G G1 ∧ ws ++ encP (O.mergeO (O.dropO i' a) (O.dropO j' b)) = encP (O.mergeO a b) ∧ i' ≤ a.len ∧ j' ≤ b.len ∧ ws.length ≤ i' + j' ∧ a.len - i' + (b.len - j') < a.len - i + (b.len - j), ?_, ?_⟩
        · rintro τ1 G1 ⟨i', j', ws', t5', rfl, k1, k2, k3, k4, k5, k6, k7⟩
          exact ⟨_, k7, i', j', ws', t5', rfl, k1, k2, k3, k4, k5, k6, rfl⟩
        · obtain ⟨y, n, hp1⟩ := O.getP_some (a := a) (i := i) (by (clear F F1 ml mt nd hr hx hl hl2 hq hp hU hG le hw hi hj hwl hB fin h2; omega))
          obtain ⟨y', n', hp2⟩ := O.getP_some (a := b) (i := j) (by (clear F F1 ml mt nd hr hx hl hl2 hq hp hU hG le hw hi hj hwl hB fin h1 hp1; omega))
          have hs := O.getP_size hp1
          have hA := encP_at hp1
          have hBt := encP_at hp2
          have le' : ∀ g, GLe G (updG G' p g) := fun g a' g' ea => by
            rw [updG_ne (fun z => by rw [z, hp] at ea; cases ea)]
            exact le a' g' ea
          rw [O.dropO_get hp1, O.dropO_get hp2, O.merge_c] at hw
          subst hB
          generalize hA0 : wOp rIx3 (wOp rIx3 (wVar 0) (wVar 3)) (wC (W.int 0)) = A0
          generalize hA1 : wOp rIx3 (wOp rIx3 (wVar 0) (wVar 3)) (wC (W.int 1)) = A1
          generalize hB0 : wOp rIx3 (wOp rIx3 (wVar 1) (wVar 4)) (wC (W.int 0)) = B0
          generalize hB1 : wOp rIx3 (wOp rIx3 (wVar 1) (wVar 4)) (wC (W.int 1)) = B1
          have fA0 : ∀ (t5 : Option W) (q : WK), q (.tup (encP y)) G' → A0 [some (.tup (encP a)), some (.tup (encP b)), some (.ref p), some (.int (i : Int)), some (.int (j : Int)), t5] G' q := fun t5 q h => hA0 ▸ ix_exp hp1 rfl rfl h
          have fA1 : ∀ (t5 : Option W) (q : WK), q (.int n) G' → A1 [some (.tup (encP a)), some (.tup (encP b)), some (.ref p), some (.int (i : Int)), some (.int (j : Int)), t5] G' q := fun t5 q h => hA1 ▸ ix_tm hp1 rfl rfl h
          have fB0 : ∀ (t5 : Option W) (q : WK), q (.tup (encP y')) G' → B0 [some (.tup (encP a)), some (.tup (encP b)), some (.ref p), some (.int (i : Int)), some (.int (j : Int)), t5] G' q := fun t5 q h => hB0 ▸ ix_exp hp2 rfl rfl h
          have fB1 : ∀ (t5 : Option W) (q : WK), q (.int n') G' → B1 [some (.tup (encP a)), some (.tup (encP b)), some (.ref p), some (.int (i : Int)), some (.int (j : Int)), t5] G' q := fun t5 q h => hB1 ▸ ix_tm hp2 rfl rfl h
          clear hA0 hA1 hB0 hB1
          refine seqU fun U1 hU1 => ?_
          walk_at "R"
          refine fA0 _ _ (fB0 _ _ ?_)
          refine ⟨y, y', rfl, by omega, ?_⟩
          subst hU1
          refine seqU fun U1 hU1 => ?_
          walk_at "R"
          by_cases c1 : 0 < O.cmp y y'
          · rw [if_pos c1] at hw ⊢
            rw [encP_c] at hw
            refine ⟨⟨_, hG⟩, _, hA, ws, hG, by omega, ?_⟩
            subst hU1
            refine seqU fun U1 hU1 => ?_
            walk_at "R"
            rw [if_pos (by omega)]
            subst hU1
            walk_at "R"
            rw [if_neg (by omega)]
            exact ⟨i + 1, j, ws ++ [prt y n], _, rfl, updG_same, le' _, by rw [List.append_assoc, O.dropO_get hp2]; exact hw, by omega, hj, by simp; omega, by omega⟩
          · rw [if_neg c1] at hw ⊢
            by_cases c2 : O.cmp y y' < 0
            · rw [if_pos c2] at hw ⊢
              rw [encP_c] at hw
              refine ⟨⟨_, hG⟩, _, hBt, ws, hG, by omega, ?_⟩
              subst hU1
              refine seqU fun U1 hU1 => ?_
              walk_at "R"
              rw [if_neg (by omega)]
              subst hU1
              walk_at "R"
              rw [if_pos (by omega)]
              exact ⟨i, j + 1, ws ++ [prt y' n'], _, rfl, updG_same, le' _, by rw [List.append_assoc, O.dropO_get hp1]; exact hw, hi, by omega, by simp; omega, by omega⟩
            · rw [if_neg c2] at hw ⊢
              rw [encP_c] at hw
              refine ⟨⟨_, hG⟩, fA0 _ _ (fA1 _ _ (fB1 _ _ ?_))⟩
              walk_at "R"
              refine ⟨ws, hG, by omega, ?_⟩
              subst hU1
              refine seqU fun U1 hU1 => ?_
              walk_at "R"
              rw [if_pos (by omega)]
              subst hU1
              walk_at "R"
              rw [if_pos (by omega)]
              exact ⟨i + 1, j + 1, ws ++ [prt y (n + n')], _, rfl, updG_same, le' _, by rw [List.append_assoc]; exact hw, by omega, by omega, by simp; omega, by omega⟩
      · exact fin (.inr (by (clear F F1 ml mt nd hr hx hl hl2 hq hp hU hG le hw hi hwl hB fin h1; omega)))
    · exact fin (.inl (by (clear F F1 ml mt nd hr hx hl hl2 hq hp hU hG le hw hj hwl hB fin; omega)))
noncomputable def spWh : WSp := fun ws G q _ => ∃ n k : Int, ws = [.int n, .int k] ∧ q (.bl (decide (k ≤ n))) G
theorem scWh : FnScope ["thing", "least"] ["thing", "least"] (defScope (top 4)) := ⟨rfl, rfl, rfl, by decide +kernel, rfl, by decide +kernel, by decide +kernel⟩
theorem fnWh {T : Addr} {ds : List Value} (F : FunD K "is_whole" "is_whole" (top 4) f fd T ds) (mi : mg "isinstance" = none) (mn : mg "int" = none) (mb : mg "bool" = none) : WFn P w K mg base 1 f fd ["thing", "least"] spWh := by
  have nd := scWh.nd
  refine fn3D F scWh (fun ws G q e h => by obtain ⟨_, _, rfl, _⟩ := h; rfl) (fun cdv A outer s H E hr => ?_)
  apply bodyOf
  · exact (qss_cons (qs_ret (qe_and (qe_isi (T := "int") (x := "int") (by first | simp [isiT] | assumption | decide +kernel) PyProof.Rows.boot_int mn rfl mi rfl (qe_var 0 rfl (.inl rfl))) (qe_and (qe_not (qe_isi (T := "bool") (x := "bool") (by first | simp [isiT] | assumption | decide +kernel) PyProof.Rows.boot_bool mb rfl mi rfl (qe_var 0 rfl (.inl rfl)))) (qe_one (qe_cmp q_ge (qe_var 0 rfl (.inl rfl)) (qe_var 1 rfl (.inl rfl)) (nomark _)))))) qss_nil)
  · rintro ws G q e ⟨n, k, rfl, hq⟩
    walk_at "R"
    exact GLe.done hq
noncomputable def spRs : WSp := fun ws G q _ => ∃ (x : O) (n : Int), ws = [.tup (encP x), .int n] ∧ 0 ≤ n ∧ q (.tup (encP (if n = 0 then .z else .c x n .z))) G
theorem scRs : FnScope ["exponent", "times"] ["exponent", "times"] (defScope (top 6)) := ⟨rfl, rfl, rfl, by decide +kernel, rfl, by decide +kernel, by decide +kernel⟩
theorem fnRs {T : Addr} {ds : List Value} (F : FunD K "raised" "raised" (top 6) f fd T ds) (F1 : Fxd P w K mg base "is_whole" ["thing", "least"] 1 spWh [.int 0]) : WFn P w K mg base 2 f fd ["exponent", "times"] spRs := by
  have nd := scRs.nd
  refine fn3D F scRs (fun ws G q e h => by obtain ⟨_, _, rfl, _⟩ := h; rfl) (fun cdv A outer s H E hr => ?_)
  apply bodyOf
  · exact (qss_cons (qs_if (qt_not (qt_val (qe_fxd F1 (Room.mono hr (by omega)) rfl (qa_cons (qe_var 1 rfl (.inl rfl)) qa_nil)))) (qss_cons qs_never qss_nil) qss_nil) (qss_cons (qs_if (qt_cmp (q_eq4 hr) (qe_var 1 rfl (.inl rfl)) qe_int (nomark _)) (qss_cons (qs_ret (qe_tup qa_nil)) qss_nil) qss_nil) (qss_cons (qs_ret (qe_tup (qa_cons (qe_tup (qa_cons (qe_var 0 rfl (.inl rfl)) (qa_cons (qe_var 1 rfl (.inl rfl)) qa_nil))) qa_nil))) qss_nil)))
  · rintro ws G q e ⟨x, n, rfl, hn, hq⟩
    walk_at "R"
    refine ⟨n, 0, rfl, ?_⟩
    walk_at "R"
    rw [if_neg (by (clear F F1 nd hr hq; omega))]
    split
    · rename_i h
      rw [if_pos h] at hq
      exact GLe.done hq
    · rename_i h
      rw [if_neg h, encP_c] at hq
      exact GLe.done hq
noncomputable def spWl : WSp := fun ws G q _ => ∃ n : Int, ws = [.int n] ∧ 0 ≤ n ∧ q (.tup (encP (O.wh n))) G
theorem scWl : FnScope ["n"] ["n"] (defScope (top 5)) := ⟨rfl, rfl, rfl, by decide +kernel, rfl, by decide +kernel, by decide +kernel⟩
theorem fnWl (F : Fun K "whole" "whole" (top 5) f fd) (F1 : Fx P w K mg base "raised" ["exponent", "times"] 2 spRs) : WFn P w K mg base 3 f fd ["n"] spWl := by
  have nd := scWl.nd
  refine fn3 F scWl (fun ws G q e h => by obtain ⟨_, rfl, _⟩ := h; rfl) (fun cdv A outer s H E hr => ?_)
  apply bodyOf
  · exact (qss_cons (qs_ret (qe_fxn F1 (Room.mono hr (by omega)) rfl (qa_cons (qe_tup qa_nil) (qa_cons (qe_var 0 rfl (.inl rfl)) qa_nil)))) qss_nil)
  · rintro ws G q e ⟨n, rfl, hn, hq⟩
    walk_at "R"
    exact ⟨.z, n, rfl, hn, GLe.done hq⟩
noncomputable def spLp : WSp := fun ws G q _ => ∃ a b : O, ws = [.tup (encP a), .tup (encP b)] ∧ a.dp ≤ 50 ∧ b.dp ≤ 50 ∧ a.len ≤ 5000 ∧ b.len ≤ 5000 ∧ q (.tup (encP (O.plusO a b))) G
theorem scLp : FnScope ["_law_a", "_law_b", "_law_kept", "_law_many_here"] ["_law_a", "_law_b"] (defScope (top 27)) := ⟨rfl, rfl, rfl, by decide +kernel, rfl, by decide +kernel, by decide +kernel⟩
theorem fnLp (F : Fun K "_law_plus" "_law_plus" (top 27) f fd) (F1 : Fx P w K mg base "_law_order" ["_law_a", "_law_b"] 60 (spOr 60)) (ms : mg "sum" = none) (mt : mg "tuple" = none) : WFn P w K mg base 61 f fd ["_law_a", "_law_b"] spLp := by
  have nd := scLp.nd
  refine fn3 F scLp (fun ws G q e h => by obtain ⟨_, _, rfl, _⟩ := h; rfl) (fun cdv A outer s H E hr => ?_)
  apply bodyOf
  · exact (qss_cons (qs_if (qt_cmp (q_eq4 hr) (qe_var 1 rfl (.inr (.inl rfl))) (qe_tup qa_nil) (nomark _)) (qss_cons (qs_ret (qe_var 0 rfl (.inl rfl))) qss_nil) qss_nil) (qss_cons (qs_comp 2 (compSc (by first | rfl | decide +kernel)) rfl nd rfl (.inl rfl) (qi_seq (qe_var 0 rfl (.inl rfl))) (fun _ _ _ _ => (qg_nameB 1 (by first | assumption | decide +kernel | rfl) rfl (.inl rfl))) (fun _ _ _ _ => (qts_one (qt_cmp (q_eq4 hr) (qe_fxn F1 (Room.mono hr (by omega)) rfl (qa_cons (qe_ix q_ix (qe_var 1 rfl (.inl rfl)) qe_int (fun _ _ => rfl)) (qa_cons (qe_ix q_ix (qe_ix q_ix (qe_var 3 rfl (.inr (.inl rfl))) qe_int (fun _ _ => rfl)) qe_int (fun _ _ => rfl)) qa_nil))) qe_int (nomark _)))) (fun _ _ _ _ => (qe_var 1 rfl (.inl rfl)))) (qss_cons (qs_set 3 nd rfl (.inl rfl) (qe_callB (q_sum rfl) rfl ms b_sum (qa_cons (qe_comp (compSc (by first | rfl | decide +kernel)) rfl (qi_seq (qe_var 0 rfl (.inl rfl))) (fun _ _ _ _ => (qg_nameB 1 (by first | assumption | decide +kernel | rfl) rfl (.inl rfl))) (fun _ _ _ _ => (qts_one (qt_cmp (q_eq4 hr) (qe_ix q_ix (qe_var 1 rfl (.inl rfl)) qe_int (fun _ _ => rfl)) (qe_ix q_ix (qe_ix q_ix (qe_var 2 rfl (.inr (.inl rfl))) qe_int (fun _ _ => rfl)) qe_int (fun _ _ => rfl)) (nomark _)))) (fun _ _ _ _ => (qe_ix q_ix (qe_var 1 rfl (.inl rfl)) qe_int (fun _ _ => rfl)))) qa_nil))) (qss_cons (qs_ret (qe_op q_add (qe_op q_add (qe_callTy q_tuple rfl mt b_tuple (qa_cons (qe_var 2 rfl (.inl rfl)) qa_nil)) (qe_tup (qa_cons (qe_tup (qa_cons (qe_ix q_ix (qe_ix q_ix (qe_var 1 rfl (.inr (.inl rfl))) qe_int (fun _ _ => rfl)) qe_int (fun _ _ => rfl)) (qa_cons (qe_op q_add (qe_ix q_ix (qe_ix q_ix (qe_var 1 rfl (.inr (.inl rfl))) qe_int (fun _ _ => rfl)) qe_int (fun _ _ => rfl)) (qe_var 3 rfl (.inl rfl))) qa_nil))) qa_nil))) (qe_slice (qe_var 1 rfl (.inr (.inl rfl))) (qo_some qe_int) qo_none))) qss_nil))))
  · rintro ws G q e ⟨a, b, rfl, hx, hy, hl, hl2, hq⟩
    have hd := tup_dep b
    refine seqU fun U hU => ?_
    walk_at "R"
    refine ⟨tup_flat b, by (clear F F1 ms mt nd hr hx hl hl2 hq hU; omega), ?_⟩
    rw [tup_nil_eq]
    cases b with
    | z =>
      rw [if_pos (by simp)]
      exact GLe.done hq
    | c e n r =>
      rw [if_neg (by simp)]
      simp only [O.len] at hl2
      have hde : e.dp ≤ 50 := by simp only [O.dp] at hy; (clear F F1 ms mt nd hr hx hl hU hl2 hq hd; omega)
      subst hU
      have e1 : cutW (W.tup [W.tup (encP e), W.int n] :: encP r) (some 1) none = encP r := by rw [show (1 : Int) = ((1 : Nat) : Int) from rfl, cut_from]; rfl
      rw [encP_c]
      unfold prt enc
      refine seqU fun U hU => ?_
      walk_at "R"
      show compW _ _ _ _ _ [none, none, none, some (W.tup (W.tup [W.tup (encP e), W.int n] :: encP r))] G [] _
      refine comp_enc (fun x _ => decide (0 < O.cmp x e)) prt trivial (allP_dp a) (fun y m hy k hk => ?_) (fun y m _ _ k hk => ?_) (by simp; exact Nat.le_trans (by assumption) (Nat.le_of_ble_eq_true rfl)) (fun _ => rfl) fun p1 hp1 => ?_
      · unfold prt enc
        walk_at "R"
        refine ⟨y, e, rfl, by (clear F F1 ms mt nd hr hl hl2 hq hd hde e1 hU hk; omega), ?_⟩
        walk_at "R"
        have : decide (O.cmp y e = 1) = decide (0 < O.cmp y e) := by
          rcases O.cmp_range y e with h | h | h <;> simp [h]
        rw [this]
        exact hk
      · walk_at "R"
        exact hk
      subst hU
      rw [List.nil_append, mapP_prt]
      have g1 := updG_same (G := G) (a := p1) (g := GO.lst (encP (O.filt (fun x _ => decide (0 < O.cmp x e)) a)))
      have le : GLe G (updG G p1 (GO.lst (encP (O.filt (fun x _ => decide (0 < O.cmp x e)) a)))) := GLe.new hp1
      generalize updG G p1 (GO.lst (encP (O.filt (fun x _ => decide (0 < O.cmp x e)) a))) = G1 at g1 le ⊢
      refine seqU fun U hU => ?_
      walk_at "R"
      show compW _ _ _ _ _ [none, none, some (W.tup (W.tup [W.tup (encP e), W.int n] :: encP r))] _ [] _
      refine comp_enc (fun x _ => decide (x = e)) (fun _ n => .int n) trivial (allP_dp a) (fun y m hy k hk => ?_) (fun y m _ _ k hk => ?_) (by simp; exact Nat.le_trans (by assumption) (Nat.le_of_ble_eq_true rfl)) (fun _ => rfl) fun p2 hp2 => ?_
      · unfold prt enc
        walk_at "R"
        have := tup_dep y
        refine ⟨tup_flat y, tup_flat e, by (clear F F1 ms mt nd hr hl hl2 hq hd hde e1 hp1 g1 le hU hk; omega), ?_⟩
        rw [tup_eq]
        exact hk
      · unfold prt enc
        walk_at "R"
        exact hk
      obtain ⟨ns, h1, h2⟩ := mapP_same e a
      rw [List.nil_append, h1]
      refine ⟨ns, updG_same, ?_⟩
      subst hU
      rw [h2]
      have k1 := updG_ne' (g := GO.lst (ns.map W.int)) g1 hp2
      have le2 : GLe G (updG G1 p2 (GO.lst (ns.map W.int))) := le.trans (GLe.new hp2)
      generalize updG G1 p2 (GO.lst (ns.map W.int)) = G2 at k1 le2 ⊢
      have l1 := len_filt (fun x _ => decide (0 < O.cmp x e)) a
      walk_at "R"
      rw [e1]
      refine ⟨_, k1, by rw [encP_length]; (clear F F1 ms mt nd hr hx hy hl2 hq hd hde e1 hp1 g1 le hp2 h1 h2 k1 le2; omega), by rw [List.length_append, encP_length, encP_length]; simp; (clear F F1 ms mt nd hr hx hy hq hd hde e1 hp1 g1 le hp2 h1 h2 k1 le2; omega), G, le2, ?_⟩
      rw [O.plus_c, encP_app, encP_c, Int.add_comm] at hq
      rw [List.append_assoc]
      exact hq
noncomputable def bumpL : O → O
  | .z => .z
  | .c e n .z => .c e (n + 1) .z
  | .c e n r => .c e n (bumpL r)
theorem bump_lt {x : O} : ∀ {a : O}, O.Lt x a → O.Lt x (bumpL a)
  | .z, _ => trivial
  | .c _ _ .z, h => h
  | .c e n (.c e' n' r'), h => by
    have e0 : bumpL (.c e n (.c e' n' r')) = .c e n (bumpL (.c e' n' r')) := by simp [bumpL]
    rw [e0]
    exact ⟨h.1, bump_lt h.2⟩
theorem bump_nf : ∀ {a : O}, a.NF → (bumpL a).NF
  | .z, _ => trivial
  | .c _ _ .z, h => ⟨h.1, by have := h.2.1; (clear h; omega), trivial, trivial⟩
  | .c e n (.c e' n' r'), h => by
    have e0 : bumpL (.c e n (.c e' n' r')) = .c e n (bumpL (.c e' n' r')) := by simp [bumpL]
    rw [e0]
    exact ⟨h.1, h.2.1, bump_lt h.2.2.1, bump_nf h.2.2.2⟩
theorem bump_more : ∀ a : O, (bumpL a).len = a.len ∧ (bumpL a).dp = a.dp ∧ (bumpL a).size = a.size ∧ O.mx (bumpL a) ≤ O.mx a + 1
  | .z => ⟨rfl, rfl, rfl, by show (0 : Int) ≤ 0 + 1; omega⟩
  | .c e n .z => by
    refine ⟨rfl, rfl, rfl, ?_⟩
    show O.mx (.c e (n + 1) .z) ≤ _
    have := O.mx_nonneg e
    rw [O.mx_c, O.mx_c]; simp only [O.mx]; (clear this; omega)
  | .c e n (.c e' n' r') => by
    have ih := bump_more (.c e' n' r')
    have e0 : bumpL (.c e n (.c e' n' r')) = .c e n (bumpL (.c e' n' r')) := by simp [bumpL]
    rw [e0]
    refine ⟨?_, ?_, ?_, ?_⟩
    · simp only [O.len] at ih ⊢; (clear e0; omega)
    · rw [O.dp, O.dp, ih.2.1]
    · rw [O.size, O.size, ih.2.2.1]
    · have := ih.2.2.2
      rw [O.mx_c, O.mx_c e]; (clear e0 this; omega)
theorem bump_enc : ∀ {a x : O} {n : Int}, O.last a = .c x n .z → encP (O.init a) ++ [prt x (n + 1)] = encP (bumpL a)
  | .z, _, _, h => by cases h
  | .c e m .z, x, n, h => by
    have : O.last (.c e m .z) = .c e m .z := rfl
    rw [this] at h
    injection h with h1 h2 _
    subst h1 h2
    rfl
  | .c e m (.c e' m' r'), x, n, h => by
    have e0 : O.last (.c e m (.c e' m' r')) = O.last (.c e' m' r') := by simp [O.last]
    rw [e0] at h
    have e1 : bumpL (.c e m (.c e' m' r')) = .c e m (bumpL (.c e' m' r')) := by simp [bumpL]
    have e2 : O.init (.c e m (.c e' m' r')) = .c e m (O.init (.c e' m' r')) := by simp [O.init]
    rw [e1, e2, encP_c, encP_c, ← bump_enc h]
    rfl
theorem bump_hw : ∀ a : O, O.hw (bumpL a) = O.hw a
  | .z => rfl
  | .c _ _ .z => rfl
  | .c e n (.c e' n' r') => by
    have ih := bump_hw (.c e' n' r')
    have hl := (bump_more (.c e' n' r')).1
    have e0 : bumpL (.c e n (.c e' n' r')) = .c e n (bumpL (.c e' n' r')) := by simp [bumpL]
    rw [e0, O.hw_c, O.hw_c e, ih, hl]
noncomputable def spN8 : WSp := fun ws G q _ => ∃ (a : O) (c : Int), ws = [.tup (encP a), .int c] ∧ a.NF ∧ a.dp ≤ 10 ∧ O.hw a ≤ 100 ∧ O.mx a ≤ 10 ^ 50 ∧ ∀ o : O, o.NF → o.dp ≤ max a.dp 1 → O.hw o ≤ O.hw a + 1 → O.mx o ≤ O.mx a + 10 ^ 20 + 1 → q (.tup (encP o)) G
theorem scN8 : FnScope ["_law_a", "_law_cell", "_law_way"] ["_law_a", "_law_cell"] (defScope (top 28)) := ⟨rfl, rfl, rfl, by decide +kernel, rfl, by decide +kernel, by decide +kernel⟩
theorem fnN8 (F : Fun K "_law_near" "_law_near" (top 28) f fd) (F1 : Fx P w K mg base "_law_plus" ["_law_a", "_law_b"] 61 spLp) : WFn P w K mg base 62 f fd ["_law_a", "_law_cell"] spN8 := by
  have nd := scN8.nd
  refine fn3 F scN8 (fun ws G q e h => by obtain ⟨_, _, rfl, _⟩ := h; rfl) (fun cdv A outer s H E hr => ?_)
  apply bodyOf
  · exact (qss_cons (qs_set 2 nd rfl (.inl rfl) (qe_op q_mod (qe_var 1 rfl (.inl rfl)) qe_int)) (qss_cons (qs_if (qt_w (qw_or (qt_cmp (q_eq4 hr) (qe_var 2 rfl (.inl rfl)) qe_int (nomark _)) (qw_or1 (qt_cmp (q_eq4 hr) (qe_var 0 rfl (.inl rfl)) (qe_tup qa_nil) (nomark _))))) (qss_cons (qs_ret (qe_fxn F1 (Room.mono hr (by omega)) rfl (qa_cons (qe_var 0 rfl (.inl rfl)) (qa_cons (qe_tup (qa_cons (qe_tup (qa_cons (qe_tup qa_nil) (qa_cons (qe_op q_add qe_int (qe_op q_mod (qe_op q_divB (qe_var 1 rfl (.inl rfl)) qe_int) (qe_op q_pow qe_int qe_int))) qa_nil))) qa_nil)) qa_nil)))) qss_nil) qss_nil) (qss_cons (qs_if (qt_cmp (q_eq4 hr) (qe_var 2 rfl (.inl rfl)) qe_int (nomark _)) (qss_cons (qs_ret (qe_slice (qe_var 0 rfl (.inl rfl)) qo_none (qo_some (qe_neg qe_int)))) qss_nil) qss_nil) (qss_cons (qs_if (qt_cmp (q_eq4 hr) (qe_var 2 rfl (.inl rfl)) qe_int (nomark _)) (qss_cons (qs_ret (qe_op q_add (qe_slice (qe_var 0 rfl (.inl rfl)) qo_none (qo_some (qe_neg qe_int))) (qe_tup (qa_cons (qe_tup (qa_cons (qe_ix q_ix (qe_ix q_ix (qe_var 0 rfl (.inl rfl)) (qe_neg qe_int) (fun _ _ => rfl)) qe_int (fun _ _ => rfl)) (qa_cons (qe_op q_add (qe_ix q_ix (qe_ix q_ix (qe_var 0 rfl (.inl rfl)) (qe_neg qe_int) (fun _ _ => rfl)) qe_int (fun _ _ => rfl)) qe_int) qa_nil))) qa_nil)))) qss_nil) qss_nil) (qss_cons (qs_if (qt_cmp (q_eq4 hr) (qe_var 2 rfl (.inl rfl)) qe_int (nomark _)) (qss_cons (qs_ret (qe_op q_add (qe_tup (qa_cons (qe_tup (qa_cons (qe_ix q_ix (qe_ix q_ix (qe_var 0 rfl (.inl rfl)) qe_int (fun _ _ => rfl)) qe_int (fun _ _ => rfl)) (qa_cons (qe_op q_add (qe_ix q_ix (qe_ix q_ix (qe_var 0 rfl (.inl rfl)) qe_int (fun _ _ => rfl)) qe_int (fun _ _ => rfl)) qe_int) qa_nil))) qa_nil)) (qe_slice (qe_var 0 rfl (.inl rfl)) (qo_some qe_int) qo_none))) qss_nil) qss_nil) (qss_cons (qs_ret (qe_slice (qe_var 0 rfl (.inl rfl)) (qo_some qe_int) qo_none)) qss_nil))))))
  · rintro ws G q e0 ⟨a, c, rfl, na, da, za, ma, hq⟩
    have la := O.len_le_hw a
    have hda := tup_dep a
    refine seqU fun U hU => ?_
    walk_at "R"
    subst hU
    refine seqU fun U hU => ?_
    walk_at "R"
    have first : ∀ k : Int → Prop, ∃ x y : O, [W.tup (encP a), W.tup [W.tup [W.tup [], W.int (1 + c / 5 % 100000000000000000000)]]] = [.tup (encP x), .tup (encP y)] ∧ x.dp ≤ 50 ∧ y.dp ≤ 50 ∧ x.len ≤ 5000 ∧ y.len ≤ 5000 ∧ ∃ G0, GLe G0 G ∧ q (.tup (encP (O.plusO x y))) G0 := fun _ => by
      refine ⟨a, .c .z (1 + c / 5 % 100000000000000000000) .z, rfl, by exact Nat.le_trans (by assumption) (Nat.le_of_ble_eq_true rfl), by simp [O.dp], by (clear F F1 nd hr na da ma hq hda hU; omega), by simp [O.len], GLe.done (hq _ (na.plus ⟨trivial, by (clear F F1 nd hr na da za ma hq la hda hU; omega), trivial, trivial⟩) ?_ ?_ ?_)⟩
      · have := O.dp_plus a (.c .z (1 + c / 5 % 100000000000000000000) .z); simp only [O.dp] at this; assumption
      · have := O.hw_plus a (.c .z (1 + c / 5 % 100000000000000000000) .z); rw [O.hw_c] at this; simp only [O.len, O.hw] at this; assumption
      · have := O.mx_plus (b := .c .z (1 + c / 5 % 100000000000000000000) .z) na; rw [O.mx_c] at this; simp only [O.mx] at this; (clear F F1 nd hr na da za ma hq la hda hU; omega)
    split
    · exact first fun _ => True
    · refine ⟨tup_flat a, by (clear F F1 nd hr na za ma hq la hU first; omega), ?_⟩
      rw [tup_nil_eq]
      by_cases hz : a = .z
      · rw [if_pos (by simpa using hz)]
        exact first fun _ => True
      · rw [if_neg (by simpa using hz)]
        obtain ⟨x, n, hl1, hl2⟩ := last_c hz
        have hat := encP_at_last hl2
        subst hU
        refine seqU fun U hU => ?_
        walk_at "R"
        split
        · rw [cut_init]
          refine GLe.done (hq _ na.init ?_ ?_ ?_)
          · have h : ∀ a : O, (O.init a).dp ≤ a.dp := fun a => by rw [← take_init]; exact (dp_td _ a).1
            have := h a; (clear F F1 nd hr na za ma hq la hda first hz hl1 hl2 hat hU h; omega)
          · have := O.hw_take (a.len - 1) a; rw [take_init] at this; (clear F F1 nd hr na da za ma hq la hda first hz hl1 hl2 hat hU; omega)
          · have := O.mx_init a; (clear F F1 nd hr na da za ma hq la hda first hz hl1 hl2 hat hU; omega)
        · subst hU
          refine seqU fun U hU => ?_
          unfold prt enc at hat
          walk_at "R"
          split
          · refine ⟨_, hat, ?_⟩
            walk_at "R"
            refine ⟨_, hat, ?_⟩
            walk_at "R"
            rw [cut_init]
            have hb := bump_more a
            have hini : (O.init a).len ≤ a.len := by rw [← take_init]; have := len_td (a.len - 1) a; (clear F F1 nd hr na da za ma hq la hda first hz hl1 hl2 hat hU; omega)
            refine ⟨by rw [encP_length]; (clear F F1 nd hr na da ma hq hda first hz hl1 hl2 hat hU; omega), GLe.done ?_⟩
            have := bump_enc hl1
            unfold prt enc at this
            rw [this]
            have hbw := bump_hw a
            exact hq _ (bump_nf na) (by (clear F F1 nd hr na za ma hq la hda first hz hl1 hl2 hat hU hini this hbw; omega)) (by (clear F F1 nd hr na da za ma hq la hda first hz hl1 hl2 hat hU hb hini this; omega)) (by (clear F F1 nd hr na da za ma hq la hda first hz hl1 hl2 hat hU hini this hbw; omega))
          · subst hU
            refine seqU fun U hU => ?_
            cases a with
            | z => exact absurd rfl hz
            | c e m r =>
              have e1 : cutW (W.tup [W.tup (encP e), W.int m] :: encP r) (some 1) none = encP r := by rw [show (1 : Int) = ((1 : Nat) : Int) from rfl, cut_from]; rfl
              have hm := na.2.1
              have hr0 := O.mx_nonneg r
              simp only [O.dp, O.len] at da la
              have za' := za
              rw [O.hw_c] at za'
              have lr := O.len_le_hw r
              rw [O.mx_c] at ma
              rw [encP_c]
              unfold prt enc
              walk_at "R"
              split
              · rw [e1]
                refine ⟨by rw [encP_length]; (clear F F1 nd hr hU na da ma hq hda first hz hl1 hl2 hat e1 hm hr0 za' lr; omega), GLe.done (hq (.c e (m + 1) r) ⟨na.1, by (clear F F1 nd hr hU na da za ma hq la hda first hz hl1 hl2 hat e1 hr0 za' lr; omega), na.2.2.1, na.2.2.2⟩ ?_ ?_ ?_)⟩
                · simp only [O.dp]; (clear F F1 nd hr hU na da za ma hq la hda first hz hl1 hl2 hat e1 hm hr0 za' lr; omega)
                · exact Nat.le_succ _
                · rw [O.mx_c, O.mx_c e m r]; (clear F F1 nd hr hU na da za ma hq la hda first hz hl1 hl2 hat e1 hm hr0 za'; omega)
              · subst hU
                walk_at "R"
                rw [e1]
                exact GLe.done (hq r na.2.2.2 (by simp only [O.dp]; (clear F F1 nd hr na da za ma hq la hda first hz hl1 hl2 hat e1 hm hr0 za'; omega)) (by rw [O.hw_c]; (clear F F1 nd hr na da za ma hq la hda first hz hl1 hl2 hat e1 hm hr0 za' lr; omega)) (by rw [O.mx_c]; (clear F F1 nd hr na da za ma hq la hda first hz hl1 hl2 hat e1 hm hr0 za'; omega)))
noncomputable def encL (l : List (Int × Int)) : List W := l.map fun p => .tup [.int p.1, .int p.2]
noncomputable abbrev GA := Gr × Addr
noncomputable def grW (x : GA) : W := .tup [.tup (encP x.1.1), .ref x.2]
structure Gs (G : Gp) (p : Addr) (L : List GA) (G' : Gp) : Prop where
  le : GLe G G'
  at_p : G' p = some (.lst (L.map grW))
  fp : G p = none
  ls : ∀ x, x ∈ L → G' x.2 = some (.lst (encL x.1.2))
  fr : ∀ x, x ∈ L → G x.2 = none
  ne : ∀ x, x ∈ L → x.2 ≠ p
  nd : (L.map (·.2)).Nodup
theorem Gs.mono {G : Gp} {p : Addr} {L : List GA} {G1 G2 : Gp} (h : Gs G p L G1) (t : GLe G1 G2) : Gs G p L G2 := ⟨h.le.trans t, t _ _ h.at_p, h.fp, fun x hx => t _ _ (h.ls x hx), h.fr, h.ne, h.nd⟩
theorem Gs.grow {G : Gp} {p d : Addr} {L : List GA} {G1 : Gp} (h : Gs G p L G1) (x : O) (hd : G1 d = none) : Gs G p (L ++ [((x, []), d)]) (updG (updG G1 d (.lst [])) p (.lst (L.map grW ++ [.tup [.tup (encP x), .ref d]]))) := by
  have hdp : d ≠ p := fun z => by rw [z, h.at_p] at hd; cases hd
  refine ⟨gle_put (h.le.trans (GLe.new hd)) h.fp, ?_, h.fp, fun y hy => ?_, fun y hy => ?_, fun y hy => ?_, ?_⟩
  · rw [updG_same, List.map_append]; rfl
  · rcases List.mem_append.mp hy with hy | hy
    · rw [updG_ne (h.ne y hy)]; exact updG_ne' (h.ls y hy) hd
    · rw [List.mem_singleton.mp hy, updG_ne hdp, updG_same]; rfl
  · rcases List.mem_append.mp hy with hy | hy
    · exact h.fr y hy
    · rw [List.mem_singleton.mp hy]; exact fresh_of h.le hd
  · rcases List.mem_append.mp hy with hy | hy
    · exact h.ne y hy
    · rw [List.mem_singleton.mp hy]; exact hdp
  · rw [List.map_append, List.nodup_append]
    refine ⟨h.nd, by simp, fun u hu v hv e => ?_⟩
    obtain ⟨y, hy, rfl⟩ := List.mem_map.mp hu
    simp only [List.map_cons, List.map_nil, List.mem_singleton] at hv
    have := h.ls y hy
    rw [e, hv, hd] at this
    cases this
noncomputable def gl (gs : List Gr) : Nat := (gs.map fun g => g.2.length).foldr (· + ·) 0
theorem gl_app (gs hs : List Gr) : gl (gs ++ hs) = gl gs + gl hs := by
  unfold gl
  induction gs with
  | nil => simp
  | cons g gs ih => simp only [List.cons_append, List.map_cons, List.foldr_cons] at ih ⊢; omega
theorem gl_inLast (p : Int × Int) : ∀ {gs : List Gr}, gs ≠ [] → gl (inLast gs p) = gl gs + 1
  | [], h => absurd rfl h
  | [g], _ => by simp [gl, inLast]
  | g :: h :: gs, _ => by
    have ih := gl_inLast p (gs := h :: gs) (by simp)
    show gl (g :: inLast (h :: gs) p) = gl (g :: h :: gs) + 1
    unfold gl at ih ⊢
    simp only [List.map_cons, List.foldr_cons] at ih ⊢
    omega
theorem app_NF_r : ∀ {p b : O}, O.NF (O.app p b) → O.NF b
  | .z, _, h => h
  | .c _ _ _, _, h => app_NF_r h.2.2.2
theorem EAll.app_r {P : O → Prop} : ∀ {p b : O}, EAll P (O.app p b) → EAll P b
  | .z, _, h => h
  | .c _ _ _, _, h => EAll.app_r h.2
theorem ofG_snoc (gs : List Gr) (g : Gr) : ofG (gs ++ [g]) = O.app (ofG gs) (ofL g.1 g.2 .z) := (app_ofG _ gs [g] rfl).symm
theorem ofG_more (gs : List Gr) (x : O) (l : List (Int × Int)) (p : Int × Int) : ofG (gs ++ [(x, l ++ [p])]) = O.app (ofG (gs ++ [(x, l)])) (.c (O.app x (O.wh p.1)) p.2 .z) := by
  rw [ofG_snoc, ofG_snoc]
  show O.app (ofG gs) (ofL x (l ++ [p]) .z) = O.app (O.app (ofG gs) (ofL x l .z)) _
  rw [O.app_assoc, app_ofL, ofL_snoc]
  rfl
noncomputable def spBy : WSp := fun ws G q _ => ∃ a : O, ws = [.tup (encP a)] ∧ a.NF ∧ a.dp ≤ 30 ∧ a.len ≤ 60 ∧ ∀ (p : Addr) (L : List GA) (G' : Gp), Gs G p L G' → ofG (L.map (·.1)) = a → Gg (L.map (·.1)) → L.length ≤ a.len → gl (L.map (·.1)) = a.len → (∀ x, x ∈ L → EAll (fun e => e.dp < a.dp ∧ e.hw ≤ a.hw ∧ O.mx e ≤ O.mx a) (.c x.1.1 1 .z)) → q (.ref p) G'
theorem scBy : FnScope ["a", "groups", "exponent", "many", "shared"] ["a"] (defScope (top 17)) := ⟨rfl, rfl, rfl, by decide +kernel, rfl, by decide +kernel, by decide +kernel⟩
theorem fnBy (F : Fun K "by_endless" "by_endless" (top 17) f fd) (F1 : Fx P w K mg base "without_whole" ["a"] 2 spWo) (F2 : Fx P w K mg base "whole_part" ["a"] 1 spWp) : WFn P w K mg base 6 f fd ["a"] spBy := by
  have nd := scBy.nd
  refine fn3 (k := 5) F scBy (fun ws G q e h => by obtain ⟨_, rfl, _⟩ := h; rfl) (fun cdv A outer s H E hr => ?_)
  apply bodyOf
  · refine' qss_cons ?s0 (qss_cons (qs_for PassesOwn.never rfl ?it ?tg (qss_cons ?s1 (qss_cons (qs_if (qt_w (qw_or (show QT _ _ (wTest (wOp rEqG _ _)) from qt_cmp (q_eqG hr) ?ta ?tb (nomark _)) (qw_or1 ?tc))) ?th ?el) ?s3))) ?s4)
    case s0 => exact (qs_set 1 nd rfl (.inl rfl) (qe_lst qa_nil))
    case it => exact (qi_seq (qe_var 0 rfl (.inl rfl)))
    case tg => exact (qg_tup rfl (qgs_cons (qg_name 2 nd rfl (.inl rfl)) (qgs_cons (qg_name 3 nd rfl (.inl rfl)) qgs_nil)))
    case s1 => exact (qs_set 4 nd rfl (.inl rfl) (qe_fxn F1 (Room.mono hr (by omega)) rfl (qa_cons (qe_var 2 rfl (.inl rfl)) qa_nil)))
    case ta => exact (qe_var 1 rfl (.inl rfl))
    case tb => exact (qe_lst qa_nil)
    case tc => exact (qt_cmp (q_ne4 hr) (qe_ix q_ix (qe_ix q_ix (qe_var 1 rfl (.inl rfl)) (qe_neg qe_int) (fun _ _ => rfl)) qe_int (fun _ _ => rfl)) (qe_var 4 rfl (.inl rfl)) (nomark _))
    case th => exact (qss_cons (qs_expr (qe_app (qe_var 1 rfl (.inl rfl)) (qe_tup (qa_cons (qe_var 4 rfl (.inl rfl)) (qa_cons (qe_lst qa_nil) qa_nil))))) qss_nil)
    case el => exact qss_nil
    case s3 => exact (qss_cons (qs_expr (qe_app (qe_ix q_ix (qe_ix q_ix (qe_var 1 rfl (.inl rfl)) (qe_neg qe_int) (fun _ _ => rfl)) qe_int (fun _ _ => rfl)) (qe_tup (qa_cons (qe_fxn F2 (Room.mono hr (by omega)) rfl (qa_cons (qe_var 2 rfl (.inl rfl)) qa_nil)) (qa_cons (qe_var 3 rfl (.inl rfl)) qa_nil))))) qss_nil)
    case s4 => exact (qss_cons (qs_ret (qe_var 1 rfl (.inl rfl))) qss_nil)
  · rintro ws G q e ⟨a, rfl, na, hda, hla, hq⟩
    refine seqU fun U hU => ?_
    walk_at "R"
    intro p hp
    subst hU
    refine seqU fun U hU => ?_
    walk_at "R"
    have hb : EAll (fun e => e.dp < a.dp ∧ e.hw ≤ a.hw ∧ O.mx e ≤ O.mx a) a := by
      cases hz : a.dp with
      | zero =>
        cases a with
        | z => trivial
        | c e n r => simp only [O.dp] at hz; (clear F F1 F2 nd hr hp hU na hda hla hq; omega)
      | succ k => exact (((dp_exps (k := k) (by (clear F F1 F2 nd hr na hda hla hq hp hU; omega))).both (hw_exps a)).both (mx_exps a)).mono fun e h => ⟨by have := h.1.1; (clear F F1 F2 nd hr na hda hla hq hp hU hz this; omega), h.1.2, h.2⟩
    refine loopW_ind (fun ws τ G' => ∃ (pre t : O) (L : List GA) (t2 t3 t4 : Option W), ws = encP t ∧ O.app pre t = a ∧ τ = [some (.tup (encP a)), some (.ref p), t2, t3, t4] ∧ Gs G p L G' ∧ ofG (L.map (·.1)) = pre ∧ Gg (L.map (·.1)) ∧ L.length ≤ pre.len ∧ gl (L.map (·.1)) = pre.len ∧ (∀ x, x ∈ L → EAll (fun e => e.dp < a.dp ∧ e.hw ≤ a.hw ∧ O.mx e ≤ O.mx a) (.c x.1.1 1 .z))) ?_ ?_ _ _ _
      ⟨.z, a, [], none, none, none, rfl, rfl, rfl, ⟨GLe.new hp, updG_same, hp, (fun _ h => (nomatch h)), (fun _ h => (nomatch h)), (fun _ h => (nomatch h)), by simp⟩, rfl, ⟨(fun _ h => (nomatch h)), fun _ h => (nomatch h)⟩, Nat.zero_le _, rfl, fun _ h => (nomatch h)⟩
    · rintro τ G' ⟨pre, t, L, t2, t3, t4, hw, ha, rfl, hG, ho, hg, hl, hgl, hbd⟩
      refine ⟨trivial, ?_⟩
      have ht : t = .z := by
        cases t with
        | z => rfl
        | c _ _ _ => cases hw
      subst ht
      rw [O.app_z] at ha
      subst ha
      subst hU
      walk_at "R"
      exact ⟨G', GLe.refl _, hq p L G' hG ho hg hl hgl hbd⟩
    · rintro w1 ws τ G' kk ⟨pre, t, L, t2, t3, t4, hw, ha, rfl, hG, ho, hg, hl, hgl, hbd⟩ hk
      cases t with
      | z => cases hw
      | c e n r =>
        rw [encP_c] at hw
        cases hw
        refine ⟨trivial, ?_⟩
        have nt : O.NF (.c e n r) := by rw [← ha] at na; exact app_NF_r na
        have bt : e.dp < a.dp ∧ e.hw ≤ a.hw ∧ O.mx e ≤ O.mx a := by rw [← ha] at hb ⊢; exact (EAll.app_r hb).1
        have hlen : pre.len + (r.len + 1) = a.len := by rw [← ha, O.len_app]; rfl
        have lm : (O.lim e).dp ≤ e.dp := O.dp_filt _ e
        have lw : O.hw (O.lim e) ≤ O.hw e := O.hw_filt _ e
        have lx : O.mx (O.lim e) ≤ O.mx e := O.mx_filt _ e
        unfold prt enc
        simp only [hTup, hCons, hNil, hName, List.set_cons_succ, List.set_cons_zero]
        refine ⟨rfl, ?_⟩
        refine seqU fun U1 hU1 => ?_
        walk_at "R"
        refine ⟨e, rfl, nt.1, by (clear F F1 F2 nd hr na hla hq hp hU hb hG ho hg hl hgl hbd ha hk nt hlen lm lw lx hU1; omega), ?_⟩
        subst hU1
        refine seqU fun U1 hU1 => ?_
        have fin : ∀ (L1 : List GA) (d : Addr) (l : List (Int × Int)) (G1 : Gp), Gs G p (L1 ++ [((O.lim e, l), d)]) G1 → ofG ((L1 ++ [((O.lim e, l), d)]).map (·.1)) = pre → Gg ((L1 ++ [((O.lim e, l), d)]).map (·.1)) → L1.length + 1 ≤ pre.len + 1 → gl ((L1 ++ [((O.lim e, l), d)]).map (·.1)) = pre.len → l.length ≤ 60 → (∀ x, x ∈ L1 → EAll (fun e => e.dp < a.dp ∧ e.hw ≤ a.hw ∧ O.mx e ≤ O.mx a) (.c x.1.1 1 .z)) → U1 { nx := kk, ct := kk, bk := U { nx := fun x G1 => ∃ G0, GLe G0 G1 ∧ q W.non G0, rt := fun w G1 => ∃ G0, GLe G0 G1 ∧ q w G0 }, rt := fun w G1 => ∃ G0, GLe G0 G1 ∧ q w G0 } [some (.tup (encP a)), some (.ref p), some (.tup (encP e)), some (.int n), some (.tup (encP (O.lim e)))] G1 := fun L1 d l G1 hG1 ho1 hg1 hl1 hgl1 hll hbd1 => by
          have hd := hG1.ls ((O.lim e, l), d) (List.mem_append_right _ List.mem_cons_self)
          have hat : atI ((L1 ++ [((O.lim e, l), d)]).map grW) (-1) = some (grW ((O.lim e, l), d)) := atI_neg1 (by rw [List.length_map, List.getElem?_map, List.length_append]; simp)
          subst hU1
          walk_at "R"
          refine ⟨_, _, hG1.at_p, hat, ?_⟩
          unfold grW
          walk_at "R"
          refine ⟨⟨_, hd⟩, e, rfl, nt.1, by omega, _, hd, by unfold encL; rw [List.length_map]; show l.length ≤ _; exact Nat.le_trans (by assumption) (Nat.le_of_ble_eq_true rfl), ?_⟩
          have e1 : encL l ++ [W.tup [W.int (O.same .z e), W.int n]] = encL (l ++ [(O.same .z e, n)]) := by unfold encL; rw [List.map_append]; rfl
          have hpd : p ≠ d := fun z => hG1.ne _ (List.mem_append_right _ List.mem_cons_self) z.symm
          have nd1 := hG1.nd
          rw [List.map_append, List.nodup_append] at nd1
          show kk _ (updG G1 d (GO.lst (encL l ++ [W.tup [W.int (O.same .z e), W.int n]])))
          rw [e1]
          have n0 := O.same_nonneg .z nt.1
          refine hk _ _ ⟨O.app pre (.c e n .z), r, L1 ++ [((O.lim e, l ++ [(O.same .z e, n)]), d)], _, _, _, rfl, ?_, rfl, ⟨gle_put hG1.le (hG1.fr _ (List.mem_append_right _ List.mem_cons_self)), ?_, hG1.fp, fun x hx => ?_, fun x hx => ?_, fun x hx => ?_, ?_⟩, ?_, ⟨fun g hg => ?_, fun g hg => ?_⟩, ?_, ?_, fun x hx => ?_⟩
          · rw [O.app_assoc]; exact ha
          · rw [updG_ne hpd, hG1.at_p]
            congr 2
            rw [List.map_append, List.map_append]
            rfl
          · rcases List.mem_append.mp hx with hx | hx
            · rw [updG_ne (fun z => nd1.2.2 x.2 (List.mem_map.mpr ⟨x, hx, rfl⟩) d (by simp) z)]
              exact hG1.ls x (List.mem_append_left _ hx)
            · rw [List.mem_singleton.mp hx, updG_same]
          · rcases List.mem_append.mp hx with hx | hx
            · exact hG1.fr x (List.mem_append_left _ hx)
            · rw [List.mem_singleton.mp hx]; exact hG1.fr ((O.lim e, l), d) (List.mem_append_right _ List.mem_cons_self)
          · rcases List.mem_append.mp hx with hx | hx
            · exact hG1.ne x (List.mem_append_left _ hx)
            · rw [List.mem_singleton.mp hx]; exact hpd.symm
          · have := hG1.nd
            rw [List.map_append] at this ⊢
            exact this
          · rw [List.map_append] at ho1 ⊢
            show ofG (L1.map (·.1) ++ [(O.lim e, l ++ [(O.same .z e, n)])]) = _
            rw [ofG_more, show ofG (L1.map (·.1) ++ [(O.lim e, l)]) = pre from ho1]
            show O.app pre (.c (O.app (O.lim e) (O.wh (O.same .z e))) n .z) = _
            rw [app_lim nt.1]
          · rw [List.map_append] at hg
            rcases List.mem_append.mp hg with hg | hg
            · exact hg1.nw g (by rw [List.map_append]; exact List.mem_append_left _ hg)
            · rw [List.mem_singleton.mp hg]; exact lim_nw nt.1
          · rw [List.map_append] at hg
            rcases List.mem_append.mp hg with hg | hg
            · exact hg1.nn g (by rw [List.map_append]; exact List.mem_append_left _ hg)
            · rw [List.mem_singleton.mp hg]
              intro pr hpr
              rcases List.mem_append.mp hpr with hpr | hpr
              · exact hg1.nn (O.lim e, l) (by rw [List.map_append]; exact List.mem_append_right _ (by simp)) pr hpr
              · rw [List.mem_singleton.mp hpr]; exact ⟨n0, nt.2.1⟩
          · rw [List.length_append, O.len_app]; simp only [List.length_cons, List.length_nil, O.len]; assumption
          · rw [List.map_append, gl_app] at hgl1 ⊢
            rw [O.len_app]
            simp only [gl, List.map_cons, List.map_nil, List.foldr_cons, List.foldr_nil, List.length_append, List.length_cons, List.length_nil, O.len] at hgl1 ⊢
            omega
          · rcases List.mem_append.mp hx with hx | hx
            · exact hbd1 x hx
            · rw [List.mem_singleton.mp hx]; exact ⟨⟨by show (O.lim e).dp < _; omega, by show O.hw (O.lim e) ≤ _; omega, by show O.mx (O.lim e) ≤ _; omega⟩, trivial⟩
        walk_at "R"
        intro p1 hp1
        refine ⟨_, EqX.nil (updG_ne' hG.at_p hp1) updG_same, ?_⟩
        have hG1 : Gs G p L (updG G' p1 (GO.lst [])) := hG.mono (GLe.new hp1)
        generalize updG G' p1 (GO.lst []) = G1 at hG1 ⊢
        have put : (∃ xs, G1 p = some (GO.lst xs)) ∧ ∀ (d : Addr), G1 d = none → ∃ ys, updG G1 d (GO.lst []) p = some (GO.lst ys) ∧ ys.length ≤ 99999 ∧ U1 { nx := kk, ct := kk, bk := U { nx := fun x G1 => ∃ G0, GLe G0 G1 ∧ q W.non G0, rt := fun w G1 => ∃ G0, GLe G0 G1 ∧ q w G0 }, rt := fun w G1 => ∃ G0, GLe G0 G1 ∧ q w G0 } [some (.tup (encP a)), some (.ref p), some (.tup (encP e)), some (.int n), some (.tup (encP (O.lim e)))] (updG (updG G1 d (GO.lst [])) p (GO.lst (ys ++ [W.tup [W.tup (encP (O.lim e)), W.ref d]]))) := by
          refine ⟨⟨_, hG1.at_p⟩, fun d hd => ⟨_, updG_ne' hG1.at_p hd, by rw [List.length_map]; omega, ?_⟩⟩
          refine fin L d [] _ (hG1.grow (O.lim e) hd) ?_ ⟨fun g hg => ?_, fun g hg => ?_⟩ (by omega) ?_ (Nat.zero_le _) hbd
          · rw [List.map_append]
            show ofG (L.map (·.1) ++ [(O.lim e, [])]) = pre
            rw [ofG_snoc, ho]
            exact O.app_z _
          · rw [List.map_append] at hg
            rcases List.mem_append.mp hg with hg | hg
            · exact (by assumption : Gg (L.map (·.1))).nw g hg
            · rw [List.mem_singleton.mp hg]; exact lim_nw nt.1
          · rw [List.map_append] at hg
            rcases List.mem_append.mp hg with hg | hg
            · exact (by assumption : Gg (L.map (·.1))).nn g hg
            · rw [List.mem_singleton.mp hg]; exact fun _ h => (nomatch h)
          · rw [List.map_append, gl_app, hgl]; rfl
        rcases List.eq_nil_or_concat L with hL | ⟨L1, x, hL⟩
        · rw [if_pos (by rw [hL]; rfl)]
          exact put
        · rw [List.concat_eq_append] at hL
          rw [if_neg (by rw [hL]; simp)]
          have hat : atI (L.map grW) (-1) = some (grW x) := atI_neg1 (by rw [hL, List.length_map, List.getElem?_map, List.length_append]; simp)
          refine ⟨_, _, hG1.at_p, hat, ?_⟩
          have hx := (hbd x (by rw [hL]; exact List.mem_append_right _ List.mem_cons_self)).1
          have dx := tup_dep x.1.1
          unfold grW
          walk_at "R"
          refine ⟨tup_flat _, tup_flat (O.lim e), by omega, ?_⟩
          have te : (W.tup (encP x.1.1)).eq (W.tup (encP (O.lim e))) = decide (x.1.1 = O.lim e) := tup_eq _ _
          rw [te]
          by_cases hxe : x.1.1 = O.lim e
          · rw [if_neg (by simpa using hxe)]
            obtain ⟨⟨x1, l⟩, d⟩ := x
            simp only at hxe
            subst hxe
            rw [hL] at hG1 ho hg hgl hl
            refine fin L1 d l G1 hG1 ho hg (by rw [List.length_append] at hl; simp only [List.length_cons, List.length_nil] at hl; omega) hgl ?_ fun y hy => hbd y (by rw [hL]; exact List.mem_append_left _ hy)
            rw [List.map_append, gl_app] at hgl
            simp only [gl, List.map_cons, List.map_nil, List.foldr_cons, List.foldr_nil] at hgl
            omega
          · rw [if_pos (by simpa using hxe)]
            exact put
noncomputable def iv (l : List (Int × Int)) : List (Key × W) := l.map fun p => (.inl p.1, .int p.2)
theorem iv_val (l : List (Int × Int)) (k : Int) : valW (iv l) (.inl k) = (getL l k).map W.int := by
  unfold valW iv getL
  induction l with
  | nil => rfl
  | cons p l ih =>
    rw [List.map_cons, List.find?_cons, List.find?_cons]
    by_cases e : p.1 = k
    · simp [e]
    · have : ¬ (Sum.inl p.1 : Key) = .inl k := fun z => e (Sum.inl.inj z)
      simp only [this, e, decide_false]
      exact ih
theorem iv_put (l : List (Int × Int)) (k v : Int) : putD (iv l) (.inl k) (.int v) = iv (putL l k v) := by
  have ha : ((iv l).any fun kv => decide (kv.1 = (.inl k : Key))) = l.any fun p => decide (p.1 = k) := by
    unfold iv
    rw [List.any_map]
    congr 1
    funext p
    show decide ((Sum.inl p.1 : Key) = .inl k) = decide (p.1 = k)
    exact decide_eq_decide.mpr ⟨fun z => Sum.inl.inj z, fun z => by rw [z]⟩
  unfold putD putL
  rw [ha]
  by_cases h : (l.any fun p => decide (p.1 = k)) = true
  · rw [if_pos h, if_pos h]
    unfold iv
    rw [List.map_map, List.map_map]
    refine List.map_congr_left fun p _ => ?_
    show (if (Sum.inl p.1 : Key) = .inl k then _ else _) = _
    by_cases e : p.1 = k
    · rw [if_pos (by rw [e])]
      show _ = ((Sum.inl (if p.1 = k then (p.1, v) else p).1 : Key), W.int (if p.1 = k then (p.1, v) else p).2)
      rw [if_pos e]
    · rw [if_neg fun z => e (Sum.inl.inj z)]
      show _ = ((Sum.inl (if p.1 = k then (p.1, v) else p).1 : Key), W.int (if p.1 = k then (p.1, v) else p).2)
      rw [if_neg e]
  · rw [if_neg h, if_neg h]
    unfold iv
    rw [List.map_append]
    rfl
theorem iv_len (l : List (Int × Int)) : (iv l).length = l.length := List.length_map _
noncomputable def spWw : WSp := fun ws G q _ => ∃ (d s o : Addr) (l xs ys : List (Int × Int)), ws = [.ref d, .ref s, .ref o] ∧ G d = some (.dic (iv l)) ∧ G s = some (.lst (encL xs)) ∧ G o = some (.lst (encL ys)) ∧ Dl l ∧ (∀ p, p ∈ xs → 0 ≤ p.1 ∧ 1 ≤ p.2 ∧ p.2 ≤ 10 ^ 100) ∧ (∀ p, p ∈ ys → 0 ≤ p.1 ∧ 1 ≤ p.2 ∧ p.2 ≤ 10 ^ 100) ∧ l.length + xs.length * ys.length ≤ 1000 ∧
  ∀ l' : List (Int × Int), Dl l' → (∀ h, lsum h l' = lsum h l + lsum (fun n => lsum (fun m => h (n + m)) ys) xs) → l'.length ≤ l.length + xs.length * ys.length → q .non (updG G d (.dic (iv l')))
theorem scWw : FnScope ["found", "some", "others", "n", "many", "m", "more"] ["found", "some", "others"] (defScope (top 18)) := ⟨rfl, rfl, rfl, by decide +kernel, rfl, by decide +kernel, by decide +kernel⟩
theorem fnWw (F : Fun K "weave_wholes" "weave_wholes" (top 18) f fd) : WFn P w K mg base 6 f fd ["found", "some", "others"] spWw := by
  have nd := scWw.nd
  refine fn3 (k := 5) F scWw (fun ws G q e h => by obtain ⟨_, _, _, _, _, _, rfl, _⟩ := h; rfl) (fun cdv A outer s H E hr => ?_)
  apply bodyOf
  · refine' qss_one (qs_for PassesOwn.never rfl ?it ?tg (qss_one (qs_for PassesOwn.never rfl ?it2 ?tg2 (qss_one (qs_dputN (qe_op q_add (qe_dgetN ?g1 ?g2 ?g3) ?g4) ?d1 ?d2)))))
    case it => exact (qi_seq (qe_var 1 rfl (.inl rfl)))
    case tg => exact (qg_tup rfl (qgs_cons (qg_name 3 nd rfl (.inl rfl)) (qgs_cons (qg_name 4 nd rfl (.inl rfl)) qgs_nil)))
    case it2 => exact (qi_seq (qe_var 2 rfl (.inl rfl)))
    case tg2 => exact (qg_tup rfl (qgs_cons (qg_name 5 nd rfl (.inl rfl)) (qgs_cons (qg_name 6 nd rfl (.inl rfl)) qgs_nil)))
    case g1 => exact (qe_var 0 rfl (.inl rfl))
    case g2 => exact (qe_op q_add (qe_var 3 rfl (.inl rfl)) (qe_var 5 rfl (.inl rfl)))
    case g3 => exact qe_int
    case g4 => exact (qe_op q_mulB (qe_var 4 rfl (.inl rfl)) (qe_var 6 rfl (.inl rfl)))
    case d1 => exact (qe_var 0 rfl (.inl rfl))
    case d2 => exact (qe_op q_add (qe_var 3 rfl (.inl rfl)) (qe_var 5 rfl (.inl rfl)))
  · rintro ws G q e ⟨d, s, o, l, xs, ys, rfl, gd, gs, go, hl, hx, hy, hlen, hq⟩
    walk_at "R"
    refine ⟨_, gs, ?_⟩
    have hds : d ≠ s := fun z => by rw [z, gs] at gd; cases gd
    have hdo : d ≠ o := fun z => by rw [z, go] at gd; cases gd
    have inv0 : ∀ l', updG G d (.dic (iv l')) s = some (.lst (encL xs)) ∧ updG G d (.dic (iv l')) o = some (.lst (encL ys)) ∧ updG G d (.dic (iv l')) d = some (.dic (iv l')) := fun l' => ⟨by rw [updG_ne (Ne.symm hds)]; exact gs, by rw [updG_ne (Ne.symm hdo)]; exact go, updG_same⟩
    refine loopW_ind (fun ws τ G' => ∃ (i : Nat) (l' : List (Int × Int)) (t3 t4 t5 t6 : Option W), i ≤ xs.length ∧ ws = encL (xs.drop i) ∧ τ = [some (.ref d), some (.ref s), some (.ref o), t3, t4, t5, t6] ∧ G' = updG G d (.dic (iv l')) ∧ Dl l' ∧ (∀ h, lsum h l' = lsum h l + lsum (fun n => lsum (fun m => h (n + m)) ys) (xs.take i)) ∧ l'.length ≤ l.length + i * ys.length) ?_ ?_ _ _ _ ⟨0, l, none, none, none, none, Nat.zero_le _, rfl, rfl, ?_, hl, fun h => by simp [lsum], by (clear F nd hr gd gs go hl hx hy hlen hq hds hdo inv0; omega)⟩
    · rintro τ G' ⟨i, l', t3, t4, t5, t6, hi, hw, rfl, rfl, dl', hs, hll⟩
      have hin : i = xs.length := by
        rcases Nat.lt_or_ge i xs.length with h | h
        · rw [List.drop_eq_getElem_cons h] at hw; cases hw
        · (clear F nd hr gd gs go hl hx hy hlen hq hds hdo inv0 hw dl' hs hll; omega)
      subst hin
      refine ⟨(inv0 l').1, _, GLe.refl _, hq l' dl' (fun h => by have := hs h; rw [List.take_length] at this; exact this) hll⟩
    · rintro w1 ws τ G' kk ⟨i, l', t3, t4, t5, t6, hi, hw, rfl, rfl, dl', hs, hll⟩ hk
      have hlt : i < xs.length := by
        rcases Nat.lt_or_ge i xs.length with h | h
        · exact h
        · rw [List.drop_of_length_le h] at hw; cases hw
      rw [List.drop_eq_getElem_cons hlt] at hw
      obtain ⟨n, c, hxi⟩ : ∃ n c, xs[i] = (n, c) := ⟨_, _, rfl⟩
      have hx1 := hx (n, c) (by rw [← hxi]; exact List.getElem_mem hlt)
      have tk : xs.take (i + 1) = xs.take i ++ [(n, c)] := by rw [List.take_succ, List.getElem?_eq_getElem hlt, hxi]; rfl
      rw [hxi] at hw
      cases hw
      refine ⟨(inv0 l').1, ?_⟩
      simp only [hTup, hCons, hNil, hName, List.set_cons_succ, List.set_cons_zero]
      refine ⟨rfl, ?_⟩
      walk_at "R"
      refine ⟨_, (inv0 l').2.1, ?_⟩
      refine loopW_ind (fun ws τ G' => ∃ (j : Nat) (l2 : List (Int × Int)) (t5 t6 : Option W), j ≤ ys.length ∧ ws = encL (ys.drop j) ∧ τ = [some (.ref d), some (.ref s), some (.ref o), some (.int n), some (.int c), t5, t6] ∧ G' = updG G d (.dic (iv l2)) ∧ Dl l2 ∧ (∀ h, lsum h l2 = lsum h l' + c * lsum (fun m => h (n + m)) (ys.take j)) ∧ l2.length ≤ l'.length + j) ?_ ?_ _ _ _ ⟨0, l', _, _, Nat.zero_le _, rfl, rfl, rfl, dl', fun h => by simp [lsum], by (clear F nd hr gd gs go hl hx hy hlen hq hds hdo inv0 hi dl' hs hll hlt hxi hx1 tk hk; omega)⟩
      · rintro τ G' ⟨j, l2, t5, t6, hj, hw, rfl, rfl, d2, hs2, hl2⟩
        have hjn : j = ys.length := by
          rcases Nat.lt_or_ge j ys.length with h | h
          · rw [List.drop_eq_getElem_cons h] at hw; cases hw
          · omega
        subst hjn
        refine ⟨(inv0 l2).2.1, hk _ _ ⟨i + 1, l2, _, _, _, _, hlt, rfl, rfl, rfl, d2, fun h => ?_, ?_⟩⟩
        · have h1 := hs2 h
          have h2 := hs h
          rw [List.take_length] at h1
          rw [tk, lsum_app]
          simp only [lsum]
          omega
        · rw [Nat.add_mul]; omega
      · rintro w1 ws τ G' k2 ⟨j, l2, t5, t6, hj, hw, rfl, rfl, d2, hs2, hl2⟩ hk2
        have hlt2 : j < ys.length := by
          rcases Nat.lt_or_ge j ys.length with h | h
          · exact h
          · rw [List.drop_of_length_le h] at hw; cases hw
        rw [List.drop_eq_getElem_cons hlt2] at hw
        obtain ⟨m, b, hyj⟩ : ∃ m b, ys[j] = (m, b) := ⟨_, _, rfl⟩
        have hy1 := hy (m, b) (by rw [← hyj]; exact List.getElem_mem hlt2)
        have tk2 : ys.take (j + 1) = ys.take j ++ [(m, b)] := by rw [List.take_succ, List.getElem?_eq_getElem hlt2, hyj]; rfl
        rw [hyj] at hw
        cases hw
        refine ⟨(inv0 l2).2.1, ?_⟩
        simp only [hTup, hCons, hNil, hName, List.set_cons_succ, List.set_cons_zero]
        refine ⟨rfl, ?_⟩
        walk_at "R"
        have gdd := (inv0 l2).2.2
        have ev : (valW (iv l2) (Sum.inl (n + m))).getD (W.int 0) = W.int ((getL l2 (n + m)).getD 0) := by
          rw [iv_val]
          cases getL l2 (n + m) <;> rfl
        refine ⟨⟨_, gdd⟩, n + m, _, rfl, gdd, .inr (bigM (by have := hx1.2.1; have := hx1.2.2; omega) (by have := hy1.2.1; have := hy1.2.2; omega)), ?_⟩
        rw [ev]
        walk_at "R"
        refine ⟨d, n + m, _, rfl, rfl, gdd, by rw [iv_len]; have h1 : (i + 1) * ys.length ≤ xs.length * ys.length := Nat.mul_le_mul_right _ hlt; rw [Nat.add_mul, Nat.one_mul] at h1; omega, ?_⟩
        rw [iv_put, updG_twice]
        have g0 := getL_nn d2 (n + m)
        have cb := mul_one_le hx1.2.1 hy1.2.1
        refine hk2 _ _ ⟨j + 1, _, _, _, hlt2, rfl, rfl, rfl, d2.put (by have := hx1.1; have := hy1.1; omega) (by have : (1 : Int) ≤ c * b := cb; omega), fun h => ?_, ?_⟩
        · rw [lsum_put h d2.nd, hs2 h, tk2, lsum_app]
          simp only [lsum]
          rw [Int.mul_add, Int.add_zero, Int.mul_assoc]; omega
        · have := putL_len l2 (n + m) ((getL l2 (n + m)).getD 0 + c * b); omega
    · funext x
      unfold updG
      split
      · rename_i h; rw [h]; exact gd
      · rfl
noncomputable abbrev T3 := O × Addr × List (Int × Int)
noncomputable def grs (ps : List T3) : List Gr := ps.map fun t => (t.1, t.2.2)
noncomputable def cl (ps : List T3) : Nat := gl (grs ps)
structure Wt (P : Program) (w : World) (K : PySem.W.Frag) (G G3 : Gp) (d0 : Addr) (ps : List T3) (G' : Gp) : Prop where
  le : GLe G G'
  kp : ∀ x ls, G3 x = some (.lst ls) → G' x = some (.lst ls)
  f0 : G d0 = none
  at0 : G' d0 = some (dio P w K (ps.map fun t => (t.1, .ref t.2.1)))
  at_ : ∀ t, t ∈ ps → G' t.2.1 = some (.dic (iv t.2.2))
  fr : ∀ t, t ∈ ps → G t.2.1 = none
  nd : (ps.map (·.1)).Nodup
  na : (ps.map (·.2.1)).Nodup
  ok : ∀ t, t ∈ ps → Nw t.1 ∧ (t.1.dp ≤ 3 ∧ t.1.len ≤ 900) ∧ Dl t.2.2
section
variable {G G3 G' : Gp} {d0 : Addr} {ps ps1 ps2 : List T3}
theorem Wt.up (h : Wt P w K G G3 d0 ps G') {G'' : Gp} (t : GLe G' G'') : Wt P w K G G3 d0 ps G'' := ⟨h.le.trans t, fun x ls e => t _ _ (h.kp x ls e), h.f0, t _ _ h.at0, fun x hx => t _ _ (h.at_ x hx), h.fr, h.nd, h.na, h.ok⟩
theorem Wt.turn {x : O} {d : Addr} {l l' : List (Int × Int)} (h : Wt P w K G G3 d0 (ps1 ++ (x, d, l) :: ps2) G') (hl : Dl l') : Wt P w K G G3 d0 (ps1 ++ (x, d, l') :: ps2) (updG G' d (.dic (iv l'))) := by
  have hm : (x, d, l) ∈ ps1 ++ (x, d, l) :: ps2 := List.mem_append_right _ List.mem_cons_self
  have hd := h.at_ _ hm
  have hna := h.na
  rw [List.map_append, List.map_cons, List.nodup_append, List.nodup_cons] at hna
  refine ⟨gle_put h.le (h.fr _ hm), fun y ls e => ?_, h.f0, ?_, fun t ht => ?_, fun t ht => ?_, ?_, ?_, fun t ht => ?_⟩
  · rw [updG_ne (fun z => by have := h.kp y ls e; rw [z, hd] at this; cases this)]; exact h.kp y ls e
  · rw [updG_ne (fun z => by have := h.at0; rw [z, hd] at this; cases this), h.at0]
    congr 2
    rw [List.map_append, List.map_append]
    rfl
  · rcases List.mem_append.mp ht with ht | ht
    · rw [updG_ne (fun z => hna.2.2 t.2.1 (List.mem_map.mpr ⟨t, ht, rfl⟩) d List.mem_cons_self z)]
      exact h.at_ t (List.mem_append_left _ ht)
    · rcases List.mem_cons.mp ht with rfl | ht
      · exact updG_same
      · rw [updG_ne (fun z => hna.2.1.1 (by rw [← z]; exact List.mem_map.mpr ⟨t, ht, rfl⟩))]
        exact h.at_ t (List.mem_append_right _ (List.mem_cons_of_mem _ ht))
  · rcases List.mem_append.mp ht with ht | ht
    · exact h.fr t (List.mem_append_left _ ht)
    · rcases List.mem_cons.mp ht with rfl | ht
      · exact h.fr (x, d, l) hm
      · exact h.fr t (List.mem_append_right _ (List.mem_cons_of_mem _ ht))
  · have := h.nd
    rw [List.map_append, List.map_cons] at this ⊢
    exact this
  · have := h.na
    rw [List.map_append, List.map_cons] at this ⊢
    exact this
  · rcases List.mem_append.mp ht with ht | ht
    · exact h.ok t (List.mem_append_left _ ht)
    · rcases List.mem_cons.mp ht with rfl | ht
      · exact ⟨(h.ok _ hm).1, (h.ok _ hm).2.1, hl⟩
      · exact h.ok t (List.mem_append_right _ (List.mem_cons_of_mem _ ht))
theorem Wt.new {x : O} {d : Addr} (h : Wt P w K G G3 d0 ps G') (hd : G' d = none) (hx : x ∉ ps.map (·.1)) (nx : Nw x) (dx : x.dp ≤ 3 ∧ x.len ≤ 900) : Wt P w K G G3 d0 (ps ++ [(x, d, [])]) (updG (updG G' d (.dic [])) d0 (dio P w K ((ps.map fun t => (t.1, W.ref t.2.1)) ++ [(x, .ref d)]))) := by
  have hd0 : d ≠ d0 := fun z => by rw [z, h.at0] at hd; cases hd
  refine ⟨gle_put (h.le.trans (GLe.new hd)) h.f0, fun y ls e => ?_, h.f0, ?_, fun t ht => ?_, fun t ht => ?_, ?_, ?_, fun t ht => ?_⟩
  · have := h.kp y ls e
    rw [updG_ne (fun z => by rw [z, h.at0] at this; cases this)]
    exact updG_ne' this hd
  · rw [updG_same, List.map_append]; rfl
  · rcases List.mem_append.mp ht with ht | ht
    · have := h.at_ t ht
      rw [updG_ne (fun z => by rw [z, h.at0] at this; cases this)]
      exact updG_ne' this hd
    · rw [List.mem_singleton.mp ht, updG_ne hd0, updG_same]; rfl
  · rcases List.mem_append.mp ht with ht | ht
    · exact h.fr t ht
    · rw [List.mem_singleton.mp ht]; exact fresh_of h.le hd
  · rw [List.map_append, List.nodup_append]
    refine ⟨h.nd, by simp, fun u hu v hv e => ?_⟩
    simp only [List.map_cons, List.map_nil, List.mem_singleton] at hv
    exact hx (by rw [← hv, ← e]; exact hu)
  · rw [List.map_append, List.nodup_append]
    refine ⟨h.na, by simp, fun u hu v hv e => ?_⟩
    simp only [List.map_cons, List.map_nil, List.mem_singleton] at hv
    obtain ⟨t, ht, rfl⟩ := List.mem_map.mp hu
    have := h.at_ t ht
    rw [e, hv, hd] at this
    cases this
  · rcases List.mem_append.mp ht with ht | ht
    · exact h.ok t ht
    · rw [List.mem_singleton.mp ht]; exact ⟨nx, dx, by simp, fun _ h => (nomatch h)⟩
theorem valP_some {x : O} {v : W} (h : valO (ps.map fun t => (t.1, W.ref t.2.1)) x = some v) : ∃ ps1 ps2 d l, ps = ps1 ++ (x, d, l) :: ps2 ∧ v = .ref d := by
  have hm := valO_mem h
  obtain ⟨t, ht, e⟩ := List.mem_map.mp hm
  obtain ⟨ps1, ps2, rfl⟩ := List.append_of_mem ht
  injection e with e1 e2
  refine ⟨ps1, ps2, t.2.1, t.2.2, by rw [← e1], e2.symm⟩
theorem valP_none {x : O} (h : valO (ps.map fun t => (t.1, W.ref t.2.1)) x = none) : x ∉ ps.map (·.1) := fun hx => by
  obtain ⟨t, ht, e⟩ := List.mem_map.mp hx
  unfold valO at h
  have := List.find?_eq_none.mp (Option.map_eq_none_iff.mp h) _ (List.mem_map.mpr ⟨t, ht, rfl⟩)
  exact this (decide_eq_true e)
theorem valP_mem {x : O} {d : Addr} {l : List (Int × Int)} (h : (x, d, l) ∈ ps) (hn : (ps.map (·.1)).Nodup) : valO (ps.map fun t => (t.1, W.ref t.2.1)) x = some (.ref d) := by
  cases e : valO (ps.map fun t => (t.1, W.ref t.2.1)) x with
  | none => exact absurd (List.mem_map.mpr ⟨_, h, rfl⟩) (valP_none e)
  | some v =>
    obtain ⟨ps1, ps2, d', l', rfl, rfl⟩ := valP_some e
    rw [List.map_append, List.map_cons, List.nodup_append, List.nodup_cons] at hn
    rcases List.mem_append.mp h with h | h
    · exact absurd rfl (hn.2.2 x (List.mem_map.mpr ⟨_, h, rfl⟩) x List.mem_cons_self)
    · rcases List.mem_cons.mp h with h | h
      · injection h with _ h; injection h with h _; rw [h]
      · exact absurd (List.mem_map.mpr ⟨_, h, rfl⟩) hn.2.1.1
theorem gsum_mid (h : O → Int → Int) (x : O) (d : Addr) (l : List (Int × Int)) : gsum h (grs (ps1 ++ (x, d, l) :: ps2)) = gsum h (grs ps1) + lsum (h x) l + gsum h (grs ps2) := by
  unfold grs
  rw [List.map_append, gsum_app, List.map_cons]
  simp only [gsum]; omega
theorem cl_mid (x : O) (d : Addr) (l : List (Int × Int)) : cl (ps1 ++ (x, d, l) :: ps2) = cl ps1 + l.length + cl ps2 := by
  unfold cl grs
  rw [List.map_append, gl_app, List.map_cons]
  simp only [gl, List.map_cons, List.foldr_cons]; omega
theorem cl_mem {t : T3} (h : t ∈ ps) : t.2.2.length ≤ cl ps := by
  obtain ⟨x, d, l⟩ := t
  obtain ⟨ps1, ps2, rfl⟩ := List.append_of_mem h
  rw [cl_mid]; show l.length ≤ _; (clear h; omega)
end
theorem fold_snoc (f : Gr → Int) (l : List Gr) (g : Gr) : (l.map f ++ [g].map f).foldr (· + ·) 0 = (l.map f).foldr (· + ·) 0 + f g := by
  induction l with
  | nil => simp
  | cons x l ih => simp only [List.map_cons, List.cons_append, List.foldr_cons] at ih ⊢; omega
theorem dsum_snoc (h : O → Int → Int) (g : Gr) (hs : List Gr) : ∀ gs : List Gr, dsum h (gs ++ [g]) hs = dsum h gs hs + (hs.map (psum h g)).foldr (· + ·) 0
  | [] => by show _ + 0 = 0 + _; omega
  | k :: gs => by
    show _ + dsum h (gs ++ [g]) hs = _ + dsum h gs hs + _
    rw [dsum_snoc h g hs gs]; omega
theorem mx_ofL (x : O) (a : O) : ∀ {l : List (Int × Int)}, (∀ p, p ∈ l → p.2 ≤ O.mx (ofL x l a)) ∧ O.mx a ≤ O.mx (ofL x l a)
  | [] => ⟨(fun _ h => (nomatch h)), Int.le_refl _⟩
  | q :: l => by
    have ih := mx_ofL x a (l := l)
    have h1 : O.mx (ofL x (q :: l) a) = max q.2 (max (O.mx (O.app x (O.wh q.1))) (O.mx (ofL x l a))) := O.mx_c _ _ _
    refine ⟨fun p hp => ?_, by rw [h1]; have := ih.2; (clear h1 this; omega)⟩
    rcases List.mem_cons.mp hp with rfl | hp
    · rw [h1]; (clear ih h1 hp; omega)
    · rw [h1]; have := ih.1 p hp; (clear ih h1 hp; omega)
theorem mx_ofG : ∀ {gs : List Gr} {g : Gr} {p : Int × Int}, g ∈ gs → p ∈ g.2 → p.2 ≤ O.mx (ofG gs)
  | k :: gs, g, p, hg, hp => by
    rcases List.mem_cons.mp hg with rfl | hg
    · exact (mx_ofL g.1 (ofG gs)).1 p hp
    · exact Int.le_trans (mx_ofG hg hp) (mx_ofL k.1 (ofG gs)).2
noncomputable def spWv : WSp := fun ws G q _ => ∃ a b : O, ws = [.tup (encP a), .tup (encP b)] ∧ a.NF ∧ b.NF ∧ a.dp ≤ 4 ∧ b.dp ≤ 4 ∧ a.len ≤ 60 ∧ b.len ≤ 60 ∧ a.len * b.len ≤ 60 ∧ O.hw a ≤ 400 ∧ O.hw b ≤ 400 ∧ O.mx a ≤ 10 ^ 100 ∧ O.mx b ≤ 10 ^ 100 ∧ q (.tup (encP (wov a b))) G
theorem scWv : FnScope ["a", "b", "found", "others", "mine", "other", "parts", "exponent", "n"] ["a", "b"] (defScope (top 16)) := ⟨rfl, rfl, rfl, by decide +kernel, rfl, by decide +kernel, by decide +kernel⟩
theorem fnWv (F : Fun K "woven" "woven" (top 16) f fd) (F1 : Fx P w K mg base "by_endless" ["a"] 6 spBy) (F2 : Fx P w K mg base "weave_wholes" ["found", "some", "others"] 6 spWw) (F3 : Fx P w K mg base "merged" ["a", "b"] 2 spMg) (F4 : Fx P w K mg base "whole" ["n"] 3 spWl) (mt : mg "tuple" = none) (ms : mg "sorted" = none) : WFn P w K mg base 8 f fd ["a", "b"] spWv := by
  have nd := scWv.nd
  refine fn3 (k := 7) F scWv (fun ws G q e h => by obtain ⟨_, _, rfl, _⟩ := h; rfl) (fun cdv A outer s H E hr => ?_)
  apply bodyOf
  · refine' qss_cons (qs_set 2 (by assumption) rfl (by first | exact Or.inl rfl | exact Or.inr rfl) (show QE _ _ (wDicO P w K) from qe_dicO)) (qss_cons ?s1 (qss_cons (qs_for PassesOwn.never rfl ?it ?tg (qss_one (qs_for PassesOwn.never rfl ?it2 ?tg2 (qss_one (qs_expr (qe_fxn F2 (Room.mono hr (by (clear F F1 F2 F3 F4 mt ms nd hr; omega))) rfl (qa_cons (show QE _ _ (wSdf P w K _ _ _) from qe_sdf hr ?o ?k qe_dicN) (qa_cons ?m1 (qa_cons ?m2 qa_nil))))))))) (qss_cons ?s3 (qss_cons (qs_for PassesOwn.never rfl (qi_seq (show QE _ _ (wSortO64 P w K _) from qe_sortO64 hr rfl rfl ms ?sn)) ?tg3 (qss_one (qs_for PassesOwn.never rfl (qi_seq (qe_sortN rfl rfl ms (qe_ix (show QIx _ (rIxO P w K) from q_ixO hr) ?x1 ?x2 (fun _ _ => rfl)))) ?tg4 (qss_one (qs_expr (qe_app ?pa (qe_tup (qa_cons ?pe (qa_cons (qe_ix q_ixN (qe_ix (show QIx _ (rIxO P w K) from q_ixO hr) ?y1 ?y2 (fun _ _ => rfl)) ?y3 (fun _ _ => rfl)) qa_nil))))))))) ?s5))))
    case s1 => exact (qs_set 3 nd rfl (.inl rfl) (qe_fxn F1 (Room.mono hr (by omega)) rfl (qa_cons (qe_var 1 rfl (.inl rfl)) qa_nil)))
    case it => exact (qi_seq (qe_fxn F1 (Room.mono hr (by omega)) rfl (qa_cons (qe_var 0 rfl (.inl rfl)) qa_nil)))
    case tg => exact (qg_name 4 nd rfl (.inl rfl))
    case it2 => exact (qi_seq (qe_var 3 rfl (.inl rfl)))
    case tg2 => exact (qg_name 5 nd rfl (.inl rfl))
    case o => exact (qe_var 2 rfl (.inl rfl))
    case k => exact (qe_fxn F3 (Room.mono hr (by omega)) rfl (qa_cons (qe_ix q_ix (qe_var 4 rfl (.inl rfl)) qe_int (fun _ _ => rfl)) (qa_cons (qe_ix q_ix (qe_var 5 rfl (.inl rfl)) qe_int (fun _ _ => rfl)) qa_nil)))
    case m1 => exact (qe_ix q_ix (qe_var 4 rfl (.inl rfl)) qe_int (fun _ _ => rfl))
    case m2 => exact (qe_ix q_ix (qe_var 5 rfl (.inl rfl)) qe_int (fun _ _ => rfl))
    case s3 => exact (qs_set 6 nd rfl (.inl rfl) (qe_lst qa_nil))
    case sn => exact (qe_var 2 rfl (.inl rfl))
    case tg3 => exact (qg_name 7 nd rfl (.inl rfl))
    case x1 => exact (qe_var 2 rfl (.inl rfl))
    case x2 => exact (qe_var 7 rfl (.inl rfl))
    case tg4 => exact (qg_name 8 nd rfl (.inl rfl))
    case pa => exact (qe_var 6 rfl (.inl rfl))
    case pe => exact (qe_op q_add (qe_var 7 rfl (.inl rfl)) (qe_fxn F4 (Room.mono hr (by omega)) rfl (qa_cons (qe_var 8 rfl (.inl rfl)) qa_nil)))
    case y1 => exact (qe_var 2 rfl (.inl rfl))
    case y2 => exact (qe_var 7 rfl (.inl rfl))
    case y3 => exact (qe_var 8 rfl (.inl rfl))
    case s5 => exact (qss_cons (qs_ret (qe_callTy q_tuple rfl mt b_tuple (qa_cons (qe_var 6 rfl (.inl rfl)) qa_nil))) qss_nil)
  · rintro ws G q e ⟨a, b, rfl, na, nb, da, db, la, lb, lab, wa, wb, ma, mb, hq⟩
    refine seqU fun U hU => ?_
    walk_at "R"
    intro d0 hd0
    subst hU
    refine seqU fun U hU => ?_
    walk_at "R"
    refine ⟨b, rfl, nb, by exact Nat.le_trans (by assumption) (Nat.le_of_ble_eq_true rfl), lb, fun pO LO G2 hO oO gO lO glO bO => ?_⟩
    subst hU
    refine seqU fun U hU => ?_
    walk_at "R"
    refine ⟨a, rfl, na, by exact Nat.le_trans (by assumption) (Nat.le_of_ble_eq_true rfl), la, fun pM LM G3 hM oM gM lM glM bM => ?_⟩
    refine ⟨_, hM.at_p, ?_⟩
    have hpO := hM.le _ _ hO.at_p
    have hlO : ∀ x, x ∈ LO → G3 x.2 = some (.lst (encL x.1.2)) := fun x hx => hM.le _ _ (hO.ls x hx)
    have W0 : Wt P w K G G3 d0 [] G3 := ⟨((GLe.new hd0).trans hO.le).trans hM.le, fun _ _ e => e, hd0, hM.le _ _ (hO.le _ _ updG_same), (fun _ h => (nomatch h)), (fun _ h => (nomatch h)), by simp, by simp, fun _ h => (nomatch h)⟩
    have mb' : ∀ (o : O) (L : List GA), ofG (L.map (·.1)) = o → Gg (L.map (·.1)) → O.mx o ≤ 10 ^ 100 → ∀ x, x ∈ L → ∀ p, p ∈ x.1.2 → 0 ≤ p.1 ∧ 1 ≤ p.2 ∧ p.2 ≤ 10 ^ 100 := fun o L h1 h2 h3 x hx p hp => by
      have h4 := h2.nn x.1 (List.mem_map.mpr ⟨x, hx, rfl⟩) p hp
      have h5 : p.2 ≤ O.mx (ofG (L.map (·.1))) := mx_ofG (List.mem_map.mpr ⟨x, hx, rfl⟩) hp
      rw [h1] at h5
      exact ⟨h4.1, h4.2, by omega⟩
    have step : ∀ (ps : List T3) (G' : Gp) (x y : GA) (Q : WK), Wt P w K G G3 d0 ps G' → x ∈ LM → y ∈ LO → ps.length + 1 ≤ 1000 → cl ps + x.1.2.length * y.1.2.length ≤ 1000 → (∀ ps' G'', Wt P w K G G3 d0 ps' G'' → (∀ h, gsum h (grs ps') = gsum h (grs ps) + psum h x.1 y.1) → cl ps' ≤ cl ps + x.1.2.length * y.1.2.length → ps'.length ≤ ps.length + 1 → Q .non G'') → wCall spWw [] (wCons (wSdf P w K (wVar 2) (wCall spMg [] (wCons (wOp rIx3 (wVar 4) (wC (W.int 0))) (wCons (wOp rIx3 (wVar 5) (wC (W.int 0))) wNil))) wDicN) (wCons (wOp rIx3 (wVar 4) (wC (W.int 1))) (wCons (wOp rIx3 (wVar 5) (wC (W.int 1))) wNil))) [some (.tup (encP a)), some (.tup (encP b)), some (.ref d0), some (.ref pO), some (grW x), some (grW y), none, none, none] G' Q := fun ps G' x y Q hW hx hy hlen hcl hQ => by
      have bx := (bM x hx).1
      have by' := (bO y hy).1
      have lx := O.len_le_hw x.1.1
      have ly := O.len_le_hw y.1.1
      have nx := gM.nw x.1 (List.mem_map.mpr ⟨x, hx, rfl⟩)
      have ny := gO.nw y.1 (List.mem_map.mpr ⟨y, hy, rfl⟩)
      have dm := O.dp_merge x.1.1 y.1.1
      have nm : Nw (O.mergeO x.1.1 y.1.1) := ⟨nx.1.merge ny.1, by rw [O.same_merged, nx.2, ny.2]; rfl⟩
      have go : ∀ (ps1 ps2 : List T3) (d : Addr) (l : List (Int × Int)) (Gx : Gp), Wt P w K G G3 d0 (ps1 ++ (O.mergeO x.1.1 y.1.1, d, l) :: ps2) Gx → (∀ h, gsum h (grs (ps1 ++ (O.mergeO x.1.1 y.1.1, d, l) :: ps2)) = gsum h (grs ps)) → cl (ps1 ++ (O.mergeO x.1.1 y.1.1, d, l) :: ps2) = cl ps → (ps1 ++ (O.mergeO x.1.1 y.1.1, d, l) :: ps2).length ≤ ps.length + 1 → spWw [.ref d, .ref x.2, .ref y.2] Gx Q fun _ _ => False := fun ps1 ps2 d l Gx hX hg hc hlx => by
        have hm : (O.mergeO x.1.1 y.1.1, d, l) ∈ ps1 ++ (O.mergeO x.1.1 y.1.1, d, l) :: ps2 := List.mem_append_right _ List.mem_cons_self
        have hll := cl_mem hm
        refine ⟨d, x.2, y.2, l, x.1.2, y.1.2, rfl, hX.at_ _ hm, hX.kp _ _ (hM.ls x hx), hX.kp _ _ (hlO y hy), (hX.ok _ hm).2.2, mb' a LM oM gM ma x hx, mb' b LO oO gO mb y hy, by have : l.length ≤ cl (ps1 ++ (O.mergeO x.1.1 y.1.1, d, l) :: ps2) := hll; omega, fun l' dl' hs' hl' => ?_⟩
        refine hQ _ _ (hX.turn dl') (fun h => ?_) ?_ ?_
        · have h1 := hg h
          rw [gsum_mid] at h1 ⊢
          have h2 := hs' (h (O.mergeO x.1.1 y.1.1))
          have h3 : psum h x.1 y.1 = lsum (fun n => lsum (fun m => h (O.mergeO x.1.1 y.1.1) (n + m)) y.1.2) x.1.2 := rfl
          omega
        · rw [cl_mid] at hc ⊢; omega
        · simp only [List.length_append, List.length_cons] at hlx ⊢; exact hlx
      unfold grW
      walk_at "R"
      refine ⟨⟨_, hW.at0⟩, x.1.1, y.1.1, rfl, by omega, by omega, by omega, fun p hp => ?_⟩
      refine ⟨O.mergeO x.1.1 y.1.1, _, rfl, by omega, updG_ne' hW.at0 hp, by rw [List.length_map]; omega, fun v hv => ?_, fun hv => ?_⟩
      · obtain ⟨ps1, ps2, d, l, rfl, rfl⟩ := valP_some hv
        exact go ps1 ps2 d l _ (hW.up (GLe.new hp)) (fun _ => rfl) rfl (by omega)
      · have hN := hW.new hp (valP_none hv) nm ⟨by omega, by have := len_merge x.1.1 y.1.1; omega⟩
        refine go ps [] p [] _ hN (fun h => ?_) ?_ (by rw [List.length_append]; exact Nat.le_refl _)
        · rw [gsum_mid]; simp [lsum, grs, gsum]
        · rw [cl_mid]; simp [cl, grs, gl]
    have lOl : LO.length ≤ b.len := lO
    have gB : gl (LO.map (·.1)) = b.len := glO
    refine loopW_ind (fun ws τ G' => ∃ (i : Nat) (ps : List T3) (t4 t5 : Option W), i ≤ LM.length ∧ ws = (LM.drop i).map grW ∧ τ = [some (.tup (encP a)), some (.tup (encP b)), some (.ref d0), some (.ref pO), t4, t5, none, none, none] ∧ Wt P w K G G3 d0 ps G' ∧ (∀ h, gsum h (grs ps) = dsum h ((LM.take i).map (·.1)) (LO.map (·.1))) ∧ cl ps ≤ gl ((LM.take i).map (·.1)) * b.len ∧ ps.length ≤ i * LO.length) ?_ ?_ _ _ _ ⟨0, [], none, none, Nat.zero_le _, rfl, rfl, W0, fun _ => rfl, Nat.zero_le _, Nat.zero_le _⟩
    · rintro τ G' ⟨i, ps, t4, t5, hi, hw, rfl, hW, hs, hc, hpl⟩
      refine ⟨hW.kp _ _ hM.at_p, ?_⟩
      have hin : i = LM.length := by
        rcases Nat.lt_or_ge i LM.length with h | h
        · rw [List.drop_eq_getElem_cons h] at hw; cases hw
        · omega
      subst hin
      rw [List.take_length] at hs hc
      rw [glM] at hc
      subst hU
      dsimp only
      refine seqU fun U hU => ?_
      walk_at "R"
      intro p hp
      have fin : ∀ dn : List Gr, (∀ g, g ∈ dn → ∃ d l, (g.1, d, l) ∈ ps ∧ g.2.Perm l ∧ g.2.Pairwise (fun x y => y.1 < x.1)) → Desc (dn.map (·.1)) → (dn.map (·.1)).Perm (ps.map (·.1)) → ofG dn = wov a b := fun dn h1 h2 h3 => by
        have hGo : Go dn := by
          refine ⟨h2, fun g hg => ?_, fun g hg x hx => ?_, fun g hg => ?_⟩
          · obtain ⟨d, l, m, _, _⟩ := h1 g hg
            exact (hW.ok _ m).1
          · obtain ⟨d, l, m, pm, _⟩ := h1 g hg
            exact (hW.ok _ m).2.2.ok x (pm.mem_iff.mp hx)
          · obtain ⟨d, l, m, _, pw⟩ := h1 g hg
            exact pw
        refine O.same_ext (nf_ofG hGo) (wov_nf nb na) fun x => ?_
        rw [same_wov, same_wsum, wsum_ofG]
        have e1 : gsum (fun y n => dl x (O.app y (O.wh n))) dn = gsum (fun y n => dl x (O.app y (O.wh n))) (grs ps) := by
          have ek : (grs ps).map (·.1) = ps.map (·.1) := by unfold grs; rw [List.map_map]; rfl
          refine gsum_keys (by rw [ek]; exact hW.nd) (by rw [ek]; exact h3) fun g hg => ?_
          obtain ⟨d, l, m, pm, _⟩ := h1 g hg
          exact ⟨(g.1, l), List.mem_map.mpr ⟨_, m, rfl⟩, rfl, pm⟩
        rw [e1, hs, dsum_wov (dl x) gO gM, oM, oO]
      have hp60 : ps.length ≤ 60 := by
        have : LM.length * LO.length ≤ a.len * b.len := Nat.mul_le_mul lM lOl
        omega
      have le4 : GLe G' (updG G' p (GO.lst [])) := GLe.new hp
      have gp4 := updG_same (G := G') (a := p) (g := GO.lst [])
      generalize updG G' p (GO.lst []) = G4 at le4 gp4 ⊢
      subst hU
      refine seqU fun U hU => ?_
      walk_at "R"
      refine ⟨_, le4 _ _ hW.at0, by rw [List.length_map]; exact hp60, fun pk ks hpk hds hpm => ⟨_, updG_same, ?_⟩⟩
      have hpm : ks.Perm (ps.map (·.1)) := by rw [List.map_map] at hpm; exact hpm
      have hne : p ≠ pk := fun z => by rw [z, hpk] at gp4; cases gp4
      have le5 : GLe G' (updG G4 pk (GO.lst (ks.map fun o => W.tup (encP o)))) := le4.trans (GLe.new hpk)
      have gp5 := updG_ne' (g := GO.lst (ks.map fun o => W.tup (encP o))) gp4 hpk
      have gk5 := updG_same (G := G4) (a := pk) (g := GO.lst (ks.map fun o => W.tup (encP o)))
      generalize updG G4 pk (GO.lst (ks.map fun o => W.tup (encP o))) = G5 at le5 gp5 gk5 ⊢
      refine loopW_ind (fun ws τ Gc => ∃ (i : Nat) (dn : List Gr) (t7 t8 : Option W), i ≤ ks.length ∧ ws = (ks.drop i).map (fun o => W.tup (encP o)) ∧ τ = [some (.tup (encP a)), some (.tup (encP b)), some (.ref d0), some (.ref pO), t4, t5, some (.ref p), t7, t8] ∧ GLe G' Gc ∧ Gc pk = some (.lst (ks.map fun o => W.tup (encP o))) ∧ Gc p = some (.lst (encP (ofG dn))) ∧ dn.map (·.1) = ks.take i ∧ (∀ g, g ∈ dn → ∃ d l, (g.1, d, l) ∈ ps ∧ g.2.Perm l ∧ g.2.Pairwise (fun x y => y.1 < x.1)) ∧ (ofG dn).len ≤ 60 * i) ?_ ?_ _ _ _ ⟨0, [], none, none, Nat.zero_le _, rfl, rfl, le5, gk5, gp5, rfl, (fun _ h => (nomatch h)), Nat.zero_le _⟩
      · rintro τ Gc ⟨i, dn, t7, t8, hi, hw, rfl, le, gk, gp, hdn, hd, hl⟩
        refine ⟨gk, ?_⟩
        have hin : i = ks.length := by
          rcases Nat.lt_or_ge i ks.length with h | h
          · rw [List.drop_eq_getElem_cons h] at hw; cases hw
          · omega
        rw [hin, List.take_length] at hdn
        subst hU
        walk_at "R"
        refine ⟨_, gp, G, hW.le.trans le, ?_⟩
        rw [fin dn hd (by rw [hdn]; exact hds) (by rw [hdn]; exact hpm)]
        exact hq
      · rintro w1 ws τ Gc kk ⟨i, dn, t7, t8, hi, hw, rfl, le, gk, gp, hdn, hd, hl⟩ hk
        have hlt : i < ks.length := by
          rcases Nat.lt_or_ge i ks.length with h | h
          · exact h
          · rw [List.drop_of_length_le h] at hw; cases hw
        rw [List.drop_eq_getElem_cons hlt] at hw
        obtain ⟨x, ex⟩ : ∃ x, ks[i] = x := ⟨_, rfl⟩
        have hxk : x ∈ ks := by rw [← ex]; exact List.getElem_mem hlt
        have tk : ks.take (i + 1) = ks.take i ++ [x] := by rw [List.take_succ, List.getElem?_eq_getElem hlt, ex]; rfl
        rw [ex] at hw
        cases hw
        refine ⟨gk, ?_⟩
        obtain ⟨⟨x', d, l⟩, ht, ext⟩ := List.mem_map.mp (hpm.mem_iff.mp hxk)
        simp only at ext
        subst ext
        have hv := valP_mem ht hW.nd
        have hdl := (hW.ok _ ht).2.2
        have hl60 : l.length ≤ 60 := by have := cl_mem ht; simp only at this; omega
        have gd := le _ _ (hW.at_ _ ht)
        walk_at "R"
        refine ⟨_, x', _, rfl, le _ _ hW.at0, hv, ?_⟩
        walk_at "R"
        refine ⟨_, gd, by rw [iv_len]; exact hl60, fun pr hpr => ?_, fun pn ns hpn hge hpm2 => ⟨_, updG_same, ?_⟩⟩
        · obtain ⟨u, hu, rfl⟩ := List.mem_map.mp hpr
          exact ⟨u.1, rfl⟩
        have hpm2 : ns.Perm (l.map (·.1)) := by
          have e : (iv l).map (fun p => ikey p.1) = l.map (·.1) := by unfold iv; rw [List.map_map]; rfl
          rw [e] at hpm2; exact hpm2
        have hnn : ns.Nodup := hpm2.nodup_iff.mpr hdl.nd
        have hst := strict_of hge hnn
        have hln : ns.length ≤ 60 := by have := hpm2.length_eq; rw [List.length_map] at this; omega
        have gk6 := updG_ne' (g := GO.lst (ns.map W.int)) gk hpn
        have gp6 := updG_ne' (g := GO.lst (ns.map W.int)) gp hpn
        have gn6 := updG_same (G := Gc) (a := pn) (g := GO.lst (ns.map W.int))
        have le6 : GLe G' (updG Gc pn (GO.lst (ns.map W.int))) := le.trans (GLe.new hpn)
        have hnp : pn ≠ p := fun z => by rw [z, gp] at hpn; cases hpn
        generalize updG Gc pn (GO.lst (ns.map W.int)) = G6 at gk6 gp6 gn6 le6 ⊢
        refine loopW_ind (fun ws τ Gc => ∃ (j : Nat) (t8 : Option W), j ≤ ns.length ∧ ws = (ns.drop j).map W.int ∧ τ = [some (.tup (encP a)), some (.tup (encP b)), some (.ref d0), some (.ref pO), t4, t5, some (.ref p), some (.tup (encP x')), t8] ∧ GLe G' Gc ∧ Gc pk = some (.lst (ks.map fun o => W.tup (encP o))) ∧ Gc pn = some (.lst (ns.map W.int)) ∧ Gc p = some (.lst (encP (ofG (dn ++ [(x', byK l (ns.take j))]))))) ?_ ?_ _ _ _ ⟨0, _, Nat.zero_le _, rfl, rfl, le6, gk6, gn6, ?_⟩
        · rintro τ Gc ⟨j, t8, hj, hw, rfl, le, gk, gn, gp⟩
          have hjn : j = ns.length := by
            rcases Nat.lt_or_ge j ns.length with h | h
            · rw [List.drop_eq_getElem_cons h] at hw; cases hw
            · omega
          rw [hjn, List.take_length] at gp
          refine ⟨gn, hk _ _ ⟨i + 1, dn ++ [(x', byK l ns)], _, _, hlt, rfl, rfl, le, gk, gp, ?_, fun g hg => ?_, ?_⟩⟩
          · rw [List.map_append, hdn, tk]; rfl
          · rcases List.mem_append.mp hg with hg | hg
            · exact hd g hg
            · rw [List.mem_singleton.mp hg]
              refine ⟨d, l, ht, byK_perm hdl.nd hpm2, ?_⟩
              unfold byK
              rw [List.pairwise_map]
              exact hst
          · rw [ofG_snoc, O.len_app, len_ofL]
            show (ofG dn).len + ((byK l ns).length + 0) ≤ _
            unfold byK
            rw [List.length_map]; omega
        · rintro w1 ws τ Gc k2 ⟨j, t8, hj, hw, rfl, le, gk, gn, gp⟩ hk2
          have hlt2 : j < ns.length := by
            rcases Nat.lt_or_ge j ns.length with h | h
            · exact h
            · rw [List.drop_of_length_le h] at hw; cases hw
          rw [List.drop_eq_getElem_cons hlt2] at hw
          obtain ⟨n, en⟩ : ∃ n, ns[j] = n := ⟨_, rfl⟩
          have hn : n ∈ ns := by rw [← en]; exact List.getElem_mem hlt2
          have tk2 : ns.take (j + 1) = ns.take j ++ [n] := by rw [List.take_succ, List.getElem?_eq_getElem hlt2, en]; rfl
          rw [en] at hw
          cases hw
          refine ⟨gn, ?_⟩
          obtain ⟨⟨n', v⟩, hu, eu⟩ := List.mem_map.mp (hpm2.mem_iff.mp hn)
          simp only at eu
          subst eu
          have hgv := getL_mem hdl.nd hu
          have h0 := (hdl.ok _ hu).1
          have hlx : (encP x').length ≤ 900 := by rw [encP_length]; exact (hW.ok _ ht).2.1.2
          walk_at "R"
          refine ⟨⟨_, gp⟩, n', rfl, h0, ?_⟩
          have lw : (encP (O.wh n')).length ≤ 1 := by rw [encP_length]; exact (wh_more h0).2.2.2
          refine ⟨by omega, _, x', _, rfl, le _ _ hW.at0, hv, ?_⟩
          have hlp : (encP (ofG (dn ++ [(x', byK l (ns.take j))]))).length ≤ 99999 := by
            rw [encP_length, ofG_snoc, O.len_app, len_ofL]
            show (ofG dn).len + ((byK l (ns.take j)).length + 0) ≤ _
            have hks : ks.length ≤ 60 := by have := hpm.length_eq; rw [List.length_map] at this; omega
            unfold byK
            rw [List.length_map, List.length_take]; omega
          refine ⟨_, .int v, le _ _ (hW.at_ _ ht), by rw [iv_val, hgv]; rfl, _, gp, hlp, ?_⟩
          have e1 : encP (ofG (dn ++ [(x', byK l (ns.take j))])) ++ [W.tup [W.tup (encP x' ++ encP (O.wh n')), W.int v]] = encP (ofG (dn ++ [(x', byK l (ns.take (j + 1)))])) := by
            have e2 : byK l (ns.take (j + 1)) = byK l (ns.take j) ++ [(n', v)] := by
              unfold byK
              rw [tk2, List.map_append]
              show _ ++ [(n', (getL l n').getD 0)] = _
              rw [hgv]; rfl
            rw [e2, ofG_more, encP_app, ← encP_app]
            rfl
          rw [e1]
          exact hk2 _ _ ⟨j + 1, _, hlt2, rfl, rfl, gle_put le hp, updG_ne (Ne.symm hne) ▸ gk, updG_ne hnp ▸ gn, updG_same⟩
        · have e : ofG (dn ++ [(x', byK l (ns.take 0))]) = ofG dn := by rw [ofG_snoc]; exact O.app_z _
          rw [e]; exact gp6
    · rintro w1 ws τ G' kk ⟨i, ps, t4, t5, hi, hw, rfl, hW, hs, hc, hpl⟩ hk
      have hlt : i < LM.length := by
        rcases Nat.lt_or_ge i LM.length with h | h
        · exact h
        · rw [List.drop_of_length_le h] at hw; cases hw
      rw [List.drop_eq_getElem_cons hlt] at hw
      obtain ⟨x, ex⟩ : ∃ x, LM[i] = x := ⟨_, rfl⟩
      have hx : x ∈ LM := by rw [← ex]; exact List.getElem_mem hlt
      have tk : LM.take (i + 1) = LM.take i ++ [x] := by rw [List.take_succ, List.getElem?_eq_getElem hlt, ex]; rfl
      rw [ex] at hw
      cases hw
      refine ⟨hW.kp _ _ hM.at_p, ?_⟩
      walk_at "R"
      refine ⟨_, hW.kp _ _ hpO, ?_⟩
      have gtk : gl ((LM.take i).map (·.1)) + x.1.2.length ≤ a.len := by
        have h1 : gl (LM.map (·.1)) = gl ((LM.take (i + 1)).map (·.1)) + gl ((LM.drop (i + 1)).map (·.1)) := by rw [← gl_app, ← List.map_append, List.take_append_drop]
        rw [tk, List.map_append, gl_app] at h1
        simp only [gl, List.map_cons, List.map_nil, List.foldr_cons, List.foldr_nil] at h1 glM ⊢
        omega
      refine loopW_ind (fun ws τ G' => ∃ (j : Nat) (ps : List T3) (t5 : Option W), j ≤ LO.length ∧ ws = (LO.drop j).map grW ∧ τ = [some (.tup (encP a)), some (.tup (encP b)), some (.ref d0), some (.ref pO), some (grW x), t5, none, none, none] ∧ Wt P w K G G3 d0 ps G' ∧ (∀ h, gsum h (grs ps) = dsum h ((LM.take i).map (·.1)) (LO.map (·.1)) + (((LO.take j).map (·.1)).map (psum h x.1)).foldr (· + ·) 0) ∧ cl ps ≤ gl ((LM.take i).map (·.1)) * b.len + x.1.2.length * gl ((LO.take j).map (·.1)) ∧ ps.length ≤ i * LO.length + j) ?_ ?_ _ _ _ ⟨0, ps, _, Nat.zero_le _, rfl, rfl, hW, fun h => by rw [hs h]; simp, by assumption, by assumption⟩
      · rintro τ G' ⟨j, ps, t5, hj, hw, rfl, hW, hs, hc, hpl⟩
        have hjn : j = LO.length := by
          rcases Nat.lt_or_ge j LO.length with h | h
          · rw [List.drop_eq_getElem_cons h] at hw; cases hw
          · omega
        subst hjn
        rw [List.take_length] at hs hc
        refine ⟨hW.kp _ _ hpO, hk _ _ ⟨i + 1, ps, _, _, hlt, rfl, rfl, hW, fun h => ?_, ?_, ?_⟩⟩
        · rw [hs h, tk, List.map_append]
          exact (dsum_snoc h x.1 (LO.map (·.1)) _).symm
        · rw [tk, List.map_append, gl_app, Nat.add_mul]
          rw [glO] at hc
          have e : gl ([x].map (·.1)) = x.1.2.length := by simp [gl]
          rw [e]; exact hc
        · rw [Nat.add_mul]; omega
      · rintro w1 ws τ G' k2 ⟨j, ps, t5, hj, hw, rfl, hW, hs, hc, hpl⟩ hk2
        have hlt2 : j < LO.length := by
          rcases Nat.lt_or_ge j LO.length with h | h
          · exact h
          · rw [List.drop_of_length_le h] at hw; cases hw
        rw [List.drop_eq_getElem_cons hlt2] at hw
        obtain ⟨y, ey⟩ : ∃ y, LO[j] = y := ⟨_, rfl⟩
        have hy : y ∈ LO := by rw [← ey]; exact List.getElem_mem hlt2
        have tk2 : LO.take (j + 1) = LO.take j ++ [y] := by rw [List.take_succ, List.getElem?_eq_getElem hlt2, ey]; rfl
        rw [ey] at hw
        cases hw
        refine ⟨hW.kp _ _ hpO, ?_⟩
        have gtk2 : gl ((LO.take j).map (·.1)) + y.1.2.length ≤ b.len := by
          have h1 : gl (LO.map (·.1)) = gl ((LO.take (j + 1)).map (·.1)) + gl ((LO.drop (j + 1)).map (·.1)) := by rw [← gl_app, ← List.map_append, List.take_append_drop]
          rw [tk2, List.map_append, gl_app] at h1
          simp only [gl, List.map_cons, List.map_nil, List.foldr_cons, List.foldr_nil] at h1 glO ⊢
          omega
        have bd1 : x.1.2.length * (gl ((LO.take j).map (·.1)) + y.1.2.length) ≤ x.1.2.length * b.len := Nat.mul_le_mul_left _ gtk2
        have bd2 : (gl ((LM.take i).map (·.1)) + x.1.2.length) * b.len ≤ a.len * b.len := Nat.mul_le_mul_right _ gtk
        rw [Nat.mul_add] at bd1
        rw [Nat.add_mul] at bd2
        have bd3 : (i + 1) * LO.length ≤ a.len * b.len := Nat.mul_le_mul (by omega) lOl
        rw [Nat.add_mul, Nat.one_mul] at bd3
        simp only [wDrop, hName, List.set_cons_succ, List.set_cons_zero]
        refine step ps G' x y _ hW hx hy (by omega) (by omega) fun ps' G'' hW' hg' hc' hl' => ?_
        refine hk2 _ _ ⟨j + 1, ps', _, hlt2, rfl, rfl, hW', fun h => ?_, ?_, by omega⟩
        · rw [hg' h, hs h, tk2, List.map_append, List.map_append]
          have e := fold_snoc (psum h x.1) ((LO.take j).map (·.1)) y.1
          show _ = _ + (((LO.take j).map (·.1)).map (psum h x.1) ++ [y.1].map (psum h x.1)).foldr (· + ·) 0
          omega
        · rw [tk2, List.map_append, gl_app, Nat.mul_add]
          have e : gl ([y].map (·.1)) = y.1.2.length := by simp [gl]
          rw [e]; omega
structure Kw (L : Nat) (a : O) : Prop where
  nf : a.NF
  dp : a.dp ≤ 3
  ln : a.len ≤ L
  hw : O.hw a ≤ 400
  mx : O.mx a ≤ 10 ^ 100
theorem Kw.of {L H : Nat} {T M : Int} {a : O} (h : Wn 2 L H T M a) (hL : L ≤ 400) (hH : H ≤ 400) (hM : 0 ≤ M) (hT : T ≤ 10 ^ 100) (hM2 : M ≤ 10 ^ 100) : Kw L a :=
  ⟨h.nf, h.dp, h.ln, by have := h.hw; (clear h hM hT hM2; omega), by have := h.mx hM; (clear h hL hH; omega)⟩
theorem askW {L1 L2 : Nat} {a b : O} {G : Gp} {q : WK} {e : WX} (ha : Kw L1 a) (hb : Kw L2 b) (h1 : L1 ≤ 60) (h2 : L2 ≤ 60) (h3 : L1 * L2 ≤ 60) (h : q (.tup (encP (wov a b))) G) : spWv [.tup (encP a), .tup (encP b)] G q e := by
  have a1 := ha.ln
  have b1 := hb.ln
  exact ⟨a, b, rfl, ha.nf, hb.nf, by have := ha.dp; exact Nat.le_trans (by assumption) (Nat.le_of_ble_eq_true rfl), by have := hb.dp; exact Nat.le_trans (by assumption) (Nat.le_of_ble_eq_true rfl), by (clear ha hb h2 h3 h b1; omega), by (clear ha hb h1 h3 h a1; omega), Nat.le_trans (Nat.mul_le_mul a1 b1) h3, ha.hw, hb.hw, ha.mx, hb.mx, h⟩
theorem hw_app_r : ∀ (p b : O), O.hw b ≤ O.hw (O.app p b)
  | .z, b => Nat.le_refl _
  | .c e n r, b => by
    have := hw_app_r r b
    show _ ≤ O.hw (.c e n (O.app r b))
    rw [O.hw_c]; omega
noncomputable def spPk : WSp := fun ws G q _ => ∃ a b : O, ws = [.tup (encP a), .tup (encP b)] ∧ Kw 4 a ∧ Kw 4 b ∧ q (.bl true) G
theorem scPk : FnScope ["_law_a", "_law_b", "_law_exponent", "_law_many_here", "_law_other", "_law_count", "_law_found"] ["_law_a", "_law_b"] (defScope (top 29)) := ⟨rfl, rfl, rfl, by decide +kernel, rfl, by decide +kernel, by decide +kernel⟩
theorem fnPk (F : Fun K "_law_parts_kept" "_law_parts_kept" (top 29) f fd) (F1 : Fx P w K mg base "woven" ["a", "b"] 8 spWv) (F2 : Fx P w K mg base "merged" ["a", "b"] 2 spMg) : WFn P w K mg base 9 f fd ["_law_a", "_law_b"] spPk := by
  have nd := scPk.nd
  refine fn3 F scPk (fun ws G q e h => by obtain ⟨_, _, rfl, _⟩ := h; rfl) (fun cdv A outer s H E hr => ?_)
  apply bodyOf
  · exact (qss_cons (qs_for PySem.PassesOwn.never rfl (qi_seq (qe_var 0 rfl (.inl rfl))) (qg_tup rfl (qgs_cons (qg_name 2 nd rfl (.inl rfl)) (qgs_cons (qg_name 3 nd rfl (.inl rfl)) qgs_nil))) (qss_cons (qs_for PySem.PassesOwn.never rfl (qi_seq (qe_var 1 rfl (.inl rfl))) (qg_tup rfl (qgs_cons (qg_name 4 nd rfl (.inl rfl)) (qgs_cons (qg_name 5 nd rfl (.inl rfl)) qgs_nil))) (qss_cons (qs_set 6 nd rfl (.inl rfl) (qe_fxn F1 (Room.mono hr (by omega)) rfl (qa_cons (qe_tup (qa_cons (qe_tup (qa_cons (qe_var 2 rfl (.inl rfl)) (qa_cons (qe_var 3 rfl (.inl rfl)) qa_nil))) qa_nil)) (qa_cons (qe_tup (qa_cons (qe_tup (qa_cons (qe_var 4 rfl (.inl rfl)) (qa_cons (qe_var 5 rfl (.inl rfl)) qa_nil))) qa_nil)) qa_nil)))) (qss_cons (qs_if (qt_cmp (q_ne4 hr) (qe_var 6 rfl (.inl rfl)) (qe_tup (qa_cons (qe_tup (qa_cons (qe_fxn F2 (Room.mono hr (by omega)) rfl (qa_cons (qe_var 2 rfl (.inl rfl)) (qa_cons (qe_var 4 rfl (.inl rfl)) qa_nil))) (qa_cons (qe_op q_mulB (qe_var 3 rfl (.inl rfl)) (qe_var 5 rfl (.inl rfl))) qa_nil))) qa_nil)) (nomark _)) (qss_cons (qs_ret qe_bl) qss_nil) qss_nil) qss_nil))) qss_nil)) (qss_cons (qs_ret qe_bl) qss_nil))
  · rintro ws G q e0 ⟨a, b, rfl, ka, kb, hq⟩
    have part : ∀ (o : O), Kw 4 o → ∀ (e : O) (n : Int) (r : O), (∃ p, O.app p (.c e n r) = o) → Kw 1 (.c e n .z) ∧ e.NF ∧ 1 ≤ n ∧ n ≤ 10 ^ 100 ∧ e.dp ≤ 2 ∧ O.hw e ≤ 400 := fun o ko e n r ⟨p, hp⟩ => by
      have no := ko.nf
      rw [← hp] at no
      have nt := app_NF_r no
      have h1 := ko.dp
      have h2 := ko.hw
      have h3 := ko.mx
      have e1 : (O.c e n r).dp ≤ o.dp := by rw [← hp, O.dp_app]; (clear F F1 F2 nd hr ka kb hq ko hp no nt h1 h2 h3; omega)
      have e2 : O.hw (O.c e n r) ≤ O.hw o := by rw [← hp]; exact hw_app_r p _
      have e3 : O.mx (O.c e n r) ≤ O.mx o := by rw [← hp, O.mx_app]; (clear F F1 F2 nd hr ka kb hq ko hp no nt h1 h2 h3 e1 e2; omega)
      simp only [O.dp] at e1
      rw [O.hw_c] at e2
      rw [O.mx_c] at e3
      have r0 := O.mx_nonneg r
      refine ⟨⟨⟨nt.1, nt.2.1, trivial, trivial⟩, by simp only [O.dp]; (clear F F1 F2 nd hr ka kb hq ko hp no nt h2 h3 e2 e3 r0; omega), by simp [O.len], by rw [O.hw_c]; simp only [O.len, O.hw]; (clear F F1 F2 nd hr ka kb hq ko hp no nt h1 h3 e1 e3 r0; omega), by rw [O.mx_c]; simp only [O.mx]; (clear F F1 F2 nd hr ka kb hq ko hp no nt h1 h2 e1 e2; omega)⟩, nt.1, nt.2.1, by (clear F F1 F2 nd hr ka kb hq ko hp no nt h1 h2 e1 e2 r0; omega), by (clear F F1 F2 nd hr ka kb hq ko hp no nt h2 h3 e2 e3 r0; omega), by (clear F F1 F2 nd hr ka kb hq ko hp no nt h1 h3 e1 e3 r0; omega)⟩
    refine seqU fun U hU => ?_
    walk_at "R"
    refine loopW_ind (fun ws τ G' => G' = G ∧ ∃ (pre t : O) (t2 t3 t4 t5 t6 : Option W), ws = encP t ∧ O.app pre t = a ∧ τ = [some (.tup (encP a)), some (.tup (encP b)), t2, t3, t4, t5, t6]) ?_ ?_ _ _ _ ⟨rfl, .z, a, _, _, _, _, _, rfl, rfl, rfl⟩
    · rintro τ G' ⟨rfl, pre, t, t2, t3, t4, t5, t6, hw, hp, rfl⟩
      refine ⟨trivial, ?_⟩
      subst hU
      walk_at "R"
      exact GLe.done hq
    · rintro w1 ws τ G' kk ⟨rfl, pre, t, t2, t3, t4, t5, t6, hw, hp, rfl⟩ hk
      cases t with
      | z => cases hw
      | c e n r =>
        rw [encP_c] at hw
        cases hw
        refine ⟨trivial, ?_⟩
        obtain ⟨k1, ne, n1, n2, de, we⟩ := part a ka e n r ⟨pre, hp⟩
        have hp' : O.app (O.app pre (.c e n .z)) r = a := by rw [O.app_assoc]; exact hp
        unfold prt enc
        simp only [hTup, hCons, hNil, hName, List.set_cons_succ, List.set_cons_zero]
        refine ⟨rfl, ?_⟩
        walk_at "R"
        refine loopW_ind (fun ws τ Gx => Gx = G' ∧ ∃ (pre t : O) (t4 t5 t6 : Option W), ws = encP t ∧ O.app pre t = b ∧ τ = [some (.tup (encP a)), some (.tup (encP b)), some (.tup (encP e)), some (.int n), t4, t5, t6]) ?_ ?_ _ _ _ ⟨rfl, .z, b, _, _, _, rfl, rfl, rfl⟩
        · rintro τ Gx ⟨rfl, pre, t, t4, t5, t6, hw, hpb, rfl⟩
          exact ⟨trivial, hk _ _ ⟨rfl, _, r, _, _, _, _, _, rfl, hp', rfl⟩⟩
        · rintro w1 ws τ Gx k2 ⟨rfl, pre, t, t4, t5, t6, hw, hpb, rfl⟩ hk2
          cases t with
          | z => cases hw
          | c f d r2 =>
            rw [encP_c] at hw
            cases hw
            refine ⟨trivial, ?_⟩
            obtain ⟨k2', nf', d1, d2, df, wf⟩ := part b kb f d r2 ⟨pre, hpb⟩
            have hpb' : O.app (O.app pre (.c f d .z)) r2 = b := by rw [O.app_assoc]; exact hpb
            unfold prt enc
            simp only [hTup, hCons, hNil, hName, List.set_cons_succ, List.set_cons_zero]
            refine ⟨rfl, ?_⟩
            refine seqU fun U1 hU1 => ?_
            walk_at "R"
            refine askW (a := .c e n .z) (b := .c f d .z) k1 k2' (by omega) (by omega) (by omega) ?_
            rw [wov_single]
            subst hU1
            have le := O.len_le_hw e
            have lf := O.len_le_hw f
            have dm := O.dp_merge e f
            have dm2 := tup_dep (.c (O.mergeO e f) (n * d) .z)
            have dm3 : O.dp (.c (O.mergeO e f) (n * d) .z) ≤ 3 := by simp only [O.dp]; omega
            walk_at "R"
            refine ⟨e, f, rfl, by exact Nat.le_trans (by assumption) (Nat.le_of_ble_eq_true rfl), by omega, by omega, .inr (bigM (by omega) (by omega)), ?_⟩
            have te : (W.tup (encP (.c (O.mergeO e f) (n * d) .z))).eq (W.tup [W.tup [W.tup (encP (O.mergeO e f)), W.int (n * d)]]) = true := by
              show (W.tup (encP (.c (O.mergeO e f) (n * d) .z))).eq (W.tup (encP (.c (O.mergeO e f) (n * d) .z))) = true
              rw [tup_eq]; simp
            refine ⟨tup_flat _, tup_flat (.c (O.mergeO e f) (n * d) .z), by omega, ?_⟩
            rw [te, if_neg (by simp)]
            exact hk2 _ _ ⟨rfl, _, r2, _, _, _, rfl, hpb', rfl⟩
noncomputable def spGw : WSp := fun ws G q _ => ∃ a b c : O, ws = [.tup (encP a), .tup (encP b), .tup (encP c)] ∧ Kw 3 a ∧ Kw 3 b ∧ Kw 4 c ∧ Kw 9 (wov a b) ∧ Kw 12 (wov a c) ∧ q (.bl true) G
theorem scGw : FnScope ["_law_a", "_law_b", "_law_c", "_law_side"] ["_law_a", "_law_b", "_law_c"] (defScope (top 30)) := ⟨rfl, rfl, rfl, by decide +kernel, rfl, by decide +kernel, by decide +kernel⟩
theorem fnGw (F : Fun K "_law_grows" "_law_grows" (top 30) f fd) (F1 : Fx P w K mg base "woven" ["a", "b"] 8 spWv) (F2 : Fx P w K mg base "_law_order" ["_law_a", "_law_b"] 60 (spOr 60)) (F3 : Fx P w K mg base "times" ["a", "b"] 4 spTi) : WFn P w K mg base 61 f fd ["_law_a", "_law_b", "_law_c"] spGw := by
  have nd := scGw.nd
  refine fn3 (k := 60) F scGw (fun ws G q e h => by obtain ⟨_, _, _, rfl, _⟩ := h; rfl) (fun cdv A outer s H E hr => ?_)
  apply bodyOf
  · exact (qss_cons (qs_set 3 nd rfl (.inl rfl) (qe_fxn F2 (Room.mono hr (by omega)) rfl (qa_cons (qe_var 1 rfl (.inl rfl)) (qa_cons (qe_var 2 rfl (.inl rfl)) qa_nil)))) (qss_cons (qs_if (qt_w (qw_and (qt_cmp (q_ne4 hr) (qe_var 0 rfl (.inl rfl)) (qe_tup qa_nil) (nomark _)) (qw_and1 (qt_cmp (q_ne4 hr) (qe_fxn F2 (Room.mono hr (by omega)) rfl (qa_cons (qe_fxn F1 (Room.mono hr (by omega)) rfl (qa_cons (qe_var 0 rfl (.inl rfl)) (qa_cons (qe_var 1 rfl (.inl rfl)) qa_nil))) (qa_cons (qe_fxn F1 (Room.mono hr (by omega)) rfl (qa_cons (qe_var 0 rfl (.inl rfl)) (qa_cons (qe_var 2 rfl (.inl rfl)) qa_nil))) qa_nil))) (qe_var 3 rfl (.inl rfl)) (nomark _))))) (qss_cons (qs_ret qe_bl) qss_nil) qss_nil) (qss_cons (qs_ret (qe_and (qe_cmp q_ge (qe_fxn F2 (Room.mono hr (by omega)) rfl (qa_cons (qe_fxn F1 (Room.mono hr (by omega)) rfl (qa_cons (qe_var 0 rfl (.inl rfl)) (qa_cons (qe_var 1 rfl (.inl rfl)) qa_nil))) (qa_cons (qe_fxn F3 (Room.mono hr (by omega)) rfl (qa_cons (qe_var 0 rfl (.inl rfl)) (qa_cons (qe_var 1 rfl (.inl rfl)) qa_nil))) qa_nil))) qe_int (nomark _)) (qe_one (qe_cmp q_ge (qe_fxn F2 (Room.mono hr (by omega)) rfl (qa_cons (qe_fxn F1 (Room.mono hr (by omega)) rfl (qa_cons (qe_var 0 rfl (.inl rfl)) (qa_cons (qe_var 1 rfl (.inl rfl)) qa_nil))) (qa_cons (qe_fxn F3 (Room.mono hr (by omega)) rfl (qa_cons (qe_var 1 rfl (.inl rfl)) (qa_cons (qe_var 0 rfl (.inl rfl)) qa_nil))) qa_nil))) qe_int (nomark _))))) qss_nil)))
  · rintro ws G q e0 ⟨a, b, c, rfl, ka, kb, kc, kab, kac, hq⟩
    have na := ka.nf
    have nb := kb.nf
    have nc := kc.nf
    have da := ka.dp
    have db := kb.dp
    have d1 := kab.dp
    have d2 := kac.dp
    have hda := tup_dep a
    have wa := ka.hw
    have wb := kb.hw
    have ma := ka.mx
    have mb := kb.mx
    have kc100 : (10 : Int) ^ 100 ≤ cap := by decide +kernel
    refine seqU fun U hU => ?_
    walk_at "R"
    refine ⟨b, c, rfl, by (clear F F1 F2 F3 nd hr ka kb kc kab kac hq na nb nc da d1 d2 hda wa wb ma mb kc100 hU; omega), ?_⟩
    subst hU
    refine seqU fun U hU => ?_
    have rest : U { nx := fun x G1 => ∃ G0, GLe G0 G1 ∧ q W.non G0, rt := fun w G1 => ∃ G0, GLe G0 G1 ∧ q w G0 } [some (.tup (encP a)), some (.tup (encP b)), some (.tup (encP c)), some (.int (O.cmp b c))] G := by
      subst hU
      have t1 := times_le_wov na nb
      have t2 := times_le_wov nb na
      rw [wov_comm nb na] at t2
      have s1 := O.cmp_swap (O.timesO a b) (wov a b)
      have s2 := O.cmp_swap (O.timesO b a) (wov a b)
      walk_at "R"
      refine askW ka kb (by omega) (by omega) (by omega) ?_
      refine ⟨a, b, rfl, na, nb, by exact Nat.le_trans (by assumption) (Nat.le_of_ble_eq_true rfl), by exact Nat.le_trans (by assumption) (Nat.le_of_ble_eq_true rfl), by exact Nat.le_trans (by assumption) (Nat.le_of_ble_eq_true rfl), by exact Nat.le_trans (by assumption) (Nat.le_of_ble_eq_true rfl), Int.le_trans ma kc100, Int.le_trans mb kc100, ?_⟩
      refine ⟨wov a b, O.timesO a b, rfl, by omega, ?_⟩
      walk_at "R"
      rw [if_pos (by (clear F F1 F2 F3 nd hr ka kb kc kab kac hq na nb nc da db d1 d2 hda wa wb ma mb kc100 t2 s2; omega))]
      refine askW ka kb (by omega) (by omega) (by omega) ?_
      refine ⟨b, a, rfl, nb, na, by exact Nat.le_trans (by assumption) (Nat.le_of_ble_eq_true rfl), by exact Nat.le_trans (by assumption) (Nat.le_of_ble_eq_true rfl), by exact Nat.le_trans (by assumption) (Nat.le_of_ble_eq_true rfl), by exact Nat.le_trans (by assumption) (Nat.le_of_ble_eq_true rfl), Int.le_trans mb kc100, Int.le_trans ma kc100, ?_⟩
      refine ⟨wov a b, O.timesO b a, rfl, by omega, ?_⟩
      walk_at "R"
      rw [decide_eq_true (show 0 ≤ O.cmp (wov a b) (O.timesO b a) by (clear F F1 F2 F3 nd hr ka kb kc kab kac hq na nb nc da db d1 d2 hda wa wb ma mb kc100 t1 s1; omega))]
      exact GLe.done hq
    walk_at "R"
    refine ⟨tup_flat a, by (clear F F1 F2 F3 nd hr ka kb kc kab kac hq na nb nc db d1 d2 wa wb ma mb kc100 hU rest; omega), ?_⟩
    rw [tup_nil_eq]
    by_cases ha0 : a = .z
    · rw [if_neg (by simpa using ha0)]
      exact rest
    · rw [if_pos (by simpa using ha0)]
      refine askW ka kb (by omega) (by omega) (by omega) (askW ka kc (by omega) (by omega) (by omega) ?_)
      refine ⟨wov a b, wov a c, rfl, by omega, ?_⟩
      rw [cmp_wov na ha0 nb nc]
      walk_at "R"
      exact rest
theorem scLw : FnScope ["_law_script", "_law_one", "_law_at", "_law_cells", "_law_a", "_law_b", "_law_c", "_law_found"] ["_law_script"] (defScope (top 31)) := ⟨rfl, rfl, rfl, by decide +kernel, rfl, by decide +kernel, by decide +kernel⟩
theorem fnLw (F : Fun K "law" "law" (top 31) f fd) (F1 : Fx P w K mg base "_law_drawn" ["_law_cell", "_law_level"] 66 (spDr 5)) (F2 : Fx P w K mg base "_law_cell_at" ["_law_script", "_law_k"] 1 spCa) (F3 : Fx P w K mg base "_law_near" ["_law_a", "_law_cell"] 62 spN8) (F4 : Fx P w K mg base "_law_number" ["_law_found"] 100 (spNb 40)) (F5 : Fx P w K mg base "woven" ["a", "b"] 8 spWv) (F6 : Fx P w K mg base "merged" ["a", "b"] 2 spMg) (F7 : Fx P w K mg base "_law_grows" ["_law_a", "_law_b", "_law_c"] 61 spGw) (F8 : Fx P w K mg base "_law_parts_kept" ["_law_a", "_law_b"] 9 spPk) (ml : mg "len" = none) (mr : mg "range" = none) (mx : mg "max" = none) (mn : mg "min" = none) : WFn P w K mg base 110 f fd ["_law_script"] spLaw := by
  have nd := scLw.nd
  refine fn3 (k := 109) F scLw (fun ws G q e h => by obtain ⟨_, rfl, _⟩ := h; rfl) (fun cdv A outer s H E hr => ?_)
  apply bodyOf
  · exact (qss_cons (qs_set 1 nd rfl (.inl rfl) (qe_tup (qa_cons (qe_tup (qa_cons (qe_tup qa_nil) (qa_cons qe_int qa_nil))) qa_nil))) (qss_cons (qs_for PySem.PassesOwn.never rfl (qi_range3 rfl mr (qa_cons qe_int (qa_cons (qe_callB (q_max4 rfl) rfl mx b_max (qa_cons qe_int (qa_cons (qe_callB (q_min rfl) rfl mn b_min (qa_cons qe_int (qa_cons (qe_callB q_len rfl ml PySem.boot_len (qa_cons (qe_var 0 rfl (.inr (.inl rfl))) qa_nil)) qa_nil))) qa_nil))) (qa_cons qe_int qa_nil)))) (qg_name 2 nd rfl (.inr rfl)) (qss_cons (qs_comp 3 (compSc (by first | rfl | decide +kernel)) rfl nd rfl (.inl rfl) (qi_range rfl mr (qa_cons qe_int qa_nil)) (fun _ _ _ _ => (qg_nameB 1 (by first | assumption | decide +kernel | rfl) rfl (.inl rfl))) (fun _ _ _ _ => qts_nil) (fun _ _ _ _ => (qe_fxn F2 (Room.mono hr (by omega)) rfl (qa_cons (qe_var 4 rfl (.inr (.inl rfl))) (qa_cons (qe_op q_add (qe_var 3 rfl (.inr (.inl rfl))) (qe_var 1 rfl (.inl rfl))) qa_nil))))) (qss_cons (qs_set 4 nd rfl (.inl rfl) (qe_fxn F1 (Room.mono hr (by omega)) rfl (qa_cons (qe_ix q_ix (qe_var 3 rfl (.inl rfl)) qe_int (fun _ _ => rfl)) (qa_cons (qe_op q_mod (qe_ix q_ix (qe_var 3 rfl (.inl rfl)) qe_int (fun _ _ => rfl)) qe_int) qa_nil)))) (qss_cons (qs_set 5 nd rfl (.inl rfl) (qe_fxn F1 (Room.mono hr (by omega)) rfl (qa_cons (qe_ix q_ix (qe_var 3 rfl (.inl rfl)) qe_int (fun _ _ => rfl)) (qa_cons (qe_op q_mod (qe_ix q_ix (qe_var 3 rfl (.inl rfl)) qe_int (fun _ _ => rfl)) qe_int) qa_nil)))) (qss_cons (qs_set 6 nd rfl (.inl rfl) (qe_fxn F1 (Room.mono hr (by omega)) rfl (qa_cons (qe_ix q_ix (qe_var 3 rfl (.inl rfl)) qe_int (fun _ _ => rfl)) (qa_cons (qe_op q_mod (qe_ix q_ix (qe_var 3 rfl (.inl rfl)) qe_int (fun _ _ => rfl)) qe_int) qa_nil)))) (qss_cons (qs_if (qt_cmp (q_eq4 hr) (qe_op q_mod (qe_op q_divB (qe_ix q_ix (qe_var 3 rfl (.inl rfl)) qe_int (fun _ _ => rfl)) qe_int) qe_int) qe_int (nomark _)) (qss_cons (qs_set 6 nd rfl (.inl rfl) (qe_fxn F3 (Room.mono hr (by omega)) rfl (qa_cons (qe_var 5 rfl (.inl rfl)) (qa_cons (qe_ix q_ix (qe_var 3 rfl (.inl rfl)) qe_int (fun _ _ => rfl)) qa_nil)))) qss_nil) qss_nil) (qss_cons (qs_set 7 nd rfl (.inl rfl) (qe_fxn F5 (Room.mono hr (by omega)) rfl (qa_cons (qe_fxn F5 (Room.mono hr (by omega)) rfl (qa_cons (qe_var 4 rfl (.inl rfl)) (qa_cons (qe_var 5 rfl (.inl rfl)) qa_nil))) (qa_cons (qe_var 6 rfl (.inl rfl)) qa_nil)))) (qss_cons (qs_if (qt_w (qw_or (qt_not (qt_val (qe_fxn F4 (Room.mono hr (by omega)) rfl (qa_cons (qe_var 7 rfl (.inl rfl)) qa_nil)))) (qw_or (qt_cmp (q_ne4 hr) (qe_var 7 rfl (.inl rfl)) (qe_fxn F5 (Room.mono hr (by omega)) rfl (qa_cons (qe_var 4 rfl (.inl rfl)) (qa_cons (qe_fxn F5 (Room.mono hr (by omega)) rfl (qa_cons (qe_var 5 rfl (.inl rfl)) (qa_cons (qe_var 6 rfl (.inl rfl)) qa_nil))) qa_nil))) (nomark _)) (qw_or1 (qt_cmp (q_ne4 hr) (qe_fxn F5 (Room.mono hr (by omega)) rfl (qa_cons (qe_var 4 rfl (.inl rfl)) (qa_cons (qe_var 5 rfl (.inl rfl)) qa_nil))) (qe_fxn F5 (Room.mono hr (by omega)) rfl (qa_cons (qe_var 5 rfl (.inl rfl)) (qa_cons (qe_var 4 rfl (.inl rfl)) qa_nil))) (nomark _)))))) (qss_cons (qs_ret qe_bl) qss_nil) qss_nil) (qss_cons (qs_if (qt_w (qw_or (qt_cmp (q_ne4 hr) (qe_fxn F5 (Room.mono hr (by omega)) rfl (qa_cons (qe_var 4 rfl (.inl rfl)) (qa_cons (qe_fxn F6 (Room.mono hr (by omega)) rfl (qa_cons (qe_var 5 rfl (.inl rfl)) (qa_cons (qe_var 6 rfl (.inl rfl)) qa_nil))) qa_nil))) (qe_fxn F6 (Room.mono hr (by omega)) rfl (qa_cons (qe_fxn F5 (Room.mono hr (by omega)) rfl (qa_cons (qe_var 4 rfl (.inl rfl)) (qa_cons (qe_var 5 rfl (.inl rfl)) qa_nil))) (qa_cons (qe_fxn F5 (Room.mono hr (by omega)) rfl (qa_cons (qe_var 4 rfl (.inl rfl)) (qa_cons (qe_var 6 rfl (.inl rfl)) qa_nil))) qa_nil))) (nomark _)) (qw_or1 (qt_not (qt_val (qe_fxn F7 (Room.mono hr (by omega)) rfl (qa_cons (qe_var 4 rfl (.inl rfl)) (qa_cons (qe_var 5 rfl (.inl rfl)) (qa_cons (qe_var 6 rfl (.inl rfl)) qa_nil))))))))) (qss_cons (qs_ret qe_bl) qss_nil) qss_nil) (qss_cons (qs_if (qt_w (qw_or (qt_cmp (q_ne4 hr) (qe_fxn F5 (Room.mono hr (by omega)) rfl (qa_cons (qe_var 4 rfl (.inl rfl)) (qa_cons (qe_var 1 rfl (.inl rfl)) qa_nil))) (qe_var 4 rfl (.inl rfl)) (nomark _)) (qw_or (qt_cmp (q_ne4 hr) (qe_fxn F5 (Room.mono hr (by omega)) rfl (qa_cons (qe_var 4 rfl (.inl rfl)) (qa_cons (qe_tup qa_nil) qa_nil))) (qe_tup qa_nil) (nomark _)) (qw_or (qt_cmp (q_ne4 hr) (qe_fxn F5 (Room.mono hr (by omega)) rfl (qa_cons (qe_tup qa_nil) (qa_cons (qe_var 4 rfl (.inl rfl)) qa_nil))) (qe_tup qa_nil) (nomark _)) (qw_or1 (qt_not (qt_val (qe_fxn F8 (Room.mono hr (by omega)) rfl (qa_cons (qe_var 4 rfl (.inl rfl)) (qa_cons (qe_var 5 rfl (.inl rfl)) qa_nil)))))))))) (qss_cons (qs_ret qe_bl) qss_nil) qss_nil) qss_nil)))))))))) (qss_cons (qs_ret qe_bl) qss_nil)))
  · rintro ws G q e ⟨ns, rfl, hl, hq⟩
    refine seqU fun U hU => ?_
    walk_at "R"
    subst hU
    refine seqU fun U hU => ?_
    walk_at "R"
    refine ⟨⟨by (clear F F1 F2 F3 F4 F5 F6 F7 F8 ml mr mx mn nd hr hl hq hU; omega), by (clear F F1 F2 F3 F4 F5 F6 F7 F8 ml mr mx mn nd hr hl hq hU; omega), by (clear F F1 F2 F3 F4 F5 F6 F7 F8 ml mr mx mn nd hr hl hq hU; omega), by (clear F F1 F2 F3 F4 F5 F6 F7 F8 ml mr mx mn nd hr hl hq hU; omega), by split <;> split <;> (clear F F1 F2 F3 F4 F5 F6 F7 F8 ml mr mx mn nd hr hq hU; omega), by split <;> split <;> (clear F F1 F2 F3 F4 F5 F6 F7 F8 ml mr mx mn nd hr hq hU; omega)⟩, ?_⟩
    generalize (rsz 0 _ 6).toNat = N
    refine loop_upS 0 6 N (fun i τ G' => ∃ t2 t3 t4 t5 t6 t7, τ = [some (.scr ns), some (.tup [.tup [.tup [], .int 1]]), t2, t3, t4, t5, t6, t7]) ⟨_, _, _, _, _, _, rfl⟩ ?_ ?_
    · rintro τ G' ⟨t2, t3, t4, t5, t6, t7, rfl⟩
      refine ⟨trivial, ?_⟩
      subst hU
      walk_at "R"
      exact GLe.done (hq _)
    · rintro i τ G' kk hi ⟨t2, t3, t4, t5, t6, t7, rfl⟩ hk
      refine ⟨trivial, ?_⟩
      refine seqU fun U1 hU1 => ?_
      walk_at "R"
      show compW _ _ _ _ _ [none, none, none, some (W.int (0 + (i : Int) * 6)), some (W.scr ns)] G' [] _
      refine comp_dem trivial (fun w hw k hk => ?_) (by simp [upW]) (fun _ => rfl) fun us hus p hp => ?_
      · unfold upW at hw
        obtain ⟨j, _, rfl⟩ := List.mem_map.mp hw
        walk_at "R"
        exact ⟨ns, _, rfl, by (clear F F1 F2 F3 F4 F5 F6 F7 F8 ml mr mx mn nd hr hl hq hU hi hU1 hk hw; omega), hk⟩
      rw [List.nil_append]
      have hlen : us.length = 6 := by rw [hus]; simp [upW]
      obtain ⟨u0, u1, u2, u3, u4, u5, rfl⟩ : ∃ u0 u1 u2 u3 u4 u5, us = [u0, u1, u2, u3, u4, u5] := by
        match us, hlen with
        | [a, b, c, d, e, f], _ => exact ⟨a, b, c, d, e, f, rfl⟩
      have hG : updG G' p (GO.lst (List.map W.int [u0, u1, u2, u3, u4, u5])) p = some (.lst [.int u0, .int u1, .int u2, .int u3, .int u4, .int u5]) := updG_same
      generalize updG G' p (GO.lst (List.map W.int [u0, u1, u2, u3, u4, u5])) = G1 at hG ⊢
      subst hU1
      refine seqU fun U1 hU1 => ?_
      walk_at "R"
      refine ⟨_, _, hG, atI_nat (j := 0) rfl, _, _, hG, atI_nat (j := 1) rfl, ?_⟩
      walk_at "R"
      refine ⟨u0, (u1 % 3).toNat, by congr 3; (clear F F1 F2 F3 F4 F5 F6 F7 F8 ml mr mx mn nd hr hl hq hU hi hk hp hus hlen hG hU1; omega), by (clear F F1 F2 F3 F4 F5 F6 F7 F8 ml mr mx mn nd hr hl hq hU hi hk hp hus hlen hG hU1; omega), by (clear F F1 F2 F3 F4 F5 F6 F7 F8 ml mr mx mn nd hr hl hq hU hi hk hp hus hlen hG hU1; omega), fun a sa wa => ?_⟩
      subst hU1
      refine seqU fun U1 hU1 => ?_
      walk_at "R"
      refine ⟨_, _, hG, atI_nat (j := 2) rfl, _, _, hG, atI_nat (j := 3) rfl, ?_⟩
      walk_at "R"
      refine ⟨u2, (u3 % 3).toNat, by congr 3; (clear F F1 F2 F3 F4 F5 F6 F7 F8 ml mr mx mn nd hr hl hq hU hi hk hp hus hlen hG sa wa hU1; omega), by (clear F F1 F2 F3 F4 F5 F6 F7 F8 ml mr mx mn nd hr hl hq hU hi hk hp hus hlen hG sa wa hU1; omega), by (clear F F1 F2 F3 F4 F5 F6 F7 F8 ml mr mx mn nd hr hl hq hU hi hk hp hus hlen hG sa wa hU1; omega), fun b sb wb => ?_⟩
      subst hU1
      refine seqU fun U1 hU1 => ?_
      walk_at "R"
      refine ⟨_, _, hG, atI_nat (j := 4) rfl, _, _, hG, atI_nat (j := 5) rfl, ?_⟩
      walk_at "R"
      refine ⟨u4, (u5 % 3).toNat, by congr 3; omega, by omega, by omega, fun c0 sc0 wc0 => ?_⟩
      have la := O.len_le_hw a
      have lb := O.len_le_hw b
      have lc0 := O.len_le_hw c0
      have Wa : Wn 2 3 3 (3 * 10 ^ 15) (10 ^ 15) a := Wn.of sa.nf (by have := sa.dp; omega) (by omega) wa sa.mx
      have Wb : Wn 2 3 3 (3 * 10 ^ 15) (10 ^ 15) b := Wn.of sb.nf (by have := sb.dp; omega) (by omega) wb sb.mx
      subst hU1
      refine seqU fun U1 hU1 => ?_
      have main : ∀ c : O, Wn 2 4 4 (4 * 10 ^ 21) (10 ^ 21) c → U1 { nx := kk, ct := kk, bk := U { nx := fun x G1 => ∃ G0, GLe G0 G1 ∧ q W.non G0, rt := fun w G1 => ∃ G0, GLe G0 G1 ∧ q w G0 }, rt := fun w G1 => ∃ G0, GLe G0 G1 ∧ q w G0 } [some (.scr ns), some (.tup [.tup [.tup [], .int 1]]), some (W.int (0 + (i : Int) * 6)), some (.ref p), some (.tup (encP a)), some (.tup (encP b)), some (.tup (encP c)), t7] G1 := fun c Wc => by
        have na := Wa.nf
        have nb := Wb.nf
        have nc := Wc.nf
        have Wab := Wa.wov Wb
        have Wac := Wa.wov Wc
        have Wbc := Wb.wov Wc
        have Wabc := Wab.wov Wc
        have Wm : Wn 2 (3 + 4) 4 (3 * 10 ^ 15 + 4 * 10 ^ 21) (10 ^ 21) (O.mergeO b c) := (Wb.mono (Nat.le_refl _) (by omega) (Int.le_refl _) (by decide)).merge Wc
        have Wam := Wa.wov Wm
        have ka : Kw 3 a := Kw.of Wa (by omega) (by omega) (by decide) (by decide) (by decide)
        have kb : Kw 3 b := Kw.of Wb (by omega) (by omega) (by decide) (by decide) (by decide)
        have kc : Kw 4 c := Kw.of Wc (by omega) (by omega) (by decide) (by decide) (by decide)
        have kab : Kw 9 (wov a b) := Kw.of Wab (by omega) (by omega) (by decide) (by decide) (by decide)
        have kac : Kw 12 (wov a c) := Kw.of Wac (by omega) (by omega) (by decide) (by decide) (by decide)
        have kbc : Kw 12 (wov b c) := Kw.of Wbc (by omega) (by omega) (by decide) (by decide) (by decide)
        have kabc : Kw 36 (wov (wov a b) c) := Kw.of Wabc (by omega) (by omega) (by decide) (by decide) (by decide)
        have km : Kw 7 (O.mergeO b c) := Kw.of Wm (by omega) (by omega) (by decide) (by decide) (by decide)
        have kam : Kw 21 (wov a (O.mergeO b c)) := Kw.of Wam (by omega) (by omega) (by decide) (by decide) (by decide)
        have k1 : Kw 1 O.one := ⟨O.NF.one, by decide, by decide, by decide, by decide⟩
        have kz : Kw 0 O.z := ⟨trivial, by decide, by decide, by decide, by decide⟩
        have e1 : (W.tup [W.tup [W.tup [], W.int 1]]) = .tup (encP O.one) := rfl
        have e2 : (W.tup []) = .tup (encP .z) := rfl
        have dp1 := kabc.dp
        have dp2 := tup_dep (wov (wov a b) c)
        have dp3 := kab.dp
        have dp4 := tup_dep (wov a b)
        have dp5 := kam.dp
        have dp6 := tup_dep (wov a (O.mergeO b c))
        have dp7 := ka.dp
        have dp8 := tup_dep a
        have lab := kab.ln
        have lac := kac.ln
        have lbb := kb.ln
        have lcc := kc.ln
        have dpb := kb.dp
        subst hU1
        refine seqU fun U1 hU1 => ?_
        walk_at "R"
        refine askW ka kb (by omega) (by omega) (by omega) (askW kab kc (by omega) (by omega) (by omega) ?_)
        subst hU1
        refine seqU fun U1 hU1 => ?_
        walk_at "R"
        refine ⟨_, rfl, kabc.nf, by omega, by have := kabc.hw; exact Nat.le_trans (by assumption) (Nat.le_of_ble_eq_true rfl), ?_⟩
        walk_at "R"
        refine askW kb kc (by omega) (by omega) (by omega) (askW ka kbc (by omega) (by omega) (by omega) ?_)
        rw [← wov_assoc na nb nc]
        refine ⟨tup_flat _, tup_flat _, by omega, ?_⟩
        rw [tup_eq, if_neg (by simp)]
        refine askW ka kb (by omega) (by omega) (by omega) (askW kb ka (by omega) (by omega) (by omega) ?_)
        rw [wov_comm nb na]
        refine ⟨tup_flat _, tup_flat _, by omega, ?_⟩
        rw [tup_eq, if_neg (by simp)]
        subst hU1
        refine seqU fun U1 hU1 => ?_
        walk_at "R"
        refine ⟨b, c, rfl, by exact Nat.le_trans (by assumption) (Nat.le_of_ble_eq_true rfl), by exact Nat.le_trans (by assumption) (Nat.le_of_ble_eq_true rfl), by exact Nat.le_trans (by assumption) (Nat.le_of_ble_eq_true rfl), ?_⟩
        refine askW ka km (by omega) (by omega) (by omega) ?_
        refine askW ka kb (by omega) (by omega) (by omega) (askW ka kc (by omega) (by omega) (by omega) ?_)
        refine ⟨wov a b, wov a c, rfl, by exact Nat.le_trans (by assumption) (Nat.le_of_ble_eq_true rfl), by exact Nat.le_trans (by assumption) (Nat.le_of_ble_eq_true rfl), by exact Nat.le_trans (by assumption) (Nat.le_of_ble_eq_true rfl), ?_⟩
        rw [← wov_merge na nb nc]
        refine ⟨tup_flat _, tup_flat _, by omega, ?_⟩
        rw [tup_eq, if_neg (by simp)]
        refine ⟨a, b, c, rfl, ka, kb, kc, kab, kac, ?_⟩
        walk_at "R"
        subst hU1
        walk_at "R"
        rw [e1]
        refine askW ka k1 (by omega) (by omega) (by omega) ?_
        rw [wov_one na]
        refine ⟨tup_flat _, tup_flat _, by omega, ?_⟩
        rw [tup_eq, if_neg (by simp)]
        refine askW (b := .z) ka kz (by omega) (by omega) (by omega) ?_
        rw [wov_z]
        have dz := tup_dep O.z
        have dz2 : O.dp .z = 0 := rfl
        refine ⟨tup_flat .z, by exact Nat.le_trans (by assumption) (Nat.le_of_ble_eq_true rfl), ?_⟩
        rw [tup_nil_eq, if_neg (by simp)]
        refine askW (a := .z) kz ka (by omega) (by omega) (by omega) ?_
        rw [show wov O.z a = O.z from rfl]
        refine ⟨tup_flat .z, by exact Nat.le_trans (by assumption) (Nat.le_of_ble_eq_true rfl), ?_⟩
        rw [tup_nil_eq, if_neg (by simp)]
        refine ⟨a, b, rfl, ⟨ka.nf, ka.dp, by omega, ka.hw, ka.mx⟩, ⟨kb.nf, kb.dp, by exact Nat.le_trans (by assumption) (Nat.le_of_ble_eq_true rfl), kb.hw, kb.mx⟩, ?_⟩
        walk_at "R"
        exact hk _ _ ⟨_, _, _, _, _, _, rfl⟩
      walk_at "R"
      refine ⟨_, _, hG, atI_nat (j := 5) rfl, ?_⟩
      walk_at "R"
      split
      · refine ⟨_, _, hG, atI_nat (j := 4) rfl, b, _, rfl, sb.nf, by have := sb.dp; omega, by exact Nat.le_trans (by assumption) (Nat.le_of_ble_eq_true rfl), by have := sb.mx; omega, fun o no do' wo mo => ?_⟩
        have lo := O.len_le_hw o
        exact main o (Wn.of no (by have := sb.dp; omega) (by omega) (by omega) (by have := sb.mx; omega))
      · exact main c0 ((Wn.of (L := 4) (H := 4) (M := 10 ^ 21) sc0.nf (by have := sc0.dp; omega) (by omega) (by exact Nat.le_trans (by assumption) (Nat.le_of_ble_eq_true rfl)) (by have := sc0.mx; omega)))
theorem law_ok (T : Txt K mg) (F : Fun K "law" "law" (top 31) f fd) : WFn P w K mg base 110 f fd ["_law_script"] spLaw := by
  have Ca := T.d__law_cell_at.fx (P := P) (w := w) (base := base) fun f fd F => fnCa F T.z_len
  have Or := fxOr (P := P) (w := w) (base := base) T 60 (by decide)
  have Nb := fxNb (P := P) (w := w) (base := base) T 40 (by decide)
  have Dr := fxDr (P := P) (w := w) (base := base) T 5 (by decide)
  have Lp := T.d__law_plus.fx fun f fd F => fnLp F Or T.z_sum T.z_tuple
  have Nr := T.d__law_near.fx fun f fd F => fnN8 F Lp
  have Cm := T.d_compare.fx (P := P) (w := w) (base := base) fun f fd F => fnCm F
  have Pa := T.d_parts_above.fx fun f fd F => fnPa F Cm T.z_len
  have Ps := T.d_plus.fx fun f fd F => fnPs F Pa T.z_len
  have Wp := T.d_whole_part.fx (P := P) (w := w) (base := base) fun f fd F => fnWp F
  have Wo := T.d_without_whole.fx fun f fd F => fnWo F Wp
  have Ti := T.d_times.fx fun f fd F => fnTi F Wp Wo Ps T.z_tuple
  have Wh := T.d_is_whole.fxd (P := P) (w := w) (base := base) fun f fd T' ds F => fnWh F T.z_isinstance T.z_int T.z_bool
  have Rs := T.d_raised.fx (P := P) (w := w) (base := base) fun f fd T' ds F => fnRs F Wh
  have Wl := T.d_whole.fx fun f fd F => fnWl F Rs
  have Mg := T.d_merged.fx fun f fd F => fnMg F Cm T.z_len T.z_tuple
  have By := T.d_by_endless.fx fun f fd F => fnBy F Wo Wp
  have Ww := T.d_weave_wholes.fx (P := P) (w := w) (base := base) fun f fd F => fnWw F
  have Wv := T.d_woven.fx fun f fd F => fnWv F By Ww Mg Wl T.z_tuple T.z_sorted
  have Gw := T.d__law_grows.fx fun f fd F => fnGw F Wv Or Ti
  have Pk := T.d__law_parts_kept.fx fun f fd F => fnPk F Wv Mg
  exact fnLw F Dr Ca Nr Nb Wv Mg Gw Pk T.z_len T.z_range T.z_max T.z_min
end
set_option maxHeartbeats 0 in
theorem all_mk {l : PySem.W.OpenLaw} {w : World} {K : PySem.W.Frag} {h : Heap} {mg : Str → Option Value} {fa f1 f2 f3 f4 f5 f6 f7 f8 f9 f10 f11 f12 f13 f14 f15 f16 f17 f18 f19 f20 f21 f22 f23 f24 f25 : Addr} (X : K.In h) (G : h.Ns mainGlobals mg) (hfa : mg "law" = some (.ref fa))
    {od1 an1 od2 an2 od3 an3 od4 an4 od5 an5 od6 an6 od7 an7 od8 an8 od9 an9 od10 an10 od11 an11 od12 an12 od13 an13 od14 an14 od15 an15 od16 an16 od17 an17 od18 an18 od19 an19 od20 an20 od21 an21 od22 an22 od23 an23 od24 an24 od25 an25 : Option Addr} {sl1 sl2 sl3 sl4 sl5 sl6 sl7 sl8 sl9 sl10 sl11 sl12 sl13 sl14 sl15 sl16 sl17 sl18 sl19 sl20 sl21 sl22 sl23 sl24 sl25 : Array (Option Value)} {oc1 kV1 dc1 pm1 cd1 ct1 oc2 kV2 dc2 pm2 cd2 ct2 oc3 kV3 dc3 pm3 cd3 ct3 oc4 kV4 dc4 pm4 cd4 ct4 oc5 kV5 dc5 pm5 cd5 ct5 oc6 kV6 dc6 pm6 cd6 ct6 oc7 kV7 dc7 pm7 cd7 ct7 oc8 kV8 dc8 pm8 cd8 ct8 oc9 kV9 dc9 pm9 cd9 ct9 oc10 kV10 dc10 pm10 cd10 ct10 oc11 kV11 dc11 pm11 cd11 ct11 oc12 kV12 dc12 pm12 cd12 ct12 oc13 kV13 dc13 pm13 cd13 ct13 oc14 kV14 dc14 pm14 cd14 ct14 oc15 kV15 dc15 pm15 cd15 ct15 oc16 kV16 dc16 pm16 cd16 ct16 oc17 kV17 dc17 pm17 cd17 ct17 oc18 kV18 dc18 pm18 cd18 ct18 oc19 kV19 dc19 pm19 cd19 ct19 oc20 kV20 dc20 pm20 cd20 ct20 oc21 kV21 dc21 pm21 cd21 ct21 oc22 kV22 dc22 pm22 cd22 ct22 oc23 kV23 dc23 pm23 cd23 ct23 oc24 kV24 dc24 pm24 cd24 ct24 oc25 kV25 dc25 pm25 cd25 ct25 : Value} {T1 : Addr} {tc1 : Value} {td1 : Option Addr} {tn1 : Nat} {ts1 : Array (Option Value)} {tk1_0 : Tok} {T3 : Addr} {tc3 : Value} {td3 : Option Addr} {tn3 : Nat} {ts3 : Array (Option Value)} {tk3_0 : Tok}
    (a1 : PySem.W.nsIn K mainGlobals "is_whole" = some (some (.ref f1))) (l1 : K.lookup f1 = some ⟨oc1, od1, .func (PySem.W.fnOf "is_whole" "is_whole" (defArgs (top 4)) (defBody (top 4)) (defScope (top 4)) (.ref T1) kV1 dc1 pm1 an1 cd1 ct1), sl1⟩) (c1 : PySem.W.codeIn K cd1 "is_whole" = true) (k1 : PySem.W.keepIn K (.ref f1) = true)
    (a2 : PySem.W.nsIn K mainGlobals "whole" = some (some (.ref f2))) (l2 : K.lookup f2 = some ⟨oc2, od2, .func (PySem.W.fnOf "whole" "whole" (defArgs (top 5)) (defBody (top 5)) (defScope (top 5)) .none kV2 dc2 pm2 an2 cd2 ct2), sl2⟩) (c2 : PySem.W.codeIn K cd2 "whole" = true) (k2 : PySem.W.keepIn K (.ref f2) = true)
    (a3 : PySem.W.nsIn K mainGlobals "raised" = some (some (.ref f3))) (l3 : K.lookup f3 = some ⟨oc3, od3, .func (PySem.W.fnOf "raised" "raised" (defArgs (top 6)) (defBody (top 6)) (defScope (top 6)) (.ref T3) kV3 dc3 pm3 an3 cd3 ct3), sl3⟩) (c3 : PySem.W.codeIn K cd3 "raised" = true) (k3 : PySem.W.keepIn K (.ref f3) = true)
    (a4 : PySem.W.nsIn K mainGlobals "compare" = some (some (.ref f4))) (l4 : K.lookup f4 = some ⟨oc4, od4, .func (PySem.W.fnOf "compare" "compare" (defArgs (top 7)) (defBody (top 7)) (defScope (top 7)) .none kV4 dc4 pm4 an4 cd4 ct4), sl4⟩) (c4 : PySem.W.codeIn K cd4 "compare" = true) (k4 : PySem.W.keepIn K (.ref f4) = true)
    (a5 : PySem.W.nsIn K mainGlobals "whole_part" = some (some (.ref f5))) (l5 : K.lookup f5 = some ⟨oc5, od5, .func (PySem.W.fnOf "whole_part" "whole_part" (defArgs (top 8)) (defBody (top 8)) (defScope (top 8)) .none kV5 dc5 pm5 an5 cd5 ct5), sl5⟩) (c5 : PySem.W.codeIn K cd5 "whole_part" = true) (k5 : PySem.W.keepIn K (.ref f5) = true)
    (a6 : PySem.W.nsIn K mainGlobals "without_whole" = some (some (.ref f6))) (l6 : K.lookup f6 = some ⟨oc6, od6, .func (PySem.W.fnOf "without_whole" "without_whole" (defArgs (top 9)) (defBody (top 9)) (defScope (top 9)) .none kV6 dc6 pm6 an6 cd6 ct6), sl6⟩) (c6 : PySem.W.codeIn K cd6 "without_whole" = true) (k6 : PySem.W.keepIn K (.ref f6) = true)
    (a7 : PySem.W.nsIn K mainGlobals "plus" = some (some (.ref f7))) (l7 : K.lookup f7 = some ⟨oc7, od7, .func (PySem.W.fnOf "plus" "plus" (defArgs (top 11)) (defBody (top 11)) (defScope (top 11)) .none kV7 dc7 pm7 an7 cd7 ct7), sl7⟩) (c7 : PySem.W.codeIn K cd7 "plus" = true) (k7 : PySem.W.keepIn K (.ref f7) = true)
    (a8 : PySem.W.nsIn K mainGlobals "parts_above" = some (some (.ref f8))) (l8 : K.lookup f8 = some ⟨oc8, od8, .func (PySem.W.fnOf "parts_above" "parts_above" (defArgs (top 12)) (defBody (top 12)) (defScope (top 12)) .none kV8 dc8 pm8 an8 cd8 ct8), sl8⟩) (c8 : PySem.W.codeIn K cd8 "parts_above" = true) (k8 : PySem.W.keepIn K (.ref f8) = true)
    (a9 : PySem.W.nsIn K mainGlobals "merged" = some (some (.ref f9))) (l9 : K.lookup f9 = some ⟨oc9, od9, .func (PySem.W.fnOf "merged" "merged" (defArgs (top 13)) (defBody (top 13)) (defScope (top 13)) .none kV9 dc9 pm9 an9 cd9 ct9), sl9⟩) (c9 : PySem.W.codeIn K cd9 "merged" = true) (k9 : PySem.W.keepIn K (.ref f9) = true)
    (a10 : PySem.W.nsIn K mainGlobals "times" = some (some (.ref f10))) (l10 : K.lookup f10 = some ⟨oc10, od10, .func (PySem.W.fnOf "times" "times" (defArgs (top 15)) (defBody (top 15)) (defScope (top 15)) .none kV10 dc10 pm10 an10 cd10 ct10), sl10⟩) (c10 : PySem.W.codeIn K cd10 "times" = true) (k10 : PySem.W.keepIn K (.ref f10) = true)
    (a11 : PySem.W.nsIn K mainGlobals "woven" = some (some (.ref f11))) (l11 : K.lookup f11 = some ⟨oc11, od11, .func (PySem.W.fnOf "woven" "woven" (defArgs (top 16)) (defBody (top 16)) (defScope (top 16)) .none kV11 dc11 pm11 an11 cd11 ct11), sl11⟩) (c11 : PySem.W.codeIn K cd11 "woven" = true) (k11 : PySem.W.keepIn K (.ref f11) = true)
    (a12 : PySem.W.nsIn K mainGlobals "by_endless" = some (some (.ref f12))) (l12 : K.lookup f12 = some ⟨oc12, od12, .func (PySem.W.fnOf "by_endless" "by_endless" (defArgs (top 17)) (defBody (top 17)) (defScope (top 17)) .none kV12 dc12 pm12 an12 cd12 ct12), sl12⟩) (c12 : PySem.W.codeIn K cd12 "by_endless" = true) (k12 : PySem.W.keepIn K (.ref f12) = true)
    (a13 : PySem.W.nsIn K mainGlobals "weave_wholes" = some (some (.ref f13))) (l13 : K.lookup f13 = some ⟨oc13, od13, .func (PySem.W.fnOf "weave_wholes" "weave_wholes" (defArgs (top 18)) (defBody (top 18)) (defScope (top 18)) .none kV13 dc13 pm13 an13 cd13 ct13), sl13⟩) (c13 : PySem.W.codeIn K cd13 "weave_wholes" = true) (k13 : PySem.W.keepIn K (.ref f13) = true)
    (a14 : PySem.W.nsIn K mainGlobals "_law_cell_at" = some (some (.ref f14))) (l14 : K.lookup f14 = some ⟨oc14, od14, .func (PySem.W.fnOf "_law_cell_at" "_law_cell_at" (defArgs (top 20)) (defBody (top 20)) (defScope (top 20)) .none kV14 dc14 pm14 an14 cd14 ct14), sl14⟩) (c14 : PySem.W.codeIn K cd14 "_law_cell_at" = true) (k14 : PySem.W.keepIn K (.ref f14) = true)
    (a15 : PySem.W.nsIn K mainGlobals "_law_mixed" = some (some (.ref f15))) (l15 : K.lookup f15 = some ⟨oc15, od15, .func (PySem.W.fnOf "_law_mixed" "_law_mixed" (defArgs (top 21)) (defBody (top 21)) (defScope (top 21)) .none kV15 dc15 pm15 an15 cd15 ct15), sl15⟩) (c15 : PySem.W.codeIn K cd15 "_law_mixed" = true) (k15 : PySem.W.keepIn K (.ref f15) = true)
    (a16 : PySem.W.nsIn K mainGlobals "_law_order" = some (some (.ref f16))) (l16 : K.lookup f16 = some ⟨oc16, od16, .func (PySem.W.fnOf "_law_order" "_law_order" (defArgs (top 22)) (defBody (top 22)) (defScope (top 22)) .none kV16 dc16 pm16 an16 cd16 ct16), sl16⟩) (c16 : PySem.W.codeIn K cd16 "_law_order" = true) (k16 : PySem.W.keepIn K (.ref f16) = true)
    (a17 : PySem.W.nsIn K mainGlobals "_law_number" = some (some (.ref f17))) (l17 : K.lookup f17 = some ⟨oc17, od17, .func (PySem.W.fnOf "_law_number" "_law_number" (defArgs (top 23)) (defBody (top 23)) (defScope (top 23)) .none kV17 dc17 pm17 an17 cd17 ct17), sl17⟩) (c17 : PySem.W.codeIn K cd17 "_law_number" = true) (k17 : PySem.W.keepIn K (.ref f17) = true)
    (a18 : PySem.W.nsIn K mainGlobals "_law_put" = some (some (.ref f18))) (l18 : K.lookup f18 = some ⟨oc18, od18, .func (PySem.W.fnOf "_law_put" "_law_put" (defArgs (top 24)) (defBody (top 24)) (defScope (top 24)) .none kV18 dc18 pm18 an18 cd18 ct18), sl18⟩) (c18 : PySem.W.codeIn K cd18 "_law_put" = true) (k18 : PySem.W.keepIn K (.ref f18) = true)
    (a19 : PySem.W.nsIn K mainGlobals "_law_many" = some (some (.ref f19))) (l19 : K.lookup f19 = some ⟨oc19, od19, .func (PySem.W.fnOf "_law_many" "_law_many" (defArgs (top 25)) (defBody (top 25)) (defScope (top 25)) .none kV19 dc19 pm19 an19 cd19 ct19), sl19⟩) (c19 : PySem.W.codeIn K cd19 "_law_many" = true) (k19 : PySem.W.keepIn K (.ref f19) = true)
    (a20 : PySem.W.nsIn K mainGlobals "_law_drawn" = some (some (.ref f20))) (l20 : K.lookup f20 = some ⟨oc20, od20, .func (PySem.W.fnOf "_law_drawn" "_law_drawn" (defArgs (top 26)) (defBody (top 26)) (defScope (top 26)) .none kV20 dc20 pm20 an20 cd20 ct20), sl20⟩) (c20 : PySem.W.codeIn K cd20 "_law_drawn" = true) (k20 : PySem.W.keepIn K (.ref f20) = true)
    (a21 : PySem.W.nsIn K mainGlobals "_law_plus" = some (some (.ref f21))) (l21 : K.lookup f21 = some ⟨oc21, od21, .func (PySem.W.fnOf "_law_plus" "_law_plus" (defArgs (top 27)) (defBody (top 27)) (defScope (top 27)) .none kV21 dc21 pm21 an21 cd21 ct21), sl21⟩) (c21 : PySem.W.codeIn K cd21 "_law_plus" = true) (k21 : PySem.W.keepIn K (.ref f21) = true)
    (a22 : PySem.W.nsIn K mainGlobals "_law_near" = some (some (.ref f22))) (l22 : K.lookup f22 = some ⟨oc22, od22, .func (PySem.W.fnOf "_law_near" "_law_near" (defArgs (top 28)) (defBody (top 28)) (defScope (top 28)) .none kV22 dc22 pm22 an22 cd22 ct22), sl22⟩) (c22 : PySem.W.codeIn K cd22 "_law_near" = true) (k22 : PySem.W.keepIn K (.ref f22) = true)
    (a23 : PySem.W.nsIn K mainGlobals "_law_parts_kept" = some (some (.ref f23))) (l23 : K.lookup f23 = some ⟨oc23, od23, .func (PySem.W.fnOf "_law_parts_kept" "_law_parts_kept" (defArgs (top 29)) (defBody (top 29)) (defScope (top 29)) .none kV23 dc23 pm23 an23 cd23 ct23), sl23⟩) (c23 : PySem.W.codeIn K cd23 "_law_parts_kept" = true) (k23 : PySem.W.keepIn K (.ref f23) = true)
    (a24 : PySem.W.nsIn K mainGlobals "_law_grows" = some (some (.ref f24))) (l24 : K.lookup f24 = some ⟨oc24, od24, .func (PySem.W.fnOf "_law_grows" "_law_grows" (defArgs (top 30)) (defBody (top 30)) (defScope (top 30)) .none kV24 dc24 pm24 an24 cd24 ct24), sl24⟩) (c24 : PySem.W.codeIn K cd24 "_law_grows" = true) (k24 : PySem.W.keepIn K (.ref f24) = true)
    (a25 : PySem.W.nsIn K mainGlobals "law" = some (some (.ref f25))) (l25 : K.lookup f25 = some ⟨oc25, od25, .func (PySem.W.fnOf "law" "law" (defArgs (top 31)) (defBody (top 31)) (defScope (top 31)) .none kV25 dc25 pm25 an25 cd25 ct25), sl25⟩) (c25 : PySem.W.codeIn K cd25 "law" = true) (k25 : PySem.W.keepIn K (.ref f25) = true)
    (t1 : K.lookup T1 = some ⟨tc1, td1, .seq #[.int 0 tk1_0] tn1, ts1⟩)
    (t3 : K.lookup T3 = some ⟨tc3, td3, .seq #[.int 1 tk3_0] tn3, ts3⟩)
    (z1 : PySem.W.nsIn K mainGlobals "ValueError" = some none) (z2 : PySem.W.nsIn K mainGlobals "bool" = some none) (z3 : PySem.W.nsIn K mainGlobals "int" = some none) (z4 : PySem.W.nsIn K mainGlobals "isinstance" = some none) (z5 : PySem.W.nsIn K mainGlobals "len" = some none) (z6 : PySem.W.nsIn K mainGlobals "max" = some none) (z7 : PySem.W.nsIn K mainGlobals "min" = some none) (z8 : PySem.W.nsIn K mainGlobals "range" = some none) (z9 : PySem.W.nsIn K mainGlobals "sorted" = some none) (z10 : PySem.W.nsIn K mainGlobals "sum" = some none) (z11 : PySem.W.nsIn K mainGlobals "tuple" = some none) (z12 : PySem.W.nsIn K mainGlobals "zip" = some none) :
    ∃ fd : FuncData, (∀ (s : Shared) (v : Value), BindsTo s fd ⟨[v], []⟩ [("_law_script", v)]) ∧ ∀ base : Heap, K.In base → base.Ns mainGlobals mg → FnOk l.prog w K mg base CX0 110 fa fd ["_law_script"] (LSp K spLaw) := by
  have e := hfa.symm.trans (PySem.W.mg_of X G a25)
  cases e
  have F1 : FunD K "is_whole" "is_whole" (top 4) f1 _ T1 [.int 0 tk1_0] := fun_mkD l1 c1 k1 t1 rfl
  have b1 : Binds K _ ["thing", "least"] [] := F1.binds fun _ _ _ _ _ _ us hl => (fun (q : us.length = 2) => by clear hl; revert us; refine lnS (fun _ => lnS (fun _ => lnZ ?_)); exact ⟨_, rfl, rfl⟩) (by simpa using hl)
  have e1 : Binds K _ ["thing", "least"] [.int 0 tk1_0] := F1.binds fun _ _ _ _ _ _ us hl => (fun (q : us.length = 1) => by clear hl; revert us; refine lnS (fun _ => lnZ ?_); exact ⟨_, rfl, rfl⟩) (by simpa using hl)
  have F2 := fun_mk (st := top 5) l2 c2 k2
  have b2 := F2.binds (ps := ["n"]) fun _ _ _ _ _ _ => lnS (fun _ => lnZ rfl)
  have F3 : FunD K "raised" "raised" (top 6) f3 _ T3 [.int 1 tk3_0] := fun_mkD l3 c3 k3 t3 rfl
  have b3 : Binds K _ ["exponent", "times"] [] := F3.binds fun _ _ _ _ _ _ us hl => (fun (q : us.length = 2) => by clear hl; revert us; refine lnS (fun _ => lnS (fun _ => lnZ ?_)); exact ⟨_, rfl, rfl⟩) (by simpa using hl)
  have e3 : Binds K _ ["exponent", "times"] [.int 1 tk3_0] := F3.binds fun _ _ _ _ _ _ us hl => (fun (q : us.length = 1) => by clear hl; revert us; refine lnS (fun _ => lnZ ?_); exact ⟨_, rfl, rfl⟩) (by simpa using hl)
  have F4 := fun_mk (st := top 7) l4 c4 k4
  have b4 := F4.binds (ps := ["a", "b"]) fun _ _ _ _ _ _ => lnS (fun _ => lnS (fun _ => lnZ rfl))
  have F5 := fun_mk (st := top 8) l5 c5 k5
  have b5 := F5.binds (ps := ["a"]) fun _ _ _ _ _ _ => lnS (fun _ => lnZ rfl)
  have F6 := fun_mk (st := top 9) l6 c6 k6
  have b6 := F6.binds (ps := ["a"]) fun _ _ _ _ _ _ => lnS (fun _ => lnZ rfl)
  have F7 := fun_mk (st := top 11) l7 c7 k7
  have b7 := F7.binds (ps := ["a", "b"]) fun _ _ _ _ _ _ => lnS (fun _ => lnS (fun _ => lnZ rfl))
  have F8 := fun_mk (st := top 12) l8 c8 k8
  have b8 := F8.binds (ps := ["a", "exponent"]) fun _ _ _ _ _ _ => lnS (fun _ => lnS (fun _ => lnZ rfl))
  have F9 := fun_mk (st := top 13) l9 c9 k9
  have b9 := F9.binds (ps := ["a", "b"]) fun _ _ _ _ _ _ => lnS (fun _ => lnS (fun _ => lnZ rfl))
  have F10 := fun_mk (st := top 15) l10 c10 k10
  have b10 := F10.binds (ps := ["a", "b"]) fun _ _ _ _ _ _ => lnS (fun _ => lnS (fun _ => lnZ rfl))
  have F11 := fun_mk (st := top 16) l11 c11 k11
  have b11 := F11.binds (ps := ["a", "b"]) fun _ _ _ _ _ _ => lnS (fun _ => lnS (fun _ => lnZ rfl))
  have F12 := fun_mk (st := top 17) l12 c12 k12
  have b12 := F12.binds (ps := ["a"]) fun _ _ _ _ _ _ => lnS (fun _ => lnZ rfl)
  have F13 := fun_mk (st := top 18) l13 c13 k13
  have b13 := F13.binds (ps := ["found", "some", "others"]) fun _ _ _ _ _ _ => lnS (fun _ => lnS (fun _ => lnS (fun _ => lnZ rfl)))
  have F14 := fun_mk (st := top 20) l14 c14 k14
  have b14 := F14.binds (ps := ["_law_script", "_law_k"]) fun _ _ _ _ _ _ => lnS (fun _ => lnS (fun _ => lnZ rfl))
  have F15 := fun_mk (st := top 21) l15 c15 k15
  have b15 := F15.binds (ps := ["_law_cell", "_law_k"]) fun _ _ _ _ _ _ => lnS (fun _ => lnS (fun _ => lnZ rfl))
  have F16 := fun_mk (st := top 22) l16 c16 k16
  have b16 := F16.binds (ps := ["_law_a", "_law_b"]) fun _ _ _ _ _ _ => lnS (fun _ => lnS (fun _ => lnZ rfl))
  have F17 := fun_mk (st := top 23) l17 c17 k17
  have b17 := F17.binds (ps := ["_law_found"]) fun _ _ _ _ _ _ => lnS (fun _ => lnZ rfl)
  have F18 := fun_mk (st := top 24) l18 c18 k18
  have b18 := F18.binds (ps := ["_law_parts", "_law_part"]) fun _ _ _ _ _ _ => lnS (fun _ => lnS (fun _ => lnZ rfl))
  have F19 := fun_mk (st := top 25) l19 c19 k19
  have b19 := F19.binds (ps := ["_law_number_here"]) fun _ _ _ _ _ _ => lnS (fun _ => lnZ rfl)
  have F20 := fun_mk (st := top 26) l20 c20 k20
  have b20 := F20.binds (ps := ["_law_cell", "_law_level"]) fun _ _ _ _ _ _ => lnS (fun _ => lnS (fun _ => lnZ rfl))
  have F21 := fun_mk (st := top 27) l21 c21 k21
  have b21 := F21.binds (ps := ["_law_a", "_law_b"]) fun _ _ _ _ _ _ => lnS (fun _ => lnS (fun _ => lnZ rfl))
  have F22 := fun_mk (st := top 28) l22 c22 k22
  have b22 := F22.binds (ps := ["_law_a", "_law_cell"]) fun _ _ _ _ _ _ => lnS (fun _ => lnS (fun _ => lnZ rfl))
  have F23 := fun_mk (st := top 29) l23 c23 k23
  have b23 := F23.binds (ps := ["_law_a", "_law_b"]) fun _ _ _ _ _ _ => lnS (fun _ => lnS (fun _ => lnZ rfl))
  have F24 := fun_mk (st := top 30) l24 c24 k24
  have b24 := F24.binds (ps := ["_law_a", "_law_b", "_law_c"]) fun _ _ _ _ _ _ => lnS (fun _ => lnS (fun _ => lnS (fun _ => lnZ rfl)))
  have F25 := fun_mk (st := top 31) l25 c25 k25
  have T : Txt K mg := ⟨⟨f1, _, T1, _, [.int 0], F1, b1, e1, PySem.W.mg_of X G a1, (.cons ⟨_, rfl⟩ .nil), fun _ => (.cons (.int _) .nil)⟩, ⟨f2, _, F2, b2, PySem.W.mg_of X G a2⟩, ⟨f3, _, T3, _, [.int 1], F3, b3, e3, PySem.W.mg_of X G a3, (.cons ⟨_, rfl⟩ .nil), fun _ => (.cons (.int _) .nil)⟩, ⟨f4, _, F4, b4, PySem.W.mg_of X G a4⟩, ⟨f5, _, F5, b5, PySem.W.mg_of X G a5⟩, ⟨f6, _, F6, b6, PySem.W.mg_of X G a6⟩, ⟨f7, _, F7, b7, PySem.W.mg_of X G a7⟩, ⟨f8, _, F8, b8, PySem.W.mg_of X G a8⟩, ⟨f9, _, F9, b9, PySem.W.mg_of X G a9⟩, ⟨f10, _, F10, b10, PySem.W.mg_of X G a10⟩, ⟨f11, _, F11, b11, PySem.W.mg_of X G a11⟩, ⟨f12, _, F12, b12, PySem.W.mg_of X G a12⟩, ⟨f13, _, F13, b13, PySem.W.mg_of X G a13⟩, ⟨f14, _, F14, b14, PySem.W.mg_of X G a14⟩, ⟨f15, _, F15, b15, PySem.W.mg_of X G a15⟩, ⟨f16, _, F16, b16, PySem.W.mg_of X G a16⟩, ⟨f17, _, F17, b17, PySem.W.mg_of X G a17⟩, ⟨f18, _, F18, b18, PySem.W.mg_of X G a18⟩, ⟨f19, _, F19, b19, PySem.W.mg_of X G a19⟩, ⟨f20, _, F20, b20, PySem.W.mg_of X G a20⟩, ⟨f21, _, F21, b21, PySem.W.mg_of X G a21⟩, ⟨f22, _, F22, b22, PySem.W.mg_of X G a22⟩, ⟨f23, _, F23, b23, PySem.W.mg_of X G a23⟩, ⟨f24, _, F24, b24, PySem.W.mg_of X G a24⟩, PySem.W.mg_none_of X G z1, PySem.W.mg_none_of X G z2, PySem.W.mg_none_of X G z3, PySem.W.mg_none_of X G z4, PySem.W.mg_none_of X G z5, PySem.W.mg_none_of X G z6, PySem.W.mg_none_of X G z7, PySem.W.mg_none_of X G z8, PySem.W.mg_none_of X G z9, PySem.W.mg_none_of X G z10, PySem.W.mg_none_of X G z11, PySem.W.mg_none_of X G z12⟩
  exact ⟨PySem.W.fnOf "law" "law" (defArgs (top 31)) (defBody (top 31)) (defScope (top 31)) .none kV25 dc25 pm25 an25 cd25 ct25, fun s v => .of_eq rfl, fun base _ _ => law_ok T F25⟩
theorem walk {l : PySem.W.OpenLaw} {q : Program} {loose : List Str} {XP : (Str → Option Value) → Heap → Prop} {YP : World → Heap → Prop} {d : DefRec} {K : Params → PySem.W.Frag} (hn : l.most = some 63) (hdf : d.params.defaults = [])
    (hY : ∀ (w : World) (h : Heap), YP w h → (K w.params).In h)
    (F : ∀ (w : World) (mg : Str → Option Value) (fa : Addr) (h : Heap), (K w.params).In h → h.Ns mainGlobals mg → mg d.name = some (.ref fa) →
      ∃ fd : FuncData, (∀ (s : Shared) (u : Value), BindsTo s fd ⟨[u], []⟩ [("_law_script", u)]) ∧ ∀ base : Heap, (K w.params).In base → base.Ns mainGlobals mg → FnOk l.prog w (K w.params) mg base CX0 110 fa fd ["_law_script"] (LSp (K w.params) spLaw)) :
    PySem.W.WalkO q loose XP YP l.row.toRowW d [] (fun f vs => PySem.call f vs) :=
  L2.walk_of (n := 63) (k := 110) (x := "_law_script") (CX := fun _ => CX0) (sp := fun w => LSp (K w.params) spLaw) hn (by decide) hdf ⟨rfl, by decide, by decide⟩ hY F (fun _ _ _ _ hl hO hS => law_start hO hS hl) fun _ _ _ _ _ z => z
end Lw
noncomputable def PySem.W.Fast.tw11970457977686629345 : Unit := ()
noncomputable def PySem.W.Fast.tw16150508683716982565 : Unit := ()
noncomputable def PySem.W.Fast.tw12597507891551057670 : Unit := ()
noncomputable def PySem.W.Fast.tw4833193632435292359 : Unit := ()
noncomputable def PySem.W.Fast.tw10501542577051682351 : Unit := ()
noncomputable def PySem.W.Fast.tw18237908040427758640 : Unit := ()
noncomputable def PySem.W.Fast.tw1172990698963850199 : Unit := ()
noncomputable def PySem.W.Fast.tw2576302520182162909 : Unit := ()
open PySem PySem.W PyProof.Rows
set_option maxRecDepth 100000 in
set_option maxHeartbeats 0 in
theorem PySem.Challenge.cw_hydrahouse_k25_woven_holds : PySem.Challenge.rw_hydrahouse_k25_woven.Holds := by
  w_on; o_law; k_head; (case hw => w_witness2)
  k_fill
  refine Lw.walk (l := PySem.Challenge.rw_hydrahouse_k25_woven) rfl rfl (fun w h Y => PySem.W.kIn_of Y) ?F
  case F =>
    intro w mg fa h KX G hmg
    refine' Lw.all_mk KX G hmg ?a1 ?l1 ?c1 ?k1 ?a2 ?l2 ?c2 ?k2 ?a3 ?l3 ?c3 ?k3 ?a4 ?l4 ?c4 ?k4 ?a5 ?l5 ?c5 ?k5 ?a6 ?l6 ?c6 ?k6 ?a7 ?l7 ?c7 ?k7 ?a8 ?l8 ?c8 ?k8 ?a9 ?l9 ?c9 ?k9 ?a10 ?l10 ?c10 ?k10 ?a11 ?l11 ?c11 ?k11 ?a12 ?l12 ?c12 ?k12 ?a13 ?l13 ?c13 ?k13 ?a14 ?l14 ?c14 ?k14 ?a15 ?l15 ?c15 ?k15 ?a16 ?l16 ?c16 ?k16 ?a17 ?l17 ?c17 ?k17 ?a18 ?l18 ?c18 ?k18 ?a19 ?l19 ?c19 ?k19 ?a20 ?l20 ?c20 ?k20 ?a21 ?l21 ?c21 ?k21 ?a22 ?l22 ?c22 ?k22 ?a23 ?l23 ?c23 ?k23 ?a24 ?l24 ?c24 ?k24 ?a25 ?l25 ?c25 ?k25 ?t1 ?t3 ?z1 ?z2 ?z3 ?z4 ?z5 ?z6 ?z7 ?z8 ?z9 ?z10 ?z11 ?z12
    (case a1 => k_is)
    (case l1 => k_is)
    (case c1 => k_is)
    (case k1 => k_is)
    (case a2 => k_is)
    (case l2 => k_is)
    (case c2 => k_is)
    (case k2 => k_is)
    (case a3 => k_is)
    (case l3 => k_is)
    (case c3 => k_is)
    (case k3 => k_is)
    (case a4 => k_is)
    (case l4 => k_is)
    (case c4 => k_is)
    (case k4 => k_is)
    (case a5 => k_is)
    (case l5 => k_is)
    (case c5 => k_is)
    (case k5 => k_is)
    (case a6 => k_is)
    (case l6 => k_is)
    (case c6 => k_is)
    (case k6 => k_is)
    (case a7 => k_is)
    (case l7 => k_is)
    (case c7 => k_is)
    (case k7 => k_is)
    (case a8 => k_is)
    (case l8 => k_is)
    (case c8 => k_is)
    (case k8 => k_is)
    (case a9 => k_is)
    (case l9 => k_is)
    (case c9 => k_is)
    (case k9 => k_is)
    (case a10 => k_is)
    (case l10 => k_is)
    (case c10 => k_is)
    (case k10 => k_is)
    (case a11 => k_is)
    (case l11 => k_is)
    (case c11 => k_is)
    (case k11 => k_is)
    (case a12 => k_is)
    (case l12 => k_is)
    (case c12 => k_is)
    (case k12 => k_is)
    (case a13 => k_is)
    (case l13 => k_is)
    (case c13 => k_is)
    (case k13 => k_is)
    (case a14 => k_is)
    (case l14 => k_is)
    (case c14 => k_is)
    (case k14 => k_is)
    (case a15 => k_is)
    (case l15 => k_is)
    (case c15 => k_is)
    (case k15 => k_is)
    (case a16 => k_is)
    (case l16 => k_is)
    (case c16 => k_is)
    (case k16 => k_is)
    (case a17 => k_is)
    (case l17 => k_is)
    (case c17 => k_is)
    (case k17 => k_is)
    (case a18 => k_is)
    (case l18 => k_is)
    (case c18 => k_is)
    (case k18 => k_is)
    (case a19 => k_is)
    (case l19 => k_is)
    (case c19 => k_is)
    (case k19 => k_is)
    (case a20 => k_is)
    (case l20 => k_is)
    (case c20 => k_is)
    (case k20 => k_is)
    (case a21 => k_is)
    (case l21 => k_is)
    (case c21 => k_is)
    (case k21 => k_is)
    (case a22 => k_is)
    (case l22 => k_is)
    (case c22 => k_is)
    (case k22 => k_is)
    (case a23 => k_is)
    (case l23 => k_is)
    (case c23 => k_is)
    (case k23 => k_is)
    (case a24 => k_is)
    (case l24 => k_is)
    (case c24 => k_is)
    (case k24 => k_is)
    (case a25 => k_is)
    (case l25 => k_is)
    (case c25 => k_is)
    (case k25 => k_is)
    (case t1 => k_is)
    (case t3 => k_is)
    (case z1 => k_is)
    (case z2 => k_is)
    (case z3 => k_is)
    (case z4 => k_is)
    (case z5 => k_is)
    (case z6 => k_is)
    (case z7 => k_is)
    (case z8 => k_is)
    (case z9 => k_is)
    (case z10 => k_is)
    (case z11 => k_is)
    (case z12 => k_is)
