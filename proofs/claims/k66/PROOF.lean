import PyProof.Rows.All
import Wide.All
import OpenK.AllK
import Wide.FinOn
import KE.KEqDict
import KE.KPairComp
import KE.KDictList
import KE.KRevSl
import PyProof.Rows.SetFrom
import KE.KRevIter
import KE.KDictOf
import KE.KSortAsk
import KE.KSortTup
import PyProof.Rows.SortRev
import KE.KDictSum
import PySem.Challenge.RW_hydrahouse_k66_no_fall
set_option bootstrap.genMatcherCode false
-- CHANGE: your row's module here, as the last of these rows
set_option Elab.async false
set_option linter.all false
set_option maxRecDepth 100000
open PySem.W (callWith_K clsIn codeIn emptyDict excIn findIn fnOf hasDictIn hideAll hideAll_get hideAll_none instIn instObj isFn keepIn kia_one kitOne lookIn looks_findIn makesIn mg_none_of mg_of mroIn nsIn of_hideAll plainGet plainOver typeIn)
namespace L2
open PySem PySem.Spec PyProof.Rows
noncomputable abbrev aF:=Sum Int Str
noncomputable def iG:aF->Value->Bool
 | .inl k,v=>Value.isInt k v
 | .inr x,v=>Value.isStrOf x v
noncomputable def BQ (w:World):aF->Int
 | .inl k=>hashInt k
 | .inr x=>hashStr w x
theorem bD:∀{k:aF} {v:Value},iG k v=true->(∃i t,k=Sum.inl i/\v=Value.int i t)∨(∃x t,k=Sum.inr x/\v=Value.str x t)
 | .inl i,v,h=>by
   obtain ⟨t,e⟩:=Value.isInt_shape (k:=i) (v:=v) h;exact .inl ⟨i,t,rfl,e⟩
 | .inr x,v,h=>by
   obtain ⟨t,e⟩:=Value.isStrOf_shape (x:=x) (v:=v) h;exact .inr ⟨x,t,rfl,e⟩
theorem qg (i:Int) (t:Tok):iG (.inl i) (.int i t)=true:=by simp [iG,Value.isInt]
theorem qh (x:Str) (t:Tok):iG (.inr x) (.str x t)=true:=by simp [iG,Value.isStrOf]
theorem xJ (a b:Int):decide ((Sum.inl a:aF)=Sum.inl b)=(a==b):=by
 by_cases e:a=b
 ·subst e;simp
 ·have h:¬(Sum.inl a:aF)=Sum.inl b:=λq=>e (Sum.inl.inj q);rw [decide_eq_false h];exact (beq_eq_false_iff_ne.mpr e).symm
theorem xK (a b:Str):decide ((Sum.inr a:aF)=Sum.inr b)=decide (a=b):=by
 by_cases e:a=b
 ·subst e;simp
 ·have h:¬(Sum.inr a:aF)=Sum.inr b:=λq=>e (Sum.inr.inj q);rw [decide_eq_false h,decide_eq_false e]
theorem xL (a:Int) (b:Str):decide ((Sum.inl a:aF)=Sum.inr b)=false:=decide_eq_false (λq=>nomatch q)
theorem xM (a:Str) (b:Int):decide ((Sum.inr a:aF)=Sum.inl b)=false:=decide_eq_false (λq=>nomatch q)
noncomputable def ba (prog:Program) (w:World):PySem.KeyKind prog w aF where
 is:=iG
 hash:=BQ w
 inj:=λv a b ha hb=>by
  rcases bD ha with ⟨i,t,rfl,rfl⟩ | ⟨x,t,rfl,rfl⟩
  ·rcases bD hb with ⟨j,u,rfl,e⟩ | ⟨y,u,rfl,e⟩
   ·injection e with e1 _;rw [e1]
   ·exact nomatch e
  ·rcases bD hb with ⟨j,u,rfl,e⟩ | ⟨y,u,rfl,e⟩
   ·exact nomatch e
   ·injection e with e1 _;rw [e1]
 byValue:=λk v h=>by
  rcases bD h with ⟨i,t,rfl,rfl⟩ | ⟨x,t,rfl,rfl⟩<;> rfl
 pyHash:=λhv h=>by
  rcases bD hv with ⟨i,t,rfl,rfl⟩ | ⟨x,t,rfl,rfl⟩
  ·exact wpAny_pyHash_int h
  ·exact wpAny_pyHash_str h
 eqBool:=λhu hv h=>by
  rcases bD hu with ⟨i,t,rfl,rfl⟩ | ⟨x,t,rfl,rfl⟩
  ·rcases bD hv with ⟨j,u,rfl,rfl⟩ | ⟨y,u,rfl,rfl⟩
   ·rw [xJ] at h;exact wpAny_eqBool_int h
   ·rw [xL] at h;exact SeqAt.EqAt.int_str i t y u _ _ _ _ h
  ·rcases bD hv with ⟨j,u,rfl,rfl⟩ | ⟨y,u,rfl,rfl⟩
   ·rw [xM] at h;exact SeqAt.EqAt.str_int x t j u _ _ _ _ h
   ·rw [xK] at h;exact wpAny_eqBool_str h
 «strs»:=λk x t v h=>by
  rcases bD h with ⟨i,u,rfl,e⟩ | ⟨y,u,rfl,e⟩
  ·exact nomatch e
  ·injection e with e1 _
   subst e1;cases v<;> rfl
theorem dL (prog:Program) (w:World) (i:Int) (t:Tok):(ba prog w).is (.inl i) (.int i t)=true:=qg i t
theorem lw (prog:Program) (w:World) (x:Str) (t:Tok):(ba prog w).is (.inr x) (.str x t)=true:=qh x t
inductive V where
 | non | bl (b:Bool) | int (i:Int) | str (x:Str) | byt (b:Array UInt8) | flt (b:UInt64) | ref (a:Addr) | ty (n:String)
 deriving DecidableEq
noncomputable def aZ:V->Value->Prop
 | .non,u=>u=Value.none
 | .bl b,u=>u=Value.bool b
 | .int i,u=>∃t,u=Value.int i t
 | .str x,u=>∃t,u=Value.str x t
 | .byt b,u=>∃t,u=Value.bytes b t
 | .flt b,u=>∃t,u=Value.float b t
 | .ref a,u=>u=Value.ref a
 | .ty n,u=>u=Value.type n
noncomputable abbrev aM:List V->List Value->Prop:=Paired aZ
theorem aM.length {xs:List V} {us:List Value} (r:aM xs us):xs.length=us.length:=Paired.length r
theorem aM.get:∀{xs:List V} {us:List Value} {i:Nat} {x:V},aM xs us->xs[i]?=some x->∃u,us[i]?=some u/\aZ x u
 | _,_,_,_,.nil,e=>by simp at e
 | _,_,0,_,.cons r _,e=>by simp at e;subst e;exact ⟨_,rfl,r⟩
 | _,_,i+1,x,.cons _ t,e=>by
   obtain ⟨u,h1,h2⟩:=aM.get (i:=i) (x:=x) t (by simpa using e);exact ⟨u,by simpa using h1,h2⟩
theorem aM.append:∀{xs ys:List V} {us ws:List Value},aM xs us->aM ys ws->aM (xs++ys) (us++ws)
 | _,_,_,_,.nil,s=>s
 | _,_,_,_,.cons r t,s=> .cons r (aM.append t s)
theorem aM.take:∀{xs:List V} {us:List Value} (n:Nat),aM xs us->aM (xs.take n) (us.take n)
 | _,_,0,_=> .nil
 | _,_,_+1,.nil=> .nil
 | _,_,n+1,.cons r t=> .cons r (aM.take n t)
theorem aM.drop:∀{xs:List V} {us:List Value} (n:Nat),aM xs us->aM (xs.drop n) (us.drop n)
 | _,_,0,r=>r
 | _,_,_+1,.nil=> .nil
 | _,_,n+1,.cons _ t=>aM.drop n t
noncomputable def fH:Option V->Option Value->Prop
 | some v,some u=>aZ v u
 | none,none=>True
 | _,_=>False
noncomputable def KV {κ:Type}:List (κ×V)->List (κ×Value)->Prop:=Paired λ(p:κ×V) (q:κ×Value)=>p.1=q.1/\aZ p.2 q.2
noncomputable def kV:aF->V
 | .inl i=> .int i
 | .inr x=> .str x
inductive HO where
 | lst (xs:List V)
 | tup (xs:List V)
 | dK (kvs:List (aF×V)) | dT (kvs:List (List aF×V))
 | set (S:Int->Bool) (n:Nat)
 | ins (C dx:Addr) (fs:List (Str×V))
 | own (x:Addr)
 | xd (fs:List (Str×V))
 | met (f x:Addr)
 | rng (lo hi:Int)
 | frz (o:Obj) (u:HO)
 | tbl (ps:Array Value)
 | ext (φ:Heap->Prop)
noncomputable abbrev Hp:=Addr->Option HO
noncomputable def upd (H:Hp) (a:Addr) (o:HO):Hp:=λb=>if b=a then some o else H b
theorem aP {H:Hp} {a:Addr} {o:HO}:upd H a o a=some o:=by unfold upd;rw [if_pos rfl]
theorem ax {H:Hp} {a b:Addr} {o:HO} (h:b≠a):upd H a o b=H b:=by unfold upd;rw [if_neg h]
theorem fw {H:Hp} {a b:Addr} {o u:HO} (h:H a=some o) (h':H b=some u) (d:o≠u):a≠b:=by
 intro e;subst e;rw [h] at h';exact d (Option.some.inj h')
theorem bf {H:Hp} {a b:Addr} {o:HO} (h:H a=some o) (h':H b=none):a≠b:=by
 intro e;subst e;rw [h] at h';cases h'
section
variable (P:Program) (w:World)
noncomputable def bE (H:Hp) (h:Heap) (a:Addr):HO->Prop
 | .lst xs=>xs.length<=sizeLine/\∃(its:List Value) (n:Nat),aM xs its/\h.get? a=some { cls:= .type "list",data:= .seq its.toArray n }
 | .tup xs=>xs.length<=sizeLine/\∃its:List Value,aM xs its/\IsTup h a its.toArray
 | .dK kvs=>kvs.length<=sizeLine/\(a==sysModules)=false/\∃vs,KV kvs vs/\h.DictOf (ba P w) a vs
 | .dT kvs=>kvs.length<=sizeLine/\(a==sysModules)=false/\∃xs:List (List aF×Addr×Value),
    Paired (λ(p:List aF×V) (q:List aF×Addr×Value)=>p.1=q.1/\H q.2.1=some (.tup (p.1.map kV))/\aZ p.2 q.2.2) kvs xs/\
    ∃o es ep,h.get? a=some o/\o.ExactDict/\o.data=.dict es ep/\es.toList=xs.map (entryOfKey (tupleKind (ba P w)))/\(xs.map (·.1)).Nodup
 | .set S n=>h.SetOf (intKind P w) a S n
 | .ins C dx fs=>H dx=some (.own a)/\fs.length<=1000/\dx≠a/\h.get? a=some (instObj C dx)/\
    ∃mA,h.Ns1 dx mA/\(∀f,fH (fs.lookup f) (mA f))/\PySem.Within mA (fs.map (·.1))
 | .own _=>∃o,h.get? a=some o
 | .xd fs=>∃mA,h.Ns1 a mA/\∀f,fH (fs.lookup f) (mA f)
 | .rng lo hi=>∃t u v,h.get? a=some { cls:= .type "range",data:= .fields #[.int lo t,.int hi u,.int 1 v] }
 | .frz o u=>h.get? a=some o/\bE H h a u
 | .tbl ps=>h.get? a=some { cls:= .none,data:= .fields ps }
 | .met f x=>h.get? a=some (PySem.W.methodObj (.ref f) (.ref x))
 | .ext φ=>φ h/\(∃o,h.get? a=some o)/\∀h1 h2:Heap,φ h1->(∀o,h1.get? a=some o->h2.get? a=some o)->φ h2
noncomputable def fO (H:Hp) (h:Heap):Prop:=∀a o,H a=some o->bE P w H h a o
end
section
variable {P:Program} {w:World} {H H':Hp} {h h':Heap} {a:Addr} {o:HO}
theorem bE.lt (x:bE P w H h a o):a<h.objs.size:=by
 cases o with
 | lst xs=>obtain ⟨_,_,_,_,e⟩:=x;exact Heap.lt_size e
 | tup xs=>obtain ⟨_,_,_,p⟩:=x;exact p.lt
 | dK kvs=>obtain ⟨_,_,_,_,o,_,_,e,_⟩:=x;exact Heap.lt_size e
 | dT kvs=>obtain ⟨_,_,_,_,o,_,_,e,_⟩:=x;exact Heap.lt_size e
 | set S n=>obtain ⟨o,_,_,_,e,_⟩:=x;exact Heap.lt_size e
 | ins C dx fs=>obtain ⟨_,_,_,e,_⟩:=x;exact Heap.lt_size e
 | own y=>obtain ⟨_,e⟩:=x;exact Heap.lt_size e
 | xd fs=>obtain ⟨_,⟨_,_,_,e,_⟩,_⟩:=x;exact Heap.lt_size e
 | rng lo hi=>obtain ⟨_,_,_,e⟩:=x;exact Heap.lt_size e
 | frz ob u=>obtain ⟨e,_⟩:=x;exact Heap.lt_size e
 | tbl ps=>exact Heap.lt_size (show h.get? a=some _ from x)
 | met f y=>exact Heap.lt_size (show h.get? a=some _ from x)
 | ext φ=>obtain ⟨_,⟨_,e⟩,_⟩:=x;exact Heap.lt_size e
theorem Paired.mapP {α β:Type} {F G:α->β->Prop}:∀{l₁:List α} {l₂:List β},Paired F l₁ l₂->(∀a b,F a b->G a b)->Paired G l₁ l₂
 | _,_,.nil,_=> .nil
 | _,_,.cons r t,f=> .cons (f _ _ r) (Paired.mapP t f)
theorem bE.stay (x:bE P w H h a o) (k:∀b u,(b=a∨H b=some (.own a))->h.get? b=some u->h'.get? b=some u)
 (ho:∀b,H b=some (.own a)->H' b=some (.own a)) (ht:∀b xs,H b=some (.tup xs)->H' b=some (.tup xs)):bE P w H' h' a o:=by
 induction o with
 | lst xs=>obtain ⟨z,its,n,r,e⟩:=x;exact ⟨z,its,n,r,k _ _ (.inl rfl) e⟩
 | tup xs=>obtain ⟨z,its,r,ob,e,c⟩:=x;exact ⟨z,its,r,ob,k _ _ (.inl rfl) e,c⟩
 | dK kvs=>obtain ⟨z,y,vs,r,ob,es,ep,e,c⟩:=x;exact ⟨z,y,vs,r,ob,es,ep,k _ _ (.inl rfl) e,c⟩
 | dT kvs=>
   obtain ⟨z,y,xs,r,ob,es,ep,e,c⟩:=x;exact ⟨z,y,xs,Paired.mapP r λp q z=>⟨z.1,ht _ _ z.2.1,z.2.2⟩,ob,es,ep,k _ _ (.inl rfl) e,c⟩
 | set S n=>obtain ⟨ob,es,ep,t,e,c⟩:=x;exact ⟨ob,es,ep,t,k _ _ (.inl rfl) e,c⟩
 | ins C dx fs=>
   obtain ⟨d,z,ne,e,mA,⟨od,es,ep,e2,c⟩,r⟩:=x;exact ⟨ho _ d,z,ne,k _ _ (.inl rfl) e,mA,⟨od,es,ep,k _ _ (.inr d) e2,c⟩,r⟩
 | own y=>obtain ⟨ob,e⟩:=x;exact ⟨ob,k _ _ (.inl rfl) e⟩
 | xd fs=>obtain ⟨mA,⟨od,es,ep,e,c⟩,r⟩:=x;exact ⟨mA,⟨od,es,ep,k _ _ (.inl rfl) e,c⟩,r⟩
 | rng lo hi=>obtain ⟨t,u,v,e⟩:=x;exact ⟨t,u,v,k _ _ (.inl rfl) e⟩
 | frz ob u ih=>obtain ⟨e,q⟩:=x;exact ⟨k _ _ (.inl rfl) e,ih q⟩
 | tbl ps=>
   have e:h.get? a=some { cls:= .none,data:= .fields ps }:=x;show h'.get? a=some { cls:= .none,data:= .fields ps };exact k a _ (.inl rfl) e
 | met f y=>
   have e:h.get? a=some (PySem.W.methodObj (.ref f) (.ref y)):=x;show h'.get? a=some (PySem.W.methodObj (.ref f) (.ref y));exact k a _ (.inl rfl) e
 | ext φ=>obtain ⟨p,⟨o,e⟩,st⟩:=x;exact ⟨st _ _ p λo q=>k _ _ (.inl rfl) q,⟨o,k _ _ (.inl rfl) e⟩,st⟩
theorem fO.lt (x:fO P w H h) (e:H a=some o):a<h.objs.size:=(x a o e).lt
theorem fO.fresh (x:fO P w H h) (e:h.objs.size<=a):H a=none:=by
 cases q:H a with
 | none=>rfl
 | some u=>exact absurd (Nat.lt_of_lt_of_le (x.lt q) e) (Nat.lt_irrefl _)
theorem fO.kept (x:fO P w H h) (k:∀b u,h.get? b=some u->h'.get? b=some u):fO P w H h':=λa o e=>
 (x a o e).stay (λb u _ q=>k b u q) (λ_ q=>q) λ_ _ q=>q
theorem fO.laid (x:fO P w H h) (k:∀b u,h.get? b=some u->h'.get? b=some u) (hp:h.objs.size<=a) (new:bE P w (upd H a o) h' a o):fO P w (upd H a o) h':=λb u e=>by
 have hn:=x.fresh hp
 by_cases hb:b=a
 ·subst hb;rw [aP] at e;cases e;exact new
 ·rw [ax hb] at e;exact (x b u e).stay (λc v _ q=>k c v q) (λc q=>by rw [ax (bf q hn)];exact q) λc xs q=>by rw [ax (bf q hn)];exact q
end
noncomputable def Rd (H:Hp) (a:Addr) (u:HO):Prop:=H a=some u∨∃o,H a=some (.frz o u)
theorem Rd.ok {P:Program} {w:World} {H:Hp} {h:Heap} {a:Addr} {u:HO} (r:Rd H a u) (x:fO P w H h):bE P w H h a u:=by
 rcases r with r | ⟨o,r⟩
 ·exact x a u r
 ·obtain ⟨_,q⟩:=x a _ r;exact q
noncomputable def zS:Option HO->Prop
 | some (.lst _)=>True
 | some (.dK _)=>True
 | some (.dT _)=>True
 | some (.set _ _)=>True
 | some (.ins _ _ _)=>True
 | some (.ext _)=>True
 | _=>False
section
variable {P:Program} {w:World} {H:Hp} {h h':Heap} {x e:Addr} {o':HO}
theorem fO.write (ok:fO P w H h) (mu:zS (H x)) (he:e=x∨H e=some (.own x)) (k:∀b u,b≠e->h.get? b=some u->h'.get? b=some u) (heo:∃u,h'.get? e=some u)
 (new:bE P w (upd H x o') h' x o'):fO P w (upd H x o') h':=λb u q=>by
 have nown:∀c y,H c=some (.own y)->c≠x:=λc y r z=>by subst z;rw [r] at mu;exact mu
 have ntup:∀c xs,H c=some (.tup xs)->c≠x:=λc xs r z=>by subst z;rw [r] at mu;exact mu
 by_cases hb:b=x
 ·subst hb;rw [aP] at q;cases q;exact new
 ·rw [ax hb] at q
  by_cases hbe:b=e
  ·have q':H b=some (.own x):=by
    rcases he with z | z
    ·exact absurd (hbe.trans z) hb
    ·rw [hbe];exact z
   rw [q] at q';cases q';obtain ⟨v,hv⟩:=heo;exact ⟨v,by rw [hbe];exact hv⟩
  ·refine (ok b u q).stay (λc v hc r=>k c v ?_ r) (λc r=>by rw [ax (nown c b r)];exact r) λc xs r=>by rw [ax (ntup c xs r)];exact r
   rcases hc with rfl | hc
   ·exact hbe
   ·rintro rfl;rcases he with z | z
    ·exact nown c b hc z
    ·rw [hc] at z;cases z;exact hb rfl
end
structure Un (fs ex:List Addr) (H H':Hp) (h h':Heap):Prop where
 keep:∀b o,h.get? b=some o->H b=none->b∉fs->b∉ex->h'.get? b=some o
 slot:∀b o,h.get? b=some o->H b=none->b∈fs->b∉ex->∃sl,h'.get? b=some { o with slots:=sl }
 free:∀b o,h.get? b=some o->H b=none->b∉ex->H' b=none
 there:∀b o,h.get? b=some o->b∉ex->∃o',h'.get? b=some o'
 tups:∀b xs,H b=some (.tup xs)->H' b=some (.tup xs)
 frzs:∀b o u,H b=some (.frz o u)->H' b=some (.frz o u)
 tbls:∀b ps,H b=some (.tbl ps)->∃more,H' b=some (.tbl (ps++more))
section
variable {fs fs' ex ex':List Addr} {H H1 H2:Hp} {h h1 h2 h':Heap} {a x e:Addr} {o:HO}
theorem Un.any (u:Un fs ex H H1 h h1) {b:Addr} {ob:Obj} (q:h.get? b=some ob) (n:H b=none) (hx:b∉ex):∃sl,h1.get? b=some { ob with slots:=sl }:=by
 by_cases hb:b∈fs
 ·exact u.slot b ob q n hb hx
 ·exact ⟨ob.slots,u.keep b ob q n hb hx⟩
theorem Un.kept (k:∀b u,h.get? b=some u->h'.get? b=some u):Un fs ex H H h h':=
 ⟨λb ob q _ _ _=>k b ob q,λb ob q _ _ _=>⟨ob.slots,k b ob q⟩,λ_ _ _ n _=>n,λb ob q _=>⟨ob,k b ob q⟩,λ_ _ q=>q,λ_ _ _ q=>q,λ_ ps q=>⟨#[],by rw [q];simp⟩⟩
theorem Un.refl:Un fs ex H H h h:=Un.kept λ_ _ q=>q
theorem Un.laid (k:∀b u,h.get? b=some u->h'.get? b=some u) (hp:h.objs.size<=a) (hn:H a=none):Un fs ex H (upd H a o) h h' where
 keep:=λb u q _ _ _=>k b u q
 slot:=λb u q _ _ _=>⟨u.slots,k b u q⟩
 free:=λb u q n _=>by rw [ax (Nat.ne_of_lt (Nat.lt_of_lt_of_le (Heap.lt_size q) hp))];exact n
 there:=λb u q _=>⟨u,k b u q⟩
 tups:=λb xs q=>by rw [ax (bf q hn)];exact q
 frzs:=λb u xs q=>by rw [ax (bf q hn)];exact q
 tbls:=λb ps q=>⟨#[],by rw [ax (bf q hn),q];simp⟩
theorem Un.write (mu:zS (H x)) (he:e=x∨H e=some (.own x)) (k:∀b u,b≠e->h.get? b=some u->h'.get? b=some u) (heo:∃u,h'.get? e=some u):Un fs ex H (upd H x o) h h':=by
 have hx:∀b,H b=none->b≠x:=λb n z=>by subst z;rw [n] at mu;exact mu
 have hb:∀b,H b=none->b≠e:=λb n z=>by
  subst z;rcases he with r | r
  ·exact hx b n r
  ·rw [n] at r;cases r
 have hm:∀b u,H b=some u->¬zS (some u)->b≠x:=λb u q nm z=>by subst z;rw [q] at mu;exact nm mu
 refine ⟨λb u q n _ _=>k b u (hb b n) q,λb u q n _ _=>⟨u.slots,k b u (hb b n) q⟩,λb u q n _=>by rw [ax (hx b n)];exact n,λb u q _=>?_,
  λb xs q=>by rw [ax (hm b _ q λz=>z)];exact q,λb u xs q=>by rw [ax (hm b _ q λz=>z)];exact q,λb ps q=>⟨#[],by rw [ax (hm b _ q λz=>z),q];simp⟩⟩
 by_cases hbe:b=e
 ·subst hbe;exact heo
 ·exact ⟨u,k b u hbe q⟩
end
noncomputable def BG (h:Heap) (H:Hp):List Addr:=(List.range h.objs.size).filter λa=>(H a).isSome
noncomputable def kt (h:Heap) (H:Hp):Heap:=hideAll h (BG h H)
theorem qi (h:Heap) (H:Hp):(kt h H).objs.size=h.objs.size:=PySem.W.hideAll_size _ _
theorem rl {h:Heap} {H:Hp} {b:Addr} {o:Obj} (e:h.get? b=some o) (n:H b=none):(kt h H).get? b=some o:=
 hideAll_get _ e λhm=>by
  have q:(H b).isSome=true:=(List.mem_filter.mp hm).2;rw [n] at q;simp at q
theorem uH {h:Heap} {H:Hp} {b:Addr} {o:Obj} (e:(kt h H).get? b=some o):h.get? b=some o/\H b=none:=by
 have e':h.get? b=some o:=of_hideAll (BG h H) e;refine ⟨e',?_⟩;cases q:H b with
 | none=>rfl
 | some x=>
   have hm:b∈BG h H:=List.mem_filter.mpr ⟨List.mem_range.mpr (Heap.lt_size e'),by simp [q]⟩;have z:(kt h H).get? b=none:=hideAll_none (BG h H) hm;rw [z] at e;cases e
noncomputable def uI (g h:Heap) (L:Addr):List (Addr×Obj):=(List.range h.objs.size).filterMap λa=>if a=L∨(g.get? a).isSome=true then none else (h.get? a).map λo=>(a,o)
noncomputable def bK (g h:Heap) (L d:Addr):List (Addr×Obj):=(uI g h L).filter λp=>decide (p.1≠d)
structure Mod (K:PySem.W.Frag) (mg:Str->Option Value) (base:Heap):Prop where
 kin:K.In base
 glob:base.Ns mainGlobals mg
 blt:∃mb,base.Ns builtinsNs mb/\∀x:Str,x≠"__name__"->mb x=bootBuiltins x
 nolimit:base.NoLimit
structure Cx where
 prog:Program
 w:World
 K:PySem.W.Frag
 mg:Str->Option Value
 base:Heap
 A:Around
 N:List Str
 s₀:Shared
 H₀:Hp
 env:Env
 outer:List Env
 stack:List Env
 ex:List Addr
 fn:Str->Bool
 calm:Bool
 pn:List (Addr×Obj)
 xe:Value->Shared->Prop
noncomputable def ez (l:List Env):List Addr:=l.filterMap (·.frame)
noncomputable abbrev Cx.fs (X:Cx):List Addr:=ez X.outer
noncomputable def wL (sc:Scope) (x:Str):Prop:=sc.names.lookup x=some .local∨sc.names.lookup x=some .cell∨sc.names.lookup x=some .free
noncomputable def uJ (sc:Scope) (x:Str):Prop:=sc.names.lookup x=some .local∨sc.names.lookup x=some .cell
noncomputable def BR (env:Env) (h:Heap) (m:Str->Option Value) (x:Str) (u:Value):Prop:=
 (env.kindOf x=some .local/\m x=some u)∨((env.kindOf x=some .cell∨env.kindOf x=some .free)/\∃c,env.cells.lookup x=some c/\h.IsCell c (some u))
structure Cx.Ok (X:Cx):Prop where
 mod:Mod X.K X.mg X.base
 kind:X.env.scope.kind=.function
 glob:X.env.globals=mainGlobals
 blt:X.env.builtins=builtinsNs
 above:X.s₀.heap.objs.size<=X.env.locals
 inj:∀x y c,X.env.cells.lookup x=some c->X.env.cells.lookup y=some c->x=y
 has:∀x,(X.env.kindOf x=some .cell∨X.env.kindOf x=some .free)->∃c,X.env.cells.lookup x=some c
 cab:∀x c,X.fn x=true->X.env.cells.lookup x=some c->X.s₀.heap.objs.size<=c
 hd:X.calm=true->X.A.handled=none
 frames:X.A.frames=some X.stack
 stk:X.stack=X.outer∨(X.stack=X.env::X.outer/\X.env.frame=some X.env.locals)
 exf:∀b∈X.ex,b≠X.env.locals/\∀x c,X.env.cells.lookup x=some c->c≠b
 bs:∀b o,X.base.get? b=some o->X.s₀.heap.get? b=some o/\X.H₀ b=none
 bsz:X.base.objs.size<=X.s₀.heap.objs.size
 noex:∀b o,X.base.get? b=some o->b∉X.ex
 exfs:∀b∈X.ex,b∉X.fs
 funs:X.s₀.heap.FunFrames X.base X.outer
 frf:∀b∈X.fs,X.H₀ b=none
structure aA (X:Cx) (pins:List (Addr×Obj)) (σ:List (Option V)) (H:Hp) (s:Shared):Prop where
 ok:X.Ok
 os:s.os=X.s₀.os
 bare:AllBare s.gens
 base:Un X.fs X.ex X.H₀ H X.s₀.heap s.heap
 loc:∃m,s.heap.Ns X.env.locals m/\∀(i:Nat) (x:Str) (v:V),X.N[i]?=some x->σ[i]?=some (some v)->wL X.env.scope x->∃u,aZ v u/\BR X.env s.heap m x u
 cell:∀x c,X.env.cells.lookup x=some c->∃v,s.heap.IsCell c v
 free:H X.env.locals=none
 freeC:∀x c,X.env.cells.lookup x=some c->H c=none
 pin:∀p∈X.pn++pins,s.heap.get? p.1=some p.2/\H p.1=none/\p.1≠X.env.locals/\p.1∉X.fs/\∀v,p.2.data≠ .cell v
 hok:fO X.prog X.w H s.heap
 len:σ.length=X.N.length
section
variable {X:Cx} {pins:List (Addr×Obj)} {σ:List (Option V)} {H H':Hp} {s:Shared} {h':Heap}
theorem Cx.Ok.nofr (ok:X.Ok) {b:Addr} {o:Obj} (e:X.base.get? b=some o):b∉X.fs:=λhb=>by
 have:=(ok.funs.mem hb).1;rw [e] at this;cases this
theorem aA.bs (I:aA X pins σ H s):∀b o,X.base.get? b=some o->s.heap.get? b=some o/\H b=none:=λb o e=>
 ⟨I.base.keep b o (I.ok.bs b o e).1 (I.ok.bs b o e).2 (I.ok.nofr e) (I.ok.noex b o e),I.base.free b o (I.ok.bs b o e).1 (I.ok.bs b o e).2 (I.ok.noex b o e)⟩
theorem aA.bk (I:aA X pins σ H s):∀b o,X.base.get? b=some o->s.heap.get? b=some o:=λb o e=>(I.bs b o e).1
theorem aA.mod (I:aA X pins σ H s):Mod X.K X.mg X.base:=I.ok.mod
theorem aA.kIn (I:aA X pins σ H s):X.K.In s.heap:=I.ok.mod.kin.keeps I.bk
theorem aA.lt (I:aA X pins σ H s):X.env.locals<s.heap.objs.size:=let ⟨_,hn,_⟩:=I.loc;hn.lt
theorem aA.sz (I:aA X pins σ H s):X.s₀.heap.objs.size<=s.heap.objs.size:=Nat.le_trans I.ok.above (Nat.le_of_lt I.lt)
theorem aA.nofs (I:aA X pins σ H s) {a:Addr} (h:s.heap.objs.size<=a):a∉X.fs:=λhb=>by
 obtain ⟨_,o,ho,_⟩:=I.ok.funs.mem hb;exact absurd (Nat.lt_of_lt_of_le (Heap.lt_size ho) (Nat.le_trans I.sz h)) (Nat.lt_irrefl _)
theorem aA.cne (I:aA X pins σ H s):∀x c,X.env.cells.lookup x=some c->c≠X.env.locals:=λx c e z=>by
 obtain ⟨v,o,ho,hd⟩:=I.cell x c e;obtain ⟨m,⟨o',es,ep,ho',hd',_⟩,_⟩:=I.loc;rw [z,ho'] at ho;cases ho;rw [hd'] at hd;cases hd
theorem aA.funs (I:aA X pins σ H s):s.heap.FunFrames X.base X.outer:=by
 have all:∀(l:List Env),(∀b∈ez l,b∈X.fs)->X.s₀.heap.FunFrames X.base l->s.heap.FunFrames X.base l:=by
  intro l
  induction l with
  | nil=>intro _ _;trivial
  | cons env r ih=>
    intro hs hl;obtain ⟨hk,⟨L,o,hf,hn,ho,hd⟩,hr⟩:=hl;have hL:L∈X.fs:=hs L (by unfold ez;rw [List.filterMap_cons,hf];exact List.mem_cons_self);obtain ⟨sl,e⟩:=I.base.slot L o ho (I.ok.frf L hL) hL λz=>I.ok.exfs L z hL;exact ⟨hk,⟨L,_,hf,hn,e,hd⟩,ih (λb hb=>hs b (by unfold ez;rw [List.filterMap_cons,hf];exact List.mem_cons_of_mem _ hb)) hr⟩
 exact all X.outer (λ_ hb=>hb) I.ok.funs
theorem aA.stack (I:aA X pins σ H s):s.heap.FunFrames X.base X.stack:=by
 rcases I.ok.stk with e | ⟨e,hf⟩
 ·rw [e];exact I.funs
 ·rw [e];obtain ⟨m,hn,_⟩:=I.loc;refine .cons (by rw [I.ok.kind];decide) hf hn ?_ I.funs;exact Heap.get?_none_of_le (Nat.le_trans I.ok.bsz I.ok.above)
theorem aA.stkSub (I:aA X pins σ H s):∀b∈ez X.stack,b∈X.env.locals::X.fs:=λb hb=>by
 rcases I.ok.stk with e | ⟨e,hf⟩
 ·rw [e] at hb;exact List.mem_cons_of_mem _ hb
 ·rw [e] at hb;unfold ez at hb;rw [List.filterMap_cons,hf] at hb;exact hb
theorem aA.stkFree (I:aA X pins σ H s):∀b∈ez X.stack,H b=none:=λb hb=>by
 rcases List.mem_cons.mp (I.stkSub b hb) with e | hb
 ·rw [e];exact I.free
 ·obtain ⟨_,o,ho,_⟩:=I.ok.funs.mem hb;exact I.base.free b o ho (I.ok.frf b hb) λz=>I.ok.exfs b z hb
theorem aA.step {g':Array GenState} {t':Nat} {d':Drawn} {ch:List Addr} (I:aA X pins σ H s)
 (hch:∀b∈ch,(b∈X.ex∨X.s₀.heap.objs.size<=b)/\b≠X.env.locals/\(∀x c,X.env.cells.lookup x=some c->c≠b)/\∀p∈X.pn++pins,p.1≠b)
 (keep:∀b o,b≠X.env.locals->b∉X.fs->b∉ch->s.heap.get? b=some o->H b=none->h'.get? b=some o)
 (slot:∀b o,b≠X.env.locals->b∈X.fs->b∉ch->s.heap.get? b=some o->H b=none->∃sl,h'.get? b=some { o with slots:=sl }) (free:∀b o,b∉ch->s.heap.get? b=some o->H b=none->H' b=none)
 (there:∀b o,b∉ch->s.heap.get? b=some o->∃o',h'.get? b=some o')
 (tups:∀b xs,H b=some (.tup xs)->H' b=some (.tup xs)) (frzs:∀b o u,H b=some (.frz o u)->H' b=some (.frz o u)) (tbls:∀b ps,H b=some (.tbl ps)->∃more,H' b=some (.tbl (ps++more)))
 (ns:∀m,s.heap.Ns X.env.locals m->h'.Ns X.env.locals m) (hok:fO X.prog X.w H' h') (hg:AllBare g'):
 aA X pins σ H' { s with heap:=h',gens:=g',drawn:=d',toks:=t' }:=by
 have neL:∀b o,X.s₀.heap.get? b=some o->b≠X.env.locals:=λb o e=>Nat.ne_of_lt (Nat.lt_of_lt_of_le (Heap.lt_size e) I.ok.above);have neC:∀b o,X.s₀.heap.get? b=some o->b∉X.ex->b∉ch:=λb o e hx hb=>by
  rcases (hch b hb).1 with z | z
  ·exact hx z
  ·exact absurd (Nat.lt_of_lt_of_le (Heap.lt_size e) z) (Nat.lt_irrefl _)
 have cellK:∀x c,X.env.cells.lookup x=some c->∀v,s.heap.IsCell c v->h'.IsCell c v:=λx c e v ⟨o,ho,hd⟩=>by
  have nch:c∉ch:=λz=>(hch c z).2.2.1 x c e rfl
  by_cases hc:c∈X.fs
  ·obtain ⟨sl,q⟩:=slot c o (I.cne x c e) hc nch ho (I.freeC x c e);exact ⟨_,q,hd⟩
  ·exact ⟨o,keep c o (I.cne x c e) hc nch ho (I.freeC x c e),hd⟩
 refine ⟨I.ok,I.os,hg,⟨λb o e n hb hx=>?_,λb o e n hb hx=>?_,λb o e n hx=>?_,λb o e hx=>?_,λb xs e=>tups b xs (I.base.tups b xs e),λb o xs e=>frzs b o xs (I.base.frzs b o xs e),λb ps e=>?_⟩,?_,λx c e=>?_,?_,λx c e=>?_,λp hp=>?_,hok,I.len⟩
 ·exact keep b o (neL b o e) hb (neC b o e hx) (I.base.keep b o e n hb hx) (I.base.free b o e n hx)
 ·obtain ⟨sl,e1⟩:=I.base.slot b o e n hb hx;obtain ⟨sl',e2⟩:=slot b _ (neL b o e) hb (neC b o e hx) e1 (I.base.free b o e n hx);exact ⟨sl',e2⟩
 ·obtain ⟨o',e1⟩:=I.base.there b o e hx;exact free b o' (neC b o e hx) e1 (I.base.free b o e n hx)
 ·obtain ⟨o',e1⟩:=I.base.there b o e hx;exact there b o' (neC b o e hx) e1
 ·obtain ⟨m1,e1⟩:=I.base.tbls b ps e;obtain ⟨m2,e2⟩:=tbls b _ e1;exact ⟨m1++m2,by rw [e2,Array.append_assoc]⟩
 ·obtain ⟨m,hn,hl⟩:=I.loc;refine ⟨m,ns m hn,λi x v e1 e2 e3=>?_⟩;obtain ⟨u,r,l⟩:=hl i x v e1 e2 e3;refine ⟨u,r,?_⟩;rcases l with l | ⟨k,c,e,z⟩
  ·exact .inl l
  ·exact .inr ⟨k,c,e,cellK x c e _ z⟩
 ·obtain ⟨v,z⟩:=I.cell x c e;exact ⟨v,cellK x c e v z⟩
 ·obtain ⟨m,⟨o,_,_,ho,_⟩,_⟩:=I.loc;exact free _ o (λz=>(hch _ z).2.1 rfl) ho I.free
 ·obtain ⟨v,o,ho,hd⟩:=I.cell x c e;exact free c o (λz=>(hch c z).2.2.1 x c e rfl) ho (I.freeC x c e)
 ·obtain ⟨e,n,ne,nf,d⟩:=I.pin p hp;have nch:p.1∉ch:=λz=>(hch p.1 z).2.2.2 p hp rfl;exact ⟨keep p.1 p.2 ne nf nch e n,free p.1 p.2 nch e n,ne,nf,d⟩
theorem aA.un {t':Nat} (I:aA X pins σ H s) (u:Un X.fs [] H H' s.heap h') (hok:fO X.prog X.w H' h'):aA X pins σ H' { s with heap:=h',toks:=t' }:=by
 obtain ⟨m,⟨o,es,ep,ho,r⟩,_⟩:=id I.loc;obtain ⟨sl,hL⟩:=u.any ho I.free (by simp);exact I.step (g':=s.gens) (d':=s.drawn) (ch:=[]) (λ_ z=>nomatch z) (λb o _ hb _ e n=>u.keep b o e n hb (by simp)) (λb o _ hb _ e n=>u.slot b o e n hb (by simp)) (λb o _ e n=>u.free b o e n (by simp)) (λb o _ e=>u.there b o e (by simp)) u.tups u.frzs u.tbls (λm' hm=>by
  obtain ⟨o',es',ep',ho',r'⟩:=hm;rw [ho] at ho';cases ho';exact ⟨_,es',ep',hL,r'⟩) hok I.bare
theorem aA.call {g':Array GenState} {t':Nat} {d':Drawn} {ch:List Addr} (I:aA X pins σ H s) (u:Un (ez X.stack) ch H H' s.heap h') (hok:fO X.prog X.w H' h') (hg:AllBare g')
 (hch:∀b∈ch,(b∈X.ex∨X.s₀.heap.objs.size<=b)/\b≠X.env.locals/\(∀x c,X.env.cells.lookup x=some c->c≠b)/\∀p∈X.pn++pins,p.1≠b):
 aA X pins σ H' { s with heap:=h',gens:=g',drawn:=d',toks:=t' }:=by
 obtain ⟨m,⟨o,es,ep,ho,r⟩,_⟩:=id I.loc;obtain ⟨sl,hL⟩:=u.any ho I.free λz=>(hch _ z).2.1 rfl;exact I.step (ch:=ch) hch (λb o hL hb hc e n=>u.keep b o e n (λz=>(List.mem_cons.mp (I.stkSub b z)).elim hL hb) hc) (λb o _ _ hc e n=>u.any e n hc) (λb o hc e n=>u.free b o e n hc) (λb o hc e=>u.there b o e hc) u.tups u.frzs u.tbls (λm' hm=>by
  obtain ⟨o',es',ep',ho',r'⟩:=hm;rw [ho] at ho';cases ho';exact ⟨_,es',ep',hL,r'⟩) hok hg
theorem aA.turned {t':Nat} {it:Addr} (I:aA X pins σ H s) (k:∀b o,b≠it->s.heap.get? b=some o->h'.get? b=some o) (hn:H it=none) (hL:it≠X.env.locals)
 (h1:it∈X.ex∨X.s₀.heap.objs.size<=it) (h2:∀x c,X.env.cells.lookup x=some c->c≠it) (h3:∀p∈X.pn++pins,p.1≠it):aA X pins σ H { s with heap:=h',toks:=t' }:=by
 have nit:∀b u,H b=some u->b≠it:=λb u e z=>by rw [z,hn] at e;cases e
 refine I.step (g':=s.gens) (d':=s.drawn) (ch:=[it]) (λb hb=>?_) (λb o _ _ hc e _=>k b o (λz=>hc (by simp [z])) e) (λb o _ _ hc e _=>⟨o.slots,k b o (λz=>hc (by simp [z])) e⟩) (λ_ _ _ _ n=>n)
  (λb o hc e=>⟨o,k b o (λz=>hc (by simp [z])) e⟩) (λ_ _ e=>e) (λ_ _ _ e=>e) (λb ps e=>⟨#[],by rw [e];simp⟩) (λm hm=>?_) (λb u e=>?_) I.bare
 ·have e:b=it:=by simpa using hb
  subst e;exact ⟨h1,hL,h2,h3⟩
 ·obtain ⟨o,es,ep,ho,r⟩:=hm;exact ⟨o,es,ep,k _ o (Ne.symm hL) ho,r⟩
 ·refine (I.hok b u e).stay (λc v hc q=>k c v ?_ q) (λ_ q=>q) λ_ _ q=>q;rcases hc with z | z
  ·rw [z];exact nit b u e
  ·exact nit c _ z
theorem aA.tok (I:aA X pins σ H s) (t:Nat):aA X pins σ H { s with toks:=t }:=I.un (h':=s.heap) (t':=t) Un.refl I.hok
theorem aA.kept {t':Nat} (I:aA X pins σ H s) (k:∀b u,s.heap.get? b=some u->h'.get? b=some u):aA X pins σ H { s with heap:=h',toks:=t' }:=I.un (Un.kept k) (I.hok.kept k)
theorem aA.laid {a:Addr} {o:HO} {t':Nat} (I:aA X pins σ H s) (k:∀b u,s.heap.get? b=some u->h'.get? b=some u) (hp:s.heap.objs.size<=a) (new:bE X.prog X.w (upd H a o) h' a o):
 aA X pins σ (upd H a o) { s with heap:=h',toks:=t' }:=I.un (Un.laid k hp (I.hok.fresh hp)) (I.hok.laid k hp new)
theorem aA.write {x e:Addr} {o:HO} {t':Nat} (I:aA X pins σ H s) (mu:zS (H x)) (he:e=x∨H e=some (.own x)) (k:∀b u,b≠e->s.heap.get? b=some u->h'.get? b=some u) (heo:∃u,h'.get? e=some u)
 (new:bE X.prog X.w (upd H x o) h' x o):aA X pins σ (upd H x o) { s with heap:=h',toks:=t' }:=I.un (Un.write mu he k heo) (I.hok.write mu he k heo new)
theorem aA.pins_of {pins':List (Addr×Obj)} (I:aA X pins σ H s) (h:∀p∈pins',s.heap.get? p.1=some p.2/\H p.1=none/\p.1≠X.env.locals/\p.1∉X.fs/\∀v,p.2.data≠ .cell v):aA X pins' σ H s:=
 ⟨I.ok,I.os,I.bare,I.base,I.loc,I.cell,I.free,I.freeC,λp hp=>(List.mem_append.mp hp).elim (λz=>I.pin p (List.mem_append_left _ z)) (h p),I.hok,I.len⟩
theorem iH {N:List Str} (hN:N.Nodup) {i j:Nat} {x:Str} (a:N[i]?=some x) (b:N[j]?=some x):i=j:=by
 obtain ⟨h1,e1⟩:=List.getElem?_eq_some_iff.mp a;obtain ⟨h2,e2⟩:=List.getElem?_eq_some_iff.mp b;exact (List.getElem_inj hN).mp (e1.trans e2.symm)
theorem gt {M:Model} {A:Around} {E:Value->Shared->Prop} {i:Nat} {x:Str} {v:V} {u:Value} {Q:Unit->Shared->Prop} (I:aA X pins σ H s) (hN:X.N.Nodup) (hi:X.N[i]?=some x) (hx:uJ X.env.scope x) (r:aZ v u)
 (h:∀s',aA X pins (σ.set i (some v)) H s'->(∃a,Heap.SameBut a s.heap s'.heap/\(a=X.env.locals∨X.env.cells.lookup x=some a))->Q () s') (hf:X.fn x=true∨X.env.scope.names.lookup x=some .local:=by first | exact .inl rfl | exact .inr rfl | assumption):wpAny M A (storeName X.env x u) Q E s:=by
 obtain ⟨m,hn,hl⟩:=id I.loc;have hcls:(X.env.scope.kind== .class||(X.env.scope.kind== .module&&X.env.locals !=X.env.globals))=false:=by rw [I.ok.kind];rfl
 have hiσ:i<σ.length:=by rw [I.len];exact (List.getElem?_eq_some_iff.mp hi).1
 have cne:=I.cne;have tracked:∀{a:Addr} {h':Heap},(∃o,s.heap.get? a=some o/\H a=none)->Heap.SameBut a s.heap h'->fO X.prog X.w H h':=λ{a h'} ha hs b ob e=>by
  obtain ⟨_,_,hfree⟩:=ha;refine (I.hok b ob e).stay (λc w' hc q=>(hs.2 c ?_).trans q) (λ_ q=>q) λ_ _ q=>q;rintro rfl;rcases hc with rfl | hc
  ·rw [hfree] at e;cases e
  ·rw [hfree] at hc;cases hc
 rcases hx with hk | hk
 ·refine wpAny_storeName_local hk hn (λh' hn' hs=>?_) hcls;obtain ⟨oL,_,_,hoL,_⟩:=id hn;refine h _ ⟨I.ok,I.os,I.bare,⟨λb o e n hb hx=>?_,λb o e n hb hx=>?_,I.base.free,λb o e hx=>?_,I.base.tups,I.base.frzs,I.base.tbls⟩,⟨_,hn',λj y v' e1 e2 e3=>?_⟩,λy c e=>?_,I.free,I.freeC,λp hp=>?_,tracked ⟨oL,hoL,I.free⟩ hs,by simpa using I.len⟩ ⟨_,hs,.inl rfl⟩
  ·exact (hs.2 b (Nat.ne_of_lt (Nat.lt_of_lt_of_le (Heap.lt_size e) I.ok.above))).trans (I.base.keep b o e n hb hx)
  ·obtain ⟨sl,e1⟩:=I.base.slot b o e n hb hx;exact ⟨sl,(hs.2 b (Nat.ne_of_lt (Nat.lt_of_lt_of_le (Heap.lt_size e) I.ok.above))).trans e1⟩
  ·obtain ⟨o',e1⟩:=I.base.there b o e hx;exact ⟨o',(hs.2 b (Nat.ne_of_lt (Nat.lt_of_lt_of_le (Heap.lt_size e) I.ok.above))).trans e1⟩
  ·by_cases hj:j=i
   ·subst hj;rw [hi] at e1;cases e1;rw [List.getElem?_set_self hiσ] at e2;cases e2;exact ⟨u,r,.inl ⟨hk,by simp⟩⟩
   ·rw [List.getElem?_set_ne (Ne.symm hj)] at e2;obtain ⟨u',r',q⟩:=hl j y v' e1 e2 e3;refine ⟨u',r',?_⟩;rcases q with ⟨k,e⟩ | ⟨k,c,e,z⟩
    ·refine .inl ⟨k,?_⟩;have:y≠x:=λe=>hj (iH hN e1 (e▸hi));simp [this,e]
    ·exact .inr ⟨k,c,e,z.sameBut hs (cne y c e)⟩
  ·obtain ⟨w',z⟩:=I.cell y c e;exact ⟨w',z.sameBut hs (cne y c e)⟩
  ·obtain ⟨e,n,ne,nf,d⟩:=I.pin p hp;exact ⟨(hs.2 p.1 ne).trans e,n,ne,nf,d⟩
 ·have hfn:X.fn x=true:=by
   rcases hf with z | z
   ·exact z
   ·rw [z] at hk;cases hk
  obtain ⟨c,hc⟩:=I.ok.has x (.inl hk);obtain ⟨w',z⟩:=I.cell x c hc;refine wpAny_storeName_cell I.ok.kind hk hc z (λh' hc' hs=>?_);obtain ⟨oc,hoc,hocd⟩:=id z;refine h { s with heap:=h' } ⟨I.ok,I.os,I.bare,⟨λb o e n hb hx=>?_,λb o e n hb hx=>?_,I.base.free,λb o e hx=>?_,I.base.tups,I.base.frzs,I.base.tbls⟩,⟨m,hn.sameBut hs (Ne.symm (cne x c hc)),λj y v' e1 e2 e3=>?_⟩,λy c' e=>?_,I.free,I.freeC,λp hp=>?_,tracked ⟨oc,hoc,I.freeC x c hc⟩ hs,by simpa using I.len⟩ ⟨c,hs,.inr hc⟩
  ·exact (hs.2 b (Nat.ne_of_lt (Nat.lt_of_lt_of_le (Heap.lt_size e) (I.ok.cab x c hfn hc)))).trans (I.base.keep b o e n hb hx)
  ·obtain ⟨sl,e1⟩:=I.base.slot b o e n hb hx;exact ⟨sl,(hs.2 b (Nat.ne_of_lt (Nat.lt_of_lt_of_le (Heap.lt_size e) (I.ok.cab x c hfn hc)))).trans e1⟩
  ·obtain ⟨o',e1⟩:=I.base.there b o e hx;exact ⟨o',(hs.2 b (Nat.ne_of_lt (Nat.lt_of_lt_of_le (Heap.lt_size e) (I.ok.cab x c hfn hc)))).trans e1⟩
  ·by_cases hj:j=i
   ·subst hj;rw [hi] at e1;cases e1;rw [List.getElem?_set_self hiσ] at e2;cases e2;exact ⟨u,r,.inr ⟨.inl hk,c,hc,hc'⟩⟩
   ·rw [List.getElem?_set_ne (Ne.symm hj)] at e2;obtain ⟨u',r',q⟩:=hl j y v' e1 e2 e3;refine ⟨u',r',?_⟩;rcases q with q | ⟨k,c',e,z'⟩
    ·exact .inl q
    ·refine .inr ⟨k,c',e,z'.sameBut hs ?_⟩;rintro rfl;exact hj (iH hN e1 (I.ok.inj _ _ _ e hc▸hi))
  ·by_cases hcc:c'=c
   ·subst hcc;exact ⟨_,hc'⟩
   ·obtain ⟨w2,z2⟩:=I.cell y c' e;exact ⟨w2,z2.sameBut hs hcc⟩
  ·obtain ⟨e,n,ne,nf,d⟩:=I.pin p hp;refine ⟨(hs.2 p.1 ?_).trans e,n,ne,nf,d⟩;intro q;rw [q,hoc] at e;have q':oc=p.2:=Option.some.inj e;exact d w' (by rw [←q'];exact hocd)
theorem iI {M:Model} {A:Around} {E:Value->Shared->Prop} {i:Nat} {x:Str} {v:V} {u:Value} {Q:Unit->Shared->Prop} (I:aA X pins σ H s) (hN:X.N.Nodup) (hi:X.N[i]?=some x) (hx:uJ X.env.scope x) (r:aZ v u)
 (h:∀s',aA X pins (σ.set i (some v)) H s'->Q () s') (hf:X.fn x=true∨X.env.scope.names.lookup x=some .local:=by first | exact .inl rfl | exact .inr rfl | assumption):wpAny M A (storeName X.env x u) Q E s:=
 gt I hN hi hx r (λs' I' _=>h s' I') hf
theorem aA.call' {s':Shared} {ch:List Addr} (I:aA X pins σ H s) (ho:s'.os=s.os) (u:Un (ez X.stack) ch H H' s.heap s'.heap) (hok:fO X.prog X.w H' s'.heap) (hg:AllBare s'.gens)
 (hch:∀b∈ch,(b∈X.ex∨X.s₀.heap.objs.size<=b)/\b≠X.env.locals/\(∀x c,X.env.cells.lookup x=some c->c≠b)/\∀p∈X.pn++pins,p.1≠b):aA X pins σ H' s':=by
 obtain ⟨h',g',d',t',o'⟩:=s';have e:o'=s.os:=ho;subst e;exact I.call (g':=g') (t':=t') (d':=d') u hok hg hch
end
noncomputable abbrev XK:=Value->Option Addr->Hp->Prop
noncomputable abbrev St:=List (Option V)
noncomputable abbrev VK:=V->Hp->Prop
noncomputable abbrev TE:=St->Hp->VK->Prop
noncomputable abbrev TT:=St->Hp->(Bool->Hp->Prop)->Prop
noncomputable abbrev TA:=St->Hp->(List V->Hp->Prop)->Prop
structure ft where
 nx:St->Hp->Prop
 rt:VK
 bk:St->Hp->Prop:=λ_ _=>False
 ct:St->Hp->Prop:=λ_ _=>False
noncomputable abbrev TS:=ft->St->Hp->Prop
noncomputable def EP (X:Cx) (pins:List (Addr×Obj)) (σ:St) (Q:VK) (u:Value) (s':Shared):Prop:=∃v H',aA X pins σ H' s'/\aZ v u/\Q v H'
noncomputable def TP (X:Cx) (pins:List (Addr×Obj)) (σ:St) (Q:Bool->Hp->Prop) (b:Bool) (s':Shared):Prop:=∃H',aA X pins σ H' s'/\Q b H'
noncomputable def AP (X:Cx) (pins:List (Addr×Obj)) (σ:St) (Q:List V->Hp->Prop) (us:List Value) (s':Shared):Prop:=∃vs H',aA X pins σ H' s'/\aM vs us/\Q vs H'
noncomputable def SP (X:Cx) (pins:List (Addr×Obj)) (D:ft) (f:Flow) (s':Shared):Prop:=
 match f with
 | .next=>∃σ' H',aA X pins σ' H' s'/\D.nx σ' H'
 | .brk=>∃σ' H',aA X pins σ' H' s'/\D.bk σ' H'
 | .cont=>∃σ' H',aA X pins σ' H' s'/\D.ct σ' H'
 | .ret u=>∃v σ' H',aA X pins σ' H' s'/\aZ v u/\D.rt v H'
noncomputable def PE (X:Cx) (e:Expr) (t:TE):Prop:=
 ∀(pins:List (Addr×Obj)) (s:Shared) (σ:St) (H:Hp) (Q:VK),aA X pins σ H s->t σ H Q->wpAny (model X.prog X.w) X.A (eval e X.env) (EP X pins σ Q) X.xe s
noncomputable def PT (X:Cx) (e:Expr) (t:TT):Prop:=
 ∀(pins:List (Addr×Obj)) (s:Shared) (σ:St) (H:Hp) (Q:Bool->Hp->Prop),aA X pins σ H s->t σ H Q->wpAny (model X.prog X.w) X.A (isTrue e X.env (eval e X.env)) (TP X pins σ Q) X.xe s
noncomputable def PW (X:Cx) (e:Expr) (t:TT):Prop:=
 ∀(whole:Sem Value) (pins:List (Addr×Obj)) (s:Shared) (σ:St) (H:Hp) (Q:Bool->Hp->Prop),aA X pins σ H s->t σ H Q->wpAny (model X.prog X.w) X.A (isTrue e X.env whole) (TP X pins σ Q) X.xe s
theorem PW.pt {X:Cx} {e:Expr} {t:TT} (h:PW X e t):PT X e t:=h _
noncomputable def PA (X:Cx) (es:List Expr) (t:TA):Prop:=
 ∀(pos:Pos) (pins:List (Addr×Obj)) (s:Shared) (σ:St) (H:Hp) (Q:List V->Hp->Prop),aA X pins σ H s->t σ H Q->wpAny (model X.prog X.w) X.A (spliced (backTo pos (starEach es X.env))) (AP X pins σ Q) X.xe s
noncomputable def PS (X:Cx) (st:Stmt) (t:TS):Prop:=
 ∀(pins:List (Addr×Obj)) (s:Shared) (σ:St) (H:Hp) (D:ft),aA X pins σ H s->t D σ H->wpAny (model X.prog X.w) X.A (exec st X.env) (SP X pins D) X.xe s
noncomputable def lr (X:Cx) (st:List Stmt) (t:TS):Prop:=
 ∀(pins:List (Addr×Obj)) (s:Shared) (σ:St) (H:Hp) (D:ft),aA X pins σ H s->t D σ H->wpAny (model X.prog X.w) X.A (execs st X.env) (SP X pins D) X.xe s
theorem bV {α:Type} {t:Sem α} {Q Q':α->Shared->Prop} {M:Model} {A:Around} {E:Value->Shared->Prop} {s:Shared} (h:wpAny M A t Q E s) (hQ:∀a s,Q a s->Q' a s):wpAny M A t Q' E s:=wpAny_mono h hQ λ_ _ x=>x
section
variable {X:Cx}
noncomputable def qj (i:Nat):TE:=λσ H Q=>∃v,σ[i]?=some (some v)/\Q v H
noncomputable def tC (v:V):TE:=λ_ H Q=>Q v H
theorem iJ {i:Nat} {x:Str} {pos:Pos} (hN:X.N[i]?=some x) (hv:wL X.env.scope x) (hd:(x==("__debug__":Str))=false:=by decide) (hcd:(x==("__classdict__":Str))=false:=by decide):PE X (.Name x pos) (qj i):=by
 intro pins s σ H Q I h;obtain ⟨v,e,h⟩:=h;obtain ⟨m,hn,hl⟩:=I.loc;obtain ⟨u,r,l⟩:=hl i x v hN e hv;have fin:EP X pins σ Q u s:=⟨v,H,I,r,h⟩;rcases l with ⟨hk,hm⟩ | ⟨hk,c,hc,hcell⟩
 ·exact wpAny_Name (wpAny_loadName_local I.ok.kind hk hn hm fin) hd
 ·rcases hk with hk | hk
  ·exact wpAny_Name (wpAny_loadName_cell I.ok.kind hk hc hcell fin) hd
  ·exact wpAny_Name (wpAny_loadName_free I.ok.kind hk hc hcell fin hcd) hd
theorem xN {i j pos}:PE X (.Constant (.int i) j pos) (tC (.int i)):=λ_ _ _ H _ I h=>wpAny_Constant_int ⟨.int i,H,I.tok _,⟨_,rfl⟩,h⟩
theorem wM {b j pos}:PE X (.Constant (.bool b) j pos) (tC (.bl b)):=λ_ _ _ H _ I h=>Constant_bool ⟨.bl b,H,I,rfl,h⟩
theorem mY {x j pos}:PE X (.Constant (.str x) j pos) (tC (.str x)):=λ_ _ _ H _ I h=>Calls.Constant_str ⟨.str x,H,I.tok _,⟨_,rfl⟩,h⟩
noncomputable def Gl (X:Cx) (x:Str):Prop:=X.env.kindOf x=some .globalImplicit
theorem eA {E:Value->Shared->Prop} {pins:List (Addr×Obj)} {s:Shared} {σ:St} {H:Hp} {x:Str} {u:Value} {pos:Pos} {Q:Value->Shared->Prop} (I:aA X pins σ H s) (hg:Gl X x) (hm:X.mg x=some u) (h:Q u s)
 (hd:(x==("__debug__":Str))=false:=by decide):wpAny (model X.prog X.w) X.A (eval (.Name x pos) X.env) Q E s:=
 Calls.Name_function_global I.ok.kind hg (Calls.loadGlobal_global (by rw [I.ok.glob];exact I.mod.glob.keeps I.bk) hm h) hd
theorem gv {E:Value->Shared->Prop} {pins:List (Addr×Obj)} {s:Shared} {σ:St} {H:Hp} {x:Str} {u:Value} {pos:Pos} {Q:Value->Shared->Prop} (I:aA X pins σ H s) (hg:Gl X x) (hm:X.mg x=none) (hv:bootBuiltins x=some u) (h:Q u s)
 (hn:x≠"__name__":=by decide) (hd:(x==("__debug__":Str))=false:=by decide):wpAny (model X.prog X.w) X.A (eval (.Name x pos) X.env) Q E s:=by
 obtain ⟨mb,h1,h2⟩:=I.mod.blt;exact Calls.Name_function_global I.ok.kind hg (Calls.loadGlobal_builtin (by rw [I.ok.glob];exact I.mod.glob.keeps I.bk) hm (by rw [I.ok.blt];exact h1.keeps I.bk) ((h2 x hn).trans hv) h) hd
theorem oI {x:Str} {v:V} {u:Value} {pos:Pos} (hg:Gl X x) (hm:X.mg x=some u) (r:aZ v u) (hd:(x==("__debug__":Str))=false:=by decide):PE X (.Name x pos) (tC v):=
 λ_ _ _ H _ I h=>eA I hg hm ⟨v,H,I,r,h⟩ hd
theorem oJ {x:Str} {v:V} {u:Value} {pos:Pos} (hg:Gl X x) (hm:X.mg x=none) (hv:bootBuiltins x=some u) (r:aZ v u) (hn:x≠"__name__":=by decide) (hd:(x==("__debug__":Str))=false:=by decide):PE X (.Name x pos) (tC v):=
 λ_ _ _ H _ I h=>gv I hg hm hv ⟨v,H,I,r,h⟩ hn hd
variable {a b:Expr} {ta tb:TE} {pos:Pos}
noncomputable def tB (t:TE):TT:=λσ H Q=>t σ H λx H1=>∃c,x=.bl c/\Q c H1
theorem xO {e:Expr} {t:TE} (h:PE X e t) (he:∀whole,isTrue e X.env whole=(do let v ←whole;standAt e.pos;holding [v] (truthy v)):=by intro _;rfl):PT X e (tB t):=by
 intro pins s σ H Q I hw;refine isTrue_plain (bV (h pins s σ H _ I hw) λv s1 z9=>?_) (he _);obtain ⟨x,H1,I1,r1,q1⟩:=z9;obtain ⟨d,rfl,q⟩:=q1;cases r1;exact wpAny_truthy_bool ⟨H1,I1,q⟩
variable {tA tB':TT} {bK:List Expr}
noncomputable def BS (t u:TT):TT:=λσ H Q=>t σ H λc H1=>if c=true then u σ H1 Q else Q false H1
noncomputable def D2 (t u:TT):TT:=λσ H Q=>t σ H λc H1=>if c=true then Q true H1 else u σ H1 Q
noncomputable def BT (t:TT):TT:=λσ H Q=>t σ H λc H1=>Q (!c) H1
theorem uK (ha:PT X a tA):PW X (.BoolOp .And [a] pos) tA:=by
 intro wh pins s σ H Q I h;refine isTrue_and (bV (ha pins s σ H Q I h) λc s1 e=>?_);cases c with
 | true=>exact isTrue_and_nil e
 | false=>exact e
theorem xP (ha:PT X a tA):PW X (.BoolOp .Or [a] pos) tA:=by
 intro wh pins s σ H Q I h;refine isTrue_or (bV (ha pins s σ H Q I h) λc s1 e=>?_);cases c with
 | false=>exact isTrue_or_nil e
 | true=>exact e
theorem xQ (ha:PT X a tA) (hb:PW X (.BoolOp .And (b::bK) pos) tB'):PW X (.BoolOp .And (a::b::bK) pos) (BS tA tB'):=by
 intro wh pins s σ H Q I h;refine isTrue_and (bV (ha pins s σ H _ I h) λc s1 z9=>?_);obtain ⟨H1,I1,q1⟩:=z9;cases c with
 | true=>exact hb wh pins s1 σ H1 Q I1 q1
 | false=>exact ⟨H1,I1,q1⟩
theorem zT (ha:PT X a tA) (hb:PW X (.BoolOp .Or (b::bK) pos) tB'):PW X (.BoolOp .Or (a::b::bK) pos) (D2 tA tB'):=by
 intro wh pins s σ H Q I h;refine isTrue_or (bV (ha pins s σ H _ I h) λc s1 z9=>?_);obtain ⟨H1,I1,q1⟩:=z9;cases c with
 | true=>exact ⟨H1,I1,q1⟩
 | false=>exact hb wh pins s1 σ H1 Q I1 q1
theorem xR (ha:PT X a tA):PT X (.UnaryOp .Not a pos) (BT tA):=by
 intro pins s σ H Q I h;exact isTrue_not (ha pins s σ H (λc H1=>Q (!c) H1) I h)
noncomputable def zU (ta tb:TE):TE:=λσ H Q=>ta σ H λx H1=>∃c,x=.bl c/\if c=true then tb σ H1 Q else Q (.bl false) H1
noncomputable def zV (ta:TE):TE:=λσ H Q=>ta σ H λx H1=>∃c,x=.bl c/\Q (.bl (!c)) H1
theorem xS {op} {t:TE} (h:PE X a t):PE X (.BoolOp op [a] pos) t:=λpins s σ H Q I hw=>BoolOp_one (h pins s σ H Q I hw)
theorem xT (ha:PE X a ta) (hb:PE X (.BoolOp .And (b::bK) pos) tb):PE X (.BoolOp .And (a::b::bK) pos) (zU ta tb):=by
 intro pins s σ H Q I h;refine BoolOp_and (bV (ha pins s σ H _ I h) λv s1 z9=>?_);obtain ⟨x,H1,I1,r1,q1⟩:=z9;obtain ⟨c,rfl,q1⟩:=q1;cases r1;refine wpAny_truthy_bool ?_;cases c with
 | true=>exact hb pins s1 σ H1 Q I1 q1
 | false=>exact ⟨.bl false,H1,I1,rfl,q1⟩
theorem xU (ha:PE X a ta):PE X (.UnaryOp .Not a pos) (zV ta):=by
 intro pins s σ H Q I h;refine UnaryOp_ (bV (ha pins s σ H _ I h) λv s1 z9=>?_);obtain ⟨x,H1,I1,r1,q1⟩:=z9;obtain ⟨c,rfl,q1⟩:=q1;cases r1;exact not_of (wpAny_truthy_bool ⟨.bl (!c),H1,I1,rfl,q1⟩)
noncomputable def D3 (t:TT) (ta tb:TE):TE:=λσ H Q=>t σ H λc H1=>if c=true then ta σ H1 Q else tb σ H1 Q
theorem rm {c:Expr} (hc:PT X c tA) (ha:PE X a ta) (hb:PE X b tb):PE X (.IfExp c a b pos) (D3 tA ta tb):=by
 intro pins s σ H Q I h;refine wpAny_IfExp (bV (hc pins s σ H _ I h) λd s1 z9=>?_);obtain ⟨H1,I1,q1⟩:=z9;cases d with
 | true=>exact ha pins s1 σ H1 Q I1 q1
 | false=>exact hb pins s1 σ H1 Q I1 q1
end
noncomputable def cW (K:PySem.W.Frag) (H:Hp) (a:Addr) (xs:List V):Prop:=
 Rd H a (.lst xs)∨
  ∃(o:Obj) (its:Array Value) (n:Nat),K.lookup a=some o/\o.cls=.type "list"/\o.dict=none/\o.data=.seq its n/\its.size<=sizeLine/\aM xs its.toList
noncomputable def cR (K:PySem.W.Frag) (H:Hp) (a:Addr) (xs:List V):Prop:=
 Rd H a (.tup xs)∨
  ∃(o:Obj) (its:Array Value) (n:Nat),K.lookup a=some o/\o.cls=.type "tuple"/\o.data=.seq its n/\its.size<=sizeLine/\aM xs its.toList
noncomputable def BU:Value->Option V
 | .none=>some .non
 | .bool b=>some (.bl b)
 | .int i _=>some (.int i)
 | .str x _=>some (.str x)
 | .bytes b _=>some (.byt b)
 | .float b _=>some (.flt b)
 | .ref a=>some (.ref a)
 | .type n=>some (.ty n)
 | _=>none
theorem aZ.abs {x:V} {u:Value} (r:aZ x u):BU u=some x:=by
 cases x with
 | non=>cases r;rfl
 | bl _=>cases r;rfl
 | int _=>obtain ⟨t,rfl⟩:=r;rfl
 | str _=>obtain ⟨t,rfl⟩:=r;rfl
 | byt _=>obtain ⟨t,rfl⟩:=r;rfl
 | flt _=>obtain ⟨t,rfl⟩:=r;rfl
 | ref _=>cases r;rfl
 | ty _=>cases r;rfl
theorem aZ.inj {x y:V} {u:Value} (r:aZ x u) (q:aZ y u):x=y:=Option.some.inj (r.abs.symm.trans q.abs)
theorem aM.inj:∀{xs ys:List V} {us:List Value},aM xs us->aM ys us->xs=ys
 | _,_,_,.nil,.nil=>rfl
 | _,_,_,.cons r t,.cons r' t'=>by rw [r.inj r',aM.inj t t']
section
variable {X:Cx} {pins:List (Addr×Obj)} {σ:St} {H:Hp} {s:Shared} {a:Addr} {xs ys:List V}
theorem cW.of {K:PySem.W.Frag} (h:H a=some (.lst xs)):cW K H a xs:= .inl (.inl h)
theorem cR.of {K:PySem.W.Frag} (h:H a=some (.tup xs)):cR K H a xs:= .inl (.inl h)
theorem aA.list (I:aA X pins σ H s) (h:cW X.K H a xs):∃its:List Value,aM xs its/\PlainL s.heap a its.toArray/\xs.length<=sizeLine:=by
 rcases h with h | ⟨o,its,n,hk,hc,hd,hs,hz,r⟩
 ·obtain ⟨z,its,n,r,e⟩:=h.ok I.hok;exact ⟨its,r,⟨_,n,e,rfl,rfl,rfl⟩,z⟩
 ·refine ⟨its.toList,r,⟨o,n,I.kIn a o hk,hc,hd,by simpa using hs⟩,?_⟩;have e:=r.length;simp only [Array.length_toList] at e;omega
theorem aA.tuple (I:aA X pins σ H s) (h:cR X.K H a xs):∃its:List Value,aM xs its/\IsTup s.heap a its.toArray/\xs.length<=sizeLine:=by
 rcases h with h | ⟨o,its,n,hk,hc,hs,hz,r⟩
 ·obtain ⟨z,its,r,p⟩:=h.ok I.hok;exact ⟨its,r,p,z⟩
 ·refine ⟨its.toList,r,⟨o,I.kIn a o hk,hc,n,by simpa using hs⟩,?_⟩;have e:=r.length;simp only [Array.length_toList] at e;omega
theorem aA.list_inj (I:aA X pins σ H s) (h:cW X.K H a xs) (h':cW X.K H a ys):xs=ys:=by
 obtain ⟨its,r,⟨o,n,e,_,_,d⟩,_⟩:=I.list h;obtain ⟨its',r',⟨o',n',e',_,_,d'⟩,_⟩:=I.list h';rw [e] at e';cases e';rw [d] at d';injection d' with d1 _
 have:its=its':=by simpa using congrArg Array.toList d1
 subst this;exact r.inj r'
theorem aA.tuple_inj (I:aA X pins σ H s) (h:cR X.K H a xs) (h':cR X.K H a ys):xs=ys:=by
 obtain ⟨its,r,⟨o,e,_,n,d⟩,_⟩:=I.tuple h;obtain ⟨its',r',⟨o',e',_,n',d'⟩,_⟩:=I.tuple h';rw [e] at e';cases e';rw [d] at d';injection d' with d1 _
 have:its=its':=by simpa using congrArg Array.toList d1
 subst this;exact r.inj r'
end
noncomputable abbrev Cx.wish (X:Cx) (E:Value->Shared->Prop):Cx:={ X with xe:=E }
noncomputable abbrev Cx.nox (X:Cx):Cx:=X.wish λ_ _=>False
theorem Cx.Ok.wish {X:Cx} (ok:X.Ok) (E:Value->Shared->Prop):(X.wish E).Ok:=
 ⟨ok.mod,ok.kind,ok.glob,ok.blt,ok.above,ok.inj,ok.has,ok.cab,ok.hd,ok.frames,ok.stk,ok.exf,ok.bs,ok.bsz,ok.noex,ok.exfs,ok.funs,ok.frf⟩
theorem Cx.Ok.unwish {X:Cx} {E:Value->Shared->Prop} (ok:(X.wish E).Ok):X.Ok:=
 ⟨ok.mod,ok.kind,ok.glob,ok.blt,ok.above,ok.inj,ok.has,ok.cab,ok.hd,ok.frames,ok.stk,ok.exf,ok.bs,ok.bsz,ok.noex,ok.exfs,ok.funs,ok.frf⟩
section
variable {X:Cx} {pins:List (Addr×Obj)} {σ:St} {H:Hp} {s:Shared} {E:Value->Shared->Prop}
theorem aA.wish (I:aA X pins σ H s) (E:Value->Shared->Prop):aA (X.wish E) pins σ H s:=⟨I.ok.wish E,I.os,I.bare,I.base,I.loc,I.cell,I.free,I.freeC,I.pin,I.hok,I.len⟩
theorem aA.unwish (I:aA (X.wish E) pins σ H s):aA X pins σ H s:=⟨I.ok.unwish,I.os,I.bare,I.base,I.loc,I.cell,I.free,I.freeC,I.pin,I.hok,I.len⟩
theorem SP.unwish {D:ft} {f:Flow} {s':Shared} (h:SP (X.wish E) pins D f s'):SP X pins D f s':=by
 cases f with
 | next=>obtain ⟨σ',H',I,q⟩:=h;exact ⟨σ',H',I.unwish,q⟩
 | brk=>obtain ⟨σ',H',I,q⟩:=h;exact ⟨σ',H',I.unwish,q⟩
 | cont=>obtain ⟨σ',H',I,q⟩:=h;exact ⟨σ',H',I.unwish,q⟩
 | ret u=>obtain ⟨v,σ',H',I,r,q⟩:=h;exact ⟨v,σ',H',I.unwish,r,q⟩
theorem lr.nox {st:List Stmt} {t:TS} (h:lr X.nox st t):lr X st t:=λpins s σ H D I hw=>
 wpAny_mono (h pins s σ H D (I.wish _) hw) (λ_ _ q=>q.unwish) λ_ _ z=>False.elim z
end
section
variable {X:Cx} {st:Stmt} {bK:List Stmt} {t u:TS} {e:Expr} {te:TE} {pos:Pos}
noncomputable def zW:TS:=λD σ H=>D.nx σ H
noncomputable def BV (t u:TS):TS:=λD σ H=>t { D with nx:=u D } σ H
theorem pss_nil:lr X [] zW:=λ_ _ σ H _ I h=>wpAny_execs_nil ⟨σ,H,I,h⟩
theorem rz (h1:PS X st t) (h2:lr X bK u):lr X (st::bK) (BV t u):=by
 intro pins s σ H D I h;refine wpAny_execs_cons (bV (h1 pins s σ H { D with nx:=u D } I h) λf s1 q=>?_);cases f with
 | next=>
   obtain ⟨σ',H',I',q⟩:=q;exact h2 pins s1 σ' H' D I' q
 | ret v=>exact q
 | brk=>exact q
 | cont=>exact q
theorem uL (h1:PS X st t):lr X [st] t:=by
 intro pins s σ H D I h;refine wpAny_execs_cons (bV (h1 pins s σ H D I h) λf s1 q=>?_);cases f with
 | next=>exact wpAny_execs_nil q
 | ret v=>exact q
 | brk=>exact q
 | cont=>exact q
theorem aA.quiet {pins:List (Addr×Obj)} {σ:St} {H:Hp} {s:Shared} (I:aA X pins σ H s):interactive X.env=false:=by simp [interactive,I.ok.kind]
noncomputable def zX (te:TE):TS:=λD σ H=>te σ H λ_ H1=>D.nx σ H1
theorem uM (he:PE X e te) (hs:swapsWith e none pos.line X.env=pure false:=by rfl):PS X (.Expr e pos) (zX te):=by
 intro pins s σ H D I h;exact wpAny_Expr_any (bV (he pins s σ H _ I h) λv s1 ⟨x,H1,I1,r1,q1⟩=>⟨σ,H1,I1,q1⟩) I.quiet hs
noncomputable def BW (te:TE):TS:=λD σ H=>te σ H D.rt
theorem xV (he:PE X e te):PS X (.Return (some e) pos) (BW te):=by
 intro pins s σ H D I h;exact wpAny_Return_some (bV (he pins s σ H _ I h) λv s1 ⟨x,H1,I1,r1,q1⟩=>⟨x,σ,H1,I1,r1,q1⟩)
noncomputable def BX (c:TT) (t u:TS):TS:=λD σ H=>c σ H λb H1=>if b=true then t D σ H1 else u D σ H1
theorem zY {c:Expr} {a b:List Stmt} {tc:TT} (hc:PT X c tc) (ha:lr X a t) (hb:lr X b u):PS X (.If c a b pos) (BX tc t u):=by
 intro pins s σ H D I h;refine wpAny_If (bV (hc pins s σ H _ I h) λd s1 z9=>?_);obtain ⟨H1,I1,q1⟩:=z9;cases d with
 | true=>exact ha pins s1 σ H1 D I1 q1
 | false=>exact hb pins s1 σ H1 D I1 q1
end
noncomputable abbrev TG:=V->St->Hp->(St->Hp->Prop)->Prop
noncomputable abbrev uN:=List V->St->Hp->(St->Hp->Prop)->Prop
noncomputable def PG (X:Cx) (target:Expr) (t:TG):Prop:=
 ∀(pins:List (Addr×Obj)) (s:Shared) (σ:St) (H:Hp) (v:V) (u:Value) (Q:St->Hp->Prop),aA X pins σ H s->aZ v u->t v σ H Q->
  wpAny (model X.prog X.w) X.A (assign target X.env u) (λ_ s'=>∃σ' H',aA X pins σ' H' s'/\Q σ' H') X.xe s
noncomputable def wN (X:Cx) (ts:List Expr) (t:uN):Prop:=
 ∀(pins:List (Addr×Obj)) (s:Shared) (σ:St) (H:Hp) (vs:List V) (us:List Value) (Q:St->Hp->Prop),aA X pins σ H s->aM vs us->t vs σ H Q->
  wpAny (model X.prog X.w) X.A (assignInOrder ((assignEach ts X.env).map (·.2)) us) (λ_ s'=>∃σ' H',aA X pins σ' H' s'/\Q σ' H') X.xe s
section
variable {X:Cx} {pos:Pos}
noncomputable def wO (i:Nat):TG:=λv σ H Q=>Q (σ.set i (some v)) H
theorem uO {i:Nat} {x:Str} (hN:X.N.Nodup) (hi:X.N[i]?=some x) (hx:uJ X.env.scope x) (hf:X.fn x=true∨X.env.scope.names.lookup x=some .local:=by first | exact .inl rfl | exact .inr rfl | assumption):PG X (.Name x pos) (wO i):=by
 intro pins s σ H v u Q I r h;exact wpAny_assign_Name (iI I hN hi hx r (λs' I'=>⟨_,H,I',h⟩) hf)
noncomputable def BY:uN:=λvs σ H Q=>vs=[]/\Q σ H
noncomputable def zZ (t:TG) (u:uN):uN:=λvs σ H Q=>∃v r,vs=v::r/\t v σ H λσ' H'=>u r σ' H' Q
theorem pgs_nil:wN X [] BY:=by
 intro pins s σ H vs us Q I r h;obtain ⟨e,h⟩:=h;subst e;cases r;exact assignInOrder_nil ⟨σ,H,I,h⟩
theorem rA {e:Expr} {es:List Expr} {t:TG} {u:uN} (h1:PG X e t) (h2:wN X es u)
 (hs:(assignEach (e::es) X.env).map (·.2)=assign e X.env::(assignEach es X.env).map (·.2):=by rfl):wN X (e::es) (zZ t u):=by
 intro pins s σ H vs us Q I r h;obtain ⟨v,vr,e1,h⟩:=h;subst e1;cases r with
 | cons r rr=>
   rw [hs];refine assignInOrder_cons (bV (h1 pins s σ H _ _ _ I r h) λ_ s1 z9=>?_);obtain ⟨σ1,H1,I1,q1⟩:=z9;exact h2 pins s1 σ1 H1 _ _ Q I1 rr q1
noncomputable def BZ (K:PySem.W.Frag) (n:Nat) (t:uN):TG:=λv σ H Q=>∃a xs,v=.ref a/\cR K H a xs/\xs.length=n/\t xs σ H Q
theorem xW {es:List Expr} {k:Nat} {t:uN} {n:Nat} (hc:X.calm=true) (h:wN X es t)
 (hn:(assignEach es X.env).length=n:=by rfl) (hst:(assignEach es X.env).findIdx? (·.1)=none:=by rfl):PG X (.Tuple es k pos) (BZ X.K n t):=by
 intro pins s σ H v u Q I r hw;obtain ⟨a,xs,e1,hq,hl,hw⟩:=hw;subst e1;cases r;obtain ⟨its,rv,ht,hz⟩:=I.tuple hq;refine assign_Tuple_tuple (I.ok.hd hc) ht (by simp [hn,←hl,rv.length]) hst λh' hx=>?_;have I1:aA X pins σ H { s with heap:=h' }:=I.kept (t':=s.toks) λb o e=>hx b o (Nat.ne_of_lt (Heap.lt_size e)) e;exact h pins _ σ H xs _ Q I1 (by simpa using rv) hw
noncomputable def B1 (te:TE) (g:TG):TS:=λD σ H=>te σ H λx H1=>g x σ H1 D.nx
theorem xX {i:Nat} {x:Str} {e:Expr} {te:TE} {pos':Pos} (hN:X.N.Nodup) (hi:X.N[i]?=some x) (hx:uJ X.env.scope x) (he:PE X e te) (hs:swapsWith e (some (.Name x pos')) pos.line X.env=pure false:=by rfl) (hf:X.fn x=true∨X.env.scope.names.lookup x=some .local:=by first | exact .inl rfl | exact .inr rfl | assumption):
 PS X (.Assign [.Name x pos'] e pos) (B1 te (wO i)):=by
 intro pins s σ H D I h;refine wpAny_Assign_Name (bV (he pins s σ H _ I h) λv s1 z9=>?_) hs;obtain ⟨y,H1,I1,r1,q1⟩:=z9;exact iI I1 hN hi hx r1 (λs2 I2=>⟨_,H1,I2,q1⟩) hf
end
section
variable {X:Cx} {pos:Pos}
noncomputable def xY (c:TT) (tb:TS):TS:=λD σ H=>∃W:Nat->St->Hp->Prop,(∃m,W m σ H)/\∀m σ H,W m σ H->
 c σ H λb H1=>if b=true then ∃N:St->Hp->Prop,(∀σ' H',N σ' H'->∃m',m'<m/\W m' σ' H')/\tb { D with nx:=N,ct:=N,bk:=D.nx } σ H1 else D.nx σ H1
theorem rB {c:Expr} {body:List Stmt} {tc:TT} {tb:TS} (hp:PassesOwn (model X.prog X.w) X.A X.env X.xe) (hc:PT X c tc) (hb:lr X body tb):PS X (.While c body [] pos) (xY tc tb):=by
 intro pins s σ H D I h;obtain ⟨W,⟨m0,w0⟩,turn⟩:=h;refine wpAny_While (codeAny_whileLoop (λn s'=>∃σ' H',aA X pins σ' H' s'/\W n σ' H') ?_ m0 ⟨σ,H,I,w0⟩);rintro n s1 ⟨σ1,H1,I1,w1⟩;refine wpAny_passesOwn hp (bV (hc pins s1 σ1 H1 _ I1 (turn n σ1 H1 w1)) λb s2 z9=>?_);obtain ⟨H2,I2,q2⟩:=z9;cases b with
 | true=>
   obtain ⟨N,hN,q2⟩:=q2;rw [if_pos rfl];refine wpAny_passesOwn hp (bV (hb pins s2 σ1 H2 _ I2 q2) λf s3 q3=>?_);cases f with
   | next=>
     obtain ⟨σ3,H3,I3,n3⟩:=q3;obtain ⟨m',hm,w3⟩:=hN σ3 H3 n3;exact ⟨m',hm,σ3,H3,I3,w3⟩
   | cont=>
     obtain ⟨σ3,H3,I3,n3⟩:=q3;obtain ⟨m',hm,w3⟩:=hN σ3 H3 n3;exact ⟨m',hm,σ3,H3,I3,w3⟩
   | brk=>exact q3
   | ret v=>exact q3
 | false=>
   rw [if_neg Bool.false_ne_true];exact wpAny_execs_nil ⟨σ1,H2,I2,q2⟩
end
structure It where
 go:Nat->Hp->Prop
 yld:Nat->Hp->V->Hp->Prop
 stop:Nat->Hp->Prop
noncomputable def iK (X:Cx) (pins:List (Addr×Obj)) (H:Hp) (b:Addr):Prop:=
 H b=none/\b≠X.env.locals/\b∉X.fs/\(b∈X.ex∨X.s₀.heap.objs.size<=b)/\(∀x c,X.env.cells.lookup x=some c->c≠b)/\∀p∈X.pn++pins,p.1≠b
theorem aA.fpOk {X:Cx} {pins:List (Addr×Obj)} {σ:St} {H H':Hp} {s:Shared} {b:Addr} (I:aA X pins σ H s) (hb:s.heap.objs.size<=b) (hn:H' b=none):iK X pins H' b:=by
 refine ⟨hn,Nat.ne_of_gt (Nat.lt_of_lt_of_le I.lt hb),I.nofs hb,.inr (Nat.le_trans I.sz hb),λx c e z=>?_,λp hp z=>?_⟩
 ·obtain ⟨v,q⟩:=I.cell x c e;exact absurd (Nat.lt_of_lt_of_le q.lt (by rw [z];exact hb)) (Nat.lt_irrefl _)
 ·exact absurd (Nat.lt_of_lt_of_le (Heap.lt_size (I.pin p hp).1) (by rw [z];exact hb)) (Nat.lt_irrefl _)
structure lx (P:Program) (w:World) (K:PySem.W.Frag) (tg:Expr) (J:It) (fp:List Addr) (it:Addr) (tn:Nat->Heap->Prop):Prop where
 mem:it∈fp
 obj:∀i h,tn i h->∀b∈fp,∃o,h.get? b=some o/\∀v,o.data≠ .cell v
 keep:∀i h h',tn i h->(∀b∈fp,∀o,h.get? b=some o->h'.get? b=some o)->tn i h'
 item:∀(X:Cx),X.prog=P->X.w=w->X.K=K->X.calm=true->∀(i:Nat) (pins:List (Addr×Obj)) (s:Shared) (σ:St) (H:Hp) (E:Value->Shared->Prop),aA X pins σ H s->(∀b∈fp,iK X pins H b)->tn i s.heap->J.go i H->
  wpAny (model P w) X.A (pyNext (.ref it)) (λr s1=>∃u,r=some u/\
   wpAny (model P w) X.A (letOwnedTupleGo tg (.ref it) u) (λ_ s2=>∃x H',aA X pins σ H' s2/\aZ x u/\J.yld i H x H'/\tn (i+1) s2.heap/\∀b∈fp,H' b=none) E s1) E s
 done:∀(X:Cx),X.prog=P->X.w=w->X.K=K->X.calm=true->∀(i:Nat) (pins:List (Addr×Obj)) (s:Shared) (σ:St) (H:Hp) (E:Value->Shared->Prop),aA X pins σ H s->(∀b∈fp,iK X pins H b)->tn i s.heap->J.stop i H->
  wpAny (model P w) X.A (pyNext (.ref it)) (λr s1=>r=none/\aA X pins σ H s1) E s
 self:∀(A:Around) (i:Nat) (s:Shared) (Q:Value->Shared->Prop) (E:Value->Shared->Prop),tn i s.heap->Q (.ref it) s->wpAny (model P w) A (pyIter (.ref it)) Q E s
noncomputable abbrev TI:=St->Hp->(It->Hp->Prop)->Prop
noncomputable def D4 (X:Cx) (pins:List (Addr×Obj)) (σ:St) (tg:Expr) (R:It->Hp->Prop) (itv:Value) (s2:Shared):Prop:=
 ∃(it:Addr) (fp:List Addr) (tn:Nat->Heap->Prop) (J:It) (H':Hp),itv=.ref it/\aA X pins σ H' s2/\lx X.prog X.w X.K tg J fp it tn/\tn 0 s2.heap/\(∀b∈fp,iK X pins H' b)/\R J H'
noncomputable def PI (X:Cx) (tg iter:Expr) (wi:TI):Prop:=
 ∀(pins:List (Addr×Obj)) (s:Shared) (σ:St) (H:Hp) (R:It->Hp->Prop),aA X pins σ H s->wi σ H R->
  wpAny (model X.prog X.w) X.A (eval iter X.env) (λv s1=>wpAny (model X.prog X.w) X.A (pyIter v) (D4 X pins σ tg R) X.xe s1) X.xe s
theorem lz {M:Model} {A:Around} {E:Value->Shared->Prop} {s:Shared} {tg:Expr} {it:Addr} {u:Value} {o:Obj} {n:String} {vs:Array Value} {Q:Unit->Shared->Prop} (ho:s.heap.get? it=some o) (hc:o.cls=.type n) (hd:o.data=.fields vs)
 (hn:["enumerate","zip","dict_itemiterator","dict_reverseitemiterator","odict_iterator","itertools.zip_longest","itertools.pairwise"].contains n=false) (hQ:Q () s):wpAny M A (letOwnedTupleGo tg (.ref it) u) Q E s:=by
 unfold letOwnedTupleGo;cases tg<;> first
  | exact wpAny_pure hQ
  | (cases u<;> first
      | exact wpAny_pure hQ
      | (refine wpAny_bind (wpAny_load ho ?_)
         rw [hc,hd];show wpAny M A (if (["enumerate","zip","dict_itemiterator","dict_reverseitemiterator","odict_iterator","itertools.zip_longest","itertools.pairwise"].contains n&&vs[0]?==some (rawInt _))=true then _ else _) Q E s;rw [if_neg (by intro h;rw [hn,Bool.false_and] at h;cases h)];exact wpAny_pure hQ))
noncomputable def BH (K:PySem.W.Frag) (a:Addr):It:=
 ⟨λi H=>∃xs x,cW K H a xs/\xs[i]?=some x,λi H x H'=>H'=H/\∀xs,cW K H a xs->xs[i]?=some x,λi H=>∃xs,cW K H a xs/\xs.length<=i⟩
noncomputable def B2 (K:PySem.W.Frag) (a:Addr):It:=
 ⟨λi H=>∃xs x,cR K H a xs/\xs[i]?=some x,λi H x H'=>H'=H/\∀xs,cR K H a xs->xs[i]?=some x,λi H=>∃xs,cR K H a xs/\xs.length<=i⟩
theorem qk {P:Program} {w:World} {K:PySem.W.Frag} {tg:Expr} (a it:Addr):lx P w K tg (BH K a) [it] it (λi h=>h.IsListIter it a i) where
 mem:=by simp
 obj:=λi h st b hb=>by
  have e:b=it:=by simpa using hb
  subst e;obtain ⟨o,e,c,d⟩:=st;exact ⟨o,e,λv z=>by rw [d] at z;cases z⟩
 keep:=λi h h' st k=>st.at λo e=>k it (by simp) o e
 item:=by
  intro X hP hw hK hc i pins s σ H E I hf st hg;subst hP hw hK;obtain ⟨xs,x,hq,hx⟩:=hg;obtain ⟨its,rv,p,hz⟩:=I.list hq;obtain ⟨u,hu,ru⟩:=rv.get hx;obtain ⟨f0,f1,f2,f3,f4,f5⟩:=hf it (by simp);refine wpAny_pyNext_list_item st p.isList (x:=u) (by simpa using hu) λh' st' sb=>?_;have I1:aA X pins σ H { s with heap:=h' }:=I.turned (t':=s.toks) (λb o hb e=>(sb.2 b hb).trans e) f0 f1 f3 f4 f5;obtain ⟨o,e,c,d⟩:=id st';exact ⟨u,rfl,lz (s:={ s with heap:=h' }) e c d (by decide) ⟨x,H,I1,ru,⟨rfl,λys hy=>by rw [I.list_inj hy hq];exact hx⟩,st',λb hb=>(hf b hb).1⟩⟩
 done:=by
  intro X hP hw hK hc i pins s σ H E I hf st hg;subst hP hw hK;obtain ⟨xs,hq,hx⟩:=hg;obtain ⟨its,rv,p,hz⟩:=I.list hq;obtain ⟨f0,f1,f2,f3,f4,f5⟩:=hf it (by simp);have hl:=rv.length;exact wpAny_pyNext_list_end (I.ok.hd hc) st p.isList (by simp;omega) λh' eb=>⟨rfl,I.turned (t':=s.toks) (λb o hb e=>eb b o hb e) f0 f1 f3 f4 f5⟩
 self:=λ_ _ _ _ _ st h=>wpAny_pyIter_listiter st h
theorem mZ {P:Program} {w:World} {K:PySem.W.Frag} {tg:Expr} (a it:Addr):lx P w K tg (B2 K a) [it] it (λi h=>h.IsTupleIter it a i) where
 mem:=by simp
 obj:=λi h st b hb=>by
  have e:b=it:=by simpa using hb
  subst e;obtain ⟨o,e,c,d⟩:=st;exact ⟨o,e,λv z=>by rw [d] at z;cases z⟩
 keep:=λi h h' st k=>st.at λo e=>k it (by simp) o e
 item:=by
  intro X hP hw hK hc i pins s σ H E I hf st hg;subst hP hw hK;obtain ⟨xs,x,hq,hx⟩:=hg;obtain ⟨its,rv,p,hz⟩:=I.tuple hq;obtain ⟨u,hu,ru⟩:=rv.get hx;obtain ⟨f0,f1,f2,f3,f4,f5⟩:=hf it (by simp);refine wpAny_pyNext_tuple_item st (show s.heap.IsTuple a its.toArray from p) (x:=u) (by simpa using hu) λh' st' sb=>?_;have I1:aA X pins σ H { s with heap:=h' }:=I.turned (t':=s.toks) (λb o hb e=>(sb.2 b hb).trans e) f0 f1 f3 f4 f5;obtain ⟨o,e,c,d⟩:=id st';exact ⟨u,rfl,lz (s:={ s with heap:=h' }) e c d (by decide) ⟨x,H,I1,ru,⟨rfl,λys hy=>by rw [I.tuple_inj hy hq];exact hx⟩,st',λb hb=>(hf b hb).1⟩⟩
 done:=by
  intro X hP hw hK hc i pins s σ H E I hf st hg;subst hP hw hK;obtain ⟨xs,hq,hx⟩:=hg;obtain ⟨its,rv,p,hz⟩:=I.tuple hq;obtain ⟨f0,f1,f2,f3,f4,f5⟩:=hf it (by simp);have hl:=rv.length;exact wpAny_pyNext_tuple_end (I.ok.hd hc) st (show s.heap.IsTuple a its.toArray from p) (by simp;omega) λh' eb=>⟨rfl,I.turned (t':=s.toks) (λb o hb e=>eb b o hb e) f0 f1 f3 f4 f5⟩
 self:=λ_ _ _ _ _ st h=>wpAny_pyIter_tupleiter st h
section
variable {X:Cx} {tg:Expr}
noncomputable def B3 (wi:TI) (g:TG) (tb:TS):TS:=λD σ H=>wi σ H λJ H1=>∃W:Nat->Nat->St->Hp->Prop,(∃m,W 0 m σ H1)/\∀i m σ H,W i m σ H->
 (J.stop i H/\D.nx σ H)∨(J.go i H/\∃N:St->Hp->Prop,(∀σ' H',N σ' H'->∃m',m'<m/\W (i+1) m' σ' H')/\∀x H',J.yld i H x H'->g x σ H' λσ2 H2=>tb { D with nx:=N,ct:=N,bk:=D.nx } σ2 H2)
noncomputable def iL (fp:List Addr) (h:Heap):List (Addr×Obj):=fp.filterMap λb=>(h.get? b).map λo=>(b,o)
theorem dq {fp:List Addr} {h:Heap} {b:Addr} {o:Obj} (hb:b∈fp) (e:h.get? b=some o):(b,o)∈iL fp h:=List.mem_filterMap.mpr ⟨b,hb,by rw [e];rfl⟩
theorem ql {fp:List Addr} {h:Heap} {p:Addr×Obj} (hp:p∈iL fp h):p.1∈fp/\h.get? p.1=some p.2:=by
 obtain ⟨b,hb,e⟩:=List.mem_filterMap.mp hp;cases q:h.get? b with
 | none=>rw [q] at e;cases e
 | some o=>
   rw [q] at e;have e':(b,o)=p:=Option.some.inj e;subst e';exact ⟨hb,q⟩
theorem aA.pinned {pins:List (Addr×Obj)} {σ:St} {H:Hp} {s:Shared} {fp:List Addr} (I:aA X pins σ H s) (hf:∀b∈fp,iK X pins H b) (ho:∀b∈fp,∃o,s.heap.get? b=some o/\∀v,o.data≠ .cell v):aA X (pins++iL fp s.heap) σ H s:=
 I.pins_of λp hp=>(List.mem_append.mp hp).elim (λz=>I.pin p (List.mem_append_right _ z)) λz=>by
  obtain ⟨hb,e⟩:=ql z;obtain ⟨f0,f1,f2,_⟩:=hf p.1 hb;obtain ⟨o,e',d⟩:=ho p.1 hb;rw [e] at e';cases e';exact ⟨e,f0,f1,f2,d⟩
theorem aA.unpinned {pins pl:List (Addr×Obj)} {σ:St} {H:Hp} {s:Shared} (I:aA X (pins++pl) σ H s):aA X pins σ H s:=I.pins_of λp hp=>I.pin p (List.mem_append_right _ (List.mem_append_left _ hp))
theorem xZ {iter:Expr} {body:List Stmt} {wi:TI} {g:TG} {tb:TS} {pos:Pos} (hp:PassesOwn (model X.prog X.w) X.A X.env X.xe) (hc:X.calm=true) (hi:PI X tg iter wi) (hg:PG X tg g) (hb:lr X body tb)
 (hs:∀x,foldedSetIterable iter X.env x=pure x:=by intro _;rfl):PS X (.For tg iter body [] pos) (B3 wi g tb):=by
 intro pins s σ H D I h;refine wpAny_For (bV (hi pins s σ H _ I h) λv s1 h1=>bV h1 λitv s2 h2=>?_) hs;obtain ⟨it,fp,tn,J,H2,e,I2,T,st2,f2,W,⟨m0,w0⟩,turn⟩:=h2;subst e
 -- what stays true of the iterator's objects through the loop
 have stat:∀{H':Hp},(∀b∈fp,H' b=none)->∀b∈fp,iK X pins H' b:=λhn b hb=>⟨hn b hb,(f2 b hb).2⟩;refine codeAny_forLoop_any (λn s'=>∃i σ' H',aA X pins σ' H' s'/\tn i s'.heap/\(∀b∈fp,H' b=none)/\W i n σ' H') ?_ m0 ⟨0,σ,H2,I2,st2,λb hb=>(f2 b hb).1,w0⟩;rintro n s3 ⟨i,σ3,H3,I3,st3,fr3,w3⟩;rcases turn i n σ3 H3 w3 with ⟨stop,qn⟩ | ⟨go,N,hN,step⟩
 ·refine wpAny_passesOwn hp (bV (T.done X rfl rfl rfl hc i pins s3 σ3 H3 X.xe I3 (stat fr3) st3 stop) λr s4 z9=>?_);obtain ⟨hr,I4⟩:=z9;subst hr;exact wpAny_execs_nil ⟨σ3,H3,I4,qn⟩
 ·refine wpAny_passesOwn hp (bV (T.item X rfl rfl rfl hc i pins s3 σ3 H3 X.xe I3 (stat fr3) st3 go) λr s4 z9=>?_);obtain ⟨u,hr,h4⟩:=z9;subst hr;refine wpAny_passesOwn hp (bV h4 λ_ s5 z9=>?_);obtain ⟨x,H5,I5,r5,y5,st5,fr5⟩:=z9;have I5':=I5.pinned (stat fr5) (T.obj _ _ st5);refine wpAny_passesOwn hp (bV (hg _ s5 σ3 H5 x u _ I5' r5 (step x H5 y5)) λ_ s6 z9=>?_);obtain ⟨σ6,H6,I6,q6⟩:=z9;refine wpAny_passesOwn hp (bV (hb _ s6 σ6 H6 _ I6 q6) λf s7 q7=>?_);have again:∀{σ7:St} {H7:Hp},aA X (pins++iL fp s5.heap) σ7 H7 s7->N σ7 H7->∃m,m<n/\∃i σ' H',aA X pins σ' H' s7/\tn i s7.heap/\(∀b∈fp,H' b=none)/\W i m σ' H':=λ{σ7 H7} I7 n7=>by
   obtain ⟨m',hm,w7⟩:=hN σ7 H7 n7;refine ⟨m',hm,i+1,σ7,H7,I7.unpinned,T.keep _ _ _ st5 λb hb o e=>(I7.pin (b,o) (List.mem_append_right _ (List.mem_append_right _ (dq hb e)))).1,λb hb=>?_,w7⟩;obtain ⟨o,e,d⟩:=T.obj _ _ st5 b hb;exact (I7.pin (b,o) (List.mem_append_right _ (List.mem_append_right _ (dq hb e)))).2.1
  cases f with
  | next=>obtain ⟨σ7,H7,I7,n7⟩:=q7;exact again I7 n7
  | cont=>obtain ⟨σ7,H7,I7,n7⟩:=q7;exact again I7 n7
  | brk=>obtain ⟨σ7,H7,I7,q7⟩:=q7;exact ⟨σ7,H7,I7.unpinned,q7⟩
  | ret v=>obtain ⟨x7,σ7,H7,I7,r7,q7⟩:=q7;exact ⟨x7,σ7,H7,I7.unpinned,r7,q7⟩
end
noncomputable abbrev R2:=V->V->Hp->VK->Prop
noncomputable def ir (X:Cx) (f:Value->Value->Sem Value) (r:R2):Prop:=
 ∀(pins:List (Addr×Obj)) (s:Shared) (σ:St) (H:Hp) (x y:V) (v u:Value) (Q:VK),aA X pins σ H s->aZ x v->aZ y u->r x y H Q->
  wpAny (model X.prog X.w) X.A (f v u) (EP X pins σ Q) X.xe s
noncomputable def B4 (X:Cx) (f:Value->Sem Value) (r:V->Hp->VK->Prop):Prop:=
 ∀(pins:List (Addr×Obj)) (s:Shared) (σ:St) (H:Hp) (x:V) (v:Value) (Q:VK),aA X pins σ H s->aZ x v->r x H Q->
  wpAny (model X.prog X.w) X.A (f v) (EP X pins σ Q) X.xe s
noncomputable def eP (X:Cx) (f:Value) (r:List V->Hp->VK->Prop):Prop:=
 ∀(pins:List (Addr×Obj)) (s:Shared) (σ:St) (H:Hp) (xs:List V) (us:List Value) (Q:VK),aA X pins σ H s->aM xs us->r xs H Q->
  wpAny (model X.prog X.w) X.A (call f us) (EP X pins σ Q) X.xe s
noncomputable def Aa (r:R2) (ta tb:TE):TE:=λσ H Q=>ta σ H λx H1=>tb σ H1 λy H2=>r x y H2 Q
noncomputable def D5 (r:V->Hp->VK->Prop) (ta:TE):TE:=λσ H Q=>ta σ H λx H1=>r x H1 Q
noncomputable def rI (C:Int->Int->Prop) (g:Int->Int->V):R2:=λx y H Q=>∃i j,x=.int i/\y=.int j/\C i j/\Q (g i j) H
noncomputable def uP (g:Int->Int->V):R2:=λx y H Q=>∃i j,x=.int i/\y=.int j/\Q (g i j) H
noncomputable def rU (g:Int->V):V->Hp->VK->Prop:=λx H Q=>∃i,x=.int i/\Q (g i) H
section
variable {X:Cx} {a b c:Expr} {ta tb tc:TE} {pos:Pos}
theorem yb (ha:PE X a ta) (hb:PE X b tb) {pins:List (Addr×Obj)} {s:Shared} {σ:St} {H:Hp} {R:V->V->Hp->Prop} (I:aA X pins σ H s)
 (h:ta σ H λx H1=>tb σ H1 λy H2=>R x y H2) {Q:Value->Shared->Prop} {f:Value->Value->Sem Value}
 (hf:∀v u s2 x y H2,aA X pins σ H2 s2->aZ x v->aZ y u->R x y H2->wpAny (model X.prog X.w) X.A (f v u) Q X.xe s2):
 wpAny (model X.prog X.w) X.A (eval a X.env) (λv s₁=>wpAny (model X.prog X.w) X.A (eval b X.env) (λu s₂=>wpAny (model X.prog X.w) X.A (f v u) Q X.xe s₂) X.xe s₁) X.xe s:=by
 refine bV (ha pins s σ H _ I h) λv s1 z9=>?_;obtain ⟨x,H1,I1,r1,q1⟩:=z9;refine bV (hb pins s1 σ H1 _ I1 q1) λu s2 z9=>?_;obtain ⟨y,H2,I2,r2,q2⟩:=z9;exact hf v u s2 x y H2 I2 r1 r2 q2
theorem Ab {op:Operator} {r:R2} (ho:ir X (binaryOp op) r) (ha:PE X a ta) (hb:PE X b tb):PE X (.BinOp a op b pos) (Aa r ta tb):=by
 intro pins s σ H Q I h;exact wpAny_BinOp (yb ha hb I h λv u s2 x y H2 I2 rx ry q=>ho pins s2 σ H2 x y v u Q I2 rx ry q)
theorem Ac {op:UnaryOp} {r:V->Hp->VK->Prop} (ho:B4 X (unaryOp op) r) (ha:PE X a ta):PE X (.UnaryOp op a pos) (D5 r ta):=by
 intro pins s σ H Q I h;exact UnaryOp_ (bV (ha pins s σ H _ I h) λv s1 ⟨x,H1,I1,r1,q1⟩=>ho pins s1 σ H1 x v Q I1 r1 q1)
theorem BI {f:Value->Value->Sem Value} {C:Int->Int->Prop} {g:Int->Int->Int}
 (rule:∀(i j:Int) (t u:Tok) (s:Shared) (Q:Value->Shared->Prop) (E:Value->Shared->Prop),C i j->Q (.int (g i j) s.toks) { s with toks:=s.toks+1 }->wpAny (model X.prog X.w) X.A (f (.int i t) (.int j u)) Q E s):
 ir X f (rI C λi j=> .int (g i j)):=by
 intro pins s σ H x y v u Q I rx ry h;obtain ⟨i,j,rfl,rfl,hc,q⟩:=h;obtain ⟨t,rfl⟩:=rx;obtain ⟨t',rfl⟩:=ry;exact rule i j t t' s _ _ hc ⟨.int (g i j),H,I.tok _,⟨_,rfl⟩,q⟩
theorem Ad {f:Value->Value->Sem Value} {g:Int->Int->Int}
 (rule:∀(i j:Int) (t u:Tok) (s:Shared) (Q:Value->Shared->Prop) (E:Value->Shared->Prop),Q (.int (g i j) s.toks) { s with toks:=s.toks+1 }->wpAny (model X.prog X.w) X.A (f (.int i t) (.int j u)) Q E s):
 ir X f (uP λi j=> .int (g i j)):=by
 intro pins s σ H x y v u Q I rx ry h;obtain ⟨i,j,rfl,rfl,q⟩:=h;obtain ⟨t,rfl⟩:=rx;obtain ⟨t',rfl⟩:=ry;exact rule i j t t' s _ _ ⟨.int (g i j),H,I.tok _,⟨_,rfl⟩,q⟩
theorem uQ {f:Value->Value->Sem Value} {g:Int->Int->Bool}
 (rule:∀(i j:Int) (t u:Tok) (s:Shared) (Q:Value->Shared->Prop) (E:Value->Shared->Prop),Q (.bool (g i j)) s->wpAny (model X.prog X.w) X.A (f (.int i t) (.int j u)) Q E s):
 ir X f (uP λi j=> .bl (g i j)):=by
 intro pins s σ H x y v u Q I rx ry h;obtain ⟨i,j,rfl,rfl,q⟩:=h;obtain ⟨t,rfl⟩:=rx;obtain ⟨t',rfl⟩:=ry;exact rule i j t t' s _ _ ⟨.bl (g i j),H,I,rfl,q⟩
noncomputable def Ae (i j:Int):Prop:=0<j/\j<1073741824
noncomputable def yc (i j:Int):Prop:=0<=j/\j<=1000000/\i.natAbs<2^64
noncomputable def uR (i j:Int):Prop:=(-(2^64)<i/\i<2^64)∨(-(2^64)<j/\j<2^64)
theorem uR.ok {i j:Int} (h:uR i j):IntMulOk i j:=by
 rcases h with ⟨h1,h2⟩ | ⟨h1,h2⟩
 ·exact .of_left (intBits_le_64 h1 h2)
 ·exact .of_right (intBits_le_64 h1 h2)
theorem yd:ir X (binaryOp .Add) (uP λi j=> .int (i+j)):=Ad λ_ _ _ _ _ _ _ q=>add_int q
theorem ye:ir X (binaryOp .Sub) (uP λi j=> .int (i-j)):=Ad λ_ _ _ _ _ _ _ q=>sub_int q
theorem yf:ir X (binaryOp .Mod) (rI (λ_ j=>0<j) λi j=> .int (i%j)):=BI λi j _ _ _ _ _ hc q=>by
 have h1:(0:Int)<j:=hc;exact mod_int' (by omega) (by rw [Int.fmod_eq_emod_of_nonneg i (by omega)];exact q)
theorem D6 {f:Value->Sem Value} {g:Int->Int}
 (rule:∀(i:Int) (t:Tok) (s:Shared) (Q:Value->Shared->Prop) (E:Value->Shared->Prop),Q (.int (g i) s.toks) { s with toks:=s.toks+1 }->wpAny (model X.prog X.w) X.A (f (.int i t)) Q E s):
 B4 X f (rU λi=> .int (g i)):=by
 intro pins s σ H x v Q I rx h;obtain ⟨i,rfl,q⟩:=h;obtain ⟨t,rfl⟩:=rx;exact rule i t s _ _ ⟨.int (g i),H,I.tok _,⟨_,rfl⟩,q⟩
theorem yg:B4 X (unaryOp .USub) (rU λi=> .int (-i)):=D6 λ_ _ _ _ _ q=>neg_int q
end
section
variable {X:Cx} {a b c:Expr} {ta tb tc:TE} {pos:Pos}
theorem Af:ir X (compareOp .Lt) (uP λi j=> .bl (decide (i<j))):=uQ λ_ _ _ _ _ _ _ q=>lt_int q
theorem Ag:ir X (compareOp .LtE) (uP λi j=> .bl (decide (i<=j))):=uQ λ_ _ _ _ _ _ _ q=>le_int q
theorem Ah:ir X (compareOp .Gt) (uP λi j=> .bl (decide (j<i))):=uQ λ_ _ _ _ _ _ _ q=>gt_int q
theorem Ai:ir X (compareOp .GtE) (uP λi j=> .bl (decide (j<=i))):=uQ λ_ _ _ _ _ _ _ q=>ge_int q
theorem aY (b:Expr) {op:CmpOp} (h:op≠ .In:=by decide) (h2:op≠ .NotIn:=by decide):behindInMarks op b=false:=by
 have e1:(op==CmpOp.In)=false:=by cases op<;> first | rfl | exact absurd rfl h
 have e2:(op==CmpOp.NotIn)=false:=by cases op<;> first | rfl | exact absurd rfl h2
 cases b<;> simp [behindInMarks,e1,e2]
theorem uS {op:CmpOp} {r:R2} (ho:ir X (compareOp op) r) (ha:PE X a ta) (hb:PE X b tb) (hm:behindInMarks op b=false):PE X (.Compare a [op] [b] pos) (Aa r ta tb):=by
 intro pins s σ H Q I h;exact wpAny_Compare1 (yb ha hb I h λv u s2 x y H2 I2 rx ry q=>ho pins s2 σ H2 x y v u Q I2 rx ry q) hm
noncomputable def wP (t:TE):TT:=λσ H Q=>t σ H λx H'=>∃k,x=.bl k/\Q k H'
theorem uT {op:CmpOp} {r:R2} (ho:ir X (compareOp op) r) (ha:PE X a ta) (hb:PE X b tb) (hm:behindInMarks op b=false):PT X (.Compare a [op] [b] pos) (wP (Aa r ta tb)):=by
 intro pins s σ H Q I h;refine wpAny_isTrue_Compare1 (bV (ha pins s σ H _ I h) λv s1 ⟨x,H1,I1,r1,q1⟩=>bV (hb pins s1 σ H1 _ I1 q1) λu s2 ⟨y,H2,I2,r2,q2⟩=>
  bV (ho pins s2 σ H2 x y v u _ I2 r1 r2 q2) λc s3 ⟨z,H3,I3,r3,k,e,q3⟩=>?_) hm
 subst e;cases r3;exact wpAny_truthy_bool ⟨H3,I3,q3⟩
theorem iM:(sizeLine:Nat)<2^63:=by rw [sizeLine_eq];decide
theorem m9:ir X (binaryOp .Add) (λx y H Q=>∃i j,x=.str i/\y=.str j/\i.length+j.length<=sizeLine/\Q (.str (i++j)) H):=by
 intro pins s σ H x y v u Q I rx ry h;obtain ⟨i,j,rfl,rfl,hz,q⟩:=h;obtain ⟨t,rfl⟩:=rx;obtain ⟨t',rfl⟩:=ry;exact add_str (λt' tk=>⟨.str (i++j),H,I.tok _,⟨_,rfl⟩,q⟩) hz
theorem fy {x:V} {us:List Value} (r:aM [x] us):∃u,us=[u]/\aZ x u:=by
 cases r with
 | cons r1 r2=>cases r2;exact ⟨_,rfl,r1⟩
theorem oK {x y:V} {us:List Value} (r:aM [x,y] us):∃u w',us=[u,w']/\aZ x u/\aZ y w':=by
 cases r with
 | cons r1 r2=>
   cases r2 with
   | cons r3 r4=>cases r4;exact ⟨_,_,rfl,r1,r3⟩
theorem qm (hc:X.calm=true):eP X (.builtin "max") (λxs H Q=>∃i j,xs=[.int i,.int j]/\Q (.int (if j > i then j else i)) H):=by
 intro pins s σ H xs us Q I r h;obtain ⟨i,j,rfl,q⟩:=h;obtain ⟨u,w',rfl,⟨t,rfl⟩,⟨t',rfl⟩⟩:=oK r;refine max_two_ints (I.ok.hd hc) λh' tk k=>⟨_,H,I.kept k,?_,q⟩
 by_cases hj:j > i
 ·rw [if_pos hj,if_pos hj];exact ⟨_,rfl⟩
 ·rw [if_neg hj,if_neg hj];exact ⟨_,rfl⟩
end
structure ng (h:Heap) (x dx C:Addr) (mA:Str->Option Value):Prop where
 obj:h.get? x=some (instObj C dx)
 ns:h.Ns1 dx mA
 ne:dx≠x
theorem qo {h:Heap} {dx:Addr} {mA:Str->Option Value} (n:h.Ns1 dx mA):∃od,h.get? dx=some od/\∀name,lookIn name od=some (mA name):=by
 obtain ⟨o,es,ep,ho,hd,hk,_,hm⟩:=n;refine ⟨o,ho,λname=>?_⟩;have e:=hm name;unfold nsFind findBy at e;rw [←Array.find?_toList] at e;unfold lookIn;rw [hd];dsimp only;split
 ·rename_i y q;rw [q] at e;exact congrArg some e
 ·rename_i q;rw [q] at e;have a:es.toList.any (·.refKey)=false:=by
   rw [List.any_eq_false];intro y hy;obtain ⟨z,t,hkey⟩:=hk y (Array.mem_toList_iff.mp hy);simp [DictEntry.refKey,hkey]
  have a':¬es.toList.any (·.refKey)=true:=by rw [a];exact Bool.false_ne_true
  rw [if_neg a'];exact congrArg some e
theorem ng.look {h:Heap} {x dx C:Addr} {mA:Str->Option Value} (I:ng h x dx C mA):∃od,PySem.W.InstAt h x (instObj C dx) C (some od)/\∀name,lookIn name od=some (mA name):=
 let ⟨od,ho,hl⟩:=qo I.ns
 ⟨od,⟨I.obj,rfl,rfl,ho⟩,hl⟩
section
variable {prog:Program} {w:World} {A:Around} {E:Value->Shared->Prop} {s:Shared} {K:PySem.W.Frag} {x dx C f:Addr} {mA:Str->Option Value} {name:Str} {v:Value}
theorem uU {expr:Bool} {Q:Value->Shared->Prop} (X:K.In s.heap) (I:ng s.heap x dx C mA) (hg:plainGet K C name=true) (hh:hasDictIn K C=true)
 (ha:findIn K (.ref C) name=some none) (hv:mA name=some v) (hv':PySem.W.handedIn v=true) (h:Q v { s with toks:=s.toks+1 }):
 wpAny (model prog w) A (getAttr (.ref x) name expr) Q E s:=by
 obtain ⟨od,J,hl⟩:=I.look;exact PySem.W.get_value X J (PySem.W.plainGet_of hg).1 (PySem.W.findObj_own hh ha rfl (by rw [hl,hv])) hv' h
theorem rC {pl:Sem Bool} {Q:Value×List Value->Shared->Prop} (X:K.In s.heap) (I:ng s.heap x dx C mA) (hg:plainGet K C name=true)
 (hf:findIn K (.ref C) name=some (some (.ref f))) (ht:isFn K (.ref f)=true) (hv:mA name=none) (h:Q (.ref f,[.ref x]) s):
 wpAny (model prog w) A (getMethod (.ref x) name pl) Q E s:=by
 obtain ⟨od,J,hl⟩:=I.look;exact PySem.W.method_fn X J (PySem.W.plainGet_of hg).1 (PySem.W.plainGet_of hg).2 hf (beq_iff_eq.mp ht) (by show (lookIn name od).map (·.isSome)=some false;rw [hl,hv];rfl) h
theorem uV {ns:List Str} {Q:Unit->Shared->Prop} (X:K.In s.heap) (I:ng s.heap x dx C mA)
 (hs:findIn K (.ref C) "__setattr__"=some (some (.builtin "object.__setattr__"))) (hp:plainOver K C=true) (ht:PySem.W.takerIn K C name=some none) (hh:hasDictIn K C=true)
 (hw:PySem.Within mA ns) (hsz:ns.length<=sizeLine)
 (h:∀h',ng h' x dx C (λy=>if y=name then some v else mA y)->Heap.SameBut dx s.heap h'->Q () { s with heap:=h',toks:=s.toks+2 }):
 wpAny (model prog w) A (setAttr (.ref x) name v) Q E s:=by
 obtain ⟨od,J,hl⟩:=I.look;refine PySem.W.set_plain X J hs (PySem.W.osa_open (s:={ s with toks:=s.toks+1 }) (r:=none) X J hp ht λb=>?_);obtain ⟨cd,hc,hd'⟩:=PySem.W.any_some hh;have hx:s.heap.get? x=some ⟨.ref C,some dx,.plain,#[]⟩:=I.obj;refine wpAny_bind (wpAny_pure (wpAny_bind (wpAny_bind (wpAny_loadPart hx (wpAny_bind (PySem.W.Looks.here (s:={ s with toks:=s.toks+1 }) (PySem.W.looks_clsIn X hc) ?_))))));rw [hd'];refine wpAny_pure (a:=some dx) (wpAny_bind (wpAny_pure (wpAny_bind ?_)));refine wpAny_nsSet1 (s:={ s with toks:=s.toks+1 }) I.ns λh' hn2 hs2=>?_;obtain ⟨oD,esD,epD,hoD,hdD,hcD⟩:=hn2.count (PySem.Within.cons name v hw);refine wpAny_bind (wpAny_lookBehind hoD (by rw [hdD];exact pastItsLine_dict (Nat.le_trans hcD (by rw [List.length_cons];omega))) ?_);exact wpAny_pure (h _ ⟨(hs2.2 _ (Ne.symm I.ne)).trans I.obj,hn2,I.ne⟩ hs2)
theorem rD {R:Result->Shared->Prop} {vs:List Value} {kw:List (Str×Value)} (X:K.In s.heap) (hm:makesIn K C=true)
 (hi:findIn K (.ref C) "__init__"=some (some (.ref f))) (hf:typeIn K (.ref f)=some (.type "function"))
 (h:codeAny (model prog w) (A.under (.builtin "type.__call__" ⟨.ref C::vs,kw⟩)) (.call (.ref f) ⟨.ref (s.heap.objs.size+1)::vs,kw⟩) (PySem.W.InitBack (s.heap.objs.size+1) R)
   { s with heap:=(s.heap.push emptyDict).push (instObj C s.heap.objs.size) }):
 codeAny (model prog w) A (.call (.ref C) ⟨vs,kw⟩) R s:=by
 obtain ⟨hh,g,d,t,os⟩:=s;exact PySem.W.make_core (PySem.W.makes_of X hm) (looks_findIn X hi) (λself=>PySem.W.bind_fn X self hf) (.inl rfl) h
end
noncomputable def dW (f:Str) (v:V):List (Str×V)->List (Str×V)
 | []=>[(f,v)]
 | (g,x)::r=>if g=f then (g,v)::r else (g,x)::dW f v r
theorem hV (f g:Str) (v:V):∀fs:List (Str×V),(dW f v fs).lookup g=if g=f then some v else fs.lookup g
 | []=>by
   show List.lookup g [(f,v)]=_
   by_cases h:g=f
   ·have hb:(g==f)=true:=beq_iff_eq.mpr h;simp only [List.lookup,hb,if_pos h]
   ·have hb:(g==f)=false:=beq_eq_false_iff_ne.mpr h;simp only [List.lookup,hb,if_neg h]
 | (k,x)::r=>by
   have ih:=hV f g v r;rw [show dW f v ((k,x)::r)=(if k=f then (k,v)::r else (k,x)::dW f v r) from rfl]
   by_cases hk:k=f
   ·rw [if_pos hk]
    by_cases h:g=k
    ·have hb:(g==k)=true:=beq_iff_eq.mpr h;simp only [List.lookup,hb,if_pos (h.trans hk)]
    ·have hb:(g==k)=false:=beq_eq_false_iff_ne.mpr h;simp only [List.lookup,hb,if_neg (λe:g=f=>h (e.trans hk.symm))]
   ·rw [if_neg hk]
    by_cases h:g=k
    ·have hb:(g==k)=true:=beq_iff_eq.mpr h;simp only [List.lookup,hb,if_neg (λe:g=f=>hk (h.symm.trans e))]
    ·have hb:(g==k)=false:=beq_eq_false_iff_ne.mpr h;simp only [List.lookup,hb];exact ih
theorem gy (f:Str) (v:V):∀fs:List (Str×V),f∈(dW f v fs).map (·.1)/\∀g,g∈fs.map (·.1)->g∈(dW f v fs).map (·.1)
 | []=>⟨by simp [dW],λg h=>by simp at h⟩
 | (k,x)::r=>by
   obtain ⟨i1,i2⟩:=gy f v r;rw [show dW f v ((k,x)::r)=(if k=f then (k,v)::r else (k,x)::dW f v r) from rfl]
   by_cases hk:k=f
   ·rw [if_pos hk];subst hk;exact ⟨by simp,λg h=>by simpa using h⟩
   ·rw [if_neg hk];refine ⟨?_,λg h=>?_⟩
    ·rw [List.map_cons];exact List.mem_cons_of_mem _ i1
    ·rw [List.map_cons] at h ⊢;rcases List.mem_cons.mp h with e | e
     ·exact List.mem_cons.mpr (.inl e)
     ·exact List.mem_cons_of_mem _ (i2 g e)
theorem hW (f:Str) (v:V):∀fs:List (Str×V),(dW f v fs).length<=fs.length+1
 | []=>by simp [dW]
 | (k,x)::r=>by
   have ih:=hW f v r;rw [show dW f v ((k,x)::r)=(if k=f then (k,v)::r else (k,x)::dW f v r) from rfl]
   by_cases hk:k=f
   ·rw [if_pos hk,List.length_cons,List.length_cons];omega
   ·rw [if_neg hk,List.length_cons,List.length_cons];omega
theorem fH.some_of {v:V} {o:Option Value} (r:fH (some v) o):∃u,o=some u/\aZ v u:=by
 cases o with
 | none=>exact (show False from r).elim
 | some u=>exact ⟨u,rfl,r⟩
theorem fH.none_of {o:Option Value} (r:fH none o):o=none:=by
 cases o with
 | none=>rfl
 | some u=>exact (show False from r).elim
theorem qp {v:V} {u:Value} (r:aZ v u):PySem.W.handedIn u=true:=by
 cases v with
 | non=>cases (show u=Value.none from r);rfl
 | bl b=>cases (show u=Value.bool b from r);rfl
 | int i=>obtain ⟨t,e⟩:=(show ∃t,u=Value.int i t from r);cases e;rfl
 | str x=>obtain ⟨t,e⟩:=(show ∃t,u=Value.str x t from r);cases e;rfl
 | byt b=>obtain ⟨t,e⟩:=(show ∃t,u=Value.bytes b t from r);cases e;rfl
 | flt b=>obtain ⟨t,e⟩:=(show ∃t,u=Value.float b t from r);cases e;rfl
 | ref a=>cases (show u=Value.ref a from r);rfl
 | ty n=>cases (show u=Value.type n from r);rfl
section
variable {P:Program} {w:World} {H H':Hp} {h h':Heap} {a C dx:Addr} {fs fs':List (Str×V)}
theorem iu (hok:fO P w H h) (e:H a=some (.ins C dx fs)):∃mA,ng h a dx C mA/\(∀f,fH (fs.lookup f) (mA f))/\PySem.Within mA (fs.map (·.1))/\fs.length<=1000/\H dx=some (.own a):=by
 obtain ⟨d,z,ne,ob,mA,n,r,q⟩:=(show bE P w H h a (.ins C dx fs) from hok a _ e);exact ⟨mA,⟨ob,n,ne⟩,r,q,z,d⟩
end
structure dr (K:PySem.W.Frag) (C:Addr):Prop where
 pg:plainGet K C Str.empty=true
 hd:hasDictIn K C=true
 po:plainOver K C=true
 sa:findIn K (.ref C) "__setattr__"=some (some (.builtin "object.__setattr__"))
theorem dr.get {K:PySem.W.Frag} {C:Addr} (c:dr K C) (f:Str):plainGet K C f=true:=c.pg
noncomputable def aC (K:PySem.W.Frag) (C:Addr) (f:Str):Prop:=findIn K (.ref C) f=some none
theorem aC.taker {K:PySem.W.Frag} {C:Addr} {f:Str} (n:aC K C f):PySem.W.takerIn K C f=some none:=by
 unfold PySem.W.takerIn;rw [show findIn K (.ref C) f=some none from n]
 rfl
structure Ej (K:PySem.W.Frag) (C:Addr) (f:Str) (v:V) (u:Value):Prop where
 at_:findIn K (.ref C) f=some (some u)
 rel:aZ v u
 get:PySem.W.specialIn K u "__get__"=some none
 cp:PySem.W.copiedNames.contains f=false
structure qq (K:PySem.W.Frag) (C:Addr) (m:Str) (f:Addr):Prop where
 at_:findIn K (.ref C) m=some (some (.ref f))
 fn:isFn K (.ref f)=true
 kp:keepIn K (.ref f)=true
section
variable {X:Cx} {pins:List (Addr×Obj)} {σ:St} {H:Hp} {s:Shared} {a C dx:Addr} {fs:List (Str×V)} {f:Str} {v:V} {A:Around} {E:Value->Shared->Prop}
theorem ni {b:Bool} {Q:Value->Shared->Prop} (I:aA X pins σ H s) (e:H a=some (.ins C dx fs)) (c:dr X.K C) (n:aC X.K C f) (l:fs.lookup f=some v)
 (h:∀u s',aA X pins σ H s'->aZ v u->Q u s'):wpAny (model X.prog X.w) A (getAttr (.ref a) f b) Q E s:=by
 obtain ⟨mA,O,r,_,_,_⟩:=iu I.hok e;obtain ⟨u,hu,ru⟩:=fH.some_of (v:=v) (o:=mA f) (by rw [←l];exact r f);exact uU I.kIn O (c.get f) c.hd n hu (qp ru) (h u _ (I.tok _) ru)
theorem iN {m:Str} {g:Addr} {pl:Sem Bool} {Q:Value×List Value->Shared->Prop} (I:aA X pins σ H s) (e:H a=some (.ins C dx fs)) (c:dr X.K C) (k:qq X.K C m g) (l:fs.lookup m=none)
 (h:Q (.ref g,[.ref a]) s):wpAny (model X.prog X.w) A (getMethod (.ref a) m pl) Q E s:=by
 obtain ⟨mA,O,r,_,_,_⟩:=iu I.hok e;have hn:mA m=none:=fH.none_of (by rw [←l];exact r m);exact rC I.kIn O (c.get m) k.at_ k.fn hn h
theorem nj {y:V} {u:Value} {Q:Unit->Shared->Prop} (I:aA X pins σ H s) (e:H a=some (.ins C dx fs)) (c:dr X.K C) (n:aC X.K C f) (hl:fs.length<1000) (ry:aZ y u)
 (h:∀s',aA X pins σ (upd H a (.ins C dx (dW f y fs))) s'->Q () s'):wpAny (model X.prog X.w) A (setAttr (.ref a) f u) Q E s:=by
 obtain ⟨mA,O,r,wi,_,ho⟩:=iu I.hok e;have hz:(fs.map (·.1)).length<=sizeLine:=by rw [List.length_map,sizeLine_eq];omega
 refine uV I.kIn O c.sa c.po n.taker c.hd wi hz λh' O' sb=>h _ ?_;have hd:∃o,h'.get? dx=some o:=let ⟨o,_,_,e',_⟩:=O'.ns;⟨o,e'⟩;refine I.write (x:=a) (e:=dx) (by rw [e];exact True.intro) (.inr ho) (λb q hb z=>(sb.2 b hb).trans z) hd ?_;refine ⟨by rw [ax O.ne];exact ho,?_,O.ne,O'.obj,_,O'.ns,λg=>?_,λg hg=>?_⟩
 ·have:=hW f y fs;omega
 ·show fH ((dW f y fs).lookup g) (if g=f then some u else mA g);rw [hV]
  by_cases q:g=f
  ·rw [if_pos q,if_pos q];exact ry
  ·rw [if_neg q,if_neg q];exact r g
 ·by_cases q:g=f
  ·rw [q];exact (gy f y fs).1
  ·refine (gy f y fs).2 g (wi g λz=>hg ?_);show (if g=f then some u else mA g)=none;rw [if_neg q];exact z
theorem aA.made (I:aA X pins σ H s):aA X pins σ (upd (upd H s.heap.objs.size (.own (s.heap.objs.size+1))) (s.heap.objs.size+1) (.ins C s.heap.objs.size []))
 { s with heap:=(s.heap.push emptyDict).push (instObj C s.heap.objs.size) }:=by
 have e1:(s.heap.push emptyDict).get? s.heap.objs.size=some emptyDict:=Heap.get?_push_size s.heap rfl;have e2:((s.heap.push emptyDict).push (instObj C s.heap.objs.size)).get? (s.heap.objs.size+1)=some (instObj C s.heap.objs.size):=by
  have:=Heap.get?_push_size (s.heap.push emptyDict) (o:=instObj C s.heap.objs.size) rfl
  rwa [Heap.size_push] at this
 have e3:(s.heap.push emptyDict).Ns s.heap.objs.size (λ_=>none):=⟨emptyDict,#[],_,e1,rfl,(λe he=>absurd he (by simp)),λ_=>rfl⟩;have I1:=I.laid (a:=s.heap.objs.size) (o:= .own (s.heap.objs.size+1)) (h':=s.heap.push emptyDict) (t':=s.toks) (λb u q=>Heap.get?_push_of_some _ q) (Nat.le_refl _) ⟨_,e1⟩;refine I1.laid (a:=s.heap.objs.size+1) (o:= .ins C s.heap.objs.size []) (t':=s.toks) (λb u q=>Heap.get?_push_of_some _ q) (Nat.le_of_eq (Heap.size_push _ _)) ?_;have ne:s.heap.objs.size≠s.heap.objs.size+1:=Nat.ne_of_lt (Nat.lt_succ_self _);refine ⟨by rw [ax ne,aP],Nat.zero_le _,ne,e2,λ_=>none,(Heap.Ns1.of_empty e3).at λo q=>Heap.get?_push_of_some _ q,λ_=>True.intro,λy hy=>absurd rfl hy⟩
theorem uW {prog:Program} {w:World} {env:Env} {e:Expr} {f:Str} {pos:Pos} {s:Shared} {Q:Value->Shared->Prop} (hb:attributeBase e f env (eval e env)=eval e env)
 (h:wpAny (model prog w) A (eval e env) (λo s₁=>wpAny (model prog w) A (getAttr o f true) Q E s₁) E s):wpAny (model prog w) A (eval (.Attribute e f pos) env) Q E s:=
 Attribute_any_ h (by rw [arm_eval_Attribute,hb])
end
noncomputable def B5 (K:PySem.W.Frag) (ta:TE) (f:Str):TE:=λσ H Q=>ta σ H λx H1=>∃a C dx fs v,x=.ref a/\H1 a=some (.ins C dx fs)/\dr K C/\aC K C f/\fs.lookup f=some v/\Q v H1
noncomputable def B6 (K:PySem.W.Frag) (ta tv:TE) (f:Str):TS:=λD σ H=>tv σ H λy H1=>ta σ H1 λx H2=>∃a C dx fs,x=.ref a/\H2 a=some (.ins C dx fs)/\dr K C/\aC K C f/\fs.length<1000/\
 D.nx σ (upd H2 a (.ins C dx (dW f y fs)))
section
variable {X:Cx} {o e value:Expr} {f:Str} {pos pos' tpos:Pos} {ta tv:TE}
theorem yh (he:PE X e ta) (hb:attributeBase e f X.env (eval e X.env)=eval e X.env):PE X (.Attribute e f pos) (B5 X.K ta f):=by
 intro pins s σ H Q I h;refine uW hb (bV (he pins s σ H _ I h) λu s1 z9=>?_);obtain ⟨x,H1,I1,rx,a,C,dx,fs,v,ex,ea,c,n,l,q⟩:=z9;subst ex;obtain rfl:u=Value.ref a:=rx;exact ni I1 ea c n l λu' s2 I2 ru=>⟨v,H1,I2,ru,q⟩
theorem yi (ha:PE X o ta) (hv:PE X value tv) (hs:swapsWith value (some (.Attribute o f pos')) pos.line X.env=pure false):PS X (.Assign [.Attribute o f pos'] value pos) (B6 X.K ta tv f):=by
 intro pins s σ H D I h;refine plainObj_wpAny_Assign_Attribute (bV (hv pins s σ H _ I h) λu s1 ⟨y,H1,I1,ry,q⟩=>bV (ha pins s1 σ H1 _ I1 q) λov s2 z9=>?_) hs;obtain ⟨x,H2,I2,rx,a,C,dx,fs,ex,ea,c,n,l,q2⟩:=z9;subst ex;obtain rfl:ov=Value.ref a:=rx;exact nj I2 ea c n l ry λs3 I3=>⟨σ,_,I3,q2⟩
end
section
variable {X:Cx} {pins:List (Addr×Obj)} {σ:St} {H:Hp} {s:Shared} {A:Around} {E:Value->Shared->Prop} {Q:Value->Shared->Prop} {c:Value} {b:Bool}
inductive gz (K:PySem.W.Frag) (H:Hp):V->Value->Prop where
 | non:gz K H .non (.type "NoneType")
 | bl (x:Bool):gz K H (.bl x) (.type "bool")
 | int (i:Int):gz K H (.int i) (.type "int")
 | str (x:Str):gz K H (.str x) (.type "str")
 | flt (x:UInt64):gz K H (.flt x) (.type "float")
 | lst {a:Addr} {xs:List V} (e:H a=some (.lst xs)):gz K H (.ref a) (.type "list")
 | frz {a:Addr} {o:Obj} {xs:List V} (e:H a=some (.frz o (.lst xs))):gz K H (.ref a) (.type "list")
 | tup {a:Addr} {xs:List V} (e:H a=some (.tup xs)):gz K H (.ref a) (.type "tuple")
 | dK {a:Addr} {kvs:List (aF×V)} (e:H a=some (.dK kvs)):gz K H (.ref a) (.type "dict")
 | dT {a:Addr} {kvs:List (List aF×V)} (e:H a=some (.dT kvs)):gz K H (.ref a) (.type "dict")
 | ins {a C dx:Addr} {fs:List (Str×V)} (e:H a=some (.ins C dx fs)) (cl:dr K C) (ha:findIn K (.ref C) "__class__"=some (some (.builtin "object.__class__")))
    (hn:PySem.W.specialIn K (.builtin "object.__class__") "__get__"=some (some (.builtin "getset_descriptor.__get__"))) (htk:PySem.W.takesIn K (.builtin "object.__class__")=some true)
    (hm:mroIn K C (.type "object")=some true):gz K H (.ref a) (.ref C)
theorem qr {x:V} {u t:Value} (I:aA X pins σ H s) (rx:aZ x u) (ty:gz X.K H x t) (e:kitOne X.K t c=some b) (h:∀tk,Q (.bool b) { s with toks:=tk }):
 wpAny (model X.prog X.w) A (call (.builtin "isinstance") [u,c]) Q E s:=by
 cases ty with
 | non=>cases (show u=Value.none from rx);exact kia_one PySem.W.kitx_none I.kIn True.intro e (λz=>nomatch z) h
 | bl y=>cases (show u=Value.bool y from rx);exact kia_one PySem.W.kitx_bool I.kIn True.intro e (λz=>nomatch z) h
 | int i=>obtain ⟨t,q⟩:=(show ∃t,u=Value.int i t from rx);cases q;exact kia_one PySem.W.kitx_int I.kIn True.intro e (λz=>nomatch z) h
 | str y=>obtain ⟨t,q⟩:=(show ∃t,u=Value.str y t from rx);cases q;exact kia_one PySem.W.kitx_str I.kIn True.intro e (λz=>nomatch z) h
 | flt y=>obtain ⟨t,q⟩:=(show ∃t,u=Value.float y t from rx);cases q;exact kia_one PySem.W.kitx_float I.kIn True.intro e (λz=>nomatch z) h
 | @lst a xs ea=>
   cases (show u=Value.ref a from rx);obtain ⟨_,_,n,_,h1⟩:=(show bE X.prog X.w H s.heap a (.lst xs) from I.hok a _ ea);exact kia_one PySem.W.kitx_list I.kIn ⟨_,h1,rfl⟩ e (λz=>nomatch z) h
 | @frz a ob xs ea=>
   cases (show u=Value.ref a from rx);obtain ⟨_,_,_,n,_,h1⟩:=(show bE X.prog X.w H s.heap a (.frz ob (.lst xs)) from I.hok a _ ea);exact kia_one PySem.W.kitx_list I.kIn ⟨_,h1,rfl⟩ e (λz=>nomatch z) h
 | @tup a xs ea=>
   cases (show u=Value.ref a from rx);obtain ⟨_,_,_,p⟩:=(show bE X.prog X.w H s.heap a (.tup xs) from I.hok a _ ea);obtain ⟨o,h1,h2,_⟩:=p;exact kia_one PySem.W.kitx_tuple I.kIn ⟨o,h1,h2⟩ e (λz=>nomatch z) h
 | @dK a kvs ea=>
   cases (show u=Value.ref a from rx);obtain ⟨_,_,vs,_,p⟩:=(show bE X.prog X.w H s.heap a (.dK kvs) from I.hok a _ ea);obtain ⟨o,es,ep,h1,h2,_⟩:=p;exact kia_one PySem.W.kitx_dict I.kIn ⟨o,h1,h2.1⟩ e (λz=>nomatch z) h
 | @dT a kvs ea=>
   cases (show u=Value.ref a from rx);obtain ⟨_,_,xs,_,o,es,ep,h1,h2,_⟩:=(show bE X.prog X.w H s.heap a (.dT kvs) from I.hok a _ ea);exact kia_one PySem.W.kitx_dict I.kIn ⟨o,h1,h2.1⟩ e (λz=>nomatch z) h
 | @ins a C dx fs ea cl ha hn htk hm=>
   cases (show u=Value.ref a from rx);obtain ⟨mA,O,_⟩:=iu I.hok ea;obtain ⟨od,J,_⟩:=O.look;exact kia_one (PySem.W.kitx_own (cl.get _) cl.hd ha hn htk hm) I.kIn J e (λz=>nomatch z) h
end
structure ay (k:Nat) (A:Around):Prop where
 hd:A.handled=none
 dp:A.depth+3*k+5<recursionLimit
 un:A.units+16*k+200<cLine
theorem ay.mono {j k:Nat} {A:Around} (r:ay k A) (h:j<=k):ay j A:=⟨r.hd,by have:=r.dp;omega,by have:=r.un;omega⟩
theorem ay.deeper {k:Nat} {A:Around} (r:ay (k+1) A) (env:Env):ay k (A.deeper env):=
 ⟨r.hd,by have:=r.dp;show A.depth+1+3*k+5<_;omega,by have:=r.un;show A.units+3+16*k+200<_;omega⟩
theorem nk {A:Around} {C:Addr} {us:List Value} {kw:List (Str×Value)}:(A.under (.builtin "type.__call__" ⟨.ref C::us,kw⟩)).depth=A.depth+1:=by
 first | rfl | simp [Around.under,Code.weight,Code.isCreation,Code.isGuard,Code.isCaller,Code.frames,Code.isFrame,guardIds]
theorem nl {A:Around} {C:Addr} {us:List Value} {kw:List (Str×Value)}:(A.under (.builtin "type.__call__" ⟨.ref C::us,kw⟩)).units=A.units+1:=by
 first | rfl | simp [Around.under,Code.cUnits,Code.frames,Code.isFrame]
theorem ay.make {k:Nat} {A:Around} (r:ay (k+1) A) (C:Addr) (us:List Value) (kw:List (Str×Value)):ay k (A.under (.builtin "type.__call__" ⟨.ref C::us,kw⟩)):=
 ⟨r.hd,by have:=r.dp;rw [nk];omega,by have:=r.un;rw [nl];omega⟩
theorem ay.depth {k:Nat} {A:Around} (r:ay k A):A.depth<recursionLimit:=by have:=r.dp;omega
noncomputable def qt:TA:=λ_ H Q=>Q [] H
noncomputable def iO (ta:TE) (tr:TA):TA:=λσ H Q=>ta σ H λx H1=>tr σ H1 λxs H2=>Q (x::xs) H2
section
variable {X:Cx} {e:Expr} {es:List Expr} {te:TE} {t:TA} {pos:Pos}
theorem pa_nil:PA X [] qt:=λ_ _ _ _ H Q I h=>Calls.spliced_nil ⟨[],H,I,.nil,h⟩
theorem bL (ha:PE X e te) (hr:PA X es t) (hs:starEach (e::es) X.env=(false,eval e X.env)::starEach es X.env:=by rfl):PA X (e::es) (iO te t):=by
 intro pos pins s σ H Q I h;rw [hs];show wpAny _ _ (spliced ((false,eval e X.env)::backTo pos (starEach es X.env))) _ _ s;refine Calls.spliced_cons (bV (ha pins s σ H _ I h) λu s1 z9=>?_);obtain ⟨x,H1,I1,r1,q1⟩:=z9;exact bV (hr pos pins s1 σ H1 _ I1 q1) λus s2 ⟨xs,H2,I2,r2,q2⟩=>⟨x::xs,H2,I2,.cons r1 r2,q2⟩
noncomputable def B7 (t:TA):TE:=λσ H Q=>t σ H λxs H1=>xs.length<=sizeLine/\∀p,H1 p=none->Q (.ref p) (upd H1 p (.tup xs))
noncomputable def B8 (t:TA):TE:=λσ H Q=>t σ H λxs H1=>xs.length<=sizeLine/\∀p,H1 p=none->Q (.ref p) (upd H1 p (.lst xs))
theorem yj {x1} (h:PA X es t):PE X (.Tuple es x1 pos) (B7 t):=by
 intro pins s σ H Q I hq;refine wpAny_Tuple_spliced (bV (h pos pins s σ H _ I hq) λus s1 ⟨xs,H1,I1,r,z,q⟩=>⟨by rw [←r.length];exact z,?_⟩);have hf:H1 s1.heap.objs.size=none:=I1.hok.fresh (Nat.le_refl _);refine ⟨.ref s1.heap.objs.size,upd H1 s1.heap.objs.size (.tup xs),I1.laid (t':=s1.toks) (λb u e=>Heap.get?_push_of_some _ e) (Nat.le_refl _) ?_,rfl,q _ hf⟩;exact ⟨z,us,r,⟨_,Heap.get?_push_size _ rfl,rfl,_,rfl⟩⟩
theorem yk (h:PA X es t):PE X (.List es pos) (B8 t):=by
 intro pins s σ H Q I hq;refine wpAny_List_spliced (bV (h pos pins s σ H _ I hq) λus s1 ⟨xs,H1,I1,r,z,q⟩=>⟨by rw [←r.length];exact z,?_⟩);have hf:H1 s1.heap.objs.size=none:=I1.hok.fresh (Nat.le_refl _);refine ⟨.ref s1.heap.objs.size,upd H1 s1.heap.objs.size (.lst xs),I1.laid (t':=s1.toks) (λb u e=>Heap.get?_push_of_some _ e) (Nat.le_refl _) ?_,rfl,q _ hf⟩;exact ⟨z,us,0,r,Heap.get?_push_size _ rfl⟩
end
noncomputable abbrev Sp:=List V->Hp->VK->XK->Prop
noncomputable abbrev nq:=List Env->Hp->Shared->XK->Value->Shared->Prop
structure lA (P:Program) (w:World) (K:PySem.W.Frag) (mg:Str->Option Value) (base:Heap) (A:Around) (outer:List Env) (s:Shared) (H:Hp):Prop where
 frames:A.frames=some outer
 mod:Mod K mg base
 bs:∀b o,base.get? b=some o->s.heap.get? b=some o/\H b=none
 bsz:base.objs.size<=s.heap.objs.size
 funs:s.heap.FunFrames base outer
 frf:∀b∈ez outer,H b=none
 hok:fO P w H s.heap
 bare:AllBare s.gens
noncomputable def CE (outer:List Env) (P:Program) (w:World) (H:Hp) (s:Shared) (Q:VK) (u:Value) (s':Shared):Prop:=
 ∃v H',s'.os=s.os/\AllBare s'.gens/\Un (ez outer) [] H H' s.heap s'.heap/\fO P w H' s'.heap/\aZ v u/\Q v H'
noncomputable def CR (CX:nq) (outer:List Env) (P:Program) (w:World) (H:Hp) (s:Shared) (Q:VK) (E:XK) (r:Result) (s':Shared):Prop:=
 match r with
 | .ok (.ret u)=>CE outer P w H s Q u s'
 | .ok _=>False
 | .error e=>CX outer H s E e s'
structure dE (P:Program) (w:World) (K:PySem.W.Frag) (mg:Str->Option Value) (base:Heap) (CX:nq) (k:Nat) (f:Addr) (fd:FuncData) (ps:List Str) (sp:Sp):Prop where
 len:∀vs H Q E,sp vs H Q E->vs.length=ps.length
 run:∀(A:Around) (outer:List Env) (s:Shared) (H:Hp) (args:Args) (us:List Value) (vs:List V) (Q:VK) (E:XK),ay k A->lA P w K mg base A outer s H->BindsTo s fd args (ps.zip us)->aM vs us->sp vs H Q E->
  codeAny (model P w) A (.call (.ref f) args) (CR CX outer P w H s Q E) s
theorem dE.mono {P:Program} {w:World} {K:PySem.W.Frag} {mg:Str->Option Value} {base:Heap} {CX:nq} {j k:Nat} {f:Addr} {fd:FuncData} {ps:List Str} {sp:Sp} (F:dE P w K mg base CX j f fd ps sp) (h:j<=k):
 dE P w K mg base CX k f fd ps sp:=⟨F.len,λA outer s H args us vs Q E hr=>F.run A outer s H args us vs Q E (hr.mono h)⟩
theorem dE.imp {P:Program} {w:World} {K:PySem.W.Frag} {mg:Str->Option Value} {base:Heap} {CX:nq} {k:Nat} {f:Addr} {fd:FuncData} {ps:List Str} {sp sp':Sp} (F:dE P w K mg base CX k f fd ps sp)
 (h:∀vs H Q E,sp' vs H Q E->sp vs H Q E):dE P w K mg base CX k f fd ps sp':=
 ⟨λvs H Q E q=>F.len vs H Q E (h _ _ _ _ q),λA outer s H args us vs Q E hr he hb hv hs=>F.run A outer s H args us vs Q E hr he hb hv (h _ _ _ _ hs)⟩
theorem lA.make {P:Program} {w:World} {K:PySem.W.Frag} {mg:Str->Option Value} {base:Heap} {A:Around} {outer:List Env} {s:Shared} {H:Hp} (e:lA P w K mg base A outer s H) (C:Addr) (us:List Value) (kw:List (Str×Value)):
 lA P w K mg base (A.under (.builtin "type.__call__" ⟨.ref C::us,kw⟩)) outer s H:=⟨by first | exact e.frames | (simpa [Around.under,Code.envs,Code.isFrame,pushEnvs] using e.frames),e.mod,e.bs,e.bsz,e.funs,e.frf,e.hok,e.bare⟩
section
variable {X:Cx} {pins:List (Addr×Obj)} {σ:St} {H:Hp} {s s':Shared}
theorem aA.env0 (I:aA X pins σ H s):lA X.prog X.w X.K X.mg X.base X.A X.stack s H:=
 ⟨I.ok.frames,I.ok.mod,I.bs,Nat.le_trans I.ok.bsz I.sz,I.stack,I.stkFree,I.hok,I.bare⟩
theorem aA.after {Q:VK} {u:Value} (I:aA X pins σ H s) (h:CE X.stack X.prog X.w H s Q u s'):EP X pins σ Q u s':=by
 obtain ⟨v,H',os,bare,un,hok,r,q⟩:=h;obtain ⟨hh,g,d,t,os'⟩:=s';obtain rfl:os'=s.os:=os;exact ⟨v,H',I.call (h':=hh) (g':=g) (d':=d) (t':=t) (ch:=[]) un hok bare (λb z=>absurd z (by simp)),r,q⟩
end
noncomputable def rE (sp:Sp) (dvs:List V) (E:XK) (t:TA):TE:=λσ H Q=>t σ H λvs H1=>sp (vs++dvs) H1 Q E
noncomputable def rF (C:Addr) (m:Str) (sp:Sp) (dvs:List V) (E:XK) (ta:TE) (t:TA):TE:=λσ H Q=>ta σ H λx H1=>∃a dx fs,x=.ref a/\H1 a=some (.ins C dx fs)/\fs.lookup m=none/\
 t σ H1 λvs H2=>sp (x::(vs++dvs)) H2 Q E
noncomputable def wQ (C:Addr) (sp:Sp) (dvs:List V) (E:XK) (t:TA):TE:=λσ H Q=>t σ H λvs H1=>∀x dx,H1 x=none->H1 dx=none->dx≠x->
 sp (.ref x::(vs++dvs)) (upd (upd H1 dx (.own x)) x (.ins C dx [])) (λv H2=>v=.non/\Q (.ref x) H2) E
noncomputable def bG (K:PySem.W.Frag) (fd:FuncData) (ps:List Str) (ds:List Value):Prop:=
 ∀(s:Shared) (us:List Value),K.In s.heap->(us++ds).length=ps.length->BindsTo s fd ⟨us,[]⟩ (ps.zip (us++ds))
theorem bG.all {K:PySem.W.Frag} {fd:FuncData} {ps:List Str} (h:∀us:List Value,us.length=ps.length->bindArgs fd ⟨us,[]⟩=pure (ps.zip us)):bG K fd ps []:=λs us _ hl=>by
 rw [List.append_nil] at hl ⊢;exact .of_eq (h us hl)
noncomputable def eB (CX:nq) (X:Cx) (E:XK):Prop:=∀(pins:List (Addr×Obj)) (σ:St) (H:Hp) (s:Shared) (e:Value) (s':Shared),aA X pins σ H s->CX X.stack H s E e s'->X.xe e s'
section
variable {X:Cx} {CX:nq} {k:Nat} {f C:Addr} {fd:FuncData} {ps:List Str} {sp:Sp} {dvs:List V} {ds:List Value} {E:XK} {x m:Str} {p pos apos:Pos} {e o:Expr} {es:List Expr} {ta:TE} {t:TA}
theorem ku {pins:List (Addr×Obj)} {σ:St} {H:Hp} {s:Shared} {Q:VK} {us:List Value} {vs:List V} (F:dE X.prog X.w X.K X.mg X.base CX k f fd ps sp) (hr:ay k X.A) (hb:bG X.K fd ps ds) (hd:aM dvs ds) (hx:eB CX X E)
 (I:aA X pins σ H s) (r:aM vs us) (h:sp (vs++dvs) H Q E):wpAny (model X.prog X.w) X.A (call (.ref f) us) (EP X pins σ Q) X.xe s:=by
 have r2:aM (vs++dvs) (us++ds):=r.append hd;have hl:(us++ds).length=ps.length:=by rw [←r2.length];exact F.len _ _ _ _ h
 refine wpAny_call (codeAny_mono (F.run X.A X.stack s H ⟨us,[]⟩ (us++ds) (vs++dvs) Q E hr I.env0 (hb s us I.kIn hl) r2 h) λr s' hq=>?_);cases r with
 | error e=>exact hx pins σ H s e s' I hq
 | ok fl=>
   cases fl with
   | ret u=>exact I.after hq
   | next=>exact False.elim hq
   | brk=>exact False.elim hq
   | cont=>exact False.elim hq
theorem oM (F:dE X.prog X.w X.K X.mg X.base CX k f fd ps sp) (hr:ay k X.A) (hg:Gl X x) (hm:X.mg x=some (.ref f)) (hk:keepIn X.K (.ref f)=true) (hb:bG X.K fd ps ds) (hd:aM dvs ds) (hx:eB CX X E)
 (ha:PA X (e::es) t) (hdb:(x==("__debug__":Str))=false:=by decide) (he:starEach (e::es) X.env=(false,eval e X.env)::starEach es X.env:=by rfl) (hpl:(backTo pos (starEach es X.env)).any (·.1)=false:=by rfl):
 PE X (.Call (.Name x p) (e::es) [] pos) (rE sp dvs E t):=by
 intro pins s σ H Q I h;refine wpAny_Call_Name_kw (eA I hg hm ?_ hdb);refine callWith_K (h₀:=X.base) I.ok.mod.kin hk (bV (ha pos pins s σ H _ I h) λus s1 ⟨vs,H1,I1,r,q⟩=>⟨I1.kIn,?_⟩) he hpl;exact ku F hr hb hd hx I1 r q
theorem rG (F:dE X.prog X.w X.K X.mg X.base CX k f fd ps sp) (hr:ay k X.A) (hg:Gl X x) (hm:X.mg x=some (.ref f)) (hk:keepIn X.K (.ref f)=true) (hb:bG X.K fd ps ds) (hd:aM dvs ds) (hx:eB CX X E)
 (hdb:(x==("__debug__":Str))=false:=by decide):PE X (.Call (.Name x p) [] [] pos) (rE sp dvs E qt):=by
 intro pins s σ H Q I h;refine wpAny_Call_Name_kw (eA I hg hm ?_ hdb);exact PySem.W.callWith_K0 I.kIn hk (ku (us:=[]) F hr hb hd hx I .nil h)
theorem oN {pl:Sem Bool} (he:PE X o ta) (c:dr X.K C) (hm:qq X.K C m f) (F:dE X.prog X.w X.K X.mg X.base CX k f fd ps sp) (hr:ay k X.A) (hb:bG X.K fd ps ds) (hd:aM dvs ds) (hx:eB CX X E) (ha:PA X (e::es) t)
 (hst:starEach (e::es) X.env=(false,eval e X.env)::starEach es X.env:=by rfl) (hpl:(backTo pos (starEach es X.env)).any (·.1)=false:=by rfl)
 (ht:eval (.Call (.Attribute o m apos) (e::es) [] pos) X.env=(do
   let ov ←eval o X.env
   standAt apos.atName
   let (f,first) ←holding [ov] (getMethod ov m pl)
   callWith pos f first (backTo pos (starEach (e::es) X.env)) (backToKw pos (keywordEach [] X.env))):=by rfl):
 PE X (.Call (.Attribute o m apos) (e::es) [] pos) (rF C m sp dvs E ta t):=by
 intro pins s σ H Q I h;refine PySem.W.methodCall_KW (pl:=pl) (bV (he pins s σ H _ I h) λu s1 z9=>?_) ht;obtain ⟨x,H1,I1,rx,a,dx,fs,ex,ea,l,q⟩:=z9;subst ex;obtain rfl:u=Value.ref a:=rx;refine iN I1 ea c hm l ?_;refine callWith_K (first:=[.ref a]) (h₀:=X.base) I.ok.mod.kin hm.kp (bV (ha pos pins s1 σ H1 _ I1 q) λus s2 ⟨vs,H2,I2,r,q2⟩=>⟨I2.kIn,?_⟩) hst hpl;exact ku (us:= .ref a::us) (vs:= .ref a::vs) F hr hb hd hx I2 (.cons rfl r) q2
theorem rH {pl:Sem Bool} (he:PE X o ta) (c:dr X.K C) (hm:qq X.K C m f) (F:dE X.prog X.w X.K X.mg X.base CX k f fd ps sp) (hr:ay k X.A) (hb:bG X.K fd ps ds) (hd:aM dvs ds) (hx:eB CX X E)
 (ht:eval (.Call (.Attribute o m apos) [] [] pos) X.env=(do
   let ov ←eval o X.env
   standAt apos.atName
   let (f,first) ←holding [ov] (getMethod ov m pl)
   callWith pos f first (backTo pos (starEach [] X.env)) (backToKw pos (keywordEach [] X.env))):=by rfl):
 PE X (.Call (.Attribute o m apos) [] [] pos) (rF C m sp dvs E ta qt):=by
 intro pins s σ H Q I h;refine PySem.W.methodCall_KW (pl:=pl) (bV (he pins s σ H _ I h) λu s1 z9=>?_) ht;obtain ⟨x,H1,I1,rx,a,dx,fs,ex,ea,l,q⟩:=z9;subst ex;obtain rfl:u=Value.ref a:=rx;refine iN I1 ea c hm l ?_;exact PySem.W.callWith_K0 (first:=[.ref a]) I1.kIn hm.kp (ku (us:=[.ref a]) (vs:=[.ref a]) F hr hb hd hx I1 (.cons rfl .nil) q)
structure Mk (K:PySem.W.Frag) (C f:Addr):Prop where
 makes:makesIn K C=true
 init:findIn K (.ref C) "__init__"=some (some (.ref f))
 fn:isFn K (.ref f)=true
 kp:keepIn K (.ref C)=true
theorem rJ {pins:List (Addr×Obj)} {σ:St} {H:Hp} {s:Shared} {Q:VK} {us:List Value} {vs:List V} (M:Mk X.K C f) (F:dE X.prog X.w X.K X.mg X.base CX k f fd ps sp) (hr:ay (k+1) X.A) (hb:bG X.K fd ps ds) (hd:aM dvs ds)
 (hx:eB CX X E) (I:aA X pins σ H s) (r:aM vs us)
 (h:∀x dx,H x=none->H dx=none->dx≠x->sp (.ref x::(vs++dvs)) (upd (upd H dx (.own x)) x (.ins C dx [])) (λv H2=>v=.non/\Q (.ref x) H2) E):
 wpAny (model X.prog X.w) X.A (call (.ref C) us) (EP X pins σ Q) X.xe s:=by
 have hq:=h (s.heap.objs.size+1) s.heap.objs.size (I.hok.fresh (Nat.le_succ _)) (I.hok.fresh (Nat.le_refl _)) (Nat.ne_of_lt (Nat.lt_succ_self _));have I2:=aA.made (C:=C) I;have r2:aM (V.ref (s.heap.objs.size+1)::(vs++dvs)) (Value.ref (s.heap.objs.size+1)::(us++ds)):= .cons rfl (r.append hd);have hl:(Value.ref (s.heap.objs.size+1)::us++ds).length=ps.length:=by
  have e:=r2.length;rw [F.len _ _ _ _ hq] at e;exact e.symm
 refine wpAny_call (rD (f:=f) I.kIn M.makes M.init (beq_iff_eq.mp M.fn) (codeAny_mono (F.run _ X.stack _ _ ⟨Value.ref (s.heap.objs.size+1)::us,[]⟩ (Value.ref (s.heap.objs.size+1)::(us++ds)) _ _ E (hr.make C us [])
  (I2.env0.make C us []) (hb _ (Value.ref (s.heap.objs.size+1)::us) I2.kIn hl) r2 hq) λr s' hq'=>?_))
 cases r with
 | error e=>exact hx pins σ _ _ e s' I2 hq'
 | ok fl=>
   cases fl with
   | ret u=>
     obtain ⟨v,H',I3,rv,ev,q3⟩:=I2.after hq';subst ev;exact ⟨rv,⟨V.ref (s.heap.objs.size+1),H',I3,rfl,q3⟩⟩
   | next=>exact False.elim hq'
   | brk=>exact False.elim hq'
   | cont=>exact False.elim hq'
theorem uX (M:Mk X.K C f) (F:dE X.prog X.w X.K X.mg X.base CX k f fd ps sp) (hr:ay (k+1) X.A) (hg:Gl X x) (hm:X.mg x=some (.ref C)) (hb:bG X.K fd ps ds) (hd:aM dvs ds) (hx:eB CX X E)
 (ha:PA X (e::es) t) (hdb:(x==("__debug__":Str))=false:=by decide) (he:starEach (e::es) X.env=(false,eval e X.env)::starEach es X.env:=by rfl) (hpl:(backTo pos (starEach es X.env)).any (·.1)=false:=by rfl):
 PE X (.Call (.Name x p) (e::es) [] pos) (wQ C sp dvs E t):=by
 intro pins s σ H Q I h;refine wpAny_Call_Name_kw (eA I hg hm ?_ hdb);refine callWith_K (h₀:=X.base) I.ok.mod.kin M.kp (bV (ha pos pins s σ H _ I h) λus s1 ⟨vs,H1,I1,r,q⟩=>⟨I1.kIn,?_⟩) he hpl;exact rJ M F hr hb hd hx I1 r q
end
section
variable {X:Cx} {CX:nq} {k:Nat} {f C:Addr} {fd:FuncData} {ps ks:List Str} {sp:Sp} {E:XK} {x m:Str} {p pos apos kpos:Pos} {e o:Expr} {es:List Expr} {kws:List Keyword} {te ta:TE} {t tk:TA} {nm:Option Str}
structure B9 (K:PySem.W.Frag) (fd:FuncData) (ps ks:List Str) (g:List Value->List Value->List Value) (gV:List V->List V->List V):Prop where
 to:∀(s:Shared) (us ws:List Value),K.In s.heap->(g us ws).length=ps.length->BindsTo s fd ⟨us,ks.zip ws⟩ (ps.zip (g us ws))
 rel:∀{vs:List V} {us:List Value} {zs:List V} {ws:List Value},aM vs us->aM zs ws->aM (gV vs zs) (g us ws)
variable {g:List Value->List Value->List Value} {gV:List V->List V->List V}
end
structure aE (N P:List Str) (sc:Scope):Prop where
 kind:sc.kind=.function
 co:sc.isCoroutine=false
 gen:sc.isGenerator=false
 nd:N.Nodup
 pre:N.take P.length=P
 par:∀x∈P,sc.names.lookup x=some .local∨sc.names.lookup x=some .cell
 nofree:∀y∈sc.names,y.2≠ .free
theorem jH {kindOf:Str->Option NameKind} {x:Str}:∀{binds:List (Str×Value)} {m:Str->Option Value},(∀v,(x,v)∉binds)->bindL kindOf binds m x=m x
 | [],_,_=>rfl
 | (n,v)::r,m,h=>by
   unfold bindL;rw [jH λw hw=>h w (List.mem_cons_of_mem _ hw)];split
   ·have:x≠n:=by rintro rfl;exact h v List.mem_cons_self
    simp [this]
   ·rfl
theorem jI {kindOf:Str->Option NameKind} {x:Str}:∀{binds:List (Str×Value)} {m:Str->Option Value},(∀v,(x,v)∉binds)->bindC kindOf binds m x=m x
 | [],_,_=>rfl
 | (n,v)::r,m,h=>by
   unfold bindC;rw [jI λw hw=>h w (List.mem_cons_of_mem _ hw)];split
   ·rfl
   ·have:x≠n:=by rintro rfl;exact h v List.mem_cons_self
    simp [this]
theorem jJ {kindOf:Str->Option NameKind} {x:Str} {v:Value}:∀{P:List Str} {vs:List Value} {i:Nat} {m:Str->Option Value},P.Nodup->P[i]?=some x->vs[i]?=some v->kindOf x=some .local->
 bindL kindOf (P.zip vs) m x=some v
 | [],_,_,_,_,h,_,_=>by simp at h
 | _::_,[],_,_,_,_,h,_=>by simp at h
 | p::P,w::vs,0,m,nd,h1,h2,hk=>by
   simp at h1 h2;subst h1;subst h2;show bindL kindOf ((p,w)::P.zip vs) m p=_;unfold bindL;rw [jH λv hv=>(List.nodup_cons.mp nd).1 (List.of_mem_zip hv).1,if_pos hk];simp
 | p::P,w::vs,i+1,m,nd,h1,h2,hk=>by
   show bindL kindOf ((p,w)::P.zip vs) m x=_;unfold bindL;exact jJ (i:=i) (List.nodup_cons.mp nd).2 (by simpa using h1) (by simpa using h2) hk
theorem jK {kindOf:Str->Option NameKind} {x:Str} {v:Value}:∀{P:List Str} {vs:List Value} {i:Nat} {m:Str->Option Value},P.Nodup->P[i]?=some x->vs[i]?=some v->kindOf x≠some .local->
 bindC kindOf (P.zip vs) m x=some v
 | [],_,_,_,_,h,_,_=>by simp at h
 | _::_,[],_,_,_,_,h,_=>by simp at h
 | p::P,w::vs,0,m,nd,h1,h2,hk=>by
   simp at h1 h2;subst h1;subst h2;show bindC kindOf ((p,w)::P.zip vs) m p=_;unfold bindC;rw [jI λv hv=>(List.nodup_cons.mp nd).1 (List.of_mem_zip hv).1,if_neg hk];simp
 | p::P,w::vs,i+1,m,nd,h1,h2,hk=>by
   show bindC kindOf ((p,w)::P.zip vs) m x=_;unfold bindC;exact jK (i:=i) (List.nodup_cons.mp nd).2 (by simpa using h1) (by simpa using h2) hk
noncomputable def start (N:List Str) (vs:List V):St:=vs.map some++List.replicate (N.length-vs.length) none
noncomputable def dG (CX:nq) (P:Program) (w:World) (K:PySem.W.Frag) (mg:Str->Option Value) (base:Heap) (N:List Str) (qual:Str) (scope:Scope) (f:Addr) (cd:Value) (A:Around) (outer:List Env) (s:Shared) (H:Hp) (E:XK):Cx where
 prog:=P
 w:=w
 K:=K
 mg:=mg
 base:=base
 A:=A.deeper (envOfC qual scope s.heap.objs.size f cd)
 N:=N
 s₀:=s
 H₀:=H
 env:=envOfC qual scope s.heap.objs.size f cd
 outer:=outer
 stack:=envOfC qual scope s.heap.objs.size f cd::outer
 ex:=[]
 calm:=true
 fn:=λ_=>true
 pn:=[]
 xe:=λe s'=>wpAny (model P w) (A.deeper (envOfC qual scope s.heap.objs.size f cd)) (leaving (envOfC qual scope s.heap.objs.size f cd) e) (λ_ s''=>CX outer H s E e s'') (λe' s''=>CX outer H s E e' s'') s'
theorem lB {sc:Scope} {n:Nat} {x:Str} (h:sc.names.lookup x=some .cell):∃c,(cellsFrom n sc.names []).lookup x=some c:=by
 have q:=PySem.W.cellsFrom_some sc.names n [] (.inl h);exact Option.isSome_iff_exists.mp q
theorem qw {CX:nq} {P:Program} {w:World} {K:PySem.W.Frag} {mg:Str->Option Value} {base:Heap} {N ps:List Str} {qual:Str} {scope:Scope} {f:Addr} {cd:Value} {A:Around} {outer:List Env} {s s1:Shared} {H:Hp} {E:XK} {us:List Value} {vs:List V}
 (S:aE N ps scope) (hd:A.handled=none) (e0:lA P w K mg base A outer s H) (hl:vs.length=ps.length) (r:aM vs us)
 (x:InCallC s s.heap.objs.size (bindL (envOfC qual scope s.heap.objs.size f cd).kindOf (ps.zip us) λ_=>none) (cellsFrom (s.heap.objs.size+1) scope.names []) (bindC (envOfC qual scope s.heap.objs.size f cd).kindOf (ps.zip us) λ_=>none) s1):
 aA (dG CX P w K mg base N qual scope f cd A outer s H E) [] (start N vs) H s1:=by
 have hpl:ps.length<=N.length:=by have:=congrArg List.length S.pre;rw [List.length_take] at this;omega
 obtain ⟨h1,tk,rfl,hk⟩:=x.done;have noA:∀b:Addr,b∉(dG CX P w K mg base N qual scope f cd A outer s H E).ex:=λb z=>absurd (show b∈([]:List Addr) from z) (by simp);refine ⟨⟨e0.mod,S.kind,rfl,rfl,Nat.le_refl _,λy z c h1 h2=>?_,λy hy=>?_,λy c _ h=>?_,λ_=>hd,Around.frames_deeper e0.frames,.inr ⟨rfl,rfl⟩,λb z=>absurd z (noA b),e0.bs,e0.bsz,λb _ _=>noA b,λb z=>absurd z (noA b),e0.funs,e0.frf⟩,
  rfl,e0.bare,Un.kept hk,⟨_,x.toInCall.ns,λi y v h1 h2 h3=>?_⟩,λy c h=>⟨_,x.cell y c h⟩,e0.hok.fresh (Nat.le_refl _),λy c h=>?_,λp hp=>absurd (show p∈([]:List (Addr×Obj)) from hp) (by simp),e0.hok.kept hk,?_⟩
 ·exact name_of_addr x.apart (PySem.mem_of_lookup h1) (PySem.mem_of_lookup h2)
 ·have hy:scope.names.lookup y=some .cell∨scope.names.lookup y=some .free:=hy;rcases hy with hy | hy
  ·exact lB hy
  ·exact absurd rfl (S.nofree _ (PySem.mem_of_lookup hy))
 ·exact Nat.le_of_lt (x.above y c (PySem.mem_of_lookup h))
 ·have hi:i<vs.length:=by
   unfold start at h2
   by_cases hi:i<vs.length
   ·exact hi
   ·rw [List.getElem?_append_right (by simpa using hi)] at h2;rw [List.getElem?_replicate] at h2;split at h2<;> cases h2
  have ha:vs[i]?=some v:=by
   unfold start at h2;rw [List.getElem?_append_left (by simpa using hi),List.getElem?_map] at h2;cases e:vs[i]? with
   | none=>rw [e] at h2;cases h2
   | some a=>rw [e] at h2;cases h2;rfl
  obtain ⟨u,hu,rv⟩:=r.get ha;have hp:ps[i]?=some y:=by
   rw [←S.pre,List.getElem?_take_of_lt (by omega)];exact h1
  have ndP:ps.Nodup:=by rw [←S.pre];exact S.nd.sublist (List.take_sublist _ _)
  refine ⟨u,rv,?_⟩;rcases S.par y (List.mem_of_getElem? hp) with k | k
  ·exact .inl ⟨k,jJ ndP hp hu k⟩
  ·obtain ⟨c,e⟩:=lB (n:=s.heap.objs.size+1) k;refine .inr ⟨.inl k,c,e,?_⟩;have q:=x.cell y c e;rw [jK ndP hp hu (by show scope.names.lookup y≠_;rw [k];decide)] at q;exact q
 ·exact e0.hok.fresh (Nat.le_of_lt (x.above y c (PySem.mem_of_lookup h)))
 ·unfold start;show _=N.length;rw [List.length_append,List.length_map,List.length_replicate];omega
theorem oO {CX:nq} {P:Program} {w:World} {K:PySem.W.Frag} {mg:Str->Option Value} {base:Heap} {k:Nat} {f:Addr} {name qual:Str} {params:Arguments} {body:List Stmt} {scope:Scope} {dV kV doc pm cdv ct oc:Value} {an od:Option Addr}
 {osl:Array (Option Value)} {N ps:List Str} {sp:Sp} (lk:K.lookup f=some ⟨oc,od,.func (fnOf name qual params body scope dV kV doc pm an cdv ct),osl⟩) (hcd:codeIn K cdv qual=true) (S:aE N ps scope)
 (len:∀vs H Q E,sp vs H Q E->vs.length=ps.length)
 (hbody:∀(A:Around) (outer:List Env) (s:Shared) (H:Hp) (vs:List V) (Q:VK) (E:XK),ay k (A.deeper (envOfC qual scope s.heap.objs.size f cdv))->sp vs H Q E->
   ∃t,lr (dG CX P w K mg base N qual scope f cdv A outer s H E) body t/\t { nx:=λ_ H'=>Q .non H',rt:=Q } (start N vs) H):
 dE P w K mg base CX (k+1) f (fnOf name qual params body scope dV kV doc pm an cdv ct) ps sp:=by
 refine ⟨len,λA outer s H args us vs Q E hr e0 hb r hsp=>?_⟩;have hl:=len _ _ _ _ hsp;have KX:K.In s.heap:=e0.mod.kin.keeps λb o e=>(e0.bs b o e).1;have lim:s.heap.NoLimit:=e0.mod.nolimit.keeps λb o e=>(e0.bs b o e).1;have hkind:∀y∈ps.zip us,scope.names.lookup y.1=some .local∨(scope.names.lookup y.1=some .cell/\((cellsFrom (s.heap.objs.size+1) scope.names []).lookup y.1).isSome=true):=λ⟨n,v⟩ hy=>by
  rcases S.par n (List.of_mem_zip hy).1 with q | q
  ·exact .inl q
  ·exact .inr ⟨q,PySem.W.cellsFrom_some _ _ _ (.inl q)⟩
 refine codeAny_call_function hr.depth (KX _ _ lk) rfl S.co S.gen rfl (PySem.W.codeRec_of KX hcd) (hb _ _ _ _ ?_);refine wpAny_newFunctionEnv_cells S.kind hkind λenv he s1 x=>?_;subst he;refine ⟨lim.keeps x.toInCall.keep,codeAny_func ?_⟩;obtain ⟨t,ht,hq⟩:=hbody A outer s H vs Q E (hr.deeper _) hsp;have I:aA (dG CX P w K mg base N qual scope f cdv A outer s H E) [] (start N vs) H s1:=qw S hr.hd e0 hl r x;refine wpAny_mono (ht [] s1 (start N vs) H _ I hq) (λfl s' hs=>?_) λe s' hs=>hs;have fin:∀{σ':St} {H':Hp} {v:V} {u:Value},aA (dG CX P w K mg base N qual scope f cdv A outer s H E) [] σ' H' s'->aZ v u->Q v H'->CE outer P w H s Q u s':=
  λ{σ' H' v u} J rv q=>⟨v,H',J.os,J.bare,J.base,J.hok,rv,q⟩
 cases fl with
 | ret u=>
   obtain ⟨v,σ',H',J,rv,q⟩:=hs;exact fin J rv q
 | next=>
   obtain ⟨σ',H',J,q⟩:=hs;exact fin (v:=V.non) (u:=Value.none) J rfl q
 | brk=>
   obtain ⟨_,_,_,q⟩:=hs;exact False.elim q
 | cont=>
   obtain ⟨_,_,_,q⟩:=hs;exact False.elim q
section
variable {X:Cx} {x:Str} {p pos:Pos} {e:Expr} {es:List Expr} {t:TA} {id T:String} {r:List V->Hp->VK->Prop}
noncomputable def Cb (r:List V->Hp->VK->Prop) (t:TA):TE:=λσ H Q=>t σ H λvs H1=>r vs H1 Q
theorem eU (hc:eP X (.builtin id) r) (hg:Gl X x) (hm:X.mg x=none) (hv:bootBuiltins x=some (.builtin id)) (ha:PA X (e::es) t) (hn:x≠"__name__":=by decide) (hdb:(x==("__debug__":Str))=false:=by decide)
 (he:starEach (e::es) X.env=(false,eval e X.env)::starEach es X.env:=by rfl) (hpl:(backTo pos (starEach es X.env)).any (·.1)=false:=by rfl):PE X (.Call (.Name x p) (e::es) [] pos) (Cb r t):=by
 intro pins s σ H Q I h;refine wpAny_Call_Name_kw (gv I hg hm hv ?_ hn hdb);exact PyProof.Rows.callWith_builtin1 (bV (ha pos pins s σ H _ I h) λus s1 ⟨vs,H1,I1,r1,q1⟩=>hc pins s1 σ H1 vs us Q I1 r1 q1) he hpl
theorem qy (hc:eP X (.type T) r) (hg:Gl X x) (hm:X.mg x=none) (hv:bootBuiltins x=some (.type T)) (ha:PA X (e::es) t) (hn:x≠"__name__":=by decide) (hdb:(x==("__debug__":Str))=false:=by decide)
 (he:starEach (e::es) X.env=(false,eval e X.env)::starEach es X.env:=by rfl) (hpl:(backTo pos (starEach es X.env)).any (·.1)=false:=by rfl):PE X (.Call (.Name x p) (e::es) [] pos) (Cb r t):=by
 intro pins s σ H Q I h;refine wpAny_Call_Name_kw (gv I hg hm hv ?_ hn hdb);exact PyProof.Rows.callWith_type1 (bV (ha pos pins s σ H _ I h) λus s1 ⟨vs,H1,I1,r1,q1⟩=>hc pins s1 σ H1 vs us Q I1 r1 q1) he hpl
end
end L2
namespace HT
open PySem PyProof.Rows
theorem rcLt_int (A:Around) (s:Shared) (a:Int) (t:Tok) (c:Int) (u:Tok) (prog:Program) (w:World) (E:Value->Shared->Prop) (Q:Value->Shared->Prop) (h:Q (.bool (decide (a<c))) s):
 wpAny (model prog w) A (richCompare .Lt (.int a t) (.int c u)) Q E s:=
 (PyProof.Rows.lt_int h:wpAny (model prog w) A (compareOp .Lt (.int a t) (.int c u)) Q E s)
section
open PySem.SeqAt
open PySem.AutoSeq1 (wpAny_loadPart')
open PySem.MeetsSeq PySem.MeetsSeq2 PySem.MeetsSeq3
end
section
variable {prog:Program} {w:World} {A:Around} {E:Value->Shared->Prop} {s:Shared}
theorem cat_tup {t b:Addr} {vs ws:List Value} {Q:Value->Shared->Prop} (ht:IsTup s.heap t vs.toArray) (hb:IsTup s.heap b ws.toArray) (hv:vs≠[])
 (h1:ws=[]->Q (.ref t) s) (h2:ws≠[]->Q (.ref s.heap.objs.size) { s with heap:=s.heap.push { cls:= .type "tuple",data:= .seq (vs++ws).toArray } })
 (hsz:vs.length+ws.length<=sizeLine):wpAny (model prog w) A (binaryOp .Add (.ref t) (.ref b)) Q E s:=by
 obtain ⟨⟨cls,dd,data,sl⟩,ho,hc,n,hd⟩:=id ht;obtain ⟨⟨cls2,dd2,data2,sl2⟩,ho2,hc2,n2,hd2⟩:=id hb;simp only at hc hd hc2 hd2;subst hc hd hc2 hd2;have e:vs.toArray++ws.toArray=(vs++ws).toArray:=by simp
 by_cases hw:ws=[]
 ·exact concat_meets ⟨_,ho,rfl⟩ ⟨_,ho2,rfl⟩ noFill_tuple_add seq_tuple_add PySem.F.slot_tuple_add PySem.F.entry_tuple_add (PySem.F.args_tuple_add_2 _ _)
   (tuple_addW1 t b vs.toArray ws.toArray n n2 dd dd2 sl sl2 (by simpa using hv) (by simp [hw])) ⟨ho,ho2,h1 hw⟩
 ·refine concat_meets ⟨_,ho,rfl⟩ ⟨_,ho2,rfl⟩ noFill_tuple_add seq_tuple_add PySem.F.slot_tuple_add PySem.F.entry_tuple_add (PySem.F.args_tuple_add_2 _ _)
   (tuple_addW2 t b vs.toArray ws.toArray n n2 dd dd2 sl sl2 (by simpa using hv) (by simpa using hw) (by rw [List.size_toArray,List.size_toArray];exact hsz)) ⟨ho,ho2,?_⟩
  rw [e];exact h2 hw
noncomputable def sIx (n d:Nat):Option Int->Nat
 | none=>d
 | some v=>if v<0 then (v+(n:Int)).toNat else min v.toNat n
theorem sIx_none (n d:Nat):sIx n d none=d:=rfl
theorem sIx_nat (n d k:Nat):sIx n d (some (k:Int))=min k n:=by
 show (if (k:Int)<0 then ((k:Int)+(n:Int)).toNat else min (k:Int).toNat n)=min k n;rw [if_neg (by omega),Int.toNat_natCast]
theorem ym (n d:Nat) (hd:d<=n) (o:Option Int):sIx n d o<=n:=by
 cases o with
 | none=>exact hd
 | some v=>
   show (if v<0 then (v+(n:Int)).toNat else min v.toNat n)<=n
   by_cases hv:v<0
   ·rw [if_pos hv];omega
   ·rw [if_neg hv];exact Nat.min_le_right _ _
theorem oP (v:Int) (n d:Nat):(if v<0 then max (v+(n:Int)) 0 else min v (n:Int))=((sIx n d (some v):Nat):Int):=by
 show (if v<0 then max (v+(n:Int)) 0 else min v (n:Int))=(((if v<0 then (v+(n:Int)).toNat else min v.toNat n):Nat):Int)
 by_cases hv:v<0
 ·simp only [if_pos hv];omega
 ·simp only [if_neg hv];omega
theorem nr (lo hi:Option Int) (n:Nat):Builtin.Slice.sliceAdjust lo hi 1 (n:Int)=(((sIx n 0 lo:Nat):Int),((sIx n n hi:Nat):Int)):=by
 have h1:¬((1:Int)<0):=by omega
 unfold Builtin.Slice.sliceAdjust;simp only [h1,if_false];refine Prod.ext ?_ ?_
 ·cases lo with
  | none=>rfl
  | some v=>exact oP v n 0
 ·cases hi with
  | none=>rfl
  | some v=>exact oP v n n
theorem nw (i j:Nat):Builtin.Slice.slicePlaces (i:Int) (j:Int) 1=j-i:=by
 unfold Builtin.Slice.slicePlaces;have h1:(1:Int) > 0:=by omega
 simp only [h1,if_true,Int.ediv_one];split<;> omega
theorem iP {v:Value} {o:Option Int} {Q:Option Int->Shared->Prop} (p:IsPart v o) (h:Q o s):wpAny (model prog w) A (Builtin.Slice.slicePartIndex v) Q E s:=by
 cases p with
 | none=>exact slicePart_none h
 | int i t=>exact slicePart_int h
theorem sliceApplied_gen {sl:Addr} {vl vu:Value} {lo hi:Option Int} {n:Nat} {Q:Int×Int×Nat->Shared->Prop} (hs:s.heap.IsSliceOf sl vl vu .none) (pl:IsPart vl lo) (pu:IsPart vu hi)
 (h:Q (((sIx n 0 lo:Nat):Int),1,sIx n n hi-sIx n 0 lo) s):wpAny (model prog w) A (Builtin.Slice.sliceApplied (.ref sl) (pure (n:Int))) Q E s:=by
 obtain ⟨os,hos,hcs,hds⟩:=id hs;unfold Builtin.Slice.sliceApplied Builtin.Slice.sliceFields;refine wpAny_bind (wpAny_bind (wpAny_field hos hds (x:=vl) rfl (wpAny_bind (wpAny_field hos hds (x:=vu) rfl (wpAny_bind (wpAny_field hos hds (x:= .none) rfl (wpAny_pure ?_)))))));refine wpAny_bind (slicePart_none ?_);show wpAny _ _ (if ((1:Int)==0)=true then _ else _) _ _ s;rw [if_neg (by decide)];refine wpAny_bind (iP pl (wpAny_bind (iP pu (wpAny_bind (wpAny_pure ?_)))));show wpAny _ _ (match Builtin.Slice.sliceAdjust lo hi 1 (n:Int) with | (lo,hi)=>pure (lo,(1:Int),Builtin.Slice.slicePlaces lo hi 1)) _ _ s;rw [nr lo hi n];show wpAny _ _ (pure (((sIx n 0 lo:Nat):Int),(1:Int),Builtin.Slice.slicePlaces ((sIx n 0 lo:Nat):Int) ((sIx n n hi:Nat):Int) 1)) _ _ s;rw [nw];exact wpAny_pure h
theorem rK (xs:Array Value) (i k:Nat):((List.range k).filterMap λ(m:Nat)=>xs[((i:Int)+(m:Int)*1).toNat]?).toArray=((xs.toList.drop i).take k).toArray:=by
 have e:(λ(m:Nat)=>xs[((i:Int)+(m:Int)*1).toNat]?)=λm=>xs[i+m]?:=by
  funext m
  have:((i:Int)+(m:Int)*1).toNat=i+m:=by omega
  rw [this]
 rw [e];have:=pick_run xs i k;rw [List.filterMap_map] at this;have e2:((λx=>xs[x]?) ∘ λx=>i+x)=λm=>xs[i+m]?:=rfl;rw [e2] at this;rw [this]
theorem getItem_tuple_cut {t sl:Addr} {items:Array Value} {vl vu:Value} {lo hi:Option Int} {Q:Value->Shared->Prop} (ht:IsTup s.heap t items) (hs:s.heap.IsSliceOf sl vl vu .none) (pl:IsPart vl lo) (pu:IsPart vu hi)
 (hw:¬(sIx items.size 0 lo=0/\sIx items.size items.size hi=items.size))
 (h:Q (.ref s.heap.objs.size) { s with heap:=s.heap.push { cls:= .type "tuple",data:= .seq ((items.toList.drop (sIx items.size 0 lo)).take (sIx items.size items.size hi-sIx items.size 0 lo)).toArray } })
 (hsz:items.size<=sizeLine):wpAny (model prog w) A (getItem (.ref t) (.ref sl)) Q E s:=by
 have htake:sizeOk (.seq ((items.toList.drop (sIx items.size 0 lo)).take (sIx items.size items.size hi-sIx items.size 0 lo)).toArray):=by
  show ((items.toList.drop (sIx items.size 0 lo)).take (sIx items.size items.size hi-sIx items.size 0 lo)).toArray.size<=sizeLine;rw [List.size_toArray,List.length_take,List.length_drop,Array.length_toList];omega
 have hj:sIx items.size items.size hi<=items.size:=ym _ _ (Nat.le_refl _) hi;obtain ⟨os,hos,hcs,hds⟩:=id hs;have hTs:s.TypeIs (.ref sl) "slice":=⟨os,hos,hcs⟩;unfold getItem
 try with_reducible refine wpAny_holding ?_
 first | refine wpAny_bind (wpAny_pure ?_) | skip
 refine wpAny_bind (wpAny_sequenceKey ht.typeIs (by decide) ?_);refine wpAny_bind (wpAny_callSpecial?_slot (name:=Str.ofString "__getitem__") ht.typeIs PyProof.Rows.slot_tuple_getitem
  (wpAny_call_entry PyProof.Rows.slot_tuple_getitem ht.typeIs entry_tuple_getitem ?_ (args_tuple_getitem _ _)))
 show wpAny _ _ (Builtin.Tuple.tupleItemsOf (.ref t) >>= _) _ _ s;refine wpAny_bind (tupleItemsOf_ ht ?_);refine wpAny_bind (wpAny_typeOf hTs ?_);rw [if_pos (by decide)];refine wpAny_bind (sliceApplied_gen hs pl pu ?_);have hno:¬((((sIx items.size 0 lo:Nat):Int)==0&&(1:Int)==1&&(sIx items.size items.size hi-sIx items.size 0 lo)==items.size)=true):=by
  intro q;rw [Bool.and_eq_true,Bool.and_eq_true] at q;have q1:((sIx items.size 0 lo:Nat):Int)=0:=eq_of_beq q.1.1;have q2:sIx items.size items.size hi-sIx items.size 0 lo=items.size:=eq_of_beq q.2;exact hw ⟨by omega,by omega⟩
 show wpAny _ _ (if (((sIx items.size 0 lo:Nat):Int)==0&&(1:Int)==1&&(sIx items.size items.size hi-sIx items.size 0 lo)==items.size)=true then _ else _) _ _ s;rw [if_neg hno,rK]
 first
  | exact wpAny_bind (m:=Builtin.Tuple.tupleExact _) (wpAny_newObj_type (wpAny_pure ⟨_,rfl,wpAny_pure h⟩) htake)
  | exact wpAny_bind (m:=Builtin.Tuple.tupleExact _) (wpAny_newObj_type (wpAny_bind (wpAny_pure (wpAny_pure ⟨_,rfl,wpAny_pure h⟩))) htake)
  | exact wpAny_bind (wpAny_bind (m:=Builtin.Tuple.tupleExact _) (wpAny_newObj_type (wpAny_pure (wpAny_pure ⟨_,rfl,wpAny_pure h⟩)) htake))
  | exact wpAny_bind (wpAny_bind (m:=Builtin.Tuple.tupleExact _) (wpAny_newObj_type (wpAny_pure ⟨_,rfl,wpAny_pure h⟩) htake))
end
end HT
namespace L2
open PySem PySem.Spec PyProof.Rows
noncomputable abbrev TO:=St->Hp->(Option Int->Hp->Prop)->Prop
noncomputable def PO (X:Cx) (e:Option Expr) (t:TO):Prop:=
 ∀(pins:List (Addr×Obj)) (s:Shared) (σ:St) (H:Hp) (Q:Option Int->Hp->Prop),aA X pins σ H s->t σ H Q->
  wpAny (model X.prog X.w) X.A (evalPart e X.env) (λu s'=>∃o H',aA X pins σ H' s'/\IsPart u o/\Q o H') X.xe s
noncomputable def uY:TO:=λ_ H Q=>Q none H
noncomputable def Aj (t:TE):TO:=λσ H Q=>t σ H λx H1=>∃i,x=.int i/\Q (some i) H1
theorem intsAre_of {ns:List Int}:∀{us:List Value},aM (ns.map V.int) us->IntsAre us ns:=by
 induction ns with
 | nil=>intro us r;rw [List.map_nil] at r;cases r;exact .nil
 | cons n ns ih=>
   intro us r;rw [List.map_cons] at r;cases r with
   | cons r1 r2=>
     obtain ⟨t,e⟩:=r1;subst e;exact .cons n t (ih r2)
section
variable {X:Cx} {e:Expr} {te:TE} {lo hi:Option Expr} {tl th:TO} {pos p2:Pos}
theorem po_none:PO X none uY:=by
 intro pins s σ H Q I h;rw [evalPart_none];exact wpAny_pure ⟨none,H,I,.none,h⟩
theorem uZ (h:PE X e te):PO X (some e) (Aj te):=by
 intro pins s σ H Q I hw;rw [evalPart_some];refine bV (h pins s σ H _ I hw) λu s1 z9=>?_;obtain ⟨x,H1,I1,r1,q1⟩:=z9;obtain ⟨i,rfl,q⟩:=q1;obtain ⟨t,rfl⟩:=r1;exact ⟨some i,H1,I1,.int i t,q⟩
noncomputable def Ak (X:Cx) (r:V->Option Int->Option Int->Hp->VK->Prop):Prop:=
 ∀(pins:List (Addr×Obj)) (s:Shared) (σ:St) (H:Hp) (x:V) (v vl vu:Value) (lo hi:Option Int) (sl:Addr) (Q:VK),aA X pins σ H s->aZ x v->s.heap.IsSliceOf sl vl vu .none->IsPart vl lo->IsPart vu hi->r x lo hi H Q->
  ∃T id,typeLookup (.type T) "__getitem__"=pure (some (.builtin id))/\s.TypeIs v T/\wpAny (model X.prog X.w) X.A (getItem v (.ref sl)) (EP X pins σ Q) X.xe s
noncomputable def D7 (r:V->Option Int->Option Int->Hp->VK->Prop) (te:TE) (tl th:TO):TE:=λσ H Q=>te σ H λx H1=>tl σ H1 λl H2=>th σ H2 λu H3=>r x l u H3 Q
theorem rL {r:V->Option Int->Option Int->Hp->VK->Prop} (hr:Ak X r) (he:PE X e te) (hl:PO X lo tl) (hu:PO X hi th):PE X (.Subscript e (.Slice lo hi none p2) pos) (D7 r te tl th):=by
 intro pins s σ H Q I h;refine Subscript_ (bV (he pins s σ H _ I h) λv s1 z9=>?_);obtain ⟨x,H1,I1,r1,q1⟩:=z9;refine wpAny_Slice (bV (hl pins s1 σ H1 _ I1 q1) λvl s2 ⟨l,H2,I2,pl,q2⟩=>bV (hu pins s2 σ H2 _ I2 q2) λvu s3 z9=>?_);obtain ⟨u,H3,I3,pu,q3⟩:=z9;rw [evalPart_none];refine wpAny_pure ?_;have I4:aA X pins σ H3 { s3 with heap:=s3.heap.push { cls:= .type "slice",data:= .fields #[vl,vu,.none] } }:=I3.kept (t':=s3.toks) λb ob q=>Heap.get?_push_of_some _ q;obtain ⟨T,id,hT,ht,hg⟩:=hr pins { s3 with heap:=s3.heap.push { cls:= .type "slice",data:= .fields #[vl,vu,.none] } } σ H3 x v vl vu l u s3.heap.objs.size Q I4 r1 (Heap.IsSliceOf.new ..) pl pu q3;show wpAny (model X.prog X.w) X.A (subscriptTail e (.Slice lo hi none p2) v (.ref s3.heap.objs.size)) (EP X pins σ Q) X.xe { s3 with heap:=s3.heap.push { cls:= .type "slice",data:= .fields #[vl,vu,.none] } };exact tail_any (ops:=[.ref s3.heap.objs.size,v]) ht hT hg (by with_unfolding_all rfl)
noncomputable def lC (xs:List V) (lo hi:Option Int):List V:=(xs.drop (HT.sIx xs.length 0 lo)).take (HT.sIx xs.length xs.length hi-HT.sIx xs.length 0 lo)
theorem ia (xs:List V) (lo hi:Option Int):(lC xs lo hi).length<=xs.length:=by
 unfold lC;rw [List.length_take,List.length_drop];omega
noncomputable def Cc (K:PySem.W.Frag):V->Option Int->Option Int->Hp->VK->Prop:=λx lo hi H Q=>∃a xs,x=.ref a/\cR K H a xs/\
 ¬(HT.sIx xs.length 0 lo=0/\HT.sIx xs.length xs.length hi=xs.length)/\∀p,H p=none->Q (.ref p) (upd H p (.tup (lC xs lo hi)))
theorem yn:Ak X (Cc X.K):=by
 intro pins s σ H x v vl vu lo hi sl Q I rx hs pl pu h;obtain ⟨a,xs,rfl,hx,hw,q⟩:=h;cases rx;obtain ⟨its,r,ht,hz⟩:=I.tuple hx;have hlen:its.toArray.size=xs.length:=by rw [List.size_toArray];exact r.length.symm
 refine ⟨"tuple",_,PyProof.Rows.slot_tuple_getitem.lookup,ht.typeIs,?_⟩;refine HT.getItem_tuple_cut ht hs pl pu (by rw [hlen];exact hw) ?_ (by rw [hlen];exact hz);rw [hlen];refine ⟨.ref s.heap.objs.size,_,I.laid (t':=s.toks) (o:= .tup (lC xs lo hi)) (λb ob q=>Heap.get?_push_of_some _ q) (Nat.le_refl _) ?_,rfl,q _ (I.hok.fresh (Nat.le_refl _))⟩;exact ⟨Nat.le_trans (ia xs lo hi) hz,_,(r.drop (HT.sIx xs.length 0 lo)).take (HT.sIx xs.length xs.length hi-HT.sIx xs.length 0 lo),IsTup.new _ _⟩
noncomputable def Al (K:PySem.W.Frag):R2:=λx y H Q=>∃a b xs ys,x=.ref a/\y=.ref b/\cR K H a xs/\cR K H b ys/\xs≠[]/\xs.length+ys.length<=sizeLine/\
 (ys=[]->Q (.ref a) H)/\(ys≠[]->∀p,H p=none->Q (.ref p) (upd H p (.tup (xs++ys))))
theorem aM.nil_iff {xs:List V} {us:List Value} (r:aM xs us):us=[]↔xs=[]:=by
 cases r with
 | nil=>simp
 | cons _ _=>simp
theorem u0:ir X (binaryOp .Add) (Al X.K):=by
 intro pins s σ H x y v u Q I rx ry h;obtain ⟨a,b,xs,ys,rfl,rfl,ha,hb,hx,hz,q1,q2⟩:=h;cases rx;cases ry;obtain ⟨its,r1,p1,_⟩:=I.tuple ha;obtain ⟨its2,r2,p2,_⟩:=I.tuple hb;refine HT.cat_tup p1 p2 (λz=>hx (r1.nil_iff.mp z)) (λz=>⟨.ref a,H,I,rfl,q1 (r2.nil_iff.mp z)⟩) (λz=>?_) (by rw [←r1.length,←r2.length];exact hz);refine ⟨.ref s.heap.objs.size,_,I.laid (t':=s.toks) (o:= .tup (xs++ys)) (λb ob q=>Heap.get?_push_of_some _ q) (Nat.le_refl _) ?_,rfl,q2 (λw=>z (r2.nil_iff.mpr w)) _ (I.hok.fresh (Nat.le_refl _))⟩;exact ⟨by rw [List.length_append];exact hz,_,r1.append r2,IsTup.new _ _⟩
end
noncomputable def rM (n:Nat) (i:Int):Option Nat:=if 0<=i then (if i<n then some i.toNat else none) else if -(n:Int)<=i then some (i+n).toNat else none
noncomputable def gE {α:Type} (xs:List α) (i:Int):Option α:=(rM xs.length i).bind λj=>xs[j]?
theorem u3 {n:Nat} {i:Int} {j:Nat} (h:rM n i=some j):seqIndex? i n=some j/\j<n/\-(n:Int)<=i/\i<n:=by
 unfold rM at h
 by_cases h0:0<=i
 ·rw [if_pos h0] at h
  by_cases h1:i<n
  ·rw [if_pos h1] at h;have e:i.toNat=j:=Option.some.inj h;exact ⟨by rw [seqIndex_of h0 h1,e],by omega,by omega,h1⟩
  ·rw [if_neg h1] at h;cases h
 ·rw [if_neg h0] at h
  by_cases h1: -(n:Int)<=i
  ·rw [if_pos h1] at h;have e:(i+n).toNat=j:=Option.some.inj h;exact ⟨by rw [seqIndex_neg (by omega) h1,e],by omega,h1,by omega⟩
  ·rw [if_neg h1] at h;cases h
theorem kx {α:Type} {xs:List α} {i:Int} {v:α} (h:gE xs i=some v):∃j,seqIndex? i xs.length=some j/\xs[j]?=some v/\j<xs.length/\-(xs.length:Int)<=i/\i<xs.length:=by
 unfold gE at h;cases e:rM xs.length i with
 | none=>rw [e] at h;cases h
 | some j=>
   rw [e] at h;obtain ⟨h1,h2,h3,h4⟩:=u3 e;exact ⟨j,h1,h,h2,h3,h4⟩
theorem oQ {α:Type} {xs:List α} {j:Nat} {v:α} (h:xs[j]?=some v):gE xs (j:Int)=some v:=by
 have hj:j<xs.length:=(List.getElem?_eq_some_iff.mp h).1;have e:rM xs.length (j:Int)=some j:=by
  unfold rM;rw [if_pos (by omega),if_pos (by omega)];simp
 unfold gE;rw [e];exact h
noncomputable def oR (b:Expr):Prop:=∀o i,subscripted b false o i=operate [o,i] (getItem o i)
noncomputable def Am (X:Cx) (r:R2):Prop:=
 ∀(value slice:Expr) (pins:List (Addr×Obj)) (s:Shared) (σ:St) (H:Hp) (x y:V) (v u:Value) (Q:VK),aA X pins σ H s->aZ x v->aZ y u->r x y H Q->
  subscripted slice false v u=operate [v,u] (getItem v u)->wpAny (model X.prog X.w) X.A (subscriptTail value slice v u) (EP X pins σ Q) X.xe s
noncomputable def An (X:Cx) (id:String) (r:V->List V->Hp->VK->Prop):Prop:=
 ∀(pins:List (Addr×Obj)) (s:Shared) (σ:St) (H:Hp) (x:V) (xs:List V) (v:Value) (us:List Value) (Q:VK),aA X pins σ H s->aZ x v->aM xs us->r x xs H Q->
  wpAny (model X.prog X.w) X.A (call (.builtin id) (v::us)) (EP X pins σ Q) X.xe s
section
variable {X:Cx} {a b:Expr} {ta tb:TE} {pos:Pos}
theorem Ao {r:R2} (hr:Am X r) (ha:PE X a ta) (hb:PE X b tb) (hs:oR b):PE X (.Subscript a b pos) (Aa r ta tb):=by
 intro pins s σ H Q I h;exact Subscript_ (yb ha hb I h λv u s2 x y H2 I2 rx ry q=>hr a b pins s2 σ H2 x y v u Q I2 rx ry q (hs _ _))
noncomputable def Ce (K:PySem.W.Frag):R2:=λx y H Q=>∃p xs i v,x=.ref p/\y=.int i/\cW K H p xs/\gE xs i=some v/\Q v H
noncomputable def Cg (K:PySem.W.Frag):R2:=λx y H Q=>∃p xs i v,x=.ref p/\y=.int i/\cR K H p xs/\gE xs i=some v/\Q v H
noncomputable def Ch:R2:=λx y H Q=>∃z i c,x=.str z/\y=.int i/\z.length<=sizeLine/\gE z.cps.toList i=some c/\Q (.str ⟨#[c]⟩) H
theorem oS:Am X (Ce X.K):=by
 intro value slice pins s σ H x y v u Q I rx ry h hs;obtain ⟨p,xs,i,z,rfl,rfl,hq,he,q⟩:=h;cases rx;obtain ⟨t,rfl⟩:=ry;obtain ⟨its,r,pl,hz⟩:=I.list hq;obtain ⟨j,h1,h2,h3,h4,h5⟩:=kx he;obtain ⟨w,ew,rw'⟩:=r.get h2;have hl:=r.length;have hn:=iM;have fin:EP X pins σ Q w s:=⟨z,H,I,rw',q⟩
 by_cases h0:0<=i
 ·have hj:i.toNat=j:=by
   rw [seqIndex_of h0 h5] at h1;exact Option.some.inj h1
  exact item_listR pl.isList h0 (by omega) (by rw [hj];simpa using ew) fin hs
 ·have hj:(i+(its.toArray.size:Int)).toNat=j:=by
   rw [seqIndex_neg (by omega) h4] at h1;rw [List.size_toArray,←hl];exact Option.some.inj h1
  exact subscriptTail_builtinR (x:=w) pl.isList.typeIs slot_list_getitem.lookup
   (wpAny_getItem_list_neg (Q:=λr s'=>r=w/\EP X pins σ Q r s') pl.isList (by omega) (by rw [List.size_toArray]<;> omega) (by omega) (by rw [hj];simpa using ew) ⟨rfl,fin⟩) hs
theorem yo:Am X (Cg X.K):=by
 intro value slice pins s σ H x y v u Q I rx ry h hs;obtain ⟨p,xs,i,z,rfl,rfl,hq,he,q⟩:=h;cases rx;obtain ⟨t,rfl⟩:=ry;obtain ⟨its,r,pl,hz⟩:=I.tuple hq;obtain ⟨j,h1,h2,h3,h4,h5⟩:=kx he;obtain ⟨w,ew,rw'⟩:=r.get h2;have hl:=r.length;have hn:=iM;have fin:EP X pins σ Q w s:=⟨z,H,I,rw',q⟩;exact subscriptTail_builtinR (x:=w) pl.typeIs slot_tuple_getitem.lookup
  (getItem_tuple (j:=j) (Q:=λr s'=>r=w/\EP X pins σ Q r s') pl (by omega) (by omega) (by rw [List.size_toArray,←hl];exact h1) (by simpa using ew) ⟨rfl,fin⟩) hs
theorem yp:Am X Ch:=by
 intro value slice pins s σ H x y v u Q I rx ry h hs;obtain ⟨z,i,c,rfl,rfl,hz,he,q⟩:=h;obtain ⟨t,rfl⟩:=rx;obtain ⟨t',rfl⟩:=ry;obtain ⟨j,h1,h2,h3,h4,h5⟩:=kx he;have hl:z.cps.toList.length=z.length:=by simp [Str.length]
 rw [hl] at h1 h4 h5;have hn:=iM;exact tail_any (typeIs_str s z t) slot_str_getitem.lookup (getItem_str (c:=c) (by
  have e1:decide (i< -(2^63:Int))=false:=decide_eq_false (by omega);have e2:decide (i≥2^63)=false:=decide_eq_false (by omega);rw [e1,e2,Bool.or_false]) (by rw [h1];simpa using h2) ⟨.str ⟨#[c]⟩,H,I.tok _,⟨_,rfl⟩,q⟩) hs
theorem ky (lo hi:Option Int) (n:Nat):(sliceBounds lo hi none n).1=((HT.sIx n 0 lo:Nat):Int)/\(sliceBounds lo hi none n).2.1=((HT.sIx n n hi:Nat):Int)/\(sliceBounds lo hi none n).2.2=1:=by
 refine ⟨?_,?_,rfl⟩
 ·cases lo with
  | none=>simp [sliceBounds,HT.sIx]
  | some i=>
    simp only [sliceBounds,HT.sIx,Option.getD_none,show (1:Int) > 0 by decide,if_true]
    by_cases h:i<0
    ·simp only [h,if_true]<;> omega
    ·simp only [h,if_false]<;> omega
 ·cases hi with
  | none=>simp [sliceBounds,HT.sIx]
  | some i=>
    simp only [sliceBounds,HT.sIx,Option.getD_none,show (1:Int) > 0 by decide,if_true]
    by_cases h:i<0
    ·simp only [h,if_true]<;> omega
    ·simp only [h,if_false]<;> omega
theorem jv (its:List Value) (lo hi:Option Int):slicePick its.toArray lo hi none=((its.drop (HT.sIx its.length 0 lo)).take (HT.sIx its.length its.length hi-HT.sIx its.length 0 lo)).toArray:=by
 obtain ⟨h1,h2,h3⟩:=ky lo hi its.toArray.size;unfold slicePick;rw [h1,h2,h3];simp only [sliceRange_one,pick_run,List.size_toArray]<;> rfl
noncomputable def Ci (K:PySem.W.Frag):V->Option Int->Option Int->Hp->VK->Prop:=λx lo hi H Q=>∃a xs,x=.ref a/\cW K H a xs/\∀p,H p=none->Q (.ref p) (upd H p (.lst (lC xs lo hi)))
theorem oU:Ak X (Ci X.K):=by
 intro pins s σ H x v vl vu lo hi sl Q I rx hs pl pu h;obtain ⟨a,xs,rfl,hx,q⟩:=h;cases rx;obtain ⟨its,r,ht,hz⟩:=I.list hx;have hlen:=r.length;refine ⟨"list",_,slot_list_getitem.lookup,ht.isList.typeIs,?_⟩;refine wpAny_getItem_list_slice ht.isList hs pl pu .none (by simp) ?_ (by rw [List.size_toArray]<;> omega);rw [jv,←hlen];refine ⟨.ref s.heap.objs.size,_,I.laid (t':=s.toks) (o:= .lst (lC xs lo hi)) (λb ob q=>Heap.get?_push_of_some _ q) (Nat.le_refl _) ?_,rfl,q _ (I.hok.fresh (Nat.le_refl _))⟩;exact ⟨Nat.le_trans (ia xs lo hi) hz,_,0,(r.drop (HT.sIx xs.length 0 lo)).take (HT.sIx xs.length xs.length hi-HT.sIx xs.length 0 lo),Heap.get?_push_size _ rfl⟩
theorem eC:eP X (.builtin "len") (λxs H Q=>∃p ys,xs=[.ref p]/\(cW X.K H p ys∨cR X.K H p ys)/\Q (.int ys.length) H):=by
 intro pins s σ H xs us Q I r h;obtain ⟨p,ys,rfl,hq,q⟩:=h;obtain ⟨u,rfl,rx⟩:=fy r;cases rx;have hn:=iM;rcases hq with hq | hq
 ·obtain ⟨its,r',pl,hz⟩:=I.list hq;have hlen:=r'.length;exact Calls.call_len_list pl.isList (by simp only [List.size_toArray]<;> omega) ⟨.int ys.length,H,I.tok _,⟨s.toks+1,by rw [List.size_toArray,hlen]⟩,q⟩
 ·obtain ⟨its,r',pl,hz⟩:=I.tuple hq;have hlen:=r'.length;exact len_tuple pl (by simp only [List.size_toArray]<;> omega) ⟨.int ys.length,H,I.tok _,⟨s.toks+1,by rw [List.size_toArray,hlen]⟩,q⟩
theorem kz:eP X (.builtin "len") (λxs H Q=>∃z,xs=[.str z]/\z.length<=sizeLine/\Q (.int z.length) H):=by
 intro pins s σ H xs us Q I r h;obtain ⟨z,rfl,hz,q⟩:=h;obtain ⟨u,rfl,t,rfl⟩:=fy r;have hn:=iM;exact len_str (by omega) ⟨.int z.length,H,I.tok _,⟨_,rfl⟩,q⟩
theorem fR:eP X (.type "list") (λxs H Q=>∃p ys,xs=[.ref p]/\(cW X.K H p ys∨cR X.K H p ys)/\∀l,H l=none->Q (.ref l) (upd H l (.lst ys))):=by
 intro pins s σ H xs us Q I r h;obtain ⟨p,ys,rfl,hq,q⟩:=h;obtain ⟨u,rfl,rx⟩:=fy r;cases rx;have fin:∀(its:List Value),aM ys its->ys.length<=sizeLine->∀(h':Heap) (c':Nat),(∀b o',s.heap.get? b=some o'->h'.get? b=some o')->
  h'.get? s.heap.objs.size=some { cls:= .type "list",dict:=none,data:= .seq its.toArray c',slots:= #[] }->EP X pins σ Q (.ref s.heap.objs.size) { s with heap:=h' }:=λits r' hz h' c' kp e=>
  ⟨.ref s.heap.objs.size,_,I.laid (t':=s.toks) kp (Nat.le_refl _) (show bE X.prog X.w _ h' _ (.lst ys) from ⟨hz,its,c',r',e⟩),rfl,q _ (I.hok.fresh (Nat.le_refl _))⟩
 rcases hq with hq | hq
 ·obtain ⟨its,r',pl,hz⟩:=I.list hq;have hlen:=r'.length;obtain ⟨o,ho,hc,n,hd⟩:=pl.isList;exact call_list_seq p (.inl rfl) ho hc hd (λh' c' kp e=>fin its r' hz h' c' kp e) (by simp only [List.size_toArray]<;> omega)
 ·obtain ⟨its,r',pl,hz⟩:=I.tuple hq;have hlen:=r'.length;obtain ⟨o,ho,hc,n,hd⟩:=pl;exact call_list_seq p (.inr rfl) ho hc hd (λh' c' kp e=>fin its r' hz h' c' kp e) (by simp only [List.size_toArray]<;> omega)
theorem fA:eP X (.type "tuple") (λxs H Q=>∃p ys,xs=[.ref p]/\((cW X.K H p ys/\∀l,H l=none->Q (.ref l) (upd H l (.tup ys)))∨(cR X.K H p ys/\Q (.ref p) H))):=by
 intro pins s σ H xs us Q I r h;obtain ⟨p,ys,rfl,h⟩:=h;obtain ⟨u,rfl,rx⟩:=fy r;cases rx;rcases h with ⟨hq,q⟩ | ⟨hq,q⟩
 ·obtain ⟨its,r',pl,hz⟩:=I.list hq;have hlen:=r'.length;refine call_tuple_list pl.isList (λh' kp=>?_) (by simp only [List.size_toArray]<;> omega);have I1:aA X pins σ H { s with heap:=h' }:=I.kept (t':=s.toks) kp;have I2:aA X pins σ (upd H h'.objs.size (.tup ys)) { s with heap:=h'.push { cls:= .type "tuple",data:= .seq its.toArray } }:=
   I1.laid (t':=s.toks) (λb o e=>Heap.get?_push_of_some _ e) (Nat.le_refl _) (show bE X.prog X.w _ _ _ (.tup ys) from ⟨hz,its,r',IsTup.new _ _⟩)
  exact ⟨.ref h'.objs.size,_,I2,rfl,q _ (I1.hok.fresh (Nat.le_refl _))⟩
 ·obtain ⟨its,r',pl,hz⟩:=I.tuple hq;exact call_tuple_same pl ⟨.ref p,H,I,rfl,q⟩
noncomputable def BJ (K:PySem.W.Frag) (T:String) (x:V) (H:Hp):Prop:=match x with
 | .str _=>T="str"
 | .int _=>T="int"
 | .ref p=>(T="list"/\∃xs,cW K H p xs)∨(T="tuple"/\∃o,K.lookup p=some o/\o.cls=.type "tuple"/\o.dict=none)∨
    (T="dict"/\((∃kvs,H p=some (.dK kvs))∨∃kvs,H p=some (.dT kvs)))∨(T="set"/\∃S n,H p=some (.set S n))
 | _=>False
theorem ny {pins:List (Addr×Obj)} {σ:St} {H:Hp} {s:Shared} {T:String} {x:V} {v:Value} (I:aA X pins σ H s) (r:aZ x v) (ty:BJ X.K T x H):
 s.TypeIs v T/\∀a,v=.ref a->∃ob,s.heap.get? a=some ob/\ob.dict=none:=by
 cases x with
 | str z=>
   obtain ⟨t,rfl⟩:=r;cases (show T="str" from ty);exact ⟨typeIs_str s z t,λ_ e=>nomatch e⟩
 | int i=>
   obtain ⟨t,rfl⟩:=r;cases (show T="int" from ty);exact ⟨typeIs_int s i t,λ_ e=>nomatch e⟩
 | ref p=>
   cases r;rcases ty with ⟨rfl,xs,hq⟩ | ⟨rfl,o,hk,hc,hd⟩ | ⟨rfl,hk⟩ | ⟨rfl,S,n,hk⟩
   ·obtain ⟨its,_,pl,_⟩:=I.list hq;refine ⟨pl.isList.typeIs,λa e=>?_⟩;cases e;obtain ⟨o,n,e,c,hd,_⟩:=pl;exact ⟨o,e,hd⟩
   ·refine ⟨⟨o,I.kIn p o hk,hc⟩,λa e=>?_⟩;cases e;exact ⟨o,I.kIn _ o hk,hd⟩
   ·have z:∃o,s.heap.get? p=some o/\o.ExactDict:=by
     rcases hk with ⟨kvs,hk⟩ | ⟨kvs,hk⟩
     ·obtain ⟨_,_,_,_,o,_,_,e,ex,_⟩:=I.hok p _ hk;exact ⟨o,e,ex⟩
     ·obtain ⟨_,_,_,_,o,_,_,e,ex,_⟩:=I.hok p _ hk;exact ⟨o,e,ex⟩
    obtain ⟨o,e,ex⟩:=z;refine ⟨⟨o,e,ex.1⟩,λa e2=>?_⟩;cases e2;exact ⟨o,e,ex.2.1⟩
   ·obtain ⟨o,_,_,_,e,ex,_⟩:=I.hok p _ hk;refine ⟨⟨o,e,ex.1⟩,λa e2=>?_⟩;cases e2;exact ⟨o,e,ex.2.1⟩
 | _=>exact False.elim ty
noncomputable def Cj (K:PySem.W.Frag) (T:String) (r:V->List V->Hp->VK->Prop) (to:TE):TE:=λσ H Q=>to σ H λx H1=>BJ K T x H1/\r x [] H1 Q
noncomputable def D8 (K:PySem.W.Frag) (T:String) (r:V->List V->Hp->VK->Prop) (to:TE) (t:TA):TE:=λσ H Q=>to σ H λx H1=>BJ K T x H1/\t σ H1 λxs H2=>r x xs H2 Q
variable {o e:Expr} {es:List Expr} {to:TE} {t:TA} {name:Str} {apos cpos:Pos} {T id:String} {r:V->List V->Hp->VK->Prop}
theorem yq (pa:PlainAttrs T) (slot:Slot T name id) (hty:typeOf (.builtin id)=pure (.type "method_descriptor")) (hm:An X id r) (ho:PE X o to)
 (hbase:attributeBase o name X.env (eval o X.env)=eval o X.env:=by rfl) (hline:(apos.endLine==cpos.line)=true:=by rfl):PE X (.Call (.Attribute o name apos) [] [] cpos) (Cj X.K T r to):=by
 intro pins s σ H Q I h;refine wpAny_Call_method0_late hbase hline (bV (ho pins s σ H _ I h) λv s1 z9=>?_);obtain ⟨x,H1,I1,r1,ty,q1⟩:=z9;obtain ⟨h1,h2⟩:=ny I1 r1 ty;exact ⟨T,id,pa,slot,hty,h1,h2,Calls.callWith_builtin rfl (PySem.evalArgs_none (hm pins s1 σ H1 x [] v [] Q I1 r1 .nil q1))⟩
theorem wR (pa:PlainAttrs T) (slot:Slot T name id) (hty:typeOf (.builtin id)=pure (.type "method_descriptor")) (hm:An X id r) (ho:PE X o to) (ha:PA X (e::es) t)
 (hbase:attributeBase o name X.env (eval o X.env)=eval o X.env:=by rfl)
 (hfew:((backTo cpos (starEach (e::es) X.env)).all (λx=>!x.1)&&(backToKw cpos (keywordEach [] X.env)).all (λx=>x.1.isSome)
   &&decide ((e::es).length+([]:List Keyword).length+(if ([]:List Keyword).isEmpty then 0 else 1)<30))=true:=by rfl)
 (hline:(apos.endLine==cpos.line)=true:=by rfl) (hs:starEach (e::es) X.env=(false,eval e X.env)::starEach es X.env:=by rfl) (hplain:(backTo cpos (starEach es X.env)).any (·.1)=false:=by rfl):
 PE X (.Call (.Attribute o name apos) (e::es) [] cpos) (D8 X.K T r to t):=by
 intro pins s σ H Q I h;refine wpAny_Call_method_late hbase hfew hline rfl (bV (ho pins s σ H _ I h) λv s1 z9=>?_);obtain ⟨x,H1,I1,r1,ty,q1⟩:=z9;obtain ⟨h1,h2⟩:=ny I1 r1 ty;refine ⟨T,id,pa,slot,hty,h1,h2,?_⟩;have hA:=ha cpos pins s1 σ H1 _ I1 q1;rw [hs] at hA ⊢;refine Calls.callWith_builtin (by show (false||(backTo cpos (starEach es X.env)).any (·.1))=false;rw [hplain]<;> rfl) (Calls.evalArgs_plain ?_);exact bV hA λus s2 ⟨vs,H2,I2,r2,q2⟩=>hm pins s2 σ H2 x vs v us Q I2 r1 r2 q2
end
noncomputable def DI (X:Cx) (id:String) (r:V->List V->Hp->VK->Prop):Prop:=
 ∀(pins:List (Addr×Obj)) (s:Shared) (σ:St) (H:Hp) (x:V) (xs:List V) (v:Value) (us:List Value) (Q:VK),aA X pins σ H s->aZ x v->aM xs us->r x xs H Q->
  wpAny (model X.prog X.w) X.A (call (.builtin id) (v::us)) (EP X pins σ Q) X.xe s
theorem aM.one:∀{x:V} {us:List Value},aM [x] us->∃u,us=[u]/\aZ x u
 | _,_,.cons r .nil=>⟨_,rfl,r⟩
theorem aM.zero:∀{us:List Value},aM [] us->us=[]
 | _,.nil=>rfl
theorem aM.dropLast {xs:List V} {us:List Value} (h:aM xs us):aM xs.dropLast us.dropLast:=by
 induction h with
 | nil=>exact .nil
 | cons r t ih=>
   cases t with
   | nil=>exact .nil
   | cons q t'=>exact .cons r ih
theorem aM.rep {xs:List V} {us:List Value} (h:aM xs us):∀k:Nat,aM (List.replicate k xs).flatten (List.replicate k us).flatten
 | 0=> .nil
 | k+1=>by
   rw [List.replicate_succ,List.replicate_succ,List.flatten_cons,List.flatten_cons];exact aM.append h (aM.rep h k)
theorem nA {α:Type} (l:List α):l.eraseIdx (l.length-1)=l.dropLast:=by
 induction l with
 | nil=>rfl
 | cons a r ih=>
   cases r with
   | nil=>rfl
   | cons b r=>
     have e:(a::b::r).length-1=((b::r).length-1)+1:=by
      have h1:(a::b::r).length=r.length+2:=rfl;have h2:(b::r).length=r.length+1:=rfl;assumption
     rw [e,List.eraseIdx_cons_succ,ih]
     all_goals rfl
theorem gF (its:List Value):∀(k:Nat) (acc:List Value),
 List.foldl (λx1 x2=>x1++x2) acc.toArray (List.replicate k its.toArray)=(acc++(List.replicate k its).flatten).toArray
 | 0,acc=>by simp
 | k+1,acc=>by
   have e:acc.toArray++its.toArray=(acc++its).toArray:=by simp
   have e2:(acc++its)++(List.replicate k its).flatten=acc++(List.replicate (k+1) its).flatten:=by
    rw [List.replicate_succ,List.flatten_cons,List.append_assoc]
   rw [←e2,←gF its k (acc++its),←e,List.replicate_succ,List.foldl_cons]
section
variable {X:Cx} {pins:List (Addr×Obj)} {σ:St} {H:Hp} {s:Shared} {l b:Addr} {xs ys zs:List V}
theorem aA.lset {its its':List Value} {n:Nat} {f:Array Value->Array Value} {t':Nat} (I:aA X pins σ H s) (hH:H l=some (.lst xs))
 (e:s.heap.get? l=some { cls:= .type "list",data:= .seq its.toArray n }) (hf:f its.toArray=its'.toArray) (hv:aM ys its') (hz:ys.length<=sizeLine):
 aA X pins σ (upd H l (.lst ys)) { s with heap:=s.heap.update l (Obj.mapSeq f),toks:=t' }:=by
 have q:=PySem.IsL.update e f;rw [hf] at q;refine I.write (x:=l) (e:=l) (by rw [hH];exact trivial) (.inl rfl) (λb' u hb hu=>(Heap.get?_update_other s.heap (Obj.mapSeq f) (Ne.symm hb)).trans hu) ⟨_,q⟩ ?_;exact ⟨hz,its',_,hv,q⟩
theorem aA.lnew {its:List Value} {t':Nat} (I:aA X pins σ H s) (hv:aM ys its) (hz:ys.length<=sizeLine):
 aA X pins σ (upd H s.heap.objs.size (.lst ys)) { s with heap:=s.heap.push { cls:= .type "list",data:= .seq its.toArray },toks:=t' }:=
 I.laid (λ_ _ q=>Heap.get?_push_of_some _ q) (Nat.le_refl _) ⟨hz,its,0,hv,Heap.get?_push_size _ rfl⟩
theorem aA.fresh (I:aA X pins σ H s):H s.heap.objs.size=none:=I.hok.fresh (Nat.le_refl _)
theorem aA.lstM (I:aA X pins σ H s) (hH:H l=some (.lst xs)):xs.length<=sizeLine/\∃(its:List Value) (n:Nat),aM xs its/\xs.length=its.length/\s.heap.get? l=some { cls:= .type "list",data:= .seq its.toArray n }:=by
 obtain ⟨z,its,n,r,e⟩:=I.hok l _ hH;exact ⟨z,its,n,r,r.length,e⟩
theorem rN {n:Nat} (h:n<=sizeLine):Builtin.List.listTooLong n=false:=by
 unfold Builtin.List.listTooLong;exact decide_eq_false (by omega)
end
section
variable {X:Cx}
noncomputable def u4:V->List V->Hp->VK->Prop:=λx vs H Q=>∃l xs y,x=.ref l/\vs=[y]/\H l=some (.lst xs)/\xs.length<sizeLine/\Q .non (upd H l (.lst (xs++[y])))
theorem qz:DI X "list.append" u4:=by
 intro pins s σ H x vs v us Q I rx rv h;obtain ⟨l,xs,y,rfl,rfl,hH,hz,q⟩:=h;cases rx;obtain ⟨u,rfl,ru⟩:=rv.one;obtain ⟨z,its,n,r,hl,e⟩:=I.lstM hH;refine call_meets F.slot_list_append ⟨_,e,rfl⟩ F.entry_list_append (F.args_list_append_2 _ _) (PySem.list_append l its.toArray n u (by rw [List.size_toArray];omega)) ⟨e,?_⟩;refine ⟨.non,_,I.lset (its':=its++[u]) hH e (by simp) (r.append (.cons ru .nil)) ?_,rfl,q⟩;rw [List.length_append,List.length_singleton];assumption
noncomputable def Ck:V->List V->Hp->VK->Prop:=λx vs H Q=>∃l xs y,x=.ref l/\vs=[]/\H l=some (.lst xs)/\xs[xs.length-1]?=some y/\Q y (upd H l (.lst xs.dropLast))
theorem yr:DI X "list.pop" Ck:=by
 intro pins s σ H x vs v us Q I rx rv h;obtain ⟨l,xs,y,rfl,rfl,hH,hy,q⟩:=h;cases rx;have hus:=rv.zero;subst hus;obtain ⟨z,its,n,r,hl,e⟩:=I.lstM hH;obtain ⟨u,hu,ru⟩:=r.get hy;have hy':its.toArray[its.toArray.size-1]?=some u:=by
  show its.toArray[its.length-1]?=some u;rw [←Array.getElem?_toList,←hl];exact hu
 refine call_meets F.slot_list_pop ⟨_,e,rfl⟩ F.entry_list_pop (F.args_list_pop_1 _) (MeetsSeq.list_pop_last l its.toArray n u hy' (by rw [List.size_toArray];omega)) ⟨e,?_⟩;refine ⟨y,_,I.lset (its':=its.dropLast) hH e ?_ r.dropLast ?_,ru,q⟩
 ·show its.toArray.eraseIdxIfInBounds (its.toArray.size-1)=its.dropLast.toArray;rw [List.size_toArray,List.eraseIdxIfInBounds_toArray,nA]
 ·rw [List.length_dropLast];omega
noncomputable def Cl:R2:=λx y H Q=>∃l b xs zs,x=.ref l/\y=.ref b/\H l=some (.lst xs)/\H b=some (.lst zs)/\xs.length+zs.length<=sizeLine/\∀p,H p=none->Q (.ref p) (upd H p (.lst (xs++zs)))
theorem yt:ir X (binaryOp .Add) Cl:=by
 intro pins s σ H x y v u Q I rx ry h;obtain ⟨l,b,xs,zs,rfl,rfl,hH,hB,hz,q⟩:=h;cases rx;cases ry;obtain ⟨z,its,n,r,hl,e⟩:=I.lstM hH;obtain ⟨z2,its2,n2,r2,hl2,e2⟩:=I.lstM hB;refine PySem.P.add_list e e2 ?_ (by rw [List.size_toArray,List.size_toArray];omega);have ea:its.toArray++its2.toArray=(its++its2).toArray:=by simp
 rw [ea];exact ⟨.ref _,_,I.lnew (t':=s.toks) (r.append r2) (by rw [List.length_append];assumption),rfl,q _ I.fresh⟩
noncomputable def Cn:R2:=λx y H Q=>∃l k xs,x=.ref l/\y=.int k/\H l=some (.lst xs)/\-(2^63)<=k/\k<2^63/\xs.length*k.toNat<=sizeLine/\
 ∀p,H p=none->Q (.ref p) (upd H p (.lst (List.replicate k.toNat xs).flatten))
theorem iw {α:Type} (xs:List α) (k:Nat):(List.replicate k xs).flatten.length=k*xs.length:=by
 induction k with
 | zero=>simp
 | succ k ih=>rw [List.replicate_succ,List.flatten_cons,List.length_append,ih,Nat.succ_mul,Nat.add_comm]
theorem yu:ir X (binaryOp .Mult) Cn:=by
 intro pins s σ H x y v u Q I rx ry h;obtain ⟨l,k,xs,rfl,rfl,hH,h1,h2,hz,q⟩:=h;cases rx;obtain ⟨t,rfl⟩:=ry;obtain ⟨z,its,n,r,hl,e⟩:=I.lstM hH;have hlen:its.toArray.size*k.toNat<=sizeLine:=by rw [List.size_toArray,←hl];exact hz
 have hcap:¬its.toArray.size*k.toNat > (2^63-1)/8:=by
  have:(sizeLine:Nat)<=(2^63-1)/8:=by decide
  omega
 have hfit:¬(!Builtin.List.listFitsIndex k)=true:=by
  rw [fitsIndex_both h1 h2];exact Bool.false_ne_true
 have hlong:¬Builtin.List.listTooLong (its.toArray.size*k.toNat)=true:=by
  rw [rN hlen];exact Bool.false_ne_true
 have hnew:List.foldl (λx1 x2=>x1++x2) #[] (List.replicate (if its.toArray.isEmpty=true then 0 else k.toNat) its.toArray)=(List.replicate k.toNat its).flatten.toArray:=by
  have f0:∀m:Nat,List.foldl (λx1 x2=>x1++x2) #[] (List.replicate m its.toArray)=(List.replicate m its).flatten.toArray:=λm=>by
   have:=gF its m [];rw [List.nil_append] at this;exact this
  rw [f0];cases its with
  | nil=>simp
  | cons a r'=>rw [if_neg (by simp)]
 refine wpAny_binaryOp_repeat_ref (T:="list") (U:="int") (by decide) ⟨_,e,rfl⟩ (λs'=>typeIs_int s' k t) noFill_list_mul F.fills_int_mul F.slot_int_rmul repeat_list F.slot_int_index.lookup
  (call_meets F.slot_int_rmul (typeIs_int s k t) F.entry_int_rmul (F.args_int_rmul_2 _ _) (int___rmul___int_list k t l its.toArray n)
    ⟨e,rfl,⟨_,e,rfl⟩,call_meets F.slot_list_mul ⟨_,e,rfl⟩ F.entry_list_mul (F.args_list_mul_2 _ _) (AutoListH.list___mul___list_int_3 l its.toArray n k t hfit hcap hlong) ⟨e,?_⟩⟩)
 rw [hnew];exact ⟨.ref _,_,I.lnew (t':=s.toks) (r.rep k.toNat) (by rw [iw,Nat.mul_comm];exact hz),rfl,q _ I.fresh⟩
end
section
variable {prog:Program} {w:World} {A:Around} {E:Value->Shared->Prop} {s:Shared}
set_option maxRecDepth 100000 in
end
section
variable {X:Cx}
end
end L2
namespace Att
open PySem PySem.W PySem.Calls PyProof.Rows
theorem ip {P:Params} {h:Heap}:∀(ns:List Int) (vs:List Value),WellAll P h vs (ns.map WData.int)->IntsAre vs ns:=by
 intro ns
 induction ns with
 | nil=>
   intro vs w;rw [List.map_nil] at w;cases w;exact .nil
 | cons n ns ih=>
   intro vs w;rw [List.map_cons] at w;cases w with
   | cons a b=>
     cases a;exact .cons _ _ (ih _ b)
theorem script_of {l:OpenLaw} {n:Nat} (hn:l.most=some n) {P:Params} {h:Heap} {args:List WData} {vals:List Value}
 (hpre:l.row.toRowW.claim.pre args=true) (hwl:WellAll P h vals args):
 ∃a vs ns,vals=[Value.ref a]/\args=[WData.list (ns.map WData.int)]/\h.get? a=some { cls:= .type "list",data:= .seq vs.toArray }/\IntsAre vs ns/\ns.length<=n:=by
 have hsh:WShape.hasAll [] args [.list .int]=true:=(pre_splitW hpre).1;have hc:l.pre.holds [] { args:=args }=true:=(pre_splitW hpre).2;obtain ⟨d,r,rfl,h1,h2⟩:=hasAllW_cons hsh;obtain rfl:=hasAllW_nil h2;obtain ⟨xs,rfl,h3⟩:=hasW_list h1;obtain ⟨ns,rfl⟩:=items_int h3;have hlen:ns.length<=n:=by
  unfold OpenLaw.pre at hc;have h4:(WTm.not (.lt (.lit (.int (n:Int))) (.len (.arg 0)))).holds [] { args:=[.list (ns.map .int)] }=true:=by
   have h4:=(holds_andW hc).1;rw [hn] at h4;exact h4
  have h5:=condW_of h4 (w_not (w_lt w_lit (w_len_list (w_arg rfl))));rw [List.length_map] at h5;refine Nat.le_of_not_lt λq=>?_;have q':(n:Int)<((ns.length:Nat):Int):=by omega
  first
   | (rw [decide_eq_true q'] at h5;exact absurd h5 (by decide))
   | (simp at h5;omega)
 cases hwl with
 | cons w1 w2=>
   cases w2;cases w1 with
   | list ho hall=>exact ⟨_,_,ns,rfl,rfl,ho,ip ns _ hall,hlen⟩
theorem post_true (l:OpenLaw) (args:List WData):l.row.toRowW.claim.post args (.bool true) args=true:=
 postW_of (r:=l.row.toRowW) (X:=(true==true))
  (show WShape.has [] (.bool true) .bool=true by first | rfl | decide | simp [WShape.has,WShape.arms,WShape.armsAll])
  (show (WTm.eq .res (.lit (.bool true))).value [] { args:=args,res:=some (.bool true),after:=args }=some (.bool (true==true)) from w_eq_bool (w_res rfl) w_lit) rfl
section
variable {prog:Program} {w:World} {A:Around} {E:Value->Shared->Prop} {s:Shared} {K:Frag}
end
end Att
namespace L2
open PySem PySem.Spec PyProof.Rows
theorem jL:∀{vs:List Value} {ns:List Int},IntsAre vs ns->aM (ns.map V.int) vs
 | _,_,.nil=> .nil
 | _,_,.cons n t h=> .cons ⟨t,rfl⟩ (jL h)
noncomputable def rO (H:Hp):Prop:=∀b,H b=none∨∃o xs,H b=some (.frz o (.lst xs))
theorem rP {P:Program} {w:World} {K:PySem.W.Frag} {mg mb:Str->Option Value} {CX:nq} {k:Nat} {fa a:Addr} {fd:FuncData} {x:Str} {sp:Sp} {s₁:Shared} {vs:List Value} {ns:List Int}
 (KX:K.In s₁.heap) (hns:s₁.heap.Ns mainGlobals mg) (hb:s₁.heap.Ns builtinsNs mb) (hbb:∀x:Str,x≠"__name__"->mb x=bootBuiltins x) (hlim:s₁.heap.NoLimit) (hg:s₁.gens= #[])
 (ha:s₁.heap.get? a=some { cls:= .type "list",data:= .seq vs.toArray }) (hi:IntsAre vs ns) (hl:ns.length<=sizeLine) (hr:ay k callerA)
 (F:∀base:Heap,K.In base->base.Ns mainGlobals mg->dE P w K mg base CX k fa fd [x] sp) (hbind:∀(s:Shared) (u:Value),BindsTo s fd ⟨[u],[]⟩ [(x,u)])
 (hsp:∀H:Hp,rO H->cW K H a (ns.map V.int)->sp [.ref a] H (λv _=>v=.bl true) λ_ _ _=>False)
 (hCX:∀H e s',CX [] H s₁ (λ_ _ _=>False) e s'->False):
 codeAny (model P w) callerA (.call (.ref fa) ⟨[.ref a],[]⟩) (λr s'=>r=.ok (.ret (.bool true))/\OldK s₁.heap s'.heap/\s'.os=s₁.os/\AllBare s'.gens) s₁:=by
 have rv:=jL hi;have lenV:=hi.length
 -- from an abstract heap in which nothing but the script may be tracked
 have core:∀H:Hp,rO H->cW K H a (ns.map V.int)->fO P w H s₁.heap->(∀b,H b≠none->b=a)->(H a≠none->K.lookup a=none)->
  codeAny (model P w) callerA (.call (.ref fa) ⟨[.ref a],[]⟩) (λr s'=>r=.ok (.ret (.bool true))/\OldK s₁.heap s'.heap/\s'.os=s₁.os/\AllBare s'.gens) s₁:=by
  intro H hO hS hok hA hK;have base_of:∀{b:Addr} {o:Obj},s₁.heap.get? b=some o->H b=none->(kt s₁.heap H).get? b=some o:=λe n=>rl e n;have noA:∀{b:Addr} {o:Obj} {es:Array DictEntry} {ep:Nat},s₁.heap.get? b=some o->o.data=.dict es ep->H b=none:=λ{b o es ep} e d=>by
   cases q:H b with
   | none=>rfl
   | some u=>
     have e':b=a:=hA b (by rw [q];simp);subst e';rw [ha] at e;cases e;have d':Data.seq vs.toArray _=Data.dict es ep:=d;cases d'
  have nsK:∀{b:Addr} {m:Str->Option Value},s₁.heap.Ns b m->(kt s₁.heap H).Ns b m:=λ{b m} ⟨o,es,ep,e,d,r⟩=>⟨o,es,ep,base_of e (noA e d),d,r⟩;have hKb:K.In (kt s₁.heap H):=λb o e=>base_of (KX b o e) (by
   cases q:H b with
   | none=>rfl
   | some u=>
     have e':b=a:=hA b (by rw [q];simp);subst e';rw [hK (by rw [q];simp)] at e;cases e)
  have hM:Mod K mg (kt s₁.heap H):=⟨hKb,nsK hns,⟨mb,nsK hb,hbb⟩,let ⟨mc,h1,h2⟩:=hlim;⟨mc,nsK h1,h2⟩⟩;have e0:lA P w K mg (kt s₁.heap H) callerA [] s₁ H:=⟨rfl,hM,λb o e=>uH e,Nat.le_of_eq (qi _ _),trivial,λb hb=>absurd (show b∈([]:List Addr) from hb) (by simp),hok,.of_eq hg⟩;refine codeAny_mono ((F _ hKb (nsK hns)).run callerA [] s₁ H ⟨[.ref a],[]⟩ [.ref a] [.ref a] _ _ hr e0 (hbind s₁ (.ref a)) (.cons rfl .nil) (hsp H hO hS)) λr s' h=>?_;cases r with
  | error e=>exact (hCX H e s' h).elim
  | ok fl=>
    cases fl with
    | next=>exact False.elim h
    | brk=>exact False.elim h
    | cont=>exact False.elim h
    | ret u=>
      obtain ⟨v,H',os,bare,un,hok',r',q⟩:=h;have q':v=.bl true:=q;subst q';obtain rfl:u=Value.bool true:=r';refine ⟨rfl,OldK.of_keep λb o e=>?_,os,bare⟩;cases q:H b with
      | none=>exact un.keep b o e q (by intro z;exact absurd (show b∈([]:List Addr) from z) (by simp)) (by simp)
      | some u=>
        rcases hO b with z | ⟨ob,xs,z⟩
        ·rw [q] at z;cases z
        ·have z2:=un.frzs b ob _ z;obtain ⟨e1,_⟩:=hok b _ z;obtain ⟨e2,_⟩:=hok' b _ z2;rw [e] at e1;cases e1;exact e2
 cases hk:K.lookup a with
 | some o=>
   -- the script is one of the module's own objects
   have e:=KX a o hk;rw [ha] at e;cases e;refine core (λ_=>none) (λ_=> .inl rfl) (.inr ⟨_,vs.toArray,_,hk,rfl,rfl,rfl,by rw [List.size_toArray,lenV];exact hl,by simpa using rv⟩) (λb u z=>by have z':(none:Option HO)=some u:=z;cases z') (λb z=>absurd rfl z) λz=>absurd rfl z
 | none=>
   refine core (λb=>if b=a then some (.frz { cls:= .type "list",data:= .seq vs.toArray } (.lst (ns.map V.int))) else none) (λb=>?_) (.inl (.inr ⟨{ cls:= .type "list",data:= .seq vs.toArray },if_pos rfl⟩)) (λb u z=>?_) (λb z=>?_) λ_=>hk
   ·by_cases hb:b=a
    ·exact .inr ⟨_,_,if_pos hb⟩
    ·exact .inl (if_neg hb)
   ·by_cases hb:b=a
    ·have z':=(if_pos hb).symm.trans z;cases z';subst hb;exact ⟨ha,by rw [List.length_map];exact hl,vs,_,rv,ha⟩
    ·have z':=(if_neg hb).symm.trans z;cases z'
   ·by_cases hb:b=a
    ·exact hb
    ·exact absurd (if_neg hb) z
noncomputable def aB (s:Stmt):Arguments:=match s with
 | .FunctionDef _ a _ _ _ _ _ _ _ _=>a
 | _=>{ posonlyargs:=[],args:=[],vararg:=none,kwonlyargs:=[],kw_defaults:=[],kwarg:=none,defaults:=[] }
noncomputable def aw (s:Stmt):List Stmt:=match s with
 | .FunctionDef _ _ b _ _ _ _ _ _ _=>b
 | _=>[]
noncomputable def ag (s:Stmt):Scope:=match s with
 | .FunctionDef _ _ _ _ _ _ sc _ _ _=>sc
 | _=>{ kind:= .function,names:=[],isGenerator:=false,isCoroutine:=false }
noncomputable abbrev uE:nq:=λ_ _ _ _ _ _=>False
noncomputable abbrev E0:XK:=λ_ _ _=>False
theorem jM {X:Cx}:eB uE X E0:=λ_ _ _ _ _ _ _ h=>h.elim
structure cM (K:PySem.W.Frag) (x qual:Str) (st:Stmt) (f:Addr) (fd:FuncData):Prop where
 ex:∃(oc:Value) (od:Option Addr) (kV doc pm:Value) (an:Option Addr) (cdv ct:Value) (osl:Array (Option Value)),
  fd=fnOf x qual (aB st) (aw st) (ag st) .none kV doc pm an cdv ct/\K.lookup f=some ⟨oc,od,.func fd,osl⟩/\codeIn K cdv qual=true
 kp:keepIn K (.ref f)=true
section
variable {P:Program} {w:World} {K:PySem.W.Frag} {mg:Str->Option Value} {base:Heap}
theorem cM.ok {x qual:Str} {st:Stmt} {f:Addr} {fd:FuncData} {N ps:List Str} {k:Nat} {sp:Sp} (F:cM K x qual st f fd) (S:aE N ps (ag st)) (len:∀vs H Q E,sp vs H Q E->vs.length=ps.length)
 (hbody:∀(cdv:Value) (A:Around) (outer:List Env) (s:Shared) (H:Hp) (vs:List V) (Q:VK) (E:XK),ay k (A.deeper (envOfC qual (ag st) s.heap.objs.size f cdv))->sp vs H Q E->
   ∃t,lr (dG uE P w K mg base N qual (ag st) f cdv A outer s H E).nox (aw st) t/\t { nx:=λ_ H'=>Q .non H',rt:=Q } (start N vs) H):dE P w K mg base uE (k+1) f fd ps sp:=by
 obtain ⟨oc,od,kV,doc,pm,an,cdv,ct,osl,rfl,lk,hcd⟩:=F.ex;refine oO lk hcd S len λA outer s H vs Q E hr hsp=>?_;obtain ⟨t,h,q⟩:=hbody cdv A outer s H vs Q E hr hsp;exact ⟨t,h.nox,q⟩
theorem cM.binds {x qual:Str} {st:Stmt} {f:Addr} {fd:FuncData} {ps:List Str} (F:cM K x qual st f fd)
 (h:∀(kV doc pm:Value) (an:Option Addr) (cdv ct:Value) (us:List Value),us.length=ps.length->bindArgs (fnOf x qual (aB st) (aw st) (ag st) .none kV doc pm an cdv ct) ⟨us,[]⟩=pure (ps.zip us)):bG K fd ps []:=by
 obtain ⟨oc,od,kV,doc,pm,an,cdv,ct,osl,rfl,lk,hcd⟩:=F.ex;exact .all (h kV doc pm an cdv ct)
theorem aQ {x qual:Str} {st:Stmt} {f:Addr} {oc:Value} {od an:Option Addr} {osl:Array (Option Value)} {kV doc pm cdv ct:Value} (l:K.lookup f=some ⟨oc,od,.func (fnOf x qual (aB st) (aw st) (ag st) .none kV doc pm an cdv ct),osl⟩)
 (c:codeIn K cdv qual=true) (k:keepIn K (.ref f)=true):cM K x qual st f (fnOf x qual (aB st) (aw st) (ag st) .none kV doc pm an cdv ct):=⟨⟨oc,od,kV,doc,pm,an,cdv,ct,osl,rfl,l,c⟩,k⟩
end
section
variable {X:Cx}
theorem pv (i:Nat) {x:Str} {pos:Pos} (hN:X.N[i]?=some x:=by rfl) (hv:wL X.env.scope x:=by first | exact Or.inl rfl | exact Or.inr (Or.inl rfl) | exact Or.inr (Or.inr rfl)) (hd:(x==("__debug__":Str))=false:=by decide)
 (hcd:(x==("__classdict__":Str))=false:=by decide):PE X (.Name x pos) (qj i):=iJ hN hv hd hcd
end
end L2
set_option maxRecDepth 100000
set_option linter.all false
namespace L2
open PySem PySem.Spec PyProof.Rows
section
variable {κ:Type} [DecidableEq κ]
noncomputable def kA (kvs:List (κ×V)) (k:κ):Option V:=(kvs.find? λkv=>decide (kv.1=k)).map (·.2)
noncomputable def eS (kvs:List (κ×V)) (k:κ) (v:V):List (κ×V):=
 if (kvs.any λkv=>decide (kv.1=k))=true then kvs.map (λkv=>if kv.1=k then (kv.1,v) else kv) else kvs++[(k,v)]
theorem lD {p:κ×V} {r:List (κ×V)} {k:κ} (e:p.1=k):kA (p::r) k=some p.2:=by simp [kA,List.find?_cons,e]
theorem lE {p:κ×V} {r:List (κ×V)} {k:κ} (e:¬p.1=k):kA (p::r) k=kA r k:=by simp [kA,List.find?_cons,e]
theorem ib (kvs:List (κ×V)) (k:κ) (v:V):(eS kvs k v).length<=kvs.length+1:=by
 unfold eS;split
 ·rw [List.length_map];omega
 ·rw [List.length_append,List.length_cons,List.length_nil];omega
theorem fH.getD {o:Option V} {u:Option Value} {d:V} {d':Value} (r:fH o u) (rd:aZ d d'):aZ (o.getD d) (u.getD d'):=by
 cases o with
 | none=>cases u with
   | none=>exact rd
   | some _=>exact (show False from r).elim
 | some _=>cases u with
   | none=>exact (show False from r).elim
   | some _=>exact r
theorem KV.val {kvs:List (κ×V)} {vs:List (κ×Value)} (r:KV kvs vs) (k:κ):fH (kA kvs k) (valueAt vs k):=by
 unfold KV at r
 induction r with
 | nil=>exact True.intro
 | @cons p q ps qs h t ih=>
   obtain ⟨h1,h2⟩:=h
   by_cases e:p.1=k
   ·have e':q.1=k:=h1.symm.trans e;have b:valueAt (q::qs) k=some q.2:=by simp [valueAt,List.find?_cons,e']
    rw [lD e,b];exact h2
   ·have e':¬q.1=k:=λz=>e (h1.trans z);have b:valueAt (q::qs) k=valueAt qs k:=by simp [valueAt,List.find?_cons,e']
    rw [lE e,b];exact ih
theorem KV.any {kvs:List (κ×V)} {vs:List (κ×Value)} (r:KV kvs vs) (k:κ):(kvs.any λkv=>decide (kv.1=k))=vs.any λkv=>decide (kv.1=k):=by
 unfold KV at r
 induction r with
 | nil=>rfl
 | cons h t ih=>rw [List.any_cons,List.any_cons,ih,h.1]
theorem KV.repl {kvs:List (κ×V)} {vs:List (κ×Value)} (r:KV kvs vs) (k:κ) {y:V} {u:Value} (ry:aZ y u):
 KV (kvs.map λkv=>if kv.1=k then (kv.1,y) else kv) (vs.map λkv=>if kv.1=k then (kv.1,u) else kv):=by
 unfold KV at r ⊢
 induction r with
 | nil=>exact .nil
 | @cons p q ps qs h t ih=>
   rw [List.map_cons,List.map_cons];refine .cons ?_ ih;obtain ⟨h1,h2⟩:=h
   by_cases e:p.1=k
   ·rw [if_pos e,if_pos (h1.symm.trans e)];exact ⟨h1,ry⟩
   ·rw [if_neg e,if_neg (λz=>e (h1.trans z))];exact ⟨h1,h2⟩
theorem KV.put {kvs:List (κ×V)} {vs:List (κ×Value)} (r:KV kvs vs) (k:κ) {y:V} {u:Value} (ry:aZ y u):KV (eS kvs k y) (stored vs k u):=by
 unfold eS stored;rw [r.any k]
 by_cases e:(vs.any λkv=>decide (kv.1=k))=true
 ·rw [if_pos e,if_pos e];exact r.repl k ry
 ·rw [if_neg e,if_neg e];exact Paired.snoc r ⟨rfl,ry⟩
theorem KV.length {kvs:List (κ×V)} {vs:List (κ×Value)} (r:KV kvs vs):kvs.length=vs.length:=Paired.length r
end
theorem lG {P:Program} {w:World} {k:aF} {u:Value} (r:aZ (kV k) u):(ba P w).is k u=true:=by
 cases k with
 | inl i=>obtain ⟨t,e⟩:=(show ∃t,u=Value.int i t from r);subst e;exact dL P w i t
 | inr x=>obtain ⟨t,e⟩:=(show ∃t,u=Value.str x t from r);subst e;exact lw P w x t
section
variable {P:Program} {w:World} {H:Hp} {h:Heap} {a:Addr}
theorem Ap {u:HO} (ok:fO P w H h) (e:Rd H a u):bE P w H h a u:=e.ok ok
theorem eV {kvs:List (aF×V)} (ok:fO P w H h) (e:Rd H a (.dK kvs)):kvs.length<=sizeLine/\(a==sysModules)=false/\∃vs,KV kvs vs/\h.DictOf (ba P w) a vs:=
 show bE P w H h a (.dK kvs) from Ap ok e
theorem oV {kvs:List (aF×V)} (ok:fO P w H h) (e:H a=some (.dK kvs)):kvs.length<=sizeLine/\(a==sysModules)=false/\∃vs,KV kvs vs/\h.DictOf (ba P w) a vs:=eV ok (.inl e)
end
section
variable {X:Cx} {pins:List (Addr×Obj)} {σ:St} {H:Hp} {s:Shared} {a:Addr} {y v:V} {u r:Value} {o:Option V} {A:Around} {E:Value->Shared->Prop}
theorem aA.bigD (I:aA X pins σ H s):sysModules<s.heap.objs.size:=by
 have h:mainGlobals<s.heap.objs.size:=(I.mod.glob.keeps I.bk).lt;exact Nat.lt_trans (by decide) h
theorem kB {h':Heap} {t':Nat} {ob:HO} (I:aA X pins σ H s) (mu:zS (H a)) (hs:Heap.SameBut a s.heap h') (he:∃q,h'.get? a=some q) (new:bE X.prog X.w (upd H a ob) h' a ob):
 aA X pins σ (upd H a ob) { s with heap:=h',toks:=t' }:=
 I.write (x:=a) (e:=a) mu (.inl rfl) (λb q hb z=>(hs.2 b hb).trans z) he new
theorem rQ {P:Program} {w:World} {H':Hp} {h':Heap} {kvs:List (aF×V)} {vs:List (aF×Value)} (z:kvs.length<=sizeLine) (hd:(a==sysModules)=false) (rel:KV kvs vs) (dd:h'.DictOf (ba P w) a vs):
 bE P w H' h' a (.dK kvs):=⟨z,hd,vs,rel,dd⟩
end
section
variable {X:Cx} {pins:List (Addr×Obj)} {σ:St} {H:Hp} {s:Shared} {a:Addr} {kvs:List (aF×V)} {k:aF} {u:Value} {A:Around} {E:Value->Shared->Prop}
theorem Aq {Q:Value->Shared->Prop} (I:aA X pins σ H s) (e:Rd H a (.dK kvs)) (h:∀t s',aA X pins σ H s'->Q (.int kvs.length t) s'):wpAny (model X.prog X.w) A (call (.builtin "len") [.ref a]) Q E s:=by
 obtain ⟨z,hd,vs,rel,dd⟩:=eV I.hok e;refine call_len_dict hd dd (by rw [←rel.length];rw [sizeLine_eq] at z;omega) ?_;rw [←rel.length];exact h _ _ (I.tok _)
end
section
variable {X:Cx} {o i e value:Expr} {pos pos' tpos:Pos} {td ty tv:TE}
end
theorem qA {P:Program} {w:World} {H:Hp} (h:Heap) (hb:sysModules<h.objs.size):bE P w H (h.push { cls:= .type "dict",data:= .dict #[] }) h.objs.size (.dK []):=
 ⟨Nat.zero_le _,beq_eq_false_iff_ne.mpr (Ne.symm (Nat.ne_of_lt hb)),[],.nil,Heap.DictOf.new h⟩
section
variable {X:Cx} {pos:Pos}
end
noncomputable abbrev VV:List (V×V)->List (Value×Value)->Prop:=Paired λp q=>aZ p.1 q.1/\aZ p.2 q.2
noncomputable def fI (kvs more:List (aF×V)):List (aF×V):=more.foldl (λacc kv=>eS acc kv.1 kv.2) kvs
theorem KV.merge:∀{more:List (aF×V)} {rs:List (aF×Value)} {kvs:List (aF×V)} {vs:List (aF×Value)},KV more rs->KV kvs vs->KV (fI kvs more) (merged vs rs):=by
 intro more rs kvs vs r;unfold KV at r
 induction r generalizing kvs vs with
 | nil=>intro q;exact q
 | @cons p q ps qs h t ih=>
   intro r0;have e:KV (eS kvs p.1 p.2) (stored vs q.1 q.2):=by
    have:=r0.put p.1 h.2;rw [←h.1];exact this
   exact ih e
theorem fB:∀(more kvs:List (aF×V)),(fI kvs more).length<=kvs.length+more.length
 | [],kvs=>by show kvs.length<=kvs.length+0;omega
 | p::r,kvs=>by
   have h1:=fB r (eS kvs p.1 p.2);have h2:=ib kvs p.1 p.2;show (fI (eS kvs p.1 p.2) r).length<=_;rw [List.length_cons];omega
theorem iQ {P:Program} {w:World}:∀{kvs:List (aF×V)} {ws:List (Value×Value)},VV (kvs.map λkv=>(kV kv.1,kv.2)) ws->∃rs,Carries (ba P w) ws rs/\KV kvs rs
 | [],_,r=>by rw [List.map_nil] at r;cases r;exact ⟨[],True.intro,.nil⟩
 | p::kvs,_,r=>by
   rw [List.map_cons] at r;cases r with
   | @cons a b as bs h t=>
     obtain ⟨rs,c,q⟩:=iQ (P:=P) (w:=w) t;obtain ⟨b1,b2⟩:=b;exact ⟨(p.1,b2)::rs,⟨lG h.1,rfl,c⟩,.cons ⟨rfl,h.2⟩ q⟩
structure M1 (X:Cx) (o:Expr) (m:Str) (apos:Pos) (e:Expr) (cpos:Pos):Prop where
 base:attributeBase o m X.env (eval o X.env)=eval o X.env
 few:((backTo cpos (starEach [e] X.env)).all (λx=>!x.1)&&(backToKw cpos (keywordEach [] X.env)).all (λx=>x.1.isSome)
  &&decide (([e]:List Expr).length+([]:List Keyword).length+(if ([]:List Keyword).isEmpty then 0 else 1)<30))=true
 line:(apos.endLine==cpos.line)=true
 trees:backTo cpos (starEach [e] X.env)=[(false,eval e X.env)]
structure M2 (X:Cx) (o:Expr) (m:Str) (apos:Pos) (e f:Expr) (cpos:Pos):Prop where
 base:attributeBase o m X.env (eval o X.env)=eval o X.env
 few:((backTo cpos (starEach [e,f] X.env)).all (λx=>!x.1)&&(backToKw cpos (keywordEach [] X.env)).all (λx=>x.1.isSome)
  &&decide (([e,f]:List Expr).length+([]:List Keyword).length+(if ([]:List Keyword).isEmpty then 0 else 1)<30))=true
 line:(apos.endLine==cpos.line)=true
 trees:backTo cpos (starEach [e,f] X.env)=[(false,eval e X.env),(false,eval f X.env)]
section
variable {X:Cx} {pins:List (Addr×Obj)} {σ:St} {H:Hp} {s:Shared} {a:Addr} {y d:V} {u r:Value} {o:Option V} {A:Around} {E:Value->Shared->Prop}
end
section
variable {X:Cx} {o e f:Expr} {apos cpos:Pos} {td ty tx:TE}
end
section
variable {X:Cx} {pins:List (Addr×Obj)} {σ:St} {H:Hp} {s:Shared} {a:Addr} {kvs:List (aF×V)} {A:Around} {E:Value->Shared->Prop}
end
section
variable {X:Cx} {pins:List (Addr×Obj)} {σ:St} {H:Hp} {s:Shared} {a:Addr} {y:V} {u:Value} {A:Around} {E:Value->Shared->Prop}
end
inductive W where
 | non | bl (b:Bool) | int (i:Int) | str (x:Str) | ref (a:Addr) | tup (xs:List W) | scr (ns:List Int)
inductive GO where
 | lst (ws:List W)
 | dct
 | exc (C:Addr)
 | dic (kvs:List (aF×W))
 | fdc (o:Obj) (us:List (aF×V)) (kvs:List (aF×W))
 | ins (C:Addr) (fs:List (Str×W))
 | tbl (ps:Array Value)
 | any (P:Hp->Addr->Prop)
noncomputable abbrev Gp:=Addr->Option GO
noncomputable def aG (G:Gp) (a:Addr) (g:GO):Gp:=λb=>if b=a then some g else G b
theorem ak {G:Gp} {a:Addr} {g:GO}:aG G a g a=some g:=by unfold aG;rw [if_pos rfl]
theorem aq {G:Gp} {a b:Addr} {g:GO} (h:b≠a):aG G a g b=G b:=by unfold aG;rw [if_neg h]
noncomputable def wS (K:PySem.W.Frag) (H:Hp) (a:Addr) (ns:List Int):Prop:=
 (∃o,H a=some (.frz o (.lst (ns.map V.int))))∨
   ∃(o:Obj) (its:Array Value) (n:Nat),K.lookup a=some o/\o.cls=.type "list"/\o.dict=none/\o.data=.seq its n/\its.size<=sizeLine/\aM (ns.map V.int) its.toList
theorem wS.sq {K:PySem.W.Frag} {H:Hp} {a:Addr} {ns:List Int} (h:wS K H a ns):cW K H a (ns.map V.int):=by
 rcases h with ⟨o,h⟩ | h
 ·exact .inl (.inr ⟨o,h⟩)
 ·exact .inr h
structure aI (H H1:Hp):Prop where
 tup:∀a xs,H a=some (.tup xs)->H1 a=some (.tup xs)
 frz:∀a o xs,H a=some (.frz o (.lst xs))->H1 a=some (.frz o (.lst xs))
theorem aI.refl (H:Hp):aI H H:=⟨λ_ _ h=>h,λ_ _ _ h=>h⟩
theorem aI.trans {H H1 H2:Hp} (a:aI H H1) (b:aI H1 H2):aI H H2:=
 ⟨λx xs h=>b.tup x xs (a.tup x xs h),λx o u h=>b.frz x o u (a.frz x o u h)⟩
theorem aI.new {H:Hp} {p:Addr} (hp:H p=none) (o:HO):aI H (upd H p o):=
 ⟨λ_ _ h=>by rw [ax (bf h hp)];exact h,λ_ _ _ h=>by rw [ax (bf h hp)];exact h⟩
theorem aI.lst {H:Hp} {p:Addr} {xs:List V} (hp:H p=some (.lst xs)) (o:HO):aI H (upd H p o):=
 ⟨λ_ _ h=>by rw [ax (fw h hp (by intro z;cases z))];exact h,λ_ _ _ h=>by rw [ax (fw h hp (by intro z;cases z))];exact h⟩
mutual
inductive bI (K:PySem.W.Frag) (H:Hp):W->V->Prop where
 | non:bI K H .non .non
 | bl (b:Bool):bI K H (.bl b) (.bl b)
 | int (i:Int):bI K H (.int i) (.int i)
 | str (x:Str):bI K H (.str x) (.str x)
 | ref (a:Addr):bI K H (.ref a) (.ref a)
 | tup {a:Addr} {ws:List W} {xs:List V} (h:H a=some (.tup xs)) (r:aJ K H ws xs):bI K H (.tup ws) (.ref a)
 | scr {a:Addr} {ns:List Int} (h:wS K H a ns):bI K H (.scr ns) (.ref a)
inductive aJ (K:PySem.W.Frag) (H:Hp):List W->List V->Prop where
 | nil:aJ K H [] []
 | cons {w:W} {v:V} {ws:List W} {vs:List V} (r:bI K H w v) (rs:aJ K H ws vs):aJ K H (w::ws) (v::vs)
end
section
variable {K:PySem.W.Frag} {H H1:Hp}
theorem wS.mono {a:Addr} {ns:List Int} (t:aI H H1) (h:wS K H a ns):wS K H1 a ns:=by
 rcases h with ⟨o,h⟩ | h
 ·exact .inl ⟨o,t.frz _ _ _ h⟩
 ·exact .inr h
mutual
theorem bI.mono (t:aI H H1):∀{w:W} {v:V},bI K H w v->bI K H1 w v
 | _,_,.non=> .non
 | _,_,.bl b=> .bl b
 | _,_,.int i=> .int i
 | _,_,.str x=> .str x
 | _,_,.ref a=> .ref a
 | _,_,.tup h r=> .tup (t.tup _ _ h) (aJ.mono t r)
 | _,_,.scr h=> .scr (h.mono t)
theorem aJ.mono (t:aI H H1):∀{ws:List W} {vs:List V},aJ K H ws vs->aJ K H1 ws vs
 | _,_,.nil=> .nil
 | _,_,.cons r rs=> .cons (bI.mono t r) (aJ.mono t rs)
end
theorem aJ.length:∀{ws:List W} {vs:List V},aJ K H ws vs->ws.length=vs.length
 | _,_,.nil=>rfl
 | _,_,.cons _ rs=>congrArg (·+1) rs.length
theorem aJ.append:∀{ws us:List W} {vs xs:List V},aJ K H ws vs->aJ K H us xs->aJ K H (ws++us) (vs++xs)
 | _,_,_,_,.nil,s=>s
 | _,_,_,_,.cons r rs,s=> .cons r (rs.append s)
theorem aJ.take:∀{ws:List W} {vs:List V} (n:Nat),aJ K H ws vs->aJ K H (ws.take n) (vs.take n)
 | _,_,0,_=> .nil
 | _,_,_+1,.nil=> .nil
 | _,_,n+1,.cons r rs=> .cons r (rs.take n)
theorem aJ.drop:∀{ws:List W} {vs:List V} (n:Nat),aJ K H ws vs->aJ K H (ws.drop n) (vs.drop n)
 | _,_,0,r=>r
 | _,_,_+1,.nil=> .nil
 | _,_,n+1,.cons _ rs=>rs.drop n
theorem aJ.get:∀{ws:List W} {vs:List V} {i:Nat} {w:W},aJ K H ws vs->ws[i]?=some w->∃v,vs[i]?=some v/\bI K H w v
 | _,_,_,_,.nil,e=>by simp at e
 | _,_,0,_,.cons r _,e=>by simp at e;subst e;exact ⟨_,rfl,r⟩
 | _,_,i+1,w,.cons _ rs,e=>by
   obtain ⟨v,h1,h2⟩:=aJ.get (i:=i) (w:=w) rs (by simpa using e);exact ⟨v,by simpa using h1,h2⟩
theorem aJ.ints:∀ns:List Int,aJ K H (ns.map W.int) (ns.map V.int)
 | []=> .nil
 | n::ns=> .cons (.int n) (aJ.ints ns)
end
noncomputable abbrev bmV:List Value:=[.type "ValueError",.type "Exception",.type "BaseException",.type "object"]
structure XC (K:PySem.W.Frag) (C:Addr) (bm:List Value):Prop where
 obj:∀h:Heap,K.In h->∃N nm qn bs hdct sn sub ab col dd k0 k1 k2 k3 k5 mN,h.get? C=some (excClassObj nm qn C N bs bm hdct sn sub ab col dd k0 k1 k2 k3 k5 "ValueError.__new__")/\h.Ns N mN/\mN "__init__"=none/\OwnTail h bmV bm
 mro:∀v,mroIn K C v=some ((Value.ref C::bm).contains v)
structure XQ (K:PySem.W.Frag) (C:Addr):Prop where
 ga:findIn K (.ref C) "__getattribute__"=some (some (.builtin "BaseException.__getattribute__"))
 gx:findIn K (.ref C) "__getattr__"=some none
 gc:findIn K (.ref C) "__class__"=some (some (.builtin "object.__class__"))
structure XD (K:PySem.W.Frag) (D:Addr):Prop where
 cls:∃cd,clsIn K D=some cd
 ty:typeIn K (.ref D)=some (.type "type")
 ins:instIn K (.ref D) (.type "type")=some true
structure XO (K:PySem.W.Frag) (C:Addr):Prop where
 c:∃bm,XC K C bm
 q:XQ K C
 d:XD K C
noncomputable def wT (K:PySem.W.Frag) (H:Hp) (a:Addr):GO->Prop
 | .lst ws=>ws.length<=100000/\∃xs,H a=some (.lst xs)/\aJ K H ws xs
 | .dct=>H a=some (.dK [])
 | .exc C=>XO K C/\H a=some (.ext λh=>∃o,h.get? a=some o/\o.cls=.ref C)
 | .dic kvs=>kvs.length<=100000/\∃kvs',H a=some (.dK kvs')/\kvs'.map (·.1)=kvs.map (·.1)/\aJ K H (kvs.map (·.2)) (kvs'.map (·.2))
 | .fdc o us kvs=>kvs.length<=100000/\H a=some (.frz o (.dK us))/\us.map (·.1)=kvs.map (·.1)/\aJ K H (kvs.map (·.2)) (us.map (·.2))
 | .ins C fs=>fs.length<=100/\∃dx fs',H a=some (.ins C dx fs')/\fs'.map (·.1)=fs.map (·.1)/\aJ K H (fs.map (·.2)) (fs'.map (·.2))
 | .tbl ps=>H a=some (.tbl ps)
 | .any P=>P H a/\(∃o,H a=some o)/\∀H1 H2:Hp,aI H1 H2->H2 a=H1 a->P H1 a->P H2 a
noncomputable def aH (K:PySem.W.Frag) (H:Hp) (G:Gp):Prop:=∀a g,G a=some g->wT K H a g
section
variable {K:PySem.W.Frag} {H H1:Hp} {G:Gp} {p a:Addr} {g:GO}
theorem wT.has (h:wT K H a g):∃o,H a=some o:=by
 cases g with
 | lst ws=>obtain ⟨_,_,e,_⟩:=h;exact ⟨_,e⟩
 | dct=>exact ⟨_,h⟩
 | exc C=>exact ⟨_,h.2⟩
 | dic kvs=>obtain ⟨_,_,e,_⟩:=h;exact ⟨_,e⟩
 | fdc o us kvs=>obtain ⟨_,e,_⟩:=h;exact ⟨_,e⟩
 | ins C fs=>obtain ⟨_,_,_,e,_⟩:=h;exact ⟨_,e⟩
 | tbl ps=>exact ⟨_,h⟩
 | any P=>exact h.2.1
theorem wT.mono (t:aI H H1) (e:H1 a=H a) (h:wT K H a g):wT K H1 a g:=by
 cases g with
 | lst ws=>obtain ⟨l,xs,e1,r⟩:=h;exact ⟨l,xs,e.trans e1,r.mono t⟩
 | dct=>exact e.trans h
 | exc C=>exact ⟨h.1,e.trans h.2⟩
 | dic kvs=>obtain ⟨l,xs,e1,n,r⟩:=h;exact ⟨l,xs,e.trans e1,n,r.mono t⟩
 | fdc o us kvs=>obtain ⟨l,e1,n,r⟩:=h;exact ⟨l,e.trans e1,n,r.mono t⟩
 | ins C fs=>obtain ⟨l,dx,xs,e1,n,r⟩:=h;exact ⟨l,dx,xs,e.trans e1,n,r.mono t⟩
 | tbl ps=>exact e.trans h
 | any P=>exact ⟨h.2.2 _ _ t e h.1,(let ⟨o,e1⟩:=h.2.1;⟨o,e.trans e1⟩),h.2.2⟩
theorem aH.fresh (h:aH K H G) (hp:H p=none):G p=none:=by
 cases e:G p with
 | none=>rfl
 | some g=>
   obtain ⟨o,e1⟩:=(h p _ e).has;rw [hp] at e1;cases e1
theorem aH.upd (h:aH K H G) (t:aI H (upd H p o)) (hG:G p=none):aH K (L2.upd H p o) G:=λa g e=>by
 have hne:a≠p:=λz=>by rw [z,hG] at e;cases e
 exact (h a g e).mono t (ax hne)
theorem aH.keep (h:aH K H G) (hp:H p=none) (o:HO):aH K (L2.upd H p o) G:=h.upd (aI.new hp o) (h.fresh hp)
theorem aH.lay (h:aH K H G) {o:HO} (t:aI H (L2.upd H p o)) (n:wT K (L2.upd H p o) p g):aH K (L2.upd H p o) (aG G p g):=λa g' e=>by
 by_cases hb:a=p
 ·subst hb;rw [ak] at e;cases e;exact n
 ·rw [aq hb] at e;exact (h a g' e).mono t (ax hb)
theorem aH.put (h:aH K H G) {xs:List V} {ws:List W} (t:aI H (L2.upd H p (.lst xs))) (r:aJ K H ws xs) (hl:ws.length<=100000):aH K (L2.upd H p (.lst xs)) (aG G p (.lst ws)):=h.lay t ⟨hl,xs,aP,r.mono t⟩
noncomputable def aL (G0 G:Gp):Prop:=∀a g,G0 a=some g->G a=some g
theorem aH.le {G0:Gp} (h:aH K H G) (l:aL G0 G):aH K H G0:=λa g e=>h a g (l a g e)
theorem aL.refl (G:Gp):aL G G:=λ_ _ h=>h
theorem aL.trans {G0 G1 G2:Gp} (a:aL G0 G1) (b:aL G1 G2):aL G0 G2:=λx g h=>b x g (a x g h)
theorem aL.new {g:GO} (hp:G p=none):aL G (aG G p g):=λa u e=>by
 rw [aq (λz=>by rw [z,hp] at e;cases e)];exact e
end
noncomputable abbrev dC:=List (Option W)
noncomputable def bg (K:PySem.W.Frag) (H:Hp) (τ:dC) (σ:St):Prop:=τ.length=σ.length/\∀(i:Nat) (w:W),τ[i]?=some (some w)->∃v,σ[i]?=some (some v)/\bI K H w v
section
variable {K:PySem.W.Frag} {H H1:Hp} {τ:dC} {σ:St}
theorem bg.mono (t:aI H H1) (h:bg K H τ σ):bg K H1 τ σ:=⟨h.1,λi w e=>let ⟨v,e1,r⟩:=h.2 i w e;⟨v,e1,r.mono t⟩⟩
theorem bg.set (h:bg K H τ σ) {w:W} {v:V} (r:bI K H w v) (i:Nat):bg K H (τ.set i (some w)) (σ.set i (some v)):=by
 refine ⟨by simpa using h.1,λj u e=>?_⟩
 by_cases hj:i=j
 ·subst hj
  by_cases hl:i<τ.length
  ·rw [List.getElem?_set_self hl] at e;cases e;exact ⟨v,List.getElem?_set_self (by rw [←h.1];exact hl),r⟩
  ·rw [List.getElem?_eq_none (by simpa using hl)] at e;cases e
 ·rw [List.getElem?_set_ne hj] at e;obtain ⟨u',e1,r1⟩:=h.2 j u e;exact ⟨u',by rw [List.getElem?_set_ne hj];exact e1,r1⟩
theorem bg.start {N:List Str} {ws:List W} {vs:List V} (r:aJ K H ws vs):bg K H (ws.map some++List.replicate (N.length-ws.length) none) (L2.start N vs):=by
 unfold L2.start;refine ⟨by simp [r.length],λi w e=>?_⟩
 by_cases hi:i<ws.length
 ·rw [List.getElem?_append_left (by simpa using hi),List.getElem?_map] at e;cases e1:ws[i]? with
  | none=>rw [e1] at e;cases e
  | some u=>
    rw [e1] at e;cases e;obtain ⟨v,e2,rv⟩:=r.get e1;refine ⟨v,?_,rv⟩;rw [List.getElem?_append_left (by simpa [←r.length] using hi),List.getElem?_map,e2]
    rfl
 ·rw [List.getElem?_append_right (by simpa using hi),List.getElem?_replicate] at e;split at e<;> cases e
end
noncomputable abbrev WK:=W->Gp->Prop
noncomputable abbrev WE:=dC->Gp->WK->Prop
noncomputable abbrev WT:=dC->Gp->(Bool->Gp->Prop)->Prop
noncomputable abbrev WA:=dC->Gp->(List W->Gp->Prop)->Prop
structure eW where
 nx:dC->Gp->Prop
 rt:WK
 bk:dC->Gp->Prop:=λ_ _=>False
 ct:dC->Gp->Prop:=λ_ _=>False
noncomputable abbrev WS:=eW->dC->Gp->Prop
noncomputable abbrev WG:=W->dC->Gp->(dC->Gp->Prop)->Prop
noncomputable abbrev wU:=List W->dC->Gp->(dC->Gp->Prop)->Prop
noncomputable def jw (K:PySem.W.Frag) (t:WE):TE:=λσ H Q=>∃τ G q,bg K H τ σ/\aH K H G/\t τ G q/\∀v H1 w G1,aI H H1->bI K H1 w v->aH K H1 G1->q w G1->Q v H1
noncomputable def yv (K:PySem.W.Frag) (t:WT):TT:=λσ H Q=>∃τ G q,bg K H τ σ/\aH K H G/\t τ G q/\∀b H1 G1,aI H H1->aH K H1 G1->q b G1->Q b H1
noncomputable def LA (K:PySem.W.Frag) (t:WA):TA:=λσ H Q=>∃τ G q,bg K H τ σ/\aH K H G/\t τ G q/\∀vs H1 ws G1,aI H H1->aJ K H1 ws vs->aH K H1 G1->q ws G1->Q vs H1
structure lH (K:PySem.W.Frag) (H:Hp) (d:eW) (D:ft):Prop where
 nx:∀σ1 H1 τ1 G1,aI H H1->bg K H1 τ1 σ1->aH K H1 G1->d.nx τ1 G1->D.nx σ1 H1
 rt:∀v H1 w G1,aI H H1->bI K H1 w v->aH K H1 G1->d.rt w G1->D.rt v H1
 bk:∀σ1 H1 τ1 G1,aI H H1->bg K H1 τ1 σ1->aH K H1 G1->d.bk τ1 G1->D.bk σ1 H1
 ct:∀σ1 H1 τ1 G1,aI H H1->bg K H1 τ1 σ1->aH K H1 G1->d.ct τ1 G1->D.ct σ1 H1
noncomputable def LS (K:PySem.W.Frag) (t:WS):TS:=λD σ H=>∃τ G d,bg K H τ σ/\aH K H G/\t d τ G/\lH K H d D
theorem jw.el {K:PySem.W.Frag} {t:WE} {σ:St} {H:Hp} {Q:VK} {P:Prop} (h:jw K t σ H Q) (k:∀(τ:dC) (G:Gp) (q:WK),bg K H τ σ->aH K H G->t τ G q->(∀v H1 w G1,aI H H1->bI K H1 w v->aH K H1 G1->q w G1->Q v H1)->P):P:=by
 obtain ⟨τ,G,q,a,b,c,d⟩:=h;exact k τ G q a b c d
theorem yv.el {K:PySem.W.Frag} {t:WT} {σ:St} {H:Hp} {Q:Bool->Hp->Prop} {P:Prop} (h:yv K t σ H Q) (k:∀(τ:dC) (G:Gp) (q:Bool->Gp->Prop),bg K H τ σ->aH K H G->t τ G q->(∀b H1 G1,aI H H1->aH K H1 G1->q b G1->Q b H1)->P):P:=by
 obtain ⟨τ,G,q,a,b,c,d⟩:=h;exact k τ G q a b c d
theorem LA.el {K:PySem.W.Frag} {t:WA} {σ:St} {H:Hp} {Q:List V->Hp->Prop} {P:Prop} (h:LA K t σ H Q) (k:∀(τ:dC) (G:Gp) (q:List W->Gp->Prop),bg K H τ σ->aH K H G->t τ G q->(∀vs H1 ws G1,aI H H1->aJ K H1 ws vs->aH K H1 G1->q ws G1->Q vs H1)->P):P:=by
 obtain ⟨τ,G,q,a,b,c,d⟩:=h;exact k τ G q a b c d
theorem LS.el {K:PySem.W.Frag} {t:WS} {D:ft} {σ:St} {H:Hp} {P:Prop} (h:LS K t D σ H) (k:∀(τ:dC) (G:Gp) (d:eW),bg K H τ σ->aH K H G->t d τ G->lH K H d D->P):P:=by
 obtain ⟨τ,G,q,a,b,c,d⟩:=h;exact k τ G q a b c d
noncomputable def LG (K:PySem.W.Frag) (t:WG):TG:=λv σ H Q=>∃w τ G q,bI K H w v/\bg K H τ σ/\aH K H G/\t w τ G q/\∀σ1 H1 τ1 G1,aI H H1->bg K H1 τ1 σ1->aH K H1 G1->q τ1 G1->Q σ1 H1
noncomputable def D9 (K:PySem.W.Frag) (t:wU):uN:=λvs σ H Q=>∃ws τ G q,aJ K H ws vs/\bg K H τ σ/\aH K H G/\t ws τ G q/\∀σ1 H1 τ1 G1,aI H H1->bg K H1 τ1 σ1->aH K H1 G1->q τ1 G1->Q σ1 H1
noncomputable def QE (X:Cx) (e:Expr) (t:WE):Prop:=PE X e (jw X.K t)
noncomputable def QT (X:Cx) (e:Expr) (t:WT):Prop:=PT X e (yv X.K t)
noncomputable def QW (X:Cx) (e:Expr) (t:WT):Prop:=PW X e (yv X.K t)
noncomputable def QA (X:Cx) (es:List Expr) (t:WA):Prop:=PA X es (LA X.K t)
noncomputable def QS (X:Cx) (st:Stmt) (t:WS):Prop:=PS X st (LS X.K t)
noncomputable def mX (X:Cx) (st:List Stmt) (t:WS):Prop:=lr X st (LS X.K t)
noncomputable def QG (X:Cx) (e:Expr) (t:WG):Prop:=PG X e (LG X.K t)
noncomputable def Ar (X:Cx) (es:List Expr) (t:wU):Prop:=wN X es (D9 X.K t)
section
variable {X:Cx}
theorem PE.imp {e:Expr} {t t':TE} (h:PE X e t) (f:∀σ H Q,t' σ H Q->t σ H Q):PE X e t':=λpins s σ H Q I q=>h pins s σ H Q I (f _ _ _ q)
theorem PT.imp {e:Expr} {t t':TT} (h:PT X e t) (f:∀σ H Q,t' σ H Q->t σ H Q):PT X e t':=λpins s σ H Q I q=>h pins s σ H Q I (f _ _ _ q)
theorem PW.imp {e:Expr} {t t':TT} (h:PW X e t) (f:∀σ H Q,t' σ H Q->t σ H Q):PW X e t':=λwh pins s σ H Q I q=>h wh pins s σ H Q I (f _ _ _ q)
theorem PA.imp {e:List Expr} {t t':TA} (h:PA X e t) (f:∀σ H Q,t' σ H Q->t σ H Q):PA X e t':=λpos pins s σ H Q I q=>h pos pins s σ H Q I (f _ _ _ q)
theorem PS.imp {e:Stmt} {t t':TS} (h:PS X e t) (f:∀D σ H,t' D σ H->t D σ H):PS X e t':=λpins s σ H D I q=>h pins s σ H D I (f _ _ _ q)
theorem lr.imp {e:List Stmt} {t t':TS} (h:lr X e t) (f:∀D σ H,t' D σ H->t D σ H):lr X e t':=λpins s σ H D I q=>h pins s σ H D I (f _ _ _ q)
theorem PG.imp {e:Expr} {t t':TG} (h:PG X e t) (f:∀v σ H Q,t' v σ H Q->t v σ H Q):PG X e t':=λpins s σ H v u Q I r q=>h pins s σ H v u Q I r (f _ _ _ _ q)
theorem wN.imp {e:List Expr} {t t':uN} (h:wN X e t) (f:∀v σ H Q,t' v σ H Q->t v σ H Q):wN X e t':=λpins s σ H v u Q I r q=>h pins s σ H v u Q I r (f _ _ _ _ q)
noncomputable def jx (i:Nat):WE:=λτ G q=>match τ[i]? with | some (some w)=>q w G | _=>False
noncomputable def wC (w:W):WE:=λ_ G q=>q w G
theorem aa (i:Nat) {x:Str} {pos:Pos} (hN:X.N[i]?=some x) (hv:wL X.env.scope x) (hd:(x==("__debug__":Str))=false:=by decide) (hcd:(x==("__classdict__":Str))=false:=by decide):QE X (.Name x pos) (jx i):=by
 refine (iJ hN hv hd hcd).imp λσ H Q z0=>z0.el λτ G q hs hg ht hQ=>?_;unfold jx at ht;split at ht
 ·rename_i w e;obtain ⟨v,e1,r⟩:=hs.2 i w e;exact ⟨v,e1,hQ v H w G (aI.refl H) r hg ht⟩
 ·exact ht.elim
theorem fS {e:Expr} {v:V} {w:W} (h:PE X e (tC v)) (r:∀H,bI X.K H w v):QE X e (wC w):=
 h.imp λσ H Q z0=>z0.el λτ G q hs hg ht hQ=>hQ v H w G (aI.refl H) (r H) hg ht
theorem ao {i j pos}:QE X (.Constant (.int i) j pos) (wC (.int i)):=fS xN λ_=> .int i
theorem oW {b j pos}:QE X (.Constant (.bool b) j pos) (wC (.bl b)):=fS wM λ_=> .bl b
theorem cN {x j pos}:QE X (.Constant (.str x) j pos) (wC (.str x)):=fS mY λ_=> .str x
noncomputable abbrev W2:=W->W->Gp->WK->Prop
noncomputable def LR (K:PySem.W.Frag) (r:W2):R2:=λx y H Q=>∃wx wy G q,bI K H wx x/\bI K H wy y/\aH K H G/\r wx wy G q/\∀v H1 w G1,aI H H1->bI K H1 w v->aH K H1 G1->q w G1->Q v H1
noncomputable def ic (X:Cx) (f:Value->Value->Sem Value) (r:W2):Prop:=ir X f (LR X.K r)
noncomputable def yw (X:Cx) (r:W2):Prop:=Am X (LR X.K r)
noncomputable def wV (r:W2) (ta tb:WE):WE:=λτ G q=>ta τ G λx G1=>tb τ G1 λy G2=>r x y G2 q
theorem jw.op {K:PySem.W.Frag} {r:W2} {ta tb:WE} {σ:St} {H:Hp} {Q:VK} (h:jw K (wV r ta tb) σ H Q):Aa (LR K r) (jw K ta) (jw K tb) σ H Q:=by
 obtain ⟨τ,G,q,hs,hg,ht,hQ⟩:=h;refine ⟨τ,G,_,hs,hg,ht,λv H1 w G1 t1 r1 g1 q1=>?_⟩;refine ⟨τ,G1,_,hs.mono t1,g1,q1,λv2 H2 w2 G2 t2 r2 g2 q2=>?_⟩;exact ⟨w,w2,G2,q,r1.mono t2,r2,g2,q2,λv3 H3 w3 G3 t3 r3 g3 q3=>hQ v3 H3 w3 G3 ((t1.trans t2).trans t3) r3 g3 q3⟩
theorem aR {op:Operator} {r:W2} {a b:Expr} {ta tb:WE} {pos:Pos} (ho:ic X (binaryOp op) r) (ha:QE X a ta) (hb:QE X b tb):QE X (.BinOp a op b pos) (wV r ta tb):=
 (Ab ho ha hb).imp λ_ _ _ h=>h.op
theorem nB {op:CmpOp} {r:W2} {a b:Expr} {ta tb:WE} {pos:Pos} (ho:ic X (compareOp op) r) (ha:QE X a ta) (hb:QE X b tb) (hm:behindInMarks op b=false):QE X (.Compare a [op] [b] pos) (wV r ta tb):=
 (uS ho ha hb hm).imp λ_ _ _ h=>h.op
theorem bM {r:W2} {a b:Expr} {ta tb:WE} {pos:Pos} (ho:yw X r) (ha:QE X a ta) (hb:QE X b tb) (hs:oR b):QE X (.Subscript a b pos) (wV r ta tb):=
 (Ao ho ha hb hs).imp λ_ _ _ h=>h.op
noncomputable def oX (t:WE):WT:=λτ G q=>t τ G λx G1=>match x with | .bl b=>q b G1 | _=>False
theorem yv.test {K:PySem.W.Frag} {t:WE} {σ:St} {H:Hp} {Q:Bool->Hp->Prop} (h:yv K (oX t) σ H Q):wP (jw K t) σ H Q:=by
 obtain ⟨τ,G,q,hs,hg,ht,hQ⟩:=h;refine ⟨τ,G,_,hs,hg,ht,λv H1 w G1 t1 r1 g1 q1=>?_⟩;split at q1
 ·rename_i b;cases r1;exact ⟨b,rfl,hQ b H1 G1 t1 g1 q1⟩
 ·exact q1.elim
theorem bo {op:CmpOp} {r:W2} {a b:Expr} {ta tb:WE} {pos:Pos} (ho:ic X (compareOp op) r) (ha:QE X a ta) (hb:QE X b tb) (hm:behindInMarks op b=false):QT X (.Compare a [op] [b] pos) (oX (wV r ta tb)):=
 (uT ho ha hb hm).imp λσ H Q h=>by
   obtain ⟨τ,G,q,hs,hg,ht,hQ⟩:=h.test;exact jw.op ⟨τ,G,q,hs,hg,ht,hQ⟩
theorem nC {e:Expr} {t:WE} (h:QE X e t) (he:∀whole,isTrue e X.env whole=(do let v ←whole;standAt e.pos;holding [v] (truthy v)):=by intro _;rfl):QT X e (oX t):=
 (xO h he).imp λσ H Q h=>h.test
noncomputable def As (t u:WT):WT:=λτ G q=>t τ G λc G1=>if c=true then u τ G1 q else q false G1
noncomputable def DJ (t u:WT):WT:=λτ G q=>t τ G λc G1=>if c=true then q true G1 else u τ G1 q
noncomputable def At (t:WT):WT:=λτ G q=>t τ G λc G1=>q (!c) G1
theorem iy {a:Expr} {t:WT} {pos:Pos} (ha:QT X a t):QW X (.BoolOp .And [a] pos) t:=uK ha
theorem rR {a:Expr} {t:WT} {pos:Pos} (ha:QT X a t):QW X (.BoolOp .Or [a] pos) t:=xP ha
theorem kC {a b:Expr} {bK:List Expr} {t u:WT} {pos:Pos} (ha:QT X a t) (hb:QW X (.BoolOp .And (b::bK) pos) u):QW X (.BoolOp .And (a::b::bK) pos) (As t u):=
 (xQ ha hb).imp λσ H Q z0=>z0.el λτ G q hs hg ht hQ=>⟨τ,G,_,hs,hg,ht,λc H1 G1 t1 g1 q1=>by
   cases c with
   | true=>rw [if_pos rfl] at q1 ⊢;exact ⟨τ,G1,q,hs.mono t1,g1,q1,λb H2 G2 t2 g2 q2=>hQ b H2 G2 (t1.trans t2) g2 q2⟩
   | false=>rw [if_neg Bool.false_ne_true] at q1 ⊢;exact hQ false H1 G1 t1 g1 q1⟩
theorem wW {a b:Expr} {bK:List Expr} {t u:WT} {pos:Pos} (ha:QT X a t) (hb:QW X (.BoolOp .Or (b::bK) pos) u):QW X (.BoolOp .Or (a::b::bK) pos) (DJ t u):=
 (zT ha hb).imp λσ H Q z0=>z0.el λτ G q hs hg ht hQ=>⟨τ,G,_,hs,hg,ht,λc H1 G1 t1 g1 q1=>by
   cases c with
   | true=>rw [if_pos rfl] at q1 ⊢;exact hQ true H1 G1 t1 g1 q1
   | false=>rw [if_neg Bool.false_ne_true] at q1 ⊢;exact ⟨τ,G1,q,hs.mono t1,g1,q1,λb H2 G2 t2 g2 q2=>hQ b H2 G2 (t1.trans t2) g2 q2⟩⟩
theorem qB {e:Expr} {t:WT} (h:QW X e t):QT X e t:=PW.pt h
theorem rS {a:Expr} {t:WT} {pos:Pos} (ha:QT X a t):QT X (.UnaryOp .Not a pos) (At t):=
 (xR ha).imp λσ H Q z0=>z0.el λτ G q hs hg ht hQ=>⟨τ,G,_,hs,hg,ht,λc H1 G1 t1 g1 q1=>hQ (!c) H1 G1 t1 g1 q1⟩
noncomputable def wX (ta tb:WE):WE:=λτ G q=>ta τ G λx G1=>match x with | .bl c=>if c=true then tb τ G1 q else q (.bl false) G1 | _=>False
noncomputable def wY (ta:WE):WE:=λτ G q=>ta τ G λx G1=>match x with | .bl c=>q (.bl (!c)) G1 | _=>False
theorem kD {a:Expr} {op} {t:WE} {pos:Pos} (h:QE X a t):QE X (.BoolOp op [a] pos) t:=xS h
theorem gG {a b:Expr} {bK:List Expr} {ta tb:WE} {pos:Pos} (ha:QE X a ta) (hb:QE X (.BoolOp .And (b::bK) pos) tb):QE X (.BoolOp .And (a::b::bK) pos) (wX ta tb):=
 (xT ha hb).imp λσ H Q z0=>z0.el λτ G q hs hg ht hQ=>⟨τ,G,_,hs,hg,ht,λv H1 w G1 t1 r1 g1 q1=>by
   split at q1
   ·rename_i c;cases r1;refine ⟨c,rfl,?_⟩;cases c with
    | true=>rw [if_pos rfl] at q1 ⊢;exact ⟨τ,G1,q,hs.mono t1,g1,q1,λv2 H2 w2 G2 t2 r2 g2 q2=>hQ v2 H2 w2 G2 (t1.trans t2) r2 g2 q2⟩
    | false=>rw [if_neg Bool.false_ne_true] at q1 ⊢;exact hQ _ H1 _ G1 t1 (.bl false) g1 q1
   ·exact q1.elim⟩
theorem rT {a:Expr} {ta:WE} {pos:Pos} (ha:QE X a ta):QE X (.UnaryOp .Not a pos) (wY ta):=
 (xU ha).imp λσ H Q z0=>z0.el λτ G q hs hg ht hQ=>⟨τ,G,_,hs,hg,ht,λv H1 w G1 t1 r1 g1 q1=>by
   split at q1
   ·rename_i c;cases r1;exact ⟨c,rfl,hQ _ H1 _ G1 t1 (.bl _) g1 q1⟩
   ·exact q1.elim⟩
noncomputable def Au (c:WT) (ta tb:WE):WE:=λτ G q=>c τ G λb G1=>if b=true then ta τ G1 q else tb τ G1 q
theorem iR {c a b:Expr} {tc:WT} {ta tb:WE} {pos:Pos} (hc:QT X c tc) (ha:QE X a ta) (hb:QE X b tb):QE X (.IfExp c a b pos) (Au tc ta tb):=
 (rm hc ha hb).imp λσ H Q z0=>z0.el λτ G q hs hg ht hQ=>⟨τ,G,_,hs,hg,ht,λc H1 G1 t1 g1 q1=>by
   cases c with
   | true=>rw [if_pos rfl] at q1 ⊢;exact ⟨τ,G1,q,hs.mono t1,g1,q1,λv2 H2 w2 G2 t2 r2 g2 q2=>hQ v2 H2 w2 G2 (t1.trans t2) r2 g2 q2⟩
   | false=>rw [if_neg Bool.false_ne_true] at q1 ⊢;exact ⟨τ,G1,q,hs.mono t1,g1,q1,λv2 H2 w2 G2 t2 r2 g2 q2=>hQ v2 H2 w2 G2 (t1.trans t2) r2 g2 q2⟩⟩
noncomputable def iS:WA:=λ_ G q=>q [] G
noncomputable def cU (ta:WE) (tr:WA):WA:=λτ G q=>ta τ G λx G1=>tr τ G1 λxs G2=>q (x::xs) G2
theorem am:QA X [] iS:=pa_nil.imp λσ H Q z0=>z0.el λτ G q hs hg ht hQ=>hQ [] H [] G (aI.refl H) .nil hg ht
theorem ae {e:Expr} {es:List Expr} {te:WE} {t:WA} (ha:QE X e te) (hr:QA X es t) (hs:starEach (e::es) X.env=(false,eval e X.env)::starEach es X.env:=by rfl):QA X (e::es) (cU te t):=
 (bL ha hr hs).imp λσ H Q z0=>z0.el λτ G q hs hg ht hQ=>⟨τ,G,_,hs,hg,ht,λv H1 w G1 t1 r1 g1 q1=>
   ⟨τ,G1,_,hs.mono t1,g1,q1,λvs H2 ws G2 t2 r2 g2 q2=>hQ (v::vs) H2 (w::ws) G2 (t1.trans t2) (.cons (r1.mono t2) r2) g2 q2⟩⟩
theorem bJ {n:Nat} (h:n<=100000):n<=sizeLine:=by rw [sizeLine_eq];omega
noncomputable def u5 (t:WA):WE:=λτ G q=>t τ G λws G1=>ws.length<=100000/\q (.tup ws) G1
noncomputable def Av (t:WA):WE:=λτ G q=>t τ G λws G1=>ws.length<=100000/\∀p,G1 p=none->q (.ref p) (aG G1 p (.lst ws))
theorem bv {es:List Expr} {x1} {t:WA} {pos:Pos} (h:QA X es t):QE X (.Tuple es x1 pos) (u5 t):=
 (yj h).imp λσ H Q z0=>z0.el λτ G q hs hg ht hQ=>⟨τ,G,_,hs,hg,ht,λvs H1 ws G1 t1 r1 g1 q1=>
   ⟨by rw [←r1.length];exact bJ q1.1,λp hp=>hQ _ _ _ G1 (t1.trans (aI.new hp _)) (.tup aP (r1.mono (aI.new hp _))) (g1.keep hp _) q1.2⟩⟩
theorem cm {es:List Expr} {t:WA} {pos:Pos} (h:QA X es t):QE X (.List es pos) (Av t):=
 (yk h).imp λσ H Q z0=>z0.el λτ G q hs hg ht hQ=>⟨τ,G,_,hs,hg,ht,λvs H1 ws G1 t1 r1 g1 q1=>
   ⟨by rw [←r1.length];exact bJ q1.1,λp hp=>hQ _ _ _ _ (t1.trans (aI.new hp _)) (.ref p) (g1.put (aI.new hp _) r1 q1.1) (q1.2 p (g1.fresh hp))⟩⟩
noncomputable def wZ:WS:=λd τ G=>d.nx τ G
noncomputable def yx (t u:WS):WS:=λd τ G=>t { d with nx:=u d } τ G
theorem lH.mono {K:PySem.W.Frag} {H H1:Hp} {d:eW} {D:ft} (l:lH K H d D) (t:aI H H1):lH K H1 d D:=
 ⟨λσ2 H2 τ2 G2 t2=>l.nx σ2 H2 τ2 G2 (t.trans t2),λv H2 w G2 t2=>l.rt v H2 w G2 (t.trans t2),λσ2 H2 τ2 G2 t2=>l.bk σ2 H2 τ2 G2 (t.trans t2),λσ2 H2 τ2 G2 t2=>l.ct σ2 H2 τ2 G2 (t.trans t2)⟩
theorem ap:mX X [] wZ:=pss_nil.imp λD σ H z0=>z0.el λτ G d hs hg ht l=>l.nx σ H τ G (aI.refl H) hs hg ht
theorem af {st:Stmt} {bK:List Stmt} {t u:WS} (h1:QS X st t) (h2:mX X bK u):mX X (st::bK) (yx t u):=
 (rz h1 h2).imp λD σ H z0=>z0.el λτ G d hs hg ht l=>⟨τ,G,_,hs,hg,ht,⟨λσ1 H1 τ1 G1 t1 s1 g1 q1=>⟨τ1,G1,d,s1,g1,q1,l.mono t1⟩,l.rt,l.bk,l.ct⟩⟩
theorem cH {st:Stmt} {t:WS} (h1:QS X st t):mX X [st] t:=uL h1
noncomputable def w9 (te:WE):WS:=λd τ G=>te τ G λ_ G1=>d.nx τ G1
theorem cS {e:Expr} {te:WE} {pos:Pos} (he:QE X e te) (hs:swapsWith e none pos.line X.env=pure false:=by rfl):QS X (.Expr e pos) (w9 te):=
 (uM he hs).imp λD σ H z0=>z0.el λτ G d hs hg ht l=>⟨τ,G,_,hs,hg,ht,λv H1 w G1 t1 r1 g1 q1=>l.nx σ H1 τ G1 t1 (hs.mono t1) g1 q1⟩
noncomputable def Aw (te:WE):WS:=λd τ G=>te τ G d.rt
theorem aK {e:Expr} {te:WE} {pos:Pos} (he:QE X e te):QS X (.Return (some e) pos) (Aw te):=
 (xV he).imp λD σ H z0=>z0.el λτ G d hs hg ht l=>⟨τ,G,_,hs,hg,ht,λv H1 w G1 t1 r1 g1 q1=>l.rt v H1 w G1 t1 r1 g1 q1⟩
noncomputable def DK (c:WT) (t u:WS):WS:=λd τ G=>c τ G λb G1=>if b=true then t d τ G1 else u d τ G1
theorem cc {c:Expr} {a b:List Stmt} {tc:WT} {t u:WS} {pos:Pos} (hc:QT X c tc) (ha:mX X a t) (hb:mX X b u):QS X (.If c a b pos) (DK tc t u):=
 (zY hc ha hb).imp λD σ H z0=>z0.el λτ G d hs hg ht l=>⟨τ,G,_,hs,hg,ht,λc H1 G1 t1 g1 q1=>by
   cases c with
   | true=>rw [if_pos rfl] at q1 ⊢;exact ⟨τ,G1,d,hs.mono t1,g1,q1,l.mono t1⟩
   | false=>rw [if_neg Bool.false_ne_true] at q1 ⊢;exact ⟨τ,G1,d,hs.mono t1,g1,q1,l.mono t1⟩⟩
noncomputable def cZ (i:Nat):WG:=λw τ G q=>q (τ.set i (some w)) G
theorem eE (i:Nat) {x:Str} {pos:Pos} (hN:X.N.Nodup) (hi:X.N[i]?=some x) (hx:uJ X.env.scope x) (hf:X.fn x=true∨X.env.scope.names.lookup x=some .local:=by first | exact .inl rfl | exact .inr rfl | assumption):QG X (.Name x pos) (cZ i):=
 (uO hN hi hx hf).imp λv σ H Q ⟨w,τ,G,q,r,hs,hg,ht,hQ⟩=>hQ _ H _ G (aI.refl H) (hs.set r i) hg ht
noncomputable def rV:wU:=λws τ G q=>match ws with | []=>q τ G | _=>False
noncomputable def jN (t:WG) (u:wU):wU:=λws τ G q=>match ws with | w::r=>t w τ G λτ1 G1=>u r τ1 G1 q | []=>False
theorem kE:Ar X [] rV:=pgs_nil.imp λvs σ H Q ⟨ws,τ,G,q,r,hs,hg,ht,hQ⟩=>by
 unfold rV at ht;cases r with
 | nil=>exact ⟨rfl,hQ σ H τ G (aI.refl H) hs hg ht⟩
 | cons _ _=>exact ht.elim
theorem dX {e:Expr} {es:List Expr} {t:WG} {u:wU} (h1:QG X e t) (h2:Ar X es u)
 (hs:(assignEach (e::es) X.env).map (·.2)=assign e X.env::(assignEach es X.env).map (·.2):=by rfl):Ar X (e::es) (jN t u):=
 (rA h1 h2 hs).imp λvs σ H Q ⟨ws,τ,G,q,r,hs,hg,ht,hQ⟩=>by
   unfold jN at ht;cases r with
   | nil=>exact ht.elim
   | cons r rs=>
     exact ⟨_,_,rfl,_,τ,G,_,r,hs,hg,ht,λσ1 H1 τ1 G1 t1 s1 g1 q1=>⟨_,τ1,G1,q,rs.mono t1,s1,g1,q1,λσ2 H2 τ2 G2 t2=>hQ σ2 H2 τ2 G2 (t1.trans t2)⟩⟩
noncomputable def rW (n:Nat) (t:wU):WG:=λw τ G q=>match w with | .tup ws=>ws.length=n/\t ws τ G q | _=>False
theorem nD {es:List Expr} {k:Nat} {t:wU} {pos:Pos} (hc:X.calm=true) (h:Ar X es t)
 (hn:(assignEach es X.env).length=es.length:=by rfl) (hst:(assignEach es X.env).findIdx? (·.1)=none:=by rfl):QG X (.Tuple es k pos) (rW es.length t):=
 (xW hc h hn hst).imp λv σ H Q ⟨w,τ,G,q,r,hs,hg,ht,hQ⟩=>by
   unfold rW at ht;cases r with
   | tup h r=>exact ⟨_,_,rfl,cR.of h,by rw [←r.length];exact ht.1,_,τ,G,q,r,hs,hg,ht.2,hQ⟩
   | _=>exact ht.elim
noncomputable def u6 (te:WE) (g:WG):WS:=λd τ G=>te τ G λx G1=>g x τ G1 d.nx
theorem aV (i:Nat) {x:Str} {e:Expr} {te:WE} {pos' pos:Pos} (hN:X.N.Nodup) (hi:X.N[i]?=some x) (hx:uJ X.env.scope x) (he:QE X e te) (hs:swapsWith e (some (.Name x pos')) pos.line X.env=pure false:=by rfl) (hf:X.fn x=true∨X.env.scope.names.lookup x=some .local:=by first | exact .inl rfl | exact .inr rfl | assumption):
 QS X (.Assign [.Name x pos'] e pos) (u6 te (cZ i)):=
 (xX hN hi hx he hs hf).imp λD σ H z0=>z0.el λτ G d hs hg ht l=>
   ⟨τ,G,_,hs,hg,ht,λv H1 w G1 t1 r1 g1 q1=>l.nx _ H1 _ G1 t1 ((hs.mono t1).set r1 i) g1 q1⟩
noncomputable def rX (c:WT) (tb:WS):WS:=λd τ G=>∃I:Nat->dC->Gp->Prop,(∃m,I m τ G)/\∀m τ G,I m τ G->
 c τ G λb G1=>if b=true then ∃N:dC->Gp->Prop,(∀τ1 G1,N τ1 G1->∃m1,m1<m/\I m1 τ1 G1)/\tb { d with nx:=N,ct:=N,bk:=d.nx } τ G1 else d.nx τ G1
theorem lJ {c:Expr} {body:List Stmt} {tc:WT} {tb:WS} {pos:Pos} (hp:PassesOwn (model X.prog X.w) X.A X.env X.xe) (hc:QT X c tc) (hb:mX X body tb):QS X (.While c body [] pos) (rX tc tb):=
 (rB hp hc hb).imp λD σ H ⟨τ,G,d,hs,hg,⟨I,⟨m,i0⟩,turn⟩,l⟩=>by
   refine ⟨λm σ1 H1=>∃τ1 G1,aI H H1/\bg X.K H1 τ1 σ1/\aH X.K H1 G1/\I m τ1 G1,⟨m,τ,G,aI.refl H,hs,hg,i0⟩,?_⟩;rintro m1 σ1 H1 ⟨τ1,G1,t1,s1,g1,i1⟩;refine ⟨τ1,G1,_,s1,g1,turn m1 τ1 G1 i1,λb H2 G2 t2 g2 q2=>?_⟩;cases b with
   | true=>
     rw [if_pos rfl] at q2 ⊢;obtain ⟨N,hN,q2⟩:=q2;refine ⟨λσ3 H3=>∃τ3 G3,aI H H3/\bg X.K H3 τ3 σ3/\aH X.K H3 G3/\N τ3 G3,?_,τ1,G2,_,s1.mono t2,g2,q2,?_⟩
     ·rintro σ3 H3 ⟨τ3,G3,t3,s3,g3,n3⟩;obtain ⟨m3,hm,i3⟩:=hN τ3 G3 n3;exact ⟨m3,hm,τ3,G3,t3,s3,g3,i3⟩
     ·have tt:=t1.trans t2;exact ⟨λσ3 H3 τ3 G3 t3 s3 g3 q3=>⟨τ3,G3,tt.trans t3,s3,g3,q3⟩,λv H3 w G3 t3=>l.rt v H3 w G3 (tt.trans t3),λσ3 H3 τ3 G3 t3=>l.nx σ3 H3 τ3 G3 (tt.trans t3),λσ3 H3 τ3 G3 t3 s3 g3 q3=>⟨τ3,G3,tt.trans t3,s3,g3,q3⟩⟩
   | false=>
     rw [if_neg Bool.false_ne_true] at q2 ⊢;exact l.nx σ1 H2 τ1 G2 (t1.trans t2) (s1.mono t2) g2 q2
end
section
variable {X:Cx}
noncomputable abbrev WX:=Value->Gp->Prop
noncomputable abbrev bZ:=List W->Gp->WK->WX->Prop
noncomputable def uF (K:PySem.W.Frag) (sp:bZ):Sp:=λvs H Q E=>∃ws G q e,aJ K H ws vs/\aH K H G/\sp ws G q e/\(∀v H1 w G1,aI H H1->bI K H1 w v->aH K H1 G1->q w G1->Q v H1)/\
 ∀c d H1 G1,aI H H1->aH K H1 G1->e c G1->E c d H1
noncomputable abbrev cB (P:Program) (w:World) (K:PySem.W.Frag) (mg:Str->Option Value) (base:Heap) (k:Nat) (f:Addr) (fd:FuncData) (ps:List Str) (sp:bZ):Prop:=dE P w K mg base uE k f fd ps (uF K sp)
noncomputable def ie (sp:bZ) (dws:List W) (t:WA):WE:=λτ G q=>t τ G λws G1=>sp (ws++dws) G1 q λ_ _=>False
theorem jw.call {K:PySem.W.Frag} {sp:bZ} {dws:List W} {dvs:List V} {t:WA} {σ:St} {H:Hp} {Q:VK} {E:XK} (hd:∀H,aJ K H dws dvs) (h:jw K (ie sp dws t) σ H Q):rE (uF K sp) dvs E (LA K t) σ H Q:=by
 obtain ⟨τ,G,q,hs,hg,ht,hQ⟩:=h;exact ⟨τ,G,_,hs,hg,ht,λvs H1 ws G1 t1 r1 g1 q1=>⟨ws++dws,G1,q,_,r1.append (hd H1),g1,q1,λv H2 w G2 t2=>hQ v H2 w G2 (t1.trans t2),λ_ _ _ _ _ _ z=>z.elim⟩⟩
theorem u7 {k:Nat} {f:Addr} {fd:FuncData} {ps:List Str} {sp:bZ} {x:Str} {p pos:Pos} {e:Expr} {es:List Expr} {t:WA} (F:cB X.prog X.w X.K X.mg X.base k f fd ps sp) (hr:ay k X.A) (hg:Gl X x) (hm:X.mg x=some (.ref f))
 (hk:keepIn X.K (.ref f)=true) (hb:bG X.K fd ps []) (ha:QA X (e::es) t) (hdb:(x==("__debug__":Str))=false:=by decide)
 (he:starEach (e::es) X.env=(false,eval e X.env)::starEach es X.env:=by rfl) (hpl:(backTo pos (starEach es X.env)).any (·.1)=false:=by rfl):QE X (.Call (.Name x p) (e::es) [] pos) (ie sp [] t):=
 (oM F hr hg hm hk hb .nil jM ha hdb he hpl).imp λ_ _ _ h=>h.call λ_=> .nil
theorem rY {k:Nat} {f:Addr} {fd:FuncData} {ps:List Str} {sp:bZ} {x:Str} {p pos:Pos} (F:cB X.prog X.w X.K X.mg X.base k f fd ps sp) (hr:ay k X.A) (hg:Gl X x) (hm:X.mg x=some (.ref f))
 (hk:keepIn X.K (.ref f)=true) (hb:bG X.K fd ps []) (hdb:(x==("__debug__":Str))=false:=by decide):QE X (.Call (.Name x p) [] [] pos) (ie sp [] iS):=
 (rG F hr hg hm hk hb .nil jM hdb).imp λ_ _ _ h=>by
   obtain ⟨τ,G,q,hs,hg,ht,hQ⟩:=h;exact ⟨[],G,q,_,.nil,hg,ht,hQ,λ_ _ _ _ _ _ z=>z.elim⟩
noncomputable def iT (N:List Str) (ws:List W):dC:=ws.map some++List.replicate (N.length-ws.length) none
theorem cB.imp {P:Program} {w:World} {K:PySem.W.Frag} {mg:Str->Option Value} {base:Heap} {k:Nat} {f:Addr} {fd:FuncData} {ps:List Str} {sp sp':bZ} (F:cB P w K mg base k f fd ps sp) (h:∀ws G q e,sp' ws G q e->sp ws G q e):cB P w K mg base k f fd ps sp':=
 dE.imp F λ_ _ _ _ ⟨ws,G,q,e,r,g,z,a,b⟩=>⟨ws,G,q,e,r,g,h _ _ _ _ z,a,b⟩
theorem eQ {P:Program} {w:World} {K:PySem.W.Frag} {mg:Str->Option Value} {base:Heap} {x qual:Str} {st:Stmt} {f:Addr} {fd:FuncData} {N ps:List Str} {k:Nat} {sp:bZ} (F:cM K x qual st f fd) (S:aE N ps (ag st)) (len:∀ws G q e,sp ws G q e->ws.length=ps.length)
 (hbody:∀(cdv:Value) (A:Around) (outer:List Env) (s:Shared) (H:Hp) (E:XK),ay k (A.deeper (envOfC qual (ag st) s.heap.objs.size f cdv))->
   ∃t,mX (dG uE P w K mg base N qual (ag st) f cdv A outer s H E).nox (aw st) t/\
    ∀(ws:List W) (G:Gp) (q:WK) (e:WX),sp ws G q e->t { nx:=λ_ G1=>∃G0,aL G0 G1/\q .non G0,rt:=λw G1=>∃G0,aL G0 G1/\q w G0 } (iT N ws) G):cB P w K mg base (k+1) f fd ps sp:=by
 refine F.ok S (λvs H Q E ⟨ws,G,q,e,r,g,z,_⟩=>by rw [←r.length];exact len _ _ _ _ z) (λcdv A outer s H vs Q E hr ⟨ws,G,q,e,r,g,z,hQ,_⟩=>?_);obtain ⟨t,ht,hq⟩:=hbody cdv A outer s H E hr;exact ⟨_,ht,_,G,_,bg.start r,g,hq ws G q e z,⟨λσ1 H1 τ1 G1 t1 s1 g1 ⟨G0,l,q1⟩=>hQ .non H1 .non G0 t1 .non (g1.le l) q1,λv H1 w G1 t1 r1 g1 ⟨G0,l,q1⟩=>hQ v H1 w G0 t1 r1 (g1.le l) q1,λ_ _ _ _ _ _ _ z=>z.elim,λ_ _ _ _ _ _ _ z=>z.elim⟩⟩
noncomputable def xc (K:PySem.W.Frag) (r:List W->Gp->WK->Prop):List V->Hp->VK->Prop:=λvs H Q=>∃ws G q,aJ K H ws vs/\aH K H G/\r ws G q/\∀v H1 w G1,aI H H1->bI K H1 w v->aH K H1 G1->q w G1->Q v H1
noncomputable def eR (X:Cx) (f:Value) (r:List W->Gp->WK->Prop):Prop:=eP X f (xc X.K r)
noncomputable def BK (r:List W->Gp->WK->Prop) (t:WA):WE:=λτ G q=>t τ G λws G1=>r ws G1 q
theorem jw.cb {K:PySem.W.Frag} {r:List W->Gp->WK->Prop} {t:WA} {σ:St} {H:Hp} {Q:VK} (h:jw K (BK r t) σ H Q):Cb (xc K r) (LA K t) σ H Q:=by
 obtain ⟨τ,G,q,hs,hg,ht,hQ⟩:=h;exact ⟨τ,G,_,hs,hg,ht,λvs H1 ws G1 t1 r1 g1 q1=>⟨ws,G1,q,r1,g1,q1,λv H2 w G2 t2=>hQ v H2 w G2 (t1.trans t2)⟩⟩
theorem cJ {id:String} {r:List W->Gp->WK->Prop} {x:Str} {p pos:Pos} {e:Expr} {es:List Expr} {t:WA} (hc:eR X (.builtin id) r) (hg:Gl X x) (hm:X.mg x=none) (hv:bootBuiltins x=some (.builtin id)) (ha:QA X (e::es) t)
 (hn:x≠"__name__":=by decide) (hdb:(x==("__debug__":Str))=false:=by decide)
 (he:starEach (e::es) X.env=(false,eval e X.env)::starEach es X.env:=by rfl) (hpl:(backTo pos (starEach es X.env)).any (·.1)=false:=by rfl):QE X (.Call (.Name x p) (e::es) [] pos) (BK r t):=
 (eU hc hg hm hv ha hn hdb he hpl).imp λ_ _ _ h=>h.cb
theorem bN {T:String} {r:List W->Gp->WK->Prop} {x:Str} {p pos:Pos} {e:Expr} {es:List Expr} {t:WA} (hc:eR X (.type T) r) (hg:Gl X x) (hm:X.mg x=none) (hv:bootBuiltins x=some (.type T)) (ha:QA X (e::es) t)
 (hn:x≠"__name__":=by decide) (hdb:(x==("__debug__":Str))=false:=by decide)
 (he:starEach (e::es) X.env=(false,eval e X.env)::starEach es X.env:=by rfl) (hpl:(backTo pos (starEach es X.env)).any (·.1)=false:=by rfl):QE X (.Call (.Name x p) (e::es) [] pos) (BK r t):=
 (qy hc hg hm hv ha hn hdb he hpl).imp λ_ _ _ h=>h.cb
theorem aJ.one {K:PySem.W.Frag} {H:Hp} {w:W} {vs:List V} (r:aJ K H [w] vs):∃v,vs=[v]/\bI K H w v:=by
 cases r with
 | cons r rs=>cases rs;exact ⟨_,rfl,r⟩
theorem aJ.two {K:PySem.W.Frag} {H:Hp} {w u:W} {vs:List V} (r:aJ K H [w,u] vs):∃v x,vs=[v,x]/\bI K H w v/\bI K H u x:=by
 cases r with
 | cons r rs=>
   obtain ⟨x,rfl,r2⟩:=rs.one;exact ⟨_,_,rfl,r,r2⟩
noncomputable def yy:List W->Gp->WK->Prop:=λws G q=>match ws with
 | [.tup xs]=>q (.int xs.length) G
 | [.scr ns]=>q (.int ns.length) G
 | [.ref a]=>∃xs,G a=some (.lst xs)/\q (.int xs.length) G
 | _=>False
theorem xf:eR X (.builtin "len") yy:=by
 rintro pins s σ H xs us Q I r ⟨ws,G,q,rw',g,h,hQ⟩;cases rw' with
 | nil=>exact False.elim h
 | cons r1 rr'=>
   cases rr' with
   | cons _ _=>cases r1<;> exact False.elim h
   | nil=>
     cases r1 with
     | tup hh rr=>exact eC pins s σ H _ us Q I r ⟨_,_,rfl,.inr (cR.of hh),hQ _ H _ G (aI.refl H) (by rw [rr.length];exact .int _) g h⟩
     | scr hh=>exact eC pins s σ H _ us Q I r ⟨_,_,rfl,.inl hh.sq,hQ _ H _ G (aI.refl H) (by rw [List.length_map];exact .int _) g h⟩
     | ref a=>
       obtain ⟨ys,e,h⟩:=h;obtain ⟨_,zs,e1,rr⟩:=g a _ e;exact eC pins s σ H _ us Q I r ⟨_,_,rfl,.inl (cW.of e1),hQ _ H _ G (aI.refl H) (by rw [rr.length];exact .int _) g h⟩
     | _=>exact False.elim h
noncomputable def rZ:List W->Gp->WK->Prop:=λws G q=>match ws with
 | [.tup xs]=>q (.tup xs) G
 | [.ref a]=>∃xs,G a=some (.lst xs)/\q (.tup xs) G
 | _=>False
theorem fg:eR X (.type "tuple") rZ:=by
 rintro pins s σ H xs us Q I r ⟨ws,G,q,rw',g,h,hQ⟩;cases rw' with
 | nil=>exact False.elim h
 | cons r1 rr'=>
   cases rr' with
   | cons _ _=>cases r1<;> exact False.elim h
   | nil=>
     cases r1 with
     | tup hh rr=>exact fA pins s σ H _ us Q I r ⟨_,_,rfl,.inr ⟨cR.of hh,hQ _ H _ G (aI.refl H) (.tup hh rr) g h⟩⟩
     | ref a=>
       obtain ⟨ys,e,h⟩:=h;obtain ⟨_,zs,e1,rr⟩:=g a _ e;exact fA pins s σ H _ us Q I r ⟨_,_,rfl,.inl ⟨cW.of e1,λl hl=>hQ _ _ _ G (aI.new hl _) (.tup aP (rr.mono (aI.new hl _))) (g.keep hl _) h⟩⟩
     | _=>exact False.elim h
noncomputable def oY:List W->Gp->WK->Prop:=λws G q=>match ws with
 | [.tup xs]=>xs.length<=100000/\∀p,G p=none->q (.ref p) (aG G p (.lst xs))
 | [.ref a]=>∃xs,G a=some (.lst xs)/\∀p,G p=none->q (.ref p) (aG G p (.lst xs))
 | _=>False
theorem r6:eR X (.type "list") oY:=by
 rintro pins s σ H xs us Q I r ⟨ws,G,q,rw',g,h,hQ⟩;unfold oY at h;split at h
 ·rename_i ys;obtain ⟨v,rfl,r1⟩:=rw'.one;cases r1 with
  | tup hh rr=>exact fR pins s σ H _ us Q I r ⟨_,_,rfl,.inr (cR.of hh),λl hl=>hQ _ _ _ _ (aI.new hl _) (.ref l) (g.put (aI.new hl _) rr h.1) (h.2 l (g.fresh hl))⟩
 ·rename_i a;obtain ⟨ys,e,h⟩:=h;obtain ⟨v,rfl,r1⟩:=rw'.one;cases r1;obtain ⟨hl,zs,e1,rr⟩:=g a _ e;exact fR pins s σ H _ us Q I r ⟨_,_,rfl,.inl (cW.of e1),λl hl'=>hQ _ _ _ _ (aI.new hl' _) (.ref l) (g.put (aI.new hl' _) rr hl) (h l (g.fresh hl'))⟩
 ·exact h.elim
noncomputable def yz:W2:=λx y G q=>match x,y with
 | .int i,.int j=>q (.int (i+j)) G
 | .tup xs,.tup ys=>xs.length+ys.length<=100000/\q (.tup (xs++ys)) G
 | .ref a,.ref b=>∃xs ys,G a=some (.lst xs)/\G b=some (.lst ys)/\xs.length+ys.length<=100000/\∀p,G p=none->q (.ref p) (aG G p (.lst (xs++ys)))
 | _,_=>False
theorem Co {pins:List (Addr×Obj)} {σ:St} {H:Hp} {s:Shared} {a b:Addr} {ys:List V} {Q:VK} (I:aA X pins σ H s) (ha:H a=some (.tup [])) (hb:H b=some (.tup ys)) (q:Q (.ref b) H):wpAny (model X.prog X.w) X.A (binaryOp .Add (.ref a) (.ref b)) (EP X pins σ Q) X.xe s:=by
 obtain ⟨its,r1,p1,_⟩:=I.tuple (cR.of ha);obtain ⟨its2,r2,p2,_⟩:=I.tuple (cR.of hb);cases r1;obtain ⟨⟨cls,dd,data,sl⟩,ho,hc,n,hd⟩:=id p1;obtain ⟨⟨cls2,dd2,data2,sl2⟩,ho2,hc2,n2,hd2⟩:=id p2;simp only at hc hd hc2 hd2;subst hc hd hc2 hd2;exact concat_meets ⟨_,ho,rfl⟩ ⟨_,ho2,rfl⟩ noFill_tuple_add seq_tuple_add PySem.F.slot_tuple_add PySem.F.entry_tuple_add (PySem.F.args_tuple_add_2 _ _)
  (tuple_addW0 a b #[] its2.toArray n n2 dd dd2 sl sl2 rfl) ⟨ho,ho2,⟨.ref b,H,I,rfl,q⟩⟩
theorem Ax:ic X (binaryOp .Add) yz:=by
 rintro pins s σ H x y v u Q I rx ry ⟨wx,wy,G,q,r1,r2,g,h,hQ⟩;cases r1 with
 | int i=>
   cases r2 with
   | int j=>exact yd pins s σ H _ _ v u Q I rx ry ⟨_,_,rfl,rfl,hQ _ H _ G (aI.refl H) (.int _) g h⟩
   | _=>exact False.elim h
 | @tup a ws xs ha ra=>
   cases r2 with
   | @tup b us ys hb rb=>
     cases xs with
     | nil=>
       cases ra;cases rx;cases ry;exact Co I ha hb (hQ _ H _ G (aI.refl H) (.tup hb rb) g h.2)
     | cons x0 xr=>
       refine u0 pins s σ H _ _ v u Q I rx ry ⟨a,b,_,_,rfl,rfl,cR.of ha,cR.of hb,by simp,by rw [←ra.length,←rb.length];exact bJ h.1,λe=>?_,λ_ p hp=>?_⟩
       ·subst e;cases rb;have h2:=h.2;rw [List.append_nil] at h2;exact hQ _ H _ G (aI.refl H) (.tup ha ra) g h2
       ·exact hQ _ _ _ G (aI.new hp _) (.tup aP ((ra.append rb).mono (aI.new hp _))) (g.keep hp _) h.2
   | _=>exact False.elim h
 | ref a=>
   cases r2 with
   | ref b=>
     obtain ⟨xs,ys,ea,eb,hl,h⟩:=h;obtain ⟨_,xs',ha,ra⟩:=g _ _ ea;obtain ⟨_,ys',hb,rb⟩:=g _ _ eb;refine yt pins s σ H _ _ v u Q I rx ry ⟨_,_,_,_,rfl,rfl,ha,hb,by rw [←ra.length,←rb.length];exact bJ hl,λp hp=>?_⟩;exact hQ _ _ _ _ (aI.new hp _) (.ref p) (g.put (aI.new hp _) (ra.append rb) (by rw [List.length_append];exact hl)) (h p (g.fresh hp))
   | _=>exact False.elim h
 | _=>exact False.elim h
noncomputable def vInt (C:Int->Int->Prop) (f:Int->Int->W):W2:=λx y G q=>match x,y with
 | .int i,.int j=>C i j/\q (f i j) G
 | _,_=>False
theorem nE {f:Value->Value->Sem Value} {C:Int->Int->Prop} {g:Int->Int->Int} (h:ir X f (rI C λi j=> .int (g i j))):ic X f (vInt C λi j=> .int (g i j)):=by
 rintro pins s σ H x y v u Q I rx ry ⟨wx,wy,G,q,r1,r2,gg,hh,hQ⟩;unfold vInt at hh;split at hh
 ·cases r1;cases r2;exact h pins s σ H _ _ v u Q I rx ry ⟨_,_,rfl,rfl,hh.1,hQ _ H _ G (aI.refl H) (.int _) gg hh.2⟩
 ·exact hh.elim
noncomputable def vInt0 (f:Int->Int->W):W2:=λx y G q=>match x,y with
 | .int i,.int j=>q (f i j) G
 | _,_=>False
theorem r9 {f:Value->Value->Sem Value} {g:Int->Int->Bool} (h:ir X f (uP λi j=> .bl (g i j))):ic X f (vInt0 λi j=> .bl (g i j)):=by
 rintro pins s σ H x y v u Q I rx ry ⟨wx,wy,G,q,r1,r2,gg,hh,hQ⟩;unfold vInt0 at hh;split at hh
 ·cases r1;cases r2;exact h pins s σ H _ _ v u Q I rx ry ⟨_,_,rfl,rfl,hQ _ H _ G (aI.refl H) (.bl _) gg hh⟩
 ·exact hh.elim
noncomputable abbrev Ay:W2:=vInt (λ_ j=>0<j) λi j=> .int (i%j)
theorem du:ic X (binaryOp .Mod) Ay:=nE yf
noncomputable abbrev Ea:W2:=vInt0 λi j=> .bl (decide (i<=j))
noncomputable abbrev Eb:W2:=vInt0 λi j=> .bl (decide (j<i))
noncomputable abbrev Ec:W2:=vInt0 λi j=> .bl (decide (j<=i))
theorem Cp:ic X (compareOp .LtE) Ea:=r9 Ag
theorem yA:ic X (compareOp .Gt) Eb:=r9 Ah
theorem yB:ic X (compareOp .GtE) Ec:=r9 Ai
noncomputable def yC:W2:=λx y G q=>match x,y with
 | .tup xs,.int i=>∃w,gE xs i=some w/\q w G
 | .scr ns,.int i=>∃n,gE ns i=some n/\q (.int n) G
 | .ref a,.int i=>∃xs w,G a=some (.lst xs)/\gE xs i=some w/\q w G
 | _,_=>False
theorem aJ.at {K:PySem.W.Frag} {H:Hp} {ws:List W} {vs:List V} {i:Int} {w:W} (r:aJ K H ws vs) (e:gE ws i=some w):∃v,gE vs i=some v/\bI K H w v:=by
 unfold gE at e ⊢;rw [r.length] at e;cases h:rM vs.length i with
 | none=>rw [h] at e;cases e
 | some j=>
   rw [h] at e;exact r.get e
theorem u9 {α β:Type} (f:α->β) (xs:List α) (i:Int):gE (xs.map f) i=(gE xs i).map f:=by
 unfold gE;rw [List.length_map];cases rM xs.length i with
 | none=>rfl
 | some j=>simp
theorem Cq:yw X yC:=by
 rintro value slice pins s σ H x y v u Q I rx ry ⟨wx,wy,G,q,r1,r2,g,h,hQ⟩ hsl;cases r2 with
 | int i=>
   cases r1 with
   | tup hh rr=>
     obtain ⟨w,e,h⟩:=h;obtain ⟨v',e',r'⟩:=rr.at e;exact yo value slice pins s σ H _ _ v u Q I rx ry ⟨_,_,_,v',rfl,rfl,cR.of hh,e',hQ _ H _ G (aI.refl H) r' g h⟩ hsl
   | scr hh=>
     obtain ⟨n,e,h⟩:=h;exact oS value slice pins s σ H _ _ v u Q I rx ry ⟨_,_,_,.int n,rfl,rfl,hh.sq,by rw [u9,e];rfl,hQ _ H _ G (aI.refl H) (.int n) g h⟩ hsl
   | ref a=>
     obtain ⟨xs,w,ea,e,h⟩:=h;obtain ⟨_,zs,e1,rr⟩:=g _ _ ea;obtain ⟨v',e',r'⟩:=rr.at e;exact oS value slice pins s σ H _ _ v u Q I rx ry ⟨_,_,_,v',rfl,rfl,cW.of e1,e',hQ _ H _ G (aI.refl H) r' g h⟩ hsl
   | _=>exact False.elim h
 | _=>cases r1<;> exact False.elim h
end
mutual
noncomputable def W.flat:W->Bool
 | .tup xs=>W.flats xs
 | .ref _=>false
 | .scr _=>false
 | _=>true
noncomputable def W.flats:List W->Bool
 | []=>true
 | x::xs=>W.flat x&&W.flats xs
end
mutual
noncomputable def W.dep:W->Nat
 | .tup xs=>W.deps xs+1
 | _=>0
noncomputable def W.deps:List W->Nat
 | []=>0
 | x::xs=>max (W.dep x) (W.deps xs)
end
mutual
noncomputable def W.eq:W->W->Bool
 | .non,.non=>true
 | .bl a,.bl b=>a==b
 | .bl a,.int j=>(if a then 1 else 0)==j
 | .int i,.bl b=>i==(if b then 1 else 0)
 | .int i,.int j=>i==j
 | .str x,.str y=>x==y
 | .tup xs,.tup ys=>W.eqs xs ys
 | _,_=>false
noncomputable def W.eqs:List W->List W->Bool
 | [],[]=>true
 | x::xs,y::ys=>W.eq x y&&W.eqs xs ys
 | _,_=>false
end
theorem cO {P:Prop} (h:false=true):P:=Bool.noConfusion h
theorem W.eq_int (i j:Int):(W.int i).eq (W.int j)=(i==j):=rfl
theorem W.eq_tup (xs ys:List W):(W.tup xs).eq (W.tup ys)=W.eqs xs ys:=rfl
mutual
theorem W.eq_refl:∀w:W,w.flat=true->w.eq w=true
 | .non,_=>rfl
 | .bl b,_=>beq_self_eq_true b
 | .int i,_=>beq_self_eq_true i
 | .str x,_=>beq_self_eq_true x
 | .tup xs,h=>W.eqs_refl xs h
 | .ref _,h=>cO h
 | .scr _,h=>cO h
theorem W.eqs_refl:∀ws:List W,W.flats ws=true->W.eqs ws ws=true
 | [],_=>rfl
 | x::xs,h=>by
   have h':x.flat=true/\W.flats xs=true:=(Bool.and_eq_true _ _).mp h;exact (Bool.and_eq_true _ _).mpr ⟨W.eq_refl x h'.1,W.eqs_refl xs h'.2⟩
end
mutual
theorem bI.inj {K:PySem.W.Frag} {H:Hp}:∀{w u:W} {v:V},w.flat=true->u.flat=true->bI K H w v->bI K H u v->w=u:=by
 intro w u v h1 h2 r1 r2;cases r1 with
 | non=>cases r2;rfl
 | bl _=>cases r2;rfl
 | int _=>cases r2;rfl
 | str _=>cases r2;rfl
 | ref _=>exact cO h1
 | scr _=>exact cO h1
 | tup e1 r1=>
   cases r2 with
   | ref _=>exact cO h2
   | scr _=>exact cO h2
   | tup e2 r2=>
     rw [e1] at e2;cases e2;rw [aJ.inj h1 h2 r1 r2]
theorem aJ.inj {K:PySem.W.Frag} {H:Hp}:∀{ws us:List W} {vs:List V},W.flats ws=true->W.flats us=true->aJ K H ws vs->aJ K H us vs->ws=us:=by
 intro ws us vs h1 h2 r1 r2;cases r1 with
 | nil=>cases r2;rfl
 | cons r1 s1=>
   cases r2 with
   | cons r2 s2=>
     simp only [W.flats,Bool.and_eq_true] at h1 h2;rw [bI.inj h1.1 h2.1 r1 r2,aJ.inj h1.2 h2.2 s1 s2]
end
theorem W.flats_get:∀{ws:List W} {j:Nat} {w:W},W.flats ws=true->ws[j]?=some w->w.flat=true
 | [],_,_,_,e=>by simp at e
 | x::xs,0,w,h,e=>by
   have h':x.flat=true/\W.flats xs=true:=by simpa [W.flats] using h
   simp at e;subst e;exact h'.1
 | x::xs,j+1,w,h,e=>by
   have h':x.flat=true/\W.flats xs=true:=by simpa [W.flats] using h
   exact W.flats_get h'.2 (by simpa using e)
theorem W.deps_get:∀{ws:List W} {j:Nat} {w:W},ws[j]?=some w->w.dep<=W.deps ws
 | [],_,_,e=>by simp at e
 | x::xs,0,w,e=>by simp at e;subst e;simp [W.deps];omega
 | x::xs,j+1,w,e=>by
   have:=W.deps_get (ws:=xs) (j:=j) (w:=w) (by simpa using e);simp only [W.deps];omega
theorem W.eqs_iff:∀(ws us:List W),W.eqs ws us=true↔ws.length=us.length/\∀(j:Nat) (a b:W),ws[j]?=some a->us[j]?=some b->W.eq a b=true
 | [],[]=>by simp [W.eqs]
 | [],_::_=>by simp [W.eqs]
 | _::_,[]=>by simp [W.eqs]
 | x::xs,y::ys=>by
   rw [W.eqs,Bool.and_eq_true,W.eqs_iff xs ys];constructor
   ·rintro ⟨h1,h2,h3⟩;refine ⟨by simp [h2],λj a b ea eb=>?_⟩;cases j with
    | zero=>simp at ea eb;subst ea eb;exact h1
    | succ j=>exact h3 j a b (by simpa using ea) (by simpa using eb)
   ·rintro ⟨h1,h2⟩;exact ⟨h2 0 x y rfl rfl,by simpa using h1,λj a b ea eb=>h2 (j+1) a b (by simpa using ea) (by simpa using eb)⟩
noncomputable def iU (ws us:List W) (j:Nat):Bool:=match ws[j]?,us[j]? with | some a,some b=>W.eq a b | _,_=>true
theorem fh (ws us:List W):((List.range (min ws.length us.length)).all (iU ws us)&&(ws.length==us.length))=W.eqs ws us:=by
 rw [Bool.eq_iff_iff,Bool.and_eq_true,W.eqs_iff,List.all_eq_true,beq_iff_eq];constructor
 ·rintro ⟨h1,h2⟩;refine ⟨h2,λj a b ea eb=>?_⟩;have hj:j<ws.length:=(List.getElem?_eq_some_iff.mp ea).1;have:=h1 j (List.mem_range.mpr (by omega));unfold iU at this;rw [ea,eb] at this;exact this
 ·rintro ⟨h1,h2⟩;refine ⟨λj _=>?_,h1⟩;unfold iU;split
  ·rename_i a b ea eb;exact h2 j a b ea eb
  ·rfl
section
variable {X:Cx} {pins:List (Addr×Obj)} {σ:St} {H:Hp} {s:Shared}
theorem aA.tupH {a:Addr} {xs:List V} (I:aA X pins σ H s) (h:H a=some (.tup xs)):∃its:List Value,aM xs its/\s.heap.IsTuple a its.toArray/\xs.length<=sizeLine:=I.tuple (cR.of h)
theorem gH (I:aA X pins σ H s):∀(n:Nat) (A:Around) {w1 w2:W} {v1 v2:V} {u1 u2:Value},w1.dep<n->w1.flat=true->w2.flat=true->A.units+n<cLine->bI X.K H w1 v1->bI X.K H w2 v2->aZ v1 u1->aZ v2 u2->
 SeqAt.EqAt A s u1 u2 (w1.eq w2)/\SeqAt.RcAt A s u1 u2 (w1.eq w2)/\SeqAt.RcNeAt A s u1 u2 (!(w1.eq w2)):=by
 intro n
 induction n with
 | zero=>intro A w1 w2 v1 v2 u1 u2 h;omega
 | succ n ih=>
   intro A w1 w2 v1 v2 u1 u2 hd f1 f2 hu r1 r2 q1 q2;have hu0:A.units<cLine:=by omega
   have hui:A.in1.units+n<cLine:=by show A.units+1+n<cLine;omega
   cases r1 with
   | ref a=>exact cO f1
   | scr a=>exact cO f1
   | non=>
     cases (show u1=Value.none from q1);cases r2 with
     | ref a=>exact cO f2
     | scr a=>exact cO f2
     | non=>cases (show u2=Value.none from q2);exact ⟨SeqAt.EqAt.same _,SeqAt.RcAt.none_none,SeqAt.RcNeAt.none_none⟩
     | bl b=>cases (show u2=Value.bool b from q2);exact ⟨SeqAt.EqAt.none_bool b,SeqAt.RcAt.none_bool b,SeqAt.RcNeAt.none_bool b⟩
     | int b=>obtain ⟨t,rfl⟩:=q2;exact ⟨SeqAt.EqAt.none_int b t,SeqAt.RcAt.none_int b t,SeqAt.RcNeAt.none_int b t⟩
     | str b=>obtain ⟨t,rfl⟩:=q2;exact ⟨SeqAt.EqAt.none_str b t,SeqAt.RcAt.none_str b t,SeqAt.RcNeAt.none_str b t⟩
     | tup h r=>
       cases (show u2=Value.ref _ from q2);obtain ⟨its,_,p,_⟩:=aA.tupH I h;exact ⟨SeqAt.EqAt.none_tuple p hu0,SeqAt.RcAt.none_tuple p hu0,SeqAt.RcNeAt.none_tuple p hu0⟩
   | bl a=>
     cases (show u1=Value.bool a from q1);cases r2 with
     | ref a=>exact cO f2
     | scr a=>exact cO f2
     | non=>cases (show u2=Value.none from q2);exact ⟨SeqAt.EqAt.bool_none a,SeqAt.RcAt.bool_none a,SeqAt.RcNeAt.bool_none a⟩
     | bl b=>cases (show u2=Value.bool b from q2);exact ⟨SeqAt.EqAt.bool_bool a b,SeqAt.RcAt.bool_bool a b,SeqAt.RcNeAt.bool_bool a b⟩
     | int b=>obtain ⟨t,rfl⟩:=q2;exact ⟨SeqAt.EqAt.bool_int a b t,SeqAt.RcAt.bool_int a b t,SeqAt.RcNeAt.bool_int a b t⟩
     | str b=>obtain ⟨t,rfl⟩:=q2;exact ⟨SeqAt.EqAt.bool_str a b t,SeqAt.RcAt.bool_str a b t,SeqAt.RcNeAt.bool_str a b t⟩
     | tup h r=>
       cases (show u2=Value.ref _ from q2);obtain ⟨its,_,p,_⟩:=aA.tupH I h;exact ⟨SeqAt.EqAt.bool_tuple a p hu0,SeqAt.RcAt.bool_tuple a p hu0,SeqAt.RcNeAt.bool_tuple a p hu0⟩
   | int a=>
     obtain ⟨ta,rfl⟩:=q1;cases r2 with
     | ref a=>exact cO f2
     | scr a=>exact cO f2
     | non=>cases (show u2=Value.none from q2);exact ⟨SeqAt.EqAt.int_none a ta,SeqAt.RcAt.int_none a ta,SeqAt.RcNeAt.int_none a ta⟩
     | bl b=>cases (show u2=Value.bool b from q2);exact ⟨SeqAt.EqAt.int_bool a ta b,SeqAt.RcAt.int_bool a ta b,SeqAt.RcNeAt.int_bool a ta b⟩
     | int b=>obtain ⟨t,rfl⟩:=q2;exact ⟨SeqAt.EqAt.int_int a ta b t,SeqAt.RcAt.int_int a ta b t,SeqAt.RcNeAt.int_int a ta b t⟩
     | str b=>obtain ⟨t,rfl⟩:=q2;exact ⟨SeqAt.EqAt.int_str a ta b t,SeqAt.RcAt.int_str a ta b t,SeqAt.RcNeAt.int_str a ta b t⟩
     | tup h r=>
       cases (show u2=Value.ref _ from q2);obtain ⟨its,_,p,_⟩:=aA.tupH I h;exact ⟨SeqAt.EqAt.int_tuple a ta p hu0,SeqAt.RcAt.int_tuple a ta p hu0,SeqAt.RcNeAt.int_tuple a ta p hu0⟩
   | str a=>
     obtain ⟨ta,rfl⟩:=q1;cases r2 with
     | ref a=>exact cO f2
     | scr a=>exact cO f2
     | non=>cases (show u2=Value.none from q2);exact ⟨SeqAt.EqAt.str_none a ta,SeqAt.RcAt.str_none a ta,SeqAt.RcNeAt.str_none a ta⟩
     | bl b=>cases (show u2=Value.bool b from q2);exact ⟨SeqAt.EqAt.str_bool a ta b,SeqAt.RcAt.str_bool a ta b,SeqAt.RcNeAt.str_bool a ta b⟩
     | int b=>obtain ⟨t,rfl⟩:=q2;exact ⟨SeqAt.EqAt.str_int a ta b t,SeqAt.RcAt.str_int a ta b t,SeqAt.RcNeAt.str_int a ta b t⟩
     | str b=>obtain ⟨t,rfl⟩:=q2;exact ⟨SeqAt.EqAt.str_str a ta b t,SeqAt.RcAt.str_str a ta b t,SeqAt.RcNeAt.str_str a ta b t⟩
     | tup h r=>
       cases (show u2=Value.ref _ from q2);obtain ⟨its,_,p,_⟩:=aA.tupH I h;exact ⟨SeqAt.EqAt.str_tuple a ta p hu0,SeqAt.RcAt.str_tuple a ta p hu0,SeqAt.RcNeAt.str_tuple a ta p hu0⟩
   | @tup a ws xs h r=>
     cases (show u1=Value.ref _ from q1);obtain ⟨its,rv,p,_⟩:=aA.tupH I h;cases r2 with
     | ref a=>exact cO f2
     | scr a=>exact cO f2
     | non=>cases (show u2=Value.none from q2);exact ⟨SeqAt.EqAt.tuple_none p hu0,SeqAt.RcAt.tuple_none p hu0,SeqAt.RcNeAt.tuple_none p hu0⟩
     | bl b=>cases (show u2=Value.bool b from q2);exact ⟨SeqAt.EqAt.tuple_bool b p hu0,SeqAt.RcAt.tuple_bool b p hu0,SeqAt.RcNeAt.tuple_bool b p hu0⟩
     | int b=>obtain ⟨t,rfl⟩:=q2;exact ⟨SeqAt.EqAt.tuple_int b t p hu0,SeqAt.RcAt.tuple_int b t p hu0,SeqAt.RcNeAt.tuple_int b t p hu0⟩
     | str b=>obtain ⟨t,rfl⟩:=q2;exact ⟨SeqAt.EqAt.tuple_str b t p hu0,SeqAt.RcAt.tuple_str b t p hu0,SeqAt.RcNeAt.tuple_str b t p hu0⟩
     | @tup b us ys h2 r2=>
       cases (show u2=Value.ref _ from q2);obtain ⟨its2,rv2,p2,_⟩:=aA.tupH I h2;have g1:W.flats ws=true:=f1;have g2:W.flats us=true:=f2;have hd':W.deps ws<n:=by simp only [W.dep] at hd;omega
       have e1:its.length=ws.length:=by rw [←rv.length,r.length]
       have e2:its2.length=us.length:=by rw [←rv2.length,r2.length]
       have he:∀j (h1:j<its.toArray.size) (h2:j<its2.toArray.size),SeqAt.EqAt A.in1 s its.toArray[j] its2.toArray[j] (iU ws us j):=λj j1 j2=>by
        rw [List.size_toArray] at j1 j2;have ea:ws[j]?=some ws[j]:=List.getElem?_eq_getElem (by omega);have eb:us[j]?=some us[j]:=List.getElem?_eq_getElem (by omega);obtain ⟨va,ea1,ra⟩:=r.get ea;obtain ⟨vb,eb1,rb⟩:=r2.get eb;obtain ⟨ua,ea2,qa⟩:=rv.get ea1;obtain ⟨ub,eb2,qb⟩:=rv2.get eb1;have za:its.toArray[j]=ua:=by
         have:=(List.getElem?_eq_some_iff.mp ea2).2;simpa using this
        have zb:its2.toArray[j]=ub:=by
         have:=(List.getElem?_eq_some_iff.mp eb2).2;simpa using this
        rw [za,zb];have:=(ih A.in1 (w1:=ws[j]) (w2:=us[j]) (Nat.lt_of_le_of_lt (W.deps_get ea) hd') (W.flats_get g1 ea) (W.flats_get g2 eb) hui ra rb qa qb).1;unfold iU;rw [ea,eb];exact this
       have er:=fh ws us;have c1:=SeqAt.RcAt.tuples p p2 hu0 he;have c2:=SeqAt.RcNeAt.tuples p p2 hu0 he;rw [List.size_toArray,List.size_toArray,e1,e2,er] at c1 c2;have ee:(W.tup ws).eq (W.tup us)=W.eqs ws us:=rfl;rw [ee];refine ⟨?_,c1,c2⟩
       by_cases hab:a=b
       ·subst hab;have z:=bI.inj f1 f2 (bI.tup h r) (bI.tup h2 r2);have t:W.eqs ws us=true:=by
         cases z;exact W.eqs_refl ws g1
        rw [t];exact SeqAt.EqAt.same _
       ·exact SeqAt.EqAt.of_refs hab c1
end
section
variable {X:Cx}
noncomputable def sd:W2:=λx y G q=>x.flat=true/\y.flat=true/\x.dep<=150/\q (.bl (x.eq y)) G
noncomputable def se:W2:=λx y G q=>x.flat=true/\y.flat=true/\x.dep<=150/\q (.bl (!(x.eq y))) G
theorem yD {k:Nat} (hr:ay k X.A):ic X (compareOp .Eq) sd:=by
 rintro pins s σ H x y v u Q I rx ry ⟨wx,wy,G,q,r1,r2,g,⟨f1,f2,hd,h⟩,hQ⟩;exact (gH I 151 X.A (by omega) f1 f2 (by have:=hr.un;omega) r1 r2 rx ry).2.1 X.prog X.w X.xe _ ⟨.bl _,H,I,rfl,hQ _ H _ G (aI.refl H) (.bl _) g h⟩
theorem yE {k:Nat} (hr:ay k X.A):ic X (compareOp .NotEq) se:=by
 rintro pins s σ H x y v u Q I rx ry ⟨wx,wy,G,q,r1,r2,g,⟨f1,f2,hd,h⟩,hQ⟩;exact (gH I 151 X.A (by omega) f1 f2 (by have:=hr.un;omega) r1 r2 rx ry).2.2 X.prog X.w X.xe _ ⟨.bl _,H,I,rfl,hQ _ H _ G (aI.refl H) (.bl _) g h⟩
noncomputable def xg:W2:=λx y G q=>match x,y with
 | .int i,.int j=>q (.int (i-j)) G
 | .bl a,.bl b=>q (.int (b2i a-b2i b)) G
 | _,_=>False
theorem oZ:ic X (binaryOp .Sub) xg:=by
 rintro pins s σ H x y v u Q I rx ry ⟨wx,wy,G,q,r1,r2,g,h,hQ⟩;cases r1 with
 | int i=>
   cases r2 with
   | int j=>exact ye pins s σ H _ _ v u Q I rx ry ⟨_,_,rfl,rfl,hQ _ H _ G (aI.refl H) (.int _) g h⟩
   | _=>exact False.elim h
 | bl a=>
   cases r2 with
   | bl b=>
     cases rx;cases ry;exact sub_bool ⟨.int _,H,I.tok _,⟨_,rfl⟩,hQ _ H _ G (aI.refl H) (.int _) g h⟩
   | _=>exact False.elim h
 | _=>exact False.elim h
noncomputable abbrev WO:=dC->Gp->(Option Int->Gp->Prop)->Prop
noncomputable def LO (K:PySem.W.Frag) (t:WO):TO:=λσ H Q=>∃τ G q,bg K H τ σ/\aH K H G/\t τ G q/\∀o H1 G1,aI H H1->aH K H1 G1->q o G1->Q o H1
noncomputable def QO (X:Cx) (e:Option Expr) (t:WO):Prop:=PO X e (LO X.K t)
theorem PO.imp {e:Option Expr} {t t':TO} (h:PO X e t) (f:∀σ H Q,t' σ H Q->t σ H Q):PO X e t':=λpins s σ H Q I q=>h pins s σ H Q I (f _ _ _ q)
noncomputable def o0:WO:=λ_ G q=>q none G
noncomputable def xh (t:WE):WO:=λτ G q=>t τ G λx G1=>match x with | .int i=>q (some i) G1 | _=>False
theorem fT:QO X none o0:=po_none.imp λσ H Q ⟨τ,G,q,hs,hg,ht,hQ⟩=>hQ none H G (aI.refl H) hg ht
theorem dc {e:Expr} {te:WE} (h:QE X e te):QO X (some e) (xh te):=
 (uZ h).imp λσ H Q ⟨τ,G,q,hs,hg,ht,hQ⟩=>⟨τ,G,_,hs,hg,ht,λv H1 w G1 t1 r1 g1 q1=>by
   split at q1
   ·cases r1;exact ⟨_,rfl,hQ _ H1 G1 t1 g1 q1⟩
   ·exact q1.elim⟩
noncomputable def dv (xs:List W) (lo hi:Option Int):List W:=(xs.drop (HT.sIx xs.length 0 lo)).take (HT.sIx xs.length xs.length hi-HT.sIx xs.length 0 lo)
theorem aJ.cut {K:PySem.W.Frag} {H:Hp} {ws:List W} {vs:List V} (r:aJ K H ws vs) (lo hi:Option Int):aJ K H (dv ws lo hi) (lC vs lo hi):=by
 unfold dv lC;rw [r.length];exact (r.drop _).take _
noncomputable abbrev W3:=W->Option Int->Option Int->Gp->WK->Prop
noncomputable def vc:W3:=λx lo hi G q=>match x with
 | .tup xs=>q (.tup (dv xs lo hi)) G
 | .scr ns=>ns.length<=100000/\∀p,G p=none->q (.ref p) (aG G p (.lst (dv (ns.map W.int) lo hi)))
 | .ref a=>∃xs,G a=some (.lst xs)/\∀p,G p=none->q (.ref p) (aG G p (.lst (dv xs lo hi)))
 | _=>False
theorem ig (xs:List W) (lo hi:Option Int):(dv xs lo hi).length<=xs.length:=by
 unfold dv;rw [List.length_take,List.length_drop];exact Nat.le_trans (Nat.min_le_right _ _) (Nat.sub_le _ _)
theorem nF {xs:List W} {lo hi:Option Int} (h:HT.sIx xs.length 0 lo=0/\HT.sIx xs.length xs.length hi=xs.length):dv xs lo hi=xs:=by
 unfold dv;rw [h.1,h.2,List.drop_zero,Nat.sub_zero,List.take_length]
theorem qC {prog:Program} {w:World} {A:Around} {E:Value->Shared->Prop} {s:Shared} {t sl:Addr} {items:Array Value} {vl vu:Value} {lo hi:Option Int} {Q:Value->Shared->Prop} (ht:IsTup s.heap t items) (hs:s.heap.IsSliceOf sl vl vu .none) (pl:IsPart vl lo) (pu:IsPart vu hi)
 (hw:HT.sIx items.size 0 lo=0/\HT.sIx items.size items.size hi=items.size) (h:Q (.ref t) s):wpAny (model prog w) A (getItem (.ref t) (.ref sl)) Q E s:=by
 obtain ⟨os,hos,hcs,hds⟩:=id hs;have hTs:s.TypeIs (.ref sl) "slice":=⟨os,hos,hcs⟩;unfold getItem
 try with_reducible refine wpAny_holding ?_
 first | refine wpAny_bind (wpAny_pure ?_) | skip
 refine wpAny_bind (wpAny_sequenceKey ht.typeIs (by decide) ?_);refine wpAny_bind (wpAny_callSpecial?_slot (name:=Str.ofString "__getitem__") ht.typeIs PyProof.Rows.slot_tuple_getitem
  (wpAny_call_entry PyProof.Rows.slot_tuple_getitem ht.typeIs entry_tuple_getitem ?_ (args_tuple_getitem _ _)))
 show wpAny _ _ (Builtin.Tuple.tupleItemsOf (.ref t) >>= _) _ _ s;refine wpAny_bind (tupleItemsOf_ ht ?_);refine wpAny_bind (wpAny_typeOf hTs ?_);rw [if_pos (by decide)];refine wpAny_bind (HT.sliceApplied_gen hs pl pu ?_);have hyes:(((HT.sIx items.size 0 lo:Nat):Int)==0&&(1:Int)==1&&(HT.sIx items.size items.size hi-HT.sIx items.size 0 lo)==items.size)=true:=by
  rw [hw.1,hw.2];simp
 show wpAny _ _ (if (((HT.sIx items.size 0 lo:Nat):Int)==0&&(1:Int)==1&&(HT.sIx items.size items.size hi-HT.sIx items.size 0 lo)==items.size)=true then _ else _) _ _ s;rw [if_pos hyes];refine wpAny_bind ?_;show wpAny _ _ (typeOf (.ref t) >>= _) _ _ s;refine wpAny_bind (wpAny_typeOf ht.typeIs (wpAny_pure ?_));rw [if_pos (by simp)];exact wpAny_bind (wpAny_rule (wpAny_pure ⟨_,rfl,wpAny_pure h⟩))
noncomputable def DL (K:PySem.W.Frag) (r:W3):V->Option Int->Option Int->Hp->VK->Prop:=λx lo hi H Q=>∃w G q,bI K H w x/\aH K H G/\r w lo hi G q/\∀v H1 w G1,aI H H1->bI K H1 w v->aH K H1 G1->q w G1->Q v H1
theorem Cr:Ak X (DL X.K vc):=by
 rintro pins s σ H x v vl vu lo hi sl Q I rx hs pl pu ⟨w,G,q,r,g,h,hQ⟩;unfold vc at h;split at h
 ·cases r with
  | @tup a ws xs hh rr=>
    by_cases hw:HT.sIx xs.length 0 lo=0/\HT.sIx xs.length xs.length hi=xs.length
    ·cases rx;obtain ⟨its,rv,ht,hz⟩:=I.tuple (cR.of hh);have hlen:its.toArray.size=xs.length:=by rw [List.size_toArray];exact rv.length.symm
     refine ⟨"tuple",_,PyProof.Rows.slot_tuple_getitem.lookup,ht.typeIs,?_⟩;refine qC ht hs pl pu (by rw [hlen];exact hw) ⟨.ref a,H,I,rfl,?_⟩;rw [nF (by rw [rr.length];exact hw)] at h;exact hQ _ H _ G (aI.refl H) (.tup hh rr) g h
    ·exact yn pins s σ H _ v vl vu lo hi sl Q I rx hs pl pu ⟨a,xs,rfl,cR.of hh,hw,λp hp=>hQ _ _ _ G (aI.new hp _) (.tup aP ((rr.cut lo hi).mono (aI.new hp _))) (g.keep hp _) h⟩
 ·rename_i ns;cases r with
  | scr hh=>
    refine oU pins s σ H _ v vl vu lo hi sl Q I rx hs pl pu ⟨_,_,rfl,hh.sq,λp hp=>hQ _ _ _ _ (aI.new hp _) (.ref p) (g.put (aI.new hp _) ((aJ.ints ns).cut lo hi) ?_) (h.2 p (g.fresh hp))⟩;exact Nat.le_trans (ig _ _ _) (by rw [List.length_map];exact h.1)
 ·obtain ⟨xs,e,h⟩:=h;cases r;obtain ⟨hl,zs,e1,rr⟩:=g _ _ e;exact oU pins s σ H _ v vl vu lo hi sl Q I rx hs pl pu ⟨_,zs,rfl,cW.of e1,λp hp=>hQ _ _ _ _ (aI.new hp _) (.ref p) (g.put (aI.new hp _) (rr.cut lo hi) (Nat.le_trans (ig _ _ _) hl)) (h p (g.fresh hp))⟩
 ·exact h.elim
theorem fU:bootBuiltins "isinstance"=some (.builtin "isinstance"):=by decide+kernel
noncomputable def yF (G:Gp):W->Option String
 | .non=>some "NoneType"
 | .bl _=>some "bool"
 | .int _=>some "int"
 | .str _=>some "str"
 | .tup _=>some "tuple"
 | .ref a=>match G a with | some (.lst _)=>some "list" | some .dct=>some "dict" | some (.dic _)=>some "dict" | _=>none
 | .scr _=>none
noncomputable def nG:String->String->Bool
 | "int","int"=>true
 | "bool","int"=>true
 | "bool","bool"=>true
 | "tuple","tuple"=>true
 | "list","list"=>true
 | "str","str"=>true
 | _,_=>false
noncomputable def qD (T:String):Prop:=T="int"∨T="bool"∨T="tuple"∨T="list"∨T="str"
theorem yG {K:PySem.W.Frag} {t T:String} (ht:t="NoneType"∨t="bool"∨t="int"∨t="str"∨t="tuple"∨t="list"∨t="dict") (hT:qD T):kitOne K (.type t) (.type T)=some (nG t T):=by
 rcases ht with rfl | rfl | rfl | rfl | rfl | rfl | rfl<;> rcases hT with rfl | rfl | rfl | rfl | rfl<;> first | rfl | kernel_rfl | decide+kernel
noncomputable def Az (T:String) (te:WE):WE:=λτ G q=>te τ G λx G1=>match yF G1 x with | some t=>q (.bl (nG t T)) G1 | none=>False
theorem sg {K:PySem.W.Frag} {H:Hp} {G:Gp} {w:W} {v:V} {t:String} (g:aH K H G) (r:bI K H w v) (e:yF G w=some t):gz K H v (.type t)/\(t="NoneType"∨t="bool"∨t="int"∨t="str"∨t="tuple"∨t="list"∨t="dict"):=by
 unfold yF at e;cases r with
 | non=>cases e;exact ⟨.non,by simp⟩
 | bl b=>cases e;exact ⟨.bl b,by simp⟩
 | int i=>cases e;exact ⟨.int i,by simp⟩
 | str x=>cases e;exact ⟨.str x,by simp⟩
 | tup h _=>cases e;exact ⟨.tup h,by simp⟩
 | scr h=>cases e
 | ref a=>
   simp only at e;split at e
   ·rename_i ws e1;cases e;obtain ⟨_,xs,e2,_⟩:=g a _ e1;exact ⟨.lst e2,by simp⟩
   ·rename_i e1;cases e;exact ⟨.dK (g a _ e1),by simp⟩
   ·rename_i kvs e1;cases e;obtain ⟨_,kvs',e2,_⟩:=g a _ e1;exact ⟨.dK e2,by simp⟩
   ·cases e
theorem AA {T:String} (hT:qD T) {pins:List (Addr×Obj)} {σ:St} {H:Hp} {s:Shared} {v:V} {u:Value} {w:W} {G:Gp} {q:WK} {Q:VK} (I:aA X pins σ H s) (ru:aZ v u) (r:bI X.K H w v) (g:aH X.K H G)
 (h:match yF G w with | some t=>q (.bl (nG t T)) G | none=>False) (hQ:∀v H1 w G1,aI H H1->bI X.K H1 w v->aH X.K H1 G1->q w G1->Q v H1):
 wpAny (model X.prog X.w) X.A (call (.builtin "isinstance") [u,.type T]) (EP X pins σ Q) X.xe s:=by
 split at h
 ·rename_i t e;obtain ⟨ty,hk⟩:=sg g r e;exact qr I ru ty (yG hk hT) λtk=>⟨.bl _,H,I.tok tk,rfl,hQ _ H _ G (aI.refl H) (.bl _) g h⟩
 ·exact h.elim
theorem nH {T:String} {x:Str} {e:Expr} {te:WE} {p p2 pos:Pos} (hT:qD T) (hv:bootBuiltins x=some (.type T)) (hm:X.mg x=none) (hgx:Gl X x) (hm1:X.mg "isinstance"=none) (hg1:Gl X "isinstance") (he:QE X e te) (hn:x≠"__name__":=by decide) (hd:(x==("__debug__":Str))=false:=by decide)
 (hs1:starEach [e,.Name x p2] X.env=(false,eval e X.env)::starEach [.Name x p2] X.env:=by rfl) (hs2:starEach [.Name x p2] X.env=(false,eval (.Name x p2) X.env)::starEach [] X.env:=by rfl)
 (hpl:(backTo pos (starEach [.Name x p2] X.env)).any (·.1)=false:=by rfl):QE X (.Call (.Name "isinstance" p) [e,.Name x p2] [] pos) (Az T te):=by
 have hb:PE X (.Name x p2) (tC (.ty T)):=oJ hgx hm hv rfl hn hd;have ha:PA X [e,.Name x p2] (iO (jw X.K te) (iO (tC (.ty T)) qt)):=bL he (bL hb pa_nil hs2) hs1;have hc:eP X (.builtin "isinstance") (λvs H Q=>∃(v:V) (w:W) (G:Gp) (q:WK),vs=[v,.ty T]/\bI X.K H w v/\aH X.K H G/\(match yF G w with | some t=>q (.bl (nG t T)) G | none=>False)/\∀v H1 w G1,aI H H1->bI X.K H1 w v->aH X.K H1 G1->q w G1->Q v H1):=by
  rintro pins s σ H xs us Q I r ⟨v,w,G,q,e1,r1,g1,h,hQ⟩;subst e1;obtain ⟨u,u2,rfl,ru,ru2⟩:=oK r;cases (show u2=Value.type T from ru2);exact AA hT I ru r1 g1 h hQ
 exact (eU hc hg1 hm1 fU ha (by decide) (by decide) hs1 hpl).imp λσ H Q z0=>z0.el λτ G q hs hg ht hQ=>⟨τ,G,_,hs,hg,ht,λv H1 w G1 t1 r1 g1 q1=>
  ⟨v,w,G1,q,rfl,r1,g1,q1,λv2 H2 w2 G2 t2=>hQ v2 H2 w2 G2 (t1.trans t2)⟩⟩
noncomputable def yH:List W->Gp->WK->Prop:=λws G q=>match ws with
 | [.ref a]=>∃ns:List Int,G a=some (.lst (ns.map W.int))/\q (.int ns.sum) G
 | _=>False
theorem aJ.ints_of {K:PySem.W.Frag} {H:Hp}:∀{ns:List Int} {vs:List V},aJ K H (ns.map W.int) vs->vs=ns.map V.int
 | [],_,r=>by cases r;rfl
 | n::ns,_,r=>by
   cases r with
   | cons r rs=>
     cases r;rw [aJ.ints_of rs]
     rfl
theorem AB (hc:X.calm=true):eR X (.builtin "sum") yH:=by
 rintro pins s σ H xs us Q I r ⟨ws,G,q,rw',g,h,hQ⟩;unfold yH at h;split at h
 ·rename_i a;obtain ⟨ns,e,h⟩:=h;obtain ⟨v,rfl,r1⟩:=rw'.one;cases r1;obtain ⟨_,zs,e1,rr⟩:=g a _ e;obtain rfl:=rr.ints_of;obtain ⟨u,rfl,ru⟩:=fy r;cases (show u=Value.ref a from ru);obtain ⟨its,rv,p,hz⟩:=I.list (cW.of e1);have hi:IntsAre its ns:=L2.intsAre_of rv;obtain ⟨ys,ey⟩:=hi.allInts.items;have hn:(ys.toList.map (·.1))=ns:=by rw [←nums_intItems,←ey,←hi.numsOf]
  have hl:s.heap.IsList a (intItems ys):=by rw [←ey];exact p.isList
  refine sum_intListG (I.ok.hd hc) hl λh' tk t' hk=>⟨.int _,H,I.kept hk,⟨t',rfl⟩,?_⟩;have es:preSum (numAt ys) ys.size=ns.sum:=by rw [preSum_eq,List.take_of_length_le (by simp),hn]
  rw [es];exact hQ _ H _ G (aI.refl H) (.int _) g h
 ·exact h.elim
noncomputable def AC (to te:WE):WE:=λτ G q=>to τ G λx G1=>match x with
 | .ref a=>(∃xs,G1 a=some (.lst xs))/\te τ G1 λy G2=>∃ys,G2 a=some (.lst ys)/\ys.length+1<=100000/\q .non (aG G2 a (.lst (ys++[y])))
 | _=>False
theorem eX {o e:Expr} {to te:WE} {apos cpos:Pos} (ho:QE X o to) (he:QE X e te)
 (hbase:attributeBase o "append" X.env (eval o X.env)=eval o X.env:=by rfl)
 (hfew:((backTo cpos (starEach [e] X.env)).all (λx=>!x.1)&&(backToKw cpos (keywordEach [] X.env)).all (λx=>x.1.isSome)
   &&decide (([e]:List Expr).length+([]:List Keyword).length+(if ([]:List Keyword).isEmpty then 0 else 1)<30))=true:=by rfl)
 (hline:(apos.endLine==cpos.line)=true:=by rfl) (hs:starEach [e] X.env=(false,eval e X.env)::starEach [] X.env:=by rfl):
 QE X (.Call (.Attribute o "append" apos) [e] [] cpos) (AC to te):=
 (wR PySem.F.plainAttrs_list PySem.F.slot_list_append PySem.F.type_list_append qz ho (bL he pa_nil hs) hbase hfew hline hs rfl).imp λσ H Q z0=>z0.el λτ G q hs hg ht hQ=>
   ⟨τ,G,_,hs,hg,ht,λv H1 w G1 t1 r1 g1 q1=>by
     split at q1
     ·rename_i a;cases r1;obtain ⟨⟨xs,e1⟩,q1⟩:=q1;obtain ⟨_,xs',h1,_⟩:=g1 a _ e1;refine ⟨.inl ⟨rfl,xs',cW.of h1⟩,τ,G1,_,hs.mono t1,g1,q1,λv2 H2 w2 G2 t2 r2 g2 q2=>?_⟩;obtain ⟨ys,e2,hl,q2⟩:=q2;obtain ⟨_,ys',h2,rr⟩:=g2 a _ e2;refine ⟨a,ys',v2,rfl,rfl,h2,?_,?_⟩
      ·rw [←rr.length];exact bJ hl
      ·exact hQ _ _ _ _ ((t1.trans t2).trans (aI.lst h2 _)) .non (g2.put (aI.lst h2 _) (rr.append (.cons r2 .nil)) (by rw [List.length_append];exact hl)) q2
     ·exact q1.elim⟩
end
structure qE (K:PySem.W.Frag) (J:It) (ws:List W) (C:Gp->Prop) (H0:Hp):Prop where
 stop:∀i H G,aI H0 H->aH K H G->C G->ws.length<=i->J.stop i H
 go:∀i w H G,aI H0 H->aH K H G->C G->ws[i]?=some w->J.go i H/\∀x H',J.yld i H x H'->aI H H'/\bI K H' w x/\aH K H' G
noncomputable abbrev WI:=dC->Gp->(List W->(Gp->Prop)->Gp->Prop)->Prop
noncomputable def LI (K:PySem.W.Frag) (t:WI):TI:=λσ H R=>∃τ G r,bg K H τ σ/\aH K H G/\t τ G r/\∀J H1 ws C G1,aI H H1->aH K H1 G1->qE K J ws C H1->r ws C G1->R J H1
noncomputable def QI (X:Cx) (tg iter:Expr) (t:WI):Prop:=PI X tg iter (LI X.K t)
section
variable {X:Cx} {tg:Expr}
theorem PI.imp {e:Expr} {t t':TI} (h:PI X tg e t) (f:∀σ H R,t' σ H R->t σ H R):PI X tg e t':=λpins s σ H R I q=>h pins s σ H R I (f _ _ _ q)
theorem ve {K:PySem.W.Frag} {a:Addr} {ws:List W} {xs:List V} {H:Hp} (h:H a=some (.tup xs)) (r:aJ K H ws xs):qE K (B2 K a) ws (λ_=>True) H where
 stop:=λi H1 G t g _ hl=>⟨xs,cR.of (t.tup _ _ h),by rw [←r.length];exact hl⟩
 go:=λi w H1 G t g _ e=>by
  obtain ⟨v,e1,rv⟩:=r.get e;refine ⟨⟨xs,v,cR.of (t.tup _ _ h),e1⟩,λx H' z9=>?_⟩;obtain ⟨eH,hy⟩:=z9;subst eH;have e2:=hy xs (cR.of (t.tup _ _ h));rw [e1] at e2;cases e2;exact ⟨aI.refl _,rv.mono t,g⟩
theorem vf {K:PySem.W.Frag} {a:Addr} {ws:List W} {H:Hp}:qE K (BH K a) ws (λG=>G a=some (.lst ws)) H where
 stop:=λi H1 G t g e hl=>by
  obtain ⟨_,xs,h1,r⟩:=g a _ e;exact ⟨xs,cW.of h1,by rw [←r.length];exact hl⟩
 go:=λi w H1 G t g eG e=>by
  obtain ⟨_,xs,h1,r⟩:=g a _ eG;obtain ⟨v,e1,rv⟩:=r.get e;refine ⟨⟨xs,v,cW.of h1,e1⟩,λx H' z9=>?_⟩;obtain ⟨eH,hy⟩:=z9;subst eH;have e2:=hy xs (cW.of h1);rw [e1] at e2;cases e2;exact ⟨aI.refl _,rv,g⟩
theorem vg {K:PySem.W.Frag} {a:Addr} {ns:List Int} {H:Hp} (h:wS K H a ns):qE K (BH K a) (ns.map W.int) (λ_=>True) H where
 stop:=λi H1 G t g _ hl=>⟨_,(h.mono t).sq,by simpa using hl⟩
 go:=λi w H1 G t g _ e=>by
  have r:aJ K H1 (ns.map W.int) (ns.map V.int):=aJ.ints ns;obtain ⟨v,e1,rv⟩:=r.get e;refine ⟨⟨_,v,(h.mono t).sq,e1⟩,λx H' z9=>?_⟩;obtain ⟨eH,hy⟩:=z9;subst eH;have e2:=hy _ (h.mono t).sq;rw [e1] at e2;cases e2;exact ⟨aI.refl _,rv,g⟩
noncomputable def jO (C:Gp->Prop) (g:WG) (tb:WS) (d:eW):List W->dC->Gp->Prop
 | [],τ,G=>C G/\d.nx τ G
 | w::ws,τ,G=>C G/\g w τ G λτ2 G2=>tb { d with nx:=jO C g tb d ws,ct:=jO C g tb d ws,bk:=d.nx } τ2 G2
noncomputable def AD (wi:WI) (g:WG) (tb:WS):WS:=λd τ G=>wi τ G λws C G1=>jO C g tb d ws τ G1
theorem kF {iter:Expr} {body:List Stmt} {wi:WI} {g:WG} {tb:WS} {pos:Pos} (hp:PassesOwn (model X.prog X.w) X.A X.env X.xe) (hc:X.calm=true) (hi:QI X tg iter wi) (hg:QG X tg g) (hb:mX X body tb)
 (hs:∀x,foldedSetIterable iter X.env x=pure x:=by intro _;rfl):QS X (.For tg iter body [] pos) (AD wi g tb):=
 (xZ hp hc hi hg hb hs).imp λD σ H z0=>z0.el λτ G d hs hg ht l=>⟨τ,G,_,hs,hg,ht,λJ H1 ws C G1 t1 g1 it q1=>by
   refine ⟨λi m σ2 H2=>∃τ2 G2,m=ws.length-i/\i<=ws.length/\aI H1 H2/\bg X.K H2 τ2 σ2/\aH X.K H2 G2/\jO C g tb d (ws.drop i) τ2 G2,⟨ws.length,τ,G1,by simp,Nat.zero_le _,aI.refl _,hs.mono t1,g1,by simpa using q1⟩,?_⟩;rintro i m σ2 H2 ⟨τ2,G2,rfl,hi,t2,s2,g2,q2⟩
   by_cases hlt:i<ws.length
   ·have ed:ws.drop i=ws[i]::ws.drop (i+1):=List.drop_eq_getElem_cons hlt;rw [ed] at q2;obtain ⟨c2,q2⟩:=q2;obtain ⟨go,yl⟩:=it.go i ws[i] H2 G2 t2 g2 c2 (List.getElem?_eq_getElem hlt);refine .inr ⟨go,λσ3 H3=>∃τ3 G3,aI H1 H3/\bg X.K H3 τ3 σ3/\aH X.K H3 G3/\jO C g tb d (ws.drop (i+1)) τ3 G3,?_,λx H' hy=>?_⟩
    ·rintro σ3 H3 ⟨τ3,G3,t3,s3,g3,q3⟩;exact ⟨ws.length- (i+1),by omega,τ3,G3,rfl,hlt,t3,s3,g3,q3⟩
    ·obtain ⟨tx,rx,gx⟩:=yl x H' hy;refine ⟨ws[i],τ2,G2,_,rx,s2.mono tx,gx,q2,λσ3 H3 τ3 G3 t3 s3 g3 q3=>?_⟩;have tt:=(t2.trans tx).trans t3;have t0:=t1.trans tt;exact ⟨τ3,G3,_,s3,g3,q3,⟨λσ4 H4 τ4 G4 t4 s4 g4 q4=>⟨τ4,G4,tt.trans t4,s4,g4,q4⟩,λv H4 w G4 t4=>l.rt v H4 w G4 (t0.trans t4),λσ4 H4 τ4 G4 t4=>l.nx σ4 H4 τ4 G4 (t0.trans t4),λσ4 H4 τ4 G4 t4 s4 g4 q4=>⟨τ4,G4,tt.trans t4,s4,g4,q4⟩⟩⟩
   ·have e:i=ws.length:=by omega
    subst e;rw [List.drop_length] at q2;exact .inl ⟨it.stop _ H2 G2 t2 g2 q2.1 (Nat.le_refl _),l.nx σ2 H2 τ2 G2 (t1.trans t2) s2 g2 q2.2⟩⟩
end
section
variable {prog:Program} {w:World} {A:Around} {E:Value->Shared->Prop} {s:Shared}
structure ZA (z p r i j a b:Addr):Prop where
 zp:p≠z
 zr:r≠z
 zi:i≠z
 zj:j≠z
 pr:p≠r
 pi:p≠i
 pj:p≠j
 ri:r≠i
 rj:r≠j
 ij:i≠j
 az:a≠z
 ar:a≠r
 ai:a≠i
 aj:a≠j
 bz:b≠z
 br:b≠r
 bi:b≠i
 bj:b≠j
structure ZT (z p r i j a b:Addr) (n:Nat) (f:Value) (h:Heap):Prop where
 hz:IsZip h z p r f
 hp:IsPair h p (.ref i) (.ref j)
 hr:∃x y,IsPair h r x y
 hi:h.IsTupleIter i a n
 hj:h.IsTupleIter j b n
end
section
variable {prog:Program} {w:World} {A:Around} {R:Result->Shared->Prop} {s:Shared}
noncomputable abbrev nox:Value->Shared->Prop:=λ_ _=>False
noncomputable abbrev xi (ifs:List Expr) (env:Env):Sem Bool:=forIn ifs true λc r=>if r=true then do let ok ←isTrue c env (eval c env);pure (ForInStep.yield ok) else pure (ForInStep.yield r)
theorem qF {elt tg iter:Expr} {ifs:List Expr} {scope:Scope} {pos:Pos} {it acc:Value} {env:Env} (I:Nat->Shared->Prop)
 (turn:∀n s,I n s->wpAny (model prog w) A (pyNext it) (λr s1=>match r with
   | none=>R (.ok .next) s1
   | some v=>wpAny (model prog w) A (letOwnedTupleGo tg it v) (λ_ s2=>wpAny (model prog w) A (assign tg env v) (λ_ s3=>wpAny (model prog w) A (xi ifs env) (λok s4=>
      if ok=true then wpAny (model prog w) A (eval elt env) (λx s5=>wpAny (model prog w) A (call (.builtin "list.append") [acc,x]) (λ_ s6=>∃m,m<n/\I m s6) nox s5) nox s4
      else ∃m,m<n/\I m s4) nox s3) nox s2) nox s1) nox s) (n:Nat) (h:I n s):
 codeAny (model prog w) A (.compLoop (.ListComp elt [⟨tg,iter,ifs,0⟩] scope pos) 0 it acc env) R s:=by
 refine codeAny_loop rfl I (λn s hI=>?_) n h;show wpAny _ A ((compTurn (.ListComp elt [⟨tg,iter,ifs,0⟩] scope pos) 0 it acc env).onRaise (λx=>do noteFrame x env;theTreesLotGoes x)) _ _ s;refine wpAny_noted ?_;rw [compTurn_list];refine wpAny_bind (wpAny_standAt (wpAny_bind (wpAny_mono (turn n s hI) (λr s1 h1=>?_) λ_ _ z=>z.elim)));cases r with
 | none=>exact wpAny_pure h1
 | some v=>
   refine wpAny_bind (wpAny_mono h1 (λ_ s2 h2=>wpAny_bind (wpAny_mono h2 (λ_ s3 h3=>wpAny_bind (wpAny_mono h3 (λok s4 h4=>?_) λ_ _ z=>z.elim)) λ_ _ z=>z.elim)) λ_ _ z=>z.elim);cases ok with
   | false=>exact wpAny_pure ⟨rfl,h4⟩
   | true=>
     refine wpAny_bind (wpAny_bind (wpAny_mono h4 (λx s5 h5=>?_) λ_ _ z=>z.elim));exact wpAny_bind (wpAny_mono h5 (λ_ s6 h6=>wpAny_pure (wpAny_pure ⟨rfl,h6⟩)) λ_ _ z=>z.elim)
end
noncomputable def fV (env:Env):List (Str×NameKind)->List (Str×Addr)->List (Str×Addr)
 | [],cs=>cs
 | (n,k)::r,cs=>if k== .free then fV env r ((n,(env.cells.lookup n).getD 0)::cs) else fV env r cs
theorem eF {env:Env} {scope:Scope} (h:∀y∈scope.names,y.2=.free->∃c,env.cells.lookup y.1=some c):closureFor scope env=pure (fV env scope.names []):=by
 unfold closureFor;have key:∀(l:List (Str×NameKind)) (cs:List (Str×Addr)),(∀y∈l,y.2=.free->∃c,env.cells.lookup y.1=some c)->
  (forIn l cs λ(x:Str×NameKind) (r:List (Str×Addr))=>(if (x.2==NameKind.free)=true then (do let y ←cellOf env x.1;pure (ForInStep.yield ((x.1,y)::r))) else pure (ForInStep.yield r):Sem (ForInStep (List (Str×Addr)))))=(pure (fV env l cs):Sem (List (Str×Addr))):=by
  intro l
  induction l with
  | nil=>intro cs _;rfl
  | cons y r ih=>
    intro cs hl;obtain ⟨n,k⟩:=y;rw [List.forIn_cons];unfold fV
    by_cases hk:(k==NameKind.free)=true
    ·have hk':k=.free:=by simpa using hk
     obtain ⟨c,hc⟩:=hl (n,k) List.mem_cons_self hk';simp only [hk,if_true];have e:cellOf env n=pure c:=by unfold cellOf;rw [hc]
     rw [e,hc];simp only [pure_bind,Option.getD_some];exact ih _ λy hy=>hl y (List.mem_cons_of_mem _ hy)
    ·simp only [hk,if_false,Bool.false_eq_true];simp only [pure_bind];exact ih _ λy hy=>hl y (List.mem_cons_of_mem _ hy)
 have:=key scope.names [] h;simp only [bind_pure];exact this
theorem dM {env:Env}:∀{l:List (Str×NameKind)} {cs:List (Str×Addr)},(∀y∈l,y.2=.free->∃c,env.cells.lookup y.1=some c)->(∀x c,cs.lookup x=some c->env.cells.lookup x=some c)->∀x c,(fV env l cs).lookup x=some c->env.cells.lookup x=some c
 | [],_,_,hc,x,c,e=>hc x c e
 | (n,k)::r,cs,hl,hc,x,c,e=>by
   unfold fV at e;have hr:∀y∈r,y.2=.free->∃c,env.cells.lookup y.1=some c:=λy hy=>hl y (List.mem_cons_of_mem _ hy);split at e
   ·rename_i hk;obtain ⟨c0,hc0⟩:=hl (n,k) List.mem_cons_self (by simpa using hk);refine dM hr (λx' c' e'=>?_) x c e;rw [List.lookup_cons] at e';cases hx:x'==n with
    | true=>
      rw [hx] at e';have:x'=n:=by simpa using hx
      subst this;rw [hc0] at e';simp at e';subst e';exact hc0
    | false=>rw [hx] at e';exact hc x' c' e'
   ·exact dM hr hc x c e
theorem eY {env:Env}:∀{l:List (Str×NameKind)} {cs:List (Str×Addr)} {x:Str},((x,NameKind.free)∈l∨∃c,cs.lookup x=some c)->∃c,(fV env l cs).lookup x=some c
 | [],_,_,h=>by
   rcases h with h | h
   ·simp at h
   ·exact h
 | (n,k)::r,cs,x,h=>by
   unfold fV;have keep:(∃c,cs.lookup x=some c)->∃c,((n,(env.cells.lookup n).getD 0)::cs).lookup x=some c:=λ⟨c,e⟩=>by
    rw [List.lookup_cons];cases hx:x==n with
    | true=>exact ⟨_,rfl⟩
    | false=>exact ⟨c,e⟩
   split
   ·rename_i hk;refine eY ?_;rcases h with h | h
    ·rcases List.mem_cons.mp h with h | h
     ·cases h;exact .inr ⟨(env.cells.lookup n).getD 0,by rw [List.lookup_cons];simp⟩
     ·exact .inl h
    ·exact .inr (keep h)
   ·rename_i hk;refine eY ?_;rcases h with h | h
    ·rcases List.mem_cons.mp h with h | h
     ·cases h;exact absurd rfl hk
     ·exact .inl h
    ·exact .inr h
theorem dw {env:Env}:∀{l:List (Str×NameKind)} {x:Str} {k:NameKind},(l.map λ(n,k)=>if (k==NameKind.free&&env.scope.kind== .function&&env.kindOf n==some .cell) then (n,NameKind.cell) else (n,k)).lookup x=some k->(k=.cell∨k=.free)->(∀y∈l,y.2≠ .cell)->(x,NameKind.free)∈l
 | [],_,_,e,_,_=>by simp at e
 | (n,k0)::r,x,k,e,hk,hc=>by
   rw [List.map_cons,List.lookup_cons] at e;have hr:∀y∈r,y.2≠ .cell:=λy hy=>hc y (List.mem_cons_of_mem _ hy);have hn:(if (k0==NameKind.free&&env.scope.kind== .function&&env.kindOf n==some .cell)=true then (n,NameKind.cell) else (n,k0)).1=n:=by split<;> rfl
   rw [hn] at e;cases hx:x==n with
   | false=>rw [hx] at e;exact List.mem_cons_of_mem _ (dw e hk hr)
   | true=>
     rw [hx] at e;have hxn:x=n:=by simpa using hx
     subst hxn;have e':(if (k0==NameKind.free&&env.scope.kind== .function&&env.kindOf x==some .cell)=true then (x,NameKind.cell) else (x,k0)).2=k:=Option.some.inj e
     by_cases hf:k0=.free
     ·subst hf;exact List.mem_cons_self
     ·rw [if_neg (by simp [hf])] at e';have e'':k0=k:=e';subst e'';rcases hk with h | h
      ·exact absurd h (hc _ List.mem_cons_self)
      ·exact absurd h hf
theorem fC {env:Env}:∀{l:List (Str×NameKind)} {x:Str},(l.map λ(n,k)=>if (k==NameKind.free&&env.scope.kind== .function&&env.kindOf n==some .cell) then (n,NameKind.cell) else (n,k)).lookup x=some .local->l.lookup x=some .local
 | [],_,e=>by simp at e
 | (n,k0)::r,x,e=>by
   rw [List.map_cons,List.lookup_cons] at e;rw [List.lookup_cons];have hn:(if (k0==NameKind.free&&env.scope.kind== .function&&env.kindOf n==some .cell)=true then (n,NameKind.cell) else (n,k0)).1=n:=by split<;> rfl
   rw [hn] at e;cases hx:x==n with
   | false=>rw [hx] at e;exact fC e
   | true=>
     rw [hx] at e;have e':(if (k0==NameKind.free&&env.scope.kind== .function&&env.kindOf n==some .cell)=true then (n,NameKind.cell) else (n,k0)).2=NameKind.local:=Option.some.inj e;split at e'
     ·cases e'
     ·exact congrArg some e'
noncomputable def fP (X:Cx) (N:List Str) (scope:Scope) (C:Addr) (fp:List Addr) (s₀:Shared) (H₀:Hp):Cx where
 prog:=X.prog
 w:=X.w
 K:=X.K
 mg:=X.mg
 base:=X.base
 A:=X.A
 N:=N
 s₀:=s₀
 H₀:=H₀
 env:=compEnvC scope (fV X.env scope.names []) C X.env
 outer:=X.stack
 stack:=X.stack
 ex:=fp
 fn:=λ_=>false
 calm:=X.calm
 pn:=[]
 xe:=nox
structure eI (X:Cx) (scope:Scope) (N:List Str) (fv:List (Option Nat)):Prop where
 kind:scope.kind=.function
 nocell:∀y∈scope.names,y.2≠ .cell
 names:∀x∈scope.names,x.2=.local->scope.names.lookup x.1=some .local
 free:∀y∈scope.names,y.2=.free->X.env.scope.names.lookup y.1=some .cell
 fvs:∀(i j:Nat) (x:Str),N[i]?=some x->fv[i]?=some (some j)->X.N[j]?=some x/\X.env.scope.names.lookup x=some .cell/\(x,NameKind.free)∈scope.names
 len:fv.length=N.length
 fvl:∀{x:Str},(x,NameKind.free)∈scope.names->scope.names.lookup x≠some .local
noncomputable def pick {α:Type} (fv:List (Option Nat)) (σ:List (Option α)):List (Option α):=fv.map λo=>o.bind λj=>(σ[j]?).join
theorem lK {α:Type} {fv:List (Option Nat)} {σ:List (Option α)} {i:Nat} {v:α} (h:(pick fv σ)[i]?=some (some v)):∃j,fv[i]?=some (some j)/\σ[j]?=some (some v):=by
 unfold pick at h;rw [List.getElem?_map] at h;cases e:fv[i]? with
 | none=>rw [e] at h;cases h
 | some o=>
   rw [e] at h;cases o with
   | none=>cases h
   | some j=>
     have h':(σ[j]?).join=some v:=Option.some.inj h;refine ⟨j,rfl,?_⟩;cases e2:σ[j]? with
     | none=>rw [e2] at h';cases h'
     | some o=>rw [e2] at h';exact congrArg some h'
theorem sh {K:PySem.W.Frag} {H:Hp} {τ:dC} {σ:St} {fv:List (Option Nat)} (h:bg K H τ σ):bg K H (pick fv τ) (pick fv σ):=by
 refine ⟨by simp [pick],λi w e=>?_⟩;obtain ⟨j,ej,ew⟩:=lK e;obtain ⟨v,ev,r⟩:=h.2 j w ew;refine ⟨v,?_,r⟩;unfold pick;rw [List.getElem?_map,ej];show some ((σ[j]?).join)=_;rw [ev]
 rfl
section
variable {X:Cx} {pins:List (Addr×Obj)} {σ:St} {H H2:Hp} {s s2:Shared} {scope:Scope} {N:List Str} {fv:List (Option Nat)} {fp:List Addr} {C D:Addr}
theorem eI.cells (S:eI X scope N fv) (I:aA X pins σ H s):∀y∈scope.names,y.2=.free->∃c,X.env.cells.lookup y.1=some c:=λy hy hk=>I.ok.has y.1 (.inl (S.free y hy hk))
theorem qG {h4:Heap} {t4:Nat} {m:Str->Option Value} (I:aA X pins σ H2 s2) (S:eI X scope N fv) (hf:∀b∈fp,iK X pins H2 b) (hfo:∀b∈fp,b<s2.heap.objs.size) (keep:∀b o,s2.heap.get? b=some o->h4.get? b=some o)
 (hC:s2.heap.objs.size<=C) (ns:h4.Ns C m):aA (fP X N scope C fp s2 H2) [] (pick fv σ) H2 { s2 with heap:=h4,toks:=t4 }:=by
 have look:∀x c,(fV X.env scope.names []).lookup x=some c->X.env.cells.lookup x=some c:=dM (S.cells I) (λx c e=>by simp at e);refine ⟨⟨I.ok.mod,S.kind,I.ok.glob,I.ok.blt,hC,λx y c e1 e2=>I.ok.inj x y c (look x c e1) (look y c e2),λx hx=>?_,λx c h=>absurd (show false=true from h) Bool.false_ne_true,I.ok.hd,I.ok.frames,.inl rfl,λb hb=>?_,I.bs,Nat.le_trans I.ok.bsz I.sz,λb o e hb=>?_,λb hb hx=>?_,I.stack,I.stkFree⟩,
  rfl,I.bare,Un.kept keep,⟨m,ns,λi x v e1 e2 e3=>?_⟩,λx c e=>?_,I.hok.fresh hC,λx c e=>I.freeC x c (look x c e),λp hp=>absurd (show p∈([]:List (Addr×Obj)) from hp) (by simp),I.hok.kept keep,?_⟩
 ·rcases hx with hx | hx
  ·exact eY (.inl (dw hx (.inl rfl) S.nocell))
  ·exact eY (.inl (dw hx (.inr rfl) S.nocell))
 ·exact ⟨Nat.ne_of_lt (Nat.lt_of_lt_of_le (hfo b hb) hC),λx c e=>(hf b hb).2.2.2.2.1 x c (look x c e)⟩
 ·rcases (hf b hb).2.2.2.1 with z | z
  ·exact I.ok.noex b o e z
  ·exact absurd (Nat.lt_of_lt_of_le (Heap.lt_size e) (Nat.le_trans I.ok.bsz z)) (Nat.lt_irrefl _)
 ·rcases List.mem_cons.mp (I.stkSub b hx) with z | z
  ·exact (hf b hb).2.1 z
  ·exact (hf b hb).2.2.1 z
 ·obtain ⟨j,ej,ev⟩:=lK e2;obtain ⟨h1,h2,h3⟩:=S.fvs i j x e1 ej;obtain ⟨m0,_,hl⟩:=I.loc;obtain ⟨u,r,l⟩:=hl j x v h1 ev (.inr (.inl h2));refine ⟨u,r,.inr ?_⟩;rcases l with ⟨k,_⟩ | ⟨_,c,ec,o,ho,hd⟩
  ·exact absurd (h2.symm.trans k) (by intro z;cases z)
  ·obtain ⟨c',ec'⟩:=eY (env:=X.env) (l:=scope.names) (cs:=[]) (x:=x) (.inl h3);have e':=look x c' ec';rw [ec] at e';cases e';refine ⟨?_,c,ec',o,keep _ _ ho,hd⟩;rcases e3 with e3 | e3 | e3
   ·exact absurd (fC e3) λz=>S.fvl h3 z
   ·exact .inl e3
   ·exact .inr e3
 ·obtain ⟨v,o,ho,hd⟩:=I.cell x c (look x c e);exact ⟨v,o,keep _ _ ho,hd⟩
 ·show (pick fv σ).length=N.length;unfold pick;rw [List.length_map,S.len]
end
noncomputable def bX (C:Gp->Prop) (g:WG) (tt:WT) (te:WE):List W->dC->Gp->List W->(List W->Gp->Prop)->Prop
 | [],_,G,acc,q=>C G/\q acc G
 | w::ws,τ,G,acc,q=>C G/\g w τ G λτ2 G2=>tt τ2 G2 λb G3=>if b=true then te τ2 G3 λv G4=>acc.length+1<=100000/\bX C g tt te ws τ2 G4 (acc++[v]) q else bX C g tt te ws τ2 G3 acc q
noncomputable def xj (X:Cx) (ifs:List Expr) (t:WT):Prop:=
 ∀(pins:List (Addr×Obj)) (s:Shared) (σ:St) (H:Hp) (Q:Bool->Hp->Prop),aA X pins σ H s->yv X.K t σ H Q->wpAny (model X.prog X.w) X.A (xi ifs X.env) (TP X pins σ Q) X.xe s
noncomputable def jP:WT:=λ_ G q=>q true G
theorem fi {X:Cx}:xj X [] jP:=λpins s σ H Q I ⟨τ,G,q,hs,hg,ht,hQ⟩=>wpAny_tests_nil ⟨H,I,hQ true H G (aI.refl H) hg ht⟩
theorem vh {X:Cx} {c:Expr} {t:WT} (h:QT X c t):xj X [c] t:=λpins s σ H Q I hw=>wpAny_tests_one (h pins s σ H Q I hw)
theorem aH.track {K:PySem.W.Frag} {H:Hp} {G:Gp} {p:Addr} {xs:List V} {ws:List W} (h:aH K H G) (e:H p=some (.lst xs)) (r:aJ K H ws xs) (hl:ws.length<=100000):aH K H (aG G p (.lst ws)):=λa g ea=>by
 by_cases hb:a=p
 ·subst hb;rw [ak] at ea;cases ea;exact ⟨hl,xs,e,r⟩
 ·rw [aq hb] at ea;exact h a g ea
section
variable {X:Cx} {pins:List (Addr×Obj)} {σ:St} {H2:Hp} {s2:Shared} {scope:Scope} {N:List Str} {fv:List (Option Nat)} {fp:List Addr} {tg elt iter:Expr} {ifs:List Expr} {pos:Pos} {J:It} {it:Addr} {tn:Nat->Heap->Prop}
 {g:WG} {tt:WT} {te:WE} {ws:List W} {Cd:Gp->Prop} {τ:dC} {G:Gp} {q:List W->Gp->Prop}
structure vi (X:Cx) (pins:List (Addr×Obj)) (σ:St) (H2:Hp) (s2:Shared) (G:Gp) (q:List W->Gp->Prop) (D C:Addr) (s':Shared):Prop where
 ex:∃(Hf:Hp) (Gf:Gp) (rs:List W),(∃m,s'.heap.Ns C m)/\aA X pins σ Hf s'/\Hf C=none/\s2.heap.objs.size<=C/\aI H2 Hf/\aH X.K Hf (aG Gf D (.lst rs))/\G D=none/\Gf D=none/\q rs Gf
structure AE (Y:Cx) (fp:List Addr) (tn:Nat->Heap->Prop) (ws:List W) (H2:Hp) (D:Addr) (R:List W->dC->Gp->List W->Prop) (n:Nat) (s:Shared) (i:Nat) (σ1:St) (H1:Hp) (τ1:dC) (G1:Gp) (acc:List W) (vs:List V) (its:List Value):Prop where
 hn:n=ws.length-i
 hi:i<=ws.length
 inv:aA Y [] σ1 H1 s
 st:tn i s.heap
 fr:∀b∈fp,H1 b=none
 hd:H1 D=none
 pl:s.heap.PlainList D its.toArray
 rv:aM vs its
 ra:aJ Y.K H1 acc vs
 tl:aI H2 H1
 rs:bg Y.K H1 τ1 σ1
 rg:aH Y.K H1 G1
 cw:R (ws.drop i) τ1 G1 acc
 hl:acc.length<=100000
theorem eJ (I:aA X pins σ H2 s2) (S:eI X scope N fv) (hc:X.calm=true) (T:lx X.prog X.w X.K tg J fp it tn) (st:tn 0 s2.heap) (hf:∀b∈fp,iK X pins H2 b)
 (hg:∀C,QG (fP X N scope C fp s2 H2) tg g) (htt:∀C,xj (fP X N scope C fp s2 H2) ifs tt) (hte:∀C,QE (fP X N scope C fp s2 H2) elt te)
 (itn:qE X.K J ws Cd H2) (hs:bg X.K H2 τ σ) (gr:aH X.K H2 G) (hw:bX Cd g tt te ws (pick fv τ) G [] q) {RR:Value->Addr->Result->Shared->Prop} {E:Value->Shared->Prop}
 (hRR:∀D C s',vi X pins σ H2 s2 G q D C s'->RR (.ref D) C (.ok .next) s'):
 wpAny (model X.prog X.w) X.A (newList []) (λacc s3=>wpAny (model X.prog X.w) X.A (newFunctionEnv scope X.env.globals (fV X.env scope.names []) [] X.env.qual none .none (some X.env)) (λcenv s4=>
  codeAny (model X.prog X.w) X.A (.compStart (.ListComp elt [⟨tg,iter,ifs,0⟩] scope pos) 0 (.ref it) acc { cenv with scope:=relabel scope X.env }) (RR acc cenv.locals) s4) E s3) E s2:=by
 have hfo:∀b∈fp,b<s2.heap.objs.size:=λb hb=>let ⟨o,e,_⟩:=T.obj _ _ st b hb;Heap.lt_size e;refine wpAny_newObj_type (wpAny_newFunctionEnv S.nocell (by intro y hy;simp at hy) (λh1 hns1 hsb1=>?_) S.kind);dsimp only at hns1 hsb1 ⊢;generalize hP:s2.heap.push { cls:= .type "list",dict:=none,data:= .seq ([]:List Value).toArray }=P at hns1 hsb1 ⊢;generalize hD:s2.heap.objs.size=D at*;have hC:P.objs.size=D+1:=by rw [←hP,Heap.size_push,hD]
 generalize hCC:P.objs.size=C at*;have hDC:D≠C:=by rw [hC];exact Nat.ne_of_lt (Nat.lt_succ_self _)
 have hDleC:D<=C:=by rw [hC];exact Nat.le_succ _
 have old:∀b o,s2.heap.get? b=some o->h1.get? b=some o:=λb o e=>hsb1.extBut b o (Nat.ne_of_lt (Nat.lt_of_lt_of_le (Heap.lt_size e) (by rw [hD];exact hDleC))) (Heap.get?_push_of_some _ (hP▸Heap.get?_push_of_some _ e));have hacc:h1.PlainList D #[]:=⟨0,hsb1.extBut _ _ hDC (Heap.get?_push_of_some _ (by rw [←hP,←hD];exact Heap.get?_push_size _ rfl))⟩;have look:∀x c,(fV X.env scope.names []).lookup x=some c->X.env.cells.lookup x=some c:=dM (S.cells I) (λx c e=>by simp at e);have cD:∀x c,(fV X.env scope.names []).lookup x=some c->c≠D:=λx c e z=>by
  obtain ⟨v,o,ho,_⟩:=I.cell x c (look x c e);exact absurd (Heap.lt_size ho) (by rw [z,hD];exact Nat.lt_irrefl _)
 have sD:D∉ez X.stack:=λhb=>by
  rcases List.mem_cons.mp (I.stkSub D hb) with z | z
  ·exact absurd I.lt (by rw [←z,hD];exact Nat.lt_irrefl _)
  ·exact I.nofs (by rw [hD];exact Nat.le_refl _) z
 have fD:D∉fp:=λhb=>absurd (hfo D hb) (Nat.lt_irrefl _);have fpX:∀{H1:Hp} {ps:List (Addr×Obj)},(∀b∈fp,H1 b=none)->(∀p∈ps,p.1∉fp)->∀b∈fp,iK (fP X N scope C fp s2 H2) ps H1 b:=λ{H1 ps} hn hp b hb=>by
  refine ⟨hn b hb,Nat.ne_of_lt (Nat.lt_of_lt_of_le (hfo b hb) hDleC),λhx=>?_,.inl hb,λx c e=>(hf b hb).2.2.2.2.1 x c (look x c e),λp hp' z=>hp p hp' (z▸hb)⟩;rcases List.mem_cons.mp (I.stkSub b hx) with z | z
  ·exact (hf b hb).2.1 z
  ·exact (hf b hb).2.2.1 z
 have J0:aA (fP X N scope C fp s2 H2) [] (pick fv σ) H2 { s2 with heap:=h1,toks:=s2.toks+([]:List (Str×Value)).length }:=qG I S hf (by rw [hD];exact hfo) old (by rw [hD];exact hDleC) hns1;have loop:codeAny (model X.prog X.w) X.A (.compLoop (.ListComp elt [⟨tg,iter,ifs,0⟩] scope pos) 0 (.ref it) (.ref D) (fP X N scope C fp s2 H2).env) (RR (.ref D) C) { s2 with heap:=h1,toks:=s2.toks+([]:List (Str×Value)).length }:=by
  refine qF (λn s=>∃i σ1 H1 τ1 G1 acc vs its,AE (fP X N scope C fp s2 H2) fp tn ws H2 D (λl τ1 G1 acc=>bX Cd g tt te l τ1 G1 acc q) n s i σ1 H1 τ1 G1 acc vs its) ?_ ws.length
   ⟨0,_,H2,_,G,[],[],[],by simp,Nat.zero_le _,J0,T.keep _ _ _ st λb _ o e=>old b o e,λb hb=>(hf b hb).1,I.hok.fresh (by rw [hD];exact Nat.le_refl _),hacc,.nil,.nil,aI.refl _,sh hs,gr,by simpa using hw,by simp⟩
  rintro n s ⟨i,σ1,H1,τ1,G1,acc,vs,its,rfl,hi,J1,st1,fr1,d1,pl1,rv1,ra1,t1,s1,g1,q1,hl1⟩;obtain ⟨kk,eD⟩:=pl1;have J1p:aA (fP X N scope C fp s2 H2) [(D,{ cls:= .type "list",data:= .seq its.toArray kk })] σ1 H1 s:=J1.pins_of λp hp=>by
   have e:=List.mem_singleton.mp hp;subst e;exact ⟨eD,d1,hDC,sD,λv z=>by cases z⟩
  have pnf:∀p∈[((D,{ cls:= .type "list",data:= .seq its.toArray kk }):Addr×Obj)],p.1∉fp:=λp hp=>by
   have e:=List.mem_singleton.mp hp;subst e;exact fD
  by_cases hlt:i<ws.length
  ·have ed:ws.drop i=ws[i]::ws.drop (i+1):=List.drop_eq_getElem_cons hlt;rw [ed] at q1;obtain ⟨c1,q1⟩:=q1;obtain ⟨go,yl⟩:=itn.go i ws[i] H1 G1 t1 g1 c1 (List.getElem?_eq_getElem hlt);refine bV (T.item (fP X N scope C fp s2 H2) rfl rfl rfl hc i _ s σ1 H1 nox J1p (fpX fr1 pnf) st1 go) λr s4 z9=>?_;obtain ⟨u,hr,h4⟩:=z9;subst hr;refine bV h4 λ_ s5 z9=>?_;obtain ⟨x,H5,I5,r5,y5,st5,fr5⟩:=z9;obtain ⟨tx,rx,gx⟩:=yl x H5 y5;have I5':=I5.pinned (fpX fr5 pnf) (T.obj _ _ st5);refine bV (hg C _ s5 σ1 H5 x u (λσ6 H6=>∃τ6 G6,aI H5 H6/\bg X.K H6 τ6 σ6/\aH X.K H6 G6/\tt τ6 G6 λb G3=>if b=true then te τ6 G3 λv G4=>acc.length+1<=100000/\bX Cd g tt te (ws.drop (i+1)) τ6 G4 (acc++[v]) q else bX Cd g tt te (ws.drop (i+1)) τ6 G3 acc q) I5' r5
    ⟨ws[i],τ1,G1,_,rx,s1.mono tx,gx,q1,λσ6 H6 τ6 G6 t6 s6 g6 q6=>⟨τ6,G6,t6,s6,g6,q6⟩⟩) λ_ s6 ⟨σ6,H6,I6,τ6,G6,t6,rs6,g6,q6⟩=>?_
   refine bV (htt C _ s6 σ6 H6 (λb H7=>∃G7,aI H6 H7/\aH X.K H7 G7/\(if b=true then te τ6 G7 λv G4=>acc.length+1<=100000/\bX Cd g tt te (ws.drop (i+1)) τ6 G4 (acc++[v]) q else bX Cd g tt te (ws.drop (i+1)) τ6 G7 acc q)) I6
    ⟨τ6,G6,_,rs6,g6,q6,λb H7 G7 t7 g7 q7=>⟨G7,t7,g7,q7⟩⟩) λok s7 ⟨H7,I7,G7,t7,g7,q7⟩=>?_
   have t17:aI H1 H7:=(tx.trans t6).trans t7
   -- what the pins keep up to a later state
   have keepFp:∀{σ8:St} {H8:Hp} {s8:Shared},aA (fP X N scope C fp s2 H2) ([(D,{ cls:= .type "list",data:= .seq its.toArray kk })]++iL fp s5.heap) σ8 H8 s8->tn (i+1) s8.heap/\(∀b∈fp,H8 b=none)/\H8 D=none/\s8.heap.get? D=some { cls:= .type "list",data:= .seq its.toArray kk }/\∀b∈fp,∃o,s8.heap.get? b=some o:=λ{σ8 H8 s8} I8=>by
    refine ⟨T.keep _ _ _ st5 λb hb o e=>(I8.pin (b,o) (List.mem_append_right _ (List.mem_append_right _ (dq hb e)))).1,λb hb=>?_,(I8.pin (D,_) (List.mem_append_right _ (List.mem_append_left _ List.mem_cons_self))).2.1,(I8.pin (D,_) (List.mem_append_right _ (List.mem_append_left _ List.mem_cons_self))).1,λb hb=>?_⟩
    ·obtain ⟨o,e,_⟩:=T.obj _ _ st5 b hb;exact (I8.pin (b,o) (List.mem_append_right _ (List.mem_append_right _ (dq hb e)))).2.1
    ·obtain ⟨o,e,_⟩:=T.obj _ _ st5 b hb;exact ⟨o,(I8.pin (b,o) (List.mem_append_right _ (List.mem_append_right _ (dq hb e)))).1⟩
   cases ok with
   | false=>
     rw [if_neg Bool.false_ne_true] at q7 ⊢;obtain ⟨k1,k2,k3,k4,_⟩:=keepFp I7;exact ⟨ws.length- (i+1),by omega,i+1,σ6,H7,τ6,G7,acc,vs,its,rfl,hlt,I7.pins_of λp hp=>absurd hp (by simp),k1,k2,k3,⟨kk,k4⟩,rv1,ra1.mono t17,t1.trans t17,rs6.mono t7,g7,q7,hl1⟩
   | true=>
     rw [if_pos rfl] at q7 ⊢;refine bV (hte C _ s7 σ6 H7 (λv H8=>∃w8 G8,aI H7 H8/\bI X.K H8 w8 v/\aH X.K H8 G8/\acc.length+1<=100000/\bX Cd g tt te (ws.drop (i+1)) τ6 G8 (acc++[w8]) q) I7
      ⟨τ6,G7,_,rs6.mono t7,g7,q7,λv H8 w8 G8 t8 r8 g8 q8=>⟨w8,G8,t8,r8,g8,q8⟩⟩) λu8 s8 ⟨v8,H8,I8,rv8,w8,G8,t8,r8,g8,hl8,q8⟩=>?_
     obtain ⟨k1,k2,k3,k4,k5⟩:=keepFp I8;have t18:aI H1 H8:=t17.trans t8;refine wpAny_list_append_plain ⟨kk,k4⟩ (λh9 pl9 sb9=>?_) (by rw [List.size_toArray,←rv1.length,←ra1.length];exact bJ hl1);have I9:aA (fP X N scope C fp s2 H2) [] σ6 H8 { s8 with heap:=h9 }:=(I8.pins_of (pins':=[]) λp hp=>absurd hp (by simp)).turned (t':=s8.toks) (λb o hb e=>(sb9.2 b hb).trans e) k3 hDC (.inr (by show s2.heap.objs.size<=D;rw [hD];exact Nat.le_refl _)) (λx c e=>cD x c e) λp hp=>absurd (show p∈([]:List (Addr×Obj)) from hp) (by simp);refine ⟨ws.length- (i+1),by omega,i+1,σ6,H8,τ6,G8,acc++[w8],vs++[v8],its++[u8],rfl,hlt,I9,T.keep _ _ _ k1 λb hb o e=>(sb9.2 b (λz=>fD (z▸hb))).trans e,k2,k3,by simpa using pl9,rv1.append (.cons rv8 .nil),(ra1.mono t18).append (.cons r8 .nil),t1.trans t18,(rs6.mono t7).mono t8,g8,q8,by rw [List.length_append];exact hl8⟩
  ·have e:i=ws.length:=by omega
   subst e;rw [List.drop_length] at q1;refine bV (T.done (fP X N scope C fp s2 H2) rfl rfl rfl hc _ _ s σ1 H1 nox J1p (fpX fr1 pnf) st1 (itn.stop _ H1 G1 t1 g1 q1.1 (Nat.le_refl _))) λr s4 z9=>?_;obtain ⟨hr,I4⟩:=z9;subst hr;have eD4:=(I4.pin (D,_) (List.mem_append_right _ List.mem_cons_self)).1;have zl:vs.length<=sizeLine:=by rw [←ra1.length];exact bJ hl1
   have hb2:∀b o,s2.heap.get? b=some o->b≠D:=λb o e=>by
    have:=Heap.lt_size e;rw [hD] at this;exact Nat.ne_of_lt this
   refine hRR D C s4 ⟨upd H1 D (.lst vs),G1,acc,let ⟨m,hn,_⟩:=I4.loc;⟨m,hn⟩,?_,?_,by rw [hD];exact hDleC,t1.trans (aI.new d1 _),?_,gr.fresh (I.hok.fresh (by rw [hD];exact Nat.le_refl _)),g1.fresh d1,q1.2⟩
   ·refine I.call' (ch:=fp) I4.os ⟨λb o e n hb hx=>I4.base.keep b o e n hb hx,λb o e n hb hx=>I4.base.slot b o e n hb hx,λb o e n hx=>?_,λb o e hx=>I4.base.there b o e hx,λb xs e=>?_,λb o u e=>?_,λb ps e=>?_⟩ ?_ I4.bare λb hb=>⟨(hf b hb).2.2.2.1,(hf b hb).2.1,λx c e=>(hf b hb).2.2.2.2.1 x c e,λp hp=>(hf b hb).2.2.2.2.2 p hp⟩
    ·rw [ax (hb2 b o e)];exact I4.base.free b o e n hx
    ·rw [ax (bf (I4.base.tups b xs e) d1)];exact I4.base.tups b xs e
    ·rw [ax (bf (I4.base.frzs b o u e) d1)];exact I4.base.frzs b o u e
    ·obtain ⟨more,e'⟩:=I4.base.tbls b ps e;exact ⟨more,by rw [ax (bf e' d1)];exact e'⟩
    ·intro b u e
     by_cases hbD:b=D
     ·subst hbD;rw [aP] at e;cases e;exact ⟨zl,its,kk,rv1,eD4⟩
     ·rw [ax hbD] at e;exact (I4.hok b u e).stay (λc v _ q=>q) (λc q=>by rw [ax (bf q d1)];exact q) λc xs q=>by rw [ax (bf q d1)];exact q
   ·rw [ax (Ne.symm hDC)];exact I4.free
   ·exact (g1.upd (aI.new d1 _) (g1.fresh d1)).track aP (ra1.mono (aI.new d1 _)) hl1
 exact codeAny_compStart_list loop (T.self _ 0 _ _ _ (T.keep _ _ _ st λb _ o e=>old b o e) loop)
noncomputable def si (wi:WI) (fv:List (Option Nat)) (g:WG) (tt:WT) (te:WE):WE:=λτ G q=>wi τ G λws Cd G1=>bX Cd g tt te ws (pick fv τ) G1 [] λrs G2=>∀p,G1 p=none->q (.ref p) (aG G2 p (.lst rs))
theorem kG {wi:WI} (S:eI X scope N fv) (hc:X.calm=true) (hi:QI X tg iter wi) (hg:∀C fp s2 H2,QG (fP X N scope C fp s2 H2) tg g) (htt:∀C fp s2 H2,xj (fP X N scope C fp s2 H2) ifs tt) (hte:∀C fp s2 H2,QE (fP X N scope C fp s2 H2) elt te)
 (hs:∀x,foldedSetIterable iter X.env x=pure x:=by intro _;rfl):QE X (.ListComp elt [⟨tg,iter,ifs,0⟩] scope pos) (si wi fv g tt te):=by
 rintro pins s σ H Q I ⟨τ,G,q,hτ,hG,ht,hQ⟩;rw [eval_ListComp];refine wpAny_comprehension_free (use:=none) rfl hs (eF (S.cells I)) S.kind S.names (bV (hi pins s σ H (λJ H1=>∃ws Cd G1,aI H H1/\aH X.K H1 G1/\qE X.K J ws Cd H1/\bX Cd g tt te ws (pick fv τ) G1 [] λrs G2=>∀p,G1 p=none->q (.ref p) (aG G2 p (.lst rs))) I
  ⟨τ,G,_,hτ,hG,ht,λJ H1 ws C G1 t1 g1 it r1=>⟨ws,C,G1,t1,g1,it,r1⟩⟩) λv s1 h1=>bV h1 λitv s2 h2=>?_)
 obtain ⟨it,fp,tn,J,H2,e,I2,T,st2,f2,ws,Cd,G1,t1,g1,itn,hw⟩:=h2;subst e;refine eJ (RR:=λacc C=>compPost (model X.prog X.w) X.A X.xe none (EP X pins σ Q) acc C) I2 S hc T st2 f2 (λC=>hg C fp s2 H2) (λC=>htt C fp s2 H2) (λC=>hte C fp s2 H2) itn (hτ.mono t1) g1 hw λD C s' z9=>?_;obtain ⟨Hf,Gf,rs,⟨m,hn⟩,I5,hC,hCs,t5,g5,hD,hD2,q5⟩:=z9;refine ⟨m,hn,λh' sb=>?_⟩;have hlt:C≠X.env.locals:=λz=>absurd I2.lt (Nat.not_lt.mpr (z▸hCs));have I6:aA X pins σ Hf { s' with heap:=h' }:=I5.turned (t':=s'.toks) (λb o hb e=>(sb.2 b hb).trans e) hC hlt (.inr (Nat.le_trans I2.sz hCs)) (λx c e z=>by
  obtain ⟨v,o,ho,_⟩:=I2.cell x c e;exact absurd (Heap.lt_size ho) (Nat.not_lt.mpr (z▸hCs))) λp hp z=>absurd (Heap.lt_size (I2.pin p hp).1) (Nat.not_lt.mpr (z▸hCs))
 exact ⟨.ref D,Hf,I6,rfl,hQ _ Hf _ _ (t1.trans t5) (.ref D) g5 (q5 D hD)⟩
theorem vj (i:Nat) {y:Str} {py spos:Pos} {wi:WI} (S:eI X scope N fv) (hc:X.calm=true) (hN:X.N.Nodup) (hiN:X.N[i]?=some y) (hy:uJ X.env.scope y) (hi:QI X tg iter wi) (hg:∀C fp s2 H2,QG (fP X N scope C fp s2 H2) tg g) (htt:∀C fp s2 H2,xj (fP X N scope C fp s2 H2) ifs tt) (hte:∀C fp s2 H2,QE (fP X N scope C fp s2 H2) elt te)
 (hsw:swapsWith (.ListComp elt [⟨tg,iter,ifs,0⟩] scope pos) (some (.Name y py)) spos.line X.env=pure true:=by rfl) (hs:∀x,foldedSetIterable iter X.env x=pure x:=by intro _;rfl) (hfn:X.fn y=true∨X.env.scope.names.lookup y=some .local:=by first | exact .inl rfl | exact .inr rfl | assumption):
 QS X (.Assign [.Name y py] (.ListComp elt [⟨tg,iter,ifs,0⟩] scope pos) spos) (u6 (si wi fv g tt te) (cZ i)):=by
 rintro pins s σ H D0 I ⟨τ,G,d,hτ,hG,ht,l⟩;rw [exec_Assign_Name_used _ _ _ _ hsw];refine wpAny_bind (wpAny_standAt (wpAny_bind ?_));show wpAny _ _ (do let _ ←comprehension (.ListComp elt [⟨tg,iter,ifs,0⟩] scope pos) scope X.env _ (newList []) false (eval iter X.env) (some (assign (.Name y py) X.env))) _ _ s;refine wpAny_bind (wpAny_mono (wpAny_comprehension_free (use:=some (assign (.Name y py) X.env)) (Q:=λ_ s'=>SP X pins D0 .next s') rfl hs (eF (S.cells I)) S.kind S.names (bV (hi pins s σ H (λJ H1=>∃ws Cd G1,aI H H1/\aH X.K H1 G1/\qE X.K J ws Cd H1/\bX Cd g tt te ws (pick fv τ) G1 [] λrs G2=>∀p,G1 p=none->cZ i (.ref p) τ (aG G2 p (.lst rs)) d.nx) I
  ⟨τ,G,_,hτ,hG,ht,λJ H1 ws C G1 t1 g1 it r1=>⟨ws,C,G1,t1,g1,it,r1⟩⟩) λv s1 h1=>bV h1 λitv s2 h2=>?_)) (λ_ s' hq=>wpAny_pure (wpAny_pure hq)) λ_ _ e=>e)
 obtain ⟨it,fp,tn,J,H2,e,I2,T,st2,f2,ws,Cd,G1,t1,g1,itn,hw⟩:=h2;subst e;refine eJ (RR:=λacc C=>compPost (model X.prog X.w) X.A X.xe (some (assign (.Name y py) X.env)) (λ_ s'=>SP X pins D0 .next s') acc C) I2 S hc T st2 f2 (λC=>hg C fp s2 H2) (λC=>htt C fp s2 H2) (λC=>hte C fp s2 H2) itn (hτ.mono t1) g1 hw λD C s' z9=>?_;obtain ⟨Hf,Gf,rs,⟨m,hn⟩,I5,hC,hCs,t5,g5,hD,hD2,q5⟩:=z9;have hlt:C≠X.env.locals:=λz=>absurd I2.lt (Nat.not_lt.mpr (z▸hCs));have hcell:∀x c,X.env.cells.lookup x=some c->c≠C:=λx c e z=>by
  obtain ⟨v,o,ho,_⟩:=I2.cell x c e;exact absurd (Heap.lt_size ho) (Nat.not_lt.mpr (z▸hCs))
 show wpAny _ _ (assign (.Name y py) X.env (.ref D)) _ _ s';refine wpAny_assign_Name (gt I5 hN hiN hy (v:= .ref D) rfl (λs6 I6 z9=>?_) hfn);obtain ⟨a,sb6,ha⟩:=z9;have haC:C≠a:=by
  rcases ha with z | z
  ·rw [z];exact hlt
  ·exact Ne.symm (hcell y a z)
 refine ⟨m,hn.sameBut sb6 haC,λh' sb=>?_⟩;have I7:aA X pins (σ.set i (some (.ref D))) Hf { s6 with heap:=h' }:=I6.turned (t':=s6.toks) (λb o hb e=>(sb.2 b hb).trans e) hC hlt (.inr (Nat.le_trans I2.sz hCs)) hcell λp hp z=>absurd (Heap.lt_size (I2.pin p hp).1) (Nat.not_lt.mpr (z▸hCs));exact ⟨_,Hf,I7,l.nx _ Hf _ _ (t1.trans t5) ((hτ.mono (t1.trans t5)).set (.ref D) i) g5 (q5 D hD)⟩
noncomputable def nI (wi:WI) (fv:List (Option Nat)) (g:WG) (tt:WT) (te:WE):WE:=λτ G q=>wi τ G λws Cd G1=>bX Cd g tt te ws (pick fv τ) G1 [] λrs G2=>∀p,G1 p=none->G2 p=none->q (.ref p) (aG G2 p (.lst rs))
theorem sj {wi:WI} (S:eI X scope N fv) (hc:X.calm=true) (hi:QI X tg iter wi) (hg:∀C fp s2 H2,QG (fP X N scope C fp s2 H2) tg g) (htt:∀C fp s2 H2,xj (fP X N scope C fp s2 H2) ifs tt) (hte:∀C fp s2 H2,QE (fP X N scope C fp s2 H2) elt te)
 (hs:∀x,foldedSetIterable iter X.env x=pure x:=by intro _;rfl):QE X (.ListComp elt [⟨tg,iter,ifs,0⟩] scope pos) (nI wi fv g tt te):=by
 rintro pins s σ H Q I ⟨τ,G,q,hτ,hG,ht,hQ⟩;rw [eval_ListComp];refine wpAny_comprehension_free (use:=none) rfl hs (eF (S.cells I)) S.kind S.names (bV (hi pins s σ H (λJ H1=>∃ws Cd G1,aI H H1/\aH X.K H1 G1/\qE X.K J ws Cd H1/\bX Cd g tt te ws (pick fv τ) G1 [] λrs G2=>∀p,G1 p=none->G2 p=none->q (.ref p) (aG G2 p (.lst rs))) I
  ⟨τ,G,_,hτ,hG,ht,λJ H1 ws C G1 t1 g1 it r1=>⟨ws,C,G1,t1,g1,it,r1⟩⟩) λv s1 h1=>bV h1 λitv s2 h2=>?_)
 obtain ⟨it,fp,tn,J,H2,e,I2,T,st2,f2,ws,Cd,G1,t1,g1,itn,hw⟩:=h2;subst e;refine eJ (RR:=λacc C=>compPost (model X.prog X.w) X.A X.xe none (EP X pins σ Q) acc C) I2 S hc T st2 f2 (λC=>hg C fp s2 H2) (λC=>htt C fp s2 H2) (λC=>hte C fp s2 H2) itn (hτ.mono t1) g1 hw λD C s' z9=>?_;obtain ⟨Hf,Gf,rs,⟨m,hn⟩,I5,hC,hCs,t5,g5,hD,hD2,q5⟩:=z9;refine ⟨m,hn,λh' sb=>?_⟩;have hlt:C≠X.env.locals:=λz=>absurd I2.lt (Nat.not_lt.mpr (z▸hCs));have I6:aA X pins σ Hf { s' with heap:=h' }:=I5.turned (t':=s'.toks) (λb o hb e=>(sb.2 b hb).trans e) hC hlt (.inr (Nat.le_trans I2.sz hCs)) (λx c e z=>by
  obtain ⟨v,o,ho,_⟩:=I2.cell x c e;exact absurd (Heap.lt_size ho) (Nat.not_lt.mpr (z▸hCs))) λp hp z=>absurd (Heap.lt_size (I2.pin p hp).1) (Nat.not_lt.mpr (z▸hCs))
 exact ⟨.ref D,Hf,I6,rfl,hQ _ Hf _ _ (t1.trans t5) (.ref D) g5 (q5 D hD hD2)⟩
theorem lL (i:Nat) {y:Str} {py spos:Pos} {wi:WI} (S:eI X scope N fv) (hc:X.calm=true) (hN:X.N.Nodup) (hiN:X.N[i]?=some y) (hy:uJ X.env.scope y) (hi:QI X tg iter wi) (hg:∀C fp s2 H2,QG (fP X N scope C fp s2 H2) tg g) (htt:∀C fp s2 H2,xj (fP X N scope C fp s2 H2) ifs tt) (hte:∀C fp s2 H2,QE (fP X N scope C fp s2 H2) elt te)
 (hsw:swapsWith (.ListComp elt [⟨tg,iter,ifs,0⟩] scope pos) (some (.Name y py)) spos.line X.env=pure true:=by rfl) (hs:∀x,foldedSetIterable iter X.env x=pure x:=by intro _;rfl) (hfn:X.fn y=true∨X.env.scope.names.lookup y=some .local:=by first | exact .inl rfl | exact .inr rfl | assumption):
 QS X (.Assign [.Name y py] (.ListComp elt [⟨tg,iter,ifs,0⟩] scope pos) spos) (u6 (nI wi fv g tt te) (cZ i)):=by
 rintro pins s σ H D0 I ⟨τ,G,d,hτ,hG,ht,l⟩;rw [exec_Assign_Name_used _ _ _ _ hsw];refine wpAny_bind (wpAny_standAt (wpAny_bind ?_));show wpAny _ _ (do let _ ←comprehension (.ListComp elt [⟨tg,iter,ifs,0⟩] scope pos) scope X.env _ (newList []) false (eval iter X.env) (some (assign (.Name y py) X.env))) _ _ s;refine wpAny_bind (wpAny_mono (wpAny_comprehension_free (use:=some (assign (.Name y py) X.env)) (Q:=λ_ s'=>SP X pins D0 .next s') rfl hs (eF (S.cells I)) S.kind S.names (bV (hi pins s σ H (λJ H1=>∃ws Cd G1,aI H H1/\aH X.K H1 G1/\qE X.K J ws Cd H1/\bX Cd g tt te ws (pick fv τ) G1 [] λrs G2=>∀p,G1 p=none->G2 p=none->cZ i (.ref p) τ (aG G2 p (.lst rs)) d.nx) I
  ⟨τ,G,_,hτ,hG,ht,λJ H1 ws C G1 t1 g1 it r1=>⟨ws,C,G1,t1,g1,it,r1⟩⟩) λv s1 h1=>bV h1 λitv s2 h2=>?_)) (λ_ s' hq=>wpAny_pure (wpAny_pure hq)) λ_ _ e=>e)
 obtain ⟨it,fp,tn,J,H2,e,I2,T,st2,f2,ws,Cd,G1,t1,g1,itn,hw⟩:=h2;subst e;refine eJ (RR:=λacc C=>compPost (model X.prog X.w) X.A X.xe (some (assign (.Name y py) X.env)) (λ_ s'=>SP X pins D0 .next s') acc C) I2 S hc T st2 f2 (λC=>hg C fp s2 H2) (λC=>htt C fp s2 H2) (λC=>hte C fp s2 H2) itn (hτ.mono t1) g1 hw λD C s' z9=>?_;obtain ⟨Hf,Gf,rs,⟨m,hn⟩,I5,hC,hCs,t5,g5,hD,hD2,q5⟩:=z9;have hlt:C≠X.env.locals:=λz=>absurd I2.lt (Nat.not_lt.mpr (z▸hCs));have hcell:∀x c,X.env.cells.lookup x=some c->c≠C:=λx c e z=>by
  obtain ⟨v,o,ho,_⟩:=I2.cell x c e;exact absurd (Heap.lt_size ho) (Nat.not_lt.mpr (z▸hCs))
 show wpAny _ _ (assign (.Name y py) X.env (.ref D)) _ _ s';refine wpAny_assign_Name (gt I5 hN hiN hy (v:= .ref D) rfl (λs6 I6 z9=>?_) hfn);obtain ⟨a,sb6,ha⟩:=z9;have haC:C≠a:=by
  rcases ha with z | z
  ·rw [z];exact hlt
  ·exact Ne.symm (hcell y a z)
 refine ⟨m,hn.sameBut sb6 haC,λh' sb=>?_⟩;have I7:aA X pins (σ.set i (some (.ref D))) Hf { s6 with heap:=h' }:=I6.turned (t':=s6.toks) (λb o hb e=>(sb.2 b hb).trans e) hC hlt (.inr (Nat.le_trans I2.sz hCs)) hcell λp hp z=>absurd (Heap.lt_size (I2.pin p hp).1) (Nat.not_lt.mpr (z▸hCs));exact ⟨_,Hf,I7,l.nx _ Hf _ _ (t1.trans t5) ((hτ.mono (t1.trans t5)).set (.ref D) i) g5 (q5 D hD hD2)⟩
end
section
variable {P:Program} {w:World} {K:PySem.W.Frag}
end
section
variable {X:Cx}
noncomputable def AF (te:WE):WE:=λτ G q=>te τ G λx G1=>match x with | .int i=>q (.int (-i)) G1 | _=>False
theorem iV {a:Expr} {ta:WE} {pos:Pos} (ha:QE X a ta):QE X (.UnaryOp .USub a pos) (AF ta):=
 (Ac yg ha).imp λσ H Q z0=>z0.el λτ G q hs hg ht hQ=>⟨τ,G,_,hs,hg,ht,λv H1 w G1 t1 r1 g1 q1=>by
   split at q1
   ·cases r1;exact ⟨_,rfl,hQ _ H1 _ G1 t1 (.int _) g1 q1⟩
   ·exact q1.elim⟩
noncomputable def Fx (P:Program) (w:World) (K:PySem.W.Frag) (mg:Str->Option Value) (base:Heap) (x:Str) (ps:List Str) (k:Nat) (sp:bZ):Prop:=
 ∃(f:Addr) (fd:FuncData),cB P w K mg base k f fd ps sp/\mg x=some (.ref f)/\keepIn K (.ref f)=true/\bG K fd ps []
theorem AG {x:Str} {ps:List Str} {k:Nat} {sp:bZ} {p pos:Pos} {e:Expr} {es:List Expr} {t:WA} (F:Fx X.prog X.w X.K X.mg X.base x ps k sp) (hr:ay k X.A) (hg:Gl X x) (ha:QA X (e::es) t) (hdb:(x==("__debug__":Str))=false:=by decide)
 (he:starEach (e::es) X.env=(false,eval e X.env)::starEach es X.env:=by rfl) (hpl:(backTo pos (starEach es X.env)).any (·.1)=false:=by rfl):QE X (.Call (.Name x p) (e::es) [] pos) (ie sp [] t):=by
 obtain ⟨f,fd,h1,h2,h3,h4⟩:=F;exact u7 h1 hr hg h2 h3 h4 ha hdb he hpl
theorem nJ {x:Str} {ps:List Str} {k:Nat} {sp:bZ} {p pos:Pos} (F:Fx X.prog X.w X.K X.mg X.base x ps k sp) (hr:ay k X.A) (hg:Gl X x) (hdb:(x==("__debug__":Str))=false:=by decide):QE X (.Call (.Name x p) [] [] pos) (ie sp [] iS):=by
 obtain ⟨f,fd,h1,h2,h3,h4⟩:=F;exact rY h1 hr hg h2 h3 h4 hdb
noncomputable def sk (scope:Scope):List Str:=scope.names.map (·.1)
noncomputable def nK (N:List Str) (scope:Scope):List (Option Nat):=scope.names.map λy=>if y.2== .free then N.findIdx? (·==y.1) else none
noncomputable def so (outer scope:Scope):Bool:=
 scope.kind== .function&&scope.names.all (λy=>y.2 !=.cell)&&scope.names.all (λy=>y.2 !=.local||scope.names.lookup y.1==some .local)&&
  scope.names.all (λy=>y.2 !=.free||(outer.names.lookup y.1==some .cell&&scope.names.lookup y.1 !=some .local))
theorem fJ {scope:Scope} (h:so X.env.scope scope=true):eI X scope (sk scope) (nK X.N scope):=by
 unfold so at h;simp only [Bool.and_eq_true,List.all_eq_true,Bool.or_eq_true,bne_iff_ne,beq_iff_eq,ne_eq] at h;obtain ⟨⟨⟨h1,h2⟩,h3⟩,h4⟩:=h;refine ⟨h1,h2,λx hx hk=>(h3 x hx).resolve_left λz=>z hk,λy hy hk=>((h4 y hy).resolve_left λz=>z hk).1,λi j x e1 e2=>?_,by simp [sk,nK],λ{x} hx=>((h4 _ hx).resolve_left λz=>z rfl).2⟩;unfold sk at e1;unfold nK at e2;rw [List.getElem?_map] at e1 e2;cases e:scope.names[i]? with
 | none=>rw [e] at e1;cases e1
 | some y=>
   rw [e] at e1 e2;have e1':y.1=x:=Option.some.inj e1;have e2':(if (y.2==NameKind.free)=true then X.N.findIdx? (·==y.1) else none)=some j:=Option.some.inj e2;have hm:y∈scope.names:=List.mem_of_getElem? e;split at e2'
   ·rename_i hk;have hk':y.2=.free:=by simpa using hk
    have hy:y=(x,NameKind.free):=by rw [←e1',←hk']
    have:=List.findIdx?_eq_some_iff_getElem.mp e2';obtain ⟨hj,hj2,_⟩:=this;refine ⟨?_,?_,hy▸hm⟩
    ·rw [List.getElem?_eq_getElem hj];have:X.N[j]=y.1:=by simpa using hj2
     rw [this,e1']
    ·have:=((h4 y hm).resolve_left λz=>z hk').1;rw [e1'] at this;exact this
   ·cases e2'
theorem cV (i:Nat) {N:List Str} {scope:Scope} {C:Addr} {fp:List Addr} {s2:Shared} {H2:Hp} {x:Str} {pos:Pos} (hN:N.Nodup) (hi:N[i]?=some x) (hx:uJ (fP X N scope C fp s2 H2).env.scope x) (hf:(fP X N scope C fp s2 H2).fn x=true∨(fP X N scope C fp s2 H2).env.scope.names.lookup x=some .local:=by first | exact .inl rfl | exact .inr rfl):
 QG (fP X N scope C fp s2 H2) (.Name x pos) (cZ i):=eE (X:=fP X N scope C fp s2 H2) i hN hi hx hf
theorem fj:bootBuiltins "tuple"=some (.type "tuple"):=by decide+kernel
theorem nM:bootBuiltins "list"=some (.type "list"):=by decide+kernel
theorem AH:bootBuiltins "max"=some (.builtin "max"):=by decide+kernel
theorem AI:bootBuiltins "sum"=some (.builtin "sum"):=by decide+kernel
theorem aO {body:List Stmt} {R:WS->Prop} {t:WS} (h:mX X body t) (g:R t):∃t,mX X body t/\R t:=⟨t,h,g⟩
end
mutual
noncomputable def W.lt:W->W->Bool
 | .int i,.int j=>decide (i<j)
 | .tup xs,.tup ys=>W.lts xs ys
 | _,_=>false
noncomputable def W.lts:List W->List W->Bool
 | [],[]=>false
 | [],_::_=>true
 | _::_,[]=>false
 | x::xs,y::ys=>if W.eq x y=true then W.lts xs ys else W.lt x y
end
mutual
noncomputable def W.ord:W->W->Bool
 | .int _,.int _=>true
 | .tup xs,.tup ys=>W.ords xs ys
 | _,_=>false
noncomputable def W.ords:List W->List W->Bool
 | x::xs,y::ys=>if W.eq x y=true then W.ords xs ys else W.ord x y
 | _,_=>true
end
noncomputable def kH (A:Around) (s:Shared) (y x:Value) (b:Bool):Prop:=
 ∀(prog:Program) (w:World) (E:Value->Shared->Prop) (Q:Value->Shared->Prop),Q (.bool b) s->wpAny (model prog w) A (richCompare .Lt y x) Q E s
inductive fK (A:Around) (s:Shared):List Value->List Value->Bool->Prop where
 | nn:fK A s [] [] false
 | nc {y:Value} {ys:List Value}:fK A s [] (y::ys) true
 | cn {x:Value} {xs:List Value}:fK A s (x::xs) [] false
 | eq {x y:Value} {xs ys:List Value} {r:Bool} (h:SeqAt.EqAt A s x y true) (t:fK A s xs ys r):fK A s (x::xs) (y::ys) r
 | ne {x y:Value} {xs ys:List Value} {r:Bool} (h:SeqAt.EqAt A s x y false) (t:kH A s x y r):fK A s (x::xs) (y::ys) r
section
open PySem.SeqAt
open PySem.AutoSeq1 (wpAny_loadPart')
open PySem.MeetsSeq PySem.MeetsSeq2 PySem.MeetsSeq3
theorem iW (l b:Addr) (items items2:Array Value) (n n2:Nat) (dd dd2:Option Addr) (sl sl2:Array (Option Value)) (r:Bool):
 Meets (Builtin.«tuple.__lt__» ⟨[.ref l,.ref b],[]⟩)
  (λA R s=>s.heap.get? l=some { cls:= .type "tuple",dict:=dd,data:= .seq items n,slots:=sl }/\s.heap.get? b=some { cls:= .type "tuple",dict:=dd2,data:= .seq items2 n2,slots:=sl2 }/\
    fK A.in1 s items.toList items2.toList r/\R (.ok (.ret (.bool r))) s):=
 .of_wp λprog w A R s h=>by
  obtain ⟨hp,g,d,tk,os⟩:=s;obtain ⟨hl,hb,hc,h⟩:=h;have f2:=AutoSeq1.sub_tuple_tuple
  wp_walk using wpAny_loadPart' hl,wpAny_loadPart' hb,wpAny_forIn_list _ (λbK b s'=>b.1=none/\s'=⟨hp,g,d,tk,os⟩/\∃(vs ws:List Value),bK=vs.zip ws/\
   fK A.in1 ⟨hp,g,d,tk,os⟩ vs ws r/\vs.length+items2.size=ws.length+items.size) _
  case turn=>
   rintro ⟨y,x⟩ bK b s' ⟨hb',rfl,vs,ws,hz,hC,hlen⟩;cases hC with
   | nn=>rw [List.zip_nil_left] at hz;cases hz
   | nc=>rw [List.zip_nil_left] at hz;cases hz
   | cn=>rw [List.zip_nil_right] at hz;cases hz
   | eq he ht=>
     rw [List.zip_cons_cons] at hz;injection hz with hyx hrest
     injection hyx with hy hx
     subst hy hx;simp only [List.length_cons] at hlen;refine wpAny_bind (he prog w _ _ ?_)
     wp_walk
     exact ⟨rfl,rfl,_,_,hrest,ht,by omega⟩
   | ne he ht=>
     rw [List.zip_cons_cons] at hz;injection hz with hyx hrest
     injection hyx with hy hx
     subst hy hx;refine wpAny_bind (he prog w _ _ ?_);have hri:=ht prog w
     wp_walk using hri
     exact ⟨_,rfl,by simpa using h⟩
  case fin=>
   rintro ⟨b1,b2⟩ s' ⟨hb',rfl,vs,ws,hz,hC,hlen⟩;simp only at hb';subst hb';have hv:r=decide (items.size<items2.size):=by
    cases hC with
    | nn=>simp only [List.length_nil] at hlen;exact (decide_eq_false (by omega)).symm
    | nc=>simp only [List.length_nil,List.length_cons] at hlen;exact (decide_eq_true (by omega)).symm
    | cn=>simp only [List.length_nil,List.length_cons] at hlen;exact (decide_eq_false (by omega)).symm
    | eq he ht=>rw [List.zip_cons_cons] at hz;cases hz
    | ne he ht=>rw [List.zip_cons_cons] at hz;cases hz
   rw [hv] at h
   wp_walk
   exact ⟨_,rfl,by simpa [Builtin.Tuple.tupleCompareSizes] using h⟩
  case h=>
   exact ⟨rfl,rfl,_,_,rfl,hc,by simp;omega⟩
end
theorem kH.tuples {A:Around} {s:Shared} {l b:Addr} {items items2:Array Value} {r:Bool} (hl:s.heap.IsTuple l items) (hb:s.heap.IsTuple b items2) (hu:A.units<cLine)
 (hc:fK A.in1 s items.toList items2.toList r):kH A s (.ref l) (.ref b) r:=λprog w E Q h=>by
 obtain ⟨⟨cls,dd,data,sl⟩,ho,hcl,n,hd⟩:=id hl;obtain ⟨⟨cls2,dd2,data2,sl2⟩,ho2,hc2,n2,hd2⟩:=id hb;simp only at hcl hd hc2 hd2;subst hcl hd hc2 hd2;exact richCompare_meets_room (op:= .Lt) ⟨_,ho,rfl⟩ ⟨_,ho2,rfl⟩ PySem.F.slot_tuple_lt PySem.F.entry_tuple_lt (PySem.F.args_tuple_lt_2 _ _) (iW l b items items2 n n2 dd dd2 sl sl2 r)
  ⟨ho,ho2,hc,show Value.bool r≠Value.notImplemented/\Q (.bool r) s from ⟨(λx=>nomatch x),h⟩⟩ hu
section
variable {X:Cx} {pins:List (Addr×Obj)} {σ:St} {H:Hp} {s:Shared}
theorem o5 (I:aA X pins σ H s) (n:Nat) (A:Around)
 (ih:∀{w1 w2:W} {v1 v2:V} {u1 u2:Value},w1.dep<n->w1.flat=true->w2.flat=true->W.ord w1 w2=true->bI X.K H w1 v1->bI X.K H w2 v2->aZ v1 u1->aZ v2 u2->kH A s u1 u2 (w1.lt w2)) (hu:A.units+n<cLine):
 ∀{ws us:List W} {xs ys:List V} {its its2:List Value},W.deps ws<n->W.flats ws=true->W.flats us=true->W.ords ws us=true->aJ X.K H ws xs->aJ X.K H us ys->aM xs its->aM ys its2->fK A s its its2 (W.lts ws us):=by
 intro ws
 induction ws with
 | nil=>
   intro us xs ys its its2 hd f1 f2 ho r1 r2 q1 q2;cases r1;cases q1;cases r2 with
   | nil=>cases q2;simpa [W.lts] using fK.nn
   | cons _ _=>cases q2;simpa [W.lts] using fK.nc
 | cons x xs IH=>
   intro us vs1 vs2 its its2 hd f1 f2 ho r1 r2 q1 q2;cases r1 with
   | cons r1 s1=>
     cases q1 with
     | cons q1 t1=>
       cases r2 with
       | nil=>cases q2;simpa [W.lts] using fK.cn
       | @cons y ys _ _ r2 s2=>
         cases q2 with
         | cons q2 t2=>
           simp only [W.deps] at hd;simp only [W.flats,Bool.and_eq_true] at f1 f2;have e:=(gH I n A (w1:=x) (w2:=y) (by omega) f1.1 f2.1 hu r1 r2 q1 q2).1;rw [W.ords] at ho;rw [W.lts];cases he:W.eq x y with
           | true=>
             rw [he] at e ho;rw [if_pos rfl] at ho ⊢;exact .eq e (IH (by omega) f1.2 f2.2 ho s1 s2 t1 t2)
           | false=>
             rw [he] at e ho;rw [if_neg Bool.false_ne_true] at ho ⊢;exact .ne e (ih (by omega) f1.1 f2.1 ho r1 r2 q1 q2)
theorem sr (I:aA X pins σ H s):∀(n:Nat) (A:Around) {w1 w2:W} {v1 v2:V} {u1 u2:Value},w1.dep<n->w1.flat=true->w2.flat=true->W.ord w1 w2=true->A.units+n<cLine->bI X.K H w1 v1->bI X.K H w2 v2->aZ v1 u1->aZ v2 u2->
 kH A s u1 u2 (w1.lt w2):=by
 intro n
 induction n with
 | zero=>intro A w1 w2 v1 v2 u1 u2 h;omega
 | succ n ih=>
   intro A w1 w2 v1 v2 u1 u2 hd f1 f2 ho hu r1 r2 q1 q2;cases r1 with
   | ref a=>simp [W.flat] at f1
   | scr a=>simp [W.flat] at f1
   | non=>simp [W.ord] at ho
   | bl b=>simp [W.ord] at ho
   | str b=>simp [W.ord] at ho
   | int a=>
     cases r2 with
     | int b=>
       obtain ⟨t,rfl⟩:=q1;obtain ⟨t',rfl⟩:=q2;rw [W.lt];exact λprog w E Q h=>HT.rcLt_int A s a t b t' prog w E Q h
     | _=>simp [W.ord] at ho
   | @tup a ws xs h r=>
     cases r2 with
     | @tup b us ys h2 r2=>
       cases (show u1=Value.ref _ from q1);cases (show u2=Value.ref _ from q2);obtain ⟨its,rv,p,_⟩:=aA.tupH I h;obtain ⟨its2,rv2,p2,_⟩:=aA.tupH I h2;have g1:W.flats ws=true:=by simpa [W.flat] using f1
       have g2:W.flats us=true:=by simpa [W.flat] using f2
       have ho':W.ords ws us=true:=by simpa [W.ord] using ho
       have hd':W.deps ws<n:=by simp only [W.dep] at hd;omega
       have hui:A.in1.units+n<cLine:=by show A.units+1+n<cLine;omega
       rw [W.lt];exact kH.tuples p p2 (by omega) (o5 I n A.in1 (λh1 h2 h3 h4=>ih A.in1 h1 h2 h3 h4 hui) hui hd' g1 g2 ho' r r2 rv rv2)
     | _=>simp [W.ord] at ho
end
section
variable {X:Cx}
noncomputable def yI:W2:=λx y G q=>match x,y with
 | .int i,.int j=>q (.bl (decide (i<j))) G
 | .tup xs,.tup ys=>W.flats xs=true/\W.flats ys=true/\W.deps xs<=149/\W.ords xs ys=true/\q (.bl (W.lts xs ys)) G
 | _,_=>False
theorem lM {k:Nat} (hr:ay k X.A):ic X (compareOp .Lt) yI:=by
 rintro pins s σ H x y v u Q I rx ry ⟨wx,wy,G,q,r1,r2,g,h,hQ⟩;unfold yI at h;split at h
 ·cases r1;cases r2;exact Af pins s σ H _ _ v u Q I rx ry ⟨_,_,rfl,rfl,hQ _ H _ G (aI.refl H) (.bl _) g h⟩
 ·rename_i xs ys;obtain ⟨f1,f2,hd,ho,h⟩:=h;have z:=sr I 151 X.A (w1:= .tup xs) (w2:= .tup ys) (by simp only [W.dep];omega) (by simpa [W.flat] using f1) (by simpa [W.flat] using f2) (by simpa [W.ord] using ho) (by have:=hr.un;omega) r1 r2 rx ry;rw [W.lt] at z;exact z X.prog X.w X.xe _ ⟨.bl _,H,I,rfl,hQ _ H _ G (aI.refl H) (.bl _) g h⟩
 ·exact h.elim
end
section
variable {X:Cx}
end
section
variable {X:Cx} {pins:List (Addr×Obj)} {σ:St} {H:Hp} {s:Shared}
theorem Ct (I:aA X pins σ H s) {n:Nat} {A:Around} {ws us:List W} {xs ys:List V} {its its2:List Value} (hd:W.deps ws<n) (g1:W.flats ws=true) (g2:W.flats us=true) (hu:A.in1.units+n<cLine) (r:aJ X.K H ws xs) (r2:aJ X.K H us ys) (rv:aM xs its) (rv2:aM ys its2):
 ∀j (h1:j<its.toArray.size) (h2:j<its2.toArray.size),SeqAt.EqAt A.in1 s its.toArray[j] its2.toArray[j] (iU ws us j):=λj j1 j2=>by
 have e1:its.length=ws.length:=by rw [←rv.length,r.length]
 have e2:its2.length=us.length:=by rw [←rv2.length,r2.length]
 rw [List.size_toArray] at j1 j2;have ea:ws[j]?=some ws[j]:=List.getElem?_eq_getElem (by omega);have eb:us[j]?=some us[j]:=List.getElem?_eq_getElem (by omega);obtain ⟨va,ea1,ra⟩:=r.get ea;obtain ⟨vb,eb1,rb⟩:=r2.get eb;obtain ⟨ua,ea2,qa⟩:=rv.get ea1;obtain ⟨ub,eb2,qb⟩:=rv2.get eb1;have za:its.toArray[j]=ua:=by
  have:=(List.getElem?_eq_some_iff.mp ea2).2;simpa using this
 have zb:its2.toArray[j]=ub:=by
  have:=(List.getElem?_eq_some_iff.mp eb2).2;simpa using this
 rw [za,zb];have:=(gH I n A.in1 (w1:=ws[j]) (w2:=us[j]) (Nat.lt_of_le_of_lt (W.deps_get ea) hd) (W.flats_get g1 ea) (W.flats_get g2 eb) hu ra rb qa qb).1;unfold iU;rw [ea,eb];exact this
theorem kI {ws us:List W} (h:ws.length≠us.length):W.eqs ws us=false:=by
 cases e:W.eqs ws us with
 | false=>rfl
 | true=>exact absurd ((W.eqs_iff ws us).mp e).1 h
end
section
variable {X:Cx}
noncomputable def yJ:W2:=λx y G q=>match x,y with
 | .ref a,.ref b=>∃xs ys,G a=some (.lst xs)/\G b=some (.lst ys)/\W.flats xs=true/\W.flats ys=true/\W.deps xs<=149/\q (.bl (W.eqs xs ys)) G
 | x,y=>sd x y G q
noncomputable def yK:W2:=λx y G q=>match x,y with
 | .ref a,.ref b=>∃xs ys,G a=some (.lst xs)/\G b=some (.lst ys)/\W.flats xs=true/\W.flats ys=true/\W.deps xs<=149/\q (.bl (!(W.eqs xs ys))) G
 | x,y=>se x y G q
theorem AJ {k:Nat} (hr:ay k X.A):ic X (compareOp .Eq) yJ:=by
 rintro pins s σ H x y v u Q I rx ry ⟨wx,wy,G,q,r1,r2,g,h,hQ⟩;unfold yJ at h;split at h
 ·obtain ⟨ws,us,ea,eb,f1,f2,hd,h⟩:=h;cases r1;cases r2;cases rx;cases ry;obtain ⟨_,xs,e1,ra⟩:=g _ _ ea;obtain ⟨_,ys,e2,rb⟩:=g _ _ eb;obtain ⟨its,rv,p,_⟩:=I.list (cW.of e1);obtain ⟨its2,rv2,p2,_⟩:=I.list (cW.of e2);have l1:its.length=ws.length:=by rw [←rv.length,ra.length]
  have l2:its2.length=us.length:=by rw [←rv2.length,rb.length]
  have hu:=hr.un;have fin:EP X pins σ Q (.bool (W.eqs ws us)) s:=⟨.bl _,H,I,rfl,hQ _ H _ G (aI.refl H) (.bl _) g h⟩
  by_cases hl:ws.length=us.length
  ·have c1:=SeqAt.RcAt.lists p.isList p2.isList (by rw [List.size_toArray,List.size_toArray,l1,l2,hl]) (A:=X.A) (by omega) (Ct I (n:=150) (by omega) f1 f2 (by show X.A.units+1+150<cLine;omega) ra rb rv rv2);have er:=fh ws us;rw [←hl,Nat.min_self,beq_self_eq_true,Bool.and_true] at er;rw [List.size_toArray,l1,er] at c1;exact c1 X.prog X.w X.xe _ fin
  ·rw [kI hl] at fin;exact SeqAt.RcAt.lists_lengths p.isList p2.isList (by rw [List.size_toArray,List.size_toArray,l1,l2];simpa using hl) (A:=X.A) (by omega) X.prog X.w X.xe _ fin
 ·exact yD hr pins s σ H x y v u Q I rx ry ⟨wx,wy,G,q,r1,r2,g,h,hQ⟩
theorem AK {k:Nat} (hr:ay k X.A):ic X (compareOp .NotEq) yK:=by
 rintro pins s σ H x y v u Q I rx ry ⟨wx,wy,G,q,r1,r2,g,h,hQ⟩;unfold yK at h;split at h
 ·obtain ⟨ws,us,ea,eb,f1,f2,hd,h⟩:=h;cases r1;cases r2;cases rx;cases ry;obtain ⟨_,xs,e1,ra⟩:=g _ _ ea;obtain ⟨_,ys,e2,rb⟩:=g _ _ eb;obtain ⟨its,rv,p,_⟩:=I.list (cW.of e1);obtain ⟨its2,rv2,p2,_⟩:=I.list (cW.of e2);have l1:its.length=ws.length:=by rw [←rv.length,ra.length]
  have l2:its2.length=us.length:=by rw [←rv2.length,rb.length]
  have hu:=hr.un;have fin:EP X pins σ Q (.bool (!(W.eqs ws us))) s:=⟨.bl _,H,I,rfl,hQ _ H _ G (aI.refl H) (.bl _) g h⟩
  by_cases hl:ws.length=us.length
  ·have c1:=SeqAt.RcNeAt.lists p.isList p2.isList (by rw [List.size_toArray,List.size_toArray,l1,l2,hl]) (A:=X.A) (by omega) (Ct I (n:=150) (by omega) f1 f2 (by show X.A.units+1+150<cLine;omega) ra rb rv rv2);have er:=fh ws us;rw [←hl,Nat.min_self,beq_self_eq_true,Bool.and_true] at er;rw [List.size_toArray,l1,er] at c1;exact c1 X.prog X.w X.xe _ fin
  ·rw [kI hl] at fin;exact SeqAt.RcNeAt.lists_lengths p.isList p2.isList (by rw [List.size_toArray,List.size_toArray,l1,l2];simpa using hl) (A:=X.A) (by omega) X.prog X.w X.xe _ fin
 ·exact yE hr pins s σ H x y v u Q I rx ry ⟨wx,wy,G,q,r1,r2,g,h,hQ⟩
end
structure Ek (lo hi c:Int):Prop where
 c0:0<c
 c1:c<1000
 l0: -(2^40)<=lo
 l1:lo<2^40
 h0: -(2^40)<=hi
 h1:hi<2^40
section
variable {X:Cx} {tg:Expr}
end
section
variable {X:Cx}
noncomputable def AL (i j:Int):Prop:=i.natAbs<2^4000/\j.natAbs<2^4000
noncomputable def Cu (j:Int):Prop:=0<j/\j.natAbs<2^4000
noncomputable def o6 (i j:Int):Prop:=uR i j∨AL i j
theorem o6.ok {i j:Int} (h:o6 i j):IntMulOk i j:=by
 rcases h with h | ⟨h1,h2⟩
 ·exact h.ok
 ·have b1:=PyProof.Rows.intBits_le h1;have b2:=PyProof.Rows.intBits_le h2;unfold IntMulOk Builtin.Int.intTooBig;have:¬(((Builtin.Int.intBits i+Builtin.Int.intBits j:Int)) > bitsLine):=by
   have hb:(8000:Int)<=bitsLine:=by decide
   omega
  simp [this]
noncomputable def ss (i j:Int):Prop:=Ae i j∨Cu j
theorem su:ir X (binaryOp .FloorDiv) (rI ss λi j=> .int (i/j)):=BI λi j _ _ _ _ _ hc q=>by
 rcases hc with hc | ⟨h0,h1⟩
 ·have h1:(0:Int)<j:=hc.1;have h2:j<1073741824:=hc.2;exact floordiv_int (by omega) (by rw [Int.fdiv_eq_ediv_of_nonneg i (by omega)];exact q) (.inl (PyProof.noPylong_small (by omega)))
 ·refine floordiv_int (by omega) (by rw [Int.fdiv_eq_ediv_of_nonneg i (by omega)];exact q) (.inl (PyProof.noPylong_of_log2 ?_));have hne:j.natAbs≠0:=by omega
  exact Nat.lt_of_lt_of_le ((Nat.log2_lt hne).mpr h1) (by decide)
noncomputable abbrev AM:W2:=vInt ss λi j=> .int (i/j)
theorem kJ:ic X (binaryOp .FloorDiv) AM:=nE su
end
section
variable {X:Cx}
end
structure fL (K:PySem.W.Frag) (x qual:Str) (st:Stmt) (f:Addr) (fd:FuncData) (T:Addr) (ds:List Value):Prop where
 ex:∃(oc:Value) (od:Option Addr) (kV doc pm:Value) (an:Option Addr) (cdv ct:Value) (osl:Array (Option Value)) (ot:Obj) (nt:Nat),
  fd=fnOf x qual (aB st) (aw st) (ag st) (.ref T) kV doc pm an cdv ct/\K.lookup f=some ⟨oc,od,.func fd,osl⟩/\codeIn K cdv qual=true/\K.lookup T=some ot/\ot.data=.seq ds.toArray nt
 kp:keepIn K (.ref f)=true
section
variable {P:Program} {w:World} {K:PySem.W.Frag} {mg:Str->Option Value} {base:Heap} {x qual:Str} {st:Stmt} {f T:Addr} {fd:FuncData} {ds:List Value}
theorem kK {oc:Value} {od an:Option Addr} {osl:Array (Option Value)} {kV doc pm cdv ct:Value} {ot:Obj} {nt:Nat} (l:K.lookup f=some ⟨oc,od,.func (fnOf x qual (aB st) (aw st) (ag st) (.ref T) kV doc pm an cdv ct),osl⟩)
 (c:codeIn K cdv qual=true) (k:keepIn K (.ref f)=true) (t:K.lookup T=some ot) (h:ot.data=.seq ds.toArray nt):fL K x qual st f (fnOf x qual (aB st) (aw st) (ag st) (.ref T) kV doc pm an cdv ct) T ds:=
 ⟨⟨oc,od,kV,doc,pm,an,cdv,ct,osl,ot,nt,rfl,l,c,t,h⟩,k⟩
theorem fL.binds {ps:List Str} {es:List Value} (F:fL K x qual st f fd T ds)
 (h:∀(kV doc pm:Value) (an:Option Addr) (cdv ct:Value) (us:List Value),(us++es).length=ps.length->∃k,bindArgs (fnOf x qual (aB st) (aw st) (ag st) (.ref T) kV doc pm an cdv ct) ⟨us,[]⟩=seqItems? (.ref T) >>= k/\k (some ds.toArray)=pure (ps.zip (us++es))):bG K fd ps es:=by
 obtain ⟨oc,od,kV,doc,pm,an,cdv,ct,osl,ot,nt,rfl,lk,hcd,ht,hd⟩:=F.ex;intro s us KX hl;obtain ⟨k,h1,h2⟩:=h kV doc pm an cdv ct us hl;exact BindsTo.of_defaults (T:=T) rfl (KX _ _ ht) hd h1 h2
theorem AN {N ps:List Str} {k:Nat} {sp:bZ} (F:fL K x qual st f fd T ds) (S:aE N ps (ag st)) (len:∀ws G q e,sp ws G q e->ws.length=ps.length)
 (hbody:∀(cdv:Value) (A:Around) (outer:List Env) (s:Shared) (H:Hp) (E:XK),ay k (A.deeper (envOfC qual (ag st) s.heap.objs.size f cdv))->
   ∃t,mX (dG uE P w K mg base N qual (ag st) f cdv A outer s H E).nox (aw st) t/\
    ∀(ws:List W) (G:Gp) (q:WK) (e:WX),sp ws G q e->t { nx:=λ_ G1=>∃G0,aL G0 G1/\q .non G0,rt:=λw G1=>∃G0,aL G0 G1/\q w G0 } (iT N ws) G):cB P w K mg base (k+1) f fd ps sp:=by
 obtain ⟨oc,od,kV,doc,pm,an,cdv,ct,osl,ot,nt,rfl,lk,hcd,ht,hd⟩:=F.ex;refine oO lk hcd S (λvs H Q E ⟨ws,G,q,e,r,g,z,_⟩=>by rw [←r.length];exact len _ _ _ _ z) (λA outer s H vs Q E hr ⟨ws,G,q,e,r,g,z,hQ,_⟩=>?_);obtain ⟨t,ht,hq⟩:=hbody cdv A outer s H E hr;have ht':lr (dG uE P w K mg base N qual (ag st) f cdv A outer s H E).nox (aw st) (LS K t):=ht;exact ⟨_,ht'.nox,_,G,_,bg.start r,g,hq ws G q e z,⟨λσ1 H1 τ1 G1 t1 s1 g1 ⟨G0,l,q1⟩=>hQ .non H1 .non G0 t1 .non (g1.le l) q1,λv H1 w G1 t1 r1 g1 ⟨G0,l,q1⟩=>hQ v H1 w G0 t1 r1 (g1.le l) q1,λ_ _ _ _ _ _ _ z=>z.elim,λ_ _ _ _ _ _ _ z=>z.elim⟩⟩
noncomputable def AO (P:Program) (w:World) (K:PySem.W.Frag) (mg:Str->Option Value) (base:Heap) (x:Str) (ps:List Str) (k:Nat) (sp:bZ) (dws:List W):Prop:=
 ∃(f:Addr) (fd:FuncData) (ds:List Value) (dvs:List V),cB P w K mg base k f fd ps sp/\mg x=some (.ref f)/\keepIn K (.ref f)=true/\bG K fd ps ds/\aM dvs ds/\∀H,aJ K H dws dvs
noncomputable def vk (K:PySem.W.Frag) (mg:Str->Option Value) (x:Str) (st:Stmt) (ps:List Str) (dws:List W):Prop:=
 ∃(f:Addr) (fd:FuncData) (T:Addr) (ds:List Value) (dvs:List V),fL K x x st f fd T ds/\bG K fd ps []/\bG K fd ps ds/\mg x=some (.ref f)/\aM dvs ds/\∀H,aJ K H dws dvs
theorem vk.fx {ps:List Str} {k:Nat} {sp:bZ} {dws:List W} (D:vk K mg x st ps dws) (h:∀(f:Addr) (fd:FuncData) (T:Addr) (ds:List Value),fL K x x st f fd T ds->cB P w K mg base k f fd ps sp):Fx P w K mg base x ps k sp:=by
 obtain ⟨f,fd,T,ds,dvs,F,b,b',m,_,_⟩:=D;exact ⟨f,fd,h f fd T ds F,m,F.kp,b⟩
theorem vk.fxd {ps:List Str} {k:Nat} {sp:bZ} {dws:List W} (D:vk K mg x st ps dws) (h:∀(f:Addr) (fd:FuncData) (T:Addr) (ds:List Value),fL K x x st f fd T ds->cB P w K mg base k f fd ps sp):AO P w K mg base x ps k sp dws:=by
 obtain ⟨f,fd,T,ds,dvs,F,b,b',m,v,r⟩:=D;exact ⟨f,fd,ds,dvs,h f fd T ds F,m,F.kp,b',v,r⟩
end
section
variable {X:Cx}
theorem aD {x:Str} {ps:List Str} {k:Nat} {sp:bZ} {p pos:Pos} {e:Expr} {es:List Expr} {t:WA} (F:Fx X.prog X.w X.K X.mg X.base x ps k sp) (hr:ay k X.A) (hg:Gl X x) (ha:QA X (e::es) t) (_hn:(e::es).length=ps.length:=by rfl) (hdb:(x==("__debug__":Str))=false:=by decide)
 (he:starEach (e::es) X.env=(false,eval e X.env)::starEach es X.env:=by rfl) (hpl:(backTo pos (starEach es X.env)).any (·.1)=false:=by rfl):QE X (.Call (.Name x p) (e::es) [] pos) (ie sp [] t):=AG F hr hg ha hdb he hpl
theorem nN {x:Str} {ps:List Str} {k:Nat} {sp:bZ} {dws:List W} {p pos:Pos} {e:Expr} {es:List Expr} {t:WA} (F:AO X.prog X.w X.K X.mg X.base x ps k sp dws) (hr:ay k X.A) (hg:Gl X x) (ha:QA X (e::es) t) (_hn:(e::es).length+dws.length=ps.length:=by rfl) (hdb:(x==("__debug__":Str))=false:=by decide)
 (he:starEach (e::es) X.env=(false,eval e X.env)::starEach es X.env:=by rfl) (hpl:(backTo pos (starEach es X.env)).any (·.1)=false:=by rfl):QE X (.Call (.Name x p) (e::es) [] pos) (ie sp dws t):=by
 obtain ⟨f,fd,ds,dvs,h1,h2,h3,h4,h5,h6⟩:=F;exact (oM h1 hr hg h2 h3 h4 h5 jM ha hdb he hpl).imp λ_ _ _ h=>h.call h6
noncomputable def sw:WS:=λ_ _ _=>False
theorem sx {st:Stmt}:QS X st sw:=λ_ _ _ _ _ _ ⟨_,_,_,_,_,z,_⟩=>z.elim
end
variable {X:Cx}
noncomputable def sy:List W->Gp->WK->Prop:=λws G q=>match ws with
 | [.int i,.int j]=>q (.int (if j > i then j else i)) G
 | [.int i,.int j,.int k]=>q (.int (if j > i then (if k > j then k else j) else if k > i then k else i)) G
 | [.ref a]=>∃ns:List Int,G a=some (.lst (ns.map W.int))/\ns≠[]/\∀m:Int,m∈ns->(∀x,x∈ns->x<=m)->q (.int m) G
 | _=>False
theorem yL (hc:X.calm=true):eR X (.builtin "max") sy:=by
 rintro pins s σ H xs us Q I r ⟨ws,G,q,rw',g,h,hQ⟩;unfold sy at h;split at h
 ·obtain ⟨v,u,rfl,r1,r2⟩:=rw'.two;cases r1;cases r2;exact qm hc pins s σ H _ us Q I r ⟨_,_,rfl,hQ _ H _ G (aI.refl H) (.int _) g h⟩
 ·rename_i i j k;cases rw' with
  | cons r1 rw'=>
    cases rw' with
    | cons r2 rw'=>
      cases rw' with
      | cons r3 rw'=>
        cases rw';cases r1;cases r2;cases r3;cases r with
        | cons a1 r=>
          cases r with
          | cons a2 r=>
            cases r with
            | cons a3 r=>
              cases r;obtain ⟨t1,rfl⟩:=a1;obtain ⟨t2,rfl⟩:=a2;obtain ⟨t3,rfl⟩:=a3;refine max_three_ints (I.ok.hd hc) λh' tk k'=>⟨.int (if j > i then (if k > j then k else j) else if k > i then k else i),H,I.kept k',?_,hQ _ H _ G (aI.refl H) (.int _) g h⟩
              by_cases h1:j > i
              ·by_cases h2:k > j
               ·rw [if_pos h1,if_pos h2,if_pos h1,if_pos h2];exact ⟨_,rfl⟩
               ·rw [if_pos h1,if_neg h2,if_pos h1,if_neg h2];exact ⟨_,rfl⟩
              ·by_cases h2:k > i
               ·rw [if_neg h1,if_pos h2,if_neg h1,if_pos h2];exact ⟨_,rfl⟩
               ·rw [if_neg h1,if_neg h2,if_neg h1,if_neg h2];exact ⟨_,rfl⟩
 ·rename_i a;obtain ⟨ns,e,hne,h⟩:=h;obtain ⟨v,rfl,r1⟩:=rw'.one;cases r1;obtain ⟨_,zs,e1,rr⟩:=g a _ e;obtain rfl:=rr.ints_of;obtain ⟨u,rfl,ru⟩:=fy r;cases (show u=Value.ref a from ru);obtain ⟨its,rv,p,hz⟩:=I.list (cW.of e1);have hi:IntsAre its ns:=L2.intsAre_of rv;obtain ⟨ys,ey⟩:=hi.allInts.items;have hn:(ys.toList.map (·.1))=ns:=by rw [←nums_intItems,←ey,←hi.numsOf]
  have hl:s.heap.IsList a (intItems ys):=by rw [←ey];exact p.isList
  have hsz:ys.size=ns.length:=by rw [←hn];simp
  have hpos:0<ys.size:=by
   rw [hsz];exact List.length_pos_iff.mpr hne
  refine max_intList (I.ok.hd hc) hl hpos λv h' tk hv hk=>?_;have ab:=argBest_gt (numAt ys) (ys.size-1);generalize argBest (λi j=>decide (numAt ys i > numAt ys j)) (ys.size-1)=ix at hv ab;have hix:ix<ys.size:=by omega
  have hna:∀j (hj:j<ys.size),numAt ys j=ns[j]'(by omega):=λj hj=>by
   unfold numAt;rw [Array.getElem?_eq_getElem hj];simp [←hn]
  have hv2:v=Value.int (ys[ix].1) (ys[ix].2):=by
   unfold intItems at hv;rw [Array.getElem?_map,Array.getElem?_eq_getElem hix] at hv;simpa using hv.symm
  have hm:ys[ix].1=ns[ix]'(by omega):=by
   have:=hna ix hix;unfold numAt at this;rw [Array.getElem?_eq_getElem hix] at this;simpa using this
  rw [hm] at hv2;subst hv2;refine ⟨.int _,H,I.kept hk,⟨_,rfl⟩,hQ _ H _ G (aI.refl H) (.int _) g (h _ (List.getElem_mem _) λx hx=>?_)⟩;obtain ⟨j,hj,rfl⟩:=List.mem_iff_getElem.mp hx;have:=ab.2 j (by omega);rw [hna j (by omega),hna ix hix] at this;exact this
 ·exact h.elim
end L2
namespace L2
open PySem PySem.Spec PyProof.Rows
theorem XC.of {K:PySem.W.Frag} {C:Addr} (q:excIn K C bmV "ValueError.__new__"=true):∃bm,XC K C bm:=by
 unfold excIn at q;cases lk:List.lookup C K with
 | none=>rw [lk] at q;exact cO q
 | some o=>
   rw [lk] at q;obtain ⟨cls,d1,data,⟨ls⟩⟩:=o;cases cls with
   | type s=>
     by_cases hs:s="type"
     ·subst hs;cases data with
      | cls cl=>
        obtain ⟨nm,bs,mro,ns,qn,hd,sn,sb,ab,co,del⟩:=cl;rcases mro with _ | ⟨v,tl⟩
        ·exact cO q
        cases v with
        | ref C2=>
          rcases ls with _ | ⟨j0,_ | ⟨j1,_ | ⟨j2,_ | ⟨j3,_ | ⟨(_ | j4),r⟩⟩⟩⟩⟩
          any_goals first | exact cO q | skip
          cases j4 with
          | builtin id=>
            rcases r with _ | ⟨j5,_ | _⟩
            any_goals first | exact cO q | skip
            replace q:(C2==C&&id=="ValueError.__new__"&&!del&&W.tailIn K bmV tl&&W.nsOkIn K ns&&W.nsIn K ns (Str.ofString "__init__")==some none)=true:=q
            simp only [beq_iff_eq,Bool.not_eq_true',Bool.and_eq_true] at q;obtain ⟨⟨⟨⟨⟨e1,e2⟩,e3⟩,e4⟩,e5⟩,e6⟩:=q;subst e1 e2;subst e3;refine ⟨tl,λh X=>⟨ns,nm,qn,bs,hd,sn,sb,ab,co,d1,j0,j1,j2,j3,j5,_,X _ _ lk,.of_isNs (PySem.W.isNs_of_in X e5),PySem.W.nsMap_none_of_in X e5 e6,PySem.W.tail_of_in X e4⟩,λv=>?_⟩;unfold mroIn clsIn;rw [lk]
            rfl
          | _=>exact cO q
        | _=>exact cO q
      | _=>exact cO q
     ·delta PySem.W.excIn.match_6 at q
      change (dite (s="type") _ _:Bool)=true at q;rw [dif_neg hs] at q;exact cO q
   | _=>exact cO q
theorem XC.has {K:PySem.W.Frag} {C:Addr} {bm:List Value} (x:XC K C bm) {h:Heap} (X:K.In h) {t:String} {b:Bool} (hb:bmV.contains (.type t)=b):(Value.ref C::bm).contains (.type t)=b:=by
 obtain ⟨_,_,_,_,_,_,_,_,_,_,_,_,_,_,_,_,_,_,_,T⟩:=x.obj h X;rw [List.contains_cons,T.hasType hb]
 rfl
section
variable {M:Model} {A:Around} {E:Value->Shared->Prop} {K:PySem.W.Frag} {C D a:Addr} {bm bmD:List Value} {oe:Obj}
theorem qH {s:Shared} {Q:Bool->Shared->Prop} {b:Bool} (X:K.In s.heap) (hC:XC K C bm) (hD:XC K D bmD) (he:s.heap.get? a=some oe) (hcls:oe.cls=.ref C) (hs:mroIn K C (.ref D)=some b) (hq:Q b s):
 wpAny M A (excMatches (.ref a) (.ref D)) Q E s:=by
 obtain ⟨h,g,d,t,os⟩:=s;have hb:=hD.has X (t:="BaseException") (b:=true) rfl;have hcd:(Value.ref C::bm).contains (.ref D)=b:=by
  have:=(hC.mro (.ref D)).symm.trans hs;exact Option.some.inj this
 obtain ⟨N1,n1,q1,b1,d1,s1,u1,a1,c1,f1,g0,g1,g2,g3,g5,m1,gC,_,_,_⟩:=hC.obj h X;obtain ⟨N2,n2,q2,b2,d2,s2,u2,a2,c2,f2,l0,l1,l2,l3,l5,m2,gD,_,_,_⟩:=hD.obj h X;have nt:=tc_notTuple;unfold excMatches
 repeat (first | (with_reducible refine wpAny_loadPart_at he ?_;rw [hcls]) | with_reducible refine wpAny_loadPart_at gD ?_ | (with_reducible refine wpAny_isSubtype_exc gD ?_;rw [hb]) | (with_reducible refine wpAny_isSubtype_exc gC ?_;rw [hcd]) | wp_step)
 cases b with
 | true=>wp_walk;exact hq
 | false=>wp_walk;exact hq
theorem sA {prog:Program} {w:World} {s:Shared} {Q:Value->Shared->Prop} {v t:Value} {T:String} (X:K.In s.heap) (ht:∀M,PySem.W.Looks M s.heap (typeOf v) t) (hk:PySem.W.kitMeta T=true) (hne:(t==Value.type T)=false)
 (e:PySem.W.subIn K t (.type T)=some true) (hx:v≠ .builtin "__main__.__loader__#opaque") (h:Q (.bool true) s):wpAny (model prog w) A (call (.builtin "isinstance") [v,.type T]) Q E s:=by
 refine call_isinstance (S:=λ_ R s=>(K.In s.heap/\∀M,PySem.W.Looks M s.heap (typeOf v) t)/\R (.ok (.ret (.bool true))) s) (λ_ _ _ _ s hs=>isinstance_outer ?_ hx) ⟨⟨X,ht⟩,h⟩;obtain ⟨⟨X,ht⟩,hq⟩:=hs;obtain ⟨hh,g,d,tt,os⟩:=s;unfold Builtin.«isinstance.nested»;refine wpAny_bind ((ht _).at ?_);rw [if_neg (by rw [hne];exact Bool.false_ne_true)];refine wpAny_bind ((PySem.W.Looks.of_pure (PySem.W.kitMeta_of hk)).at ?_);rw [if_pos (by decide)]
 k_delta "plainIsInstance"
 refine wpAny_bind (wpAny_bind ((PySem.W.Looks.of_pure (r:=true) rfl).at ?_));simp only [Bool.not_true,if_false,Bool.false_eq_true];have li:∀M,PySem.W.Looks M hh (isInstance v (.type T)) true:=λM=>(ht M).andThen (PySem.W.looks_subIn X e);refine wpAny_bind ((li _).at ?_);simp only [if_true];exact wpAny_pure (wpAny_pure hq)
end
theorem fO.none_of {P:Program} {w:World} {H:Hp} {h:Heap} {a:Addr} (x:fO P w H h) (e:h.get? a=none):H a=none:=by
 cases q:H a with
 | none=>rfl
 | some o=>
   have y:=x a o q;cases o with
   | lst xs=>obtain ⟨_,_,_,_,z⟩:=y;rw [e] at z;cases z
   | tup xs=>obtain ⟨_,_,_,p,z,_⟩:=y;rw [e] at z;cases z
   | dK kvs=>obtain ⟨_,_,_,_,o,_,_,z,_⟩:=y;rw [e] at z;cases z
   | dT kvs=>obtain ⟨_,_,_,_,o,_,_,z,_⟩:=y;rw [e] at z;cases z
   | set S n=>obtain ⟨o,_,_,_,z,_⟩:=y;rw [e] at z;cases z
   | ins C dx fs=>obtain ⟨_,_,_,z,_⟩:=y;rw [e] at z;cases z
   | own y2=>obtain ⟨_,z⟩:=y;rw [e] at z;cases z
   | xd fs=>obtain ⟨_,⟨_,_,_,z,_⟩,_⟩:=y;rw [e] at z;cases z
   | rng lo hi=>obtain ⟨_,_,_,z⟩:=y;rw [e] at z;cases z
   | frz ob u=>obtain ⟨z,_⟩:=y;rw [e] at z;cases z
   | tbl ps=>have z:h.get? a=some _:=y;rw [e] at z;cases z
   | met f y2=>have z:h.get? a=some _:=y;rw [e] at z;cases z
   | ext φ=>obtain ⟨_,⟨_,z⟩,_⟩:=y;rw [e] at z;cases z
theorem eZ {h B:Heap} {m:List Addr}:∀{l:List Env},h.FunFrames B l->(∀b∈ez l,b∈m)->h.FunFrames (hideAll h m) l
 | [],_,_=>trivial
 | env::r,⟨e0,⟨L,o,e1,_,e3,e4⟩,e5⟩,hm=>
   have hl:ez (env::r)=L::ez r:=by unfold ez;rw [List.filterMap_cons,e1]
   ⟨e0,⟨L,o,e1,hideAll_none m (hm L (by rw [hl];exact .head _)),e3,e4⟩,eZ e5 λb hb=>hm b (by rw [hl];exact .tail _ hb)⟩
structure Fl (P:Program) (w:World) (fs:List Addr) (H H':Hp) (h0 h:Heap) (a T:Addr) (c fl:Value):Prop where
 un:Un fs [] H H' h0 h
 hok:fO P w H' h
 na:h0.get? a=none
 nT:h0.get? T=none
 ha:H' a=none
 hT:H' T=none
 tr:∃oe vs oT ts a0,h.get? a=some oe/\(oe.cls=c/\vs[0]?=some a0)/\oe.data=.fields vs/\vs[1]?=some (.ref T)/\T≠a/\h.get? T=some oT/\oT.data=.fields ts/\ts[3]?=some fl
section
variable {P:Program} {w:World} {fs:List Addr} {H H':Hp} {h0 h h':Heap} {a T:Addr} {c fl fl':Value}
theorem Fl.traced (F:Fl P w fs H H' h0 h a T c fl):∃a0,h.TracedAtW (hideAll h (a::T::fs)) a c a0 fl:=by
 obtain ⟨oe,vs,oT,ts,a0,e1,e2,e3,e4,e5,e6,e7,e8⟩:=F.tr;exact ⟨a0,oe,vs,T,oT,ts,e1,e2,e3,e4,hideAll_none _ (.tail _ (.head _)),e5,e6,e7,e8⟩
theorem Fl.move {a0:Value} (F:Fl P w fs H H' h0 h a T c fl) (hfs:∀b∈fs,H' b=none/\∃o,h.get? b=some o/\∀vs,o.data≠ .fields vs)
 (k1:(hideAll h (a::T::fs)).StaysIn h') (k3:h'.TracedAtW (hideAll h (a::T::fs)) a c a0 fl') (k4:h.UpToSlots h'):∃T',Fl P w fs H H' h0 h' a T' c fl':=by
 have keep:∀b o,b≠a->b≠T->b∉fs->h.get? b=some o->h'.get? b=some o:=λb o n1 n2 n3 e=>k1 b o (hideAll_get _ e (by simp [n1,n2,n3]));have slot:∀b o,b∈fs->h.get? b=some o->∃sl,h'.get? b=some { o with slots:=sl }:=λb o hb e=>by
  obtain ⟨_,o2,e2,d2⟩:=hfs b hb;rw [e] at e2;cases e2;exact k4 b o e d2
 obtain ⟨oe,vs,T',oT,ts,q1,q2,q3,q4,q5,q6,q7,q8,q9⟩:=k3;have hT':T'=T∨h.get? T'=none:=by
  by_cases z:T'=T
  ·exact .inl z
  ·refine .inr ?_;cases e:h.get? T' with
   | none=>rfl
   | some o=>
     by_cases zf:T'∈fs
     ·obtain ⟨_,o2,e2,d2⟩:=hfs T' zf;obtain ⟨sl,e3⟩:=k4 T' o2 e2 d2;rw [q7] at e3;cases e3;exact absurd q8 (d2 ts)
     ·rw [hideAll_get _ e (by simp [z,zf,q6])] at q5;cases q5
 have back:∀b,h.get? b=none->h0.get? b=none:=λb e=>by
  cases q:h0.get? b with
  | none=>rfl
  | some o=>
    obtain ⟨o',e'⟩:=F.un.there b o q (by simp);rw [e] at e';cases e'
 refine ⟨T',⟨⟨λb o q n hb hx=>?_,λb o q n hb hx=>?_,F.un.free,λb o q hx=>?_,F.un.tups,F.un.frzs,F.un.tbls⟩,λb u e=>?_,F.na,?_,F.ha,?_,⟨oe,vs,oT,ts,a0,q1,q2,q3,q4,q6,q7,q8,q9⟩⟩⟩
 ·exact keep b o (λz=>by rw [z,F.na] at q;cases q) (λz=>by rw [z,F.nT] at q;cases q) hb (F.un.keep b o q n hb hx)
 ·obtain ⟨sl,e1⟩:=F.un.slot b o q n hb hx;obtain ⟨sl2,e2⟩:=slot b _ hb e1;exact ⟨sl2,e2⟩
 ·obtain ⟨o1,e1⟩:=F.un.there b o q hx
  by_cases hb:b∈fs
  ·obtain ⟨sl,e2⟩:=slot b o1 hb e1;exact ⟨_,e2⟩
  ·exact ⟨o1,keep b o1 (λz=>by rw [z,F.na] at q;cases q) (λz=>by rw [z,F.nT] at q;cases q) hb e1⟩
 ·have nn:∀x v,H' x=some v->x≠a/\x≠T/\x∉fs:=λx v e=>⟨λz=>(by rw [z,F.ha] at e;cases e),λz=>(by rw [z,F.hT] at e;cases e),λz=>(by rw [(hfs x z).1] at e;cases e)⟩;refine (F.hok b u e).stay (λx v hc q=>?_) (λ_ q=>q) λ_ _ q=>q;rcases hc with hc | hc
  ·obtain ⟨z1,z2,z3⟩:=nn b u e;rw [hc] at q ⊢;exact keep b v z1 z2 z3 q
  ·obtain ⟨z1,z2,z3⟩:=nn x _ hc;exact keep x v z1 z2 z3 q
 ·rcases hT' with z | z
  ·rw [z];exact F.nT
  ·exact back T' z
 ·rcases hT' with z | z
  ·rw [z];exact F.hT
  ·exact F.hok.none_of z
end
noncomputable def nP (P:Program) (w:World):nq:=λouter H s E e s'=>∃a T C H',e=.ref a/\s'.os=s.os/\AllBare s'.gens/\Fl P w (ez outer) H H' s.heap s'.heap a T (.ref C) .none/\E (.ref C) none H'
noncomputable abbrev sB (P:Program) (w:World) (K:PySem.W.Frag) (mg:Str->Option Value) (base:Heap) (k:Nat) (f:Addr) (fd:FuncData) (ps:List Str) (sp:bZ):Prop:=dE P w K mg base (nP P w) k f fd ps (uF K sp)
section
variable {P:Program} {w:World} {K:PySem.W.Frag} {mg:Str->Option Value} {base:Heap} {N:List Str} {qual:Str} {scope:Scope} {f:Addr} {cdv:Value} {A:Around} {outer:List Env} {s:Shared} {H:Hp} {E:XK}
theorem yM {pins:List (Addr×Obj)} {σ:St} {H2:Hp} {s2:Shared} {h':Heap} {e C:Addr} {vs:List Value} (I:aA (dG (nP P w) P w K mg base N qual scope f cdv A outer s H E) pins σ H2 s2)
 (mx:Heap.MadeExcOf s2.heap h' e (.ref C) vs) (hE:E (.ref C) none H2):(dG (nP P w) P w K mg base N qual scope f cdv A outer s H E).xe (.ref e) { s2 with heap:=h' }:=by
 have ST:=I.stack;have SF:=I.stkFree;refine wpAny_leaves_madeW (base:=hideAll s2.heap (ez (envOfC qual scope s.heap.objs.size f cdv::outer))) (h:=s2.heap) (L:=s.heap.objs.size) I.ok.frames rfl (λb o q=>of_hideAll _ q) (eZ ST λ_ z=>z) mx λh3 t fly _ _ ups=>?_;obtain ⟨k1,_,_,k3⟩:=fly;obtain ⟨oe,ws,T,oT,ts,q1,q2,q3,q4,q5,q6,q7,q8,q9⟩:=k3;have keep:∀b o,b∉ez (envOfC qual scope s.heap.objs.size f cdv::outer)->s2.heap.get? b=some o->h3.get? b=some o:=λb o hb q=>k1 b o (hideAll_get _ q hb);have slot:∀b o,b∈ez (envOfC qual scope s.heap.objs.size f cdv::outer)->s2.heap.get? b=some o->(∃sl,h3.get? b=some { o with slots:=sl })/\∀vs,o.data≠ .fields vs:=λb o hb q=>by
  obtain ⟨_,o2,e2,d2⟩:=ST.mem hb;rw [q] at e2;cases e2;exact ⟨ups b o (mx.keeps b o q) d2,d2⟩
 have nL:∀b o,s.heap.get? b=some o->b∉ez outer->b∉ez (envOfC qual scope s.heap.objs.size f cdv::outer):=λb o q hb z=>by
  rcases List.mem_cons.mp (show b∈s.heap.objs.size::ez outer from z) with z | z
  ·exact absurd (Heap.lt_size q) (by rw [z];exact Nat.lt_irrefl _)
  ·exact hb z
 have back:∀b,s2.heap.get? b=none->s.heap.get? b=none:=λb q=>by
  cases z:s.heap.get? b with
  | none=>rfl
  | some o=>
    obtain ⟨o',e'⟩:=I.base.there b o z (by intro y;cases y);rw [q] at e';cases e'
 have nT:s2.heap.get? T=none:=by
  cases z:s2.heap.get? T with
  | none=>rfl
  | some o=>
    by_cases zf:T∈ez (envOfC qual scope s.heap.objs.size f cdv::outer)
    ·obtain ⟨⟨sl,e3⟩,d2⟩:=slot T o zf z;rw [q7] at e3;cases e3;exact absurd q8 (d2 ts)
    ·rw [hideAll_get _ z zf] at q5;cases q5
 refine ⟨e,T,C,H2,rfl,I.os,I.bare,⟨⟨λb o q n hb hx=>?_,λb o q n hb hx=>?_,λb o q n hx=>I.base.free b o q n (by intro y;cases y),λb o q hx=>?_,I.base.tups,I.base.frzs,I.base.tbls⟩,λb u q=>?_,back e mx.new,back T nT,I.hok.none_of mx.new,I.hok.none_of nT,
  ⟨oe,ws,oT,ts,_,q1,q2,q3,q4,q6,q7,q8,q9⟩⟩,hE⟩
 ·exact keep b o (nL b o q hb) (I.base.keep b o q n hb (by intro y;cases y))
 ·obtain ⟨sl,e1⟩:=I.base.slot b o q n hb (by intro y;cases y);obtain ⟨⟨sl2,e2⟩,_⟩:=slot b _ (List.mem_cons_of_mem _ hb) e1;exact ⟨sl2,e2⟩
 ·obtain ⟨o1,e1⟩:=I.base.there b o q (by intro y;cases y)
  by_cases hb:b∈ez (envOfC qual scope s.heap.objs.size f cdv::outer)
  ·obtain ⟨⟨sl,e2⟩,_⟩:=slot b o1 hb e1;exact ⟨_,e2⟩
  ·exact ⟨o1,keep b o1 hb e1⟩
 ·have nn:∀x v,H2 x=some v->x∉ez (envOfC qual scope s.heap.objs.size f cdv::outer):=λx v q z=>by rw [SF x z] at q;cases q
  refine (I.hok b u q).stay (λx v hc q2=>?_) (λ_ q=>q) λ_ _ q=>q;rcases hc with hc | hc
  ·rw [hc] at q2 ⊢;exact keep b v (nn b u q) q2
  ·exact keep x v (nn x _ hc) q2
noncomputable def sC (C:Addr) (e:WX):WS:=λ_ _ G=>e (.ref C) G
theorem sE {x msg:Str} {C:Addr} {bm:List Value} {e:WX} {np cpos pos p1:Pos} {j} (hm:mg x=some (.ref C)) (hC:XC K C bm) (hE:∀H1 G1,aI H H1->aH K H1 G1->e (.ref C) G1->E (.ref C) none H1)
 (hg:Gl (dG (nP P w) P w K mg base N qual scope f cdv A outer s H E) x) (hd:(x==("__debug__":Str))=false:=by decide):
 QS (dG (nP P w) P w K mg base N qual scope f cdv A outer s H E) (.Raise (some (.Call (.Name x np) [.Constant (.str msg) j p1] [] cpos)) none pos) (sC C e):=by
 rintro pins s2 σ H2 D I ⟨τ,G,d,hs,hgG,ht,l⟩;obtain ⟨N1,n1,q1,b1,d1,s1,u1,a1,c1,f1,g0,g1,g2,g3,g5,m1,gC,gN,gi,gT⟩:=hC.obj _ I.ok.mod.kin;refine wpAny_Raise_call_subT (C:=C) (nm:=n1) (q:=q1) (N:=N1) (bs:=b1) (bm:=bm) (hdct:=d1) (sn:=s1) (sub:=u1) (ab:=a1) (col:=c1) (dd:=f1) (k0:=g0) (k1:=g1) (k2:=g2) (k3:=g3) (k5:=g5) PySem.F.excBase_ValueError (mN:=m1) (gT.hasType rfl) (I.ok.hd rfl) rfl gi
  (eA I hg hm ⟨rfl,?_⟩ hd)
 have ha:=(bL (X:=dG (nP P w) P w K mg base N qual scope f cdv A outer s H E) (mY (x:=msg) (j:=j) (pos:=p1)) pa_nil) cpos pins s2 σ H2 (λvs H'=>vs.length=1/\H'=H2) I ⟨rfl,rfl⟩;refine Calls.evalArgs_plain (wpAny_mono ha (λus s3 h3=>?_) λ_ _ y=>y);obtain ⟨vs,H3,I3,rv,hl,rfl⟩:=h3;refine ⟨rfl,?_,I3.bk _ _ gC,gN.keeps I3.bk,gT.keeps I3.bk,λh' a mx=>yM I3 mx (hE _ G ⟨I3.base.tups,λb o u q=>I3.base.frzs b o _ q⟩ hgG ht)⟩;show us.length<=sizeLine;rw [←rv.length,hl];decide
end
theorem Cv {P:Program} {w:World} {K:PySem.W.Frag} {mg:Str->Option Value} {base:Heap} {x qual:Str} {st:Stmt} {f:Addr} {fd:FuncData} {N ps:List Str} {k:Nat} {sp:bZ} (F:cM K x qual st f fd) (S:aE N ps (ag st)) (len:∀ws G q e,sp ws G q e->ws.length=ps.length)
 (hbody:∀(cdv:Value) (A:Around) (outer:List Env) (s:Shared) (H:Hp) (E:XK) (ws:List W) (G:Gp) (q:WK) (e:WX),ay k (A.deeper (envOfC qual (ag st) s.heap.objs.size f cdv))->sp ws G q e->(∀c H1 G1,aI H H1->aH K H1 G1->e c G1->E c none H1)->
   ∃t,mX (dG (nP P w) P w K mg base N qual (ag st) f cdv A outer s H E) (aw st) t/\t { nx:=λ_ G1=>∃G0,aL G0 G1/\q .non G0,rt:=λw G1=>∃G0,aL G0 G1/\q w G0 } (iT N ws) G):sB P w K mg base (k+1) f fd ps sp:=by
 obtain ⟨oc,od,kV,doc,pm,an,cdv,ct,osl,rfl,lk,hcd⟩:=F.ex;refine oO lk hcd S (λvs H Q E ⟨ws,G,q,e,r,g,z,_⟩=>by rw [←r.length];exact len _ _ _ _ z) (λA outer s H vs Q E hr ⟨ws,G,q,e,r,g,z,hQ,hX⟩=>?_);obtain ⟨t,ht,hq⟩:=hbody cdv A outer s H E ws G q e hr z λc H1 G1 t1 g1 z1=>hX c none H1 G1 t1 g1 z1;exact ⟨_,ht,_,G,_,bg.start r,g,hq,⟨λσ1 H1 τ1 G1 t1 s1 g1 ⟨G0,l,q1⟩=>hQ .non H1 .non G0 t1 .non (g1.le l) q1,λv H1 w G1 t1 r1 g1 ⟨G0,l,q1⟩=>hQ v H1 w G0 t1 r1 (g1.le l) q1,λ_ _ _ _ _ _ _ z=>z.elim,λ_ _ _ _ _ _ _ z=>z.elim⟩⟩
theorem AQ {P:Program} {w:World} {K:PySem.W.Frag} {mg:Str->Option Value} {base:Heap} {x qual:Str} {st:Stmt} {f T:Addr} {ds:List Value} {fd:FuncData} {N ps:List Str} {k:Nat} {sp:bZ} (F:fL K x qual st f fd T ds) (S:aE N ps (ag st)) (len:∀ws G q e,sp ws G q e->ws.length=ps.length)
 (hbody:∀(cdv:Value) (A:Around) (outer:List Env) (s:Shared) (H:Hp) (E:XK) (ws:List W) (G:Gp) (q:WK) (e:WX),ay k (A.deeper (envOfC qual (ag st) s.heap.objs.size f cdv))->sp ws G q e->(∀c H1 G1,aI H H1->aH K H1 G1->e c G1->E c none H1)->
   ∃t,mX (dG (nP P w) P w K mg base N qual (ag st) f cdv A outer s H E) (aw st) t/\t { nx:=λ_ G1=>∃G0,aL G0 G1/\q .non G0,rt:=λw G1=>∃G0,aL G0 G1/\q w G0 } (iT N ws) G):sB P w K mg base (k+1) f fd ps sp:=by
 obtain ⟨oc,od,kV,doc,pm,an,cdv,ct,osl,ot,nt,rfl,lk,hcd,ht,hd⟩:=F.ex;refine oO lk hcd S (λvs H Q E ⟨ws,G,q,e,r,g,z,_⟩=>by rw [←r.length];exact len _ _ _ _ z) (λA outer s H vs Q E hr ⟨ws,G,q,e,r,g,z,hQ,hX⟩=>?_);obtain ⟨t,ht,hq⟩:=hbody cdv A outer s H E ws G q e hr z λc H1 G1 t1 g1 z1=>hX c none H1 G1 t1 g1 z1;exact ⟨_,ht,_,G,_,bg.start r,g,hq,⟨λσ1 H1 τ1 G1 t1 s1 g1 ⟨G0,l,q1⟩=>hQ .non H1 .non G0 t1 .non (g1.le l) q1,λv H1 w G1 t1 r1 g1 ⟨G0,l,q1⟩=>hQ v H1 w G0 t1 r1 (g1.le l) q1,λ_ _ _ _ _ _ _ z=>z.elim,λ_ _ _ _ _ _ _ z=>z.elim⟩⟩
noncomputable def Rx (P:Program) (w:World) (K:PySem.W.Frag) (mg:Str->Option Value) (base:Heap) (x:Str) (ps:List Str) (k:Nat) (sp:bZ) (dws:List W):Prop:=
 ∃(f:Addr) (fd:FuncData) (ds:List Value) (dvs:List V),sB P w K mg base k f fd ps sp/\mg x=some (.ref f)/\keepIn K (.ref f)=true/\bG K fd ps ds/\aM dvs ds/\∀H,aJ K H dws dvs
noncomputable abbrev Cx.xmk (X:Cx) (a:Addr) (oe:Obj):Cx:={ X with A:=X.A.mark (some (.ref a)),calm:=false,xe:=λ_ _=>False,pn:=(a,oe)::X.pn }
section
variable {X:Cx} {pins:List (Addr×Obj)} {σ:St} {H:Hp} {s:Shared} {a:Addr} {oe:Obj}
theorem aA.xmk (I:aA X pins σ H s) (e:s.heap.get? a=some oe) (n:H a=none) (hl:a≠X.env.locals) (hf:a∉X.fs) (hd:∀v,oe.data≠ .cell v):aA (X.xmk a oe) pins σ H s:=
 ⟨⟨I.ok.mod,I.ok.kind,I.ok.glob,I.ok.blt,I.ok.above,I.ok.inj,I.ok.has,I.ok.cab,λz=>(Bool.false_ne_true z).elim,I.ok.frames,I.ok.stk,I.ok.exf,I.ok.bs,I.ok.bsz,I.ok.noex,I.ok.exfs,I.ok.funs,I.ok.frf⟩,I.os,I.bare,I.base,I.loc,I.cell,I.free,I.freeC,
   λp hp=>by
    rcases List.mem_cons.mp (show p∈(a,oe)::(X.pn++pins) from hp) with z | z
    ·rw [z];exact ⟨e,n,hl,hf,hd⟩
    ·exact I.pin p z,I.hok,I.len⟩
end
noncomputable def QH (X:Cx) (C:Addr) (hs:List ExceptHandler) (th:WS):Prop:=
 ∀(pins:List (Addr×Obj)) (s0:Shared) (σ:St) (H0:Hp) (s:Shared) (H:Hp) (a T:Addr) (D:ft),aA X pins σ H0 s0->Fl X.prog X.w (ez X.stack) H0 H s0.heap s.heap a T (.ref C) .none->s.os=s0.os->AllBare s.gens->LS X.K th D σ H->
  wpAny (model X.prog X.w) X.A (handleBy (.ref a) X.env hs) (SP X pins D) X.xe s
section
variable {X:Cx} {pins:List (Addr×Obj)} {σ:St} {H0 H:Hp} {s0 s:Shared} {a T:Addr} {c fl:Value}
theorem Fl.inv (F:Fl X.prog X.w (ez X.stack) H0 H s0.heap s.heap a T c fl) (I:aA X pins σ H0 s0) (os:s.os=s0.os) (bare:AllBare s.gens):aA X pins σ H s:=I.call' (ch:=[]) os F.un F.hok bare λb z=>absurd z (by simp)
theorem aA.frmem (I:aA X pins σ H s):∀b∈ez X.stack,H b=none/\∃o,s.heap.get? b=some o/\∀vs,o.data≠ .fields vs:=λb hb=>⟨I.stkFree b hb,(I.stack.mem hb).2⟩
theorem Fl.there (F:Fl X.prog X.w (ez X.stack) H0 H s0.heap s.heap a T c fl) (I:aA X pins σ H0 s0):∃oe,s.heap.get? a=some oe/\oe.cls=c/\H a=none/\a≠X.env.locals/\a∉X.fs/\∀v,oe.data≠ .cell v:=by
 obtain ⟨oe,vs,oT,ts,a0,e1,e2,e3,_⟩:=F.tr;refine ⟨oe,e1,e2.1,F.ha,λz=>?_,λz=>?_,λv z=>by rw [e3] at z;cases z⟩
 ·obtain ⟨m,⟨o,_,_,ho,_⟩,_⟩:=I.loc;rw [←z,F.na] at ho;cases ho
 ·obtain ⟨_,o,ho,_⟩:=I.funs.mem z;rw [F.na] at ho;cases ho
theorem Fl.lands {M:Model} {A:Around} {E:Value->Shared->Prop} {Q:Unit->Shared->Prop} (F:Fl X.prog X.w (ez X.stack) H0 H s0.heap s.heap a T c fl) (I:aA X pins σ H0 s0) (os:s.os=s0.os) (bare:AllBare s.gens)
 (h:∀h' T',Fl X.prog X.w (ez X.stack) H0 H s0.heap h' a T' c .none->Q () { s with heap:=h' }):wpAny M A (setFlight (.ref a) none) Q E s:=by
 have I1:=F.inv I os bare;obtain ⟨a0,tr⟩:=F.traced;refine wpAny_setFlight_noneW (base:=hideAll s.heap (a::T::ez X.stack)) (λb o q=>of_hideAll _ q) (eZ I1.stack λb z=> .tail _ (.tail _ z)) tr λh' k1 _ k3 k4=>?_;obtain ⟨T',F'⟩:=F.move I1.frmem k1 k3 λb o e n=>⟨o.slots,k4 b o e n⟩;exact h h' T' F'
variable {C D:Addr} {bm bmD:List Value} {x:Str} {p pos:Pos} {name:Option Str} {body:List Stmt} {bK:List ExceptHandler} {b0:Stmt} {th:WS}
theorem fm {M:Model} {A:Around} {E:Value->Shared->Prop} {Q:Unit->Shared->Prop} {i:Nat} {n:Str} (I:aA X pins σ H s) (hN:X.N.Nodup) (hi:X.N[i]?=some n) (hl:X.env.scope.names.lookup n=some .local)
 (h:∀s',aA X pins (σ.set i none) H s'->Q () s'):wpAny M A (do bindName X.env n .none;unbindBehindTheSuite X.env n pos) Q E s:=by
 obtain ⟨m,hn,hlk⟩:=id I.loc;obtain ⟨oL,_,_,hoL,_⟩:=id hn;refine wpAny_nameGoes_keeps hl hn (by rw [I.ok.kind];rfl) λh' v hn' hs=>h _ ?_;have ne0:∀b o,X.s₀.heap.get? b=some o->b≠X.env.locals:=λb o e=>Nat.ne_of_lt (Nat.lt_of_lt_of_le (Heap.lt_size e) I.ok.above);refine ⟨I.ok,I.os,I.bare,⟨λb o e n hb hx=>?_,λb o e n hb hx=>?_,I.base.free,λb o e hx=>?_,I.base.tups,I.base.frzs,I.base.tbls⟩,⟨_,hn',λj y v' e1 e2 e3=>?_⟩,λy c e=>?_,I.free,I.freeC,λp hp=>?_,λb ob e=>?_,by simpa using I.len⟩
 ·exact (hs.2 b (ne0 b o e)).trans (I.base.keep b o e n hb hx)
 ·obtain ⟨sl,z⟩:=I.base.slot b o e n hb hx;exact ⟨sl,(hs.2 b (ne0 b o e)).trans z⟩
 ·obtain ⟨o',z⟩:=I.base.there b o e hx;exact ⟨o',(hs.2 b (ne0 b o e)).trans z⟩
 ·have hj:j≠i:=λz=>by
   subst z
   by_cases hjl:j<σ.length
   ·rw [List.getElem?_set_self hjl] at e2;cases e2
   ·rw [List.getElem?_eq_none (by simpa using hjl)] at e2;cases e2
  rw [List.getElem?_set_ne (Ne.symm hj)] at e2;obtain ⟨u',r',q⟩:=hlk j y v' e1 e2 e3;refine ⟨u',r',?_⟩;rcases q with ⟨k,e⟩ | ⟨k,c,e,z⟩
  ·refine .inl ⟨k,?_⟩;have:y≠n:=λe=>hj (iH hN e1 (e▸hi));simp [this,e]
  ·exact .inr ⟨k,c,e,z.sameBut hs (I.cne y c e)⟩
 ·obtain ⟨w',z⟩:=I.cell y c e;exact ⟨w',z.sameBut hs (I.cne y c e)⟩
 ·obtain ⟨e,n,ne,nf,d⟩:=I.pin p hp;exact ⟨(hs.2 p.1 ne).trans e,n,ne,nf,d⟩
 ·refine (I.hok b ob e).stay (λx w' hc q=>(hs.2 x ?_).trans q) (λ_ q=>q) λ_ _ q=>q;intro z;rcases hc with hc | hc
  ·rw [←hc,z,I.free] at e;cases e
  ·rw [z,I.free] at hc;cases hc
theorem bg.drop {K:PySem.W.Frag} {H:Hp} {τ:dC} {σ:St} (h:bg K H τ σ) (i:Nat):bg K H (τ.set i none) (σ.set i none):=by
 refine ⟨by simpa using h.1,λj u e=>?_⟩
 by_cases hj:i=j
 ·subst hj
  by_cases hl:i<τ.length
  ·rw [List.getElem?_set_self hl] at e;cases e
  ·rw [List.getElem?_eq_none (by simpa using hl)] at e;cases e
 ·rw [List.getElem?_set_ne hj] at e;obtain ⟨u',e1,r1⟩:=h.2 j u e;exact ⟨u',by rw [List.getElem?_set_ne hj];exact e1,r1⟩
end
section
variable {X:Cx} {a:Addr} {oe:Obj} {C D:Addr} {bm bmD:List Value}
theorem gJ {x y:V} {us:List Value} (r:aM [x,y] us):∃u v,us=[u,v]/\aZ x u/\aZ y v:=by
 cases r with
 | cons r1 r=>
   cases r with
   | cons r2 r=>cases r;exact ⟨_,_,rfl,r1,r2⟩
end
theorem XC.self {K:PySem.W.Frag} {C:Addr} {bm:List Value} (x:XC K C bm):mroIn K C (.ref C)=some true:=by rw [x.mro];simp
theorem Cw:PySem.W.kitMeta "ValueError"=true:=by decide+kernel
theorem yN:bootBuiltins "ValueError"=some (.type "ValueError"):=by decide+kernel
section
variable {prog:Program} {w:World} {A:Around} {R:Result->Shared->Prop} {I:Addr} {fp wr:List Addr} {n:Nat} {P:Nat->Value->Prop} {St:Nat->Heap->Prop} {kw:List (Str×Value)}
end
section
variable {prog:Program} {w:World} {A:Around} {E:Value->Shared->Prop} {s:Shared} {l:Addr} {xs:Array (Int×Tok)} {d:Value}
end
section
variable {X:Cx}
end
section
variable {P:Program} {w:World} {K:PySem.W.Frag} {mg:Str->Option Value} {base:Heap} {N:List Str} {qual:Str} {scope:Scope} {f:Addr} {cdv:Value} {A:Around} {outer:List Env} {s:Shared} {H:Hp} {E:XK}
theorem vm {E':XK} (hE:∀C H1,aI H H1->E' (.ref C) none H1->E (.ref C) none H1):eB (nP P w) (dG (nP P w) P w K mg base N qual scope f cdv A outer s H E) E':=by
 intro pins σ H2 s2 e s3 I hx;obtain ⟨a,T,C,H',rfl,os,bare,F,hw⟩:=hx;have I':=F.inv I os bare;obtain ⟨a0,tr⟩:=F.traced;show wpAny _ _ (leaving (envOfC qual scope s.heap.objs.size f cdv) (.ref a)) _ _ s3;refine wpAny_leaving_nextW (base:=hideAll s3.heap (a::T::ez (envOfC qual scope s.heap.objs.size f cdv::outer))) (outer:=outer) (L:=s.heap.objs.size) I'.ok.frames (eZ I'.stack λb z=> .tail _ (.tail _ z)) rfl tr (λb o q=>of_hideAll _ q) (hideAll_none _ (.head _)) λh3 left=>?_;obtain ⟨k1,_,k3,k4⟩:=left;obtain ⟨T',F'⟩:=F.move I'.frmem k1 k3 k4;have nL:∀b o,s.heap.get? b=some o->b∉ez outer->b∉ez (envOfC qual scope s.heap.objs.size f cdv::outer):=λb o q hb z=>by
  rcases List.mem_cons.mp (show b∈s.heap.objs.size::ez outer from z) with z | z
  ·exact absurd (Heap.lt_size q) (by rw [z];exact Nat.lt_irrefl _)
  ·exact hb z
 have no:∀b:Addr,b∉(dG (nP P w) P w K mg base N qual scope f cdv A outer s H E).ex:=λb y=>nomatch y;have back:∀b,s2.heap.get? b=none->s.heap.get? b=none:=λb q=>by
  cases z:s.heap.get? b with
  | none=>rfl
  | some o=>
    obtain ⟨o',e'⟩:=I.base.there b o z (no b);rw [q] at e';cases e'
 have tl:aI H H':=⟨λb xs q=>F.un.tups b xs (I.base.tups b xs q),λb o u q=>F.un.frzs b o _ (I.base.frzs b o _ q)⟩;refine ⟨a,T',C,H',rfl,os.trans I.os,bare,⟨⟨λb o q n hb hx=>?_,λb o q n hb hx=>?_,λb o q n hx=>?_,λb o q hx=>?_,λb xs q=>F.un.tups b xs (I.base.tups b xs q),λb o u q=>F.un.frzs b o u (I.base.frzs b o u q),λb ps q=>?_⟩,F'.hok,back a F'.na,back T' F'.nT,F'.ha,F'.hT,F'.tr⟩,hE C H' tl hw⟩
 ·exact F'.un.keep b o (I.base.keep b o q n hb (no b)) (I.base.free b o q n (no b)) (nL b o q hb) (by simp)
 ·obtain ⟨sl,e1⟩:=I.base.slot b o q n hb (no b);obtain ⟨sl2,e2⟩:=F'.un.slot b _ e1 (I.base.free b o q n (no b)) (List.mem_cons_of_mem _ hb) (by simp);exact ⟨sl2,e2⟩
 ·obtain ⟨o',e'⟩:=I.base.there b o q (no b);exact F'.un.free b o' e' (I.base.free b o q n (no b)) (by simp)
 ·obtain ⟨o',e'⟩:=I.base.there b o q (no b);exact F'.un.there b o' e' (by simp)
 ·obtain ⟨m1,e1⟩:=I.base.tbls b ps q;obtain ⟨m2,e2⟩:=F.un.tbls b _ e1;exact ⟨m1++m2,by rw [e2,Array.append_assoc]⟩
end
section
variable {X:Cx} {pins:List (Addr×Obj)} {σ:St} {H:Hp} {s:Shared}
theorem aA.big (I:aA X pins σ H s):sysModules<s.heap.objs.size:=by
 have h:mainGlobals<s.heap.objs.size:=(I.mod.glob.keeps I.bk).lt;exact Nat.lt_trans (by decide) h
end
section
variable {prog:Program} {w:World} {A:Around} {E:Value->Shared->Prop} {s:Shared} {I l:Addr} {items:Array Value}
end
section
variable {X:Cx}
end
section
variable {X:Cx} {tg:Expr}
noncomputable def Cy (i j:Int):Prop:=0<=j/\j<=1000/\i.natAbs<2^4000
noncomputable def sG (i j:Int):Prop:=yc i j∨Cy i j
noncomputable abbrev xk:W2:=vInt sG λi j=> .int (i^j.toNat)
theorem vn:ir X (binaryOp .Pow) (rI sG λi j=> .int (i^j.toNat)):=BI λi j _ _ _ _ _ hc q=>by
 rcases hc with hc | ⟨h0,h1,h2⟩
 ·exact pow_int_small hc.1 hc.2.1 hc.2.2 q
 ·refine pow_int h0 ?_ q;have b1:=PyProof.Rows.intBits_le h2;have b2:(Builtin.Int.intBits i:Int)*j<=4000*1000:=Int.mul_le_mul (by omega) h1 h0 (by decide);have hb:(4000000:Int)<=bitsLine:=by decide
  first | omega | (simp [Builtin.Int.intTooBig];omega)
theorem iX:ic X (binaryOp .Pow) xk:=nE vn
end
section
variable {X:Cx} {C:Addr} {th:WS} {x:Str} {p pos:Pos}
end
end L2
set_option maxRecDepth 100000
namespace L2
open PySem PySem.Spec PyProof.Rows
section
variable {X:Cx}
end
theorem gK:fillsNumberSlot (.type "tuple") "mul"=pure false:=
 PySem.fillsNumberSlot_seq (id:="tuple.__mul__") (r:=some (.builtin "tuple.__rmul__")) F.slot_tuple_mul.lookup (by decide+kernel) F.slot_tuple_rmul.lookup (by decide+kernel)
theorem kL:seqRepeat? (.type "tuple")=pure (some (.builtin "tuple.__mul__")):=by
 unfold seqRepeat?;rw [PySem.seqSlot_of (T:="tuple") (name:="__mul__") (id:="tuple.__mul__") F.slot_tuple_mul.lookup (by decide+kernel),PySem.seqSlot_of (T:="tuple") (name:="__rmul__") (id:="tuple.__rmul__") F.slot_tuple_rmul.lookup (by decide+kernel)]
 rfl
theorem iY (a:Int) (t:Tok) (l:Addr) (items:Array Value) (n:Nat) (dd:Option Addr) (sl:Array (Option Value)):
 Meets (Builtin.«int.__rmul__» ⟨[.int a t,.ref l],[]⟩) (λ_ R s=>s.heap.get? l=some { cls:= .type "tuple",dict:=dd,data:= .seq items n,slots:=sl }/\R (.ok (.ret Value.notImplemented)) s):=
 .of_wp λprog w A R s h=>by obtain ⟨hp,g,d,tk,os⟩:=s;obtain ⟨hl,h⟩:=h;wp_walk;exact ⟨_,rfl,h⟩
theorem nQ (l:Addr) (items:Array Value) (n:Nat) (dd:Option Addr) (sl:Array (Option Value)) (u:Tok):
 Meets (Builtin.«tuple.__mul__» ⟨[.ref l,.int 1 u],[]⟩) (λ_ R s=>s.heap.get? l=some { cls:= .type "tuple",dict:=dd,data:= .seq items n,slots:=sl }/\R (.ok (.ret (.ref l))) s):=
 .of_wp λprog w A R s h=>by
  obtain ⟨hp,g,d,tk,os⟩:=s;obtain ⟨hl,h⟩:=h
  wp_walk
  exact ⟨_,rfl,h⟩
theorem nR (l:Addr) (items:Array Value) (n:Nat) (dd:Option Addr) (sl:Array (Option Value)) (x:Int) (u:Tok) (h0:items.isEmpty=false) (h1:(x==1)=false) (h2:0<x) (hf:(decide (x< -(2^63))||decide (x≥2^63))=false) (hm:decide ((items.size:Int)*x > (2^63-1)/8)=false) (ht:Builtin.Tuple.tupleTooMany ((items.size:Int)*x)=false) (hsz:((List.replicate x.toNat items).foldl (·++ ·) #[]).size<=sizeLine):
 Meets (Builtin.«tuple.__mul__» ⟨[.ref l,.int x u],[]⟩) (λ_ R s=>s.heap.get? l=some { cls:= .type "tuple",dict:=dd,data:= .seq items n,slots:=sl }/\R (.ok (.ret (.ref s.heap.objs.size))) { s with heap:=s.heap.push { cls:= .type "tuple",data:= .seq ((List.replicate x.toNat items).foldl (·++ ·) #[]) } }):=
 .of_wp λprog w A R s h=>by
  obtain ⟨hp,g,d,tk,os⟩:=s;obtain ⟨hl,h⟩:=h;have c1:(items.isEmpty||x==1)=false:=by rw [h0,h1];rfl
  have c2:(decide (x<=0)||items.isEmpty)=false:=by rw [h0,decide_eq_false (by omega)];rfl
  wp_walk
  refine wpAny_ite_false (by rw [hf];rfl) ?_
  wp_walk
  refine wpAny_ite_false hm ?_
  wp_walk
  exact ⟨_,rfl,h⟩
theorem nS (l:Addr) (items:Array Value) (n:Nat) (dd:Option Addr) (sl:Array (Option Value)) (u:Tok) (h0:items.isEmpty=false):
 Meets (Builtin.«tuple.__mul__» ⟨[.ref l,.int 0 u],[]⟩) (λ_ R s=>s.heap.get? l=some { cls:= .type "tuple",dict:=dd,data:= .seq items n,slots:=sl }/\R (.ok (.ret (.ref s.heap.objs.size))) { s with heap:=s.heap.push { cls:= .type "tuple",data:= .seq #[] } }):=
 .of_wp λprog w A R s h=>by
  obtain ⟨hp,g,d,tk,os⟩:=s;obtain ⟨hl,h⟩:=h;have c1:(items.isEmpty||(0:Int)==1)=false:=by rw [h0];rfl
  wp_walk
  exact ⟨_,rfl,h⟩
section
variable {X:Cx}
noncomputable def AR (K:PySem.W.Frag):R2:=λx y H Q=>∃a k xs,x=.ref a/\y=.int k/\cR K H a xs/\xs≠[]/\0<=k/\k<=100000/\xs.length*k.toNat<=sizeLine/\
 (k=1->Q (.ref a) H)/\(k≠1->∀p,H p=none->Q (.ref p) (upd H p (.tup (List.replicate k.toNat xs).flatten)))
theorem vo:ir X (binaryOp .Mult) (AR X.K):=by
 intro pins s σ H x y v u Q I rx ry h;obtain ⟨a,k,xs,rfl,rfl,ha,hx,h0,h1,hz,q1,q2⟩:=h;cases rx;obtain ⟨t,rfl⟩:=ry;obtain ⟨its,r1,p1,_⟩:=I.tuple ha;have hl:=r1.length;obtain ⟨⟨cls,dd,data,sl⟩,ho,hc,n,hd⟩:=id p1;simp only at hc hd;subst hc hd;have he:its.toArray.isEmpty=false:=by
  cases its with
  | nil=>exact absurd (r1.nil_iff.mp rfl) hx
  | cons _ _=>rfl
 refine wpAny_binaryOp_repeat_ref (T:="tuple") (U:="int") (by decide) ⟨_,ho,rfl⟩ (λs'=>typeIs_int s' k t) gK F.fills_int_mul F.slot_int_rmul kL F.slot_int_index.lookup
  (call_meets F.slot_int_rmul (typeIs_int s k t) F.entry_int_rmul (F.args_int_rmul_2 _ _) (iY k t a its.toArray n dd sl) ⟨ho,rfl,⟨_,ho,rfl⟩,?_⟩)
 by_cases hk1:k=1
 ·subst hk1;exact call_meets F.slot_tuple_mul ⟨_,ho,rfl⟩ F.entry_tuple_mul (F.args_tuple_mul_2 _ _) (nQ a its.toArray n dd sl t) ⟨ho,⟨.ref a,H,I,rfl,q1 rfl⟩⟩
 ·by_cases hk0:k=0
  ·subst hk0;refine call_meets F.slot_tuple_mul ⟨_,ho,rfl⟩ F.entry_tuple_mul (F.args_tuple_mul_2 _ _) (nS a its.toArray n dd sl t he) ⟨ho,?_⟩;refine ⟨.ref s.heap.objs.size,_,I.laid (t':=s.toks) (o:= .tup []) (λb ob q=>Heap.get?_push_of_some _ q) (Nat.le_refl _) ?_,rfl,q2 (by decide) _ (I.hok.fresh (Nat.le_refl _))⟩;exact ⟨Nat.zero_le _,[],.nil,IsTup.new _ _⟩
  ·have hsz:(its.toArray.size:Int)*k<=(sizeLine:Int):=by
    rw [List.size_toArray,←hl,←Int.toNat_of_nonneg h0]
    exact_mod_cast hz
   have hnew:List.foldl (λx1 x2=>x1++x2) #[] (List.replicate k.toNat its.toArray)=(List.replicate k.toNat its).flatten.toArray:=by
    have:=gF its k.toNat [];rw [List.nil_append] at this;exact this
   refine call_meets F.slot_tuple_mul ⟨_,ho,rfl⟩ F.entry_tuple_mul (F.args_tuple_mul_2 _ _) (nR a its.toArray n dd sl k t he (by simpa using hk1) (by omega) ?_ ?_ ?_ ?_) ⟨ho,?_⟩
   ·rw [decide_eq_false (by omega),decide_eq_false (by omega)];rfl
   ·refine decide_eq_false (Int.not_lt.mpr (Int.le_trans hsz ?_));decide
   ·unfold Builtin.Tuple.tupleTooMany;exact decide_eq_false (Int.not_lt.mpr hsz)
   ·rw [hnew,List.size_toArray,iw,Nat.mul_comm,←hl];exact hz
   ·rw [hnew];refine ⟨.ref s.heap.objs.size,_,I.laid (t':=s.toks) (o:= .tup (List.replicate k.toNat xs).flatten) (λb ob q=>Heap.get?_push_of_some _ q) (Nat.le_refl _) ?_,rfl,q2 hk1 _ (I.hok.fresh (Nat.le_refl _))⟩;exact ⟨by rw [iw,Nat.mul_comm];exact hz,_,r1.rep k.toNat,IsTup.new _ _⟩
end
section
variable {X:Cx}
end
noncomputable abbrev vp:=Addr->dC->Gp->Prop
noncomputable def XP (X:Cx) (pins:List (Addr×Obj)) (H:Hp) (ex:vp) (e:Value) (s':Shared):Prop:=
 ∃a T C H0 s0 σ H' τ G,e=.ref a/\aA X pins σ H0 s0/\Fl X.prog X.w (ez X.stack) H0 H' s0.heap s'.heap a T (.ref C) .none/\s'.os=s0.os/\AllBare s'.gens/\aI H H'/\bg X.K H' τ σ/\aH X.K H' G/\ex C τ G
noncomputable def QY (X:Cx) (st:Stmt) (t:vp->WS):Prop:=
 ∀(ex:vp) (pins:List (Addr×Obj)) (s:Shared) (σ:St) (H:Hp) (D:ft),aA X pins σ H s->LS X.K (t ex) D σ H->wpAny (model X.prog X.w) X.A (exec st X.env) (SP X pins D) (XP X pins H ex) s
noncomputable def DM (X:Cx) (st:List Stmt) (t:vp->WS):Prop:=
 ∀(ex:vp) (pins:List (Addr×Obj)) (s:Shared) (σ:St) (H:Hp) (D:ft),aA X pins σ H s->LS X.K (t ex) D σ H->wpAny (model X.prog X.w) X.A (execs st X.env) (SP X pins D) (XP X pins H ex) s
section
variable {X:Cx} {x:Str} {p pos:Pos}
theorem o7 {st:Stmt} {t:vp->WS} (h:QY X st t):DM X [st] t:=by
 intro ex pins s σ H D I hl;refine wpAny_execs_cons (bV (h ex pins s σ H D I hl) λf s1 q=>?_);cases f with
 | next=>exact wpAny_execs_nil q
 | ret v=>exact q
 | brk=>exact q
 | cont=>exact q
noncomputable def AS (sp:bZ) (dws:List W) (t:WA):vp->WS:=λex d τ G=>t τ G λws G1=>sp (ws++dws) G1 (λ_ G2=>d.nx τ G2) λc G2=>∀C,c=.ref C->ex C τ G2
theorem xm {k:Nat} {ps:List Str} {sp:bZ} {dws:List W} {e:Expr} {es:List Expr} {t:WA} {cpos epos:Pos} (hnx:∀e s,¬X.xe e s)
 (F:Rx X.prog X.w X.K X.mg X.base x ps k sp dws) (hr:ay k X.A) (hg:Gl X x) (ha:QA X (e::es) t) (hdb:(x==("__debug__":Str))=false:=by decide)
 (he:starEach (e::es) X.env=(false,eval e X.env)::starEach es X.env:=by rfl) (hpl:(backTo cpos (starEach es X.env)).any (·.1)=false:=by rfl) (hsw:swapsWith (.Call (.Name x p) (e::es) [] cpos) none epos.line X.env=pure false:=by rfl):
 QY X (.Expr (.Call (.Name x p) (e::es) [] cpos) epos) (AS sp dws t):=by
 rintro ex pins s σ H D I ⟨τ,G,d,rs,rg,ht,l⟩;obtain ⟨f,fd,ds,dvs,F,hm,hk,hb,hd,hrep⟩:=F;refine wpAny_Expr_any (wpAny_Call_Name_kw (eA I hg hm ?_ hdb)) I.quiet hsw;have go:=ha cpos pins s σ H (λvs H1=>uF X.K sp (vs++dvs) H1 (λ_ H2=>D.nx σ H2) λc _ H2=>∀C,c=.ref C->aI H H2/\∃G2,bg X.K H2 τ σ/\aH X.K H2 G2/\ex C τ G2) I ⟨τ,G,_,rs,rg,ht,λvs H1 ws G1 t1 r1 g1 q1=>
  ⟨ws++dws,G1,_,_,r1.append (hrep H1),g1,q1,λv H2 w G2 t2 r2 g2 q2=>l.nx σ H2 τ G2 (t1.trans t2) (rs.mono (t1.trans t2)) g2 q2,
    λc dd H2 G2 t2 g2 q2 C ec=>⟨t1.trans t2,G2,rs.mono (t1.trans t2),g2,q2 C ec⟩⟩⟩
 refine callWith_K (h₀:=X.base) I.ok.mod.kin hk (wpAny_mono go (λus s1 h1=>?_) λe s1 z=>(hnx e s1 z).elim) he hpl;obtain ⟨vs,H1,I1,r,q⟩:=h1;refine ⟨I1.kIn,?_⟩;have r2:aM (vs++dvs) (us++ds):=r.append hd;have hl:(us++ds).length=ps.length:=by rw [←r2.length];exact F.len _ _ _ _ q
 refine wpAny_call (codeAny_mono (F.run X.A X.stack s1 H1 ⟨us,[]⟩ (us++ds) (vs++dvs) _ _ hr I1.env0 (hb s1 us I1.kIn hl) r2 q) λr s' hq=>?_);cases r with
 | ok fl=>
   cases fl with
   | ret u=>
     obtain ⟨v,H',I',rv,q'⟩:=I1.after hq;exact ⟨σ,H',I',q'⟩
   | next=>exact False.elim hq
   | brk=>exact False.elim hq
   | cont=>exact False.elim hq
 | error e=>
   obtain ⟨a,T,C',H',rfl,os,bare,F1,hx⟩:=hq;obtain ⟨tl,G2,rs2,rg2,hx⟩:=hx C' rfl;exact ⟨a,T,C',H1,s1,σ,H',τ,G2,rfl,I1,F1,os,bare,tl,rs2,rg2,hx⟩
noncomputable def xn (t:vp->WS) (cs:List (Addr×WS)):WS:=λd τ G=>t (λC τ1 G1=>∃th,(C,th)∈cs/\th d τ1 G1) d τ G
theorem o8 {body:List Stmt} {h0:ExceptHandler} {hs:List ExceptHandler} {t:vp->WS} {cs:List (Addr×WS)} (hst:X.stack=X.env::X.outer) (hfr:X.env.frame=some X.env.locals) (hb:DM X body t) (hh:∀c,c∈cs->QH X c.1 (h0::hs) c.2):
 QS X (.Try body (h0::hs) [] [] pos) (xn t cs):=by
 rintro pins s σ H D I ⟨τ,G,d,rs,rg,ht,l⟩;refine wpAny_Try_except (wpAny_mono (hb _ pins s σ H D I ⟨τ,G,d,rs,rg,ht,l⟩) (λf s1 q=>?_) λe s' hx=>?_)
 ·cases f with
  | next=>exact wpAny_execs_nil q
  | ret v=>exact q
  | brk=>exact q
  | cont=>exact q
 ·obtain ⟨a,T,C,H1,s1,σ1,H',τ1,G1,rfl,I1,F1,os,bare,tl,rs1,rg1,th,hc,hx⟩:=hx;have I':=F1.inv I1 os bare;obtain ⟨a0,tr⟩:=F1.traced;refine wpAny_noteFrame_onW (base:=hideAll s'.heap (a::T::ez X.stack)) (outer:=X.outer) (by rw [←hst];exact I'.ok.frames) (by rw [←hst];exact eZ I'.stack λb z=> .tail _ (.tail _ z)) hfr tr (λb o q=>of_hideAll _ q) (hideAll_none _ (.head _)) λh2 N2=>?_;obtain ⟨k1,_,k3,k4⟩:=N2;obtain ⟨T2,F2⟩:=F1.move I'.frmem k1 k3 k4;refine Fl.lands (s:={ s' with heap:=h2 }) F2 I1 os bare λh3 T3 F3=>?_;exact hh _ hc pins s1 σ1 H1 { s' with heap:=h3 } H' a T3 D I1 F3 os bare ⟨τ1,G1,d,rs1,rg1,hx,l.mono tl⟩
theorem o9 {hs:List ExceptHandler}:∀c:Addr×WS,c∈([]:List (Addr×WS))->QH X c.1 hs c.2:=λ_ h=>nomatch h
theorem lN {hs:List ExceptHandler} {C:Addr} {th:WS} {cs:List (Addr×WS)} (h1:QH X C hs th) (h2:∀c:Addr×WS,c∈cs->QH X c.1 hs c.2):∀c:Addr×WS,c∈(C,th)::cs->QH X c.1 hs c.2:=λc h=>by
 rcases List.mem_cons.mp h with z | z
 ·rw [z];exact h1
 ·exact h2 c z
end
theorem slot_rv_next:Slot "reversed" "__next__" "reversed.__next__":=
 .of (owner:="reversed") (n:="__next__") (by rw [typeLookup_type,builtinLookup_eq_fast];kernel_rfl) (by decide+kernel) (by decide+kernel) (by decide+kernel)
  (by first | exact .inl (by decide+kernel) | exact .inr (by decide+kernel)) (by rw [isSubtype_type];kernel_rfl)
theorem fE:entryFor table "reversed.__next__"=some Builtin.«reversed.__next__»:=entryFor_of_tree (by kernel_rfl)
theorem fW (a:Value):argsOk "reversed.__next__" ⟨[a],[]⟩:=by unfold argsOk;kernel_rfl
theorem fX:Slot "reversed" "__iter__" "reversed.__iter__":=
 .of (owner:="reversed") (n:="__iter__") (by rw [typeLookup_type,builtinLookup_eq_fast];kernel_rfl) (by decide+kernel) (by decide+kernel) (by decide+kernel)
  (by first | exact .inl (by decide+kernel) | exact .inr (by decide+kernel)) (by rw [isSubtype_type];kernel_rfl)
theorem kM (a:Value):argsOk "reversed.__iter__" ⟨[a],[]⟩:=by unfold argsOk;kernel_rfl
theorem jy:entryFor table "reversed.__iter__"=some Builtin.«dict_keyiterator.__iter__»:=
 entryFor_alias (id':="dict_keyiterator.__iter__") (by kernel_rfl) (by first | rfl | decide+kernel | (unfold String.splitOn;simp+decide [String.splitOnAux])) (by decide+kernel) (by kernel_rfl)
theorem kN:Slot "reversed" "__init__" "object.__init__":=
 .of (owner:="object") (n:="__init__") (by rw [typeLookup_type,builtinLookup_eq_fast];kernel_rfl) (by decide+kernel) (by decide+kernel) (by decide+kernel)
  (by first | exact .inl (by decide+kernel) | exact .inr (by decide+kernel)) (by rw [isSubtype_type];kernel_rfl)
theorem qI:TypeCalled "reversed" "reversed.__new__" "object.__init__":=
 ⟨by decide+kernel,by decide+kernel,⟨_,_,F.mro_reversed⟩,F.made_reversed,by decide+kernel,by rw [isSubtype_type];kernel_rfl,kN⟩
theorem qJ:typeLookup (.type "tuple") "__reversed__"=pure none:=by (rw [typeLookup_type,builtinLookup_eq_fast]);kernel_rfl
theorem nU:isSubtype (.type "tuple") (.type "dict")=pure false:=by rw [isSubtype_type];kernel_rfl
noncomputable def pc (a:Addr) (i:Int):Obj:={ cls:= .type "reversed",data:= .fields #[.ref a,rawInt i] }
noncomputable def gL (h:Heap) (it a:Addr) (i:Int):Prop:=∃o,h.get? it=some o/\o.cls=.type "reversed"/\o.data=.fields #[.ref a,rawInt i]
theorem gL.at {h h':Heap} {it a:Addr} {i:Int} (x:gL h it a i) (e:∀o,h.get? it=some o->h'.get? it=some o):gL h' it a i:=let ⟨o,ho,r⟩:=x;⟨o,e _ ho,r⟩
theorem jz {i n:Nat} (h:i<n):seqIndex? (i:Int) n=some i:=by
 unfold seqIndex?;have h0:¬((i:Int)<0):=by omega
 have h1:(0:Int)<=(i:Int):=by omega
 have h2:(i:Int)<(n:Int):=by omega
 simp only [h0,if_false,h1,h2,decide_true,Bool.and_true,if_true,Int.toNat_natCast]
section
variable {prog:Program} {w:World} {A:Around} {E:Value->Shared->Prop} {s:Shared}
theorem gL.typeIs {it a:Addr} {i:Int} (x:gL s.heap it a i):s.TypeIs (.ref it) "reversed":=let ⟨o,ho,hc,_⟩:=x;⟨o,ho,hc⟩
theorem fu {l:Addr} {items:Array Value} {Q:Value->Shared->Prop} (hl:IsTup s.heap l items) (hfit:(items.size:Int)<2^63)
 (h:∀tk,Q (.ref s.heap.objs.size) { s with heap:=s.heap.push (pc l ((items.size:Int)-1)),toks:=tk }):wpAny (model prog w) A (call (.type "reversed") [.ref l]) Q E s:=by
 refine callType_new qI (by decide) (F.typeCall_reversed_1 _) (F.newCall_reversed_1 _) (λobj=>F.args_object_init_2 obj _) F.entry_reversed_new
  (S:=λA R s1=>s1=s/\∀tk,R (.ok (.ret (.ref s.heap.objs.size))) { s with heap:=s.heap.push (pc l ((items.size:Int)-1)),toks:=tk }) ?_ ⟨rfl,λtk=>⟨⟨_,Heap.get?_push_size _ rfl,rfl⟩,h tk⟩⟩
 refine .of_wp λprog w A R s1 hs=>?_;obtain ⟨rfl,hs⟩:=hs;unfold Builtin.«reversed.__new__»;refine wpAny_bind (wpAny_of_eq (newClass_reversed _) ?_)
 try dsimp only
 refine wpAny_bind (wpAny_of_eq (a:=()) (by first | rfl | kernel_rfl) ?_);refine wpAny_bind (wpAny_of_eq (a:=()) (by first | rfl | kernel_rfl) ?_)
 try dsimp only
 refine wpAny_bind (wpAny_specialOf hl.typeIs qJ ?_)
 try dsimp only
 k_delta "hasItemSlot"
 refine wpAny_bind (wpAny_bind (wpAny_isInstance hl.typeIs nU ?_));simp only [Bool.false_eq_true,if_false];refine wpAny_bind (wpAny_specialOf hl.typeIs slot_tuple_getitem.lookup ?_)
 try dsimp only
 rw [if_pos (by decide)];refine wpAny_pure ?_;simp only [Bool.not_true,Bool.false_eq_true,if_false];refine wpAny_bind (len_tuple hl hfit ?_);refine wpAny_bind (wpAny_of_eq (a:=some (items.size:Int)) rfl ?_)
 try dsimp only
 unfold Builtin.SmallTypes.newRecord;refine wpAny_bind (wpAny_newObj_type (wpAny_pure ⟨_,rfl,?_⟩));exact hs _
theorem jQ {it l:Addr} {i:Int} {Q:Value->Shared->Prop} (hit:gL s.heap it l i) (h:Q (.ref it) s):wpAny (model prog w) A (pyIter (.ref it)) Q E s:=by
 refine wpAny_pyIter_slot hit.typeIs fX (wpAny_call_entry fX hit.typeIs jy ?_ (kM _));show wpAny _ _ (ret (.ref it)) _ _ s;exact wpAny_pure ⟨_,rfl,"reversed",_,hit.typeIs,slot_rv_next.lookup,h⟩
theorem vq {it l:Addr} {i:Nat} {items:Array Value} {x:Value} {Q:Option Value->Shared->Prop} (hit:gL s.heap it l (i:Int)) (hl:IsTup s.heap l items) (hi:(i:Int)<2^63) (hx:items[i]?=some x)
 (hQ:∀h' tk,gL h' it l ((i:Int)-1)->Heap.SameBut it s.heap h'->Q (some x) { s with heap:=h',toks:=tk }):wpAny (model prog w) A (pyNext (.ref it)) Q E s:=by
 obtain ⟨o,ho,hc,hd⟩:=id hit;unfold pyNext;refine wpAny_bind (wpAny_attempt (wpAny_callSpecial?_slot (name:=Str.ofString "__next__") hit.typeIs slot_rv_next
  (wpAny_call_entry slot_rv_next hit.typeIs fE ?_ (fW _))))
 unfold Builtin.«reversed.__next__»;refine wpAny_bind (wpAny_of_eq (a:=(Value.ref it,[])) rfl ?_)
 try dsimp only
 refine wpAny_bind (wpAny_field ho hd (x:= .ref l) rfl ?_);refine wpAny_bind (wpAny_field ho hd (x:=rawInt (i:Int)) rfl ?_);show wpAny _ _ (if (i:Int)<0 then _ else _) _ _ s;rw [if_neg (by omega)];refine wpAny_bind (wpAny_specialOf hl.typeIs slot_tuple_getitem.lookup ?_);simp only [Option.isNone_some,Bool.false_eq_true,if_false];refine wpAny_bind (wpAny_mkInt ?_);have hz:i<items.size:=by
  rcases Nat.lt_or_ge i items.size with h | h
  ·exact h
  ·rw [Array.getElem?_eq_none h] at hx;cases hx
 have hl':IsTup ({ s with toks:=s.toks+1 }:Shared).heap l items:=hl;refine wpAny_bind (wpAny_attempt (getItem_tuple (s:={ s with toks:=s.toks+1 }) hl' (by omega) hi (jz hz) hx ?_))
 try dsimp only
 refine wpAny_bind (wpAny_field (s:={ s with toks:=s.toks+1 }) ho hd (x:=rawInt (i:Int)) rfl ?_);refine wpAny_bind (wpAny_setField (s:={ s with toks:=s.toks+1 }) ho hd (by simp) ?_);refine wpAny_pure ⟨x,rfl,wpAny_pure (hQ _ _ ?_ (Heap.SameBut.update ..))⟩;exact ⟨_,Heap.get?_update_self _ ho (Obj.isFreed_of_fields (Obj.data_mapFields hd _)),(Obj.cls_mapFields ..).trans hc,by
  rw [Obj.data_mapFields hd];simp⟩
theorem lO {it l:Addr} {Q:Option Value->Shared->Prop} (hh:A.handled=none) (hit:gL s.heap it l (-1))
 (hQ:∀h',Heap.ExtBut it s.heap h'->Q none { s with heap:=h' }):wpAny (model prog w) A (pyNext (.ref it)) Q E s:=by
 obtain ⟨o,ho,hc,hd⟩:=id hit;unfold pyNext;refine wpAny_bind (wpAny_attempt (wpAny_callSpecial?_slot (name:=Str.ofString "__next__") hit.typeIs slot_rv_next
  (wpAny_call_entry slot_rv_next hit.typeIs fE ?_ (fW _))))
 unfold Builtin.«reversed.__next__»;refine wpAny_bind (wpAny_of_eq (a:=(Value.ref it,[])) rfl ?_)
 try dsimp only
 refine wpAny_bind (wpAny_field ho hd (x:= .ref l) rfl ?_);refine wpAny_bind (wpAny_field ho hd (x:=rawInt (-1)) rfl ?_);show wpAny _ _ (if (-1:Int)<0 then _ else _) _ _ s;rw [if_pos (by decide)];refine wpAny_bind (wpAny_rule ?_)
 k_delta "reversedEnd"
 refine wpAny_bind (wpAny_bind (wpAny_setField ho hd (by simp) ?_));have ho1:=Heap.get?_update_self (h:=s.heap) (λo:Obj=>o.mapFields λvs=>vs.set! 1 (rawInt (-1))) ho (Obj.isFreed_of_fields (Obj.data_mapFields hd _));refine wpAny_setField ho1 (Obj.data_mapFields hd _) (by simp) ?_;unfold Builtin.SmallTypes.stopIteration;refine wpAny_bind ?_
 first
 | show wpAny _ _ (newExc (.type "StopIteration") [] >>= _) _ _ _
 | (refine wpAny_bind ?_;show wpAny _ _ (newExc (.type "StopIteration") [] >>= _) _ _ _)
 refine wpAny_bind ?_;simp only [newExc,newTuple];refine wpAny_bind (wpAny_newObj_type ?_ (by size_fits));refine wpAny_bind (m:=firstArgMember _ _) (wpAny_of_eq (a:=Value.none) (by first | rfl | (simp only [firstArgMember];rfl)) ?_);refine wpAny_newObj_type ?_ (by size_fits);simp only [raiseNew];refine wpAny_bind (wpAny_handled ?_)
 first | rw [show A.in1.handled=none from hh] | rw [hh]
 refine wpAny_bind (wpAny_pure (wpAny_throw ?_));refine wpAny_bind (wpAny_isInstance (T:="StopIteration") (b:=true) ⟨_,Heap.get?_push_size _ rfl,rfl⟩ isSubtype_stop ?_);refine wpAny_pure (hQ _ ((Heap.ExtBut.push (Heap.ExtBut.push ?_ _) _)));exact λb o hb e=>((Heap.SameBut.update _ _ _).2 b hb).trans (((Heap.SameBut.update _ _ _).2 b hb).trans e)
end
noncomputable def DN (K:PySem.W.Frag) (a:Addr) (n:Nat):It:=
 ⟨λi H=>∃xs x,cR K H a xs/\xs.length=n/\i<n/\xs[n-1-i]?=some x,λi H x H'=>H'=H/\∀xs,cR K H a xs->xs[n-1-i]?=some x,λi H=>∃xs,cR K H a xs/\xs.length=n/\n<=i⟩
theorem vt {P:Program} {w:World} {K:PySem.W.Frag} {tg:Expr} (a it:Addr) (n:Nat) (hn:(n:Int)<2^63):lx P w K tg (DN K a n) [it] it (λi h=>i<=n/\gL h it a ((n:Int)-1- (i:Int))) where
 mem:=by simp
 obj:=λi h st b hb=>by
  have e:b=it:=by simpa using hb
  subst e;obtain ⟨_,o,e,c,d⟩:=st;exact ⟨o,e,λv z=>by rw [d] at z;cases z⟩
 keep:=λi h h' st k=>⟨st.1,st.2.at λo e=>k it (by simp) o e⟩
 item:=by
  intro X hP hw hK hc i pins s σ H E I hf st hg;subst hP hw hK;obtain ⟨xs,x,hq,hl,hi,hx⟩:=hg;obtain ⟨its,rv,p,hz⟩:=I.tuple hq;obtain ⟨u,hu,ru⟩:=rv.get hx;obtain ⟨f0,f1,f2,f3,f4,f5⟩:=hf it (by simp);have st1:gL s.heap it a ((n-1-i:Nat):Int):=by have:=st.2;rw [show (n:Int)-1- (i:Int)=((n-1-i:Nat):Int) by omega] at this;exact this
  refine vq st1 p (by omega) (x:=u) (by simpa using hu) λh' tk st' sb=>?_;have I1:aA X pins σ H { s with heap:=h',toks:=tk }:=I.turned (t':=tk) (λb o hb e=>(sb.2 b hb).trans e) f0 f1 f3 f4 f5;obtain ⟨o,e,c,d⟩:=id st';exact ⟨u,rfl,lz (s:={ s with heap:=h',toks:=tk }) e c d (by decide) ⟨x,H,I1,ru,⟨rfl,λys hy=>by rw [I.tuple_inj hy hq];exact hx⟩,⟨by assumption,by rw [show (n:Int)-1- ((i+1:Nat):Int)=((n-1-i:Nat):Int)-1 by omega];exact st'⟩,λb hb=>(hf b hb).1⟩⟩
 done:=by
  intro X hP hw hK hc i pins s σ H E I hf st hg;subst hP hw hK;obtain ⟨xs,hq,hl,hi⟩:=hg;obtain ⟨f0,f1,f2,f3,f4,f5⟩:=hf it (by simp);have st1:gL s.heap it a (-1):=by have:=st.2;rw [show (n:Int)-1- (i:Int)= -1 by have:=st.1;omega] at this;exact this
  exact lO (I.ok.hd hc) st1 λh' eb=>⟨rfl,I.turned (t':=s.toks) (λb o hb e=>eb b o hb e) f0 f1 f3 f4 f5⟩
 self:=λ_ _ _ _ _ st h=>jQ st.2 h
theorem yO {K:PySem.W.Frag} {a:Addr} {ws:List W} {xs:List V} {H:Hp} (h:H a=some (.tup xs)) (r:aJ K H ws xs):qE K (DN K a xs.length) ws.reverse (λ_=>True) H where
 stop:=λi H1 G t g _ hl=>⟨xs,cR.of (t.tup _ _ h),rfl,by rw [←r.length];simpa using hl⟩
 go:=λi w H1 G t g _ e=>by
  have hl:=r.length;have hi:i<ws.length:=by
   rcases Nat.lt_or_ge i ws.length with z | z
   ·exact z
   ·rw [List.getElem?_eq_none (by simpa using z)] at e;cases e
  rw [List.getElem?_reverse hi] at e;obtain ⟨v,e1,rv⟩:=r.get e;rw [hl] at e1;refine ⟨⟨xs,v,cR.of (t.tup _ _ h),rfl,by omega,e1⟩,λx H' z9=>?_⟩;obtain ⟨eH,hy⟩:=z9;subst eH;have e2:=hy xs (cR.of (t.tup _ _ h));rw [e1] at e2;cases e2;exact ⟨aI.refl _,rv.mono t,g⟩
noncomputable def AT (ta:WA):WI:=λτ G r=>ta τ G λws G1=>match ws with
 | [.tup xs]=>r xs.reverse (λ_=>True) G1
 | _=>False
theorem pf:bootBuiltins "reversed"=some (.type "reversed"):=by decide+kernel
theorem yP {X:Cx} {tg a:Expr} {ta:WA} {p pos:Pos} (hg:Gl X "reversed") (hm:X.mg "reversed"=none) (ha:QA X [a] ta) (hs:starEach [a] X.env=[(false,eval a X.env)]:=by rfl):
 QI X tg (.Call (.Name "reversed" p) [a] [] pos) (AT ta):=by
 rintro pins s σ H R I ⟨τ,G,r,hτ,hG,ht,hR⟩;refine Call_ (gv I hg hm pf (PyProof.Rows.callWith_type1 (bV (ha pos pins s σ H (λvs H1=>∃ws G1,aI H H1/\aJ X.K H1 ws vs/\aH X.K H1 G1/\match ws with | [.tup xs]=>r xs.reverse (λ_=>True) G1 | _=>False) I ⟨τ,G,_,hτ,hG,ht,λvs H1 ws G1 t1 r1 g1 q1=>⟨ws,G1,t1,r1,g1,q1⟩⟩) λus s1 ⟨vs,H1,I1,ru,ws,G1,t1,r1,g1,q1⟩=>?_) (by rw [hs];rfl) (by rfl)));split at q1
 ·rename_i xs;cases r1 with
  | cons ra rn=>
    cases rn;cases ra with
    | @tup pa _ xs' ha' ra=>
      cases ru with
      | cons w1 wn=>
        cases wn;cases (show _=Value.ref pa from w1);obtain ⟨its,rv,p1,hz⟩:=I1.tuple (cR.of ha');have hl:=rv.length;have hsz:xs'.length<=9223372036854775807:=by
         have:sizeLine<=9223372036854775807:=by decide
         omega
        refine fu p1 (by simp;omega) λtk=>?_;have st0:gL (s1.heap.push (pc pa ((its.toArray.size:Int)-1))) s1.heap.objs.size pa ((xs'.length:Int)-1- ((0:Nat):Int)):=⟨_,Heap.get?_push_size _ rfl,rfl,by
         rw [show ((xs'.length:Int)-1- ((0:Nat):Int))=(its.toArray.size:Int)-1 by simp;omega];rfl⟩
        refine jQ (s:={ s1 with heap:=s1.heap.push (pc pa ((its.toArray.size:Int)-1)),toks:=tk }) st0 ?_;refine ⟨s1.heap.objs.size,[s1.heap.objs.size],_,_,H1,rfl,I1.kept (t':=tk) λb o e=>Heap.get?_push_of_some _ e,vt pa _ xs'.length (by omega),⟨Nat.zero_le _,st0⟩,λb hb=>?_,hR _ H1 _ _ G1 t1 g1 (yO ha' ra) q1⟩;have e:b=s1.heap.objs.size:=by simpa using hb
        subst e;exact I1.fpOk (Nat.le_refl _) (I1.hok.fresh (Nat.le_refl _))
 ·exact q1.elim
section
variable {prog:Program} {w:World} {A:Around} {E:Value->Shared->Prop} {s:Shared}
end
mutual
noncomputable def W.ge:W->W->Bool
 | .int i,.int j=>decide (i≥j)
 | .tup xs,.tup ys=>W.ges xs ys
 | _,_=>false
noncomputable def W.ges:List W->List W->Bool
 | [],[]=>true
 | [],_::_=>false
 | _::_,[]=>true
 | x::xs,y::ys=>if W.eq x y=true then W.ges xs ys else W.ge x y
end
noncomputable def Cz (A:Around) (s:Shared) (y x:Value) (b:Bool):Prop:=
 ∀(prog:Program) (w:World) (E:Value->Shared->Prop) (Q:Value->Shared->Prop),Q (.bool b) s->wpAny (model prog w) A (richCompare .GtE y x) Q E s
inductive qK (A:Around) (s:Shared):List Value->List Value->Bool->Prop where
 | nn:qK A s [] [] true
 | nc {y:Value} {ys:List Value}:qK A s [] (y::ys) false
 | cn {x:Value} {xs:List Value}:qK A s (x::xs) [] true
 | eq {x y:Value} {xs ys:List Value} {r:Bool} (h:SeqAt.EqAt A s x y true) (t:qK A s xs ys r):qK A s (x::xs) (y::ys) r
 | ne {x y:Value} {xs ys:List Value} {r:Bool} (h:SeqAt.EqAt A s x y false) (t:Cz A s x y r):qK A s (x::xs) (y::ys) r
section
open PySem.SeqAt
open PySem.AutoSeq1 (wpAny_loadPart')
open PySem.MeetsSeq PySem.MeetsSeq2 PySem.MeetsSeq3
end
section
variable {X:Cx} {pins:List (Addr×Obj)} {σ:St} {H:Hp} {s:Shared}
end
section
variable {X:Cx}
end
section
variable {X:Cx}
end
section
variable {prog:Program} {w:World} {A:Around} {E:Value->Shared->Prop} {h:Heap} {g:Array GenState} {d:Drawn} {t:Nat} {os:OsState} {a C:Addr} {o:Obj} {K:PySem.W.Frag} {bm:List Value}
theorem lP {R:Result->Shared->Prop} (X:K.In h) (hC:XC K C bm) (hx:h.get? a=some o) (hc:o.cls=.ref C) (hq:R (.ok (.ret (.ref C))) ⟨h,g,d,t,os⟩):
 codeAny (model prog w) A (.call (.builtin "getset_descriptor.__get__") ⟨[.builtin "object.__class__",.ref a,.ref C],[]⟩) R ⟨h,g,d,t,os⟩:=by
 have hT5:(⟨h,g,d,t,os⟩:Shared).TypeIs (.builtin "object.__class__") "getset_descriptor":=F.typeOf_object_class;have hcB:(Value.ref C::bm).contains (.type (".".intercalate ("object.__class__".cutAt '.').dropLast))=true:=by
  rw [F.owner_object_class];exact hC.has X rfl
 obtain ⟨N1,n1,q1,b1,d1,s1,u1,a1,c1,f1,g0,g1,g2,g3,g5,m1,gC,_,_,_⟩:=hC.obj h X;refine codeAny_call_builtin F.slot_gs_get.plain F.entry_gs_get (F.slot_gs_get.check _ _ _ _ _ _ _ _ hT5 (F.args_gs_get _ _ _) ?_)
 repeat (any_goals (first | assumption | (with_reducible refine wpAny_loadPart_at hx ?_;rw [hc]) | (with_reducible refine wpAny_isSubtype_exc gC ?_;rw [hcB]) | wp_step))
 refine ⟨Code.quiet_builtin _ (by decide+kernel),codeAny_builtin F.entry_object_class ?_⟩
 repeat (any_goals (first | assumption | (with_reducible refine wpAny_loadPart_at hx ?_;rw [hc]) | wp_step))
theorem jA {tk:Tok} {Q:Fin->Shared->Prop} (X:K.In h) (hC:XC K C bm) (hQ:XQ K C) (hx:h.get? a=some o) (hc:o.cls=.ref C) (hq:Q (.done (.ret (.ref C))) ⟨h,g,d,t,os⟩):
 wpAny (model prog w) A (Builtin.«object.__getattribute__» ⟨[.ref a,.str "__class__" tk],[]⟩) Q E ⟨h,g,d,t,os⟩:=by
 have hT5:(⟨h,g,d,t,os⟩:Shared).TypeIs (.builtin "object.__class__") "getset_descriptor":=F.typeOf_object_class;have f5:=F.typeOf_object_class;have f6:=F.slot_gs_get.lookup;have f7:=F.slot_gs_set.lookup;have L1:=looks_findIn (M:=model prog w) X hQ.gc
 repeat (any_goals (first | assumption | (with_reducible refine wpAny_loadPart_at hx ?_;rw [hc]) | with_reducible refine L1.at ?_ | wp_step))
 refine lP X hC hx hc ?_
 repeat (any_goals (first | assumption | wp_step))
theorem nV {M:Model} {nameV:Value} {Q:Unit->Shared->Prop} (X:K.In h) (hC:XC K C bm) (hx:h.get? a=some o) (hc:o.cls=.ref C) (hq:Q () ⟨h,g,d,t,os⟩):wpAny M A (checkBuiltinCall "BaseException.__getattribute__" ⟨[.ref a,nameV],[]⟩) Q E ⟨h,g,d,t,os⟩:=by
 have hk:builtinKind "BaseException.__getattribute__"=some .slot:=by decide+kernel
 have hsplit:splitId "BaseException.__getattribute__"=some ("BaseException","__getattribute__"):=by decide+kernel
 have hcB:(Value.ref C::bm).contains (.type "BaseException")=true:=hC.has X rfl;have ha:=F.args_bexc_ga (.ref a) nameV;obtain ⟨N1,n1,q1,b1,d1,s1,u1,a1,c1,f1,g0,g1,g2,g3,g5,m1,gC,_,_,_⟩:=hC.obj h X;simp only [checkBuiltinCall,hk,hsplit];refine wpAny_bind ?_
 ·unfold isInstance
  repeat (first | (with_reducible refine wpAny_loadPart_at hx ?_;rw [hc]) | (with_reducible refine wpAny_isSubtype_exc gC ?_;rw [hcB]) | wp_step)
  exact hq
theorem kO {tk:Tok} {R:Result->Shared->Prop} (X:K.In h) (hC:XC K C bm) (hQ:XQ K C) (hx:h.get? a=some o) (hc:o.cls=.ref C) (hq:R (.ok (.ret (.ref C))) ⟨h,g,d,t,os⟩):
 codeAny (model prog w) A (.call (.builtin "BaseException.__getattribute__") ⟨[.ref a,.str "__class__" tk],[]⟩) R ⟨h,g,d,t,os⟩:=
 codeAny_call_builtin F.excAttr_ValueError.ga.plain F.entry_bexc_ga (nV X hC hx hc (jA X hC hQ hx hc hq))
theorem nW {tk:Tok} {fill expr:Bool} {Q:Value->Shared->Prop} (X:K.In h) (hC:XC K C bm) (hQ:XQ K C) (hx:h.get? a=some o) (hc:o.cls=.ref C) (hq:Q (.ref C) ⟨h,g,d,t,os⟩):
 wpAny (model prog w) A (getAttrBy (.ref a) (.str "__class__" tk) fill expr) Q E ⟨h,g,d,t,os⟩:=by
 have f3:=F.excAttr_ValueError.ga.bind (.ref a);have hx0:(expr&&onTheHeap (Value.builtin "BaseException.__getattribute__"))=false:=by cases expr<;> rfl
 have hx2:(Value.builtin "BaseException.__getattribute__"==Value.builtin "object.__getattribute__")=false:=by decide+kernel
 have hx1:(onTheHeap (Value.ref C)&&Value.builtin "BaseException.__getattribute__"==Value.builtin "object.__getattribute__")=false:=by rw [hx2];rfl
 have L1:=looks_findIn (M:=model prog w) X hQ.ga;have L2:=looks_findIn (M:=model prog w) X hQ.gx
 repeat (any_goals (first | assumption | (with_reducible refine wpAny_loadPart_at hx ?_;rw [hc]) | with_reducible refine L1.at ?_ | with_reducible refine L2.at ?_ | wp_step))
 refine kO X hC hQ hx hc ?_
 repeat (any_goals (first | assumption | wp_step))
theorem fY {Q:Option Value->Shared->Prop} (X:K.In h) (hC:XC K C bm) (hQ:XQ K C) (hx:h.get? a=some o) (hc:o.cls=.ref C) (hq:Q (some (.ref C)) ⟨h,g,d,t+1,os⟩):
 wpAny (model prog w) A (getAttr? (.ref a) "__class__") Q E ⟨h,g,d,t,os⟩:=by
 unfold getAttr? getAttrBy?
 repeat (any_goals (first | assumption | with_reducible apply nW X hC hQ hx hc | wp_step))
end
section
variable {prog:Program} {w:World} {A:Around} {E:Value->Shared->Prop} {s:Shared} {a C D:Addr} {o:Obj} {K:PySem.W.Frag} {bm:List Value}
theorem jB {dep:Int} {tk:Tok} {Q:Fin->Shared->Prop} (X:K.In s.heap) (hC:XC K C bm) (hQ:XQ K C) (hE:XD K C) (hD:XD K D) (hs:mroIn K C (.ref D)=some false) (hne:C≠D) (hx:s.heap.get? a=some o) (hc:o.cls=.ref C)
 (h:Q (.done (.ret (.bool false))) { s with toks:=s.toks+1 }):
 wpAny (model prog w) A (Builtin.«isinstance.nested» ⟨[.ref a,.ref D,.int dep tk],[]⟩) Q E s:=by
 obtain ⟨hh,g,d,tt,os⟩:=s;have ht:PySem.W.Looks (model prog w) hh (typeOf (.ref a)) (.ref C):=hc▸(PySem.W.Looks.ld hx).andThen .now;unfold Builtin.«isinstance.nested»;refine wpAny_bind (ht.at ?_);rw [if_neg (λq=>by cases beq_iff_eq.mp q;exact hne rfl)];have L1:=PySem.W.looks_typeIn (M:=model prog w) X hD.ty;have L2:=PySem.W.looks_instIn (M:=model prog w) X hD.ins;have L4:PySem.W.Looks (model prog w) hh (isSubtype (.ref C) (.ref D)) false:=PySem.W.looks_subIn X hs;have L3:PySem.W.Looks (model prog w) hh (isInstance (.ref a) (.ref D)) false:=ht.andThen L4;refine wpAny_bind (L1.at ?_);rw [if_pos (by decide)]
 k_delta "plainIsInstance"
 obtain ⟨cd,e0⟩:=hD.cls;obtain ⟨cd',e1⟩:=hE.cls;have L5:=PySem.W.looks_typeIn (M:=model prog w) X hE.ty;have L6:=PySem.W.looks_instIn (M:=model prog w) X hE.ins;unfold isType
 repeat lk
 unfold clsIn at e0 e1;split at e0
 ·rename_i ho;split at e1
  ·rename_i ho1;refine PySem.W.nd_load (X _ _ ho) (PySem.W.nd_pure (wpAny_pure ?_));simp only [Bool.not_true,Bool.false_eq_true,if_false];refine wpAny_bind (L3.at ?_);simp only [Bool.false_eq_true,if_false];refine wpAny_bind (fY X hC hQ hx hc ?_);dsimp only;refine wpAny_bind ?_;refine PySem.W.nd_load (X _ _ ho1) (PySem.W.nd_pure ?_);simp only [Bool.not_true,Bool.false_eq_true,if_false];refine wpAny_bind (wpAny_rule ?_);refine L4.at ?_;exact wpAny_pure h
  ·cases e1
 ·cases e0
theorem lQ {Q:Value->Shared->Prop} (X:K.In s.heap) (hC:XC K C bm) (hQ:XQ K C) (hE:XD K C) (hD:XD K D) (hs:mroIn K C (.ref D)=some false) (hne:C≠D) (hx:s.heap.get? a=some o) (hc:o.cls=.ref C)
 (h:Q (.bool false) { s with toks:=s.toks+1 }):wpAny (model prog w) A (call (.builtin "isinstance") [.ref a,.ref D]) Q E s:=
 call_isinstance (S:=λ_ R s=>(K.In s.heap/\s.heap.get? a=some o)/\R (.ok (.ret (.bool false))) { s with toks:=s.toks+1 })
  (λ_ _ _ _ _ hs1=>isinstance_outer (jB hs1.1.1 hC hQ hE hD hs hne hs1.1.2 hc hs1.2) (λz=>nomatch z)) ⟨⟨X,hx⟩,h⟩
end
theorem jR {K:PySem.W.Frag} {C D:Addr} {bm:List Value} (hC:XC K C bm) (hs:mroIn K C (.ref D)=some false):C≠D:=λz=>by
 subst z;rw [hC.self] at hs;cases hs
section
variable {X:Cx} {a:Addr} {oe:Obj} {C D:Addr} {bm:List Value}
end
theorem sB.calm {P:Program} {w:World} {K:PySem.W.Frag} {mg:Str->Option Value} {base:Heap} {k:Nat} {f:Addr} {fd:FuncData} {ps:List Str} {sp sp':bZ} (F:sB P w K mg base k f fd ps sp) (h:∀ws G q e,sp' ws G q e->sp ws G q λ_ _=>False):cB P w K mg base k f fd ps sp':=by
 refine ⟨λvs H Q E ⟨ws,G,q,e,r,g,z,hQ,_⟩=>F.len vs H Q (λ_ _ _=>False) ⟨ws,G,q,λ_ _=>False,r,g,h _ _ _ _ z,hQ,λ_ _ _ _ _ _ z=>z.elim⟩,λA outer s H args us vs Q E hr he hb hv z9=>?_⟩;obtain ⟨ws,G,q,e,r,g,z,hQ,_⟩:=z9;refine codeAny_mono (F.run A outer s H args us vs Q (λ_ _ _=>False) hr he hb hv ⟨ws,G,q,λ_ _=>False,r,g,h _ _ _ _ z,hQ,λ_ _ _ _ _ _ z=>z.elim⟩) λr s' hq=>?_;cases r with
 | ok fl=>
   cases fl with
   | ret u=>exact hq
   | next=>exact hq
   | brk=>exact hq
   | cont=>exact hq
 | error e=>
   obtain ⟨a,T,C,H',_,_,_,_,z⟩:=hq;exact z.elim
end L2
set_option maxRecDepth 100000
namespace L2
open PySem PySem.Spec PyProof.Rows
section
variable {prog:Program} {w:World} {A:Around} {E:Value->Shared->Prop} {s:Shared} {I l:Addr} {items:Array Value}
end
section
variable {X:Cx}
end
section
variable {X:Cx}
end
end L2
set_option maxRecDepth 100000
namespace L2
open PySem PySem.Spec PyProof.Rows
noncomputable abbrev Cx.xmq (X:Cx) (a:Addr):Cx:={ X with A:=X.A.mark (some (.ref a)),calm:=false,xe:=λ_ _=>False }
noncomputable abbrev vv (a C:Addr):HO:= .ext λh=>∃o,h.get? a=some o/\o.cls=.ref C
section
variable {X:Cx} {pins:List (Addr×Obj)} {σ:St} {H0 H:Hp} {s0 s:Shared} {a T C D:Addr}
theorem aA.takeX (I0:aA X pins σ H0 s0) (F:Fl X.prog X.w (ez X.stack) H0 H s0.heap s.heap a T (.ref C) .none) (os:s.os=s0.os) (bare:AllBare s.gens):
 aA (X.xmq a) pins σ (upd H a (vv a C)) s:=by
 have I:=F.inv I0 os bare;obtain ⟨oe,e1,e2,e3,e4,e5,e6⟩:=F.there I0;have ne:∀b o,X.s₀.heap.get? b=some o->b∉X.ex->b≠a:=λb o q hx z=>by
  obtain ⟨o',e'⟩:=I0.base.there b o q hx;rw [z,F.na] at e';cases e'
 have nh:∀b u,H b=some u->b≠a:=λb u q z=>by rw [z,e3] at q;cases q
 refine ⟨⟨I.ok.mod,I.ok.kind,I.ok.glob,I.ok.blt,I.ok.above,I.ok.inj,I.ok.has,I.ok.cab,λz=>(Bool.false_ne_true z).elim,I.ok.frames,I.ok.stk,I.ok.exf,I.ok.bs,I.ok.bsz,I.ok.noex,I.ok.exfs,I.ok.funs,I.ok.frf⟩,I.os,I.bare,
  ⟨I.base.keep,I.base.slot,λb o q n hx=>?_,I.base.there,λb xs q=>?_,λb o u q=>?_,λb ps q=>?_⟩,I.loc,I.cell,?_,λx c q=>?_,λp hp=>?_,λb u q=>?_,I.len⟩
 ·rw [ax (ne b o q hx)];exact I.base.free b o q n hx
 ·have:=I.base.tups b xs q;rw [ax (nh b _ this)];exact this
 ·have:=I.base.frzs b o u q;rw [ax (nh b _ this)];exact this
 ·obtain ⟨m,this⟩:=I.base.tbls b ps q;exact ⟨m,by rw [ax (nh b _ this)];exact this⟩
 ·rw [ax (Ne.symm e4)];exact I.free
 ·have hc:c≠a:=λz=>by
   obtain ⟨v,o,h1,h2⟩:=I.cell x c q;rw [z,e1] at h1;cases h1;exact e6 _ h2
  rw [ax hc];exact I.freeC x c q
 ·obtain ⟨p1,p2,p3,p4,p5⟩:=I.pin p hp;have hp0:=(I0.pin p hp).1;have hne:p.1≠a:=λz=>by rw [z,F.na] at hp0;cases hp0
  exact ⟨p1,by rw [ax hne];exact p2,p3,p4,p5⟩
 ·by_cases hb:b=a
  ·subst hb;rw [aP] at q;cases q;exact ⟨⟨oe,e1,e2⟩,⟨oe,e1⟩,λh1 h2 ⟨o,z1,z2⟩ k=>⟨o,k o z1,z2⟩⟩
  ·rw [ax hb] at q;exact (I.hok b u q).stay (λ_ _ _ z=>z) (λx z=>by rw [ax (nh x _ z)];exact z) λx xs z=>by rw [ax (nh x _ z)];exact z
theorem aA.unq (I:aA (X.xmq a) pins σ H s) (hh:X.calm=true->X.A.handled=none):aA X pins σ H s:=
 ⟨⟨I.ok.mod,I.ok.kind,I.ok.glob,I.ok.blt,I.ok.above,I.ok.inj,I.ok.has,I.ok.cab,hh,I.ok.frames,I.ok.stk,I.ok.exf,I.ok.bs,I.ok.bsz,I.ok.noex,I.ok.exfs,I.ok.funs,I.ok.frf⟩,I.os,I.bare,I.base,I.loc,I.cell,I.free,I.freeC,I.pin,I.hok,I.len⟩
theorem SP.unq {D:ft} {f:Flow} {s':Shared} (h:SP (X.xmq a) pins D f s') (hh:X.calm=true->X.A.handled=none):SP X pins D f s':=by
 cases f with
 | next=>obtain ⟨σ',H',I,q⟩:=h;exact ⟨σ',H',I.unq hh,q⟩
 | brk=>obtain ⟨σ',H',I,q⟩:=h;exact ⟨σ',H',I.unq hh,q⟩
 | cont=>obtain ⟨σ',H',I,q⟩:=h;exact ⟨σ',H',I.unq hh,q⟩
 | ret u=>obtain ⟨v,σ',H',I,r,q⟩:=h;exact ⟨v,σ',H',I.unq hh,r,q⟩
noncomputable def AU (i:Nat) (C:Addr) (ts:WS):WS:=λd τ G=>∀a,G a=none->ts { nx:=λτ1 G1=>d.nx (τ1.set i none) G1,rt:=d.rt,bk:=λτ1 G1=>d.bk (τ1.set i none) G1,ct:=λτ1 G1=>d.ct (τ1.set i none) G1 } (τ.set i (some (.ref a))) (aG G a (.exc C))
variable {bm bmD:List Value} {x:Str} {p pos:Pos} {name:Option Str} {body:List Stmt} {bK:List ExceptHandler} {b0:Stmt} {th:WS}
theorem sI (i:Nat) {n:Str} {ts:WS} (hm:X.mg x=some (.ref D)) (hg:Gl X x) (hO:XO X.K C) (hD:XC X.K D bmD) (hs:mroIn X.K C (.ref D)=some true) (hN:X.N.Nodup) (hi:X.N[i]?=some n) (hl:X.env.scope.names.lookup n=some .local)
 (hb:∀a,mX (X.xmq a) (b0::body) ts) (hd:(x==("__debug__":Str))=false:=by decide):
 QH X C (.ExceptHandler (some (.Name x p)) (some n) (b0::body) pos::bK) (AU i C ts):=by
 rintro pins s0 σ H0 s H a T D' I0 F os bare ⟨τ,G,d,rs,rg,ht,l⟩;have I:=F.inv I0 os bare;obtain ⟨bm,hC⟩:=hO.c;obtain ⟨oe,e1,e2,e3,e4,e5,e6⟩:=F.there I0;refine wpAny_handleBy_cons (codeAny_handlers_test (eA (X:=X.xmk a oe) (I.xmk e1 e3 e4 e5 e6) hg hm ?_ hd)) (by intro q;cases q);refine qH I.kIn hC hD e1 e2 hs ?_;refine codeAny_handlers_suite_as (F.lands I0 os bare λh' T' F'=>?_);obtain ⟨oe',q1,q2,q3,q4,q5,q6⟩:=Fl.there (s:={ s with heap:=h' }) F' I0;have J:=aA.takeX (s:={ s with heap:=h' }) I0 F' os bare;have tl:aI H (upd H a (vv a C)):=aI.new q3 _;refine iI (X:=X.xmq a) (v:= .ref a) J hN hi (.inl hl) rfl (λs3 I3=>?_) (.inr hl);have rs':bg X.K (upd H a (vv a C)) (τ.set i (some (.ref a))) (σ.set i (some (.ref a))):=(rs.mono tl).set (.ref a) i;have rg':aH X.K (upd H a (vv a C)) (aG G a (.exc C)):=rg.lay tl ⟨hO,aP⟩;refine wpAny_mono (hb a pins s3 _ _ { nx:=λσ1 H1=>D'.nx (σ1.set i none) H1,rt:=D'.rt,bk:=λσ1 H1=>D'.bk (σ1.set i none) H1,ct:=λσ1 H1=>D'.ct (σ1.set i none) H1 } I3
  ⟨_,_,_,rs',rg',ht a (rg.fresh q3),⟨λσ1 H1 τ1 G1 t1 r1 g1 z=>l.nx _ H1 _ G1 (tl.trans t1) (r1.drop i) g1 z,λv H1 w G1 t1=>l.rt v H1 w G1 (tl.trans t1),λσ1 H1 τ1 G1 t1 r1 g1 z=>l.bk _ H1 _ G1 (tl.trans t1) (r1.drop i) g1 z,λσ1 H1 τ1 G1 t1 r1 g1 z=>l.ct _ H1 _ G1 (tl.trans t1) (r1.drop i) g1 z⟩⟩) (λf s2 z=>?_) λ_ _ z=>z.elim
 have z2:=z.unq I0.ok.hd;cases f with
 | next=>obtain ⟨σ',H',I2,q⟩:=z2;exact fm I2 hN hi hl λs' I4=>⟨_,H',I4,q⟩
 | brk=>obtain ⟨σ',H',I2,q⟩:=z2;exact fm I2 hN hi hl λs' I4=>⟨_,H',I4,q⟩
 | cont=>obtain ⟨σ',H',I2,q⟩:=z2;exact fm I2 hN hi hl λs' I4=>⟨_,H',I4,q⟩
 | ret u=>obtain ⟨v,σ',H',I2,r,q⟩:=z2;exact fm I2 hN hi hl λs' I4=>⟨v,_,H',I4,r,q⟩
theorem aA.excAt (I:aA X pins σ H s) (e:H a=some (vv a C)):∃o,s.heap.get? a=some o/\o.cls=.ref C:=(I.hok a _ e).1
theorem aA.excTyG (I:aA X pins σ H s) (e:H a=some (vv a C)) (M:Model):PySem.W.Looks M s.heap (typeOf (.ref a)) (.ref C):=by
 obtain ⟨o,e,hc⟩:=I.excAt e;exact hc▸(PySem.W.Looks.ld e).andThen .now
noncomputable def vw (K:PySem.W.Frag) (i:Nat) (D:Addr):WE:=λτ G q=>∃a C b,τ[i]?=some (some (.ref a))/\G a=some (.exc C)/\mroIn K C (.ref D)=some b/\q (.bl b) G
theorem vx {K:PySem.W.Frag} {C D:Addr} (hD:XD K D) (h:mroIn K C (.ref D)=some true):PySem.W.isIn K (.ref C) D=true:=by
 unfold PySem.W.isIn;obtain ⟨cd,e⟩:=hD.cls;have hs:PySem.W.subIn K (.ref C) (.ref D)=some true:=h;rw [e,hD.ty,hD.ins,hs];simp
theorem sJ {i:Nat} {n y:Str} {p p1 p2 pos:Pos} (hi:X.N[i]?=some n) (hv:wL X.env.scope n) (hym:X.mg y=some (.ref D)) (hD:XD X.K D) (hgy:Gl X y)
 (hm1:X.mg "isinstance"=none) (hg1:Gl X "isinstance") (hdy:(y==("__debug__":Str))=false:=by decide) (hd:(n==("__debug__":Str))=false:=by decide) (hcd:(n==("__classdict__":Str))=false:=by decide)
 (hs1:starEach [.Name n p1,.Name y p2] X.env=(false,eval (.Name n p1) X.env)::starEach [.Name y p2] X.env:=by rfl) (hs2:starEach [.Name y p2] X.env=(false,eval (.Name y p2) X.env)::starEach [] X.env:=by rfl)
 (hpl:(backTo pos (starEach [.Name y p2] X.env)).any (·.1)=false:=by rfl):QE X (.Call (.Name "isinstance" p) [.Name n p1,.Name y p2] [] pos) (vw X.K i D):=by
 have hv1:PE X (.Name n p1) (qj i):=iJ hi hv hd hcd;have ha:PA X [.Name n p1,.Name y p2] (iO (qj i) (iO (tC (.ref D)) qt)):=bL hv1 (bL (oI hgy hym rfl hdy) pa_nil hs2) hs1;have hCR:eP X (.builtin "isinstance") (λvs H Q=>∃a C b,vs=[.ref a,.ref D]/\XO X.K C/\H a=some (vv a C)/\mroIn X.K C (.ref D)=some b/\Q (.bl b) H):=by
  rintro pins s σ H xs us Q I r ⟨a,C,b,e1,hO,hH,hb,q⟩;subst e1;obtain ⟨u,u2,rfl,ru,ru2⟩:=gJ r;cases (show u=Value.ref a from ru);cases (show u2=Value.ref D from ru2);obtain ⟨bm,hC⟩:=hO.c;cases b with
  | true=>exact PySem.W.isi_call I.kIn (I.excTyG hH) (vx hD hb) (λz=>nomatch z) ⟨.bl true,H,I,rfl,q⟩
  | false=>
    obtain ⟨o,e,hc⟩:=I.excAt hH;exact lQ I.kIn hC hO.q hO.d hD hb (jR hC hb) e hc ⟨.bl false,H,I.tok _,rfl,q⟩
 exact (eU hCR hg1 hm1 fU ha (by decide) (by decide) hs1 hpl).imp λσ H Q ⟨τ,G,q,hs,hg,⟨a,C,b,ht,hG,hb,hq⟩,hQ⟩=>by
  obtain ⟨v,e1,r⟩:=hs.2 i _ ht;cases r;obtain ⟨hO,hH⟩:=hg a _ hG;exact ⟨_,e1,a,C,b,rfl,hO,hH,hb,hQ _ H _ G (aI.refl H) (.bl b) hg hq⟩
noncomputable def AV (i:Nat):WE:=λτ G q=>∃a C,τ[i]?=some (some (.ref a))/\G a=some (.exc C)/\q (.bl true) G
theorem yQ {T:String} {i:Nat} {n y:Str} {p p1 p2 pos:Pos} (hi:X.N[i]?=some n) (hv:wL X.env.scope n) (hT:bmV.contains (.type T)=true) (hkm:PySem.W.kitMeta T=true) (hyb:bootBuiltins y=some (.type T)) (hym:X.mg y=none) (hgy:Gl X y)
 (hm1:X.mg "isinstance"=none) (hg1:Gl X "isinstance") (hn:y≠"__name__":=by decide) (hdy:(y==("__debug__":Str))=false:=by decide) (hd:(n==("__debug__":Str))=false:=by decide) (hcd:(n==("__classdict__":Str))=false:=by decide)
 (hs1:starEach [.Name n p1,.Name y p2] X.env=(false,eval (.Name n p1) X.env)::starEach [.Name y p2] X.env:=by rfl) (hs2:starEach [.Name y p2] X.env=(false,eval (.Name y p2) X.env)::starEach [] X.env:=by rfl)
 (hpl:(backTo pos (starEach [.Name y p2] X.env)).any (·.1)=false:=by rfl):QE X (.Call (.Name "isinstance" p) [.Name n p1,.Name y p2] [] pos) (AV i):=by
 have hv1:PE X (.Name n p1) (qj i):=iJ hi hv hd hcd;have ha:PA X [.Name n p1,.Name y p2] (iO (qj i) (iO (tC (.ty T)) qt)):=bL hv1 (bL (oJ hgy hym hyb rfl hn hdy) pa_nil hs2) hs1;have hCR:eP X (.builtin "isinstance") (λvs H Q=>∃a C,vs=[.ref a,.ty T]/\XO X.K C/\H a=some (vv a C)/\Q (.bl true) H):=by
  rintro pins s σ H xs us Q I r ⟨a,C,e1,hO,hH,q⟩;subst e1;obtain ⟨u,u2,rfl,ru,ru2⟩:=gJ r;cases (show u=Value.ref a from ru);cases (show u2=Value.type T from ru2);obtain ⟨bm,hC⟩:=hO.c;exact sA I.kIn (I.excTyG hH) hkm rfl (by show mroIn X.K C _=_;rw [hC.mro,hC.has I.kIn hT]) (λz=>nomatch z) ⟨.bl true,H,I,rfl,q⟩
 exact (eU hCR hg1 hm1 fU ha (by decide) (by decide) hs1 hpl).imp λσ H Q ⟨τ,G,q,hs,hg,⟨a,C,ht,hG,hq⟩,hQ⟩=>by
  obtain ⟨v,e1,r⟩:=hs.2 i _ ht;cases r;obtain ⟨hO,hH⟩:=hg a _ hG;exact ⟨_,e1,a,C,rfl,hO,hH,hQ _ H _ G (aI.refl H) (.bl true) hg hq⟩
end
end L2
set_option maxRecDepth 100000
namespace L2
open PySem PySem.Spec PyProof.Rows
structure AW (k:Nat) (A:Around):Prop where
 dp:A.depth+3*k+5<recursionLimit
 un:A.units+16*k+200<cLine
structure El (P:Program) (w:World) (K:PySem.W.Frag) (mg:Str->Option Value) (base:Heap) (CX:nq) (k:Nat) (f:Addr) (fd:FuncData) (ps:List Str) (sp:Sp):Prop where
 len:∀vs H Q E,sp vs H Q E->vs.length=ps.length
 run:∀(A:Around) (outer:List Env) (s:Shared) (H:Hp) (args:Args) (us:List Value) (vs:List V) (Q:VK) (E:XK),AW k A->lA P w K mg base A outer s H->BindsTo s fd args (ps.zip us)->aM vs us->sp vs H Q E->
  codeAny (model P w) A (.call (.ref f) args) (CR CX outer P w H s Q E) s
section
variable {X:Cx}
end
section
variable {P:Program} {w:World} {K:PySem.W.Frag} {mg:Str->Option Value} {base:Heap} {k:Nat} {f:Addr} {fd:FuncData} {ps:List Str} {sp sp':bZ}
theorem cB.toR (F:cB P w K mg base k f fd ps sp):sB P w K mg base k f fd ps sp:=by
 refine ⟨F.len,λA outer s H args us vs Q E hr he hb hv hs=>?_⟩;refine codeAny_mono (F.run A outer s H args us vs Q E hr he hb hv hs) λr s' hq=>?_;cases r with
 | ok fl=>
   cases fl with
   | ret u=>exact hq
   | next=>exact hq
   | brk=>exact hq
   | cont=>exact hq
 | error e=>exact False.elim hq
end
end L2
set_option maxRecDepth 100000
namespace L2
open PySem PySem.Spec PyProof.Rows
theorem aI.ins {H:Hp} {p C dx:Addr} {fs:List (Str×V)} (hp:H p=some (.ins C dx fs)) (o:HO):aI H (upd H p o):=
 ⟨λ_ _ h=>by rw [ax (fw h hp (by intro z;cases z))];exact h,λ_ _ _ h=>by rw [ax (fw h hp (by intro z;cases z))];exact h⟩
noncomputable def lR (f:Str) (v:W):List (Str×W)->List (Str×W)
 | []=>[(f,v)]
 | (g,x)::r=>if g=f then (g,v)::r else (g,x)::lR f v r
section
variable {K:PySem.W.Frag} {H:Hp}
theorem ii {f:Str} {w:W}:∀{fs:List (Str×W)} {fs':List (Str×V)},fs'.map (·.1)=fs.map (·.1)->aJ K H (fs.map (·.2)) (fs'.map (·.2))->fs.lookup f=some w->∃v,fs'.lookup f=some v/\bI K H w v
 | [],_,_,_,e=>by cases e
 | (g,x)::r,[],n,_,_=>by cases n
 | (g,x)::r,(g',x')::r',n,rs,e=>by
   rw [List.map_cons,List.map_cons,List.cons.injEq] at n;obtain ⟨n1,n2⟩:=n;have n1:g'=g:=n1;subst n1;cases rs with
   | cons r1 r2=>
     rw [List.lookup_cons] at e ⊢;cases h:f==g' with
     | true=>rw [h] at e;cases e;exact ⟨x',rfl,r1⟩
     | false=>rw [h] at e;exact ii n2 r2 e
theorem fo {f:Str}:∀{fs:List (Str×W)} {fs':List (Str×V)},fs'.map (·.1)=fs.map (·.1)->fs.lookup f=none->fs'.lookup f=none
 | [],[],_,_=>rfl
 | [],_::_,n,_=>by cases n
 | _::_,[],n,_=>by cases n
 | (g,x)::r,(g',x')::r',n,e=>by
   rw [List.map_cons,List.map_cons,List.cons.injEq] at n;obtain ⟨n1,n2⟩:=n;have n1:g'=g:=n1;subst n1;rw [List.lookup_cons] at e ⊢;cases h:f==g' with
   | true=>rw [h] at e;cases e
   | false=>rw [h] at e;exact fo n2 e
theorem lS {f:Str} {w:W} {v:V} (rv:bI K H w v):∀{fs:List (Str×W)} {fs':List (Str×V)},fs'.map (·.1)=fs.map (·.1)->aJ K H (fs.map (·.2)) (fs'.map (·.2))->(dW f v fs').map (·.1)=(lR f w fs).map (·.1)/\aJ K H ((lR f w fs).map (·.2)) ((dW f v fs').map (·.2))/\(lR f w fs).length<=fs.length+1
 | [],[],_,_=>⟨rfl,.cons rv .nil,Nat.le_refl _⟩
 | [],_::_,n,_=>by cases n
 | _::_,[],n,_=>by cases n
 | (g,x)::r,(g',x')::r',n,rs=>by
   rw [List.map_cons,List.map_cons,List.cons.injEq] at n;obtain ⟨n1,n2⟩:=n;have n1:g'=g:=n1;subst n1;cases rs with
   | cons r1 r2=>
     obtain ⟨a1,a2,a3⟩:=lS (f:=f) rv n2 r2;unfold dW lR
     by_cases h:g'=f
     ·rw [if_pos h,if_pos h];refine ⟨?_,.cons rv r2,by simp⟩;rw [List.map_cons,List.map_cons,n2]
     ·rw [if_neg h,if_neg h];refine ⟨?_,.cons r1 a2,by simp;assumption⟩;rw [List.map_cons,List.map_cons,a1]
end
section
variable {X:Cx}
noncomputable def AX (K:PySem.W.Frag) (to:WE) (f:Str):WE:=λτ G q=>to τ G λx G1=>∃a C fs v,x=.ref a/\G1 a=some (.ins C fs)/\(dr K C/\aC K C f)/\fs.lookup f=some v/\q v G1
theorem bp {o:Expr} {to:WE} {f:Str} {pos:Pos} (ho:QE X o to) (hb:attributeBase o f X.env (eval o X.env)=eval o X.env:=by rfl):QE X (.Attribute o f pos) (AX X.K to f):=
 (yh ho hb).imp λσ H Q z0=>z0.el λτ G q hs hg ht hQ=>⟨τ,G,_,hs,hg,ht,λv H1 w G1 t1 r1 g1 q1=>by
   obtain ⟨a,C,fs,v',rfl,hG,hc,hl,q1⟩:=q1;cases r1;obtain ⟨_,dx,fs',hH,hn,hr⟩:=g1 a _ hG;obtain ⟨v2,hv2,rv2⟩:=ii hn hr hl;exact ⟨a,C,dx,fs',v2,rfl,hH,hc.1,hc.2,hv2,hQ v2 H1 v' G1 t1 rv2 g1 q1⟩⟩
noncomputable def xo (K:PySem.W.Frag) (to te:WE) (f:Str):WS:=λd τ G=>te τ G λy G1=>to τ G1 λx G2=>∃a C fs,x=.ref a/\G2 a=some (.ins C fs)/\(dr K C/\aC K C f)/\fs.length<100/\d.nx τ (aG G2 a (.ins C (lR f y fs)))
theorem cq {o e:Expr} {to te:WE} {f:Str} {pos pos':Pos} (ho:QE X o to) (he:QE X e te) (hs:swapsWith e (some (.Attribute o f pos')) pos.line X.env=pure false:=by rfl):QS X (.Assign [.Attribute o f pos'] e pos) (xo X.K to te f):=
 (yi ho he hs).imp λD σ H z0=>z0.el λτ G d rs rg ht l=>⟨τ,G,_,rs,rg,ht,λy H1 w G1 t1 r1 g1 q1=>⟨τ,G1,_,rs.mono t1,g1,q1,λv H2 w2 G2 t2 r2 g2 q2=>by
   obtain ⟨a,C,fs,rfl,hG,hc,hlen,q2⟩:=q2;cases r2;obtain ⟨_,dx,fs',hH,hn,hr⟩:=g2 a _ hG;obtain ⟨a1,a2,a3⟩:=lS (f:=f) (r1.mono t2) hn hr;have tl:=aI.ins hH (.ins C dx (dW f y fs'));have hlen':fs'.length=fs.length:=by simpa using congrArg List.length hn
   refine ⟨a,C,dx,fs',rfl,hH,hc.1,hc.2,by omega,l.nx σ _ τ _ ((t1.trans t2).trans tl) (((rs.mono t1).mono t2).mono tl) (g2.lay (g:= .ins C (lR f w fs)) tl ⟨by omega,dx,_,aP,a1,a2.mono tl⟩) q2⟩⟩⟩
noncomputable def lT (C:Addr) (sp:bZ) (dws:List W) (t:WA):WE:=λτ G q=>t τ G λws G1=>∀p,G1 p=none->sp (.ref p::(ws++dws)) (aG G1 p (.ins C [])) (λv G2=>v=.non/\q (.ref p) G2) λ_ _=>False
theorem jw.make {K:PySem.W.Frag} {C:Addr} {sp:bZ} {dws:List W} {dvs:List V} {t:WA} {σ:St} {H:Hp} {Q:VK} {E:XK} (hd:∀H,aJ K H dws dvs) (h:jw K (lT C sp dws t) σ H Q):wQ C (uF K sp) dvs E (LA K t) σ H Q:=by
 obtain ⟨τ,G,q,hs,hg,ht,hQ⟩:=h;refine ⟨τ,G,_,hs,hg,ht,λvs H1 ws G1 t1 r1 g1 q1 x dx hx hdx hne=>?_⟩;have hdx':upd H1 dx (.own x) x=none:=by rw [ax (Ne.symm hne)];exact hx
 have tl:=(aI.new hdx (.own x)).trans (aI.new hdx' (.ins C dx []));have g2:aH K (upd (upd H1 dx (.own x)) x (.ins C dx [])) (aG G1 x (.ins C [])):=(g1.keep hdx (.own x)).lay (aI.new hdx' _) ⟨by simp,dx,[],aP,rfl,.nil⟩;exact ⟨.ref x::(ws++dws),_,_,_,.cons (.ref x) ((r1.mono tl).append (hd _)),g2,q1 x (g1.fresh hx),λv H2 w G2 t2 r2 g2 q2=>by
  obtain ⟨e,q2⟩:=q2;subst e;cases r2;exact ⟨rfl,hQ _ H2 _ G2 ((t1.trans tl).trans t2) (.ref x) g2 q2⟩,λ_ _ _ _ _ _ z=>z.elim⟩
theorem vy {C f:Addr} {fd:FuncData} {k:Nat} {x:Str} {ps:List Str} {sp:bZ} {p pos:Pos} {e:Expr} {es:List Expr} {t:WA} (M:Mk X.K C f) (F:cB X.prog X.w X.K X.mg X.base k f fd ps sp) (hr:ay (k+1) X.A) (hg:Gl X x) (hm:X.mg x=some (.ref C)) (hb:bG X.K fd ps [])
 (ha:QA X (e::es) t) (hdb:(x==("__debug__":Str))=false:=by decide) (he:starEach (e::es) X.env=(false,eval e X.env)::starEach es X.env:=by rfl) (hpl:(backTo pos (starEach es X.env)).any (·.1)=false:=by rfl):
 QE X (.Call (.Name x p) (e::es) [] pos) (lT C sp [] t):=
 (uX (dvs:=[]) M F hr hg hm hb .nil (jM (X:=X)) ha hdb he hpl).imp λ_ _ _ h=>jw.make (λ_=> .nil) h
noncomputable def jS (C:Addr) (m:Str) (sp:bZ) (dws:List W) (to:WE) (t:WA):WE:=λτ G q=>to τ G λx G1=>∃a fs,x=.ref a/\G1 a=some (.ins C fs)/\fs.lookup m=none/\t τ G1 λws G2=>sp (x::(ws++dws)) G2 q λ_ _=>False
theorem jw.meth {K:PySem.W.Frag} {C:Addr} {m:Str} {sp:bZ} {dws:List W} {dvs:List V} {to:WE} {t:WA} {σ:St} {H:Hp} {Q:VK} {E:XK} (hd:∀H,aJ K H dws dvs) (h:jw K (jS C m sp dws to t) σ H Q):rF C m (uF K sp) dvs E (jw K to) (LA K t) σ H Q:=by
 obtain ⟨τ,G,q,hs,hg,ht,hQ⟩:=h;refine ⟨τ,G,_,hs,hg,ht,λx H1 w G1 t1 r1 g1 q1=>?_⟩;obtain ⟨a,fs,rfl,hG,hl,q1⟩:=q1;cases r1;obtain ⟨_,dx,fs',hH,hn,_⟩:=g1 a _ hG;refine ⟨a,dx,fs',rfl,hH,fo hn hl,τ,G1,_,hs.mono t1,g1,q1,λvs H2 ws G2 t2 r2 g2 q2=>?_⟩;exact ⟨.ref a::(ws++dws),G2,q,_,.cons (.ref a) (r2.append (hd _)),g2,q2,λv H3 w3 G3 t3=>hQ v H3 w3 G3 ((t1.trans t2).trans t3),λ_ _ _ _ _ _ z=>z.elim⟩
structure Mt (P:Program) (w:World) (K:PySem.W.Frag) (mg:Str->Option Value) (base:Heap) (C:Addr) (m:Str) (ps:List Str) (k:Nat) (sp:bZ) (dws:List W):Prop where
 ex:∃(f:Addr) (fd:FuncData) (ds:List Value) (dvs:List V),qq K C m f/\cB P w K mg base k f fd ps sp/\bG K fd ps ds/\aM dvs ds/\∀H,aJ K H dws dvs
 cl:dr K C
theorem kP {C:Addr} {m:Str} {k:Nat} {ps:List Str} {sp:bZ} {dws:List W} {o e:Expr} {es:List Expr} {to:WE} {t:WA} {apos pos:Pos} {pl:Sem Bool} (ho:QE X o to) (M:Mt X.prog X.w X.K X.mg X.base C m ps k sp dws) (hr:ay k X.A) (ha:QA X (e::es) t)
 (hst:starEach (e::es) X.env=(false,eval e X.env)::starEach es X.env:=by rfl) (hpl:(backTo pos (starEach es X.env)).any (·.1)=false:=by rfl)
 (ht:eval (.Call (.Attribute o m apos) (e::es) [] pos) X.env=(do
   let ov ←eval o X.env
   standAt apos.atName
   let (f,first) ←holding [ov] (getMethod ov m pl)
   callWith pos f first (backTo pos (starEach (e::es) X.env)) (backToKw pos (keywordEach [] X.env))):=by rfl):QE X (.Call (.Attribute o m apos) (e::es) [] pos) (jS C m sp dws to t):=by
 obtain ⟨⟨f,fd,ds,dvs,hm,F,hb,hd,hrep⟩,c⟩:=M;exact (oN (pl:=pl) ho c hm F hr hb hd (jM (X:=X)) ha hst hpl ht).imp λ_ _ _ h=>jw.meth hrep h
theorem lU {C:Addr} {m:Str} {k:Nat} {ps:List Str} {sp:bZ} {dws:List W} {o:Expr} {to:WE} {apos pos:Pos} {pl:Sem Bool} (ho:QE X o to) (M:Mt X.prog X.w X.K X.mg X.base C m ps k sp dws) (hr:ay k X.A)
 (ht:eval (.Call (.Attribute o m apos) [] [] pos) X.env=(do
   let ov ←eval o X.env
   standAt apos.atName
   let (f,first) ←holding [ov] (getMethod ov m pl)
   callWith pos f first (backTo pos (starEach [] X.env)) (backToKw pos (keywordEach [] X.env))):=by rfl):QE X (.Call (.Attribute o m apos) [] [] pos) (jS C m sp dws to iS):=by
 obtain ⟨⟨f,fd,ds,dvs,hm,F,hb,hd,hrep⟩,c⟩:=M;refine (rH (pl:=pl) ho c hm F hr hb hd (jM (X:=X)) ht).imp λσ H Q z0=>z0.el λτ G q hs hg ht hQ=>?_;refine ⟨τ,G,_,hs,hg,ht,λx H1 w G1 t1 r1 g1 q1=>?_⟩;obtain ⟨a,fs,rfl,hG,hl,q1⟩:=q1;cases r1;obtain ⟨_,dx,fs',hH,hn,_⟩:=g1 a _ hG;exact ⟨a,dx,fs',rfl,hH,fo hn hl,.ref a::([]++dws),G1,q,_,.cons (.ref a) (hrep _),g1,q1,λv H3 w3 G3 t3=>hQ v H3 w3 G3 (t1.trans t3),λ_ _ _ _ _ _ z=>z.elim⟩
noncomputable def yR (to:WE):WE:=λτ G q=>to τ G λx G1=>match x with
 | .ref a=>∃ys y,G1 a=some (.lst (ys++[y]))/\q y (aG G1 a (.lst ys))
 | _=>False
theorem aJ.snoc {K:PySem.W.Frag} {H:Hp}:∀{ys:List W} {y:W} {xs:List V},aJ K H (ys++[y]) xs->∃v,xs[xs.length-1]?=some v/\bI K H y v/\aJ K H ys xs.dropLast
 | [],y,xs,r=>by
   obtain ⟨v,rfl,rv⟩:=r.one;exact ⟨v,rfl,rv,.nil⟩
 | w::ys,y,_,.cons (v:=v) (vs:=vs) r rs=>by
   obtain ⟨u,h1,h2,h3⟩:=aJ.snoc rs;have hl:=rs.length;cases vs with
   | nil=>simp at hl
   | cons v2 vs2=>
     refine ⟨u,?_,h2,?_⟩
     ·simpa using h1
     ·rw [List.dropLast_cons₂];exact .cons r h3
theorem yS {o:Expr} {to:WE} {apos cpos:Pos} (ho:QE X o to)
 (hbase:attributeBase o "pop" X.env (eval o X.env)=eval o X.env:=by rfl) (hline:(apos.endLine==cpos.line)=true:=by rfl):QE X (.Call (.Attribute o "pop" apos) [] [] cpos) (yR to):=
 (yq PySem.F.plainAttrs_list PySem.F.slot_list_pop PySem.F.type_list_pop yr ho hbase hline).imp λσ H Q z0=>z0.el λτ G q hs hg ht hQ=>
   ⟨τ,G,_,hs,hg,ht,λv H1 w G1 t1 r1 g1 q1=>by
     split at q1
     ·rename_i a;cases r1;obtain ⟨ys,y,e1,q1⟩:=q1;obtain ⟨hl,xs',h1,rr⟩:=g1 a _ e1;obtain ⟨u,hu,ru,rd⟩:=rr.snoc;refine ⟨.inl ⟨rfl,xs',cW.of h1⟩,a,xs',u,rfl,rfl,h1,hu,?_⟩;have tl:=aI.lst h1 (.lst xs'.dropLast);exact hQ _ _ _ _ (t1.trans tl) (ru.mono tl) (g1.put tl rd (by simp at hl;omega)) q1
     ·exact q1.elim⟩
noncomputable def CA:Stmt->List Stmt
 | .ClassDef _ _ _ b _ _ _ _ _ _ _=>b
 | _=>[]
noncomputable def Md (K:PySem.W.Frag) (C:Addr) (m qual:Str) (st:Stmt) (ps:List Str):Prop:=∃(f:Addr) (fd:FuncData),qq K C m f/\cM K m qual st f fd/\bG K fd ps []
noncomputable def vz (K:PySem.W.Frag) (C:Addr) (qual:Str) (st:Stmt) (ps:List Str):Prop:=∃(f:Addr) (fd:FuncData),Mk K C f/\cM K "__init__" qual st f fd/\bG K fd ps []
section
variable {P:Program} {w:World} {K:PySem.W.Frag} {mg:Str->Option Value} {base:Heap} {C:Addr} {m qual:Str} {st:Stmt} {ps:List Str} {k:Nat} {sp:bZ} {dws:List W}
theorem Md.mt (D:Md K C m qual st ps) (c:dr K C) (h:∀(f:Addr) (fd:FuncData),cM K m qual st f fd->cB P w K mg base k f fd ps sp):Mt P w K mg base C m ps k sp []:=by
 obtain ⟨f,fd,hm,F,b⟩:=D;exact ⟨⟨f,fd,[],[],hm,h f fd F,b,.nil,λ_=> .nil⟩,c⟩
noncomputable def uG (P:Program) (w:World) (K:PySem.W.Frag) (mg:Str->Option Value) (base:Heap) (x:Str) (C:Addr) (ps:List Str) (k:Nat) (sp:bZ):Prop:=∃(f:Addr) (fd:FuncData),Mk K C f/\cB P w K mg base k f fd ps sp/\mg x=some (.ref C)/\bG K fd ps []
theorem vz.new {x:Str} (D:vz K C qual st ps) (hm:mg x=some (.ref C)) (h:∀(f:Addr) (fd:FuncData),cM K "__init__" qual st f fd->cB P w K mg base k f fd ps sp):uG P w K mg base x C ps k sp:=by
 obtain ⟨f,fd,M,F,b⟩:=D;exact ⟨f,fd,M,h f fd F,hm,b⟩
end
theorem dy {C:Addr} {k:Nat} {x:Str} {ps:List Str} {sp:bZ} {p pos:Pos} {e:Expr} {es:List Expr} {t:WA} (M:uG X.prog X.w X.K X.mg X.base x C ps k sp) (hr:ay (k+1) X.A) (hg:Gl X x)
 (ha:QA X (e::es) t) (hdb:(x==("__debug__":Str))=false:=by decide) (he:starEach (e::es) X.env=(false,eval e X.env)::starEach es X.env:=by rfl) (hpl:(backTo pos (starEach es X.env)).any (·.1)=false:=by rfl):
 QE X (.Call (.Name x p) (e::es) [] pos) (lT C sp [] t):=by
 obtain ⟨f,fd,M,F,hm,b⟩:=M;exact vy M F hr hg hm b ha hdb he hpl
theorem dD {α:Type} {p:List α->Prop} (h:p []) (us:List α) (e:us.length=0):p us:=by
 rw [List.eq_nil_of_length_eq_zero e];exact h
theorem bO {α:Type} {n:Nat} {p:List α->Prop} (h:∀a,∀us:List α,us.length=n->p (a::us)) (us:List α) (e:us.length=n+1):p us:=by
 cases us with
 | nil=>exact absurd e (Nat.succ_ne_zero n).symm
 | cons a us=>exact h a us (Nat.succ.inj e)
end
end L2
set_option linter.all false
set_option maxRecDepth 100000
namespace L2
open PySem PySem.Spec PyProof.Rows
structure AY (P:Program) (w:World) (K:PySem.W.Frag) (mg:Str->Option Value) (base:Heap) (C:Addr) (m:Str) (ps:List Str) (k:Nat) (sp:bZ) (dws:List W):Prop where
 ex:∃(f:Addr) (fd:FuncData) (ds:List Value) (dvs:List V),qq K C m f/\sB P w K mg base k f fd ps sp/\bG K fd ps ds/\aM dvs ds/\∀H,aJ K H dws dvs
 cl:dr K C
section
variable {X:Cx} {x:Str} {p pos:Pos}
theorem cy {D:Addr} {y:Str} {p:Pos} (hg:Gl X y) (hm:X.mg y=some (.ref D)) (hd:(y==("__debug__":Str))=false:=by decide):QE X (.Name y p) (wC (.ref D)):=fS (v:= .ref D) (oI (v:= .ref D) hg hm rfl hd) λ_=> .ref D
theorem sK {K:PySem.W.Frag} {a C:Addr} {bm:List Value} (hC:XC K C bm) (hQ:XQ K C) (hE:XD K C):PySem.W.KitX K (.ref a) (.ref C) (λh=>∃o,h.get? a=some o/\o.cls=.ref C) where
 ty:=λM h X ⟨o,h1,h2⟩=>h2▸(PySem.W.Looks.ld h1).andThen .now
 it:=λM h X _=>by
  obtain ⟨cd,e⟩:=hE.cls;unfold clsIn at e;split at e
  ·rename_i ho;intro A' Q' E' s' k q;unfold isType loadHead;exact wpAny_bind (wpAny_loadPart (k _ _ (X _ _ ho)) (wpAny_pure q))
  ·cases e
 ne:=λh tp dd its n sl X htp=>by
  obtain ⟨cd,e⟩:=hE.cls;refine Bool.eq_false_iff.mpr λq=>?_;have e2:C=tp:=Value.ref.inj (beq_iff_eq.mp q);subst e2;unfold clsIn at e;split at e
  ·rename_i ho;have:=X _ _ ho;rw [htp] at this;cases this
  ·cases e
 ca:=λ{_ _ _ _ _ s} X ⟨o,h1,h2⟩ k=>by
  obtain ⟨h,g,d,t,os⟩:=s;exact fY X hC hQ h1 h2 k
theorem jT {K:PySem.W.Frag} {C:Addr} {bm:List Value} (hC:XC K C bm):∀{Ds:List Addr},(∀D,D∈Ds->XD K D/\mroIn K C (.ref D)=some false)->PySem.W.kitAny K (.ref C) (Ds.map Value.ref)=some false
 | [],_=>rfl
 | D::Ds,h=>by
   obtain ⟨hD,hs⟩:=h D List.mem_cons_self;have h1:kitOne K (.ref C) (.ref D)=some false:=by
    unfold kitOne;rw [if_neg (λq=>jR hC hs (Value.ref.inj (beq_iff_eq.mp q)))];unfold PySem.W.kitCls;obtain ⟨cd,e⟩:=hD.cls;have h2:((clsIn K D).isSome&&typeIn K (.ref D)==some (.type "type"))=true:=by rw [e,hD.ty];rfl
    show (if ((clsIn K D).isSome&&typeIn K (.ref D)==some (.type "type"))=true then PySem.W.subIn K (.ref C) (.ref D) else none)=some false;rw [if_pos h2];exact hs
   show (match kitOne K (.ref C) (.ref D) with | some true=>some true | some false=>PySem.W.kitAny K (.ref C) (Ds.map Value.ref) | none=>none)=some false;rw [h1];exact jT hC λD hD=>h D (List.mem_cons_of_mem _ hD)
theorem aJ.refs {K:PySem.W.Frag} {H:Hp}:∀{Ds:List Addr} {vs:List V},aJ K H (Ds.map W.ref) vs->vs=Ds.map V.ref
 | [],_,r=>by cases r;rfl
 | D::Ds,_,r=>by
   cases r with
   | cons r rs=>cases r;rw [aJ.refs rs];rfl
theorem jU:∀{Ds:List Addr} {us:List Value},aM (Ds.map V.ref) us->us=Ds.map Value.ref
 | [],_,r=>by cases r;rfl
 | D::Ds,_,r=>by
   cases r with
   | cons r rs=>rw [jU rs,show _=Value.ref D from r];rfl
noncomputable def vA (K:PySem.W.Frag) (t1 t2:WE):WE:=λτ G q=>t1 τ G λx G1=>t2 τ G1 λy G2=>∃(a C:Addr) (Ds:List Addr),x=.ref a/\y=.tup (Ds.map W.ref)/\G2 a=some (.exc C)/\(∀D,D∈Ds->XD K D/\mroIn K C (.ref D)=some false)/\q (.bl false) G2
theorem sL {e1 e2:Expr} {t1 t2:WE} {p pos:Pos} (h1:QE X e1 t1) (h2:QE X e2 t2) (hm1:X.mg "isinstance"=none) (hg1:Gl X "isinstance")
 (hs1:starEach [e1,e2] X.env=(false,eval e1 X.env)::starEach [e2] X.env:=by rfl) (hs2:starEach [e2] X.env=(false,eval e2 X.env)::starEach [] X.env:=by rfl)
 (hpl:(backTo pos (starEach [e2] X.env)).any (·.1)=false:=by rfl):QE X (.Call (.Name "isinstance" p) [e1,e2] [] pos) (vA X.K t1 t2):=by
 have ha:=bL h1 (bL h2 pa_nil hs2) hs1;have hCR:eP X (.builtin "isinstance") (λvs H Q=>∃(a C tp:Addr) (Ds:List Addr),vs=[.ref a,.ref tp]/\XO X.K C/\H a=some (vv a C)/\H tp=some (.tup (Ds.map V.ref))/\(∀D,D∈Ds->XD X.K D/\mroIn X.K C (.ref D)=some false)/\Q (.bl false) H):=by
  rintro pins s σ H xs us Q I r ⟨a,C,tp,Ds,e1,hO,hH,hT,hb,q⟩;subst e1;obtain ⟨u,u2,rfl,ru,ru2⟩:=gJ r;cases (show u=Value.ref a from ru);cases (show u2=Value.ref tp from ru2);obtain ⟨bm,hC⟩:=hO.c;obtain ⟨its,rv,⟨⟨cls,dd,data,sl⟩,ho,hcl,n,hdt⟩,hz⟩:=I.tuple (cR.of hT);simp only at hcl hdt;subst hcl hdt;have ei:=jU rv;subst ei;exact PySem.W.kia_tup (sK hC hO.q hO.d) I.kIn (I.excAt hH) ho (jT hC hb) (λz=>nomatch z) λtk=>⟨.bl false,H,I.tok tk,rfl,q⟩
 exact (eU hCR hg1 hm1 fU ha (by decide) (by decide) hs1 hpl).imp λσ H Q z0=>z0.el λτ G q hs hg ht hQ=>⟨τ,G,_,hs,hg,ht,λv H1 w G1 t1 r1 g1 q1=>⟨τ,G1,_,hs.mono t1,g1,q1,λv2 H2 w2 G2 t2 r2 g2 q2=>by
  obtain ⟨a,C,Ds,rfl,rfl,hG,hb,q2⟩:=q2;cases r1;cases r2 with
  | @tup tp _ xs hT rr=>
    obtain ⟨hO,hH⟩:=g2 a _ hG;have ex:=rr.refs;subst ex;exact ⟨a,C,tp,Ds,rfl,hO,hH,hT,hb,hQ _ H2 _ G2 (t1.trans t2) (.bl false) g2 q2⟩⟩⟩
end
end L2
set_option linter.all false
set_option maxRecDepth 100000
namespace L2
open PySem PySem.Spec PyProof.Rows
section
variable {X:Cx} {p pos:Pos}
noncomputable def xp (S:Addr->Prop) (t:Addr->WE):WE:=λτ G q=>∃C,S C/\t C τ G q
theorem kQ {S:Addr->Prop} {t:Addr->WE} {e:Expr} (h:∀C,S C->QE X e (t C)):QE X e (xp S t):=λpins s σ H Q I ⟨τ,G,q,a,b,⟨C,hC,ht⟩,d⟩=>h C hC pins s σ H Q I ⟨τ,G,q,a,b,ht,d⟩
end
end L2
set_option linter.all false
set_option maxRecDepth 100000
namespace L2
open PySem PySem.Spec PyProof.Rows
noncomputable def DO (K:PySem.W.Frag) (a:Addr) (n:Nat):It:=
 ⟨λi H=>∃xs x,cW K H a xs/\xs.length=n/\i<n/\xs[n-1-i]?=some x,λi H x H'=>H'=H/\∀xs,cW K H a xs->xs[n-1-i]?=some x,λi H=>∃xs,cW K H a xs/\xs.length=n/\n<=i⟩
theorem vB {P:Program} {w:World} {K:PySem.W.Frag} {tg:Expr} (a it:Addr) (n:Nat):lx P w K tg (DO K a n) [it] it (λi h=>i<=n/\h.IsRevIter it a ((n:Int)-1- (i:Int))) where
 mem:=by simp
 obj:=λi h st b hb=>by
  have e:b=it:=by simpa using hb
  subst e;obtain ⟨_,o,e,c,d⟩:=st;exact ⟨o,e,λv z=>by rw [d] at z;cases z⟩
 keep:=λi h h' st k=>⟨st.1,st.2.at λo e=>k it (by simp) o e⟩
 item:=by
  intro X hP hw hK hc i pins s σ H E I hf st hg;subst hP hw hK;obtain ⟨xs,x,hq,hl,hi,hx⟩:=hg;obtain ⟨its,rv,p,hz⟩:=I.list hq;obtain ⟨u,hu,ru⟩:=rv.get hx;obtain ⟨f0,f1,f2,f3,f4,f5⟩:=hf it (by simp);have st1:s.heap.IsRevIter it a ((n-1-i:Nat):Int):=by have:=st.2;rw [show (n:Int)-1- (i:Int)=((n-1-i:Nat):Int) by omega] at this;exact this
  refine wpAny_pyNext_rev_item st1 p.isList (x:=u) (by simpa using hu) λh' st' sb=>?_;have I1:aA X pins σ H { s with heap:=h' }:=I.turned (t':=s.toks) (λb o hb e=>(sb.2 b hb).trans e) f0 f1 f3 f4 f5;obtain ⟨o,e,c,d⟩:=id st';exact ⟨u,rfl,lz (s:={ s with heap:=h' }) e c d (by decide) ⟨x,H,I1,ru,⟨rfl,λys hy=>by rw [I.list_inj hy hq];exact hx⟩,⟨by assumption,by rw [show (n:Int)-1- ((i+1:Nat):Int)=((n-1-i:Nat):Int)-1 by omega];exact st'⟩,λb hb=>(hf b hb).1⟩⟩
 done:=by
  intro X hP hw hK hc i pins s σ H E I hf st hg;subst hP hw hK;obtain ⟨xs,hq,hl,hi⟩:=hg;obtain ⟨f0,f1,f2,f3,f4,f5⟩:=hf it (by simp);have st1:s.heap.IsRevIter it a (-1):=by have:=st.2;rw [show (n:Int)-1- (i:Int)= -1 by have:=st.1;omega] at this;exact this
  exact wpAny_pyNext_rev_end (I.ok.hd hc) st1 λh' eb=>⟨rfl,I.turned (t':=s.toks) (λb o hb e=>eb b o hb e) f0 f1 f3 f4 f5⟩
 self:=λ_ _ _ _ _ st h=>wpAny_pyIter_revIter st.2 h
theorem yT {K:PySem.W.Frag} {a:Addr} {ws:List W} {H:Hp} {n:Nat} (hn:ws.length=n):qE K (DO K a n) ws.reverse (λG=>G a=some (.lst ws)) H where
 stop:=λi H1 G t g eG hl=>by
  obtain ⟨_,xs,h1,r⟩:=g a _ eG;exact ⟨xs,cW.of h1,by rw [←r.length];exact hn,by simp at hl;omega⟩
 go:=λi w H1 G t g eG e=>by
  obtain ⟨_,xs,h1,r⟩:=g a _ eG;have hl:=r.length;have hi:i<ws.length:=by
   rcases Nat.lt_or_ge i ws.length with z | z
   ·exact z
   ·rw [List.getElem?_eq_none (by simpa using z)] at e;cases e
  rw [List.getElem?_reverse hi] at e;obtain ⟨v,e1,rv⟩:=r.get e;rw [hn] at e1;refine ⟨⟨xs,v,cW.of h1,by omega,by omega,e1⟩,λx H' z9=>?_⟩;obtain ⟨eH,hy⟩:=z9;subst eH;have e2:=hy xs (cW.of h1);rw [e1] at e2;cases e2;exact ⟨aI.refl _,rv,g⟩
noncomputable def xq (ta:WA):WI:=λτ G r=>ta τ G λws G1=>match ws with
 | [.ref a]=>∃xs,G1 a=some (.lst xs)/\r xs.reverse (λG=>G a=some (.lst xs)) G1
 | _=>False
theorem vC {X:Cx} {tg a:Expr} {ta:WA} {p pos:Pos} (hg:Gl X "reversed") (hm:X.mg "reversed"=none) (ha:QA X [a] ta) (hs:starEach [a] X.env=[(false,eval a X.env)]:=by rfl):
 QI X tg (.Call (.Name "reversed" p) [a] [] pos) (xq ta):=by
 rintro pins s σ H R I ⟨τ,G,r,hτ,hG,ht,hR⟩;refine Call_ (gv I hg hm pf (PyProof.Rows.callWith_type1 (bV (ha pos pins s σ H (λvs H1=>∃ws G1,aI H H1/\aJ X.K H1 ws vs/\aH X.K H1 G1/\match ws with | [.ref a]=>∃xs,G1 a=some (.lst xs)/\r xs.reverse (λG=>G a=some (.lst xs)) G1 | _=>False) I ⟨τ,G,_,hτ,hG,ht,λvs H1 ws G1 t1 r1 g1 q1=>⟨ws,G1,t1,r1,g1,q1⟩⟩) λus s1 ⟨vs,H1,I1,ru,ws,G1,t1,r1,g1,q1⟩=>?_) (by rw [hs];rfl) (by rfl)));split at q1
 ·rename_i pa;obtain ⟨ws,eG,q1⟩:=q1;cases r1 with
  | cons ra rn=>
    cases rn;cases ra;cases ru with
    | cons w1 wn=>
      cases wn;cases (show _=Value.ref pa from w1);obtain ⟨_,xs',h1,rr⟩:=g1 _ _ eG;obtain ⟨its,rv,p1,hz⟩:=I1.list (cW.of h1);have hl:=rv.length;have hr:=rr.length;refine call_reversed_list p1.isList ?_;have st0:(s1.heap.push (revObj pa ((its.toArray.size:Int)-1))).IsRevIter s1.heap.objs.size pa ((ws.length:Int)-1- ((0:Nat):Int)):=⟨_,Heap.get?_push_size _ rfl,rfl,by
       rw [show ((ws.length:Int)-1- ((0:Nat):Int))=(its.toArray.size:Int)-1 by simp;omega];rfl⟩
      refine wpAny_pyIter_revIter (s:={ s1 with heap:=s1.heap.push (revObj pa ((its.toArray.size:Int)-1)) }) st0 ?_;refine ⟨s1.heap.objs.size,[s1.heap.objs.size],_,_,H1,rfl,I1.kept (t':=s1.toks) λb o e=>Heap.get?_push_of_some _ e,vB pa _ ws.length,⟨Nat.zero_le _,st0⟩,λb hb=>?_,hR _ H1 _ _ G1 t1 g1 (yT rfl) q1⟩;have e:b=s1.heap.objs.size:=by simpa using hb
      subst e;exact I1.fpOk (Nat.le_refl _) (I1.hok.fresh (Nat.le_refl _))
 ·exact q1.elim
end L2
set_option linter.all false
namespace L2
open PySem PySem.Spec PyProof.Rows
section
variable {X:Cx}
end
end L2
set_option linter.all false
set_option maxRecDepth 100000
namespace L2
open PySem PySem.Spec PyProof.Rows
section
variable {P:Program} {w:World} {K:PySem.W.Frag} {mg:Str->Option Value} {base:Heap} {N:List Str} {qual:Str} {scope:Scope} {f:Addr} {cdv:Value} {A:Around} {outer:List Env} {s:Shared} {H:Hp} {E:XK}
noncomputable def sM (C:Addr) (m:Str) (sp:bZ) (dws:List W) (to:WE) (t:WA) (e:WX):WE:=λτ G q=>to τ G λx G1=>∃a fs,x=.ref a/\G1 a=some (.ins C fs)/\fs.lookup m=none/\t τ G1 λws G2=>sp (x::(ws++dws)) G2 q e
theorem sN {C:Addr} {m:Str} {k:Nat} {ps:List Str} {sp:bZ} {dws:List W} {o e0:Expr} {es:List Expr} {to:WE} {t:WA} {apos pos:Pos} {pl:Sem Bool} {e:WX} (ho:QE (dG (nP P w) P w K mg base N qual scope f cdv A outer s H E) o to) (M:AY P w K mg base C m ps k sp dws) (hr:ay k (A.deeper (envOfC qual scope s.heap.objs.size f cdv)))
 (hE:∀c H1 G1,aI H H1->aH K H1 G1->e c G1->E c none H1) (ha:QA (dG (nP P w) P w K mg base N qual scope f cdv A outer s H E) (e0::es) t)
 (hst:starEach (e0::es) (envOfC qual scope s.heap.objs.size f cdv)=(false,eval e0 (envOfC qual scope s.heap.objs.size f cdv))::starEach es (envOfC qual scope s.heap.objs.size f cdv):=by rfl) (hpl:(backTo pos (starEach es (envOfC qual scope s.heap.objs.size f cdv))).any (·.1)=false:=by rfl)
 (ht:eval (.Call (.Attribute o m apos) (e0::es) [] pos) (envOfC qual scope s.heap.objs.size f cdv)=(do
   let ov ←eval o (envOfC qual scope s.heap.objs.size f cdv)
   standAt apos.atName
   let (fn,first) ←holding [ov] (getMethod ov m pl)
   callWith pos fn first (backTo pos (starEach (e0::es) (envOfC qual scope s.heap.objs.size f cdv))) (backToKw pos (keywordEach [] (envOfC qual scope s.heap.objs.size f cdv)))):=by rfl):QE (dG (nP P w) P w K mg base N qual scope f cdv A outer s H E) (.Call (.Attribute o m apos) (e0::es) [] pos) (sM C m sp dws to t e):=by
 obtain ⟨⟨f1,fd,ds,dvs,hm,F,hb,hd,hrep⟩,c⟩:=M;refine (oN (X:=dG (nP P w) P w K mg base N qual scope f cdv A outer s H E) (E:=λc _ H1=>∃G1,aH K H1 G1/\e c G1) (pl:=pl) ho c hm F hr hb hd (vm λC H1 t1 z=>?_) ha hst hpl ht).imp λσ H2 Q h=>?_
 ·obtain ⟨G1,g1,z1⟩:=z;exact hE _ H1 G1 t1 g1 z1
 ·obtain ⟨τ,G,q,hs,hg,ht,hQ⟩:=h;refine ⟨τ,G,_,hs,hg,ht,λx H1 w G1 t1 r1 g1 q1=>?_⟩;obtain ⟨a,fs,rfl,hG,hl,q1⟩:=q1;cases r1;obtain ⟨_,dx,fs',hH,hn,_⟩:=g1 a _ hG;refine ⟨a,dx,fs',rfl,hH,fo hn hl,τ,G1,_,hs.mono t1,g1,q1,λvs H2 ws G2 t2 r2 g2 q2=>?_⟩;exact ⟨.ref a::(ws++dws),G2,q,e,.cons (.ref a) (r2.append (hrep _)),g2,q2,λv H3 w3 G3 t3=>hQ v H3 w3 G3 ((t1.trans t2).trans t3),λc d H3 G3 _ g3 z=>⟨G3,g3,z⟩⟩
end
end L2
namespace Nm
inductive O where
 | z
 | c (e:O) (n:Int) (r:O)
 deriving DecidableEq
namespace O
noncomputable def cmp:O->O->Int
 | z,z=>0
 | z,c _ _ _=> -1
 | c _ _ _,z=>1
 | c e n r,c e' n' r'=>
   if cmp e e'≠0 then cmp e e' else if n<n' then -1 else if n'<n then 1 else cmp r r'
noncomputable def size:O->Nat
 | z=>0
 | c e _ r=>1+size e+size r
noncomputable def dp:O->Nat
 | z=>0
 | c e _ r=>max (dp e+1) (dp r)
noncomputable def len:O->Nat
 | z=>0
 | c _ _ r=>len r+1
noncomputable def app:O->O->O
 | z,b=>b
 | c e n r,b=>c e n (app r b)
noncomputable def filt (p:O->Int->Bool):O->O
 | z=>z
 | c e n r=>if p e n then c e n (filt p r) else filt p r
noncomputable def same (x:O):O->Int
 | z=>0
 | c e n r=>if e=x then n+same x r else same x r
noncomputable def init:O->O
 | z=>z
 | c _ _ z=>z
 | c e n r=>c e n (init r)
noncomputable def last:O->O
 | z=>z
 | c e n z=>c e n z
 | c _ _ r=>last r
theorem cmp_self:∀a:O,cmp a a=0
 | z=>rfl
 | c e n r=>by simp [cmp,cmp_self e,cmp_self r]
theorem cmp_eq:∀a b:O,cmp a b=0->a=b
 | z,z,_=>rfl
 | z,c _ _ _,h=>by simp [cmp] at h
 | c _ _ _,z,h=>by simp [cmp] at h
 | c e n r,c e' n' r',h=>by
   unfold cmp at h
   by_cases he:cmp e e'=0
   ·rw [if_neg (by simpa using he)] at h
    by_cases h1:n<n'
    ·rw [if_pos h1] at h;omega
    ·rw [if_neg h1] at h
     by_cases h2:n'<n
     ·rw [if_pos h2] at h;omega
     ·rw [if_neg h2] at h;have:=cmp_eq e e' he;have:=cmp_eq r r' h;have:n=n':=by omega
      subst_vars
      rfl
   ·rw [if_pos he] at h;exact absurd h he
theorem cmp_range:∀a b:O,cmp a b= -1∨cmp a b=0∨cmp a b=1
 | z,z=>by simp [cmp]
 | z,c _ _ _=>by simp [cmp]
 | c _ _ _,z=>by simp [cmp]
 | c e n r,c e' n' r'=>by
   have h1:=cmp_range e e';have h2:=cmp_range r r';unfold cmp;split
   ·exact h1
   ·split
    ·exact .inl rfl
    ·split
     ·exact .inr (.inr rfl)
     ·exact h2
theorem bh:∀a b:O,cmp b a= -cmp a b
 | z,z=>rfl
 | z,c _ _ _=>rfl
 | c _ _ _,z=>rfl
 | c e n r,c e' n' r'=>by
   have h1:=bh e e';have h2:=bh r r';unfold cmp;rw [h1,h2]
   by_cases he:cmp e e'=0
   ·rcases Int.lt_trichotomy n n' with k | k | k
    ·have k':¬n'<n:=by omega
     simp [he,k,k']
    ·subst k;simp [he]
    ·have k':¬n<n':=by omega
     simp [he,k,k']
   ·have he':¬-cmp e e'=0:=by omega
    simp [he,he']
theorem bP:∀a b d:O,cmp a b<0->cmp b d<0->cmp a d<0
 | z,z,_,h,_=>by simp [cmp] at h
 | z,c _ _ _,z,_,h=>by simp [cmp] at h
 | z,c _ _ _,c _ _ _,_,_=>by simp [cmp]
 | c _ _ _,z,_,h,_=>by simp [cmp] at h
 | c _ _ _,c _ _ _,z,_,h=>by simp [cmp] at h
 | c e n r,c e' n' r',c f m t,h1,h2=>by
   have ih1:=bP e e' f;have ih2:=bP r r' t;have r1:=cmp_range e e';have r2:=cmp_range e' f;unfold cmp at h1 h2 ⊢
   by_cases k1:cmp e e'=0
   ·have e1:=cmp_eq e e' k1;subst e1;rw [if_neg (by omega)] at h1
    by_cases k2:cmp e f=0
    ·rw [if_neg (by omega)] at h2 ⊢
     by_cases a1:n<n'
     ·by_cases a2:n'<m
      ·rw [if_pos (by omega)];omega
      ·rw [if_neg a2] at h2
       by_cases a3:m<n'
       ·rw [if_pos a3] at h2;omega
       ·rw [if_pos (by omega)];omega
     ·rw [if_neg a1] at h1
      by_cases a2:n'<n
      ·rw [if_pos a2] at h1;omega
      ·rw [if_neg a2] at h1
       by_cases a3:n'<m
       ·rw [if_pos (by omega)];omega
       ·rw [if_neg a3] at h2
        by_cases a4:m<n'
        ·rw [if_pos a4] at h2;omega
        ·rw [if_neg a4] at h2;rw [if_neg (by omega),if_neg (by omega)];exact ih2 h1 h2
    ·rw [if_pos k2] at h2 ⊢;exact h2
   ·rw [if_pos k1] at h1
    by_cases k2:cmp e' f=0
    ·have e2:=cmp_eq e' f k2;subst e2;rw [if_pos k1];exact h1
    ·rw [if_pos k2] at h2;have:=ih1 h1 h2;rw [if_pos (by omega)];exact this
noncomputable def Lt (e:O):O->Prop
 | z=>True
 | c x _ r=>cmp x e<0/\Lt e r
noncomputable def NF:O->Prop
 | z=>True
 | c e n r=>NF e/\1<=n/\Lt e r/\NF r
theorem Lt.app {e:O}:∀{a b:O},Lt e a->Lt e b->Lt e (app a b)
 | z,_,_,h=>h
 | c _ _ _,_,h1,h2=>⟨h1.1,Lt.app h1.2 h2⟩
theorem Lt.filt {e:O} (p:O->Int->Bool):∀{a:O},Lt e a->Lt e (O.filt p a)
 | z,_=>trivial
 | c _ _ _,h=>by
   unfold O.filt;split
   ·exact ⟨h.1,Lt.filt p h.2⟩
   ·exact Lt.filt p h.2
theorem same_nonneg (x:O):∀{a:O},NF a->0<=same x a
 | z,_=>by simp [same]
 | c e n r,h=>by
   have h1:=h.2.1;have h2:=same_nonneg x h.2.2.2;unfold same;split<;> omega
theorem NF.join {e:O} {n:Int} {b:O} (he:NF e) (hn:1<=n) (hb:NF b) (hl:Lt e b) (hx:∀x,0<cmp x e->Lt x b):∀{a:O},NF a->NF (O.app (O.filt (λx _=>decide (0<cmp x e)) a) (c e n b))
 | z,_=>⟨he,hn,hl,hb⟩
 | c x k r,h=>by
   unfold O.filt;split
   ·rename_i hp;have hp':0<cmp x e:=by simpa using hp
    have hs:=bh x e;exact ⟨h.1,h.2.1,Lt.app (h.2.2.1.filt _) ⟨by omega,hx x hp'⟩,NF.join he hn hb hl hx h.2.2.2⟩
   ·exact NF.join he hn hb hl hx h.2.2.2
end O
namespace O
theorem dN (a:O):¬cmp a a<0:=by rw [cmp_self];omega
theorem nX (x:O):same x z=0:=rfl
theorem fZ (e:O) (n:Int) (r:O):same e (c e n r)=n+same e r:=by simp [same]
theorem same_ne {x e:O} (h:e≠x) (n:Int) (r:O):same x (c e n r)=same x r:=by simp [same,h]
theorem cf {e x:O} (hx:¬cmp x e<0):∀{r:O},Lt e r->same x r=0
 | z,_=>rfl
 | c y n t,h=>by
   have hy:y≠x:=λk=>hx (k▸h.1);rw [same_ne hy];exact cf hx h.2
theorem same_self {e:O} {n:Int} {r:O} (h:Lt e r):same e (c e n r)=n:=by
 rw [fZ,cf (dN e) h];omega
theorem bq {x e:O} {n:Int} {r:O} (h:Lt e r) (hx:0<cmp x e):same x (c e n r)=0:=by
 have hne:e≠x:=λk=>by subst k;rw [cmp_self] at hx;omega
 rw [same_ne hne,cf (by omega) h]
theorem ik {x:O}:∀{a b:O},NF a->NF b->same x a<same x b->(∀y,0<cmp y x->same y a=same y b)->cmp a b<0
 | z,z,_,_,h,_=>by simp [same] at h
 | z,c _ _ _,_,_,_,_=>by simp [cmp]
 | c e n r,z,ha,_,h,_=>by
   have:=same_nonneg x ha;rw [nX] at h;omega
 | c e n r,c e' n' r',ha,hb,h,hy=>by
   rcases cmp_range e e' with k | k | k
   ·rw [cmp,if_pos (by omega)];omega
   ·have k':=cmp_eq _ _ k;subst k';rw [cmp,if_neg (by omega)];rcases cmp_range x e with q | q | q
    ·have hne:e≠x:=λz=>by subst z;rw [cmp_self] at q;omega
     have h1:=hy e (by have:=bh x e;omega);rw [same_self ha.2.2.1,same_self hb.2.2.1] at h1;subst h1;rw [if_neg (by omega),if_neg (by omega)];rw [same_ne hne,same_ne hne] at h;refine ik ha.2.2.2 hb.2.2.2 h λy hyx=>?_
     by_cases hye:e=y
     ·subst hye;rw [cf (dN e) ha.2.2.1,cf (dN e) hb.2.2.1]
     ·have:=hy y hyx;rw [same_ne hye,same_ne hye] at this;exact this
    ·have q':=cmp_eq _ _ q;subst q';rw [same_self ha.2.2.1,same_self hb.2.2.1] at h;rw [if_pos h];omega
    ·rw [bq ha.2.2.1 (by omega),bq hb.2.2.1 (by omega)] at h;omega
   ·have hn:=ha.2.1;rcases cmp_range e x with q | q | q
    ·have qx:0<cmp x e:=by have:=bh e x;omega
     have qx':0<cmp x e':=by
      have:=bP e' e x (by have:=bh e e';omega) (by omega);have:=bh e' x;omega
     rw [bq ha.2.2.1 qx,bq hb.2.2.1 qx'] at h;omega
    ·have q':=cmp_eq _ _ q;subst q';rw [same_self ha.2.2.1,bq hb.2.2.1 (by omega)] at h;omega
    ·have h1:=hy e (by omega);rw [same_self ha.2.2.1,bq hb.2.2.1 (by omega)] at h1;omega
theorem il:∀{a b:O},NF a->NF b->cmp a b<0->∃x,same x a<same x b/\∀y,0<cmp y x->same y a=same y b
 | z,z,_,_,h=>by simp [cmp] at h
 | z,c e n r,_,hb,_=>by
   refine ⟨e,?_,λy hy=>?_⟩
   ·rw [same_self hb.2.2.1,nX];have:=hb.2.1;assumption
   ·rw [bq hb.2.2.1 hy,nX]
 | c _ _ _,z,_,_,h=>by simp [cmp] at h
 | c e n r,c e' n' r',ha,hb,h=>by
   rcases cmp_range e e' with k | k | k
   ·refine ⟨e',?_,λy hy=>?_⟩
    ·rw [same_self hb.2.2.1,bq ha.2.2.1 (by have:=bh e e';omega)];have:=hb.2.1;assumption
    ·have hy2:0<cmp y e:=by
      have:=bP e e' y (by omega) (by have:=bh y e';omega);have:=bh e y;omega
     rw [bq hb.2.2.1 hy,bq ha.2.2.1 hy2]
   ·have k':=cmp_eq _ _ k;subst k';rw [cmp,if_neg (by omega)] at h
    by_cases h1:n<n'
    ·refine ⟨e,?_,λy hy=>?_⟩
     ·rw [same_self ha.2.2.1,same_self hb.2.2.1];exact h1
     ·rw [bq hb.2.2.1 hy,bq ha.2.2.1 hy]
    ·rw [if_neg h1] at h
     by_cases h2:n'<n
     ·rw [if_pos h2] at h;omega
     ·rw [if_neg h2] at h;have hn:n=n':=by omega
      subst hn;obtain ⟨x,hx,hy⟩:=il ha.2.2.2 hb.2.2.2 h;have hxe:cmp x e<0:=by
       refine Classical.byContradiction λq=>?_;rw [cf q ha.2.2.1,cf q hb.2.2.1] at hx;omega
      have hne:e≠x:=λz=>by subst z;rw [cmp_self] at hxe;omega
      refine ⟨x,by rw [same_ne hne,same_ne hne];exact hx,λy hyx=>?_⟩
      by_cases hye:e=y
      ·subst hye;rw [same_self ha.2.2.1,same_self hb.2.2.1]
      ·rw [same_ne hye,same_ne hye];exact hy y hyx
   ·rw [cmp,if_pos (by omega)] at h;omega
noncomputable def plusO:O->O->O
 | a,z=>a
 | a,c e n r=>app (filt (λx _=>decide (0<cmp x e)) a) (c e (same e a+n) r)
theorem lV:∀(x a b:O),same x (app a b)=same x a+same x b
 | x,z,b=>by simp [app,same]
 | x,c e n r,b=>by
   have:=lV x r b;show same x (c e n (app r b))=_
   by_cases h:e=x
   ·subst h;rw [fZ,fZ,this];omega
   ·rw [same_ne h,same_ne h,this]
theorem jV (p:O->Bool):∀(x a:O),same x (filt (λy _=>p y) a)=if p x then same x a else 0
 | x,z=>by simp [filt,same]
 | x,c e n r=>by
   have ih:=jV p x r;unfold filt
   by_cases hp:p e=true
   ·rw [if_pos hp]
    by_cases h:e=x
    ·subst h;rw [fZ,fZ,ih,if_pos hp,if_pos hp]
    ·rw [same_ne h,same_ne h,ih]
   ·rw [if_neg hp,ih]
    by_cases h:e=x
    ·subst h;rw [if_neg hp,if_neg hp]
    ·rw [same_ne h]
theorem NF.join' {e:O} {n:Int} {b:O} (he:NF e) (hn:1<=n) (hb:NF b) (hl:Lt e b) {a:O} (ha:NF a):NF (O.app (O.filt (λx _=>decide (0<cmp x e)) a) (c e n b)):=by
 refine NF.join he hn hb hl (λx hx=>?_) ha;have:∀{b:O},Lt e b->Lt x b:=by
  intro b
  induction b with
  | z=>exact λ_=>trivial
  | c y m t _ ih=>exact λh=>⟨bP y e x h.1 (by have:=bh x e;omega),ih h.2⟩
 exact this hl
theorem NF.plus {a b:O} (ha:NF a) (hb:NF b):NF (plusO a b):=by
 cases b with
 | z=>exact ha
 | c e n r=>
   have:=same_nonneg e ha;exact NF.join' hb.1 (by have:=hb.2.1;omega) hb.2.2.2 hb.2.2.1 ha
theorem jW {a e:O} {n:Int} {r:O} (hr:Lt e r) (x:O):same x (plusO a (c e n r))=if 0<cmp x e then same x a else if cmp x e<0 then same x (c e n r) else same x a+same x (c e n r):=by
 show same x (app _ _)=_;rw [lV,jV (λy=>decide (0<cmp y e))]
 by_cases h1:0<cmp x e
 ·rw [if_pos (by simpa using h1),if_pos h1,bq hr h1];omega
 ·rw [if_neg (by simpa using h1),if_neg h1]
  by_cases h2:cmp x e<0
  ·have hne:e≠x:=λz=>by subst z;rw [cmp_self] at h2;omega
   rw [if_pos h2,same_ne hne,same_ne hne];omega
  ·have:cmp x e=0:=by omega
   have h3:=cmp_eq _ _ this;subst h3;rw [if_neg h2,same_self hr,same_self hr];omega
end O
namespace O
noncomputable def xt (b y:O):Prop:=∃w,cmp y w<0/\same w b≠0
theorem AZ (y:O):¬xt z y:=λ⟨_,_,h⟩=>h rfl
theorem xu {e:O} {n:Int} {r y:O} (hn:1<=n) (hr:Lt e r):xt (c e n r) y↔cmp y e<0:=by
 constructor
 ·rintro ⟨w,hw,hs⟩;have:¬0<cmp w e:=λk=>hs (bq hr k);rcases cmp_range w e with k | k | k
  ·exact bP y w e hw (by omega)
  ·rw [cmp_eq _ _ k] at hw;exact hw
  ·omega
 ·intro h;exact ⟨e,h,by rw [same_self hr];omega⟩
theorem cT {a b y:O} (hb:NF b) (h:xt b y):same y (plusO a b)=same y b:=by
 cases b with
 | z=>exact absurd h (AZ y)
 | c e n r=>
   have h':=(xu hb.2.1 hb.2.2.1).mp h;rw [jW hb.2.2.1,if_neg (by omega),if_pos h']
theorem cK {a b y:O} (hb:NF b) (h:¬xt b y):same y (plusO a b)=same y b+same y a:=by
 cases b with
 | z=>show same y a=0+same y a;omega
 | c e n r=>
   have h':¬cmp y e<0:=λk=>h ((xu hb.2.1 hb.2.2.1).mpr k);rw [jW hb.2.2.1]
   by_cases k:0<cmp y e
   ·rw [if_pos k,bq hb.2.2.1 k];omega
   ·rw [if_neg k,if_neg h'];omega
theorem jX {b d x y:O} (h:∀y,0<cmp y x->same y b=same y d) (hy:¬cmp y x<0):xt b y↔xt d y:=by
 have go:∀w,cmp y w<0->0<cmp w x:=λw hw=>by
  have hs:=bh w x;rcases cmp_range y x with k | k | k
  ·omega
  ·rw [cmp_eq _ _ k] at hw;omega
  ·have h3:=bP x y w (by have:=bh y x;omega) hw;omega
 constructor
 ·rintro ⟨w,hw,hs⟩;exact ⟨w,hw,by rw [←h w (go w hw)];exact hs⟩
 ·rintro ⟨w,hw,hs⟩;exact ⟨w,hw,by rw [h w (go w hw)];exact hs⟩
theorem ph {a b d:O} (ha:NF a) (hb:NF b) (hd:NF d) (h:cmp b d<0):cmp (plusO a b) (plusO a d)<0:=by
 obtain ⟨x,hx,hy⟩:=il hb hd h;refine ik (x:=x) (ha.plus hb) (ha.plus hd) ?_ λy hyx=>?_
 ·have q:=jX hy (dN x)
  by_cases k:xt b x
  ·rw [cT hb k,cT hd (q.mp k)];exact hx
  ·rw [cK hb k,cK hd (λz=>k (q.mpr z))];omega
 ·have q:=jX (y:=y) hy (by omega)
  by_cases k:xt b y
  ·rw [cT hb k,cT hd (q.mp k)];exact hy y hyx
  ·rw [cK hb k,cK hd (λz=>k (q.mpr z)),hy y hyx]
theorem qL {f:O->O} {b d:O} (h1:cmp b d<0->cmp (f b) (f d)<0) (h2:cmp d b<0->cmp (f d) (f b)<0):cmp (f b) (f d)=cmp b d:=by
 rcases cmp_range b d with k | k | k
 ·have:=h1 (by omega);rcases cmp_range (f b) (f d) with q | q | q<;> omega
 ·rw [cmp_eq _ _ k,cmp_self,cmp_self]
 ·have:=h2 (by have:=bh b d;omega);have:=bh (f d) (f b);rcases cmp_range (f b) (f d) with q | q | q<;> omega
theorem lW {a b d:O} (ha:NF a) (hb:NF b) (hd:NF d):cmp (plusO a b) (plusO a d)=cmp b d:=qL (ph ha hb hd) (ph ha hd hb)
noncomputable def kR:O->O->O
 | z,b=>b
 | c e n r,z=>c e n r
 | c e n r,c e' n' r'=>if 0<cmp e e' then c e n (kR r (c e' n' r')) else if cmp e e'<0 then c e' n' (kR (c e n r) r') else c e (n+n') (kR r r')
termination_by a b=>a.len+b.len
decreasing_by all_goals (simp only [len];omega)
theorem Lt.mono {e f:O} (h:cmp e f<0):∀{r:O},Lt e r->Lt f r
 | z,_=>trivial
 | c _ _ _,k=>⟨bP _ _ _ k.1 h,Lt.mono h k.2⟩
end O
namespace O
noncomputable def getP:O->Nat->Option (O×Int)
 | z,_=>none
 | c e n _,0=>some (e,n)
 | c _ _ r,i+1=>getP r i
theorem getP_none:∀{a:O} {i:Nat},getP a i=none↔a.len<=i
 | z,i=>by simp [getP,len]
 | c e n r,0=>by simp [getP,len]
 | c e n r,i+1=>by
   have:=getP_none (a:=r) (i:=i);simp only [getP,len,this];omega
theorem getP_some {a:O} {i:Nat} (h:i<a.len):∃e n,getP a i=some (e,n):=by
 cases k:getP a i with
 | none=>rw [getP_none] at k;omega
 | some p=>exact ⟨p.1,p.2,rfl⟩
theorem getP_size:∀{a:O} {i:Nat} {e:O} {n:Int},getP a i=some (e,n)->e.size<a.size/\e.dp<a.dp
 | z,_,_,_,h=>by simp [getP] at h
 | c e n r,0,_,_,h=>by simp [getP] at h;obtain ⟨rfl,rfl⟩:=h;simp only [size,dp];omega
 | c e n r,i+1,x,m,h=>by
   have:=getP_size (a:=r) (i:=i) (e:=x) (n:=m) (by simpa [getP] using h);simp only [size,dp];omega
noncomputable def stay (e a:O):Nat:=(filt (λx _=>decide (0<cmp x e)) a).len
theorem dg {y e:O} (h:¬0<cmp y e):∀{r:O},Lt y r->filt (λx _=>decide (0<cmp x e)) r=z
 | z,_=>rfl
 | c x n t,k=>by
   have hx:¬0<cmp x e:=λq=>by
    have h1:=bh x e;have h2:=bP e x y (by omega) k.1;have h3:=bh e y;omega
   unfold filt;rw [if_neg (by simpa using hx)];exact dg h k.2
theorem filt_c (p:O->Int->Bool) (e:O) (n:Int) (r:O):filt p (c e n r)=if p e n then c e n (filt p r) else filt p r:=rfl
theorem eK {e y:O} {n:Int} {r:O} (h:0<cmp y e):stay e (c y n r)=stay e r+1:=by
 unfold stay;rw [filt_c,if_pos (by simpa using h)]
 rfl
theorem eL {e y:O} {n:Int} {r:O} (h:¬0<cmp y e) (hr:Lt y r):stay e (c y n r)=0:=by
 unfold stay;rw [filt_c,if_neg (by simpa using h),dg h hr]
 rfl
theorem stay_le {e:O}:∀{a:O},stay e a<=a.len
 | z=>Nat.le_refl _
 | c y n r=>by
   have:=stay_le (e:=e) (a:=r);unfold stay at this ⊢;unfold filt;split<;> simp only [len]<;> omega
theorem above_iff {e:O}:∀{a:O} {i:Nat} {x:O} {n:Int},NF a->getP a i=some (x,n)->(0<cmp x e↔i<stay e a)
 | z,_,_,_,_,h=>by simp [getP] at h
 | c y m r,0,x,n,ha,h=>by
   simp [getP] at h;obtain ⟨rfl,rfl⟩:=h
   by_cases k:0<cmp y e
   ·rw [eK k];exact ⟨λ_=>by omega,λ_=>k⟩
   ·rw [eL k ha.2.2.1];exact ⟨λq=>absurd q k,λq=>by omega⟩
 | c y m r,i+1,x,n,ha,h=>by
   have h':getP r i=some (x,n):=by simpa [getP] using h
   have ih:=above_iff (e:=e) ha.2.2.2 h'
   by_cases k:0<cmp y e
   ·rw [eK k,ih];omega
   ·rw [eL k ha.2.2.1];constructor
    ·intro q;have z0:stay e r=0:=by unfold stay;rw [dg k ha.2.2.1];rfl
     have:=ih.mp q;omega
    ·intro q;omega
theorem same_stay {e:O}:∀{a:O},NF a->same e a=match getP a (stay e a) with | some (x,m)=>if x=e then m else 0 | none=>0
 | z,_=>rfl
 | c y n r,ha=>by
   by_cases k:0<cmp y e
   ·have hne:y≠e:=λq=>by subst q;rw [cmp_self] at k;omega
    rw [eK k,same_ne hne,same_stay ha.2.2.2]
    rfl
   ·rw [eL k ha.2.2.1];show _=if y=e then n else 0
    by_cases q:y=e
    ·subst q;rw [if_pos rfl,same_self ha.2.2.1]
    ·rw [if_neg q,same_ne q];refine cf (λhl=>?_) ha.2.2.1;have h1:=bh e y;omega
noncomputable def takeO:Nat->O->O
 | 0,_=>z
 | _+1,z=>z
 | i+1,c e n r=>c e n (takeO i r)
theorem take_stay {e:O}:∀{a:O},NF a->takeO (stay e a) a=filt (λx _=>decide (0<cmp x e)) a
 | z,_=>rfl
 | c y n r,ha=>by
   by_cases k:0<cmp y e
   ·rw [eK k,filt_c,if_pos (by simpa using k),takeO,take_stay ha.2.2.2]
   ·rw [eL k ha.2.2.1,filt_c,if_neg (by simpa using k),dg k ha.2.2.1]
    rfl
end O
namespace O
noncomputable def mx:O->Int
 | z=>0
 | c e n r=>max n (max (mx e) (mx r))
theorem mx_c (e:O) (n:Int) (r:O):mx (c e n r)=max n (max (mx e) (mx r)):=rfl
theorem mx_nonneg:∀a:O,0<=mx a
 | z=>Int.le_refl _
 | c e n r=>by have:=mx_nonneg r;rw [mx_c];omega
theorem sO:∀a b:O,mx (app a b)=max (mx a) (mx b)
 | z,b=>by have:=mx_nonneg b;show mx b=max 0 (mx b);omega
 | c e n r,b=>by
   show mx (c e n (app r b))=_;rw [mx_c,sO r b,mx_c,Int.max_assoc,Int.max_assoc]
theorem pp (p:O->Int->Bool):∀a:O,mx (filt p a)<=mx a
 | z=>Int.le_refl _
 | c e n r=>by
   have:=pp p r;rw [filt_c];split
   ·rw [mx_c,mx_c];omega
   ·rw [mx_c];omega
theorem same_le_mx (x:O):∀{a:O},NF a->same x a<=mx a
 | z,_=>Int.le_refl _
 | c e n r,h=>by
   have h1:=same_le_mx x h.2.2.2;rw [mx_c]
   by_cases k:e=x
   ·subst k;rw [same_self h.2.2.1];omega
   ·rw [same_ne k];omega
theorem sP:∀a b:O,dp (app a b)=max (dp a) (dp b)
 | z,b=>by show dp b=max 0 (dp b);omega
 | c e n r,b=>by
   show dp (c e n (app r b))=_;simp only [dp,sP r b];rw [Nat.max_assoc]
theorem dp_filt (p:O->Int->Bool):∀a:O,dp (filt p a)<=dp a
 | z=>Nat.le_refl _
 | c e n r=>by
   have:=dp_filt p r;rw [filt_c];split<;> simp only [dp]<;> omega
theorem dp_plus (a b:O):dp (plusO a b)<=max (dp a) (dp b):=by
 cases b with
 | z=>show dp a<=_;omega
 | c e n r=>
   show dp (app _ _)<=_;rw [sP];have:=dp_filt (λx _=>decide (0<cmp x e)) a;simp only [dp];omega
structure Ed (B:Int) (o:O):Prop where
 nf:NF o
 sz:o.size<=24
 mx:O.mx o<=B
end O
namespace O
theorem yU (a:O):plusO a z=a:=rfl
theorem plus_c (a e:O) (n:Int) (r:O):plusO a (c e n r)=app (filt (λx _=>decide (0<cmp x e)) a) (c e (same e a+n) r):=rfl
theorem CB {a:O} (h:a≠z):cmp z a<0:=by
 cases a with
 | z=>exact absurd rfl h
 | c _ _ _=>simp [cmp]
theorem pq {e f:O} (he:NF e) (hf:NF f) (h:f≠z):cmp e (plusO e f)<0:=by
 have:=lW (b:=z) he trivial hf;rw [yU] at this;have:=CB h;omega
noncomputable def mulP (e:O) (n:Int) (r:O):O->O
 | z=>z
 | c f d t=>if f=z then c e (n*d) r else c (plusO e f) d (mulP e n r t)
noncomputable def timesO:O->O->O
 | z,_=>z
 | c e n r,b=>mulP e n r b
theorem mulP_c (e:O) (n:Int) (r f:O) (d:Int) (t:O):mulP e n r (c f d t)=if f=z then c e (n*d) r else c (plusO e f) d (mulP e n r t):=rfl
theorem times_z (a:O):timesO a z=z:=by cases a<;> rfl
theorem px {e:O} {n:Int} {r:O} (he:NF e) (hr:Lt e r) {f:O} (hf:NF f) (h0:f≠z):∀{t:O},NF t->Lt f t->Lt (plusO e f) (mulP e n r t)
 | z,_,_=>trivial
 | c g d u,ht,hl=>by
   rw [mulP_c];split
   ·exact ⟨pq he hf h0,hr.mono (pq he hf h0)⟩
   ·exact ⟨by rw [lW he ht.1 hf];exact hl.1,px he hr hf h0 ht.2.2.2 hl.2⟩
theorem nY {a b:Int} (ha:1<=a) (hb:1<=b):1<=a*b:=by
 have:=Int.mul_le_mul ha hb (by omega) (by omega);simpa using this
theorem pz {e:O} {n:Int} {r:O} (h:NF (c e n r)):∀{t:O},NF t->NF (mulP e n r t)
 | z,_=>trivial
 | c g d u,ht=>by
   rw [mulP_c];split
   ·exact ⟨h.1,nY h.2.1 ht.2.1,h.2.2.1,h.2.2.2⟩
   ·rename_i hg;exact ⟨h.1.plus ht.1,ht.2.1,px h.1 h.2.2.1 ht.1 hg ht.2.2.2 ht.2.2.1,pz h ht.2.2.2⟩
theorem NF.times {a b:O} (ha:NF a) (hb:NF b):NF (timesO a b):=by
 cases a with
 | z=>exact trivial
 | c e n r=>exact pz ha hb
theorem Lt_z {t:O} (h:Lt z t):t=z:=by
 cases t with
 | z=>rfl
 | c x _ _=>
   have:=h.1;cases x<;> simp [cmp] at this
section
variable {e:O} {n:Int} {r:O}
end
end O
namespace O
section
variable {e:O} {n:Int} {r:O}
end
end O
namespace O
end O
namespace O
noncomputable def hw:O->Nat
 | z=>0
 | c e _ r=>max (len r+1) (max (hw e) (hw r))
theorem hw_c (e:O) (n:Int) (r:O):hw (c e n r)=max (len r+1) (max (hw e) (hw r)):=rfl
theorem len_le_hw:∀a:O,len a<=hw a
 | z=>Nat.le_refl _
 | c e n r=>by rw [hw_c];simp only [len];omega
theorem len_app':∀a b:O,(app a b).len=a.len+b.len
 | z,b=>by simp [app,len]
 | c e n r,b=>by have:=len_app' r b;simp only [app,len];omega
theorem len_filt' (p:O->Int->Bool):∀a:O,(a.filt p).len<=a.len
 | z=>Nat.le_refl _
 | c e n r=>by
   have:=len_filt' p r;rw [filt_c];split<;> simp only [len]<;> omega
theorem sQ:∀a b:O,hw (app a b)<=max (len a+len b) (max (hw a) (hw b))
 | z,b=>by show hw b<=_;omega
 | c e n r,b=>by
   have ih:=sQ r b;show hw (c e n (app r b))<=_;have l0:len (c e n r)=len r+1:=rfl;have b1:hw e<=hw (c e n r):=Nat.le_trans (Nat.le_max_left _ _) (Nat.le_max_right _ _);have b2:hw r<=hw (c e n r):=Nat.le_trans (Nat.le_max_right _ _) (Nat.le_max_right _ _);have c1:len (c e n r)+len b<=max (len (c e n r)+len b) (max (hw (c e n r)) (hw b)):=Nat.le_max_left _ _;have c2:hw (c e n r)<=max (len (c e n r)+len b) (max (hw (c e n r)) (hw b)):=Nat.le_trans (Nat.le_max_left _ _) (Nat.le_max_right _ _);have c3:hw b<=max (len (c e n r)+len b) (max (hw (c e n r)) (hw b)):=Nat.le_trans (Nat.le_max_right _ _) (Nat.le_max_right _ _);generalize max (len (c e n r)+len b) (max (hw (c e n r)) (hw b))=R at c1 c2 c3 ⊢;rw [hw_c,len_app'];refine Nat.max_le.mpr ⟨by omega,Nat.max_le.mpr ⟨Nat.le_trans b1 c2,Nat.le_trans ih (Nat.max_le.mpr ⟨by omega,Nat.max_le.mpr ⟨Nat.le_trans b2 c2,c3⟩⟩)⟩⟩
theorem hw_filt (p:O->Int->Bool):∀a:O,hw (filt p a)<=hw a
 | z=>Nat.le_refl _
 | c e n r=>by
   have ih:=hw_filt p r;have h:=len_filt' p r;rw [filt_c];split
   ·rw [hw_c,hw_c];omega
   ·rw [hw_c];omega
theorem hw_plus (a b:O):hw (plusO a b)<=hw a+hw b:=by
 cases b with
 | z=>show hw a<=_;omega
 | c e n r=>
   rw [plus_c];have h1:=sQ (filt (λx _=>decide (0<cmp x e)) a) (c e (same e a+n) r);have h2:=hw_filt (λx _=>decide (0<cmp x e)) a;have h3:=len_filt' (λx _=>decide (0<cmp x e)) a;have h4:=len_le_hw a;have h5:=len_le_hw (c e n r);have e1:hw (c e (same e a+n) r)=hw (c e n r):=rfl;have e2:len (c e (same e a+n) r)=len (c e n r):=rfl;rw [e1,e2] at h1;exact Nat.le_trans h1 (Nat.max_le.mpr ⟨by omega,Nat.max_le.mpr ⟨by omega,by omega⟩⟩)
theorem pA (e:O) (n:Int) (r:O):∀b:O,(mulP e n r b).len<=b.len+r.len
 | z=>by simp [mulP,len]
 | c f d t=>by
   have ih:=pA e n r t;rw [mulP_c];split<;> simp only [len]<;> omega
theorem sR (e:O) (n:Int) (r:O):∀b:O,hw (mulP e n r b)<=hw (c e n r)+hw b
 | z=>by simp [mulP,hw]
 | c f d t=>by
   have ih:=sR e n r t;have h1:=hw_plus e f;have h2:=pA e n r t;have h3:=len_le_hw t;have h4:hw e<=hw (c e n r):=Nat.le_trans (Nat.le_max_left _ _) (Nat.le_max_right _ _);have h5:len r+1<=hw (c e n r):=Nat.le_max_left _ _;have h6:hw f<=hw (c f d t):=Nat.le_trans (Nat.le_max_left _ _) (Nat.le_max_right _ _);have h7:hw t<=hw (c f d t):=Nat.le_trans (Nat.le_max_right _ _) (Nat.le_max_right _ _);have h8:len t+1<=hw (c f d t):=Nat.le_max_left _ _;rw [mulP_c];split
   ·have e1:hw (c e (n*d) r)=hw (c e n r):=rfl;rw [e1];omega
   ·rw [hw_c (plusO e f)];exact Nat.max_le.mpr ⟨by omega,Nat.max_le.mpr ⟨by omega,by omega⟩⟩
theorem hw_times (a b:O):hw (timesO a b)<=hw a+hw b:=by
 cases a with
 | z=>show hw z<=_;exact Nat.zero_le _
 | c e n r=>exact sR e n r b
theorem pB (e:O) (n:Int) (r:O):∀b:O,(mulP e n r b).dp<=max (dp (c e n r)) (b.dp)
 | z=>by simp [mulP,dp]
 | c f d t=>by
   have ih:=pB e n r t;have h:=dp_plus e f;have h1:dp e+1<=dp (c e n r):=Nat.le_max_left _ _;have h2:dp f+1<=dp (c f d t):=Nat.le_max_left _ _;have h3:dp t<=dp (c f d t):=Nat.le_max_right _ _;rw [mulP_c];split
   ·have e1:dp (c e (n*d) r)=dp (c e n r):=rfl;rw [e1];exact Nat.le_max_left _ _
   ·refine Nat.max_le.mpr ⟨?_,Nat.le_trans ih (Nat.max_le.mpr ⟨Nat.le_max_left _ _,Nat.le_trans h3 (Nat.le_max_right _ _)⟩)⟩;rcases Nat.le_total (dp e) (dp f) with k | k
    ·rw [Nat.max_eq_right k] at h;exact Nat.le_trans (Nat.succ_le_succ h) (Nat.le_trans h2 (Nat.le_max_right _ _))
    ·rw [Nat.max_eq_left k] at h;exact Nat.le_trans (Nat.succ_le_succ h) (Nat.le_trans h1 (Nat.le_max_left _ _))
theorem dp_times (a b:O):dp (timesO a b)<=max (dp a) (dp b):=by
 cases a with
 | z=>show dp z<=_;exact Nat.zero_le _
 | c e n r=>exact pB e n r b
theorem mx_plus {a b:O} (ha:NF a):mx (plusO a b)<=mx a+mx b:=by
 have h0:=mx_nonneg a;cases b with
 | z=>show mx a<=mx a+0;omega
 | c e n r=>
   rw [plus_c,sO,mx_c,mx_c];have h2:=pp (λx _=>decide (0<cmp x e)) a;have h3:=same_le_mx e ha;have h4:=mx_nonneg e;have h5:=mx_nonneg r;omega
theorem sS {e:O} {n:Int} {r:O} (h:NF (c e n r)):∀{b:O},NF b->mx (mulP e n r b)<=(mx (c e n r)+1)*(mx b+1)
 | z,_=>by
   have:=mx_nonneg (c e n r);show (0:Int)<=(mx (c e n r)+1)*(0+1);omega
 | c f d t,hb=>by
   have ih:=sS h hb.2.2.2;have hp:=mx_plus (a:=e) (b:=f) h.1;have n0:=mx_nonneg (c e n r);have n1:=mx_nonneg f;have n2:=mx_nonneg t;have hd:=hb.2.1;have hn:=h.2.1;obtain ⟨A,hA⟩:∃A,A=mx (c e n r):=⟨_,rfl⟩;rw [←hA] at ih n0 ⊢;rw [mx_c] at hA;have k1:(A+1)*(mx t+1)<=(A+1)*(mx (c f d t)+1):=Int.mul_le_mul_of_nonneg_left (by rw [mx_c];omega) (by omega);have k2:(A+1)*1+(mx (c f d t))<=(A+1)*(mx (c f d t)+1):=by
    have:1*mx (c f d t)<=(A+1)*mx (c f d t):=Int.mul_le_mul_of_nonneg_right (by omega) (mx_nonneg _);rw [Int.mul_add];omega
   have k3:n*d<=(A+1)*(mx (c f d t)+1):=Int.mul_le_mul (by omega) (by rw [mx_c];omega) (by omega) (by omega);have k4:mx (c f d t)=max d (max (mx f) (mx t)):=rfl;rw [mulP_c];split
   ·rw [mx_c];omega
   ·rw [mx_c];omega
end O
namespace O
noncomputable def e9:O->O
 | z=>z
 | c e n z=>if n=1 then z else c e (n-1) z
 | c e n (c e' n' r')=>c e n (e9 (c e' n' r'))
noncomputable def cC:O->O
 | z=>z
 | c e _ z=>e
 | c _ _ (c e' n' r')=>cC (c e' n' r')
theorem app_z:∀a:O,app a z=a
 | z=>rfl
 | c e n r=>by show c e n (app r z)=_;rw [app_z r]
noncomputable def DQ (a:O):Prop:=a≠z/\same z a=0
inductive yV:O->Int->O->Prop where
 | suc {a:O} {n:Int} (h0:a≠z) (h:cC a=z):yV a n (e9 a)
 | lim {a:O} {n:Int} {o:O} (h0:a≠z) (h:DQ (cC a)) (k:yV (cC a) n o):yV a n (app (e9 a) (c o 1 z))
 | one {a:O} {n:Int} (h0:a≠z) (h:cC a≠z) (h':¬DQ (cC a)):yV a n (app (e9 a) (if n=0 then z else c (e9 (cC a)) n z))
end O
namespace O
theorem app_assoc:∀a b d:O,app (app a b) d=app a (app b d)
 | z,_,_=>rfl
 | c e k r,b,d=>by show c e k (app (app r b) d)=c e k (app r (app b d));rw [app_assoc r b d]
end O
namespace O
structure Rg (a b:O) (n:Int):Prop where
 pos:0<=n
 pass:∀o,yV a n o->cmp b o<0
 least:0<n->∀o,yV a (n-1) o->¬cmp b o<0
end O
namespace O
end O
namespace O
end O
namespace O
noncomputable def wh (m:Int):O:=if m=0 then z else c z m z
theorem NF.wh {m:Int} (h:0<=m):NF (wh m):=by
 unfold O.wh;split
 ·exact trivial
 ·exact ⟨trivial,by omega,trivial,trivial⟩
theorem wh_pos {m:Int} (h:0<m):wh m=c z m z:=by unfold wh;rw [if_neg (by omega)]
end O
namespace O
noncomputable abbrev one:O:=c z 1 z
noncomputable abbrev lim (b:O):O:=filt (λy _=>decide (¬y=z)) b
theorem times_mx {a b:O} (ha:NF a) (hb:NF b):mx (timesO a b)<=(mx a+1)*(mx b+1):=by
 cases a with
 | z=>
   have:=mx_nonneg b;show (0:Int)<=(0+1)*(mx b+1);omega
 | c e n r=>exact sS ha hb
end O
namespace O
section
variable {x:O} {n m:Int}
end
end O
namespace O
noncomputable abbrev w1:O:=c one 1 z
end O
namespace O
end O
namespace O
noncomputable def ot:O->Int
 | z=>0
 | c _ n r=>max n (ot r)
end O
namespace O
end O
namespace O
noncomputable def val (b:Nat):O->Nat
 | z=>0
 | c e n r=>n.toNat*b^val b e+val b r
structure Wr (b:Nat) (a:O):Prop where
 nf:NF a
 mx:O.mx a<b
end O
namespace O
noncomputable def tp (b:Nat):O->Nat
 | z=>0
 | c e _ _=>val b e+1
end O
namespace O
open Classical in
noncomputable def rep (b s:Nat):O:=if h:∃o,Wr b o/\val b o=s then choose h else z
noncomputable def tl (b:Nat):Nat->O
 | 0=>z
 | s+1=>c (rep b s) ((b:Int)-1) (tl b s)
noncomputable def dn (b:Nat) (a:O):O:=app (e9 a) (tl b (val b (cC a)))
noncomputable def tw:Nat->O
 | 0=>c z 1 z
 | d+1=>c (tw d) 1 z
end O
namespace O
inductive Wy (b:Nat):O->Prop where
 | z:Wy b z
 | c {a:O} (h0:a≠O.z) (nf:NF a) (w:Wr b (e9 a)) (k:Wy b (cC a)):Wy b a
end O
namespace O
end O
namespace O
noncomputable def xb (b:Nat):Nat:=if b*b<=55 then b else 54/b+1
noncomputable def CC (b:Nat):O:=if b<56 then c (c z 1 z) (xb b:Int) z else c z 55 z
structure Rw (b k:Nat) (a:O):Prop where
 wr:Wr (b+k) a
 aU:Lt (CC b) a
 tp:O.tp (b+k) a<=200
end O
namespace O
structure Hi (b:Nat) (a p e:O) (n:Int):Prop where
 app:a=O.app p (c e n z)
 wp:Wr b p
 we:Wr b e
 n1:1<=n
 n2:n<b
 last:cC a=e
 div:∃q,val b p=q*b^ (val b e+1)
 lt:p≠z->cmp e (cC p)<0
 dp:p.dp<=a.dp
 de:e.dp<a.dp
 aU:∀x,Lt x a->Lt x p
end O
namespace O
end O
inductive Tr where
 | z
 | c (b r:Tr)
namespace Tr
noncomputable def pts:Tr->Nat
 | z=>1
 | c b r=>pts b+pts r
noncomputable def dp:Tr->Nat
 | z=>0
 | c b r=>max (dp b+1) (dp r)
noncomputable def len:Tr->Nat
 | z=>0
 | c _ r=>len r+1
noncomputable def sm (f:Nat->Nat):Nat->Nat
 | 0=>0
 | n+1=>sm f n+f n
structure Ee (n M:Nat) (ch:Nat->List Nat) (ds:Nat->Nat):Prop where
 pos:1<=n
 d0:ds 0=0
 in_:∀v,v<n->∀j,j∈ch v->v<j/\j<n/\ds j=ds v+1
 dp:∀v,v<n->ds v<=M
 sum:∀f:Nat->Nat,sm (λv=>((ch v).map f).sum) n+f 0=sm f n
 len:∀v,v<n->(ch v).length<=n
structure DR (n M k:Nat) (ch:Nat->List Nat) (ds:Nat->Nat) (t:Nat->Tr):Prop where
 pts:∀v,k<=v->v<n->Tr.pts (t v)=1+((ch v).map λj=>Tr.pts (t j)).sum
 dp:∀v,k<=v->v<n->Tr.dp (t v)+ds v<=M
end Tr
namespace Tr
open O
noncomputable def nO:Tr->O
 | z=> .z
 | c b r=>kR (.c (nO b) 1 .z) (nO r)
noncomputable def app:Tr->Tr->Tr
 | z,u=>u
 | c b r,u=>c b (app r u)
noncomputable def sT:Tr->Nat->Option Tr
 | z,_=>none
 | c b _,0=>some b
 | c _ r,i+1=>sT r i
noncomputable def sU:Tr->Nat->Tr->Tr
 | z,_,_=>z
 | c _ r,0,u=>app u r
 | c b r,i+1,u=>c b (sU r i u)
noncomputable def A0 (b:Tr):Nat->Tr
 | 0=>z
 | n+1=>c b (A0 b n)
noncomputable def vD (m:Nat):Tr->List Nat->Tr
 | t,[]=>t
 | t,[i]=>sU t i z
 | t,[i,j]=>match sT t i with
   | some b=>sU t i (A0 (sU b j z) (1+m))
   | none=>t
 | t,i::j::k::w=>match sT t i with
   | some b=>sU t i (c (vD m b (j::k::w)) z)
   | none=>t
end Tr
namespace Tr
open O
end Tr
namespace Tr
open O
end Tr
namespace Tr
end Tr
namespace Tr
open O
end Tr
namespace Tr
noncomputable def Ef:Tr->Bool
 | z=>true
 | c _ _=>false
noncomputable def bare:Tr->Nat
 | z=>0
 | c b r=>(if Ef b=true then 1 else bare b)+bare r
end Tr
namespace O
inductive Ru (n:Int):O->O->Prop
 | less {a:O}:a≠ .z->cC a=.z->Ru n a (e9 a)
 | succ {a:O}:a≠ .z->cC a≠ .z->cC (cC a)=.z->Ru n a (O.app (e9 a) (.c (e9 (cC a)) n .z))
 | lim {a o:O}:a≠ .z->cC a≠ .z->cC (cC a)≠ .z->Ru n (cC a) o->Ru n a (O.app (e9 a) (.c o 1 .z))
end O
namespace Tr
open O
noncomputable def vE (t:Tr) (i:Nat) (b:Tr):Prop:=sT t i=some b/\∀j d,sT t j=some d->(j<=i->0<=cmp (nO d) (nO b))/\(i<j->0<cmp (nO d) (nO b))
noncomputable def DS:Tr->List Nat->Prop
 | t,[]=>t=z
 | t,i::w=>∃b,vE t i b/\DS b w
end Tr
namespace O
end O
namespace O
structure Bd (d s:Nat) (m:Int) (o:O):Prop where
 nf:o.NF
 dp:o.dp<=d
 sz:o.size<=s
 mx:O.mx o<=m
end O
namespace O
end O
namespace O
end O
namespace O
theorem len_app:∀a b:O,(app a b).len=a.len+b.len
 | z,b=>by simp [app,len]
 | c e n r,b=>by
   have:=len_app r b;show (app r b).len+1=r.len+1+b.len;omega
end O
namespace O
end O
namespace O
noncomputable def e1:O:=c z 1 z
inductive DT (B k l:Nat):Prop
 | two:B=2->k=16->l<2->DT B k l
 | three:B=3->k=27->l<3->DT B k l
end O
namespace O
end O
namespace O
inductive Dn (f:Nat->Int) (a:O):List O->O->Prop where
 | one:Dn f a [a] a
 | step {os:List O} {b o:O} (h:Dn f a os b) (hb:b≠z) (l:yV b (f (os.length-1)) o):Dn f a (os++[o]) o
end O
namespace Tr
instance decZ:(t:Tr)->Decidable (t=z)
 | z=> .isTrue rfl
 | c _ _=> .isFalse (λh=>by cases h)
noncomputable def BL:List Tr->Tr
 | []=>z
 | [t]=>t
 | _::u::l=>BL (u::l)
noncomputable def step (ls:List Tr) (s:Nat):Option (List Tr):=
 if s=40/\BL ls=z/\ls.length<=41 then some (z::ls)
 else if s=41 then
  match ls with
  | t::u::l=>some (u.app (c t z)::l)
  | _=>none
 else none
structure Bg (ls:List Tr):Prop where
 ne:ls≠[]
 lo:BL ls=z∨∃b,ls=[c b z]
 len:ls.length<=42
noncomputable def DU:List Nat->Bool->Int->Int->Option (Int×Int)
 | [],_,d,m=>some (d,m)
 | s::cs,f,d,m=>
   if ¬(s=40∨s=41)∨(f=false/\d=0) then none
   else
    let d':=d+1-2*(if s=41 then 1 else 0)
    if d'<0 then none else DU cs false d' (max m d')
noncomputable def rt (l:List Nat):Bool:=match DU l true 0 0 with
 | none=>false
 | some (d,m)=>decide (l≠[])&&decide (d=0)&&decide (l.length<=1200)&&decide (m<=41)
end Tr
namespace Tr
open O
inductive CD (f:Nat->Nat) (t:Tr):List Tr->Tr->Prop
 | one:CD f t [t] t
 | step {ts:List Tr} {u:Tr} {w:List Nat} (h:CD f t ts u) (hz:u≠z) (hw:w≠[]) (hl:DS u w) (hp:pts (vD (f (ts.length-1)) u w)<=60):CD f t (ts++[vD (f (ts.length-1)) u w]) (vD (f (ts.length-1)) u w)
section
variable {f:Nat->Nat} {t u:Tr} {ts:List Tr}
end
end Tr
open O
mutual
inductive Rw (α:Type) where
 | set (b:α) (n:Int)
 | copy (b o:α)
 | add (b o:α)
 | less (b:α)
 | times (b:α) (rs:nZ α)
 | count (rs:nZ α) (n:Int)
inductive nZ (α:Type) where
 | nil
 | cons (r:Rw α) (rs:nZ α)
end
noncomputable def om:O:= .c (O.wh 1) 1 .z
section
variable {α:Type}
mutual
noncomputable def Rw.wt:Rw α->O
 | .times _ rs=>O.timesO (O.plusO rs.wt (O.wh 1)) om
 | .count rs n=>O.plusO (O.timesO (O.plusO rs.wt (O.wh 1)) (O.wh n)) (O.wh 1)
 | _=>O.wh 1
noncomputable def nZ.wt:nZ α->O
 | .nil=> .z
 | .cons r rs=>O.plusO rs.wt r.wt
end
mutual
noncomputable def Rw.hb:Rw α->Nat
 | .times _ rs=>rs.hb+2
 | .count rs _=>rs.hb+3
 | _=>1
noncomputable def nZ.hb:nZ α->Nat
 | .nil=>0
 | .cons r rs=>rs.hb+r.hb
end
mutual
noncomputable def Rw.mb:Rw α->Nat
 | .times _ rs=>(rs.mb+2)*2
 | .count rs n=>(rs.mb+2)*(n.toNat+1)+1
 | _=>1
noncomputable def nZ.mb:nZ α->Nat
 | .nil=>0
 | .cons r rs=>rs.mb+r.mb
end
mutual
noncomputable def Rw.lb:Rw α->Nat
 | .count rs _=>rs.lb+2
 | _=>1
noncomputable def nZ.lb:nZ α->Nat
 | .nil=>0
 | .cons r rs=>rs.lb+r.lb
end
mutual
noncomputable def Rw.nn:Rw α->Prop
 | .times _ rs=>rs.nn
 | .count rs n=>rs.nn/\0<=n
 | _=>True
noncomputable def nZ.nn:nZ α->Prop
 | .nil=>True
 | .cons r rs=>r.nn/\rs.nn
end
mutual
noncomputable def Rw.dt:Rw α->Nat
 | .times _ rs=>rs.dt+1
 | .count rs _=>rs.dt+1
 | _=>0
noncomputable def nZ.dt:nZ α->Nat
 | .nil=>0
 | .cons r rs=>max r.dt rs.dt
end
structure Wb (o:O) (h m l:Nat):Prop where
 nf:o.NF
 dp:o.dp<=3
 hw:O.hw o<=h
 mx:O.mx o<=m
 ln:o.len<=l
theorem iZ (a b:O):(O.plusO a b).len<=a.len+b.len:=by
 cases b with
 | z=>show a.len<=_;omega
 | c e n r=>
   rw [O.plus_c,O.len_app'];have:=O.len_filt' (λx _=>decide (0<O.cmp x e)) a;show _+(r.len+1)<=a.len+(r.len+1);omega
theorem Wb.wh {n:Int} (h:0<=n):Wb (O.wh n) 1 n.toNat 1:=by
 by_cases h0:n=0
 ·subst h0;exact ⟨trivial,Nat.zero_le _,Nat.zero_le _,Int.le_refl _,Nat.zero_le _⟩
 ·rw [O.wh_pos (by omega)];refine ⟨⟨trivial,by omega,trivial,trivial⟩,Nat.le_of_ble_eq_true rfl,Nat.le_of_ble_eq_true rfl,?_,Nat.le_of_ble_eq_true rfl⟩;show max n (max 0 0)<=_;omega
theorem pC:O.NF om:=⟨O.NF.wh (by decide),by decide,trivial,trivial⟩
end
noncomputable def rk (os:List O) (o:O):Nat:=(os.filter λx=>decide (cmp x o<0)).length
theorem jY {α:Type} {p q:α->Bool}:∀{l:List α},(∀x,x∈l->p x=true->q x=true)->(l.filter p).length<=(l.filter q).length
 | [],_=>Nat.le_refl _
 | x::l,h=>by
   have ih:=jY (p:=p) (q:=q) (l:=l) λy hy=>h y (List.mem_cons_of_mem _ hy);have hx:=h x List.mem_cons_self;rw [List.filter_cons,List.filter_cons]
   by_cases e:p x=true
   ·rw [if_pos e,if_pos (hx e)];simp only [List.length_cons];omega
   ·rw [if_neg e];split
    ·simp only [List.length_cons];omega
    ·exact ih
theorem gM {α:Type} {p q:α->Bool}:∀{l:List α} {a:α},a∈l->p a=false->q a=true->(∀x,x∈l->p x=true->q x=true)->(l.filter p).length<(l.filter q).length
 | x::l,a,ha,h1,h2,h=>by
   rw [List.filter_cons,List.filter_cons];rcases List.mem_cons.mp ha with rfl | ha
   ·have ih:=jY (p:=p) (q:=q) (l:=l) λy hy=>h y (List.mem_cons_of_mem _ hy);rw [if_neg (by rw [h1];exact Bool.false_ne_true),if_pos h2];simp only [List.length_cons];omega
   ·have ih:=gM (p:=p) (q:=q) ha h1 h2 λy hy=>h y (List.mem_cons_of_mem _ hy);have hx:=h x List.mem_cons_self
    by_cases e:p x=true
    ·rw [if_pos e,if_pos (hx e)];simp only [List.length_cons];omega
    ·rw [if_neg e];split
     ·simp only [List.length_cons];omega
     ·exact ih
theorem pD {os:List O} {a b:O} (ha:a∈os) (h:cmp a b<0):rk os a<rk os b:=by
 unfold rk;refine gM ha ?_ (decide_eq_true h) λx _ hx=>?_
 ·rw [cmp_self];rfl
 ·exact decide_eq_true (bP x a b (of_decide_eq_true hx) h)
theorem yW {os:List O} {a:O} (ha:a∈os):rk os a<os.length:=by
 have h:=gM (p:=λx=>decide (cmp x a<0)) (q:=λ_=>true) ha (by rw [cmp_self];rfl) rfl λ_ _ _=>rfl;have e:(os.filter λ_=>true)=os:=List.filter_eq_self.mpr λ_ _=>rfl;unfold rk;rw [e] at h;exact h
theorem sV {os:List O} {a b:O} (ha:a∈os) (hb:b∈os):rk os a<rk os b↔cmp a b<0:=by
 constructor
 ·intro h;rcases cmp_range a b with e | e | e
  ·omega
  ·rw [cmp_eq a b e] at h;omega
  ·have:cmp b a<0:=by rw [bh];omega
   have:=pD hb this;omega
 ·exact pD ha
theorem yX {os:List O} {a b:O} (ha:a∈os) (hb:b∈os) (h:rk os a=rk os b):a=b:=by
 rcases cmp_range a b with e | e | e
 ·have:=pD ha (show cmp a b<0 by omega);omega
 ·exact cmp_eq a b e
 ·have:=pD hb (show cmp b a<0 by rw [bh];omega);omega
theorem pE {α:Type} [DecidableEq α]:∀{l m:List α},l.Nodup->(∀x,x∈l->x∈m)->m.length=l.length->l.Perm m
 | [],m,_,_,e=>by rw [List.eq_nil_of_length_eq_zero e]
 | x::l,m,hn,hs,e=>by
   rw [List.nodup_cons] at hn;have hx:=hs x List.mem_cons_self;have h1:=List.perm_cons_erase hx;refine List.Perm.trans (List.Perm.cons x (pE (m:=m.erase x) hn.2 (λy hy=>?_) ?_)) h1.symm
   ·exact (List.mem_erase_of_ne (λ(z:y=x)=>hn.1 (by rw [←z];exact hy))).mpr (hs y (List.mem_cons_of_mem _ hy))
   ·rw [List.length_erase_of_mem hx,e];rfl
noncomputable def cX (l:List O):Prop:=l.Pairwise λa b=>cmp b a<0
theorem vF {os:List O} {n:Nat} (hn:os.length=n) (hd:os.Nodup) {p:List Nat} (hp:(p.map λi=>(os.map (rk os)).getD i 0)=List.range n) (hi:∀i,i∈p->i<n):
 cX ((p.map λi=>os.getD i .z).reverse)/\((p.map λi=>os.getD i .z).reverse).Perm os:=by
 have hm:∀i,i∈p->os.getD i .z∈os:=λi h=>by
  have hi':=hi i h;rw [List.getD_eq_getElem?_getD,List.getElem?_eq_getElem (by omega)];exact List.getElem_mem _
 have he:∀i,i∈p->(os.map (rk os)).getD i 0=rk os (os.getD i .z):=λi h=>by
  have hi':=hi i h;rw [List.getD_eq_getElem?_getD,List.getD_eq_getElem?_getD,List.getElem?_map,List.getElem?_eq_getElem (by omega)]
  rfl
 have hr:(p.map λi=>os.getD i .z).map (rk os)=List.range n:=by
  rw [List.map_map,←hp];exact List.map_congr_left λi h=>(he i h).symm
 have hmem:∀x,x∈(p.map λi=>os.getD i .z)->x∈os:=λx hx=>by
  obtain ⟨i,h1,rfl⟩:=List.mem_map.mp hx;exact hm i h1
 generalize (p.map λi=>os.getD i .z)=asc at hr hmem;have hlen:asc.length=n:=by have:=congrArg List.length hr;simpa using this
 have hpw:asc.Pairwise λa b=>cmp a b<0:=by
  have h1:(asc.map (rk os)).Pairwise (·< ·):=by rw [hr];exact List.pairwise_lt_range
  rw [List.pairwise_map] at h1;exact h1.imp_of_mem λ{a b} ha hb h=>(sV (hmem a ha) (hmem b hb)).mp h
 constructor
 ·unfold cX;rw [List.pairwise_reverse];exact hpw
 ·refine (List.reverse_perm asc).trans (pE ?_ hmem (by omega));exact hpw.imp λ{a b} h z=>by rw [z,cmp_self] at h;omega
mutual
inductive Rq (α:Type) where
 | set (b:α) (n:Int)
 | copy (b o:α)
 | add (b o:α)
 | less (b:α)
 | times (b:α) (rs:aN α)
 | count (rs:aN α) (n:Int)
 | whl (b:α) (hs:List (O×List α)) (rs:aN α)
 | bear (b:α) (hs:List (O×List α)) (rs:aN α) (o:O)
inductive aN (α:Type) where
 | nil
 | cons (r:Rq α) (rs:aN α)
end
section
variable {α:Type}
noncomputable def xv:List (O×List α)->O
 | []=> .z
 | p::_=>O.plusO p.1 (O.wh 1)
noncomputable def hpw (hs:List (O×List α)):O:= .c (xv hs) 1 .z
mutual
noncomputable def Rq.wt:Rq α->O
 | .times _ rs=>O.timesO (O.plusO rs.wt (O.wh 1)) om
 | .count rs n=>O.plusO (O.timesO (O.plusO rs.wt (O.wh 1)) (O.wh n)) (O.wh 1)
 | .whl _ hs rs=>O.plusO (O.timesO (O.plusO rs.wt (O.wh 2)) (hpw hs)) (O.wh 1)
 | .bear _ _ rs o=>O.plusO (O.timesO (O.plusO rs.wt (O.wh 2)) o) (O.wh 1)
 | _=>O.wh 1
noncomputable def aN.wt:aN α->O
 | .nil=> .z
 | .cons r rs=>O.plusO rs.wt r.wt
end
noncomputable def aN.rnd (rs:aN α):O:=O.plusO rs.wt (O.wh 1)
noncomputable def aN.rnw (rs:aN α):O:=O.plusO rs.wt (O.wh 2)
mutual
noncomputable def Rq.hb:Rq α->Nat
 | .times _ rs=>rs.hb+2
 | .count rs _=>rs.hb+3
 | .whl _ hs rs=>rs.hb+hw (hpw hs)+2
 | .bear _ _ rs o=>rs.hb+hw o+2
 | _=>1
noncomputable def aN.hb:aN α->Nat
 | .nil=>0
 | .cons r rs=>rs.hb+r.hb
end
mutual
noncomputable def Rq.mb:Rq α->Nat
 | .times _ rs=>(rs.mb+2)*2
 | .count rs n=>(rs.mb+2)*(n.toNat+1)+1
 | .whl _ hs rs=>(rs.mb+3)*((mx (hpw hs)).toNat+1)+1
 | .bear _ _ rs o=>(rs.mb+3)*((mx o).toNat+1)+1
 | _=>1
noncomputable def aN.mb:aN α->Nat
 | .nil=>0
 | .cons r rs=>rs.mb+r.mb
end
mutual
noncomputable def Rq.lb:Rq α->Nat
 | .count rs _=>rs.lb+2
 | .whl _ hs rs=>match hs with
   | []=>rs.lb+2
   | _::_=>2
 | .bear _ _ rs o=>rs.lb+1+o.len+1
 | _=>1
noncomputable def aN.lb:aN α->Nat
 | .nil=>0
 | .cons r rs=>rs.lb+r.lb
end
noncomputable def sW (d:Nat) (hs:List (O×List α)):Prop:=∀p,p∈hs->p.1.NF/\p.1.dp<=d/\O.hw p.1<=100
mutual
noncomputable def Rq.nn:Rq α->Prop
 | .times _ rs=>rs.nn
 | .count rs n=>rs.nn/\0<=n
 | .whl _ hs rs=>rs.nn/\sW 3 hs
 | .bear _ hs rs o=>rs.nn/\sW 3 hs/\o.NF/\o.dp<=4
 | _=>True
noncomputable def aN.nn:aN α->Prop
 | .nil=>True
 | .cons r rs=>r.nn/\rs.nn
end
mutual
noncomputable def Rq.dt:Rq α->Nat
 | .times _ rs=>rs.dt+1
 | .count rs _=>rs.dt+1
 | .whl _ _ rs=>rs.dt+1
 | .bear _ _ rs _=>rs.dt+1
 | _=>0
noncomputable def aN.dt:aN α->Nat
 | .nil=>0
 | .cons r rs=>max r.dt rs.dt
end
noncomputable def aN.L:aN α->List (Rq α)
 | .nil=>[]
 | .cons r rs=>r::rs.L
noncomputable def aN.of:List (Rq α)->aN α
 | []=> .nil
 | r::rs=> .cons r (aN.of rs)
theorem aN.of_L:∀rs:aN α,aN.of rs.L=rs
 | .nil=>rfl
 | .cons r rs=>by rw [aN.L,aN.of,aN.of_L rs]
theorem aN.L_of:∀rs:List (Rq α),(aN.of rs).L=rs
 | []=>rfl
 | r::rs=>by rw [aN.of,aN.L,aN.L_of rs]
noncomputable def dJ:List (Rq α)->O
 | []=> .z
 | r::rs=>O.plusO (dJ rs) r.wt
theorem pF:∀rs:List (Rq α),(aN.of rs).wt=dJ rs
 | []=>rfl
 | r::rs=>by rw [aN.of,aN.wt,dJ,pF rs]
structure Wq (o:O) (h m l:Nat):Prop where
 nf:o.NF
 dp:o.dp<=4
 hw:O.hw o<=h
 mx:O.mx o<=m
 ln:o.len<=l
theorem Wq.plus {a b:O} {h m l h' m' l':Nat} (x:Wq a h m l) (y:Wq b h' m' l'):Wq (O.plusO a b) (h+h') (m+m') (l+l'):=by
 refine ⟨x.nf.plus y.nf,?_,?_,?_,?_⟩
 ·exact Nat.le_trans (O.dp_plus a b) (Nat.max_le.mpr ⟨x.dp,y.dp⟩)
 ·have:=O.hw_plus a b;have:=x.hw;have:=y.hw;omega
 ·have:=O.mx_plus (b:=b) x.nf;have:=x.mx;have:=y.mx;omega
 ·have:=iZ a b;have:=x.ln;have:=y.ln;omega
theorem Wq.z:Wq .z 0 0 0:=⟨trivial,Nat.zero_le _,Nat.le_refl _,Int.le_refl _,Nat.le_refl _⟩
theorem Wq.of {o:O} {h m l:Nat} (x:Wb o h m l):Wq o h m l:=⟨x.nf,Nat.le_succ_of_le x.dp,x.hw,x.mx,x.ln⟩
theorem Wq.wh {n:Int} (h:0<=n):Wq (O.wh n) 1 n.toNat 1:= .of (.wh h)
theorem lX (e:O) (n:Int) (r:O):∀b:O,(O.mulP e n r b).len<=r.len+1+b.len
 | .z=>Nat.zero_le _
 | .c f d t=>by
   rw [O.mulP_c];split
   ·show r.len+1<=r.len+1+(t.len+1);omega
   ·have:=lX e n r t;show (O.mulP e n r t).len+1<=r.len+1+(t.len+1);omega
theorem gP (a b:O):(O.timesO a b).len<=a.len+b.len:=by
 cases a with
 | z=>exact Nat.zero_le _
 | c e n r=>exact lX e n r b
theorem Wq.times {a b:O} {h m l:Nat} (x:Wq a h m l) (hb:b.NF) (hd:b.dp<=4) {k:Nat} (hk:(O.timesO a b).len<=k):Wq (O.timesO a b) (h+O.hw b) ((m+1)*((O.mx b).toNat+1)) k:=by
 refine ⟨x.nf.times hb,?_,?_,?_,hk⟩
 ·exact Nat.le_trans (O.dp_times a b) (Nat.max_le.mpr ⟨x.dp,hd⟩)
 ·have:=O.hw_times a b;have:=x.hw;omega
 ·have h1:=O.times_mx x.nf hb;have h2:=x.mx;have h5:=O.mx_nonneg b;have h3:(O.mx a+1)*(O.mx b+1)<=((m:Int)+1)*(((O.mx b).toNat:Int)+1):=Int.mul_le_mul (by omega) (by omega) (by omega) (by omega);have h4:(((m+1)*((O.mx b).toNat+1):Nat):Int)=((m:Int)+1)*(((O.mx b).toNat:Int)+1):=by simp
  omega
theorem Wq.omega {a:O} {h m l:Nat} (x:Wq a h m l):Wq (O.timesO a om) (h+1) ((m+1)*2) 1:=by
 refine x.times (b:=om) pC (by decide) ?_;cases a with
 | z=>exact Nat.zero_le _
 | c e n r=>
   show (O.mulP e n r (.c (O.wh 1) 1 .z)).len<=1;rw [O.mulP_c,if_neg (by decide)];exact Nat.le_refl _
theorem Wq.many {a:O} {h m l:Nat} (x:Wq a h m l) {n:Int} (hn:0<=n):Wq (O.timesO a (O.wh n)) (h+1) ((m+1)*(n.toNat+1)) l:=by
 have y:=Wb.wh hn;have hk:(O.timesO a (O.wh n)).len<=l:=by
  by_cases h0:n=0
  ·subst h0;rw [show O.wh 0=.z from rfl,O.times_z];exact Nat.zero_le _
  ·rw [O.wh_pos (by omega)];cases a with
   | z=>exact Nat.zero_le _
   | c e k r=>
     show (O.mulP e k r (.c .z n .z)).len<=l;rw [O.mulP_c,if_pos rfl];exact x.ln
 have z:=x.times y.nf (Nat.le_succ_of_le y.dp) hk;refine ⟨z.nf,z.dp,Nat.le_trans z.hw (Nat.add_le_add_left y.hw _),Int.le_trans z.mx ?_,z.ln⟩;have h5:=y.mx;exact Int.ofNat_le.mpr (Nat.mul_le_mul_left _ (by omega))
theorem sX {hs:List (O×List α)} (h:sW 3 hs):(xv hs).NF/\(xv hs).dp<=3:=by
 cases hs with
 | nil=>exact ⟨trivial,Nat.zero_le _⟩
 | cons p hs=>
   obtain ⟨h1,h2,_⟩:=h p List.mem_cons_self;have y:=Wb.wh (n:=1) (by decide);exact ⟨h1.plus y.nf,Nat.le_trans (O.dp_plus p.1 (O.wh 1)) (Nat.max_le.mpr ⟨h2,y.dp⟩)⟩
theorem sY {hs:List (O×List α)} (h:sW 3 hs):(hpw hs).NF/\(hpw hs).dp<=4:=by
 obtain ⟨h1,h2⟩:=sX h;refine ⟨⟨h1,by decide,trivial,trivial⟩,?_⟩;show max ((xv hs).dp+1) 0<=4;omega
theorem yY (p:O×List α) (hs:List (O×List α)):xv (p::hs)≠ .z:=by
 show O.plusO p.1 (O.wh 1)≠ .z;rw [O.wh_pos (by decide),O.plus_c];intro h;have:=congrArg O.len h;rw [O.len_app'] at this;simp [O.len] at this
theorem vG (a:O) (hs:List (O×List α)):(O.timesO a (hpw hs)).len<=match hs with
 | []=>a.len
 | _::_=>1:=by
 cases a with
 | z=>exact Nat.zero_le _
 | c e n r=>
   cases hs with
   | nil=>
     show (O.mulP e n r (.c .z 1 .z)).len<=_;rw [O.mulP_c,if_pos rfl];exact Nat.le_refl _
   | cons p hs=>
     show (O.mulP e n r (.c (xv (p::hs)) 1 .z)).len<=1;rw [O.mulP_c,if_neg (yY p hs)];exact Nat.le_refl _
mutual
theorem Rq.wq:∀r:Rq α,r.nn->Wq r.wt r.hb r.mb r.lb
 | .set _ _,_=>Wq.wh (n:=1) (by decide)
 | .copy _ _,_=>Wq.wh (n:=1) (by decide)
 | .add _ _,_=>Wq.wh (n:=1) (by decide)
 | .less _,_=>Wq.wh (n:=1) (by decide)
 | .times _ rs,h=>by
   have:=((aN.wq rs h).plus (Wq.wh (n:=1) (by decide))).omega;exact this
 | .count rs n,h=>by
   have:=(((aN.wq rs h.1).plus (Wq.wh (n:=1) (by decide))).many h.2).plus (Wq.wh (n:=1) (by decide));exact this
 | .whl _ hs rs,h=>by
   obtain ⟨h1,h2⟩:=sY h.2;have x:=(aN.wq rs h.1).plus (Wq.wh (n:=2) (by decide));have y:=(x.times h1 h2 (vG _ hs)).plus (Wq.wh (n:=1) (by decide));refine ⟨y.nf,y.dp,?_,y.mx,?_⟩
   ·refine Nat.le_trans y.hw ?_;show _<=rs.hb+O.hw (hpw hs)+2;omega
   ·have h3:=y.ln;cases hs with
    | nil=>
      have h4:=x.ln;simp only at h3;show _<=rs.lb+2;exact Nat.le_trans h3 (by omega)
    | cons p hs=>exact h3
 | .bear _ _ rs o,h=>by
   have x:=(aN.wq rs h.1).plus (Wq.wh (n:=2) (by decide));have y:=(x.times h.2.2.1 h.2.2.2 (Nat.le_trans (gP _ o) (Nat.add_le_add_right x.ln _))).plus (Wq.wh (n:=1) (by decide));refine ⟨y.nf,y.dp,?_,y.mx,y.ln⟩;refine Nat.le_trans y.hw ?_;show _<=rs.hb+O.hw o+2;omega
theorem aN.wq:∀rs:aN α,rs.nn->Wq rs.wt rs.hb rs.mb rs.lb
 | .nil,_=>Wq.z
 | .cons r rs,h=>(aN.wq rs h.2).plus (Rq.wq r h.1)
end
theorem aN.rb {rs:aN α} (h:rs.nn):Wq rs.rnd (rs.hb+1) (rs.mb+1) (rs.lb+1):=(rs.wq h).plus (Wq.wh (n:=1) (by decide))
theorem aN.rbw {rs:aN α} (h:rs.nn):Wq rs.rnw (rs.hb+1) (rs.mb+2) (rs.lb+1):=(rs.wq h).plus (Wq.wh (n:=2) (by decide))
noncomputable def insO (o:O):List O->List O
 | []=>[o]
 | x::l=>if cmp o x=0 then x::l else if cmp o x=1 then o::x::l else x::insO o l
theorem mem_insO {x o:O}:∀{l:List O},x∈insO o l↔x=o∨x∈l
 | []=>by simp [insO]
 | y::l=>by
   unfold insO;split
   ·rename_i h;have:=cmp_eq o y h;subst this;simp
   ·split
    ·simp
    ·rw [List.mem_cons,List.mem_cons,mem_insO (l:=l)];constructor
     ·rintro (h | h | h)
      ·exact .inr (.inl h)
      ·exact .inl h
      ·exact .inr (.inr h)
     ·rintro (h | h | h)
      ·exact .inr (.inl h)
      ·exact .inl h
      ·exact .inr (.inr h)
theorem cX.insO {o:O}:∀{l:List O},cX l->cX (insO o l)
 | [],_=>List.pairwise_singleton _ _
 | y::l,h=>by
   obtain ⟨h1,h2⟩:=List.pairwise_cons.mp h;unfold Nm.insO;split
   ·exact h
   ·rename_i e0;split
    ·rename_i e1;refine List.pairwise_cons.mpr ⟨λx hx=>?_,h⟩;have e2:cmp y o<0:=by rw [bh,e1];decide
     rcases List.mem_cons.mp hx with rfl | hx
     ·exact e2
     ·exact bP x y o (h1 x hx) e2
    ·rename_i e1;refine List.pairwise_cons.mpr ⟨λx hx=>?_,cX.insO h2⟩;rcases mem_insO.mp hx with rfl | hx
     ·rcases cmp_range x y with e | e | e<;> omega
     ·exact h1 x hx
noncomputable def pG (l:List O):List O:=l.foldr insO []
theorem mem_descO {x:O}:∀{l:List O},x∈pG l↔x∈l
 | []=>Iff.rfl
 | y::l=>by
   show x∈insO y (pG l)↔_;rw [mem_insO,mem_descO (l:=l),List.mem_cons]
theorem i9:∀l:List O,cX (pG l)
 | []=>List.Pairwise.nil
 | _::l=>(i9 l).insO
theorem cX.uniq:∀{l m:List O},cX l->cX m->(∀x,x∈l↔x∈m)->l=m
 | [],[],_,_,_=>rfl
 | [],y::m,_,_,h=>(nomatch (h y).mpr List.mem_cons_self)
 | x::l,[],_,_,h=>(nomatch (h x).mp List.mem_cons_self)
 | x::l,y::m,h1,h2,h=>by
   obtain ⟨a1,a2⟩:=List.pairwise_cons.mp h1;obtain ⟨b1,b2⟩:=List.pairwise_cons.mp h2;have e:x=y:=by
    rcases List.mem_cons.mp ((h x).mp List.mem_cons_self) with e | e
    ·exact e
    ·rcases List.mem_cons.mp ((h y).mpr List.mem_cons_self) with e' | e'
     ·exact e'.symm
     ·have p:=b1 x e;have q:=a1 y e';rw [bh] at q;omega
   subst e;have:=cX.uniq (l:=l) (m:=m) a2 b2 λz=>by
    constructor
    ·intro hz;rcases List.mem_cons.mp ((h z).mp (List.mem_cons_of_mem _ hz)) with rfl | e
     ·have:=a1 z hz;rw [cmp_self] at this;omega
     ·exact e
    ·intro hz;rcases List.mem_cons.mp ((h z).mpr (List.mem_cons_of_mem _ hz)) with rfl | e
     ·have:=b1 z hz;rw [cmp_self] at this;omega
     ·exact e
   rw [this]
noncomputable def cr (ms:List (O×α)) (o:O):List α:=(ms.filter λm=>decide (m.1=o)).map (·.2)
theorem ja (ms:List (O×α)) (m:O×α) (o:O):cr (ms++[m]) o=cr ms o++(if m.1=o then [m.2] else []):=by
 unfold cr;rw [List.filter_append,List.map_append]
 congr 1
 by_cases h:m.1=o
 ·rw [if_pos h,List.filter_cons_of_pos (by simpa using h)];rfl
 ·rw [if_neg h,List.filter_cons_of_neg (by simpa using h)];rfl
theorem og {ms:List (O×α)} {o:O} (h:o∉ms.map (·.1)):cr ms o=[]:=by
 unfold cr;rw [List.filter_eq_nil_iff.mpr λm hm=>by simp only [decide_eq_true_eq];exact λe=>h (List.mem_map.mpr ⟨m,hm,e⟩)]
 rfl
noncomputable def re (ms:List (O×α)):List (O×List α):=(pG (ms.map (·.1))).map λo=>(o,cr ms o)
theorem oh {ms:List (O×α)} {ks:List O} (h1:cX ks) (h2:∀o,o∈ks↔o∈ms.map (·.1)):(ks.map λo=>(o,cr ms o))=re ms:=by
 unfold re;rw [cX.uniq h1 (i9 _) λx=>(h2 x).trans mem_descO.symm]
end
section
variable {α:Type}
noncomputable def fM (g:α->Int):List α->Int
 | []=>0
 | n::ns=>g n+fM g ns
theorem kS {g:α->Int} (h:∀x,0<=g x):∀l:List α,0<=fM g l
 | []=>Int.le_refl _
 | n::ns=>by have:=kS h ns;have:=h n;simp only [fM];omega
theorem pH {g:α->Int} {B:Int} (h:∀x,g x<=B):∀l:List α,fM g l<=l.length*B
 | []=>by simp [fM]
 | n::ns=>by
   have:=pH h ns;have:=h n;simp only [fM,List.length_cons];rw [Int.natCast_succ,Int.add_mul];omega
noncomputable def bB (g:α->Int):List (O×List α)->O
 | []=> .z
 | p::hs=>if fM g p.2=0 then bB g hs else .c p.1 (fM g p.2) (bB g hs)
theorem gd (g:α->Int):∀hs:List (O×List α),(bB g hs).len<=hs.length
 | []=>Nat.le_refl _
 | p::hs=>by
   have:=gd g hs;unfold bB;split
   ·rw [List.length_cons];omega
   ·simp only [O.len,List.length_cons];omega
theorem pI {g:α->Int} {x:O}:∀{hs:List (O×List α)},(∀p,p∈hs->cmp p.1 x<0)->Lt x (bB g hs)
 | [],_=>trivial
 | p::hs,h=>by
   have ih:=pI (g:=g) (x:=x) (hs:=hs) λq hq=>h q (List.mem_cons_of_mem _ hq);unfold bB;split
   ·exact ih
   ·exact ⟨h p List.mem_cons_self,ih⟩
theorem pJ {g:α->Int} (hg:∀x,0<=g x):∀{hs:List (O×List α)},sW 3 hs->cX (hs.map (·.1))->NF (bB g hs)
 | [],_,_=>trivial
 | p::hs,h,hd=>by
   rw [List.map_cons] at hd;obtain ⟨d1,d2⟩:=List.pairwise_cons.mp hd;have ih:=pJ hg (hs:=hs) (λq hq=>h q (List.mem_cons_of_mem _ hq)) d2;have hs0:=kS hg p.2;unfold bB;split
   ·exact ih
   ·exact ⟨(h p List.mem_cons_self).1,by omega,pI λq hq=>d1 q.1 (List.mem_map.mpr ⟨q,hq,rfl⟩),ih⟩
theorem jZ {g:α->Int} {B:Int} {n:Nat} {M:Int} (hg:∀x,0<=g x/\g x<=B) (hM:0<=M):∀{hs:List (O×List α)},sW 3 hs->(∀p,p∈hs->p.2.length<=n/\mx p.1<=M)->(bB g hs).dp<=4/\hw (bB g hs)<=max hs.length 100/\mx (bB g hs)<=max M (n*B)
 | [],_,_=>by refine ⟨Nat.zero_le _,Nat.zero_le _,?_⟩;simp only [bB,mx];omega
 | p::hs,h,hb=>by
   obtain ⟨i1,i2,i3⟩:=jZ hg hM (hs:=hs) (λq hq=>h q (List.mem_cons_of_mem _ hq)) (λq hq=>hb q (List.mem_cons_of_mem _ hq));obtain ⟨h1,h2,h3⟩:=h p List.mem_cons_self;obtain ⟨b1,b2⟩:=hb p List.mem_cons_self;have hl:=gd g hs;unfold bB;split
   ·exact ⟨i1,by rw [List.length_cons];omega,i3⟩
   ·have hB:0<=B:=by
     cases hp:p.2 with
     | nil=>
       rename_i hne;rw [hp] at hne;exact absurd rfl hne
     | cons x _=>have:=hg x;omega
    have s1:=pH (λx=>(hg x).2) p.2;have s2:(p.2.length:Int)*B<=n*B:=Int.mul_le_mul_of_nonneg_right (by omega) hB;refine ⟨by simp only [O.dp];omega,?_,?_⟩
    ·rw [hw_c,List.length_cons];omega
    ·rw [mx_c];omega
theorem pK (g:α->Int):∀{hs:List (O×List α)},sW 3 hs->(bB g hs).dp<=4
 | [],_=>Nat.zero_le _
 | p::hs,h=>by
   have ih:=pK g (hs:=hs) λq hq=>h q (List.mem_cons_of_mem _ hq);have h2:=(h p List.mem_cons_self).2.1;unfold bB;split
   ·exact ih
   ·simp only [O.dp];omega
structure BM (hs:List (O×List α)):Prop where
 ln:hs.length<=100
 nm:∀p,p∈hs->p.2.length<=100
 ds:cX (hs.map (·.1))
mutual
noncomputable def Rq.od:Rq α->Prop
 | .times _ rs=>rs.od
 | .count rs _=>rs.od
 | .whl _ hs rs=>BM hs/\rs.od
 | .bear _ hs rs _=>BM hs/\rs.od
 | _=>True
noncomputable def aN.od:aN α->Prop
 | .nil=>True
 | .cons r rs=>r.od/\rs.od
end
end
section
variable {α:Type}
end
end Nm
namespace L2
open PySem PySem.Spec PyProof.Rows Nm
noncomputable def au:O->List W
 | .z=>[]
 | .c e n r=> .tup [.tup (au e),.int n]::au r
noncomputable def lu (o:O):W:= .tup (au o)
noncomputable def gn (e:O) (n:Int):W:= .tup [lu e,.int n]
theorem yZ:au .z=[]:=rfl
theorem bQ (e:O) (n:Int) (r:O):au (.c e n r)=gn e n::au r:=rfl
theorem aS:∀a:O,(au a).length=a.len
 | .z=>rfl
 | .c e n r=>by rw [bQ,List.length_cons,aS r];rfl
theorem sZ {e:O} {n:Int} (h:W.flats (au e)=true):(gn e n).flat=true:=by
 simp [gn,lu,W.flat,W.flats,h]
theorem bR:∀a:O,W.flats (au a)=true
 | .z=>by simp [au,W.flats]
 | .c e n r=>by
   rw [bQ];simp [W.flats,sZ (bR e),bR r]
theorem tf (a:O):(lu a).flat=true:=by simp [lu,W.flat,bR a]
theorem dY:∀a:O,W.deps (au a)<=2*a.dp
 | .z=>by simp [au,W.deps]
 | .c e n r=>by
   have h1:=dY e;have h2:=dY r;rw [bQ];simp only [W.deps,gn,lu,W.dep,O.dp];omega
theorem vH (a:O):(lu a).dep<=2*a.dp+1:=by
 have:=dY a;simp only [lu,W.dep];omega
theorem iz:∀a b:O,W.eqs (au a) (au b)=decide (a=b)
 | .z,.z=>by simp [au,W.eqs]
 | .z,.c _ _ _=>by simp [au,W.eqs]
 | .c _ _ _,.z=>by simp [au,W.eqs]
 | .c e n r,.c e' n' r'=>by
   have h1:=iz e e';have h2:=iz r r';simp only [au,W.eqs,W.eq_tup,W.eq_int,h1,h2,Bool.and_true];rw [Bool.eq_iff_iff];simp only [Bool.and_eq_true,decide_eq_true_eq,beq_iff_eq,O.c.injEq];constructor
   ·rintro ⟨⟨a,b⟩,c⟩;exact ⟨a,b,c⟩
   ·rintro ⟨a,b,c⟩;exact ⟨⟨a,b⟩,c⟩
theorem oi (a b:O):(lu a).eq (lu b)=decide (a=b):=iz a b
theorem y0 (e e':O) (n n':Int):(gn e n).eq (gn e' n')=(decide (e=e')&&decide (n=n')):=by
 have:=oi e e';simp only [gn,W.eq_tup,W.eq_int,W.eqs,this,Bool.and_true]
 congr 1
theorem oj (a b:O):(W.tup (au a)).eq (W.tup (au b))=decide (a=b):=oi a b
theorem cL (a:O):(W.tup (au a)).flat=true:=tf a
theorem eM (a:O):(W.tup (au a)).dep<=2*a.dp+1:=vH a
theorem lY {a b:O} (h:au a=au b):a=b:=by
 have:=iz a b;rw [h,W.eqs_refl _ (bR b)] at this;simpa using this.symm
theorem fb:∀a b:O,au (a.app b)=au a++au b
 | .z,b=>by simp [O.app,au]
 | .c e n r,b=>by
   show au (.c e n (r.app b))=_;rw [bQ,bQ,fb r b]
   rfl
theorem CF {α:Type} (x:α) (xs:List α):gE (x::xs) 0=some x:=by
 simp [gE,rM]
theorem CG {α:Type} (x y:α) (xs:List α):gE (x::y::xs) 1=some y:=by
 have h:(1:Int)<((xs.length:Int)+1+1):=by omega
 simp [gE,rM,h]
theorem tj (i:Int):(W.int i).flat=true:=by simp [W.flat]
theorem vI (i:Int):(W.int i).dep=0:=by simp [W.dep]
theorem ol (i j:Int):(W.int i).eq (W.int j)=(i==j):=rfl
theorem tm:(W.tup []).flat=true:=by simp [W.flat,W.flats]
theorem dz (a:O):(W.tup (au a)).eq (W.tup [])=decide (a=.z):=oi a .z
theorem CH (i j:Int):(i==j)=decide (i=j):=by
 by_cases h:i=j<;> simp [h]
theorem aL.done {G:Gp} {q:Gp->Prop} (h:q G):∃G0,aL G0 G/\q G0:=⟨G,aL.refl G,h⟩
theorem dZ {C:Gp->Prop} {g:WG} {tb:WS} {d:eW} (Iv:List W->dC->Gp->Prop) (stop:∀τ G,Iv [] τ G->C G/\d.nx τ G)
 (step:∀w ws τ G (k:dC->Gp->Prop),Iv (w::ws) τ G->(∀τ3 G3,Iv ws τ3 G3->k τ3 G3)->C G/\g w τ G λτ2 G2=>tb { d with nx:=k,ct:=k,bk:=d.nx } τ2 G2):∀ws τ G,Iv ws τ G->jO C g tb d ws τ G
 | [],τ,G,h=>stop τ G h
 | w::ws,τ,G,h=>step w ws τ G _ h λτ3 G3 h3=>dZ Iv stop step ws τ3 G3 h3
theorem jb:∀(a:O) (i:Nat),(au a)[i]?=(a.getP i).map λp=>gn p.1 p.2
 | .z,i=>by simp [au,O.getP]
 | .c e n r,0=>by rw [bQ];rfl
 | .c e n r,i+1=>by
   rw [bQ];simpa [O.getP] using jb r i
theorem kT {a:O} {i:Nat} {e:O} {n:Int} (h:a.getP i=some (e,n)):gE (au a) (i:Int)=some (gn e n):=oQ (by rw [jb,h];rfl)
theorem gQ:∀(i:Nat) (a:O),(au a).take i=au (O.takeO i a)
 | 0,a=>by simp [O.takeO,au]
 | i+1,.z=>by simp [au,O.takeO]
 | i+1,.c e n r=>by
   rw [bQ,List.take_succ_cons,gQ i r]
   rfl
theorem y6 (xs:List W) (k:Nat):dv xs none (some (k:Int))=xs.take k:=by
 unfold dv;rw [HT.sIx_none,HT.sIx_nat,List.drop_zero,Nat.sub_zero];rcases Nat.le_total k xs.length with h | h
 ·rw [Nat.min_eq_left h]
 ·rw [Nat.min_eq_right h,List.take_length,List.take_of_length_le h]
theorem lZ (xs:List W) (k:Nat):dv xs (some (k:Int)) none=xs.drop k:=by
 unfold dv;rw [HT.sIx_none,HT.sIx_nat];rcases Nat.le_total k xs.length with h | h
 ·rw [Nat.min_eq_left h];exact List.take_of_length_le (by rw [List.length_drop];omega)
 ·rw [Nat.min_eq_right h,List.drop_length,List.drop_of_length_le h];simp
theorem vJ (xs:List W):dv xs none (some (-1))=xs.take (xs.length-1):=by
 unfold dv;have e:HT.sIx xs.length xs.length (some (-1))=xs.length-1:=by
  show (if (-1:Int)<0 then ((-1:Int)+(xs.length:Int)).toNat else min (-1:Int).toNat xs.length)=_;rw [if_pos (by omega)];omega
 rw [HT.sIx_none,e,List.drop_zero,Nat.sub_zero]
theorem j6:∀a:O,O.takeO (a.len-1) a=O.init a
 | .z=>rfl
 | .c _ _ .z=>rfl
 | .c e n (.c e' n' r')=>by
   have h:=j6 (.c e' n' r');simp only [O.len,Nat.add_sub_cancel] at h ⊢;rw [O.takeO,h];simp [O.init]
theorem tq (a:O):dv (au a) none (some (-1))=au (O.init a):=by rw [vJ,aS,gQ,j6]
theorem tu:∀{a:O},a≠ .z->∃e n,O.last a=.c e n .z/\a.getP (a.len-1)=some (e,n)
 | .z,h=>absurd rfl h
 | .c e n .z,_=>⟨e,n,rfl,rfl⟩
 | .c e n (.c e' n' r'),_=>by
   obtain ⟨x,m,h1,h2⟩:=tu (a:= .c e' n' r') (by simp);refine ⟨x,m,?_,?_⟩
   ·rw [←h1];simp [O.last]
   ·simp only [O.len,Nat.add_sub_cancel] at h2 ⊢;rw [←h2];simp [O.getP]
theorem mf {xs:List W} {w:W} (h:xs[xs.length-1]?=some w):gE xs (-1)=some w:=by
 have hl:xs.length-1<xs.length:=(List.getElem?_eq_some_iff.mp h).1;unfold gE rM;rw [if_neg (by omega),if_pos (by omega)];show xs[((-1:Int)+(xs.length:Int)).toNat]?=some w;rw [←h]
 congr 1
 omega
theorem gf {a:O} {e:O} {n:Int} (h:a.getP (a.len-1)=some (e,n)):gE (au a) (-1)=some (gn e n):=mf (by rw [aS,jb,h];rfl)
theorem gh:∀a b:O,W.ords (au a) (au b)=true/\W.lts (au a) (au b)=decide (O.cmp a b<0)
 | .z,.z=>by simp [au,W.ords,W.lts,O.cmp]
 | .z,.c _ _ _=>by simp [au,W.ords,W.lts,O.cmp]
 | .c _ _ _,.z=>by simp [au,W.ords,W.lts,O.cmp]
 | .c e n r,.c e' n' r'=>by
   obtain ⟨o1,l1⟩:=gh e e';obtain ⟨o2,l2⟩:=gh r r';rw [bQ,bQ,W.ords,W.lts,y0]
   by_cases h:(decide (e=e')&&decide (n=n'))=true
   ·rw [if_pos h,if_pos h];have h':e=e'/\n=n':=by simpa using h
    obtain ⟨rfl,rfl⟩:=h';refine ⟨o2,?_⟩;rw [l2,O.cmp,if_neg (by rw [O.cmp_self];simp),if_neg (by omega),if_neg (by omega)]
   ·rw [if_neg h,if_neg h];have ee:(W.tup (au e)).eq (W.tup (au e'))=decide (e=e'):=oj e e';unfold gn lu;rw [W.ord,W.lt,W.ords,W.lts,ee]
    by_cases q:e=e'
    ·subst q;rw [if_pos (by simp),if_pos (by simp),W.ords,W.lts];have hn:¬n=n':=λz=>h (by simp [z]);rw [ol,if_neg (by simpa using hn),if_neg (by simpa using hn),W.ord,W.lt];refine ⟨rfl,?_⟩;rw [O.cmp,if_neg (by rw [O.cmp_self];simp)]
     by_cases k:n<n'
     ·rw [if_pos k];simp [k]
     ·rw [if_neg k,if_pos (by omega)];simp [k]
    ·rw [if_neg (by simpa using q),if_neg (by simpa using q),W.ord,W.lt];refine ⟨o1,?_⟩;rw [l1,O.cmp,if_pos (λz=>q (O.cmp_eq _ _ z))]
theorem j7 (a:O) (h:a.dp<=70):W.deps (au a)<=149:=by
 have:=dY a;omega
noncomputable def Df (K:PySem.W.Frag) (mg:Str->Option Value) (x:Str) (st:Stmt) (ps:List Str):Prop:=∃(f:Addr) (fd:FuncData),cM K x x st f fd/\bG K fd ps []/\mg x=some (.ref f)
theorem Df.fx {P:Program} {w:World} {K:PySem.W.Frag} {mg:Str->Option Value} {base:Heap} {x:Str} {st:Stmt} {ps:List Str} {k:Nat} {sp:bZ} (D:Df K mg x st ps) (h:∀(f:Addr) (fd:FuncData),cM K x x st f fd->cB P w K mg base k f fd ps sp):Fx P w K mg base x ps k sp:=by
 obtain ⟨f,fd,F,b,m⟩:=D;exact ⟨f,fd,h f fd F,m,F.kp,b⟩
theorem y7 {K:PySem.W.Frag} {H:Hp} {a:Addr} {ns:List Int} (hO:rO H) (hS:cW K H a (ns.map V.int)):wS K H a ns:=by
 rcases hS with (h | h) | h
 ·rcases hO a with z | ⟨o,xs,z⟩
  ·rw [z] at h;cases h
  ·rw [z] at h;cases h
 ·exact .inl h
 ·exact .inr h
theorem y8 (j:Int):yc 10 j=(0<=j/\j<=1000000):=by
 unfold yc;have:(10:Int).natAbs<2^64:=by decide
 simp [this]
theorem bt {t u:WS} {d:eW} {τ:dC} {G:Gp} (h:∀U:WS,U=u->t { d with nx:=U d } τ G):yx t u d τ G:=h u rfl
theorem aW {G:Gp} {a b:Addr} {g g':GO} (h:G b=some g') (ha:G a=none):aG G a g b=some g':=by
 rw [aq (λz=>by rw [z,ha] at h;cases h)];exact h
theorem jc (p:O->Int->Bool):∀a:O,(a.filt p).len<=a.len
 | .z=>Nat.le_refl _
 | .c e n r=>by
   have:=jc p r;rw [O.filt_c];split<;> simp only [O.len]<;> omega
theorem vK:nG "int" "int"=true:=by decide
theorem vL:nG "int" "bool"=false:=by decide
theorem pL:nG "list" "list"=true:=by decide
theorem y9 {c:WT} {tb:WS} {d:eW} {τ:dC} {G:Gp} (I:Nat->dC->Gp->Prop) (h0:∃m,I m τ G)
 (h:∀m τ G,I m τ G->∀B:WS,B=tb->c τ G λb G1=>if b=true then ∃N:dC->Gp->Prop,(∀τ1 G1,N τ1 G1->∃m1,m1<m/\I m1 τ1 G1)/\B { d with nx:=N,ct:=N,bk:=d.nx } τ G1 else d.nx τ G1):rX c tb d τ G:=
 ⟨I,h0,λm τ G hI=>h m τ G hI tb rfl⟩
noncomputable def oo (Pd:O->Int->Prop):O->Prop
 | .z=>True
 | .c e n r=>Pd e n/\oo Pd r
theorem oo.imp {Pd Pd':O->Int->Prop} (h:∀e n,Pd e n->Pd' e n):∀{a:O},oo Pd a->oo Pd' a
 | .z,_=>trivial
 | .c _ _ _,k=>⟨h _ _ k.1,oo.imp h k.2⟩
theorem pM:∀a:O,oo (λe _=>e.dp<a.dp/\O.hw e<=O.hw a) a
 | .z=>trivial
 | .c e n r=>⟨by rw [O.hw_c];simp only [O.dp];omega,(pM r).imp λx m h=>by rw [O.hw_c];simp only [O.dp];omega⟩
noncomputable def mapP (p:O->Int->Bool) (f:O->Int->W):O->List W
 | .z=>[]
 | .c e n r=>if p e n then f e n::mapP p f r else mapP p f r
theorem jd {C:Gp->Prop} {tt:WT} {te:WE} {i:Nat} {τ0:dC} {G:Gp} {q:List W->Gp->Prop} {Pd:O->Int->Prop} (p:O->Int->Bool) (f:O->Int->W) (hC:C G):∀{a:O} {acc:List W} {τ:dC},oo Pd a->
 (∀e n,Pd e n->∀k:Bool->Gp->Prop,k (p e n) G->tt (τ0.set i (some (gn e n))) G k)->(∀e n,Pd e n->p e n=true->∀k:W->Gp->Prop,k (f e n) G->te (τ0.set i (some (gn e n))) G k)->acc.length+a.len<=100000->(∀x,τ.set i x=τ0.set i x)->
 q (acc++mapP p f a) G->bX C (cZ i) tt te (au a) τ G acc q
 | .z,acc,τ,_,_,_,_,_,hq=>⟨hC,by simpa [mapP] using hq⟩
 | .c e n r,acc,τ,hP,ht,he,hl,hτ,hq=>by
   rw [bQ];refine ⟨hC,?_⟩;show tt (τ.set i (some (gn e n))) G _;rw [hτ];refine ht e n hP.1 _ ?_;have hτ':∀x,(τ0.set i (some (gn e n))).set i x=τ0.set i x:=λx=>List.set_set ..;simp only [O.len] at hl;rw [mapP] at hq;cases hp:p e n with
   | true=>
     rw [if_pos rfl];refine he e n hP.1 hp _ ⟨by omega,?_⟩;rw [hp,if_pos rfl] at hq;exact jd p f hC hP.2 ht he (by rw [List.length_append];simp;omega) hτ' (by simpa using hq)
   | false=>
     rw [if_neg Bool.false_ne_true];rw [hp,if_neg Bool.false_ne_true] at hq;exact jd p f hC hP.2 ht he (by omega) hτ' hq
noncomputable def xw:Int:=(10^172)^7
theorem pN {i:Int} (h0:0<=i) (h:i<=xw):i.natAbs<2^4000:=by
 have h2:xw<((2^4000:Nat):Int):=by decide+kernel
 generalize (2:Nat)^4000=B at h2 ⊢;omega
theorem CI {i j:Int} (h1:0<=i) (h2:i<=xw) (h3:0<=j) (h4:j<=xw):AL i j:=⟨pN h1 h2,pN h3 h4⟩
end L2
namespace Nm
namespace O
end O
end Nm
namespace L2
open PySem PySem.Spec PyProof.Rows Nm
section
variable {P:Program} {w:World} {K:PySem.W.Frag} {mg:Str->Option Value} {base:Heap} {x:Str} {st:Stmt} {ps:List Str} {k:Nat} {sp:bZ}
theorem vk.rx {dws:List W} (D:vk K mg x st ps dws) (h:∀(f:Addr) (fd:FuncData) (T:Addr) (ds:List Value),fL K x x st f fd T ds->sB P w K mg base k f fd ps sp):Rx P w K mg base x ps k sp []:=by
 obtain ⟨f,fd,T,ds,dvs,F,b,b',m,_,_⟩:=D;exact ⟨f,fd,[],[],h f fd T ds F,m,F.kp,b,.nil,λ_=> .nil⟩
end
open PySem PySem.Spec PyProof.Rows PySem.W
@[irreducible] def gR (i:Int):Prop:=i.natAbs<2^1048576
theorem je:∀{ns:List Int} {n:Int},n∈ns->WData.weight (.int n)<=WData.weightAll (ns.map WData.int)
 | m::ns,n,h=>by
   rw [List.map_cons,WData.weightAll];rcases List.mem_cons.mp h with rfl | h
   ·omega
   ·have:=je h;omega
theorem vM {n:Int} (h:WData.weight (.int n)<=1048576):gR n:=by
 unfold WData.weight at h;unfold gR;generalize 1048576=a at h ⊢
 by_cases h0:n=0
 ·subst h0;exact Nat.two_pow_pos a
 ·rw [if_neg (by simpa using h0)] at h;have:n.natAbs≠0:=by omega
  exact (Nat.log2_lt this).mp (by assumption)
theorem tz {ns:List Int} (h:WData.layableAll [.list (ns.map WData.int)]=true):∀n,n∈ns->gR n:=by
 intro n hn;have h1:WData.layable (.list (ns.map WData.int))=true:=(List.all_eq_true.mp h) _ List.mem_cons_self;have h2:WData.weight (.list (ns.map WData.int))<=2^20:=by
  have:=(Bool.and_eq_true_iff.mp h1).2;exact of_decide_eq_true this
 have h3:WData.weight (.list (ns.map WData.int))=WData.weightAll (ns.map WData.int):=by rw [WData.weight]
 have:=je hn;exact vM (by omega)
@[irreducible] def Wide (i:Int):Prop:=i.natAbs<2^1048577
set_option exponentiation.threshold 500 in
noncomputable def A1 (i j:Int):Prop:=(Wide i/\j.natAbs<2^4000)∨(i.natAbs<2^4000/\Wide j)
noncomputable def mh (i j:Int):Prop:=o6 i j∨A1 i j
theorem mh.ok {i j:Int} (h:mh i j):IntMulOk i j:=by
 have key:∀{x y:Int},Wide x->y.natAbs<2^4000->¬(((Builtin.Int.intBits x+Builtin.Int.intBits y:Int)) > bitsLine):=λ{x y} h1 h2=>by
  unfold Wide at h1;have b1:=PyProof.Rows.intBits_le h1;have b2:=PyProof.Rows.intBits_le h2;have hb:(1053000:Int)<=bitsLine:=by decide
  omega
 rcases h with h | ⟨h1,h2⟩ | ⟨h1,h2⟩
 ·exact h.ok
 ·have:=key h1 h2;unfold IntMulOk Builtin.Int.intTooBig;simp [this]
 ·have:=key h2 h1;rw [Int.add_comm] at this;unfold IntMulOk Builtin.Int.intTooBig;simp [this]
section
variable {X:Cx}
theorem vN:ir X (binaryOp .Mult) (rI mh λi j=> .int (i*j)):=BI λ_ _ _ _ _ _ _ hc q=>mul_int q hc.ok
end
noncomputable def gS:bZ:=λws _ q _=>∃ns:List Int,ws=[.scr ns]/\ns.length<=63/\(∀n,n∈ns->gR n)/\∀G',q (.bl true) G'
theorem oq {K:PySem.W.Frag} {H:Hp} {a:Addr} {ns:List Int} (hO:rO H) (hS:cW K H a (ns.map V.int)) (hl:ns.length<=63) (hc:∀n,n∈ns->gR n):uF K gS [.ref a] H (λv _=>v=.bl true) λ_ _ _=>False:=
 ⟨[.scr ns],λ_=>none,λw _=>w=.bl true,λ_ _=>False,.cons (.scr (y7 hO hS)) .nil,λ_ _ e=>(by cases e),⟨ns,rfl,hl,hc,λ_=>rfl⟩,λv H1 w G1 _ r _ e=>(by subst e;cases r;rfl),λ_ _ _ _ _ _ z=>z⟩
theorem CJ {l:OpenLaw} {n:Nat} {q:Program} {loose:List Str} {XP:(Str->Option Value)->Heap->Prop} {YP:World->Heap->Prop} {d:DefRec}
 (hn:l.most=some n) (hdf:d.params.defaults=[])
 (call:∀(w:World) (s₀ s₁:Shared) (mg mb:Str->Option Value) (fa:Addr) (a:Addr) (vs:List Value) (ns:List Int),
   Ground q loose [] XP w s₀ mg mb s₁.heap->YP w s₁.heap->mg d.name=some (.ref fa)->
   s₁.heap.get? a=some { cls:= .type "list",data:= .seq vs.toArray }->IntsAre vs ns->ns.length<=n->(∀n,n∈ns->gR n)->s₁.gens= #[]->
   codeAny (model l.prog w) callerA (.call (.ref fa) ⟨[.ref a],[]⟩) (λr s'=>r=.ok (.ret (.bool true))/\OldK s₁.heap s'.heap/\s'.os=s₁.os/\AllBare s'.gens) s₁):
 WalkO q loose XP YP l.row.toRowW d [] (λf vs=>PySem.call f vs):=by
 intro w s₀ s₁ mg mb G Y fa o pm cd doc dV kV ho hd hcd hD hmg hg args vals as hpre hlay hrd hwl hlo;obtain rfl:dV=.none:=Dflts.none hD hdf;obtain rfl:kV=.none:=Dflts.noKw hD;obtain ⟨a,vs,ns,ea,rfl,hobj,hints,hlen⟩:=Att.script_of hn hpre hwl;subst ea;refine enter_call (codeAny_mono (call w s₀ s₁ mg mb fa a vs ns G Y hmg hobj hints hlen (tz hlay) hg) λr s' hq=>?_);obtain ⟨rfl,h2,h3,h4⟩:=hq;exact ⟨.inl ⟨.bool true,.bool true,[],rfl,λ_=>rfl,.bool true,Att.post_true l _,λ_=>⟨List.Pairwise.nil,λ_ hm=>(nomatch hm)⟩⟩,h2,h3,h4⟩
theorem walk_ofC {l:PySem.W.OpenLaw} {n k:Nat} {q:Program} {loose:List Str} {XP:(Str->Option Value)->Heap->Prop} {YP:World->Heap->Prop} {d:DefRec} {K:Params->PySem.W.Frag} {CX:World->nq} {sp:World->Sp} {x:Str}
 (hn:l.most=some n) (hn2:n<=sizeLine) (hdf:d.params.defaults=[]) (hr:ay k callerA)
 (hY:∀(w:World) (h:Heap),YP w h->(K w.params).In h)
 (F:∀(w:World) (mg:Str->Option Value) (fa:Addr) (h:Heap),(K w.params).In h->h.Ns mainGlobals mg->mg d.name=some (.ref fa)->
   ∃fd:FuncData,(∀(s:Shared) (u:Value),BindsTo s fd ⟨[u],[]⟩ [(x,u)])/\
    ∀base:Heap,(K w.params).In base->base.Ns mainGlobals mg->dE l.prog w (K w.params) mg base (CX w) k fa fd [x] (sp w))
 (hsp:∀(w:World) (H:Hp) (a:Addr) (ns:List Int),ns.length<=n->(∀n,n∈ns->gR n)->rO H->cW (K w.params) H a (ns.map V.int)->sp w [.ref a] H (λv _=>v=.bl true) λ_ _ _=>False)
 (hCX:∀(w:World) (H:Hp) (s:Shared) (e:Value) (s':Shared),CX w [] H s (λ_ _ _=>False) e s'->False):
 PySem.W.WalkO q loose XP YP l.row.toRowW d [] (λf vs=>PySem.call f vs):=by
 refine CJ hn hdf λw s₀ s₁ mg mb fa a vs ns G Y hmg hobj hints hlen hc hg=>?_;have KX:=hY w _ Y;obtain ⟨fd,hb,hF⟩:=F w mg fa _ KX G.T.g hmg;exact rP KX G.T.g G.T.b G.T.builtins G.T.nolimit hg hobj hints (Nat.le_trans hlen hn2) hr hF hb (λH hO hS=>hsp w H a ns hlen hc hO hS) λH e s'=>hCX w H s₁ e s'
theorem A2:gR 0:=by
 unfold gR;exact Nat.two_pow_pos _
theorem tD {ns:List Int} {i:Int} (hc:∀n,n∈ns->gR n) (h0:0<=i) (h1:i<ns.length):∃n,gE ns i=some n/\gR n:=by
 have hl:i.toNat<ns.length:=by omega
 have e:((i.toNat:Nat):Int)=i:=Int.toNat_of_nonneg h0;have q:=oQ (List.getElem?_eq_getElem hl);rw [e] at q;exact ⟨_,q,hc _ (List.getElem_mem hl)⟩
open PySem PySem.Spec PyProof.Rows
theorem aJ.rep {K:PySem.W.Frag} {H:Hp} {ws:List W} {vs:List V} (r:aJ K H ws vs):∀k:Nat,aJ K H (List.replicate k ws).flatten (List.replicate k vs).flatten
 | 0=> .nil
 | k+1=>by
   rw [List.replicate_succ,List.flatten_cons,List.replicate_succ,List.flatten_cons];exact r.append (aJ.rep r k)
section
variable {X:Cx}
noncomputable def tE:W2:=λx y G q=>match x,y with
 | .int i,.int j=>mh i j/\q (.int (i*j)) G
 | .ref a,.int k=>∃xs,G a=some (.lst xs)/\0<=k/\k<=100000/\xs.length*k.toNat<=100000/\∀p,G p=none->q (.ref p) (aG G p (.lst (List.replicate k.toNat xs).flatten))
 | .tup xs,.int k=>xs≠[]/\0<=k/\k<=100000/\xs.length*k.toNat<=100000/\q (.tup (List.replicate k.toNat xs).flatten) G
 | _,_=>False
theorem zc:ic X (binaryOp .Mult) tE:=by
 rintro pins s σ H x y v u Q I rx ry ⟨wx,wy,G,q,r1,r2,g,h,hQ⟩;cases r2 with
 | int k=>
   cases r1 with
   | int i=>exact vN pins s σ H _ _ v u Q I rx ry ⟨_,_,rfl,rfl,h.1,hQ _ H _ G (aI.refl H) (.int _) g h.2⟩
   | ref a=>
     obtain ⟨xs,ea,h0,h1,hl,h⟩:=h;obtain ⟨_,xs',ha,ra⟩:=g _ _ ea;refine yu pins s σ H _ _ v u Q I rx ry ⟨_,_,_,rfl,rfl,ha,Int.le_trans (by decide) h0,Int.lt_of_le_of_lt h1 (by decide),by rw [←ra.length];exact bJ hl,λp hp=>?_⟩;exact hQ _ _ _ _ (aI.new hp _) (.ref p) (g.put (aI.new hp _) (ra.rep _) (by rw [iw,Nat.mul_comm];exact hl)) (h p (g.fresh hp))
   | @tup a ws xs ha ra=>
     obtain ⟨hne,h0,h1,hl,h⟩:=h;refine vo pins s σ H _ _ v u Q I rx ry ⟨a,_,_,rfl,rfl,cR.of ha,λz=>?_,h0,h1,by rw [←ra.length];exact bJ hl,λe=>?_,λ_ p hp=>?_⟩
     ·subst z;cases ra;exact hne rfl
     ·subst e;have e1:∀zs:List W,(List.replicate (Int.toNat 1) zs).flatten=zs:=λzs=>by simp
      rw [e1] at h;exact hQ _ H _ G (aI.refl H) (.tup ha ra) g h
     ·exact hQ _ _ _ G (aI.new hp _) (.tup aP ((ra.rep _).mono (aI.new hp _))) (g.keep hp _) h
   | _=>exact False.elim h
 | _=>cases r1<;> exact False.elim h
end
end L2
namespace Nm
namespace O
end O
end Nm
set_option linter.all false
set_option maxRecDepth 100000
namespace L2
open PySem PySem.Spec PyProof.Rows
section
variable {X:Cx}
noncomputable def tF:W2:=λx y G q=>match x,y with
 | .str a,.str b=>a.length+b.length<=100000/\q (.str (a++b)) G
 | x,y=>yz x y G q
theorem bC:ic X (binaryOp .Add) tF:=by
 rintro pins s σ H x y v u Q I rx ry ⟨wx,wy,G,q,r1,r2,g,h,hQ⟩;unfold tF at h;split at h
 ·cases r1;cases r2;exact m9 pins s σ H _ _ v u Q I rx ry ⟨_,_,rfl,rfl,bJ h.1,hQ _ H _ G (aI.refl H) (.str _) g h.2⟩
 ·exact Ax pins s σ H x y v u Q I rx ry ⟨wx,wy,G,q,r1,r2,g,h,hQ⟩
noncomputable def tG:W2:=λx y G q=>match x,y with
 | .str a,.int k=>0<=k/\k<=100000/\a.length*k.toNat<=100000/\∀z:Str,z.length<=a.length*k.toNat->q (.str z) G
 | x,y=>tE x y G q
theorem j8 (a:Array Nat):∀(n:Nat) (b:Array Nat),(List.foldl (λx1 x2=>x1++x2) b (List.replicate n a)).size=b.size+a.size*n
 | 0,b=>by simp
 | n+1,b=>by
   rw [List.replicate_succ,List.foldl_cons,j8 a n,Array.size_append,Nat.mul_succ];omega
theorem vO (x:Str) {n:Int} (h:0<=n):(Txt.mul x n).length<=x.length*n.toNat:=by
 unfold Txt.mul;split
 ·exact Nat.zero_le _
 ·split
  ·rename_i h1 h2;have:1<=n.toNat:=by omega
   exact Nat.le_mul_of_pos_right _ this
  ·show Array.size _<=x.cps.size*n.toNat;rw [j8];simp
theorem zd:ic X (binaryOp .Mult) tG:=by
 rintro pins s σ H x y v u Q I rx ry ⟨wx,wy,G,q,r1,r2,g,h,hQ⟩;unfold tG at h;split at h
 ·rename_i a k;obtain ⟨h0,h1,hl,h⟩:=h;cases r1;cases r2;obtain ⟨t,rfl⟩:=rx;obtain ⟨t',rfl⟩:=ry;refine SB.mul ?_ λt' tk=>⟨.str _,H,I.tok _,⟨_,rfl⟩,hQ _ H _ G (aI.refl H) (.str _) g (h _ (vO a h0))⟩;have hk:(k.toNat:Int)=k:=by omega
  refine ⟨?_,λh2 h3=>?_,λh2 h3=>?_⟩
  ·have e1:decide (k< -(2^63:Int))=false:=decide_eq_false (by omega);have e2:decide (k≥2^63)=false:=decide_eq_false (by omega);rw [e1,e2,Bool.or_false]
  ·have h4:((a.length*k.toNat:Nat):Int)<=((100000:Nat):Int):=Int.ofNat_le.mpr hl;rw [Int.natCast_mul,hk] at h4;have h5:(a.length:Int)<=(2^63-1)/k:=by
    rw [Int.le_ediv_iff_mul_le (by omega)];exact Int.le_trans h4 (by decide)
   exact Int.not_lt.mpr h5
  ·exact decide_eq_false (Nat.not_lt.mpr (bJ hl))
 ·exact zc pins s σ H x y v u Q I rx ry ⟨wx,wy,G,q,r1,r2,g,h,hQ⟩
noncomputable def pO:W2:=λx y G q=>match x,y with
 | .str z,.int i=>z.length<=100000/\∃c,gE z.cps.toList i=some c/\q (.str ⟨#[c]⟩) G
 | x,y=>yC x y G q
theorem A3:yw X pO:=by
 rintro value slice pins s σ H x y v u Q I rx ry ⟨wx,wy,G,q,r1,r2,g,h,hQ⟩ hsl;unfold pO at h;split at h
 ·obtain ⟨hz,c,e,h⟩:=h;cases r1;cases r2;exact yp value slice pins s σ H _ _ v u Q I rx ry ⟨_,_,c,rfl,rfl,bJ hz,e,hQ _ H _ G (aI.refl H) (.str _) g h⟩ hsl
 ·exact Cq value slice pins s σ H x y v u Q I rx ry ⟨wx,wy,G,q,r1,r2,g,h,hQ⟩ hsl
noncomputable def vP:W3:=λx lo hi G q=>match x with
 | .str z=>z.length<=100000/\∀y:Str,y.length<=z.length->q (.str y) G
 | x=>vc x lo hi G q
theorem pP {vl:Value} {lo:Option Int} (p:IsPart vl lo):∃l:Option (Int×Tok),vl=partValue l:=by
 cases p with
 | none=>exact ⟨none,rfl⟩
 | int i t=>exact ⟨some (i,t),rfl⟩
theorem A4:Ak X (DL X.K vP):=by
 rintro pins s σ H x v vl vu lo hi sl Q I rx hs pl pu ⟨w,G,q,r,g,h,hQ⟩;unfold vP at h;split at h
 ·rename_i z;obtain ⟨hz,h⟩:=h;cases r;obtain ⟨t,rfl⟩:=rx;refine ⟨"str",_,slot_str_getitem.lookup,typeIs_str s z t,?_⟩;obtain ⟨l,rfl⟩:=pP pl;obtain ⟨u,rfl⟩:=pP pu;refine wpAny_getItem_str_slice (l:=l) (u:=u) (st:=none) ?_ rfl ?_
  ·obtain ⟨o,e1,e2,e3⟩:=hs;exact ⟨o,e1,e2,e3⟩
  ·have hle:=Txt.slice_le z (l.map (·.1)) (u.map (·.1));unfold sliceMade;split
   ·exact ⟨.str z,H,I,⟨_,rfl⟩,hQ _ H _ G (aI.refl H) (.str _) g (h _ (Nat.le_refl _))⟩
   ·rename_i hn;unfold Txt.slice at hle;split at hle
    ·rename_i hy;exact absurd hy hn
    ·exact ⟨Nat.le_trans hle (bJ hz),.str _,H,I.tok _,⟨_,rfl⟩,hQ _ H _ G (aI.refl H) (.str _) g (h _ hle)⟩
 ·exact Cr pins s σ H x v vl vu lo hi sl Q I rx hs pl pu ⟨w,G,q,r,g,h,hQ⟩
noncomputable def A5 (te:WE) (tl th:WO):WE:=λτ G q=>te τ G λx G1=>tl τ G1 λl G2=>th τ G2 λu G3=>vP x l u G3 q
theorem cP {e:Expr} {lo hi:Option Expr} {te:WE} {tl th:WO} {pos p2:Pos} (he:QE X e te) (hl:QO X lo tl) (hu:QO X hi th):QE X (.Subscript e (.Slice lo hi none p2) pos) (A5 te tl th):=
 (rL A4 he hl hu).imp λσ H Q z0=>z0.el λτ G q hs hg ht hQ=>⟨τ,G,_,hs,hg,ht,λv H1 w G1 t1 r1 g1 q1=>⟨τ,G1,_,hs.mono t1,g1,q1,λl H2 G2 t2 g2 q2=>
   ⟨τ,G2,_,(hs.mono t1).mono t2,g2,q2,λu H3 G3 t3 g3 q3=>⟨w,G3,q,(r1.mono t2).mono t3,g3,q3,λv4 H4 w4 G4 t4=>hQ v4 H4 w4 G4 (((t1.trans t2).trans t3).trans t4)⟩⟩⟩⟩
noncomputable def pQ:List W->Gp->WK->Prop:=λws G q=>match ws with
 | [.str z]=>z.length<=100000/\q (.int z.length) G
 | ws=>yy ws G q
theorem ze:eR X (.builtin "len") pQ:=by
 rintro pins s σ H xs us Q I r ⟨ws,G,q,rw',g,h,hQ⟩;unfold pQ at h;split at h
 ·obtain ⟨v,rfl,r1⟩:=rw'.one;cases r1;exact kz pins s σ H _ us Q I r ⟨_,rfl,bJ h.1,hQ _ H _ G (aI.refl H) (.int _) g h.2⟩
 ·exact xf pins s σ H xs us Q I r ⟨ws,G,q,rw',g,h,hQ⟩
noncomputable def CK (x:Str):It:=⟨λi _=>i<x.cps.toList.length,λi H y H'=>H'=H/\∃c,x.cps.toList[i]?=some c/\y=.str ⟨#[c]⟩,λi _=>x.cps.toList.length<=i⟩
theorem j9 {P:Program} {w:World} {A:Around} (hA:A.handled=none) (it:Addr) (x:Str) (t:Tok):Walks P w A it [it] [it] x.cps.size (SignAt x) (λi h=>h.IsStrIter it (strIterType x) x t i):=by
 unfold strIterType;split
 ·exact Walks.strAscii hA it x t
 ·exact Walks.strWide hA it x t
theorem tH {P:Program} {w:World} {K:PySem.W.Frag} {tg:Expr} (it:Addr) (x:Str) (t:Tok):lx P w K tg (CK x) [it] it (λi h=>i<=x.cps.size/\h.IsStrIter it (strIterType x) x t i) where
 mem:=by simp
 obj:=λi h st b hb=>by
  have e:b=it:=by simpa using hb
  subst e;obtain ⟨_,o,e1,e2,e3⟩:=st;exact ⟨_,e1,λv z=>by rw [e3] at z;cases z⟩
 keep:=λi h h' st k=>by
  obtain ⟨hi,o,e1,e2,e3⟩:=st;exact ⟨hi,o,k it (by simp) _ e1,e2,e3⟩
 item:=by
  intro X hP hw hK hc i pins s σ H E I hf st hg;subst hP hw hK;obtain ⟨f0,f1,f2,f3,f4,f5⟩:=hf it (by simp);have hg':i<x.cps.size:=by
   have h:i<x.cps.toList.length:=hg;simpa using h
  refine (j9 (I.ok.hd hc) it x t).item i s _ _ hg' st.2 λv h' tk hv st' kk=>?_;obtain ⟨c,u,e,rfl⟩:=hv;have I1:aA X pins σ H { s with heap:=h',toks:=tk }:=I.turned (λb o hb e=>kk b o (by simpa using hb) e) f0 f1 f3 f4 f5;obtain ⟨o,e1,e2,e3⟩:=id st';refine ⟨_,rfl,lz (s:={ s with heap:=h',toks:=tk }) (n:=strIterType x) e1 e2 e3 ?_ ⟨.str ⟨#[c]⟩,H,I1,⟨u,rfl⟩,⟨rfl,c,by simpa using e,rfl⟩,⟨hg',st'⟩,λb hb=>(hf b hb).1⟩⟩;unfold strIterType;split<;> decide
 done:=by
  intro X hP hw hK hc i pins s σ H E I hf st hg;subst hP hw hK;obtain ⟨f0,f1,f2,f3,f4,f5⟩:=hf it (by simp);have hg':x.cps.size<=i:=by
   have h:x.cps.toList.length<=i:=hg;simpa using h
  have hi:i=x.cps.size:=Nat.le_antisymm st.1 hg';subst hi;exact (j9 (I.ok.hd hc) it x t).done s _ _ st.2 λh' tk kk=>⟨rfl,I.turned (t':=tk) (λb o hb e=>kk b o (by simpa using hb) e) f0 f1 f3 f4 f5⟩
 self:=λA i s Q E st h=>by
  obtain ⟨_,o,e1,e2,e3⟩:=st;unfold strIterType at e2;split at e2
  ·exact wpAny_pyIter_striter_ascii ⟨o,e1,e2,e3⟩ h
  ·exact wpAny_pyIter_striter_wide ⟨o,e1,e2,e3⟩ h
noncomputable def BN (l:List Nat):List W:=l.map λc=> .str ⟨#[c]⟩
theorem vQ {K:PySem.W.Frag} {x:Str} {H:Hp}:qE K (CK x) (BN x.cps.toList) (λ_=>True) H where
 stop:=λi H1 G t g _ hl=>by
  have h:x.cps.toList.length<=i:=by simpa [BN] using hl
  exact h
 go:=λi w H1 G t g _ e=>by
  unfold BN at e;rw [List.getElem?_map] at e;cases h:x.cps.toList[i]? with
  | none=>rw [h] at e;cases e
  | some c=>
    rw [h] at e;cases e;refine ⟨(List.getElem?_eq_some_iff.mp h).1,λy H' ⟨eH,c',hc,hy⟩=>?_⟩;subst eH hy;rw [h] at hc;cases hc;exact ⟨aI.refl _,.str _,g⟩
variable {tg:Expr}
theorem vR {l:Expr} {tl:TE} (hl:PE X l tl):PI X tg l (λσ H R=>tl σ H λx H1=>(∃z,x=.str z/\R (CK z) H1)∨∃a,x=.ref a/\(((∃xs,cW X.K H1 a xs)/\R (BH X.K a) H1)∨((∃xs,cR X.K H1 a xs)/\R (B2 X.K a) H1))):=by
 intro pins s σ H R I h;refine bV (hl pins s σ H _ I h) λv s1 z9=>?_;obtain ⟨x,H1,I1,r1,q1⟩:=z9;rcases q1 with ⟨z,rfl,q⟩ | ⟨a,e,q1⟩
 ·obtain ⟨t,rfl⟩:=r1;refine wpAny_pyIter_strU ?_;refine ⟨s1.heap.objs.size,[s1.heap.objs.size],_,_,H1,rfl,I1.kept (t':=s1.toks) λb o e=>Heap.get?_push_of_some _ e,tH _ z t,⟨Nat.zero_le _,_,Heap.get?_push_size _ rfl,rfl,rfl⟩,λb hb=>?_,q⟩;have e:b=s1.heap.objs.size:=by simpa using hb
  subst e;exact I1.fpOk (Nat.le_refl _) (I1.hok.fresh (Nat.le_refl _))
 ·subst e;cases r1;rcases q1 with ⟨⟨xs,hq⟩,q⟩ | ⟨⟨xs,hq⟩,q⟩
  ·obtain ⟨its,rv,p,hz⟩:=I1.list hq;refine wpAny_pyIter_list p.isList ?_;refine ⟨s1.heap.objs.size,[s1.heap.objs.size],_,_,H1,rfl,I1.kept (t':=s1.toks) λb o e=>Heap.get?_push_of_some _ e,qk a _,⟨_,Heap.get?_push_size _ rfl,rfl,rfl⟩,λb hb=>?_,q⟩;have e:b=s1.heap.objs.size:=by simpa using hb
   subst e;exact I1.fpOk (Nat.le_refl _) (I1.hok.fresh (Nat.le_refl _))
  ·obtain ⟨its,rv,p,hz⟩:=I1.tuple hq;refine wpAny_pyIter_tuple (show s1.heap.IsTuple a its.toArray from p) ?_;refine ⟨s1.heap.objs.size,[s1.heap.objs.size],_,_,H1,rfl,I1.kept (t':=s1.toks) λb o e=>Heap.get?_push_of_some _ e,mZ a _,⟨_,Heap.get?_push_size _ rfl,rfl,rfl⟩,λb hb=>?_,q⟩;have e:b=s1.heap.objs.size:=by simpa using hb
   subst e;exact I1.fpOk (Nat.le_refl _) (I1.hok.fresh (Nat.le_refl _))
noncomputable def xx (te:WE):WI:=λτ G r=>te τ G λx G1=>match x with
 | .str z=>r (BN z.cps.toList) (λ_=>True) G1
 | .tup ws=>r ws (λ_=>True) G1
 | .scr ns=>r (ns.map W.int) (λ_=>True) G1
 | .ref a=>∃ws,G1 a=some (.lst ws)/\r ws (λG=>G a=some (.lst ws)) G1
 | _=>False
theorem dP {l:Expr} {te:WE} (hl:QE X l te):QI X tg l (xx te):=
 (vR hl).imp λσ H R ⟨τ,G,r,hs,hg,ht,hR⟩=>⟨τ,G,_,hs,hg,ht,λv H1 w G1 t1 r1 g1 q1=>by
   split at q1
   ·cases r1;exact .inl ⟨_,rfl,hR _ H1 _ _ G1 t1 g1 vQ q1⟩
   ·cases r1 with
    | tup h rr=>exact .inr ⟨_,rfl,.inr ⟨⟨_,cR.of h⟩,hR _ H1 _ _ G1 t1 g1 (ve h rr) q1⟩⟩
   ·cases r1 with
    | scr h=>exact .inr ⟨_,rfl,.inl ⟨⟨_,h.sq⟩,hR _ H1 _ _ G1 t1 g1 (vg h) q1⟩⟩
   ·obtain ⟨ws,e,q1⟩:=q1;cases r1;obtain ⟨_,xs,h1,_⟩:=g1 _ _ e;exact .inr ⟨_,rfl,.inl ⟨⟨xs,cW.of h1⟩,hR _ H1 _ _ G1 t1 g1 vf q1⟩⟩
   ·exact q1.elim⟩
end
end L2
set_option linter.all false
namespace L2
open PySem PySem.Spec PyProof.Rows Nm
theorem iA {β:Type} {C:Gp->Prop} {te:WE} {i:Nat} {τ0:dC} {G:Gp} {q:List W->Gp->Prop} (key val:β->W) (hC:C G):∀{ps:List β} {acc:List W} {τ:dC},
 (∀p,p∈ps->∀k:W->Gp->Prop,k (val p) G->te (τ0.set i (some (key p))) G k)->acc.length+ps.length<=100000->(∀x,τ.set i x=τ0.set i x)->q (acc++ps.map val) G->bX C (cZ i) jP te (ps.map key) τ G acc q
 | [],acc,τ,_,_,_,hq=>⟨hC,by simpa using hq⟩
 | p::ps,acc,τ,ht,hl,hτ,hq=>by
   refine ⟨hC,?_⟩;show te (τ.set i (some (key p))) G _;rw [hτ];refine ht p List.mem_cons_self _ ?_;rw [List.length_cons] at hl;refine ⟨by omega,iA key val hC (λu hu=>ht u (List.mem_cons_of_mem _ hu)) (by rw [List.length_append];simp only [List.length_cons,List.length_nil];omega) (λx=>?_) (by simpa using hq)⟩;rw [List.set_set]
theorem mj {C:Gp->Prop} {te:WE} {i:Nat} {τ0:dC} {q:List W->Gp->Prop} (Iv:List W->List W->Gp->Prop) (stop:∀acc G,Iv [] acc G->C G/\q acc G)
 (step:∀x ws acc G (k:WK),Iv (x::ws) acc G->(∀v G1,Iv ws (acc++[v]) G1->acc.length+1<=100000->k v G1)->C G/\te (τ0.set i (some x)) G k):∀{ws acc:List W} {τ:dC} {G:Gp},Iv ws acc G->acc.length+ws.length<=100000->(∀x,τ.set i x=τ0.set i x)->bX C (cZ i) jP te ws τ G acc q
 | [],acc,τ,G,hI,_,_=>stop acc G hI
 | x::ws,acc,τ,G,hI,hl,hτ=>by
   rw [List.length_cons] at hl;obtain ⟨h1,h2⟩:=step x ws acc G (λv G4=>acc.length+1<=100000/\bX C (cZ i) jP te ws (τ0.set i (some x)) G4 (acc++[v]) q) hI λv G1 hv hn=>⟨hn,mj Iv stop step hv (by rw [List.length_append];simp only [List.length_cons,List.length_nil];omega) λy=>List.set_set ..⟩;refine ⟨h1,?_⟩;show te (τ.set i (some x)) G _;rw [hτ];exact h2
theorem cv {G G':Gp} {p:Addr} (h:aL G G') (hp:G' p=none):G p=none:=by
 cases e:G p with
 | none=>rfl
 | some g=>rw [h _ _ e] at hp;cases hp
theorem zg (xs:List W) (a b:Nat):∃x y:Nat,dv xs (some (a:Int)) (some (b:Int))=(xs.drop x).take y/\y<=b-a:=by
 unfold dv;rw [HT.sIx_nat,HT.sIx_nat];exact ⟨_,_,rfl,by omega⟩
end L2
set_option linter.all false
set_option maxRecDepth 100000
namespace L2
open PySem PySem.Spec PyProof.Rows
section
variable {X:Cx} {pins:List (Addr×Obj)} {σ:St} {H:Hp} {s:Shared} {a:Addr} {o:Obj} {kvs:List (aF×V)}
theorem aA.swap {u v:HO} (I:aA X pins σ H s) (e:H a=some u) (un:Un X.fs X.ex X.H₀ (upd H a v) X.s₀.heap s.heap) (hv:bE X.prog X.w (upd H a v) s.heap a v) (nu:∀xs,u≠ .tup xs) (no:∀x,u≠ .own x):aA X pins σ (upd H a v) s:=by
 have ne:∀b,H b=none->b≠a:=λb hb z=>by rw [z,e] at hb;cases hb
 refine ⟨I.ok,I.os,I.bare,un,I.loc,I.cell,by rw [ax (ne _ I.free)];exact I.free,λx c hc=>by rw [ax (ne _ (I.freeC x c hc))];exact I.freeC x c hc,λp hp=>?_,λb w hb=>?_,I.len⟩
 ·obtain ⟨h1,h2,h3⟩:=I.pin p hp;exact ⟨h1,by rw [ax (ne _ h2)];exact h2,h3⟩
 ·by_cases hba:b=a
  ·subst hba;rw [aP] at hb;cases hb;exact hv
  ·rw [ax hba] at hb;refine (I.hok b w hb).stay (λd v _ q=>q) (λd q=>?_) λd xs q=>?_
   ·rw [ax (λz=>by rw [z,e] at q;exact no _ (Option.some.inj q))];exact q
   ·rw [ax (λz=>by rw [z,e] at q;exact nu _ (Option.some.inj q))];exact q
theorem aA.freeze (I:aA X pins σ H s) (e:H a=some (.dK kvs)) (ho:s.heap.get? a=some o):aA X pins σ (upd H a (.frz o (.dK kvs))) s:=by
 refine I.swap e ?_ ⟨ho,(I.hok a _ e)⟩ (λ_ z=>by cases z) (λ_ z=>by cases z);have U:=I.base;refine ⟨U.keep,U.slot,λb ob h1 h2 h3=>?_,U.there,λb xs h1=>?_,λb ob w h1=>?_,λb ps h1=>?_⟩
 ·have h4:=U.free b ob h1 h2 h3;rw [ax (λz=>by rw [z,e] at h4;cases h4)];exact h4
 ·have h4:=U.tups b xs h1;rw [ax (λz=>by rw [z,e] at h4;cases h4)];exact h4
 ·have h4:=U.frzs b ob w h1;rw [ax (λz=>by rw [z,e] at h4;cases h4)];exact h4
 ·obtain ⟨m,h4⟩:=U.tbls b ps h1;exact ⟨m,by rw [ax (λz=>by rw [z,e] at h4;cases h4)];exact h4⟩
theorem aA.thaw (I:aA X pins σ H s) (e:H a=some (.frz o (.dK kvs))) (h0:∀ob w,X.H₀ a≠some (.frz ob w)):aA X pins σ (upd H a (.dK kvs)) s:=by
 refine I.swap e ?_ (I.hok a _ e).2 (λ_ z=>by cases z) (λ_ z=>by cases z);have U:=I.base;refine ⟨U.keep,U.slot,λb ob h1 h2 h3=>?_,U.there,λb xs h1=>?_,λb ob w h1=>?_,λb ps h1=>?_⟩
 ·have h4:=U.free b ob h1 h2 h3;rw [ax (λz=>by rw [z,e] at h4;cases h4)];exact h4
 ·have h4:=U.tups b xs h1;rw [ax (λz=>by rw [z,e] at h4;cases h4)];exact h4
 ·have h4:=U.frzs b ob w h1;rw [ax (λz=>by rw [z] at h1;exact h0 _ _ h1)];exact h4
 ·obtain ⟨m,h4⟩:=U.tbls b ps h1;exact ⟨m,by rw [ax (λz=>by rw [z,e] at h4;cases h4)];exact h4⟩
theorem aA.nofrz (I:aA X pins σ H s) (e:H a=some (.dK kvs)):∀ob w,X.H₀ a≠some (.frz ob w):=λob w h=>by
 have:=I.base.frzs a ob w h;rw [e] at this;cases this
theorem kc {α β:Type} {F:α->β->Prop}:∀{l1:List α} {l2:List β},Paired F l1 l2->∀{i:Nat} {a:α} {b:β},l1[i]?=some a->l2[i]?=some b->F a b
 | _,_,.nil,_,_,_,h,_=>by cases h
 | _,_,.cons r t,0,_,_,h1,h2=>by cases h1;cases h2;exact r
 | _,_,.cons r t,i+1,_,_,h1,h2=>kc t (i:=i) h1 h2
theorem aA.dictAt {es:Array DictEntry} {ep:Nat} (I:aA X pins σ H s) (e:H a=some (.frz o (.dK kvs))) (hd:o.data=.dict es ep):∃vs,KV kvs vs/\s.heap.DictAt (ba X.prog X.w) a vs ep/\(a==sysModules)=false:=by
 obtain ⟨h1,_,h2,vs,h3,o2,es2,ep2,h4,h5,h6,h7⟩:=I.hok a _ e;rw [h1] at h4;cases h4;rw [hd] at h6;cases h6;exact ⟨vs,h3,⟨o,es,h1,h5,hd,h7⟩,h2⟩
theorem pR {k:aF} {v:Value} (h:iG k v=true):aZ (kV k) v:=by
 rcases bD h with ⟨i,t,rfl,rfl⟩ | ⟨x,t,rfl,rfl⟩
 ·exact ⟨t,rfl⟩
 ·exact ⟨t,rfl⟩
variable {tg:Expr}
end
end L2
set_option linter.all false
set_option maxRecDepth 100000
namespace L2
open PySem PySem.Spec PyProof.Rows
noncomputable def cz (kvs:List (aF×W)) (k:aF):Option W:=(kvs.find? λkv=>decide (kv.1=k)).map (·.2)
noncomputable def bw (kvs:List (aF×W)) (k:aF) (w:W):List (aF×W):=
 if (kvs.any λkv=>decide (kv.1=k))=true then kvs.map (λkv=>if kv.1=k then (kv.1,w) else kv) else kvs++[(k,w)]
inductive DP (K:PySem.W.Frag) (H:Hp):List (aF×W)->List (aF×V)->Prop where
 | nil:DP K H [] []
 | cons {k:aF} {w:W} {v:V} {kvs:List (aF×W)} {us:List (aF×V)} (r:bI K H w v) (t:DP K H kvs us):DP K H ((k,w)::kvs) ((k,v)::us)
section
variable {K:PySem.W.Frag} {H H1:Hp}
theorem DP.of:∀{kvs:List (aF×W)} {us:List (aF×V)},us.map (·.1)=kvs.map (·.1)->aJ K H (kvs.map (·.2)) (us.map (·.2))->DP K H kvs us
 | [],[],_,_=> .nil
 | [],_::_,h,_=>by simp at h
 | _::_,[],h,_=>by simp at h
 | (k,w)::kvs,(k',v)::us,h,r=>by
   simp only [List.map_cons,List.cons.injEq] at h;obtain ⟨rfl,h⟩:=h;cases r with
   | cons r rs=>exact .cons r (DP.of h rs)
theorem DP.keys {kvs:List (aF×W)} {us:List (aF×V)} (d:DP K H kvs us):us.map (·.1)=kvs.map (·.1):=by
 induction d with
 | nil=>rfl
 | cons r t ih=>rw [List.map_cons,List.map_cons,ih]
theorem DP.vals {kvs:List (aF×W)} {us:List (aF×V)} (d:DP K H kvs us):aJ K H (kvs.map (·.2)) (us.map (·.2)):=by
 induction d with
 | nil=>exact .nil
 | cons r t ih=>exact .cons r ih
theorem DP.len {kvs:List (aF×W)} {us:List (aF×V)} (d:DP K H kvs us):us.length=kvs.length:=by
 have:=congrArg List.length d.keys;simpa using this
theorem DP.mono {kvs:List (aF×W)} {us:List (aF×V)} (t:aI H H1) (d:DP K H kvs us):DP K H1 kvs us:=DP.of d.keys (d.vals.mono t)
theorem DP.val {kvs:List (aF×W)} {us:List (aF×V)} (d:DP K H kvs us) (k:aF):(cz kvs k=none/\kA us k=none)∨∃w v,cz kvs k=some w/\kA us k=some v/\bI K H w v:=by
 induction d with
 | nil=>exact .inl ⟨rfl,rfl⟩
 | @cons k' w v kvs us r t ih=>
   by_cases e:k'=k
   ·exact .inr ⟨w,v,by simp [cz,List.find?_cons,e],lD e,r⟩
   ·rw [show cz ((k',w)::kvs) k=cz kvs k by simp [cz,List.find?_cons,e],lE (p:=(k',v)) e];exact ih
theorem DP.any {kvs:List (aF×W)} {us:List (aF×V)} (d:DP K H kvs us) (k:aF):(us.any λkv=>decide (kv.1=k))=kvs.any λkv=>decide (kv.1=k):=by
 induction d with
 | nil=>rfl
 | cons r t ih=>rw [List.any_cons,List.any_cons,ih]
theorem DP.put {kvs:List (aF×W)} {us:List (aF×V)} (d:DP K H kvs us) (k:aF) {w:W} {v:V} (r:bI K H w v):DP K H (bw kvs k w) (eS us k v):=by
 unfold bw eS;rw [d.any k]
 by_cases e:(kvs.any λkv=>decide (kv.1=k))=true
 ·rw [if_pos e,if_pos e];clear e
  induction d with
  | nil=>exact .nil
  | @cons k' w' v' kvs us r' t ih=>
    rw [List.map_cons,List.map_cons]
    by_cases e:k'=k
    ·rw [if_pos e,if_pos e];exact .cons r ih
    ·rw [if_neg e,if_neg e];exact .cons r' ih
 ·rw [if_neg e,if_neg e];clear e
  induction d with
  | nil=>exact .cons r .nil
  | cons r' t ih=>exact .cons r' ih
end
theorem cj (kvs:List (aF×W)) (k:aF) (w:W):(bw kvs k w).length<=kvs.length+1:=by
 unfold bw;split
 ·rw [List.length_map];omega
 ·rw [List.length_append,List.length_cons,List.length_nil];omega
noncomputable def GD (G:Gp) (a:Addr) (kvs:List (aF×W)):Prop:=G a=some (.dic kvs)∨∃o us,G a=some (.fdc o us kvs)
section
variable {K:PySem.W.Frag} {H:Hp} {G:Gp} {a:Addr} {kvs:List (aF×W)}
theorem GD.rd (h:GD G a kvs) (g:aH K H G):kvs.length<=100000/\∃us,Rd H a (.dK us)/\DP K H kvs us:=by
 rcases h with h | ⟨o,us,h⟩
 ·obtain ⟨l,us,e,n,r⟩:=g a _ h;exact ⟨l,us,.inl e,DP.of n r⟩
 ·obtain ⟨l,e,n,r⟩:=g a _ h;exact ⟨l,us,.inr ⟨o,e⟩,DP.of n r⟩
theorem aI.dk {us:List (aF×V)} (hp:H a=some (.dK us)) (o:HO):aI H (upd H a o):=
 ⟨λ_ _ h=>by rw [ax (fw h hp (by intro z;cases z))];exact h,λ_ _ _ h=>by rw [ax (fw h hp (by intro z;cases z))];exact h⟩
theorem aI.fz {us:List (aF×V)} {ob:Obj} (hp:H a=some (.frz ob (.dK us))) (o:HO):aI H (upd H a o):=
 ⟨λ_ _ h=>by rw [ax (fw h hp (by intro z;cases z))];exact h,λ_ _ _ h=>by rw [ax (fw h hp (by intro z;cases z))];exact h⟩
end
section
variable {X:Cx} {pins:List (Addr×Obj)} {σ:St} {H:Hp} {s:Shared} {A:Around} {E:Value->Shared->Prop}
noncomputable def vS:W2:=λx y G q=>match x,y with
 | .ref a,.str z=>∃kvs w,GD G a kvs/\cz kvs (.inr z)=some w/\q w G
 | x,y=>pO x y G q
theorem bS:yw X vS:=by
 rintro value slice pins s σ H x y v u Q I rx ry ⟨wx,wy,G,q,r1,r2,g,h,hQ⟩ hsl;unfold vS at h;split at h
 ·rename_i a z;obtain ⟨kvs,w,hd,hv,h⟩:=h;cases r1;cases r2;cases rx;obtain ⟨_,us,rd,dp⟩:=hd.rd g;obtain ⟨hl,hm,vs,rel,dd⟩:=eV I.hok rd;rcases dp.val (.inr z) with ⟨e,_⟩ | ⟨w',v',e,e',r⟩
  ·rw [e] at hv;cases hv
  ·rw [e] at hv;cases hv;obtain ⟨u',hw,ru⟩:=fH.some_of (v:=v') (o:=valueAt vs (.inr z)) (by rw [←e'];exact rel.val (.inr z));exact tail_any dd.typeIs PySem.F.slot_dict_getitem.lookup (wpAny_getItem_of (lG (P:=X.prog) (w:=X.w) (k:= .inr z) ry) dd.mapOf hw ⟨v',H,I.tok _,ru,hQ _ H _ G (aI.refl H) r g h⟩) hsl
 ·exact A3 value slice pins s σ H x y v u Q I rx ry ⟨wx,wy,G,q,r1,r2,g,h,hQ⟩ hsl
structure Eg (ws:List W) (x:W):Prop where
 fx:x.flat=true
 fs:W.flats ws=true
 hd:W.deps ws<=149
inductive DV (G:Gp) (a:Addr):W->Bool->Prop where
 | dic {kvs:List (aF×W)} {z:Str} (h:GD G a kvs):DV G a (.str z) (cz kvs (.inr z)).isSome
 | lst {ws:List W} {x:W} (h:G a=some (.lst ws)) (l:Eg ws x):DV G a x (ws.any λw=>w.eq x)
open Classical in
noncomputable def xy (tv to ti:WE):WS:=λd τ G=>tv τ G λw G1=>to τ G1 λx G2=>ti τ G2 λy G3=>∃a z kvs,x=.ref a/\y=.str z/\G3 a=some (.dic kvs)/\kvs.length+1<=100000/\d.nx τ (aG G3 a (.dic (bw kvs (.inr z) w)))
theorem iB {o i value:Expr} {to ti tv:WE} {pos pos':Pos} (hv:QE X value tv) (ho:QE X o to) (hi:QE X i ti) (hs:swapsWith value (some (.Subscript o i pos')) pos.line X.env=pure false:=by rfl):
 QS X (.Assign [.Subscript o i pos'] value pos) (xy tv to ti):=by
 intro pins s σ H D I h;obtain ⟨τ,G,d,hst,hg,ht,l⟩:=h;refine wpAny_Assign_Subscript (bV (hv pins s σ H (λv H1=>∃w G1,aI H H1/\bI X.K H1 w v/\aH X.K H1 G1/\to τ G1 λx G2=>ti τ G2 λy G3=>∃a z kvs,x=.ref a/\y=.str z/\G3 a=some (.dic kvs)/\kvs.length+1<=100000/\d.nx τ (aG G3 a (.dic (bw kvs (.inr z) w)))) I ⟨τ,G,_,hst,hg,ht,λv H1 w G1 t1 r1 g1 q1=>⟨w,G1,t1,r1,g1,q1⟩⟩) λr s1 z9=>?_) hs;obtain ⟨v,H1,I1,rv,w,G1,t1,r1,g1,q1⟩:=z9;refine bV (ho pins s1 σ H1 (λv2 H2=>∃w2 G2,aI H1 H2/\bI X.K H2 w2 v2/\aH X.K H2 G2/\ti τ G2 λy G3=>∃a z kvs,w2=.ref a/\y=.str z/\G3 a=some (.dic kvs)/\kvs.length+1<=100000/\d.nx τ (aG G3 a (.dic (bw kvs (.inr z) w)))) I1 ⟨τ,G1,_,hst.mono t1,g1,q1,λv2 H2 w2 G2 t2 r2 g2 q2=>⟨w2,G2,t2,r2,g2,q2⟩⟩) λu s2 z9=>?_;obtain ⟨x,H2,I2,rx,w2,G2,t2,r2,g2,q2⟩:=z9;refine bV (hi pins s2 σ H2 (λv3 H3=>∃w3 G3,aI H2 H3/\bI X.K H3 w3 v3/\aH X.K H3 G3/\∃a z kvs,w2=.ref a/\w3=.str z/\G3 a=some (.dic kvs)/\kvs.length+1<=100000/\d.nx τ (aG G3 a (.dic (bw kvs (.inr z) w)))) I2 ⟨τ,G2,_,(hst.mono t1).mono t2,g2,q2,λv3 H3 w3 G3 t3 r3 g3 q3=>⟨w3,G3,t3,r3,g3,q3⟩⟩) λiv s3 z9=>?_;obtain ⟨y,H3,I3,ry,w3,G3,t3,r3,g3,a,z,kvs,e1,e2,e3,hl,q3⟩:=z9;subst e1 e2;cases r2;cases r3;cases rx;obtain ⟨_,us,e4,n4,r4⟩:=g3 a _ e3;have dp:=DP.of n4 r4;obtain ⟨zl,hd,vs,rel,dd⟩:=oV I3.hok e4;have hz:vs.length<=sizeLine:=by rw [←rel.length];exact zl
 have hlen:kvs.length+1<=sizeLine:=bJ hl;have hl2:(eS us (.inr z) v).length<=sizeLine:=by have:=ib us (.inr z) v;have:=dp.len;omega
 refine wpAny_setItem_pairs (hsz:=hz) (lG (P:=X.prog) (w:=X.w) (k:= .inr z) ry) dd λh' dd' hs=>?_;have he:∃q,h'.get? a=some q:=let ⟨q,_,_,hq,_⟩:=dd';⟨q,hq⟩;have I4:=kB (t':=s3.toks+1) I3 (by rw [e4];exact True.intro) hs he (rQ hl2 hd (rel.put (.inr z) rv) dd');have tt:=(t1.trans t2).trans t3;have t4:=aI.dk e4 (.dK (eS us (.inr z) v));have dp2:=(dp.put (.inr z) (r1.mono (t2.trans t3))).mono t4;exact ⟨σ,_,I4,l.nx σ _ τ _ (tt.trans t4) (hst.mono (tt.trans t4)) (g3.lay (g:= .dic _) t4 ⟨Nat.le_trans (cj _ _ _) hl,_,aP,dp2.keys,dp2.vals⟩) q3⟩
noncomputable def eW.th (a:Addr) (d:eW):eW where
 nx:=λτ G=>∃o us kvs,G a=some (.fdc o us kvs)/\d.nx τ (aG G a (.dic kvs))
 rt:=λw G=>∃o us kvs,G a=some (.fdc o us kvs)/\d.rt w (aG G a (.dic kvs))
 bk:=λτ G=>∃o us kvs,G a=some (.fdc o us kvs)/\d.bk τ (aG G a (.dic kvs))
 ct:=λτ G=>∃o us kvs,G a=some (.fdc o us kvs)/\d.ct τ (aG G a (.dic kvs))
noncomputable def ft.th (a:Addr) (d:ft):ft where
 nx:=λτ G=>∃o us,G a=some (.frz o (.dK us))/\d.nx τ (upd G a (.dK us))
 rt:=λw G=>∃o us,G a=some (.frz o (.dK us))/\d.rt w (upd G a (.dK us))
 bk:=λτ G=>∃o us,G a=some (.frz o (.dK us))/\d.bk τ (upd G a (.dK us))
 ct:=λτ G=>∃o us,G a=some (.frz o (.dK us))/\d.ct τ (upd G a (.dK us))
theorem vT {st:Stmt} {t:TS} (h:PS X st t):PS X st (λD σ H=>∃a us,H a=some (.dK us)/\t (ft.th a D) σ H):=by
 rintro pins s σ H D I ⟨a,us,e,q⟩;have h0:=I.nofrz e;refine bV (h pins s σ H _ I q) λf s1 z=>?_;cases f with
 | next=>obtain ⟨σ1,H1,I1,o,us,e,q⟩:=z;exact ⟨σ1,_,I1.thaw e h0,q⟩
 | cont=>obtain ⟨σ1,H1,I1,o,us,e,q⟩:=z;exact ⟨σ1,_,I1.thaw e h0,q⟩
 | brk=>obtain ⟨σ1,H1,I1,o,us,e,q⟩:=z;exact ⟨σ1,_,I1.thaw e h0,q⟩
 | ret u=>obtain ⟨v,σ1,H1,I1,rv,o,us,e,q⟩:=z;exact ⟨v,σ1,_,I1.thaw e h0,rv,q⟩
theorem aH.thaw {K:PySem.W.Frag} {G:Gp} {a:Addr} {o:Obj} {us:List (aF×V)} {kvs:List (aF×W)} (g:aH K H G) (e:G a=some (.fdc o us kvs)):
 H a=some (.frz o (.dK us))/\aI H (L2.upd H a (.dK us))/\aH K (L2.upd H a (.dK us)) (aG G a (.dic kvs)):=by
 obtain ⟨l,e1,n,r⟩:=g a _ e;have t:=aI.fz e1 (.dK us);exact ⟨e1,t,g.lay (g:= .dic _) t ⟨l,us,aP,n,r.mono t⟩⟩
noncomputable def xz (t:WS):WS:=λd τ G=>∃a kvs,G a=some (.dic kvs)/\t (d.th a) τ G
theorem vU {st:Stmt} {t:WS} (h:QS X st t):QS X st (xz t):=
 (vT h).imp λD σ H z0=>z0.el λτ G d hs hg ⟨a,kvs,ea,ht⟩ l=>by
   obtain ⟨_,us,e1,_⟩:=hg a _ ea;refine ⟨a,us,e1,τ,G,d.th a,hs,hg,ht,⟨?_,?_,?_,?_⟩⟩
   ·rintro σ1 H1 τ1 G1 t1 s1 g1 ⟨o,us,kvs,e,q⟩;obtain ⟨e2,t2,g2⟩:=g1.thaw e;exact ⟨o,us,e2,l.nx _ _ _ _ (t1.trans t2) (s1.mono t2) g2 q⟩
   ·rintro v H1 w G1 t1 r1 g1 ⟨o,us,kvs,e,q⟩;obtain ⟨e2,t2,g2⟩:=g1.thaw e;exact ⟨o,us,e2,l.rt _ _ _ _ (t1.trans t2) (r1.mono t2) g2 q⟩
   ·rintro σ1 H1 τ1 G1 t1 s1 g1 ⟨o,us,kvs,e,q⟩;obtain ⟨e2,t2,g2⟩:=g1.thaw e;exact ⟨o,us,e2,l.bk _ _ _ _ (t1.trans t2) (s1.mono t2) g2 q⟩
   ·rintro σ1 H1 τ1 G1 t1 s1 g1 ⟨o,us,kvs,e,q⟩;obtain ⟨e2,t2,g2⟩:=g1.thaw e;exact ⟨o,us,e2,l.ct _ _ _ _ (t1.trans t2) (s1.mono t2) g2 q⟩
noncomputable def kW:aF->W
 | .inl i=> .int i
 | .inr x=> .str x
theorem tI {K:PySem.W.Frag} (k:aF):bI K H (kW k) (kV k):=by
 cases k with
 | inl i=>exact .int i
 | inr x=>exact .str x
theorem aH.freeze {K:PySem.W.Frag} {G:Gp} {a:Addr} {us:List (aF×V)} {kvs:List (aF×W)} (g:aH K H G) (e:G a=some (.dic kvs)) (e1:H a=some (.dK us)) (o:Obj):
 aI H (L2.upd H a (.frz o (.dK us)))/\aH K (L2.upd H a (.frz o (.dK us))) (aG G a (.fdc o us kvs)):=by
 obtain ⟨l,us',e2,n,r⟩:=g a _ e;rw [e1] at e2;cases e2;have t:=aI.dk e1 (.frz o (.dK us));exact ⟨t,g.lay (g:= .fdc _ _ _) t ⟨l,aP,n,r.mono t⟩⟩
variable {tg:Expr}
end
end L2
set_option linter.all false
set_option maxRecDepth 100000
namespace L2
open PySem PySem.Spec PyProof.Rows
noncomputable def CL (d:Addr) (o:Obj) (kvs:List (aF×V)):It:=
 ⟨λi H=>H d=some (.frz o (.dK kvs))/\i<kvs.length,
  λi H y H'=>∃p kv,H p=none/\kvs[i]?=some kv/\y=.ref p/\H'=upd H p (.tup [kV kv.1,kv.2]),
  λi H=>H d=some (.frz o (.dK kvs))/\kvs.length<=i⟩
theorem ou {P:Program} {w:World} {K:PySem.W.Frag} {elts:List Expr} {k:Nat} {pos:Pos} {o:Obj} {kvs:List (aF×V)} {es:Array DictEntry} {ep:Nat} (it d:Addr) (hne:d≠it) (hd:o.data=.dict es ep):
 lx P w K (.Tuple elts k pos) (CL d o kvs) [it] it (λi h=>i<=kvs.length/\∃ok ov,IsItemIter h it d i kvs.length ep ok ov) where
 mem:=by simp
 obj:=λi h st b hb=>by
  have e:b=it:=by simpa using hb
  subst e;obtain ⟨_,ok,ov,e1⟩:=st;exact ⟨_,e1,λv z=>by cases z⟩
 keep:=λi h h' st k=>by
  obtain ⟨hi,ok,ov,e1⟩:=st;exact ⟨hi,ok,ov,k it (by simp) _ e1⟩
 item:=by
  intro X hP hw hK hc i pins s σ H E I hf st hg;subst hP hw hK;obtain ⟨f0,f1,f2,f3,f4,f5⟩:=hf it (by simp);obtain ⟨hfz,hi⟩:=hg;obtain ⟨vs,kv,da,_⟩:=I.dictAt hfz hd;have hl:=kv.length;obtain ⟨_,ok,ov,hit⟩:=st;have hi2:i<vs.length:=by omega
  have e0:=List.getElem?_eq_getElem hi;have e1:=List.getElem?_eq_getElem hi2;obtain ⟨pk,pv⟩:=kc kv e0 e1;rw [hl] at hit;refine wpAny_pyNext_items_item (knd:=ba X.prog X.w) (k:=vs[i].1) (v:=vs[i].2) hit da e1 λkey h1 hkey ho ht hsz kk=>⟨_,rfl,?_⟩;refine PySem.wpAny_letOwnedTupleGo_items ho λh2 he2 sb2=>?_;have lt:∀{c:Addr} {o:Obj},s.heap.get? c=some o->c≠s.heap.objs.size:=λe=>Nat.ne_of_lt (Heap.lt_size e);have hnew:H s.heap.objs.size=none:=I.hok.fresh (Nat.le_refl _);have ene:it≠s.heap.objs.size:=lt hit;have keep:∀c o,c≠it->s.heap.get? c=some o->h2.get? c=some o:=λc o c1 q=>sb2.extBut c o c1 (kk c o c1 q);have tn:h2.get? s.heap.objs.size=some { cls:= .type "tuple",data:= .seq #[key,vs[i].2] }:=sb2.extBut _ _ (Ne.symm ene) ht;have notin:∀{c:Addr},c∉[it]->c≠it:=λ{c} hc=>by simpa using hc
  have tracked:∀c u,H c=some u->c∉[it]:=λc u q hc=>by
   rw [(hf c hc).1] at q;cases q
  have rk:aZ (kV kvs[i].1) key:=by rw [pk];exact pR hkey
  refine ⟨.ref s.heap.objs.size,upd H s.heap.objs.size (.tup [kV kvs[i].1,kvs[i].2]),?_,rfl,⟨_,_,hnew,e0,rfl,rfl⟩,⟨by assumption,key,vs[i].2,by rw [hl];exact he2⟩,λc hc=>?_⟩
  ·show aA X pins σ _ { s with heap:=h2,gens:=s.gens,drawn:=s.drawn,toks:=s.toks };refine I.step (g':=s.gens) (d':=s.drawn) (t':=s.toks) (ch:=[it]) (λc hc=>?_) (λc o _ _ hc q _=>?_) (λc o _ _ hc q _=>⟨o.slots,?_⟩) (λc o _ q n=>?_) (λc o hc q=>⟨o,?_⟩) (λc xs q=>?_) (λc o u q=>?_) (λc ps q=>⟨#[],?_⟩) (λm hm=>?_) (λc u q=>?_) I.bare
   ·obtain ⟨_,f1,_,f3,f4,f5⟩:=hf c hc;exact ⟨f3,f1,f4,f5⟩
   ·exact keep c o (notin hc) q
   ·exact keep c o (notin hc) q
   ·rw [ax (lt q)];exact n
   ·exact keep c o (notin hc) q
   ·rw [ax (bf q hnew)];exact q
   ·rw [ax (bf q hnew)];exact q
   ·rw [ax (bf q hnew),q];simp
   ·obtain ⟨o,es,ep,ho,bK⟩:=hm;exact ⟨o,es,ep,keep _ o (Ne.symm f1) ho,bK⟩
   ·by_cases hcs:c=s.heap.objs.size
    ·subst hcs;rw [aP] at q;cases q;exact ⟨by show 2<=sizeLine;decide,[key,vs[i].2],.cons rk (.cons pv .nil),⟨_,tn,rfl,_,rfl⟩⟩
    ·rw [ax hcs] at q;refine (I.hok c u q).stay (λc' v hc' q=>?_) (λc' q=>by rw [ax (bf q hnew)];exact q) λc' xs q=>by rw [ax (bf q hnew)];exact q
     have nt:c'∉[it]:=by
      rcases hc' with rfl | hc'
      ·exact tracked _ _ ‹_›
      ·exact tracked _ _ hc'
     exact keep c' v (notin nt) q
  ·have hc':c=it:=by simpa using hc
   subst hc';rw [ax ene];exact f0
 done:=by
  intro X hP hw hK hc i pins s σ H E I hf st hg;subst hP hw hK;obtain ⟨f0,f1,f2,f3,f4,f5⟩:=hf it (by simp);obtain ⟨hfz,hi⟩:=hg;obtain ⟨vs,kv,da,_⟩:=I.dictAt hfz hd;have hl:=kv.length;obtain ⟨hi2,ok,ov,hit⟩:=st;rw [hl] at hit;exact wpAny_pyNext_items_end (knd:=ba X.prog X.w) (I.ok.hd hc) hit da (List.getElem?_eq_none (by omega)) λh' kk=>⟨rfl,I.turned (t':=s.toks) (λb o hb e=>kk b o (by simpa using hb) e) f0 f1 f3 f4 f5⟩
 self:=λA i s Q E st h=>let ⟨_,_,_,hit⟩:=st;PySem.W.kcp_self hit h
section
variable {X:Cx} {elts:List Expr} {k:Nat} {tp:Pos}
theorem tJ {i:Nat} {x:Str} {p apos cpos:Pos} (hN:X.N[i]?=some x) (hv:wL X.env.scope x) (hd:(x==("__debug__":Str))=false:=by decide) (hcd:(x==("__classdict__":Str))=false:=by decide)
 (hbase:attributeBase (.Name x p) "items" X.env (eval (.Name x p) X.env)=eval (.Name x p) X.env:=by rfl) (hline:(apos.endLine==cpos.line)=true:=by rfl):
 PI X (.Tuple elts k tp) (.Call (.Attribute (.Name x p) "items" apos) [] [] cpos) (λσ H R=>∃a kvs,σ[i]?=some (some (.ref a))/\H a=some (.dK kvs)/\∀o,R (CL a o kvs) (upd H a (.frz o (.dK kvs)))):=by
 rintro pins s σ H R I ⟨a,kvs,hi,e,h⟩;refine wpAny_Call_method0_late hbase hline (bV (iJ (pos:=p) hN hv hd hcd pins s σ H (λv H'=>v=.ref a/\H'=H) I ⟨_,hi,rfl,rfl⟩) λu s1 z9=>?_);obtain ⟨v,H1,I1,r,hv1,hH⟩:=z9;subst hv1;subst hH;obtain rfl:u=Value.ref a:=r;obtain ⟨_,hm,vs,kv,o,es,ep,h1,h2,h3,h4⟩:=oV I1.hok e;have ty:BJ X.K "dict" (.ref a) H1:= .inr (.inr (.inl ⟨rfl,.inl ⟨kvs,e⟩⟩));obtain ⟨t1,t2⟩:=ny I1 (show aZ (V.ref a) (Value.ref a) from rfl) ty;refine ⟨"dict",_,PySem.F.plainAttrs_dict,PySem.F.slot_dict_items,PySem.F.type_dict_items,t1,t2,Calls.callWith_builtin rfl (PySem.evalArgs_none ?_)⟩;refine call_meetsIn PySem.F.slot_dict_items t1 PySem.F.entry_dict_items (PySem.F.args_dict_items_1 _) (meets_dict_items (ba X.prog X.w) a hm) ⟨⟨vs,o,es,ep,h1,h2,h3,h4⟩,?_⟩;have I2:aA X pins σ H1 { s1 with heap:=s1.heap.push { cls:= .type "dict_items",data:= .fields #[.ref a] } }:=I1.kept (t':=s1.toks) λb o e=>Heap.get?_push_of_some _ e;have h1':(s1.heap.push { cls:= .type "dict_items",data:= .fields #[.ref a] }).get? a=some o:=Heap.get?_push_of_some _ h1;have J:=I2.freeze e h1';refine wpAny_pyIter_items (knd:=ba X.prog X.w) (d:=a) ⟨_,Heap.get?_push_size _ rfl,rfl,rfl⟩ ⟨o,es,h1',h2,h3,h4⟩ ?_;have hne:a≠(s1.heap.push { cls:= .type "dict_items",data:= .fields #[.ref a] }).objs.size:=Nat.ne_of_lt (Heap.lt_size h1');refine ⟨_,[(s1.heap.push { cls:= .type "dict_items",data:= .fields #[.ref a] }).objs.size],_,_,_,rfl,J.kept (t':=s1.toks) λb o e=>Heap.get?_push_of_some _ e,ou (o:=o) (kvs:=kvs) (es:=es) (ep:=ep) _ a hne h3,⟨Nat.zero_le _,.none,.none,by rw [kv.length];exact Heap.get?_push_size _ rfl⟩,λb hb=>?_,h o⟩;have e:b=(s1.heap.push { cls:= .type "dict_items",data:= .fields #[.ref a] }).objs.size:=by simpa using hb
 subst e;exact J.fpOk (Nat.le_refl _) (J.hok.fresh (Nat.le_refl _))
theorem qM {K:PySem.W.Frag} {H:Hp} {a:Addr} {o:Obj} {us:List (aF×V)} {kvs:List (aF×W)}:qE K (CL a o us) (kvs.map λp=> .tup [kW p.1,p.2]) (λG=>G a=some (.fdc o us kvs)) H where
 stop:=λi H1 G t g e hl=>by
  obtain ⟨_,e1,n,r⟩:=g a _ e;have:=(DP.of n r).len;rw [List.length_map] at hl;exact ⟨e1,by omega⟩
 go:=λi w H1 G t g eG e=>by
  obtain ⟨_,e1,n,r⟩:=g a _ eG;have hl:=(DP.of n r).len;rw [List.getElem?_map] at e;cases hk:kvs[i]? with
  | none=>rw [hk] at e;cases e
  | some p=>
    rw [hk] at e;cases e;have hi:=(List.getElem?_eq_some_iff.mp hk).1;obtain ⟨v,h5,rv⟩:=r.get (i:=i) (w:=p.2) (by rw [List.getElem?_map,hk];rfl);refine ⟨⟨e1,by omega⟩,λx H' z9=>?_⟩;obtain ⟨q,kv,hq,h1,h2,h3⟩:=z9;subst h2 h3;have h4:(us.map (·.1))[i]?=some kv.1:=by rw [List.getElem?_map,h1];rfl
    rw [n,List.getElem?_map,hk] at h4;have h4':p.1=kv.1:=Option.some.inj h4;rw [List.getElem?_map,h1] at h5;cases h5;have tn:=aI.new hq (HO.tup [kV kv.1,kv.2]);refine ⟨tn,.tup aP (.cons ?_ (.cons (rv.mono tn) .nil)),g.keep hq _⟩;rw [h4'];exact tI _
noncomputable def ow (i:Nat):WI:=λτ G r=>match τ[i]? with
 | some (some (.ref a))=>∃kvs,G a=some (.dic kvs)/\∀o us,r (kvs.map λp=> .tup [kW p.1,p.2]) (λG=>G a=some (.fdc o us kvs)) (aG G a (.fdc o us kvs))
 | _=>False
theorem tK (i:Nat) {x:Str} {p apos cpos:Pos} (hN:X.N[i]?=some x) (hv:wL X.env.scope x) (hd:(x==("__debug__":Str))=false:=by decide) (hcd:(x==("__classdict__":Str))=false:=by decide)
 (hbase:attributeBase (.Name x p) "items" X.env (eval (.Name x p) X.env)=eval (.Name x p) X.env:=by rfl) (hline:(apos.endLine==cpos.line)=true:=by rfl):
 QI X (.Tuple elts k tp) (.Call (.Attribute (.Name x p) "items" apos) [] [] cpos) (ow i):=
 (tJ hN hv hd hcd hbase hline).imp λσ H R ⟨τ,G,r,hs,hg,ht,hR⟩=>by
   unfold ow at ht;split at ht
   ·rename_i a e;obtain ⟨kvs,ea,ht⟩:=ht;obtain ⟨v,e1,rv⟩:=hs.2 i _ e;cases rv;obtain ⟨_,us,e2,_⟩:=hg a _ ea;refine ⟨a,us,e1,e2,λo=>?_⟩;obtain ⟨t,g⟩:=hg.freeze ea e2 o;exact hR _ _ _ _ _ t g qM (ht o us)
   ·exact ht.elim
end
end L2
set_option linter.all false
set_option maxRecDepth 100000
namespace L2
open PySem PySem.Spec PyProof.Rows
section
variable {X:Cx} {pins:List (Addr×Obj)} {σ:St} {H:Hp} {s:Shared}
theorem ox:bootBuiltins "dict"=some (.type "dict"):=by decide+kernel
inductive zh (G:Gp) (a:Addr):Nat->Prop where
 | lst {ws:List W} (h:G a=some (.lst ws)):zh G a ws.length
 | dic {kvs:List (aF×W)} (h:GD G a kvs):zh G a kvs.length
noncomputable def tL:List W->Gp->WK->Prop:=λws G q=>match ws with
 | [.ref a]=>∃n:Nat,zh G a n/\q (.int n) G
 | ws=>pQ ws G q
theorem fN:eR X (.builtin "len") tL:=by
 rintro pins s σ H xs us Q I r ⟨ws,G,q,rw',g,h,hQ⟩;unfold tL at h;split at h
 ·obtain ⟨n,hn,h⟩:=h;cases hn with
  | lst e=>exact xf pins s σ H xs us Q I r ⟨_,G,q,rw',g,⟨_,e,h⟩,hQ⟩
  | dic hd=>
    obtain ⟨v,rfl,r1⟩:=rw'.one;cases r1;obtain ⟨u,rfl,ru⟩:=fy r;cases ru;obtain ⟨_,us,rd,dp⟩:=hd.rd g;refine Aq I rd λt s' I'=>⟨.int us.length,H,I',⟨t,rfl⟩,hQ _ H _ G (aI.refl H) ?_ g h⟩;rw [dp.len];exact .int _
 ·exact ze pins s σ H xs us Q I r ⟨ws,G,q,rw',g,h,hQ⟩
inductive zk (G:Gp) (a:Addr):List W->Prop where
 | lst {ws:List W} (h:G a=some (.lst ws)):zk G a ws
 | dic {kvs:List (aF×W)} (h:GD G a kvs):zk G a (kvs.map λp=>kW p.1)
noncomputable def oy:List W->Gp->WK->Prop:=λws G q=>match ws with
 | [.ref a]=>∃ws,zk G a ws/\∀p,G p=none->q (.ref p) (aG G p (.lst ws))
 | ws=>oY ws G q
theorem pS {P:Program} {w:World}:∀{us:List (aF×V)} {vs:List (aF×Value)} {its:List Value},KV us vs->its.length=vs.length->(∀(j:Nat) (v:Value),its[j]?=some v->∃(k:aF) (x:Value),vs[j]?=some (k,x)/\(ba P w).is k v=true)->aM (us.map λp=>kV p.1) its
 | [],_,[],.nil,_,_=> .nil
 | [],_,_::_,.nil,h,_=>by simp at h
 | _::_,_,[],.cons _ _,h,_=>by simp at h
 | p::us,_,u::its,.cons r t,h,hv=>by
   obtain ⟨k,x,e1,e2⟩:=hv 0 u rfl;cases e1;refine .cons ?_ (pS (P:=P) (w:=w) t (by simpa using h) λj v e=>by simpa using hv (j+1) v (by simpa using e));show aZ (kV p.1) u;rw [show p.1=k from r.1];exact pR e2
theorem pT (hc:X.calm=true):eR X (.type "list") oy:=by
 rintro pins s σ H xs us Q I r ⟨ws,G,q,rw',g,h,hQ⟩;unfold oy at h;split at h
 ·rename_i a;obtain ⟨ws,hw,h⟩:=h;cases hw with
  | lst e=>exact r6 pins s σ H xs us Q I r ⟨_,G,q,rw',g,⟨_,e,h⟩,hQ⟩
  | dic hd=>
    obtain ⟨v,rfl,r1⟩:=rw'.one;cases r1;obtain ⟨u,rfl,ru⟩:=fy r;cases ru;obtain ⟨hl,us,rd,dp⟩:=hd.rd g;obtain ⟨zl,hm,vs,rel,dd⟩:=eV I.hok rd;obtain ⟨ep,hat⟩:=dd.dictAt;refine PySem.W.kdl_call (PySem.W.kdl_dict (knd:=ba X.prog X.w) (kvs:=vs) (ep:=ep) hm) (I.ok.hd hc) hat (by rw [←rel.length];exact zl) λh' tk acc' c' kp e hacc=>?_;have rv:aM (us.map λp=>kV p.1) acc'.toList:=pS (P:=X.prog) (w:=X.w) rel (by rw [Array.length_toList];exact hacc.1) λj v e=>hacc.2 j v (by rw [←Array.getElem?_toList];exact e);have hsz:(us.map λp=>kV p.1).length<=sizeLine:=by rw [List.length_map];exact zl
    have hp:=I.hok.fresh (Nat.le_refl s.heap.objs.size);have e':h'.get? s.heap.objs.size=some { cls:= .type "list",data:= .seq acc'.toList.toArray c' }:=by simpa using e
    refine ⟨.ref s.heap.objs.size,_,I.laid (t':=tk) (λb o q=>kp b o q) (Nat.le_refl _) (show bE X.prog X.w _ h' _ (.lst (us.map λp=>kV p.1)) from ⟨hsz,acc'.toList,c',rv,e'⟩),rfl,?_⟩;have rr:∀{kvs:List (aF×W)} {us:List (aF×V)},DP X.K H kvs us->aJ X.K H (kvs.map λp=>kW p.1) (us.map λp=>kV p.1):=by
     intro kvs us d
     induction d with
     | nil=>exact .nil
     | cons r t ih=>exact .cons (tI _) ih
    exact hQ _ _ _ _ (aI.new hp _) (.ref _) (g.put (aI.new hp _) (rr dp) (by rw [List.length_map];exact hl)) (h _ (g.fresh hp))
 ·exact r6 pins s σ H xs us Q I r ⟨ws,G,q,rw',g,h,hQ⟩
noncomputable def CM:V->List V->Hp->VK->Prop:=λx vs H Q=>∃a kvs k d,x=.ref a/\vs=[kV k,d]/\H a=some (.dK kvs)/\Q ((kA kvs k).getD d) H
theorem zm:An X "dict.get" CM:=by
 rintro pins s σ H x vs v us Q I rx rv ⟨a,kvs,k,d,e1,e2,e,q⟩;subst e1 e2;cases rx;obtain ⟨u1,u2,rfl,r1,r2⟩:=oK rv;obtain ⟨z,hd,vs,rel,dd⟩:=oV I.hok e;exact call_meetsIn PySem.F.slot_dict_get dd.typeIs PySem.F.entry_dict_get (PySem.F.args_dict_get_3 _ _ _) (meets_dict_get_default (ba X.prog X.w) a (lG r1) hd u2) ⟨_,dd.mapOf,_,H,I.tok _,(rel.val k).getD r2,q⟩
noncomputable def xA (to tk td:WE):WE:=λτ G q=>to τ G λx G1=>match x with
 | .ref a=>(∃kvs,G1 a=some (.dic kvs))/\tk τ G1 λy G2=>td τ G2 λd G3=>∃z kvs,y=.str z/\G3 a=some (.dic kvs)/\q ((cz kvs (.inr z)).getD d) G3
 | _=>False
theorem vV {o k e:Expr} {to tk te:WE} {apos cpos:Pos} (ho:QE X o to) (hk:QE X k tk) (he:QE X e te)
 (hbase:attributeBase o "get" X.env (eval o X.env)=eval o X.env:=by rfl)
 (hfew:((backTo cpos (starEach [k,e] X.env)).all (λx=>!x.1)&&(backToKw cpos (keywordEach [] X.env)).all (λx=>x.1.isSome)
   &&decide (([k,e]:List Expr).length+([]:List Keyword).length+(if ([]:List Keyword).isEmpty then 0 else 1)<30))=true:=by rfl)
 (hline:(apos.endLine==cpos.line)=true:=by rfl) (hs:starEach [k,e] X.env=(false,eval k X.env)::starEach [e] X.env:=by rfl) (hs2:starEach [e] X.env=(false,eval e X.env)::starEach [] X.env:=by rfl) (hpl:(backTo cpos (starEach [e] X.env)).any (·.1)=false:=by rfl):
 QE X (.Call (.Attribute o "get" apos) [k,e] [] cpos) (xA to tk te):=
 (wR PySem.F.plainAttrs_dict PySem.F.slot_dict_get PySem.F.type_dict_get zm ho (bL hk (bL he pa_nil hs2) hs) hbase hfew hline hs hpl).imp λσ H Q z0=>z0.el λτ G q hs hg ht hQ=>
   ⟨τ,G,_,hs,hg,ht,λv H1 w G1 t1 r1 g1 q1=>by
     split at q1
     ·rename_i a;cases r1;obtain ⟨⟨kvs,e1⟩,q1⟩:=q1;obtain ⟨_,us,h1,_⟩:=g1 a _ e1;refine ⟨.inr (.inr (.inl ⟨rfl,.inl ⟨us,h1⟩⟩)),τ,G1,_,hs.mono t1,g1,q1,λv2 H2 w2 G2 t2 r2 g2 q2=>?_⟩;refine ⟨τ,G2,_,(hs.mono t1).mono t2,g2,q2,λv3 H3 w3 G3 t3 r3 g3 q3=>?_⟩;obtain ⟨z,kvs,rfl,e2,q3⟩:=q3;cases r2;obtain ⟨_,us,h2,n,rr⟩:=g3 a _ e2;refine ⟨a,us,.inr z,v3,rfl,rfl,h2,hQ _ _ _ _ ((t1.trans t2).trans t3) ?_ g3 q3⟩;rcases (DP.of n rr).val (.inr z) with ⟨e,e'⟩ | ⟨w',v',e,e',r⟩
      ·rw [e,e'];exact r3
      ·rw [e,e'];exact r
     ·exact q1.elim⟩
inductive ke (G:Gp):W->W->Prop where
 | int (i:Int):ke G (.int i) (.int i)
 | lst {a b:Addr} {ws us:List W} (ea:G a=some (.lst ws)) (eb:G b=some (.lst us)) (f1:W.flats ws=true) (f2:W.flats us=true) (hd:W.deps ws<=8) (he:W.eqs ws us=true):ke G (.ref a) (.ref b)
inductive A6 (G:Gp) (a b:Addr):Bool->Prop where
 | lst {ws us:List W} (ea:G a=some (.lst ws)) (eb:G b=some (.lst us)) (f1:W.flats ws=true) (f2:W.flats us=true) (hd:W.deps ws<=149):A6 G a b (W.eqs ws us)
 | dic {kvs us:List (aF×W)} (ea:GD G a kvs) (eb:GD G b us) (hl:kvs.length=us.length) (hv:∀p,p∈kvs->∃w',cz us p.1=some w'/\ke G p.2 w'):A6 G a b true
noncomputable def zn:W2:=λx y G q=>match x,y with
 | .ref a,.ref b=>∃r,A6 G a b r/\q (.bl r) G
 | x,y=>sd x y G q
noncomputable def zo:W2:=λx y G q=>match x,y with
 | .ref a,.ref b=>∃r,A6 G a b r/\q (.bl (!r)) G
 | x,y=>se x y G q
theorem vW {A:Around} (hu:A.units+20<cLine) {G:Gp} {w1 w2:W} {v1 v2:V} {u1 u2:Value} (I:aA X pins σ H s) (g:aH X.K H G) (h:ke G w1 w2) (r1:bI X.K H w1 v1) (r2:bI X.K H w2 v2) (q1:aZ v1 u1) (q2:aZ v2 u2):SeqAt.EqAt A s u1 u2 true:=by
 cases h with
 | int i=>
   cases r1;cases r2;have:=(gH I 10 A (w1:= .int i) (w2:= .int i) (by show 0<10;decide) rfl rfl (by omega) (.int i) (.int i) q1 q2).1;rw [ol] at this;simpa using this
 | @lst a b ws us ea eb f1 f2 hd he=>
   cases r1;cases r2;cases q1;cases q2
   by_cases hne:a=b
   ·subst hne;exact SeqAt.EqAt.same _
   obtain ⟨_,xs,e1,ra⟩:=g _ _ ea;obtain ⟨_,ys,e2,rb⟩:=g _ _ eb;obtain ⟨its,rv,p,_⟩:=I.list (cW.of e1);obtain ⟨its2,rv2,p2,_⟩:=I.list (cW.of e2);have l1:its.length=ws.length:=by rw [←rv.length,ra.length]
   have l2:its2.length=us.length:=by rw [←rv2.length,rb.length]
   have hl:ws.length=us.length:=by
    by_cases hl:ws.length=us.length
    ·exact hl
    ·rw [kI hl] at he;cases he
   have c1:=SeqAt.RcAt.lists p.isList p2.isList (by rw [List.size_toArray,List.size_toArray,l1,l2,hl]) (A:=A) (by omega) (Ct I (n:=10) (by omega) f1 f2 (by show A.units+1+10<cLine;omega) ra rb rv rv2);have er:=fh ws us;rw [←hl,Nat.min_self,beq_self_eq_true,Bool.and_true] at er;rw [List.size_toArray,l1,er,he] at c1;exact SeqAt.EqAt.of_refs hne c1
theorem kU {A:Around} (hu:A.units+20<cLine) {G:Gp} (I:aA X pins σ H s) (g:aH X.K H G) {kb:List (aF×Value)} {us:List (aF×W)} {ub:List (aF×V)} (db:DP X.K H us ub) (rb:KV ub kb):
 ∀{kvs:List (aF×W)} {ua:List (aF×V)} {ka:List (aF×Value)},DP X.K H kvs ua->KV ua ka->(∀p,p∈kvs->∃w',cz us p.1=some w'/\ke G p.2 w')->PySem.W.KeqHits A s kb ka true:=by
 intro kvs ua ka d
 induction d generalizing ka with
 | nil=>
   intro r _;cases r;exact .nil
 | @cons k w v kvs ua rw' t ih=>
   intro r hv;cases r with
   | @cons _ b _ bs r1 rt=>
     obtain ⟨b1,b2⟩:=b;obtain ⟨e1,r2⟩:=r1;cases (show k=b1 from e1);obtain ⟨w',hw,sv⟩:=hv _ List.mem_cons_self;rcases db.val k with ⟨e,_⟩ | ⟨w2,v2,e,e',r3⟩
     ·rw [e] at hw;cases hw
     ·rw [e] at hw;cases hw;obtain ⟨y,hy,ry⟩:=fH.some_of (v:=v2) (o:=valueAt kb k) (by rw [←e'];exact rb.val k);exact .hit (e:=true) (b:=true) hy (vW hu I g sv rw' r3 r2 ry) (ih rt λp hp=>hv p (List.mem_cons_of_mem _ hp))
theorem A7 {k:Nat} (hr:ay k X.A):ic X (compareOp .Eq) zn:=by
 rintro pins s σ H x y v u Q I rx ry ⟨wx,wy,G,q,r1,r2,g,h,hQ⟩;unfold zn at h;split at h
 ·obtain ⟨r,he,h⟩:=h;cases he with
  | lst ea eb f1 f2 hd=>exact AJ hr pins s σ H x y v u Q I rx ry ⟨_,_,G,q,r1,r2,g,⟨_,_,ea,eb,f1,f2,hd,h⟩,hQ⟩
  | dic ea eb hl hv=>
    cases r1;cases r2;cases rx;cases ry;have hu:=hr.un;obtain ⟨_,ua,ra,da⟩:=ea.rd g;obtain ⟨_,ub,rb,db⟩:=eb.rd g;obtain ⟨_,ma,ka,qa,dda⟩:=eV I.hok ra;obtain ⟨_,mb,kb,qb,ddb⟩:=eV I.hok rb;have hlen:ka.length=kb.length:=by rw [←qa.length,←qb.length,da.len,db.len,hl]
    refine PySem.W.keq_eq ma mb dda ddb (by omega) (λ_=>kU (A:=X.A.in1) (by show X.A.units+1+20<cLine;omega) I g db qb da qa hv) ?_;rw [hlen,beq_self_eq_true,Bool.true_and];exact ⟨.bl _,H,I,rfl,hQ _ H _ G (aI.refl H) (.bl _) g h⟩
 ·exact yD hr pins s σ H x y v u Q I rx ry ⟨wx,wy,G,q,r1,r2,g,h,hQ⟩
theorem A8 {k:Nat} (hr:ay k X.A):ic X (compareOp .NotEq) zo:=by
 rintro pins s σ H x y v u Q I rx ry ⟨wx,wy,G,q,r1,r2,g,h,hQ⟩;unfold zo at h;split at h
 ·obtain ⟨r,he,h⟩:=h;cases he with
  | lst ea eb f1 f2 hd=>exact AK hr pins s σ H x y v u Q I rx ry ⟨_,_,G,q,r1,r2,g,⟨_,_,ea,eb,f1,f2,hd,h⟩,hQ⟩
  | dic ea eb hl hv=>
    cases r1;cases r2;cases rx;cases ry;have hu:=hr.un;obtain ⟨_,ua,ra,da⟩:=ea.rd g;obtain ⟨_,ub,rb,db⟩:=eb.rd g;obtain ⟨_,ma,ka,qa,dda⟩:=eV I.hok ra;obtain ⟨_,mb,kb,qb,ddb⟩:=eV I.hok rb;have hlen:ka.length=kb.length:=by rw [←qa.length,←qb.length,da.len,db.len,hl]
    refine PySem.W.keq_ne ma mb dda ddb (by omega) (λ_=>kU (A:=X.A.in1) (by show X.A.units+1+20<cLine;omega) I g db qb da qa hv) ?_;rw [hlen,beq_self_eq_true,Bool.true_and];exact ⟨.bl _,H,I,rfl,hQ _ H _ G (aI.refl H) (.bl _) g h⟩
 ·exact yE hr pins s σ H x y v u Q I rx ry ⟨wx,wy,G,q,r1,r2,g,h,hQ⟩
structure Em (ws:List W) (x:W) (j:Nat):Prop where
 hit:∃w,ws[j]?=some w/\w.eq x=true
 no:∀m w,m<j->ws[m]?=some w->w.eq x=false
end
end L2
set_option linter.all false
set_option maxRecDepth 100000
namespace L2
open PySem PySem.Spec PyProof.Rows
section
variable {prog:Program} {w:World} {A:Around} {R:Result->Shared->Prop} {I:Addr} {fp wr:List Addr} {Gn:Array GenState->Array GenState->Prop} {n:Nat} {P:Nat->Value->Prop} {St:Nat->Shared->Prop}
end
section
variable {prog:Program} {w:World} {A:Around} {E:Value->Shared->Prop} {s:Shared}
set_option maxHeartbeats 3200000 in
end
section
variable {X:Cx}
end
end L2
set_option linter.all false
set_option maxRecDepth 100000
namespace L2
open PySem PySem.Spec PyProof.Rows
section
variable {X:Cx} {pins:List (Addr×Obj)} {σ:St} {H:Hp} {s:Shared}
theorem mo {prog:Program} {w:World} {A:Around} {E:Value->Shared->Prop} {a:Addr} {xs:Array Value} {k:Nat} {sl:Array (Option Value)} {h:Heap} {g:_} {d:_} {t:Nat} {os:_} {Q:Option Value->Shared->Prop}
 (hx:h.get? a=some { cls:= .type "list",dict:=none,data:= .seq xs k,slots:=sl }) (hA:A.handled=none)
 (hq:∀(h':Heap) (tk:Nat),(∀(b:Addr) (o:Obj),h.get? b=some o->h'.get? b=some o)->Q none ⟨h',g,d,tk,os⟩):
 wpAny (model prog w) A (getAttr? (.ref a) "keys") Q E ⟨h,g,d,t,os⟩:=by
 unfold getAttr? getAttrBy?;have hT:∀t,(Shared.mk h g d t os).TypeIs (.ref a) "list":=λt=>⟨_,hx,rfl⟩;have f1:=PySem.sub_AttributeError;have f3:=PySem.F.slot_list_getattribute.lookup;have f4:=PySem.F.slot_list_getattribute.bind (Value.ref a);have f5:=PySem.am_list_getattr_none;refine wpAny_bind ?_;unfold mkText;refine wpAny_bind (wpAny_fresh' (wpAny_pure ?_));refine wpAny_bind (wpAny_attempt ?_);unfold getAttrBy;refine wpAny_holding ?_;refine wpAny_bind ?_;unfold typeOf;refine wpAny_bind (wpAny_loadPart' hx (wpAny_pure ?_));refine wpAny_bind (wpAny_of_eq f3 ?_);refine wpAny_ite_false (by rfl) ?_;unfold getAttrByItsOwn;refine wpAny_bind ?_;unfold hookBefore;refine wpAny_ite_false (by rfl) (wpAny_pure ?_);refine wpAny_bind (wpAny_attempt ?_);refine wpAny_holding ?_;unfold callGetattribute;refine wpAny_ite_false (by rfl) ?_;refine wpAny_bind (wpAny_of_eq f4 ?_);refine call_meets PySem.F.slot_list_getattribute (hT _) PySem.am_entry_list_getattribute (PySem.F.args_list_getattribute_2 _ _) (PySem.meets_getattribute_miss_list a xs k sl "keys" t (by rfl) (by decide)) ⟨hx,?_⟩;refine ⟨hA,λh' tk e hx'=>?_⟩;have te:(Shared.mk h' g d tk os).TypeIs (.ref e) "AttributeError":=by
  obtain ⟨t1,u1,e1⟩:=hx'.there;exact ⟨_,e1,rfl⟩
 show wpAny _ _ (getattributeRaised _ _ _ _ _ _ _) _ _ _;unfold getattributeRaised;refine wpAny_bind (wpAny_isInstance te f1 ?_);refine wpAny_ite_true (by rfl) ?_;unfold hookBehind hookOrError;refine wpAny_bind (wpAny_ite_false (by rfl) (wpAny_of_eq f5 ?_));show wpAny _ _ (attributeErrorLeaves _ _ _ _ _) _ _ _;unfold attributeErrorLeaves
 repeat (any_goals (first | assumption | wp_step))
 exact hq h' tk hx'.keeps
set_option maxHeartbeats 4000000 in
theorem im:entryFor table "dict.update.loop"=some Builtin.«dict.update.loop»:=by rfl
theorem mq {prog:Program} {w:World} {A:Around} (hA:A.handled=none) {d it l:Addr} (hdi:d≠it) (hdl:d≠l) (hil:it≠l) {items:Array Value} {R:Result->Shared->Prop}:
 ∀(ps:List (aF×Value)) (i:Nat) (s:Shared) (kvs:List (aF×Value)) (tok:Tok),i+ps.length=items.size->s.heap.IsListIter it l i->s.heap.IsList l items->s.heap.DictOf (ba prog w) d kvs->
 (∀(j:Nat) (p:aF×Value),ps[j]?=some p->∃t k,items[i+j]?=some (.ref t)/\t≠d/\t≠it/\s.heap.IsTuple t #[k,p.2]/\(ba prog w).is p.1 k=true)->
 kvs.length+ps.length<=sizeLine->
 (∀(h':Heap) (tk:Nat),(∀(b:Addr) (o:Obj),b≠d->b≠it->s.heap.get? b=some o->h'.get? b=some o)->h'.DictOf (ba prog w) d (ps.foldl (λkvs p=>stored kvs p.1 p.2) kvs)->R (.ok (.ret .none)) ⟨h',s.gens,s.drawn,tk,s.os⟩)->
 codeAny (model prog w) A (.builtin "dict.update.loop" ⟨[.ref d,.ref it,.int (i:Int) tok,.none],[]⟩) R s
 | [],i,s,kvs,tok,hn,hi,hl,hd,hp,hz,hR=>by
   refine codeAny_builtin im ?_;unfold Builtin.«dict.update.loop»;dsimp only;refine wpAny_bind (wpAny_pyNext_list_end (by exact hA) hi hl (by simp at hn ⊢;omega) λh' eb=>?_);dsimp only;refine wpAny_bind ?_;unfold Builtin.Dict.addKeywords;refine wpAny_bind (wpAny_pure (wpAny_pure (wpAny_pure ?_)));refine hR h' s.toks (λb o _ hb e=>eb b o hb e) ?_;obtain ⟨o,es,ep,e,c⟩:=hd;exact ⟨o,es,ep,eb d o hdi e,c⟩
 | p::ps,i,s,kvs,tok,hn,hi,hl,hd,hp,hz,hR=>by
   refine codeAny_builtin im ?_;unfold Builtin.«dict.update.loop»;dsimp only;obtain ⟨t,k,e1,td,ti,e2,e3⟩:=hp 0 p rfl;refine wpAny_bind (wpAny_pyNext_list_item hi hl e1 λh' hi' sb=>?_);dsimp only;refine wpAny_bind (wpAny_holding ?_);refine wpAny_bind ?_;refine wpAny_tryCatch ?_;obtain ⟨o,g1,g2,n,g3⟩:=e2;have g1':h'.get? t=some o:=(sb.2 t ti).trans g1;unfold Builtin.Dict.pairItems;refine wpAny_bind (wpAny_typeOf (T:="tuple") ⟨o,g1',g2⟩ ?_);refine wpAny_ite_true (by rfl) ?_;refine wpAny_bind (wpAny_seqItems g1' g3 (wpAny_pure ?_));show wpAny _ _ (holding [k,p.2] (dictSet d k p.2)) _ _ _;have hz':kvs.length+(ps.length+1)<=sizeLine:=hz;refine wpAny_holding (wpAny_dictSet_pairs e3 (hd.sameBut sb hdi) (λh2 hd2 sb2=>wpAny_pure ⟨PySem.Code.quiet_builtin _ (by decide+kernel),?_⟩) (by omega));have k2:∀b,b≠d->b≠it->h2.get? b=s.heap.get? b:=λb h1 h2=>(sb2.2 b h1).trans (sb.2 b h2);have hn':i+(ps.length+1)=items.size:=hn;refine mq (items:=items) hA hdi hdl hil ps (i+1) ⟨h2,s.gens,s.drawn,s.toks+1,s.os⟩ (stored kvs p.1 p.2) 0 (by omega) ?_ ?_ hd2 (λj q hq=>?_) ?_ λh3 tk kp hd3=>?_
   ·obtain ⟨o1,e1,c1⟩:=hi';exact ⟨o1,(sb2.2 it hdi.symm).trans e1,c1⟩
   ·obtain ⟨o1,e1,c1⟩:=hl;exact ⟨o1,(k2 l hdl.symm hil.symm).trans e1,c1⟩
   ·obtain ⟨t',k',a1,a2,a3,⟨o1,a4,a5⟩,a6⟩:=hp (j+1) q hq;exact ⟨t',k',by rw [show i+1+j=i+(j+1) by omega];exact a1,a2,a3,⟨o1,(k2 t' a2 a3).trans a4,a5⟩,a6⟩
   ·have:=PySem.stored_length_le kvs p.1 p.2;show (stored kvs p.1 p.2).length+ps.length<=sizeLine;omega
   ·exact hR h3 tk (λb o h1 h2 e=>kp b o h1 h2 ((k2 b h1 h2).trans e)) hd3
theorem oz {prog:Program} {w:World} {A:Around} {E:Value->Shared->Prop} {s:Shared} (hA:A.handled=none) (hb:sysModules<s.heap.objs.size) {l:Addr} {items:Array Value} {n:Nat} {sl:Array (Option Value)} {ps:List (aF×Value)} {Q:Value->Shared->Prop}
 (hl:s.heap.get? l=some { cls:= .type "list",dict:=none,data:= .seq items n,slots:=sl }) (hn:ps.length=items.size) (hz:ps.length<=sizeLine)
 (hp:∀(j:Nat) (p:aF×Value),ps[j]?=some p->∃t k,items[j]?=some (.ref t)/\s.heap.IsTuple t #[k,p.2]/\(ba prog w).is p.1 k=true)
 (hQ:∀(h':Heap) (tk:Nat),(∀(b:Addr) (o:Obj),s.heap.get? b=some o->h'.get? b=some o)->h'.DictOf (ba prog w) s.heap.objs.size (ps.foldl (λkvs p=>stored kvs p.1 p.2) [])->Q (.ref s.heap.objs.size) ⟨h',s.gens,s.drawn,tk,s.os⟩):
 wpAny (model prog w) A (call (.type "dict") [.ref l]) Q E s:=by
 refine callType_codes PySem.F.kt_called_dict (PySem.F.kt_typeCall_dict_1 (.ref l)) PySem.F.entry_dict_init (kt_code_dict_new (.ref l) (Q₁:=λobj s₁=>obj=.ref s.heap.objs.size/\s₁={ s with heap:=s.heap.push { cls:= .type "dict",data:= .dict #[] } }) ⟨rfl,rfl⟩) λobj s₁ a=>?_;obtain ⟨rfl,rfl⟩:=a;have hnew:=PySem.Heap.DictOf.new (knd:=ba prog w) s.heap;have hpu:∀b o,s.heap.get? b=some o->(s.heap.push { cls:= .type "dict",data:= .dict #[] }).get? b=some o:=λb o e=>Heap.get?_push_of_some _ e;refine ⟨PySem.Heap.DictOf.typeIs hnew,PySem.F.args_dict_init_2 _ _,?_⟩;unfold Builtin.«dict.__init__»;refine wpAny_bind ?_;unfold Builtin.Dict.selfAndRest;refine wpAny_bind (wpAny_notOrdered_dict (PySem.Heap.DictOf.typeIs hnew) (wpAny_pure ?_));show wpAny _ _ (Builtin.Dict.updateFrom "dict.__init__" s.heap.objs.size (.ref l) [] .none) _ _ _;unfold Builtin.Dict.updateFrom;refine wpAny_bind (wpAny_typeOf (T:="list") ⟨_,hpu _ _ hl,rfl⟩ ?_);refine wpAny_ite_true (by rfl) ?_;refine wpAny_bind (mo (hpu _ _ hl) (by exact hA) λh1 tk k1=>?_);refine wpAny_ite_true (by rfl) ?_;refine wpAny_bind (wpAny_rule ?_);have hl1:=k1 _ _ (hpu _ _ hl);refine wpAny_bind (wpAny_pyIter_list (items:=items) ⟨_,hl1,rfl,n,rfl⟩ ?_);obtain ⟨od,es,ep,ed,hnew'⟩:=hnew;have ed1:=k1 _ _ ed;have d1:=Heap.lt_size ed1;have l0:=Heap.lt_size hl;have l1:=Heap.lt_size hl1;have kk:∀b o,s.heap.get? b=some o->(h1.push { cls:= .type "list_iterator",data:= .fields #[.ref l,.int 0 0] }).get? b=some o:=λb o e=>Heap.get?_push_of_some _ (k1 _ _ (hpu _ _ e));refine wpAny_pure ⟨PySem.Code.quiet_builtin _ (by decide+kernel),mq (A:=A.in1) (items:=items) (l:=l) hA (Nat.ne_of_lt d1) (Nat.ne_of_gt l0) (Nat.ne_of_gt l1) ps 0 _ [] 0 (by omega) ⟨_,Heap.get?_push_size _ rfl,rfl,rfl⟩ ⟨_,kk _ _ hl,rfl,n,rfl⟩ ⟨od,es,ep,Heap.get?_push_of_some _ ed1,hnew'⟩ (λj p hj=>?_) (by simpa using hz) λh' tk' kp hd'=>⟨rfl,hQ h' tk' (λb o e=>kp b o (Nat.ne_of_lt (Heap.lt_size e)) (Nat.ne_of_lt (Heap.lt_size (k1 _ _ (hpu _ _ e)))) (kk b o e)) hd'⟩⟩;obtain ⟨t,k,e1,⟨o,e2,e3⟩,e4⟩:=hp j p hj;exact ⟨t,k,by rw [Nat.zero_add];exact e1,Nat.ne_of_lt (Heap.lt_size e2),Nat.ne_of_lt (Heap.lt_size (k1 _ _ (hpu _ _ e2))),⟨o,kk _ _ e2,e3⟩,e4⟩
inductive zq (G:Gp) (a:Addr) (kvs:List (aF×W)):Prop where
 | dic (h:GD G a kvs):zq G a kvs
 | lst {ps:List (aF×W)} (h:G a=some (.lst (ps.map λp=> .tup [kW p.1,p.2]))) (e:kvs=ps.foldl (λa p=>bw a p.1 p.2) []):zq G a kvs
noncomputable def zt:List W->Gp->WK->Prop:=λws G q=>match ws with
 | [.ref a]=>∃kvs,zq G a kvs/\∀p,G p=none->q (.ref p) (aG G p (.dic kvs))
 | _=>False
theorem mw:∀(ps:List (aF×W)) (kvs:List (aF×W)),(ps.foldl (λa p=>bw a p.1 p.2) kvs).length<=kvs.length+ps.length
 | [],kvs=>Nat.le_refl _
 | p::ps,kvs=>by
   have h1:=mw ps (bw kvs p.1 p.2);have h2:=cj kvs p.1 p.2;simp only [List.foldl_cons,List.length_cons];omega
theorem pU:∀{qs:List (aF×V)} {ps:List (aF×Value)},KV qs ps->∀{kvs:List (aF×V)} {vs:List (aF×Value)},KV kvs vs->KV (qs.foldl (λa p=>eS a p.1 p.2) kvs) (ps.foldl (λa p=>stored a p.1 p.2) vs)
 | _,_,.nil,_,_,h=>h
 | q::qs,p::ps,.cons r t,_,_,h=>pU (qs:=qs) (ps:=ps) t (by show KV (eS _ q.1 q.2) (stored _ p.1 p.2);rw [show p.1=q.1 from r.1.symm];exact h.put q.1 r.2)
theorem pV {K:PySem.W.Frag}:∀{ps:List (aF×W)} {qs:List (aF×V)},DP K H ps qs->∀{kvs:List (aF×W)} {us:List (aF×V)},DP K H kvs us->DP K H (ps.foldl (λa p=>bw a p.1 p.2) kvs) (qs.foldl (λa p=>eS a p.1 p.2) us)
 | _,_,.nil,_,_,h=>h
 | _,_,.cons r t,_,_,h=>pV t (h.put _ r)
theorem vX {K:PySem.W.Frag} {k:aF} {v:V} (r:bI K H (kW k) v):v=kV k:=by
 cases k with
 | inl i=>cases r;rfl
 | inr z=>cases r;rfl
theorem my (I:aA X pins σ H s):∀{ps:List (aF×W)} {xs:List V} {its:List Value},aJ X.K H (ps.map λp=> .tup [kW p.1,p.2]) xs->aM xs its->
 ∃(qs:List (aF×V)) (vs:List (aF×Value)),DP X.K H ps qs/\KV qs vs/\vs.length=its.length/\∀(j:Nat) (p:aF×Value),vs[j]?=some p->∃t k,its[j]?=some (.ref t)/\s.heap.IsTuple t #[k,p.2]/\(ba X.prog X.w).is p.1 k=true
 | [],_,_,.nil,.nil=>⟨[],[],.nil,.nil,rfl,λj p h=>by cases h⟩
 | (k,w)::ps,_,[],.cons r rs,z=>by cases z
 | (k,w)::ps,_,u::its,.cons r rs,.cons v vs=>by
   obtain ⟨qs,ys,h1,h2,h3,h4⟩:=my I rs vs;cases r with
   | @tup t _ zs hT rr=>
     cases (show u=Value.ref t from v);obtain ⟨its2,rv,hp,_⟩:=I.tuple (cR.of hT);cases rr with
     | cons r1 rr=>
       cases rr with
       | cons r2 rr=>
         cases rr;obtain ⟨u1,u2,rfl,ru1,ru2⟩:=gJ rv;rw [vX r1] at ru1;refine ⟨_,(k,u2)::ys,.cons r2 h1,.cons ⟨rfl,ru2⟩ h2,by simp [h3],λj p hj=>?_⟩;cases j with
         | zero=>
           cases hj;exact ⟨t,u1,rfl,hp,lG (P:=X.prog) (w:=X.w) ru1⟩
         | succ j=>exact h4 j p hj
theorem tM (hc:X.calm=true):eR X (.type "dict") zt:=by
 rintro pins s σ H xs us Q I r ⟨ws,G,q,rw',g,h,hQ⟩;unfold zt at h;split at h
 ·rename_i a;obtain ⟨kvs,hs,h⟩:=h;obtain ⟨v,rfl,r1⟩:=rw'.one;cases r1;obtain ⟨u,rfl,ru⟩:=fy r;cases ru;have hp:=I.hok.fresh (Nat.le_refl s.heap.objs.size);cases hs with
  | dic hd=>
    obtain ⟨hl,us,rd,dp⟩:=hd.rd g;obtain ⟨zl,hm,vs,rel,dd⟩:=eV I.hok rd;refine kt_call_dict hm dd (by rw [←rel.length];exact zl) λh' hd' sb=>?_;refine ⟨.ref s.heap.objs.size,_,I.laid (t':=s.toks) (λb o q=>(sb.2 b (Nat.ne_of_lt (Heap.lt_size q))).trans (Heap.get?_push_of_some _ q)) (Nat.le_refl _) (show bE X.prog X.w _ h' _ (.dK us) from ⟨zl,beq_eq_false_iff_ne.mpr (Ne.symm (Nat.ne_of_lt I.big)),vs,rel,hd'⟩),rfl,?_⟩;exact hQ _ _ _ _ (aI.new hp _) (.ref _) (g.lay (g:= .dic kvs) (aI.new hp _) ⟨hl,us,aP,dp.keys,(dp.mono (aI.new hp _)).vals⟩) (h _ (g.fresh hp))
  | @lst ps e ek=>
    subst ek;obtain ⟨hl,xs,eH,rr⟩:=g a _ e;obtain ⟨zl,its,c,rv,eo⟩:=I.hok a _ eH;obtain ⟨qs,vs,dp,kv,hn,ht⟩:=my I rr rv;have hll:ps.length<=100000:=by simpa using hl
    have hqs:=dp.len;have hvs:=kv.length;have fl:=mw ps [];have fd:=pV dp (H:=H) (K:=X.K) .nil;have fk:=pU kv (kvs:=[]) (vs:=[]) .nil;have hz:(qs.foldl (λa p=>eS a p.1 p.2) []).length<=sizeLine:=by
     rw [fd.len];exact bJ (by simp only [List.length_nil] at fl;omega)
    refine oz (I.ok.hd hc) I.big eo (by rw [hn];simp) (bJ (by omega)) (λj p hj=>?_) λh' tk kp hd'=>?_
    ·obtain ⟨t,k,e1,e2,e3⟩:=ht j p hj;exact ⟨t,k,by simpa using e1,e2,e3⟩
    ·refine ⟨.ref s.heap.objs.size,_,I.laid (t':=tk) kp (Nat.le_refl _) (show bE X.prog X.w _ h' _ (.dK (qs.foldl (λa p=>eS a p.1 p.2) [])) from ⟨hz,beq_eq_false_iff_ne.mpr (Ne.symm (Nat.ne_of_lt I.big)),_,fk,hd'⟩),rfl,?_⟩;exact hQ _ _ _ _ (aI.new hp _) (.ref _) (g.lay (g:= .dic (ps.foldl (λa p=>bw a p.1 p.2) [])) (aI.new hp _) ⟨by simp only [List.length_nil] at fl;omega,_,aP,fd.keys,(fd.mono (aI.new hp _)).vals⟩) (h _ (g.fresh hp))
 ·exact h.elim
end
end L2
set_option linter.all false
set_option maxRecDepth 100000
namespace L2
open PySem PySem.Spec PyProof.Rows
section
variable {prog:Program} {w:World} {A:Around} {s:Shared}
noncomputable def jf (prog:Program) (w:World) (A:Around) (s:Shared) (u v:Value):Prop:=∀(E:Value->Shared->Prop) (Q:Bool->Shared->Prop),Q true s->wpAny (model prog w) A (eqBool u v) Q E s
theorem jf.of {u v:Value} (h:SeqAt.EqAt A s u v true):jf prog w A s u v:=λE Q q=>h prog w E Q q
theorem jf.refs {l b:Addr} (h:l≠b->∀(E:Value->Shared->Prop) (Q:Value->Shared->Prop),Q (.bool true) s->wpAny (model prog w) A (richCompare .Eq (.ref l) (.ref b)) Q E s):jf prog w A s (.ref l) (.ref b):=by
 by_cases hne:l=b
 ·subst hne;exact .of (SeqAt.EqAt.same _)
 ·exact λE Q q=>wpAny_holding (wpAny_ite_split (λhab=>absurd (by have:=eq_of_beq hab;injection this) hne) λ_=>wpAny_bind (h hne E _ (wpAny_truthy_bool q)))
theorem vY {l b:Addr} {x1 x2 y1 y2:Value} (hl:s.heap.IsTuple l #[x1,x2]) (hb:s.heap.IsTuple b #[y1,y2]) (hu:A.units<cLine) (h1:jf prog w A.in1 s x1 y1) (h2:jf prog w A.in1 s x2 y2) (E:Value->Shared->Prop) (Q:Value->Shared->Prop) (q:Q (.bool true) s):
 wpAny (model prog w) A (richCompare .Eq (.ref l) (.ref b)) Q E s:=by
 obtain ⟨o1,e1,c1,n1,d1⟩:=id hl;obtain ⟨o2,e2,c2,n2,d2⟩:=id hb;refine wpAny_richCompare_same_room (T:="tuple") ⟨o1,e1,c1⟩ ⟨o2,e2,c2⟩ PySem.F.slot_tuple_eq (wpAny_call_entry PySem.F.slot_tuple_eq ⟨o1,e1,c1⟩ PySem.F.entry_tuple_eq ?_ (PySem.F.args_tuple_eq_2 _ _)) hu;unfold Builtin.«tuple.__eq__»
 k_delta "compare"
 refine wpAny_bind ?_;unfold slotArgs;refine wpAny_ite_false (by rfl) (wpAny_ite_false (by rfl) (wpAny_pure ?_));dsimp only;refine wpAny_bind (wpAny_isInstance (T:="tuple") (b:=true) ⟨o2,e2,c2⟩ (by rfl) ?_);refine wpAny_ite_false (by rfl) ?_;refine wpAny_bind (wpAny_tupleItemsOf e1 d1 ?_);refine wpAny_bind (wpAny_tupleItemsOf e2 d2 ?_);rw [show (#[x1,x2]:Array Value).toList.zip (#[y1,y2]:Array Value).toList=[(x1,y1),(x2,y2)] from rfl];simp only [List.forIn_cons,List.forIn_nil];refine wpAny_bind (wpAny_bind (wpAny_bind (h1 _ _ ?_)));refine wpAny_ite_false (by rfl) (wpAny_pure ?_);dsimp only;refine wpAny_bind (wpAny_bind (h2 _ _ ?_));refine wpAny_ite_false (by rfl) (wpAny_pure ?_);refine wpAny_pure ?_;dsimp only;exact wpAny_pure ⟨.bool true,rfl,(λz=>nomatch z),q⟩
theorem kX {c:Int} {r:Bool} (hc:(c=2/\r=true)∨(c=3/\r=false)) {l b:Addr} {items items2:Array Value} {o1 o2:Obj} {n1 n2:Nat} (e1:s.heap.get? l=some o1) (d1:o1.data=.seq items n1) (e2:s.heap.get? b=some o2) (d2:o2.data=.seq items2 n2) (hz:items.size=items2.size) {R:Result->Shared->Prop}
 (he:∀(j:Nat) (u v:Value),items[j]?=some u->items2[j]?=some v->jf prog w A.in1 s u v) (hR:R (.ok (.ret (.bool r))) s):
 ∀(m i:Nat) (t t':Tok),i+m=items.size->codeAny (model prog w) A (.builtin "list.__eq__.loop" ⟨[.ref l,.ref b,.int (i:Int) t,.int c t'],[]⟩) R s
 | 0,i,t,t',hi=>by
   refine codeAny_builtin PySem.MeetsSeq3.entry_eq_loop ?_;have n1:items[i]?=none:=by simp;omega
   unfold Builtin.«list.__eq__.loop»
   k_delta "cmpOps"
   rcases hc with ⟨rfl,rfl⟩ | ⟨rfl,rfl⟩
   ·dsimp only;rw [show (([CmpOp.Lt,CmpOp.LtE,CmpOp.Eq,CmpOp.NotEq,CmpOp.Gt,CmpOp.GtE]:List CmpOp)[Int.toNat 2]?)=some CmpOp.Eq from rfl];refine wpAny_bind (wpAny_listItems e1 d1 (wpAny_bind (wpAny_listItems e2 d2 ?_)));rw [Int.toNat_natCast,n1];refine wpAny_bind (wpAny_listItems e1 d1 (wpAny_bind (wpAny_listItems e2 d2 ?_)));refine wpAny_pure ?_;show R (Except.ok (Flow.ret (Value.bool (items.size==items2.size)))) s;rw [hz,beq_self_eq_true];exact hR
   ·dsimp only;rw [show (([CmpOp.Lt,CmpOp.LtE,CmpOp.Eq,CmpOp.NotEq,CmpOp.Gt,CmpOp.GtE]:List CmpOp)[Int.toNat 3]?)=some CmpOp.NotEq from rfl];refine wpAny_bind (wpAny_listItems e1 d1 (wpAny_bind (wpAny_listItems e2 d2 ?_)));rw [Int.toNat_natCast,n1];refine wpAny_bind (wpAny_listItems e1 d1 (wpAny_bind (wpAny_listItems e2 d2 ?_)));refine wpAny_pure ?_;show R (Except.ok (Flow.ret (Value.bool (items.size !=items2.size)))) s;rw [hz,bne_self_eq_false];exact hR
 | m+1,i,t,t',hi=>by
   have ih:=kX hc e1 d1 e2 d2 hz he hR m (i+1) 0 0 (by omega);refine codeAny_builtin PySem.MeetsSeq3.entry_eq_loop ?_;have l1:i<items.size:=by omega
   have n1:items[i]?=some items[i]:=by simp
   have n2:items2[i]?=some (items2[i]'(by omega)):=by simp
   unfold Builtin.«list.__eq__.loop»
   k_delta "cmpOps"
   rcases hc with ⟨rfl,rfl⟩ | ⟨rfl,rfl⟩
   ·dsimp only;rw [show (([CmpOp.Lt,CmpOp.LtE,CmpOp.Eq,CmpOp.NotEq,CmpOp.Gt,CmpOp.GtE]:List CmpOp)[Int.toNat 2]?)=some CmpOp.Eq from rfl];refine wpAny_bind (wpAny_listItems e1 d1 (wpAny_bind (wpAny_listItems e2 d2 ?_)));rw [Int.toNat_natCast,n1,n2];refine wpAny_bind (he i _ _ n1 n2 _ _ ?_);refine wpAny_ite_true (by rfl) ?_;exact wpAny_pure ⟨PySem.plainId_quiet PySem.MeetsSeq3.plain_eq_loop _,ih⟩
   ·dsimp only;rw [show (([CmpOp.Lt,CmpOp.LtE,CmpOp.Eq,CmpOp.NotEq,CmpOp.Gt,CmpOp.GtE]:List CmpOp)[Int.toNat 3]?)=some CmpOp.NotEq from rfl];refine wpAny_bind (wpAny_listItems e1 d1 (wpAny_bind (wpAny_listItems e2 d2 ?_)));rw [Int.toNat_natCast,n1,n2];refine wpAny_bind (he i _ _ n1 n2 _ _ ?_);refine wpAny_ite_true (by rfl) ?_;exact wpAny_pure ⟨PySem.plainId_quiet PySem.MeetsSeq3.plain_eq_loop _,ih⟩
theorem vZ {op:CmpOp} {r:Bool} (hop:(op=.Eq/\r=true)∨(op=.NotEq/\r=false)) {l b:Addr} {items items2:Array Value} (hl:s.heap.IsList l items) (hb:s.heap.IsList b items2) (hz:items.size=items2.size) (hu:A.units<cLine)
 (he:∀(j:Nat) (u v:Value),items[j]?=some u->items2[j]?=some v->jf prog w A.in1 s u v) (E:Value->Shared->Prop) (Q:Value->Shared->Prop) (q:Q (.bool r) s):
 wpAny (model prog w) A (richCompare op (.ref l) (.ref b)) Q E s:=by
 obtain ⟨o1,e1,c1,n1,d1⟩:=id hl;obtain ⟨o2,e2,c2,n2,d2⟩:=id hb;rcases hop with ⟨rfl,rfl⟩ | ⟨rfl,rfl⟩
 ·refine wpAny_richCompare_same_room (T:="list") ⟨o1,e1,c1⟩ ⟨o2,e2,c2⟩ PySem.F.slot_list_eq (call_meetsIn PySem.F.slot_list_eq ⟨o1,e1,c1⟩ PySem.F.entry_list_eq (PySem.F.args_list_eq_2 _ _) (S:=λA' R s'=>A'=A/\s'=s/\R (.ok (.ret (.bool true))) s) ?_ ⟨rfl,rfl,(λz=>nomatch z),q⟩) hu;rintro A' R s' ⟨rfl,rfl,hR⟩;unfold Builtin.«list.__eq__»
  k_delta "listCompare"
  refine wpAny_bind ?_;unfold slotArgs;refine wpAny_ite_false (by rfl) (wpAny_ite_false (by rfl) (wpAny_pure ?_));dsimp only;refine wpAny_bind (wpAny_isInstance (T:="list") (b:=true) ⟨o2,e2,c2⟩ PySem.AutoSeq1.sub_list_list ?_);refine wpAny_ite_false (by rfl) ?_;refine wpAny_ite_true (by rfl) ?_;refine wpAny_bind (wpAny_listItems e1 d1 (wpAny_bind (wpAny_listItems e2 d2 ?_)));refine wpAny_ite_false (by rw [hz,bne_self_eq_false];rfl) ?_;exact wpAny_pure ⟨PySem.plainId_quiet PySem.MeetsSeq3.plain_eq_loop _,kX (.inl ⟨rfl,rfl⟩) e1 d1 e2 d2 hz he hR items.size 0 0 0 (by omega)⟩
 ·refine wpAny_richCompare_same_room (T:="list") ⟨o1,e1,c1⟩ ⟨o2,e2,c2⟩ PySem.F.slot_list_ne (call_meetsIn PySem.F.slot_list_ne ⟨o1,e1,c1⟩ PySem.F.entry_list_ne (PySem.F.args_list_ne_2 _ _) (S:=λA' R s'=>A'=A/\s'=s/\R (.ok (.ret (.bool false))) s) ?_ ⟨rfl,rfl,(λz=>nomatch z),q⟩) hu;rintro A' R s' ⟨rfl,rfl,hR⟩;unfold Builtin.«list.__ne__»
  k_delta "listCompare"
  refine wpAny_bind ?_;unfold slotArgs;refine wpAny_ite_false (by rfl) (wpAny_ite_false (by rfl) (wpAny_pure ?_));dsimp only;refine wpAny_bind (wpAny_isInstance (T:="list") (b:=true) ⟨o2,e2,c2⟩ PySem.AutoSeq1.sub_list_list ?_);refine wpAny_ite_false (by rfl) ?_;refine wpAny_ite_true (by rfl) ?_;refine wpAny_bind (wpAny_listItems e1 d1 (wpAny_bind (wpAny_listItems e2 d2 ?_)));refine wpAny_ite_false (by rw [hz,bne_self_eq_false];rfl) ?_;exact wpAny_pure ⟨PySem.plainId_quiet PySem.MeetsSeq3.plain_eq_loop _,kX (.inr ⟨rfl,rfl⟩) e1 d1 e2 d2 hz he hR items.size 0 0 0 (by omega)⟩
end
section
variable {X:Cx} {pins:List (Addr×Obj)} {σ:St} {H:Hp} {s:Shared}
inductive gj (G:Gp):Nat->W->W->Prop where
 | flat {n:Nat} {x y:W} (f1:x.flat=true) (f2:y.flat=true) (hd:x.dep<=140) (he:x.eq y=true):gj G n x y
 | same {n:Nat} {a:Addr}:gj G n (.ref a) (.ref a)
 | dic {n:Nat} {a b:Addr} {kvs us:List (aF×W)} (ea:GD G a kvs) (eb:GD G b us) (hl:kvs.length=us.length) (hv:∀p,p∈kvs->∃w',cz us p.1=some w'/\ke G p.2 w'):gj G n (.ref a) (.ref b)
 | pair {n:Nat} {x1 x2 y1 y2:W} (h1:gj G n x1 y1) (h2:gj G n x2 y2):gj G (n+1) (.tup [x1,x2]) (.tup [y1,y2])
theorem qN {G:Gp} (I:aA X pins σ H s) (g:aH X.K H G) {n:Nat} {w1 w2:W} (h:gj G n w1 w2):∀{A:Around} {v1 v2:V} {u1 u2:Value},A.units+n+160<cLine->bI X.K H w1 v1->bI X.K H w2 v2->aZ v1 u1->aZ v2 u2->jf X.prog X.w A s u1 u2:=by
 induction h with
 | @flat n x y f1 f2 hd he=>
   intro A v1 v2 u1 u2 hu r1 r2 q1 q2;have:=(gH I 150 A (w1:=x) (w2:=y) (by omega) f1 f2 (by omega) r1 r2 q1 q2).1;rw [he] at this;exact .of this
 | same=>
   intro A v1 v2 u1 u2 hu r1 r2 q1 q2;cases r1;cases r2;cases q1;cases q2;exact .of (SeqAt.EqAt.same _)
 | @dic n a b kvs us ea eb hl hv=>
   intro A v1 v2 u1 u2 hu r1 r2 q1 q2;cases r1;cases r2;cases q1;cases q2;obtain ⟨_,ua,ra,da⟩:=ea.rd g;obtain ⟨_,ub,rb,db⟩:=eb.rd g;obtain ⟨_,ma,ka,qa,dda⟩:=eV I.hok ra;obtain ⟨_,mb,kb,qb,ddb⟩:=eV I.hok rb;have hlen:ka.length=kb.length:=by rw [←qa.length,←qb.length,da.len,db.len,hl]
   refine jf.refs λhne E Q q=>?_;refine PySem.W.keq_eq ma mb dda ddb (by omega) (λ_=>kU (A:=A.in1) (by show A.units+1+20<cLine;omega) I g db qb da qa hv) ?_;rw [hlen,beq_self_eq_true,Bool.true_and];exact q
 | @pair n x1 x2 y1 y2 h1 h2 ih1 ih2=>
   intro A v1 v2 u1 u2 hu r1 r2 q1 q2;cases r1 with
   | @tup a _ xs hT rr=>
     cases r2 with
     | @tup b _ ys hT2 rr2=>
       cases (show u1=Value.ref a from q1);cases (show u2=Value.ref b from q2);obtain ⟨its,rv,hp,_⟩:=I.tuple (cR.of hT);obtain ⟨its2,rv2,hp2,_⟩:=I.tuple (cR.of hT2);cases rr with
       | cons a1 rr=>
         cases rr with
         | cons a2 rr=>
           cases rr;cases rr2 with
           | cons b1 rr2=>
             cases rr2 with
             | cons b2 rr2=>
               cases rr2;obtain ⟨p1,p2,rfl,c1,c2⟩:=gJ rv;obtain ⟨t1,t2,rfl,d1,d2⟩:=gJ rv2;exact jf.refs λhne E Q q=>vY hp hp2 (by omega) (ih1 (A:=A.in1) (by show A.units+1+n+160<cLine;omega) a1 b1 c1 d1) (ih2 (A:=A.in1) (by show A.units+1+n+160<cLine;omega) a2 b2 c2 d2) E Q q
inductive A9 (G:Gp) (a b:Addr):Bool->Prop where
 | old {r:Bool} (h:A6 G a b r):A9 G a b r
 | nil {ws:List W} (ea:G a=some (.lst ws)) (eb:G b=some (.lst [])):A9 G a b ws.isEmpty
 | deep {ws us:List W} (ea:G a=some (.lst ws)) (eb:G b=some (.lst us)) (hl:ws.length=us.length) (he:∀(j:Nat) (x y:W),ws[j]?=some x->us[j]?=some y->gj G 9 x y):A9 G a b true
noncomputable def zu:W2:=λx y G q=>match x,y with
 | .ref a,.ref b=>∃r,A9 G a b r/\q (.bl r) G
 | x,y=>sd x y G q
noncomputable def zv:W2:=λx y G q=>match x,y with
 | .ref a,.ref b=>∃r,A9 G a b r/\q (.bl (!r)) G
 | x,y=>se x y G q
theorem iC {k:Nat} (hr:ay k X.A) {op:CmpOp} {r:Bool} (hop:(op=.Eq/\r=true)∨(op=.NotEq/\r=false)) {G:Gp} (I:aA X pins σ H s) (g:aH X.K H G) {a b:Addr} {ws us:List W} (ea:G a=some (.lst ws)) (eb:G b=some (.lst us)) (hl:ws.length=us.length)
 (he:∀(j:Nat) (x y:W),ws[j]?=some x->us[j]?=some y->gj G 9 x y) (E:Value->Shared->Prop) (Q:Value->Shared->Prop) (q:Q (.bool r) s):wpAny (model X.prog X.w) X.A (richCompare op (.ref a) (.ref b)) Q E s:=by
 have hu:=hr.un;obtain ⟨_,xs,e1,ra⟩:=g _ _ ea;obtain ⟨_,ys,e2,rb⟩:=g _ _ eb;obtain ⟨its,rv,p,_⟩:=I.list (cW.of e1);obtain ⟨its2,rv2,p2,_⟩:=I.list (cW.of e2);have l1:its.length=ws.length:=by rw [←rv.length,ra.length]
 have l2:its2.length=us.length:=by rw [←rv2.length,rb.length]
 refine vZ hop p.isList p2.isList (by rw [List.size_toArray,List.size_toArray,l1,l2,hl]) (by omega) (λj u v hj hv=>?_) E Q q;rw [List.getElem?_toArray] at hj hv;have j1:j<ws.length:=by
  rw [←l1];exact (List.getElem?_eq_some_iff.mp hj).1
 have gw:=List.getElem?_eq_getElem j1;have gu:=List.getElem?_eq_getElem (show j<us.length by omega);obtain ⟨x,hx,rx⟩:=ra.get gw;obtain ⟨y,hy,ry⟩:=rb.get gu;obtain ⟨u',hu',qu⟩:=rv.get hx;obtain ⟨v',hv',qv⟩:=rv2.get hy;rw [hj] at hu';rw [hv] at hv';cases hu';cases hv';exact qN I g (he j _ _ gw gu) (A:=X.A.in1) (by show X.A.units+1+9+160<cLine;omega) rx ry qu qv
theorem tN {k:Nat} (hr:ay k X.A) {G:Gp} (I:aA X pins σ H s) (g:aH X.K H G) {a b:Addr} {x:W} {ws:List W} (ea:G a=some (.lst (x::ws))) (eb:G b=some (.lst [])) (E:Value->Shared->Prop) (Q:Value->Shared->Prop):
 (Q (.bool false) s->wpAny (model X.prog X.w) X.A (richCompare .Eq (.ref a) (.ref b)) Q E s)/\(Q (.bool true) s->wpAny (model X.prog X.w) X.A (richCompare .NotEq (.ref a) (.ref b)) Q E s):=by
 have hu:=hr.un;obtain ⟨_,xs,e1,ra⟩:=g _ _ ea;obtain ⟨_,ys,e2,rb⟩:=g _ _ eb;obtain ⟨its,rv,p,_⟩:=I.list (cW.of e1);obtain ⟨its2,rv2,p2,_⟩:=I.list (cW.of e2);have l1:its.length=(x::ws).length:=by rw [←rv.length,ra.length]
 have l2:its2.length=([]:List W).length:=by rw [←rv2.length,rb.length]
 have ne:(its.toArray.size !=its2.toArray.size)=true:=by rw [List.size_toArray,List.size_toArray,l1,l2];simp
 exact ⟨λq=>SeqAt.RcAt.lists_lengths p.isList p2.isList (by simpa using ne) (A:=X.A) (by omega) X.prog X.w E Q q,λq=>SeqAt.RcNeAt.lists_lengths p.isList p2.isList (by simpa using ne) (A:=X.A) (by omega) X.prog X.w E Q q⟩
theorem cE {k:Nat} (hr:ay k X.A):ic X (compareOp .Eq) zu:=by
 rintro pins s σ H x y v u Q I rx ry ⟨wx,wy,G,q,r1,r2,g,h,hQ⟩;unfold zu at h;split at h
 ·rename_i a b;obtain ⟨r,he,h⟩:=h;have fin:EP X pins σ Q (.bool r) s:=⟨.bl _,H,I,rfl,hQ _ H _ G (aI.refl H) (.bl _) g h⟩;cases he with
  | old he=>exact A7 hr pins s σ H x y v u Q I rx ry ⟨_,_,G,q,r1,r2,g,⟨r,he,h⟩,hQ⟩
  | @nil ws ea eb=>
    cases r1;cases r2;cases rx;cases ry;cases ws with
    | nil=>exact iC hr (.inl ⟨rfl,rfl⟩) I g ea eb rfl (λj x y z=>by cases z) X.xe _ fin
    | cons x ws=>exact (tN hr I g ea eb X.xe _).1 fin
  | deep ea eb hl he=>
    cases r1;cases r2;cases rx;cases ry;exact iC hr (.inl ⟨rfl,rfl⟩) I g ea eb hl he X.xe _ fin
 ·exact yD hr pins s σ H x y v u Q I rx ry ⟨wx,wy,G,q,r1,r2,g,h,hQ⟩
theorem pW {k:Nat} (hr:ay k X.A):ic X (compareOp .NotEq) zv:=by
 rintro pins s σ H x y v u Q I rx ry ⟨wx,wy,G,q,r1,r2,g,h,hQ⟩;unfold zv at h;split at h
 ·rename_i a b;obtain ⟨r,he,h⟩:=h;have fin:EP X pins σ Q (.bool (!r)) s:=⟨.bl _,H,I,rfl,hQ _ H _ G (aI.refl H) (.bl _) g h⟩;cases he with
  | old he=>exact A8 hr pins s σ H x y v u Q I rx ry ⟨_,_,G,q,r1,r2,g,⟨r,he,h⟩,hQ⟩
  | @nil ws ea eb=>
    cases r1;cases r2;cases rx;cases ry;cases ws with
    | nil=>exact iC hr (.inr ⟨rfl,rfl⟩) I g ea eb rfl (λj x y z=>by cases z) X.xe _ fin
    | cons x ws=>exact (tN hr I g ea eb X.xe _).2 fin
  | deep ea eb hl he=>
    cases r1;cases r2;cases rx;cases ry;exact iC hr (.inr ⟨rfl,rfl⟩) I g ea eb hl he X.xe _ fin
 ·exact yE hr pins s σ H x y v u Q I rx ry ⟨wx,wy,G,q,r1,r2,g,h,hQ⟩
end
end L2
set_option linter.all false
set_option maxRecDepth 100000
namespace L2
open PySem PySem.Spec PyProof.Rows
section
variable {X:Cx} {pos:Pos}
noncomputable abbrev xB:=dC->Gp->(List (Str×W)->Gp->Prop)->Prop
noncomputable def Eh (K:PySem.W.Frag) (t:xB) (σ:St) (H:Hp) (Q:List (V×V)->Hp->Prop):Prop:=
 ∃τ G q,bg K H τ σ/\aH K H G/\t τ G q/\∀(kvs:List (Str×V)) (H1:Hp) (kws:List (Str×W)) (G1:Gp),aI H H1->kvs.map (·.1)=kws.map (·.1)->aJ K H1 (kws.map (·.2)) (kvs.map (·.2))->aH K H1 G1->q kws G1->Q (kvs.map λp=>(.str p.1,p.2)) H1
noncomputable def BO (X:Cx) (pos:Pos) (keys:List (Option Expr)) (values:List Expr) (t:xB):Prop:=
 ∀(pins:List (Addr×Obj)) (s:Shared) (σ:St) (H:Hp) (Q:List (V×V)->Hp->Prop),aA X pins σ H s->Eh X.K t σ H Q->
  wpAny (model X.prog X.w) X.A (evalPairs (pairTrees keys values X.env pos)) (λvs s'=>∃ps H',aA X pins σ H' s'/\VV ps vs/\Q ps H') X.xe s
noncomputable def DW:xB:=λ_ G q=>q [] G
noncomputable def DX (z:Str) (tv:WE) (tr:xB):xB:=λτ G q=>tv τ G λw G1=>tr τ G1 λkws G2=>q ((z,w)::kws) G2
theorem v0:BO X pos [] [] DW:=λpins s σ H Q I ⟨τ,G,q,hs,hg,ht,hQ⟩=>pairTrees_nil_walk ⟨[],H,I,.nil,hQ [] H [] G (aI.refl H) rfl .nil hg ht⟩
theorem jg {z:Str} {j} {kp:Pos} {v:Expr} {ks:List (Option Expr)} {vs:List Expr} {tv:WE} {tr:xB} (hv:QE X v tv) (hr:BO X pos ks vs tr):BO X pos (some (.Constant (.str z) j kp)::ks) (v::vs) (DX z tv tr):=
 λpins s σ H Q I ⟨τ,G,q,hs,hg,ht,hQ⟩=>
  pairTrees_cons_walk (bV (mY (X:=X) (x:=z) (j:=j) (pos:=kp) pins s σ H (λv H1=>v=.str z/\H1=H) I ⟨rfl,rfl⟩) λu s1 ⟨x,H1,I1,rx,e1,e2⟩=>by
   subst e1 e2;refine bV (hv pins s1 σ H1 (λv H2=>∃w G2,aI H1 H2/\bI X.K H2 w v/\aH X.K H2 G2/\tr τ G2 λkws G3=>q ((z,w)::kws) G3) I1 ⟨τ,G,_,hs,hg,ht,λv H2 w G2 t2 r2 g2 q2=>⟨w,G2,t2,r2,g2,q2⟩⟩) λw2 s2 z9=>?_;obtain ⟨y,H2,I2,ry,w,G2,t2,r2,g2,q2⟩:=z9;refine bV (hr pins s2 σ H2 (λps H3=>Q ((.str z,y)::ps) H3) I2 ⟨τ,G2,_,hs.mono t2,g2,q2,λkvs H3 kws G3 t3 e3 r3 g3 q3=>?_⟩) λws s3 ⟨ps,H3,I3,rel,q3⟩=>⟨_,H3,I3,.cons ⟨rx,ry⟩ rel,q3⟩;exact hQ ((z,y)::kvs) H3 ((z,w)::kws) G3 (t2.trans t3) (by rw [List.map_cons,List.map_cons,e3]) (.cons (r2.mono t3) r3) g3 q3)
noncomputable def putAll (a:List (aF×W)) (kws:List (Str×W)):List (aF×W):=kws.foldl (λa p=>bw a (.inr p.1) p.2) a
theorem tO {K:PySem.W.Frag} {H:Hp}:∀{kws:List (Str×W)} {kvs:List (Str×V)} {a:List (aF×W)} {b:List (aF×V)},DP K H a b->kvs.map (·.1)=kws.map (·.1)->aJ K H (kws.map (·.2)) (kvs.map (·.2))->DP K H (putAll a kws) (fI b (kvs.map λp=>(.inr p.1,p.2)))
 | [],[],_,_,d,_,_=>d
 | [],_::_,_,_,_,e,_=>by cases e
 | _::_,[],_,_,_,e,_=>by cases e
 | p::kws,r::kvs,a,b,d,e,rr=>by
   rw [List.map_cons,List.map_cons] at e rr;obtain ⟨e1,e2⟩:=List.cons.inj e;cases rr with
   | cons r1 r2=>
     have:=tO (d.put (.inr p.1) r1) e2 r2;show DP K H (putAll (bw a (.inr p.1) p.2) kws) (fI (eS b (.inr r.1) r.2) _);rw [e1];exact this
theorem jh:∀(kws:List (Str×W)) (a:List (aF×W)),(putAll a kws).length<=a.length+kws.length
 | [],a=>Nat.le_refl _
 | p::kws,a=>by
   have h1:=jh kws (bw a (.inr p.1) p.2);have h2:=cj a (.inr p.1) p.2;show (putAll (bw a (.inr p.1) p.2) kws).length<=_;rw [List.length_cons];omega
noncomputable def xC (t:xB):WE:=λτ G q=>∀p,G p=none->t τ (aG G p (.dic [])) λkws G2=>G2 p=some (.dic [])/\kws.length<=15/\q (.ref p) (aG G2 p (.dic (putAll [] kws)))
theorem v5 {keys:List (Option Expr)} {values:List Expr} {t:xB} (h:BO X pos keys values t) (hall:keys.all (·.isSome)=true:=by rfl) (hl:keys.length=values.length:=by rfl) (h0:keys≠[]:=by exact λz=>nomatch z)
 (h15:keys.length<=15:=by decide):QE X (.Dict keys values pos) (xC t):=by
 rintro pins s σ H Q I ⟨τ,G,q,hs,hg,ht,hQ⟩;have hn:=I.hok.fresh (Nat.le_refl s.heap.objs.size);have I1:=I.laid (a:=s.heap.objs.size) (o:= .dK []) (h':=s.heap.push { cls:= .type "dict",data:= .dict #[] }) (t':=s.toks) (λ_ _ q=>Heap.get?_push_of_some _ q) (Nat.le_refl _) (qA s.heap I.bigD);have t1:aI H (upd H s.heap.objs.size (.dK [])):=aI.new hn _;have g1:aH X.K (upd H s.heap.objs.size (.dK [])) (aG G s.heap.objs.size (.dic [])):=hg.lay (g:= .dic []) t1 ⟨Nat.zero_le _,[],aP,rfl,.nil⟩;refine wpAny_Dict_walk (knd:=ba X.prog X.w) hall hl h0 h15 (bV (h pins _ σ _ (λps H2=>∃(kvs:List (Str×V)) (kws:List (Str×W)) (G2:Gp),ps=kvs.map (λp=>(.str p.1,p.2))/\aI (upd H s.heap.objs.size (.dK [])) H2/\kvs.map (·.1)=kws.map (·.1)/\aJ X.K H2 (kws.map (·.2)) (kvs.map (·.2))/\aH X.K H2 G2/\G2 s.heap.objs.size=some (.dic [])/\kws.length<=15/\q (.ref s.heap.objs.size) (aG G2 s.heap.objs.size (.dic (putAll [] kws)))) I1 ⟨τ,_,_,hs.mono t1,g1,ht _ (hg.fresh hn),λkvs H2 kws G2 t2 e2 r2 g2 q2=>⟨kvs,kws,G2,rfl,t2,e2,r2,g2,q2⟩⟩) λws s2 z9=>?_);obtain ⟨ps,H2,I2,rel,kvs,kws,G2,ep,t2,e2,r2,g2,gp,lk,q2⟩:=z9;subst ep;have lv:kvs.length=kws.length:=by have:=congrArg List.length e2;rwa [List.length_map,List.length_map] at this
 have em:(kvs.map λp=>((.str p.1:V),p.2))=(kvs.map λp=>((.inr p.1:aF),p.2)).map (λkv=>(kV kv.1,kv.2)):=by rw [List.map_map];rfl
 rw [em] at rel;obtain ⟨rs,c,rk⟩:=iQ (P:=X.prog) (w:=X.w) rel;obtain ⟨_,us,e,n4,_⟩:=g2 _ _ gp;have eu:us=[]:=List.map_eq_nil_iff.mp n4;subst eu;obtain ⟨z,hd,vs0,r0,dd⟩:=oV I2.hok e;cases r0;have t3:=aI.dk e (.dK (fI [] (kvs.map λp=>((.inr p.1:aF),p.2))));have dp:=(tO (K:=X.K) (H:=H2) (a:=[]) (b:=[]) (DP.of rfl .nil) e2 r2).mono t3;refine ⟨rs,c,dd,λh' dd' hs'=>⟨.ref s.heap.objs.size,_,?_,rfl,hQ _ _ _ _ ((t1.trans t2).trans t3) (.ref _) (g2.lay (g:= .dic _) t3 ⟨?_,_,aP,dp.keys,dp.vals⟩) q2⟩⟩
 ·have hz:(fI [] (kvs.map λp=>((.inr p.1:aF),p.2))).length<=sizeLine:=by
   have h1:=fB (kvs.map λp=>((.inr p.1:aF),p.2)) [];rw [List.length_nil,List.length_map] at h1;rw [sizeLine_eq];omega
  have he:∃q,h'.get? s.heap.objs.size=some q:=let ⟨q,_,_,hq,_⟩:=dd';⟨q,hq⟩;exact kB I2 (by rw [e];exact True.intro) hs' he (rQ hz hd (rk.merge .nil) dd')
 ·have:=jh kws [];rw [List.length_nil] at this;omega
end
end L2
set_option linter.all false
set_option maxRecDepth 100000
namespace L2
open PySem PySem.Spec PyProof.Rows Nm
mutual
inductive eT (h:Heap):Nat->W->Value->Prop where
 | int {d:Nat} (n:Int) (t:Tok):eT h d (.int n) (.int n t)
 | tup {d:Nat} {a:Addr} {o:Obj} {items:Array Value} {n:Nat} {ws:List W} (gO:h.get? a=some o) (hc:o.cls=.type "tuple") (dO:o.data=.seq items n) (hs:cQ h d ws items.toList):eT h (d+1) (.tup ws) (.ref a)
inductive cQ (h:Heap):Nat->List W->List Value->Prop where
 | nil {d:Nat}:cQ h d [] []
 | cons {d:Nat} {w:W} {v:Value} {ws:List W} {vs:List Value} (r:eT h d w v) (rs:cQ h d ws vs):cQ h d (w::ws) (v::vs)
end
section
variable {h h':Heap}
mutual
theorem eT.inj:∀{d d':Nat} {w w':W} {v:Value},eT h d w v->eT h d' w' v->w=w'
 | _,_,_,_,_,.int n t,.int _ _=>rfl
 | _,_,_,_,_,.tup gO hc dO hs,.tup gO' hc' dO' hs'=>by
   cases gO.symm.trans gO';rw [dO] at dO';injection dO' with e1 _
   subst e1;rw [cQ.inj hs hs']
theorem cQ.inj:∀{d d':Nat} {ws ws':List W} {vs:List Value},cQ h d ws vs->cQ h d' ws' vs->ws=ws'
 | _,_,_,_,_,.nil,.nil=>rfl
 | _,_,_,_,_,.cons r rs,.cons r' rs'=>by rw [eT.inj r r',cQ.inj rs rs']
end
mutual
theorem eT.keeps (k:∀a o items n,h.get? a=some o->o.data=.seq items n->h'.get? a=some o):∀{d:Nat} {w:W} {v:Value},eT h d w v->eT h' d w v
 | _,_,_,.int n t=> .int n t
 | _,_,_,.tup gO hc dO hs=> .tup (k _ _ _ _ gO dO) hc dO (cQ.keeps k hs)
theorem cQ.keeps (k:∀a o items n,h.get? a=some o->o.data=.seq items n->h'.get? a=some o):∀{d:Nat} {ws:List W} {vs:List Value},cQ h d ws vs->cQ h' d ws vs
 | _,_,_,.nil=> .nil
 | _,_,_,.cons r rs=> .cons (eT.keeps k r) (cQ.keeps k rs)
end
end
section
variable (P:Program) (w:World)
mutual
noncomputable def ji:W->Int
 | .int n=>(ba P w).hash (.inl n)
 | .tup ws=>reduceHash (Builtin.Tuple.tupleHashOf (dR ws))
 | _=>0
noncomputable def dR:List W->List Int
 | []=>[]
 | x::xs=>ji x::dR xs
end
mutual
noncomputable def oA:W->Nat
 | .int _=>1
 | .tup ws=>ef ws+1
 | _=>0
noncomputable def ef:List W->Nat
 | []=>0
 | x::xs=>oA x+ef xs
end
end
theorem v6 (xs ys:List W):ef (xs++ys)=ef xs+ef ys:=by
 induction xs with
 | nil=>simp [ef]
 | cons x xs ih=>show oA x+ef (xs++ys)=_;rw [ih];simp [ef,Nat.add_assoc]
theorem tP (P:Program) (w:World) (xs ys:List W):dR P w (xs++ys)=dR P w xs++dR P w ys:=by
 induction xs with
 | nil=>rfl
 | cons x xs ih=>show ji P w x::dR P w (xs++ys)=_;rw [ih];rfl
section
variable {prog:Program} {w:World}
theorem di {s:Shared} {a:Addr} {o:Obj} (gO:s.heap.get? a=some o) (hc:o.cls=.type "tuple"):s.TypeIs (.ref a) "tuple":=⟨o,gO,hc⟩
theorem tQ {A:Around} {E:Value->Shared->Prop} {s:Shared} {d:Nat} {ws:List W} {a:Addr} {o:Obj} {items:Array Value} {n:Nat} {Q:Int->Shared->Prop} (hu:A.units+d+1<cLine) (gO:s.heap.get? a=some o) (hc:o.cls=.type "tuple") (dO:o.data=.seq items n) (hi:cQ s.heap d ws items.toList)
 (ih:∀(x:W) (v:Value) (A':Around) (E':Value->Shared->Prop) (tk:Nat) (Q':Int->Shared->Prop),x∈ws->eT s.heap d x v->A'.units+d<cLine->Q' (ji prog w x) { s with toks:=tk+oA x }->wpAny (model prog w) A' (pyHash v) Q' E' { s with toks:=tk })
 (h:Q (ji prog w (.tup ws)) { s with toks:=s.toks+oA (.tup ws) }):wpAny (model prog w) A (pyHash (.ref a)) Q E s:=by
 have tp:=di gO hc;unfold pyHash
 first | unfold pyHashByItsType | skip
 first | refine wpAny_bind (wpAny_cRoomFor_or (.inr (by omega)) ?_) | skip
 refine wpAny_bind (wpAny_specialOf tp F.slot_tuple_hash.lookup ?_);rw [show (some (Value.builtin "tuple.__hash__")==some Value.none)=false from by rw [beq_builtin_none],if_neg Bool.false_ne_true];refine wpAny_bind (wpAny_specialOf tp F.slot_tuple_hash.lookup ?_);show wpAny _ _ (callSpecialIfBoundUnlessNone? (.ref a) "__hash__" _ >>= _) Q E s;refine wpAny_bind (wpAny_callSpecialIfBoundUnlessNone?_slot tp F.slot_tuple_hash (wpAny_call_entry F.slot_tuple_hash tp F.entry_tuple_hash ?_ (F.args_tuple_hash_1 _)));show wpAny _ _ (Builtin.Tuple.tupleItemsOf (.ref a) >>= _) _ _ s;refine wpAny_bind (wpAny_tupleItemsOf gO dO ?_);refine wpAny_bind ?_;rw [←Array.forIn_toList];refine wpAny_forIn_list _
  (λbK (b:Array Int) s'=>∃done left,ws=done++left/\cQ s.heap d left bK/\b.toList=dR prog w done/\s'={ s with toks:=s.toks+ef done })
  _ ?_ ?_ _ _ ⟨[],ws,rfl,hi,rfl,rfl⟩
 ·rintro x bK b s' ⟨done,left,rfl,hL,hB,rfl⟩;cases hL with
  | @cons _ k _ ks' _ h1 hL'=>
    refine wpAny_bind (ih k x _ _ _ _ (by simp) h1 (by first | omega | (show A.units+1+d<cLine;omega)) ?_);have e1:b.toList++[ji prog w k]=dR prog w (done++[k]):=by rw [hB,tP];rfl
    have e2:s.toks+ef done+oA k=s.toks+ef (done++[k]):=by rw [v6];simp [ef,Nat.add_assoc]
    first
     | exact wpAny_pure ⟨done++[k],ks',by simp,hL',by simpa using e1,by rw [←e2]⟩
     | exact wpAny_bind (wpAny_pure (wpAny_pure ⟨done++[k],ks',by simp,hL',by simpa using e1,by rw [←e2]⟩))
 ·rintro b s' ⟨done,left,rfl,hL,hB,rfl⟩;cases hL;rw [List.append_nil] at h;show wpAny _ _ (retInt (Builtin.Tuple.tupleHashOf b.toList)) _ _ _;rw [hB];refine wpAny_ret_mkInt ?_;have h:Q (reduceHash (Builtin.Tuple.tupleHashOf (dR prog w done))) { s with toks:=s.toks+(ef done+1) }:=h;generalize dR prog w done=hs at h ⊢;show wpAny _ _ (if (decide (-(2:Int)^63<=Builtin.Tuple.tupleHashOf hs)&&decide (Builtin.Tuple.tupleHashOf hs<2^63))=true then _ else _) Q E _;unfold reduceHash at h
  by_cases hR:(decide (-(2:Int)^63<=Builtin.Tuple.tupleHashOf hs)&&decide (Builtin.Tuple.tupleHashOf hs<2^63))=true
  ·rw [if_pos hR];rw [if_pos hR] at h;exact wpAny_pure (by simpa [Nat.add_assoc] using h)
  ·rw [if_neg hR];rw [if_neg hR] at h;exact wpAny_bind (wpAny_rule (wpAny_pure (by simpa [Nat.add_assoc] using h)))
theorem eT.hash {s:Shared}:∀(d:Nat) {x:W} {v:Value},eT s.heap d x v->∀{A:Around} {E:Value->Shared->Prop} {tk:Nat} {Q:Int->Shared->Prop},A.units+d<cLine->Q (ji prog w x) { s with toks:=tk+oA x }->wpAny (model prog w) A (pyHash v) Q E { s with toks:=tk }
 | _,_,_,.int n t,A,E,tk,Q,hu,h=>(ba prog w).pyHash (k:= .inl n) (dL prog w n t) h
 | d+1,_,_,.tup (ws:=ws) gO hc dO hs,A,E,tk,Q,hu,h=>
   tQ (s:={ s with toks:=tk }) (d:=d) (ws:=ws) (by assumption) gO hc dO hs (λx v A' E' tk' Q' _ hk hu' hq=>eT.hash d hk hu' hq) h
noncomputable def tR (p:Prop):Bool:= @decide p (Classical.propDecidable p)
theorem jj {p:Prop} (h:p):tR p=true:= @decide_eq_true p (Classical.propDecidable p) h
theorem io {p:Prop} (h:¬p):tR p=false:= @decide_eq_false p (Classical.propDecidable p) h
inductive Sh:W->W->Prop where
 | int (n m:Int):Sh (.int n) (.int m)
 | tup {xs ys:List W} (h:∀p,p∈xs.zip ys->Sh p.1 p.2):Sh (.tup xs) (.tup ys)
theorem eq_tup {A:Around} {E:Value->Shared->Prop} {s:Shared} {d:Nat} {x y:List W} {a b:Addr} {oa ob:Obj} {xs ys:Array Value} {na nb:Nat} {R:PySem.Fin->Shared->Prop} (gA:s.heap.get? a=some oa) (hca:oa.cls=.type "tuple") (dA:oa.data=.seq xs na) (hia:cQ s.heap d x xs.toList) (gB:s.heap.get? b=some ob) (hcb:ob.cls=.type "tuple") (dB:ob.data=.seq ys nb) (hib:cQ s.heap d y ys.toList)
 (hsh:∀p,p∈x.zip y->Sh p.1 p.2)
 (ih:∀(p q:W) (u v:Value) (E':Value->Shared->Prop) (Q':Bool->Shared->Prop),eT s.heap d p u->eT s.heap d q v->Sh p q->Q' (tR (p=q)) s->wpAny (model prog w) A (eqBool u v) Q' E' s)
 (h:R (.done (.ret (.bool (tR (x=y))))) s):wpAny (model prog w) A (Builtin.«tuple.__eq__» ⟨[.ref a,.ref b],[]⟩) R E s:=by
 have tpB:=di gB hcb;show wpAny _ _ (isInstance (.ref b) (.type "tuple") >>= _) _ _ s;refine wpAny_bind (wpAny_isInstance tpB isSubtype_tuple_tuple ?_);simp only [Bool.not_true,Bool.false_eq_true,if_false];refine wpAny_bind (wpAny_tupleItemsOf gA dA ?_);refine wpAny_bind (wpAny_tupleItemsOf gB dB ?_);refine wpAny_bind ?_;refine wpAny_forIn_list _
  (λbK r s'=>r.1=none/\s'=s/\∃x' y' xs' ys',bK=List.zip xs' ys'/\cQ s.heap d x' xs'/\cQ s.heap d y' ys'/\((x'=y')↔(x=y))/\(∀p,p∈x'.zip y'->Sh p.1 p.2)/\(xs'.length==ys'.length)=(xs.size==ys.size))
  _ ?_ ?_ _ _ ⟨rfl,rfl,x,y,xs.toList,ys.toList,rfl,hia,hib,Iff.rfl,hsh,by simp⟩
 ·rintro ⟨u,v⟩ bK r s' ⟨hR,rfl,x',y',xs',ys',hZ,hx',hy',hdec,hs',hlen⟩;cases hx' with
  | nil=>simp at hZ
  | @cons _ k1 u' x'' xs'' h1 hx''=>
    cases hy' with
    | nil=>simp at hZ
    | @cons _ k2 v' y'' ys'' h2 hy''=>
      simp only [List.zip_cons_cons,List.cons.injEq,Prod.mk.injEq] at hZ;obtain ⟨⟨rfl,rfl⟩,rfl⟩:=hZ;refine wpAny_bind (ih k1 k2 _ _ _ _ h1 h2 (hs' (k1,k2) List.mem_cons_self) ?_)
      by_cases hk:k1=k2
      ·subst hk;rw [jj rfl];simp only [Bool.not_true,Bool.false_eq_true,if_false];refine wpAny_pure ⟨rfl,rfl,x'',y'',xs'',ys'',rfl,hx'',hy'',?_,λp hp=>hs' p (List.mem_cons_of_mem _ hp),by simpa using hlen⟩;rw [←hdec];simp
      ·rw [io hk];simp only [Bool.not_false,if_true];have hf:tR (x=y)=false:=io λz=>hk (by have:=hdec.mpr z;injection this);rw [hf] at h;exact wpAny_bind (wpAny_pure (wpAny_pure (wpAny_pure h)))
 ·rintro ⟨q1,q2⟩ s' ⟨hR,rfl,x',y',xs',ys',hZ,hx',hy',hdec,hs',hlen⟩;simp only at hR;subst hR;refine wpAny_pure ?_;have hfin:(xs.size==ys.size)=tR (x=y):=by
   rw [←hlen];cases hx' with
   | nil=>
     cases hy' with
     | nil=>rw [jj (hdec.mp rfl)];rfl
     | cons _ _=>rw [io (λz=>by have:=hdec.mpr z;cases this)];rfl
   | cons _ _=>
     cases hy' with
     | nil=>rw [io (λz=>by have:=hdec.mpr z;cases this)];rfl
     | cons _ _=>simp at hZ
  show R (.done (.ret (.bool (xs.size==ys.size)))) s';rw [hfin];exact h
theorem eT.eqs {s:Shared}:∀(d:Nat) {x y:W} {u v:Value},eT s.heap d x u->eT s.heap d y v->Sh x y->∀{A:Around} {E:Value->Shared->Prop} {Q:Bool->Shared->Prop},A.units+2*d<cLine->Q (tR (x=y)) s->wpAny (model prog w) A (PySem.eqBool u v) Q E s
 | _,_,_,_,_,.int n t,.int m t',_,A,E,Q,hu,h=>by
   refine (ba prog w).eqBool (a:= .inl n) (b:= .inl m) (dL prog w n t) (dL prog w m t') ?_;have:decide ((Sum.inl n:aF)=.inl m)=tR (W.int n=.int m):=by
    by_cases e:n=m
    ·subst e;rw [decide_eq_true rfl,jj rfl]
    ·rw [decide_eq_false (λz=>e (Sum.inl.inj z)),io (λz=>by injection z with z;exact e z)]
   rw [this];exact h
 | _,_,_,_,_,.int n t,.tup _ _ _ _,hs,A,E,Q,hu,h=>(nomatch hs)
 | _,_,_,_,_,.tup _ _ _ _,.int m t',hs,A,E,Q,hu,h=>(nomatch hs)
 | d+1,_,_,_,_,.tup (a:=a) (ws:=ws) gO hc dO hs,.tup (a:=a') (ws:=ws') gO' hc' dO' hs',.tup hsh,A,E,Q,hu,h=>by
   unfold PySem.eqBool
   try with_reducible refine wpAny_holding ?_
   show wpAny _ _ (if (Value.ref a==Value.ref a')=true then _ else _) Q E s
   by_cases hab:(Value.ref a==Value.ref a')=true
   ·rw [if_pos hab];have e:a=a':=by have:=eq_of_beq hab;injection this
    subst e;have:=eT.inj (.tup gO hc dO hs) (.tup gO' hc' dO' hs');rw [jj this] at h;exact wpAny_bind (wpAny_rule (wpAny_pure h))
   ·rw [if_neg hab];refine wpAny_bind (wpAny_richCompare_same_room (op:= .Eq) (di gO hc) (di gO' hc') F.slot_tuple_eq
     (wpAny_call_entry F.slot_tuple_eq (di gO hc) F.entry_tuple_eq (eq_tup gO hc dO hs gO' hc' dO' hs' hsh (λp q u v E' Q' hp hq hpq hQ=>eT.eqs d hp hq hpq (by first | omega | (show A.units+1+2*d<cLine;omega) | (show A.units+1+1+2*d<cLine;omega)) hQ) ⟨_,rfl,(λe=>nomatch e),wpAny_truthy_bool ?_⟩) (F.args_tuple_eq_2 _ _)) (by omega))
    have:tR (ws=ws')=tR (W.tup ws=.tup ws'):=by
     by_cases e:ws=ws'
     ·subst e;rw [jj rfl,jj rfl]
     ·rw [io e,io (λz=>by injection z with z;exact e z)]
    rw [this];exact h
theorem eT.quiet {s:Shared}:∀(d:Nat) {x:W} {v:Value},eT s.heap d x v->∀{A:Around} {E:Value->Shared->Prop} {Q:Bool->Shared->Prop},Q true s->wpAny (model prog w) A (eqIsQuiet d v) Q E s
 | _,_,_,.int n t,A,E,Q,h=>by
   rw [eqIsQuiet_byValue _ rfl];exact wpAny_pure h
 | d+1,_,_,.tup gO hc dO hs,A,E,Q,h=>by
   have tp:=di gO hc;unfold eqIsQuiet;refine wpAny_bind (wpAny_specialOf tp F.slot_tuple_eq.lookup ?_);refine wpAny_bind (wpAny_isInstance tp isSubtype_tuple_tuple ?_);simp only [Bool.not_true,Bool.false_eq_true,if_false];refine wpAny_bind (wpAny_seqItems gO dO ?_);refine wpAny_bind ?_;show wpAny _ _ (forIn _ _ _) _ _ s;rw [←Array.forIn_toList];refine wpAny_forIn_list _ (λbK r s'=>r.1=none/\s'=s/\∃ws,cQ s.heap d ws bK) _ ?_ ?_ _ _ ⟨rfl,rfl,_,hs⟩
   ·rintro v bK r s' ⟨hR,rfl,ws,hk⟩;cases hk with
    | cons q1 rs1=>
      refine wpAny_bind (eT.quiet d q1 ?_);simp only [Bool.not_true,Bool.false_eq_true,if_false];exact wpAny_pure ⟨rfl,rfl,_,rs1⟩
   ·rintro ⟨q1,q2⟩ s' ⟨hR,rfl,_⟩;simp only at hR;subst hR;exact wpAny_pure h
theorem zw:∀a b:O,Sh (.tup (au a)) (.tup (au b)):=by
 have main:∀(k:Nat) (a b:O),a.size+b.size<=k->Sh (.tup (au a)) (.tup (au b)):=by
  intro k
  induction k with
  | zero=>
    intro a b h;cases a with
    | z=>exact .tup λp hp=>by simp [au] at hp
    | c e n r=>simp [O.size] at h
  | succ k ih=>
    intro a b h;cases a with
    | z=>exact .tup λp hp=>by simp [au] at hp
    | c e n r=>
      cases b with
      | z=>exact .tup λp hp=>by simp [au] at hp
      | c e' n' r'=>
        have h1:e.size+e'.size<=k:=by simp only [O.size] at h;omega
        have h2:r.size+r'.size<=k:=by simp only [O.size] at h;omega
        refine .tup λp hp=>?_;rw [bQ,bQ,List.zip_cons_cons] at hp;rcases List.mem_cons.mp hp with rfl | hp
        ·refine .tup λp hp=>?_;simp only [List.zip_cons_cons,List.zip_nil_left] at hp;rcases List.mem_cons.mp hp with rfl | hp
         ·exact ih e e' h1
         ·rw [List.mem_singleton.mp hp];exact .int n n'
        ·cases ih r r' h2 with
         | tup h3=>exact h3 p hp
 exact λa b=>main _ a b (Nat.le_refl _)
theorem pX {a b:O} (h:W.tup (au a)=.tup (au b)):a=b:=by injection h with h;exact lY h
noncomputable def jk (prog:Program) (w:World):HeapKind prog w O where
 is:=λh o a=>eT h 8 (.tup (au o)) (.ref a)
 hash:=λo=>ji prog w (.tup (au o))
 draws:=λo=>oA (.tup (au o))
 room:=λA=>A.units+20<cLine
 inj:=λhx hy=>pX (eT.inj hx hy)
 keeps:=λx gO dO hs=>x.keeps λa o items n gO' dO'=>by
  rename_i d' od es ep;have hne:a≠d':=λz=>by
   subst z;cases gO.symm.trans gO';rw [dO] at dO';cases dO'
  exact (hs.2 a hne).trans gO'
 pyHash:=λhu hk h=>eT.hash 8 hk (by omega) h
 eqBool:=λhu hx hy h=>eT.eqs 8 hx hy (zw _ _) (by omega) (by
  rename_i x y _ _ _;have:tR (W.tup (au x)=.tup (au y))=decide (x=y):=by
   by_cases e:x=y
   ·subst e;rw [jj rfl,decide_eq_true rfl]
   ·rw [io (λz=>e (pX z)),decide_eq_false e]
  rw [this];exact h)
 quiet:=λhk h=>eT.quiet 8 hk h
end
end L2
set_option linter.all false
set_option maxRecDepth 100000
namespace L2
open PySem PySem.Spec PyProof.Rows Nm
mutual
theorem eT.le {h:Heap}:∀{d d':Nat} {w:W} {v:Value},d<=d'->eT h d w v->eT h d' w v
 | _,_,_,_,_,.int n t=> .int n t
 | _,d'+1,_,_,l,.tup ho hc hd hs=> .tup ho hc hd (cQ.le (Nat.le_of_succ_le_succ l) hs)
 | _,0,_,_,l,.tup ho hc hd hs=>absurd l (Nat.not_succ_le_zero _)
theorem cQ.le {h:Heap}:∀{d d':Nat} {ws:List W} {vs:List Value},d<=d'->cQ h d ws vs->cQ h d' ws vs
 | _,_,_,_,_,.nil=> .nil
 | _,_,_,_,l,.cons r rs=> .cons (eT.le l r) (cQ.le l rs)
end
section
variable {X:Cx} {pins:List (Addr×Obj)} {σ:St} {H:Hp} {s:Shared}
theorem v7 (I:aA X pins σ H s):∀(k:Nat) (o:O) (v:V) (u:Value),o.dp<=k->bI X.K H (.tup (au o)) v->aZ v u->eT s.heap (2*k+1) (.tup (au o)) u:=by
 intro k
 induction k with
 | zero=>
   intro o v u hd r ru;have:o=.z:=by
    cases o with
    | z=>rfl
    | c e n r=>simp only [O.dp] at hd;omega
   subst this;cases r with
   | tup hT rr=>
     obtain ⟨its,rv,⟨ob,e,c,n,dd⟩,_⟩:=I.tuple (cR.of hT);cases rr;cases rv;cases (show u=Value.ref _ from ru);exact .tup e c dd .nil
 | succ k ih=>
   have parts:∀(o:O) (xs:List V) (its:List Value),o.dp<=k+1->aJ X.K H (au o) xs->aM xs its->cQ s.heap (2*k+2) (au o) its:=by
    intro o
    induction o with
    | z=>
      intro xs its hd rr rv;cases rr;cases rv;exact .nil
    | c e n r ihe ihr=>
      intro xs its hd rr rv;rw [bQ] at rr ⊢;cases rr with
      | cons r1 rs1=>
        cases rv with
        | cons v1 vs1=>
          have hd1:e.dp<=k:=by simp only [O.dp] at hd;omega
          have hd2:r.dp<=k+1:=by simp only [O.dp] at hd;omega
          refine .cons ?_ (ihr _ _ hd2 rs1 vs1);unfold gn at r1 ⊢;cases r1 with
          | tup hT rr=>
            obtain ⟨its,rv,⟨ob,ee,c,m,dd⟩,_⟩:=I.tuple (cR.of hT);cases (show _=Value.ref _ from v1);cases rr with
            | cons q1 qs=>
              cases qs with
              | cons q2 qs=>
                cases qs;cases rv with
                | cons w1 ws=>
                  cases ws with
                  | cons w2 ws=>
                    cases ws;refine .tup ee c dd (.cons (ih e _ _ hd1 q1 w1) (.cons ?_ .nil));cases q2;obtain ⟨t,rfl⟩:=w2;exact .int _ _
   intro o v u hd r ru;cases r with
   | tup hT rr=>
     obtain ⟨its,rv,⟨ob,e,c,n,dd⟩,_⟩:=I.tuple (cR.of hT);cases (show u=Value.ref _ from ru);exact .tup e c dd (parts o _ _ hd rr rv)
theorem jl (I:aA X pins σ H s) {o:O} {a:Addr} (hd:o.dp<=3) (r:bI X.K H (.tup (au o)) (.ref a)):(jk X.prog X.w).is s.heap o a:=eT.le (by decide) (v7 I 3 o (.ref a) (.ref a) hd r rfl)
end
inductive fQ (K:PySem.W.Frag) (H:Hp):List (O×W)->List (O×Addr×Value)->Prop where
 | nil:fQ K H [] []
 | cons {k:O} {a:Addr} {w:W} {v:V} {u:Value} {kvs:List (O×W)} {xs:List (O×Addr×Value)} (rk:bI K H (.tup (au k)) (.ref a)) (rv:bI K H w v) (ru:aZ v u) (t:fQ K H kvs xs):fQ K H ((k,w)::kvs) ((k,a,u)::xs)
theorem fQ.mono {K:PySem.W.Frag} {H H1:Hp} (t:aI H H1):∀{kvs:List (O×W)} {xs:List (O×Addr×Value)},fQ K H kvs xs->fQ K H1 kvs xs
 | _,_,.nil=> .nil
 | _,_,.cons rk rv ru r=> .cons (rk.mono t) (rv.mono t) ru (fQ.mono t r)
theorem fQ.keys {K:PySem.W.Frag} {H:Hp}:∀{kvs:List (O×W)} {xs:List (O×Addr×Value)},fQ K H kvs xs->xs.map (·.1)=kvs.map (·.1)
 | _,_,.nil=>rfl
 | _,_,.cons _ _ _ r=>by rw [List.map_cons,List.map_cons,fQ.keys r]
theorem fQ.mem {K:PySem.W.Frag} {H:Hp}:∀{kvs:List (O×W)} {xs:List (O×Addr×Value)},fQ K H kvs xs->∀x,x∈xs->bI K H (.tup (au x.1)) (.ref x.2.1)
 | _,_,.nil,x,hx=>(nomatch hx)
 | _,_,.cons rk _ _ r,x,hx=>by
   rcases List.mem_cons.mp hx with rfl | hx
   ·exact rk
   ·exact fQ.mem r x hx
noncomputable def jm (P:Program) (w:World) (a:Addr) (xs:List (O×Addr×Value)):Heap->Prop:=λh=>∃o es ep,h.get? a=some o/\o.ExactDict/\o.data=.dict es ep/\es.toList=xs.map (entryOfKey (jk P w))
noncomputable def jC (P:Program) (w:World) (K:PySem.W.Frag) (kvs:List (O×W)):Hp->Addr->Prop:=λH a=>kvs.length<=1000/\(a==sysModules)=false/\(kvs.map (·.1)).Nodup/\(∀p,p∈kvs->p.1.dp<=3)/\∃xs,H a=some (.ext (jm P w a xs))/\fQ K H kvs xs
noncomputable abbrev pY (P:Program) (w:World) (K:PySem.W.Frag) (kvs:List (O×W)):GO:= .any (jC P w K kvs)
theorem jC.ok {P:Program} {w:World} {K:PySem.W.Frag} {kvs:List (O×W)} {H:Hp} {a:Addr} (h:jC P w K kvs H a):wT K H a (pY P w K kvs):=by
 refine ⟨h,?_,λH1 H2 t e x=>?_⟩
 ·obtain ⟨_,_,_,_,xs,e,_⟩:=h;exact ⟨_,e⟩
 ·obtain ⟨a1,a2,a3,a4,xs,e1,kv⟩:=x;exact ⟨a1,a2,a3,a4,xs,e.trans e1,kv.mono t⟩
section
variable {X:Cx} {pins:List (Addr×Obj)} {σ:St} {H:Hp} {s:Shared}
theorem jC.dict {kvs:List (O×W)} {a:Addr} (I:aA X pins σ H s) (h:jC X.prog X.w X.K kvs H a):∃xs,H a=some (.ext (jm X.prog X.w a xs))/\fQ X.K H kvs xs/\s.heap.DictOfH (jk X.prog X.w) a xs:=by
 obtain ⟨a1,a2,a3,a4,xs,e,kv⟩:=h;obtain ⟨⟨o,es,ep,h1,h2,h3,h4⟩,_⟩:=I.hok a _ e;refine ⟨xs,e,kv,o,es,ep,h1,h2,h3,h4,λx hx=>?_,by rw [kv.keys];exact a3⟩;refine jl I ?_ (kv.mem x hx);have:x.1∈kvs.map (·.1):=by rw [←kv.keys];exact List.mem_map.mpr ⟨x,hx,rfl⟩
 obtain ⟨p,hp,hpe⟩:=List.mem_map.mp this;rw [←hpe];exact a4 p hp
theorem pZ {P:Program} {w:World} {H:Hp} {h:Heap} {a:Addr} {xs:List (O×Addr×Value)} (d:jm P w a xs h):bE P w H h a (.ext (jm P w a xs)):=by
 refine ⟨d,?_,λh1 h2 x k=>?_⟩
 ·obtain ⟨o,_,_,e,_⟩:=d;exact ⟨o,e⟩
 ·obtain ⟨o,es,ep,e,r⟩:=x;exact ⟨o,es,ep,k _ e,r⟩
noncomputable def tS (P:Program) (w:World) (K:PySem.W.Frag):WE:=λ_ G q=>∀p,G p=none->q (.ref p) (aG G p (pY P w K []))
theorem v9 {pos:Pos}:QE X (.Dict [] [] pos) (tS X.prog X.w X.K):=by
 have pe:PE X (.Dict [] [] pos) (λ_ H Q=>∀p,H p=none->(p==sysModules)=false->Q (.ref p) (upd H p (.ext (jm X.prog X.w p [])))):=λpins s σ H Q I h=>
  wpAny_Dict_empty ⟨.ref s.heap.objs.size,_,I.laid (a:=s.heap.objs.size) (o:= .ext (jm X.prog X.w s.heap.objs.size [])) (t':=s.toks) (λ_ _ q=>Heap.get?_push_of_some _ q) (Nat.le_refl _) (pZ ⟨_,#[],0,Heap.get?_push_size _ rfl,⟨rfl,rfl,rfl⟩,rfl,rfl⟩),rfl,h _ (I.hok.fresh (Nat.le_refl _)) (beq_eq_false_iff_ne.mpr (Ne.symm (Nat.ne_of_lt I.bigD)))⟩
 exact pe.imp λσ H Q z0=>z0.el λτ G q hs hg ht hQ p hp hm=>hQ _ _ _ _ (aI.new hp _) (.ref p) (hg.lay (g:=pY X.prog X.w X.K []) (aI.new hp _) (jC.ok ⟨Nat.zero_le _,hm,by simp,(λ_ h=>(nomatch h)),[],aP,.nil⟩)) (ht p (hg.fresh hp))
noncomputable def eO (kvs:List (O×W)) (k:O):Option W:=(kvs.find? λp=>decide (p.1=k)).map (·.2)
theorem fQ.at {K:PySem.W.Frag} {k:O}:∀{kvs:List (O×W)} {xs:List (O×Addr×Value)},fQ K H kvs xs->(eO kvs k=none/\atKey xs k=none)∨∃w a v u,eO kvs k=some w/\atKey xs k=some (a,u)/\bI K H w v/\aZ v u
 | _,_,.nil=> .inl ⟨rfl,rfl⟩
 | _,_,.cons (k:=k') (a:=a) (w:=w) (v:=v) (u:=u) rk rv ru t=>by
   by_cases e:k'=k
   ·exact .inr ⟨w,a,v,u,by simp [eO,e],by simp [atKey,e],rv,ru⟩
   ·rcases fQ.at (k:=k) t with ⟨h1,h2⟩ | ⟨w',a',v',u',h1,h2,h3,h4⟩
    ·exact .inl ⟨by simpa [eO,List.find?_cons,e] using h1,by simpa [atKey,List.find?_cons,e] using h2⟩
    ·exact .inr ⟨w',a',v',u',by simpa [eO,List.find?_cons,e] using h1,by simpa [atKey,List.find?_cons,e] using h2,h3,h4⟩
theorem tT {kvs:List (O×W)} {k:O} {x:W} (h:eO kvs k=some x):(k,x)∈kvs:=by
 unfold eO at h;obtain ⟨p,hp,rfl⟩:=Option.map_eq_some_iff.mp h;have h1:=List.mem_of_find?_eq_some hp;have h2:=List.find?_some hp;have h3:p.1=k:=of_decide_eq_true h2;rw [←h3];exact h1
noncomputable def wa (P:Program) (w:World) (K:PySem.W.Frag):W2:=λx y G q=>match x,y with
 | .ref a,.tup ts=>∃kvs o x,ts=au o/\G a=some (pY P w K kvs)/\eO kvs o=some x/\q x G
 | x,y=>vS x y G q
theorem tU {k:Nat} {A:Around} (hr:ay k A):A.in1.units+20<cLine:=by
 have:=hr.un;show A.units+1+20<cLine;omega
theorem Ba {k:Nat} (hr:ay k X.A):yw X (wa X.prog X.w X.K):=by
 rintro value slice pins s σ H x y v u Q I rx ry ⟨wx,wy,G,q,r1,r2,g,h,hQ⟩ hsl;unfold wa at h;split at h
 ·rename_i a ts;obtain ⟨kvs,o,x,rfl,hG,hv,h⟩:=h;cases r1;cases rx;have hD:=(g a _ hG).1;obtain ⟨xs,_,kv,dd⟩:=hD.dict I;rcases kv.at (k:=o) with ⟨e,_⟩ | ⟨x',b',v',u',e,e',r,ru⟩
  ·rw [e] at hv;cases hv
  ·rw [e] at hv;cases hv;have hdp:o.dp<=3:=hD.2.2.2.1 _ (tT e);cases r2 with
   | @tup b _ _ hT rr=>
     cases (show u=Value.ref b from ry);exact tail_any dd.typeIs PySem.F.slot_dict_getitem.lookup (wpAny_getItem_heap (knd:=jk X.prog X.w) (tU hr) (jl I hdp (.tup hT rr)) dd e' ⟨v',H,I.tok _,ru,hQ _ H _ G (aI.refl H) r g h⟩) hsl
 ·exact bS value slice pins s σ H x _ v u Q I rx ry ⟨wx,wy,G,q,r1,r2,g,h,hQ⟩ hsl
theorem iq {prog:Program} {w:World} {K:Type} [DecidableEq K] {knd:HeapKind prog w K} {A:Around} {E:Value->Shared->Prop} {s:Shared} {d a:Addr} {xs:List (K×Addr×Value)} {k:K} {dflt:Value} {Q:Value->Shared->Prop} (hu:knd.room A) (hkey:knd.is s.heap k a) (hm:s.heap.DictOfH knd d xs)
 (hthere:∀p,atKey xs k=some p->Q p.2 { s with toks:=s.toks+knd.draws k })
 (hnew:atKey xs k=none->∀h',h'.DictOfH knd d (xs++[(k,a,dflt)])->Heap.SameBut d s.heap h'->Q dflt { s with heap:=h',toks:=s.toks+knd.draws k }) (hsz:xs.length<=sizeLine):
 wpAny (model prog w) A (dictSetDefault d (.ref a) dflt) Q E s:=by
 obtain ⟨o,es,ep,ho,hc,hd,he,his,hn⟩:=hm;unfold dictSetDefault
 try with_reducible refine wpAny_holding ?_
 refine wpAny_bind (knd.pyHash hu hkey ?_);refine wpAny_bind (wpAny_dictFind_heap (s:={ s with toks:=s.toks+knd.draws k }) hu hkey ho hd he his hn ?_ ?_)
 ·intro hno;have hnot:k∉xs.map (·.1):=not_mem_keys_of_get hno;have hat:=atKey_none_of_get hno;refine wpAny_bind (wpAny_rule (wpAny_bind (wpAny_updateDictKeys (hz:=by have e:=size_of_entries he;omega) (s:={ s with toks:=s.toks+knd.draws k }) ho hd (wpAny_pure (hnew hat _ ⟨_,_,ep+1,Heap.get?_update_self _ ho (Obj.isFreed_of_dict (Obj.data_mapDictKeys hd _)),
   hc.mapDictKeys _,Obj.data_mapDictKeys hd _,?_,?_,?_⟩ (Heap.SameBut.update ..))))))
  ·simp [he,entryOfKey]
  ·intro x hx;rcases List.mem_append.mp hx with hx | hx
   ·exact knd.keeps (his x hx) ho hd (Heap.SameBut.update ..)
   ·simp only [List.mem_singleton] at hx;subst hx;exact knd.keeps hkey ho hd (Heap.SameBut.update ..)
  ·rw [List.map_append,List.nodup_append];refine ⟨hn,by simp,?_⟩;intro x hx y hy;simp only [List.map_cons,List.map_nil,List.mem_singleton] at hy;subst hy;exact λe=>hnot (e▸hx)
 ·intro j p hj;refine wpAny_bind (wpAny_dictEntries (s:={ s with toks:=s.toks+knd.draws k }) ho hd ?_);rw [entry_at he j,hj];exact wpAny_bind (wpAny_rule (wpAny_pure (hthere p (atKey_of_get hn hj))))
theorem gk {prog:Program} {w:World} {K:Type} [DecidableEq K] (knd:HeapKind prog w K) (d a:Addr) (hd:(d==sysModules)=false) (dflt:Value):
 MeetsIn prog w (Builtin.«dict.setdefault» ⟨[.ref d,.ref a,dflt],[]⟩) (λA R s=>knd.room A.in1/\∃k xs,knd.is s.heap k a/\s.heap.DictOfH knd d xs/\xs.length<=sizeLine/\
  (∀p,atKey xs k=some p->R (.ok (.ret p.2)) { s with toks:=s.toks+knd.draws k })/\
  (atKey xs k=none->∀h',h'.DictOfH knd d (xs++[(k,a,dflt)])->Heap.SameBut d s.heap h'->R (.ok (.ret dflt)) { s with heap:=h',toks:=s.toks+knd.draws k })):=
 .of_wp λA R s ⟨hu,k,xs,hkey,hm,hz,h1,h2⟩=>by
  unfold Builtin.«dict.setdefault»;refine wpAny_bind ?_;unfold Builtin.Dict.keyAndDefault;refine wpAny_bind (wpAny_notOrdered_dict hm.typeIs ?_);show wpAny _ _ (pure (d,Value.ref a,some dflt)) _ _ s;refine wpAny_pure ?_;show wpAny _ _ (if (d==sysModules)=true then _ else (dictSetDefault d (.ref a) dflt >>= _)) _ _ s;rw [if_neg (by rw [hd];exact Bool.false_ne_true)];exact wpAny_bind (iq hu hkey hm (λp hp=>wpAny_pure ⟨p.2,rfl,h1 p hp⟩) (λhn h' hm' hs'=>wpAny_pure ⟨dflt,rfl,h2 hn h' hm' hs'⟩) hz)
theorem zx {o e:Expr} {es:List Expr} {to:TE} {t:TA} {name:Str} {apos cpos:Pos} {id:String} {r:V->List V->Hp->VK->Prop} {ty:V->Hp->Prop} (hty0:∀(pins:List (Addr×Obj)) (σ:St) (H:Hp) (s:Shared) (x:V) (v:Value),aA X pins σ H s->aZ x v->ty x H->s.TypeIs v "dict"/\∀a,v=.ref a->∃ob,s.heap.get? a=some ob/\ob.dict=none)
 (slot:Slot "dict" name id) (hty:typeOf (.builtin id)=pure (.type "method_descriptor")) (hm:An X id r) (ho:PE X o to) (ha:PA X (e::es) t)
 (hbase:attributeBase o name X.env (eval o X.env)=eval o X.env:=by rfl)
 (hfew:((backTo cpos (starEach (e::es) X.env)).all (λx=>!x.1)&&(backToKw cpos (keywordEach [] X.env)).all (λx=>x.1.isSome)
   &&decide ((e::es).length+([]:List Keyword).length+(if ([]:List Keyword).isEmpty then 0 else 1)<30))=true:=by rfl)
 (hline:(apos.endLine==cpos.line)=true:=by rfl) (hs:starEach (e::es) X.env=(false,eval e X.env)::starEach es X.env:=by rfl) (hplain:(backTo cpos (starEach es X.env)).any (·.1)=false:=by rfl):
 PE X (.Call (.Attribute o name apos) (e::es) [] cpos) (λσ H Q=>to σ H λx H1=>ty x H1/\t σ H1 λxs H2=>r x xs H2 Q):=by
 intro pins s σ H Q I h;refine wpAny_Call_method_late hbase hfew hline rfl (bV (ho pins s σ H _ I h) λv s1 z9=>?_);obtain ⟨x,H1,I1,r1,ty1,q1⟩:=z9;obtain ⟨h1,h2⟩:=hty0 _ _ _ _ _ _ I1 r1 ty1;refine ⟨"dict",id,PySem.F.plainAttrs_dict,slot,hty,h1,h2,?_⟩;have hA:=ha cpos pins s1 σ H1 _ I1 q1;rw [hs] at hA ⊢;refine Calls.callWith_builtin (by show (false||(backTo cpos (starEach es X.env)).any (·.1))=false;rw [hplain]<;> rfl) (Calls.evalArgs_plain ?_);exact bV hA λus s2 ⟨vs,H2,I2,r2,q2⟩=>hm pins s2 σ H2 x vs v us Q I2 r1 r2 q2
noncomputable def CN (X:Cx):V->List V->Hp->VK->Prop:=λx vs H Q=>∃a b kvs o d w,x=.ref a/\vs=[.ref b,d]/\jC X.prog X.w X.K kvs H a/\o.dp<=3/\bI X.K H (.tup (au o)) (.ref b)/\bI X.K H w d/\kvs.length+1<=1000/\
 (∀w' v',eO kvs o=some w'->bI X.K H w' v'->Q v' H)/\(eO kvs o=none->∀xs,jC X.prog X.w X.K (kvs++[(o,w)]) (upd H a (.ext (jm X.prog X.w a xs))) a->aI H (upd H a (.ext (jm X.prog X.w a xs)))->Q d (upd H a (.ext (jm X.prog X.w a xs))))
theorem fQ.snoc {K:PySem.W.Frag} {k:O} {a:Addr} {x:W} {v:V} {u:Value} (rk:bI K H (.tup (au k)) (.ref a)) (rv:bI K H x v) (ru:aZ v u):∀{kvs:List (O×W)} {xs:List (O×Addr×Value)},fQ K H kvs xs->fQ K H (kvs++[(k,x)]) (xs++[(k,a,u)])
 | _,_,.nil=> .cons rk rv ru .nil
 | _,_,.cons r1 r2 r3 t=> .cons r1 r2 r3 (fQ.snoc rk rv ru t)
theorem fQ.length {K:PySem.W.Frag}:∀{kvs:List (O×W)} {xs:List (O×Addr×Value)},fQ K H kvs xs->xs.length=kvs.length
 | _,_,.nil=>rfl
 | _,_,.cons _ _ _ t=>by rw [List.length_cons,List.length_cons,fQ.length t]
theorem aI.ex {a:Addr} {φ:Heap->Prop} (hp:H a=some (.ext φ)) (o:HO):aI H (upd H a o):=
 ⟨λ_ _ h=>by rw [ax (fw h hp (by intro z;cases z))];exact h,λ_ _ _ h=>by rw [ax (fw h hp (by intro z;cases z))];exact h⟩
theorem zy {k:Nat} (hr:ay k X.A):An X "dict.setdefault" (CN X):=by
 rintro pins s σ H x vs v us Q I rx rv ⟨a,b,kvs,o,d,w,e1,e2,hD,hdp,hk,hw,hl,h1,h2⟩;subst e1 e2;cases rx;obtain ⟨u1,u2,rfl,r1,r2⟩:=oK rv;cases (show u1=Value.ref b from r1);obtain ⟨xs,eH,kv,dd⟩:=hD.dict I;have hsz:xs.length<=sizeLine:=by rw [kv.length,sizeLine_eq];omega
 refine call_meetsIn PySem.F.slot_dict_setdefault dd.typeIs PySem.F.entry_dict_setdefault (PySem.F.args_dict_setdefault_3 _ _ _) (gk (jk X.prog X.w) a b hD.2.1 u2) ⟨tU hr,o,xs,jl I hdp hk,dd,hsz,λp hp=>?_,λhn h' hm' hs'=>?_⟩
 ·rcases kv.at (k:=o) with ⟨e,e'⟩ | ⟨x',b',v',u',e,e',r,ru⟩
  ·rw [e'] at hp;cases hp
  ·rw [e'] at hp;cases hp;exact ⟨v',H,I.tok _,ru,h1 x' v' e r⟩
 ·rcases kv.at (k:=o) with ⟨e,e'⟩ | ⟨x',b',v',u',e,e',r,ru⟩
  ·have tl:=aI.ex eH (.ext (jm X.prog X.w a (xs++[(o,b,u2)])));obtain ⟨ob,es,ep,m1,m2,m3,m4,_⟩:=id hm';have dh:jm X.prog X.w a (xs++[(o,b,u2)]) h':=⟨ob,es,ep,m1,m2,m3,m4⟩;refine ⟨d,_,kB (t':=s.toks+(jk X.prog X.w).draws o) I (by rw [eH];exact True.intro) hs' ⟨ob,m1⟩ (pZ dh),r2,h2 e _ ⟨by rw [List.length_append];exact hl,hD.2.1,?_,λp hp=>?_,_,aP,(fQ.snoc hk hw r2 kv).mono tl⟩ tl⟩
   ·rw [List.map_append,List.nodup_append];refine ⟨hD.2.2.1,by simp,λx hx y hy z=>?_⟩;simp only [List.map_cons,List.map_nil,List.mem_singleton] at hy;rw [hy] at z;obtain ⟨p,hp,hpe⟩:=List.mem_map.mp hx;unfold eO at e;rw [Option.map_eq_none_iff,List.find?_eq_none] at e;exact e p hp (decide_eq_true (hpe.trans z))
   ·rcases List.mem_append.mp hp with hp | hp
    ·exact hD.2.2.2.1 p hp
    ·rw [List.mem_singleton.mp hp];exact hdp
  ·rw [hn] at e';cases e'
noncomputable def Bb (X:Cx):V->Hp->Prop:=λx H=>∃a kvs,x=.ref a/\jC X.prog X.w X.K kvs H a
theorem tV (pins:List (Addr×Obj)) (σ:St) (H:Hp) (s:Shared) (x:V) (v:Value) (I:aA X pins σ H s) (rx:aZ x v) (h:Bb X x H):s.TypeIs v "dict"/\∀a,v=.ref a->∃ob,s.heap.get? a=some ob/\ob.dict=none:=by
 obtain ⟨a,kvs,rfl,hD⟩:=h;cases rx;obtain ⟨xs,_,_,dd⟩:=hD.dict I;refine ⟨dd.typeIs,λb e=>?_⟩;cases e;obtain ⟨ob,_,_,m1,m2,_⟩:=dd;exact ⟨ob,m1,m2.2.1⟩
noncomputable def zz (P:Program) (w:World) (K:PySem.W.Frag) (to tk td:WE):WE:=λτ G q=>to τ G λx G1=>match x with
 | .ref a=>(∃kvs,G1 a=some (pY P w K kvs))/\tk τ G1 λy G2=>td τ G2 λd G3=>∃o kvs,y=.tup (au o)/\o.dp<=3/\G3 a=some (pY P w K kvs)/\kvs.length+1<=1000/\(∀x,eO kvs o=some x->q x G3)/\(eO kvs o=none->q d (aG G3 a (pY P w K (kvs++[(o,d)]))))
 | _=>False
theorem zA {o k e:Expr} {to tk te:WE} {apos cpos:Pos} {n:Nat} (hr:ay n X.A) (ho:QE X o to) (hk:QE X k tk) (he:QE X e te)
 (hbase:attributeBase o "setdefault" X.env (eval o X.env)=eval o X.env:=by rfl)
 (hfew:((backTo cpos (starEach [k,e] X.env)).all (λx=>!x.1)&&(backToKw cpos (keywordEach [] X.env)).all (λx=>x.1.isSome)
   &&decide (([k,e]:List Expr).length+([]:List Keyword).length+(if ([]:List Keyword).isEmpty then 0 else 1)<30))=true:=by rfl)
 (hline:(apos.endLine==cpos.line)=true:=by rfl) (hs:starEach [k,e] X.env=(false,eval k X.env)::starEach [e] X.env:=by rfl) (hs2:starEach [e] X.env=(false,eval e X.env)::starEach [] X.env:=by rfl) (hpl:(backTo cpos (starEach [e] X.env)).any (·.1)=false:=by rfl):
 QE X (.Call (.Attribute o "setdefault" apos) [k,e] [] cpos) (zz X.prog X.w X.K to tk te):=
 (zx tV PySem.F.slot_dict_setdefault PySem.F.type_dict_setdefault (zy hr) ho (bL hk (bL he pa_nil hs2) hs) hbase hfew hline hs hpl).imp λσ H Q z0=>z0.el λτ G q hs hg ht hQ=>
   ⟨τ,G,_,hs,hg,ht,λv H1 w G1 t1 r1 g1 q1=>by
     split at q1
     ·rename_i a;cases r1;obtain ⟨⟨kvs,e1⟩,q1⟩:=q1;refine ⟨⟨a,kvs,rfl,(g1 a _ e1).1⟩,τ,G1,_,hs.mono t1,g1,q1,λv2 H2 w2 G2 t2 r2 g2 q2=>?_⟩;refine ⟨τ,G2,_,(hs.mono t1).mono t2,g2,q2,λv3 H3 w3 G3 t3 r3 g3 q3=>?_⟩;obtain ⟨o,kvs,rfl,hdp,e2,hl,h1,h2⟩:=q3;have r2':=r2.mono t3;have tt:=(t1.trans t2).trans t3;cases r2 with
      | @tup b _ _ hT rr=>
        refine ⟨a,b,kvs,o,v3,w3,rfl,rfl,(g3 a _ e2).1,hdp,r2',r3,hl,λw' v' hv rv'=>hQ _ _ _ _ tt rv' g3 (h1 w' hv),λhn xs hD tl=>?_⟩;exact hQ _ _ _ _ (tt.trans tl) (r3.mono tl) (g3.lay (g:=pY X.prog X.w X.K (kvs++[(o,w3)])) tl hD.ok) (h2 hn)
     ·exact q1.elim⟩
end
end L2
set_option linter.all false
set_option maxRecDepth 100000
namespace L2
open PySem PySem.Spec PyProof.Rows Nm PySem.W
noncomputable def qO {α:Type} (lt:Nat->Nat->Bool):KasT α->α
 | .ret a=>a
 | .ask i j k=>qO lt (k (lt i j))
noncomputable def zB {α:Type} (n:Nat):KasT α->Bool
 | .ret _=>true
 | .ask i j k=>decide (i<n)&&decide (j<n)&&zB n (k true)&&zB n (k false)
theorem mz {α:Type} {n:Nat} {lt:Nat->Nat->Bool} {cmp:Nat->Nat->(Bool->Shared->Prop)->Shared->Prop} {s:Shared} (hc:∀i j,i<n->j<n->∀C:Bool->Shared->Prop,C (lt i j) s->cmp i j C s) {Q:α->Shared->Prop}:∀t:KasT α,zB n t=true->Q (qO lt t) s->t.kasWp cmp Q s
 | .ret a,_,h=>h
 | .ask i j k,ok,h=>by
   simp only [zB,Bool.and_eq_true,decide_eq_true_eq] at ok;refine hc i j ok.1.1.1 ok.1.1.2 _ ?_;have h:Q (qO lt (k (lt i j))) s:=h;have:zB n (k (lt i j))=true:=by
    cases lt i j with
    | true=>exact ok.1.2
    | false=>exact ok.2
   exact mz hc (k (lt i j)) this h
noncomputable def qP (σ:List Nat) (i j:Nat):Bool:=decide (σ.getD i 0<σ.getD j 0)
noncomputable def Bc (n:Nat) (σ:List Nat):Bool:=((qO (qP σ) (kas_sort n)).toList.map λi=>σ.getD i 0)==List.range n&&(qO (qP σ) (kas_sort n)).toList.all λi=>decide (i<n)
noncomputable def wb (n:Nat):Nat->List (List Nat)
 | 0=>[[]]
 | m+1=>(wb n m).flatMap λl=>(List.range n).map λx=>x::l
theorem mB {n:Nat}:∀{l:List Nat},(∀x,x∈l->x<n)->l∈wb n l.length
 | [],_=>List.mem_singleton.mpr rfl
 | x::l,h=>List.mem_flatMap.mpr ⟨l,mB λy hy=>h y (List.mem_cons_of_mem _ hy),List.mem_map.mpr ⟨x,List.mem_range.mpr (h x List.mem_cons_self),rfl⟩⟩
noncomputable def BP:List Nat->Bool
 | []=>true
 | x::l=>!l.contains x&&BP l
theorem tW:∀{l:List Nat},l.Nodup->BP l=true
 | [],_=>rfl
 | x::l,h=>by
   rw [List.nodup_cons] at h;rw [BP,tW h.2,Bool.and_true];simpa using h.1
noncomputable def qQ (n:Nat):Bool:=zB n (kas_sort n)&&(wb n n).all λσ=>!BP σ||Bc n σ
theorem CO:qQ 2=true:=by decide+kernel
theorem CP:qQ 3=true:=by decide+kernel
theorem CQ:qQ 4=true:=by decide+kernel
theorem CS:qQ 5=true:=by decide+kernel
theorem zC {n:Nat} (h2:2<=n) (h5:n<=5):qQ n=true:=by
 have:n=2∨n=3∨n=4∨n=5:=by omega
 rcases this with rfl | rfl | rfl | rfl
 ·exact CO
 ·exact CP
 ·exact CQ
 ·exact CS
section
variable {X:Cx} {pins:List (Addr×Obj)} {σ:St} {H:Hp} {s:Shared}
theorem kY (I:aA X pins σ H s) {a b:O} {p q:Addr} (da:a.dp<=3) (rp:bI X.K H (.tup (au a)) (.ref p)) (rq:bI X.K H (.tup (au b)) (.ref q)):∃its its2:List Value,IsTup s.heap p its.toArray/\IsTup s.heap q its2.toArray/\its.length=a.len/\its2.length=b.len/\∀A:Around,A.units+20<cLine->fK A s its its2 (decide (O.cmp a b<0)):=by
 cases rp with
 | tup hT r=>
   cases rq with
   | tup hT2 r2=>
     obtain ⟨its,rv,pt,_⟩:=I.tuple (cR.of hT);obtain ⟨its2,rv2,pt2,_⟩:=I.tuple (cR.of hT2);obtain ⟨l1,l2⟩:=gh a b;have hd:=dY a;refine ⟨its,its2,pt,pt2,by rw [←rv.length,←r.length,aS],by rw [←rv2.length,←r2.length,aS],λA hu=>?_⟩;rw [←l2];exact o5 I 10 A (λh1 h2 h3 h4 q1 q2 q3 q4=>sr I 10 A h1 h2 h3 h4 (by omega) q1 q2 q3 q4) (by omega) (by omega) (bR a) (bR b) l1 r r2 rv rv2
theorem zD (I:aA X pins σ H s) {a b:O} {p q:Addr} (da:a.dp<=3) (rp:bI X.K H (.tup (au a)) (.ref p)) (rq:bI X.K H (.tup (au b)) (.ref q)) {A:Around} (hu:A.units+25<cLine):kH A s (.ref p) (.ref q) (decide (O.cmp a b<0)):=by
 obtain ⟨its,its2,p1,p2,_,_,hc⟩:=kY I da rp rq;exact kH.tuples p1 p2 (by omega) (hc A.in1 (by show A.units+1+20<cLine;omega))
theorem tX {prog:Program} {w:World} {A:Around} {E:Value->Shared->Prop} {s:Shared} {x y:Value} {b:Bool} (h:kH A s x y b) {Q:Bool->Shared->Prop} (q:Q b s):wpAny (model prog w) A (oneLt' false x y) Q E s:=by
 refine kat_one x y ?_;show wpAny (model prog w) A (richCompare .Lt x y) _ E s;exact h prog w E _ q
theorem wc (I:aA X pins σ H s) {a b:O} {p q:Addr} (da:a.dp<=3) (rp:bI X.K H (.tup (au a)) (.ref p)) (rq:bI X.K H (.tup (au b)) (.ref q)) {A:Around} (hu:A.units+25<cLine) {E:Value->Shared->Prop} {Q:Bool->Shared->Prop} (h:Q (decide (O.cmp a b<0)) s):wpAny (model X.prog X.w) A (keyLt' general' (.ref p) (.ref q)) Q E s:=tX (zD I da rp rq hu) h
theorem tY {prog:Program} {w:World} {A:Around} {Q:Bool->Shared->Prop} {r:Bool} {s:Shared} {fin:Bool}:∀{xs ys:List Value} {i:Nat},fK A s xs ys r->(xs.length=ys.length->fin=false)->(xs.length<ys.length->fin=true)->(ys.length<xs.length->fin=false)->Q r s->KatLex prog w A false fin Q (xs.zip ys) i s
 | _,_,i,.nn,h1,_,_,q=>by
   have:=h1 rfl;subst this;exact q
 | _,_,i,.nc,_,h2,_,q=>by
   have:=h2 (by simp);subst this;exact q
 | _,_,i,.cn,_,_,h3,q=>by
   have:=h3 (by simp);subst this;exact q
 | _,_,i,.eq he t,h1,h2,h3,q=>by
   refine kat_cons (he prog w _ _ (kat_yes ?_));exact tY t (λe=>h1 (by simp [e])) (λe=>h2 (by simpa using e)) (λe=>h3 (by simpa using e)) q
 | _,_,i,.ne he t,_,_,_,q=>by
   refine kat_cons (he prog w _ _ (kat_no ?_));rw [Bool.false_and];exact tX t q
theorem wd (I:aA X pins σ H s) {a b:O} {p q:Addr} (da:a.dp<=3) (rp:bI X.K H (.tup (au a)) (.ref p)) (rq:bI X.K H (.tup (au b)) (.ref q)) {A:Around} (hu:A.units+25<cLine) {E:Value->Shared->Prop} {Q:Bool->Shared->Prop} (h:Q (decide (O.cmp a b<0)) s):wpAny (model X.prog X.w) A (keyLt' (tuples' false) (.ref p) (.ref q)) Q E s:=by
 obtain ⟨its,its2,⟨o1,e1,c1,n1,d1⟩,⟨o2,e2,c2,n2,d2⟩,_,_,hc⟩:=kY I da rp rq;refine kat_lt e1 d1 e2 d2 (tY (hc A (by omega)) (λe=>?_) (λe=>?_) (λe=>?_) h)
 ·exact decide_eq_false (by simp only [List.size_toArray];simp at e;omega)
 ·exact decide_eq_true (by simpa using e)
 ·exact decide_eq_false (by simp only [List.size_toArray];simp at e;omega)
theorem wf (I:aA X pins σ H s) {a b:O} {p q:Addr} (da:a.dp<=3) (rp:bI X.K H (.tup (au a)) (.ref p)) (rq:bI X.K H (.tup (au b)) (.ref q)) {A:Around} (hu:A.units+25<cLine) {E:Value->Shared->Prop} {Q:Bool->Shared->Prop} (h:Q (decide (O.cmp a b<0)) s):wpAny (model X.prog X.w) A (keyLt' oneType' (.ref p) (.ref q)) Q E s:=by
 obtain ⟨its,its2,⟨⟨cl1,dd1,da1,sl1⟩,e1,c1,n1,d1⟩,⟨⟨cl2,dd2,da2,sl2⟩,e2,c2,n2,d2⟩,_,_,hc⟩:=kY I da rp rq;simp only at c1 d1 c2 d2;subst c1 d1 c2 d2;have ty:s.TypeIs (.ref p) "tuple":=⟨_,e1,rfl⟩;rw [keyLt'_oneType,oneLt'_eq];simp only [if_true];refine wpAny_bind (wpAny_cRoomFor_or (.inr (by omega)) ?_);refine wpAny_bind (wpAny_callSpecialIfBound?_slot (name:=Str.ofString "__lt__") ty PySem.F.slot_tuple_lt (call_meets PySem.F.slot_tuple_lt ty PySem.F.entry_tuple_lt (PySem.F.args_tuple_lt_2 _ _) (iW p q its.toArray its2.toArray n1 n2 dd1 dd2 sl1 sl2 (decide (O.cmp a b<0))) ⟨e1,e2,by simpa using hc A.in1 (by show A.units+1+20<cLine;omega),?_⟩));exact wpAny_truthy_bool h
end
end L2
set_option linter.all false
set_option maxRecDepth 100000
namespace L2
open PySem PySem.Spec PyProof.Rows Nm PySem.W
noncomputable def fG (h:Heap) (d:Addr) (es:Array DictEntry) (ep:Nat):Prop:=∃o,h.get? d=some o/\o.ExactDict/\o.data=.dict es ep
theorem fG.at {h h':Heap} {d:Addr} {es:Array DictEntry} {ep:Nat} (x:fG h d es ep) (k:∀o,h.get? d=some o->h'.get? d=some o):fG h' d es ep:=let ⟨o,e,r⟩:=x;⟨o,k o e,r⟩
theorem fG.ty {s:Shared} {d:Addr} {es:Array DictEntry} {ep:Nat} (x:fG s.heap d es ep):s.TypeIs (.ref d) "dict":=let ⟨o,e,c,_⟩:=x;⟨o,e,c.1⟩
section
variable {prog:Program} {w:World} {A:Around} {E:Value->Shared->Prop} {s:Shared} {it d:Addr} {i ep:Nat} {es:Array DictEntry}
theorem tZ {Q:Value->Shared->Prop} (lo:(d==sysModules)=false) (x:fG s.heap d es ep)
 (q:Q (.ref s.heap.objs.size) { s with heap:=s.heap.push { cls:= .type "dict_keyiterator",data:= .fields #[.ref d,.int 0 0,.int es.size 0,.int ep 0] } }):wpAny (model prog w) A (pyIter (.ref d)) Q E s:=by
 have ty:=x.ty;obtain ⟨o,gO,_,dO⟩:=x;refine wpAny_pyIter_slot ty F.slot_dict_iter (wpAny_call_entry F.slot_dict_iter ty F.entry_dict_iter ?tree (F.args_dict_iter_1 _))
 case tree=>
  unfold Builtin.«dict.__iter__» Builtin.Dict.dictSlotNone;refine wpAny_bind (wpAny_bind (wpAny_notOrdered_dict ty (wpAny_pure (a:=Value.ref d) ?_)));show wpAny _ _ (Builtin.Dict.showsAll d >>= _) _ _ s;unfold Builtin.Dict.showsAll;rw [lo,if_neg Bool.false_ne_true];refine wpAny_bind (wpAny_pure (wpAny_bind (wpAny_dictEntries gO dO (wpAny_bind (wpAny_dictEpoch gO dO ?_)))));refine wpAny_bind (wpAny_newObj_type (wpAny_pure ⟨_,rfl,"dict_keyiterator",_,⟨_,Heap.get?_push_size _ rfl,rfl⟩,F.slot_dict_keyiterator_next.lookup,?_⟩));simpa [rawInt] using q
theorem t9 {Q:Option Value->Shared->Prop} (ki:s.heap.IsKeyIter it d i es.size ep) (x:fG s.heap d es ep) (hi:i<es.size)
 (q:∀h',h'.IsKeyIter it d (i+1) es.size ep->Heap.SameBut it s.heap h'->Q (some es[i].key) { s with heap:=h' }):wpAny (model prog w) A (pyNext (.ref it)) Q E s:=by
 have tk:=ki.typeIs;obtain ⟨o,gI,cI,dI⟩:=id ki;obtain ⟨od,gO,_,dO⟩:=x;unfold pyNext;refine wpAny_bind (wpAny_attempt (wpAny_callSpecial?_slot (name:=Str.ofString "__next__") tk F.slot_dict_keyiterator_next (wpAny_call_entry F.slot_dict_keyiterator_next tk F.entry_dict_keyiterator_next ?tree (F.args_dict_keyiterator_next_1 _))))
 case tree=>
  refine wpAny_bind (wpAny_pure (wpAny_bind (wpAny_bind ?_)))
  first | refine wpAny_bind (wpAny_typeNameOfWhole_keyiter tk (wpAny_pure (wpAny_bind (wpAny_fieldsOf gI dI ?_)))) | refine wpAny_bind (wpAny_typeNameOf_keyiter tk (wpAny_pure (wpAny_bind (wpAny_fieldsOf gI dI ?_))))
  simp only [show Builtin.Dict_items.ownsTuple "dict_keyiterator"=false from by decide,Bool.false_eq_true,if_false];show wpAny _ _ (if (Value.ref d==Value.none)=true then _ else _) _ _ s;rw [show (Value.ref d==Value.none)=false from rfl,if_neg Bool.false_ne_true];refine wpAny_bind (wpAny_pure (wpAny_bind (wpAny_dictEntries gO dO ?_)));rw [if_neg (by simp)];refine wpAny_bind (wpAny_pure (wpAny_bind (wpAny_dictEpoch gO dO ?_)));rw [if_neg (by simp)];refine wpAny_pure ?_;simp only [show ¬((i:Int)<0) from by omega,if_false,Int.toNat_natCast,Array.getElem?_eq_getElem hi];refine wpAny_bind ?_
  first | refine wpAny_bind (wpAny_typeNameOfWhole_keyiter tk (wpAny_pure (wpAny_bind (wpAny_isOneOf_keyiter tk ?_)))) | refine wpAny_bind (wpAny_typeNameOf_keyiter tk (wpAny_pure (wpAny_bind (wpAny_isOneOf_keyiter tk ?_))))
  show wpAny _ _ (setField (.ref it) 1 (rawInt ((i:Int)+1)) >>= _) _ _ s;refine wpAny_bind (wpAny_setField gI dI (by simp) ?_);have ki':(s.heap.update it (Obj.mapFields (·.setIfInBounds 1 (rawInt ((i:Int)+1))))).IsKeyIter it d (i+1) es.size ep:=
   ⟨_,Heap.get?_update_self _ gI (Obj.isFreed_of_fields (Obj.data_mapFields dI _)),(Obj.cls_mapFields ..).trans cI,by rw [Obj.data_mapFields dI];simp [rawInt]⟩
  refine wpAny_bind (wpAny_holding (wpAny_bind (wpAny_isOneOf_keyiter (s:={ s with heap:=s.heap.update it (Obj.mapFields (·.setIfInBounds 1 (rawInt ((i:Int)+1)))) }) ki'.typeIs ?_)));exact wpAny_pure (a:=es[i].key) (wpAny_pure ⟨_,rfl,wpAny_pure (q _ ki' (Heap.SameBut.update ..))⟩)
theorem wg {Q:Option Value->Shared->Prop} (hh:A.handled=none) (ki:s.heap.IsKeyIter it d i es.size ep) (x:fG s.heap d es ep) (hi:es.size<=i)
 (q:∀h',Heap.ExtBut it s.heap h'->Q none { s with heap:=h' }):wpAny (model prog w) A (pyNext (.ref it)) Q E s:=by
 have tk:=ki.typeIs;obtain ⟨o,gI,cI,dI⟩:=id ki;obtain ⟨od,gO,_,dO⟩:=x;unfold pyNext;refine wpAny_bind (wpAny_attempt (wpAny_callSpecial?_slot (name:=Str.ofString "__next__") tk F.slot_dict_keyiterator_next (wpAny_call_entry F.slot_dict_keyiterator_next tk F.entry_dict_keyiterator_next ?tree (F.args_dict_keyiterator_next_1 _))))
 case tree=>
  refine wpAny_bind (wpAny_pure (wpAny_bind (wpAny_bind ?_)))
  first | refine wpAny_bind (wpAny_typeNameOfWhole_keyiter tk (wpAny_pure (wpAny_bind (wpAny_fieldsOf gI dI ?_)))) | refine wpAny_bind (wpAny_typeNameOf_keyiter tk (wpAny_pure (wpAny_bind (wpAny_fieldsOf gI dI ?_))))
  simp only [show Builtin.Dict_items.ownsTuple "dict_keyiterator"=false from by decide,Bool.false_eq_true,if_false];show wpAny _ _ (if (Value.ref d==Value.none)=true then _ else _) _ _ s;rw [show (Value.ref d==Value.none)=false from rfl,if_neg Bool.false_ne_true];refine wpAny_bind (wpAny_pure (wpAny_bind (wpAny_dictEntries gO dO ?_)));rw [if_neg (by simp)];refine wpAny_bind (wpAny_pure (wpAny_bind (wpAny_dictEpoch gO dO ?_)));rw [if_neg (by simp)];refine wpAny_pure ?_;simp only [show ¬((i:Int)<0) from by omega,if_false,Int.toNat_natCast,Array.getElem?_eq_none hi];refine wpAny_bind ?_
  first | refine wpAny_bind (wpAny_typeNameOfWhole_keyiter tk (wpAny_pure ?_)) | refine wpAny_bind (wpAny_typeNameOf_keyiter tk (wpAny_pure ?_))
  show wpAny _ _ (setField (.ref it) 0 .none >>= _) _ _ s;refine wpAny_bind (wpAny_setField gI dI (by simp) ?_);show wpAny _ _ (newExc (.type "StopIteration") [] >>= _) _ _ _;refine wpAny_bind ?_;simp only [newExc,newTuple];refine wpAny_bind (wpAny_newObj_type (wpAny_bind (m:=firstArgMember _ _) (wpAny_of_eq (a:=Value.none) (by first | rfl | (simp only [firstArgMember];rfl)) (wpAny_newObj_type ?_ (by size_fits)))) (by size_fits));simp only [raiseNew];refine wpAny_bind (wpAny_handled ?_);rw [show A.in1.handled=none from hh];refine wpAny_bind (wpAny_pure (wpAny_throw ?_));refine wpAny_bind (wpAny_isInstance (T:="StopIteration") (b:=true) ⟨_,Heap.get?_push_size _ rfl,rfl⟩ isSubtype_stop ?_);exact wpAny_pure (q _ (((Heap.SameBut.update ..).extBut.push _).push _))
theorem qR (hh:A.handled=none) (I:Addr) (hne:d≠I):Walks prog w A I [I,d] [I] es.size (λi v=>∃e,es[i]?=some e/\v=e.key) (λi h=>h.IsKeyIter I d i es.size ep/\fG h d es ep) where
 sub:=λb hb=>by simp at hb;simp [hb]
 frame:=λ_ _ _ st hk=>⟨st.1.at λo e=>hk I (by simp) o e,st.2.at λo e=>hk d (by simp) o e⟩
 item:=λi s Q E hi st hQ=>t9 st.1 st.2 hi λh' ki' sb=>hQ _ h' s.toks ⟨_,Array.getElem?_eq_getElem hi,rfl⟩ ⟨ki',st.2.at λo e=>(sb.2 d hne).trans e⟩ λb o hb e=>(sb.2 b (λz=>hb (by simp [z]))).trans e
 done:=λs Q E st hQ=>wg hh st.1 st.2 (Nat.le_refl _) λh' eb=>hQ h' s.toks λb o hb e=>eb b o (λz=>hb (by simp [z])) e
 self:=λ_ _ _ _ st hQ=>wpAny_pyIter_keyiter st.1 hQ
theorem wj (lo:(d==sysModules)=false):KdlSrc prog w "dict" d d es.size (λi v=>∃e,es[i]?=some e/\v=e.key) (λh=>fG h d es ep) where
 type:=λ_ x=>x.ty
 there:=λ_ x=>let ⟨_,e,_⟩:=x;⟨Heap.lt_size e,Heap.lt_size e⟩
 keep:=λ_ _ x hk=>x.at λo e=>hk d (.inl rfl) o e
 notList:=by decide
 notTuple:=by decide
 hint:=λ_ _ _ _ x hq=>kdl_hint_dict x.ty hq
 iter:=λ_ _ hh x=>⟨_,_,(λ_ _ hq=>tZ lo x hq),qR hh _ (let ⟨_,e,_⟩:=x;Nat.ne_of_lt (Heap.lt_size e)),⟨⟨_,Heap.get?_push_size _ rfl,rfl,rfl⟩,x.at λo e=>Heap.get?_push_of_some _ e⟩⟩
end
end L2
set_option linter.all false
set_option maxRecDepth 100000
set_option maxHeartbeats 1000000
namespace L2
open PySem PySem.Spec PyProof.Rows Nm PySem.W
inductive NV (K:PySem.W.Frag) (H:Hp):List O->List Value->Prop where
 | nil:NV K H [] []
 | cons {o:O} {a:Addr} {os:List O} {us:List Value} (r:bI K H (.tup (au o)) (.ref a)) (hd:o.dp<=3) (t:NV K H os us):NV K H (o::os) (.ref a::us)
theorem NV.length {K:PySem.W.Frag} {H:Hp}:∀{os:List O} {us:List Value},NV K H os us->os.length=us.length
 | _,_,.nil=>rfl
 | _,_,.cons _ _ t=>congrArg (·+1) t.length
theorem NV.app {K:PySem.W.Frag} {H:Hp}:∀{os ps:List O} {us vs:List Value},NV K H os us->NV K H ps vs->NV K H (os++ps) (us++vs)
 | _,_,_,_,.nil,t=>t
 | _,_,_,_,.cons r hd t,t2=> .cons r hd (t.app t2)
theorem NV.rev {K:PySem.W.Frag} {H:Hp}:∀{os:List O} {us:List Value},NV K H os us->NV K H os.reverse us.reverse
 | _,_,.nil=> .nil
 | _,_,.cons r hd t=>by
   rw [List.reverse_cons,List.reverse_cons];exact t.rev.app (.cons r hd .nil)
theorem NV.at {K:PySem.W.Frag} {H:Hp}:∀{os:List O} {us:List Value},NV K H os us->∀i,i<os.length->∃a,us.getD i Value.none=.ref a/\bI K H (.tup (au (os.getD i .z))) (.ref a)/\(os.getD i .z).dp<=3
 | _,_,.nil,i,h=>absurd h (Nat.not_lt_zero _)
 | _,_,.cons r hd t,0,_=>⟨_,rfl,r,hd⟩
 | _,_,.cons r hd t,i+1,h=>t.at i (Nat.lt_of_succ_lt_succ h)
theorem NV.pick {K:PySem.W.Frag} {H:Hp} {os:List O} {us:List Value} (h:NV K H os us):∀{p:List Nat},(∀i,i∈p->i<os.length)->NV K H (p.map λi=>os.getD i .z) (p.map λi=>us.getD i Value.none)
 | [],_=> .nil
 | i::p,hp=>by
   obtain ⟨a,h1,h2,h3⟩:=h.at i (hp i List.mem_cons_self);rw [List.map_cons,List.map_cons,h1];exact .cons h2 h3 (h.pick λj hj=>hp j (List.mem_cons_of_mem _ hj))
section
variable {X:Cx} {pins:List (Addr×Obj)} {σ:St} {H:Hp} {s:Shared}
theorem gU {M:Model} {a:Addr} {o:Obj} {h:Heap} (e:h.get? a=some o) (c:o.cls=.type "tuple"):Looks M h (typeOf (.ref a)) (.type "tuple"):=c▸((Looks.ld e).andThen .now)
theorem kf (I:aA X pins σ H s) {M:Model} {A:Around} {E:Value->Shared->Prop}:∀{os:List O} {us:List Value},NV X.K H os us->∃fs:List (Option Value),fs.length=us.length/\(∀v,some v∈fs->Looks M s.heap (typeOf v) (.type "tuple"))/\∀{Q:List (Option Value)->Shared->Prop},Q fs s->wpAny M A (us.mapM firstOfTuple') Q E s
 | _,_,.nil=>⟨[],rfl,(λ_ h=>(nomatch h)),λq=>by rw [List.mapM_nil];exact wpAny_pure q⟩
 | _,_,.cons (o:=o) (a:=a) (us:=us) r hd t=>by
   obtain ⟨fs,h1,h2,h3⟩:=kf I t;cases r with
   | tup hT rr=>
     obtain ⟨its,rv,⟨ob,e,c,n,dd⟩,_⟩:=I.tuple (cR.of hT);refine ⟨its[0]?::fs,by simp [h1],λv hv=>?_,λ{Q} q=>?_⟩
     ·rcases List.mem_cons.mp hv with hv | hv
      ·cases o with
       | z=>
         cases rr;cases rv;cases hv
       | c e1 n1 r1=>
         rw [bQ] at rr;cases rr with
         | cons q1 qs=>
           cases rv with
           | cons w1 ws=>
             cases hv;unfold gn at q1;cases q1 with
             | tup hT2 _=>
               obtain ⟨its2,_,⟨ob2,e2,c2,n2,dd2⟩,_⟩:=I.tuple (cR.of hT2);cases (show v=Value.ref _ from w1);exact gU e2 c2
      ·exact h2 v hv
     ·rw [List.mapM_cons];refine wpAny_bind ?_;rw [kas_first_eq];refine wpAny_bind ((gU e c).here ?_);rw [if_neg (by decide)];refine wpAny_bind (listItems_at e dd (wpAny_pure (wpAny_bind (h3 (wpAny_pure ?_)))));simpa using q
theorem mC (I:aA X pins σ H s) {M:Model}:∀{os:List O} {us:List Value},NV X.K H os us->∀v,v∈us->Looks M s.heap (typeOf v) (.type "tuple")
 | _,_,.nil,v,hv=>(nomatch hv)
 | _,_,.cons r hd t,v,hv=>by
   rcases List.mem_cons.mp hv with rfl | hv
   ·cases r with
    | tup hT rr=>
      obtain ⟨its,rv,⟨ob,e,c,n,dd⟩,_⟩:=I.tuple (cR.of hT);exact gU e c
   ·exact mC I t v hv
theorem mD {M:Model} {A:Around} {E:Value->Shared->Prop} {vs:List Value} (hne:vs≠[]) (hT:∀v,v∈vs->Looks M s.heap (typeOf v) (.type "tuple")) {Q:Option Value->Shared->Prop} (q:Q (some (.type "tuple")) s):wpAny M A (oneTypeOnly' vs.toArray) Q E s:=by
 rw [oneTypeOnly'_eq,List.mapM_toArray,map_eq_pure_bind];refine wpAny_bind (wpAny_bind (kas_mapM (r:=Value.type "tuple") _ (λv hv Q' hq=>(hT v hv).here hq) (wpAny_pure ?_)));cases vs with
 | nil=>exact absurd rfl hne
 | cons v vs=>
   have e0:(List.map (λ_=>Value.type "tuple") (v::vs)).toArray[0]?=some (Value.type "tuple"):=by simp
   have e1:((List.map (λ_=>Value.type "tuple") (v::vs)).toArray.all λx=>x==Value.type "tuple")=true:=by simp
   rw [e0];simp only [e1,if_true];exact wpAny_pure q
theorem wk (I:aA X pins σ H s) {A:Around} {E:Value->Shared->Prop} {os:List O} {us:List Value} (nv:NV X.K H os us) (h1:1<=us.length) {Q:SortKind->Shared->Prop} (q:∀κ,(κ=tuples' false∨κ=general'∨κ=oneType')->Q κ s):wpAny (model X.prog X.w) A (keyKind' us.toArray) Q E s:=by
 obtain ⟨fs,l1,l2,l3⟩:=kf (M:=model X.prog X.w) (A:=A) (E:=E) I nv;have hne:us≠[]:=λz=>by rw [z] at h1;exact absurd h1 (by decide)
 rw [kat_kind_eq,List.mapM_toArray,map_eq_pure_bind];refine wpAny_bind (wpAny_bind (l3 (wpAny_pure ?_)))
 by_cases hall:(fs.toArray.all λx=>x.isSome)=true
 ·rw [if_pos hall];refine wpAny_bind (wpAny_rule ?_);have hfm:(fs.toArray.filterMap id)=(fs.filterMap id).toArray:=by simp
  rw [hfm];refine wpAny_bind (mD ?_ (λv hv=>?_) ?_)
  ·intro z;have:fs≠[]:=λz2=>by rw [z2] at l1;exact hne (List.eq_nil_of_length_eq_zero l1.symm)
   cases fs with
   | nil=>exact this rfl
   | cons f fs=>
     cases f with
     | none=>simp at hall
     | some v=>simp at z
  ·obtain ⟨x,hx,hv⟩:=List.mem_filterMap.mp hv;exact l2 v (by rw [←hv];exact hx)
  ·exact wpAny_pure (q _ (.inl rfl))
 ·rw [if_neg hall]
  by_cases h0:(fs.toArray[0]?.bind id).isSome=true
  ·rw [if_pos h0];exact wpAny_pure (q _ (.inr (.inl rfl)))
  ·rw [if_neg h0];refine wpAny_bind (mD hne (mC I nv) ?_);exact wpAny_pure (q _ (.inr (.inr rfl)))
theorem wm (I:aA X pins σ H s) {a b:O} {p q:Addr} (da:a.dp<=3) (rp:bI X.K H (.tup (au a)) (.ref p)) (rq:bI X.K H (.tup (au b)) (.ref q)) {A:Around} (hu:A.units+25<cLine) {κ:SortKind} (hκ:κ=tuples' false∨κ=general'∨κ=oneType') {E:Value->Shared->Prop} {Q:Bool->Shared->Prop} (h:Q (decide (O.cmp a b<0)) s):wpAny (model X.prog X.w) A (keyLt' κ (.ref p) (.ref q)) Q E s:=by
 rcases hκ with rfl | rfl | rfl
 ·exact wd I da rp rq hu h
 ·exact wc I da rp rq hu h
 ·exact wf I da rp rq hu h
theorem qS (vs:List Value):(vs.toArray.zip vs.toArray).reverse=pairsOf vs.reverse:=by
 apply Array.toList_inj.mp;show (vs.toArray.zip vs.toArray).reverse.toList=(vs.reverse.toArray.zip vs.reverse.toArray).toList;rw [Array.toList_reverse,Array.toList_zip,Array.toList_zip];show (List.zip vs vs).reverse=List.zip vs.reverse vs.reverse;unfold List.zip;exact List.reverse_zipWith rfl
theorem uc {os:List O} {n:Nat} (hn:os.length=n) (h2:2<=n) (h5:n<=5) (hd:os.Nodup):zB n (kas_sort n)=true/\∃p:List Nat,p=(qO (qP (os.map (rk os))) (kas_sort n)).toList/\(p.map λi=>(os.map (rk os)).getD i 0)=List.range n/\∀i,i∈p->i<n:=by
 have hc:=zC h2 h5;unfold qQ at hc;rw [Bool.and_eq_true] at hc;refine ⟨hc.1,_,rfl,?_⟩;have hm:os.map (rk os)∈wb n n:=by
  have:=mB (n:=n) (l:=os.map (rk os)) λx hx=>by
   obtain ⟨o,ho,rfl⟩:=List.mem_map.mp hx;rw [←hn];exact yW ho
  rw [List.length_map,hn] at this;exact this
 have hnd:(os.map (rk os)).Nodup:=by
  rw [List.Nodup,List.pairwise_map];exact hd.imp_of_mem λ{a b} ha hb hne z=>hne (yX ha hb z)
 have h3:=List.all_eq_true.mp hc.2 _ hm;rw [tW hnd,Bool.not_true,Bool.false_or] at h3;unfold Bc at h3;rw [Bool.and_eq_true] at h3;refine ⟨by simpa using h3.1,λi hi=>?_⟩;have:=List.all_eq_true.mp h3.2 i hi;simpa using this
theorem ud {os:List O} {i j:Nat} (hi:i<os.length) (hj:j<os.length):qP (os.map (rk os)) i j=decide (O.cmp (os.getD i .z) (os.getD j .z)<0):=by
 have e:∀k,k<os.length->(os.map (rk os)).getD k 0=rk os (os.getD k .z)/\os.getD k .z∈os:=λk hk=>by
  rw [List.getD_eq_getElem?_getD,List.getD_eq_getElem?_getD,List.getElem?_map,List.getElem?_eq_getElem hk];exact ⟨rfl,List.getElem_mem hk⟩
 unfold qP;rw [(e i hi).1,(e j hj).1];exact decide_eq_decide.mpr (sV (e i hi).2 (e j hj).2)
theorem qT (I:aA X pins σ H s) {A:Around} {E:Value->Shared->Prop} {a:Addr} {vs:List Value} {os:List O} {n:Nat} {R:PySem.Fin->Shared->Prop} (ho:s.heap.get? a=some (seqObj "list" vs.toArray n)) (fa:iK X pins H a) (nv:NV X.K H os vs) (hnd:os.Nodup) (h5:vs.length<=5) (hu:A.units+25<cLine)
 (h:∀(out:List Value) (ks:List O) (h':Heap) (e:Nat),(∀b o,b≠a->s.heap.get? b=some o->h'.get? b=some o)->h'.get? a=some (seqObj "list" out.toArray e)->NV X.K H ks out->cX ks->ks.Perm os->R (.done (.ret .none)) { s with heap:=h' }):
 wpAny (model X.prog X.w) A (Builtin.«list.sort» ⟨[.ref a],[(Str.ofString "reverse",.bool true)]⟩) R E s:=by
 have hlen:=nv.length;rw [list_sort_rev];have ha:a<s.heap.objs.size:=Heap.lt_size ho;refine wpAny_bind (listItems_at ho rfl ?_);refine wpAny_bind (listUpdate_at ho rfl ?_ (by rw [List.size_toArray,sizeLine_eq];omega) (Nat.zero_le _));obtain ⟨e1,ho1⟩:∃e1,(s.heap.update a (Obj.mapSeq λ_=> #[])).get? a=some (seqObj "list" #[] e1):=⟨_,get?_update_seq ho (λ_=> #[])⟩;refine wpAny_bind (seqEpoch_at ho1 rfl ?_);refine wpAny_bind (wpAny_newTuple ?_ (by show vs.length<=_;rw [sizeLine_eq];omega));refine wpAny_bind (wpAny_newList ?_ (Nat.zero_le _));refine wpAny_holding ?_;have sb:Heap.SameBut a s.heap (s.heap.update a (Obj.mapSeq λ_=> #[])):=Heap.SameBut.update ..;have keep6:∀b o,b≠a->s.heap.get? b=some o->(((s.heap.update a (Obj.mapSeq λ_=> #[])).push (seqObj "tuple" vs.toArray 0)).push (seqObj "list" #[] 0)).get? b=some o:=λb o hb e=>Heap.get?_push_of_some _ (Heap.get?_push_of_some _ ((sb.2 b hb).trans e));have ho6:(((s.heap.update a (Obj.mapSeq λ_=> #[])).push (seqObj "tuple" vs.toArray 0)).push (seqObj "list" #[] 0)).get? a=some (seqObj "list" #[] e1):=Heap.get?_push_of_some _ (Heap.get?_push_of_some _ ho1);show wpAny (model X.prog X.w) A _ R E { s with heap:=((s.heap.update a (Obj.mapSeq λ_=> #[])).push (seqObj "tuple" vs.toArray 0)).push (seqObj "list" #[] 0) };generalize ((s.heap.update a (Obj.mapSeq λ_=> #[])).push (seqObj "tuple" vs.toArray 0)).push (seqObj "list" #[] 0)=h6 at keep6 ho6 ⊢;obtain ⟨f0,f1,f2,f3,f4,f5⟩:=fa;have I6:aA X pins σ H { s with heap:=h6 }:=I.turned (t':=s.toks) keep6 f0 f1 f3 f4 f5;simp only [if_true];refine wpAny_bind (wpAny_rule ?_)
 -- what is left once the order is known
 have fin:∀(out:List Value) (ks:List O),NV X.K H ks out->cX ks->ks.Perm os->out.length=vs.length->wpAny (model X.prog X.w) A (Builtin.List.listUpdate (.ref a) λ_=>out.toArray) (λ_ s'=>∃h' e,s'={ s with heap:=h' }/\(∀b o,b≠a->s.heap.get? b=some o->h'.get? b=some o)/\h'.get? a=some (seqObj "list" out.toArray e)) E { s with heap:=h6 }:=λout ks _ _ _ hl=>by
  refine listUpdate_at ho6 rfl ?_ (Nat.zero_le _) (by rw [List.size_toArray,sizeLine_eq];omega);have sb2:Heap.SameBut a h6 (h6.update a (Obj.mapSeq λ_=>out.toArray)):=Heap.SameBut.update ..;exact ⟨_,_,rfl,λb o hb e=>(sb2.2 b hb).trans (keep6 b o hb e),get?_update_seq ho6 λ_=>out.toArray⟩
 by_cases h2:vs.toArray.size<2
 ·rw [if_pos h2,if_pos h2];refine wpAny_bind (wpAny_pure ?_);rw [StateT.run_pure];refine wpAny_bind (wpAny_pure ?_);dsimp only;refine wpAny_bind (seqEpoch_at ho6 rfl ?_);have eo:((arrOf (SortSt.mk' general' (vs.toArray.zip vs.toArray).reverse #[] 7 none)).map (·.2)).reverse=vs.toArray:=by
   show (((vs.toArray.zip vs.toArray).reverse).map (·.2)).reverse=vs.toArray;apply Array.toList_inj.mp;simp [List.map_snd_zip]
  rw [eo];have hd1:cX os:=by
   have:os.length<2:=by rw [hlen];simpa using h2
   match os,this with
   | [],_=>exact List.Pairwise.nil
   | [x],_=>exact List.pairwise_singleton _ _
  refine wpAny_bind (wpAny_mono (fin vs os nv hd1 (List.Perm.refl _) rfl) (λ_ s' z9=>?_) λ_ _ x=>x);obtain ⟨h',e,es,k1,k2⟩:=z9;subst es;simp only [bne_self_eq_false,Bool.false_eq_true,if_false];exact wpAny_pure (h vs os h' e k1 k2 nv hd1 (List.Perm.refl _))
 ·rw [if_neg h2,if_neg h2];have hn2:2<=vs.length:=by simpa using h2
  refine wpAny_bind (wk I6 nv (by omega) λκ hκ=>?_);have nv':=nv.rev;have hl':os.reverse.length=vs.length:=by rw [List.length_reverse];exact hlen
  have hnd':os.reverse.Nodup:=by rw [List.Nodup,List.pairwise_reverse];exact hnd.imp λh=>h.symm
  obtain ⟨ok,p,hp,hp1,hp2⟩:=uc hl' hn2 h5 hnd';obtain ⟨dsc,prm⟩:=vF hl' hnd' hp1 hp2;have nvp:=(nv'.pick (p:=p) λi hi=>by rw [hl'];exact hp2 i hi).rev;have hlp:p.length=vs.length:=by have:=congrArg List.length hp1;simpa using this
  have hask:(kas_sort vs.length).kasWp (kas_cmp X.prog X.w A κ (pairsOf vs.reverse)) (λp' s'=>s'={ s with heap:=h6 }/\p'.toList=p) { s with heap:=h6 }:=by
   refine mz (n:=vs.length) (lt:=qP (os.reverse.map (rk os.reverse))) (λi j hi hj C hC=>?_) _ ok ⟨rfl,hp.symm⟩;rw [←kas_ask_eq];unfold kas_ask;obtain ⟨a1,g1,g2,g3⟩:=nv'.at i (by rw [hl'];exact hi);obtain ⟨a2,k1,k2,k3⟩:=nv'.at j (by rw [hl'];exact hj);rw [g1,k1];rw [ud (by rw [hl'];exact hi) (by rw [hl'];exact hj)] at hC;exact wm I6 g3 g2 k2 hu hκ hC
  have est:SortSt.mk' κ (vs.toArray.zip vs.toArray).reverse #[] 7 none=kas_st κ (pairsOf vs.reverse) (List.toArray (List.range vs.length)):=by
   have e:=kas_range (pairsOf vs.reverse);rw [pairsOf_size,List.length_reverse] at e;rw [qS];show SortSt.mk' κ (pairsOf vs.reverse) #[] 7 none=SortSt.mk' κ ((List.toArray (List.range vs.length)).map (kas_item (pairsOf vs.reverse))) #[] 7 none;rw [e]
  have run:=kas_runs (E:=E) (κ:=κ) (it:=pairsOf vs.reverse) (Q:=λ_ st' s'=>s'={ s with heap:=h6 }/\(arrOf st').map (·.2)=(p.map λi=>vs.reverse.getD i Value.none).toArray/\failedOf st'=none) hn2 (by omega) (λp' st' s' a1 a2 a3 a4=>⟨a4.1,by
   apply Array.toList_inj.mp;rw [a2,Array.map_map,Array.toList_map,a4.2];exact List.map_congr_left λi _=>by show (kas_item (pairsOf vs.reverse) i).2=_;rw [kas_item_eq],a3⟩) hask
  rw [←est] at run;refine wpAny_bind (wpAny_mono run ?_ λ_ _ e=>e);rintro ⟨⟨⟩,st'⟩ s' ⟨rfl,har,hf⟩;dsimp only;refine wpAny_bind (seqEpoch_at ho6 rfl ?_);rw [har,show (p.map λi=>vs.reverse.getD i Value.none).toArray.reverse=((p.map λi=>vs.reverse.getD i Value.none).reverse).toArray by simp];have prm2:=prm.trans (List.reverse_perm os);refine wpAny_bind (wpAny_mono (fin _ _ nvp dsc prm2 (by rw [List.length_reverse,List.length_map,hlp])) (λ_ s' z9=>?_) λ_ _ x=>x);obtain ⟨h',e,es,k1,k2⟩:=z9;subst es;rw [hf];simp only [bne_self_eq_false,Bool.false_eq_true,if_false];exact wpAny_pure (h _ _ h' e k1 k2 nvp dsc prm2)
end
end L2
set_option linter.all false
set_option maxRecDepth 100000
set_option maxHeartbeats 1000000
namespace L2
open PySem PySem.Spec PyProof.Rows Nm PySem.W
section
variable {X:Cx} {pins:List (Addr×Obj)} {σ:St} {H:Hp} {s:Shared}
theorem fQ.ents {P:Program} {w:World} {K:PySem.W.Frag}:∀{kvs:List (O×W)} {xs:List (O×Addr×Value)},fQ K H kvs xs->(∀p,p∈kvs->p.1.dp<=3)->NV K H (kvs.map (·.1)) ((xs.map (entryOfKey (jk P w))).map (·.key))
 | _,_,.nil,_=> .nil
 | _,_,.cons rk _ _ t,h=> .cons rk (h _ List.mem_cons_self) (fQ.ents t λp hp=>h p (List.mem_cons_of_mem _ hp))
theorem oB {k:Nat} (hr:ay k X.A) (hc:X.calm=true) (I:aA X pins σ H s) {d:Addr} {kvs:List (O×W)} (hD:jC X.prog X.w X.K kvs H d) (h5:kvs.length<=5) {E:Value->Shared->Prop} {Q:Value->Shared->Prop}
 (h:∀(h1:Heap) (ks:List O) (out:List Value) (h':Heap) (tk e:Nat),aA X pins σ H { s with heap:=h1,toks:=tk }->(∀b o,h1.get? b=some o->h'.get? b=some o)->h'.get? h1.objs.size=some (seqObj "list" out.toArray e)->NV X.K H ks out->cX ks->ks.Perm (kvs.map (·.1))->Q (.ref h1.objs.size) { s with heap:=h',toks:=tk }):
 wpAny (model X.prog X.w) X.A (call (.builtin "sorted") [.ref d] [(Str.ofString "reverse",.bool true)]) Q E s:=by
 have hun:=hr.un;obtain ⟨xs,eH,kv,ob,es,ep,m1,m2,m3,m4,_⟩:=hD.dict I;have hsz:es.size=kvs.length:=by rw [size_of_entries m4,kv.length]
 refine call_function_entry_kw kind_sorted plain_sorted entry_sorted (args_sorted_rev _ _) ?_;unfold Builtin.«sorted»;refine wpAny_bind (m:=checkCount "sorted" 1 1 _) (wpAny_pure ?_);refine wpAny_bind (kdu_collect (A:=X.A.in1) (wj (es:=es) (ep:=ep) hD.2.1) (I.ok.hd hc) ⟨ob,m1,m2,m3⟩ (by rw [hsz,sizeLine_eq];omega) λh1 tk acc k1 hacc=>?_);have hal:acc.toList=es.toList.map (·.key):=by
  apply List.ext_getElem?;intro i;rw [List.getElem?_map]
  by_cases hi:i<es.size
  ·have hi2:i<acc.size:=by rw [hacc.1];exact hi
   obtain ⟨e,e1,e2⟩:=hacc.2 i acc[i] (Array.getElem?_eq_getElem hi2);rw [Array.getElem?_toList,Array.getElem?_toList,e1,Array.getElem?_eq_getElem hi2,e2]
   rfl
  ·rw [Array.getElem?_toList,Array.getElem?_toList,Array.getElem?_eq_none (by rw [hacc.1];omega),Array.getElem?_eq_none (by omega)]
   rfl
 have nv:NV X.K H (kvs.map (·.1)) acc.toList:=by
  rw [hal,m4];exact fQ.ents kv hD.2.2.2.1
 have hlen:acc.toList.length<=5:=by rw [←nv.length,List.length_map];exact h5
 refine wpAny_bind (wpAny_newList ?_ (by rw [sizeLine_eq];omega));have I1:aA X pins σ H { s with heap:=h1,toks:=tk }:=I.kept k1;have fp:iK X pins H h1.objs.size:=I1.fpOk (Nat.le_refl _) (I1.hok.fresh (Nat.le_refl _));have I2:aA X pins σ H { s with heap:=h1.push (seqObj "list" acc.toList.toArray 0),toks:=tk }:=I1.kept λb o e=>Heap.get?_push_of_some _ e;refine wpAny_bind (wpAny_holding (wpAny_call_entry_kw slot_list_sort ⟨_,Heap.get?_push_size _ rfl,rfl⟩ entry_list_sort (qT I2 (Heap.get?_push_size _ rfl) fp nv hD.2.2.1 hlen (by show X.A.units+1+1+25<cLine;omega) λout ks h' e k2 g2 nvk ds pm=>⟨_,rfl,?_⟩) (args_list_sort_rev _ _)));exact wpAny_pure ⟨_,rfl,h h1 ks out h' tk e I1 (λb o e=>k2 b o (Nat.ne_of_lt (Heap.lt_size e)) (Heap.get?_push_of_some _ e)) g2 nvk ds pm⟩
theorem NV.vals {K:PySem.W.Frag}:∀{os:List O} {us:List Value},NV K H os us->∃vs:List V,aJ K H (os.map λo=> .tup (au o)) vs/\aM vs us
 | _,_,.nil=>⟨[],.nil,.nil⟩
 | _,_,.cons (a:=a) r _ t=>by
   obtain ⟨vs,h1,h2⟩:=NV.vals t;exact ⟨.ref a::vs,.cons r h1,.cons rfl h2⟩
noncomputable def oC (P:Program) (w:World) (K:PySem.W.Frag) (te:WE):WE:=λτ G q=>te τ G λx G1=>match x with
 | .ref a=>∃kvs,G1 a=some (pY P w K kvs)/\kvs.length<=5/\∀(p:Addr) (ks:List O),G1 p=none->cX ks->ks.Perm (kvs.map (·.1))->q (.ref p) (aG G1 p (.lst (ks.map λo=> .tup (au o))))
 | _=>False
theorem mE:bootBuiltins "sorted"=some (.builtin "sorted"):=by decide+kernel
theorem ue {n:Nat} {e:Expr} {te:WE} {j} {p pos kp cp:Pos} (hr:ay n X.A) (hc:X.calm=true) (hg:Gl X "sorted") (hm:X.mg "sorted"=none) (he:QE X e te)
 (hs1:starEach [e] X.env=(false,eval e X.env)::starEach [] X.env:=by rfl) (hb1:backTo pos (starEach [e] X.env)=(false,eval e X.env)::backTo pos (starEach [] X.env):=by rfl) (hpl:(backTo pos (starEach [e] X.env)).any (·.1)=false:=by rfl):
 QE X (.Call (.Name "sorted" p) [e] [⟨some "reverse",.Constant (.bool true) j cp,kp⟩] pos) (oC X.prog X.w X.K te):=by
 rintro pins s σ H Q I ⟨τ,G,q,hs,hgG,ht,hQ⟩;refine wpAny_Call_Name_kw (gv I hg hm mE ?_);have go:=(bL he pa_nil hs1) pos pins s σ H (λvs H1=>∃v w G1,vs=[v]/\aI H H1/\bI X.K H1 w v/\aH X.K H1 G1/\(match w with
  | .ref a=>∃kvs,G1 a=some (pY X.prog X.w X.K kvs)/\kvs.length<=5/\∀(p:Addr) (ks:List O),G1 p=none->cX ks->ks.Perm (kvs.map (·.1))->q (.ref p) (aG G1 p (.lst (ks.map λo=> .tup (au o))))
  | _=>False)) I ⟨τ,G,_,hs,hgG,ht,λv H1 w G1 t1 r1 g1 q1=>⟨v,w,G1,rfl,t1,r1,g1,q1⟩⟩
 refine callWith_kw (bV go λus s1 ⟨vs,H1,I1,rv,v,w,G1,ev,t1,rw1,g1,hw⟩=>kws_cons ?_) hb1 hpl rfl rfl;subst ev;refine bV (wM (X:=X) (b:=true) (j:=j) (pos:=cp) pins s1 σ H1 (λv H2=>v=.bl true/\H2=H1) I1 ⟨rfl,rfl⟩) λu2 s2 ⟨v2,H2,I2,rv2,e1,e2⟩=>kws_nil ?_;subst e1 e2;cases (show u2=Value.bool true from rv2);show wpAny _ _ (call (.builtin "sorted") us [("reverse",.bool true)]) _ _ s2;split at hw
 ·rename_i a;obtain ⟨kvs,e,h5,h⟩:=hw;cases rw1;obtain ⟨u,rfl,ru⟩:=fy rv;cases (show u=Value.ref a from ru);refine oB hr hc I2 (g1 a _ e).1 h5 λh1 ks out h' tk ee I3 k3 g3 nvk ds pm=>?_;obtain ⟨vs,r1,r2⟩:=nvk.vals;have hl:ks.length<=5:=by have:=pm.length_eq;rw [List.length_map] at this;omega
  have hp:=I3.hok.fresh (Nat.le_refl h1.objs.size);have hvl:vs.length<=sizeLine:=by rw [←r1.length,List.length_map,sizeLine_eq];omega
  refine ⟨.ref h1.objs.size,_,I3.laid (t':=tk) k3 (Nat.le_refl _) (show bE X.prog X.w _ h' _ (.lst vs) from ⟨hvl,out,ee,r2,g3⟩),rfl,?_⟩;exact hQ _ _ _ _ (t1.trans (aI.new hp _)) (.ref _) (g1.put (aI.new hp _) r1 (by rw [List.length_map];omega)) (h _ ks (g1.fresh hp) ds pm)
 ·exact hw.elim
end
end L2
set_option Elab.async false
set_option linter.all false
open PySem PySem.Spec PyProof.Rows L2 Nm
seal QE QT QW QA QS mX QG Ar QI QO xj ic yw eR
seal PySem.compareOp PySem.binaryOp PySem.unaryOp
set_option bootstrap.genMatcherCode true
set_option compiler.extract_closed false
local macro_rules | `(tactic| walk_at "R") => `(tactic| simp (config := { failIfUnchanged := false, maxSteps := 2000000 }) only [tS, zz, oC, wa, nI, xq, zt, xp, zu, zv, vA, vS, xy, xz, ow, tL, oy, xA, zn, zo, tF, tG, tE, pO, A5, vP, pQ, xx, yR, AX, xo, lT, jS, yR, lR, vw, AV, AU, iT, yx, DK, oX, wV, jx, wC, AF, Aw, wZ, u6, sw, sC, xn, AS, sG, cZ, ie, BK, cU, iS, u5, Av, Az, As, DJ, At, wX, wY, Au, w9, xh, o0, AD, AT, si, AC, jP, rW, jN, rV, yz, xg, L2.vInt, L2.vInt0, yJ, yK, sd, se, yI, yC, vc, yy, rZ, oY, yH, sy, List.map_cons, List.map_nil, List.length_cons, List.length_nil, List.replicate_succ, List.replicate_zero, List.cons_append, List.nil_append, List.append_nil, List.getElem?_cons_zero, List.getElem?_cons_succ, List.set_cons_zero, List.set_cons_succ, Nat.reduceAdd, Nat.reduceSub, Nat.zero_add, Nat.add_zero, Nat.sub_self, Nat.sub_zero, CF, CG, Option.some.injEq, exists_eq_left', tj, vI, ol, tm, CH, decide_eq_true_eq, Bool.not_eq_true', decide_eq_false_iff_not, true_and, Nat.zero_le, y8, mh, o6, ss, uR, Ae, Int.reduceLE, Int.reduceLT, Nat.reducePow, Nat.reduceLT, Nat.reduceLeDiff, Int.reduceToNat, Int.reducePow, Int.reduceNeg, and_true, or_true, true_or, and_self, vK, vL, pL, Int.toNat_natCast, if_true, if_false, Bool.false_eq_true, Bool.true_eq_false, Bool.not_true, Bool.not_false, eq_self, not_true_eq_false, not_false_eq_true])
set_option bootstrap.genMatcherCode false
namespace Lw
open PySem PySem.Spec PyProof.Rows L2 Nm
noncomputable def aU (i:Nat):Stmt:=PySem.Challenge.pw_hydrahouse_k66_no_fall.main.body.getD i (.Pass ⟨0,0,0,0⟩)
noncomputable def aX (i j:Nat):Stmt:=(CA (aU i)).getD j (.Pass ⟨0,0,0,0⟩)
structure Txt (K:PySem.W.Frag) (mg:Str->Option Value):Prop where
 d_is_whole:vk K mg "is_whole" (aU 16) ["thing","least"] [.int 0]
 d_whole:Df K mg "whole" (aU 17) ["n"]
 d_endless:Df K mg "endless" (aU 18) []
 d_raised:vk K mg "raised" (aU 19) ["exponent","times"] [.int 1]
 d_compare:Df K mg "compare" (aU 20) ["a","b"]
 d_whole_part:Df K mg "whole_part" (aU 21) ["a"]
 d_without_whole:Df K mg "without_whole" (aU 22) ["a"]
 d_plus:Df K mg "plus" (aU 24) ["a","b"]
 d_parts_above:Df K mg "parts_above" (aU 25) ["a","exponent"]
 d_total:Df K mg "total" (aU 26) ["some"]
 d_times:Df K mg "times" (aU 28) ["a","b"]
 d_weight_of:Df K mg "weight_of" (aU 30) ["things"]
 d_held:Df K mg "held" (aU 31) ["boxes","box"]
 d_by_exponent:Df K mg "by_exponent" (aU 40) ["marks"]
 d_trace:vk K mg "trace" (aU 42) ["rows","boxes","most"] [.int 50]
 d_put_ahead:Df K mg "put_ahead" (aU 43) ["left","things"]
 d_weight_left:Df K mg "weight_left" (aU 44) ["left"]
 d_told:Df K mg "told" (aU 45) ["left","boxes"]
 d__law_cell_at:Df K mg "_law_cell_at" (aU 47) ["_law_script","_law_k"]
 d__law_refused:Df K mg "_law_refused" (aU 48) ["_law_made","_law_boxes","_law_most","_law_way"]
 d__law_exponent:Df K mg "_law_exponent" (aU 49) ["_law_cell"]
 k_Set:∃C:Addr,mg "Set"=some (.ref C)/\dr K C/\aC K C "box"/\aC K C "amount"/\vz K C "Set.__init__" (aX 33 0) ["self","box","amount"]/\Md K C "step" "Set.step" (aX 33 1) ["self","boxes"]/\Md K C "weigh" "Row.weigh" (aX 32 0) ["self"]/\∃D:Addr,mg "Row"=some (.ref D)/\XD K D/\mroIn K C (.ref D)=some true
 k_Add:∃C:Addr,mg "Add"=some (.ref C)/\dr K C/\aC K C "box"/\aC K C "other"/\vz K C "Add.__init__" (aX 34 0) ["self","box","other"]/\Md K C "step" "Add.step" (aX 34 1) ["self","boxes"]/\Md K C "weigh" "Row.weigh" (aX 32 0) ["self"]/\∃D:Addr,mg "Row"=some (.ref D)/\XD K D/\mroIn K C (.ref D)=some true
 k_Less:∃C:Addr,mg "Less"=some (.ref C)/\dr K C/\aC K C "box"/\vz K C "Less.__init__" (aX 35 0) ["self","box"]/\Md K C "step" "Less.step" (aX 35 1) ["self","boxes"]/\Md K C "weigh" "Row.weigh" (aX 32 0) ["self"]/\∃D:Addr,mg "Row"=some (.ref D)/\XD K D/\mroIn K C (.ref D)=some true
 k_Times:∃C:Addr,mg "Times"=some (.ref C)/\dr K C/\aC K C "box"/\aC K C "rows"/\aC K C "of_round"/\vz K C "Times.__init__" (aX 36 0) ["self","box","rows"]/\Md K C "weigh" "Times.weigh" (aX 36 1) ["self"]/\Md K C "step" "Times.step" (aX 36 2) ["self","boxes"]/\∃D:Addr,mg "Row"=some (.ref D)/\XD K D/\mroIn K C (.ref D)=some true
 k_Count:∃C:Addr,mg "Count"=some (.ref C)/\dr K C/\aC K C "loop"/\aC K C "rounds"/\vz K C "Count.__init__" (aX 37 0) ["self","loop","rounds"]/\Md K C "weigh" "Count.weigh" (aX 37 1) ["self"]/\Md K C "step" "Count.step" (aX 37 2) ["self","boxes"]/\∃D:Addr,mg "Row"=some (.ref D)/\XD K D/\mroIn K C (.ref D)=some true
 k_While:∃C:Addr,mg "While"=some (.ref C)/\dr K C/\aC K C "box"/\aC K C "heights"/\aC K C "rows"/\aC K C "of_round"/\vz K C "While.__init__" (aX 38 0) ["self","box","marks","rows"]/\Md K C "weigh" "While.weigh" (aX 38 1) ["self"]/\Md K C "step" "While.step" (aX 38 2) ["self","boxes"]/\Md K C "measure" "While.measure" (aX 38 3) ["self","boxes"]/\∃D:Addr,mg "Row"=some (.ref D)/\XD K D/\mroIn K C (.ref D)=some true
 k_Bearing:∃C:Addr,mg "Bearing"=some (.ref C)/\dr K C/\aC K C "loop"/\aC K C "borne"/\vz K C "Bearing.__init__" (aX 39 0) ["self","loop","borne"]/\Md K C "weigh" "Bearing.weigh" (aX 39 1) ["self"]/\Md K C "step" "Bearing.step" (aX 39 2) ["self","boxes"]/\∃D:Addr,mg "Row"=some (.ref D)/\XD K D/\mroIn K C (.ref D)=some true
 x_:∃c0 c1 c2 c3 c4 c5 c6 c7 c8 c9 c10 c11 c12 c13:Addr,(mg "HydraError"=some (.ref c0)/\excIn K c0 [.type "ValueError",.type "Exception",.type "BaseException",.type "object"] "ValueError.__new__"=true)/\(mg "NoFall"=some (.ref c1)/\excIn K c1 [.type "ValueError",.type "Exception",.type "BaseException",.type "object"] "ValueError.__new__"=true)/\(mg "NoNumber"=some (.ref c2)/\excIn K c2 [.type "ValueError",.type "Exception",.type "BaseException",.type "object"] "ValueError.__new__"=true)/\(mg "Nought"=some (.ref c3)/\excIn K c3 [.type "ValueError",.type "Exception",.type "BaseException",.type "object"] "ValueError.__new__"=true)/\(mg "TooHigh"=some (.ref c4)/\excIn K c4 [.type "ValueError",.type "Exception",.type "BaseException",.type "object"] "ValueError.__new__"=true)/\(mg "NoLimit"=some (.ref c5)/\excIn K c5 [.type "ValueError",.type "Exception",.type "BaseException",.type "object"] "ValueError.__new__"=true)/\(mg "NoHead"=some (.ref c6)/\excIn K c6 [.type "ValueError",.type "Exception",.type "BaseException",.type "object"] "ValueError.__new__"=true)/\(mg "NoStep"=some (.ref c7)/\excIn K c7 [.type "ValueError",.type "Exception",.type "BaseException",.type "object"] "ValueError.__new__"=true)/\(mg "NoFit"=some (.ref c8)/\excIn K c8 [.type "ValueError",.type "Exception",.type "BaseException",.type "object"] "ValueError.__new__"=true)/\(mg "TooGreat"=some (.ref c9)/\excIn K c9 [.type "ValueError",.type "Exception",.type "BaseException",.type "object"] "ValueError.__new__"=true)/\(mg "NoChore"=some (.ref c10)/\excIn K c10 [.type "ValueError",.type "Exception",.type "BaseException",.type "object"] "ValueError.__new__"=true)/\(mg "NoText"=some (.ref c11)/\excIn K c11 [.type "ValueError",.type "Exception",.type "BaseException",.type "object"] "ValueError.__new__"=true)/\(mg "NoName"=some (.ref c12)/\excIn K c12 [.type "ValueError",.type "Exception",.type "BaseException",.type "object"] "ValueError.__new__"=true)/\(mg "NoRow"=some (.ref c13)/\excIn K c13 [.type "ValueError",.type "Exception",.type "BaseException",.type "object"] "ValueError.__new__"=true)/\mroIn K c1 (.ref c0)=some true/\mroIn K c1 (.ref c2)=some false/\mroIn K c1 (.ref c3)=some false/\mroIn K c1 (.ref c4)=some false/\mroIn K c1 (.ref c5)=some false/\mroIn K c1 (.ref c6)=some false/\mroIn K c1 (.ref c7)=some false/\mroIn K c1 (.ref c8)=some false/\mroIn K c1 (.ref c9)=some false/\mroIn K c1 (.ref c10)=some false/\mroIn K c1 (.ref c11)=some false/\mroIn K c1 (.ref c12)=some false/\mroIn K c1 (.ref c13)=some false/\(XQ K c0/\XD K c0)/\(XQ K c1/\XD K c1)/\(XQ K c2/\XD K c2)/\(XQ K c3/\XD K c3)/\(XQ K c4/\XD K c4)/\(XQ K c5/\XD K c5)/\(XQ K c6/\XD K c6)/\(XQ K c7/\XD K c7)/\(XQ K c8/\XD K c8)/\(XQ K c9/\XD K c9)/\(XQ K c10/\XD K c10)/\(XQ K c11/\XD K c11)/\(XQ K c12/\XD K c12)/\(XQ K c13/\XD K c13)
 z_ValueError:mg "ValueError"=none
 z_bool:mg "bool"=none
 z_dict:mg "dict"=none
 z_int:mg "int"=none
 z_isinstance:mg "isinstance"=none
 z_len:mg "len"=none
 z_list:mg "list"=none
 z_max:mg "max"=none
 z_reversed:mg "reversed"=none
 z_sorted:mg "sorted"=none
 z_sum:mg "sum"=none
 z_tuple:mg "tuple"=none
section
variable {P:Program} {w:World} {K:PySem.W.Frag} {mg:Str->Option Value} {base:Heap} {f:Addr} {fd:FuncData}
set_option maxRecDepth 100000
set_option maxHeartbeats 0
noncomputable def zE:bZ:=λws G q _=>∃a b:O,ws=[.tup (au a),.tup (au b)]/\a.dp<=60/\q (.int (O.cmp a b)) G
noncomputable def Bf:bZ:=λws G q _=>∃a x:O,ws=[.tup (au a),.tup (au x)]/\a.NF/\a.dp<=60/\a.len<=1000/\q (.int (O.stay x a)) G
noncomputable def kZ:bZ:=λws G q _=>∃a b:O,ws=[.tup (au a),.tup (au b)]/\a.NF/\a.dp<=60/\b.dp<=60/\a.len<=1000/\b.len<=1000/\q (.tup (au (O.plusO a b))) G
theorem scCm:aE ["a","b"] ["a","b"] (ag (aU 20)):=⟨rfl,rfl,rfl,by decide+kernel,rfl,by decide+kernel,by decide+kernel⟩
theorem CT (F:cM K "compare" "compare" (aU 20) f fd):cB P w K mg base 1 f fd ["a","b"] zE:=by
 have nd:=scCm.nd;refine eQ F scCm (λws G q e h=>by obtain ⟨_,_,rfl,_⟩:=h;rfl) (λcdv A outer s H E hr=>?_);apply aO
 ·exact (af (cc (bo (cE hr) (aa 0 rfl (.inl rfl)) (aa 1 rfl (.inl rfl)) (aY _)) (af (aK ao) ap) ap) (af (aK (iR (bo (lM hr) (aa 0 rfl (.inl rfl)) (aa 1 rfl (.inl rfl)) (aY _)) (iV ao) ao)) ap))
 ·rintro ws G q e ⟨a,b,rfl,hx,hq⟩;walk_at "R";have h1:=gh a b;have hd:=eM a;rw [oj,h1.2];refine ⟨cL a,cL b,by omega,?_⟩;rcases O.cmp_range a b with k | k | k
  ·rw [if_neg (by simp;intro z;rw [z,O.cmp_self] at k;omega),if_pos (by simp;omega)];exact ⟨bR a,bR b,j7 a (by omega),h1.1,aL.done (by rw [k] at hq;exact hq)⟩
  ·rw [if_pos (by simpa using O.cmp_eq _ _ k)];exact aL.done (by rw [k] at hq;exact hq)
  ·rw [if_neg (by simp;intro z;rw [z,O.cmp_self] at k;omega),if_neg (by simp;omega)];exact ⟨bR a,bR b,j7 a (by omega),h1.1,aL.done (by rw [k] at hq;exact hq)⟩
theorem scPa:aE ["a","exponent","low","high","middle"] ["a","exponent"] (ag (aU 25)):=⟨rfl,rfl,rfl,by decide+kernel,rfl,by decide+kernel,by decide+kernel⟩
theorem CU (F:cM K "parts_above" "parts_above" (aU 25) f fd) (F1:Fx P w K mg base "compare" ["a","b"] 1 zE) (ml:mg "len"=none):cB P w K mg base 2 f fd ["a","exponent"] Bf:=by
 have nd:=scPa.nd;refine eQ F scPa (λws G q e h=>by obtain ⟨_,_,rfl,_⟩:=h;rfl) (λcdv A outer s H E hr=>?_);apply aO
 ·exact (af (aV 2 nd rfl (.inl rfl) ao) (af (aV 3 nd rfl (.inl rfl) (cJ fN rfl ml PySem.boot_len (ae (aa 0 rfl (.inl rfl)) am))) (af (lJ PySem.PassesOwn.never (bo (lM hr) (aa 2 rfl (.inl rfl)) (aa 3 rfl (.inl rfl)) (aY _)) (af (aV 4 nd rfl (.inl rfl) (aR kJ (aR bC (aa 2 rfl (.inl rfl)) (aa 3 rfl (.inl rfl))) ao)) (af (cc (bo yA (aD F1 (ay.mono hr (by omega)) rfl (ae (bM bS (bM bS (aa 0 rfl (.inl rfl)) (aa 4 rfl (.inl rfl)) (λ_ _=>rfl)) ao (λ_ _=>rfl)) (ae (aa 1 rfl (.inl rfl)) am))) ao (aY _)) (af (aV 2 nd rfl (.inl rfl) (aR bC (aa 4 rfl (.inl rfl)) ao)) ap) (af (aV 3 nd rfl (.inl rfl) (aa 4 rfl (.inl rfl))) ap)) ap))) (af (aK (aa 2 rfl (.inl rfl))) ap))))
 ·rintro ws G q e ⟨a,x,rfl,hn,hx,hl,hq⟩;refine bt λU hU=>?_;walk_at "R";subst hU;refine bt λU hU=>?_;walk_at "R";rw [aS];subst hU;refine bt λU hU=>?_;refine ⟨λm τ G'=>G'=G/\∃(lo hi:Nat) (t4:Option W),τ=[some (.tup (au a)),some (.tup (au x)),some (.int (lo:Int)),some (.int (hi:Int)),t4]/\lo<=O.stay x a/\O.stay x a<=hi/\hi<=a.len/\m=hi-lo,⟨a.len,rfl,0,a.len,none,rfl,Nat.zero_le _,O.stay_le,Nat.le_refl _,rfl⟩,?_⟩;rintro m τ G' ⟨rfl,lo,hi,t4,rfl,h1,h2,h3,rfl⟩;walk_at "R";split
  ·rename_i hlt;refine ⟨λτ1 G1=>G1=G'/\∃(lo' hi':Nat) (t4:Option W),τ1=[some (.tup (au a)),some (.tup (au x)),some (.int (lo':Int)),some (.int (hi':Int)),t4]/\lo'<=O.stay x a/\O.stay x a<=hi'/\hi'<=a.len/\hi'-lo'<hi-lo,?_,?_⟩
   ·rintro τ1 G1 ⟨rfl,lo',hi',t4,rfl,k1,k2,k3,k4⟩;exact ⟨_,k4,rfl,lo',hi',t4,rfl,k1,k2,k3,rfl⟩
   ·have em:((lo:Int)+hi)/2=(((lo+hi)/2:Nat):Int):=by omega
    obtain ⟨y,n,hp⟩:=O.getP_some (a:=a) (i:=(lo+hi)/2) (by omega);rw [em];refine ⟨_,kT hp,?_⟩;have hs:=O.getP_size hp;have hab:=O.above_iff (e:=x) hn hp;unfold gn lu;walk_at "R";refine ⟨y,x,rfl,by omega,?_⟩;walk_at "R";split
    ·rename_i hc;have:=hab.mp hc;exact ⟨(lo+hi)/2+1,hi,_,rfl,by assumption,h2,h3,by omega⟩
    ·rename_i hc;have:=λz=>hc (hab.mpr z);exact ⟨lo,(lo+hi)/2,_,rfl,h1,by omega,by omega,by omega⟩
  ·subst hU;walk_at "R";have:(lo:Int)=O.stay x a:=by omega
   rw [this];exact aL.done hq
theorem scPs:aE ["a","b","exponent","stay","both"] ["a","b"] (ag (aU 24)):=⟨rfl,rfl,rfl,by decide+kernel,rfl,by decide+kernel,by decide+kernel⟩
theorem CV (F:cM K "plus" "plus" (aU 24) f fd) (F1:Fx P w K mg base "parts_above" ["a","exponent"] 2 Bf) (ml:mg "len"=none):cB P w K mg base 3 f fd ["a","b"] kZ:=by
 have nd:=scPs.nd;refine eQ F scPs (λws G q e h=>by obtain ⟨_,_,rfl,_⟩:=h;rfl) (λcdv A outer s H E hr=>?_);apply aO
 ·exact (af (cc (bo (cE hr) (aa 1 rfl (.inl rfl)) (bv am) (aY _)) (af (aK (aa 0 rfl (.inl rfl))) ap) ap) (af (aV 2 nd rfl (.inl rfl) (bM bS (bM bS (aa 1 rfl (.inl rfl)) ao (λ_ _=>rfl)) ao (λ_ _=>rfl))) (af (aV 3 nd rfl (.inl rfl) (aD F1 (ay.mono hr (by omega)) rfl (ae (aa 0 rfl (.inl rfl)) (ae (aa 2 rfl (.inl rfl)) am)))) (af (cc (qB (kC (bo (lM hr) (aa 3 rfl (.inl rfl)) (cJ fN rfl ml PySem.boot_len (ae (aa 0 rfl (.inl rfl)) am)) (aY _)) (iy (bo (cE hr) (bM bS (bM bS (aa 0 rfl (.inl rfl)) (aa 3 rfl (.inl rfl)) (λ_ _=>rfl)) ao (λ_ _=>rfl)) (aa 2 rfl (.inl rfl)) (aY _))))) (af (aV 4 nd rfl (.inl rfl) (bv (ae (aa 2 rfl (.inl rfl)) (ae (aR bC (bM bS (bM bS (aa 0 rfl (.inl rfl)) (aa 3 rfl (.inl rfl)) (λ_ _=>rfl)) ao (λ_ _=>rfl)) (bM bS (bM bS (aa 1 rfl (.inl rfl)) ao (λ_ _=>rfl)) ao (λ_ _=>rfl))) am)))) (af (aK (aR bC (aR bC (cP (aa 0 rfl (.inl rfl)) fT (dc (aa 3 rfl (.inl rfl)))) (bv (ae (aa 4 rfl (.inl rfl)) am))) (cP (aa 1 rfl (.inl rfl)) (dc ao) fT))) ap)) ap) (af (aK (aR bC (cP (aa 0 rfl (.inl rfl)) fT (dc (aa 3 rfl (.inl rfl)))) (aa 1 rfl (.inl rfl)))) ap)))))
 ·rintro ws G q e ⟨a,b,rfl,hn,hx,hy,hl,hl2,hq⟩;have hd:=eM b;refine bt λU hU=>?_;walk_at "R";refine ⟨cL b,by omega,?_⟩;rw [dz];cases b with
  | z=>
    rw [if_pos (by simp)];exact aL.done hq
  | c e n r=>
    rw [if_neg (by simp)];simp only [O.len] at hl2;have hde:e.dp<=60:=by simp only [O.dp] at hy;omega
    subst hU;refine bt λU hU=>?_;rw [bQ];unfold gn lu;walk_at "R";subst hU;refine bt λU hU=>?_;walk_at "R";refine ⟨a,e,rfl,hn,hx,hl,?_⟩;subst hU;have hst:=O.stay_le (e:=e) (a:=a);have hsame:=O.same_stay (e:=e) hn;have htake:=O.take_stay (e:=e) hn;have e1:dv (W.tup [W.tup (au e),W.int n]::au r) (some 1) none=au r:=by rw [show (1:Int)=((1:Nat):Int) from rfl,lZ];rfl
    have e2:dv (au a) none (some (O.stay e a:Int))=au (O.filt (λx _=>decide (0<O.cmp x e)) a):=by rw [y6,gQ,htake]
    have l1:=jc (λx _=>decide (0<O.cmp x e)) a;have hq':q (.tup (au (O.filt (λx _=>decide (0<O.cmp x e)) a)++(gn e (O.same e a+n)::au r))) G:=by
     rw [O.plus_c,fb,bQ] at hq;exact hq
    refine bt λU hU=>?_;have other:O.same e a=0->U { nx:=λx G1=>∃G0,aL G0 G1/\q W.non G0,rt:=λw G1=>∃G0,aL G0 G1/\q w G0 } [some (W.tup (au a)),some (W.tup (W.tup [W.tup (au e),W.int n]::au r)),some (W.tup (au e)),some (W.int (O.stay e a)),none] G:=λhz=>by
     subst hU;walk_at "R";rw [e2];refine ⟨by rw [aS,aS];omega,aL.done ?_⟩;rw [hz,Int.zero_add] at hq';exact hq'
    walk_at "R";rw [aS];split
    ·rename_i hlt;obtain ⟨y,m,hp⟩:=O.getP_some (a:=a) (i:=O.stay e a) (by omega);have hs:=O.getP_size hp;have hdy:=eM y;refine ⟨_,kT hp,?_⟩;rw [hp] at hsame;have hsame':O.same e a=if y=e then m else 0:=hsame
     unfold gn lu;walk_at "R";refine ⟨cL y,cL e,by (clear F F1 ml nd hr hn hl hy hl2 hq hd hde hst htake e1 e2 l1 hq' hU other hlt hsame hp hsame';omega),?_⟩;rw [oj]
     by_cases hye:y=e
     ·rw [if_pos (by simpa using hye)];refine ⟨_,kT hp,?_⟩;unfold gn lu;walk_at "R";rw [e1,e2];rw [if_pos hye] at hsame';refine ⟨by rw [aS];(clear F F1 ml nd hr hn hx hy hl2 hq hd hde hst htake e1 e2 hq' hU other hlt hsame hp hs hdy hsame' hye;omega),by rw [List.length_append,aS,aS];simp;(clear F F1 ml nd hr hn hx hy hq hd hde hst htake e1 e2 hq' hU other hlt hsame hp hs hdy hsame' hye;omega),aL.done ?_⟩;rw [hsame'] at hq';rw [List.append_assoc];exact hq'
     ·rw [if_neg (by simpa using hye)];rw [if_neg hye] at hsame';exact other hsame'
    ·rename_i hlt;rw [O.getP_none.mpr (by omega)] at hsame;exact other hsame
theorem jn:∀{a:O} {x:O} {n:Int},a.NF->O.last a=.c x n .z->O.same .z a=if x=.z then n else 0
 | .z,_,_,_,h=>by cases h
 | .c e m .z,x,n,ha,h=>by
   have:O.last (.c e m .z)=.c e m .z:=rfl;rw [this] at h;injection h with h1 h2 _
   subst h1 h2
   by_cases k:e=.z
   ·subst k;rw [if_pos rfl,O.same_self ha.2.2.1]
   ·rw [if_neg k,O.same_ne k];rfl
 | .c e m (.c e' m' r'),x,n,ha,h=>by
   have e0:O.last (.c e m (.c e' m' r'))=O.last (.c e' m' r'):=by simp [O.last]
   rw [e0] at h;have hne:e≠ .z:=λz=>by
    subst z;have:=ha.2.2.1.1;cases e'<;> simp [O.cmp] at this
   rw [O.same_ne hne];exact jn ha.2.2.2 h
theorem mG:∀{a:O},a.NF->O.same .z a=0->O.filt (λy _=>decide (¬y=.z)) a=a
 | .z,_,_=>rfl
 | .c e m r,ha,h=>by
   have hne:e≠ .z:=λz=>by
    subst z;rw [O.same_self ha.2.2.1] at h;have:=ha.2.1;omega
   rw [O.same_ne hne] at h;rw [O.filt_c,if_pos (by simpa using hne),mG ha.2.2.2 h]
theorem jo:∀{a:O},a.NF->O.same .z a≠0->O.filt (λy _=>decide (¬y=.z)) a=O.init a
 | .z,_,h=>absurd rfl h
 | .c e m .z,ha,h=>by
   have:e=.z:=Classical.byContradiction λk=>h (by rw [O.same_ne k];rfl);subst this
   rfl
 | .c e m (.c e' m' r'),ha,h=>by
   have hne:e≠ .z:=λz=>by
    subst z;have:=ha.2.2.1.1;cases e'<;> simp [O.cmp] at this
   rw [O.same_ne hne] at h;have e0:O.init (.c e m (.c e' m' r'))=.c e m (O.init (.c e' m' r')):=by simp [O.init]
   rw [O.filt_c,if_pos (by simpa using hne),jo ha.2.2.2 h,e0]
noncomputable def zF:bZ:=λws G q _=>∃a:O,ws=[.tup (au a)]/\a.NF/\a.dp<=60/\q (.int (O.same .z a)) G
noncomputable def Bh:bZ:=λws G q _=>∃a:O,ws=[.tup (au a)]/\a.NF/\a.dp<=60/\q (.tup (au (O.filt (λy _=>decide (¬y=.z)) a))) G
theorem scWp:aE ["a"] ["a"] (ag (aU 21)):=⟨rfl,rfl,rfl,by decide+kernel,rfl,by decide+kernel,by decide+kernel⟩
theorem CW (F:cM K "whole_part" "whole_part" (aU 21) f fd):cB P w K mg base 1 f fd ["a"] zF:=by
 have nd:=scWp.nd;refine eQ F scWp (λws G q e h=>by obtain ⟨_,rfl,_⟩:=h;rfl) (λcdv A outer s H E hr=>?_);apply aO
 ·exact (af (cc (qB (wW (bo (cE hr) (aa 0 rfl (.inl rfl)) (bv am) (aY _)) (rR (bo (pW hr) (bM bS (bM bS (aa 0 rfl (.inl rfl)) (iV ao) (λ_ _=>rfl)) ao (λ_ _=>rfl)) (bv am) (aY _))))) (af (aK ao) ap) ap) (af (aK (bM bS (bM bS (aa 0 rfl (.inl rfl)) (iV ao) (λ_ _=>rfl)) ao (λ_ _=>rfl))) ap))
 ·rintro ws G q e ⟨a,rfl,ha,hd,hq⟩;have hd2:=eM a;walk_at "R";refine ⟨cL a,by omega,?_⟩;rw [dz]
  by_cases hz:a=.z
  ·subst hz;rw [if_pos (by simp)];exact aL.done hq
  ·rw [if_neg (by simpa using hz)];obtain ⟨x,n,h1,h2⟩:=tu hz;have hw:=jn ha h1;have hs:=O.getP_size h2;have hdx:=eM x;refine ⟨_,gf h2,?_⟩;unfold gn lu;walk_at "R";refine ⟨cL x,by omega,?_⟩;rw [dz]
   by_cases hx:x=.z
   ·rw [if_neg (by simpa using hx)];rw [if_pos hx] at hw;have h3:=gf h2;unfold gn lu at h3;refine ⟨_,h3,?_⟩;walk_at "R";rw [hw] at hq;exact aL.done hq
   ·rw [if_pos (by simpa using hx)];rw [if_neg hx] at hw;rw [hw] at hq;exact aL.done hq
theorem scWo:aE ["a"] ["a"] (ag (aU 22)):=⟨rfl,rfl,rfl,by decide+kernel,rfl,by decide+kernel,by decide+kernel⟩
theorem CY (F:cM K "without_whole" "without_whole" (aU 22) f fd) (F1:Fx P w K mg base "whole_part" ["a"] 1 zF):cB P w K mg base 2 f fd ["a"] Bh:=by
 have nd:=scWo.nd;refine eQ F scWo (λws G q e h=>by obtain ⟨_,rfl,_⟩:=h;rfl) (λcdv A outer s H E hr=>?_);apply aO
 ·exact (af (cc (bo (cE hr) (aD F1 (ay.mono hr (by omega)) rfl (ae (aa 0 rfl (.inl rfl)) am)) ao (aY _)) (af (aK (aa 0 rfl (.inl rfl))) ap) ap) (af (aK (cP (aa 0 rfl (.inl rfl)) fT (dc (iV ao)))) ap))
 ·rintro ws G q e ⟨a,rfl,ha,hd,hq⟩;walk_at "R";refine ⟨a,rfl,ha,hd,?_⟩;walk_at "R";split
  ·rename_i h;rw [mG ha h] at hq;exact aL.done hq
  ·rename_i h;rw [jo ha h] at hq;rw [tq];exact aL.done hq
noncomputable def jD (e:O):O->O
 | .z=> .z
 | .c f d t=> .c (O.plusO e f) d (jD e t)
theorem kg (e:O):∀b:O,mapP (λ_ _=>true) (λx m=>gn (O.plusO e x) m) b=au (jD e b)
 | .z=>rfl
 | .c f d t=>by rw [mapP,if_pos rfl,kg e t];rfl
theorem mI (e:O):∀b:O,(jD e b).len=b.len
 | .z=>rfl
 | .c f d t=>by simp only [jD,O.len,mI e t]
theorem kh {e:O} {n:Int} {r:O}:∀{b:O},b.NF->O.mulP e n r b=O.app (jD e (O.filt (λy _=>decide (¬y=.z)) b)) (if O.same .z b=0 then .z else .c e (n*O.same .z b) r)
 | .z,_=>rfl
 | .c f d t,hb=>by
   rw [O.mulP_c,O.filt_c]
   by_cases k:f=.z
   ·subst k;have hd:=hb.2.1;rw [if_pos rfl,if_neg (by simp),O.Lt_z hb.2.2.1,O.same_self (r:= .z) trivial,if_neg (by omega)]
    rfl
   ·rw [if_neg k,if_pos (by simpa using k),O.same_ne k,kh hb.2.2.2]
    rfl
noncomputable def uf:bZ:=λws G q _=>∃a b:O,ws=[.tup (au a),.tup (au b)]/\a.NF/\b.NF/\a.dp<=40/\b.dp<=40/\O.hw a<=1000/\O.hw b<=1000/\O.mx a<=xw/\O.mx b<=xw/\q (.tup (au (O.timesO a b))) G
theorem scTi:aE ["a","b","exponent","parts","many"] ["a","b"] (ag (aU 28)):=⟨rfl,rfl,rfl,by decide+kernel,rfl,by decide+kernel,by decide+kernel⟩
theorem CZ (F:cM K "times" "times" (aU 28) f fd) (F1:Fx P w K mg base "whole_part" ["a"] 1 zF) (F2:Fx P w K mg base "without_whole" ["a"] 2 Bh) (F3:Fx P w K mg base "plus" ["a","b"] 3 kZ) (mt:mg "tuple"=none):cB P w K mg base 4 f fd ["a","b"] uf:=by
 have nd:=scTi.nd;refine eQ F scTi (λws G q e h=>by obtain ⟨_,_,rfl,_⟩:=h;rfl) (λcdv A outer s H E hr=>?_);apply aO
 ·exact (af (cc (qB (wW (bo (cE hr) (aa 0 rfl (.inl rfl)) (bv am) (aY _)) (rR (bo (cE hr) (aa 1 rfl (.inl rfl)) (bv am) (aY _))))) (af (aK (bv am)) ap) ap) (af (aV 2 nd rfl (.inr rfl) (bM bS (bM bS (aa 0 rfl (.inl rfl)) ao (λ_ _=>rfl)) ao (λ_ _=>rfl))) (af (vj 3 (fJ (by first | rfl | decide+kernel)) rfl nd rfl (.inl rfl) (dP (aD F2 (ay.mono hr (by omega)) rfl (ae (aa 1 rfl (.inl rfl)) am))) (λ_ _ _ _=>(cV 1 (by first | assumption | decide+kernel | rfl) rfl (.inl rfl))) (λ_ _ _ _=>fi) (λ_ _ _ _=>(bv (ae (aD F3 (ay.mono hr (by omega)) rfl (ae (aa 3 rfl (.inr (.inl rfl))) (ae (bM bS (aa 1 rfl (.inl rfl)) ao (λ_ _=>rfl)) am))) (ae (bM bS (aa 1 rfl (.inl rfl)) ao (λ_ _=>rfl)) am))))) (af (aV 4 nd rfl (.inl rfl) (aD F1 (ay.mono hr (by omega)) rfl (ae (aa 1 rfl (.inl rfl)) am))) (af (cc (bo (cE hr) (aa 4 rfl (.inl rfl)) ao (aY _)) (af (aK (bN fg rfl mt fj (ae (aa 3 rfl (.inl rfl)) am))) ap) ap) (af (aK (aR bC (aR bC (bN fg rfl mt fj (ae (aa 3 rfl (.inl rfl)) am)) (bv (ae (bv (ae (aa 2 rfl (.inr (.inl rfl))) (ae (aR zd (bM bS (bM bS (aa 0 rfl (.inl rfl)) ao (λ_ _=>rfl)) ao (λ_ _=>rfl)) (aa 4 rfl (.inl rfl))) am))) am))) (cP (aa 0 rfl (.inl rfl)) (dc ao) fT))) ap))))))
 ·rintro ws G q e ⟨a,b,rfl,na,nb,da,db,sa,sb,ma,mb,hq⟩;have hda:=eM a;have hdb:=eM b;have la:=O.len_le_hw a;have lb:=O.len_le_hw b;refine bt λU hU=>?_;walk_at "R";refine ⟨cL a,by omega,?_⟩;rw [dz];cases a with
  | z=>
    rw [if_pos (by simp)];exact aL.done hq
  | c e n r=>
    rw [if_neg (by simp)];refine ⟨cL b,by omega,?_⟩;rw [dz]
    by_cases hb0:b=.z
    ·subst hb0;rw [if_pos (by simp)];exact aL.done hq
    ·rw [if_neg (by simpa using hb0)];subst hU;rw [O.hw_c] at sa;simp only [O.dp,O.len] at da la;have le1:=O.len_le_hw e;have lr1:=O.len_le_hw r;rw [bQ];unfold gn lu;refine bt λU hU=>?_;walk_at "R";subst hU;refine bt λU hU=>?_;walk_at "R";refine ⟨b,rfl,nb,by omega,?_⟩;walk_at "R";show bX _ _ _ _ _ [none,none,none,some (W.tup (au e))] G [] _;have lf:=jc (λy _=>decide (¬y=O.z)) b;have df:=O.dp_filt (λy _=>decide (¬y=O.z)) b;have sf:=O.hw_filt (λy _=>decide (¬y=O.z)) b;refine jd (λ_ _=>true) (λx m=>gn (O.plusO e x) m) trivial (pM _) (λy m hy k hk=>?_) (λy m hy _ k hk=>?_) (by rw [List.length_nil];omega) (λ_=>rfl) λp1 hp1=>?_
     ·walk_at "R";exact hk
     ·have ly:=O.len_le_hw y;unfold gn lu at hk ⊢;walk_at "R";exact ⟨e,y,rfl,na.1,by omega,by omega,by omega,by omega,hk⟩
     rw [List.nil_append,kg];have hG1:=ak (G:=G) (a:=p1) (g:=GO.lst (au (jD e (O.filt (λy _=>decide (¬y=O.z)) b))));have le:aL G (aG G p1 (GO.lst (au (jD e (O.filt (λy _=>decide (¬y=O.z)) b))))):=aL.new hp1;generalize aG G p1 (GO.lst (au (jD e (O.filt (λy _=>decide (¬y=O.z)) b))))=G1 at hG1 le ⊢;subst hU;refine bt λU hU=>?_;walk_at "R";refine ⟨b,rfl,nb,by omega,?_⟩;have hsp:O.timesO (.c e n r) b=_:=kh (e:=e) (n:=n) (r:=r) nb;rw [hsp] at hq;have hn:=na.2.1;have hsm:=O.same_le_mx .z nb;have hs0:=O.same_nonneg .z nb;rw [O.mx_c] at ma;have lm:=mI e (O.filt (λy _=>decide (¬y=O.z)) b);subst hU;refine bt λU hU=>?_;walk_at "R";split
     ·rename_i h0;refine ⟨_,hG1,G,le,?_⟩;rw [if_pos h0] at hq;have:O.app (jD e (O.filt (λy _=>decide (¬y=O.z)) b)) .z=jD e (O.filt (λy _=>decide (¬y=O.z)) b):=lY (by rw [fb,yZ,List.append_nil]);rw [this] at hq;exact hq
     ·rename_i h0;rw [if_neg h0,fb,bQ] at hq;subst hU;have e1:dv (W.tup [W.tup (au e),W.int n]::au r) (some 1) none=au r:=by rw [show (1:Int)=((1:Nat):Int) from rfl,lZ];rfl
      walk_at "R";rw [e1];refine ⟨_,hG1,.inl (.inr (CI (by (clear F F1 F2 F3 mt nd hr nb db sb mb hdb lb na da sa ma hq hda la hb0 le1 lr1 lf df sf hp1 hG1 le hsp hsm hs0 lm h0 e1;omega)) (by (clear F F1 F2 F3 mt nd hr nb db sb mb hdb lb na da sa hq hda la hb0 le1 lr1 lf df sf hp1 hG1 le hsp hn hsm lm e1;omega)) (by assumption) (by (clear F F1 F2 F3 mt nd hr nb db sb hdb lb na da sa ma hq hda la hb0 le1 lr1 lf df sf hp1 hG1 le hsp hn hs0 lm h0 e1;omega)))),by rw [aS,lm];(clear F F1 F2 F3 mt nd hr nb db mb hdb na da sa ma hq hda la hb0 le1 lr1 df sf hp1 hG1 le hsp hn hsm hs0 h0 e1;omega),by rw [List.length_append,aS,aS,List.length_cons,List.length_nil,lm];(clear F F1 F2 F3 mt nd hr nb db mb hdb na da ma hq hda la hb0 le1 lr1 df sf hp1 hG1 le hsp hn hsm e1;omega),G,le,?_⟩;rw [List.append_assoc];exact hq
noncomputable def Bi:bZ:=λws G q _=>∃n k:Int,ws=[.int n,.int k]/\q (.bl (decide (k<=n))) G
theorem scWh:aE ["thing","least"] ["thing","least"] (ag (aU 16)):=⟨rfl,rfl,rfl,by decide+kernel,rfl,by decide+kernel,by decide+kernel⟩
theorem C0 {T:Addr} {ds:List Value} (F:fL K "is_whole" "is_whole" (aU 16) f fd T ds) (mi:mg "isinstance"=none) (mn:mg "int"=none) (mb:mg "bool"=none):cB P w K mg base 1 f fd ["thing","least"] Bi:=by
 have nd:=scWh.nd;refine AN F scWh (λws G q e h=>by obtain ⟨_,_,rfl,_⟩:=h;rfl) (λcdv A outer s H E hr=>?_);apply aO
 ·exact (af (aK (gG (nH (T:="int") (x:="int") (by first | simp [qD] | assumption | decide+kernel) PyProof.Rows.boot_int mn rfl mi rfl (aa 0 rfl (.inl rfl))) (gG (rT (nH (T:="bool") (x:="bool") (by first | simp [qD] | assumption | decide+kernel) PyProof.Rows.boot_bool mb rfl mi rfl (aa 0 rfl (.inl rfl)))) (kD (nB yB (aa 0 rfl (.inl rfl)) (aa 1 rfl (.inl rfl)) (aY _)))))) ap)
 ·rintro ws G q e ⟨n,k,rfl,hq⟩;walk_at "R";exact aL.done hq
noncomputable def qU:bZ:=λws G q _=>∃(x:O) (n:Int),ws=[.tup (au x),.int n]/\0<=n/\q (.tup (au (if n=0 then .z else .c x n .z))) G
theorem scRs:aE ["exponent","times"] ["exponent","times"] (ag (aU 19)):=⟨rfl,rfl,rfl,by decide+kernel,rfl,by decide+kernel,by decide+kernel⟩
theorem Bj {T:Addr} {ds:List Value} (F:fL K "raised" "raised" (aU 19) f fd T ds) (F1:AO P w K mg base "is_whole" ["thing","least"] 1 Bi [.int 0]):cB P w K mg base 2 f fd ["exponent","times"] qU:=by
 have nd:=scRs.nd;refine AN F scRs (λws G q e h=>by obtain ⟨_,_,rfl,_⟩:=h;rfl) (λcdv A outer s H E hr=>?_);apply aO
 ·exact (af (cc (rS (nC (nN F1 (ay.mono hr (by omega)) rfl (ae (aa 1 rfl (.inl rfl)) am)))) (af sx ap) ap) (af (cc (bo (cE hr) (aa 1 rfl (.inl rfl)) ao (aY _)) (af (aK (bv am)) ap) ap) (af (aK (bv (ae (bv (ae (aa 0 rfl (.inl rfl)) (ae (aa 1 rfl (.inl rfl)) am))) am))) ap)))
 ·rintro ws G q e ⟨x,n,rfl,hn,hq⟩;walk_at "R";refine ⟨n,0,rfl,?_⟩;walk_at "R";rw [if_neg (by omega)];split
  ·rename_i h;rw [if_pos h] at hq;exact aL.done hq
  ·rename_i h;rw [if_neg h,bQ] at hq;exact aL.done hq
noncomputable def lc:bZ:=λws G q _=>∃n:Int,ws=[.int n]/\0<=n/\q (.tup (au (O.wh n))) G
theorem scWl:aE ["n"] ["n"] (ag (aU 17)):=⟨rfl,rfl,rfl,by decide+kernel,rfl,by decide+kernel,by decide+kernel⟩
theorem C9 (F:cM K "whole" "whole" (aU 17) f fd) (F1:Fx P w K mg base "raised" ["exponent","times"] 2 qU):cB P w K mg base 3 f fd ["n"] lc:=by
 have nd:=scWl.nd;refine eQ F scWl (λws G q e h=>by obtain ⟨_,rfl,_⟩:=h;rfl) (λcdv A outer s H E hr=>?_);apply aO
 ·exact (af (aK (aD F1 (ay.mono hr (by omega)) rfl (ae (bv am) (ae (aa 0 rfl (.inl rfl)) am)))) ap)
 ·rintro ws G q e ⟨n,rfl,hn,hq⟩;walk_at "R";exact ⟨.z,n,rfl,hn,aL.done hq⟩
noncomputable abbrev Row:=Rq Str
structure Cs where
 s:Addr
 c:Addr
 a:Addr
 l:Addr
 t:Addr
 w:Addr
 n:Addr
 b:Addr
noncomputable def Cs.at_ (C:Cs):Nat->Addr
 | 0=>C.s
 | 1=>C.c
 | 2=>C.a
 | 3=>C.l
 | 4=>C.t
 | 5=>C.w
 | 6=>C.n
 | _=>C.b
noncomputable def kd:Row->Nat
 | .set _ _=>0
 | .copy _ _=>1
 | .add _ _=>2
 | .less _=>3
 | .times _ _=>4
 | .whl _ _ _=>5
 | .count _ _=>6
 | .bear _ _ _ _=>7
noncomputable abbrev fc (hs:List (O×List Str)):List W:=hs.map λp=> .tup [.tup (au p.1),.tup (p.2.map W.str)]
noncomputable abbrev Da (b:Str) (as:List Addr) (rs:aN Str):List (Str×W):=[("box",.str b),("rows",.tup (as.map W.ref)),("of_round",.tup (au rs.rnd))]
noncomputable abbrev Bk (b:Str) (hs:List (O×List Str)) (as:List Addr) (rs:aN Str):List (Str×W):=[("box",.str b),("heights",.tup (fc hs)),("rows",.tup (as.map W.ref)),("of_round",.tup (au rs.rnw))]
mutual
inductive gq (C:Cs) (G:Gp):Addr->Row->Prop where
 | set {a:Addr} {b:Str} {n:Int} (h:G a=some (.ins C.s [("box",.str b),("amount",.int n)])):gq C G a (.set b n)
 | copy {a:Addr} {b o:Str} (h:G a=some (.ins C.c [("box",.str b),("other",.str o)])):gq C G a (.copy b o)
 | add {a:Addr} {b o:Str} (h:G a=some (.ins C.a [("box",.str b),("other",.str o)])):gq C G a (.add b o)
 | less {a:Addr} {b:Str} (h:G a=some (.ins C.l [("box",.str b)])):gq C G a (.less b)
 | times {a:Addr} {b:Str} {as:List Addr} {rs:aN Str} (h:G a=some (.ins C.t (Da b as rs))) (hs:eg C G as rs):gq C G a (.times b rs)
 | count {a l:Addr} {b:Str} {as:List Addr} {rs:aN Str} {n:Int} (h:G a=some (.ins C.n [("loop",.ref l),("rounds",.int n)])) (hl:G l=some (.ins C.t (Da b as rs))) (hs:eg C G as rs):gq C G a (.count rs n)
 | whl {a:Addr} {b:Str} {ms:List (O×List Str)} {as:List Addr} {rs:aN Str} (h:G a=some (.ins C.w (Bk b ms as rs))) (hs:eg C G as rs):gq C G a (.whl b ms rs)
 | bear {a l:Addr} {b:Str} {ms:List (O×List Str)} {as:List Addr} {rs:aN Str} {o:O} (h:G a=some (.ins C.b [("loop",.ref l),("borne",.tup (au o))])) (hl:G l=some (.ins C.w (Bk b ms as rs))) (hs:eg C G as rs):gq C G a (.bear b ms rs o)
inductive eg (C:Cs) (G:Gp):List Addr->aN Str->Prop where
 | nil:eg C G [] .nil
 | cons {a:Addr} {as:List Addr} {r:Row} {rs:aN Str} (h:gq C G a r) (hs:eg C G as rs):eg C G (a::as) (.cons r rs)
end
noncomputable def bW (G G':Gp):Prop:=∀a C x fs,G a=some (.ins C (x::fs))->G' a=some (.ins C (x::fs))
theorem aL.ins {G G':Gp} (h:aL G G'):bW G G':=λ_ _ _ _ e=>h _ _ e
theorem bW.but {G G':Gp} {p:Addr} (h:∀x g,x≠p->G x=some g->G' x=some g) (hp:∀C y fs,G p≠some (.ins C (y::fs))):bW G G':=λa C y fs e=>h a _ (λz=>hp C y fs (z▸e)) e
mutual
theorem gq.mono {C:Cs} {G G':Gp} (l:bW G G'):∀{a:Addr} {r:Row},gq C G a r->gq C G' a r
 | _,_,.set h=> .set (l _ _ _ _ h)
 | _,_,.copy h=> .copy (l _ _ _ _ h)
 | _,_,.add h=> .add (l _ _ _ _ h)
 | _,_,.less h=> .less (l _ _ _ _ h)
 | _,_,.times h hs=> .times (l _ _ _ _ h) (eg.mono l hs)
 | _,_,.count h hl hs=> .count (l _ _ _ _ h) (l _ _ _ _ hl) (eg.mono l hs)
 | _,_,.whl h hs=> .whl (l _ _ _ _ h) (eg.mono l hs)
 | _,_,.bear h hl hs=> .bear (l _ _ _ _ h) (l _ _ _ _ hl) (eg.mono l hs)
theorem eg.mono {C:Cs} {G G':Gp} (l:bW G G'):∀{as:List Addr} {rs:aN Str},eg C G as rs->eg C G' as rs
 | _,_,.nil=> .nil
 | _,_,.cons h hs=> .cons (gq.mono l h) (eg.mono l hs)
end
theorem gq.isIns {C:Cs} {G:Gp} {a:Addr} {r:Row} (h:gq C G a r):∃fs,G a=some (.ins (C.at_ (kd r)) fs)/\fs.lookup ("weigh":Str)=none/\fs.lookup ("step":Str)=none:=by
 cases h with
 | set h=>exact ⟨_,h,rfl,rfl⟩
 | copy h=>exact ⟨_,h,rfl,rfl⟩
 | add h=>exact ⟨_,h,rfl,rfl⟩
 | less h=>exact ⟨_,h,rfl,rfl⟩
 | times h hs=>exact ⟨_,h,rfl,rfl⟩
 | count h hl hs=>exact ⟨_,h,rfl,rfl⟩
 | whl h hs=>exact ⟨_,h,rfl,rfl⟩
 | bear h hl hs=>exact ⟨_,h,rfl,rfl⟩
structure Sz (r:Row):Prop where
 nn:r.nn
 hb:r.hb<=500
 mb:(r.mb:Int)<=10^300
structure kj (rs:aN Str):Prop where
 nn:rs.nn
 hb:rs.hb<=500
 mb:(rs.mb:Int)<=10^300
theorem kj.cons {r:Row} {rs:aN Str} (h:kj (.cons r rs)):Sz r/\kj rs:=by
 have h1:=h.nn;have h2:=h.hb;have h3:=h.mb;have e2:(aN.cons r rs).hb=rs.hb+r.hb:=rfl;have e3:(aN.cons r rs).mb=rs.mb+r.mb:=rfl;rw [e2] at h2;rw [e3] at h3;exact ⟨⟨h1.1,by omega,by omega⟩,⟨h1.2,by omega,by omega⟩⟩
mutual
theorem xD:∀r:Row,r.lb<=r.hb
 | .set _ _=>Nat.le_refl _
 | .copy _ _=>Nat.le_refl _
 | .add _ _=>Nat.le_refl _
 | .less _=>Nat.le_refl _
 | .times _ rs=>by show 1<=rs.hb+2;omega
 | .count rs _=>by have:=dS rs;show rs.lb+2<=rs.hb+3;omega
 | .whl _ [] rs=>by have:=dS rs;show rs.lb+2<=rs.hb+_+2;omega
 | .whl _ (_::_) rs=>by show 2<=rs.hb+_+2;omega
 | .bear _ _ rs o=>by have:=dS rs;have:=O.len_le_hw o;show rs.lb+1+o.len+1<=rs.hb+O.hw o+2;omega
theorem dS:∀rs:aN Str,rs.lb<=rs.hb
 | .nil=>Nat.le_refl _
 | .cons r rs=>by have:=xD r;have:=dS rs;show rs.lb+r.lb<=rs.hb+r.hb;omega
end
noncomputable def mJ:∀rs:List Row,(rs.reverse.map Rq.wt).foldl O.plusO .z=dJ rs
 | []=>rfl
 | r::rs=>by rw [List.reverse_cons,List.map_append,List.foldl_append,mJ rs];rfl
noncomputable def jE (C:Cs) (i:Nat):bZ:=λws G q _=>∃(a:Addr) (r:Row),ws=[.ref a]/\gq C G a r/\kd r=i/\Sz r/\q (.tup (au r.wt)) G
theorem scWg:aE ["self"] ["self"] (ag (aX 32 0)):=⟨rfl,rfl,rfl,by decide+kernel,rfl,by decide+kernel,by decide+kernel⟩
theorem zG {C:Cs} {i:Nat} (hi:i<4) (F:cM K "weigh" "Row.weigh" (aX 32 0) f fd) (F1:Fx P w K mg base "whole" ["n"] 3 lc):cB P w K mg base 6 f fd ["self"] (jE C i):=by
 have nd:=scWg.nd;refine eQ (k:=5) F scWg (λws G q e h=>by obtain ⟨_,_,rfl,_⟩:=h;rfl) (λcdv A outer s H E hr=>?_);apply aO
 ·exact (af (aK (aD F1 (ay.mono hr (by omega)) rfl (ae ao am))) ap)
 ·rintro ws G q e ⟨a,r,rfl,ha,hk,hz,hq⟩;walk_at "R";refine ⟨1,rfl,by decide,aL.done ?_⟩;cases ha with
  | set h=>exact hq
  | copy h=>exact hq
  | add h=>exact hq
  | less h=>exact hq
  | _=>subst hk;exact absurd hi (show ¬(_:Nat)<4 by simp [kd])
noncomputable def zH:bZ:=λws G q _=>ws=[]/\q (.tup (au om)) G
theorem scEn:aE [] [] (ag (aU 18)):=⟨rfl,rfl,rfl,by decide+kernel,rfl,by decide+kernel,by decide+kernel⟩
theorem Db (F:cM K "endless" "endless" (aU 18) f fd) (F1:Fx P w K mg base "whole" ["n"] 3 lc) (F2:AO P w K mg base "raised" ["exponent","times"] 2 qU [.int 1]):cB P w K mg base 4 f fd [] zH:=by
 have nd:=scEn.nd;refine eQ F scEn (λws G q e h=>by obtain ⟨rfl,_⟩:=h;rfl) (λcdv A outer s H E hr=>?_);apply aO
 ·exact (af (aK (nN F2 (ay.mono hr (by omega)) rfl (ae (aD F1 (ay.mono hr (by omega)) rfl (ae ao am)) am))) ap)
 ·rintro ws G q e ⟨rfl,hq⟩;walk_at "R";refine ⟨1,rfl,by decide,O.wh 1,1,rfl,by decide,aL.done ?_⟩;exact hq
theorem ug {rs:aN Str} (z:kj rs):rs.rnd.NF/\rs.rnd.dp<=4/\O.hw rs.rnd<=501/\O.mx rs.rnd<=10^300+1:=by
 have x:=aN.rb z.nn;have h1:=x.hw;have h2:=x.mx;have h3:=z.hb;have h4:=z.mb;exact ⟨x.nf,x.dp,by omega,by omega⟩
theorem uh {rs:aN Str} (z:kj rs):rs.rnw.NF/\rs.rnw.dp<=4/\O.hw rs.rnw<=501/\O.mx rs.rnw<=10^300+2:=by
 have x:=aN.rbw z.nn;have h1:=x.hw;have h2:=x.mx;have h3:=z.hb;have h4:=z.mb;exact ⟨x.nf,x.dp,by omega,by omega⟩
noncomputable def DY (os:List O):Prop:=(∀o,o∈os->o.NF/\o.dp<=4)/\(os.map O.len).sum<=1000
noncomputable def Bl:bZ:=λws G q _=>∃(p:Addr) (os:List O),ws=[.ref p]/\G p=some (.lst (os.map λo=> .tup (au o)))/\DY os/\q (.tup (au (os.foldl O.plusO .z))) G
theorem scTt:aE ["some","found","number"] ["some"] (ag (aU 26)):=⟨rfl,rfl,rfl,by decide+kernel,rfl,by decide+kernel,by decide+kernel⟩
theorem Dc (F:cM K "total" "total" (aU 26) f fd) (F1:Fx P w K mg base "plus" ["a","b"] 3 kZ):cB P w K mg base 4 f fd ["some"] Bl:=by
 have nd:=scTt.nd;refine eQ F scTt (λws G q e h=>by obtain ⟨_,_,rfl,_⟩:=h;rfl) (λcdv A outer s H E hr=>?_);apply aO
 ·exact (af (aV 1 nd rfl (.inl rfl) (bv am)) (af (kF PySem.PassesOwn.never rfl (dP (aa 0 rfl (.inl rfl))) (eE 2 nd rfl (.inl rfl)) (af (aV 1 nd rfl (.inl rfl) (aD F1 (ay.mono hr (by omega)) rfl (ae (aa 1 rfl (.inl rfl)) (ae (aa 2 rfl (.inl rfl)) am)))) ap)) (af (aK (aa 1 rfl (.inl rfl))) ap)))
 ·rintro ws G q e ⟨p,os,rfl,hG,⟨hp1,hp2⟩,hq⟩;refine bt λU hU=>?_;walk_at "R";subst hU;refine bt λU hU=>?_;walk_at "R";refine ⟨_,hG,?_⟩;refine dZ (λws τ G'=>G'=G/\∃(a:O) (todo:List O) (t:Option W),ws=(todo.map λo=> .tup (au o))/\τ=[some (.ref p),some (.tup (au a)),t]/\todo.foldl O.plusO a=os.foldl O.plusO .z/\a.NF/\a.dp<=4/\a.len+(todo.map O.len).sum<=1000/\∀o,o∈todo->o.NF/\o.dp<=4) ?_ ?_ _ _ _ ⟨rfl,.z,os,none,rfl,rfl,rfl,trivial,Nat.zero_le _,by show 0+_<=_;omega,hp1⟩
  ·rintro τ G' ⟨rfl,a,todo,t,hw,rfl,hf,_⟩;refine ⟨hG,?_⟩;have hb:todo=[]:=by simpa using hw.symm
   subst hb;subst hU;walk_at "R";rw [←hf] at hq;exact aL.done hq
  ·rintro w1 ws τ G' kk ⟨rfl,a,todo,t,hw,rfl,hf,a1,a2,a3,a4⟩ hk;cases todo with
   | nil=>cases hw
   | cons o todo=>
     cases hw;refine ⟨hG,?_⟩;obtain ⟨o1,o2⟩:=a4 o List.mem_cons_self;rw [List.map_cons,List.sum_cons] at a3;walk_at "R";refine ⟨a,o,rfl,a1,by omega,by omega,by omega,by omega,?_⟩;have l1:=iZ a o;have l2:=O.dp_plus a o;refine hk _ _ ⟨rfl,O.plusO a o,todo,_,rfl,rfl,hf,a1.plus o1,Nat.le_trans l2 (Nat.max_le.mpr ⟨a2,o2⟩),by omega,λx hx=>a4 x (List.mem_cons_of_mem _ hx)⟩
noncomputable def Rows (C:Cs) (G:Gp) (ps:List (Addr×Row)):Prop:=∀p,p∈ps->gq C G p.1 p.2
theorem Rows.mono {C:Cs} {G G':Gp} {ps:List (Addr×Row)} (h:Rows C G ps) (l:bW G G'):Rows C G' ps:=λp hp=>(h p hp).mono l
theorem eg.rows {C:Cs} {G:Gp}:∀{as:List Addr} {rs:aN Str},eg C G as rs->∃ps,as=ps.map (·.1)/\rs.L=ps.map (·.2)/\Rows C G ps
 | _,_,.nil=>⟨[],rfl,rfl,λ_ h=>(nomatch h)⟩
 | _,_,.cons (a:=a) (r:=r) h hs=>by
   obtain ⟨ps,h1,h2,h3⟩:=eg.rows hs;refine ⟨(a,r)::ps,by rw [h1];rfl,by rw [aN.L,h2];rfl,λp hp=>?_⟩;rcases List.mem_cons.mp hp with rfl | hp
   ·exact h
   ·exact h3 p hp
theorem Rows.ats {C:Cs} {G:Gp}:∀{ps:List (Addr×Row)},Rows C G ps->eg C G (ps.map (·.1)) (aN.of (ps.map (·.2)))
 | [],_=> .nil
 | p::ps,h=> .cons (h p List.mem_cons_self) (Rows.ats λx hx=>h x (List.mem_cons_of_mem _ hx))
theorem kj.mem:∀{rs:aN Str},kj rs->∀r,r∈rs.L->Sz r
 | .nil,_,r,h=>(nomatch h)
 | .cons r0 rs,z,r,h=>by
   obtain ⟨z1,z2⟩:=z.cons;rcases List.mem_cons.mp h with rfl | h
   ·exact z1
   ·exact kj.mem z2 r h
theorem kl:∀rs:aN Str,rs.L.length<=rs.hb
 | .nil=>Nat.le_refl _
 | .cons r rs=>by
   have h1:=kl rs;have h2:1<=r.hb:=by
    cases r with
    | times b rs=>show 1<=rs.hb+2;omega
    | count rs n=>show 1<=rs.hb+3;omega
    | whl b hs rs=>show 1<=rs.hb+_+2;omega
    | bear b hs rs o=>show 1<=rs.hb+_+2;omega
    | _=>exact Nat.le_refl _
   show rs.L.length+1<=rs.hb+r.hb;omega
theorem ui:∀rs:aN Str,rs.nn->((rs.L.map Rq.wt).map O.len).sum<=rs.lb
 | .nil,_=>Nat.le_refl _
 | .cons r rs,h=>by
   have h1:=ui rs h.2;have h2:=(r.wq h.1).ln;show r.wt.len+((rs.L.map Rq.wt).map O.len).sum<=rs.lb+r.lb;omega
theorem kj.pls {rs:aN Str} (z:kj rs):DY (rs.L.reverse.map Rq.wt):=by
 constructor
 ·intro o ho;obtain ⟨r,hr,rfl⟩:=List.mem_map.mp ho;have:=r.wq (z.mem r (List.mem_reverse.mp hr)).nn;exact ⟨this.nf,this.dp⟩
 ·have h1:=ui rs z.nn;have h2:=dS rs;have h3:=z.hb;rw [List.map_reverse,List.map_reverse,List.sum_reverse];omega
theorem Bm (rs:aN Str):dJ rs.L=rs.wt:=by rw [←pF,aN.of_L]
noncomputable def Bn (S:Nat->Prop) (rs:aN Str):Prop:=∀r,r∈rs.L->S (kd r)
noncomputable def zI (C:Cs) (S:Nat->Prop):bZ:=λws G q _=>∃(as:List Addr) (rs:aN Str),ws=[.tup (as.map W.ref)]/\eg C G as rs/\kj rs/\Bn S rs/\q (.tup (au rs.wt)) G
theorem scWe:aE ["things"] ["things"] (ag (aU 30)):=⟨rfl,rfl,rfl,by decide+kernel,rfl,by decide+kernel,by decide+kernel⟩
theorem Dd {C:Cs} {S:Nat->Prop} (F:cM K "weight_of" "weight_of" (aU 30) f fd) (F1:Fx P w K mg base "total" ["some"] 4 Bl) (M:∀i,S i->Mt P w K mg base (C.at_ i) "weigh" ["self"] 6 (jE C i) []) (mr:mg "reversed"=none):cB P w K mg base 7 f fd ["things"] (zI C S):=by
 have nd:=scWe.nd;refine eQ F scWe (λws G q e h=>by obtain ⟨_,_,rfl,_⟩:=h;rfl) (λcdv A outer s H E hr=>?_);apply aO
 ·refine' cH (aK (aD F1 (ay.mono hr (by omega)) rfl (ae (kG (fJ (by first | rfl | decide+kernel)) rfl (yP rfl mr ?it) (λ_ _ _ _=>?tg) (λ_ _ _ _=>?tt) (λ_ _ _ _=>kQ (S:=S) (t:=λi=>jS (C.at_ i) "weigh" (jE C i) [] (jx 1) iS) λi hi=>lU ?me (M i hi) (ay.mono hr (by omega)))) am)))
  case it=>exact (ae (aa 0 rfl (.inl rfl)) am)
  case tg=>exact (cV 1 (by first | assumption | decide+kernel | rfl) rfl (.inl rfl))
  case tt=>exact fi
  case me=>exact (aa 1 rfl (.inl rfl))
 ·rintro ws G q e ⟨as,rs,rfl,ha,hz,hkd,hq⟩;obtain ⟨ps,rfl,h2,h3⟩:=ha.rows;have hl:=kl rs;have hb:=hz.hb;have hpl:ps.length=rs.L.length:=by rw [h2,List.length_map]
  walk_at "R";have ep:((ps.map (·.1)).map W.ref).reverse=ps.reverse.map λp=>W.ref p.1:=by rw [List.map_map,List.map_reverse];rfl
  rw [ep];refine iA (i:=1) (λp:Addr×Row=>W.ref p.1) (λp=> .tup (au p.2.wt)) (τ0:=[none,none]) trivial (λp hp k hk=>?_) (by rw [List.length_reverse];show 0+_<=_;omega) (λ_=>rfl) λp hp=>?_
  ·have hp':=List.mem_reverse.mp hp;have h4:=h3 p hp';have hm:p.2∈rs.L:=by rw [h2];exact List.mem_map.mpr ⟨p,hp',rfl⟩
   obtain ⟨fs,h6,h7,_⟩:=h4.isIns;walk_at "R";exact ⟨kd p.2,hkd _ hm,p.1,fs,rfl,h6,h7,p.1,p.2,rfl,h4,rfl,hz.mem _ hm,hk⟩
  ·refine ⟨p,rs.L.reverse.map Rq.wt,rfl,?_,hz.pls,?_⟩
   ·rw [ak,List.nil_append,h2,←List.map_reverse,List.map_map,List.map_map]
    rfl
   ·rw [mJ,Bm];exact ⟨G,aL.new hp,hq⟩
theorem lg:(10:Int)^400<=xw:=by unfold xw;decide+kernel
theorem uj {b:Str} {rs:aN Str} (h:Sz (.times b rs)):kj rs:=by
 have h1:=h.nn;have h2:=h.hb;have h3:=h.mb;have e2:(Rq.times b rs).hb=rs.hb+2:=rfl;have e3:(Rq.times b rs).mb=(rs.mb+2)*2:=rfl;rw [e2] at h2;rw [e3] at h3;exact ⟨h1,by omega,by omega⟩
theorem uk {b:Str} {hs:List (O×List Str)} {rs:aN Str} (h:Sz (.whl b hs rs)):kj rs/\sW 3 hs/\O.hw (hpw hs)<=500/\O.mx (hpw hs)<=10^300:=by
 have h1:=h.nn;have h2:=h.hb;have h3:=h.mb;have e2:(Rq.whl b hs rs).hb=rs.hb+O.hw (hpw hs)+2:=rfl;have e3:(Rq.whl b hs rs).mb=(rs.mb+3)*((O.mx (hpw hs)).toNat+1)+1:=rfl;rw [e2] at h2;rw [e3] at h3;have h4:rs.mb+3<=(rs.mb+3)*((O.mx (hpw hs)).toNat+1):=Nat.le_mul_of_pos_right _ (by omega);have h5:(O.mx (hpw hs)).toNat+1<=(rs.mb+3)*((O.mx (hpw hs)).toNat+1):=Nat.le_mul_of_pos_left _ (by omega);exact ⟨⟨h1.1,by omega,by omega⟩,h1.2,by omega,by omega⟩
theorem scTw:aE ["self"] ["self"] (ag (aX 36 1)):=⟨rfl,rfl,rfl,by decide+kernel,rfl,by decide+kernel,by decide+kernel⟩
theorem De {C:Cs} (F:cM K "weigh" "Times.weigh" (aX 36 1) f fd) (F1:Fx P w K mg base "times" ["a","b"] 4 uf) (F2:Fx P w K mg base "endless" [] 4 zH) (hc:dr K C.t) (h1:aC K C.t "of_round"):cB P w K mg base 6 f fd ["self"] (jE C 4):=by
 have nd:=scTw.nd;refine eQ (k:=5) F scTw (λws G q e h=>by obtain ⟨_,_,rfl,_⟩:=h;rfl) (λcdv A outer s H E hr=>?_);apply aO
 ·exact (af (aK (aD F1 (ay.mono hr (by omega)) rfl (ae (bp (aa 0 rfl (.inl rfl))) (ae (nJ F2 (ay.mono hr (by omega)) rfl) am)))) ap)
 ·rintro ws G q e ⟨a,r,rfl,ha,hk,hz,hq⟩;cases ha with
  | times h hs=>
    rename_i b as rs;have z:=uj hz;obtain ⟨r1,r2,r3,r4⟩:=ug z;have c0:=lg;walk_at "R";refine ⟨a,C.t,_,_,rfl,h,⟨hc,h1⟩,rfl,rfl,rs.rnd,om,rfl,r1,pC,by omega,by decide,by omega,by decide,Int.le_trans r4 (Int.le_trans (by decide+kernel) c0),Int.le_trans (by decide:O.mx om<=1) (Int.le_trans (by decide+kernel) c0),aL.done ?_⟩;exact hq
  | _=>cases hk
theorem mK {rs:aN Str} {n:Int} (h:Sz (.count rs n)):kj rs/\0<=n/\n<=10^300:=by
 have h1:=h.nn;have h2:=h.hb;have h3:=h.mb;have e2:(Rq.count rs n).hb=rs.hb+3:=rfl;have e3:(Rq.count rs n).mb=(rs.mb+2)*(n.toNat+1)+1:=rfl;rw [e2] at h2;rw [e3] at h3;have h4:rs.mb+2<=(rs.mb+2)*(n.toNat+1):=Nat.le_mul_of_pos_right _ (by omega);have h5:n.toNat+1<=(rs.mb+2)*(n.toNat+1):=Nat.le_mul_of_pos_left _ (by omega);have h6:=h1.2;exact ⟨⟨h1.1,by omega,by omega⟩,h6,by omega⟩
theorem p6 {b:Str} {hs:List (O×List Str)} {rs:aN Str} {o:O} (h:Sz (.bear b hs rs o)):kj rs/\sW 3 hs/\o.NF/\o.dp<=4/\O.hw o<=500/\O.mx o<=10^300:=by
 have h1:=h.nn;have h2:=h.hb;have h3:=h.mb;have e2:(Rq.bear b hs rs o).hb=rs.hb+O.hw o+2:=rfl;have e3:(Rq.bear b hs rs o).mb=(rs.mb+3)*((O.mx o).toNat+1)+1:=rfl;rw [e2] at h2;rw [e3] at h3;have h4:rs.mb+3<=(rs.mb+3)*((O.mx o).toNat+1):=Nat.le_mul_of_pos_right _ (by omega);have h5:(O.mx o).toNat+1<=(rs.mb+3)*((O.mx o).toNat+1):=Nat.le_mul_of_pos_left _ (by omega);exact ⟨⟨h1.1,by omega,by omega⟩,h1.2.1,h1.2.2.1,h1.2.2.2,by omega,by omega⟩
theorem scNw:aE ["self"] ["self"] (ag (aX 37 1)):=⟨rfl,rfl,rfl,by decide+kernel,rfl,by decide+kernel,by decide+kernel⟩
theorem Dg {C:Cs} (F:cM K "weigh" "Count.weigh" (aX 37 1) f fd) (F1:Fx P w K mg base "times" ["a","b"] 4 uf) (F2:Fx P w K mg base "whole" ["n"] 3 lc) (F3:Fx P w K mg base "plus" ["a","b"] 3 kZ) (hc:dr K C.t) (h1:aC K C.t "of_round") (hc2:dr K C.n) (h2:aC K C.n "loop") (h3:aC K C.n "rounds"):cB P w K mg base 6 f fd ["self"] (jE C 6):=by
 have nd:=scNw.nd;refine eQ (k:=5) F scNw (λws G q e h=>by obtain ⟨_,_,rfl,_⟩:=h;rfl) (λcdv A outer s H E hr=>?_);apply aO
 ·exact (af (aK (aD F3 (ay.mono hr (by omega)) rfl (ae (aD F1 (ay.mono hr (by omega)) rfl (ae (bp (bp (aa 0 rfl (.inl rfl)))) (ae (aD F2 (ay.mono hr (by omega)) rfl (ae (bp (aa 0 rfl (.inl rfl))) am)) am))) (ae (aD F2 (ay.mono hr (by omega)) rfl (ae ao am)) am)))) ap)
 ·rintro ws G q e ⟨a,r,rfl,ha,hk,hz,hq⟩;cases ha with
  | count h hl hs=>
    rename_i l b as rs n;obtain ⟨z,n0,n1⟩:=mK hz;obtain ⟨r1,r2,r3,r4⟩:=ug z;have c0:=lg;have y:=Wq.wh n0;have x:=(aN.rb z.nn).many n0;have x1:=x.ln;have x2:=dS rs;have x3:=z.hb;have y2:=y.hw;have y3:=y.mx;have y4:=y.dp;have e1:=Wq.wh (n:=1) (by decide);have n2:O.mx (O.wh n)<=10^300:=by (clear F F1 F2 F3 hc h1 hc2 h2 h3 nd hr hl hs h hk hz hq z r1 r2 r3 r4 c0 y x x1 x2 x3 y2 y4 e1;omega)
    walk_at "R";refine ⟨a,C.n,_,_,rfl,h,⟨hc2,h2⟩,rfl,l,C.t,_,_,rfl,hl,⟨hc,h1⟩,rfl,a,C.n,_,_,rfl,h,⟨hc2,h3⟩,rfl,n,rfl,n0,rs.rnd,O.wh n,rfl,r1,y.nf,by omega,by omega,by omega,by omega,Int.le_trans r4 (Int.le_trans (by decide+kernel) c0),Int.le_trans n2 (Int.le_trans (by decide+kernel) c0),1,rfl,by decide,O.timesO rs.rnd (O.wh n),O.wh 1,rfl,x.nf,Nat.le_trans x.dp (by decide),Nat.le_trans e1.dp (by decide),by (clear F F1 F2 F3 hc h1 hc2 h2 h3 nd hr hl hs h hk hz hq z n0 n1 r1 r2 r3 r4 c0 y x y2 y3 y4 e1 n2;omega),Nat.le_trans e1.ln (by decide),aL.done ?_⟩;exact hq
  | _=>cases hk
theorem scBw:aE ["self"] ["self"] (ag (aX 39 1)):=⟨rfl,rfl,rfl,by decide+kernel,rfl,by decide+kernel,by decide+kernel⟩
theorem Dh {C:Cs} (F:cM K "weigh" "Bearing.weigh" (aX 39 1) f fd) (F1:Fx P w K mg base "times" ["a","b"] 4 uf) (F2:Fx P w K mg base "whole" ["n"] 3 lc) (F3:Fx P w K mg base "plus" ["a","b"] 3 kZ) (hc:dr K C.w) (h1:aC K C.w "of_round") (hc2:dr K C.b) (h2:aC K C.b "loop") (h3:aC K C.b "borne"):cB P w K mg base 6 f fd ["self"] (jE C 7):=by
 have nd:=scBw.nd;refine eQ (k:=5) F scBw (λws G q e h=>by obtain ⟨_,_,rfl,_⟩:=h;rfl) (λcdv A outer s H E hr=>?_);apply aO
 ·exact (af (aK (aD F3 (ay.mono hr (by omega)) rfl (ae (aD F1 (ay.mono hr (by omega)) rfl (ae (bp (bp (aa 0 rfl (.inl rfl)))) (ae (bp (aa 0 rfl (.inl rfl))) am))) (ae (aD F2 (ay.mono hr (by omega)) rfl (ae ao am)) am)))) ap)
 ·rintro ws G q e ⟨a,r,rfl,ha,hk,hz,hq⟩;cases ha with
  | bear h hl hs=>
    rename_i l b ms as rs o;obtain ⟨z,m1,o1,o2,o3,o4⟩:=p6 hz;obtain ⟨r1,r2,r3,r4⟩:=uh z;have c0:=lg;have hb:=hz.hb;have hb2:(Rq.bear b ms rs o).hb=rs.hb+O.hw o+2:=rfl;have lt:=gP rs.rnw o;have l1:=O.len_le_hw rs.rnw;have l2:=O.len_le_hw o;have nt:=r1.times o1;have dt:=O.dp_times rs.rnw o;have e1:=Wq.wh (n:=1) (by decide);have x0:=(aN.rbw z.nn).ln;have x2:=dS rs;walk_at "R";refine ⟨a,C.b,_,_,rfl,h,⟨hc2,h2⟩,rfl,l,C.w,_,_,rfl,hl,⟨hc,h1⟩,rfl,a,C.b,_,_,rfl,h,⟨hc2,h3⟩,rfl,rs.rnw,o,rfl,r1,o1,by omega,by omega,by omega,by omega,Int.le_trans r4 (Int.le_trans (by decide+kernel) c0),Int.le_trans o4 (Int.le_trans (by decide+kernel) c0),1,rfl,by decide,O.timesO rs.rnw o,O.wh 1,rfl,nt,by (clear F F1 F2 F3 hc h1 hc2 h2 h3 nd hr hl hs h hk hz hq z m1 o1 o3 o4 r1 r3 r4 c0 hb hb2 lt l1 l2 nt e1 x0 x2;omega),Nat.le_trans e1.dp (by decide),by (clear F F1 F2 F3 hc h1 hc2 h2 h3 nd hr hl hs h hk hz hq z m1 o1 o2 o3 o4 r1 r2 r4 c0 nt dt e1 x0 x2;omega),Nat.le_trans e1.ln (by decide),aL.done ?_⟩;exact hq
  | _=>cases hk
theorem km:∀l:List Str,W.flats (l.map W.str)=true
 | []=>rfl
 | _::l=>by rw [List.map_cons,W.flats,km l];rfl
theorem kn:∀l:List Str,W.deps (l.map W.str)=0
 | []=>rfl
 | _::l=>by rw [List.map_cons,W.deps,kn l];rfl
theorem ko:∀hs:List (O×List Str),W.flats (fc hs)=true
 | []=>rfl
 | p::hs=>by
   show W.flats (_::fc hs)=true;rw [W.flats,ko hs];simp [W.flat,W.flats,bR,km]
theorem kq:∀{hs:List (O×List Str)},sW 3 hs->W.deps (fc hs)<=100
 | [],_=>Nat.zero_le _
 | p::hs,h=>by
   have h1:=kq (hs:=hs) λx hx=>h x (List.mem_cons_of_mem _ hx);have h2:=(h p List.mem_cons_self).2.1;have h3:=dY p.1;show W.deps (_::fc hs)<=100;simp only [W.deps,W.dep,kn];omega
theorem scWw:aE ["self","height"] ["self"] (ag (aX 38 1)):=⟨rfl,rfl,rfl,by decide+kernel,rfl,by decide+kernel,by decide+kernel⟩
theorem Di {C:Cs} (F:cM K "weigh" "While.weigh" (aX 38 1) f fd) (F1:Fx P w K mg base "times" ["a","b"] 4 uf) (F2:Fx P w K mg base "whole" ["n"] 3 lc) (F3:Fx P w K mg base "plus" ["a","b"] 3 kZ) (F4:AO P w K mg base "raised" ["exponent","times"] 2 qU [.int 1]) (hc:dr K C.w) (h1:aC K C.w "of_round") (h2:aC K C.w "heights"):cB P w K mg base 6 f fd ["self"] (jE C 5):=by
 have nd:=scWw.nd;refine eQ (k:=5) F scWw (λws G q e h=>by obtain ⟨_,_,rfl,_⟩:=h;rfl) (λcdv A outer s H E hr=>?_);apply aO
 ·exact (af (aV 1 nd rfl (.inl rfl) (iR (bo (pW hr) (bp (aa 0 rfl (.inl rfl))) (bv am) (aY _)) (aD F3 (ay.mono hr (by omega)) rfl (ae (bM bS (bM bS (bp (aa 0 rfl (.inl rfl))) ao (λ_ _=>rfl)) ao (λ_ _=>rfl)) (ae (aD F2 (ay.mono hr (by omega)) rfl (ae ao am)) am))) (bv am))) (af (aK (aD F3 (ay.mono hr (by omega)) rfl (ae (aD F1 (ay.mono hr (by omega)) rfl (ae (bp (aa 0 rfl (.inl rfl))) (ae (nN F4 (ay.mono hr (by omega)) rfl (ae (aa 1 rfl (.inl rfl)) am)) am))) (ae (aD F2 (ay.mono hr (by omega)) rfl (ae ao am)) am)))) ap))
 ·rintro ws G q e ⟨a,r,rfl,ha,hk,hz,hq⟩;cases ha with
  | whl h hs=>
    rename_i b ms as rs;obtain ⟨z,m1,m2,m3⟩:=uk hz;obtain ⟨r1,r2,r3,r4⟩:=uh z;obtain ⟨g1,g2⟩:=sX m1;obtain ⟨p1,p2⟩:=sY m1;have c0:=lg;have e1:=Wb.wh (n:=1) (by decide);have x:=(aN.wq rs z.nn).plus (Wq.wh (n:=2) (by decide));have y:=x.times p1 p2 (Nat.le_trans (gP _ _) (Nat.add_le_add_right x.ln _));have y1:=y.ln;have l1:=dS rs;have l2:=z.hb;have l3:(hpw ms).len=1:=rfl;have y2:Nat.le (O.len (O.wh 1)) 1:=e1.ln;have r4':=Int.le_trans r4 (Int.le_trans (by decide+kernel) c0);have m3':=Int.le_trans m3 (Int.le_trans (by decide+kernel) c0);have hq':∃G0,aL G0 G/\q (.tup (au (O.plusO (O.timesO rs.rnw (hpw ms)) (O.wh 1)))) G0:=aL.done hq;have y3:(O.timesO rs.rnw (hpw ms)).len<=1000:=Nat.le_trans y1 (by (clear F F1 F2 F3 F4 hc h1 h2 nd hr hs h hk hz hq z m1 m2 m3 r1 r2 r3 r4 g1 g2 p1 p2 c0 e1 x y y1 y2 r4' m3' hq';omega));have fl:(W.tup (fc ms)).flat=true:=by simp only [W.flat];exact ko ms
    have dl:(W.tup (fc ms)).dep<=150:=by have:=kq m1;simp only [W.dep];(clear F F1 F2 F3 F4 hc h1 h2 nd hr hs h hk hz hq z m1 m2 m3 r1 r2 r3 r4 g1 g2 p1 p2 c0 e1 x y y1 l1 l2 l3 y2 r4' m3' hq' y3 fl;omega)
    refine bt λU hU=>?_;walk_at "R";refine ⟨a,C.w,_,_,rfl,h,⟨hc,h2⟩,rfl,fl,dl,?_⟩;cases ms with
    | nil=>
      rw [if_neg (by decide)];subst hU;walk_at "R";exact ⟨a,C.w,_,_,rfl,h,⟨hc,h1⟩,rfl,xv [],1,rfl,by decide,rs.rnw,hpw [],rfl,r1,p1,by omega,by (clear F F1 F2 F3 F4 hc h1 h2 nd hr hs z r1 r2 r3 r4 c0 e1 x l1 l2 y2 r4' h hk hz hq m1 m2 m3 g1 g2 p1 y y1 l3 m3' hq' y3 fl dl;omega),by omega,by omega,r4',m3',1,rfl,by decide,O.timesO rs.rnw (hpw []),O.wh 1,rfl,y.nf,Nat.le_trans y.dp (by decide),Nat.le_trans e1.dp (by decide),y3,Nat.le_trans e1.ln (by decide),hq'⟩
    | cons p ms=>
      rw [if_pos (by simp only [fc,List.map_cons,W.eq,W.eqs])];refine ⟨a,C.w,_,_,rfl,h,⟨hc,h2⟩,rfl,?_⟩;walk_at "R";obtain ⟨o1,o2,o4⟩:=m1 p List.mem_cons_self;have o3:=O.len_le_hw p.1;refine ⟨1,rfl,by decide,p.1,O.wh 1,rfl,o1,Nat.le_trans o2 (by decide),Nat.le_trans e1.dp (by decide),by (clear F F1 F2 F3 F4 hc h1 h2 nd hr hs z r1 r2 r3 r4 c0 e1 x l1 l2 y2 r4' hU h hk hz hq m1 m2 m3 g1 g2 p1 p2 y y1 l3 m3' hq' y3 fl dl o1 o2;omega),Nat.le_trans e1.ln (by decide),?_⟩;subst hU;walk_at "R";exact ⟨a,C.w,_,_,rfl,h,⟨hc,h1⟩,rfl,xv (p::ms),1,rfl,by decide,rs.rnw,hpw (p::ms),rfl,r1,p1,by omega,by omega,by omega,by omega,r4',m3',1,rfl,by decide,O.timesO rs.rnw (hpw (p::ms)),O.wh 1,rfl,y.nf,Nat.le_trans y.dp (by decide),Nat.le_trans e1.dp (by decide),y3,Nat.le_trans e1.ln (by decide),hq'⟩
  | _=>cases hk
noncomputable def ul (kvs:List (aF×W)):Prop:=∀p,p∈kvs->∃n:Int,p.2=.int n
noncomputable def Ei:Option W->Int
 | some (.int n)=>n
 | _=>0
noncomputable def av (kvs:List (aF×W)) (k:Str):Int:=Ei (cz kvs (.inr k))
theorem um {kvs:List (aF×W)} {k:aF} {w:W} {e:aF×W} (h:e∈bw kvs k w):e∈kvs∨e.2=w:=by
 unfold bw at h;split at h
 ·obtain ⟨x,hx,rfl⟩:=List.mem_map.mp h;split
  ·exact .inr rfl
  ·exact .inl hx
 ·rcases List.mem_append.mp h with h | h
  ·exact .inl h
  ·rw [List.mem_singleton.mp h];exact .inr rfl
theorem ul.get {kvs:List (aF×W)} (h:ul kvs) (k:Str):(cz kvs (.inr k)).getD (.int 0)=.int (av kvs k):=by
 unfold av;cases e:cz kvs (.inr k) with
 | none=>rfl
 | some w=>
   unfold cz at e;obtain ⟨p,hp,rfl⟩:=Option.map_eq_some_iff.mp e;obtain ⟨n,hn⟩:=h p (List.mem_of_find?_eq_some hp);rw [hn]
   rfl
noncomputable def cY (B:Int) (kvs:List (aF×W)):Prop:=∀p,p∈kvs->∃n:Int,p.2=.int n/\0<=n/\n<=B
theorem cY.int {B:Int} {kvs:List (aF×W)} (h:cY B kvs):ul kvs:=λp hp=>let ⟨n,e,_⟩:=h p hp;⟨n,e⟩
theorem cY.le {B C:Int} {kvs:List (aF×W)} (h:cY B kvs) (l:B<=C):cY C kvs:=λp hp=>let ⟨n,e,h1,h2⟩:=h p hp;⟨n,e,h1,Int.le_trans h2 l⟩
theorem cY.put {B:Int} {kvs:List (aF×W)} (h:cY B kvs) (k:aF) {n:Int} (h0:0<=n) (h1:n<=B):cY B (bw kvs k (.int n)):=λp hp=>by
 rcases um hp with hp | hp
 ·exact h p hp
 ·exact ⟨n,hp,h0,h1⟩
theorem cY.get {B:Int} {kvs:List (aF×W)} (h:cY B kvs) (hB:0<=B) (k:Str):0<=av kvs k/\av kvs k<=B:=by
 unfold av;cases e:cz kvs (.inr k) with
 | none=>exact ⟨Int.le_refl _,hB⟩
 | some w=>
   unfold cz at e;obtain ⟨p,hp,rfl⟩:=Option.map_eq_some_iff.mp e;obtain ⟨n,hn,h0,h1⟩:=h p (List.mem_of_find?_eq_some hp);rw [hn];exact ⟨h0,h1⟩
noncomputable def oE:bZ:=λws G q _=>∃(d:Addr) (kvs:List (aF×W)) (z:Str),ws=[.ref d,.str z]/\G d=some (.dic kvs)/\ul kvs/\q (.int (av kvs z)) G
theorem scHe:aE ["boxes","box"] ["boxes","box"] (ag (aU 31)):=⟨rfl,rfl,rfl,by decide+kernel,rfl,by decide+kernel,by decide+kernel⟩
theorem Dj (F:cM K "held" "held" (aU 31) f fd):cB P w K mg base 1 f fd ["boxes","box"] oE:=by
 have nd:=scHe.nd;refine eQ F scHe (λws G q e h=>by obtain ⟨_,_,_,rfl,_⟩:=h;rfl) (λcdv A outer s H E hr=>?_);apply aO
 ·exact (af (aK (vV (aa 0 rfl (.inl rfl)) (aa 1 rfl (.inl rfl)) ao)) ap)
 ·rintro ws G q e ⟨d,kvs,z,rfl,hG,hi,hq⟩;walk_at "R";refine ⟨⟨_,hG⟩,_,_,rfl,hG,?_⟩;rw [hi.get z];exact aL.done hq
noncomputable def zJ (C:Cs):bZ:=λws G q _=>∃(a d:Addr) (b:Str) (hs:List (O×List Str)) (as:List Addr) (rs:aN Str) (kvs:List (aF×W)) (B:Int),ws=[.ref a,.ref d]/\G a=some (.ins C.w (Bk b hs as rs))/\hs.length<=100/\(∀p,p∈hs->p.2.length<=100)/\G d=some (.dic kvs)/\cY B kvs/\0<=B/\q (.tup (au (bB (av kvs) hs))) G
theorem mM (g:Str->Int):∀l:List Str,(l.map g).sum=fM g l
 | []=>rfl
 | x::l=>by rw [List.map_cons,List.sum_cons,mM g l];rfl
theorem scMs:aE ["self","boxes","found","exponent","names"] ["self","boxes"] (ag (aX 38 3)):=⟨rfl,rfl,rfl,by decide+kernel,rfl,by decide+kernel,by decide+kernel⟩
theorem Dk {C:Cs} (F:cM K "measure" "While.measure" (aX 38 3) f fd) (F1:Fx P w K mg base "held" ["boxes","box"] 1 oE) (F2:Fx P w K mg base "raised" ["exponent","times"] 2 qU) (ms:mg "sum"=none) (hc:dr K C.w) (h1:aC K C.w "heights"):cB P w K mg base 4 f fd ["self","boxes"] (zJ C):=by
 have nd:=scMs.nd;refine eQ (k:=3) F scMs (λws G q e h=>by obtain ⟨_,_,_,_,_,_,_,_,rfl,_⟩:=h;rfl) (λcdv A outer s H E hr=>?_);apply aO
 ·exact (af (aV 2 nd rfl (.inl rfl) (bv am)) (af (kF PySem.PassesOwn.never rfl (dP (bp (aa 0 rfl (.inl rfl)))) (nD rfl (dX (eE 3 nd rfl (.inl rfl)) (dX (eE 4 nd rfl (.inl rfl)) kE))) (af (aV 2 nd rfl (.inl rfl) (aR bC (aa 2 rfl (.inl rfl)) (aD F2 (ay.mono hr (by omega)) rfl (ae (aa 3 rfl (.inl rfl)) (ae (cJ (AB rfl) rfl ms AI (ae (kG (fJ (by first | rfl | decide+kernel)) rfl (dP (aa 4 rfl (.inl rfl))) (λ_ _ _ _=>(cV 1 (by first | assumption | decide+kernel | rfl) rfl (.inl rfl))) (λ_ _ _ _=>fi) (λ_ _ _ _=>(aD F1 (ay.mono hr (by omega)) rfl (ae (aa 3 rfl (.inr (.inl rfl))) (ae (aa 1 rfl (.inl rfl)) am))))) am)) am))))) ap)) (af (aK (aa 2 rfl (.inl rfl))) ap)))
 ·rintro ws G q e ⟨a,d,b,hs,as,rs,kvs,B,rfl,ha,hl,hn,hd,hB,B0,hq⟩;have nn:∀x,0<=av kvs x:=λx=>(hB.get B0 x).1;refine bt λU hU=>?_;walk_at "R";subst hU;refine bt λU hU=>?_;walk_at "R";refine ⟨a,C.w,_,_,rfl,ha,⟨hc,h1⟩,rfl,?_⟩;walk_at "R";refine dZ (λws τ G'=>aL G G'/\∃(us:List (O×List Str)) (o:O) (t3 t4:Option W),ws=fc us/\(∀p,p∈us->p∈hs)/\τ=[some (.ref a),some (.ref d),some (.tup (au o)),t3,t4]/\O.app o (bB (av kvs) us)=bB (av kvs) hs/\o.len+us.length<=100) ?_ ?_ _ _ _ ⟨aL.refl _,hs,.z,none,none,rfl,λ_ h=>h,rfl,rfl,by show 0+_<=_;omega⟩
  ·rintro τ G' ⟨le,us,o,t3,t4,hw,hm,rfl,ho,hlen⟩;refine ⟨trivial,?_⟩;have hu:us=[]:=by
    cases us with
    | nil=>rfl
    | cons _ _=>cases hw
   subst hu;subst hU;walk_at "R";rw [show bB (av kvs) []=.z from rfl,O.app_z] at ho;rw [ho];exact ⟨G,le,hq⟩
  ·rintro w1 ws τ G' kk ⟨le,us,o,t3,t4,hw,hm,rfl,ho,hlen⟩ hk;cases us with
   | nil=>cases hw
   | cons p us=>
     cases hw;refine ⟨trivial,?_⟩;simp only [rW,jN,rV,cZ,List.set_cons_succ,List.set_cons_zero];refine ⟨rfl,?_⟩;have hpl:=hn p (hm p List.mem_cons_self);have hd':=le _ _ hd;walk_at "R";show bX _ _ _ _ _ [none,none,none,some (W.ref d)] G' [] _;refine iA W.str (λx=>W.int (av kvs x)) trivial (λx hx k hk2=>?_) (by simp only [List.length_nil];omega) (λ_=>rfl) λp1 hp1=>?_
     ·walk_at "R";exact ⟨d,kvs,x,rfl,hd',hB.int,hk2⟩
     refine ⟨p.2.map (av kvs),by rw [ak,List.nil_append,List.map_map];rfl,?_⟩;rw [mM];have s0:=kS nn p.2;refine ⟨p.1,fM (av kvs) p.2,rfl,s0,?_⟩;rw [List.length_cons] at hlen;have hm':∀q,q∈us->q∈hs:=λq hq=>hm q (List.mem_cons_of_mem _ hq);have le1:aL G (aG G' p1 (GO.lst ([]++p.2.map λx=>W.int (av kvs x)))):=le.trans (aL.new hp1)
     by_cases h0:fM (av kvs) p.2=0
     ·rw [if_pos h0];have e0:bB (av kvs) (p::us)=bB (av kvs) us:=if_pos h0;rw [e0] at ho;refine ⟨by rw [aS];show o.len+0<=_;(clear F F1 F2 ms hc h1 nd hr ha hl hn hd hB B0 hq nn hU le hm ho hk hpl hd' hp1 s0 hm' le1 h0 e0;omega),?_⟩;rw [show au o++au O.z=au o from List.append_nil _];exact hk _ _ ⟨le1,us,o,_,_,rfl,hm',rfl,ho,by (clear F F1 F2 ms hc h1 nd hr ha hl hn hd hB B0 hq nn hU le hm ho hk hpl hd' hp1 s0 hm' le1 h0 e0;omega)⟩
     ·rw [if_neg h0];have e0:bB (av kvs) (p::us)=.c p.1 (fM (av kvs) p.2) (bB (av kvs) us):=if_neg h0;rw [e0] at ho;refine ⟨by rw [aS];show o.len+1<=_;(clear F F1 F2 ms hc h1 nd hr ha hl hn hd hB B0 hq nn hU le hm ho hk hpl hd' hp1 s0 hm' le1 h0 e0;omega),?_⟩;rw [←fb];refine hk _ _ ⟨le1,us,_,_,_,rfl,hm',rfl,?_,?_⟩
      ·rw [O.app_assoc];exact ho
      ·rw [O.len_app];show o.len+1+_<=_;(clear F F1 F2 ms hc h1 nd hr ha hl hn hd hB B0 hq nn hU le hm ho hk hpl hd' hp1 s0 hm' le1 h0 e0;omega)
noncomputable def bY (kvs:List (aF×W)):Row->List (aF×W)
 | .set b n=>bw kvs (.inr b) (.int n)
 | .copy b o=>bw kvs (.inr b) (.int (av kvs o))
 | .add b o=>bw kvs (.inr b) (.int (av kvs b+av kvs o))
 | .less b=>bw kvs (.inr b) (.int (if av kvs b-1<0 then 0 else av kvs b-1))
 | _=>kvs
noncomputable def et (kvs:List (aF×W)):Row->List Row
 | .times b rs=>[.count rs (av kvs b)]
 | .count rs n=>if n=0 then [] else rs.L++[.count rs (n-1)]
 | .whl b hs rs=>if av kvs b=0 then [] else rs.L++[.bear b hs rs (bB (av kvs) hs)]
 | .bear b hs rs _=>if av kvs b=0 then [] else rs.L++[.bear b hs rs (bB (av kvs) hs)]
 | _=>[]
noncomputable def cA (kvs:List (aF×W)):Row->Prop
 | .bear b hs _ o=>0<av kvs b/\0<=O.cmp (bB (av kvs) hs) o
 | _=>False
noncomputable abbrev refs (ps:List (Addr×Row)):List W:=ps.map λx=>W.ref x.1
noncomputable def mO (C:Cs) (i:Nat):bZ:=λws G q _=>∃(a d:Addr) (r:Row) (kvs:List (aF×W)),ws=[.ref a,.ref d]/\gq C G a r/\kd r=i/\Sz r/\r.od/\G d=some (.dic kvs)/\(∃B:Int,cY B kvs/\0<=B)/\kvs.length<=1000/\¬cA kvs r/\
 ∀(p:Addr) (G':Gp) (ps:List (Addr×Row)),(∀x g,x≠d->G x=some g->G' x=some g)->G' d=some (.dic (bY kvs r))->G p=none->G' p=some (.lst (refs ps))->Rows C G' ps->ps.map (·.2)=et kvs r->q (.ref p) G'
theorem gX {C:Cs} {G:Gp} {q:WK} {d:Addr} {r:Row} {kvs:List (aF×W)} (hd:G d=some (.dic kvs)) (hs:et kvs r=[]) (hq:∀(p:Addr) (G':Gp) (ps:List (Addr×Row)),(∀x g,x≠d->G x=some g->G' x=some g)->G' d=some (.dic (bY kvs r))->G p=none->G' p=some (.lst (refs ps))->Rows C G' ps->ps.map (·.2)=et kvs r->q (.ref p) G'):
 ∀p,aG G d (.dic (bY kvs r)) p=none->∃G0,aL G0 (aG (aG G d (.dic (bY kvs r))) p (.lst []))/\q (.ref p) G0:=λp hp=>by
 have pd:p≠d:=λz=>by rw [z,ak] at hp;cases hp
 have hp0:G p=none:=by rw [aq pd] at hp;exact hp
 refine aL.done (hq p _ [] (λx g xd e=>?_) ((aq pd.symm).trans ak) hp0 ak (λ_ h=>(nomatch h)) hs.symm);rw [aq (λz=>by rw [z,hp0] at e;cases e),aq xd];exact e
theorem scS1:aE ["self","boxes"] ["self","boxes"] (ag (aX 33 1)):=⟨rfl,rfl,rfl,by decide+kernel,rfl,by decide+kernel,by decide+kernel⟩
theorem Dl {C:Cs} (F:cM K "step" "Set.step" (aX 33 1) f fd) (hc:dr K C.s) (h1:aC K C.s "box") (h2:aC K C.s "amount"):cB P w K mg base 4 f fd ["self","boxes"] (mO C 0):=by
 have nd:=scS1.nd;refine eQ (k:=3) F scS1 (λws G q e h=>by obtain ⟨_,_,_,_,rfl,_⟩:=h;rfl) (λcdv A outer s H E hr=>?_);apply aO
 ·exact (af (iB (bp (aa 0 rfl (.inl rfl))) (aa 1 rfl (.inl rfl)) (bp (aa 0 rfl (.inl rfl)))) (af (aK (cm am)) ap))
 ·rintro ws G q e ⟨a,d,r,kvs,rfl,ha,hk,hz,hod,hd,⟨B,hB,B0⟩,hl,hnf,hq⟩;have hi:=hB.int;cases ha with
  | set ha=>
    rename_i b n;refine bt λU hU=>?_;walk_at "R";refine ⟨a,C.s,_,.int n,rfl,ha,⟨hc,h2⟩,rfl,a,C.s,_,.str b,rfl,ha,⟨hc,h1⟩,rfl,d,b,kvs,rfl,rfl,hd,by omega,?_⟩;subst hU;walk_at "R";exact gX hd rfl hq
  | _=>cases hk
theorem scS3:aE ["self","boxes"] ["self","boxes"] (ag (aX 34 1)):=⟨rfl,rfl,rfl,by decide+kernel,rfl,by decide+kernel,by decide+kernel⟩
theorem Dm {C:Cs} (F:cM K "step" "Add.step" (aX 34 1) f fd) (F1:Fx P w K mg base "held" ["boxes","box"] 1 oE) (hc:dr K C.a) (h1:aC K C.a "box") (h2:aC K C.a "other"):cB P w K mg base 4 f fd ["self","boxes"] (mO C 2):=by
 have nd:=scS3.nd;refine eQ (k:=3) F scS3 (λws G q e h=>by obtain ⟨_,_,_,_,rfl,_⟩:=h;rfl) (λcdv A outer s H E hr=>?_);apply aO
 ·exact (af (iB (aR bC (aD F1 (ay.mono hr (by omega)) rfl (ae (aa 1 rfl (.inl rfl)) (ae (bp (aa 0 rfl (.inl rfl))) am))) (aD F1 (ay.mono hr (by omega)) rfl (ae (aa 1 rfl (.inl rfl)) (ae (bp (aa 0 rfl (.inl rfl))) am)))) (aa 1 rfl (.inl rfl)) (bp (aa 0 rfl (.inl rfl)))) (af (aK (cm am)) ap))
 ·rintro ws G q e ⟨a,d,r,kvs,rfl,ha,hk,hz,hod,hd,⟨B,hB,B0⟩,hl,hnf,hq⟩;have hi:=hB.int;cases ha with
  | add ha=>
    rename_i b o;refine bt λU hU=>?_;walk_at "R";refine ⟨a,C.a,_,.str b,rfl,ha,⟨hc,h1⟩,rfl,d,kvs,b,rfl,hd,hi,a,C.a,_,.str o,rfl,ha,⟨hc,h2⟩,rfl,d,kvs,o,rfl,hd,hi,?_⟩;walk_at "R";refine ⟨a,C.a,_,.str b,rfl,ha,⟨hc,h1⟩,rfl,d,b,kvs,rfl,rfl,hd,by omega,?_⟩;subst hU;walk_at "R";exact gX hd rfl hq
  | _=>cases hk
theorem scS4:aE ["self","boxes"] ["self","boxes"] (ag (aX 35 1)):=⟨rfl,rfl,rfl,by decide+kernel,rfl,by decide+kernel,by decide+kernel⟩
theorem Do {C:Cs} (F:cM K "step" "Less.step" (aX 35 1) f fd) (F1:Fx P w K mg base "held" ["boxes","box"] 1 oE) (mm:mg "max"=none) (hc:dr K C.l) (h1:aC K C.l "box"):cB P w K mg base 4 f fd ["self","boxes"] (mO C 3):=by
 have nd:=scS4.nd;refine eQ (k:=3) F scS4 (λws G q e h=>by obtain ⟨_,_,_,_,rfl,_⟩:=h;rfl) (λcdv A outer s H E hr=>?_);apply aO
 ·exact (af (iB (cJ (yL rfl) rfl mm AH (ae (aR oZ (aD F1 (ay.mono hr (by omega)) rfl (ae (aa 1 rfl (.inl rfl)) (ae (bp (aa 0 rfl (.inl rfl))) am))) ao) (ae ao am))) (aa 1 rfl (.inl rfl)) (bp (aa 0 rfl (.inl rfl)))) (af (aK (cm am)) ap))
 ·rintro ws G q e ⟨a,d,r,kvs,rfl,ha,hk,hz,hod,hd,⟨B,hB,B0⟩,hl,hnf,hq⟩;have hi:=hB.int;cases ha with
  | less ha=>
    rename_i b;refine bt λU hU=>?_;walk_at "R";refine ⟨a,C.l,_,.str b,rfl,ha,⟨hc,h1⟩,rfl,d,kvs,b,rfl,hd,hi,?_⟩;walk_at "R";refine ⟨a,C.l,_,.str b,rfl,ha,⟨hc,h1⟩,rfl,d,b,kvs,rfl,rfl,hd,by omega,?_⟩;subst hU;walk_at "R";exact gX hd rfl hq
  | _=>cases hk
noncomputable def zK (C:Cs):bZ:=λws G q _=>∃(a l:Addr) (n:Int),ws=[.ref a,.ref l,.int n]/\G a=some (.ins C.n [])/\∀G':Gp,G' a=some (.ins C.n [("loop",.ref l),("rounds",.int n)])->(∀x,x≠a->G' x=G x)->q .non G'
theorem scNc:aE ["self","loop","rounds"] ["self","loop","rounds"] (ag (aX 37 0)):=⟨rfl,rfl,rfl,by decide+kernel,rfl,by decide+kernel,by decide+kernel⟩
theorem Dp {C:Cs} (F:cM K "__init__" "Count.__init__" (aX 37 0) f fd) (hc:dr K C.n) (h1:aC K C.n "loop") (h2:aC K C.n "rounds"):cB P w K mg base 1 f fd ["self","loop","rounds"] (zK C):=by
 have nd:=scNc.nd;refine eQ F scNc (λws G q e h=>by obtain ⟨_,_,_,rfl,_⟩:=h;rfl) (λcdv A outer s H E hr=>?_);apply aO
 ·exact (af (cq (aa 0 rfl (.inl rfl)) (aa 1 rfl (.inl rfl))) (af (cq (aa 0 rfl (.inl rfl)) (aa 2 rfl (.inl rfl))) ap))
 ·rintro ws G q e ⟨a,l,n,rfl,hG,hq⟩;refine bt λU hU=>?_;walk_at "R";refine ⟨a,C.n,[],rfl,hG,⟨hc,h1⟩,by simp,?_⟩;subst hU;walk_at "R";refine ⟨a,C.n,[("loop",.ref l)],rfl,ak,⟨hc,h2⟩,by simp,?_⟩;exact aL.done (hq _ ak λx hx=>(aq hx).trans (aq hx))
theorem scS5:aE ["self","boxes"] ["self","boxes"] (ag (aX 36 2)):=⟨rfl,rfl,rfl,by decide+kernel,rfl,by decide+kernel,by decide+kernel⟩
theorem Dq {C:Cs} (F:cM K "step" "Times.step" (aX 36 2) f fd) (F1:Fx P w K mg base "held" ["boxes","box"] 1 oE) (N1:uG P w K mg base "Count" C.n ["self","loop","rounds"] 1 (zK C)) (hc:dr K C.t) (h1:aC K C.t "box"):cB P w K mg base 4 f fd ["self","boxes"] (mO C 4):=by
 have nd:=scS5.nd;refine eQ (k:=3) F scS5 (λws G q e h=>by obtain ⟨_,_,_,_,rfl,_⟩:=h;rfl) (λcdv A outer s H E hr=>?_);apply aO
 ·exact (af (aK (cm (ae (dy N1 (ay.mono hr (by omega)) rfl (ae (aa 0 rfl (.inl rfl)) (ae (aD F1 (ay.mono hr (by omega)) rfl (ae (aa 1 rfl (.inl rfl)) (ae (bp (aa 0 rfl (.inl rfl))) am))) am))) am))) ap)
 ·rintro ws G q e ⟨a,d,r,kvs,rfl,ha,hk,hz,hod,hd,⟨B,hB,B0⟩,hl,hnf,hq⟩;have hi:=hB.int;cases ha with
  | times ha hs=>
    rename_i b as rs;walk_at "R";refine ⟨a,C.t,_,.str b,rfl,ha,⟨hc,h1⟩,rfl,d,kvs,b,rfl,hd,hi,λp hp=>⟨p,a,_,rfl,ak,λG' g1 g2=>⟨rfl,λp2 hp2=>?_⟩⟩⟩;have le:aL G G':=λx g e=>(g2 x (λz=>by rw [z,hp] at e;cases e)).trans (aW e hp);have n2:p2≠p:=λz=>by rw [z,g1] at hp2;cases hp2
    have le2:=le.trans (aL.new (g:=GO.lst [W.ref p]) hp2);refine aL.done (hq p2 _ [(p,.count rs (av kvs b))] (λx g _ e=>le2 _ _ e) (le2 _ _ hd) (cv le hp2) ak (λx hx=>?_) rfl);rw [List.mem_singleton.mp hx];exact .count ((aq n2.symm).trans g1) (le2 _ _ ha) (hs.mono (aL.ins le2))
  | _=>cases hk
theorem scS6:aE ["self","boxes"] ["self","boxes"] (ag (aX 37 2)):=⟨rfl,rfl,rfl,by decide+kernel,rfl,by decide+kernel,by decide+kernel⟩
theorem Dr {C:Cs} (F:cM K "step" "Count.step" (aX 37 2) f fd) (N1:uG P w K mg base "Count" C.n ["self","loop","rounds"] 1 (zK C)) (hc:dr K C.t) (h1:aC K C.t "rows") (hc2:dr K C.n) (h2:aC K C.n "loop") (h3:aC K C.n "rounds") (ml:mg "list"=none):cB P w K mg base 4 f fd ["self","boxes"] (mO C 6):=by
 have nd:=scS6.nd;refine eQ (k:=3) F scS6 (λws G q e h=>by obtain ⟨_,_,_,_,rfl,_⟩:=h;rfl) (λcdv A outer s H E hr=>?_);apply aO
 ·exact (af (cc (bo (cE hr) (bp (aa 0 rfl (.inl rfl))) ao (aY _)) (af (aK (cm am)) ap) ap) (af (aK (aR bC (bN (pT rfl) rfl ml nM (ae (bp (bp (aa 0 rfl (.inl rfl)))) am)) (cm (ae (dy N1 (ay.mono hr (by omega)) rfl (ae (bp (aa 0 rfl (.inl rfl))) (ae (aR oZ (bp (aa 0 rfl (.inl rfl))) ao) am))) am)))) ap))
 ·rintro ws G q e ⟨a,d,r,kvs,rfl,ha,hk,hz,hod,hd,⟨B,hB,B0⟩,hl,hnf,hq⟩;have hi:=hB.int;cases ha with
  | count ha hl' hs=>
    rename_i l b as rs n;obtain ⟨z,n0,n1⟩:=mK hz;refine bt λU hU=>?_;walk_at "R";refine ⟨a,C.n,_,_,rfl,ha,⟨hc2,h3⟩,rfl,?_⟩;walk_at "R"
    by_cases hn0:n=0
    ·rw [if_pos hn0];intro p hp;have le:=aL.new (g:=GO.lst []) hp;exact aL.done (hq p _ [] (λx g _ e=>le _ _ e) (le _ _ hd) hp ak (λ_ h=>(nomatch h)) (by show []=if n=0 then [] else rs.L++[Rq.count rs (n-1)];rw [if_pos hn0]))
    ·rw [if_neg hn0];subst hU;walk_at "R";refine ⟨a,C.n,_,_,rfl,ha,⟨hc2,h2⟩,rfl,l,C.t,_,_,rfl,hl',⟨hc,h1⟩,rfl,?_⟩;walk_at "R";obtain ⟨ps,rfl,hL,hR⟩:=hs.rows;have hll:=kl rs;have hzb:=z.hb;have hpl:ps.length=rs.L.length:=by rw [hL,List.length_map]
     refine ⟨by rw [List.length_map,List.length_map];(clear F N1 hc h1 hc2 h2 h3 ml nd hr hd hB B0 hl hi ha hk hz hod hnf hq z n0 n1 hn0 hl' hs hL hR;omega),λp hp=>⟨a,C.n,_,_,rfl,aW ha hp,⟨hc2,h2⟩,rfl,a,C.n,_,_,rfl,aW ha hp,⟨hc2,h3⟩,rfl,?_⟩⟩;walk_at "R";intro p1 hp1;refine ⟨p1,l,_,rfl,ak,λG' g1 g2=>⟨rfl,λp2 hp2=>?_⟩⟩;have le1:aL (aG G p (GO.lst (List.map W.ref (List.map (λx=>x.1) ps)))) G':=λx g e=>(g2 x (λz=>by rw [z,hp1] at e;cases e)).trans (aW e hp1);have le2:=le1.trans (aL.new (g:=GO.lst [W.ref p1]) hp2);have g2p:=le2 _ _ ak;refine ⟨_,_,g2p,ak,by simp only [List.length_map,List.length_cons,List.length_nil];(clear F N1 hc h1 hc2 h2 h3 ml nd hr hd hB B0 hl hi ha hk hz hod hnf hq z n0 n1 hn0 hl' hs hL hR hp hp1 g1 g2 hp2 le1 le2 g2p;omega),λp3 hp3=>?_⟩;have n21:p2≠p1:=λz=>by rw [z,g1] at hp2;cases hp2
     have g1b:aG G' p2 (GO.lst [W.ref p1]) p1=some (.ins C.n [("loop",.ref l),("rounds",.int (n-1))]):=(aq n21.symm).trans g1;have le3:=(aL.new (g:=GO.lst (List.map W.ref (List.map (λx=>x.1) ps))) hp).trans (le2.trans (aL.new (g:=GO.lst (List.map W.ref (List.map (λx=>x.1) ps)++[W.ref p1])) hp3));have n31:p3≠p1:=λz=>by rw [z,g1b] at hp3;cases hp3
     refine aL.done (hq p3 _ (ps++[(p1,.count rs (n-1))]) (λx g _ e=>le3 _ _ e) (le3 _ _ hd) (cv (aL.new hp) (cv le2 hp3)) ?_ (λx hx=>?_) ?_)
     ·rw [ak,List.map_map];simp only [refs,List.map_append,List.map_cons,List.map_nil]
      rfl
     ·rcases List.mem_append.mp hx with hx | hx
      ·exact (hR x hx).mono (aL.ins le3)
      ·rw [List.mem_singleton.mp hx];exact .count ((aq n31.symm).trans g1b) (le3 _ _ hl') (hs.mono (aL.ins le3))
     ·rw [List.map_append,←hL];show _=if n=0 then [] else rs.L++[Rq.count rs (n-1)]
      rw [if_neg hn0]
      rfl
  | _=>cases hk
noncomputable def Bo (C:Cs):bZ:=λws G q _=>∃(a l:Addr) (o:O),ws=[.ref a,.ref l,.tup (au o)]/\G a=some (.ins C.b [])/\∀G':Gp,G' a=some (.ins C.b [("loop",.ref l),("borne",.tup (au o))])->(∀x,x≠a->G' x=G x)->q .non G'
theorem scNb:aE ["self","loop","borne"] ["self","loop","borne"] (ag (aX 39 0)):=⟨rfl,rfl,rfl,by decide+kernel,rfl,by decide+kernel,by decide+kernel⟩
theorem Dt {C:Cs} (F:cM K "__init__" "Bearing.__init__" (aX 39 0) f fd) (hc:dr K C.b) (h1:aC K C.b "loop") (h2:aC K C.b "borne"):cB P w K mg base 1 f fd ["self","loop","borne"] (Bo C):=by
 have nd:=scNb.nd;refine eQ F scNb (λws G q e h=>by obtain ⟨_,_,_,rfl,_⟩:=h;rfl) (λcdv A outer s H E hr=>?_);apply aO
 ·exact (af (cq (aa 0 rfl (.inl rfl)) (aa 1 rfl (.inl rfl))) (af (cq (aa 0 rfl (.inl rfl)) (aa 2 rfl (.inl rfl))) ap))
 ·rintro ws G q e ⟨a,l,o,rfl,hG,hq⟩;refine bt λU hU=>?_;walk_at "R";refine ⟨a,C.b,[],rfl,hG,⟨hc,h1⟩,by simp,?_⟩;subst hU;walk_at "R";refine ⟨a,C.b,[("loop",.ref l)],rfl,ak,⟨hc,h2⟩,by simp,?_⟩;exact aL.done (hq _ ak λx hx=>(aq hx).trans (aq hx))
noncomputable def zL (C:Cs):bZ:=λws G q _=>∃(a d:Addr) (b:Str) (hs:List (O×List Str)) (rs:aN Str) (kvs:List (aF×W)),ws=[.ref a,.ref d]/\gq C G a (.whl b hs rs)/\kj rs/\BM hs/\G d=some (.dic kvs)/\(∃B:Int,cY B kvs/\0<=B)/\kvs.length<=1000/\
 ∀(p:Addr) (G':Gp) (ps:List (Addr×Row)),(∀x g,x≠d->G x=some g->G' x=some g)->G' d=some (.dic kvs)->G p=none->G' p=some (.lst (refs ps))->Rows C G' ps->ps.map (·.2)=et kvs (.whl b hs rs)->q (.ref p) G'
theorem scS7:aE ["self","boxes"] ["self","boxes"] (ag (aX 38 2)):=⟨rfl,rfl,rfl,by decide+kernel,rfl,by decide+kernel,by decide+kernel⟩
theorem Bp {C:Cs} (F:cM K "step" "While.step" (aX 38 2) f fd) (F1:Fx P w K mg base "held" ["boxes","box"] 1 oE) (N1:uG P w K mg base "Bearing" C.b ["self","loop","borne"] 1 (Bo C)) (M1:Mt P w K mg base C.w "measure" ["self","boxes"] 4 (zJ C) []) (hc:dr K C.w) (h1:aC K C.w "box") (h2:aC K C.w "rows") (ml:mg "list"=none):cB P w K mg base 6 f fd ["self","boxes"] (zL C):=by
 have nd:=scS7.nd;refine eQ (k:=5) F scS7 (λws G q e h=>by obtain ⟨_,_,_,_,_,_,rfl,_⟩:=h;rfl) (λcdv A outer s H E hr=>?_);apply aO
 ·exact (af (cc (bo (cE hr) (aD F1 (ay.mono hr (by omega)) rfl (ae (aa 1 rfl (.inl rfl)) (ae (bp (aa 0 rfl (.inl rfl))) am))) ao (aY _)) (af (aK (cm am)) ap) ap) (af (aK (aR bC (bN (pT rfl) rfl ml nM (ae (bp (aa 0 rfl (.inl rfl))) am)) (cm (ae (dy N1 (ay.mono hr (by omega)) rfl (ae (aa 0 rfl (.inl rfl)) (ae (kP (aa 0 rfl (.inl rfl)) M1 (ay.mono hr (by omega)) (ae (aa 1 rfl (.inl rfl)) am)) am))) am)))) ap))
 ·rintro ws G q e ⟨a,d,b,hs,rs,kvs,rfl,ha,z,ho,hd,⟨B,hB,B0⟩,hl,hq⟩;cases ha with
  | whl ha hs'=>
    rename_i as;have hi:=hB.int;refine bt λU hU=>?_;walk_at "R";refine ⟨a,C.w,_,_,rfl,ha,⟨hc,h1⟩,rfl,d,kvs,b,rfl,hd,hi,?_⟩;walk_at "R"
    by_cases hn0:av kvs b=0
    ·rw [if_pos hn0];intro p hp;have le:=aL.new (g:=GO.lst []) hp;exact aL.done (hq p _ [] (λx g _ e=>le _ _ e) (le _ _ hd) hp ak (λ_ h=>(nomatch h)) (by show []=if av kvs b=0 then [] else _;rw [if_pos hn0]))
    ·rw [if_neg hn0];subst hU;walk_at "R";refine ⟨a,C.w,_,_,rfl,ha,⟨hc,h2⟩,rfl,?_⟩;walk_at "R";obtain ⟨ps,rfl,hL,hR⟩:=hs'.rows;have hll:=kl rs;have hzb:=z.hb;have hpl:ps.length=rs.L.length:=by rw [hL,List.length_map]
     refine ⟨by rw [List.length_map,List.length_map];omega,λp hp=>?_⟩;refine ⟨a,_,rfl,aW ha hp,rfl,?_⟩;refine ⟨a,d,b,hs,_,rs,kvs,B,rfl,aW ha hp,ho.ln,ho.nm,aW hd hp,hB,B0,λp1 hp1=>?_⟩;refine ⟨p1,a,_,rfl,ak,λG' g1 g2=>⟨rfl,λp2 hp2=>?_⟩⟩;have le1:aL (aG G p (GO.lst (List.map W.ref (List.map (λx=>x.1) ps)))) G':=λx g e=>(g2 x (λz=>by rw [z,hp1] at e;cases e)).trans (aW e hp1);have le2:=le1.trans (aL.new (g:=GO.lst [W.ref p1]) hp2);have g2p:=le2 _ _ ak;refine ⟨_,_,g2p,ak,by simp only [List.length_map,List.length_cons,List.length_nil];(clear F F1 N1 M1 hc h1 h2 ml nd hr z ho hd hB B0 hl hq hi hn0 hs' ha hL hR hp hp1 g1 g2 hp2 le1 le2 g2p;omega),λp3 hp3=>?_⟩;have n21:p2≠p1:=λz=>by rw [z,g1] at hp2;cases hp2
     have g1b:aG G' p2 (GO.lst [W.ref p1]) p1=some (.ins C.b [("loop",.ref a),("borne",.tup (au (bB (av kvs) hs)))]):=(aq n21.symm).trans g1;have le3:=(aL.new (g:=GO.lst (List.map W.ref (List.map (λx=>x.1) ps))) hp).trans (le2.trans (aL.new (g:=GO.lst (List.map W.ref (List.map (λx=>x.1) ps)++[W.ref p1])) hp3));have n31:p3≠p1:=λz=>by rw [z,g1b] at hp3;cases hp3
     refine aL.done (hq p3 _ (ps++[(p1,.bear b hs rs (bB (av kvs) hs))]) (λx g _ e=>le3 _ _ e) (le3 _ _ hd) (cv (aL.new hp) (cv le2 hp3)) ?_ (λx hx=>?_) ?_)
     ·rw [ak,List.map_map];simp only [refs,List.map_append,List.map_cons,List.map_nil]
      rfl
     ·rcases List.mem_append.mp hx with hx | hx
      ·exact (hR x hx).mono (aL.ins le3)
      ·rw [List.mem_singleton.mp hx];exact .bear ((aq n31.symm).trans g1b) (le3 _ _ ha) (hs'.mono (aL.ins le3))
     ·rw [List.map_append,←hL];show _=if av kvs b=0 then [] else rs.L++[Rq.bear b hs rs (bB (av kvs) hs)]
      rw [if_neg hn0]
      rfl
noncomputable def qV (C:Cs) (Cf:Addr) (i:Nat):bZ:=λws G q e=>∃(a d:Addr) (r:Row) (kvs:List (aF×W)),ws=[.ref a,.ref d]/\gq C G a r/\kd r=i/\Sz r/\r.od/\G d=some (.dic kvs)/\(∃B:Int,cY B kvs/\0<=B)/\kvs.length<=1000/\(cA kvs r->e (.ref Cf) G)/\
 (¬cA kvs r->∀(p:Addr) (G':Gp) (ps:List (Addr×Row)),(∀x g,x≠d->G x=some g->G' x=some g)->G' d=some (.dic (bY kvs r))->G p=none->G' p=some (.lst (refs ps))->Rows C G' ps->ps.map (·.2)=et kvs r->q (.ref p) G')
theorem wo {C:Cs} {Cf:Addr} {i:Nat} (hi:i≠7) {ws:List W} {G:Gp} {q:WK} {e:WX} (h:qV C Cf i ws G q e):mO C i ws G q e:=by
 obtain ⟨a,d,r,kvs,h1,h2,h3,h4,h5,h6,h7,h8,h9,h10⟩:=h;have hn:¬cA kvs r:=λz=>by
  cases r with
  | bear _ _ _ _=>exact hi h3.symm
  | _=>exact z
 exact ⟨a,d,r,kvs,h1,h2,h3,h4,h5,h6,h7,h8,hn,h10 hn⟩
theorem wu {C:Cs} {ws:List W} {G:Gp} {q:WK} {e:WX} (h:mO C 5 ws G q e):zL C ws G q e:=by
 obtain ⟨a,d,r,kvs,rfl,h2,h3,h4,h5,h6,h7,h8,h9,h10⟩:=h;cases r with
 | whl b hs rs=>exact ⟨a,d,b,hs,rs,kvs,rfl,h2,(uk h4).1,h5.1,h6,h7,h8,h10⟩
 | _=>cases h3
theorem scS8:aE ["self","boxes"] ["self","boxes"] (ag (aX 39 2)):=⟨rfl,rfl,rfl,by decide+kernel,rfl,by decide+kernel,by decide+kernel⟩
theorem Du {C:Cs} {Cf:Addr} (F:cM K "step" "Bearing.step" (aX 39 2) f fd) (hm:mg "NoFall"=some (.ref Cf)) {bm:List Value} (hC:XC K Cf bm) (F1:Fx P w K mg base "held" ["boxes","box"] 1 oE) (F2:Fx P w K mg base "compare" ["a","b"] 1 zE) (M1:Mt P w K mg base C.w "measure" ["self","boxes"] 4 (zJ C) []) (M2:Mt P w K mg base C.w "step" ["self","boxes"] 6 (zL C) []) (hc:dr K C.w) (h1:aC K C.w "box") (hc2:dr K C.b) (h2:aC K C.b "loop") (h3:aC K C.b "borne"):sB P w K mg base 8 f fd ["self","boxes"] (qV C Cf 7):=by
 have nd:=scS8.nd;refine Cv (k:=7) F scS8 (λws G q e h=>by obtain ⟨_,_,_,_,rfl,_⟩:=h;rfl) (λcdv A outer s H E ws G q e hr hsp hE=>?_);apply aO
 ·refine' af (cc ?c (cH (sE hm hC (λH1 G1=>hE (.ref Cf) H1 G1) rfl)) ap) ?s2
  case c=>exact (qB (kC (bo yA (aD F1 (ay.mono hr (by omega)) rfl (ae (aa 1 rfl (.inl rfl)) (ae (bp (bp (aa 0 rfl (.inl rfl)))) am))) ao (aY _)) (iy (bo yB (aD F2 (ay.mono hr (by omega)) rfl (ae (kP (bp (aa 0 rfl (.inl rfl))) M1 (ay.mono hr (by omega)) (ae (aa 1 rfl (.inl rfl)) am)) (ae (bp (aa 0 rfl (.inl rfl))) am))) ao (aY _)))))
  case s2=>exact (af (aK (kP (bp (aa 0 rfl (.inl rfl))) M2 (ay.mono hr (by omega)) (ae (aa 1 rfl (.inl rfl)) am))) ap)
 ·obtain ⟨a,d,r,kvs,rfl,ha,hk,hz,hod,hd,⟨B,hB,B0⟩,hl,hx,hq⟩:=hsp;cases ha with
  | bear ha hl' hs'=>
    rename_i l b ms as rs o;obtain ⟨z,m1,o1,o2,o3,o4⟩:=p6 hz;have hi:=hB.int;refine bt λU hU=>?_;have bK:¬cA kvs (.bear b ms rs o)->U { nx:=λx G1=>∃G0,aL G0 G1/\q W.non G0,rt:=λw G1=>∃G0,aL G0 G1/\q w G0 } [some (.ref a),some (.ref d)] G:=λhn=>by
     subst hU;walk_at "R";refine ⟨a,C.b,_,_,rfl,ha,⟨hc2,h2⟩,rfl,l,_,rfl,hl',rfl,l,d,b,ms,rs,kvs,rfl,.whl hl' hs',z,hod.1,hd,⟨B,hB,B0⟩,hl,λp G' ps k1 k2 k3 k4 k5 k6=>?_⟩;exact aL.done (hq hn p G' ps k1 k2 k3 k4 k5 k6)
    walk_at "R";refine ⟨a,C.b,_,_,rfl,ha,⟨hc2,h2⟩,rfl,l,C.w,_,_,rfl,hl',⟨hc,h1⟩,rfl,d,kvs,b,rfl,hd,hi,?_⟩;walk_at "R"
    by_cases hb:0<av kvs b
    ·rw [if_pos hb];refine ⟨a,C.b,_,_,rfl,ha,⟨hc2,h2⟩,rfl,l,_,rfl,hl',rfl,l,d,b,ms,_,rs,kvs,B,rfl,hl',hod.1.ln,hod.1.nm,hd,hB,B0,?_⟩;refine ⟨a,C.b,_,_,rfl,ha,⟨hc2,h3⟩,rfl,bB (av kvs) ms,o,rfl,?_,?_⟩
     ·have:=pK (av kvs) m1;omega
     walk_at "R"
     by_cases hcm:0<=O.cmp (bB (av kvs) ms) o
     ·rw [if_pos hcm];exact hx ⟨hb,hcm⟩
     ·rw [if_neg hcm];exact bK λh=>hcm h.2
    ·rw [if_neg hb];exact bK λh=>hb h.1
  | _=>cases hk
noncomputable abbrev oG (ms:List (O×Str)):List W:=ms.map λm=> .tup [.tup (au m.1),.str m.2]
noncomputable def Bq:bZ:=λws G q _=>∃(l:Addr) (ms:List (O×Str)),ws=[.ref l]/\G l=some (.lst (oG ms))/\ms.length<=5/\(∀m,m∈ms->m.1.dp<=3)/\q (.tup (fc (re ms))) G
structure zM (P:Program) (w:World) (K:PySem.W.Frag) (G:Gp) (d:Addr) (done:List (O×Str)) (ps:List (O×Addr)) (G':Gp):Prop where
 le:aL G G'
 fd:G d=none
 at_d:G' d=some (pY P w K (ps.map λx=>(x.1,.ref x.2)))
 len:ps.length<=done.length
 mem:∀o,o∈ps.map (·.1)↔o∈done.map (·.1)
 ls:∀x,x∈ps->G' x.2=some (.lst ((cr done x.1).map W.str))
 fr:∀x,x∈ps->G x.2=none
 i1:∀x y,x∈ps->y∈ps->x.1=y.1->x=y
 i2:∀x y,x∈ps->y∈ps->x.2=y.2->x=y
theorem mP {ps:List (O×Addr)} {o:O} {x:W} (h:eO (ps.map λx=>(x.1,.ref x.2)) o=some x):∃k,x=.ref k/\(o,k)∈ps:=by
 unfold eO at h;obtain ⟨p,hp,rfl⟩:=Option.map_eq_some_iff.mp h;have h1:=List.mem_of_find?_eq_some hp;have h2:=List.find?_some hp;obtain ⟨y,hy,rfl⟩:=List.mem_map.mp h1;have:y.1=o:=by simpa using h2
 subst this;exact ⟨y.2,rfl,hy⟩
theorem mQ {ps:List (O×Addr)} {o:O} (h:eO (ps.map λx=>(x.1,W.ref x.2)) o=none):o∉ps.map (·.1):=λho=>by
 obtain ⟨y,hy,e⟩:=List.mem_map.mp ho;unfold eO at h;have h1:=List.find?_eq_none.mp (Option.map_eq_none_iff.mp h) _ (List.mem_map.mpr ⟨y,hy,rfl⟩);exact h1 (decide_eq_true e)
theorem wv {ps:List (O×Addr)} {o:O} (h:o∈ps.map (·.1)):∃k,eO (ps.map λx=>(x.1,W.ref x.2)) o=some (.ref k)/\(o,k)∈ps:=by
 cases e:eO (ps.map λx=>(x.1,W.ref x.2)) o with
 | none=>exact absurd h (mQ e)
 | some x=>
   obtain ⟨k,rfl,hk⟩:=mP e;exact ⟨k,rfl,hk⟩
theorem zM.old {P:Program} {w:World} {K:PySem.W.Frag} {G G':Gp} {d p k:Addr} {done:List (O×Str)} {ps:List (O×Addr)} {o:O} {b:Str} (g:zM P w K G d done ps G') (hp:G' p=none) (hk:(o,k)∈ps):
 zM P w K G d (done++[(o,b)]) ps (aG (aG G' p (.lst [])) k (.lst ((cr done o).map W.str++[.str b]))):=by
 have hkd:k≠d:=λz=>by have:=g.ls _ hk;rw [z,g.at_d] at this;cases this
 have hG0:=g.fr _ hk;refine ⟨λa x e=>?_,g.fd,?_,?_,λx=>?_,λx hx=>?_,g.fr,g.i1,g.i2⟩
 ·rw [aq (λz=>by rw [z,hG0] at e;cases e)];exact aW (g.le _ _ e) hp
 ·rw [aq hkd.symm];exact aW g.at_d hp
 ·have:=g.len;rw [List.length_append];exact Nat.le_succ_of_le this
 ·rw [g.mem,List.map_append,List.mem_append];constructor
  ·exact Or.inl
  ·rintro (h | h)
   ·exact h
   ·rw [List.mem_singleton.mp h];exact (g.mem o).mp (List.mem_map.mpr ⟨_,hk,rfl⟩)
 ·rw [ja]
  by_cases e:x.2=k
  ·have:=g.i2 x (o,k) hx hk e;subst this;rw [ak,if_pos rfl,List.map_append]
   rfl
  ·rw [aq e,if_neg (λz=>e (congrArg Prod.snd (g.i1 x (o,k) hx hk z.symm))),List.append_nil];exact aW (g.ls x hx) hp
theorem zM.new {P:Program} {w:World} {K:PySem.W.Frag} {G G':Gp} {d p:Addr} {done:List (O×Str)} {ps:List (O×Addr)} {o:O} {b:Str} (g:zM P w K G d done ps G') (hp:G' p=none) (hk:o∉ps.map (·.1)):
 zM P w K G d (done++[(o,b)]) (ps++[(o,p)]) (aG (aG (aG G' p (.lst [])) d (pY P w K (ps.map (λx=>(x.1,W.ref x.2))++[(o,.ref p)]))) p (.lst [.str b])):=by
 have hpd:p≠d:=λz=>by rw [z,g.at_d] at hp;cases hp
 have hp0:=cv g.le hp;have hno:o∉done.map (·.1):=λh=>hk ((g.mem o).mpr h);have old:∀x,x∈ps->x.2≠p/\x.2≠d/\x.1≠o:=λx hx=>by
  refine ⟨λz=>?_,λz=>?_,λz=>hk (List.mem_map.mpr ⟨x,hx,z⟩)⟩
  ·have:=g.ls x hx;rw [z,hp] at this;cases this
  ·have:=g.ls x hx;rw [z,g.at_d] at this;cases this
 refine ⟨λa x e=>?_,g.fd,?_,?_,λx=>?_,λx hx=>?_,λx hx=>?_,λx y hx hy e=>?_,λx y hx hy e=>?_⟩
 ·rw [aq (λz=>by rw [z,hp0] at e;cases e),aq (λz=>by rw [z,g.fd] at e;cases e)];exact aW (g.le _ _ e) hp
 ·rw [aq hpd.symm,ak,List.map_append]
  rfl
 ·have:=g.len;rw [List.length_append,List.length_append];exact Nat.succ_le_succ this
 ·rw [List.map_append,List.map_append,List.mem_append,List.mem_append,g.mem];exact Iff.rfl
 ·rw [ja];rcases List.mem_append.mp hx with hx | hx
  ·obtain ⟨h1,h2,h3⟩:=old x hx;rw [aq h1,aq h2,if_neg (λz=>h3 z.symm),List.append_nil];exact aW (g.ls x hx) hp
  ·rw [List.mem_singleton.mp hx,ak,if_pos rfl,og hno]
   rfl
 ·rcases List.mem_append.mp hx with hx | hx
  ·exact g.fr x hx
  ·rw [List.mem_singleton.mp hx];exact hp0
 ·rcases List.mem_append.mp hx with hx | hx<;> rcases List.mem_append.mp hy with hy | hy
  ·exact g.i1 x y hx hy e
  ·rw [List.mem_singleton.mp hy] at e;exact absurd e (old x hx).2.2
  ·rw [List.mem_singleton.mp hx] at e;exact absurd e.symm (old y hy).2.2
  ·rw [List.mem_singleton.mp hx,List.mem_singleton.mp hy]
 ·rcases List.mem_append.mp hx with hx | hx<;> rcases List.mem_append.mp hy with hy | hy
  ·exact g.i2 x y hx hy e
  ·rw [List.mem_singleton.mp hy] at e;exact absurd e (old x hx).1
  ·rw [List.mem_singleton.mp hx] at e;exact absurd e.symm (old y hy).1
  ·rw [List.mem_singleton.mp hx,List.mem_singleton.mp hy]
theorem scBe:aE ["marks","names","exponent","box"] ["marks"] (ag (aU 40)):=⟨rfl,rfl,rfl,by decide+kernel,rfl,by decide+kernel,by decide+kernel⟩
theorem Dv (F:cM K "by_exponent" "by_exponent" (aU 40) f fd) (mt:mg "tuple"=none) (ms:mg "sorted"=none):cB P w K mg base 6 f fd ["marks"] Bq:=by
 have nd:=scBe.nd;refine eQ (k:=5) F scBe (λws G q e h=>by obtain ⟨_,_,rfl,_⟩:=h;rfl) (λcdv A outer s H E hr=>?_);apply aO
 ·refine' af (aV 1 (by assumption) rfl (by first | exact Or.inl rfl | exact Or.inr rfl) (show QE _ _ (tS P w K) from v9)) (af (kF PassesOwn.never rfl ?it ?tg (cH (cS (eX (show QE _ _ (zz P w K _ _ _) from zA hr ?o ?k ?e) ?b)))) (cH (aK (bN fg rfl mt fj (ae (sj (fJ (by first | rfl | decide+kernel)) rfl (dP (show QE _ _ (oC P w K _) from ue hr rfl rfl ms ?sn)) (λ_ _ _ _=>?cg) (λ_ _ _ _=>?ct) (λ_ _ _ _=>bv (ae ?ce (ae (bN fg rfl mt fj (ae (bM (show yw _ (wa P w K) from Ba hr) ?cn ?cx (λ_ _=>rfl)) am)) am)))) am)))))
  case it=>exact (dP (aa 0 rfl (.inl rfl)))
  case tg=>exact (nD rfl (dX (eE 2 nd rfl (.inl rfl)) (dX (eE 3 nd rfl (.inl rfl)) kE)))
  case o=>exact (aa 1 rfl (.inr (.inl rfl)))
  case k=>exact (aa 2 rfl (.inl rfl))
  case e=>exact (cm am)
  case b=>exact (aa 3 rfl (.inl rfl))
  case sn=>exact (aa 1 rfl (.inr (.inl rfl)))
  case cg=>exact (cV 1 (by first | assumption | decide+kernel | rfl) rfl (.inl rfl))
  case ct=>exact fi
  case ce=>exact (aa 1 rfl (.inl rfl))
  case cn=>exact (aa 3 rfl (.inr (.inl rfl)))
  case cx=>exact (aa 1 rfl (.inl rfl))
 ·rintro ws G q e ⟨l,ms,rfl,hG,h5,hdp,hq⟩;refine bt λU hU=>?_;walk_at "R";intro d hd;have hG1:=aW (g:=pY P w K []) hG hd;subst hU;refine bt λU hU=>?_;walk_at "R";refine ⟨_,hG1,?_⟩;refine dZ (λws τ G'=>∃(done todo:List (O×Str)) (ps:List (O×Addr)) (t1 t2:Option W),ws=oG todo/\τ=[some (.ref l),some (.ref d),t1,t2]/\done++todo=ms/\zM P w K G d done ps G') ?_ ?_ _ _ _ ⟨[],ms,[],none,none,rfl,rfl,rfl,⟨aL.new hd,hd,ak,Nat.le_refl _,λ_=>Iff.rfl,λ_ h=>(nomatch h),λ_ h=>(nomatch h),λ_ _ h=>(nomatch h),λ_ _ h=>(nomatch h)⟩⟩
  ·rintro τ G' ⟨done,todo,ps,t1,t2,hw,rfl,hms,g⟩;refine ⟨g.le _ _ hG,?_⟩;have hb:todo=[]:=by simpa using hw.symm
   subst hb;rw [List.append_nil] at hms;subst hms;subst hU;walk_at "R";refine ⟨_,g.at_d,by rw [List.length_map];exact Nat.le_trans g.len h5,λp ks hp hD hP=>?_⟩;walk_at "R";refine ⟨_,ak,?_⟩;have hl:ks.length<=5:=by rw [hP.length_eq,List.length_map,List.length_map];exact Nat.le_trans g.len h5
   have hk:∀o,o∈ks↔o∈ps.map (·.1):=λo=>by
    rw [hP.mem_iff,List.map_map];exact Iff.rfl
   refine iA (i:=1) (λo:O=>W.tup (au o)) (λo=> .tup [.tup (au o),.tup ((cr done o).map W.str)]) (τ0:=[none,none,none,some (.ref d)]) ak (λo ho k hkk=>?_) (by show 0+_<=_;omega) (λ_=>rfl) λp2 hp2 _=>?_
   ·obtain ⟨a,h1,h2⟩:=wv ((hk o).mp ho);walk_at "R";exact ⟨_,o,_,rfl,aW g.at_d hp,h1,_,aW (g.ls _ h2) hp,hkk⟩
   ·refine ⟨_,ak,G,g.le.trans ((aL.new hp).trans (aL.new hp2)),?_⟩;have e:([]:List W)++ks.map (λo=> .tup [.tup (au o),.tup ((cr done o).map W.str)])=fc (re done):=by
     rw [←oh hD λo=>(hk o).trans (g.mem o),List.nil_append];simp only [fc,List.map_map]
     rfl
    rw [e];exact hq
  ·rintro w1 ws τ G' kk ⟨done,todo,ps,t1,t2,hw,rfl,hms,g⟩ hk;cases todo with
   | nil=>cases hw
   | cons m todo=>
     cases hw;refine ⟨g.le _ _ hG,?_⟩;walk_at "R";refine ⟨⟨_,g.at_d⟩,λp hp=>?_⟩;have hl:done.length<=5:=by have:=congrArg List.length hms;rw [List.length_append] at this;omega
     have hnl:∀o,(cr done o).length<=5:=λo=>by
      unfold cr;rw [List.length_map];exact Nat.le_trans (List.length_filter_le _ _) hl
     have hm:(done++[m])++todo=ms:=by rw [List.append_assoc];exact hms
     refine ⟨m.1,_,rfl,hdp m (by rw [←hms];simp),aW g.at_d hp,?_,λx hx=>?_,λhn=>?_⟩
     ·rw [List.length_map];have:=g.len;omega
     ·obtain ⟨k,rfl,hkm⟩:=mP hx;have h1:=aW (g:=GO.lst []) (g.ls _ hkm) hp;have h2:=hnl m.1;refine ⟨⟨_,h1⟩,_,h1,by rw [List.length_map];show (cr done m.1).length<=_;omega,hk _ _ ⟨done++[m],todo,ps,_,_,rfl,rfl,hm,g.old hp hkm⟩⟩
     ·have hpd:p≠d:=λz=>by rw [z,g.at_d] at hp;cases hp
      have h1:=(aq (g:=pY P w K (ps.map (λx=>(x.1,W.ref x.2))++[(m.1,.ref p)])) hpd).trans (ak (G:=G') (a:=p) (g:=GO.lst []));exact ⟨⟨_,h1⟩,_,h1,Nat.zero_le _,hk _ _ ⟨done++[m],todo,ps++[(m.1,p)],_,_,rfl,rfl,hm,g.new hp (mQ hn)⟩⟩
inductive Pl where
 | set (b:Str) (n:Int)
 | add (b o:Str)
 | less (b:Str)
noncomputable def Pl.kd:Pl->Nat
 | .set _ _=>0
 | .add _ _=>2
 | .less _=>3
noncomputable def Pl.args:Pl->List W
 | .set b n=>[.str b,.int n]
 | .add b o=>[.str b,.str o]
 | .less b=>[.str b]
noncomputable def Pl.fs:Pl->List (Str×W)
 | .set b n=>[("box",.str b),("amount",.int n)]
 | .add b o=>[("box",.str b),("other",.str o)]
 | .less b=>[("box",.str b)]
noncomputable def oH (C:Cs) (i:Nat):bZ:=λws G q _=>∃(a:Addr) (r:Pl),ws=.ref a::r.args/\r.kd=i/\G a=some (.ins (C.at_ i) [])/\∀G':Gp,G' a=some (.ins (C.at_ i) r.fs)->(∀x,x≠a->G' x=G x)->q .non G'
theorem scN1:aE ["self","box","amount"] ["self","box","amount"] (ag (aX 33 0)):=⟨rfl,rfl,rfl,by decide+kernel,rfl,by decide+kernel,by decide+kernel⟩
theorem Dw {C:Cs} (F:cM K "__init__" "Set.__init__" (aX 33 0) f fd) (hc:dr K C.s) (h1:aC K C.s "box") (h2:aC K C.s "amount"):cB P w K mg base 1 f fd ["self","box","amount"] (oH C 0):=by
 have nd:=scN1.nd;refine eQ F scN1 (λws G q e h=>by
  obtain ⟨_,r,rfl,hk,_⟩:=h;cases r with
  | set b n=>rfl
  | add b o=>cases hk
  | less b=>cases hk) (λcdv A outer s H E hr=>?_)
 apply aO
 ·exact (af (cq (aa 0 rfl (.inl rfl)) (aa 1 rfl (.inl rfl))) (af (cq (aa 0 rfl (.inl rfl)) (aa 2 rfl (.inl rfl))) ap))
 ·rintro ws G q e ⟨a,r,rfl,hk,hG,hq⟩;cases r with
  | set b n=>
    refine bt λU hU=>?_;walk_at "R";refine ⟨a,C.s,[],rfl,hG,⟨hc,h1⟩,by simp,?_⟩;subst hU;walk_at "R";refine ⟨a,C.s,[("box",.str b)],rfl,ak,⟨hc,h2⟩,by simp,?_⟩;exact aL.done (hq _ ak λx hx=>(aq hx).trans (aq hx))
  | add b o=>cases hk
  | less b=>cases hk
theorem scN3:aE ["self","box","other"] ["self","box","other"] (ag (aX 34 0)):=⟨rfl,rfl,rfl,by decide+kernel,rfl,by decide+kernel,by decide+kernel⟩
theorem Dx {C:Cs} (F:cM K "__init__" "Add.__init__" (aX 34 0) f fd) (hc:dr K C.a) (h1:aC K C.a "box") (h2:aC K C.a "other"):cB P w K mg base 1 f fd ["self","box","other"] (oH C 2):=by
 have nd:=scN3.nd;refine eQ F scN3 (λws G q e h=>by
  obtain ⟨_,r,rfl,hk,_⟩:=h;cases r with
  | add b o=>rfl
  | set b n=>cases hk
  | less b=>cases hk) (λcdv A outer s H E hr=>?_)
 apply aO
 ·exact (af (cq (aa 0 rfl (.inl rfl)) (aa 1 rfl (.inl rfl))) (af (cq (aa 0 rfl (.inl rfl)) (aa 2 rfl (.inl rfl))) ap))
 ·rintro ws G q e ⟨a,r,rfl,hk,hG,hq⟩;cases r with
  | add b o=>
    refine bt λU hU=>?_;walk_at "R";refine ⟨a,C.a,[],rfl,hG,⟨hc,h1⟩,by simp,?_⟩;subst hU;walk_at "R";refine ⟨a,C.a,[("box",.str b)],rfl,ak,⟨hc,h2⟩,by simp,?_⟩;exact aL.done (hq _ ak λx hx=>(aq hx).trans (aq hx))
  | set b n=>cases hk
  | less b=>cases hk
theorem scN4:aE ["self","box"] ["self","box"] (ag (aX 35 0)):=⟨rfl,rfl,rfl,by decide+kernel,rfl,by decide+kernel,by decide+kernel⟩
theorem Dy {C:Cs} (F:cM K "__init__" "Less.__init__" (aX 35 0) f fd) (hc:dr K C.l) (h1:aC K C.l "box"):cB P w K mg base 1 f fd ["self","box"] (oH C 3):=by
 have nd:=scN4.nd;refine eQ F scN4 (λws G q e h=>by
  obtain ⟨_,r,rfl,hk,_⟩:=h;cases r with
  | less b=>rfl
  | set b n=>cases hk
  | add b o=>cases hk) (λcdv A outer s H E hr=>?_)
 apply aO
 ·exact (af (cq (aa 0 rfl (.inl rfl)) (aa 1 rfl (.inl rfl))) ap)
 ·rintro ws G q e ⟨a,r,rfl,hk,hG,hq⟩;cases r with
  | less b=>
    walk_at "R";refine ⟨a,C.l,[],rfl,hG,⟨hc,h1⟩,by simp,?_⟩;exact aL.done (hq _ ak λx hx=>aq hx)
  | set b n=>cases hk
  | add b o=>cases hk
noncomputable def Br (C:Cs) (S:Nat->Prop):bZ:=λws G q _=>∃(a:Addr) (b:Str) (pl:Addr) (ps:List (Addr×Row)),ws=[.ref a,.str b,.ref pl]/\G a=some (.ins C.t [])/\G pl=some (.lst (refs ps))/\Rows C G ps/\kj (aN.of (ps.map (·.2)))/\Bn S (aN.of (ps.map (·.2)))/\∀G':Gp,G' a=some (.ins C.t (Da b (ps.map (·.1)) (aN.of (ps.map (·.2)))))->(∀x,x≠a->G' x=G x)->q .non G'
theorem scNt:aE ["self","box","rows"] ["self","box","rows"] (ag (aX 36 0)):=⟨rfl,rfl,rfl,by decide+kernel,rfl,by decide+kernel,by decide+kernel⟩
theorem Dz {C:Cs} {S:Nat->Prop} (F:cM K "__init__" "Times.__init__" (aX 36 0) f fd) (F1:Fx P w K mg base "weight_of" ["things"] 7 (zI C S)) (F2:Fx P w K mg base "whole" ["n"] 3 lc) (F3:Fx P w K mg base "plus" ["a","b"] 3 kZ) (mt:mg "tuple"=none) (hc:dr K C.t) (h1:aC K C.t "box") (h2:aC K C.t "rows") (h3:aC K C.t "of_round"):cB P w K mg base 8 f fd ["self","box","rows"] (Br C S):=by
 have nd:=scNt.nd;refine eQ F scNt (λws G q e h=>by obtain ⟨_,_,_,_,rfl,_⟩:=h;rfl) (λcdv A outer s H E hr=>?_);apply aO
 ·exact (af (cq (aa 0 rfl (.inl rfl)) (aa 1 rfl (.inl rfl))) (af (cq (aa 0 rfl (.inl rfl)) (bN fg rfl mt fj (ae (aa 2 rfl (.inl rfl)) am))) (af (cq (aa 0 rfl (.inl rfl)) (aD F3 (ay.mono hr (by omega)) rfl (ae (aD F1 (ay.mono hr (by omega)) rfl (ae (bp (aa 0 rfl (.inl rfl))) am)) (ae (aD F2 (ay.mono hr (by omega)) rfl (ae ao am)) am)))) ap)))
 ·rintro ws G q e ⟨a,b,pl,ps,rfl,hG,hpl,hR,hz,hkd,hq⟩;have la:pl≠a:=λz=>by rw [z,hG] at hpl;cases hpl
  have hll:=kl (aN.of (ps.map (·.2)));rw [aN.L_of,List.length_map] at hll;have hzb:=hz.hb;refine bt λU hU=>?_;walk_at "R";refine ⟨a,C.t,[],rfl,hG,⟨hc,h1⟩,by simp,?_⟩;subst hU;refine bt λU hU=>?_;walk_at "R";refine ⟨_,(aq la).trans hpl,a,C.t,[("box",.str b)],rfl,ak,⟨hc,h2⟩,by simp,?_⟩;have em:(ps.map (·.1)).map W.ref=refs ps:=by rw [List.map_map];rfl
  subst hU;walk_at "R";rw [if_neg (by decide)];refine ⟨a,C.t,[("box",.str b),("rows",.tup (refs ps))],.tup (refs ps),rfl,ak,⟨hc,h2⟩,rfl,?_⟩;have li:bW G (aG (aG G a (GO.ins C.t [("box",W.str b)])) a (GO.ins C.t [("box",W.str b),("rows",W.tup (refs ps))])):=bW.but (p:=a) (λx g xa e=>(aq xa).trans ((aq xa).trans e)) (λC' y fs e=>by rw [hG] at e;cases e);have hw0:=aN.wq _ hz.nn;have e1:=Wb.wh (n:=1) (by decide);have l1:=hw0.ln;have l2:=dS (aN.of (ps.map (·.2)));refine ⟨ps.map (·.1),aN.of (ps.map (·.2)),by rw [em],(hR.mono li).ats,hz,hkd,1,rfl,by decide,(aN.of (ps.map (·.2))).wt,O.wh 1,rfl,hw0.nf,Nat.le_trans hw0.dp (by decide),Nat.le_trans e1.dp (by decide),by omega,Nat.le_trans e1.ln (by decide),a,C.t,[("box",.str b),("rows",.tup (refs ps))],rfl,ak,⟨hc,h3⟩,by simp,aL.done (hq _ ?_ λx hx=>(aq hx).trans ((aq hx).trans (aq hx)))⟩;rw [ak,←em]
  rfl
noncomputable def Bs (C:Cs) (S:Nat->Prop):bZ:=λws G q _=>∃(a:Addr) (b:Str) (ml pl:Addr) (ms:List (O×Str)) (ps:List (Addr×Row)),ws=[.ref a,.str b,.ref ml,.ref pl]/\G a=some (.ins C.w [])/\G ml=some (.lst (oG ms))/\ms.length<=5/\(∀m,m∈ms->m.1.dp<=3)/\G pl=some (.lst (refs ps))/\Rows C G ps/\kj (aN.of (ps.map (·.2)))/\Bn S (aN.of (ps.map (·.2)))/\∀G':Gp,G' a=some (.ins C.w (Bk b (re ms) (ps.map (·.1)) (aN.of (ps.map (·.2)))))->(∀x,x≠a->G' x=G x)->q .non G'
theorem scIw:aE ["self","box","marks","rows"] ["self","box","marks","rows"] (ag (aX 38 0)):=⟨rfl,rfl,rfl,by decide+kernel,rfl,by decide+kernel,by decide+kernel⟩
theorem DA {C:Cs} {S:Nat->Prop} (F:cM K "__init__" "While.__init__" (aX 38 0) f fd) (F0:Fx P w K mg base "by_exponent" ["marks"] 6 Bq) (F1:Fx P w K mg base "weight_of" ["things"] 7 (zI C S)) (F2:Fx P w K mg base "whole" ["n"] 3 lc) (F3:Fx P w K mg base "plus" ["a","b"] 3 kZ) (mt:mg "tuple"=none) (hc:dr K C.w) (h1:aC K C.w "box") (h0:aC K C.w "heights") (h2:aC K C.w "rows") (h3:aC K C.w "of_round"):cB P w K mg base 8 f fd ["self","box","marks","rows"] (Bs C S):=by
 have nd:=scIw.nd;refine eQ F scIw (λws G q e h=>by obtain ⟨_,_,_,_,_,_,rfl,_⟩:=h;rfl) (λcdv A outer s H E hr=>?_);apply aO
 ·exact (af (cq (aa 0 rfl (.inl rfl)) (aa 1 rfl (.inl rfl))) (af (cq (aa 0 rfl (.inl rfl)) (aD F0 (ay.mono hr (by omega)) rfl (ae (aa 2 rfl (.inl rfl)) am))) (af (cq (aa 0 rfl (.inl rfl)) (bN fg rfl mt fj (ae (aa 3 rfl (.inl rfl)) am))) (af (cq (aa 0 rfl (.inl rfl)) (aD F3 (ay.mono hr (by omega)) rfl (ae (aD F1 (ay.mono hr (by omega)) rfl (ae (bp (aa 0 rfl (.inl rfl))) am)) (ae (aD F2 (ay.mono hr (by omega)) rfl (ae ao am)) am)))) ap))))
 ·rintro ws G q e ⟨a,b,ml,pl,ms,ps,rfl,hG,hml,hm5,hmd,hpl,hR,hz,hkd,hq⟩;have la:pl≠a:=λz=>by rw [z,hG] at hpl;cases hpl
  have lm:ml≠a:=λz=>by rw [z,hG] at hml;cases hml
  have hll:=kl (aN.of (ps.map (·.2)));rw [aN.L_of,List.length_map] at hll;have hzb:=hz.hb;refine bt λU hU=>?_;walk_at "R";refine ⟨a,C.w,[],rfl,hG,⟨hc,h1⟩,by simp,?_⟩;subst hU;refine bt λU hU=>?_;walk_at "R";refine ⟨ml,ms,rfl,(aq lm).trans hml,hm5,hmd,a,C.w,[("box",.str b)],rfl,ak,⟨hc,h0⟩,by simp,?_⟩;subst hU;refine bt λU hU=>?_;walk_at "R";refine ⟨_,(aq la).trans ((aq la).trans hpl),a,C.w,[("box",.str b),("heights",.tup (fc (re ms)))],rfl,ak,⟨hc,h2⟩,by simp,?_⟩;have em:(ps.map (·.1)).map W.ref=refs ps:=by rw [List.map_map];rfl
  subst hU;walk_at "R"
  repeat rw [if_neg (by decide)]
  have li:bW G (aG (aG (aG G a (GO.ins C.w [("box",W.str b)])) a (GO.ins C.w [("box",W.str b),("heights",W.tup (fc (re ms)))])) a (GO.ins C.w [("box",W.str b),("heights",W.tup (fc (re ms))),("rows",W.tup (refs ps))])):=bW.but (p:=a) (λx g xa e=>(aq xa).trans ((aq xa).trans ((aq xa).trans e))) (λC' y fs e=>by rw [hG] at e;cases e);have hw0:=aN.wq _ hz.nn;have e1:=Wb.wh (n:=2) (by decide);have l1:=hw0.ln;have l2:=dS (aN.of (ps.map (·.2)));refine ⟨a,C.w,[("box",.str b),("heights",.tup (fc (re ms))),("rows",.tup (refs ps))],.tup (refs ps),rfl,ak,⟨hc,h2⟩,rfl,ps.map (·.1),aN.of (ps.map (·.2)),by rw [em],(hR.mono li).ats,hz,hkd,2,rfl,by decide,(aN.of (ps.map (·.2))).wt,O.wh 2,rfl,hw0.nf,Nat.le_trans hw0.dp (by decide),Nat.le_trans e1.dp (by decide),by (clear F F0 F1 F2 F3 mt hc h1 h0 h2 h3 nd hr hG hml hm5 hmd hpl hR hz hkd hq la lm hll em li hw0 e1;omega),Nat.le_trans e1.ln (by decide),a,C.w,[("box",.str b),("heights",.tup (fc (re ms))),("rows",.tup (refs ps))],rfl,ak,⟨hc,h3⟩,by simp,aL.done (hq _ ?_ λx hx=>(aq hx).trans ((aq hx).trans ((aq hx).trans (aq hx))))⟩;rw [ak,←em]
  rfl
noncomputable def Bd (s:Nat) (rs:aN Str):Prop:=rs.hb<=200/\rs.mb<=10^100/\rs.lb<=s
structure Mk (s:Nat) (hs:List (O×List Str)):Prop where
 e:sW 3 hs
 k:BM hs
 l:hs.length<=s
 h:O.hw (hpw hs)<=200
 m:O.mx (hpw hs)<=10^100
 x:∀p,p∈hs->O.mx p.1<=10^100
mutual
noncomputable def gr (cp:Prop) (s:Nat) (B:Int):Row->Prop
 | .set _ n=>0<=n/\n<=B
 | .copy _ _=>cp
 | .times _ rs=>uo cp s B rs/\Bd s rs
 | .count rs n=>(uo cp s B rs/\Bd s rs)/\0<=n/\n<=B
 | .whl _ hs rs=>(uo cp s B rs/\Bd s rs)/\Mk s hs
 | .bear _ hs rs o=>(uo cp s B rs/\Bd s rs)/\Mk s hs/\o.NF/\o.dp<=4/\O.hw o<=100/\O.mx o<=10^100+100*B/\o.len<=s
 | _=>True
noncomputable def uo (cp:Prop) (s:Nat) (B:Int):aN Str->Prop
 | .nil=>True
 | .cons r rs=>gr cp s B r/\uo cp s B rs
end
section
variable {cp:Prop} {s:Nat}
mutual
theorem uq {B B':Int} (h:B<=B'):∀r:Row,gr cp s B r->gr cp s B' r
 | .set _ n,x=>⟨x.1,Int.le_trans x.2 h⟩
 | .copy _ _,x=>x
 | .add _ _,_=>trivial
 | .less _,_=>trivial
 | .times _ rs,x=>⟨jp h rs x.1,x.2⟩
 | .count rs n,x=>⟨⟨jp h rs x.1.1,x.1.2⟩,x.2.1,Int.le_trans x.2.2 h⟩
 | .whl _ _ rs,x=>⟨⟨jp h rs x.1.1,x.1.2⟩,x.2⟩
 | .bear _ _ rs o,x=>⟨⟨jp h rs x.1.1,x.1.2⟩,x.2.1,x.2.2.1,x.2.2.2.1,x.2.2.2.2.1,by have:=x.2.2.2.2.2.1;omega,x.2.2.2.2.2.2⟩
theorem jp {B B':Int} (h:B<=B'):∀rs:aN Str,uo cp s B rs->uo cp s B' rs
 | .nil,_=>trivial
 | .cons r rs,x=>⟨uq h r x.1,jp h rs x.2⟩
end
mutual
theorem p7 {B:Int}:∀r:Row,gr cp s B r->r.nn/\r.od
 | .set _ n,_=>⟨trivial,trivial⟩
 | .copy _ _,_=>⟨trivial,trivial⟩
 | .add _ _,_=>⟨trivial,trivial⟩
 | .less _,_=>⟨trivial,trivial⟩
 | .times _ rs,x=>dU rs x.1
 | .count rs n,x=>⟨⟨(dU rs x.1.1).1,x.2.1⟩,(dU rs x.1.1).2⟩
 | .whl _ hs rs,x=>⟨⟨(dU rs x.1.1).1,x.2.e⟩,x.2.k,(dU rs x.1.1).2⟩
 | .bear _ hs rs o,x=>⟨⟨(dU rs x.1.1).1,x.2.1.e,x.2.2.1,x.2.2.2.1⟩,x.2.1.k,(dU rs x.1.1).2⟩
theorem dU {B:Int}:∀rs:aN Str,uo cp s B rs->rs.nn/\rs.od
 | .nil,_=>⟨trivial,trivial⟩
 | .cons r rs,x=>⟨⟨(p7 r x.1).1,(dU rs x.2).1⟩,(p7 r x.1).2,(dU rs x.2).2⟩
end
theorem iD {B:Int}:∀{rs:aN Str},uo cp s B rs->∀r,r∈rs.L->gr cp s B r
 | .nil,_,r,h=>(nomatch h)
 | .cons r0 rs,x,r,h=>by
   rcases List.mem_cons.mp h with rfl | h
   ·exact x.1
   ·exact iD x.2 r h
theorem lh:((10^100+3)*(101*10^100+1)+1:Int)<=10^300:=by decide+kernel
theorem iE {a b c d:Nat} (h1:a<=c) (h2:b<=d):((a*b+1:Nat):Int)<=(c:Int)*d+1:=by
 have:=Nat.mul_le_mul h1 h2;rw [←Int.natCast_mul];omega
theorem lj:((1:Nat):Int)<=10^300:=by decide+kernel
theorem ur {B:Int} (hB:B<=10^100) (r:Row) (x:gr cp s B r):Sz r:=by
 have hn:=(p7 r x).1;cases r with
 | set _ n=>exact ⟨hn,by show 1<=500;decide,lj⟩
 | copy _ _=>exact ⟨hn,by show 1<=500;decide,lj⟩
 | add _ _=>exact ⟨hn,by show 1<=500;decide,lj⟩
 | less _=>exact ⟨hn,by show 1<=500;decide,lj⟩
 | times _ rs=>
   obtain ⟨h1,h2,h3⟩:=x.2;refine ⟨hn,by show rs.hb+2<=500;omega,?_⟩;have:=iE (a:=rs.mb+2) (b:=2) (c:=10^100+3) (d:=101*10^100+1) (by omega) (by omega);refine Int.le_trans ?_ (Int.le_trans this lh);show (((rs.mb+2)*2:Nat):Int)<=_;omega
 | count rs n=>
   obtain ⟨h1,h2,h3⟩:=x.1.2;have n1:=x.2.2;have n0:=x.2.1;refine ⟨hn,by show rs.hb+3<=500;omega,?_⟩;exact Int.le_trans (iE (a:=rs.mb+2) (b:=n.toNat+1) (c:=10^100+3) (d:=101*10^100+1) (by omega) (by omega)) lh
 | whl _ hs rs=>
   obtain ⟨h1,h2,h3⟩:=x.1.2;have m1:=x.2.h;have m2:=x.2.m;refine ⟨hn,by show rs.hb+O.hw (hpw hs)+2<=500;omega,?_⟩;exact Int.le_trans (iE (a:=rs.mb+3) (b:=(O.mx (hpw hs)).toNat+1) (c:=10^100+3) (d:=101*10^100+1) (by omega) (by omega)) lh
 | bear _ hs rs o=>
   obtain ⟨h1,h2,h3⟩:=x.1.2;obtain ⟨_,_,_,m1,m2,_⟩:=x.2;refine ⟨hn,by show rs.hb+O.hw o+2<=500;omega,?_⟩;exact Int.le_trans (iE (a:=rs.mb+3) (b:=(O.mx o).toNat+1) (c:=10^100+3) (d:=101*10^100+1) (by omega) (by omega)) lh
noncomputable abbrev Sk (cp:Prop) (i:Nat):Prop:=i<8/\(i=1->cp)
theorem Bt:∀r:Row,kd r<8
 | .set _ _=>by show 0<8;decide
 | .copy _ _=>by show 1<8;decide
 | .add _ _=>by show 2<8;decide
 | .less _=>by show 3<8;decide
 | .times _ _=>by show 4<8;decide
 | .whl _ _ _=>by show 5<8;decide
 | .count _ _=>by show 6<8;decide
 | .bear _ _ _ _=>by show 7<8;decide
theorem p9 {B:Int} {r:Row} (x:gr cp s B r):Sk cp (kd r):=by
 refine ⟨Bt r,λh=>?_⟩;cases r with
 | copy _ _=>exact x
 | _=>cases h
theorem lp:∀rs:aN Str,(rs.L.map Rq.lb).sum=rs.lb
 | .nil=>rfl
 | .cons r rs=>by
   show r.lb+(rs.L.map Rq.lb).sum=rs.lb+r.lb;rw [lp rs];omega
theorem ut:∀r:Row,1<=r.lb
 | .set _ _=>Nat.le_refl _
 | .copy _ _=>Nat.le_refl _
 | .add _ _=>Nat.le_refl _
 | .less _=>Nat.le_refl _
 | .times _ _=>Nat.le_refl _
 | .count rs _=>by show 1<=rs.lb+2;omega
 | .whl _ [] rs=>by show 1<=rs.lb+2;omega
 | .whl _ (_::_) rs=>by show 1<=2;omega
 | .bear _ _ rs o=>by show 1<=rs.lb+1+o.len+1;omega
theorem zN:∀rs:aN Str,rs.L.length<=rs.lb
 | .nil=>Nat.le_refl _
 | .cons r rs=>by have:=zN rs;have:=ut r;show rs.L.length+1<=rs.lb+r.lb;omega
theorem qc {B:Int} {kvs:List (aF×W)} (hB:0<=B) (hk:cY B kvs) {b:Str} {hs:List (O×List Str)} {rs:aN Str} (h:(uo cp s B rs/\Bd s rs)/\Mk s hs):gr cp s B (.bear b hs rs (bB (av kvs) hs)):=by
 have hg:∀x,0<=av kvs x/\av kvs x<=B:=λx=>hk.get hB x;obtain ⟨m1,m2,m3⟩:=jZ (g:=av kvs) (n:=100) (M:=10^100) hg (by decide) h.2.e (λp hp=>⟨h.2.k.nm p hp,h.2.x p hp⟩);have hl:=gd (av kvs) hs;have h1:=h.2.l;have h2:=h.2.k.ln;exact ⟨h.1,h.2,pJ (λx=>(hg x).1) h.2.e h.2.k.ds,m1,by omega,by omega,by omega⟩
theorem ww {B:Int} {kvs:List (aF×W)} (hB:0<=B) (hk:cY B kvs) {r:Row} (h:gr cp s B r):∀x,x∈et kvs r->gr cp s B x:=λx hx=>by
 cases r with
 | times b rs=>
   rw [List.mem_singleton.mp hx];have:=hk.get hB b;exact ⟨h,this.1,this.2⟩
 | count rs n=>
   have hx:x∈(if n=0 then [] else rs.L++[Rq.count rs (n-1)]):=hx
   by_cases h0:n=0
   ·rw [if_pos h0] at hx;cases hx
   ·rw [if_neg h0] at hx;have n0:=h.2.1;have n1:=h.2.2;rcases List.mem_append.mp hx with hx | hx
    ·exact iD h.1.1 x hx
    ·rw [List.mem_singleton.mp hx];exact ⟨h.1,by omega,by omega⟩
 | whl b hs rs=>
   have hx:x∈(if av kvs b=0 then [] else rs.L++[Rq.bear b hs rs (bB (av kvs) hs)]):=hx
   by_cases h0:av kvs b=0
   ·rw [if_pos h0] at hx;cases hx
   ·rw [if_neg h0] at hx;rcases List.mem_append.mp hx with hx | hx
    ·exact iD h.1.1 x hx
    ·rw [List.mem_singleton.mp hx];exact qc hB hk h
 | bear b hs rs o=>
   have hx:x∈(if av kvs b=0 then [] else rs.L++[Rq.bear b hs rs (bB (av kvs) hs)]):=hx
   by_cases h0:av kvs b=0
   ·rw [if_pos h0] at hx;cases hx
   ·rw [if_neg h0] at hx;rcases List.mem_append.mp hx with hx | hx
    ·exact iD h.1.1 x hx
    ·rw [List.mem_singleton.mp hx];exact qc hB hk ⟨h.1,h.2.1⟩
 | set b n=>cases hx
 | copy b o=>cases hx
 | add b o=>cases hx
 | less b=>cases hx
theorem qd {kvs:List (aF×W)} {b:Str} {hs:List (O×List Str)} {rs:aN Str} (h1:Bd s rs) (h2:Mk s hs):((if av kvs b=0 then [] else rs.L++[Rq.bear b hs rs (bB (av kvs) hs)]).map Rq.lb).sum<=3*s+2/\(if av kvs b=0 then [] else rs.L++[Rq.bear b hs rs (bB (av kvs) hs)]).length<=s+1:=by
 by_cases h0:av kvs b=0
 ·rw [if_pos h0];exact ⟨Nat.zero_le _,Nat.zero_le _⟩
 ·rw [if_neg h0,List.map_append,List.sum_append,lp,List.length_append];have a1:=h1.2.2;have a2:=h2.l;have a3:=gd (av kvs) hs;have a4:=zN rs;show rs.lb+(rs.lb+1+(bB (av kvs) hs).len+1+0)<=_/\rs.L.length+1<=_;omega
theorem wz {B:Int} {kvs:List (aF×W)} {r:Row} (h:gr cp s B r):((et kvs r).map Rq.lb).sum<=3*s+2/\(et kvs r).length<=s+1:=by
 cases r with
 | times b rs=>
   have:=h.2.2.2;show (rs.lb+2+0:Nat)<=_/\1<=_;omega
 | count rs n=>
   show ((if n=0 then [] else rs.L++[Rq.count rs (n-1)]).map Rq.lb).sum<=_/\(if n=0 then [] else rs.L++[Rq.count rs (n-1)]).length<=_
   by_cases h0:n=0
   ·rw [if_pos h0];exact ⟨Nat.zero_le _,Nat.zero_le _⟩
   ·rw [if_neg h0,List.map_append,List.sum_append,lp,List.length_append];have h1:=h.1.2.2.2;have h2:=zN rs;show rs.lb+(rs.lb+2+0)<=_/\rs.L.length+1<=_;omega
 | whl b hs rs=>exact qd h.1.2 h.2
 | bear b hs rs o=>exact qd h.1.2 h.2.1
 | set b n=>exact ⟨Nat.zero_le _,Nat.zero_le _⟩
 | copy b o=>exact ⟨Nat.zero_le _,Nat.zero_le _⟩
 | add b o=>exact ⟨Nat.zero_le _,Nat.zero_le _⟩
 | less b=>exact ⟨Nat.zero_le _,Nat.zero_le _⟩
theorem uu {B:Int} {kvs:List (aF×W)} (hB:0<=B) (hk:cY B kvs) {r:Row} (h:gr cp s B r):cY (2*B) (bY kvs r):=by
 have hk2:cY (2*B) kvs:=hk.le (by omega);cases r with
 | set b n=>exact hk2.put _ h.1 (by have:=h.2;omega)
 | copy b o=>have:=hk.get hB o;exact hk2.put _ this.1 (by omega)
 | add b o=>have:=hk.get hB o;have:=hk.get hB b;exact hk2.put _ (by omega) (by omega)
 | less b=>
   have:=hk.get hB b;refine hk2.put _ ?_ ?_
   ·split<;> omega
   ·split<;> omega
 | times b rs=>exact hk2
 | count rs n=>exact hk2
 | whl b hs rs=>exact hk2
 | bear b hs rs o=>exact hk2
theorem qW (kvs:List (aF×W)) (r:Row):(bY kvs r).length<=kvs.length+1:=by
 cases r with
 | set b n=>exact cj ..
 | copy b n=>exact cj ..
 | add b n=>exact cj ..
 | less b=>exact cj ..
 | times b rs=>exact Nat.le_succ _
 | count rs n=>exact Nat.le_succ _
 | whl b hs rs=>exact Nat.le_succ _
 | bear b hs rs o=>exact Nat.le_succ _
end
noncomputable def dQ:List Row×List (aF×W)->List Row×List (aF×W)
 | ([],kvs)=>([],kvs)
 | (r::st,kvs)=>(et kvs r++st,bY kvs r)
noncomputable def bu (s:List Row×List (aF×W)):Nat->List Row×List (aF×W)
 | 0=>s
 | n+1=>dQ (bu s n)
noncomputable def gY:List Row×List (aF×W)->Prop
 | ([],_)=>False
 | (r::_,kvs)=>cA kvs r
structure qX (cp:Prop) (m l0:Nat) (B:Int) (i:Nat) (s:List Row×List (aF×W)):Prop where
 g:∀r,r∈s.1->gr cp m (B*2^i) r
 b:cY (B*2^i) s.2
 l:(s.1.map Rq.lb).sum<=l0+(3*m+2)*i
 k:s.2.length<=100+i
theorem qX.next {cp:Prop} {m l0:Nat} {B:Int} (hB:0<=B) {i:Nat} {s:List Row×List (aF×W)} (h:qX cp m l0 B i s):qX cp m l0 B (i+1) (dQ s):=by
 have hp:(0:Int)<=B*2^i:=Int.mul_nonneg hB (Int.le_of_lt (Int.pow_pos (by decide)));have e:B*2^ (i+1)=2*(B*2^i):=by rw [Int.pow_succ];rw [←Int.mul_assoc,Int.mul_comm]
 obtain ⟨st,kvs⟩:=s;cases st with
 | nil=>
   refine ⟨λr hr=>(nomatch hr),?_,Nat.zero_le _,by have h3:kvs.length<=100+i:=h.k;show kvs.length<=_;omega⟩;show cY _ kvs;rw [e];exact h.b.le (by omega)
 | cons r st=>
   have hg:=h.g r List.mem_cons_self;have hl:=wz (kvs:=kvs) hg;have h1:=h.l;have h3:=h.k;simp only [List.map_cons,List.sum_cons] at h1;refine ⟨λx hx=>?_,?_,?_,?_⟩
   ·rcases List.mem_append.mp hx with hx | hx
    ·exact uq (by rw [e];omega) _ (ww hp h.b hg x hx)
    ·exact uq (by rw [e];omega) _ (h.g x (List.mem_cons_of_mem _ hx))
   ·rw [e];exact uu hp h.b hg
   ·show ((et kvs r++st).map Rq.lb).sum<=_;rw [List.map_append,List.sum_append,Nat.mul_add];omega
   ·have:=qW kvs r;show (bY kvs r).length<=_;have h3:kvs.length<=100+i:=h3;omega
theorem qX.run {cp:Prop} {m l0:Nat} {B:Int} (hB:0<=B) {s:List Row×List (aF×W)} (h:qX cp m l0 B 0 s):∀n,qX cp m l0 B n (bu s n)
 | 0=>h
 | n+1=>(qX.run hB h n).next hB
theorem uv:∀rs:List Row,(∀r,r∈rs->r.nn)->(dJ rs).NF/\(dJ rs).dp<=4/\(dJ rs).len<=(rs.map Rq.lb).sum
 | [],_=>⟨trivial,Nat.zero_le _,Nat.le_refl _⟩
 | r::rs,h=>by
   obtain ⟨h1,h2,h3⟩:=uv rs λx hx=>h x (List.mem_cons_of_mem _ hx);have x:=r.wq (h r List.mem_cons_self);refine ⟨h1.plus x.nf,Nat.le_trans (O.dp_plus _ _) (Nat.max_le.mpr ⟨h2,x.dp⟩),?_⟩;have:=iZ (dJ rs) r.wt;have:=x.ln;show (O.plusO (dJ rs) r.wt).len<=r.lb+(rs.map Rq.lb).sum;omega
theorem uw:∀rs:List Row,rs.length<=(rs.map Rq.lb).sum
 | []=>Nat.le_refl _
 | r::rs=>by have:=uw rs;have:=ut r;simp only [List.map_cons,List.sum_cons,List.length_cons];omega
noncomputable abbrev cG (st:List (Addr×Row)):List Row:=st.map (·.2)
noncomputable def cF:List (Addr×Row)->List W
 | []=>[]
 | p::st=>cF st++[.tup [.ref p.1,.tup (au (dJ (cG (p::st))))]]
theorem zO (xs:List W) (x:W):gE (xs++[x]) (-1)=some x:=mf (by simp)
theorem mR:∀st:List (Addr×Row),(cF st).length=st.length
 | []=>rfl
 | a::as=>by rw [cF,List.length_append,mR as];rfl
noncomputable def zP:bZ:=λws G q _=>∃(l:Addr) (st:List (Addr×Row)),ws=[.ref l]/\G l=some (.lst (cF st))/\q (.tup (au (dJ (cG st)))) G
theorem scWf:aE ["left"] ["left"] (ag (aU 44)):=⟨rfl,rfl,rfl,by decide+kernel,rfl,by decide+kernel,by decide+kernel⟩
theorem DB (F:cM K "weight_left" "weight_left" (aU 44) f fd):cB P w K mg base 1 f fd ["left"] zP:=by
 have nd:=scWf.nd;refine eQ F scWf (λws G q e h=>by obtain ⟨_,_,rfl,_⟩:=h;rfl) (λcdv A outer s H E hr=>?_);apply aO
 ·exact (af (aK (iR (bo (pW hr) (aa 0 rfl (.inl rfl)) (cm am) (aY _)) (bM bS (bM bS (aa 0 rfl (.inl rfl)) (iV ao) (λ_ _=>rfl)) ao (λ_ _=>rfl)) (bv am))) ap)
 ·rintro ws G q e ⟨l,as,rfl,hG,hq⟩;walk_at "R";intro p hp;refine ⟨_,.nil (aW hG hp) ak,?_⟩;cases as with
  | nil=>
    rw [show (cF []).isEmpty=true from rfl,if_neg (by decide)];exact ⟨_,aL.new hp,hq⟩
  | cons a as=>
    rw [show (cF (a::as)).isEmpty=false by simp [cF],if_pos (by decide)];refine ⟨_,_,aW hG hp,zO _ _,?_⟩;walk_at "R";exact ⟨_,aL.new hp,hq⟩
structure jF (cp:Prop) (st:List (Addr×Row)):Prop where
 z:∀p,p∈st->Sz p.2
 kd:∀p,p∈st->Sk cp (kd p.2)
 l:((cG st).map Rq.lb).sum<=900
 n:st.length<=1000
theorem jF.right {cp:Prop} {st us:List (Addr×Row)} (h:jF cp (st++us)):jF cp us:=by
 have h1:=h.l;have h2:=h.n;simp only [cG,List.map_append,List.sum_append,List.length_append] at h1 h2;exact ⟨λp hp=>h.z p (List.mem_append_right _ hp),λp hp=>h.kd p (List.mem_append_right _ hp),by show ((us.map (·.2)).map Rq.lb).sum<=900;omega,by omega⟩
theorem jF.sum {cp:Prop} {st:List (Addr×Row)} (h:jF cp st):(dJ (cG st)).NF/\(dJ (cG st)).dp<=4/\(dJ (cG st)).len<=900:=by
 obtain ⟨h1,h2,h3⟩:=uv (cG st) λr hr=>by
  obtain ⟨p,hp,rfl⟩:=List.mem_map.mp hr;exact (h.z p hp).nn
 exact ⟨h1,h2,Nat.le_trans h3 h.l⟩
noncomputable def xE (C:Cs) (cp:Prop):bZ:=λws G q _=>∃(l t:Addr) (ps st:List (Addr×Row)),ws=[.ref l,.ref t]/\t≠l/\G l=some (.lst (cF st))/\G t=some (.lst (refs ps))/\Rows C G ps/\jF cp (ps++st)/\∀G':Gp,G' l=some (.lst (cF (ps++st)))->(∀x,x≠l->G' x=G x)->q .non G'
theorem scPa2:aE ["left","things","thing"] ["left","things"] (ag (aU 43)):=⟨rfl,rfl,rfl,by decide+kernel,rfl,by decide+kernel,by decide+kernel⟩
theorem Bu {C:Cs} {cp:Prop} (F:cM K "put_ahead" "put_ahead" (aU 43) f fd) (F1:Fx P w K mg base "weight_left" ["left"] 1 zP) (F2:Fx P w K mg base "plus" ["a","b"] 3 kZ) (M:∀i,Sk cp i->Mt P w K mg base (C.at_ i) "weigh" ["self"] 6 (jE C i) []) (mr:mg "reversed"=none):cB P w K mg base 7 f fd ["left","things"] (xE C cp):=by
 have nd:=scPa2.nd;refine eQ F scPa2 (λws G q e h=>by obtain ⟨_,_,_,_,rfl,_⟩:=h;rfl) (λcdv A outer s H E hr=>?_);apply aO
 ·refine' cH (kF PassesOwn.never rfl (vC rfl mr ?it) ?tg (cH (cS (eX ?ob (bv (ae ?va (ae (aD F2 (ay.mono hr (by omega)) rfl (ae ?wl (ae (kQ (S:=Sk cp) (t:=λi=>jS (C.at_ i) "weigh" (jE C i) [] (jx 2) iS) λi hi=>lU ?me (M i hi) (ay.mono hr (by omega))) am))) am)))))))
  case it=>exact (ae (aa 1 rfl (.inl rfl)) am)
  case tg=>exact (eE 2 nd rfl (.inl rfl))
  case ob=>exact (aa 0 rfl (.inl rfl))
  case va=>exact (aa 2 rfl (.inl rfl))
  case wl=>exact (aD F1 (ay.mono hr (by omega)) rfl (ae (aa 0 rfl (.inl rfl)) am))
  case me=>exact (aa 2 rfl (.inl rfl))
 ·rintro ws G q e ⟨l,t,as,us,rfl,tl,hl,ht,ha,hn,hq⟩;walk_at "R";refine ⟨_,ht,dZ (λws τ G'=>∃(todo dn:List (Addr×Row)) (t2:Option W),ws=(refs todo).reverse/\as=todo++dn/\G' l=some (.lst (cF (dn++us)))/\(∀x,x≠l->G' x=G x)/\τ=[some (.ref l),some (.ref t),t2]) ?_ ?_ _ _ _ ⟨as,[],none,rfl,(List.append_nil _).symm,hl,λ_ _=>rfl,rfl⟩⟩
  ·rintro τ G' ⟨todo,dn,t2,hw,rfl,hl',hk,rfl⟩;have h0:todo=[]:=by simpa using hw.symm
   subst h0;refine ⟨(hk t tl).trans ht,?_⟩;exact aL.done (hq G' hl' hk)
  ·rintro w1 ws τ G' k ⟨todo,dn,t2,hw,rfl,hl',hk,rfl⟩ hkk;rcases List.eq_nil_or_concat todo with rfl | ⟨todo',a,rfl⟩
   ·cases hw
   rw [List.concat_eq_append] at hw ha hn ht;rw [List.concat_eq_append];rw [refs,List.map_append,List.reverse_append] at hw;cases hw;refine ⟨(hk t tl).trans ht,?_⟩;have hr0:=ha a (by simp);have lI:bW G G':=bW.but (p:=l) (λx g xl e=>(hk x xl).trans e) (λC' y fs e=>by rw [hl] at e;cases e);have hr1:=hr0.mono lI;obtain ⟨fs,f1,f2,_⟩:=hr1.isIns;have hz:Sz a.2:=hn.z a (by simp);have hst:jF cp (dn++us):=by
    have:(todo'++[a]++dn)++us=(todo'++[a])++(dn++us):=by simp
    rw [this] at hn;exact hn.right
   obtain ⟨s1,s2,s3⟩:=hst.sum;have x:=a.2.wq hz.nn;have x1:=x.ln;have x2:=xD a.2;have x3:=hz.hb;have hnl:=hn.n;simp only [List.length_append,List.length_cons,List.length_nil] at hnl;walk_at "R";refine ⟨⟨_,hl'⟩,l,dn++us,rfl,hl',kd a.2,hn.kd a (by simp),a.1,fs,rfl,f1,f2,a.1,a.2,rfl,hr1,rfl,hz,dJ (cG (dn++us)),a.2.wt,rfl,s1,by omega,Nat.le_trans x.dp (by decide),by omega,by omega,_,hl',?_,?_⟩
   ·rw [mR,List.length_append]
    (clear F F1 F2 M mr nd hr tl hl hl' hk ht ha hn hq hkk hr0 lI hr1 f1 f2 hz hst s1 s2 s3 x x1 x2 x3;omega)
   ·refine hkk _ _ ⟨todo',a::dn,_,rfl,by simp,ak,λx hx=>(aq hx).trans (hk x hx),rfl⟩
theorem DC {α:Type} (l:List α) (i j:Nat) (a b x y:α):(((l.set i a).set j b).set i x).set j y=(l.set i x).set j y:=by
 by_cases e:i=j
 ·subst e;rw [List.set_set,List.set_set,List.set_set,List.set_set]
 ·rw [List.set_comm _ _ (λz=>e z),List.set_set,List.set_comm _ _ (λz=>e z),List.set_set]
  first | rfl | rw [List.set_comm _ _ (λz=>e z)]
noncomputable def Bv:W->Bool
 | .int n=>decide (0<n)
 | _=>false
noncomputable def wA (kvs:List (aF×W)):List (aF×W):=(kvs.filter λp=>Bv p.2).foldl (λa p=>bw a p.1 p.2) []
theorem jq {C:Gp->Prop} {tt:WT} {te:WE} {i j:Nat} {τ0:dC} {G:Gp} {q:List W->Gp->Prop} {pr:aF×W->Bool} {f:aF×W->W} (hC:C G):∀{kvs:List (aF×W)} {acc:List W} {τ:dC},
 (∀p,p∈kvs->∀k:Bool->Gp->Prop,k (pr p) G->tt ((τ0.set i (some (kW p.1))).set j (some p.2)) G k)->(∀p,p∈kvs->∀k:W->Gp->Prop,k (f p) G->te ((τ0.set i (some (kW p.1))).set j (some p.2)) G k)->acc.length+kvs.length<=100000->(∀x y,(τ.set i x).set j y=(τ0.set i x).set j y)->
 q (acc++(kvs.filter pr).map f) G->bX C (rW 2 (jN (cZ i) (jN (cZ j) rV))) tt te (kvs.map λp=> .tup [kW p.1,p.2]) τ G acc q
 | [],acc,τ,_,_,_,_,hq=>⟨hC,by simpa using hq⟩
 | p::kvs,acc,τ,ht,he,hl,hτ,hq=>by
   refine ⟨hC,rfl,?_⟩;show tt ((τ.set i (some (kW p.1))).set j (some p.2)) G _;rw [hτ];rw [List.length_cons] at hl;refine ht p List.mem_cons_self _ ?_;have ih:=λacc' (h:acc'.length+kvs.length<=100000)=>jq (acc:=acc') (τ:=(τ0.set i (some (kW p.1))).set j (some p.2)) (q:=q) hC (λu hu=>ht u (List.mem_cons_of_mem _ hu)) (λu hu=>he u (List.mem_cons_of_mem _ hu)) h λx y=>by rw [DC]
   cases hp:pr p with
   | true=>
     rw [if_pos rfl];refine he p List.mem_cons_self _ ⟨by omega,ih _ (by rw [List.length_append];simp only [List.length_cons,List.length_nil];omega) ?_⟩;simpa [List.filter_cons,hp] using hq
   | false=>
     rw [if_neg (by decide)];refine ih _ (by omega) ?_;simpa [List.filter_cons,hp] using hq
noncomputable def Bw:bZ:=λws G q _=>∃(l d:Addr) (st:List (Addr×Row)) (kvs:List (aF×W)),ws=[.ref l,.ref d]/\G l=some (.lst (cF st))/\G d=some (.dic kvs)/\ul kvs/\kvs.length<=1000/\∀(p:Addr) (G':Gp),aL G G'->G p=none->G' p=some (.dic (wA kvs))->q (.tup [.tup (au (dJ (cG st))),.ref p]) G'
theorem scTo:aE ["left","boxes"] ["left","boxes"] (ag (aU 45)):=⟨rfl,rfl,rfl,by decide+kernel,rfl,by decide+kernel,by decide+kernel⟩
theorem DD (F:cM K "told" "told" (aU 45) f fd) (F1:Fx P w K mg base "weight_left" ["left"] 1 zP) (md:mg "dict"=none):cB P w K mg base 2 f fd ["left","boxes"] Bw:=by
 have nd:=scTo.nd;refine eQ F scTo (λws G q e h=>by obtain ⟨_,_,_,_,rfl,_⟩:=h;rfl) (λcdv A outer s H E hr=>?_);apply aO
 ·refine' cH (vU (aK ?ex))
  case ex=>exact (bv (ae (aD F1 (ay.mono hr (by omega)) rfl (ae (aa 0 rfl (.inl rfl)) am)) (ae (bN (tM rfl) rfl md ox (ae (kG (fJ (by first | rfl | decide+kernel)) rfl (tK 1 rfl (.inl rfl)) (λ_ _ _ _=>(nD rfl (dX (cV 1 (by first | assumption | decide+kernel | rfl) rfl (.inl rfl)) (dX (cV 2 (by first | assumption | decide+kernel | rfl) rfl (.inl rfl)) kE)))) (λ_ _ _ _=>(vh (bo yA (aa 2 rfl (.inl rfl)) ao (aY _)))) (λ_ _ _ _=>(bv (ae (aa 1 rfl (.inl rfl)) (ae (aa 2 rfl (.inl rfl)) am))))) am)) am)))
 ·rintro ws G q e ⟨l,d,as,kvs,rfl,hl,hd,hi,hn,hq⟩;walk_at "R";refine ⟨d,kvs,hd,l,as,rfl,hl,kvs,hd,λo us=>jq (pr:=λp=>Bv p.2) (f:=λp=> .tup [kW p.1,p.2]) (τ0:=[none,none,none]) ak (λp hp k hk=>?_) (λp hp k hk=>?_) (by simp only [List.length_nil];omega) (λ_ _=>rfl) λp1 hp1=>⟨_,.lst ak rfl,λp2 hp2=>?_⟩⟩
  ·obtain ⟨n,en⟩:=hi p hp;rw [en] at hk ⊢;walk_at "R";exact hk
  ·walk_at "R";exact hk
  ·have n1:p1≠d:=λz=>by rw [z,ak] at hp1;cases hp1
   have n2:p2≠p1:=λz=>by rw [z,ak] at hp2;cases hp2
   rw [aq n2] at hp2;have n3:p2≠d:=λz=>by rw [z,ak] at hp2;cases hp2
   rw [aq n3] at hp2;rw [aq n1] at hp1;refine ⟨o,us,kvs,(aq n3.symm).trans ((aq n1.symm).trans ak),_,aL.refl _,hq p2 _ (λx g e=>?_) hp2 ((aq n3).trans ak)⟩
   by_cases xd:x=d
   ·subst xd;rw [hd] at e;cases e;exact ak
   ·exact (aq xd).trans (aW (aW ((aq xd).trans e) ((aq n1).trans hp1)) ((aq n2).trans ((aq n3).trans hp2)))
noncomputable def rf (s:List Row×List (aF×W)) (k:Nat):List Addr->List W
 | []=>[]
 | p::ps=> .tup [.tup (au (dJ (bu s k).1)),.ref p]::rf s (k+1) ps
theorem lq (s:List Row×List (aF×W)):∀(k:Nat) (ps:List Addr),(rf s k ps).length=ps.length
 | _,[]=>rfl
 | k,p::ps=>by rw [rf,List.length_cons,lq s (k+1) ps];rfl
theorem qe (s:List Row×List (aF×W)):∀(k:Nat) (ps:List Addr) (p:Addr),rf s k (ps++[p])=rf s k ps++[.tup [.tup (au (dJ (bu s (k+ps.length)).1)),.ref p]]
 | k,[],p=>rfl
 | k,x::ps,p=>by
   rw [List.cons_append,rf,qe s (k+1) ps p,rf,List.cons_append,List.length_cons,show k+1+ps.length=k+(ps.length+1) by omega]
theorem qX.st {cp:Prop} {m l0:Nat} {B:Int} {i:Nat} {st:List (Addr×Row)} {kvs:List (aF×W)} (h:qX cp m l0 B i (cG st,kvs)) (hi:l0+(3*m+2)*i<=900) (hB:B*2^i<=10^100):jF cp st:=by
 have h1:=Nat.le_trans h.l hi;have h2:=uw (cG st);have h1:((cG st).map Rq.lb).sum<=900:=h1;refine ⟨λp hp=>ur hB _ (h.g p.2 (List.mem_map.mpr ⟨p,hp,rfl⟩)),λp hp=>p9 (h.g p.2 (List.mem_map.mpr ⟨p,hp,rfl⟩)),h1,?_⟩;rw [List.length_map] at h2;omega
noncomputable def qY (C:Cs) (Cf:Addr) (cp:Prop):bZ:=λws G q e=>∃(t b:Addr) (ps:List (Addr×Row)) (kvs:List (aF×W)) (m s0 l0:Nat) (B:Int),ws=[.ref t,.ref b,.int (m:Int)]/\G t=some (.lst (refs ps))/\Rows C G ps/\G b=some (.dic kvs)/\qX cp s0 l0 B 0 (cG ps,kvs)/\0<=B/\(∀i,i<=m->B*2^i<=10^100)/\(∀i,i<=m->l0+(3*s0+2)*i<=900)/\m<=60/\
 (∀(G':Gp) (n:Nat),aL G G'->n<m->gY (bu (cG ps,kvs) n)->(∀k,k<n->¬gY (bu (cG ps,kvs) k))->e (.ref Cf) G')/\
 ∀(G':Gp) (F:Addr) (ds:List Addr) (n:Nat),aL G G'->G F=none->G' F=some (.lst (rf (cG ps,kvs) 0 ds))->ds.length=n+1->n<=m->((bu (cG ps,kvs) n).1=[]∨n=m)->(∀k,k<n->(bu (cG ps,kvs) k).1≠[])->(∀k,k<n->¬gY (bu (cG ps,kvs) k))->(∀k p,ds[k]?=some p->G' p=some (.dic (wA (bu (cG ps,kvs) k).2))/\G p=none)->q (.ref F) G'
structure Ts (C:Cs) (G0 G:Gp) (l d F:Addr) (s:List Row×List (aF×W)) (ds:List Addr) (i:Nat) (st:List (Addr×Row)):Prop where
 le:aL G0 G
 hl:G l=some (.lst (cF st))
 hr:cG st=(bu s i).1
 ro:Rows C G st
 hd:G d=some (.dic (bu s i).2)
 hF:G F=some (.lst (rf s 0 ds))
 ll:ds.length=i+1
 td:∀k p,ds[k]?=some p->G p=some (.dic (wA (bu s k).2))/\G0 p=none
 dn:∀p,p∈ds->p≠d
 lF:l≠F
 f1:G0 l=none
 f2:G0 d=none
 f3:G0 F=none
 ne:∀k,k<i->(bu s k).1≠[]
 nb:∀k,k<i->¬gY (bu s k)
theorem Ts.mono {C:Cs} {G0 G G':Gp} {l d F:Addr} {s:List Row×List (aF×W)} {ds:List Addr} {i:Nat} {st:List (Addr×Row)} (h:Ts C G0 G l d F s ds i st) (k:aL G G'):Ts C G0 G' l d F s ds i st:=
 ⟨h.le.trans k,k _ _ h.hl,h.hr,h.ro.mono (aL.ins k),k _ _ h.hd,k _ _ h.hF,h.ll,λn p hp=>⟨k _ _ (h.td n p hp).1,(h.td n p hp).2⟩,h.dn,h.lF,h.f1,h.f2,h.f3,h.ne,h.nb⟩
theorem Ts.next {C:Cs} {G0 G G':Gp} {l d F p:Addr} {s:List Row×List (aF×W)} {ds:List Addr} {i:Nat} {st st':List (Addr×Row)} (h:Ts C G0 G l d F s ds i st) (k:∀x g,x≠l->x≠d->x≠F->G x=some g->G' x=some g) (hl:G' l=some (.lst (cF st'))) (hr:cG st'=(bu s (i+1)).1) (ro:Rows C G' st') (hd:G' d=some (.dic (bu s (i+1)).2)) (hF:G' F=some (.lst (rf s 0 (ds++[p]))))
 (hp:G' p=some (.dic (wA (bu s (i+1)).2))) (fp:G p=none) (pd:p≠d) (hn:(bu s i).1≠[]) (hb:¬gY (bu s i)):Ts C G0 G' l d F s (ds++[p]) (i+1) st':=by
 have kd:∀q,q∈ds->∀g,G q=some g->G' q=some g:=λq hq g e=>by
  obtain ⟨n,hn⟩:=List.getElem?_of_mem hq;have e1:=(h.td n q hn).1;refine k q g (λz=>?_) (h.dn q hq) (λz=>?_) e
  ·rw [z,h.hl] at e1;cases e1
  ·rw [z,h.hF] at e1;cases e1
 refine ⟨λx g e=>k x g (λz=>by rw [z,h.f1] at e;cases e) (λz=>by rw [z,h.f2] at e;cases e) (λz=>by rw [z,h.f3] at e;cases e) (h.le x g e),hl,hr,ro,hd,hF,by rw [List.length_append,h.ll];rfl,λn q hq=>?_,λq hq=>?_,h.lF,h.f1,h.f2,h.f3,λn hn'=>?_,λn hn'=>?_⟩
 ·by_cases hn:n<ds.length
  ·rw [List.getElem?_append_left hn] at hq;obtain ⟨a1,a2⟩:=h.td n q hq;exact ⟨kd q (List.mem_of_getElem? hq) _ a1,a2⟩
  ·rw [List.getElem?_append_right (by omega)] at hq;obtain ⟨j,hj⟩:∃j,n-ds.length=j:=⟨_,rfl⟩;rw [hj] at hq;cases j with
   | zero=>
     cases hq;have hn2:n=i+1:=by have:=h.ll;omega
     subst hn2;exact ⟨hp,cv h.le fp⟩
   | succ j=>cases hq
 ·rcases List.mem_append.mp hq with hq | hq
  ·exact h.dn q hq
  ·rw [List.mem_singleton.mp hq];exact pd
 ·rcases Nat.lt_or_ge n i with z | z
  ·exact h.ne n z
  ·have:n=i:=by omega
   rw [this];exact hn
 ·rcases Nat.lt_or_ge n i with z | z
  ·exact h.nb n z
  ·have:n=i:=by omega
   rw [this];exact hb
theorem scTc:aE ["rows","boxes","most","now","left","found","thing"] ["rows","boxes","most"] (ag (aU 42)):=⟨rfl,rfl,rfl,by decide+kernel,rfl,by decide+kernel,by decide+kernel⟩
theorem Bx {C:Cs} {Cf:Addr} {cp:Prop} {T:Addr} {dfs:List Value} (F:fL K "trace" "trace" (aU 42) f fd T dfs) (F1:Fx P w K mg base "put_ahead" ["left","things"] 7 (xE C cp)) (F2:Fx P w K mg base "told" ["left","boxes"] 2 Bw) (M:∀i,Sk cp i->AY P w K mg base (C.at_ i) "step" ["self","boxes"] 8 (qV C Cf i) []) (md:mg "dict"=none) (ml:mg "len"=none):sB P w K mg base 9 f fd ["rows","boxes","most"] (qY C Cf cp):=by
 have nd:=scTc.nd;refine AQ (k:=8) F scTc (λws G q e h=>by obtain ⟨_,_,_,_,_,_,_,_,rfl,_⟩:=h;rfl) (λcdv A outer s H E ws G q e hr hsp hE=>?_);apply aO
 ·refine' af ?s1 (af ?s2 (af ?s3 (af ?s4 (af (lJ PassesOwn.leaving ?co (af ?b1 (af (cS (aD F1 (ay.mono hr (by omega)) rfl (ae ?le (ae (kQ (S:=Sk cp) (t:=λi=>sM (C.at_ i) "step" (qV C Cf i) [] (jx 6) (cU (jx 3) iS) e) λi hi=>sN ?me (M i hi) (ay.mono hr (by omega)) hE ?ma) am)))) ?b3))) ?s6))))
  case s1=>exact (aV 3 nd rfl (.inl rfl) (bN (tM rfl) rfl md ox (ae (aa 1 rfl (.inl rfl)) am)))
  case s2=>exact (aV 4 nd rfl (.inl rfl) (cm am))
  case s3=>exact (cS (aD F1 (ay.mono hr (by omega)) rfl (ae (aa 4 rfl (.inl rfl)) (ae (aa 0 rfl (.inl rfl)) am))))
  case s4=>exact (aV 5 nd rfl (.inl rfl) (cm (ae (aD F2 (ay.mono hr (by omega)) rfl (ae (aa 4 rfl (.inl rfl)) (ae (aa 3 rfl (.inl rfl)) am))) am)))
  case co=>exact (qB (kC (bo (pW hr) (aa 4 rfl (.inl rfl)) (cm am) (aY _)) (iy (bo Cp (cJ fN rfl ml PySem.boot_len (ae (aa 5 rfl (.inl rfl)) am)) (aa 2 rfl (.inl rfl)) (aY _)))))
  case b1=>exact (aV 6 nd rfl (.inl rfl) (bM bS (yS (aa 4 rfl (.inl rfl))) ao (λ_ _=>rfl)))
  case le=>exact (aa 4 rfl (.inl rfl))
  case me=>exact (aa 6 rfl (.inl rfl))
  case ma=>exact (ae (aa 3 rfl (.inl rfl)) am)
  case b3=>exact (af (cS (eX (aa 5 rfl (.inl rfl)) (aD F2 (ay.mono hr (by omega)) rfl (ae (aa 4 rfl (.inl rfl)) (ae (aa 3 rfl (.inl rfl)) am))))) ap)
  case s6=>exact (af (aK (aa 5 rfl (.inl rfl))) ap)
 ·obtain ⟨t,b,ps,kvs,m,s0,l0,B,rfl,ht,hX,hb,hO,hB0,hBi,hLi,hm,hx,hq⟩:=hsp;refine bt λU hU=>?_;walk_at "R";refine ⟨kvs,.dic (.inl hb),λd hd0=>?_⟩;have le1:=aL.new (g:=GO.dic kvs) hd0;have g1:=ak (G:=G) (a:=d) (g:=GO.dic kvs);generalize aG G d (.dic kvs)=G1 at le1 g1 ⊢;subst hU;refine bt λU hU=>?_;walk_at "R";intro l hl0;have fl:=cv le1 hl0;have le2:=le1.trans (aL.new (g:=GO.lst []) hl0);have g2d:=aW (g:=GO.lst []) g1 hl0;have g2l:=ak (G:=G1) (a:=l) (g:=GO.lst []);generalize aG G1 l (.lst [])=G2 at le2 g2d g2l ⊢;have tl:t≠l:=λz=>by rw [z,fl] at ht;cases ht
  have dl:d≠l:=λz=>by rw [z,g2l] at g2d;cases g2d
  have hst0:jF cp ps:=hO.st (hLi 0 (by (clear F F1 F2 M md ml nd hr hE ht hX hb hO hB0 hBi hLi hx hq hd0 le1 g1 hU hl0 fl le2 g2d g2l tl dl;omega))) (hBi 0 (by (clear F F1 F2 M md ml nd hr hE ht hX hb hO hB0 hBi hLi hx hq hd0 le1 g1 hU hl0 fl le2 g2d g2l tl dl;omega)));subst hU;refine bt λU hU=>?_;walk_at "R";refine ⟨l,t,ps,[],rfl,tl,g2l,le2 _ _ ht,hX.mono (aL.ins le2),by rw [List.append_nil];exact hst0,λG3 hl3 hk3=>?_⟩;have le3:aL G G3:=λx g e=>(hk3 x (λz=>by rw [z,fl] at e;cases e)).trans (le2 x g e);have g3d:=(hk3 d dl).trans g2d;rw [List.append_nil] at hl3;subst hU;refine bt λU hU=>?_;walk_at "R";have hk0:kvs.length<=100+0:=hO.k;refine ⟨l,d,ps,kvs,rfl,hl3,g3d,hO.b.int,by omega,λp0 G4 le4 fp0 hp0=>?_⟩;intro F0 hF0;have S0:Ts C G (aG G4 F0 (.lst [.tup [.tup (au (dJ (cG ps))),.ref p0]])) l d F0 (cG ps,kvs) [p0] 0 ps:=by
   have k5:aL G4 (aG G4 F0 (.lst [.tup [.tup (au (dJ (cG ps))),.ref p0]])):=aL.new hF0;refine ⟨(le3.trans le4).trans k5,k5 _ _ (le4 _ _ hl3),rfl,hX.mono (aL.ins ((le3.trans le4).trans k5)),k5 _ _ (le4 _ _ g3d),ak,rfl,λk p hp=>?_,λp hp=>?_,λz=>?_,fl,hd0,cv (le3.trans le4) hF0,λk hk=>absurd hk (Nat.not_lt_zero _),λk hk=>absurd hk (Nat.not_lt_zero _)⟩
   ·cases k with
    | zero=>
      cases hp;exact ⟨k5 _ _ hp0,cv le3 fp0⟩
    | succ k=>cases hp
   ·rw [List.mem_singleton.mp hp];intro z;rw [z,g3d] at fp0;cases fp0
   ·rw [←z,le4 _ _ hl3] at hF0;cases hF0
  generalize aG G4 F0 (.lst [.tup [.tup (au (dJ (cG ps))),.ref p0]])=G5 at S0 ⊢;clear hp0 fp0 hF0 le4 g3d hl3 hk3 le3 g2d g2l le2 dl fl hl0 g1 le1 hd0;subst hU;refine bt λU hU=>?_;refine y9 (λj τ G'=>∃(i:Nat) (ds:List Addr) (st:List (Addr×Row)) (t6:Option W),Ts C G G' l d F0 (cG ps,kvs) ds i st/\τ=[some (.ref t),some (.ref b),some (.int (m:Int)),some (.ref d),some (.ref l),some (.ref F0),t6]/\i<=m/\j=m-i) ⟨_,0,[p0],ps,none,S0,rfl,by omega,rfl⟩ ?_;rintro j τ G' ⟨i,ds,st,t6,S,rfl,h50,rfl⟩ B' hB';clear S0;walk_at "R";intro p1 hp1;have S1:=S.mono (aL.new (g:=GO.lst []) hp1);have g1:=ak (G:=G') (a:=p1) (g:=GO.lst []);generalize aG G' p1 (.lst [])=G6 at S1 g1 ⊢;clear hp1 S;have fin:(bu (cG ps,kvs) i).1=[]∨i=m->U { nx:=λx G1=>∃G0,aL G0 G1/\q W.non G0,rt:=λw G1=>∃G0,aL G0 G1/\q w G0 } [some (W.ref t),some (W.ref b),some (W.int (m:Int)),some (W.ref d),some (W.ref l),some (W.ref F0),t6] G6:=λhds=>by
   subst hU;walk_at "R";exact aL.done (hq G6 F0 ds i S1.le S1.f3 S1.hF S1.ll h50 hds S1.ne S1.nb S1.td)
  have hll:=S1.ll;have hOi:=hO.run hB0 i;refine ⟨_,.nil S1.hl g1,?_⟩;cases st with
  | nil=>
    rw [show (cF []).isEmpty=true from rfl,if_neg (by decide)];exact fin (.inl S1.hr.symm)
  | cons a st=>
    have hrun:bu (cG ps,kvs) i=(a.2::cG st,(bu (cG ps,kvs) i).2):=by rw [Prod.ext_iff];exact ⟨S1.hr.symm,rfl⟩
    have hnx:bu (cG ps,kvs) (i+1)=(et (bu (cG ps,kvs) i).2 a.2++cG st,bY (bu (cG ps,kvs) i).2 a.2):=by
     show dQ (bu (cG ps,kvs) i)=_;rw [hrun]
     rfl
    rw [show (cF (a::st)).isEmpty=false by simp [cF],if_pos rfl];refine ⟨_,.lst S1.hF,?_⟩;rw [lq]
    by_cases h5:((ds.length:Nat):Int)<=(m:Int)
    ·rw [if_pos h5];refine ⟨λτ1 G1=>∃(ds':List Addr) (st':List (Addr×Row)) (t6':Option W),Ts C G G1 l d F0 (cG ps,kvs) ds' (i+1) st'/\τ1=[some (.ref t),some (.ref b),some (.int (m:Int)),some (.ref d),some (.ref l),some (.ref F0),t6'],?_,?_⟩
     ·rintro τ1 G1 ⟨ds',st',t6',S',rfl⟩;exact ⟨m- (i+1),by (clear F F1 F2 M md ml nd hr hE ht hX hb hO hB0 hBi hLi hm hx hq tl hst0 hk0 hU h50 hB' g1 fin hOi S1 hrun hnx S';omega),i+1,ds',st',t6',S',rfl,by (clear F F1 F2 M md ml nd hr hE ht hX hb hO hB0 hBi hLi hm hx hq tl hst0 hk0 hU h50 hB' g1 fin hOi S1 hrun hnx S';omega),rfl⟩
     ·have him:i<=60:=by (clear F F1 F2 M md ml nd hr hE ht hX hb hO hB0 hBi hLi hx hq tl hst0 hk0 hU h50 hB' g1 fin hOi S1 hrun hnx;omega)
      have hOn:=hO.run hB0 (i+1);have rh:gq C G6 a.1 a.2:=S1.ro a List.mem_cons_self;have hgr:=hOi.g a.2 (by rw [hrun];exact List.mem_cons_self);have hz:Sz a.2:=ur (hBi i (by assumption)) _ hgr;have hbad:gY (bu (cG ps,kvs) i)=cA (bu (cG ps,kvs) i).2 a.2:=by rw [hrun];rfl
      obtain ⟨fs,f1,_,f3⟩:=rh.isIns;have dl:d≠l:=λz=>by have:=S1.hd;rw [z,S1.hl] at this;cases this
      have dF:d≠F0:=λz=>by have:=S1.hd;rw [z,S1.hF] at this;cases this
      have al:a.1≠l:=λz=>by rw [z,S1.hl] at f1;cases f1
      have hki:=hOi.k;have hkn:=hOn.k;have hid:=hOi.b.int;have hid2:=hOn.b.int;have hp0:(0:Int)<=B*2^i:=Int.mul_nonneg hB0 (Int.le_of_lt (Int.pow_pos (by decide)));generalize hN:(λ(τ1:dC) (G1:Gp)=>∃(ds':List Addr) (st':List (Addr×Row)) (t6':Option W),Ts C G G1 l d F0 (cG ps,kvs) ds' (i+1) st'/\τ1=[some (W.ref t),some (W.ref b),some (W.int (m:Int)),some (W.ref d),some (W.ref l),some (W.ref F0),t6'])=N;subst hB';refine bt λU1 hU1=>?_;walk_at "R";refine ⟨_,_,S1.hl,?_⟩;walk_at "R";have g7l:=ak (G:=G6) (a:=l) (g:=GO.lst (cF st));have k7:∀x,x≠l->aG G6 l (.lst (cF st)) x=G6 x:=λx hx=>aq hx;have I7:bW G6 (aG G6 l (.lst (cF st))):=bW.but (p:=l) (λx g xl e=>(k7 x xl).trans e) (λC' y fs e=>by rw [S1.hl] at e;cases e);generalize aG G6 l (.lst (cF st))=G7 at g7l k7 I7 ⊢;subst hU1;refine bt λU1 hU1=>?_;walk_at "R";refine ⟨kd a.2,p9 hgr,a.1,fs,rfl,(k7 _ al).trans f1,f3,a.1,d,a.2,_,rfl,rh.mono I7,rfl,hz,(p7 _ hgr).2,(k7 _ dl).trans S1.hd,⟨_,hOi.b,hp0⟩,by (clear F F1 F2 M md ml nd hr hE ht hX hb hO hB0 hBi hLi hx hq tl hst0 hk0 hU h50 g1 fin hOi S1 hrun hnx hOn rh hgr hz hbad f1 f3 dl dF al hkn hid hid2 hp0 hN g7l k7 I7 hU1;omega),λhno=>hx _ i (λx g e=>(k7 x (λz=>by rw [z,S1.f1] at e;cases e)).trans (S1.le x g e)) (by (clear F F1 F2 M md ml nd hr hE ht hX hb hO hB0 hBi hLi hm hx hq tl hst0 hk0 hU h50 g1 fin hOi S1 hrun hnx him hOn rh hgr hz hbad f1 f3 dl dF al hki hkn hid hid2 hp0 hN g7l k7 I7 hU1 hno;omega)) (hbad▸hno) S1.nb,λhno p2 G8 p8 k8 hd8 fp2 hp2 hR8 he8=>?_⟩;have n2l:p2≠l:=λz=>by rw [z,g7l] at fp2;cases fp2
      have I8:bW G7 G8:=bW.but (p:=d) k8 (λC' y fs e=>by rw [k7 _ dl,S1.hd] at e;cases e);have hro:Rows C G8 st:=λx hx=>((S1.ro x (List.mem_cons_of_mem _ hx)).mono I7).mono I8;have e8:cG (p8++st)=(bu (cG ps,kvs) (i+1)).1:=by rw [hnx];show List.map _ (p8++st)=_;rw [List.map_append,he8]
      have hst:jF cp (p8++st):=by
       have:qX cp s0 l0 B (i+1) (cG (p8++st),(bu (cG ps,kvs) (i+1)).2):=by rw [e8];exact hOn
       exact this.st (hLi (i+1) (by (clear F F1 F2 M md ml nd hr hE ht hX hb hO hB0 hBi hLi hm hx hq tl hst0 hk0 hU h50 g1 fin hOi S1 hrun hnx him hOn rh hgr hz hbad f1 f3 dl dF al hki hkn hid hid2 hp0 hN g7l k7 I7 hU1 hno k8 hd8 fp2 hp2 hR8 he8 n2l I8 hro e8 this;omega))) (hBi (i+1) (by (clear F F1 F2 M md ml nd hr hE ht hX hb hO hB0 hBi hLi hm hx hq tl hst0 hk0 hU h50 g1 fin hOi S1 hrun hnx him hOn rh hgr hz hbad f1 f3 dl dF al hki hkn hid hid2 hp0 hN g7l k7 I7 hU1 hno k8 hd8 fp2 hp2 hR8 he8 n2l I8 hro e8 this;omega)))
      refine ⟨l,p2,p8,st,rfl,n2l,k8 l _ dl.symm g7l,hp2,hR8,hst,λG9 hl9 hk9=>?_⟩;have d8:G8 d=some (.dic (bu (cG ps,kvs) (i+1)).2):=by rw [hnx];exact hd8
      have k9:∀x g,x≠l->x≠d->G6 x=some g->G9 x=some g:=λx g xl xd e=>(hk9 x xl).trans (k8 x g xd ((k7 x xl).trans e));have hd9:G9 d=some (.dic (bu (cG ps,kvs) (i+1)).2):=(hk9 d dl).trans d8;have hro9:Rows C G9 (p8++st):=λx hx=>by
       have I9:bW G8 G9:=bW.but (p:=l) (λx g xl e=>(hk9 x xl).trans e) (λC' y fs e=>by rw [k8 l _ dl.symm g7l] at e;cases e);rcases List.mem_append.mp hx with hx | hx
       ·exact (hR8 x hx).mono I9
       ·exact (hro x hx).mono I9
      clear hk9 k8 hd8 d8 hR8 hro I8 hp2 fp2 n2l k7 g7l I7;have hF9:=k9 F0 _ S1.lF.symm dF.symm S1.hF;subst hU1;walk_at "R";refine ⟨⟨_,hF9⟩,l,d,p8++st,_,rfl,hl9,hd9,hid2,by (clear F F1 F2 M md ml nd hr hE ht hX hb hO hB0 hBi hLi hx hq tl hst0 hk0 hU h50 g1 fin hOi S1 hrun hnx hOn rh hgr hz hbad f1 f3 dl dF al hki hid hid2 hp0 hN hno he8 e8 hst hl9 k9 hd9 hro9 hF9;omega),λp4 G10 le10 fp4 hp4=>⟨_,le10 _ _ hF9,by rw [lq];(clear F F1 F2 M md ml nd hr hE ht hX hb hO hB0 hBi hLi hm hx hq tl hst0 hk0 hU h50 g1 fin hOi S1 hrun hnx h5 hOn rh hgr hz hbad f1 f3 dl dF al hki hkn hid hid2 hp0 hN hno he8 e8 hst hl9 k9 hd9 hro9 hF9 le10 fp4 hp4;omega),?_⟩⟩;have efo:=qe (cG ps,kvs) 0 ds p4;rw [show 0+ds.length=i+1 by (clear F F1 F2 M md ml nd hr hE ht hX hb hO hB0 hBi hLi hm hx hq tl hst0 hk0 hU h50 g1 fin hOi S1 hrun hnx h5 him hOn rh hgr hz hbad f1 f3 dl dF al hki hkn hid hid2 hp0 hN hno he8 e8 hst hl9 k9 hd9 hro9 hF9 le10 fp4 hp4 efo;omega),←e8] at efo;rw [←efo];have n4d:p4≠d:=λz=>by rw [z,hd9] at fp4;cases fp4
      have n4l:p4≠l:=λz=>by rw [z,hl9] at fp4;cases fp4
      have n4F:p4≠F0:=λz=>by rw [z,hF9] at fp4;cases fp4
      subst hN;have I11:bW G9 (aG G10 F0 (GO.lst (rf (cG ps,kvs) 0 (ds++[p4])))):=bW.but (p:=F0) (λx g xF e=>(aq xF).trans (le10 _ _ e)) (λC' y fs e=>by rw [hF9] at e;cases e);refine ⟨ds++[p4],p8++st,_,S1.next (λx g xl xd xF e=>(aq xF).trans (le10 _ _ (k9 x g xl xd e))) ((aq S1.lF).trans (le10 _ _ hl9)) e8 (hro9.mono I11) ((aq dF).trans (le10 _ _ hd9)) ak ((aq n4F).trans hp4) ?_ n4d (by rw [hrun];exact List.cons_ne_nil _ _) (by rw [hbad];exact hno),rfl⟩;cases e:G6 p4 with
      | none=>rfl
      | some g=>rw [k9 p4 g n4l n4d e] at fp4;cases fp4
    ·rw [if_neg h5];exact fin (.inr (by (clear F F1 F2 M md ml nd hr hE ht hX hb hO hB0 hBi hLi hm hx hq tl hst0 hk0 hU hB' g1 fin hOi S1 hrun hnx;omega)))
noncomputable def By:bZ:=λws G q _=>∃(ns:List Int) (k:Int),ws=[.scr ns,.int k]/\0<=k/\(∀n,n∈ns->gR n)/\∀v:Int,gR v->q (.int v) G
theorem scCa:aE ["_law_script","_law_k"] ["_law_script","_law_k"] (ag (aU 47)):=⟨rfl,rfl,rfl,by decide+kernel,rfl,by decide+kernel,by decide+kernel⟩
theorem DE (F:cM K "_law_cell_at" "_law_cell_at" (aU 47) f fd) (ml:mg "len"=none):cB P w K mg base 1 f fd ["_law_script","_law_k"] By:=by
 have nd:=scCa.nd;refine eQ F scCa (λws G q e h=>by obtain ⟨_,_,rfl,_⟩:=h;rfl) (λcdv A outer s H E hr=>?_);apply aO
 ·exact (af (cc (bo (lM hr) (aa 1 rfl (.inl rfl)) (cJ fN rfl ml PySem.boot_len (ae (aa 0 rfl (.inl rfl)) am)) (aY _)) (af (aK (bM bS (aa 0 rfl (.inl rfl)) (aa 1 rfl (.inl rfl)) (λ_ _=>rfl))) ap) ap) (af (aK ao) ap))
 ·rintro ws G q e ⟨ns,k,rfl,hk,hc,hq⟩;walk_at "R";split
  ·obtain ⟨n,hn,cn⟩:=tD hc hk (by assumption);exact ⟨n,hn,aL.done (hq n cn)⟩
  ·exact aL.done (hq 0 A2)
structure jG (C:Cs) (cp:Prop) (G:Gp) (t b:Addr) (ps:List (Addr×Row)) (kvs:List (aF×W)) (m:Nat):Prop where
 ht:G t=some (.lst (refs ps))
 hR:Rows C G ps
 hb:G b=some (.dic kvs)
 ok:∃(s0 l0:Nat) (B:Int),qX cp s0 l0 B 0 (cG ps,kvs)/\0<=B/\(∀i,i<=m->B*2^i<=10^100)/\(∀i,i<=m->l0+(3*s0+2)*i<=900)
 hm:m<=60
theorem jG.mono {C:Cs} {cp:Prop} {G G':Gp} {t b:Addr} {ps:List (Addr×Row)} {kvs:List (aF×W)} {m:Nat} (h:jG C cp G t b ps kvs m) (l:aL G G'):jG C cp G' t b ps kvs m:=
 ⟨l _ _ h.ht,h.hR.mono (aL.ins l),l _ _ h.hb,h.ok,h.hm⟩
theorem qf {s:List Row×List (aF×W)} {n:Nat} (h:(bu s n).1=[]):∀k,(bu s (n+k)).1=[]
 | 0=>h
 | k+1=>by
   have ih:=qf h k;show (dQ (bu s (n+k))).1=[];generalize bu s (n+k)=x at ih;obtain ⟨st,kvs⟩:=x;cases ih
   rfl
theorem jG.bad {C:Cs} {Cf:Addr} {cp:Prop} {G:Gp} {t b:Addr} {ps:List (Addr×Row)} {kvs:List (aF×W)} {m n:Nat} {q:WK} {e:WX} (h:jG C cp G t b ps kvs m) (hn:n<m) (h1:gY (bu (cG ps,kvs) n)) (h2:∀k,k<n->¬gY (bu (cG ps,kvs) k)) (he:∀G',aL G G'->e (.ref Cf) G'):qY C Cf cp [.ref t,.ref b,.int (m:Int)] G q e:=by
 obtain ⟨s0,l0,B,a1,a2,a3,a4⟩:=h.ok;refine ⟨t,b,ps,kvs,m,s0,l0,B,rfl,h.ht,h.hR,h.hb,a1,a2,a3,a4,h.hm,λG' _ le _ _ _=>he G' le,λG' F ds k le fF hF hl hk he' hne hnb hd=>?_⟩;exfalso;rcases Nat.lt_or_ge n k with z | z
 ·exact hnb n z h1
 ·rcases he' with he' | he'
  ·have:=qf he' (n-k);rw [show k+(n-k)=n by omega] at this;generalize bu (cG ps,kvs) n=x at this h1;obtain ⟨st,kv⟩:=x;cases this;exact h1
  ·omega
theorem jG.good {C:Cs} {Cf:Addr} {cp:Prop} {G:Gp} {t b:Addr} {ps:List (Addr×Row)} {kvs:List (aF×W)} {m:Nat} {q:WK} {e:WX} (h:jG C cp G t b ps kvs m) (h2:∀k,k<m->¬gY (bu (cG ps,kvs) k)) (h3:∀k,k<m->(bu (cG ps,kvs) k).1≠[]) (hq:∀(G':Gp) (F:Addr) (ds:List Addr),aL G G'->G' F=some (.lst (rf (cG ps,kvs) 0 ds))->ds.length=m+1->q (.ref F) G'):qY C Cf cp [.ref t,.ref b,.int (m:Int)] G q e:=by
 obtain ⟨s0,l0,B,a1,a2,a3,a4⟩:=h.ok;refine ⟨t,b,ps,kvs,m,s0,l0,B,rfl,h.ht,h.hR,h.hb,a1,a2,a3,a4,h.hm,λG' n le hn hb _=>absurd hb (h2 n hn),λG' F ds k le fF hF hl hk he' hne hnb hd=>?_⟩;have:k=m:=by
  rcases he' with he' | he'
  ·rcases Nat.lt_or_ge k m with z | z
   ·exact absurd he' (h3 k z)
   ·omega
  ·exact he'
 subst this;exact hq G' F ds le hF hl
structure DZ (K:PySem.W.Frag) (mg:Str->Option Value) (C c1 c2 c3 c4 c5 c6 d1 d2 d3 d4 d5 d6:Addr):Prop where
 m1:mg "NoNumber"=some (.ref c1)
 m2:mg "Nought"=some (.ref c2)
 m3:mg "TooHigh"=some (.ref c3)
 m4:mg "NoLimit"=some (.ref c4)
 m5:mg "NoHead"=some (.ref c5)
 m6:mg "NoStep"=some (.ref c6)
 n1:mg "NoFit"=some (.ref d1)
 n2:mg "TooGreat"=some (.ref d2)
 n3:mg "NoChore"=some (.ref d3)
 n4:mg "NoText"=some (.ref d4)
 n5:mg "NoName"=some (.ref d5)
 n6:mg "NoRow"=some (.ref d6)
 h1:∀D,D∈[c1,c2,c3,c4,c5,c6]->XD K D/\mroIn K C (.ref D)=some false
 h2:∀D,D∈[d1,d2,d3,d4,d5,d6]->XD K D/\mroIn K C (.ref D)=some false
noncomputable def Bz (C:Cs) (cp:Prop):bZ:=λws G q _=>∃(t b:Addr) (ps:List (Addr×Row)) (kvs:List (aF×W)) (m n:Nat) (way:Int),ws=[.ref t,.ref b,.int (m:Int),.int way]/\jG C cp G t b ps kvs m/\n<m/\gY (bu (cG ps,kvs) n)/\(∀k,k<n->¬gY (bu (cG ps,kvs) k))/\q (.bl true) G
theorem scRf:aE ["_law_made","_law_boxes","_law_most","_law_way","_law_right","_law_other","e"] ["_law_made","_law_boxes","_law_most","_law_way"] (ag (aU 48)):=⟨rfl,rfl,rfl,by decide+kernel,rfl,by decide+kernel,by decide+kernel⟩
theorem DF {C:Cs} {cp:Prop} {Cf Hy c1 c2 c3 c4 c5 c6 d1 d2 d3 d4 d5 d6:Addr} {bF bH:List Value} (F:cM K "_law_refused" "_law_refused" (aU 48) f fd) (R1:Rx P w K mg base "trace" ["rows","boxes","most"] 9 (qY C Cf cp) []) (hO:DZ K mg Cf c1 c2 c3 c4 c5 c6 d1 d2 d3 d4 d5 d6)
 (oF:XO K Cf) (dF:XD K Cf) (dH:XD K Hy) (sH:mroIn K Cf (.ref Hy)=some true) (sF:mroIn K Cf (.ref Cf)=some true) (mH:mg "HydraError"=some (.ref Hy)) (xH:XC K Hy bH) (mF:mg "NoFall"=some (.ref Cf)) (xF:XC K Cf bF) (mi:mg "isinstance"=none) (mv:mg "ValueError"=none):cB P w K mg base 10 f fd ["_law_made","_law_boxes","_law_most","_law_way"] (Bz C cp):=by
 have nd:=scRf.nd;obtain ⟨m1,m2,m3,m4,m5,m6,n1,n2,n3,n4,n5,n6,h1,h2⟩:=hO;refine eQ (k:=9) F scRf (λws G q e h=>by obtain ⟨_,_,_,_,_,_,_,rfl,_⟩:=h;rfl) (λcdv A outer s H E hr=>?_);apply aO
 ·refine' af ?s1 (af ?s2 (af (cc ?c1 (cH ?t1) (cH ?t2)) ?s4))
  case s1=>exact (aV 4 nd rfl (.inl rfl) oW)
  case s2=>exact (aV 5 nd rfl (.inl rfl) oW)
  case c1=>exact (bo (cE hr) (aa 3 rfl (.inl rfl)) ao (aY _))
  case t1=>
   refine' o8 rfl rfl (o7 (xm (λ_ _ z=>z) R1 (ay.mono hr (by omega)) rfl ?a)) (lN (sI 6 mF rfl oF xF sF nd rfl rfl λa=>?b) o9)
   case a=>exact (ae (aa 0 rfl (.inl rfl)) (ae (aa 1 rfl (.inl rfl)) (ae (aa 2 rfl (.inl rfl)) am)))
   case b=>
    refine' af (aV 4 nd rfl (Or.inl rfl) (show QE _ _ (vw K 6 Hy) from sJ rfl (by first | exact Or.inl rfl | exact Or.inr (Or.inl rfl) | exact Or.inr (Or.inr rfl)) mH dH rfl mi rfl)) (af (aV 5 nd rfl (Or.inl rfl) ?v2) (cH (cc (nC ?v3 (λ_=>rfl)) ?bb ap)))
    case v2=>exact (show QE _ _ (vA K (jx 6) (u5 (cU (wC (.ref c1)) (cU (wC (.ref c2)) (cU (wC (.ref c3)) (cU (wC (.ref c4)) (cU (wC (.ref c5)) (cU (wC (.ref c6)) iS)))))))) from sL (aa 6 rfl (by first | exact Or.inl rfl | exact Or.inr (Or.inl rfl) | exact Or.inr (Or.inr rfl))) (bv (ae (cy rfl m1) (ae (cy rfl m2) (ae (cy rfl m3) (ae (cy rfl m4) (ae (cy rfl m5) (ae (cy rfl m6) am))))))) mi rfl)
    case v3=>exact (show QE _ _ (vA K (jx 6) (u5 (cU (wC (.ref d1)) (cU (wC (.ref d2)) (cU (wC (.ref d3)) (cU (wC (.ref d4)) (cU (wC (.ref d5)) (cU (wC (.ref d6)) iS)))))))) from sL (aa 6 rfl (by first | exact Or.inl rfl | exact Or.inr (Or.inl rfl) | exact Or.inr (Or.inr rfl))) (bv (ae (cy rfl n1) (ae (cy rfl n2) (ae (cy rfl n3) (ae (cy rfl n4) (ae (cy rfl n5) (ae (cy rfl n6) am))))))) mi rfl)
    case bb=>exact (af (aV 5 nd rfl (.inl rfl) oW) ap)
  case t2=>
   refine' o8 rfl rfl (o7 (xm (λ_ _ z=>z) R1 (ay.mono hr (by omega)) rfl ?a)) (lN (sI 6 mH rfl oF xH sH nd rfl rfl λa=>?b) o9)
   case a=>exact (ae (aa 0 rfl (.inl rfl)) (ae (aa 1 rfl (.inl rfl)) (ae (aa 2 rfl (.inl rfl)) am)))
   case b=>
    refine' cH (aV 4 nd rfl (Or.inl rfl) (gG (show QE _ _ (vw K 6 Cf) from sJ rfl (by first | exact Or.inl rfl | exact Or.inr (Or.inl rfl) | exact Or.inr (Or.inr rfl)) mF dF rfl mi rfl) (kD (yQ (T:="ValueError") (i:=6) rfl (by first | exact Or.inl rfl | exact Or.inr (Or.inl rfl) | exact Or.inr (Or.inr rfl)) rfl Cw yN mv rfl mi rfl))))
  case s4=>exact (af (aK (gG (aa 4 rfl (.inl rfl)) (kD (rT (aa 5 rfl (.inl rfl)))))) ap)
 ·rintro ws G q e ⟨t,b,ps,kvs,m,n,way,rfl,hT,hn,hb1,hb2,hq⟩;refine bt λU hU=>?_;walk_at "R";subst hU;refine bt λU hU=>?_;walk_at "R";subst hU;refine bt λU hU=>?_;walk_at "R";split
  ·walk_at "R";refine hT.bad hn hb1 hb2 λG' le D hD=>?_;cases hD;refine ⟨_,.head _,?_⟩;walk_at "R";intro x hx;refine ⟨x,Cf,true,rfl,ak,sH,x,Cf,[c1,c2,c3,c4,c5,c6],rfl,rfl,ak,h1,x,Cf,[d1,d2,d3,d4,d5,d6],rfl,rfl,ak,h2,?_⟩;subst hU;walk_at "R";exact ⟨G,le.trans (aL.new hx),hq⟩
  ·walk_at "R";refine hT.bad hn hb1 hb2 λG' le D hD=>?_;cases hD;refine ⟨_,.head _,?_⟩;walk_at "R";intro x hx;refine ⟨x,Cf,true,rfl,ak,sF,x,Cf,rfl,ak,?_⟩;subst hU;walk_at "R";exact ⟨G,le.trans (aL.new hx),hq⟩
theorem ux (x:aF):cz [] x=none:=rfl
theorem dj (p:aF×W) (kvs:List (aF×W)) (x:aF):cz (p::kvs) x=if p.1=x then some p.2 else cz kvs x:=by
 unfold cz;rw [List.find?_cons]
 by_cases e:p.1=x
 ·simp [e]
 ·simp [e]
theorem jr {k x:aF} {w:W} (hx:x≠k):∀kvs:List (aF×W),cz (kvs.map λkv=>if kv.1=k then (kv.1,w) else kv) x=cz kvs x
 | []=>rfl
 | p::kvs=>by
   rw [List.map_cons,dj,dj,jr hx kvs]
   by_cases e:p.1=k
   ·rw [if_pos e];have:p.1≠x:=λz=>hx (z.symm.trans e);show (if p.1=x then _ else _)=_;rw [if_neg this,if_neg this]
   ·rw [if_neg e]
theorem js {k:aF} {w:W}:∀kvs:List (aF×W),(kvs.any λkv=>decide (kv.1=k))=true->cz (kvs.map λkv=>if kv.1=k then (kv.1,w) else kv) k=some w
 | [],h=>by cases h
 | p::kvs,h=>by
   rw [List.map_cons,dj]
   by_cases e:p.1=k
   ·rw [if_pos e];show (if p.1=k then some w else _)=_;rw [if_pos e]
   ·rw [if_neg e,if_neg e];rw [List.any_cons,decide_eq_false e,Bool.false_or] at h;exact js kvs h
theorem mS (k x:aF) (w:W):∀kvs:List (aF×W),(kvs.any λkv=>decide (kv.1=k))=false->cz (kvs++[(k,w)]) x=if x=k then some w else cz kvs x
 | [],_=>by
   rw [List.nil_append,dj,ux]
   by_cases e:k=x
   ·rw [if_pos e,if_pos e.symm]
   ·rw [if_neg e,if_neg (λz=>e z.symm)]
 | p::kvs,h=>by
   rw [List.any_cons,Bool.or_eq_false_iff] at h;rw [List.cons_append,dj,dj,mS k x w kvs h.2];have h1:p.1≠k:=of_decide_eq_false h.1
   by_cases e:p.1=x
   ·rw [if_pos e,if_pos e,if_neg (λz=>h1 (e.trans z))]
   ·rw [if_neg e,if_neg e]
theorem wB (kvs:List (aF×W)) (k x:aF) (w:W):cz (bw kvs k w) x=if x=k then some w else cz kvs x:=by
 unfold bw;split
 ·rename_i h
  by_cases e:x=k
  ·rw [if_pos e,e];exact js kvs h
  ·rw [if_neg e];exact jr e kvs
 ·rename_i h;exact mS k x w kvs (Bool.eq_false_iff.mpr h)
theorem bA (kvs:List (aF×W)) (k x:Str) (n:Int):av (bw kvs (.inr k) (.int n)) x=if x=k then n else av kvs x:=by
 unfold av;rw [wB]
 by_cases e:x=k
 ·rw [if_pos e,if_pos (by rw [e])];rfl
 ·rw [if_neg e,if_neg (λz=>e (Sum.inr.inj z))]
theorem mT (s:List Row×List (aF×W)):∀n,bu s (n+1)=bu (dQ s) n
 | 0=>rfl
 | n+1=>by show dQ (bu s (n+1))=_;rw [mT s n];rfl
theorem fq (s:List Row×List (aF×W)) (a:Nat):∀b,bu s (a+b)=bu (bu s a) b
 | 0=>rfl
 | b+1=>by show dQ (bu s (a+b))=_;rw [fq s a b];rfl
noncomputable def cu (s:List Row×List (aF×W)) (n:Nat):Prop:=∀k,k<n->(bu s k).1≠[]/\¬gY (bu s k)
theorem cu.add {s:List Row×List (aF×W)} {a b:Nat} (h1:cu s a) (h2:cu (bu s a) b):cu s (a+b):=λk hk=>by
 rcases Nat.lt_or_ge k a with z | z
 ·exact h1 k z
 ·have:=h2 (k-a) (by omega);rw [←fq,show a+(k-a)=k by omega] at this;exact this
theorem cu.one {r:Row} {st:List Row} {kvs:List (aF×W)} (h:¬cA kvs r):cu (r::st,kvs) 1:=λk hk=>by
 have:k=0:=by omega
 subst this;exact ⟨List.cons_ne_nil _ _,h⟩
noncomputable def bT:Row->Prop
 | .set _ _=>True
 | .add _ _=>True
 | .less _=>True
 | _=>False
theorem jt {r:Row} (h:bT r) (kvs:List (aF×W)):et kvs r=[]/\¬cA kvs r:=by
 cases r with
 | set _ _=>exact ⟨rfl,id⟩
 | add _ _=>exact ⟨rfl,id⟩
 | less _=>exact ⟨rfl,id⟩
 | _=>exact h.elim
theorem gZ:∀(rs st:List Row) (kvs:List (aF×W)),(∀r,r∈rs->bT r)->cu (rs++st,kvs) rs.length/\bu (rs++st,kvs) rs.length=(st,rs.foldl bY kvs)
 | [],st,kvs,_=>⟨λk hk=>absurd hk (Nat.not_lt_zero _),rfl⟩
 | r::rs,st,kvs,h=>by
   obtain ⟨h1,h2⟩:=jt (h r List.mem_cons_self) kvs;have en:dQ (r::rs++st,kvs)=(rs++st,bY kvs r):=by
    show (et kvs r++(rs++st),bY kvs r)=_;rw [h1]
    rfl
   obtain ⟨i1,i2⟩:=gZ rs st (bY kvs r) λx hx=>h x (List.mem_cons_of_mem _ hx);have e1:bu (r::rs++st,kvs) 1=(rs++st,bY kvs r):=en;refine ⟨?_,?_⟩
   ·rw [List.length_cons,Nat.add_comm];refine cu.add (cu.one (st:=rs++st) h2) ?_;show cu (bu (r::rs++st,kvs) 1) rs.length;rw [e1];exact i1
   ·rw [List.length_cons,mT,en];exact i2
theorem ju {x:Str}:∀(rs:List Row) (kvs:List (aF×W)),(∀r,r∈rs->∃n,r=.set x n)->∀y,y≠x->av (rs.foldl bY kvs) y=av kvs y
 | [],_,_,_,_=>rfl
 | r::rs,kvs,h,y,hy=>by
   obtain ⟨n,rfl⟩:=h r List.mem_cons_self;rw [List.foldl_cons,ju rs _ (λz hz=>h z (List.mem_cons_of_mem _ hz)) y hy];show av (bw kvs (.inr x) (.int n)) y=_;rw [bA,if_neg hy]
noncomputable def ck (tw:Bool) (L:Row):Row:=if tw=true then .times "d" (.cons L .nil) else L
noncomputable def fe (tw:Bool):Nat:=if tw=true then 2 else 0
theorem uy {tw:Bool} {L:Row} {st:List Row} {kvs:List (aF×W)} (hL:¬cA kvs (.times "d" (.cons L .nil))) (hd:tw=true->av kvs "d"=1):∃st',cu (ck tw L::st,kvs) (fe tw)/\bu (ck tw L::st,kvs) (fe tw)=(L::st',kvs):=by
 cases tw with
 | false=>exact ⟨st,λk hk=>absurd hk (Nat.not_lt_zero _),rfl⟩
 | true=>
   have e1:dQ (Rq.times "d" (.cons L .nil)::st,kvs)=(Rq.count (.cons L .nil) 1::st,kvs):=by
    show ([Rq.count (.cons L .nil) (av kvs "d")]++st,kvs)=_;rw [hd rfl]
    rfl
   have e2:dQ (Rq.count (.cons L .nil) 1::st,kvs)=(L:: .count (.cons L .nil) 0::st,kvs):=rfl;refine ⟨.count (.cons L .nil) 0::st,?_,?_⟩
   ·show cu (_,kvs) (1+1);refine cu.add (cu.one (r:= .times "d" (.cons L .nil)) id) ?_;show cu (dQ (Rq.times "d" (.cons L .nil)::st,kvs)) 1;rw [e1];exact cu.one id
   ·show dQ (dQ (Rq.times "d" (.cons L .nil)::st,kvs))=_;rw [e1,e2]
theorem wD {tw:Bool} {x y:Str} {ah ys ex:List Row} {hs:List (O×List Str)} {kvs:List (aF×W)} (ha:∀r,r∈ah->∃n,r=.set x n) (hy:∀r,r∈ys->∃n,r=.set y n) (he:∀r,r∈ex->bT r) (hd:tw=true->av kvs "d"=1) (h0:0<av kvs "a")
 (xa:"a"≠x) (xd:"d"≠x) (ya:"a"≠y):
 ∃(st:List Row) (k1 k2:List (aF×W)),(∀z,z≠x->av k1 z=av kvs z)/\(∀z,z≠y->av k2 z=av k1 z)/\cu (ah++[ck tw (.whl "a" hs (aN.of (ys++ex)))],kvs) (ah.length+fe tw+1+(ys++ex).length)/\
  bu (ah++[ck tw (.whl "a" hs (aN.of (ys++ex)))],kvs) (ah.length+fe tw+1+(ys++ex).length)=(.bear "a" hs (aN.of (ys++ex)) (bB (av k1) hs)::st,ex.foldl bY k2):=by
 have pl:∀r,r∈ah->bT r:=λr hr=>by obtain ⟨n,rfl⟩:=ha r hr;trivial
 have py:∀r,r∈ys++ex->bT r:=λr hr=>by
  rcases List.mem_append.mp hr with hr | hr
  ·obtain ⟨n,rfl⟩:=hy r hr;trivial
  ·exact he r hr
 obtain ⟨f1,e1⟩:=gZ ah [ck tw (.whl "a" hs (aN.of (ys++ex)))] kvs pl;have g1:=ju ah kvs ha;generalize ah.foldl bY kvs=k1 at e1 g1;obtain ⟨st,f2,e2⟩:=uy (tw:=tw) (L:= .whl "a" hs (aN.of (ys++ex))) (st:=[]) (kvs:=k1) id (λh=>by rw [g1 _ xd];exact hd h);have e3:dQ (Rq.whl "a" hs (aN.of (ys++ex))::st,k1)=((ys++ex)++(.bear "a" hs (aN.of (ys++ex)) (bB (av k1) hs)::st),k1):=by
  show ((if av k1 "a"=0 then [] else (aN.of (ys++ex)).L++[(Rq.bear "a" hs (aN.of (ys++ex)) (bB (av k1) hs):Row)])++st,k1)=_;rw [if_neg (by rw [g1 _ xa];omega),aN.L_of,List.append_assoc]
  rfl
 obtain ⟨f4,e4⟩:=gZ (ys++ex) (.bear "a" hs (aN.of (ys++ex)) (bB (av k1) hs)::st) k1 py;have r3:bu (ah++[ck tw (.whl "a" hs (aN.of (ys++ex)))],kvs) (ah.length+fe tw+1)=((ys++ex)++(.bear "a" hs (aN.of (ys++ex)) (bB (av k1) hs)::st),k1):=by
  rw [fq,fq,e1,e2];exact e3
 refine ⟨st,k1,ys.foldl bY k1,λz hz=>g1 z hz,λz hz=>ju ys k1 hy z hz,?_,?_⟩
 ·refine cu.add (cu.add (cu.add f1 (by rw [e1];exact f2)) ?_) ?_
  ·rw [fq,e1,e2];exact cu.one id
  ·rw [r3];exact f4
 ·rw [fq,r3,e4,List.foldl_append]
theorem uz {hs:List (O×List Str)} {rs:aN Str} {o:O} {st:List Row} {kvs:List (aF×W)} (h:¬cA kvs (.bear "a" hs rs o)) (h0:0<av kvs "a") {r:Row} {l:List Row} (hL:rs.L=r::l) (hr:bT r):cu (.bear "a" hs rs o::st,kvs) 2:=by
 show cu _ (1+1);refine cu.add (cu.one h) ?_;have e:bu (Rq.bear "a" hs rs o::st,kvs) 1=(r::(l++[.bear "a" hs rs (bB (av kvs) hs)]++st),kvs):=by
  show ((if av kvs "a"=0 then [] else rs.L++[(Rq.bear "a" hs rs (bB (av kvs) hs):Row)])++st,kvs)=_;rw [if_neg (by omega),hL]
  rfl
 rw [e];exact cu.one (jt hr kvs).2
structure BA (o:O):Prop where
 nf:o.NF
 dp:o.dp<=3
 hw:O.hw o<=3
 mx:O.mx o<=10^40
 nz:o≠ .z
noncomputable def BB:bZ:=λws G q _=>∃n:Int,ws=[.int n]/\∀o:O,BA o->q (.tup (au o)) G
theorem scEx:aE ["_law_cell"] ["_law_cell"] (ag (aU 49)):=⟨rfl,rfl,rfl,by decide+kernel,rfl,by decide+kernel,by decide+kernel⟩
theorem DG (F:cM K "_law_exponent" "_law_exponent" (aU 49) f fd) (F1:Fx P w K mg base "whole" ["n"] 3 lc) (F2:Fx P w K mg base "endless" [] 4 zH) (F4:Fx P w K mg base "raised" ["exponent","times"] 2 qU):cB P w K mg base 5 f fd ["_law_cell"] BB:=by
 have nd:=scEx.nd;refine eQ F scEx (λws G q e h=>by obtain ⟨_,rfl,_⟩:=h;rfl) (λcdv A outer s H E hr=>?_);apply aO
 ·exact (af (cc (bo (cE hr) (aR du (aa 0 rfl (.inl rfl)) ao) ao (aY _)) (af (aK (aD F1 (ay.mono hr (by omega)) rfl (ae (aR bC ao (aR du (aR kJ (aa 0 rfl (.inl rfl)) ao) (aR iX ao ao))) am))) ap) ap) (af (cc (bo (cE hr) (aR du (aa 0 rfl (.inl rfl)) ao) ao (aY _)) (af (aK (nJ F2 (ay.mono hr (by omega)) rfl)) ap) ap) (af (aK (aD F4 (ay.mono hr (by omega)) rfl (ae (nJ F2 (ay.mono hr (by omega)) rfl) (ae (aR bC ao (aR du (aR kJ (aa 0 rfl (.inl rfl)) ao) ao)) am)))) ap)))
 ·rintro ws G q e ⟨n,rfl,hq⟩;refine bt λU hU=>?_;walk_at "R"
  by_cases h4:n%3=0
  ·rw [if_pos h4];have x:=Wb.wh (n:=1+n/3%1000000000000000000000000000000) (by omega);have x1:=x.mx;refine ⟨_,rfl,by omega,aL.done (hq _ ⟨x.nf,?_,Nat.le_trans x.hw (by decide),by omega,?_⟩)⟩
   ·rw [O.wh_pos (by omega)];show max (0+1) 0<=3;decide
   ·rw [O.wh_pos (by omega)];exact λz=>nomatch z
  rw [if_neg h4];subst hU;refine bt λU hU=>?_;walk_at "R"
  by_cases h1:n%3=1
  ·rw [if_pos h1];exact ⟨rfl,aL.done (hq _ ⟨pC,by decide,by decide,by decide,λz=>nomatch z⟩)⟩
  rw [if_neg h1];subst hU;walk_at "R";refine ⟨rfl,om,_,rfl,by omega,?_⟩;rw [if_neg (by omega)];refine aL.done (hq _ ⟨⟨pC,by omega,trivial,trivial⟩,by show max (om.dp+1) O.z.dp<=3;decide,?_,?_,λz=>nomatch z⟩)
  ·rw [O.hw_c];show max (0+1) (max (O.hw om) 0)<=3;decide
  ·rw [O.mx_c];show max (1+n/3%1000) (max (O.mx om) 0)<=_;have:O.mx om=1:=by decide
   omega
noncomputable def bU (w3:Bool) (o:O):List (O×Str):=(o,"b")::if w3=true then [(.z,"c")] else []
noncomputable def dm (w3:Bool) (o:O):List (O×List Str):=(o,["b"])::if w3=true then [(.z,["c"])] else []
theorem xG {o:O} (h:o≠ .z):O.cmp .z o<0:=by
 cases o with
 | z=>exact absurd rfl h
 | c _ _ _=>simp [O.cmp]
theorem BC {w3:Bool} {o:O} (h:o≠ .z):re (bU w3 o)=dm w3 o:=by
 cases w3 with
 | false=>
   have:=oh (ms:=bU false o) (ks:=[o]) (by simp [cX]) (λx=>by simp [bU]);rw [←this];simp [bU,dm,cr]
 | true=>
   have:=oh (ms:=bU true o) (ks:=[o,.z]) (by simp [cX,xG h]) (λx=>by simp [bU]);rw [←this];have h':¬O.z=o:=λz=>h z.symm;simp [bU,dm,cr,h,h']
theorem BD {w3:Bool} {o:O} (h:BA o):Mk 12 (dm w3 o):=by
 have e:∀p,p∈dm w3 o->(p.1=o∨p.1=.z)/\p.2.length<=1:=λp hp=>by
  cases w3 with
  | false=>
    rw [List.mem_singleton.mp hp];exact ⟨.inl rfl,Nat.le_refl _⟩
  | true=>
    rcases List.mem_cons.mp hp with rfl | hp
    ·exact ⟨.inl rfl,Nat.le_refl _⟩
    ·rw [List.mem_singleton.mp hp];exact ⟨.inr rfl,Nat.le_refl _⟩
 have hl:(dm w3 o).length<=2:=by cases w3<;> simp [dm]
 have w1:=Wb.wh (n:=1) (by decide);have a1:=O.hw_plus o (O.wh 1);have a2:=O.mx_plus (b:=O.wh 1) h.nf;have a3:=w1.hw;have a4:=w1.mx;have a5:=h.hw;have a6:=h.mx;have eh:hpw (dm w3 o)=.c (O.plusO o (O.wh 1)) 1 .z:=rfl;refine ⟨λp hp=>?_,⟨by omega,λp hp=>by have:=(e p hp).2;omega,?_⟩,by omega,?_,?_,λp hp=>?_⟩
 ·rcases (e p hp).1 with e1 | e1<;> rw [e1]
  ·exact ⟨h.nf,h.dp,by omega⟩
  ·exact ⟨trivial,Nat.zero_le _,Nat.zero_le _⟩
 ·cases w3 with
  | false=>simp [dm,cX]
  | true=>simp [dm,cX,xG h.nz]
 ·rw [eh,O.hw_c];show max (0+1) (max (O.hw (O.plusO o (O.wh 1))) 0)<=200;omega
 ·rw [eh,O.mx_c];show max 1 (max (O.mx (O.plusO o (O.wh 1))) 0)<=_;omega
 ·rcases (e p hp).1 with e1 | e1<;> rw [e1]
  ·omega
  ·show (0:Int)<=_;decide
theorem ff {cp:Prop} {s:Nat} {B:Int}:∀rs:List Row,(∀r,r∈rs->bT r/\gr cp s B r)->uo cp s B (aN.of rs)/\(aN.of rs).hb=rs.length/\(aN.of rs).mb=rs.length/\(aN.of rs).lb=rs.length
 | [],_=>⟨trivial,rfl,rfl,rfl⟩
 | r::rs,h=>by
   obtain ⟨h1,h2,h3,h4⟩:=ff rs λx hx=>h x (List.mem_cons_of_mem _ hx);obtain ⟨p1,p2⟩:=h r List.mem_cons_self;have e:r.hb=1/\r.mb=1/\r.lb=1:=by
    cases r with
    | set _ _=>exact ⟨rfl,rfl,rfl⟩
    | add _ _=>exact ⟨rfl,rfl,rfl⟩
    | less _=>exact ⟨rfl,rfl,rfl⟩
    | _=>exact p1.elim
   refine ⟨⟨p2,h1⟩,?_,?_,?_⟩
   ·show (aN.of rs).hb+r.hb=_;rw [h2,e.1];rfl
   ·show (aN.of rs).mb+r.mb=_;rw [h3,e.2.1];rfl
   ·show (aN.of rs).lb+r.lb=_;rw [h4,e.2.2];rfl
theorem uA {cp:Prop} {B:Int} {w3:Bool} {o:O} {rs:List Row} (ho:BA o) (h:∀r,r∈rs->bT r/\gr cp 12 B r) (hl:rs.length<=11):gr cp 12 B (.whl "a" (dm w3 o) (aN.of rs)):=by
 obtain ⟨h1,h2,h3,h4⟩:=ff rs h;exact ⟨⟨h1,by omega,by rw [h3];exact Nat.le_trans hl (by decide),by omega⟩,BD ho⟩
theorem wE {cp:Prop} {B:Int} {w3 tw:Bool} {o:O} {rs:List Row} (ho:BA o) (h:∀r,r∈rs->bT r/\gr cp 12 B r) (hl:rs.length<=11):gr cp 12 B (ck tw (.whl "a" (dm w3 o) (aN.of rs)))/\(ck tw (.whl "a" (dm w3 o) (aN.of rs))).lb<=2:=by
 have hw:=uA (w3:=w3) ho h hl;cases tw with
 | false=>exact ⟨hw,Nat.le_refl _⟩
 | true=>
   obtain ⟨h1,h2,h3,h4⟩:=ff rs h;have w1:=Wb.wh (n:=1) (by decide);have a2:=O.mx_plus (b:=O.wh 1) ho.nf;have a4:=w1.mx;have a6:=ho.mx;have eh:hpw (dm w3 o)=.c (O.plusO o (O.wh 1)) 1 .z:=rfl;have m1:O.mx (hpw (dm w3 o))<=10^40+1:=by
    rw [eh,O.mx_c];show max 1 (max (O.mx (O.plusO o (O.wh 1))) 0)<=_;omega
   have m2:=(BD (w3:=w3) ho).h;refine ⟨⟨⟨hw,trivial⟩,?_,?_,?_⟩,by show 1<=2;decide⟩
   ·have a1:=O.hw_plus o (O.wh 1);have a3:=w1.hw;have a5:=ho.hw;have:O.hw (hpw (dm w3 o))<=10:=by rw [eh,O.hw_c];show max (0+1) (max (O.hw (O.plusO o (O.wh 1))) 0)<=10;omega
    show 0+((aN.of rs).hb+O.hw (hpw (dm w3 o))+2)<=200;omega
   ·show 0+(((aN.of rs).mb+3)*((O.mx (hpw (dm w3 o))).toNat+1)+1)<=_;have:=Nat.mul_le_mul (show (aN.of rs).mb+3<=14 by omega) (show (O.mx (hpw (dm w3 o))).toNat+1<=10^40+2 by omega);omega
   ·show 0+2<=12;decide
theorem wF {r:Row} (h:Sz r):kj (.cons r .nil):=⟨⟨h.nn,trivial⟩,by have:=h.hb;show 0+r.hb<=500;omega,by have:=h.mb;show ((0+r.mb:Nat):Int)<=_;rw [Nat.zero_add];exact this⟩
theorem qZ {cp:Prop} {s:Nat} {B:Int} {rs:List Row} (h:∀r,r∈rs->bT r/\gr cp s B r) (hl:rs.length<=11):kj (aN.of rs):=by
 obtain ⟨h1,h2,h3,h4⟩:=ff rs h;refine ⟨(dU _ h1).1,by omega,?_⟩;rw [h3];exact Int.le_trans (Int.ofNat_le.mpr hl) (by decide+kernel)
theorem q0 {cp:Prop} {s:Nat} {B:Int} {rs:List Row} (h:∀r,r∈rs->bT r/\gr cp s B r):Bn (Sk cp) (aN.of rs):=λr hr=>by
 rw [aN.L_of] at hr;exact p9 (h r hr).2
theorem wG {cp:Prop} {w3 tw:Bool} {o:O} {ah rs:List Row} {kvs:List (aF×W)} (ho:BA o) (h:∀r,r∈rs->bT r/\gr cp 12 (10^41) r) (hl:rs.length<=11) (ha:∀r,r∈ah->bT r/\gr cp 12 (10^41) r) (hn:ah.length<=5) (hB:cY (10^41) kvs) (hk:kvs.length<=100):
 qX cp 12 10 (10^41) 0 (ah++[ck tw (.whl "a" (dm w3 o) (aN.of rs))],kvs):=by
 obtain ⟨g1,g2⟩:=wE (w3:=w3) (tw:=tw) ho h hl;obtain ⟨_,_,_,a4⟩:=ff ah ha;have e:(10:Int)^41*2^0=10^41:=by decide
 refine ⟨λr hr=>?_,?_,?_,hk⟩
 ·rw [e];rcases List.mem_append.mp hr with hr | hr
  ·exact (ha r hr).2
  ·rw [List.mem_singleton.mp hr];exact g1
 ·rw [e];exact hB
 ·show ((ah++[ck tw (.whl "a" (dm w3 o) (aN.of rs))]).map Rq.lb).sum<=_;rw [List.map_append,List.sum_append];have:=lp (aN.of ah);rw [aN.L_of,a4] at this;rw [this];show ah.length+((ck tw (.whl "a" (dm w3 o) (aN.of rs))).lb+0)<=_;omega
theorem mU {m:Nat} (h:m<=21):(∀i,i<=m->(10:Int)^41*2^i<=10^100)/\∀i,i<=m->10+(3*12+2)*i<=900:=by
 refine ⟨λi hi=>?_,λi hi=>by omega⟩;have h1:(2:Nat)^i<=2^21:=Nat.pow_le_pow_right (by decide) (by omega);have h2:((2:Int))^i<=2^21:=by
  have:=Int.ofNat_le.mpr h1;simpa using this
 exact Int.le_trans (Int.mul_le_mul_of_nonneg_left h2 (by decide)) (by decide+kernel)
theorem xI (g:Str->Int) (x:Str):fM g [x]=g x:=by simp [fM]
theorem uB {g:Str->Int} {w3:Bool} {o:O} (h:0<g "b"):∃r,bB g (dm w3 o)=.c o (g "b") r/\(w3=false->r=.z):=by
 have e:bB g (dm w3 o)=.c o (fM g ["b"]) (bB g (if w3=true then [(.z,["c"])] else [])):=if_neg (by rw [xI];omega);rw [xI] at e;refine ⟨_,e,λz=>?_⟩;subst z
 rfl
theorem mV {o r r':O} {n m:Int} (h:n<m):O.cmp (.c o n r) (.c o m r')<0/\0<=O.cmp (.c o m r') (.c o n r):=by
 simp only [O.cmp,O.cmp_self];constructor
 ·simp [h]
 ·simp [h,Int.not_lt.mpr (Int.le_of_lt h)]
noncomputable def gs:Int->List Row
 | 1=>[.add "b" "a"]
 | 2=>[.less "b"]
 | 3=>[.add "c" "a",.less "b"]
 | _=>[]
theorem BE {way:Int} {w3:Bool} {o:O} {rs:aN Str} {k1 k2:List (aF×W)} (hw:0<=way/\way<=3) (h3:w3=decide (way=3)) (ha:0<av k2 "a") (hb:2<=av k2 "b") (hb1:av k1 "b"=av k2 "b") (hw1:way<2->av k1 "b"=av k2 "b"):
 0<av ((gs way).foldl bY k2) "a"/\(way<2->cA ((gs way).foldl bY k2) (.bear "a" (dm w3 o) rs (bB (av k1) (dm w3 o))))/\(2<=way->¬cA ((gs way).foldl bY k2) (.bear "a" (dm w3 o) rs (bB (av k1) (dm w3 o)))):=by
 have ab:("a":Str)≠"b":=by decide
 have ac:("a":Str)≠"c":=by decide
 have bc:("b":Str)≠"c":=by decide
 obtain ⟨r1,m1,z1⟩:=uB (g:=av k1) (w3:=w3) (o:=o) (by omega);have hh:way=0∨way=1∨way=2∨way=3:=by omega
 have key:∀k3:List (aF×W),0<av k3 "a"->1<=av k3 "b"->(av k2 "b"<=av k3 "b"->w3=false->cA k3 (.bear "a" (dm w3 o) rs (bB (av k1) (dm w3 o))))/\(av k3 "b"<av k2 "b"->¬cA k3 (.bear "a" (dm w3 o) rs (bB (av k1) (dm w3 o)))):=λk3 h1 h2=>by
  obtain ⟨r3,m3,z3⟩:=uB (g:=av k3) (w3:=w3) (o:=o) (by assumption);rw [m1];refine ⟨λhge hw3=>⟨h1,?_⟩,λhlt hn=>?_⟩
  ·rw [m3,z1 hw3,z3 hw3,hb1]
   by_cases e:av k2 "b"=av k3 "b"
   ·rw [e,O.cmp_self];exact Int.le_refl _
   ·exact (mV (by omega)).2
  ·have:=hn.2;rw [m3,hb1] at this;have:=(mV (o:=o) (r:=r3) (r':=r1) hlt).1;omega
 rcases hh with rfl | rfl | rfl | rfl
 ·exact ⟨ha,λ_=>(key k2 ha (by omega)).1 (Int.le_refl _) (by rw [h3];rfl),λh=>absurd h (by decide)⟩
 ·have e:(gs 1).foldl bY k2=bw k2 (.inr "b") (.int (av k2 "b"+av k2 "a")):=rfl;rw [e];have g1:av (bw k2 (.inr "b") (.int (av k2 "b"+av k2 "a"))) "a"=av k2 "a":=by rw [bA,if_neg ab]
  have g2:av (bw k2 (.inr "b") (.int (av k2 "b"+av k2 "a"))) "b"=av k2 "b"+av k2 "a":=by rw [bA,if_pos rfl]
  exact ⟨by omega,λ_=>(key _ (by omega) (by omega)).1 (by omega) (by rw [h3];rfl),λh=>absurd h (by decide)⟩
 ·have e:(gs 2).foldl bY k2=bw k2 (.inr "b") (.int (if av k2 "b" -1<0 then 0 else av k2 "b" -1)):=rfl;rw [e,if_neg (by omega)];have g1:av (bw k2 (.inr "b") (.int (av k2 "b" -1))) "a"=av k2 "a":=by rw [bA,if_neg ab]
  have g2:av (bw k2 (.inr "b") (.int (av k2 "b" -1))) "b"=av k2 "b" -1:=by rw [bA,if_pos rfl]
  exact ⟨by omega,λh=>absurd h (by decide),λ_=>(key _ (by omega) (by omega)).2 (by (clear ha hb ab ac bc m1 z1 key hw h3 hw1 e g1;omega))⟩
 ·have g0:av (bw k2 (.inr "c") (.int (av k2 "c"+av k2 "a"))) "b"=av k2 "b":=by rw [bA,if_neg bc]
  have g9:av (bw k2 (.inr "c") (.int (av k2 "c"+av k2 "a"))) "a"=av k2 "a":=by rw [bA,if_neg ac]
  have e:(gs 3).foldl bY k2=bw (bw k2 (.inr "c") (.int (av k2 "c"+av k2 "a"))) (.inr "b") (.int (if av k2 "b" -1<0 then 0 else av k2 "b" -1)):=by rw [←g0];rfl
  rw [e,if_neg (by omega)];generalize bw k2 (.inr "c") (.int (av k2 "c"+av k2 "a"))=k4 at g0 g9;have g1:av (bw k4 (.inr "b") (.int (av k2 "b" -1))) "a"=av k4 "a":=by rw [bA,if_neg ab]
  have g2:av (bw k4 (.inr "b") (.int (av k2 "b" -1))) "b"=av k2 "b" -1:=by rw [bA,if_pos rfl]
  exact ⟨by omega,λh=>absurd h (by decide),λ_=>(key _ (by omega) (by omega)).2 (by omega)⟩
theorem kr {C:Cs} {b:Str} {xs:List W} {G:Gp} {p:Addr} {q:List W->Gp->Prop} (hp:G p=some (.lst xs)) (hx:∀x,x∈xs->∃n:Int,x=.int n) (hl:xs.length<=1000)
 (hq:∀(ps:List (Addr×Row)) (G':Gp),aL G G'->Rows C G' ps->(∀x,x∈ps->∃n:Int,x.2=.set b n/\0<=n/\n<=10^40)->ps.length=xs.length->q (refs ps) G'):
 bX (λG=>G p=some (.lst xs)) (cZ 1) jP (lT C.s (oH C 0) [] (cU (wC (.str b)) (cU (wV Ay (jx 1) (wV xk (wC (.int 10)) (wC (.int 40)))) iS))) xs [none,none,none] G [] q:=by
 refine mj (i:=1) (τ0:=[none,none,none]) (λws acc G'=>∃ps:List (Addr×Row),acc=refs ps/\Rows C G' ps/\(∀x,x∈ps->∃n:Int,x.2=.set b n/\0<=n/\n<=10^40)/\aL G G'/\ps.length+ws.length=xs.length/\∀x,x∈ws->∃n:Int,x=.int n) ?_ ?_ ⟨[],rfl,λ_ h=>(nomatch h),λ_ h=>(nomatch h),aL.refl _,by simp,hx⟩ (by simp only [List.length_nil];omega) (λ_=>rfl)
 ·rintro acc G' ⟨ps,rfl,h1,h2,h3,h4,_⟩;exact ⟨h3 _ _ hp,hq ps G' h3 h1 h2 (by simpa using h4)⟩
 ·rintro x ws acc G' k ⟨ps,rfl,h1,h2,h3,h4,h5⟩ hk;obtain ⟨n,rfl⟩:=h5 x List.mem_cons_self;rw [List.length_cons] at h4;refine ⟨h3 _ _ hp,?_⟩;walk_at "R";intro a ha;refine ⟨a,.set b (n%10000000000000000000000000000000000000000),rfl,rfl,ak,λG2 g1 g2=>⟨rfl,?_⟩⟩;have le:aL G' G2:=λx g e=>(g2 x (λz=>by rw [z,ha] at e;cases e)).trans (aW e ha);refine hk _ _ ⟨ps++[(a,.set b (n%10000000000000000000000000000000000000000))],by simp [refs],λy hy=>?_,λy hy=>?_,h3.trans le,by simp only [List.length_append,List.length_cons,List.length_nil];omega,λy hy=>h5 y (List.mem_cons_of_mem _ hy)⟩ (by simp only [refs,List.length_map];omega)
  ·rcases List.mem_append.mp hy with hy | hy
   ·exact (h1 y hy).mono (aL.ins le)
   ·rw [List.mem_singleton.mp hy];exact .set g1
  ·rcases List.mem_append.mp hy with hy | hy
   ·exact h2 y hy
   ·rw [List.mem_singleton.mp hy];exact ⟨_,rfl,by omega,by omega⟩
theorem mW {ns:List Int} {a j:Nat}:(∀x,x∈dv (ns.map W.int) (some (a:Int)) (some ((a+j:Nat):Int))->∃n:Int,x=.int n)/\(dv (ns.map W.int) (some (a:Int)) (some ((a+j:Nat):Int))).length<=j:=by
 obtain ⟨x,y,e,h⟩:=zg (ns.map W.int) a (a+j);rw [e];refine ⟨λz hz=>?_,?_⟩
 ·have:=List.mem_of_mem_drop (List.mem_of_mem_take hz);obtain ⟨n,_,rfl⟩:=List.mem_map.mp this;exact ⟨n,rfl⟩
 ·have:=List.length_take_le y ((ns.map W.int).drop x);omega
noncomputable def BF (C:Cs) (Cf:Addr) (cp:Prop):bZ:=λws G q _=>qY C Cf cp ws G q λ_ _=>False
theorem iF {cp:Prop} {x:Addr×Row} {b:Str} (h:∃n:Int,x.2=.set b n/\0<=n/\n<=10^40):bT x.2/\gr cp 12 (10^41) x.2/\∃n,x.2=.set b n:=by
 obtain ⟨n,e,h0,h1⟩:=h;rw [e];exact ⟨trivial,⟨h0,by omega⟩,n,rfl⟩
structure rc (C:Cs) (G:Gp) (pa pr pm:Addr) (ah rs:List (Addr×Row)) (ms:List (O×Str)):Prop where
 ga:G pa=some (.lst (refs ah))
 gr:G pr=some (.lst (refs rs))
 gm:G pm=some (.lst (oG ms))
 Ra:Rows C G ah
 Rr:Rows C G rs
 ra:pr≠pa
 ma:pm≠pa
 mr:pm≠pr
theorem rc.row {C:Cs} {G G':Gp} {pa pr pm p ci:Addr} {ah rs:List (Addr×Row)} {ms:List (O×Str)} {r:Row} {fs:List (Str×W)} {g0:GO} (h:rc C G pa pr pm ah rs ms) (hp:G p=none) (g1:G' p=some (.ins ci fs)) (mk:∀G2:Gp,G2 p=some (.ins ci fs)->gq C G2 p r) (g2:∀x,x≠p->G' x=aG G p g0 x):
 G' pr=some (.lst (refs rs))/\rc C (aG G' pr (.lst (refs rs++[.ref p]))) pa pr pm ah (rs++[(p,r)]) ms:=by
 have le:aL G G':=λx g e=>(g2 x (λz=>by rw [z,hp] at e;cases e)).trans (aW e hp);have gr':=le _ _ h.gr;have np:p≠pr:=λz=>by rw [z,h.gr] at hp;cases hp
 have I:bW G' (aG G' pr (.lst (refs rs++[.ref p]))):=bW.but (p:=pr) (λx g xl e=>(aq xl).trans e) (λC' y fs e=>by rw [gr'] at e;cases e);refine ⟨gr',⟨(aq h.ra.symm).trans (le _ _ h.ga),?_,(aq h.mr).trans (le _ _ h.gm),(h.Ra.mono (aL.ins le)).mono I,λx hx=>?_,h.ra,h.ma,h.mr⟩⟩
 ·rw [ak];simp [refs]
 ·rcases List.mem_append.mp hx with hx | hx
  ·exact ((h.Rr x hx).mono (aL.ins le)).mono I
  ·rw [List.mem_singleton.mp hx];exact mk _ ((aq np).trans g1)
theorem rc.mark {C:Cs} {G:Gp} {pa pr pm:Addr} {ah rs:List (Addr×Row)} {ms:List (O×Str)} (h:rc C G pa pr pm ah rs ms):rc C (aG G pm (.lst (oG ms++[.tup [.tup [],.str "c"]]))) pa pr pm ah rs (ms++[((O.z,"c"):O×Str)]):=by
 have I:bW G (aG G pm (.lst (oG ms++[.tup [.tup [],.str "c"]]))):=bW.but (p:=pm) (λx g xl e=>(aq xl).trans e) (λC' y fs e=>by rw [h.gm] at e;cases e);refine ⟨(aq h.ma.symm).trans h.ga,(aq h.mr.symm).trans h.gr,?_,h.Ra.mono I,h.Rr.mono I,h.ra,h.ma,h.mr⟩;rw [ak];simp only [oG,List.map_append,List.map_cons,List.map_nil]
 rfl
theorem rc.mono {C:Cs} {G G':Gp} {pa pr pm:Addr} {ah rs:List (Addr×Row)} {ms:List (O×Str)} (h:rc C G pa pr pm ah rs ms) (l:aL G G'):rc C G' pa pr pm ah rs ms:=
 ⟨l _ _ h.ga,l _ _ h.gr,l _ _ h.gm,h.Ra.mono (aL.ins l),h.Rr.mono (aL.ins l),h.ra,h.ma,h.mr⟩
noncomputable def uC (kvs:List (aF×W)):Prop:=(kvs.map (·.1)).Nodup
theorem uC.put {kvs:List (aF×W)} (h:uC kvs) (k:aF) (w:W):uC (bw kvs k w):=by
 unfold uC bw at*;split
 ·rw [List.map_map];have:kvs.map ((λx:aF×W=>x.1) ∘ λkv=>if kv.1=k then (kv.1,w) else kv)=kvs.map (·.1):=List.map_congr_left λx _=>by
   show (if x.1=k then (x.1,w) else x).1=x.1;split<;> rfl
  rw [this];exact h
 ·rename_i e;rw [List.map_append,List.nodup_append];refine ⟨h,by simp,λa ha b hb z=>e ?_⟩;obtain ⟨x,hx,rfl⟩:=List.mem_map.mp ha;rw [List.mem_singleton.mp hb] at z;exact List.any_eq_true.mpr ⟨x,hx,decide_eq_true z⟩
theorem uC.val {kvs:List (aF×W)} (h:uC kvs) {p:aF×W} (hp:p∈kvs):cz kvs p.1=some p.2:=by
 unfold uC at h
 induction kvs with
 | nil=>cases hp
 | cons x kvs ih=>
   rw [List.map_cons,List.nodup_cons] at h;unfold cz;rw [List.find?_cons];rcases List.mem_cons.mp hp with rfl | hp
   ·rw [decide_eq_true rfl];rfl
   ·rw [decide_eq_false (λz=>h.1 (by rw [z];exact List.mem_map.mpr ⟨p,hp,rfl⟩))];exact ih h.2 hp
noncomputable def wH (a b c:Int):List (aF×W):=bw (bw (bw [] (.inr "a") (.int a)) (.inr "b") (.int b)) (.inr "c") (.int c)
theorem zQ {a b c:Int} (ha:1<=a/\a<=10^40) (hb:2<=b/\b<=10^40+1) (hc:0<=c/\c<=6):cY (10^41) (wH a b c)/\(wH a b c).length<=3/\av (wH a b c) "a"=a/\av (wH a b c) "b"=b/\uC (wH a b c):=by
 have ab:("a":Str)≠"b":=by decide
 have ac:("a":Str)≠"c":=by decide
 have bc:("b":Str)≠"c":=by decide
 have l1:=cj [] (.inr "a") (.int a);have l2:=cj (bw [] (.inr "a") (.int a)) (.inr "b") (.int b);have l3:=cj (bw (bw [] (.inr "a") (.int a)) (.inr "b") (.int b)) (.inr "c") (.int c);refine ⟨((cY.put (kvs:=[]) (λp hp=>(nomatch hp)) _ (by omega) (by omega)).put _ (by omega) (by omega)).put _ (by omega) (by omega),?_,?_,?_,((uC.put (kvs:=[]) (by simp [uC]) _ _).put _ _).put _ _⟩
 ·show (bw (bw (bw [] (.inr "a") (.int a)) (.inr "b") (.int b)) (.inr "c") (.int c)).length<=3;rw [List.length_nil] at l1;assumption
 ·unfold wH;rw [bA,if_neg ac,bA,if_neg ab,bA,if_pos rfl]
 ·unfold wH;rw [bA,if_neg bc,bA,if_pos rfl]
theorem wI {C:Cs} {G:Gp} {ys e3:List (Addr×Row)} {way:Int} {cp:Prop} (hw:0<=way/\way<=3) (hy:∀x,x∈ys->∃n:Int,x.2=.set "y" n/\0<=n/\n<=10^40) (he:e3.map (·.2)=gs way) (hl:ys.length<=9):
 (∀r,r∈(ys++e3).map (·.2)->bT r/\gr cp 12 (10^41) r)/\(ys++e3).length<=11/\(ys++e3).map (·.2)=ys.map (·.2)++gs way/\(∀r,r∈gs way->bT r)/\(∀r,r∈ys.map (·.2)->∃n,r=.set "y" n):=by
 have hx:(∀r,r∈gs way->bT r/\gr cp 12 (10^41) r)/\(gs way).length<=2:=by
  have hh:way=0∨way=1∨way=2∨way=3:=by omega
  rcases hh with rfl | rfl | rfl | rfl
  ·exact ⟨λr hr=>(nomatch hr),Nat.zero_le _⟩
  ·exact ⟨λr hr=>by rw [List.mem_singleton.mp hr];exact ⟨trivial,trivial⟩,by decide⟩
  ·exact ⟨λr hr=>by rw [List.mem_singleton.mp hr];exact ⟨trivial,trivial⟩,by decide⟩
  ·refine ⟨λr hr=>?_,by decide⟩;rcases List.mem_cons.mp hr with rfl | hr
   ·exact ⟨trivial,trivial⟩
   ·rw [List.mem_singleton.mp hr];exact ⟨trivial,trivial⟩
 have le:=congrArg List.length he;rw [List.length_map] at le;refine ⟨λr hr=>?_,by rw [List.length_append];omega,by rw [List.map_append,he],λr hr=>(hx.1 r hr).1,λr hr=>?_⟩
 ·rw [List.map_append,he] at hr;rcases List.mem_append.mp hr with hr | hr
  ·obtain ⟨x,hx',rfl⟩:=List.mem_map.mp hr;have:=iF (cp:=cp) (hy x hx');exact ⟨this.1,this.2.1⟩
  ·exact hx.1 r hr
 ·obtain ⟨x,hx',rfl⟩:=List.mem_map.mp hr;exact (iF (cp:=cp) (hy x hx')).2.2
structure D1 (C:Cs) (cp:Prop) (G:Gp) (pb pl:Addr) (ps:List (Addr×Row)) (kvs:List (aF×W)):Prop where
 gb:G pb=some (.dic kvs)
 gl:G pl=some (.lst (refs ps))
 R:Rows C G ps
 bx:cY (10^41) kvs
 ln:kvs.length<=4
 nd:uC kvs
theorem wJ {cp:Prop} {r:Row} {s:Nat} {B:Int} (h:gr cp s B r):Bn (Sk cp) (aN.of [r]):=λx hx=>by
 rw [aN.L_of] at hx;rw [List.mem_singleton.mp hx];exact p9 h
theorem Rows.one {C:Cs} {G:Gp} {p:Addr} {r:Row} (h:gq C G p r):Rows C G [(p,r)]:=λx hx=>by
 rw [List.mem_singleton.mp hx];exact h
theorem cu.le {s:List Row×List (aF×W)} {n m:Nat} (h:cu s n) (l:m<=n):cu s m:=λk hk=>h k (by omega)
theorem wK {cp:Prop} {way:Int} {tw:Bool} {o:O} {ah ys:List Row} {kv:List (aF×W)} (hw:0<=way/\way<=3) (ha:∀r,r∈ah->∃n,r=.set "z" n) (hy:∀r,r∈ys->∃n,r=.set "y" n) (he:∀r,r∈gs way->bT r) (va:1<=av kv "a") (vb:2<=av kv "b") (vd:tw=true->av kv "d"=1):
 cu (ah++[ck tw (.whl "a" (dm (decide (way=3)) o) (aN.of (ys++gs way)))],kv) (ah.length+fe tw+1+(ys++gs way).length)/\(way<2->gY (bu (ah++[ck tw (.whl "a" (dm (decide (way=3)) o) (aN.of (ys++gs way)))],kv) (ah.length+fe tw+1+(ys++gs way).length)))/\(2<=way->cu (ah++[ck tw (.whl "a" (dm (decide (way=3)) o) (aN.of (ys++gs way)))],kv) (ah.length+fe tw+1+(ys++gs way).length+2)):=by
 obtain ⟨st,k1,k2,g1,g2,f1,e1⟩:=wD (tw:=tw) (x:="z") (y:="y") (hs:=dm (decide (way=3)) o) (kvs:=kv) ha hy he vd (by assumption) (by decide) (by decide) (by decide);have a2:av k2 "a"=av kv "a":=by rw [g2 "a" (by decide),g1 "a" (by decide)]
 have b1:av k1 "b"=av kv "b":=g1 "b" (by decide);have b2:av k2 "b"=av k1 "b":=g2 "b" (by decide);obtain ⟨h1,h2,h3⟩:=BE (way:=way) (w3:=decide (way=3)) (o:=o) (rs:=aN.of (ys++gs way)) (k1:=k1) (k2:=k2) hw rfl (by omega) (by omega) b2.symm (λ_=>b2.symm);refine ⟨f1,λw2=>?_,λw2=>?_⟩
 ·rw [e1];exact h2 w2
 ·refine cu.add f1 ?_;rw [e1];have hne:∃r l,ys++gs way=r::l/\bT r:=by
   cases hl:ys++gs way with
   | nil=>
     have:=(List.append_eq_nil_iff.mp hl).2;have hh:way=2∨way=3:=by omega
     rcases hh with rfl | rfl<;> cases this
   | cons r l=>
     refine ⟨r,l,rfl,?_⟩;have hr:r∈ys++gs way:=by rw [hl];exact List.mem_cons_self
     rcases List.mem_append.mp hr with hr | hr
     ·obtain ⟨n,rfl⟩:=hy r hr;trivial
     ·exact he r hr
  obtain ⟨r,l,hl,hr⟩:=hne;exact uz (h3 w2) h1 (r:=r) (l:=l) (by rw [aN.L_of];exact hl) hr
theorem scLw:aE ["_law_script","_law_way","_law_ahead","_law_rows","_law_many","_law_marks","_law_boxes","_law_made","_law_at","_law_most","_law_before","_law_found"] ["_law_script"] (ag (aU 50)):=⟨rfl,rfl,rfl,by decide+kernel,rfl,by decide+kernel,by decide+kernel⟩
theorem DH {C:Cs} {Cf:Addr} {cp:Prop} (F:cM K "law" "law" (aU 50) f fd) (F1:Fx P w K mg base "_law_cell_at" ["_law_script","_law_k"] 1 By) (F2:Fx P w K mg base "_law_exponent" ["_law_cell"] 5 BB) (F3:Fx P w K mg base "_law_refused" ["_law_made","_law_boxes","_law_most","_law_way"] 10 (Bz C cp)) (F4:Fx P w K mg base "trace" ["rows","boxes","most"] 9 (BF C Cf cp)) (N1:uG P w K mg base "Set" C.s ["self","box","amount"] 1 (oH C 0)) (N3:uG P w K mg base "Add" C.a ["self","box","other"] 1 (oH C 2)) (N4:uG P w K mg base "Less" C.l ["self","box"] 1 (oH C 3)) (Nt:uG P w K mg base "Times" C.t ["self","box","rows"] 8 (Br C (Sk cp))) (Nw:uG P w K mg base "While" C.w ["self","box","marks","rows"] 8 (Bs C (Sk cp))) (ml:mg "len"=none) (mi:mg "isinstance"=none) (mL:mg "list"=none) (md:mg "dict"=none):cB P w K mg base 11 f fd ["_law_script"] gS:=by
 have nd:=scLw.nd;refine eQ (k:=10) F scLw (λws G q e h=>by obtain ⟨_,rfl,_⟩:=h;rfl) (λcdv A outer s H E hr=>?_);apply aO
 ·refine' (af ?s1 (af ?s2 (af ?s3 (af ?s4 (af ?s5 (af ?s6 (af ?s7 (af ?s8 (af ?s9 (af ?s10 (af ?s11 (af ?s12 (af ?s13 (af ?s14 (af ?s15 (af ?s16 (af ?s17 ?s18)))))))))))))))))
  case s1=>exact (aV 1 nd rfl (.inl rfl) (aR du (aD F1 (ay.mono hr (by omega)) rfl (ae (aa 0 rfl (.inl rfl)) (ae ao am))) ao))
  case s2=>
   refine' lL 2 (fJ (by first | rfl | decide+kernel)) rfl nd rfl (by first | exact Or.inl rfl | exact Or.inr rfl) ?it (λ_ _ _ _=>?cg) (λ_ _ _ _=>fi) (λ_ _ _ _=>?ce)
   case it=>exact (dP (cP (aa 0 rfl (.inl rfl)) (dc ao) (dc (aR bC ao (aR du (aD F1 (ay.mono hr (by omega)) rfl (ae (aa 0 rfl (.inl rfl)) (ae ao am))) ao)))))
   case cg=>exact (cV 1 (by first | assumption | decide+kernel | rfl) rfl (.inl rfl))
   case ce=>exact (dy N1 (ay.mono hr (by omega)) rfl (ae cN (ae (aR du (aa 1 rfl (.inl rfl)) (aR iX ao ao)) am)))
  case s3=>
   refine' lL 3 (fJ (by first | rfl | decide+kernel)) rfl nd rfl (by first | exact Or.inl rfl | exact Or.inr rfl) ?it (λ_ _ _ _=>?cg) (λ_ _ _ _=>fi) (λ_ _ _ _=>?ce)
   case it=>exact (dP (cP (aa 0 rfl (.inl rfl)) (dc ao) (dc (aR bC ao (aR du (aD F1 (ay.mono hr (by omega)) rfl (ae (aa 0 rfl (.inl rfl)) (ae ao am))) ao)))))
   case cg=>exact (cV 1 (by first | assumption | decide+kernel | rfl) rfl (.inl rfl))
   case ce=>exact (dy N1 (ay.mono hr (by omega)) rfl (ae cN (ae (aR du (aa 1 rfl (.inl rfl)) (aR iX ao ao)) am)))
  case s4=>exact (aV 4 nd rfl (.inl rfl) (aR bC ao (aR du (aD F1 (ay.mono hr (by omega)) rfl (ae (aa 0 rfl (.inl rfl)) (ae ao am))) (aR iX ao ao))))
  case s5=>exact (aV 5 nd rfl (.inl rfl) (cm (ae (bv (ae (aD F2 (ay.mono hr (by omega)) rfl (ae (aD F1 (ay.mono hr (by omega)) rfl (ae (aa 0 rfl (.inl rfl)) (ae ao am))) am)) (ae cN am))) am)))
  case s6=>exact (cc (bo (cE hr) (aa 1 rfl (.inl rfl)) ao (aY _)) (af (cS (eX (aa 3 rfl (.inl rfl)) (dy N3 (ay.mono hr (by omega)) rfl (ae cN (ae cN am))))) ap) ap)
  case s7=>exact (cc (bo (cE hr) (aa 1 rfl (.inl rfl)) ao (aY _)) (af (cS (eX (aa 3 rfl (.inl rfl)) (dy N4 (ay.mono hr (by omega)) rfl (ae cN am)))) ap) ap)
  case s8=>exact (cc (bo (cE hr) (aa 1 rfl (.inl rfl)) ao (aY _)) (af (cS (eX (aa 5 rfl (.inl rfl)) (bv (ae (bv am) (ae cN am))))) (af (cS (eX (aa 3 rfl (.inl rfl)) (dy N3 (ay.mono hr (by omega)) rfl (ae cN (ae cN am))))) (af (cS (eX (aa 3 rfl (.inl rfl)) (dy N4 (ay.mono hr (by omega)) rfl (ae cN am)))) ap))) ap)
  case s9=>
   refine' aV 6 nd rfl (by first | exact Or.inl rfl | exact Or.inr rfl) (v5 (jg ?v1 (jg ?v2 (jg ?v3 v0))))
   case v1=>exact (aa 4 rfl (.inl rfl))
   case v2=>exact (aR bC ao (aR du (aD F1 (ay.mono hr (by omega)) rfl (ae (aa 0 rfl (.inl rfl)) (ae ao am))) (aR iX ao ao)))
   case v3=>exact (aR du (aD F1 (ay.mono hr (by omega)) rfl (ae (aa 0 rfl (.inl rfl)) (ae ao am))) ao)
  case s10=>exact (aV 7 nd rfl (.inl rfl) (cm (ae (dy Nw (ay.mono hr (by omega)) rfl (ae cN (ae (aa 5 rfl (.inl rfl)) (ae (aa 3 rfl (.inl rfl)) am)))) am)))
  case s11=>exact (aV 8 nd rfl (.inl rfl) (aR bC (aR bC (cJ fN rfl ml PySem.boot_len (ae (aa 2 rfl (.inl rfl)) am)) (cJ fN rfl ml PySem.boot_len (ae (aa 3 rfl (.inl rfl)) am))) ao))
  case s12=>exact (cc (bo (cE hr) (aR du (aD F1 (ay.mono hr (by omega)) rfl (ae (aa 0 rfl (.inl rfl)) (ae ao am))) ao) ao (aY _)) (af (aV 7 nd rfl (.inl rfl) (cm (ae (dy Nt (ay.mono hr (by omega)) rfl (ae cN (ae (aa 7 rfl (.inl rfl)) am))) am))) (af (iB ao (aa 6 rfl (.inl rfl)) cN) (af (aV 8 nd rfl (.inl rfl) (aR bC (aa 8 rfl (.inl rfl)) ao)) ap))) ap)
  case s13=>exact (aV 7 nd rfl (.inl rfl) (aR bC (aa 2 rfl (.inl rfl)) (aa 7 rfl (.inl rfl))))
  case s14=>exact (aV 9 nd rfl (.inl rfl) (aR bC (aR oZ (aa 8 rfl (.inl rfl)) ao) (aR du (aR kJ (aD F1 (ay.mono hr (by omega)) rfl (ae (aa 0 rfl (.inl rfl)) (ae ao am))) ao) ao)))
  case s15=>exact (aV 10 nd rfl (.inl rfl) (bN (tM rfl) rfl md ox (ae (aa 6 rfl (.inl rfl)) am)))
  case s16=>exact (cc (qB (kC (bo (lM hr) (aa 1 rfl (.inl rfl)) ao (aY _)) (iy (bo yB (aa 9 rfl (.inl rfl)) (aa 8 rfl (.inl rfl)) (aY _))))) (af (cc (rS (nC (aD F3 (ay.mono hr (by omega)) rfl (ae (aa 7 rfl (.inl rfl)) (ae (aa 6 rfl (.inl rfl)) (ae (aa 9 rfl (.inl rfl)) (ae (aR du (aD F1 (ay.mono hr (by omega)) rfl (ae (aa 0 rfl (.inl rfl)) (ae ao am))) ao) am))))))) (af (aK oW) ap) ap) (af (aV 9 nd rfl (.inl rfl) (aR oZ (aa 8 rfl (.inl rfl)) ao)) ap)) ap)
  case s17=>exact (aV 11 nd rfl (.inl rfl) (aD F4 (ay.mono hr (by omega)) rfl (ae (aa 7 rfl (.inl rfl)) (ae (aa 6 rfl (.inl rfl)) (ae (aa 9 rfl (.inl rfl)) am)))))
  case s18=>exact (af (aK (gG (nH (T:="list") (x:="list") (by first | simp [qD] | assumption | decide+kernel) nM mL rfl mi rfl (aa 11 rfl (.inl rfl))) (gG (nB (cE hr) (cJ fN rfl ml PySem.boot_len (ae (aa 11 rfl (.inl rfl)) am)) (aR bC (aa 9 rfl (.inl rfl)) ao) (aY _)) (kD (nB (cE hr) (aa 6 rfl (.inl rfl)) (aa 10 rfl (.inl rfl)) (aY _)))))) ap)
 ·rintro ws G q e ⟨ns,rfl,hl,hc,hq⟩;refine bt λU hU=>?_;walk_at "R";refine ⟨ns,0,rfl,by decide,hc,λc0 _=>?_⟩;walk_at "R";have hway:0<=c0%4/\c0%4<=3:=by omega
  generalize c0%4=way at hway;subst hU;refine bt λU hU=>?_;walk_at "R";refine ⟨ns,1,rfl,by decide,hc,λc1 _=>?_⟩;obtain ⟨j1,hj1⟩:=Int.eq_ofNat_of_zero_le (show 0<=c1%6 by omega);have hj1':j1<=5:=by omega
  walk_at "R";rw [hj1];refine ⟨by omega,λp1 hp1=>⟨_,ak,?_⟩⟩;obtain ⟨i1,i2⟩:=mW (ns:=ns) (a:=8) (j:=j1);rw [show (8:Int)+(j1:Int)=((8+j1:Nat):Int) by omega];rw [show ((8:Nat):Int)=8 from rfl] at i1 i2;show bX _ _ _ _ _ [none,none,none] _ [] _;refine kr (C:=C) (b:="z") ak i1 (by omega) λah G1 le1 R1 hah lah=>?_;have le1:aL G G1:=(aL.new hp1).trans le1;clear hp1;intro pa _ hpa;have le2:aL G1 (aG G1 pa (.lst (refs ah))):=aL.new hpa;have R2:=R1.mono (aL.ins le2);have ga2:=ak (G:=G1) (a:=pa) (g:=GO.lst (refs ah));have le2:=le1.trans le2;generalize aG G1 pa (.lst (refs ah))=G2 at le2 R2 ga2 ⊢;clear hpa le1 R1 i1;subst hU;refine bt λU hU=>?_;walk_at "R";refine ⟨ns,2,rfl,by decide,hc,λc2 _=>?_⟩;obtain ⟨j2,hj2⟩:=Int.eq_ofNat_of_zero_le (show 0<=c2%10 by (clear F F1 F2 F3 F4 N1 N3 N4 Nt Nw ml mi mL md nd hr hl hc hq hway hj1 hj1' i2 le1 hah lah le2 R2 ga2 hU;omega));have hj2':j2<=9:=by (clear F F1 F2 F3 F4 N1 N3 N4 Nt Nw ml mi mL md nd hr hl hc hq hway hj1 hj1' i2 le1 hah lah le2 R2 ga2 hU;omega)
  walk_at "R";rw [hj2];refine ⟨by omega,λp1 hp1=>⟨_,ak,?_⟩⟩;obtain ⟨i3,i4⟩:=mW (ns:=ns) (a:=13) (j:=j2);rw [show (13:Int)+(j2:Int)=((13+j2:Nat):Int) by (clear F F1 F2 F3 F4 N1 N3 N4 Nt Nw ml mi mL md nd hr hl hc hq hway hj1 hj1' i2 le1 hah lah le2 R2 ga2 hU hj2 hj2' hp1 i3 i4;omega)];rw [show ((13:Nat):Int)=13 from rfl] at i3 i4;show bX _ _ _ _ _ [none,none,none] _ [] _;refine kr (C:=C) (b:="y") ak i3 (by (clear F F1 F2 F3 F4 N1 N3 N4 Nt Nw ml mi mL md nd hr hl hc hq hway hj1 hj1' i2 le1 hah lah le2 R2 ga2 hU hj2' hp1 i3;omega)) λys G3 le3 Ry hys lys=>?_;have le3:aL G2 G3:=(aL.new hp1).trans le3;clear hp1;intro pr _ hpr;have ga3:=le3 _ _ ga2;have npr:pr≠pa:=λz=>by rw [z,ga3] at hpr;cases hpr
  have le4:aL G3 (aG G3 pr (.lst (refs ys))):=aL.new hpr;have R4:=R2.mono (aL.ins (le3.trans le4));have ga4:=le4 _ _ ga3;have Ry4:=Ry.mono (aL.ins le4);have gr4:=ak (G:=G3) (a:=pr) (g:=GO.lst (refs ys));have le4:=(le2.trans le3).trans le4;generalize aG G3 pr (.lst (refs ys))=G4 at le4 R4 Ry4 ga4 gr4 ⊢;clear hpr ga3 le3 Ry R2 ga2 le2 i3;subst hU;refine bt λU hU=>?_;walk_at "R";refine ⟨ns,3,rfl,by decide,hc,λc3 _=>?_⟩;walk_at "R";have hmany:1<=1+c3%10000000000000000000000000000000000000000/\1+c3%10000000000000000000000000000000000000000<=10^40:=by (clear F F1 F2 F3 F4 N1 N3 N4 Nt Nw ml mi mL md nd hr hl hc hq hway hj1 hj1' i2 le1 hah lah le2 hj2 hj2' i4 le3 hys lys npr le4 R4 Ry4 ga4 gr4 hU;omega)
  generalize 1+c3%10000000000000000000000000000000000000000=many at hmany ⊢;subst hU;refine bt λU hU=>?_;walk_at "R";refine ⟨ns,4,rfl,by decide,hc,λc4 _=>?_⟩;walk_at "R";refine ⟨_,rfl,λo ho=>?_⟩;intro pm hpm;have le5:aL G4 (aG G4 pm (.lst [.tup [.tup (au o),.str "b"]])):=aL.new hpm;have R5:=R4.mono (aL.ins le5);have Ry5:=Ry4.mono (aL.ins le5);have ga5:=le5 _ _ ga4;have gr5:=le5 _ _ gr4;have gm5:=ak (G:=G4) (a:=pm) (g:=GO.lst [.tup [.tup (au o),.str "b"]]);have nma:pm≠pa:=λz=>by rw [z,ga4] at hpm;cases hpm
  have nmr:pm≠pr:=λz=>by rw [z,gr4] at hpm;cases hpm
  generalize aG G4 pm (.lst [.tup [.tup (au o),.str "b"]])=G5 at R5 Ry5 ga5 gr5 gm5 ⊢;have L5:rc C G5 pa pr pm ah ys (bU false o):=⟨ga5,gr5,gm5,R5,Ry5,npr,nma,nmr⟩;clear le5 hpm R4 Ry4 ga4 gr4 le4 ga5 gr5 gm5 R5 Ry5 npr nma nmr;have lay:ys.length<=9:=by (clear F F1 F2 F3 F4 N1 N3 N4 Nt Nw ml mi mL md nd hr hl hc hq hway hj1 hj1' i2 le1 hah lah le2 hj2' le3 hys le4 hmany hU ho L5;omega)
  subst hU;refine bt λU hU=>?_;have k6:∀(G6:Gp) (e1:List (Addr×Row)),rc C G6 pa pr pm ah (ys++e1) (bU false o)->(way=1->e1.map (·.2)=gs way)->(way≠1->e1=[])->U { nx:=λx G1=>∃G0,aL G0 G1/\q W.non G0,rt:=λw G1=>∃G0,aL G0 G1/\q w G0 } [some (W.scr ns),some (W.int way),some (W.ref pa),some (W.ref pr),some (W.int many),some (W.ref pm),none,none,none,none,none,none] G6:=by
   intro G6 e1 L6 hx1 hx2;subst hU;refine bt λU hU=>?_;have k7:∀(G7:Gp) (e2:List (Addr×Row)),rc C G7 pa pr pm ah (ys++e2) (bU false o)->(way≠3->e2.map (·.2)=gs way)->(way=3->e2=[])->U { nx:=λx G1=>∃G0,aL G0 G1/\q W.non G0,rt:=λw G1=>∃G0,aL G0 G1/\q w G0 } [some (W.scr ns),some (W.int way),some (W.ref pa),some (W.ref pr),some (W.int many),some (W.ref pm),none,none,none,none,none,none] G7:=by
    intro G7 e2 L7 hy1 hy2;subst hU;refine bt λU hU=>?_;have k8:∀(G8:Gp) (e3:List (Addr×Row)),rc C G8 pa pr pm ah (ys++e3) (bU (decide (way=3)) o)->e3.map (·.2)=gs way->U { nx:=λx G1=>∃G0,aL G0 G1/\q W.non G0,rt:=λw G1=>∃G0,aL G0 G1/\q w G0 } [some (W.scr ns),some (W.int way),some (W.ref pa),some (W.ref pr),some (W.int many),some (W.ref pm),none,none,none,none,none,none] G8:=by
     intro G8 e3 L8 he3;clear L7 L6 L5 hx1 hx2 hy1 hy2;subst hU;refine bt λU hU=>?_;walk_at "R";simp only [xC,DX,DW];walk_at "R";intro pb hpb;refine ⟨ns,5,rfl,by decide,hc,λc5 _=>?_⟩;walk_at "R";refine ⟨ns,5,rfl,by decide,hc,λc6 _=>?_⟩;walk_at "R";refine ⟨ak,?_⟩;have hb:2<=2+c5%10000000000000000000000000000000000000000/\2+c5%10000000000000000000000000000000000000000<=10^40+1:=by (clear F F1 F2 F3 F4 N1 N3 N4 Nt Nw ml mi mL md nd hr hl hc hq hway hj1 hj1' i2 le1 hah lah le2 hj2 hj2' i4 le3 hys lys le4 hmany ho lay L8 he3 hU hpb;omega)
     have hcc:0<=c6%7/\c6%7<=6:=by (clear F F1 F2 F3 F4 N1 N3 N4 Nt Nw ml mi mL md nd hr hl hc hq hway hj1 hj1' i2 le1 hah lah le2 hj2 hj2' i4 le3 hys lys le4 hmany ho lay L8 he3 hU hpb hb;omega)
     obtain ⟨b1,b2,b3,b4,bn⟩:=zQ hmany hb hcc;rw [show L2.putAll [] [(Str.ofString "a",W.int many),(Str.ofString "b",W.int (2+c5%10000000000000000000000000000000000000000)),(Str.ofString "c",W.int (c6%7))]=wH many (2+c5%10000000000000000000000000000000000000000) (c6%7) from rfl];generalize wH many (2+c5%10000000000000000000000000000000000000000) (c6%7)=kvs at b1 b2 b3 b4 bn ⊢;have le9:aL G8 (aG (aG G8 pb (.dic [])) pb (.dic kvs)):=λx g e=>by
      have n:x≠pb:=λz=>by rw [z,hpb] at e;cases e
      exact (aq n).trans ((aq n).trans e)
     have L9:=L8.mono le9;have gb9:=ak (G:=aG G8 pb (.dic [])) (a:=pb) (g:=GO.dic kvs);generalize aG (aG G8 pb (.dic [])) pb (.dic kvs)=G9 at L9 gb9 ⊢;clear le9 hpb L8;obtain ⟨q1,q2,q3,q4,q5⟩:=wI (C:=C) (G:=G9) (cp:=cp) hway hys he3 lay;subst hU;refine bt λU hU=>?_;walk_at "R";intro pw hpw;have ho3:∀m,m∈bU (decide (way=3)) o->m.1.dp<=3:=λm hm=>by
      unfold bU at hm;rcases List.mem_cons.mp hm with rfl | hm
      ·exact ho.dp
      ·split at hm
       ·rw [List.mem_singleton.mp hm];exact Nat.zero_le _
       ·cases hm
     have ln5:(bU (decide (way=3)) o).length<=5:=by unfold bU;split<;> simp
     have leW:aL G9 (aG G9 pw (.ins C.w [])):=aL.new hpw;refine ⟨pw,"a",pm,pr,bU (decide (way=3)) o,ys++e3,rfl,ak,leW _ _ L9.gm,ln5,ho3,leW _ _ L9.gr,L9.Rr.mono (aL.ins leW),qZ q1 (by rw [List.length_map];exact q2),q0 q1,λG10 g1 g2=>⟨rfl,λpl hpl=>?_⟩⟩;have leX:aL G9 G10:=λx g e=>(g2 x (λz=>by rw [z,hpw] at e;cases e)).trans (leW _ _ e);have leY:=leX.trans (aL.new (g:=GO.lst [W.ref pw]) hpl);have npl:pl≠pw:=λz=>by rw [z,g1] at hpl;cases hpl
     have L11:=L9.mono leY;have gb11:=leY _ _ gb9;have gw11:aG G10 pl (.lst [.ref pw]) pw=some (.ins C.w (Bk "a" (re (bU (decide (way=3)) o)) ((ys++e3).map (·.1)) (aN.of ((ys++e3).map (·.2))))):=(aq npl.symm).trans g1;rw [BC ho.nz] at gw11;have Rw:gq C (aG G10 pl (.lst [.ref pw])) pw (.whl "a" (dm (decide (way=3)) o) (aN.of ((ys++e3).map (·.2)))):= .whl gw11 L11.Rr.ats;have gl11:=ak (G:=G10) (a:=pl) (g:=GO.lst [.ref pw]);generalize aG G10 pl (.lst [.ref pw])=G11 at L11 gb11 Rw gl11 ⊢;clear leY leX leW g1 g2 hpw hpl npl gw11 L9 gb9;subst hU;refine bt λU hU=>?_;walk_at "R";refine ⟨_,.lst L11.ga,_,.lst L11.gr,?_⟩;have ea:((refs ah).length:Int)+((refs (ys++e3)).length:Int)+2=((ah.length+(ys++e3).length+2+fe false:Nat):Int):=by simp only [refs,List.length_map,fe];simp
     rw [ea];clear ea;have gW:gr cp 12 (10^41) (.whl "a" (dm (decide (way=3)) o) (aN.of ((ys++e3).map (·.2)))):=uA ho q1 (by rw [List.length_map];exact q2);subst hU;refine bt λU hU=>?_;have k12:∀(tw:Bool) (G12:Gp) (pl' pt:Addr) (kv:List (aF×W)),G12 pa=some (.lst (refs ah))->Rows C G12 ah->D1 C cp G12 pb pl' [(pt,ck tw (.whl "a" (dm (decide (way=3)) o) (aN.of ((ys++e3).map (·.2)))))] kv->av kv "a"=av kvs "a"->av kv "b"=av kvs "b"->(tw=true->av kv "d"=1)->U { nx:=λx G1=>∃G0,aL G0 G1/\q W.non G0,rt:=λw G1=>∃G0,aL G0 G1/\q w G0 } [some (W.scr ns),some (W.int way),some (W.ref pa),some (W.ref pr),some (W.int many),some (W.ref pm),some (W.ref pb),some (W.ref pl'),some (W.int ((ah.length+(ys++e3).length+2+fe tw:Nat):Int)),none,none,none] G12:=by
      intro tw G12 pl' pt kv ga Ra T12 v1 v2 v3;clear L11 gb11 gl11 Rw;subst hU;refine bt λU hU=>?_;walk_at "R";refine ⟨_,_,ga,T12.gl,by simp only [refs,List.length_map,List.length_cons,List.length_nil];(clear F F1 F2 F3 F4 N1 N3 N4 Nt Nw ml mi mL md nd hr hl hc hq hway hj1' le1 hah le2 hj2 hj2' i4 le3 hys lys le4 hmany ho lay he3 hb hcc b1 b2 b3 b4 bn q1 q2 q3 q4 q5 ho3 ln5 gW ga Ra T12 v1 v2 v3 hU;omega),λp3 hp3=>?_⟩;have le13:aL G12 (aG G12 p3 (.lst (refs ah++refs [(pt,ck tw (.whl "a" (dm (decide (way=3)) o) (aN.of ((ys++e3).map (·.2)))))]))):=aL.new hp3;have T13:D1 C cp (aG G12 p3 (.lst (refs ah++refs [(pt,ck tw (.whl "a" (dm (decide (way=3)) o) (aN.of ((ys++e3).map (·.2)))))]))) pb p3 (ah++[(pt,ck tw (.whl "a" (dm (decide (way=3)) o) (aN.of ((ys++e3).map (·.2)))))]) kv:=by
       refine ⟨le13 _ _ T12.gb,by rw [ak];simp [refs],λx hx=>?_,T12.bx,T12.ln,T12.nd⟩;rcases List.mem_append.mp hx with hx | hx
       ·exact (Ra x hx).mono (aL.ins le13)
       ·exact (T12.R x hx).mono (aL.ins le13)
      generalize aG G12 p3 (.lst (refs ah++refs [(pt,ck tw (.whl "a" (dm (decide (way=3)) o) (aN.of ((ys++e3).map (·.2)))))]))=G13 at T13 ⊢;clear le13 hp3 T12 Ra ga;subst hU;refine bt λU hU=>?_;walk_at "R";refine ⟨ns,6,rfl,by decide,hc,λc8 _=>?_⟩;walk_at "R";subst hU;refine bt λU hU=>?_;walk_at "R";refine ⟨kv,.dic (.inl T13.gb),λpd hpd=>?_⟩;have le14:aL G13 (aG G13 pd (.dic kv)):=aL.new hpd;have gd14:=ak (G:=G13) (a:=pd) (g:=GO.dic kv);have gb14:=le14 _ _ T13.gb;have gl14:=le14 _ _ T13.gl;have R14:=T13.R.mono (aL.ins le14);generalize aG G13 pd (.dic kv)=G14 at gd14 gb14 gl14 R14 ⊢;clear hpd le14;have q6:∀r,r∈ah.map (·.2)->bT r/\gr cp 12 (10^41) r:=λr hr=>by
       obtain ⟨x,hx,rfl⟩:=List.mem_map.mp hr;have:=iF (cp:=cp) (hah x hx);exact ⟨this.1,this.2.1⟩
      have q7:∀r,r∈ah.map (·.2)->∃n,r=.set "z" n:=λr hr=>by
       obtain ⟨x,hx,rfl⟩:=List.mem_map.mp hr;exact (iF (cp:=cp) (hah x hx)).2.2
      have es:cG (ah++[(pt,ck tw (.whl "a" (dm (decide (way=3)) o) (aN.of ((ys++e3).map (·.2)))))])=ah.map (·.2)++[ck tw (.whl "a" (dm (decide (way=3)) o) (aN.of (ys.map (·.2)++gs way)))]:=by rw [←q3];simp [cG]
      have lah5:ah.length<=5:=by (clear F F1 F2 F3 F4 N1 N3 N4 Nt Nw ml mi mL md nd hr hl hc hq hway hj1' le1 hah le2 hj2 hj2' i4 le3 hys lys le4 hmany ho lay he3 hb hcc b1 b2 b3 b4 bn q1 q2 q3 q4 q5 ho3 ln5 gW v1 v2 v3 T13 hU gd14 gb14 gl14 R14 q6 q7 es;omega)
      have hok:=wG (cp:=cp) (w3:=decide (way=3)) (tw:=tw) (o:=o) (ah:=ah.map (·.2)) (rs:=ys.map (·.2)++gs way) (kvs:=kv) ho (by rw [←q3];exact q1) (by rw [←q3,List.length_map];exact q2) q6 (by rw [List.length_map];exact lah5) T13.bx (Nat.le_trans T13.ln (by decide));obtain ⟨r1,r2,r3⟩:=wK (cp:=cp) (way:=way) (tw:=tw) (o:=o) (ah:=ah.map (·.2)) (ys:=ys.map (·.2)) (kv:=kv) hway q7 q5 q4 (by (clear F F1 F2 F3 F4 N1 N3 N4 Nt Nw ml mi mL md nd hr hl hc hq hway hj1 hj1' i2 le1 hah lah le2 hj2 hj2' i4 le3 hys lys le4 ho lay he3 hb hcc b1 b2 b4 bn q1 q2 q3 q4 q5 ho3 ln5 gW v2 v3 T13 hU gd14 gb14 gl14 R14 q6 q7 es lah5 hok;omega)) (by (clear F F1 F2 F3 F4 N1 N3 N4 Nt Nw ml mi mL md nd hr hl hc hq hway hj1 hj1' i2 le1 hah lah le2 hj2 hj2' i4 le3 hys lys le4 hmany ho lay he3 hcc b1 b2 b3 bn q1 q2 q3 q4 q5 ho3 ln5 gW v1 v3 T13 hU gd14 gb14 gl14 R14 q6 q7 es lah5 hok;omega)) v3;rw [←es] at hok r1 r2 r3;obtain ⟨N,hN⟩:∃N,N=(ah.map (·.2)).length+fe tw+1+(ys.map (·.2)++gs way).length:=⟨_,rfl⟩;rw [←hN] at r1 r2 r3;have eN:ah.length+(ys++e3).length+2+fe tw=N+1:=by
       rw [←q3,List.length_map,List.length_map] at hN
       (clear F F1 F2 F3 F4 N1 N3 N4 Nt Nw ml mi mL md nd hr hl hc hq hway hj1 hj1' i2 le1 hah lah le2 hj2 hj2' i4 le3 hys lys le4 hmany ho lay he3 hb hcc b1 b2 b3 b4 bn q1 q2 q3 q4 q5 ho3 ln5 gW v1 v2 v3 T13 hU gd14 gb14 gl14 R14 q6 q7 es lah5 hok r3 r2 r1;omega)
      have aT:fe tw<=2:=by cases tw<;> decide
      have N21:N<=19:=by (clear F F1 F2 F3 F4 N1 N3 N4 Nt Nw ml mi mL md nd hr hl hc hq hway hj1 hj1' i2 le1 hah le2 hj2 hj2' i4 le3 hys lys le4 hmany ho lay he3 hb hcc b1 b2 b3 b4 bn q1 q3 q4 q5 ho3 ln5 gW v1 v2 v3 T13 hU gd14 gb14 gl14 R14 q6 q7 es hok r3 r2 r1;omega)
      rw [eN];have hT:∀m,m<=21->jG C cp G14 p3 pb (ah++[(pt,ck tw (.whl "a" (dm (decide (way=3)) o) (aN.of ((ys++e3).map (·.2)))))]) kv m:=λm hm=>⟨gl14,R14,gb14,⟨12,10,10^41,hok,by decide,(mU hm).1,(mU hm).2⟩,by omega⟩;obtain ⟨j,hj⟩:=Int.eq_ofNat_of_zero_le (show 0<=c8/2%3 by (clear F F1 F2 F3 F4 N1 N3 N4 Nt Nw ml mi mL md nd hr hl hc hq hway hj1 hj1' i2 le1 hah lah le2 hj2 hj2' i4 le3 hys lys le4 hmany ho lay he3 hb hcc b1 b2 b3 b4 bn q1 q2 q3 q4 q5 ho3 ln5 gW v1 v2 v3 T13 hU gd14 gb14 gl14 R14 q6 q7 es lah5 hok r3 r2 r1 hN eN aT N21 hT;omega));have hj2:j<=2:=by (clear F F1 F2 F3 F4 N1 N3 N4 Nt Nw ml mi mL md nd hr hl hc hq hway hj1 hj1' i2 le1 hah lah le2 hj2 hj2' i4 le3 hys lys le4 hmany ho lay he3 hb hcc b1 b2 b3 b4 bn q1 q2 q3 q4 q5 ho3 ln5 gW v1 v2 v3 T13 hU gd14 gb14 gl14 R14 q6 q7 es lah5 hok r3 r2 r1 hN eN aT N21 hT;omega)
      rw [hj,show ((N+1:Nat):Int)-1+(j:Int)=((N+j:Nat):Int) by (clear F F1 F2 F3 F4 N1 N3 N4 Nt Nw ml mi mL md nd hr hl hc hq hway hj1 hj1' i2 le1 hah lah le2 hj2' i4 le3 hys lys le4 hmany ho lay he3 hb hcc b1 b2 b3 b4 bn q1 q2 q3 q4 q5 ho3 ln5 gW v1 v2 v3 T13 hU gd14 gb14 gl14 R14 q6 q7 es lah5 hok r3 r2 r1 hN eN aT N21 hT hj hj2;omega)];subst hU;refine bt λU hU=>?_;have fin:∀(m:Nat) (G15:Gp),aL G14 G15->m<=21->cu (cG (ah++[(pt,ck tw (.whl "a" (dm (decide (way=3)) o) (aN.of ((ys++e3).map (·.2)))))]),kv) m->U { nx:=λx G1=>∃G0,aL G0 G1/\q W.non G0,rt:=λw G1=>∃G0,aL G0 G1/\q w G0 } [some (W.scr ns),some (W.int way),some (W.ref pa),some (W.ref pr),some (W.int many),some (W.ref pm),some (W.ref pb),some (W.ref p3),some (W.int ((N+1:Nat):Int)),some (W.int (m:Int)),some (W.ref pd),none] G15:=by
       intro m G15 le15 hm hf;subst hU;refine bt λU hU=>?_;walk_at "R";refine jG.good ((hT m hm).mono le15) (λk hk=>(hf k hk).2) (λk hk=>(hf k hk).1) λG16 F0 ds le16 hF hl0=>?_;have gb16:=le16 _ _ (le15 _ _ gb14);have gd16:=le16 _ _ (le15 _ _ gd14);subst hU;walk_at "R";rw [show yF G16 (.ref F0)=some "list" by simp only [yF,hF]];simp only [pL,if_true];refine ⟨_,.lst hF,?_⟩;rw [lq,hl0,if_pos (by (clear F F1 F2 F3 F4 N1 N3 N4 Nt Nw ml mi mL md nd hr hl hc hq hway hj1 hj1' i2 le1 hah lah le2 hj2' i4 le3 hys lys le4 hmany ho lay he3 hb hcc b1 b2 b3 b4 bn q1 q2 q3 q4 q5 ho3 ln5 gW v1 v2 v3 T13 gd14 gb14 gl14 R14 q6 q7 es lah5 hok r3 r2 r1 hN eN aT N21 hT hj hj2 le15 hm hf le16 hF hl0 gb16 gd16;omega))];exact ⟨true,.old (.dic (.inl gb16) (.inl gd16) rfl λp hp=>by
        obtain ⟨n,hn,_⟩:=T13.bx p hp;exact ⟨p.2,T13.nd.val hp,by rw [hn];exact .int n⟩),aL.done (hq _)⟩
      walk_at "R"
      by_cases w2:way<2
      ·rw [if_pos w2]
       by_cases hj0:((N+1:Nat):Int)<=((N+j:Nat):Int)
       ·rw [if_pos hj0];refine ⟨ns,7,rfl,by decide,hc,λc9 _=>?_⟩;walk_at "R";refine ⟨p3,pb,_,kv,N+j,N,_,rfl,hT (N+j) (by (clear F F1 F2 F3 F4 N1 N3 N4 Nt Nw ml mi mL md nd hr hl hc hq hway hj1 hj1' i2 le1 hah lah le2 hj2' i4 le3 hys lys le4 hmany ho lay he3 hb hcc b1 b2 b3 b4 bn q1 q2 q3 q4 q5 ho3 ln5 gW v1 v2 v3 T13 gd14 gb14 gl14 R14 q6 q7 es lah5 hok r3 r2 r1 eN aT hT hj2 hU fin w2;omega)),by (clear F F1 F2 F3 F4 N1 N3 N4 Nt Nw ml mi mL md nd hr hl hc hq hway hj1 hj1' i2 le1 hah lah le2 hj2' i4 le3 hys lys le4 hmany ho lay he3 hb hcc b1 b2 b3 b4 bn q1 q2 q3 q4 q5 ho3 ln5 gW v1 v2 v3 T13 gd14 gb14 gl14 R14 q6 q7 es lah5 hok r3 r2 r1 hN eN aT N21 hT hj2 hU fin w2;omega),r2 w2,λk hk=>(r1 k hk).2,?_⟩;walk_at "R";rw [show ((N+1:Nat):Int)-1=((N:Nat):Int) by (clear F F1 F2 F3 F4 N1 N3 N4 Nt Nw ml mi mL md nd hr hl hc hq hway hj1 hj1' i2 le1 hah lah le2 hj2' i4 le3 hys lys le4 hmany ho lay he3 hb hcc b1 b2 b3 b4 bn q1 q2 q3 q4 q5 ho3 ln5 gW v1 v2 v3 T13 gd14 gb14 gl14 R14 q6 q7 es lah5 hok r3 r2 r1 hN eN aT N21 hT hj hj2 hU fin w2 hj0;omega)];exact fin N G14 (aL.refl _) (by omega) r1
       ·rw [if_neg hj0];exact fin (N+j) G14 (aL.refl _) (by (clear F F1 F2 F3 F4 N1 N3 N4 Nt Nw ml mi mL md nd hr hl hc hq hway hj1 hj1' i2 le1 hah lah le2 hj2' i4 le3 hys lys le4 hmany ho lay he3 hb hcc b1 b2 b3 b4 bn q1 q2 q3 q4 q5 ho3 ln5 gW v1 v2 v3 T13 gd14 gb14 gl14 R14 q6 q7 es lah5 hok r3 r2 r1 eN aT hT hj2 hU fin w2;omega)) (r1.le (by (clear F F1 F2 F3 F4 N1 N3 N4 Nt Nw ml mi mL md nd hr hl hc hq hway hj1 hj1' i2 le1 hah lah le2 hj2' i4 le3 hys lys le4 hmany ho lay he3 hb hcc b1 b2 b3 b4 bn q1 q2 q3 q4 q5 ho3 ln5 gW v1 v2 v3 T13 gd14 gb14 gl14 R14 q6 q7 es lah5 hok r3 r2 r1 hN eN aT N21 hT hj2 hU fin w2;omega)))
      ·rw [if_neg w2];exact fin (N+j) G14 (aL.refl _) (by (clear F F1 F2 F3 F4 N1 N3 N4 Nt Nw ml mi mL md nd hr hl hc hq hway hj1 hj1' i2 le1 hah lah le2 hj2' i4 le3 hys lys le4 hmany ho lay he3 hb hcc b1 b2 b3 b4 bn q1 q2 q3 q4 q5 ho3 ln5 gW v1 v2 v3 T13 gd14 gb14 gl14 R14 q6 q7 es lah5 hok r3 r2 r1 eN aT hT hj2 hU fin w2;omega)) ((r3 (by (clear F F1 F2 F3 F4 N1 N3 N4 Nt Nw ml mi mL md nd hr hl hc hq hj1 hj1' i2 le1 hah lah le2 hj2' i4 le3 hys lys le4 hmany ho lay he3 hb hcc b1 b2 b3 b4 bn q1 q2 q3 q4 q5 ho3 ln5 gW v1 v2 v3 T13 gd14 gb14 gl14 R14 q6 q7 es lah5 hok r3 r2 r1 hN eN aT N21 hT hj hj2 hU fin;omega))).le (by (clear F F1 F2 F3 F4 N1 N3 N4 Nt Nw ml mi mL md nd hr hl hc hq hway hj1 hj1' i2 le1 hah lah le2 hj2' i4 le3 hys lys le4 hmany ho lay he3 hb hcc b1 b2 b3 b4 bn q1 q2 q3 q4 q5 ho3 ln5 gW v1 v2 v3 T13 gd14 gb14 gl14 R14 q6 q7 es lah5 hok r3 r2 r1 hN eN aT N21 hT hj2 hU fin w2;omega)))
     walk_at "R";refine ⟨ns,6,rfl,by decide,hc,λc7 _=>?_⟩;walk_at "R"
     by_cases hp:c7%2=1
     ·rw [if_pos hp];intro pt hpt;have leT:aL G11 (aG G11 pt (.ins C.t [])):=aL.new hpt;refine ⟨pt,"d",pl,[(pw,.whl "a" (dm (decide (way=3)) o) (aN.of ((ys++e3).map (·.2))))],rfl,ak,leT _ _ gl11,Rows.one (Rw.mono (aL.ins leT)),wF (ur (by decide) _ gW),wJ gW,λG12 g1 g2=>⟨rfl,λp2 hp2=>?_⟩⟩;have leX:aL G11 G12:=λx g e=>(g2 x (λz=>by rw [z,hpt] at e;cases e)).trans (leT _ _ e);have leY:=leX.trans (aL.new (g:=GO.lst [W.ref pt]) hp2);have n2:p2≠pt:=λz=>by rw [z,g1] at hp2;cases hp2
      refine ⟨pb,"d",kvs,rfl,rfl,leY _ _ gb11,by omega,?_⟩;have nb2:p2≠pb:=λz=>by rw [z,leX _ _ gb11] at hp2;cases hp2
      have ntb:pt≠pb:=λz=>by rw [z,gb11] at hpt;cases hpt
      have nab:pa≠pb:=λz=>by have:=L11.ga;rw [z,gb11] at this;cases this
      have I:bW (aG G12 p2 (.lst [W.ref pt])) (aG (aG G12 p2 (.lst [W.ref pt])) pb (.dic (bw kvs (.inr "d") (.int 1)))):=bW.but (p:=pb) (λx g xl e=>(aq xl).trans e) (λC' y fs e=>by rw [leY _ _ gb11] at e;cases e);have ea:((ah.length+(ys++e3).length+2+fe false:Nat):Int)+2=((ah.length+(ys++e3).length+2+fe true:Nat):Int):=by simp only [fe];simp
      walk_at "R";rw [ea];have ad:("a":Str)≠"d":=by decide
      have bd:("b":Str)≠"d":=by decide
      refine k12 true _ p2 pt _ ((aq nab).trans (leY _ _ L11.ga)) ((L11.Ra.mono (aL.ins leY)).mono I) ⟨ak,(aq nb2).trans ak,Rows.one ?_,b1.put _ (by decide) (by decide),Nat.le_trans (cj _ _ _) (by (clear F F1 F2 F3 F4 N1 N3 N4 Nt Nw ml mi mL md nd hr hl hc hq hway hj1 hj1' i2 le1 hah lah le2 hj2 hj2' i4 le3 hys lys le4 hmany ho lay he3 hb hcc b1 b3 b4 bn q1 q2 q3 q4 q5 ho3 ln5 L11 gb11 Rw gl11 gW hU k12 hp hpt leT g1 g2 hp2 leX leY n2 nb2 ntb nab I ea ad bd;omega)),bn.put _ _⟩ (by rw [bA,if_neg ad]) (by rw [bA,if_neg bd]) (λ_=>by rw [bA,if_pos rfl]);exact .times (as:=[pw]) ((aq ntb).trans ((aq n2.symm).trans g1)) (.cons ((Rw.mono (aL.ins leY)).mono I) .nil)
     ·rw [if_neg hp];exact k12 false _ pl pw kvs L11.ga L11.Ra ⟨gb11,gl11,Rows.one Rw,b1,by omega,bn⟩ rfl rfl (λz=>nomatch z)
    walk_at "R"
    by_cases w3:way=3
    ·rw [if_pos w3];have:=hy2 w3;subst this;rw [List.append_nil] at L7;refine ⟨⟨_,L7.gm⟩,_,L7.gm,by simp [bU],⟨_,L7.mark.gr⟩,λp hp=>?_⟩;refine ⟨p,.add "c" "a",rfl,rfl,ak,λG2 g1 g2=>⟨rfl,?_⟩⟩;obtain ⟨a1,L9⟩:=L7.mark.row hp g1 (λ_ h=>gq.add h) g2;refine ⟨_,a1,by simp only [refs,List.length_map];omega,⟨_,L9.gr⟩,λp2 hp2=>?_⟩;refine ⟨p2,.less "b",rfl,rfl,ak,λG3 g3 g4=>⟨rfl,?_⟩⟩;obtain ⟨a2,L10⟩:=L9.row hp2 g3 (λ_ h=>gq.less h) g4;refine ⟨_,a2,by simp only [refs,List.length_map,List.length_append,List.length_cons,List.length_nil];(clear F F1 F2 F3 F4 N1 N3 N4 Nt Nw ml mi mL md nd hr hl hc hq hway hj1 hj1' i2 le1 hah lah le2 hj2 hj2' i4 le3 hys le4 hmany ho L5 L6 hx1 hx2 hU k8 w3 L7 hy1 hy2 hp g1 g2 a1 L9 hp2 g3 g4 a2 L10;omega),?_⟩;refine k8 _ [(p,.add "c" "a"),(p2,.less "b")] ?_ (by rw [w3];rfl);rw [List.append_assoc] at L10;have em:bU (decide (way=3)) o=bU false o++[((O.z,"c"):O×Str)]:=by rw [w3];rfl
     rw [em];exact L10
    ·rw [if_neg w3];refine k8 _ e2 ?_ (hy1 w3);rw [decide_eq_false w3];exact L7
   walk_at "R"
   by_cases w2:way=2
   ·rw [if_pos w2];have:=hx2 (by (clear F F1 F2 F3 F4 N1 N3 N4 Nt Nw ml mi mL md nd hr hl hc hq hway hj1 hj1' i2 le1 hah lah le2 hj2 hj2' i4 le3 hys lys le4 hmany ho L5 lay L6 hx1 hx2 hU k7;omega));subst this;rw [List.append_nil] at L6;refine ⟨⟨_,L6.gr⟩,λp hp=>?_⟩;refine ⟨p,.less "b",rfl,rfl,ak,λG2 g1 g2=>⟨rfl,?_⟩⟩;obtain ⟨a1,L9⟩:=L6.row hp g1 (λ_ h=>gq.less h) g2;exact ⟨_,a1,by simp only [refs,List.length_map];omega,k7 _ [(p,.less "b")] L9 (λ_=>by rw [w2];rfl) (λz=>by (clear F F1 F2 F3 F4 N1 N3 N4 Nt Nw ml mi mL md nd hr hl hc hq hway hj1 hj1' i2 le1 hah lah le2 hj2 hj2' i4 le3 hys lys le4 hmany ho L5 lay hU k7 L6 hx1 hx2 hp g1 g2 a1 L9;omega))⟩
   ·rw [if_neg w2];refine k7 _ e1 L6 (λw3=>?_) (λw3=>hx2 (by (clear F F1 F2 F3 F4 N1 N3 N4 Nt Nw ml mi mL md nd hr hl hc hq hway hj1 hj1' i2 le1 hah lah le2 hj2 hj2' i4 le3 hys lys le4 hmany ho L5 lay L6 hx1 hx2 hU k7 w2;omega)))
    by_cases w1:way=1
    ·exact hx1 w1
    ·rw [hx2 w1,show way=0 by (clear F F1 F2 F3 F4 N1 N3 N4 Nt Nw ml mi mL md nd hr hl hc hq hj1 hj1' i2 le1 hah lah le2 hj2 hj2' i4 le3 hys lys le4 hmany ho L5 lay L6 hx1 hx2 hU k7;omega)];rfl
  walk_at "R"
  by_cases w1:way=1
  ·rw [if_pos w1];refine ⟨⟨_,L5.gr⟩,λp hp=>?_⟩;refine ⟨p,.add "b" "a",rfl,rfl,ak,λG2 g1 g2=>⟨rfl,?_⟩⟩;obtain ⟨a1,L9⟩:=L5.row hp g1 (λ_ h=>gq.add h) g2;exact ⟨_,a1,by simp only [refs,List.length_map];omega,k6 _ [(p,.add "b" "a")] L9 (λ_=>by rw [w1];rfl) (λz=>absurd w1 z)⟩
  ·rw [if_neg w1];refine k6 _ [] ?_ (λz=>absurd z w1) (λ_=>rfl);rw [List.append_nil];exact L5
theorem uD {C:Addr} {m qual:Str} {st:Stmt} {ps:List Str} {k:Nat} {sp:bZ} (D:Md K C m qual st ps) (c:dr K C) (h:∀(f:Addr) (fd:FuncData),cM K m qual st f fd->sB P w K mg base k f fd ps sp):AY P w K mg base C m ps k sp []:=by
 obtain ⟨f,fd,hm,F,b⟩:=D;exact ⟨⟨f,fd,[],[],hm,h f fd F,b,.nil,λ_=> .nil⟩,c⟩
theorem hJ {C:Cs} {Cf:Addr} {i j:Nat} {qual:Str} {st:Stmt} (hi:i≠7) (hj:j<=8) (D:Md K (C.at_ i) "step" qual st ["self","boxes"]) (c:dr K (C.at_ i)) (h:∀(f:Addr) (fd:FuncData),cM K "step" qual st f fd->cB P w K mg base j f fd ["self","boxes"] (mO C i)):AY P w K mg base (C.at_ i) "step" ["self","boxes"] 8 (qV C Cf i) []:=
 uD D c λf fd F=>((((h f fd F).imp (λ_ _ _ _ z=>wo (Cf:=Cf) hi z)).toR).mono hj)
theorem zR (T:Txt K mg) (F:cM K "law" "law" (aU 50) f fd):cB P w K mg base 100 f fd ["_law_script"] gS:=by
 obtain ⟨x0,x1,x2,x3,x4,x5,x6,x7,x8,x9,x10,x11,x12,x13,⟨m0,e0⟩,⟨mF,e1⟩,⟨n2,_⟩,⟨n3,_⟩,⟨n4,_⟩,⟨n5,_⟩,⟨n6,_⟩,⟨n7,_⟩,⟨n8,_⟩,⟨n9,_⟩,⟨n10,_⟩,⟨n11,_⟩,⟨n12,_⟩,⟨n13,_⟩,s0,s2,s3,s4,s5,s6,s7,s8,s9,s10,s11,s12,s13,⟨_,d0⟩,⟨Q1,d1⟩,⟨_,d2⟩,⟨_,d3⟩,⟨_,d4⟩,⟨_,d5⟩,⟨_,d6⟩,⟨_,d7⟩,⟨_,d8⟩,⟨_,d9⟩,⟨_,d10⟩,⟨_,d11⟩,⟨_,d12⟩,⟨_,d13⟩⟩:=T.x_;obtain ⟨bH,xH⟩:=XC.of e0;obtain ⟨bF,xF⟩:=XC.of e1;have oF:XO K x1:=⟨XC.of e1,Q1,d1⟩;have hO:DZ K mg x1 x2 x3 x4 x5 x6 x7 x8 x9 x10 x11 x12 x13:=⟨n2,n3,n4,n5,n6,n7,n8,n9,n10,n11,n12,n13,λD hD=>by
  simp only [List.mem_cons,List.not_mem_nil,or_false] at hD;rcases hD with rfl | rfl | rfl | rfl | rfl | rfl
  ·exact ⟨d2,s2⟩
  ·exact ⟨d3,s3⟩
  ·exact ⟨d4,s4⟩
  ·exact ⟨d5,s5⟩
  ·exact ⟨d6,s6⟩
  ·exact ⟨d7,s7⟩,λD hD=>by
  simp only [List.mem_cons,List.not_mem_nil,or_false] at hD;rcases hD with rfl | rfl | rfl | rfl | rfl | rfl
  ·exact ⟨d8,s8⟩
  ·exact ⟨d9,s9⟩
  ·exact ⟨d10,s10⟩
  ·exact ⟨d11,s11⟩
  ·exact ⟨d12,s12⟩
  ·exact ⟨d13,s13⟩⟩
 obtain ⟨C1,m1,c1,a11,a12,i1,t1,w1,_⟩:=T.k_Set;obtain ⟨C3,m3,c3,a31,a32,i3,t3,w3,_⟩:=T.k_Add;obtain ⟨C4,m4,c4,a41,i4,t4,w4,_⟩:=T.k_Less;obtain ⟨C5,m5,c5,a51,a52,a53,i5,w5,t5,_⟩:=T.k_Times;obtain ⟨C7,m7,c7,a71,a72,i7,w7,t7,_⟩:=T.k_Count;obtain ⟨C6,m6,c6,a61,a62,a63,a64,i6,w6,t6,me6,_⟩:=T.k_While;obtain ⟨C8,m8,c8,a81,a82,i8,w8,t8,_⟩:=T.k_Bearing;generalize hC:(⟨C1,C1,C3,C4,C5,C6,C7,C8⟩:Cs)=C;have e1:C.s=C1:=by rw [←hC]
 have e3:C.a=C3:=by rw [←hC]
 have e4:C.l=C4:=by rw [←hC]
 have e5:C.t=C5:=by rw [←hC]
 have e6:C.w=C6:=by rw [←hC]
 have e7:C.n=C7:=by rw [←hC]
 have e8:C.b=C8:=by rw [←hC]
 clear hC;subst e1 e3 e4 e5 e6 e7 e8;have Wd:=T.d_is_whole.fxd (P:=P) (w:=w) (base:=base) λf fd T' ds F=>C0 F T.z_isinstance T.z_int T.z_bool;have Rs:=T.d_raised.fx λf fd T' ds F=>Bj F Wd;have Rd:=T.d_raised.fxd λf fd T' ds F=>Bj F Wd;have Wl:=T.d_whole.fx λf fd F=>C9 F Rs;have En:=T.d_endless.fx λf fd F=>Db F Wl Rd;have Cm:=T.d_compare.fx (P:=P) (w:=w) (base:=base) λf fd F=>CT F;have Pa:=T.d_parts_above.fx λf fd F=>CU F Cm T.z_len;have Ps:=T.d_plus.fx λf fd F=>CV F Pa T.z_len;have Wp:=T.d_whole_part.fx (P:=P) (w:=w) (base:=base) λf fd F=>CW F;have Ww:=T.d_without_whole.fx λf fd F=>CY F Wp;have Ti:=T.d_times.fx λf fd F=>CZ F Wp Ww Ps T.z_tuple;have Tt:=T.d_total.fx λf fd F=>Dc F Ps;have M1:∀i,Sk False i->Mt P w K mg base (C.at_ i) "weigh" ["self"] 6 (jE C i) []:=λi hi=>by
  match i,hi with
  | 0,_=>exact w1.mt c1 λf fd F=>zG (by decide) F Wl
  | 1,h=>exact (h.2 rfl).elim
  | 2,_=>exact w3.mt c3 λf fd F=>zG (by decide) F Wl
  | 3,_=>exact w4.mt c4 λf fd F=>zG (by decide) F Wl
  | 4,_=>exact w5.mt c5 λf fd F=>De F Ti En c5 a53
  | 5,_=>exact w6.mt c6 λf fd F=>Di F Ti Wl Ps Rd c6 a64 a62
  | 6,_=>exact w7.mt c7 λf fd F=>Dg F Ti Wl Ps c5 a53 c7 a71 a72
  | 7,_=>exact w8.mt c8 λf fd F=>Dh F Ti Wl Ps c6 a64 c8 a81 a82
  | n+8,h=>exact absurd h.1 (by (clear T F m0 e0 mF e1 n2 n3 n4 n5 n6 n7 n8 n9 n10 n11 n12 n13 s0 s2 s3 s4 s5 s6 s7 s8 s9 s10 s11 s12 s13 d0 Q1 d1 d2 d3 d4 d5 d6 d7 d8 d9 d10 d11 d12 d13 xH xF oF hO m1 c1 a11 a12 i1 t1 w1 m3 c3 a31 a32 i3 t3 w3 m4 c4 a41 i4 t4 w4 m5 c5 a51 a52 a53 i5 w5 t5 m6 c6 a61 a62 a63 a64 i6 w6 t6 me6 m7 c7 a71 a72 i7 w7 t7 m8 c8 a81 a82 i8 w8 t8 Wd Rs Rd Wl En Cm Pa Ps Wp Ww Ti Tt hi;omega))
 have We:=T.d_weight_of.fx λf fd F=>Dd F Tt M1 T.z_reversed;have Be:=T.d_by_exponent.fx (P:=P) (w:=w) (base:=base) λf fd F=>Dv F T.z_tuple T.z_sorted;have N1:=i1.new (P:=P) (w:=w) (base:=base) m1 λf fd F=>Dw F c1 a11 a12;have N3:=i3.new (P:=P) (w:=w) (base:=base) m3 λf fd F=>Dx F c3 a31 a32;have N4:=i4.new (P:=P) (w:=w) (base:=base) m4 λf fd F=>Dy F c4 a41;have N5:=i5.new m5 λf fd F=>Dz F We Wl Ps T.z_tuple c5 a51 a52 a53;have N6:=i6.new m6 λf fd F=>DA F Be We Wl Ps T.z_tuple c6 a61 a62 a63 a64;have N7:=i7.new (P:=P) (w:=w) (base:=base) m7 λf fd F=>Dp F c7 a71 a72;have N8:=i8.new (P:=P) (w:=w) (base:=base) m8 λf fd F=>Dt F c8 a81 a82;have He:=T.d_held.fx (P:=P) (w:=w) (base:=base) λf fd F=>Dj F;have Ms:=me6.mt (P:=P) (w:=w) (base:=base) c6 λf fd F=>Dk F He Rs T.z_sum c6 a62;have Sw:=t6.mt (P:=P) (w:=w) (base:=base) c6 λf fd F=>Bp F He N8 Ms c6 a61 a63 T.z_list;have M2:∀i,Sk False i->AY P w K mg base (C.at_ i) "step" ["self","boxes"] 8 (qV C x1 i) []:=λi hi=>by
  match i,hi with
  | 0,_=>exact hJ (by decide) (by decide) t1 c1 λf fd F=>Dl F c1 a11 a12
  | 1,h=>exact (h.2 rfl).elim
  | 2,_=>exact hJ (by decide) (by decide) t3 c3 λf fd F=>Dm F He c3 a31 a32
  | 3,_=>exact hJ (by decide) (by decide) t4 c4 λf fd F=>Do F He T.z_max c4 a41
  | 4,_=>exact hJ (by decide) (by decide) t5 c5 λf fd F=>Dq F He N7 c5 a51
  | 5,_=>exact hJ (by decide) (by decide) t6 c6 λf fd F=>(Bp F He N8 Ms c6 a61 a63 T.z_list).imp λ_ _ _ _ z=>wu z
  | 6,_=>exact hJ (by decide) (by decide) t7 c7 λf fd F=>Dr F N7 c5 a52 c7 a71 a72 T.z_list
  | 7,_=>exact uD t8 c8 λf fd F=>Du F mF xF He Cm Ms Sw c6 a61 c8 a81 a82
  | n+8,h=>exact absurd h.1 (by (clear T F m0 e0 mF e1 n2 n3 n4 n5 n6 n7 n8 n9 n10 n11 n12 n13 s0 s2 s3 s4 s5 s6 s7 s8 s9 s10 s11 s12 s13 d0 Q1 d1 d2 d3 d4 d5 d6 d7 d8 d9 d10 d11 d12 d13 xH xF oF hO m1 c1 a11 a12 i1 t1 w1 m3 c3 a31 a32 i3 t3 w3 m4 c4 a41 i4 t4 w4 m5 c5 a51 a52 a53 i5 w5 t5 m6 c6 a61 a62 a63 a64 i6 w6 t6 me6 m7 c7 a71 a72 i7 w7 t7 m8 c8 a81 a82 i8 w8 t8 Wd Rs Rd Wl En Cm Pa Ps Wp Ww Ti Tt M1 We Be N1 N3 N4 N5 N6 N7 N8 He Ms Sw hi;omega))
 have Wf:=T.d_weight_left.fx (P:=P) (w:=w) (base:=base) λf fd F=>DB F;have Pt:=T.d_put_ahead.fx λf fd F=>Bu F Wf Ps M1 T.z_reversed;have To:=T.d_told.fx λf fd F=>DD F Wf T.z_dict;have Tx:Rx P w K mg base "trace" ["rows","boxes","most"] 9 (qY C x1 False) []:=T.d_trace.rx λf fd T' ds F=>Bx F Pt To M2 T.z_dict T.z_len;have Tq:=T.d_trace.fx λf fd T' ds F=>(Bx F Pt To M2 T.z_dict T.z_len).calm (sp':=BF C x1 False) λ_ _ _ _ h=>h;have Ca:=T.d__law_cell_at.fx (P:=P) (w:=w) (base:=base) λf fd F=>DE F T.z_len;have Ex:=T.d__law_exponent.fx λf fd F=>DG F Wl En Rs;have Rf:=T.d__law_refused.fx λf fd F=>DF F Tx hO oF d1 d0 s0 xF.self m0 xH mF xF T.z_isinstance T.z_ValueError;exact (DH F Ca Ex Rf Tq N1 N3 N4 N5 N6 T.z_len T.z_isinstance T.z_list T.z_dict).mono (by decide)
end
set_option maxHeartbeats 0 in
theorem all_mk {l:PySem.W.OpenLaw} {w:World} {K:PySem.W.Frag} {h:Heap} {mg:Str->Option Value} {fa f1 f2 f3 f4 f5 f6 f7 f8 f9 f10 f11 f12 f13 f14 f15 f16 f17 f18 f19 f20 f21 f22:Addr} (X:K.In h) (G:h.Ns mainGlobals mg) (hfa:mg "law"=some (.ref fa))
 {od1 an1 od2 an2 od3 an3 od4 an4 od5 an5 od6 an6 od7 an7 od8 an8 od9 an9 od10 an10 od11 an11 od12 an12 od13 an13 od14 an14 od15 an15 od16 an16 od17 an17 od18 an18 od19 an19 od20 an20 od21 an21 od22 an22:Option Addr} {sl1 sl2 sl3 sl4 sl5 sl6 sl7 sl8 sl9 sl10 sl11 sl12 sl13 sl14 sl15 sl16 sl17 sl18 sl19 sl20 sl21 sl22:Array (Option Value)} {oc1 kV1 dc1 pm1 cd1 ct1 oc2 kV2 dc2 pm2 cd2 ct2 oc3 kV3 dc3 pm3 cd3 ct3 oc4 kV4 dc4 pm4 cd4 ct4 oc5 kV5 dc5 pm5 cd5 ct5 oc6 kV6 dc6 pm6 cd6 ct6 oc7 kV7 dc7 pm7 cd7 ct7 oc8 kV8 dc8 pm8 cd8 ct8 oc9 kV9 dc9 pm9 cd9 ct9 oc10 kV10 dc10 pm10 cd10 ct10 oc11 kV11 dc11 pm11 cd11 ct11 oc12 kV12 dc12 pm12 cd12 ct12 oc13 kV13 dc13 pm13 cd13 ct13 oc14 kV14 dc14 pm14 cd14 ct14 oc15 kV15 dc15 pm15 cd15 ct15 oc16 kV16 dc16 pm16 cd16 ct16 oc17 kV17 dc17 pm17 cd17 ct17 oc18 kV18 dc18 pm18 cd18 ct18 oc19 kV19 dc19 pm19 cd19 ct19 oc20 kV20 dc20 pm20 cd20 ct20 oc21 kV21 dc21 pm21 cd21 ct21 oc22 kV22 dc22 pm22 cd22 ct22:Value} {T1:Addr} {tc1:Value} {td1:Option Addr} {tn1:Nat} {ts1:Array (Option Value)} {tk1_0:Tok} {T4:Addr} {tc4:Value} {td4:Option Addr} {tn4:Nat} {ts4:Array (Option Value)} {tk4_0:Tok} {T15:Addr} {tc15:Value} {td15:Option Addr} {tn15:Nat} {ts15:Array (Option Value)} {tk15_0:Tok} {kc0:Addr} {mf0_0:Addr} {md0_0 man0_0:Option Addr} {msl0_0:Array (Option Value)} {moc0_0 mkV0_0 mdc0_0 mpm0_0 mcd0_0 mct0_0:Value} {mf0_1:Addr} {md0_1 man0_1:Option Addr} {msl0_1:Array (Option Value)} {moc0_1 mkV0_1 mdc0_1 mpm0_1 mcd0_1 mct0_1:Value} {mf0_100:Addr} {md0_100 man0_100:Option Addr} {msl0_100:Array (Option Value)} {moc0_100 mkV0_100 mdc0_100 mpm0_100 mcd0_100 mct0_100:Value} {kb0:Addr} {kbd0:ClassData} {kc1:Addr} {mf1_0:Addr} {md1_0 man1_0:Option Addr} {msl1_0:Array (Option Value)} {moc1_0 mkV1_0 mdc1_0 mpm1_0 mcd1_0 mct1_0:Value} {mf1_1:Addr} {md1_1 man1_1:Option Addr} {msl1_1:Array (Option Value)} {moc1_1 mkV1_1 mdc1_1 mpm1_1 mcd1_1 mct1_1:Value} {mf1_100:Addr} {md1_100 man1_100:Option Addr} {msl1_100:Array (Option Value)} {moc1_100 mkV1_100 mdc1_100 mpm1_100 mcd1_100 mct1_100:Value} {kb1:Addr} {kbd1:ClassData} {kc2:Addr} {mf2_0:Addr} {md2_0 man2_0:Option Addr} {msl2_0:Array (Option Value)} {moc2_0 mkV2_0 mdc2_0 mpm2_0 mcd2_0 mct2_0:Value} {mf2_1:Addr} {md2_1 man2_1:Option Addr} {msl2_1:Array (Option Value)} {moc2_1 mkV2_1 mdc2_1 mpm2_1 mcd2_1 mct2_1:Value} {mf2_100:Addr} {md2_100 man2_100:Option Addr} {msl2_100:Array (Option Value)} {moc2_100 mkV2_100 mdc2_100 mpm2_100 mcd2_100 mct2_100:Value} {kb2:Addr} {kbd2:ClassData} {kc3:Addr} {mf3_0:Addr} {md3_0 man3_0:Option Addr} {msl3_0:Array (Option Value)} {moc3_0 mkV3_0 mdc3_0 mpm3_0 mcd3_0 mct3_0:Value} {mf3_1:Addr} {md3_1 man3_1:Option Addr} {msl3_1:Array (Option Value)} {moc3_1 mkV3_1 mdc3_1 mpm3_1 mcd3_1 mct3_1:Value} {mf3_2:Addr} {md3_2 man3_2:Option Addr} {msl3_2:Array (Option Value)} {moc3_2 mkV3_2 mdc3_2 mpm3_2 mcd3_2 mct3_2:Value} {kb3:Addr} {kbd3:ClassData} {kc4:Addr} {mf4_0:Addr} {md4_0 man4_0:Option Addr} {msl4_0:Array (Option Value)} {moc4_0 mkV4_0 mdc4_0 mpm4_0 mcd4_0 mct4_0:Value} {mf4_1:Addr} {md4_1 man4_1:Option Addr} {msl4_1:Array (Option Value)} {moc4_1 mkV4_1 mdc4_1 mpm4_1 mcd4_1 mct4_1:Value} {mf4_2:Addr} {md4_2 man4_2:Option Addr} {msl4_2:Array (Option Value)} {moc4_2 mkV4_2 mdc4_2 mpm4_2 mcd4_2 mct4_2:Value} {kb4:Addr} {kbd4:ClassData} {kc5:Addr} {mf5_0:Addr} {md5_0 man5_0:Option Addr} {msl5_0:Array (Option Value)} {moc5_0 mkV5_0 mdc5_0 mpm5_0 mcd5_0 mct5_0:Value} {mf5_1:Addr} {md5_1 man5_1:Option Addr} {msl5_1:Array (Option Value)} {moc5_1 mkV5_1 mdc5_1 mpm5_1 mcd5_1 mct5_1:Value} {mf5_2:Addr} {md5_2 man5_2:Option Addr} {msl5_2:Array (Option Value)} {moc5_2 mkV5_2 mdc5_2 mpm5_2 mcd5_2 mct5_2:Value} {mf5_3:Addr} {md5_3 man5_3:Option Addr} {msl5_3:Array (Option Value)} {moc5_3 mkV5_3 mdc5_3 mpm5_3 mcd5_3 mct5_3:Value} {kb5:Addr} {kbd5:ClassData} {kc6:Addr} {mf6_0:Addr} {md6_0 man6_0:Option Addr} {msl6_0:Array (Option Value)} {moc6_0 mkV6_0 mdc6_0 mpm6_0 mcd6_0 mct6_0:Value} {mf6_1:Addr} {md6_1 man6_1:Option Addr} {msl6_1:Array (Option Value)} {moc6_1 mkV6_1 mdc6_1 mpm6_1 mcd6_1 mct6_1:Value} {mf6_2:Addr} {md6_2 man6_2:Option Addr} {msl6_2:Array (Option Value)} {moc6_2 mkV6_2 mdc6_2 mpm6_2 mcd6_2 mct6_2:Value} {kb6:Addr} {kbd6:ClassData} {xc0:Addr} {xcd0:ClassData} {xc1:Addr} {xcd1:ClassData} {xc2:Addr} {xcd2:ClassData} {xc3:Addr} {xcd3:ClassData} {xc4:Addr} {xcd4:ClassData} {xc5:Addr} {xcd5:ClassData} {xc6:Addr} {xcd6:ClassData} {xc7:Addr} {xcd7:ClassData} {xc8:Addr} {xcd8:ClassData} {xc9:Addr} {xcd9:ClassData} {xc10:Addr} {xcd10:ClassData} {xc11:Addr} {xcd11:ClassData} {xc12:Addr} {xcd12:ClassData} {xc13:Addr} {xcd13:ClassData}
 (a1:nsIn K mainGlobals "is_whole"=some (some (.ref f1))) (l1:K.lookup f1=some ⟨oc1,od1,.func (fnOf "is_whole" "is_whole" (aB (aU 16)) (aw (aU 16)) (ag (aU 16)) (.ref T1) kV1 dc1 pm1 an1 cd1 ct1),sl1⟩) (c1:codeIn K cd1 "is_whole"=true) (k1:keepIn K (.ref f1)=true)
 (a2:nsIn K mainGlobals "whole"=some (some (.ref f2))) (l2:K.lookup f2=some ⟨oc2,od2,.func (fnOf "whole" "whole" (aB (aU 17)) (aw (aU 17)) (ag (aU 17)) .none kV2 dc2 pm2 an2 cd2 ct2),sl2⟩) (c2:codeIn K cd2 "whole"=true) (k2:keepIn K (.ref f2)=true)
 (a3:nsIn K mainGlobals "endless"=some (some (.ref f3))) (l3:K.lookup f3=some ⟨oc3,od3,.func (fnOf "endless" "endless" (aB (aU 18)) (aw (aU 18)) (ag (aU 18)) .none kV3 dc3 pm3 an3 cd3 ct3),sl3⟩) (c3:codeIn K cd3 "endless"=true) (k3:keepIn K (.ref f3)=true)
 (a4:nsIn K mainGlobals "raised"=some (some (.ref f4))) (l4:K.lookup f4=some ⟨oc4,od4,.func (fnOf "raised" "raised" (aB (aU 19)) (aw (aU 19)) (ag (aU 19)) (.ref T4) kV4 dc4 pm4 an4 cd4 ct4),sl4⟩) (c4:codeIn K cd4 "raised"=true) (k4:keepIn K (.ref f4)=true)
 (a5:nsIn K mainGlobals "compare"=some (some (.ref f5))) (l5:K.lookup f5=some ⟨oc5,od5,.func (fnOf "compare" "compare" (aB (aU 20)) (aw (aU 20)) (ag (aU 20)) .none kV5 dc5 pm5 an5 cd5 ct5),sl5⟩) (c5:codeIn K cd5 "compare"=true) (k5:keepIn K (.ref f5)=true)
 (a6:nsIn K mainGlobals "whole_part"=some (some (.ref f6))) (l6:K.lookup f6=some ⟨oc6,od6,.func (fnOf "whole_part" "whole_part" (aB (aU 21)) (aw (aU 21)) (ag (aU 21)) .none kV6 dc6 pm6 an6 cd6 ct6),sl6⟩) (c6:codeIn K cd6 "whole_part"=true) (k6:keepIn K (.ref f6)=true)
 (a7:nsIn K mainGlobals "without_whole"=some (some (.ref f7))) (l7:K.lookup f7=some ⟨oc7,od7,.func (fnOf "without_whole" "without_whole" (aB (aU 22)) (aw (aU 22)) (ag (aU 22)) .none kV7 dc7 pm7 an7 cd7 ct7),sl7⟩) (c7:codeIn K cd7 "without_whole"=true) (k7:keepIn K (.ref f7)=true)
 (a8:nsIn K mainGlobals "plus"=some (some (.ref f8))) (l8:K.lookup f8=some ⟨oc8,od8,.func (fnOf "plus" "plus" (aB (aU 24)) (aw (aU 24)) (ag (aU 24)) .none kV8 dc8 pm8 an8 cd8 ct8),sl8⟩) (c8:codeIn K cd8 "plus"=true) (k8:keepIn K (.ref f8)=true)
 (a9:nsIn K mainGlobals "parts_above"=some (some (.ref f9))) (l9:K.lookup f9=some ⟨oc9,od9,.func (fnOf "parts_above" "parts_above" (aB (aU 25)) (aw (aU 25)) (ag (aU 25)) .none kV9 dc9 pm9 an9 cd9 ct9),sl9⟩) (c9:codeIn K cd9 "parts_above"=true) (k9:keepIn K (.ref f9)=true)
 (a10:nsIn K mainGlobals "total"=some (some (.ref f10))) (l10:K.lookup f10=some ⟨oc10,od10,.func (fnOf "total" "total" (aB (aU 26)) (aw (aU 26)) (ag (aU 26)) .none kV10 dc10 pm10 an10 cd10 ct10),sl10⟩) (c10:codeIn K cd10 "total"=true) (k10:keepIn K (.ref f10)=true)
 (a11:nsIn K mainGlobals "times"=some (some (.ref f11))) (l11:K.lookup f11=some ⟨oc11,od11,.func (fnOf "times" "times" (aB (aU 28)) (aw (aU 28)) (ag (aU 28)) .none kV11 dc11 pm11 an11 cd11 ct11),sl11⟩) (c11:codeIn K cd11 "times"=true) (k11:keepIn K (.ref f11)=true)
 (a12:nsIn K mainGlobals "weight_of"=some (some (.ref f12))) (l12:K.lookup f12=some ⟨oc12,od12,.func (fnOf "weight_of" "weight_of" (aB (aU 30)) (aw (aU 30)) (ag (aU 30)) .none kV12 dc12 pm12 an12 cd12 ct12),sl12⟩) (c12:codeIn K cd12 "weight_of"=true) (k12:keepIn K (.ref f12)=true)
 (a13:nsIn K mainGlobals "held"=some (some (.ref f13))) (l13:K.lookup f13=some ⟨oc13,od13,.func (fnOf "held" "held" (aB (aU 31)) (aw (aU 31)) (ag (aU 31)) .none kV13 dc13 pm13 an13 cd13 ct13),sl13⟩) (c13:codeIn K cd13 "held"=true) (k13:keepIn K (.ref f13)=true)
 (a14:nsIn K mainGlobals "by_exponent"=some (some (.ref f14))) (l14:K.lookup f14=some ⟨oc14,od14,.func (fnOf "by_exponent" "by_exponent" (aB (aU 40)) (aw (aU 40)) (ag (aU 40)) .none kV14 dc14 pm14 an14 cd14 ct14),sl14⟩) (c14:codeIn K cd14 "by_exponent"=true) (k14:keepIn K (.ref f14)=true)
 (a15:nsIn K mainGlobals "trace"=some (some (.ref f15))) (l15:K.lookup f15=some ⟨oc15,od15,.func (fnOf "trace" "trace" (aB (aU 42)) (aw (aU 42)) (ag (aU 42)) (.ref T15) kV15 dc15 pm15 an15 cd15 ct15),sl15⟩) (c15:codeIn K cd15 "trace"=true) (k15:keepIn K (.ref f15)=true)
 (a16:nsIn K mainGlobals "put_ahead"=some (some (.ref f16))) (l16:K.lookup f16=some ⟨oc16,od16,.func (fnOf "put_ahead" "put_ahead" (aB (aU 43)) (aw (aU 43)) (ag (aU 43)) .none kV16 dc16 pm16 an16 cd16 ct16),sl16⟩) (c16:codeIn K cd16 "put_ahead"=true) (k16:keepIn K (.ref f16)=true)
 (a17:nsIn K mainGlobals "weight_left"=some (some (.ref f17))) (l17:K.lookup f17=some ⟨oc17,od17,.func (fnOf "weight_left" "weight_left" (aB (aU 44)) (aw (aU 44)) (ag (aU 44)) .none kV17 dc17 pm17 an17 cd17 ct17),sl17⟩) (c17:codeIn K cd17 "weight_left"=true) (k17:keepIn K (.ref f17)=true)
 (a18:nsIn K mainGlobals "told"=some (some (.ref f18))) (l18:K.lookup f18=some ⟨oc18,od18,.func (fnOf "told" "told" (aB (aU 45)) (aw (aU 45)) (ag (aU 45)) .none kV18 dc18 pm18 an18 cd18 ct18),sl18⟩) (c18:codeIn K cd18 "told"=true) (k18:keepIn K (.ref f18)=true)
 (a19:nsIn K mainGlobals "_law_cell_at"=some (some (.ref f19))) (l19:K.lookup f19=some ⟨oc19,od19,.func (fnOf "_law_cell_at" "_law_cell_at" (aB (aU 47)) (aw (aU 47)) (ag (aU 47)) .none kV19 dc19 pm19 an19 cd19 ct19),sl19⟩) (c19:codeIn K cd19 "_law_cell_at"=true) (k19:keepIn K (.ref f19)=true)
 (a20:nsIn K mainGlobals "_law_refused"=some (some (.ref f20))) (l20:K.lookup f20=some ⟨oc20,od20,.func (fnOf "_law_refused" "_law_refused" (aB (aU 48)) (aw (aU 48)) (ag (aU 48)) .none kV20 dc20 pm20 an20 cd20 ct20),sl20⟩) (c20:codeIn K cd20 "_law_refused"=true) (k20:keepIn K (.ref f20)=true)
 (a21:nsIn K mainGlobals "_law_exponent"=some (some (.ref f21))) (l21:K.lookup f21=some ⟨oc21,od21,.func (fnOf "_law_exponent" "_law_exponent" (aB (aU 49)) (aw (aU 49)) (ag (aU 49)) .none kV21 dc21 pm21 an21 cd21 ct21),sl21⟩) (c21:codeIn K cd21 "_law_exponent"=true) (k21:keepIn K (.ref f21)=true)
 (a22:nsIn K mainGlobals "law"=some (some (.ref f22))) (l22:K.lookup f22=some ⟨oc22,od22,.func (fnOf "law" "law" (aB (aU 50)) (aw (aU 50)) (ag (aU 50)) .none kV22 dc22 pm22 an22 cd22 ct22),sl22⟩) (c22:codeIn K cd22 "law"=true) (k22:keepIn K (.ref f22)=true)
 (t1:K.lookup T1=some ⟨tc1,td1,.seq #[.int 0 tk1_0] tn1,ts1⟩)
 (t4:K.lookup T4=some ⟨tc4,td4,.seq #[.int 1 tk4_0] tn4,ts4⟩)
 (t15:K.lookup T15=some ⟨tc15,td15,.seq #[.int 50 tk15_0] tn15,ts15⟩)
 (xa0:nsIn K mainGlobals "HydraError"=some (some (.ref xc0))) (xe0:excIn K xc0 [.type "ValueError",.type "Exception",.type "BaseException",.type "object"] "ValueError.__new__"=true)
 (xa1:nsIn K mainGlobals "NoFall"=some (some (.ref xc1))) (xe1:excIn K xc1 [.type "ValueError",.type "Exception",.type "BaseException",.type "object"] "ValueError.__new__"=true)
 (xa2:nsIn K mainGlobals "NoNumber"=some (some (.ref xc2))) (xe2:excIn K xc2 [.type "ValueError",.type "Exception",.type "BaseException",.type "object"] "ValueError.__new__"=true)
 (xa3:nsIn K mainGlobals "Nought"=some (some (.ref xc3))) (xe3:excIn K xc3 [.type "ValueError",.type "Exception",.type "BaseException",.type "object"] "ValueError.__new__"=true)
 (xa4:nsIn K mainGlobals "TooHigh"=some (some (.ref xc4))) (xe4:excIn K xc4 [.type "ValueError",.type "Exception",.type "BaseException",.type "object"] "ValueError.__new__"=true)
 (xa5:nsIn K mainGlobals "NoLimit"=some (some (.ref xc5))) (xe5:excIn K xc5 [.type "ValueError",.type "Exception",.type "BaseException",.type "object"] "ValueError.__new__"=true)
 (xa6:nsIn K mainGlobals "NoHead"=some (some (.ref xc6))) (xe6:excIn K xc6 [.type "ValueError",.type "Exception",.type "BaseException",.type "object"] "ValueError.__new__"=true)
 (xa7:nsIn K mainGlobals "NoStep"=some (some (.ref xc7))) (xe7:excIn K xc7 [.type "ValueError",.type "Exception",.type "BaseException",.type "object"] "ValueError.__new__"=true)
 (xa8:nsIn K mainGlobals "NoFit"=some (some (.ref xc8))) (xe8:excIn K xc8 [.type "ValueError",.type "Exception",.type "BaseException",.type "object"] "ValueError.__new__"=true)
 (xa9:nsIn K mainGlobals "TooGreat"=some (some (.ref xc9))) (xe9:excIn K xc9 [.type "ValueError",.type "Exception",.type "BaseException",.type "object"] "ValueError.__new__"=true)
 (xa10:nsIn K mainGlobals "NoChore"=some (some (.ref xc10))) (xe10:excIn K xc10 [.type "ValueError",.type "Exception",.type "BaseException",.type "object"] "ValueError.__new__"=true)
 (xa11:nsIn K mainGlobals "NoText"=some (some (.ref xc11))) (xe11:excIn K xc11 [.type "ValueError",.type "Exception",.type "BaseException",.type "object"] "ValueError.__new__"=true)
 (xa12:nsIn K mainGlobals "NoName"=some (some (.ref xc12))) (xe12:excIn K xc12 [.type "ValueError",.type "Exception",.type "BaseException",.type "object"] "ValueError.__new__"=true)
 (xa13:nsIn K mainGlobals "NoRow"=some (some (.ref xc13))) (xe13:excIn K xc13 [.type "ValueError",.type "Exception",.type "BaseException",.type "object"] "ValueError.__new__"=true)
 (xm1_0:mroIn K xc1 (.ref xc0)=some true)
 (xm1_2:mroIn K xc1 (.ref xc2)=some false)
 (xm1_3:mroIn K xc1 (.ref xc3)=some false)
 (xm1_4:mroIn K xc1 (.ref xc4)=some false)
 (xm1_5:mroIn K xc1 (.ref xc5)=some false)
 (xm1_6:mroIn K xc1 (.ref xc6)=some false)
 (xm1_7:mroIn K xc1 (.ref xc7)=some false)
 (xm1_8:mroIn K xc1 (.ref xc8)=some false)
 (xm1_9:mroIn K xc1 (.ref xc9)=some false)
 (xm1_10:mroIn K xc1 (.ref xc10)=some false)
 (xm1_11:mroIn K xc1 (.ref xc11)=some false)
 (xm1_12:mroIn K xc1 (.ref xc12)=some false)
 (xm1_13:mroIn K xc1 (.ref xc13)=some false)
 (xqa0:findIn K (.ref xc0) "__getattribute__"=some (some (.builtin "BaseException.__getattribute__"))) (xqb0:findIn K (.ref xc0) "__getattr__"=some none) (xqc0:findIn K (.ref xc0) "__class__"=some (some (.builtin "object.__class__"))) (xqd0:clsIn K xc0=some xcd0) (xqe0:typeIn K (.ref xc0)=some (.type "type")) (xqf0:instIn K (.ref xc0) (.type "type")=some true)
 (xqa1:findIn K (.ref xc1) "__getattribute__"=some (some (.builtin "BaseException.__getattribute__"))) (xqb1:findIn K (.ref xc1) "__getattr__"=some none) (xqc1:findIn K (.ref xc1) "__class__"=some (some (.builtin "object.__class__"))) (xqd1:clsIn K xc1=some xcd1) (xqe1:typeIn K (.ref xc1)=some (.type "type")) (xqf1:instIn K (.ref xc1) (.type "type")=some true)
 (xqa2:findIn K (.ref xc2) "__getattribute__"=some (some (.builtin "BaseException.__getattribute__"))) (xqb2:findIn K (.ref xc2) "__getattr__"=some none) (xqc2:findIn K (.ref xc2) "__class__"=some (some (.builtin "object.__class__"))) (xqd2:clsIn K xc2=some xcd2) (xqe2:typeIn K (.ref xc2)=some (.type "type")) (xqf2:instIn K (.ref xc2) (.type "type")=some true)
 (xqa3:findIn K (.ref xc3) "__getattribute__"=some (some (.builtin "BaseException.__getattribute__"))) (xqb3:findIn K (.ref xc3) "__getattr__"=some none) (xqc3:findIn K (.ref xc3) "__class__"=some (some (.builtin "object.__class__"))) (xqd3:clsIn K xc3=some xcd3) (xqe3:typeIn K (.ref xc3)=some (.type "type")) (xqf3:instIn K (.ref xc3) (.type "type")=some true)
 (xqa4:findIn K (.ref xc4) "__getattribute__"=some (some (.builtin "BaseException.__getattribute__"))) (xqb4:findIn K (.ref xc4) "__getattr__"=some none) (xqc4:findIn K (.ref xc4) "__class__"=some (some (.builtin "object.__class__"))) (xqd4:clsIn K xc4=some xcd4) (xqe4:typeIn K (.ref xc4)=some (.type "type")) (xqf4:instIn K (.ref xc4) (.type "type")=some true)
 (xqa5:findIn K (.ref xc5) "__getattribute__"=some (some (.builtin "BaseException.__getattribute__"))) (xqb5:findIn K (.ref xc5) "__getattr__"=some none) (xqc5:findIn K (.ref xc5) "__class__"=some (some (.builtin "object.__class__"))) (xqd5:clsIn K xc5=some xcd5) (xqe5:typeIn K (.ref xc5)=some (.type "type")) (xqf5:instIn K (.ref xc5) (.type "type")=some true)
 (xqa6:findIn K (.ref xc6) "__getattribute__"=some (some (.builtin "BaseException.__getattribute__"))) (xqb6:findIn K (.ref xc6) "__getattr__"=some none) (xqc6:findIn K (.ref xc6) "__class__"=some (some (.builtin "object.__class__"))) (xqd6:clsIn K xc6=some xcd6) (xqe6:typeIn K (.ref xc6)=some (.type "type")) (xqf6:instIn K (.ref xc6) (.type "type")=some true)
 (xqa7:findIn K (.ref xc7) "__getattribute__"=some (some (.builtin "BaseException.__getattribute__"))) (xqb7:findIn K (.ref xc7) "__getattr__"=some none) (xqc7:findIn K (.ref xc7) "__class__"=some (some (.builtin "object.__class__"))) (xqd7:clsIn K xc7=some xcd7) (xqe7:typeIn K (.ref xc7)=some (.type "type")) (xqf7:instIn K (.ref xc7) (.type "type")=some true)
 (xqa8:findIn K (.ref xc8) "__getattribute__"=some (some (.builtin "BaseException.__getattribute__"))) (xqb8:findIn K (.ref xc8) "__getattr__"=some none) (xqc8:findIn K (.ref xc8) "__class__"=some (some (.builtin "object.__class__"))) (xqd8:clsIn K xc8=some xcd8) (xqe8:typeIn K (.ref xc8)=some (.type "type")) (xqf8:instIn K (.ref xc8) (.type "type")=some true)
 (xqa9:findIn K (.ref xc9) "__getattribute__"=some (some (.builtin "BaseException.__getattribute__"))) (xqb9:findIn K (.ref xc9) "__getattr__"=some none) (xqc9:findIn K (.ref xc9) "__class__"=some (some (.builtin "object.__class__"))) (xqd9:clsIn K xc9=some xcd9) (xqe9:typeIn K (.ref xc9)=some (.type "type")) (xqf9:instIn K (.ref xc9) (.type "type")=some true)
 (xqa10:findIn K (.ref xc10) "__getattribute__"=some (some (.builtin "BaseException.__getattribute__"))) (xqb10:findIn K (.ref xc10) "__getattr__"=some none) (xqc10:findIn K (.ref xc10) "__class__"=some (some (.builtin "object.__class__"))) (xqd10:clsIn K xc10=some xcd10) (xqe10:typeIn K (.ref xc10)=some (.type "type")) (xqf10:instIn K (.ref xc10) (.type "type")=some true)
 (xqa11:findIn K (.ref xc11) "__getattribute__"=some (some (.builtin "BaseException.__getattribute__"))) (xqb11:findIn K (.ref xc11) "__getattr__"=some none) (xqc11:findIn K (.ref xc11) "__class__"=some (some (.builtin "object.__class__"))) (xqd11:clsIn K xc11=some xcd11) (xqe11:typeIn K (.ref xc11)=some (.type "type")) (xqf11:instIn K (.ref xc11) (.type "type")=some true)
 (xqa12:findIn K (.ref xc12) "__getattribute__"=some (some (.builtin "BaseException.__getattribute__"))) (xqb12:findIn K (.ref xc12) "__getattr__"=some none) (xqc12:findIn K (.ref xc12) "__class__"=some (some (.builtin "object.__class__"))) (xqd12:clsIn K xc12=some xcd12) (xqe12:typeIn K (.ref xc12)=some (.type "type")) (xqf12:instIn K (.ref xc12) (.type "type")=some true)
 (xqa13:findIn K (.ref xc13) "__getattribute__"=some (some (.builtin "BaseException.__getattribute__"))) (xqb13:findIn K (.ref xc13) "__getattr__"=some none) (xqc13:findIn K (.ref xc13) "__class__"=some (some (.builtin "object.__class__"))) (xqd13:clsIn K xc13=some xcd13) (xqe13:typeIn K (.ref xc13)=some (.type "type")) (xqf13:instIn K (.ref xc13) (.type "type")=some true)
 (ka0:nsIn K mainGlobals "Set"=some (some (.ref kc0))) (kpg0:plainGet K kc0 Str.empty=true) (khd0:hasDictIn K kc0=true) (kpo0:plainOver K kc0=true) (ksa0:findIn K (.ref kc0) "__setattr__"=some (some (.builtin "object.__setattr__"))) (kmk0:makesIn K kc0=true) (kkc0:keepIn K (.ref kc0)=true) (kn0_0:findIn K (.ref kc0) "box"=some none) (kn0_1:findIn K (.ref kc0) "amount"=some none) (kf0_0:findIn K (.ref kc0) "__init__"=some (some (.ref mf0_0))) (kfn0_0:isFn K (.ref mf0_0)=true) (kl0_0:K.lookup mf0_0=some ⟨moc0_0,md0_0,.func (fnOf "__init__" "Set.__init__" (aB (aX 33 0)) (aw (aX 33 0)) (ag (aX 33 0)) .none mkV0_0 mdc0_0 mpm0_0 man0_0 mcd0_0 mct0_0),msl0_0⟩) (kcd0_0:codeIn K mcd0_0 "Set.__init__"=true) (kkp0_0:keepIn K (.ref mf0_0)=true) (kf0_1:findIn K (.ref kc0) "step"=some (some (.ref mf0_1))) (kfn0_1:isFn K (.ref mf0_1)=true) (kl0_1:K.lookup mf0_1=some ⟨moc0_1,md0_1,.func (fnOf "step" "Set.step" (aB (aX 33 1)) (aw (aX 33 1)) (ag (aX 33 1)) .none mkV0_1 mdc0_1 mpm0_1 man0_1 mcd0_1 mct0_1),msl0_1⟩) (kcd0_1:codeIn K mcd0_1 "Set.step"=true) (kkp0_1:keepIn K (.ref mf0_1)=true) (kf0_100:findIn K (.ref kc0) "weigh"=some (some (.ref mf0_100))) (kfn0_100:isFn K (.ref mf0_100)=true) (kl0_100:K.lookup mf0_100=some ⟨moc0_100,md0_100,.func (fnOf "weigh" "Row.weigh" (aB (aX 32 0)) (aw (aX 32 0)) (ag (aX 32 0)) .none mkV0_100 mdc0_100 mpm0_100 man0_100 mcd0_100 mct0_100),msl0_100⟩) (kcd0_100:codeIn K mcd0_100 "Row.weigh"=true) (kkp0_100:keepIn K (.ref mf0_100)=true) (kba0:nsIn K mainGlobals "Row"=some (some (.ref kb0))) (kbb0:clsIn K kb0=some kbd0) (kbc0:typeIn K (.ref kb0)=some (.type "type")) (kbe0:instIn K (.ref kb0) (.type "type")=some true) (kbm0:mroIn K kc0 (.ref kb0)=some true)
 (ka1:nsIn K mainGlobals "Add"=some (some (.ref kc1))) (kpg1:plainGet K kc1 Str.empty=true) (khd1:hasDictIn K kc1=true) (kpo1:plainOver K kc1=true) (ksa1:findIn K (.ref kc1) "__setattr__"=some (some (.builtin "object.__setattr__"))) (kmk1:makesIn K kc1=true) (kkc1:keepIn K (.ref kc1)=true) (kn1_0:findIn K (.ref kc1) "box"=some none) (kn1_1:findIn K (.ref kc1) "other"=some none) (kf1_0:findIn K (.ref kc1) "__init__"=some (some (.ref mf1_0))) (kfn1_0:isFn K (.ref mf1_0)=true) (kl1_0:K.lookup mf1_0=some ⟨moc1_0,md1_0,.func (fnOf "__init__" "Add.__init__" (aB (aX 34 0)) (aw (aX 34 0)) (ag (aX 34 0)) .none mkV1_0 mdc1_0 mpm1_0 man1_0 mcd1_0 mct1_0),msl1_0⟩) (kcd1_0:codeIn K mcd1_0 "Add.__init__"=true) (kkp1_0:keepIn K (.ref mf1_0)=true) (kf1_1:findIn K (.ref kc1) "step"=some (some (.ref mf1_1))) (kfn1_1:isFn K (.ref mf1_1)=true) (kl1_1:K.lookup mf1_1=some ⟨moc1_1,md1_1,.func (fnOf "step" "Add.step" (aB (aX 34 1)) (aw (aX 34 1)) (ag (aX 34 1)) .none mkV1_1 mdc1_1 mpm1_1 man1_1 mcd1_1 mct1_1),msl1_1⟩) (kcd1_1:codeIn K mcd1_1 "Add.step"=true) (kkp1_1:keepIn K (.ref mf1_1)=true) (kf1_100:findIn K (.ref kc1) "weigh"=some (some (.ref mf1_100))) (kfn1_100:isFn K (.ref mf1_100)=true) (kl1_100:K.lookup mf1_100=some ⟨moc1_100,md1_100,.func (fnOf "weigh" "Row.weigh" (aB (aX 32 0)) (aw (aX 32 0)) (ag (aX 32 0)) .none mkV1_100 mdc1_100 mpm1_100 man1_100 mcd1_100 mct1_100),msl1_100⟩) (kcd1_100:codeIn K mcd1_100 "Row.weigh"=true) (kkp1_100:keepIn K (.ref mf1_100)=true) (kba1:nsIn K mainGlobals "Row"=some (some (.ref kb1))) (kbb1:clsIn K kb1=some kbd1) (kbc1:typeIn K (.ref kb1)=some (.type "type")) (kbe1:instIn K (.ref kb1) (.type "type")=some true) (kbm1:mroIn K kc1 (.ref kb1)=some true)
 (ka2:nsIn K mainGlobals "Less"=some (some (.ref kc2))) (kpg2:plainGet K kc2 Str.empty=true) (khd2:hasDictIn K kc2=true) (kpo2:plainOver K kc2=true) (ksa2:findIn K (.ref kc2) "__setattr__"=some (some (.builtin "object.__setattr__"))) (kmk2:makesIn K kc2=true) (kkc2:keepIn K (.ref kc2)=true) (kn2_0:findIn K (.ref kc2) "box"=some none) (kf2_0:findIn K (.ref kc2) "__init__"=some (some (.ref mf2_0))) (kfn2_0:isFn K (.ref mf2_0)=true) (kl2_0:K.lookup mf2_0=some ⟨moc2_0,md2_0,.func (fnOf "__init__" "Less.__init__" (aB (aX 35 0)) (aw (aX 35 0)) (ag (aX 35 0)) .none mkV2_0 mdc2_0 mpm2_0 man2_0 mcd2_0 mct2_0),msl2_0⟩) (kcd2_0:codeIn K mcd2_0 "Less.__init__"=true) (kkp2_0:keepIn K (.ref mf2_0)=true) (kf2_1:findIn K (.ref kc2) "step"=some (some (.ref mf2_1))) (kfn2_1:isFn K (.ref mf2_1)=true) (kl2_1:K.lookup mf2_1=some ⟨moc2_1,md2_1,.func (fnOf "step" "Less.step" (aB (aX 35 1)) (aw (aX 35 1)) (ag (aX 35 1)) .none mkV2_1 mdc2_1 mpm2_1 man2_1 mcd2_1 mct2_1),msl2_1⟩) (kcd2_1:codeIn K mcd2_1 "Less.step"=true) (kkp2_1:keepIn K (.ref mf2_1)=true) (kf2_100:findIn K (.ref kc2) "weigh"=some (some (.ref mf2_100))) (kfn2_100:isFn K (.ref mf2_100)=true) (kl2_100:K.lookup mf2_100=some ⟨moc2_100,md2_100,.func (fnOf "weigh" "Row.weigh" (aB (aX 32 0)) (aw (aX 32 0)) (ag (aX 32 0)) .none mkV2_100 mdc2_100 mpm2_100 man2_100 mcd2_100 mct2_100),msl2_100⟩) (kcd2_100:codeIn K mcd2_100 "Row.weigh"=true) (kkp2_100:keepIn K (.ref mf2_100)=true) (kba2:nsIn K mainGlobals "Row"=some (some (.ref kb2))) (kbb2:clsIn K kb2=some kbd2) (kbc2:typeIn K (.ref kb2)=some (.type "type")) (kbe2:instIn K (.ref kb2) (.type "type")=some true) (kbm2:mroIn K kc2 (.ref kb2)=some true)
 (ka3:nsIn K mainGlobals "Times"=some (some (.ref kc3))) (kpg3:plainGet K kc3 Str.empty=true) (khd3:hasDictIn K kc3=true) (kpo3:plainOver K kc3=true) (ksa3:findIn K (.ref kc3) "__setattr__"=some (some (.builtin "object.__setattr__"))) (kmk3:makesIn K kc3=true) (kkc3:keepIn K (.ref kc3)=true) (kn3_0:findIn K (.ref kc3) "box"=some none) (kn3_1:findIn K (.ref kc3) "rows"=some none) (kn3_2:findIn K (.ref kc3) "of_round"=some none) (kf3_0:findIn K (.ref kc3) "__init__"=some (some (.ref mf3_0))) (kfn3_0:isFn K (.ref mf3_0)=true) (kl3_0:K.lookup mf3_0=some ⟨moc3_0,md3_0,.func (fnOf "__init__" "Times.__init__" (aB (aX 36 0)) (aw (aX 36 0)) (ag (aX 36 0)) .none mkV3_0 mdc3_0 mpm3_0 man3_0 mcd3_0 mct3_0),msl3_0⟩) (kcd3_0:codeIn K mcd3_0 "Times.__init__"=true) (kkp3_0:keepIn K (.ref mf3_0)=true) (kf3_1:findIn K (.ref kc3) "weigh"=some (some (.ref mf3_1))) (kfn3_1:isFn K (.ref mf3_1)=true) (kl3_1:K.lookup mf3_1=some ⟨moc3_1,md3_1,.func (fnOf "weigh" "Times.weigh" (aB (aX 36 1)) (aw (aX 36 1)) (ag (aX 36 1)) .none mkV3_1 mdc3_1 mpm3_1 man3_1 mcd3_1 mct3_1),msl3_1⟩) (kcd3_1:codeIn K mcd3_1 "Times.weigh"=true) (kkp3_1:keepIn K (.ref mf3_1)=true) (kf3_2:findIn K (.ref kc3) "step"=some (some (.ref mf3_2))) (kfn3_2:isFn K (.ref mf3_2)=true) (kl3_2:K.lookup mf3_2=some ⟨moc3_2,md3_2,.func (fnOf "step" "Times.step" (aB (aX 36 2)) (aw (aX 36 2)) (ag (aX 36 2)) .none mkV3_2 mdc3_2 mpm3_2 man3_2 mcd3_2 mct3_2),msl3_2⟩) (kcd3_2:codeIn K mcd3_2 "Times.step"=true) (kkp3_2:keepIn K (.ref mf3_2)=true) (kba3:nsIn K mainGlobals "Row"=some (some (.ref kb3))) (kbb3:clsIn K kb3=some kbd3) (kbc3:typeIn K (.ref kb3)=some (.type "type")) (kbe3:instIn K (.ref kb3) (.type "type")=some true) (kbm3:mroIn K kc3 (.ref kb3)=some true)
 (ka4:nsIn K mainGlobals "Count"=some (some (.ref kc4))) (kpg4:plainGet K kc4 Str.empty=true) (khd4:hasDictIn K kc4=true) (kpo4:plainOver K kc4=true) (ksa4:findIn K (.ref kc4) "__setattr__"=some (some (.builtin "object.__setattr__"))) (kmk4:makesIn K kc4=true) (kkc4:keepIn K (.ref kc4)=true) (kn4_0:findIn K (.ref kc4) "loop"=some none) (kn4_1:findIn K (.ref kc4) "rounds"=some none) (kf4_0:findIn K (.ref kc4) "__init__"=some (some (.ref mf4_0))) (kfn4_0:isFn K (.ref mf4_0)=true) (kl4_0:K.lookup mf4_0=some ⟨moc4_0,md4_0,.func (fnOf "__init__" "Count.__init__" (aB (aX 37 0)) (aw (aX 37 0)) (ag (aX 37 0)) .none mkV4_0 mdc4_0 mpm4_0 man4_0 mcd4_0 mct4_0),msl4_0⟩) (kcd4_0:codeIn K mcd4_0 "Count.__init__"=true) (kkp4_0:keepIn K (.ref mf4_0)=true) (kf4_1:findIn K (.ref kc4) "weigh"=some (some (.ref mf4_1))) (kfn4_1:isFn K (.ref mf4_1)=true) (kl4_1:K.lookup mf4_1=some ⟨moc4_1,md4_1,.func (fnOf "weigh" "Count.weigh" (aB (aX 37 1)) (aw (aX 37 1)) (ag (aX 37 1)) .none mkV4_1 mdc4_1 mpm4_1 man4_1 mcd4_1 mct4_1),msl4_1⟩) (kcd4_1:codeIn K mcd4_1 "Count.weigh"=true) (kkp4_1:keepIn K (.ref mf4_1)=true) (kf4_2:findIn K (.ref kc4) "step"=some (some (.ref mf4_2))) (kfn4_2:isFn K (.ref mf4_2)=true) (kl4_2:K.lookup mf4_2=some ⟨moc4_2,md4_2,.func (fnOf "step" "Count.step" (aB (aX 37 2)) (aw (aX 37 2)) (ag (aX 37 2)) .none mkV4_2 mdc4_2 mpm4_2 man4_2 mcd4_2 mct4_2),msl4_2⟩) (kcd4_2:codeIn K mcd4_2 "Count.step"=true) (kkp4_2:keepIn K (.ref mf4_2)=true) (kba4:nsIn K mainGlobals "Row"=some (some (.ref kb4))) (kbb4:clsIn K kb4=some kbd4) (kbc4:typeIn K (.ref kb4)=some (.type "type")) (kbe4:instIn K (.ref kb4) (.type "type")=some true) (kbm4:mroIn K kc4 (.ref kb4)=some true)
 (ka5:nsIn K mainGlobals "While"=some (some (.ref kc5))) (kpg5:plainGet K kc5 Str.empty=true) (khd5:hasDictIn K kc5=true) (kpo5:plainOver K kc5=true) (ksa5:findIn K (.ref kc5) "__setattr__"=some (some (.builtin "object.__setattr__"))) (kmk5:makesIn K kc5=true) (kkc5:keepIn K (.ref kc5)=true) (kn5_0:findIn K (.ref kc5) "box"=some none) (kn5_1:findIn K (.ref kc5) "heights"=some none) (kn5_2:findIn K (.ref kc5) "rows"=some none) (kn5_3:findIn K (.ref kc5) "of_round"=some none) (kf5_0:findIn K (.ref kc5) "__init__"=some (some (.ref mf5_0))) (kfn5_0:isFn K (.ref mf5_0)=true) (kl5_0:K.lookup mf5_0=some ⟨moc5_0,md5_0,.func (fnOf "__init__" "While.__init__" (aB (aX 38 0)) (aw (aX 38 0)) (ag (aX 38 0)) .none mkV5_0 mdc5_0 mpm5_0 man5_0 mcd5_0 mct5_0),msl5_0⟩) (kcd5_0:codeIn K mcd5_0 "While.__init__"=true) (kkp5_0:keepIn K (.ref mf5_0)=true) (kf5_1:findIn K (.ref kc5) "weigh"=some (some (.ref mf5_1))) (kfn5_1:isFn K (.ref mf5_1)=true) (kl5_1:K.lookup mf5_1=some ⟨moc5_1,md5_1,.func (fnOf "weigh" "While.weigh" (aB (aX 38 1)) (aw (aX 38 1)) (ag (aX 38 1)) .none mkV5_1 mdc5_1 mpm5_1 man5_1 mcd5_1 mct5_1),msl5_1⟩) (kcd5_1:codeIn K mcd5_1 "While.weigh"=true) (kkp5_1:keepIn K (.ref mf5_1)=true) (kf5_2:findIn K (.ref kc5) "step"=some (some (.ref mf5_2))) (kfn5_2:isFn K (.ref mf5_2)=true) (kl5_2:K.lookup mf5_2=some ⟨moc5_2,md5_2,.func (fnOf "step" "While.step" (aB (aX 38 2)) (aw (aX 38 2)) (ag (aX 38 2)) .none mkV5_2 mdc5_2 mpm5_2 man5_2 mcd5_2 mct5_2),msl5_2⟩) (kcd5_2:codeIn K mcd5_2 "While.step"=true) (kkp5_2:keepIn K (.ref mf5_2)=true) (kf5_3:findIn K (.ref kc5) "measure"=some (some (.ref mf5_3))) (kfn5_3:isFn K (.ref mf5_3)=true) (kl5_3:K.lookup mf5_3=some ⟨moc5_3,md5_3,.func (fnOf "measure" "While.measure" (aB (aX 38 3)) (aw (aX 38 3)) (ag (aX 38 3)) .none mkV5_3 mdc5_3 mpm5_3 man5_3 mcd5_3 mct5_3),msl5_3⟩) (kcd5_3:codeIn K mcd5_3 "While.measure"=true) (kkp5_3:keepIn K (.ref mf5_3)=true) (kba5:nsIn K mainGlobals "Row"=some (some (.ref kb5))) (kbb5:clsIn K kb5=some kbd5) (kbc5:typeIn K (.ref kb5)=some (.type "type")) (kbe5:instIn K (.ref kb5) (.type "type")=some true) (kbm5:mroIn K kc5 (.ref kb5)=some true)
 (ka6:nsIn K mainGlobals "Bearing"=some (some (.ref kc6))) (kpg6:plainGet K kc6 Str.empty=true) (khd6:hasDictIn K kc6=true) (kpo6:plainOver K kc6=true) (ksa6:findIn K (.ref kc6) "__setattr__"=some (some (.builtin "object.__setattr__"))) (kmk6:makesIn K kc6=true) (kkc6:keepIn K (.ref kc6)=true) (kn6_0:findIn K (.ref kc6) "loop"=some none) (kn6_1:findIn K (.ref kc6) "borne"=some none) (kf6_0:findIn K (.ref kc6) "__init__"=some (some (.ref mf6_0))) (kfn6_0:isFn K (.ref mf6_0)=true) (kl6_0:K.lookup mf6_0=some ⟨moc6_0,md6_0,.func (fnOf "__init__" "Bearing.__init__" (aB (aX 39 0)) (aw (aX 39 0)) (ag (aX 39 0)) .none mkV6_0 mdc6_0 mpm6_0 man6_0 mcd6_0 mct6_0),msl6_0⟩) (kcd6_0:codeIn K mcd6_0 "Bearing.__init__"=true) (kkp6_0:keepIn K (.ref mf6_0)=true) (kf6_1:findIn K (.ref kc6) "weigh"=some (some (.ref mf6_1))) (kfn6_1:isFn K (.ref mf6_1)=true) (kl6_1:K.lookup mf6_1=some ⟨moc6_1,md6_1,.func (fnOf "weigh" "Bearing.weigh" (aB (aX 39 1)) (aw (aX 39 1)) (ag (aX 39 1)) .none mkV6_1 mdc6_1 mpm6_1 man6_1 mcd6_1 mct6_1),msl6_1⟩) (kcd6_1:codeIn K mcd6_1 "Bearing.weigh"=true) (kkp6_1:keepIn K (.ref mf6_1)=true) (kf6_2:findIn K (.ref kc6) "step"=some (some (.ref mf6_2))) (kfn6_2:isFn K (.ref mf6_2)=true) (kl6_2:K.lookup mf6_2=some ⟨moc6_2,md6_2,.func (fnOf "step" "Bearing.step" (aB (aX 39 2)) (aw (aX 39 2)) (ag (aX 39 2)) .none mkV6_2 mdc6_2 mpm6_2 man6_2 mcd6_2 mct6_2),msl6_2⟩) (kcd6_2:codeIn K mcd6_2 "Bearing.step"=true) (kkp6_2:keepIn K (.ref mf6_2)=true) (kba6:nsIn K mainGlobals "Row"=some (some (.ref kb6))) (kbb6:clsIn K kb6=some kbd6) (kbc6:typeIn K (.ref kb6)=some (.type "type")) (kbe6:instIn K (.ref kb6) (.type "type")=some true) (kbm6:mroIn K kc6 (.ref kb6)=some true)
 (z1:nsIn K mainGlobals "ValueError"=some none) (z2:nsIn K mainGlobals "bool"=some none) (z3:nsIn K mainGlobals "dict"=some none) (z4:nsIn K mainGlobals "int"=some none) (z5:nsIn K mainGlobals "isinstance"=some none) (z6:nsIn K mainGlobals "len"=some none) (z7:nsIn K mainGlobals "list"=some none) (z8:nsIn K mainGlobals "max"=some none) (z9:nsIn K mainGlobals "reversed"=some none) (z10:nsIn K mainGlobals "sorted"=some none) (z11:nsIn K mainGlobals "sum"=some none) (z12:nsIn K mainGlobals "tuple"=some none):
 ∃fd:FuncData,(∀(s:Shared) (v:Value),BindsTo s fd ⟨[v],[]⟩ [("_law_script",v)])/\∀base:Heap,K.In base->base.Ns mainGlobals mg->dE l.prog w K mg base uE 100 fa fd ["_law_script"] (uF K gS):=by
 have e:=hfa.symm.trans (mg_of X G a22);cases e;have F1:fL K "is_whole" "is_whole" (aU 16) f1 _ T1 [.int 0 tk1_0]:=kK l1 c1 k1 t1 rfl;have b1:bG K _ ["thing","least"] []:=F1.binds λ_ _ _ _ _ _ us hl=>(λ(q:us.length=2)=>by clear hl;revert us;refine bO (λ_=>bO (λ_=>dD ?_));exact ⟨_,rfl,rfl⟩) (by simpa using hl);have e1:bG K _ ["thing","least"] [.int 0 tk1_0]:=F1.binds λ_ _ _ _ _ _ us hl=>(λ(q:us.length=1)=>by clear hl;revert us;refine bO (λ_=>dD ?_);exact ⟨_,rfl,rfl⟩) (by simpa using hl);have F2:=aQ (st:=aU 17) l2 c2 k2;have b2:=F2.binds (ps:=["n"]) λ_ _ _ _ _ _=>bO (λ_=>dD rfl);have F3:=aQ (st:=aU 18) l3 c3 k3;have b3:=F3.binds (ps:=[]) λ_ _ _ _ _ _=>dD rfl;have F4:fL K "raised" "raised" (aU 19) f4 _ T4 [.int 1 tk4_0]:=kK l4 c4 k4 t4 rfl;have b4:bG K _ ["exponent","times"] []:=F4.binds λ_ _ _ _ _ _ us hl=>(λ(q:us.length=2)=>by clear hl;revert us;refine bO (λ_=>bO (λ_=>dD ?_));exact ⟨_,rfl,rfl⟩) (by simpa using hl);have e4:bG K _ ["exponent","times"] [.int 1 tk4_0]:=F4.binds λ_ _ _ _ _ _ us hl=>(λ(q:us.length=1)=>by clear hl;revert us;refine bO (λ_=>dD ?_);exact ⟨_,rfl,rfl⟩) (by simpa using hl);have F5:=aQ (st:=aU 20) l5 c5 k5;have b5:=F5.binds (ps:=["a","b"]) λ_ _ _ _ _ _=>bO (λ_=>bO (λ_=>dD rfl));have F6:=aQ (st:=aU 21) l6 c6 k6;have b6:=F6.binds (ps:=["a"]) λ_ _ _ _ _ _=>bO (λ_=>dD rfl);have F7:=aQ (st:=aU 22) l7 c7 k7;have b7:=F7.binds (ps:=["a"]) λ_ _ _ _ _ _=>bO (λ_=>dD rfl);have F8:=aQ (st:=aU 24) l8 c8 k8;have b8:=F8.binds (ps:=["a","b"]) λ_ _ _ _ _ _=>bO (λ_=>bO (λ_=>dD rfl));have F9:=aQ (st:=aU 25) l9 c9 k9;have b9:=F9.binds (ps:=["a","exponent"]) λ_ _ _ _ _ _=>bO (λ_=>bO (λ_=>dD rfl));have F10:=aQ (st:=aU 26) l10 c10 k10;have b10:=F10.binds (ps:=["some"]) λ_ _ _ _ _ _=>bO (λ_=>dD rfl);have F11:=aQ (st:=aU 28) l11 c11 k11;have b11:=F11.binds (ps:=["a","b"]) λ_ _ _ _ _ _=>bO (λ_=>bO (λ_=>dD rfl));have F12:=aQ (st:=aU 30) l12 c12 k12;have b12:=F12.binds (ps:=["things"]) λ_ _ _ _ _ _=>bO (λ_=>dD rfl);have F13:=aQ (st:=aU 31) l13 c13 k13;have b13:=F13.binds (ps:=["boxes","box"]) λ_ _ _ _ _ _=>bO (λ_=>bO (λ_=>dD rfl));have F14:=aQ (st:=aU 40) l14 c14 k14;have b14:=F14.binds (ps:=["marks"]) λ_ _ _ _ _ _=>bO (λ_=>dD rfl);have F15:fL K "trace" "trace" (aU 42) f15 _ T15 [.int 50 tk15_0]:=kK l15 c15 k15 t15 rfl;have b15:bG K _ ["rows","boxes","most"] []:=F15.binds λ_ _ _ _ _ _ us hl=>(λ(q:us.length=3)=>by clear hl;revert us;refine bO (λ_=>bO (λ_=>bO (λ_=>dD ?_)));exact ⟨_,rfl,rfl⟩) (by simpa using hl);have e15:bG K _ ["rows","boxes","most"] [.int 50 tk15_0]:=F15.binds λ_ _ _ _ _ _ us hl=>(λ(q:us.length=2)=>by clear hl;revert us;refine bO (λ_=>bO (λ_=>dD ?_));exact ⟨_,rfl,rfl⟩) (by simpa using hl);have F16:=aQ (st:=aU 43) l16 c16 k16;have b16:=F16.binds (ps:=["left","things"]) λ_ _ _ _ _ _=>bO (λ_=>bO (λ_=>dD rfl));have F17:=aQ (st:=aU 44) l17 c17 k17;have b17:=F17.binds (ps:=["left"]) λ_ _ _ _ _ _=>bO (λ_=>dD rfl);have F18:=aQ (st:=aU 45) l18 c18 k18;have b18:=F18.binds (ps:=["left","boxes"]) λ_ _ _ _ _ _=>bO (λ_=>bO (λ_=>dD rfl));have F19:=aQ (st:=aU 47) l19 c19 k19;have b19:=F19.binds (ps:=["_law_script","_law_k"]) λ_ _ _ _ _ _=>bO (λ_=>bO (λ_=>dD rfl));have F20:=aQ (st:=aU 48) l20 c20 k20;have b20:=F20.binds (ps:=["_law_made","_law_boxes","_law_most","_law_way"]) λ_ _ _ _ _ _=>bO (λ_=>bO (λ_=>bO (λ_=>bO (λ_=>dD rfl))));have F21:=aQ (st:=aU 49) l21 c21 k21;have b21:=F21.binds (ps:=["_law_cell"]) λ_ _ _ _ _ _=>bO (λ_=>dD rfl);have F22:=aQ (st:=aU 50) l22 c22 k22;have FM0_0:=aQ (st:=aX 33 0) kl0_0 kcd0_0 kkp0_0;have bM0_0:=FM0_0.binds (ps:=["self","box","amount"]) λ_ _ _ _ _ _=>bO (λ_=>bO (λ_=>bO (λ_=>dD rfl)));have FM0_1:=aQ (st:=aX 33 1) kl0_1 kcd0_1 kkp0_1;have bM0_1:=FM0_1.binds (ps:=["self","boxes"]) λ_ _ _ _ _ _=>bO (λ_=>bO (λ_=>dD rfl));have FM0_100:=aQ (st:=aX 32 0) kl0_100 kcd0_100 kkp0_100;have bM0_100:=FM0_100.binds (ps:=["self"]) λ_ _ _ _ _ _=>bO (λ_=>dD rfl);have FM1_0:=aQ (st:=aX 34 0) kl1_0 kcd1_0 kkp1_0;have bM1_0:=FM1_0.binds (ps:=["self","box","other"]) λ_ _ _ _ _ _=>bO (λ_=>bO (λ_=>bO (λ_=>dD rfl)));have FM1_1:=aQ (st:=aX 34 1) kl1_1 kcd1_1 kkp1_1;have bM1_1:=FM1_1.binds (ps:=["self","boxes"]) λ_ _ _ _ _ _=>bO (λ_=>bO (λ_=>dD rfl));have FM1_100:=aQ (st:=aX 32 0) kl1_100 kcd1_100 kkp1_100;have bM1_100:=FM1_100.binds (ps:=["self"]) λ_ _ _ _ _ _=>bO (λ_=>dD rfl);have FM2_0:=aQ (st:=aX 35 0) kl2_0 kcd2_0 kkp2_0;have bM2_0:=FM2_0.binds (ps:=["self","box"]) λ_ _ _ _ _ _=>bO (λ_=>bO (λ_=>dD rfl));have FM2_1:=aQ (st:=aX 35 1) kl2_1 kcd2_1 kkp2_1;have bM2_1:=FM2_1.binds (ps:=["self","boxes"]) λ_ _ _ _ _ _=>bO (λ_=>bO (λ_=>dD rfl));have FM2_100:=aQ (st:=aX 32 0) kl2_100 kcd2_100 kkp2_100;have bM2_100:=FM2_100.binds (ps:=["self"]) λ_ _ _ _ _ _=>bO (λ_=>dD rfl);have FM3_0:=aQ (st:=aX 36 0) kl3_0 kcd3_0 kkp3_0;have bM3_0:=FM3_0.binds (ps:=["self","box","rows"]) λ_ _ _ _ _ _=>bO (λ_=>bO (λ_=>bO (λ_=>dD rfl)));have FM3_1:=aQ (st:=aX 36 1) kl3_1 kcd3_1 kkp3_1;have bM3_1:=FM3_1.binds (ps:=["self"]) λ_ _ _ _ _ _=>bO (λ_=>dD rfl);have FM3_2:=aQ (st:=aX 36 2) kl3_2 kcd3_2 kkp3_2;have bM3_2:=FM3_2.binds (ps:=["self","boxes"]) λ_ _ _ _ _ _=>bO (λ_=>bO (λ_=>dD rfl));have FM4_0:=aQ (st:=aX 37 0) kl4_0 kcd4_0 kkp4_0;have bM4_0:=FM4_0.binds (ps:=["self","loop","rounds"]) λ_ _ _ _ _ _=>bO (λ_=>bO (λ_=>bO (λ_=>dD rfl)));have FM4_1:=aQ (st:=aX 37 1) kl4_1 kcd4_1 kkp4_1;have bM4_1:=FM4_1.binds (ps:=["self"]) λ_ _ _ _ _ _=>bO (λ_=>dD rfl);have FM4_2:=aQ (st:=aX 37 2) kl4_2 kcd4_2 kkp4_2;have bM4_2:=FM4_2.binds (ps:=["self","boxes"]) λ_ _ _ _ _ _=>bO (λ_=>bO (λ_=>dD rfl));have FM5_0:=aQ (st:=aX 38 0) kl5_0 kcd5_0 kkp5_0;have bM5_0:=FM5_0.binds (ps:=["self","box","marks","rows"]) λ_ _ _ _ _ _=>bO (λ_=>bO (λ_=>bO (λ_=>bO (λ_=>dD rfl))));have FM5_1:=aQ (st:=aX 38 1) kl5_1 kcd5_1 kkp5_1;have bM5_1:=FM5_1.binds (ps:=["self"]) λ_ _ _ _ _ _=>bO (λ_=>dD rfl);have FM5_2:=aQ (st:=aX 38 2) kl5_2 kcd5_2 kkp5_2;have bM5_2:=FM5_2.binds (ps:=["self","boxes"]) λ_ _ _ _ _ _=>bO (λ_=>bO (λ_=>dD rfl));have FM5_3:=aQ (st:=aX 38 3) kl5_3 kcd5_3 kkp5_3;have bM5_3:=FM5_3.binds (ps:=["self","boxes"]) λ_ _ _ _ _ _=>bO (λ_=>bO (λ_=>dD rfl));have FM6_0:=aQ (st:=aX 39 0) kl6_0 kcd6_0 kkp6_0;have bM6_0:=FM6_0.binds (ps:=["self","loop","borne"]) λ_ _ _ _ _ _=>bO (λ_=>bO (λ_=>bO (λ_=>dD rfl)));have FM6_1:=aQ (st:=aX 39 1) kl6_1 kcd6_1 kkp6_1;have bM6_1:=FM6_1.binds (ps:=["self"]) λ_ _ _ _ _ _=>bO (λ_=>dD rfl);have FM6_2:=aQ (st:=aX 39 2) kl6_2 kcd6_2 kkp6_2;have bM6_2:=FM6_2.binds (ps:=["self","boxes"]) λ_ _ _ _ _ _=>bO (λ_=>bO (λ_=>dD rfl));have T:Txt K mg:=⟨⟨f1,_,T1,_,[.int 0],F1,b1,e1,mg_of X G a1,(.cons ⟨_,rfl⟩ .nil),λ_=>(.cons (.int _) .nil)⟩,⟨f2,_,F2,b2,mg_of X G a2⟩,⟨f3,_,F3,b3,mg_of X G a3⟩,⟨f4,_,T4,_,[.int 1],F4,b4,e4,mg_of X G a4,(.cons ⟨_,rfl⟩ .nil),λ_=>(.cons (.int _) .nil)⟩,⟨f5,_,F5,b5,mg_of X G a5⟩,⟨f6,_,F6,b6,mg_of X G a6⟩,⟨f7,_,F7,b7,mg_of X G a7⟩,⟨f8,_,F8,b8,mg_of X G a8⟩,⟨f9,_,F9,b9,mg_of X G a9⟩,⟨f10,_,F10,b10,mg_of X G a10⟩,⟨f11,_,F11,b11,mg_of X G a11⟩,⟨f12,_,F12,b12,mg_of X G a12⟩,⟨f13,_,F13,b13,mg_of X G a13⟩,⟨f14,_,F14,b14,mg_of X G a14⟩,⟨f15,_,T15,_,[.int 50],F15,b15,e15,mg_of X G a15,(.cons ⟨_,rfl⟩ .nil),λ_=>(.cons (.int _) .nil)⟩,⟨f16,_,F16,b16,mg_of X G a16⟩,⟨f17,_,F17,b17,mg_of X G a17⟩,⟨f18,_,F18,b18,mg_of X G a18⟩,⟨f19,_,F19,b19,mg_of X G a19⟩,⟨f20,_,F20,b20,mg_of X G a20⟩,⟨f21,_,F21,b21,mg_of X G a21⟩,⟨kc0,mg_of X G ka0,⟨kpg0,khd0,kpo0,ksa0⟩,kn0_0,kn0_1,⟨mf0_0,_,⟨kmk0,kf0_0,kfn0_0,kkc0⟩,FM0_0,bM0_0⟩,⟨mf0_1,_,⟨kf0_1,kfn0_1,kkp0_1⟩,FM0_1,bM0_1⟩,⟨mf0_100,_,⟨kf0_100,kfn0_100,kkp0_100⟩,FM0_100,bM0_100⟩,⟨kb0,mg_of X G kba0,⟨⟨_,kbb0⟩,kbc0,kbe0⟩,kbm0⟩⟩,⟨kc1,mg_of X G ka1,⟨kpg1,khd1,kpo1,ksa1⟩,kn1_0,kn1_1,⟨mf1_0,_,⟨kmk1,kf1_0,kfn1_0,kkc1⟩,FM1_0,bM1_0⟩,⟨mf1_1,_,⟨kf1_1,kfn1_1,kkp1_1⟩,FM1_1,bM1_1⟩,⟨mf1_100,_,⟨kf1_100,kfn1_100,kkp1_100⟩,FM1_100,bM1_100⟩,⟨kb1,mg_of X G kba1,⟨⟨_,kbb1⟩,kbc1,kbe1⟩,kbm1⟩⟩,⟨kc2,mg_of X G ka2,⟨kpg2,khd2,kpo2,ksa2⟩,kn2_0,⟨mf2_0,_,⟨kmk2,kf2_0,kfn2_0,kkc2⟩,FM2_0,bM2_0⟩,⟨mf2_1,_,⟨kf2_1,kfn2_1,kkp2_1⟩,FM2_1,bM2_1⟩,⟨mf2_100,_,⟨kf2_100,kfn2_100,kkp2_100⟩,FM2_100,bM2_100⟩,⟨kb2,mg_of X G kba2,⟨⟨_,kbb2⟩,kbc2,kbe2⟩,kbm2⟩⟩,⟨kc3,mg_of X G ka3,⟨kpg3,khd3,kpo3,ksa3⟩,kn3_0,kn3_1,kn3_2,⟨mf3_0,_,⟨kmk3,kf3_0,kfn3_0,kkc3⟩,FM3_0,bM3_0⟩,⟨mf3_1,_,⟨kf3_1,kfn3_1,kkp3_1⟩,FM3_1,bM3_1⟩,⟨mf3_2,_,⟨kf3_2,kfn3_2,kkp3_2⟩,FM3_2,bM3_2⟩,⟨kb3,mg_of X G kba3,⟨⟨_,kbb3⟩,kbc3,kbe3⟩,kbm3⟩⟩,⟨kc4,mg_of X G ka4,⟨kpg4,khd4,kpo4,ksa4⟩,kn4_0,kn4_1,⟨mf4_0,_,⟨kmk4,kf4_0,kfn4_0,kkc4⟩,FM4_0,bM4_0⟩,⟨mf4_1,_,⟨kf4_1,kfn4_1,kkp4_1⟩,FM4_1,bM4_1⟩,⟨mf4_2,_,⟨kf4_2,kfn4_2,kkp4_2⟩,FM4_2,bM4_2⟩,⟨kb4,mg_of X G kba4,⟨⟨_,kbb4⟩,kbc4,kbe4⟩,kbm4⟩⟩,⟨kc5,mg_of X G ka5,⟨kpg5,khd5,kpo5,ksa5⟩,kn5_0,kn5_1,kn5_2,kn5_3,⟨mf5_0,_,⟨kmk5,kf5_0,kfn5_0,kkc5⟩,FM5_0,bM5_0⟩,⟨mf5_1,_,⟨kf5_1,kfn5_1,kkp5_1⟩,FM5_1,bM5_1⟩,⟨mf5_2,_,⟨kf5_2,kfn5_2,kkp5_2⟩,FM5_2,bM5_2⟩,⟨mf5_3,_,⟨kf5_3,kfn5_3,kkp5_3⟩,FM5_3,bM5_3⟩,⟨kb5,mg_of X G kba5,⟨⟨_,kbb5⟩,kbc5,kbe5⟩,kbm5⟩⟩,⟨kc6,mg_of X G ka6,⟨kpg6,khd6,kpo6,ksa6⟩,kn6_0,kn6_1,⟨mf6_0,_,⟨kmk6,kf6_0,kfn6_0,kkc6⟩,FM6_0,bM6_0⟩,⟨mf6_1,_,⟨kf6_1,kfn6_1,kkp6_1⟩,FM6_1,bM6_1⟩,⟨mf6_2,_,⟨kf6_2,kfn6_2,kkp6_2⟩,FM6_2,bM6_2⟩,⟨kb6,mg_of X G kba6,⟨⟨_,kbb6⟩,kbc6,kbe6⟩,kbm6⟩⟩,⟨xc0,xc1,xc2,xc3,xc4,xc5,xc6,xc7,xc8,xc9,xc10,xc11,xc12,xc13,⟨mg_of X G xa0,xe0⟩,⟨mg_of X G xa1,xe1⟩,⟨mg_of X G xa2,xe2⟩,⟨mg_of X G xa3,xe3⟩,⟨mg_of X G xa4,xe4⟩,⟨mg_of X G xa5,xe5⟩,⟨mg_of X G xa6,xe6⟩,⟨mg_of X G xa7,xe7⟩,⟨mg_of X G xa8,xe8⟩,⟨mg_of X G xa9,xe9⟩,⟨mg_of X G xa10,xe10⟩,⟨mg_of X G xa11,xe11⟩,⟨mg_of X G xa12,xe12⟩,⟨mg_of X G xa13,xe13⟩,xm1_0,xm1_2,xm1_3,xm1_4,xm1_5,xm1_6,xm1_7,xm1_8,xm1_9,xm1_10,xm1_11,xm1_12,xm1_13,⟨⟨xqa0,xqb0,xqc0⟩,⟨⟨_,xqd0⟩,xqe0,xqf0⟩⟩,⟨⟨xqa1,xqb1,xqc1⟩,⟨⟨_,xqd1⟩,xqe1,xqf1⟩⟩,⟨⟨xqa2,xqb2,xqc2⟩,⟨⟨_,xqd2⟩,xqe2,xqf2⟩⟩,⟨⟨xqa3,xqb3,xqc3⟩,⟨⟨_,xqd3⟩,xqe3,xqf3⟩⟩,⟨⟨xqa4,xqb4,xqc4⟩,⟨⟨_,xqd4⟩,xqe4,xqf4⟩⟩,⟨⟨xqa5,xqb5,xqc5⟩,⟨⟨_,xqd5⟩,xqe5,xqf5⟩⟩,⟨⟨xqa6,xqb6,xqc6⟩,⟨⟨_,xqd6⟩,xqe6,xqf6⟩⟩,⟨⟨xqa7,xqb7,xqc7⟩,⟨⟨_,xqd7⟩,xqe7,xqf7⟩⟩,⟨⟨xqa8,xqb8,xqc8⟩,⟨⟨_,xqd8⟩,xqe8,xqf8⟩⟩,⟨⟨xqa9,xqb9,xqc9⟩,⟨⟨_,xqd9⟩,xqe9,xqf9⟩⟩,⟨⟨xqa10,xqb10,xqc10⟩,⟨⟨_,xqd10⟩,xqe10,xqf10⟩⟩,⟨⟨xqa11,xqb11,xqc11⟩,⟨⟨_,xqd11⟩,xqe11,xqf11⟩⟩,⟨⟨xqa12,xqb12,xqc12⟩,⟨⟨_,xqd12⟩,xqe12,xqf12⟩⟩,⟨⟨xqa13,xqb13,xqc13⟩,⟨⟨_,xqd13⟩,xqe13,xqf13⟩⟩⟩,mg_none_of X G z1,mg_none_of X G z2,mg_none_of X G z3,mg_none_of X G z4,mg_none_of X G z5,mg_none_of X G z6,mg_none_of X G z7,mg_none_of X G z8,mg_none_of X G z9,mg_none_of X G z10,mg_none_of X G z11,mg_none_of X G z12⟩;exact ⟨fnOf "law" "law" (aB (aU 50)) (aw (aU 50)) (ag (aU 50)) .none kV22 dc22 pm22 an22 cd22 ct22,λs v=> .of_eq rfl,λbase _ _=>zR T F22⟩
theorem walk {l:PySem.W.OpenLaw} {q:Program} {loose:List Str} {XP:(Str->Option Value)->Heap->Prop} {YP:World->Heap->Prop} {d:DefRec} {K:Params->PySem.W.Frag} (hn:l.most=some 63) (hdf:d.params.defaults=[])
 (hY:∀(w:World) (h:Heap),YP w h->(K w.params).In h)
 (F:∀(w:World) (mg:Str->Option Value) (fa:Addr) (h:Heap),(K w.params).In h->h.Ns mainGlobals mg->mg d.name=some (.ref fa)->
   ∃fd:FuncData,(∀(s:Shared) (u:Value),BindsTo s fd ⟨[u],[]⟩ [("_law_script",u)])/\∀base:Heap,(K w.params).In base->base.Ns mainGlobals mg->dE l.prog w (K w.params) mg base uE 100 fa fd ["_law_script"] (uF (K w.params) gS)):
 PySem.W.WalkO q loose XP YP l.row.toRowW d [] (λf vs=>PySem.call f vs):=
 L2.walk_ofC (n:=63) (k:=100) (x:="_law_script") (CX:=λ_=>uE) (sp:=λw=>uF (K w.params) gS) hn (by decide) hdf ⟨rfl,by decide,by decide⟩ hY F (λ_ _ _ _ hl hc hO hS=>oq hO hS hl hc) λ_ _ _ _ _ z=>z
end Lw
namespace PySem.W.Fast
theorem te12227457070421100250:True:=trivial
theorem te11119860513348633064:True:=trivial
theorem te11303612257782477696:True:=trivial
theorem te16273622105446372407:True:=trivial
theorem te16575995087740956697:True:=trivial
theorem te4672286601783359596:True:=trivial
theorem te3287870579640686427:True:=trivial
theorem te13315384386235660130:True:=trivial
theorem te14621116414254305864:True:=trivial
theorem te7116761919549118407:True:=trivial
theorem te6750329193470453198:True:=trivial
theorem te17198701866591167514:True:=trivial
theorem te5656683850517330049:True:=trivial
theorem te8341624764696911647:True:=trivial
theorem te5788351204796430622:True:=trivial
theorem te9054077370875728605:True:=trivial
theorem te12167311142369366739:True:=trivial
theorem te7765236708293027642:True:=trivial
theorem te7567735483785438537:True:=trivial
theorem te16331111541984976428:True:=trivial
theorem te11980605984133118002:True:=trivial
theorem te17923031671122077227:True:=trivial
theorem te10862018993474855803:True:=trivial
theorem te423305757720644789:True:=trivial
theorem te11117017168812501523:True:=trivial
theorem te9359706205280721351:True:=trivial
theorem te11547270714668003981:True:=trivial
theorem te3889254943223678742:True:=trivial
theorem te3206553381475569785:True:=trivial
theorem te1306750324284422760:True:=trivial
theorem te2666862379518095903:True:=trivial
theorem te17163760546553081328:True:=trivial
theorem te15720786854469440737:True:=trivial
theorem te13919925674810242056:True:=trivial
theorem te5624766486145461293:True:=trivial
theorem te2401020929298414156:True:=trivial
theorem te4933128472758285111:True:=trivial
theorem te5246647203246935412:True:=trivial
theorem te8496037815991944717:True:=trivial
theorem te4215206896424773645:True:=trivial
theorem te12085398753855851249:True:=trivial
theorem te8259844937973292141:True:=trivial
theorem te9761750484766384149:True:=trivial
theorem te10558114676150418991:True:=trivial
theorem te15191732621301265767:True:=trivial
theorem te762201291078779522:True:=trivial
theorem te16395727438777635381:True:=trivial
theorem te2019592056642695116:True:=trivial
theorem te10126823490314959950:True:=trivial
theorem te9258695054086357008:True:=trivial
theorem te7746213442540089337:True:=trivial
theorem te13402933079294830370:True:=trivial
theorem te11057717153869388398:True:=trivial
theorem te11468360528416812072:True:=trivial
theorem te3901607168349218290:True:=trivial
theorem te15735012884547556985:True:=trivial
theorem te15772029137357273281:True:=trivial
theorem te2173943960752860548:True:=trivial
theorem te5459778934660365009:True:=trivial
theorem te17358139872359492461:True:=trivial
theorem te18234022132786096243:True:=trivial
theorem te15887543777798966526:True:=trivial
theorem te1245767248185034446:True:=trivial
theorem te4510859305038288692:True:=trivial
theorem te11581862799593505944:True:=trivial
theorem te4959889420401009469:True:=trivial
theorem te16949577633974912950:True:=trivial
theorem te4691728718490222223:True:=trivial
theorem te15897714733823144090:True:=trivial
theorem te15240485970103401148:True:=trivial
theorem te10213803786837728655:True:=trivial
theorem te15294070783253240399:True:=trivial
theorem te1410775421964547975:True:=trivial
theorem te14401895555638040765:True:=trivial
theorem te12825323797269664132:True:=trivial
theorem te5836421498619358224:True:=trivial
theorem te2840028435342096689:True:=trivial
theorem te14478329021329522637:True:=trivial
theorem te11687916256336306952:True:=trivial
theorem te8458469996768083133:True:=trivial
theorem te4859823509142827644:True:=trivial
theorem te6129769874935932331:True:=trivial
theorem te9318979583962168970:True:=trivial
theorem te3435719197305072474:True:=trivial
theorem te15434110892402405972:True:=trivial
theorem te17982201769516452336:True:=trivial
theorem te12648275685897136651:True:=trivial
theorem te16387286621484118987:True:=trivial
theorem te3450755997247481994:True:=trivial
theorem te10528409434795254985:True:=trivial
theorem te6113268216189036907:True:=trivial
theorem te13859034864178786847:True:=trivial
theorem te1573333109820582970:True:=trivial
theorem te2037581786129900170:True:=trivial
theorem te878761804335867828:True:=trivial
theorem te4047704048995050040:True:=trivial
theorem te8971467879241983918:True:=trivial
theorem te14353046439807419619:True:=trivial
theorem te14357344109316722481:True:=trivial
theorem te17065954148788311646:True:=trivial
theorem te2160488338868486918:True:=trivial
theorem te17081828084736680447:True:=trivial
theorem te469167271886834877:True:=trivial
theorem te561656563098812927:True:=trivial
theorem te5876672322834621835:True:=trivial
theorem te13862700687991329169:True:=trivial
theorem te4148033090793943972:True:=trivial
theorem te17169174078801906239:True:=trivial
theorem te6301933778916288524:True:=trivial
theorem te792102172209303839:True:=trivial
theorem te12160897048648461337:True:=trivial
theorem te5043838577562481934:True:=trivial
theorem te5983208215294555679:True:=trivial
theorem te5294585157066323022:True:=trivial
theorem te14172880963364131221:True:=trivial
theorem te12891567256224795707:True:=trivial
theorem te5955309201746151242:True:=trivial
theorem te3701821363495391788:True:=trivial
theorem te9338027392910818578:True:=trivial
theorem te13360950742688467449:True:=trivial
theorem te742727591092373715:True:=trivial
theorem te6597004609176031244:True:=trivial
theorem te8515003538548218186:True:=trivial
theorem te1414520338616275066:True:=trivial
theorem te9024687543337108070:True:=trivial
theorem te9104162594333015343:True:=trivial
theorem te10296888134992087049:True:=trivial
theorem te7311934197475567839:True:=trivial
theorem te3792705111818316476:True:=trivial
theorem te4399601885529664239:True:=trivial
theorem te14020641782068666134:True:=trivial
theorem te11256381656774472742:True:=trivial
theorem te9908831167744307795:True:=trivial
theorem te5095065742410663642:True:=trivial
theorem te5601008552190654629:True:=trivial
theorem te13683953740585713085:True:=trivial
theorem te15657571940928694249:True:=trivial
theorem te13461592050250030974:True:=trivial
theorem te10753005136334534295:True:=trivial
theorem te11433931521725457244:True:=trivial
theorem te11887499654728869424:True:=trivial
theorem te17946674853695810328:True:=trivial
theorem te4058510740942354522:True:=trivial
theorem te9507239981239686025:True:=trivial
theorem te1977828643941356581:True:=trivial
theorem te6108604267206436280:True:=trivial
theorem te12430389922440815783:True:=trivial
theorem te6904429970685290644:True:=trivial
theorem te17641853522308936169:True:=trivial
theorem te7055775314571655405:True:=trivial
noncomputable def tw68236627651279294:Unit:=()
noncomputable def tw5995232867000901935:Unit:=()
noncomputable def tw6876323050877196734:Unit:=()
noncomputable def tw5664582774526331371:Unit:=()
noncomputable def tw2738041162582027378:Unit:=()
noncomputable def tw2784136317104836705:Unit:=()
noncomputable def tw15510798580720761736:Unit:=()
noncomputable def tw3110416042577414968:Unit:=()
noncomputable def tw6121127526160819200:Unit:=()
noncomputable def tw3412332442904199392:Unit:=()
noncomputable def tw4596670719960752576:Unit:=()
noncomputable def tw6737845039263838720:Unit:=()
noncomputable def tw6668036696468559906:Unit:=()
noncomputable def tw380893751600518114:Unit:=()
noncomputable def tw5349748745291223044:Unit:=()
noncomputable def tw16700819250477481828:Unit:=()
noncomputable def tw4245409462827430758:Unit:=()
noncomputable def tw16681509528931397096:Unit:=()
noncomputable def tw16885964514544476842:Unit:=()
noncomputable def tw6618073588385848587:Unit:=()
noncomputable def tw5259177286420049613:Unit:=()
noncomputable def tw15963063883562643854:Unit:=()
noncomputable def tw10312872102941147822:Unit:=()
noncomputable def tw9858910686173680080:Unit:=()
noncomputable def tw8629856050185046673:Unit:=()
noncomputable def tw14312814279121063729:Unit:=()
noncomputable def tw5640961480922295763:Unit:=()
noncomputable def tw8142720789549634484:Unit:=()
noncomputable def tw9573741610208202357:Unit:=()
noncomputable def tw16207711865159275477:Unit:=()
noncomputable def tw1298663724572042262:Unit:=()
noncomputable def tw6055118542378500375:Unit:=()
noncomputable def tw7806013296248093913:Unit:=()
noncomputable def tw10882345540787376986:Unit:=()
noncomputable def tw5429410193419312058:Unit:=()
noncomputable def tw16060373286222535515:Unit:=()
noncomputable def tw4508765805079250463:Unit:=()
end PySem.W.Fast
open PySem PySem.W PyProof.Rows
set_option maxRecDepth 100000 in
set_option maxHeartbeats 0 in
theorem PySem.Challenge.cw_hydrahouse_k66_no_fall_holds : PySem.Challenge.rw_hydrahouse_k66_no_fall.Holds := by
 w_on;o_law;k_head;(case hw=>w_witness2)
 k_fill
 refine Lw.walk (l:=PySem.Challenge.rw_hydrahouse_k66_no_fall) rfl rfl (λw h Y=>PySem.W.kIn_of Y) ?F
 case F=>
  intro w mg fa h KX G hmg;refine' Lw.all_mk KX G hmg ?a1 ?l1 ?c1 ?k1 ?a2 ?l2 ?c2 ?k2 ?a3 ?l3 ?c3 ?k3 ?a4 ?l4 ?c4 ?k4 ?a5 ?l5 ?c5 ?k5 ?a6 ?l6 ?c6 ?k6 ?a7 ?l7 ?c7 ?k7 ?a8 ?l8 ?c8 ?k8 ?a9 ?l9 ?c9 ?k9 ?a10 ?l10 ?c10 ?k10 ?a11 ?l11 ?c11 ?k11 ?a12 ?l12 ?c12 ?k12 ?a13 ?l13 ?c13 ?k13 ?a14 ?l14 ?c14 ?k14 ?a15 ?l15 ?c15 ?k15 ?a16 ?l16 ?c16 ?k16 ?a17 ?l17 ?c17 ?k17 ?a18 ?l18 ?c18 ?k18 ?a19 ?l19 ?c19 ?k19 ?a20 ?l20 ?c20 ?k20 ?a21 ?l21 ?c21 ?k21 ?a22 ?l22 ?c22 ?k22 ?t1 ?t4 ?t15 ?xa0 ?xe0 ?xa1 ?xe1 ?xa2 ?xe2 ?xa3 ?xe3 ?xa4 ?xe4 ?xa5 ?xe5 ?xa6 ?xe6 ?xa7 ?xe7 ?xa8 ?xe8 ?xa9 ?xe9 ?xa10 ?xe10 ?xa11 ?xe11 ?xa12 ?xe12 ?xa13 ?xe13 ?xm1_0 ?xm1_2 ?xm1_3 ?xm1_4 ?xm1_5 ?xm1_6 ?xm1_7 ?xm1_8 ?xm1_9 ?xm1_10 ?xm1_11 ?xm1_12 ?xm1_13 ?xqa0 ?xqb0 ?xqc0 ?xqd0 ?xqe0 ?xqf0 ?xqa1 ?xqb1 ?xqc1 ?xqd1 ?xqe1 ?xqf1 ?xqa2 ?xqb2 ?xqc2 ?xqd2 ?xqe2 ?xqf2 ?xqa3 ?xqb3 ?xqc3 ?xqd3 ?xqe3 ?xqf3 ?xqa4 ?xqb4 ?xqc4 ?xqd4 ?xqe4 ?xqf4 ?xqa5 ?xqb5 ?xqc5 ?xqd5 ?xqe5 ?xqf5 ?xqa6 ?xqb6 ?xqc6 ?xqd6 ?xqe6 ?xqf6 ?xqa7 ?xqb7 ?xqc7 ?xqd7 ?xqe7 ?xqf7 ?xqa8 ?xqb8 ?xqc8 ?xqd8 ?xqe8 ?xqf8 ?xqa9 ?xqb9 ?xqc9 ?xqd9 ?xqe9 ?xqf9 ?xqa10 ?xqb10 ?xqc10 ?xqd10 ?xqe10 ?xqf10 ?xqa11 ?xqb11 ?xqc11 ?xqd11 ?xqe11 ?xqf11 ?xqa12 ?xqb12 ?xqc12 ?xqd12 ?xqe12 ?xqf12 ?xqa13 ?xqb13 ?xqc13 ?xqd13 ?xqe13 ?xqf13 ?ka0 ?kpg0 ?khd0 ?kpo0 ?ksa0 ?kmk0 ?kkc0 ?kn0_0 ?kn0_1 ?kf0_0 ?kfn0_0 ?kl0_0 ?kcd0_0 ?kkp0_0 ?kf0_1 ?kfn0_1 ?kl0_1 ?kcd0_1 ?kkp0_1 ?kf0_100 ?kfn0_100 ?kl0_100 ?kcd0_100 ?kkp0_100 ?kba0 ?kbb0 ?kbc0 ?kbe0 ?kbm0 ?ka1 ?kpg1 ?khd1 ?kpo1 ?ksa1 ?kmk1 ?kkc1 ?kn1_0 ?kn1_1 ?kf1_0 ?kfn1_0 ?kl1_0 ?kcd1_0 ?kkp1_0 ?kf1_1 ?kfn1_1 ?kl1_1 ?kcd1_1 ?kkp1_1 ?kf1_100 ?kfn1_100 ?kl1_100 ?kcd1_100 ?kkp1_100 ?kba1 ?kbb1 ?kbc1 ?kbe1 ?kbm1 ?ka2 ?kpg2 ?khd2 ?kpo2 ?ksa2 ?kmk2 ?kkc2 ?kn2_0 ?kf2_0 ?kfn2_0 ?kl2_0 ?kcd2_0 ?kkp2_0 ?kf2_1 ?kfn2_1 ?kl2_1 ?kcd2_1 ?kkp2_1 ?kf2_100 ?kfn2_100 ?kl2_100 ?kcd2_100 ?kkp2_100 ?kba2 ?kbb2 ?kbc2 ?kbe2 ?kbm2 ?ka3 ?kpg3 ?khd3 ?kpo3 ?ksa3 ?kmk3 ?kkc3 ?kn3_0 ?kn3_1 ?kn3_2 ?kf3_0 ?kfn3_0 ?kl3_0 ?kcd3_0 ?kkp3_0 ?kf3_1 ?kfn3_1 ?kl3_1 ?kcd3_1 ?kkp3_1 ?kf3_2 ?kfn3_2 ?kl3_2 ?kcd3_2 ?kkp3_2 ?kba3 ?kbb3 ?kbc3 ?kbe3 ?kbm3 ?ka4 ?kpg4 ?khd4 ?kpo4 ?ksa4 ?kmk4 ?kkc4 ?kn4_0 ?kn4_1 ?kf4_0 ?kfn4_0 ?kl4_0 ?kcd4_0 ?kkp4_0 ?kf4_1 ?kfn4_1 ?kl4_1 ?kcd4_1 ?kkp4_1 ?kf4_2 ?kfn4_2 ?kl4_2 ?kcd4_2 ?kkp4_2 ?kba4 ?kbb4 ?kbc4 ?kbe4 ?kbm4 ?ka5 ?kpg5 ?khd5 ?kpo5 ?ksa5 ?kmk5 ?kkc5 ?kn5_0 ?kn5_1 ?kn5_2 ?kn5_3 ?kf5_0 ?kfn5_0 ?kl5_0 ?kcd5_0 ?kkp5_0 ?kf5_1 ?kfn5_1 ?kl5_1 ?kcd5_1 ?kkp5_1 ?kf5_2 ?kfn5_2 ?kl5_2 ?kcd5_2 ?kkp5_2 ?kf5_3 ?kfn5_3 ?kl5_3 ?kcd5_3 ?kkp5_3 ?kba5 ?kbb5 ?kbc5 ?kbe5 ?kbm5 ?ka6 ?kpg6 ?khd6 ?kpo6 ?ksa6 ?kmk6 ?kkc6 ?kn6_0 ?kn6_1 ?kf6_0 ?kfn6_0 ?kl6_0 ?kcd6_0 ?kkp6_0 ?kf6_1 ?kfn6_1 ?kl6_1 ?kcd6_1 ?kkp6_1 ?kf6_2 ?kfn6_2 ?kl6_2 ?kcd6_2 ?kkp6_2 ?kba6 ?kbb6 ?kbc6 ?kbe6 ?kbm6 ?z1 ?z2 ?z3 ?z4 ?z5 ?z6 ?z7 ?z8 ?z9 ?z10 ?z11 ?z12
  (case a1=>k_is)
  (case l1=>k_is)
  (case c1=>k_is)
  (case k1=>k_is)
  (case a2=>k_is)
  (case l2=>k_is)
  (case c2=>k_is)
  (case k2=>k_is)
  (case a3=>k_is)
  (case l3=>k_is)
  (case c3=>k_is)
  (case k3=>k_is)
  (case a4=>k_is)
  (case l4=>k_is)
  (case c4=>k_is)
  (case k4=>k_is)
  (case a5=>k_is)
  (case l5=>k_is)
  (case c5=>k_is)
  (case k5=>k_is)
  (case a6=>k_is)
  (case l6=>k_is)
  (case c6=>k_is)
  (case k6=>k_is)
  (case a7=>k_is)
  (case l7=>k_is)
  (case c7=>k_is)
  (case k7=>k_is)
  (case a8=>k_is)
  (case l8=>k_is)
  (case c8=>k_is)
  (case k8=>k_is)
  (case a9=>k_is)
  (case l9=>k_is)
  (case c9=>k_is)
  (case k9=>k_is)
  (case a10=>k_is)
  (case l10=>k_is)
  (case c10=>k_is)
  (case k10=>k_is)
  (case a11=>k_is)
  (case l11=>k_is)
  (case c11=>k_is)
  (case k11=>k_is)
  (case a12=>k_is)
  (case l12=>k_is)
  (case c12=>k_is)
  (case k12=>k_is)
  (case a13=>k_is)
  (case l13=>k_is)
  (case c13=>k_is)
  (case k13=>k_is)
  (case a14=>k_is)
  (case l14=>k_is)
  (case c14=>k_is)
  (case k14=>k_is)
  (case a15=>k_is)
  (case l15=>k_is)
  (case c15=>k_is)
  (case k15=>k_is)
  (case a16=>k_is)
  (case l16=>k_is)
  (case c16=>k_is)
  (case k16=>k_is)
  (case a17=>k_is)
  (case l17=>k_is)
  (case c17=>k_is)
  (case k17=>k_is)
  (case a18=>k_is)
  (case l18=>k_is)
  (case c18=>k_is)
  (case k18=>k_is)
  (case a19=>k_is)
  (case l19=>k_is)
  (case c19=>k_is)
  (case k19=>k_is)
  (case a20=>k_is)
  (case l20=>k_is)
  (case c20=>k_is)
  (case k20=>k_is)
  (case a21=>k_is)
  (case l21=>k_is)
  (case c21=>k_is)
  (case k21=>k_is)
  (case a22=>k_is)
  (case l22=>k_is)
  (case c22=>k_is)
  (case k22=>k_is)
  (case t1=>k_is)
  (case t4=>k_is)
  (case t15=>k_is)
  (case xa0=>k_is)
  (case xe0=>k_exc)
  (case xa1=>k_is)
  (case xe1=>k_exc)
  (case xa2=>k_is)
  (case xe2=>k_exc)
  (case xa3=>k_is)
  (case xe3=>k_exc)
  (case xa4=>k_is)
  (case xe4=>k_exc)
  (case xa5=>k_is)
  (case xe5=>k_exc)
  (case xa6=>k_is)
  (case xe6=>k_exc)
  (case xa7=>k_is)
  (case xe7=>k_exc)
  (case xa8=>k_is)
  (case xe8=>k_exc)
  (case xa9=>k_is)
  (case xe9=>k_exc)
  (case xa10=>k_is)
  (case xe10=>k_exc)
  (case xa11=>k_is)
  (case xe11=>k_exc)
  (case xa12=>k_is)
  (case xe12=>k_exc)
  (case xa13=>k_is)
  (case xe13=>k_exc)
  (case xm1_0=>k_is)
  (case xm1_2=>k_is)
  (case xm1_3=>k_is)
  (case xm1_4=>k_is)
  (case xm1_5=>k_is)
  (case xm1_6=>k_is)
  (case xm1_7=>k_is)
  (case xm1_8=>k_is)
  (case xm1_9=>k_is)
  (case xm1_10=>k_is)
  (case xm1_11=>k_is)
  (case xm1_12=>k_is)
  (case xm1_13=>k_is)
  (case xqa0=>k_is)
  (case xqb0=>k_is)
  (case xqc0=>k_is)
  (case xqd0=>k_is)
  (case xqe0=>k_is)
  (case xqf0=>k_is)
  (case xqa1=>k_is)
  (case xqb1=>k_is)
  (case xqc1=>k_is)
  (case xqd1=>k_is)
  (case xqe1=>k_is)
  (case xqf1=>k_is)
  (case xqa2=>k_is)
  (case xqb2=>k_is)
  (case xqc2=>k_is)
  (case xqd2=>k_is)
  (case xqe2=>k_is)
  (case xqf2=>k_is)
  (case xqa3=>k_is)
  (case xqb3=>k_is)
  (case xqc3=>k_is)
  (case xqd3=>k_is)
  (case xqe3=>k_is)
  (case xqf3=>k_is)
  (case xqa4=>k_is)
  (case xqb4=>k_is)
  (case xqc4=>k_is)
  (case xqd4=>k_is)
  (case xqe4=>k_is)
  (case xqf4=>k_is)
  (case xqa5=>k_is)
  (case xqb5=>k_is)
  (case xqc5=>k_is)
  (case xqd5=>k_is)
  (case xqe5=>k_is)
  (case xqf5=>k_is)
  (case xqa6=>k_is)
  (case xqb6=>k_is)
  (case xqc6=>k_is)
  (case xqd6=>k_is)
  (case xqe6=>k_is)
  (case xqf6=>k_is)
  (case xqa7=>k_is)
  (case xqb7=>k_is)
  (case xqc7=>k_is)
  (case xqd7=>k_is)
  (case xqe7=>k_is)
  (case xqf7=>k_is)
  (case xqa8=>k_is)
  (case xqb8=>k_is)
  (case xqc8=>k_is)
  (case xqd8=>k_is)
  (case xqe8=>k_is)
  (case xqf8=>k_is)
  (case xqa9=>k_is)
  (case xqb9=>k_is)
  (case xqc9=>k_is)
  (case xqd9=>k_is)
  (case xqe9=>k_is)
  (case xqf9=>k_is)
  (case xqa10=>k_is)
  (case xqb10=>k_is)
  (case xqc10=>k_is)
  (case xqd10=>k_is)
  (case xqe10=>k_is)
  (case xqf10=>k_is)
  (case xqa11=>k_is)
  (case xqb11=>k_is)
  (case xqc11=>k_is)
  (case xqd11=>k_is)
  (case xqe11=>k_is)
  (case xqf11=>k_is)
  (case xqa12=>k_is)
  (case xqb12=>k_is)
  (case xqc12=>k_is)
  (case xqd12=>k_is)
  (case xqe12=>k_is)
  (case xqf12=>k_is)
  (case xqa13=>k_is)
  (case xqb13=>k_is)
  (case xqc13=>k_is)
  (case xqd13=>k_is)
  (case xqe13=>k_is)
  (case xqf13=>k_is)
  (case ka0=>k_is)
  (case kpg0=>k_is)
  (case khd0=>k_is)
  (case kpo0=>k_is)
  (case ksa0=>k_is)
  (case kmk0=>k_is)
  (case kkc0=>k_is)
  (case kn0_0=>k_is)
  (case kn0_1=>k_is)
  (case kf0_0=>k_is)
  (case kfn0_0=>k_is)
  (case kl0_0=>k_is)
  (case kcd0_0=>k_is)
  (case kkp0_0=>k_is)
  (case kf0_1=>k_is)
  (case kfn0_1=>k_is)
  (case kl0_1=>k_is)
  (case kcd0_1=>k_is)
  (case kkp0_1=>k_is)
  (case kf0_100=>k_is)
  (case kfn0_100=>k_is)
  (case kl0_100=>k_is)
  (case kcd0_100=>k_is)
  (case kkp0_100=>k_is)
  (case kba0=>k_is)
  (case kbb0=>k_is)
  (case kbc0=>k_is)
  (case kbe0=>k_is)
  (case kbm0=>k_is)
  (case ka1=>k_is)
  (case kpg1=>k_is)
  (case khd1=>k_is)
  (case kpo1=>k_is)
  (case ksa1=>k_is)
  (case kmk1=>k_is)
  (case kkc1=>k_is)
  (case kn1_0=>k_is)
  (case kn1_1=>k_is)
  (case kf1_0=>k_is)
  (case kfn1_0=>k_is)
  (case kl1_0=>k_is)
  (case kcd1_0=>k_is)
  (case kkp1_0=>k_is)
  (case kf1_1=>k_is)
  (case kfn1_1=>k_is)
  (case kl1_1=>k_is)
  (case kcd1_1=>k_is)
  (case kkp1_1=>k_is)
  (case kf1_100=>k_is)
  (case kfn1_100=>k_is)
  (case kl1_100=>k_is)
  (case kcd1_100=>k_is)
  (case kkp1_100=>k_is)
  (case kba1=>k_is)
  (case kbb1=>k_is)
  (case kbc1=>k_is)
  (case kbe1=>k_is)
  (case kbm1=>k_is)
  (case ka2=>k_is)
  (case kpg2=>k_is)
  (case khd2=>k_is)
  (case kpo2=>k_is)
  (case ksa2=>k_is)
  (case kmk2=>k_is)
  (case kkc2=>k_is)
  (case kn2_0=>k_is)
  (case kf2_0=>k_is)
  (case kfn2_0=>k_is)
  (case kl2_0=>k_is)
  (case kcd2_0=>k_is)
  (case kkp2_0=>k_is)
  (case kf2_1=>k_is)
  (case kfn2_1=>k_is)
  (case kl2_1=>k_is)
  (case kcd2_1=>k_is)
  (case kkp2_1=>k_is)
  (case kf2_100=>k_is)
  (case kfn2_100=>k_is)
  (case kl2_100=>k_is)
  (case kcd2_100=>k_is)
  (case kkp2_100=>k_is)
  (case kba2=>k_is)
  (case kbb2=>k_is)
  (case kbc2=>k_is)
  (case kbe2=>k_is)
  (case kbm2=>k_is)
  (case ka3=>k_is)
  (case kpg3=>k_is)
  (case khd3=>k_is)
  (case kpo3=>k_is)
  (case ksa3=>k_is)
  (case kmk3=>k_is)
  (case kkc3=>k_is)
  (case kn3_0=>k_is)
  (case kn3_1=>k_is)
  (case kn3_2=>k_is)
  (case kf3_0=>k_is)
  (case kfn3_0=>k_is)
  (case kl3_0=>k_is)
  (case kcd3_0=>k_is)
  (case kkp3_0=>k_is)
  (case kf3_1=>k_is)
  (case kfn3_1=>k_is)
  (case kl3_1=>k_is)
  (case kcd3_1=>k_is)
  (case kkp3_1=>k_is)
  (case kf3_2=>k_is)
  (case kfn3_2=>k_is)
  (case kl3_2=>k_is)
  (case kcd3_2=>k_is)
  (case kkp3_2=>k_is)
  (case kba3=>k_is)
  (case kbb3=>k_is)
  (case kbc3=>k_is)
  (case kbe3=>k_is)
  (case kbm3=>k_is)
  (case ka4=>k_is)
  (case kpg4=>k_is)
  (case khd4=>k_is)
  (case kpo4=>k_is)
  (case ksa4=>k_is)
  (case kmk4=>k_is)
  (case kkc4=>k_is)
  (case kn4_0=>k_is)
  (case kn4_1=>k_is)
  (case kf4_0=>k_is)
  (case kfn4_0=>k_is)
  (case kl4_0=>k_is)
  (case kcd4_0=>k_is)
  (case kkp4_0=>k_is)
  (case kf4_1=>k_is)
  (case kfn4_1=>k_is)
  (case kl4_1=>k_is)
  (case kcd4_1=>k_is)
  (case kkp4_1=>k_is)
  (case kf4_2=>k_is)
  (case kfn4_2=>k_is)
  (case kl4_2=>k_is)
  (case kcd4_2=>k_is)
  (case kkp4_2=>k_is)
  (case kba4=>k_is)
  (case kbb4=>k_is)
  (case kbc4=>k_is)
  (case kbe4=>k_is)
  (case kbm4=>k_is)
  (case ka5=>k_is)
  (case kpg5=>k_is)
  (case khd5=>k_is)
  (case kpo5=>k_is)
  (case ksa5=>k_is)
  (case kmk5=>k_is)
  (case kkc5=>k_is)
  (case kn5_0=>k_is)
  (case kn5_1=>k_is)
  (case kn5_2=>k_is)
  (case kn5_3=>k_is)
  (case kf5_0=>k_is)
  (case kfn5_0=>k_is)
  (case kl5_0=>k_is)
  (case kcd5_0=>k_is)
  (case kkp5_0=>k_is)
  (case kf5_1=>k_is)
  (case kfn5_1=>k_is)
  (case kl5_1=>k_is)
  (case kcd5_1=>k_is)
  (case kkp5_1=>k_is)
  (case kf5_2=>k_is)
  (case kfn5_2=>k_is)
  (case kl5_2=>k_is)
  (case kcd5_2=>k_is)
  (case kkp5_2=>k_is)
  (case kf5_3=>k_is)
  (case kfn5_3=>k_is)
  (case kl5_3=>k_is)
  (case kcd5_3=>k_is)
  (case kkp5_3=>k_is)
  (case kba5=>k_is)
  (case kbb5=>k_is)
  (case kbc5=>k_is)
  (case kbe5=>k_is)
  (case kbm5=>k_is)
  (case ka6=>k_is)
  (case kpg6=>k_is)
  (case khd6=>k_is)
  (case kpo6=>k_is)
  (case ksa6=>k_is)
  (case kmk6=>k_is)
  (case kkc6=>k_is)
  (case kn6_0=>k_is)
  (case kn6_1=>k_is)
  (case kf6_0=>k_is)
  (case kfn6_0=>k_is)
  (case kl6_0=>k_is)
  (case kcd6_0=>k_is)
  (case kkp6_0=>k_is)
  (case kf6_1=>k_is)
  (case kfn6_1=>k_is)
  (case kl6_1=>k_is)
  (case kcd6_1=>k_is)
  (case kkp6_1=>k_is)
  (case kf6_2=>k_is)
  (case kfn6_2=>k_is)
  (case kl6_2=>k_is)
  (case kcd6_2=>k_is)
  (case kkp6_2=>k_is)
  (case kba6=>k_is)
  (case kbb6=>k_is)
  (case kbc6=>k_is)
  (case kbe6=>k_is)
  (case kbm6=>k_is)
  (case z1=>k_is)
  (case z2=>k_is)
  (case z3=>k_is)
  (case z4=>k_is)
  (case z5=>k_is)
  (case z6=>k_is)
  (case z7=>k_is)
  (case z8=>k_is)
  (case z9=>k_is)
  (case z10=>k_is)
  (case z11=>k_is)
  (case z12=>k_is)
