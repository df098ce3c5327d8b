import PyProof.Rows.All
import Wide.All
import OpenK.AllK
import Wide.FinOn
import KE.KEqDict
import KE.KPairComp
import KE.KDictList
import KE.KRevSl
import PyProof.Rows.SetFrom
import KE.KRevIter
import KE.KDictOf
import KE.KSortAsk
import KE.KSortTup
import PyProof.Rows.SortRev
import KE.KDictSum
import PySem.Challenge.RW_hydrahouse_k65_each_step_falls
set_option bootstrap.genMatcherCode false
-- CHANGE: your row's module here, as the last of these rows
set_option Elab.async false
set_option linter.all false
set_option maxRecDepth 100000
open PySem.W (callWith_K clsIn codeIn emptyDict excIn findIn fnOf hasDictIn hideAll hideAll_get hideAll_none instIn instObj isFn keepIn kia_one lookIn makesIn mg_none_of mg_of mroIn nsIn of_hideAll plainGet plainOver typeIn)
variable {K:PySem.W.Frag} {E:PySem.Value->PySem.Shared->Prop} {s:PySem.Shared} {A:PySem.Around} {w:PySem.World} {P:PySem.Program} {prog:PySem.Program} {π:List (PySem.Addr×PySem.Obj)} {mg:PySem.Str->Option PySem.Value} {pos:PySem.Pos} {us:List PySem.Value} {Q:PySem.Value->PySem.Shared->Prop} {x:PySem.Str} {e:PySem.Expr} {a:PySem.Addr} {k:Nat} {fd:PySem.FuncData} {base:PySem.Heap} {es:List PySem.Expr} {ps:List PySem.Str} {u:PySem.Value} {i:Nat} {st:PySem.Stmt} {bm:List PySem.Value} {scope:PySem.Scope} {body:List PySem.Stmt} {items:Array PySem.Value}
open List (all_eq_true any_cons append_assoc append_nil filterMap_cons filter_cons flatten_cons foldl_cons getElem_mem length_append length_cons length_drop length_map length_nil length_reverse length_take lookup_cons map_append map_cons map_map map_nil map_reverse mem_append mem_append_left mem_append_right mem_cons mem_cons_of_mem mem_cons_self mem_filter mem_map mem_of_mem_take mem_singleton nil_append nodup_cons pairwise_cons replicate_succ set_set size_toArray sum_append sum_cons zip_cons_cons)
abbrev wax:=@PySem.wpAny_bind
abbrev way:=@PySem.wpAny_pure
open Nat (le_max_left le_max_right le_refl le_succ le_trans lt_irrefl lt_of_lt_of_le lt_or_ge max_le ne_of_lt not_lt zero_le)
namespace L2
open PySem PySem.Spec PyProof.Rows
noncomputable abbrev aR:=Sum Int Str
noncomputable def jd:aR->Value->Bool
 | .inl k,v=>Value.isInt k v
 | .inr x,v=>Value.isStrOf x v
noncomputable def Dj (w:World):aR->Int
 | .inl k=>hashInt k
 | .inr x=>hashStr w x
theorem bE:∀{k:aR} {v:Value},jd k v=true->(∃i t,k=Sum.inl i/\v=Value.int i t)∨(∃x t,k=Sum.inr x/\v=Value.str x t)
 | .inl i,v,h=>by
   obtain⟨t,e⟩:=Value.isInt_shape (k:=i) (v:=v) h;exact .inl ⟨i,t,rfl,e⟩
 | .inr x,v,h=>by
   obtain⟨t,e⟩:=Value.isStrOf_shape (x:=x) (v:=v) h;exact .inr ⟨x,t,rfl,e⟩
theorem qy (i:Int) (t:Tok):jd (.inl i) (.int i t)=true:=by simp[jd,Value.isInt]
theorem qz (x:Str) (t:Tok):jd (.inr x) (.str x t)=true:=by simp[jd,Value.isStrOf]
theorem yk (a b:Int):decide ((Sum.inl a:aR)=Sum.inl b)=(a==b):=by
 by_cases e:a=b
 ·subst e;simp
 ·have h:¬(Sum.inl a:aR)=Sum.inl b:=λq=>e (Sum.inl.inj q);rw[decide_eq_false h];exact(beq_eq_false_iff_ne.mpr e).symm
theorem ym (a b:Str):decide ((Sum.inr a:aR)=Sum.inr b)=decide (a=b):=by
 by_cases e:a=b
 ·subst e;simp
 ·have h:¬(Sum.inr a:aR)=Sum.inr b:=λq=>e (Sum.inr.inj q);rw[decide_eq_false h,decide_eq_false e]
theorem yn (a:Int) (b:Str):decide ((Sum.inl a:aR)=Sum.inr b)=false:=decide_eq_false (λq=>nomatch q)
theorem yo (a:Str) (b:Int):decide ((Sum.inr a:aR)=Sum.inl b)=false:=decide_eq_false (λq=>nomatch q)
noncomputable def aZ (prog:Program) (w:World):PySem.KeyKind prog w aR where
 is:=jd
 hash:=Dj w
 inj:=λv a b ha hb=>by
  rcases bE ha with⟨i,t,rfl,rfl⟩ | ⟨x,t,rfl,rfl⟩
  ·rcases bE hb with⟨j,u,rfl,e⟩ | ⟨y,u,rfl,e⟩
   ·injection e with e1 _;rw[e1]
   ·exact nomatch e
  ·rcases bE hb with⟨j,u,rfl,e⟩ | ⟨y,u,rfl,e⟩
   ·exact nomatch e
   ·injection e with e1 _;rw[e1]
 byValue:=λk v h=>by
  rcases bE h with⟨i,t,rfl,rfl⟩ | ⟨x,t,rfl,rfl⟩<;> rfl
 pyHash:=λhv h=>by
  rcases bE hv with⟨i,t,rfl,rfl⟩ | ⟨x,t,rfl,rfl⟩
  ·exact wpAny_pyHash_int h
  ·exact wpAny_pyHash_str h
 eqBool:=λhu hv h=>by
  rcases bE hu with⟨i,t,rfl,rfl⟩ | ⟨x,t,rfl,rfl⟩
  ·rcases bE hv with⟨j,u,rfl,rfl⟩ | ⟨y,u,rfl,rfl⟩
   ·rw[yk] at h;exact wpAny_eqBool_int h
   ·rw[yn] at h;exact SeqAt.EqAt.int_str i t y u _ _ _ _ h
  ·rcases bE hv with⟨j,u,rfl,rfl⟩ | ⟨y,u,rfl,rfl⟩
   ·rw[yo] at h;exact SeqAt.EqAt.str_int x t j u _ _ _ _ h
   ·rw[ym] at h;exact wpAny_eqBool_str h
 «strs»:=λk x t v h=>by
  rcases bE h with⟨i,u,rfl,e⟩ | ⟨y,u,rfl,e⟩
  ·exact nomatch e
  ·injection e with e1 _
   subst e1;cases v<;> rfl
theorem dJ (prog:Program) (w:World) (i:Int) (t:Tok):(aZ prog w).is (.inl i) (.int i t)=true:=qy i t
theorem mw (prog:Program) (w:World) (x:Str) (t:Tok):(aZ prog w).is (.inr x) (.str x t)=true:=qz x t
inductive V where
 | non | bl (b:Bool) | int (i:Int) | str (x:Str) | byt (b:Array UInt8) | flt (b:UInt64) | ref (a:Addr) | ty (n:String)
 deriving DecidableEq
noncomputable def bf:V->Value->Prop
 | .non,u=>u=Value.none
 | .bl b,u=>u=Value.bool b
 | .int i,u=>∃t,u=Value.int i t
 | .str x,u=>∃t,u=Value.str x t
 | .byt b,u=>∃t,u=Value.bytes b t
 | .flt b,u=>∃t,u=Value.float b t
 | .ref a,u=>u=Value.ref a
 | .ty n,u=>u=Value.type n
noncomputable abbrev aX:List V->List Value->Prop:=Paired bf
theorem aX.length {xs:List V} (r:aX xs us):xs.length=us.length:=Paired.length r
theorem aX.get:∀{xs:List V} {us:List Value} {i:Nat} {x:V},aX xs us->xs[i]?=some x->∃u,us[i]?=some u/\bf x u
 | _,_,_,_,.nil,e=>by simp at e
 | _,_,0,_,.cons r _,e=>by simp at e;subst e;exact⟨_,rfl,r⟩
 | _,_,i+1,x,.cons _ t,e=>by
   obtain⟨u,h1,h2⟩:=aX.get (i:=i) (x:=x) t (by simpa using e);exact⟨u,by simpa using h1,h2⟩
theorem aX.append:∀{xs ys:List V} {us ws:List Value},aX xs us->aX ys ws->aX (xs++ys) (us++ws)
 | _,_,_,_,.nil,s=>s
 | _,_,_,_,.cons r t,s=> .cons r (aX.append t s)
theorem aX.take:∀{xs:List V} {us:List Value} (n:Nat),aX xs us->aX (xs.take n) (us.take n)
 | _,_,0,_=> .nil
 | _,_,_+1,.nil=> .nil
 | _,_,n+1,.cons r t=> .cons r (aX.take n t)
theorem aX.drop:∀{xs:List V} {us:List Value} (n:Nat),aX xs us->aX (xs.drop n) (us.drop n)
 | _,_,0,r=>r
 | _,_,_+1,.nil=> .nil
 | _,_,n+1,.cons _ t=>aX.drop n t
noncomputable def fT:Option V->Option Value->Prop
 | some v,some u=>bf v u
 | none,none=>True
 | _,_=>False
noncomputable def KV {κ:Type}:List (κ×V)->List (κ×Value)->Prop:=Paired λ(p:κ×V) (q:κ×Value)=>p.1=q.1/\bf p.2 q.2
noncomputable def kV:aR->V
 | .inl i=> .int i
 | .inr x=> .str x
inductive HO where
 | lst (xs:List V)
 | tup (xs:List V)
 | dK (kvs:List (aR×V)) | dT (kvs:List (List aR×V))
 | set (S:Int->Bool) (n:Nat)
 | ins (C dx:Addr) (fs:List (Str×V))
 | own (x:Addr)
 | xd (fs:List (Str×V))
 | met (f x:Addr)
 | rng (lo hi:Int)
 | frz (o:Obj) (u:HO)
 | tbl (ps:Array Value)
 | ext (φ:Heap->Prop)
noncomputable abbrev Hp:=Addr->Option HO
noncomputable def upd (H:Hp) (a:Addr) (o:HO):Hp:=λb=>if b=a then some o else H b
theorem bg {H:Hp} {o:HO}:upd H a o a=some o:=by unfold upd;rw[if_pos rfl]
theorem aD {H:Hp} {a b:Addr} {o:HO} (h:b≠a):upd H a o b=H b:=by unfold upd;rw[if_neg h]
theorem fO {H:Hp} {a b:Addr} {o u:HO} (h:H a=some o) (h':H b=some u) (d:o≠u):a≠b:=by
 intro e;subst e;rw[h] at h';exact d (Option.some.inj h')
theorem bh {H:Hp} {a b:Addr} {o:HO} (h:H a=some o) (h':H b=none):a≠b:=by
 intro e;subst e;rw[h] at h';cases h'
section
variable (P:Program) (w:World)
noncomputable def bB (H:Hp) (h:Heap) (a:Addr):HO->Prop
 | .lst xs=>xs.length<=sizeLine/\∃(its:List Value) (n:Nat),aX xs its/\h.get? a=some { cls:= .type "list",data:= .seq its.toArray n }
 | .tup xs=>xs.length<=sizeLine/\∃its:List Value,aX xs its/\IsTup h a its.toArray
 | .dK kvs=>kvs.length<=sizeLine/\(a==sysModules)=false/\∃vs,KV kvs vs/\h.DictOf (aZ P w) a vs
 | .dT kvs=>kvs.length<=sizeLine/\(a==sysModules)=false/\∃xs:List (List aR×Addr×Value),
    Paired (λ(p:List aR×V) (q:List aR×Addr×Value)=>p.1=q.1/\H q.2.1=some (.tup (p.1.map kV))/\bf p.2 q.2.2) kvs xs/\
    ∃o es ep,h.get? a=some o/\o.ExactDict/\o.data=.dict es ep/\es.toList=xs.map (entryOfKey (tupleKind (aZ P w)))/\(xs.map (·.1)).Nodup
 | .set S n=>h.SetOf (intKind P w) a S n
 | .ins C dx fs=>H dx=some (.own a)/\fs.length<=1000/\dx≠a/\h.get? a=some (instObj C dx)/\
    ∃mA,h.Ns1 dx mA/\(∀f,fT (fs.lookup f) (mA f))/\PySem.Within mA (fs.map (·.1))
 | .own _=>∃o,h.get? a=some o
 | .xd fs=>∃mA,h.Ns1 a mA/\∀f,fT (fs.lookup f) (mA f)
 | .rng lo hi=>∃t u v,h.get? a=some { cls:= .type "range",data:= .fields #[.int lo t,.int hi u,.int 1 v] }
 | .frz o u=>h.get? a=some o/\bB H h a u
 | .tbl ps=>h.get? a=some { cls:= .none,data:= .fields ps }
 | .met f x=>h.get? a=some (PySem.W.methodObj (.ref f) (.ref x))
 | .ext φ=>φ h/\(∃o,h.get? a=some o)/\∀h1 h2:Heap,φ h1->(∀o,h1.get? a=some o->h2.get? a=some o)->φ h2
noncomputable def fJ (H:Hp) (h:Heap):Prop:=∀a o,H a=some o->bB P w H h a o
end
section
variable {P:Program} {w:World} {H H':Hp} {h h':Heap} {a:Addr} {o:HO}
theorem bB.lt (x:bB P w H h a o):a<h.objs.size:=by
 cases o with
 | lst xs=>obtain⟨_,_,_,_,e⟩:=x;exact Heap.lt_size e
 | tup xs=>obtain⟨_,_,_,p⟩:=x;exact p.lt
 | dK kvs=>obtain⟨_,_,_,_,o,_,_,e,_⟩:=x;exact Heap.lt_size e
 | dT kvs=>obtain⟨_,_,_,_,o,_,_,e,_⟩:=x;exact Heap.lt_size e
 | set S n=>obtain⟨o,_,_,_,e,_⟩:=x;exact Heap.lt_size e
 | ins C dx fs=>obtain⟨_,_,_,e,_⟩:=x;exact Heap.lt_size e
 | own y=>obtain⟨_,e⟩:=x;exact Heap.lt_size e
 | xd fs=>obtain⟨_,⟨_,_,_,e,_⟩,_⟩:=x;exact Heap.lt_size e
 | rng lo hi=>obtain⟨_,_,_,e⟩:=x;exact Heap.lt_size e
 | frz ob u=>obtain⟨e,_⟩:=x;exact Heap.lt_size e
 | tbl ps=>exact Heap.lt_size (show h.get? a=some _ from x)
 | met f y=>exact Heap.lt_size (show h.get? a=some _ from x)
 | ext φ=>obtain⟨_,⟨_,e⟩,_⟩:=x;exact Heap.lt_size e
theorem Paired.mapP {α β:Type} {F G:α->β->Prop}:∀{l₁:List α} {l₂:List β},Paired F l₁ l₂->(∀a b,F a b->G a b)->Paired G l₁ l₂
 | _,_,.nil,_=> .nil
 | _,_,.cons r t,f=> .cons (f _ _ r) (Paired.mapP t f)
theorem bB.stay (x:bB P w H h a o) (k:∀b u,(b=a∨H b=some (.own a))->h.get? b=some u->h'.get? b=some u)
 (ho:∀b,H b=some (.own a)->H' b=some (.own a)) (ht:∀b xs,H b=some (.tup xs)->H' b=some (.tup xs)):bB P w H' h' a o:=by
 induction o with
 | lst xs=>obtain⟨z,its,n,r,e⟩:=x;exact⟨z,its,n,r,k _ _ (.inl rfl) e⟩
 | tup xs=>obtain⟨z,its,r,ob,e,c⟩:=x;exact⟨z,its,r,ob,k _ _ (.inl rfl) e,c⟩
 | dK kvs=>obtain⟨z,y,vs,r,ob,es,ep,e,c⟩:=x;exact⟨z,y,vs,r,ob,es,ep,k _ _ (.inl rfl) e,c⟩
 | dT kvs=>
   obtain⟨z,y,xs,r,ob,es,ep,e,c⟩:=x;exact⟨z,y,xs,Paired.mapP r λp q z=>⟨z.1,ht _ _ z.2.1,z.2.2⟩,ob,es,ep,k _ _ (.inl rfl) e,c⟩
 | set S n=>obtain⟨ob,es,ep,t,e,c⟩:=x;exact⟨ob,es,ep,t,k _ _ (.inl rfl) e,c⟩
 | ins C dx fs=>
   obtain⟨d,z,ne,e,mA,⟨od,es,ep,e2,c⟩,r⟩:=x;exact⟨ho _ d,z,ne,k _ _ (.inl rfl) e,mA,⟨od,es,ep,k _ _ (.inr d) e2,c⟩,r⟩
 | own y=>obtain⟨ob,e⟩:=x;exact⟨ob,k _ _ (.inl rfl) e⟩
 | xd fs=>obtain⟨mA,⟨od,es,ep,e,c⟩,r⟩:=x;exact⟨mA,⟨od,es,ep,k _ _ (.inl rfl) e,c⟩,r⟩
 | rng lo hi=>obtain⟨t,u,v,e⟩:=x;exact⟨t,u,v,k _ _ (.inl rfl) e⟩
 | frz ob u ih=>obtain⟨e,q⟩:=x;exact⟨k _ _ (.inl rfl) e,ih q⟩
 | tbl ps=>
   have e:h.get? a=some { cls:= .none,data:= .fields ps }:=x;show h'.get? a=some { cls:= .none,data:= .fields ps };exact k a _ (.inl rfl) e
 | met f y=>
   have e:h.get? a=some (PySem.W.methodObj (.ref f) (.ref y)):=x;show h'.get? a=some (PySem.W.methodObj (.ref f) (.ref y));exact k a _ (.inl rfl) e
 | ext φ=>obtain⟨p,⟨o,e⟩,st⟩:=x;exact⟨st _ _ p λo q=>k _ _ (.inl rfl) q,⟨o,k _ _ (.inl rfl) e⟩,st⟩
theorem fJ.lt (x:fJ P w H h) (e:H a=some o):a<h.objs.size:=(x a o e).lt
theorem fJ.fresh (x:fJ P w H h) (e:h.objs.size<=a):H a=none:=by
 cases q:H a with
 | none=>rfl
 | some u=>exact absurd (lt_of_lt_of_le (x.lt q) e) (lt_irrefl _)
theorem fJ.kept (x:fJ P w H h) (k:∀b u,h.get? b=some u->h'.get? b=some u):fJ P w H h':=λa o e=>
 (x a o e).stay (λb u _ q=>k b u q) (λ_ q=>q) λ_ _ q=>q
theorem fJ.laid (x:fJ P w H h) (k:∀b u,h.get? b=some u->h'.get? b=some u) (hp:h.objs.size<=a) (new:bB P w (upd H a o) h' a o):fJ P w (upd H a o) h':=λb u e=>by
 have hn:=x.fresh hp
 by_cases hb:b=a
 ·subst hb;rw[bg] at e;cases e;exact new
 ·rw[aD hb] at e;exact(x b u e).stay (λc v _ q=>k c v q) (λc q=>by rw[aD (bh q hn)];exact q) λc xs q=>by rw[aD (bh q hn)];exact q
end
noncomputable def Rd (H:Hp) (a:Addr) (u:HO):Prop:=H a=some u∨∃o,H a=some (.frz o u)
theorem Rd.ok {H:Hp} {h:Heap} {u:HO} (r:Rd H a u) (x:fJ P w H h):bB P w H h a u:=by
 rcases r with r | ⟨o,r⟩
 ·exact x a u r
 ·obtain⟨_,q⟩:=x a _ r;exact q
noncomputable def AN:Option HO->Prop
 | some (.lst _)=>True
 | some (.dK _)=>True
 | some (.dT _)=>True
 | some (.set _ _)=>True
 | some (.ins _ _ _)=>True
 | some (.ext _)=>True
 | _=>False
section
variable {P:Program} {w:World} {H:Hp} {h h':Heap} {x e:Addr} {o':HO}
theorem fJ.write (ok:fJ P w H h) (mu:AN (H x)) (he:e=x∨H e=some (.own x)) (k:∀b u,b≠e->h.get? b=some u->h'.get? b=some u) (heo:∃u,h'.get? e=some u)
 (new:bB P w (upd H x o') h' x o'):fJ P w (upd H x o') h':=λb u q=>by
 have nown:∀c y,H c=some (.own y)->c≠x:=λc y r z=>by subst z;rw[r] at mu;exact mu
 have ntup:∀c xs,H c=some (.tup xs)->c≠x:=λc xs r z=>by subst z;rw[r] at mu;exact mu
 by_cases hb:b=x
 ·subst hb;rw[bg] at q;cases q;exact new
 ·rw[aD hb] at q
  by_cases hbe:b=e
  ·have q':H b=some (.own x):=by
    rcases he with z | z
    ·exact absurd (hbe.trans z) hb
    ·rw[hbe];exact z
   rw[q] at q';cases q';obtain⟨v,hv⟩:=heo;exact⟨v,by rw[hbe];exact hv⟩
  ·refine(ok b u q).stay (λc v hc r=>k c v ?_ r) (λc r=>by rw[aD (nown c b r)];exact r) λc xs r=>by rw[aD (ntup c xs r)];exact r
   rcases hc with rfl | hc
   ·exact hbe
   ·rintro rfl;rcases he with z | z
    ·exact nown c b hc z
    ·rw[hc] at z;cases z;exact hb rfl
end
structure Un (fs ex:List Addr) (H H':Hp) (h h':Heap):Prop where
 keep:∀b o,h.get? b=some o->H b=none->b∉fs->b∉ex->h'.get? b=some o
 slot:∀b o,h.get? b=some o->H b=none->b∈fs->b∉ex->∃sl,h'.get? b=some { o with slots:=sl }
 free:∀b o,h.get? b=some o->H b=none->b∉ex->H' b=none
 there:∀b o,h.get? b=some o->b∉ex->∃o',h'.get? b=some o'
 tups:∀b xs,H b=some (.tup xs)->H' b=some (.tup xs)
 frzs:∀b o u,H b=some (.frz o u)->H' b=some (.frz o u)
 tbls:∀b ps,H b=some (.tbl ps)->∃more,H' b=some (.tbl (ps++more))
section
variable {fs fs' ex ex':List Addr} {H H1 H2:Hp} {h h1 h2 h':Heap} {a x e:Addr} {o:HO}
theorem Un.any (u:Un fs ex H H1 h h1) {b:Addr} {ob:Obj} (q:h.get? b=some ob) (n:H b=none) (hx:b∉ex):∃sl,h1.get? b=some { ob with slots:=sl }:=by
 by_cases hb:b∈fs
 ·exact u.slot b ob q n hb hx
 ·exact⟨ob.slots,u.keep b ob q n hb hx⟩
theorem Un.kept (k:∀b u,h.get? b=some u->h'.get? b=some u):Un fs ex H H h h':=
 ⟨λb ob q _ _ _=>k b ob q,λb ob q _ _ _=>⟨ob.slots,k b ob q⟩,λ_ _ _ n _=>n,λb ob q _=>⟨ob,k b ob q⟩,λ_ _ q=>q,λ_ _ _ q=>q,λ_ ps q=>⟨#[],by rw[q];simp⟩⟩
theorem Un.refl:Un fs ex H H h h:=Un.kept λ_ _ q=>q
theorem Un.laid (k:∀b u,h.get? b=some u->h'.get? b=some u) (hp:h.objs.size<=a) (hn:H a=none):Un fs ex H (upd H a o) h h' where
 keep:=λb u q _ _ _=>k b u q
 slot:=λb u q _ _ _=>⟨u.slots,k b u q⟩
 free:=λb u q n _=>by rw[aD (ne_of_lt (lt_of_lt_of_le (Heap.lt_size q) hp))];exact n
 there:=λb u q _=>⟨u,k b u q⟩
 tups:=λb xs q=>by rw[aD (bh q hn)];exact q
 frzs:=λb u xs q=>by rw[aD (bh q hn)];exact q
 tbls:=λb ps q=>⟨#[],by rw[aD (bh q hn),q];simp⟩
theorem Un.write (mu:AN (H x)) (he:e=x∨H e=some (.own x)) (k:∀b u,b≠e->h.get? b=some u->h'.get? b=some u) (heo:∃u,h'.get? e=some u):Un fs ex H (upd H x o) h h':=by
 have hx:∀b,H b=none->b≠x:=λb n z=>by subst z;rw[n] at mu;exact mu
 have hb:∀b,H b=none->b≠e:=λb n z=>by
  subst z;rcases he with r | r
  ·exact hx b n r
  ·rw[n] at r;cases r
 have hm:∀b u,H b=some u->¬AN (some u)->b≠x:=λb u q nm z=>by subst z;rw[q] at mu;exact nm mu
 refine⟨λb u q n _ _=>k b u (hb b n) q,λb u q n _ _=>⟨u.slots,k b u (hb b n) q⟩,λb u q n _=>by rw[aD (hx b n)];exact n,λb u q _=>?_,
  λb xs q=>by rw[aD (hm b _ q λz=>z)];exact q,λb u xs q=>by rw[aD (hm b _ q λz=>z)];exact q,λb ps q=>⟨#[],by rw[aD (hm b _ q λz=>z),q];simp⟩⟩
 by_cases hbe:b=e
 ·subst hbe;exact heo
 ·exact⟨u,k b u hbe q⟩
end
noncomputable def CW (h:Heap) (H:Hp):List Addr:=(List.range h.objs.size).filter λa=>(H a).isSome
noncomputable def lp (h:Heap) (H:Hp):Heap:=hideAll h (CW h H)
theorem qA (h:Heap) (H:Hp):(lp h H).objs.size=h.objs.size:=PySem.W.hideAll_size _ _
theorem rG {h:Heap} {H:Hp} {b:Addr} {o:Obj} (e:h.get? b=some o) (n:H b=none):(lp h H).get? b=some o:=
 hideAll_get _ e λhm=>by
  have q:(H b).isSome=true:=(mem_filter.mp hm).2;rw[n] at q;simp at q
theorem vf {h:Heap} {H:Hp} {b:Addr} {o:Obj} (e:(lp h H).get? b=some o):h.get? b=some o/\H b=none:=by
 have e':h.get? b=some o:=of_hideAll (CW h H) e;refine⟨e',?_⟩;cases q:H b with
 | none=>rfl
 | some x=>
   have hm:b∈CW h H:=mem_filter.mpr ⟨List.mem_range.mpr (Heap.lt_size e'),by simp[q]⟩;have z:(lp h H).get? b=none:=hideAll_none (CW h H) hm;rw[z] at e;cases e
noncomputable def vg (g h:Heap) (L:Addr):List (Addr×Obj):=(List.range h.objs.size).filterMap λa=>if a=L∨(g.get? a).isSome=true then none else (h.get? a).map λo=>(a,o)
noncomputable def bH (g h:Heap) (L d:Addr):List (Addr×Obj):=(vg g h L).filter λp=>decide (p.1≠d)
structure Mod (K:PySem.W.Frag) (mg:Str->Option Value) (base:Heap):Prop where
 kin:K.In base
 glob:base.Ns mainGlobals mg
 blt:∃mb,base.Ns builtinsNs mb/\∀x:Str,x≠"__name__"->mb x=bootBuiltins x
 nolimit:base.NoLimit
structure Cx where
 prog:Program
 w:World
 K:PySem.W.Frag
 mg:Str->Option Value
 base:Heap
 A:Around
 N:List Str
 s₀:Shared
 H₀:Hp
 env:Env
 outer:List Env
 stack:List Env
 ex:List Addr
 fn:Str->Bool
 calm:Bool
 pn:List (Addr×Obj)
 xe:Value->Shared->Prop
noncomputable def eu (l:List Env):List Addr:=l.filterMap (·.frame)
noncomputable abbrev Cx.fs (X:Cx):List Addr:=eu X.outer
noncomputable def AL (sc:Scope) (x:Str):Prop:=sc.names.lookup x=some .local∨sc.names.lookup x=some .cell∨sc.names.lookup x=some .free
noncomputable def u7 (sc:Scope) (x:Str):Prop:=sc.names.lookup x=some .local∨sc.names.lookup x=some .cell
noncomputable def Dk (env:Env) (h:Heap) (m:Str->Option Value) (x:Str) (u:Value):Prop:=
 (env.kindOf x=some .local/\m x=some u)∨((env.kindOf x=some .cell∨env.kindOf x=some .free)/\∃c,env.cells.lookup x=some c/\h.IsCell c (some u))
structure Cx.Ok (X:Cx):Prop where
 mod:Mod X.K X.mg X.base
 kind:X.env.scope.kind=.function
 glob:X.env.globals=mainGlobals
 blt:X.env.builtins=builtinsNs
 above:X.s₀.heap.objs.size<=X.env.locals
 inj:∀x y c,X.env.cells.lookup x=some c->X.env.cells.lookup y=some c->x=y
 has:∀x,(X.env.kindOf x=some .cell∨X.env.kindOf x=some .free)->∃c,X.env.cells.lookup x=some c
 cab:∀x c,X.fn x=true->X.env.cells.lookup x=some c->X.s₀.heap.objs.size<=c
 hd:X.calm=true->X.A.handled=none
 frames:X.A.frames=some X.stack
 stk:X.stack=X.outer∨(X.stack=X.env::X.outer/\X.env.frame=some X.env.locals)
 exf:∀b∈X.ex,b≠X.env.locals/\∀x c,X.env.cells.lookup x=some c->c≠b
 bs:∀b o,X.base.get? b=some o->X.s₀.heap.get? b=some o/\X.H₀ b=none
 bsz:X.base.objs.size<=X.s₀.heap.objs.size
 noex:∀b o,X.base.get? b=some o->b∉X.ex
 exfs:∀b∈X.ex,b∉X.fs
 funs:X.s₀.heap.FunFrames X.base X.outer
 frf:∀b∈X.fs,X.H₀ b=none
structure aC (X:Cx) (π:List (Addr×Obj)) (σ:List (Option V)) (H:Hp) (s:Shared):Prop where
 ok:X.Ok
 os:s.os=X.s₀.os
 bare:AllBare s.gens
 base:Un X.fs X.ex X.H₀ H X.s₀.heap s.heap
 loc:∃m,s.heap.Ns X.env.locals m/\∀(i:Nat) (x:Str) (v:V),X.N[i]?=some x->σ[i]?=some (some v)->AL X.env.scope x->∃u,bf v u/\Dk X.env s.heap m x u
 cell:∀x c,X.env.cells.lookup x=some c->∃v,s.heap.IsCell c v
 free:H X.env.locals=none
 freeC:∀x c,X.env.cells.lookup x=some c->H c=none
 pin:∀p∈X.pn++π,s.heap.get? p.1=some p.2/\H p.1=none/\p.1≠X.env.locals/\p.1∉X.fs/\∀v,p.2.data≠ .cell v
 hok:fJ X.prog X.w H s.heap
 len:σ.length=X.N.length
section
variable {X:Cx} {π:List (Addr×Obj)} {σ:List (Option V)} {H H':Hp} {s:Shared} {h':Heap}
theorem Cx.Ok.nofr (ok:X.Ok) {b:Addr} {o:Obj} (e:X.base.get? b=some o):b∉X.fs:=λhb=>by
 have:=(ok.funs.mem hb).1;rw[e] at this;cases this
theorem aC.bs (I:aC X π σ H s):∀b o,X.base.get? b=some o->s.heap.get? b=some o/\H b=none:=λb o e=>
 ⟨I.base.keep b o (I.ok.bs b o e).1 (I.ok.bs b o e).2 (I.ok.nofr e) (I.ok.noex b o e),I.base.free b o (I.ok.bs b o e).1 (I.ok.bs b o e).2 (I.ok.noex b o e)⟩
theorem aC.bk (I:aC X π σ H s):∀b o,X.base.get? b=some o->s.heap.get? b=some o:=λb o e=>(I.bs b o e).1
theorem aC.mod (I:aC X π σ H s):Mod X.K X.mg X.base:=I.ok.mod
theorem aC.kIn (I:aC X π σ H s):X.K.In s.heap:=I.ok.mod.kin.keeps I.bk
theorem aC.lt (I:aC X π σ H s):X.env.locals<s.heap.objs.size:=let ⟨_,hn,_⟩:=I.loc;hn.lt
theorem aC.sz (I:aC X π σ H s):X.s₀.heap.objs.size<=s.heap.objs.size:=le_trans I.ok.above (Nat.le_of_lt I.lt)
theorem aC.nofs (I:aC X π σ H s) (h:s.heap.objs.size<=a):a∉X.fs:=λhb=>by
 obtain⟨_,o,ho,_⟩:=I.ok.funs.mem hb;exact absurd (lt_of_lt_of_le (Heap.lt_size ho) (le_trans I.sz h)) (lt_irrefl _)
theorem aC.cne (I:aC X π σ H s):∀x c,X.env.cells.lookup x=some c->c≠X.env.locals:=λx c e z=>by
 obtain⟨v,o,ho,hd⟩:=I.cell x c e;obtain⟨m,⟨o',es,ep,ho',hd',_⟩,_⟩:=I.loc;rw[z,ho'] at ho;cases ho;rw[hd'] at hd;cases hd
theorem aC.funs (I:aC X π σ H s):s.heap.FunFrames X.base X.outer:=by
 have all:∀(l:List Env),(∀b∈eu l,b∈X.fs)->X.s₀.heap.FunFrames X.base l->s.heap.FunFrames X.base l:=by
  intro l
  induction l with
  | nil=>intro _ _;trivial
  | cons env r ih=>
    intro hs hl;obtain⟨hk,⟨L,o,hf,hn,ho,hd⟩,hr⟩:=hl;have hL:L∈X.fs:=hs L (by unfold eu;rw[filterMap_cons,hf];exact mem_cons_self);obtain⟨sl,e⟩:=I.base.slot L o ho (I.ok.frf L hL) hL λz=>I.ok.exfs L z hL;exact⟨hk,⟨L,_,hf,hn,e,hd⟩,ih (λb hb=>hs b (by unfold eu;rw[filterMap_cons,hf];exact mem_cons_of_mem _ hb)) hr⟩
 exact all X.outer (λ_ hb=>hb) I.ok.funs
theorem aC.stack (I:aC X π σ H s):s.heap.FunFrames X.base X.stack:=by
 rcases I.ok.stk with e | ⟨e,hf⟩
 ·rw[e];exact I.funs
 ·rw[e];obtain⟨m,hn,_⟩:=I.loc;refine .cons (by rw[I.ok.kind];decide) hf hn ?_ I.funs;exact Heap.get?_none_of_le (le_trans I.ok.bsz I.ok.above)
theorem aC.stkSub (I:aC X π σ H s):∀b∈eu X.stack,b∈X.env.locals::X.fs:=λb hb=>by
 rcases I.ok.stk with e | ⟨e,hf⟩
 ·rw[e] at hb;exact mem_cons_of_mem _ hb
 ·rw[e] at hb;unfold eu at hb;rw[filterMap_cons,hf] at hb;exact hb
theorem aC.stkFree (I:aC X π σ H s):∀b∈eu X.stack,H b=none:=λb hb=>by
 rcases mem_cons.mp (I.stkSub b hb) with e | hb
 ·rw[e];exact I.free
 ·obtain⟨_,o,ho,_⟩:=I.ok.funs.mem hb;exact I.base.free b o ho (I.ok.frf b hb) λz=>I.ok.exfs b z hb
theorem aC.step {g':Array GenState} {t':Nat} {d':Drawn} {ch:List Addr} (I:aC X π σ H s)
 (hch:∀b∈ch,(b∈X.ex∨X.s₀.heap.objs.size<=b)/\b≠X.env.locals/\(∀x c,X.env.cells.lookup x=some c->c≠b)/\∀p∈X.pn++π,p.1≠b)
 (keep:∀b o,b≠X.env.locals->b∉X.fs->b∉ch->s.heap.get? b=some o->H b=none->h'.get? b=some o)
 (slot:∀b o,b≠X.env.locals->b∈X.fs->b∉ch->s.heap.get? b=some o->H b=none->∃sl,h'.get? b=some { o with slots:=sl }) (free:∀b o,b∉ch->s.heap.get? b=some o->H b=none->H' b=none)
 (there:∀b o,b∉ch->s.heap.get? b=some o->∃o',h'.get? b=some o')
 (tups:∀b xs,H b=some (.tup xs)->H' b=some (.tup xs)) (frzs:∀b o u,H b=some (.frz o u)->H' b=some (.frz o u)) (tbls:∀b ps,H b=some (.tbl ps)->∃more,H' b=some (.tbl (ps++more)))
 (ns:∀m,s.heap.Ns X.env.locals m->h'.Ns X.env.locals m) (hok:fJ X.prog X.w H' h') (hg:AllBare g'):
 aC X π σ H' { s with heap:=h',gens:=g',drawn:=d',toks:=t' }:=by
 have neL:∀b o,X.s₀.heap.get? b=some o->b≠X.env.locals:=λb o e=>ne_of_lt (lt_of_lt_of_le (Heap.lt_size e) I.ok.above);have neC:∀b o,X.s₀.heap.get? b=some o->b∉X.ex->b∉ch:=λb o e hx hb=>by
  rcases(hch b hb).1 with z | z
  ·exact hx z
  ·exact absurd (lt_of_lt_of_le (Heap.lt_size e) z) (lt_irrefl _)
 have cellK:∀x c,X.env.cells.lookup x=some c->∀v,s.heap.IsCell c v->h'.IsCell c v:=λx c e v ⟨o,ho,hd⟩=>by
  have nch:c∉ch:=λz=>(hch c z).2.2.1 x c e rfl
  by_cases hc:c∈X.fs
  ·obtain⟨sl,q⟩:=slot c o (I.cne x c e) hc nch ho (I.freeC x c e);exact⟨_,q,hd⟩
  ·exact⟨o,keep c o (I.cne x c e) hc nch ho (I.freeC x c e),hd⟩
 refine⟨I.ok,I.os,hg,⟨λb o e n hb hx=>?_,λb o e n hb hx=>?_,λb o e n hx=>?_,λb o e hx=>?_,λb xs e=>tups b xs (I.base.tups b xs e),λb o xs e=>frzs b o xs (I.base.frzs b o xs e),λb ps e=>?_⟩,?_,λx c e=>?_,?_,λx c e=>?_,λp hp=>?_,hok,I.len⟩
 ·exact keep b o (neL b o e) hb (neC b o e hx) (I.base.keep b o e n hb hx) (I.base.free b o e n hx)
 ·obtain⟨sl,e1⟩:=I.base.slot b o e n hb hx;obtain⟨sl',e2⟩:=slot b _ (neL b o e) hb (neC b o e hx) e1 (I.base.free b o e n hx);exact⟨sl',e2⟩
 ·obtain⟨o',e1⟩:=I.base.there b o e hx;exact free b o' (neC b o e hx) e1 (I.base.free b o e n hx)
 ·obtain⟨o',e1⟩:=I.base.there b o e hx;exact there b o' (neC b o e hx) e1
 ·obtain⟨m1,e1⟩:=I.base.tbls b ps e;obtain⟨m2,e2⟩:=tbls b _ e1;exact⟨m1++m2,by rw[e2,Array.append_assoc]⟩
 ·obtain⟨m,hn,hl⟩:=I.loc;refine⟨m,ns m hn,λi x v e1 e2 e3=>?_⟩;obtain⟨u,r,l⟩:=hl i x v e1 e2 e3;refine⟨u,r,?_⟩;rcases l with l | ⟨k,c,e,z⟩
  ·exact .inl l
  ·exact .inr ⟨k,c,e,cellK x c e _ z⟩
 ·obtain⟨v,z⟩:=I.cell x c e;exact⟨v,cellK x c e v z⟩
 ·obtain⟨m,⟨o,_,_,ho,_⟩,_⟩:=I.loc;exact free _ o (λz=>(hch _ z).2.1 rfl) ho I.free
 ·obtain⟨v,o,ho,hd⟩:=I.cell x c e;exact free c o (λz=>(hch c z).2.2.1 x c e rfl) ho (I.freeC x c e)
 ·obtain⟨e,n,ne,nf,d⟩:=I.pin p hp;have nch:p.1∉ch:=λz=>(hch p.1 z).2.2.2 p hp rfl;exact⟨keep p.1 p.2 ne nf nch e n,free p.1 p.2 nch e n,ne,nf,d⟩
theorem aC.un {t':Nat} (I:aC X π σ H s) (u:Un X.fs [] H H' s.heap h') (hok:fJ X.prog X.w H' h'):aC X π σ H' { s with heap:=h',toks:=t' }:=by
 obtain⟨m,⟨o,es,ep,ho,r⟩,_⟩:=id I.loc;obtain⟨sl,hL⟩:=u.any ho I.free (by simp);exact I.step (g':=s.gens) (d':=s.drawn) (ch:=[]) (λ_ z=>nomatch z) (λb o _ hb _ e n=>u.keep b o e n hb (by simp)) (λb o _ hb _ e n=>u.slot b o e n hb (by simp)) (λb o _ e n=>u.free b o e n (by simp)) (λb o _ e=>u.there b o e (by simp)) u.tups u.frzs u.tbls (λm' hm=>by
  obtain⟨o',es',ep',ho',r'⟩:=hm;rw[ho] at ho';cases ho';exact⟨_,es',ep',hL,r'⟩) hok I.bare
theorem aC.call {g':Array GenState} {t':Nat} {d':Drawn} {ch:List Addr} (I:aC X π σ H s) (u:Un (eu X.stack) ch H H' s.heap h') (hok:fJ X.prog X.w H' h') (hg:AllBare g')
 (hch:∀b∈ch,(b∈X.ex∨X.s₀.heap.objs.size<=b)/\b≠X.env.locals/\(∀x c,X.env.cells.lookup x=some c->c≠b)/\∀p∈X.pn++π,p.1≠b):
 aC X π σ H' { s with heap:=h',gens:=g',drawn:=d',toks:=t' }:=by
 obtain⟨m,⟨o,es,ep,ho,r⟩,_⟩:=id I.loc;obtain⟨sl,hL⟩:=u.any ho I.free λz=>(hch _ z).2.1 rfl;exact I.step (ch:=ch) hch (λb o hL hb hc e n=>u.keep b o e n (λz=>(mem_cons.mp (I.stkSub b z)).elim hL hb) hc) (λb o _ _ hc e n=>u.any e n hc) (λb o hc e n=>u.free b o e n hc) (λb o hc e=>u.there b o e hc) u.tups u.frzs u.tbls (λm' hm=>by
  obtain⟨o',es',ep',ho',r'⟩:=hm;rw[ho] at ho';cases ho';exact⟨_,es',ep',hL,r'⟩) hok hg
theorem aC.turned {t':Nat} {it:Addr} (I:aC X π σ H s) (k:∀b o,b≠it->s.heap.get? b=some o->h'.get? b=some o) (hn:H it=none) (hL:it≠X.env.locals)
 (h1:it∈X.ex∨X.s₀.heap.objs.size<=it) (h2:∀x c,X.env.cells.lookup x=some c->c≠it) (h3:∀p∈X.pn++π,p.1≠it):aC X π σ H { s with heap:=h',toks:=t' }:=by
 have nit:∀b u,H b=some u->b≠it:=λb u e z=>by rw[z,hn] at e;cases e
 refine I.step (g':=s.gens) (d':=s.drawn) (ch:=[it]) (λb hb=>?_) (λb o _ _ hc e _=>k b o (λz=>hc (by simp[z])) e) (λb o _ _ hc e _=>⟨o.slots,k b o (λz=>hc (by simp[z])) e⟩) (λ_ _ _ _ n=>n)
  (λb o hc e=>⟨o,k b o (λz=>hc (by simp[z])) e⟩) (λ_ _ e=>e) (λ_ _ _ e=>e) (λb ps e=>⟨#[],by rw[e];simp⟩) (λm hm=>?_) (λb u e=>?_) I.bare
 ·have e:b=it:=by simpa using hb
  subst e;exact⟨h1,hL,h2,h3⟩
 ·obtain⟨o,es,ep,ho,r⟩:=hm;exact⟨o,es,ep,k _ o (Ne.symm hL) ho,r⟩
 ·refine(I.hok b u e).stay (λc v hc q=>k c v ?_ q) (λ_ q=>q) λ_ _ q=>q;rcases hc with z | z
  ·rw[z];exact nit b u e
  ·exact nit c _ z
theorem aC.tok (I:aC X π σ H s) (t:Nat):aC X π σ H { s with toks:=t }:=I.un (h':=s.heap) (t':=t) Un.refl I.hok
theorem aC.kept {t':Nat} (I:aC X π σ H s) (k:∀b u,s.heap.get? b=some u->h'.get? b=some u):aC X π σ H { s with heap:=h',toks:=t' }:=I.un (Un.kept k) (I.hok.kept k)
theorem aC.laid {o:HO} {t':Nat} (I:aC X π σ H s) (k:∀b u,s.heap.get? b=some u->h'.get? b=some u) (hp:s.heap.objs.size<=a) (new:bB X.prog X.w (upd H a o) h' a o):
 aC X π σ (upd H a o) { s with heap:=h',toks:=t' }:=I.un (Un.laid k hp (I.hok.fresh hp)) (I.hok.laid k hp new)
theorem aC.write {x e:Addr} {o:HO} {t':Nat} (I:aC X π σ H s) (mu:AN (H x)) (he:e=x∨H e=some (.own x)) (k:∀b u,b≠e->s.heap.get? b=some u->h'.get? b=some u) (heo:∃u,h'.get? e=some u)
 (new:bB X.prog X.w (upd H x o) h' x o):aC X π σ (upd H x o) { s with heap:=h',toks:=t' }:=I.un (Un.write mu he k heo) (I.hok.write mu he k heo new)
theorem aC.pins_of {pins':List (Addr×Obj)} (I:aC X π σ H s) (h:∀p∈pins',s.heap.get? p.1=some p.2/\H p.1=none/\p.1≠X.env.locals/\p.1∉X.fs/\∀v,p.2.data≠ .cell v):aC X pins' σ H s:=
 ⟨I.ok,I.os,I.bare,I.base,I.loc,I.cell,I.free,I.freeC,λp hp=>(mem_append.mp hp).elim (λz=>I.pin p (mem_append_left _ z)) (h p),I.hok,I.len⟩
theorem my {N:List Str} (hN:N.Nodup) {i j:Nat} (a:N[i]?=some x) (b:N[j]?=some x):i=j:=by
 obtain⟨h1,e1⟩:=List.getElem?_eq_some_iff.mp a;obtain⟨h2,e2⟩:=List.getElem?_eq_some_iff.mp b;exact(List.getElem_inj hN).mp (e1.trans e2.symm)
theorem gX {M:Model} {v:V} {Q:Unit->Shared->Prop} (I:aC X π σ H s) (hN:X.N.Nodup) (hi:X.N[i]?=some x) (hx:u7 X.env.scope x) (r:bf v u)
 (h:∀s',aC X π (σ.set i (some v)) H s'->(∃a,Heap.SameBut a s.heap s'.heap/\(a=X.env.locals∨X.env.cells.lookup x=some a))->Q () s') (hf:X.fn x=true∨X.env.scope.names.lookup x=some .local:=by first | exact .inl rfl | exact .inr rfl | assumption):wpAny M A (storeName X.env x u) Q E s:=by
 obtain⟨m,hn,hl⟩:=id I.loc;have hcls:(X.env.scope.kind== .class||(X.env.scope.kind== .module&&X.env.locals !=X.env.globals))=false:=by rw[I.ok.kind];rfl
 have hiσ:i<σ.length:=by rw[I.len];exact(List.getElem?_eq_some_iff.mp hi).1
 have cne:=I.cne;have tracked:∀{a:Addr} {h':Heap},(∃o,s.heap.get? a=some o/\H a=none)->Heap.SameBut a s.heap h'->fJ X.prog X.w H h':=λ{a h'} ha hs b ob e=>by
  obtain⟨_,_,hfree⟩:=ha;refine(I.hok b ob e).stay (λc w' hc q=>(hs.2 c ?_).trans q) (λ_ q=>q) λ_ _ q=>q;rintro rfl;rcases hc with rfl | hc
  ·rw[hfree] at e;cases e
  ·rw[hfree] at hc;cases hc
 rcases hx with hk | hk
 ·refine wpAny_storeName_local hk hn (λh' hn' hs=>?_) hcls;obtain⟨oL,_,_,hoL,_⟩:=id hn;refine h _ ⟨I.ok,I.os,I.bare,⟨λb o e n hb hx=>?_,λb o e n hb hx=>?_,I.base.free,λb o e hx=>?_,I.base.tups,I.base.frzs,I.base.tbls⟩,⟨_,hn',λj y v' e1 e2 e3=>?_⟩,λy c e=>?_,I.free,I.freeC,λp hp=>?_,tracked ⟨oL,hoL,I.free⟩ hs,by simpa using I.len⟩ ⟨_,hs,.inl rfl⟩
  ·exact(hs.2 b (ne_of_lt (lt_of_lt_of_le (Heap.lt_size e) I.ok.above))).trans (I.base.keep b o e n hb hx)
  ·obtain⟨sl,e1⟩:=I.base.slot b o e n hb hx;exact⟨sl,(hs.2 b (ne_of_lt (lt_of_lt_of_le (Heap.lt_size e) I.ok.above))).trans e1⟩
  ·obtain⟨o',e1⟩:=I.base.there b o e hx;exact⟨o',(hs.2 b (ne_of_lt (lt_of_lt_of_le (Heap.lt_size e) I.ok.above))).trans e1⟩
  ·by_cases hj:j=i
   ·subst hj;rw[hi] at e1;cases e1;rw[List.getElem?_set_self hiσ] at e2;cases e2;exact⟨u,r,.inl ⟨hk,by simp⟩⟩
   ·rw[List.getElem?_set_ne (Ne.symm hj)] at e2;obtain⟨u',r',q⟩:=hl j y v' e1 e2 e3;refine⟨u',r',?_⟩;rcases q with⟨k,e⟩ | ⟨k,c,e,z⟩
    ·refine .inl ⟨k,?_⟩;have:y≠x:=λe=>hj (my hN e1 (e▸hi));simp[this,e]
    ·exact .inr ⟨k,c,e,z.sameBut hs (cne y c e)⟩
  ·obtain⟨w',z⟩:=I.cell y c e;exact⟨w',z.sameBut hs (cne y c e)⟩
  ·obtain⟨e,n,ne,nf,d⟩:=I.pin p hp;exact⟨(hs.2 p.1 ne).trans e,n,ne,nf,d⟩
 ·have hfn:X.fn x=true:=by
   rcases hf with z | z
   ·exact z
   ·rw[z] at hk;cases hk
  obtain⟨c,hc⟩:=I.ok.has x (.inl hk);obtain⟨w',z⟩:=I.cell x c hc;refine wpAny_storeName_cell I.ok.kind hk hc z (λh' hc' hs=>?_);obtain⟨oc,hoc,hocd⟩:=id z;refine h { s with heap:=h' } ⟨I.ok,I.os,I.bare,⟨λb o e n hb hx=>?_,λb o e n hb hx=>?_,I.base.free,λb o e hx=>?_,I.base.tups,I.base.frzs,I.base.tbls⟩,⟨m,hn.sameBut hs (Ne.symm (cne x c hc)),λj y v' e1 e2 e3=>?_⟩,λy c' e=>?_,I.free,I.freeC,λp hp=>?_,tracked ⟨oc,hoc,I.freeC x c hc⟩ hs,by simpa using I.len⟩ ⟨c,hs,.inr hc⟩
  ·exact(hs.2 b (ne_of_lt (lt_of_lt_of_le (Heap.lt_size e) (I.ok.cab x c hfn hc)))).trans (I.base.keep b o e n hb hx)
  ·obtain⟨sl,e1⟩:=I.base.slot b o e n hb hx;exact⟨sl,(hs.2 b (ne_of_lt (lt_of_lt_of_le (Heap.lt_size e) (I.ok.cab x c hfn hc)))).trans e1⟩
  ·obtain⟨o',e1⟩:=I.base.there b o e hx;exact⟨o',(hs.2 b (ne_of_lt (lt_of_lt_of_le (Heap.lt_size e) (I.ok.cab x c hfn hc)))).trans e1⟩
  ·by_cases hj:j=i
   ·subst hj;rw[hi] at e1;cases e1;rw[List.getElem?_set_self hiσ] at e2;cases e2;exact⟨u,r,.inr ⟨.inl hk,c,hc,hc'⟩⟩
   ·rw[List.getElem?_set_ne (Ne.symm hj)] at e2;obtain⟨u',r',q⟩:=hl j y v' e1 e2 e3;refine⟨u',r',?_⟩;rcases q with q | ⟨k,c',e,z'⟩
    ·exact .inl q
    ·refine .inr ⟨k,c',e,z'.sameBut hs ?_⟩;rintro rfl;exact hj (my hN e1 (I.ok.inj _ _ _ e hc▸hi))
  ·by_cases hcc:c'=c
   ·subst hcc;exact⟨_,hc'⟩
   ·obtain⟨w2,z2⟩:=I.cell y c' e;exact⟨w2,z2.sameBut hs hcc⟩
  ·obtain⟨e,n,ne,nf,d⟩:=I.pin p hp;refine⟨(hs.2 p.1 ?_).trans e,n,ne,nf,d⟩;intro q;rw[q,hoc] at e;have q':oc=p.2:=Option.some.inj e;exact d w' (by rw[←q'];exact hocd)
theorem je {M:Model} {v:V} {Q:Unit->Shared->Prop} (I:aC X π σ H s) (hN:X.N.Nodup) (hi:X.N[i]?=some x) (hx:u7 X.env.scope x) (r:bf v u)
 (h:∀s',aC X π (σ.set i (some v)) H s'->Q () s') (hf:X.fn x=true∨X.env.scope.names.lookup x=some .local:=by first | exact .inl rfl | exact .inr rfl | assumption):wpAny M A (storeName X.env x u) Q E s:=
 gX I hN hi hx r (λs' I' _=>h s' I') hf
theorem aC.call' {s':Shared} {ch:List Addr} (I:aC X π σ H s) (ho:s'.os=s.os) (u:Un (eu X.stack) ch H H' s.heap s'.heap) (hok:fJ X.prog X.w H' s'.heap) (hg:AllBare s'.gens)
 (hch:∀b∈ch,(b∈X.ex∨X.s₀.heap.objs.size<=b)/\b≠X.env.locals/\(∀x c,X.env.cells.lookup x=some c->c≠b)/\∀p∈X.pn++π,p.1≠b):aC X π σ H' s':=by
 obtain⟨h',g',d',t',o'⟩:=s';have e:o'=s.os:=ho;subst e;exact I.call (g':=g') (t':=t') (d':=d') u hok hg hch
end
noncomputable abbrev XK:=Value->Option Addr->Hp->Prop
noncomputable abbrev St:=List (Option V)
noncomputable abbrev VK:=V->Hp->Prop
noncomputable abbrev TE:=St->Hp->VK->Prop
noncomputable abbrev TT:=St->Hp->(Bool->Hp->Prop)->Prop
noncomputable abbrev TA:=St->Hp->(List V->Hp->Prop)->Prop
structure fK where
 nx:St->Hp->Prop
 rt:VK
 bk:St->Hp->Prop:=λ_ _=>False
 ct:St->Hp->Prop:=λ_ _=>False
noncomputable abbrev TS:=fK->St->Hp->Prop
noncomputable def EP (X:Cx) (π:List (Addr×Obj)) (σ:St) (Q:VK) (u:Value) (s':Shared):Prop:=∃v H',aC X π σ H' s'/\bf v u/\Q v H'
noncomputable def TP (X:Cx) (π:List (Addr×Obj)) (σ:St) (Q:Bool->Hp->Prop) (b:Bool) (s':Shared):Prop:=∃H',aC X π σ H' s'/\Q b H'
noncomputable def AP (X:Cx) (π:List (Addr×Obj)) (σ:St) (Q:List V->Hp->Prop) (us:List Value) (s':Shared):Prop:=∃vs H',aC X π σ H' s'/\aX vs us/\Q vs H'
noncomputable def SP (X:Cx) (π:List (Addr×Obj)) (D:fK) (f:Flow) (s':Shared):Prop:=
 match f with
 | .next=>∃σ' H',aC X π σ' H' s'/\D.nx σ' H'
 | .brk=>∃σ' H',aC X π σ' H' s'/\D.bk σ' H'
 | .cont=>∃σ' H',aC X π σ' H' s'/\D.ct σ' H'
 | .ret u=>∃v σ' H',aC X π σ' H' s'/\bf v u/\D.rt v H'
noncomputable def PE (X:Cx) (e:Expr) (t:TE):Prop:=
 ∀(π:List (Addr×Obj)) (s:Shared) (σ:St) (H:Hp) (Q:VK),aC X π σ H s->t σ H Q->wpAny (model X.prog X.w) X.A (eval e X.env) (EP X π σ Q) X.xe s
noncomputable def PT (X:Cx) (e:Expr) (t:TT):Prop:=
 ∀(π:List (Addr×Obj)) (s:Shared) (σ:St) (H:Hp) (Q:Bool->Hp->Prop),aC X π σ H s->t σ H Q->wpAny (model X.prog X.w) X.A (isTrue e X.env (eval e X.env)) (TP X π σ Q) X.xe s
noncomputable def PW (X:Cx) (e:Expr) (t:TT):Prop:=
 ∀(whole:Sem Value) (π:List (Addr×Obj)) (s:Shared) (σ:St) (H:Hp) (Q:Bool->Hp->Prop),aC X π σ H s->t σ H Q->wpAny (model X.prog X.w) X.A (isTrue e X.env whole) (TP X π σ Q) X.xe s
theorem PW.pt {X:Cx} {t:TT} (h:PW X e t):PT X e t:=h _
noncomputable def PA (X:Cx) (es:List Expr) (t:TA):Prop:=
 ∀(pos:Pos) (π:List (Addr×Obj)) (s:Shared) (σ:St) (H:Hp) (Q:List V->Hp->Prop),aC X π σ H s->t σ H Q->wpAny (model X.prog X.w) X.A (spliced (backTo pos (starEach es X.env))) (AP X π σ Q) X.xe s
noncomputable def PS (X:Cx) (st:Stmt) (t:TS):Prop:=
 ∀(π:List (Addr×Obj)) (s:Shared) (σ:St) (H:Hp) (D:fK),aC X π σ H s->t D σ H->wpAny (model X.prog X.w) X.A (exec st X.env) (SP X π D) X.xe s
noncomputable def mv (X:Cx) (st:List Stmt) (t:TS):Prop:=
 ∀(π:List (Addr×Obj)) (s:Shared) (σ:St) (H:Hp) (D:fK),aC X π σ H s->t D σ H->wpAny (model X.prog X.w) X.A (execs st X.env) (SP X π D) X.xe s
theorem bV {α:Type} {t:Sem α} {Q Q':α->Shared->Prop} {M:Model} (h:wpAny M A t Q E s) (hQ:∀a s,Q a s->Q' a s):wpAny M A t Q' E s:=wpAny_mono h hQ λ_ _ x=>x
section
variable {X:Cx}
noncomputable def AO (i:Nat):TE:=λσ H Q=>∃v,σ[i]?=some (some v)/\Q v H
noncomputable def tC (v:V):TE:=λ_ H Q=>Q v H
theorem nS (hN:X.N[i]?=some x) (hv:AL X.env.scope x) (hd:(x==("__debug__":Str))=false:=by decide) (hcd:(x==("__classdict__":Str))=false:=by decide):PE X (.Name x pos) (AO i):=by
 intro π s σ H Q I h;obtain⟨v,e,h⟩:=h;obtain⟨m,hn,hl⟩:=I.loc;obtain⟨u,r,l⟩:=hl i x v hN e hv;have fin:EP X π σ Q u s:=⟨v,H,I,r,h⟩;rcases l with⟨hk,hm⟩ | ⟨hk,c,hc,hcell⟩
 ·exact wpAny_Name (wpAny_loadName_local I.ok.kind hk hn hm fin) hd
 ·rcases hk with hk | hk
  ·exact wpAny_Name (wpAny_loadName_cell I.ok.kind hk hc hcell fin) hd
  ·exact wpAny_Name (wpAny_loadName_free I.ok.kind hk hc hcell fin hcd) hd
theorem yp {i j pos}:PE X (.Constant (.int i) j pos) (tC (.int i)):=λ_ _ _ H _ I h=>wpAny_Constant_int ⟨.int i,H,I.tok _,⟨_,rfl⟩,h⟩
theorem xC {b j pos}:PE X (.Constant (.bool b) j pos) (tC (.bl b)):=λ_ _ _ H _ I h=>Constant_bool ⟨.bl b,H,I,rfl,h⟩
theorem yq {j pos}:PE X (.Constant .none j pos) (tC .non):=λ_ _ _ H _ I h=>Constant_none ⟨.non,H,I,rfl,h⟩
theorem rH {x j pos}:PE X (.Constant (.str x) j pos) (tC (.str x)):=λ_ _ _ H _ I h=>Calls.Constant_str ⟨.str x,H,I.tok _,⟨_,rfl⟩,h⟩
noncomputable def Gl (X:Cx) (x:Str):Prop:=X.env.kindOf x=some .globalImplicit
theorem fw {σ:St} {H:Hp} (I:aC X π σ H s) (hg:Gl X x) (hm:X.mg x=some u) (h:Q u s)
 (hd:(x==("__debug__":Str))=false:=by decide):wpAny (model X.prog X.w) X.A (eval (.Name x pos) X.env) Q E s:=
 Calls.Name_function_global I.ok.kind hg (Calls.loadGlobal_global (by rw[I.ok.glob];exact I.mod.glob.keeps I.bk) hm h) hd
theorem fU {σ:St} {H:Hp} (I:aC X π σ H s) (hg:Gl X x) (hm:X.mg x=none) (hv:bootBuiltins x=some u) (h:Q u s)
 (hn:x≠"__name__":=by decide) (hd:(x==("__debug__":Str))=false:=by decide):wpAny (model X.prog X.w) X.A (eval (.Name x pos) X.env) Q E s:=by
 obtain⟨mb,h1,h2⟩:=I.mod.blt;exact Calls.Name_function_global I.ok.kind hg (Calls.loadGlobal_builtin (by rw[I.ok.glob];exact I.mod.glob.keeps I.bk) hm (by rw[I.ok.blt];exact h1.keeps I.bk) ((h2 x hn).trans hv) h) hd
theorem vh {v:V} (hg:Gl X x) (hm:X.mg x=none) (hv:bootBuiltins x=some u) (r:bf v u) (hn:x≠"__name__":=by decide) (hd:(x==("__debug__":Str))=false:=by decide):PE X (.Name x pos) (tC v):=
 λ_ _ _ H _ I h=>fU I hg hm hv ⟨v,H,I,r,h⟩ hn hd
variable {a b:Expr} {ta tb:TE} {pos:Pos}
noncomputable def tB (t:TE):TT:=λσ H Q=>t σ H λx H1=>∃c,x=.bl c/\Q c H1
theorem yr {t:TE} (h:PE X e t) (he:∀whole,isTrue e X.env whole=(do let v ←whole;standAt e.pos;holding [v] (truthy v)):=by intro _;rfl):PT X e (tB t):=by
 intro π s σ H Q I hw;refine isTrue_plain (bV (h π s σ H _ I hw) λv s1 z9=>?_) (he _);obtain⟨x,H1,I1,r1,q1⟩:=z9;obtain⟨d,rfl,q⟩:=q1;cases r1;exact wpAny_truthy_bool ⟨H1,I1,q⟩
variable {tA tB':TT} {bH:List Expr}
noncomputable def Dl (t u:TT):TT:=λσ H Q=>t σ H λc H1=>if c=true then u σ H1 Q else Q false H1
noncomputable def Fv (t u:TT):TT:=λσ H Q=>t σ H λc H1=>if c=true then Q true H1 else u σ H1 Q
noncomputable def Dm (t:TT):TT:=λσ H Q=>t σ H λc H1=>Q (!c) H1
theorem vi (ha:PT X a tA):PW X (.BoolOp .And [a] pos) tA:=by
 intro wh π s σ H Q I h;refine isTrue_and (bV (ha π s σ H Q I h) λc s1 e=>?_);cases c with
 | true=>exact isTrue_and_nil e
 | false=>exact e
theorem yt (ha:PT X a tA):PW X (.BoolOp .Or [a] pos) tA:=by
 intro wh π s σ H Q I h;refine isTrue_or (bV (ha π s σ H Q I h) λc s1 e=>?_);cases c with
 | false=>exact isTrue_or_nil e
 | true=>exact e
theorem yu (ha:PT X a tA) (hb:PW X (.BoolOp .And (b::bH) pos) tB'):PW X (.BoolOp .And (a::b::bH) pos) (Dl tA tB'):=by
 intro wh π s σ H Q I h;refine isTrue_and (bV (ha π s σ H _ I h) λc s1 z9=>?_);obtain⟨H1,I1,q1⟩:=z9;cases c with
 | true=>exact hb wh π s1 σ H1 Q I1 q1
 | false=>exact⟨H1,I1,q1⟩
theorem AQ (ha:PT X a tA) (hb:PW X (.BoolOp .Or (b::bH) pos) tB'):PW X (.BoolOp .Or (a::b::bH) pos) (Fv tA tB'):=by
 intro wh π s σ H Q I h;refine isTrue_or (bV (ha π s σ H _ I h) λc s1 z9=>?_);obtain⟨H1,I1,q1⟩:=z9;cases c with
 | true=>exact⟨H1,I1,q1⟩
 | false=>exact hb wh π s1 σ H1 Q I1 q1
theorem yv (ha:PT X a tA):PT X (.UnaryOp .Not a pos) (Dm tA):=by
 intro π s σ H Q I h;exact isTrue_not (ha π s σ H (λc H1=>Q (!c) H1) I h)
noncomputable def AR (ta tb:TE):TE:=λσ H Q=>ta σ H λx H1=>∃c,x=.bl c/\if c=true then tb σ H1 Q else Q (.bl false) H1
noncomputable def Do (ta tb:TE):TE:=λσ H Q=>ta σ H λx H1=>∃c,x=.bl c/\if c=true then Q (.bl true) H1 else tb σ H1 Q
noncomputable def AS (ta:TE):TE:=λσ H Q=>ta σ H λx H1=>∃c,x=.bl c/\Q (.bl (!c)) H1
theorem yw {op} {t:TE} (h:PE X a t):PE X (.BoolOp op [a] pos) t:=λπ s σ H Q I hw=>BoolOp_one (h π s σ H Q I hw)
theorem yx (ha:PE X a ta) (hb:PE X (.BoolOp .And (b::bH) pos) tb):PE X (.BoolOp .And (a::b::bH) pos) (AR ta tb):=by
 intro π s σ H Q I h;refine BoolOp_and (bV (ha π s σ H _ I h) λv s1 z9=>?_);obtain⟨x,H1,I1,r1,q1⟩:=z9;obtain⟨c,rfl,q1⟩:=q1;cases r1;refine wpAny_truthy_bool ?_;cases c with
 | true=>exact hb π s1 σ H1 Q I1 q1
 | false=>exact⟨.bl false,H1,I1,rfl,q1⟩
theorem AT (ha:PE X a ta) (hb:PE X (.BoolOp .Or (b::bH) pos) tb):PE X (.BoolOp .Or (a::b::bH) pos) (Do ta tb):=by
 intro π s σ H Q I h;refine BoolOp_or (bV (ha π s σ H _ I h) λv s1 z9=>?_);obtain⟨x,H1,I1,r1,q1⟩:=z9;obtain⟨c,rfl,q1⟩:=q1;cases r1;refine wpAny_truthy_bool ?_;cases c with
 | false=>exact hb π s1 σ H1 Q I1 q1
 | true=>exact⟨.bl true,H1,I1,rfl,q1⟩
theorem yy (ha:PE X a ta):PE X (.UnaryOp .Not a pos) (AS ta):=by
 intro π s σ H Q I h;refine UnaryOp_ (bV (ha π s σ H _ I h) λv s1 z9=>?_);obtain⟨x,H1,I1,r1,q1⟩:=z9;obtain⟨c,rfl,q1⟩:=q1;cases r1;exact not_of (wpAny_truthy_bool ⟨.bl (!c),H1,I1,rfl,q1⟩)
noncomputable def Fw (t:TT) (ta tb:TE):TE:=λσ H Q=>t σ H λc H1=>if c=true then ta σ H1 Q else tb σ H1 Q
theorem rJ {c:Expr} (hc:PT X c tA) (ha:PE X a ta) (hb:PE X b tb):PE X (.IfExp c a b pos) (Fw tA ta tb):=by
 intro π s σ H Q I h;refine wpAny_IfExp (bV (hc π s σ H _ I h) λd s1 z9=>?_);obtain⟨H1,I1,q1⟩:=z9;cases d with
 | true=>exact ha π s1 σ H1 Q I1 q1
 | false=>exact hb π s1 σ H1 Q I1 q1
end
noncomputable def cU (K:PySem.W.Frag) (H:Hp) (a:Addr) (xs:List V):Prop:=
 Rd H a (.lst xs)∨
  ∃(o:Obj) (its:Array Value) (n:Nat),K.lookup a=some o/\o.cls=.type "list"/\o.dict=none/\o.data=.seq its n/\its.size<=sizeLine/\aX xs its.toList
noncomputable def cO (K:PySem.W.Frag) (H:Hp) (a:Addr) (xs:List V):Prop:=
 Rd H a (.tup xs)∨
  ∃(o:Obj) (its:Array Value) (n:Nat),K.lookup a=some o/\o.cls=.type "tuple"/\o.data=.seq its n/\its.size<=sizeLine/\aX xs its.toList
noncomputable def Dq:Value->Option V
 | .none=>some .non
 | .bool b=>some (.bl b)
 | .int i _=>some (.int i)
 | .str x _=>some (.str x)
 | .bytes b _=>some (.byt b)
 | .float b _=>some (.flt b)
 | .ref a=>some (.ref a)
 | .type n=>some (.ty n)
 | _=>none
theorem bf.abs {x:V} (r:bf x u):Dq u=some x:=by
 cases x with
 | non=>cases r;rfl
 | bl _=>cases r;rfl
 | int _=>obtain⟨t,rfl⟩:=r;rfl
 | str _=>obtain⟨t,rfl⟩:=r;rfl
 | byt _=>obtain⟨t,rfl⟩:=r;rfl
 | flt _=>obtain⟨t,rfl⟩:=r;rfl
 | ref _=>cases r;rfl
 | ty _=>cases r;rfl
theorem bf.inj {x y:V} (r:bf x u) (q:bf y u):x=y:=Option.some.inj (r.abs.symm.trans q.abs)
theorem aX.inj:∀{xs ys:List V} {us:List Value},aX xs us->aX ys us->xs=ys
 | _,_,_,.nil,.nil=>rfl
 | _,_,_,.cons r t,.cons r' t'=>by rw[r.inj r',aX.inj t t']
section
variable {X:Cx} {π:List (Addr×Obj)} {σ:St} {H:Hp} {s:Shared} {a:Addr} {xs ys:List V}
theorem cU.of (h:H a=some (.lst xs)):cU K H a xs:= .inl (.inl h)
theorem cO.of (h:H a=some (.tup xs)):cO K H a xs:= .inl (.inl h)
theorem aC.list (I:aC X π σ H s) (h:cU X.K H a xs):∃its:List Value,aX xs its/\PlainL s.heap a its.toArray/\xs.length<=sizeLine:=by
 rcases h with h | ⟨o,its,n,hk,hc,hd,hs,hz,r⟩
 ·obtain⟨z,its,n,r,e⟩:=h.ok I.hok;exact⟨its,r,⟨_,n,e,rfl,rfl,rfl⟩,z⟩
 ·refine⟨its.toList,r,⟨o,n,I.kIn a o hk,hc,hd,by simpa using hs⟩,?_⟩;have e:=r.length;simp only[Array.length_toList] at e;lia
theorem aC.tuple (I:aC X π σ H s) (h:cO X.K H a xs):∃its:List Value,aX xs its/\IsTup s.heap a its.toArray/\xs.length<=sizeLine:=by
 rcases h with h | ⟨o,its,n,hk,hc,hs,hz,r⟩
 ·obtain⟨z,its,r,p⟩:=h.ok I.hok;exact⟨its,r,p,z⟩
 ·refine⟨its.toList,r,⟨o,I.kIn a o hk,hc,n,by simpa using hs⟩,?_⟩;have e:=r.length;simp only[Array.length_toList] at e;lia
theorem aC.list_inj (I:aC X π σ H s) (h:cU X.K H a xs) (h':cU X.K H a ys):xs=ys:=by
 obtain⟨its,r,⟨o,n,e,_,_,d⟩,_⟩:=I.list h;obtain⟨its',r',⟨o',n',e',_,_,d'⟩,_⟩:=I.list h';rw[e] at e';cases e';rw[d] at d';injection d' with d1 _
 have:its=its':=by simpa using congrArg Array.toList d1
 subst this;exact r.inj r'
theorem aC.tuple_inj (I:aC X π σ H s) (h:cO X.K H a xs) (h':cO X.K H a ys):xs=ys:=by
 obtain⟨its,r,⟨o,e,_,n,d⟩,_⟩:=I.tuple h;obtain⟨its',r',⟨o',e',_,n',d'⟩,_⟩:=I.tuple h';rw[e] at e';cases e';rw[d] at d';injection d' with d1 _
 have:its=its':=by simpa using congrArg Array.toList d1
 subst this;exact r.inj r'
end
noncomputable abbrev Cx.wish (X:Cx) (E:Value->Shared->Prop):Cx:={ X with xe:=E }
noncomputable abbrev Cx.nox (X:Cx):Cx:=X.wish λ_ _=>False
theorem Cx.Ok.wish {X:Cx} (ok:X.Ok) (E:Value->Shared->Prop):(X.wish E).Ok:=
 ⟨ok.mod,ok.kind,ok.glob,ok.blt,ok.above,ok.inj,ok.has,ok.cab,ok.hd,ok.frames,ok.stk,ok.exf,ok.bs,ok.bsz,ok.noex,ok.exfs,ok.funs,ok.frf⟩
theorem Cx.Ok.unwish {X:Cx} (ok:(X.wish E).Ok):X.Ok:=
 ⟨ok.mod,ok.kind,ok.glob,ok.blt,ok.above,ok.inj,ok.has,ok.cab,ok.hd,ok.frames,ok.stk,ok.exf,ok.bs,ok.bsz,ok.noex,ok.exfs,ok.funs,ok.frf⟩
section
variable {X:Cx} {π:List (Addr×Obj)} {σ:St} {H:Hp} {s:Shared} {E:Value->Shared->Prop}
theorem aC.wish (I:aC X π σ H s) (E:Value->Shared->Prop):aC (X.wish E) π σ H s:=⟨I.ok.wish E,I.os,I.bare,I.base,I.loc,I.cell,I.free,I.freeC,I.pin,I.hok,I.len⟩
theorem aC.unwish (I:aC (X.wish E) π σ H s):aC X π σ H s:=⟨I.ok.unwish,I.os,I.bare,I.base,I.loc,I.cell,I.free,I.freeC,I.pin,I.hok,I.len⟩
theorem SP.unwish {D:fK} {f:Flow} {s':Shared} (h:SP (X.wish E) π D f s'):SP X π D f s':=by
 cases f with
 | next=>obtain⟨σ',H',I,q⟩:=h;exact⟨σ',H',I.unwish,q⟩
 | brk=>obtain⟨σ',H',I,q⟩:=h;exact⟨σ',H',I.unwish,q⟩
 | cont=>obtain⟨σ',H',I,q⟩:=h;exact⟨σ',H',I.unwish,q⟩
 | ret u=>obtain⟨v,σ',H',I,r,q⟩:=h;exact⟨v,σ',H',I.unwish,r,q⟩
theorem mv.nox {st:List Stmt} {t:TS} (h:mv X.nox st t):mv X st t:=λπ s σ H D I hw=>
 wpAny_mono (h π s σ H D (I.wish _) hw) (λ_ _ q=>q.unwish) λ_ _ z=>False.elim z
end
section
variable {X:Cx} {st:Stmt} {bH:List Stmt} {t u:TS} {e:Expr} {te:TE} {pos:Pos}
noncomputable def AU:TS:=λD σ H=>D.nx σ H
noncomputable def Dr (t u:TS):TS:=λD σ H=>t { D with nx:=u D } σ H
theorem pss_nil:mv X [] AU:=λ_ _ σ H _ I h=>wpAny_execs_nil ⟨σ,H,I,h⟩
theorem rK (h1:PS X st t) (h2:mv X bH u):mv X (st::bH) (Dr t u):=by
 intro π s σ H D I h;refine wpAny_execs_cons (bV (h1 π s σ H { D with nx:=u D } I h) λf s1 q=>?_);cases f with
 | next=>
   obtain⟨σ',H',I',q⟩:=q;exact h2 π s1 σ' H' D I' q
 | ret v=>exact q
 | brk=>exact q
 | cont=>exact q
theorem vj (h1:PS X st t):mv X [st] t:=by
 intro π s σ H D I h;refine wpAny_execs_cons (bV (h1 π s σ H D I h) λf s1 q=>?_);cases f with
 | next=>exact wpAny_execs_nil q
 | ret v=>exact q
 | brk=>exact q
 | cont=>exact q
theorem aC.quiet {σ:St} {H:Hp} (I:aC X π σ H s):interactive X.env=false:=by simp[interactive,I.ok.kind]
noncomputable def AV (te:TE):TS:=λD σ H=>te σ H λ_ H1=>D.nx σ H1
theorem vk (he:PE X e te) (hs:swapsWith e none pos.line X.env=pure false:=by rfl):PS X (.Expr e pos) (AV te):=by
 intro π s σ H D I h;exact wpAny_Expr_any (bV (he π s σ H _ I h) λv s1 ⟨x,H1,I1,r1,q1⟩=>⟨σ,H1,I1,q1⟩) I.quiet hs
noncomputable def Ds (te:TE):TS:=λD σ H=>te σ H D.rt
theorem yz (he:PE X e te):PS X (.Return (some e) pos) (Ds te):=by
 intro π s σ H D I h;exact wpAny_Return_some (bV (he π s σ H _ I h) λv s1 ⟨x,H1,I1,r1,q1⟩=>⟨x,σ,H1,I1,r1,q1⟩)
noncomputable def Dt (c:TT) (t u:TS):TS:=λD σ H=>c σ H λb H1=>if b=true then t D σ H1 else u D σ H1
theorem AW {c:Expr} {a b:List Stmt} {tc:TT} (hc:PT X c tc) (ha:mv X a t) (hb:mv X b u):PS X (.If c a b pos) (Dt tc t u):=by
 intro π s σ H D I h;refine wpAny_If (bV (hc π s σ H _ I h) λd s1 z9=>?_);obtain⟨H1,I1,q1⟩:=z9;cases d with
 | true=>exact ha π s1 σ H1 D I1 q1
 | false=>exact hb π s1 σ H1 D I1 q1
end
noncomputable abbrev TG:=V->St->Hp->(St->Hp->Prop)->Prop
noncomputable abbrev vn:=List V->St->Hp->(St->Hp->Prop)->Prop
noncomputable def PG (X:Cx) (target:Expr) (t:TG):Prop:=
 ∀(π:List (Addr×Obj)) (s:Shared) (σ:St) (H:Hp) (v:V) (u:Value) (Q:St->Hp->Prop),aC X π σ H s->bf v u->t v σ H Q->
  wpAny (model X.prog X.w) X.A (assign target X.env u) (λ_ s'=>∃σ' H',aC X π σ' H' s'/\Q σ' H') X.xe s
noncomputable def xD (X:Cx) (ts:List Expr) (t:vn):Prop:=
 ∀(π:List (Addr×Obj)) (s:Shared) (σ:St) (H:Hp) (vs:List V) (us:List Value) (Q:St->Hp->Prop),aC X π σ H s->aX vs us->t vs σ H Q->
  wpAny (model X.prog X.w) X.A (assignInOrder ((assignEach ts X.env).map (·.2)) us) (λ_ s'=>∃σ' H',aC X π σ' H' s'/\Q σ' H') X.xe s
section
variable {X:Cx} {pos:Pos}
noncomputable def xE (i:Nat):TG:=λv σ H Q=>Q (σ.set i (some v)) H
theorem vo (hN:X.N.Nodup) (hi:X.N[i]?=some x) (hx:u7 X.env.scope x) (hf:X.fn x=true∨X.env.scope.names.lookup x=some .local:=by first | exact .inl rfl | exact .inr rfl | assumption):PG X (.Name x pos) (xE i):=by
 intro π s σ H v u Q I r h;exact wpAny_assign_Name (je I hN hi hx r (λs' I'=>⟨_,H,I',h⟩) hf)
noncomputable def Du:vn:=λvs σ H Q=>vs=[]/\Q σ H
noncomputable def AX (t:TG) (u:vn):vn:=λvs σ H Q=>∃v r,vs=v::r/\t v σ H λσ' H'=>u r σ' H' Q
theorem pgs_nil:xD X [] Du:=by
 intro π s σ H vs us Q I r h;obtain⟨e,h⟩:=h;subst e;cases r;exact assignInOrder_nil ⟨σ,H,I,h⟩
theorem rL {t:TG} {u:vn} (h1:PG X e t) (h2:xD X es u)
 (hs:(assignEach (e::es) X.env).map (·.2)=assign e X.env::(assignEach es X.env).map (·.2):=by rfl):xD X (e::es) (AX t u):=by
 intro π s σ H vs us Q I r h;obtain⟨v,vr,e1,h⟩:=h;subst e1;cases r with
 | cons r rr=>
   rw[hs];refine assignInOrder_cons (bV (h1 π s σ H _ _ _ I r h) λ_ s1 z9=>?_);obtain⟨σ1,H1,I1,q1⟩:=z9;exact h2 π s1 σ1 H1 _ _ Q I1 rr q1
noncomputable def Dv (K:PySem.W.Frag) (n:Nat) (t:vn):TG:=λv σ H Q=>∃a xs,v=.ref a/\cO K H a xs/\xs.length=n/\t xs σ H Q
theorem yA {t:vn} {n:Nat} (hc:X.calm=true) (h:xD X es t)
 (hn:(assignEach es X.env).length=n:=by rfl) (hst:(assignEach es X.env).findIdx? (·.1)=none:=by rfl):PG X (.Tuple es k pos) (Dv X.K n t):=by
 intro π s σ H v u Q I r hw;obtain⟨a,xs,e1,hq,hl,hw⟩:=hw;subst e1;cases r;obtain⟨its,rv,ht,hz⟩:=I.tuple hq;refine assign_Tuple_tuple (I.ok.hd hc) ht (by simp[hn,←hl,rv.length]) hst λh' hx=>?_;have I1:aC X π σ H { s with heap:=h' }:=I.kept (t':=s.toks) λb o e=>hx b o (ne_of_lt (Heap.lt_size e)) e;exact h π _ σ H xs _ Q I1 (by simpa using rv) hw
noncomputable def Dw (te:TE) (g:TG):TS:=λD σ H=>te σ H λx H1=>g x σ H1 D.nx
theorem yB {te:TE} {pos':Pos} (hN:X.N.Nodup) (hi:X.N[i]?=some x) (hx:u7 X.env.scope x) (he:PE X e te) (hs:swapsWith e (some (.Name x pos')) pos.line X.env=pure false:=by rfl) (hf:X.fn x=true∨X.env.scope.names.lookup x=some .local:=by first | exact .inl rfl | exact .inr rfl | assumption):
 PS X (.Assign [.Name x pos'] e pos) (Dw te (xE i)):=by
 intro π s σ H D I h;refine wpAny_Assign_Name (bV (he π s σ H _ I h) λv s1 z9=>?_) hs;obtain⟨y,H1,I1,r1,q1⟩:=z9;exact je I1 hN hi hx r1 (λs2 I2=>⟨_,H1,I2,q1⟩) hf
end
section
variable {X:Cx} {pos:Pos}
noncomputable def yC (c:TT) (tb:TS):TS:=λD σ H=>∃W:Nat->St->Hp->Prop,(∃m,W m σ H)/\∀m σ H,W m σ H->
 c σ H λb H1=>if b=true then ∃N:St->Hp->Prop,(∀σ' H',N σ' H'->∃m',m'<m/\W m' σ' H')/\tb { D with nx:=N,ct:=N,bk:=D.nx } σ H1 else D.nx σ H1
theorem rM {c:Expr} {tc:TT} {tb:TS} (hp:PassesOwn (model X.prog X.w) X.A X.env X.xe) (hc:PT X c tc) (hb:mv X body tb):PS X (.While c body [] pos) (yC tc tb):=by
 intro π s σ H D I h;obtain⟨W,⟨m0,w0⟩,turn⟩:=h;refine wpAny_While (codeAny_whileLoop (λn s'=>∃σ' H',aC X π σ' H' s'/\W n σ' H') ?_ m0 ⟨σ,H,I,w0⟩);rintro n s1 ⟨σ1,H1,I1,w1⟩;refine wpAny_passesOwn hp (bV (hc π s1 σ1 H1 _ I1 (turn n σ1 H1 w1)) λb s2 z9=>?_);obtain⟨H2,I2,q2⟩:=z9;cases b with
 | true=>
   obtain⟨N,hN,q2⟩:=q2;rw[if_pos rfl];refine wpAny_passesOwn hp (bV (hb π s2 σ1 H2 _ I2 q2) λf s3 q3=>?_);cases f with
   | next=>
     obtain⟨σ3,H3,I3,n3⟩:=q3;obtain⟨m',hm,w3⟩:=hN σ3 H3 n3;exact⟨m',hm,σ3,H3,I3,w3⟩
   | cont=>
     obtain⟨σ3,H3,I3,n3⟩:=q3;obtain⟨m',hm,w3⟩:=hN σ3 H3 n3;exact⟨m',hm,σ3,H3,I3,w3⟩
   | brk=>exact q3
   | ret v=>exact q3
 | false=>
   rw[if_neg Bool.false_ne_true];exact wpAny_execs_nil ⟨σ1,H2,I2,q2⟩
end
structure It where
 go:Nat->Hp->Prop
 yld:Nat->Hp->V->Hp->Prop
 stop:Nat->Hp->Prop
noncomputable def iM (X:Cx) (π:List (Addr×Obj)) (H:Hp) (b:Addr):Prop:=
 H b=none/\b≠X.env.locals/\b∉X.fs/\(b∈X.ex∨X.s₀.heap.objs.size<=b)/\(∀x c,X.env.cells.lookup x=some c->c≠b)/\∀p∈X.pn++π,p.1≠b
theorem aC.fpOk {X:Cx} {σ:St} {H H':Hp} {b:Addr} (I:aC X π σ H s) (hb:s.heap.objs.size<=b) (hn:H' b=none):iM X π H' b:=by
 refine⟨hn,Nat.ne_of_gt (lt_of_lt_of_le I.lt hb),I.nofs hb,.inr (le_trans I.sz hb),λx c e z=>?_,λp hp z=>?_⟩
 ·obtain⟨v,q⟩:=I.cell x c e;exact absurd (lt_of_lt_of_le q.lt (by rw[z];exact hb)) (lt_irrefl _)
 ·exact absurd (lt_of_lt_of_le (Heap.lt_size (I.pin p hp).1) (by rw[z];exact hb)) (lt_irrefl _)
structure lq (P:Program) (w:World) (K:PySem.W.Frag) (tg:Expr) (J:It) (fp:List Addr) (it:Addr) (tn:Nat->Heap->Prop):Prop where
 mem:it∈fp
 obj:∀i h,tn i h->∀b∈fp,∃o,h.get? b=some o/\∀v,o.data≠ .cell v
 keep:∀i h h',tn i h->(∀b∈fp,∀o,h.get? b=some o->h'.get? b=some o)->tn i h'
 item:∀(X:Cx),X.prog=P->X.w=w->X.K=K->X.calm=true->∀(i:Nat) (π:List (Addr×Obj)) (s:Shared) (σ:St) (H:Hp) (E:Value->Shared->Prop),aC X π σ H s->(∀b∈fp,iM X π H b)->tn i s.heap->J.go i H->
  wpAny (model P w) X.A (pyNext (.ref it)) (λr s1=>∃u,r=some u/\
   wpAny (model P w) X.A (letOwnedTupleGo tg (.ref it) u) (λ_ s2=>∃x H',aC X π σ H' s2/\bf x u/\J.yld i H x H'/\tn (i+1) s2.heap/\∀b∈fp,H' b=none) E s1) E s
 done:∀(X:Cx),X.prog=P->X.w=w->X.K=K->X.calm=true->∀(i:Nat) (π:List (Addr×Obj)) (s:Shared) (σ:St) (H:Hp) (E:Value->Shared->Prop),aC X π σ H s->(∀b∈fp,iM X π H b)->tn i s.heap->J.stop i H->
  wpAny (model P w) X.A (pyNext (.ref it)) (λr s1=>r=none/\aC X π σ H s1) E s
 self:∀(A:Around) (i:Nat) (s:Shared) (Q:Value->Shared->Prop) (E:Value->Shared->Prop),tn i s.heap->Q (.ref it) s->wpAny (model P w) A (pyIter (.ref it)) Q E s
noncomputable abbrev TI:=St->Hp->(It->Hp->Prop)->Prop
noncomputable def Fb (X:Cx) (π:List (Addr×Obj)) (σ:St) (tg:Expr) (R:It->Hp->Prop) (itv:Value) (s2:Shared):Prop:=
 ∃(it:Addr) (fp:List Addr) (tn:Nat->Heap->Prop) (J:It) (H':Hp),itv=.ref it/\aC X π σ H' s2/\lq X.prog X.w X.K tg J fp it tn/\tn 0 s2.heap/\(∀b∈fp,iM X π H' b)/\R J H'
noncomputable def PI (X:Cx) (tg iter:Expr) (wi:TI):Prop:=
 ∀(π:List (Addr×Obj)) (s:Shared) (σ:St) (H:Hp) (R:It->Hp->Prop),aC X π σ H s->wi σ H R->
  wpAny (model X.prog X.w) X.A (eval iter X.env) (λv s1=>wpAny (model X.prog X.w) X.A (pyIter v) (Fb X π σ tg R) X.xe s1) X.xe s
theorem kn {M:Model} {tg:Expr} {it:Addr} {o:Obj} {n:String} {vs:Array Value} {Q:Unit->Shared->Prop} (ho:s.heap.get? it=some o) (hc:o.cls=.type n) (hd:o.data=.fields vs)
 (hn:["enumerate","zip","dict_itemiterator","dict_reverseitemiterator","odict_iterator","itertools.zip_longest","itertools.pairwise"].contains n=false) (hQ:Q () s):wpAny M A (letOwnedTupleGo tg (.ref it) u) Q E s:=by
 unfold letOwnedTupleGo;cases tg<;> first
  | exact way hQ
  | (cases u<;> first
      | exact way hQ
      | (refine wax (wpAny_load ho ?_)
         rw[hc,hd];show wpAny M A (if (["enumerate","zip","dict_itemiterator","dict_reverseitemiterator","odict_iterator","itertools.zip_longest","itertools.pairwise"].contains n&&vs[0]?==some (rawInt _))=true then _ else _) Q E s;rw[if_neg (by intro h;rw[hn,Bool.false_and] at h;cases h)];exact way hQ))
noncomputable def CY (K:PySem.W.Frag) (a:Addr):It:=
 ⟨λi H=>∃xs x,cU K H a xs/\xs[i]?=some x,λi H x H'=>H'=H/\∀xs,cU K H a xs->xs[i]?=some x,λi H=>∃xs,cU K H a xs/\xs.length<=i⟩
noncomputable def Dx (K:PySem.W.Frag) (a:Addr):It:=
 ⟨λi H=>∃xs x,cO K H a xs/\xs[i]?=some x,λi H x H'=>H'=H/\∀xs,cO K H a xs->xs[i]?=some x,λi H=>∃xs,cO K H a xs/\xs.length<=i⟩
noncomputable def CZ (lo:Int) (n:Nat):It:=⟨λi _=>i<n,λi H x H'=>H'=H/\x=.int (lo+i),λi _=>n<=i⟩
theorem qB {tg:Expr} (a it:Addr):lq P w K tg (CY K a) [it] it (λi h=>h.IsListIter it a i) where
 mem:=by simp
 obj:=λi h st b hb=>by
  have e:b=it:=by simpa using hb
  subst e;obtain⟨o,e,c,d⟩:=st;exact⟨o,e,λv z=>by rw[d] at z;cases z⟩
 keep:=λi h h' st k=>st.at λo e=>k it (by simp) o e
 item:=by
  intro X hP hw hK hc i π s σ H E I hf st hg;subst hP hw hK;obtain⟨xs,x,hq,hx⟩:=hg;obtain⟨its,rv,p,hz⟩:=I.list hq;obtain⟨u,hu,ru⟩:=rv.get hx;obtain⟨f0,f1,f2,f3,f4,f5⟩:=hf it (by simp);refine wpAny_pyNext_list_item st p.isList (x:=u) (by simpa using hu) λh' st' sb=>?_;have I1:aC X π σ H { s with heap:=h' }:=I.turned (t':=s.toks) (λb o hb e=>(sb.2 b hb).trans e) f0 f1 f3 f4 f5;obtain⟨o,e,c,d⟩:=id st';exact⟨u,rfl,kn (s:={ s with heap:=h' }) e c d (by decide) ⟨x,H,I1,ru,⟨rfl,λys hy=>by rw[I.list_inj hy hq];exact hx⟩,st',λb hb=>(hf b hb).1⟩⟩
 done:=by
  intro X hP hw hK hc i π s σ H E I hf st hg;subst hP hw hK;obtain⟨xs,hq,hx⟩:=hg;obtain⟨its,rv,p,hz⟩:=I.list hq;obtain⟨f0,f1,f2,f3,f4,f5⟩:=hf it (by simp);have hl:=rv.length;exact wpAny_pyNext_list_end (I.ok.hd hc) st p.isList (by simp;(clear hz f3;lia)) λh' eb=>⟨rfl,I.turned (t':=s.toks) (λb o hb e=>eb b o hb e) f0 f1 f3 f4 f5⟩
 self:=λ_ _ _ _ _ st h=>wpAny_pyIter_listiter st h
theorem nU {tg:Expr} (a it:Addr):lq P w K tg (Dx K a) [it] it (λi h=>h.IsTupleIter it a i) where
 mem:=by simp
 obj:=λi h st b hb=>by
  have e:b=it:=by simpa using hb
  subst e;obtain⟨o,e,c,d⟩:=st;exact⟨o,e,λv z=>by rw[d] at z;cases z⟩
 keep:=λi h h' st k=>st.at λo e=>k it (by simp) o e
 item:=by
  intro X hP hw hK hc i π s σ H E I hf st hg;subst hP hw hK;obtain⟨xs,x,hq,hx⟩:=hg;obtain⟨its,rv,p,hz⟩:=I.tuple hq;obtain⟨u,hu,ru⟩:=rv.get hx;obtain⟨f0,f1,f2,f3,f4,f5⟩:=hf it (by simp);refine wpAny_pyNext_tuple_item st (show s.heap.IsTuple a its.toArray from p) (x:=u) (by simpa using hu) λh' st' sb=>?_;have I1:aC X π σ H { s with heap:=h' }:=I.turned (t':=s.toks) (λb o hb e=>(sb.2 b hb).trans e) f0 f1 f3 f4 f5;obtain⟨o,e,c,d⟩:=id st';exact⟨u,rfl,kn (s:={ s with heap:=h' }) e c d (by decide) ⟨x,H,I1,ru,⟨rfl,λys hy=>by rw[I.tuple_inj hy hq];exact hx⟩,st',λb hb=>(hf b hb).1⟩⟩
 done:=by
  intro X hP hw hK hc i π s σ H E I hf st hg;subst hP hw hK;obtain⟨xs,hq,hx⟩:=hg;obtain⟨its,rv,p,hz⟩:=I.tuple hq;obtain⟨f0,f1,f2,f3,f4,f5⟩:=hf it (by simp);have hl:=rv.length;exact wpAny_pyNext_tuple_end (I.ok.hd hc) st (show s.heap.IsTuple a its.toArray from p) (by simp;(clear hz f3;lia)) λh' eb=>⟨rfl,I.turned (t':=s.toks) (λb o hb e=>eb b o hb e) f0 f1 f3 f4 f5⟩
 self:=λ_ _ _ _ _ st h=>wpAny_pyIter_tupleiter st h
theorem nV {tg:Expr} (it:Addr) (lo:Int) (n:Nat):lq P w K tg (CZ lo n) [it] it (λi h=>IsRangeIter h it (lo+(i:Nat)*1) ((n:Int)- (i:Nat)) 1) where
 mem:=by simp
 obj:=λi h st b hb=>by
  have e:b=it:=by simpa using hb
  subst e;exact⟨_,st,λv z=>by
   have z':Data.fields _=Data.cell v:=z;cases z'⟩
 keep:=λi h h' st k=>k it (by simp) _ st
 item:=by
  intro X hP hw hK hc i π s σ H E I hf st hg;subst hP hw hK;obtain⟨f0,f1,f2,f3,f4,f5⟩:=hf it (by simp);have W:=Walks.range (prog:=X.prog) (w:=X.w) (I.ok.hd hc) it lo 1 n;refine W.item i s _ _ hg st λv h' tk hv st' kk=>?_;obtain⟨t,rfl⟩:=hv;have I1:aC X π σ H { s with heap:=h',toks:=tk }:=I.turned (λb o hb e=>kk b o (by simpa using hb) e) f0 f1 f3 f4 f5;refine⟨_,rfl,kn (s:={ s with heap:=h',toks:=tk }) (n:="range_iterator") st' rfl rfl (by decide) ⟨.int (lo+i),H,I1,⟨t,?_⟩,⟨rfl,rfl⟩,st',λb hb=>(hf b hb).1⟩⟩;rw[Int.mul_one]
 done:=by
  intro X hP hw hK hc i π s σ H E I hf st hg;subst hP hw hK;obtain⟨f0,f1,f2,f3,f4,f5⟩:=hf it (by simp);exact wpAny_pyNext_range_end (I.ok.hd hc) st (by have:n<=i:=hg;(clear f3;lia)) λh' eb=>⟨rfl,I.turned (t':=s.toks) (λb o hb e=>eb b o hb e) f0 f1 f3 f4 f5⟩
 self:=λ_ _ _ _ _ st h=>wpAny_pyIter_rangeiter st h
section
variable {X:Cx} {tg:Expr}
theorem rN {σ:St} {H:Hp} {R:It->Hp->Prop} {lo hi:Int} {t u v:Tok} {tk:Nat} (I:aC X π σ H s) (h1: -(2^62)<=lo) (h2:lo<2^62) (h3: -(2^62)<=hi) (h4:hi<2^62)
 (q:R (CZ lo (hi-lo).toNat) H):wpAny (model X.prog X.w) X.A (pyIter (.ref s.heap.objs.size)) (Fb X π σ tg R) E { s with heap:=s.heap.push { cls:= .type "range",data:= .fields #[.int lo t,.int hi u,.int 1 v] },toks:=tk }:=by
 refine wpAny_pyIter_range (IsRange.new ..) (small_one h1 h2 h3 h4) ?_;have I1:aC X π σ H { s with heap:=s.heap.push { cls:= .type "range",data:= .fields #[.int lo t,.int hi u,.int 1 v] },toks:=tk }:=I.kept λb o e=>Heap.get?_push_of_some _ e;refine⟨(s.heap.push { cls:= .type "range",data:= .fields #[.int lo t,.int hi u,.int 1 v] }).objs.size,[(s.heap.push { cls:= .type "range",data:= .fields #[.int lo t,.int hi u,.int 1 v] }).objs.size],_,_,H,rfl,
  I1.kept (t':=tk) λb o e=>Heap.get?_push_of_some _ e,nV _ lo (hi-lo).toNat,?_,λb hb=>?_,q⟩
 ·have e1:lo+((0:Nat):Int)*1=lo:=by simp
  have e2:(((hi-lo).toNat:Nat):Int)- ((0:Nat):Int)=Builtin.Range.rangeSize lo hi 1:=by rw[rangeSize_one];split<;> (clear h1 h2 h3 h4 e1;lia)
  show IsRangeIter _ _ (lo+((0:Nat):Int)*1) ((((hi-lo).toNat:Nat):Int)- ((0:Nat):Int)) 1;rw[e1,e2];exact Heap.get?_push_size _ rfl
 ·have e:b=(s.heap.push { cls:= .type "range",data:= .fields #[.int lo t,.int hi u,.int 1 v] }).objs.size:=by simpa using hb
  subst e;exact I1.fpOk (le_refl _) (I1.hok.fresh (le_refl _))
noncomputable def AY (ta:TA):TI:=λσ H R=>ta σ H λvs H1=>∃j:Int,vs=[.int j]/\-(2^62)<=j/\j<2^62/\R (CZ 0 j.toNat) H1
theorem qC {a:Expr} {ta:TA} {p pos:Pos} (hg:Gl X "range") (hm:X.mg "range"=none) (ha:PA X [a] ta) (hs:starEach [a] X.env=[(false,eval a X.env)]:=by rfl):PI X tg (.Call (.Name "range" p) [a] [] pos) (AY ta):=by
 intro π s σ H R I h;refine Call_ (fU I hg hm boot_range (PyProof.Rows.callWith_type1 (bV (ha pos π s σ H _ I h) λus s1 z9=>?_) hs rfl));obtain⟨vs,H1,I1,r1,q1⟩:=z9;obtain⟨j,e,q1,q2,q⟩:=q1;subst e;cases r1 with
 | cons r rr=>
   cases rr;obtain⟨t,rfl⟩:=r;exact call_range_1 (rN I1 (by (clear q1 q2;lia)) (by (clear q1 q2;lia)) q1 q2 (by simpa using q))
noncomputable def Dy (wi:TI) (g:TG) (tb:TS):TS:=λD σ H=>wi σ H λJ H1=>∃W:Nat->Nat->St->Hp->Prop,(∃m,W 0 m σ H1)/\∀i m σ H,W i m σ H->
 (J.stop i H/\D.nx σ H)∨(J.go i H/\∃N:St->Hp->Prop,(∀σ' H',N σ' H'->∃m',m'<m/\W (i+1) m' σ' H')/\∀x H',J.yld i H x H'->g x σ H' λσ2 H2=>tb { D with nx:=N,ct:=N,bk:=D.nx } σ2 H2)
noncomputable def jf (fp:List Addr) (h:Heap):List (Addr×Obj):=fp.filterMap λb=>(h.get? b).map λo=>(b,o)
theorem dj {fp:List Addr} {h:Heap} {b:Addr} {o:Obj} (hb:b∈fp) (e:h.get? b=some o):(b,o)∈jf fp h:=List.mem_filterMap.mpr ⟨b,hb,by rw[e];rfl⟩
theorem qD {fp:List Addr} {h:Heap} {p:Addr×Obj} (hp:p∈jf fp h):p.1∈fp/\h.get? p.1=some p.2:=by
 obtain⟨b,hb,e⟩:=List.mem_filterMap.mp hp;cases q:h.get? b with
 | none=>rw[q] at e;cases e
 | some o=>
   rw[q] at e;have e':(b,o)=p:=Option.some.inj e;subst e';exact⟨hb,q⟩
theorem aC.pinned {σ:St} {H:Hp} {fp:List Addr} (I:aC X π σ H s) (hf:∀b∈fp,iM X π H b) (ho:∀b∈fp,∃o,s.heap.get? b=some o/\∀v,o.data≠ .cell v):aC X (π++jf fp s.heap) σ H s:=
 I.pins_of λp hp=>(mem_append.mp hp).elim (λz=>I.pin p (mem_append_right _ z)) λz=>by
  obtain⟨hb,e⟩:=qD z;obtain⟨f0,f1,f2,_⟩:=hf p.1 hb;obtain⟨o,e',d⟩:=ho p.1 hb;rw[e] at e';cases e';exact⟨e,f0,f1,f2,d⟩
theorem aC.unpinned {π pl:List (Addr×Obj)} {σ:St} {H:Hp} (I:aC X (π++pl) σ H s):aC X π σ H s:=I.pins_of λp hp=>I.pin p (mem_append_right _ (mem_append_left _ hp))
theorem yD {iter:Expr} {wi:TI} {g:TG} {tb:TS} (hp:PassesOwn (model X.prog X.w) X.A X.env X.xe) (hc:X.calm=true) (hi:PI X tg iter wi) (hg:PG X tg g) (hb:mv X body tb)
 (hs:∀x,foldedSetIterable iter X.env x=pure x:=by intro _;rfl):PS X (.For tg iter body [] pos) (Dy wi g tb):=by
 intro π s σ H D I h;refine wpAny_For (bV (hi π s σ H _ I h) λv s1 h1=>bV h1 λitv s2 h2=>?_) hs;obtain⟨it,fp,tn,J,H2,e,I2,T,st2,f2,W,⟨m0,w0⟩,turn⟩:=h2;subst e
 -- what stays true of the iterator's objects through the loop
 have stat:∀{H':Hp},(∀b∈fp,H' b=none)->∀b∈fp,iM X π H' b:=λhn b hb=>⟨hn b hb,(f2 b hb).2⟩;refine codeAny_forLoop_any (λn s'=>∃i σ' H',aC X π σ' H' s'/\tn i s'.heap/\(∀b∈fp,H' b=none)/\W i n σ' H') ?_ m0 ⟨0,σ,H2,I2,st2,λb hb=>(f2 b hb).1,w0⟩;rintro n s3 ⟨i,σ3,H3,I3,st3,fr3,w3⟩;rcases turn i n σ3 H3 w3 with⟨stop,qn⟩ | ⟨go,N,hN,step⟩
 ·refine wpAny_passesOwn hp (bV (T.done X rfl rfl rfl hc i π s3 σ3 H3 X.xe I3 (stat fr3) st3 stop) λr s4 z9=>?_);obtain⟨hr,I4⟩:=z9;subst hr;exact wpAny_execs_nil ⟨σ3,H3,I4,qn⟩
 ·refine wpAny_passesOwn hp (bV (T.item X rfl rfl rfl hc i π s3 σ3 H3 X.xe I3 (stat fr3) st3 go) λr s4 z9=>?_);obtain⟨u,hr,h4⟩:=z9;subst hr;refine wpAny_passesOwn hp (bV h4 λ_ s5 z9=>?_);obtain⟨x,H5,I5,r5,y5,st5,fr5⟩:=z9;have I5':=I5.pinned (stat fr5) (T.obj _ _ st5);refine wpAny_passesOwn hp (bV (hg _ s5 σ3 H5 x u _ I5' r5 (step x H5 y5)) λ_ s6 z9=>?_);obtain⟨σ6,H6,I6,q6⟩:=z9;refine wpAny_passesOwn hp (bV (hb _ s6 σ6 H6 _ I6 q6) λf s7 q7=>?_);have again:∀{σ7:St} {H7:Hp},aC X (π++jf fp s5.heap) σ7 H7 s7->N σ7 H7->∃m,m<n/\∃i σ' H',aC X π σ' H' s7/\tn i s7.heap/\(∀b∈fp,H' b=none)/\W i m σ' H':=λ{σ7 H7} I7 n7=>by
   obtain⟨m',hm,w7⟩:=hN σ7 H7 n7;refine⟨m',hm,i+1,σ7,H7,I7.unpinned,T.keep _ _ _ st5 λb hb o e=>(I7.pin (b,o) (mem_append_right _ (mem_append_right _ (dj hb e)))).1,λb hb=>?_,w7⟩;obtain⟨o,e,d⟩:=T.obj _ _ st5 b hb;exact(I7.pin (b,o) (mem_append_right _ (mem_append_right _ (dj hb e)))).2.1
  cases f with
  | next=>obtain⟨σ7,H7,I7,n7⟩:=q7;exact again I7 n7
  | cont=>obtain⟨σ7,H7,I7,n7⟩:=q7;exact again I7 n7
  | brk=>obtain⟨σ7,H7,I7,q7⟩:=q7;exact⟨σ7,H7,I7.unpinned,q7⟩
  | ret v=>obtain⟨x7,σ7,H7,I7,r7,q7⟩:=q7;exact⟨x7,σ7,H7,I7.unpinned,r7,q7⟩
end
noncomputable abbrev R2:=V->V->Hp->VK->Prop
noncomputable def iS (X:Cx) (f:Value->Value->Sem Value) (r:R2):Prop:=
 ∀(π:List (Addr×Obj)) (s:Shared) (σ:St) (H:Hp) (x y:V) (v u:Value) (Q:VK),aC X π σ H s->bf x v->bf y u->r x y H Q->
  wpAny (model X.prog X.w) X.A (f v u) (EP X π σ Q) X.xe s
noncomputable def Dz (X:Cx) (f:Value->Sem Value) (r:V->Hp->VK->Prop):Prop:=
 ∀(π:List (Addr×Obj)) (s:Shared) (σ:St) (H:Hp) (x:V) (v:Value) (Q:VK),aC X π σ H s->bf x v->r x H Q->
  wpAny (model X.prog X.w) X.A (f v) (EP X π σ Q) X.xe s
noncomputable def eZ (X:Cx) (f:Value) (r:List V->Hp->VK->Prop):Prop:=
 ∀(π:List (Addr×Obj)) (s:Shared) (σ:St) (H:Hp) (xs:List V) (us:List Value) (Q:VK),aC X π σ H s->aX xs us->r xs H Q->
  wpAny (model X.prog X.w) X.A (call f us) (EP X π σ Q) X.xe s
noncomputable def AZ (r:R2) (ta tb:TE):TE:=λσ H Q=>ta σ H λx H1=>tb σ H1 λy H2=>r x y H2 Q
noncomputable def Fy (r:V->Hp->VK->Prop) (ta:TE):TE:=λσ H Q=>ta σ H λx H1=>r x H1 Q
noncomputable def rI (C:Int->Int->Prop) (g:Int->Int->V):R2:=λx y H Q=>∃i j,x=.int i/\y=.int j/\C i j/\Q (g i j) H
noncomputable def vp (g:Int->Int->V):R2:=λx y H Q=>∃i j,x=.int i/\y=.int j/\Q (g i j) H
noncomputable def rU (g:Int->V):V->Hp->VK->Prop:=λx H Q=>∃i,x=.int i/\Q (g i) H
section
variable {X:Cx} {a b c:Expr} {ta tb tc:TE} {pos:Pos}
theorem yE (ha:PE X a ta) (hb:PE X b tb) {σ:St} {H:Hp} {R:V->V->Hp->Prop} (I:aC X π σ H s)
 (h:ta σ H λx H1=>tb σ H1 λy H2=>R x y H2) {Q:Value->Shared->Prop} {f:Value->Value->Sem Value}
 (hf:∀v u s2 x y H2,aC X π σ H2 s2->bf x v->bf y u->R x y H2->wpAny (model X.prog X.w) X.A (f v u) Q X.xe s2):
 wpAny (model X.prog X.w) X.A (eval a X.env) (λv s₁=>wpAny (model X.prog X.w) X.A (eval b X.env) (λu s₂=>wpAny (model X.prog X.w) X.A (f v u) Q X.xe s₂) X.xe s₁) X.xe s:=by
 refine bV (ha π s σ H _ I h) λv s1 z9=>?_;obtain⟨x,H1,I1,r1,q1⟩:=z9;refine bV (hb π s1 σ H1 _ I1 q1) λu s2 z9=>?_;obtain⟨y,H2,I2,r2,q2⟩:=z9;exact hf v u s2 x y H2 I2 r1 r2 q2
theorem A2 {op:Operator} {r:R2} (ho:iS X (binaryOp op) r) (ha:PE X a ta) (hb:PE X b tb):PE X (.BinOp a op b pos) (AZ r ta tb):=by
 intro π s σ H Q I h;exact wpAny_BinOp (yE ha hb I h λv u s2 x y H2 I2 rx ry q=>ho π s2 σ H2 x y v u Q I2 rx ry q)
theorem A3 {op:UnaryOp} {r:V->Hp->VK->Prop} (ho:Dz X (unaryOp op) r) (ha:PE X a ta):PE X (.UnaryOp op a pos) (Fy r ta):=by
 intro π s σ H Q I h;exact UnaryOp_ (bV (ha π s σ H _ I h) λv s1 ⟨x,H1,I1,r1,q1⟩=>ho π s1 σ H1 x v Q I1 r1 q1)
theorem C0 {f:Value->Value->Sem Value} {C:Int->Int->Prop} {g:Int->Int->Int}
 (rule:∀(i j:Int) (t u:Tok) (s:Shared) (Q:Value->Shared->Prop) (E:Value->Shared->Prop),C i j->Q (.int (g i j) s.toks) { s with toks:=s.toks+1 }->wpAny (model X.prog X.w) X.A (f (.int i t) (.int j u)) Q E s):
 iS X f (rI C λi j=> .int (g i j)):=by
 intro π s σ H x y v u Q I rx ry h;obtain⟨i,j,rfl,rfl,hc,q⟩:=h;obtain⟨t,rfl⟩:=rx;obtain⟨t',rfl⟩:=ry;exact rule i j t t' s _ _ hc ⟨.int (g i j),H,I.tok _,⟨_,rfl⟩,q⟩
theorem A4 {f:Value->Value->Sem Value} {g:Int->Int->Int}
 (rule:∀(i j:Int) (t u:Tok) (s:Shared) (Q:Value->Shared->Prop) (E:Value->Shared->Prop),Q (.int (g i j) s.toks) { s with toks:=s.toks+1 }->wpAny (model X.prog X.w) X.A (f (.int i t) (.int j u)) Q E s):
 iS X f (vp λi j=> .int (g i j)):=by
 intro π s σ H x y v u Q I rx ry h;obtain⟨i,j,rfl,rfl,q⟩:=h;obtain⟨t,rfl⟩:=rx;obtain⟨t',rfl⟩:=ry;exact rule i j t t' s _ _ ⟨.int (g i j),H,I.tok _,⟨_,rfl⟩,q⟩
theorem vq {f:Value->Value->Sem Value} {g:Int->Int->Bool}
 (rule:∀(i j:Int) (t u:Tok) (s:Shared) (Q:Value->Shared->Prop) (E:Value->Shared->Prop),Q (.bool (g i j)) s->wpAny (model X.prog X.w) X.A (f (.int i t) (.int j u)) Q E s):
 iS X f (vp λi j=> .bl (g i j)):=by
 intro π s σ H x y v u Q I rx ry h;obtain⟨i,j,rfl,rfl,q⟩:=h;obtain⟨t,rfl⟩:=rx;obtain⟨t',rfl⟩:=ry;exact rule i j t t' s _ _ ⟨.bl (g i j),H,I,rfl,q⟩
noncomputable def A5 (i j:Int):Prop:=0<j/\j<1073741824
noncomputable def yF (i j:Int):Prop:=0<=j/\j<=1000000/\i.natAbs<2^64
noncomputable def vt (i j:Int):Prop:=(-(2^64)<i/\i<2^64)∨(-(2^64)<j/\j<2^64)
theorem vt.ok {i j:Int} (h:vt i j):IntMulOk i j:=by
 rcases h with⟨h1,h2⟩ | ⟨h1,h2⟩
 ·exact .of_left (intBits_le_64 h1 h2)
 ·exact .of_right (intBits_le_64 h1 h2)
theorem yG:iS X (binaryOp .Add) (vp λi j=> .int (i+j)):=A4 λ_ _ _ _ _ _ _ q=>add_int q
theorem yH:iS X (binaryOp .Sub) (vp λi j=> .int (i-j)):=A4 λ_ _ _ _ _ _ _ q=>sub_int q
theorem yI:iS X (binaryOp .Mod) (rI (λ_ j=>0<j) λi j=> .int (i%j)):=C0 λi j _ _ _ _ _ hc q=>by
 have h1:(0:Int)<j:=hc;exact mod_int' (by (clear h1;lia)) (by rw[Int.fmod_eq_emod_of_nonneg i (by (clear h1;lia))];exact q)
theorem Fz {f:Value->Sem Value} {g:Int->Int}
 (rule:∀(i:Int) (t:Tok) (s:Shared) (Q:Value->Shared->Prop) (E:Value->Shared->Prop),Q (.int (g i) s.toks) { s with toks:=s.toks+1 }->wpAny (model X.prog X.w) X.A (f (.int i t)) Q E s):
 Dz X f (rU λi=> .int (g i)):=by
 intro π s σ H x v Q I rx h;obtain⟨i,rfl,q⟩:=h;obtain⟨t,rfl⟩:=rx;exact rule i t s _ _ ⟨.int (g i),H,I.tok _,⟨_,rfl⟩,q⟩
theorem yJ:Dz X (unaryOp .USub) (rU λi=> .int (-i)):=Fz λ_ _ _ _ _ q=>neg_int q
end
section
variable {X:Cx} {a b c:Expr} {ta tb tc:TE} {pos:Pos}
theorem A6:iS X (compareOp .Lt) (vp λi j=> .bl (decide (i<j))):=vq λ_ _ _ _ _ _ _ q=>lt_int q
theorem A7:iS X (compareOp .LtE) (vp λi j=> .bl (decide (i<=j))):=vq λ_ _ _ _ _ _ _ q=>le_int q
theorem A8:iS X (compareOp .Gt) (vp λi j=> .bl (decide (j<i))):=vq λ_ _ _ _ _ _ _ q=>gt_int q
theorem A9:iS X (compareOp .GtE) (vp λi j=> .bl (decide (j<=i))):=vq λ_ _ _ _ _ _ _ q=>ge_int q
theorem rO (b:Expr) {op:CmpOp} (h:op≠ .In:=by decide) (h2:op≠ .NotIn:=by decide):behindInMarks op b=false:=by
 have e1:(op==CmpOp.In)=false:=by cases op<;> first | rfl | exact absurd rfl h
 have e2:(op==CmpOp.NotIn)=false:=by cases op<;> first | rfl | exact absurd rfl h2
 cases b<;> simp[behindInMarks,e1,e2]
theorem vv {op:CmpOp} {r:R2} (ho:iS X (compareOp op) r) (ha:PE X a ta) (hb:PE X b tb) (hm:behindInMarks op b=false):PE X (.Compare a [op] [b] pos) (AZ r ta tb):=by
 intro π s σ H Q I h;exact wpAny_Compare1 (yE ha hb I h λv u s2 x y H2 I2 rx ry q=>ho π s2 σ H2 x y v u Q I2 rx ry q) hm
noncomputable def xG (t:TE):TT:=λσ H Q=>t σ H λx H'=>∃k,x=.bl k/\Q k H'
theorem vw {op:CmpOp} {r:R2} (ho:iS X (compareOp op) r) (ha:PE X a ta) (hb:PE X b tb) (hm:behindInMarks op b=false):PT X (.Compare a [op] [b] pos) (xG (AZ r ta tb)):=by
 intro π s σ H Q I h;refine wpAny_isTrue_Compare1 (bV (ha π s σ H _ I h) λv s1 ⟨x,H1,I1,r1,q1⟩=>bV (hb π s1 σ H1 _ I1 q1) λu s2 ⟨y,H2,I2,r2,q2⟩=>
  bV (ho π s2 σ H2 x y v u _ I2 r1 r2 q2) λc s3 ⟨z,H3,I3,r3,k,e,q3⟩=>?_) hm
 subst e;cases r3;exact wpAny_truthy_bool ⟨H3,I3,q3⟩
theorem jg:(sizeLine:Nat)<2^63:=by rw[sizeLine_eq];decide
theorem nW:iS X (binaryOp .Add) (λx y H Q=>∃i j,x=.str i/\y=.str j/\i.length+j.length<=sizeLine/\Q (.str (i++j)) H):=by
 intro π s σ H x y v u Q I rx ry h;obtain⟨i,j,rfl,rfl,hz,q⟩:=h;obtain⟨t,rfl⟩:=rx;obtain⟨t',rfl⟩:=ry;exact add_str (λt' tk=>⟨.str (i++j),H,I.tok _,⟨_,rfl⟩,q⟩) hz
theorem eU {x:V} (r:aX [x] us):∃u,us=[u]/\bf x u:=by
 cases r with
 | cons r1 r2=>cases r2;exact⟨_,rfl,r1⟩
theorem mz {x y:V} (r:aX [x,y] us):∃u w',us=[u,w']/\bf x u/\bf y w':=by
 cases r with
 | cons r1 r2=>
   cases r2 with
   | cons r3 r4=>cases r4;exact⟨_,_,rfl,r1,r3⟩
theorem qE (hc:X.calm=true):eZ X (.builtin "max") (λxs H Q=>∃i j,xs=[.int i,.int j]/\Q (.int (if j > i then j else i)) H):=by
 intro π s σ H xs us Q I r h;obtain⟨i,j,rfl,q⟩:=h;obtain⟨u,w',rfl,⟨t,rfl⟩,⟨t',rfl⟩⟩:=mz r;refine max_two_ints (I.ok.hd hc) λh' tk k=>⟨_,H,I.kept k,?_,q⟩
 by_cases hj:j > i
 ·rw[if_pos hj,if_pos hj];exact⟨_,rfl⟩
 ·rw[if_neg hj,if_neg hj];exact⟨_,rfl⟩
theorem qF (hc:X.calm=true):eZ X (.builtin "min") (λxs H Q=>∃i j,xs=[.int i,.int j]/\Q (.int (if j<i then j else i)) H):=by
 intro π s σ H xs us Q I r h;obtain⟨i,j,rfl,q⟩:=h;obtain⟨u,w',rfl,⟨t,rfl⟩,⟨t',rfl⟩⟩:=mz r;refine min_two_ints (I.ok.hd hc) λh' tk k=>⟨_,H,I.kept k,?_,q⟩
 by_cases hj:j<i
 ·rw[if_pos hj,if_pos hj];exact⟨_,rfl⟩
 ·rw[if_neg hj,if_neg hj];exact⟨_,rfl⟩
theorem ko:eZ X (.type "int") (λxs H Q=>(∃i,xs=[.int i]/\Q (.int i) H)∨∃k,xs=[.bl k]/\Q (.int (if k then 1 else 0)) H):=by
 intro π s σ H xs us Q I r h;rcases h with⟨i,rfl,q⟩ | ⟨k,rfl,q⟩
 ·obtain⟨u,rfl,t,rfl⟩:=eU r;exact call_int_int ⟨.int i,H,I,⟨_,rfl⟩,q⟩
 ·obtain⟨u,rfl,r1⟩:=eU r;cases r1;exact call_int_bool ⟨.int (if k then 1 else 0),H,I.tok _,⟨_,rfl⟩,q⟩
end
structure nX (h:Heap) (x dx C:Addr) (mA:Str->Option Value):Prop where
 obj:h.get? x=some (instObj C dx)
 ns:h.Ns1 dx mA
 ne:dx≠x
theorem qG {h:Heap} {dx:Addr} {mA:Str->Option Value} (n:h.Ns1 dx mA):∃od,h.get? dx=some od/\∀name,lookIn name od=some (mA name):=by
 obtain⟨o,es,ep,ho,hd,hk,_,hm⟩:=n;refine⟨o,ho,λname=>?_⟩;have e:=hm name;unfold nsFind findBy at e;rw[←Array.find?_toList] at e;unfold lookIn;rw[hd];dsimp only;split
 ·rename_i y q;rw[q] at e;exact congrArg some e
 ·rename_i q;rw[q] at e;have a:es.toList.any (·.refKey)=false:=by
   rw[List.any_eq_false];intro y hy;obtain⟨z,t,hkey⟩:=hk y (Array.mem_toList_iff.mp hy);simp[DictEntry.refKey,hkey]
  have a':¬es.toList.any (·.refKey)=true:=by rw[a];exact Bool.false_ne_true
  rw[if_neg a'];exact congrArg some e
theorem nX.look {h:Heap} {x dx C:Addr} {mA:Str->Option Value} (I:nX h x dx C mA):∃od,PySem.W.InstAt h x (instObj C dx) C (some od)/\∀name,lookIn name od=some (mA name):=
 let ⟨od,ho,hl⟩:=qG I.ns
 ⟨od,⟨I.obj,rfl,rfl,ho⟩,hl⟩
section
variable {prog:Program} {w:World} {A:Around} {E:Value->Shared->Prop} {s:Shared} {K:PySem.W.Frag} {x dx C f:Addr} {mA:Str->Option Value} {name:Str} {v:Value}
theorem vx {expr:Bool} (X:K.In s.heap) (I:nX s.heap x dx C mA) (hg:plainGet K C name=true) (hh:hasDictIn K C=true)
 (ha:findIn K (.ref C) name=some none) (hv:mA name=some v) (hv':PySem.W.handedIn v=true) (h:Q v { s with toks:=s.toks+1 }):
 wpAny (model prog w) A (getAttr (.ref x) name expr) Q E s:=by
 obtain⟨od,J,hl⟩:=I.look;exact PySem.W.get_value X J (PySem.W.plainGet_of hg).1 (PySem.W.findObj_own hh ha rfl (by rw[hl,hv])) hv' h
theorem rP {pl:Sem Bool} {Q:Value×List Value->Shared->Prop} (X:K.In s.heap) (I:nX s.heap x dx C mA) (hg:plainGet K C name=true)
 (hf:findIn K (.ref C) name=some (some (.ref f))) (ht:isFn K (.ref f)=true) (hv:mA name=none) (h:Q (.ref f,[.ref x]) s):
 wpAny (model prog w) A (getMethod (.ref x) name pl) Q E s:=by
 obtain⟨od,J,hl⟩:=I.look;exact PySem.W.method_fn X J (PySem.W.plainGet_of hg).1 (PySem.W.plainGet_of hg).2 hf (beq_iff_eq.mp ht) (by show(lookIn name od).map (·.isSome)=some false;rw[hl,hv];rfl) h
theorem vy {ns:List Str} {Q:Unit->Shared->Prop} (X:K.In s.heap) (I:nX s.heap x dx C mA)
 (hs:findIn K (.ref C) "__setattr__"=some (some (.builtin "object.__setattr__"))) (hp:plainOver K C=true) (ht:PySem.W.takerIn K C name=some none) (hh:hasDictIn K C=true)
 (hw:PySem.Within mA ns) (hsz:ns.length<=sizeLine)
 (h:∀h',nX h' x dx C (λy=>if y=name then some v else mA y)->Heap.SameBut dx s.heap h'->Q () { s with heap:=h',toks:=s.toks+2 }):
 wpAny (model prog w) A (setAttr (.ref x) name v) Q E s:=by
 obtain⟨od,J,hl⟩:=I.look;refine PySem.W.set_plain X J hs (PySem.W.osa_open (s:={ s with toks:=s.toks+1 }) (r:=none) X J hp ht λb=>?_);obtain⟨cd,hc,hd'⟩:=PySem.W.any_some hh;have hx:s.heap.get? x=some ⟨.ref C,some dx,.plain,#[]⟩:=I.obj;refine wax (way (wax (wax (wpAny_loadPart hx (wax (PySem.W.Looks.here (s:={ s with toks:=s.toks+1 }) (PySem.W.looks_clsIn X hc) ?_))))));rw[hd'];refine way (a:=some dx) (wax (way (wax ?_)));refine wpAny_nsSet1 (s:={ s with toks:=s.toks+1 }) I.ns λh' hn2 hs2=>?_;obtain⟨oD,esD,epD,hoD,hdD,hcD⟩:=hn2.count (PySem.Within.cons name v hw);refine wax (wpAny_lookBehind hoD (by rw[hdD];exact pastItsLine_dict (le_trans hcD (by rw[length_cons];(clear hcD;lia)))) ?_);exact way (h _ ⟨(hs2.2 _ (Ne.symm I.ne)).trans I.obj,hn2,I.ne⟩ hs2)
theorem rQ {R:Result->Shared->Prop} {vs:List Value} {kw:List (Str×Value)} (X:K.In s.heap) (hm:makesIn K C=true)
 (hi:findIn K (.ref C) "__init__"=some (some (.ref f))) (hf:typeIn K (.ref f)=some (.type "function"))
 (h:codeAny (model prog w) (A.under (.builtin "type.__call__" ⟨.ref C::vs,kw⟩)) (.call (.ref f) ⟨.ref (s.heap.objs.size+1)::vs,kw⟩) (PySem.W.InitBack (s.heap.objs.size+1) R)
   { s with heap:=(s.heap.push emptyDict).push (instObj C s.heap.objs.size) }):
 codeAny (model prog w) A (.call (.ref C) ⟨vs,kw⟩) R s:=by
 obtain⟨hh,g,d,t,os⟩:=s;exact PySem.W.make_core (PySem.W.makes_of X hm) (PySem.W.looks_findIn X hi) (λself=>PySem.W.bind_fn X self hf) (.inl rfl) h
end
noncomputable def d9 (f:Str) (v:V):List (Str×V)->List (Str×V)
 | []=>[(f,v)]
 | (g,x)::r=>if g=f then (g,v)::r else (g,x)::d9 f v r
theorem iy (f g:Str) (v:V):∀fs:List (Str×V),(d9 f v fs).lookup g=if g=f then some v else fs.lookup g
 | []=>by
   show List.lookup g [(f,v)]=_
   by_cases h:g=f
   ·have hb:(g==f)=true:=beq_iff_eq.mpr h;simp only[List.lookup,hb,if_pos h]
   ·have hb:(g==f)=false:=beq_eq_false_iff_ne.mpr h;simp only[List.lookup,hb,if_neg h]
 | (k,x)::r=>by
   have ih:=iy f g v r;rw[show d9 f v ((k,x)::r)=(if k=f then (k,v)::r else (k,x)::d9 f v r) from rfl]
   by_cases hk:k=f
   ·rw[if_pos hk]
    by_cases h:g=k
    ·have hb:(g==k)=true:=beq_iff_eq.mpr h;simp only[List.lookup,hb,if_pos (h.trans hk)]
    ·have hb:(g==k)=false:=beq_eq_false_iff_ne.mpr h;simp only[List.lookup,hb,if_neg (λe:g=f=>h (e.trans hk.symm))]
   ·rw[if_neg hk]
    by_cases h:g=k
    ·have hb:(g==k)=true:=beq_iff_eq.mpr h;simp only[List.lookup,hb,if_neg (λe:g=f=>hk (h.symm.trans e))]
    ·have hb:(g==k)=false:=beq_eq_false_iff_ne.mpr h;simp only[List.lookup,hb];exact ih
theorem gY (f:Str) (v:V):∀fs:List (Str×V),f∈(d9 f v fs).map (·.1)/\∀g,g∈fs.map (·.1)->g∈(d9 f v fs).map (·.1)
 | []=>⟨by simp[d9],λg h=>by simp at h⟩
 | (k,x)::r=>by
   obtain⟨i1,i2⟩:=gY f v r;rw[show d9 f v ((k,x)::r)=(if k=f then (k,v)::r else (k,x)::d9 f v r) from rfl]
   by_cases hk:k=f
   ·rw[if_pos hk];subst hk;exact⟨by simp,λg h=>by simpa using h⟩
   ·rw[if_neg hk];refine⟨?_,λg h=>?_⟩
    ·rw[map_cons];exact mem_cons_of_mem _ i1
    ·rw[map_cons] at h ⊢;rcases mem_cons.mp h with e | e
     ·exact mem_cons.mpr (.inl e)
     ·exact mem_cons_of_mem _ (i2 g e)
theorem iz (f:Str) (v:V):∀fs:List (Str×V),(d9 f v fs).length<=fs.length+1
 | []=>by simp[d9]
 | (k,x)::r=>by
   have ih:=iz f v r;rw[show d9 f v ((k,x)::r)=(if k=f then (k,v)::r else (k,x)::d9 f v r) from rfl]
   by_cases hk:k=f
   ·rw[if_pos hk,length_cons,length_cons];(clear ih;lia)
   ·rw[if_neg hk,length_cons,length_cons];lia
theorem fT.some_of {v:V} {o:Option Value} (r:fT (some v) o):∃u,o=some u/\bf v u:=by
 cases o with
 | none=>exact(show False from r).elim
 | some u=>exact⟨u,rfl,r⟩
theorem fT.none_of {o:Option Value} (r:fT none o):o=none:=by
 cases o with
 | none=>rfl
 | some u=>exact(show False from r).elim
theorem qH {v:V} (r:bf v u):PySem.W.handedIn u=true:=by
 cases v with
 | non=>cases (show u=Value.none from r);rfl
 | bl b=>cases (show u=Value.bool b from r);rfl
 | int i=>obtain⟨t,e⟩:=(show ∃t,u=Value.int i t from r);cases e;rfl
 | str x=>obtain⟨t,e⟩:=(show ∃t,u=Value.str x t from r);cases e;rfl
 | byt b=>obtain⟨t,e⟩:=(show ∃t,u=Value.bytes b t from r);cases e;rfl
 | flt b=>obtain⟨t,e⟩:=(show ∃t,u=Value.float b t from r);cases e;rfl
 | ref a=>cases (show u=Value.ref a from r);rfl
 | ty n=>cases (show u=Value.type n from r);rfl
section
variable {P:Program} {w:World} {H H':Hp} {h h':Heap} {a C dx:Addr} {fs fs':List (Str×V)}
theorem iT (hok:fJ P w H h) (e:H a=some (.ins C dx fs)):∃mA,nX h a dx C mA/\(∀f,fT (fs.lookup f) (mA f))/\PySem.Within mA (fs.map (·.1))/\fs.length<=1000/\H dx=some (.own a):=by
 obtain⟨d,z,ne,ob,mA,n,r,q⟩:=(show bB P w H h a (.ins C dx fs) from hok a _ e);exact⟨mA,⟨ob,n,ne⟩,r,q,z,d⟩
end
structure cV (K:PySem.W.Frag) (C:Addr):Prop where
 pg:plainGet K C Str.empty=true
 hd:hasDictIn K C=true
 po:plainOver K C=true
 sa:findIn K (.ref C) "__setattr__"=some (some (.builtin "object.__setattr__"))
theorem cV.get {C:Addr} (c:cV K C) (f:Str):plainGet K C f=true:=c.pg
noncomputable def ay (K:PySem.W.Frag) (C:Addr) (f:Str):Prop:=findIn K (.ref C) f=some none
theorem ay.taker {C:Addr} {f:Str} (n:ay K C f):PySem.W.takerIn K C f=some none:=by
 unfold PySem.W.takerIn;rw[show findIn K (.ref C) f=some none from n]
 rfl
structure FK (K:PySem.W.Frag) (C:Addr) (f:Str) (v:V) (u:Value):Prop where
 at_:findIn K (.ref C) f=some (some u)
 rel:bf v u
 get:PySem.W.specialIn K u "__get__"=some none
 cp:PySem.W.copiedNames.contains f=false
structure qI (K:PySem.W.Frag) (C:Addr) (m:Str) (f:Addr):Prop where
 at_:findIn K (.ref C) m=some (some (.ref f))
 fn:isFn K (.ref f)=true
 kp:keepIn K (.ref f)=true
section
variable {X:Cx} {π:List (Addr×Obj)} {σ:St} {H:Hp} {s:Shared} {a C dx:Addr} {fs:List (Str×V)} {f:Str} {v:V} {A:Around} {E:Value->Shared->Prop}
theorem nY {b:Bool} (I:aC X π σ H s) (e:H a=some (.ins C dx fs)) (c:cV X.K C) (n:ay X.K C f) (l:fs.lookup f=some v)
 (h:∀u s',aC X π σ H s'->bf v u->Q u s'):wpAny (model X.prog X.w) A (getAttr (.ref a) f b) Q E s:=by
 obtain⟨mA,O,r,_,_,_⟩:=iT I.hok e;obtain⟨u,hu,ru⟩:=fT.some_of (v:=v) (o:=mA f) (by rw[←l];exact r f);exact vx I.kIn O (c.get f) c.hd n hu (qH ru) (h u _ (I.tok _) ru)
theorem jh {m:Str} {g:Addr} {pl:Sem Bool} {Q:Value×List Value->Shared->Prop} (I:aC X π σ H s) (e:H a=some (.ins C dx fs)) (c:cV X.K C) (k:qI X.K C m g) (l:fs.lookup m=none)
 (h:Q (.ref g,[.ref a]) s):wpAny (model X.prog X.w) A (getMethod (.ref a) m pl) Q E s:=by
 obtain⟨mA,O,r,_,_,_⟩:=iT I.hok e;have hn:mA m=none:=fT.none_of (by rw[←l];exact r m);exact rP I.kIn O (c.get m) k.at_ k.fn hn h
theorem nZ {y:V} {Q:Unit->Shared->Prop} (I:aC X π σ H s) (e:H a=some (.ins C dx fs)) (c:cV X.K C) (n:ay X.K C f) (hl:fs.length<1000) (ry:bf y u)
 (h:∀s',aC X π σ (upd H a (.ins C dx (d9 f y fs))) s'->Q () s'):wpAny (model X.prog X.w) A (setAttr (.ref a) f u) Q E s:=by
 obtain⟨mA,O,r,wi,_,ho⟩:=iT I.hok e;have hz:(fs.map (·.1)).length<=sizeLine:=by rw[length_map,sizeLine_eq];lia
 refine vy I.kIn O c.sa c.po n.taker c.hd wi hz λh' O' sb=>h _ ?_;have hd:∃o,h'.get? dx=some o:=let ⟨o,_,_,e',_⟩:=O'.ns;⟨o,e'⟩;refine I.write (x:=a) (e:=dx) (by rw[e];exact True.intro) (.inr ho) (λb q hb z=>(sb.2 b hb).trans z) hd ?_;refine⟨by rw[aD O.ne];exact ho,?_,O.ne,O'.obj,_,O'.ns,λg=>?_,λg hg=>?_⟩
 ·have:=iz f y fs;(clear hz;lia)
 ·show fT ((d9 f y fs).lookup g) (if g=f then some u else mA g);rw[iy]
  by_cases q:g=f
  ·rw[if_pos q,if_pos q];exact ry
  ·rw[if_neg q,if_neg q];exact r g
 ·by_cases q:g=f
  ·rw[q];exact(gY f y fs).1
  ·refine(gY f y fs).2 g (wi g λz=>hg ?_);show(if g=f then some u else mA g)=none;rw[if_neg q];exact z
theorem aC.made (I:aC X π σ H s):aC X π σ (upd (upd H s.heap.objs.size (.own (s.heap.objs.size+1))) (s.heap.objs.size+1) (.ins C s.heap.objs.size []))
 { s with heap:=(s.heap.push emptyDict).push (instObj C s.heap.objs.size) }:=by
 have e1:(s.heap.push emptyDict).get? s.heap.objs.size=some emptyDict:=Heap.get?_push_size s.heap rfl;have e2:((s.heap.push emptyDict).push (instObj C s.heap.objs.size)).get? (s.heap.objs.size+1)=some (instObj C s.heap.objs.size):=by
  have:=Heap.get?_push_size (s.heap.push emptyDict) (o:=instObj C s.heap.objs.size) rfl
  rwa [Heap.size_push] at this
 have e3:(s.heap.push emptyDict).Ns s.heap.objs.size (λ_=>none):=⟨emptyDict,#[],_,e1,rfl,(λe he=>absurd he (by simp)),λ_=>rfl⟩;have I1:=I.laid (a:=s.heap.objs.size) (o:= .own (s.heap.objs.size+1)) (h':=s.heap.push emptyDict) (t':=s.toks) (λb u q=>Heap.get?_push_of_some _ q) (le_refl _) ⟨_,e1⟩;refine I1.laid (a:=s.heap.objs.size+1) (o:= .ins C s.heap.objs.size []) (t':=s.toks) (λb u q=>Heap.get?_push_of_some _ q) (Nat.le_of_eq (Heap.size_push _ _)) ?_;have ne:s.heap.objs.size≠s.heap.objs.size+1:=ne_of_lt (Nat.lt_succ_self _);refine⟨by rw[aD ne,bg],zero_le _,ne,e2,λ_=>none,(Heap.Ns1.of_empty e3).at λo q=>Heap.get?_push_of_some _ q,λ_=>True.intro,λy hy=>absurd rfl hy⟩
theorem vz {env:Env} {f:Str} (hb:attributeBase e f env (eval e env)=eval e env)
 (h:wpAny (model prog w) A (eval e env) (λo s₁=>wpAny (model prog w) A (getAttr o f true) Q E s₁) E s):wpAny (model prog w) A (eval (.Attribute e f pos) env) Q E s:=
 Attribute_any_ h (by rw[arm_eval_Attribute,hb])
end
noncomputable def DA (K:PySem.W.Frag) (ta:TE) (f:Str):TE:=λσ H Q=>ta σ H λx H1=>∃a C dx fs v,x=.ref a/\H1 a=some (.ins C dx fs)/\cV K C/\ay K C f/\fs.lookup f=some v/\Q v H1
noncomputable def DB (K:PySem.W.Frag) (ta tv:TE) (f:Str):TS:=λD σ H=>tv σ H λy H1=>ta σ H1 λx H2=>∃a C dx fs,x=.ref a/\H2 a=some (.ins C dx fs)/\cV K C/\ay K C f/\fs.length<1000/\
 D.nx σ (upd H2 a (.ins C dx (d9 f y fs)))
section
variable {X:Cx} {o e value:Expr} {f:Str} {pos pos' tpos:Pos} {ta tv:TE}
theorem yK (he:PE X e ta) (hb:attributeBase e f X.env (eval e X.env)=eval e X.env):PE X (.Attribute e f pos) (DA X.K ta f):=by
 intro π s σ H Q I h;refine vz hb (bV (he π s σ H _ I h) λu s1 z9=>?_);obtain⟨x,H1,I1,rx,a,C,dx,fs,v,ex,ea,c,n,l,q⟩:=z9;subst ex;obtain rfl:u=Value.ref a:=rx;exact nY I1 ea c n l λu' s2 I2 ru=>⟨v,H1,I2,ru,q⟩
theorem yL (ha:PE X o ta) (hv:PE X value tv) (hs:swapsWith value (some (.Attribute o f pos')) pos.line X.env=pure false):PS X (.Assign [.Attribute o f pos'] value pos) (DB X.K ta tv f):=by
 intro π s σ H D I h;refine plainObj_wpAny_Assign_Attribute (bV (hv π s σ H _ I h) λu s1 ⟨y,H1,I1,ry,q⟩=>bV (ha π s1 σ H1 _ I1 q) λov s2 z9=>?_) hs;obtain⟨x,H2,I2,rx,a,C,dx,fs,ex,ea,c,n,l,q2⟩:=z9;subst ex;obtain rfl:ov=Value.ref a:=rx;exact nZ I2 ea c n l ry λs3 I3=>⟨σ,_,I3,q2⟩
end
section
variable {X:Cx} {π:List (Addr×Obj)} {σ:St} {H:Hp} {s:Shared} {A:Around} {E:Value->Shared->Prop} {Q:Value->Shared->Prop} {c:Value} {b:Bool}
inductive gZ (K:PySem.W.Frag) (H:Hp):V->Value->Prop where
 | non:gZ K H .non (.type "NoneType")
 | bl (x:Bool):gZ K H (.bl x) (.type "bool")
 | int (i:Int):gZ K H (.int i) (.type "int")
 | str (x:Str):gZ K H (.str x) (.type "str")
 | flt (x:UInt64):gZ K H (.flt x) (.type "float")
 | lst {a:Addr} {xs:List V} (e:H a=some (.lst xs)):gZ K H (.ref a) (.type "list")
 | frz {a:Addr} {o:Obj} {xs:List V} (e:H a=some (.frz o (.lst xs))):gZ K H (.ref a) (.type "list")
 | tup {a:Addr} {xs:List V} (e:H a=some (.tup xs)):gZ K H (.ref a) (.type "tuple")
 | dK {a:Addr} {kvs:List (aR×V)} (e:H a=some (.dK kvs)):gZ K H (.ref a) (.type "dict")
 | dT {a:Addr} {kvs:List (List aR×V)} (e:H a=some (.dT kvs)):gZ K H (.ref a) (.type "dict")
 | ins {a C dx:Addr} {fs:List (Str×V)} (e:H a=some (.ins C dx fs)) (cl:cV K C) (ha:findIn K (.ref C) "__class__"=some (some (.builtin "object.__class__")))
    (hn:PySem.W.specialIn K (.builtin "object.__class__") "__get__"=some (some (.builtin "getset_descriptor.__get__"))) (htk:PySem.W.takesIn K (.builtin "object.__class__")=some true)
    (hm:mroIn K C (.type "object")=some true):gZ K H (.ref a) (.ref C)
theorem qJ {x:V} {u t:Value} (I:aC X π σ H s) (rx:bf x u) (ty:gZ X.K H x t) (e:PySem.W.kitOne X.K t c=some b) (h:∀tk,Q (.bool b) { s with toks:=tk }):
 wpAny (model X.prog X.w) A (call (.builtin "isinstance") [u,c]) Q E s:=by
 cases ty with
 | non=>cases (show u=Value.none from rx);exact kia_one PySem.W.kitx_none I.kIn True.intro e (λz=>nomatch z) h
 | bl y=>cases (show u=Value.bool y from rx);exact kia_one PySem.W.kitx_bool I.kIn True.intro e (λz=>nomatch z) h
 | int i=>obtain⟨t,q⟩:=(show ∃t,u=Value.int i t from rx);cases q;exact kia_one PySem.W.kitx_int I.kIn True.intro e (λz=>nomatch z) h
 | str y=>obtain⟨t,q⟩:=(show ∃t,u=Value.str y t from rx);cases q;exact kia_one PySem.W.kitx_str I.kIn True.intro e (λz=>nomatch z) h
 | flt y=>obtain⟨t,q⟩:=(show ∃t,u=Value.float y t from rx);cases q;exact kia_one PySem.W.kitx_float I.kIn True.intro e (λz=>nomatch z) h
 | @lst a xs ea=>
   cases (show u=Value.ref a from rx);obtain⟨_,_,n,_,h1⟩:=(show bB X.prog X.w H s.heap a (.lst xs) from I.hok a _ ea);exact kia_one PySem.W.kitx_list I.kIn ⟨_,h1,rfl⟩ e (λz=>nomatch z) h
 | @frz a ob xs ea=>
   cases (show u=Value.ref a from rx);obtain⟨_,_,_,n,_,h1⟩:=(show bB X.prog X.w H s.heap a (.frz ob (.lst xs)) from I.hok a _ ea);exact kia_one PySem.W.kitx_list I.kIn ⟨_,h1,rfl⟩ e (λz=>nomatch z) h
 | @tup a xs ea=>
   cases (show u=Value.ref a from rx);obtain⟨_,_,_,p⟩:=(show bB X.prog X.w H s.heap a (.tup xs) from I.hok a _ ea);obtain⟨o,h1,h2,_⟩:=p;exact kia_one PySem.W.kitx_tuple I.kIn ⟨o,h1,h2⟩ e (λz=>nomatch z) h
 | @dK a kvs ea=>
   cases (show u=Value.ref a from rx);obtain⟨_,_,vs,_,p⟩:=(show bB X.prog X.w H s.heap a (.dK kvs) from I.hok a _ ea);obtain⟨o,es,ep,h1,h2,_⟩:=p;exact kia_one PySem.W.kitx_dict I.kIn ⟨o,h1,h2.1⟩ e (λz=>nomatch z) h
 | @dT a kvs ea=>
   cases (show u=Value.ref a from rx);obtain⟨_,_,xs,_,o,es,ep,h1,h2,_⟩:=(show bB X.prog X.w H s.heap a (.dT kvs) from I.hok a _ ea);exact kia_one PySem.W.kitx_dict I.kIn ⟨o,h1,h2.1⟩ e (λz=>nomatch z) h
 | @ins a C dx fs ea cl ha hn htk hm=>
   cases (show u=Value.ref a from rx);obtain⟨mA,O,_⟩:=iT I.hok ea;obtain⟨od,J,_⟩:=O.look;exact kia_one (PySem.W.kitx_own (cl.get _) cl.hd ha hn htk hm) I.kIn J e (λz=>nomatch z) h
end
structure aw (k:Nat) (A:Around):Prop where
 hd:A.handled=none
 dp:A.depth+3*k+5<recursionLimit
 un:A.units+16*k+200<cLine
theorem aw.mono {j k:Nat} (r:aw k A) (h:j<=k):aw j A:=⟨r.hd,by have:=r.dp;lia,by have:=r.un;lia⟩
theorem aw.deeper (r:aw (k+1) A) (env:Env):aw k (A.deeper env):=
 ⟨r.hd,by have:=r.dp;show A.depth+1+3*k+5<_;lia,by have:=r.un;show A.units+3+16*k+200<_;lia⟩
theorem n5 {C:Addr} {kw:List (Str×Value)}:(A.under (.builtin "type.__call__" ⟨.ref C::us,kw⟩)).depth=A.depth+1:=by
 first | rfl | simp[Around.under,Code.weight,Code.isCreation,Code.isGuard,Code.isCaller,Code.frames,Code.isFrame,guardIds]
theorem n6 {C:Addr} {kw:List (Str×Value)}:(A.under (.builtin "type.__call__" ⟨.ref C::us,kw⟩)).units=A.units+1:=by
 first | rfl | simp[Around.under,Code.cUnits,Code.frames,Code.isFrame]
theorem aw.make (r:aw (k+1) A) (C:Addr) (us:List Value) (kw:List (Str×Value)):aw k (A.under (.builtin "type.__call__" ⟨.ref C::us,kw⟩)):=
 ⟨r.hd,by have:=r.dp;rw[n5];lia,by have:=r.un;rw[n6];lia⟩
theorem aw.depth (r:aw k A):A.depth<recursionLimit:=by have:=r.dp;lia
noncomputable def vA:TA:=λ_ H Q=>Q [] H
noncomputable def rR (ta:TE) (tr:TA):TA:=λσ H Q=>ta σ H λx H1=>tr σ H1 λxs H2=>Q (x::xs) H2
section
variable {X:Cx} {e:Expr} {es:List Expr} {te:TE} {t:TA} {pos:Pos}
theorem pa_nil:PA X [] vA:=λ_ _ _ _ H Q I h=>Calls.spliced_nil ⟨[],H,I,.nil,h⟩
theorem cL (ha:PE X e te) (hr:PA X es t) (hs:starEach (e::es) X.env=(false,eval e X.env)::starEach es X.env:=by rfl):PA X (e::es) (rR te t):=by
 intro pos π s σ H Q I h;rw[hs];show wpAny _ _ (spliced ((false,eval e X.env)::backTo pos (starEach es X.env))) _ _ s;refine Calls.spliced_cons (bV (ha π s σ H _ I h) λu s1 z9=>?_);obtain⟨x,H1,I1,r1,q1⟩:=z9;exact bV (hr pos π s1 σ H1 _ I1 q1) λus s2 ⟨xs,H2,I2,r2,q2⟩=>⟨x::xs,H2,I2,.cons r1 r2,q2⟩
noncomputable def DC (t:TA):TE:=λσ H Q=>t σ H λxs H1=>xs.length<=sizeLine/\∀p,H1 p=none->Q (.ref p) (upd H1 p (.tup xs))
noncomputable def DE (t:TA):TE:=λσ H Q=>t σ H λxs H1=>xs.length<=sizeLine/\∀p,H1 p=none->Q (.ref p) (upd H1 p (.lst xs))
theorem yM {x1} (h:PA X es t):PE X (.Tuple es x1 pos) (DC t):=by
 intro π s σ H Q I hq;refine wpAny_Tuple_spliced (bV (h pos π s σ H _ I hq) λus s1 ⟨xs,H1,I1,r,z,q⟩=>⟨by rw[←r.length];exact z,?_⟩);have hf:H1 s1.heap.objs.size=none:=I1.hok.fresh (le_refl _);refine⟨.ref s1.heap.objs.size,upd H1 s1.heap.objs.size (.tup xs),I1.laid (t':=s1.toks) (λb u e=>Heap.get?_push_of_some _ e) (le_refl _) ?_,rfl,q _ hf⟩;exact⟨z,us,r,⟨_,Heap.get?_push_size _ rfl,rfl,_,rfl⟩⟩
theorem yN (h:PA X es t):PE X (.List es pos) (DE t):=by
 intro π s σ H Q I hq;refine wpAny_List_spliced (bV (h pos π s σ H _ I hq) λus s1 ⟨xs,H1,I1,r,z,q⟩=>⟨by rw[←r.length];exact z,?_⟩);have hf:H1 s1.heap.objs.size=none:=I1.hok.fresh (le_refl _);refine⟨.ref s1.heap.objs.size,upd H1 s1.heap.objs.size (.lst xs),I1.laid (t':=s1.toks) (λb u e=>Heap.get?_push_of_some _ e) (le_refl _) ?_,rfl,q _ hf⟩;exact⟨z,us,0,r,Heap.get?_push_size _ rfl⟩
end
noncomputable abbrev Sp:=List V->Hp->VK->XK->Prop
noncomputable abbrev n8:=List Env->Hp->Shared->XK->Value->Shared->Prop
structure mB (P:Program) (w:World) (K:PySem.W.Frag) (mg:Str->Option Value) (base:Heap) (A:Around) (outer:List Env) (s:Shared) (H:Hp):Prop where
 frames:A.frames=some outer
 mod:Mod K mg base
 bs:∀b o,base.get? b=some o->s.heap.get? b=some o/\H b=none
 bsz:base.objs.size<=s.heap.objs.size
 funs:s.heap.FunFrames base outer
 frf:∀b∈eu outer,H b=none
 hok:fJ P w H s.heap
 bare:AllBare s.gens
noncomputable def CE (outer:List Env) (P:Program) (w:World) (H:Hp) (s:Shared) (Q:VK) (u:Value) (s':Shared):Prop:=
 ∃v H',s'.os=s.os/\AllBare s'.gens/\Un (eu outer) [] H H' s.heap s'.heap/\fJ P w H' s'.heap/\bf v u/\Q v H'
noncomputable def CR (CX:n8) (outer:List Env) (P:Program) (w:World) (H:Hp) (s:Shared) (Q:VK) (E:XK) (r:Result) (s':Shared):Prop:=
 match r with
 | .ok (.ret u)=>CE outer P w H s Q u s'
 | .ok _=>False
 | .error e=>CX outer H s E e s'
structure dG (P:Program) (w:World) (K:PySem.W.Frag) (mg:Str->Option Value) (base:Heap) (CX:n8) (k:Nat) (f:Addr) (fd:FuncData) (ps:List Str) (sp:Sp):Prop where
 len:∀vs H Q E,sp vs H Q E->vs.length=ps.length
 run:∀(A:Around) (outer:List Env) (s:Shared) (H:Hp) (args:Args) (us:List Value) (vs:List V) (Q:VK) (E:XK),aw k A->mB P w K mg base A outer s H->BindsTo s fd args (ps.zip us)->aX vs us->sp vs H Q E->
  codeAny (model P w) A (.call (.ref f) args) (CR CX outer P w H s Q E) s
theorem dG.mono {CX:n8} {j k:Nat} {f:Addr} {sp:Sp} (F:dG P w K mg base CX j f fd ps sp) (h:j<=k):
 dG P w K mg base CX k f fd ps sp:=⟨F.len,λA outer s H args us vs Q E hr=>F.run A outer s H args us vs Q E (hr.mono h)⟩
theorem dG.imp {CX:n8} {f:Addr} {sp sp':Sp} (F:dG P w K mg base CX k f fd ps sp)
 (h:∀vs H Q E,sp' vs H Q E->sp vs H Q E):dG P w K mg base CX k f fd ps sp':=
 ⟨λvs H Q E q=>F.len vs H Q E (h _ _ _ _ q),λA outer s H args us vs Q E hr he hb hv hs=>F.run A outer s H args us vs Q E hr he hb hv (h _ _ _ _ hs)⟩
theorem mB.make {outer:List Env} {H:Hp} (e:mB P w K mg base A outer s H) (C:Addr) (us:List Value) (kw:List (Str×Value)):
 mB P w K mg base (A.under (.builtin "type.__call__" ⟨.ref C::us,kw⟩)) outer s H:=⟨by first | exact e.frames | (simpa[Around.under,Code.envs,Code.isFrame,pushEnvs] using e.frames),e.mod,e.bs,e.bsz,e.funs,e.frf,e.hok,e.bare⟩
section
variable {X:Cx} {π:List (Addr×Obj)} {σ:St} {H:Hp} {s s':Shared}
theorem aC.env0 (I:aC X π σ H s):mB X.prog X.w X.K X.mg X.base X.A X.stack s H:=
 ⟨I.ok.frames,I.ok.mod,I.bs,le_trans I.ok.bsz I.sz,I.stack,I.stkFree,I.hok,I.bare⟩
theorem aC.after {Q:VK} (I:aC X π σ H s) (h:CE X.stack X.prog X.w H s Q u s'):EP X π σ Q u s':=by
 obtain⟨v,H',os,bare,un,hok,r,q⟩:=h;obtain⟨hh,g,d,t,os'⟩:=s';obtain rfl:os'=s.os:=os;exact⟨v,H',I.call (h':=hh) (g':=g) (d':=d) (t':=t) (ch:=[]) un hok bare (λb z=>absurd z (by simp)),r,q⟩
end
noncomputable def rS (sp:Sp) (dvs:List V) (E:XK) (t:TA):TE:=λσ H Q=>t σ H λvs H1=>sp (vs++dvs) H1 Q E
noncomputable def rT (C:Addr) (m:Str) (sp:Sp) (dvs:List V) (E:XK) (ta:TE) (t:TA):TE:=λσ H Q=>ta σ H λx H1=>∃a dx fs,x=.ref a/\H1 a=some (.ins C dx fs)/\fs.lookup m=none/\
 t σ H1 λvs H2=>sp (x::(vs++dvs)) H2 Q E
noncomputable def xH (C:Addr) (sp:Sp) (dvs:List V) (E:XK) (t:TA):TE:=λσ H Q=>t σ H λvs H1=>∀x dx,H1 x=none->H1 dx=none->dx≠x->
 sp (.ref x::(vs++dvs)) (upd (upd H1 dx (.own x)) x (.ins C dx [])) (λv H2=>v=.non/\Q (.ref x) H2) E
noncomputable def bI (K:PySem.W.Frag) (fd:FuncData) (ps:List Str) (ds:List Value):Prop:=
 ∀(s:Shared) (us:List Value),K.In s.heap->(us++ds).length=ps.length->BindsTo s fd ⟨us,[]⟩ (ps.zip (us++ds))
theorem bI.all (h:∀us:List Value,us.length=ps.length->bindArgs fd ⟨us,[]⟩=pure (ps.zip us)):bI K fd ps []:=λs us _ hl=>by
 rw[append_nil] at hl ⊢;exact .of_eq (h us hl)
noncomputable def ez (CX:n8) (X:Cx) (E:XK):Prop:=∀(π:List (Addr×Obj)) (σ:St) (H:Hp) (s:Shared) (e:Value) (s':Shared),aC X π σ H s->CX X.stack H s E e s'->X.xe e s'
section
variable {X:Cx} {CX:n8} {k:Nat} {f C:Addr} {fd:FuncData} {ps:List Str} {sp:Sp} {dvs:List V} {ds:List Value} {E:XK} {x m:Str} {p pos apos:Pos} {e o:Expr} {es:List Expr} {ta:TE} {t:TA}
theorem lr {σ:St} {H:Hp} {Q:VK} {vs:List V} (F:dG X.prog X.w X.K X.mg X.base CX k f fd ps sp) (hr:aw k X.A) (hb:bI X.K fd ps ds) (hd:aX dvs ds) (hx:ez CX X E)
 (I:aC X π σ H s) (r:aX vs us) (h:sp (vs++dvs) H Q E):wpAny (model X.prog X.w) X.A (call (.ref f) us) (EP X π σ Q) X.xe s:=by
 have r2:aX (vs++dvs) (us++ds):=r.append hd;have hl:(us++ds).length=ps.length:=by rw[←r2.length];exact F.len _ _ _ _ h
 refine wpAny_call (codeAny_mono (F.run X.A X.stack s H ⟨us,[]⟩ (us++ds) (vs++dvs) Q E hr I.env0 (hb s us I.kIn hl) r2 h) λr s' hq=>?_);cases r with
 | error e=>exact hx π σ H s e s' I hq
 | ok fl=>
   cases fl with
   | ret u=>exact I.after hq
   | next=>exact False.elim hq
   | brk=>exact False.elim hq
   | cont=>exact False.elim hq
theorem ph (F:dG X.prog X.w X.K X.mg X.base CX k f fd ps sp) (hr:aw k X.A) (hg:Gl X x) (hm:X.mg x=some (.ref f)) (hk:keepIn X.K (.ref f)=true) (hb:bI X.K fd ps ds) (hd:aX dvs ds) (hx:ez CX X E)
 (ha:PA X (e::es) t) (hdb:(x==("__debug__":Str))=false:=by decide) (he:starEach (e::es) X.env=(false,eval e X.env)::starEach es X.env:=by rfl) (hpl:(backTo pos (starEach es X.env)).any (·.1)=false:=by rfl):
 PE X (.Call (.Name x p) (e::es) [] pos) (rS sp dvs E t):=by
 intro π s σ H Q I h;refine wpAny_Call_Name_kw (fw I hg hm ?_ hdb);refine callWith_K (h₀:=X.base) I.ok.mod.kin hk (bV (ha pos π s σ H _ I h) λus s1 ⟨vs,H1,I1,r,q⟩=>⟨I1.kIn,?_⟩) he hpl;exact lr F hr hb hd hx I1 r q
theorem rV (F:dG X.prog X.w X.K X.mg X.base CX k f fd ps sp) (hr:aw k X.A) (hg:Gl X x) (hm:X.mg x=some (.ref f)) (hk:keepIn X.K (.ref f)=true) (hb:bI X.K fd ps ds) (hd:aX dvs ds) (hx:ez CX X E)
 (hdb:(x==("__debug__":Str))=false:=by decide):PE X (.Call (.Name x p) [] [] pos) (rS sp dvs E vA):=by
 intro π s σ H Q I h;refine wpAny_Call_Name_kw (fw I hg hm ?_ hdb);exact PySem.W.callWith_K0 I.kIn hk (lr (us:=[]) F hr hb hd hx I .nil h)
theorem pp {pl:Sem Bool} (he:PE X o ta) (c:cV X.K C) (hm:qI X.K C m f) (F:dG X.prog X.w X.K X.mg X.base CX k f fd ps sp) (hr:aw k X.A) (hb:bI X.K fd ps ds) (hd:aX dvs ds) (hx:ez CX X E) (ha:PA X (e::es) t)
 (hst:starEach (e::es) X.env=(false,eval e X.env)::starEach es X.env:=by rfl) (hpl:(backTo pos (starEach es X.env)).any (·.1)=false:=by rfl)
 (ht:eval (.Call (.Attribute o m apos) (e::es) [] pos) X.env=(do
   let ov ←eval o X.env
   standAt apos.atName
   let (f,first) ←holding [ov] (getMethod ov m pl)
   callWith pos f first (backTo pos (starEach (e::es) X.env)) (backToKw pos (keywordEach [] X.env))):=by rfl):
 PE X (.Call (.Attribute o m apos) (e::es) [] pos) (rT C m sp dvs E ta t):=by
 intro π s σ H Q I h;refine PySem.W.methodCall_KW (pl:=pl) (bV (he π s σ H _ I h) λu s1 z9=>?_) ht;obtain⟨x,H1,I1,rx,a,dx,fs,ex,ea,l,q⟩:=z9;subst ex;obtain rfl:u=Value.ref a:=rx;refine jh I1 ea c hm l ?_;refine callWith_K (first:=[.ref a]) (h₀:=X.base) I.ok.mod.kin hm.kp (bV (ha pos π s1 σ H1 _ I1 q) λus s2 ⟨vs,H2,I2,r,q2⟩=>⟨I2.kIn,?_⟩) hst hpl;exact lr (us:= .ref a::us) (vs:= .ref a::vs) F hr hb hd hx I2 (.cons rfl r) q2
theorem rW {pl:Sem Bool} (he:PE X o ta) (c:cV X.K C) (hm:qI X.K C m f) (F:dG X.prog X.w X.K X.mg X.base CX k f fd ps sp) (hr:aw k X.A) (hb:bI X.K fd ps ds) (hd:aX dvs ds) (hx:ez CX X E)
 (ht:eval (.Call (.Attribute o m apos) [] [] pos) X.env=(do
   let ov ←eval o X.env
   standAt apos.atName
   let (f,first) ←holding [ov] (getMethod ov m pl)
   callWith pos f first (backTo pos (starEach [] X.env)) (backToKw pos (keywordEach [] X.env))):=by rfl):
 PE X (.Call (.Attribute o m apos) [] [] pos) (rT C m sp dvs E ta vA):=by
 intro π s σ H Q I h;refine PySem.W.methodCall_KW (pl:=pl) (bV (he π s σ H _ I h) λu s1 z9=>?_) ht;obtain⟨x,H1,I1,rx,a,dx,fs,ex,ea,l,q⟩:=z9;subst ex;obtain rfl:u=Value.ref a:=rx;refine jh I1 ea c hm l ?_;exact PySem.W.callWith_K0 (first:=[.ref a]) I1.kIn hm.kp (lr (us:=[.ref a]) (vs:=[.ref a]) F hr hb hd hx I1 (.cons rfl .nil) q)
structure Mk (K:PySem.W.Frag) (C f:Addr):Prop where
 makes:makesIn K C=true
 init:findIn K (.ref C) "__init__"=some (some (.ref f))
 fn:isFn K (.ref f)=true
 kp:keepIn K (.ref C)=true
theorem rX {σ:St} {H:Hp} {Q:VK} {vs:List V} (M:Mk X.K C f) (F:dG X.prog X.w X.K X.mg X.base CX k f fd ps sp) (hr:aw (k+1) X.A) (hb:bI X.K fd ps ds) (hd:aX dvs ds)
 (hx:ez CX X E) (I:aC X π σ H s) (r:aX vs us)
 (h:∀x dx,H x=none->H dx=none->dx≠x->sp (.ref x::(vs++dvs)) (upd (upd H dx (.own x)) x (.ins C dx [])) (λv H2=>v=.non/\Q (.ref x) H2) E):
 wpAny (model X.prog X.w) X.A (call (.ref C) us) (EP X π σ Q) X.xe s:=by
 have hq:=h (s.heap.objs.size+1) s.heap.objs.size (I.hok.fresh (le_succ _)) (I.hok.fresh (le_refl _)) (ne_of_lt (Nat.lt_succ_self _));have I2:=aC.made (C:=C) I;have r2:aX (V.ref (s.heap.objs.size+1)::(vs++dvs)) (Value.ref (s.heap.objs.size+1)::(us++ds)):= .cons rfl (r.append hd);have hl:(Value.ref (s.heap.objs.size+1)::us++ds).length=ps.length:=by
  have e:=r2.length;rw[F.len _ _ _ _ hq] at e;exact e.symm
 refine wpAny_call (rQ (f:=f) I.kIn M.makes M.init (beq_iff_eq.mp M.fn) (codeAny_mono (F.run _ X.stack _ _ ⟨Value.ref (s.heap.objs.size+1)::us,[]⟩ (Value.ref (s.heap.objs.size+1)::(us++ds)) _ _ E (hr.make C us [])
  (I2.env0.make C us []) (hb _ (Value.ref (s.heap.objs.size+1)::us) I2.kIn hl) r2 hq) λr s' hq'=>?_))
 cases r with
 | error e=>exact hx π σ _ _ e s' I2 hq'
 | ok fl=>
   cases fl with
   | ret u=>
     obtain⟨v,H',I3,rv,ev,q3⟩:=I2.after hq';subst ev;exact⟨rv,⟨V.ref (s.heap.objs.size+1),H',I3,rfl,q3⟩⟩
   | next=>exact False.elim hq'
   | brk=>exact False.elim hq'
   | cont=>exact False.elim hq'
theorem vB (M:Mk X.K C f) (F:dG X.prog X.w X.K X.mg X.base CX k f fd ps sp) (hr:aw (k+1) X.A) (hg:Gl X x) (hm:X.mg x=some (.ref C)) (hb:bI X.K fd ps ds) (hd:aX dvs ds) (hx:ez CX X E)
 (ha:PA X (e::es) t) (hdb:(x==("__debug__":Str))=false:=by decide) (he:starEach (e::es) X.env=(false,eval e X.env)::starEach es X.env:=by rfl) (hpl:(backTo pos (starEach es X.env)).any (·.1)=false:=by rfl):
 PE X (.Call (.Name x p) (e::es) [] pos) (xH C sp dvs E t):=by
 intro π s σ H Q I h;refine wpAny_Call_Name_kw (fw I hg hm ?_ hdb);refine callWith_K (h₀:=X.base) I.ok.mod.kin M.kp (bV (ha pos π s σ H _ I h) λus s1 ⟨vs,H1,I1,r,q⟩=>⟨I1.kIn,?_⟩) he hpl;exact rX M F hr hb hd hx I1 r q
end
section
variable {X:Cx} {CX:n8} {k:Nat} {f C:Addr} {fd:FuncData} {ps ks:List Str} {sp:Sp} {E:XK} {x m:Str} {p pos apos kpos:Pos} {e o:Expr} {es:List Expr} {kws:List Keyword} {te ta:TE} {t tk:TA} {nm:Option Str}
structure DF (K:PySem.W.Frag) (fd:FuncData) (ps ks:List Str) (g:List Value->List Value->List Value) (gV:List V->List V->List V):Prop where
 to:∀(s:Shared) (us ws:List Value),K.In s.heap->(g us ws).length=ps.length->BindsTo s fd ⟨us,ks.zip ws⟩ (ps.zip (g us ws))
 rel:∀{vs:List V} {us:List Value} {zs:List V} {ws:List Value},aX vs us->aX zs ws->aX (gV vs zs) (g us ws)
variable {g:List Value->List Value->List Value} {gV:List V->List V->List V}
end
structure bM (N P:List Str) (sc:Scope):Prop where
 kind:sc.kind=.function
 co:sc.isCoroutine=false
 gen:sc.isGenerator=false
 nd:N.Nodup
 pre:N.take P.length=P
 par:∀x∈P,sc.names.lookup x=some .local∨sc.names.lookup x=some .cell
 nofree:∀y∈sc.names,y.2≠ .free
theorem kq {kindOf:Str->Option NameKind} {x:Str}:∀{binds:List (Str×Value)} {m:Str->Option Value},(∀v,(x,v)∉binds)->bindL kindOf binds m x=m x
 | [],_,_=>rfl
 | (n,v)::r,m,h=>by
   unfold bindL;rw[kq λw hw=>h w (mem_cons_of_mem _ hw)];split
   ·have:x≠n:=by rintro rfl;exact h v mem_cons_self
    simp[this]
   ·rfl
theorem kr {kindOf:Str->Option NameKind} {x:Str}:∀{binds:List (Str×Value)} {m:Str->Option Value},(∀v,(x,v)∉binds)->bindC kindOf binds m x=m x
 | [],_,_=>rfl
 | (n,v)::r,m,h=>by
   unfold bindC;rw[kr λw hw=>h w (mem_cons_of_mem _ hw)];split
   ·rfl
   ·have:x≠n:=by rintro rfl;exact h v mem_cons_self
    simp[this]
theorem kt {kindOf:Str->Option NameKind} {x:Str} {v:Value}:∀{P:List Str} {vs:List Value} {i:Nat} {m:Str->Option Value},P.Nodup->P[i]?=some x->vs[i]?=some v->kindOf x=some .local->
 bindL kindOf (P.zip vs) m x=some v
 | [],_,_,_,_,h,_,_=>by simp at h
 | _::_,[],_,_,_,_,h,_=>by simp at h
 | p::P,w::vs,0,m,nd,h1,h2,hk=>by
   simp at h1 h2;subst h1;subst h2;show bindL kindOf ((p,w)::P.zip vs) m p=_;unfold bindL;rw[kq λv hv=>(nodup_cons.mp nd).1 (List.of_mem_zip hv).1,if_pos hk];simp
 | p::P,w::vs,i+1,m,nd,h1,h2,hk=>by
   show bindL kindOf ((p,w)::P.zip vs) m x=_;unfold bindL;exact kt (i:=i) (nodup_cons.mp nd).2 (by simpa using h1) (by simpa using h2) hk
theorem ku {kindOf:Str->Option NameKind} {x:Str} {v:Value}:∀{P:List Str} {vs:List Value} {i:Nat} {m:Str->Option Value},P.Nodup->P[i]?=some x->vs[i]?=some v->kindOf x≠some .local->
 bindC kindOf (P.zip vs) m x=some v
 | [],_,_,_,_,h,_,_=>by simp at h
 | _::_,[],_,_,_,_,h,_=>by simp at h
 | p::P,w::vs,0,m,nd,h1,h2,hk=>by
   simp at h1 h2;subst h1;subst h2;show bindC kindOf ((p,w)::P.zip vs) m p=_;unfold bindC;rw[kr λv hv=>(nodup_cons.mp nd).1 (List.of_mem_zip hv).1,if_neg hk];simp
 | p::P,w::vs,i+1,m,nd,h1,h2,hk=>by
   show bindC kindOf ((p,w)::P.zip vs) m x=_;unfold bindC;exact ku (i:=i) (nodup_cons.mp nd).2 (by simpa using h1) (by simpa using h2) hk
noncomputable def start (N:List Str) (vs:List V):St:=vs.map some++List.replicate (N.length-vs.length) none
noncomputable def dm (CX:n8) (P:Program) (w:World) (K:PySem.W.Frag) (mg:Str->Option Value) (base:Heap) (N:List Str) (qual:Str) (scope:Scope) (f:Addr) (cd:Value) (A:Around) (outer:List Env) (s:Shared) (H:Hp) (E:XK):Cx where
 prog:=P
 w:=w
 K:=K
 mg:=mg
 base:=base
 A:=A.deeper (envOfC qual scope s.heap.objs.size f cd)
 N:=N
 s₀:=s
 H₀:=H
 env:=envOfC qual scope s.heap.objs.size f cd
 outer:=outer
 stack:=envOfC qual scope s.heap.objs.size f cd::outer
 ex:=[]
 calm:=true
 fn:=λ_=>true
 pn:=[]
 xe:=λe s'=>wpAny (model P w) (A.deeper (envOfC qual scope s.heap.objs.size f cd)) (leaving (envOfC qual scope s.heap.objs.size f cd) e) (λ_ s''=>CX outer H s E e s'') (λe' s''=>CX outer H s E e' s'') s'
theorem mC {sc:Scope} {n:Nat} (h:sc.names.lookup x=some .cell):∃c,(cellsFrom n sc.names []).lookup x=some c:=by
 have q:=PySem.W.cellsFrom_some sc.names n [] (.inl h);exact Option.isSome_iff_exists.mp q
theorem qK {CX:n8} {N ps:List Str} {qual:Str} {f:Addr} {cd:Value} {outer:List Env} {s s1:Shared} {H:Hp} {E:XK} {vs:List V}
 (S:bM N ps scope) (hd:A.handled=none) (e0:mB P w K mg base A outer s H) (hl:vs.length=ps.length) (r:aX vs us)
 (x:InCallC s s.heap.objs.size (bindL (envOfC qual scope s.heap.objs.size f cd).kindOf (ps.zip us) λ_=>none) (cellsFrom (s.heap.objs.size+1) scope.names []) (bindC (envOfC qual scope s.heap.objs.size f cd).kindOf (ps.zip us) λ_=>none) s1):
 aC (dm CX P w K mg base N qual scope f cd A outer s H E) [] (start N vs) H s1:=by
 have hpl:ps.length<=N.length:=by have:=congrArg List.length S.pre;rw[length_take] at this;(clear hl;lia)
 obtain⟨h1,tk,rfl,hk⟩:=x.done;have noA:∀b:Addr,b∉(dm CX P w K mg base N qual scope f cd A outer s H E).ex:=λb z=>absurd (show b∈([]:List Addr) from z) (by simp);refine⟨⟨e0.mod,S.kind,rfl,rfl,le_refl _,λy z c h1 h2=>?_,λy hy=>?_,λy c _ h=>?_,λ_=>hd,Around.frames_deeper e0.frames,.inr ⟨rfl,rfl⟩,λb z=>absurd z (noA b),e0.bs,e0.bsz,λb _ _=>noA b,λb z=>absurd z (noA b),e0.funs,e0.frf⟩,
  rfl,e0.bare,Un.kept hk,⟨_,x.toInCall.ns,λi y v h1 h2 h3=>?_⟩,λy c h=>⟨_,x.cell y c h⟩,e0.hok.fresh (le_refl _),λy c h=>?_,λp hp=>absurd (show p∈([]:List (Addr×Obj)) from hp) (by simp),e0.hok.kept hk,?_⟩
 ·exact name_of_addr x.apart (PySem.mem_of_lookup h1) (PySem.mem_of_lookup h2)
 ·have hy:scope.names.lookup y=some .cell∨scope.names.lookup y=some .free:=hy;rcases hy with hy | hy
  ·exact mC hy
  ·exact absurd rfl (S.nofree _ (PySem.mem_of_lookup hy))
 ·exact Nat.le_of_lt (x.above y c (PySem.mem_of_lookup h))
 ·have hi:i<vs.length:=by
   unfold start at h2
   by_cases hi:i<vs.length
   ·exact hi
   ·rw[List.getElem?_append_right (by simpa using hi)] at h2;rw[List.getElem?_replicate] at h2;split at h2<;> cases h2
  have ha:vs[i]?=some v:=by
   unfold start at h2;rw[List.getElem?_append_left (by simpa using hi),List.getElem?_map] at h2;cases e:vs[i]? with
   | none=>rw[e] at h2;cases h2
   | some a=>rw[e] at h2;cases h2;rfl
  obtain⟨u,hu,rv⟩:=r.get ha;have hp:ps[i]?=some y:=by
   rw[←S.pre,List.getElem?_take_of_lt (by (clear hpl h1 h2 ha hu;lia))];exact h1
  have ndP:ps.Nodup:=by rw[←S.pre];exact S.nd.sublist (List.take_sublist _ _)
  refine⟨u,rv,?_⟩;rcases S.par y (List.mem_of_getElem? hp) with k | k
  ·exact .inl ⟨k,kt ndP hp hu k⟩
  ·obtain⟨c,e⟩:=mC (n:=s.heap.objs.size+1) k;refine .inr ⟨.inl k,c,e,?_⟩;have q:=x.cell y c e;rw[ku ndP hp hu (by show scope.names.lookup y≠_;rw[k];decide)] at q;exact q
 ·exact e0.hok.fresh (Nat.le_of_lt (x.above y c (PySem.mem_of_lookup h)))
 ·unfold start;show _=N.length;rw[length_append,length_map,List.length_replicate];lia
theorem pq {CX:n8} {f:Addr} {name qual:Str} {params:Arguments} {dV kV doc pm cdv ct oc:Value} {an od:Option Addr}
 {osl:Array (Option Value)} {N ps:List Str} {sp:Sp} (lk:K.lookup f=some ⟨oc,od,.func (fnOf name qual params body scope dV kV doc pm an cdv ct),osl⟩) (hcd:codeIn K cdv qual=true) (S:bM N ps scope)
 (len:∀vs H Q E,sp vs H Q E->vs.length=ps.length)
 (hbody:∀(A:Around) (outer:List Env) (s:Shared) (H:Hp) (vs:List V) (Q:VK) (E:XK),aw k (A.deeper (envOfC qual scope s.heap.objs.size f cdv))->sp vs H Q E->
   ∃t,mv (dm CX P w K mg base N qual scope f cdv A outer s H E) body t/\t { nx:=λ_ H'=>Q .non H',rt:=Q } (start N vs) H):
 dG P w K mg base CX (k+1) f (fnOf name qual params body scope dV kV doc pm an cdv ct) ps sp:=by
 refine⟨len,λA outer s H args us vs Q E hr e0 hb r hsp=>?_⟩;have hl:=len _ _ _ _ hsp;have KX:K.In s.heap:=e0.mod.kin.keeps λb o e=>(e0.bs b o e).1;have lim:s.heap.NoLimit:=e0.mod.nolimit.keeps λb o e=>(e0.bs b o e).1;have hkind:∀y∈ps.zip us,scope.names.lookup y.1=some .local∨(scope.names.lookup y.1=some .cell/\((cellsFrom (s.heap.objs.size+1) scope.names []).lookup y.1).isSome=true):=λ⟨n,v⟩ hy=>by
  rcases S.par n (List.of_mem_zip hy).1 with q | q
  ·exact .inl q
  ·exact .inr ⟨q,PySem.W.cellsFrom_some _ _ _ (.inl q)⟩
 refine codeAny_call_function hr.depth (KX _ _ lk) rfl S.co S.gen rfl (PySem.W.codeRec_of KX hcd) (hb _ _ _ _ ?_);refine wpAny_newFunctionEnv_cells S.kind hkind λenv he s1 x=>?_;subst he;refine⟨lim.keeps x.toInCall.keep,codeAny_func ?_⟩;obtain⟨t,ht,hq⟩:=hbody A outer s H vs Q E (hr.deeper _) hsp;have I:aC (dm CX P w K mg base N qual scope f cdv A outer s H E) [] (start N vs) H s1:=qK S hr.hd e0 hl r x;refine wpAny_mono (ht [] s1 (start N vs) H _ I hq) (λfl s' hs=>?_) λe s' hs=>hs;have fin:∀{σ':St} {H':Hp} {v:V} {u:Value},aC (dm CX P w K mg base N qual scope f cdv A outer s H E) [] σ' H' s'->bf v u->Q v H'->CE outer P w H s Q u s':=
  λ{σ' H' v u} J rv q=>⟨v,H',J.os,J.bare,J.base,J.hok,rv,q⟩
 cases fl with
 | ret u=>
   obtain⟨v,σ',H',J,rv,q⟩:=hs;exact fin J rv q
 | next=>
   obtain⟨σ',H',J,q⟩:=hs;exact fin (v:=V.non) (u:=Value.none) J rfl q
 | brk=>
   obtain⟨_,_,_,q⟩:=hs;exact False.elim q
 | cont=>
   obtain⟨_,_,_,q⟩:=hs;exact False.elim q
section
variable {X:Cx} {x:Str} {p pos:Pos} {e:Expr} {es:List Expr} {t:TA} {id T:String} {r:List V->Hp->VK->Prop}
noncomputable def DG (r:List V->Hp->VK->Prop) (t:TA):TE:=λσ H Q=>t σ H λvs H1=>r vs H1 Q
theorem mD (hc:eZ X (.builtin id) r) (hg:Gl X x) (hm:X.mg x=none) (hv:bootBuiltins x=some (.builtin id)) (ha:PA X (e::es) t) (hn:x≠"__name__":=by decide) (hdb:(x==("__debug__":Str))=false:=by decide)
 (he:starEach (e::es) X.env=(false,eval e X.env)::starEach es X.env:=by rfl) (hpl:(backTo pos (starEach es X.env)).any (·.1)=false:=by rfl):PE X (.Call (.Name x p) (e::es) [] pos) (DG r t):=by
 intro π s σ H Q I h;refine wpAny_Call_Name_kw (fU I hg hm hv ?_ hn hdb);exact PyProof.Rows.callWith_builtin1 (bV (ha pos π s σ H _ I h) λus s1 ⟨vs,H1,I1,r1,q1⟩=>hc π s1 σ H1 vs us Q I1 r1 q1) he hpl
theorem qL (hc:eZ X (.type T) r) (hg:Gl X x) (hm:X.mg x=none) (hv:bootBuiltins x=some (.type T)) (ha:PA X (e::es) t) (hn:x≠"__name__":=by decide) (hdb:(x==("__debug__":Str))=false:=by decide)
 (he:starEach (e::es) X.env=(false,eval e X.env)::starEach es X.env:=by rfl) (hpl:(backTo pos (starEach es X.env)).any (·.1)=false:=by rfl):PE X (.Call (.Name x p) (e::es) [] pos) (DG r t):=by
 intro π s σ H Q I h;refine wpAny_Call_Name_kw (fU I hg hm hv ?_ hn hdb);exact PyProof.Rows.callWith_type1 (bV (ha pos π s σ H _ I h) λus s1 ⟨vs,H1,I1,r1,q1⟩=>hc π s1 σ H1 vs us Q I1 r1 q1) he hpl
end
end L2
namespace HT
open PySem PyProof.Rows
theorem rcLt_int (A:Around) (s:Shared) (a:Int) (t:Tok) (c:Int) (u:Tok) (prog:Program) (w:World) (E:Value->Shared->Prop) (Q:Value->Shared->Prop) (h:Q (.bool (decide (a<c))) s):
 wpAny (model prog w) A (richCompare .Lt (.int a t) (.int c u)) Q E s:=
 (PyProof.Rows.lt_int h:wpAny (model prog w) A (compareOp .Lt (.int a t) (.int c u)) Q E s)
section
open PySem.SeqAt
open PySem.AutoSeq1 (wpAny_loadPart')
open PySem.MeetsSeq PySem.MeetsSeq2 PySem.MeetsSeq3
end
section
variable {prog:Program} {w:World} {A:Around} {E:Value->Shared->Prop} {s:Shared}
theorem cat_tup {t b:Addr} {vs ws:List Value} (ht:IsTup s.heap t vs.toArray) (hb:IsTup s.heap b ws.toArray) (hv:vs≠[])
 (h1:ws=[]->Q (.ref t) s) (h2:ws≠[]->Q (.ref s.heap.objs.size) { s with heap:=s.heap.push { cls:= .type "tuple",data:= .seq (vs++ws).toArray } })
 (hsz:vs.length+ws.length<=sizeLine):wpAny (model prog w) A (binaryOp .Add (.ref t) (.ref b)) Q E s:=by
 obtain⟨⟨cls,dd,data,sl⟩,ho,hc,n,hd⟩:=id ht;obtain⟨⟨cls2,dd2,data2,sl2⟩,ho2,hc2,n2,hd2⟩:=id hb;simp only at hc hd hc2 hd2;subst hc hd hc2 hd2;have e:vs.toArray++ws.toArray=(vs++ws).toArray:=by simp
 by_cases hw:ws=[]
 ·exact concat_meets ⟨_,ho,rfl⟩ ⟨_,ho2,rfl⟩ noFill_tuple_add seq_tuple_add PySem.F.slot_tuple_add PySem.F.entry_tuple_add (PySem.F.args_tuple_add_2 _ _)
   (tuple_addW1 t b vs.toArray ws.toArray n n2 dd dd2 sl sl2 (by simpa using hv) (by simp[hw])) ⟨ho,ho2,h1 hw⟩
 ·refine concat_meets ⟨_,ho,rfl⟩ ⟨_,ho2,rfl⟩ noFill_tuple_add seq_tuple_add PySem.F.slot_tuple_add PySem.F.entry_tuple_add (PySem.F.args_tuple_add_2 _ _)
   (tuple_addW2 t b vs.toArray ws.toArray n n2 dd dd2 sl sl2 (by simpa using hv) (by simpa using hw) (by rw[size_toArray,size_toArray];exact hsz)) ⟨ho,ho2,?_⟩
  rw[e];exact h2 hw
noncomputable def sIx (n d:Nat):Option Int->Nat
 | none=>d
 | some v=>if v<0 then (v+(n:Int)).toNat else min v.toNat n
theorem sIx_none (n d:Nat):sIx n d none=d:=rfl
theorem sIx_nat (n d k:Nat):sIx n d (some (k:Int))=min k n:=by
 show(if (k:Int)<0 then ((k:Int)+(n:Int)).toNat else min (k:Int).toNat n)=min k n;rw[if_neg (by lia),Int.toNat_natCast]
theorem yO (n d:Nat) (hd:d<=n) (o:Option Int):sIx n d o<=n:=by
 cases o with
 | none=>exact hd
 | some v=>
   show(if v<0 then (v+(n:Int)).toNat else min v.toNat n)<=n
   by_cases hv:v<0
   ·rw[if_pos hv];lia
   ·rw[if_neg hv];exact Nat.min_le_right _ _
theorem pw (v:Int) (n d:Nat):(if v<0 then max (v+(n:Int)) 0 else min v (n:Int))=((sIx n d (some v):Nat):Int):=by
 show(if v<0 then max (v+(n:Int)) 0 else min v (n:Int))=(((if v<0 then (v+(n:Int)).toNat else min v.toNat n):Nat):Int)
 by_cases hv:v<0
 ·simp only[if_pos hv];(clear hv;lia)
 ·simp only[if_neg hv];lia
theorem n9 (lo hi:Option Int) (n:Nat):Builtin.Slice.sliceAdjust lo hi 1 (n:Int)=(((sIx n 0 lo:Nat):Int),((sIx n n hi:Nat):Int)):=by
 have h1:¬((1:Int)<0):=by lia
 unfold Builtin.Slice.sliceAdjust;simp only[h1,if_false];refine Prod.ext ?_ ?_
 ·cases lo with
  | none=>rfl
  | some v=>exact pw v n 0
 ·cases hi with
  | none=>rfl
  | some v=>exact pw v n n
theorem og (i j:Nat):Builtin.Slice.slicePlaces (i:Int) (j:Int) 1=j-i:=by
 unfold Builtin.Slice.slicePlaces;have h1:(1:Int) > 0:=by lia
 simp only[h1,if_true,Int.ediv_one];split<;> (clear h1;lia)
theorem ji {v:Value} {o:Option Int} {Q:Option Int->Shared->Prop} (p:IsPart v o) (h:Q o s):wpAny (model prog w) A (Builtin.Slice.slicePartIndex v) Q E s:=by
 cases p with
 | none=>exact slicePart_none h
 | int i t=>exact slicePart_int h
theorem sliceApplied_gen {sl:Addr} {vl vu:Value} {lo hi:Option Int} {n:Nat} {Q:Int×Int×Nat->Shared->Prop} (hs:s.heap.IsSliceOf sl vl vu .none) (pl:IsPart vl lo) (pu:IsPart vu hi)
 (h:Q (((sIx n 0 lo:Nat):Int),1,sIx n n hi-sIx n 0 lo) s):wpAny (model prog w) A (Builtin.Slice.sliceApplied (.ref sl) (pure (n:Int))) Q E s:=by
 obtain⟨os,hos,hcs,hds⟩:=id hs;unfold Builtin.Slice.sliceApplied Builtin.Slice.sliceFields;refine wax (wax (wpAny_field hos hds (x:=vl) rfl (wax (wpAny_field hos hds (x:=vu) rfl (wax (wpAny_field hos hds (x:= .none) rfl (way ?_)))))));refine wax (slicePart_none ?_);show wpAny _ _ (if ((1:Int)==0)=true then _ else _) _ _ s;rw[if_neg (by decide)];refine wax (ji pl (wax (ji pu (wax (way ?_)))));show wpAny _ _ (match Builtin.Slice.sliceAdjust lo hi 1 (n:Int) with | (lo,hi)=>pure (lo,(1:Int),Builtin.Slice.slicePlaces lo hi 1)) _ _ s;rw[n9 lo hi n];show wpAny _ _ (pure (((sIx n 0 lo:Nat):Int),(1:Int),Builtin.Slice.slicePlaces ((sIx n 0 lo:Nat):Int) ((sIx n n hi:Nat):Int) 1)) _ _ s;rw[og];exact way h
theorem rY (xs:Array Value) (i k:Nat):((List.range k).filterMap λ(m:Nat)=>xs[((i:Int)+(m:Int)*1).toNat]?).toArray=((xs.toList.drop i).take k).toArray:=by
 have e:(λ(m:Nat)=>xs[((i:Int)+(m:Int)*1).toNat]?)=λm=>xs[i+m]?:=by
  funext m
  have:((i:Int)+(m:Int)*1).toNat=i+m:=by lia
  rw[this]
 rw[e];have:=pick_run xs i k;rw[List.filterMap_map] at this;have e2:((λx=>xs[x]?) ∘ λx=>i+x)=λm=>xs[i+m]?:=rfl;rw[e2] at this;rw[this]
theorem getItem_tuple_cut {t sl:Addr} {vl vu:Value} {lo hi:Option Int} (ht:IsTup s.heap t items) (hs:s.heap.IsSliceOf sl vl vu .none) (pl:IsPart vl lo) (pu:IsPart vu hi)
 (hw:¬(sIx items.size 0 lo=0/\sIx items.size items.size hi=items.size))
 (h:Q (.ref s.heap.objs.size) { s with heap:=s.heap.push { cls:= .type "tuple",data:= .seq ((items.toList.drop (sIx items.size 0 lo)).take (sIx items.size items.size hi-sIx items.size 0 lo)).toArray } })
 (hsz:items.size<=sizeLine):wpAny (model prog w) A (getItem (.ref t) (.ref sl)) Q E s:=by
 have htake:sizeOk (.seq ((items.toList.drop (sIx items.size 0 lo)).take (sIx items.size items.size hi-sIx items.size 0 lo)).toArray):=by
  show((items.toList.drop (sIx items.size 0 lo)).take (sIx items.size items.size hi-sIx items.size 0 lo)).toArray.size<=sizeLine;rw[size_toArray,length_take,length_drop,Array.length_toList]
  (clear hw;lia)
 have hj:sIx items.size items.size hi<=items.size:=yO _ _ (le_refl _) hi;obtain⟨os,hos,hcs,hds⟩:=id hs;have hTs:s.TypeIs (.ref sl) "slice":=⟨os,hos,hcs⟩;unfold getItem
 try with_reducible refine wpAny_holding ?_
 first | refine wax (way ?_) | skip
 refine wax (wpAny_sequenceKey ht.typeIs (by decide) ?_);refine wax (wpAny_callSpecial?_slot (name:=Str.ofString "__getitem__") ht.typeIs PyProof.Rows.slot_tuple_getitem
  (wpAny_call_entry PyProof.Rows.slot_tuple_getitem ht.typeIs entry_tuple_getitem ?_ (args_tuple_getitem _ _)))
 show wpAny _ _ (Builtin.Tuple.tupleItemsOf (.ref t) >>= _) _ _ s;refine wax (tupleItemsOf_ ht ?_);refine wax (wpAny_typeOf hTs ?_);rw[if_pos (by decide)];refine wax (sliceApplied_gen hs pl pu ?_);have hno:¬((((sIx items.size 0 lo:Nat):Int)==0&&(1:Int)==1&&(sIx items.size items.size hi-sIx items.size 0 lo)==items.size)=true):=by
  intro q;rw[Bool.and_eq_true,Bool.and_eq_true] at q;have q1:((sIx items.size 0 lo:Nat):Int)=0:=eq_of_beq q.1.1;have q2:sIx items.size items.size hi-sIx items.size 0 lo=items.size:=eq_of_beq q.2;exact hw ⟨by (clear hw hsz hj q2;lia),by (clear hw hsz;lia)⟩
 show wpAny _ _ (if (((sIx items.size 0 lo:Nat):Int)==0&&(1:Int)==1&&(sIx items.size items.size hi-sIx items.size 0 lo)==items.size)=true then _ else _) _ _ s;rw[if_neg hno,rY]
 first
  | exact wax (m:=Builtin.Tuple.tupleExact _) (wpAny_newObj_type (way ⟨_,rfl,way h⟩) htake)
  | exact wax (m:=Builtin.Tuple.tupleExact _) (wpAny_newObj_type (wax (way (way ⟨_,rfl,way h⟩))) htake)
  | exact wax (wax (m:=Builtin.Tuple.tupleExact _) (wpAny_newObj_type (way (way ⟨_,rfl,way h⟩)) htake))
  | exact wax (wax (m:=Builtin.Tuple.tupleExact _) (wpAny_newObj_type (way ⟨_,rfl,way h⟩) htake))
end
end HT
namespace L2
open PySem PySem.Spec PyProof.Rows
noncomputable abbrev TO:=St->Hp->(Option Int->Hp->Prop)->Prop
noncomputable def PO (X:Cx) (e:Option Expr) (t:TO):Prop:=
 ∀(π:List (Addr×Obj)) (s:Shared) (σ:St) (H:Hp) (Q:Option Int->Hp->Prop),aC X π σ H s->t σ H Q->
  wpAny (model X.prog X.w) X.A (evalPart e X.env) (λu s'=>∃o H',aC X π σ H' s'/\IsPart u o/\Q o H') X.xe s
noncomputable def vC:TO:=λ_ H Q=>Q none H
noncomputable def Ba (t:TE):TO:=λσ H Q=>t σ H λx H1=>∃i,x=.int i/\Q (some i) H1
theorem intsAre_of {ns:List Int}:∀{us:List Value},aX (ns.map V.int) us->IntsAre us ns:=by
 induction ns with
 | nil=>intro us r;rw[map_nil] at r;cases r;exact .nil
 | cons n ns ih=>
   intro us r;rw[map_cons] at r;cases r with
   | cons r1 r2=>
     obtain⟨t,e⟩:=r1;subst e;exact .cons n t (ih r2)
section
variable {X:Cx} {e:Expr} {te:TE} {lo hi:Option Expr} {tl th:TO} {pos p2:Pos}
theorem po_none:PO X none vC:=by
 intro π s σ H Q I h;rw[evalPart_none];exact way ⟨none,H,I,.none,h⟩
theorem vD (h:PE X e te):PO X (some e) (Ba te):=by
 intro π s σ H Q I hw;rw[evalPart_some];refine bV (h π s σ H _ I hw) λu s1 z9=>?_;obtain⟨x,H1,I1,r1,q1⟩:=z9;obtain⟨i,rfl,q⟩:=q1;obtain⟨t,rfl⟩:=r1;exact⟨some i,H1,I1,.int i t,q⟩
noncomputable def Bb (X:Cx) (r:V->Option Int->Option Int->Hp->VK->Prop):Prop:=
 ∀(π:List (Addr×Obj)) (s:Shared) (σ:St) (H:Hp) (x:V) (v vl vu:Value) (lo hi:Option Int) (sl:Addr) (Q:VK),aC X π σ H s->bf x v->s.heap.IsSliceOf sl vl vu .none->IsPart vl lo->IsPart vu hi->r x lo hi H Q->
  ∃T id,typeLookup (.type T) "__getitem__"=pure (some (.builtin id))/\s.TypeIs v T/\wpAny (model X.prog X.w) X.A (getItem v (.ref sl)) (EP X π σ Q) X.xe s
noncomputable def FA (r:V->Option Int->Option Int->Hp->VK->Prop) (te:TE) (tl th:TO):TE:=λσ H Q=>te σ H λx H1=>tl σ H1 λl H2=>th σ H2 λu H3=>r x l u H3 Q
theorem rZ {r:V->Option Int->Option Int->Hp->VK->Prop} (hr:Bb X r) (he:PE X e te) (hl:PO X lo tl) (hu:PO X hi th):PE X (.Subscript e (.Slice lo hi none p2) pos) (FA r te tl th):=by
 intro π s σ H Q I h;refine Subscript_ (bV (he π s σ H _ I h) λv s1 z9=>?_);obtain⟨x,H1,I1,r1,q1⟩:=z9;refine wpAny_Slice (bV (hl π s1 σ H1 _ I1 q1) λvl s2 ⟨l,H2,I2,pl,q2⟩=>bV (hu π s2 σ H2 _ I2 q2) λvu s3 z9=>?_);obtain⟨u,H3,I3,pu,q3⟩:=z9;rw[evalPart_none];refine way ?_;have I4:aC X π σ H3 { s3 with heap:=s3.heap.push { cls:= .type "slice",data:= .fields #[vl,vu,.none] } }:=I3.kept (t':=s3.toks) λb ob q=>Heap.get?_push_of_some _ q;obtain⟨T,id,hT,ht,hg⟩:=hr π { s3 with heap:=s3.heap.push { cls:= .type "slice",data:= .fields #[vl,vu,.none] } } σ H3 x v vl vu l u s3.heap.objs.size Q I4 r1 (Heap.IsSliceOf.new ..) pl pu q3;show wpAny (model X.prog X.w) X.A (subscriptTail e (.Slice lo hi none p2) v (.ref s3.heap.objs.size)) (EP X π σ Q) X.xe { s3 with heap:=s3.heap.push { cls:= .type "slice",data:= .fields #[vl,vu,.none] } };exact tail_any (ops:=[.ref s3.heap.objs.size,v]) ht hT hg (by with_unfolding_all rfl)
noncomputable def mE (xs:List V) (lo hi:Option Int):List V:=(xs.drop (HT.sIx xs.length 0 lo)).take (HT.sIx xs.length xs.length hi-HT.sIx xs.length 0 lo)
theorem iA (xs:List V) (lo hi:Option Int):(mE xs lo hi).length<=xs.length:=by
 unfold mE;rw[length_take,length_drop];lia
noncomputable def DH (K:PySem.W.Frag):V->Option Int->Option Int->Hp->VK->Prop:=λx lo hi H Q=>∃a xs,x=.ref a/\cO K H a xs/\
 ¬(HT.sIx xs.length 0 lo=0/\HT.sIx xs.length xs.length hi=xs.length)/\∀p,H p=none->Q (.ref p) (upd H p (.tup (mE xs lo hi)))
theorem yP:Bb X (DH X.K):=by
 intro π s σ H x v vl vu lo hi sl Q I rx hs pl pu h;obtain⟨a,xs,rfl,hx,hw,q⟩:=h;cases rx;obtain⟨its,r,ht,hz⟩:=I.tuple hx;have hlen:its.toArray.size=xs.length:=by rw[size_toArray];exact r.length.symm
 refine⟨"tuple",_,PyProof.Rows.slot_tuple_getitem.lookup,ht.typeIs,?_⟩;refine HT.getItem_tuple_cut ht hs pl pu (by rw[hlen];exact hw) ?_ (by rw[hlen];exact hz);rw[hlen];refine⟨.ref s.heap.objs.size,_,I.laid (t':=s.toks) (o:= .tup (mE xs lo hi)) (λb ob q=>Heap.get?_push_of_some _ q) (le_refl _) ?_,rfl,q _ (I.hok.fresh (le_refl _))⟩;exact⟨le_trans (iA xs lo hi) hz,_,(r.drop (HT.sIx xs.length 0 lo)).take (HT.sIx xs.length xs.length hi-HT.sIx xs.length 0 lo),IsTup.new _ _⟩
noncomputable def Bc (K:PySem.W.Frag):R2:=λx y H Q=>∃a b xs ys,x=.ref a/\y=.ref b/\cO K H a xs/\cO K H b ys/\xs≠[]/\xs.length+ys.length<=sizeLine/\
 (ys=[]->Q (.ref a) H)/\(ys≠[]->∀p,H p=none->Q (.ref p) (upd H p (.tup (xs++ys))))
theorem aX.nil_iff {xs:List V} (r:aX xs us):us=[]↔xs=[]:=by
 cases r with
 | nil=>simp
 | cons _ _=>simp
theorem vE:iS X (binaryOp .Add) (Bc X.K):=by
 intro π s σ H x y v u Q I rx ry h;obtain⟨a,b,xs,ys,rfl,rfl,ha,hb,hx,hz,q1,q2⟩:=h;cases rx;cases ry;obtain⟨its,r1,p1,_⟩:=I.tuple ha;obtain⟨its2,r2,p2,_⟩:=I.tuple hb;refine HT.cat_tup p1 p2 (λz=>hx (r1.nil_iff.mp z)) (λz=>⟨.ref a,H,I,rfl,q1 (r2.nil_iff.mp z)⟩) (λz=>?_) (by rw[←r1.length,←r2.length];exact hz);refine⟨.ref s.heap.objs.size,_,I.laid (t':=s.toks) (o:= .tup (xs++ys)) (λb ob q=>Heap.get?_push_of_some _ q) (le_refl _) ?_,rfl,q2 (λw=>z (r2.nil_iff.mpr w)) _ (I.hok.fresh (le_refl _))⟩;exact⟨by rw[length_append];exact hz,_,r1.append r2,IsTup.new _ _⟩
end
noncomputable def r6 (n:Nat) (i:Int):Option Nat:=if 0<=i then (if i<n then some i.toNat else none) else if -(n:Int)<=i then some (i+n).toNat else none
noncomputable def fL {α:Type} (xs:List α) (i:Int):Option α:=(r6 xs.length i).bind λj=>xs[j]?
theorem vF {n:Nat} {i:Int} {j:Nat} (h:r6 n i=some j):seqIndex? i n=some j/\j<n/\-(n:Int)<=i/\i<n:=by
 unfold r6 at h
 by_cases h0:0<=i
 ·rw[if_pos h0] at h
  by_cases h1:i<n
  ·rw[if_pos h1] at h;have e:i.toNat=j:=Option.some.inj h;exact⟨by rw[seqIndex_of h0 h1,e],by lia,by (clear h1 e;lia),h1⟩
  ·rw[if_neg h1] at h;cases h
 ·rw[if_neg h0] at h
  by_cases h1: -(n:Int)<=i
  ·rw[if_pos h1] at h;have e:(i+n).toNat=j:=Option.some.inj h;exact⟨by rw[seqIndex_neg (by (clear h1 e;lia)) h1,e],by lia,h1,by (clear e;lia)⟩
  ·rw[if_neg h1] at h;cases h
theorem lu {α:Type} {xs:List α} {i:Int} {v:α} (h:fL xs i=some v):∃j,seqIndex? i xs.length=some j/\xs[j]?=some v/\j<xs.length/\-(xs.length:Int)<=i/\i<xs.length:=by
 unfold fL at h;cases e:r6 xs.length i with
 | none=>rw[e] at h;cases h
 | some j=>
   rw[e] at h;obtain⟨h1,h2,h3,h4⟩:=vF e;exact⟨j,h1,h,h2,h3,h4⟩
theorem cM {α:Type} {xs:List α} {j:Nat} {v:α} (h:xs[j]?=some v):fL xs (j:Int)=some v:=by
 have hj:j<xs.length:=(List.getElem?_eq_some_iff.mp h).1;have e:r6 xs.length (j:Int)=some j:=by
  unfold r6;rw[if_pos (by (clear h hj;lia)),if_pos (by (clear h;lia))];simp
 unfold fL;rw[e];exact h
noncomputable def px (b:Expr):Prop:=∀o i,subscripted b false o i=operate [o,i] (getItem o i)
noncomputable def Bf (X:Cx) (r:R2):Prop:=
 ∀(value slice:Expr) (π:List (Addr×Obj)) (s:Shared) (σ:St) (H:Hp) (x y:V) (v u:Value) (Q:VK),aC X π σ H s->bf x v->bf y u->r x y H Q->
  subscripted slice false v u=operate [v,u] (getItem v u)->wpAny (model X.prog X.w) X.A (subscriptTail value slice v u) (EP X π σ Q) X.xe s
noncomputable def Bh (X:Cx) (id:String) (r:V->List V->Hp->VK->Prop):Prop:=
 ∀(π:List (Addr×Obj)) (s:Shared) (σ:St) (H:Hp) (x:V) (xs:List V) (v:Value) (us:List Value) (Q:VK),aC X π σ H s->bf x v->aX xs us->r x xs H Q->
  wpAny (model X.prog X.w) X.A (call (.builtin id) (v::us)) (EP X π σ Q) X.xe s
section
variable {X:Cx} {a b:Expr} {ta tb:TE} {pos:Pos}
theorem Bi {r:R2} (hr:Bf X r) (ha:PE X a ta) (hb:PE X b tb) (hs:px b):PE X (.Subscript a b pos) (AZ r ta tb):=by
 intro π s σ H Q I h;exact Subscript_ (yE ha hb I h λv u s2 x y H2 I2 rx ry q=>hr a b π s2 σ H2 x y v u Q I2 rx ry q (hs _ _))
noncomputable def DI (K:PySem.W.Frag):R2:=λx y H Q=>∃p xs i v,x=.ref p/\y=.int i/\cU K H p xs/\fL xs i=some v/\Q v H
noncomputable def DJ (K:PySem.W.Frag):R2:=λx y H Q=>∃p xs i v,x=.ref p/\y=.int i/\cO K H p xs/\fL xs i=some v/\Q v H
noncomputable def DK:R2:=λx y H Q=>∃z i c,x=.str z/\y=.int i/\z.length<=sizeLine/\fL z.cps.toList i=some c/\Q (.str ⟨#[c]⟩) H
theorem pz:Bf X (DI X.K):=by
 intro value slice π s σ H x y v u Q I rx ry h hs;obtain⟨p,xs,i,z,rfl,rfl,hq,he,q⟩:=h;cases rx;obtain⟨t,rfl⟩:=ry;obtain⟨its,r,pl,hz⟩:=I.list hq;obtain⟨j,h1,h2,h3,h4,h5⟩:=lu he;obtain⟨w,ew,rw'⟩:=r.get h2;have hl:=r.length;have hn:=jg;have fin:EP X π σ Q w s:=⟨z,H,I,rw',q⟩
 by_cases h0:0<=i
 ·have hj:i.toNat=j:=by
   rw[seqIndex_of h0 h5] at h1;exact Option.some.inj h1
  exact item_listR pl.isList h0 (by (clear h2 h3 h4 ew h0 hj;lia)) (by rw[hj];simpa using ew) fin hs
 ·have hj:(i+(its.toArray.size:Int)).toNat=j:=by
   rw[seqIndex_neg (by (clear hz h2 h3 h4 h5 ew hl hn;lia)) h4] at h1;rw[size_toArray,←hl];exact Option.some.inj h1
  exact subscriptTail_builtinR (x:=w) pl.isList.typeIs slot_list_getitem.lookup
   (wpAny_getItem_list_neg (Q:=λr s'=>r=w/\EP X π σ Q r s') pl.isList (by (clear hz h2 h3 h4 h5 ew hl hn hj;lia)) (by rw[size_toArray]<;> (clear hz h2 h3 h5 ew hn h0 hj;lia)) (by (clear h2 h3 h5 ew h0 hj;lia)) (by rw[hj];simpa using ew) ⟨rfl,fin⟩) hs
theorem yQ:Bf X (DJ X.K):=by
 intro value slice π s σ H x y v u Q I rx ry h hs;obtain⟨p,xs,i,z,rfl,rfl,hq,he,q⟩:=h;cases rx;obtain⟨t,rfl⟩:=ry;obtain⟨its,r,pl,hz⟩:=I.tuple hq;obtain⟨j,h1,h2,h3,h4,h5⟩:=lu he;obtain⟨w,ew,rw'⟩:=r.get h2;have hl:=r.length;have hn:=jg;have fin:EP X π σ Q w s:=⟨z,H,I,rw',q⟩;exact subscriptTail_builtinR (x:=w) pl.typeIs slot_tuple_getitem.lookup
  (getItem_tuple (j:=j) (Q:=λr s'=>r=w/\EP X π σ Q r s') pl (by (clear h2 h5 ew;lia)) (by (clear h2 h4 ew;lia)) (by rw[size_toArray,←hl];exact h1) (by simpa using ew) ⟨rfl,fin⟩) hs
theorem yR:Bf X DK:=by
 intro value slice π s σ H x y v u Q I rx ry h hs;obtain⟨z,i,c,rfl,rfl,hz,he,q⟩:=h;obtain⟨t,rfl⟩:=rx;obtain⟨t',rfl⟩:=ry;obtain⟨j,h1,h2,h3,h4,h5⟩:=lu he;have hl:z.cps.toList.length=z.length:=by simp[Str.length]
 rw[hl] at h1 h4 h5;have hn:=jg;exact tail_any (typeIs_str s z t) slot_str_getitem.lookup (getItem_str (c:=c) (by
  have e1:decide (i< -(2^63:Int))=false:=decide_eq_false (by (clear h2 h3 h5;lia));have e2:decide (i≥2^63)=false:=decide_eq_false (by (clear h2 h3 h4 e1;lia));rw[e1,e2,Bool.or_false]) (by rw[h1];simpa using h2) ⟨.str ⟨#[c]⟩,H,I.tok _,⟨_,rfl⟩,q⟩) hs
theorem lv (lo hi:Option Int) (n:Nat):(sliceBounds lo hi none n).1=((HT.sIx n 0 lo:Nat):Int)/\(sliceBounds lo hi none n).2.1=((HT.sIx n n hi:Nat):Int)/\(sliceBounds lo hi none n).2.2=1:=by
 refine⟨?_,?_,rfl⟩
 ·cases lo with
  | none=>simp[sliceBounds,HT.sIx]
  | some i=>
    simp only[sliceBounds,HT.sIx,Option.getD_none,show(1:Int) > 0 by decide,if_true]
    by_cases h:i<0
    ·simp only[h,if_true]<;> lia
    ·simp only[h,if_false]<;> lia
 ·cases hi with
  | none=>simp[sliceBounds,HT.sIx]
  | some i=>
    simp only[sliceBounds,HT.sIx,Option.getD_none,show(1:Int) > 0 by decide,if_true]
    by_cases h:i<0
    ·simp only[h,if_true]<;> lia
    ·simp only[h,if_false]<;> lia
theorem j6 (its:List Value) (lo hi:Option Int):slicePick its.toArray lo hi none=((its.drop (HT.sIx its.length 0 lo)).take (HT.sIx its.length its.length hi-HT.sIx its.length 0 lo)).toArray:=by
 obtain⟨h1,h2,h3⟩:=lv lo hi its.toArray.size;unfold slicePick;rw[h1,h2,h3];simp only[sliceRange_one,pick_run,size_toArray]<;> rfl
noncomputable def DL (K:PySem.W.Frag):V->Option Int->Option Int->Hp->VK->Prop:=λx lo hi H Q=>∃a xs,x=.ref a/\cU K H a xs/\∀p,H p=none->Q (.ref p) (upd H p (.lst (mE xs lo hi)))
theorem pA:Bb X (DL X.K):=by
 intro π s σ H x v vl vu lo hi sl Q I rx hs pl pu h;obtain⟨a,xs,rfl,hx,q⟩:=h;cases rx;obtain⟨its,r,ht,hz⟩:=I.list hx;have hlen:=r.length;refine⟨"list",_,slot_list_getitem.lookup,ht.isList.typeIs,?_⟩;refine wpAny_getItem_list_slice ht.isList hs pl pu .none (by simp) ?_ (by rw[size_toArray]<;> lia);rw[j6,←hlen];refine⟨.ref s.heap.objs.size,_,I.laid (t':=s.toks) (o:= .lst (mE xs lo hi)) (λb ob q=>Heap.get?_push_of_some _ q) (le_refl _) ?_,rfl,q _ (I.hok.fresh (le_refl _))⟩;exact⟨le_trans (iA xs lo hi) hz,_,0,(r.drop (HT.sIx xs.length 0 lo)).take (HT.sIx xs.length xs.length hi-HT.sIx xs.length 0 lo),Heap.get?_push_size _ rfl⟩
theorem eA:eZ X (.builtin "len") (λxs H Q=>∃p ys,xs=[.ref p]/\(cU X.K H p ys∨cO X.K H p ys)/\Q (.int ys.length) H):=by
 intro π s σ H xs us Q I r h;obtain⟨p,ys,rfl,hq,q⟩:=h;obtain⟨u,rfl,rx⟩:=eU r;cases rx;have hn:=jg;rcases hq with hq | hq
 ·obtain⟨its,r',pl,hz⟩:=I.list hq;have hlen:=r'.length;exact Calls.call_len_list pl.isList (by simp only[size_toArray]<;> lia) ⟨.int ys.length,H,I.tok _,⟨s.toks+1,by rw[size_toArray,hlen]⟩,q⟩
 ·obtain⟨its,r',pl,hz⟩:=I.tuple hq;have hlen:=r'.length;exact len_tuple pl (by simp only[size_toArray]<;> lia) ⟨.int ys.length,H,I.tok _,⟨s.toks+1,by rw[size_toArray,hlen]⟩,q⟩
theorem lw:eZ X (.builtin "len") (λxs H Q=>∃z,xs=[.str z]/\z.length<=sizeLine/\Q (.int z.length) H):=by
 intro π s σ H xs us Q I r h;obtain⟨z,rfl,hz,q⟩:=h;obtain⟨u,rfl,t,rfl⟩:=eU r;have hn:=jg;exact len_str (by lia) ⟨.int z.length,H,I.tok _,⟨_,rfl⟩,q⟩
theorem gt:eZ X (.type "list") (λxs H Q=>∃p ys,xs=[.ref p]/\(cU X.K H p ys∨cO X.K H p ys)/\∀l,H l=none->Q (.ref l) (upd H l (.lst ys))):=by
 intro π s σ H xs us Q I r h;obtain⟨p,ys,rfl,hq,q⟩:=h;obtain⟨u,rfl,rx⟩:=eU r;cases rx;have fin:∀(its:List Value),aX ys its->ys.length<=sizeLine->∀(h':Heap) (c':Nat),(∀b o',s.heap.get? b=some o'->h'.get? b=some o')->
  h'.get? s.heap.objs.size=some { cls:= .type "list",dict:=none,data:= .seq its.toArray c',slots:= #[] }->EP X π σ Q (.ref s.heap.objs.size) { s with heap:=h' }:=λits r' hz h' c' kp e=>
  ⟨.ref s.heap.objs.size,_,I.laid (t':=s.toks) kp (le_refl _) (show bB X.prog X.w _ h' _ (.lst ys) from ⟨hz,its,c',r',e⟩),rfl,q _ (I.hok.fresh (le_refl _))⟩
 rcases hq with hq | hq
 ·obtain⟨its,r',pl,hz⟩:=I.list hq;have hlen:=r'.length;obtain⟨o,ho,hc,n,hd⟩:=pl.isList;exact call_list_seq p (.inl rfl) ho hc hd (λh' c' kp e=>fin its r' hz h' c' kp e) (by simp only[size_toArray]<;> lia)
 ·obtain⟨its,r',pl,hz⟩:=I.tuple hq;have hlen:=r'.length;obtain⟨o,ho,hc,n,hd⟩:=pl;exact call_list_seq p (.inr rfl) ho hc hd (λh' c' kp e=>fin its r' hz h' c' kp e) (by simp only[size_toArray]<;> lia)
theorem fP:eZ X (.type "tuple") (λxs H Q=>∃p ys,xs=[.ref p]/\((cU X.K H p ys/\∀l,H l=none->Q (.ref l) (upd H l (.tup ys)))∨(cO X.K H p ys/\Q (.ref p) H))):=by
 intro π s σ H xs us Q I r h;obtain⟨p,ys,rfl,h⟩:=h;obtain⟨u,rfl,rx⟩:=eU r;cases rx;rcases h with⟨hq,q⟩ | ⟨hq,q⟩
 ·obtain⟨its,r',pl,hz⟩:=I.list hq;have hlen:=r'.length;refine call_tuple_list pl.isList (λh' kp=>?_) (by simp only[size_toArray]<;> lia);have I1:aC X π σ H { s with heap:=h' }:=I.kept (t':=s.toks) kp;have I2:aC X π σ (upd H h'.objs.size (.tup ys)) { s with heap:=h'.push { cls:= .type "tuple",data:= .seq its.toArray } }:=
   I1.laid (t':=s.toks) (λb o e=>Heap.get?_push_of_some _ e) (le_refl _) (show bB X.prog X.w _ _ _ (.tup ys) from ⟨hz,its,r',IsTup.new _ _⟩)
  exact⟨.ref h'.objs.size,_,I2,rfl,q _ (I1.hok.fresh (le_refl _))⟩
 ·obtain⟨its,r',pl,hz⟩:=I.tuple hq;exact call_tuple_same pl ⟨.ref p,H,I,rfl,q⟩
noncomputable def C9 (K:PySem.W.Frag) (T:String) (x:V) (H:Hp):Prop:=match x with
 | .str _=>T="str"
 | .int _=>T="int"
 | .ref p=>(T="list"/\∃xs,cU K H p xs)∨(T="tuple"/\∃o,K.lookup p=some o/\o.cls=.type "tuple"/\o.dict=none)∨
    (T="dict"/\((∃kvs,H p=some (.dK kvs))∨∃kvs,H p=some (.dT kvs)))∨(T="set"/\∃S n,H p=some (.set S n))
 | _=>False
theorem oh {σ:St} {H:Hp} {T:String} {x:V} {v:Value} (I:aC X π σ H s) (r:bf x v) (ty:C9 X.K T x H):
 s.TypeIs v T/\∀a,v=.ref a->∃ob,s.heap.get? a=some ob/\ob.dict=none:=by
 cases x with
 | str z=>
   obtain⟨t,rfl⟩:=r;cases (show T="str" from ty);exact⟨typeIs_str s z t,λ_ e=>nomatch e⟩
 | int i=>
   obtain⟨t,rfl⟩:=r;cases (show T="int" from ty);exact⟨typeIs_int s i t,λ_ e=>nomatch e⟩
 | ref p=>
   cases r;rcases ty with⟨rfl,xs,hq⟩ | ⟨rfl,o,hk,hc,hd⟩ | ⟨rfl,hk⟩ | ⟨rfl,S,n,hk⟩
   ·obtain⟨its,_,pl,_⟩:=I.list hq;refine⟨pl.isList.typeIs,λa e=>?_⟩;cases e;obtain⟨o,n,e,c,hd,_⟩:=pl;exact⟨o,e,hd⟩
   ·refine⟨⟨o,I.kIn p o hk,hc⟩,λa e=>?_⟩;cases e;exact⟨o,I.kIn _ o hk,hd⟩
   ·have z:∃o,s.heap.get? p=some o/\o.ExactDict:=by
     rcases hk with⟨kvs,hk⟩ | ⟨kvs,hk⟩
     ·obtain⟨_,_,_,_,o,_,_,e,ex,_⟩:=I.hok p _ hk;exact⟨o,e,ex⟩
     ·obtain⟨_,_,_,_,o,_,_,e,ex,_⟩:=I.hok p _ hk;exact⟨o,e,ex⟩
    obtain⟨o,e,ex⟩:=z;refine⟨⟨o,e,ex.1⟩,λa e2=>?_⟩;cases e2;exact⟨o,e,ex.2.1⟩
   ·obtain⟨o,_,_,_,e,ex,_⟩:=I.hok p _ hk;refine⟨⟨o,e,ex.1⟩,λa e2=>?_⟩;cases e2;exact⟨o,e,ex.2.1⟩
 | _=>exact False.elim ty
noncomputable def DM (K:PySem.W.Frag) (T:String) (r:V->List V->Hp->VK->Prop) (to:TE):TE:=λσ H Q=>to σ H λx H1=>C9 K T x H1/\r x [] H1 Q
noncomputable def FB (K:PySem.W.Frag) (T:String) (r:V->List V->Hp->VK->Prop) (to:TE) (t:TA):TE:=λσ H Q=>to σ H λx H1=>C9 K T x H1/\t σ H1 λxs H2=>r x xs H2 Q
variable {o e:Expr} {es:List Expr} {to:TE} {t:TA} {name:Str} {apos cpos:Pos} {T id:String} {r:V->List V->Hp->VK->Prop}
theorem yS (pa:PlainAttrs T) (slot:Slot T name id) (hty:typeOf (.builtin id)=pure (.type "method_descriptor")) (hm:Bh X id r) (ho:PE X o to)
 (hbase:attributeBase o name X.env (eval o X.env)=eval o X.env:=by rfl) (hline:(apos.endLine==cpos.line)=true:=by rfl):PE X (.Call (.Attribute o name apos) [] [] cpos) (DM X.K T r to):=by
 intro π s σ H Q I h;refine wpAny_Call_method0_late hbase hline (bV (ho π s σ H _ I h) λv s1 z9=>?_);obtain⟨x,H1,I1,r1,ty,q1⟩:=z9;obtain⟨h1,h2⟩:=oh I1 r1 ty;exact⟨T,id,pa,slot,hty,h1,h2,Calls.callWith_builtin rfl (PySem.evalArgs_none (hm π s1 σ H1 x [] v [] Q I1 r1 .nil q1))⟩
theorem xI (pa:PlainAttrs T) (slot:Slot T name id) (hty:typeOf (.builtin id)=pure (.type "method_descriptor")) (hm:Bh X id r) (ho:PE X o to) (ha:PA X (e::es) t)
 (hbase:attributeBase o name X.env (eval o X.env)=eval o X.env:=by rfl)
 (hfew:((backTo cpos (starEach (e::es) X.env)).all (λx=>!x.1)&&(backToKw cpos (keywordEach [] X.env)).all (λx=>x.1.isSome)
   &&decide ((e::es).length+([]:List Keyword).length+(if ([]:List Keyword).isEmpty then 0 else 1)<30))=true:=by rfl)
 (hline:(apos.endLine==cpos.line)=true:=by rfl) (hs:starEach (e::es) X.env=(false,eval e X.env)::starEach es X.env:=by rfl) (hplain:(backTo cpos (starEach es X.env)).any (·.1)=false:=by rfl):
 PE X (.Call (.Attribute o name apos) (e::es) [] cpos) (FB X.K T r to t):=by
 intro π s σ H Q I h;refine wpAny_Call_method_late hbase hfew hline rfl (bV (ho π s σ H _ I h) λv s1 z9=>?_);obtain⟨x,H1,I1,r1,ty,q1⟩:=z9;obtain⟨h1,h2⟩:=oh I1 r1 ty;refine⟨T,id,pa,slot,hty,h1,h2,?_⟩;have hA:=ha cpos π s1 σ H1 _ I1 q1;rw[hs] at hA ⊢;refine Calls.callWith_builtin (by show(false||(backTo cpos (starEach es X.env)).any (·.1))=false;rw[hplain]<;> rfl) (Calls.evalArgs_plain ?_);exact bV hA λus s2 ⟨vs,H2,I2,r2,q2⟩=>hm π s2 σ H2 x vs v us Q I2 r1 r2 q2
end
noncomputable def Fc (X:Cx) (id:String) (r:V->List V->Hp->VK->Prop):Prop:=
 ∀(π:List (Addr×Obj)) (s:Shared) (σ:St) (H:Hp) (x:V) (xs:List V) (v:Value) (us:List Value) (Q:VK),aC X π σ H s->bf x v->aX xs us->r x xs H Q->
  wpAny (model X.prog X.w) X.A (call (.builtin id) (v::us)) (EP X π σ Q) X.xe s
theorem aX.one:∀{x:V} {us:List Value},aX [x] us->∃u,us=[u]/\bf x u
 | _,_,.cons r .nil=>⟨_,rfl,r⟩
theorem aX.zero:∀{us:List Value},aX [] us->us=[]
 | _,.nil=>rfl
theorem aX.dropLast {xs:List V} (h:aX xs us):aX xs.dropLast us.dropLast:=by
 induction h with
 | nil=>exact .nil
 | cons r t ih=>
   cases t with
   | nil=>exact .nil
   | cons q t'=>exact .cons r ih
theorem aX.rep {xs:List V} {us:List Value} (h:aX xs us):∀k:Nat,aX (List.replicate k xs).flatten (List.replicate k us).flatten
 | 0=> .nil
 | k+1=>by
   rw[replicate_succ,replicate_succ,flatten_cons,flatten_cons];exact aX.append h (aX.rep h k)
theorem oi {α:Type} (l:List α):l.eraseIdx (l.length-1)=l.dropLast:=by
 induction l with
 | nil=>rfl
 | cons a r ih=>
   cases r with
   | nil=>rfl
   | cons b r=>
     have e:(a::b::r).length-1=((b::r).length-1)+1:=by
      have h1:(a::b::r).length=r.length+2:=rfl;have h2:(b::r).length=r.length+1:=rfl;assumption
     rw[e,List.eraseIdx_cons_succ,ih]
     all_goals rfl
theorem g9 (its:List Value):∀(k:Nat) (acc:List Value),
 List.foldl (λx1 x2=>x1++x2) acc.toArray (List.replicate k its.toArray)=(acc++(List.replicate k its).flatten).toArray
 | 0,acc=>by simp
 | k+1,acc=>by
   have e:acc.toArray++its.toArray=(acc++its).toArray:=by simp
   have e2:(acc++its)++(List.replicate k its).flatten=acc++(List.replicate (k+1) its).flatten:=by
    rw[replicate_succ,flatten_cons,append_assoc]
   rw[←e2,←g9 its k (acc++its),←e,replicate_succ,foldl_cons]
section
variable {X:Cx} {π:List (Addr×Obj)} {σ:St} {H:Hp} {s:Shared} {l b:Addr} {xs ys zs:List V}
theorem aC.lset {its its':List Value} {n:Nat} {f:Array Value->Array Value} {t':Nat} (I:aC X π σ H s) (hH:H l=some (.lst xs))
 (e:s.heap.get? l=some { cls:= .type "list",data:= .seq its.toArray n }) (hf:f its.toArray=its'.toArray) (hv:aX ys its') (hz:ys.length<=sizeLine):
 aC X π σ (upd H l (.lst ys)) { s with heap:=s.heap.update l (Obj.mapSeq f),toks:=t' }:=by
 have q:=PySem.IsL.update e f;rw[hf] at q;refine I.write (x:=l) (e:=l) (by rw[hH];exact trivial) (.inl rfl) (λb' u hb hu=>(Heap.get?_update_other s.heap (Obj.mapSeq f) (Ne.symm hb)).trans hu) ⟨_,q⟩ ?_;exact⟨hz,its',_,hv,q⟩
theorem aC.lnew {its:List Value} {t':Nat} (I:aC X π σ H s) (hv:aX ys its) (hz:ys.length<=sizeLine):
 aC X π σ (upd H s.heap.objs.size (.lst ys)) { s with heap:=s.heap.push { cls:= .type "list",data:= .seq its.toArray },toks:=t' }:=
 I.laid (λ_ _ q=>Heap.get?_push_of_some _ q) (le_refl _) ⟨hz,its,0,hv,Heap.get?_push_size _ rfl⟩
theorem aC.fresh (I:aC X π σ H s):H s.heap.objs.size=none:=I.hok.fresh (le_refl _)
theorem aC.lstM (I:aC X π σ H s) (hH:H l=some (.lst xs)):xs.length<=sizeLine/\∃(its:List Value) (n:Nat),aX xs its/\xs.length=its.length/\s.heap.get? l=some { cls:= .type "list",data:= .seq its.toArray n }:=by
 obtain⟨z,its,n,r,e⟩:=I.hok l _ hH;exact⟨z,its,n,r,r.length,e⟩
theorem r9 {n:Nat} (h:n<=sizeLine):Builtin.List.listTooLong n=false:=by
 unfold Builtin.List.listTooLong;exact decide_eq_false (by lia)
end
section
variable {X:Cx}
noncomputable def vG:V->List V->Hp->VK->Prop:=λx vs H Q=>∃l xs y,x=.ref l/\vs=[y]/\H l=some (.lst xs)/\xs.length<sizeLine/\Q .non (upd H l (.lst (xs++[y])))
theorem qM:Fc X "list.append" vG:=by
 intro π s σ H x vs v us Q I rx rv h;obtain⟨l,xs,y,rfl,rfl,hH,hz,q⟩:=h;cases rx;obtain⟨u,rfl,ru⟩:=rv.one;obtain⟨z,its,n,r,hl,e⟩:=I.lstM hH;refine call_meets F.slot_list_append ⟨_,e,rfl⟩ F.entry_list_append (F.args_list_append_2 _ _) (PySem.list_append l its.toArray n u (by rw[size_toArray];(clear z;lia))) ⟨e,?_⟩;refine⟨.non,_,I.lset (its':=its++[u]) hH e (by simp) (r.append (.cons ru .nil)) ?_,rfl,q⟩;rw[length_append,List.length_singleton];assumption
noncomputable def DN:V->List V->Hp->VK->Prop:=λx vs H Q=>∃l xs y,x=.ref l/\vs=[]/\H l=some (.lst xs)/\xs[xs.length-1]?=some y/\Q y (upd H l (.lst xs.dropLast))
theorem yT:Fc X "list.pop" DN:=by
 intro π s σ H x vs v us Q I rx rv h;obtain⟨l,xs,y,rfl,rfl,hH,hy,q⟩:=h;cases rx;have hus:=rv.zero;subst hus;obtain⟨z,its,n,r,hl,e⟩:=I.lstM hH;obtain⟨u,hu,ru⟩:=r.get hy;have hy':its.toArray[its.toArray.size-1]?=some u:=by
  show its.toArray[its.length-1]?=some u;rw[←Array.getElem?_toList,←hl];exact hu
 refine call_meets F.slot_list_pop ⟨_,e,rfl⟩ F.entry_list_pop (F.args_list_pop_1 _) (MeetsSeq.list_pop_last l its.toArray n u hy' (by rw[size_toArray];(clear hy hu hy';lia))) ⟨e,?_⟩;refine⟨y,_,I.lset (its':=its.dropLast) hH e ?_ r.dropLast ?_,ru,q⟩
 ·show its.toArray.eraseIdxIfInBounds (its.toArray.size-1)=its.dropLast.toArray;rw[size_toArray,List.eraseIdxIfInBounds_toArray,oi]
 ·rw[List.length_dropLast]
  (clear hy hu hy';lia)
noncomputable def DO:R2:=λx y H Q=>∃l b xs zs,x=.ref l/\y=.ref b/\H l=some (.lst xs)/\H b=some (.lst zs)/\xs.length+zs.length<=sizeLine/\∀p,H p=none->Q (.ref p) (upd H p (.lst (xs++zs)))
theorem yU:iS X (binaryOp .Add) DO:=by
 intro π s σ H x y v u Q I rx ry h;obtain⟨l,b,xs,zs,rfl,rfl,hH,hB,hz,q⟩:=h;cases rx;cases ry;obtain⟨z,its,n,r,hl,e⟩:=I.lstM hH;obtain⟨z2,its2,n2,r2,hl2,e2⟩:=I.lstM hB;refine PySem.P.add_list e e2 ?_ (by rw[size_toArray,size_toArray];(clear z z2;lia));have ea:its.toArray++its2.toArray=(its++its2).toArray:=by simp
 rw[ea];exact⟨.ref _,_,I.lnew (t':=s.toks) (r.append r2) (by rw[length_append];assumption),rfl,q _ I.fresh⟩
noncomputable def DQ:R2:=λx y H Q=>∃l k xs,x=.ref l/\y=.int k/\H l=some (.lst xs)/\-(2^63)<=k/\k<2^63/\xs.length*k.toNat<=sizeLine/\
 ∀p,H p=none->Q (.ref p) (upd H p (.lst (List.replicate k.toNat xs).flatten))
theorem iU {α:Type} (xs:List α) (k:Nat):(List.replicate k xs).flatten.length=k*xs.length:=by
 induction k with
 | zero=>simp
 | succ k ih=>rw[replicate_succ,flatten_cons,length_append,ih,Nat.succ_mul,Nat.add_comm]
theorem yV:iS X (binaryOp .Mult) DQ:=by
 intro π s σ H x y v u Q I rx ry h;obtain⟨l,k,xs,rfl,rfl,hH,h1,h2,hz,q⟩:=h;cases rx;obtain⟨t,rfl⟩:=ry;obtain⟨z,its,n,r,hl,e⟩:=I.lstM hH;have hlen:its.toArray.size*k.toNat<=sizeLine:=by rw[size_toArray,←hl];exact hz
 have hcap:¬its.toArray.size*k.toNat > (2^63-1)/8:=by
  have:(sizeLine:Nat)<=(2^63-1)/8:=by decide
  (clear h1 h2 hz z hl;lia)
 have hfit:¬(!Builtin.List.listFitsIndex k)=true:=by
  rw[fitsIndex_both h1 h2];exact Bool.false_ne_true
 have hlong:¬Builtin.List.listTooLong (its.toArray.size*k.toNat)=true:=by
  rw[r9 hlen];exact Bool.false_ne_true
 have hnew:List.foldl (λx1 x2=>x1++x2) #[] (List.replicate (if its.toArray.isEmpty=true then 0 else k.toNat) its.toArray)=(List.replicate k.toNat its).flatten.toArray:=by
  have f0:∀m:Nat,List.foldl (λx1 x2=>x1++x2) #[] (List.replicate m its.toArray)=(List.replicate m its).flatten.toArray:=λm=>by
   have:=g9 its m [];rw[nil_append] at this;exact this
  rw[f0];cases its with
  | nil=>simp
  | cons a r'=>rw[if_neg (by simp)]
 refine wpAny_binaryOp_repeat_ref (T:="list") (U:="int") (by decide) ⟨_,e,rfl⟩ (λs'=>typeIs_int s' k t) noFill_list_mul F.fills_int_mul F.slot_int_rmul repeat_list F.slot_int_index.lookup
  (call_meets F.slot_int_rmul (typeIs_int s k t) F.entry_int_rmul (F.args_int_rmul_2 _ _) (int___rmul___int_list k t l its.toArray n)
    ⟨e,rfl,⟨_,e,rfl⟩,call_meets F.slot_list_mul ⟨_,e,rfl⟩ F.entry_list_mul (F.args_list_mul_2 _ _) (AutoListH.list___mul___list_int_3 l its.toArray n k t hfit hcap hlong) ⟨e,?_⟩⟩)
 rw[hnew];exact⟨.ref _,_,I.lnew (t':=s.toks) (r.rep k.toNat) (by rw[iU,Nat.mul_comm];exact hz),rfl,q _ I.fresh⟩
end
section
variable {prog:Program} {w:World} {A:Around} {E:Value->Shared->Prop} {s:Shared}
set_option maxRecDepth 100000 in
end
section
variable {X:Cx}
end
end L2
namespace Att
open PySem PySem.W PySem.Calls PyProof.Rows
theorem iN {P:Params} {h:Heap}:∀(ns:List Int) (vs:List Value),WellAll P h vs (ns.map WData.int)->IntsAre vs ns:=by
 intro ns
 induction ns with
 | nil=>
   intro vs w;rw[map_nil] at w;cases w;exact .nil
 | cons n ns ih=>
   intro vs w;rw[map_cons] at w;cases w with
   | cons a b=>
     cases a;exact .cons _ _ (ih _ b)
theorem script_of {l:OpenLaw} {n:Nat} (hn:l.most=some n) {P:Params} {h:Heap} {args:List WData} {vals:List Value}
 (hpre:l.row.toRowW.claim.pre args=true) (hwl:WellAll P h vals args):
 ∃a vs ns,vals=[Value.ref a]/\args=[WData.list (ns.map WData.int)]/\h.get? a=some { cls:= .type "list",data:= .seq vs.toArray }/\IntsAre vs ns/\ns.length<=n:=by
 have hsh:WShape.hasAll [] args [.list .int]=true:=(pre_splitW hpre).1;have hc:l.pre.holds [] { args:=args }=true:=(pre_splitW hpre).2;obtain⟨d,r,rfl,h1,h2⟩:=hasAllW_cons hsh;obtain rfl:=hasAllW_nil h2;obtain⟨xs,rfl,h3⟩:=hasW_list h1;obtain⟨ns,rfl⟩:=items_int h3;have hlen:ns.length<=n:=by
  unfold OpenLaw.pre at hc;have h4:(WTm.not (.lt (.lit (.int (n:Int))) (.len (.arg 0)))).holds [] { args:=[.list (ns.map .int)] }=true:=by
   have h4:=(holds_andW hc).1;rw[hn] at h4;exact h4
  have h5:=condW_of h4 (w_not (w_lt w_lit (w_len_list (w_arg rfl))));rw[length_map] at h5;refine Nat.le_of_not_lt λq=>?_;have q':(n:Int)<((ns.length:Nat):Int):=by (clear h5;lia)
  first
   | (rw[decide_eq_true q'] at h5;exact absurd h5 (by decide))
   | (simp at h5;lia)
 cases hwl with
 | cons w1 w2=>
   cases w2;cases w1 with
   | list ho hall=>exact⟨_,_,ns,rfl,rfl,ho,iN ns _ hall,hlen⟩
theorem post_true (l:OpenLaw) (args:List WData):l.row.toRowW.claim.post args (.bool true) args=true:=
 postW_of (r:=l.row.toRowW) (X:=(true==true))
  (show WShape.has [] (.bool true) .bool=true by first | rfl | decide | simp[WShape.has,WShape.arms,WShape.armsAll])
  (show(WTm.eq .res (.lit (.bool true))).value [] { args:=args,res:=some (.bool true),after:=args }=some (.bool (true==true)) from w_eq_bool (w_res rfl) w_lit) rfl
section
variable {prog:Program} {w:World} {A:Around} {E:Value->Shared->Prop} {s:Shared} {K:Frag}
end
end Att
namespace L2
open PySem PySem.Spec PyProof.Rows
theorem kx:∀{vs:List Value} {ns:List Int},IntsAre vs ns->aX (ns.map V.int) vs
 | _,_,.nil=> .nil
 | _,_,.cons n t h=> .cons ⟨t,rfl⟩ (kx h)
noncomputable def sd (H:Hp):Prop:=∀b,H b=none∨∃o xs,H b=some (.frz o (.lst xs))
theorem se {mg mb:Str->Option Value} {CX:n8} {fa a:Addr} {sp:Sp} {s₁:Shared} {vs:List Value} {ns:List Int}
 (KX:K.In s₁.heap) (hns:s₁.heap.Ns mainGlobals mg) (hb:s₁.heap.Ns builtinsNs mb) (hbb:∀x:Str,x≠"__name__"->mb x=bootBuiltins x) (hlim:s₁.heap.NoLimit) (hg:s₁.gens= #[])
 (ha:s₁.heap.get? a=some { cls:= .type "list",data:= .seq vs.toArray }) (hi:IntsAre vs ns) (hl:ns.length<=sizeLine) (hr:aw k callerA)
 (F:∀base:Heap,K.In base->base.Ns mainGlobals mg->dG P w K mg base CX k fa fd [x] sp) (hbind:∀(s:Shared) (u:Value),BindsTo s fd ⟨[u],[]⟩ [(x,u)])
 (hsp:∀H:Hp,sd H->cU K H a (ns.map V.int)->sp [.ref a] H (λv _=>v=.bl true) λ_ _ _=>False)
 (hCX:∀H e s',CX [] H s₁ (λ_ _ _=>False) e s'->False):
 codeAny (model P w) callerA (.call (.ref fa) ⟨[.ref a],[]⟩) (λr s'=>r=.ok (.ret (.bool true))/\OldK s₁.heap s'.heap/\s'.os=s₁.os/\AllBare s'.gens) s₁:=by
 have rv:=kx hi;have lenV:=hi.length
 -- from an abstract heap in which nothing but the script may be tracked
 have core:∀H:Hp,sd H->cU K H a (ns.map V.int)->fJ P w H s₁.heap->(∀b,H b≠none->b=a)->(H a≠none->K.lookup a=none)->
  codeAny (model P w) callerA (.call (.ref fa) ⟨[.ref a],[]⟩) (λr s'=>r=.ok (.ret (.bool true))/\OldK s₁.heap s'.heap/\s'.os=s₁.os/\AllBare s'.gens) s₁:=by
  intro H hO hS hok hA hK;have base_of:∀{b:Addr} {o:Obj},s₁.heap.get? b=some o->H b=none->(lp s₁.heap H).get? b=some o:=λe n=>rG e n;have noA:∀{b:Addr} {o:Obj} {es:Array DictEntry} {ep:Nat},s₁.heap.get? b=some o->o.data=.dict es ep->H b=none:=λ{b o es ep} e d=>by
   cases q:H b with
   | none=>rfl
   | some u=>
     have e':b=a:=hA b (by rw[q];simp);subst e';rw[ha] at e;cases e;have d':Data.seq vs.toArray _=Data.dict es ep:=d;cases d'
  have nsK:∀{b:Addr} {m:Str->Option Value},s₁.heap.Ns b m->(lp s₁.heap H).Ns b m:=λ{b m} ⟨o,es,ep,e,d,r⟩=>⟨o,es,ep,base_of e (noA e d),d,r⟩;have hKb:K.In (lp s₁.heap H):=λb o e=>base_of (KX b o e) (by
   cases q:H b with
   | none=>rfl
   | some u=>
     have e':b=a:=hA b (by rw[q];simp);subst e';rw[hK (by rw[q];simp)] at e;cases e)
  have hM:Mod K mg (lp s₁.heap H):=⟨hKb,nsK hns,⟨mb,nsK hb,hbb⟩,let ⟨mc,h1,h2⟩:=hlim;⟨mc,nsK h1,h2⟩⟩;have e0:mB P w K mg (lp s₁.heap H) callerA [] s₁ H:=⟨rfl,hM,λb o e=>vf e,Nat.le_of_eq (qA _ _),trivial,λb hb=>absurd (show b∈([]:List Addr) from hb) (by simp),hok,.of_eq hg⟩;refine codeAny_mono ((F _ hKb (nsK hns)).run callerA [] s₁ H ⟨[.ref a],[]⟩ [.ref a] [.ref a] _ _ hr e0 (hbind s₁ (.ref a)) (.cons rfl .nil) (hsp H hO hS)) λr s' h=>?_;cases r with
  | error e=>exact(hCX H e s' h).elim
  | ok fl=>
    cases fl with
    | next=>exact False.elim h
    | brk=>exact False.elim h
    | cont=>exact False.elim h
    | ret u=>
      obtain⟨v,H',os,bare,un,hok',r',q⟩:=h;have q':v=.bl true:=q;subst q';obtain rfl:u=Value.bool true:=r';refine⟨rfl,OldK.of_keep λb o e=>?_,os,bare⟩;cases q:H b with
      | none=>exact un.keep b o e q (by intro z;exact absurd (show b∈([]:List Addr) from z) (by simp)) (by simp)
      | some u=>
        rcases hO b with z | ⟨ob,xs,z⟩
        ·rw[q] at z;cases z
        ·have z2:=un.frzs b ob _ z;obtain⟨e1,_⟩:=hok b _ z;obtain⟨e2,_⟩:=hok' b _ z2;rw[e] at e1;cases e1;exact e2
 cases hk:K.lookup a with
 | some o=>
   -- the script is one of the module's own objects
   have e:=KX a o hk;rw[ha] at e;cases e;refine core (λ_=>none) (λ_=> .inl rfl) (.inr ⟨_,vs.toArray,_,hk,rfl,rfl,rfl,by rw[size_toArray,lenV];exact hl,by simpa using rv⟩) (λb u z=>by have z':(none:Option HO)=some u:=z;cases z') (λb z=>absurd rfl z) λz=>absurd rfl z
 | none=>
   refine core (λb=>if b=a then some (.frz { cls:= .type "list",data:= .seq vs.toArray } (.lst (ns.map V.int))) else none) (λb=>?_) (.inl (.inr ⟨{ cls:= .type "list",data:= .seq vs.toArray },if_pos rfl⟩)) (λb u z=>?_) (λb z=>?_) λ_=>hk
   ·by_cases hb:b=a
    ·exact .inr ⟨_,_,if_pos hb⟩
    ·exact .inl (if_neg hb)
   ·by_cases hb:b=a
    ·have z':=(if_pos hb).symm.trans z;cases z';subst hb;exact⟨ha,by rw[length_map];exact hl,vs,_,rv,ha⟩
    ·have z':=(if_neg hb).symm.trans z;cases z'
   ·by_cases hb:b=a
    ·exact hb
    ·exact absurd (if_neg hb) z
noncomputable def au (s:Stmt):Arguments:=match s with
 | .FunctionDef _ a _ _ _ _ _ _ _ _=>a
 | _=>{ posonlyargs:=[],args:=[],vararg:=none,kwonlyargs:=[],kw_defaults:=[],kwarg:=none,defaults:=[] }
noncomputable def ap (s:Stmt):List Stmt:=match s with
 | .FunctionDef _ _ b _ _ _ _ _ _ _=>b
 | _=>[]
noncomputable def am (s:Stmt):Scope:=match s with
 | .FunctionDef _ _ _ _ _ _ sc _ _ _=>sc
 | _=>{ kind:= .function,names:=[],isGenerator:=false,isCoroutine:=false }
noncomputable abbrev sg:n8:=λ_ _ _ _ _ _=>False
noncomputable abbrev E0:XK:=λ_ _ _=>False
theorem ky {X:Cx}:ez sg X E0:=λ_ _ _ _ _ _ _ h=>h.elim
structure cq (K:PySem.W.Frag) (x qual:Str) (st:Stmt) (f:Addr) (fd:FuncData):Prop where
 ex:∃(oc:Value) (od:Option Addr) (kV doc pm:Value) (an:Option Addr) (cdv ct:Value) (osl:Array (Option Value)),
  fd=fnOf x qual (au st) (ap st) (am st) .none kV doc pm an cdv ct/\K.lookup f=some ⟨oc,od,.func fd,osl⟩/\codeIn K cdv qual=true
 kp:keepIn K (.ref f)=true
section
variable {P:Program} {w:World} {K:PySem.W.Frag} {mg:Str->Option Value} {base:Heap}
theorem cq.ok {x qual:Str} {f:Addr} {N ps:List Str} {sp:Sp} (F:cq K x qual st f fd) (S:bM N ps (am st)) (len:∀vs H Q E,sp vs H Q E->vs.length=ps.length)
 (hbody:∀(cdv:Value) (A:Around) (outer:List Env) (s:Shared) (H:Hp) (vs:List V) (Q:VK) (E:XK),aw k (A.deeper (envOfC qual (am st) s.heap.objs.size f cdv))->sp vs H Q E->
   ∃t,mv (dm sg P w K mg base N qual (am st) f cdv A outer s H E).nox (ap st) t/\t { nx:=λ_ H'=>Q .non H',rt:=Q } (start N vs) H):dG P w K mg base sg (k+1) f fd ps sp:=by
 obtain⟨oc,od,kV,doc,pm,an,cdv,ct,osl,rfl,lk,hcd⟩:=F.ex;refine pq lk hcd S len λA outer s H vs Q E hr hsp=>?_;obtain⟨t,h,q⟩:=hbody cdv A outer s H vs Q E hr hsp;exact⟨t,h.nox,q⟩
theorem cq.binds {x qual:Str} {f:Addr} (F:cq K x qual st f fd)
 (h:∀(kV doc pm:Value) (an:Option Addr) (cdv ct:Value) (us:List Value),us.length=ps.length->bindArgs (fnOf x qual (au st) (ap st) (am st) .none kV doc pm an cdv ct) ⟨us,[]⟩=pure (ps.zip us)):bI K fd ps []:=by
 obtain⟨oc,od,kV,doc,pm,an,cdv,ct,osl,rfl,lk,hcd⟩:=F.ex;exact .all (h kV doc pm an cdv ct)
theorem aK {x qual:Str} {f:Addr} {oc:Value} {od an:Option Addr} {osl:Array (Option Value)} {kV doc pm cdv ct:Value} (l:K.lookup f=some ⟨oc,od,.func (fnOf x qual (au st) (ap st) (am st) .none kV doc pm an cdv ct),osl⟩)
 (c:codeIn K cdv qual=true) (k:keepIn K (.ref f)=true):cq K x qual st f (fnOf x qual (au st) (ap st) (am st) .none kV doc pm an cdv ct):=⟨⟨oc,od,kV,doc,pm,an,cdv,ct,osl,rfl,l,c⟩,k⟩
end
section
variable {X:Cx}
theorem pv (i:Nat) (hN:X.N[i]?=some x:=by rfl) (hv:AL X.env.scope x:=by first | exact Or.inl rfl | exact Or.inr (Or.inl rfl) | exact Or.inr (Or.inr rfl)) (hd:(x==("__debug__":Str))=false:=by decide)
 (hcd:(x==("__classdict__":Str))=false:=by decide):PE X (.Name x pos) (AO i):=nS hN hv hd hcd
end
section
variable {κ:Type} [DecidableEq κ]
noncomputable def lx (kvs:List (κ×V)) (k:κ):Option V:=(kvs.find? λkv=>decide (kv.1=k)).map (·.2)
noncomputable def hJ (kvs:List (κ×V)) (k:κ) (v:V):List (κ×V):=
 if (kvs.any λkv=>decide (kv.1=k))=true then kvs.map (λkv=>if kv.1=k then (kv.1,v) else kv) else kvs++[(k,v)]
theorem mG {p:κ×V} {r:List (κ×V)} {k:κ} (e:p.1=k):lx (p::r) k=some p.2:=by simp[lx,List.find?_cons,e]
theorem mH {p:κ×V} {r:List (κ×V)} {k:κ} (e:¬p.1=k):lx (p::r) k=lx r k:=by simp[lx,List.find?_cons,e]
theorem mI (kvs:List (κ×V)) (k:κ) (v:V):(hJ kvs k v).length<=kvs.length+1:=by
 unfold hJ;split
 ·rw[length_map];lia
 ·rw[length_append,length_cons,length_nil];lia
theorem fT.getD {o:Option V} {u:Option Value} {d:V} {d':Value} (r:fT o u) (rd:bf d d'):bf (o.getD d) (u.getD d'):=by
 cases o with
 | none=>cases u with
   | none=>exact rd
   | some _=>exact(show False from r).elim
 | some _=>cases u with
   | none=>exact(show False from r).elim
   | some _=>exact r
theorem KV.val {kvs:List (κ×V)} {vs:List (κ×Value)} (r:KV kvs vs) (k:κ):fT (lx kvs k) (valueAt vs k):=by
 unfold KV at r
 induction r with
 | nil=>exact True.intro
 | @cons p q ps qs h t ih=>
   obtain⟨h1,h2⟩:=h
   by_cases e:p.1=k
   ·have e':q.1=k:=h1.symm.trans e;have b:valueAt (q::qs) k=some q.2:=by simp[valueAt,List.find?_cons,e']
    rw[mG e,b];exact h2
   ·have e':¬q.1=k:=λz=>e (h1.trans z);have b:valueAt (q::qs) k=valueAt qs k:=by simp[valueAt,List.find?_cons,e']
    rw[mH e,b];exact ih
theorem KV.any {kvs:List (κ×V)} {vs:List (κ×Value)} (r:KV kvs vs) (k:κ):(kvs.any λkv=>decide (kv.1=k))=vs.any λkv=>decide (kv.1=k):=by
 unfold KV at r
 induction r with
 | nil=>rfl
 | cons h t ih=>rw[any_cons,any_cons,ih,h.1]
theorem KV.repl {kvs:List (κ×V)} {vs:List (κ×Value)} (r:KV kvs vs) (k:κ) {y:V} (ry:bf y u):
 KV (kvs.map λkv=>if kv.1=k then (kv.1,y) else kv) (vs.map λkv=>if kv.1=k then (kv.1,u) else kv):=by
 unfold KV at r ⊢
 induction r with
 | nil=>exact .nil
 | @cons p q ps qs h t ih=>
   rw[map_cons,map_cons];refine .cons ?_ ih;obtain⟨h1,h2⟩:=h
   by_cases e:p.1=k
   ·rw[if_pos e,if_pos (h1.symm.trans e)];exact⟨h1,ry⟩
   ·rw[if_neg e,if_neg (λz=>e (h1.trans z))];exact⟨h1,h2⟩
theorem KV.put {kvs:List (κ×V)} {vs:List (κ×Value)} (r:KV kvs vs) (k:κ) {y:V} (ry:bf y u):KV (hJ kvs k y) (stored vs k u):=by
 unfold hJ stored;rw[r.any k]
 by_cases e:(vs.any λkv=>decide (kv.1=k))=true
 ·rw[if_pos e,if_pos e];exact r.repl k ry
 ·rw[if_neg e,if_neg e];exact Paired.snoc r ⟨rfl,ry⟩
theorem KV.length {kvs:List (κ×V)} {vs:List (κ×Value)} (r:KV kvs vs):kvs.length=vs.length:=Paired.length r
end
theorem mJ {k:aR} (r:bf (kV k) u):(aZ P w).is k u=true:=by
 cases k with
 | inl i=>obtain⟨t,e⟩:=(show ∃t,u=Value.int i t from r);subst e;exact dJ P w i t
 | inr x=>obtain⟨t,e⟩:=(show ∃t,u=Value.str x t from r);subst e;exact mw P w x t
theorem kz {P:Program} {w:World}:∀{ks:List aR} {us:List Value},aX (ks.map kV) us->ItemsAre (aZ P w) ks us
 | [],_,r=>by rw[map_nil] at r;cases r;exact .nil
 | k::ks,_,r=>by
   rw[map_cons] at r;cases r with
   | cons h t=>exact .cons (mJ h) (kz t)
noncomputable abbrev KT (H:Hp):List (List aR×V)->List (List aR×Addr×Value)->Prop:=Paired λp q=>p.1=q.1/\H q.2.1=some (.tup (p.1.map kV))/\bf p.2 q.2.2
section
variable {P:Program} {w:World} {H:Hp} {h:Heap} {a:Addr}
theorem xJ {u:HO} (ok:fJ P w H h) (e:Rd H a u):bB P w H h a u:=e.ok ok
theorem e9 {kvs:List (aR×V)} (ok:fJ P w H h) (e:Rd H a (.dK kvs)):kvs.length<=sizeLine/\(a==sysModules)=false/\∃vs,KV kvs vs/\h.DictOf (aZ P w) a vs:=
 show bB P w H h a (.dK kvs) from xJ ok e
theorem sh {kvs:List (aR×V)} (ok:fJ P w H h) (e:H a=some (.dK kvs)):kvs.length<=sizeLine/\(a==sysModules)=false/\∃vs,KV kvs vs/\h.DictOf (aZ P w) a vs:=e9 ok (.inl e)
theorem yW {ks:List aR} (ok:fJ P w H h) (e:H a=some (.tup (ks.map kV))):(tupleKind (aZ P w)).is h ks a:=by
 obtain⟨_,its,r,o,h1,h2,n,h3⟩:=(show bB P w H h a (.tup (ks.map kV)) from ok a _ e);exact⟨o,its.toArray,n,h1,h2,h3,by simpa using kz r⟩
theorem Bj {kvs:List (List aR×V)} (ok:fJ P w H h) (e:Rd H a (.dT kvs)):kvs.length<=sizeLine/\(a==sysModules)=false/\
 ∃xs,KT H kvs xs/\h.DictOfH (tupleKind (aZ P w)) a xs:=by
 obtain⟨z,y,xs,r,o,es,ep,h1,h2,h3,h4,h5⟩:=(show bB P w H h a (.dT kvs) from xJ ok e);refine⟨z,y,xs,r,o,es,ep,h1,h2,h3,h4,λx hx=>?_,h5⟩;have all:∀{l:List (List aR×V)} {m:List (List aR×Addr×Value)},KT H l m->∀x∈m,(tupleKind (aZ P w)).is h x.1 x.2.1:=by
  intro l m q
  induction q with
  | nil=>intro x hx;exact nomatch hx
  | @cons p q ps qs hq t ih=>
    intro x hx;rcases mem_cons.mp hx with e | hx
    ·subst e;exact yW ok (by rw[←hq.1];exact hq.2.1)
    ·exact ih x hx
 exact all r x hx
theorem pB {kvs:List (List aR×V)} (ok:fJ P w H h) (e:H a=some (.dT kvs)):kvs.length<=sizeLine/\(a==sysModules)=false/\
 ∃xs,KT H kvs xs/\h.DictOfH (tupleKind (aZ P w)) a xs:=Bj ok (.inl e)
end
section
variable {X:Cx} {π:List (Addr×Obj)} {σ:St} {H:Hp} {s:Shared} {a:Addr} {y v:V} {u r:Value} {o:Option V} {A:Around} {E:Value->Shared->Prop}
theorem aC.bigD (I:aC X π σ H s):sysModules<s.heap.objs.size:=by
 have h:mainGlobals<s.heap.objs.size:=(I.mod.glob.keeps I.bk).lt;exact Nat.lt_trans (by decide) h
theorem pC {h':Heap} {t':Nat} {ob:HO} (I:aC X π σ H s) (mu:AN (H a)) (hs:Heap.SameBut a s.heap h') (he:∃q,h'.get? a=some q) (new:bB X.prog X.w (upd H a ob) h' a ob):
 aC X π σ (upd H a ob) { s with heap:=h',toks:=t' }:=
 I.write (x:=a) (e:=a) mu (.inl rfl) (λb q hb z=>(hs.2 b hb).trans z) he new
theorem yX {H':Hp} {h':Heap} {kvs:List (aR×V)} {vs:List (aR×Value)} (z:kvs.length<=sizeLine) (hd:(a==sysModules)=false) (rel:KV kvs vs) (dd:h'.DictOf (aZ P w) a vs):
 bB P w H' h' a (.dK kvs):=⟨z,hd,vs,rel,dd⟩
end
section
variable {X:Cx} {π:List (Addr×Obj)} {σ:St} {H:Hp} {s:Shared} {a:Addr} {kvs:List (aR×V)} {k:aR} {u:Value} {A:Around} {E:Value->Shared->Prop}
theorem Bk (I:aC X π σ H s) (e:Rd H a (.dK kvs)) (h:∀t s',aC X π σ H s'->Q (.int kvs.length t) s'):wpAny (model X.prog X.w) A (call (.builtin "len") [.ref a]) Q E s:=by
 obtain⟨z,hd,vs,rel,dd⟩:=e9 I.hok e;refine call_len_dict hd dd (by rw[←rel.length];rw[sizeLine_eq] at z;lia) ?_;rw[←rel.length];exact h _ _ (I.tok _)
end
section
variable {X:Cx} {o i e value:Expr} {pos pos' tpos:Pos} {td ty tv:TE}
end
theorem qN {H:Hp} (h:Heap) (hb:sysModules<h.objs.size):bB P w H (h.push { cls:= .type "dict",data:= .dict #[] }) h.objs.size (.dK []):=
 ⟨zero_le _,beq_eq_false_iff_ne.mpr (Ne.symm (ne_of_lt hb)),[],.nil,Heap.DictOf.new h⟩
noncomputable def yY:TE:=λ_ H Q=>∀p,H p=none->Q (.ref p) (upd H p (.dK []))
section
variable {X:Cx} {pos:Pos}
theorem pe_dnewK:PE X (.Dict [] [] pos) yY:=λπ s σ H Q I h=>
 wpAny_Dict_empty ⟨.ref s.heap.objs.size,_,I.laid (a:=s.heap.objs.size) (o:= .dK []) (t':=s.toks) (λ_ _ q=>Heap.get?_push_of_some _ q) (le_refl _) (qN s.heap I.bigD),rfl,h _ (I.hok.fresh (le_refl _))⟩
end
noncomputable abbrev VV:List (V×V)->List (Value×Value)->Prop:=Paired λp q=>bf p.1 q.1/\bf p.2 q.2
structure M1 (X:Cx) (o:Expr) (m:Str) (apos:Pos) (e:Expr) (cpos:Pos):Prop where
 base:attributeBase o m X.env (eval o X.env)=eval o X.env
 few:((backTo cpos (starEach [e] X.env)).all (λx=>!x.1)&&(backToKw cpos (keywordEach [] X.env)).all (λx=>x.1.isSome)
  &&decide (([e]:List Expr).length+([]:List Keyword).length+(if ([]:List Keyword).isEmpty then 0 else 1)<30))=true
 line:(apos.endLine==cpos.line)=true
 trees:backTo cpos (starEach [e] X.env)=[(false,eval e X.env)]
structure M2 (X:Cx) (o:Expr) (m:Str) (apos:Pos) (e f:Expr) (cpos:Pos):Prop where
 base:attributeBase o m X.env (eval o X.env)=eval o X.env
 few:((backTo cpos (starEach [e,f] X.env)).all (λx=>!x.1)&&(backToKw cpos (keywordEach [] X.env)).all (λx=>x.1.isSome)
  &&decide (([e,f]:List Expr).length+([]:List Keyword).length+(if ([]:List Keyword).isEmpty then 0 else 1)<30))=true
 line:(apos.endLine==cpos.line)=true
 trees:backTo cpos (starEach [e,f] X.env)=[(false,eval e X.env),(false,eval f X.env)]
section
variable {X:Cx} {π:List (Addr×Obj)} {σ:St} {H:Hp} {s:Shared} {a:Addr} {y d:V} {u r:Value} {o:Option V} {A:Around} {E:Value->Shared->Prop}
end
section
variable {X:Cx} {o e f:Expr} {apos cpos:Pos} {td ty tx:TE}
end
section
variable {X:Cx} {π:List (Addr×Obj)} {σ:St} {H:Hp} {s:Shared} {a:Addr} {kvs:List (aR×V)} {A:Around} {E:Value->Shared->Prop}
end
section
variable {X:Cx} {π:List (Addr×Obj)} {σ:St} {H:Hp} {s:Shared} {a:Addr} {y:V} {u:Value} {A:Around} {E:Value->Shared->Prop}
end
inductive W where
 | non | bl (b:Bool) | int (i:Int) | str (x:Str) | ref (a:Addr) | tup (xs:List W) | scr (ns:List Int)
inductive GO where
 | lst (ws:List W)
 | dct
 | exc (C:Addr)
 | dic (kvs:List (aR×W))
 | fdc (o:Obj) (us:List (aR×V)) (kvs:List (aR×W))
 | ins (C:Addr) (fs:List (Str×W))
 | tbl (ps:Array Value)
 | any (P:Hp->Addr->Prop)
noncomputable abbrev Gp:=Addr->Option GO
noncomputable def aL (G:Gp) (a:Addr) (g:GO):Gp:=λb=>if b=a then some g else G b
theorem ak {G:Gp} {g:GO}:aL G a g a=some g:=by unfold aL;rw[if_pos rfl]
theorem aq {G:Gp} {a b:Addr} {g:GO} (h:b≠a):aL G a g b=G b:=by unfold aL;rw[if_neg h]
noncomputable def xK (K:PySem.W.Frag) (H:Hp) (a:Addr) (ns:List Int):Prop:=
 (∃o,H a=some (.frz o (.lst (ns.map V.int))))∨
   ∃(o:Obj) (its:Array Value) (n:Nat),K.lookup a=some o/\o.cls=.type "list"/\o.dict=none/\o.data=.seq its n/\its.size<=sizeLine/\aX (ns.map V.int) its.toList
theorem xK.sq {H:Hp} {ns:List Int} (h:xK K H a ns):cU K H a (ns.map V.int):=by
 rcases h with⟨o,h⟩ | h
 ·exact .inl (.inr ⟨o,h⟩)
 ·exact .inr h
structure aP (H H1:Hp):Prop where
 tup:∀a xs,H a=some (.tup xs)->H1 a=some (.tup xs)
 frz:∀a o xs,H a=some (.frz o (.lst xs))->H1 a=some (.frz o (.lst xs))
theorem aP.refl (H:Hp):aP H H:=⟨λ_ _ h=>h,λ_ _ _ h=>h⟩
theorem aP.trans {H H1 H2:Hp} (a:aP H H1) (b:aP H1 H2):aP H H2:=
 ⟨λx xs h=>b.tup x xs (a.tup x xs h),λx o u h=>b.frz x o u (a.frz x o u h)⟩
theorem aP.new {H:Hp} {p:Addr} (hp:H p=none) (o:HO):aP H (upd H p o):=
 ⟨λ_ _ h=>by rw[aD (bh h hp)];exact h,λ_ _ _ h=>by rw[aD (bh h hp)];exact h⟩
theorem aP.lst {H:Hp} {p:Addr} {xs:List V} (hp:H p=some (.lst xs)) (o:HO):aP H (upd H p o):=
 ⟨λ_ _ h=>by rw[aD (fO h hp (by intro z;cases z))];exact h,λ_ _ _ h=>by rw[aD (fO h hp (by intro z;cases z))];exact h⟩
mutual
inductive bK (K:PySem.W.Frag) (H:Hp):W->V->Prop where
 | non:bK K H .non .non
 | bl (b:Bool):bK K H (.bl b) (.bl b)
 | int (i:Int):bK K H (.int i) (.int i)
 | str (x:Str):bK K H (.str x) (.str x)
 | ref (a:Addr):bK K H (.ref a) (.ref a)
 | tup {a:Addr} {ws:List W} {xs:List V} (h:H a=some (.tup xs)) (r:aV K H ws xs):bK K H (.tup ws) (.ref a)
 | scr {a:Addr} {ns:List Int} (h:xK K H a ns):bK K H (.scr ns) (.ref a)
inductive aV (K:PySem.W.Frag) (H:Hp):List W->List V->Prop where
 | nil:aV K H [] []
 | cons {w:W} {v:V} {ws:List W} {vs:List V} (r:bK K H w v) (rs:aV K H ws vs):aV K H (w::ws) (v::vs)
end
section
variable {K:PySem.W.Frag} {H H1:Hp}
theorem xK.mono {ns:List Int} (t:aP H H1) (h:xK K H a ns):xK K H1 a ns:=by
 rcases h with⟨o,h⟩ | h
 ·exact .inl ⟨o,t.frz _ _ _ h⟩
 ·exact .inr h
mutual
theorem bK.mono (t:aP H H1):∀{w:W} {v:V},bK K H w v->bK K H1 w v
 | _,_,.non=> .non
 | _,_,.bl b=> .bl b
 | _,_,.int i=> .int i
 | _,_,.str x=> .str x
 | _,_,.ref a=> .ref a
 | _,_,.tup h r=> .tup (t.tup _ _ h) (aV.mono t r)
 | _,_,.scr h=> .scr (h.mono t)
theorem aV.mono (t:aP H H1):∀{ws:List W} {vs:List V},aV K H ws vs->aV K H1 ws vs
 | _,_,.nil=> .nil
 | _,_,.cons r rs=> .cons (bK.mono t r) (aV.mono t rs)
end
theorem aV.length:∀{ws:List W} {vs:List V},aV K H ws vs->ws.length=vs.length
 | _,_,.nil=>rfl
 | _,_,.cons _ rs=>congrArg (·+1) rs.length
theorem aV.append:∀{ws us:List W} {vs xs:List V},aV K H ws vs->aV K H us xs->aV K H (ws++us) (vs++xs)
 | _,_,_,_,.nil,s=>s
 | _,_,_,_,.cons r rs,s=> .cons r (rs.append s)
theorem aV.take:∀{ws:List W} {vs:List V} (n:Nat),aV K H ws vs->aV K H (ws.take n) (vs.take n)
 | _,_,0,_=> .nil
 | _,_,_+1,.nil=> .nil
 | _,_,n+1,.cons r rs=> .cons r (rs.take n)
theorem aV.drop:∀{ws:List W} {vs:List V} (n:Nat),aV K H ws vs->aV K H (ws.drop n) (vs.drop n)
 | _,_,0,r=>r
 | _,_,_+1,.nil=> .nil
 | _,_,n+1,.cons _ rs=>rs.drop n
theorem aV.get:∀{ws:List W} {vs:List V} {i:Nat} {w:W},aV K H ws vs->ws[i]?=some w->∃v,vs[i]?=some v/\bK K H w v
 | _,_,_,_,.nil,e=>by simp at e
 | _,_,0,_,.cons r _,e=>by simp at e;subst e;exact⟨_,rfl,r⟩
 | _,_,i+1,w,.cons _ rs,e=>by
   obtain⟨v,h1,h2⟩:=aV.get (i:=i) (w:=w) rs (by simpa using e);exact⟨v,by simpa using h1,h2⟩
theorem aV.ints:∀ns:List Int,aV K H (ns.map W.int) (ns.map V.int)
 | []=> .nil
 | n::ns=> .cons (.int n) (aV.ints ns)
end
noncomputable abbrev bmV:List Value:=[.type "ValueError",.type "Exception",.type "BaseException",.type "object"]
structure XC (K:PySem.W.Frag) (C:Addr) (bm:List Value):Prop where
 obj:∀h:Heap,K.In h->∃N nm qn bs hdct sn sub ab col dd k0 k1 k2 k3 k5 mN,h.get? C=some (excClassObj nm qn C N bs bm hdct sn sub ab col dd k0 k1 k2 k3 k5 "ValueError.__new__")/\h.Ns N mN/\mN "__init__"=none/\OwnTail h bmV bm
 mro:∀v,mroIn K C v=some ((Value.ref C::bm).contains v)
structure XQ (K:PySem.W.Frag) (C:Addr):Prop where
 ga:findIn K (.ref C) "__getattribute__"=some (some (.builtin "BaseException.__getattribute__"))
 gx:findIn K (.ref C) "__getattr__"=some none
 gc:findIn K (.ref C) "__class__"=some (some (.builtin "object.__class__"))
structure XD (K:PySem.W.Frag) (D:Addr):Prop where
 cls:∃cd,clsIn K D=some cd
 ty:typeIn K (.ref D)=some (.type "type")
 ins:instIn K (.ref D) (.type "type")=some true
structure XO (K:PySem.W.Frag) (C:Addr):Prop where
 c:∃bm,XC K C bm
 q:XQ K C
 d:XD K C
noncomputable def xL (K:PySem.W.Frag) (H:Hp) (a:Addr):GO->Prop
 | .lst ws=>ws.length<=100000/\∃xs,H a=some (.lst xs)/\aV K H ws xs
 | .dct=>H a=some (.dK [])
 | .exc C=>XO K C/\H a=some (.ext λh=>∃o,h.get? a=some o/\o.cls=.ref C)
 | .dic kvs=>kvs.length<=100000/\∃kvs',H a=some (.dK kvs')/\kvs'.map (·.1)=kvs.map (·.1)/\aV K H (kvs.map (·.2)) (kvs'.map (·.2))
 | .fdc o us kvs=>kvs.length<=100000/\H a=some (.frz o (.dK us))/\us.map (·.1)=kvs.map (·.1)/\aV K H (kvs.map (·.2)) (us.map (·.2))
 | .ins C fs=>fs.length<=100/\∃dx fs',H a=some (.ins C dx fs')/\fs'.map (·.1)=fs.map (·.1)/\aV K H (fs.map (·.2)) (fs'.map (·.2))
 | .tbl ps=>H a=some (.tbl ps)
 | .any P=>P H a/\(∃o,H a=some o)/\∀H1 H2:Hp,aP H1 H2->H2 a=H1 a->P H1 a->P H2 a
noncomputable def aM (K:PySem.W.Frag) (H:Hp) (G:Gp):Prop:=∀a g,G a=some g->xL K H a g
section
variable {K:PySem.W.Frag} {H H1:Hp} {G:Gp} {p a:Addr} {g:GO}
theorem xL.has (h:xL K H a g):∃o,H a=some o:=by
 cases g with
 | lst ws=>obtain⟨_,_,e,_⟩:=h;exact⟨_,e⟩
 | dct=>exact⟨_,h⟩
 | exc C=>exact⟨_,h.2⟩
 | dic kvs=>obtain⟨_,_,e,_⟩:=h;exact⟨_,e⟩
 | fdc o us kvs=>obtain⟨_,e,_⟩:=h;exact⟨_,e⟩
 | ins C fs=>obtain⟨_,_,_,e,_⟩:=h;exact⟨_,e⟩
 | tbl ps=>exact⟨_,h⟩
 | any P=>exact h.2.1
theorem xL.mono (t:aP H H1) (e:H1 a=H a) (h:xL K H a g):xL K H1 a g:=by
 cases g with
 | lst ws=>obtain⟨l,xs,e1,r⟩:=h;exact⟨l,xs,e.trans e1,r.mono t⟩
 | dct=>exact e.trans h
 | exc C=>exact⟨h.1,e.trans h.2⟩
 | dic kvs=>obtain⟨l,xs,e1,n,r⟩:=h;exact⟨l,xs,e.trans e1,n,r.mono t⟩
 | fdc o us kvs=>obtain⟨l,e1,n,r⟩:=h;exact⟨l,e.trans e1,n,r.mono t⟩
 | ins C fs=>obtain⟨l,dx,xs,e1,n,r⟩:=h;exact⟨l,dx,xs,e.trans e1,n,r.mono t⟩
 | tbl ps=>exact e.trans h
 | any P=>exact⟨h.2.2 _ _ t e h.1,(let ⟨o,e1⟩:=h.2.1;⟨o,e.trans e1⟩),h.2.2⟩
theorem aM.fresh (h:aM K H G) (hp:H p=none):G p=none:=by
 cases e:G p with
 | none=>rfl
 | some g=>
   obtain⟨o,e1⟩:=(h p _ e).has;rw[hp] at e1;cases e1
theorem aM.upd (h:aM K H G) (t:aP H (upd H p o)) (hG:G p=none):aM K (L2.upd H p o) G:=λa g e=>by
 have hne:a≠p:=λz=>by rw[z,hG] at e;cases e
 exact(h a g e).mono t (aD hne)
theorem aM.keep (h:aM K H G) (hp:H p=none) (o:HO):aM K (L2.upd H p o) G:=h.upd (aP.new hp o) (h.fresh hp)
theorem aM.lay (h:aM K H G) {o:HO} (t:aP H (L2.upd H p o)) (n:xL K (L2.upd H p o) p g):aM K (L2.upd H p o) (aL G p g):=λa g' e=>by
 by_cases hb:a=p
 ·subst hb;rw[ak] at e;cases e;exact n
 ·rw[aq hb] at e;exact(h a g' e).mono t (aD hb)
theorem aM.put (h:aM K H G) {xs:List V} {ws:List W} (t:aP H (L2.upd H p (.lst xs))) (r:aV K H ws xs) (hl:ws.length<=100000):aM K (L2.upd H p (.lst xs)) (aL G p (.lst ws)):=h.lay t ⟨hl,xs,bg,r.mono t⟩
noncomputable def aF (G0 G:Gp):Prop:=∀a g,G0 a=some g->G a=some g
theorem aM.le {G0:Gp} (h:aM K H G) (l:aF G0 G):aM K H G0:=λa g e=>h a g (l a g e)
theorem aF.refl (G:Gp):aF G G:=λ_ _ h=>h
theorem aF.trans {G0 G1 G2:Gp} (a:aF G0 G1) (b:aF G1 G2):aF G0 G2:=λx g h=>b x g (a x g h)
theorem aF.new {g:GO} (hp:G p=none):aF G (aL G p g):=λa u e=>by
 rw[aq (λz=>by rw[z,hp] at e;cases e)];exact e
end
noncomputable abbrev cP:=List (Option W)
noncomputable def bt (K:PySem.W.Frag) (H:Hp) (τ:cP) (σ:St):Prop:=τ.length=σ.length/\∀(i:Nat) (w:W),τ[i]?=some (some w)->∃v,σ[i]?=some (some v)/\bK K H w v
section
variable {K:PySem.W.Frag} {H H1:Hp} {τ:cP} {σ:St}
theorem bt.mono (t:aP H H1) (h:bt K H τ σ):bt K H1 τ σ:=⟨h.1,λi w e=>let ⟨v,e1,r⟩:=h.2 i w e;⟨v,e1,r.mono t⟩⟩
theorem bt.set (h:bt K H τ σ) {w:W} {v:V} (r:bK K H w v) (i:Nat):bt K H (τ.set i (some w)) (σ.set i (some v)):=by
 refine⟨by simpa using h.1,λj u e=>?_⟩
 by_cases hj:i=j
 ·subst hj
  by_cases hl:i<τ.length
  ·rw[List.getElem?_set_self hl] at e;cases e;exact⟨v,List.getElem?_set_self (by rw[←h.1];exact hl),r⟩
  ·rw[List.getElem?_eq_none (by simpa using hl)] at e;cases e
 ·rw[List.getElem?_set_ne hj] at e;obtain⟨u',e1,r1⟩:=h.2 j u e;exact⟨u',by rw[List.getElem?_set_ne hj];exact e1,r1⟩
theorem bt.start {N:List Str} {ws:List W} {vs:List V} (r:aV K H ws vs):bt K H (ws.map some++List.replicate (N.length-ws.length) none) (L2.start N vs):=by
 unfold L2.start;refine⟨by simp[r.length],λi w e=>?_⟩
 by_cases hi:i<ws.length
 ·rw[List.getElem?_append_left (by simpa using hi),List.getElem?_map] at e;cases e1:ws[i]? with
  | none=>rw[e1] at e;cases e
  | some u=>
    rw[e1] at e;cases e;obtain⟨v,e2,rv⟩:=r.get e1;refine⟨v,?_,rv⟩;rw[List.getElem?_append_left (by simpa[←r.length] using hi),List.getElem?_map,e2]
    rfl
 ·rw[List.getElem?_append_right (by simpa using hi),List.getElem?_replicate] at e;split at e<;> cases e
end
noncomputable abbrev WK:=W->Gp->Prop
noncomputable abbrev WE:=cP->Gp->WK->Prop
noncomputable abbrev WT:=cP->Gp->(Bool->Gp->Prop)->Prop
noncomputable abbrev WA:=cP->Gp->(List W->Gp->Prop)->Prop
structure dq where
 nx:cP->Gp->Prop
 rt:WK
 bk:cP->Gp->Prop:=λ_ _=>False
 ct:cP->Gp->Prop:=λ_ _=>False
noncomputable abbrev WS:=dq->cP->Gp->Prop
noncomputable abbrev WG:=W->cP->Gp->(cP->Gp->Prop)->Prop
noncomputable abbrev xM:=List W->cP->Gp->(cP->Gp->Prop)->Prop
noncomputable def j7 (K:PySem.W.Frag) (t:WE):TE:=λσ H Q=>∃τ G q,bt K H τ σ/\aM K H G/\t τ G q/\∀v H1 w G1,aP H H1->bK K H1 w v->aM K H1 G1->q w G1->Q v H1
noncomputable def yZ (K:PySem.W.Frag) (t:WT):TT:=λσ H Q=>∃τ G q,bt K H τ σ/\aM K H G/\t τ G q/\∀b H1 G1,aP H H1->aM K H1 G1->q b G1->Q b H1
noncomputable def LA (K:PySem.W.Frag) (t:WA):TA:=λσ H Q=>∃τ G q,bt K H τ σ/\aM K H G/\t τ G q/\∀vs H1 ws G1,aP H H1->aV K H1 ws vs->aM K H1 G1->q ws G1->Q vs H1
structure mK (K:PySem.W.Frag) (H:Hp) (d:dq) (D:fK):Prop where
 nx:∀σ1 H1 τ1 G1,aP H H1->bt K H1 τ1 σ1->aM K H1 G1->d.nx τ1 G1->D.nx σ1 H1
 rt:∀v H1 w G1,aP H H1->bK K H1 w v->aM K H1 G1->d.rt w G1->D.rt v H1
 bk:∀σ1 H1 τ1 G1,aP H H1->bt K H1 τ1 σ1->aM K H1 G1->d.bk τ1 G1->D.bk σ1 H1
 ct:∀σ1 H1 τ1 G1,aP H H1->bt K H1 τ1 σ1->aM K H1 G1->d.ct τ1 G1->D.ct σ1 H1
noncomputable def LS (K:PySem.W.Frag) (t:WS):TS:=λD σ H=>∃τ G d,bt K H τ σ/\aM K H G/\t d τ G/\mK K H d D
theorem j7.el {t:WE} {σ:St} {H:Hp} {Q:VK} {P:Prop} (h:j7 K t σ H Q) (k:∀(τ:cP) (G:Gp) (q:WK),bt K H τ σ->aM K H G->t τ G q->(∀v H1 w G1,aP H H1->bK K H1 w v->aM K H1 G1->q w G1->Q v H1)->P):P:=by
 obtain⟨τ,G,q,a,b,c,d⟩:=h;exact k τ G q a b c d
theorem yZ.el {t:WT} {σ:St} {H:Hp} {Q:Bool->Hp->Prop} {P:Prop} (h:yZ K t σ H Q) (k:∀(τ:cP) (G:Gp) (q:Bool->Gp->Prop),bt K H τ σ->aM K H G->t τ G q->(∀b H1 G1,aP H H1->aM K H1 G1->q b G1->Q b H1)->P):P:=by
 obtain⟨τ,G,q,a,b,c,d⟩:=h;exact k τ G q a b c d
theorem LA.el {t:WA} {σ:St} {H:Hp} {Q:List V->Hp->Prop} {P:Prop} (h:LA K t σ H Q) (k:∀(τ:cP) (G:Gp) (q:List W->Gp->Prop),bt K H τ σ->aM K H G->t τ G q->(∀vs H1 ws G1,aP H H1->aV K H1 ws vs->aM K H1 G1->q ws G1->Q vs H1)->P):P:=by
 obtain⟨τ,G,q,a,b,c,d⟩:=h;exact k τ G q a b c d
theorem LS.el {t:WS} {D:fK} {σ:St} {H:Hp} {P:Prop} (h:LS K t D σ H) (k:∀(τ:cP) (G:Gp) (d:dq),bt K H τ σ->aM K H G->t d τ G->mK K H d D->P):P:=by
 obtain⟨τ,G,q,a,b,c,d⟩:=h;exact k τ G q a b c d
noncomputable def LG (K:PySem.W.Frag) (t:WG):TG:=λv σ H Q=>∃w τ G q,bK K H w v/\bt K H τ σ/\aM K H G/\t w τ G q/\∀σ1 H1 τ1 G1,aP H H1->bt K H1 τ1 σ1->aM K H1 G1->q τ1 G1->Q σ1 H1
noncomputable def FC (K:PySem.W.Frag) (t:xM):vn:=λvs σ H Q=>∃ws τ G q,aV K H ws vs/\bt K H τ σ/\aM K H G/\t ws τ G q/\∀σ1 H1 τ1 G1,aP H H1->bt K H1 τ1 σ1->aM K H1 G1->q τ1 G1->Q σ1 H1
noncomputable def QE (X:Cx) (e:Expr) (t:WE):Prop:=PE X e (j7 X.K t)
noncomputable def QT (X:Cx) (e:Expr) (t:WT):Prop:=PT X e (yZ X.K t)
noncomputable def QW (X:Cx) (e:Expr) (t:WT):Prop:=PW X e (yZ X.K t)
noncomputable def QA (X:Cx) (es:List Expr) (t:WA):Prop:=PA X es (LA X.K t)
noncomputable def QS (X:Cx) (st:Stmt) (t:WS):Prop:=PS X st (LS X.K t)
noncomputable def mL (X:Cx) (st:List Stmt) (t:WS):Prop:=mv X st (LS X.K t)
noncomputable def QG (X:Cx) (e:Expr) (t:WG):Prop:=PG X e (LG X.K t)
noncomputable def Bl (X:Cx) (es:List Expr) (t:xM):Prop:=xD X es (FC X.K t)
section
variable {X:Cx}
theorem PE.imp {t t':TE} (h:PE X e t) (f:∀σ H Q,t' σ H Q->t σ H Q):PE X e t':=λπ s σ H Q I q=>h π s σ H Q I (f _ _ _ q)
theorem PT.imp {t t':TT} (h:PT X e t) (f:∀σ H Q,t' σ H Q->t σ H Q):PT X e t':=λπ s σ H Q I q=>h π s σ H Q I (f _ _ _ q)
theorem PW.imp {t t':TT} (h:PW X e t) (f:∀σ H Q,t' σ H Q->t σ H Q):PW X e t':=λwh π s σ H Q I q=>h wh π s σ H Q I (f _ _ _ q)
theorem PA.imp {e:List Expr} {t t':TA} (h:PA X e t) (f:∀σ H Q,t' σ H Q->t σ H Q):PA X e t':=λpos π s σ H Q I q=>h pos π s σ H Q I (f _ _ _ q)
theorem PS.imp {e:Stmt} {t t':TS} (h:PS X e t) (f:∀D σ H,t' D σ H->t D σ H):PS X e t':=λπ s σ H D I q=>h π s σ H D I (f _ _ _ q)
theorem mv.imp {e:List Stmt} {t t':TS} (h:mv X e t) (f:∀D σ H,t' D σ H->t D σ H):mv X e t':=λπ s σ H D I q=>h π s σ H D I (f _ _ _ q)
theorem PG.imp {t t':TG} (h:PG X e t) (f:∀v σ H Q,t' v σ H Q->t v σ H Q):PG X e t':=λπ s σ H v u Q I r q=>h π s σ H v u Q I r (f _ _ _ _ q)
theorem xD.imp {e:List Expr} {t t':vn} (h:xD X e t) (f:∀v σ H Q,t' v σ H Q->t v σ H Q):xD X e t':=λπ s σ H v u Q I r q=>h π s σ H v u Q I r (f _ _ _ _ q)
noncomputable def dr (i:Nat):WE:=λτ G q=>match τ[i]? with | some (some w)=>q w G | _=>False
noncomputable def wC (w:W):WE:=λ_ G q=>q w G
theorem aa (i:Nat) (hN:X.N[i]?=some x:=by exact rfl) (hv:AL X.env.scope x:=by exact .inl rfl) (hd:(x==("__debug__":Str))=false:=by decide) (hcd:(x==("__classdict__":Str))=false:=by decide):QE X (.Name x pos) (dr i):=by
 refine(nS hN hv hd hcd).imp λσ H Q z0=>z0.el λτ G q hs hg ht hQ=>?_;unfold dr at ht;split at ht
 ·rename_i w e;obtain⟨v,e1,r⟩:=hs.2 i w e;exact⟨v,e1,hQ v H w G (aP.refl H) r hg ht⟩
 ·exact ht.elim
theorem gv {v:V} {w:W} (h:PE X e (tC v)) (r:∀H,bK X.K H w v):QE X e (wC w):=
 h.imp λσ H Q z0=>z0.el λτ G q hs hg ht hQ=>hQ v H w G (aP.refl H) (r H) hg ht
theorem ag {i j pos}:QE X (.Constant (.int i) j pos) (wC (.int i)):=gv yp λ_=> .int i
theorem ef {b j pos}:QE X (.Constant (.bool b) j pos) (wC (.bl b)):=gv xC λ_=> .bl b
theorem y0 {j pos}:QE X (.Constant .none j pos) (wC .non):=gv yq λ_=> .non
theorem ca {x j pos}:QE X (.Constant (.str x) j pos) (wC (.str x)):=gv rH λ_=> .str x
noncomputable abbrev W2:=W->W->Gp->WK->Prop
noncomputable def LR (K:PySem.W.Frag) (r:W2):R2:=λx y H Q=>∃wx wy G q,bK K H wx x/\bK K H wy y/\aM K H G/\r wx wy G q/\∀v H1 w G1,aP H H1->bK K H1 w v->aM K H1 G1->q w G1->Q v H1
noncomputable def iB (X:Cx) (f:Value->Value->Sem Value) (r:W2):Prop:=iS X f (LR X.K r)
noncomputable def y6 (X:Cx) (r:W2):Prop:=Bf X (LR X.K r)
noncomputable def kA (r:W2) (ta tb:WE):WE:=λτ G q=>ta τ G λx G1=>tb τ G1 λy G2=>r x y G2 q
theorem j7.op {r:W2} {ta tb:WE} {σ:St} {H:Hp} {Q:VK} (h:j7 K (kA r ta tb) σ H Q):AZ (LR K r) (j7 K ta) (j7 K tb) σ H Q:=by
 obtain⟨τ,G,q,hs,hg,ht,hQ⟩:=h;refine⟨τ,G,_,hs,hg,ht,λv H1 w G1 t1 r1 g1 q1=>?_⟩;refine⟨τ,G1,_,hs.mono t1,g1,q1,λv2 H2 w2 G2 t2 r2 g2 q2=>?_⟩;exact⟨w,w2,G2,q,r1.mono t2,r2,g2,q2,λv3 H3 w3 G3 t3 r3 g3 q3=>hQ v3 H3 w3 G3 ((t1.trans t2).trans t3) r3 g3 q3⟩
theorem aE {op:Operator} {r:W2} {a b:Expr} {ta tb:WE} (ho:iB X (binaryOp op) r) (ha:QE X a ta) (hb:QE X b tb):QE X (.BinOp a op b pos) (kA r ta tb):=
 (A2 ho ha hb).imp λ_ _ _ h=>h.op
theorem dS {op:CmpOp} {r:W2} {a b:Expr} {ta tb:WE} (ho:iB X (compareOp op) r) (ha:QE X a ta) (hb:QE X b tb) (hm:behindInMarks op b=false:=by exact rO _):QE X (.Compare a [op] [b] pos) (kA r ta tb):=
 (vv ho ha hb hm).imp λ_ _ _ h=>h.op
theorem aA {r:W2} {a b:Expr} {ta tb:WE} (ho:y6 X r) (ha:QE X a ta) (hb:QE X b tb) (hs:px b:=by exact λ_ _=>rfl):QE X (.Subscript a b pos) (kA r ta tb):=
 (Bi ho ha hb hs).imp λ_ _ _ h=>h.op
noncomputable def pD (t:WE):WT:=λτ G q=>t τ G λx G1=>match x with | .bl b=>q b G1 | _=>False
theorem yZ.test {t:WE} {σ:St} {H:Hp} {Q:Bool->Hp->Prop} (h:yZ K (pD t) σ H Q):xG (j7 K t) σ H Q:=by
 obtain⟨τ,G,q,hs,hg,ht,hQ⟩:=h;refine⟨τ,G,_,hs,hg,ht,λv H1 w G1 t1 r1 g1 q1=>?_⟩;split at q1
 ·rename_i b;cases r1;exact⟨b,rfl,hQ b H1 G1 t1 g1 q1⟩
 ·exact q1.elim
theorem aH {op:CmpOp} {r:W2} {a b:Expr} {ta tb:WE} (ho:iB X (compareOp op) r) (ha:QE X a ta) (hb:QE X b tb) (hm:behindInMarks op b=false:=by exact rO _):QT X (.Compare a [op] [b] pos) (pD (kA r ta tb)):=
 (vw ho ha hb hm).imp λσ H Q h=>by
   obtain⟨τ,G,q,hs,hg,ht,hQ⟩:=h.test;exact j7.op ⟨τ,G,q,hs,hg,ht,hQ⟩
theorem cG {t:WE} (h:QE X e t) (he:∀whole,isTrue e X.env whole=(do let v ←whole;standAt e.pos;holding [v] (truthy v)):=by intro _;rfl):QT X e (pD t):=
 (yr h he).imp λσ H Q h=>h.test
noncomputable def Bm (t u:WT):WT:=λτ G q=>t τ G λc G1=>if c=true then u τ G1 q else q false G1
noncomputable def Fd (t u:WT):WT:=λτ G q=>t τ G λc G1=>if c=true then q true G1 else u τ G1 q
noncomputable def Bn (t:WT):WT:=λτ G q=>t τ G λc G1=>q (!c) G1
theorem cX {a:Expr} {t:WT} (ha:QT X a t):QW X (.BoolOp .And [a] pos) t:=vi ha
theorem fV {a:Expr} {t:WT} (ha:QT X a t):QW X (.BoolOp .Or [a] pos) t:=yt ha
theorem eB {a b:Expr} {bH:List Expr} {t u:WT} (ha:QT X a t) (hb:QW X (.BoolOp .And (b::bH) pos) u):QW X (.BoolOp .And (a::b::bH) pos) (Bm t u):=
 (yu ha hb).imp λσ H Q z0=>z0.el λτ G q hs hg ht hQ=>⟨τ,G,_,hs,hg,ht,λc H1 G1 t1 g1 q1=>by
   cases c with
   | true=>rw[if_pos rfl] at q1 ⊢;exact⟨τ,G1,q,hs.mono t1,g1,q1,λb H2 G2 t2 g2 q2=>hQ b H2 G2 (t1.trans t2) g2 q2⟩
   | false=>rw[if_neg Bool.false_ne_true] at q1 ⊢;exact hQ false H1 G1 t1 g1 q1⟩
theorem fb {a b:Expr} {bH:List Expr} {t u:WT} (ha:QT X a t) (hb:QW X (.BoolOp .Or (b::bH) pos) u):QW X (.BoolOp .Or (a::b::bH) pos) (Fd t u):=
 (AQ ha hb).imp λσ H Q z0=>z0.el λτ G q hs hg ht hQ=>⟨τ,G,_,hs,hg,ht,λc H1 G1 t1 g1 q1=>by
   cases c with
   | true=>rw[if_pos rfl] at q1 ⊢;exact hQ true H1 G1 t1 g1 q1
   | false=>rw[if_neg Bool.false_ne_true] at q1 ⊢;exact⟨τ,G1,q,hs.mono t1,g1,q1,λb H2 G2 t2 g2 q2=>hQ b H2 G2 (t1.trans t2) g2 q2⟩⟩
theorem fM {t:WT} (h:QW X e t):QT X e t:=PW.pt h
theorem eC {a:Expr} {t:WT} (ha:QT X a t):QT X (.UnaryOp .Not a pos) (Bn t):=
 (yv ha).imp λσ H Q z0=>z0.el λτ G q hs hg ht hQ=>⟨τ,G,_,hs,hg,ht,λc H1 G1 t1 g1 q1=>hQ (!c) H1 G1 t1 g1 q1⟩
noncomputable def xN (ta tb:WE):WE:=λτ G q=>ta τ G λx G1=>match x with | .bl c=>if c=true then tb τ G1 q else q (.bl false) G1 | _=>False
noncomputable def Bo (ta tb:WE):WE:=λτ G q=>ta τ G λx G1=>match x with | .bl c=>if c=true then q (.bl true) G1 else tb τ G1 q | _=>False
noncomputable def xO (ta:WE):WE:=λτ G q=>ta τ G λx G1=>match x with | .bl c=>q (.bl (!c)) G1 | _=>False
theorem oj {a:Expr} {op} {t:WE} (h:QE X a t):QE X (.BoolOp op [a] pos) t:=yw h
theorem ol {a b:Expr} {bH:List Expr} {ta tb:WE} (ha:QE X a ta) (hb:QE X (.BoolOp .And (b::bH) pos) tb):QE X (.BoolOp .And (a::b::bH) pos) (xN ta tb):=
 (yx ha hb).imp λσ H Q z0=>z0.el λτ G q hs hg ht hQ=>⟨τ,G,_,hs,hg,ht,λv H1 w G1 t1 r1 g1 q1=>by
   split at q1
   ·rename_i c;cases r1;refine⟨c,rfl,?_⟩;cases c with
    | true=>rw[if_pos rfl] at q1 ⊢;exact⟨τ,G1,q,hs.mono t1,g1,q1,λv2 H2 w2 G2 t2 r2 g2 q2=>hQ v2 H2 w2 G2 (t1.trans t2) r2 g2 q2⟩
    | false=>rw[if_neg Bool.false_ne_true] at q1 ⊢;exact hQ _ H1 _ G1 t1 (.bl false) g1 q1
   ·exact q1.elim⟩
theorem Bp {a b:Expr} {bH:List Expr} {ta tb:WE} (ha:QE X a ta) (hb:QE X (.BoolOp .Or (b::bH) pos) tb):QE X (.BoolOp .Or (a::b::bH) pos) (Bo ta tb):=
 (AT ha hb).imp λσ H Q z0=>z0.el λτ G q hs hg ht hQ=>⟨τ,G,_,hs,hg,ht,λv H1 w G1 t1 r1 g1 q1=>by
   split at q1
   ·rename_i c;cases r1;refine⟨c,rfl,?_⟩;cases c with
    | true=>rw[if_pos rfl] at q1 ⊢;exact hQ _ H1 _ G1 t1 (.bl true) g1 q1
    | false=>rw[if_neg Bool.false_ne_true] at q1 ⊢;exact⟨τ,G1,q,hs.mono t1,g1,q1,λv2 H2 w2 G2 t2 r2 g2 q2=>hQ v2 H2 w2 G2 (t1.trans t2) r2 g2 q2⟩
   ·exact q1.elim⟩
theorem y7 {a:Expr} {ta:WE} (ha:QE X a ta):QE X (.UnaryOp .Not a pos) (xO ta):=
 (yy ha).imp λσ H Q z0=>z0.el λτ G q hs hg ht hQ=>⟨τ,G,_,hs,hg,ht,λv H1 w G1 t1 r1 g1 q1=>by
   split at q1
   ·rename_i c;cases r1;exact⟨c,rfl,hQ _ H1 _ G1 t1 (.bl _) g1 q1⟩
   ·exact q1.elim⟩
noncomputable def Bq (c:WT) (ta tb:WE):WE:=λτ G q=>c τ G λb G1=>if b=true then ta τ G1 q else tb τ G1 q
theorem jj {c a b:Expr} {tc:WT} {ta tb:WE} (hc:QT X c tc) (ha:QE X a ta) (hb:QE X b tb):QE X (.IfExp c a b pos) (Bq tc ta tb):=
 (rJ hc ha hb).imp λσ H Q z0=>z0.el λτ G q hs hg ht hQ=>⟨τ,G,_,hs,hg,ht,λc H1 G1 t1 g1 q1=>by
   cases c with
   | true=>rw[if_pos rfl] at q1 ⊢;exact⟨τ,G1,q,hs.mono t1,g1,q1,λv2 H2 w2 G2 t2 r2 g2 q2=>hQ v2 H2 w2 G2 (t1.trans t2) r2 g2 q2⟩
   | false=>rw[if_neg Bool.false_ne_true] at q1 ⊢;exact⟨τ,G1,q,hs.mono t1,g1,q1,λv2 H2 w2 G2 t2 r2 g2 q2=>hQ v2 H2 w2 G2 (t1.trans t2) r2 g2 q2⟩⟩
noncomputable def j8:WA:=λ_ G q=>q [] G
noncomputable def pE (ta:WE) (tr:WA):WA:=λτ G q=>ta τ G λx G1=>tr τ G1 λxs G2=>q (x::xs) G2
theorem af:QA X [] j8:=pa_nil.imp λσ H Q z0=>z0.el λτ G q hs hg ht hQ=>hQ [] H [] G (aP.refl H) .nil hg ht
theorem ac {te:WE} {t:WA} (ha:QE X e te) (hr:QA X es t) (hs:starEach (e::es) X.env=(false,eval e X.env)::starEach es X.env:=by rfl):QA X (e::es) (pE te t):=
 (cL ha hr hs).imp λσ H Q z0=>z0.el λτ G q hs hg ht hQ=>⟨τ,G,_,hs,hg,ht,λv H1 w G1 t1 r1 g1 q1=>
   ⟨τ,G1,_,hs.mono t1,g1,q1,λvs H2 ws G2 t2 r2 g2 q2=>hQ (v::vs) H2 (w::ws) G2 (t1.trans t2) (.cons (r1.mono t2) r2) g2 q2⟩⟩
theorem bN {n:Nat} (h:n<=100000):n<=sizeLine:=by rw[sizeLine_eq];lia
noncomputable def Br (t:WA):WE:=λτ G q=>t τ G λws G1=>ws.length<=100000/\q (.tup ws) G1
noncomputable def Bs (t:WA):WE:=λτ G q=>t τ G λws G1=>ws.length<=100000/\∀p,G1 p=none->q (.ref p) (aL G1 p (.lst ws))
theorem aW {x1} {t:WA} (h:QA X es t):QE X (.Tuple es x1 pos) (Br t):=
 (yM h).imp λσ H Q z0=>z0.el λτ G q hs hg ht hQ=>⟨τ,G,_,hs,hg,ht,λvs H1 ws G1 t1 r1 g1 q1=>
   ⟨by rw[←r1.length];exact bN q1.1,λp hp=>hQ _ _ _ G1 (t1.trans (aP.new hp _)) (.tup bg (r1.mono (aP.new hp _))) (g1.keep hp _) q1.2⟩⟩
theorem bC {t:WA} (h:QA X es t):QE X (.List es pos) (Bs t):=
 (yN h).imp λσ H Q z0=>z0.el λτ G q hs hg ht hQ=>⟨τ,G,_,hs,hg,ht,λvs H1 ws G1 t1 r1 g1 q1=>
   ⟨by rw[←r1.length];exact bN q1.1,λp hp=>hQ _ _ _ _ (t1.trans (aP.new hp _)) (.ref p) (g1.put (aP.new hp _) r1 q1.1) (q1.2 p (g1.fresh hp))⟩⟩
noncomputable def xP:WS:=λd τ G=>d.nx τ G
noncomputable def y8 (t u:WS):WS:=λd τ G=>t { d with nx:=u d } τ G
theorem mK.mono {H H1:Hp} {d:dq} {D:fK} (l:mK K H d D) (t:aP H H1):mK K H1 d D:=
 ⟨λσ2 H2 τ2 G2 t2=>l.nx σ2 H2 τ2 G2 (t.trans t2),λv H2 w G2 t2=>l.rt v H2 w G2 (t.trans t2),λσ2 H2 τ2 G2 t2=>l.bk σ2 H2 τ2 G2 (t.trans t2),λσ2 H2 τ2 G2 t2=>l.ct σ2 H2 τ2 G2 (t.trans t2)⟩
theorem ah:mL X [] xP:=pss_nil.imp λD σ H z0=>z0.el λτ G d hs hg ht l=>l.nx σ H τ G (aP.refl H) hs hg ht
theorem ae {bH:List Stmt} {t u:WS} (h1:QS X st t) (h2:mL X bH u):mL X (st::bH) (y8 t u):=
 (rK h1 h2).imp λD σ H z0=>z0.el λτ G d hs hg ht l=>⟨τ,G,_,hs,hg,ht,⟨λσ1 H1 τ1 G1 t1 s1 g1 q1=>⟨τ1,G1,d,s1,g1,q1,l.mono t1⟩,l.rt,l.bk,l.ct⟩⟩
theorem dL {t:WS} (h1:QS X st t):mL X [st] t:=vj h1
noncomputable def xQ (te:WE):WS:=λd τ G=>te τ G λ_ G1=>d.nx τ G1
theorem eE {te:WE} (he:QE X e te) (hs:swapsWith e none pos.line X.env=pure false:=by rfl):QS X (.Expr e pos) (xQ te):=
 (vk he hs).imp λD σ H z0=>z0.el λτ G d hs hg ht l=>⟨τ,G,_,hs,hg,ht,λv H1 w G1 t1 r1 g1 q1=>l.nx σ H1 τ G1 t1 (hs.mono t1) g1 q1⟩
noncomputable def Bt (te:WE):WS:=λd τ G=>te τ G d.rt
theorem av {te:WE} (he:QE X e te):QS X (.Return (some e) pos) (Bt te):=
 (yz he).imp λD σ H z0=>z0.el λτ G d hs hg ht l=>⟨τ,G,_,hs,hg,ht,λv H1 w G1 t1 r1 g1 q1=>l.rt v H1 w G1 t1 r1 g1 q1⟩
noncomputable def Da (c:WT) (t u:WS):WS:=λd τ G=>c τ G λb G1=>if b=true then t d τ G1 else u d τ G1
theorem bq {c:Expr} {a b:List Stmt} {tc:WT} {t u:WS} (hc:QT X c tc) (ha:mL X a t) (hb:mL X b u):QS X (.If c a b pos) (Da tc t u):=
 (AW hc ha hb).imp λD σ H z0=>z0.el λτ G d hs hg ht l=>⟨τ,G,_,hs,hg,ht,λc H1 G1 t1 g1 q1=>by
   cases c with
   | true=>rw[if_pos rfl] at q1 ⊢;exact⟨τ,G1,d,hs.mono t1,g1,q1,l.mono t1⟩
   | false=>rw[if_neg Bool.false_ne_true] at q1 ⊢;exact⟨τ,G1,d,hs.mono t1,g1,q1,l.mono t1⟩⟩
noncomputable def cW (i:Nat):WG:=λw τ G q=>q (τ.set i (some w)) G
theorem cm (i:Nat) (hN:X.N.Nodup) (hi:X.N[i]?=some x) (hx:u7 X.env.scope x) (hf:X.fn x=true∨X.env.scope.names.lookup x=some .local:=by first | exact .inl rfl | exact .inr rfl | assumption):QG X (.Name x pos) (cW i):=
 (vo hN hi hx hf).imp λv σ H Q ⟨w,τ,G,q,r,hs,hg,ht,hQ⟩=>hQ _ H _ G (aP.refl H) (hs.set r i) hg ht
noncomputable def si:xM:=λws τ G q=>match ws with | []=>q τ G | _=>False
noncomputable def kB (t:WG) (u:xM):xM:=λws τ G q=>match ws with | w::r=>t w τ G λτ1 G1=>u r τ1 G1 q | []=>False
theorem lz:Bl X [] si:=pgs_nil.imp λvs σ H Q ⟨ws,τ,G,q,r,hs,hg,ht,hQ⟩=>by
 unfold si at ht;cases r with
 | nil=>exact⟨rfl,hQ σ H τ G (aP.refl H) hs hg ht⟩
 | cons _ _=>exact ht.elim
theorem eg {t:WG} {u:xM} (h1:QG X e t) (h2:Bl X es u)
 (hs:(assignEach (e::es) X.env).map (·.2)=assign e X.env::(assignEach es X.env).map (·.2):=by rfl):Bl X (e::es) (kB t u):=
 (rL h1 h2 hs).imp λvs σ H Q ⟨ws,τ,G,q,r,hs,hg,ht,hQ⟩=>by
   unfold kB at ht;cases r with
   | nil=>exact ht.elim
   | cons r rs=>
     exact⟨_,_,rfl,_,τ,G,_,r,hs,hg,ht,λσ1 H1 τ1 G1 t1 s1 g1 q1=>⟨_,τ1,G1,q,rs.mono t1,s1,g1,q1,λσ2 H2 τ2 G2 t2=>hQ σ2 H2 τ2 G2 (t1.trans t2)⟩⟩
noncomputable def sj (n:Nat) (t:xM):WG:=λw τ G q=>match w with | .tup ws=>ws.length=n/\t ws τ G q | _=>False
theorem oo {t:xM} (hc:X.calm=true) (h:Bl X es t)
 (hn:(assignEach es X.env).length=es.length:=by rfl) (hst:(assignEach es X.env).findIdx? (·.1)=none:=by rfl):QG X (.Tuple es k pos) (sj es.length t):=
 (yA hc h hn hst).imp λv σ H Q ⟨w,τ,G,q,r,hs,hg,ht,hQ⟩=>by
   unfold sj at ht;cases r with
   | tup h r=>exact⟨_,_,rfl,cO.of h,by rw[←r.length];exact ht.1,_,τ,G,q,r,hs,hg,ht.2,hQ⟩
   | _=>exact ht.elim
noncomputable def vH (te:WE) (g:WG):WS:=λd τ G=>te τ G λx G1=>g x τ G1 d.nx
theorem aY (i:Nat) {te:WE} {pos' pos:Pos} (hN:X.N.Nodup) (hi:X.N[i]?=some x) (hx:u7 X.env.scope x) (he:QE X e te) (hs:swapsWith e (some (.Name x pos')) pos.line X.env=pure false:=by rfl) (hf:X.fn x=true∨X.env.scope.names.lookup x=some .local:=by first | exact .inl rfl | exact .inr rfl | assumption):
 QS X (.Assign [.Name x pos'] e pos) (vH te (cW i)):=
 (yB hN hi hx he hs hf).imp λD σ H z0=>z0.el λτ G d hs hg ht l=>
   ⟨τ,G,_,hs,hg,ht,λv H1 w G1 t1 r1 g1 q1=>l.nx _ H1 _ G1 t1 ((hs.mono t1).set r1 i) g1 q1⟩
noncomputable def sk (c:WT) (tb:WS):WS:=λd τ G=>∃I:Nat->cP->Gp->Prop,(∃m,I m τ G)/\∀m τ G,I m τ G->
 c τ G λb G1=>if b=true then ∃N:cP->Gp->Prop,(∀τ1 G1,N τ1 G1->∃m1,m1<m/\I m1 τ1 G1)/\tb { d with nx:=N,ct:=N,bk:=d.nx } τ G1 else d.nx τ G1
theorem mM {c:Expr} {tc:WT} {tb:WS} (hp:PassesOwn (model X.prog X.w) X.A X.env X.xe) (hc:QT X c tc) (hb:mL X body tb):QS X (.While c body [] pos) (sk tc tb):=
 (rM hp hc hb).imp λD σ H ⟨τ,G,d,hs,hg,⟨I,⟨m,i0⟩,turn⟩,l⟩=>by
   refine⟨λm σ1 H1=>∃τ1 G1,aP H H1/\bt X.K H1 τ1 σ1/\aM X.K H1 G1/\I m τ1 G1,⟨m,τ,G,aP.refl H,hs,hg,i0⟩,?_⟩;rintro m1 σ1 H1 ⟨τ1,G1,t1,s1,g1,i1⟩;refine⟨τ1,G1,_,s1,g1,turn m1 τ1 G1 i1,λb H2 G2 t2 g2 q2=>?_⟩;cases b with
   | true=>
     rw[if_pos rfl] at q2 ⊢;obtain⟨N,hN,q2⟩:=q2;refine⟨λσ3 H3=>∃τ3 G3,aP H H3/\bt X.K H3 τ3 σ3/\aM X.K H3 G3/\N τ3 G3,?_,τ1,G2,_,s1.mono t2,g2,q2,?_⟩
     ·rintro σ3 H3 ⟨τ3,G3,t3,s3,g3,n3⟩;obtain⟨m3,hm,i3⟩:=hN τ3 G3 n3;exact⟨m3,hm,τ3,G3,t3,s3,g3,i3⟩
     ·have tt:=t1.trans t2;exact⟨λσ3 H3 τ3 G3 t3 s3 g3 q3=>⟨τ3,G3,tt.trans t3,s3,g3,q3⟩,λv H3 w G3 t3=>l.rt v H3 w G3 (tt.trans t3),λσ3 H3 τ3 G3 t3=>l.nx σ3 H3 τ3 G3 (tt.trans t3),λσ3 H3 τ3 G3 t3 s3 g3 q3=>⟨τ3,G3,tt.trans t3,s3,g3,q3⟩⟩
   | false=>
     rw[if_neg Bool.false_ne_true] at q2 ⊢;exact l.nx σ1 H2 τ1 G2 (t1.trans t2) (s1.mono t2) g2 q2
end
section
variable {X:Cx}
noncomputable abbrev WX:=Value->Gp->Prop
noncomputable abbrev bP:=List W->Gp->WK->WX->Prop
noncomputable def u9 (K:PySem.W.Frag) (sp:bP):Sp:=λvs H Q E=>∃ws G q e,aV K H ws vs/\aM K H G/\sp ws G q e/\(∀v H1 w G1,aP H H1->bK K H1 w v->aM K H1 G1->q w G1->Q v H1)/\
 ∀c d H1 G1,aP H H1->aM K H1 G1->e c G1->E c d H1
noncomputable abbrev bW (P:Program) (w:World) (K:PySem.W.Frag) (mg:Str->Option Value) (base:Heap) (k:Nat) (f:Addr) (fd:FuncData) (ps:List Str) (sp:bP):Prop:=dG P w K mg base sg k f fd ps (u9 K sp)
noncomputable def gz (sp:bP) (dws:List W) (t:WA):WE:=λτ G q=>t τ G λws G1=>sp (ws++dws) G1 q λ_ _=>False
theorem j7.call {sp:bP} {dws:List W} {dvs:List V} {t:WA} {σ:St} {H:Hp} {Q:VK} {E:XK} (hd:∀H,aV K H dws dvs) (h:j7 K (gz sp dws t) σ H Q):rS (u9 K sp) dvs E (LA K t) σ H Q:=by
 obtain⟨τ,G,q,hs,hg,ht,hQ⟩:=h;exact⟨τ,G,_,hs,hg,ht,λvs H1 ws G1 t1 r1 g1 q1=>⟨ws++dws,G1,q,_,r1.append (hd H1),g1,q1,λv H2 w G2 t2=>hQ v H2 w G2 (t1.trans t2),λ_ _ _ _ _ _ z=>z.elim⟩⟩
theorem vI {f:Addr} {sp:bP} {p pos:Pos} {t:WA} (F:bW X.prog X.w X.K X.mg X.base k f fd ps sp) (hr:aw k X.A) (hg:Gl X x) (hm:X.mg x=some (.ref f))
 (hk:keepIn X.K (.ref f)=true) (hb:bI X.K fd ps []) (ha:QA X (e::es) t) (hdb:(x==("__debug__":Str))=false:=by decide)
 (he:starEach (e::es) X.env=(false,eval e X.env)::starEach es X.env:=by rfl) (hpl:(backTo pos (starEach es X.env)).any (·.1)=false:=by rfl):QE X (.Call (.Name x p) (e::es) [] pos) (gz sp [] t):=
 (ph F hr hg hm hk hb .nil ky ha hdb he hpl).imp λ_ _ _ h=>h.call λ_=> .nil
theorem so {f:Addr} {sp:bP} {p pos:Pos} (F:bW X.prog X.w X.K X.mg X.base k f fd ps sp) (hr:aw k X.A) (hg:Gl X x) (hm:X.mg x=some (.ref f))
 (hk:keepIn X.K (.ref f)=true) (hb:bI X.K fd ps []) (hdb:(x==("__debug__":Str))=false:=by decide):QE X (.Call (.Name x p) [] [] pos) (gz sp [] j8):=
 (rV F hr hg hm hk hb .nil ky hdb).imp λ_ _ _ h=>by
   obtain⟨τ,G,q,hs,hg,ht,hQ⟩:=h;exact⟨[],G,q,_,.nil,hg,ht,hQ,λ_ _ _ _ _ _ z=>z.elim⟩
noncomputable def ia (N:List Str) (ws:List W):cP:=ws.map some++List.replicate (N.length-ws.length) none
theorem bW.none {f:Addr} {sp:bP} (h:∀ws G q e,¬sp ws G q e):bW P w K mg base k f fd ps sp:=
 ⟨λ_ _ _ _ ⟨_,_,_,_,_,_,z,_⟩=>absurd z (h _ _ _ _),λ_ _ _ _ _ _ _ _ _ _ _ _ _ ⟨_,_,_,_,_,_,z,_⟩=>absurd z (h _ _ _ _)⟩
theorem bW.imp {f:Addr} {sp sp':bP} (F:bW P w K mg base k f fd ps sp) (h:∀ws G q e,sp' ws G q e->sp ws G q e):bW P w K mg base k f fd ps sp':=
 dG.imp F λ_ _ _ _ ⟨ws,G,q,e,r,g,z,a,b⟩=>⟨ws,G,q,e,r,g,h _ _ _ _ z,a,b⟩
theorem y9 {x qual:Str} {f:Addr} {N ps:List Str} {sp:bP} (F:cq K x qual st f fd) (S:bM N ps (am st)) (len:∀ws G q e,sp ws G q e->ws.length=ps.length)
 (hbody:∀(cdv:Value) (A:Around) (outer:List Env) (s:Shared) (H:Hp) (E:XK),aw k (A.deeper (envOfC qual (am st) s.heap.objs.size f cdv))->
   ∃t,mL (dm sg P w K mg base N qual (am st) f cdv A outer s H E).nox (ap st) t/\
    ∀(ws:List W) (G:Gp) (q:WK) (e:WX),sp ws G q e->t { nx:=λ_ G1=>∃G0,aF G0 G1/\q .non G0,rt:=λw G1=>∃G0,aF G0 G1/\q w G0 } (ia N ws) G):bW P w K mg base (k+1) f fd ps sp:=by
 refine F.ok S (λvs H Q E ⟨ws,G,q,e,r,g,z,_⟩=>by rw[←r.length];exact len _ _ _ _ z) (λcdv A outer s H vs Q E hr ⟨ws,G,q,e,r,g,z,hQ,_⟩=>?_);obtain⟨t,ht,hq⟩:=hbody cdv A outer s H E hr;exact⟨_,ht,_,G,_,bt.start r,g,hq ws G q e z,⟨λσ1 H1 τ1 G1 t1 s1 g1 ⟨G0,l,q1⟩=>hQ .non H1 .non G0 t1 .non (g1.le l) q1,λv H1 w G1 t1 r1 g1 ⟨G0,l,q1⟩=>hQ v H1 w G0 t1 r1 (g1.le l) q1,λ_ _ _ _ _ _ _ z=>z.elim,λ_ _ _ _ _ _ _ z=>z.elim⟩⟩
noncomputable def xR (K:PySem.W.Frag) (r:List W->Gp->WK->Prop):List V->Hp->VK->Prop:=λvs H Q=>∃ws G q,aV K H ws vs/\aM K H G/\r ws G q/\∀v H1 w G1,aP H H1->bK K H1 w v->aM K H1 G1->q w G1->Q v H1
noncomputable def dM (X:Cx) (f:Value) (r:List W->Gp->WK->Prop):Prop:=eZ X f (xR X.K r)
noncomputable def Db (r:List W->Gp->WK->Prop) (t:WA):WE:=λτ G q=>t τ G λws G1=>r ws G1 q
theorem j7.cb {r:List W->Gp->WK->Prop} {t:WA} {σ:St} {H:Hp} {Q:VK} (h:j7 K (Db r t) σ H Q):DG (xR K r) (LA K t) σ H Q:=by
 obtain⟨τ,G,q,hs,hg,ht,hQ⟩:=h;exact⟨τ,G,_,hs,hg,ht,λvs H1 ws G1 t1 r1 g1 q1=>⟨ws,G1,q,r1,g1,q1,λv H2 w G2 t2=>hQ v H2 w G2 (t1.trans t2)⟩⟩
theorem bb {id:String} {r:List W->Gp->WK->Prop} {p pos:Pos} {t:WA} (hc:dM X (.builtin id) r) (hg:Gl X x) (hm:X.mg x=none) (hv:bootBuiltins x=some (.builtin id)) (ha:QA X (e::es) t)
 (hn:x≠"__name__":=by decide) (hdb:(x==("__debug__":Str))=false:=by decide)
 (he:starEach (e::es) X.env=(false,eval e X.env)::starEach es X.env:=by rfl) (hpl:(backTo pos (starEach es X.env)).any (·.1)=false:=by rfl):QE X (.Call (.Name x p) (e::es) [] pos) (Db r t):=
 (mD hc hg hm hv ha hn hdb he hpl).imp λ_ _ _ h=>h.cb
theorem bv {T:String} {r:List W->Gp->WK->Prop} {p pos:Pos} {t:WA} (hc:dM X (.type T) r) (hg:Gl X x) (hm:X.mg x=none) (hv:bootBuiltins x=some (.type T)) (ha:QA X (e::es) t)
 (hn:x≠"__name__":=by decide) (hdb:(x==("__debug__":Str))=false:=by decide)
 (he:starEach (e::es) X.env=(false,eval e X.env)::starEach es X.env:=by rfl) (hpl:(backTo pos (starEach es X.env)).any (·.1)=false:=by rfl):QE X (.Call (.Name x p) (e::es) [] pos) (Db r t):=
 (qL hc hg hm hv ha hn hdb he hpl).imp λ_ _ _ h=>h.cb
theorem aV.one {H:Hp} {w:W} {vs:List V} (r:aV K H [w] vs):∃v,vs=[v]/\bK K H w v:=by
 cases r with
 | cons r rs=>cases rs;exact⟨_,rfl,r⟩
theorem aV.two {H:Hp} {w u:W} {vs:List V} (r:aV K H [w,u] vs):∃v x,vs=[v,x]/\bK K H w v/\bK K H u x:=by
 cases r with
 | cons r rs=>
   obtain⟨x,rfl,r2⟩:=rs.one;exact⟨_,_,rfl,r,r2⟩
noncomputable def zc:List W->Gp->WK->Prop:=λws G q=>match ws with
 | [.tup xs]=>q (.int xs.length) G
 | [.scr ns]=>q (.int ns.length) G
 | [.ref a]=>∃xs,G a=some (.lst xs)/\q (.int xs.length) G
 | _=>False
theorem xS:dM X (.builtin "len") zc:=by
 rintro π s σ H xs us Q I r ⟨ws,G,q,rw',g,h,hQ⟩;cases rw' with
 | nil=>exact False.elim h
 | cons r1 rr'=>
   cases rr' with
   | cons _ _=>cases r1<;> exact False.elim h
   | nil=>
     cases r1 with
     | tup hh rr=>exact eA π s σ H _ us Q I r ⟨_,_,rfl,.inr (cO.of hh),hQ _ H _ G (aP.refl H) (by rw[rr.length];exact .int _) g h⟩
     | scr hh=>exact eA π s σ H _ us Q I r ⟨_,_,rfl,.inl hh.sq,hQ _ H _ G (aP.refl H) (by rw[length_map];exact .int _) g h⟩
     | ref a=>
       obtain⟨ys,e,h⟩:=h;obtain⟨_,zs,e1,rr⟩:=g a _ e;exact eA π s σ H _ us Q I r ⟨_,_,rfl,.inl (cU.of e1),hQ _ H _ G (aP.refl H) (by rw[rr.length];exact .int _) g h⟩
     | _=>exact False.elim h
noncomputable def sr:List W->Gp->WK->Prop:=λws G q=>match ws with
 | [.tup xs]=>q (.tup xs) G
 | [.ref a]=>∃xs,G a=some (.lst xs)/\q (.tup xs) G
 | _=>False
theorem fy:dM X (.type "tuple") sr:=by
 rintro π s σ H xs us Q I r ⟨ws,G,q,rw',g,h,hQ⟩;cases rw' with
 | nil=>exact False.elim h
 | cons r1 rr'=>
   cases rr' with
   | cons _ _=>cases r1<;> exact False.elim h
   | nil=>
     cases r1 with
     | tup hh rr=>exact fP π s σ H _ us Q I r ⟨_,_,rfl,.inr ⟨cO.of hh,hQ _ H _ G (aP.refl H) (.tup hh rr) g h⟩⟩
     | ref a=>
       obtain⟨ys,e,h⟩:=h;obtain⟨_,zs,e1,rr⟩:=g a _ e;exact fP π s σ H _ us Q I r ⟨_,_,rfl,.inl ⟨cU.of e1,λl hl=>hQ _ _ _ G (aP.new hl _) (.tup bg (rr.mono (aP.new hl _))) (g.keep hl _) h⟩⟩
     | _=>exact False.elim h
noncomputable def pF:List W->Gp->WK->Prop:=λws G q=>match ws with
 | [.tup xs]=>xs.length<=100000/\∀p,G p=none->q (.ref p) (aL G p (.lst xs))
 | [.ref a]=>∃xs,G a=some (.lst xs)/\∀p,G p=none->q (.ref p) (aL G p (.lst xs))
 | _=>False
theorem ss:dM X (.type "list") pF:=by
 rintro π s σ H xs us Q I r ⟨ws,G,q,rw',g,h,hQ⟩;unfold pF at h;split at h
 ·rename_i ys;obtain⟨v,rfl,r1⟩:=rw'.one;cases r1 with
  | tup hh rr=>exact gt π s σ H _ us Q I r ⟨_,_,rfl,.inr (cO.of hh),λl hl=>hQ _ _ _ _ (aP.new hl _) (.ref l) (g.put (aP.new hl _) rr h.1) (h.2 l (g.fresh hl))⟩
 ·rename_i a;obtain⟨ys,e,h⟩:=h;obtain⟨v,rfl,r1⟩:=rw'.one;cases r1;obtain⟨hl,zs,e1,rr⟩:=g a _ e;exact gt π s σ H _ us Q I r ⟨_,_,rfl,.inl (cU.of e1),λl hl'=>hQ _ _ _ _ (aP.new hl' _) (.ref l) (g.put (aP.new hl' _) rr hl) (h l (g.fresh hl'))⟩
 ·exact h.elim
noncomputable def Bu:List W->Gp->WK->Prop:=λws G q=>match ws with
 | [.int i]=>q (.int i) G
 | [.bl b]=>q (.int (if b then 1 else 0)) G
 | _=>False
theorem pG:dM X (.type "int") Bu:=by
 rintro π s σ H xs us Q I r ⟨ws,G,q,rw',g,h,hQ⟩;cases rw' with
 | nil=>exact False.elim h
 | cons r1 rr'=>
   cases rr' with
   | cons _ _=>cases r1<;> exact False.elim h
   | nil=>
     cases r1 with
     | int i=>exact ko π s σ H _ us Q I r (.inl ⟨_,rfl,hQ _ H _ G (aP.refl H) (.int _) g h⟩)
     | bl b=>exact ko π s σ H _ us Q I r (.inr ⟨_,rfl,hQ _ H _ G (aP.refl H) (.int _) g h⟩)
     | _=>exact False.elim h
noncomputable def zd:W2:=λx y G q=>match x,y with
 | .int i,.int j=>q (.int (i+j)) G
 | .tup xs,.tup ys=>xs.length+ys.length<=100000/\q (.tup (xs++ys)) G
 | .ref a,.ref b=>∃xs ys,G a=some (.lst xs)/\G b=some (.lst ys)/\xs.length+ys.length<=100000/\∀p,G p=none->q (.ref p) (aL G p (.lst (xs++ys)))
 | _,_=>False
theorem DR {σ:St} {H:Hp} {a b:Addr} {ys:List V} {Q:VK} (I:aC X π σ H s) (ha:H a=some (.tup [])) (hb:H b=some (.tup ys)) (q:Q (.ref b) H):wpAny (model X.prog X.w) X.A (binaryOp .Add (.ref a) (.ref b)) (EP X π σ Q) X.xe s:=by
 obtain⟨its,r1,p1,_⟩:=I.tuple (cO.of ha);obtain⟨its2,r2,p2,_⟩:=I.tuple (cO.of hb);cases r1;obtain⟨⟨cls,dd,data,sl⟩,ho,hc,n,hd⟩:=id p1;obtain⟨⟨cls2,dd2,data2,sl2⟩,ho2,hc2,n2,hd2⟩:=id p2;simp only at hc hd hc2 hd2;subst hc hd hc2 hd2;exact concat_meets ⟨_,ho,rfl⟩ ⟨_,ho2,rfl⟩ noFill_tuple_add seq_tuple_add PySem.F.slot_tuple_add PySem.F.entry_tuple_add (PySem.F.args_tuple_add_2 _ _)
  (tuple_addW0 a b #[] its2.toArray n n2 dd dd2 sl sl2 rfl) ⟨ho,ho2,⟨.ref b,H,I,rfl,q⟩⟩
theorem Bv:iB X (binaryOp .Add) zd:=by
 rintro π s σ H x y v u Q I rx ry ⟨wx,wy,G,q,r1,r2,g,h,hQ⟩;cases r1 with
 | int i=>
   cases r2 with
   | int j=>exact yG π s σ H _ _ v u Q I rx ry ⟨_,_,rfl,rfl,hQ _ H _ G (aP.refl H) (.int _) g h⟩
   | _=>exact False.elim h
 | @tup a ws xs ha ra=>
   cases r2 with
   | @tup b us ys hb rb=>
     cases xs with
     | nil=>
       cases ra;cases rx;cases ry;exact DR I ha hb (hQ _ H _ G (aP.refl H) (.tup hb rb) g h.2)
     | cons x0 xr=>
       refine vE π s σ H _ _ v u Q I rx ry ⟨a,b,_,_,rfl,rfl,cO.of ha,cO.of hb,by simp,by rw[←ra.length,←rb.length];exact bN h.1,λe=>?_,λ_ p hp=>?_⟩
       ·subst e;cases rb;have h2:=h.2;rw[append_nil] at h2;exact hQ _ H _ G (aP.refl H) (.tup ha ra) g h2
       ·exact hQ _ _ _ G (aP.new hp _) (.tup bg ((ra.append rb).mono (aP.new hp _))) (g.keep hp _) h.2
   | _=>exact False.elim h
 | ref a=>
   cases r2 with
   | ref b=>
     obtain⟨xs,ys,ea,eb,hl,h⟩:=h;obtain⟨_,xs',ha,ra⟩:=g _ _ ea;obtain⟨_,ys',hb,rb⟩:=g _ _ eb;refine yU π s σ H _ _ v u Q I rx ry ⟨_,_,_,_,rfl,rfl,ha,hb,by rw[←ra.length,←rb.length];exact bN hl,λp hp=>?_⟩;exact hQ _ _ _ _ (aP.new hp _) (.ref p) (g.put (aP.new hp _) (ra.append rb) (by rw[length_append];exact hl)) (h p (g.fresh hp))
   | _=>exact False.elim h
 | _=>exact False.elim h
noncomputable def vInt (C:Int->Int->Prop) (f:Int->Int->W):W2:=λx y G q=>match x,y with
 | .int i,.int j=>C i j/\q (f i j) G
 | _,_=>False
theorem oq {f:Value->Value->Sem Value} {C:Int->Int->Prop} {g:Int->Int->Int} (h:iS X f (rI C λi j=> .int (g i j))):iB X f (vInt C λi j=> .int (g i j)):=by
 rintro π s σ H x y v u Q I rx ry ⟨wx,wy,G,q,r1,r2,gg,hh,hQ⟩;unfold vInt at hh;split at hh
 ·cases r1;cases r2;exact h π s σ H _ _ v u Q I rx ry ⟨_,_,rfl,rfl,hh.1,hQ _ H _ G (aP.refl H) (.int _) gg hh.2⟩
 ·exact hh.elim
noncomputable def vInt0 (f:Int->Int->W):W2:=λx y G q=>match x,y with
 | .int i,.int j=>q (f i j) G
 | _,_=>False
theorem sw {f:Value->Value->Sem Value} {g:Int->Int->Bool} (h:iS X f (vp λi j=> .bl (g i j))):iB X f (vInt0 λi j=> .bl (g i j)):=by
 rintro π s σ H x y v u Q I rx ry ⟨wx,wy,G,q,r1,r2,gg,hh,hQ⟩;unfold vInt0 at hh;split at hh
 ·cases r1;cases r2;exact h π s σ H _ _ v u Q I rx ry ⟨_,_,rfl,rfl,hQ _ H _ G (aP.refl H) (.bl _) gg hh⟩
 ·exact hh.elim
noncomputable abbrev Bw:W2:=vInt (λ_ j=>0<j) λi j=> .int (i%j)
theorem cf:iB X (binaryOp .Mod) Bw:=oq yI
noncomputable abbrev FD:W2:=vInt0 λi j=> .bl (decide (i<=j))
noncomputable abbrev FE:W2:=vInt0 λi j=> .bl (decide (j<i))
noncomputable abbrev FF:W2:=vInt0 λi j=> .bl (decide (j<=i))
theorem DS:iB X (compareOp .LtE) FD:=sw A7
theorem lA:iB X (compareOp .Gt) FE:=sw A8
theorem Bx:iB X (compareOp .GtE) FF:=sw A9
noncomputable def sx:W2:=λx y G q=>match x,y with
 | .tup xs,.int i=>∃w,fL xs i=some w/\q w G
 | .scr ns,.int i=>∃n,fL ns i=some n/\q (.int n) G
 | .ref a,.int i=>∃xs w,G a=some (.lst xs)/\fL xs i=some w/\q w G
 | _,_=>False
theorem aV.at {H:Hp} {ws:List W} {vs:List V} {i:Int} {w:W} (r:aV K H ws vs) (e:fL ws i=some w):∃v,fL vs i=some v/\bK K H w v:=by
 unfold fL at e ⊢;rw[r.length] at e;cases h:r6 vs.length i with
 | none=>rw[h] at e;cases e
 | some j=>
   rw[h] at e;exact r.get e
theorem vJ {α β:Type} (f:α->β) (xs:List α) (i:Int):fL (xs.map f) i=(fL xs i).map f:=by
 unfold fL;rw[length_map];cases r6 xs.length i with
 | none=>rfl
 | some j=>simp
theorem DT:y6 X sx:=by
 rintro value slice π s σ H x y v u Q I rx ry ⟨wx,wy,G,q,r1,r2,g,h,hQ⟩ hsl;cases r2 with
 | int i=>
   cases r1 with
   | tup hh rr=>
     obtain⟨w,e,h⟩:=h;obtain⟨v',e',r'⟩:=rr.at e;exact yQ value slice π s σ H _ _ v u Q I rx ry ⟨_,_,_,v',rfl,rfl,cO.of hh,e',hQ _ H _ G (aP.refl H) r' g h⟩ hsl
   | scr hh=>
     obtain⟨n,e,h⟩:=h;exact pz value slice π s σ H _ _ v u Q I rx ry ⟨_,_,_,.int n,rfl,rfl,hh.sq,by rw[vJ,e];rfl,hQ _ H _ G (aP.refl H) (.int n) g h⟩ hsl
   | ref a=>
     obtain⟨xs,w,ea,e,h⟩:=h;obtain⟨_,zs,e1,rr⟩:=g _ _ ea;obtain⟨v',e',r'⟩:=rr.at e;exact pz value slice π s σ H _ _ v u Q I rx ry ⟨_,_,_,v',rfl,rfl,cU.of e1,e',hQ _ H _ G (aP.refl H) r' g h⟩ hsl
   | _=>exact False.elim h
 | _=>cases r1<;> exact False.elim h
end
mutual
noncomputable def W.flat:W->Bool
 | .tup xs=>W.flats xs
 | .ref _=>false
 | .scr _=>false
 | _=>true
noncomputable def W.flats:List W->Bool
 | []=>true
 | x::xs=>W.flat x&&W.flats xs
end
mutual
noncomputable def W.dep:W->Nat
 | .tup xs=>W.deps xs+1
 | _=>0
noncomputable def W.deps:List W->Nat
 | []=>0
 | x::xs=>max (W.dep x) (W.deps xs)
end
mutual
noncomputable def W.eq:W->W->Bool
 | .non,.non=>true
 | .bl a,.bl b=>a==b
 | .bl a,.int j=>(if a then 1 else 0)==j
 | .int i,.bl b=>i==(if b then 1 else 0)
 | .int i,.int j=>i==j
 | .str x,.str y=>x==y
 | .tup xs,.tup ys=>W.eqs xs ys
 | _,_=>false
noncomputable def W.eqs:List W->List W->Bool
 | [],[]=>true
 | x::xs,y::ys=>W.eq x y&&W.eqs xs ys
 | _,_=>false
end
theorem cH {P:Prop} (h:false=true):P:=Bool.noConfusion h
theorem W.eq_int (i j:Int):(W.int i).eq (W.int j)=(i==j):=rfl
theorem W.eq_tup (xs ys:List W):(W.tup xs).eq (W.tup ys)=W.eqs xs ys:=rfl
mutual
theorem W.eq_refl:∀w:W,w.flat=true->w.eq w=true
 | .non,_=>rfl
 | .bl b,_=>beq_self_eq_true b
 | .int i,_=>beq_self_eq_true i
 | .str x,_=>beq_self_eq_true x
 | .tup xs,h=>W.eqs_refl xs h
 | .ref _,h=>cH h
 | .scr _,h=>cH h
theorem W.eqs_refl:∀ws:List W,W.flats ws=true->W.eqs ws ws=true
 | [],_=>rfl
 | x::xs,h=>by
   have h':x.flat=true/\W.flats xs=true:=(Bool.and_eq_true _ _).mp h;exact(Bool.and_eq_true _ _).mpr ⟨W.eq_refl x h'.1,W.eqs_refl xs h'.2⟩
end
mutual
theorem bK.inj {K:PySem.W.Frag} {H:Hp}:∀{w u:W} {v:V},w.flat=true->u.flat=true->bK K H w v->bK K H u v->w=u:=by
 intro w u v h1 h2 r1 r2;cases r1 with
 | non=>cases r2;rfl
 | bl _=>cases r2;rfl
 | int _=>cases r2;rfl
 | str _=>cases r2;rfl
 | ref _=>exact cH h1
 | scr _=>exact cH h1
 | tup e1 r1=>
   cases r2 with
   | ref _=>exact cH h2
   | scr _=>exact cH h2
   | tup e2 r2=>
     rw[e1] at e2;cases e2;rw[aV.inj h1 h2 r1 r2]
theorem aV.inj {K:PySem.W.Frag} {H:Hp}:∀{ws us:List W} {vs:List V},W.flats ws=true->W.flats us=true->aV K H ws vs->aV K H us vs->ws=us:=by
 intro ws us vs h1 h2 r1 r2;cases r1 with
 | nil=>cases r2;rfl
 | cons r1 s1=>
   cases r2 with
   | cons r2 s2=>
     simp only[W.flats,Bool.and_eq_true] at h1 h2;rw[bK.inj h1.1 h2.1 r1 r2,aV.inj h1.2 h2.2 s1 s2]
end
theorem W.flats_get:∀{ws:List W} {j:Nat} {w:W},W.flats ws=true->ws[j]?=some w->w.flat=true
 | [],_,_,_,e=>by simp at e
 | x::xs,0,w,h,e=>by
   have h':x.flat=true/\W.flats xs=true:=by simpa[W.flats] using h
   simp at e;subst e;exact h'.1
 | x::xs,j+1,w,h,e=>by
   have h':x.flat=true/\W.flats xs=true:=by simpa[W.flats] using h
   exact W.flats_get h'.2 (by simpa using e)
theorem W.deps_get:∀{ws:List W} {j:Nat} {w:W},ws[j]?=some w->w.dep<=W.deps ws
 | [],_,_,e=>by simp at e
 | x::xs,0,w,e=>by simp at e;subst e;simp[W.deps];lia
 | x::xs,j+1,w,e=>by
   have:=W.deps_get (ws:=xs) (j:=j) (w:=w) (by simpa using e);simp only[W.deps];(clear e;lia)
theorem W.eqs_iff:∀(ws us:List W),W.eqs ws us=true↔ws.length=us.length/\∀(j:Nat) (a b:W),ws[j]?=some a->us[j]?=some b->W.eq a b=true
 | [],[]=>by simp[W.eqs]
 | [],_::_=>by simp[W.eqs]
 | _::_,[]=>by simp[W.eqs]
 | x::xs,y::ys=>by
   rw[W.eqs,Bool.and_eq_true,W.eqs_iff xs ys];constructor
   ·rintro⟨h1,h2,h3⟩;refine⟨by simp[h2],λj a b ea eb=>?_⟩;cases j with
    | zero=>simp at ea eb;subst ea eb;exact h1
    | succ j=>exact h3 j a b (by simpa using ea) (by simpa using eb)
   ·rintro⟨h1,h2⟩;exact⟨h2 0 x y rfl rfl,by simpa using h1,λj a b ea eb=>h2 (j+1) a b (by simpa using ea) (by simpa using eb)⟩
noncomputable def jk (ws us:List W) (j:Nat):Bool:=match ws[j]?,us[j]? with | some a,some b=>W.eq a b | _,_=>true
theorem fC (ws us:List W):((List.range (min ws.length us.length)).all (jk ws us)&&(ws.length==us.length))=W.eqs ws us:=by
 rw[Bool.eq_iff_iff,Bool.and_eq_true,W.eqs_iff,all_eq_true,beq_iff_eq];constructor
 ·rintro⟨h1,h2⟩;refine⟨h2,λj a b ea eb=>?_⟩;have hj:j<ws.length:=(List.getElem?_eq_some_iff.mp ea).1;have:=h1 j (List.mem_range.mpr (by (clear ea eb;lia)));unfold jk at this;rw[ea,eb] at this;exact this
 ·rintro⟨h1,h2⟩;refine⟨λj _=>?_,h1⟩;unfold jk;split
  ·rename_i a b ea eb;exact h2 j a b ea eb
  ·rfl
section
variable {X:Cx} {π:List (Addr×Obj)} {σ:St} {H:Hp} {s:Shared}
theorem aC.tupH {xs:List V} (I:aC X π σ H s) (h:H a=some (.tup xs)):∃its:List Value,aX xs its/\s.heap.IsTuple a its.toArray/\xs.length<=sizeLine:=I.tuple (cO.of h)
theorem ib (I:aC X π σ H s):∀(n:Nat) (A:Around) {w1 w2:W} {v1 v2:V} {u1 u2:Value},w1.dep<n->w1.flat=true->w2.flat=true->A.units+n<cLine->bK X.K H w1 v1->bK X.K H w2 v2->bf v1 u1->bf v2 u2->
 SeqAt.EqAt A s u1 u2 (w1.eq w2)/\SeqAt.RcAt A s u1 u2 (w1.eq w2)/\SeqAt.RcNeAt A s u1 u2 (!(w1.eq w2)):=by
 intro n
 induction n with
 | zero=>intro A w1 w2 v1 v2 u1 u2 h;lia
 | succ n ih=>
   intro A w1 w2 v1 v2 u1 u2 hd f1 f2 hu r1 r2 q1 q2;have hu0:A.units<cLine:=by lia
   have hui:A.in1.units+n<cLine:=by show A.units+1+n<cLine;(clear hd hu0;lia)
   cases r1 with
   | ref a=>exact cH f1
   | scr a=>exact cH f1
   | non=>
     cases (show u1=Value.none from q1);cases r2 with
     | ref a=>exact cH f2
     | scr a=>exact cH f2
     | non=>cases (show u2=Value.none from q2);exact⟨SeqAt.EqAt.same _,SeqAt.RcAt.none_none,SeqAt.RcNeAt.none_none⟩
     | bl b=>cases (show u2=Value.bool b from q2);exact⟨SeqAt.EqAt.none_bool b,SeqAt.RcAt.none_bool b,SeqAt.RcNeAt.none_bool b⟩
     | int b=>obtain⟨t,rfl⟩:=q2;exact⟨SeqAt.EqAt.none_int b t,SeqAt.RcAt.none_int b t,SeqAt.RcNeAt.none_int b t⟩
     | str b=>obtain⟨t,rfl⟩:=q2;exact⟨SeqAt.EqAt.none_str b t,SeqAt.RcAt.none_str b t,SeqAt.RcNeAt.none_str b t⟩
     | tup h r=>
       cases (show u2=Value.ref _ from q2);obtain⟨its,_,p,_⟩:=aC.tupH I h;exact⟨SeqAt.EqAt.none_tuple p hu0,SeqAt.RcAt.none_tuple p hu0,SeqAt.RcNeAt.none_tuple p hu0⟩
   | bl a=>
     cases (show u1=Value.bool a from q1);cases r2 with
     | ref a=>exact cH f2
     | scr a=>exact cH f2
     | non=>cases (show u2=Value.none from q2);exact⟨SeqAt.EqAt.bool_none a,SeqAt.RcAt.bool_none a,SeqAt.RcNeAt.bool_none a⟩
     | bl b=>cases (show u2=Value.bool b from q2);exact⟨SeqAt.EqAt.bool_bool a b,SeqAt.RcAt.bool_bool a b,SeqAt.RcNeAt.bool_bool a b⟩
     | int b=>obtain⟨t,rfl⟩:=q2;exact⟨SeqAt.EqAt.bool_int a b t,SeqAt.RcAt.bool_int a b t,SeqAt.RcNeAt.bool_int a b t⟩
     | str b=>obtain⟨t,rfl⟩:=q2;exact⟨SeqAt.EqAt.bool_str a b t,SeqAt.RcAt.bool_str a b t,SeqAt.RcNeAt.bool_str a b t⟩
     | tup h r=>
       cases (show u2=Value.ref _ from q2);obtain⟨its,_,p,_⟩:=aC.tupH I h;exact⟨SeqAt.EqAt.bool_tuple a p hu0,SeqAt.RcAt.bool_tuple a p hu0,SeqAt.RcNeAt.bool_tuple a p hu0⟩
   | int a=>
     obtain⟨ta,rfl⟩:=q1;cases r2 with
     | ref a=>exact cH f2
     | scr a=>exact cH f2
     | non=>cases (show u2=Value.none from q2);exact⟨SeqAt.EqAt.int_none a ta,SeqAt.RcAt.int_none a ta,SeqAt.RcNeAt.int_none a ta⟩
     | bl b=>cases (show u2=Value.bool b from q2);exact⟨SeqAt.EqAt.int_bool a ta b,SeqAt.RcAt.int_bool a ta b,SeqAt.RcNeAt.int_bool a ta b⟩
     | int b=>obtain⟨t,rfl⟩:=q2;exact⟨SeqAt.EqAt.int_int a ta b t,SeqAt.RcAt.int_int a ta b t,SeqAt.RcNeAt.int_int a ta b t⟩
     | str b=>obtain⟨t,rfl⟩:=q2;exact⟨SeqAt.EqAt.int_str a ta b t,SeqAt.RcAt.int_str a ta b t,SeqAt.RcNeAt.int_str a ta b t⟩
     | tup h r=>
       cases (show u2=Value.ref _ from q2);obtain⟨its,_,p,_⟩:=aC.tupH I h;exact⟨SeqAt.EqAt.int_tuple a ta p hu0,SeqAt.RcAt.int_tuple a ta p hu0,SeqAt.RcNeAt.int_tuple a ta p hu0⟩
   | str a=>
     obtain⟨ta,rfl⟩:=q1;cases r2 with
     | ref a=>exact cH f2
     | scr a=>exact cH f2
     | non=>cases (show u2=Value.none from q2);exact⟨SeqAt.EqAt.str_none a ta,SeqAt.RcAt.str_none a ta,SeqAt.RcNeAt.str_none a ta⟩
     | bl b=>cases (show u2=Value.bool b from q2);exact⟨SeqAt.EqAt.str_bool a ta b,SeqAt.RcAt.str_bool a ta b,SeqAt.RcNeAt.str_bool a ta b⟩
     | int b=>obtain⟨t,rfl⟩:=q2;exact⟨SeqAt.EqAt.str_int a ta b t,SeqAt.RcAt.str_int a ta b t,SeqAt.RcNeAt.str_int a ta b t⟩
     | str b=>obtain⟨t,rfl⟩:=q2;exact⟨SeqAt.EqAt.str_str a ta b t,SeqAt.RcAt.str_str a ta b t,SeqAt.RcNeAt.str_str a ta b t⟩
     | tup h r=>
       cases (show u2=Value.ref _ from q2);obtain⟨its,_,p,_⟩:=aC.tupH I h;exact⟨SeqAt.EqAt.str_tuple a ta p hu0,SeqAt.RcAt.str_tuple a ta p hu0,SeqAt.RcNeAt.str_tuple a ta p hu0⟩
   | @tup a ws xs h r=>
     cases (show u1=Value.ref _ from q1);obtain⟨its,rv,p,_⟩:=aC.tupH I h;cases r2 with
     | ref a=>exact cH f2
     | scr a=>exact cH f2
     | non=>cases (show u2=Value.none from q2);exact⟨SeqAt.EqAt.tuple_none p hu0,SeqAt.RcAt.tuple_none p hu0,SeqAt.RcNeAt.tuple_none p hu0⟩
     | bl b=>cases (show u2=Value.bool b from q2);exact⟨SeqAt.EqAt.tuple_bool b p hu0,SeqAt.RcAt.tuple_bool b p hu0,SeqAt.RcNeAt.tuple_bool b p hu0⟩
     | int b=>obtain⟨t,rfl⟩:=q2;exact⟨SeqAt.EqAt.tuple_int b t p hu0,SeqAt.RcAt.tuple_int b t p hu0,SeqAt.RcNeAt.tuple_int b t p hu0⟩
     | str b=>obtain⟨t,rfl⟩:=q2;exact⟨SeqAt.EqAt.tuple_str b t p hu0,SeqAt.RcAt.tuple_str b t p hu0,SeqAt.RcNeAt.tuple_str b t p hu0⟩
     | @tup b us ys h2 r2=>
       cases (show u2=Value.ref _ from q2);obtain⟨its2,rv2,p2,_⟩:=aC.tupH I h2;have g1:W.flats ws=true:=f1;have g2:W.flats us=true:=f2;have hd':W.deps ws<n:=by simp only[W.dep] at hd;(clear hu hu0 hui;lia)
       have e1:its.length=ws.length:=by rw[←rv.length,r.length]
       have e2:its2.length=us.length:=by rw[←rv2.length,r2.length]
       have he:∀j (h1:j<its.toArray.size) (h2:j<its2.toArray.size),SeqAt.EqAt A.in1 s its.toArray[j] its2.toArray[j] (jk ws us j):=λj j1 j2=>by
        rw[size_toArray] at j1 j2;have ea:ws[j]?=some ws[j]:=List.getElem?_eq_getElem (by (clear hu hu0 hui hd hd' e2 j2;lia));have eb:us[j]?=some us[j]:=List.getElem?_eq_getElem (by lia);obtain⟨va,ea1,ra⟩:=r.get ea;obtain⟨vb,eb1,rb⟩:=r2.get eb;obtain⟨ua,ea2,qa⟩:=rv.get ea1;obtain⟨ub,eb2,qb⟩:=rv2.get eb1;have za:its.toArray[j]=ua:=by
         have:=(List.getElem?_eq_some_iff.mp ea2).2;simpa using this
        have zb:its2.toArray[j]=ub:=by
         have:=(List.getElem?_eq_some_iff.mp eb2).2;simpa using this
        rw[za,zb];have:=(ih A.in1 (w1:=ws[j]) (w2:=us[j]) (Nat.lt_of_le_of_lt (W.deps_get ea) hd') (W.flats_get g1 ea) (W.flats_get g2 eb) hui ra rb qa qb).1;unfold jk;rw[ea,eb];exact this
       have er:=fC ws us;have c1:=SeqAt.RcAt.tuples p p2 hu0 he;have c2:=SeqAt.RcNeAt.tuples p p2 hu0 he;rw[size_toArray,size_toArray,e1,e2,er] at c1 c2;have ee:(W.tup ws).eq (W.tup us)=W.eqs ws us:=rfl;rw[ee];refine⟨?_,c1,c2⟩
       by_cases hab:a=b
       ·subst hab;have z:=bK.inj f1 f2 (bK.tup h r) (bK.tup h2 r2);have t:W.eqs ws us=true:=by
         cases z;exact W.eqs_refl ws g1
        rw[t];exact SeqAt.EqAt.same _
       ·exact SeqAt.EqAt.of_refs hab c1
end
section
variable {X:Cx}
noncomputable def sy:W2:=λx y G q=>x.flat=true/\y.flat=true/\x.dep<=150/\q (.bl (x.eq y)) G
noncomputable def sA:W2:=λx y G q=>x.flat=true/\y.flat=true/\x.dep<=150/\q (.bl (!(x.eq y))) G
theorem ze (hr:aw k X.A):iB X (compareOp .Eq) sy:=by
 rintro π s σ H x y v u Q I rx ry ⟨wx,wy,G,q,r1,r2,g,⟨f1,f2,hd,h⟩,hQ⟩;exact(ib I 151 X.A (by lia) f1 f2 (by have:=hr.un;(clear hd;lia)) r1 r2 rx ry).2.1 X.prog X.w X.xe _ ⟨.bl _,H,I,rfl,hQ _ H _ G (aP.refl H) (.bl _) g h⟩
theorem zg (hr:aw k X.A):iB X (compareOp .NotEq) sA:=by
 rintro π s σ H x y v u Q I rx ry ⟨wx,wy,G,q,r1,r2,g,⟨f1,f2,hd,h⟩,hQ⟩;exact(ib I 151 X.A (by lia) f1 f2 (by have:=hr.un;(clear hd;lia)) r1 r2 rx ry).2.2 X.prog X.w X.xe _ ⟨.bl _,H,I,rfl,hQ _ H _ G (aP.refl H) (.bl _) g h⟩
noncomputable def xT:W2:=λx y G q=>match x,y with
 | .int i,.int j=>q (.int (i-j)) G
 | .bl a,.bl b=>q (.int (b2i a-b2i b)) G
 | _,_=>False
theorem jl:iB X (binaryOp .Sub) xT:=by
 rintro π s σ H x y v u Q I rx ry ⟨wx,wy,G,q,r1,r2,g,h,hQ⟩;cases r1 with
 | int i=>
   cases r2 with
   | int j=>exact yH π s σ H _ _ v u Q I rx ry ⟨_,_,rfl,rfl,hQ _ H _ G (aP.refl H) (.int _) g h⟩
   | _=>exact False.elim h
 | bl a=>
   cases r2 with
   | bl b=>
     cases rx;cases ry;exact sub_bool ⟨.int _,H,I.tok _,⟨_,rfl⟩,hQ _ H _ G (aP.refl H) (.int _) g h⟩
   | _=>exact False.elim h
 | _=>exact False.elim h
noncomputable abbrev WO:=cP->Gp->(Option Int->Gp->Prop)->Prop
noncomputable def LO (K:PySem.W.Frag) (t:WO):TO:=λσ H Q=>∃τ G q,bt K H τ σ/\aM K H G/\t τ G q/\∀o H1 G1,aP H H1->aM K H1 G1->q o G1->Q o H1
noncomputable def QO (X:Cx) (e:Option Expr) (t:WO):Prop:=PO X e (LO X.K t)
theorem PO.imp {e:Option Expr} {t t':TO} (h:PO X e t) (f:∀σ H Q,t' σ H Q->t σ H Q):PO X e t':=λπ s σ H Q I q=>h π s σ H Q I (f _ _ _ q)
noncomputable def pH:WO:=λ_ G q=>q none G
noncomputable def xU (t:WE):WO:=λτ G q=>t τ G λx G1=>match x with | .int i=>q (some i) G1 | _=>False
theorem cY:QO X none pH:=po_none.imp λσ H Q ⟨τ,G,q,hs,hg,ht,hQ⟩=>hQ none H G (aP.refl H) hg ht
theorem cB {te:WE} (h:QE X e te):QO X (some e) (xU te):=
 (vD h).imp λσ H Q ⟨τ,G,q,hs,hg,ht,hQ⟩=>⟨τ,G,_,hs,hg,ht,λv H1 w G1 t1 r1 g1 q1=>by
   split at q1
   ·cases r1;exact⟨_,rfl,hQ _ H1 G1 t1 g1 q1⟩
   ·exact q1.elim⟩
noncomputable def cQ (xs:List W) (lo hi:Option Int):List W:=(xs.drop (HT.sIx xs.length 0 lo)).take (HT.sIx xs.length xs.length hi-HT.sIx xs.length 0 lo)
theorem aV.cut {H:Hp} {ws:List W} {vs:List V} (r:aV K H ws vs) (lo hi:Option Int):aV K H (cQ ws lo hi) (mE vs lo hi):=by
 unfold cQ mE;rw[r.length];exact(r.drop _).take _
noncomputable abbrev W3:=W->Option Int->Option Int->Gp->WK->Prop
noncomputable def vK:W3:=λx lo hi G q=>match x with
 | .tup xs=>q (.tup (cQ xs lo hi)) G
 | .scr ns=>ns.length<=100000/\∀p,G p=none->q (.ref p) (aL G p (.lst (cQ (ns.map W.int) lo hi)))
 | .ref a=>∃xs,G a=some (.lst xs)/\∀p,G p=none->q (.ref p) (aL G p (.lst (cQ xs lo hi)))
 | _=>False
theorem iC (xs:List W) (lo hi:Option Int):(cQ xs lo hi).length<=xs.length:=by
 unfold cQ;rw[length_take,length_drop];exact le_trans (Nat.min_le_right _ _) (Nat.sub_le _ _)
theorem ou {xs:List W} {lo hi:Option Int} (h:HT.sIx xs.length 0 lo=0/\HT.sIx xs.length xs.length hi=xs.length):cQ xs lo hi=xs:=by
 unfold cQ;rw[h.1,h.2,List.drop_zero,Nat.sub_zero,List.take_length]
theorem qO {t sl:Addr} {vl vu:Value} {lo hi:Option Int} (ht:IsTup s.heap t items) (hs:s.heap.IsSliceOf sl vl vu .none) (pl:IsPart vl lo) (pu:IsPart vu hi)
 (hw:HT.sIx items.size 0 lo=0/\HT.sIx items.size items.size hi=items.size) (h:Q (.ref t) s):wpAny (model prog w) A (getItem (.ref t) (.ref sl)) Q E s:=by
 obtain⟨os,hos,hcs,hds⟩:=id hs;have hTs:s.TypeIs (.ref sl) "slice":=⟨os,hos,hcs⟩;unfold getItem
 try with_reducible refine wpAny_holding ?_
 first | refine wax (way ?_) | skip
 refine wax (wpAny_sequenceKey ht.typeIs (by decide) ?_);refine wax (wpAny_callSpecial?_slot (name:=Str.ofString "__getitem__") ht.typeIs PyProof.Rows.slot_tuple_getitem
  (wpAny_call_entry PyProof.Rows.slot_tuple_getitem ht.typeIs entry_tuple_getitem ?_ (args_tuple_getitem _ _)))
 show wpAny _ _ (Builtin.Tuple.tupleItemsOf (.ref t) >>= _) _ _ s;refine wax (tupleItemsOf_ ht ?_);refine wax (wpAny_typeOf hTs ?_);rw[if_pos (by decide)];refine wax (HT.sliceApplied_gen hs pl pu ?_);have hyes:(((HT.sIx items.size 0 lo:Nat):Int)==0&&(1:Int)==1&&(HT.sIx items.size items.size hi-HT.sIx items.size 0 lo)==items.size)=true:=by
  rw[hw.1,hw.2];simp
 show wpAny _ _ (if (((HT.sIx items.size 0 lo:Nat):Int)==0&&(1:Int)==1&&(HT.sIx items.size items.size hi-HT.sIx items.size 0 lo)==items.size)=true then _ else _) _ _ s;rw[if_pos hyes];refine wax ?_;show wpAny _ _ (typeOf (.ref t) >>= _) _ _ s;refine wax (wpAny_typeOf ht.typeIs (way ?_));rw[if_pos (by simp)];exact wax (wpAny_rule (way ⟨_,rfl,way h⟩))
noncomputable def Fe (K:PySem.W.Frag) (r:W3):V->Option Int->Option Int->Hp->VK->Prop:=λx lo hi H Q=>∃w G q,bK K H w x/\aM K H G/\r w lo hi G q/\∀v H1 w G1,aP H H1->bK K H1 w v->aM K H1 G1->q w G1->Q v H1
theorem DU:Bb X (Fe X.K vK):=by
 rintro π s σ H x v vl vu lo hi sl Q I rx hs pl pu ⟨w,G,q,r,g,h,hQ⟩;unfold vK at h;split at h
 ·cases r with
  | @tup a ws xs hh rr=>
    by_cases hw:HT.sIx xs.length 0 lo=0/\HT.sIx xs.length xs.length hi=xs.length
    ·cases rx;obtain⟨its,rv,ht,hz⟩:=I.tuple (cO.of hh);have hlen:its.toArray.size=xs.length:=by rw[size_toArray];exact rv.length.symm
     refine⟨"tuple",_,PyProof.Rows.slot_tuple_getitem.lookup,ht.typeIs,?_⟩;refine qO ht hs pl pu (by rw[hlen];exact hw) ⟨.ref a,H,I,rfl,?_⟩;rw[ou (by rw[rr.length];exact hw)] at h;exact hQ _ H _ G (aP.refl H) (.tup hh rr) g h
    ·exact yP π s σ H _ v vl vu lo hi sl Q I rx hs pl pu ⟨a,xs,rfl,cO.of hh,hw,λp hp=>hQ _ _ _ G (aP.new hp _) (.tup bg ((rr.cut lo hi).mono (aP.new hp _))) (g.keep hp _) h⟩
 ·rename_i ns;cases r with
  | scr hh=>
    refine pA π s σ H _ v vl vu lo hi sl Q I rx hs pl pu ⟨_,_,rfl,hh.sq,λp hp=>hQ _ _ _ _ (aP.new hp _) (.ref p) (g.put (aP.new hp _) ((aV.ints ns).cut lo hi) ?_) (h.2 p (g.fresh hp))⟩;exact le_trans (iC _ _ _) (by rw[length_map];exact h.1)
 ·obtain⟨xs,e,h⟩:=h;cases r;obtain⟨hl,zs,e1,rr⟩:=g _ _ e;exact pA π s σ H _ v vl vu lo hi sl Q I rx hs pl pu ⟨_,zs,rfl,cU.of e1,λp hp=>hQ _ _ _ _ (aP.new hp _) (.ref p) (g.put (aP.new hp _) (rr.cut lo hi) (le_trans (iC _ _ _) hl)) (h p (g.fresh hp))⟩
 ·exact h.elim
theorem sB:bootBuiltins "isinstance"=some (.builtin "isinstance"):=by decide+kernel
noncomputable def sC (G:Gp):W->Option String
 | .non=>some "NoneType"
 | .bl _=>some "bool"
 | .int _=>some "int"
 | .str _=>some "str"
 | .tup _=>some "tuple"
 | .ref a=>match G a with | some (.lst _)=>some "list" | some .dct=>some "dict" | some (.dic _)=>some "dict" | _=>none
 | .scr _=>none
noncomputable def fW:String->String->Bool
 | "int","int"=>true
 | "bool","int"=>true
 | "bool","bool"=>true
 | "tuple","tuple"=>true
 | "list","list"=>true
 | "str","str"=>true
 | _,_=>false
noncomputable def jm (T:String):Prop:=T="int"∨T="bool"∨T="tuple"∨T="list"∨T="str"
theorem zh {t T:String} (ht:t="NoneType"∨t="bool"∨t="int"∨t="str"∨t="tuple"∨t="list"∨t="dict") (hT:jm T):PySem.W.kitOne K (.type t) (.type T)=some (fW t T):=by
 rcases ht with rfl | rfl | rfl | rfl | rfl | rfl | rfl<;> rcases hT with rfl | rfl | rfl | rfl | rfl<;> first | rfl | kernel_rfl | decide+kernel
noncomputable def By (T:String) (te:WE):WE:=λτ G q=>te τ G λx G1=>match sC G1 x with | some t=>q (.bl (fW t T)) G1 | none=>False
theorem sE {H:Hp} {G:Gp} {w:W} {v:V} {t:String} (g:aM K H G) (r:bK K H w v) (e:sC G w=some t):gZ K H v (.type t)/\(t="NoneType"∨t="bool"∨t="int"∨t="str"∨t="tuple"∨t="list"∨t="dict"):=by
 unfold sC at e;cases r with
 | non=>cases e;exact⟨.non,by simp⟩
 | bl b=>cases e;exact⟨.bl b,by simp⟩
 | int i=>cases e;exact⟨.int i,by simp⟩
 | str x=>cases e;exact⟨.str x,by simp⟩
 | tup h _=>cases e;exact⟨.tup h,by simp⟩
 | scr h=>cases e
 | ref a=>
   simp only at e;split at e
   ·rename_i ws e1;cases e;obtain⟨_,xs,e2,_⟩:=g a _ e1;exact⟨.lst e2,by simp⟩
   ·rename_i e1;cases e;exact⟨.dK (g a _ e1),by simp⟩
   ·rename_i kvs e1;cases e;obtain⟨_,kvs',e2,_⟩:=g a _ e1;exact⟨.dK e2,by simp⟩
   ·cases e
theorem Bz {T:String} (hT:jm T) {σ:St} {H:Hp} {v:V} {w:W} {G:Gp} {q:WK} {Q:VK} (I:aC X π σ H s) (ru:bf v u) (r:bK X.K H w v) (g:aM X.K H G)
 (h:match sC G w with | some t=>q (.bl (fW t T)) G | none=>False) (hQ:∀v H1 w G1,aP H H1->bK X.K H1 w v->aM X.K H1 G1->q w G1->Q v H1):
 wpAny (model X.prog X.w) X.A (call (.builtin "isinstance") [u,.type T]) (EP X π σ Q) X.xe s:=by
 split at h
 ·rename_i t e;obtain⟨ty,hk⟩:=sE g r e;exact qJ I ru ty (zh hk hT) λtk=>⟨.bl _,H,I.tok tk,rfl,hQ _ H _ G (aP.refl H) (.bl _) g h⟩
 ·exact h.elim
theorem fc {T:String} {te:WE} {p p2 pos:Pos} (hT:jm T) (hv:bootBuiltins x=some (.type T)) (hm:X.mg x=none) (hgx:Gl X x) (hm1:X.mg "isinstance"=none) (hg1:Gl X "isinstance") (he:QE X e te) (hn:x≠"__name__":=by decide) (hd:(x==("__debug__":Str))=false:=by decide)
 (hs1:starEach [e,.Name x p2] X.env=(false,eval e X.env)::starEach [.Name x p2] X.env:=by rfl) (hs2:starEach [.Name x p2] X.env=(false,eval (.Name x p2) X.env)::starEach [] X.env:=by rfl)
 (hpl:(backTo pos (starEach [.Name x p2] X.env)).any (·.1)=false:=by rfl):QE X (.Call (.Name "isinstance" p) [e,.Name x p2] [] pos) (By T te):=by
 have hb:PE X (.Name x p2) (tC (.ty T)):=vh hgx hm hv rfl hn hd;have ha:PA X [e,.Name x p2] (rR (j7 X.K te) (rR (tC (.ty T)) vA)):=cL he (cL hb pa_nil hs2) hs1;have hc:eZ X (.builtin "isinstance") (λvs H Q=>∃(v:V) (w:W) (G:Gp) (q:WK),vs=[v,.ty T]/\bK X.K H w v/\aM X.K H G/\(match sC G w with | some t=>q (.bl (fW t T)) G | none=>False)/\∀v H1 w G1,aP H H1->bK X.K H1 w v->aM X.K H1 G1->q w G1->Q v H1):=by
  rintro π s σ H xs us Q I r ⟨v,w,G,q,e1,r1,g1,h,hQ⟩;subst e1;obtain⟨u,u2,rfl,ru,ru2⟩:=mz r;cases (show u2=Value.type T from ru2);exact Bz hT I ru r1 g1 h hQ
 exact(mD hc hg1 hm1 sB ha (by decide) (by decide) hs1 hpl).imp λσ H Q z0=>z0.el λτ G q hs hg ht hQ=>⟨τ,G,_,hs,hg,ht,λv H1 w G1 t1 r1 g1 q1=>
  ⟨v,w,G1,q,rfl,r1,g1,q1,λv2 H2 w2 G2 t2=>hQ v2 H2 w2 G2 (t1.trans t2)⟩⟩
noncomputable def zk:List W->Gp->WK->Prop:=λws G q=>match ws with
 | [.ref a]=>∃ns:List Int,G a=some (.lst (ns.map W.int))/\q (.int ns.sum) G
 | _=>False
theorem aV.ints_of {K:PySem.W.Frag} {H:Hp}:∀{ns:List Int} {vs:List V},aV K H (ns.map W.int) vs->vs=ns.map V.int
 | [],_,r=>by cases r;rfl
 | n::ns,_,r=>by
   cases r with
   | cons r rs=>
     cases r;rw[aV.ints_of rs]
     rfl
theorem BA (hc:X.calm=true):dM X (.builtin "sum") zk:=by
 rintro π s σ H xs us Q I r ⟨ws,G,q,rw',g,h,hQ⟩;unfold zk at h;split at h
 ·rename_i a;obtain⟨ns,e,h⟩:=h;obtain⟨v,rfl,r1⟩:=rw'.one;cases r1;obtain⟨_,zs,e1,rr⟩:=g a _ e;obtain rfl:=rr.ints_of;obtain⟨u,rfl,ru⟩:=eU r;cases (show u=Value.ref a from ru);obtain⟨its,rv,p,hz⟩:=I.list (cU.of e1);have hi:IntsAre its ns:=L2.intsAre_of rv;obtain⟨ys,ey⟩:=hi.allInts.items;have hn:(ys.toList.map (·.1))=ns:=by rw[←nums_intItems,←ey,←hi.numsOf]
  have hl:s.heap.IsList a (intItems ys):=by rw[←ey];exact p.isList
  refine sum_intListG (I.ok.hd hc) hl λh' tk t' hk=>⟨.int _,H,I.kept hk,⟨t',rfl⟩,?_⟩;have es:preSum (numAt ys) ys.size=ns.sum:=by rw[preSum_eq,List.take_of_length_le (by simp),hn]
  rw[es];exact hQ _ H _ G (aP.refl H) (.int _) g h
 ·exact h.elim
noncomputable def BC (to te:WE):WE:=λτ G q=>to τ G λx G1=>match x with
 | .ref a=>(∃xs,G1 a=some (.lst xs))/\te τ G1 λy G2=>∃ys,G2 a=some (.lst ys)/\ys.length+1<=100000/\q .non (aL G2 a (.lst (ys++[y])))
 | _=>False
theorem jn {o e:Expr} {to te:WE} {apos cpos:Pos} (ho:QE X o to) (he:QE X e te)
 (hbase:attributeBase o "append" X.env (eval o X.env)=eval o X.env:=by rfl)
 (hfew:((backTo cpos (starEach [e] X.env)).all (λx=>!x.1)&&(backToKw cpos (keywordEach [] X.env)).all (λx=>x.1.isSome)
   &&decide (([e]:List Expr).length+([]:List Keyword).length+(if ([]:List Keyword).isEmpty then 0 else 1)<30))=true:=by rfl)
 (hline:(apos.endLine==cpos.line)=true:=by rfl) (hs:starEach [e] X.env=(false,eval e X.env)::starEach [] X.env:=by rfl):
 QE X (.Call (.Attribute o "append" apos) [e] [] cpos) (BC to te):=
 (xI PySem.F.plainAttrs_list PySem.F.slot_list_append PySem.F.type_list_append qM ho (cL he pa_nil hs) hbase hfew hline hs rfl).imp λσ H Q z0=>z0.el λτ G q hs hg ht hQ=>
   ⟨τ,G,_,hs,hg,ht,λv H1 w G1 t1 r1 g1 q1=>by
     split at q1
     ·rename_i a;cases r1;obtain⟨⟨xs,e1⟩,q1⟩:=q1;obtain⟨_,xs',h1,_⟩:=g1 a _ e1;refine⟨.inl ⟨rfl,xs',cU.of h1⟩,τ,G1,_,hs.mono t1,g1,q1,λv2 H2 w2 G2 t2 r2 g2 q2=>?_⟩;obtain⟨ys,e2,hl,q2⟩:=q2;obtain⟨_,ys',h2,rr⟩:=g2 a _ e2;refine⟨a,ys',v2,rfl,rfl,h2,?_,?_⟩
      ·rw[←rr.length];exact bN hl
      ·exact hQ _ _ _ _ ((t1.trans t2).trans (aP.lst h2 _)) .non (g2.put (aP.lst h2 _) (rr.append (.cons r2 .nil)) (by rw[length_append];exact hl)) q2
     ·exact q1.elim⟩
end
structure pI (K:PySem.W.Frag) (J:It) (ws:List W) (C:Gp->Prop) (H0:Hp):Prop where
 stop:∀i H G,aP H0 H->aM K H G->C G->ws.length<=i->J.stop i H
 go:∀i w H G,aP H0 H->aM K H G->C G->ws[i]?=some w->J.go i H/\∀x H',J.yld i H x H'->aP H H'/\bK K H' w x/\aM K H' G
noncomputable abbrev WI:=cP->Gp->(List W->(Gp->Prop)->Gp->Prop)->Prop
noncomputable def LI (K:PySem.W.Frag) (t:WI):TI:=λσ H R=>∃τ G r,bt K H τ σ/\aM K H G/\t τ G r/\∀J H1 ws C G1,aP H H1->aM K H1 G1->pI K J ws C H1->r ws C G1->R J H1
noncomputable def QI (X:Cx) (tg iter:Expr) (t:WI):Prop:=PI X tg iter (LI X.K t)
section
variable {X:Cx} {tg:Expr}
theorem PI.imp {t t':TI} (h:PI X tg e t) (f:∀σ H R,t' σ H R->t σ H R):PI X tg e t':=λπ s σ H R I q=>h π s σ H R I (f _ _ _ q)
theorem vL {ws:List W} {xs:List V} {H:Hp} (h:H a=some (.tup xs)) (r:aV K H ws xs):pI K (Dx K a) ws (λ_=>True) H where
 stop:=λi H1 G t g _ hl=>⟨xs,cO.of (t.tup _ _ h),by rw[←r.length];exact hl⟩
 go:=λi w H1 G t g _ e=>by
  obtain⟨v,e1,rv⟩:=r.get e;refine⟨⟨xs,v,cO.of (t.tup _ _ h),e1⟩,λx H' z9=>?_⟩;obtain⟨eH,hy⟩:=z9;subst eH;have e2:=hy xs (cO.of (t.tup _ _ h));rw[e1] at e2;cases e2;exact⟨aP.refl _,rv.mono t,g⟩
theorem vM {ws:List W} {H:Hp}:pI K (CY K a) ws (λG=>G a=some (.lst ws)) H where
 stop:=λi H1 G t g e hl=>by
  obtain⟨_,xs,h1,r⟩:=g a _ e;exact⟨xs,cU.of h1,by rw[←r.length];exact hl⟩
 go:=λi w H1 G t g eG e=>by
  obtain⟨_,xs,h1,r⟩:=g a _ eG;obtain⟨v,e1,rv⟩:=r.get e;refine⟨⟨xs,v,cU.of h1,e1⟩,λx H' z9=>?_⟩;obtain⟨eH,hy⟩:=z9;subst eH;have e2:=hy xs (cU.of h1);rw[e1] at e2;cases e2;exact⟨aP.refl _,rv,g⟩
theorem vN {ns:List Int} {H:Hp} (h:xK K H a ns):pI K (CY K a) (ns.map W.int) (λ_=>True) H where
 stop:=λi H1 G t g _ hl=>⟨_,(h.mono t).sq,by simpa using hl⟩
 go:=λi w H1 G t g _ e=>by
  have r:aV K H1 (ns.map W.int) (ns.map V.int):=aV.ints ns;obtain⟨v,e1,rv⟩:=r.get e;refine⟨⟨_,v,(h.mono t).sq,e1⟩,λx H' z9=>?_⟩;obtain⟨eH,hy⟩:=z9;subst eH;have e2:=hy _ (h.mono t).sq;rw[e1] at e2;cases e2;exact⟨aP.refl _,rv,g⟩
noncomputable def rE (n:Nat):List W:=(List.range n).map λ(i:Nat)=>W.int (i:Int)
theorem vO {n:Nat} {H:Hp}:pI K (CZ 0 n) (rE n) (λ_=>True) H where
 stop:=λi H1 G t g _ hl=>by have h:n<=i:=(by simpa[rE] using hl);exact h
 go:=λi w H1 G t g _ e=>by
  unfold rE at e;rw[List.getElem?_map] at e;have hi:i<n:=by
   cases h:(List.range n)[i]? with
   | none=>rw[h] at e;cases e
   | some k=>
     have:=(List.getElem?_eq_some_iff.mp h).1;simpa using this
  rw[List.getElem?_range hi] at e;cases e;refine⟨hi,λx H' z9=>?_⟩;obtain⟨eH,hy⟩:=z9;subst eH;subst hy;exact⟨aP.refl _,by simpa using bK.int _,g⟩
noncomputable def BD (ta:WA):WI:=λτ G r=>ta τ G λws G1=>match ws with
 | [.int j]=> -(2^62)<=j/\j<2^62/\r (rE j.toNat) (λ_=>True) G1
 | _=>False
theorem fe {a:Expr} {ta:WA} {p pos:Pos} (hg:Gl X "range") (hm:X.mg "range"=none) (ha:QA X [a] ta) (hs:starEach [a] X.env=[(false,eval a X.env)]:=by rfl):QI X tg (.Call (.Name "range" p) [a] [] pos) (BD ta):=
 (qC hg hm ha hs).imp λσ H R ⟨τ,G,r,hs,hg,ht,hR⟩=>⟨τ,G,_,hs,hg,ht,λvs H1 ws G1 t1 r1 g1 q1=>by
   split at q1
   ·obtain⟨v,rfl,r2⟩:=r1.one;cases r2 with
    | int j=>exact⟨_,rfl,q1.1,q1.2.1,hR _ H1 _ _ G1 t1 g1 vO q1.2.2⟩
   ·exact q1.elim⟩
noncomputable def jo (C:Gp->Prop) (g:WG) (tb:WS) (d:dq):List W->cP->Gp->Prop
 | [],τ,G=>C G/\d.nx τ G
 | w::ws,τ,G=>C G/\g w τ G λτ2 G2=>tb { d with nx:=jo C g tb d ws,ct:=jo C g tb d ws,bk:=d.nx } τ2 G2
noncomputable def BE (wi:WI) (g:WG) (tb:WS):WS:=λd τ G=>wi τ G λws C G1=>jo C g tb d ws τ G1
theorem dU {iter:Expr} {wi:WI} {g:WG} {tb:WS} (hp:PassesOwn (model X.prog X.w) X.A X.env X.xe) (hc:X.calm=true) (hi:QI X tg iter wi) (hg:QG X tg g) (hb:mL X body tb)
 (hs:∀x,foldedSetIterable iter X.env x=pure x:=by intro _;rfl):QS X (.For tg iter body [] pos) (BE wi g tb):=
 (yD hp hc hi hg hb hs).imp λD σ H z0=>z0.el λτ G d hs hg ht l=>⟨τ,G,_,hs,hg,ht,λJ H1 ws C G1 t1 g1 it q1=>by
   refine⟨λi m σ2 H2=>∃τ2 G2,m=ws.length-i/\i<=ws.length/\aP H1 H2/\bt X.K H2 τ2 σ2/\aM X.K H2 G2/\jo C g tb d (ws.drop i) τ2 G2,⟨ws.length,τ,G1,by simp,zero_le _,aP.refl _,hs.mono t1,g1,by simpa using q1⟩,?_⟩;rintro i m σ2 H2 ⟨τ2,G2,rfl,hi,t2,s2,g2,q2⟩
   by_cases hlt:i<ws.length
   ·have ed:ws.drop i=ws[i]::ws.drop (i+1):=List.drop_eq_getElem_cons hlt;rw[ed] at q2;obtain⟨c2,q2⟩:=q2;obtain⟨go,yl⟩:=it.go i ws[i] H2 G2 t2 g2 c2 (List.getElem?_eq_getElem hlt);refine .inr ⟨go,λσ3 H3=>∃τ3 G3,aP H1 H3/\bt X.K H3 τ3 σ3/\aM X.K H3 G3/\jo C g tb d (ws.drop (i+1)) τ3 G3,?_,λx H' hy=>?_⟩
    ·rintro σ3 H3 ⟨τ3,G3,t3,s3,g3,q3⟩;exact⟨ws.length- (i+1),by (clear hi ed;lia),τ3,G3,rfl,hlt,t3,s3,g3,q3⟩
    ·obtain⟨tx,rx,gx⟩:=yl x H' hy;refine⟨ws[i],τ2,G2,_,rx,s2.mono tx,gx,q2,λσ3 H3 τ3 G3 t3 s3 g3 q3=>?_⟩;have tt:=(t2.trans tx).trans t3;have t0:=t1.trans tt;exact⟨τ3,G3,_,s3,g3,q3,⟨λσ4 H4 τ4 G4 t4 s4 g4 q4=>⟨τ4,G4,tt.trans t4,s4,g4,q4⟩,λv H4 w G4 t4=>l.rt v H4 w G4 (t0.trans t4),λσ4 H4 τ4 G4 t4=>l.nx σ4 H4 τ4 G4 (t0.trans t4),λσ4 H4 τ4 G4 t4 s4 g4 q4=>⟨τ4,G4,tt.trans t4,s4,g4,q4⟩⟩⟩
   ·have e:i=ws.length:=by lia
    subst e;rw[List.drop_length] at q2;exact .inl ⟨it.stop _ H2 G2 t2 g2 q2.1 (le_refl _),l.nx σ2 H2 τ2 G2 (t1.trans t2) s2 g2 q2.2⟩⟩
end
section
variable {prog:Program} {w:World} {A:Around} {E:Value->Shared->Prop} {s:Shared}
structure ZA (z p r i j a b:Addr):Prop where
 zp:p≠z
 zr:r≠z
 zi:i≠z
 zj:j≠z
 pr:p≠r
 pi:p≠i
 pj:p≠j
 ri:r≠i
 rj:r≠j
 ij:i≠j
 az:a≠z
 ar:a≠r
 ai:a≠i
 aj:a≠j
 bz:b≠z
 br:b≠r
 bi:b≠i
 bj:b≠j
structure ZT (z p r i j a b:Addr) (n:Nat) (f:Value) (h:Heap):Prop where
 hz:IsZip h z p r f
 hp:IsPair h p (.ref i) (.ref j)
 hr:∃x y,IsPair h r x y
 hi:h.IsTupleIter i a n
 hj:h.IsTupleIter j b n
end
section
variable {prog:Program} {w:World} {A:Around} {R:Result->Shared->Prop} {s:Shared}
noncomputable abbrev nox:Value->Shared->Prop:=λ_ _=>False
noncomputable abbrev xV (ifs:List Expr) (env:Env):Sem Bool:=forIn ifs true λc r=>if r=true then do let ok ←isTrue c env (eval c env);pure (ForInStep.yield ok) else pure (ForInStep.yield r)
theorem qP {elt tg iter:Expr} {ifs:List Expr} {it acc:Value} {env:Env} (I:Nat->Shared->Prop)
 (turn:∀n s,I n s->wpAny (model prog w) A (pyNext it) (λr s1=>match r with
   | none=>R (.ok .next) s1
   | some v=>wpAny (model prog w) A (letOwnedTupleGo tg it v) (λ_ s2=>wpAny (model prog w) A (assign tg env v) (λ_ s3=>wpAny (model prog w) A (xV ifs env) (λok s4=>
      if ok=true then wpAny (model prog w) A (eval elt env) (λx s5=>wpAny (model prog w) A (call (.builtin "list.append") [acc,x]) (λ_ s6=>∃m,m<n/\I m s6) nox s5) nox s4
      else ∃m,m<n/\I m s4) nox s3) nox s2) nox s1) nox s) (n:Nat) (h:I n s):
 codeAny (model prog w) A (.compLoop (.ListComp elt [⟨tg,iter,ifs,0⟩] scope pos) 0 it acc env) R s:=by
 refine codeAny_loop rfl I (λn s hI=>?_) n h;show wpAny _ A ((compTurn (.ListComp elt [⟨tg,iter,ifs,0⟩] scope pos) 0 it acc env).onRaise (λx=>do noteFrame x env;theTreesLotGoes x)) _ _ s;refine wpAny_noted ?_;rw[compTurn_list];refine wax (wpAny_standAt (wax (wpAny_mono (turn n s hI) (λr s1 h1=>?_) λ_ _ z=>z.elim)));cases r with
 | none=>exact way h1
 | some v=>
   refine wax (wpAny_mono h1 (λ_ s2 h2=>wax (wpAny_mono h2 (λ_ s3 h3=>wax (wpAny_mono h3 (λok s4 h4=>?_) λ_ _ z=>z.elim)) λ_ _ z=>z.elim)) λ_ _ z=>z.elim);cases ok with
   | false=>exact way ⟨rfl,h4⟩
   | true=>
     refine wax (wax (wpAny_mono h4 (λx s5 h5=>?_) λ_ _ z=>z.elim));exact wax (wpAny_mono h5 (λ_ s6 h6=>way (way ⟨rfl,h6⟩)) λ_ _ z=>z.elim)
end
noncomputable def gE (env:Env):List (Str×NameKind)->List (Str×Addr)->List (Str×Addr)
 | [],cs=>cs
 | (n,k)::r,cs=>if k== .free then gE env r ((n,(env.cells.lookup n).getD 0)::cs) else gE env r cs
theorem eF {env:Env} (h:∀y∈scope.names,y.2=.free->∃c,env.cells.lookup y.1=some c):closureFor scope env=pure (gE env scope.names []):=by
 unfold closureFor;have key:∀(l:List (Str×NameKind)) (cs:List (Str×Addr)),(∀y∈l,y.2=.free->∃c,env.cells.lookup y.1=some c)->
  (forIn l cs λ(x:Str×NameKind) (r:List (Str×Addr))=>(if (x.2==NameKind.free)=true then (do let y ←cellOf env x.1;pure (ForInStep.yield ((x.1,y)::r))) else pure (ForInStep.yield r):Sem (ForInStep (List (Str×Addr)))))=(pure (gE env l cs):Sem (List (Str×Addr))):=by
  intro l
  induction l with
  | nil=>intro cs _;rfl
  | cons y r ih=>
    intro cs hl;obtain⟨n,k⟩:=y;rw[List.forIn_cons];unfold gE
    by_cases hk:(k==NameKind.free)=true
    ·have hk':k=.free:=by simpa using hk
     obtain⟨c,hc⟩:=hl (n,k) mem_cons_self hk';simp only[hk,if_true];have e:cellOf env n=pure c:=by unfold cellOf;rw[hc]
     rw[e,hc];simp only[pure_bind,Option.getD_some];exact ih _ λy hy=>hl y (mem_cons_of_mem _ hy)
    ·simp only[hk,if_false,Bool.false_eq_true];simp only[pure_bind];exact ih _ λy hy=>hl y (mem_cons_of_mem _ hy)
 have:=key scope.names [] h;simp only[bind_pure];exact this
theorem dN {env:Env}:∀{l:List (Str×NameKind)} {cs:List (Str×Addr)},(∀y∈l,y.2=.free->∃c,env.cells.lookup y.1=some c)->(∀x c,cs.lookup x=some c->env.cells.lookup x=some c)->∀x c,(gE env l cs).lookup x=some c->env.cells.lookup x=some c
 | [],_,_,hc,x,c,e=>hc x c e
 | (n,k)::r,cs,hl,hc,x,c,e=>by
   unfold gE at e;have hr:∀y∈r,y.2=.free->∃c,env.cells.lookup y.1=some c:=λy hy=>hl y (mem_cons_of_mem _ hy);split at e
   ·rename_i hk;obtain⟨c0,hc0⟩:=hl (n,k) mem_cons_self (by simpa using hk);refine dN hr (λx' c' e'=>?_) x c e;rw[lookup_cons] at e';cases hx:x'==n with
    | true=>
      rw[hx] at e';have:x'=n:=by simpa using hx
      subst this;rw[hc0] at e';simp at e';subst e';exact hc0
    | false=>rw[hx] at e';exact hc x' c' e'
   ·exact dN hr hc x c e
theorem ff {env:Env}:∀{l:List (Str×NameKind)} {cs:List (Str×Addr)} {x:Str},((x,NameKind.free)∈l∨∃c,cs.lookup x=some c)->∃c,(gE env l cs).lookup x=some c
 | [],_,_,h=>by
   rcases h with h | h
   ·simp at h
   ·exact h
 | (n,k)::r,cs,x,h=>by
   unfold gE;have keep:(∃c,cs.lookup x=some c)->∃c,((n,(env.cells.lookup n).getD 0)::cs).lookup x=some c:=λ⟨c,e⟩=>by
    rw[lookup_cons];cases hx:x==n with
    | true=>exact⟨_,rfl⟩
    | false=>exact⟨c,e⟩
   split
   ·rename_i hk;refine ff ?_;rcases h with h | h
    ·rcases mem_cons.mp h with h | h
     ·cases h;exact .inr ⟨(env.cells.lookup n).getD 0,by rw[lookup_cons];simp⟩
     ·exact .inl h
    ·exact .inr (keep h)
   ·rename_i hk;refine ff ?_;rcases h with h | h
    ·rcases mem_cons.mp h with h | h
     ·cases h;exact absurd rfl hk
     ·exact .inl h
    ·exact .inr h
theorem du {env:Env}:∀{l:List (Str×NameKind)} {x:Str} {k:NameKind},(l.map λ(n,k)=>if (k==NameKind.free&&env.scope.kind== .function&&env.kindOf n==some .cell) then (n,NameKind.cell) else (n,k)).lookup x=some k->(k=.cell∨k=.free)->(∀y∈l,y.2≠ .cell)->(x,NameKind.free)∈l
 | [],_,_,e,_,_=>by simp at e
 | (n,k0)::r,x,k,e,hk,hc=>by
   rw[map_cons,lookup_cons] at e;have hr:∀y∈r,y.2≠ .cell:=λy hy=>hc y (mem_cons_of_mem _ hy);have hn:(if (k0==NameKind.free&&env.scope.kind== .function&&env.kindOf n==some .cell)=true then (n,NameKind.cell) else (n,k0)).1=n:=by split<;> rfl
   rw[hn] at e;cases hx:x==n with
   | false=>rw[hx] at e;exact mem_cons_of_mem _ (du e hk hr)
   | true=>
     rw[hx] at e;have hxn:x=n:=by simpa using hx
     subst hxn;have e':(if (k0==NameKind.free&&env.scope.kind== .function&&env.kindOf x==some .cell)=true then (x,NameKind.cell) else (x,k0)).2=k:=Option.some.inj e
     by_cases hf:k0=.free
     ·subst hf;exact mem_cons_self
     ·rw[if_neg (by simp[hf])] at e';have e'':k0=k:=e';subst e'';rcases hk with h | h
      ·exact absurd h (hc _ mem_cons_self)
      ·exact absurd h hf
theorem fQ {env:Env}:∀{l:List (Str×NameKind)} {x:Str},(l.map λ(n,k)=>if (k==NameKind.free&&env.scope.kind== .function&&env.kindOf n==some .cell) then (n,NameKind.cell) else (n,k)).lookup x=some .local->l.lookup x=some .local
 | [],_,e=>by simp at e
 | (n,k0)::r,x,e=>by
   rw[map_cons,lookup_cons] at e;rw[lookup_cons];have hn:(if (k0==NameKind.free&&env.scope.kind== .function&&env.kindOf n==some .cell)=true then (n,NameKind.cell) else (n,k0)).1=n:=by split<;> rfl
   rw[hn] at e;cases hx:x==n with
   | false=>rw[hx] at e;exact fQ e
   | true=>
     rw[hx] at e;have e':(if (k0==NameKind.free&&env.scope.kind== .function&&env.kindOf n==some .cell)=true then (n,NameKind.cell) else (n,k0)).2=NameKind.local:=Option.some.inj e;split at e'
     ·cases e'
     ·exact congrArg some e'
noncomputable def gl (X:Cx) (N:List Str) (scope:Scope) (C:Addr) (fp:List Addr) (s₀:Shared) (H₀:Hp):Cx where
 prog:=X.prog
 w:=X.w
 K:=X.K
 mg:=X.mg
 base:=X.base
 A:=X.A
 N:=N
 s₀:=s₀
 H₀:=H₀
 env:=compEnvC scope (gE X.env scope.names []) C X.env
 outer:=X.stack
 stack:=X.stack
 ex:=fp
 fn:=λ_=>false
 calm:=X.calm
 pn:=[]
 xe:=nox
structure eI (X:Cx) (scope:Scope) (N:List Str) (fv:List (Option Nat)):Prop where
 kind:scope.kind=.function
 nocell:∀y∈scope.names,y.2≠ .cell
 names:∀x∈scope.names,x.2=.local->scope.names.lookup x.1=some .local
 free:∀y∈scope.names,y.2=.free->X.env.scope.names.lookup y.1=some .cell
 fvs:∀(i j:Nat) (x:Str),N[i]?=some x->fv[i]?=some (some j)->X.N[j]?=some x/\X.env.scope.names.lookup x=some .cell/\(x,NameKind.free)∈scope.names
 len:fv.length=N.length
 fvl:∀{x:Str},(x,NameKind.free)∈scope.names->scope.names.lookup x≠some .local
noncomputable def pick {α:Type} (fv:List (Option Nat)) (σ:List (Option α)):List (Option α):=fv.map λo=>o.bind λj=>(σ[j]?).join
theorem mO {α:Type} {fv:List (Option Nat)} {σ:List (Option α)} {v:α} (h:(pick fv σ)[i]?=some (some v)):∃j,fv[i]?=some (some j)/\σ[j]?=some (some v):=by
 unfold pick at h;rw[List.getElem?_map] at h;cases e:fv[i]? with
 | none=>rw[e] at h;cases h
 | some o=>
   rw[e] at h;cases o with
   | none=>cases h
   | some j=>
     have h':(σ[j]?).join=some v:=Option.some.inj h;refine⟨j,rfl,?_⟩;cases e2:σ[j]? with
     | none=>rw[e2] at h';cases h'
     | some o=>rw[e2] at h';exact congrArg some h'
theorem sF {H:Hp} {τ:cP} {σ:St} {fv:List (Option Nat)} (h:bt K H τ σ):bt K H (pick fv τ) (pick fv σ):=by
 refine⟨by simp[pick],λi w e=>?_⟩;obtain⟨j,ej,ew⟩:=mO e;obtain⟨v,ev,r⟩:=h.2 j w ew;refine⟨v,?_,r⟩;unfold pick;rw[List.getElem?_map,ej];show some ((σ[j]?).join)=_;rw[ev]
 rfl
section
variable {X:Cx} {π:List (Addr×Obj)} {σ:St} {H H2:Hp} {s s2:Shared} {scope:Scope} {N:List Str} {fv:List (Option Nat)} {fp:List Addr} {C D:Addr}
theorem eI.cells (S:eI X scope N fv) (I:aC X π σ H s):∀y∈scope.names,y.2=.free->∃c,X.env.cells.lookup y.1=some c:=λy hy hk=>I.ok.has y.1 (.inl (S.free y hy hk))
theorem qQ {h4:Heap} {t4:Nat} {m:Str->Option Value} (I:aC X π σ H2 s2) (S:eI X scope N fv) (hf:∀b∈fp,iM X π H2 b) (hfo:∀b∈fp,b<s2.heap.objs.size) (keep:∀b o,s2.heap.get? b=some o->h4.get? b=some o)
 (hC:s2.heap.objs.size<=C) (ns:h4.Ns C m):aC (gl X N scope C fp s2 H2) [] (pick fv σ) H2 { s2 with heap:=h4,toks:=t4 }:=by
 have look:∀x c,(gE X.env scope.names []).lookup x=some c->X.env.cells.lookup x=some c:=dN (S.cells I) (λx c e=>by simp at e);refine⟨⟨I.ok.mod,S.kind,I.ok.glob,I.ok.blt,hC,λx y c e1 e2=>I.ok.inj x y c (look x c e1) (look y c e2),λx hx=>?_,λx c h=>absurd (show false=true from h) Bool.false_ne_true,I.ok.hd,I.ok.frames,.inl rfl,λb hb=>?_,I.bs,le_trans I.ok.bsz I.sz,λb o e hb=>?_,λb hb hx=>?_,I.stack,I.stkFree⟩,
  rfl,I.bare,Un.kept keep,⟨m,ns,λi x v e1 e2 e3=>?_⟩,λx c e=>?_,I.hok.fresh hC,λx c e=>I.freeC x c (look x c e),λp hp=>absurd (show p∈([]:List (Addr×Obj)) from hp) (by simp),I.hok.kept keep,?_⟩
 ·rcases hx with hx | hx
  ·exact ff (.inl (du hx (.inl rfl) S.nocell))
  ·exact ff (.inl (du hx (.inr rfl) S.nocell))
 ·exact⟨ne_of_lt (lt_of_lt_of_le (hfo b hb) hC),λx c e=>(hf b hb).2.2.2.2.1 x c (look x c e)⟩
 ·rcases(hf b hb).2.2.2.1 with z | z
  ·exact I.ok.noex b o e z
  ·exact absurd (lt_of_lt_of_le (Heap.lt_size e) (le_trans I.ok.bsz z)) (lt_irrefl _)
 ·rcases mem_cons.mp (I.stkSub b hx) with z | z
  ·exact(hf b hb).2.1 z
  ·exact(hf b hb).2.2.1 z
 ·obtain⟨j,ej,ev⟩:=mO e2;obtain⟨h1,h2,h3⟩:=S.fvs i j x e1 ej;obtain⟨m0,_,hl⟩:=I.loc;obtain⟨u,r,l⟩:=hl j x v h1 ev (.inr (.inl h2));refine⟨u,r,.inr ?_⟩;rcases l with⟨k,_⟩ | ⟨_,c,ec,o,ho,hd⟩
  ·exact absurd (h2.symm.trans k) (by intro z;cases z)
  ·obtain⟨c',ec'⟩:=ff (env:=X.env) (l:=scope.names) (cs:=[]) (x:=x) (.inl h3);have e':=look x c' ec';rw[ec] at e';cases e';refine⟨?_,c,ec',o,keep _ _ ho,hd⟩;rcases e3 with e3 | e3 | e3
   ·exact absurd (fQ e3) λz=>S.fvl h3 z
   ·exact .inl e3
   ·exact .inr e3
 ·obtain⟨v,o,ho,hd⟩:=I.cell x c (look x c e);exact⟨v,o,keep _ _ ho,hd⟩
 ·show(pick fv σ).length=N.length;unfold pick;rw[length_map,S.len]
end
noncomputable def ci (C:Gp->Prop) (g:WG) (tt:WT) (te:WE):List W->cP->Gp->List W->(List W->Gp->Prop)->Prop
 | [],_,G,acc,q=>C G/\q acc G
 | w::ws,τ,G,acc,q=>C G/\g w τ G λτ2 G2=>tt τ2 G2 λb G3=>if b=true then te τ2 G3 λv G4=>acc.length+1<=100000/\ci C g tt te ws τ2 G4 (acc++[v]) q else ci C g tt te ws τ2 G3 acc q
noncomputable def xW (X:Cx) (ifs:List Expr) (t:WT):Prop:=
 ∀(π:List (Addr×Obj)) (s:Shared) (σ:St) (H:Hp) (Q:Bool->Hp->Prop),aC X π σ H s->yZ X.K t σ H Q->wpAny (model X.prog X.w) X.A (xV ifs X.env) (TP X π σ Q) X.xe s
noncomputable def kC:WT:=λ_ G q=>q true G
theorem cZ {X:Cx}:xW X [] kC:=λπ s σ H Q I ⟨τ,G,q,hs,hg,ht,hQ⟩=>wpAny_tests_nil ⟨H,I,hQ true H G (aP.refl H) hg ht⟩
theorem vP {X:Cx} {c:Expr} {t:WT} (h:QT X c t):xW X [c] t:=λπ s σ H Q I hw=>wpAny_tests_one (h π s σ H Q I hw)
theorem aM.track {H:Hp} {G:Gp} {p:Addr} {xs:List V} {ws:List W} (h:aM K H G) (e:H p=some (.lst xs)) (r:aV K H ws xs) (hl:ws.length<=100000):aM K H (aL G p (.lst ws)):=λa g ea=>by
 by_cases hb:a=p
 ·subst hb;rw[ak] at ea;cases ea;exact⟨hl,xs,e,r⟩
 ·rw[aq hb] at ea;exact h a g ea
section
variable {X:Cx} {π:List (Addr×Obj)} {σ:St} {H2:Hp} {s2:Shared} {scope:Scope} {N:List Str} {fv:List (Option Nat)} {fp:List Addr} {tg elt iter:Expr} {ifs:List Expr} {pos:Pos} {J:It} {it:Addr} {tn:Nat->Heap->Prop}
 {g:WG} {tt:WT} {te:WE} {ws:List W} {Cd:Gp->Prop} {τ:cP} {G:Gp} {q:List W->Gp->Prop}
structure vQ (X:Cx) (π:List (Addr×Obj)) (σ:St) (H2:Hp) (s2:Shared) (G:Gp) (q:List W->Gp->Prop) (D C:Addr) (s':Shared):Prop where
 ex:∃(Hf:Hp) (Gf:Gp) (rs:List W),(∃m,s'.heap.Ns C m)/\aC X π σ Hf s'/\Hf C=none/\s2.heap.objs.size<=C/\aP H2 Hf/\aM X.K Hf (aL Gf D (.lst rs))/\G D=none/\Gf D=none/\q rs Gf
structure BF (Y:Cx) (fp:List Addr) (tn:Nat->Heap->Prop) (ws:List W) (H2:Hp) (D:Addr) (R:List W->cP->Gp->List W->Prop) (n:Nat) (s:Shared) (i:Nat) (σ1:St) (H1:Hp) (τ1:cP) (G1:Gp) (acc:List W) (vs:List V) (its:List Value):Prop where
 hn:n=ws.length-i
 hi:i<=ws.length
 inv:aC Y [] σ1 H1 s
 st:tn i s.heap
 fr:∀b∈fp,H1 b=none
 hd:H1 D=none
 pl:s.heap.PlainList D its.toArray
 rv:aX vs its
 ra:aV Y.K H1 acc vs
 tl:aP H2 H1
 rs:bt Y.K H1 τ1 σ1
 rg:aM Y.K H1 G1
 cw:R (ws.drop i) τ1 G1 acc
 hl:acc.length<=100000
theorem eJ (I:aC X π σ H2 s2) (S:eI X scope N fv) (hc:X.calm=true) (T:lq X.prog X.w X.K tg J fp it tn) (st:tn 0 s2.heap) (hf:∀b∈fp,iM X π H2 b)
 (hg:∀C,QG (gl X N scope C fp s2 H2) tg g) (htt:∀C,xW (gl X N scope C fp s2 H2) ifs tt) (hte:∀C,QE (gl X N scope C fp s2 H2) elt te)
 (itn:pI X.K J ws Cd H2) (hs:bt X.K H2 τ σ) (gr:aM X.K H2 G) (hw:ci Cd g tt te ws (pick fv τ) G [] q) {RR:Value->Addr->Result->Shared->Prop} {E:Value->Shared->Prop}
 (hRR:∀D C s',vQ X π σ H2 s2 G q D C s'->RR (.ref D) C (.ok .next) s'):
 wpAny (model X.prog X.w) X.A (newList []) (λacc s3=>wpAny (model X.prog X.w) X.A (newFunctionEnv scope X.env.globals (gE X.env scope.names []) [] X.env.qual none .none (some X.env)) (λcenv s4=>
  codeAny (model X.prog X.w) X.A (.compStart (.ListComp elt [⟨tg,iter,ifs,0⟩] scope pos) 0 (.ref it) acc { cenv with scope:=relabel scope X.env }) (RR acc cenv.locals) s4) E s3) E s2:=by
 have hfo:∀b∈fp,b<s2.heap.objs.size:=λb hb=>let ⟨o,e,_⟩:=T.obj _ _ st b hb;Heap.lt_size e;refine wpAny_newObj_type (wpAny_newFunctionEnv S.nocell (by intro y hy;simp at hy) (λh1 hns1 hsb1=>?_) S.kind);dsimp only at hns1 hsb1 ⊢;generalize hP:s2.heap.push { cls:= .type "list",dict:=none,data:= .seq ([]:List Value).toArray }=P at hns1 hsb1 ⊢;generalize hD:s2.heap.objs.size=D at*;have hC:P.objs.size=D+1:=by rw[←hP,Heap.size_push,hD]
 generalize hCC:P.objs.size=C at*;have hDC:D≠C:=by rw[hC];exact ne_of_lt (Nat.lt_succ_self _)
 have hDleC:D<=C:=by rw[hC];exact le_succ _
 have old:∀b o,s2.heap.get? b=some o->h1.get? b=some o:=λb o e=>hsb1.extBut b o (ne_of_lt (lt_of_lt_of_le (Heap.lt_size e) (by rw[hD];exact hDleC))) (Heap.get?_push_of_some _ (hP▸Heap.get?_push_of_some _ e));have hacc:h1.PlainList D #[]:=⟨0,hsb1.extBut _ _ hDC (Heap.get?_push_of_some _ (by rw[←hP,←hD];exact Heap.get?_push_size _ rfl))⟩;have look:∀x c,(gE X.env scope.names []).lookup x=some c->X.env.cells.lookup x=some c:=dN (S.cells I) (λx c e=>by simp at e);have cD:∀x c,(gE X.env scope.names []).lookup x=some c->c≠D:=λx c e z=>by
  obtain⟨v,o,ho,_⟩:=I.cell x c (look x c e);exact absurd (Heap.lt_size ho) (by rw[z,hD];exact lt_irrefl _)
 have sD:D∉eu X.stack:=λhb=>by
  rcases mem_cons.mp (I.stkSub D hb) with z | z
  ·exact absurd I.lt (by rw[←z,hD];exact lt_irrefl _)
  ·exact I.nofs (by rw[hD];exact le_refl _) z
 have fD:D∉fp:=λhb=>absurd (hfo D hb) (lt_irrefl _);have fpX:∀{H1:Hp} {ps:List (Addr×Obj)},(∀b∈fp,H1 b=none)->(∀p∈ps,p.1∉fp)->∀b∈fp,iM (gl X N scope C fp s2 H2) ps H1 b:=λ{H1 ps} hn hp b hb=>by
  refine⟨hn b hb,ne_of_lt (lt_of_lt_of_le (hfo b hb) hDleC),λhx=>?_,.inl hb,λx c e=>(hf b hb).2.2.2.2.1 x c (look x c e),λp hp' z=>hp p hp' (z▸hb)⟩;rcases mem_cons.mp (I.stkSub b hx) with z | z
  ·exact(hf b hb).2.1 z
  ·exact(hf b hb).2.2.1 z
 have J0:aC (gl X N scope C fp s2 H2) [] (pick fv σ) H2 { s2 with heap:=h1,toks:=s2.toks+([]:List (Str×Value)).length }:=qQ I S hf (by rw[hD];exact hfo) old (by rw[hD];exact hDleC) hns1;have loop:codeAny (model X.prog X.w) X.A (.compLoop (.ListComp elt [⟨tg,iter,ifs,0⟩] scope pos) 0 (.ref it) (.ref D) (gl X N scope C fp s2 H2).env) (RR (.ref D) C) { s2 with heap:=h1,toks:=s2.toks+([]:List (Str×Value)).length }:=by
  refine qP (λn s=>∃i σ1 H1 τ1 G1 acc vs its,BF (gl X N scope C fp s2 H2) fp tn ws H2 D (λl τ1 G1 acc=>ci Cd g tt te l τ1 G1 acc q) n s i σ1 H1 τ1 G1 acc vs its) ?_ ws.length
   ⟨0,_,H2,_,G,[],[],[],by simp,zero_le _,J0,T.keep _ _ _ st λb _ o e=>old b o e,λb hb=>(hf b hb).1,I.hok.fresh (by rw[hD];exact le_refl _),hacc,.nil,.nil,aP.refl _,sF hs,gr,by simpa using hw,by simp⟩
  rintro n s ⟨i,σ1,H1,τ1,G1,acc,vs,its,rfl,hi,J1,st1,fr1,d1,pl1,rv1,ra1,t1,s1,g1,q1,hl1⟩;obtain⟨kk,eD⟩:=pl1;have J1p:aC (gl X N scope C fp s2 H2) [(D,{ cls:= .type "list",data:= .seq its.toArray kk })] σ1 H1 s:=J1.pins_of λp hp=>by
   have e:=mem_singleton.mp hp;subst e;exact⟨eD,d1,hDC,sD,λv z=>by cases z⟩
  have pnf:∀p∈[((D,{ cls:= .type "list",data:= .seq its.toArray kk }):Addr×Obj)],p.1∉fp:=λp hp=>by
   have e:=mem_singleton.mp hp;subst e;exact fD
  by_cases hlt:i<ws.length
  ·have ed:ws.drop i=ws[i]::ws.drop (i+1):=List.drop_eq_getElem_cons hlt;rw[ed] at q1;obtain⟨c1,q1⟩:=q1;obtain⟨go,yl⟩:=itn.go i ws[i] H1 G1 t1 g1 c1 (List.getElem?_eq_getElem hlt);refine bV (T.item (gl X N scope C fp s2 H2) rfl rfl rfl hc i _ s σ1 H1 nox J1p (fpX fr1 pnf) st1 go) λr s4 z9=>?_;obtain⟨u,hr,h4⟩:=z9;subst hr;refine bV h4 λ_ s5 z9=>?_;obtain⟨x,H5,I5,r5,y5,st5,fr5⟩:=z9;obtain⟨tx,rx,gx⟩:=yl x H5 y5;have I5':=I5.pinned (fpX fr5 pnf) (T.obj _ _ st5);refine bV (hg C _ s5 σ1 H5 x u (λσ6 H6=>∃τ6 G6,aP H5 H6/\bt X.K H6 τ6 σ6/\aM X.K H6 G6/\tt τ6 G6 λb G3=>if b=true then te τ6 G3 λv G4=>acc.length+1<=100000/\ci Cd g tt te (ws.drop (i+1)) τ6 G4 (acc++[v]) q else ci Cd g tt te (ws.drop (i+1)) τ6 G3 acc q) I5' r5
    ⟨ws[i],τ1,G1,_,rx,s1.mono tx,gx,q1,λσ6 H6 τ6 G6 t6 s6 g6 q6=>⟨τ6,G6,t6,s6,g6,q6⟩⟩) λ_ s6 ⟨σ6,H6,I6,τ6,G6,t6,rs6,g6,q6⟩=>?_
   refine bV (htt C _ s6 σ6 H6 (λb H7=>∃G7,aP H6 H7/\aM X.K H7 G7/\(if b=true then te τ6 G7 λv G4=>acc.length+1<=100000/\ci Cd g tt te (ws.drop (i+1)) τ6 G4 (acc++[v]) q else ci Cd g tt te (ws.drop (i+1)) τ6 G7 acc q)) I6
    ⟨τ6,G6,_,rs6,g6,q6,λb H7 G7 t7 g7 q7=>⟨G7,t7,g7,q7⟩⟩) λok s7 ⟨H7,I7,G7,t7,g7,q7⟩=>?_
   have t17:aP H1 H7:=(tx.trans t6).trans t7
   -- what the π keep up to a later state
   have keepFp:∀{σ8:St} {H8:Hp} {s8:Shared},aC (gl X N scope C fp s2 H2) ([(D,{ cls:= .type "list",data:= .seq its.toArray kk })]++jf fp s5.heap) σ8 H8 s8->tn (i+1) s8.heap/\(∀b∈fp,H8 b=none)/\H8 D=none/\s8.heap.get? D=some { cls:= .type "list",data:= .seq its.toArray kk }/\∀b∈fp,∃o,s8.heap.get? b=some o:=λ{σ8 H8 s8} I8=>by
    refine⟨T.keep _ _ _ st5 λb hb o e=>(I8.pin (b,o) (mem_append_right _ (mem_append_right _ (dj hb e)))).1,λb hb=>?_,(I8.pin (D,_) (mem_append_right _ (mem_append_left _ mem_cons_self))).2.1,(I8.pin (D,_) (mem_append_right _ (mem_append_left _ mem_cons_self))).1,λb hb=>?_⟩
    ·obtain⟨o,e,_⟩:=T.obj _ _ st5 b hb;exact(I8.pin (b,o) (mem_append_right _ (mem_append_right _ (dj hb e)))).2.1
    ·obtain⟨o,e,_⟩:=T.obj _ _ st5 b hb;exact⟨o,(I8.pin (b,o) (mem_append_right _ (mem_append_right _ (dj hb e)))).1⟩
   cases ok with
   | false=>
     rw[if_neg Bool.false_ne_true] at q7 ⊢;obtain⟨k1,k2,k3,k4,_⟩:=keepFp I7;exact⟨ws.length- (i+1),by (clear hD hCC hC hDC hDleC hi hl1 ed;lia),i+1,σ6,H7,τ6,G7,acc,vs,its,rfl,hlt,I7.pins_of λp hp=>absurd hp (by simp),k1,k2,k3,⟨kk,k4⟩,rv1,ra1.mono t17,t1.trans t17,rs6.mono t7,g7,q7,hl1⟩
   | true=>
     rw[if_pos rfl] at q7 ⊢;refine bV (hte C _ s7 σ6 H7 (λv H8=>∃w8 G8,aP H7 H8/\bK X.K H8 w8 v/\aM X.K H8 G8/\acc.length+1<=100000/\ci Cd g tt te (ws.drop (i+1)) τ6 G8 (acc++[w8]) q) I7
      ⟨τ6,G7,_,rs6.mono t7,g7,q7,λv H8 w8 G8 t8 r8 g8 q8=>⟨w8,G8,t8,r8,g8,q8⟩⟩) λu8 s8 ⟨v8,H8,I8,rv8,w8,G8,t8,r8,g8,hl8,q8⟩=>?_
     obtain⟨k1,k2,k3,k4,k5⟩:=keepFp I8;have t18:aP H1 H8:=t17.trans t8;refine wpAny_list_append_plain ⟨kk,k4⟩ (λh9 pl9 sb9=>?_) (by rw[size_toArray,←rv1.length,←ra1.length];exact bN hl1);have I9:aC (gl X N scope C fp s2 H2) [] σ6 H8 { s8 with heap:=h9 }:=(I8.pins_of (pins':=[]) λp hp=>absurd hp (by simp)).turned (t':=s8.toks) (λb o hb e=>(sb9.2 b hb).trans e) k3 hDC (.inr (by show s2.heap.objs.size<=D;rw[hD];exact le_refl _)) (λx c e=>cD x c e) λp hp=>absurd (show p∈([]:List (Addr×Obj)) from hp) (by simp);refine⟨ws.length- (i+1),by (clear hD hCC hC hDC hDleC hi hl1 ed hl8;lia),i+1,σ6,H8,τ6,G8,acc++[w8],vs++[v8],its++[u8],rfl,hlt,I9,T.keep _ _ _ k1 λb hb o e=>(sb9.2 b (λz=>fD (z▸hb))).trans e,k2,k3,by simpa using pl9,rv1.append (.cons rv8 .nil),(ra1.mono t18).append (.cons r8 .nil),t1.trans t18,(rs6.mono t7).mono t8,g8,q8,by rw[length_append];exact hl8⟩
  ·have e:i=ws.length:=by (clear hD hCC hC hDC hDleC hl1;lia)
   subst e;rw[List.drop_length] at q1;refine bV (T.done (gl X N scope C fp s2 H2) rfl rfl rfl hc _ _ s σ1 H1 nox J1p (fpX fr1 pnf) st1 (itn.stop _ H1 G1 t1 g1 q1.1 (le_refl _))) λr s4 z9=>?_;obtain⟨hr,I4⟩:=z9;subst hr;have eD4:=(I4.pin (D,_) (mem_append_right _ mem_cons_self)).1;have zl:vs.length<=sizeLine:=by rw[←ra1.length];exact bN hl1
   have hb2:∀b o,s2.heap.get? b=some o->b≠D:=λb o e=>by
    have:=Heap.lt_size e;rw[hD] at this;exact ne_of_lt this
   refine hRR D C s4 ⟨upd H1 D (.lst vs),G1,acc,let ⟨m,hn,_⟩:=I4.loc;⟨m,hn⟩,?_,?_,by rw[hD];exact hDleC,t1.trans (aP.new d1 _),?_,gr.fresh (I.hok.fresh (by rw[hD];exact le_refl _)),g1.fresh d1,q1.2⟩
   ·refine I.call' (ch:=fp) I4.os ⟨λb o e n hb hx=>I4.base.keep b o e n hb hx,λb o e n hb hx=>I4.base.slot b o e n hb hx,λb o e n hx=>?_,λb o e hx=>I4.base.there b o e hx,λb xs e=>?_,λb o u e=>?_,λb ps e=>?_⟩ ?_ I4.bare λb hb=>⟨(hf b hb).2.2.2.1,(hf b hb).2.1,λx c e=>(hf b hb).2.2.2.2.1 x c e,λp hp=>(hf b hb).2.2.2.2.2 p hp⟩
    ·rw[aD (hb2 b o e)];exact I4.base.free b o e n hx
    ·rw[aD (bh (I4.base.tups b xs e) d1)];exact I4.base.tups b xs e
    ·rw[aD (bh (I4.base.frzs b o u e) d1)];exact I4.base.frzs b o u e
    ·obtain⟨more,e'⟩:=I4.base.tbls b ps e;exact⟨more,by rw[aD (bh e' d1)];exact e'⟩
    ·intro b u e
     by_cases hbD:b=D
     ·subst hbD;rw[bg] at e;cases e;exact⟨zl,its,kk,rv1,eD4⟩
     ·rw[aD hbD] at e;exact(I4.hok b u e).stay (λc v _ q=>q) (λc q=>by rw[aD (bh q d1)];exact q) λc xs q=>by rw[aD (bh q d1)];exact q
   ·rw[aD (Ne.symm hDC)];exact I4.free
   ·exact(g1.upd (aP.new d1 _) (g1.fresh d1)).track bg (ra1.mono (aP.new d1 _)) hl1
 exact codeAny_compStart_list loop (T.self _ 0 _ _ _ (T.keep _ _ _ st λb _ o e=>old b o e) loop)
noncomputable def sG (wi:WI) (fv:List (Option Nat)) (g:WG) (tt:WT) (te:WE):WE:=λτ G q=>wi τ G λws Cd G1=>ci Cd g tt te ws (pick fv τ) G1 [] λrs G2=>∀p,G1 p=none->q (.ref p) (aL G2 p (.lst rs))
theorem fE {wi:WI} (S:eI X scope N fv) (hc:X.calm=true) (hi:QI X tg iter wi) (hg:∀C fp s2 H2,QG (gl X N scope C fp s2 H2) tg g) (htt:∀C fp s2 H2,xW (gl X N scope C fp s2 H2) ifs tt) (hte:∀C fp s2 H2,QE (gl X N scope C fp s2 H2) elt te)
 (hs:∀x,foldedSetIterable iter X.env x=pure x:=by intro _;rfl):QE X (.ListComp elt [⟨tg,iter,ifs,0⟩] scope pos) (sG wi fv g tt te):=by
 rintro π s σ H Q I ⟨τ,G,q,hτ,hG,ht,hQ⟩;rw[eval_ListComp];refine wpAny_comprehension_free (use:=none) rfl hs (eF (S.cells I)) S.kind S.names (bV (hi π s σ H (λJ H1=>∃ws Cd G1,aP H H1/\aM X.K H1 G1/\pI X.K J ws Cd H1/\ci Cd g tt te ws (pick fv τ) G1 [] λrs G2=>∀p,G1 p=none->q (.ref p) (aL G2 p (.lst rs))) I
  ⟨τ,G,_,hτ,hG,ht,λJ H1 ws C G1 t1 g1 it r1=>⟨ws,C,G1,t1,g1,it,r1⟩⟩) λv s1 h1=>bV h1 λitv s2 h2=>?_)
 obtain⟨it,fp,tn,J,H2,e,I2,T,st2,f2,ws,Cd,G1,t1,g1,itn,hw⟩:=h2;subst e;refine eJ (RR:=λacc C=>compPost (model X.prog X.w) X.A X.xe none (EP X π σ Q) acc C) I2 S hc T st2 f2 (λC=>hg C fp s2 H2) (λC=>htt C fp s2 H2) (λC=>hte C fp s2 H2) itn (hτ.mono t1) g1 hw λD C s' z9=>?_;obtain⟨Hf,Gf,rs,⟨m,hn⟩,I5,hC,hCs,t5,g5,hD,hD2,q5⟩:=z9;refine⟨m,hn,λh' sb=>?_⟩;have hlt:C≠X.env.locals:=λz=>absurd I2.lt (not_lt.mpr (z▸hCs));have I6:aC X π σ Hf { s' with heap:=h' }:=I5.turned (t':=s'.toks) (λb o hb e=>(sb.2 b hb).trans e) hC hlt (.inr (le_trans I2.sz hCs)) (λx c e z=>by
  obtain⟨v,o,ho,_⟩:=I2.cell x c e;exact absurd (Heap.lt_size ho) (not_lt.mpr (z▸hCs))) λp hp z=>absurd (Heap.lt_size (I2.pin p hp).1) (not_lt.mpr (z▸hCs))
 exact⟨.ref D,Hf,I6,rfl,hQ _ Hf _ _ (t1.trans t5) (.ref D) g5 (q5 D hD)⟩
theorem vR (i:Nat) {y:Str} {py spos:Pos} {wi:WI} (S:eI X scope N fv) (hc:X.calm=true) (hN:X.N.Nodup) (hiN:X.N[i]?=some y) (hy:u7 X.env.scope y) (hi:QI X tg iter wi) (hg:∀C fp s2 H2,QG (gl X N scope C fp s2 H2) tg g) (htt:∀C fp s2 H2,xW (gl X N scope C fp s2 H2) ifs tt) (hte:∀C fp s2 H2,QE (gl X N scope C fp s2 H2) elt te)
 (hsw:swapsWith (.ListComp elt [⟨tg,iter,ifs,0⟩] scope pos) (some (.Name y py)) spos.line X.env=pure true:=by rfl) (hs:∀x,foldedSetIterable iter X.env x=pure x:=by intro _;rfl) (hfn:X.fn y=true∨X.env.scope.names.lookup y=some .local:=by first | exact .inl rfl | exact .inr rfl | assumption):
 QS X (.Assign [.Name y py] (.ListComp elt [⟨tg,iter,ifs,0⟩] scope pos) spos) (vH (sG wi fv g tt te) (cW i)):=by
 rintro π s σ H D0 I ⟨τ,G,d,hτ,hG,ht,l⟩;rw[exec_Assign_Name_used _ _ _ _ hsw];refine wax (wpAny_standAt (wax ?_));show wpAny _ _ (do let _ ←comprehension (.ListComp elt [⟨tg,iter,ifs,0⟩] scope pos) scope X.env _ (newList []) false (eval iter X.env) (some (assign (.Name y py) X.env))) _ _ s;refine wax (wpAny_mono (wpAny_comprehension_free (use:=some (assign (.Name y py) X.env)) (Q:=λ_ s'=>SP X π D0 .next s') rfl hs (eF (S.cells I)) S.kind S.names (bV (hi π s σ H (λJ H1=>∃ws Cd G1,aP H H1/\aM X.K H1 G1/\pI X.K J ws Cd H1/\ci Cd g tt te ws (pick fv τ) G1 [] λrs G2=>∀p,G1 p=none->cW i (.ref p) τ (aL G2 p (.lst rs)) d.nx) I
  ⟨τ,G,_,hτ,hG,ht,λJ H1 ws C G1 t1 g1 it r1=>⟨ws,C,G1,t1,g1,it,r1⟩⟩) λv s1 h1=>bV h1 λitv s2 h2=>?_)) (λ_ s' hq=>way (way hq)) λ_ _ e=>e)
 obtain⟨it,fp,tn,J,H2,e,I2,T,st2,f2,ws,Cd,G1,t1,g1,itn,hw⟩:=h2;subst e;refine eJ (RR:=λacc C=>compPost (model X.prog X.w) X.A X.xe (some (assign (.Name y py) X.env)) (λ_ s'=>SP X π D0 .next s') acc C) I2 S hc T st2 f2 (λC=>hg C fp s2 H2) (λC=>htt C fp s2 H2) (λC=>hte C fp s2 H2) itn (hτ.mono t1) g1 hw λD C s' z9=>?_;obtain⟨Hf,Gf,rs,⟨m,hn⟩,I5,hC,hCs,t5,g5,hD,hD2,q5⟩:=z9;have hlt:C≠X.env.locals:=λz=>absurd I2.lt (not_lt.mpr (z▸hCs));have hcell:∀x c,X.env.cells.lookup x=some c->c≠C:=λx c e z=>by
  obtain⟨v,o,ho,_⟩:=I2.cell x c e;exact absurd (Heap.lt_size ho) (not_lt.mpr (z▸hCs))
 show wpAny _ _ (assign (.Name y py) X.env (.ref D)) _ _ s';refine wpAny_assign_Name (gX I5 hN hiN hy (v:= .ref D) rfl (λs6 I6 z9=>?_) hfn);obtain⟨a,sb6,ha⟩:=z9;have haC:C≠a:=by
  rcases ha with z | z
  ·rw[z];exact hlt
  ·exact Ne.symm (hcell y a z)
 refine⟨m,hn.sameBut sb6 haC,λh' sb=>?_⟩;have I7:aC X π (σ.set i (some (.ref D))) Hf { s6 with heap:=h' }:=I6.turned (t':=s6.toks) (λb o hb e=>(sb.2 b hb).trans e) hC hlt (.inr (le_trans I2.sz hCs)) hcell λp hp z=>absurd (Heap.lt_size (I2.pin p hp).1) (not_lt.mpr (z▸hCs));exact⟨_,Hf,I7,l.nx _ Hf _ _ (t1.trans t5) ((hτ.mono (t1.trans t5)).set (.ref D) i) g5 (q5 D hD)⟩
noncomputable def ow (wi:WI) (fv:List (Option Nat)) (g:WG) (tt:WT) (te:WE):WE:=λτ G q=>wi τ G λws Cd G1=>ci Cd g tt te ws (pick fv τ) G1 [] λrs G2=>∀p,G1 p=none->G2 p=none->q (.ref p) (aL G2 p (.lst rs))
theorem sH {wi:WI} (S:eI X scope N fv) (hc:X.calm=true) (hi:QI X tg iter wi) (hg:∀C fp s2 H2,QG (gl X N scope C fp s2 H2) tg g) (htt:∀C fp s2 H2,xW (gl X N scope C fp s2 H2) ifs tt) (hte:∀C fp s2 H2,QE (gl X N scope C fp s2 H2) elt te)
 (hs:∀x,foldedSetIterable iter X.env x=pure x:=by intro _;rfl):QE X (.ListComp elt [⟨tg,iter,ifs,0⟩] scope pos) (ow wi fv g tt te):=by
 rintro π s σ H Q I ⟨τ,G,q,hτ,hG,ht,hQ⟩;rw[eval_ListComp];refine wpAny_comprehension_free (use:=none) rfl hs (eF (S.cells I)) S.kind S.names (bV (hi π s σ H (λJ H1=>∃ws Cd G1,aP H H1/\aM X.K H1 G1/\pI X.K J ws Cd H1/\ci Cd g tt te ws (pick fv τ) G1 [] λrs G2=>∀p,G1 p=none->G2 p=none->q (.ref p) (aL G2 p (.lst rs))) I
  ⟨τ,G,_,hτ,hG,ht,λJ H1 ws C G1 t1 g1 it r1=>⟨ws,C,G1,t1,g1,it,r1⟩⟩) λv s1 h1=>bV h1 λitv s2 h2=>?_)
 obtain⟨it,fp,tn,J,H2,e,I2,T,st2,f2,ws,Cd,G1,t1,g1,itn,hw⟩:=h2;subst e;refine eJ (RR:=λacc C=>compPost (model X.prog X.w) X.A X.xe none (EP X π σ Q) acc C) I2 S hc T st2 f2 (λC=>hg C fp s2 H2) (λC=>htt C fp s2 H2) (λC=>hte C fp s2 H2) itn (hτ.mono t1) g1 hw λD C s' z9=>?_;obtain⟨Hf,Gf,rs,⟨m,hn⟩,I5,hC,hCs,t5,g5,hD,hD2,q5⟩:=z9;refine⟨m,hn,λh' sb=>?_⟩;have hlt:C≠X.env.locals:=λz=>absurd I2.lt (not_lt.mpr (z▸hCs));have I6:aC X π σ Hf { s' with heap:=h' }:=I5.turned (t':=s'.toks) (λb o hb e=>(sb.2 b hb).trans e) hC hlt (.inr (le_trans I2.sz hCs)) (λx c e z=>by
  obtain⟨v,o,ho,_⟩:=I2.cell x c e;exact absurd (Heap.lt_size ho) (not_lt.mpr (z▸hCs))) λp hp z=>absurd (Heap.lt_size (I2.pin p hp).1) (not_lt.mpr (z▸hCs))
 exact⟨.ref D,Hf,I6,rfl,hQ _ Hf _ _ (t1.trans t5) (.ref D) g5 (q5 D hD hD2)⟩
theorem mP (i:Nat) {y:Str} {py spos:Pos} {wi:WI} (S:eI X scope N fv) (hc:X.calm=true) (hN:X.N.Nodup) (hiN:X.N[i]?=some y) (hy:u7 X.env.scope y) (hi:QI X tg iter wi) (hg:∀C fp s2 H2,QG (gl X N scope C fp s2 H2) tg g) (htt:∀C fp s2 H2,xW (gl X N scope C fp s2 H2) ifs tt) (hte:∀C fp s2 H2,QE (gl X N scope C fp s2 H2) elt te)
 (hsw:swapsWith (.ListComp elt [⟨tg,iter,ifs,0⟩] scope pos) (some (.Name y py)) spos.line X.env=pure true:=by rfl) (hs:∀x,foldedSetIterable iter X.env x=pure x:=by intro _;rfl) (hfn:X.fn y=true∨X.env.scope.names.lookup y=some .local:=by first | exact .inl rfl | exact .inr rfl | assumption):
 QS X (.Assign [.Name y py] (.ListComp elt [⟨tg,iter,ifs,0⟩] scope pos) spos) (vH (ow wi fv g tt te) (cW i)):=by
 rintro π s σ H D0 I ⟨τ,G,d,hτ,hG,ht,l⟩;rw[exec_Assign_Name_used _ _ _ _ hsw];refine wax (wpAny_standAt (wax ?_));show wpAny _ _ (do let _ ←comprehension (.ListComp elt [⟨tg,iter,ifs,0⟩] scope pos) scope X.env _ (newList []) false (eval iter X.env) (some (assign (.Name y py) X.env))) _ _ s;refine wax (wpAny_mono (wpAny_comprehension_free (use:=some (assign (.Name y py) X.env)) (Q:=λ_ s'=>SP X π D0 .next s') rfl hs (eF (S.cells I)) S.kind S.names (bV (hi π s σ H (λJ H1=>∃ws Cd G1,aP H H1/\aM X.K H1 G1/\pI X.K J ws Cd H1/\ci Cd g tt te ws (pick fv τ) G1 [] λrs G2=>∀p,G1 p=none->G2 p=none->cW i (.ref p) τ (aL G2 p (.lst rs)) d.nx) I
  ⟨τ,G,_,hτ,hG,ht,λJ H1 ws C G1 t1 g1 it r1=>⟨ws,C,G1,t1,g1,it,r1⟩⟩) λv s1 h1=>bV h1 λitv s2 h2=>?_)) (λ_ s' hq=>way (way hq)) λ_ _ e=>e)
 obtain⟨it,fp,tn,J,H2,e,I2,T,st2,f2,ws,Cd,G1,t1,g1,itn,hw⟩:=h2;subst e;refine eJ (RR:=λacc C=>compPost (model X.prog X.w) X.A X.xe (some (assign (.Name y py) X.env)) (λ_ s'=>SP X π D0 .next s') acc C) I2 S hc T st2 f2 (λC=>hg C fp s2 H2) (λC=>htt C fp s2 H2) (λC=>hte C fp s2 H2) itn (hτ.mono t1) g1 hw λD C s' z9=>?_;obtain⟨Hf,Gf,rs,⟨m,hn⟩,I5,hC,hCs,t5,g5,hD,hD2,q5⟩:=z9;have hlt:C≠X.env.locals:=λz=>absurd I2.lt (not_lt.mpr (z▸hCs));have hcell:∀x c,X.env.cells.lookup x=some c->c≠C:=λx c e z=>by
  obtain⟨v,o,ho,_⟩:=I2.cell x c e;exact absurd (Heap.lt_size ho) (not_lt.mpr (z▸hCs))
 show wpAny _ _ (assign (.Name y py) X.env (.ref D)) _ _ s';refine wpAny_assign_Name (gX I5 hN hiN hy (v:= .ref D) rfl (λs6 I6 z9=>?_) hfn);obtain⟨a,sb6,ha⟩:=z9;have haC:C≠a:=by
  rcases ha with z | z
  ·rw[z];exact hlt
  ·exact Ne.symm (hcell y a z)
 refine⟨m,hn.sameBut sb6 haC,λh' sb=>?_⟩;have I7:aC X π (σ.set i (some (.ref D))) Hf { s6 with heap:=h' }:=I6.turned (t':=s6.toks) (λb o hb e=>(sb.2 b hb).trans e) hC hlt (.inr (le_trans I2.sz hCs)) hcell λp hp z=>absurd (Heap.lt_size (I2.pin p hp).1) (not_lt.mpr (z▸hCs));exact⟨_,Hf,I7,l.nx _ Hf _ _ (t1.trans t5) ((hτ.mono (t1.trans t5)).set (.ref D) i) g5 (q5 D hD hD2)⟩
end
section
variable {P:Program} {w:World} {K:PySem.W.Frag}
end
section
variable {X:Cx}
noncomputable def BG (te:WE):WE:=λτ G q=>te τ G λx G1=>match x with | .int i=>q (.int (-i)) G1 | _=>False
theorem eK {a:Expr} {ta:WE} (ha:QE X a ta):QE X (.UnaryOp .USub a pos) (BG ta):=
 (A3 yJ ha).imp λσ H Q z0=>z0.el λτ G q hs hg ht hQ=>⟨τ,G,_,hs,hg,ht,λv H1 w G1 t1 r1 g1 q1=>by
   split at q1
   ·cases r1;exact⟨_,rfl,hQ _ H1 _ G1 t1 (.int _) g1 q1⟩
   ·exact q1.elim⟩
noncomputable def Fx (P:Program) (w:World) (K:PySem.W.Frag) (mg:Str->Option Value) (base:Heap) (x:Str) (ps:List Str) (k:Nat) (sp:bP):Prop:=
 ∃(f:Addr) (fd:FuncData),bW P w K mg base k f fd ps sp/\mg x=some (.ref f)/\keepIn K (.ref f)=true/\bI K fd ps []
theorem BH {sp:bP} {p pos:Pos} {t:WA} (F:Fx X.prog X.w X.K X.mg X.base x ps k sp) (hr:aw k X.A) (hg:Gl X x) (ha:QA X (e::es) t) (hdb:(x==("__debug__":Str))=false:=by decide)
 (he:starEach (e::es) X.env=(false,eval e X.env)::starEach es X.env:=by rfl) (hpl:(backTo pos (starEach es X.env)).any (·.1)=false:=by rfl):QE X (.Call (.Name x p) (e::es) [] pos) (gz sp [] t):=by
 obtain⟨f,fd,h1,h2,h3,h4⟩:=F;exact vI h1 hr hg h2 h3 h4 ha hdb he hpl
theorem zm {sp:bP} {p pos:Pos} (F:Fx X.prog X.w X.K X.mg X.base x ps k sp) (hr:aw k X.A) (hg:Gl X x) (hdb:(x==("__debug__":Str))=false:=by decide):QE X (.Call (.Name x p) [] [] pos) (gz sp [] j8):=by
 obtain⟨f,fd,h1,h2,h3,h4⟩:=F;exact so h1 hr hg h2 h3 h4 hdb
noncomputable def sI (scope:Scope):List Str:=scope.names.map (·.1)
noncomputable def ox (N:List Str) (scope:Scope):List (Option Nat):=scope.names.map λy=>if y.2== .free then N.findIdx? (·==y.1) else none
noncomputable def sJ (outer scope:Scope):Bool:=
 scope.kind== .function&&scope.names.all (λy=>y.2 !=.cell)&&scope.names.all (λy=>y.2 !=.local||scope.names.lookup y.1==some .local)&&
  scope.names.all (λy=>y.2 !=.free||(outer.names.lookup y.1==some .cell&&scope.names.lookup y.1 !=some .local))
theorem dW (h:sJ X.env.scope scope=true):eI X scope (sI scope) (ox X.N scope):=by
 unfold sJ at h;simp only[Bool.and_eq_true,all_eq_true,Bool.or_eq_true,bne_iff_ne,beq_iff_eq,ne_eq] at h;obtain⟨⟨⟨h1,h2⟩,h3⟩,h4⟩:=h;refine⟨h1,h2,λx hx hk=>(h3 x hx).resolve_left λz=>z hk,λy hy hk=>((h4 y hy).resolve_left λz=>z hk).1,λi j x e1 e2=>?_,by simp[sI,ox],λ{x} hx=>((h4 _ hx).resolve_left λz=>z rfl).2⟩;unfold sI at e1;unfold ox at e2;rw[List.getElem?_map] at e1 e2;cases e:scope.names[i]? with
 | none=>rw[e] at e1;cases e1
 | some y=>
   rw[e] at e1 e2;have e1':y.1=x:=Option.some.inj e1;have e2':(if (y.2==NameKind.free)=true then X.N.findIdx? (·==y.1) else none)=some j:=Option.some.inj e2;have hm:y∈scope.names:=List.mem_of_getElem? e;split at e2'
   ·rename_i hk;have hk':y.2=.free:=by simpa using hk
    have hy:y=(x,NameKind.free):=by rw[←e1',←hk']
    have:=List.findIdx?_eq_some_iff_getElem.mp e2';obtain⟨hj,hj2,_⟩:=this;refine⟨?_,?_,hy▸hm⟩
    ·rw[List.getElem?_eq_getElem hj];have:X.N[j]=y.1:=by simpa using hj2
     rw[this,e1']
    ·have:=((h4 y hm).resolve_left λz=>z hk').1;rw[e1'] at this;exact this
   ·cases e2'
theorem cj (i:Nat) {N:List Str} {C:Addr} {fp:List Addr} {s2:Shared} {H2:Hp} (hN:N.Nodup) (hi:N[i]?=some x) (hx:u7 (gl X N scope C fp s2 H2).env.scope x) (hf:(gl X N scope C fp s2 H2).fn x=true∨(gl X N scope C fp s2 H2).env.scope.names.lookup x=some .local:=by first | exact .inl rfl | exact .inr rfl):
 QG (gl X N scope C fp s2 H2) (.Name x pos) (cW i):=cm (X:=gl X N scope C fp s2 H2) i hN hi hx hf
theorem dc:bootBuiltins "tuple"=some (.type "tuple"):=by decide+kernel
theorem oy:bootBuiltins "list"=some (.type "list"):=by decide+kernel
theorem sK:bootBuiltins "max"=some (.builtin "max"):=by decide+kernel
theorem BI:bootBuiltins "sum"=some (.builtin "sum"):=by decide+kernel
theorem aI {R:WS->Prop} {t:WS} (h:mL X body t) (g:R t):∃t,mL X body t/\R t:=⟨t,h,g⟩
end
mutual
noncomputable def W.lt:W->W->Bool
 | .int i,.int j=>decide (i<j)
 | .tup xs,.tup ys=>W.lts xs ys
 | _,_=>false
noncomputable def W.lts:List W->List W->Bool
 | [],[]=>false
 | [],_::_=>true
 | _::_,[]=>false
 | x::xs,y::ys=>if W.eq x y=true then W.lts xs ys else W.lt x y
end
mutual
noncomputable def W.ord:W->W->Bool
 | .int _,.int _=>true
 | .tup xs,.tup ys=>W.ords xs ys
 | _,_=>false
noncomputable def W.ords:List W->List W->Bool
 | x::xs,y::ys=>if W.eq x y=true then W.ords xs ys else W.ord x y
 | _,_=>true
end
noncomputable def lB (A:Around) (s:Shared) (y x:Value) (b:Bool):Prop:=
 ∀(prog:Program) (w:World) (E:Value->Shared->Prop) (Q:Value->Shared->Prop),Q (.bool b) s->wpAny (model prog w) A (richCompare .Lt y x) Q E s
inductive fX (A:Around) (s:Shared):List Value->List Value->Bool->Prop where
 | nn:fX A s [] [] false
 | nc {y:Value} {ys:List Value}:fX A s [] (y::ys) true
 | cn {x:Value} {xs:List Value}:fX A s (x::xs) [] false
 | eq {x y:Value} {xs ys:List Value} {r:Bool} (h:SeqAt.EqAt A s x y true) (t:fX A s xs ys r):fX A s (x::xs) (y::ys) r
 | ne {x y:Value} {xs ys:List Value} {r:Bool} (h:SeqAt.EqAt A s x y false) (t:lB A s x y r):fX A s (x::xs) (y::ys) r
section
open PySem.SeqAt
open PySem.AutoSeq1 (wpAny_loadPart')
open PySem.MeetsSeq PySem.MeetsSeq2 PySem.MeetsSeq3
theorem jp (l b:Addr) (items items2:Array Value) (n n2:Nat) (dd dd2:Option Addr) (sl sl2:Array (Option Value)) (r:Bool):
 Meets (Builtin.«tuple.__lt__» ⟨[.ref l,.ref b],[]⟩)
  (λA R s=>s.heap.get? l=some { cls:= .type "tuple",dict:=dd,data:= .seq items n,slots:=sl }/\s.heap.get? b=some { cls:= .type "tuple",dict:=dd2,data:= .seq items2 n2,slots:=sl2 }/\
    fX A.in1 s items.toList items2.toList r/\R (.ok (.ret (.bool r))) s):=
 .of_wp λprog w A R s h=>by
  obtain⟨hp,g,d,tk,os⟩:=s;obtain⟨hl,hb,hc,h⟩:=h;have f2:=AutoSeq1.sub_tuple_tuple
  wp_walk using wpAny_loadPart' hl,wpAny_loadPart' hb,wpAny_forIn_list _ (λbH b s'=>b.1=none/\s'=⟨hp,g,d,tk,os⟩/\∃(vs ws:List Value),bH=vs.zip ws/\
   fX A.in1 ⟨hp,g,d,tk,os⟩ vs ws r/\vs.length+items2.size=ws.length+items.size) _
  case turn=>
   rintro⟨y,x⟩ bH b s' ⟨hb',rfl,vs,ws,hz,hC,hlen⟩;cases hC with
   | nn=>rw[List.zip_nil_left] at hz;cases hz
   | nc=>rw[List.zip_nil_left] at hz;cases hz
   | cn=>rw[List.zip_nil_right] at hz;cases hz
   | eq he ht=>
     rw[zip_cons_cons] at hz;injection hz with hyx hrest
     injection hyx with hy hx
     subst hy hx;simp only[length_cons] at hlen;refine wax (he prog w _ _ ?_)
     wp_walk
     exact⟨rfl,rfl,_,_,hrest,ht,by lia⟩
   | ne he ht=>
     rw[zip_cons_cons] at hz;injection hz with hyx hrest
     injection hyx with hy hx
     subst hy hx;refine wax (he prog w _ _ ?_);have hri:=ht prog w
     wp_walk using hri
     exact⟨_,rfl,by simpa using h⟩
  case fin=>
   rintro⟨b1,b2⟩ s' ⟨hb',rfl,vs,ws,hz,hC,hlen⟩;simp only at hb';subst hb';have hv:r=decide (items.size<items2.size):=by
    cases hC with
    | nn=>simp only[length_nil] at hlen;exact(decide_eq_false (by lia)).symm
    | nc=>simp only[length_nil,length_cons] at hlen;exact(decide_eq_true (by lia)).symm
    | cn=>simp only[length_nil,length_cons] at hlen;exact(decide_eq_false (by lia)).symm
    | eq he ht=>rw[zip_cons_cons] at hz;cases hz
    | ne he ht=>rw[zip_cons_cons] at hz;cases hz
   rw[hv] at h
   wp_walk
   exact⟨_,rfl,by simpa[Builtin.Tuple.tupleCompareSizes] using h⟩
  case h=>
   exact⟨rfl,rfl,_,_,rfl,hc,by simp;lia⟩
end
theorem lB.tuples {l b:Addr} {items items2:Array Value} {r:Bool} (hl:s.heap.IsTuple l items) (hb:s.heap.IsTuple b items2) (hu:A.units<cLine)
 (hc:fX A.in1 s items.toList items2.toList r):lB A s (.ref l) (.ref b) r:=λprog w E Q h=>by
 obtain⟨⟨cls,dd,data,sl⟩,ho,hcl,n,hd⟩:=id hl;obtain⟨⟨cls2,dd2,data2,sl2⟩,ho2,hc2,n2,hd2⟩:=id hb;simp only at hcl hd hc2 hd2;subst hcl hd hc2 hd2;exact richCompare_meets_room (op:= .Lt) ⟨_,ho,rfl⟩ ⟨_,ho2,rfl⟩ PySem.F.slot_tuple_lt PySem.F.entry_tuple_lt (PySem.F.args_tuple_lt_2 _ _) (jp l b items items2 n n2 dd dd2 sl sl2 r)
  ⟨ho,ho2,hc,show Value.bool r≠Value.notImplemented/\Q (.bool r) s from ⟨(λx=>nomatch x),h⟩⟩ hu
section
variable {X:Cx} {π:List (Addr×Obj)} {σ:St} {H:Hp} {s:Shared}
theorem pJ (I:aC X π σ H s) (n:Nat) (A:Around)
 (ih:∀{w1 w2:W} {v1 v2:V} {u1 u2:Value},w1.dep<n->w1.flat=true->w2.flat=true->W.ord w1 w2=true->bK X.K H w1 v1->bK X.K H w2 v2->bf v1 u1->bf v2 u2->lB A s u1 u2 (w1.lt w2)) (hu:A.units+n<cLine):
 ∀{ws us:List W} {xs ys:List V} {its its2:List Value},W.deps ws<n->W.flats ws=true->W.flats us=true->W.ords ws us=true->aV X.K H ws xs->aV X.K H us ys->aX xs its->aX ys its2->fX A s its its2 (W.lts ws us):=by
 intro ws
 induction ws with
 | nil=>
   intro us xs ys its its2 hd f1 f2 ho r1 r2 q1 q2;cases r1;cases q1;cases r2 with
   | nil=>cases q2;simpa[W.lts] using fX.nn
   | cons _ _=>cases q2;simpa[W.lts] using fX.nc
 | cons x xs IH=>
   intro us vs1 vs2 its its2 hd f1 f2 ho r1 r2 q1 q2;cases r1 with
   | cons r1 s1=>
     cases q1 with
     | cons q1 t1=>
       cases r2 with
       | nil=>cases q2;simpa[W.lts] using fX.cn
       | @cons y ys _ _ r2 s2=>
         cases q2 with
         | cons q2 t2=>
           simp only[W.deps] at hd;simp only[W.flats,Bool.and_eq_true] at f1 f2;have e:=(ib I n A (w1:=x) (w2:=y) (by (clear hu;lia)) f1.1 f2.1 hu r1 r2 q1 q2).1;rw[W.ords] at ho;rw[W.lts];cases he:W.eq x y with
           | true=>
             rw[he] at e ho;rw[if_pos rfl] at ho ⊢;exact .eq e (IH (by (clear hu;lia)) f1.2 f2.2 ho s1 s2 t1 t2)
           | false=>
             rw[he] at e ho;rw[if_neg Bool.false_ne_true] at ho ⊢;exact .ne e (ih (by (clear hu;lia)) f1.1 f2.1 ho r1 r2 q1 q2)
theorem sL (I:aC X π σ H s):∀(n:Nat) (A:Around) {w1 w2:W} {v1 v2:V} {u1 u2:Value},w1.dep<n->w1.flat=true->w2.flat=true->W.ord w1 w2=true->A.units+n<cLine->bK X.K H w1 v1->bK X.K H w2 v2->bf v1 u1->bf v2 u2->
 lB A s u1 u2 (w1.lt w2):=by
 intro n
 induction n with
 | zero=>intro A w1 w2 v1 v2 u1 u2 h;lia
 | succ n ih=>
   intro A w1 w2 v1 v2 u1 u2 hd f1 f2 ho hu r1 r2 q1 q2;cases r1 with
   | ref a=>simp[W.flat] at f1
   | scr a=>simp[W.flat] at f1
   | non=>simp[W.ord] at ho
   | bl b=>simp[W.ord] at ho
   | str b=>simp[W.ord] at ho
   | int a=>
     cases r2 with
     | int b=>
       obtain⟨t,rfl⟩:=q1;obtain⟨t',rfl⟩:=q2;rw[W.lt];exact λprog w E Q h=>HT.rcLt_int A s a t b t' prog w E Q h
     | _=>simp[W.ord] at ho
   | @tup a ws xs h r=>
     cases r2 with
     | @tup b us ys h2 r2=>
       cases (show u1=Value.ref _ from q1);cases (show u2=Value.ref _ from q2);obtain⟨its,rv,p,_⟩:=aC.tupH I h;obtain⟨its2,rv2,p2,_⟩:=aC.tupH I h2;have g1:W.flats ws=true:=by simpa[W.flat] using f1
       have g2:W.flats us=true:=by simpa[W.flat] using f2
       have ho':W.ords ws us=true:=by simpa[W.ord] using ho
       have hd':W.deps ws<n:=by simp only[W.dep] at hd;(clear hu;lia)
       have hui:A.in1.units+n<cLine:=by show A.units+1+n<cLine;(clear hd hd';lia)
       rw[W.lt];exact lB.tuples p p2 (by (clear hd hd' hui;lia)) (pJ I n A.in1 (λh1 h2 h3 h4=>ih A.in1 h1 h2 h3 h4 hui) hui hd' g1 g2 ho' r r2 rv rv2)
     | _=>simp[W.ord] at ho
end
section
variable {X:Cx}
noncomputable def zn:W2:=λx y G q=>match x,y with
 | .int i,.int j=>q (.bl (decide (i<j))) G
 | .tup xs,.tup ys=>W.flats xs=true/\W.flats ys=true/\W.deps xs<=149/\W.ords xs ys=true/\q (.bl (W.lts xs ys)) G
 | _,_=>False
theorem iD (hr:aw k X.A):iB X (compareOp .Lt) zn:=by
 rintro π s σ H x y v u Q I rx ry ⟨wx,wy,G,q,r1,r2,g,h,hQ⟩;unfold zn at h;split at h
 ·cases r1;cases r2;exact A6 π s σ H _ _ v u Q I rx ry ⟨_,_,rfl,rfl,hQ _ H _ G (aP.refl H) (.bl _) g h⟩
 ·rename_i xs ys;obtain⟨f1,f2,hd,ho,h⟩:=h;have z:=sL I 151 X.A (w1:= .tup xs) (w2:= .tup ys) (by simp only[W.dep];lia) (by simpa[W.flat] using f1) (by simpa[W.flat] using f2) (by simpa[W.ord] using ho) (by have:=hr.un;(clear hd;lia)) r1 r2 rx ry;rw[W.lt] at z;exact z X.prog X.w X.xe _ ⟨.bl _,H,I,rfl,hQ _ H _ G (aP.refl H) (.bl _) g h⟩
 ·exact h.elim
end
section
variable {X:Cx}
end
section
variable {X:Cx} {π:List (Addr×Obj)} {σ:St} {H:Hp} {s:Shared}
theorem DV (I:aC X π σ H s) {n:Nat} {ws us:List W} {xs ys:List V} {its its2:List Value} (hd:W.deps ws<n) (g1:W.flats ws=true) (g2:W.flats us=true) (hu:A.in1.units+n<cLine) (r:aV X.K H ws xs) (r2:aV X.K H us ys) (rv:aX xs its) (rv2:aX ys its2):
 ∀j (h1:j<its.toArray.size) (h2:j<its2.toArray.size),SeqAt.EqAt A.in1 s its.toArray[j] its2.toArray[j] (jk ws us j):=λj j1 j2=>by
 have e1:its.length=ws.length:=by rw[←rv.length,r.length]
 have e2:its2.length=us.length:=by rw[←rv2.length,r2.length]
 rw[size_toArray] at j1 j2;have ea:ws[j]?=some ws[j]:=List.getElem?_eq_getElem (by (clear hd hu j2 e2;lia));have eb:us[j]?=some us[j]:=List.getElem?_eq_getElem (by lia);obtain⟨va,ea1,ra⟩:=r.get ea;obtain⟨vb,eb1,rb⟩:=r2.get eb;obtain⟨ua,ea2,qa⟩:=rv.get ea1;obtain⟨ub,eb2,qb⟩:=rv2.get eb1;have za:its.toArray[j]=ua:=by
  have:=(List.getElem?_eq_some_iff.mp ea2).2;simpa using this
 have zb:its2.toArray[j]=ub:=by
  have:=(List.getElem?_eq_some_iff.mp eb2).2;simpa using this
 rw[za,zb];have:=(ib I n A.in1 (w1:=ws[j]) (w2:=us[j]) (Nat.lt_of_le_of_lt (W.deps_get ea) hd) (W.flats_get g1 ea) (W.flats_get g2 eb) hu ra rb qa qb).1;unfold jk;rw[ea,eb];exact this
theorem lC {ws us:List W} (h:ws.length≠us.length):W.eqs ws us=false:=by
 cases e:W.eqs ws us with
 | false=>rfl
 | true=>exact absurd ((W.eqs_iff ws us).mp e).1 h
end
section
variable {X:Cx}
noncomputable def zo:W2:=λx y G q=>match x,y with
 | .ref a,.ref b=>∃xs ys,G a=some (.lst xs)/\G b=some (.lst ys)/\W.flats xs=true/\W.flats ys=true/\W.deps xs<=149/\q (.bl (W.eqs xs ys)) G
 | x,y=>sy x y G q
noncomputable def zq:W2:=λx y G q=>match x,y with
 | .ref a,.ref b=>∃xs ys,G a=some (.lst xs)/\G b=some (.lst ys)/\W.flats xs=true/\W.flats ys=true/\W.deps xs<=149/\q (.bl (!(W.eqs xs ys))) G
 | x,y=>sA x y G q
theorem BJ (hr:aw k X.A):iB X (compareOp .Eq) zo:=by
 rintro π s σ H x y v u Q I rx ry ⟨wx,wy,G,q,r1,r2,g,h,hQ⟩;unfold zo at h;split at h
 ·obtain⟨ws,us,ea,eb,f1,f2,hd,h⟩:=h;cases r1;cases r2;cases rx;cases ry;obtain⟨_,xs,e1,ra⟩:=g _ _ ea;obtain⟨_,ys,e2,rb⟩:=g _ _ eb;obtain⟨its,rv,p,_⟩:=I.list (cU.of e1);obtain⟨its2,rv2,p2,_⟩:=I.list (cU.of e2);have l1:its.length=ws.length:=by rw[←rv.length,ra.length]
  have l2:its2.length=us.length:=by rw[←rv2.length,rb.length]
  have hu:=hr.un;have fin:EP X π σ Q (.bool (W.eqs ws us)) s:=⟨.bl _,H,I,rfl,hQ _ H _ G (aP.refl H) (.bl _) g h⟩
  by_cases hl:ws.length=us.length
  ·have c1:=SeqAt.RcAt.lists p.isList p2.isList (by rw[size_toArray,size_toArray,l1,l2,hl]) (A:=X.A) (by (clear hd l1 l2 hl;lia)) (DV I (n:=150) (by (clear l1 l2 hu hl;lia)) f1 f2 (by show X.A.units+1+150<cLine;(clear hd l1 l2 hl;lia)) ra rb rv rv2);have er:=fC ws us;rw[←hl,Nat.min_self,beq_self_eq_true,Bool.and_true] at er;rw[size_toArray,l1,er] at c1;exact c1 X.prog X.w X.xe _ fin
  ·rw[lC hl] at fin;exact SeqAt.RcAt.lists_lengths p.isList p2.isList (by rw[size_toArray,size_toArray,l1,l2];simpa using hl) (A:=X.A) (by (clear hd l1 l2 hl;lia)) X.prog X.w X.xe _ fin
 ·exact ze hr π s σ H x y v u Q I rx ry ⟨wx,wy,G,q,r1,r2,g,h,hQ⟩
theorem BK (hr:aw k X.A):iB X (compareOp .NotEq) zq:=by
 rintro π s σ H x y v u Q I rx ry ⟨wx,wy,G,q,r1,r2,g,h,hQ⟩;unfold zq at h;split at h
 ·obtain⟨ws,us,ea,eb,f1,f2,hd,h⟩:=h;cases r1;cases r2;cases rx;cases ry;obtain⟨_,xs,e1,ra⟩:=g _ _ ea;obtain⟨_,ys,e2,rb⟩:=g _ _ eb;obtain⟨its,rv,p,_⟩:=I.list (cU.of e1);obtain⟨its2,rv2,p2,_⟩:=I.list (cU.of e2);have l1:its.length=ws.length:=by rw[←rv.length,ra.length]
  have l2:its2.length=us.length:=by rw[←rv2.length,rb.length]
  have hu:=hr.un;have fin:EP X π σ Q (.bool (!(W.eqs ws us))) s:=⟨.bl _,H,I,rfl,hQ _ H _ G (aP.refl H) (.bl _) g h⟩
  by_cases hl:ws.length=us.length
  ·have c1:=SeqAt.RcNeAt.lists p.isList p2.isList (by rw[size_toArray,size_toArray,l1,l2,hl]) (A:=X.A) (by (clear hd l1 l2 hl;lia)) (DV I (n:=150) (by (clear l1 l2 hu hl;lia)) f1 f2 (by show X.A.units+1+150<cLine;(clear hd l1 l2 hl;lia)) ra rb rv rv2);have er:=fC ws us;rw[←hl,Nat.min_self,beq_self_eq_true,Bool.and_true] at er;rw[size_toArray,l1,er] at c1;exact c1 X.prog X.w X.xe _ fin
  ·rw[lC hl] at fin;exact SeqAt.RcNeAt.lists_lengths p.isList p2.isList (by rw[size_toArray,size_toArray,l1,l2];simpa using hl) (A:=X.A) (by (clear hd l1 l2 hl;lia)) X.prog X.w X.xe _ fin
 ·exact zg hr π s σ H x y v u Q I rx ry ⟨wx,wy,G,q,r1,r2,g,h,hQ⟩
end
structure FL (lo hi c:Int):Prop where
 c0:0<c
 c1:c<1000
 l0: -(2^40)<=lo
 l1:lo<2^40
 h0: -(2^40)<=hi
 h1:hi<2^40
section
variable {X:Cx} {tg:Expr}
end
section
variable {X:Cx}
noncomputable def zt:List W->Gp->WK->Prop:=λws G q=>match ws with
 | [.int i,.int j]=>q (.int (if j<i then j else i)) G
 | _=>False
theorem BL (hc:X.calm=true):dM X (.builtin "min") zt:=by
 rintro π s σ H xs us Q I r ⟨ws,G,q,rw',g,h,hQ⟩;unfold zt at h;split at h
 ·obtain⟨v,u,rfl,r1,r2⟩:=rw'.two;cases r1;cases r2;exact qF hc π s σ H _ us Q I r ⟨_,_,rfl,hQ _ H _ G (aP.refl H) (.int _) g h⟩
 ·exact h.elim
theorem BM:bootBuiltins "min"=some (.builtin "min"):=by decide+kernel
noncomputable def BN (i j:Int):Prop:=i.natAbs<2^4000/\j.natAbs<2^4000
noncomputable def DW (j:Int):Prop:=0<j/\j.natAbs<2^4000
noncomputable def pK (i j:Int):Prop:=vt i j∨BN i j
theorem pK.ok {i j:Int} (h:pK i j):IntMulOk i j:=by
 rcases h with h | ⟨h1,h2⟩
 ·exact h.ok
 ·have b1:=PyProof.Rows.intBits_le h1;have b2:=PyProof.Rows.intBits_le h2;unfold IntMulOk Builtin.Int.intTooBig;have:¬(((Builtin.Int.intBits i+Builtin.Int.intBits j:Int)) > bitsLine):=by
   have hb:(8000:Int)<=bitsLine:=by decide
   (clear h1 h2;lia)
  simp[this]
noncomputable def sM (i j:Int):Prop:=A5 i j∨DW j
theorem sN:iS X (binaryOp .FloorDiv) (rI sM λi j=> .int (i/j)):=C0 λi j _ _ _ _ _ hc q=>by
 rcases hc with hc | ⟨h0,h1⟩
 ·have h1:(0:Int)<j:=hc.1;have h2:j<1073741824:=hc.2;exact floordiv_int (by lia) (by rw[Int.fdiv_eq_ediv_of_nonneg i (by lia)];exact q) (.inl (PyProof.noPylong_small (by lia)))
 ·refine floordiv_int (by (clear h1;lia)) (by rw[Int.fdiv_eq_ediv_of_nonneg i (by (clear h1;lia))];exact q) (.inl (PyProof.noPylong_of_log2 ?_));have hne:j.natAbs≠0:=by (clear h1;lia)
  exact lt_of_lt_of_le ((Nat.log2_lt hne).mpr h1) (by decide)
noncomputable abbrev BO:W2:=vInt sM λi j=> .int (i/j)
theorem bY:iB X (binaryOp .FloorDiv) BO:=oq sN
end
section
variable {X:Cx}
end
structure fY (K:PySem.W.Frag) (x qual:Str) (st:Stmt) (f:Addr) (fd:FuncData) (T:Addr) (ds:List Value):Prop where
 ex:∃(oc:Value) (od:Option Addr) (kV doc pm:Value) (an:Option Addr) (cdv ct:Value) (osl:Array (Option Value)) (ot:Obj) (nt:Nat),
  fd=fnOf x qual (au st) (ap st) (am st) (.ref T) kV doc pm an cdv ct/\K.lookup f=some ⟨oc,od,.func fd,osl⟩/\codeIn K cdv qual=true/\K.lookup T=some ot/\ot.data=.seq ds.toArray nt
 kp:keepIn K (.ref f)=true
section
variable {P:Program} {w:World} {K:PySem.W.Frag} {mg:Str->Option Value} {base:Heap} {x qual:Str} {st:Stmt} {f T:Addr} {fd:FuncData} {ds:List Value}
theorem lD {oc:Value} {od an:Option Addr} {osl:Array (Option Value)} {kV doc pm cdv ct:Value} {ot:Obj} {nt:Nat} (l:K.lookup f=some ⟨oc,od,.func (fnOf x qual (au st) (ap st) (am st) (.ref T) kV doc pm an cdv ct),osl⟩)
 (c:codeIn K cdv qual=true) (k:keepIn K (.ref f)=true) (t:K.lookup T=some ot) (h:ot.data=.seq ds.toArray nt):fY K x qual st f (fnOf x qual (au st) (ap st) (am st) (.ref T) kV doc pm an cdv ct) T ds:=
 ⟨⟨oc,od,kV,doc,pm,an,cdv,ct,osl,ot,nt,rfl,l,c,t,h⟩,k⟩
theorem fY.binds {es:List Value} (F:fY K x qual st f fd T ds)
 (h:∀(kV doc pm:Value) (an:Option Addr) (cdv ct:Value) (us:List Value),(us++es).length=ps.length->∃k,bindArgs (fnOf x qual (au st) (ap st) (am st) (.ref T) kV doc pm an cdv ct) ⟨us,[]⟩=seqItems? (.ref T) >>= k/\k (some ds.toArray)=pure (ps.zip (us++es))):bI K fd ps es:=by
 obtain⟨oc,od,kV,doc,pm,an,cdv,ct,osl,ot,nt,rfl,lk,hcd,ht,hd⟩:=F.ex;intro s us KX hl;obtain⟨k,h1,h2⟩:=h kV doc pm an cdv ct us hl;exact BindsTo.of_defaults (T:=T) rfl (KX _ _ ht) hd h1 h2
theorem BP {N ps:List Str} {sp:bP} (F:fY K x qual st f fd T ds) (S:bM N ps (am st)) (len:∀ws G q e,sp ws G q e->ws.length=ps.length)
 (hbody:∀(cdv:Value) (A:Around) (outer:List Env) (s:Shared) (H:Hp) (E:XK),aw k (A.deeper (envOfC qual (am st) s.heap.objs.size f cdv))->
   ∃t,mL (dm sg P w K mg base N qual (am st) f cdv A outer s H E).nox (ap st) t/\
    ∀(ws:List W) (G:Gp) (q:WK) (e:WX),sp ws G q e->t { nx:=λ_ G1=>∃G0,aF G0 G1/\q .non G0,rt:=λw G1=>∃G0,aF G0 G1/\q w G0 } (ia N ws) G):bW P w K mg base (k+1) f fd ps sp:=by
 obtain⟨oc,od,kV,doc,pm,an,cdv,ct,osl,ot,nt,rfl,lk,hcd,ht,hd⟩:=F.ex;refine pq lk hcd S (λvs H Q E ⟨ws,G,q,e,r,g,z,_⟩=>by rw[←r.length];exact len _ _ _ _ z) (λA outer s H vs Q E hr ⟨ws,G,q,e,r,g,z,hQ,_⟩=>?_);obtain⟨t,ht,hq⟩:=hbody cdv A outer s H E hr;have ht':mv (dm sg P w K mg base N qual (am st) f cdv A outer s H E).nox (ap st) (LS K t):=ht;exact⟨_,ht'.nox,_,G,_,bt.start r,g,hq ws G q e z,⟨λσ1 H1 τ1 G1 t1 s1 g1 ⟨G0,l,q1⟩=>hQ .non H1 .non G0 t1 .non (g1.le l) q1,λv H1 w G1 t1 r1 g1 ⟨G0,l,q1⟩=>hQ v H1 w G0 t1 r1 (g1.le l) q1,λ_ _ _ _ _ _ _ z=>z.elim,λ_ _ _ _ _ _ _ z=>z.elim⟩⟩
noncomputable def BQ (P:Program) (w:World) (K:PySem.W.Frag) (mg:Str->Option Value) (base:Heap) (x:Str) (ps:List Str) (k:Nat) (sp:bP) (dws:List W):Prop:=
 ∃(f:Addr) (fd:FuncData) (ds:List Value) (dvs:List V),bW P w K mg base k f fd ps sp/\mg x=some (.ref f)/\keepIn K (.ref f)=true/\bI K fd ps ds/\aX dvs ds/\∀H,aV K H dws dvs
noncomputable def vS (K:PySem.W.Frag) (mg:Str->Option Value) (x:Str) (st:Stmt) (ps:List Str) (dws:List W):Prop:=
 ∃(f:Addr) (fd:FuncData) (T:Addr) (ds:List Value) (dvs:List V),fY K x x st f fd T ds/\bI K fd ps []/\bI K fd ps ds/\mg x=some (.ref f)/\aX dvs ds/\∀H,aV K H dws dvs
theorem vS.fx {sp:bP} {dws:List W} (D:vS K mg x st ps dws) (h:∀(f:Addr) (fd:FuncData) (T:Addr) (ds:List Value),fY K x x st f fd T ds->bW P w K mg base k f fd ps sp):Fx P w K mg base x ps k sp:=by
 obtain⟨f,fd,T,ds,dvs,F,b,b',m,_,_⟩:=D;exact⟨f,fd,h f fd T ds F,m,F.kp,b⟩
theorem vS.fxd {sp:bP} {dws:List W} (D:vS K mg x st ps dws) (h:∀(f:Addr) (fd:FuncData) (T:Addr) (ds:List Value),fY K x x st f fd T ds->bW P w K mg base k f fd ps sp):BQ P w K mg base x ps k sp dws:=by
 obtain⟨f,fd,T,ds,dvs,F,b,b',m,v,r⟩:=D;exact⟨f,fd,ds,dvs,h f fd T ds F,m,F.kp,b',v,r⟩
end
section
variable {X:Cx}
theorem ax {sp:bP} {p pos:Pos} {t:WA} (F:Fx X.prog X.w X.K X.mg X.base x ps k sp) (hr:aw k X.A) (hg:Gl X x) (ha:QA X (e::es) t) (_hn:(e::es).length=ps.length:=by rfl) (hdb:(x==("__debug__":Str))=false:=by decide)
 (he:starEach (e::es) X.env=(false,eval e X.env)::starEach es X.env:=by rfl) (hpl:(backTo pos (starEach es X.env)).any (·.1)=false:=by rfl):QE X (.Call (.Name x p) (e::es) [] pos) (gz sp [] t):=BH F hr hg ha hdb he hpl
theorem oz {sp:bP} {dws:List W} {p pos:Pos} {t:WA} (F:BQ X.prog X.w X.K X.mg X.base x ps k sp dws) (hr:aw k X.A) (hg:Gl X x) (ha:QA X (e::es) t) (_hn:(e::es).length+dws.length=ps.length:=by rfl) (hdb:(x==("__debug__":Str))=false:=by decide)
 (he:starEach (e::es) X.env=(false,eval e X.env)::starEach es X.env:=by rfl) (hpl:(backTo pos (starEach es X.env)).any (·.1)=false:=by rfl):QE X (.Call (.Name x p) (e::es) [] pos) (gz sp dws t):=by
 obtain⟨f,fd,ds,dvs,h1,h2,h3,h4,h5,h6⟩:=F;exact(ph h1 hr hg h2 h3 h4 h5 ky ha hdb he hpl).imp λ_ _ _ h=>h.call h6
noncomputable def sO:WS:=λ_ _ _=>False
theorem sP:QS X st sO:=λ_ _ _ _ _ _ ⟨_,_,_,_,_,z,_⟩=>z.elim
end
variable {X:Cx}
noncomputable def sQ:List W->Gp->WK->Prop:=λws G q=>match ws with
 | [.int i,.int j]=>q (.int (if j > i then j else i)) G
 | [.int i,.int j,.int k]=>q (.int (if j > i then (if k > j then k else j) else if k > i then k else i)) G
 | [.ref a]=>∃ns:List Int,G a=some (.lst (ns.map W.int))/\ns≠[]/\∀m:Int,m∈ns->(∀x,x∈ns->x<=m)->q (.int m) G
 | _=>False
theorem oA (hc:X.calm=true):dM X (.builtin "max") sQ:=by
 rintro π s σ H xs us Q I r ⟨ws,G,q,rw',g,h,hQ⟩;unfold sQ at h;split at h
 ·obtain⟨v,u,rfl,r1,r2⟩:=rw'.two;cases r1;cases r2;exact qE hc π s σ H _ us Q I r ⟨_,_,rfl,hQ _ H _ G (aP.refl H) (.int _) g h⟩
 ·rename_i i j k;cases rw' with
  | cons r1 rw'=>
    cases rw' with
    | cons r2 rw'=>
      cases rw' with
      | cons r3 rw'=>
        cases rw';cases r1;cases r2;cases r3;cases r with
        | cons a1 r=>
          cases r with
          | cons a2 r=>
            cases r with
            | cons a3 r=>
              cases r;obtain⟨t1,rfl⟩:=a1;obtain⟨t2,rfl⟩:=a2;obtain⟨t3,rfl⟩:=a3;refine max_three_ints (I.ok.hd hc) λh' tk k'=>⟨.int (if j > i then (if k > j then k else j) else if k > i then k else i),H,I.kept k',?_,hQ _ H _ G (aP.refl H) (.int _) g h⟩
              by_cases h1:j > i
              ·by_cases h2:k > j
               ·rw[if_pos h1,if_pos h2,if_pos h1,if_pos h2];exact⟨_,rfl⟩
               ·rw[if_pos h1,if_neg h2,if_pos h1,if_neg h2];exact⟨_,rfl⟩
              ·by_cases h2:k > i
               ·rw[if_neg h1,if_pos h2,if_neg h1,if_pos h2];exact⟨_,rfl⟩
               ·rw[if_neg h1,if_neg h2,if_neg h1,if_neg h2];exact⟨_,rfl⟩
 ·rename_i a;obtain⟨ns,e,hne,h⟩:=h;obtain⟨v,rfl,r1⟩:=rw'.one;cases r1;obtain⟨_,zs,e1,rr⟩:=g a _ e;obtain rfl:=rr.ints_of;obtain⟨u,rfl,ru⟩:=eU r;cases (show u=Value.ref a from ru);obtain⟨its,rv,p,hz⟩:=I.list (cU.of e1);have hi:IntsAre its ns:=L2.intsAre_of rv;obtain⟨ys,ey⟩:=hi.allInts.items;have hn:(ys.toList.map (·.1))=ns:=by rw[←nums_intItems,←ey,←hi.numsOf]
  have hl:s.heap.IsList a (intItems ys):=by rw[←ey];exact p.isList
  have hsz:ys.size=ns.length:=by rw[←hn];simp
  have hpos:0<ys.size:=by
   rw[hsz];exact List.length_pos_iff.mpr hne
  refine max_intList (I.ok.hd hc) hl hpos λv h' tk hv hk=>?_;have ab:=argBest_gt (numAt ys) (ys.size-1);generalize argBest (λi j=>decide (numAt ys i > numAt ys j)) (ys.size-1)=ix at hv ab;have hix:ix<ys.size:=by (clear hz hv;lia)
  have hna:∀j (hj:j<ys.size),numAt ys j=ns[j]'(by (clear hz hpos hv ab hix;lia)):=λj hj=>by
   unfold numAt;rw[Array.getElem?_eq_getElem hj];simp[←hn]
  have hv2:v=Value.int (ys[ix].1) (ys[ix].2):=by
   unfold intItems at hv;rw[Array.getElem?_map,Array.getElem?_eq_getElem hix] at hv;simpa using hv.symm
  have hm:ys[ix].1=ns[ix]'(by (clear hz hpos hv ab hv2;lia)):=by
   have:=hna ix hix;unfold numAt at this;rw[Array.getElem?_eq_getElem hix] at this;simpa using this
  rw[hm] at hv2;subst hv2;refine⟨.int _,H,I.kept hk,⟨_,rfl⟩,hQ _ H _ G (aP.refl H) (.int _) g (h _ (getElem_mem _) λx hx=>?_)⟩;obtain⟨j,hj,rfl⟩:=List.mem_iff_getElem.mp hx;have:=ab.2 j (by (clear hz ab hm hv;lia));rw[hna j (by (clear hz hpos ab hm hv this;lia)),hna ix hix] at this;exact this
 ·exact h.elim
end L2
namespace L2
open PySem PySem.Spec PyProof.Rows
theorem XC.of {C:Addr} (q:excIn K C bmV "ValueError.__new__"=true):∃bm,XC K C bm:=by
 unfold excIn at q;cases lk:List.lookup C K with
 | none=>rw[lk] at q;exact cH q
 | some o=>
   rw[lk] at q;obtain⟨cls,d1,data,⟨ls⟩⟩:=o;cases cls with
   | type s=>
     by_cases hs:s="type"
     ·subst hs;cases data with
      | cls cl=>
        obtain⟨nm,bs,mro,ns,qn,hd,sn,sb,ab,co,del⟩:=cl;rcases mro with _ | ⟨v,tl⟩
        ·exact cH q
        cases v with
        | ref C2=>
          rcases ls with _ | ⟨j0,_ | ⟨j1,_ | ⟨j2,_ | ⟨j3,_ | ⟨(_ | j4),r⟩⟩⟩⟩⟩
          any_goals first | exact cH q | skip
          cases j4 with
          | builtin id=>
            rcases r with _ | ⟨j5,_ | _⟩
            any_goals first | exact cH q | skip
            replace q:(C2==C&&id=="ValueError.__new__"&&!del&&W.tailIn K bmV tl&&W.nsOkIn K ns&&W.nsIn K ns (Str.ofString "__init__")==some none)=true:=q
            simp only[beq_iff_eq,Bool.not_eq_true',Bool.and_eq_true] at q;obtain⟨⟨⟨⟨⟨e1,e2⟩,e3⟩,e4⟩,e5⟩,e6⟩:=q;subst e1 e2;subst e3;refine⟨tl,λh X=>⟨ns,nm,qn,bs,hd,sn,sb,ab,co,d1,j0,j1,j2,j3,j5,_,X _ _ lk,.of_isNs (PySem.W.isNs_of_in X e5),PySem.W.nsMap_none_of_in X e5 e6,PySem.W.tail_of_in X e4⟩,λv=>?_⟩;unfold mroIn clsIn;rw[lk]
            rfl
          | _=>exact cH q
        | _=>exact cH q
      | _=>exact cH q
     ·delta PySem.W.excIn.match_6 at q
      change (dite (s="type") _ _:Bool)=true at q;rw[dif_neg hs] at q;exact cH q
   | _=>exact cH q
theorem XC.has {C:Addr} (x:XC K C bm) {h:Heap} (X:K.In h) {t:String} {b:Bool} (hb:bmV.contains (.type t)=b):(Value.ref C::bm).contains (.type t)=b:=by
 obtain⟨_,_,_,_,_,_,_,_,_,_,_,_,_,_,_,_,_,_,_,T⟩:=x.obj h X;rw[List.contains_cons,T.hasType hb]
 rfl
section
variable {M:Model} {A:Around} {E:Value->Shared->Prop} {K:PySem.W.Frag} {C D a:Addr} {bm bmD:List Value} {oe:Obj}
theorem qR {Q:Bool->Shared->Prop} {b:Bool} (X:K.In s.heap) (hC:XC K C bm) (hD:XC K D bmD) (he:s.heap.get? a=some oe) (hcls:oe.cls=.ref C) (hs:mroIn K C (.ref D)=some b) (hq:Q b s):
 wpAny M A (excMatches (.ref a) (.ref D)) Q E s:=by
 obtain⟨h,g,d,t,os⟩:=s;have hb:=hD.has X (t:="BaseException") (b:=true) rfl;have hcd:(Value.ref C::bm).contains (.ref D)=b:=by
  have:=(hC.mro (.ref D)).symm.trans hs;exact Option.some.inj this
 obtain⟨N1,n1,q1,b1,d1,s1,u1,a1,c1,f1,g0,g1,g2,g3,g5,m1,gC,_,_,_⟩:=hC.obj h X;obtain⟨N2,n2,q2,b2,d2,s2,u2,a2,c2,f2,l0,l1,l2,l3,l5,m2,gD,_,_,_⟩:=hD.obj h X;have nt:=tc_notTuple;unfold excMatches
 repeat (first | (with_reducible refine wpAny_loadPart_at he ?_;rw[hcls]) | with_reducible refine wpAny_loadPart_at gD ?_ | (with_reducible refine wpAny_isSubtype_exc gD ?_;rw[hb]) | (with_reducible refine wpAny_isSubtype_exc gC ?_;rw[hcd]) | wp_step)
 cases b with
 | true=>wp_walk;exact hq
 | false=>wp_walk;exact hq
end
theorem fJ.none_of {H:Hp} {h:Heap} (x:fJ P w H h) (e:h.get? a=none):H a=none:=by
 cases q:H a with
 | none=>rfl
 | some o=>
   have y:=x a o q;cases o with
   | lst xs=>obtain⟨_,_,_,_,z⟩:=y;rw[e] at z;cases z
   | tup xs=>obtain⟨_,_,_,p,z,_⟩:=y;rw[e] at z;cases z
   | dK kvs=>obtain⟨_,_,_,_,o,_,_,z,_⟩:=y;rw[e] at z;cases z
   | dT kvs=>obtain⟨_,_,_,_,o,_,_,z,_⟩:=y;rw[e] at z;cases z
   | set S n=>obtain⟨o,_,_,_,z,_⟩:=y;rw[e] at z;cases z
   | ins C dx fs=>obtain⟨_,_,_,z,_⟩:=y;rw[e] at z;cases z
   | own y2=>obtain⟨_,z⟩:=y;rw[e] at z;cases z
   | xd fs=>obtain⟨_,⟨_,_,_,z,_⟩,_⟩:=y;rw[e] at z;cases z
   | rng lo hi=>obtain⟨_,_,_,z⟩:=y;rw[e] at z;cases z
   | frz ob u=>obtain⟨z,_⟩:=y;rw[e] at z;cases z
   | tbl ps=>have z:h.get? a=some _:=y;rw[e] at z;cases z
   | met f y2=>have z:h.get? a=some _:=y;rw[e] at z;cases z
   | ext φ=>obtain⟨_,⟨_,z⟩,_⟩:=y;rw[e] at z;cases z
theorem fg {h B:Heap} {m:List Addr}:∀{l:List Env},h.FunFrames B l->(∀b∈eu l,b∈m)->h.FunFrames (hideAll h m) l
 | [],_,_=>trivial
 | env::r,⟨e0,⟨L,o,e1,_,e3,e4⟩,e5⟩,hm=>
   have hl:eu (env::r)=L::eu r:=by unfold eu;rw[filterMap_cons,e1]
   ⟨e0,⟨L,o,e1,hideAll_none m (hm L (by rw[hl];exact .head _)),e3,e4⟩,fg e5 λb hb=>hm b (by rw[hl];exact .tail _ hb)⟩
structure Fl (P:Program) (w:World) (fs:List Addr) (H H':Hp) (h0 h:Heap) (a T:Addr) (c fl:Value):Prop where
 un:Un fs [] H H' h0 h
 hok:fJ P w H' h
 na:h0.get? a=none
 nT:h0.get? T=none
 ha:H' a=none
 hT:H' T=none
 tr:∃oe vs oT ts a0,h.get? a=some oe/\(oe.cls=c/\vs[0]?=some a0)/\oe.data=.fields vs/\vs[1]?=some (.ref T)/\T≠a/\h.get? T=some oT/\oT.data=.fields ts/\ts[3]?=some fl
section
variable {P:Program} {w:World} {fs:List Addr} {H H':Hp} {h0 h h':Heap} {a T:Addr} {c fl fl':Value}
theorem Fl.traced (F:Fl P w fs H H' h0 h a T c fl):∃a0,h.TracedAtW (hideAll h (a::T::fs)) a c a0 fl:=by
 obtain⟨oe,vs,oT,ts,a0,e1,e2,e3,e4,e5,e6,e7,e8⟩:=F.tr;exact⟨a0,oe,vs,T,oT,ts,e1,e2,e3,e4,hideAll_none _ (.tail _ (.head _)),e5,e6,e7,e8⟩
theorem Fl.move {a0:Value} (F:Fl P w fs H H' h0 h a T c fl) (hfs:∀b∈fs,H' b=none/\∃o,h.get? b=some o/\∀vs,o.data≠ .fields vs)
 (k1:(hideAll h (a::T::fs)).StaysIn h') (k3:h'.TracedAtW (hideAll h (a::T::fs)) a c a0 fl') (k4:h.UpToSlots h'):∃T',Fl P w fs H H' h0 h' a T' c fl':=by
 have keep:∀b o,b≠a->b≠T->b∉fs->h.get? b=some o->h'.get? b=some o:=λb o n1 n2 n3 e=>k1 b o (hideAll_get _ e (by simp[n1,n2,n3]));have slot:∀b o,b∈fs->h.get? b=some o->∃sl,h'.get? b=some { o with slots:=sl }:=λb o hb e=>by
  obtain⟨_,o2,e2,d2⟩:=hfs b hb;rw[e] at e2;cases e2;exact k4 b o e d2
 obtain⟨oe,vs,T',oT,ts,q1,q2,q3,q4,q5,q6,q7,q8,q9⟩:=k3;have hT':T'=T∨h.get? T'=none:=by
  by_cases z:T'=T
  ·exact .inl z
  ·refine .inr ?_;cases e:h.get? T' with
   | none=>rfl
   | some o=>
     by_cases zf:T'∈fs
     ·obtain⟨_,o2,e2,d2⟩:=hfs T' zf;obtain⟨sl,e3⟩:=k4 T' o2 e2 d2;rw[q7] at e3;cases e3;exact absurd q8 (d2 ts)
     ·rw[hideAll_get _ e (by simp[z,zf,q6])] at q5;cases q5
 have back:∀b,h.get? b=none->h0.get? b=none:=λb e=>by
  cases q:h0.get? b with
  | none=>rfl
  | some o=>
    obtain⟨o',e'⟩:=F.un.there b o q (by simp);rw[e] at e';cases e'
 refine⟨T',⟨⟨λb o q n hb hx=>?_,λb o q n hb hx=>?_,F.un.free,λb o q hx=>?_,F.un.tups,F.un.frzs,F.un.tbls⟩,λb u e=>?_,F.na,?_,F.ha,?_,⟨oe,vs,oT,ts,a0,q1,q2,q3,q4,q6,q7,q8,q9⟩⟩⟩
 ·exact keep b o (λz=>by rw[z,F.na] at q;cases q) (λz=>by rw[z,F.nT] at q;cases q) hb (F.un.keep b o q n hb hx)
 ·obtain⟨sl,e1⟩:=F.un.slot b o q n hb hx;obtain⟨sl2,e2⟩:=slot b _ hb e1;exact⟨sl2,e2⟩
 ·obtain⟨o1,e1⟩:=F.un.there b o q hx
  by_cases hb:b∈fs
  ·obtain⟨sl,e2⟩:=slot b o1 hb e1;exact⟨_,e2⟩
  ·exact⟨o1,keep b o1 (λz=>by rw[z,F.na] at q;cases q) (λz=>by rw[z,F.nT] at q;cases q) hb e1⟩
 ·have nn:∀x v,H' x=some v->x≠a/\x≠T/\x∉fs:=λx v e=>⟨λz=>(by rw[z,F.ha] at e;cases e),λz=>(by rw[z,F.hT] at e;cases e),λz=>(by rw[(hfs x z).1] at e;cases e)⟩;refine(F.hok b u e).stay (λx v hc q=>?_) (λ_ q=>q) λ_ _ q=>q;rcases hc with hc | hc
  ·obtain⟨z1,z2,z3⟩:=nn b u e;rw[hc] at q ⊢;exact keep b v z1 z2 z3 q
  ·obtain⟨z1,z2,z3⟩:=nn x _ hc;exact keep x v z1 z2 z3 q
 ·rcases hT' with z | z
  ·rw[z];exact F.nT
  ·exact back T' z
 ·rcases hT' with z | z
  ·rw[z];exact F.hT
  ·exact F.hok.none_of z
end
noncomputable def oB (P:Program) (w:World):n8:=λouter H s E e s'=>∃a T C H',e=.ref a/\s'.os=s.os/\AllBare s'.gens/\Fl P w (eu outer) H H' s.heap s'.heap a T (.ref C) .none/\E (.ref C) none H'
noncomputable abbrev sR (P:Program) (w:World) (K:PySem.W.Frag) (mg:Str->Option Value) (base:Heap) (k:Nat) (f:Addr) (fd:FuncData) (ps:List Str) (sp:bP):Prop:=dG P w K mg base (oB P w) k f fd ps (u9 K sp)
section
variable {P:Program} {w:World} {K:PySem.W.Frag} {mg:Str->Option Value} {base:Heap} {N:List Str} {qual:Str} {scope:Scope} {f:Addr} {cdv:Value} {A:Around} {outer:List Env} {s:Shared} {H:Hp} {E:XK}
theorem zv {σ:St} {H2:Hp} {s2:Shared} {h':Heap} {e C:Addr} {vs:List Value} (I:aC (dm (oB P w) P w K mg base N qual scope f cdv A outer s H E) π σ H2 s2)
 (mx:Heap.MadeExcOf s2.heap h' e (.ref C) vs) (hE:E (.ref C) none H2):(dm (oB P w) P w K mg base N qual scope f cdv A outer s H E).xe (.ref e) { s2 with heap:=h' }:=by
 have ST:=I.stack;have SF:=I.stkFree;refine wpAny_leaves_madeW (base:=hideAll s2.heap (eu (envOfC qual scope s.heap.objs.size f cdv::outer))) (h:=s2.heap) (L:=s.heap.objs.size) I.ok.frames rfl (λb o q=>of_hideAll _ q) (fg ST λ_ z=>z) mx λh3 t fly _ _ ups=>?_;obtain⟨k1,_,_,k3⟩:=fly;obtain⟨oe,ws,T,oT,ts,q1,q2,q3,q4,q5,q6,q7,q8,q9⟩:=k3;have keep:∀b o,b∉eu (envOfC qual scope s.heap.objs.size f cdv::outer)->s2.heap.get? b=some o->h3.get? b=some o:=λb o hb q=>k1 b o (hideAll_get _ q hb);have slot:∀b o,b∈eu (envOfC qual scope s.heap.objs.size f cdv::outer)->s2.heap.get? b=some o->(∃sl,h3.get? b=some { o with slots:=sl })/\∀vs,o.data≠ .fields vs:=λb o hb q=>by
  obtain⟨_,o2,e2,d2⟩:=ST.mem hb;rw[q] at e2;cases e2;exact⟨ups b o (mx.keeps b o q) d2,d2⟩
 have nL:∀b o,s.heap.get? b=some o->b∉eu outer->b∉eu (envOfC qual scope s.heap.objs.size f cdv::outer):=λb o q hb z=>by
  rcases mem_cons.mp (show b∈s.heap.objs.size::eu outer from z) with z | z
  ·exact absurd (Heap.lt_size q) (by rw[z];exact lt_irrefl _)
  ·exact hb z
 have back:∀b,s2.heap.get? b=none->s.heap.get? b=none:=λb q=>by
  cases z:s.heap.get? b with
  | none=>rfl
  | some o=>
    obtain⟨o',e'⟩:=I.base.there b o z (by intro y;cases y);rw[q] at e';cases e'
 have nT:s2.heap.get? T=none:=by
  cases z:s2.heap.get? T with
  | none=>rfl
  | some o=>
    by_cases zf:T∈eu (envOfC qual scope s.heap.objs.size f cdv::outer)
    ·obtain⟨⟨sl,e3⟩,d2⟩:=slot T o zf z;rw[q7] at e3;cases e3;exact absurd q8 (d2 ts)
    ·rw[hideAll_get _ z zf] at q5;cases q5
 refine⟨e,T,C,H2,rfl,I.os,I.bare,⟨⟨λb o q n hb hx=>?_,λb o q n hb hx=>?_,λb o q n hx=>I.base.free b o q n (by intro y;cases y),λb o q hx=>?_,I.base.tups,I.base.frzs,I.base.tbls⟩,λb u q=>?_,back e mx.new,back T nT,I.hok.none_of mx.new,I.hok.none_of nT,
  ⟨oe,ws,oT,ts,_,q1,q2,q3,q4,q6,q7,q8,q9⟩⟩,hE⟩
 ·exact keep b o (nL b o q hb) (I.base.keep b o q n hb (by intro y;cases y))
 ·obtain⟨sl,e1⟩:=I.base.slot b o q n hb (by intro y;cases y);obtain⟨⟨sl2,e2⟩,_⟩:=slot b _ (mem_cons_of_mem _ hb) e1;exact⟨sl2,e2⟩
 ·obtain⟨o1,e1⟩:=I.base.there b o q (by intro y;cases y)
  by_cases hb:b∈eu (envOfC qual scope s.heap.objs.size f cdv::outer)
  ·obtain⟨⟨sl,e2⟩,_⟩:=slot b o1 hb e1;exact⟨_,e2⟩
  ·exact⟨o1,keep b o1 hb e1⟩
 ·have nn:∀x v,H2 x=some v->x∉eu (envOfC qual scope s.heap.objs.size f cdv::outer):=λx v q z=>by rw[SF x z] at q;cases q
  refine(I.hok b u q).stay (λx v hc q2=>?_) (λ_ q=>q) λ_ _ q=>q;rcases hc with hc | hc
  ·rw[hc] at q2 ⊢;exact keep b v (nn b u q) q2
  ·exact keep x v (nn x _ hc) q2
noncomputable def sS (C:Addr) (e:WX):WS:=λ_ _ G=>e (.ref C) G
theorem sT {x msg:Str} {C:Addr} {e:WX} {np cpos pos p1:Pos} {j} (hm:mg x=some (.ref C)) (hC:XC K C bm) (hE:∀H1 G1,aP H H1->aM K H1 G1->e (.ref C) G1->E (.ref C) none H1)
 (hg:Gl (dm (oB P w) P w K mg base N qual scope f cdv A outer s H E) x) (hd:(x==("__debug__":Str))=false:=by decide):
 QS (dm (oB P w) P w K mg base N qual scope f cdv A outer s H E) (.Raise (some (.Call (.Name x np) [.Constant (.str msg) j p1] [] cpos)) none pos) (sS C e):=by
 rintro π s2 σ H2 D I ⟨τ,G,d,hs,hgG,ht,l⟩;obtain⟨N1,n1,q1,b1,d1,s1,u1,a1,c1,f1,g0,g1,g2,g3,g5,m1,gC,gN,gi,gT⟩:=hC.obj _ I.ok.mod.kin;refine wpAny_Raise_call_subT (C:=C) (nm:=n1) (q:=q1) (N:=N1) (bs:=b1) (bm:=bm) (hdct:=d1) (sn:=s1) (sub:=u1) (ab:=a1) (col:=c1) (dd:=f1) (k0:=g0) (k1:=g1) (k2:=g2) (k3:=g3) (k5:=g5) PySem.F.excBase_ValueError (mN:=m1) (gT.hasType rfl) (I.ok.hd rfl) rfl gi
  (fw I hg hm ⟨rfl,?_⟩ hd)
 have ha:=(cL (X:=dm (oB P w) P w K mg base N qual scope f cdv A outer s H E) (rH (x:=msg) (j:=j) (pos:=p1)) pa_nil) cpos π s2 σ H2 (λvs H'=>vs.length=1/\H'=H2) I ⟨rfl,rfl⟩;refine Calls.evalArgs_plain (wpAny_mono ha (λus s3 h3=>?_) λ_ _ y=>y);obtain⟨vs,H3,I3,rv,hl,rfl⟩:=h3;refine⟨rfl,?_,I3.bk _ _ gC,gN.keeps I3.bk,gT.keeps I3.bk,λh' a mx=>zv I3 mx (hE _ G ⟨I3.base.tups,λb o u q=>I3.base.frzs b o _ q⟩ hgG ht)⟩;show us.length<=sizeLine;rw[←rv.length,hl];decide
end
theorem DX {x qual:Str} {f:Addr} {N ps:List Str} {sp:bP} (F:cq K x qual st f fd) (S:bM N ps (am st)) (len:∀ws G q e,sp ws G q e->ws.length=ps.length)
 (hbody:∀(cdv:Value) (A:Around) (outer:List Env) (s:Shared) (H:Hp) (E:XK) (ws:List W) (G:Gp) (q:WK) (e:WX),aw k (A.deeper (envOfC qual (am st) s.heap.objs.size f cdv))->sp ws G q e->(∀c H1 G1,aP H H1->aM K H1 G1->e c G1->E c none H1)->
   ∃t,mL (dm (oB P w) P w K mg base N qual (am st) f cdv A outer s H E) (ap st) t/\t { nx:=λ_ G1=>∃G0,aF G0 G1/\q .non G0,rt:=λw G1=>∃G0,aF G0 G1/\q w G0 } (ia N ws) G):sR P w K mg base (k+1) f fd ps sp:=by
 obtain⟨oc,od,kV,doc,pm,an,cdv,ct,osl,rfl,lk,hcd⟩:=F.ex;refine pq lk hcd S (λvs H Q E ⟨ws,G,q,e,r,g,z,_⟩=>by rw[←r.length];exact len _ _ _ _ z) (λA outer s H vs Q E hr ⟨ws,G,q,e,r,g,z,hQ,hX⟩=>?_);obtain⟨t,ht,hq⟩:=hbody cdv A outer s H E ws G q e hr z λc H1 G1 t1 g1 z1=>hX c none H1 G1 t1 g1 z1;exact⟨_,ht,_,G,_,bt.start r,g,hq,⟨λσ1 H1 τ1 G1 t1 s1 g1 ⟨G0,l,q1⟩=>hQ .non H1 .non G0 t1 .non (g1.le l) q1,λv H1 w G1 t1 r1 g1 ⟨G0,l,q1⟩=>hQ v H1 w G0 t1 r1 (g1.le l) q1,λ_ _ _ _ _ _ _ z=>z.elim,λ_ _ _ _ _ _ _ z=>z.elim⟩⟩
theorem BR {x qual:Str} {f T:Addr} {ds:List Value} {N ps:List Str} {sp:bP} (F:fY K x qual st f fd T ds) (S:bM N ps (am st)) (len:∀ws G q e,sp ws G q e->ws.length=ps.length)
 (hbody:∀(cdv:Value) (A:Around) (outer:List Env) (s:Shared) (H:Hp) (E:XK) (ws:List W) (G:Gp) (q:WK) (e:WX),aw k (A.deeper (envOfC qual (am st) s.heap.objs.size f cdv))->sp ws G q e->(∀c H1 G1,aP H H1->aM K H1 G1->e c G1->E c none H1)->
   ∃t,mL (dm (oB P w) P w K mg base N qual (am st) f cdv A outer s H E) (ap st) t/\t { nx:=λ_ G1=>∃G0,aF G0 G1/\q .non G0,rt:=λw G1=>∃G0,aF G0 G1/\q w G0 } (ia N ws) G):sR P w K mg base (k+1) f fd ps sp:=by
 obtain⟨oc,od,kV,doc,pm,an,cdv,ct,osl,ot,nt,rfl,lk,hcd,ht,hd⟩:=F.ex;refine pq lk hcd S (λvs H Q E ⟨ws,G,q,e,r,g,z,_⟩=>by rw[←r.length];exact len _ _ _ _ z) (λA outer s H vs Q E hr ⟨ws,G,q,e,r,g,z,hQ,hX⟩=>?_);obtain⟨t,ht,hq⟩:=hbody cdv A outer s H E ws G q e hr z λc H1 G1 t1 g1 z1=>hX c none H1 G1 t1 g1 z1;exact⟨_,ht,_,G,_,bt.start r,g,hq,⟨λσ1 H1 τ1 G1 t1 s1 g1 ⟨G0,l,q1⟩=>hQ .non H1 .non G0 t1 .non (g1.le l) q1,λv H1 w G1 t1 r1 g1 ⟨G0,l,q1⟩=>hQ v H1 w G0 t1 r1 (g1.le l) q1,λ_ _ _ _ _ _ _ z=>z.elim,λ_ _ _ _ _ _ _ z=>z.elim⟩⟩
noncomputable def Rx (P:Program) (w:World) (K:PySem.W.Frag) (mg:Str->Option Value) (base:Heap) (x:Str) (ps:List Str) (k:Nat) (sp:bP) (dws:List W):Prop:=
 ∃(f:Addr) (fd:FuncData) (ds:List Value) (dvs:List V),sR P w K mg base k f fd ps sp/\mg x=some (.ref f)/\keepIn K (.ref f)=true/\bI K fd ps ds/\aX dvs ds/\∀H,aV K H dws dvs
noncomputable abbrev Cx.xmk (X:Cx) (a:Addr) (oe:Obj):Cx:={ X with A:=X.A.mark (some (.ref a)),calm:=false,xe:=λ_ _=>False,pn:=(a,oe)::X.pn }
section
variable {X:Cx} {π:List (Addr×Obj)} {σ:St} {H:Hp} {s:Shared} {a:Addr} {oe:Obj}
theorem aC.xmk (I:aC X π σ H s) (e:s.heap.get? a=some oe) (n:H a=none) (hl:a≠X.env.locals) (hf:a∉X.fs) (hd:∀v,oe.data≠ .cell v):aC (X.xmk a oe) π σ H s:=
 ⟨⟨I.ok.mod,I.ok.kind,I.ok.glob,I.ok.blt,I.ok.above,I.ok.inj,I.ok.has,I.ok.cab,λz=>(Bool.false_ne_true z).elim,I.ok.frames,I.ok.stk,I.ok.exf,I.ok.bs,I.ok.bsz,I.ok.noex,I.ok.exfs,I.ok.funs,I.ok.frf⟩,I.os,I.bare,I.base,I.loc,I.cell,I.free,I.freeC,
   λp hp=>by
    rcases mem_cons.mp (show p∈(a,oe)::(X.pn++π) from hp) with z | z
    ·rw[z];exact⟨e,n,hl,hf,hd⟩
    ·exact I.pin p z,I.hok,I.len⟩
theorem aC.unx (I:aC (X.xmk a oe) π σ H s) (hh:X.calm=true->X.A.handled=none):aC X π σ H s:=
 ⟨⟨I.ok.mod,I.ok.kind,I.ok.glob,I.ok.blt,I.ok.above,I.ok.inj,I.ok.has,I.ok.cab,hh,I.ok.frames,I.ok.stk,I.ok.exf,I.ok.bs,I.ok.bsz,I.ok.noex,I.ok.exfs,I.ok.funs,I.ok.frf⟩,I.os,I.bare,I.base,I.loc,I.cell,I.free,I.freeC,
   λp hp=>I.pin p (mem_cons_of_mem _ hp),I.hok,I.len⟩
theorem SP.unx {D:fK} {f:Flow} {s':Shared} (h:SP (X.xmk a oe) π D f s') (hh:X.calm=true->X.A.handled=none):SP X π D f s':=by
 cases f with
 | next=>obtain⟨σ',H',I,q⟩:=h;exact⟨σ',H',I.unx hh,q⟩
 | brk=>obtain⟨σ',H',I,q⟩:=h;exact⟨σ',H',I.unx hh,q⟩
 | cont=>obtain⟨σ',H',I,q⟩:=h;exact⟨σ',H',I.unx hh,q⟩
 | ret u=>obtain⟨v,σ',H',I,r,q⟩:=h;exact⟨v,σ',H',I.unx hh,r,q⟩
end
noncomputable def QH (X:Cx) (C:Addr) (hs:List ExceptHandler) (th:WS):Prop:=
 ∀(π:List (Addr×Obj)) (s0:Shared) (σ:St) (H0:Hp) (s:Shared) (H:Hp) (a T:Addr) (D:fK),aC X π σ H0 s0->Fl X.prog X.w (eu X.stack) H0 H s0.heap s.heap a T (.ref C) .none->s.os=s0.os->AllBare s.gens->LS X.K th D σ H->
  wpAny (model X.prog X.w) X.A (handleBy (.ref a) X.env hs) (SP X π D) X.xe s
section
variable {X:Cx} {π:List (Addr×Obj)} {σ:St} {H0 H:Hp} {s0 s:Shared} {a T:Addr} {c fl:Value}
theorem Fl.inv (F:Fl X.prog X.w (eu X.stack) H0 H s0.heap s.heap a T c fl) (I:aC X π σ H0 s0) (os:s.os=s0.os) (bare:AllBare s.gens):aC X π σ H s:=I.call' (ch:=[]) os F.un F.hok bare λb z=>absurd z (by simp)
theorem aC.frmem (I:aC X π σ H s):∀b∈eu X.stack,H b=none/\∃o,s.heap.get? b=some o/\∀vs,o.data≠ .fields vs:=λb hb=>⟨I.stkFree b hb,(I.stack.mem hb).2⟩
theorem Fl.there (F:Fl X.prog X.w (eu X.stack) H0 H s0.heap s.heap a T c fl) (I:aC X π σ H0 s0):∃oe,s.heap.get? a=some oe/\oe.cls=c/\H a=none/\a≠X.env.locals/\a∉X.fs/\∀v,oe.data≠ .cell v:=by
 obtain⟨oe,vs,oT,ts,a0,e1,e2,e3,_⟩:=F.tr;refine⟨oe,e1,e2.1,F.ha,λz=>?_,λz=>?_,λv z=>by rw[e3] at z;cases z⟩
 ·obtain⟨m,⟨o,_,_,ho,_⟩,_⟩:=I.loc;rw[←z,F.na] at ho;cases ho
 ·obtain⟨_,o,ho,_⟩:=I.funs.mem z;rw[F.na] at ho;cases ho
theorem Fl.lands {M:Model} {Q:Unit->Shared->Prop} (F:Fl X.prog X.w (eu X.stack) H0 H s0.heap s.heap a T c fl) (I:aC X π σ H0 s0) (os:s.os=s0.os) (bare:AllBare s.gens)
 (h:∀h' T',Fl X.prog X.w (eu X.stack) H0 H s0.heap h' a T' c .none->Q () { s with heap:=h' }):wpAny M A (setFlight (.ref a) none) Q E s:=by
 have I1:=F.inv I os bare;obtain⟨a0,tr⟩:=F.traced;refine wpAny_setFlight_noneW (base:=hideAll s.heap (a::T::eu X.stack)) (λb o q=>of_hideAll _ q) (fg I1.stack λb z=> .tail _ (.tail _ z)) tr λh' k1 _ k3 k4=>?_;obtain⟨T',F'⟩:=F.move I1.frmem k1 k3 λb o e n=>⟨o.slots,k4 b o e n⟩;exact h h' T' F'
variable {C D:Addr} {bm bmD:List Value} {x:Str} {p pos:Pos} {name:Option Str} {body:List Stmt} {bH:List ExceptHandler} {b0:Stmt} {th:WS}
theorem vT (hm:X.mg x=some (.ref D)) (hg:Gl X x) (hC:XC X.K C bm) (hD:XC X.K D bmD) (hs:mroIn X.K C (.ref D)=some true) (hb:∀a oe,oe.cls=.ref C->mL (X.xmk a oe) (b0::body) th) (hd:(x==("__debug__":Str))=false:=by decide):
 QH X C (.ExceptHandler (some (.Name x p)) none (b0::body) pos::bH) th:=by
 intro π s0 σ H0 s H a T D' I0 F os bare hLS;have I:=F.inv I0 os bare;obtain⟨oe,e1,e2,e3,e4,e5,e6⟩:=F.there I0;refine wpAny_handleBy_cons (codeAny_handlers_test (fw (X:=X.xmk a oe) (I.xmk e1 e3 e4 e5 e6) hg hm ?_ hd)) (by intro q;cases q);refine qR I.kIn hC hD e1 e2 hs ?_;refine codeAny_handlers_suite (F.lands I0 os bare λh' T' F'=>?_);have I':=Fl.inv (s:={ s with heap:=h' }) F' I0 os bare;obtain⟨oe',q1,q2,q3,q4,q5,q6⟩:=Fl.there (s:={ s with heap:=h' }) F' I0;exact wpAny_mono (hb a oe' q2 π _ σ H D' (I'.xmk q1 q3 q4 q5 q6) hLS) (λf s2 z=>z.unx I0.ok.hd) λ_ _ z=>z.elim
end
section
variable {X:Cx} {a:Addr} {oe:Obj} {C D:Addr} {bm bmD:List Value}
theorem oC {x y:V} (r:aX [x,y] us):∃u v,us=[u,v]/\bf x u/\bf y v:=by
 cases r with
 | cons r1 r=>
   cases r with
   | cons r2 r=>cases r;exact⟨_,_,rfl,r1,r2⟩
end
theorem XC.self {C:Addr} (x:XC K C bm):mroIn K C (.ref C)=some true:=by rw[x.mro];simp
section
variable {prog:Program} {w:World} {A:Around} {R:Result->Shared->Prop} {I:Addr} {fp wr:List Addr} {n:Nat} {P:Nat->Value->Prop} {St:Nat->Heap->Prop} {kw:List (Str×Value)}
end
section
variable {prog:Program} {w:World} {A:Around} {E:Value->Shared->Prop} {s:Shared} {l:Addr} {xs:Array (Int×Tok)} {d:Value}
end
section
variable {X:Cx}
end
section
variable {P:Program} {w:World} {K:PySem.W.Frag} {mg:Str->Option Value} {base:Heap} {N:List Str} {qual:Str} {scope:Scope} {f:Addr} {cdv:Value} {A:Around} {outer:List Env} {s:Shared} {H:Hp} {E:XK}
theorem vU {E':XK} (hE:∀C H1,aP H H1->E' (.ref C) none H1->E (.ref C) none H1):ez (oB P w) (dm (oB P w) P w K mg base N qual scope f cdv A outer s H E) E':=by
 intro π σ H2 s2 e s3 I hx;obtain⟨a,T,C,H',rfl,os,bare,F,hw⟩:=hx;have I':=F.inv I os bare;obtain⟨a0,tr⟩:=F.traced;show wpAny _ _ (leaving (envOfC qual scope s.heap.objs.size f cdv) (.ref a)) _ _ s3;refine wpAny_leaving_nextW (base:=hideAll s3.heap (a::T::eu (envOfC qual scope s.heap.objs.size f cdv::outer))) (outer:=outer) (L:=s.heap.objs.size) I'.ok.frames (fg I'.stack λb z=> .tail _ (.tail _ z)) rfl tr (λb o q=>of_hideAll _ q) (hideAll_none _ (.head _)) λh3 left=>?_;obtain⟨k1,_,k3,k4⟩:=left;obtain⟨T',F'⟩:=F.move I'.frmem k1 k3 k4;have nL:∀b o,s.heap.get? b=some o->b∉eu outer->b∉eu (envOfC qual scope s.heap.objs.size f cdv::outer):=λb o q hb z=>by
  rcases mem_cons.mp (show b∈s.heap.objs.size::eu outer from z) with z | z
  ·exact absurd (Heap.lt_size q) (by rw[z];exact lt_irrefl _)
  ·exact hb z
 have no:∀b:Addr,b∉(dm (oB P w) P w K mg base N qual scope f cdv A outer s H E).ex:=λb y=>nomatch y;have back:∀b,s2.heap.get? b=none->s.heap.get? b=none:=λb q=>by
  cases z:s.heap.get? b with
  | none=>rfl
  | some o=>
    obtain⟨o',e'⟩:=I.base.there b o z (no b);rw[q] at e';cases e'
 have tl:aP H H':=⟨λb xs q=>F.un.tups b xs (I.base.tups b xs q),λb o u q=>F.un.frzs b o _ (I.base.frzs b o _ q)⟩;refine⟨a,T',C,H',rfl,os.trans I.os,bare,⟨⟨λb o q n hb hx=>?_,λb o q n hb hx=>?_,λb o q n hx=>?_,λb o q hx=>?_,λb xs q=>F.un.tups b xs (I.base.tups b xs q),λb o u q=>F.un.frzs b o u (I.base.frzs b o u q),λb ps q=>?_⟩,F'.hok,back a F'.na,back T' F'.nT,F'.ha,F'.hT,F'.tr⟩,hE C H' tl hw⟩
 ·exact F'.un.keep b o (I.base.keep b o q n hb (no b)) (I.base.free b o q n (no b)) (nL b o q hb) (by simp)
 ·obtain⟨sl,e1⟩:=I.base.slot b o q n hb (no b);obtain⟨sl2,e2⟩:=F'.un.slot b _ e1 (I.base.free b o q n (no b)) (mem_cons_of_mem _ hb) (by simp);exact⟨sl2,e2⟩
 ·obtain⟨o',e'⟩:=I.base.there b o q (no b);exact F'.un.free b o' e' (I.base.free b o q n (no b)) (by simp)
 ·obtain⟨o',e'⟩:=I.base.there b o q (no b);exact F'.un.there b o' e' (by simp)
 ·obtain⟨m1,e1⟩:=I.base.tbls b ps q;obtain⟨m2,e2⟩:=F.un.tbls b _ e1;exact⟨m1++m2,by rw[e2,Array.append_assoc]⟩
end
section
variable {X:Cx} {π:List (Addr×Obj)} {σ:St} {H:Hp} {s:Shared}
theorem aC.big (I:aC X π σ H s):sysModules<s.heap.objs.size:=by
 have h:mainGlobals<s.heap.objs.size:=(I.mod.glob.keeps I.bk).lt;exact Nat.lt_trans (by decide) h
end
section
variable {prog:Program} {w:World} {A:Around} {E:Value->Shared->Prop} {s:Shared} {I l:Addr} {items:Array Value}
end
section
variable {X:Cx}
end
section
variable {X:Cx} {tg:Expr}
noncomputable def DY (i j:Int):Prop:=0<=j/\j<=1000/\i.natAbs<2^4000
noncomputable def sU (i j:Int):Prop:=yF i j∨DY i j
noncomputable abbrev BS:W2:=vInt sU λi j=> .int (i^j.toNat)
theorem vV:iS X (binaryOp .Pow) (rI sU λi j=> .int (i^j.toNat)):=C0 λi j _ _ _ _ _ hc q=>by
 rcases hc with hc | ⟨h0,h1,h2⟩
 ·exact pow_int_small hc.1 hc.2.1 hc.2.2 q
 ·refine pow_int h0 ?_ q;have b1:=PyProof.Rows.intBits_le h2;have b2:(Builtin.Int.intBits i:Int)*j<=4000*1000:=Int.mul_le_mul (by (clear h0 h1 h2;lia)) h1 h0 (by decide);have hb:(4000000:Int)<=bitsLine:=by decide
  first | (clear h0 h1 h2 b1 hb;lia) | (simp[Builtin.Int.intTooBig];lia)
theorem lE:iB X (binaryOp .Pow) BS:=oq vV
end
section
variable {X:Cx} {C:Addr} {th:WS} {x:Str} {p pos:Pos}
end
section
variable {X:Cx}
end
theorem ic:fillsNumberSlot (.type "tuple") "mul"=pure false:=
 PySem.fillsNumberSlot_seq (id:="tuple.__mul__") (r:=some (.builtin "tuple.__rmul__")) F.slot_tuple_mul.lookup (by decide+kernel) F.slot_tuple_rmul.lookup (by decide+kernel)
theorem lG:seqRepeat? (.type "tuple")=pure (some (.builtin "tuple.__mul__")):=by
 unfold seqRepeat?;rw[PySem.seqSlot_of (T:="tuple") (name:="__mul__") (id:="tuple.__mul__") F.slot_tuple_mul.lookup (by decide+kernel),PySem.seqSlot_of (T:="tuple") (name:="__rmul__") (id:="tuple.__rmul__") F.slot_tuple_rmul.lookup (by decide+kernel)]
 rfl
theorem jq (a:Int) (t:Tok) (l:Addr) (items:Array Value) (n:Nat) (dd:Option Addr) (sl:Array (Option Value)):
 Meets (Builtin.«int.__rmul__» ⟨[.int a t,.ref l],[]⟩) (λ_ R s=>s.heap.get? l=some { cls:= .type "tuple",dict:=dd,data:= .seq items n,slots:=sl }/\R (.ok (.ret Value.notImplemented)) s):=
 .of_wp λprog w A R s h=>by obtain⟨hp,g,d,tk,os⟩:=s;obtain⟨hl,h⟩:=h;wp_walk;exact⟨_,rfl,h⟩
theorem oE (l:Addr) (items:Array Value) (n:Nat) (dd:Option Addr) (sl:Array (Option Value)) (u:Tok):
 Meets (Builtin.«tuple.__mul__» ⟨[.ref l,.int 1 u],[]⟩) (λ_ R s=>s.heap.get? l=some { cls:= .type "tuple",dict:=dd,data:= .seq items n,slots:=sl }/\R (.ok (.ret (.ref l))) s):=
 .of_wp λprog w A R s h=>by
  obtain⟨hp,g,d,tk,os⟩:=s;obtain⟨hl,h⟩:=h
  wp_walk
  exact⟨_,rfl,h⟩
theorem oF (l:Addr) (items:Array Value) (n:Nat) (dd:Option Addr) (sl:Array (Option Value)) (x:Int) (u:Tok) (h0:items.isEmpty=false) (h1:(x==1)=false) (h2:0<x) (hf:(decide (x< -(2^63))||decide (x≥2^63))=false) (hm:decide ((items.size:Int)*x > (2^63-1)/8)=false) (ht:Builtin.Tuple.tupleTooMany ((items.size:Int)*x)=false) (hsz:((List.replicate x.toNat items).foldl (·++ ·) #[]).size<=sizeLine):
 Meets (Builtin.«tuple.__mul__» ⟨[.ref l,.int x u],[]⟩) (λ_ R s=>s.heap.get? l=some { cls:= .type "tuple",dict:=dd,data:= .seq items n,slots:=sl }/\R (.ok (.ret (.ref s.heap.objs.size))) { s with heap:=s.heap.push { cls:= .type "tuple",data:= .seq ((List.replicate x.toNat items).foldl (·++ ·) #[]) } }):=
 .of_wp λprog w A R s h=>by
  obtain⟨hp,g,d,tk,os⟩:=s;obtain⟨hl,h⟩:=h;have c1:(items.isEmpty||x==1)=false:=by rw[h0,h1];rfl
  have c2:(decide (x<=0)||items.isEmpty)=false:=by rw[h0,decide_eq_false (by (clear hf hm hsz;lia))];rfl
  wp_walk
  refine wpAny_ite_false (by rw[hf];rfl) ?_
  wp_walk
  refine wpAny_ite_false hm ?_
  wp_walk
  exact⟨_,rfl,h⟩
theorem oG (l:Addr) (items:Array Value) (n:Nat) (dd:Option Addr) (sl:Array (Option Value)) (u:Tok) (h0:items.isEmpty=false):
 Meets (Builtin.«tuple.__mul__» ⟨[.ref l,.int 0 u],[]⟩) (λ_ R s=>s.heap.get? l=some { cls:= .type "tuple",dict:=dd,data:= .seq items n,slots:=sl }/\R (.ok (.ret (.ref s.heap.objs.size))) { s with heap:=s.heap.push { cls:= .type "tuple",data:= .seq #[] } }):=
 .of_wp λprog w A R s h=>by
  obtain⟨hp,g,d,tk,os⟩:=s;obtain⟨hl,h⟩:=h;have c1:(items.isEmpty||(0:Int)==1)=false:=by rw[h0];rfl
  wp_walk
  exact⟨_,rfl,h⟩
section
variable {X:Cx}
noncomputable def BU (K:PySem.W.Frag):R2:=λx y H Q=>∃a k xs,x=.ref a/\y=.int k/\cO K H a xs/\xs≠[]/\0<=k/\k<=100000/\xs.length*k.toNat<=sizeLine/\
 (k=1->Q (.ref a) H)/\(k≠1->∀p,H p=none->Q (.ref p) (upd H p (.tup (List.replicate k.toNat xs).flatten)))
theorem vW:iS X (binaryOp .Mult) (BU X.K):=by
 intro π s σ H x y v u Q I rx ry h;obtain⟨a,k,xs,rfl,rfl,ha,hx,h0,h1,hz,q1,q2⟩:=h;cases rx;obtain⟨t,rfl⟩:=ry;obtain⟨its,r1,p1,_⟩:=I.tuple ha;have hl:=r1.length;obtain⟨⟨cls,dd,data,sl⟩,ho,hc,n,hd⟩:=id p1;simp only at hc hd;subst hc hd;have he:its.toArray.isEmpty=false:=by
  cases its with
  | nil=>exact absurd (r1.nil_iff.mp rfl) hx
  | cons _ _=>rfl
 refine wpAny_binaryOp_repeat_ref (T:="tuple") (U:="int") (by decide) ⟨_,ho,rfl⟩ (λs'=>typeIs_int s' k t) ic F.fills_int_mul F.slot_int_rmul lG F.slot_int_index.lookup
  (call_meets F.slot_int_rmul (typeIs_int s k t) F.entry_int_rmul (F.args_int_rmul_2 _ _) (jq k t a its.toArray n dd sl) ⟨ho,rfl,⟨_,ho,rfl⟩,?_⟩)
 by_cases hk1:k=1
 ·subst hk1;exact call_meets F.slot_tuple_mul ⟨_,ho,rfl⟩ F.entry_tuple_mul (F.args_tuple_mul_2 _ _) (oE a its.toArray n dd sl t) ⟨ho,⟨.ref a,H,I,rfl,q1 rfl⟩⟩
 ·by_cases hk0:k=0
  ·subst hk0;refine call_meets F.slot_tuple_mul ⟨_,ho,rfl⟩ F.entry_tuple_mul (F.args_tuple_mul_2 _ _) (oG a its.toArray n dd sl t he) ⟨ho,?_⟩;refine⟨.ref s.heap.objs.size,_,I.laid (t':=s.toks) (o:= .tup []) (λb ob q=>Heap.get?_push_of_some _ q) (le_refl _) ?_,rfl,q2 (by decide) _ (I.hok.fresh (le_refl _))⟩;exact⟨zero_le _,[],.nil,IsTup.new _ _⟩
  ·have hsz:(its.toArray.size:Int)*k<=(sizeLine:Int):=by
    rw[size_toArray,←hl,←Int.toNat_of_nonneg h0]
    exact_mod_cast hz
   have hnew:List.foldl (λx1 x2=>x1++x2) #[] (List.replicate k.toNat its.toArray)=(List.replicate k.toNat its).flatten.toArray:=by
    have:=g9 its k.toNat [];rw[nil_append] at this;exact this
   refine call_meets F.slot_tuple_mul ⟨_,ho,rfl⟩ F.entry_tuple_mul (F.args_tuple_mul_2 _ _) (oF a its.toArray n dd sl k t he (by simpa using hk1) (by (clear hz hl hk1 hsz;lia)) ?_ ?_ ?_ ?_) ⟨ho,?_⟩
   ·rw[decide_eq_false (by (clear hz hl hk1 hk0 hsz;lia)),decide_eq_false (by (clear hz hl hk1 hk0 hsz;lia))];rfl
   ·refine decide_eq_false (Int.not_lt.mpr (Int.le_trans hsz ?_));decide
   ·unfold Builtin.Tuple.tupleTooMany;exact decide_eq_false (Int.not_lt.mpr hsz)
   ·rw[hnew,size_toArray,iU,Nat.mul_comm,←hl];exact hz
   ·rw[hnew];refine⟨.ref s.heap.objs.size,_,I.laid (t':=s.toks) (o:= .tup (List.replicate k.toNat xs).flatten) (λb ob q=>Heap.get?_push_of_some _ q) (le_refl _) ?_,rfl,q2 hk1 _ (I.hok.fresh (le_refl _))⟩;exact⟨by rw[iU,Nat.mul_comm];exact hz,_,r1.rep k.toNat,IsTup.new _ _⟩
end
section
variable {X:Cx}
end
noncomputable abbrev vX:=Addr->cP->Gp->Prop
noncomputable def XP (X:Cx) (π:List (Addr×Obj)) (H:Hp) (ex:vX) (e:Value) (s':Shared):Prop:=
 ∃a T C H0 s0 σ H' τ G,e=.ref a/\aC X π σ H0 s0/\Fl X.prog X.w (eu X.stack) H0 H' s0.heap s'.heap a T (.ref C) .none/\s'.os=s0.os/\AllBare s'.gens/\aP H H'/\bt X.K H' τ σ/\aM X.K H' G/\ex C τ G
noncomputable def QY (X:Cx) (st:Stmt) (t:vX->WS):Prop:=
 ∀(ex:vX) (π:List (Addr×Obj)) (s:Shared) (σ:St) (H:Hp) (D:fK),aC X π σ H s->LS X.K (t ex) D σ H->wpAny (model X.prog X.w) X.A (exec st X.env) (SP X π D) (XP X π H ex) s
noncomputable def Ff (X:Cx) (st:List Stmt) (t:vX->WS):Prop:=
 ∀(ex:vX) (π:List (Addr×Obj)) (s:Shared) (σ:St) (H:Hp) (D:fK),aC X π σ H s->LS X.K (t ex) D σ H->wpAny (model X.prog X.w) X.A (execs st X.env) (SP X π D) (XP X π H ex) s
section
variable {X:Cx} {x:Str} {p pos:Pos}
theorem vY {t:vX->WS} (h:QY X st t):Ff X [st] t:=by
 intro ex π s σ H D I hl;refine wpAny_execs_cons (bV (h ex π s σ H D I hl) λf s1 q=>?_);cases f with
 | next=>exact wpAny_execs_nil q
 | ret v=>exact q
 | brk=>exact q
 | cont=>exact q
noncomputable def sV (i:Nat) (sp:bP) (dws:List W) (t:WA):vX->WS:=λex d τ G=>t τ G λws G1=>sp (ws++dws) G1 (λv G2=>d.nx (τ.set i (some v)) G2) λc G2=>∀C,c=.ref C->ex C τ G2
theorem zw (i:Nat) {y:Str} {sp:bP} {dws:List W} {t:WA} {cpos epos ypos:Pos} (hnx:∀e s,¬X.xe e s)
 (hN:X.N.Nodup) (hi:X.N[i]?=some y) (hy:u7 X.env.scope y)
 (F:Rx X.prog X.w X.K X.mg X.base x ps k sp dws) (hr:aw k X.A) (hg:Gl X x) (ha:QA X (e::es) t) (hdb:(x==("__debug__":Str))=false:=by decide)
 (he:starEach (e::es) X.env=(false,eval e X.env)::starEach es X.env:=by rfl) (hpl:(backTo cpos (starEach es X.env)).any (·.1)=false:=by rfl) (hsw:swapsWith (.Call (.Name x p) (e::es) [] cpos) (some (.Name y ypos)) epos.line X.env=pure false:=by rfl)
 (hf:X.fn y=true∨X.env.scope.names.lookup y=some .local:=by first | exact .inl rfl | exact .inr rfl | assumption):
 QY X (.Assign [.Name y ypos] (.Call (.Name x p) (e::es) [] cpos) epos) (sV i sp dws t):=by
 rintro ex π s σ H D I ⟨τ,G,d,rs,rg,ht,l⟩;obtain⟨f,fd,ds,dvs,F,hm,hk,hb,hd,hrep⟩:=F;refine wpAny_Assign_Name (wpAny_Call_Name_kw (fw I hg hm ?_ hdb)) hsw;have go:=ha cpos π s σ H (λvs H1=>u9 X.K sp (vs++dvs) H1 (λv H2=>D.nx (σ.set i (some v)) H2) λc _ H2=>∀C,c=.ref C->aP H H2/\∃G2,bt X.K H2 τ σ/\aM X.K H2 G2/\ex C τ G2) I ⟨τ,G,_,rs,rg,ht,λvs H1 ws G1 t1 r1 g1 q1=>
  ⟨ws++dws,G1,_,_,r1.append (hrep H1),g1,q1,λv H2 w G2 t2 r2 g2 q2=>l.nx _ H2 _ G2 (t1.trans t2) ((rs.mono (t1.trans t2)).set r2 i) g2 q2,
    λc dd H2 G2 t2 g2 q2 C ec=>⟨t1.trans t2,G2,rs.mono (t1.trans t2),g2,q2 C ec⟩⟩⟩
 refine callWith_K (h₀:=X.base) I.ok.mod.kin hk (wpAny_mono go (λus s1 h1=>?_) λe s1 z=>(hnx e s1 z).elim) he hpl;obtain⟨vs,H1,I1,r,q⟩:=h1;refine⟨I1.kIn,?_⟩;have r2:aX (vs++dvs) (us++ds):=r.append hd;have hl:(us++ds).length=ps.length:=by rw[←r2.length];exact F.len _ _ _ _ q
 refine wpAny_call (codeAny_mono (F.run X.A X.stack s1 H1 ⟨us,[]⟩ (us++ds) (vs++dvs) _ _ hr I1.env0 (hb s1 us I1.kIn hl) r2 q) λr s' hq=>?_);cases r with
 | ok fl=>
   cases fl with
   | ret u=>
     obtain⟨v,H',I',rv,q'⟩:=I1.after hq;exact je I' hN hi hy rv (λs2 I2=>⟨_,H',I2,q'⟩) hf
   | next=>exact False.elim hq
   | brk=>exact False.elim hq
   | cont=>exact False.elim hq
 | error e=>
   obtain⟨a,T,C',H',rfl,os,bare,F1,hx⟩:=hq;obtain⟨tl,G2,rs2,rg2,hx⟩:=hx C' rfl;exact⟨a,T,C',H1,s1,σ,H',τ,G2,rfl,I1,F1,os,bare,tl,rs2,rg2,hx⟩
noncomputable def xX (t:vX->WS) (cs:List (Addr×WS)):WS:=λd τ G=>t (λC τ1 G1=>∃th,(C,th)∈cs/\th d τ1 G1) d τ G
theorem vZ {h0:ExceptHandler} {hs:List ExceptHandler} {t:vX->WS} {cs:List (Addr×WS)} (hst:X.stack=X.env::X.outer) (hfr:X.env.frame=some X.env.locals) (hb:Ff X body t) (hh:∀c,c∈cs->QH X c.1 (h0::hs) c.2):
 QS X (.Try body (h0::hs) [] [] pos) (xX t cs):=by
 rintro π s σ H D I ⟨τ,G,d,rs,rg,ht,l⟩;refine wpAny_Try_except (wpAny_mono (hb _ π s σ H D I ⟨τ,G,d,rs,rg,ht,l⟩) (λf s1 q=>?_) λe s' hx=>?_)
 ·cases f with
  | next=>exact wpAny_execs_nil q
  | ret v=>exact q
  | brk=>exact q
  | cont=>exact q
 ·obtain⟨a,T,C,H1,s1,σ1,H',τ1,G1,rfl,I1,F1,os,bare,tl,rs1,rg1,th,hc,hx⟩:=hx;have I':=F1.inv I1 os bare;obtain⟨a0,tr⟩:=F1.traced;refine wpAny_noteFrame_onW (base:=hideAll s'.heap (a::T::eu X.stack)) (outer:=X.outer) (by rw[←hst];exact I'.ok.frames) (by rw[←hst];exact fg I'.stack λb z=> .tail _ (.tail _ z)) hfr tr (λb o q=>of_hideAll _ q) (hideAll_none _ (.head _)) λh2 N2=>?_;obtain⟨k1,_,k3,k4⟩:=N2;obtain⟨T2,F2⟩:=F1.move I'.frmem k1 k3 k4;refine Fl.lands (s:={ s' with heap:=h2 }) F2 I1 os bare λh3 T3 F3=>?_;exact hh _ hc π s1 σ1 H1 { s' with heap:=h3 } H' a T3 D I1 F3 os bare ⟨τ1,G1,d,rs1,rg1,hx,l.mono tl⟩
theorem v0 {hs:List ExceptHandler}:∀c:Addr×WS,c∈([]:List (Addr×WS))->QH X c.1 hs c.2:=λ_ h=>nomatch h
theorem sW {hs:List ExceptHandler} {C:Addr} {th:WS} {cs:List (Addr×WS)} (h1:QH X C hs th) (h2:∀c:Addr×WS,c∈cs->QH X c.1 hs c.2):∀c:Addr×WS,c∈(C,th)::cs->QH X c.1 hs c.2:=λc h=>by
 rcases mem_cons.mp h with z | z
 ·rw[z];exact h1
 ·exact h2 c z
end
theorem slot_rv_next:Slot "reversed" "__next__" "reversed.__next__":=
 .of (owner:="reversed") (n:="__next__") (by rw[typeLookup_type,builtinLookup_eq_fast];kernel_rfl) (by decide+kernel) (by decide+kernel) (by decide+kernel)
  (by first | exact .inl (by decide+kernel) | exact .inr (by decide+kernel)) (by rw[isSubtype_type];kernel_rfl)
theorem fR:entryFor table "reversed.__next__"=some Builtin.«reversed.__next__»:=entryFor_of_tree (by kernel_rfl)
theorem gF (a:Value):argsOk "reversed.__next__" ⟨[a],[]⟩:=by unfold argsOk;kernel_rfl
theorem gG:Slot "reversed" "__iter__" "reversed.__iter__":=
 .of (owner:="reversed") (n:="__iter__") (by rw[typeLookup_type,builtinLookup_eq_fast];kernel_rfl) (by decide+kernel) (by decide+kernel) (by decide+kernel)
  (by first | exact .inl (by decide+kernel) | exact .inr (by decide+kernel)) (by rw[isSubtype_type];kernel_rfl)
theorem lH (a:Value):argsOk "reversed.__iter__" ⟨[a],[]⟩:=by unfold argsOk;kernel_rfl
theorem j9:entryFor table "reversed.__iter__"=some Builtin.«dict_keyiterator.__iter__»:=
 entryFor_alias (id':="dict_keyiterator.__iter__") (by kernel_rfl) (by first | rfl | decide+kernel | (unfold String.splitOn;simp+decide [String.splitOnAux])) (by decide+kernel) (by kernel_rfl)
theorem lJ:Slot "reversed" "__init__" "object.__init__":=
 .of (owner:="object") (n:="__init__") (by rw[typeLookup_type,builtinLookup_eq_fast];kernel_rfl) (by decide+kernel) (by decide+kernel) (by decide+kernel)
  (by first | exact .inl (by decide+kernel) | exact .inr (by decide+kernel)) (by rw[isSubtype_type];kernel_rfl)
theorem qS:TypeCalled "reversed" "reversed.__new__" "object.__init__":=
 ⟨by decide+kernel,by decide+kernel,⟨_,_,F.mro_reversed⟩,F.made_reversed,by decide+kernel,by rw[isSubtype_type];kernel_rfl,lJ⟩
theorem qT:typeLookup (.type "tuple") "__reversed__"=pure none:=by (rw[typeLookup_type,builtinLookup_eq_fast]);kernel_rfl
theorem oH:isSubtype (.type "tuple") (.type "dict")=pure false:=by rw[isSubtype_type];kernel_rfl
noncomputable def pL (a:Addr) (i:Int):Obj:={ cls:= .type "reversed",data:= .fields #[.ref a,rawInt i] }
noncomputable def ie (h:Heap) (it a:Addr) (i:Int):Prop:=∃o,h.get? it=some o/\o.cls=.type "reversed"/\o.data=.fields #[.ref a,rawInt i]
theorem ie.at {h h':Heap} {it a:Addr} {i:Int} (x:ie h it a i) (e:∀o,h.get? it=some o->h'.get? it=some o):ie h' it a i:=let ⟨o,ho,r⟩:=x;⟨o,e _ ho,r⟩
theorem kc {i n:Nat} (h:i<n):seqIndex? (i:Int) n=some i:=by
 unfold seqIndex?;have h0:¬((i:Int)<0):=by (clear h;lia)
 have h1:(0:Int)<=(i:Int):=by (clear h h0;lia)
 have h2:(i:Int)<(n:Int):=by (clear h0 h1;lia)
 simp only[h0,if_false,h1,h2,decide_true,Bool.and_true,if_true,Int.toNat_natCast]
section
variable {prog:Program} {w:World} {A:Around} {E:Value->Shared->Prop} {s:Shared}
theorem ie.typeIs {it a:Addr} {i:Int} (x:ie s.heap it a i):s.TypeIs (.ref it) "reversed":=let ⟨o,ho,hc,_⟩:=x;⟨o,ho,hc⟩
theorem fN {l:Addr} (hl:IsTup s.heap l items) (hfit:(items.size:Int)<2^63)
 (h:∀tk,Q (.ref s.heap.objs.size) { s with heap:=s.heap.push (pL l ((items.size:Int)-1)),toks:=tk }):wpAny (model prog w) A (call (.type "reversed") [.ref l]) Q E s:=by
 refine callType_new qS (by decide) (F.typeCall_reversed_1 _) (F.newCall_reversed_1 _) (λobj=>F.args_object_init_2 obj _) F.entry_reversed_new
  (S:=λA R s1=>s1=s/\∀tk,R (.ok (.ret (.ref s.heap.objs.size))) { s with heap:=s.heap.push (pL l ((items.size:Int)-1)),toks:=tk }) ?_ ⟨rfl,λtk=>⟨⟨_,Heap.get?_push_size _ rfl,rfl⟩,h tk⟩⟩
 refine .of_wp λprog w A R s1 hs=>?_;obtain⟨rfl,hs⟩:=hs;unfold Builtin.«reversed.__new__»;refine wax (wpAny_of_eq (newClass_reversed _) ?_)
 try dsimp only
 refine wax (wpAny_of_eq (a:=()) (by first | rfl | kernel_rfl) ?_);refine wax (wpAny_of_eq (a:=()) (by first | rfl | kernel_rfl) ?_)
 try dsimp only
 refine wax (wpAny_specialOf hl.typeIs qT ?_)
 try dsimp only
 k_delta "hasItemSlot"
 refine wax (wax (wpAny_isInstance hl.typeIs oH ?_));simp only[Bool.false_eq_true,if_false];refine wax (wpAny_specialOf hl.typeIs slot_tuple_getitem.lookup ?_)
 try dsimp only
 rw[if_pos (by decide)];refine way ?_;simp only[Bool.not_true,Bool.false_eq_true,if_false];refine wax (len_tuple hl hfit ?_);refine wax (wpAny_of_eq (a:=some (items.size:Int)) rfl ?_)
 try dsimp only
 unfold Builtin.SmallTypes.newRecord;refine wax (wpAny_newObj_type (way ⟨_,rfl,?_⟩));exact hs _
theorem kD {it l:Addr} {i:Int} (hit:ie s.heap it l i) (h:Q (.ref it) s):wpAny (model prog w) A (pyIter (.ref it)) Q E s:=by
 refine wpAny_pyIter_slot hit.typeIs gG (wpAny_call_entry gG hit.typeIs j9 ?_ (lH _));show wpAny _ _ (ret (.ref it)) _ _ s;exact way ⟨_,rfl,"reversed",_,hit.typeIs,slot_rv_next.lookup,h⟩
theorem v5 {it l:Addr} {x:Value} {Q:Option Value->Shared->Prop} (hit:ie s.heap it l (i:Int)) (hl:IsTup s.heap l items) (hi:(i:Int)<2^63) (hx:items[i]?=some x)
 (hQ:∀h' tk,ie h' it l ((i:Int)-1)->Heap.SameBut it s.heap h'->Q (some x) { s with heap:=h',toks:=tk }):wpAny (model prog w) A (pyNext (.ref it)) Q E s:=by
 obtain⟨o,ho,hc,hd⟩:=id hit;unfold pyNext;refine wax (wpAny_attempt (wpAny_callSpecial?_slot (name:=Str.ofString "__next__") hit.typeIs slot_rv_next
  (wpAny_call_entry slot_rv_next hit.typeIs fR ?_ (gF _))))
 unfold Builtin.«reversed.__next__»;refine wax (wpAny_of_eq (a:=(Value.ref it,[])) rfl ?_)
 try dsimp only
 refine wax (wpAny_field ho hd (x:= .ref l) rfl ?_);refine wax (wpAny_field ho hd (x:=rawInt (i:Int)) rfl ?_);show wpAny _ _ (if (i:Int)<0 then _ else _) _ _ s;rw[if_neg (by (clear hx;lia))];refine wax (wpAny_specialOf hl.typeIs slot_tuple_getitem.lookup ?_);simp only[Option.isNone_some,Bool.false_eq_true,if_false];refine wax (wpAny_mkInt ?_);have hz:i<items.size:=by
  rcases lt_or_ge i items.size with h | h
  ·exact h
  ·rw[Array.getElem?_eq_none h] at hx;cases hx
 have hl':IsTup ({ s with toks:=s.toks+1 }:Shared).heap l items:=hl;refine wax (wpAny_attempt (getItem_tuple (s:={ s with toks:=s.toks+1 }) hl' (by (clear hx hz;lia)) hi (kc hz) hx ?_))
 try dsimp only
 refine wax (wpAny_field (s:={ s with toks:=s.toks+1 }) ho hd (x:=rawInt (i:Int)) rfl ?_);refine wax (wpAny_setField (s:={ s with toks:=s.toks+1 }) ho hd (by simp) ?_);refine way ⟨x,rfl,way (hQ _ _ ?_ (Heap.SameBut.update ..))⟩;exact⟨_,Heap.get?_update_self _ ho (Obj.isFreed_of_fields (Obj.data_mapFields hd _)),(Obj.cls_mapFields ..).trans hc,by
  rw[Obj.data_mapFields hd];simp⟩
theorem mQ {it l:Addr} {Q:Option Value->Shared->Prop} (hh:A.handled=none) (hit:ie s.heap it l (-1))
 (hQ:∀h',Heap.ExtBut it s.heap h'->Q none { s with heap:=h' }):wpAny (model prog w) A (pyNext (.ref it)) Q E s:=by
 obtain⟨o,ho,hc,hd⟩:=id hit;unfold pyNext;refine wax (wpAny_attempt (wpAny_callSpecial?_slot (name:=Str.ofString "__next__") hit.typeIs slot_rv_next
  (wpAny_call_entry slot_rv_next hit.typeIs fR ?_ (gF _))))
 unfold Builtin.«reversed.__next__»;refine wax (wpAny_of_eq (a:=(Value.ref it,[])) rfl ?_)
 try dsimp only
 refine wax (wpAny_field ho hd (x:= .ref l) rfl ?_);refine wax (wpAny_field ho hd (x:=rawInt (-1)) rfl ?_);show wpAny _ _ (if (-1:Int)<0 then _ else _) _ _ s;rw[if_pos (by decide)];refine wax (wpAny_rule ?_)
 k_delta "reversedEnd"
 refine wax (wax (wpAny_setField ho hd (by simp) ?_));have ho1:=Heap.get?_update_self (h:=s.heap) (λo:Obj=>o.mapFields λvs=>vs.set! 1 (rawInt (-1))) ho (Obj.isFreed_of_fields (Obj.data_mapFields hd _));refine wpAny_setField ho1 (Obj.data_mapFields hd _) (by simp) ?_;unfold Builtin.SmallTypes.stopIteration;refine wax ?_
 first
 | show wpAny _ _ (newExc (.type "StopIteration") [] >>= _) _ _ _
 | (refine wax ?_;show wpAny _ _ (newExc (.type "StopIteration") [] >>= _) _ _ _)
 refine wax ?_;simp only[newExc,newTuple];refine wax (wpAny_newObj_type ?_ (by size_fits));refine wax (m:=firstArgMember _ _) (wpAny_of_eq (a:=Value.none) (by first | rfl | (simp only[firstArgMember];rfl)) ?_);refine wpAny_newObj_type ?_ (by size_fits);simp only[raiseNew];refine wax (wpAny_handled ?_)
 first | rw[show A.in1.handled=none from hh] | rw[hh]
 refine wax (way (wpAny_throw ?_));refine wax (wpAny_isInstance (T:="StopIteration") (b:=true) ⟨_,Heap.get?_push_size _ rfl,rfl⟩ isSubtype_stop ?_);refine way (hQ _ ((Heap.ExtBut.push (Heap.ExtBut.push ?_ _) _)));exact λb o hb e=>((Heap.SameBut.update _ _ _).2 b hb).trans (((Heap.SameBut.update _ _ _).2 b hb).trans e)
end
noncomputable def Fg (K:PySem.W.Frag) (a:Addr) (n:Nat):It:=
 ⟨λi H=>∃xs x,cO K H a xs/\xs.length=n/\i<n/\xs[n-1-i]?=some x,λi H x H'=>H'=H/\∀xs,cO K H a xs->xs[n-1-i]?=some x,λi H=>∃xs,cO K H a xs/\xs.length=n/\n<=i⟩
theorem v6 {tg:Expr} (a it:Addr) (n:Nat) (hn:(n:Int)<2^63):lq P w K tg (Fg K a n) [it] it (λi h=>i<=n/\ie h it a ((n:Int)-1- (i:Int))) where
 mem:=by simp
 obj:=λi h st b hb=>by
  have e:b=it:=by simpa using hb
  subst e;obtain⟨_,o,e,c,d⟩:=st;exact⟨o,e,λv z=>by rw[d] at z;cases z⟩
 keep:=λi h h' st k=>⟨st.1,st.2.at λo e=>k it (by simp) o e⟩
 item:=by
  intro X hP hw hK hc i π s σ H E I hf st hg;subst hP hw hK;obtain⟨xs,x,hq,hl,hi,hx⟩:=hg;obtain⟨its,rv,p,hz⟩:=I.tuple hq;obtain⟨u,hu,ru⟩:=rv.get hx;obtain⟨f0,f1,f2,f3,f4,f5⟩:=hf it (by simp);have st1:ie s.heap it a ((n-1-i:Nat):Int):=by have:=st.2;rw[show(n:Int)-1- (i:Int)=((n-1-i:Nat):Int) by (clear hn st hx hz hu f3;lia)] at this;exact this
  refine v5 st1 p (by (clear st hx hz hu f3;lia)) (x:=u) (by simpa using hu) λh' tk st' sb=>?_;have I1:aC X π σ H { s with heap:=h',toks:=tk }:=I.turned (t':=tk) (λb o hb e=>(sb.2 b hb).trans e) f0 f1 f3 f4 f5;obtain⟨o,e,c,d⟩:=id st';exact⟨u,rfl,kn (s:={ s with heap:=h',toks:=tk }) e c d (by decide) ⟨x,H,I1,ru,⟨rfl,λys hy=>by rw[I.tuple_inj hy hq];exact hx⟩,⟨by assumption,by rw[show(n:Int)-1- ((i+1:Nat):Int)=((n-1-i:Nat):Int)-1 by (clear hn st hx hz hu f3;lia)];exact st'⟩,λb hb=>(hf b hb).1⟩⟩
 done:=by
  intro X hP hw hK hc i π s σ H E I hf st hg;subst hP hw hK;obtain⟨xs,hq,hl,hi⟩:=hg;obtain⟨f0,f1,f2,f3,f4,f5⟩:=hf it (by simp);have st1:ie s.heap it a (-1):=by have:=st.2;rw[show(n:Int)-1- (i:Int)= -1 by have:=st.1;(clear hn f3 this;lia)] at this;exact this
  exact mQ (I.ok.hd hc) st1 λh' eb=>⟨rfl,I.turned (t':=s.toks) (λb o hb e=>eb b o hb e) f0 f1 f3 f4 f5⟩
 self:=λ_ _ _ _ _ st h=>kD st.2 h
theorem zx {ws:List W} {xs:List V} {H:Hp} (h:H a=some (.tup xs)) (r:aV K H ws xs):pI K (Fg K a xs.length) ws.reverse (λ_=>True) H where
 stop:=λi H1 G t g _ hl=>⟨xs,cO.of (t.tup _ _ h),rfl,by rw[←r.length];simpa using hl⟩
 go:=λi w H1 G t g _ e=>by
  have hl:=r.length;have hi:i<ws.length:=by
   rcases lt_or_ge i ws.length with z | z
   ·exact z
   ·rw[List.getElem?_eq_none (by simpa using z)] at e;cases e
  rw[List.getElem?_reverse hi] at e;obtain⟨v,e1,rv⟩:=r.get e;rw[hl] at e1;refine⟨⟨xs,v,cO.of (t.tup _ _ h),rfl,by (clear e e1;lia),e1⟩,λx H' ⟨eH,hy⟩=>?_⟩;subst eH;have e2:=hy xs (cO.of (t.tup _ _ h));rw[e1] at e2;cases e2;exact⟨aP.refl _,rv.mono t,g⟩
noncomputable def BV (ta:WA):WI:=λτ G r=>ta τ G λws G1=>match ws with
 | [.tup xs]=>r xs.reverse (λ_=>True) G1
 | _=>False
theorem pM:bootBuiltins "reversed"=some (.type "reversed"):=by decide+kernel
theorem zy {X:Cx} {tg a:Expr} {ta:WA} {p pos:Pos} (hg:Gl X "reversed") (hm:X.mg "reversed"=none) (ha:QA X [a] ta) (hs:starEach [a] X.env=[(false,eval a X.env)]:=by rfl):
 QI X tg (.Call (.Name "reversed" p) [a] [] pos) (BV ta):=by
 rintro π s σ H R I ⟨τ,G,r,hτ,hG,ht,hR⟩;refine Call_ (fU I hg hm pM (PyProof.Rows.callWith_type1 (bV (ha pos π s σ H (λvs H1=>∃ws G1,aP H H1/\aV X.K H1 ws vs/\aM X.K H1 G1/\match ws with | [.tup xs]=>r xs.reverse (λ_=>True) G1 | _=>False) I ⟨τ,G,_,hτ,hG,ht,λvs H1 ws G1 t1 r1 g1 q1=>⟨ws,G1,t1,r1,g1,q1⟩⟩) λus s1 ⟨vs,H1,I1,ru,ws,G1,t1,r1,g1,q1⟩=>?_) (by rw[hs];rfl) (by rfl)));split at q1
 ·rename_i xs;cases r1 with
  | cons ra rn=>
    cases rn;cases ra with
    | @tup pa _ xs' ha' ra=>
      cases ru with
      | cons w1 wn=>
        cases wn;cases (show _=Value.ref pa from w1);obtain⟨its,rv,p1,hz⟩:=I1.tuple (cO.of ha');have hl:=rv.length;have hsz:xs'.length<=9223372036854775807:=by
         have:sizeLine<=9223372036854775807:=by decide
         lia
        refine fN p1 (by simp;(clear hz;lia)) λtk=>?_;have st0:ie (s1.heap.push (pL pa ((its.toArray.size:Int)-1))) s1.heap.objs.size pa ((xs'.length:Int)-1- ((0:Nat):Int)):=⟨_,Heap.get?_push_size _ rfl,rfl,by
         rw[show((xs'.length:Int)-1- ((0:Nat):Int))=(its.toArray.size:Int)-1 by simp;(clear hz hsz;lia)];rfl⟩
        refine kD (s:={ s1 with heap:=s1.heap.push (pL pa ((its.toArray.size:Int)-1)),toks:=tk }) st0 ?_;refine⟨s1.heap.objs.size,[s1.heap.objs.size],_,_,H1,rfl,I1.kept (t':=tk) λb o e=>Heap.get?_push_of_some _ e,v6 pa _ xs'.length (by (clear hz;lia)),⟨zero_le _,st0⟩,λb hb=>?_,hR _ H1 _ _ G1 t1 g1 (zx ha' ra) q1⟩;have e:b=s1.heap.objs.size:=by simpa using hb
        subst e;exact I1.fpOk (le_refl _) (I1.hok.fresh (le_refl _))
 ·exact q1.elim
section
variable {prog:Program} {w:World} {A:Around} {E:Value->Shared->Prop} {s:Shared}
end
mutual
noncomputable def W.ge:W->W->Bool
 | .int i,.int j=>decide (i≥j)
 | .tup xs,.tup ys=>W.ges xs ys
 | _,_=>false
noncomputable def W.ges:List W->List W->Bool
 | [],[]=>true
 | [],_::_=>false
 | _::_,[]=>true
 | x::xs,y::ys=>if W.eq x y=true then W.ges xs ys else W.ge x y
end
noncomputable def DZ (A:Around) (s:Shared) (y x:Value) (b:Bool):Prop:=
 ∀(prog:Program) (w:World) (E:Value->Shared->Prop) (Q:Value->Shared->Prop),Q (.bool b) s->wpAny (model prog w) A (richCompare .GtE y x) Q E s
inductive qU (A:Around) (s:Shared):List Value->List Value->Bool->Prop where
 | nn:qU A s [] [] true
 | nc {y:Value} {ys:List Value}:qU A s [] (y::ys) false
 | cn {x:Value} {xs:List Value}:qU A s (x::xs) [] true
 | eq {x y:Value} {xs ys:List Value} {r:Bool} (h:SeqAt.EqAt A s x y true) (t:qU A s xs ys r):qU A s (x::xs) (y::ys) r
 | ne {x y:Value} {xs ys:List Value} {r:Bool} (h:SeqAt.EqAt A s x y false) (t:DZ A s x y r):qU A s (x::xs) (y::ys) r
section
open PySem.SeqAt
open PySem.AutoSeq1 (wpAny_loadPart')
open PySem.MeetsSeq PySem.MeetsSeq2 PySem.MeetsSeq3
end
section
variable {X:Cx} {π:List (Addr×Obj)} {σ:St} {H:Hp} {s:Shared}
end
section
variable {X:Cx}
end
section
variable {X:Cx}
end
section
variable {prog:Program} {w:World} {A:Around} {E:Value->Shared->Prop} {h:Heap} {g:Array GenState} {d:Drawn} {t:Nat} {os:OsState} {a C:Addr} {o:Obj} {K:PySem.W.Frag} {bm:List Value}
end
section
variable {prog:Program} {w:World} {A:Around} {E:Value->Shared->Prop} {s:Shared} {a C D:Addr} {o:Obj} {K:PySem.W.Frag} {bm:List Value}
end
section
variable {X:Cx} {a:Addr} {oe:Obj} {C D:Addr} {bm:List Value}
end
theorem sR.calm {f:Addr} {sp sp':bP} (F:sR P w K mg base k f fd ps sp) (h:∀ws G q e,sp' ws G q e->sp ws G q λ_ _=>False):bW P w K mg base k f fd ps sp':=by
 refine⟨λvs H Q E ⟨ws,G,q,e,r,g,z,hQ,_⟩=>F.len vs H Q (λ_ _ _=>False) ⟨ws,G,q,λ_ _=>False,r,g,h _ _ _ _ z,hQ,λ_ _ _ _ _ _ z=>z.elim⟩,λA outer s H args us vs Q E hr he hb hv z9=>?_⟩;obtain⟨ws,G,q,e,r,g,z,hQ,_⟩:=z9;refine codeAny_mono (F.run A outer s H args us vs Q (λ_ _ _=>False) hr he hb hv ⟨ws,G,q,λ_ _=>False,r,g,h _ _ _ _ z,hQ,λ_ _ _ _ _ _ z=>z.elim⟩) λr s' hq=>?_;cases r with
 | ok fl=>
   cases fl with
   | ret u=>exact hq
   | next=>exact hq
   | brk=>exact hq
   | cont=>exact hq
 | error e=>
   obtain⟨a,T,C,H',_,_,_,_,z⟩:=hq;exact z.elim
section
variable {prog:Program} {w:World} {A:Around} {E:Value->Shared->Prop} {s:Shared} {I l:Addr} {items:Array Value}
end
section
variable {X:Cx}
end
section
variable {X:Cx}
end
section
variable {X:Cx} {π:List (Addr×Obj)} {σ:St} {H0 H:Hp} {s0 s:Shared} {a T C D:Addr}
variable {bm bmD:List Value} {x:Str} {p pos:Pos} {name:Option Str} {body:List Stmt} {bH:List ExceptHandler} {b0:Stmt} {th:WS}
end
structure BW (k:Nat) (A:Around):Prop where
 dp:A.depth+3*k+5<recursionLimit
 un:A.units+16*k+200<cLine
structure FM (P:Program) (w:World) (K:PySem.W.Frag) (mg:Str->Option Value) (base:Heap) (CX:n8) (k:Nat) (f:Addr) (fd:FuncData) (ps:List Str) (sp:Sp):Prop where
 len:∀vs H Q E,sp vs H Q E->vs.length=ps.length
 run:∀(A:Around) (outer:List Env) (s:Shared) (H:Hp) (args:Args) (us:List Value) (vs:List V) (Q:VK) (E:XK),BW k A->mB P w K mg base A outer s H->BindsTo s fd args (ps.zip us)->aX vs us->sp vs H Q E->
  codeAny (model P w) A (.call (.ref f) args) (CR CX outer P w H s Q E) s
section
variable {X:Cx}
end
section
variable {P:Program} {w:World} {K:PySem.W.Frag} {mg:Str->Option Value} {base:Heap} {k:Nat} {f:Addr} {fd:FuncData} {ps:List Str} {sp sp':bP}
theorem bW.toR (F:bW P w K mg base k f fd ps sp):sR P w K mg base k f fd ps sp:=by
 refine⟨F.len,λA outer s H args us vs Q E hr he hb hv hs=>?_⟩;refine codeAny_mono (F.run A outer s H args us vs Q E hr he hb hv hs) λr s' hq=>?_;cases r with
 | ok fl=>
   cases fl with
   | ret u=>exact hq
   | next=>exact hq
   | brk=>exact hq
   | cont=>exact hq
 | error e=>exact False.elim hq
end
theorem aP.ins {H:Hp} {p C dx:Addr} {fs:List (Str×V)} (hp:H p=some (.ins C dx fs)) (o:HO):aP H (upd H p o):=
 ⟨λ_ _ h=>by rw[aD (fO h hp (by intro z;cases z))];exact h,λ_ _ _ h=>by rw[aD (fO h hp (by intro z;cases z))];exact h⟩
noncomputable def mR (f:Str) (v:W):List (Str×W)->List (Str×W)
 | []=>[(f,v)]
 | (g,x)::r=>if g=f then (g,v)::r else (g,x)::mR f v r
section
variable {K:PySem.W.Frag} {H:Hp}
theorem iE {f:Str} {w:W}:∀{fs:List (Str×W)} {fs':List (Str×V)},fs'.map (·.1)=fs.map (·.1)->aV K H (fs.map (·.2)) (fs'.map (·.2))->fs.lookup f=some w->∃v,fs'.lookup f=some v/\bK K H w v
 | [],_,_,_,e=>by cases e
 | (g,x)::r,[],n,_,_=>by cases n
 | (g,x)::r,(g',x')::r',n,rs,e=>by
   rw[map_cons,map_cons,List.cons.injEq] at n;obtain⟨n1,n2⟩:=n;have n1:g'=g:=n1;subst n1;cases rs with
   | cons r1 r2=>
     rw[lookup_cons] at e ⊢;cases h:f==g' with
     | true=>rw[h] at e;cases e;exact⟨x',rfl,r1⟩
     | false=>rw[h] at e;exact iE n2 r2 e
theorem fG {f:Str}:∀{fs:List (Str×W)} {fs':List (Str×V)},fs'.map (·.1)=fs.map (·.1)->fs.lookup f=none->fs'.lookup f=none
 | [],[],_,_=>rfl
 | [],_::_,n,_=>by cases n
 | _::_,[],n,_=>by cases n
 | (g,x)::r,(g',x')::r',n,e=>by
   rw[map_cons,map_cons,List.cons.injEq] at n;obtain⟨n1,n2⟩:=n;have n1:g'=g:=n1;subst n1;rw[lookup_cons] at e ⊢;cases h:f==g' with
   | true=>rw[h] at e;cases e
   | false=>rw[h] at e;exact fG n2 e
theorem mS {f:Str} {w:W} {v:V} (rv:bK K H w v):∀{fs:List (Str×W)} {fs':List (Str×V)},fs'.map (·.1)=fs.map (·.1)->aV K H (fs.map (·.2)) (fs'.map (·.2))->(d9 f v fs').map (·.1)=(mR f w fs).map (·.1)/\aV K H ((mR f w fs).map (·.2)) ((d9 f v fs').map (·.2))/\(mR f w fs).length<=fs.length+1
 | [],[],_,_=>⟨rfl,.cons rv .nil,le_refl _⟩
 | [],_::_,n,_=>by cases n
 | _::_,[],n,_=>by cases n
 | (g,x)::r,(g',x')::r',n,rs=>by
   rw[map_cons,map_cons,List.cons.injEq] at n;obtain⟨n1,n2⟩:=n;have n1:g'=g:=n1;subst n1;cases rs with
   | cons r1 r2=>
     obtain⟨a1,a2,a3⟩:=mS (f:=f) rv n2 r2;unfold d9 mR
     by_cases h:g'=f
     ·rw[if_pos h,if_pos h];refine⟨?_,.cons rv r2,by simp⟩;rw[map_cons,map_cons,n2]
     ·rw[if_neg h,if_neg h];refine⟨?_,.cons r1 a2,by simp;assumption⟩;rw[map_cons,map_cons,a1]
end
section
variable {X:Cx}
noncomputable def BX (K:PySem.W.Frag) (to:WE) (f:Str):WE:=λτ G q=>to τ G λx G1=>∃a C fs v,x=.ref a/\G1 a=some (.ins C fs)/\(cV K C/\ay K C f)/\fs.lookup f=some v/\q v G1
theorem bn {o:Expr} {to:WE} {f:Str} (ho:QE X o to) (hb:attributeBase o f X.env (eval o X.env)=eval o X.env:=by rfl):QE X (.Attribute o f pos) (BX X.K to f):=
 (yK ho hb).imp λσ H Q z0=>z0.el λτ G q hs hg ht hQ=>⟨τ,G,_,hs,hg,ht,λv H1 w G1 t1 r1 g1 q1=>by
   obtain⟨a,C,fs,v',rfl,hG,hc,hl,q1⟩:=q1;cases r1;obtain⟨_,dx,fs',hH,hn,hr⟩:=g1 a _ hG;obtain⟨v2,hv2,rv2⟩:=iE hn hr hl;exact⟨a,C,dx,fs',v2,rfl,hH,hc.1,hc.2,hv2,hQ v2 H1 v' G1 t1 rv2 g1 q1⟩⟩
noncomputable def xY (K:PySem.W.Frag) (to te:WE) (f:Str):WS:=λd τ G=>te τ G λy G1=>to τ G1 λx G2=>∃a C fs,x=.ref a/\G2 a=some (.ins C fs)/\(cV K C/\ay K C f)/\fs.length<100/\d.nx τ (aL G2 a (.ins C (mR f y fs)))
theorem cc {o e:Expr} {to te:WE} {f:Str} {pos pos':Pos} (ho:QE X o to) (he:QE X e te) (hs:swapsWith e (some (.Attribute o f pos')) pos.line X.env=pure false:=by rfl):QS X (.Assign [.Attribute o f pos'] e pos) (xY X.K to te f):=
 (yL ho he hs).imp λD σ H z0=>z0.el λτ G d rs rg ht l=>⟨τ,G,_,rs,rg,ht,λy H1 w G1 t1 r1 g1 q1=>⟨τ,G1,_,rs.mono t1,g1,q1,λv H2 w2 G2 t2 r2 g2 q2=>by
   obtain⟨a,C,fs,rfl,hG,hc,hlen,q2⟩:=q2;cases r2;obtain⟨_,dx,fs',hH,hn,hr⟩:=g2 a _ hG;obtain⟨a1,a2,a3⟩:=mS (f:=f) (r1.mono t2) hn hr;have tl:=aP.ins hH (.ins C dx (d9 f y fs'));have hlen':fs'.length=fs.length:=by simpa using congrArg List.length hn
   refine⟨a,C,dx,fs',rfl,hH,hc.1,hc.2,by (clear a3;lia),l.nx σ _ τ _ ((t1.trans t2).trans tl) (((rs.mono t1).mono t2).mono tl) (g2.lay (g:= .ins C (mR f w fs)) tl ⟨by lia,dx,_,bg,a1,a2.mono tl⟩) q2⟩⟩⟩
noncomputable def pN (C:Addr) (sp:bP) (dws:List W) (t:WA):WE:=λτ G q=>t τ G λws G1=>∀p,G1 p=none->sp (.ref p::(ws++dws)) (aL G1 p (.ins C [])) (λv G2=>v=.non/\q (.ref p) G2) λ_ _=>False
theorem j7.make {C:Addr} {sp:bP} {dws:List W} {dvs:List V} {t:WA} {σ:St} {H:Hp} {Q:VK} {E:XK} (hd:∀H,aV K H dws dvs) (h:j7 K (pN C sp dws t) σ H Q):xH C (u9 K sp) dvs E (LA K t) σ H Q:=by
 obtain⟨τ,G,q,hs,hg,ht,hQ⟩:=h;refine⟨τ,G,_,hs,hg,ht,λvs H1 ws G1 t1 r1 g1 q1 x dx hx hdx hne=>?_⟩;have hdx':upd H1 dx (.own x) x=none:=by rw[aD (Ne.symm hne)];exact hx
 have tl:=(aP.new hdx (.own x)).trans (aP.new hdx' (.ins C dx []));have g2:aM K (upd (upd H1 dx (.own x)) x (.ins C dx [])) (aL G1 x (.ins C [])):=(g1.keep hdx (.own x)).lay (aP.new hdx' _) ⟨by simp,dx,[],bg,rfl,.nil⟩;exact⟨.ref x::(ws++dws),_,_,_,.cons (.ref x) ((r1.mono tl).append (hd _)),g2,q1 x (g1.fresh hx),λv H2 w G2 t2 r2 g2 q2=>by
  obtain⟨e,q2⟩:=q2;subst e;cases r2;exact⟨rfl,hQ _ H2 _ G2 ((t1.trans tl).trans t2) (.ref x) g2 q2⟩,λ_ _ _ _ _ _ z=>z.elim⟩
theorem v7 {C f:Addr} {sp:bP} {p pos:Pos} {t:WA} (M:Mk X.K C f) (F:bW X.prog X.w X.K X.mg X.base k f fd ps sp) (hr:aw (k+1) X.A) (hg:Gl X x) (hm:X.mg x=some (.ref C)) (hb:bI X.K fd ps [])
 (ha:QA X (e::es) t) (hdb:(x==("__debug__":Str))=false:=by decide) (he:starEach (e::es) X.env=(false,eval e X.env)::starEach es X.env:=by rfl) (hpl:(backTo pos (starEach es X.env)).any (·.1)=false:=by rfl):
 QE X (.Call (.Name x p) (e::es) [] pos) (pN C sp [] t):=
 (vB (dvs:=[]) M F hr hg hm hb .nil (ky (X:=X)) ha hdb he hpl).imp λ_ _ _ h=>j7.make (λ_=> .nil) h
noncomputable def jr (C:Addr) (m:Str) (sp:bP) (dws:List W) (to:WE) (t:WA):WE:=λτ G q=>to τ G λx G1=>∃a fs,x=.ref a/\G1 a=some (.ins C fs)/\fs.lookup m=none/\t τ G1 λws G2=>sp (x::(ws++dws)) G2 q λ_ _=>False
theorem j7.meth {C:Addr} {m:Str} {sp:bP} {dws:List W} {dvs:List V} {to:WE} {t:WA} {σ:St} {H:Hp} {Q:VK} {E:XK} (hd:∀H,aV K H dws dvs) (h:j7 K (jr C m sp dws to t) σ H Q):rT C m (u9 K sp) dvs E (j7 K to) (LA K t) σ H Q:=by
 obtain⟨τ,G,q,hs,hg,ht,hQ⟩:=h;refine⟨τ,G,_,hs,hg,ht,λx H1 w G1 t1 r1 g1 q1=>?_⟩;obtain⟨a,fs,rfl,hG,hl,q1⟩:=q1;cases r1;obtain⟨_,dx,fs',hH,hn,_⟩:=g1 a _ hG;refine⟨a,dx,fs',rfl,hH,fG hn hl,τ,G1,_,hs.mono t1,g1,q1,λvs H2 ws G2 t2 r2 g2 q2=>?_⟩;exact⟨.ref a::(ws++dws),G2,q,_,.cons (.ref a) (r2.append (hd _)),g2,q2,λv H3 w3 G3 t3=>hQ v H3 w3 G3 ((t1.trans t2).trans t3),λ_ _ _ _ _ _ z=>z.elim⟩
structure Mt (P:Program) (w:World) (K:PySem.W.Frag) (mg:Str->Option Value) (base:Heap) (C:Addr) (m:Str) (ps:List Str) (k:Nat) (sp:bP) (dws:List W):Prop where
 ex:∃(f:Addr) (fd:FuncData) (ds:List Value) (dvs:List V),qI K C m f/\bW P w K mg base k f fd ps sp/\bI K fd ps ds/\aX dvs ds/\∀H,aV K H dws dvs
 cl:cV K C
theorem lK {C:Addr} {m:Str} {sp:bP} {dws:List W} {o e:Expr} {to:WE} {t:WA} {apos pos:Pos} {pl:Sem Bool} (ho:QE X o to) (M:Mt X.prog X.w X.K X.mg X.base C m ps k sp dws) (hr:aw k X.A) (ha:QA X (e::es) t)
 (hst:starEach (e::es) X.env=(false,eval e X.env)::starEach es X.env:=by rfl) (hpl:(backTo pos (starEach es X.env)).any (·.1)=false:=by rfl)
 (ht:eval (.Call (.Attribute o m apos) (e::es) [] pos) X.env=(do
   let ov ←eval o X.env
   standAt apos.atName
   let (f,first) ←holding [ov] (getMethod ov m pl)
   callWith pos f first (backTo pos (starEach (e::es) X.env)) (backToKw pos (keywordEach [] X.env))):=by rfl):QE X (.Call (.Attribute o m apos) (e::es) [] pos) (jr C m sp dws to t):=by
 obtain⟨⟨f,fd,ds,dvs,hm,F,hb,hd,hrep⟩,c⟩:=M;exact(pp (pl:=pl) ho c hm F hr hb hd (ky (X:=X)) ha hst hpl ht).imp λ_ _ _ h=>j7.meth hrep h
theorem js {C:Addr} {m:Str} {sp:bP} {dws:List W} {o:Expr} {to:WE} {apos pos:Pos} {pl:Sem Bool} (ho:QE X o to) (M:Mt X.prog X.w X.K X.mg X.base C m ps k sp dws) (hr:aw k X.A)
 (ht:eval (.Call (.Attribute o m apos) [] [] pos) X.env=(do
   let ov ←eval o X.env
   standAt apos.atName
   let (f,first) ←holding [ov] (getMethod ov m pl)
   callWith pos f first (backTo pos (starEach [] X.env)) (backToKw pos (keywordEach [] X.env))):=by rfl):QE X (.Call (.Attribute o m apos) [] [] pos) (jr C m sp dws to j8):=by
 obtain⟨⟨f,fd,ds,dvs,hm,F,hb,hd,hrep⟩,c⟩:=M;refine(rW (pl:=pl) ho c hm F hr hb hd (ky (X:=X)) ht).imp λσ H Q z0=>z0.el λτ G q hs hg ht hQ=>?_;refine⟨τ,G,_,hs,hg,ht,λx H1 w G1 t1 r1 g1 q1=>?_⟩;obtain⟨a,fs,rfl,hG,hl,q1⟩:=q1;cases r1;obtain⟨_,dx,fs',hH,hn,_⟩:=g1 a _ hG;exact⟨a,dx,fs',rfl,hH,fG hn hl,.ref a::([]++dws),G1,q,_,.cons (.ref a) (hrep _),g1,q1,λv H3 w3 G3 t3=>hQ v H3 w3 G3 (t1.trans t3),λ_ _ _ _ _ _ z=>z.elim⟩
noncomputable def zz (to:WE):WE:=λτ G q=>to τ G λx G1=>match x with
 | .ref a=>∃ys y,G1 a=some (.lst (ys++[y]))/\q y (aL G1 a (.lst ys))
 | _=>False
theorem aV.snoc {K:PySem.W.Frag} {H:Hp}:∀{ys:List W} {y:W} {xs:List V},aV K H (ys++[y]) xs->∃v,xs[xs.length-1]?=some v/\bK K H y v/\aV K H ys xs.dropLast
 | [],y,xs,r=>by
   obtain⟨v,rfl,rv⟩:=r.one;exact⟨v,rfl,rv,.nil⟩
 | w::ys,y,_,.cons (v:=v) (vs:=vs) r rs=>by
   obtain⟨u,h1,h2,h3⟩:=aV.snoc rs;have hl:=rs.length;cases vs with
   | nil=>simp at hl
   | cons v2 vs2=>
     refine⟨u,?_,h2,?_⟩
     ·simpa using h1
     ·rw[List.dropLast_cons₂];exact .cons r h3
theorem zA {o:Expr} {to:WE} {apos cpos:Pos} (ho:QE X o to)
 (hbase:attributeBase o "pop" X.env (eval o X.env)=eval o X.env:=by rfl) (hline:(apos.endLine==cpos.line)=true:=by rfl):QE X (.Call (.Attribute o "pop" apos) [] [] cpos) (zz to):=
 (yS PySem.F.plainAttrs_list PySem.F.slot_list_pop PySem.F.type_list_pop yT ho hbase hline).imp λσ H Q z0=>z0.el λτ G q hs hg ht hQ=>
   ⟨τ,G,_,hs,hg,ht,λv H1 w G1 t1 r1 g1 q1=>by
     split at q1
     ·rename_i a;cases r1;obtain⟨ys,y,e1,q1⟩:=q1;obtain⟨hl,xs',h1,rr⟩:=g1 a _ e1;obtain⟨u,hu,ru,rd⟩:=rr.snoc;refine⟨.inl ⟨rfl,xs',cU.of h1⟩,a,xs',u,rfl,rfl,h1,hu,?_⟩;have tl:=aP.lst h1 (.lst xs'.dropLast);exact hQ _ _ _ _ (t1.trans tl) (ru.mono tl) (g1.put tl rd (by simp at hl;lia)) q1
     ·exact q1.elim⟩
noncomputable def D1:Stmt->List Stmt
 | .ClassDef _ _ _ b _ _ _ _ _ _ _=>b
 | _=>[]
noncomputable def Md (K:PySem.W.Frag) (C:Addr) (m qual:Str) (st:Stmt) (ps:List Str):Prop:=∃(f:Addr) (fd:FuncData),qI K C m f/\cq K m qual st f fd/\bI K fd ps []
noncomputable def vc (K:PySem.W.Frag) (C:Addr) (qual:Str) (st:Stmt) (ps:List Str):Prop:=∃(f:Addr) (fd:FuncData),Mk K C f/\cq K "__init__" qual st f fd/\bI K fd ps []
section
variable {P:Program} {w:World} {K:PySem.W.Frag} {mg:Str->Option Value} {base:Heap} {C:Addr} {m qual:Str} {st:Stmt} {ps:List Str} {k:Nat} {sp:bP} {dws:List W}
theorem Md.mt (D:Md K C m qual st ps) (c:cV K C) (h:∀(f:Addr) (fd:FuncData),cq K m qual st f fd->bW P w K mg base k f fd ps sp):Mt P w K mg base C m ps k sp []:=by
 obtain⟨f,fd,hm,F,b⟩:=D;exact⟨⟨f,fd,[],[],hm,h f fd F,b,.nil,λ_=> .nil⟩,c⟩
noncomputable def mT (P:Program) (w:World) (K:PySem.W.Frag) (mg:Str->Option Value) (base:Heap) (x:Str) (C:Addr) (ps:List Str) (k:Nat) (sp:bP):Prop:=∃(f:Addr) (fd:FuncData),Mk K C f/\bW P w K mg base k f fd ps sp/\mg x=some (.ref C)/\bI K fd ps []
theorem vc.new (D:vc K C qual st ps) (hm:mg x=some (.ref C)) (h:∀(f:Addr) (fd:FuncData),cq K "__init__" qual st f fd->bW P w K mg base k f fd ps sp):mT P w K mg base x C ps k sp:=by
 obtain⟨f,fd,M,F,b⟩:=D;exact⟨f,fd,M,h f fd F,hm,b⟩
end
theorem eL {C:Addr} {sp:bP} {p pos:Pos} {t:WA} (M:mT X.prog X.w X.K X.mg X.base x C ps k sp) (hr:aw (k+1) X.A) (hg:Gl X x)
 (ha:QA X (e::es) t) (hdb:(x==("__debug__":Str))=false:=by decide) (he:starEach (e::es) X.env=(false,eval e X.env)::starEach es X.env:=by rfl) (hpl:(backTo pos (starEach es X.env)).any (·.1)=false:=by rfl):
 QE X (.Call (.Name x p) (e::es) [] pos) (pN C sp [] t):=by
 obtain⟨f,fd,M,F,hm,b⟩:=M;exact v7 M F hr hg hm b ha hdb he hpl
theorem cF {α:Type} {p:List α->Prop} (h:p []) (us:List α) (e:us.length=0):p us:=by
 rw[List.eq_nil_of_length_eq_zero e];exact h
theorem bD {α:Type} {n:Nat} {p:List α->Prop} (h:∀a,∀us:List α,us.length=n->p (a::us)) (us:List α) (e:us.length=n+1):p us:=by
 cases us with
 | nil=>exact absurd e (Nat.succ_ne_zero n).symm
 | cons a us=>exact h a us (Nat.succ.inj e)
end
structure BY (P:Program) (w:World) (K:PySem.W.Frag) (mg:Str->Option Value) (base:Heap) (C:Addr) (m:Str) (ps:List Str) (k:Nat) (sp:bP) (dws:List W):Prop where
 ex:∃(f:Addr) (fd:FuncData) (ds:List Value) (dvs:List V),qI K C m f/\sR P w K mg base k f fd ps sp/\bI K fd ps ds/\aX dvs ds/\∀H,aV K H dws dvs
 cl:cV K C
section
variable {X:Cx} {x:Str} {p pos:Pos}
end
section
variable {X:Cx} {p pos:Pos}
noncomputable def xZ (S:Addr->Prop) (t:Addr->WE):WE:=λτ G q=>∃C,S C/\t C τ G q
theorem iV {S:Addr->Prop} {t:Addr->WE} (h:∀C,S C->QE X e (t C)):QE X e (xZ S t):=λπ s σ H Q I ⟨τ,G,q,a,b,⟨C,hC,ht⟩,d⟩=>h C hC π s σ H Q I ⟨τ,G,q,a,b,ht,d⟩
end
noncomputable def Fh (K:PySem.W.Frag) (a:Addr) (n:Nat):It:=
 ⟨λi H=>∃xs x,cU K H a xs/\xs.length=n/\i<n/\xs[n-1-i]?=some x,λi H x H'=>H'=H/\∀xs,cU K H a xs->xs[n-1-i]?=some x,λi H=>∃xs,cU K H a xs/\xs.length=n/\n<=i⟩
theorem v9 {tg:Expr} (a it:Addr) (n:Nat):lq P w K tg (Fh K a n) [it] it (λi h=>i<=n/\h.IsRevIter it a ((n:Int)-1- (i:Int))) where
 mem:=by simp
 obj:=λi h st b hb=>by
  have e:b=it:=by simpa using hb
  subst e;obtain⟨_,o,e,c,d⟩:=st;exact⟨o,e,λv z=>by rw[d] at z;cases z⟩
 keep:=λi h h' st k=>⟨st.1,st.2.at λo e=>k it (by simp) o e⟩
 item:=by
  intro X hP hw hK hc i π s σ H E I hf st hg;subst hP hw hK;obtain⟨xs,x,hq,hl,hi,hx⟩:=hg;obtain⟨its,rv,p,hz⟩:=I.list hq;obtain⟨u,hu,ru⟩:=rv.get hx;obtain⟨f0,f1,f2,f3,f4,f5⟩:=hf it (by simp);have st1:s.heap.IsRevIter it a ((n-1-i:Nat):Int):=by have:=st.2;rw[show(n:Int)-1- (i:Int)=((n-1-i:Nat):Int) by (clear st hx hz hu f3;lia)] at this;exact this
  refine wpAny_pyNext_rev_item st1 p.isList (x:=u) (by simpa using hu) λh' st' sb=>?_;have I1:aC X π σ H { s with heap:=h' }:=I.turned (t':=s.toks) (λb o hb e=>(sb.2 b hb).trans e) f0 f1 f3 f4 f5;obtain⟨o,e,c,d⟩:=id st';exact⟨u,rfl,kn (s:={ s with heap:=h' }) e c d (by decide) ⟨x,H,I1,ru,⟨rfl,λys hy=>by rw[I.list_inj hy hq];exact hx⟩,⟨by assumption,by rw[show(n:Int)-1- ((i+1:Nat):Int)=((n-1-i:Nat):Int)-1 by (clear st hx hz hu f3;lia)];exact st'⟩,λb hb=>(hf b hb).1⟩⟩
 done:=by
  intro X hP hw hK hc i π s σ H E I hf st hg;subst hP hw hK;obtain⟨xs,hq,hl,hi⟩:=hg;obtain⟨f0,f1,f2,f3,f4,f5⟩:=hf it (by simp);have st1:s.heap.IsRevIter it a (-1):=by have:=st.2;rw[show(n:Int)-1- (i:Int)= -1 by have:=st.1;(clear f3 this;lia)] at this;exact this
  exact wpAny_pyNext_rev_end (I.ok.hd hc) st1 λh' eb=>⟨rfl,I.turned (t':=s.toks) (λb o hb e=>eb b o hb e) f0 f1 f3 f4 f5⟩
 self:=λ_ _ _ _ _ st h=>wpAny_pyIter_revIter st.2 h
theorem zB {ws:List W} {H:Hp} {n:Nat} (hn:ws.length=n):pI K (Fh K a n) ws.reverse (λG=>G a=some (.lst ws)) H where
 stop:=λi H1 G t g eG hl=>by
  obtain⟨_,xs,h1,r⟩:=g a _ eG;exact⟨xs,cU.of h1,by rw[←r.length];exact hn,by simp at hl;lia⟩
 go:=λi w H1 G t g eG e=>by
  obtain⟨_,xs,h1,r⟩:=g a _ eG;have hl:=r.length;have hi:i<ws.length:=by
   rcases lt_or_ge i ws.length with z | z
   ·exact z
   ·rw[List.getElem?_eq_none (by simpa using z)] at e;cases e
  rw[List.getElem?_reverse hi] at e;obtain⟨v,e1,rv⟩:=r.get e;rw[hn] at e1;refine⟨⟨xs,v,cU.of h1,by (clear e hi e1;lia),by (clear e e1;lia),e1⟩,λx H' ⟨eH,hy⟩=>?_⟩;subst eH;have e2:=hy xs (cU.of h1);rw[e1] at e2;cases e2;exact⟨aP.refl _,rv,g⟩
noncomputable def x4 (ta:WA):WI:=λτ G r=>ta τ G λws G1=>match ws with
 | [.ref a]=>∃xs,G1 a=some (.lst xs)/\r xs.reverse (λG=>G a=some (.lst xs)) G1
 | _=>False
theorem pO {X:Cx} {tg a:Expr} {ta:WA} {p pos:Pos} (hg:Gl X "reversed") (hm:X.mg "reversed"=none) (ha:QA X [a] ta) (hs:starEach [a] X.env=[(false,eval a X.env)]:=by rfl):
 QI X tg (.Call (.Name "reversed" p) [a] [] pos) (x4 ta):=by
 rintro π s σ H R I ⟨τ,G,r,hτ,hG,ht,hR⟩;refine Call_ (fU I hg hm pM (PyProof.Rows.callWith_type1 (bV (ha pos π s σ H (λvs H1=>∃ws G1,aP H H1/\aV X.K H1 ws vs/\aM X.K H1 G1/\match ws with | [.ref a]=>∃xs,G1 a=some (.lst xs)/\r xs.reverse (λG=>G a=some (.lst xs)) G1 | _=>False) I ⟨τ,G,_,hτ,hG,ht,λvs H1 ws G1 t1 r1 g1 q1=>⟨ws,G1,t1,r1,g1,q1⟩⟩) λus s1 ⟨vs,H1,I1,ru,ws,G1,t1,r1,g1,q1⟩=>?_) (by rw[hs];rfl) (by rfl)));split at q1
 ·rename_i pa;obtain⟨ws,eG,q1⟩:=q1;cases r1 with
  | cons ra rn=>
    cases rn;cases ra;cases ru with
    | cons w1 wn=>
      cases wn;cases (show _=Value.ref pa from w1);obtain⟨_,xs',h1,rr⟩:=g1 _ _ eG;obtain⟨its,rv,p1,hz⟩:=I1.list (cU.of h1);have hl:=rv.length;have hr:=rr.length;refine call_reversed_list p1.isList ?_;have st0:(s1.heap.push (revObj pa ((its.toArray.size:Int)-1))).IsRevIter s1.heap.objs.size pa ((ws.length:Int)-1- ((0:Nat):Int)):=⟨_,Heap.get?_push_size _ rfl,rfl,by
       rw[show((ws.length:Int)-1- ((0:Nat):Int))=(its.toArray.size:Int)-1 by simp;(clear hz;lia)];rfl⟩
      refine wpAny_pyIter_revIter (s:={ s1 with heap:=s1.heap.push (revObj pa ((its.toArray.size:Int)-1)) }) st0 ?_;refine⟨s1.heap.objs.size,[s1.heap.objs.size],_,_,H1,rfl,I1.kept (t':=s1.toks) λb o e=>Heap.get?_push_of_some _ e,v9 pa _ ws.length,⟨zero_le _,st0⟩,λb hb=>?_,hR _ H1 _ _ G1 t1 g1 (zB rfl) q1⟩;have e:b=s1.heap.objs.size:=by simpa using hb
      subst e;exact I1.fpOk (le_refl _) (I1.hok.fresh (le_refl _))
 ·exact q1.elim
section
variable {X:Cx}
theorem zC (x y:Str):(W.str x).eq (.str y)=decide (x=y):=by
 simp only[W.eq];rw[Bool.eq_iff_iff,beq_iff_eq,decide_eq_true_eq]
theorem sX (x:Str):(W.str x).flat=true:=rfl
theorem wa (x:Str):(W.str x).dep=0:=rfl
theorem zD (x:Str):decide (x=x)=true:=decide_eq_true rfl
theorem BZ:decide (Str.ofString "set"=Str.ofString "copy")=false/\decide (Str.ofString "set"=Str.ofString "add")=false/\decide (Str.ofString "set"=Str.ofString "less")=false/\decide (Str.ofString "set"=Str.ofString "times")=false/\decide (Str.ofString "set"=Str.ofString "count")=false/\decide (Str.ofString "set"=Str.ofString "while")=false/\decide (Str.ofString "copy"=Str.ofString "set")=false/\decide (Str.ofString "copy"=Str.ofString "add")=false/\decide (Str.ofString "copy"=Str.ofString "less")=false/\decide (Str.ofString "copy"=Str.ofString "times")=false/\decide (Str.ofString "copy"=Str.ofString "count")=false/\decide (Str.ofString "copy"=Str.ofString "while")=false/\decide (Str.ofString "add"=Str.ofString "set")=false/\decide (Str.ofString "add"=Str.ofString "copy")=false/\decide (Str.ofString "add"=Str.ofString "less")=false/\decide (Str.ofString "add"=Str.ofString "times")=false/\decide (Str.ofString "add"=Str.ofString "count")=false/\decide (Str.ofString "add"=Str.ofString "while")=false/\decide (Str.ofString "less"=Str.ofString "set")=false/\decide (Str.ofString "less"=Str.ofString "copy")=false/\decide (Str.ofString "less"=Str.ofString "add")=false/\decide (Str.ofString "less"=Str.ofString "times")=false/\decide (Str.ofString "less"=Str.ofString "count")=false/\decide (Str.ofString "less"=Str.ofString "while")=false/\decide (Str.ofString "times"=Str.ofString "set")=false/\decide (Str.ofString "times"=Str.ofString "copy")=false/\decide (Str.ofString "times"=Str.ofString "add")=false/\decide (Str.ofString "times"=Str.ofString "less")=false/\decide (Str.ofString "times"=Str.ofString "count")=false/\decide (Str.ofString "times"=Str.ofString "while")=false/\decide (Str.ofString "count"=Str.ofString "set")=false/\decide (Str.ofString "count"=Str.ofString "copy")=false/\decide (Str.ofString "count"=Str.ofString "add")=false/\decide (Str.ofString "count"=Str.ofString "less")=false/\decide (Str.ofString "count"=Str.ofString "times")=false/\decide (Str.ofString "count"=Str.ofString "while")=false/\decide (Str.ofString "while"=Str.ofString "set")=false/\decide (Str.ofString "while"=Str.ofString "copy")=false/\decide (Str.ofString "while"=Str.ofString "add")=false/\decide (Str.ofString "while"=Str.ofString "less")=false/\decide (Str.ofString "while"=Str.ofString "times")=false/\decide (Str.ofString "while"=Str.ofString "count")=false:=by decide+kernel
end
section
variable {P:Program} {w:World} {K:PySem.W.Frag} {mg:Str->Option Value} {base:Heap} {N:List Str} {qual:Str} {scope:Scope} {f:Addr} {cdv:Value} {A:Around} {outer:List Env} {s:Shared} {H:Hp} {E:XK}
noncomputable def sY (C:Addr) (m:Str) (sp:bP) (dws:List W) (to:WE) (t:WA) (e:WX):WE:=λτ G q=>to τ G λx G1=>∃a fs,x=.ref a/\G1 a=some (.ins C fs)/\fs.lookup m=none/\t τ G1 λws G2=>sp (x::(ws++dws)) G2 q e
theorem sZ {C:Addr} {m:Str} {sp:bP} {dws:List W} {o e0:Expr} {to:WE} {t:WA} {apos pos:Pos} {pl:Sem Bool} {e:WX} (ho:QE (dm (oB P w) P w K mg base N qual scope f cdv A outer s H E) o to) (M:BY P w K mg base C m ps k sp dws) (hr:aw k (A.deeper (envOfC qual scope s.heap.objs.size f cdv)))
 (hE:∀c H1 G1,aP H H1->aM K H1 G1->e c G1->E c none H1) (ha:QA (dm (oB P w) P w K mg base N qual scope f cdv A outer s H E) (e0::es) t)
 (hst:starEach (e0::es) (envOfC qual scope s.heap.objs.size f cdv)=(false,eval e0 (envOfC qual scope s.heap.objs.size f cdv))::starEach es (envOfC qual scope s.heap.objs.size f cdv):=by rfl) (hpl:(backTo pos (starEach es (envOfC qual scope s.heap.objs.size f cdv))).any (·.1)=false:=by rfl)
 (ht:eval (.Call (.Attribute o m apos) (e0::es) [] pos) (envOfC qual scope s.heap.objs.size f cdv)=(do
   let ov ←eval o (envOfC qual scope s.heap.objs.size f cdv)
   standAt apos.atName
   let (fn,first) ←holding [ov] (getMethod ov m pl)
   callWith pos fn first (backTo pos (starEach (e0::es) (envOfC qual scope s.heap.objs.size f cdv))) (backToKw pos (keywordEach [] (envOfC qual scope s.heap.objs.size f cdv)))):=by rfl):QE (dm (oB P w) P w K mg base N qual scope f cdv A outer s H E) (.Call (.Attribute o m apos) (e0::es) [] pos) (sY C m sp dws to t e):=by
 obtain⟨⟨f1,fd,ds,dvs,hm,F,hb,hd,hrep⟩,c⟩:=M;refine(pp (X:=dm (oB P w) P w K mg base N qual scope f cdv A outer s H E) (E:=λc _ H1=>∃G1,aM K H1 G1/\e c G1) (pl:=pl) ho c hm F hr hb hd (vU λC H1 t1 z=>?_) ha hst hpl ht).imp λσ H2 Q h=>?_
 ·obtain⟨G1,g1,z1⟩:=z;exact hE _ H1 G1 t1 g1 z1
 ·obtain⟨τ,G,q,hs,hg,ht,hQ⟩:=h;refine⟨τ,G,_,hs,hg,ht,λx H1 w G1 t1 r1 g1 q1=>?_⟩;obtain⟨a,fs,rfl,hG,hl,q1⟩:=q1;cases r1;obtain⟨_,dx,fs',hH,hn,_⟩:=g1 a _ hG;refine⟨a,dx,fs',rfl,hH,fG hn hl,τ,G1,_,hs.mono t1,g1,q1,λvs H2 ws G2 t2 r2 g2 q2=>?_⟩;exact⟨.ref a::(ws++dws),G2,q,e,.cons (.ref a) (r2.append (hrep _)),g2,q2,λv H3 w3 G3 t3=>hQ v H3 w3 G3 ((t1.trans t2).trans t3),λc d H3 G3 _ g3 z=>⟨G3,g3,z⟩⟩
end
section
variable {X:Cx} {π:List (Addr×Obj)} {σ:St} {H:Hp} {s:Shared} {h':Heap} {ch:List Addr}
theorem aC.pair {x y:V} {ux uy:Value} (I:aC X π σ H s) (hf:∀c,c∈ch->iM X π H c) (keep:∀c o,c∉ch->s.heap.get? c=some o->h'.get? c=some o) (tn:h'.get? s.heap.objs.size=some { cls:= .type "tuple",data:= .seq #[ux,uy] }) (rx:bf x ux) (ry:bf y uy):aC X π σ (upd H s.heap.objs.size (.tup [x,y])) { s with heap:=h' }:=by
 have hnew:H s.heap.objs.size=none:=I.hok.fresh (le_refl _);have tr:∀c u,H c=some u->c∉ch:=λc u e hc=>by rw[(hf c hc).1] at e;cases e
 refine I.step (g':=s.gens) (d':=s.drawn) (t':=s.toks) (ch:=ch) (λc hc=>?_) (λc o _ _ hc e _=>keep c o hc e) (λc o _ _ hc e _=>⟨o.slots,keep c o hc e⟩) (λc o _ e n=>?_) (λc o hc e=>⟨o,keep c o hc e⟩) (λc xs e=>?_) (λc o u e=>?_) (λc ps e=>⟨#[],?_⟩) (λm hm=>?_) (λc u e=>?_) I.bare
 ·obtain⟨_,f1,_,f3,f4,f5⟩:=hf c hc;exact⟨f3,f1,f4,f5⟩
 ·rw[aD (ne_of_lt (Heap.lt_size e))];exact n
 ·rw[aD (bh e hnew)];exact e
 ·rw[aD (bh e hnew)];exact e
 ·rw[aD (bh e hnew),e];simp
 ·obtain⟨o,es,ep,ho,bH⟩:=hm;exact⟨o,es,ep,keep _ o (λhc=>(hf _ hc).2.1 rfl) ho,bH⟩
 ·by_cases hcs:c=s.heap.objs.size
  ·subst hcs;rw[bg] at e;cases e;exact⟨by show 2<=sizeLine;decide,[ux,uy],.cons rx (.cons ry .nil),⟨_,tn,rfl,_,rfl⟩⟩
  ·rw[aD hcs] at e;refine(I.hok c u e).stay (λc' v hc' q=>keep c' v ?_ q) (λc' q=>by rw[aD (bh q hnew)];exact q) λc' xs q=>by rw[aD (bh q hnew)];exact q
   rcases hc' with rfl | hc'
   ·exact tr _ _ e
   ·exact tr _ _ hc'
end
structure ZL (z p r i j a b:Addr) (n:Nat) (f:Value) (h:Heap):Prop where
 hz:IsZip h z p r f
 hp:IsPair h p (.ref i) (.ref j)
 hr:∃x y,IsPair h r x y
 hi:h.IsListIter i a n
 hj:h.IsListIter j b n
section
variable {P:Program} {w:World} {K:PySem.W.Frag}
end
section
variable {X:Cx}
end
end L2
namespace Nm
inductive O where
 | z
 | c (e:O) (n:Int) (r:O)
 deriving DecidableEq
namespace O
noncomputable def cmp:O->O->Int
 | z,z=>0
 | z,c _ _ _=> -1
 | c _ _ _,z=>1
 | c e n r,c e' n' r'=>
   if cmp e e'≠0 then cmp e e' else if n<n' then -1 else if n'<n then 1 else cmp r r'
noncomputable def size:O->Nat
 | z=>0
 | c e _ r=>1+size e+size r
noncomputable def dp:O->Nat
 | z=>0
 | c e _ r=>max (dp e+1) (dp r)
noncomputable def len:O->Nat
 | z=>0
 | c _ _ r=>len r+1
noncomputable def app:O->O->O
 | z,b=>b
 | c e n r,b=>c e n (app r b)
noncomputable def filt (p:O->Int->Bool):O->O
 | z=>z
 | c e n r=>if p e n then c e n (filt p r) else filt p r
noncomputable def same (x:O):O->Int
 | z=>0
 | c e n r=>if e=x then n+same x r else same x r
noncomputable def init:O->O
 | z=>z
 | c _ _ z=>z
 | c e n r=>c e n (init r)
noncomputable def last:O->O
 | z=>z
 | c e n z=>c e n z
 | c _ _ r=>last r
theorem cmp_self:∀a:O,cmp a a=0
 | z=>rfl
 | c e n r=>by simp[cmp,cmp_self e,cmp_self r]
theorem cmp_eq:∀a b:O,cmp a b=0->a=b
 | z,z,_=>rfl
 | z,c _ _ _,h=>by simp[cmp] at h
 | c _ _ _,z,h=>by simp[cmp] at h
 | c e n r,c e' n' r',h=>by
   unfold cmp at h
   by_cases he:cmp e e'=0
   ·rw[if_neg (by simpa using he)] at h
    by_cases h1:n<n'
    ·rw[if_pos h1] at h;(clear he h1;lia)
    ·rw[if_neg h1] at h
     by_cases h2:n'<n
     ·rw[if_pos h2] at h;(clear he h1 h2;lia)
     ·rw[if_neg h2] at h;have:=cmp_eq e e' he;have:=cmp_eq r r' h;have:n=n':=by (clear h he;lia)
      subst_vars
      rfl
   ·rw[if_pos he] at h;exact absurd h he
theorem cmp_range:∀a b:O,cmp a b= -1∨cmp a b=0∨cmp a b=1
 | z,z=>by simp[cmp]
 | z,c _ _ _=>by simp[cmp]
 | c _ _ _,z=>by simp[cmp]
 | c e n r,c e' n' r'=>by
   have h1:=cmp_range e e';have h2:=cmp_range r r';unfold cmp;split
   ·exact h1
   ·split
    ·exact .inl rfl
    ·split
     ·exact .inr (.inr rfl)
     ·exact h2
theorem aO:∀a b:O,cmp b a= -cmp a b
 | z,z=>rfl
 | z,c _ _ _=>rfl
 | c _ _ _,z=>rfl
 | c e n r,c e' n' r'=>by
   have h1:=aO e e';have h2:=aO r r';unfold cmp;rw[h1,h2]
   by_cases he:cmp e e'=0
   ·rcases Int.lt_trichotomy n n' with k | k | k
    ·have k':¬n'<n:=by (clear h1 h2 he;lia)
     simp[he,k,k']
    ·subst k;simp[he]
    ·have k':¬n<n':=by (clear h1 h2 he;lia)
     simp[he,k,k']
   ·have he':¬-cmp e e'=0:=by (clear h1 h2;lia)
    simp[he,he']
theorem bo:∀a b d:O,cmp a b<0->cmp b d<0->cmp a d<0
 | z,z,_,h,_=>by simp[cmp] at h
 | z,c _ _ _,z,_,h=>by simp[cmp] at h
 | z,c _ _ _,c _ _ _,_,_=>by simp[cmp]
 | c _ _ _,z,_,h,_=>by simp[cmp] at h
 | c _ _ _,c _ _ _,z,_,h=>by simp[cmp] at h
 | c e n r,c e' n' r',c f m t,h1,h2=>by
   have ih1:=bo e e' f;have ih2:=bo r r' t;have r1:=cmp_range e e';have r2:=cmp_range e' f;unfold cmp at h1 h2 ⊢
   by_cases k1:cmp e e'=0
   ·have e1:=cmp_eq e e' k1;subst e1;rw[if_neg (by (clear r1 r2 h1 h2;lia))] at h1
    by_cases k2:cmp e f=0
    ·rw[if_neg (by (clear r1 r2 h1 h2 k1;lia))] at h2 ⊢
     by_cases a1:n<n'
     ·by_cases a2:n'<m
      ·rw[if_pos (by (clear r1 r2 h1 h2 k1 k2;lia))];(clear r1 r2 h1 h2 k1 k2 a1 a2;lia)
      ·rw[if_neg a2] at h2
       by_cases a3:m<n'
       ·rw[if_pos a3] at h2;(clear r1 r2 h1 k1 k2 a1 a2 a3;lia)
       ·rw[if_pos (by (clear r1 r2 h1 h2 k1 k2;lia))];(clear r1 r2 h1 h2 k1 k2 a1 a2 a3;lia)
     ·rw[if_neg a1] at h1
      by_cases a2:n'<n
      ·rw[if_pos a2] at h1;(clear r1 r2 h2 k1 k2 a1 a2;lia)
      ·rw[if_neg a2] at h1
       by_cases a3:n'<m
       ·rw[if_pos (by (clear r1 r2 h1 h2 k1 k2;lia))];(clear r1 r2 h1 h2 k1 k2 a1 a2 a3;lia)
       ·rw[if_neg a3] at h2
        by_cases a4:m<n'
        ·rw[if_pos a4] at h2;(clear r1 r2 h1 k1 k2 a1 a2 a3 a4;lia)
        ·rw[if_neg a4] at h2;rw[if_neg (by (clear r1 r2 h1 h2 k1 k2;lia)),if_neg (by (clear r1 r2 h1 h2 k1 k2;lia))];exact ih2 h1 h2
    ·rw[if_pos k2] at h2 ⊢;exact h2
   ·rw[if_pos k1] at h1
    by_cases k2:cmp e' f=0
    ·have e2:=cmp_eq e' f k2;subst e2;rw[if_pos k1];exact h1
    ·rw[if_pos k2] at h2;have:=ih1 h1 h2;rw[if_pos (by (clear r1 r2 h1 h2 k1 k2;lia))];exact this
noncomputable def Lt (e:O):O->Prop
 | z=>True
 | c x _ r=>cmp x e<0/\Lt e r
noncomputable def NF:O->Prop
 | z=>True
 | c e n r=>NF e/\1<=n/\Lt e r/\NF r
theorem Lt.app {e:O}:∀{a b:O},Lt e a->Lt e b->Lt e (app a b)
 | z,_,_,h=>h
 | c _ _ _,_,h1,h2=>⟨h1.1,Lt.app h1.2 h2⟩
theorem Lt.filt {e:O} (p:O->Int->Bool):∀{a:O},Lt e a->Lt e (O.filt p a)
 | z,_=>trivial
 | c _ _ _,h=>by
   unfold O.filt;split
   ·exact⟨h.1,Lt.filt p h.2⟩
   ·exact Lt.filt p h.2
theorem same_nonneg (x:O):∀{a:O},NF a->0<=same x a
 | z,_=>by simp[same]
 | c e n r,h=>by
   have h1:=h.2.1;have h2:=same_nonneg x h.2.2.2;unfold same;split<;> lia
theorem NF.join {e:O} {n:Int} {b:O} (he:NF e) (hn:1<=n) (hb:NF b) (hl:Lt e b) (hx:∀x,0<cmp x e->Lt x b):∀{a:O},NF a->NF (O.app (O.filt (λx _=>decide (0<cmp x e)) a) (c e n b))
 | z,_=>⟨he,hn,hl,hb⟩
 | c x k r,h=>by
   unfold O.filt;split
   ·rename_i hp;have hp':0<cmp x e:=by simpa using hp
    have hs:=aO x e;exact⟨h.1,h.2.1,Lt.app (h.2.2.1.filt _) ⟨by (clear hn hp;lia),hx x hp'⟩,NF.join he hn hb hl hx h.2.2.2⟩
   ·exact NF.join he hn hb hl hx h.2.2.2
end O
namespace O
theorem cv (a:O):¬cmp a a<0:=by rw[cmp_self];lia
theorem ig (x:O):same x z=0:=rfl
theorem eM (e:O) (n:Int) (r:O):same e (c e n r)=n+same e r:=by simp[same]
theorem same_ne {x e:O} (h:e≠x) (n:Int) (r:O):same x (c e n r)=same x r:=by simp[same,h]
theorem bO {e x:O} (hx:¬cmp x e<0):∀{r:O},Lt e r->same x r=0
 | z,_=>rfl
 | c y n t,h=>by
   have hy:y≠x:=λk=>hx (k▸h.1);rw[same_ne hy];exact bO hx h.2
theorem same_self {e:O} {n:Int} {r:O} (h:Lt e r):same e (c e n r)=n:=by
 rw[eM,bO (cv e) h];lia
theorem ba {x e:O} {n:Int} {r:O} (h:Lt e r) (hx:0<cmp x e):same x (c e n r)=0:=by
 have hne:e≠x:=λk=>by subst k;rw[cmp_self] at hx;lia
 rw[same_ne hne,bO (by lia) h]
theorem jt:∀{a b:O},NF a->NF b->(∀x,same x a=same x b)->a=b
 | z,z,_,_,_=>rfl
 | z,c e n r,_,hb,h=>by
   have:=h e;rw[same_self hb.2.2.1,ig] at this;have:=hb.2.1;lia
 | c e n r,z,ha,_,h=>by
   have:=h e;rw[same_self ha.2.2.1,ig] at this;have:=ha.2.1;lia
 | c e n r,c e' n' r',ha,hb,h=>by
   rcases cmp_range e e' with k | k | k
   ·have h1:=h e';rw[same_self hb.2.2.1,ba ha.2.2.1 (by have:=aO e e';(clear h1;lia))] at h1;have:=hb.2.1
    (clear k;lia)
   ·have k':=cmp_eq _ _ k;subst k';have h1:=h e;rw[same_self ha.2.2.1,same_self hb.2.2.1] at h1;subst h1;have hr:r=r':=jt ha.2.2.2 hb.2.2.2 λx=>by
     by_cases hx:e=x
     ·subst hx;rw[bO (cv e) ha.2.2.1,bO (cv e) hb.2.2.1]
     ·have:=h x;rw[same_ne hx,same_ne hx] at this;exact this
    rw[hr]
   ·have h1:=h e;rw[same_self ha.2.2.1,ba hb.2.2.1 (by (clear h1;lia))] at h1;have:=ha.2.1
    (clear k;lia)
theorem dP {x:O}:∀{a b:O},NF a->NF b->same x a<same x b->(∀y,0<cmp y x->same y a=same y b)->cmp a b<0
 | z,z,_,_,h,_=>by simp[same] at h
 | z,c _ _ _,_,_,_,_=>by simp[cmp]
 | c e n r,z,ha,_,h,_=>by
   have:=same_nonneg x ha;rw[ig] at h;lia
 | c e n r,c e' n' r',ha,hb,h,hy=>by
   rcases cmp_range e e' with k | k | k
   ·rw[cmp,if_pos (by (clear h;lia))];(clear h;lia)
   ·have k':=cmp_eq _ _ k;subst k';rw[cmp,if_neg (by (clear h;lia))];rcases cmp_range x e with q | q | q
    ·have hne:e≠x:=λz=>by subst z;rw[cmp_self] at q;(clear k h;lia)
     have h1:=hy e (by have:=aO x e;(clear h k;lia));rw[same_self ha.2.2.1,same_self hb.2.2.1] at h1;subst h1;rw[if_neg (by (clear k q h;lia)),if_neg (by (clear k q h;lia))];rw[same_ne hne,same_ne hne] at h;refine dP ha.2.2.2 hb.2.2.2 h λy hyx=>?_
     by_cases hye:e=y
     ·subst hye;rw[bO (cv e) ha.2.2.1,bO (cv e) hb.2.2.1]
     ·have:=hy y hyx;rw[same_ne hye,same_ne hye] at this;exact this
    ·have q':=cmp_eq _ _ q;subst q';rw[same_self ha.2.2.1,same_self hb.2.2.1] at h;rw[if_pos h];(clear h k q;lia)
    ·rw[ba ha.2.2.1 (by (clear h k;lia)),ba hb.2.2.1 (by (clear h k;lia))] at h
     (clear k q;lia)
   ·have hn:=ha.2.1;rcases cmp_range e x with q | q | q
    ·have qx:0<cmp x e:=by have:=aO e x;(clear h k hn;lia)
     have qx':0<cmp x e':=by
      have:=bo e' e x (by have:=aO e e';(clear h hn q qx;lia)) (by (clear h k hn qx;lia));have:=aO e' x
      (clear h k hn q qx;lia)
     rw[ba ha.2.2.1 qx,ba hb.2.2.1 qx'] at h
     (clear k hn q qx qx';lia)
    ·have q':=cmp_eq _ _ q;subst q';rw[same_self ha.2.2.1,ba hb.2.2.1 (by (clear hn h q;lia))] at h
     (clear k q;lia)
    ·have h1:=hy e (by (clear h k hn;lia));rw[same_self ha.2.2.1,ba hb.2.2.1 (by (clear h hn q h1;lia))] at h1
     (clear h k q;lia)
theorem cR:∀{a b:O},NF a->NF b->cmp a b<0->∃x,same x a<same x b/\∀y,0<cmp y x->same y a=same y b
 | z,z,_,_,h=>by simp[cmp] at h
 | z,c e n r,_,hb,_=>by
   refine⟨e,?_,λy hy=>?_⟩
   ·rw[same_self hb.2.2.1,ig];have:=hb.2.1;assumption
   ·rw[ba hb.2.2.1 hy,ig]
 | c _ _ _,z,_,_,h=>by simp[cmp] at h
 | c e n r,c e' n' r',ha,hb,h=>by
   rcases cmp_range e e' with k | k | k
   ·refine⟨e',?_,λy hy=>?_⟩
    ·rw[same_self hb.2.2.1,ba ha.2.2.1 (by have:=aO e e';(clear h;lia))];have:=hb.2.1;assumption
    ·have hy2:0<cmp y e:=by
      have:=bo e e' y (by (clear h hy;lia)) (by have:=aO y e';(clear h k;lia));have:=aO e y
      (clear h k hy;lia)
     rw[ba hb.2.2.1 hy,ba ha.2.2.1 hy2]
   ·have k':=cmp_eq _ _ k;subst k';rw[cmp,if_neg (by (clear h;lia))] at h
    by_cases h1:n<n'
    ·refine⟨e,?_,λy hy=>?_⟩
     ·rw[same_self ha.2.2.1,same_self hb.2.2.1];exact h1
     ·rw[ba hb.2.2.1 hy,ba ha.2.2.1 hy]
    ·rw[if_neg h1] at h
     by_cases h2:n'<n
     ·rw[if_pos h2] at h;(clear k h1 h2;lia)
     ·rw[if_neg h2] at h;have hn:n=n':=by (clear h k;lia)
      subst hn;obtain⟨x,hx,hy⟩:=cR ha.2.2.2 hb.2.2.2 h;have hxe:cmp x e<0:=by
       refine Classical.byContradiction λq=>?_;rw[bO q ha.2.2.1,bO q hb.2.2.1] at hx
       (clear h k h1 h2 q;lia)
      have hne:e≠x:=λz=>by subst z;rw[cmp_self] at hxe;(clear h k h1 h2 hx;lia)
      refine⟨x,by rw[same_ne hne,same_ne hne];exact hx,λy hyx=>?_⟩
      by_cases hye:e=y
      ·subst hye;rw[same_self ha.2.2.1,same_self hb.2.2.1]
      ·rw[same_ne hye,same_ne hye];exact hy y hyx
   ·rw[cmp,if_pos (by (clear h;lia))] at h;lia
theorem oI {a b:O} (ha:NF a) (hb:NF b) (h:∀x,same x a<=same x b):cmp a b<=0:=by
 rcases cmp_range a b with k | k | k
 ·lia
 ·lia
 ·have hs:=aO a b;obtain⟨x,hx,_⟩:=cR hb ha (by lia);have:=h x
  (clear k hs;lia)
noncomputable def plusO:O->O->O
 | a,z=>a
 | a,c e n r=>app (filt (λx _=>decide (0<cmp x e)) a) (c e (same e a+n) r)
theorem mU:∀(x a b:O),same x (app a b)=same x a+same x b
 | x,z,b=>by simp[app,same]
 | x,c e n r,b=>by
   have:=mU x r b;show same x (c e n (app r b))=_
   by_cases h:e=x
   ·subst h;rw[eM,eM,this];(clear this;lia)
   ·rw[same_ne h,same_ne h,this]
theorem kE (p:O->Bool):∀(x a:O),same x (filt (λy _=>p y) a)=if p x then same x a else 0
 | x,z=>by simp[filt,same]
 | x,c e n r=>by
   have ih:=kE p x r;unfold filt
   by_cases hp:p e=true
   ·rw[if_pos hp]
    by_cases h:e=x
    ·subst h;rw[eM,eM,ih,if_pos hp,if_pos hp]
    ·rw[same_ne h,same_ne h,ih]
   ·rw[if_neg hp,ih]
    by_cases h:e=x
    ·subst h;rw[if_neg hp,if_neg hp]
    ·rw[same_ne h]
theorem NF.join' {e:O} {n:Int} {b:O} (he:NF e) (hn:1<=n) (hb:NF b) (hl:Lt e b) {a:O} (ha:NF a):NF (O.app (O.filt (λx _=>decide (0<cmp x e)) a) (c e n b)):=by
 refine NF.join he hn hb hl (λx hx=>?_) ha;have:∀{b:O},Lt e b->Lt x b:=by
  intro b
  induction b with
  | z=>exact λ_=>trivial
  | c y m t _ ih=>exact λh=>⟨bo y e x h.1 (by have:=aO x e;(clear hn;lia)),ih h.2⟩
 exact this hl
theorem NF.plus {a b:O} (ha:NF a) (hb:NF b):NF (plusO a b):=by
 cases b with
 | z=>exact ha
 | c e n r=>
   have:=same_nonneg e ha;exact NF.join' hb.1 (by have:=hb.2.1;lia) hb.2.2.2 hb.2.2.1 ha
theorem ii {a e:O} {n:Int} {r:O} (hr:Lt e r) (x:O):same x (plusO a (c e n r))=if 0<cmp x e then same x a else if cmp x e<0 then same x (c e n r) else same x a+same x (c e n r):=by
 show same x (app _ _)=_;rw[mU,kE (λy=>decide (0<cmp y e))]
 by_cases h1:0<cmp x e
 ·rw[if_pos (by simpa using h1),if_pos h1,ba hr h1];(clear h1;lia)
 ·rw[if_neg (by simpa using h1),if_neg h1]
  by_cases h2:cmp x e<0
  ·have hne:e≠x:=λz=>by subst z;rw[cmp_self] at h2;(clear h1;lia)
   rw[if_pos h2,same_ne hne,same_ne hne];(clear h1 h2;lia)
  ·have:cmp x e=0:=by lia
   have h3:=cmp_eq _ _ this;subst h3;rw[if_neg h2,same_self hr,same_self hr];(clear h1 h2 this;lia)
end O
namespace O
noncomputable def iF (b y:O):Prop:=∃w,cmp y w<0/\same w b≠0
theorem B2 (y:O):¬iF z y:=λ⟨_,_,h⟩=>h rfl
theorem tf {e:O} {n:Int} {r y:O} (hn:1<=n) (hr:Lt e r):iF (c e n r) y↔cmp y e<0:=by
 constructor
 ·rintro⟨w,hw,hs⟩;have:¬0<cmp w e:=λk=>hs (ba hr k);rcases cmp_range w e with k | k | k
  ·exact bo y w e hw (by (clear hn hw hs this;lia))
  ·rw[cmp_eq _ _ k] at hw;exact hw
  ·(clear hn hw hs;lia)
 ·intro h;exact⟨e,h,by rw[same_self hr];(clear h;lia)⟩
theorem aS {a b y:O} (hb:NF b) (h:iF b y):same y (plusO a b)=same y b:=by
 cases b with
 | z=>exact absurd h (B2 y)
 | c e n r=>
   have h':=(tf hb.2.1 hb.2.2.1).mp h;rw[ii hb.2.2.1,if_neg (by lia),if_pos h']
theorem aJ {a b y:O} (hb:NF b) (h:¬iF b y):same y (plusO a b)=same y b+same y a:=by
 cases b with
 | z=>show same y a=0+same y a;lia
 | c e n r=>
   have h':¬cmp y e<0:=λk=>h ((tf hb.2.1 hb.2.2.1).mpr k);rw[ii hb.2.2.1]
   by_cases k:0<cmp y e
   ·rw[if_pos k,ba hb.2.2.1 k];(clear h' k;lia)
   ·rw[if_neg k,if_neg h'];(clear h' k;lia)
theorem ju {b d y:O} (hb:NF b) (hd:NF d):iF (plusO b d) y↔iF b y∨iF d y:=by
 constructor
 ·rintro⟨w,hw,hs⟩
  by_cases k:iF d w
  ·rw[aS hd k] at hs;exact .inr ⟨w,hw,hs⟩
  ·rw[aJ hd k] at hs
   by_cases q:same w d=0
   ·exact .inl ⟨w,hw,by (clear hw;lia)⟩
   ·exact .inr ⟨w,hw,q⟩
 ·have right:iF d y->iF (plusO b d) y:=by
   rintro⟨w,hw,hs⟩;refine⟨w,hw,?_⟩
   by_cases k:iF d w
   ·rw[aS hd k];exact hs
   ·rw[aJ hd k];have:=same_nonneg w hb;have:=same_nonneg w hd
    (clear hw;lia)
  rintro(⟨w,hw,hs⟩ | h)
  ·by_cases k:iF d w
   ·obtain⟨v,hv,hs'⟩:=k;exact right ⟨v,bo _ _ _ hw hv,hs'⟩
   ·refine⟨w,hw,?_⟩;rw[aJ hd k];have:=same_nonneg w hb;have:=same_nonneg w hd
    (clear hw;lia)
  ·exact right h
theorem fZ {a b d:O} (ha:NF a) (hb:NF b) (hd:NF d):plusO (plusO a b) d=plusO a (plusO b d):=by
 refine jt ((ha.plus hb).plus hd) (ha.plus (hb.plus hd)) λy=>?_
 by_cases k:iF d y
 ·rw[aS hd k,aS (hb.plus hd) ((ju hb hd).mpr (.inr k)),aS hd k]
 ·rw[aJ hd k]
  by_cases q:iF b y
  ·rw[aS hb q,aS (hb.plus hd) ((ju hb hd).mpr (.inl q)),aJ hd k]
  ·rw[aJ hb q,aJ (hb.plus hd) (λz=>((ju hb hd).mp z).elim q k),aJ hd k];lia
theorem kF {b d x y:O} (h:∀y,0<cmp y x->same y b=same y d) (hy:¬cmp y x<0):iF b y↔iF d y:=by
 have go:∀w,cmp y w<0->0<cmp w x:=λw hw=>by
  have hs:=aO w x;rcases cmp_range y x with k | k | k
  ·(clear hw hs;lia)
  ·rw[cmp_eq _ _ k] at hw;(clear hy k;lia)
  ·have h3:=bo x y w (by have:=aO y x;(clear hy hw hs;lia)) hw
   (clear hy hw k;lia)
 constructor
 ·rintro⟨w,hw,hs⟩;exact⟨w,hw,by rw[←h w (go w hw)];exact hs⟩
 ·rintro⟨w,hw,hs⟩;exact⟨w,hw,by rw[h w (go w hw)];exact hs⟩
theorem plus_lt {a b d:O} (ha:NF a) (hb:NF b) (hd:NF d) (h:cmp b d<0):cmp (plusO a b) (plusO a d)<0:=by
 obtain⟨x,hx,hy⟩:=cR hb hd h;refine dP (x:=x) (ha.plus hb) (ha.plus hd) ?_ λy hyx=>?_
 ·have q:=kF hy (cv x)
  by_cases k:iF b x
  ·rw[aS hb k,aS hd (q.mp k)];exact hx
  ·rw[aJ hb k,aJ hd (λz=>k (q.mpr z))];(clear h;lia)
 ·have q:=kF (y:=y) hy (by (clear h hx;lia))
  by_cases k:iF b y
  ·rw[aS hb k,aS hd (q.mp k)];exact hy y hyx
  ·rw[aJ hb k,aJ hd (λz=>k (q.mpr z)),hy y hyx]
theorem kG {f:O->O} {b d:O} (h1:cmp b d<0->cmp (f b) (f d)<0) (h2:cmp d b<0->cmp (f d) (f b)<0):cmp (f b) (f d)=cmp b d:=by
 rcases cmp_range b d with k | k | k
 ·have:=h1 (by lia);rcases cmp_range (f b) (f d) with q | q | q<;> lia
 ·rw[cmp_eq _ _ k,cmp_self,cmp_self]
 ·have:=h2 (by have:=aO b d;lia);have:=aO (f d) (f b);rcases cmp_range (f b) (f d) with q | q | q<;> lia
theorem cS {a b d:O} (ha:NF a) (hb:NF b) (hd:NF d):cmp (plusO a b) (plusO a d)=cmp b d:=kG (plus_lt ha hb hd) (plus_lt ha hd hb)
noncomputable def lL:O->O->O
 | z,b=>b
 | c e n r,z=>c e n r
 | c e n r,c e' n' r'=>if 0<cmp e e' then c e n (lL r (c e' n' r')) else if cmp e e'<0 then c e' n' (lL (c e n r) r') else c e (n+n') (lL r r')
termination_by a b=>a.len+b.len
decreasing_by all_goals (simp only[len];lia)
theorem Lt.mono {e f:O} (h:cmp e f<0):∀{r:O},Lt e r->Lt f r
 | z,_=>trivial
 | c _ _ _,k=>⟨bo _ _ _ k.1 h,Lt.mono h k.2⟩
end O
namespace O
noncomputable def getP:O->Nat->Option (O×Int)
 | z,_=>none
 | c e n _,0=>some (e,n)
 | c _ _ r,i+1=>getP r i
noncomputable def dropO:Nat->O->O
 | 0,a=>a
 | _+1,z=>z
 | i+1,c _ _ r=>dropO i r
theorem getP_none:∀{a:O} {i:Nat},getP a i=none↔a.len<=i
 | z,i=>by simp[getP,len]
 | c e n r,0=>by simp[getP,len]
 | c e n r,i+1=>by
   have:=getP_none (a:=r) (i:=i);simp only[getP,len,this];(clear this;lia)
theorem getP_some {a:O} (h:i<a.len):∃e n,getP a i=some (e,n):=by
 cases k:getP a i with
 | none=>rw[getP_none] at k;lia
 | some p=>exact⟨p.1,p.2,rfl⟩
theorem dropO_get:∀{a:O} {i:Nat} {e:O} {n:Int},getP a i=some (e,n)->dropO i a=c e n (dropO (i+1) a)
 | z,_,_,_,h=>by simp[getP] at h
 | c e n r,0,_,_,h=>by simp[getP] at h;obtain⟨rfl,rfl⟩:=h;simp[dropO]
 | c e n r,i+1,x,m,h=>by
   have:=dropO_get (a:=r) (i:=i) (e:=x) (n:=m) (by simpa[getP] using h);simpa[dropO] using this
theorem dropO_len:∀{a:O} {i:Nat},a.len<=i->dropO i a=z
 | z,0,_=>rfl
 | z,_+1,_=>rfl
 | c e n r,0,h=>by simp only[len] at h;lia
 | c e n r,i+1,h=>by
   simp only[len] at h;exact dropO_len (a:=r) (i:=i) (by lia)
theorem len_dropO:∀(i:Nat) (a:O),(dropO i a).len=a.len-i
 | 0,a=>rfl
 | _+1,z=>by simp[dropO,len]
 | i+1,c e n r=>by
   have:=len_dropO i r;simp only[dropO,len,this];lia
theorem getP_size:∀{a:O} {i:Nat} {e:O} {n:Int},getP a i=some (e,n)->e.size<a.size/\e.dp<a.dp
 | z,_,_,_,h=>by simp[getP] at h
 | c e n r,0,_,_,h=>by simp[getP] at h;obtain⟨rfl,rfl⟩:=h;simp only[size,dp];lia
 | c e n r,i+1,x,m,h=>by
   have:=getP_size (a:=r) (i:=i) (e:=x) (n:=m) (by simpa[getP] using h);simp only[size,dp];lia
theorem getP_NF:∀{a:O} {i:Nat} {e:O} {n:Int},NF a->getP a i=some (e,n)->NF e/\1<=n
 | z,_,_,_,_,h=>by simp[getP] at h
 | c e n r,0,_,_,ha,h=>by simp[getP] at h;obtain⟨rfl,rfl⟩:=h;exact⟨ha.1,ha.2.1⟩
 | c e n r,i+1,x,m,ha,h=>getP_NF (a:=r) (i:=i) ha.2.2.2 (by simpa[getP] using h)
noncomputable def stay (e a:O):Nat:=(filt (λx _=>decide (0<cmp x e)) a).len
theorem cC {y e:O} (h:¬0<cmp y e):∀{r:O},Lt y r->filt (λx _=>decide (0<cmp x e)) r=z
 | z,_=>rfl
 | c x n t,k=>by
   have hx:¬0<cmp x e:=λq=>by
    have h1:=aO x e;have h2:=bo e x y (by (clear h;lia)) k.1;have h3:=aO e y
    (clear q h1;lia)
   unfold filt;rw[if_neg (by simpa using hx)];exact cC h k.2
theorem filt_c (p:O->Int->Bool) (e:O) (n:Int) (r:O):filt p (c e n r)=if p e n then c e n (filt p r) else filt p r:=rfl
theorem eN {e y:O} {n:Int} {r:O} (h:0<cmp y e):stay e (c y n r)=stay e r+1:=by
 unfold stay;rw[filt_c,if_pos (by simpa using h)]
 rfl
theorem eO {e y:O} {n:Int} {r:O} (h:¬0<cmp y e) (hr:Lt y r):stay e (c y n r)=0:=by
 unfold stay;rw[filt_c,if_neg (by simpa using h),cC h hr]
 rfl
theorem stay_le {e:O}:∀{a:O},stay e a<=a.len
 | z=>le_refl _
 | c y n r=>by
   have:=stay_le (e:=e) (a:=r);unfold stay at this ⊢;unfold filt;split<;> simp only[len]<;> lia
theorem above_iff {e:O}:∀{a:O} {i:Nat} {x:O} {n:Int},NF a->getP a i=some (x,n)->(0<cmp x e↔i<stay e a)
 | z,_,_,_,_,h=>by simp[getP] at h
 | c y m r,0,x,n,ha,h=>by
   simp[getP] at h;obtain⟨rfl,rfl⟩:=h
   by_cases k:0<cmp y e
   ·rw[eN k];exact⟨λ_=>by (clear k;lia),λ_=>k⟩
   ·rw[eO k ha.2.2.1];exact⟨λq=>absurd q k,λq=>by (clear k;lia)⟩
 | c y m r,i+1,x,n,ha,h=>by
   have h':getP r i=some (x,n):=by simpa[getP] using h
   have ih:=above_iff (e:=e) ha.2.2.2 h'
   by_cases k:0<cmp y e
   ·rw[eN k,ih];(clear ih k;lia)
   ·rw[eO k ha.2.2.1];constructor
    ·intro q;have z0:stay e r=0:=by unfold stay;rw[cC k ha.2.2.1];rfl
     have:=ih.mp q
     (clear ih k q;lia)
    ·intro q;(clear ih k;lia)
theorem same_stay {e:O}:∀{a:O},NF a->same e a=match getP a (stay e a) with | some (x,m)=>if x=e then m else 0 | none=>0
 | z,_=>rfl
 | c y n r,ha=>by
   by_cases k:0<cmp y e
   ·have hne:y≠e:=λq=>by subst q;rw[cmp_self] at k;lia
    rw[eN k,same_ne hne,same_stay ha.2.2.2]
    rfl
   ·rw[eO k ha.2.2.1];show _=if y=e then n else 0
    by_cases q:y=e
    ·subst q;rw[if_pos rfl,same_self ha.2.2.1]
    ·rw[if_neg q,same_ne q];refine bO (λhl=>?_) ha.2.2.1;have h1:=aO e y;lia
noncomputable def takeO:Nat->O->O
 | 0,_=>z
 | _+1,z=>z
 | i+1,c e n r=>c e n (takeO i r)
theorem take_stay {e:O}:∀{a:O},NF a->takeO (stay e a) a=filt (λx _=>decide (0<cmp x e)) a
 | z,_=>rfl
 | c y n r,ha=>by
   by_cases k:0<cmp y e
   ·rw[eN k,filt_c,if_pos (by simpa using k),takeO,take_stay ha.2.2.2]
   ·rw[eO k ha.2.2.1,filt_c,if_neg (by simpa using k),cC k ha.2.2.1]
    rfl
end O
namespace O
noncomputable def mx:O->Int
 | z=>0
 | c e n r=>max n (max (mx e) (mx r))
theorem mx_c (e:O) (n:Int) (r:O):mx (c e n r)=max n (max (mx e) (mx r)):=rfl
theorem mx_nonneg:∀a:O,0<=mx a
 | z=>Int.le_refl _
 | c e n r=>by have:=mx_nonneg r;rw[mx_c];lia
theorem tj:∀a b:O,mx (app a b)=max (mx a) (mx b)
 | z,b=>by have:=mx_nonneg b;show mx b=max 0 (mx b);lia
 | c e n r,b=>by
   show mx (c e n (app r b))=_;rw[mx_c,tj r b,mx_c,Int.max_assoc,Int.max_assoc]
theorem mx_hn {e:O} {n:Int} {r:O}:n<=mx (c e n r):=Int.le_max_left _ _
theorem mx_he {e:O} {n:Int} {r:O}:mx e<=mx (c e n r):=Int.le_trans (Int.le_max_left _ _) (Int.le_max_right _ _)
theorem mx_hr {e:O} {n:Int} {r:O}:mx r<=mx (c e n r):=Int.le_trans (Int.le_max_right _ _) (Int.le_max_right _ _)
theorem mx_hle {e:O} {n:Int} {r:O} {B:Int} (h1:n<=B) (h2:mx e<=B) (h3:mx r<=B):mx (c e n r)<=B:=Int.max_le.mpr ⟨h1,Int.max_le.mpr ⟨h2,h3⟩⟩
theorem pP (p:O->Int->Bool):∀a:O,mx (filt p a)<=mx a
 | z=>Int.le_refl _
 | c e n r=>by
   have:=pP p r;rw[filt_c];split
   ·exact mx_hle mx_hn mx_he (Int.le_trans this mx_hr)
   ·exact Int.le_trans this mx_hr
theorem same_le_mx (x:O):∀{a:O},NF a->same x a<=mx a
 | z,_=>Int.le_refl _
 | c e n r,h=>by
   have h1:=same_le_mx x h.2.2.2;rw[mx_c]
   by_cases k:e=x
   ·subst k;rw[same_self h.2.2.1];(clear h1;lia)
   ·rw[same_ne k];lia
theorem tm:∀a b:O,dp (app a b)=max (dp a) (dp b)
 | z,b=>by show dp b=max 0 (dp b);lia
 | c e n r,b=>by
   show dp (c e n (app r b))=_;simp only[dp,tm r b];rw[Nat.max_assoc]
theorem dp_filt (p:O->Int->Bool):∀a:O,dp (filt p a)<=dp a
 | z=>le_refl _
 | c e n r=>by
   have:=dp_filt p r;rw[filt_c];split<;> simp only[dp]<;> lia
theorem dp_plus (a b:O):dp (plusO a b)<=max (dp a) (dp b):=by
 cases b with
 | z=>show dp a<=_;lia
 | c e n r=>
   show dp (app _ _)<=_;rw[tm];have:=dp_filt (λx _=>decide (0<cmp x e)) a;simp only[dp];lia
structure FG (B:Int) (o:O):Prop where
 nf:NF o
 sz:o.size<=24
 mx:O.mx o<=B
end O
namespace O
theorem ik:∀a:O,plusO z a=a
 | z=>rfl
 | c e n r=>by
   simp[plusO,filt,app,same]
theorem dX (a:O):plusO a z=a:=rfl
theorem plus_c (a e:O) (n:Int) (r:O):plusO a (c e n r)=app (filt (λx _=>decide (0<cmp x e)) a) (c e (same e a+n) r):=rfl
noncomputable def dv:O->O->O
 | a,z=>a
 | z,_=>z
 | c e n r,c e' n' r'=>if e=e' then (if n=n' then dv r r' else c e (n-n') r) else c e n r
theorem lM (a:O):dv a z=a:=by cases a<;> rfl
theorem Lt.minus {g:O}:∀{a b:O},Lt g a->Lt g (dv a b)
 | a,z,h=>by rw[lM];exact h
 | z,c _ _ _,h=>h
 | c e n r,c e' n' r',h=>by
   unfold dv;split
   ·split
    ·exact Lt.minus h.2
    ·exact h
   ·exact h
theorem NF.minus:∀{a b:O},NF a->cmp b a<=0->NF (dv a b)
 | a,z,h,_=>by rw[lM];exact h
 | z,c _ _ _,h,_=>h
 | c e n r,c e' n' r',h,k=>by
   unfold dv;split
   ·rename_i q;subst q;rw[cmp,if_neg (by rw[cmp_self];simp)] at k;split
    ·rename_i q2;subst q2;rw[if_neg (by (clear k;lia)),if_neg (by (clear k;lia))] at k;exact NF.minus h.2.2.2 k
    ·rename_i q2;have:n'<n:=by
      rcases Int.lt_trichotomy n' n with j | j | j
      ·exact j
      ·exact absurd j.symm q2
      ·rw[if_neg (by (clear k q2;lia)),if_pos j] at k;(clear q2 j;lia)
     exact⟨h.1,by (clear k q2;lia),h.2.2.1,h.2.2.2⟩
   ·exact h
theorem iG {e:O} {n:Int} {r:O} (hr:Lt e r) {f:O} (h:cmp e f<=0):filt (λx _=>decide (0<cmp x f)) (c e n r)=z:=by
 rw[filt_c,if_neg (by simp;assumption),cC (by lia) hr]
theorem gd:∀{a b:O},NF a->NF b->cmp b a<=0->plusO b (dv a b)=a
 | a,z,_,_,_=>by rw[lM,ik]
 | z,c _ _ _,_,_,h=>by simp[cmp] at h
 | c e n r,c e' n' r',ha,hb,h=>by
   unfold dv
   by_cases q:e=e'
   ·subst q;rw[cmp,if_neg (by rw[cmp_self];simp)] at h;rw[if_pos rfl]
    by_cases q2:n=n'
    ·subst q2;rw[if_neg (by (clear h;lia)),if_neg (by (clear h;lia))] at h;rw[if_pos rfl];have ih:=gd ha.2.2.2 hb.2.2.2 h;have hl:Lt e (dv r r'):=ha.2.2.1.minus;cases k:dv r r' with
     | z=>
       rw[k,dX] at ih;rw[dX,ih]
     | c f m t=>
       rw[k] at ih hl;have hf:0<cmp e f:=by have:=aO e f;have:=hl.1;(clear h;lia)
       have hne:e≠f:=λz=>by subst z;rw[cmp_self] at hf;(clear h;lia)
       rw[plus_c] at ih ⊢;rw[filt_c,if_pos (by simpa using hf),same_ne hne];show c e n (app _ _)=_;rw[ih]
    ·rw[if_neg q2];have hlt:n'<n:=by
      rcases Int.lt_trichotomy n' n with j | j | j
      ·exact j
      ·exact absurd j.symm q2
      ·rw[if_neg (by (clear h q2;lia)),if_pos j] at h;(clear q2 j;lia)
     rw[plus_c,iG hb.2.2.1 (by rw[cmp_self];(clear h q2 hlt;lia)),same_self hb.2.2.1];show c e (n'+(n-n')) r=_;have e1:n'+(n-n')=n:=by (clear h q2 hlt;lia)
     rw[e1]
   ·rw[if_neg q];have hk:cmp e' e<0:=by
     rcases cmp_range e' e with j | j | j
     ·(clear h;lia)
     ·exact absurd (cmp_eq _ _ j).symm q
     ·rw[cmp,if_pos (by (clear h;lia))] at h;lia
    rw[plus_c,iG hb.2.2.1 (by (clear h;lia)),ba hb.2.2.1 (by have:=aO e' e;(clear h;lia))];show c e (0+n) r=_;rw[Int.zero_add]
theorem tq {a b d:O} (ha:NF a) (hb:NF b) (hd:NF d) (h:plusO a b=plusO a d):b=d:=by
 have:=cS ha hb hd;rw[h,cmp_self] at this;exact cmp_eq _ _ this.symm
theorem oJ {a:O} (h:a≠z):cmp z a<0:=by
 cases a with
 | z=>exact absurd rfl h
 | c _ _ _=>simp[cmp]
theorem bQ {e f:O} (he:NF e) (hf:NF f) (h:f≠z):cmp e (plusO e f)<0:=by
 have:=cS (b:=z) he trivial hf;rw[dX] at this;have:=oJ h;lia
noncomputable def mulP (e:O) (n:Int) (r:O):O->O
 | z=>z
 | c f d t=>if f=z then c e (n*d) r else c (plusO e f) d (mulP e n r t)
noncomputable def timesO:O->O->O
 | z,_=>z
 | c e n r,b=>mulP e n r b
theorem mulP_c (e:O) (n:Int) (r f:O) (d:Int) (t:O):mulP e n r (c f d t)=if f=z then c e (n*d) r else c (plusO e f) d (mulP e n r t):=rfl
theorem times_z (a:O):timesO a z=z:=by cases a<;> rfl
theorem lN {e:O} {n:Int} {r:O} (he:NF e) (hr:Lt e r) {f:O} (hf:NF f) (h0:f≠z):∀{t:O},NF t->Lt f t->Lt (plusO e f) (mulP e n r t)
 | z,_,_=>trivial
 | c g d u,ht,hl=>by
   rw[mulP_c];split
   ·exact⟨bQ he hf h0,hr.mono (bQ he hf h0)⟩
   ·exact⟨by rw[cS he ht.1 hf];exact hl.1,lN he hr hf h0 ht.2.2.2 hl.2⟩
theorem jv {a b:Int} (ha:1<=a) (hb:1<=b):1<=a*b:=by
 have:=Int.mul_le_mul ha hb (by (clear ha hb;lia)) (by (clear hb;lia));simpa using this
theorem cN {e:O} {n:Int} {r:O} (h:NF (c e n r)):∀{t:O},NF t->NF (mulP e n r t)
 | z,_=>trivial
 | c g d u,ht=>by
   rw[mulP_c];split
   ·exact⟨h.1,jv h.2.1 ht.2.1,h.2.2.1,h.2.2.2⟩
   ·rename_i hg;exact⟨h.1.plus ht.1,ht.2.1,lN h.1 h.2.2.1 ht.1 hg ht.2.2.2 ht.2.2.1,cN h ht.2.2.2⟩
theorem NF.times {a b:O} (ha:NF a) (hb:NF b):NF (timesO a b):=by
 cases a with
 | z=>exact trivial
 | c e n r=>exact cN ha hb
theorem Lt_z {t:O} (h:Lt z t):t=z:=by
 cases t with
 | z=>rfl
 | c x _ _=>
   have:=h.1;cases x<;> simp[cmp] at this
section
variable {e:O} {n:Int} {r:O}
theorem bc (h:NF (c e n r)) {g:O} (hg:NF g) (h0:g≠z):∀{b:O},NF b->same (plusO e g) (mulP e n r b)=same g b
 | z,_=>rfl
 | c f d t,hb=>by
   rw[mulP_c]
   by_cases k:f=z
   ·subst k;rw[if_pos rfl,Lt_z hb.2.2.1];have hl:=bQ h.1 hg h0;have hs:=aO e (plusO e g);rw[ba h.2.2.1 (by lia),same_ne (Ne.symm h0)]
    rfl
   ·rw[if_neg k]
    by_cases q:f=g
    ·subst q;rw[same_self (lN h.1 h.2.2.1 hg h0 hb.2.2.2 hb.2.2.1),same_self hb.2.2.1]
    ·rw[same_ne (λz=>q (tq h.1 hb.1 hg z)),same_ne q,bc h hg h0 hb.2.2.2]
theorem bX (h:NF (c e n r)):∀{b:O},NF b->same e (mulP e n r b)=n*same z b
 | z,_=>by show(0:Int)=n*0;lia
 | c f d t,hb=>by
   rw[mulP_c]
   by_cases k:f=z
   ·subst k;rw[if_pos rfl,same_self h.2.2.1,same_self hb.2.2.1]
   ·have hne:plusO e f≠e:=λq=>by have:=bQ h.1 hb.1 k;rw[q,cmp_self] at this;lia
    rw[if_neg k,same_ne hne,same_ne k,bX h hb.2.2.2]
theorem dw (h:NF (c e n r)) {y:O} (hy:cmp y e<0):∀{b:O},NF b->same y (mulP e n r b)=if same z b=0 then 0 else same y r
 | z,_=>by rw[ig,if_pos rfl];rfl
 | c f d t,hb=>by
   have hd:=hb.2.1;rw[mulP_c]
   by_cases k:f=z
   ·subst k;have hne:e≠y:=λq=>by subst q;rw[cmp_self] at hy;(clear hd;lia)
    rw[if_pos rfl,same_ne hne,same_self hb.2.2.1,if_neg (by (clear hy;lia))]
   ·have hne:plusO e f≠y:=λq=>by
     have h1:=bQ h.1 hb.1 k;rw[q] at h1;have h2:=aO e y
     (clear hd;lia)
    rw[if_neg k,same_ne hne,same_ne k,dw h hy hb.2.2.2]
theorem gf {y:O} (he:NF e) (hy:NF y) (h:cmp e y<0):∃g,NF g/\g≠z/\y=plusO e g:=by
 refine⟨dv y e,hy.minus (by lia),λk=>?_,(gd hy he (by lia)).symm⟩;have:=gd hy he (by lia);rw[k,dX] at this;rw[this,cmp_self] at h;lia
end
theorem NF.of_same {x:O}:∀{a:O},NF a->same x a≠0->NF x
 | z,_,h=>absurd rfl h
 | c e n r,ha,h=>by
   by_cases k:e=x
   ·subst k;exact ha.1
   ·rw[same_ne k] at h;exact NF.of_same ha.2.2.2 h
theorem qV {a b:O} (ha:NF a) (hb:NF b) (h:∀x,NF x->same x a=same x b):a=b:=jt ha hb λx=>by
 refine Classical.byContradiction λk=>?_
 by_cases q:NF x
 ·exact k (h x q)
 ·have h1:same x a=0:=Classical.byContradiction λz=>q (ha.of_same z);have h2:same x b=0:=Classical.byContradiction λz=>q (hb.of_same z);exact k (by rw[h1,h2])
end O
namespace O
section
variable {e:O} {n:Int} {r:O}
theorem dY (h:NF (c e n r)) {d g:O} (hd:NF d) (hg:NF g):iF (mulP e n r d) (plusO e g)↔iF d g:=by
 constructor
 ·rintro⟨w,hw,hs⟩;have hwN:NF w:=(cN h hd).of_same hs;have hew:cmp e w<0:=by
   by_cases k:g=z
   ·rw[k,dX] at hw;exact hw
   ·exact bo _ _ _ (bQ h.1 hg k) hw
  obtain⟨g',hg',h0,rfl⟩:=gf h.1 hwN hew;rw[cS h.1 hg hg'] at hw;rw[bc h hg' h0 hd] at hs;exact⟨g',hw,hs⟩
 ·rintro⟨g',hw,hs⟩;have hg':NF g':=hd.of_same hs;have h0:g'≠z:=λk=>by
   subst k;have:=aO z g;cases g<;> simp[cmp] at hw
  exact⟨plusO e g',by rw[cS h.1 hg hg'];exact hw,by rw[bc h hg' h0 hd];exact hs⟩
theorem jw (h:NF (c e n r)) {d:O} (hd:NF d):iF (mulP e n r d) e↔iF d z:=by
 have:=dY h hd (g:=z) trivial
 rwa [dX] at this
theorem ke (h:NF (c e n r)) {d y:O} (hd:NF d) (h0:d≠z) (hy:cmp y e<0):iF (mulP e n r d) y:=by
 cases d with
 | z=>exact absurd rfl h0
 | c f m t=>
   have hm:=hd.2.1
   by_cases k:f=z
   ·subst k;refine⟨e,hy,?_⟩;rw[bX h hd,same_self hd.2.2.1];have:=jv h.2.1 hm
    (clear hy hm;lia)
   ·refine⟨plusO e f,bo _ _ _ hy (bQ h.1 hd.1 k),?_⟩;rw[bc h hd.1 k hd,same_self hd.2.2.1]
    (clear hy;lia)
end
theorem mV {a b d:O} (ha:NF a) (hb:NF b) (hd:NF d):timesO a (plusO b d)=plusO (timesO a b) (timesO a d):=by
 cases a with
 | z=>rfl
 | c e n r=>
   by_cases hz:d=z
   ·subst hz;rfl
   show mulP e n r (plusO b d)=plusO (mulP e n r b) (mulP e n r d);have hbd:=hb.plus hd;have hmd:=cN ha hd;refine qV (cN ha hbd) ((cN ha hb).plus hmd) λy hy=>?_;rcases cmp_range y e with k | k | k
   ·rw[aS hmd (ke ha hd hz (by lia)),dw ha (by lia) hbd,dw ha (by lia) hd]
    by_cases q:iF d z
    ·rw[aS hd q]
    ·rw[aJ hd q];have h1:same z d≠0:=by
      cases d with
      | z=>exact absurd rfl hz
      | c f m t=>
        have hf:f=z:=Classical.byContradiction λj=>q ((tf hd.2.1 hd.2.2.1).mpr (oJ j));subst hf;rw[same_self hd.2.2.1];have:=hd.2.1
        (clear k;lia)
     have h2:=same_nonneg z hd;have h3:=same_nonneg z hb;rw[if_neg h1,if_neg (by (clear k;lia))]
   ·have q:=cmp_eq _ _ k;subst q;rw[bX ha hbd]
    by_cases q:iF d z
    ·rw[aS hmd ((jw ha hd).mpr q),aS hd q,bX ha hd]
    ·rw[aJ hmd (λj=>q ((jw ha hd).mp j)),aJ hd q,bX ha hd,bX ha hb,Int.mul_add]
   ·obtain⟨g,hg,h0,rfl⟩:=gf ha.1 hy (by have:=aO y e;lia);rw[bc ha hg h0 hbd]
    by_cases q:iF d g
    ·rw[aS hmd ((dY ha hd hg).mpr q),aS hd q,bc ha hg h0 hd]
    ·rw[aJ hmd (λj=>q ((dY ha hd hg).mp j)),aJ hd q,bc ha hg h0 hd,bc ha hg h0 hb]
theorem jx {a b d:O} (ha:NF a) (h0:a≠z) (hb:NF b) (hd:NF d) (h:cmp b d<0):cmp (timesO a b) (timesO a d)<0:=by
 cases a with
 | z=>exact absurd rfl h0
 | c e n r=>
   show cmp (mulP e n r b) (mulP e n r d)<0;obtain⟨x,hx,hy⟩:=cR hb hd h;have hxN:NF x:=hd.of_same (by have:=same_nonneg x hb;(clear h;lia));have up:∀y,0<cmp y (plusO e x)->same y (mulP e n r b)=same y (mulP e n r d):=λy hyx=>by
    refine Classical.byContradiction λk=>?_;have hyN:NF y:=by
     refine Classical.byContradiction λq=>k ?_;have h1:same y (mulP e n r b)=0:=Classical.byContradiction λj=>q ((cN ha hb).of_same j);have h2:same y (mulP e n r d)=0:=Classical.byContradiction λj=>q ((cN ha hd).of_same j);rw[h1,h2]
    have hs:=aO y (plusO e x);have hey:cmp e y<0:=by
     by_cases j:x=z
     ·rw[j,dX] at hs hyx;(clear h hx k;lia)
     ·exact bo _ _ _ (bQ ha.1 hxN j) (by (clear h hx k;lia))
    obtain⟨g,hg,hg0,rfl⟩:=gf ha.1 hyN hey;rw[cS ha.1 hg hxN] at hyx;rw[bc ha hg hg0 hb,bc ha hg hg0 hd] at k;exact k (hy g hyx)
   refine dP (x:=plusO e x) (cN ha hb) (cN ha hd) ?_ up
   by_cases j:x=z
   ·subst j;rw[dX,bX ha hb,bX ha hd];exact Int.mul_lt_mul_of_pos_left hx (by have:=ha.2.1;assumption)
   ·rw[bc ha hxN j hb,bc ha hxN j hd];exact hx
theorem qW {a b d:O} (ha:NF a) (h0:a≠z) (hb:NF b) (hd:NF d):cmp (timesO a b) (timesO a d)=cmp b d:=kG (jx ha h0 hb hd) (jx ha h0 hd hb)
theorem kH {a:O}:timesO a (c z 1 z)=a:=by
 cases a with
 | z=>rfl
 | c e n r=>show mulP e n r (c z 1 z)=_;rw[mulP_c,if_pos rfl,Int.mul_one]
end O
namespace O
end O
namespace O
noncomputable def hw:O->Nat
 | z=>0
 | c e _ r=>max (len r+1) (max (hw e) (hw r))
theorem hw_c (e:O) (n:Int) (r:O):hw (c e n r)=max (len r+1) (max (hw e) (hw r)):=rfl
theorem len_le_hw:∀a:O,len a<=hw a
 | z=>le_refl _
 | c e n r=>by rw[hw_c];simp only[len];lia
theorem len_app':∀a b:O,(app a b).len=a.len+b.len
 | z,b=>by simp[app,len]
 | c e n r,b=>by have:=len_app' r b;simp only[app,len];lia
theorem len_filt' (p:O->Int->Bool):∀a:O,(a.filt p).len<=a.len
 | z=>le_refl _
 | c e n r=>by
   have:=len_filt' p r;rw[filt_c];split<;> simp only[len]<;> lia
theorem tu:∀a b:O,hw (app a b)<=max (len a+len b) (max (hw a) (hw b))
 | z,b=>by show hw b<=_;lia
 | c e n r,b=>by
   have ih:=tu r b;show hw (c e n (app r b))<=_;have l0:len (c e n r)=len r+1:=rfl;have b1:hw e<=hw (c e n r):=le_trans (le_max_left _ _) (le_max_right _ _);have b2:hw r<=hw (c e n r):=le_trans (le_max_right _ _) (le_max_right _ _);have c1:len (c e n r)+len b<=max (len (c e n r)+len b) (max (hw (c e n r)) (hw b)):=le_max_left _ _;have c2:hw (c e n r)<=max (len (c e n r)+len b) (max (hw (c e n r)) (hw b)):=le_trans (le_max_left _ _) (le_max_right _ _);have c3:hw b<=max (len (c e n r)+len b) (max (hw (c e n r)) (hw b)):=le_trans (le_max_right _ _) (le_max_right _ _);generalize max (len (c e n r)+len b) (max (hw (c e n r)) (hw b))=R at c1 c2 c3 ⊢;rw[hw_c,len_app'];refine max_le.mpr ⟨by (clear ih b1 b2 c2 c3;lia),max_le.mpr ⟨le_trans b1 c2,le_trans ih (max_le.mpr ⟨by (clear ih b1 b2 c2 c3;lia),max_le.mpr ⟨le_trans b2 c2,c3⟩⟩)⟩⟩
theorem hw_filt (p:O->Int->Bool):∀a:O,hw (filt p a)<=hw a
 | z=>le_refl _
 | c e n r=>by
   have ih:=hw_filt p r;have h:=len_filt' p r;rw[filt_c];split
   ·rw[hw_c,hw_c];lia
   ·rw[hw_c];(clear h;lia)
theorem hw_plus (a b:O):hw (plusO a b)<=hw a+hw b:=by
 cases b with
 | z=>show hw a<=_;lia
 | c e n r=>
   rw[plus_c];have h1:=tu (filt (λx _=>decide (0<cmp x e)) a) (c e (same e a+n) r);have h2:=hw_filt (λx _=>decide (0<cmp x e)) a;have h3:=len_filt' (λx _=>decide (0<cmp x e)) a;have h4:=len_le_hw a;have h5:=len_le_hw (c e n r);have e1:hw (c e (same e a+n) r)=hw (c e n r):=rfl;have e2:len (c e (same e a+n) r)=len (c e n r):=rfl;rw[e1,e2] at h1;exact le_trans h1 (max_le.mpr ⟨by (clear h1 h2;lia),max_le.mpr ⟨by (clear h1 h3 h4 h5 e2;lia),by (clear h1 h3 h4 h5 e1 e2;lia)⟩⟩)
theorem pQ (e:O) (n:Int) (r:O):∀b:O,(mulP e n r b).len<=b.len+r.len
 | z=>by simp[mulP,len]
 | c f d t=>by
   have ih:=pQ e n r t;rw[mulP_c];split<;> simp only[len]<;> lia
theorem tw (e:O) (n:Int) (r:O):∀b:O,hw (mulP e n r b)<=hw (c e n r)+hw b
 | z=>by simp[mulP,hw]
 | c f d t=>by
   have ih:=tw e n r t;have h1:=hw_plus e f;have h2:=pQ e n r t;have h3:=len_le_hw t;have h4:hw e<=hw (c e n r):=le_trans (le_max_left _ _) (le_max_right _ _);have h5:len r+1<=hw (c e n r):=le_max_left _ _;have h6:hw f<=hw (c f d t):=le_trans (le_max_left _ _) (le_max_right _ _);have h7:hw t<=hw (c f d t):=le_trans (le_max_right _ _) (le_max_right _ _);have h8:len t+1<=hw (c f d t):=le_max_left _ _;rw[mulP_c];split
   ·have e1:hw (c e (n*d) r)=hw (c e n r):=rfl;rw[e1];(clear ih h1 h2 h3 h4 h5 h6 h7 h8 e1;lia)
   ·rw[hw_c (plusO e f)];exact max_le.mpr ⟨by (clear ih h1 h3 h4 h6 h7;lia),max_le.mpr ⟨by (clear ih h2 h3 h5 h7 h8;lia),by (clear h1 h2 h3 h4 h5 h6 h8;lia)⟩⟩
theorem hw_times (a b:O):hw (timesO a b)<=hw a+hw b:=by
 cases a with
 | z=>show hw z<=_;exact zero_le _
 | c e n r=>exact tw e n r b
theorem pR (e:O) (n:Int) (r:O):∀b:O,(mulP e n r b).dp<=max (dp (c e n r)) (b.dp)
 | z=>by simp[mulP,dp]
 | c f d t=>by
   have ih:=pR e n r t;have h:=dp_plus e f;have h1:dp e+1<=dp (c e n r):=le_max_left _ _;have h2:dp f+1<=dp (c f d t):=le_max_left _ _;have h3:dp t<=dp (c f d t):=le_max_right _ _;rw[mulP_c];split
   ·have e1:dp (c e (n*d) r)=dp (c e n r):=rfl;rw[e1];exact le_max_left _ _
   ·refine max_le.mpr ⟨?_,le_trans ih (max_le.mpr ⟨le_max_left _ _,le_trans h3 (le_max_right _ _)⟩)⟩;rcases Nat.le_total (dp e) (dp f) with k | k
    ·rw[Nat.max_eq_right k] at h;exact le_trans (Nat.succ_le_succ h) (le_trans h2 (le_max_right _ _))
    ·rw[Nat.max_eq_left k] at h;exact le_trans (Nat.succ_le_succ h) (le_trans h1 (le_max_left _ _))
theorem dp_times (a b:O):dp (timesO a b)<=max (dp a) (dp b):=by
 cases a with
 | z=>show dp z<=_;exact zero_le _
 | c e n r=>exact pR e n r b
theorem mx_plus {a b:O} (ha:NF a):mx (plusO a b)<=mx a+mx b:=by
 have h0:=mx_nonneg a;cases b with
 | z=>show mx a<=mx a+0;(clear h0;lia)
 | c e n r=>
   rw[plus_c,tj,mx_c,mx_c];have h2:=pP (λx _=>decide (0<cmp x e)) a;have h3:=same_le_mx e ha;have e1:n<=max n (max (mx e) (mx r)):=mx_hn (e:=e) (r:=r);have e2:max (mx e) (mx r)<=max n (max (mx e) (mx r)):=Int.le_max_right _ _;have e3:0<=max n (max (mx e) (mx r)):=mx_nonneg (c e n r);generalize max n (max (mx e) (mx r))=M at e1 e2 e3 ⊢;exact Int.max_le.mpr ⟨Int.le_trans h2 (Int.le_add_of_nonneg_right e3),Int.max_le.mpr ⟨Int.add_le_add h3 e1,Int.le_trans e2 (Int.le_add_of_nonneg_left h0)⟩⟩
theorem tD {e:O} {n:Int} {r:O} (h:NF (c e n r)):∀{b:O},NF b->mx (mulP e n r b)<=(mx (c e n r)+1)*(mx b+1)
 | z,_=>by
   have:=mx_nonneg (c e n r);show(0:Int)<=(mx (c e n r)+1)*(0+1);lia
 | c f d t,hb=>by
   have ih:=tD h hb.2.2.2;have hp:=mx_plus (a:=e) (b:=f) h.1;have n0:=mx_nonneg (c e n r);have n1:=mx_nonneg f;have n2:=mx_nonneg t;have hd:=hb.2.1;have hn:=h.2.1;obtain⟨A,hA⟩:∃A,A=mx (c e n r):=⟨_,rfl⟩;rw[←hA] at ih n0 ⊢;rw[mx_c] at hA;have k1:(A+1)*(mx t+1)<=(A+1)*(mx (c f d t)+1):=Int.mul_le_mul_of_nonneg_left (Int.add_le_add_right mx_hr 1) (Int.le_add_one n0);have e1:mx e<=A:=by
    rw[hA];exact mx_he
   have e2:mx r<=A:=by
    rw[hA];exact mx_hr
   have e3:n<=A:=by
    rw[hA];exact mx_hn
   have e4:mx f<=mx (c f d t):=mx_he
   have e5:d<=mx (c f d t):=mx_hn
   have e6:=mx_nonneg (c f d t)
   clear hA n1 n2 hn;generalize mx (c f d t)=M at k1 e4 e5 e6 ⊢
   have k2:A+M<=(A+1)*(M+1):=by
    have:=Int.mul_nonneg n0 e6;rw[Int.mul_add,Int.add_mul];generalize A*M=P at this ⊢;clear ih hp hd k1 e1 e2 e3 e4 e5;omega
   have k5:A<=(A+1)*(M+1):=Int.le_trans (Int.le_add_of_nonneg_right e6) k2
   rw[mulP_c];split
   ·exact mx_hle (Int.mul_le_mul (Int.le_trans e3 (Int.le_add_one (Int.le_refl A))) (Int.le_trans e5 (Int.le_add_one (Int.le_refl M))) (Int.le_of_lt hd) (Int.le_add_one n0)) (Int.le_trans e1 k5) (Int.le_trans e2 k5)
   ·exact mx_hle (Int.le_trans (Int.le_trans e5 (Int.le_add_of_nonneg_left n0)) k2) (Int.le_trans (Int.le_trans hp (Int.add_le_add e1 e4)) k2) (Int.le_trans ih k1)
end O
namespace O
noncomputable def fh:O->O
 | z=>z
 | c e n z=>if n=1 then z else c e (n-1) z
 | c e n (c e' n' r')=>c e n (fh (c e' n' r'))
noncomputable def cy:O->O
 | z=>z
 | c e _ z=>e
 | c _ _ (c e' n' r')=>cy (c e' n' r')
theorem app_z:∀a:O,app a z=a
 | z=>rfl
 | c e n r=>by show c e n (app r z)=_;rw[app_z r]
noncomputable def Fi (a:O):Prop:=a≠z/\same z a=0
inductive zE:O->Int->O->Prop where
 | suc {a:O} {n:Int} (h0:a≠z) (h:cy a=z):zE a n (fh a)
 | lim {a:O} {n:Int} {o:O} (h0:a≠z) (h:Fi (cy a)) (k:zE (cy a) n o):zE a n (app (fh a) (c o 1 z))
 | one {a:O} {n:Int} (h0:a≠z) (h:cy a≠z) (h':¬Fi (cy a)):zE a n (app (fh a) (if n=0 then z else c (fh (cy a)) n z))
end O
namespace O
theorem app_assoc:∀a b d:O,app (app a b) d=app a (app b d)
 | z,_,_=>rfl
 | c e k r,b,d=>by show c e k (app (app r b) d)=c e k (app r (app b d));rw[app_assoc r b d]
end O
namespace O
structure Rg (a b:O) (n:Int):Prop where
 pos:0<=n
 pass:∀o,zE a n o->cmp b o<0
 least:0<n->∀o,zE a (n-1) o->¬cmp b o<0
end O
namespace O
end O
namespace O
theorem getP_Lt {x:O}:∀{a:O} {i:Nat} {e:O} {n:Int},Lt x a->getP a i=some (e,n)->cmp e x<0
 | z,_,_,_,_,h=>by simp[getP] at h
 | c e n r,0,_,_,hl,h=>by
   simp only[getP,Option.some.injEq,Prod.mk.injEq] at h;rw[←h.1];exact hl.1
 | c e n r,i+1,_,_,hl,h=>getP_Lt (a:=r) (i:=i) hl.2 (by simpa[getP] using h)
end O
namespace O
noncomputable def wh (m:Int):O:=if m=0 then z else c z m z
theorem NF.wh {m:Int} (h:0<=m):NF (wh m):=by
 unfold O.wh;split
 ·exact trivial
 ·exact⟨trivial,by lia,trivial,trivial⟩
theorem wh_pos {m:Int} (h:0<m):wh m=c z m z:=by unfold wh;rw[if_neg (by lia)]
theorem wb {m:Int} (h:0<=m):plusO (wh m) (c z 1 z)=wh (m+1):=by
 by_cases q:m=0
 ·subst q;rfl
 ·rw[wh_pos (by lia),wh_pos (by (clear q;lia))];rw[plus_c,filt_c,if_neg (by rw[cmp_self];simp),eM];show c z (m+0+1) z=c z (m+1) z;rw[Int.add_zero]
theorem kI {b:O} {m:Int} (hb:NF b) (h:0<=m):timesO b (wh (m+1))=plusO (timesO b (wh m)) b:=by
 have n1:NF (c z 1 z):=⟨trivial,by (clear h;lia),trivial,trivial⟩;rw[←wb h,mV hb (NF.wh h) n1,kH]
theorem oK {a b:O} (ha:NF a) (hb:NF b) (h:cmp a b<0):cmp (plusO a (c z 1 z)) b<=0:=by
 have n1:NF (c z 1 z):=⟨trivial,by (clear h;lia),trivial,trivial⟩;have sm:∀y,same y (plusO a (c z 1 z))=same y a+(if y=z then 1 else 0):=λy=>by
  rw[ii (show Lt z z from trivial)]
  by_cases q:y=z
  ·subst q;rw[cmp_self,if_neg (by (clear h;lia)),if_neg (by (clear h;lia)),eM,if_pos rfl]
   rfl
  ·have:0<cmp y z:=by have:=oJ q;have:=aO z y;(clear h;lia)
   rw[if_pos this,if_neg q]
   (clear h this;lia)
 obtain⟨x,h1,h2⟩:=cR ha hb h
 by_cases q:x=z
 ·subst q;refine oI (ha.plus n1) hb λy=>?_;rw[sm]
  by_cases q:y=z
  ·subst q;rw[if_pos rfl];assumption
  ·have:0<cmp y z:=by have:=oJ q;have:=aO z y;(clear h h1;lia)
   rw[if_neg q,h2 y this]
   (clear h h1 this;lia)
 ·have:cmp (plusO a (c z 1 z)) b<0:=by
   refine dP (x:=x) (ha.plus n1) hb (by rw[sm,if_neg q];(clear h;lia)) λy hy=>?_;have hyz:y≠z:=λk=>by subst k;cases x<;> simp[cmp] at hy
   rw[sm,if_neg hyz,h2 y hy]
   (clear h h1 hy;lia)
  (clear h h1;lia)
end O
namespace O
noncomputable abbrev one:O:=c z 1 z
noncomputable abbrev lim (b:O):O:=filt (λy _=>decide (¬y=z)) b
theorem times_mx {a b:O} (ha:NF a) (hb:NF b):mx (timesO a b)<=(mx a+1)*(mx b+1):=by
 cases a with
 | z=>
   have:=mx_nonneg b;show(0:Int)<=(0+1)*(mx b+1);lia
 | c e n r=>exact tD ha hb
end O
namespace O
theorem tE {n:Int} {e:O} {k:Int} {r:O} (he:e≠z):plusO (c z n z) (c e k r)=c e k r:=by
 have h1:=oJ he;rw[plus_c,filt_c,if_neg (by simp;lia),same_ne (Ne.symm he)];show c e (0+k) r=_;rw[Int.zero_add]
section
variable {x:O} {n m:Int}
end
end O
namespace O
noncomputable abbrev w1:O:=c one 1 z
end O
namespace O
end O
namespace O
noncomputable def ot:O->Int
 | z=>0
 | c _ n r=>max n (ot r)
end O
namespace O
end O
namespace O
noncomputable def val (b:Nat):O->Nat
 | z=>0
 | c e n r=>n.toNat*b^val b e+val b r
structure Wr (b:Nat) (a:O):Prop where
 nf:NF a
 mx:O.mx a<b
end O
namespace O
noncomputable def tp (b:Nat):O->Nat
 | z=>0
 | c e _ _=>val b e+1
end O
namespace O
open Classical in
noncomputable def rep (b s:Nat):O:=if h:∃o,Wr b o/\val b o=s then choose h else z
noncomputable def tl (b:Nat):Nat->O
 | 0=>z
 | s+1=>c (rep b s) ((b:Int)-1) (tl b s)
noncomputable def dn (b:Nat) (a:O):O:=app (fh a) (tl b (val b (cy a)))
end O
namespace O
inductive Wy (b:Nat):O->Prop where
 | z:Wy b z
 | c {a:O} (h0:a≠O.z) (nf:NF a) (w:Wr b (fh a)) (k:Wy b (cy a)):Wy b a
end O
namespace O
end O
namespace O
noncomputable def xb (b:Nat):Nat:=if b*b<=55 then b else 54/b+1
noncomputable def D2 (b:Nat):O:=if b<56 then c (c z 1 z) (xb b:Int) z else c z 55 z
structure Rw (b k:Nat) (a:O):Prop where
 wr:Wr (b+k) a
 aU:Lt (D2 b) a
 tp:O.tp (b+k) a<=200
end O
namespace O
structure Hi (b:Nat) (a p e:O) (n:Int):Prop where
 app:a=O.app p (c e n z)
 wp:Wr b p
 we:Wr b e
 n1:1<=n
 n2:n<b
 last:cy a=e
 div:∃q,val b p=q*b^ (val b e+1)
 lt:p≠z->cmp e (cy p)<0
 dp:p.dp<=a.dp
 de:e.dp<a.dp
 aU:∀x,Lt x a->Lt x p
end O
namespace O
end O
inductive Tr where
 | z
 | c (b r:Tr)
namespace Tr
noncomputable def pts:Tr->Nat
 | z=>1
 | c b r=>pts b+pts r
noncomputable def dp:Tr->Nat
 | z=>0
 | c b r=>max (dp b+1) (dp r)
noncomputable def len:Tr->Nat
 | z=>0
 | c _ r=>len r+1
noncomputable def sm (f:Nat->Nat):Nat->Nat
 | 0=>0
 | n+1=>sm f n+f n
structure FH (n M:Nat) (ch:Nat->List Nat) (ds:Nat->Nat):Prop where
 pos:1<=n
 d0:ds 0=0
 in_:∀v,v<n->∀j,j∈ch v->v<j/\j<n/\ds j=ds v+1
 dp:∀v,v<n->ds v<=M
 sum:∀f:Nat->Nat,sm (λv=>((ch v).map f).sum) n+f 0=sm f n
 len:∀v,v<n->(ch v).length<=n
structure Fj (n M k:Nat) (ch:Nat->List Nat) (ds:Nat->Nat) (t:Nat->Tr):Prop where
 pts:∀v,k<=v->v<n->Tr.pts (t v)=1+((ch v).map λj=>Tr.pts (t j)).sum
 dp:∀v,k<=v->v<n->Tr.dp (t v)+ds v<=M
end Tr
namespace Tr
open O
noncomputable def nO:Tr->O
 | z=> .z
 | c b r=>lL (.c (nO b) 1 .z) (nO r)
noncomputable def app:Tr->Tr->Tr
 | z,u=>u
 | c b r,u=>c b (app r u)
noncomputable def tF:Tr->Nat->Option Tr
 | z,_=>none
 | c b _,0=>some b
 | c _ r,i+1=>tF r i
noncomputable def tG:Tr->Nat->Tr->Tr
 | z,_,_=>z
 | c _ r,0,u=>app u r
 | c b r,i+1,u=>c b (tG r i u)
noncomputable def B3 (b:Tr):Nat->Tr
 | 0=>z
 | n+1=>c b (B3 b n)
noncomputable def wc (m:Nat):Tr->List Nat->Tr
 | t,[]=>t
 | t,[i]=>tG t i z
 | t,[i,j]=>match tF t i with
   | some b=>tG t i (B3 (tG b j z) (1+m))
   | none=>t
 | t,i::j::k::w=>match tF t i with
   | some b=>tG t i (c (wc m b (j::k::w)) z)
   | none=>t
end Tr
namespace Tr
open O
end Tr
namespace Tr
open O
end Tr
namespace Tr
end Tr
namespace Tr
open O
end Tr
namespace Tr
noncomputable def FI:Tr->Bool
 | z=>true
 | c _ _=>false
noncomputable def bare:Tr->Nat
 | z=>0
 | c b r=>(if FI b=true then 1 else bare b)+bare r
end Tr
namespace O
inductive Ru (n:Int):O->O->Prop
 | less {a:O}:a≠ .z->cy a=.z->Ru n a (fh a)
 | succ {a:O}:a≠ .z->cy a≠ .z->cy (cy a)=.z->Ru n a (O.app (fh a) (.c (fh (cy a)) n .z))
 | lim {a o:O}:a≠ .z->cy a≠ .z->cy (cy a)≠ .z->Ru n (cy a) o->Ru n a (O.app (fh a) (.c o 1 .z))
end O
namespace Tr
open O
noncomputable def wd (t:Tr) (i:Nat) (b:Tr):Prop:=tF t i=some b/\∀j d,tF t j=some d->(j<=i->0<=cmp (nO d) (nO b))/\(i<j->0<cmp (nO d) (nO b))
noncomputable def Fk:Tr->List Nat->Prop
 | t,[]=>t=z
 | t,i::w=>∃b,wd t i b/\Fk b w
end Tr
namespace O
end O
namespace O
structure Bd (d s:Nat) (m:Int) (o:O):Prop where
 nf:o.NF
 dp:o.dp<=d
 sz:o.size<=s
 mx:O.mx o<=m
end O
namespace O
end O
namespace O
end O
namespace O
theorem len_app:∀a b:O,(app a b).len=a.len+b.len
 | z,b=>by simp[app,len]
 | c e n r,b=>by
   have:=len_app r b;show(app r b).len+1=r.len+1+b.len;lia
end O
namespace O
end O
namespace O
noncomputable def e1:O:=c z 1 z
inductive Fm (B k l:Nat):Prop
 | two:B=2->k=16->l<2->Fm B k l
 | three:B=3->k=27->l<3->Fm B k l
end O
namespace O
end O
namespace O
inductive Dn (f:Nat->Int) (a:O):List O->O->Prop where
 | one:Dn f a [a] a
 | step {os:List O} {b o:O} (h:Dn f a os b) (hb:b≠z) (l:zE b (f (os.length-1)) o):Dn f a (os++[o]) o
end O
namespace Tr
instance decZ:(t:Tr)->Decidable (t=z)
 | z=> .isTrue rfl
 | c _ _=> .isFalse (λh=>by cases h)
noncomputable def Dc:List Tr->Tr
 | []=>z
 | [t]=>t
 | _::u::l=>Dc (u::l)
noncomputable def step (ls:List Tr) (s:Nat):Option (List Tr):=
 if s=40/\Dc ls=z/\ls.length<=41 then some (z::ls)
 else if s=41 then
  match ls with
  | t::u::l=>some (u.app (c t z)::l)
  | _=>none
 else none
structure Bg (ls:List Tr):Prop where
 ne:ls≠[]
 lo:Dc ls=z∨∃b,ls=[c b z]
 len:ls.length<=42
noncomputable def Fn:List Nat->Bool->Int->Int->Option (Int×Int)
 | [],_,d,m=>some (d,m)
 | s::cs,f,d,m=>
   if ¬(s=40∨s=41)∨(f=false/\d=0) then none
   else
    let d':=d+1-2*(if s=41 then 1 else 0)
    if d'<0 then none else Fn cs false d' (max m d')
noncomputable def rt (l:List Nat):Bool:=match Fn l true 0 0 with
 | none=>false
 | some (d,m)=>decide (l≠[])&&decide (d=0)&&decide (l.length<=1200)&&decide (m<=41)
end Tr
namespace Tr
open O
inductive D3 (f:Nat->Nat) (t:Tr):List Tr->Tr->Prop
 | one:D3 f t [t] t
 | step {ts:List Tr} {u:Tr} {w:List Nat} (h:D3 f t ts u) (hz:u≠z) (hw:w≠[]) (hl:Fk u w) (hp:pts (wc (f (ts.length-1)) u w)<=60):D3 f t (ts++[wc (f (ts.length-1)) u w]) (wc (f (ts.length-1)) u w)
section
variable {f:Nat->Nat} {t u:Tr} {ts:List Tr}
end
end Tr
open O
mutual
inductive Rw (α:Type) where
 | set (b:α) (n:Int)
 | copy (b o:α)
 | add (b o:α)
 | less (b:α)
 | times (b:α) (rs:oM α)
 | count (rs:oM α) (n:Int)
inductive oM (α:Type) where
 | nil
 | cons (r:Rw α) (rs:oM α)
end
noncomputable def om:O:= .c (O.wh 1) 1 .z
section
variable {α:Type}
mutual
noncomputable def Rw.wt:Rw α->O
 | .times _ rs=>O.timesO (O.plusO rs.wt (O.wh 1)) om
 | .count rs n=>O.plusO (O.timesO (O.plusO rs.wt (O.wh 1)) (O.wh n)) (O.wh 1)
 | _=>O.wh 1
noncomputable def oM.wt:oM α->O
 | .nil=> .z
 | .cons r rs=>O.plusO rs.wt r.wt
end
mutual
noncomputable def Rw.hb:Rw α->Nat
 | .times _ rs=>rs.hb+2
 | .count rs _=>rs.hb+3
 | _=>1
noncomputable def oM.hb:oM α->Nat
 | .nil=>0
 | .cons r rs=>rs.hb+r.hb
end
mutual
noncomputable def Rw.mb:Rw α->Nat
 | .times _ rs=>(rs.mb+2)*2
 | .count rs n=>(rs.mb+2)*(n.toNat+1)+1
 | _=>1
noncomputable def oM.mb:oM α->Nat
 | .nil=>0
 | .cons r rs=>rs.mb+r.mb
end
mutual
noncomputable def Rw.lb:Rw α->Nat
 | .count rs _=>rs.lb+2
 | _=>1
noncomputable def oM.lb:oM α->Nat
 | .nil=>0
 | .cons r rs=>rs.lb+r.lb
end
mutual
noncomputable def Rw.nn:Rw α->Prop
 | .times _ rs=>rs.nn
 | .count rs n=>rs.nn/\0<=n
 | _=>True
noncomputable def oM.nn:oM α->Prop
 | .nil=>True
 | .cons r rs=>r.nn/\rs.nn
end
mutual
noncomputable def Rw.dt:Rw α->Nat
 | .times _ rs=>rs.dt+1
 | .count rs _=>rs.dt+1
 | _=>0
noncomputable def oM.dt:oM α->Nat
 | .nil=>0
 | .cons r rs=>max r.dt rs.dt
end
structure Wb (o:O) (h m l:Nat):Prop where
 nf:o.NF
 dp:o.dp<=3
 hw:O.hw o<=h
 mx:O.mx o<=m
 ln:o.len<=l
theorem jy (a b:O):(O.plusO a b).len<=a.len+b.len:=by
 cases b with
 | z=>show a.len<=_;lia
 | c e n r=>
   rw[O.plus_c,O.len_app'];have:=O.len_filt' (λx _=>decide (0<O.cmp x e)) a;show _+(r.len+1)<=a.len+(r.len+1);lia
theorem Wb.wh {n:Int} (h:0<=n):Wb (O.wh n) 1 n.toNat 1:=by
 by_cases h0:n=0
 ·subst h0;exact⟨trivial,zero_le _,zero_le _,Int.le_refl _,zero_le _⟩
 ·rw[O.wh_pos (by lia)];refine⟨⟨trivial,by lia,trivial,trivial⟩,Nat.le_of_ble_eq_true rfl,Nat.le_of_ble_eq_true rfl,?_,Nat.le_of_ble_eq_true rfl⟩;show max n (max 0 0)<=_
  (clear h0;lia)
theorem pS:O.NF om:=⟨O.NF.wh (by decide),by decide,trivial,trivial⟩
end
noncomputable def rk (os:List O) (o:O):Nat:=(os.filter λx=>decide (cmp x o<0)).length
theorem kJ {α:Type} {p q:α->Bool}:∀{l:List α},(∀x,x∈l->p x=true->q x=true)->(l.filter p).length<=(l.filter q).length
 | [],_=>le_refl _
 | x::l,h=>by
   have ih:=kJ (p:=p) (q:=q) (l:=l) λy hy=>h y (mem_cons_of_mem _ hy);have hx:=h x mem_cons_self;rw[filter_cons,filter_cons]
   by_cases e:p x=true
   ·rw[if_pos e,if_pos (hx e)];simp only[length_cons];lia
   ·rw[if_neg e];split
    ·simp only[length_cons];lia
    ·exact ih
theorem il {α:Type} {p q:α->Bool}:∀{l:List α} {a:α},a∈l->p a=false->q a=true->(∀x,x∈l->p x=true->q x=true)->(l.filter p).length<(l.filter q).length
 | x::l,a,ha,h1,h2,h=>by
   rw[filter_cons,filter_cons];rcases mem_cons.mp ha with rfl | ha
   ·have ih:=kJ (p:=p) (q:=q) (l:=l) λy hy=>h y (mem_cons_of_mem _ hy);rw[if_neg (by rw[h1];exact Bool.false_ne_true),if_pos h2];simp only[length_cons];lia
   ·have ih:=il (p:=p) (q:=q) ha h1 h2 λy hy=>h y (mem_cons_of_mem _ hy);have hx:=h x mem_cons_self
    by_cases e:p x=true
    ·rw[if_pos e,if_pos (hx e)];simp only[length_cons];lia
    ·rw[if_neg e];split
     ·simp only[length_cons];lia
     ·exact ih
theorem pT {os:List O} {a b:O} (ha:a∈os) (h:cmp a b<0):rk os a<rk os b:=by
 unfold rk;refine il ha ?_ (decide_eq_true h) λx _ hx=>?_
 ·rw[cmp_self];rfl
 ·exact decide_eq_true (bo x a b (of_decide_eq_true hx) h)
theorem zF {os:List O} {a:O} (ha:a∈os):rk os a<os.length:=by
 have h:=il (p:=λx=>decide (cmp x a<0)) (q:=λ_=>true) ha (by rw[cmp_self];rfl) rfl λ_ _ _=>rfl;have e:(os.filter λ_=>true)=os:=List.filter_eq_self.mpr λ_ _=>rfl;unfold rk;rw[e] at h;exact h
theorem tH {os:List O} {a b:O} (ha:a∈os) (hb:b∈os):rk os a<rk os b↔cmp a b<0:=by
 constructor
 ·intro h;rcases cmp_range a b with e | e | e
  ·(clear h;lia)
  ·rw[cmp_eq a b e] at h;(clear e;lia)
  ·have:cmp b a<0:=by rw[aO];(clear h;lia)
   have:=pT hb this
   (clear e;lia)
 ·exact pT ha
theorem zG {os:List O} {a b:O} (ha:a∈os) (hb:b∈os) (h:rk os a=rk os b):a=b:=by
 rcases cmp_range a b with e | e | e
 ·have:=pT ha (show cmp a b<0 by (clear h;lia));(clear e;lia)
 ·exact cmp_eq a b e
 ·have:=pT hb (show cmp b a<0 by rw[aO];(clear h;lia));(clear e;lia)
theorem pU {α:Type} [DecidableEq α]:∀{l m:List α},l.Nodup->(∀x,x∈l->x∈m)->m.length=l.length->l.Perm m
 | [],m,_,_,e=>by rw[List.eq_nil_of_length_eq_zero e]
 | x::l,m,hn,hs,e=>by
   rw[nodup_cons] at hn;have hx:=hs x mem_cons_self;have h1:=List.perm_cons_erase hx;refine List.Perm.trans (List.Perm.cons x (pU (m:=m.erase x) hn.2 (λy hy=>?_) ?_)) h1.symm
   ·exact(List.mem_erase_of_ne (λ(z:y=x)=>hn.1 (by rw[←z];exact hy))).mpr (hs y (mem_cons_of_mem _ hy))
   ·rw[List.length_erase_of_mem hx,e];rfl
noncomputable def dy (l:List O):Prop:=l.Pairwise λa b=>cmp b a<0
theorem wf {os:List O} {n:Nat} (hn:os.length=n) (hd:os.Nodup) {p:List Nat} (hp:(p.map λi=>(os.map (rk os)).getD i 0)=List.range n) (hi:∀i,i∈p->i<n):
 dy ((p.map λi=>os.getD i .z).reverse)/\((p.map λi=>os.getD i .z).reverse).Perm os:=by
 have hm:∀i,i∈p->os.getD i .z∈os:=λi h=>by
  have hi':=hi i h;rw[List.getD_eq_getElem?_getD,List.getElem?_eq_getElem (by lia)];exact getElem_mem _
 have he:∀i,i∈p->(os.map (rk os)).getD i 0=rk os (os.getD i .z):=λi h=>by
  have hi':=hi i h;rw[List.getD_eq_getElem?_getD,List.getD_eq_getElem?_getD,List.getElem?_map,List.getElem?_eq_getElem (by lia)]
  rfl
 have hr:(p.map λi=>os.getD i .z).map (rk os)=List.range n:=by
  rw[map_map,←hp];exact List.map_congr_left λi h=>(he i h).symm
 have hmem:∀x,x∈(p.map λi=>os.getD i .z)->x∈os:=λx hx=>by
  obtain⟨i,h1,rfl⟩:=mem_map.mp hx;exact hm i h1
 generalize (p.map λi=>os.getD i .z)=asc at hr hmem;have hlen:asc.length=n:=by have:=congrArg List.length hr;simpa using this
 have hpw:asc.Pairwise λa b=>cmp a b<0:=by
  have h1:(asc.map (rk os)).Pairwise (·< ·):=by rw[hr];exact List.pairwise_lt_range
  rw[List.pairwise_map] at h1;exact h1.imp_of_mem λ{a b} ha hb h=>(tH (hmem a ha) (hmem b hb)).mp h
 constructor
 ·unfold dy;rw[List.pairwise_reverse];exact hpw
 ·refine(List.reverse_perm asc).trans (pU ?_ hmem (by lia));exact hpw.imp λ{a b} h z=>by rw[z,cmp_self] at h;(clear hn hlen;lia)
mutual
inductive Rq (α:Type) where
 | set (b:α) (n:Int)
 | copy (b o:α)
 | add (b o:α)
 | less (b:α)
 | times (b:α) (rs:aQ α)
 | count (rs:aQ α) (n:Int)
 | whl (b:α) (hs:List (O×List α)) (rs:aQ α)
 | bear (b:α) (hs:List (O×List α)) (rs:aQ α) (o:O)
inductive aQ (α:Type) where
 | nil
 | cons (r:Rq α) (rs:aQ α)
end
section
variable {α:Type}
noncomputable def tI:List (O×List α)->O
 | []=> .z
 | p::_=>O.plusO p.1 (O.wh 1)
noncomputable def hpw (hs:List (O×List α)):O:= .c (tI hs) 1 .z
mutual
noncomputable def Rq.wt:Rq α->O
 | .times _ rs=>O.timesO (O.plusO rs.wt (O.wh 1)) om
 | .count rs n=>O.plusO (O.timesO (O.plusO rs.wt (O.wh 1)) (O.wh n)) (O.wh 1)
 | .whl _ hs rs=>O.plusO (O.timesO (O.plusO rs.wt (O.wh 2)) (hpw hs)) (O.wh 1)
 | .bear _ _ rs o=>O.plusO (O.timesO (O.plusO rs.wt (O.wh 2)) o) (O.wh 1)
 | _=>O.wh 1
noncomputable def aQ.wt:aQ α->O
 | .nil=> .z
 | .cons r rs=>O.plusO rs.wt r.wt
end
noncomputable def aQ.rnd (rs:aQ α):O:=O.plusO rs.wt (O.wh 1)
noncomputable def aQ.rnw (rs:aQ α):O:=O.plusO rs.wt (O.wh 2)
mutual
noncomputable def Rq.hb:Rq α->Nat
 | .times _ rs=>rs.hb+2
 | .count rs _=>rs.hb+3
 | .whl _ hs rs=>rs.hb+hw (hpw hs)+2
 | .bear _ _ rs o=>rs.hb+hw o+2
 | _=>1
noncomputable def aQ.hb:aQ α->Nat
 | .nil=>0
 | .cons r rs=>rs.hb+r.hb
end
mutual
noncomputable def Rq.mb:Rq α->Nat
 | .times _ rs=>(rs.mb+2)*2
 | .count rs n=>(rs.mb+2)*(n.toNat+1)+1
 | .whl _ hs rs=>(rs.mb+3)*((mx (hpw hs)).toNat+1)+1
 | .bear _ _ rs o=>(rs.mb+3)*((mx o).toNat+1)+1
 | _=>1
noncomputable def aQ.mb:aQ α->Nat
 | .nil=>0
 | .cons r rs=>rs.mb+r.mb
end
mutual
noncomputable def Rq.lb:Rq α->Nat
 | .count rs _=>rs.lb+2
 | .whl _ hs rs=>match hs with
   | []=>rs.lb+2
   | _::_=>2
 | .bear _ _ rs o=>rs.lb+1+o.len+1
 | _=>1
noncomputable def aQ.lb:aQ α->Nat
 | .nil=>0
 | .cons r rs=>rs.lb+r.lb
end
noncomputable def qX (d:Nat) (hs:List (O×List α)):Prop:=∀p,p∈hs->p.1.NF/\p.1.dp<=d/\O.hw p.1<=100
mutual
noncomputable def Rq.nn:Rq α->Prop
 | .times _ rs=>rs.nn
 | .count rs n=>rs.nn/\0<=n
 | .whl _ hs rs=>rs.nn/\qX 3 hs
 | .bear _ hs rs o=>rs.nn/\qX 3 hs/\o.NF/\o.dp<=4
 | _=>True
noncomputable def aQ.nn:aQ α->Prop
 | .nil=>True
 | .cons r rs=>r.nn/\rs.nn
end
mutual
noncomputable def Rq.dt:Rq α->Nat
 | .times _ rs=>rs.dt+1
 | .count rs _=>rs.dt+1
 | .whl _ _ rs=>rs.dt+1
 | .bear _ _ rs _=>rs.dt+1
 | _=>0
noncomputable def aQ.dt:aQ α->Nat
 | .nil=>0
 | .cons r rs=>max r.dt rs.dt
end
noncomputable def aQ.L:aQ α->List (Rq α)
 | .nil=>[]
 | .cons r rs=>r::rs.L
noncomputable def aQ.of:List (Rq α)->aQ α
 | []=> .nil
 | r::rs=> .cons r (aQ.of rs)
theorem aQ.of_L:∀rs:aQ α,aQ.of rs.L=rs
 | .nil=>rfl
 | .cons r rs=>by rw[aQ.L,aQ.of,aQ.of_L rs]
theorem aQ.L_of:∀rs:List (Rq α),(aQ.of rs).L=rs
 | []=>rfl
 | r::rs=>by rw[aQ.of,aQ.L,aQ.L_of rs]
noncomputable def bw:List (Rq α)->O
 | []=> .z
 | r::rs=>O.plusO (bw rs) r.wt
theorem iW:∀rs:List (Rq α),(aQ.of rs).wt=bw rs
 | []=>rfl
 | r::rs=>by rw[aQ.of,aQ.wt,bw,iW rs]
structure Wq (o:O) (h m l:Nat):Prop where
 nf:o.NF
 dp:o.dp<=4
 hw:O.hw o<=h
 mx:O.mx o<=m
 ln:o.len<=l
theorem Wq.plus {a b:O} {h m l h' m' l':Nat} (x:Wq a h m l) (y:Wq b h' m' l'):Wq (O.plusO a b) (h+h') (m+m') (l+l'):=by
 refine⟨x.nf.plus y.nf,?_,?_,?_,?_⟩
 ·exact le_trans (O.dp_plus a b) (max_le.mpr ⟨x.dp,y.dp⟩)
 ·have:=O.hw_plus a b;have:=x.hw;have:=y.hw;lia
 ·have:=O.mx_plus (b:=b) x.nf;have:=x.mx;have:=y.mx;lia
 ·have:=jy a b;have:=x.ln;have:=y.ln;lia
theorem Wq.z:Wq .z 0 0 0:=⟨trivial,zero_le _,le_refl _,Int.le_refl _,le_refl _⟩
theorem Wq.of {o:O} {h m l:Nat} (x:Wb o h m l):Wq o h m l:=⟨x.nf,Nat.le_succ_of_le x.dp,x.hw,x.mx,x.ln⟩
theorem Wq.wh {n:Int} (h:0<=n):Wq (O.wh n) 1 n.toNat 1:= .of (.wh h)
theorem mW (e:O) (n:Int) (r:O):∀b:O,(O.mulP e n r b).len<=r.len+1+b.len
 | .z=>zero_le _
 | .c f d t=>by
   rw[O.mulP_c];split
   ·show r.len+1<=r.len+1+(t.len+1);lia
   ·have:=mW e n r t;show(O.mulP e n r t).len+1<=r.len+1+(t.len+1);lia
theorem im (a b:O):(O.timesO a b).len<=a.len+b.len:=by
 cases a with
 | z=>exact zero_le _
 | c e n r=>exact mW e n r b
theorem Wq.times {a b:O} {h m l:Nat} (x:Wq a h m l) (hb:b.NF) (hd:b.dp<=4) (hk:(O.timesO a b).len<=k):Wq (O.timesO a b) (h+O.hw b) ((m+1)*((O.mx b).toNat+1)) k:=by
 refine⟨x.nf.times hb,?_,?_,?_,hk⟩
 ·exact le_trans (O.dp_times a b) (max_le.mpr ⟨x.dp,hd⟩)
 ·have:=O.hw_times a b;have:=x.hw
  (clear hd hk;lia)
 ·have h1:=O.times_mx x.nf hb;have h2:=x.mx;have h5:=O.mx_nonneg b;have h3:(O.mx a+1)*(O.mx b+1)<=((m:Int)+1)*(((O.mx b).toNat:Int)+1):=Int.mul_le_mul (by (clear hd hk h1 h5;lia)) (by (clear hd hk h1 h2;lia)) (by (clear hd hk h1 h2;lia)) (by (clear hd hk h1 h2 h5;lia));have h4:(((m+1)*((O.mx b).toNat+1):Nat):Int)=((m:Int)+1)*(((O.mx b).toNat:Int)+1):=by simp
  (clear hd hk h2 h5;lia)
theorem Wq.lia {a:O} {h m l:Nat} (x:Wq a h m l):Wq (O.timesO a om) (h+1) ((m+1)*2) 1:=by
 refine x.times (b:=om) pS (by decide) ?_;cases a with
 | z=>exact zero_le _
 | c e n r=>
   show(O.mulP e n r (.c (O.wh 1) 1 .z)).len<=1;rw[O.mulP_c,if_neg (by decide)];exact le_refl _
theorem Wq.many {a:O} {h m l:Nat} (x:Wq a h m l) {n:Int} (hn:0<=n):Wq (O.timesO a (O.wh n)) (h+1) ((m+1)*(n.toNat+1)) l:=by
 have y:=Wb.wh hn;have hk:(O.timesO a (O.wh n)).len<=l:=by
  by_cases h0:n=0
  ·subst h0;rw[show O.wh 0=.z from rfl,O.times_z];exact zero_le _
  ·rw[O.wh_pos (by lia)];cases a with
   | z=>exact zero_le _
   | c e k r=>
     show(O.mulP e k r (.c .z n .z)).len<=l;rw[O.mulP_c,if_pos rfl];exact x.ln
 have z:=x.times y.nf (Nat.le_succ_of_le y.dp) hk;refine⟨z.nf,z.dp,le_trans z.hw (Nat.add_le_add_left y.hw _),Int.le_trans z.mx ?_,z.ln⟩;have h5:=y.mx;exact Int.ofNat_le.mpr (Nat.mul_le_mul_left _ (by (clear hn hk;lia)))
theorem tJ {hs:List (O×List α)} (h:qX 3 hs):(tI hs).NF/\(tI hs).dp<=3:=by
 cases hs with
 | nil=>exact⟨trivial,zero_le _⟩
 | cons p hs=>
   obtain⟨h1,h2,_⟩:=h p mem_cons_self;have y:=Wb.wh (n:=1) (by decide);exact⟨h1.plus y.nf,le_trans (O.dp_plus p.1 (O.wh 1)) (max_le.mpr ⟨h2,y.dp⟩)⟩
theorem lO {hs:List (O×List α)} (h:qX 3 hs):(hpw hs).NF/\(hpw hs).dp<=4:=by
 obtain⟨h1,h2⟩:=tJ h;refine⟨⟨h1,by decide,trivial,trivial⟩,?_⟩;show max ((tI hs).dp+1) 0<=4;lia
theorem zH (p:O×List α) (hs:List (O×List α)):tI (p::hs)≠ .z:=by
 show O.plusO p.1 (O.wh 1)≠ .z;rw[O.wh_pos (by decide),O.plus_c];intro h;have:=congrArg O.len h;rw[O.len_app'] at this;simp[O.len] at this
theorem wg (a:O) (hs:List (O×List α)):(O.timesO a (hpw hs)).len<=match hs with
 | []=>a.len
 | _::_=>1:=by
 cases a with
 | z=>exact zero_le _
 | c e n r=>
   cases hs with
   | nil=>
     show(O.mulP e n r (.c .z 1 .z)).len<=_;rw[O.mulP_c,if_pos rfl];exact le_refl _
   | cons p hs=>
     show(O.mulP e n r (.c (tI (p::hs)) 1 .z)).len<=1;rw[O.mulP_c,if_neg (zH p hs)];exact le_refl _
mutual
theorem Rq.wq:∀r:Rq α,r.nn->Wq r.wt r.hb r.mb r.lb
 | .set _ _,_=>Wq.wh (n:=1) (by decide)
 | .copy _ _,_=>Wq.wh (n:=1) (by decide)
 | .add _ _,_=>Wq.wh (n:=1) (by decide)
 | .less _,_=>Wq.wh (n:=1) (by decide)
 | .times _ rs,h=>by
   have:=((aQ.wq rs h).plus (Wq.wh (n:=1) (by decide))).lia;exact this
 | .count rs n,h=>by
   have:=(((aQ.wq rs h.1).plus (Wq.wh (n:=1) (by decide))).many h.2).plus (Wq.wh (n:=1) (by decide));exact this
 | .whl _ hs rs,h=>by
   obtain⟨h1,h2⟩:=lO h.2;have x:=(aQ.wq rs h.1).plus (Wq.wh (n:=2) (by decide));have y:=(x.times h1 h2 (wg _ hs)).plus (Wq.wh (n:=1) (by decide));refine⟨y.nf,y.dp,?_,y.mx,?_⟩
   ·refine le_trans y.hw ?_;show _<=rs.hb+O.hw (hpw hs)+2
    (clear h2;lia)
   ·have h3:=y.ln;cases hs with
    | nil=>
      have h4:=x.ln;simp only at h3;show _<=rs.lb+2;exact le_trans h3 (by (clear h2 h3;lia))
    | cons p hs=>exact h3
 | .bear _ _ rs o,h=>by
   have x:=(aQ.wq rs h.1).plus (Wq.wh (n:=2) (by decide));have y:=(x.times h.2.2.1 h.2.2.2 (le_trans (im _ o) (Nat.add_le_add_right x.ln _))).plus (Wq.wh (n:=1) (by decide));refine⟨y.nf,y.dp,?_,y.mx,y.ln⟩;refine le_trans y.hw ?_;show _<=rs.hb+O.hw o+2;lia
theorem aQ.wq:∀rs:aQ α,rs.nn->Wq rs.wt rs.hb rs.mb rs.lb
 | .nil,_=>Wq.z
 | .cons r rs,h=>(aQ.wq rs h.2).plus (Rq.wq r h.1)
end
theorem aQ.rb {rs:aQ α} (h:rs.nn):Wq rs.rnd (rs.hb+1) (rs.mb+1) (rs.lb+1):=(rs.wq h).plus (Wq.wh (n:=1) (by decide))
theorem aQ.rbw {rs:aQ α} (h:rs.nn):Wq rs.rnw (rs.hb+1) (rs.mb+2) (rs.lb+1):=(rs.wq h).plus (Wq.wh (n:=2) (by decide))
noncomputable def insO (o:O):List O->List O
 | []=>[o]
 | x::l=>if cmp o x=0 then x::l else if cmp o x=1 then o::x::l else x::insO o l
theorem mem_insO {x o:O}:∀{l:List O},x∈insO o l↔x=o∨x∈l
 | []=>by simp[insO]
 | y::l=>by
   unfold insO;split
   ·rename_i h;have:=cmp_eq o y h;subst this;simp
   ·split
    ·simp
    ·rw[mem_cons,mem_cons,mem_insO (l:=l)];constructor
     ·rintro(h | h | h)
      ·exact .inr (.inl h)
      ·exact .inl h
      ·exact .inr (.inr h)
     ·rintro(h | h | h)
      ·exact .inr (.inl h)
      ·exact .inl h
      ·exact .inr (.inr h)
theorem dy.insO {o:O}:∀{l:List O},dy l->dy (insO o l)
 | [],_=>List.pairwise_singleton _ _
 | y::l,h=>by
   obtain⟨h1,h2⟩:=pairwise_cons.mp h;unfold Nm.insO;split
   ·exact h
   ·rename_i e0;split
    ·rename_i e1;refine pairwise_cons.mpr ⟨λx hx=>?_,h⟩;have e2:cmp y o<0:=by rw[aO,e1];decide
     rcases mem_cons.mp hx with rfl | hx
     ·exact e2
     ·exact bo x y o (h1 x hx) e2
    ·rename_i e1;refine pairwise_cons.mpr ⟨λx hx=>?_,dy.insO h2⟩;rcases mem_insO.mp hx with rfl | hx
     ·rcases cmp_range x y with e | e | e<;> lia
     ·exact h1 x hx
noncomputable def iH (l:List O):List O:=l.foldr insO []
theorem mem_descO {x:O}:∀{l:List O},x∈iH l↔x∈l
 | []=>Iff.rfl
 | y::l=>by
   show x∈insO y (iH l)↔_;rw[mem_insO,mem_descO (l:=l),mem_cons]
theorem gh:∀l:List O,dy (iH l)
 | []=>List.Pairwise.nil
 | _::l=>(gh l).insO
theorem dy.uniq:∀{l m:List O},dy l->dy m->(∀x,x∈l↔x∈m)->l=m
 | [],[],_,_,_=>rfl
 | [],y::m,_,_,h=>(nomatch (h y).mpr mem_cons_self)
 | x::l,[],_,_,h=>(nomatch (h x).mp mem_cons_self)
 | x::l,y::m,h1,h2,h=>by
   obtain⟨a1,a2⟩:=pairwise_cons.mp h1;obtain⟨b1,b2⟩:=pairwise_cons.mp h2;have e:x=y:=by
    rcases mem_cons.mp ((h x).mp mem_cons_self) with e | e
    ·exact e
    ·rcases mem_cons.mp ((h y).mpr mem_cons_self) with e' | e'
     ·exact e'.symm
     ·have p:=b1 x e;have q:=a1 y e';rw[aO] at q;lia
   subst e;have:=dy.uniq (l:=l) (m:=m) a2 b2 λz=>by
    constructor
    ·intro hz;rcases mem_cons.mp ((h z).mp (mem_cons_of_mem _ hz)) with rfl | e
     ·have:=a1 z hz;rw[cmp_self] at this;lia
     ·exact e
    ·intro hz;rcases mem_cons.mp ((h z).mpr (mem_cons_of_mem _ hz)) with rfl | e
     ·have:=b1 z hz;rw[cmp_self] at this;lia
     ·exact e
   rw[this]
noncomputable def ck (ms:List (O×α)) (o:O):List α:=(ms.filter λm=>decide (m.1=o)).map (·.2)
theorem jz (ms:List (O×α)) (m:O×α) (o:O):ck (ms++[m]) o=ck ms o++(if m.1=o then [m.2] else []):=by
 unfold ck;rw[List.filter_append,map_append]
 congr 1
 by_cases h:m.1=o
 ·rw[if_pos h,List.filter_cons_of_pos (by simpa using h)];rfl
 ·rw[if_neg h,List.filter_cons_of_neg (by simpa using h)];rfl
theorem oN {ms:List (O×α)} {o:O} (h:o∉ms.map (·.1)):ck ms o=[]:=by
 unfold ck;rw[List.filter_eq_nil_iff.mpr λm hm=>by simp only[decide_eq_true_eq];exact λe=>h (mem_map.mpr ⟨m,hm,e⟩)]
 rfl
noncomputable def iI (ms:List (O×α)):List (O×List α):=(iH (ms.map (·.1))).map λo=>(o,ck ms o)
theorem zI {ms:List (O×α)} {ks:List O} (h1:dy ks) (h2:∀o,o∈ks↔o∈ms.map (·.1)):(ks.map λo=>(o,ck ms o))=iI ms:=by
 unfold iI;rw[dy.uniq h1 (gh _) λx=>(h2 x).trans mem_descO.symm]
theorem pV {ms:List (O×α)} {p:O×List α} (h:p∈iI ms):p.1∈ms.map (·.1):=by
 obtain⟨o,ho,rfl⟩:=mem_map.mp h;exact mem_descO.mp ho
end
section
variable {α:Type}
noncomputable def iO (g:α->Int):List α->Int
 | []=>0
 | n::ns=>g n+iO g ns
theorem lP {g:α->Int} (h:∀x,0<=g x):∀l:List α,0<=iO g l
 | []=>Int.le_refl _
 | n::ns=>by have:=lP h ns;have:=h n;simp only[iO];lia
theorem pW {g:α->Int} {B:Int} (h:∀x,g x<=B):∀l:List α,iO g l<=l.length*B
 | []=>by simp[iO]
 | n::ns=>by
   have:=pW h ns;have:=h n;simp only[iO,length_cons];rw[Int.natCast_succ,Int.add_mul];lia
noncomputable def bG (g:α->Int):List (O×List α)->O
 | []=> .z
 | p::hs=>if iO g p.2=0 then bG g hs else .c p.1 (iO g p.2) (bG g hs)
theorem gH (g:α->Int):∀hs:List (O×List α),(bG g hs).len<=hs.length
 | []=>le_refl _
 | p::hs=>by
   have:=gH g hs;unfold bG;split
   ·rw[length_cons];lia
   ·simp only[O.len,length_cons];lia
theorem lQ {g:α->Int} {x:O}:∀{hs:List (O×List α)},(∀p,p∈hs->cmp p.1 x<0)->Lt x (bG g hs)
 | [],_=>trivial
 | p::hs,h=>by
   have ih:=lQ (g:=g) (x:=x) (hs:=hs) λq hq=>h q (mem_cons_of_mem _ hq);unfold bG;split
   ·exact ih
   ·exact⟨h p mem_cons_self,ih⟩
theorem iX {g:α->Int} (hg:∀x,0<=g x):∀{hs:List (O×List α)},qX 3 hs->dy (hs.map (·.1))->NF (bG g hs)
 | [],_,_=>trivial
 | p::hs,h,hd=>by
   rw[map_cons] at hd;obtain⟨d1,d2⟩:=pairwise_cons.mp hd;have ih:=iX hg (hs:=hs) (λq hq=>h q (mem_cons_of_mem _ hq)) d2;have hs0:=lP hg p.2;unfold bG;split
   ·exact ih
   ·exact⟨(h p mem_cons_self).1,by lia,lQ λq hq=>d1 q.1 (mem_map.mpr ⟨q,hq,rfl⟩),ih⟩
theorem kK {g:α->Int} {B:Int} {n:Nat} {M:Int} (hg:∀x,0<=g x/\g x<=B) (hM:0<=M):∀{hs:List (O×List α)},qX 3 hs->(∀p,p∈hs->p.2.length<=n/\mx p.1<=M)->(bG g hs).dp<=4/\hw (bG g hs)<=max hs.length 100/\mx (bG g hs)<=max M (n*B)
 | [],_,_=>by refine⟨zero_le _,zero_le _,?_⟩;simp only[bG,mx];lia
 | p::hs,h,hb=>by
   obtain⟨i1,i2,i3⟩:=kK hg hM (hs:=hs) (λq hq=>h q (mem_cons_of_mem _ hq)) (λq hq=>hb q (mem_cons_of_mem _ hq));obtain⟨h1,h2,h3⟩:=h p mem_cons_self;obtain⟨b1,b2⟩:=hb p mem_cons_self;have hl:=gH g hs;unfold bG;split
   ·exact⟨i1,by rw[length_cons];(clear hM i1 i3 h2 h3 b1 b2 hl;lia),i3⟩
   ·have hB:0<=B:=by
     cases hp:p.2 with
     | nil=>
       rename_i hne;rw[hp] at hne;exact absurd rfl hne
     | cons x _=>have:=hg x;(clear hM i1 i2 i3 h2 h3 b1 b2 hl;lia)
    have s1:=pW (λx=>(hg x).2) p.2;have s2:(p.2.length:Int)*B<=n*B:=Int.mul_le_mul_of_nonneg_right (by (clear hM i1 i2 i3 h2 h3 b2 hl hB s1;lia)) hB;refine⟨by simp only[O.dp];(clear hM i2 i3 h3 b1 b2 hl hB s1 s2;lia),?_,?_⟩
    ·rw[hw_c,length_cons];(clear hM i1 i3 h2 b1 b2 hB s1 s2;lia)
    ·rw[mx_c];(clear hM i1 i2 h2 h3 b1 hl hB;lia)
theorem iY (g:α->Int):∀{hs:List (O×List α)},qX 3 hs->(bG g hs).dp<=4
 | [],_=>zero_le _
 | p::hs,h=>by
   have ih:=iY g (hs:=hs) λq hq=>h q (mem_cons_of_mem _ hq);have h2:=(h p mem_cons_self).2.1;unfold bG;split
   ·exact ih
   ·simp only[O.dp];lia
theorem oO {g:α->Int} {hs:List (O×List α)} (h:qX 3 hs) (hd:dy (hs.map (·.1))):cmp (bG g hs) (hpw hs)<0:=by
 cases hs with
 | nil=>show cmp z _<0;unfold hpw tI;simp[cmp]
 | cons p hs=>
   rw[map_cons] at hd;obtain⟨d1,_⟩:=pairwise_cons.mp hd;have hp:=(h p mem_cons_self).1;have hlt:cmp p.1 (tI (p::hs))<0:=by show cmp p.1 (plusO p.1 (wh 1))<0;exact bQ hp (NF.wh (m:=1) (by decide)) (by decide)
   have key:Lt (tI (p::hs)) (bG g (p::hs)):=lQ λq hq=>by
    rcases mem_cons.mp hq with rfl | hq
    ·exact hlt
    ·exact bo _ _ _ (d1 q.1 (mem_map.mpr ⟨q,hq,rfl⟩)) hlt
   unfold hpw;cases hm:bG g (p::hs) with
   | z=>simp[cmp]
   | c e n r=>
     rw[hm] at key;have:=key.1;simp only[cmp];rw[if_pos (by (clear hlt;lia))];exact this
structure Dd (hs:List (O×List α)):Prop where
 ln:hs.length<=100
 nm:∀p,p∈hs->p.2.length<=100
 ds:dy (hs.map (·.1))
mutual
noncomputable def Rq.od:Rq α->Prop
 | .times _ rs=>rs.od
 | .count rs _=>rs.od
 | .whl _ hs rs=>Dd hs/\rs.od
 | .bear _ hs rs _=>Dd hs/\rs.od
 | _=>True
noncomputable def aQ.od:aQ α->Prop
 | .nil=>True
 | .cons r rs=>r.od/\rs.od
end
end
theorem mX {a b m:O} (h:cmp a b<=0) (k:cmp b m<0):cmp a m<0:=by
 rcases cmp_range a b with e | e | e
 ·exact bo a b m (by (clear h k;lia)) k
 ·rw[cmp_eq a b e];exact k
 ·(clear k;lia)
theorem B4 {a b m:O} (h:cmp a b<0) (k:cmp b m<=0):cmp a m<0:=by
 rcases cmp_range b m with e | e | e
 ·exact bo a b m h (by (clear h k;lia))
 ·rw[←cmp_eq b m e];exact h
 ·(clear h;lia)
theorem mY {x:O} (hx:NF x):cmp (plusO (wh 1) x) (plusO x (wh 1))<=0:=by
 cases x with
 | z=>rw[dX,ik,cmp_self];exact Int.le_refl _
 | c e n r=>
   by_cases he:e=z
   ·subst he;have hr:r=z:=Lt_z hx.2.2.1;subst hr;rw[wh_pos (by decide)];have:plusO (c z 1 z) (c z n z)=plusO (c z n z) (c z 1 z):=by
     simp[plus_c,filt,same,app,cmp,Int.add_comm]
    rw[this,cmp_self];exact Int.le_refl _
   ·rw[wh_pos (by decide),tE he];exact Int.le_of_lt (bQ hx ⟨trivial,by decide,trivial,trivial⟩ (λh=>by cases h))
theorem eV {n:Int} (h:0<=n):NF (wh n):=NF.wh h
theorem pX {w u v:O} (hw:NF w) (hu:NF u) (hv:NF v) (h:cmp u v<0):cmp (plusO (plusO (timesO (plusO w (wh 2)) u) (wh 1)) w) (plusO (timesO (plusO w (wh 2)) v) (wh 1))<0:=by
 have n1:NF (wh 1):=eV (by decide);have n2:NF (wh 2):=eV (by decide);have hW:=hw.plus n2;have s1:cmp (plusO (wh 1) w) (plusO w (wh 2))<0:=mX (mY hw) (plus_lt hw n1 n2 (by decide));have w0:plusO w (wh 2)≠z:=λe=>by
  have:=s1;rw[e] at this;cases h2:plusO (wh 1) w with
  | z=>rw[h2,cmp_self] at this;(clear h s1;lia)
  | c _ _ _=>rw[h2] at this;simp[cmp] at this
 generalize plusO w (wh 2)=W at hW s1 w0;have nu:=hW.times hu;rw[fZ nu n1 hw];have s2:=plus_lt nu (n1.plus hw) hW s1;have n1':NF (c z 1 z):=n1;have e1:plusO (timesO W u) W=timesO W (plusO u (c z 1 z)):=by rw[mV hW hu n1',kH]
 rw[e1] at s2;have s3:=oK hu hv h;have s4:cmp (timesO W (plusO u (c z 1 z))) (timesO W v)<=0:=by rw[qW hW w0 (hu.plus n1') hv];exact s3
 exact mX (Int.le_of_lt (B4 s2 s4)) (bQ (hW.times hv) n1 (λh=>by cases h))
theorem tK {w:O} (hw:NF w) {n:Int} (hn:0<n):cmp (plusO (plusO (timesO (plusO w (wh 1)) (wh (n-1))) (wh 1)) w) (plusO (timesO (plusO w (wh 1)) (wh n)) (wh 1))<0:=by
 have n1:NF (wh 1):=eV (by decide);have nm:NF (wh (n-1)):=eV (by lia);have hR:=hw.plus n1;have nt:=hR.times nm;have e:=kI hR (show 0<=n-1 by lia);rw[show n-1+1=n by (clear hn;lia)] at e;rw[fZ nt n1 hw,e];have s1:cmp (plusO (timesO (plusO w (wh 1)) (wh (n-1))) (plusO (wh 1) w)) (plusO (timesO (plusO w (wh 1)) (wh (n-1))) (plusO w (wh 1)))<=0:=by
  rw[cS nt (n1.plus hw) hR];exact mY hw
 exact mX s1 (bQ (nt.plus hR) n1 (λh=>by cases h))
theorem mZ {w:O} (hw:NF w) {n:Int} (hn:0<=n):cmp (plusO (timesO (plusO w (wh 1)) (wh n)) (wh 1)) (timesO (plusO w (wh 1)) om)<0:=by
 have n1:NF (wh 1):=eV (by decide);have hR:=hw.plus n1;have s0:cmp w (plusO w (wh 1))<0:=bQ hw n1 (λh=>by cases h);have r0:plusO w (wh 1)≠z:=λe=>by
  rw[e] at s0;cases w with
  | z=>rw[cmp_self] at s0;(clear hn;lia)
  | c _ _ _=>simp[cmp] at s0
 have s1:=oK (a:=z) trivial hR (oJ r0);rw[ik] at s1;have nn:=eV hn;have nt:=hR.times nn;have s2:cmp (plusO (timesO (plusO w (wh 1)) (wh n)) (wh 1)) (plusO (timesO (plusO w (wh 1)) (wh n)) (plusO w (wh 1)))<=0:=by
  rw[cS nt n1 hR];exact s1
 rw[←kI hR hn] at s2;refine mX s2 (jx hR r0 (eV (by (clear s0 s1 s2;lia))) pS ?_);rw[wh_pos (by (clear s0 s1 s2;lia))];show cmp (c z (n+1) z) (c (wh 1) 1 z)<0;have:cmp z (wh 1)<0:=by decide
 simp only[cmp];rw[if_pos (by (clear hn s0 s1 s2;lia))];exact this
section
variable {α:Type}
theorem tL:∀{rs:aQ α},rs.nn->∀r,r∈rs.L->r.nn
 | .nil,_,r,h=>nomatch h
 | .cons r0 rs,hz,r,h=>by
   rcases mem_cons.mp h with rfl | h
   ·exact hz.1
   ·exact tL hz.2 r h
theorem gJ:∀{xs:List (Rq α)},(∀r,r∈xs->r.nn)->NF (bw xs)
 | [],_=>trivial
 | r::xs,h=>(gJ λx hx=>h x (mem_cons_of_mem _ hx)).plus (r.wq (h r mem_cons_self)).nf
theorem jA:∀{xs ys:List (Rq α)},(∀r,r∈xs->r.nn)->(∀r,r∈ys->r.nn)->bw (xs++ys)=plusO (bw ys) (bw xs)
 | [],ys,_,_=>(dX _).symm
 | r::xs,ys,h,k=>by
   have hx:=λx hx=>h x (mem_cons_of_mem r hx);show plusO (bw (xs++ys)) r.wt=plusO (bw ys) (plusO (bw xs) r.wt);rw[jA hx k,fZ (gJ k) (gJ hx) (r.wq (h r mem_cons_self)).nf]
theorem zJ (rs:aQ α):bw rs.L=rs.wt:=by rw[←iW,aQ.of_L]
theorem io {rs:aQ α} {x:Rq α} (h:rs.nn) (k:x.nn):bw (rs.L++[x])=plusO x.wt rs.wt:=by
 rw[jA (tL h) (λr hr=>by rw[mem_singleton.mp hr];exact k),zJ];show plusO (plusO z x.wt) rs.wt=_;rw[ik]
noncomputable def Fo (g:α->Int):Rq α->List (Rq α)
 | .times b rs=>[.count rs (g b)]
 | .count rs n=>if n=0 then [] else rs.L++[.count rs (n-1)]
 | .whl b hs rs=>if g b=0 then [] else rs.L++[.bear b hs rs (bG g hs)]
 | .bear b hs rs _=>if g b=0 then [] else rs.L++[.bear b hs rs (bG g hs)]
 | _=>[]
noncomputable def x5 (g:α->Int):Rq α->Prop
 | .bear b hs _ o=>0<g b/\0<=cmp (bG g hs) o
 | _=>False
theorem zK (r:Rq α) (h:r.nn):cmp z r.wt<0:=by
 have n1:NF (wh 1):=eV (by decide);cases r with
 | set _ _=>show cmp z (wh 1)<0;decide
 | copy _ _=>show cmp z (wh 1)<0;decide
 | add _ _=>show cmp z (wh 1)<0;decide
 | less _=>show cmp z (wh 1)<0;decide
 | times b rs=>
   have:=mZ (rs.wq h).nf (n:=0) (by decide);refine mX ?_ this;cases plusO (timesO (plusO rs.wt (wh 1)) (wh 0)) (wh 1) with
   | z=>rw[cmp_self];exact Int.le_refl _
   | c _ _ _=>simp[cmp]
 | count rs n=>exact B4 (oJ (λe=>by cases e)) (show cmp (wh 1) (plusO _ (wh 1))<=0 from by
    have:=bQ (e:=timesO (plusO rs.wt (wh 1)) (wh n)) (((rs.wq h.1).nf.plus n1).times (eV h.2)) n1 (λe=>by cases e);have s:=oK (a:=z) trivial ((((rs.wq h.1).nf.plus n1).times (eV h.2)).plus n1) (mX (by
     cases timesO (plusO rs.wt (wh 1)) (wh n) with
     | z=>rw[cmp_self];exact Int.le_refl _
     | c _ _ _=>simp[cmp]) this)
    rw[ik] at s;exact s)
 | whl b hs rs=>
   obtain⟨h1,h2⟩:=lO h.2;have n2:NF (wh 2):=eV (by decide);have:=bQ (e:=timesO (plusO rs.wt (wh 2)) (hpw hs)) (((rs.wq h.1).nf.plus n2).times h1) n1 (λe=>by cases e);refine mX ?_ this;cases timesO (plusO rs.wt (wh 2)) (hpw hs) with
   | z=>rw[cmp_self];exact Int.le_refl _
   | c _ _ _=>simp[cmp]
 | bear b hs rs o=>
   have n2:NF (wh 2):=eV (by decide);have:=bQ (e:=timesO (plusO rs.wt (wh 2)) o) (((rs.wq h.1).nf.plus n2).times h.2.2.1) n1 (λe=>by cases e);refine mX ?_ this;cases timesO (plusO rs.wt (wh 2)) o with
   | z=>rw[cmp_self];exact Int.le_refl _
   | c _ _ _=>simp[cmp]
theorem zL {g:α->Int} (hg:∀x,0<=g x) (r:Rq α) (h:r.nn) (ho:r.od) (hs:¬x5 g r):cmp (bw (Fo g r)) r.wt<0:=by
 have h0:=zK r h;cases r with
 | set _ _=>exact h0
 | copy _ _=>exact h0
 | add _ _=>exact h0
 | less _=>exact h0
 | times b rs=>
   show cmp (plusO z (plusO (timesO (plusO rs.wt (wh 1)) (wh (g b))) (wh 1))) _<0;rw[ik];exact mZ (rs.wq h).nf (hg b)
 | count rs n=>
   show cmp (bw (if n=0 then [] else rs.L++[.count rs (n-1)])) _<0;have h2:0<=n:=h.2
   by_cases e:n=0
   ·rw[if_pos e];exact h0
   ·rw[if_neg e,io h.1 (show(Rq.count rs (n-1):Rq α).nn from ⟨h.1,by (clear h0;lia)⟩)];exact tK (rs.wq h.1).nf (by (clear h0;lia))
 | whl b ms rs=>
   show cmp (bw (if g b=0 then [] else rs.L++[.bear b ms rs (bG g ms)])) _<0
   by_cases e:g b=0
   ·rw[if_pos e];exact h0
   ·have m1:=iX (g:=g) hg h.2 ho.1.ds;rw[if_neg e,io h.1 (show(Rq.bear b ms rs (bG g ms):Rq α).nn from ⟨h.1,h.2,m1,iY g h.2⟩)];exact pX (rs.wq h.1).nf m1 (lO h.2).1 (oO h.2 ho.1.ds)
 | bear b ms rs o=>
   show cmp (bw (if g b=0 then [] else rs.L++[.bear b ms rs (bG g ms)])) _<0
   by_cases e:g b=0
   ·rw[if_pos e];exact h0
   ·have m1:=iX (g:=g) hg h.2.1 ho.1.ds;rw[if_neg e,io h.1 (show(Rq.bear b ms rs (bG g ms):Rq α).nn from ⟨h.1,h.2.1,m1,iY g h.2.1⟩)];refine pX (rs.wq h.1).nf m1 h.2.2.1 ?_;have:=hg b;have hs':¬(0<g b/\0<=cmp (bG g ms) o):=hs
    (clear h0;lia)
end
section
variable {α:Type}
end
section
variable {α:Type}
end
section
variable {α:Type}
noncomputable def e4:List Int:=[4,3,2,1,0]
end
section
variable {α:Type} [DecidableEq α]
end
end Nm
namespace L2
open PySem PySem.Spec PyProof.Rows Nm
noncomputable def ao:O->List W
 | .z=>[]
 | .c e n r=> .tup [.tup (ao e),.int n]::ao r
noncomputable def kL (o:O):W:= .tup (ao o)
noncomputable def gp (e:O) (n:Int):W:= .tup [kL e,.int n]
theorem zM:ao .z=[]:=rfl
theorem bR (e:O) (n:Int) (r:O):ao (.c e n r)=gp e n::ao r:=rfl
theorem aN:∀a:O,(ao a).length=a.len
 | .z=>rfl
 | .c e n r=>by rw[bR,length_cons,aN r];rfl
theorem tM {e:O} {n:Int} (h:W.flats (ao e)=true):(gp e n).flat=true:=by
 simp[gp,kL,W.flat,W.flats,h]
theorem bS:∀a:O,W.flats (ao a)=true
 | .z=>by simp[ao,W.flats]
 | .c e n r=>by
   rw[bR];simp[W.flats,tM (bS e),bS r]
theorem tN (a:O):(kL a).flat=true:=by simp[kL,W.flat,bS a]
theorem eh:∀a:O,W.deps (ao a)<=2*a.dp
 | .z=>by simp[ao,W.deps]
 | .c e n r=>by
   have h1:=eh e;have h2:=eh r;rw[bR];simp only[W.deps,gp,kL,W.dep,O.dp];lia
theorem wj (a:O):(kL a).dep<=2*a.dp+1:=by
 have:=eh a;simp only[kL,W.dep];lia
theorem iZ:∀a b:O,W.eqs (ao a) (ao b)=decide (a=b)
 | .z,.z=>by simp[ao,W.eqs]
 | .z,.c _ _ _=>by simp[ao,W.eqs]
 | .c _ _ _,.z=>by simp[ao,W.eqs]
 | .c e n r,.c e' n' r'=>by
   have h1:=iZ e e';have h2:=iZ r r';simp only[ao,W.eqs,W.eq_tup,W.eq_int,h1,h2,Bool.and_true];rw[Bool.eq_iff_iff];simp only[Bool.and_eq_true,decide_eq_true_eq,beq_iff_eq,O.c.injEq];constructor
   ·rintro⟨⟨a,b⟩,c⟩;exact⟨a,b,c⟩
   ·rintro⟨a,b,c⟩;exact⟨⟨a,b⟩,c⟩
theorem oP (a b:O):(kL a).eq (kL b)=decide (a=b):=iZ a b
theorem zN (e e':O) (n n':Int):(gp e n).eq (gp e' n')=(decide (e=e')&&decide (n=n')):=by
 have:=oP e e';simp only[gp,W.eq_tup,W.eq_int,W.eqs,this,Bool.and_true]
 congr 1
theorem jB (a b:O):(W.tup (ao a)).eq (W.tup (ao b))=decide (a=b):=oP a b
theorem bT (a:O):(W.tup (ao a)).flat=true:=tN a
theorem dg (a:O):(W.tup (ao a)).dep<=2*a.dp+1:=wj a
noncomputable def fi (n m:Int):Int:=if n<m then -1 else if m<n then 1 else 0
noncomputable def oQ (e:O) (n:Int) (e':O) (n':Int):Int:=if O.cmp e e'≠0 then O.cmp e e' else fi n n'
theorem B5 (e:O) (n:Int) (r e':O) (n':Int) (r':O):O.cmp (.c e n r) (.c e' n' r')=if oQ e n e' n'≠0 then oQ e n e' n' else O.cmp r r':=by
 unfold oQ fi;rw[O.cmp]
 by_cases h:O.cmp e e'=0
 ·rcases Int.lt_trichotomy n n' with k | k | k
  ·have k':¬n'<n:=by (clear h;lia)
   simp[h,k]
  ·subst k;simp[h]
  ·have k':¬n<n':=by (clear h;lia)
   simp[h,k,k']
 ·simp[h]
theorem cmpP_zero {e:O} {n:Int} {e':O} {n':Int}:oQ e n e' n'=0↔e=e'/\n=n':=by
 unfold oQ fi;constructor
 ·intro h
  by_cases he:O.cmp e e'=0
  ·rw[if_neg (by simpa using he)] at h;refine⟨O.cmp_eq _ _ he,?_⟩;split at h
   ·(clear he;lia)
   ·split at h
    ·(clear he;lia)
    ·(clear he h;lia)
  ·rw[if_pos he] at h;exact absurd h he
 ·rintro⟨rfl,rfl⟩;simp[O.cmp_self]
theorem m9 {a b:O} (h:ao a=ao b):a=b:=by
 have:=iZ a b;rw[h,W.eqs_refl _ (bS b)] at this;simpa using this.symm
theorem fj:∀a b:O,ao (a.app b)=ao a++ao b
 | .z,b=>by simp[O.app,ao]
 | .c e n r,b=>by
   show ao (.c e n (r.app b))=_;rw[bR,bR,fj r b]
   rfl
theorem D4 {α:Type} (x:α) (xs:List α):fL (x::xs) 0=some x:=by
 simp[fL,r6]
theorem D5 {α:Type} (x y:α) (xs:List α):fL (x::y::xs) 1=some y:=by
 have h:(1:Int)<((xs.length:Int)+1+1):=by lia
 simp[fL,r6,h]
theorem tO (i:Int):(W.int i).flat=true:=by simp[W.flat]
theorem wk (i:Int):(W.int i).dep=0:=by simp[W.dep]
theorem oR (i j:Int):(W.int i).eq (W.int j)=(i==j):=rfl
theorem tP:(W.tup []).flat=true:=by simp[W.flat,W.flats]
theorem wm:(W.tup []).dep=1:=by simp[W.dep,W.deps]
theorem dz (a:O):(W.tup (ao a)).eq (W.tup [])=decide (a=.z):=oP a .z
theorem D6 (i j:Int):(i==j)=decide (i=j):=by
 by_cases h:i=j<;> simp[h]
theorem aF.done {G:Gp} {q:Gp->Prop} (h:q G):∃G0,aF G0 G/\q G0:=⟨G,aF.refl G,h⟩
theorem cJ {C:Gp->Prop} {g:WG} {tb:WS} {d:dq} (Iv:List W->cP->Gp->Prop) (stop:∀τ G,Iv [] τ G->C G/\d.nx τ G)
 (step:∀w ws τ G (k:cP->Gp->Prop),Iv (w::ws) τ G->(∀τ3 G3,Iv ws τ3 G3->k τ3 G3)->C G/\g w τ G λτ2 G2=>tb { d with nx:=k,ct:=k,bk:=d.nx } τ2 G2):∀ws τ G,Iv ws τ G->jo C g tb d ws τ G
 | [],τ,G,h=>stop τ G h
 | w::ws,τ,G,h=>step w ws τ G _ h λτ3 G3 h3=>cJ Iv stop step ws τ3 G3 h3
theorem lR {n m:Int} (h:n<m):fi n m= -1:=by unfold fi;rw[if_pos h]
theorem lS {n m:Int} (h:m<n):fi n m=1:=by unfold fi;rw[if_neg (by lia),if_pos h]
theorem ip (n:Int):fi n n=0:=by unfold fi;simp
theorem ng {x y:O} (h:x=.z∨y=.z):O.cmp x y=fi x.len y.len:=by
 rcases h with rfl | rfl
 ·cases y with
  | z=>rfl
  | c e n r=>rw[lR (by simp only[O.len];lia)];rfl
 ·cases x with
  | z=>rfl
  | c e n r=>rw[lS (by simp only[O.len];lia)];rfl
theorem oS {a b x y:Nat} (h:a+y=b+x):fi (a:Int) (b:Int)=fi (x:Int) (y:Int):=by
 rcases Nat.lt_trichotomy x y with k | k | k
 ·rw[lR (by lia),lR (by (clear h;lia))]
 ·have:a=b:=by lia
  subst k this;rw[ip,ip]
 ·rw[lS (by lia),lS (by (clear h;lia))]
theorem jC:∀(a:O) (i:Nat),(ao a)[i]?=(a.getP i).map λp=>gp p.1 p.2
 | .z,i=>by simp[ao,O.getP]
 | .c e n r,0=>by rw[bR];rfl
 | .c e n r,i+1=>by
   rw[bR];simpa[O.getP] using jC r i
theorem eP {a:O} {e:O} {n:Int} (h:a.getP i=some (e,n)):fL (ao a) (i:Int)=some (gp e n):=cM (by rw[jC,h];rfl)
theorem iq:∀(i:Nat) (a:O),(ao a).take i=ao (O.takeO i a)
 | 0,a=>by simp[O.takeO,ao]
 | i+1,.z=>by simp[ao,O.takeO]
 | i+1,.c e n r=>by
   rw[bR,List.take_succ_cons,iq i r]
   rfl
theorem tQ (xs:List W) (k:Nat):cQ xs none (some (k:Int))=xs.take k:=by
 unfold cQ;rw[HT.sIx_none,HT.sIx_nat,List.drop_zero,Nat.sub_zero];rcases Nat.le_total k xs.length with h | h
 ·rw[Nat.min_eq_left h]
 ·rw[Nat.min_eq_right h,List.take_length,List.take_of_length_le h]
theorem jD (xs:List W) (k:Nat):cQ xs (some (k:Int)) none=xs.drop k:=by
 unfold cQ;rw[HT.sIx_none,HT.sIx_nat];rcases Nat.le_total k xs.length with h | h
 ·rw[Nat.min_eq_left h];exact List.take_of_length_le (by rw[length_drop];(clear h;lia))
 ·rw[Nat.min_eq_right h,List.drop_length,List.drop_of_length_le h];simp
theorem pY (xs:List W):cQ xs none (some (-1))=xs.take (xs.length-1):=by
 unfold cQ;have e:HT.sIx xs.length xs.length (some (-1))=xs.length-1:=by
  show(if (-1:Int)<0 then ((-1:Int)+(xs.length:Int)).toNat else min (-1:Int).toNat xs.length)=_;rw[if_pos (by lia)];lia
 rw[HT.sIx_none,e,List.drop_zero,Nat.sub_zero]
theorem kM:∀a:O,O.takeO (a.len-1) a=O.init a
 | .z=>rfl
 | .c _ _ .z=>rfl
 | .c e n (.c e' n' r')=>by
   have h:=kM (.c e' n' r');simp only[O.len,Nat.add_sub_cancel] at h ⊢;rw[O.takeO,h];simp[O.init]
theorem tR (a:O):cQ (ao a) none (some (-1))=ao (O.init a):=by rw[pY,aN,iq,kM]
theorem tS:∀{a:O},a≠ .z->∃e n,O.last a=.c e n .z/\a.getP (a.len-1)=some (e,n)
 | .z,h=>absurd rfl h
 | .c e n .z,_=>⟨e,n,rfl,rfl⟩
 | .c e n (.c e' n' r'),_=>by
   obtain⟨x,m,h1,h2⟩:=tS (a:= .c e' n' r') (by simp);refine⟨x,m,?_,?_⟩
   ·rw[←h1];simp[O.last]
   ·simp only[O.len,Nat.add_sub_cancel] at h2 ⊢;rw[←h2];simp[O.getP]
theorem jE {xs:List W} {w:W} (h:xs[xs.length-1]?=some w):fL xs (-1)=some w:=by
 have hl:xs.length-1<xs.length:=(List.getElem?_eq_some_iff.mp h).1;unfold fL r6;rw[if_neg (by (clear h hl;lia)),if_pos (by (clear h;lia))];show xs[((-1:Int)+(xs.length:Int)).toNat]?=some w;rw[←h]
 congr 1
 (clear h;lia)
theorem gK {a:O} {e:O} {n:Int} (h:a.getP (a.len-1)=some (e,n)):fL (ao a) (-1)=some (gp e n):=jE (by rw[aN,jC,h];rfl)
theorem gL:∀a b:O,W.ords (ao a) (ao b)=true/\W.lts (ao a) (ao b)=decide (O.cmp a b<0)
 | .z,.z=>by simp[ao,W.ords,W.lts,O.cmp]
 | .z,.c _ _ _=>by simp[ao,W.ords,W.lts,O.cmp]
 | .c _ _ _,.z=>by simp[ao,W.ords,W.lts,O.cmp]
 | .c e n r,.c e' n' r'=>by
   obtain⟨o1,l1⟩:=gL e e';obtain⟨o2,l2⟩:=gL r r';rw[bR,bR,W.ords,W.lts,zN]
   by_cases h:(decide (e=e')&&decide (n=n'))=true
   ·rw[if_pos h,if_pos h];have h':e=e'/\n=n':=by simpa using h
    obtain⟨rfl,rfl⟩:=h';refine⟨o2,?_⟩;rw[l2,O.cmp,if_neg (by rw[O.cmp_self];simp),if_neg (by (clear l2 l1 h;lia)),if_neg (by (clear l2 l1 h;lia))]
   ·rw[if_neg h,if_neg h];have ee:(W.tup (ao e)).eq (W.tup (ao e'))=decide (e=e'):=jB e e';unfold gp kL;rw[W.ord,W.lt,W.ords,W.lts,ee]
    by_cases q:e=e'
    ·subst q;rw[if_pos (by simp),if_pos (by simp),W.ords,W.lts];have hn:¬n=n':=λz=>h (by simp[z]);rw[oR,if_neg (by simpa using hn),if_neg (by simpa using hn),W.ord,W.lt];refine⟨rfl,?_⟩;rw[O.cmp,if_neg (by rw[O.cmp_self];simp)]
     by_cases k:n<n'
     ·rw[if_pos k];simp[k]
     ·rw[if_neg k,if_pos (by (clear l2 l1 h;lia))];simp[k]
    ·rw[if_neg (by simpa using q),if_neg (by simpa using q),W.ord,W.lt];refine⟨o1,?_⟩;rw[l1,O.cmp,if_pos (λz=>q (O.cmp_eq _ _ z))]
theorem kN (a:O) (h:a.dp<=70):W.deps (ao a)<=149:=by
 have:=eh a;lia
noncomputable def Df (K:PySem.W.Frag) (mg:Str->Option Value) (x:Str) (st:Stmt) (ps:List Str):Prop:=∃(f:Addr) (fd:FuncData),cq K x x st f fd/\bI K fd ps []/\mg x=some (.ref f)
theorem Df.fx {sp:bP} (D:Df K mg x st ps) (h:∀(f:Addr) (fd:FuncData),cq K x x st f fd->bW P w K mg base k f fd ps sp):Fx P w K mg base x ps k sp:=by
 obtain⟨f,fd,F,b,m⟩:=D;exact⟨f,fd,h f fd F,m,F.kp,b⟩
theorem zO {H:Hp} {ns:List Int} (hO:sd H) (hS:cU K H a (ns.map V.int)):xK K H a ns:=by
 rcases hS with(h | h) | h
 ·rcases hO a with z | ⟨o,xs,z⟩
  ·rw[z] at h;cases h
  ·rw[z] at h;cases h
 ·exact .inl h
 ·exact .inr h
theorem jF {i j:Int} (h:0<j):0<=i%j/\i%j<j:=⟨Int.emod_nonneg _ (by lia),Int.emod_lt_of_pos _ h⟩
theorem wo {ns:List Int} {i:Int} (h0:0<=i) (h1:i<ns.length):∃n,fL ns i=some n:=by
 have hl:i.toNat<ns.length:=by lia
 have e:((i.toNat:Nat):Int)=i:=Int.toNat_of_nonneg h0;have q:=cM (List.getElem?_eq_getElem hl);rw[e] at q;exact⟨_,q⟩
theorem zP (j:Int):yF 10 j=(0<=j/\j<=1000000):=by
 unfold yF;have:(10:Int).natAbs<2^64:=by decide
 simp[this]
theorem aT {t u:WS} {d:dq} {τ:cP} {G:Gp} (h:∀U:WS,U=u->t { d with nx:=U d } τ G):y8 t u d τ G:=h u rfl
theorem aG {G:Gp} {a b:Addr} {g g':GO} (h:G b=some g') (ha:G a=none):aL G a g b=some g':=by
 rw[aq (λz=>by rw[z,ha] at h;cases h)];exact h
theorem jG (p:O->Int->Bool):∀a:O,(a.filt p).len<=a.len
 | .z=>le_refl _
 | .c e n r=>by
   have:=jG p r;rw[O.filt_c];split<;> simp only[O.len]<;> lia
theorem wu (G:Gp) (i:Int):sC G (.int i)=some "int":=rfl
theorem zQ (G:Gp) (b:Bool):sC G (.bl b)=some "bool":=rfl
theorem wv (G:Gp) (ws:List W):sC G (.tup ws)=some "tuple":=rfl
theorem ww (G:Gp):sC G .non=some "NoneType":=rfl
theorem wz:fW "int" "int"=true:=by decide
theorem wA:fW "int" "bool"=false:=by decide
theorem wB:fW "int" "tuple"=false:=by decide
theorem wD:fW "bool" "int"=true:=by decide
theorem wE:fW "bool" "bool"=true:=by decide
theorem wF:fW "bool" "tuple"=false:=by decide
theorem wG:fW "tuple" "tuple"=true:=by decide
theorem wH:fW "tuple" "int"=false:=by decide
theorem wI:fW "tuple" "bool"=false:=by decide
theorem pZ:fW "list" "list"=true:=by decide
theorem wJ:fW "NoneType" "tuple"=false:=by decide
theorem zR:((0:Nat):Int)=0:=rfl
theorem zS:((1:Nat):Int)=1:=rfl
theorem zT:((2:Nat):Int)=2:=rfl
theorem zU:((3:Nat):Int)=3:=rfl
theorem zV {c:WT} {tb:WS} {d:dq} {τ:cP} {G:Gp} (I:Nat->cP->Gp->Prop) (h0:∃m,I m τ G)
 (h:∀m τ G,I m τ G->∀B:WS,B=tb->c τ G λb G1=>if b=true then ∃N:cP->Gp->Prop,(∀τ1 G1,N τ1 G1->∃m1,m1<m/\I m1 τ1 G1)/\B { d with nx:=N,ct:=N,bk:=d.nx } τ G1 else d.nx τ G1):sk c tb d τ G:=
 ⟨I,h0,λm τ G hI=>h m τ G hI tb rfl⟩
theorem D7 {α:Type} (x y v:α) (xs:List α):fL (x::y::v::xs) 2=some v:=cM (j:=2) rfl
theorem nh (n i:Nat) (h:i<n):(rE n).drop i=.int (i:Int)::(rE n).drop (i+1):=by
 have hl:i<(rE n).length:=by simp[rE,h]
 rw[List.drop_eq_getElem_cons hl]
 congr 1
 simp[rE]
theorem gM {C:Gp->Prop} {g:WG} {tb:WS} {d:dq} {τ:cP} {G:Gp} (n:Nat) (Iv:Nat->cP->Gp->Prop) (h0:Iv 0 τ G) (stop:∀τ G,Iv n τ G->C G/\d.nx τ G)
 (step:∀(i:Nat) τ G (k:cP->Gp->Prop),i<n->Iv i τ G->(∀τ3 G3,Iv (i+1) τ3 G3->k τ3 G3)->C G/\g (.int (i:Int)) τ G λτ2 G2=>tb { d with nx:=k,ct:=k,bk:=d.nx } τ2 G2):jo C g tb d (rE n) τ G:=by
 refine cJ (λws τ G=>∃i,i<=n/\ws=(rE n).drop i/\Iv i τ G) ?_ ?_ _ _ _ ⟨0,zero_le _,rfl,h0⟩
 ·rintro τ G ⟨i,hi,hw,hI⟩;have:i=n:=by
   rcases lt_or_ge i n with k | k
   ·rw[nh n i k] at hw;cases hw
   ·lia
  subst this;exact stop τ G hI
 ·rintro w ws τ G k ⟨i,hi,hw,hI⟩ hk;have hlt:i<n:=by
   rcases lt_or_ge i n with j | j
   ·exact j
   ·rw[List.drop_of_length_le (by simp[rE];assumption)] at hw;cases hw
  rw[nh n i hlt] at hw;cases hw;exact step i τ G k hlt hI λτ3 G3 h3=>hk τ3 G3 ⟨i+1,hlt,rfl,h3⟩
noncomputable def oU (Pd:O->Int->Prop):O->Prop
 | .z=>True
 | .c e n r=>Pd e n/\oU Pd r
theorem oU.imp {Pd Pd':O->Int->Prop} (h:∀e n,Pd e n->Pd' e n):∀{a:O},oU Pd a->oU Pd' a
 | .z,_=>trivial
 | .c _ _ _,k=>⟨h _ _ k.1,oU.imp h k.2⟩
theorem p5:∀a:O,oU (λe _=>e.dp<a.dp/\O.hw e<=O.hw a) a
 | .z=>trivial
 | .c e n r=>⟨by rw[O.hw_c];simp only[O.dp];lia,(p5 r).imp λx m h=>by rw[O.hw_c];simp only[O.dp];lia⟩
noncomputable def mapP (p:O->Int->Bool) (f:O->Int->W):O->List W
 | .z=>[]
 | .c e n r=>if p e n then f e n::mapP p f r else mapP p f r
theorem jH {C:Gp->Prop} {tt:WT} {te:WE} {i:Nat} {τ0:cP} {G:Gp} {q:List W->Gp->Prop} {Pd:O->Int->Prop} (p:O->Int->Bool) (f:O->Int->W) (hC:C G):∀{a:O} {acc:List W} {τ:cP},oU Pd a->
 (∀e n,Pd e n->∀k:Bool->Gp->Prop,k (p e n) G->tt (τ0.set i (some (gp e n))) G k)->(∀e n,Pd e n->p e n=true->∀k:W->Gp->Prop,k (f e n) G->te (τ0.set i (some (gp e n))) G k)->acc.length+a.len<=100000->(∀x,τ.set i x=τ0.set i x)->
 q (acc++mapP p f a) G->ci C (cW i) tt te (ao a) τ G acc q
 | .z,acc,τ,_,_,_,_,_,hq=>⟨hC,by simpa[mapP] using hq⟩
 | .c e n r,acc,τ,hP,ht,he,hl,hτ,hq=>by
   rw[bR];refine⟨hC,?_⟩;show tt (τ.set i (some (gp e n))) G _;rw[hτ];refine ht e n hP.1 _ ?_;have hτ':∀x,(τ0.set i (some (gp e n))).set i x=τ0.set i x:=λx=>set_set ..;simp only[O.len] at hl;rw[mapP] at hq;cases hp:p e n with
   | true=>
     rw[if_pos rfl];refine he e n hP.1 hp _ ⟨by lia,?_⟩;rw[hp,if_pos rfl] at hq;exact jH p f hC hP.2 ht he (by rw[length_append];simp;lia) hτ' (by simpa using hq)
   | false=>
     rw[if_neg Bool.false_ne_true];rw[hp,if_neg Bool.false_ne_true] at hq;exact jH p f hC hP.2 ht he (by lia) hτ' hq
noncomputable def x6:Int:=(10^172)^7
theorem p6 {i:Int} (h0:0<=i) (h:i<=x6):i.natAbs<2^4000:=by
 have h2:x6<((2^4000:Nat):Int):=by decide+kernel
 generalize (2:Nat)^4000=B at h2 ⊢;lia
theorem D8 {i j:Int} (h1:0<=i) (h2:i<=x6) (h3:0<=j) (h4:j<=x6):BN i j:=⟨p6 h1 h2,p6 h3 h4⟩
end L2
namespace Nm
namespace O
theorem getP_hw {x:O} {k:Int}:∀{a:O} {i:Nat},getP a i=some (x,k)->hw x<=hw a
 | z,_,h=>by simp[getP] at h
 | c e n r,0,h=>by
   simp only[getP,Option.some.injEq,Prod.mk.injEq] at h;rw[hw_c,h.1];(clear h;lia)
 | c e n r,i+1,h=>by
   have:=getP_hw (a:=r) (i:=i) (by simpa[getP] using h);rw[hw_c];lia
end O
end Nm
namespace L2
open PySem PySem.Spec PyProof.Rows Nm
section
variable {P:Program} {w:World} {K:PySem.W.Frag} {mg:Str->Option Value} {base:Heap} {x:Str} {st:Stmt} {ps:List Str} {k:Nat} {sp:bP}
theorem vS.rx {dws:List W} (D:vS K mg x st ps dws) (h:∀(f:Addr) (fd:FuncData) (T:Addr) (ds:List Value),fY K x x st f fd T ds->sR P w K mg base k f fd ps sp):Rx P w K mg base x ps k sp []:=by
 obtain⟨f,fd,T,ds,dvs,F,b,b',m,_,_⟩:=D;exact⟨f,fd,[],[],h f fd T ds F,m,F.kp,b,.nil,λ_=> .nil⟩
end
open PySem PySem.Spec PyProof.Rows PySem.W
@[irreducible] def oV (i:Int):Prop:=i.natAbs<2^1048576
theorem jI:∀{ns:List Int} {n:Int},n∈ns->WData.weight (.int n)<=WData.weightAll (ns.map WData.int)
 | m::ns,n,h=>by
   rw[map_cons,WData.weightAll];rcases mem_cons.mp h with rfl | h
   ·lia
   ·have:=jI h;lia
theorem wK {n:Int} (h:WData.weight (.int n)<=1048576):oV n:=by
 unfold WData.weight at h;unfold oV;generalize 1048576=a at h ⊢
 by_cases h0:n=0
 ·subst h0;exact Nat.two_pow_pos a
 ·rw[if_neg (by simpa using h0)] at h;have:n.natAbs≠0:=by (clear h;lia)
  exact(Nat.log2_lt this).mp (by assumption)
theorem tT {ns:List Int} (h:WData.layableAll [.list (ns.map WData.int)]=true):∀n,n∈ns->oV n:=by
 intro n hn;have h1:WData.layable (.list (ns.map WData.int))=true:=(all_eq_true.mp h) _ mem_cons_self;have h2:WData.weight (.list (ns.map WData.int))<=2^20:=by
  have:=(Bool.and_eq_true_iff.mp h1).2;exact of_decide_eq_true this
 have h3:WData.weight (.list (ns.map WData.int))=WData.weightAll (ns.map WData.int):=by rw[WData.weight]
 have:=jI hn;exact wK (by lia)
@[irreducible] def Wide (i:Int):Prop:=i.natAbs<2^1048577
set_option exponentiation.threshold 500 in
noncomputable def B6 (i j:Int):Prop:=(Wide i/\j.natAbs<2^4000)∨(i.natAbs<2^4000/\Wide j)
noncomputable def ni (i j:Int):Prop:=pK i j∨B6 i j
theorem ni.ok {i j:Int} (h:ni i j):IntMulOk i j:=by
 have key:∀{x y:Int},Wide x->y.natAbs<2^4000->¬(((Builtin.Int.intBits x+Builtin.Int.intBits y:Int)) > bitsLine):=λ{x y} h1 h2=>by
  unfold Wide at h1;have b1:=PyProof.Rows.intBits_le h1;have b2:=PyProof.Rows.intBits_le h2;have hb:(1053000:Int)<=bitsLine:=by decide
  (clear h1 h2;lia)
 rcases h with h | ⟨h1,h2⟩ | ⟨h1,h2⟩
 ·exact h.ok
 ·have:=key h1 h2;unfold IntMulOk Builtin.Int.intTooBig;simp[this]
 ·have:=key h2 h1;rw[Int.add_comm] at this;unfold IntMulOk Builtin.Int.intTooBig;simp[this]
section
variable {X:Cx}
theorem wL:iS X (binaryOp .Mult) (rI ni λi j=> .int (i*j)):=C0 λ_ _ _ _ _ _ _ hc q=>mul_int q hc.ok
end
noncomputable def ir:bP:=λws _ q _=>∃ns:List Int,ws=[.scr ns]/\ns.length<=63/\(∀n,n∈ns->oV n)/\∀G',q (.bl true) G'
theorem oW {H:Hp} {ns:List Int} (hO:sd H) (hS:cU K H a (ns.map V.int)) (hl:ns.length<=63) (hc:∀n,n∈ns->oV n):u9 K ir [.ref a] H (λv _=>v=.bl true) λ_ _ _=>False:=
 ⟨[.scr ns],λ_=>none,λw _=>w=.bl true,λ_ _=>False,.cons (.scr (zO hO hS)) .nil,λ_ _ e=>(by cases e),⟨ns,rfl,hl,hc,λ_=>rfl⟩,λv H1 w G1 _ r _ e=>(by subst e;cases r;rfl),λ_ _ _ _ _ _ z=>z⟩
theorem D9 {l:OpenLaw} {n:Nat} {q:Program} {loose:List Str} {XP:(Str->Option Value)->Heap->Prop} {YP:World->Heap->Prop} {d:DefRec}
 (hn:l.most=some n) (hdf:d.params.defaults=[])
 (call:∀(w:World) (s₀ s₁:Shared) (mg mb:Str->Option Value) (fa:Addr) (a:Addr) (vs:List Value) (ns:List Int),
   Ground q loose [] XP w s₀ mg mb s₁.heap->YP w s₁.heap->mg d.name=some (.ref fa)->
   s₁.heap.get? a=some { cls:= .type "list",data:= .seq vs.toArray }->IntsAre vs ns->ns.length<=n->(∀n,n∈ns->oV n)->s₁.gens= #[]->
   codeAny (model l.prog w) callerA (.call (.ref fa) ⟨[.ref a],[]⟩) (λr s'=>r=.ok (.ret (.bool true))/\OldK s₁.heap s'.heap/\s'.os=s₁.os/\AllBare s'.gens) s₁):
 WalkO q loose XP YP l.row.toRowW d [] (λf vs=>PySem.call f vs):=by
 intro w s₀ s₁ mg mb G Y fa o pm cd doc dV kV ho hd hcd hD hmg hg args vals as hpre hlay hrd hwl hlo;obtain rfl:dV=.none:=Dflts.none hD hdf;obtain rfl:kV=.none:=Dflts.noKw hD;obtain⟨a,vs,ns,ea,rfl,hobj,hints,hlen⟩:=Att.script_of hn hpre hwl;subst ea;refine enter_call (codeAny_mono (call w s₀ s₁ mg mb fa a vs ns G Y hmg hobj hints hlen (tT hlay) hg) λr s' hq=>?_);obtain⟨rfl,h2,h3,h4⟩:=hq;exact⟨.inl ⟨.bool true,.bool true,[],rfl,λ_=>rfl,.bool true,Att.post_true l _,λ_=>⟨List.Pairwise.nil,λ_ hm=>(nomatch hm)⟩⟩,h2,h3,h4⟩
theorem walk_ofC {l:PySem.W.OpenLaw} {n k:Nat} {q:Program} {loose:List Str} {XP:(Str->Option Value)->Heap->Prop} {YP:World->Heap->Prop} {d:DefRec} {K:Params->PySem.W.Frag} {CX:World->n8} {sp:World->Sp}
 (hn:l.most=some n) (hn2:n<=sizeLine) (hdf:d.params.defaults=[]) (hr:aw k callerA)
 (hY:∀(w:World) (h:Heap),YP w h->(K w.params).In h)
 (F:∀(w:World) (mg:Str->Option Value) (fa:Addr) (h:Heap),(K w.params).In h->h.Ns mainGlobals mg->mg d.name=some (.ref fa)->
   ∃fd:FuncData,(∀(s:Shared) (u:Value),BindsTo s fd ⟨[u],[]⟩ [(x,u)])/\
    ∀base:Heap,(K w.params).In base->base.Ns mainGlobals mg->dG l.prog w (K w.params) mg base (CX w) k fa fd [x] (sp w))
 (hsp:∀(w:World) (H:Hp) (a:Addr) (ns:List Int),ns.length<=n->(∀n,n∈ns->oV n)->sd H->cU (K w.params) H a (ns.map V.int)->sp w [.ref a] H (λv _=>v=.bl true) λ_ _ _=>False)
 (hCX:∀(w:World) (H:Hp) (s:Shared) (e:Value) (s':Shared),CX w [] H s (λ_ _ _=>False) e s'->False):
 PySem.W.WalkO q loose XP YP l.row.toRowW d [] (λf vs=>PySem.call f vs):=by
 refine D9 hn hdf λw s₀ s₁ mg mb fa a vs ns G Y hmg hobj hints hlen hc hg=>?_;have KX:=hY w _ Y;obtain⟨fd,hb,hF⟩:=F w mg fa _ KX G.T.g hmg;exact se KX G.T.g G.T.b G.T.builtins G.T.nolimit hg hobj hints (le_trans hlen hn2) hr hF hb (λH hO hS=>hsp w H a ns hlen hc hO hS) λH e s'=>hCX w H s₁ e s'
open PySem PySem.Spec PyProof.Rows
theorem aV.rep {K:PySem.W.Frag} {H:Hp} {ws:List W} {vs:List V} (r:aV K H ws vs):∀k:Nat,aV K H (List.replicate k ws).flatten (List.replicate k vs).flatten
 | 0=> .nil
 | k+1=>by
   rw[replicate_succ,flatten_cons,replicate_succ,flatten_cons];exact r.append (aV.rep r k)
section
variable {X:Cx}
noncomputable def tU:W2:=λx y G q=>match x,y with
 | .int i,.int j=>ni i j/\q (.int (i*j)) G
 | .ref a,.int k=>∃xs,G a=some (.lst xs)/\0<=k/\k<=100000/\xs.length*k.toNat<=100000/\∀p,G p=none->q (.ref p) (aL G p (.lst (List.replicate k.toNat xs).flatten))
 | .tup xs,.int k=>xs≠[]/\0<=k/\k<=100000/\xs.length*k.toNat<=100000/\q (.tup (List.replicate k.toNat xs).flatten) G
 | _,_=>False
theorem zW:iB X (binaryOp .Mult) tU:=by
 rintro π s σ H x y v u Q I rx ry ⟨wx,wy,G,q,r1,r2,g,h,hQ⟩;cases r2 with
 | int k=>
   cases r1 with
   | int i=>exact wL π s σ H _ _ v u Q I rx ry ⟨_,_,rfl,rfl,h.1,hQ _ H _ G (aP.refl H) (.int _) g h.2⟩
   | ref a=>
     obtain⟨xs,ea,h0,h1,hl,h⟩:=h;obtain⟨_,xs',ha,ra⟩:=g _ _ ea;refine yV π s σ H _ _ v u Q I rx ry ⟨_,_,_,rfl,rfl,ha,Int.le_trans (by decide) h0,Int.lt_of_le_of_lt h1 (by decide),by rw[←ra.length];exact bN hl,λp hp=>?_⟩;exact hQ _ _ _ _ (aP.new hp _) (.ref p) (g.put (aP.new hp _) (ra.rep _) (by rw[iU,Nat.mul_comm];exact hl)) (h p (g.fresh hp))
   | @tup a ws xs ha ra=>
     obtain⟨hne,h0,h1,hl,h⟩:=h;refine vW π s σ H _ _ v u Q I rx ry ⟨a,_,_,rfl,rfl,cO.of ha,λz=>?_,h0,h1,by rw[←ra.length];exact bN hl,λe=>?_,λ_ p hp=>?_⟩
     ·subst z;cases ra;exact hne rfl
     ·subst e;have e1:∀zs:List W,(List.replicate (Int.toNat 1) zs).flatten=zs:=λzs=>by simp
      rw[e1] at h;exact hQ _ H _ G (aP.refl H) (.tup ha ra) g h
     ·exact hQ _ _ _ G (aP.new hp _) (.tup bg ((ra.rep _).mono (aP.new hp _))) (g.keep hp _) h
   | _=>exact False.elim h
 | _=>cases r1<;> exact False.elim h
end
end L2
namespace Nm
namespace O
end O
end Nm
namespace L2
open PySem PySem.Spec PyProof.Rows
section
variable {X:Cx}
noncomputable def tV:W2:=λx y G q=>match x,y with
 | .str a,.str b=>a.length+b.length<=100000/\q (.str (a++b)) G
 | x,y=>zd x y G q
theorem bA:iB X (binaryOp .Add) tV:=by
 rintro π s σ H x y v u Q I rx ry ⟨wx,wy,G,q,r1,r2,g,h,hQ⟩;unfold tV at h;split at h
 ·cases r1;cases r2;exact nW π s σ H _ _ v u Q I rx ry ⟨_,_,rfl,rfl,bN h.1,hQ _ H _ G (aP.refl H) (.str _) g h.2⟩
 ·exact Bv π s σ H x y v u Q I rx ry ⟨wx,wy,G,q,r1,r2,g,h,hQ⟩
noncomputable def tW:W2:=λx y G q=>match x,y with
 | .str a,.int k=>0<=k/\k<=100000/\a.length*k.toNat<=100000/\∀z:Str,z.length<=a.length*k.toNat->q (.str z) G
 | x,y=>tU x y G q
theorem kO (a:Array Nat):∀(n:Nat) (b:Array Nat),(List.foldl (λx1 x2=>x1++x2) b (List.replicate n a)).size=b.size+a.size*n
 | 0,b=>by simp
 | n+1,b=>by
   rw[replicate_succ,foldl_cons,kO a n,Array.size_append,Nat.mul_succ];lia
theorem wM (x:Str) {n:Int} (h:0<=n):(Txt.mul x n).length<=x.length*n.toNat:=by
 unfold Txt.mul;split
 ·exact zero_le _
 ·split
  ·rename_i h1 h2;have:1<=n.toNat:=by (clear h;lia)
   exact Nat.le_mul_of_pos_right _ this
  ·show Array.size _<=x.cps.size*n.toNat;rw[kO];simp
theorem tX:iB X (binaryOp .Mult) tW:=by
 rintro π s σ H x y v u Q I rx ry ⟨wx,wy,G,q,r1,r2,g,h,hQ⟩;unfold tW at h;split at h
 ·rename_i a k;obtain⟨h0,h1,hl,h⟩:=h;cases r1;cases r2;obtain⟨t,rfl⟩:=rx;obtain⟨t',rfl⟩:=ry;refine SB.mul ?_ λt' tk=>⟨.str _,H,I.tok _,⟨_,rfl⟩,hQ _ H _ G (aP.refl H) (.str _) g (h _ (wM a h0))⟩;have hk:(k.toNat:Int)=k:=by (clear hl;lia)
  refine⟨?_,λh2 h3=>?_,λh2 h3=>?_⟩
  ·have e1:decide (k< -(2^63:Int))=false:=decide_eq_false (by (clear hl;lia));have e2:decide (k≥2^63)=false:=decide_eq_false (by (clear hl e1;lia));rw[e1,e2,Bool.or_false]
  ·have h4:((a.length*k.toNat:Nat):Int)<=((100000:Nat):Int):=Int.ofNat_le.mpr hl;rw[Int.natCast_mul,hk] at h4;have h5:(a.length:Int)<=(2^63-1)/k:=by
    rw[Int.le_ediv_iff_mul_le (by (clear hl h4;lia))];exact Int.le_trans h4 (by decide)
   exact Int.not_lt.mpr h5
  ·exact decide_eq_false (not_lt.mpr (bN hl))
 ·exact zW π s σ H x y v u Q I rx ry ⟨wx,wy,G,q,r1,r2,g,h,hQ⟩
noncomputable def kP:W2:=λx y G q=>match x,y with
 | .str z,.int i=>z.length<=100000/\∃c,fL z.cps.toList i=some c/\q (.str ⟨#[c]⟩) G
 | x,y=>sx x y G q
theorem B7:y6 X kP:=by
 rintro value slice π s σ H x y v u Q I rx ry ⟨wx,wy,G,q,r1,r2,g,h,hQ⟩ hsl;unfold kP at h;split at h
 ·obtain⟨hz,c,e,h⟩:=h;cases r1;cases r2;exact yR value slice π s σ H _ _ v u Q I rx ry ⟨_,_,c,rfl,rfl,bN hz,e,hQ _ H _ G (aP.refl H) (.str _) g h⟩ hsl
 ·exact DT value slice π s σ H x y v u Q I rx ry ⟨wx,wy,G,q,r1,r2,g,h,hQ⟩ hsl
noncomputable def wN:W3:=λx lo hi G q=>match x with
 | .str z=>z.length<=100000/\∀y:Str,y.length<=z.length->q (.str y) G
 | x=>vK x lo hi G q
theorem p9 {vl:Value} {lo:Option Int} (p:IsPart vl lo):∃l:Option (Int×Tok),vl=partValue l:=by
 cases p with
 | none=>exact⟨none,rfl⟩
 | int i t=>exact⟨some (i,t),rfl⟩
theorem B8:Bb X (Fe X.K wN):=by
 rintro π s σ H x v vl vu lo hi sl Q I rx hs pl pu ⟨w,G,q,r,g,h,hQ⟩;unfold wN at h;split at h
 ·rename_i z;obtain⟨hz,h⟩:=h;cases r;obtain⟨t,rfl⟩:=rx;refine⟨"str",_,slot_str_getitem.lookup,typeIs_str s z t,?_⟩;obtain⟨l,rfl⟩:=p9 pl;obtain⟨u,rfl⟩:=p9 pu;refine wpAny_getItem_str_slice (l:=l) (u:=u) (st:=none) ?_ rfl ?_
  ·obtain⟨o,e1,e2,e3⟩:=hs;exact⟨o,e1,e2,e3⟩
  ·have hle:=Txt.slice_le z (l.map (·.1)) (u.map (·.1));unfold sliceMade;split
   ·exact⟨.str z,H,I,⟨_,rfl⟩,hQ _ H _ G (aP.refl H) (.str _) g (h _ (le_refl _))⟩
   ·rename_i hn;unfold Txt.slice at hle;split at hle
    ·rename_i hy;exact absurd hy hn
    ·exact⟨le_trans hle (bN hz),.str _,H,I.tok _,⟨_,rfl⟩,hQ _ H _ G (aP.refl H) (.str _) g (h _ hle)⟩
 ·exact DU π s σ H x v vl vu lo hi sl Q I rx hs pl pu ⟨w,G,q,r,g,h,hQ⟩
noncomputable def B9 (te:WE) (tl th:WO):WE:=λτ G q=>te τ G λx G1=>tl τ G1 λl G2=>th τ G2 λu G3=>wN x l u G3 q
theorem bZ {lo hi:Option Expr} {te:WE} {tl th:WO} {pos p2:Pos} (he:QE X e te) (hl:QO X lo tl) (hu:QO X hi th):QE X (.Subscript e (.Slice lo hi none p2) pos) (B9 te tl th):=
 (rZ B8 he hl hu).imp λσ H Q z0=>z0.el λτ G q hs hg ht hQ=>⟨τ,G,_,hs,hg,ht,λv H1 w G1 t1 r1 g1 q1=>⟨τ,G1,_,hs.mono t1,g1,q1,λl H2 G2 t2 g2 q2=>
   ⟨τ,G2,_,(hs.mono t1).mono t2,g2,q2,λu H3 G3 t3 g3 q3=>⟨w,G3,q,(r1.mono t2).mono t3,g3,q3,λv4 H4 w4 G4 t4=>hQ v4 H4 w4 G4 (((t1.trans t2).trans t3).trans t4)⟩⟩⟩⟩
noncomputable def qc:List W->Gp->WK->Prop:=λws G q=>match ws with
 | [.str z]=>z.length<=100000/\q (.int z.length) G
 | ws=>zc ws G q
theorem zX:dM X (.builtin "len") qc:=by
 rintro π s σ H xs us Q I r ⟨ws,G,q,rw',g,h,hQ⟩;unfold qc at h;split at h
 ·obtain⟨v,rfl,r1⟩:=rw'.one;cases r1;exact lw π s σ H _ us Q I r ⟨_,rfl,bN h.1,hQ _ H _ G (aP.refl H) (.int _) g h.2⟩
 ·exact xS π s σ H xs us Q I r ⟨ws,G,q,rw',g,h,hQ⟩
noncomputable def Ea (x:Str):It:=⟨λi _=>i<x.cps.toList.length,λi H y H'=>H'=H/\∃c,x.cps.toList[i]?=some c/\y=.str ⟨#[c]⟩,λi _=>x.cps.toList.length<=i⟩
theorem kQ (hA:A.handled=none) (it:Addr) (x:Str) (t:Tok):Walks P w A it [it] [it] x.cps.size (SignAt x) (λi h=>h.IsStrIter it (strIterType x) x t i):=by
 unfold strIterType;split
 ·exact Walks.strAscii hA it x t
 ·exact Walks.strWide hA it x t
theorem tY {tg:Expr} (it:Addr) (x:Str) (t:Tok):lq P w K tg (Ea x) [it] it (λi h=>i<=x.cps.size/\h.IsStrIter it (strIterType x) x t i) where
 mem:=by simp
 obj:=λi h st b hb=>by
  have e:b=it:=by simpa using hb
  subst e;obtain⟨_,o,e1,e2,e3⟩:=st;exact⟨_,e1,λv z=>by rw[e3] at z;cases z⟩
 keep:=λi h h' st k=>by
  obtain⟨hi,o,e1,e2,e3⟩:=st;exact⟨hi,o,k it (by simp) _ e1,e2,e3⟩
 item:=by
  intro X hP hw hK hc i π s σ H E I hf st hg;subst hP hw hK;obtain⟨f0,f1,f2,f3,f4,f5⟩:=hf it (by simp);have hg':i<x.cps.size:=by
   have h:i<x.cps.toList.length:=hg;simpa using h
  refine(kQ (I.ok.hd hc) it x t).item i s _ _ hg' st.2 λv h' tk hv st' kk=>?_;obtain⟨c,u,e,rfl⟩:=hv;have I1:aC X π σ H { s with heap:=h',toks:=tk }:=I.turned (λb o hb e=>kk b o (by simpa using hb) e) f0 f1 f3 f4 f5;obtain⟨o,e1,e2,e3⟩:=id st';refine⟨_,rfl,kn (s:={ s with heap:=h',toks:=tk }) (n:=strIterType x) e1 e2 e3 ?_ ⟨.str ⟨#[c]⟩,H,I1,⟨u,rfl⟩,⟨rfl,c,by simpa using e,rfl⟩,⟨hg',st'⟩,λb hb=>(hf b hb).1⟩⟩;unfold strIterType;split<;> decide
 done:=by
  intro X hP hw hK hc i π s σ H E I hf st hg;subst hP hw hK;obtain⟨f0,f1,f2,f3,f4,f5⟩:=hf it (by simp);have hg':x.cps.size<=i:=by
   have h:x.cps.toList.length<=i:=hg;simpa using h
  have hi:i=x.cps.size:=Nat.le_antisymm st.1 hg';subst hi;exact(kQ (I.ok.hd hc) it x t).done s _ _ st.2 λh' tk kk=>⟨rfl,I.turned (t':=tk) (λb o hb e=>kk b o (by simpa using hb) e) f0 f1 f3 f4 f5⟩
 self:=λA i s Q E st h=>by
  obtain⟨_,o,e1,e2,e3⟩:=st;unfold strIterType at e2;split at e2
  ·exact wpAny_pyIter_striter_ascii ⟨o,e1,e2,e3⟩ h
  ·exact wpAny_pyIter_striter_wide ⟨o,e1,e2,e3⟩ h
noncomputable def De (l:List Nat):List W:=l.map λc=> .str ⟨#[c]⟩
theorem wO {H:Hp}:pI K (Ea x) (De x.cps.toList) (λ_=>True) H where
 stop:=λi H1 G t g _ hl=>by
  have h:x.cps.toList.length<=i:=by simpa[De] using hl
  exact h
 go:=λi w H1 G t g _ e=>by
  unfold De at e;rw[List.getElem?_map] at e;cases h:x.cps.toList[i]? with
  | none=>rw[h] at e;cases e
  | some c=>
    rw[h] at e;cases e;refine⟨(List.getElem?_eq_some_iff.mp h).1,λy H' ⟨eH,c',hc,hy⟩=>?_⟩;subst eH hy;rw[h] at hc;cases hc;exact⟨aP.refl _,.str _,g⟩
variable {tg:Expr}
theorem wP {l:Expr} {tl:TE} (hl:PE X l tl):PI X tg l (λσ H R=>tl σ H λx H1=>(∃z,x=.str z/\R (Ea z) H1)∨∃a,x=.ref a/\(((∃xs,cU X.K H1 a xs)/\R (CY X.K a) H1)∨((∃xs,cO X.K H1 a xs)/\R (Dx X.K a) H1))):=by
 intro π s σ H R I h;refine bV (hl π s σ H _ I h) λv s1 z9=>?_;obtain⟨x,H1,I1,r1,q1⟩:=z9;rcases q1 with⟨z,rfl,q⟩ | ⟨a,e,q1⟩
 ·obtain⟨t,rfl⟩:=r1;refine wpAny_pyIter_strU ?_;refine⟨s1.heap.objs.size,[s1.heap.objs.size],_,_,H1,rfl,I1.kept (t':=s1.toks) λb o e=>Heap.get?_push_of_some _ e,tY _ z t,⟨zero_le _,_,Heap.get?_push_size _ rfl,rfl,rfl⟩,λb hb=>?_,q⟩;have e:b=s1.heap.objs.size:=by simpa using hb
  subst e;exact I1.fpOk (le_refl _) (I1.hok.fresh (le_refl _))
 ·subst e;cases r1;rcases q1 with⟨⟨xs,hq⟩,q⟩ | ⟨⟨xs,hq⟩,q⟩
  ·obtain⟨its,rv,p,hz⟩:=I1.list hq;refine wpAny_pyIter_list p.isList ?_;refine⟨s1.heap.objs.size,[s1.heap.objs.size],_,_,H1,rfl,I1.kept (t':=s1.toks) λb o e=>Heap.get?_push_of_some _ e,qB a _,⟨_,Heap.get?_push_size _ rfl,rfl,rfl⟩,λb hb=>?_,q⟩;have e:b=s1.heap.objs.size:=by simpa using hb
   subst e;exact I1.fpOk (le_refl _) (I1.hok.fresh (le_refl _))
  ·obtain⟨its,rv,p,hz⟩:=I1.tuple hq;refine wpAny_pyIter_tuple (show s1.heap.IsTuple a its.toArray from p) ?_;refine⟨s1.heap.objs.size,[s1.heap.objs.size],_,_,H1,rfl,I1.kept (t':=s1.toks) λb o e=>Heap.get?_push_of_some _ e,nU a _,⟨_,Heap.get?_push_size _ rfl,rfl,rfl⟩,λb hb=>?_,q⟩;have e:b=s1.heap.objs.size:=by simpa using hb
   subst e;exact I1.fpOk (le_refl _) (I1.hok.fresh (le_refl _))
noncomputable def x8 (te:WE):WI:=λτ G r=>te τ G λx G1=>match x with
 | .str z=>r (De z.cps.toList) (λ_=>True) G1
 | .tup ws=>r ws (λ_=>True) G1
 | .scr ns=>r (ns.map W.int) (λ_=>True) G1
 | .ref a=>∃ws,G1 a=some (.lst ws)/\r ws (λG=>G a=some (.lst ws)) G1
 | _=>False
theorem cE {l:Expr} {te:WE} (hl:QE X l te):QI X tg l (x8 te):=
 (wP hl).imp λσ H R ⟨τ,G,r,hs,hg,ht,hR⟩=>⟨τ,G,_,hs,hg,ht,λv H1 w G1 t1 r1 g1 q1=>by
   split at q1
   ·cases r1;exact .inl ⟨_,rfl,hR _ H1 _ _ G1 t1 g1 wO q1⟩
   ·cases r1 with
    | tup h rr=>exact .inr ⟨_,rfl,.inr ⟨⟨_,cO.of h⟩,hR _ H1 _ _ G1 t1 g1 (vL h rr) q1⟩⟩
   ·cases r1 with
    | scr h=>exact .inr ⟨_,rfl,.inl ⟨⟨_,h.sq⟩,hR _ H1 _ _ G1 t1 g1 (vN h) q1⟩⟩
   ·obtain⟨ws,e,q1⟩:=q1;cases r1;obtain⟨_,xs,h1,_⟩:=g1 _ _ e;exact .inr ⟨_,rfl,.inl ⟨⟨xs,cU.of h1⟩,hR _ H1 _ _ G1 t1 g1 vM q1⟩⟩
   ·exact q1.elim⟩
end
open PySem PySem.Spec PyProof.Rows Nm
theorem eQ {β:Type} {C:Gp->Prop} {te:WE} {i:Nat} {τ0:cP} {G:Gp} {q:List W->Gp->Prop} (key val:β->W) (hC:C G):∀{ps:List β} {acc:List W} {τ:cP},
 (∀p,p∈ps->∀k:W->Gp->Prop,k (val p) G->te (τ0.set i (some (key p))) G k)->acc.length+ps.length<=100000->(∀x,τ.set i x=τ0.set i x)->q (acc++ps.map val) G->ci C (cW i) kC te (ps.map key) τ G acc q
 | [],acc,τ,_,_,_,hq=>⟨hC,by simpa using hq⟩
 | p::ps,acc,τ,ht,hl,hτ,hq=>by
   refine⟨hC,?_⟩;show te (τ.set i (some (key p))) G _;rw[hτ];refine ht p mem_cons_self _ ?_;rw[length_cons] at hl;refine⟨by lia,eQ key val hC (λu hu=>ht u (mem_cons_of_mem _ hu)) (by rw[length_append];simp only[length_cons,length_nil];lia) (λx=>?_) (by simpa using hq)⟩;rw[set_set]
theorem nj {C:Gp->Prop} {te:WE} {i:Nat} {τ0:cP} {q:List W->Gp->Prop} (Iv:List W->List W->Gp->Prop) (stop:∀acc G,Iv [] acc G->C G/\q acc G)
 (step:∀x ws acc G (k:WK),Iv (x::ws) acc G->(∀v G1,Iv ws (acc++[v]) G1->acc.length+1<=100000->k v G1)->C G/\te (τ0.set i (some x)) G k):∀{ws acc:List W} {τ:cP} {G:Gp},Iv ws acc G->acc.length+ws.length<=100000->(∀x,τ.set i x=τ0.set i x)->ci C (cW i) kC te ws τ G acc q
 | [],acc,τ,G,hI,_,_=>stop acc G hI
 | x::ws,acc,τ,G,hI,hl,hτ=>by
   rw[length_cons] at hl;obtain⟨h1,h2⟩:=step x ws acc G (λv G4=>acc.length+1<=100000/\ci C (cW i) kC te ws (τ0.set i (some x)) G4 (acc++[v]) q) hI λv G1 hv hn=>⟨hn,nj Iv stop step hv (by rw[length_append];simp only[length_cons,length_nil];(clear hn;lia)) λy=>set_set ..⟩;refine⟨h1,?_⟩;show te (τ.set i (some x)) G _;rw[hτ];exact h2
theorem Fq {c:WT} {t u:WS} {d:dq} {τ:cP} {G:Gp} (h:∀(T V:WS) (D:dq),T=t->V=u->D=d->Da c T V D τ G):Da c t u d τ G:=h t u d rfl rfl rfl
theorem bJ {G G':Gp} {p:Addr} (h:aF G G') (hp:G' p=none):G p=none:=by
 cases e:G p with
 | none=>rfl
 | some g=>rw[h _ _ e] at hp;cases hp
theorem gP {c A B:Prop} {d:Decidable c} (h1:c->A) (h2:¬c->B): @ite Prop c d A B:=by
 cases d with
 | isTrue h=>exact h1 h
 | isFalse h=>exact h2 h
theorem zY (xs:List W) (a b:Nat):∃x y:Nat,cQ xs (some (a:Int)) (some (b:Int))=(xs.drop x).take y/\y<=b-a:=by
 unfold cQ;rw[HT.sIx_nat,HT.sIx_nat];exact⟨_,_,rfl,by lia⟩
noncomputable abbrev vd (L:List Str):List W:=L.map W.str
theorem lT {L:List Str} {i:Int} (h0:0<=i) (h1:i<L.length):∃x,fL (vd L) i=some (.str x)/\x∈L:=by
 have hl:i.toNat<L.length:=by lia
 have q:=cM (xs:=vd L) (j:=i.toNat) (v:= .str L[i.toNat]) (by unfold vd;rw[List.getElem?_map,List.getElem?_eq_getElem hl];rfl);rw[Int.toNat_of_nonneg h0] at q;exact⟨_,q,getElem_mem hl⟩
section
variable {X:Cx} {π:List (Addr×Obj)} {σ:St} {H:Hp} {s:Shared} {a:Addr} {o:Obj} {kvs:List (aR×V)}
theorem aC.swap {u v:HO} (I:aC X π σ H s) (e:H a=some u) (un:Un X.fs X.ex X.H₀ (upd H a v) X.s₀.heap s.heap) (hv:bB X.prog X.w (upd H a v) s.heap a v) (nu:∀xs,u≠ .tup xs) (no:∀x,u≠ .own x):aC X π σ (upd H a v) s:=by
 have ne:∀b,H b=none->b≠a:=λb hb z=>by rw[z,e] at hb;cases hb
 refine⟨I.ok,I.os,I.bare,un,I.loc,I.cell,by rw[aD (ne _ I.free)];exact I.free,λx c hc=>by rw[aD (ne _ (I.freeC x c hc))];exact I.freeC x c hc,λp hp=>?_,λb w hb=>?_,I.len⟩
 ·obtain⟨h1,h2,h3⟩:=I.pin p hp;exact⟨h1,by rw[aD (ne _ h2)];exact h2,h3⟩
 ·by_cases hba:b=a
  ·subst hba;rw[bg] at hb;cases hb;exact hv
  ·rw[aD hba] at hb;refine(I.hok b w hb).stay (λd v _ q=>q) (λd q=>?_) λd xs q=>?_
   ·rw[aD (λz=>by rw[z,e] at q;exact no _ (Option.some.inj q))];exact q
   ·rw[aD (λz=>by rw[z,e] at q;exact nu _ (Option.some.inj q))];exact q
theorem aC.freeze (I:aC X π σ H s) (e:H a=some (.dK kvs)) (ho:s.heap.get? a=some o):aC X π σ (upd H a (.frz o (.dK kvs))) s:=by
 refine I.swap e ?_ ⟨ho,(I.hok a _ e)⟩ (λ_ z=>by cases z) (λ_ z=>by cases z);have U:=I.base;refine⟨U.keep,U.slot,λb ob h1 h2 h3=>?_,U.there,λb xs h1=>?_,λb ob w h1=>?_,λb ps h1=>?_⟩
 ·have h4:=U.free b ob h1 h2 h3;rw[aD (λz=>by rw[z,e] at h4;cases h4)];exact h4
 ·have h4:=U.tups b xs h1;rw[aD (λz=>by rw[z,e] at h4;cases h4)];exact h4
 ·have h4:=U.frzs b ob w h1;rw[aD (λz=>by rw[z,e] at h4;cases h4)];exact h4
 ·obtain⟨m,h4⟩:=U.tbls b ps h1;exact⟨m,by rw[aD (λz=>by rw[z,e] at h4;cases h4)];exact h4⟩
theorem aC.thaw (I:aC X π σ H s) (e:H a=some (.frz o (.dK kvs))) (h0:∀ob w,X.H₀ a≠some (.frz ob w)):aC X π σ (upd H a (.dK kvs)) s:=by
 refine I.swap e ?_ (I.hok a _ e).2 (λ_ z=>by cases z) (λ_ z=>by cases z);have U:=I.base;refine⟨U.keep,U.slot,λb ob h1 h2 h3=>?_,U.there,λb xs h1=>?_,λb ob w h1=>?_,λb ps h1=>?_⟩
 ·have h4:=U.free b ob h1 h2 h3;rw[aD (λz=>by rw[z,e] at h4;cases h4)];exact h4
 ·have h4:=U.tups b xs h1;rw[aD (λz=>by rw[z,e] at h4;cases h4)];exact h4
 ·have h4:=U.frzs b ob w h1;rw[aD (λz=>by rw[z] at h1;exact h0 _ _ h1)];exact h4
 ·obtain⟨m,h4⟩:=U.tbls b ps h1;exact⟨m,by rw[aD (λz=>by rw[z,e] at h4;cases h4)];exact h4⟩
theorem aC.nofrz (I:aC X π σ H s) (e:H a=some (.dK kvs)):∀ob w,X.H₀ a≠some (.frz ob w):=λob w h=>by
 have:=I.base.frzs a ob w h;rw[e] at this;cases this
theorem kR {α β:Type} {F:α->β->Prop}:∀{l1:List α} {l2:List β},Paired F l1 l2->∀{i:Nat} {a:α} {b:β},l1[i]?=some a->l2[i]?=some b->F a b
 | _,_,.nil,_,_,_,h,_=>by cases h
 | _,_,.cons r t,0,_,_,h1,h2=>by cases h1;cases h2;exact r
 | _,_,.cons r t,i+1,_,_,h1,h2=>kR t (i:=i) h1 h2
theorem aC.dictAt {es:Array DictEntry} {ep:Nat} (I:aC X π σ H s) (e:H a=some (.frz o (.dK kvs))) (hd:o.data=.dict es ep):∃vs,KV kvs vs/\s.heap.DictAt (aZ X.prog X.w) a vs ep/\(a==sysModules)=false:=by
 obtain⟨h1,_,h2,vs,h3,o2,es2,ep2,h4,h5,h6,h7⟩:=I.hok a _ e;rw[h1] at h4;cases h4;rw[hd] at h6;cases h6;exact⟨vs,h3,⟨o,es,h1,h5,hd,h7⟩,h2⟩
theorem qd {k:aR} {v:Value} (h:jd k v=true):bf (kV k) v:=by
 rcases bE h with⟨i,t,rfl,rfl⟩ | ⟨x,t,rfl,rfl⟩
 ·exact⟨t,rfl⟩
 ·exact⟨t,rfl⟩
variable {tg:Expr}
end
noncomputable def dH (kvs:List (aR×W)) (k:aR):Option W:=(kvs.find? λkv=>decide (kv.1=k)).map (·.2)
noncomputable def cT (kvs:List (aR×W)) (k:aR) (w:W):List (aR×W):=
 if (kvs.any λkv=>decide (kv.1=k))=true then kvs.map (λkv=>if kv.1=k then (kv.1,w) else kv) else kvs++[(k,w)]
inductive DP (K:PySem.W.Frag) (H:Hp):List (aR×W)->List (aR×V)->Prop where
 | nil:DP K H [] []
 | cons {k:aR} {w:W} {v:V} {kvs:List (aR×W)} {us:List (aR×V)} (r:bK K H w v) (t:DP K H kvs us):DP K H ((k,w)::kvs) ((k,v)::us)
section
variable {K:PySem.W.Frag} {H H1:Hp}
theorem DP.of:∀{kvs:List (aR×W)} {us:List (aR×V)},us.map (·.1)=kvs.map (·.1)->aV K H (kvs.map (·.2)) (us.map (·.2))->DP K H kvs us
 | [],[],_,_=> .nil
 | [],_::_,h,_=>by simp at h
 | _::_,[],h,_=>by simp at h
 | (k,w)::kvs,(k',v)::us,h,r=>by
   simp only[map_cons,List.cons.injEq] at h;obtain⟨rfl,h⟩:=h;cases r with
   | cons r rs=>exact .cons r (DP.of h rs)
theorem DP.keys {kvs:List (aR×W)} {us:List (aR×V)} (d:DP K H kvs us):us.map (·.1)=kvs.map (·.1):=by
 induction d with
 | nil=>rfl
 | cons r t ih=>rw[map_cons,map_cons,ih]
theorem DP.vals {kvs:List (aR×W)} {us:List (aR×V)} (d:DP K H kvs us):aV K H (kvs.map (·.2)) (us.map (·.2)):=by
 induction d with
 | nil=>exact .nil
 | cons r t ih=>exact .cons r ih
theorem DP.len {kvs:List (aR×W)} {us:List (aR×V)} (d:DP K H kvs us):us.length=kvs.length:=by
 have:=congrArg List.length d.keys;simpa using this
theorem DP.mono {kvs:List (aR×W)} {us:List (aR×V)} (t:aP H H1) (d:DP K H kvs us):DP K H1 kvs us:=DP.of d.keys (d.vals.mono t)
theorem DP.val {kvs:List (aR×W)} {us:List (aR×V)} (d:DP K H kvs us) (k:aR):(dH kvs k=none/\lx us k=none)∨∃w v,dH kvs k=some w/\lx us k=some v/\bK K H w v:=by
 induction d with
 | nil=>exact .inl ⟨rfl,rfl⟩
 | @cons k' w v kvs us r t ih=>
   by_cases e:k'=k
   ·exact .inr ⟨w,v,by simp[dH,List.find?_cons,e],mG e,r⟩
   ·rw[show dH ((k',w)::kvs) k=dH kvs k by simp[dH,List.find?_cons,e],mH (p:=(k',v)) e];exact ih
theorem DP.any {kvs:List (aR×W)} {us:List (aR×V)} (d:DP K H kvs us) (k:aR):(us.any λkv=>decide (kv.1=k))=kvs.any λkv=>decide (kv.1=k):=by
 induction d with
 | nil=>rfl
 | cons r t ih=>rw[any_cons,any_cons,ih]
theorem DP.put {kvs:List (aR×W)} {us:List (aR×V)} (d:DP K H kvs us) (k:aR) {w:W} {v:V} (r:bK K H w v):DP K H (cT kvs k w) (hJ us k v):=by
 unfold cT hJ;rw[d.any k]
 by_cases e:(kvs.any λkv=>decide (kv.1=k))=true
 ·rw[if_pos e,if_pos e];clear e
  induction d with
  | nil=>exact .nil
  | @cons k' w' v' kvs us r' t ih=>
    rw[map_cons,map_cons]
    by_cases e:k'=k
    ·rw[if_pos e,if_pos e];exact .cons r ih
    ·rw[if_neg e,if_neg e];exact .cons r' ih
 ·rw[if_neg e,if_neg e];clear e
  induction d with
  | nil=>exact .cons r .nil
  | cons r' t ih=>exact .cons r' ih
end
theorem dC (kvs:List (aR×W)) (k:aR) (w:W):(cT kvs k w).length<=kvs.length+1:=by
 unfold cT;split
 ·rw[length_map];lia
 ·rw[length_append,length_cons,length_nil];lia
noncomputable def GD (G:Gp) (a:Addr) (kvs:List (aR×W)):Prop:=G a=some (.dic kvs)∨∃o us,G a=some (.fdc o us kvs)
section
variable {K:PySem.W.Frag} {H:Hp} {G:Gp} {a:Addr} {kvs:List (aR×W)}
theorem GD.rd (h:GD G a kvs) (g:aM K H G):kvs.length<=100000/\∃us,Rd H a (.dK us)/\DP K H kvs us:=by
 rcases h with h | ⟨o,us,h⟩
 ·obtain⟨l,us,e,n,r⟩:=g a _ h;exact⟨l,us,.inl e,DP.of n r⟩
 ·obtain⟨l,e,n,r⟩:=g a _ h;exact⟨l,us,.inr ⟨o,e⟩,DP.of n r⟩
theorem aP.dk {us:List (aR×V)} (hp:H a=some (.dK us)) (o:HO):aP H (upd H a o):=
 ⟨λ_ _ h=>by rw[aD (fO h hp (by intro z;cases z))];exact h,λ_ _ _ h=>by rw[aD (fO h hp (by intro z;cases z))];exact h⟩
theorem aP.fz {us:List (aR×V)} {ob:Obj} (hp:H a=some (.frz ob (.dK us))) (o:HO):aP H (upd H a o):=
 ⟨λ_ _ h=>by rw[aD (fO h hp (by intro z;cases z))];exact h,λ_ _ _ h=>by rw[aD (fO h hp (by intro z;cases z))];exact h⟩
end
section
variable {X:Cx} {π:List (Addr×Obj)} {σ:St} {H:Hp} {s:Shared} {A:Around} {E:Value->Shared->Prop}
noncomputable def eW:W2:=λx y G q=>match x,y with
 | .ref a,.str z=>∃kvs w,GD G a kvs/\dH kvs (.inr z)=some w/\q w G
 | x,y=>kP x y G q
theorem aB:y6 X eW:=by
 rintro value slice π s σ H x y v u Q I rx ry ⟨wx,wy,G,q,r1,r2,g,h,hQ⟩ hsl;unfold eW at h;split at h
 ·rename_i a z;obtain⟨kvs,w,hd,hv,h⟩:=h;cases r1;cases r2;cases rx;obtain⟨_,us,rd,dp⟩:=hd.rd g;obtain⟨hl,hm,vs,rel,dd⟩:=e9 I.hok rd;rcases dp.val (.inr z) with⟨e,_⟩ | ⟨w',v',e,e',r⟩
  ·rw[e] at hv;cases hv
  ·rw[e] at hv;cases hv;obtain⟨u',hw,ru⟩:=fT.some_of (v:=v') (o:=valueAt vs (.inr z)) (by rw[←e'];exact rel.val (.inr z));exact tail_any dd.typeIs PySem.F.slot_dict_getitem.lookup (wpAny_getItem_of (mJ (P:=X.prog) (w:=X.w) (k:= .inr z) ry) dd.mapOf hw ⟨v',H,I.tok _,ru,hQ _ H _ G (aP.refl H) r g h⟩) hsl
 ·exact B7 value slice π s σ H x y v u Q I rx ry ⟨wx,wy,G,q,r1,r2,g,h,hQ⟩ hsl
structure FJ (ws:List W) (x:W):Prop where
 fx:x.flat=true
 fs:W.flats ws=true
 hd:W.deps ws<=149
inductive Fs (G:Gp) (a:Addr):W->Bool->Prop where
 | dic {kvs:List (aR×W)} {z:Str} (h:GD G a kvs):Fs G a (.str z) (dH kvs (.inr z)).isSome
 | lst {ws:List W} {x:W} (h:G a=some (.lst ws)) (l:FJ ws x):Fs G a x (ws.any λw=>w.eq x)
open Classical in
noncomputable def x9:WE:=λ_ G q=>∀p,G p=none->q (.ref p) (aL G p (.dic []))
theorem wQ:QE X (.Dict [] [] pos) x9:=
 pe_dnewK.imp λσ H Q z0=>z0.el λτ G q hs hg ht hQ p hp=>hQ _ _ _ _ (aP.new hp _) (.ref p) (hg.lay (g:= .dic []) (aP.new hp _) ⟨zero_le _,[],bg,rfl,.nil⟩) (ht p (hg.fresh hp))
noncomputable def kW:aR->W
 | .inl i=> .int i
 | .inr x=> .str x
theorem tZ (k:aR):bK K H (kW k) (kV k):=by
 cases k with
 | inl i=>exact .int i
 | inr x=>exact .str x
theorem Cb {k:aR} {v:V} (r:bK K H (kW k) v):v=kV k:=by
 cases k<;> cases r<;> rfl
noncomputable def Dg {α:Type} (mk:α->aR) (d:dq) (τ:cP) (w x y:W) (G:Gp):Prop:=∃a z kvs,x=.ref a/\y=kW (mk z)/\G a=some (.dic kvs)/\kvs.length+1<=100000/\d.nx τ (aL G a (.dic (cT kvs (mk z) w)))
theorem t9 {α:Type} (mk:α->aR) {o i value:Expr} {to ti tv:WE} {pos pos':Pos} (hv:QE X value tv) (ho:QE X o to) (hi:QE X i ti) (hs:swapsWith value (some (.Subscript o i pos')) pos.line X.env=pure false:=by rfl):
 QS X (.Assign [.Subscript o i pos'] value pos) (λd τ G=>tv τ G λw G1=>to τ G1 λx G2=>ti τ G2 λy G3=>Dg mk d τ w x y G3):=by
 intro π s σ H D I h;obtain⟨τ,G,d,hst,hg,ht,l⟩:=h;refine wpAny_Assign_Subscript (bV (hv π s σ H (λv H1=>∃w G1,aP H H1/\bK X.K H1 w v/\aM X.K H1 G1/\to τ G1 λx G2=>ti τ G2 λy G3=>Dg mk d τ w x y G3) I ⟨τ,G,_,hst,hg,ht,λv H1 w G1 t1 r1 g1 q1=>⟨w,G1,t1,r1,g1,q1⟩⟩) λr s1 z9=>?_) hs;obtain⟨v,H1,I1,rv,w,G1,t1,r1,g1,q1⟩:=z9;refine bV (ho π s1 σ H1 (λv2 H2=>∃w2 G2,aP H1 H2/\bK X.K H2 w2 v2/\aM X.K H2 G2/\ti τ G2 λy G3=>Dg mk d τ w w2 y G3) I1 ⟨τ,G1,_,hst.mono t1,g1,q1,λv2 H2 w2 G2 t2 r2 g2 q2=>⟨w2,G2,t2,r2,g2,q2⟩⟩) λu s2 z9=>?_;obtain⟨x,H2,I2,rx,w2,G2,t2,r2,g2,q2⟩:=z9;refine bV (hi π s2 σ H2 (λv3 H3=>∃w3 G3,aP H2 H3/\bK X.K H3 w3 v3/\aM X.K H3 G3/\Dg mk d τ w w2 w3 G3) I2 ⟨τ,G2,_,(hst.mono t1).mono t2,g2,q2,λv3 H3 w3 G3 t3 r3 g3 q3=>⟨w3,G3,t3,r3,g3,q3⟩⟩) λiv s3 z9=>?_;obtain⟨y,H3,I3,ry,w3,G3,t3,r3,g3,a,z,kvs,e1,e2,e3,hl,q3⟩:=z9;subst e1 e2;cases r2;obtain rfl:=Cb r3;cases rx;obtain⟨_,us,e4,n4,r4⟩:=g3 a _ e3;have dp:=DP.of n4 r4;obtain⟨zl,hd,vs,rel,dd⟩:=sh I3.hok e4;have hz:vs.length<=sizeLine:=by rw[←rel.length];exact zl
 have hlen:kvs.length+1<=sizeLine:=bN hl;have hl2:(hJ us (mk z) v).length<=sizeLine:=by have:=mI us (mk z) v;have:=dp.len;(clear hl zl hz;lia)
 refine wpAny_setItem_pairs (hsz:=hz) (mJ (P:=X.prog) (w:=X.w) (k:=mk z) ry) dd λh' dd' hs=>?_;have he:∃q,h'.get? a=some q:=let ⟨q,_,_,hq,_⟩:=dd';⟨q,hq⟩;have I4:=pC (t':=s3.toks+1) I3 (by rw[e4];exact True.intro) hs he (yX hl2 hd (rel.put (mk z) rv) dd');have tt:=(t1.trans t2).trans t3;have t4:=aP.dk e4 (.dK (hJ us (mk z) v));have dp2:=(dp.put (mk z) (r1.mono (t2.trans t3))).mono t4;exact⟨σ,_,I4,l.nx σ _ τ _ (tt.trans t4) (hst.mono (tt.trans t4)) (g3.lay (g:= .dic _) t4 ⟨le_trans (dC _ _ _) hl,_,bg,dp2.keys,dp2.vals⟩) q3⟩
noncomputable def ya (tv to ti:WE):WS:=λd τ G=>tv τ G λw G1=>to τ G1 λx G2=>ti τ G2 λy G3=>∃a z kvs,x=.ref a/\y=.str z/\G3 a=some (.dic kvs)/\kvs.length+1<=100000/\d.nx τ (aL G3 a (.dic (cT kvs (.inr z) w)))
theorem gQ {o i value:Expr} {to ti tv:WE} {pos pos':Pos} (hv:QE X value tv) (ho:QE X o to) (hi:QE X i ti) (hs:swapsWith value (some (.Subscript o i pos')) pos.line X.env=pure false:=by rfl):QS X (.Assign [.Subscript o i pos'] value pos) (ya tv to ti):=t9 Sum.inr hv ho hi hs
noncomputable def dq.th (a:Addr) (d:dq):dq where
 nx:=λτ G=>∃o us kvs,G a=some (.fdc o us kvs)/\d.nx τ (aL G a (.dic kvs))
 rt:=λw G=>∃o us kvs,G a=some (.fdc o us kvs)/\d.rt w (aL G a (.dic kvs))
 bk:=λτ G=>∃o us kvs,G a=some (.fdc o us kvs)/\d.bk τ (aL G a (.dic kvs))
 ct:=λτ G=>∃o us kvs,G a=some (.fdc o us kvs)/\d.ct τ (aL G a (.dic kvs))
noncomputable def fK.th (a:Addr) (d:fK):fK where
 nx:=λτ G=>∃o us,G a=some (.frz o (.dK us))/\d.nx τ (upd G a (.dK us))
 rt:=λw G=>∃o us,G a=some (.frz o (.dK us))/\d.rt w (upd G a (.dK us))
 bk:=λτ G=>∃o us,G a=some (.frz o (.dK us))/\d.bk τ (upd G a (.dK us))
 ct:=λτ G=>∃o us,G a=some (.frz o (.dK us))/\d.ct τ (upd G a (.dK us))
theorem wR {t:TS} (h:PS X st t):PS X st (λD σ H=>∃a us,H a=some (.dK us)/\t (fK.th a D) σ H):=by
 rintro π s σ H D I ⟨a,us,e,q⟩;have h0:=I.nofrz e;refine bV (h π s σ H _ I q) λf s1 z=>?_;cases f with
 | next=>obtain⟨σ1,H1,I1,o,us,e,q⟩:=z;exact⟨σ1,_,I1.thaw e h0,q⟩
 | cont=>obtain⟨σ1,H1,I1,o,us,e,q⟩:=z;exact⟨σ1,_,I1.thaw e h0,q⟩
 | brk=>obtain⟨σ1,H1,I1,o,us,e,q⟩:=z;exact⟨σ1,_,I1.thaw e h0,q⟩
 | ret u=>obtain⟨v,σ1,H1,I1,rv,o,us,e,q⟩:=z;exact⟨v,σ1,_,I1.thaw e h0,rv,q⟩
theorem aM.thaw {G:Gp} {o:Obj} {us:List (aR×V)} {kvs:List (aR×W)} (g:aM K H G) (e:G a=some (.fdc o us kvs)):
 H a=some (.frz o (.dK us))/\aP H (L2.upd H a (.dK us))/\aM K (L2.upd H a (.dK us)) (aL G a (.dic kvs)):=by
 obtain⟨l,e1,n,r⟩:=g a _ e;have t:=aP.fz e1 (.dK us);exact⟨e1,t,g.lay (g:= .dic _) t ⟨l,us,bg,n,r.mono t⟩⟩
noncomputable def yb (t:WS):WS:=λd τ G=>∃a kvs,G a=some (.dic kvs)/\t (d.th a) τ G
theorem wS {t:WS} (h:QS X st t):QS X st (yb t):=
 (wR h).imp λD σ H z0=>z0.el λτ G d hs hg ⟨a,kvs,ea,ht⟩ l=>by
   obtain⟨_,us,e1,_⟩:=hg a _ ea;refine⟨a,us,e1,τ,G,d.th a,hs,hg,ht,⟨?_,?_,?_,?_⟩⟩
   ·rintro σ1 H1 τ1 G1 t1 s1 g1 ⟨o,us,kvs,e,q⟩;obtain⟨e2,t2,g2⟩:=g1.thaw e;exact⟨o,us,e2,l.nx _ _ _ _ (t1.trans t2) (s1.mono t2) g2 q⟩
   ·rintro v H1 w G1 t1 r1 g1 ⟨o,us,kvs,e,q⟩;obtain⟨e2,t2,g2⟩:=g1.thaw e;exact⟨o,us,e2,l.rt _ _ _ _ (t1.trans t2) (r1.mono t2) g2 q⟩
   ·rintro σ1 H1 τ1 G1 t1 s1 g1 ⟨o,us,kvs,e,q⟩;obtain⟨e2,t2,g2⟩:=g1.thaw e;exact⟨o,us,e2,l.bk _ _ _ _ (t1.trans t2) (s1.mono t2) g2 q⟩
   ·rintro σ1 H1 τ1 G1 t1 s1 g1 ⟨o,us,kvs,e,q⟩;obtain⟨e2,t2,g2⟩:=g1.thaw e;exact⟨o,us,e2,l.ct _ _ _ _ (t1.trans t2) (s1.mono t2) g2 q⟩
theorem aM.freeze {G:Gp} {us:List (aR×V)} {kvs:List (aR×W)} (g:aM K H G) (e:G a=some (.dic kvs)) (e1:H a=some (.dK us)) (o:Obj):
 aP H (L2.upd H a (.frz o (.dK us)))/\aM K (L2.upd H a (.frz o (.dK us))) (aL G a (.fdc o us kvs)):=by
 obtain⟨l,us',e2,n,r⟩:=g a _ e;rw[e1] at e2;cases e2;have t:=aP.dk e1 (.frz o (.dK us));exact⟨t,g.lay (g:= .fdc _ _ _) t ⟨l,bg,n,r.mono t⟩⟩
variable {tg:Expr}
end
noncomputable def Eb (d:Addr) (o:Obj) (kvs:List (aR×V)):It:=
 ⟨λi H=>H d=some (.frz o (.dK kvs))/\i<kvs.length,
  λi H y H'=>∃p kv,H p=none/\kvs[i]?=some kv/\y=.ref p/\H'=upd H p (.tup [kV kv.1,kv.2]),
  λi H=>H d=some (.frz o (.dK kvs))/\kvs.length<=i⟩
theorem oX {elts:List Expr} {o:Obj} {kvs:List (aR×V)} {es:Array DictEntry} {ep:Nat} (it d:Addr) (hne:d≠it) (hd:o.data=.dict es ep):
 lq P w K (.Tuple elts k pos) (Eb d o kvs) [it] it (λi h=>i<=kvs.length/\∃ok ov,IsItemIter h it d i kvs.length ep ok ov) where
 mem:=by simp
 obj:=λi h st b hb=>by
  have e:b=it:=by simpa using hb
  subst e;obtain⟨_,ok,ov,e1⟩:=st;exact⟨_,e1,λv z=>by cases z⟩
 keep:=λi h h' st k=>by
  obtain⟨hi,ok,ov,e1⟩:=st;exact⟨hi,ok,ov,k it (by simp) _ e1⟩
 item:=by
  intro X hP hw hK hc i π s σ H E I hf st hg;subst hP hw hK;obtain⟨f0,f1,f2,f3,f4,f5⟩:=hf it (by simp);obtain⟨hfz,hi⟩:=hg;obtain⟨vs,kv,da,_⟩:=I.dictAt hfz hd;have hl:=kv.length;obtain⟨_,ok,ov,hit⟩:=st;have hi2:i<vs.length:=by (clear f3;lia)
  have e0:=List.getElem?_eq_getElem hi;have e1:=List.getElem?_eq_getElem hi2;obtain⟨pk,pv⟩:=kR kv e0 e1;rw[hl] at hit;refine wpAny_pyNext_items_item (knd:=aZ X.prog X.w) (k:=vs[i].1) (v:=vs[i].2) hit da e1 λkey h1 hkey ho ht hsz kk=>⟨_,rfl,?_⟩;refine PySem.wpAny_letOwnedTupleGo_items ho λh2 he2 sb2=>?_;have lt:∀{c:Addr} {o:Obj},s.heap.get? c=some o->c≠s.heap.objs.size:=λe=>ne_of_lt (Heap.lt_size e);have hnew:H s.heap.objs.size=none:=I.hok.fresh (le_refl _);have ene:it≠s.heap.objs.size:=lt hit;have keep:∀c o,c≠it->s.heap.get? c=some o->h2.get? c=some o:=λc o c1 q=>sb2.extBut c o c1 (kk c o c1 q);have tn:h2.get? s.heap.objs.size=some { cls:= .type "tuple",data:= .seq #[key,vs[i].2] }:=sb2.extBut _ _ (Ne.symm ene) ht;have rk:bf (kV kvs[i].1) key:=by rw[pk];exact qd hkey
  refine⟨.ref s.heap.objs.size,upd H s.heap.objs.size (.tup [kV kvs[i].1,kvs[i].2]),I.pair (ch:=[it]) hf (λc o hc e=>keep c o (by simpa using hc) e) tn rk pv,rfl,⟨_,_,hnew,e0,rfl,rfl⟩,⟨by assumption,key,vs[i].2,by rw[hl];exact he2⟩,λc hc=>?_⟩
  ·have hc':c=it:=by simpa using hc
   subst hc';rw[aD ene];exact f0
 done:=by
  intro X hP hw hK hc i π s σ H E I hf st hg;subst hP hw hK;obtain⟨f0,f1,f2,f3,f4,f5⟩:=hf it (by simp);obtain⟨hfz,hi⟩:=hg;obtain⟨vs,kv,da,_⟩:=I.dictAt hfz hd;have hl:=kv.length;obtain⟨hi2,ok,ov,hit⟩:=st;rw[hl] at hit;exact wpAny_pyNext_items_end (knd:=aZ X.prog X.w) (I.ok.hd hc) hit da (List.getElem?_eq_none (by (clear f3;lia))) λh' kk=>⟨rfl,I.turned (t':=s.toks) (λb o hb e=>kk b o (by simpa using hb) e) f0 f1 f3 f4 f5⟩
 self:=λA i s Q E st h=>let ⟨_,_,_,hit⟩:=st;PySem.W.kcp_self hit h
section
variable {X:Cx} {elts:List Expr} {k:Nat} {tp:Pos}
theorem uc {p apos cpos:Pos} (hN:X.N[i]?=some x) (hv:AL X.env.scope x) (hd:(x==("__debug__":Str))=false:=by decide) (hcd:(x==("__classdict__":Str))=false:=by decide)
 (hbase:attributeBase (.Name x p) "items" X.env (eval (.Name x p) X.env)=eval (.Name x p) X.env:=by rfl) (hline:(apos.endLine==cpos.line)=true:=by rfl):
 PI X (.Tuple elts k tp) (.Call (.Attribute (.Name x p) "items" apos) [] [] cpos) (λσ H R=>∃a kvs,σ[i]?=some (some (.ref a))/\H a=some (.dK kvs)/\∀o,R (Eb a o kvs) (upd H a (.frz o (.dK kvs)))):=by
 rintro π s σ H R I ⟨a,kvs,hi,e,h⟩;refine wpAny_Call_method0_late hbase hline (bV (nS (pos:=p) hN hv hd hcd π s σ H (λv H'=>v=.ref a/\H'=H) I ⟨_,hi,rfl,rfl⟩) λu s1 z9=>?_);obtain⟨v,H1,I1,r,hv1,hH⟩:=z9;subst hv1;subst hH;obtain rfl:u=Value.ref a:=r;obtain⟨_,hm,vs,kv,o,es,ep,h1,h2,h3,h4⟩:=sh I1.hok e;have ty:C9 X.K "dict" (.ref a) H1:= .inr (.inr (.inl ⟨rfl,.inl ⟨kvs,e⟩⟩));obtain⟨t1,t2⟩:=oh I1 (show bf (V.ref a) (Value.ref a) from rfl) ty;refine⟨"dict",_,PySem.F.plainAttrs_dict,PySem.F.slot_dict_items,PySem.F.type_dict_items,t1,t2,Calls.callWith_builtin rfl (PySem.evalArgs_none ?_)⟩;refine call_meetsIn PySem.F.slot_dict_items t1 PySem.F.entry_dict_items (PySem.F.args_dict_items_1 _) (meets_dict_items (aZ X.prog X.w) a hm) ⟨⟨vs,o,es,ep,h1,h2,h3,h4⟩,?_⟩;have I2:aC X π σ H1 { s1 with heap:=s1.heap.push { cls:= .type "dict_items",data:= .fields #[.ref a] } }:=I1.kept (t':=s1.toks) λb o e=>Heap.get?_push_of_some _ e;have h1':(s1.heap.push { cls:= .type "dict_items",data:= .fields #[.ref a] }).get? a=some o:=Heap.get?_push_of_some _ h1;have J:=I2.freeze e h1';refine wpAny_pyIter_items (knd:=aZ X.prog X.w) (d:=a) ⟨_,Heap.get?_push_size _ rfl,rfl,rfl⟩ ⟨o,es,h1',h2,h3,h4⟩ ?_;have hne:a≠(s1.heap.push { cls:= .type "dict_items",data:= .fields #[.ref a] }).objs.size:=ne_of_lt (Heap.lt_size h1');refine⟨_,[(s1.heap.push { cls:= .type "dict_items",data:= .fields #[.ref a] }).objs.size],_,_,_,rfl,J.kept (t':=s1.toks) λb o e=>Heap.get?_push_of_some _ e,oX (o:=o) (kvs:=kvs) (es:=es) (ep:=ep) _ a hne h3,⟨zero_le _,.none,.none,by rw[kv.length];exact Heap.get?_push_size _ rfl⟩,λb hb=>?_,h o⟩;have e:b=(s1.heap.push { cls:= .type "dict_items",data:= .fields #[.ref a] }).objs.size:=by simpa using hb
 subst e;exact J.fpOk (le_refl _) (J.hok.fresh (le_refl _))
theorem qY {H:Hp} {o:Obj} {us:List (aR×V)} {kvs:List (aR×W)}:pI K (Eb a o us) (kvs.map λp=> .tup [kW p.1,p.2]) (λG=>G a=some (.fdc o us kvs)) H where
 stop:=λi H1 G t g e hl=>by
  obtain⟨_,e1,n,r⟩:=g a _ e;have:=(DP.of n r).len;rw[length_map] at hl;exact⟨e1,by lia⟩
 go:=λi w H1 G t g eG e=>by
  obtain⟨_,e1,n,r⟩:=g a _ eG;have hl:=(DP.of n r).len;rw[List.getElem?_map] at e;cases hk:kvs[i]? with
  | none=>rw[hk] at e;cases e
  | some p=>
    rw[hk] at e;cases e;have hi:=(List.getElem?_eq_some_iff.mp hk).1;obtain⟨v,h5,rv⟩:=r.get (i:=i) (w:=p.2) (by rw[List.getElem?_map,hk];rfl);refine⟨⟨e1,by (clear hk h5;lia)⟩,λx H' ⟨q,kv,hq,h1,h2,h3⟩=>?_⟩;subst h2 h3;have h4:(us.map (·.1))[i]?=some kv.1:=by rw[List.getElem?_map,h1];rfl
    rw[n,List.getElem?_map,hk] at h4;have h4':p.1=kv.1:=Option.some.inj h4;rw[List.getElem?_map,h1] at h5;cases h5;have tn:=aP.new hq (HO.tup [kV kv.1,kv.2]);refine⟨tn,.tup bg (.cons ?_ (.cons (rv.mono tn) .nil)),g.keep hq _⟩;rw[h4'];exact tZ _
noncomputable def oY (i:Nat):WI:=λτ G r=>match τ[i]? with
 | some (some (.ref a))=>∃kvs,G a=some (.dic kvs)/\∀o us,r (kvs.map λp=> .tup [kW p.1,p.2]) (λG=>G a=some (.fdc o us kvs)) (aL G a (.fdc o us kvs))
 | _=>False
theorem ud (i:Nat) {p apos cpos:Pos} (hN:X.N[i]?=some x) (hv:AL X.env.scope x) (hd:(x==("__debug__":Str))=false:=by decide) (hcd:(x==("__classdict__":Str))=false:=by decide)
 (hbase:attributeBase (.Name x p) "items" X.env (eval (.Name x p) X.env)=eval (.Name x p) X.env:=by rfl) (hline:(apos.endLine==cpos.line)=true:=by rfl):
 QI X (.Tuple elts k tp) (.Call (.Attribute (.Name x p) "items" apos) [] [] cpos) (oY i):=
 (uc hN hv hd hcd hbase hline).imp λσ H R ⟨τ,G,r,hs,hg,ht,hR⟩=>by
   unfold oY at ht;split at ht
   ·rename_i a e;obtain⟨kvs,ea,ht⟩:=ht;obtain⟨v,e1,rv⟩:=hs.2 i _ e;cases rv;obtain⟨_,us,e2,_⟩:=hg a _ ea;refine⟨a,us,e1,e2,λo=>?_⟩;obtain⟨t,g⟩:=hg.freeze ea e2 o;exact hR _ _ _ _ _ t g qY (ht o us)
   ·exact ht.elim
end
section
variable {X:Cx} {π:List (Addr×Obj)} {σ:St} {H:Hp} {s:Shared}
theorem ue:bootBuiltins "dict"=some (.type "dict"):=by decide+kernel
inductive zZ (G:Gp) (a:Addr):Nat->Prop where
 | lst {ws:List W} (h:G a=some (.lst ws)):zZ G a ws.length
 | dic {kvs:List (aR×W)} (h:GD G a kvs):zZ G a kvs.length
noncomputable def uf:List W->Gp->WK->Prop:=λws G q=>match ws with
 | [.ref a]=>∃n:Nat,zZ G a n/\q (.int n) G
 | ws=>qc ws G q
theorem bU:dM X (.builtin "len") uf:=by
 rintro π s σ H xs us Q I r ⟨ws,G,q,rw',g,h,hQ⟩;unfold uf at h;split at h
 ·obtain⟨n,hn,h⟩:=h;cases hn with
  | lst e=>exact xS π s σ H xs us Q I r ⟨_,G,q,rw',g,⟨_,e,h⟩,hQ⟩
  | dic hd=>
    obtain⟨v,rfl,r1⟩:=rw'.one;cases r1;obtain⟨u,rfl,ru⟩:=eU r;cases ru;obtain⟨_,us,rd,dp⟩:=hd.rd g;refine Bk I rd λt s' I'=>⟨.int us.length,H,I',⟨t,rfl⟩,hQ _ H _ G (aP.refl H) ?_ g h⟩;rw[dp.len];exact .int _
 ·exact zX π s σ H xs us Q I r ⟨ws,G,q,rw',g,h,hQ⟩
inductive Aa (G:Gp) (a:Addr):List W->Prop where
 | lst {ws:List W} (h:G a=some (.lst ws)):Aa G a ws
 | dic {kvs:List (aR×W)} (h:GD G a kvs):Aa G a (kvs.map λp=>kW p.1)
noncomputable def oZ:List W->Gp->WK->Prop:=λws G q=>match ws with
 | [.ref a]=>∃ws,Aa G a ws/\∀p,G p=none->q (.ref p) (aL G p (.lst ws))
 | ws=>pF ws G q
theorem qe {P:Program} {w:World}:∀{us:List (aR×V)} {vs:List (aR×Value)} {its:List Value},KV us vs->its.length=vs.length->(∀(j:Nat) (v:Value),its[j]?=some v->∃(k:aR) (x:Value),vs[j]?=some (k,x)/\(aZ P w).is k v=true)->aX (us.map λp=>kV p.1) its
 | [],_,[],.nil,_,_=> .nil
 | [],_,_::_,.nil,h,_=>by simp at h
 | _::_,_,[],.cons _ _,h,_=>by simp at h
 | p::us,_,u::its,.cons r t,h,hv=>by
   obtain⟨k,x,e1,e2⟩:=hv 0 u rfl;cases e1;refine .cons ?_ (qe (P:=P) (w:=w) t (by simpa using h) λj v e=>by simpa using hv (j+1) v (by simpa using e));show bf (kV p.1) u;rw[show p.1=k from r.1];exact qd e2
theorem qf (hc:X.calm=true):dM X (.type "list") oZ:=by
 rintro π s σ H xs us Q I r ⟨ws,G,q,rw',g,h,hQ⟩;unfold oZ at h;split at h
 ·rename_i a;obtain⟨ws,hw,h⟩:=h;cases hw with
  | lst e=>exact ss π s σ H xs us Q I r ⟨_,G,q,rw',g,⟨_,e,h⟩,hQ⟩
  | dic hd=>
    obtain⟨v,rfl,r1⟩:=rw'.one;cases r1;obtain⟨u,rfl,ru⟩:=eU r;cases ru;obtain⟨hl,us,rd,dp⟩:=hd.rd g;obtain⟨zl,hm,vs,rel,dd⟩:=e9 I.hok rd;obtain⟨ep,hat⟩:=dd.dictAt;refine PySem.W.kdl_call (PySem.W.kdl_dict (knd:=aZ X.prog X.w) (kvs:=vs) (ep:=ep) hm) (I.ok.hd hc) hat (by rw[←rel.length];exact zl) λh' tk acc' c' kp e hacc=>?_;have rv:aX (us.map λp=>kV p.1) acc'.toList:=qe (P:=X.prog) (w:=X.w) rel (by rw[Array.length_toList];exact hacc.1) λj v e=>hacc.2 j v (by rw[←Array.getElem?_toList];exact e);have hsz:(us.map λp=>kV p.1).length<=sizeLine:=by rw[length_map];exact zl
    have hp:=I.hok.fresh (le_refl s.heap.objs.size);have e':h'.get? s.heap.objs.size=some { cls:= .type "list",data:= .seq acc'.toList.toArray c' }:=by simpa using e
    refine⟨.ref s.heap.objs.size,_,I.laid (t':=tk) (λb o q=>kp b o q) (le_refl _) (show bB X.prog X.w _ h' _ (.lst (us.map λp=>kV p.1)) from ⟨hsz,acc'.toList,c',rv,e'⟩),rfl,?_⟩;have rr:∀{kvs:List (aR×W)} {us:List (aR×V)},DP X.K H kvs us->aV X.K H (kvs.map λp=>kW p.1) (us.map λp=>kV p.1):=by
     intro kvs us d
     induction d with
     | nil=>exact .nil
     | cons r t ih=>exact .cons (tZ _) ih
    exact hQ _ _ _ _ (aP.new hp _) (.ref _) (g.put (aP.new hp _) (rr dp) (by rw[length_map];exact hl)) (h _ (g.fresh hp))
 ·exact ss π s σ H xs us Q I r ⟨ws,G,q,rw',g,h,hQ⟩
noncomputable def Ec:V->List V->Hp->VK->Prop:=λx vs H Q=>∃a kvs k d,x=.ref a/\vs=[kV k,d]/\H a=some (.dK kvs)/\Q ((lx kvs k).getD d) H
theorem Ab:Bh X "dict.get" Ec:=by
 rintro π s σ H x vs v us Q I rx rv ⟨a,kvs,k,d,e1,e2,e,q⟩;subst e1 e2;cases rx;obtain⟨u1,u2,rfl,r1,r2⟩:=mz rv;obtain⟨z,hd,vs,rel,dd⟩:=sh I.hok e;exact call_meetsIn PySem.F.slot_dict_get dd.typeIs PySem.F.entry_dict_get (PySem.F.args_dict_get_3 _ _ _) (meets_dict_get_default (aZ X.prog X.w) a (mJ r1) hd u2) ⟨_,dd.mapOf,_,H,I.tok _,(rel.val k).getD r2,q⟩
theorem ug {α:Type} (mk:α->aR) {o k e:Expr} {to tk te:WE} {apos cpos:Pos} (ho:QE X o to) (hk:QE X k tk) (he:QE X e te)
 (hbase:attributeBase o "get" X.env (eval o X.env)=eval o X.env:=by rfl)
 (hfew:((backTo cpos (starEach [k,e] X.env)).all (λx=>!x.1)&&(backToKw cpos (keywordEach [] X.env)).all (λx=>x.1.isSome)
   &&decide (([k,e]:List Expr).length+([]:List Keyword).length+(if ([]:List Keyword).isEmpty then 0 else 1)<30))=true:=by rfl)
 (hline:(apos.endLine==cpos.line)=true:=by rfl) (hs:starEach [k,e] X.env=(false,eval k X.env)::starEach [e] X.env:=by rfl) (hs2:starEach [e] X.env=(false,eval e X.env)::starEach [] X.env:=by rfl) (hpl:(backTo cpos (starEach [e] X.env)).any (·.1)=false:=by rfl):
 QE X (.Call (.Attribute o "get" apos) [k,e] [] cpos) (λτ G q=>to τ G λx G1=>match x with
 | .ref a=>(∃kvs,G1 a=some (.dic kvs))/\tk τ G1 λy G2=>te τ G2 λd G3=>∃z kvs,y=kW (mk z)/\G3 a=some (.dic kvs)/\q ((dH kvs (mk z)).getD d) G3
 | _=>False):=
 (xI PySem.F.plainAttrs_dict PySem.F.slot_dict_get PySem.F.type_dict_get Ab ho (cL hk (cL he pa_nil hs2) hs) hbase hfew hline hs hpl).imp λσ H Q z0=>z0.el λτ G q hs hg ht hQ=>
   ⟨τ,G,_,hs,hg,ht,λv H1 w G1 t1 r1 g1 q1=>by
     split at q1
     ·rename_i a;cases r1;obtain⟨⟨kvs,e1⟩,q1⟩:=q1;obtain⟨_,us,h1,_⟩:=g1 a _ e1;refine⟨.inr (.inr (.inl ⟨rfl,.inl ⟨us,h1⟩⟩)),τ,G1,_,hs.mono t1,g1,q1,λv2 H2 w2 G2 t2 r2 g2 q2=>?_⟩;refine⟨τ,G2,_,(hs.mono t1).mono t2,g2,q2,λv3 H3 w3 G3 t3 r3 g3 q3=>?_⟩;obtain⟨z,kvs,rfl,e2,q3⟩:=q3;obtain rfl:=Cb r2;obtain⟨_,us,h2,n,rr⟩:=g3 a _ e2;refine⟨a,us,mk z,v3,rfl,rfl,h2,hQ _ _ _ _ ((t1.trans t2).trans t3) ?_ g3 q3⟩;rcases(DP.of n rr).val (mk z) with⟨e,e'⟩ | ⟨w',v',e,e',r⟩
      ·rw[e,e'];exact r3
      ·rw[e,e'];exact r
     ·exact q1.elim⟩
noncomputable def yc (to tk td:WE):WE:=λτ G q=>to τ G λx G1=>match x with
 | .ref a=>(∃kvs,G1 a=some (.dic kvs))/\tk τ G1 λy G2=>td τ G2 λd G3=>∃z kvs,y=.str z/\G3 a=some (.dic kvs)/\q ((dH kvs (.inr z)).getD d) G3
 | _=>False
theorem wT {o k e:Expr} {to tk te:WE} {apos cpos:Pos} (ho:QE X o to) (hk:QE X k tk) (he:QE X e te)
 (hbase:attributeBase o "get" X.env (eval o X.env)=eval o X.env:=by rfl)
 (hfew:((backTo cpos (starEach [k,e] X.env)).all (λx=>!x.1)&&(backToKw cpos (keywordEach [] X.env)).all (λx=>x.1.isSome)
   &&decide (([k,e]:List Expr).length+([]:List Keyword).length+(if ([]:List Keyword).isEmpty then 0 else 1)<30))=true:=by rfl)
 (hline:(apos.endLine==cpos.line)=true:=by rfl) (hs:starEach [k,e] X.env=(false,eval k X.env)::starEach [e] X.env:=by rfl) (hs2:starEach [e] X.env=(false,eval e X.env)::starEach [] X.env:=by rfl) (hpl:(backTo cpos (starEach [e] X.env)).any (·.1)=false:=by rfl):
 QE X (.Call (.Attribute o "get" apos) [k,e] [] cpos) (yc to tk te):=
 ug Sum.inr ho hk he hbase hfew hline hs hs2 hpl
inductive jJ (G:Gp):W->W->Prop where
 | int (i:Int):jJ G (.int i) (.int i)
 | lst {a b:Addr} {ws us:List W} (ea:G a=some (.lst ws)) (eb:G b=some (.lst us)) (f1:W.flats ws=true) (f2:W.flats us=true) (hd:W.deps ws<=8) (he:W.eqs ws us=true):jJ G (.ref a) (.ref b)
inductive Cc (G:Gp) (a b:Addr):Bool->Prop where
 | lst {ws us:List W} (ea:G a=some (.lst ws)) (eb:G b=some (.lst us)) (f1:W.flats ws=true) (f2:W.flats us=true) (hd:W.deps ws<=149):Cc G a b (W.eqs ws us)
 | dic {kvs us:List (aR×W)} (ea:GD G a kvs) (eb:GD G b us) (hl:kvs.length=us.length) (hv:∀p,p∈kvs->∃w',dH us p.1=some w'/\jJ G p.2 w'):Cc G a b true
noncomputable def Ac:W2:=λx y G q=>match x,y with
 | .ref a,.ref b=>∃r,Cc G a b r/\q (.bl r) G
 | x,y=>sy x y G q
noncomputable def Ad:W2:=λx y G q=>match x,y with
 | .ref a,.ref b=>∃r,Cc G a b r/\q (.bl (!r)) G
 | x,y=>sA x y G q
theorem wU (hu:A.units+20<cLine) {G:Gp} {w1 w2:W} {v1 v2:V} {u1 u2:Value} (I:aC X π σ H s) (g:aM X.K H G) (h:jJ G w1 w2) (r1:bK X.K H w1 v1) (r2:bK X.K H w2 v2) (q1:bf v1 u1) (q2:bf v2 u2):SeqAt.EqAt A s u1 u2 true:=by
 cases h with
 | int i=>
   cases r1;cases r2;have:=(ib I 10 A (w1:= .int i) (w2:= .int i) (by show 0<10;decide) rfl rfl (by lia) (.int i) (.int i) q1 q2).1;rw[oR] at this;simpa using this
 | @lst a b ws us ea eb f1 f2 hd he=>
   cases r1;cases r2;cases q1;cases q2
   by_cases hne:a=b
   ·subst hne;exact SeqAt.EqAt.same _
   obtain⟨_,xs,e1,ra⟩:=g _ _ ea;obtain⟨_,ys,e2,rb⟩:=g _ _ eb;obtain⟨its,rv,p,_⟩:=I.list (cU.of e1);obtain⟨its2,rv2,p2,_⟩:=I.list (cU.of e2);have l1:its.length=ws.length:=by rw[←rv.length,ra.length]
   have l2:its2.length=us.length:=by rw[←rv2.length,rb.length]
   have hl:ws.length=us.length:=by
    by_cases hl:ws.length=us.length
    ·exact hl
    ·rw[lC hl] at he;cases he
   have c1:=SeqAt.RcAt.lists p.isList p2.isList (by rw[size_toArray,size_toArray,l1,l2,hl]) (A:=A) (by (clear hd l1 l2 hl;lia)) (DV I (n:=10) (by (clear hu l1 l2 hl;lia)) f1 f2 (by show A.units+1+10<cLine;(clear hd l1 l2 hl;lia)) ra rb rv rv2);have er:=fC ws us;rw[←hl,Nat.min_self,beq_self_eq_true,Bool.and_true] at er;rw[size_toArray,l1,er,he] at c1;exact SeqAt.EqAt.of_refs hne c1
theorem lU (hu:A.units+20<cLine) {G:Gp} (I:aC X π σ H s) (g:aM X.K H G) {kb:List (aR×Value)} {us:List (aR×W)} {ub:List (aR×V)} (db:DP X.K H us ub) (rb:KV ub kb):
 ∀{kvs:List (aR×W)} {ua:List (aR×V)} {ka:List (aR×Value)},DP X.K H kvs ua->KV ua ka->(∀p,p∈kvs->∃w',dH us p.1=some w'/\jJ G p.2 w')->PySem.W.KeqHits A s kb ka true:=by
 intro kvs ua ka d
 induction d generalizing ka with
 | nil=>
   intro r _;cases r;exact .nil
 | @cons k w v kvs ua rw' t ih=>
   intro r hv;cases r with
   | @cons _ b _ bs r1 rt=>
     obtain⟨b1,b2⟩:=b;obtain⟨e1,r2⟩:=r1;cases (show k=b1 from e1);obtain⟨w',hw,sv⟩:=hv _ mem_cons_self;rcases db.val k with⟨e,_⟩ | ⟨w2,v2,e,e',r3⟩
     ·rw[e] at hw;cases hw
     ·rw[e] at hw;cases hw;obtain⟨y,hy,ry⟩:=fT.some_of (v:=v2) (o:=valueAt kb k) (by rw[←e'];exact rb.val k);exact .hit (e:=true) (b:=true) hy (wU hu I g sv rw' r3 r2 ry) (ih rt λp hp=>hv p (mem_cons_of_mem _ hp))
theorem Ce (hr:aw k X.A):iB X (compareOp .Eq) Ac:=by
 rintro π s σ H x y v u Q I rx ry ⟨wx,wy,G,q,r1,r2,g,h,hQ⟩;unfold Ac at h;split at h
 ·obtain⟨r,he,h⟩:=h;cases he with
  | lst ea eb f1 f2 hd=>exact BJ hr π s σ H x y v u Q I rx ry ⟨_,_,G,q,r1,r2,g,⟨_,_,ea,eb,f1,f2,hd,h⟩,hQ⟩
  | dic ea eb hl hv=>
    cases r1;cases r2;cases rx;cases ry;have hu:=hr.un;obtain⟨_,ua,ra,da⟩:=ea.rd g;obtain⟨_,ub,rb,db⟩:=eb.rd g;obtain⟨_,ma,ka,qa,dda⟩:=e9 I.hok ra;obtain⟨_,mb,kb,qb,ddb⟩:=e9 I.hok rb;have hlen:ka.length=kb.length:=by rw[←qa.length,←qb.length,da.len,db.len,hl]
    refine PySem.W.keq_eq ma mb dda ddb (by (clear hl hlen;lia)) (λ_=>lU (A:=X.A.in1) (by show X.A.units+1+20<cLine;(clear hl hlen;lia)) I g db qb da qa hv) ?_;rw[hlen,beq_self_eq_true,Bool.true_and];exact⟨.bl _,H,I,rfl,hQ _ H _ G (aP.refl H) (.bl _) g h⟩
 ·exact ze hr π s σ H x y v u Q I rx ry ⟨wx,wy,G,q,r1,r2,g,h,hQ⟩
theorem Cg (hr:aw k X.A):iB X (compareOp .NotEq) Ad:=by
 rintro π s σ H x y v u Q I rx ry ⟨wx,wy,G,q,r1,r2,g,h,hQ⟩;unfold Ad at h;split at h
 ·obtain⟨r,he,h⟩:=h;cases he with
  | lst ea eb f1 f2 hd=>exact BK hr π s σ H x y v u Q I rx ry ⟨_,_,G,q,r1,r2,g,⟨_,_,ea,eb,f1,f2,hd,h⟩,hQ⟩
  | dic ea eb hl hv=>
    cases r1;cases r2;cases rx;cases ry;have hu:=hr.un;obtain⟨_,ua,ra,da⟩:=ea.rd g;obtain⟨_,ub,rb,db⟩:=eb.rd g;obtain⟨_,ma,ka,qa,dda⟩:=e9 I.hok ra;obtain⟨_,mb,kb,qb,ddb⟩:=e9 I.hok rb;have hlen:ka.length=kb.length:=by rw[←qa.length,←qb.length,da.len,db.len,hl]
    refine PySem.W.keq_ne ma mb dda ddb (by (clear hl hlen;lia)) (λ_=>lU (A:=X.A.in1) (by show X.A.units+1+20<cLine;(clear hl hlen;lia)) I g db qb da qa hv) ?_;rw[hlen,beq_self_eq_true,Bool.true_and];exact⟨.bl _,H,I,rfl,hQ _ H _ G (aP.refl H) (.bl _) g h⟩
 ·exact zg hr π s σ H x y v u Q I rx ry ⟨wx,wy,G,q,r1,r2,g,h,hQ⟩
structure FN (ws:List W) (x:W) (j:Nat):Prop where
 hit:∃w,ws[j]?=some w/\w.eq x=true
 no:∀m w,m<j->ws[m]?=some w->w.eq x=false
end
section
variable {prog:Program} {w:World} {A:Around} {R:Result->Shared->Prop} {I:Addr} {fp wr:List Addr} {Gn:Array GenState->Array GenState->Prop} {n:Nat} {P:Nat->Value->Prop} {St:Nat->Shared->Prop}
end
section
variable {prog:Program} {w:World} {A:Around} {E:Value->Shared->Prop} {s:Shared}
set_option maxHeartbeats 3200000 in
end
section
variable {X:Cx}
end
section
variable {X:Cx} {π:List (Addr×Obj)} {σ:St} {H:Hp} {s:Shared}
theorem nk {xs:Array Value} {sl:Array (Option Value)} {h:Heap} {g:_} {d:_} {t:Nat} {os:_} {Q:Option Value->Shared->Prop}
 (hx:h.get? a=some { cls:= .type "list",dict:=none,data:= .seq xs k,slots:=sl }) (hA:A.handled=none)
 (hq:∀(h':Heap) (tk:Nat),(∀(b:Addr) (o:Obj),h.get? b=some o->h'.get? b=some o)->Q none ⟨h',g,d,tk,os⟩):
 wpAny (model prog w) A (getAttr? (.ref a) "keys") Q E ⟨h,g,d,t,os⟩:=by
 unfold getAttr? getAttrBy?;have hT:∀t,(Shared.mk h g d t os).TypeIs (.ref a) "list":=λt=>⟨_,hx,rfl⟩;have f1:=PySem.sub_AttributeError;have f3:=PySem.F.slot_list_getattribute.lookup;have f4:=PySem.F.slot_list_getattribute.bind (Value.ref a);have f5:=PySem.am_list_getattr_none;refine wax ?_;unfold mkText;refine wax (wpAny_fresh' (way ?_));refine wax (wpAny_attempt ?_);unfold getAttrBy;refine wpAny_holding ?_;refine wax ?_;unfold typeOf;refine wax (wpAny_loadPart' hx (way ?_));refine wax (wpAny_of_eq f3 ?_);refine wpAny_ite_false (by rfl) ?_;unfold getAttrByItsOwn;refine wax ?_;unfold hookBefore;refine wpAny_ite_false (by rfl) (way ?_);refine wax (wpAny_attempt ?_);refine wpAny_holding ?_;unfold callGetattribute;refine wpAny_ite_false (by rfl) ?_;refine wax (wpAny_of_eq f4 ?_);refine call_meets PySem.F.slot_list_getattribute (hT _) PySem.am_entry_list_getattribute (PySem.F.args_list_getattribute_2 _ _) (PySem.meets_getattribute_miss_list a xs k sl "keys" t (by rfl) (by decide)) ⟨hx,?_⟩;refine⟨hA,λh' tk e hx'=>?_⟩;have te:(Shared.mk h' g d tk os).TypeIs (.ref e) "AttributeError":=by
  obtain⟨t1,u1,e1⟩:=hx'.there;exact⟨_,e1,rfl⟩
 show wpAny _ _ (getattributeRaised _ _ _ _ _ _ _) _ _ _;unfold getattributeRaised;refine wax (wpAny_isInstance te f1 ?_);refine wpAny_ite_true (by rfl) ?_;unfold hookBehind hookOrError;refine wax (wpAny_ite_false (by rfl) (wpAny_of_eq f5 ?_));show wpAny _ _ (attributeErrorLeaves _ _ _ _ _) _ _ _;unfold attributeErrorLeaves
 repeat (any_goals (first | assumption | wp_step))
 exact hq h' tk hx'.keeps
set_option maxHeartbeats 4000000 in
theorem iJ:entryFor table "dict.update.loop"=some Builtin.«dict.update.loop»:=by rfl
theorem nl {prog:Program} {w:World} {A:Around} (hA:A.handled=none) {d it l:Addr} (hdi:d≠it) (hdl:d≠l) (hil:it≠l) {items:Array Value} {R:Result->Shared->Prop}:
 ∀(ps:List (aR×Value)) (i:Nat) (s:Shared) (kvs:List (aR×Value)) (tok:Tok),i+ps.length=items.size->s.heap.IsListIter it l i->s.heap.IsList l items->s.heap.DictOf (aZ prog w) d kvs->
 (∀(j:Nat) (p:aR×Value),ps[j]?=some p->∃t k,items[i+j]?=some (.ref t)/\t≠d/\t≠it/\s.heap.IsTuple t #[k,p.2]/\(aZ prog w).is p.1 k=true)->
 kvs.length+ps.length<=sizeLine->
 (∀(h':Heap) (tk:Nat),(∀(b:Addr) (o:Obj),b≠d->b≠it->s.heap.get? b=some o->h'.get? b=some o)->h'.DictOf (aZ prog w) d (ps.foldl (λkvs p=>stored kvs p.1 p.2) kvs)->R (.ok (.ret .none)) ⟨h',s.gens,s.drawn,tk,s.os⟩)->
 codeAny (model prog w) A (.builtin "dict.update.loop" ⟨[.ref d,.ref it,.int (i:Int) tok,.none],[]⟩) R s
 | [],i,s,kvs,tok,hn,hi,hl,hd,hp,hz,hR=>by
   refine codeAny_builtin iJ ?_;unfold Builtin.«dict.update.loop»;dsimp only;refine wax (wpAny_pyNext_list_end (by exact hA) hi hl (by simp at hn ⊢;(clear hz;lia)) λh' eb=>?_);dsimp only;refine wax ?_;unfold Builtin.Dict.addKeywords;refine wax (way (way (way ?_)));refine hR h' s.toks (λb o _ hb e=>eb b o hb e) ?_;obtain⟨o,es,ep,e,c⟩:=hd;exact⟨o,es,ep,eb d o hdi e,c⟩
 | p::ps,i,s,kvs,tok,hn,hi,hl,hd,hp,hz,hR=>by
   refine codeAny_builtin iJ ?_;unfold Builtin.«dict.update.loop»;dsimp only;obtain⟨t,k,e1,td,ti,e2,e3⟩:=hp 0 p rfl;refine wax (wpAny_pyNext_list_item hi hl e1 λh' hi' sb=>?_);dsimp only;refine wax (wpAny_holding ?_);refine wax ?_;refine wpAny_tryCatch ?_;obtain⟨o,g1,g2,n,g3⟩:=e2;have g1':h'.get? t=some o:=(sb.2 t ti).trans g1;unfold Builtin.Dict.pairItems;refine wax (wpAny_typeOf (T:="tuple") ⟨o,g1',g2⟩ ?_);refine wpAny_ite_true (by rfl) ?_;refine wax (wpAny_seqItems g1' g3 (way ?_));show wpAny _ _ (holding [k,p.2] (dictSet d k p.2)) _ _ _;have hz':kvs.length+(ps.length+1)<=sizeLine:=hz;refine wpAny_holding (wpAny_dictSet_pairs e3 (hd.sameBut sb hdi) (λh2 hd2 sb2=>way ⟨PySem.Code.quiet_builtin _ (by decide+kernel),?_⟩) (by (clear hn e1 hz';lia)));have k2:∀b,b≠d->b≠it->h2.get? b=s.heap.get? b:=λb h1 h2=>(sb2.2 b h1).trans (sb.2 b h2);have hn':i+(ps.length+1)=items.size:=hn;refine nl (items:=items) hA hdi hdl hil ps (i+1) ⟨h2,s.gens,s.drawn,s.toks+1,s.os⟩ (stored kvs p.1 p.2) 0 (by (clear hz e1 hz';lia)) ?_ ?_ hd2 (λj q hq=>?_) ?_ λh3 tk kp hd3=>?_
   ·obtain⟨o1,e1,c1⟩:=hi';exact⟨o1,(sb2.2 it hdi.symm).trans e1,c1⟩
   ·obtain⟨o1,e1,c1⟩:=hl;exact⟨o1,(k2 l hdl.symm hil.symm).trans e1,c1⟩
   ·obtain⟨t',k',a1,a2,a3,⟨o1,a4,a5⟩,a6⟩:=hp (j+1) q hq;exact⟨t',k',by rw[show i+1+j=i+(j+1) by (clear hn hz e1 hz' hn' hq a1;lia)];exact a1,a2,a3,⟨o1,(k2 t' a2 a3).trans a4,a5⟩,a6⟩
   ·have:=PySem.stored_length_le kvs p.1 p.2;show(stored kvs p.1 p.2).length+ps.length<=sizeLine
    (clear hn hz e1 hn';lia)
   ·exact hR h3 tk (λb o h1 h2 e=>kp b o h1 h2 ((k2 b h1 h2).trans e)) hd3
theorem o0 (hA:A.handled=none) (hb:sysModules<s.heap.objs.size) {l:Addr} {n:Nat} {sl:Array (Option Value)} {ps:List (aR×Value)}
 (hl:s.heap.get? l=some { cls:= .type "list",dict:=none,data:= .seq items n,slots:=sl }) (hn:ps.length=items.size) (hz:ps.length<=sizeLine)
 (hp:∀(j:Nat) (p:aR×Value),ps[j]?=some p->∃t k,items[j]?=some (.ref t)/\s.heap.IsTuple t #[k,p.2]/\(aZ prog w).is p.1 k=true)
 (hQ:∀(h':Heap) (tk:Nat),(∀(b:Addr) (o:Obj),s.heap.get? b=some o->h'.get? b=some o)->h'.DictOf (aZ prog w) s.heap.objs.size (ps.foldl (λkvs p=>stored kvs p.1 p.2) [])->Q (.ref s.heap.objs.size) ⟨h',s.gens,s.drawn,tk,s.os⟩):
 wpAny (model prog w) A (call (.type "dict") [.ref l]) Q E s:=by
 refine callType_codes PySem.F.kt_called_dict (PySem.F.kt_typeCall_dict_1 (.ref l)) PySem.F.entry_dict_init (kt_code_dict_new (.ref l) (Q₁:=λobj s₁=>obj=.ref s.heap.objs.size/\s₁={ s with heap:=s.heap.push { cls:= .type "dict",data:= .dict #[] } }) ⟨rfl,rfl⟩) λobj s₁ a=>?_;obtain⟨rfl,rfl⟩:=a;have hnew:=PySem.Heap.DictOf.new (knd:=aZ prog w) s.heap;have hpu:∀b o,s.heap.get? b=some o->(s.heap.push { cls:= .type "dict",data:= .dict #[] }).get? b=some o:=λb o e=>Heap.get?_push_of_some _ e;refine⟨PySem.Heap.DictOf.typeIs hnew,PySem.F.args_dict_init_2 _ _,?_⟩;unfold Builtin.«dict.__init__»;refine wax ?_;unfold Builtin.Dict.selfAndRest;refine wax (wpAny_notOrdered_dict (PySem.Heap.DictOf.typeIs hnew) (way ?_));show wpAny _ _ (Builtin.Dict.updateFrom "dict.__init__" s.heap.objs.size (.ref l) [] .none) _ _ _;unfold Builtin.Dict.updateFrom;refine wax (wpAny_typeOf (T:="list") ⟨_,hpu _ _ hl,rfl⟩ ?_);refine wpAny_ite_true (by rfl) ?_;refine wax (nk (hpu _ _ hl) (by exact hA) λh1 tk k1=>?_);refine wpAny_ite_true (by rfl) ?_;refine wax (wpAny_rule ?_);have hl1:=k1 _ _ (hpu _ _ hl);refine wax (wpAny_pyIter_list (items:=items) ⟨_,hl1,rfl,n,rfl⟩ ?_);obtain⟨od,es,ep,ed,hnew'⟩:=hnew;have ed1:=k1 _ _ ed;have d1:=Heap.lt_size ed1;have l0:=Heap.lt_size hl;have l1:=Heap.lt_size hl1;have kk:∀b o,s.heap.get? b=some o->(h1.push { cls:= .type "list_iterator",data:= .fields #[.ref l,.int 0 0] }).get? b=some o:=λb o e=>Heap.get?_push_of_some _ (k1 _ _ (hpu _ _ e));refine way ⟨PySem.Code.quiet_builtin _ (by decide+kernel),nl (A:=A.in1) (items:=items) (l:=l) hA (ne_of_lt d1) (Nat.ne_of_gt l0) (Nat.ne_of_gt l1) ps 0 _ [] 0 (by (clear hb hz d1 l0 l1;lia)) ⟨_,Heap.get?_push_size _ rfl,rfl,rfl⟩ ⟨_,kk _ _ hl,rfl,n,rfl⟩ ⟨od,es,ep,Heap.get?_push_of_some _ ed1,hnew'⟩ (λj p hj=>?_) (by simpa using hz) λh' tk' kp hd'=>⟨rfl,hQ h' tk' (λb o e=>kp b o (ne_of_lt (Heap.lt_size e)) (ne_of_lt (Heap.lt_size (k1 _ _ (hpu _ _ e)))) (kk b o e)) hd'⟩⟩;obtain⟨t,k,e1,⟨o,e2,e3⟩,e4⟩:=hp j p hj;exact⟨t,k,by rw[Nat.zero_add];exact e1,ne_of_lt (Heap.lt_size e2),ne_of_lt (Heap.lt_size (k1 _ _ (hpu _ _ e2))),⟨o,kk _ _ e2,e3⟩,e4⟩
inductive Ae (G:Gp) (a:Addr) (kvs:List (aR×W)):Prop where
 | dic (h:GD G a kvs):Ae G a kvs
 | lst {ps:List (aR×W)} (h:G a=some (.lst (ps.map λp=> .tup [kW p.1,p.2]))) (e:kvs=ps.foldl (λa p=>cT a p.1 p.2) []):Ae G a kvs
noncomputable def Af:List W->Gp->WK->Prop:=λws G q=>match ws with
 | [.ref a]=>∃kvs,Ae G a kvs/\∀p,G p=none->q (.ref p) (aL G p (.dic kvs))
 | _=>False
theorem nq:∀(ps:List (aR×W)) (kvs:List (aR×W)),(ps.foldl (λa p=>cT a p.1 p.2) kvs).length<=kvs.length+ps.length
 | [],kvs=>le_refl _
 | p::ps,kvs=>by
   have h1:=nq ps (cT kvs p.1 p.2);have h2:=dC kvs p.1 p.2;simp only[foldl_cons,length_cons];lia
theorem qg:∀{qs:List (aR×V)} {ps:List (aR×Value)},KV qs ps->∀{kvs:List (aR×V)} {vs:List (aR×Value)},KV kvs vs->KV (qs.foldl (λa p=>hJ a p.1 p.2) kvs) (ps.foldl (λa p=>stored a p.1 p.2) vs)
 | _,_,.nil,_,_,h=>h
 | q::qs,p::ps,.cons r t,_,_,h=>qg (qs:=qs) (ps:=ps) t (by show KV (hJ _ q.1 q.2) (stored _ p.1 p.2);rw[show p.1=q.1 from r.1.symm];exact h.put q.1 r.2)
theorem qh {K:PySem.W.Frag}:∀{ps:List (aR×W)} {qs:List (aR×V)},DP K H ps qs->∀{kvs:List (aR×W)} {us:List (aR×V)},DP K H kvs us->DP K H (ps.foldl (λa p=>cT a p.1 p.2) kvs) (qs.foldl (λa p=>hJ a p.1 p.2) us)
 | _,_,.nil,_,_,h=>h
 | _,_,.cons r t,_,_,h=>qh t (h.put _ r)
theorem wV {k:aR} {v:V} (r:bK K H (kW k) v):v=kV k:=by
 cases k with
 | inl i=>cases r;rfl
 | inr z=>cases r;rfl
theorem nr (I:aC X π σ H s):∀{ps:List (aR×W)} {xs:List V} {its:List Value},aV X.K H (ps.map λp=> .tup [kW p.1,p.2]) xs->aX xs its->
 ∃(qs:List (aR×V)) (vs:List (aR×Value)),DP X.K H ps qs/\KV qs vs/\vs.length=its.length/\∀(j:Nat) (p:aR×Value),vs[j]?=some p->∃t k,its[j]?=some (.ref t)/\s.heap.IsTuple t #[k,p.2]/\(aZ X.prog X.w).is p.1 k=true
 | [],_,_,.nil,.nil=>⟨[],[],.nil,.nil,rfl,λj p h=>by cases h⟩
 | (k,w)::ps,_,[],.cons r rs,z=>by cases z
 | (k,w)::ps,_,u::its,.cons r rs,.cons v vs=>by
   obtain⟨qs,ys,h1,h2,h3,h4⟩:=nr I rs vs;cases r with
   | @tup t _ zs hT rr=>
     cases (show u=Value.ref t from v);obtain⟨its2,rv,hp,_⟩:=I.tuple (cO.of hT);cases rr with
     | cons r1 rr=>
       cases rr with
       | cons r2 rr=>
         cases rr;obtain⟨u1,u2,rfl,ru1,ru2⟩:=oC rv;rw[wV r1] at ru1;refine⟨_,(k,u2)::ys,.cons r2 h1,.cons ⟨rfl,ru2⟩ h2,by simp[h3],λj p hj=>?_⟩;cases j with
         | zero=>
           cases hj;exact⟨t,u1,rfl,hp,mJ (P:=X.prog) (w:=X.w) ru1⟩
         | succ j=>exact h4 j p hj
theorem yd (hc:X.calm=true):dM X (.type "dict") Af:=by
 rintro π s σ H xs us Q I r ⟨ws,G,q,rw',g,h,hQ⟩;unfold Af at h;split at h
 ·rename_i a;obtain⟨kvs,hs,h⟩:=h;obtain⟨v,rfl,r1⟩:=rw'.one;cases r1;obtain⟨u,rfl,ru⟩:=eU r;cases ru;have hp:=I.hok.fresh (le_refl s.heap.objs.size);cases hs with
  | dic hd=>
    obtain⟨hl,us,rd,dp⟩:=hd.rd g;obtain⟨zl,hm,vs,rel,dd⟩:=e9 I.hok rd;refine kt_call_dict hm dd (by rw[←rel.length];exact zl) λh' hd' sb=>?_;refine⟨.ref s.heap.objs.size,_,I.laid (t':=s.toks) (λb o q=>(sb.2 b (ne_of_lt (Heap.lt_size q))).trans (Heap.get?_push_of_some _ q)) (le_refl _) (show bB X.prog X.w _ h' _ (.dK us) from ⟨zl,beq_eq_false_iff_ne.mpr (Ne.symm (ne_of_lt I.big)),vs,rel,hd'⟩),rfl,?_⟩;exact hQ _ _ _ _ (aP.new hp _) (.ref _) (g.lay (g:= .dic kvs) (aP.new hp _) ⟨hl,us,bg,dp.keys,(dp.mono (aP.new hp _)).vals⟩) (h _ (g.fresh hp))
  | @lst ps e ek=>
    subst ek;obtain⟨hl,xs,eH,rr⟩:=g a _ e;obtain⟨zl,its,c,rv,eo⟩:=I.hok a _ eH;obtain⟨qs,vs,dp,kv,hn,ht⟩:=nr I rr rv;have hll:ps.length<=100000:=by simpa using hl
    have hqs:=dp.len;have hvs:=kv.length;have fl:=nq ps [];have fd:=qh dp (H:=H) (K:=X.K) .nil;have fk:=qg kv (kvs:=[]) (vs:=[]) .nil;have hz:(qs.foldl (λa p=>hJ a p.1 p.2) []).length<=sizeLine:=by
     rw[fd.len];exact bN (by simp only[length_nil] at fl;(clear hl zl hn hvs;lia))
    refine o0 (I.ok.hd hc) I.big eo (by rw[hn];simp) (bN (by (clear hl zl fl hz;lia))) (λj p hj=>?_) λh' tk kp hd'=>?_
    ·obtain⟨t,k,e1,e2,e3⟩:=ht j p hj;exact⟨t,k,by simpa using e1,e2,e3⟩
    ·refine⟨.ref s.heap.objs.size,_,I.laid (t':=tk) kp (le_refl _) (show bB X.prog X.w _ h' _ (.dK (qs.foldl (λa p=>hJ a p.1 p.2) [])) from ⟨hz,beq_eq_false_iff_ne.mpr (Ne.symm (ne_of_lt I.big)),_,fk,hd'⟩),rfl,?_⟩;exact hQ _ _ _ _ (aP.new hp _) (.ref _) (g.lay (g:= .dic (ps.foldl (λa p=>cT a p.1 p.2) [])) (aP.new hp _) ⟨by simp only[length_nil] at fl;(clear hl zl hn hvs hz;lia),_,bg,fd.keys,(fd.mono (aP.new hp _)).vals⟩) (h _ (g.fresh hp))
 ·exact h.elim
end
section
variable {prog:Program} {w:World} {A:Around} {s:Shared}
noncomputable def jK (prog:Program) (w:World) (A:Around) (s:Shared) (u v:Value):Prop:=∀(E:Value->Shared->Prop) (Q:Bool->Shared->Prop),Q true s->wpAny (model prog w) A (eqBool u v) Q E s
theorem jK.of {u v:Value} (h:SeqAt.EqAt A s u v true):jK prog w A s u v:=λE Q q=>h prog w E Q q
theorem jK.refs {l b:Addr} (h:l≠b->∀(E:Value->Shared->Prop) (Q:Value->Shared->Prop),Q (.bool true) s->wpAny (model prog w) A (richCompare .Eq (.ref l) (.ref b)) Q E s):jK prog w A s (.ref l) (.ref b):=by
 by_cases hne:l=b
 ·subst hne;exact .of (SeqAt.EqAt.same _)
 ·exact λE Q q=>wpAny_holding (wpAny_ite_split (λhab=>absurd (by have:=eq_of_beq hab;injection this) hne) λ_=>wax (h hne E _ (wpAny_truthy_bool q)))
theorem wW {l b:Addr} {x1 x2 y1 y2:Value} (hl:s.heap.IsTuple l #[x1,x2]) (hb:s.heap.IsTuple b #[y1,y2]) (hu:A.units<cLine) (h1:jK prog w A.in1 s x1 y1) (h2:jK prog w A.in1 s x2 y2) (E:Value->Shared->Prop) (Q:Value->Shared->Prop) (q:Q (.bool true) s):
 wpAny (model prog w) A (richCompare .Eq (.ref l) (.ref b)) Q E s:=by
 obtain⟨o1,e1,c1,n1,d1⟩:=id hl;obtain⟨o2,e2,c2,n2,d2⟩:=id hb;refine wpAny_richCompare_same_room (T:="tuple") ⟨o1,e1,c1⟩ ⟨o2,e2,c2⟩ PySem.F.slot_tuple_eq (wpAny_call_entry PySem.F.slot_tuple_eq ⟨o1,e1,c1⟩ PySem.F.entry_tuple_eq ?_ (PySem.F.args_tuple_eq_2 _ _)) hu;unfold Builtin.«tuple.__eq__»
 k_delta "compare"
 refine wax ?_;unfold slotArgs;refine wpAny_ite_false (by rfl) (wpAny_ite_false (by rfl) (way ?_));dsimp only;refine wax (wpAny_isInstance (T:="tuple") (b:=true) ⟨o2,e2,c2⟩ (by rfl) ?_);refine wpAny_ite_false (by rfl) ?_;refine wax (wpAny_tupleItemsOf e1 d1 ?_);refine wax (wpAny_tupleItemsOf e2 d2 ?_);rw[show(#[x1,x2]:Array Value).toList.zip (#[y1,y2]:Array Value).toList=[(x1,y1),(x2,y2)] from rfl];simp only[List.forIn_cons,List.forIn_nil];refine wax (wax (wax (h1 _ _ ?_)));refine wpAny_ite_false (by rfl) (way ?_);dsimp only;refine wax (wax (h2 _ _ ?_));refine wpAny_ite_false (by rfl) (way ?_);refine way ?_;dsimp only;exact way ⟨.bool true,rfl,(λz=>nomatch z),q⟩
theorem lV {c:Int} {r:Bool} (hc:(c=2/\r=true)∨(c=3/\r=false)) {l b:Addr} {items items2:Array Value} {o1 o2:Obj} {n1 n2:Nat} (e1:s.heap.get? l=some o1) (d1:o1.data=.seq items n1) (e2:s.heap.get? b=some o2) (d2:o2.data=.seq items2 n2) (hz:items.size=items2.size) {R:Result->Shared->Prop}
 (he:∀(j:Nat) (u v:Value),items[j]?=some u->items2[j]?=some v->jK prog w A.in1 s u v) (hR:R (.ok (.ret (.bool r))) s):
 ∀(m i:Nat) (t t':Tok),i+m=items.size->codeAny (model prog w) A (.builtin "list.__eq__.loop" ⟨[.ref l,.ref b,.int (i:Int) t,.int c t'],[]⟩) R s
 | 0,i,t,t',hi=>by
   refine codeAny_builtin PySem.MeetsSeq3.entry_eq_loop ?_;have n1:items[i]?=none:=by simp;(clear hc;lia)
   unfold Builtin.«list.__eq__.loop»
   k_delta "cmpOps"
   rcases hc with⟨rfl,rfl⟩ | ⟨rfl,rfl⟩
   ·dsimp only;rw[show(([CmpOp.Lt,CmpOp.LtE,CmpOp.Eq,CmpOp.NotEq,CmpOp.Gt,CmpOp.GtE]:List CmpOp)[Int.toNat 2]?)=some CmpOp.Eq from rfl];refine wax (wpAny_listItems e1 d1 (wax (wpAny_listItems e2 d2 ?_)));rw[Int.toNat_natCast,n1];refine wax (wpAny_listItems e1 d1 (wax (wpAny_listItems e2 d2 ?_)));refine way ?_;show R (Except.ok (Flow.ret (Value.bool (items.size==items2.size)))) s;rw[hz,beq_self_eq_true];exact hR
   ·dsimp only;rw[show(([CmpOp.Lt,CmpOp.LtE,CmpOp.Eq,CmpOp.NotEq,CmpOp.Gt,CmpOp.GtE]:List CmpOp)[Int.toNat 3]?)=some CmpOp.NotEq from rfl];refine wax (wpAny_listItems e1 d1 (wax (wpAny_listItems e2 d2 ?_)));rw[Int.toNat_natCast,n1];refine wax (wpAny_listItems e1 d1 (wax (wpAny_listItems e2 d2 ?_)));refine way ?_;show R (Except.ok (Flow.ret (Value.bool (items.size !=items2.size)))) s;rw[hz,bne_self_eq_false];exact hR
 | m+1,i,t,t',hi=>by
   have ih:=lV hc e1 d1 e2 d2 hz he hR m (i+1) 0 0 (by (clear hc;lia));refine codeAny_builtin PySem.MeetsSeq3.entry_eq_loop ?_;have l1:i<items.size:=by (clear hc;lia)
   have n1:items[i]?=some items[i]:=by simp
   have n2:items2[i]?=some (items2[i]'(by (clear hc l1 n1;lia))):=by simp
   unfold Builtin.«list.__eq__.loop»
   k_delta "cmpOps"
   rcases hc with⟨rfl,rfl⟩ | ⟨rfl,rfl⟩
   ·dsimp only;rw[show(([CmpOp.Lt,CmpOp.LtE,CmpOp.Eq,CmpOp.NotEq,CmpOp.Gt,CmpOp.GtE]:List CmpOp)[Int.toNat 2]?)=some CmpOp.Eq from rfl];refine wax (wpAny_listItems e1 d1 (wax (wpAny_listItems e2 d2 ?_)));rw[Int.toNat_natCast,n1,n2];refine wax (he i _ _ n1 n2 _ _ ?_);refine wpAny_ite_true (by rfl) ?_;exact way ⟨PySem.plainId_quiet PySem.MeetsSeq3.plain_eq_loop _,ih⟩
   ·dsimp only;rw[show(([CmpOp.Lt,CmpOp.LtE,CmpOp.Eq,CmpOp.NotEq,CmpOp.Gt,CmpOp.GtE]:List CmpOp)[Int.toNat 3]?)=some CmpOp.NotEq from rfl];refine wax (wpAny_listItems e1 d1 (wax (wpAny_listItems e2 d2 ?_)));rw[Int.toNat_natCast,n1,n2];refine wax (he i _ _ n1 n2 _ _ ?_);refine wpAny_ite_true (by rfl) ?_;exact way ⟨PySem.plainId_quiet PySem.MeetsSeq3.plain_eq_loop _,ih⟩
theorem wX {op:CmpOp} {r:Bool} (hop:(op=.Eq/\r=true)∨(op=.NotEq/\r=false)) {l b:Addr} {items items2:Array Value} (hl:s.heap.IsList l items) (hb:s.heap.IsList b items2) (hz:items.size=items2.size) (hu:A.units<cLine)
 (he:∀(j:Nat) (u v:Value),items[j]?=some u->items2[j]?=some v->jK prog w A.in1 s u v) (E:Value->Shared->Prop) (Q:Value->Shared->Prop) (q:Q (.bool r) s):
 wpAny (model prog w) A (richCompare op (.ref l) (.ref b)) Q E s:=by
 obtain⟨o1,e1,c1,n1,d1⟩:=id hl;obtain⟨o2,e2,c2,n2,d2⟩:=id hb;rcases hop with⟨rfl,rfl⟩ | ⟨rfl,rfl⟩
 ·refine wpAny_richCompare_same_room (T:="list") ⟨o1,e1,c1⟩ ⟨o2,e2,c2⟩ PySem.F.slot_list_eq (call_meetsIn PySem.F.slot_list_eq ⟨o1,e1,c1⟩ PySem.F.entry_list_eq (PySem.F.args_list_eq_2 _ _) (S:=λA' R s'=>A'=A/\s'=s/\R (.ok (.ret (.bool true))) s) ?_ ⟨rfl,rfl,(λz=>nomatch z),q⟩) hu;rintro A' R s' ⟨rfl,rfl,hR⟩;unfold Builtin.«list.__eq__»
  k_delta "listCompare"
  refine wax ?_;unfold slotArgs;refine wpAny_ite_false (by rfl) (wpAny_ite_false (by rfl) (way ?_));dsimp only;refine wax (wpAny_isInstance (T:="list") (b:=true) ⟨o2,e2,c2⟩ PySem.AutoSeq1.sub_list_list ?_);refine wpAny_ite_false (by rfl) ?_;refine wpAny_ite_true (by rfl) ?_;refine wax (wpAny_listItems e1 d1 (wax (wpAny_listItems e2 d2 ?_)));refine wpAny_ite_false (by rw[hz,bne_self_eq_false];rfl) ?_;exact way ⟨PySem.plainId_quiet PySem.MeetsSeq3.plain_eq_loop _,lV (.inl ⟨rfl,rfl⟩) e1 d1 e2 d2 hz he hR items.size 0 0 0 (by (clear hz hu;lia))⟩
 ·refine wpAny_richCompare_same_room (T:="list") ⟨o1,e1,c1⟩ ⟨o2,e2,c2⟩ PySem.F.slot_list_ne (call_meetsIn PySem.F.slot_list_ne ⟨o1,e1,c1⟩ PySem.F.entry_list_ne (PySem.F.args_list_ne_2 _ _) (S:=λA' R s'=>A'=A/\s'=s/\R (.ok (.ret (.bool false))) s) ?_ ⟨rfl,rfl,(λz=>nomatch z),q⟩) hu;rintro A' R s' ⟨rfl,rfl,hR⟩;unfold Builtin.«list.__ne__»
  k_delta "listCompare"
  refine wax ?_;unfold slotArgs;refine wpAny_ite_false (by rfl) (wpAny_ite_false (by rfl) (way ?_));dsimp only;refine wax (wpAny_isInstance (T:="list") (b:=true) ⟨o2,e2,c2⟩ PySem.AutoSeq1.sub_list_list ?_);refine wpAny_ite_false (by rfl) ?_;refine wpAny_ite_true (by rfl) ?_;refine wax (wpAny_listItems e1 d1 (wax (wpAny_listItems e2 d2 ?_)));refine wpAny_ite_false (by rw[hz,bne_self_eq_false];rfl) ?_;exact way ⟨PySem.plainId_quiet PySem.MeetsSeq3.plain_eq_loop _,lV (.inr ⟨rfl,rfl⟩) e1 d1 e2 d2 hz he hR items.size 0 0 0 (by (clear hz hu;lia))⟩
end
section
variable {X:Cx} {π:List (Addr×Obj)} {σ:St} {H:Hp} {s:Shared}
inductive gR (G:Gp):Nat->W->W->Prop where
 | flat {n:Nat} {x y:W} (f1:x.flat=true) (f2:y.flat=true) (hd:x.dep<=140) (he:x.eq y=true):gR G n x y
 | same {n:Nat} {a:Addr}:gR G n (.ref a) (.ref a)
 | dic {n:Nat} {a b:Addr} {kvs us:List (aR×W)} (ea:GD G a kvs) (eb:GD G b us) (hl:kvs.length=us.length) (hv:∀p,p∈kvs->∃w',dH us p.1=some w'/\jJ G p.2 w'):gR G n (.ref a) (.ref b)
 | pair {n:Nat} {x1 x2 y1 y2:W} (h1:gR G n x1 y1) (h2:gR G n x2 y2):gR G (n+1) (.tup [x1,x2]) (.tup [y1,y2])
theorem qZ {G:Gp} (I:aC X π σ H s) (g:aM X.K H G) {n:Nat} {w1 w2:W} (h:gR G n w1 w2):∀{A:Around} {v1 v2:V} {u1 u2:Value},A.units+n+160<cLine->bK X.K H w1 v1->bK X.K H w2 v2->bf v1 u1->bf v2 u2->jK X.prog X.w A s u1 u2:=by
 induction h with
 | @flat n x y f1 f2 hd he=>
   intro A v1 v2 u1 u2 hu r1 r2 q1 q2;have:=(ib I 150 A (w1:=x) (w2:=y) (by (clear hu;lia)) f1 f2 (by (clear hd;lia)) r1 r2 q1 q2).1;rw[he] at this;exact .of this
 | same=>
   intro A v1 v2 u1 u2 hu r1 r2 q1 q2;cases r1;cases r2;cases q1;cases q2;exact .of (SeqAt.EqAt.same _)
 | @dic n a b kvs us ea eb hl hv=>
   intro A v1 v2 u1 u2 hu r1 r2 q1 q2;cases r1;cases r2;cases q1;cases q2;obtain⟨_,ua,ra,da⟩:=ea.rd g;obtain⟨_,ub,rb,db⟩:=eb.rd g;obtain⟨_,ma,ka,qa,dda⟩:=e9 I.hok ra;obtain⟨_,mb,kb,qb,ddb⟩:=e9 I.hok rb;have hlen:ka.length=kb.length:=by rw[←qa.length,←qb.length,da.len,db.len,hl]
   refine jK.refs λhne E Q q=>?_;refine PySem.W.keq_eq ma mb dda ddb (by (clear hl hlen;lia)) (λ_=>lU (A:=A.in1) (by show A.units+1+20<cLine;(clear hl hlen;lia)) I g db qb da qa hv) ?_;rw[hlen,beq_self_eq_true,Bool.true_and];exact q
 | @pair n x1 x2 y1 y2 h1 h2 ih1 ih2=>
   intro A v1 v2 u1 u2 hu r1 r2 q1 q2;cases r1 with
   | @tup a _ xs hT rr=>
     cases r2 with
     | @tup b _ ys hT2 rr2=>
       cases (show u1=Value.ref a from q1);cases (show u2=Value.ref b from q2);obtain⟨its,rv,hp,_⟩:=I.tuple (cO.of hT);obtain⟨its2,rv2,hp2,_⟩:=I.tuple (cO.of hT2);cases rr with
       | cons a1 rr=>
         cases rr with
         | cons a2 rr=>
           cases rr;cases rr2 with
           | cons b1 rr2=>
             cases rr2 with
             | cons b2 rr2=>
               cases rr2;obtain⟨p1,p2,rfl,c1,c2⟩:=oC rv;obtain⟨t1,t2,rfl,d1,d2⟩:=oC rv2;exact jK.refs λhne E Q q=>wW hp hp2 (by lia) (ih1 (A:=A.in1) (by show A.units+1+n+160<cLine;lia) a1 b1 c1 d1) (ih2 (A:=A.in1) (by show A.units+1+n+160<cLine;lia) a2 b2 c2 d2) E Q q
inductive Ch (G:Gp) (a b:Addr):Bool->Prop where
 | old {r:Bool} (h:Cc G a b r):Ch G a b r
 | nil {ws:List W} (ea:G a=some (.lst ws)) (eb:G b=some (.lst [])):Ch G a b ws.isEmpty
 | deep {ws us:List W} (ea:G a=some (.lst ws)) (eb:G b=some (.lst us)) (hl:ws.length=us.length) (he:∀(j:Nat) (x y:W),ws[j]?=some x->us[j]?=some y->gR G 9 x y):Ch G a b true
noncomputable def Ag:W2:=λx y G q=>match x,y with
 | .ref a,.ref b=>∃r,Ch G a b r/\q (.bl r) G
 | x,y=>sy x y G q
noncomputable def Ah:W2:=λx y G q=>match x,y with
 | .ref a,.ref b=>∃r,Ch G a b r/\q (.bl (!r)) G
 | x,y=>sA x y G q
theorem i9 (hr:aw k X.A) {op:CmpOp} {r:Bool} (hop:(op=.Eq/\r=true)∨(op=.NotEq/\r=false)) {G:Gp} (I:aC X π σ H s) (g:aM X.K H G) {a b:Addr} {ws us:List W} (ea:G a=some (.lst ws)) (eb:G b=some (.lst us)) (hl:ws.length=us.length)
 (he:∀(j:Nat) (x y:W),ws[j]?=some x->us[j]?=some y->gR G 9 x y) (E:Value->Shared->Prop) (Q:Value->Shared->Prop) (q:Q (.bool r) s):wpAny (model X.prog X.w) X.A (richCompare op (.ref a) (.ref b)) Q E s:=by
 have hu:=hr.un;obtain⟨_,xs,e1,ra⟩:=g _ _ ea;obtain⟨_,ys,e2,rb⟩:=g _ _ eb;obtain⟨its,rv,p,_⟩:=I.list (cU.of e1);obtain⟨its2,rv2,p2,_⟩:=I.list (cU.of e2);have l1:its.length=ws.length:=by rw[←rv.length,ra.length]
 have l2:its2.length=us.length:=by rw[←rv2.length,rb.length]
 refine wX hop p.isList p2.isList (by rw[size_toArray,size_toArray,l1,l2,hl]) (by (clear hl l1 l2;lia)) (λj u v hj hv=>?_) E Q q;rw[List.getElem?_toArray] at hj hv;have j1:j<ws.length:=by
  rw[←l1];exact(List.getElem?_eq_some_iff.mp hj).1
 have gw:=List.getElem?_eq_getElem j1;have gu:=List.getElem?_eq_getElem (show j<us.length by (clear hu hj hv gw;lia));obtain⟨x,hx,rx⟩:=ra.get gw;obtain⟨y,hy,ry⟩:=rb.get gu;obtain⟨u',hu',qu⟩:=rv.get hx;obtain⟨v',hv',qv⟩:=rv2.get hy;rw[hj] at hu';rw[hv] at hv';cases hu';cases hv';exact qZ I g (he j _ _ gw gu) (A:=X.A.in1) (by show X.A.units+1+9+160<cLine;lia) rx ry qu qv
theorem uh (hr:aw k X.A) {G:Gp} (I:aC X π σ H s) (g:aM X.K H G) {a b:Addr} {x:W} {ws:List W} (ea:G a=some (.lst (x::ws))) (eb:G b=some (.lst [])) (E:Value->Shared->Prop) (Q:Value->Shared->Prop):
 (Q (.bool false) s->wpAny (model X.prog X.w) X.A (richCompare .Eq (.ref a) (.ref b)) Q E s)/\(Q (.bool true) s->wpAny (model X.prog X.w) X.A (richCompare .NotEq (.ref a) (.ref b)) Q E s):=by
 have hu:=hr.un;obtain⟨_,xs,e1,ra⟩:=g _ _ ea;obtain⟨_,ys,e2,rb⟩:=g _ _ eb;obtain⟨its,rv,p,_⟩:=I.list (cU.of e1);obtain⟨its2,rv2,p2,_⟩:=I.list (cU.of e2);have l1:its.length=(x::ws).length:=by rw[←rv.length,ra.length]
 have l2:its2.length=([]:List W).length:=by rw[←rv2.length,rb.length]
 have ne:(its.toArray.size !=its2.toArray.size)=true:=by rw[size_toArray,size_toArray,l1,l2];simp
 exact⟨λq=>SeqAt.RcAt.lists_lengths p.isList p2.isList (by simpa using ne) (A:=X.A) (by (clear l1 l2;lia)) X.prog X.w E Q q,λq=>SeqAt.RcNeAt.lists_lengths p.isList p2.isList (by simpa using ne) (A:=X.A) (by (clear l1 l2;lia)) X.prog X.w E Q q⟩
theorem bL (hr:aw k X.A):iB X (compareOp .Eq) Ag:=by
 rintro π s σ H x y v u Q I rx ry ⟨wx,wy,G,q,r1,r2,g,h,hQ⟩;unfold Ag at h;split at h
 ·rename_i a b;obtain⟨r,he,h⟩:=h;have fin:EP X π σ Q (.bool r) s:=⟨.bl _,H,I,rfl,hQ _ H _ G (aP.refl H) (.bl _) g h⟩;cases he with
  | old he=>exact Ce hr π s σ H x y v u Q I rx ry ⟨_,_,G,q,r1,r2,g,⟨r,he,h⟩,hQ⟩
  | @nil ws ea eb=>
    cases r1;cases r2;cases rx;cases ry;cases ws with
    | nil=>exact i9 hr (.inl ⟨rfl,rfl⟩) I g ea eb rfl (λj x y z=>by cases z) X.xe _ fin
    | cons x ws=>exact(uh hr I g ea eb X.xe _).1 fin
  | deep ea eb hl he=>
    cases r1;cases r2;cases rx;cases ry;exact i9 hr (.inl ⟨rfl,rfl⟩) I g ea eb hl he X.xe _ fin
 ·exact ze hr π s σ H x y v u Q I rx ry ⟨wx,wy,G,q,r1,r2,g,h,hQ⟩
theorem dQ (hr:aw k X.A):iB X (compareOp .NotEq) Ah:=by
 rintro π s σ H x y v u Q I rx ry ⟨wx,wy,G,q,r1,r2,g,h,hQ⟩;unfold Ah at h;split at h
 ·rename_i a b;obtain⟨r,he,h⟩:=h;have fin:EP X π σ Q (.bool (!r)) s:=⟨.bl _,H,I,rfl,hQ _ H _ G (aP.refl H) (.bl _) g h⟩;cases he with
  | old he=>exact Cg hr π s σ H x y v u Q I rx ry ⟨_,_,G,q,r1,r2,g,⟨r,he,h⟩,hQ⟩
  | @nil ws ea eb=>
    cases r1;cases r2;cases rx;cases ry;cases ws with
    | nil=>exact i9 hr (.inr ⟨rfl,rfl⟩) I g ea eb rfl (λj x y z=>by cases z) X.xe _ fin
    | cons x ws=>exact(uh hr I g ea eb X.xe _).2 fin
  | deep ea eb hl he=>
    cases r1;cases r2;cases rx;cases ry;exact i9 hr (.inr ⟨rfl,rfl⟩) I g ea eb hl he X.xe _ fin
 ·exact zg hr π s σ H x y v u Q I rx ry ⟨wx,wy,G,q,r1,r2,g,h,hQ⟩
end
section
variable {X:Cx} {pos:Pos}
end
section
variable {X:Cx} {tg:Expr}
end
mutual
inductive eY (h:Heap):Nat->W->Value->Prop where
 | int {d:Nat} (n:Int) (t:Tok):eY h d (.int n) (.int n t)
 | tup {d:Nat} {a:Addr} {o:Obj} {items:Array Value} {n:Nat} {ws:List W} (gO:h.get? a=some o) (hc:o.cls=.type "tuple") (dO:o.data=.seq items n) (hs:cK h d ws items.toList):eY h (d+1) (.tup ws) (.ref a)
inductive cK (h:Heap):Nat->List W->List Value->Prop where
 | nil {d:Nat}:cK h d [] []
 | cons {d:Nat} {w:W} {v:Value} {ws:List W} {vs:List Value} (r:eY h d w v) (rs:cK h d ws vs):cK h d (w::ws) (v::vs)
end
section
variable {h h':Heap}
mutual
theorem eY.inj:∀{d d':Nat} {w w':W} {v:Value},eY h d w v->eY h d' w' v->w=w'
 | _,_,_,_,_,.int n t,.int _ _=>rfl
 | _,_,_,_,_,.tup gO hc dO hs,.tup gO' hc' dO' hs'=>by
   cases gO.symm.trans gO';rw[dO] at dO';injection dO' with e1 _
   subst e1;rw[cK.inj hs hs']
theorem cK.inj:∀{d d':Nat} {ws ws':List W} {vs:List Value},cK h d ws vs->cK h d' ws' vs->ws=ws'
 | _,_,_,_,_,.nil,.nil=>rfl
 | _,_,_,_,_,.cons r rs,.cons r' rs'=>by rw[eY.inj r r',cK.inj rs rs']
end
mutual
theorem eY.keeps (k:∀a o items n,h.get? a=some o->o.data=.seq items n->h'.get? a=some o):∀{d:Nat} {w:W} {v:Value},eY h d w v->eY h' d w v
 | _,_,_,.int n t=> .int n t
 | _,_,_,.tup gO hc dO hs=> .tup (k _ _ _ _ gO dO) hc dO (cK.keeps k hs)
theorem cK.keeps (k:∀a o items n,h.get? a=some o->o.data=.seq items n->h'.get? a=some o):∀{d:Nat} {ws:List W} {vs:List Value},cK h d ws vs->cK h' d ws vs
 | _,_,_,.nil=> .nil
 | _,_,_,.cons r rs=> .cons (eY.keeps k r) (cK.keeps k rs)
end
end
section
variable (P:Program) (w:World)
mutual
noncomputable def jL:W->Int
 | .int n=>(aZ P w).hash (.inl n)
 | .tup ws=>reduceHash (Builtin.Tuple.tupleHashOf (dZ ws))
 | _=>0
noncomputable def dZ:List W->List Int
 | []=>[]
 | x::xs=>jL x::dZ xs
end
mutual
noncomputable def o5:W->Nat
 | .int _=>1
 | .tup ws=>ei ws+1
 | _=>0
noncomputable def ei:List W->Nat
 | []=>0
 | x::xs=>o5 x+ei xs
end
end
theorem wY (xs ys:List W):ei (xs++ys)=ei xs+ei ys:=by
 induction xs with
 | nil=>simp[ei]
 | cons x xs ih=>show o5 x+ei (xs++ys)=_;rw[ih];simp[ei,Nat.add_assoc]
theorem ui (P:Program) (w:World) (xs ys:List W):dZ P w (xs++ys)=dZ P w xs++dZ P w ys:=by
 induction xs with
 | nil=>rfl
 | cons x xs ih=>show jL P w x::dZ P w (xs++ys)=_;rw[ih];rfl
section
variable {prog:Program} {w:World}
theorem di {o:Obj} (gO:s.heap.get? a=some o) (hc:o.cls=.type "tuple"):s.TypeIs (.ref a) "tuple":=⟨o,gO,hc⟩
theorem uj {d:Nat} {ws:List W} {o:Obj} {n:Nat} {Q:Int->Shared->Prop} (hu:A.units+d+1<cLine) (gO:s.heap.get? a=some o) (hc:o.cls=.type "tuple") (dO:o.data=.seq items n) (hi:cK s.heap d ws items.toList)
 (ih:∀(x:W) (v:Value) (A':Around) (E':Value->Shared->Prop) (tk:Nat) (Q':Int->Shared->Prop),x∈ws->eY s.heap d x v->A'.units+d<cLine->Q' (jL prog w x) { s with toks:=tk+o5 x }->wpAny (model prog w) A' (pyHash v) Q' E' { s with toks:=tk })
 (h:Q (jL prog w (.tup ws)) { s with toks:=s.toks+o5 (.tup ws) }):wpAny (model prog w) A (pyHash (.ref a)) Q E s:=by
 have tp:=di gO hc;unfold pyHash
 first | unfold pyHashByItsType | skip
 first | refine wax (wpAny_cRoomFor_or (.inr (by lia)) ?_) | skip
 refine wax (wpAny_specialOf tp F.slot_tuple_hash.lookup ?_);rw[show(some (Value.builtin "tuple.__hash__")==some Value.none)=false from by rw[beq_builtin_none],if_neg Bool.false_ne_true];refine wax (wpAny_specialOf tp F.slot_tuple_hash.lookup ?_);show wpAny _ _ (callSpecialIfBoundUnlessNone? (.ref a) "__hash__" _ >>= _) Q E s;refine wax (wpAny_callSpecialIfBoundUnlessNone?_slot tp F.slot_tuple_hash (wpAny_call_entry F.slot_tuple_hash tp F.entry_tuple_hash ?_ (F.args_tuple_hash_1 _)));show wpAny _ _ (Builtin.Tuple.tupleItemsOf (.ref a) >>= _) _ _ s;refine wax (wpAny_tupleItemsOf gO dO ?_);refine wax ?_;rw[←Array.forIn_toList];refine wpAny_forIn_list _
  (λbH (b:Array Int) s'=>∃done left,ws=done++left/\cK s.heap d left bH/\b.toList=dZ prog w done/\s'={ s with toks:=s.toks+ei done })
  _ ?_ ?_ _ _ ⟨[],ws,rfl,hi,rfl,rfl⟩
 ·rintro x bH b s' ⟨done,left,rfl,hL,hB,rfl⟩;cases hL with
  | @cons _ k _ ks' _ h1 hL'=>
    refine wax (ih k x _ _ _ _ (by simp) h1 (by first | lia | (show A.units+1+d<cLine;lia)) ?_);have e1:b.toList++[jL prog w k]=dZ prog w (done++[k]):=by rw[hB,ui];rfl
    have e2:s.toks+ei done+o5 k=s.toks+ei (done++[k]):=by rw[wY];simp[ei,Nat.add_assoc]
    first
     | exact way ⟨done++[k],ks',by simp,hL',by simpa using e1,by rw[←e2]⟩
     | exact wax (way (way ⟨done++[k],ks',by simp,hL',by simpa using e1,by rw[←e2]⟩))
 ·rintro b s' ⟨done,left,rfl,hL,hB,rfl⟩;cases hL;rw[append_nil] at h;show wpAny _ _ (retInt (Builtin.Tuple.tupleHashOf b.toList)) _ _ _;rw[hB];refine wpAny_ret_mkInt ?_;have h:Q (reduceHash (Builtin.Tuple.tupleHashOf (dZ prog w done))) { s with toks:=s.toks+(ei done+1) }:=h;generalize dZ prog w done=hs at h ⊢;show wpAny _ _ (if (decide (-(2:Int)^63<=Builtin.Tuple.tupleHashOf hs)&&decide (Builtin.Tuple.tupleHashOf hs<2^63))=true then _ else _) Q E _;unfold reduceHash at h
  by_cases hR:(decide (-(2:Int)^63<=Builtin.Tuple.tupleHashOf hs)&&decide (Builtin.Tuple.tupleHashOf hs<2^63))=true
  ·rw[if_pos hR];rw[if_pos hR] at h;exact way (by simpa[Nat.add_assoc] using h)
  ·rw[if_neg hR];rw[if_neg hR] at h;exact wax (wpAny_rule (way (by simpa[Nat.add_assoc] using h)))
theorem eY.hash {s:Shared}:∀(d:Nat) {x:W} {v:Value},eY s.heap d x v->∀{A:Around} {E:Value->Shared->Prop} {tk:Nat} {Q:Int->Shared->Prop},A.units+d<cLine->Q (jL prog w x) { s with toks:=tk+o5 x }->wpAny (model prog w) A (pyHash v) Q E { s with toks:=tk }
 | _,_,_,.int n t,A,E,tk,Q,hu,h=>(aZ prog w).pyHash (k:= .inl n) (dJ prog w n t) h
 | d+1,_,_,.tup (ws:=ws) gO hc dO hs,A,E,tk,Q,hu,h=>
   uj (s:={ s with toks:=tk }) (d:=d) (ws:=ws) (by assumption) gO hc dO hs (λx v A' E' tk' Q' _ hk hu' hq=>eY.hash d hk hu' hq) h
noncomputable def uk (p:Prop):Bool:= @decide p (Classical.propDecidable p)
theorem jM {p:Prop} (h:p):uk p=true:= @decide_eq_true p (Classical.propDecidable p) h
theorem iK {p:Prop} (h:¬p):uk p=false:= @decide_eq_false p (Classical.propDecidable p) h
inductive Sh:W->W->Prop where
 | int (n m:Int):Sh (.int n) (.int m)
 | tup {xs ys:List W} (h:∀p,p∈xs.zip ys->Sh p.1 p.2):Sh (.tup xs) (.tup ys)
theorem eq_tup {d:Nat} {x y:List W} {a b:Addr} {oa ob:Obj} {xs ys:Array Value} {na nb:Nat} {R:PySem.Fin->Shared->Prop} (gA:s.heap.get? a=some oa) (hca:oa.cls=.type "tuple") (dA:oa.data=.seq xs na) (hia:cK s.heap d x xs.toList) (gB:s.heap.get? b=some ob) (hcb:ob.cls=.type "tuple") (dB:ob.data=.seq ys nb) (hib:cK s.heap d y ys.toList)
 (hsh:∀p,p∈x.zip y->Sh p.1 p.2)
 (ih:∀(p q:W) (u v:Value) (E':Value->Shared->Prop) (Q':Bool->Shared->Prop),eY s.heap d p u->eY s.heap d q v->Sh p q->Q' (uk (p=q)) s->wpAny (model prog w) A (eqBool u v) Q' E' s)
 (h:R (.done (.ret (.bool (uk (x=y))))) s):wpAny (model prog w) A (Builtin.«tuple.__eq__» ⟨[.ref a,.ref b],[]⟩) R E s:=by
 have tpB:=di gB hcb;show wpAny _ _ (isInstance (.ref b) (.type "tuple") >>= _) _ _ s;refine wax (wpAny_isInstance tpB isSubtype_tuple_tuple ?_);simp only[Bool.not_true,Bool.false_eq_true,if_false];refine wax (wpAny_tupleItemsOf gA dA ?_);refine wax (wpAny_tupleItemsOf gB dB ?_);refine wax ?_;refine wpAny_forIn_list _
  (λbH r s'=>r.1=none/\s'=s/\∃x' y' xs' ys',bH=List.zip xs' ys'/\cK s.heap d x' xs'/\cK s.heap d y' ys'/\((x'=y')↔(x=y))/\(∀p,p∈x'.zip y'->Sh p.1 p.2)/\(xs'.length==ys'.length)=(xs.size==ys.size))
  _ ?_ ?_ _ _ ⟨rfl,rfl,x,y,xs.toList,ys.toList,rfl,hia,hib,Iff.rfl,hsh,by simp⟩
 ·rintro⟨u,v⟩ bH r s' ⟨hR,rfl,x',y',xs',ys',hZ,hx',hy',hdec,hs',hlen⟩;cases hx' with
  | nil=>simp at hZ
  | @cons _ k1 u' x'' xs'' h1 hx''=>
    cases hy' with
    | nil=>simp at hZ
    | @cons _ k2 v' y'' ys'' h2 hy''=>
      simp only[zip_cons_cons,List.cons.injEq,Prod.mk.injEq] at hZ;obtain⟨⟨rfl,rfl⟩,rfl⟩:=hZ;refine wax (ih k1 k2 _ _ _ _ h1 h2 (hs' (k1,k2) mem_cons_self) ?_)
      by_cases hk:k1=k2
      ·subst hk;rw[jM rfl];simp only[Bool.not_true,Bool.false_eq_true,if_false];refine way ⟨rfl,rfl,x'',y'',xs'',ys'',rfl,hx'',hy'',?_,λp hp=>hs' p (mem_cons_of_mem _ hp),by simpa using hlen⟩;rw[←hdec];simp
      ·rw[iK hk];simp only[Bool.not_false,if_true];have hf:uk (x=y)=false:=iK λz=>hk (by have:=hdec.mpr z;injection this);rw[hf] at h;exact wax (way (way (way h)))
 ·rintro⟨q1,q2⟩ s' ⟨hR,rfl,x',y',xs',ys',hZ,hx',hy',hdec,hs',hlen⟩;simp only at hR;subst hR;refine way ?_;have hfin:(xs.size==ys.size)=uk (x=y):=by
   rw[←hlen];cases hx' with
   | nil=>
     cases hy' with
     | nil=>rw[jM (hdec.mp rfl)];rfl
     | cons _ _=>rw[iK (λz=>by have:=hdec.mpr z;cases this)];rfl
   | cons _ _=>
     cases hy' with
     | nil=>rw[iK (λz=>by have:=hdec.mpr z;cases this)];rfl
     | cons _ _=>simp at hZ
  show R (.done (.ret (.bool (xs.size==ys.size)))) s';rw[hfin];exact h
theorem eY.eqs {s:Shared}:∀(d:Nat) {x y:W} {u v:Value},eY s.heap d x u->eY s.heap d y v->Sh x y->∀{A:Around} {E:Value->Shared->Prop} {Q:Bool->Shared->Prop},A.units+2*d<cLine->Q (uk (x=y)) s->wpAny (model prog w) A (PySem.eqBool u v) Q E s
 | _,_,_,_,_,.int n t,.int m t',_,A,E,Q,hu,h=>by
   refine(aZ prog w).eqBool (a:= .inl n) (b:= .inl m) (dJ prog w n t) (dJ prog w m t') ?_;have:decide ((Sum.inl n:aR)=.inl m)=uk (W.int n=.int m):=by
    by_cases e:n=m
    ·subst e;rw[decide_eq_true rfl,jM rfl]
    ·rw[decide_eq_false (λz=>e (Sum.inl.inj z)),iK (λz=>by injection z with z;exact e z)]
   rw[this];exact h
 | _,_,_,_,_,.int n t,.tup _ _ _ _,hs,A,E,Q,hu,h=>(nomatch hs)
 | _,_,_,_,_,.tup _ _ _ _,.int m t',hs,A,E,Q,hu,h=>(nomatch hs)
 | d+1,_,_,_,_,.tup (a:=a) (ws:=ws) gO hc dO hs,.tup (a:=a') (ws:=ws') gO' hc' dO' hs',.tup hsh,A,E,Q,hu,h=>by
   unfold PySem.eqBool
   try with_reducible refine wpAny_holding ?_
   show wpAny _ _ (if (Value.ref a==Value.ref a')=true then _ else _) Q E s
   by_cases hab:(Value.ref a==Value.ref a')=true
   ·rw[if_pos hab];have e:a=a':=by have:=eq_of_beq hab;injection this
    subst e;have:=eY.inj (.tup gO hc dO hs) (.tup gO' hc' dO' hs');rw[jM this] at h;exact wax (wpAny_rule (way h))
   ·rw[if_neg hab];refine wax (wpAny_richCompare_same_room (op:= .Eq) (di gO hc) (di gO' hc') F.slot_tuple_eq
     (wpAny_call_entry F.slot_tuple_eq (di gO hc) F.entry_tuple_eq (eq_tup gO hc dO hs gO' hc' dO' hs' hsh (λp q u v E' Q' hp hq hpq hQ=>eY.eqs d hp hq hpq (by first | lia | (show A.units+1+2*d<cLine;lia) | (show A.units+1+1+2*d<cLine;lia)) hQ) ⟨_,rfl,(λe=>nomatch e),wpAny_truthy_bool ?_⟩) (F.args_tuple_eq_2 _ _)) (by lia))
    have:uk (ws=ws')=uk (W.tup ws=.tup ws'):=by
     by_cases e:ws=ws'
     ·subst e;rw[jM rfl,jM rfl]
     ·rw[iK e,iK (λz=>by injection z with z;exact e z)]
    rw[this];exact h
theorem eY.quiet {s:Shared}:∀(d:Nat) {x:W} {v:Value},eY s.heap d x v->∀{A:Around} {E:Value->Shared->Prop} {Q:Bool->Shared->Prop},Q true s->wpAny (model prog w) A (eqIsQuiet d v) Q E s
 | _,_,_,.int n t,A,E,Q,h=>by
   rw[eqIsQuiet_byValue _ rfl];exact way h
 | d+1,_,_,.tup gO hc dO hs,A,E,Q,h=>by
   have tp:=di gO hc;unfold eqIsQuiet;refine wax (wpAny_specialOf tp F.slot_tuple_eq.lookup ?_);refine wax (wpAny_isInstance tp isSubtype_tuple_tuple ?_);simp only[Bool.not_true,Bool.false_eq_true,if_false];refine wax (wpAny_seqItems gO dO ?_);refine wax ?_;show wpAny _ _ (forIn _ _ _) _ _ s;rw[←Array.forIn_toList];refine wpAny_forIn_list _ (λbH r s'=>r.1=none/\s'=s/\∃ws,cK s.heap d ws bH) _ ?_ ?_ _ _ ⟨rfl,rfl,_,hs⟩
   ·rintro v bH r s' ⟨hR,rfl,ws,hk⟩;cases hk with
    | cons q1 rs1=>
      refine wax (eY.quiet d q1 ?_);simp only[Bool.not_true,Bool.false_eq_true,if_false];exact way ⟨rfl,rfl,_,rs1⟩
   ·rintro⟨q1,q2⟩ s' ⟨hR,rfl,_⟩;simp only at hR;subst hR;exact way h
theorem Ai:∀a b:O,Sh (.tup (ao a)) (.tup (ao b)):=by
 have main:∀(k:Nat) (a b:O),a.size+b.size<=k->Sh (.tup (ao a)) (.tup (ao b)):=by
  intro k
  induction k with
  | zero=>
    intro a b h;cases a with
    | z=>exact .tup λp hp=>by simp[ao] at hp
    | c e n r=>simp[O.size] at h
  | succ k ih=>
    intro a b h;cases a with
    | z=>exact .tup λp hp=>by simp[ao] at hp
    | c e n r=>
      cases b with
      | z=>exact .tup λp hp=>by simp[ao] at hp
      | c e' n' r'=>
        have h1:e.size+e'.size<=k:=by simp only[O.size] at h;lia
        have h2:r.size+r'.size<=k:=by simp only[O.size] at h;(clear h1;lia)
        refine .tup λp hp=>?_;rw[bR,bR,zip_cons_cons] at hp;rcases mem_cons.mp hp with rfl | hp
        ·refine .tup λp hp=>?_;simp only[zip_cons_cons,List.zip_nil_left] at hp;rcases mem_cons.mp hp with rfl | hp
         ·exact ih e e' h1
         ·rw[mem_singleton.mp hp];exact .int n n'
        ·cases ih r r' h2 with
         | tup h3=>exact h3 p hp
 exact λa b=>main _ a b (le_refl _)
theorem qi {a b:O} (h:W.tup (ao a)=.tup (ao b)):a=b:=by injection h with h;exact m9 h
noncomputable def jN (prog:Program) (w:World):HeapKind prog w O where
 is:=λh o a=>eY h 8 (.tup (ao o)) (.ref a)
 hash:=λo=>jL prog w (.tup (ao o))
 draws:=λo=>o5 (.tup (ao o))
 room:=λA=>A.units+20<cLine
 inj:=λhx hy=>qi (eY.inj hx hy)
 keeps:=λx gO dO hs=>x.keeps λa o items n gO' dO'=>by
  rename_i d' od es ep;have hne:a≠d':=λz=>by
   subst z;cases gO.symm.trans gO';rw[dO] at dO';cases dO'
  exact(hs.2 a hne).trans gO'
 pyHash:=λhu hk h=>eY.hash 8 hk (by lia) h
 eqBool:=λhu hx hy h=>eY.eqs 8 hx hy (Ai _ _) (by lia) (by
  rename_i x y _ _ _;have:uk (W.tup (ao x)=.tup (ao y))=decide (x=y):=by
   by_cases e:x=y
   ·subst e;rw[jM rfl,decide_eq_true rfl]
   ·rw[iK (λz=>e (qi z)),decide_eq_false e]
  rw[this];exact h)
 quiet:=λhk h=>eY.quiet 8 hk h
end
mutual
theorem eY.le {h:Heap}:∀{d d':Nat} {w:W} {v:Value},d<=d'->eY h d w v->eY h d' w v
 | _,_,_,_,_,.int n t=> .int n t
 | _,d'+1,_,_,l,.tup ho hc hd hs=> .tup ho hc hd (cK.le (Nat.le_of_succ_le_succ l) hs)
 | _,0,_,_,l,.tup ho hc hd hs=>absurd l (Nat.not_succ_le_zero _)
theorem cK.le {h:Heap}:∀{d d':Nat} {ws:List W} {vs:List Value},d<=d'->cK h d ws vs->cK h d' ws vs
 | _,_,_,_,_,.nil=> .nil
 | _,_,_,_,l,.cons r rs=> .cons (eY.le l r) (cK.le l rs)
end
section
variable {X:Cx} {π:List (Addr×Obj)} {σ:St} {H:Hp} {s:Shared}
theorem wZ (I:aC X π σ H s):∀(k:Nat) (o:O) (v:V) (u:Value),o.dp<=k->bK X.K H (.tup (ao o)) v->bf v u->eY s.heap (2*k+1) (.tup (ao o)) u:=by
 intro k
 induction k with
 | zero=>
   intro o v u hd r ru;have:o=.z:=by
    cases o with
    | z=>rfl
    | c e n r=>simp only[O.dp] at hd;lia
   subst this;cases r with
   | tup hT rr=>
     obtain⟨its,rv,⟨ob,e,c,n,dd⟩,_⟩:=I.tuple (cO.of hT);cases rr;cases rv;cases (show u=Value.ref _ from ru);exact .tup e c dd .nil
 | succ k ih=>
   have parts:∀(o:O) (xs:List V) (its:List Value),o.dp<=k+1->aV X.K H (ao o) xs->aX xs its->cK s.heap (2*k+2) (ao o) its:=by
    intro o
    induction o with
    | z=>
      intro xs its hd rr rv;cases rr;cases rv;exact .nil
    | c e n r ihe ihr=>
      intro xs its hd rr rv;rw[bR] at rr ⊢;cases rr with
      | cons r1 rs1=>
        cases rv with
        | cons v1 vs1=>
          have hd1:e.dp<=k:=by simp only[O.dp] at hd;lia
          have hd2:r.dp<=k+1:=by simp only[O.dp] at hd;lia
          refine .cons ?_ (ihr _ _ hd2 rs1 vs1);unfold gp at r1 ⊢;cases r1 with
          | tup hT rr=>
            obtain⟨its,rv,⟨ob,ee,c,m,dd⟩,_⟩:=I.tuple (cO.of hT);cases (show _=Value.ref _ from v1);cases rr with
            | cons q1 qs=>
              cases qs with
              | cons q2 qs=>
                cases qs;cases rv with
                | cons w1 ws=>
                  cases ws with
                  | cons w2 ws=>
                    cases ws;refine .tup ee c dd (.cons (ih e _ _ hd1 q1 w1) (.cons ?_ .nil));cases q2;obtain⟨t,rfl⟩:=w2;exact .int _ _
   intro o v u hd r ru;cases r with
   | tup hT rr=>
     obtain⟨its,rv,⟨ob,e,c,n,dd⟩,_⟩:=I.tuple (cO.of hT);cases (show u=Value.ref _ from ru);exact .tup e c dd (parts o _ _ hd rr rv)
theorem jO (I:aC X π σ H s) {o:O} (hd:o.dp<=3) (r:bK X.K H (.tup (ao o)) (.ref a)):(jN X.prog X.w).is s.heap o a:=eY.le (by decide) (wZ I 3 o (.ref a) (.ref a) hd r rfl)
end
inductive gs (K:PySem.W.Frag) (H:Hp):List (O×W)->List (O×Addr×Value)->Prop where
 | nil:gs K H [] []
 | cons {k:O} {a:Addr} {w:W} {v:V} {u:Value} {kvs:List (O×W)} {xs:List (O×Addr×Value)} (rk:bK K H (.tup (ao k)) (.ref a)) (rv:bK K H w v) (ru:bf v u) (t:gs K H kvs xs):gs K H ((k,w)::kvs) ((k,a,u)::xs)
theorem gs.mono {K:PySem.W.Frag} {H H1:Hp} (t:aP H H1):∀{kvs:List (O×W)} {xs:List (O×Addr×Value)},gs K H kvs xs->gs K H1 kvs xs
 | _,_,.nil=> .nil
 | _,_,.cons rk rv ru r=> .cons (rk.mono t) (rv.mono t) ru (gs.mono t r)
theorem gs.keys {K:PySem.W.Frag} {H:Hp}:∀{kvs:List (O×W)} {xs:List (O×Addr×Value)},gs K H kvs xs->xs.map (·.1)=kvs.map (·.1)
 | _,_,.nil=>rfl
 | _,_,.cons _ _ _ r=>by rw[map_cons,map_cons,gs.keys r]
theorem gs.mem {K:PySem.W.Frag} {H:Hp}:∀{kvs:List (O×W)} {xs:List (O×Addr×Value)},gs K H kvs xs->∀x,x∈xs->bK K H (.tup (ao x.1)) (.ref x.2.1)
 | _,_,.nil,x,hx=>(nomatch hx)
 | _,_,.cons rk _ _ r,x,hx=>by
   rcases mem_cons.mp hx with rfl | hx
   ·exact rk
   ·exact gs.mem r x hx
noncomputable def jP (P:Program) (w:World) (a:Addr) (xs:List (O×Addr×Value)):Heap->Prop:=λh=>∃o es ep,h.get? a=some o/\o.ExactDict/\o.data=.dict es ep/\es.toList=xs.map (entryOfKey (jN P w))
noncomputable def kf (P:Program) (w:World) (K:PySem.W.Frag) (kvs:List (O×W)):Hp->Addr->Prop:=λH a=>kvs.length<=1000/\(a==sysModules)=false/\(kvs.map (·.1)).Nodup/\(∀p,p∈kvs->p.1.dp<=3)/\∃xs,H a=some (.ext (jP P w a xs))/\gs K H kvs xs
noncomputable abbrev qj (P:Program) (w:World) (K:PySem.W.Frag) (kvs:List (O×W)):GO:= .any (kf P w K kvs)
theorem kf.ok {kvs:List (O×W)} {H:Hp} (h:kf P w K kvs H a):xL K H a (qj P w K kvs):=by
 refine⟨h,?_,λH1 H2 t e x=>?_⟩
 ·obtain⟨_,_,_,_,xs,e,_⟩:=h;exact⟨_,e⟩
 ·obtain⟨a1,a2,a3,a4,xs,e1,kv⟩:=x;exact⟨a1,a2,a3,a4,xs,e.trans e1,kv.mono t⟩
section
variable {X:Cx} {π:List (Addr×Obj)} {σ:St} {H:Hp} {s:Shared}
theorem kf.dict {kvs:List (O×W)} (I:aC X π σ H s) (h:kf X.prog X.w X.K kvs H a):∃xs,H a=some (.ext (jP X.prog X.w a xs))/\gs X.K H kvs xs/\s.heap.DictOfH (jN X.prog X.w) a xs:=by
 obtain⟨a1,a2,a3,a4,xs,e,kv⟩:=h;obtain⟨⟨o,es,ep,h1,h2,h3,h4⟩,_⟩:=I.hok a _ e;refine⟨xs,e,kv,o,es,ep,h1,h2,h3,h4,λx hx=>?_,by rw[kv.keys];exact a3⟩;refine jO I ?_ (kv.mem x hx);have:x.1∈kvs.map (·.1):=by rw[←kv.keys];exact mem_map.mpr ⟨x,hx,rfl⟩
 obtain⟨p,hp,hpe⟩:=mem_map.mp this;rw[←hpe];exact a4 p hp
theorem qk {H:Hp} {h:Heap} {xs:List (O×Addr×Value)} (d:jP P w a xs h):bB P w H h a (.ext (jP P w a xs)):=by
 refine⟨d,?_,λh1 h2 x k=>?_⟩
 ·obtain⟨o,_,_,e,_⟩:=d;exact⟨o,e⟩
 ·obtain⟨o,es,ep,e,r⟩:=x;exact⟨o,es,ep,k _ e,r⟩
noncomputable def ul (P:Program) (w:World) (K:PySem.W.Frag):WE:=λ_ G q=>∀p,G p=none->q (.ref p) (aL G p (qj P w K []))
theorem w9:QE X (.Dict [] [] pos) (ul X.prog X.w X.K):=by
 have pe:PE X (.Dict [] [] pos) (λ_ H Q=>∀p,H p=none->(p==sysModules)=false->Q (.ref p) (upd H p (.ext (jP X.prog X.w p [])))):=λπ s σ H Q I h=>
  wpAny_Dict_empty ⟨.ref s.heap.objs.size,_,I.laid (a:=s.heap.objs.size) (o:= .ext (jP X.prog X.w s.heap.objs.size [])) (t':=s.toks) (λ_ _ q=>Heap.get?_push_of_some _ q) (le_refl _) (qk ⟨_,#[],0,Heap.get?_push_size _ rfl,⟨rfl,rfl,rfl⟩,rfl,rfl⟩),rfl,h _ (I.hok.fresh (le_refl _)) (beq_eq_false_iff_ne.mpr (Ne.symm (ne_of_lt I.bigD)))⟩
 exact pe.imp λσ H Q z0=>z0.el λτ G q hs hg ht hQ p hp hm=>hQ _ _ _ _ (aP.new hp _) (.ref p) (hg.lay (g:=qj X.prog X.w X.K []) (aP.new hp _) (kf.ok ⟨zero_le _,hm,by simp,(λ_ h=>(nomatch h)),[],bg,.nil⟩)) (ht p (hg.fresh hp))
noncomputable def eR (kvs:List (O×W)) (k:O):Option W:=(kvs.find? λp=>decide (p.1=k)).map (·.2)
theorem gs.at {K:PySem.W.Frag} {k:O}:∀{kvs:List (O×W)} {xs:List (O×Addr×Value)},gs K H kvs xs->(eR kvs k=none/\atKey xs k=none)∨∃w a v u,eR kvs k=some w/\atKey xs k=some (a,u)/\bK K H w v/\bf v u
 | _,_,.nil=> .inl ⟨rfl,rfl⟩
 | _,_,.cons (k:=k') (a:=a) (w:=w) (v:=v) (u:=u) rk rv ru t=>by
   by_cases e:k'=k
   ·exact .inr ⟨w,a,v,u,by simp[eR,e],by simp[atKey,e],rv,ru⟩
   ·rcases gs.at (k:=k) t with⟨h1,h2⟩ | ⟨w',a',v',u',h1,h2,h3,h4⟩
    ·exact .inl ⟨by simpa[eR,List.find?_cons,e] using h1,by simpa[atKey,List.find?_cons,e] using h2⟩
    ·exact .inr ⟨w',a',v',u',by simpa[eR,List.find?_cons,e] using h1,by simpa[atKey,List.find?_cons,e] using h2,h3,h4⟩
theorem um {kvs:List (O×W)} {k:O} {x:W} (h:eR kvs k=some x):(k,x)∈kvs:=by
 unfold eR at h;obtain⟨p,hp,rfl⟩:=Option.map_eq_some_iff.mp h;have h1:=List.mem_of_find?_eq_some hp;have h2:=List.find?_some hp;have h3:p.1=k:=of_decide_eq_true h2;rw[←h3];exact h1
noncomputable def xc (P:Program) (w:World) (K:PySem.W.Frag):W2:=λx y G q=>match x,y with
 | .ref a,.tup ts=>∃kvs o x,ts=ao o/\G a=some (qj P w K kvs)/\eR kvs o=some x/\q x G
 | x,y=>eW x y G q
theorem uo (hr:aw k A):A.in1.units+20<cLine:=by
 have:=hr.un;show A.units+1+20<cLine;lia
theorem Ci (hr:aw k X.A):y6 X (xc X.prog X.w X.K):=by
 rintro value slice π s σ H x y v u Q I rx ry ⟨wx,wy,G,q,r1,r2,g,h,hQ⟩ hsl;unfold xc at h;split at h
 ·rename_i a ts;obtain⟨kvs,o,x,rfl,hG,hv,h⟩:=h;cases r1;cases rx;have hD:=(g a _ hG).1;obtain⟨xs,_,kv,dd⟩:=hD.dict I;rcases kv.at (k:=o) with⟨e,_⟩ | ⟨x',b',v',u',e,e',r,ru⟩
  ·rw[e] at hv;cases hv
  ·rw[e] at hv;cases hv;have hdp:o.dp<=3:=hD.2.2.2.1 _ (um e);cases r2 with
   | @tup b _ _ hT rr=>
     cases (show u=Value.ref b from ry);exact tail_any dd.typeIs PySem.F.slot_dict_getitem.lookup (wpAny_getItem_heap (knd:=jN X.prog X.w) (uo hr) (jO I hdp (.tup hT rr)) dd e' ⟨v',H,I.tok _,ru,hQ _ H _ G (aP.refl H) r g h⟩) hsl
 ·exact aB value slice π s σ H x _ v u Q I rx ry ⟨wx,wy,G,q,r1,r2,g,h,hQ⟩ hsl
theorem iP {K:Type} [DecidableEq K] {knd:HeapKind prog w K} {d a:Addr} {xs:List (K×Addr×Value)} {k:K} {dflt:Value} (hu:knd.room A) (hkey:knd.is s.heap k a) (hm:s.heap.DictOfH knd d xs)
 (hthere:∀p,atKey xs k=some p->Q p.2 { s with toks:=s.toks+knd.draws k })
 (hnew:atKey xs k=none->∀h',h'.DictOfH knd d (xs++[(k,a,dflt)])->Heap.SameBut d s.heap h'->Q dflt { s with heap:=h',toks:=s.toks+knd.draws k }) (hsz:xs.length<=sizeLine):
 wpAny (model prog w) A (dictSetDefault d (.ref a) dflt) Q E s:=by
 obtain⟨o,es,ep,ho,hc,hd,he,his,hn⟩:=hm;unfold dictSetDefault
 try with_reducible refine wpAny_holding ?_
 refine wax (knd.pyHash hu hkey ?_);refine wax (wpAny_dictFind_heap (s:={ s with toks:=s.toks+knd.draws k }) hu hkey ho hd he his hn ?_ ?_)
 ·intro hno;have hnot:k∉xs.map (·.1):=not_mem_keys_of_get hno;have hat:=atKey_none_of_get hno;refine wax (wpAny_rule (wax (wpAny_updateDictKeys (hz:=by have e:=size_of_entries he;lia) (s:={ s with toks:=s.toks+knd.draws k }) ho hd (way (hnew hat _ ⟨_,_,ep+1,Heap.get?_update_self _ ho (Obj.isFreed_of_dict (Obj.data_mapDictKeys hd _)),
   hc.mapDictKeys _,Obj.data_mapDictKeys hd _,?_,?_,?_⟩ (Heap.SameBut.update ..))))))
  ·simp[he,entryOfKey]
  ·intro x hx;rcases mem_append.mp hx with hx | hx
   ·exact knd.keeps (his x hx) ho hd (Heap.SameBut.update ..)
   ·simp only[mem_singleton] at hx;subst hx;exact knd.keeps hkey ho hd (Heap.SameBut.update ..)
  ·rw[map_append,List.nodup_append];refine⟨hn,by simp,?_⟩;intro x hx y hy;simp only[map_cons,map_nil,mem_singleton] at hy;subst hy;exact λe=>hnot (e▸hx)
 ·intro j p hj;refine wax (wpAny_dictEntries (s:={ s with toks:=s.toks+knd.draws k }) ho hd ?_);rw[entry_at he j,hj];exact wax (wpAny_rule (way (hthere p (atKey_of_get hn hj))))
theorem gS {K:Type} [DecidableEq K] (knd:HeapKind prog w K) (d a:Addr) (hd:(d==sysModules)=false) (dflt:Value):
 MeetsIn prog w (Builtin.«dict.setdefault» ⟨[.ref d,.ref a,dflt],[]⟩) (λA R s=>knd.room A.in1/\∃k xs,knd.is s.heap k a/\s.heap.DictOfH knd d xs/\xs.length<=sizeLine/\
  (∀p,atKey xs k=some p->R (.ok (.ret p.2)) { s with toks:=s.toks+knd.draws k })/\
  (atKey xs k=none->∀h',h'.DictOfH knd d (xs++[(k,a,dflt)])->Heap.SameBut d s.heap h'->R (.ok (.ret dflt)) { s with heap:=h',toks:=s.toks+knd.draws k })):=
 .of_wp λA R s ⟨hu,k,xs,hkey,hm,hz,h1,h2⟩=>by
  unfold Builtin.«dict.setdefault»;refine wax ?_;unfold Builtin.Dict.keyAndDefault;refine wax (wpAny_notOrdered_dict hm.typeIs ?_);show wpAny _ _ (pure (d,Value.ref a,some dflt)) _ _ s;refine way ?_;show wpAny _ _ (if (d==sysModules)=true then _ else (dictSetDefault d (.ref a) dflt >>= _)) _ _ s;rw[if_neg (by rw[hd];exact Bool.false_ne_true)];exact wax (iP hu hkey hm (λp hp=>way ⟨p.2,rfl,h1 p hp⟩) (λhn h' hm' hs'=>way ⟨dflt,rfl,h2 hn h' hm' hs'⟩) hz)
theorem Aj {o e:Expr} {to:TE} {t:TA} {name:Str} {apos cpos:Pos} {id:String} {r:V->List V->Hp->VK->Prop} {ty:V->Hp->Prop} (hty0:∀(π:List (Addr×Obj)) (σ:St) (H:Hp) (s:Shared) (x:V) (v:Value),aC X π σ H s->bf x v->ty x H->s.TypeIs v "dict"/\∀a,v=.ref a->∃ob,s.heap.get? a=some ob/\ob.dict=none)
 (slot:Slot "dict" name id) (hty:typeOf (.builtin id)=pure (.type "method_descriptor")) (hm:Bh X id r) (ho:PE X o to) (ha:PA X (e::es) t)
 (hbase:attributeBase o name X.env (eval o X.env)=eval o X.env:=by rfl)
 (hfew:((backTo cpos (starEach (e::es) X.env)).all (λx=>!x.1)&&(backToKw cpos (keywordEach [] X.env)).all (λx=>x.1.isSome)
   &&decide ((e::es).length+([]:List Keyword).length+(if ([]:List Keyword).isEmpty then 0 else 1)<30))=true:=by rfl)
 (hline:(apos.endLine==cpos.line)=true:=by rfl) (hs:starEach (e::es) X.env=(false,eval e X.env)::starEach es X.env:=by rfl) (hplain:(backTo cpos (starEach es X.env)).any (·.1)=false:=by rfl):
 PE X (.Call (.Attribute o name apos) (e::es) [] cpos) (λσ H Q=>to σ H λx H1=>ty x H1/\t σ H1 λxs H2=>r x xs H2 Q):=by
 intro π s σ H Q I h;refine wpAny_Call_method_late hbase hfew hline rfl (bV (ho π s σ H _ I h) λv s1 z9=>?_);obtain⟨x,H1,I1,r1,ty1,q1⟩:=z9;obtain⟨h1,h2⟩:=hty0 _ _ _ _ _ _ I1 r1 ty1;refine⟨"dict",id,PySem.F.plainAttrs_dict,slot,hty,h1,h2,?_⟩;have hA:=ha cpos π s1 σ H1 _ I1 q1;rw[hs] at hA ⊢;refine Calls.callWith_builtin (by show(false||(backTo cpos (starEach es X.env)).any (·.1))=false;rw[hplain]<;> rfl) (Calls.evalArgs_plain ?_);exact bV hA λus s2 ⟨vs,H2,I2,r2,q2⟩=>hm π s2 σ H2 x vs v us Q I2 r1 r2 q2
noncomputable def Ed (X:Cx):V->List V->Hp->VK->Prop:=λx vs H Q=>∃a b kvs o d w,x=.ref a/\vs=[.ref b,d]/\kf X.prog X.w X.K kvs H a/\o.dp<=3/\bK X.K H (.tup (ao o)) (.ref b)/\bK X.K H w d/\kvs.length+1<=1000/\
 (∀w' v',eR kvs o=some w'->bK X.K H w' v'->Q v' H)/\(eR kvs o=none->∀xs,kf X.prog X.w X.K (kvs++[(o,w)]) (upd H a (.ext (jP X.prog X.w a xs))) a->aP H (upd H a (.ext (jP X.prog X.w a xs)))->Q d (upd H a (.ext (jP X.prog X.w a xs))))
theorem gs.snoc {K:PySem.W.Frag} {k:O} {a:Addr} {x:W} {v:V} {u:Value} (rk:bK K H (.tup (ao k)) (.ref a)) (rv:bK K H x v) (ru:bf v u):∀{kvs:List (O×W)} {xs:List (O×Addr×Value)},gs K H kvs xs->gs K H (kvs++[(k,x)]) (xs++[(k,a,u)])
 | _,_,.nil=> .cons rk rv ru .nil
 | _,_,.cons r1 r2 r3 t=> .cons r1 r2 r3 (gs.snoc rk rv ru t)
theorem gs.length {K:PySem.W.Frag}:∀{kvs:List (O×W)} {xs:List (O×Addr×Value)},gs K H kvs xs->xs.length=kvs.length
 | _,_,.nil=>rfl
 | _,_,.cons _ _ _ t=>by rw[length_cons,length_cons,gs.length t]
theorem aP.ex {φ:Heap->Prop} (hp:H a=some (.ext φ)) (o:HO):aP H (upd H a o):=
 ⟨λ_ _ h=>by rw[aD (fO h hp (by intro z;cases z))];exact h,λ_ _ _ h=>by rw[aD (fO h hp (by intro z;cases z))];exact h⟩
theorem Ak (hr:aw k X.A):Bh X "dict.setdefault" (Ed X):=by
 rintro π s σ H x vs v us Q I rx rv ⟨a,b,kvs,o,d,w,e1,e2,hD,hdp,hk,hw,hl,h1,h2⟩;subst e1 e2;cases rx;obtain⟨u1,u2,rfl,r1,r2⟩:=mz rv;cases (show u1=Value.ref b from r1);obtain⟨xs,eH,kv,dd⟩:=hD.dict I;have hsz:xs.length<=sizeLine:=by rw[kv.length,sizeLine_eq];(clear hdp;lia)
 refine call_meetsIn PySem.F.slot_dict_setdefault dd.typeIs PySem.F.entry_dict_setdefault (PySem.F.args_dict_setdefault_3 _ _ _) (gS (jN X.prog X.w) a b hD.2.1 u2) ⟨uo hr,o,xs,jO I hdp hk,dd,hsz,λp hp=>?_,λhn h' hm' hs'=>?_⟩
 ·rcases kv.at (k:=o) with⟨e,e'⟩ | ⟨x',b',v',u',e,e',r,ru⟩
  ·rw[e'] at hp;cases hp
  ·rw[e'] at hp;cases hp;exact⟨v',H,I.tok _,ru,h1 x' v' e r⟩
 ·rcases kv.at (k:=o) with⟨e,e'⟩ | ⟨x',b',v',u',e,e',r,ru⟩
  ·have tl:=aP.ex eH (.ext (jP X.prog X.w a (xs++[(o,b,u2)])));obtain⟨ob,es,ep,m1,m2,m3,m4,_⟩:=id hm';have dh:jP X.prog X.w a (xs++[(o,b,u2)]) h':=⟨ob,es,ep,m1,m2,m3,m4⟩;refine⟨d,_,pC (t':=s.toks+(jN X.prog X.w).draws o) I (by rw[eH];exact True.intro) hs' ⟨ob,m1⟩ (qk dh),r2,h2 e _ ⟨by rw[length_append];exact hl,hD.2.1,?_,λp hp=>?_,_,bg,(gs.snoc hk hw r2 kv).mono tl⟩ tl⟩
   ·rw[map_append,List.nodup_append];refine⟨hD.2.2.1,by simp,λx hx y hy z=>?_⟩;simp only[map_cons,map_nil,mem_singleton] at hy;rw[hy] at z;obtain⟨p,hp,hpe⟩:=mem_map.mp hx;unfold eR at e;rw[Option.map_eq_none_iff,List.find?_eq_none] at e;exact e p hp (decide_eq_true (hpe.trans z))
   ·rcases mem_append.mp hp with hp | hp
    ·exact hD.2.2.2.1 p hp
    ·rw[mem_singleton.mp hp];exact hdp
  ·rw[hn] at e';cases e'
noncomputable def Cj (X:Cx):V->Hp->Prop:=λx H=>∃a kvs,x=.ref a/\kf X.prog X.w X.K kvs H a
theorem uq (π:List (Addr×Obj)) (σ:St) (H:Hp) (s:Shared) (x:V) (v:Value) (I:aC X π σ H s) (rx:bf x v) (h:Cj X x H):s.TypeIs v "dict"/\∀a,v=.ref a->∃ob,s.heap.get? a=some ob/\ob.dict=none:=by
 obtain⟨a,kvs,rfl,hD⟩:=h;cases rx;obtain⟨xs,_,_,dd⟩:=hD.dict I;refine⟨dd.typeIs,λb e=>?_⟩;cases e;obtain⟨ob,_,_,m1,m2,_⟩:=dd;exact⟨ob,m1,m2.2.1⟩
noncomputable def Al (P:Program) (w:World) (K:PySem.W.Frag) (to tk td:WE):WE:=λτ G q=>to τ G λx G1=>match x with
 | .ref a=>(∃kvs,G1 a=some (qj P w K kvs))/\tk τ G1 λy G2=>td τ G2 λd G3=>∃o kvs,y=.tup (ao o)/\o.dp<=3/\G3 a=some (qj P w K kvs)/\kvs.length+1<=1000/\(∀x,eR kvs o=some x->q x G3)/\(eR kvs o=none->q d (aL G3 a (qj P w K (kvs++[(o,d)]))))
 | _=>False
theorem An {o k e:Expr} {to tk te:WE} {apos cpos:Pos} {n:Nat} (hr:aw n X.A) (ho:QE X o to) (hk:QE X k tk) (he:QE X e te)
 (hbase:attributeBase o "setdefault" X.env (eval o X.env)=eval o X.env:=by rfl)
 (hfew:((backTo cpos (starEach [k,e] X.env)).all (λx=>!x.1)&&(backToKw cpos (keywordEach [] X.env)).all (λx=>x.1.isSome)
   &&decide (([k,e]:List Expr).length+([]:List Keyword).length+(if ([]:List Keyword).isEmpty then 0 else 1)<30))=true:=by rfl)
 (hline:(apos.endLine==cpos.line)=true:=by rfl) (hs:starEach [k,e] X.env=(false,eval k X.env)::starEach [e] X.env:=by rfl) (hs2:starEach [e] X.env=(false,eval e X.env)::starEach [] X.env:=by rfl) (hpl:(backTo cpos (starEach [e] X.env)).any (·.1)=false:=by rfl):
 QE X (.Call (.Attribute o "setdefault" apos) [k,e] [] cpos) (Al X.prog X.w X.K to tk te):=
 (Aj uq PySem.F.slot_dict_setdefault PySem.F.type_dict_setdefault (Ak hr) ho (cL hk (cL he pa_nil hs2) hs) hbase hfew hline hs hpl).imp λσ H Q z0=>z0.el λτ G q hs hg ht hQ=>
   ⟨τ,G,_,hs,hg,ht,λv H1 w G1 t1 r1 g1 q1=>by
     split at q1
     ·rename_i a;cases r1;obtain⟨⟨kvs,e1⟩,q1⟩:=q1;refine⟨⟨a,kvs,rfl,(g1 a _ e1).1⟩,τ,G1,_,hs.mono t1,g1,q1,λv2 H2 w2 G2 t2 r2 g2 q2=>?_⟩;refine⟨τ,G2,_,(hs.mono t1).mono t2,g2,q2,λv3 H3 w3 G3 t3 r3 g3 q3=>?_⟩;obtain⟨o,kvs,rfl,hdp,e2,hl,h1,h2⟩:=q3;have r2':=r2.mono t3;have tt:=(t1.trans t2).trans t3;cases r2 with
      | @tup b _ _ hT rr=>
        refine⟨a,b,kvs,o,v3,w3,rfl,rfl,(g3 a _ e2).1,hdp,r2',r3,hl,λw' v' hv rv'=>hQ _ _ _ _ tt rv' g3 (h1 w' hv),λhn xs hD tl=>?_⟩;exact hQ _ _ _ _ (tt.trans tl) (r3.mono tl) (g3.lay (g:=qj X.prog X.w X.K (kvs++[(o,w3)])) tl hD.ok) (h2 hn)
     ·exact q1.elim⟩
end
open PySem PySem.Spec PyProof.Rows Nm PySem.W
noncomputable def q0 {α:Type} (lt:Nat->Nat->Bool):KasT α->α
 | .ret a=>a
 | .ask i j k=>q0 lt (k (lt i j))
noncomputable def Ao {α:Type} (n:Nat):KasT α->Bool
 | .ret _=>true
 | .ask i j k=>decide (i<n)&&decide (j<n)&&Ao n (k true)&&Ao n (k false)
theorem nw {α:Type} {n:Nat} {lt:Nat->Nat->Bool} {cmp:Nat->Nat->(Bool->Shared->Prop)->Shared->Prop} {s:Shared} (hc:∀i j,i<n->j<n->∀C:Bool->Shared->Prop,C (lt i j) s->cmp i j C s) {Q:α->Shared->Prop}:∀t:KasT α,Ao n t=true->Q (q0 lt t) s->t.kasWp cmp Q s
 | .ret a,_,h=>h
 | .ask i j k,ok,h=>by
   simp only[Ao,Bool.and_eq_true,decide_eq_true_eq] at ok;refine hc i j ok.1.1.1 ok.1.1.2 _ ?_;have h:Q (q0 lt (k (lt i j))) s:=h;have:Ao n (k (lt i j))=true:=by
    cases lt i j with
    | true=>exact ok.1.2
    | false=>exact ok.2
   exact nw hc (k (lt i j)) this h
noncomputable def rc (σ:List Nat) (i j:Nat):Bool:=decide (σ.getD i 0<σ.getD j 0)
noncomputable def Ck (n:Nat) (σ:List Nat):Bool:=((q0 (rc σ) (kas_sort n)).toList.map λi=>σ.getD i 0)==List.range n&&(q0 (rc σ) (kas_sort n)).toList.all λi=>decide (i<n)
noncomputable def xf (n:Nat):Nat->List (List Nat)
 | 0=>[[]]
 | m+1=>(xf n m).flatMap λl=>(List.range n).map λx=>x::l
theorem ny {n:Nat}:∀{l:List Nat},(∀x,x∈l->x<n)->l∈xf n l.length
 | [],_=>mem_singleton.mpr rfl
 | x::l,h=>List.mem_flatMap.mpr ⟨l,ny λy hy=>h y (mem_cons_of_mem _ hy),mem_map.mpr ⟨x,List.mem_range.mpr (h x mem_cons_self),rfl⟩⟩
noncomputable def Dh:List Nat->Bool
 | []=>true
 | x::l=>!l.contains x&&Dh l
theorem ur:∀{l:List Nat},l.Nodup->Dh l=true
 | [],_=>rfl
 | x::l,h=>by
   rw[nodup_cons] at h;rw[Dh,ur h.2,Bool.and_true];simpa using h.1
noncomputable def re (n:Nat):Bool:=Ao n (kas_sort n)&&(xf n n).all λσ=>!Dh σ||Ck n σ
theorem Ee:re 2=true:=by decide+kernel
theorem Ef:re 3=true:=by decide+kernel
theorem Eg:re 4=true:=by decide+kernel
theorem Eh:re 5=true:=by decide+kernel
theorem Ap {n:Nat} (h2:2<=n) (h5:n<=5):re n=true:=by
 have:n=2∨n=3∨n=4∨n=5:=by lia
 rcases this with rfl | rfl | rfl | rfl
 ·exact Ee
 ·exact Ef
 ·exact Eg
 ·exact Eh
section
variable {X:Cx} {π:List (Addr×Obj)} {σ:St} {H:Hp} {s:Shared}
theorem lW (I:aC X π σ H s) {a b:O} {p q:Addr} (da:a.dp<=3) (rp:bK X.K H (.tup (ao a)) (.ref p)) (rq:bK X.K H (.tup (ao b)) (.ref q)):∃its its2:List Value,IsTup s.heap p its.toArray/\IsTup s.heap q its2.toArray/\its.length=a.len/\its2.length=b.len/\∀A:Around,A.units+20<cLine->fX A s its its2 (decide (O.cmp a b<0)):=by
 cases rp with
 | tup hT r=>
   cases rq with
   | tup hT2 r2=>
     obtain⟨its,rv,pt,_⟩:=I.tuple (cO.of hT);obtain⟨its2,rv2,pt2,_⟩:=I.tuple (cO.of hT2);obtain⟨l1,l2⟩:=gL a b;have hd:=eh a;refine⟨its,its2,pt,pt2,by rw[←rv.length,←r.length,aN],by rw[←rv2.length,←r2.length,aN],λA hu=>?_⟩;rw[←l2];exact pJ I 10 A (λh1 h2 h3 h4 q1 q2 q3 q4=>sL I 10 A h1 h2 h3 h4 (by (clear da l2 hd h1;lia)) q1 q2 q3 q4) (by (clear da l2 hd;lia)) (by (clear l2 hu;lia)) (bS a) (bS b) l1 r r2 rv rv2
theorem Aq (I:aC X π σ H s) {a b:O} {p q:Addr} (da:a.dp<=3) (rp:bK X.K H (.tup (ao a)) (.ref p)) (rq:bK X.K H (.tup (ao b)) (.ref q)) (hu:A.units+25<cLine):lB A s (.ref p) (.ref q) (decide (O.cmp a b<0)):=by
 obtain⟨its,its2,p1,p2,_,_,hc⟩:=lW I da rp rq;exact lB.tuples p1 p2 (by (clear da;lia)) (hc A.in1 (by show A.units+1+20<cLine;(clear da;lia)))
theorem ut {x y:Value} {b:Bool} (h:lB A s x y b) {Q:Bool->Shared->Prop} (q:Q b s):wpAny (model prog w) A (oneLt' false x y) Q E s:=by
 refine kat_one x y ?_;show wpAny (model prog w) A (richCompare .Lt x y) _ E s;exact h prog w E _ q
theorem xg (I:aC X π σ H s) {a b:O} {p q:Addr} (da:a.dp<=3) (rp:bK X.K H (.tup (ao a)) (.ref p)) (rq:bK X.K H (.tup (ao b)) (.ref q)) (hu:A.units+25<cLine) {Q:Bool->Shared->Prop} (h:Q (decide (O.cmp a b<0)) s):wpAny (model X.prog X.w) A (keyLt' general' (.ref p) (.ref q)) Q E s:=ut (Aq I da rp rq hu) h
theorem uu {prog:Program} {w:World} {A:Around} {Q:Bool->Shared->Prop} {r:Bool} {s:Shared} {fin:Bool}:∀{xs ys:List Value} {i:Nat},fX A s xs ys r->(xs.length=ys.length->fin=false)->(xs.length<ys.length->fin=true)->(ys.length<xs.length->fin=false)->Q r s->KatLex prog w A false fin Q (xs.zip ys) i s
 | _,_,i,.nn,h1,_,_,q=>by
   have:=h1 rfl;subst this;exact q
 | _,_,i,.nc,_,h2,_,q=>by
   have:=h2 (by simp);subst this;exact q
 | _,_,i,.cn,_,_,h3,q=>by
   have:=h3 (by simp);subst this;exact q
 | _,_,i,.eq he t,h1,h2,h3,q=>by
   refine kat_cons (he prog w _ _ (kat_yes ?_));exact uu t (λe=>h1 (by simp[e])) (λe=>h2 (by simpa using e)) (λe=>h3 (by simpa using e)) q
 | _,_,i,.ne he t,_,_,_,q=>by
   refine kat_cons (he prog w _ _ (kat_no ?_));rw[Bool.false_and];exact ut t q
theorem xh (I:aC X π σ H s) {a b:O} {p q:Addr} (da:a.dp<=3) (rp:bK X.K H (.tup (ao a)) (.ref p)) (rq:bK X.K H (.tup (ao b)) (.ref q)) (hu:A.units+25<cLine) {Q:Bool->Shared->Prop} (h:Q (decide (O.cmp a b<0)) s):wpAny (model X.prog X.w) A (keyLt' (tuples' false) (.ref p) (.ref q)) Q E s:=by
 obtain⟨its,its2,⟨o1,e1,c1,n1,d1⟩,⟨o2,e2,c2,n2,d2⟩,_,_,hc⟩:=lW I da rp rq;refine kat_lt e1 d1 e2 d2 (uu (hc A (by (clear da;lia))) (λe=>?_) (λe=>?_) (λe=>?_) h)
 ·exact decide_eq_false (by simp only[size_toArray];simp at e;(clear da hu;lia))
 ·exact decide_eq_true (by simpa using e)
 ·exact decide_eq_false (by simp only[size_toArray];simp at e;(clear da hu;lia))
theorem xi (I:aC X π σ H s) {a b:O} {p q:Addr} (da:a.dp<=3) (rp:bK X.K H (.tup (ao a)) (.ref p)) (rq:bK X.K H (.tup (ao b)) (.ref q)) (hu:A.units+25<cLine) {Q:Bool->Shared->Prop} (h:Q (decide (O.cmp a b<0)) s):wpAny (model X.prog X.w) A (keyLt' oneType' (.ref p) (.ref q)) Q E s:=by
 obtain⟨its,its2,⟨⟨cl1,dd1,da1,sl1⟩,e1,c1,n1,d1⟩,⟨⟨cl2,dd2,da2,sl2⟩,e2,c2,n2,d2⟩,_,_,hc⟩:=lW I da rp rq;simp only at c1 d1 c2 d2;subst c1 d1 c2 d2;have ty:s.TypeIs (.ref p) "tuple":=⟨_,e1,rfl⟩;rw[keyLt'_oneType,oneLt'_eq];simp only[if_true];refine wax (wpAny_cRoomFor_or (.inr (by (clear da;lia))) ?_);refine wax (wpAny_callSpecialIfBound?_slot (name:=Str.ofString "__lt__") ty PySem.F.slot_tuple_lt (call_meets PySem.F.slot_tuple_lt ty PySem.F.entry_tuple_lt (PySem.F.args_tuple_lt_2 _ _) (jp p q its.toArray its2.toArray n1 n2 dd1 dd2 sl1 sl2 (decide (O.cmp a b<0))) ⟨e1,e2,by simpa using hc A.in1 (by show A.units+1+20<cLine;(clear da;lia)),?_⟩));exact wpAny_truthy_bool h
end
noncomputable def fS (h:Heap) (d:Addr) (es:Array DictEntry) (ep:Nat):Prop:=∃o,h.get? d=some o/\o.ExactDict/\o.data=.dict es ep
theorem fS.at {h h':Heap} {d:Addr} {es:Array DictEntry} {ep:Nat} (x:fS h d es ep) (k:∀o,h.get? d=some o->h'.get? d=some o):fS h' d es ep:=let ⟨o,e,r⟩:=x;⟨o,k o e,r⟩
theorem fS.ty {d:Addr} {es:Array DictEntry} {ep:Nat} (x:fS s.heap d es ep):s.TypeIs (.ref d) "dict":=let ⟨o,e,c,_⟩:=x;⟨o,e,c.1⟩
section
variable {prog:Program} {w:World} {A:Around} {E:Value->Shared->Prop} {s:Shared} {it d:Addr} {i ep:Nat} {es:Array DictEntry}
theorem uv (lo:(d==sysModules)=false) (x:fS s.heap d es ep)
 (q:Q (.ref s.heap.objs.size) { s with heap:=s.heap.push { cls:= .type "dict_keyiterator",data:= .fields #[.ref d,.int 0 0,.int es.size 0,.int ep 0] } }):wpAny (model prog w) A (pyIter (.ref d)) Q E s:=by
 have ty:=x.ty;obtain⟨o,gO,_,dO⟩:=x;refine wpAny_pyIter_slot ty F.slot_dict_iter (wpAny_call_entry F.slot_dict_iter ty F.entry_dict_iter ?tree (F.args_dict_iter_1 _))
 case tree=>
  unfold Builtin.«dict.__iter__» Builtin.Dict.dictSlotNone;refine wax (wax (wpAny_notOrdered_dict ty (way (a:=Value.ref d) ?_)));show wpAny _ _ (Builtin.Dict.showsAll d >>= _) _ _ s;unfold Builtin.Dict.showsAll;rw[lo,if_neg Bool.false_ne_true];refine wax (way (wax (wpAny_dictEntries gO dO (wax (wpAny_dictEpoch gO dO ?_)))));refine wax (wpAny_newObj_type (way ⟨_,rfl,"dict_keyiterator",_,⟨_,Heap.get?_push_size _ rfl,rfl⟩,F.slot_dict_keyiterator_next.lookup,?_⟩));simpa[rawInt] using q
theorem uw {Q:Option Value->Shared->Prop} (ki:s.heap.IsKeyIter it d i es.size ep) (x:fS s.heap d es ep) (hi:i<es.size)
 (q:∀h',h'.IsKeyIter it d (i+1) es.size ep->Heap.SameBut it s.heap h'->Q (some es[i].key) { s with heap:=h' }):wpAny (model prog w) A (pyNext (.ref it)) Q E s:=by
 have tk:=ki.typeIs;obtain⟨o,gI,cI,dI⟩:=id ki;obtain⟨od,gO,_,dO⟩:=x;unfold pyNext;refine wax (wpAny_attempt (wpAny_callSpecial?_slot (name:=Str.ofString "__next__") tk F.slot_dict_keyiterator_next (wpAny_call_entry F.slot_dict_keyiterator_next tk F.entry_dict_keyiterator_next ?tree (F.args_dict_keyiterator_next_1 _))))
 case tree=>
  refine wax (way (wax (wax ?_)))
  first | refine wax (wpAny_typeNameOfWhole_keyiter tk (way (wax (wpAny_fieldsOf gI dI ?_)))) | refine wax (wpAny_typeNameOf_keyiter tk (way (wax (wpAny_fieldsOf gI dI ?_))))
  simp only[show Builtin.Dict_items.ownsTuple "dict_keyiterator"=false from by decide,Bool.false_eq_true,if_false];show wpAny _ _ (if (Value.ref d==Value.none)=true then _ else _) _ _ s;rw[show(Value.ref d==Value.none)=false from rfl,if_neg Bool.false_ne_true];refine wax (way (wax (wpAny_dictEntries gO dO ?_)));rw[if_neg (by simp)];refine wax (way (wax (wpAny_dictEpoch gO dO ?_)));rw[if_neg (by simp)];refine way ?_;simp only[show ¬((i:Int)<0) from by lia,if_false,Int.toNat_natCast,Array.getElem?_eq_getElem hi];refine wax ?_
  first | refine wax (wpAny_typeNameOfWhole_keyiter tk (way (wax (wpAny_isOneOf_keyiter tk ?_)))) | refine wax (wpAny_typeNameOf_keyiter tk (way (wax (wpAny_isOneOf_keyiter tk ?_))))
  show wpAny _ _ (setField (.ref it) 1 (rawInt ((i:Int)+1)) >>= _) _ _ s;refine wax (wpAny_setField gI dI (by simp) ?_);have ki':(s.heap.update it (Obj.mapFields (·.setIfInBounds 1 (rawInt ((i:Int)+1))))).IsKeyIter it d (i+1) es.size ep:=
   ⟨_,Heap.get?_update_self _ gI (Obj.isFreed_of_fields (Obj.data_mapFields dI _)),(Obj.cls_mapFields ..).trans cI,by rw[Obj.data_mapFields dI];simp[rawInt]⟩
  refine wax (wpAny_holding (wax (wpAny_isOneOf_keyiter (s:={ s with heap:=s.heap.update it (Obj.mapFields (·.setIfInBounds 1 (rawInt ((i:Int)+1)))) }) ki'.typeIs ?_)));exact way (a:=es[i].key) (way ⟨_,rfl,way (q _ ki' (Heap.SameBut.update ..))⟩)
theorem xj {Q:Option Value->Shared->Prop} (hh:A.handled=none) (ki:s.heap.IsKeyIter it d i es.size ep) (x:fS s.heap d es ep) (hi:es.size<=i)
 (q:∀h',Heap.ExtBut it s.heap h'->Q none { s with heap:=h' }):wpAny (model prog w) A (pyNext (.ref it)) Q E s:=by
 have tk:=ki.typeIs;obtain⟨o,gI,cI,dI⟩:=id ki;obtain⟨od,gO,_,dO⟩:=x;unfold pyNext;refine wax (wpAny_attempt (wpAny_callSpecial?_slot (name:=Str.ofString "__next__") tk F.slot_dict_keyiterator_next (wpAny_call_entry F.slot_dict_keyiterator_next tk F.entry_dict_keyiterator_next ?tree (F.args_dict_keyiterator_next_1 _))))
 case tree=>
  refine wax (way (wax (wax ?_)))
  first | refine wax (wpAny_typeNameOfWhole_keyiter tk (way (wax (wpAny_fieldsOf gI dI ?_)))) | refine wax (wpAny_typeNameOf_keyiter tk (way (wax (wpAny_fieldsOf gI dI ?_))))
  simp only[show Builtin.Dict_items.ownsTuple "dict_keyiterator"=false from by decide,Bool.false_eq_true,if_false];show wpAny _ _ (if (Value.ref d==Value.none)=true then _ else _) _ _ s;rw[show(Value.ref d==Value.none)=false from rfl,if_neg Bool.false_ne_true];refine wax (way (wax (wpAny_dictEntries gO dO ?_)));rw[if_neg (by simp)];refine wax (way (wax (wpAny_dictEpoch gO dO ?_)));rw[if_neg (by simp)];refine way ?_;simp only[show ¬((i:Int)<0) from by lia,if_false,Int.toNat_natCast,Array.getElem?_eq_none hi];refine wax ?_
  first | refine wax (wpAny_typeNameOfWhole_keyiter tk (way ?_)) | refine wax (wpAny_typeNameOf_keyiter tk (way ?_))
  show wpAny _ _ (setField (.ref it) 0 .none >>= _) _ _ s;refine wax (wpAny_setField gI dI (by simp) ?_);show wpAny _ _ (newExc (.type "StopIteration") [] >>= _) _ _ _;refine wax ?_;simp only[newExc,newTuple];refine wax (wpAny_newObj_type (wax (m:=firstArgMember _ _) (wpAny_of_eq (a:=Value.none) (by first | rfl | (simp only[firstArgMember];rfl)) (wpAny_newObj_type ?_ (by size_fits)))) (by size_fits));simp only[raiseNew];refine wax (wpAny_handled ?_);rw[show A.in1.handled=none from hh];refine wax (way (wpAny_throw ?_));refine wax (wpAny_isInstance (T:="StopIteration") (b:=true) ⟨_,Heap.get?_push_size _ rfl,rfl⟩ isSubtype_stop ?_);exact way (q _ (((Heap.SameBut.update ..).extBut.push _).push _))
theorem rf (hh:A.handled=none) (I:Addr) (hne:d≠I):Walks prog w A I [I,d] [I] es.size (λi v=>∃e,es[i]?=some e/\v=e.key) (λi h=>h.IsKeyIter I d i es.size ep/\fS h d es ep) where
 sub:=λb hb=>by simp at hb;simp[hb]
 frame:=λ_ _ _ st hk=>⟨st.1.at λo e=>hk I (by simp) o e,st.2.at λo e=>hk d (by simp) o e⟩
 item:=λi s Q E hi st hQ=>uw st.1 st.2 hi λh' ki' sb=>hQ _ h' s.toks ⟨_,Array.getElem?_eq_getElem hi,rfl⟩ ⟨ki',st.2.at λo e=>(sb.2 d hne).trans e⟩ λb o hb e=>(sb.2 b (λz=>hb (by simp[z]))).trans e
 done:=λs Q E st hQ=>xj hh st.1 st.2 (le_refl _) λh' eb=>hQ h' s.toks λb o hb e=>eb b o (λz=>hb (by simp[z])) e
 self:=λ_ _ _ _ st hQ=>wpAny_pyIter_keyiter st.1 hQ
theorem xk (lo:(d==sysModules)=false):KdlSrc prog w "dict" d d es.size (λi v=>∃e,es[i]?=some e/\v=e.key) (λh=>fS h d es ep) where
 type:=λ_ x=>x.ty
 there:=λ_ x=>let ⟨_,e,_⟩:=x;⟨Heap.lt_size e,Heap.lt_size e⟩
 keep:=λ_ _ x hk=>x.at λo e=>hk d (.inl rfl) o e
 notList:=by decide
 notTuple:=by decide
 hint:=λ_ _ _ _ x hq=>kdl_hint_dict x.ty hq
 iter:=λ_ _ hh x=>⟨_,_,(λ_ _ hq=>uv lo x hq),rf hh _ (let ⟨_,e,_⟩:=x;ne_of_lt (Heap.lt_size e)),⟨⟨_,Heap.get?_push_size _ rfl,rfl,rfl⟩,x.at λo e=>Heap.get?_push_of_some _ e⟩⟩
end
end L2
set_option maxHeartbeats 1000000
namespace L2
open PySem PySem.Spec PyProof.Rows Nm PySem.W
inductive NV (K:PySem.W.Frag) (H:Hp):List O->List Value->Prop where
 | nil:NV K H [] []
 | cons {o:O} {a:Addr} {os:List O} {us:List Value} (r:bK K H (.tup (ao o)) (.ref a)) (hd:o.dp<=3) (t:NV K H os us):NV K H (o::os) (.ref a::us)
theorem NV.length {H:Hp}:∀{os:List O} {us:List Value},NV K H os us->os.length=us.length
 | _,_,.nil=>rfl
 | _,_,.cons _ _ t=>congrArg (·+1) t.length
theorem NV.app {H:Hp}:∀{os ps:List O} {us vs:List Value},NV K H os us->NV K H ps vs->NV K H (os++ps) (us++vs)
 | _,_,_,_,.nil,t=>t
 | _,_,_,_,.cons r hd t,t2=> .cons r hd (t.app t2)
theorem NV.rev {H:Hp}:∀{os:List O} {us:List Value},NV K H os us->NV K H os.reverse us.reverse
 | _,_,.nil=> .nil
 | _,_,.cons r hd t=>by
   rw[List.reverse_cons,List.reverse_cons];exact t.rev.app (.cons r hd .nil)
theorem NV.at {H:Hp}:∀{os:List O} {us:List Value},NV K H os us->∀i,i<os.length->∃a,us.getD i Value.none=.ref a/\bK K H (.tup (ao (os.getD i .z))) (.ref a)/\(os.getD i .z).dp<=3
 | _,_,.nil,i,h=>absurd h (Nat.not_lt_zero _)
 | _,_,.cons r hd t,0,_=>⟨_,rfl,r,hd⟩
 | _,_,.cons r hd t,i+1,h=>t.at i (Nat.lt_of_succ_lt_succ h)
theorem NV.pick {H:Hp} {os:List O} (h:NV K H os us):∀{p:List Nat},(∀i,i∈p->i<os.length)->NV K H (p.map λi=>os.getD i .z) (p.map λi=>us.getD i Value.none)
 | [],_=> .nil
 | i::p,hp=>by
   obtain⟨a,h1,h2,h3⟩:=h.at i (hp i mem_cons_self);rw[map_cons,map_cons,h1];exact .cons h2 h3 (h.pick λj hj=>hp j (mem_cons_of_mem _ hj))
section
variable {X:Cx} {π:List (Addr×Obj)} {σ:St} {H:Hp} {s:Shared}
theorem iu {M:Model} {o:Obj} {h:Heap} (e:h.get? a=some o) (c:o.cls=.type "tuple"):Looks M h (typeOf (.ref a)) (.type "tuple"):=c▸((Looks.ld e).andThen .now)
theorem kS (I:aC X π σ H s) {M:Model} {A:Around} {E:Value->Shared->Prop}:∀{os:List O} {us:List Value},NV X.K H os us->∃fs:List (Option Value),fs.length=us.length/\(∀v,some v∈fs->Looks M s.heap (typeOf v) (.type "tuple"))/\∀{Q:List (Option Value)->Shared->Prop},Q fs s->wpAny M A (us.mapM firstOfTuple') Q E s
 | _,_,.nil=>⟨[],rfl,(λ_ h=>(nomatch h)),λq=>by rw[List.mapM_nil];exact way q⟩
 | _,_,.cons (o:=o) (a:=a) (us:=us) r hd t=>by
   obtain⟨fs,h1,h2,h3⟩:=kS I t;cases r with
   | tup hT rr=>
     obtain⟨its,rv,⟨ob,e,c,n,dd⟩,_⟩:=I.tuple (cO.of hT);refine⟨its[0]?::fs,by simp[h1],λv hv=>?_,λ{Q} q=>?_⟩
     ·rcases mem_cons.mp hv with hv | hv
      ·cases o with
       | z=>
         cases rr;cases rv;cases hv
       | c e1 n1 r1=>
         rw[bR] at rr;cases rr with
         | cons q1 qs=>
           cases rv with
           | cons w1 ws=>
             cases hv;unfold gp at q1;cases q1 with
             | tup hT2 _=>
               obtain⟨its2,_,⟨ob2,e2,c2,n2,dd2⟩,_⟩:=I.tuple (cO.of hT2);cases (show v=Value.ref _ from w1);exact iu e2 c2
      ·exact h2 v hv
     ·rw[List.mapM_cons];refine wax ?_;rw[kas_first_eq];refine wax ((iu e c).here ?_);rw[if_neg (by decide)];refine wax (listItems_at e dd (way (wax (h3 (way ?_)))));simpa using q
theorem nz (I:aC X π σ H s) {M:Model}:∀{os:List O} {us:List Value},NV X.K H os us->∀v,v∈us->Looks M s.heap (typeOf v) (.type "tuple")
 | _,_,.nil,v,hv=>(nomatch hv)
 | _,_,.cons r hd t,v,hv=>by
   rcases mem_cons.mp hv with rfl | hv
   ·cases r with
    | tup hT rr=>
      obtain⟨its,rv,⟨ob,e,c,n,dd⟩,_⟩:=I.tuple (cO.of hT);exact iu e c
   ·exact nz I t v hv
theorem nA {M:Model} {vs:List Value} (hne:vs≠[]) (hT:∀v,v∈vs->Looks M s.heap (typeOf v) (.type "tuple")) {Q:Option Value->Shared->Prop} (q:Q (some (.type "tuple")) s):wpAny M A (oneTypeOnly' vs.toArray) Q E s:=by
 rw[oneTypeOnly'_eq,List.mapM_toArray,map_eq_pure_bind];refine wax (wax (kas_mapM (r:=Value.type "tuple") _ (λv hv Q' hq=>(hT v hv).here hq) (way ?_)));cases vs with
 | nil=>exact absurd rfl hne
 | cons v vs=>
   have e0:(List.map (λ_=>Value.type "tuple") (v::vs)).toArray[0]?=some (Value.type "tuple"):=by simp
   have e1:((List.map (λ_=>Value.type "tuple") (v::vs)).toArray.all λx=>x==Value.type "tuple")=true:=by simp
   rw[e0];simp only[e1,if_true];exact way q
theorem xm (I:aC X π σ H s) {os:List O} (nv:NV X.K H os us) (h1:1<=us.length) {Q:SortKind->Shared->Prop} (q:∀κ,(κ=tuples' false∨κ=general'∨κ=oneType')->Q κ s):wpAny (model X.prog X.w) A (keyKind' us.toArray) Q E s:=by
 obtain⟨fs,l1,l2,l3⟩:=kS (M:=model X.prog X.w) (A:=A) (E:=E) I nv;have hne:us≠[]:=λz=>by rw[z] at h1;exact absurd h1 (by decide)
 rw[kat_kind_eq,List.mapM_toArray,map_eq_pure_bind];refine wax (wax (l3 (way ?_)))
 by_cases hall:(fs.toArray.all λx=>x.isSome)=true
 ·rw[if_pos hall];refine wax (wpAny_rule ?_);have hfm:(fs.toArray.filterMap id)=(fs.filterMap id).toArray:=by simp
  rw[hfm];refine wax (nA ?_ (λv hv=>?_) ?_)
  ·intro z;have:fs≠[]:=λz2=>by rw[z2] at l1;exact hne (List.eq_nil_of_length_eq_zero l1.symm)
   cases fs with
   | nil=>exact this rfl
   | cons f fs=>
     cases f with
     | none=>simp at hall
     | some v=>simp at z
  ·obtain⟨x,hx,hv⟩:=List.mem_filterMap.mp hv;exact l2 v (by rw[←hv];exact hx)
  ·exact way (q _ (.inl rfl))
 ·rw[if_neg hall]
  by_cases h0:(fs.toArray[0]?.bind id).isSome=true
  ·rw[if_pos h0];exact way (q _ (.inr (.inl rfl)))
  ·rw[if_neg h0];refine wax (nA hne (nz I nv) ?_);exact way (q _ (.inr (.inr rfl)))
theorem xn (I:aC X π σ H s) {a b:O} {p q:Addr} (da:a.dp<=3) (rp:bK X.K H (.tup (ao a)) (.ref p)) (rq:bK X.K H (.tup (ao b)) (.ref q)) (hu:A.units+25<cLine) {κ:SortKind} (hκ:κ=tuples' false∨κ=general'∨κ=oneType') {Q:Bool->Shared->Prop} (h:Q (decide (O.cmp a b<0)) s):wpAny (model X.prog X.w) A (keyLt' κ (.ref p) (.ref q)) Q E s:=by
 rcases hκ with rfl | rfl | rfl
 ·exact xh I da rp rq hu h
 ·exact xg I da rp rq hu h
 ·exact xi I da rp rq hu h
theorem rl (vs:List Value):(vs.toArray.zip vs.toArray).reverse=pairsOf vs.reverse:=by
 apply Array.toList_inj.mp;show(vs.toArray.zip vs.toArray).reverse.toList=(vs.reverse.toArray.zip vs.reverse.toArray).toList;rw[Array.toList_reverse,Array.toList_zip,Array.toList_zip];show(List.zip vs vs).reverse=List.zip vs.reverse vs.reverse;unfold List.zip;exact List.reverse_zipWith rfl
theorem uz {os:List O} {n:Nat} (hn:os.length=n) (h2:2<=n) (h5:n<=5) (hd:os.Nodup):Ao n (kas_sort n)=true/\∃p:List Nat,p=(q0 (rc (os.map (rk os))) (kas_sort n)).toList/\(p.map λi=>(os.map (rk os)).getD i 0)=List.range n/\∀i,i∈p->i<n:=by
 have hc:=Ap h2 h5;unfold re at hc;rw[Bool.and_eq_true] at hc;refine⟨hc.1,_,rfl,?_⟩;have hm:os.map (rk os)∈xf n n:=by
  have:=ny (n:=n) (l:=os.map (rk os)) λx hx=>by
   obtain⟨o,ho,rfl⟩:=mem_map.mp hx;rw[←hn];exact zF ho
  rw[length_map,hn] at this;exact this
 have hnd:(os.map (rk os)).Nodup:=by
  rw[List.Nodup,List.pairwise_map];exact hd.imp_of_mem λ{a b} ha hb hne z=>hne (zG ha hb z)
 have h3:=all_eq_true.mp hc.2 _ hm;rw[ur hnd,Bool.not_true,Bool.false_or] at h3;unfold Ck at h3;rw[Bool.and_eq_true] at h3;refine⟨by simpa using h3.1,λi hi=>?_⟩;have:=all_eq_true.mp h3.2 i hi;simpa using this
theorem uA {os:List O} {i j:Nat} (hi:i<os.length) (hj:j<os.length):rc (os.map (rk os)) i j=decide (O.cmp (os.getD i .z) (os.getD j .z)<0):=by
 have e:∀k,k<os.length->(os.map (rk os)).getD k 0=rk os (os.getD k .z)/\os.getD k .z∈os:=λk hk=>by
  rw[List.getD_eq_getElem?_getD,List.getD_eq_getElem?_getD,List.getElem?_map,List.getElem?_eq_getElem hk];exact⟨rfl,getElem_mem hk⟩
 unfold rc;rw[(e i hi).1,(e j hj).1];exact decide_eq_decide.mpr (tH (e i hi).2 (e j hj).2)
theorem rm (I:aC X π σ H s) {vs:List Value} {os:List O} {n:Nat} {R:PySem.Fin->Shared->Prop} (ho:s.heap.get? a=some (seqObj "list" vs.toArray n)) (fa:iM X π H a) (nv:NV X.K H os vs) (hnd:os.Nodup) (h5:vs.length<=5) (hu:A.units+25<cLine)
 (h:∀(out:List Value) (ks:List O) (h':Heap) (e:Nat),(∀b o,b≠a->s.heap.get? b=some o->h'.get? b=some o)->h'.get? a=some (seqObj "list" out.toArray e)->NV X.K H ks out->dy ks->ks.Perm os->R (.done (.ret .none)) { s with heap:=h' }):
 wpAny (model X.prog X.w) A (Builtin.«list.sort» ⟨[.ref a],[(Str.ofString "reverse",.bool true)]⟩) R E s:=by
 have hlen:=nv.length;rw[list_sort_rev];have ha:a<s.heap.objs.size:=Heap.lt_size ho;refine wax (listItems_at ho rfl ?_);refine wax (listUpdate_at ho rfl ?_ (by rw[size_toArray,sizeLine_eq];lia) (zero_le _));obtain⟨e1,ho1⟩:∃e1,(s.heap.update a (Obj.mapSeq λ_=> #[])).get? a=some (seqObj "list" #[] e1):=⟨_,get?_update_seq ho (λ_=> #[])⟩;refine wax (seqEpoch_at ho1 rfl ?_);refine wax (wpAny_newTuple ?_ (by show vs.length<=_;rw[sizeLine_eq];lia));refine wax (wpAny_newList ?_ (zero_le _));refine wpAny_holding ?_;have sb:Heap.SameBut a s.heap (s.heap.update a (Obj.mapSeq λ_=> #[])):=Heap.SameBut.update ..;have keep6:∀b o,b≠a->s.heap.get? b=some o->(((s.heap.update a (Obj.mapSeq λ_=> #[])).push (seqObj "tuple" vs.toArray 0)).push (seqObj "list" #[] 0)).get? b=some o:=λb o hb e=>Heap.get?_push_of_some _ (Heap.get?_push_of_some _ ((sb.2 b hb).trans e));have ho6:(((s.heap.update a (Obj.mapSeq λ_=> #[])).push (seqObj "tuple" vs.toArray 0)).push (seqObj "list" #[] 0)).get? a=some (seqObj "list" #[] e1):=Heap.get?_push_of_some _ (Heap.get?_push_of_some _ ho1);show wpAny (model X.prog X.w) A _ R E { s with heap:=((s.heap.update a (Obj.mapSeq λ_=> #[])).push (seqObj "tuple" vs.toArray 0)).push (seqObj "list" #[] 0) };generalize ((s.heap.update a (Obj.mapSeq λ_=> #[])).push (seqObj "tuple" vs.toArray 0)).push (seqObj "list" #[] 0)=h6 at keep6 ho6 ⊢;obtain⟨f0,f1,f2,f3,f4,f5⟩:=fa;have I6:aC X π σ H { s with heap:=h6 }:=I.turned (t':=s.toks) keep6 f0 f1 f3 f4 f5;simp only[if_true];refine wax (wpAny_rule ?_)
 -- what is left once the order is known
 have fin:∀(out:List Value) (ks:List O),NV X.K H ks out->dy ks->ks.Perm os->out.length=vs.length->wpAny (model X.prog X.w) A (Builtin.List.listUpdate (.ref a) λ_=>out.toArray) (λ_ s'=>∃h' e,s'={ s with heap:=h' }/\(∀b o,b≠a->s.heap.get? b=some o->h'.get? b=some o)/\h'.get? a=some (seqObj "list" out.toArray e)) E { s with heap:=h6 }:=λout ks _ _ _ hl=>by
  refine listUpdate_at ho6 rfl ?_ (zero_le _) (by rw[size_toArray,sizeLine_eq];(clear hu ha f3;lia));have sb2:Heap.SameBut a h6 (h6.update a (Obj.mapSeq λ_=>out.toArray)):=Heap.SameBut.update ..;exact⟨_,_,rfl,λb o hb e=>(sb2.2 b hb).trans (keep6 b o hb e),get?_update_seq ho6 λ_=>out.toArray⟩
 by_cases h2:vs.toArray.size<2
 ·rw[if_pos h2,if_pos h2];refine wax (way ?_);rw[StateT.run_pure];refine wax (way ?_);dsimp only;refine wax (seqEpoch_at ho6 rfl ?_);have eo:((arrOf (SortSt.mk' general' (vs.toArray.zip vs.toArray).reverse #[] 7 none)).map (·.2)).reverse=vs.toArray:=by
   show(((vs.toArray.zip vs.toArray).reverse).map (·.2)).reverse=vs.toArray;apply Array.toList_inj.mp;simp[List.map_snd_zip]
  rw[eo];have hd1:dy os:=by
   have:os.length<2:=by rw[hlen];simpa using h2
   match os,this with
   | [],_=>exact List.Pairwise.nil
   | [x],_=>exact List.pairwise_singleton _ _
  refine wax (wpAny_mono (fin vs os nv hd1 (List.Perm.refl _) rfl) (λ_ s' z9=>?_) λ_ _ x=>x);obtain⟨h',e,es,k1,k2⟩:=z9;subst es;simp only[bne_self_eq_false,Bool.false_eq_true,if_false];exact way (h vs os h' e k1 k2 nv hd1 (List.Perm.refl _))
 ·rw[if_neg h2,if_neg h2];have hn2:2<=vs.length:=by simpa using h2
  refine wax (xm I6 nv (by (clear hu ha f3 h2;lia)) λκ hκ=>?_);have nv':=nv.rev;have hl':os.reverse.length=vs.length:=by rw[length_reverse];exact hlen
  have hnd':os.reverse.Nodup:=by rw[List.Nodup,List.pairwise_reverse];exact hnd.imp λh=>h.symm
  obtain⟨ok,p,hp,hp1,hp2⟩:=uz hl' hn2 h5 hnd';obtain⟨dsc,prm⟩:=wf hl' hnd' hp1 hp2;have nvp:=(nv'.pick (p:=p) λi hi=>by rw[hl'];exact hp2 i hi).rev;have hlp:p.length=vs.length:=by have:=congrArg List.length hp1;simpa using this
  have hask:(kas_sort vs.length).kasWp (kas_cmp X.prog X.w A κ (pairsOf vs.reverse)) (λp' s'=>s'={ s with heap:=h6 }/\p'.toList=p) { s with heap:=h6 }:=by
   refine nw (n:=vs.length) (lt:=rc (os.reverse.map (rk os.reverse))) (λi j hi hj C hC=>?_) _ ok ⟨rfl,hp.symm⟩;rw[←kas_ask_eq];unfold kas_ask;obtain⟨a1,g1,g2,g3⟩:=nv'.at i (by rw[hl'];exact hi);obtain⟨a2,k1,k2,k3⟩:=nv'.at j (by rw[hl'];exact hj);rw[g1,k1];rw[uA (by rw[hl'];exact hi) (by rw[hl'];exact hj)] at hC;exact xn I6 g3 g2 k2 hu hκ hC
  have est:SortSt.mk' κ (vs.toArray.zip vs.toArray).reverse #[] 7 none=kas_st κ (pairsOf vs.reverse) (List.toArray (List.range vs.length)):=by
   have e:=kas_range (pairsOf vs.reverse);rw[pairsOf_size,length_reverse] at e;rw[rl];show SortSt.mk' κ (pairsOf vs.reverse) #[] 7 none=SortSt.mk' κ ((List.toArray (List.range vs.length)).map (kas_item (pairsOf vs.reverse))) #[] 7 none;rw[e]
  have run:=kas_runs (E:=E) (κ:=κ) (it:=pairsOf vs.reverse) (Q:=λ_ st' s'=>s'={ s with heap:=h6 }/\(arrOf st').map (·.2)=(p.map λi=>vs.reverse.getD i Value.none).toArray/\failedOf st'=none) hn2 (by (clear hu ha f3 h2;lia)) (λp' st' s' a1 a2 a3 a4=>⟨a4.1,by
   apply Array.toList_inj.mp;rw[a2,Array.map_map,Array.toList_map,a4.2];exact List.map_congr_left λi _=>by show(kas_item (pairsOf vs.reverse) i).2=_;rw[kas_item_eq],a3⟩) hask
  rw[←est] at run;refine wax (wpAny_mono run ?_ λ_ _ e=>e);rintro⟨⟨⟩,st'⟩ s' ⟨rfl,har,hf⟩;dsimp only;refine wax (seqEpoch_at ho6 rfl ?_);rw[har,show(p.map λi=>vs.reverse.getD i Value.none).toArray.reverse=((p.map λi=>vs.reverse.getD i Value.none).reverse).toArray by simp];have prm2:=prm.trans (List.reverse_perm os);refine wax (wpAny_mono (fin _ _ nvp dsc prm2 (by rw[length_reverse,length_map,hlp])) (λ_ s' z9=>?_) λ_ _ x=>x);obtain⟨h',e,es,k1,k2⟩:=z9;subst es;rw[hf];simp only[bne_self_eq_false,Bool.false_eq_true,if_false];exact way (h _ _ h' e k1 k2 nvp dsc prm2)
end
section
variable {X:Cx} {π:List (Addr×Obj)} {σ:St} {H:Hp} {s:Shared}
theorem gs.ents {P:Program} {w:World} {K:PySem.W.Frag}:∀{kvs:List (O×W)} {xs:List (O×Addr×Value)},gs K H kvs xs->(∀p,p∈kvs->p.1.dp<=3)->NV K H (kvs.map (·.1)) ((xs.map (entryOfKey (jN P w))).map (·.key))
 | _,_,.nil,_=> .nil
 | _,_,.cons rk _ _ t,h=> .cons rk (h _ mem_cons_self) (gs.ents t λp hp=>h p (mem_cons_of_mem _ hp))
theorem o6 (hr:aw k X.A) (hc:X.calm=true) (I:aC X π σ H s) {d:Addr} {kvs:List (O×W)} (hD:kf X.prog X.w X.K kvs H d) (h5:kvs.length<=5)
 (h:∀(h1:Heap) (ks:List O) (out:List Value) (h':Heap) (tk e:Nat),aC X π σ H { s with heap:=h1,toks:=tk }->(∀b o,h1.get? b=some o->h'.get? b=some o)->h'.get? h1.objs.size=some (seqObj "list" out.toArray e)->NV X.K H ks out->dy ks->ks.Perm (kvs.map (·.1))->Q (.ref h1.objs.size) { s with heap:=h',toks:=tk }):
 wpAny (model X.prog X.w) X.A (call (.builtin "sorted") [.ref d] [(Str.ofString "reverse",.bool true)]) Q E s:=by
 have hun:=hr.un;obtain⟨xs,eH,kv,ob,es,ep,m1,m2,m3,m4,_⟩:=hD.dict I;have hsz:es.size=kvs.length:=by rw[size_of_entries m4,kv.length]
 refine call_function_entry_kw kind_sorted plain_sorted entry_sorted (args_sorted_rev _ _) ?_;unfold Builtin.«sorted»;refine wax (m:=checkCount "sorted" 1 1 _) (way ?_);refine wax (kdu_collect (A:=X.A.in1) (xk (es:=es) (ep:=ep) hD.2.1) (I.ok.hd hc) ⟨ob,m1,m2,m3⟩ (by rw[hsz,sizeLine_eq];lia) λh1 tk acc k1 hacc=>?_);have hal:acc.toList=es.toList.map (·.key):=by
  apply List.ext_getElem?;intro i;rw[List.getElem?_map]
  by_cases hi:i<es.size
  ·have hi2:i<acc.size:=by rw[hacc.1];exact hi
   obtain⟨e,e1,e2⟩:=hacc.2 i acc[i] (Array.getElem?_eq_getElem hi2);rw[Array.getElem?_toList,Array.getElem?_toList,e1,Array.getElem?_eq_getElem hi2,e2]
   rfl
  ·rw[Array.getElem?_toList,Array.getElem?_toList,Array.getElem?_eq_none (by rw[hacc.1];(clear h5 hun hsz;lia)),Array.getElem?_eq_none (by (clear h5 hun hsz;lia))]
   rfl
 have nv:NV X.K H (kvs.map (·.1)) acc.toList:=by
  rw[hal,m4];exact gs.ents kv hD.2.2.2.1
 have hlen:acc.toList.length<=5:=by rw[←nv.length,length_map];exact h5
 refine wax (wpAny_newList ?_ (by rw[sizeLine_eq];lia));have I1:aC X π σ H { s with heap:=h1,toks:=tk }:=I.kept k1;have fp:iM X π H h1.objs.size:=I1.fpOk (le_refl _) (I1.hok.fresh (le_refl _));have I2:aC X π σ H { s with heap:=h1.push (seqObj "list" acc.toList.toArray 0),toks:=tk }:=I1.kept λb o e=>Heap.get?_push_of_some _ e;refine wax (wpAny_holding (wpAny_call_entry_kw slot_list_sort ⟨_,Heap.get?_push_size _ rfl,rfl⟩ entry_list_sort (rm I2 (Heap.get?_push_size _ rfl) fp nv hD.2.2.1 hlen (by show X.A.units+1+1+25<cLine;(clear h5 hsz hlen;lia)) λout ks h' e k2 g2 nvk ds pm=>⟨_,rfl,?_⟩) (args_list_sort_rev _ _)));exact way ⟨_,rfl,h h1 ks out h' tk e I1 (λb o e=>k2 b o (ne_of_lt (Heap.lt_size e)) (Heap.get?_push_of_some _ e)) g2 nvk ds pm⟩
theorem NV.vals {K:PySem.W.Frag}:∀{os:List O} {us:List Value},NV K H os us->∃vs:List V,aV K H (os.map λo=> .tup (ao o)) vs/\aX vs us
 | _,_,.nil=>⟨[],.nil,.nil⟩
 | _,_,.cons (a:=a) r _ t=>by
   obtain⟨vs,h1,h2⟩:=NV.vals t;exact⟨.ref a::vs,.cons r h1,.cons rfl h2⟩
noncomputable def o7 (P:Program) (w:World) (K:PySem.W.Frag) (te:WE):WE:=λτ G q=>te τ G λx G1=>match x with
 | .ref a=>∃kvs,G1 a=some (qj P w K kvs)/\kvs.length<=5/\∀(p:Addr) (ks:List O),G1 p=none->dy ks->ks.Perm (kvs.map (·.1))->q (.ref p) (aL G1 p (.lst (ks.map λo=> .tup (ao o))))
 | _=>False
theorem nB:bootBuiltins "sorted"=some (.builtin "sorted"):=by decide+kernel
theorem uB {n:Nat} {te:WE} {j} {p pos kp cp:Pos} (hr:aw n X.A) (hc:X.calm=true) (hg:Gl X "sorted") (hm:X.mg "sorted"=none) (he:QE X e te)
 (hs1:starEach [e] X.env=(false,eval e X.env)::starEach [] X.env:=by rfl) (hb1:backTo pos (starEach [e] X.env)=(false,eval e X.env)::backTo pos (starEach [] X.env):=by rfl) (hpl:(backTo pos (starEach [e] X.env)).any (·.1)=false:=by rfl):
 QE X (.Call (.Name "sorted" p) [e] [⟨some "reverse",.Constant (.bool true) j cp,kp⟩] pos) (o7 X.prog X.w X.K te):=by
 rintro π s σ H Q I ⟨τ,G,q,hs,hgG,ht,hQ⟩;refine wpAny_Call_Name_kw (fU I hg hm nB ?_);have go:=(cL he pa_nil hs1) pos π s σ H (λvs H1=>∃v w G1,vs=[v]/\aP H H1/\bK X.K H1 w v/\aM X.K H1 G1/\(match w with
  | .ref a=>∃kvs,G1 a=some (qj X.prog X.w X.K kvs)/\kvs.length<=5/\∀(p:Addr) (ks:List O),G1 p=none->dy ks->ks.Perm (kvs.map (·.1))->q (.ref p) (aL G1 p (.lst (ks.map λo=> .tup (ao o))))
  | _=>False)) I ⟨τ,G,_,hs,hgG,ht,λv H1 w G1 t1 r1 g1 q1=>⟨v,w,G1,rfl,t1,r1,g1,q1⟩⟩
 refine callWith_kw (bV go λus s1 ⟨vs,H1,I1,rv,v,w,G1,ev,t1,rw1,g1,hw⟩=>kws_cons ?_) hb1 hpl rfl rfl;subst ev;refine bV (xC (X:=X) (b:=true) (j:=j) (pos:=cp) π s1 σ H1 (λv H2=>v=.bl true/\H2=H1) I1 ⟨rfl,rfl⟩) λu2 s2 ⟨v2,H2,I2,rv2,e1,e2⟩=>kws_nil ?_;subst e1 e2;cases (show u2=Value.bool true from rv2);show wpAny _ _ (call (.builtin "sorted") us [("reverse",.bool true)]) _ _ s2;split at hw
 ·rename_i a;obtain⟨kvs,e,h5,h⟩:=hw;cases rw1;obtain⟨u,rfl,ru⟩:=eU rv;cases (show u=Value.ref a from ru);refine o6 hr hc I2 (g1 a _ e).1 h5 λh1 ks out h' tk ee I3 k3 g3 nvk ds pm=>?_;obtain⟨vs,r1,r2⟩:=nvk.vals;have hl:ks.length<=5:=by have:=pm.length_eq;rw[length_map] at this;lia
  have hp:=I3.hok.fresh (le_refl h1.objs.size);have hvl:vs.length<=sizeLine:=by rw[←r1.length,length_map,sizeLine_eq];lia
  refine⟨.ref h1.objs.size,_,I3.laid (t':=tk) k3 (le_refl _) (show bB X.prog X.w _ h' _ (.lst vs) from ⟨hvl,out,ee,r2,g3⟩),rfl,?_⟩;exact hQ _ _ _ _ (t1.trans (aP.new hp _)) (.ref _) (g1.put (aP.new hp _) r1 (by rw[length_map];lia)) (h _ ks (g1.fresh hp) ds pm)
 ·exact hw.elim
end
open PySem PySem.Spec PyProof.Rows
theorem d3 {x qual:Str} {f:Addr} {N ps:List Str} {sp:bP} (F:cq K x qual st f fd) (S:bM N ps (am st)) (len:∀ws G q e,sp ws G q e->ws.length=ps.length) (hb:∀(cdv:Value) (A:Around) (outer:List Env) (s:Shared) (H:Hp) (E:XK),N.Nodup->aw k (A.deeper (envOfC qual (am st) s.heap.objs.size f cdv))->∃t,mL (dm sg P w K mg base N qual (am st) f cdv A outer s H E).nox (ap st) t/\∀(ws:List W) (G:Gp) (q:WK) (e:WX),sp ws G q e->t { nx:=λ_ G1=>∃G0,aF G0 G1/\q .non G0,rt:=λw G1=>∃G0,aF G0 G1/\q w G0 } (ia N ws) G):bW P w K mg base (k+1) f fd ps sp:=y9 F S len λ_ _ _ _ _ _ hr=>hb _ _ _ _ _ _ S.nd hr
end L2
open PySem PySem.Spec PyProof.Rows L2 Nm
seal QE QT QW QA QS mL QG Bl QI QO xW iB y6 dM
seal PySem.compareOp PySem.binaryOp PySem.unaryOp
set_option bootstrap.genMatcherCode true
set_option compiler.extract_closed false
local macro_rules | `(tactic| walk_at "s") => `(tactic| exact ⟨rfl, rfl, rfl, by decide +kernel, rfl, by decide +kernel, by decide +kernel⟩)
local macro_rules | `(tactic| walk_at "l") => `(tactic| (intro ws G q e h; repeat (first | (obtain ⟨h1, _⟩ := h; subst h1; rfl) | obtain ⟨_, h⟩ := h)))
local macro_rules | `(tactic| walk_at "R") => `(tactic| simp (config := { failIfUnchanged := false, maxSteps := 2000000 }) only [BZ, zD, zC, sX, wa, ul, Al, o7, xc, ow, x4, Af, xZ, Ag, Ah, eW, x9, ya, yb, oY, uf, oZ, yc, Ac, Ad, tV, tW, tU, kP, B9, wN, qc, x8, zz, BX, xY, pN, jr, zz, mR, ia, y8, Da, pD, kA, dr, wC, BG, Bt, xP, vH, sO, sS, xX, sV, sU, cW, gz, Db, pE, j8, Br, Bs, By, Bm, Fd, Bn, xN, Bo, xO, Bq, xQ, xU, pH, BE, BD, BV, sG, BC, kC, sj, kB, si, zd, xT, L2.vInt, L2.vInt0, zo, zq, sy, sA, zn, sx, vK, zc, sr, pF, zk, Bu, sQ, zt, List.map_cons, List.map_nil, List.length_cons, List.length_nil, List.replicate_succ, List.replicate_zero, List.cons_append, List.nil_append, List.append_nil, List.getElem?_cons_zero, List.getElem?_cons_succ, List.set_cons_zero, List.set_cons_succ, Nat.reduceAdd, Nat.reduceSub, Nat.zero_add, Nat.add_zero, Nat.sub_self, Nat.sub_zero, D4, D5, D7, Option.some.injEq, exists_eq_left', tO, wk, oR, tP, wm, D6, decide_eq_true_eq, Bool.not_eq_true', decide_eq_false_iff_not, true_and, Nat.zero_le, zP, ni, pK, sM, vt, A5, Int.reduceLE, Int.reduceLT, Nat.reducePow, Nat.reduceLT, Nat.reduceLeDiff, Int.reduceToNat, Int.reducePow, Int.reduceNeg, and_true, or_true, true_or, and_self, wu, zQ, wv, ww, wz, wA, wB, wD, wE, wF, wG, wH, wI, pZ, wJ, Int.toNat_natCast, if_true, if_false, Bool.false_eq_true, Bool.true_eq_false, Bool.not_true, Bool.not_false, eq_self, not_true_eq_false, not_false_eq_true, zR, zS, zT, zU])
local macro_rules | `(tactic| walk_at "s") => `(tactic| exact ⟨rfl, rfl, rfl, by decide +kernel, rfl, by decide +kernel, by decide +kernel⟩)
namespace Lw
open PySem PySem.Spec PyProof.Rows L2 Nm
set_option hygiene false
local macro_rules | `(tactic| walk_at "a") => `(tactic| (subst hU; refine aT fun U hU => ?_; walk_at "R"))
local macro_rules | `(tactic| walk_at "a0") => `(tactic| (refine aT fun U hU => ?_; walk_at "R"))
local macro_rules | `(tactic| walk_at "b") => `(tactic| (subst hU1; refine aT fun U1 hU1 => ?_; walk_at "R"))
set_option hygiene true
noncomputable def aU (i:Nat):Stmt:=PySem.Challenge.pw_hydrahouse_k65_each_step_falls.main.body.getD i (.Pass ⟨0,0,0,0⟩)
noncomputable def bd (i j:Nat):Stmt:=(D1 (aU i)).getD j (.Pass ⟨0,0,0,0⟩)
structure Txt (K:PySem.W.Frag) (mg:Str->Option Value):Prop where
 d_is_whole:vS K mg "is_whole" (aU 5) ["thing","least"] [.int 0]
 d_whole:Df K mg "whole" (aU 6) ["n"]
 d_endless:Df K mg "endless" (aU 7) []
 d_raised:vS K mg "raised" (aU 8) ["exponent","times"] [.int 1]
 d_compare:Df K mg "compare" (aU 9) ["a","b"]
 d_whole_part:Df K mg "whole_part" (aU 10) ["a"]
 d_without_whole:Df K mg "without_whole" (aU 11) ["a"]
 d_plus:Df K mg "plus" (aU 13) ["a","b"]
 d_parts_above:Df K mg "parts_above" (aU 14) ["a","exponent"]
 d_total:Df K mg "total" (aU 15) ["some"]
 d_times:Df K mg "times" (aU 17) ["a","b"]
 d_weight_of:Df K mg "weight_of" (aU 19) ["things"]
 d_held:Df K mg "held" (aU 20) ["boxes","box"]
 d_by_exponent:Df K mg "by_exponent" (aU 30) ["marks"]
 d_weight:Df K mg "weight" (aU 32) ["rows"]
 d_trace:vS K mg "trace" (aU 33) ["rows","boxes","most"] [.int 50]
 d_put_ahead:Df K mg "put_ahead" (aU 34) ["left","things"]
 d_weight_left:Df K mg "weight_left" (aU 35) ["left"]
 d_told:Df K mg "told" (aU 36) ["left","boxes"]
 d__law_cell_at:Df K mg "_law_cell_at" (aU 38) ["_law_script","_law_k"]
 d__law_amount:Df K mg "_law_amount" (aU 39) ["_law_cell"]
 d__law_order:Df K mg "_law_order" (aU 40) ["_law_one","_law_other"]
 d__law_is_form:Df K mg "_law_is_form" (aU 41) ["_law_thing"]
 d__law_exponent:Df K mg "_law_exponent" (aU 42) ["_law_number"]
 d__law_marks:Df K mg "_law_marks" (aU 43) ["_law_cell","_law_box","_law_names"]
 d__law_deep:Df K mg "_law_deep" (aU 44) ["_law_thing"]
 d__law_rows:Df K mg "_law_rows" (aU 45) ["_law_cells","_law_names"]
 d__law_made:Df K mg "_law_made" (aU 46) ["_law_thing"]
 d__law_falling:Df K mg "_law_falling" (aU 47) ["_law_found","_law_most"]
 k_Set:∃C:Addr,mg "Set"=some (.ref C)/\cV K C/\ay K C "box"/\ay K C "amount"/\vc K C "Set.__init__" (bd 22 0) ["self","box","amount"]/\Md K C "step" "Set.step" (bd 22 1) ["self","boxes"]/\Md K C "weigh" "Row.weigh" (bd 21 0) ["self"]/\∃D:Addr,mg "Row"=some (.ref D)/\XD K D/\mroIn K C (.ref D)=some true
 k_Copy:∃C:Addr,mg "Copy"=some (.ref C)/\cV K C/\ay K C "box"/\ay K C "other"/\vc K C "Copy.__init__" (bd 23 0) ["self","box","other"]/\Md K C "step" "Copy.step" (bd 23 1) ["self","boxes"]/\Md K C "weigh" "Row.weigh" (bd 21 0) ["self"]/\∃D:Addr,mg "Row"=some (.ref D)/\XD K D/\mroIn K C (.ref D)=some true
 k_Add:∃C:Addr,mg "Add"=some (.ref C)/\cV K C/\ay K C "box"/\ay K C "other"/\vc K C "Add.__init__" (bd 24 0) ["self","box","other"]/\Md K C "step" "Add.step" (bd 24 1) ["self","boxes"]/\Md K C "weigh" "Row.weigh" (bd 21 0) ["self"]/\∃D:Addr,mg "Row"=some (.ref D)/\XD K D/\mroIn K C (.ref D)=some true
 k_Less:∃C:Addr,mg "Less"=some (.ref C)/\cV K C/\ay K C "box"/\vc K C "Less.__init__" (bd 25 0) ["self","box"]/\Md K C "step" "Less.step" (bd 25 1) ["self","boxes"]/\Md K C "weigh" "Row.weigh" (bd 21 0) ["self"]/\∃D:Addr,mg "Row"=some (.ref D)/\XD K D/\mroIn K C (.ref D)=some true
 k_Times:∃C:Addr,mg "Times"=some (.ref C)/\cV K C/\ay K C "box"/\ay K C "rows"/\ay K C "of_round"/\vc K C "Times.__init__" (bd 26 0) ["self","box","rows"]/\Md K C "weigh" "Times.weigh" (bd 26 1) ["self"]/\Md K C "step" "Times.step" (bd 26 2) ["self","boxes"]/\∃D:Addr,mg "Row"=some (.ref D)/\XD K D/\mroIn K C (.ref D)=some true
 k_Count:∃C:Addr,mg "Count"=some (.ref C)/\cV K C/\ay K C "loop"/\ay K C "rounds"/\vc K C "Count.__init__" (bd 27 0) ["self","loop","rounds"]/\Md K C "weigh" "Count.weigh" (bd 27 1) ["self"]/\Md K C "step" "Count.step" (bd 27 2) ["self","boxes"]/\∃D:Addr,mg "Row"=some (.ref D)/\XD K D/\mroIn K C (.ref D)=some true
 k_While:∃C:Addr,mg "While"=some (.ref C)/\cV K C/\ay K C "box"/\ay K C "heights"/\ay K C "rows"/\ay K C "of_round"/\vc K C "While.__init__" (bd 28 0) ["self","box","marks","rows"]/\Md K C "weigh" "While.weigh" (bd 28 1) ["self"]/\Md K C "step" "While.step" (bd 28 2) ["self","boxes"]/\Md K C "measure" "While.measure" (bd 28 3) ["self","boxes"]/\∃D:Addr,mg "Row"=some (.ref D)/\XD K D/\mroIn K C (.ref D)=some true
 k_Bearing:∃C:Addr,mg "Bearing"=some (.ref C)/\cV K C/\ay K C "loop"/\ay K C "borne"/\vc K C "Bearing.__init__" (bd 29 0) ["self","loop","borne"]/\Md K C "weigh" "Bearing.weigh" (bd 29 1) ["self"]/\Md K C "step" "Bearing.step" (bd 29 2) ["self","boxes"]/\∃D:Addr,mg "Row"=some (.ref D)/\XD K D/\mroIn K C (.ref D)=some true
 x_:∃c0 c1 c2:Addr,(mg "HydraError"=some (.ref c0)/\excIn K c0 [.type "ValueError",.type "Exception",.type "BaseException",.type "object"] "ValueError.__new__"=true)/\(mg "NoFall"=some (.ref c1)/\excIn K c1 [.type "ValueError",.type "Exception",.type "BaseException",.type "object"] "ValueError.__new__"=true)/\(mg "NoNumber"=some (.ref c2)/\excIn K c2 [.type "ValueError",.type "Exception",.type "BaseException",.type "object"] "ValueError.__new__"=true)/\mroIn K c1 (.ref c0)=some true/\mroIn K c1 (.ref c2)=some false/\(XQ K c0/\XD K c0)/\(XQ K c1/\XD K c1)/\(XQ K c2/\XD K c2)
 z_ValueError:mg "ValueError"=none
 z_bool:mg "bool"=none
 z_dict:mg "dict"=none
 z_int:mg "int"=none
 z_isinstance:mg "isinstance"=none
 z_len:mg "len"=none
 z_list:mg "list"=none
 z_max:mg "max"=none
 z_min:mg "min"=none
 z_range:mg "range"=none
 z_reversed:mg "reversed"=none
 z_sorted:mg "sorted"=none
 z_sum:mg "sum"=none
 z_tuple:mg "tuple"=none
section
variable {P:Program} {w:World} {K:PySem.W.Frag} {mg:Str->Option Value} {base:Heap} {f:Addr} {fd:FuncData}
set_option maxHeartbeats 0
noncomputable def Ar:bP:=λws G q _=>∃a b:O,ws=[.tup (ao a),.tup (ao b)]/\a.dp<=60/\q (.int (O.cmp a b)) G
noncomputable def Cn:bP:=λws G q _=>∃a x:O,ws=[.tup (ao a),.tup (ao x)]/\a.NF/\a.dp<=60/\a.len<=40000/\q (.int (O.stay x a)) G
noncomputable def lX:bP:=λws G q _=>∃a b:O,ws=[.tup (ao a),.tup (ao b)]/\a.NF/\a.dp<=60/\b.dp<=60/\a.len<=40000/\b.len<=40000/\q (.tup (ao (O.plusO a b))) G
theorem Ei (F:cq K "compare" "compare" (aU 9) f fd):bW P w K mg base 1 f fd ["a","b"] Ar:=by
 refine d3 F (N:=["a","b"]) (by walk_at "s") (by walk_at "l") λ_ _ _ _ _ _ nd hr=>?_;apply aI
 ·exact(ae (bq (aH (bL hr) (aa 0) (aa 1)) (ae (av ag) ah) ah) (ae (av (jj (aH (iD hr) (aa 0) (aa 1)) (eK ag) ag)) ah))
 ·rintro ws G q e ⟨a,b,rfl,hx,hq⟩;walk_at "R";have h1:=gL a b;have hd:=dg a;rw[jB,h1.2];refine⟨bT a,bT b,by (clear h1;lia),?_⟩;rcases O.cmp_range a b with k | k | k
  ·rw[if_neg (by simp;intro z;rw[z,O.cmp_self] at k;(clear hx h1 hd;lia)),if_pos (by simp;(clear hx h1 hd;lia))];exact⟨bS a,bS b,kN a (by lia),h1.1,aF.done (by rw[k] at hq;exact hq)⟩
  ·rw[if_pos (by simpa using O.cmp_eq _ _ k)];exact aF.done (by rw[k] at hq;exact hq)
  ·rw[if_neg (by simp;intro z;rw[z,O.cmp_self] at k;(clear hx h1 hd;lia)),if_neg (by simp;(clear hx h1 hd;lia))];exact⟨bS a,bS b,kN a (by lia),h1.1,aF.done (by rw[k] at hq;exact hq)⟩
theorem Ej (F:cq K "parts_above" "parts_above" (aU 14) f fd) (F1:Fx P w K mg base "compare" ["a","b"] 1 Ar) (ml:mg "len"=none):bW P w K mg base 2 f fd ["a","exponent"] Cn:=by
 refine d3 F (N:=["a","exponent","low","high","middle"]) (by walk_at "s") (by walk_at "l") λ_ _ _ _ _ _ nd hr=>?_;apply aI
 ·exact(ae (aY 2 nd rfl (.inl rfl) ag) (ae (aY 3 nd rfl (.inl rfl) (bb bU rfl ml PySem.boot_len (ac (aa 0) af))) (ae (mM PySem.PassesOwn.never (aH (iD hr) (aa 2) (aa 3)) (ae (aY 4 nd rfl (.inl rfl) (aE bY (aE bA (aa 2) (aa 3)) ag)) (ae (bq (aH lA (ax F1 (aw.mono hr (by lia)) rfl (ac (aA aB (aA aB (aa 0) (aa 4)) ag) (ac (aa 1) af))) ag) (ae (aY 2 nd rfl (.inl rfl) (aE bA (aa 4) ag)) ah) (ae (aY 3 nd rfl (.inl rfl) (aa 4)) ah)) ah))) (ae (av (aa 2)) ah))))
 ·rintro ws G q e ⟨a,x,rfl,hn,hx,hl,hq⟩;walk_at "a0";walk_at "a";rw[aN];subst hU;refine aT λU hU=>?_;refine⟨λm τ G'=>G'=G/\∃(lo hi:Nat) (t4:Option W),τ=[some (.tup (ao a)),some (.tup (ao x)),some (.int (lo:Int)),some (.int (hi:Int)),t4]/\lo<=O.stay x a/\O.stay x a<=hi/\hi<=a.len/\m=hi-lo,⟨a.len,rfl,0,a.len,none,rfl,zero_le _,O.stay_le,le_refl _,rfl⟩,?_⟩;rintro m τ G' ⟨rfl,lo,hi,t4,rfl,h1,h2,h3,rfl⟩;walk_at "R";split
  ·rename_i hlt;refine⟨λτ1 G1=>G1=G'/\∃(lo' hi':Nat) (t4:Option W),τ1=[some (.tup (ao a)),some (.tup (ao x)),some (.int (lo':Int)),some (.int (hi':Int)),t4]/\lo'<=O.stay x a/\O.stay x a<=hi'/\hi'<=a.len/\hi'-lo'<hi-lo,?_,?_⟩
   ·rintro τ1 G1 ⟨rfl,lo',hi',t4,rfl,k1,k2,k3,k4⟩;exact⟨_,k4,rfl,lo',hi',t4,rfl,k1,k2,k3,rfl⟩
   ·have em:((lo:Int)+hi)/2=(((lo+hi)/2:Nat):Int):=by (clear hx hl h1 h2 h3 hlt;lia)
    obtain⟨y,n,hp⟩:=O.getP_some (a:=a) (i:=(lo+hi)/2) (by (clear hx hl h1 h2;lia));rw[em];refine⟨_,eP hp,?_⟩;have hs:=O.getP_size hp;have hab:=O.above_iff (e:=x) hn hp;unfold gp kL;walk_at "R";refine⟨y,x,rfl,by (clear hl h1 h2 h3 hlt em hab;lia),?_⟩;walk_at "R";split
    ·rename_i hc;have:=hab.mp hc;exact⟨(lo+hi)/2+1,hi,_,rfl,by assumption,h2,h3,by (clear hx h1 h2 hs hab hc this;lia)⟩
    ·rename_i hc;have:=λz=>hc (hab.mpr z);exact⟨lo,(lo+hi)/2,_,rfl,h1,by (clear hx hl h1 h2 h3 hlt em hs;lia),by (clear hx hl h1 h2 hs hab hc;lia),by (clear hx h1 h2 hs hab hc;lia)⟩
  ·subst hU;walk_at "R";have:(lo:Int)=O.stay x a:=by (clear hx hl h3;lia)
   rw[this];exact aF.done hq
theorem Ek (F:cq K "plus" "plus" (aU 13) f fd) (F1:Fx P w K mg base "parts_above" ["a","exponent"] 2 Cn) (ml:mg "len"=none):bW P w K mg base 3 f fd ["a","b"] lX:=by
 refine d3 F (N:=["a","b","exponent","stay","both"]) (by walk_at "s") (by walk_at "l") λ_ _ _ _ _ _ nd hr=>?_;apply aI
 ·exact(ae (bq (aH (bL hr) (aa 1) (aW af)) (ae (av (aa 0)) ah) ah) (ae (aY 2 nd rfl (.inl rfl) (aA aB (aA aB (aa 1) ag) ag)) (ae (aY 3 nd rfl (.inl rfl) (ax F1 (aw.mono hr (by lia)) rfl (ac (aa 0) (ac (aa 2) af)))) (ae (bq (fM (eB (aH (iD hr) (aa 3) (bb bU rfl ml PySem.boot_len (ac (aa 0) af))) (cX (aH (bL hr) (aA aB (aA aB (aa 0) (aa 3)) ag) (aa 2))))) (ae (aY 4 nd rfl (.inl rfl) (aW (ac (aa 2) (ac (aE bA (aA aB (aA aB (aa 0) (aa 3)) ag) (aA aB (aA aB (aa 1) ag) ag)) af)))) (ae (av (aE bA (aE bA (bZ (aa 0) cY (cB (aa 3))) (aW (ac (aa 4) af))) (bZ (aa 1) (cB ag) cY))) ah)) ah) (ae (av (aE bA (bZ (aa 0) cY (cB (aa 3))) (aa 1))) ah)))))
 ·rintro ws G q e ⟨a,b,rfl,hn,hx,hy,hl,hl2,hq⟩;have hd:=dg b;walk_at "a0";refine⟨bT b,by (clear hx hl hl2;lia),?_⟩;rw[dz];cases b with
  | z=>
    rw[if_pos (by simp)];exact aF.done hq
  | c e n r=>
    rw[if_neg (by simp)];simp only[O.len] at hl2;have hde:e.dp<=60:=by simp only[O.dp] at hy;(clear hx hl hl2 hd;lia)
    subst hU;refine aT λU hU=>?_;rw[bR];unfold gp kL;walk_at "R";walk_at "a";refine⟨a,e,rfl,hn,hx,hl,?_⟩;subst hU;have hst:=O.stay_le (e:=e) (a:=a);have hsame:=O.same_stay (e:=e) hn;have htake:=O.take_stay (e:=e) hn;have e1:cQ (W.tup [W.tup (ao e),W.int n]::ao r) (some 1) none=ao r:=by rw[show(1:Int)=((1:Nat):Int) from rfl,jD];rfl
    have e2:cQ (ao a) none (some (O.stay e a:Int))=ao (O.filt (λx _=>decide (0<O.cmp x e)) a):=by rw[tQ,iq,htake]
    have l1:=jG (λx _=>decide (0<O.cmp x e)) a;have hq':q (.tup (ao (O.filt (λx _=>decide (0<O.cmp x e)) a)++(gp e (O.same e a+n)::ao r))) G:=by
     rw[O.plus_c,fj,bR] at hq;exact hq
    refine aT λU hU=>?_;have other:O.same e a=0->U { nx:=λx G1=>∃G0,aF G0 G1/\q W.non G0,rt:=λw G1=>∃G0,aF G0 G1/\q w G0 } [some (W.tup (ao a)),some (W.tup (W.tup [W.tup (ao e),W.int n]::ao r)),some (W.tup (ao e)),some (W.int (O.stay e a)),none] G:=λhz=>by
     subst hU;walk_at "R";rw[e2];refine⟨by rw[aN,aN];(clear hx hy hd hde hst hsame htake e2 hz;lia),aF.done ?_⟩;rw[hz,Int.zero_add] at hq';exact hq'
    walk_at "R";rw[aN];split
    ·rename_i hlt;obtain⟨y,m,hp⟩:=O.getP_some (a:=a) (i:=O.stay e a) (by (clear hx hl hy hl2 hd hde hst hsame htake e2 l1;lia));have hs:=O.getP_size hp;have hdy:=dg y;refine⟨_,eP hp,?_⟩;rw[hp] at hsame;have hsame':O.same e a=if y=e then m else 0:=hsame
     unfold gp kL;walk_at "R";refine⟨bT y,bT e,by (clear hl hy hl2 hd hde hst htake e2 l1 hlt hsame hsame';lia),?_⟩;rw[jB]
     by_cases hye:y=e
     ·rw[if_pos (by simpa using hye)];refine⟨_,eP hp,?_⟩;unfold gp kL;walk_at "R";rw[e1,e2];rw[if_pos hye] at hsame';refine⟨by rw[aN];(clear hx hy hl2 hd hde hst htake e2 hlt hsame hs hdy hsame';lia),by rw[length_append,aN,aN];simp;(clear hx hy hd hde hst htake e2 hlt hsame hs hdy hsame';lia),aF.done ?_⟩;rw[hsame'] at hq';rw[append_assoc];exact hq'
     ·rw[if_neg (by simpa using hye)];rw[if_neg hye] at hsame';exact other hsame'
    ·rename_i hlt;rw[O.getP_none.mpr (by (clear hx hl hy hl2 hd hde hsame htake e2 l1;lia))] at hsame;exact other hsame
theorem jQ:∀{a:O} {x:O} {n:Int},a.NF->O.last a=.c x n .z->O.same .z a=if x=.z then n else 0
 | .z,_,_,_,h=>by cases h
 | .c e m .z,x,n,ha,h=>by
   have:O.last (.c e m .z)=.c e m .z:=rfl;rw[this] at h;injection h with h1 h2 _
   subst h1 h2
   by_cases k:e=.z
   ·subst k;rw[if_pos rfl,O.same_self ha.2.2.1]
   ·rw[if_neg k,O.same_ne k];rfl
 | .c e m (.c e' m' r'),x,n,ha,h=>by
   have e0:O.last (.c e m (.c e' m' r'))=O.last (.c e' m' r'):=by simp[O.last]
   rw[e0] at h;have hne:e≠ .z:=λz=>by
    subst z;have:=ha.2.2.1.1;cases e'<;> simp[O.cmp] at this
   rw[O.same_ne hne];exact jQ ha.2.2.2 h
theorem nC:∀{a:O},a.NF->O.same .z a=0->O.filt (λy _=>decide (¬y=.z)) a=a
 | .z,_,_=>rfl
 | .c e m r,ha,h=>by
   have hne:e≠ .z:=λz=>by
    subst z;rw[O.same_self ha.2.2.1] at h;have:=ha.2.1;lia
   rw[O.same_ne hne] at h;rw[O.filt_c,if_pos (by simpa using hne),nC ha.2.2.2 h]
theorem jR:∀{a:O},a.NF->O.same .z a≠0->O.filt (λy _=>decide (¬y=.z)) a=O.init a
 | .z,_,h=>absurd rfl h
 | .c e m .z,ha,h=>by
   have:e=.z:=Classical.byContradiction λk=>h (by rw[O.same_ne k];rfl);subst this
   rfl
 | .c e m (.c e' m' r'),ha,h=>by
   have hne:e≠ .z:=λz=>by
    subst z;have:=ha.2.2.1.1;cases e'<;> simp[O.cmp] at this
   rw[O.same_ne hne] at h;have e0:O.init (.c e m (.c e' m' r'))=.c e m (O.init (.c e' m' r')):=by simp[O.init]
   rw[O.filt_c,if_pos (by simpa using hne),jR ha.2.2.2 h,e0]
noncomputable def As:bP:=λws G q _=>∃a:O,ws=[.tup (ao a)]/\a.NF/\a.dp<=60/\q (.int (O.same .z a)) G
noncomputable def Co:bP:=λws G q _=>∃a:O,ws=[.tup (ao a)]/\a.NF/\a.dp<=60/\q (.tup (ao (O.filt (λy _=>decide (¬y=.z)) a))) G
theorem El (F:cq K "whole_part" "whole_part" (aU 10) f fd):bW P w K mg base 1 f fd ["a"] As:=by
 refine d3 F (N:=["a"]) (by walk_at "s") (by walk_at "l") λ_ _ _ _ _ _ nd hr=>?_;apply aI
 ·exact(ae (bq (fM (fb (aH (bL hr) (aa 0) (aW af)) (fV (aH (dQ hr) (aA aB (aA aB (aa 0) (eK ag)) ag) (aW af))))) (ae (av ag) ah) ah) (ae (av (aA aB (aA aB (aa 0) (eK ag)) ag)) ah))
 ·rintro ws G q e ⟨a,rfl,ha,hd,hq⟩;have hd2:=dg a;walk_at "R";refine⟨bT a,by lia,?_⟩;rw[dz]
  by_cases hz:a=.z
  ·subst hz;rw[if_pos (by simp)];exact aF.done hq
  ·rw[if_neg (by simpa using hz)];obtain⟨x,n,h1,h2⟩:=tS hz;have hw:=jQ ha h1;have hs:=O.getP_size h2;have hdx:=dg x;refine⟨_,gK h2,?_⟩;unfold gp kL;walk_at "R";refine⟨bT x,by (clear hd2 hw;lia),?_⟩;rw[dz]
   by_cases hx:x=.z
   ·rw[if_neg (by simpa using hx)];rw[if_pos hx] at hw;have h3:=gK h2;unfold gp kL at h3;refine⟨_,h3,?_⟩;walk_at "R";rw[hw] at hq;exact aF.done hq
   ·rw[if_pos (by simpa using hx)];rw[if_neg hx] at hw;rw[hw] at hq;exact aF.done hq
theorem Em (F:cq K "without_whole" "without_whole" (aU 11) f fd) (F1:Fx P w K mg base "whole_part" ["a"] 1 As):bW P w K mg base 2 f fd ["a"] Co:=by
 refine d3 F (N:=["a"]) (by walk_at "s") (by walk_at "l") λ_ _ _ _ _ _ nd hr=>?_;apply aI
 ·exact(ae (bq (aH (bL hr) (ax F1 (aw.mono hr (by lia)) rfl (ac (aa 0) af)) ag) (ae (av (aa 0)) ah) ah) (ae (av (bZ (aa 0) cY (cB (eK ag)))) ah))
 ·rintro ws G q e ⟨a,rfl,ha,hd,hq⟩;walk_at "R";refine⟨a,rfl,ha,hd,?_⟩;walk_at "R";split
  ·rename_i h;rw[nC ha h] at hq;exact aF.done hq
  ·rename_i h;rw[jR ha h] at hq;rw[tR];exact aF.done hq
noncomputable def kg (e:O):O->O
 | .z=> .z
 | .c f d t=> .c (O.plusO e f) d (kg e t)
theorem kT (e:O):∀b:O,mapP (λ_ _=>true) (λx m=>gp (O.plusO e x) m) b=ao (kg e b)
 | .z=>rfl
 | .c f d t=>by rw[mapP,if_pos rfl,kT e t];rfl
theorem nD (e:O):∀b:O,(kg e b).len=b.len
 | .z=>rfl
 | .c f d t=>by simp only[kg,O.len,nD e t]
theorem kU {e:O} {n:Int} {r:O}:∀{b:O},b.NF->O.mulP e n r b=O.app (kg e (O.filt (λy _=>decide (¬y=.z)) b)) (if O.same .z b=0 then .z else .c e (n*O.same .z b) r)
 | .z,_=>rfl
 | .c f d t,hb=>by
   rw[O.mulP_c,O.filt_c]
   by_cases k:f=.z
   ·subst k;have hd:=hb.2.1;rw[if_pos rfl,if_neg (by simp),O.Lt_z hb.2.2.1,O.same_self (r:= .z) trivial,if_neg (by lia)]
    rfl
   ·rw[if_neg k,if_pos (by simpa using k),O.same_ne k,kU hb.2.2.2]
    rfl
noncomputable def uC:bP:=λws G q _=>∃a b:O,ws=[.tup (ao a),.tup (ao b)]/\a.NF/\b.NF/\a.dp<=40/\b.dp<=40/\O.hw a<=1000/\O.hw b<=1000/\O.mx a<=x6/\O.mx b<=x6/\q (.tup (ao (O.timesO a b))) G
theorem Eo (F:cq K "times" "times" (aU 17) f fd) (F1:Fx P w K mg base "whole_part" ["a"] 1 As) (F2:Fx P w K mg base "without_whole" ["a"] 2 Co) (F3:Fx P w K mg base "plus" ["a","b"] 3 lX) (mt:mg "tuple"=none):bW P w K mg base 4 f fd ["a","b"] uC:=by
 refine d3 F (N:=["a","b","exponent","parts","many"]) (by walk_at "s") (by walk_at "l") λ_ _ _ _ _ _ nd hr=>?_;apply aI
 ·exact(ae (bq (fM (fb (aH (bL hr) (aa 0) (aW af)) (fV (aH (bL hr) (aa 1) (aW af))))) (ae (av (aW af)) ah) ah) (ae (aY 2 nd rfl (.inr rfl) (aA aB (aA aB (aa 0) ag) ag)) (ae (vR 3 (dW (by first | rfl | decide+kernel)) rfl nd rfl (.inl rfl) (cE (ax F2 (aw.mono hr (by lia)) rfl (ac (aa 1) af))) (λ_ _ _ _=>(cj 1 (by first | assumption | decide+kernel | rfl) rfl (.inl rfl))) (λ_ _ _ _=>cZ) (λ_ _ _ _=>(aW (ac (ax F3 (aw.mono hr (by lia)) rfl (ac (aa 3 rfl (.inr (.inl rfl))) (ac (aA aB (aa 1) ag) af))) (ac (aA aB (aa 1) ag) af))))) (ae (aY 4 nd rfl (.inl rfl) (ax F1 (aw.mono hr (by lia)) rfl (ac (aa 1) af))) (ae (bq (aH (bL hr) (aa 4) ag) (ae (av (bv fy rfl mt dc (ac (aa 3) af))) ah) ah) (ae (av (aE bA (aE bA (bv fy rfl mt dc (ac (aa 3) af)) (aW (ac (aW (ac (aa 2 rfl (.inr (.inl rfl))) (ac (aE tX (aA aB (aA aB (aa 0) ag) ag) (aa 4)) af))) af))) (bZ (aa 0) (cB ag) cY))) ah))))))
 ·rintro ws G q e ⟨a,b,rfl,na,nb,da,db,sa,sb,ma,mb,hq⟩;have hda:=dg a;have hdb:=dg b;have la:=O.len_le_hw a;have lb:=O.len_le_hw b;walk_at "a0";refine⟨bT a,by (clear db sa sb ma mb hdb la lb;lia),?_⟩;rw[dz];cases a with
  | z=>
    rw[if_pos (by simp)];exact aF.done hq
  | c e n r=>
    rw[if_neg (by simp)];refine⟨bT b,by (clear sb mb lb da sa ma hda la;lia),?_⟩;rw[dz]
    by_cases hb0:b=.z
    ·subst hb0;rw[if_pos (by simp)];exact aF.done hq
    ·rw[if_neg (by simpa using hb0)];subst hU;rw[O.hw_c] at sa;simp only[O.dp,O.len] at da la;have le1:=O.len_le_hw e;have lr1:=O.len_le_hw r;rw[bR];unfold gp kL;walk_at "a0";walk_at "a";refine⟨b,rfl,nb,by lia,?_⟩;walk_at "R";show ci _ _ _ _ _ [none,none,none,some (W.tup (ao e))] G [] _;have lf:=jG (λy _=>decide (¬y=O.z)) b;have df:=O.dp_filt (λy _=>decide (¬y=O.z)) b;have sf:=O.hw_filt (λy _=>decide (¬y=O.z)) b;refine jH (λ_ _=>true) (λx m=>gp (O.plusO e x) m) trivial (p5 _) (λy m hy k hk=>?_) (λy m hy _ k hk=>?_) (by rw[length_nil];(clear db mb hdb da sa ma hda la le1 lr1 df sf;lia)) (λ_=>rfl) λp1 hp1=>?_
     ·walk_at "R";exact hk
     ·have ly:=O.len_le_hw y;unfold gp kL at hk ⊢;walk_at "R";exact⟨e,y,rfl,na.1,by (clear db sb mb hdb lb sa ma hda la le1 lf df sf hy ly;lia),by (clear sb mb hdb lb da sa ma hda la le1 lr1 lf sf ly;lia),by (clear db sb mb hdb lb da ma hda la lf df sf hy ly;lia),by (clear db mb hdb lb da sa ma hda la le1 lr1 lf df;lia),hk⟩
     rw[nil_append,kT];have hG1:=ak (G:=G) (a:=p1) (g:=GO.lst (ao (kg e (O.filt (λy _=>decide (¬y=O.z)) b))));have le:aF G (aL G p1 (GO.lst (ao (kg e (O.filt (λy _=>decide (¬y=O.z)) b))))):=aF.new hp1;generalize aL G p1 (GO.lst (ao (kg e (O.filt (λy _=>decide (¬y=O.z)) b))))=G1 at hG1 le ⊢;walk_at "a";refine⟨b,rfl,nb,by lia,?_⟩;have hsp:O.timesO (.c e n r) b=_:=kU (e:=e) (n:=n) (r:=r) nb;rw[hsp] at hq;have hn:=na.2.1;have hsm:=O.same_le_mx .z nb;have hs0:=O.same_nonneg .z nb;rw[O.mx_c] at ma;have lm:=nD e (O.filt (λy _=>decide (¬y=O.z)) b);walk_at "a";split
     ·rename_i h0;refine⟨_,hG1,G,le,?_⟩;rw[if_pos h0] at hq;have:O.app (kg e (O.filt (λy _=>decide (¬y=O.z)) b)) .z=kg e (O.filt (λy _=>decide (¬y=O.z)) b):=m9 (by rw[fj,zM,append_nil]);rw[this] at hq;exact hq
     ·rename_i h0;rw[if_neg h0,fj,bR] at hq;subst hU;have e1:cQ (W.tup [W.tup (ao e),W.int n]::ao r) (some 1) none=ao r:=by rw[show(1:Int)=((1:Nat):Int) from rfl,jD];rfl
      walk_at "R";rw[e1];refine⟨_,hG1,.inl (.inr (D8 (by (clear db sb mb hdb lb da sa ma hda la le1 lr1 lf df sf hsp hsm hs0 lm h0;lia)) (by (clear db sb mb hdb lb da sa hda la le1 lr1 lf df sf hsp hn hsm lm;lia)) (by assumption) (by (clear db sb hdb lb da sa ma hda la le1 lr1 lf df sf hsp hn hs0 lm h0;lia)))),by rw[aN,lm];(clear db mb hdb da sa ma hda la le1 lr1 df sf hsp hn hsm hs0 h0;lia),by rw[length_append,aN,aN,length_cons,length_nil,lm];(clear db mb hdb da ma hda la le1 lr1 df sf hsp hn hsm;lia),G,le,?_⟩;rw[append_assoc];exact hq
noncomputable def Cp:bP:=λws G q _=>∃n k:Int,ws=[.int n,.int k]/\q (.bl (decide (k<=n))) G
theorem scWh:bM ["thing","least"] ["thing","least"] (am (aU 5)):=by walk_at "s"
theorem Ep {T:Addr} {ds:List Value} (F:fY K "is_whole" "is_whole" (aU 5) f fd T ds) (mi:mg "isinstance"=none) (mn:mg "int"=none) (mb:mg "bool"=none):bW P w K mg base 1 f fd ["thing","least"] Cp:=by
 have nd:=scWh.nd;refine BP F scWh (λws G q e h=>by obtain⟨_,_,rfl,_⟩:=h;rfl) (λcdv A outer s H E hr=>?_);apply aI
 ·exact(ae (av (ol (fc (T:="int") (x:="int") (by first | simp[jm] | assumption | decide+kernel) PyProof.Rows.boot_int mn rfl mi rfl (aa 0)) (ol (y7 (fc (T:="bool") (x:="bool") (by first | simp[jm] | assumption | decide+kernel) PyProof.Rows.boot_bool mb rfl mi rfl (aa 0))) (oj (dS Bx (aa 0) (aa 1)))))) ah)
 ·rintro ws G q e ⟨n,k,rfl,hq⟩;walk_at "R";exact aF.done hq
noncomputable def uD:bP:=λws G q _=>∃(x:O) (n:Int),ws=[.tup (ao x),.int n]/\0<=n/\q (.tup (ao (if n=0 then .z else .c x n .z))) G
theorem scRs:bM ["exponent","times"] ["exponent","times"] (am (aU 8)):=by walk_at "s"
theorem Cq {T:Addr} {ds:List Value} (F:fY K "raised" "raised" (aU 8) f fd T ds) (F1:BQ P w K mg base "is_whole" ["thing","least"] 1 Cp [.int 0]):bW P w K mg base 2 f fd ["exponent","times"] uD:=by
 have nd:=scRs.nd;refine BP F scRs (λws G q e h=>by obtain⟨_,_,rfl,_⟩:=h;rfl) (λcdv A outer s H E hr=>?_);apply aI
 ·exact(ae (bq (eC (cG (oz F1 (aw.mono hr (by lia)) rfl (ac (aa 1) af)))) (ae sP ah) ah) (ae (bq (aH (bL hr) (aa 1) ag) (ae (av (aW af)) ah) ah) (ae (av (aW (ac (aW (ac (aa 0) (ac (aa 1) af))) af))) ah)))
 ·rintro ws G q e ⟨x,n,rfl,hn,hq⟩;walk_at "R";refine⟨n,0,rfl,?_⟩;walk_at "R";rw[if_neg (by lia)];split
  ·rename_i h;rw[if_pos h] at hq;exact aF.done hq
  ·rename_i h;rw[if_neg h,bR] at hq;exact aF.done hq
noncomputable def kh:bP:=λws G q _=>∃n:Int,ws=[.int n]/\0<=n/\q (.tup (ao (O.wh n))) G
theorem Er (F:cq K "whole" "whole" (aU 6) f fd) (F1:Fx P w K mg base "raised" ["exponent","times"] 2 uD):bW P w K mg base 3 f fd ["n"] kh:=by
 refine d3 F (N:=["n"]) (by walk_at "s") (by walk_at "l") λ_ _ _ _ _ _ nd hr=>?_;apply aI
 ·exact(ae (av (ax F1 (aw.mono hr (by lia)) rfl (ac (aW af) (ac (aa 0) af)))) ah)
 ·rintro ws G q e ⟨n,rfl,hn,hq⟩;walk_at "R";exact⟨.z,n,rfl,hn,aF.done hq⟩
noncomputable abbrev Row:=Rq Str
structure Cs where
 s:Addr
 c:Addr
 a:Addr
 l:Addr
 t:Addr
 w:Addr
 n:Addr
 b:Addr
noncomputable def Cs.at_ (C:Cs):Nat->Addr
 | 0=>C.s
 | 1=>C.c
 | 2=>C.a
 | 3=>C.l
 | 4=>C.t
 | 5=>C.w
 | 6=>C.n
 | _=>C.b
noncomputable def kd:Row->Nat
 | .set _ _=>0
 | .copy _ _=>1
 | .add _ _=>2
 | .less _=>3
 | .times _ _=>4
 | .whl _ _ _=>5
 | .count _ _=>6
 | .bear _ _ _ _=>7
noncomputable abbrev fq (hs:List (O×List Str)):List W:=hs.map λp=> .tup [.tup (ao p.1),.tup (p.2.map W.str)]
noncomputable abbrev Es (b:Str) (as:List Addr) (rs:aQ Str):List (Str×W):=[("box",.str b),("rows",.tup (as.map W.ref)),("of_round",.tup (ao rs.rnd))]
noncomputable abbrev Di (b:Str) (hs:List (O×List Str)) (as:List Addr) (rs:aQ Str):List (Str×W):=[("box",.str b),("heights",.tup (fq hs)),("rows",.tup (as.map W.ref)),("of_round",.tup (ao rs.rnw))]
mutual
inductive jS (C:Cs) (G:Gp):Addr->Row->Prop where
 | set {a:Addr} {b:Str} {n:Int} (h:G a=some (.ins C.s [("box",.str b),("amount",.int n)])):jS C G a (.set b n)
 | copy {a:Addr} {b o:Str} (h:G a=some (.ins C.c [("box",.str b),("other",.str o)])):jS C G a (.copy b o)
 | add {a:Addr} {b o:Str} (h:G a=some (.ins C.a [("box",.str b),("other",.str o)])):jS C G a (.add b o)
 | less {a:Addr} {b:Str} (h:G a=some (.ins C.l [("box",.str b)])):jS C G a (.less b)
 | times {a:Addr} {b:Str} {as:List Addr} {rs:aQ Str} (h:G a=some (.ins C.t (Es b as rs))) (hs:et C G as rs):jS C G a (.times b rs)
 | count {a l:Addr} {b:Str} {as:List Addr} {rs:aQ Str} {n:Int} (h:G a=some (.ins C.n [("loop",.ref l),("rounds",.int n)])) (hl:G l=some (.ins C.t (Es b as rs))) (hs:et C G as rs):jS C G a (.count rs n)
 | whl {a:Addr} {b:Str} {ms:List (O×List Str)} {as:List Addr} {rs:aQ Str} (h:G a=some (.ins C.w (Di b ms as rs))) (hs:et C G as rs):jS C G a (.whl b ms rs)
 | bear {a l:Addr} {b:Str} {ms:List (O×List Str)} {as:List Addr} {rs:aQ Str} {o:O} (h:G a=some (.ins C.b [("loop",.ref l),("borne",.tup (ao o))])) (hl:G l=some (.ins C.w (Di b ms as rs))) (hs:et C G as rs):jS C G a (.bear b ms rs o)
inductive et (C:Cs) (G:Gp):List Addr->aQ Str->Prop where
 | nil:et C G [] .nil
 | cons {a:Addr} {as:List Addr} {r:Row} {rs:aQ Str} (h:jS C G a r) (hs:et C G as rs):et C G (a::as) (.cons r rs)
end
noncomputable def cz (G G':Gp):Prop:=∀a C x fs,G a=some (.ins C (x::fs))->G' a=some (.ins C (x::fs))
theorem aF.ins {G G':Gp} (h:aF G G'):cz G G':=λ_ _ _ _ e=>h _ _ e
theorem cz.but {G G':Gp} {p:Addr} (h:∀x g,x≠p->G x=some g->G' x=some g) (hp:∀C y fs,G p≠some (.ins C (y::fs))):cz G G':=λa C y fs e=>h a _ (λz=>hp C y fs (z▸e)) e
mutual
theorem jS.mono {C:Cs} {G G':Gp} (l:cz G G'):∀{a:Addr} {r:Row},jS C G a r->jS C G' a r
 | _,_,.set h=> .set (l _ _ _ _ h)
 | _,_,.copy h=> .copy (l _ _ _ _ h)
 | _,_,.add h=> .add (l _ _ _ _ h)
 | _,_,.less h=> .less (l _ _ _ _ h)
 | _,_,.times h hs=> .times (l _ _ _ _ h) (et.mono l hs)
 | _,_,.count h hl hs=> .count (l _ _ _ _ h) (l _ _ _ _ hl) (et.mono l hs)
 | _,_,.whl h hs=> .whl (l _ _ _ _ h) (et.mono l hs)
 | _,_,.bear h hl hs=> .bear (l _ _ _ _ h) (l _ _ _ _ hl) (et.mono l hs)
theorem et.mono {C:Cs} {G G':Gp} (l:cz G G'):∀{as:List Addr} {rs:aQ Str},et C G as rs->et C G' as rs
 | _,_,.nil=> .nil
 | _,_,.cons h hs=> .cons (jS.mono l h) (et.mono l hs)
end
theorem jS.isIns {C:Cs} {G:Gp} {r:Row} (h:jS C G a r):∃fs,G a=some (.ins (C.at_ (kd r)) fs)/\fs.lookup ("weigh":Str)=none/\fs.lookup ("step":Str)=none:=by
 cases h with
 | set h=>exact⟨_,h,rfl,rfl⟩
 | copy h=>exact⟨_,h,rfl,rfl⟩
 | add h=>exact⟨_,h,rfl,rfl⟩
 | less h=>exact⟨_,h,rfl,rfl⟩
 | times h hs=>exact⟨_,h,rfl,rfl⟩
 | count h hl hs=>exact⟨_,h,rfl,rfl⟩
 | whl h hs=>exact⟨_,h,rfl,rfl⟩
 | bear h hl hs=>exact⟨_,h,rfl,rfl⟩
structure Sz (r:Row):Prop where
 nn:r.nn
 hb:r.hb<=500
 mb:(r.mb:Int)<=10^300
structure kj (rs:aQ Str):Prop where
 nn:rs.nn
 hb:rs.hb<=500
 mb:(rs.mb:Int)<=10^300
theorem kj.cons {r:Row} {rs:aQ Str} (h:kj (.cons r rs)):Sz r/\kj rs:=by
 have h1:=h.nn;have h2:=h.hb;have h3:=h.mb;have e2:(aQ.cons r rs).hb=rs.hb+r.hb:=rfl;have e3:(aQ.cons r rs).mb=rs.mb+r.mb:=rfl;rw[e2] at h2;rw[e3] at h3;exact⟨⟨h1.1,by (clear h3 e3;lia),by (clear h2 e2;lia)⟩,⟨h1.2,by (clear h3 e3;lia),by (clear h2 e2;lia)⟩⟩
mutual
theorem ye:∀r:Row,r.lb<=r.hb
 | .set _ _=>le_refl _
 | .copy _ _=>le_refl _
 | .add _ _=>le_refl _
 | .less _=>le_refl _
 | .times _ rs=>by show 1<=rs.hb+2;lia
 | .count rs _=>by have:=d4 rs;show rs.lb+2<=rs.hb+3;lia
 | .whl _ [] rs=>by have:=d4 rs;show rs.lb+2<=rs.hb+_+2;lia
 | .whl _ (_::_) rs=>by show 2<=rs.hb+_+2;lia
 | .bear _ _ rs o=>by have:=d4 rs;have:=O.len_le_hw o;show rs.lb+1+o.len+1<=rs.hb+O.hw o+2;lia
theorem d4:∀rs:aQ Str,rs.lb<=rs.hb
 | .nil=>le_refl _
 | .cons r rs=>by have:=ye r;have:=d4 rs;show rs.lb+r.lb<=rs.hb+r.hb;lia
end
noncomputable def jT:∀rs:List Row,(rs.reverse.map Rq.wt).foldl O.plusO .z=bw rs
 | []=>rfl
 | r::rs=>by rw[List.reverse_cons,map_append,List.foldl_append,jT rs];rfl
noncomputable def iQ (C:Cs) (i:Nat):bP:=λws G q _=>∃(a:Addr) (r:Row),ws=[.ref a]/\jS C G a r/\kd r=i/\Sz r/\q (.tup (ao r.wt)) G
theorem xo {C:Cs} (hi:i<4) (F:cq K "weigh" "Row.weigh" (bd 21 0) f fd) (F1:Fx P w K mg base "whole" ["n"] 3 kh):bW P w K mg base 6 f fd ["self"] (iQ C i):=by
 refine d3 (k:=5) F (N:=["self"]) (by walk_at "s") (by walk_at "l") λ_ _ _ _ _ _ nd hr=>?_;apply aI
 ·exact(ae (av (ax F1 (aw.mono hr (by lia)) rfl (ac ag af))) ah)
 ·rintro ws G q e ⟨a,r,rfl,ha,hk,hz,hq⟩;walk_at "R";refine⟨1,rfl,by decide,aF.done ?_⟩;cases ha with
  | set h=>exact hq
  | copy h=>exact hq
  | add h=>exact hq
  | less h=>exact hq
  | _=>subst hk;exact absurd hi (show ¬(_:Nat)<4 by simp[kd])
noncomputable def Cr:bP:=λws G q _=>ws=[]/\q (.tup (ao om)) G
theorem Et (F:cq K "endless" "endless" (aU 7) f fd) (F1:Fx P w K mg base "whole" ["n"] 3 kh) (F2:BQ P w K mg base "raised" ["exponent","times"] 2 uD [.int 1]):bW P w K mg base 4 f fd [] Cr:=by
 refine d3 F (N:=[]) (by walk_at "s") (by walk_at "l") λ_ _ _ _ _ _ nd hr=>?_;apply aI
 ·exact(ae (av (oz F2 (aw.mono hr (by lia)) rfl (ac (ax F1 (aw.mono hr (by lia)) rfl (ac ag af)) af))) ah)
 ·rintro ws G q e ⟨rfl,hq⟩;walk_at "R";refine⟨1,rfl,by decide,O.wh 1,1,rfl,by decide,aF.done ?_⟩;exact hq
theorem uE {rs:aQ Str} (z:kj rs):rs.rnd.NF/\rs.rnd.dp<=4/\O.hw rs.rnd<=501/\O.mx rs.rnd<=10^300+1:=by
 have x:=aQ.rb z.nn;have h1:=x.hw;have h2:=x.mx;have h3:=z.hb;have h4:=z.mb;exact⟨x.nf,x.dp,by (clear h2 h4;lia),by (clear h1 h3;lia)⟩
theorem uF {rs:aQ Str} (z:kj rs):rs.rnw.NF/\rs.rnw.dp<=4/\O.hw rs.rnw<=501/\O.mx rs.rnw<=10^300+2:=by
 have x:=aQ.rbw z.nn;have h1:=x.hw;have h2:=x.mx;have h3:=z.hb;have h4:=z.mb;exact⟨x.nf,x.dp,by (clear h2 h4;lia),by (clear h1 h3;lia)⟩
noncomputable def Ft (os:List O):Prop:=(∀o,o∈os->o.NF/\o.dp<=4)/\(os.map O.len).sum<=1000
noncomputable def At:bP:=λws G q _=>∃(p:Addr) (os:List O),ws=[.ref p]/\G p=some (.lst (os.map λo=> .tup (ao o)))/\Ft os/\q (.tup (ao (os.foldl O.plusO .z))) G
theorem Eu (F:cq K "total" "total" (aU 15) f fd) (F1:Fx P w K mg base "plus" ["a","b"] 3 lX):bW P w K mg base 4 f fd ["some"] At:=by
 refine d3 F (N:=["some","found","number"]) (by walk_at "s") (by walk_at "l") λ_ _ _ _ _ _ nd hr=>?_;apply aI
 ·exact(ae (aY 1 nd rfl (.inl rfl) (aW af)) (ae (dU PySem.PassesOwn.never rfl (cE (aa 0)) (cm 2 nd rfl (.inl rfl)) (ae (aY 1 nd rfl (.inl rfl) (ax F1 (aw.mono hr (by lia)) rfl (ac (aa 1) (ac (aa 2) af)))) ah)) (ae (av (aa 1)) ah)))
 ·rintro ws G q e ⟨p,os,rfl,hG,⟨hp1,hp2⟩,hq⟩;walk_at "a0";walk_at "a";refine⟨_,hG,?_⟩;refine cJ (λws τ G'=>G'=G/\∃(a:O) (todo:List O) (t:Option W),ws=(todo.map λo=> .tup (ao o))/\τ=[some (.ref p),some (.tup (ao a)),t]/\todo.foldl O.plusO a=os.foldl O.plusO .z/\a.NF/\a.dp<=4/\a.len+(todo.map O.len).sum<=1000/\∀o,o∈todo->o.NF/\o.dp<=4) ?_ ?_ _ _ _ ⟨rfl,.z,os,none,rfl,rfl,rfl,trivial,zero_le _,by show 0+_<=_;lia,hp1⟩
  ·rintro τ G' ⟨rfl,a,todo,t,hw,rfl,hf,_⟩;refine⟨hG,?_⟩;have hb:todo=[]:=by simpa using hw.symm
   subst hb;subst hU;walk_at "R";rw[←hf] at hq;exact aF.done hq
  ·rintro w1 ws τ G' kk ⟨rfl,a,todo,t,hw,rfl,hf,a1,a2,a3,a4⟩ hk;cases todo with
   | nil=>cases hw
   | cons o todo=>
     cases hw;refine⟨hG,?_⟩;obtain⟨o1,o2⟩:=a4 o mem_cons_self;rw[map_cons,sum_cons] at a3;walk_at "R";refine⟨a,o,rfl,a1,by lia,by lia,by (clear hp2 a2 o2;lia),by (clear hp2 a2 o2;lia),?_⟩;have l1:=jy a o;have l2:=O.dp_plus a o;refine hk _ _ ⟨rfl,O.plusO a o,todo,_,rfl,rfl,hf,a1.plus o1,le_trans l2 (max_le.mpr ⟨a2,o2⟩),by (clear hp2 a2 o2 l2;lia),λx hx=>a4 x (mem_cons_of_mem _ hx)⟩
noncomputable def Rows (C:Cs) (G:Gp) (ps:List (Addr×Row)):Prop:=∀p,p∈ps->jS C G p.1 p.2
theorem Rows.mono {C:Cs} {G G':Gp} {ps:List (Addr×Row)} (h:Rows C G ps) (l:cz G G'):Rows C G' ps:=λp hp=>(h p hp).mono l
theorem et.rows {C:Cs} {G:Gp}:∀{as:List Addr} {rs:aQ Str},et C G as rs->∃ps,as=ps.map (·.1)/\rs.L=ps.map (·.2)/\Rows C G ps
 | _,_,.nil=>⟨[],rfl,rfl,λ_ h=>(nomatch h)⟩
 | _,_,.cons (a:=a) (r:=r) h hs=>by
   obtain⟨ps,h1,h2,h3⟩:=et.rows hs;refine⟨(a,r)::ps,by rw[h1];rfl,by rw[aQ.L,h2];rfl,λp hp=>?_⟩;rcases mem_cons.mp hp with rfl | hp
   ·exact h
   ·exact h3 p hp
theorem Rows.ats {C:Cs} {G:Gp}:∀{ps:List (Addr×Row)},Rows C G ps->et C G (ps.map (·.1)) (aQ.of (ps.map (·.2)))
 | [],_=> .nil
 | p::ps,h=> .cons (h p mem_cons_self) (Rows.ats λx hx=>h x (mem_cons_of_mem _ hx))
theorem kj.mem:∀{rs:aQ Str},kj rs->∀r,r∈rs.L->Sz r
 | .nil,_,r,h=>(nomatch h)
 | .cons r0 rs,z,r,h=>by
   obtain⟨z1,z2⟩:=z.cons;rcases mem_cons.mp h with rfl | h
   ·exact z1
   ·exact kj.mem z2 r h
theorem jU:∀rs:aQ Str,rs.L.length<=rs.hb
 | .nil=>le_refl _
 | .cons r rs=>by
   have h1:=jU rs;have h2:1<=r.hb:=by
    cases r with
    | times b rs=>show 1<=rs.hb+2;(clear h1;lia)
    | count rs n=>show 1<=rs.hb+3;(clear h1;lia)
    | whl b hs rs=>show 1<=rs.hb+_+2;(clear h1;lia)
    | bear b hs rs o=>show 1<=rs.hb+_+2;(clear h1;lia)
    | _=>exact le_refl _
   show rs.L.length+1<=rs.hb+r.hb;lia
theorem uG:∀rs:aQ Str,rs.nn->((rs.L.map Rq.wt).map O.len).sum<=rs.lb
 | .nil,_=>le_refl _
 | .cons r rs,h=>by
   have h1:=uG rs h.2;have h2:=(r.wq h.1).ln;show r.wt.len+((rs.L.map Rq.wt).map O.len).sum<=rs.lb+r.lb;lia
theorem kj.pls {rs:aQ Str} (z:kj rs):Ft (rs.L.reverse.map Rq.wt):=by
 constructor
 ·intro o ho;obtain⟨r,hr,rfl⟩:=mem_map.mp ho;have:=r.wq (z.mem r (List.mem_reverse.mp hr)).nn;exact⟨this.nf,this.dp⟩
 ·have h1:=uG rs z.nn;have h2:=d4 rs;have h3:=z.hb;rw[map_reverse,map_reverse,List.sum_reverse];lia
theorem yf (rs:aQ Str):bw rs.L=rs.wt:=by rw[←iW,aQ.of_L]
noncomputable def AM (S:Nat->Prop) (rs:aQ Str):Prop:=∀r,r∈rs.L->S (kd r)
noncomputable def Au (C:Cs) (S:Nat->Prop):bP:=λws G q _=>∃(as:List Addr) (rs:aQ Str),ws=[.tup (as.map W.ref)]/\et C G as rs/\kj rs/\AM S rs/\q (.tup (ao rs.wt)) G
theorem scWe:bM ["things"] ["things"] (am (aU 19)):=by walk_at "s"
theorem Ev {C:Cs} {S:Nat->Prop} (F:cq K "weight_of" "weight_of" (aU 19) f fd) (F1:Fx P w K mg base "total" ["some"] 4 At) (M:∀i,S i->Mt P w K mg base (C.at_ i) "weigh" ["self"] 6 (iQ C i) []) (mr:mg "reversed"=none):bW P w K mg base 7 f fd ["things"] (Au C S):=by
 have nd:=scWe.nd;refine y9 F scWe (λws G q e h=>by obtain⟨_,_,rfl,_⟩:=h;rfl) (λcdv A outer s H E hr=>?_);apply aI
 ·refine' dL (av (ax F1 (aw.mono hr (by lia)) rfl (ac (fE (dW (by first | rfl | decide+kernel)) rfl (zy rfl mr ?it) (λ_ _ _ _=>?tg) (λ_ _ _ _=>?tt) (λ_ _ _ _=>iV (S:=S) (t:=λi=>jr (C.at_ i) "weigh" (iQ C i) [] (dr 1) j8) λi hi=>js ?me (M i hi) (aw.mono hr (by lia)))) af)))
  case it=>exact(ac (aa 0) af)
  case tg=>exact(cj 1 (by first | assumption | decide+kernel | rfl) rfl (.inl rfl))
  case tt=>exact cZ
  case me=>exact(aa 1)
 ·rintro ws G q e ⟨as,rs,rfl,ha,hz,hkd,hq⟩;obtain⟨ps,rfl,h2,h3⟩:=ha.rows;have hl:=jU rs;have hb:=hz.hb;have hpl:ps.length=rs.L.length:=by rw[h2,length_map]
  walk_at "R";have ep:((ps.map (·.1)).map W.ref).reverse=ps.reverse.map λp=>W.ref p.1:=by rw[map_map,map_reverse];rfl
  rw[ep];refine eQ (i:=1) (λp:Addr×Row=>W.ref p.1) (λp=> .tup (ao p.2.wt)) (τ0:=[none,none]) trivial (λp hp k hk=>?_) (by rw[length_reverse];show 0+_<=_;lia) (λ_=>rfl) λp hp=>?_
  ·have hp':=List.mem_reverse.mp hp;have h4:=h3 p hp';have hm:p.2∈rs.L:=by rw[h2];exact mem_map.mpr ⟨p,hp',rfl⟩
   obtain⟨fs,h6,h7,_⟩:=h4.isIns;walk_at "R";exact⟨kd p.2,hkd _ hm,p.1,fs,rfl,h6,h7,p.1,p.2,rfl,h4,rfl,hz.mem _ hm,hk⟩
  ·refine⟨p,rs.L.reverse.map Rq.wt,rfl,?_,hz.pls,?_⟩
   ·rw[ak,nil_append,h2,←map_reverse,map_map,map_map]
    rfl
   ·rw[jT,yf];exact⟨G,aF.new hp,hq⟩
theorem lY:(10:Int)^400<=x6:=by unfold x6;decide+kernel
theorem uH {b:Str} {rs:aQ Str} (h:Sz (.times b rs)):kj rs:=by
 have h1:=h.nn;have h2:=h.hb;have h3:=h.mb;have e2:(Rq.times b rs).hb=rs.hb+2:=rfl;have e3:(Rq.times b rs).mb=(rs.mb+2)*2:=rfl;rw[e2] at h2;rw[e3] at h3;exact⟨h1,by (clear h3 e3;lia),by (clear h2 e2 e3;lia)⟩
theorem uI {b:Str} {hs:List (O×List Str)} {rs:aQ Str} (h:Sz (.whl b hs rs)):kj rs/\qX 3 hs/\O.hw (hpw hs)<=500/\O.mx (hpw hs)<=10^300:=by
 have h1:=h.nn;have h2:=h.hb;have h3:=h.mb;have e2:(Rq.whl b hs rs).hb=rs.hb+O.hw (hpw hs)+2:=rfl;have e3:(Rq.whl b hs rs).mb=(rs.mb+3)*((O.mx (hpw hs)).toNat+1)+1:=rfl;rw[e2] at h2;rw[e3] at h3;have h4:rs.mb+3<=(rs.mb+3)*((O.mx (hpw hs)).toNat+1):=Nat.le_mul_of_pos_right _ (by (clear h2 h3 e2 e3;lia));have h5:(O.mx (hpw hs)).toNat+1<=(rs.mb+3)*((O.mx (hpw hs)).toNat+1):=Nat.le_mul_of_pos_left _ (by (clear h2 h3 e2 e3 h4;lia));exact⟨⟨h1.1,by (clear h3 e3 h4 h5;lia),by (clear h2 e2 h5;lia)⟩,h1.2,by (clear h3 e3 h4 h5;lia),by (clear h2 e2 h4;lia)⟩
theorem Ew {C:Cs} (F:cq K "weigh" "Times.weigh" (bd 26 1) f fd) (F1:Fx P w K mg base "times" ["a","b"] 4 uC) (F2:Fx P w K mg base "endless" [] 4 Cr) (hc:cV K C.t) (h1:ay K C.t "of_round"):bW P w K mg base 6 f fd ["self"] (iQ C 4):=by
 refine d3 (k:=5) F (N:=["self"]) (by walk_at "s") (by walk_at "l") λ_ _ _ _ _ _ nd hr=>?_;apply aI
 ·exact(ae (av (ax F1 (aw.mono hr (by lia)) rfl (ac (bn (aa 0)) (ac (zm F2 (aw.mono hr (by lia)) rfl) af)))) ah)
 ·rintro ws G q e ⟨a,r,rfl,ha,hk,hz,hq⟩;cases ha with
  | times h hs=>
    rename_i b as rs;have z:=uH hz;obtain⟨r1,r2,r3,r4⟩:=uE z;have c0:=lY;walk_at "R";refine⟨a,C.t,_,_,rfl,h,⟨hc,h1⟩,rfl,rfl,rs.rnd,om,rfl,r1,pS,by lia,by decide,by lia,by decide,Int.le_trans r4 (Int.le_trans (by decide+kernel) c0),Int.le_trans (by decide:O.mx om<=1) (Int.le_trans (by decide+kernel) c0),aF.done ?_⟩;exact hq
  | _=>cases hk
theorem nE {rs:aQ Str} {n:Int} (h:Sz (.count rs n)):kj rs/\0<=n/\n<=10^300:=by
 have h1:=h.nn;have h2:=h.hb;have h3:=h.mb;have e2:(Rq.count rs n).hb=rs.hb+3:=rfl;have e3:(Rq.count rs n).mb=(rs.mb+2)*(n.toNat+1)+1:=rfl;rw[e2] at h2;rw[e3] at h3;have h4:rs.mb+2<=(rs.mb+2)*(n.toNat+1):=Nat.le_mul_of_pos_right _ (by (clear h2 h3 e2 e3;lia));have h5:n.toNat+1<=(rs.mb+2)*(n.toNat+1):=Nat.le_mul_of_pos_left _ (by (clear h2 h3 e2 e3 h4;lia));have h6:=h1.2;exact⟨⟨h1.1,by (clear h3 e3 h4 h5 h6;lia),by (clear h2 e2 h5 h6;lia)⟩,h6,by (clear h2 e2 h4 h6;lia)⟩
theorem ql {b:Str} {hs:List (O×List Str)} {rs:aQ Str} {o:O} (h:Sz (.bear b hs rs o)):kj rs/\qX 3 hs/\o.NF/\o.dp<=4/\O.hw o<=500/\O.mx o<=10^300:=by
 have h1:=h.nn;have h2:=h.hb;have h3:=h.mb;have e2:(Rq.bear b hs rs o).hb=rs.hb+O.hw o+2:=rfl;have e3:(Rq.bear b hs rs o).mb=(rs.mb+3)*((O.mx o).toNat+1)+1:=rfl;rw[e2] at h2;rw[e3] at h3;have h4:rs.mb+3<=(rs.mb+3)*((O.mx o).toNat+1):=Nat.le_mul_of_pos_right _ (by (clear h2 h3 e2 e3;lia));have h5:(O.mx o).toNat+1<=(rs.mb+3)*((O.mx o).toNat+1):=Nat.le_mul_of_pos_left _ (by (clear h2 h3 e2 e3 h4;lia));exact⟨⟨h1.1,by (clear h3 e3 h4 h5;lia),by (clear h2 e2 h5;lia)⟩,h1.2.1,h1.2.2.1,h1.2.2.2,by (clear h3 e3 h4 h5;lia),by (clear h2 e2 h4;lia)⟩
theorem Ey {C:Cs} (F:cq K "weigh" "Count.weigh" (bd 27 1) f fd) (F1:Fx P w K mg base "times" ["a","b"] 4 uC) (F2:Fx P w K mg base "whole" ["n"] 3 kh) (F3:Fx P w K mg base "plus" ["a","b"] 3 lX) (hc:cV K C.t) (h1:ay K C.t "of_round") (hc2:cV K C.n) (h2:ay K C.n "loop") (h3:ay K C.n "rounds"):bW P w K mg base 6 f fd ["self"] (iQ C 6):=by
 refine d3 (k:=5) F (N:=["self"]) (by walk_at "s") (by walk_at "l") λ_ _ _ _ _ _ nd hr=>?_;apply aI
 ·exact(ae (av (ax F3 (aw.mono hr (by lia)) rfl (ac (ax F1 (aw.mono hr (by lia)) rfl (ac (bn (bn (aa 0))) (ac (ax F2 (aw.mono hr (by lia)) rfl (ac (bn (aa 0)) af)) af))) (ac (ax F2 (aw.mono hr (by lia)) rfl (ac ag af)) af)))) ah)
 ·rintro ws G q e ⟨a,r,rfl,ha,hk,hz,hq⟩;cases ha with
  | count h hl hs=>
    rename_i l b as rs n;obtain⟨z,n0,n1⟩:=nE hz;obtain⟨r1,r2,r3,r4⟩:=uE z;have c0:=lY;have y:=Wq.wh n0;have x:=(aQ.rb z.nn).many n0;have x1:=x.ln;have x2:=d4 rs;have x3:=z.hb;have y2:=y.hw;have y3:=y.mx;have y4:=y.dp;have e1:=Wq.wh (n:=1) (by decide);have n2:O.mx (O.wh n)<=10^300:=by (clear hk r2 r3 r4 c0 x1 x2 x3 y2 y4;lia)
    walk_at "R";refine⟨a,C.n,_,_,rfl,h,⟨hc2,h2⟩,rfl,l,C.t,_,_,rfl,hl,⟨hc,h1⟩,rfl,a,C.n,_,_,rfl,h,⟨hc2,h3⟩,rfl,n,rfl,n0,rs.rnd,O.wh n,rfl,r1,y.nf,by lia,by lia,by lia,by lia,Int.le_trans r4 (Int.le_trans (by decide+kernel) c0),Int.le_trans n2 (Int.le_trans (by decide+kernel) c0),1,rfl,by decide,O.timesO rs.rnd (O.wh n),O.wh 1,rfl,x.nf,le_trans x.dp (by decide),le_trans e1.dp (by decide),by (clear hk n0 n1 r2 r3 r4 c0 y2 y3 y4 n2;lia),le_trans e1.ln (by decide),aF.done ?_⟩;exact hq
  | _=>cases hk
theorem Ez {C:Cs} (F:cq K "weigh" "Bearing.weigh" (bd 29 1) f fd) (F1:Fx P w K mg base "times" ["a","b"] 4 uC) (F2:Fx P w K mg base "whole" ["n"] 3 kh) (F3:Fx P w K mg base "plus" ["a","b"] 3 lX) (hc:cV K C.w) (h1:ay K C.w "of_round") (hc2:cV K C.b) (h2:ay K C.b "loop") (h3:ay K C.b "borne"):bW P w K mg base 6 f fd ["self"] (iQ C 7):=by
 refine d3 (k:=5) F (N:=["self"]) (by walk_at "s") (by walk_at "l") λ_ _ _ _ _ _ nd hr=>?_;apply aI
 ·exact(ae (av (ax F3 (aw.mono hr (by lia)) rfl (ac (ax F1 (aw.mono hr (by lia)) rfl (ac (bn (bn (aa 0))) (ac (bn (aa 0)) af))) (ac (ax F2 (aw.mono hr (by lia)) rfl (ac ag af)) af)))) ah)
 ·rintro ws G q e ⟨a,r,rfl,ha,hk,hz,hq⟩;cases ha with
  | bear h hl hs=>
    rename_i l b ms as rs o;obtain⟨z,m1,o1,o2,o3,o4⟩:=ql hz;obtain⟨r1,r2,r3,r4⟩:=uF z;have c0:=lY;have hb:=hz.hb;have hb2:(Rq.bear b ms rs o).hb=rs.hb+O.hw o+2:=rfl;have lt:=im rs.rnw o;have l1:=O.len_le_hw rs.rnw;have l2:=O.len_le_hw o;have nt:=r1.times o1;have dt:=O.dp_times rs.rnw o;have e1:=Wq.wh (n:=1) (by decide);have x0:=(aQ.rbw z.nn).ln;have x2:=d4 rs;walk_at "R";refine⟨a,C.b,_,_,rfl,h,⟨hc2,h2⟩,rfl,l,C.w,_,_,rfl,hl,⟨hc,h1⟩,rfl,a,C.b,_,_,rfl,h,⟨hc2,h3⟩,rfl,rs.rnw,o,rfl,r1,o1,by lia,by lia,by lia,by lia,Int.le_trans r4 (Int.le_trans (by decide+kernel) c0),Int.le_trans o4 (Int.le_trans (by decide+kernel) c0),1,rfl,by decide,O.timesO rs.rnw o,O.wh 1,rfl,nt,by (clear hk o3 o4 r3 r4 c0 hb hb2 lt l1 l2 x0 x2;lia),le_trans e1.dp (by decide),by (clear hk o2 o4 r2 r4 c0 hb dt x0 x2;lia),le_trans e1.ln (by decide),aF.done ?_⟩;exact hq
  | _=>cases hk
theorem kX:∀l:List Str,W.flats (l.map W.str)=true
 | []=>rfl
 | _::l=>by rw[map_cons,W.flats,kX l];rfl
theorem kY:∀l:List Str,W.deps (l.map W.str)=0
 | []=>rfl
 | _::l=>by rw[map_cons,W.deps,kY l];rfl
theorem kZ:∀hs:List (O×List Str),W.flats (fq hs)=true
 | []=>rfl
 | p::hs=>by
   show W.flats (_::fq hs)=true;rw[W.flats,kZ hs];simp[W.flat,W.flats,bS,kX]
theorem lc:∀{hs:List (O×List Str)},qX 3 hs->W.deps (fq hs)<=100
 | [],_=>zero_le _
 | p::hs,h=>by
   have h1:=lc (hs:=hs) λx hx=>h x (mem_cons_of_mem _ hx);have h2:=(h p mem_cons_self).2.1;have h3:=eh p.1;show W.deps (_::fq hs)<=100;simp only[W.deps,W.dep,kY];lia
theorem EA {C:Cs} (F:cq K "weigh" "While.weigh" (bd 28 1) f fd) (F1:Fx P w K mg base "times" ["a","b"] 4 uC) (F2:Fx P w K mg base "whole" ["n"] 3 kh) (F3:Fx P w K mg base "plus" ["a","b"] 3 lX) (F4:BQ P w K mg base "raised" ["exponent","times"] 2 uD [.int 1]) (hc:cV K C.w) (h1:ay K C.w "of_round") (h2:ay K C.w "heights"):bW P w K mg base 6 f fd ["self"] (iQ C 5):=by
 refine d3 (k:=5) F (N:=["self","height"]) (by walk_at "s") (by walk_at "l") λ_ _ _ _ _ _ nd hr=>?_;apply aI
 ·exact(ae (aY 1 nd rfl (.inl rfl) (jj (aH (dQ hr) (bn (aa 0)) (aW af)) (ax F3 (aw.mono hr (by lia)) rfl (ac (aA aB (aA aB (bn (aa 0)) ag) ag) (ac (ax F2 (aw.mono hr (by lia)) rfl (ac ag af)) af))) (aW af))) (ae (av (ax F3 (aw.mono hr (by lia)) rfl (ac (ax F1 (aw.mono hr (by lia)) rfl (ac (bn (aa 0)) (ac (oz F4 (aw.mono hr (by lia)) rfl (ac (aa 1) af)) af))) (ac (ax F2 (aw.mono hr (by lia)) rfl (ac ag af)) af)))) ah))
 ·rintro ws G q e ⟨a,r,rfl,ha,hk,hz,hq⟩;cases ha with
  | whl h hs=>
    rename_i b ms as rs;obtain⟨z,m1,m2,m3⟩:=uI hz;obtain⟨r1,r2,r3,r4⟩:=uF z;obtain⟨g1,g2⟩:=tJ m1;obtain⟨p1,p2⟩:=lO m1;have c0:=lY;have e1:=Wb.wh (n:=1) (by decide);have x:=(aQ.wq rs z.nn).plus (Wq.wh (n:=2) (by decide));have y:=x.times p1 p2 (le_trans (im _ _) (Nat.add_le_add_right x.ln _));have y1:=y.ln;have l1:=d4 rs;have l2:=z.hb;have l3:(hpw ms).len=1:=rfl;have y2:Nat.le (O.len (O.wh 1)) 1:=e1.ln;have r4':=Int.le_trans r4 (Int.le_trans (by decide+kernel) c0);have m3':=Int.le_trans m3 (Int.le_trans (by decide+kernel) c0);have hq':∃G0,aF G0 G/\q (.tup (ao (O.plusO (O.timesO rs.rnw (hpw ms)) (O.wh 1)))) G0:=aF.done hq;have y3:(O.timesO rs.rnw (hpw ms)).len<=40000:=le_trans y1 (by (clear hk m2 m3 r2 r3 r4 g2 p2 c0 y1 r4' m3';lia));have fl:(W.tup (fq ms)).flat=true:=by simp only[W.flat];exact kZ ms
    have dl:(W.tup (fq ms)).dep<=150:=by have:=lc m1;simp only[W.dep];(clear hk m2 m3 r2 r3 r4 g2 p2 c0 y1 l1 l2 l3 r4' m3' y3;lia)
    walk_at "a0";refine⟨a,C.w,_,_,rfl,h,⟨hc,h2⟩,rfl,fl,dl,?_⟩;cases ms with
    | nil=>
      rw[if_neg (by decide)];subst hU;walk_at "R";exact⟨a,C.w,_,_,rfl,h,⟨hc,h1⟩,rfl,tI [],1,rfl,by decide,rs.rnw,hpw [],rfl,r1,p1,by lia,by (clear r2 r3 r4 c0 l1 l2 r4' hk m2 m3 g2 y1 l3 m3' y3 dl;lia),by lia,by lia,r4',m3',1,rfl,by decide,O.timesO rs.rnw (hpw []),O.wh 1,rfl,y.nf,le_trans y.dp (by decide),le_trans e1.dp (by decide),y3,le_trans e1.ln (by decide),hq'⟩
    | cons p ms=>
      rw[if_pos (by simp only[fq,map_cons,W.eq,W.eqs])];refine⟨a,C.w,_,_,rfl,h,⟨hc,h2⟩,rfl,?_⟩;walk_at "R";obtain⟨o1,o2,o4⟩:=m1 p mem_cons_self;have o3:=O.len_le_hw p.1;refine⟨1,rfl,by decide,p.1,O.wh 1,rfl,o1,le_trans o2 (by decide),le_trans e1.dp (by decide),by (clear r2 r3 r4 c0 l1 l2 r4' hk m2 m3 g2 p2 y1 l3 m3' y3 dl o2;lia),le_trans e1.ln (by decide),?_⟩;subst hU;walk_at "R";exact⟨a,C.w,_,_,rfl,h,⟨hc,h1⟩,rfl,tI (p::ms),1,rfl,by decide,rs.rnw,hpw (p::ms),rfl,r1,p1,by lia,by lia,by lia,by lia,r4',m3',1,rfl,by decide,O.timesO rs.rnw (hpw (p::ms)),O.wh 1,rfl,y.nf,le_trans y.dp (by decide),le_trans e1.dp (by decide),y3,le_trans e1.ln (by decide),hq'⟩
  | _=>cases hk
noncomputable def kl (kvs:List (aR×W)):Prop:=∀p,p∈kvs->∃n:Int,p.2=.int n
noncomputable def Fp:Option W->Int
 | some (.int n)=>n
 | _=>0
noncomputable def bp (kvs:List (aR×W)) (k:Str):Int:=Fp (dH kvs (.inr k))
theorem nF {kvs:List (aR×W)} {k:aR} {w:W} {e:aR×W} (h:e∈cT kvs k w):e∈kvs∨e.2=w:=by
 unfold cT at h;split at h
 ·obtain⟨x,hx,rfl⟩:=mem_map.mp h;split
  ·exact .inr rfl
  ·exact .inl hx
 ·rcases mem_append.mp h with h | h
  ·exact .inl h
  ·rw[mem_singleton.mp h];exact .inr rfl
theorem kl.put {kvs:List (aR×W)} (h:kl kvs) (k:aR) (n:Int):kl (cT kvs k (.int n)):=λp hp=>by
 rcases nF hp with hp | hp
 ·exact h p hp
 ·exact⟨n,hp⟩
theorem kl.get {kvs:List (aR×W)} (h:kl kvs) (k:Str):(dH kvs (.inr k)).getD (.int 0)=.int (bp kvs k):=by
 unfold bp;cases e:dH kvs (.inr k) with
 | none=>rfl
 | some w=>
   unfold dH at e;obtain⟨p,hp,rfl⟩:=Option.map_eq_some_iff.mp e;obtain⟨n,hn⟩:=h p (List.mem_of_find?_eq_some hp);rw[hn]
   rfl
noncomputable def dD (B:Int) (kvs:List (aR×W)):Prop:=∀p,p∈kvs->∃n:Int,p.2=.int n/\0<=n/\n<=B
theorem dD.int {B:Int} {kvs:List (aR×W)} (h:dD B kvs):kl kvs:=λp hp=>let ⟨n,e,_⟩:=h p hp;⟨n,e⟩
theorem dD.le {B C:Int} {kvs:List (aR×W)} (h:dD B kvs) (l:B<=C):dD C kvs:=λp hp=>let ⟨n,e,h1,h2⟩:=h p hp;⟨n,e,h1,Int.le_trans h2 l⟩
theorem dD.put {B:Int} {kvs:List (aR×W)} (h:dD B kvs) (k:aR) {n:Int} (h0:0<=n) (h1:n<=B):dD B (cT kvs k (.int n)):=λp hp=>by
 rcases nF hp with hp | hp
 ·exact h p hp
 ·exact⟨n,hp,h0,h1⟩
theorem dD.get {B:Int} {kvs:List (aR×W)} (h:dD B kvs) (hB:0<=B) (k:Str):0<=bp kvs k/\bp kvs k<=B:=by
 unfold bp;cases e:dH kvs (.inr k) with
 | none=>exact⟨Int.le_refl _,hB⟩
 | some w=>
   unfold dH at e;obtain⟨p,hp,rfl⟩:=Option.map_eq_some_iff.mp e;obtain⟨n,hn,h0,h1⟩:=h p (List.mem_of_find?_eq_some hp);rw[hn];exact⟨h0,h1⟩
noncomputable def nG:bP:=λws G q _=>∃(d:Addr) (kvs:List (aR×W)) (z:Str),ws=[.ref d,.str z]/\G d=some (.dic kvs)/\kl kvs/\q (.int (bp kvs z)) G
theorem EB (F:cq K "held" "held" (aU 20) f fd):bW P w K mg base 1 f fd ["boxes","box"] nG:=by
 refine d3 F (N:=["boxes","box"]) (by walk_at "s") (by walk_at "l") λ_ _ _ _ _ _ nd hr=>?_;apply aI
 ·exact(ae (av (wT (aa 0) (aa 1) ag)) ah)
 ·rintro ws G q e ⟨d,kvs,z,rfl,hG,hi,hq⟩;walk_at "R";refine⟨⟨_,hG⟩,_,_,rfl,hG,?_⟩;rw[hi.get z];exact aF.done hq
noncomputable def Av (C:Cs):bP:=λws G q _=>∃(a d:Addr) (b:Str) (hs:List (O×List Str)) (as:List Addr) (rs:aQ Str) (kvs:List (aR×W)) (B:Int),ws=[.ref a,.ref d]/\G a=some (.ins C.w (Di b hs as rs))/\hs.length<=100/\(∀p,p∈hs->p.2.length<=100)/\G d=some (.dic kvs)/\dD B kvs/\0<=B/\q (.tup (ao (bG (bp kvs) hs))) G
theorem nH (g:Str->Int):∀l:List Str,(l.map g).sum=iO g l
 | []=>rfl
 | x::l=>by rw[map_cons,sum_cons,nH g l];rfl
theorem EC {C:Cs} (F:cq K "measure" "While.measure" (bd 28 3) f fd) (F1:Fx P w K mg base "held" ["boxes","box"] 1 nG) (F2:Fx P w K mg base "raised" ["exponent","times"] 2 uD) (ms:mg "sum"=none) (hc:cV K C.w) (h1:ay K C.w "heights"):bW P w K mg base 4 f fd ["self","boxes"] (Av C):=by
 refine d3 (k:=3) F (N:=["self","boxes","found","exponent","names"]) (by walk_at "s") (by walk_at "l") λ_ _ _ _ _ _ nd hr=>?_;apply aI
 ·exact(ae (aY 2 nd rfl (.inl rfl) (aW af)) (ae (dU PySem.PassesOwn.never rfl (cE (bn (aa 0))) (oo rfl (eg (cm 3 nd rfl (.inl rfl)) (eg (cm 4 nd rfl (.inl rfl)) lz))) (ae (aY 2 nd rfl (.inl rfl) (aE bA (aa 2) (ax F2 (aw.mono hr (by lia)) rfl (ac (aa 3) (ac (bb (BA rfl) rfl ms BI (ac (fE (dW (by first | rfl | decide+kernel)) rfl (cE (aa 4)) (λ_ _ _ _=>(cj 1 (by first | assumption | decide+kernel | rfl) rfl (.inl rfl))) (λ_ _ _ _=>cZ) (λ_ _ _ _=>(ax F1 (aw.mono hr (by lia)) rfl (ac (aa 3 rfl (.inr (.inl rfl))) (ac (aa 1) af))))) af)) af))))) ah)) (ae (av (aa 2)) ah)))
 ·rintro ws G q e ⟨a,d,b,hs,as,rs,kvs,B,rfl,ha,hl,hn,hd,hB,B0,hq⟩;have nn:∀x,0<=bp kvs x:=λx=>(hB.get B0 x).1;walk_at "a0";walk_at "a";refine⟨a,C.w,_,_,rfl,ha,⟨hc,h1⟩,rfl,?_⟩;walk_at "R";refine cJ (λws τ G'=>aF G G'/\∃(us:List (O×List Str)) (o:O) (t3 t4:Option W),ws=fq us/\(∀p,p∈us->p∈hs)/\τ=[some (.ref a),some (.ref d),some (.tup (ao o)),t3,t4]/\O.app o (bG (bp kvs) us)=bG (bp kvs) hs/\o.len+us.length<=100) ?_ ?_ _ _ _ ⟨aF.refl _,hs,.z,none,none,rfl,λ_ h=>h,rfl,rfl,by show 0+_<=_;(clear B0;lia)⟩
  ·rintro τ G' ⟨le,us,o,t3,t4,hw,hm,rfl,ho,hlen⟩;refine⟨trivial,?_⟩;have hu:us=[]:=by
    cases us with
    | nil=>rfl
    | cons _ _=>cases hw
   subst hu;subst hU;walk_at "R";rw[show bG (bp kvs) []=.z from rfl,O.app_z] at ho;rw[ho];exact⟨G,le,hq⟩
  ·rintro w1 ws τ G' kk ⟨le,us,o,t3,t4,hw,hm,rfl,ho,hlen⟩ hk;cases us with
   | nil=>cases hw
   | cons p us=>
     cases hw;refine⟨trivial,?_⟩;simp only[sj,kB,si,cW,List.set_cons_succ,List.set_cons_zero];refine⟨rfl,?_⟩;have hpl:=hn p (hm p mem_cons_self);have hd':=le _ _ hd;walk_at "R";show ci _ _ _ _ _ [none,none,none,some (W.ref d)] G' [] _;refine eQ W.str (λx=>W.int (bp kvs x)) trivial (λx hx k hk2=>?_) (by simp only[length_nil];(clear hl B0 hlen;lia)) (λ_=>rfl) λp1 hp1=>?_
     ·walk_at "R";exact⟨d,kvs,x,rfl,hd',hB.int,hk2⟩
     refine⟨p.2.map (bp kvs),by rw[ak,nil_append,map_map];rfl,?_⟩;rw[nH];have s0:=lP nn p.2;refine⟨p.1,iO (bp kvs) p.2,rfl,s0,?_⟩;rw[length_cons] at hlen;have hm':∀q,q∈us->q∈hs:=λq hq=>hm q (mem_cons_of_mem _ hq);have le1:aF G (aL G' p1 (GO.lst ([]++p.2.map λx=>W.int (bp kvs x)))):=le.trans (aF.new hp1)
     by_cases h0:iO (bp kvs) p.2=0
     ·rw[if_pos h0];have e0:bG (bp kvs) (p::us)=bG (bp kvs) us:=if_pos h0;rw[e0] at ho;refine⟨by rw[aN];show o.len+0<=_;(clear hl B0 hpl s0 h0;lia),?_⟩;rw[show ao o++ao O.z=ao o from append_nil _];exact hk _ _ ⟨le1,us,o,_,_,rfl,hm',rfl,ho,by (clear hl B0 hpl s0 h0;lia)⟩
     ·rw[if_neg h0];have e0:bG (bp kvs) (p::us)=.c p.1 (iO (bp kvs) p.2) (bG (bp kvs) us):=if_neg h0;rw[e0] at ho;refine⟨by rw[aN];show o.len+1<=_;(clear hl B0 hpl s0 h0;lia),?_⟩;rw[←fj];refine hk _ _ ⟨le1,us,_,_,_,rfl,hm',rfl,?_,?_⟩
      ·rw[O.app_assoc];exact ho
      ·rw[O.len_app];show o.len+1+_<=_;(clear hl B0 hpl s0 h0;lia)
noncomputable def ft (kvs:List (aR×W)):Row->List (aR×W)
 | .set b n=>cT kvs (.inr b) (.int n)
 | .copy b o=>cT kvs (.inr b) (.int (bp kvs o))
 | .add b o=>cT kvs (.inr b) (.int (bp kvs b+bp kvs o))
 | .less b=>cT kvs (.inr b) (.int (if bp kvs b-1<0 then 0 else bp kvs b-1))
 | _=>kvs
noncomputable def dR (kvs:List (aR×W)):Row->List Row
 | .times b rs=>[.count rs (bp kvs b)]
 | .count rs n=>if n=0 then [] else rs.L++[.count rs (n-1)]
 | .whl b hs rs=>if bp kvs b=0 then [] else rs.L++[.bear b hs rs (bG (bp kvs) hs)]
 | .bear b hs rs _=>if bp kvs b=0 then [] else rs.L++[.bear b hs rs (bG (bp kvs) hs)]
 | _=>[]
noncomputable def fu (kvs:List (aR×W)):Row->Prop
 | .bear b hs _ o=>0<bp kvs b/\0<=O.cmp (bG (bp kvs) hs) o
 | _=>False
noncomputable abbrev refs (ps:List (Addr×Row)):List W:=ps.map λx=>W.ref x.1
noncomputable def lZ (C:Cs) (i:Nat):bP:=λws G q _=>∃(a d:Addr) (r:Row) (kvs:List (aR×W)),ws=[.ref a,.ref d]/\jS C G a r/\kd r=i/\Sz r/\r.od/\G d=some (.dic kvs)/\(∃B:Int,dD B kvs/\0<=B)/\kvs.length<=1000/\¬fu kvs r/\
 ∀(p:Addr) (G':Gp) (ps:List (Addr×Row)),(∀x g,x≠d->G x=some g->G' x=some g)->G' d=some (.dic (ft kvs r))->G p=none->G' p=some (.lst (refs ps))->Rows C G' ps->ps.map (·.2)=dR kvs r->q (.ref p) G'
theorem fH {C:Cs} {G:Gp} {q:WK} {d:Addr} {r:Row} {kvs:List (aR×W)} (hd:G d=some (.dic kvs)) (hs:dR kvs r=[]) (hq:∀(p:Addr) (G':Gp) (ps:List (Addr×Row)),(∀x g,x≠d->G x=some g->G' x=some g)->G' d=some (.dic (ft kvs r))->G p=none->G' p=some (.lst (refs ps))->Rows C G' ps->ps.map (·.2)=dR kvs r->q (.ref p) G'):
 ∀p,aL G d (.dic (ft kvs r)) p=none->∃G0,aF G0 (aL (aL G d (.dic (ft kvs r))) p (.lst []))/\q (.ref p) G0:=λp hp=>by
 have pd:p≠d:=λz=>by rw[z,ak] at hp;cases hp
 have hp0:G p=none:=by rw[aq pd] at hp;exact hp
 refine aF.done (hq p _ [] (λx g xd e=>?_) ((aq pd.symm).trans ak) hp0 ak (λ_ h=>(nomatch h)) hs.symm);rw[aq (λz=>by rw[z,hp0] at e;cases e),aq xd];exact e
theorem ED {C:Cs} (F:cq K "step" "Set.step" (bd 22 1) f fd) (hc:cV K C.s) (h1:ay K C.s "box") (h2:ay K C.s "amount"):bW P w K mg base 4 f fd ["self","boxes"] (lZ C 0):=by
 refine d3 (k:=3) F (N:=["self","boxes"]) (by walk_at "s") (by walk_at "l") λ_ _ _ _ _ _ nd hr=>?_;apply aI
 ·exact(ae (gQ (bn (aa 0)) (aa 1) (bn (aa 0))) (ae (av (bC af)) ah))
 ·rintro ws G q e ⟨a,d,r,kvs,rfl,ha,hk,hz,hod,hd,⟨B,hB,B0⟩,hl,hnf,hq⟩;have hi:=hB.int;cases ha with
  | set ha=>
    rename_i b n;walk_at "a0";refine⟨a,C.s,_,.int n,rfl,ha,⟨hc,h2⟩,rfl,a,C.s,_,.str b,rfl,ha,⟨hc,h1⟩,rfl,d,b,kvs,rfl,rfl,hd,by lia,?_⟩;subst hU;walk_at "R";exact fH hd rfl hq
  | _=>cases hk
theorem EE {C:Cs} (F:cq K "step" "Copy.step" (bd 23 1) f fd) (F1:Fx P w K mg base "held" ["boxes","box"] 1 nG) (hc:cV K C.c) (h1:ay K C.c "box") (h2:ay K C.c "other"):bW P w K mg base 4 f fd ["self","boxes"] (lZ C 1):=by
 refine d3 (k:=3) F (N:=["self","boxes"]) (by walk_at "s") (by walk_at "l") λ_ _ _ _ _ _ nd hr=>?_;apply aI
 ·exact(ae (gQ (ax F1 (aw.mono hr (by lia)) rfl (ac (aa 1) (ac (bn (aa 0)) af))) (aa 1) (bn (aa 0))) (ae (av (bC af)) ah))
 ·rintro ws G q e ⟨a,d,r,kvs,rfl,ha,hk,hz,hod,hd,⟨B,hB,B0⟩,hl,hnf,hq⟩;have hi:=hB.int;cases ha with
  | copy ha=>
    rename_i b o;walk_at "a0";refine⟨a,C.c,_,.str o,rfl,ha,⟨hc,h2⟩,rfl,d,kvs,o,rfl,hd,hi,?_⟩;walk_at "R";refine⟨a,C.c,_,.str b,rfl,ha,⟨hc,h1⟩,rfl,d,b,kvs,rfl,rfl,hd,by lia,?_⟩;subst hU;walk_at "R";exact fH hd rfl hq
  | _=>cases hk
theorem EF {C:Cs} (F:cq K "step" "Add.step" (bd 24 1) f fd) (F1:Fx P w K mg base "held" ["boxes","box"] 1 nG) (hc:cV K C.a) (h1:ay K C.a "box") (h2:ay K C.a "other"):bW P w K mg base 4 f fd ["self","boxes"] (lZ C 2):=by
 refine d3 (k:=3) F (N:=["self","boxes"]) (by walk_at "s") (by walk_at "l") λ_ _ _ _ _ _ nd hr=>?_;apply aI
 ·exact(ae (gQ (aE bA (ax F1 (aw.mono hr (by lia)) rfl (ac (aa 1) (ac (bn (aa 0)) af))) (ax F1 (aw.mono hr (by lia)) rfl (ac (aa 1) (ac (bn (aa 0)) af)))) (aa 1) (bn (aa 0))) (ae (av (bC af)) ah))
 ·rintro ws G q e ⟨a,d,r,kvs,rfl,ha,hk,hz,hod,hd,⟨B,hB,B0⟩,hl,hnf,hq⟩;have hi:=hB.int;cases ha with
  | add ha=>
    rename_i b o;walk_at "a0";refine⟨a,C.a,_,.str b,rfl,ha,⟨hc,h1⟩,rfl,d,kvs,b,rfl,hd,hi,a,C.a,_,.str o,rfl,ha,⟨hc,h2⟩,rfl,d,kvs,o,rfl,hd,hi,?_⟩;walk_at "R";refine⟨a,C.a,_,.str b,rfl,ha,⟨hc,h1⟩,rfl,d,b,kvs,rfl,rfl,hd,by lia,?_⟩;subst hU;walk_at "R";exact fH hd rfl hq
  | _=>cases hk
theorem EG {C:Cs} (F:cq K "step" "Less.step" (bd 25 1) f fd) (F1:Fx P w K mg base "held" ["boxes","box"] 1 nG) (mm:mg "max"=none) (hc:cV K C.l) (h1:ay K C.l "box"):bW P w K mg base 4 f fd ["self","boxes"] (lZ C 3):=by
 refine d3 (k:=3) F (N:=["self","boxes"]) (by walk_at "s") (by walk_at "l") λ_ _ _ _ _ _ nd hr=>?_;apply aI
 ·exact(ae (gQ (bb (oA rfl) rfl mm sK (ac (aE jl (ax F1 (aw.mono hr (by lia)) rfl (ac (aa 1) (ac (bn (aa 0)) af))) ag) (ac ag af))) (aa 1) (bn (aa 0))) (ae (av (bC af)) ah))
 ·rintro ws G q e ⟨a,d,r,kvs,rfl,ha,hk,hz,hod,hd,⟨B,hB,B0⟩,hl,hnf,hq⟩;have hi:=hB.int;cases ha with
  | less ha=>
    rename_i b;walk_at "a0";refine⟨a,C.l,_,.str b,rfl,ha,⟨hc,h1⟩,rfl,d,kvs,b,rfl,hd,hi,?_⟩;walk_at "R";refine⟨a,C.l,_,.str b,rfl,ha,⟨hc,h1⟩,rfl,d,b,kvs,rfl,rfl,hd,by lia,?_⟩;subst hU;walk_at "R";exact fH hd rfl hq
  | _=>cases hk
noncomputable def Aw (C:Cs):bP:=λws G q _=>∃(a l:Addr) (n:Int),ws=[.ref a,.ref l,.int n]/\G a=some (.ins C.n [])/\∀G':Gp,G' a=some (.ins C.n [("loop",.ref l),("rounds",.int n)])->(∀x,x≠a->G' x=G x)->q .non G'
theorem EH {C:Cs} (F:cq K "__init__" "Count.__init__" (bd 27 0) f fd) (hc:cV K C.n) (h1:ay K C.n "loop") (h2:ay K C.n "rounds"):bW P w K mg base 1 f fd ["self","loop","rounds"] (Aw C):=by
 refine d3 F (N:=["self","loop","rounds"]) (by walk_at "s") (by walk_at "l") λ_ _ _ _ _ _ nd hr=>?_;apply aI
 ·exact(ae (cc (aa 0) (aa 1)) (ae (cc (aa 0) (aa 2)) ah))
 ·rintro ws G q e ⟨a,l,n,rfl,hG,hq⟩;walk_at "a0";refine⟨a,C.n,[],rfl,hG,⟨hc,h1⟩,by simp,?_⟩;subst hU;walk_at "R";refine⟨a,C.n,[("loop",.ref l)],rfl,ak,⟨hc,h2⟩,by simp,?_⟩;exact aF.done (hq _ ak λx hx=>(aq hx).trans (aq hx))
theorem EI {C:Cs} (F:cq K "step" "Times.step" (bd 26 2) f fd) (F1:Fx P w K mg base "held" ["boxes","box"] 1 nG) (N1:mT P w K mg base "Count" C.n ["self","loop","rounds"] 1 (Aw C)) (hc:cV K C.t) (h1:ay K C.t "box"):bW P w K mg base 4 f fd ["self","boxes"] (lZ C 4):=by
 refine d3 (k:=3) F (N:=["self","boxes"]) (by walk_at "s") (by walk_at "l") λ_ _ _ _ _ _ nd hr=>?_;apply aI
 ·exact(ae (av (bC (ac (eL N1 (aw.mono hr (by lia)) rfl (ac (aa 0) (ac (ax F1 (aw.mono hr (by lia)) rfl (ac (aa 1) (ac (bn (aa 0)) af))) af))) af))) ah)
 ·rintro ws G q e ⟨a,d,r,kvs,rfl,ha,hk,hz,hod,hd,⟨B,hB,B0⟩,hl,hnf,hq⟩;have hi:=hB.int;cases ha with
  | times ha hs=>
    rename_i b as rs;walk_at "R";refine⟨a,C.t,_,.str b,rfl,ha,⟨hc,h1⟩,rfl,d,kvs,b,rfl,hd,hi,λp hp=>⟨p,a,_,rfl,ak,λG' g1 g2=>⟨rfl,λp2 hp2=>?_⟩⟩⟩;have le:aF G G':=λx g e=>(g2 x (λz=>by rw[z,hp] at e;cases e)).trans (aG e hp);have n2:p2≠p:=λz=>by rw[z,g1] at hp2;cases hp2
    have le2:=le.trans (aF.new (g:=GO.lst [W.ref p]) hp2);refine aF.done (hq p2 _ [(p,.count rs (bp kvs b))] (λx g _ e=>le2 _ _ e) (le2 _ _ hd) (bJ le hp2) ak (λx hx=>?_) rfl);rw[mem_singleton.mp hx];exact .count ((aq n2.symm).trans g1) (le2 _ _ ha) (hs.mono (aF.ins le2))
  | _=>cases hk
theorem EJ {C:Cs} (F:cq K "step" "Count.step" (bd 27 2) f fd) (N1:mT P w K mg base "Count" C.n ["self","loop","rounds"] 1 (Aw C)) (hc:cV K C.t) (h1:ay K C.t "rows") (hc2:cV K C.n) (h2:ay K C.n "loop") (h3:ay K C.n "rounds") (ml:mg "list"=none):bW P w K mg base 4 f fd ["self","boxes"] (lZ C 6):=by
 refine d3 (k:=3) F (N:=["self","boxes"]) (by walk_at "s") (by walk_at "l") λ_ _ _ _ _ _ nd hr=>?_;apply aI
 ·exact(ae (bq (aH (bL hr) (bn (aa 0)) ag) (ae (av (bC af)) ah) ah) (ae (av (aE bA (bv (qf rfl) rfl ml oy (ac (bn (bn (aa 0))) af)) (bC (ac (eL N1 (aw.mono hr (by lia)) rfl (ac (bn (aa 0)) (ac (aE jl (bn (aa 0)) ag) af))) af)))) ah))
 ·rintro ws G q e ⟨a,d,r,kvs,rfl,ha,hk,hz,hod,hd,⟨B,hB,B0⟩,hl,hnf,hq⟩;have hi:=hB.int;cases ha with
  | count ha hl' hs=>
    rename_i l b as rs n;obtain⟨z,n0,n1⟩:=nE hz;walk_at "a0";refine⟨a,C.n,_,_,rfl,ha,⟨hc2,h3⟩,rfl,?_⟩;walk_at "R"
    by_cases hn0:n=0
    ·rw[if_pos hn0];intro p hp;have le:=aF.new (g:=GO.lst []) hp;exact aF.done (hq p _ [] (λx g _ e=>le _ _ e) (le _ _ hd) hp ak (λ_ h=>(nomatch h)) (by show[]=if n=0 then [] else rs.L++[Rq.count rs (n-1)];rw[if_pos hn0]))
    ·rw[if_neg hn0];subst hU;walk_at "R";refine⟨a,C.n,_,_,rfl,ha,⟨hc2,h2⟩,rfl,l,C.t,_,_,rfl,hl',⟨hc,h1⟩,rfl,?_⟩;walk_at "R";obtain⟨ps,rfl,hL,hR⟩:=hs.rows;have hll:=jU rs;have hzb:=z.hb;have hpl:ps.length=rs.L.length:=by rw[hL,length_map]
     refine⟨by rw[length_map,length_map];(clear B0 hl hk n0 n1 hn0;lia),λp hp=>⟨a,C.n,_,_,rfl,aG ha hp,⟨hc2,h2⟩,rfl,a,C.n,_,_,rfl,aG ha hp,⟨hc2,h3⟩,rfl,?_⟩⟩;walk_at "R";intro p1 hp1;refine⟨p1,l,_,rfl,ak,λG' g1 g2=>⟨rfl,λp2 hp2=>?_⟩⟩;have le1:aF (aL G p (GO.lst (List.map W.ref (List.map (λx=>x.1) ps)))) G':=λx g e=>(g2 x (λz=>by rw[z,hp1] at e;cases e)).trans (aG e hp1);have le2:=le1.trans (aF.new (g:=GO.lst [W.ref p1]) hp2);have g2p:=le2 _ _ ak;refine⟨_,_,g2p,ak,by simp only[length_map,length_cons,length_nil];(clear B0 hl hk n0 n1 hn0;lia),λp3 hp3=>?_⟩;have n21:p2≠p1:=λz=>by rw[z,g1] at hp2;cases hp2
     have g1b:aL G' p2 (GO.lst [W.ref p1]) p1=some (.ins C.n [("loop",.ref l),("rounds",.int (n-1))]):=(aq n21.symm).trans g1;have le3:=(aF.new (g:=GO.lst (List.map W.ref (List.map (λx=>x.1) ps))) hp).trans (le2.trans (aF.new (g:=GO.lst (List.map W.ref (List.map (λx=>x.1) ps)++[W.ref p1])) hp3));have n31:p3≠p1:=λz=>by rw[z,g1b] at hp3;cases hp3
     refine aF.done (hq p3 _ (ps++[(p1,.count rs (n-1))]) (λx g _ e=>le3 _ _ e) (le3 _ _ hd) (bJ (aF.new hp) (bJ le2 hp3)) ?_ (λx hx=>?_) ?_)
     ·rw[ak,map_map];simp only[refs,map_append,map_cons,map_nil]
      rfl
     ·rcases mem_append.mp hx with hx | hx
      ·exact(hR x hx).mono (aF.ins le3)
      ·rw[mem_singleton.mp hx];exact .count ((aq n31.symm).trans g1b) (le3 _ _ hl') (hs.mono (aF.ins le3))
     ·rw[map_append,←hL];show _=if n=0 then [] else rs.L++[Rq.count rs (n-1)]
      rw[if_neg hn0]
      rfl
  | _=>cases hk
noncomputable def Ct (C:Cs):bP:=λws G q _=>∃(a l:Addr) (o:O),ws=[.ref a,.ref l,.tup (ao o)]/\G a=some (.ins C.b [])/\∀G':Gp,G' a=some (.ins C.b [("loop",.ref l),("borne",.tup (ao o))])->(∀x,x≠a->G' x=G x)->q .non G'
theorem EK {C:Cs} (F:cq K "__init__" "Bearing.__init__" (bd 29 0) f fd) (hc:cV K C.b) (h1:ay K C.b "loop") (h2:ay K C.b "borne"):bW P w K mg base 1 f fd ["self","loop","borne"] (Ct C):=by
 refine d3 F (N:=["self","loop","borne"]) (by walk_at "s") (by walk_at "l") λ_ _ _ _ _ _ nd hr=>?_;apply aI
 ·exact(ae (cc (aa 0) (aa 1)) (ae (cc (aa 0) (aa 2)) ah))
 ·rintro ws G q e ⟨a,l,o,rfl,hG,hq⟩;walk_at "a0";refine⟨a,C.b,[],rfl,hG,⟨hc,h1⟩,by simp,?_⟩;subst hU;walk_at "R";refine⟨a,C.b,[("loop",.ref l)],rfl,ak,⟨hc,h2⟩,by simp,?_⟩;exact aF.done (hq _ ak λx hx=>(aq hx).trans (aq hx))
noncomputable def Ax (C:Cs):bP:=λws G q _=>∃(a d:Addr) (b:Str) (hs:List (O×List Str)) (rs:aQ Str) (kvs:List (aR×W)),ws=[.ref a,.ref d]/\jS C G a (.whl b hs rs)/\kj rs/\Dd hs/\G d=some (.dic kvs)/\(∃B:Int,dD B kvs/\0<=B)/\kvs.length<=1000/\
 ∀(p:Addr) (G':Gp) (ps:List (Addr×Row)),(∀x g,x≠d->G x=some g->G' x=some g)->G' d=some (.dic kvs)->G p=none->G' p=some (.lst (refs ps))->Rows C G' ps->ps.map (·.2)=dR kvs (.whl b hs rs)->q (.ref p) G'
theorem Cu {C:Cs} (F:cq K "step" "While.step" (bd 28 2) f fd) (F1:Fx P w K mg base "held" ["boxes","box"] 1 nG) (N1:mT P w K mg base "Bearing" C.b ["self","loop","borne"] 1 (Ct C)) (M1:Mt P w K mg base C.w "measure" ["self","boxes"] 4 (Av C) []) (hc:cV K C.w) (h1:ay K C.w "box") (h2:ay K C.w "rows") (ml:mg "list"=none):bW P w K mg base 6 f fd ["self","boxes"] (Ax C):=by
 refine d3 (k:=5) F (N:=["self","boxes"]) (by walk_at "s") (by walk_at "l") λ_ _ _ _ _ _ nd hr=>?_;apply aI
 ·exact(ae (bq (aH (bL hr) (ax F1 (aw.mono hr (by lia)) rfl (ac (aa 1) (ac (bn (aa 0)) af))) ag) (ae (av (bC af)) ah) ah) (ae (av (aE bA (bv (qf rfl) rfl ml oy (ac (bn (aa 0)) af)) (bC (ac (eL N1 (aw.mono hr (by lia)) rfl (ac (aa 0) (ac (lK (aa 0) M1 (aw.mono hr (by lia)) (ac (aa 1) af)) af))) af)))) ah))
 ·rintro ws G q e ⟨a,d,b,hs,rs,kvs,rfl,ha,z,ho,hd,⟨B,hB,B0⟩,hl,hq⟩;cases ha with
  | whl ha hs'=>
    rename_i as;have hi:=hB.int;walk_at "a0";refine⟨a,C.w,_,_,rfl,ha,⟨hc,h1⟩,rfl,d,kvs,b,rfl,hd,hi,?_⟩;walk_at "R"
    by_cases hn0:bp kvs b=0
    ·rw[if_pos hn0];intro p hp;have le:=aF.new (g:=GO.lst []) hp;exact aF.done (hq p _ [] (λx g _ e=>le _ _ e) (le _ _ hd) hp ak (λ_ h=>(nomatch h)) (by show[]=if bp kvs b=0 then [] else _;rw[if_pos hn0]))
    ·rw[if_neg hn0];subst hU;walk_at "R";refine⟨a,C.w,_,_,rfl,ha,⟨hc,h2⟩,rfl,?_⟩;walk_at "R";obtain⟨ps,rfl,hL,hR⟩:=hs'.rows;have hll:=jU rs;have hzb:=z.hb;have hpl:ps.length=rs.L.length:=by rw[hL,length_map]
     refine⟨by rw[length_map,length_map];(clear B0 hl hn0;lia),λp hp=>?_⟩;refine⟨a,_,rfl,aG ha hp,rfl,?_⟩;refine⟨a,d,b,hs,_,rs,kvs,B,rfl,aG ha hp,ho.ln,ho.nm,aG hd hp,hB,B0,λp1 hp1=>?_⟩;refine⟨p1,a,_,rfl,ak,λG' g1 g2=>⟨rfl,λp2 hp2=>?_⟩⟩;have le1:aF (aL G p (GO.lst (List.map W.ref (List.map (λx=>x.1) ps)))) G':=λx g e=>(g2 x (λz=>by rw[z,hp1] at e;cases e)).trans (aG e hp1);have le2:=le1.trans (aF.new (g:=GO.lst [W.ref p1]) hp2);have g2p:=le2 _ _ ak;refine⟨_,_,g2p,ak,by simp only[length_map,length_cons,length_nil];(clear B0 hl hn0;lia),λp3 hp3=>?_⟩;have n21:p2≠p1:=λz=>by rw[z,g1] at hp2;cases hp2
     have g1b:aL G' p2 (GO.lst [W.ref p1]) p1=some (.ins C.b [("loop",.ref a),("borne",.tup (ao (bG (bp kvs) hs)))]):=(aq n21.symm).trans g1;have le3:=(aF.new (g:=GO.lst (List.map W.ref (List.map (λx=>x.1) ps))) hp).trans (le2.trans (aF.new (g:=GO.lst (List.map W.ref (List.map (λx=>x.1) ps)++[W.ref p1])) hp3));have n31:p3≠p1:=λz=>by rw[z,g1b] at hp3;cases hp3
     refine aF.done (hq p3 _ (ps++[(p1,.bear b hs rs (bG (bp kvs) hs))]) (λx g _ e=>le3 _ _ e) (le3 _ _ hd) (bJ (aF.new hp) (bJ le2 hp3)) ?_ (λx hx=>?_) ?_)
     ·rw[ak,map_map];simp only[refs,map_append,map_cons,map_nil]
      rfl
     ·rcases mem_append.mp hx with hx | hx
      ·exact(hR x hx).mono (aF.ins le3)
      ·rw[mem_singleton.mp hx];exact .bear ((aq n31.symm).trans g1b) (le3 _ _ ha) (hs'.mono (aF.ins le3))
     ·rw[map_append,←hL];show _=if bp kvs b=0 then [] else rs.L++[Rq.bear b hs rs (bG (bp kvs) hs)]
      rw[if_neg hn0]
      rfl
noncomputable def rz (C:Cs) (Cf:Addr) (i:Nat):bP:=λws G q e=>∃(a d:Addr) (r:Row) (kvs:List (aR×W)),ws=[.ref a,.ref d]/\jS C G a r/\kd r=i/\Sz r/\r.od/\G d=some (.dic kvs)/\(∃B:Int,dD B kvs/\0<=B)/\kvs.length<=1000/\(fu kvs r->e (.ref Cf) G)/\
 (¬fu kvs r->∀(p:Addr) (G':Gp) (ps:List (Addr×Row)),(∀x g,x≠d->G x=some g->G' x=some g)->G' d=some (.dic (ft kvs r))->G p=none->G' p=some (.lst (refs ps))->Rows C G' ps->ps.map (·.2)=dR kvs r->q (.ref p) G')
theorem xq {C:Cs} {Cf:Addr} (hi:i≠7) {ws:List W} {G:Gp} {q:WK} {e:WX} (h:rz C Cf i ws G q e):lZ C i ws G q e:=by
 obtain⟨a,d,r,kvs,h1,h2,h3,h4,h5,h6,h7,h8,h9,h10⟩:=h;have hn:¬fu kvs r:=λz=>by
  cases r with
  | bear _ _ _ _=>exact hi h3.symm
  | _=>exact z
 exact⟨a,d,r,kvs,h1,h2,h3,h4,h5,h6,h7,h8,hn,h10 hn⟩
theorem xt {C:Cs} {ws:List W} {G:Gp} {q:WK} {e:WX} (h:lZ C 5 ws G q e):Ax C ws G q e:=by
 obtain⟨a,d,r,kvs,rfl,h2,h3,h4,h5,h6,h7,h8,h9,h10⟩:=h;cases r with
 | whl b hs rs=>exact⟨a,d,b,hs,rs,kvs,rfl,h2,(uI h4).1,h5.1,h6,h7,h8,h10⟩
 | _=>cases h3
theorem scS8:bM ["self","boxes"] ["self","boxes"] (am (bd 29 2)):=by walk_at "s"
theorem EL {C:Cs} {Cf:Addr} (F:cq K "step" "Bearing.step" (bd 29 2) f fd) (hm:mg "NoFall"=some (.ref Cf)) (hC:XC K Cf bm) (F1:Fx P w K mg base "held" ["boxes","box"] 1 nG) (F2:Fx P w K mg base "compare" ["a","b"] 1 Ar) (M1:Mt P w K mg base C.w "measure" ["self","boxes"] 4 (Av C) []) (M2:Mt P w K mg base C.w "step" ["self","boxes"] 6 (Ax C) []) (hc:cV K C.w) (h1:ay K C.w "box") (hc2:cV K C.b) (h2:ay K C.b "loop") (h3:ay K C.b "borne"):sR P w K mg base 8 f fd ["self","boxes"] (rz C Cf 7):=by
 have nd:=scS8.nd;refine DX (k:=7) F scS8 (λws G q e h=>by obtain⟨_,_,_,_,rfl,_⟩:=h;rfl) (λcdv A outer s H E ws G q e hr hsp hE=>?_);apply aI
 ·refine' ae (bq ?c (dL (sT hm hC (λH1 G1=>hE (.ref Cf) H1 G1) rfl)) ah) ?s2
  case c=>exact(fM (eB (aH lA (ax F1 (aw.mono hr (by lia)) rfl (ac (aa 1) (ac (bn (bn (aa 0))) af))) ag) (cX (aH Bx (ax F2 (aw.mono hr (by lia)) rfl (ac (lK (bn (aa 0)) M1 (aw.mono hr (by lia)) (ac (aa 1) af)) (ac (bn (aa 0)) af))) ag))))
  case s2=>exact(ae (av (lK (bn (aa 0)) M2 (aw.mono hr (by lia)) (ac (aa 1) af))) ah)
 ·obtain⟨a,d,r,kvs,rfl,ha,hk,hz,hod,hd,⟨B,hB,B0⟩,hl,hx,hq⟩:=hsp;cases ha with
  | bear ha hl' hs'=>
    rename_i l b ms as rs o;obtain⟨z,m1,o1,o2,o3,o4⟩:=ql hz;have hi:=hB.int;refine aT λU hU=>?_;have bH:¬fu kvs (.bear b ms rs o)->U { nx:=λx G1=>∃G0,aF G0 G1/\q W.non G0,rt:=λw G1=>∃G0,aF G0 G1/\q w G0 } [some (.ref a),some (.ref d)] G:=λhn=>by
     subst hU;walk_at "R";refine⟨a,C.b,_,_,rfl,ha,⟨hc2,h2⟩,rfl,l,_,rfl,hl',rfl,l,d,b,ms,rs,kvs,rfl,.whl hl' hs',z,hod.1,hd,⟨B,hB,B0⟩,hl,λp G' ps k1 k2 k3 k4 k5 k6=>?_⟩;exact aF.done (hq hn p G' ps k1 k2 k3 k4 k5 k6)
    walk_at "R";refine⟨a,C.b,_,_,rfl,ha,⟨hc2,h2⟩,rfl,l,C.w,_,_,rfl,hl',⟨hc,h1⟩,rfl,d,kvs,b,rfl,hd,hi,?_⟩;walk_at "R"
    by_cases hb:0<bp kvs b
    ·rw[if_pos hb];refine⟨a,C.b,_,_,rfl,ha,⟨hc2,h2⟩,rfl,l,_,rfl,hl',rfl,l,d,b,ms,_,rs,kvs,B,rfl,hl',hod.1.ln,hod.1.nm,hd,hB,B0,?_⟩;refine⟨a,C.b,_,_,rfl,ha,⟨hc2,h3⟩,rfl,bG (bp kvs) ms,o,rfl,?_,?_⟩
     ·have:=iY (bp kvs) m1;lia
     walk_at "R"
     by_cases hcm:0<=O.cmp (bG (bp kvs) ms) o
     ·rw[if_pos hcm];exact hx ⟨hb,hcm⟩
     ·rw[if_neg hcm];exact bH λh=>hcm h.2
    ·rw[if_neg hb];exact bH λh=>hb h.1
  | _=>cases hk
noncomputable abbrev nI (ms:List (O×Str)):List W:=ms.map λm=> .tup [.tup (ao m.1),.str m.2]
noncomputable def Cv:bP:=λws G q _=>∃(l:Addr) (ms:List (O×Str)),ws=[.ref l]/\G l=some (.lst (nI ms))/\ms.length<=5/\(∀m,m∈ms->m.1.dp<=3)/\q (.tup (fq (iI ms))) G
structure Ay (P:Program) (w:World) (K:PySem.W.Frag) (G:Gp) (d:Addr) (done:List (O×Str)) (ps:List (O×Addr)) (G':Gp):Prop where
 le:aF G G'
 fd:G d=none
 at_d:G' d=some (qj P w K (ps.map λx=>(x.1,.ref x.2)))
 len:ps.length<=done.length
 mem:∀o,o∈ps.map (·.1)↔o∈done.map (·.1)
 ls:∀x,x∈ps->G' x.2=some (.lst ((ck done x.1).map W.str))
 fr:∀x,x∈ps->G x.2=none
 i1:∀x y,x∈ps->y∈ps->x.1=y.1->x=y
 i2:∀x y,x∈ps->y∈ps->x.2=y.2->x=y
theorem nJ {ps:List (O×Addr)} {o:O} {x:W} (h:eR (ps.map λx=>(x.1,.ref x.2)) o=some x):∃k,x=.ref k/\(o,k)∈ps:=by
 unfold eR at h;obtain⟨p,hp,rfl⟩:=Option.map_eq_some_iff.mp h;have h1:=List.mem_of_find?_eq_some hp;have h2:=List.find?_some hp;obtain⟨y,hy,rfl⟩:=mem_map.mp h1;have:y.1=o:=by simpa using h2
 subst this;exact⟨y.2,rfl,hy⟩
theorem nK {ps:List (O×Addr)} {o:O} (h:eR (ps.map λx=>(x.1,W.ref x.2)) o=none):o∉ps.map (·.1):=λho=>by
 obtain⟨y,hy,e⟩:=mem_map.mp ho;unfold eR at h;have h1:=List.find?_eq_none.mp (Option.map_eq_none_iff.mp h) _ (mem_map.mpr ⟨y,hy,rfl⟩);exact h1 (decide_eq_true e)
theorem xu {ps:List (O×Addr)} {o:O} (h:o∈ps.map (·.1)):∃k,eR (ps.map λx=>(x.1,W.ref x.2)) o=some (.ref k)/\(o,k)∈ps:=by
 cases e:eR (ps.map λx=>(x.1,W.ref x.2)) o with
 | none=>exact absurd h (nK e)
 | some x=>
   obtain⟨k,rfl,hk⟩:=nJ e;exact⟨k,rfl,hk⟩
theorem Ay.old {G G':Gp} {d p k:Addr} {done:List (O×Str)} {ps:List (O×Addr)} {o:O} {b:Str} (g:Ay P w K G d done ps G') (hp:G' p=none) (hk:(o,k)∈ps):
 Ay P w K G d (done++[(o,b)]) ps (aL (aL G' p (.lst [])) k (.lst ((ck done o).map W.str++[.str b]))):=by
 have hkd:k≠d:=λz=>by have:=g.ls _ hk;rw[z,g.at_d] at this;cases this
 have hG0:=g.fr _ hk;refine⟨λa x e=>?_,g.fd,?_,?_,λx=>?_,λx hx=>?_,g.fr,g.i1,g.i2⟩
 ·rw[aq (λz=>by rw[z,hG0] at e;cases e)];exact aG (g.le _ _ e) hp
 ·rw[aq hkd.symm];exact aG g.at_d hp
 ·have:=g.len;rw[length_append];exact Nat.le_succ_of_le this
 ·rw[g.mem,map_append,mem_append];constructor
  ·exact Or.inl
  ·rintro(h | h)
   ·exact h
   ·rw[mem_singleton.mp h];exact(g.mem o).mp (mem_map.mpr ⟨_,hk,rfl⟩)
 ·rw[jz]
  by_cases e:x.2=k
  ·have:=g.i2 x (o,k) hx hk e;subst this;rw[ak,if_pos rfl,map_append]
   rfl
  ·rw[aq e,if_neg (λz=>e (congrArg Prod.snd (g.i1 x (o,k) hx hk z.symm))),append_nil];exact aG (g.ls x hx) hp
theorem Ay.new {G G':Gp} {d p:Addr} {done:List (O×Str)} {ps:List (O×Addr)} {o:O} {b:Str} (g:Ay P w K G d done ps G') (hp:G' p=none) (hk:o∉ps.map (·.1)):
 Ay P w K G d (done++[(o,b)]) (ps++[(o,p)]) (aL (aL (aL G' p (.lst [])) d (qj P w K (ps.map (λx=>(x.1,W.ref x.2))++[(o,.ref p)]))) p (.lst [.str b])):=by
 have hpd:p≠d:=λz=>by rw[z,g.at_d] at hp;cases hp
 have hp0:=bJ g.le hp;have hno:o∉done.map (·.1):=λh=>hk ((g.mem o).mpr h);have old:∀x,x∈ps->x.2≠p/\x.2≠d/\x.1≠o:=λx hx=>by
  refine⟨λz=>?_,λz=>?_,λz=>hk (mem_map.mpr ⟨x,hx,z⟩)⟩
  ·have:=g.ls x hx;rw[z,hp] at this;cases this
  ·have:=g.ls x hx;rw[z,g.at_d] at this;cases this
 refine⟨λa x e=>?_,g.fd,?_,?_,λx=>?_,λx hx=>?_,λx hx=>?_,λx y hx hy e=>?_,λx y hx hy e=>?_⟩
 ·rw[aq (λz=>by rw[z,hp0] at e;cases e),aq (λz=>by rw[z,g.fd] at e;cases e)];exact aG (g.le _ _ e) hp
 ·rw[aq hpd.symm,ak,map_append]
  rfl
 ·have:=g.len;rw[length_append,length_append];exact Nat.succ_le_succ this
 ·rw[map_append,map_append,mem_append,mem_append,g.mem];exact Iff.rfl
 ·rw[jz];rcases mem_append.mp hx with hx | hx
  ·obtain⟨h1,h2,h3⟩:=old x hx;rw[aq h1,aq h2,if_neg (λz=>h3 z.symm),append_nil];exact aG (g.ls x hx) hp
  ·rw[mem_singleton.mp hx,ak,if_pos rfl,oN hno]
   rfl
 ·rcases mem_append.mp hx with hx | hx
  ·exact g.fr x hx
  ·rw[mem_singleton.mp hx];exact hp0
 ·rcases mem_append.mp hx with hx | hx<;> rcases mem_append.mp hy with hy | hy
  ·exact g.i1 x y hx hy e
  ·rw[mem_singleton.mp hy] at e;exact absurd e (old x hx).2.2
  ·rw[mem_singleton.mp hx] at e;exact absurd e.symm (old y hy).2.2
  ·rw[mem_singleton.mp hx,mem_singleton.mp hy]
 ·rcases mem_append.mp hx with hx | hx<;> rcases mem_append.mp hy with hy | hy
  ·exact g.i2 x y hx hy e
  ·rw[mem_singleton.mp hy] at e;exact absurd e (old x hx).1
  ·rw[mem_singleton.mp hx] at e;exact absurd e.symm (old y hy).1
  ·rw[mem_singleton.mp hx,mem_singleton.mp hy]
theorem EM (F:cq K "by_exponent" "by_exponent" (aU 30) f fd) (mt:mg "tuple"=none) (ms:mg "sorted"=none):bW P w K mg base 6 f fd ["marks"] Cv:=by
 refine d3 (k:=5) F (N:=["marks","names","exponent","box"]) (by walk_at "s") (by walk_at "l") λ_ _ _ _ _ _ nd hr=>?_;apply aI
 ·refine' ae (aY 1 (by assumption) rfl (by first | exact Or.inl rfl | exact Or.inr rfl) ?q1) (ae (dU PassesOwn.never rfl ?it ?tg (dL (eE (jn ?q2 ?b)))) (dL (av (bv fy rfl mt dc (ac (sH (dW (by first | rfl | decide+kernel)) rfl (cE (show QE _ _ (o7 P w K _) from uB hr rfl rfl ms ?sn)) (λ_ _ _ _=>?cg) (λ_ _ _ _=>?ct) (λ_ _ _ _=>aW (ac ?ce (ac (bv fy rfl mt dc (ac (aA (show y6 _ (xc P w K) from Ci hr) ?cn ?cx) af)) af)))) af)))))
  case q1=>exact(show QE _ _ (ul P w K) from w9)
  case it=>exact(cE (aa 0))
  case tg=>exact(oo rfl (eg (cm 2 nd rfl (.inl rfl)) (eg (cm 3 nd rfl (.inl rfl)) lz)))
  case q2=>exact(show QE _ _ (Al P w K _ _ _) from An hr (aa 1 rfl (.inr (.inl rfl))) (aa 2) (bC af))
  case b=>exact(aa 3)
  case sn=>exact(aa 1 rfl (.inr (.inl rfl)))
  case cg=>exact(cj 1 (by first | assumption | decide+kernel | rfl) rfl (.inl rfl))
  case ct=>exact cZ
  case ce=>exact(aa 1)
  case cn=>exact(aa 3 rfl (.inr (.inl rfl)))
  case cx=>exact(aa 1)
 ·rintro ws G q e ⟨l,ms,rfl,hG,h5,hdp,hq⟩;walk_at "a0";intro d hd;have hG1:=aG (g:=qj P w K []) hG hd;walk_at "a";refine⟨_,hG1,?_⟩;refine cJ (λws τ G'=>∃(done todo:List (O×Str)) (ps:List (O×Addr)) (t1 t2:Option W),ws=nI todo/\τ=[some (.ref l),some (.ref d),t1,t2]/\done++todo=ms/\Ay P w K G d done ps G') ?_ ?_ _ _ _ ⟨[],ms,[],none,none,rfl,rfl,rfl,⟨aF.new hd,hd,ak,le_refl _,λ_=>Iff.rfl,λ_ h=>(nomatch h),λ_ h=>(nomatch h),λ_ _ h=>(nomatch h),λ_ _ h=>(nomatch h)⟩⟩
  ·rintro τ G' ⟨done,todo,ps,t1,t2,hw,rfl,hms,g⟩;refine⟨g.le _ _ hG,?_⟩;have hb:todo=[]:=by simpa using hw.symm
   subst hb;rw[append_nil] at hms;subst hms;subst hU;walk_at "R";refine⟨_,g.at_d,by rw[length_map];exact le_trans g.len h5,λp ks hp hD hP=>?_⟩;walk_at "R";refine⟨_,ak,?_⟩;have hl:ks.length<=5:=by rw[hP.length_eq,length_map,length_map];exact le_trans g.len h5
   have hk:∀o,o∈ks↔o∈ps.map (·.1):=λo=>by
    rw[hP.mem_iff,map_map];exact Iff.rfl
   refine eQ (i:=1) (λo:O=>W.tup (ao o)) (λo=> .tup [.tup (ao o),.tup ((ck done o).map W.str)]) (τ0:=[none,none,none,some (.ref d)]) ak (λo ho k hkk=>?_) (by show 0+_<=_;(clear h5;lia)) (λ_=>rfl) λp2 hp2 _=>?_
   ·obtain⟨a,h1,h2⟩:=xu ((hk o).mp ho);walk_at "R";exact⟨_,o,_,rfl,aG g.at_d hp,h1,_,aG (g.ls _ h2) hp,hkk⟩
   ·refine⟨_,ak,G,g.le.trans ((aF.new hp).trans (aF.new hp2)),?_⟩;have e:([]:List W)++ks.map (λo=> .tup [.tup (ao o),.tup ((ck done o).map W.str)])=fq (iI done):=by
     rw[←zI hD λo=>(hk o).trans (g.mem o),nil_append];simp only[fq,map_map]
     rfl
    rw[e];exact hq
  ·rintro w1 ws τ G' kk ⟨done,todo,ps,t1,t2,hw,rfl,hms,g⟩ hk;cases todo with
   | nil=>cases hw
   | cons m todo=>
     cases hw;refine⟨g.le _ _ hG,?_⟩;walk_at "R";refine⟨⟨_,g.at_d⟩,λp hp=>?_⟩;have hl:done.length<=5:=by have:=congrArg List.length hms;rw[length_append] at this;lia
     have hnl:∀o,(ck done o).length<=5:=λo=>by
      unfold ck;rw[length_map];exact le_trans (List.length_filter_le _ _) hl
     have hm:(done++[m])++todo=ms:=by rw[append_assoc];exact hms
     refine⟨m.1,_,rfl,hdp m (by rw[←hms];simp),aG g.at_d hp,?_,λx hx=>?_,λhn=>?_⟩
     ·rw[length_map];have:=g.len
      (clear h5;lia)
     ·obtain⟨k,rfl,hkm⟩:=nJ hx;have h1:=aG (g:=GO.lst []) (g.ls _ hkm) hp;have h2:=hnl m.1;refine⟨⟨_,h1⟩,_,h1,by rw[length_map];show(ck done m.1).length<=_;lia,hk _ _ ⟨done++[m],todo,ps,_,_,rfl,rfl,hm,g.old hp hkm⟩⟩
     ·have hpd:p≠d:=λz=>by rw[z,g.at_d] at hp;cases hp
      have h1:=(aq (g:=qj P w K (ps.map (λx=>(x.1,W.ref x.2))++[(m.1,.ref p)])) hpd).trans (ak (G:=G') (a:=p) (g:=GO.lst []));exact⟨⟨_,h1⟩,_,h1,zero_le _,hk _ _ ⟨done++[m],todo,ps++[(m.1,p)],_,_,rfl,rfl,hm,g.new hp (nK hn)⟩⟩
inductive Pl where
 | set (b:Str) (n:Int)
 | copy (b o:Str)
 | add (b o:Str)
 | less (b:Str)
noncomputable def Pl.row:Pl->Row
 | .set b n=> .set b n
 | .copy b o=> .copy b o
 | .add b o=> .add b o
 | .less b=> .less b
noncomputable def Pl.kd:Pl->Nat
 | .set _ _=>0
 | .copy _ _=>1
 | .add _ _=>2
 | .less _=>3
noncomputable def Pl.args:Pl->List W
 | .set b n=>[.str b,.int n]
 | .copy b o=>[.str b,.str o]
 | .add b o=>[.str b,.str o]
 | .less b=>[.str b]
noncomputable def Pl.fs:Pl->List (Str×W)
 | .set b n=>[("box",.str b),("amount",.int n)]
 | .copy b o=>[("box",.str b),("other",.str o)]
 | .add b o=>[("box",.str b),("other",.str o)]
 | .less b=>[("box",.str b)]
theorem Pl.at {C:Cs} {G:Gp} (r:Pl) (h:G a=some (.ins (C.at_ r.kd) r.fs)):jS C G a r.row:=by
 cases r with
 | set b n=>exact .set h
 | copy b o=>exact .copy h
 | add b o=>exact .add h
 | less b=>exact .less h
noncomputable def iR (C:Cs) (i:Nat):bP:=λws G q _=>∃(a:Addr) (r:Pl),ws=.ref a::r.args/\r.kd=i/\G a=some (.ins (C.at_ i) [])/\∀G':Gp,G' a=some (.ins (C.at_ i) r.fs)->(∀x,x≠a->G' x=G x)->q .non G'
theorem scN1:bM ["self","box","amount"] ["self","box","amount"] (am (bd 22 0)):=by walk_at "s"
theorem EN {C:Cs} (F:cq K "__init__" "Set.__init__" (bd 22 0) f fd) (hc:cV K C.s) (h1:ay K C.s "box") (h2:ay K C.s "amount"):bW P w K mg base 1 f fd ["self","box","amount"] (iR C 0):=by
 have nd:=scN1.nd;refine y9 F scN1 (λws G q e h=>by
  obtain⟨_,r,rfl,hk,_⟩:=h;cases r with
  | set b n=>rfl
  | add b o=>cases hk
  | copy b o=>cases hk
  | less b=>cases hk) (λcdv A outer s H E hr=>?_)
 apply aI
 ·exact(ae (cc (aa 0) (aa 1)) (ae (cc (aa 0) (aa 2)) ah))
 ·rintro ws G q e ⟨a,r,rfl,hk,hG,hq⟩;cases r with
  | set b n=>
    walk_at "a0";refine⟨a,C.s,[],rfl,hG,⟨hc,h1⟩,by simp,?_⟩;subst hU;walk_at "R";refine⟨a,C.s,[("box",.str b)],rfl,ak,⟨hc,h2⟩,by simp,?_⟩;exact aF.done (hq _ ak λx hx=>(aq hx).trans (aq hx))
  | add b o=>cases hk
  | copy b o=>cases hk
  | less b=>cases hk
theorem scN2:bM ["self","box","other"] ["self","box","other"] (am (bd 23 0)):=by walk_at "s"
theorem EO {C:Cs} (F:cq K "__init__" "Copy.__init__" (bd 23 0) f fd) (hc:cV K C.c) (h1:ay K C.c "box") (h2:ay K C.c "other"):bW P w K mg base 1 f fd ["self","box","other"] (iR C 1):=by
 have nd:=scN2.nd;refine y9 F scN2 (λws G q e h=>by
  obtain⟨_,r,rfl,hk,_⟩:=h;cases r with
  | copy b o=>rfl
  | set b n=>cases hk
  | add b o=>cases hk
  | less b=>cases hk) (λcdv A outer s H E hr=>?_)
 apply aI
 ·exact(ae (cc (aa 0) (aa 1)) (ae (cc (aa 0) (aa 2)) ah))
 ·rintro ws G q e ⟨a,r,rfl,hk,hG,hq⟩;cases r with
  | copy b o=>
    walk_at "a0";refine⟨a,C.c,[],rfl,hG,⟨hc,h1⟩,by simp,?_⟩;subst hU;walk_at "R";refine⟨a,C.c,[("box",.str b)],rfl,ak,⟨hc,h2⟩,by simp,?_⟩;exact aF.done (hq _ ak λx hx=>(aq hx).trans (aq hx))
  | set b n=>cases hk
  | add b o=>cases hk
  | less b=>cases hk
theorem scN3:bM ["self","box","other"] ["self","box","other"] (am (bd 24 0)):=by walk_at "s"
theorem EQ {C:Cs} (F:cq K "__init__" "Add.__init__" (bd 24 0) f fd) (hc:cV K C.a) (h1:ay K C.a "box") (h2:ay K C.a "other"):bW P w K mg base 1 f fd ["self","box","other"] (iR C 2):=by
 have nd:=scN3.nd;refine y9 F scN3 (λws G q e h=>by
  obtain⟨_,r,rfl,hk,_⟩:=h;cases r with
  | add b o=>rfl
  | set b n=>cases hk
  | copy b o=>cases hk
  | less b=>cases hk) (λcdv A outer s H E hr=>?_)
 apply aI
 ·exact(ae (cc (aa 0) (aa 1)) (ae (cc (aa 0) (aa 2)) ah))
 ·rintro ws G q e ⟨a,r,rfl,hk,hG,hq⟩;cases r with
  | add b o=>
    walk_at "a0";refine⟨a,C.a,[],rfl,hG,⟨hc,h1⟩,by simp,?_⟩;subst hU;walk_at "R";refine⟨a,C.a,[("box",.str b)],rfl,ak,⟨hc,h2⟩,by simp,?_⟩;exact aF.done (hq _ ak λx hx=>(aq hx).trans (aq hx))
  | set b n=>cases hk
  | copy b o=>cases hk
  | less b=>cases hk
theorem scN4:bM ["self","box"] ["self","box"] (am (bd 25 0)):=by walk_at "s"
theorem ER {C:Cs} (F:cq K "__init__" "Less.__init__" (bd 25 0) f fd) (hc:cV K C.l) (h1:ay K C.l "box"):bW P w K mg base 1 f fd ["self","box"] (iR C 3):=by
 have nd:=scN4.nd;refine y9 F scN4 (λws G q e h=>by
  obtain⟨_,r,rfl,hk,_⟩:=h;cases r with
  | less b=>rfl
  | set b n=>cases hk
  | copy b o=>cases hk
  | add b o=>cases hk) (λcdv A outer s H E hr=>?_)
 apply aI
 ·exact(ae (cc (aa 0) (aa 1)) ah)
 ·rintro ws G q e ⟨a,r,rfl,hk,hG,hq⟩;cases r with
  | less b=>
    walk_at "R";refine⟨a,C.l,[],rfl,hG,⟨hc,h1⟩,by simp,?_⟩;exact aF.done (hq _ ak λx hx=>aq hx)
  | set b n=>cases hk
  | copy b o=>cases hk
  | add b o=>cases hk
noncomputable def Az (C:Cs) (S:Nat->Prop):bP:=λws G q _=>∃(a:Addr) (b:Str) (pl:Addr) (ps:List (Addr×Row)),ws=[.ref a,.str b,.ref pl]/\G a=some (.ins C.t [])/\G pl=some (.lst (refs ps))/\Rows C G ps/\kj (aQ.of (ps.map (·.2)))/\AM S (aQ.of (ps.map (·.2)))/\∀G':Gp,G' a=some (.ins C.t (Es b (ps.map (·.1)) (aQ.of (ps.map (·.2)))))->(∀x,x≠a->G' x=G x)->q .non G'
theorem ES {C:Cs} {S:Nat->Prop} (F:cq K "__init__" "Times.__init__" (bd 26 0) f fd) (F1:Fx P w K mg base "weight_of" ["things"] 7 (Au C S)) (F2:Fx P w K mg base "whole" ["n"] 3 kh) (F3:Fx P w K mg base "plus" ["a","b"] 3 lX) (mt:mg "tuple"=none) (hc:cV K C.t) (h1:ay K C.t "box") (h2:ay K C.t "rows") (h3:ay K C.t "of_round"):bW P w K mg base 8 f fd ["self","box","rows"] (Az C S):=by
 refine d3 F (N:=["self","box","rows"]) (by walk_at "s") (by walk_at "l") λ_ _ _ _ _ _ nd hr=>?_;apply aI
 ·exact(ae (cc (aa 0) (aa 1)) (ae (cc (aa 0) (bv fy rfl mt dc (ac (aa 2) af))) (ae (cc (aa 0) (ax F3 (aw.mono hr (by lia)) rfl (ac (ax F1 (aw.mono hr (by lia)) rfl (ac (bn (aa 0)) af)) (ac (ax F2 (aw.mono hr (by lia)) rfl (ac ag af)) af)))) ah)))
 ·rintro ws G q e ⟨a,b,pl,ps,rfl,hG,hpl,hR,hz,hkd,hq⟩;have la:pl≠a:=λz=>by rw[z,hG] at hpl;cases hpl
  have hll:=jU (aQ.of (ps.map (·.2)));rw[aQ.L_of,length_map] at hll;have hzb:=hz.hb;walk_at "a0";refine⟨a,C.t,[],rfl,hG,⟨hc,h1⟩,by simp,?_⟩;walk_at "a";refine⟨_,(aq la).trans hpl,a,C.t,[("box",.str b)],rfl,ak,⟨hc,h2⟩,by simp,?_⟩;have em:(ps.map (·.1)).map W.ref=refs ps:=by rw[map_map];rfl
  subst hU;walk_at "R";rw[if_neg (by decide)];refine⟨a,C.t,[("box",.str b),("rows",.tup (refs ps))],.tup (refs ps),rfl,ak,⟨hc,h2⟩,rfl,?_⟩;have li:cz G (aL (aL G a (GO.ins C.t [("box",W.str b)])) a (GO.ins C.t [("box",W.str b),("rows",W.tup (refs ps))])):=cz.but (p:=a) (λx g xa e=>(aq xa).trans ((aq xa).trans e)) (λC' y fs e=>by rw[hG] at e;cases e);have hw0:=aQ.wq _ hz.nn;have e1:=Wb.wh (n:=1) (by decide);have l1:=hw0.ln;have l2:=d4 (aQ.of (ps.map (·.2)));refine⟨ps.map (·.1),aQ.of (ps.map (·.2)),by rw[em],(hR.mono li).ats,hz,hkd,1,rfl,by decide,(aQ.of (ps.map (·.2))).wt,O.wh 1,rfl,hw0.nf,le_trans hw0.dp (by decide),le_trans e1.dp (by decide),by (clear hll;lia),le_trans e1.ln (by decide),a,C.t,[("box",.str b),("rows",.tup (refs ps))],rfl,ak,⟨hc,h3⟩,by simp,aF.done (hq _ ?_ λx hx=>(aq hx).trans ((aq hx).trans (aq hx)))⟩;rw[ak,←em]
  rfl
noncomputable def AA (C:Cs) (S:Nat->Prop):bP:=λws G q _=>∃(a:Addr) (b:Str) (ml pl:Addr) (ms:List (O×Str)) (ps:List (Addr×Row)),ws=[.ref a,.str b,.ref ml,.ref pl]/\G a=some (.ins C.w [])/\G ml=some (.lst (nI ms))/\ms.length<=5/\(∀m,m∈ms->m.1.dp<=3)/\G pl=some (.lst (refs ps))/\Rows C G ps/\kj (aQ.of (ps.map (·.2)))/\AM S (aQ.of (ps.map (·.2)))/\∀G':Gp,G' a=some (.ins C.w (Di b (iI ms) (ps.map (·.1)) (aQ.of (ps.map (·.2)))))->(∀x,x≠a->G' x=G x)->q .non G'
theorem ET {C:Cs} {S:Nat->Prop} (F:cq K "__init__" "While.__init__" (bd 28 0) f fd) (F0:Fx P w K mg base "by_exponent" ["marks"] 6 Cv) (F1:Fx P w K mg base "weight_of" ["things"] 7 (Au C S)) (F2:Fx P w K mg base "whole" ["n"] 3 kh) (F3:Fx P w K mg base "plus" ["a","b"] 3 lX) (mt:mg "tuple"=none) (hc:cV K C.w) (h1:ay K C.w "box") (h0:ay K C.w "heights") (h2:ay K C.w "rows") (h3:ay K C.w "of_round"):bW P w K mg base 8 f fd ["self","box","marks","rows"] (AA C S):=by
 refine d3 F (N:=["self","box","marks","rows"]) (by walk_at "s") (by walk_at "l") λ_ _ _ _ _ _ nd hr=>?_;apply aI
 ·exact(ae (cc (aa 0) (aa 1)) (ae (cc (aa 0) (ax F0 (aw.mono hr (by lia)) rfl (ac (aa 2) af))) (ae (cc (aa 0) (bv fy rfl mt dc (ac (aa 3) af))) (ae (cc (aa 0) (ax F3 (aw.mono hr (by lia)) rfl (ac (ax F1 (aw.mono hr (by lia)) rfl (ac (bn (aa 0)) af)) (ac (ax F2 (aw.mono hr (by lia)) rfl (ac ag af)) af)))) ah))))
 ·rintro ws G q e ⟨a,b,ml,pl,ms,ps,rfl,hG,hml,hm5,hmd,hpl,hR,hz,hkd,hq⟩;have la:pl≠a:=λz=>by rw[z,hG] at hpl;cases hpl
  have lm:ml≠a:=λz=>by rw[z,hG] at hml;cases hml
  have hll:=jU (aQ.of (ps.map (·.2)));rw[aQ.L_of,length_map] at hll;have hzb:=hz.hb;walk_at "a0";refine⟨a,C.w,[],rfl,hG,⟨hc,h1⟩,by simp,?_⟩;walk_at "a";refine⟨ml,ms,rfl,(aq lm).trans hml,hm5,hmd,a,C.w,[("box",.str b)],rfl,ak,⟨hc,h0⟩,by simp,?_⟩;walk_at "a";refine⟨_,(aq la).trans ((aq la).trans hpl),a,C.w,[("box",.str b),("heights",.tup (fq (iI ms)))],rfl,ak,⟨hc,h2⟩,by simp,?_⟩;have em:(ps.map (·.1)).map W.ref=refs ps:=by rw[map_map];rfl
  subst hU;walk_at "R"
  repeat rw[if_neg (by decide)]
  have li:cz G (aL (aL (aL G a (GO.ins C.w [("box",W.str b)])) a (GO.ins C.w [("box",W.str b),("heights",W.tup (fq (iI ms)))])) a (GO.ins C.w [("box",W.str b),("heights",W.tup (fq (iI ms))),("rows",W.tup (refs ps))])):=cz.but (p:=a) (λx g xa e=>(aq xa).trans ((aq xa).trans ((aq xa).trans e))) (λC' y fs e=>by rw[hG] at e;cases e);have hw0:=aQ.wq _ hz.nn;have e1:=Wb.wh (n:=2) (by decide);have l1:=hw0.ln;have l2:=d4 (aQ.of (ps.map (·.2)));refine⟨a,C.w,[("box",.str b),("heights",.tup (fq (iI ms))),("rows",.tup (refs ps))],.tup (refs ps),rfl,ak,⟨hc,h2⟩,rfl,ps.map (·.1),aQ.of (ps.map (·.2)),by rw[em],(hR.mono li).ats,hz,hkd,2,rfl,by decide,(aQ.of (ps.map (·.2))).wt,O.wh 2,rfl,hw0.nf,le_trans hw0.dp (by decide),le_trans e1.dp (by decide),by (clear hm5 hll;lia),le_trans e1.ln (by decide),a,C.w,[("box",.str b),("heights",.tup (fq (iI ms))),("rows",.tup (refs ps))],rfl,ak,⟨hc,h3⟩,by simp,aF.done (hq _ ?_ λx hx=>(aq hx).trans ((aq hx).trans ((aq hx).trans (aq hx))))⟩;rw[ak,←em]
  rfl
noncomputable def Bd (s:Nat) (rs:aQ Str):Prop:=rs.hb<=300/\rs.mb<=10^100/\rs.lb<=s
structure Mk (s:Nat) (hs:List (O×List Str)):Prop where
 e:qX 3 hs
 k:Dd hs
 l:hs.length<=s
 h:O.hw (hpw hs)<=100
 m:O.mx (hpw hs)<=10^100
 x:∀p,p∈hs->O.mx p.1<=10^100
mutual
noncomputable def gr (cp:Prop) (s:Nat) (B:Int):Row->Prop
 | .set _ n=>0<=n/\n<=B
 | .copy _ _=>cp
 | .times _ rs=>uJ cp s B rs/\Bd s rs
 | .count rs n=>(uJ cp s B rs/\Bd s rs)/\0<=n/\n<=B
 | .whl _ hs rs=>(uJ cp s B rs/\Bd s rs)/\Mk s hs
 | .bear _ hs rs o=>(uJ cp s B rs/\Bd s rs)/\Mk s hs/\o.NF/\o.dp<=4/\O.hw o<=100/\O.mx o<=10^100+100*B/\o.len<=s
 | _=>True
noncomputable def uJ (cp:Prop) (s:Nat) (B:Int):aQ Str->Prop
 | .nil=>True
 | .cons r rs=>gr cp s B r/\uJ cp s B rs
end
section
variable {cp:Prop} {s:Nat}
mutual
theorem uK {B B':Int} (h:B<=B'):∀r:Row,gr cp s B r->gr cp s B' r
 | .set _ n,x=>⟨x.1,Int.le_trans x.2 h⟩
 | .copy _ _,x=>x
 | .add _ _,_=>trivial
 | .less _,_=>trivial
 | .times _ rs,x=>⟨jV h rs x.1,x.2⟩
 | .count rs n,x=>⟨⟨jV h rs x.1.1,x.1.2⟩,x.2.1,Int.le_trans x.2.2 h⟩
 | .whl _ _ rs,x=>⟨⟨jV h rs x.1.1,x.1.2⟩,x.2⟩
 | .bear _ _ rs o,x=>⟨⟨jV h rs x.1.1,x.1.2⟩,x.2.1,x.2.2.1,x.2.2.2.1,x.2.2.2.2.1,by have:=x.2.2.2.2.2.1;lia,x.2.2.2.2.2.2⟩
theorem jV {B B':Int} (h:B<=B'):∀rs:aQ Str,uJ cp s B rs->uJ cp s B' rs
 | .nil,_=>trivial
 | .cons r rs,x=>⟨uK h r x.1,jV h rs x.2⟩
end
mutual
theorem nM {B:Int}:∀r:Row,gr cp s B r->r.nn/\r.od
 | .set _ n,_=>⟨trivial,trivial⟩
 | .copy _ _,_=>⟨trivial,trivial⟩
 | .add _ _,_=>⟨trivial,trivial⟩
 | .less _,_=>⟨trivial,trivial⟩
 | .times _ rs,x=>eS rs x.1
 | .count rs n,x=>⟨⟨(eS rs x.1.1).1,x.2.1⟩,(eS rs x.1.1).2⟩
 | .whl _ hs rs,x=>⟨⟨(eS rs x.1.1).1,x.2.e⟩,x.2.k,(eS rs x.1.1).2⟩
 | .bear _ hs rs o,x=>⟨⟨(eS rs x.1.1).1,x.2.1.e,x.2.2.1,x.2.2.2.1⟩,x.2.1.k,(eS rs x.1.1).2⟩
theorem eS {B:Int}:∀rs:aQ Str,uJ cp s B rs->rs.nn/\rs.od
 | .nil,_=>⟨trivial,trivial⟩
 | .cons r rs,x=>⟨⟨(nM r x.1).1,(eS rs x.2).1⟩,(nM r x.1).2,(eS rs x.2).2⟩
end
theorem fI {B:Int}:∀{rs:aQ Str},uJ cp s B rs->∀r,r∈rs.L->gr cp s B r
 | .nil,_,r,h=>(nomatch h)
 | .cons r0 rs,x,r,h=>by
   rcases mem_cons.mp h with rfl | h
   ·exact x.1
   ·exact fI x.2 r h
theorem mf:((10^100+3)*(101*10^100+1)+1:Int)<=10^300:=by decide+kernel
theorem ja {a b c d:Nat} (h1:a<=c) (h2:b<=d):((a*b+1:Nat):Int)<=(c:Int)*d+1:=by
 have:=Nat.mul_le_mul h1 h2;rw[←Int.natCast_mul]
 (clear h1 h2;lia)
theorem mh:((1:Nat):Int)<=10^300:=by decide+kernel
theorem uL {B:Int} (hB:B<=10^100) (r:Row) (x:gr cp s B r):Sz r:=by
 have hn:=(nM r x).1;cases r with
 | set _ n=>exact⟨hn,by show 1<=500;decide,mh⟩
 | copy _ _=>exact⟨hn,by show 1<=500;decide,mh⟩
 | add _ _=>exact⟨hn,by show 1<=500;decide,mh⟩
 | less _=>exact⟨hn,by show 1<=500;decide,mh⟩
 | times _ rs=>
   obtain⟨h1,h2,h3⟩:=x.2;refine⟨hn,by show rs.hb+2<=500;(clear hB h2 h3;lia),?_⟩;have:=ja (a:=rs.mb+2) (b:=2) (c:=10^100+3) (d:=101*10^100+1) (by (clear hB h1 h3;lia)) (by (clear hB h1 h2 h3;lia));refine Int.le_trans ?_ (Int.le_trans this mf);show(((rs.mb+2)*2:Nat):Int)<=_
   (clear hB h1 h2 h3 this;lia)
 | count rs n=>
   obtain⟨h1,h2,h3⟩:=x.1.2;have n1:=x.2.2;have n0:=x.2.1;refine⟨hn,by show rs.hb+3<=500;(clear hB h2 h3 n1 n0;lia),?_⟩;exact Int.le_trans (ja (a:=rs.mb+2) (b:=n.toNat+1) (c:=10^100+3) (d:=101*10^100+1) (by (clear hB h1 h3 n1 n0;lia)) (by (clear h1 h2 h3 n0;lia))) mf
 | whl _ hs rs=>
   obtain⟨h1,h2,h3⟩:=x.1.2;have m1:=x.2.h;have m2:=x.2.m;refine⟨hn,by show rs.hb+O.hw (hpw hs)+2<=500;(clear hB h2 h3 m2;lia),?_⟩;exact Int.le_trans (ja (a:=rs.mb+3) (b:=(O.mx (hpw hs)).toNat+1) (c:=10^100+3) (d:=101*10^100+1) (by (clear hB h1 h3 m1 m2;lia)) (by (clear hB h1 h2 h3 m1;lia))) mf
 | bear _ hs rs o=>
   obtain⟨h1,h2,h3⟩:=x.1.2;obtain⟨_,_,_,m1,m2,_⟩:=x.2;refine⟨hn,by show rs.hb+O.hw o+2<=500;(clear hB h2 h3 m2;lia),?_⟩;exact Int.le_trans (ja (a:=rs.mb+3) (b:=(O.mx o).toNat+1) (c:=10^100+3) (d:=101*10^100+1) (by (clear hB h1 h3 m1 m2;lia)) (by (clear h1 h2 h3 m1;lia))) mf
noncomputable abbrev Sk (cp:Prop) (i:Nat):Prop:=i<8/\(i=1->cp)
theorem Cw:∀r:Row,kd r<8
 | .set _ _=>by show 0<8;decide
 | .copy _ _=>by show 1<8;decide
 | .add _ _=>by show 2<8;decide
 | .less _=>by show 3<8;decide
 | .times _ _=>by show 4<8;decide
 | .whl _ _ _=>by show 5<8;decide
 | .count _ _=>by show 6<8;decide
 | .bear _ _ _ _=>by show 7<8;decide
theorem qm {B:Int} {r:Row} (x:gr cp s B r):Sk cp (kd r):=by
 refine⟨Cw r,λh=>?_⟩;cases r with
 | copy _ _=>exact x
 | _=>cases h
theorem mj:∀rs:aQ Str,(rs.L.map Rq.lb).sum=rs.lb
 | .nil=>rfl
 | .cons r rs=>by
   show r.lb+(rs.L.map Rq.lb).sum=rs.lb+r.lb;rw[mj rs];lia
theorem uM:∀r:Row,1<=r.lb
 | .set _ _=>le_refl _
 | .copy _ _=>le_refl _
 | .add _ _=>le_refl _
 | .less _=>le_refl _
 | .times _ _=>le_refl _
 | .count rs _=>by show 1<=rs.lb+2;lia
 | .whl _ [] rs=>by show 1<=rs.lb+2;lia
 | .whl _ (_::_) rs=>by show 1<=2;lia
 | .bear _ _ rs o=>by show 1<=rs.lb+1+o.len+1;lia
theorem AB:∀rs:aQ Str,rs.L.length<=rs.lb
 | .nil=>le_refl _
 | .cons r rs=>by have:=AB rs;have:=uM r;show rs.L.length+1<=rs.lb+r.lb;lia
theorem qo {B:Int} {kvs:List (aR×W)} (hB:0<=B) (hk:dD B kvs) {b:Str} {hs:List (O×List Str)} {rs:aQ Str} (h:(uJ cp s B rs/\Bd s rs)/\Mk s hs):gr cp s B (.bear b hs rs (bG (bp kvs) hs)):=by
 have hg:∀x,0<=bp kvs x/\bp kvs x<=B:=λx=>hk.get hB x;obtain⟨m1,m2,m3⟩:=kK (g:=bp kvs) (n:=100) (M:=10^100) hg (by decide) h.2.e (λp hp=>⟨h.2.k.nm p hp,h.2.x p hp⟩);have hl:=gH (bp kvs) hs;have h1:=h.2.l;have h2:=h.2.k.ln;exact⟨h.1,h.2,iX (λx=>(hg x).1) h.2.e h.2.k.ds,m1,by (clear hB m1 m3 hl h1;lia),by (clear m1 m2 hl h1 h2;lia),by (clear hB m1 m2 m3 h2;lia)⟩
theorem xv {B:Int} {kvs:List (aR×W)} (hB:0<=B) (hk:dD B kvs) {r:Row} (h:gr cp s B r):∀x,x∈dR kvs r->gr cp s B x:=λx hx=>by
 cases r with
 | times b rs=>
   rw[mem_singleton.mp hx];have:=hk.get hB b;exact⟨h,this.1,this.2⟩
 | count rs n=>
   have hx:x∈(if n=0 then [] else rs.L++[Rq.count rs (n-1)]):=hx
   by_cases h0:n=0
   ·rw[if_pos h0] at hx;cases hx
   ·rw[if_neg h0] at hx;have n0:=h.2.1;have n1:=h.2.2;rcases mem_append.mp hx with hx | hx
    ·exact fI h.1.1 x hx
    ·rw[mem_singleton.mp hx];exact⟨h.1,by (clear hB n1;lia),by (clear hB h0 n0;lia)⟩
 | whl b hs rs=>
   have hx:x∈(if bp kvs b=0 then [] else rs.L++[Rq.bear b hs rs (bG (bp kvs) hs)]):=hx
   by_cases h0:bp kvs b=0
   ·rw[if_pos h0] at hx;cases hx
   ·rw[if_neg h0] at hx;rcases mem_append.mp hx with hx | hx
    ·exact fI h.1.1 x hx
    ·rw[mem_singleton.mp hx];exact qo hB hk h
 | bear b hs rs o=>
   have hx:x∈(if bp kvs b=0 then [] else rs.L++[Rq.bear b hs rs (bG (bp kvs) hs)]):=hx
   by_cases h0:bp kvs b=0
   ·rw[if_pos h0] at hx;cases hx
   ·rw[if_neg h0] at hx;rcases mem_append.mp hx with hx | hx
    ·exact fI h.1.1 x hx
    ·rw[mem_singleton.mp hx];exact qo hB hk ⟨h.1,h.2.1⟩
 | set b n=>cases hx
 | copy b o=>cases hx
 | add b o=>cases hx
 | less b=>cases hx
theorem qp {kvs:List (aR×W)} {b:Str} {hs:List (O×List Str)} {rs:aQ Str} (h1:Bd s rs) (h2:Mk s hs):((if bp kvs b=0 then [] else rs.L++[Rq.bear b hs rs (bG (bp kvs) hs)]).map Rq.lb).sum<=3*s+2/\(if bp kvs b=0 then [] else rs.L++[Rq.bear b hs rs (bG (bp kvs) hs)]).length<=s+1:=by
 by_cases h0:bp kvs b=0
 ·rw[if_pos h0];exact⟨zero_le _,zero_le _⟩
 ·rw[if_neg h0,map_append,sum_append,mj,length_append];have a1:=h1.2.2;have a2:=h2.l;have a3:=gH (bp kvs) hs;have a4:=AB rs;show rs.lb+(rs.lb+1+(bG (bp kvs) hs).len+1+0)<=_/\rs.L.length+1<=_
  (clear h0;lia)
theorem xw {B:Int} {kvs:List (aR×W)} {r:Row} (h:gr cp s B r):((dR kvs r).map Rq.lb).sum<=3*s+2/\(dR kvs r).length<=s+1:=by
 cases r with
 | times b rs=>
   have:=h.2.2.2;show(rs.lb+2+0:Nat)<=_/\1<=_;lia
 | count rs n=>
   show((if n=0 then [] else rs.L++[Rq.count rs (n-1)]).map Rq.lb).sum<=_/\(if n=0 then [] else rs.L++[Rq.count rs (n-1)]).length<=_
   by_cases h0:n=0
   ·rw[if_pos h0];exact⟨zero_le _,zero_le _⟩
   ·rw[if_neg h0,map_append,sum_append,mj,length_append];have h1:=h.1.2.2.2;have h2:=AB rs;show rs.lb+(rs.lb+2+0)<=_/\rs.L.length+1<=_
    (clear h0;lia)
 | whl b hs rs=>exact qp h.1.2 h.2
 | bear b hs rs o=>exact qp h.1.2 h.2.1
 | set b n=>exact⟨zero_le _,zero_le _⟩
 | copy b o=>exact⟨zero_le _,zero_le _⟩
 | add b o=>exact⟨zero_le _,zero_le _⟩
 | less b=>exact⟨zero_le _,zero_le _⟩
theorem uN {B:Int} {kvs:List (aR×W)} (hB:0<=B) (hk:dD B kvs) {r:Row} (h:gr cp s B r):dD (2*B) (ft kvs r):=by
 have hk2:dD (2*B) kvs:=hk.le (by lia);cases r with
 | set b n=>exact hk2.put _ h.1 (by have:=h.2;lia)
 | copy b o=>have:=hk.get hB o;exact hk2.put _ this.1 (by lia)
 | add b o=>have:=hk.get hB o;have:=hk.get hB b;exact hk2.put _ (by (clear hB;lia)) (by (clear hB;lia))
 | less b=>
   have:=hk.get hB b;refine hk2.put _ ?_ ?_
   ·split<;> (clear hB this;lia)
   ·split<;> lia
 | times b rs=>exact hk2
 | count rs n=>exact hk2
 | whl b hs rs=>exact hk2
 | bear b hs rs o=>exact hk2
theorem rA (kvs:List (aR×W)) (r:Row):(ft kvs r).length<=kvs.length+1:=by
 cases r with
 | set b n=>exact dC ..
 | copy b n=>exact dC ..
 | add b n=>exact dC ..
 | less b=>exact dC ..
 | times b rs=>exact le_succ _
 | count rs n=>exact le_succ _
 | whl b hs rs=>exact le_succ _
 | bear b hs rs o=>exact le_succ _
end
noncomputable def lg:List Row×List (aR×W)->List Row×List (aR×W)
 | ([],kvs)=>([],kvs)
 | (r::st,kvs)=>(dR kvs r++st,ft kvs r)
noncomputable def bu (s:List Row×List (aR×W)):Nat->List Row×List (aR×W)
 | 0=>s
 | n+1=>lg (bu s n)
noncomputable def o8:List Row×List (aR×W)->Prop
 | ([],_)=>False
 | (r::_,kvs)=>fu kvs r
structure rB (cp:Prop) (m l0:Nat) (B:Int) (i:Nat) (s:List Row×List (aR×W)):Prop where
 g:∀r,r∈s.1->gr cp m (B*2^i) r
 b:dD (B*2^i) s.2
 l:(s.1.map Rq.lb).sum<=l0+(3*m+2)*i
 k:s.2.length<=100+i
theorem rB.next {cp:Prop} {m l0:Nat} {B:Int} (hB:0<=B) {s:List Row×List (aR×W)} (h:rB cp m l0 B i s):rB cp m l0 B (i+1) (lg s):=by
 have hp:(0:Int)<=B*2^i:=Int.mul_nonneg hB (Int.le_of_lt (Int.pow_pos (by decide)));have e:B*2^ (i+1)=2*(B*2^i):=by rw[Int.pow_succ];rw[←Int.mul_assoc,Int.mul_comm]
 obtain⟨st,kvs⟩:=s;cases st with
 | nil=>
   refine⟨λr hr=>(nomatch hr),?_,zero_le _,by have h3:kvs.length<=100+i:=h.k;show kvs.length<=_;(clear hB hp e;lia)⟩;show dD _ kvs;rw[e];exact h.b.le (by (clear hB e;lia))
 | cons r st=>
   have hg:=h.g r mem_cons_self;have hl:=xw (kvs:=kvs) hg;have h1:=h.l;have h3:=h.k;simp only[map_cons,sum_cons] at h1;refine⟨λx hx=>?_,?_,?_,?_⟩
   ·rcases mem_append.mp hx with hx | hx
    ·exact uK (by rw[e];(clear hB e hl h3 h1;lia)) _ (xv hp h.b hg x hx)
    ·exact uK (by rw[e];(clear hB e hl h3 h1;lia)) _ (h.g x (mem_cons_of_mem _ hx))
   ·rw[e];exact uN hp h.b hg
   ·show((dR kvs r++st).map Rq.lb).sum<=_;rw[map_append,sum_append,Nat.mul_add]
    (clear hB hp e h3;lia)
   ·have:=rA kvs r;show(ft kvs r).length<=_;have h3:kvs.length<=100+i:=h3
    (clear hB hp e hl h1;lia)
theorem rB.run {cp:Prop} {m l0:Nat} {B:Int} (hB:0<=B) {s:List Row×List (aR×W)} (h:rB cp m l0 B 0 s):∀n,rB cp m l0 B n (bu s n)
 | 0=>h
 | n+1=>(rB.run hB h n).next hB
theorem mo:∀rs:List Row,(∀r,r∈rs->r.nn)->(bw rs).NF/\(bw rs).dp<=4/\(bw rs).len<=(rs.map Rq.lb).sum
 | [],_=>⟨trivial,zero_le _,le_refl _⟩
 | r::rs,h=>by
   obtain⟨h1,h2,h3⟩:=mo rs λx hx=>h x (mem_cons_of_mem _ hx);have x:=r.wq (h r mem_cons_self);refine⟨h1.plus x.nf,le_trans (O.dp_plus _ _) (max_le.mpr ⟨h2,x.dp⟩),?_⟩;have:=jy (bw rs) r.wt;have:=x.ln;show(O.plusO (bw rs) r.wt).len<=r.lb+(rs.map Rq.lb).sum
   (clear h2;lia)
theorem o9:∀rs:List Row,rs.length<=(rs.map Rq.lb).sum
 | []=>le_refl _
 | r::rs=>by have:=o9 rs;have:=uM r;simp only[map_cons,sum_cons,length_cons];lia
noncomputable abbrev cr (st:List (Addr×Row)):List Row:=st.map (·.2)
noncomputable def cA:List (Addr×Row)->List W
 | []=>[]
 | p::st=>cA st++[.tup [.ref p.1,.tup (ao (bw (cr (p::st))))]]
theorem AC (xs:List W) (x:W):fL (xs++[x]) (-1)=some x:=jE (by simp)
theorem nN:∀st:List (Addr×Row),(cA st).length=st.length
 | []=>rfl
 | a::as=>by rw[cA,length_append,nN as];rfl
noncomputable def AD:bP:=λws G q _=>∃(l:Addr) (st:List (Addr×Row)),ws=[.ref l]/\G l=some (.lst (cA st))/\q (.tup (ao (bw (cr st)))) G
theorem EU (F:cq K "weight_left" "weight_left" (aU 35) f fd):bW P w K mg base 1 f fd ["left"] AD:=by
 refine d3 F (N:=["left"]) (by walk_at "s") (by walk_at "l") λ_ _ _ _ _ _ nd hr=>?_;apply aI
 ·exact(ae (av (jj (aH (dQ hr) (aa 0) (bC af)) (aA aB (aA aB (aa 0) (eK ag)) ag) (aW af))) ah)
 ·rintro ws G q e ⟨l,as,rfl,hG,hq⟩;walk_at "R";intro p hp;refine⟨_,.nil (aG hG hp) ak,?_⟩;cases as with
  | nil=>
    rw[show(cA []).isEmpty=true from rfl,if_neg (by decide)];exact⟨_,aF.new hp,hq⟩
  | cons a as=>
    rw[show(cA (a::as)).isEmpty=false by simp[cA],if_pos (by decide)];refine⟨_,_,aG hG hp,AC _ _,?_⟩;walk_at "R";exact⟨_,aF.new hp,hq⟩
structure km (cp:Prop) (st:List (Addr×Row)):Prop where
 z:∀p,p∈st->Sz p.2
 kd:∀p,p∈st->Sk cp (kd p.2)
 l:((cr st).map Rq.lb).sum<=20000
 n:st.length<=30000
theorem km.right {cp:Prop} {st us:List (Addr×Row)} (h:km cp (st++us)):km cp us:=by
 have h1:=h.l;have h2:=h.n;simp only[cr,map_append,sum_append,length_append] at h1 h2;exact⟨λp hp=>h.z p (mem_append_right _ hp),λp hp=>h.kd p (mem_append_right _ hp),by show((us.map (·.2)).map Rq.lb).sum<=20000;(clear h2;lia),by (clear h1;lia)⟩
theorem km.sum {cp:Prop} {st:List (Addr×Row)} (h:km cp st):(bw (cr st)).NF/\(bw (cr st)).dp<=4/\(bw (cr st)).len<=20000:=by
 obtain⟨h1,h2,h3⟩:=mo (cr st) λr hr=>by
  obtain⟨p,hp,rfl⟩:=mem_map.mp hr;exact(h.z p hp).nn
 exact⟨h1,h2,le_trans h3 h.l⟩
noncomputable def yg (C:Cs) (cp:Prop):bP:=λws G q _=>∃(l t:Addr) (ps st:List (Addr×Row)),ws=[.ref l,.ref t]/\t≠l/\G l=some (.lst (cA st))/\G t=some (.lst (refs ps))/\Rows C G ps/\km cp (ps++st)/\∀G':Gp,G' l=some (.lst (cA (ps++st)))->(∀x,x≠l->G' x=G x)->q .non G'
theorem Cy {C:Cs} {cp:Prop} (F:cq K "put_ahead" "put_ahead" (aU 34) f fd) (F1:Fx P w K mg base "weight_left" ["left"] 1 AD) (F2:Fx P w K mg base "plus" ["a","b"] 3 lX) (M:∀i,Sk cp i->Mt P w K mg base (C.at_ i) "weigh" ["self"] 6 (iQ C i) []) (mr:mg "reversed"=none):bW P w K mg base 7 f fd ["left","things"] (yg C cp):=by
 refine d3 F (N:=["left","things","thing"]) (by walk_at "s") (by walk_at "l") λ_ _ _ _ _ _ nd hr=>?_;apply aI
 ·refine' dL (dU PassesOwn.never rfl (pO rfl mr ?it) ?tg (dL (eE (jn ?ob (aW (ac ?va (ac (ax F2 (aw.mono hr (by lia)) rfl (ac ?wl (ac (iV (S:=Sk cp) (t:=λi=>jr (C.at_ i) "weigh" (iQ C i) [] (dr 2) j8) λi hi=>js ?me (M i hi) (aw.mono hr (by lia))) af))) af)))))))
  case it=>exact(ac (aa 1) af)
  case tg=>exact(cm 2 nd rfl (.inl rfl))
  case ob=>exact(aa 0)
  case va=>exact(aa 2)
  case wl=>exact(ax F1 (aw.mono hr (by lia)) rfl (ac (aa 0) af))
  case me=>exact(aa 2)
 ·rintro ws G q e ⟨l,t,as,us,rfl,tl,hl,ht,ha,hn,hq⟩;walk_at "R";refine⟨_,ht,cJ (λws τ G'=>∃(todo dn:List (Addr×Row)) (t2:Option W),ws=(refs todo).reverse/\as=todo++dn/\G' l=some (.lst (cA (dn++us)))/\(∀x,x≠l->G' x=G x)/\τ=[some (.ref l),some (.ref t),t2]) ?_ ?_ _ _ _ ⟨as,[],none,rfl,(append_nil _).symm,hl,λ_ _=>rfl,rfl⟩⟩
  ·rintro τ G' ⟨todo,dn,t2,hw,rfl,hl',hk,rfl⟩;have h0:todo=[]:=by simpa using hw.symm
   subst h0;refine⟨(hk t tl).trans ht,?_⟩;exact aF.done (hq G' hl' hk)
  ·rintro w1 ws τ G' k ⟨todo,dn,t2,hw,rfl,hl',hk,rfl⟩ hkk;rcases List.eq_nil_or_concat todo with rfl | ⟨todo',a,rfl⟩
   ·cases hw
   rw[List.concat_eq_append] at hw ha hn ht;rw[List.concat_eq_append];rw[refs,map_append,List.reverse_append] at hw;cases hw;refine⟨(hk t tl).trans ht,?_⟩;have hr0:=ha a (by simp);have lI:cz G G':=cz.but (p:=l) (λx g xl e=>(hk x xl).trans e) (λC' y fs e=>by rw[hl] at e;cases e);have hr1:=hr0.mono lI;obtain⟨fs,f1,f2,_⟩:=hr1.isIns;have hz:Sz a.2:=hn.z a (by simp);have hst:km cp (dn++us):=by
    have:(todo'++[a]++dn)++us=(todo'++[a])++(dn++us):=by simp
    rw[this] at hn;exact hn.right
   obtain⟨s1,s2,s3⟩:=hst.sum;have x:=a.2.wq hz.nn;have x1:=x.ln;have x2:=ye a.2;have x3:=hz.hb;have hnl:=hn.n;simp only[length_append,length_cons,length_nil] at hnl;walk_at "R";refine⟨⟨_,hl'⟩,l,dn++us,rfl,hl',kd a.2,hn.kd a (by simp),a.1,fs,rfl,f1,f2,a.1,a.2,rfl,hr1,rfl,hz,bw (cr (dn++us)),a.2.wt,rfl,s1,by lia,le_trans x.dp (by decide),by lia,by (clear s2 s3 hnl;lia),_,hl',?_,?_⟩
   ·rw[nN,length_append]
    (clear s2 s3 x1 x2 x3;lia)
   ·refine hkk _ _ ⟨todo',a::dn,_,rfl,by simp,ak,λx hx=>(aq hx).trans (hk x hx),rfl⟩
theorem EV {α:Type} (l:List α) (i j:Nat) (a b x y:α):(((l.set i a).set j b).set i x).set j y=(l.set i x).set j y:=by
 by_cases e:i=j
 ·subst e;rw[set_set,set_set,set_set,set_set]
 ·rw[List.set_comm _ _ (λz=>e z),set_set,List.set_comm _ _ (λz=>e z),set_set]
  first | rfl | rw[List.set_comm _ _ (λz=>e z)]
noncomputable def Cz:W->Bool
 | .int n=>decide (0<n)
 | _=>false
noncomputable def uO (kvs:List (aR×W)):List (aR×W):=(kvs.filter λp=>Cz p.2).foldl (λa p=>cT a p.1 p.2) []
theorem jW {C:Gp->Prop} {tt:WT} {te:WE} {i j:Nat} {τ0:cP} {G:Gp} {q:List W->Gp->Prop} {pr:aR×W->Bool} {f:aR×W->W} (hC:C G):∀{kvs:List (aR×W)} {acc:List W} {τ:cP},
 (∀p,p∈kvs->∀k:Bool->Gp->Prop,k (pr p) G->tt ((τ0.set i (some (kW p.1))).set j (some p.2)) G k)->(∀p,p∈kvs->∀k:W->Gp->Prop,k (f p) G->te ((τ0.set i (some (kW p.1))).set j (some p.2)) G k)->acc.length+kvs.length<=100000->(∀x y,(τ.set i x).set j y=(τ0.set i x).set j y)->
 q (acc++(kvs.filter pr).map f) G->ci C (sj 2 (kB (cW i) (kB (cW j) si))) tt te (kvs.map λp=> .tup [kW p.1,p.2]) τ G acc q
 | [],acc,τ,_,_,_,_,hq=>⟨hC,by simpa using hq⟩
 | p::kvs,acc,τ,ht,he,hl,hτ,hq=>by
   refine⟨hC,rfl,?_⟩;show tt ((τ.set i (some (kW p.1))).set j (some p.2)) G _;rw[hτ];rw[length_cons] at hl;refine ht p mem_cons_self _ ?_;have ih:=λacc' (h:acc'.length+kvs.length<=100000)=>jW (acc:=acc') (τ:=(τ0.set i (some (kW p.1))).set j (some p.2)) (q:=q) hC (λu hu=>ht u (mem_cons_of_mem _ hu)) (λu hu=>he u (mem_cons_of_mem _ hu)) h λx y=>by rw[EV]
   cases hp:pr p with
   | true=>
     rw[if_pos rfl];refine he p mem_cons_self _ ⟨by lia,ih _ (by rw[length_append];simp only[length_cons,length_nil];lia) ?_⟩;simpa[filter_cons,hp] using hq
   | false=>
     rw[if_neg (by decide)];refine ih _ (by lia) ?_;simpa[filter_cons,hp] using hq
noncomputable def CA:bP:=λws G q _=>∃(l d:Addr) (st:List (Addr×Row)) (kvs:List (aR×W)),ws=[.ref l,.ref d]/\G l=some (.lst (cA st))/\G d=some (.dic kvs)/\kl kvs/\kvs.length<=1000/\∀(p:Addr) (G':Gp),aF G G'->G p=none->G' p=some (.dic (uO kvs))->q (.tup [.tup (ao (bw (cr st))),.ref p]) G'
theorem EW (F:cq K "told" "told" (aU 36) f fd) (F1:Fx P w K mg base "weight_left" ["left"] 1 AD) (md:mg "dict"=none):bW P w K mg base 2 f fd ["left","boxes"] CA:=by
 refine d3 F (N:=["left","boxes"]) (by walk_at "s") (by walk_at "l") λ_ _ _ _ _ _ nd hr=>?_;apply aI
 ·refine' dL (wS (av ?ex))
  case ex=>exact(aW (ac (ax F1 (aw.mono hr (by lia)) rfl (ac (aa 0) af)) (ac (bv (yd rfl) rfl md ue (ac (fE (dW (by first | rfl | decide+kernel)) rfl (ud 1 rfl (.inl rfl)) (λ_ _ _ _=>(oo rfl (eg (cj 1 (by first | assumption | decide+kernel | rfl) rfl (.inl rfl)) (eg (cj 2 (by first | assumption | decide+kernel | rfl) rfl (.inl rfl)) lz)))) (λ_ _ _ _=>(vP (aH lA (aa 2) ag))) (λ_ _ _ _=>(aW (ac (aa 1) (ac (aa 2) af))))) af)) af)))
 ·rintro ws G q e ⟨l,d,as,kvs,rfl,hl,hd,hi,hn,hq⟩;walk_at "R";refine⟨d,kvs,hd,l,as,rfl,hl,kvs,hd,λo us=>jW (pr:=λp=>Cz p.2) (f:=λp=> .tup [kW p.1,p.2]) (τ0:=[none,none,none]) ak (λp hp k hk=>?_) (λp hp k hk=>?_) (by simp only[length_nil];lia) (λ_ _=>rfl) λp1 hp1=>⟨_,.lst ak rfl,λp2 hp2=>?_⟩⟩
  ·obtain⟨n,en⟩:=hi p hp;rw[en] at hk ⊢;walk_at "R";exact hk
  ·walk_at "R";exact hk
  ·have n1:p1≠d:=λz=>by rw[z,ak] at hp1;cases hp1
   have n2:p2≠p1:=λz=>by rw[z,ak] at hp2;cases hp2
   rw[aq n2] at hp2;have n3:p2≠d:=λz=>by rw[z,ak] at hp2;cases hp2
   rw[aq n3] at hp2;rw[aq n1] at hp1;refine⟨o,us,kvs,(aq n3.symm).trans ((aq n1.symm).trans ak),_,aF.refl _,hq p2 _ (λx g e=>?_) hp2 ((aq n3).trans ak)⟩
   by_cases xd:x=d
   ·subst xd;rw[hd] at e;cases e;exact ak
   ·exact(aq xd).trans (aG (aG ((aq xd).trans e) ((aq n1).trans hp1)) ((aq n2).trans ((aq n3).trans hp2)))
noncomputable def qq (s:List Row×List (aR×W)) (k:Nat):List Addr->List W
 | []=>[]
 | p::ps=> .tup [.tup (ao (bw (bu s k).1)),.ref p]::qq s (k+1) ps
theorem d7 (s:List Row×List (aR×W)):∀(k:Nat) (ps:List Addr),(qq s k ps).length=ps.length
 | _,[]=>rfl
 | k,p::ps=>by rw[qq,length_cons,d7 s (k+1) ps];rfl
theorem qr (s:List Row×List (aR×W)):∀(k:Nat) (ps:List Addr) (p:Addr),qq s k (ps++[p])=qq s k ps++[.tup [.tup (ao (bw (bu s (k+ps.length)).1)),.ref p]]
 | k,[],p=>rfl
 | k,x::ps,p=>by
   rw[List.cons_append,qq,qr s (k+1) ps p,qq,List.cons_append,length_cons,show k+1+ps.length=k+(ps.length+1) by lia]
theorem mq (s:List Row×List (aR×W)):∀(k:Nat) (ps:List Addr) (j:Nat) (p:Addr),ps[j]?=some p->(qq s k ps)[j]?=some (.tup [.tup (ao (bw (bu s (k+j)).1)),.ref p])
 | _,[],_,_,h=>by cases h
 | k,x::ps,0,p,h=>by cases h;rfl
 | k,x::ps,j+1,p,h=>by
   rw[qq,show k+(j+1)=k+1+j by (clear h;lia)];exact mq s (k+1) ps j p h
theorem rB.stq {cp:Prop} {m l0:Nat} {B:Int} {st:List (Addr×Row)} {kvs:List (aR×W)} (h:rB cp m l0 B i (cr st,kvs)) (hi:l0+(3*m+2)*i<=20000) (hB:B*2^i<=10^100):km cp st:=by
 have h1:=le_trans h.l hi;have h2:=o9 (cr st);have h1:((cr st).map Rq.lb).sum<=20000:=h1;refine⟨λp hp=>uL hB _ (h.g p.2 (mem_map.mpr ⟨p,hp,rfl⟩)),λp hp=>qm (h.g p.2 (mem_map.mpr ⟨p,hp,rfl⟩)),h1,?_⟩;rw[length_map] at h2
 (clear hi hB;lia)
noncomputable def xx (C:Cs) (Cf:Addr) (cp:Prop):bP:=λws G q e=>∃(t b:Addr) (ps:List (Addr×Row)) (kvs:List (aR×W)) (m s0 l0:Nat) (B:Int),ws=[.ref t,.ref b,.int (m:Int)]/\G t=some (.lst (refs ps))/\Rows C G ps/\G b=some (.dic kvs)/\rB cp s0 l0 B 0 (cr ps,kvs)/\0<=B/\(∀i,i<=m->B*2^i<=10^100)/\(∀i,i<=m->l0+(3*s0+2)*i<=20000)/\m<=60/\
 (∀(G':Gp) (n:Nat),aF G G'->n<m->o8 (bu (cr ps,kvs) n)->(∀k,k<n->¬o8 (bu (cr ps,kvs) k))->e (.ref Cf) G')/\
 ∀(G':Gp) (F:Addr) (ds:List Addr) (n:Nat),aF G G'->G F=none->G' F=some (.lst (qq (cr ps,kvs) 0 ds))->ds.length=n+1->n<=m->((bu (cr ps,kvs) n).1=[]∨n=m)->(∀k,k<n->(bu (cr ps,kvs) k).1≠[])->(∀k,k<n->¬o8 (bu (cr ps,kvs) k))->(∀k p,ds[k]?=some p->G' p=some (.dic (uO (bu (cr ps,kvs) k).2))/\G p=none)->q (.ref F) G'
structure Ts (C:Cs) (G0 G:Gp) (l d F:Addr) (s:List Row×List (aR×W)) (ds:List Addr) (i:Nat) (st:List (Addr×Row)):Prop where
 le:aF G0 G
 hl:G l=some (.lst (cA st))
 hr:cr st=(bu s i).1
 ro:Rows C G st
 hd:G d=some (.dic (bu s i).2)
 hF:G F=some (.lst (qq s 0 ds))
 ll:ds.length=i+1
 td:∀k p,ds[k]?=some p->G p=some (.dic (uO (bu s k).2))/\G0 p=none
 dn:∀p,p∈ds->p≠d
 lF:l≠F
 f1:G0 l=none
 f2:G0 d=none
 f3:G0 F=none
 ne:∀k,k<i->(bu s k).1≠[]
 nb:∀k,k<i->¬o8 (bu s k)
theorem Ts.mono {C:Cs} {G0 G G':Gp} {l d F:Addr} {s:List Row×List (aR×W)} {ds:List Addr} {st:List (Addr×Row)} (h:Ts C G0 G l d F s ds i st) (k:aF G G'):Ts C G0 G' l d F s ds i st:=
 ⟨h.le.trans k,k _ _ h.hl,h.hr,h.ro.mono (aF.ins k),k _ _ h.hd,k _ _ h.hF,h.ll,λn p hp=>⟨k _ _ (h.td n p hp).1,(h.td n p hp).2⟩,h.dn,h.lF,h.f1,h.f2,h.f3,h.ne,h.nb⟩
theorem Ts.next {C:Cs} {G0 G G':Gp} {l d F p:Addr} {s:List Row×List (aR×W)} {ds:List Addr} {st st':List (Addr×Row)} (h:Ts C G0 G l d F s ds i st) (k:∀x g,x≠l->x≠d->x≠F->G x=some g->G' x=some g) (hl:G' l=some (.lst (cA st'))) (hr:cr st'=(bu s (i+1)).1) (ro:Rows C G' st') (hd:G' d=some (.dic (bu s (i+1)).2)) (hF:G' F=some (.lst (qq s 0 (ds++[p]))))
 (hp:G' p=some (.dic (uO (bu s (i+1)).2))) (fp:G p=none) (pd:p≠d) (hn:(bu s i).1≠[]) (hb:¬o8 (bu s i)):Ts C G0 G' l d F s (ds++[p]) (i+1) st':=by
 have kd:∀q,q∈ds->∀g,G q=some g->G' q=some g:=λq hq g e=>by
  obtain⟨n,hn⟩:=List.getElem?_of_mem hq;have e1:=(h.td n q hn).1;refine k q g (λz=>?_) (h.dn q hq) (λz=>?_) e
  ·rw[z,h.hl] at e1;cases e1
  ·rw[z,h.hF] at e1;cases e1
 refine⟨λx g e=>k x g (λz=>by rw[z,h.f1] at e;cases e) (λz=>by rw[z,h.f2] at e;cases e) (λz=>by rw[z,h.f3] at e;cases e) (h.le x g e),hl,hr,ro,hd,hF,by rw[length_append,h.ll];rfl,λn q hq=>?_,λq hq=>?_,h.lF,h.f1,h.f2,h.f3,λn hn'=>?_,λn hn'=>?_⟩
 ·by_cases hn:n<ds.length
  ·rw[List.getElem?_append_left hn] at hq;obtain⟨a1,a2⟩:=h.td n q hq;exact⟨kd q (List.mem_of_getElem? hq) _ a1,a2⟩
  ·rw[List.getElem?_append_right (by (clear hq;lia))] at hq;obtain⟨j,hj⟩:∃j,n-ds.length=j:=⟨_,rfl⟩;rw[hj] at hq;cases j with
   | zero=>
     cases hq;have hn2:n=i+1:=by have:=h.ll;lia
     subst hn2;exact⟨hp,bJ h.le fp⟩
   | succ j=>cases hq
 ·rcases mem_append.mp hq with hq | hq
  ·exact h.dn q hq
  ·rw[mem_singleton.mp hq];exact pd
 ·rcases lt_or_ge n i with z | z
  ·exact h.ne n z
  ·have:n=i:=by lia
   rw[this];exact hn
 ·rcases lt_or_ge n i with z | z
  ·exact h.nb n z
  ·have:n=i:=by lia
   rw[this];exact hb
theorem scTc:bM ["rows","boxes","most","now","left","found","thing"] ["rows","boxes","most"] (am (aU 33)):=by walk_at "s"
theorem CB {C:Cs} {Cf:Addr} {cp:Prop} {T:Addr} {dfs:List Value} (F:fY K "trace" "trace" (aU 33) f fd T dfs) (F1:Fx P w K mg base "put_ahead" ["left","things"] 7 (yg C cp)) (F2:Fx P w K mg base "told" ["left","boxes"] 2 CA) (M:∀i,Sk cp i->BY P w K mg base (C.at_ i) "step" ["self","boxes"] 8 (rz C Cf i) []) (md:mg "dict"=none) (ml:mg "len"=none):sR P w K mg base 9 f fd ["rows","boxes","most"] (xx C Cf cp):=by
 have nd:=scTc.nd;refine BR (k:=8) F scTc (λws G q e h=>by obtain⟨_,_,_,_,_,_,_,_,rfl,_⟩:=h;rfl) (λcdv A outer s H E ws G q e hr hsp hE=>?_);apply aI
 ·refine' ae ?s1 (ae ?s2 (ae ?s3 (ae ?s4 (ae (mM PassesOwn.leaving ?co (ae ?b1 (ae (eE (ax F1 (aw.mono hr (by lia)) rfl (ac ?le (ac (iV (S:=Sk cp) (t:=λi=>sY (C.at_ i) "step" (rz C Cf i) [] (dr 6) (pE (dr 3) j8) e) λi hi=>sZ ?me (M i hi) (aw.mono hr (by lia)) hE ?ma) af)))) ?b3))) ?s6))))
  case s1=>exact(aY 3 nd rfl (.inl rfl) (bv (yd rfl) rfl md ue (ac (aa 1) af)))
  case s2=>exact(aY 4 nd rfl (.inl rfl) (bC af))
  case s3=>exact(eE (ax F1 (aw.mono hr (by lia)) rfl (ac (aa 4) (ac (aa 0) af))))
  case s4=>exact(aY 5 nd rfl (.inl rfl) (bC (ac (ax F2 (aw.mono hr (by lia)) rfl (ac (aa 4) (ac (aa 3) af))) af)))
  case co=>exact(fM (eB (aH (dQ hr) (aa 4) (bC af)) (cX (aH DS (bb bU rfl ml PySem.boot_len (ac (aa 5) af)) (aa 2)))))
  case b1=>exact(aY 6 nd rfl (.inl rfl) (aA aB (zA (aa 4)) ag))
  case le=>exact(aa 4)
  case me=>exact(aa 6)
  case ma=>exact(ac (aa 3) af)
  case b3=>exact(ae (eE (jn (aa 5) (ax F2 (aw.mono hr (by lia)) rfl (ac (aa 4) (ac (aa 3) af))))) ah)
  case s6=>exact(ae (av (aa 5)) ah)
 ·obtain⟨t,b,ps,kvs,m,s0,l0,B,rfl,ht,hX,hb,hO,hB0,hBi,hLi,hm,hx,hq⟩:=hsp;walk_at "a0";refine⟨kvs,.dic (.inl hb),λd hd0=>?_⟩;have le1:=aF.new (g:=GO.dic kvs) hd0;have g1:=ak (G:=G) (a:=d) (g:=GO.dic kvs);generalize aL G d (.dic kvs)=G1 at le1 g1 ⊢;walk_at "a";intro l hl0;have fl:=bJ le1 hl0;have le2:=le1.trans (aF.new (g:=GO.lst []) hl0);have g2d:=aG (g:=GO.lst []) g1 hl0;have g2l:=ak (G:=G1) (a:=l) (g:=GO.lst []);generalize aL G1 l (.lst [])=G2 at le2 g2d g2l ⊢;have tl:t≠l:=λz=>by rw[z,fl] at ht;cases ht
  have dl:d≠l:=λz=>by rw[z,g2l] at g2d;cases g2d
  have hst0:km cp ps:=hO.stq (hLi 0 (by (clear hB0;lia))) (hBi 0 (by (clear hB0;lia)));walk_at "a";refine⟨l,t,ps,[],rfl,tl,g2l,le2 _ _ ht,hX.mono (aF.ins le2),by rw[append_nil];exact hst0,λG3 hl3 hk3=>?_⟩;have le3:aF G G3:=λx g e=>(hk3 x (λz=>by rw[z,fl] at e;cases e)).trans (le2 x g e);have g3d:=(hk3 d dl).trans g2d;rw[append_nil] at hl3;walk_at "a";have hk0:kvs.length<=100+0:=hO.k;refine⟨l,d,ps,kvs,rfl,hl3,g3d,hO.b.int,by lia,λp0 G4 le4 fp0 hp0=>?_⟩;intro F0 hF0;have S0:Ts C G (aL G4 F0 (.lst [.tup [.tup (ao (bw (cr ps))),.ref p0]])) l d F0 (cr ps,kvs) [p0] 0 ps:=by
   have k5:aF G4 (aL G4 F0 (.lst [.tup [.tup (ao (bw (cr ps))),.ref p0]])):=aF.new hF0;refine⟨(le3.trans le4).trans k5,k5 _ _ (le4 _ _ hl3),rfl,hX.mono (aF.ins ((le3.trans le4).trans k5)),k5 _ _ (le4 _ _ g3d),ak,rfl,λk p hp=>?_,λp hp=>?_,λz=>?_,fl,hd0,bJ (le3.trans le4) hF0,λk hk=>absurd hk (Nat.not_lt_zero _),λk hk=>absurd hk (Nat.not_lt_zero _)⟩
   ·cases k with
    | zero=>
      cases hp;exact⟨k5 _ _ hp0,bJ le3 fp0⟩
    | succ k=>cases hp
   ·rw[mem_singleton.mp hp];intro z;rw[z,g3d] at fp0;cases fp0
   ·rw[←z,le4 _ _ hl3] at hF0;cases hF0
  generalize aL G4 F0 (.lst [.tup [.tup (ao (bw (cr ps))),.ref p0]])=G5 at S0 ⊢;clear hp0 fp0 hF0 le4 g3d hl3 hk3 le3 g2d g2l le2 dl fl hl0 g1 le1 hd0;subst hU;refine aT λU hU=>?_;refine zV (λj τ G'=>∃(i:Nat) (ds:List Addr) (st:List (Addr×Row)) (t6:Option W),Ts C G G' l d F0 (cr ps,kvs) ds i st/\τ=[some (.ref t),some (.ref b),some (.int (m:Int)),some (.ref d),some (.ref l),some (.ref F0),t6]/\i<=m/\j=m-i) ⟨_,0,[p0],ps,none,S0,rfl,by (clear hB0 hk0;lia),rfl⟩ ?_;rintro j τ G' ⟨i,ds,st,t6,S,rfl,h50,rfl⟩ B' hB';clear S0;walk_at "R";intro p1 hp1;have S1:=S.mono (aF.new (g:=GO.lst []) hp1);have g1:=ak (G:=G') (a:=p1) (g:=GO.lst []);generalize aL G' p1 (.lst [])=G6 at S1 g1 ⊢;clear hp1 S;have fin:(bu (cr ps,kvs) i).1=[]∨i=m->U { nx:=λx G1=>∃G0,aF G0 G1/\q W.non G0,rt:=λw G1=>∃G0,aF G0 G1/\q w G0 } [some (W.ref t),some (W.ref b),some (W.int (m:Int)),some (W.ref d),some (W.ref l),some (W.ref F0),t6] G6:=λhds=>by
   subst hU;walk_at "R";exact aF.done (hq G6 F0 ds i S1.le S1.f3 S1.hF S1.ll h50 hds S1.ne S1.nb S1.td)
  have hll:=S1.ll;have hOi:=hO.run hB0 i;refine⟨_,.nil S1.hl g1,?_⟩;cases st with
  | nil=>
    rw[show(cA []).isEmpty=true from rfl,if_neg (by decide)];exact fin (.inl S1.hr.symm)
  | cons a st=>
    have hrun:bu (cr ps,kvs) i=(a.2::cr st,(bu (cr ps,kvs) i).2):=by rw[Prod.ext_iff];exact⟨S1.hr.symm,rfl⟩
    have hnx:bu (cr ps,kvs) (i+1)=(dR (bu (cr ps,kvs) i).2 a.2++cr st,ft (bu (cr ps,kvs) i).2 a.2):=by
     show lg (bu (cr ps,kvs) i)=_;rw[hrun]
     rfl
    rw[show(cA (a::st)).isEmpty=false by simp[cA],if_pos rfl];refine⟨_,.lst S1.hF,?_⟩;rw[d7]
    by_cases h5:((ds.length:Nat):Int)<=(m:Int)
    ·rw[if_pos h5];refine⟨λτ1 G1=>∃(ds':List Addr) (st':List (Addr×Row)) (t6':Option W),Ts C G G1 l d F0 (cr ps,kvs) ds' (i+1) st'/\τ1=[some (.ref t),some (.ref b),some (.int (m:Int)),some (.ref d),some (.ref l),some (.ref F0),t6'],?_,?_⟩
     ·rintro τ1 G1 ⟨ds',st',t6',S',rfl⟩;exact⟨m- (i+1),by (clear hB0 hm hk0 h50;lia),i+1,ds',st',t6',S',rfl,by (clear hB0 hm hk0 h50;lia),rfl⟩
     ·have him:i<=60:=by (clear hB0 hk0 h50;lia)
      have hOn:=hO.run hB0 (i+1);have rh:jS C G6 a.1 a.2:=S1.ro a mem_cons_self;have hgr:=hOi.g a.2 (by rw[hrun];exact mem_cons_self);have hz:Sz a.2:=uL (hBi i (by assumption)) _ hgr;have hbad:o8 (bu (cr ps,kvs) i)=fu (bu (cr ps,kvs) i).2 a.2:=by rw[hrun];rfl
      obtain⟨fs,f1,_,f3⟩:=rh.isIns;have dl:d≠l:=λz=>by have:=S1.hd;rw[z,S1.hl] at this;cases this
      have dF:d≠F0:=λz=>by have:=S1.hd;rw[z,S1.hF] at this;cases this
      have al:a.1≠l:=λz=>by rw[z,S1.hl] at f1;cases f1
      have hki:=hOi.k;have hkn:=hOn.k;have hid:=hOi.b.int;have hid2:=hOn.b.int;have hp0:(0:Int)<=B*2^i:=Int.mul_nonneg hB0 (Int.le_of_lt (Int.pow_pos (by decide)));generalize hN:(λ(τ1:cP) (G1:Gp)=>∃(ds':List Addr) (st':List (Addr×Row)) (t6':Option W),Ts C G G1 l d F0 (cr ps,kvs) ds' (i+1) st'/\τ1=[some (W.ref t),some (W.ref b),some (W.int (m:Int)),some (W.ref d),some (W.ref l),some (W.ref F0),t6'])=N;subst hB';refine aT λU1 hU1=>?_;walk_at "R";refine⟨_,_,S1.hl,?_⟩;walk_at "R";have g7l:=ak (G:=G6) (a:=l) (g:=GO.lst (cA st));have k7:∀x,x≠l->aL G6 l (.lst (cA st)) x=G6 x:=λx hx=>aq hx;have I7:cz G6 (aL G6 l (.lst (cA st))):=cz.but (p:=l) (λx g xl e=>(k7 x xl).trans e) (λC' y fs e=>by rw[S1.hl] at e;cases e);generalize aL G6 l (.lst (cA st))=G7 at g7l k7 I7 ⊢;walk_at "b";refine⟨kd a.2,qm hgr,a.1,fs,rfl,(k7 _ al).trans f1,f3,a.1,d,a.2,_,rfl,rh.mono I7,rfl,hz,(nM _ hgr).2,(k7 _ dl).trans S1.hd,⟨_,hOi.b,hp0⟩,by (clear hB0 hk0 h50 hkn hp0;lia),λhno=>hx _ i (λx g e=>(k7 x (λz=>by rw[z,S1.f1] at e;cases e)).trans (S1.le x g e)) (by (clear hB0 hm hk0 h50 him hki hkn hp0;lia)) (hbad▸hno) S1.nb,λhno p2 G8 p8 k8 hd8 fp2 hp2 hR8 he8=>?_⟩;have n2l:p2≠l:=λz=>by rw[z,g7l] at fp2;cases fp2
      have I8:cz G7 G8:=cz.but (p:=d) k8 (λC' y fs e=>by rw[k7 _ dl,S1.hd] at e;cases e);have hro:Rows C G8 st:=λx hx=>((S1.ro x (mem_cons_of_mem _ hx)).mono I7).mono I8;have e8:cr (p8++st)=(bu (cr ps,kvs) (i+1)).1:=by rw[hnx];show List.map _ (p8++st)=_;rw[map_append,he8]
      have hst:km cp (p8++st):=by
       have:rB cp s0 l0 B (i+1) (cr (p8++st),(bu (cr ps,kvs) (i+1)).2):=by rw[e8];exact hOn
       exact this.stq (hLi (i+1) (by (clear hB0 hm hk0 h50 him hki hkn hp0;lia))) (hBi (i+1) (by (clear hB0 hm hk0 h50 him hki hkn hp0;lia)))
      refine⟨l,p2,p8,st,rfl,n2l,k8 l _ dl.symm g7l,hp2,hR8,hst,λG9 hl9 hk9=>?_⟩;have d8:G8 d=some (.dic (bu (cr ps,kvs) (i+1)).2):=by rw[hnx];exact hd8
      have k9:∀x g,x≠l->x≠d->G6 x=some g->G9 x=some g:=λx g xl xd e=>(hk9 x xl).trans (k8 x g xd ((k7 x xl).trans e));have hd9:G9 d=some (.dic (bu (cr ps,kvs) (i+1)).2):=(hk9 d dl).trans d8;have hro9:Rows C G9 (p8++st):=λx hx=>by
       have I9:cz G8 G9:=cz.but (p:=l) (λx g xl e=>(hk9 x xl).trans e) (λC' y fs e=>by rw[k8 l _ dl.symm g7l] at e;cases e);rcases mem_append.mp hx with hx | hx
       ·exact(hR8 x hx).mono I9
       ·exact(hro x hx).mono I9
      clear hk9 k8 hd8 d8 hR8 hro I8 hp2 fp2 n2l k7 g7l I7;have hF9:=k9 F0 _ S1.lF.symm dF.symm S1.hF;subst hU1;walk_at "R";refine⟨⟨_,hF9⟩,l,d,p8++st,_,rfl,hl9,hd9,hid2,by (clear hB0 hk0 h50 hki hp0;lia),λp4 G10 le10 fp4 hp4=>⟨_,le10 _ _ hF9,by rw[d7];(clear hB0 hm hk0 h50 h5 hki hkn hp0;lia),?_⟩⟩;have efo:=qr (cr ps,kvs) 0 ds p4;rw[show 0+ds.length=i+1 by (clear hB0 hm hk0 h50 h5 him hki hkn hp0;lia),←e8] at efo;rw[←efo];have n4d:p4≠d:=λz=>by rw[z,hd9] at fp4;cases fp4
      have n4l:p4≠l:=λz=>by rw[z,hl9] at fp4;cases fp4
      have n4F:p4≠F0:=λz=>by rw[z,hF9] at fp4;cases fp4
      subst hN;have I11:cz G9 (aL G10 F0 (GO.lst (qq (cr ps,kvs) 0 (ds++[p4])))):=cz.but (p:=F0) (λx g xF e=>(aq xF).trans (le10 _ _ e)) (λC' y fs e=>by rw[hF9] at e;cases e);refine⟨ds++[p4],p8++st,_,S1.next (λx g xl xd xF e=>(aq xF).trans (le10 _ _ (k9 x g xl xd e))) ((aq S1.lF).trans (le10 _ _ hl9)) e8 (hro9.mono I11) ((aq dF).trans (le10 _ _ hd9)) ak ((aq n4F).trans hp4) ?_ n4d (by rw[hrun];exact List.cons_ne_nil _ _) (by rw[hbad];exact hno),rfl⟩;cases e:G6 p4 with
      | none=>rfl
      | some g=>rw[k9 p4 g n4l n4d e] at fp4;cases fp4
    ·rw[if_neg h5];exact fin (.inr (by (clear hB0 hm hk0;lia)))
noncomputable def CC:bP:=λws G q _=>∃(ns:List Int) (k:Int),ws=[.scr ns,.int k]/\0<=k/\∀v:Int,q (.int v) G
theorem EX (F:cq K "_law_cell_at" "_law_cell_at" (aU 38) f fd) (ml:mg "len"=none):bW P w K mg base 1 f fd ["_law_script","_law_k"] CC:=by
 refine d3 F (N:=["_law_script","_law_k"]) (by walk_at "s") (by walk_at "l") λ_ _ _ _ _ _ nd hr=>?_;apply aI
 ·exact(ae (bq (aH (iD hr) (aa 1) (bb bU rfl ml PySem.boot_len (ac (aa 0) af))) (ae (av (aA aB (aa 0) (aa 1))) ah) ah) (ae (av ag) ah))
 ·rintro ws G q e ⟨ns,k,rfl,hk,hq⟩;walk_at "R";split
  ·obtain⟨n,hn⟩:=wo (ns:=ns) (i:=k) hk (by assumption);exact⟨n,hn,aF.done (hq n)⟩
  ·exact aF.done (hq 0)
noncomputable def AE:bP:=λws G q _=>∃c:Int,ws=[.int c]/\∀v:Int,0<=v->v<=10^50->q (.int v) G
theorem EY (F:cq K "_law_amount" "_law_amount" (aU 39) f fd):bW P w K mg base 1 f fd ["_law_cell"] AE:=by
 refine d3 F (N:=["_law_cell"]) (by walk_at "s") (by walk_at "l") λ_ _ _ _ _ _ nd hr=>?_;apply aI
 ·exact(ae (bq (aH (bL hr) (aE cf (aa 0) ag) ag) (ae (av (aE cf (aE bY (aa 0) ag) (aE lE ag ag))) ah) ah) (ae (av (aE cf (aE bY (aa 0) ag) ag)) ah))
 ·rintro ws G q e ⟨c,rfl,hq⟩;walk_at "R";refine gP (λh=>?_) (λh=>?_)
  ·exact aF.done (hq _ (Int.emod_nonneg _ (by decide)) (Int.le_of_lt (Int.emod_lt_of_pos _ (by decide))))
  ·have h1:=Int.emod_lt_of_pos (c/5) (b:=5) (by decide);exact aF.done (hq _ (Int.emod_nonneg _ (by decide)) (by (clear h;lia)))
structure ve (o:O):Prop where
 nf:o.NF
 dp:o.dp<=3
 hw:O.hw o<=3
 mx:O.mx o<=10^20
theorem ve.wh {n:Int} (h0:0<=n) (h1:n<=10^20):ve (O.wh n):=by
 have x:=Wb.wh h0;have:=x.mx;exact⟨x.nf,x.dp,le_trans x.hw (by decide),by lia⟩
structure CD (t:O):Prop where
 nf:t.NF
 dp:t.dp<=2
 hw:O.hw t<=1
 mx:O.mx t<=2
 ne:O.cmp .z t<0
theorem AF (n:Int):∃t:O,fL [W.tup [.tup [.tup [],.int 1]],.tup [.tup [.tup [],.int 2]],.tup [.tup [.tup [.tup [.tup [],.int 1]],.int 1]]] (n/4%3)=some (.tup (ao t))/\CD t:=by
 have h:n/4%3=0∨n/4%3=1∨n/4%3=2:=by lia
 rcases h with h | h | h<;> rw[h]
 ·exact⟨O.wh 1,rfl,O.NF.wh (by decide),by decide,by decide,by decide,by decide⟩
 ·exact⟨O.wh 2,rfl,O.NF.wh (by decide),by decide,by decide,by decide,by decide⟩
 ·exact⟨om,rfl,pS,by decide,by decide,by decide,by decide⟩
theorem CD.one {t:O} (h:CD t) {n:Int} (h0:1<=n) (h1:n<=10^9):ve (.c t n .z):=by
 have a:=h.dp;have b:=h.hw;have c:=h.mx;refine⟨⟨h.nf,h0,trivial,trivial⟩,?_,?_,?_⟩
 ·show max (t.dp+1) 0<=3;(clear h0 h1 b c;lia)
 ·rw[O.hw_c];show max (0+1) (max (O.hw t) 0)<=3;(clear h0 h1 a c;lia)
 ·rw[O.mx_c];show max n (max (O.mx t) 0)<=_;(clear a b;lia)
theorem CD.two {t:O} (h:CD t) {n m:Int} (h0:1<=n) (h1:n<=10^9) (m0:1<=m) (m1:m<=7):ve (.c t n (.c .z m .z)):=by
 have a:=h.dp;have b:=h.hw;have c:=h.mx;refine⟨⟨h.nf,h0,⟨h.ne,trivial⟩,trivial,m0,trivial,trivial⟩,?_,?_,?_⟩
 ·show max (t.dp+1) (max (0+1) 0)<=3;(clear h0 h1 m0 m1 b c;lia)
 ·rw[O.hw_c,O.hw_c];show max (0+1+1) (max (O.hw t) (max (0+1) (max 0 0)))<=3;(clear h0 h1 m0 m1 a c;lia)
 ·rw[O.mx_c,O.mx_c];show max n (max (O.mx t) (max m (max 0 0)))<=_;(clear a b;lia)
noncomputable def CF:bP:=λws G q _=>∃n:Int,ws=[.int n]/\∀o:O,ve o->q (.tup (ao o)) G
theorem EZ (F:cq K "_law_exponent" "_law_exponent" (aU 42) f fd) (F1:Fx P w K mg base "whole" ["n"] 3 kh):bW P w K mg base 5 f fd ["_law_number"] CF:=by
 refine d3 F (N:=["_law_number","_law_one","_law_top","_law_found"]) (by walk_at "s") (by walk_at "l") λ_ _ _ _ _ _ nd hr=>?_;apply aI
 ·exact(ae (bq (aH (bL hr) (aE cf (aa 0) ag) ag) (ae (av (ax F1 (aw.mono hr (by lia)) rfl (ac (aE cf (aE bY (aa 0) ag) ag) af))) ah) ah) (ae (bq (aH (bL hr) (aE cf (aa 0) ag) ag) (ae (av (ax F1 (aw.mono hr (by lia)) rfl (ac (aE cf (aE bY (aa 0) ag) (aE lE ag ag)) af))) ah) ah) (ae (aY 1 nd rfl (.inl rfl) (aW (ac (aW (ac (aW af) (ac ag af))) af))) (ae (aY 2 nd rfl (.inl rfl) (aA aB (bC (ac (aa 1) (ac (aW (ac (aW (ac (aW af) (ac ag af))) af)) (ac (aW (ac (aW (ac (aa 1) (ac ag af))) af)) af)))) (aE cf (aE bY (aa 0) ag) ag))) (ae (aY 3 nd rfl (.inl rfl) (aW (ac (aW (ac (aa 2) (ac (aE bA ag (aE cf (aE bY (aa 0) ag) (aE lE ag ag))) af))) af))) (ae (bq (aH (bL hr) (aE cf (aa 0) ag) ag) (ae (aY 3 nd rfl (.inl rfl) (aE bA (aa 3) (aW (ac (aW (ac (aW af) (ac (aE bA ag (aE cf (aE bY (aa 0) ag) ag)) af))) af)))) ah) ah) (ae (av (aa 3)) ah)))))))
 ·rintro ws G q e ⟨n,rfl,hq⟩;have m5:∀a:Int,0<=a%5/\a%5<=10^20:=λa=>by lia
  have m20:∀a:Int,0<=a%10^20/\a%10^20<=10^20:=λa=>by lia
  walk_at "a0"
  by_cases h4:n%4=0
  ·rw[if_pos h4];have:=m5 (n/4);exact⟨_,rfl,this.1,aF.done (hq _ (.wh this.1 this.2))⟩
  rw[if_neg h4];walk_at "a"
  by_cases h1:n%4=1
  ·rw[if_pos h1];have:=m20 (n/4);exact⟨_,rfl,this.1,aF.done (hq _ (.wh this.1 this.2))⟩
  rw[if_neg h1];walk_at "a";walk_at "a";intro p hp;obtain⟨t,ht,tok⟩:=AF n;refine⟨_,_,ak,ht,?_⟩;have le:=aF.new (g:=GO.lst [W.tup [.tup [.tup [],.int 1]],.tup [.tup [.tup [],.int 2]],.tup [.tup [.tup [.tup [.tup [],.int 1]],.int 1]]]) hp;generalize aL G p (GO.lst [W.tup [.tup [.tup [],.int 1]],.tup [.tup [.tup [],.int 2]],.tup [.tup [.tup [.tup [.tup [],.int 1]],.int 1]]])=G1 at le ⊢;walk_at "a";have v1:1<=1+n/12%1000000000/\1+n/12%1000000000<=10^9:=by (clear h4 h1;lia)
  generalize 1+n/12%1000000000=v at v1 ⊢;walk_at "a"
  by_cases h2:n%4=2
  ·rw[if_pos h2];subst hU;walk_at "R";exact⟨G,le,hq _ (tok.two (m:=1+n/12%7) v1.1 v1.2 (by (clear h4 h1 v1 h2;lia)) (by (clear h4 h1 v1 h2;lia)))⟩
  ·rw[if_neg h2];subst hU;walk_at "R";exact⟨G,le,hq _ (tok.one v1.1 v1.2)⟩
noncomputable def CG (ms:List (O×Str)):Prop:=ms.length<=5/\∀m,m∈ms->ve m.1
theorem CH:ve (.c (O.wh 3) 1 .z):=⟨⟨O.NF.wh (by decide),by decide,trivial,trivial⟩,by decide,by decide,by decide+kernel⟩
noncomputable def CI:bP:=λws G q _=>∃(c:Int) (b:Str) (pn:Addr) (names:List Str),ws=[.int c,.str b,.ref pn]/\G pn=some (.lst (vd names))/\names.length=4/\∀(p:Addr) (G':Gp) (ms:List (O×Str)),aF G G'->G p=none->G' p=some (.lst (nI ms))->CG ms->q (.ref p) G'
theorem E1 (F:cq K "_law_marks" "_law_marks" (aU 43) f fd) (F1:Fx P w K mg base "_law_exponent" ["_law_number"] 5 CF) (F2:Fx P w K mg base "whole" ["n"] 3 kh) (mr:mg "range"=none):bW P w K mg base 6 f fd ["_law_cell","_law_box","_law_names"] CI:=by
 refine d3 F (N:=["_law_cell","_law_box","_law_names","_law_marks_here","_law_k","_law_number"]) (by walk_at "s") (by walk_at "l") λ_ _ _ _ _ _ nd hr=>?_;apply aI
 ·exact(ae (aY 3 nd rfl (.inl rfl) (bC af)) (ae (dU PySem.PassesOwn.never rfl (fe rfl mr (ac (aE cf (aa 0) ag) af)) (cm 4 nd rfl (.inl rfl)) (ae (aY 5 nd rfl (.inl rfl) (aE cf (aE tX (aE bY (aa 0) ag) ag) (aA aB (bC (ac (aE bA (aE lE ag ag) ag) (ac ag (ac ag af)))) (aa 4)))) (ae (bq (fM (eB (aH (bL hr) (aa 4) ag) (cX (aH (bL hr) (aE cf (aE bY (aa 0) ag) ag) ag)))) (ae (eE (jn (aa 3) (aW (ac (aW (ac (aW (ac (ax F2 (aw.mono hr (by lia)) rfl (ac ag af)) (ac ag af))) af)) (ac (aa 1) af))))) ah) (ae (eE (jn (aa 3) (aW (ac (ax F1 (aw.mono hr (by lia)) rfl (ac (aa 5) af)) (ac (aA aB (aa 2) (aE cf (aE bY (aa 5) ag) ag)) af))))) ah)) ah))) (ae (av (aa 3)) ah)))
 ·rintro ws G q e ⟨c,b,pn,names,rfl,hn,hn4,hq⟩;have hlen:(vd names).length=names.length:=length_map ..;walk_at "a0";intro p hp;walk_at "a";refine⟨by lia,by lia,?_⟩;have hc3:(c%4).toNat<=3:=by (clear hn4 hlen;lia)
  refine gM _ (λ(i:Nat) (τ:cP) (G':Gp)=>∃(ms:List (O×Str)) (t1 t2:Option W),τ=[some (.int c),some (.str b),some (.ref pn),some (.ref p),t1,t2]/\ms.length=i/\(∀m,m∈ms->ve m.1)/\G' p=some (.lst (nI ms))/\aF G G') ⟨[],none,none,rfl,rfl,λ_ h=>(nomatch h),ak,aF.new hp⟩ ?_ ?_
  ·rintro τ G' ⟨ms,t1,t2,rfl,h1,h2,h3,h4⟩;refine⟨trivial,?_⟩;subst hU;walk_at "R";exact aF.done (hq p G' ms h4 hp h3 ⟨by (clear hn4 hlen;lia),h2⟩)
  ·rintro i τ G' k hi ⟨ms,t1,t2,rfl,h1,h2,h3,h4⟩ hk;refine⟨trivial,?_⟩;have hi3:i<3:=by (clear hn4 hlen;lia)
   walk_at "a0";intro p1 hp1;have hm:∃m:Int,fL [W.int (1000000000000000000000000000000+57),.int 2147483647,.int 1000000007] (i:Int)=some (.int m)/\0<m:=by
    have h:i=0∨i=1∨i=2:=by (clear hn4 hlen hc3 hi;lia)
    rcases h with rfl | rfl | rfl
    ·exact⟨_,rfl,by decide⟩
    ·exact⟨_,rfl,by decide⟩
    ·exact⟨_,rfl,by decide⟩
   obtain⟨m,hm1,hm2⟩:=hm;refine⟨_,.int m,ak,hm1,?_⟩;have n1:p≠p1:=λz=>by rw[←z,h3] at hp1;cases hp1
   have h3':=(aq (g:=GO.lst [W.int (1000000000000000000000000000000+57),W.int 2147483647,W.int 1000000007]) n1).trans h3;have h4':=h4.trans (aF.new (g:=GO.lst [W.int (1000000000000000000000000000000+57),W.int 2147483647,W.int 1000000007]) hp1);generalize aL G' p1 (GO.lst [W.int (1000000000000000000000000000000+57),W.int 2147483647,W.int 1000000007])=G2 at h3' h4' ⊢;simp only[Bw];refine⟨by assumption,?_⟩;subst hU;dsimp only;generalize (c/8*48271)%m=v;have fin:∀(o:O) (x:Str),ve o->k [some (.int c),some (.str b),some (.ref pn),some (.ref p),some (.int (i:Int)),some (.int v)] (aL G2 p (.lst (nI ms++[.tup [.tup (ao o),.str x]]))):=λo x ho=>by
    refine hk _ _ ⟨ms++[(o,x)],_,_,rfl,by rw[length_append,h1];rfl,λm hm=>?_,?_,λa g e=>?_⟩
    ·rcases mem_append.mp hm with hm | hm
     ·exact h2 m hm
     ·rw[mem_singleton.mp hm];exact ho
    ·rw[ak];simp only[nI,map_append,map_cons,map_nil]
    ·rw[aq (λz=>by rw[z,hp] at e;cases e)];exact h4' _ _ e
   have gn:=h4' _ _ hn;have vm:=jF (i:=v/5) (j:=4) (by (clear hn4 hlen hc3 hi h1 hi3 hm2;lia));obtain⟨x,hx,_⟩:=lT (L:=names) (i:=v/5%4) vm.1 (by (clear hlen hc3 hi h1 hi3 hm2;lia));walk_at "R";refine gP (λ_=>gP (λ_=>?_) λ_=>?_) λ_=>?_
   ·exact⟨⟨_,h3'⟩,3,rfl,by decide,_,h3',by rw[length_map];(clear hn4 hlen hc3 hi hi3 hm2 vm;lia),fin _ b CH⟩
   ·exact⟨⟨_,h3'⟩,v,rfl,λo ho=>⟨_,_,gn,hx,_,h3',by rw[length_map];(clear hn4 hlen hc3 hi hi3 hm2 vm;lia),fin o x ho⟩⟩
   ·exact⟨⟨_,h3'⟩,v,rfl,λo ho=>⟨_,_,gn,hx,_,h3',by rw[length_map];(clear hn4 hlen hc3 hi hm2 vm;lia),fin o x ho⟩⟩
mutual
inductive Th (G:Gp):W->Row->Prop where
 | set {b o:Str} {n:Int}:Th G (.tup [.str "set",.str b,.str o,.int n]) (.set b n)
 | copy {b o:Str} {n:Int}:Th G (.tup [.str "copy",.str b,.str o,.int n]) (.copy b o)
 | add {b o:Str} {n:Int}:Th G (.tup [.str "add",.str b,.str o,.int n]) (.add b o)
 | less {b o:Str} {n:Int}:Th G (.tup [.str "less",.str b,.str o,.int n]) (.less b)
 | times {b:Str} {l:Addr} {ws:List W} {rs:aQ Str} (h:G l=some (.lst ws)) (hs:nP G ws rs):Th G (.tup [.str "times",.str b,.ref l]) (.times b rs)
 | whl {b:Str} {l m:Addr} {ms:List (O×Str)} {ws:List W} {rs:aQ Str} (h:G l=some (.lst ws)) (hm:G m=some (.lst (nI ms))) (ok:CG ms) (hs:nP G ws rs):Th G (.tup [.str "while",.str b,.ref l,.ref m]) (.whl b (iI ms) rs)
inductive nP (G:Gp):List W->aQ Str->Prop where
 | nil:nP G [] .nil
 | cons {w:W} {ws:List W} {r:Row} {rs:aQ Str} (h:Th G w r) (hs:nP G ws rs):nP G (w::ws) (.cons r rs)
end
noncomputable def xy (G G':Gp):Prop:=∀a ws,G a=some (.lst ws)->G' a=some (.lst ws)
theorem aF.ls {G G':Gp} (h:aF G G'):xy G G':=λ_ _ e=>h _ _ e
mutual
theorem Th.mono {G G':Gp} (l:xy G G'):∀{w:W} {r:Row},Th G w r->Th G' w r
 | _,_,.set=> .set
 | _,_,.copy=> .copy
 | _,_,.add=> .add
 | _,_,.less=> .less
 | _,_,.times h hs=> .times (l _ _ h) (nP.mono l hs)
 | _,_,.whl h hm ok hs=> .whl (l _ _ h) (l _ _ hm) ok (nP.mono l hs)
theorem nP.mono {G G':Gp} (l:xy G G'):∀{ws:List W} {rs:aQ Str},nP G ws rs->nP G' ws rs
 | _,_,.nil=> .nil
 | _,_,.cons h hs=> .cons (Th.mono l h) (nP.mono l hs)
end
noncomputable abbrev lh (ps:List (W×Row)):List W:=ps.map (·.1)
noncomputable abbrev dE (ps:List (W×Row)):List Row:=ps.map (·.2)
noncomputable def cu (G:Gp) (ps:List (W×Row)):Prop:=∀p,p∈ps->Th G p.1 p.2
theorem cu.mono {G G':Gp} {ps:List (W×Row)} (h:cu G ps) (l:xy G G'):cu G' ps:=λp hp=>(h p hp).mono l
theorem nP.psq {G:Gp}:∀{ws:List W} {rs:aQ Str},nP G ws rs->∃ps,ws=lh ps/\rs.L=dE ps/\cu G ps
 | _,_,.nil=>⟨[],rfl,rfl,λ_ h=>(nomatch h)⟩
 | _,_,.cons (w:=a) (r:=r) h hs=>by
   obtain⟨ps,h1,h2,h3⟩:=nP.psq hs;refine⟨(a,r)::ps,by rw[h1];rfl,by rw[aQ.L,h2];rfl,λp hp=>?_⟩;rcases mem_cons.mp hp with rfl | hp
   ·exact h
   ·exact h3 p hp
theorem cu.ths {G:Gp}:∀{ps:List (W×Row)},cu G ps->nP G (lh ps) (aQ.of (dE ps))
 | [],_=> .nil
 | p::ps,h=> .cons (h p mem_cons_self) (cu.ths λx hx=>h x (mem_cons_of_mem _ hx))
mutual
noncomputable def rF (B:Int):Row->Prop
 | .set _ n=>0<=n/\n<=B
 | .times _ rs=>gU B rs/\rs.L.length<=4/\rs.L≠[]
 | .whl _ hs rs=>gU B rs/\rs.L.length<=4/\rs.L≠[]/\∃ms,CG ms/\hs=iI ms
 | .count _ _=>False
 | .bear _ _ _ _=>False
 | _=>True
noncomputable def gU (B:Int):aQ Str->Prop
 | .nil=>True
 | .cons r rs=>rF B r/\gU B rs
end
mutual
noncomputable def tz:Row->Nat
 | .times _ rs=>gj rs+1
 | .whl _ _ rs=>gj rs+1
 | _=>1
noncomputable def gj:aQ Str->Nat
 | .nil=>0
 | .cons r rs=>gj rs+tz r
end
theorem jX {B:Int}:∀{rs:aQ Str},gU B rs->∀r,r∈rs.L->rF B r
 | .nil,_,r,h=>(nomatch h)
 | .cons r0 rs,x,r,h=>by
   rcases mem_cons.mp h with rfl | h
   ·exact x.1
   ·exact jX x.2 r h
theorem jb {B:Int}:∀{rs:List Row},(∀r,r∈rs->rF B r)->gU B (aQ.of rs)
 | [],_=>trivial
 | r::rs,h=>⟨h r mem_cons_self,jb λx hx=>h x (mem_cons_of_mem _ hx)⟩
theorem jY:∀{rs:aQ Str} {k:Nat},rs.dt<=k->∀r,r∈rs.L->r.dt<=k
 | .nil,_,_,r,h=>(nomatch h)
 | .cons r0 rs,k,x,r,h=>by
   have hx:=max_le.mp (show max r0.dt rs.dt<=k from x);rcases mem_cons.mp h with rfl | h
   ·exact hx.1
   ·exact jY hx.2 r h
theorem pB:∀{rs:List Row} {k:Nat},(∀r,r∈rs->r.dt<=k)->(aQ.of rs).dt<=k
 | [],_,_=>zero_le _
 | r::rs,k,h=>max_le.mpr ⟨h r mem_cons_self,pB λx hx=>h x (mem_cons_of_mem _ hx)⟩
theorem uP:∀{rs:aQ Str} (r:Row),r∈rs.L->tz r<=gj rs
 | .nil,r,h=>(nomatch h)
 | .cons r0 rs,r,h=>by
   rcases mem_cons.mp h with rfl | h
   ·exact Nat.le_add_left _ _
   ·exact le_trans (uP r h) (Nat.le_add_right _ _)
theorem qt:∀rs:List Row,gj (aQ.of rs)=(rs.map tz).sum
 | []=>rfl
 | r::rs=>by
   show gj (aQ.of rs)+tz r=tz r+(rs.map tz).sum;rw[qt rs];lia
theorem uQ {ms:List (O×Str)} (h:CG ms):qX 3 (iI ms)/\O.hw (hpw (iI ms))<=5/\O.mx (hpw (iI ms))<=10^31:=by
 have hx:∀p,p∈iI ms->ve p.1:=λp hp=>by
  obtain⟨m,hm,e⟩:=mem_map.mp (pV hp);rw[←e];exact h.2 m hm
 refine⟨λp hp=>?_,?_⟩
 ·have y:=hx p hp;have:=y.hw;exact⟨y.nf,y.dp,by lia⟩
 ·generalize iI ms=hs at hx;cases hs with
  | nil=>exact⟨by decide,by decide⟩
  | cons p hs=>
    have y:=hx p mem_cons_self;have e1:=Wb.wh (n:=1) (by decide);have a1:=O.hw_plus p.1 (O.wh 1);have a2:=O.mx_plus (b:=O.wh 1) y.nf;have a3:=y.hw;have a4:=y.mx;have a5:=e1.hw;have a6:=e1.mx;have a7:((Int.toNat 1:Nat):Int)=1:=rfl;constructor
    ·show O.hw (.c (O.plusO p.1 (O.wh 1)) 1 .z)<=5;rw[O.hw_c];show max (0+1) (max (O.hw (O.plusO p.1 (O.wh 1))) 0)<=5
     (clear a2 a4 a6 a7;lia)
    ·show O.mx (.c (O.plusO p.1 (O.wh 1)) 1 .z)<=10^31;rw[O.mx_c];show max 1 (max (O.mx (O.plusO p.1 (O.wh 1))) 0)<=10^31
     (clear a1 a3 a5;lia)
noncomputable def BB:Nat:=10^32
theorem AG (k:Nat):1<=BB^k:=Nat.one_le_pow _ _ (by unfold BB;omega)
theorem uR {t m X d:Nat} (h:m<=4*t*BB^d) (hX:X+2<=BB):(m+3)*(X+1)+1<=4*(t+1)*BB^ (d+1):=by
 have h1:(m+3)*(X+1)<=(4*t*BB^d+3)*(X+1):=Nat.mul_le_mul_right _ (by (clear hX;omega));have h2:(4*t*BB^d+3)*(X+1)=4*t*BB^d*(X+1)+3*(X+1):=Nat.add_mul ..;have h3:4*t*BB^d*(X+1)<=4*t*BB^d*BB:=Nat.mul_le_mul_left _ (by (clear h h1 h2;omega));have h4:4*(t+1)*BB^ (d+1)=4*t*BB^d*BB+4*(BB^d*BB):=by
  rw[Nat.pow_succ,Nat.mul_add,Nat.add_mul,Nat.mul_one]
  congr 1
  exact(Nat.mul_assoc ..).symm
 have h5:1*BB<=BB^d*BB:=Nat.mul_le_mul_right _ (AG d)
 (clear h;omega)
mutual
theorem CJ {B:Int}:∀r:Row,rF B r->r.nn/\r.hb<=7*tz r/\r.mb<=4*tz r*BB^r.dt/\r.lb<=3*tz r
 | .set _ _,_=>⟨trivial,by show 1<=7*1;decide,by show 1<=4*1*BB^0;decide,by show 1<=3*1;decide⟩
 | .copy _ _,_=>⟨trivial,by show 1<=7*1;decide,by show 1<=4*1*BB^0;decide,by show 1<=3*1;decide⟩
 | .add _ _,_=>⟨trivial,by show 1<=7*1;decide,by show 1<=4*1*BB^0;decide,by show 1<=3*1;decide⟩
 | .less _,_=>⟨trivial,by show 1<=7*1;decide,by show 1<=4*1*BB^0;decide,by show 1<=3*1;decide⟩
 | .times _ rs,h=>by
   obtain⟨h1,h2,h3,h5⟩:=jZ rs h.1;refine⟨h1,by show rs.hb+2<=7*(gj rs+1);(clear h3 h5;omega),?_,by show 1<=3*(gj rs+1);(clear h2 h3 h5;omega)⟩;have h4:=uR (X:=1) h3 (by unfold BB;(clear h2 h3 h5;omega));show(rs.mb+2)*2<=4*(gj rs+1)*BB^ (rs.dt+1)
   (clear h2 h3 h5;omega)
 | .whl _ hs rs,h=>by
   obtain⟨h1,h2,h3,h5⟩:=jZ rs h.1;obtain⟨_,_,_,ms,hm,rfl⟩:=h;obtain⟨m1,m2,m3⟩:=uQ hm;refine⟨⟨h1,m1⟩,by show rs.hb+O.hw (hpw (iI ms))+2<=7*(gj rs+1);(clear h3 h5 m3;omega),?_,?_⟩
   ·exact uR (X:=(O.mx (hpw (iI ms))).toNat) h3 (by unfold BB;(clear h2 h3 h5 m2;omega))
   ·generalize iI ms=hs;cases hs with
    | nil=>show rs.lb+2<=3*(gj rs+1);(clear h2 h3 m2 m3;omega)
    | cons p hs=>show 2<=3*(gj rs+1);(clear h2 h3 h5 m2 m3;omega)
theorem jZ {B:Int}:∀rs:aQ Str,gU B rs->rs.nn/\rs.hb<=7*gj rs/\rs.mb<=4*gj rs*BB^rs.dt/\rs.lb<=3*gj rs
 | .nil,_=>⟨trivial,zero_le _,zero_le _,zero_le _⟩
 | .cons r rs,h=>by
   obtain⟨a1,a2,a3,a4⟩:=CJ r h.1;obtain⟨b1,b2,b3,b4⟩:=jZ rs h.2;refine⟨⟨a1,b1⟩,by show rs.hb+r.hb<=7*(gj rs+tz r);(clear a3 a4 b3 b4;omega),?_,by show rs.lb+r.lb<=3*(gj rs+tz r);(clear a2 a3 b2 b3;omega)⟩;show rs.mb+r.mb<=4*(gj rs+tz r)*BB^ (max r.dt rs.dt);have p1:BB^r.dt<=BB^ (max r.dt rs.dt):=Nat.pow_le_pow_right (by unfold BB;(clear a2 a3 a4 b2 b3 b4;omega)) (le_max_left _ _);have p2:BB^rs.dt<=BB^ (max r.dt rs.dt):=Nat.pow_le_pow_right (by unfold BB;(clear a2 a3 a4 b2 b3 b4 p1;omega)) (le_max_right _ _);have q1:=Nat.mul_le_mul_left (4*tz r) p1;have q2:=Nat.mul_le_mul_left (4*gj rs) p2;rw[Nat.mul_add,Nat.add_mul]
   (clear a2 a4 b2 b4 p1 p2;omega)
end
theorem jc {B:Int} {rs:aQ Str} (h:gU B rs) (h1:gj rs<=32) (h2:rs.dt<=3):Bd 96 rs/\kj rs:=by
 obtain⟨a1,a2,a3,a4⟩:=jZ rs h;have p:=Nat.pow_le_pow_right (n:=BB) (by unfold BB;(clear h1 h2 a2 a3 a4;omega)) h2;have q:=Nat.mul_le_mul (show 4*gj rs<=128 by (clear h2 a2 a3 a4 p;omega)) p;have e:128*BB^3<=10^100:=by unfold BB;decide+kernel
 have e2:(10:Nat)^100<=10^300:=by decide+kernel
 have hm:=le_trans a3 (le_trans q e);exact⟨⟨by (clear h2 a3 a4 p q e e2 hm;omega),hm,by (clear h2 a2 a3 p q e e2 hm;omega)⟩,⟨a1,by (clear h2 a3 a4 p q e e2 hm;omega),Int.ofNat_le.mpr (le_trans hm e2)⟩⟩
theorem nQ (o:O):∀l:List O,(insO o l).length<=l.length+1
 | []=>le_refl _
 | x::l=>by
   have:=nQ o l;unfold insO;split
   ·simp only[length_cons];(clear this;lia)
   ·split
    ·simp only[length_cons];(clear this;lia)
    ·simp only[length_cons];lia
theorem lj:∀l:List O,(iH l).length<=l.length
 | []=>le_refl _
 | x::l=>by
   have:=lj l;have h:=nQ x (iH l);show(insO x (iH l)).length<=l.length+1;lia
theorem rC (ms:List (O×Str)) (o:O):(ck ms o).length<=ms.length:=by
 unfold ck;rw[length_map];exact List.length_filter_le _ _
theorem AH {ms:List (O×Str)} (h:CG ms):Mk 96 (iI ms):=by
 obtain⟨m1,m2,m3⟩:=uQ h;have hl:(iI ms).length<=ms.length:=by
  unfold iI;have:=lj (ms.map (·.1));rw[length_map] at this ⊢;exact this
 have h5:=h.1;refine⟨m1,⟨by (clear m2 m3;lia),λp hp=>?_,?_⟩,by (clear m2 m3;lia),by lia,Int.le_trans m3 (by decide+kernel),λp hp=>?_⟩
 ·obtain⟨o,_,rfl⟩:=mem_map.mp hp;have:=rC ms o;show(ck ms o).length<=100
  (clear m2 m3 hl;lia)
 ·unfold iI;rw[map_map];show dy (List.map (λo=>o) (iH _));rw[List.map_id'];exact gh _
 ·obtain⟨m,hm,e⟩:=mem_map.mp (pV hp);rw[←e];exact Int.le_trans (h.2 m hm).mx (by decide+kernel)
mutual
theorem uS {B:Int}:∀r:Row,rF B r->tz r<=32->r.dt<=3->gr True 96 B r
 | .set _ _,h,_,_=>h
 | .copy _ _,_,_,_=>trivial
 | .add _ _,_,_,_=>trivial
 | .less _,_,_,_=>trivial
 | .times _ rs,h,h1,h2=>by
   have h1:gj rs+1<=32:=h1;have h2:rs.dt+1<=3:=h2;exact⟨gW rs h.1 (by (clear h2;lia)) (by (clear h1;lia)),(jc h.1 (by (clear h2;lia)) (by (clear h1;lia))).1⟩
 | .whl _ hs rs,h,h1,h2=>by
   have h1:gj rs+1<=32:=h1;have h2:rs.dt+1<=3:=h2;refine⟨⟨gW rs h.1 (by (clear h2;lia)) (by (clear h1;lia)),(jc h.1 (by (clear h2;lia)) (by (clear h1;lia))).1⟩,?_⟩;obtain⟨_,_,_,ms,hm,rfl⟩:=h;exact AH hm
theorem gW {B:Int}:∀rs:aQ Str,gU B rs->gj rs<=32->rs.dt<=3->uJ True 96 B rs
 | .nil,_,_,_=>trivial
 | .cons r rs,h,h1,h2=>by
   have h1:gj rs+tz r<=32:=h1;have h2:=max_le.mp (show max r.dt rs.dt<=3 from h2);exact⟨uS r h.1 (by (clear h2;lia)) h2.1,gW rs h.2 (by (clear h2;lia)) h2.2⟩
end
noncomputable def xz (d:Nat):bP:=λws G q _=>∃(x:W) (r:Row) (B:Int),ws=[x]/\Th G x r/\rF B r/\r.dt<d/\q (.int (r.dt:Nat)) G
theorem uT {rs:List Row} {q:Int->Prop} (hq:q ((aQ.of rs).dt:Nat)):∀m:Int,m∈(rs.map λr=>((r.dt:Nat):Int))->(∀x,x∈(rs.map λr=>((r.dt:Nat):Int))->x<=m)->q m:=by
 intro m hm hx;obtain⟨r,hr,rfl⟩:=mem_map.mp hm;have h1:(aQ.of rs).dt<=r.dt:=pB λx hx'=>Int.ofNat_le.mp (hx _ (mem_map.mpr ⟨x,hx',rfl⟩));have h2:r.dt<=(aQ.of rs).dt:=jY (le_refl _) r (by rw[aQ.L_of];exact hr);rw[show(r.dt:Nat)=(aQ.of rs).dt from Nat.le_antisymm h2 h1];exact hq
theorem Th.bodyq {G:Gp} {B:Int} {x:W} {r:Row} (h:Th G x r) (hs:rF B r):(∃(k b o:Str) (n:Int),x=.tup [.str k,.str b,.str o,.int n]/\(k="set"∨k="copy"∨k="add"∨k="less")/\r.dt=0)∨∃(k b:Str) (l:Addr) (y:List W) (ps:List (W×Row)),x=.tup (.str k:: .str b:: .ref l::y)/\(k="times"∨k="while")/\G l=some (.lst (lh ps))/\cu G ps/\gU B (aQ.of (dE ps))/\ps.length<=4/\ps≠[]/\r.dt=(aQ.of (dE ps)).dt+1:=by
 cases h with
 | set=>exact .inl ⟨_,_,_,_,rfl,.inl rfl,rfl⟩
 | copy=>exact .inl ⟨_,_,_,_,rfl,.inr (.inl rfl),rfl⟩
 | add=>exact .inl ⟨_,_,_,_,rfl,.inr (.inr (.inl rfl)),rfl⟩
 | less=>exact .inl ⟨_,_,_,_,rfl,.inr (.inr (.inr rfl)),rfl⟩
 | times h hs'=>
   obtain⟨ps,rfl,hL,hT⟩:=hs'.psq;rename_i b l rs;have e:aQ.of (dE ps)=rs:=by rw[←hL,aQ.of_L]
   have h1:=hs.2.1;have h2:=hs.2.2;rw[hL] at h1 h2;rw[length_map] at h1;exact .inr ⟨_,_,_,_,ps,rfl,.inl rfl,h,hT,by rw[e];exact hs.1,h1,λz=>h2 (by rw[z];rfl),by rw[e];rfl⟩
 | whl h hm ok hs'=>
   obtain⟨ps,rfl,hL,hT⟩:=hs'.psq;rename_i b l m ms rs;have e:aQ.of (dE ps)=rs:=by rw[←hL,aQ.of_L]
   have h1:=hs.2.1;have h2:=hs.2.2.1;rw[hL] at h1 h2;rw[length_map] at h1;exact .inr ⟨_,_,_,_,ps,rfl,.inr rfl,h,hT,by rw[e];exact hs.1,h1,λz=>h2 (by rw[z];rfl),by rw[e];rfl⟩
theorem E2 {d k:Nat} (F:cq K "_law_deep" "_law_deep" (aU 44) f fd) (F0:Fx P w K mg base "_law_deep" ["_law_thing"] k (xz d)) (mm:mg "max"=none):bW P w K mg base (k+1) f fd ["_law_thing"] (xz (d+1)):=by
 refine d3 F (N:=["_law_thing"]) (by walk_at "s") (by walk_at "l") λ_ _ _ _ _ _ nd hr=>?_;apply aI
 ·exact(ae (bq (fM (eB (aH (dQ hr) (aA aB (aa 0) ag) ca) (cX (aH (dQ hr) (aA aB (aa 0) ag) ca)))) (ae (av ag) ah) ah) (ae (av (aE bA ag (bb (oA rfl) rfl mm sK (ac (fE (dW (by first | rfl | decide+kernel)) rfl (cE (aA aB (aa 0) ag)) (λ_ _ _ _=>(cj 1 (by first | assumption | decide+kernel | rfl) rfl (.inl rfl))) (λ_ _ _ _=>cZ) (λ_ _ _ _=>(ax F0 (aw.mono hr (by lia)) rfl (ac (aa 1) af)))) af)))) ah))
 ·rintro ws G q e ⟨x,r,B,rfl,hx,hs,hd,hq⟩;rcases hx.bodyq hs with⟨k,b,o,n,rfl,hk,hdt⟩ | ⟨k,b,l,y,ps,rfl,hk,h,hT,hst,hl4,hne,hdt⟩
  ·rw[hdt] at hq;rcases hk with rfl | rfl | rfl | rfl
   ·walk_at "R";exact aF.done hq
   ·walk_at "R";exact aF.done hq
   ·walk_at "R";exact aF.done hq
   ·walk_at "R";exact aF.done hq
  ·have hd':(aQ.of (dE ps)).dt<d:=by (clear hl4;lia)
   refine aT λU hU=>?_;have key:U { nx:=λx G1=>∃G0,aF G0 G1/\q W.non G0,rt:=λw G1=>∃G0,aF G0 G1/\q w G0 } [some (.tup (.str k:: .str b:: .ref l::y))] G:=by
    subst hU;walk_at "R";refine⟨_,h,eQ (i:=1) (λp:W×Row=>p.1) (λp=> .int ((p.2.dt:Nat):Int)) (τ0:=[none,none,none]) h (λp hp k hk=>?_) (by show 0+_<=_;(clear hd hdt hd';lia)) (λ_=>rfl) λp hp=>?_⟩
    ·walk_at "R";have hm:p.2∈dE ps:=mem_map.mpr ⟨p,hp,rfl⟩;exact⟨p.1,p.2,B,rfl,hT p hp,jX hst _ (by rw[aQ.L_of];exact hm),Nat.lt_of_le_of_lt (jY (le_refl _) _ (by rw[aQ.L_of];exact hm)) hd',hk⟩
    ·refine⟨(dE ps).map λr=>((r.dt:Nat):Int),?_,λz=>hne (by simpa using z),?_⟩
     ·rw[ak,nil_append];simp only[map_map]
      rfl
     ·refine uT (rs:=dE ps) (q:=λm=>∃G0,aF G0 (aL G p (GO.lst ([]++List.map (λp=>W.int ((p.2.dt:Nat):Int)) ps)))/\q (W.int (1+m)) G0) ⟨G,aF.new hp,?_⟩;rw[hdt] at hq;rw[show(1:Int)+(((aQ.of (dE ps)).dt:Nat):Int)=(((aQ.of (dE ps)).dt+1:Nat):Int) by (clear hd hl4 hdt hd';lia)];exact hq
   rcases hk with rfl | rfl
   ·walk_at "R";exact key
   ·walk_at "R";exact key
theorem CK (T:Txt K mg):∀d:Nat,Fx P w K mg base "_law_deep" ["_law_thing"] d (xz d)
 | 0=>T.d__law_deep.fx λf fd F=>bW.none λws G q e ⟨t,_,_,_,_,_,h,_⟩=>by lia
 | d+1=>T.d__law_deep.fx λf fd F=>E2 F (CK T d) T.z_max
theorem qw (c:Int) (b o:Str) {n:Int} (h0:0<=n) (h1:n<=10^50):∃(k:Str) (r:Row),fL [W.str "set",.str "copy",.str "add",.str "less"] (c%4)=some (.str k)/\(∀G',Th G' (.tup [.str k,.str b,.str o,.int n]) r)/\rF (10^50) r/\r.dt=0/\tz r=1:=by
 have h:c%4=0∨c%4=1∨c%4=2∨c%4=3:=by (clear h0 h1;lia)
 rcases h with h | h | h | h<;> rw[h]
 ·exact⟨_,.set b n,rfl,λ_=> .set,⟨h0,h1⟩,rfl,rfl⟩
 ·exact⟨_,.copy b o,rfl,λ_=> .copy,trivial,rfl,rfl⟩
 ·exact⟨_,.add b o,rfl,λ_=> .add,trivial,rfl,rfl⟩
 ·exact⟨_,.less b,rfl,λ_=> .less,trivial,rfl,rfl⟩
theorem uU (c:Int):∃k:Str,fL [W.str "set",.str "copy",.str "add",.str "less"] (c%4)=some (.str k):=by
 obtain⟨k,_,h,_⟩:=qw c "" "" (n:=0) (by decide) (by decide+kernel);exact⟨k,h⟩
noncomputable def eX (ps:List (W×Row)):Nat:=((dE ps).map tz).sum
noncomputable def CL (ps:List (W×Row)):Prop:=∀x,x∈ps->rF (10^50) x.2/\x.2.dt<=3
theorem uV (ps:List (W×Row)) (m:Nat):eX (ps.take m)+eX (ps.drop m)=eX ps:=by
 unfold eX dE;rw[←sum_append,←map_append,←map_append,List.take_append_drop]
theorem eT (ps:List (W×Row)):gj (aQ.of (dE ps))=eX ps:=qt _
noncomputable def CM:bP:=λws G q _=>∃(pc pn:Addr) (ns:List Int) (names:List Str),ws=[.ref pc,.ref pn]/\G pc=some (.lst (ns.map W.int))/\G pn=some (.lst (vd names))/\names.length=4/\ns.length<=16/\
 ∀(p:Addr) (ps:List (W×Row)) (G':Gp),aF G G'->G p=none->G' p=some (.lst (lh ps))->cu G' ps->CL ps->ps.length<=16->eX ps<=32->q (.ref p) G'
theorem E3 (F:cq K "_law_rows" "_law_rows" (aU 45) f fd) (F1:Fx P w K mg base "_law_deep" ["_law_thing"] 5 (xz 5)) (F2:Fx P w K mg base "_law_marks" ["_law_cell","_law_box","_law_names"] 6 CI) (F3:Fx P w K mg base "_law_amount" ["_law_cell"] 1 AE) (ml:mg "len"=none) (mm:mg "max"=none):bW P w K mg base 7 f fd ["_law_cells","_law_names"] CM:=by
 refine d3 F (N:=["_law_cells","_law_names","_law_rows_here","_law_cell","_law_box","_law_many","_law_body","_law_inside","_law_kind"]) (by walk_at "s") (by walk_at "l") λ_ _ _ _ _ _ nd hr=>?_;apply aI
 ·exact(ae (aY 2 nd rfl (.inl rfl) (bC af)) (ae (dU PySem.PassesOwn.never rfl (cE (aa 0)) (cm 3 nd rfl (.inl rfl)) (ae (aY 4 nd rfl (.inl rfl) (aA aB (aa 1) (aE cf (aE bY (aa 3) ag) ag))) (ae (aY 5 nd rfl (.inl rfl) (aE bA ag (aE cf (aE bY (aa 3) ag) ag))) (ae (aY 6 nd rfl (.inl rfl) (bZ (aa 2) cY (cB (aa 5)))) (ae (aY 7 nd rfl (.inl rfl) (ol (dS lA (bb bU rfl ml PySem.boot_len (ac (aa 6) af)) ag) (oj (dS (iD hr) (bb (oA rfl) rfl mm sK (ac (fE (dW (by first | rfl | decide+kernel)) rfl (cE (aa 6)) (λ_ _ _ _=>(cj 1 (by first | assumption | decide+kernel | rfl) rfl (.inl rfl))) (λ_ _ _ _=>cZ) (λ_ _ _ _=>(ax F1 (aw.mono hr (by lia)) rfl (ac (aa 1) af)))) af)) ag)))) (ae (bq (fM (eB (aH (bL hr) (aE cf (aa 3) ag) ag) (cX (cG (aa 7))))) (ae (aY 2 nd rfl (.inl rfl) (aE bA (bC (ac (aW (ac ca (ac (aa 4) (ac (aa 6) af)))) af)) (bZ (aa 2) (cB (aa 5)) cY))) ah) (ae (bq (fM (eB (aH (bL hr) (aE cf (aa 3) ag) ag) (cX (cG (aa 7))))) (ae (bq (aH (bL hr) (aE cf (aE bY (aa 3) ag) ag) ag) (ae (aY 6 nd rfl (.inl rfl) (aE bA (bC (ac (aW (ac ca (ac (aa 4) (ac (aa 4) (ac ag af))))) af)) (aa 6))) ah) ah) (ae (aY 2 nd rfl (.inl rfl) (aE bA (bC (ac (aW (ac ca (ac (aa 4) (ac (aa 6) (ac (ax F2 (aw.mono hr (by lia)) rfl (ac (aE bY (aa 3) ag) (ac (aa 4) (ac (aa 1) af)))) af))))) af)) (bZ (aa 2) (cB (aa 5)) cY))) ah)) (ae (aY 8 nd rfl (.inl rfl) (aA aB (bC (ac ca (ac ca (ac ca (ac ca af))))) (aE cf (aE bY (aa 3) ag) ag))) (ae (aY 2 nd rfl (.inl rfl) (aE bA (bC (ac (aW (ac (aa 8) (ac (aa 4) (ac (aA aB (aa 1) (aE cf (aE bY (aa 3) ag) ag)) (ac (ax F3 (aw.mono hr (by lia)) rfl (ac (aE bY (aa 3) ag) af)) af))))) af)) (aa 2))) ah))) ah)) ah)))))) (ae (av (aa 2)) ah)))
 ·rintro ws G q e ⟨pc,pn,ns,names,rfl,hc,hn,hn4,hl,hq⟩;have hlen:(vd names).length=names.length:=length_map ..;walk_at "a0";intro p hp;have le1:=aF.new (g:=GO.lst []) hp;have g1:=ak (G:=G) (a:=p) (g:=GO.lst []);generalize aL G p (.lst [])=G1 at le1 g1 ⊢;walk_at "a";refine⟨_,le1 _ _ hc,cJ (λws τ G'=>∃(todo:List Int) (ps:List (W×Row)) (p:Addr) (t3 t4 t5 t6 t7 t8:Option W),ws=todo.map W.int/\ps.length+todo.length<=16/\eX ps+2*todo.length<=32/\τ=[some (.ref pc),some (.ref pn),some (.ref p),t3,t4,t5,t6,t7,t8]/\aF G G'/\G p=none/\G' p=some (.lst (lh ps))/\cu G' ps/\CL ps) ?_ ?_ _ _ _ ⟨ns,[],p,none,none,none,none,none,none,rfl,by simpa using hl,by show 0+_<=_;(clear hn4 hlen;lia),rfl,le1,hp,g1,(λ_ h=>(nomatch h)),(λ_ h=>(nomatch h))⟩⟩
  ·rintro τ G' ⟨todo,ps,p,t3,t4,t5,t6,t7,t8,hw,hn,hz,rfl,le,fp,g,hT,hS⟩;refine⟨le _ _ hc,?_⟩;subst hU;walk_at "R";exact aF.done (hq p ps G' le fp g hT hS (by (clear hn4 hl hlen hz;lia)) (by (clear hn4 hl hlen;lia)))
  ·rintro w1 ws τ G' k ⟨todo,ps,p,t3,t4,t5,t6,t7,t8,hw,hnl,hz,rfl,le,fp,g,hT,hS⟩ hk;cases todo with
   | nil=>cases hw
   | cons c todo=>
     cases hw;refine⟨le _ _ hc,?_⟩;rw[length_cons] at hnl hz;have gn:=le _ _ hn;refine aT λU1 hU1=>?_;walk_at "R";have bm:=jF (i:=c/12) (j:=4) (by (clear hn4 hl hlen hnl hz;lia));obtain⟨bx,hbx,_⟩:=lT (L:=names) (i:=c/12%4) bm.1 (by (clear hl hlen hnl hz;lia));refine⟨_,_,gn,hbx,?_⟩;walk_at "b";obtain⟨mn,hmn,mn1,mn3⟩:∃mn:Nat,1+c/4%3=(mn:Int)/\1<=mn/\mn<=3:=by
      have:=jF (i:=c/4) (j:=3) (by (clear hn4 hl hlen hnl hz bm;lia));exact⟨(1+c/4%3).toNat,by (clear hn4 hl hlen hnl hz bm;lia),by (clear hn4 hl hlen hnl hz bm;lia),by (clear hn4 hl hlen hnl hz bm;lia)⟩
     rw[hmn];walk_at "b";refine⟨_,g,λpb hpb=>?_⟩;rw[tQ,←List.map_take];have le2:=aF.new (g:=GO.lst (lh (ps.take mn))) hpb;have g2:=ak (G:=G') (a:=pb) (g:=GO.lst (lh (ps.take mn)));have fpb:=bJ le hpb;have hT2:=hT.mono (aF.ls le2);have le3:=le.trans le2;have g2p:=le2 _ _ g;generalize aL G' pb (GO.lst (lh (ps.take mn)))=G2 at le2 g2 hT2 le3 g2p ⊢;clear le2;subst hU1;refine aT λU1 hU1=>?_;have fin:∀(b:Bool) (G8:Gp),aF G2 G8->(b=true->(aQ.of (dE (ps.take mn))).dt<3/\ps.take mn≠[])->U1 { nx:=k,rt:=λw G1=>∃G0,aF G0 G1/\q w G0,bk:=U { nx:=λx G1=>∃G0,aF G0 G1/\q W.non G0,rt:=λw G1=>∃G0,aF G0 G1/\q w G0 },ct:=k } [some (.ref pc),some (.ref pn),some (.ref p),some (.int c),some (.str bx),some (.int (mn:Int)),some (.ref pb),some (.bl b),t8] G8:=λb G8 le8 hb=>by
      have le9:=le3.trans le8;have g8:=le8 _ _ g2;have g8p:=le8 _ _ g2p;have hT8:=hT2.mono (aF.ls le8);have gn8:=le9 _ _ hn;clear le3 le8 g2 g2p hT2 hq hp hU;subst hU1;refine aT λU2 hU2=>?_;refine Fq λTT VV DD hTT hVV hDD=>?_;have hs3:(ps.take mn).length<=3:=by rw[length_take];(clear hn4 hl hlen hz bm mn1 mn3;lia)
      have hcut:=uV ps mn;have hst:gU (10^50) (aQ.of (dE (ps.take mn))):=jb λr hr=>by
       obtain⟨z,hz,rfl⟩:=mem_map.mp hr;exact(hS z (mem_of_mem_take hz)).1
      have hT3:∀G',aF G8 G'->nP G' (lh (ps.take mn)) (aQ.of (dE (ps.take mn))):=λG' l=>cu.ths λz hz=>(hT8 z (mem_of_mem_take hz)).mono (aF.ls l);have uR:∀(x:W) (r:Row) (qs:List (W×Row)) (p':Addr) (G':Gp) (t6 t7 t8:Option W),aF G8 G'->G p'=none->G' p'=some (.lst (x::lh qs))->Th G' x r->rF (10^50) r->r.dt<=3->(∀y,y∈qs->y∈ps)->qs.length<=ps.length->tz r+eX qs<=eX ps+2->k [some (.ref pc),some (.ref pn),some (.ref p'),some (.int c),some (.str bx),some (.int (mn:Int)),t6,t7,t8] G':=λx r qs p' G' t6 t7 t8 l f e h1 h2 h3 h4 h5 h6=>by
       refine hk _ _ ⟨todo,(x,r)::qs,p',_,_,_,_,_,_,rfl,by rw[length_cons];(clear hn4 hl hlen hz bm hmn mn1 mn3 hs3 hcut h3 h6;lia),?_,rfl,le9.trans l,f,e,λy hy=>?_,λy hy=>?_⟩
       ·show tz r+eX qs+_<=32
        (clear hn4 hl hlen hnl bm hmn mn1 mn3 hs3 h3 h5;lia)
       ·rcases mem_cons.mp hy with rfl | hy
        ·exact h1
        ·exact(hT8 y (h4 y hy)).mono (aF.ls l)
       ·rcases mem_cons.mp hy with rfl | hy
        ·exact⟨h2,h3⟩
        ·exact hS y (h4 y hy)
      have hcat:∀(x:W) (r:Row) (G1:Gp) (t6 t7 t8:Option W),aF G8 G1->(∀G',aF G1 G'->Th G' x r)->rF (10^50) r->r.dt<=3->tz r<=eX (ps.take mn)+2->∀p1,G1 p1=none->∃xs,aL G1 p1 (.lst [x]) p=some (.lst xs)/\∀p2,aL G1 p1 (.lst [x]) p2=none->∃xs1 ys,aL (aL G1 p1 (.lst [x])) p2 (.lst (cQ xs (some (mn:Int)) none)) p1=some (.lst xs1)/\aL (aL G1 p1 (.lst [x])) p2 (.lst (cQ xs (some (mn:Int)) none)) p2=some (.lst ys)/\xs1.length+ys.length<=100000/\∀p3,aL (aL G1 p1 (.lst [x])) p2 (.lst (cQ xs (some (mn:Int)) none)) p3=none->k [some (.ref pc),some (.ref pn),some (.ref p3),some (.int c),some (.str bx),some (.int (mn:Int)),t6,t7,t8] (aL (aL (aL G1 p1 (.lst [x])) p2 (.lst (cQ xs (some (mn:Int)) none))) p3 (.lst (xs1++ys))):=λx r G1 t6 t7 t8 l h1 h2 h3 h4 p1 hp1=>by
       have l1:=aF.new (g:=GO.lst [x]) hp1;refine⟨_,l1 _ _ (l _ _ g8p),λp2 hp2=>?_⟩;rw[jD,←List.map_drop];have l2:=l1.trans (aF.new (g:=GO.lst (lh (ps.drop mn))) hp2);refine⟨_,_,aG ak hp2,ak,by simp only[length_map,length_cons,length_nil,length_drop];(clear hn4 hl hlen hz bm mn1 mn3 hs3 hcut h3 h4;lia),λp3 hp3=>?_⟩;have l3:=l2.trans (aF.new (g:=GO.lst ([x]++lh (ps.drop mn))) hp3);exact uR x r (ps.drop mn) p3 _ t6 t7 t8 (l.trans l3) (bJ (le9.trans (l.trans l2)) hp3) ak (h1 _ l3) h2 h3 (λy hy=>List.mem_of_mem_drop hy) (by rw[length_drop];(clear hn4 hl hlen hnl hz bm mn1 mn3 hs3 hcut h3 h4;lia)) (by (clear hn4 hl hlen hnl hz bm hmn mn1 mn3 hs3 h3;lia))
      have hV:VV DD [some (.ref pc),some (.ref pn),some (.ref p),some (.int c),some (.str bx),some (.int (mn:Int)),some (.ref pb),some (.bl b),t8] G8:=by
       subst hVV;refine Fq λTT2 VV2 DD2 hTT2 hVV2 hDD2=>?_;have hP:VV2 DD2 [some (.ref pc),some (.ref pn),some (.ref p),some (.int c),some (.str bx),some (.int (mn:Int)),some (.ref pb),some (.bl b),t8] G8:=by
        subst hVV2 hDD2 hDD hU2;refine aT λU3 hU3=>?_;walk_at "R";intro p1 hp1;obtain⟨kk,hkk⟩:=uU (c/4);refine⟨_,_,ak,hkk,?_⟩;have l0:=aF.new (g:=GO.lst [W.str "set",.str "copy",.str "add",.str "less"]) hp1;generalize aL G8 p1 (GO.lst [W.str "set",.str "copy",.str "add",.str "less"])=G9 at l0 ⊢;subst hU3;walk_at "R";have om:=jF (i:=c/48) (j:=4) (by (clear hn4 hl hlen hnl hz bm hmn mn1 mn3 hs3 hcut;lia));obtain⟨o,ho,_⟩:=lT (L:=names) (i:=c/48%4) om.1 (by (clear hl hlen hnl hz bm hmn mn1 mn3 hs3 hcut;lia));refine⟨_,_,l0 _ _ gn8,ho,_,rfl,λv h0 h1=>λp2 hp2=>?_⟩;obtain⟨k',r,e1,e2,e3,e4,e5⟩:=qw (c/4) bx o h0 h1;rw[hkk] at e1;cases e1;have l1:=l0.trans (aF.new (g:=GO.lst [W.tup [W.str kk,.str bx,.str o,.int v]]) hp2);refine⟨_,_,ak,l1 _ _ g8p,by simp only[length_map,length_cons,length_nil];(clear hn4 hl hlen hz bm hmn mn1 mn3 hs3 hcut om h0 h1 e4 e5;lia),λp3 hp3=>?_⟩;have l2:=l1.trans (aF.new (g:=GO.lst ([W.tup [W.str kk,.str bx,.str o,.int v]]++lh ps)) hp3);exact uR _ r ps p3 _ _ _ _ l2 (bJ (le9.trans l1) hp3) ak (e2 _) e3 (by rw[e4];decide) (λy hy=>hy) (le_refl _) (by (clear hn4 hl hlen hnl hz bm hmn mn1 mn3 hs3 hcut om h0 h1 e4;lia))
       have hW:(aQ.of (dE (ps.take mn))).dt<3->ps.take mn≠[]->TT2 DD2 [some (.ref pc),some (.ref pn),some (.ref p),some (.int c),some (.str bx),some (.int (mn:Int)),some (.ref pb),some (.bl b),t8] G8:=λhdt hne=>by
        subst hTT2 hDD2 hDD hU2;refine aT λU3 hU3=>?_;have go:∀(pb':Addr) (G9:Gp) (qs:List (W×Row)),aF G8 G9->G9 pb'=some (.lst (lh qs))->cu G9 qs->gU (10^50) (aQ.of (dE qs))->qs.length<=4->qs≠[]->(aQ.of (dE qs)).dt<3->eX qs<=eX (ps.take mn)+1->U3 { nx:=k,rt:=λw G1=>∃G0,aF G0 G1/\q w G0,bk:=U { nx:=λx G1=>∃G0,aF G0 G1/\q W.non G0,rt:=λw G1=>∃G0,aF G0 G1/\q w G0 },ct:=k } [some (.ref pc),some (.ref pn),some (.ref p),some (.int c),some (.str bx),some (.int (mn:Int)),some (.ref pb'),some (.bl b),t8] G9:=λpb' G9 qs l0 gq hTq hSq hl4 hne hdq hzq=>by
         subst hU3;walk_at "R";refine⟨_,bx,pn,names,rfl,l0 _ _ gn8,hn4,λpm G1 ms l1 fm gm hm=>?_⟩;refine hcat _ (.whl bx (iI ms) (aQ.of (dE qs))) G1 _ _ _ (l0.trans l1) (λG' l=> .whl (l _ _ (l1 _ _ gq)) (l _ _ gm) hm (cu.ths λz hz=>(hTq z hz).mono (aF.ls (l1.trans l)))) ⟨hSq,by rw[aQ.L_of,length_map];exact hl4,by rw[aQ.L_of];exact λz=>hne (by simpa using z),ms,hm,rfl⟩ (by show(aQ.of (dE qs)).dt+1<=3;assumption) (by show gj _+1<=_;rw[eT];(clear hn4 hl hlen hnl hz bm hmn mn1 mn3 hs3 hcut hdt hl4 hdq;lia))
        walk_at "R";refine gP (λ_=>λp1 hp1=>?_) λ_=>go pb G8 (ps.take mn) (aF.refl _) g8 (λz hz=>hT8 z (mem_of_mem_take hz)) hst (by lia) hne hdt (by (clear hn4 hl hlen hnl hz bm hmn mn1 mn3 hs3 hcut hdt;lia));have l1:=aF.new (g:=GO.lst [W.tup [W.str "less",.str bx,.str bx,.int 0]]) hp1;refine⟨_,_,ak,l1 _ _ g8,by simp only[length_map,length_cons,length_nil];(clear hn4 hl hlen hnl hz bm hmn mn1 mn3 hcut hdt;lia),λp2 hp2=>?_⟩;have l2:=l1.trans (aF.new (g:=GO.lst ([W.tup [W.str "less",.str bx,.str bx,.int 0]]++lh (ps.take mn))) hp2);refine go p2 _ ((W.tup [.str "less",.str bx,.str bx,.int 0],.less bx)::ps.take mn) l2 ak (λz hz=>?_) ⟨trivial,hst⟩ (by rw[length_cons];(clear hn4 hl hlen hnl hz bm hmn mn1 mn3 hcut hdt;lia)) (λz=>nomatch z) ?_ ?_
        ·rcases mem_cons.mp hz with rfl | hz
         ·exact .less
         ·exact(hT8 z (mem_of_mem_take hz)).mono (aF.ls l2)
        ·show max 0 (aQ.of (dE (ps.take mn))).dt<3;assumption
        ·show 1+eX (ps.take mn)<=_
         (clear hn4 hl hlen hnl hz bm hmn mn1 mn3 hs3 hcut hdt;lia)
       walk_at "R";exact gP (λh1=>gP (λh2=>hW (hb h2).1 (hb h2).2) λ_=>hP) λ_=>hP
      have hM:(aQ.of (dE (ps.take mn))).dt<3->ps.take mn≠[]->TT DD [some (.ref pc),some (.ref pn),some (.ref p),some (.int c),some (.str bx),some (.int (mn:Int)),some (.ref pb),some (.bl b),t8] G8:=λhdt hne=>by
       subst hTT hDD hU2;walk_at "R";exact hcat _ (.times bx (aQ.of (dE (ps.take mn)))) G8 _ _ _ (aF.refl _) (λG' l=> .times (l _ _ g8) (hT3 _ l)) ⟨hst,by rw[aQ.L_of,length_map];lia,by rw[aQ.L_of];exact λz=>hne (by simpa using z)⟩ (by show(aQ.of (dE (ps.take mn))).dt+1<=3;assumption) (by show gj _+1<=_;rw[eT];(clear hn4 hl hlen hnl hz bm hmn mn1 mn3 hs3 hcut hdt;lia))
      walk_at "R";exact gP (λh1=>gP (λh2=>hM (hb h2).1 (hb h2).2) λ_=>hV) λ_=>hV
     walk_at "R";refine⟨_,.lst g2,?_⟩;refine gP (λh0=>?_) λ_=>fin false G2 (aF.refl _) (λz=>nomatch z);have hne:ps.take mn≠[]:=λz=>by rw[z] at h0;exact absurd h0 (by decide)
     refine⟨_,g2,eQ (i:=1) (λp:W×Row=>p.1) (λp=> .int ((p.2.dt:Nat):Int)) (τ0:=[none,none,none]) g2 (λp hp k hk=>?_) (by show 0+_<=_;rw[length_take];(clear hn4 hl hlen hz bm mn1 mn3 h0;lia)) (λ_=>rfl) λp7 hp7=>?_⟩
     ·walk_at "R";have hm:=mem_of_mem_take hp;have:=hS p hm;exact⟨p.1,p.2,_,rfl,hT2 p hm,this.1,by (clear hn4 hl hlen hnl hz bm hmn mn1 mn3 h0;lia),hk⟩
     ·refine⟨(dE (ps.take mn)).map λr=>((r.dt:Nat):Int),?_,λz=>hne (by simpa using z),?_⟩
      ·rw[ak,nil_append];simp only[map_map]
       rfl
      ·have le8:=aF.new (g:=GO.lst ([]++List.map (λp:W×Row=>W.int ((p.2.dt:Nat):Int)) (List.take mn ps))) hp7;generalize aL G2 p7 (GO.lst ([]++List.map (λp:W×Row=>W.int ((p.2.dt:Nat):Int)) (List.take mn ps)))=G8 at le8 ⊢;exact uT (rs:=dE (ps.take mn)) (q:=λm=>U1 { nx:=k,rt:=λw G1=>∃G0,aF G0 G1/\q w G0,bk:=U { nx:=λx G1=>∃G0,aF G0 G1/\q W.non G0,rt:=λw G1=>∃G0,aF G0 G1/\q w G0 },ct:=k } [some (.ref pc),some (.ref pn),some (.ref p),some (.int c),some (.str bx),some (.int (mn:Int)),some (.ref pb),some (.bl (decide (m<3))),t8] G8) (fin _ G8 le8 λh=>⟨by have:=of_decide_eq_true h;(clear hn4 hl hlen hnl hz bm hmn mn1 mn3 h0 h;lia),hne⟩)
noncomputable def uW (C:Cs) (d:Nat):bP:=λws G q _=>∃(x:W) (r:Row),ws=[x]/\Th G x r/\rF (10^50) r/\tz r<=32/\r.dt<=3/\r.dt<d/\∀(a:Addr) (G':Gp),aF G G'->G a=none->jS C G' a r->q (.ref a) G'
theorem yh {ps:List (W×Row)} {x:W×Row} (h:x∈ps):tz x.2<=eX ps:=by
 have:=uP (rs:=aQ.of (dE ps)) x.2 (by rw[aQ.L_of];exact mem_map.mpr ⟨x,h,rfl⟩);rw[eT] at this;exact this
theorem iw {C:Cs} {d:Nat} {G:Gp} {ps:List (W×Row)} {l:Addr} {Q:List W->Gp->Prop} {τ:cP} {n:Nat} (h:G l=some (.lst (lh ps))) (hT:cu G ps) (hS:CL ps) (ht:eX ps<=32) (hdd:∀y,y∈ps->y.2.dt<d) (hl:ps.length<=100) (hτ:∀x,τ.set 1 x=(none::none::List.replicate n none).set 1 x) (hQ:∀xs G',aF G G'->Rows C G' xs->cr xs=dE ps->Q (refs xs) G'):ci (λG=>G l=some (.lst (lh ps))) (cW 1) kC (gz (uW C d) [] (pE (dr 1) j8)) (lh ps) τ G [] Q:=by
 refine nj (i:=1) (τ0:=none::none::List.replicate n none) (λws acc G'=>∃(todo:List (W×Row)) (xs:List (Addr×Row)),ws=lh todo/\acc=refs xs/\dE ps=cr xs++dE todo/\(∀y,y∈todo->y∈ps)/\aF G G'/\Rows C G' xs) ?_ ?_ ⟨ps,[],rfl,rfl,rfl,λ_ h=>h,aF.refl _,(λ_ h=>(nomatch h))⟩ (by show 0+_<=_;rw[length_map];(clear ht;lia)) hτ
 ·rintro acc G5 ⟨todo,xs,hw,rfl,hts,hin,le5,hX⟩;have h0:todo=[]:=by simpa using hw.symm
  subst h0;have hts:dE ps=cr xs:=by rw[hts];exact append_nil _
  exact⟨le5 _ _ h,hQ xs G5 le5 hX hts.symm⟩
 ·rintro x ws acc G' k' ⟨todo,xs,hw,rfl,hts,hin,le,hX⟩ hkk;cases todo with
  | nil=>cases hw
  | cons u todo=>
    cases hw;refine⟨le _ _ h,?_⟩;have hxl:xs.length<=100:=by have:=congrArg List.length hts;simp only[length_map,length_append] at this;(clear ht;lia)
    have hu:=hin u mem_cons_self;have su:=hS u hu;have zu:=yh hu;walk_at "R";refine⟨u.1,u.2,rfl,(hT u hu).mono (aF.ls le),su.1,by (clear hl hxl su;lia),su.2,hdd u hu,λa G'' le2 fa ha=>hkk _ _ ⟨todo,xs++[(a,u.2)],rfl,by simp[refs],by rw[hts];simp,λy hy=>hin y (mem_cons_of_mem _ hy),le.trans le2,λx hx=>?_⟩ (by simp only[length_map];(clear ht hl su zu;lia))⟩;rcases mem_append.mp hx with hx | hx
    ·exact(hX x hx).mono (aF.ins le2)
    ·rw[mem_singleton.mp hx];exact ha
theorem uX {G:Gp} {ws:List W} {rs:aQ Str} {d:Nat} (hs:nP G ws rs) (h1:gU (10^50) rs) (h2:gj rs<=32) (h3:rs.dt<=3) (h4:rs.dt<d):∃ps,ws=lh ps/\cu G ps/\CL ps/\eX ps<=32/\(∀y,y∈ps->y.2.dt<d)/\kj rs/\rs.L=dE ps/\AM (Sk True) rs:=by
 obtain⟨ps,e,hL,hT⟩:=hs.psq;have er:aQ.of (dE ps)=rs:=by rw[←hL,aQ.of_L]
 have hm:∀y,y∈ps->y.2∈rs.L:=λy hy=>by rw[hL];exact mem_map.mpr ⟨y,hy,rfl⟩
 exact⟨ps,e,hT,λy hy=>⟨jX h1 _ (hm y hy),jY h3 _ (hm y hy)⟩,by rw[←eT,er];exact h2,λy hy=>Nat.lt_of_le_of_lt (jY (le_refl _) _ (hm y hy)) h4,(jc h1 h2 h3).2,hL,λr hr=>qm (fI (gW rs h1 h2 h3) r hr)⟩
theorem E4 {C:Cs} {d k:Nat} (F:cq K "_law_made" "_law_made" (aU 46) f fd) (F0:Fx P w K mg base "_law_made" ["_law_thing"] k (uW C d)) (N1:mT P w K mg base "Set" C.s ["self","box","amount"] 1 (iR C 0)) (N2:mT P w K mg base "Copy" C.c ["self","box","other"] 1 (iR C 1)) (N3:mT P w K mg base "Add" C.a ["self","box","other"] 1 (iR C 2)) (N4:mT P w K mg base "Less" C.l ["self","box"] 1 (iR C 3)) (N5:mT P w K mg base "Times" C.t ["self","box","rows"] 8 (Az C (Sk True))) (N6:mT P w K mg base "While" C.w ["self","box","marks","rows"] 8 (AA C (Sk True))) (hk9:9<=k):bW P w K mg base (k+1) f fd ["_law_thing"] (uW C (d+1)):=by
 refine d3 F (N:=["_law_thing","_law_inner"]) (by walk_at "s") (by walk_at "l") λ_ _ _ _ _ _ nd hr=>?_;apply aI
 ·refine' ae ?s1 (ae ?s2 (ae ?s3 (ae ?s4 (ae ?s5 (ae ?s6 ?s7)))))
  case s1=>exact(bq (aH (bL hr) (aA aB (aa 0) ag) ca) (ae (av (eL N1 (aw.mono hr (by lia)) rfl (ac (aA aB (aa 0) ag) (ac (aA aB (aa 0) ag) af)))) ah) ah)
  case s2=>exact(bq (aH (bL hr) (aA aB (aa 0) ag) ca) (ae (av (eL N2 (aw.mono hr (by lia)) rfl (ac (aA aB (aa 0) ag) (ac (aA aB (aa 0) ag) af)))) ah) ah)
  case s3=>exact(bq (aH (bL hr) (aA aB (aa 0) ag) ca) (ae (av (eL N3 (aw.mono hr (by lia)) rfl (ac (aA aB (aa 0) ag) (ac (aA aB (aa 0) ag) af)))) ah) ah)
  case s4=>exact(bq (aH (bL hr) (aA aB (aa 0) ag) ca) (ae (av (eL N4 (aw.mono hr (by lia)) rfl (ac (aA aB (aa 0) ag) af))) ah) ah)
  case s5=>
   refine' mP 1 (dW (by first | rfl | decide+kernel)) rfl (by assumption) rfl (by first | exact Or.inl rfl | exact Or.inr rfl) ?it (λ_ _ _ _=>?tg) (λ_ _ _ _=>?tt) (λ_ _ _ _=>?te)
   case it=>exact(cE (aA aB (aa 0) ag))
   case tg=>exact(cj 1 (by first | assumption | decide+kernel | rfl) rfl (.inl rfl))
   case tt=>exact cZ
   case te=>exact(ax F0 (aw.mono hr (by lia)) rfl (ac (aa 1) af))
  case s6=>exact(bq (aH (bL hr) (aA aB (aa 0) ag) ca) (ae (av (eL N5 (aw.mono hr hk9) rfl (ac (aA aB (aa 0) ag) (ac (aa 1) af)))) ah) ah)
  case s7=>exact(ae (av (eL N6 (aw.mono hr hk9) rfl (ac (aA aB (aa 0) ag) (ac (aA aB (aa 0) ag) (ac (aa 1) af))))) ah)
 ·rintro ws G q e ⟨x,r,rfl,hx,hs,hz,h3,hd,hq⟩;have fin:∀(r':Pl) (p:Addr) (G':Gp),r'.row=r->G p=none->G' p=some (.ins (C.at_ r'.kd) r'.fs)->(∀x,x≠p->G' x=aL G p (.ins (C.at_ r'.kd) []) x)->q (.ref p) G':=λr' p G' hk hp h1 h2=>by
   subst hk;refine hq p G' (λx g e=>?_) hp (r'.at h1);have xp:x≠p:=λz=>by rw[z,hp] at e;cases e
   rw[h2 x xp,aq xp];exact e
  cases hx with
  | set=>
    rename_i b o n;walk_at "R";exact⟨_,rfl,λp hp=>⟨p,.set b n,rfl,rfl,ak,λG' h1 h2=>⟨rfl,aF.done (fin (.set b n) p G' rfl hp h1 h2)⟩⟩⟩
  | copy=>
    rename_i b o n;walk_at "R";exact λp hp=>⟨p,.copy b o,rfl,rfl,ak,λG' h1 h2=>⟨rfl,aF.done (fin (.copy b o) p G' rfl hp h1 h2)⟩⟩
  | add=>
    rename_i b o n;walk_at "R";exact λp hp=>⟨p,.add b o,rfl,rfl,ak,λG' h1 h2=>⟨rfl,aF.done (fin (.add b o) p G' rfl hp h1 h2)⟩⟩
  | less=>
    rename_i b o n;walk_at "R";exact λp hp=>⟨p,.less b,rfl,rfl,ak,λG' h1 h2=>⟨rfl,aF.done (fin (.less b) p G' rfl hp h1 h2)⟩⟩
  | times h hs'=>
    rename_i b l ws rs;have z5:gj rs+1<=32:=hz;have d5:rs.dt+1<=3:=h3;have d6:rs.dt+1<d+1:=hd;obtain⟨ps,rfl,hT,hS,ht,hdd,z,hL,hkd⟩:=uX (d:=d) hs' hs.1 (by (clear hk9 hz h3 hd d5 d6;lia)) (by (clear hk9 hz h3 hd z5 d6;lia)) (by (clear hk9 hz h3 hd z5 d5;lia));have hl3:=hs.2.1;rw[hL,length_map] at hl3;have er:aQ.of (dE ps)=rs:=by rw[←hL,aQ.of_L]
    walk_at "a0";walk_at "a";walk_at "a";walk_at "a";walk_at "a";refine⟨_,h,iw (n:=1) h hT hS ht hdd (by lia) (λ_=>rfl) λxs G5 le5 hX hts pm _ hpm=>?_⟩;have gm6:=ak (G:=G5) (a:=pm) (g:=GO.lst (refs xs));have le6:=le5.trans (aF.new (g:=GO.lst (refs xs)) hpm);have hX6:Rows C (aL G5 pm (GO.lst (refs xs))) xs:=hX.mono (aF.ins (aF.new hpm));generalize aL G5 pm (GO.lst (refs xs))=G6 at gm6 le6 hX6 ⊢;have ers:aQ.of (xs.map (·.2))=rs:=by rw[show xs.map (·.2)=dE ps from hts];exact er
    walk_at "a";intro pt hpt;refine⟨pt,_,pm,xs,rfl,ak,aG gm6 hpt,hX6.mono (aF.ins (aF.new hpt)),by rw[ers];exact z,by rw[ers];exact hkd,λG7 g7 k7=>⟨rfl,?_⟩⟩;have le7:aF G6 G7:=λx g e=>(k7 x (λz=>by rw[z,hpt] at e;cases e)).trans (aG e hpt);have hA:=(hX6.mono (aF.ins le7)).ats;rw[ers] at g7 hA;exact aF.done (hq pt G7 (le6.trans le7) (bJ le6 hpt) (.times g7 hA))
  | whl h hm ok hs'=>
    rename_i b l m ms ws rs;have z5:gj rs+1<=32:=hz;have d5:rs.dt+1<=3:=h3;have d6:rs.dt+1<d+1:=hd;obtain⟨ps,rfl,hT,hS,ht,hdd,z,hL,hkd⟩:=uX (d:=d) hs' hs.1 (by (clear hk9 hz h3 hd d5 d6;lia)) (by (clear hk9 hz h3 hd z5 d6;lia)) (by (clear hk9 hz h3 hd z5 d5;lia));have hl3:=hs.2.1;rw[hL,length_map] at hl3;have er:aQ.of (dE ps)=rs:=by rw[←hL,aQ.of_L]
    walk_at "a0";walk_at "a";walk_at "a";walk_at "a";walk_at "a";refine⟨_,h,iw (n:=1) h hT hS ht hdd (by lia) (λ_=>rfl) λxs G5 le5 hX hts pm _ hpm=>?_⟩;have gm6:=ak (G:=G5) (a:=pm) (g:=GO.lst (refs xs));have le6:=le5.trans (aF.new (g:=GO.lst (refs xs)) hpm);have hX6:Rows C (aL G5 pm (GO.lst (refs xs))) xs:=hX.mono (aF.ins (aF.new hpm));generalize aL G5 pm (GO.lst (refs xs))=G6 at gm6 le6 hX6 ⊢;have ers:aQ.of (xs.map (·.2))=rs:=by rw[show xs.map (·.2)=dE ps from hts];exact er
    walk_at "a";subst hU;walk_at "R";refine⟨_,rfl,λpt hpt=>?_⟩;refine⟨pt,_,m,pm,ms,xs,rfl,ak,aG (le6 _ _ hm) hpt,ok.1,λx hx=>(ok.2 x hx).dp,aG gm6 hpt,hX6.mono (aF.ins (aF.new hpt)),by rw[ers];exact z,by rw[ers];exact hkd,λG7 g7 k7=>⟨rfl,?_⟩⟩;have le7:aF G6 G7:=λx g e=>(k7 x (λz=>by rw[z,hpt] at e;cases e)).trans (aG e hpt);have hA:=(hX6.mono (aF.ins le7)).ats;rw[ers] at g7 hA;exact aF.done (hq pt G7 (le6.trans le7) (bJ le6 hpt) (.whl g7 hA))
theorem CN {C:Cs} (T:Txt K mg) (N1:mT P w K mg base "Set" C.s ["self","box","amount"] 1 (iR C 0)) (N2:mT P w K mg base "Copy" C.c ["self","box","other"] 1 (iR C 1)) (N3:mT P w K mg base "Add" C.a ["self","box","other"] 1 (iR C 2)) (N4:mT P w K mg base "Less" C.l ["self","box"] 1 (iR C 3)) (N5:mT P w K mg base "Times" C.t ["self","box","rows"] 8 (Az C (Sk True))) (N6:mT P w K mg base "While" C.w ["self","box","marks","rows"] 8 (AA C (Sk True))):∀d:Nat,Fx P w K mg base "_law_made" ["_law_thing"] (d+9) (uW C d)
 | 0=>T.d__law_made.fx λf fd F=>bW.none λws G q e ⟨t,_,_,_,_,_,_,h,_⟩=>by lia
 | d+1=>T.d__law_made.fx λf fd F=>E4 F (CN T N1 N2 N3 N4 N5 N6 d) N1 N2 N3 N4 N5 N6 (by lia)
theorem uY {a x:O} {n:Int} {i j k:Nat} {τ:cP} {G:Gp} {q:WK} (hx:a.getP i=some (x,n)) (h1:τ[j]?=some (some (.tup (ao a)))) (h2:τ[k]?=some (some (.int (i:Int)))) (hq:q (.tup (ao x)) G):kA eW (kA eW (dr j) (dr k)) (wC (.int 0)) τ G q:=by
 simp only[kA,dr,h1,h2,eW,kP,sx,wC];refine⟨_,eP hx,?_⟩;exact⟨_,rfl,hq⟩
theorem yi {a x:O} {n:Int} {i j k:Nat} {τ:cP} {G:Gp} {q:WK} (hx:a.getP i=some (x,n)) (h1:τ[j]?=some (some (.tup (ao a)))) (h2:τ[k]?=some (some (.int (i:Int)))) (hq:q (.int n) G):kA eW (kA eW (dr j) (dr k)) (wC (.int 1)) τ G q:=by
 simp only[kA,dr,h1,h2,eW,kP,sx,wC];refine⟨_,eP hx,?_⟩;exact⟨_,rfl,hq⟩
theorem uZ (n m:Int):(if m<n then (1:Int) else 0)- (if n<m then (1:Int) else 0)=fi n m:=by
 unfold fi;rcases Int.lt_trichotomy n m with k | k | k
 ·have k':¬m<n:=by lia
  simp[k,k']
 ·subst k;simp
 ·have k':¬n<m:=by lia
  simp[k,k']
noncomputable def u0 (d:Nat):bP:=λws G q _=>∃a b:O,ws=[.tup (ao a),.tup (ao b)]/\a.dp<d/\O.hw a<=100000000/\O.hw b<=100000000/\q (.int (O.cmp a b)) G
theorem E5 {d k:Nat} (F:cq K "_law_order" "_law_order" (aU 40) f fd) (F0:Fx P w K mg base "_law_order" ["_law_one","_law_other"] k (u0 d)) (ml:mg "len"=none) (mr:mg "range"=none) (mm:mg "min"=none) (mi:mg "int"=none):bW P w K mg base (k+1) f fd ["_law_one","_law_other"] (u0 (d+1)):=by
 refine d3 F (N:=["_law_one","_law_other","_law_k","_law_side"]) (by walk_at "s") (by walk_at "l") λ_ _ _ _ _ _ nd hr=>?_;apply aI
 ·exact(ae (dU PySem.PassesOwn.never rfl (fe rfl mr (ac (bb (BL rfl) rfl mm BM (ac (bb bU rfl ml PySem.boot_len (ac (aa 0) af)) (ac (bb bU rfl ml PySem.boot_len (ac (aa 1) af)) af))) af)) (cm 2 nd rfl (.inl rfl)) (ae (aY 3 nd rfl (.inl rfl) (ax F0 (aw.mono hr (by lia)) rfl (ac (aA aB (aA aB (aa 0) (aa 2)) ag) (ac (aA aB (aA aB (aa 1) (aa 2)) ag) af)))) (ae (bq (aH (dQ hr) (aa 3) ag) (ae (av (aa 3)) ah) ah) (ae (bq (aH (dQ hr) (aA aB (aA aB (aa 0) (aa 2)) ag) (aA aB (aA aB (aa 1) (aa 2)) ag)) (ae (av (aE jl (bv pG rfl mi PyProof.Rows.boot_int (ac (dS lA (aA aB (aA aB (aa 0) (aa 2)) ag) (aA aB (aA aB (aa 1) (aa 2)) ag)) af)) (bv pG rfl mi PyProof.Rows.boot_int (ac (dS (iD hr) (aA aB (aA aB (aa 0) (aa 2)) ag) (aA aB (aA aB (aa 1) (aa 2)) ag)) af)))) ah) ah) ah)))) (ae (av (aE jl (bv pG rfl mi PyProof.Rows.boot_int (ac (dS lA (bb bU rfl ml PySem.boot_len (ac (aa 0) af)) (bb bU rfl ml PySem.boot_len (ac (aa 1) af))) af)) (bv pG rfl mi PyProof.Rows.boot_int (ac (dS (iD hr) (bb bU rfl ml PySem.boot_len (ac (aa 0) af)) (bb bU rfl ml PySem.boot_len (ac (aa 1) af))) af)))) ah))
 ·rintro ws G q e ⟨a,b,rfl,hd,sa,sb,hq⟩;walk_at "a0";rw[aN,aN];have la:=O.len_le_hw a;have lb:=O.len_le_hw b;refine⟨by split<;> (clear hd sa sb la lb;lia),by split<;> (clear hd;lia),?_⟩;have em:(if (b.len:Int)<(a.len:Int) then (b.len:Int) else (a.len:Int)).toNat=min a.len b.len:=by split<;> (clear hd sa sb la lb;lia)
  rw[em];refine gM (min a.len b.len) (λi τ G'=>G'=G/\∃t2 t3,τ=[some (.tup (ao a)),some (.tup (ao b)),t2,t3]/\O.cmp a b=O.cmp (O.dropO i a) (O.dropO i b)) ⟨rfl,none,none,rfl,rfl⟩ ?_ ?_
  ·rintro τ G' ⟨rfl,t2,t3,rfl,hc⟩;refine⟨trivial,?_⟩;subst hU;walk_at "R";rw[aN,aN,uZ];have l1:=O.len_dropO (min a.len b.len) a;have l2:=O.len_dropO (min a.len b.len) b;have hz:O.dropO (min a.len b.len) a=.z∨O.dropO (min a.len b.len) b=.z:=by
    rcases Nat.le_total a.len b.len with h | h
    ·exact .inl (O.dropO_len (by (clear hd sa sb la lb em hc l1 l2;lia)))
    ·exact .inr (O.dropO_len (by (clear hd sa sb la lb em hc l1 l2;lia)))
   rw[ng hz] at hc;have e2:fi (a.len:Int) (b.len:Int)=fi ((O.dropO (min a.len b.len) a).len:Int) ((O.dropO (min a.len b.len) b).len:Int):=oS (by rw[l1,l2];(clear hd sa sb la lb em hc l1 l2;lia));rw[e2,←hc];exact aF.done hq
  ·rintro i τ G' kk hi ⟨rfl,t2,t3,rfl,hc⟩ hk;obtain⟨x,n,hx⟩:=O.getP_some (a:=a) (i:=i) (by (clear hd sa sb la lb em hc;lia));obtain⟨y,m,hy⟩:=O.getP_some (a:=b) (i:=i) (by (clear hd sa sb la lb em hc;lia));have gx:=O.getP_size hx;have gy:=O.getP_size hy;have wx:=O.getP_hw hx;have wy:=O.getP_hw hy;rw[O.dropO_get hx,O.dropO_get hy,B5] at hc;refine⟨trivial,?_⟩;generalize hA0:kA eW (kA eW (dr 0) (dr 2)) (wC (W.int 0))=A0;generalize hB0:kA eW (kA eW (dr 1) (dr 2)) (wC (W.int 0))=B0;generalize hA1:kA eW (kA eW (dr 0) (dr 2)) (wC (W.int 1))=A1;generalize hB1:kA eW (kA eW (dr 1) (dr 2)) (wC (W.int 1))=B1;have fA:∀(t3:Option W) (q:WK),q (.int n) G'->A1 [some (.tup (ao a)),some (.tup (ao b)),some (.int (i:Int)),t3] G' q:=λt3 q h=>hA1▸yi hx rfl rfl h;have fB:∀(t3:Option W) (q:WK),q (.int m) G'->B1 [some (.tup (ao a)),some (.tup (ao b)),some (.int (i:Int)),t3] G' q:=λt3 q h=>hB1▸yi hy rfl rfl h;refine aT λU1 hU1=>?_;walk_at "R";subst hA0 hB0;refine uY hx rfl rfl (uY hy rfl rfl ?_);refine⟨x,y,rfl,by (clear sa sb la lb em hi hc gy wx wy;lia),by (clear hd sb la lb em hi hc gx gy wy;lia),by (clear hd sa la lb em hi hc gx gy wx;lia),?_⟩;walk_at "b"
   by_cases h0:O.cmp x y=0
   ·have hP:oQ x n y m=fi n m:=if_neg (by simpa using h0);rw[hP] at hc;rw[if_neg (by simpa using h0)];subst hU1;walk_at "R";refine fA _ _ (fB _ _ ?_);walk_at "R"
    by_cases hn:n=m
    ·rw[if_neg (by simpa using hn)];rw[hn,ip,if_neg (by simp)] at hc;exact hk _ _ ⟨rfl,_,_,rfl,hc⟩
    ·rw[if_pos (by simpa using hn)];refine fA _ _ (fB _ _ ?_);walk_at "R";refine fA _ _ (fB _ _ ?_);walk_at "R";rw[uZ];rw[if_pos (λz=>hn (cmpP_zero.mp (hP.trans z)).2)] at hc;rw[←hc];exact aF.done hq
   ·rw[if_pos (by simpa using h0)];have hP:oQ x n y m=O.cmp x y:=if_pos h0;rw[hP,if_pos h0] at hc;rw[←hc];exact aF.done hq
theorem AI (T:Txt K mg):∀d:Nat,Fx P w K mg base "_law_order" ["_law_one","_law_other"] d (u0 d)
 | 0=>T.d__law_order.fx λf fd F=>bW.none λws G q e ⟨a,b,_,h,_⟩=>by lia
 | d+1=>T.d__law_order.fx λf fd F=>E5 F (AI T d) T.z_len T.z_range T.z_min T.z_int
theorem nR:∀{a:O} {i:Nat} {x y:O} {n m:Int},a.NF->a.getP i=some (x,n)->a.getP (i+1)=some (y,m)->O.cmp y x<0
 | .z,i,_,_,_,_,_,h,_=>by cases i<;> cases h
 | .c e k r,0,x,y,n,m,hn,h,h'=>by
   cases h;exact O.getP_Lt hn.2.2.1 h'
 | .c e k r,i+1,x,y,n,m,hn,h,h'=>nR (a:=r) (i:=i) hn.2.2.2 h h'
noncomputable def xA (d:Nat):bP:=λws G q _=>∃a:O,ws=[.tup (ao a)]/\a.NF/\a.dp<d/\O.hw a<=100000000/\q (.bl true) G
theorem E6 {d k:Nat} (F:cq K "_law_is_form" "_law_is_form" (aU 41) f fd) (F0:Fx P w K mg base "_law_is_form" ["_law_thing"] k (xA d)) (F1:Fx P w K mg base "_law_order" ["_law_one","_law_other"] 8 (u0 8)) (hk8:8<=k) (hd8:d<=8) (ml:mg "len"=none) (mr:mg "range"=none) (mi:mg "isinstance"=none) (mt:mg "tuple"=none) (mn:mg "int"=none) (mb:mg "bool"=none):bW P w K mg base (k+1) f fd ["_law_thing"] (xA (d+1)):=by
 refine d3 F (N:=["_law_thing","_law_k","_law_part"]) (by walk_at "s") (by walk_at "l") λ_ _ _ _ _ _ nd hr=>?_;apply aI
 ·exact(ae (bq (eC (cG (fc (T:="tuple") (x:="tuple") (by first | simp[jm] | assumption | decide+kernel) dc mt rfl mi rfl (aa 0)))) (ae (av ef) ah) ah) (ae (dU PySem.PassesOwn.never rfl (fe rfl mr (ac (bb bU rfl ml PySem.boot_len (ac (aa 0) af)) af)) (cm 1 nd rfl (.inl rfl)) (ae (aY 2 nd rfl (.inl rfl) (aA aB (aa 0) (aa 1))) (ae (bq (fM (fb (eC (cG (fc (T:="tuple") (x:="tuple") (by first | simp[jm] | assumption | decide+kernel) dc mt rfl mi rfl (aa 2)))) (fb (aH (dQ hr) (bb bU rfl ml PySem.boot_len (ac (aa 2) af)) ag) (fV (eC (cG (ax F0 (aw.mono hr (by lia)) rfl (ac (aA aB (aa 2) ag) af)))))))) (ae (av ef) ah) ah) (ae (bq (fM (fb (eC (cG (fc (T:="int") (x:="int") (by first | simp[jm] | assumption | decide+kernel) PyProof.Rows.boot_int mn rfl mi rfl (aA aB (aa 2) ag)))) (fb (cG (fc (T:="bool") (x:="bool") (by first | simp[jm] | assumption | decide+kernel) PyProof.Rows.boot_bool mb rfl mi rfl (aA aB (aa 2) ag))) (fV (aH (iD hr) (aA aB (aa 2) ag) ag))))) (ae (av ef) ah) ah) (ae (bq (fM (eB (aH lA (aa 1) ag) (cX (aH (dQ hr) (ax F1 (aw.mono hr hk8) rfl (ac (aA aB (aa 2) ag) (ac (aA aB (aA aB (aa 0) (aE jl (aa 1) ag)) ag) af))) (eK ag))))) (ae (av ef) ah) ah) ah))))) (ae (av ef) ah)))
 ·rintro ws G q e ⟨a,rfl,hn,hd,hw,hq⟩;walk_at "a0";walk_at "a";rw[aN];have la:=O.len_le_hw a;refine⟨by lia,by lia,?_⟩;refine gM a.len (λi τ G'=>G'=G/\∃t1 t2,τ=[some (.tup (ao a)),t1,t2]) ⟨rfl,none,none,rfl⟩ ?_ ?_
  ·rintro τ G' ⟨rfl,t1,t2,rfl⟩;refine⟨trivial,?_⟩;subst hU;walk_at "R";exact aF.done hq
  ·rintro i τ G' kk hi ⟨rfl,t1,t2,rfl⟩ hk;obtain⟨x,n,hx⟩:=O.getP_some (a:=a) (i:=i) (by assumption);have gx:=O.getP_size hx;have wx:=O.getP_hw hx;obtain⟨nx,n1⟩:=O.getP_NF hn hx;refine⟨trivial,?_⟩;refine aT λU1 hU1=>?_;walk_at "R";refine⟨_,eP hx,?_⟩;subst hU1;refine aT λU1 hU1=>?_;unfold gp kL;walk_at "R";refine⟨x,rfl,nx,by (clear hk8 hd8 hw la hi wx n1;lia),by (clear hk8 hd8 hd la hi gx n1;lia),?_⟩;walk_at "R";walk_at "b";rw[if_neg (by (clear hk8 hd8 hd hw la hi gx wx;lia))];subst hU1;walk_at "R";refine gP (λh0=>?_) λ_=>hk _ _ ⟨rfl,_,_,rfl⟩;obtain⟨j,rfl⟩:∃j,i=j+1:=⟨i-1,by (clear hk8 hd8 hd hw la hi gx wx n1;lia)⟩;obtain⟨y,m,hy⟩:=O.getP_some (a:=a) (i:=j) (by (clear hk8 hd8 hd hw la gx wx n1 h0;lia));have gy:=O.getP_size hy;have wy:=O.getP_hw hy;have ho:=nR hn hy hx;rw[show((j+1:Nat):Int)-1=(j:Int) by (clear hk8 hd8 hd hw la gx wx n1 hi h0 gy wy ho;lia)];refine⟨_,eP hy,?_⟩;unfold gp kL;walk_at "R";refine⟨x,y,rfl,by (clear hk8 hw la wx n1 hi h0 gy wy ho;lia),by (clear hk8 hd8 hd la gx n1 hi h0 gy wy ho;lia),by (clear hk8 hd8 hd la gx wx n1 hi h0 gy ho;lia),?_⟩;rw[show O.cmp x y= -1 by rcases O.cmp_range x y with e | e | e<;> lia];walk_at "R";exact hk _ _ ⟨rfl,_,_,rfl⟩
theorem CO (T:Txt K mg):∀d:Nat,d<=8->Fx P w K mg base "_law_is_form" ["_law_thing"] (d+8) (xA d)
 | 0,_=>T.d__law_is_form.fx λf fd F=>bW.none λws G q e ⟨a,_,_,h,_⟩=>by lia
 | d+1,h=>T.d__law_is_form.fx λf fd F=>E6 F (CO T d (by lia)) (AI T 8) (by lia) (by lia) T.z_len T.z_range T.z_isinstance T.z_tuple T.z_int T.z_bool
noncomputable def Fu (os:Nat->O) (n:Nat) (xs:List W):Prop:=xs.length=n+1/\∀j,j<=n->∃p:Addr,xs[j]?=some (.tup [.tup (ao (os j)),.ref p])
structure yj (os:Nat->O) (n:Nat):Prop where
 nf:∀j,j<=n->(os j).NF
 dp:∀j,j<=n->(os j).dp<=4
 hw:∀j,j<=n->O.hw (os j)<=100000000
 lt:∀j,j<n->O.cmp (os (j+1)) (os j)<0
noncomputable def CP:bP:=λws G q _=>∃(p:Addr) (m n:Nat) (os:Nat->O) (xs:List W),ws=[.ref p,.int (m:Int)]/\G p=some (.lst xs)/\Fu os n xs/\yj os n/\n<=m/\m<=100/\(os n=.z∨n=m)/\q (.bl true) G
theorem E7 (F:cq K "_law_falling" "_law_falling" (aU 47) f fd) (F0:Fx P w K mg base "_law_is_form" ["_law_thing"] 13 (xA 5)) (F1:Fx P w K mg base "_law_order" ["_law_one","_law_other"] 8 (u0 8)) (ml:mg "len"=none) (mr:mg "range"=none) (mi:mg "isinstance"=none) (mt:mg "tuple"=none) (ms:mg "list"=none):bW P w K mg base 14 f fd ["_law_found","_law_most"] CP:=by
 refine d3 (k:=13) F (N:=["_law_found","_law_most","_law_k"]) (by walk_at "s") (by walk_at "l") λ_ _ _ _ _ _ nd hr=>?_;apply aI
 ·exact(ae (bq (fM (fb (eC (cG (fc (T:="list") (x:="list") (by first | simp[jm] | assumption | decide+kernel) oy ms rfl mi rfl (aa 0)))) (fb (aH (bL hr) (bb bU rfl ml PySem.boot_len (ac (aa 0) af)) ag) (fV (aH lA (bb bU rfl ml PySem.boot_len (ac (aa 0) af)) (aE bA (aa 1) ag)))))) (ae (av ef) ah) ah) (ae (dU PySem.PassesOwn.never rfl (fe rfl mr (ac (bb bU rfl ml PySem.boot_len (ac (aa 0) af)) af)) (cm 2 nd rfl (.inl rfl)) (ae (bq (fM (fb (eC (cG (fc (T:="tuple") (x:="tuple") (by first | simp[jm] | assumption | decide+kernel) dc mt rfl mi rfl (aA aB (aa 0) (aa 2))))) (fb (aH (dQ hr) (bb bU rfl ml PySem.boot_len (ac (aA aB (aa 0) (aa 2)) af)) ag) (fV (eC (cG (ax F0 (aw.mono hr (by lia)) rfl (ac (aA aB (aA aB (aa 0) (aa 2)) ag) af)))))))) (ae (av ef) ah) ah) (ae (bq (fM (eB (aH lA (aa 2) ag) (cX (aH (dQ hr) (ax F1 (aw.mono hr (by lia)) rfl (ac (aA aB (aA aB (aa 0) (aa 2)) ag) (ac (aA aB (aA aB (aa 0) (aE jl (aa 2) ag)) ag) af))) (eK ag))))) (ae (av ef) ah) ah) ah))) (ae (av (Bp (dS (bL hr) (bb bU rfl ml PySem.boot_len (ac (aa 0) af)) (aE bA (aa 1) ag)) (oj (dS (bL hr) (aA aB (aA aB (aa 0) (eK ag)) ag) (aW af))))) ah)))
 ·rintro ws G q e ⟨p,m,n,os,xs,rfl,hG,⟨hl,hx⟩,hf,hnm,hm,he,hq⟩;walk_at "a0";rw[show sC G (.ref p)=some "list" by simp only[sC,hG]];simp only[pZ,if_true];rw[if_neg (by decide)];refine⟨_,.lst hG,?_⟩;rw[hl,if_neg (by (clear hl hnm hm he;lia))];refine⟨_,.lst hG,?_⟩;rw[hl,if_neg (by (clear hl hm he;lia))];walk_at "a";refine⟨_,.lst hG,?_⟩;rw[hl];refine⟨by lia,by lia,?_⟩;refine gM (n+1) (λi τ G'=>G'=G/\∃t2,τ=[some (.ref p),some (.int (m:Int)),t2]) ⟨rfl,none,rfl⟩ ?_ ?_
  ·rintro τ G' ⟨rfl,t2,rfl⟩;refine⟨trivial,?_⟩;subst hU;walk_at "R";refine⟨_,.lst hG,?_⟩;rw[hl];refine gP (λ_=>aF.done hq) λhne=>?_;have hz:os n=.z:=by
    rcases he with h | h
    ·exact h
    ·exact absurd (by (clear hl hnm hm hne;lia)) hne
   obtain⟨pn,hxn⟩:=hx n (by (clear hl hnm hm he hne;lia));refine⟨_,_,hG,jE (by rw[hl];exact hxn),?_⟩;rw[hz];walk_at "R";exact⟨rfl,by decide,aF.done hq⟩
  ·rintro i τ G' kk hi ⟨rfl,t2,rfl⟩ hk;obtain⟨pi,hxi⟩:=hx i (by (clear hl hnm hm he;lia));refine⟨trivial,?_⟩;refine aT λU1 hU1=>?_;walk_at "R";refine⟨_,_,hG,cM hxi,?_⟩;walk_at "R";refine⟨_,_,hG,cM hxi,?_⟩;walk_at "R";refine⟨_,_,hG,cM hxi,?_⟩;walk_at "R";refine⟨os i,rfl,hf.nf i (by (clear hl hnm hm he hxi;lia)),by have:=hf.dp i (by (clear hl hnm hm he hxi;lia));(clear hl hnm hm he hi hxi;lia),hf.hw i (by (clear hl hnm hm he hxi;lia)),?_⟩;walk_at "R";subst hU1;walk_at "R";refine gP (λh0=>?_) λ_=>hk _ _ ⟨rfl,_,rfl⟩;obtain⟨j,rfl⟩:∃j,i=j+1:=⟨i-1,by (clear hl hnm hm he hi hxi;lia)⟩;obtain⟨pj,hxj⟩:=hx j (by (clear hl hnm hm he hxi h0;lia));refine⟨_,_,hG,cM hxi,?_⟩;walk_at "R";rw[show((j+1:Nat):Int)-1=(j:Int) by (clear hl hnm hm he hi hxi h0 hxj;lia)];refine⟨_,_,hG,cM hxj,?_⟩;walk_at "R";have ho:=hf.lt j (by (clear hl hnm hm he hxi h0 hxj;lia));have d1:=hf.dp (j+1) (by (clear hl hnm hm he hxi h0 hxj ho;lia));refine⟨_,_,rfl,by (clear hl hnm hm he hi hxi h0 hxj ho;lia),hf.hw _ (by (clear hl hnm hm he hxi h0 hxj ho d1;lia)),hf.hw _ (by (clear hl hnm hm he hxi h0 hxj ho d1;lia)),?_⟩;rw[show O.cmp (os (j+1)) (os j)= -1 by rcases O.cmp_range (os (j+1)) (os j) with e | e | e<;> lia];walk_at "R";exact hk _ _ ⟨rfl,_,rfl⟩
noncomputable def xB (kvs:List (aR×W)):Prop:=(kvs.map (·.1)).Nodup
noncomputable def CQ (kvs:List (aR×W)):Prop:=∀p,p∈kvs->∃z:Str,p.1=.inr z
theorem xB.put {kvs:List (aR×W)} (h:xB kvs) (k:aR) (w:W):xB (cT kvs k w):=by
 unfold xB cT at*;split
 ·rw[map_map];have:kvs.map ((λx:aR×W=>x.1) ∘ λkv=>if kv.1=k then (kv.1,w) else kv)=kvs.map (·.1):=List.map_congr_left λx _=>by
   show(if x.1=k then (x.1,w) else x).1=x.1;split<;> rfl
  rw[this];exact h
 ·rename_i e;rw[map_append,List.nodup_append];refine⟨h,by simp,λa ha b hb z=>e ?_⟩;obtain⟨x,hx,rfl⟩:=mem_map.mp ha;rw[mem_singleton.mp hb] at z;exact List.any_eq_true.mpr ⟨x,hx,decide_eq_true z⟩
theorem CQ.put {kvs:List (aR×W)} (h:CQ kvs) (k:Str) (w:W):CQ (cT kvs (.inr k) w):=by
 unfold cT;split
 ·intro p hp;obtain⟨x,hx,rfl⟩:=mem_map.mp hp;obtain⟨z,hz⟩:=h x hx;refine⟨z,?_⟩;split<;> exact hz
 ·intro p hp;rcases mem_append.mp hp with hp | hp
  ·exact h p hp
  ·rw[mem_singleton.mp hp];exact⟨k,rfl⟩
theorem xB.val {kvs:List (aR×W)} (h:xB kvs) {p:aR×W} (hp:p∈kvs):dH kvs p.1=some p.2:=by
 unfold xB at h
 induction kvs with
 | nil=>cases hp
 | cons x kvs ih=>
   rw[map_cons,nodup_cons] at h;unfold dH;rw[List.find?_cons];rcases mem_cons.mp hp with rfl | hp
   ·rw[decide_eq_true rfl];rfl
   ·rw[decide_eq_false (λz=>h.1 (by rw[z];exact mem_map.mpr ⟨p,hp,rfl⟩))];exact ih h.2 hp
structure iL (kvs:List (aR×W)):Prop where
 i:kl kvs
 n:xB kvs
 s:CQ kvs
theorem iL.nil:iL []:=⟨λ_ h=>(nomatch h),by simp[xB],λ_ h=>(nomatch h)⟩
theorem iL.put {kvs:List (aR×W)} (h:iL kvs) (k:Str) (n:Int):iL (cT kvs (.inr k) (.int n)):=⟨h.i.put _ _,h.n.put _ _,h.s.put _ _⟩
theorem iL.step {kvs:List (aR×W)} (h:iL kvs) (r:Row):iL (ft kvs r):=by
 cases r with
 | set b n=>exact h.put _ _
 | copy b n=>exact h.put _ _
 | add b n=>exact h.put _ _
 | less b=>exact h.put _ _
 | times b rs=>exact h
 | count rs n=>exact h
 | whl b hs rs=>exact h
 | bear b hs rs o=>exact h
theorem iL.run {rs:List Row} {kvs:List (aR×W)} (h:iL kvs):∀n,iL (bu (rs,kvs) n).2
 | 0=>h
 | n+1=>by
   have ih:=iL.run (rs:=rs) h n;show iL (lg (bu (rs,kvs) n)).2;generalize bu (rs,kvs) n=s at ih ⊢;obtain⟨st,k⟩:=s;cases st with
   | nil=>exact ih
   | cons r st=>exact iL.step ih r
theorem iL.posq:∀(kvs:List (aR×W)),iL kvs->iL (uO kvs):=λkvs h=>by
 have:∀(us acc:List (aR×W)),kl us->CQ us->iL acc->iL (us.foldl (λa p=>cT a p.1 p.2) acc):=λus=>by
  induction us with
  | nil=>exact λacc _ _ h=>h
  | cons p us ih=>
    intro acc hi hs ha;obtain⟨n,hn⟩:=hi p mem_cons_self;obtain⟨z,hz⟩:=hs p mem_cons_self;rw[foldl_cons,hn,hz];exact ih _ (λq hq=>hi q (mem_cons_of_mem _ hq)) (λq hq=>hs q (mem_cons_of_mem _ hq)) (ha.put _ _)
 exact this _ [] (λp hp=>h.i p (mem_filter.mp hp).1) (λp hp=>h.s p (mem_filter.mp hp).1) iL.nil
theorem iL.same {kvs:List (aR×W)} (h:iL kvs) (G:Gp):∀p,p∈kvs->∃w',dH kvs p.1=some w'/\jJ G p.2 w':=λp hp=>by
 obtain⟨n,hn⟩:=h.i p hp;refine⟨p.2,h.n.val hp,?_⟩;rw[hn];exact .int n
noncomputable def u3 (C:Cs) (S:Nat->Prop):bP:=λws G q _=>∃(l:Addr) (ps:List (Addr×Row)),ws=[.ref l]/\G l=some (.lst (ps.map λp=>W.ref p.1))/\Rows C G ps/\kj (aQ.of (ps.map (·.2)))/\AM S (aQ.of (ps.map (·.2)))/\q (.tup (ao (aQ.of (ps.map (·.2))).wt)) G
theorem CS {C:Cs} {S:Nat->Prop} (F:cq K "weight_of" "weight_of" (aU 19) f fd) (F1:Fx P w K mg base "total" ["some"] 4 At) (M:∀i,S i->Mt P w K mg base (C.at_ i) "weigh" ["self"] 6 (iQ C i) []) (mr:mg "reversed"=none):bW P w K mg base 7 f fd ["things"] (u3 C S):=by
 have nd:=scWe.nd;refine y9 F scWe (λws G q e h=>by obtain⟨_,_,rfl,_⟩:=h;rfl) (λcdv A outer s H E hr=>?_);apply aI
 ·refine' dL (av (ax F1 (aw.mono hr (by lia)) rfl (ac (fE (dW (by first | rfl | decide+kernel)) rfl (pO rfl mr ?it) (λ_ _ _ _=>?tg) (λ_ _ _ _=>?tt) (λ_ _ _ _=>iV (S:=S) (t:=λi=>jr (C.at_ i) "weigh" (iQ C i) [] (dr 1) j8) λi hi=>js ?me (M i hi) (aw.mono hr (by lia)))) af)))
  case it=>exact(ac (aa 0) af)
  case tg=>exact(cj 1 (by first | assumption | decide+kernel | rfl) rfl (.inl rfl))
  case tt=>exact cZ
  case me=>exact(aa 1)
 ·rintro ws G q e ⟨l,ps,rfl,hG,h3,hz,hkd,hq⟩;have h2:=aQ.L_of (ps.map (·.2));have hl:=jU (aQ.of (ps.map (·.2)));have hb:=hz.hb;have hpl:ps.length=(aQ.of (ps.map (·.2))).L.length:=by rw[h2,length_map]
  walk_at "R";refine⟨_,hG,?_⟩;rw[←map_reverse];refine eQ (i:=1) (λp:Addr×Row=>W.ref p.1) (λp=> .tup (ao p.2.wt)) (τ0:=[none,none]) hG (λp hp k hk=>?_) (by rw[length_reverse];show 0+_<=_;lia) (λ_=>rfl) λp hp=>?_
  ·have hp':=List.mem_reverse.mp hp;have h4:=h3 p hp';have hm:p.2∈(aQ.of (ps.map (·.2))).L:=by rw[h2];exact mem_map.mpr ⟨p,hp',rfl⟩
   obtain⟨fs,h6,h7,_⟩:=h4.isIns;walk_at "R";exact⟨kd p.2,hkd _ hm,p.1,fs,rfl,h6,h7,p.1,p.2,rfl,h4,rfl,hz.mem _ hm,hk⟩
  ·refine⟨p,(aQ.of (ps.map (·.2))).L.reverse.map Rq.wt,rfl,?_,hz.pls,?_⟩
   ·rw[ak,nil_append,h2,←map_reverse,map_map,map_map]
    rfl
   ·rw[jT,yf];exact⟨G,aF.new hp,hq⟩
noncomputable def CT (C:Cs):bP:=u3 C (Sk True)
theorem E8 {C:Cs} (F:cq K "weight" "weight" (aU 32) f fd) (F1:Fx P w K mg base "weight_of" ["things"] 7 (u3 C (Sk True))):bW P w K mg base 8 f fd ["rows"] (CT C):=by
 refine d3 F (N:=["rows"]) (by walk_at "s") (by walk_at "l") λ_ _ _ _ _ _ nd hr=>?_;apply aI
 ·exact(ae (av (ax F1 (aw.mono hr (by lia)) rfl (ac (aa 0) af))) ah)
 ·rintro ws G q e ⟨l,ps,rfl,h1,h2,h3,h4,hq⟩;walk_at "R";exact⟨l,ps,rfl,h1,h2,h3,h4,aF.done hq⟩
theorem AJ (kvs:List (aR×W)) (r:Row):Fo (bp kvs) r=dR kvs r:=by cases r<;> rfl
theorem u4 (kvs:List (aR×W)) (r:Row):x5 (bp kvs) r=fu kvs r:=by cases r<;> rfl
theorem u5:∀rs:List Row,(∀r,r∈rs->Sz r)->O.hw (bw rs)<=500*rs.length
 | [],_=>le_refl _
 | r::rs,h=>by
   have ih:=u5 rs λx hx=>h x (mem_cons_of_mem _ hx);have hr:=h r mem_cons_self;have h1:=(r.wq hr.nn).hw;have h2:=hr.hb;have h3:=O.hw_plus (bw rs) r.wt;show O.hw (O.plusO (bw rs) r.wt)<=500*(rs.length+1);lia
theorem rD {m l0:Nat} {B:Int} {s:List Row×List (aR×W)} {n:Nat} (h:rB True m l0 B 0 s) (hB:0<=B) (hBi:∀i,i<=n->B*2^i<=10^100) (hLi:∀i,i<=n->l0+(3*m+2)*i<=20000) (hne:∀k,k<n->(bu s k).1≠[]) (hnb:∀k,k<n->¬o8 (bu s k)):yj (λj=>bw (bu s j).1) n:=by
 have hO:=λj=>h.run hB j;have hz:∀j,j<=n->∀r,r∈(bu s j).1->Sz r:=λj hj r hr=>uL (hBi j hj) r ((hO j).g r hr);have hw:∀j,j<=n->∀r,r∈(bu s j).1->r.nn:=λj hj r hr=>(hz j hj r hr).nn;refine⟨λj hj=>(mo _ (hw j hj)).1,λj hj=>(mo _ (hw j hj)).2.1,λj hj=>?_,λj hj=>?_⟩
 ·have h1:=u5 _ (hz j hj);have h2:=o9 (bu s j).1;have h3:=(hO j).l;have h4:=hLi j hj
  (clear hB hj;lia)
 ·have h1:=hne j hj;have h2:=hnb j hj;have h3:=hO j;have h4:=hw j (by (clear hB;lia));show O.cmp (bw (lg (bu s j)).1) (bw (bu s j).1)<0;have hp:(0:Int)<=B*2^j:=Int.mul_nonneg hB (Int.le_of_lt (Int.pow_pos (by decide)));have h5:∀r,r∈(lg (bu s j)).1->r.nn:=hw (j+1) hj;generalize bu s j=x at h1 h2 h3 h4 h5;obtain⟨st,kv⟩:=x;cases st with
  | nil=>exact absurd rfl h1
  | cons r st=>
    have hr:=h4 r mem_cons_self;have hst:∀r,r∈st->r.nn:=λr hr=>h4 r (mem_cons_of_mem _ hr);have hss:∀r',r'∈dR kv r->r'.nn:=λr' hr'=>h5 r' (mem_append_left _ hr');have hg:∀x,0<=bp kv x:=λx=>(h3.b.get hp x).1;have key:=zL hg r hr (nM r (h3.g r mem_cons_self)).2 (by rw[u4];exact h2);rw[AJ] at key;show O.cmp (bw (dR kv r++st)) (O.plusO (bw st) r.wt)<0;rw[jA hss hst];exact O.plus_lt (gJ hst) (gJ hss) (r.wq hr).nf key
theorem CU {ps:List (W×Row)} {kvs:List (aR×W)} (h1:CL ps) (h2:eX ps<=32) (h3:dD (10^50) kvs) (h4:kvs.length<=4):rB True 96 96 (10^50) 0 (dE ps,kvs):=by
 have hs:gU (10^50) (aQ.of (dE ps)):=jb λr hr=>by
  obtain⟨z,hz,rfl⟩:=mem_map.mp hr;exact(h1 z hz).1
 refine⟨λr hr=>?_,?_,?_,by show kvs.length<=_;lia⟩
 ·obtain⟨z,hz,rfl⟩:=mem_map.mp hr;have:=yh hz;rw[Int.pow_zero,Int.mul_one];exact uS _ (h1 z hz).1 (by (clear h4;lia)) (h1 z hz).2
 ·rw[Int.pow_zero,Int.mul_one];exact h3
 ·have a:=mj (aQ.of (dE ps));rw[aQ.L_of] at a;have b:=(jZ _ hs).2.2.2;rw[eT] at b;show((dE ps).map Rq.lb).sum<=_
  (clear h4;lia)
theorem pf (i:Nat) (h:i<=61):(10:Int)^50*2^i<=10^100:=by
 have h1:(2:Int)^i<=2^61:=by exact_mod_cast Nat.pow_le_pow_right (n:=2) (by decide) h
 exact Int.le_trans (Int.mul_le_mul_of_nonneg_left h1 (by decide)) (by decide+kernel)
noncomputable def four:List Str:=["a","b","c","d"]
noncomputable def CV (C:Cs) (Cf:Addr) (cp:Prop):bP:=λws G q _=>xx C Cf cp ws G q λ_ _=>False
theorem E9 {C:Cs} {Cf:Addr} {bF:List Value} (F:cq K "law" "law" (aU 48) f fd) (F1:Fx P w K mg base "_law_cell_at" ["_law_script","_law_k"] 1 CC) (F3:Fx P w K mg base "_law_amount" ["_law_cell"] 1 AE) (F4:Fx P w K mg base "_law_rows" ["_law_cells","_law_names"] 7 CM) (F5:Fx P w K mg base "_law_made" ["_law_thing"] 13 (uW C 4))
 (R1:Rx P w K mg base "trace" ["rows","boxes","most"] 9 (xx C Cf True) []) (F6:Fx P w K mg base "trace" ["rows","boxes","most"] 9 (CV C Cf True)) (F7:Fx P w K mg base "_law_falling" ["_law_found","_law_most"] 14 CP) (F8:Fx P w K mg base "weight" ["rows"] 8 (CT C)) (mF:mg "NoFall"=some (.ref Cf)) (xF:XC K Cf bF) (mr:mg "range"=none) (ml:mg "len"=none):bW P w K mg base 100 f fd ["_law_script"] ir:=by
 refine d3 (k:=99) F (N:=["_law_script","_law_names","_law_boxes","_law_k","_law_cell","_law_most","_law_made_here","_law_found","_law_refused"]) (by walk_at "s") (by walk_at "l") λ_ _ _ _ _ _ nd hr=>?_;apply aI
 ·refine' ae ?s1 (ae ?s2 (ae ?s3 (ae ?s4 (ae ?s5 (ae ?s6 (ae ?s7 (ae ?s8 ?s9)))))))
  case s1=>exact(aY 1 nd rfl (.inl rfl) (bC (ac ca (ac ca (ac ca (ac ca af))))))
  case s2=>exact(aY 2 nd rfl (.inl rfl) wQ)
  case s3=>exact(dU PySem.PassesOwn.never rfl (fe rfl mr (ac ag af)) (cm 3 nd rfl (.inl rfl)) (ae (aY 4 nd rfl (.inl rfl) (ax F1 (aw.mono hr (by lia)) rfl (ac (aa 0) (ac (aE bA ag (aa 3)) af)))) (ae (bq (aH (dQ hr) (aE cf (aa 4) ag) ag) (ae (gQ (ax F3 (aw.mono hr (by lia)) rfl (ac (aE bY (aa 4) ag) af)) (aa 2) (aA aB (aa 1) (aa 3))) ah) ah) ah)))
  case s4=>exact(aY 5 nd rfl (.inl rfl) (aE cf (ax F1 (aw.mono hr (by lia)) rfl (ac (aa 0) (ac ag af))) ag))
  case s5=>
   refine' mP 6 (dW (by first | rfl | decide+kernel)) rfl (by assumption) rfl (by first | exact Or.inl rfl | exact Or.inr rfl) ?it (λ_ _ _ _=>?tg) (λ_ _ _ _=>?tt) (λ_ _ _ _=>?te)
   case it=>exact(cE (ax F4 (aw.mono hr (by lia)) rfl (ac (bZ (aa 0) (cB ag) (cB ag)) (ac (aa 1) af))))
   case tg=>exact(cj 1 (by first | assumption | decide+kernel | rfl) rfl (.inl rfl))
   case tt=>exact cZ
   case te=>exact(ax F5 (aw.mono hr (by lia)) rfl (ac (aa 1) af))
  case s6=>exact(aY 7 nd rfl (.inl rfl) y0)
  case s7=>exact(aY 8 nd rfl (.inl rfl) ef)
  case s8=>
   refine' vZ rfl rfl (vY (zw 7 (λ_ _ z=>z) nd rfl (Or.inl rfl) R1 (aw.mono hr (by lia)) rfl ?a)) (sW (vT mF rfl xF xF xF.self λa oe hoe=>?b) v0)
   case a=>exact(ac (aa 6) (ac (aa 2) (ac (aa 5) af)))
   case b=>exact(ae (aY 8 nd rfl (.inl rfl) ef) ah)
  case s9=>exact(ae (bq (cG (aa 8)) (ae (av ef) ah) ah) (ae (bq (fM (fb (eC (cG (ax F7 (aw.mono hr (by lia)) rfl (ac (aa 7) (ac (aa 5) af))))) (fV (aH (dQ hr) (aA aB (aA aB (aa 7) ag) ag) (ax F8 (aw.mono hr (by lia)) rfl (ac (aa 6) af)))))) (ae (av ef) ah) ah) (ae (bq (aH (bL hr) (bb bU rfl ml PySem.boot_len (ac (aa 7) af)) ag) (ae (av ef) ah) ah) (ae (av (dS (bL hr) (ax F6 (aw.mono hr (by lia)) rfl (ac (aa 6) (ac (aa 2) (ac (aE jl (bb bU rfl ml PySem.boot_len (ac (aa 7) af)) ag) af)))) (bZ (aa 7) cY (cB (eK ag))))) ah))))
 ·rintro ws G q e ⟨ns,rfl,hns,_,hq⟩;walk_at "a0";intro pn hpn;have g1n:aL G pn (.lst [W.str "a",.str "b",.str "c",.str "d"]) pn=some (.lst (vd four)):=ak;generalize aL G pn (.lst [W.str "a",.str "b",.str "c",.str "d"])=G1 at g1n ⊢;have hnl:four.length=4:=rfl;generalize four=names at g1n hnl ⊢;have hlen:(vd names).length=names.length:=length_map ..;clear hpn;walk_at "a";intro pb hpb;have g2n:=aG (g:=GO.dic []) g1n hpb;have g2b:=ak (G:=G1) (a:=pb) (g:=GO.dic []);generalize aL G1 pb (.dic [])=G2 at g2n g2b ⊢;have nb:pn≠pb:=λz=>by rw[z,g2b] at g2n;cases g2n
  clear g1n hpb;walk_at "a";refine gM 4 (λi τ G'=>∃t3 t4 kvs,τ=[some (.scr ns),some (.ref pn),some (.ref pb),t3,t4,none,none,none,none]/\iL kvs/\dD (10^50) kvs/\kvs.length<=i/\G' pb=some (.dic kvs)/\G' pn=some (.lst (vd names))) ⟨none,none,[],rfl,iL.nil,(λ_ h=>(nomatch h)),le_refl _,g2b,g2n⟩ ?_ ?_;rotate_left 1
  ·rintro i τ G' kk hi ⟨t3,t4,kvs,rfl,ok,bx,hkl,gb,gn⟩ hk;refine⟨trivial,?_⟩;obtain⟨x,hx,_⟩:=lT (L:=names) (i:=(i:Int)) (by (clear hns hnl hlen hkl;lia)) (by (clear hns hlen hkl;lia));have pl:=λw=>dC kvs (.inr x) w;refine aT λU1 hU1=>?_;walk_at "R";refine⟨ns,_,rfl,by (clear hns hnl hlen hkl;lia),λc1=>?_⟩;dsimp only;subst hU1;walk_at "R";refine gP (λh5=>?_) (λh5=>?_)
   ·refine⟨_,rfl,λv h0 h1=>?_⟩;walk_at "R";refine⟨_,_,gn,hx,pb,x,kvs,rfl,rfl,gb,by (clear hns hnl hlen h5 h0 h1;lia),?_⟩;exact hk _ _ ⟨_,_,_,rfl,ok.put _ _,bx.put _ (by assumption) (by assumption),le_trans (pl _) (by (clear hns hnl hlen hi h5 h0 h1;lia)),ak,(aq nb).trans gn⟩
   ·exact hk _ _ ⟨_,_,_,rfl,ok,bx,by (clear hns hnl hlen hi h5;lia),gb,gn⟩
  rintro τ G3 ⟨t3,t4,kvs,rfl,ok,bx,hkl,gb,gn⟩;refine⟨trivial,?_⟩;have hk4:kvs.length<=4:=by assumption
  clear hkl g2n g2b;subst hU;dsimp only;walk_at "a0";refine⟨ns,0,rfl,by decide,λc2=>?_⟩;walk_at "R";obtain⟨m,hm,m19⟩:∃m:Nat,c2%20=(m:Int)/\m<=19:=by
   have:=jF (i:=c2) (j:=20) (by (clear hns hnl hlen hk4;lia));exact⟨(c2%20).toNat,by (clear hns hnl hlen hk4;lia),by (clear hns hnl hlen hk4;lia)⟩
  rw[hm];walk_at "a";refine⟨by lia,λpc hpc=>?_⟩;obtain⟨a1,a2,ea,ha⟩:=zY (ns.map W.int) 5 21;have ec:cQ (ns.map W.int) (some 5) (some 21)=(((ns.drop a1).take a2)).map W.int:=by
   rw[List.map_take,List.map_drop];exact ea
  rw[ec];have h16:((ns.drop a1).take a2).length<=16:=by rw[length_take];(clear hns hnl hlen hk4 hm m19;lia)
  refine⟨pc,pn,(ns.drop a1).take a2,names,rfl,ak,aG gn hpc,hnl,h16,λpr ps G4 le4 fpr gpr hT4 hS hpl htz=>?_⟩;have gb4:=le4 _ _ (aG (g:=GO.lst (((ns.drop a1).take a2).map W.int)) gb hpc);clear le4 fpr hpc ec ha ea h16 gn nb gb G3 hlen;walk_at "R";refine⟨_,gpr,iw (n:=1) gpr hT4 hS htz (λy hy=>by have:=(hS y hy).2;(clear hns hnl hk4 hm m19 hpl htz;lia)) (by lia) (λ_=>rfl) λxs G5 le5 hX hts pm _ hpm=>?_⟩;have gm6:=ak (G:=G5) (a:=pm) (g:=GO.lst (refs xs));have gb6:=aG (g:=GO.lst (refs xs)) (le5 _ _ gb4) hpm;have hX6:Rows C (aL G5 pm (GO.lst (refs xs))) xs:=hX.mono (aF.ins (aF.new hpm));generalize aL G5 pm (GO.lst (refs xs))=G6 at gm6 gb6 hX6 ⊢;clear hpm hX le5 gb4;have okm:=CU hS htz bx hk4;rw[←hts] at okm;walk_at "a";walk_at "a";walk_at "a";have hst:gU (10^50) (aQ.of (dE ps)):=jb λr hr=>by
   obtain⟨z,hz,rfl⟩:=mem_map.mp hr;exact(hS z hz).1
  have hdt:(aQ.of (dE ps)).dt<=3:=pB λr hr=>by
   obtain⟨z,hz,rfl⟩:=mem_map.mp hr;exact(hS z hz).2
  have hsz:=(jc hst (by rw[eT];exact htz) hdt).2;have hkd:AM (Sk True) (aQ.of (dE ps)):=λr hr=>qm (fI (gW _ hst (by rw[eT];exact htz) hdt) r hr);rw[←hts] at hsz hkd;have hLi:∀i,i<=m->96+(3*96+2)*i<=20000:=λi hi=>by (clear hns hnl hk4 m19 hpl htz hdt;lia)
  refine⟨pm,pb,xs,kvs,m,96,96,10^50,rfl,gm6,hX6,gb6,okm,by decide,λi hi=>pf i (by (clear hns hnl hk4 m19 hpl htz hdt;lia)),hLi,by lia,λG' n _ _ _ _ D hD=>?_,λG7 F0 ds n le fF hF hl hn he hne hnb hd=>?_⟩
  ·cases hD;refine⟨_,.head _,?_⟩;walk_at "R";walk_at "a";exact aF.done (hq _)
  have fo:=rD (n:=n) okm (by decide) (λi hi=>pf i (by (clear hns hnl hk4 m19 hpl htz hdt hl he;lia))) (λi hi=>hLi i (by (clear hns hnl hk4 hm m19 hpl htz hdt hl he;lia))) hne hnb;have wt:Fu (λj=>bw (bu (cr xs,kvs) j).1) n (qq (cr xs,kvs) 0 ds):=⟨by rw[d7,hl],λj hj=>by
   obtain⟨p,hp⟩:∃p,ds[j]?=some p:=⟨_,List.getElem?_eq_getElem (by (clear hns hnl hk4 hm m19 hpl htz hdt hn he;lia))⟩;refine⟨p,?_⟩;have:=mq (cr xs,kvs) 0 ds j p hp
   rwa [Nat.zero_add] at this⟩
  have d0:=fo.dp 0 (by (clear hns hnl hk4 hm m19 hpl htz hdt hl hn he;lia));obtain⟨p0,hp0⟩:=wt.2 0 (by (clear hns hnl hk4 hm m19 hpl htz hdt hl hn he d0;lia));walk_at "a";walk_at "a";refine⟨F0,m,n,_,_,rfl,hF,wt,fo,hn,by lia,?_,?_⟩
  ·rcases he with he | he
   ·exact .inl (by show bw (bu (cr xs,kvs) n).1=.z;rw[he];rfl)
   ·exact .inr he
  walk_at "R";refine⟨_,_,hF,cM (j:=0) hp0,?_⟩;walk_at "R";refine⟨pm,xs,rfl,le _ _ gm6,hX6.mono (aF.ins le),hsz,hkd,?_⟩;walk_at "R";have e0:(aQ.of (List.map (λx=>x.2) xs)).wt=bw (bu (cr xs,kvs) 0).1:=iW _;have t0:=dg (bw (bu (cr xs,kvs) 0).1);rw[e0];refine⟨bT _,bT _,by have:(bw (bu (cr xs,kvs) 0).1).dp<=4:=d0;(clear hns hnl hk4 hm m19 hpl htz hdt hl hn he hp0 this;lia),?_⟩;rw[jB,decide_eq_true rfl,if_neg (by decide)];clear e0 t0 d0;walk_at "a";refine⟨_,.lst hF,?_⟩;rw[d7,hl];refine gP (λ_=>aF.done (hq _)) λh1=>?_;obtain⟨n',rfl⟩:∃n',n=n'+1:=⟨n-1,by (clear hns hnl hk4 hm m19 hpl htz hdt hl hn he hp0;lia)⟩;subst hU;walk_at "R";refine⟨_,.lst hF,?_⟩;rw[d7,hl,show(((n'+1+1:Nat):Int))-2=((n':Nat):Int) by (clear hns hnl hk4 hm m19 hpl htz hdt hp0 hl hn he h1;lia)];refine⟨pm,pb,xs,kvs,n',96,96,10^50,rfl,le _ _ gm6,hX6.mono (aF.ins le),le _ _ gb6,okm,by decide,λi hi=>pf i (by (clear hns hnl hk4 m19 hpl htz hdt hp0 hl he h1;lia)),λi hi=>hLi i (by (clear hns hnl hk4 hm m19 hpl htz hdt hp0 hl he h1;lia)),by (clear hns hnl hk4 m19 hpl htz hdt hp0 hl he h1;lia),λG' k _ hk hb _=>hnb k (by (clear hns hnl hk4 hm m19 hpl htz hdt hp0 hl hn he h1;lia)) hb,λG8 F1 ds1 k le8 fF1 hF1 hl1 hk he1 hne1 hnb1 hd1=>?_⟩;have hkn:k=n':=by
   rcases he1 with he1 | he1
   ·exact absurd he1 (hne k (by (clear hns hnl hk4 hm m19 hpl htz hdt hp0 hl hn he h1 hl1;lia)))
   ·exact he1
  subst hkn;refine⟨_,le8 _ _ hF,λp hp=>⟨true,?_,aF.done (hq _)⟩⟩;rw[pY,d7,hl];refine .deep (aG hF1 hp) ak ?_ λj x y hx hy=>?_
  ·rw[d7,hl1,length_take,d7,hl]
   (clear hns hnl hk4 hm m19 hpl htz hdt hp0 hl1 hn he h1 hk he1;lia)
  ·have hj:j<ds1.length:=by
    have:=(List.getElem?_eq_some_iff.mp hx).1;rw[d7] at this;exact this
   obtain⟨p1,hp1⟩:∃p,ds1[j]?=some p:=⟨_,List.getElem?_eq_getElem hj⟩;obtain⟨p2,hp2⟩:∃p,ds[j]?=some p:=⟨_,List.getElem?_eq_getElem (by (clear hns hnl hk4 hm m19 hpl htz hdt hp0 hn he h1 hk he1 hx hy hp1;lia))⟩;have g1:=mq (cr xs,kvs) 0 ds1 j p1 hp1;have g2:=mq (cr xs,kvs) 0 ds j p2 hp2;rw[g1] at hx;cases hx;rw[List.getElem?_take_of_lt (by (clear hns hnl hk4 hm m19 hpl htz hdt hp0 hn he h1 hk he1 hy hp1 hp2 g1 g2;lia)),g2] at hy;cases hy;rw[Nat.zero_add];refine .pair (.flat (bT _) (bT _) ?_ (by rw[jB,decide_eq_true rfl])) (.dic (.inl (aG (hd1 j p1 hp1).1 hp)) (.inl (aG (le8 _ _ (hd j p2 hp2).1) hp)) rfl (iL.same (iL.posq _ (ok.run j)) _));have t1:=dg (bw (bu (cr xs,kvs) j).1);have t2:(bw (bu (cr xs,kvs) j).1).dp<=4:=fo.dp j (by (clear hns hnl hk4 hm m19 hpl htz hdt hp0 hn he h1 hk he1 hp1 hp2 g1 g2 t1;lia))
   (clear hns hnl hk4 hm m19 hpl htz hdt hp0 hl1 hl hn he h1 hk he1 hj hp1 hp2 g1 g2;lia)
theorem u6 {C:Addr} {m qual:Str} {sp:bP} (D:Md K C m qual st ps) (c:cV K C) (h:∀(f:Addr) (fd:FuncData),cq K m qual st f fd->sR P w K mg base k f fd ps sp):BY P w K mg base C m ps k sp []:=by
 obtain⟨f,fd,hm,F,b⟩:=D;exact⟨⟨f,fd,[],[],hm,h f fd F,b,.nil,λ_=> .nil⟩,c⟩
theorem gk {C:Cs} {Cf:Addr} {i j:Nat} {qual:Str} (hi:i≠7) (hj:j<=8) (D:Md K (C.at_ i) "step" qual st ["self","boxes"]) (c:cV K (C.at_ i)) (h:∀(f:Addr) (fd:FuncData),cq K "step" qual st f fd->bW P w K mg base j f fd ["self","boxes"] (lZ C i)):BY P w K mg base (C.at_ i) "step" ["self","boxes"] 8 (rz C Cf i) []:=
 u6 D c λf fd F=>((((h f fd F).imp (λ_ _ _ _ z=>xq (Cf:=Cf) hi z)).toR).mono hj)
theorem AK (T:Txt K mg) (F:cq K "law" "law" (aU 48) f fd):bW P w K mg base 100 f fd ["_law_script"] ir:=by
 obtain⟨x0,x1,x2,⟨m0,e0⟩,⟨mF,e1⟩,_⟩:=T.x_;obtain⟨bF,xF⟩:=XC.of e1;obtain⟨C1,m1,c1,a11,a12,i1,t1,w1,_⟩:=T.k_Set;obtain⟨C2,m2,c2,a21,a22,i2,t2,w2,_⟩:=T.k_Copy;obtain⟨C3,m3,c3,a31,a32,i3,t3,w3,_⟩:=T.k_Add;obtain⟨C4,m4,c4,a41,i4,t4,w4,_⟩:=T.k_Less;obtain⟨C5,m5,c5,a51,a52,a53,i5,w5,t5,_⟩:=T.k_Times;obtain⟨C7,m7,c7,a71,a72,i7,w7,t7,_⟩:=T.k_Count;obtain⟨C6,m6,c6,a61,a62,a63,a64,i6,w6,t6,me6,_⟩:=T.k_While;obtain⟨C8,m8,c8,a81,a82,i8,w8,t8,_⟩:=T.k_Bearing;generalize hC:(⟨C1,C2,C3,C4,C5,C6,C7,C8⟩:Cs)=C;have e1:C.s=C1:=by rw[←hC]
 have e2:C.c=C2:=by rw[←hC]
 have e3:C.a=C3:=by rw[←hC]
 have e4:C.l=C4:=by rw[←hC]
 have e5:C.t=C5:=by rw[←hC]
 have e6:C.w=C6:=by rw[←hC]
 have e7:C.n=C7:=by rw[←hC]
 have e8:C.b=C8:=by rw[←hC]
 clear hC;subst e1 e2 e3 e4 e5 e6 e7 e8;have Wd:=T.d_is_whole.fxd (P:=P) (w:=w) (base:=base) λf fd T' ds F=>Ep F T.z_isinstance T.z_int T.z_bool;have Rs:=T.d_raised.fx λf fd T' ds F=>Cq F Wd;have Rd:=T.d_raised.fxd λf fd T' ds F=>Cq F Wd;have Wl:=T.d_whole.fx λf fd F=>Er F Rs;have En:=T.d_endless.fx λf fd F=>Et F Wl Rd;have Cm:=T.d_compare.fx (P:=P) (w:=w) (base:=base) λf fd F=>Ei F;have Pa:=T.d_parts_above.fx λf fd F=>Ej F Cm T.z_len;have Ps:=T.d_plus.fx λf fd F=>Ek F Pa T.z_len;have Wp:=T.d_whole_part.fx (P:=P) (w:=w) (base:=base) λf fd F=>El F;have Ww:=T.d_without_whole.fx λf fd F=>Em F Wp;have Ti:=T.d_times.fx λf fd F=>Eo F Wp Ww Ps T.z_tuple;have Tt:=T.d_total.fx λf fd F=>Eu F Ps;have M1:∀i,Sk True i->Mt P w K mg base (C.at_ i) "weigh" ["self"] 6 (iQ C i) []:=λi hi=>by
  match i,hi with
  | 0,_=>exact w1.mt c1 λf fd F=>xo (by decide) F Wl
  | 1,_=>exact w2.mt c2 λf fd F=>xo (by decide) F Wl
  | 2,_=>exact w3.mt c3 λf fd F=>xo (by decide) F Wl
  | 3,_=>exact w4.mt c4 λf fd F=>xo (by decide) F Wl
  | 4,_=>exact w5.mt c5 λf fd F=>Ew F Ti En c5 a53
  | 5,_=>exact w6.mt c6 λf fd F=>EA F Ti Wl Ps Rd c6 a64 a62
  | 6,_=>exact w7.mt c7 λf fd F=>Ey F Ti Wl Ps c5 a53 c7 a71 a72
  | 7,_=>exact w8.mt c8 λf fd F=>Ez F Ti Wl Ps c6 a64 c8 a81 a82
  | n+8,h=>exact absurd h.1 (by lia)
 have We:=T.d_weight_of.fx λf fd F=>Ev F Tt M1 T.z_reversed;have WeL:=T.d_weight_of.fx λf fd F=>CS F Tt M1 T.z_reversed;have Wt:=T.d_weight.fx λf fd F=>E8 F WeL;have Be:=T.d_by_exponent.fx (P:=P) (w:=w) (base:=base) λf fd F=>EM F T.z_tuple T.z_sorted;have N1:=i1.new (P:=P) (w:=w) (base:=base) m1 λf fd F=>EN F c1 a11 a12;have N2:=i2.new (P:=P) (w:=w) (base:=base) m2 λf fd F=>EO F c2 a21 a22;have N3:=i3.new (P:=P) (w:=w) (base:=base) m3 λf fd F=>EQ F c3 a31 a32;have N4:=i4.new (P:=P) (w:=w) (base:=base) m4 λf fd F=>ER F c4 a41;have N5:=i5.new m5 λf fd F=>ES F We Wl Ps T.z_tuple c5 a51 a52 a53;have N6:=i6.new m6 λf fd F=>ET F Be We Wl Ps T.z_tuple c6 a61 a62 a63 a64;have N7:=i7.new (P:=P) (w:=w) (base:=base) m7 λf fd F=>EH F c7 a71 a72;have N8:=i8.new (P:=P) (w:=w) (base:=base) m8 λf fd F=>EK F c8 a81 a82;have He:=T.d_held.fx (P:=P) (w:=w) (base:=base) λf fd F=>EB F;have Ms:=me6.mt (P:=P) (w:=w) (base:=base) c6 λf fd F=>EC F He Rs T.z_sum c6 a62;have Sw:=t6.mt (P:=P) (w:=w) (base:=base) c6 λf fd F=>Cu F He N8 Ms c6 a61 a63 T.z_list;have M2:∀i,Sk True i->BY P w K mg base (C.at_ i) "step" ["self","boxes"] 8 (rz C x1 i) []:=λi hi=>by
  match i,hi with
  | 0,_=>exact gk (by decide) (by decide) t1 c1 λf fd F=>ED F c1 a11 a12
  | 1,_=>exact gk (by decide) (by decide) t2 c2 λf fd F=>EE F He c2 a21 a22
  | 2,_=>exact gk (by decide) (by decide) t3 c3 λf fd F=>EF F He c3 a31 a32
  | 3,_=>exact gk (by decide) (by decide) t4 c4 λf fd F=>EG F He T.z_max c4 a41
  | 4,_=>exact gk (by decide) (by decide) t5 c5 λf fd F=>EI F He N7 c5 a51
  | 5,_=>exact gk (by decide) (by decide) t6 c6 λf fd F=>(Cu F He N8 Ms c6 a61 a63 T.z_list).imp λ_ _ _ _ z=>xt z
  | 6,_=>exact gk (by decide) (by decide) t7 c7 λf fd F=>EJ F N7 c5 a52 c7 a71 a72 T.z_list
  | 7,_=>exact u6 t8 c8 λf fd F=>EL F mF xF He Cm Ms Sw c6 a61 c8 a81 a82
  | n+8,h=>exact absurd h.1 (by lia)
 have Wf:=T.d_weight_left.fx (P:=P) (w:=w) (base:=base) λf fd F=>EU F;have Pt:=T.d_put_ahead.fx λf fd F=>Cy F Wf Ps M1 T.z_reversed;have To:=T.d_told.fx λf fd F=>EW F Wf T.z_dict;have Tx:Rx P w K mg base "trace" ["rows","boxes","most"] 9 (xx C x1 True) []:=T.d_trace.rx λf fd T' ds F=>CB F Pt To M2 T.z_dict T.z_len;have Tq:=T.d_trace.fx λf fd T' ds F=>(CB F Pt To M2 T.z_dict T.z_len).calm (sp':=CV C x1 True) λ_ _ _ _ h=>h;have Ca:=T.d__law_cell_at.fx (P:=P) (w:=w) (base:=base) λf fd F=>EX F T.z_len;have Am:=T.d__law_amount.fx (P:=P) (w:=w) (base:=base) λf fd F=>EY F;have Ex:=T.d__law_exponent.fx λf fd F=>EZ F Wl;have Mk:=T.d__law_marks.fx λf fd F=>E1 F Ex Wl T.z_range;have Dp:=CK (P:=P) (w:=w) (base:=base) T 5;have Ro:=T.d__law_rows.fx λf fd F=>E3 F Dp Mk Am T.z_len T.z_max;have Ma:=CN T N1 N2 N3 N4 N5 N6 4;have Or:=AI (P:=P) (w:=w) (base:=base) T 8;have If:=CO (P:=P) (w:=w) (base:=base) T 5 (by decide);have Fa:=T.d__law_falling.fx λf fd F=>E7 F If Or T.z_len T.z_range T.z_isinstance T.z_tuple T.z_list;exact E9 F Ca Am Ro Ma Tx Tq Fa Wt mF xF T.z_range T.z_len
end
noncomputable abbrev oL (x y:Str) (t:Stmt) (d a b c:Value) (n:Option Addr) (e g:Value) (o:Value) (p:Option Addr) (r:Array (Option Value)):Option Obj:=some ⟨o,p,.func (fnOf x y (au t) (ap t) (am t) d a b c n e g),r⟩
noncomputable abbrev oR (a:Addr):Option (Option Value):=some (some (.ref a))
noncomputable abbrev oB (a:String):Option (Option Value):=some (some (.builtin a))
set_option maxHeartbeats 0 in
theorem all_mk {l:PySem.W.OpenLaw} {h:Heap} {fa f1 f2 f3 f4 f5 f6 f7 f8 f9 gN gO gT gV g0 g1 dT g2 g3 g4 g5 g6 g7 g8 ha hb hc hd he hf hu:Addr} (X:K.In h) (G:h.Ns mainGlobals mg) (JT:mg "law"=some (.ref fa))
 {JU JV JW JX JY JZ J0 J1 J2 J3 J4 J5 J6 J7 J8 J9 Ka Kb xr xs xF x0 x1 x2 x3 x7 yl ys y1 y2 y3 y4 y5 za zb zf zi zj zl zp zr zs zu z0 Am A0 A1 Be BT B0 B1 Ca Cd Cf Cl Cm CX C1 C2 hv:Option Addr} {Kc Kd Ke Kf Kg Kh Ki Kj Kk C3 C4 C5 C6 C7 C8 Dp DD D0 En Ex Fa Fr FO FP FQ FR FS FT FU FV:Array (Option Value)} {Kl Km Kn Ko w5 Kp Kq Kr Ks Kt w6 Ku Kv Kw Kx Ky w7 Kz KA KB KC KD w8 KE KF KG KH KI xa KJ KK KL KM KN xd KO KP KQ KR KS xe KU KW KY KZ K0 xl K1 K2 K3 K4 K5 xp K6 FW FX FY FZ hx F0 Ga Gb Gc Gd hy Ge Gf Gg Gh Gi hz Gj Gk Gm Gn Go hA Gq Gr Gs Gt Gu hB Gv Gw Gx Gy Gz hC GA GB GC GF GG hD GH GI GJ GK GL hE GM GN GP GQ GR hF GS GU GV GW GX hG GY GZ G0 G1 G2 hH G3 G4 G5 G6 G7 hI G8 G9 Ha Hb Hc hK Hd He Hf Hg Hh hL Hj Hk Hl Hm Hn hM Ho Hq Hr Hs Ht hN Hu Hv Hw Hx Hy hO Hz HA HB HC HD hP HE HF HG HH HI hQ HJ HK HL HM HN hR HP HQ hS hT hU e7 hV:Value} {T1:Addr} {K7:Value} {K8:Option Addr} {K9:Nat} {La:Array (Option Value)} {dK:Tok} {T4:Addr} {Lb:Value} {Lc:Option Addr} {Ld:Nat} {Le:Array (Option Value)} {dO:Tok} {hg:Addr} {HR:Value} {HS:Option Addr} {HU:Nat} {HV:Array (Option Value)} {cI:Tok} {ai:Addr} {bm:Addr} {sa hW:Option Addr} {hX:Array (Option Value)} {hY hZ h0 h1 dV h2:Value} {br:Addr} {sb h3:Option Addr} {h4:Array (Option Value)} {h5 h6 h7 h8 d0 h9:Value} {as:Addr} {hh e8:Option Addr} {fk:Array (Option Value)} {fl fm fn fo c0 fp:Value} {dl:Addr} {HW:ClassData} {aj:Addr} {bs:Addr} {sc id:Option Addr} {ih:Array (Option Value)} {ij is it iv d1 ix:Value} {bx:Addr} {sf i0:Option Addr} {i1:Array (Option Value)} {i2 i3 i4 i5 d2 i6:Value} {az:Addr} {hi fr:Option Addr} {fs:Array (Option Value)} {fv fx fz fA da fB:Value} {ds:Addr} {HX:ClassData} {al:Addr} {bz:Addr} {sl i7:Option Addr} {i8:Array (Option Value)} {j0 j1 j2 j3 d5 j4:Value} {bF:Addr} {sn j5:Option Addr} {ka:Array (Option Value)} {kb ki kk kp d6 ks:Value} {a0:Addr} {hj fD:Option Addr} {fF:Array (Option Value)} {f0 ga gb gc db ge:Value} {dt:Addr} {HY:ClassData} {be:Addr} {b0:Addr} {sp kv:Option Addr} {kw:Array (Option Value)} {k0 la lb ld d8 le:Value} {cb:Addr} {sq lf:Option Addr} {li:Array (Option Value)} {lk ll lm ln ea lo:Value} {bi:Addr} {hk gg:Option Addr} {gi:Array (Option Value)} {gm gn go gq dd gu:Value} {dx:Addr} {HZ:ClassData} {ad:Addr} {cd:Addr} {su ls:Option Addr} {lt:Array (Option Value)} {ly lF lI l0 eb ma:Value} {ce:Addr} {sv mb:Option Addr} {mc:Array (Option Value)} {md me mi mk ec ml:Value} {cg:Addr} {sz mm:Option Addr} {mn:Array (Option Value)} {mp mr ms mt ed mu:Value} {dA:Addr} {H0:ClassData} {an:Addr} {ch:Addr} {sD mA:Option Addr} {mF:Array (Option Value)} {mN m0 m1 m2 ee m3:Value} {cl:Addr} {s0 m4:Option Addr} {m5:Array (Option Value)} {m6 m7 m8 na ej nb:Value} {cn:Addr} {s1 nc:Option Addr} {nd:Array (Option Value)} {ne nf nm nn ek no:Value} {dB:Addr} {H1:ClassData} {ab:Addr} {co:Addr} {s2 np:Option Addr} {ns:Array (Option Value)} {nt nu nv nx el nL:Value} {cp:Addr} {s3 nT:Option Addr} {n0:Array (Option Value)} {n1 n2 n3 n4 em n7:Value} {cs:Addr} {s4 oa:Option Addr} {ob:Array (Option Value)} {oc od oe of en ok:Value} {ct:Addr} {s5 on:Option Addr} {op:Array (Option Value)} {or os ov oD eo oT:Value} {dF:Addr} {H2:ClassData} {ar:Addr} {cw:Addr} {s6 oV:Option Addr} {o1:Array (Option Value)} {o2 o3 o4 pa ep pb:Value} {cx:Addr} {s7 pc:Option Addr} {pd:Array (Option Value)} {pe pg pi pj eq pk:Value} {cD:Addr} {s8 pl:Option Addr} {pm:Array (Option Value)} {pn po pr pt er pu:Value} {dI:Addr} {H3:ClassData} {bk:Addr} {H4:ClassData} {bj:Addr} {H5:ClassData} {bl:Addr} {H6:ClassData}
 (a1:nsIn K mainGlobals "is_whole"=oR f1) (l1:K.lookup f1=oL "is_whole" "is_whole" (aU 5) (.ref T1) Km Kn Ko JV w5 Kp Kl JU Kc) (c1:codeIn K w5 "is_whole"=true) (k1:keepIn K (.ref f1)=true)
 (a2:nsIn K mainGlobals "whole"=oR f2) (l2:K.lookup f2=oL "whole" "whole" (aU 6) .none Kr Ks Kt JX w6 Ku Kq JW Kd) (c2:codeIn K w6 "whole"=true) (k2:keepIn K (.ref f2)=true)
 (a3:nsIn K mainGlobals "endless"=oR f3) (l3:K.lookup f3=oL "endless" "endless" (aU 7) .none Kw Kx Ky JZ w7 Kz Kv JY Ke) (c3:codeIn K w7 "endless"=true) (k3:keepIn K (.ref f3)=true)
 (a4:nsIn K mainGlobals "raised"=oR f4) (l4:K.lookup f4=oL "raised" "raised" (aU 8) (.ref T4) KB KC KD J1 w8 KE KA J0 Kf) (c4:codeIn K w8 "raised"=true) (k4:keepIn K (.ref f4)=true)
 (a5:nsIn K mainGlobals "compare"=oR f5) (l5:K.lookup f5=oL "compare" "compare" (aU 9) .none KG KH KI J3 xa KJ KF J2 Kg) (c5:codeIn K xa "compare"=true) (k5:keepIn K (.ref f5)=true)
 (a6:nsIn K mainGlobals "whole_part"=oR f6) (l6:K.lookup f6=oL "whole_part" "whole_part" (aU 10) .none KL KM KN J5 xd KO KK J4 Kh) (c6:codeIn K xd "whole_part"=true) (k6:keepIn K (.ref f6)=true)
 (a7:nsIn K mainGlobals "without_whole"=oR f7) (l7:K.lookup f7=oL "without_whole" "without_whole" (aU 11) .none KQ KR KS J7 xe KU KP J6 Ki) (c7:codeIn K xe "without_whole"=true) (k7:keepIn K (.ref f7)=true)
 (a8:nsIn K mainGlobals "plus"=oR f8) (l8:K.lookup f8=oL "plus" "plus" (aU 13) .none KY KZ K0 J9 xl K1 KW J8 Kj) (c8:codeIn K xl "plus"=true) (k8:keepIn K (.ref f8)=true)
 (a9:nsIn K mainGlobals "parts_above"=oR f9) (l9:K.lookup f9=oL "parts_above" "parts_above" (aU 14) .none K3 K4 K5 Kb xp K6 K2 Ka Kk) (c9:codeIn K xp "parts_above"=true) (k9:keepIn K (.ref f9)=true)
 (Lf:nsIn K mainGlobals "total"=oR gN) (Lg:K.lookup gN=oL "total" "total" (aU 15) .none FX FY FZ xs hx F0 FW xr C3) (Lh:codeIn K hx "total"=true) (Li:keepIn K (.ref gN)=true)
 (Lj:nsIn K mainGlobals "times"=oR gO) (Lk:K.lookup gO=oL "times" "times" (aU 17) .none Gb Gc Gd x0 hy Ge Ga xF C4) (Ll:codeIn K hy "times"=true) (Lm:keepIn K (.ref gO)=true)
 (Ln:nsIn K mainGlobals "weight_of"=oR gT) (Lo:K.lookup gT=oL "weight_of" "weight_of" (aU 19) .none Gg Gh Gi x2 hz Gj Gf x1 C5) (Lp:codeIn K hz "weight_of"=true) (Lq:keepIn K (.ref gT)=true)
 (Lr:nsIn K mainGlobals "held"=oR gV) (Ls:K.lookup gV=oL "held" "held" (aU 20) .none Gm Gn Go x7 hA Gq Gk x3 C6) (Lu:codeIn K hA "held"=true) (Lv:keepIn K (.ref gV)=true)
 (Lx:nsIn K mainGlobals "by_exponent"=oR g0) (Ly:K.lookup g0=oL "by_exponent" "by_exponent" (aU 30) .none Gs Gt Gu ys hB Gv Gr yl C7) (Lz:codeIn K hB "by_exponent"=true) (LB:keepIn K (.ref g0)=true)
 (LC:nsIn K mainGlobals "weight"=oR g1) (LD:K.lookup g1=oL "weight" "weight" (aU 32) .none Gx Gy Gz y2 hC GA Gw y1 C8) (LF:codeIn K hC "weight"=true) (LH:keepIn K (.ref g1)=true)
 (LJ:nsIn K mainGlobals "trace"=oR dT) (LK:K.lookup dT=oL "trace" "trace" (aU 33) (.ref hg) GC GF GG y4 hD GH GB y3 Dp) (LL:codeIn K hD "trace"=true) (LM:keepIn K (.ref dT)=true)
 (LN:nsIn K mainGlobals "put_ahead"=oR g2) (LP:K.lookup g2=oL "put_ahead" "put_ahead" (aU 34) .none GJ GK GL za hE GM GI y5 DD) (LQ:codeIn K hE "put_ahead"=true) (LU:keepIn K (.ref g2)=true)
 (LV:nsIn K mainGlobals "weight_left"=oR g3) (LW:K.lookup g3=oL "weight_left" "weight_left" (aU 35) .none GP GQ GR zf hF GS GN zb D0) (LX:codeIn K hF "weight_left"=true) (LY:keepIn K (.ref g3)=true)
 (LZ:nsIn K mainGlobals "told"=oR g4) (L0:K.lookup g4=oL "told" "told" (aU 36) .none GV GW GX zj hG GY GU zi En) (L1:codeIn K hG "told"=true) (L2:keepIn K (.ref g4)=true)
 (L3:nsIn K mainGlobals "_law_cell_at"=oR g5) (L4:K.lookup g5=oL "_law_cell_at" "_law_cell_at" (aU 38) .none G0 G1 G2 zp hH G3 GZ zl Ex) (L5:codeIn K hH "_law_cell_at"=true) (L6:keepIn K (.ref g5)=true)
 (L7:nsIn K mainGlobals "_law_amount"=oR g6) (L8:K.lookup g6=oL "_law_amount" "_law_amount" (aU 39) .none G5 G6 G7 zs hI G8 G4 zr Fa) (L9:codeIn K hI "_law_amount"=true) (Ma:keepIn K (.ref g6)=true)
 (Mb:nsIn K mainGlobals "_law_order"=oR g7) (Mc:K.lookup g7=oL "_law_order" "_law_order" (aU 40) .none Ha Hb Hc z0 hK Hd G9 zu Fr) (Me:codeIn K hK "_law_order"=true) (Mf:keepIn K (.ref g7)=true)
 (Mg:nsIn K mainGlobals "_law_is_form"=oR g8) (Mh:K.lookup g8=oL "_law_is_form" "_law_is_form" (aU 41) .none Hf Hg Hh A0 hL Hj He Am FO) (Mi:codeIn K hL "_law_is_form"=true) (Mj:keepIn K (.ref g8)=true)
 (Ml:nsIn K mainGlobals "_law_exponent"=oR ha) (Mm:K.lookup ha=oL "_law_exponent" "_law_exponent" (aU 42) .none Hl Hm Hn Be hM Ho Hk A1 FP) (Mn:codeIn K hM "_law_exponent"=true) (Mo:keepIn K (.ref ha)=true)
 (Mp:nsIn K mainGlobals "_law_marks"=oR hb) (Mq:K.lookup hb=oL "_law_marks" "_law_marks" (aU 43) .none Hr Hs Ht B0 hN Hu Hq BT FQ) (Mr:codeIn K hN "_law_marks"=true) (Ms:keepIn K (.ref hb)=true)
 (Mu:nsIn K mainGlobals "_law_deep"=oR hc) (Mv:K.lookup hc=oL "_law_deep" "_law_deep" (aU 44) .none Hw Hx Hy Ca hO Hz Hv B1 FR) (Mw:codeIn K hO "_law_deep"=true) (Mx:keepIn K (.ref hc)=true)
 (My:nsIn K mainGlobals "_law_rows"=oR hd) (Mz:K.lookup hd=oL "_law_rows" "_law_rows" (aU 45) .none HB HC HD Cf hP HE HA Cd FS) (MA:codeIn K hP "_law_rows"=true) (MB:keepIn K (.ref hd)=true)
 (MC:nsIn K mainGlobals "_law_made"=oR he) (MD:K.lookup he=oL "_law_made" "_law_made" (aU 46) .none HG HH HI Cm hQ HJ HF Cl FT) (ME:codeIn K hQ "_law_made"=true) (MF:keepIn K (.ref he)=true)
 (MG:nsIn K mainGlobals "_law_falling"=oR hf) (MH:K.lookup hf=oL "_law_falling" "_law_falling" (aU 47) .none HL HM HN C1 hR HP HK CX FU) (MI:codeIn K hR "_law_falling"=true) (MJ:keepIn K (.ref hf)=true)
 (MK:nsIn K mainGlobals "law"=oR hu) (ML:K.lookup hu=oL "law" "law" (aU 48) .none hS hT hU hv e7 hV HQ C2 FV) (MM:codeIn K e7 "law"=true) (MN:keepIn K (.ref hu)=true)
 (t1:K.lookup T1=some ⟨K7,K8,.seq #[.int 0 dK] K9,La⟩)
 (t4:K.lookup T4=some ⟨Lb,Lc,.seq #[.int 1 dO] Ld,Le⟩)
 (MO:K.lookup hg=some ⟨HR,HS,.seq #[.int 50 cI] HU,HV⟩)
 (MP:nsIn K mainGlobals "HydraError"=oR bk) (MQ:excIn K bk [.type "ValueError",.type "Exception",.type "BaseException",.type "object"] "ValueError.__new__"=true)
 (MR:nsIn K mainGlobals "NoFall"=oR bj) (MS:excIn K bj [.type "ValueError",.type "Exception",.type "BaseException",.type "object"] "ValueError.__new__"=true)
 (MT:nsIn K mainGlobals "NoNumber"=oR bl) (MU:excIn K bl [.type "ValueError",.type "Exception",.type "BaseException",.type "object"] "ValueError.__new__"=true)
 (s9:mroIn K bj (.ref bk)=some true)
 (ta:mroIn K bj (.ref bl)=some false)
 (H7:findIn K (.ref bk) "__getattribute__"=oB "BaseException.__getattribute__") (H8:findIn K (.ref bk) "__getattr__"=some none) (H9:findIn K (.ref bk) "__class__"=oB "object.__class__") (Ia:clsIn K bk=some H4) (Ib:typeIn K (.ref bk)=some (.type "type")) (Ic:instIn K (.ref bk) (.type "type")=some true)
 (Ie:findIn K (.ref bj) "__getattribute__"=oB "BaseException.__getattribute__") (If:findIn K (.ref bj) "__getattr__"=some none) (Ig:findIn K (.ref bj) "__class__"=oB "object.__class__") (Ih:clsIn K bj=some H5) (Ii:typeIn K (.ref bj)=some (.type "type")) (Ij:instIn K (.ref bj) (.type "type")=some true)
 (Ik:findIn K (.ref bl) "__getattribute__"=oB "BaseException.__getattribute__") (Il:findIn K (.ref bl) "__getattr__"=some none) (Im:findIn K (.ref bl) "__class__"=oB "object.__class__") (Io:clsIn K bl=some H6) (Ip:typeIn K (.ref bl)=some (.type "type")) (Iq:instIn K (.ref bl) (.type "type")=some true)
 (MV:nsIn K mainGlobals "Set"=oR ai) (Ir:plainGet K ai Str.empty=true) (Is:hasDictIn K ai=true) (Iu:plainOver K ai=true) (Iv:findIn K (.ref ai) "__setattr__"=oB "object.__setattr__") (Iw:makesIn K ai=true) (Ix:keepIn K (.ref ai)=true) (tb:findIn K (.ref ai) "box"=some none) (tc:findIn K (.ref ai) "amount"=some none) (td:findIn K (.ref ai) "__init__"=oR bm) (py:isFn K (.ref bm)=true) (te:K.lookup bm=oL "__init__" "Set.__init__" (bd 22 0) .none hZ h0 h1 hW dV h2 hY sa hX) (p0:codeIn K dV "Set.__init__"=true) (p1:keepIn K (.ref bm)=true) (tg:findIn K (.ref ai) "step"=oR br) (p2:isFn K (.ref br)=true) (th:K.lookup br=oL "step" "Set.step" (bd 22 1) .none h6 h7 h8 h3 d0 h9 h5 sb h4) (p3:codeIn K d0 "Set.step"=true) (es:keepIn K (.ref br)=true) (hm:findIn K (.ref ai) "weigh"=oR as) (gw:isFn K (.ref as)=true) (hn:K.lookup as=oL "weigh" "Row.weigh" (bd 21 0) .none fm fn fo e8 c0 fp fl hh fk) (gx:codeIn K c0 "Row.weigh"=true) (de:keepIn K (.ref as)=true) (Iy:nsIn K mainGlobals "Row"=oR dl) (Iz:clsIn K dl=some HW) (IA:typeIn K (.ref dl)=some (.type "type")) (IB:instIn K (.ref dl) (.type "type")=some true) (IC:mroIn K ai (.ref dl)=some true)
 (MW:nsIn K mainGlobals "Copy"=oR aj) (ID:plainGet K aj Str.empty=true) (IE:hasDictIn K aj=true) (IF:plainOver K aj=true) (IG:findIn K (.ref aj) "__setattr__"=oB "object.__setattr__") (IH:makesIn K aj=true) (II:keepIn K (.ref aj)=true) (ti:findIn K (.ref aj) "box"=some none) (tk:findIn K (.ref aj) "other"=some none) (tn:findIn K (.ref aj) "__init__"=oR bs) (p4:isFn K (.ref bs)=true) (to:K.lookup bs=oL "__init__" "Copy.__init__" (bd 23 0) .none is it iv id d1 ix ij sc ih) (p7:codeIn K d1 "Copy.__init__"=true) (p8:keepIn K (.ref bs)=true) (tr:findIn K (.ref aj) "step"=oR bx) (qa:isFn K (.ref bx)=true) (ts:K.lookup bx=oL "step" "Copy.step" (bd 23 1) .none i3 i4 i5 i0 d2 i6 i2 sf i1) (qb:codeIn K d2 "Copy.step"=true) (ev:keepIn K (.ref bx)=true) (ho:findIn K (.ref aj) "weigh"=oR az) (gy:isFn K (.ref az)=true) (hp:K.lookup az=oL "weigh" "Row.weigh" (bd 21 0) .none fx fz fA fr da fB fv hi fs) (gA:codeIn K da "Row.weigh"=true) (df:keepIn K (.ref az)=true) (IJ:nsIn K mainGlobals "Row"=oR ds) (IK:clsIn K ds=some HX) (IL:typeIn K (.ref ds)=some (.type "type")) (IM:instIn K (.ref ds) (.type "type")=some true) (IN:mroIn K aj (.ref ds)=some true)
 (MX:nsIn K mainGlobals "Add"=oR al) (IP:plainGet K al Str.empty=true) (IQ:hasDictIn K al=true) (IR:plainOver K al=true) (IS:findIn K (.ref al) "__setattr__"=oB "object.__setattr__") (IT:makesIn K al=true) (IU:keepIn K (.ref al)=true) (tt:findIn K (.ref al) "box"=some none) (tv:findIn K (.ref al) "other"=some none) (tx:findIn K (.ref al) "__init__"=oR bz) (qn:isFn K (.ref bz)=true) (ty:K.lookup bz=oL "__init__" "Add.__init__" (bd 24 0) .none j1 j2 j3 i7 d5 j4 j0 sl i8) (qs:codeIn K d5 "Add.__init__"=true) (qu:keepIn K (.ref bz)=true) (tA:findIn K (.ref al) "step"=oR bF) (qv:isFn K (.ref bF)=true) (t0:K.lookup bF=oL "step" "Add.step" (bd 24 1) .none ki kk kp j5 d6 ks kb sn ka) (qx:codeIn K d6 "Add.step"=true) (ew:keepIn K (.ref bF)=true) (hq:findIn K (.ref al) "weigh"=oR a0) (gB:isFn K (.ref a0)=true) (hr:K.lookup a0=oL "weigh" "Row.weigh" (bd 21 0) .none ga gb gc fD db ge f0 hj fF) (gC:codeIn K db "Row.weigh"=true) (dh:keepIn K (.ref a0)=true) (IV:nsIn K mainGlobals "Row"=oR dt) (IW:clsIn K dt=some HY) (IX:typeIn K (.ref dt)=some (.type "type")) (IY:instIn K (.ref dt) (.type "type")=some true) (IZ:mroIn K al (.ref dt)=some true)
 (MY:nsIn K mainGlobals "Less"=oR be) (I0:plainGet K be Str.empty=true) (I1:hasDictIn K be=true) (I2:plainOver K be=true) (I3:findIn K (.ref be) "__setattr__"=oB "object.__setattr__") (I4:makesIn K be=true) (I5:keepIn K (.ref be)=true) (t2:findIn K (.ref be) "box"=some none) (t3:findIn K (.ref be) "__init__"=oR b0) (q1:isFn K (.ref b0)=true) (t5:K.lookup b0=oL "__init__" "Less.__init__" (bd 25 0) .none la lb ld kv d8 le k0 sp kw) (q2:codeIn K d8 "Less.__init__"=true) (q3:keepIn K (.ref b0)=true) (t6:findIn K (.ref be) "step"=oR cb) (q4:isFn K (.ref cb)=true) (t7:K.lookup cb=oL "step" "Less.step" (bd 25 1) .none ll lm ln lf ea lo lk sq li) (q5:codeIn K ea "Less.step"=true) (ex:keepIn K (.ref cb)=true) (hs:findIn K (.ref be) "weigh"=oR bi) (gD:isFn K (.ref bi)=true) (ht:K.lookup bi=oL "weigh" "Row.weigh" (bd 21 0) .none gn go gq gg dd gu gm hk gi) (gI:codeIn K dd "Row.weigh"=true) (dk:keepIn K (.ref bi)=true) (I6:nsIn K mainGlobals "Row"=oR dx) (I7:clsIn K dx=some HZ) (I8:typeIn K (.ref dx)=some (.type "type")) (I9:instIn K (.ref dx) (.type "type")=some true) (Ja:mroIn K be (.ref dx)=some true)
 (MZ:nsIn K mainGlobals "Times"=oR ad) (Jb:plainGet K ad Str.empty=true) (Jc:hasDictIn K ad=true) (Jd:plainOver K ad=true) (Je:findIn K (.ref ad) "__setattr__"=oB "object.__setattr__") (Jf:makesIn K ad=true) (Jg:keepIn K (.ref ad)=true) (t8:findIn K (.ref ad) "box"=some none) (ua:findIn K (.ref ad) "rows"=some none) (ub:findIn K (.ref ad) "of_round"=some none) (un:findIn K (.ref ad) "__init__"=oR cd) (q6:isFn K (.ref cd)=true) (up:K.lookup cd=oL "__init__" "Times.__init__" (bd 26 0) .none lF lI l0 ls eb ma ly su lt) (q7:codeIn K eb "Times.__init__"=true) (q8:keepIn K (.ref cd)=true) (ux:findIn K (.ref ad) "weigh"=oR ce) (q9:isFn K (.ref ce)=true) (uy:K.lookup ce=oL "weigh" "Times.weigh" (bd 26 1) .none me mi mk mb ec ml md sv mc) (ra:codeIn K ec "Times.weigh"=true) (ey:keepIn K (.ref ce)=true) (u1:findIn K (.ref ad) "step"=oR cg) (rb:isFn K (.ref cg)=true) (u2:K.lookup cg=oL "step" "Times.step" (bd 26 2) .none mr ms mt mm ed mu mp sz mn) (rd:codeIn K ed "Times.step"=true) (eD:keepIn K (.ref cg)=true) (Jh:nsIn K mainGlobals "Row"=oR dA) (Ji:clsIn K dA=some H0) (Jj:typeIn K (.ref dA)=some (.type "type")) (Jk:instIn K (.ref dA) (.type "type")=some true) (Jl:mroIn K ad (.ref dA)=some true)
 (M0:nsIn K mainGlobals "Count"=oR an) (Jm:plainGet K an Str.empty=true) (Jn:hasDictIn K an=true) (Jo:plainOver K an=true) (Jp:findIn K (.ref an) "__setattr__"=oB "object.__setattr__") (Jq:makesIn K an=true) (Jr:keepIn K (.ref an)=true) (u8:findIn K (.ref an) "loop"=some none) (va:findIn K (.ref an) "rounds"=some none) (vb:findIn K (.ref an) "__init__"=oR ch) (rg:isFn K (.ref ch)=true) (vl:K.lookup ch=oL "__init__" "Count.__init__" (bd 27 0) .none m0 m1 m2 mA ee m3 mN sD mF) (rh:codeIn K ee "Count.__init__"=true) (ri:keepIn K (.ref ch)=true) (vm:findIn K (.ref an) "weigh"=oR cl) (rj:isFn K (.ref cl)=true) (vr:K.lookup cl=oL "weigh" "Count.weigh" (bd 27 1) .none m7 m8 na m4 ej nb m6 s0 m5) (rn:codeIn K ej "Count.weigh"=true) (eG:keepIn K (.ref cl)=true) (vs:findIn K (.ref an) "step"=oR cn) (ro:isFn K (.ref cn)=true) (vu:K.lookup cn=oL "step" "Count.step" (bd 27 2) .none nf nm nn nc ek no ne s1 nd) (rp:codeIn K ek "Count.step"=true) (eH:keepIn K (.ref cn)=true) (Js:nsIn K mainGlobals "Row"=oR dB) (Jt:clsIn K dB=some H1) (Ju:typeIn K (.ref dB)=some (.type "type")) (Jv:instIn K (.ref dB) (.type "type")=some true) (Jw:mroIn K an (.ref dB)=some true)
 (M3:nsIn K mainGlobals "While"=oR ab) (Jx:plainGet K ab Str.empty=true) (Jy:hasDictIn K ab=true) (Jz:plainOver K ab=true) (JA:findIn K (.ref ab) "__setattr__"=oB "object.__setattr__") (JB:makesIn K ab=true) (JC:keepIn K (.ref ab)=true) (v1:findIn K (.ref ab) "box"=some none) (v2:findIn K (.ref ab) "heights"=some none) (v3:findIn K (.ref ab) "rows"=some none) (v4:findIn K (.ref ab) "of_round"=some none) (v8:findIn K (.ref ab) "__init__"=oR co) (rq:isFn K (.ref co)=true) (we:K.lookup co=oL "__init__" "While.__init__" (bd 28 0) .none nu nv nx np el nL nt s2 ns) (rr:codeIn K el "While.__init__"=true) (rs:keepIn K (.ref co)=true) (wi:findIn K (.ref ab) "weigh"=oR cp) (ru:isFn K (.ref cp)=true) (wl:K.lookup cp=oL "weigh" "While.weigh" (bd 28 1) .none n2 n3 n4 nT em n7 n1 s3 n0) (rv:codeIn K em "While.weigh"=true) (e0:keepIn K (.ref cp)=true) (wn:findIn K (.ref ab) "step"=oR cs) (rw:isFn K (.ref cs)=true) (wp:K.lookup cs=oL "step" "While.step" (bd 28 2) .none od oe of oa en ok oc s4 ob) (rx:codeIn K en "While.step"=true) (e2:keepIn K (.ref cs)=true) (wq:findIn K (.ref ab) "measure"=oR ct) (ry:isFn K (.ref ct)=true) (wr:K.lookup ct=oL "measure" "While.measure" (bd 28 3) .none os ov oD on eo oT or s5 op) (r0:codeIn K eo "While.measure"=true) (e3:keepIn K (.ref ct)=true) (JD:nsIn K mainGlobals "Row"=oR dF) (JE:clsIn K dF=some H2) (JF:typeIn K (.ref dF)=some (.type "type")) (JG:instIn K (.ref dF) (.type "type")=some true) (JH:mroIn K ab (.ref dF)=some true)
 (M4:nsIn K mainGlobals "Bearing"=oR ar) (JI:plainGet K ar Str.empty=true) (JJ:hasDictIn K ar=true) (JK:plainOver K ar=true) (JL:findIn K (.ref ar) "__setattr__"=oB "object.__setattr__") (JM:makesIn K ar=true) (JN:keepIn K (.ref ar)=true) (ws:findIn K (.ref ar) "loop"=some none) (wt:findIn K (.ref ar) "borne"=some none) (wx:findIn K (.ref ar) "__init__"=oR cw) (r1:isFn K (.ref cw)=true) (wy:K.lookup cw=oL "__init__" "Bearing.__init__" (bd 29 0) .none o3 o4 pa oV ep pb o2 s6 o1) (r2:codeIn K ep "Bearing.__init__"=true) (r3:keepIn K (.ref cw)=true) (w0:findIn K (.ref ar) "weigh"=oR cx) (r4:isFn K (.ref cx)=true) (w2:K.lookup cx=oL "weigh" "Bearing.weigh" (bd 29 1) .none pg pi pj pc eq pk pe s7 pd) (r5:codeIn K eq "Bearing.weigh"=true) (e5:keepIn K (.ref cx)=true) (w3:findIn K (.ref ar) "step"=oR cD) (r7:isFn K (.ref cD)=true) (w4:K.lookup cD=oL "step" "Bearing.step" (bd 29 2) .none po pr pt pl er pu pn s8 pm) (r8:codeIn K er "Bearing.step"=true) (e6:keepIn K (.ref cD)=true) (JO:nsIn K mainGlobals "Row"=oR dI) (JP:clsIn K dI=some H3) (JQ:typeIn K (.ref dI)=some (.type "type")) (JR:instIn K (.ref dI) (.type "type")=some true) (JS:mroIn K ar (.ref dI)=some true)
 (z1:nsIn K mainGlobals "ValueError"=some none) (z2:nsIn K mainGlobals "bool"=some none) (z3:nsIn K mainGlobals "dict"=some none) (z4:nsIn K mainGlobals "int"=some none) (z5:nsIn K mainGlobals "isinstance"=some none) (z6:nsIn K mainGlobals "len"=some none) (z7:nsIn K mainGlobals "list"=some none) (z8:nsIn K mainGlobals "max"=some none) (z9:nsIn K mainGlobals "min"=some none) (M5:nsIn K mainGlobals "range"=some none) (M6:nsIn K mainGlobals "reversed"=some none) (M7:nsIn K mainGlobals "sorted"=some none) (M8:nsIn K mainGlobals "sum"=some none) (M9:nsIn K mainGlobals "tuple"=some none):
 ∃fd:FuncData,(∀(s:Shared) (v:Value),BindsTo s fd ⟨[v],[]⟩ [("_law_script",v)])/\∀base:Heap,K.In base->base.Ns mainGlobals mg->dG l.prog w K mg base sg 100 fa fd ["_law_script"] (u9 K ir):=by
 have e:=JT.symm.trans (mg_of X G MK);cases e;have F1:fY K "is_whole" "is_whole" (aU 5) f1 _ T1 [.int 0 dK]:=lD l1 c1 k1 t1 rfl;have b1:bI K _ ["thing","least"] []:=F1.binds λ_ _ _ _ _ _ us hl=>(λ(q:us.length=2)=>by clear hl;revert us;refine bD (λ_=>bD (λ_=>cF ?_));exact⟨_,rfl,rfl⟩) (by simpa using hl);have e1:bI K _ ["thing","least"] [.int 0 dK]:=F1.binds λ_ _ _ _ _ _ us hl=>(λ(q:us.length=1)=>by clear hl;revert us;refine bD (λ_=>cF ?_);exact⟨_,rfl,rfl⟩) (by simpa using hl);have F2:=aK (st:=aU 6) l2 c2 k2;have b2:=F2.binds (ps:=["n"]) λ_ _ _ _ _ _=>bD (λ_=>cF rfl);have F3:=aK (st:=aU 7) l3 c3 k3;have b3:=F3.binds (ps:=[]) λ_ _ _ _ _ _=>cF rfl;have F4:fY K "raised" "raised" (aU 8) f4 _ T4 [.int 1 dO]:=lD l4 c4 k4 t4 rfl;have b4:bI K _ ["exponent","times"] []:=F4.binds λ_ _ _ _ _ _ us hl=>(λ(q:us.length=2)=>by clear hl;revert us;refine bD (λ_=>bD (λ_=>cF ?_));exact⟨_,rfl,rfl⟩) (by simpa using hl);have e4:bI K _ ["exponent","times"] [.int 1 dO]:=F4.binds λ_ _ _ _ _ _ us hl=>(λ(q:us.length=1)=>by clear hl;revert us;refine bD (λ_=>cF ?_);exact⟨_,rfl,rfl⟩) (by simpa using hl);have F5:=aK (st:=aU 9) l5 c5 k5;have b5:=F5.binds (ps:=["a","b"]) λ_ _ _ _ _ _=>bD (λ_=>bD (λ_=>cF rfl));have F6:=aK (st:=aU 10) l6 c6 k6;have b6:=F6.binds (ps:=["a"]) λ_ _ _ _ _ _=>bD (λ_=>cF rfl);have F7:=aK (st:=aU 11) l7 c7 k7;have b7:=F7.binds (ps:=["a"]) λ_ _ _ _ _ _=>bD (λ_=>cF rfl);have F8:=aK (st:=aU 13) l8 c8 k8;have b8:=F8.binds (ps:=["a","b"]) λ_ _ _ _ _ _=>bD (λ_=>bD (λ_=>cF rfl));have F9:=aK (st:=aU 14) l9 c9 k9;have b9:=F9.binds (ps:=["a","exponent"]) λ_ _ _ _ _ _=>bD (λ_=>bD (λ_=>cF rfl));have F10:=aK (st:=aU 15) Lg Lh Li;have b10:=F10.binds (ps:=["some"]) λ_ _ _ _ _ _=>bD (λ_=>cF rfl);have F11:=aK (st:=aU 17) Lk Ll Lm;have b11:=F11.binds (ps:=["a","b"]) λ_ _ _ _ _ _=>bD (λ_=>bD (λ_=>cF rfl));have F12:=aK (st:=aU 19) Lo Lp Lq;have b12:=F12.binds (ps:=["things"]) λ_ _ _ _ _ _=>bD (λ_=>cF rfl);have F13:=aK (st:=aU 20) Ls Lu Lv;have b13:=F13.binds (ps:=["boxes","box"]) λ_ _ _ _ _ _=>bD (λ_=>bD (λ_=>cF rfl));have F14:=aK (st:=aU 30) Ly Lz LB;have b14:=F14.binds (ps:=["marks"]) λ_ _ _ _ _ _=>bD (λ_=>cF rfl);have F15:=aK (st:=aU 32) LD LF LH;have b15:=F15.binds (ps:=["rows"]) λ_ _ _ _ _ _=>bD (λ_=>cF rfl);have F16:fY K "trace" "trace" (aU 33) dT _ hg [.int 50 cI]:=lD LK LL LM MO rfl;have b16:bI K _ ["rows","boxes","most"] []:=F16.binds λ_ _ _ _ _ _ us hl=>(λ(q:us.length=3)=>by clear hl;revert us;refine bD (λ_=>bD (λ_=>bD (λ_=>cF ?_)));exact⟨_,rfl,rfl⟩) (by simpa using hl);have e16:bI K _ ["rows","boxes","most"] [.int 50 cI]:=F16.binds λ_ _ _ _ _ _ us hl=>(λ(q:us.length=2)=>by clear hl;revert us;refine bD (λ_=>bD (λ_=>cF ?_));exact⟨_,rfl,rfl⟩) (by simpa using hl);have F17:=aK (st:=aU 34) LP LQ LU;have b17:=F17.binds (ps:=["left","things"]) λ_ _ _ _ _ _=>bD (λ_=>bD (λ_=>cF rfl));have F18:=aK (st:=aU 35) LW LX LY;have b18:=F18.binds (ps:=["left"]) λ_ _ _ _ _ _=>bD (λ_=>cF rfl);have F19:=aK (st:=aU 36) L0 L1 L2;have b19:=F19.binds (ps:=["left","boxes"]) λ_ _ _ _ _ _=>bD (λ_=>bD (λ_=>cF rfl));have F20:=aK (st:=aU 38) L4 L5 L6;have b20:=F20.binds (ps:=["_law_script","_law_k"]) λ_ _ _ _ _ _=>bD (λ_=>bD (λ_=>cF rfl));have F21:=aK (st:=aU 39) L8 L9 Ma;have b21:=F21.binds (ps:=["_law_cell"]) λ_ _ _ _ _ _=>bD (λ_=>cF rfl);have F22:=aK (st:=aU 40) Mc Me Mf;have b22:=F22.binds (ps:=["_law_one","_law_other"]) λ_ _ _ _ _ _=>bD (λ_=>bD (λ_=>cF rfl));have F23:=aK (st:=aU 41) Mh Mi Mj;have b23:=F23.binds (ps:=["_law_thing"]) λ_ _ _ _ _ _=>bD (λ_=>cF rfl);have F24:=aK (st:=aU 42) Mm Mn Mo;have b24:=F24.binds (ps:=["_law_number"]) λ_ _ _ _ _ _=>bD (λ_=>cF rfl);have F25:=aK (st:=aU 43) Mq Mr Ms;have b25:=F25.binds (ps:=["_law_cell","_law_box","_law_names"]) λ_ _ _ _ _ _=>bD (λ_=>bD (λ_=>bD (λ_=>cF rfl)));have F26:=aK (st:=aU 44) Mv Mw Mx;have b26:=F26.binds (ps:=["_law_thing"]) λ_ _ _ _ _ _=>bD (λ_=>cF rfl);have F27:=aK (st:=aU 45) Mz MA MB;have b27:=F27.binds (ps:=["_law_cells","_law_names"]) λ_ _ _ _ _ _=>bD (λ_=>bD (λ_=>cF rfl));have F28:=aK (st:=aU 46) MD ME MF;have b28:=F28.binds (ps:=["_law_thing"]) λ_ _ _ _ _ _=>bD (λ_=>cF rfl);have F29:=aK (st:=aU 47) MH MI MJ;have b29:=F29.binds (ps:=["_law_found","_law_most"]) λ_ _ _ _ _ _=>bD (λ_=>bD (λ_=>cF rfl));have F30:=aK (st:=aU 48) ML MM MN;have FM0_0:=aK (st:=bd 22 0) te p0 p1;have bM0_0:=FM0_0.binds (ps:=["self","box","amount"]) λ_ _ _ _ _ _=>bD (λ_=>bD (λ_=>bD (λ_=>cF rfl)));have FM0_1:=aK (st:=bd 22 1) th p3 es;have bM0_1:=FM0_1.binds (ps:=["self","boxes"]) λ_ _ _ _ _ _=>bD (λ_=>bD (λ_=>cF rfl));have FM0_100:=aK (st:=bd 21 0) hn gx de;have bM0_100:=FM0_100.binds (ps:=["self"]) λ_ _ _ _ _ _=>bD (λ_=>cF rfl);have FM1_0:=aK (st:=bd 23 0) to p7 p8;have bM1_0:=FM1_0.binds (ps:=["self","box","other"]) λ_ _ _ _ _ _=>bD (λ_=>bD (λ_=>bD (λ_=>cF rfl)));have FM1_1:=aK (st:=bd 23 1) ts qb ev;have bM1_1:=FM1_1.binds (ps:=["self","boxes"]) λ_ _ _ _ _ _=>bD (λ_=>bD (λ_=>cF rfl));have FM1_100:=aK (st:=bd 21 0) hp gA df;have bM1_100:=FM1_100.binds (ps:=["self"]) λ_ _ _ _ _ _=>bD (λ_=>cF rfl);have FM2_0:=aK (st:=bd 24 0) ty qs qu;have bM2_0:=FM2_0.binds (ps:=["self","box","other"]) λ_ _ _ _ _ _=>bD (λ_=>bD (λ_=>bD (λ_=>cF rfl)));have FM2_1:=aK (st:=bd 24 1) t0 qx ew;have bM2_1:=FM2_1.binds (ps:=["self","boxes"]) λ_ _ _ _ _ _=>bD (λ_=>bD (λ_=>cF rfl));have FM2_100:=aK (st:=bd 21 0) hr gC dh;have bM2_100:=FM2_100.binds (ps:=["self"]) λ_ _ _ _ _ _=>bD (λ_=>cF rfl);have FM3_0:=aK (st:=bd 25 0) t5 q2 q3;have bM3_0:=FM3_0.binds (ps:=["self","box"]) λ_ _ _ _ _ _=>bD (λ_=>bD (λ_=>cF rfl));have FM3_1:=aK (st:=bd 25 1) t7 q5 ex;have bM3_1:=FM3_1.binds (ps:=["self","boxes"]) λ_ _ _ _ _ _=>bD (λ_=>bD (λ_=>cF rfl));have FM3_100:=aK (st:=bd 21 0) ht gI dk;have bM3_100:=FM3_100.binds (ps:=["self"]) λ_ _ _ _ _ _=>bD (λ_=>cF rfl);have FM4_0:=aK (st:=bd 26 0) up q7 q8;have bM4_0:=FM4_0.binds (ps:=["self","box","rows"]) λ_ _ _ _ _ _=>bD (λ_=>bD (λ_=>bD (λ_=>cF rfl)));have FM4_1:=aK (st:=bd 26 1) uy ra ey;have bM4_1:=FM4_1.binds (ps:=["self"]) λ_ _ _ _ _ _=>bD (λ_=>cF rfl);have FM4_2:=aK (st:=bd 26 2) u2 rd eD;have bM4_2:=FM4_2.binds (ps:=["self","boxes"]) λ_ _ _ _ _ _=>bD (λ_=>bD (λ_=>cF rfl));have FM5_0:=aK (st:=bd 27 0) vl rh ri;have bM5_0:=FM5_0.binds (ps:=["self","loop","rounds"]) λ_ _ _ _ _ _=>bD (λ_=>bD (λ_=>bD (λ_=>cF rfl)));have FM5_1:=aK (st:=bd 27 1) vr rn eG;have bM5_1:=FM5_1.binds (ps:=["self"]) λ_ _ _ _ _ _=>bD (λ_=>cF rfl);have FM5_2:=aK (st:=bd 27 2) vu rp eH;have bM5_2:=FM5_2.binds (ps:=["self","boxes"]) λ_ _ _ _ _ _=>bD (λ_=>bD (λ_=>cF rfl));have FM6_0:=aK (st:=bd 28 0) we rr rs;have bM6_0:=FM6_0.binds (ps:=["self","box","marks","rows"]) λ_ _ _ _ _ _=>bD (λ_=>bD (λ_=>bD (λ_=>bD (λ_=>cF rfl))));have FM6_1:=aK (st:=bd 28 1) wl rv e0;have bM6_1:=FM6_1.binds (ps:=["self"]) λ_ _ _ _ _ _=>bD (λ_=>cF rfl);have FM6_2:=aK (st:=bd 28 2) wp rx e2;have bM6_2:=FM6_2.binds (ps:=["self","boxes"]) λ_ _ _ _ _ _=>bD (λ_=>bD (λ_=>cF rfl));have FM6_3:=aK (st:=bd 28 3) wr r0 e3;have bM6_3:=FM6_3.binds (ps:=["self","boxes"]) λ_ _ _ _ _ _=>bD (λ_=>bD (λ_=>cF rfl));have FM7_0:=aK (st:=bd 29 0) wy r2 r3;have bM7_0:=FM7_0.binds (ps:=["self","loop","borne"]) λ_ _ _ _ _ _=>bD (λ_=>bD (λ_=>bD (λ_=>cF rfl)));have FM7_1:=aK (st:=bd 29 1) w2 r5 e5;have bM7_1:=FM7_1.binds (ps:=["self"]) λ_ _ _ _ _ _=>bD (λ_=>cF rfl);have FM7_2:=aK (st:=bd 29 2) w4 r8 e6;have bM7_2:=FM7_2.binds (ps:=["self","boxes"]) λ_ _ _ _ _ _=>bD (λ_=>bD (λ_=>cF rfl));have T:Txt K mg:=⟨⟨f1,_,T1,_,[.int 0],F1,b1,e1,mg_of X G a1,(.cons ⟨_,rfl⟩ .nil),λ_=>(.cons (.int _) .nil)⟩,⟨f2,_,F2,b2,mg_of X G a2⟩,⟨f3,_,F3,b3,mg_of X G a3⟩,⟨f4,_,T4,_,[.int 1],F4,b4,e4,mg_of X G a4,(.cons ⟨_,rfl⟩ .nil),λ_=>(.cons (.int _) .nil)⟩,⟨f5,_,F5,b5,mg_of X G a5⟩,⟨f6,_,F6,b6,mg_of X G a6⟩,⟨f7,_,F7,b7,mg_of X G a7⟩,⟨f8,_,F8,b8,mg_of X G a8⟩,⟨f9,_,F9,b9,mg_of X G a9⟩,⟨gN,_,F10,b10,mg_of X G Lf⟩,⟨gO,_,F11,b11,mg_of X G Lj⟩,⟨gT,_,F12,b12,mg_of X G Ln⟩,⟨gV,_,F13,b13,mg_of X G Lr⟩,⟨g0,_,F14,b14,mg_of X G Lx⟩,⟨g1,_,F15,b15,mg_of X G LC⟩,⟨dT,_,hg,_,[.int 50],F16,b16,e16,mg_of X G LJ,(.cons ⟨_,rfl⟩ .nil),λ_=>(.cons (.int _) .nil)⟩,⟨g2,_,F17,b17,mg_of X G LN⟩,⟨g3,_,F18,b18,mg_of X G LV⟩,⟨g4,_,F19,b19,mg_of X G LZ⟩,⟨g5,_,F20,b20,mg_of X G L3⟩,⟨g6,_,F21,b21,mg_of X G L7⟩,⟨g7,_,F22,b22,mg_of X G Mb⟩,⟨g8,_,F23,b23,mg_of X G Mg⟩,⟨ha,_,F24,b24,mg_of X G Ml⟩,⟨hb,_,F25,b25,mg_of X G Mp⟩,⟨hc,_,F26,b26,mg_of X G Mu⟩,⟨hd,_,F27,b27,mg_of X G My⟩,⟨he,_,F28,b28,mg_of X G MC⟩,⟨hf,_,F29,b29,mg_of X G MG⟩,⟨ai,mg_of X G MV,⟨Ir,Is,Iu,Iv⟩,tb,tc,⟨bm,_,⟨Iw,td,py,Ix⟩,FM0_0,bM0_0⟩,⟨br,_,⟨tg,p2,es⟩,FM0_1,bM0_1⟩,⟨as,_,⟨hm,gw,de⟩,FM0_100,bM0_100⟩,⟨dl,mg_of X G Iy,⟨⟨_,Iz⟩,IA,IB⟩,IC⟩⟩,⟨aj,mg_of X G MW,⟨ID,IE,IF,IG⟩,ti,tk,⟨bs,_,⟨IH,tn,p4,II⟩,FM1_0,bM1_0⟩,⟨bx,_,⟨tr,qa,ev⟩,FM1_1,bM1_1⟩,⟨az,_,⟨ho,gy,df⟩,FM1_100,bM1_100⟩,⟨ds,mg_of X G IJ,⟨⟨_,IK⟩,IL,IM⟩,IN⟩⟩,⟨al,mg_of X G MX,⟨IP,IQ,IR,IS⟩,tt,tv,⟨bz,_,⟨IT,tx,qn,IU⟩,FM2_0,bM2_0⟩,⟨bF,_,⟨tA,qv,ew⟩,FM2_1,bM2_1⟩,⟨a0,_,⟨hq,gB,dh⟩,FM2_100,bM2_100⟩,⟨dt,mg_of X G IV,⟨⟨_,IW⟩,IX,IY⟩,IZ⟩⟩,⟨be,mg_of X G MY,⟨I0,I1,I2,I3⟩,t2,⟨b0,_,⟨I4,t3,q1,I5⟩,FM3_0,bM3_0⟩,⟨cb,_,⟨t6,q4,ex⟩,FM3_1,bM3_1⟩,⟨bi,_,⟨hs,gD,dk⟩,FM3_100,bM3_100⟩,⟨dx,mg_of X G I6,⟨⟨_,I7⟩,I8,I9⟩,Ja⟩⟩,⟨ad,mg_of X G MZ,⟨Jb,Jc,Jd,Je⟩,t8,ua,ub,⟨cd,_,⟨Jf,un,q6,Jg⟩,FM4_0,bM4_0⟩,⟨ce,_,⟨ux,q9,ey⟩,FM4_1,bM4_1⟩,⟨cg,_,⟨u1,rb,eD⟩,FM4_2,bM4_2⟩,⟨dA,mg_of X G Jh,⟨⟨_,Ji⟩,Jj,Jk⟩,Jl⟩⟩,⟨an,mg_of X G M0,⟨Jm,Jn,Jo,Jp⟩,u8,va,⟨ch,_,⟨Jq,vb,rg,Jr⟩,FM5_0,bM5_0⟩,⟨cl,_,⟨vm,rj,eG⟩,FM5_1,bM5_1⟩,⟨cn,_,⟨vs,ro,eH⟩,FM5_2,bM5_2⟩,⟨dB,mg_of X G Js,⟨⟨_,Jt⟩,Ju,Jv⟩,Jw⟩⟩,⟨ab,mg_of X G M3,⟨Jx,Jy,Jz,JA⟩,v1,v2,v3,v4,⟨co,_,⟨JB,v8,rq,JC⟩,FM6_0,bM6_0⟩,⟨cp,_,⟨wi,ru,e0⟩,FM6_1,bM6_1⟩,⟨cs,_,⟨wn,rw,e2⟩,FM6_2,bM6_2⟩,⟨ct,_,⟨wq,ry,e3⟩,FM6_3,bM6_3⟩,⟨dF,mg_of X G JD,⟨⟨_,JE⟩,JF,JG⟩,JH⟩⟩,⟨ar,mg_of X G M4,⟨JI,JJ,JK,JL⟩,ws,wt,⟨cw,_,⟨JM,wx,r1,JN⟩,FM7_0,bM7_0⟩,⟨cx,_,⟨w0,r4,e5⟩,FM7_1,bM7_1⟩,⟨cD,_,⟨w3,r7,e6⟩,FM7_2,bM7_2⟩,⟨dI,mg_of X G JO,⟨⟨_,JP⟩,JQ,JR⟩,JS⟩⟩,⟨bk,bj,bl,⟨mg_of X G MP,MQ⟩,⟨mg_of X G MR,MS⟩,⟨mg_of X G MT,MU⟩,s9,ta,⟨⟨H7,H8,H9⟩,⟨⟨_,Ia⟩,Ib,Ic⟩⟩,⟨⟨Ie,If,Ig⟩,⟨⟨_,Ih⟩,Ii,Ij⟩⟩,⟨⟨Ik,Il,Im⟩,⟨⟨_,Io⟩,Ip,Iq⟩⟩⟩,mg_none_of X G z1,mg_none_of X G z2,mg_none_of X G z3,mg_none_of X G z4,mg_none_of X G z5,mg_none_of X G z6,mg_none_of X G z7,mg_none_of X G z8,mg_none_of X G z9,mg_none_of X G M5,mg_none_of X G M6,mg_none_of X G M7,mg_none_of X G M8,mg_none_of X G M9⟩;exact⟨fnOf "law" "law" (au (aU 48)) (ap (aU 48)) (am (aU 48)) .none hS hT hU hv e7 hV,λs v=> .of_eq rfl,λbase _ _=>AK T F30⟩
theorem walk {l:PySem.W.OpenLaw} {q:Program} {loose:List Str} {XP:(Str->Option Value)->Heap->Prop} {YP:World->Heap->Prop} {d:DefRec} {K:Params->PySem.W.Frag} (hn:l.most=some 63) (hdf:d.params.defaults=[])
 (hY:∀(w:World) (h:Heap),YP w h->(K w.params).In h)
 (F:∀(w:World) (mg:Str->Option Value) (fa:Addr) (h:Heap),(K w.params).In h->h.Ns mainGlobals mg->mg d.name=some (.ref fa)->
   ∃fd:FuncData,(∀(s:Shared) (u:Value),BindsTo s fd ⟨[u],[]⟩ [("_law_script",u)])/\∀base:Heap,(K w.params).In base->base.Ns mainGlobals mg->dG l.prog w (K w.params) mg base sg 100 fa fd ["_law_script"] (u9 (K w.params) ir)):
 PySem.W.WalkO q loose XP YP l.row.toRowW d [] (λf vs=>PySem.call f vs):=
 L2.walk_ofC (n:=63) (k:=100) (x:="_law_script") (CX:=λ_=>sg) (sp:=λw=>u9 (K w.params) ir) hn (by decide) hdf ⟨rfl,by decide,by decide⟩ hY F (λ_ _ _ _ hl hc hO hS=>oW hO hS hl hc) λ_ _ _ _ _ z=>z
end Lw
namespace PySem.W.Fast
theorem te10878023983088476356:0=0:=rfl
theorem te13961602747736185473:0=0:=rfl
theorem te9722654462569456058:0=0:=rfl
theorem te7866204037859930941:0=0:=rfl
theorem te8021934558026316320:0=0:=rfl
theorem te9351208960399464516:0=0:=rfl
theorem te11470803083463714014:0=0:=rfl
theorem te15037486822161957647:0=0:=rfl
theorem te13236204479691769135:0=0:=rfl
theorem te14026786617328710312:0=0:=rfl
theorem te4037779911443507943:0=0:=rfl
theorem te6774972166314226571:0=0:=rfl
theorem te8815262045710192957:0=0:=rfl
theorem te17114647320140408375:0=0:=rfl
theorem te4159642191328385647:0=0:=rfl
theorem te14088083209804685728:0=0:=rfl
theorem te12505471072405184067:0=0:=rfl
theorem te9559407785689606158:0=0:=rfl
theorem te6420987157106822387:0=0:=rfl
theorem te3814861450448558460:0=0:=rfl
theorem te13586805398740159849:0=0:=rfl
theorem te17052464069543945224:0=0:=rfl
theorem te14358822412743897210:0=0:=rfl
theorem te8944697362614777620:0=0:=rfl
theorem te10507617287030541556:0=0:=rfl
theorem te17225676074150086731:0=0:=rfl
theorem te14687505286863793950:0=0:=rfl
theorem te5782827662431943703:0=0:=rfl
theorem te2234878561204015267:0=0:=rfl
theorem te16381737511803904711:0=0:=rfl
theorem te3053579525897149025:0=0:=rfl
theorem te8109852738679280554:0=0:=rfl
theorem te14494925429583189753:0=0:=rfl
theorem te7689229851769029167:0=0:=rfl
theorem te16523447428472651175:0=0:=rfl
theorem te18144233532082045275:0=0:=rfl
theorem te3136900368168813673:0=0:=rfl
theorem te4799388144353819159:0=0:=rfl
theorem te15176182151901787178:0=0:=rfl
theorem te45114957487939744:0=0:=rfl
theorem te17441251730533696678:0=0:=rfl
theorem te1217385917965953996:0=0:=rfl
theorem te3751263145853124913:0=0:=rfl
theorem te12036978668597100656:0=0:=rfl
theorem te4262621563987395722:0=0:=rfl
theorem te5258591880080446738:0=0:=rfl
theorem te15115064472227626321:0=0:=rfl
theorem te9463114785055556241:0=0:=rfl
theorem te10973773673133301548:0=0:=rfl
theorem te13778326449490016196:0=0:=rfl
theorem te15744630417259342732:0=0:=rfl
theorem te13199304934158519378:0=0:=rfl
theorem te15963126673022941735:0=0:=rfl
theorem te2803530593117722428:0=0:=rfl
theorem te11093068981546490724:0=0:=rfl
theorem te11854527824327964967:0=0:=rfl
theorem te14123405561274835639:0=0:=rfl
theorem te10000309166150529960:0=0:=rfl
theorem te4334820685014973701:0=0:=rfl
theorem te11813318552317687577:0=0:=rfl
theorem te13316088218588424011:0=0:=rfl
theorem te8916738822003023298:0=0:=rfl
theorem te2727619427115171612:0=0:=rfl
theorem te6969331305091039331:0=0:=rfl
theorem te8850337134857081640:0=0:=rfl
theorem te5147536899334298705:0=0:=rfl
theorem te15497196465819087488:0=0:=rfl
theorem te10944083912650674739:0=0:=rfl
theorem te10224496925052254940:0=0:=rfl
theorem te14511979012601791943:0=0:=rfl
theorem te10398601102593513388:0=0:=rfl
theorem te6086673746131969404:0=0:=rfl
theorem te15104478376510748858:0=0:=rfl
theorem te9030340408305463791:0=0:=rfl
theorem te9819003172965103767:0=0:=rfl
theorem te1851302331471472282:0=0:=rfl
theorem te5397064519726572898:0=0:=rfl
theorem te16787188420322851725:0=0:=rfl
theorem te14126595551431771361:0=0:=rfl
theorem te17677970039429628898:0=0:=rfl
theorem te15017421292287238017:0=0:=rfl
theorem te4735109277149299006:0=0:=rfl
theorem te18406382641259118637:0=0:=rfl
theorem te2481901381000278349:0=0:=rfl
theorem te8623838495663450370:0=0:=rfl
theorem te8710972479081067534:0=0:=rfl
theorem te1567676011063057743:0=0:=rfl
theorem te8110191319059238221:0=0:=rfl
theorem te7634164541941067011:0=0:=rfl
theorem te8661756278011872428:0=0:=rfl
theorem te8260735382592916906:0=0:=rfl
theorem te661636840523115402:0=0:=rfl
theorem te9342064218542977308:0=0:=rfl
theorem te2148294975979897414:0=0:=rfl
theorem te5939096948640127804:0=0:=rfl
theorem te9720738957795334992:0=0:=rfl
theorem te15721489155905159941:0=0:=rfl
theorem te11815640667094076358:0=0:=rfl
theorem te338298665806417145:0=0:=rfl
theorem te13856395938081436806:0=0:=rfl
theorem te6423832138087542169:0=0:=rfl
theorem te7845047464264460503:0=0:=rfl
theorem te5209117105917431021:0=0:=rfl
theorem te2276499381917885233:0=0:=rfl
theorem te7700614486869545902:0=0:=rfl
theorem te9379432061664831754:0=0:=rfl
theorem te9750984611156528748:0=0:=rfl
theorem te11898413171084010451:0=0:=rfl
theorem te2700064268741967351:0=0:=rfl
theorem te12223512176080152096:0=0:=rfl
theorem te15247745646276532688:0=0:=rfl
theorem te15072072898379194744:0=0:=rfl
theorem te7600825319367448845:0=0:=rfl
theorem te9012090139309537577:0=0:=rfl
theorem te12339152668607615739:0=0:=rfl
theorem te211447287100295000:0=0:=rfl
theorem te7946820288993458456:0=0:=rfl
theorem te12607848712230185557:0=0:=rfl
theorem te10749993676156171131:0=0:=rfl
theorem te12237565364410313699:0=0:=rfl
theorem te9939261858938253633:0=0:=rfl
theorem te1339230430367668240:0=0:=rfl
theorem te16484310752204913725:0=0:=rfl
theorem te18367913346855260653:0=0:=rfl
theorem te11607316369528695230:0=0:=rfl
theorem te8540035846413830980:0=0:=rfl
theorem te7967572678421687265:0=0:=rfl
theorem te4956469062895916138:0=0:=rfl
theorem te882890323747265560:0=0:=rfl
theorem te7904140320879353700:0=0:=rfl
theorem te9196931747674295928:0=0:=rfl
theorem te2561699428436002553:0=0:=rfl
theorem te1026780005492361729:0=0:=rfl
theorem te13409759449139992238:0=0:=rfl
theorem te5589269624246700038:0=0:=rfl
theorem te9108248464847140348:0=0:=rfl
theorem te11023094057444088209:0=0:=rfl
theorem te11344099754543744930:0=0:=rfl
theorem te12418203768050233557:0=0:=rfl
theorem te5132135873845970367:0=0:=rfl
theorem te5274971392650776272:0=0:=rfl
theorem te4516781528774654451:0=0:=rfl
theorem te16588572186650372775:0=0:=rfl
theorem te4226889423668152201:0=0:=rfl
theorem te4718649932452150804:0=0:=rfl
theorem te4540325059113540254:0=0:=rfl
theorem te17802398330496038830:0=0:=rfl
theorem te8129594007718035767:0=0:=rfl
theorem te9221973529113012604:0=0:=rfl
theorem te8265797362494570101:0=0:=rfl
theorem te1189771504975536422:0=0:=rfl
theorem te16642790334443859238:0=0:=rfl
theorem te3321069508071999736:0=0:=rfl
theorem te13299561316837280012:0=0:=rfl
theorem te7495858529924023672:0=0:=rfl
theorem te1498003313328134536:0=0:=rfl
theorem te9973716856912438378:0=0:=rfl
theorem te9570065967157351465:0=0:=rfl
theorem te37538866458615086:0=0:=rfl
theorem te5084065872109462591:0=0:=rfl
theorem te13541000125858581378:0=0:=rfl
theorem te2767189452967143784:0=0:=rfl
theorem te759854875874753008:0=0:=rfl
theorem te521767274419603858:0=0:=rfl
theorem te14716309346275802748:0=0:=rfl
theorem te17212364819458739429:0=0:=rfl
theorem te18393457617462490000:0=0:=rfl
theorem te760499172179328451:0=0:=rfl
theorem te10112241000464057732:0=0:=rfl
theorem te13629531623920638554:0=0:=rfl
theorem te11736094436207230342:0=0:=rfl
theorem te2525390736200683278:0=0:=rfl
theorem te9588609330900988560:0=0:=rfl
theorem te8743047386002074774:0=0:=rfl
theorem te9496505542521087842:0=0:=rfl
theorem te7198406896912945736:0=0:=rfl
theorem te12943518484248966846:0=0:=rfl
theorem te2669654771808735534:0=0:=rfl
theorem te797969410140042621:0=0:=rfl
theorem te6229436722816525702:0=0:=rfl
theorem te1573056566314629345:0=0:=rfl
theorem te11591220314858834664:0=0:=rfl
theorem te12595320815007051558:0=0:=rfl
theorem te13548148110007645944:0=0:=rfl
theorem te9766238592790092962:0=0:=rfl
theorem te9840421659435681996:0=0:=rfl
theorem te17311877257758738474:0=0:=rfl
theorem te15268504453468714956:0=0:=rfl
theorem te7855344461407706394:0=0:=rfl
theorem te14683096893143484716:0=0:=rfl
theorem te6580597039175684146:0=0:=rfl
theorem te10460360165691818751:0=0:=rfl
theorem te12164540323266294235:0=0:=rfl
theorem te12550663941739799836:0=0:=rfl
theorem te9668995798140786599:0=0:=rfl
theorem te3013264650035972919:0=0:=rfl
theorem te17112976080560688148:0=0:=rfl
theorem te17314166162800859443:0=0:=rfl
theorem te14110644917889084783:0=0:=rfl
theorem te16384574246193428715:0=0:=rfl
theorem te2443191824073241142:0=0:=rfl
theorem te5773831683199335244:0=0:=rfl
theorem te4859335190964196819:0=0:=rfl
theorem te8633706207213032531:0=0:=rfl
theorem te10519823256549407520:0=0:=rfl
theorem te10610640945451391289:0=0:=rfl
theorem te3686957540251420023:0=0:=rfl
theorem te17490014419938879502:0=0:=rfl
theorem te14876462885212877155:0=0:=rfl
theorem te15663524350501898994:0=0:=rfl
theorem te11567235675044979336:0=0:=rfl
theorem te5351593887261628159:0=0:=rfl
theorem te1852273387101215257:0=0:=rfl
theorem te11034593168436873950:0=0:=rfl
theorem te2016263917994159069:0=0:=rfl
theorem te9901949986268735241:0=0:=rfl
theorem te7822727414764670051:0=0:=rfl
theorem te13084128422349992945:0=0:=rfl
theorem te9242826045732802368:0=0:=rfl
theorem te13900503133955763507:0=0:=rfl
theorem te5131081692582572243:0=0:=rfl
theorem te7860170301092542313:0=0:=rfl
theorem te18044552118392754070:0=0:=rfl
theorem te7969790637517104695:0=0:=rfl
theorem te4738342726081001923:0=0:=rfl
theorem te16857808911805945837:0=0:=rfl
theorem te15154828919409860892:0=0:=rfl
theorem te14923544694278022729:0=0:=rfl
theorem te11600075513372065950:0=0:=rfl
theorem te2613641650114623337:0=0:=rfl
theorem te4947165753132068652:0=0:=rfl
theorem te352648994869606738:0=0:=rfl
theorem te11643868415406403389:0=0:=rfl
theorem te1466456523253464034:0=0:=rfl
theorem te6059715728812706073:0=0:=rfl
theorem te10635919660155528348:0=0:=rfl
theorem te7044710945721879829:0=0:=rfl
theorem te4283996013298459680:0=0:=rfl
theorem te3770139365802984260:0=0:=rfl
theorem te2815249330892966653:0=0:=rfl
theorem te14800612514382927726:0=0:=rfl
theorem te7763074659569411657:0=0:=rfl
theorem te3408641607051099618:0=0:=rfl
theorem te2600867970765319435:0=0:=rfl
theorem te5482816692730739020:0=0:=rfl
theorem te17396535499407284838:0=0:=rfl
theorem te13560860520701807769:0=0:=rfl
theorem te6742665053292557404:0=0:=rfl
theorem te4643044179371778509:0=0:=rfl
theorem te9218969655817535957:0=0:=rfl
theorem te8638778491478865131:0=0:=rfl
theorem te2379308188232075174:0=0:=rfl
theorem te766844594694095553:0=0:=rfl
theorem te10390278823199257953:0=0:=rfl
theorem te6155072505578383773:0=0:=rfl
theorem te16742147292189812639:0=0:=rfl
theorem te764951712440752075:0=0:=rfl
theorem te11359704359634615337:0=0:=rfl
theorem te5167690031014439291:0=0:=rfl
theorem te2722701971014030196:0=0:=rfl
theorem te16807694381443553026:0=0:=rfl
theorem te6042585557685358279:0=0:=rfl
theorem te10251051917727408089:0=0:=rfl
theorem te4891365610441717761:0=0:=rfl
theorem te849730400795712544:0=0:=rfl
theorem te15343466810205863657:0=0:=rfl
theorem te413830167841805362:0=0:=rfl
theorem te9755916824074394817:0=0:=rfl
theorem te7572593539529601576:0=0:=rfl
theorem te12035253118956581160:0=0:=rfl
theorem te5004194825532419409:0=0:=rfl
theorem te10159456481788528711:0=0:=rfl
theorem te11887529198743138014:0=0:=rfl
theorem te1378094602312841228:0=0:=rfl
theorem te14620151393319845390:0=0:=rfl
theorem te10888424866513030988:0=0:=rfl
theorem te13841309160438412641:0=0:=rfl
theorem te16865101845905039902:0=0:=rfl
theorem te18231239302804696556:0=0:=rfl
theorem te15814599030902963191:0=0:=rfl
theorem te5930503011487651200:0=0:=rfl
theorem te9663330910403664862:0=0:=rfl
theorem te9801288233640353605:0=0:=rfl
theorem te9745076009235808018:0=0:=rfl
theorem te14785133411546647282:0=0:=rfl
theorem te14145271669180776024:0=0:=rfl
theorem te9102367822586211740:0=0:=rfl
theorem te8032970878604756640:0=0:=rfl
theorem te16267423919042552228:0=0:=rfl
theorem te131538439172358810:0=0:=rfl
theorem te5150800034276590192:0=0:=rfl
theorem te10116405009402611799:0=0:=rfl
theorem te13127285372406520132:0=0:=rfl
theorem te16806822073574524424:0=0:=rfl
theorem te3706301121489348642:0=0:=rfl
theorem te6535947330486362445:0=0:=rfl
theorem te3775471244722857672:0=0:=rfl
theorem te2291599855334174913:0=0:=rfl
theorem te10399474378733809894:0=0:=rfl
theorem te16145964262064671960:0=0:=rfl
theorem te5281365676105821762:0=0:=rfl
theorem te11825182464031604961:0=0:=rfl
theorem te16414324459408571852:0=0:=rfl
theorem te14196259301112400490:0=0:=rfl
theorem te5511391994944840980:0=0:=rfl
theorem te17089558741377208240:0=0:=rfl
theorem te14297779682592953513:0=0:=rfl
theorem te3400550301900289295:0=0:=rfl
theorem te10405145361407701065:0=0:=rfl
theorem te383066404067208481:0=0:=rfl
theorem te955595536104154703:0=0:=rfl
theorem te12583492003685392412:0=0:=rfl
theorem te320306601291395955:0=0:=rfl
theorem te11868966569815618106:0=0:=rfl
theorem te4451740286928021810:0=0:=rfl
theorem te3729958065700534190:0=0:=rfl
theorem te4890583202742864487:0=0:=rfl
theorem te9108828169667943504:0=0:=rfl
theorem te1953305148905852908:0=0:=rfl
theorem te7415820627321475160:0=0:=rfl
theorem te12536599127696285058:0=0:=rfl
theorem te8256141527655533991:0=0:=rfl
theorem te1408476604161426945:0=0:=rfl
theorem te9662459283174103058:0=0:=rfl
theorem te11856293385916815289:0=0:=rfl
theorem te16595780855963522392:0=0:=rfl
theorem te3274309393409726054:0=0:=rfl
theorem te12123166800528675867:0=0:=rfl
theorem te14965271466445910769:0=0:=rfl
theorem te7912966296935380819:0=0:=rfl
theorem te12524812810175060569:0=0:=rfl
theorem te10886320398301904686:0=0:=rfl
theorem te16741905120384680241:0=0:=rfl
theorem te18248782763449306705:0=0:=rfl
theorem te2491527113897818816:0=0:=rfl
theorem te7713142430409425822:0=0:=rfl
theorem te6458485141024111839:0=0:=rfl
theorem te4670257492266418593:0=0:=rfl
theorem te15627932756453836147:0=0:=rfl
theorem te10991686442314523731:0=0:=rfl
theorem te6603795016456975781:0=0:=rfl
theorem te4446499879499375655:0=0:=rfl
theorem te12589063721382114349:0=0:=rfl
theorem te9835239247301703103:0=0:=rfl
theorem te1057227144404138150:0=0:=rfl
theorem te5602027597835563230:0=0:=rfl
theorem te17006777187335495570:0=0:=rfl
theorem te1966544737170685451:0=0:=rfl
theorem te8144983446126647842:0=0:=rfl
theorem te17379859804851298019:0=0:=rfl
theorem te12038701896530827581:0=0:=rfl
theorem te6546938973986109766:0=0:=rfl
theorem te11920450372375773845:0=0:=rfl
theorem te2310899141525201096:0=0:=rfl
theorem te13128329669780643509:0=0:=rfl
theorem te13987537220713672519:0=0:=rfl
theorem te7759940762767062474:0=0:=rfl
theorem te9728685500351388463:0=0:=rfl
theorem te4230666756491384581:0=0:=rfl
theorem te15981252739620387970:0=0:=rfl
theorem te14122622756719581559:0=0:=rfl
theorem te17459852649953062605:0=0:=rfl
theorem te4797196629158893513:0=0:=rfl
theorem te5808923340278307481:0=0:=rfl
theorem te575758451654876890:0=0:=rfl
theorem te8660742169287941975:0=0:=rfl
theorem te3338588635848959839:0=0:=rfl
theorem te2952973260514793243:0=0:=rfl
theorem te11996612696138650946:0=0:=rfl
theorem te12577170128556267879:0=0:=rfl
theorem te4908513885970232664:0=0:=rfl
theorem te13743675327360981173:0=0:=rfl
theorem te2304528564722125206:0=0:=rfl
theorem te7704954788002647457:0=0:=rfl
theorem te13401683472092005991:0=0:=rfl
theorem te13247131819702501464:0=0:=rfl
theorem te14904426727359121663:0=0:=rfl
theorem te8351750420430086299:0=0:=rfl
theorem te1067942260550290731:0=0:=rfl
theorem te14319233867657268714:0=0:=rfl
theorem te2104258198010575060:0=0:=rfl
theorem te634373026635815033:0=0:=rfl
theorem te16782076512440495911:0=0:=rfl
theorem te13003713849210201270:0=0:=rfl
theorem te3589378718880315318:0=0:=rfl
theorem te12674877984906034569:0=0:=rfl
theorem te1900333268536781747:0=0:=rfl
theorem te13924838153441063863:0=0:=rfl
theorem te11339679310249375980:0=0:=rfl
theorem te11239215747462848709:0=0:=rfl
theorem te5888810311889059614:0=0:=rfl
theorem te12450479390909613273:0=0:=rfl
theorem te5309469067407978595:0=0:=rfl
theorem te14690610418027685145:0=0:=rfl
theorem te11774368568246051301:0=0:=rfl
theorem te10095839097180575884:0=0:=rfl
theorem te13833393539255102068:0=0:=rfl
theorem te9323729133654664048:0=0:=rfl
theorem te2122046596778845144:0=0:=rfl
theorem te14138970094396579907:0=0:=rfl
theorem te3386216303456987072:0=0:=rfl
theorem te15112267013008072698:0=0:=rfl
theorem te5327263629617565424:0=0:=rfl
theorem te13188376703954566925:0=0:=rfl
theorem te13678633848799717569:0=0:=rfl
theorem te14058467185418533977:0=0:=rfl
theorem te8396981051758475497:0=0:=rfl
theorem te283787845153456671:0=0:=rfl
theorem te6774982562810160359:0=0:=rfl
theorem te18026224619828319638:0=0:=rfl
theorem te12669087671974429216:0=0:=rfl
theorem te5750931329010021068:0=0:=rfl
theorem te18267629678937323795:0=0:=rfl
theorem te806312982658413926:0=0:=rfl
theorem te13999235932521514804:0=0:=rfl
theorem te10999008162726654468:0=0:=rfl
theorem te13245669916597982847:0=0:=rfl
theorem te8562817707906592530:0=0:=rfl
theorem te8383180820907523192:0=0:=rfl
theorem te15244048850234864770:0=0:=rfl
theorem te3081051380727617054:0=0:=rfl
theorem te10156309949985372484:0=0:=rfl
theorem te10089129356807191399:0=0:=rfl
theorem te18248088626722378769:0=0:=rfl
theorem te14714417185196675559:0=0:=rfl
theorem te5518022769662100089:0=0:=rfl
theorem te16004276926742621461:0=0:=rfl
theorem te15259921008222892596:0=0:=rfl
theorem te4237419663201651216:0=0:=rfl
theorem te17979263727104692845:0=0:=rfl
theorem te13276166524829304420:0=0:=rfl
theorem te10153404433024084128:0=0:=rfl
theorem te6533093761447713704:0=0:=rfl
theorem te8836839444617633743:0=0:=rfl
theorem te3791225053378058975:0=0:=rfl
theorem te2930253662187212048:0=0:=rfl
theorem te6314929218100790576:0=0:=rfl
theorem te1678411421527852462:0=0:=rfl
theorem te15133093596118028824:0=0:=rfl
theorem te6126947080112650177:0=0:=rfl
theorem te12003079559234953856:0=0:=rfl
theorem te12527117175614620725:0=0:=rfl
theorem te6643897769467601796:0=0:=rfl
theorem te3968134154013207278:0=0:=rfl
theorem te11969669366392836538:0=0:=rfl
theorem te16342986214600028821:0=0:=rfl
theorem te17757311167591957221:0=0:=rfl
theorem te10496124087584491722:0=0:=rfl
theorem te2358141687379987945:0=0:=rfl
theorem te11104680153062399375:0=0:=rfl
theorem te8523424235439189409:0=0:=rfl
theorem te10708812766411046408:0=0:=rfl
theorem te13514596217495666520:0=0:=rfl
theorem te13935332622065216122:0=0:=rfl
theorem te6723200066768672877:0=0:=rfl
theorem te17901731889111997100:0=0:=rfl
theorem te9408266700967795342:0=0:=rfl
theorem te1307323989559309719:0=0:=rfl
theorem te7634623809955081246:0=0:=rfl
theorem te8853721507908857916:0=0:=rfl
noncomputable def tw6163982451085165568:Unit:=()
noncomputable def tw3916579540235625777:Unit:=()
noncomputable def tw12459735992316001562:Unit:=()
noncomputable def tw11309656275146163069:Unit:=()
noncomputable def tw14831840393821483260:Unit:=()
noncomputable def tw1874760807074256435:Unit:=()
noncomputable def tw7391183195945980508:Unit:=()
noncomputable def tw536321183955002117:Unit:=()
noncomputable def tw13241681065405825743:Unit:=()
noncomputable def tw16547292192540715315:Unit:=()
noncomputable def tw14928493025920944452:Unit:=()
noncomputable def tw18307214732940183174:Unit:=()
noncomputable def tw17654517784010679304:Unit:=()
noncomputable def tw17195032126959532617:Unit:=()
noncomputable def tw755903950030852394:Unit:=()
noncomputable def tw13022782702349862347:Unit:=()
noncomputable def tw16868999938666881483:Unit:=()
noncomputable def tw6534195269396797772:Unit:=()
noncomputable def tw12797085613210044365:Unit:=()
noncomputable def tw5071088244227032432:Unit:=()
noncomputable def tw17945380804113086644:Unit:=()
noncomputable def tw9486720704545139284:Unit:=()
noncomputable def tw6497895533627616916:Unit:=()
noncomputable def tw1570495497022616278:Unit:=()
noncomputable def tw4207293318384606362:Unit:=()
noncomputable def tw14577001148590156571:Unit:=()
noncomputable def tw14506726502220087259:Unit:=()
noncomputable def tw457991739303762492:Unit:=()
noncomputable def tw16626405767916136031:Unit:=()
end PySem.W.Fast
open PySem PySem.W PyProof.Rows
set_option maxRecDepth 100000 in
set_option maxHeartbeats 0 in
theorem PySem.Challenge.cw_hydrahouse_k65_each_step_falls_holds : PySem.Challenge.rw_hydrahouse_k65_each_step_falls.Holds := by
 w_on;o_law;k_head;(case hw=>w_witness2)
 k_fill
 refine Lw.walk (l:=PySem.Challenge.rw_hydrahouse_k65_each_step_falls) rfl rfl (λw h Y=>PySem.W.kIn_of Y) ?F
 case F=>
  intro w mg fa h KX G hmg;refine' Lw.all_mk KX G hmg ?a1 ?l1 ?c1 ?k1 ?a2 ?l2 ?c2 ?k2 ?a3 ?l3 ?c3 ?k3 ?a4 ?l4 ?c4 ?k4 ?a5 ?l5 ?c5 ?k5 ?a6 ?l6 ?c6 ?k6 ?a7 ?l7 ?c7 ?k7 ?a8 ?l8 ?c8 ?k8 ?a9 ?l9 ?c9 ?k9 ?Lf ?Lg ?Lh ?Li ?Lj ?Lk ?Ll ?Lm ?Ln ?Lo ?Lp ?Lq ?Lr ?Ls ?Lu ?Lv ?Lx ?Ly ?Lz ?LB ?LC ?LD ?LF ?LH ?LJ ?LK ?LL ?LM ?LN ?LP ?LQ ?LU ?LV ?LW ?LX ?LY ?LZ ?L0 ?L1 ?L2 ?L3 ?L4 ?L5 ?L6 ?L7 ?L8 ?L9 ?Ma ?Mb ?Mc ?Me ?Mf ?Mg ?Mh ?Mi ?Mj ?Ml ?Mm ?Mn ?Mo ?Mp ?Mq ?Mr ?Ms ?Mu ?Mv ?Mw ?Mx ?My ?Mz ?MA ?MB ?MC ?MD ?ME ?MF ?MG ?MH ?MI ?MJ ?MK ?ML ?MM ?MN ?t1 ?t4 ?MO ?MP ?MQ ?MR ?MS ?MT ?MU ?s9 ?ta ?H7 ?H8 ?H9 ?Ia ?Ib ?Ic ?Ie ?If ?Ig ?Ih ?Ii ?Ij ?Ik ?Il ?Im ?Io ?Ip ?Iq ?MV ?Ir ?Is ?Iu ?Iv ?Iw ?Ix ?tb ?tc ?td ?py ?te ?p0 ?p1 ?tg ?p2 ?th ?p3 ?es ?hm ?gw ?hn ?gx ?de ?Iy ?Iz ?IA ?IB ?IC ?MW ?ID ?IE ?IF ?IG ?IH ?II ?ti ?tk ?tn ?p4 ?to ?p7 ?p8 ?tr ?qa ?ts ?qb ?ev ?ho ?gy ?hp ?gA ?df ?IJ ?IK ?IL ?IM ?IN ?MX ?IP ?IQ ?IR ?IS ?IT ?IU ?tt ?tv ?tx ?qn ?ty ?qs ?qu ?tA ?qv ?t0 ?qx ?ew ?hq ?gB ?hr ?gC ?dh ?IV ?IW ?IX ?IY ?IZ ?MY ?I0 ?I1 ?I2 ?I3 ?I4 ?I5 ?t2 ?t3 ?q1 ?t5 ?q2 ?q3 ?t6 ?q4 ?t7 ?q5 ?ex ?hs ?gD ?ht ?gI ?dk ?I6 ?I7 ?I8 ?I9 ?Ja ?MZ ?Jb ?Jc ?Jd ?Je ?Jf ?Jg ?t8 ?ua ?ub ?un ?q6 ?up ?q7 ?q8 ?ux ?q9 ?uy ?ra ?ey ?u1 ?rb ?u2 ?rd ?eD ?Jh ?Ji ?Jj ?Jk ?Jl ?M0 ?Jm ?Jn ?Jo ?Jp ?Jq ?Jr ?u8 ?va ?vb ?rg ?vl ?rh ?ri ?vm ?rj ?vr ?rn ?eG ?vs ?ro ?vu ?rp ?eH ?Js ?Jt ?Ju ?Jv ?Jw ?M3 ?Jx ?Jy ?Jz ?JA ?JB ?JC ?v1 ?v2 ?v3 ?v4 ?v8 ?rq ?we ?rr ?rs ?wi ?ru ?wl ?rv ?e0 ?wn ?rw ?wp ?rx ?e2 ?wq ?ry ?wr ?r0 ?e3 ?JD ?JE ?JF ?JG ?JH ?M4 ?JI ?JJ ?JK ?JL ?JM ?JN ?ws ?wt ?wx ?r1 ?wy ?r2 ?r3 ?w0 ?r4 ?w2 ?r5 ?e5 ?w3 ?r7 ?w4 ?r8 ?e6 ?JO ?JP ?JQ ?JR ?JS ?z1 ?z2 ?z3 ?z4 ?z5 ?z6 ?z7 ?z8 ?z9 ?M5 ?M6 ?M7 ?M8 ?M9
  case a1|l1|c1|k1|a2|l2|c2|k2|a3|l3|c3|k3|a4|l4|c4|k4|a5|l5|c5|k5|a6|l6|c6|k6|a7|l7|c7|k7|a8|l8|c8|k8|a9|l9|c9|k9|Lf|Lg|Lh|Li|Lj|Lk|Ll|Lm|Ln|Lo|Lp|Lq|Lr|Ls|Lu|Lv|Lx|Ly|Lz|LB|LC|LD|LF|LH|LJ|LK|LL|LM|LN|LP|LQ|LU|LV|LW|LX|LY|LZ|L0|L1|L2|L3|L4|L5|L6|L7|L8|L9|Ma|Mb|Mc|Me|Mf|Mg|Mh|Mi|Mj|Ml|Mm|Mn|Mo|Mp|Mq|Mr|Ms|Mu|Mv|Mw|Mx|My|Mz|MA|MB|MC|MD|ME|MF|MG|MH|MI|MJ|MK|ML|MM|MN|t1|t4|MO|MP=>k_is
  (case MQ=>k_exc)
  case MR=>k_is
  (case MS=>k_exc)
  case MT=>k_is
  (case MU=>k_exc)
  case s9|ta|H7|H8|H9|Ia|Ib|Ic|Ie|If|Ig|Ih|Ii|Ij|Ik|Il|Im|Io|Ip|Iq|MV|Ir|Is|Iu|Iv|Iw|Ix|tb|tc|td|py|te|p0|p1|tg|p2|th|p3|es|hm|gw|hn|gx|de|Iy|Iz|IA|IB|IC|MW|ID|IE|IF|IG|IH|II|ti|tk|tn|p4|to|p7|p8|tr|qa|ts|qb|ev|ho|gy|hp|gA|df|IJ|IK|IL|IM|IN|MX|IP|IQ|IR|IS|IT|IU|tt|tv|tx|qn|ty|qs|qu|tA|qv|t0|qx|ew|hq|gB|hr|gC|dh|IV|IW|IX|IY|IZ|MY|I0|I1|I2|I3|I4|I5|t2|t3|q1|t5|q2|q3|t6|q4|t7|q5|ex|hs|gD|ht|gI|dk|I6|I7|I8|I9|Ja|MZ|Jb|Jc|Jd|Je|Jf|Jg|t8|ua|ub|un|q6|up|q7|q8|ux|q9|uy|ra|ey|u1|rb|u2|rd|eD|Jh|Ji|Jj|Jk|Jl|M0|Jm|Jn|Jo|Jp|Jq|Jr|u8|va|vb|rg|vl|rh|ri|vm|rj|vr|rn|eG|vs|ro|vu|rp|eH|Js|Jt|Ju|Jv|Jw|M3|Jx|Jy|Jz|JA|JB|JC|v1|v2|v3|v4|v8|rq|we|rr|rs|wi|ru|wl|rv|e0|wn|rw|wp|rx|e2|wq|ry|wr|r0|e3|JD|JE|JF|JG|JH|M4|JI|JJ|JK|JL|JM|JN|ws|wt|wx|r1|wy|r2|r3|w0|r4|w2|r5|e5|w3|r7|w4|r8|e6|JO|JP|JQ|JR|JS|z1|z2|z3|z4|z5|z6|z7|z8|z9|M5|M6|M7|M8|M9=>k_is
