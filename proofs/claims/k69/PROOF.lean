import PyProof.Rows.All
import Wide.All
import OpenK.AllK
import Wide.FinOn
import KE.KEqDict
import KE.KPairComp
import KE.KDictList
import KE.KRevSl
import PyProof.Rows.SetFrom
import KE.KRevIter
import KE.KDictOf
import KE.KSortAsk
import KE.KSortTup
import PyProof.Rows.SortRev
import KE.KDictSum
import PySem.Challenge.RW_hydrahouse_k69_weights_on_the_way
set_option bootstrap.genMatcherCode false
set_option compiler.extract_closed false
set_option genSizeOf false
-- CHANGE: your row's module here, as the last of these rows
set_option Elab.async false
set_option linter.all false
set_option maxRecDepth 100000
open PySem.W (clsIn codeIn emptyDict excIn findIn fnOf hasDictIn hideAll hideAll_get hideAll_none instIn instObj isFn keepIn kia_one lookIn makesIn mg_none_of mg_of mroIn nsIn plainGet plainOver typeIn)
abbrev yax:=PySem.W.Frag
abbrev yay:=@List.mem_cons_of_mem
abbrev yaz:=@List.mem_cons_self
abbrev yaw:=@PySem.Heap.get?_push_of_some
abbrev yav:=@PySem.Heap.get?_push_size
abbrev ybx:=@PySem.Heap.lt_size
abbrev yby:=@Nat.le_refl
abbrev ybz:=@Nat.le_trans
abbrev ybw:=@List.getElem?_eq_getElem
abbrev ybv:=@if_neg
abbrev ycx:=@if_pos
abbrev ycy:=@Bool.false_ne_true
abbrev ycz:=@decide_eq_false
abbrev ycw:=@decide_eq_true
abbrev ycv:=@Nat.lt_of_lt_of_le
abbrev ydx:=@Int.le_trans
abbrev ydy:=@List.mem_append_right
abbrev ydz:=PySem.Value->PySem.Shared->Prop
abbrev ydw:=List PySem.Value
abbrev ydv:=PySem.Str->Option PySem.Value
variable {K:yax} {E:PySem.Value->PySem.Shared->Prop} {s:PySem.Shared} {A:PySem.Around} {w:PySem.World} {P:PySem.Program} {prog:PySem.Program} {π:List (PySem.Addr×PySem.Obj)} {mg:PySem.Str->Option PySem.Value} {pos:PySem.Pos} {us:List PySem.Value} {Q:PySem.Value->PySem.Shared->Prop} {x:PySem.Str} {e:PySem.Expr} {a:PySem.Addr} {k:Nat} {fd:PySem.FuncData} {base:PySem.Heap} {es:List PySem.Expr} {ps:List PySem.Str} {u:PySem.Value} {i:Nat} {st:PySem.Stmt} {bm:List PySem.Value} {scope:PySem.Scope} {body:List PySem.Stmt} {items:Array PySem.Value}
open List (all_eq_true any_cons append_assoc append_nil cons_append eq_nil_of_length_eq_zero filterMap_cons filter_cons flatten_cons getElem_mem length_append length_cons length_drop length_map length_nil length_reverse length_take lookup_cons map_append map_cons map_drop map_map map_nil map_reverse mem_append mem_append_left mem_append_right mem_cons mem_cons_of_mem mem_cons_self mem_map mem_of_mem_take mem_singleton nil_append nodup_cons pairwise_cons replicate_succ set_set size_toArray sum_append sum_cons take_of_length_le zip_cons_cons)
abbrev wax:=@PySem.wpAny_bind
abbrev way:=@PySem.wpAny_pure
open Nat (le_max_left le_max_right le_refl le_succ le_trans lt_irrefl lt_of_lt_of_le lt_or_ge max_le ne_of_lt not_lt zero_le)
namespace L2
open PySem PySem.Spec PyProof.Rows
noncomputable abbrev aS:=Sum Int Str
noncomputable def iS:aS->Value->Bool
 | .inl k,v=>Value.isInt k v
 | .inr x,v=>Value.isStrOf x v
noncomputable def De (w:World):aS->Int
 | .inl k=>hashInt k
 | .inr x=>hashStr w x
theorem bK:∀{k:aS} {v:Value},iS k v=true->(∃i t,k=Sum.inl i/\v=Value.int i t)∨(∃x t,k=Sum.inr x/\v=Value.str x t)
 | .inl i,v,h=>by
   obtain⟨t,e⟩:=Value.isInt_shape (k:=i) (v:=v) h;exact .inl ⟨i,t,rfl,e⟩
 | .inr x,v,h=>by
   obtain⟨t,e⟩:=Value.isStrOf_shape (x:=x) (v:=v) h;exact .inr ⟨x,t,rfl,e⟩
theorem qp (i:Int) (t:Tok):iS (.inl i) (.int i t)=true:=by simp[iS,Value.isInt]
theorem qq (x:Str) (t:Tok):iS (.inr x) (.str x t)=true:=by simp[iS,Value.isStrOf]
theorem yo (a b:Int):decide ((Sum.inl a:aS)=Sum.inl b)=(a==b):=by
 by_cases e:a=b
 ·subst e;simp
 ·have h:¬(Sum.inl a:aS)=Sum.inl b:=λq=>e (Sum.inl.inj q);rw[ycz h];exact(beq_eq_false_iff_ne.mpr e).symm
theorem yp (a b:Str):decide ((Sum.inr a:aS)=Sum.inr b)=decide (a=b):=by
 by_cases e:a=b
 ·subst e;simp
 ·have h:¬(Sum.inr a:aS)=Sum.inr b:=λq=>e (Sum.inr.inj q);rw[ycz h,ycz e]
theorem yq (a:Int) (b:Str):decide ((Sum.inl a:aS)=Sum.inr b)=false:=ycz (λq=>nomatch q)
theorem yr (a:Str) (b:Int):decide ((Sum.inr a:aS)=Sum.inl b)=false:=ycz (λq=>nomatch q)
noncomputable def aY (prog:Program) (w:World):PySem.KeyKind prog w aS where
 is:=iS
 hash:=De w
 inj:=λv a b ha hb=>by
  rcases bK ha with⟨i,t,rfl,rfl⟩ | ⟨x,t,rfl,rfl⟩
  ·rcases bK hb with⟨j,u,rfl,e⟩ | ⟨y,u,rfl,e⟩
   ·injection e with e1 _;rw[e1]
   ·exact nomatch e
  ·rcases bK hb with⟨j,u,rfl,e⟩ | ⟨y,u,rfl,e⟩
   ·exact nomatch e
   ·injection e with e1 _;rw[e1]
 byValue:=λk v h=>by
  rcases bK h with⟨i,t,rfl,rfl⟩ | ⟨x,t,rfl,rfl⟩<;> rfl
 pyHash:=λhv h=>by
  rcases bK hv with⟨i,t,rfl,rfl⟩ | ⟨x,t,rfl,rfl⟩
  ·exact wpAny_pyHash_int h
  ·exact wpAny_pyHash_str h
 eqBool:=λhu hv h=>by
  rcases bK hu with⟨i,t,rfl,rfl⟩ | ⟨x,t,rfl,rfl⟩
  ·rcases bK hv with⟨j,u,rfl,rfl⟩ | ⟨y,u,rfl,rfl⟩
   ·rw[yo] at h;exact wpAny_eqBool_int h
   ·rw[yq] at h;exact SeqAt.EqAt.int_str i t y u _ _ _ _ h
  ·rcases bK hv with⟨j,u,rfl,rfl⟩ | ⟨y,u,rfl,rfl⟩
   ·rw[yr] at h;exact SeqAt.EqAt.str_int x t j u _ _ _ _ h
   ·rw[yp] at h;exact wpAny_eqBool_str h
 «strs»:=λk x t v h=>by
  rcases bK h with⟨i,u,rfl,e⟩ | ⟨y,u,rfl,e⟩
  ·exact nomatch e
  ·injection e with e1 _
   subst e1;cases v<;> rfl
theorem dL (prog:Program) (w:World) (i:Int) (t:Tok):(aY prog w).is (.inl i) (.int i t)=true:=qp i t
theorem lS (prog:Program) (w:World) (x:Str) (t:Tok):(aY prog w).is (.inr x) (.str x t)=true:=qq x t
inductive V where
 | non | bl (b:Bool) | int (i:Int) | str (x:Str) | byt (b:Array UInt8) | flt (b:UInt64) | ref (a:Addr) | ty (n:String)
 deriving DecidableEq
noncomputable def bc:V->Value->Prop
 | .non,u=>u=Value.none
 | .bl b,u=>u=Value.bool b
 | .int i,u=>∃t,u=Value.int i t
 | .str x,u=>∃t,u=Value.str x t
 | .byt b,u=>∃t,u=Value.bytes b t
 | .flt b,u=>∃t,u=Value.float b t
 | .ref a,u=>u=Value.ref a
 | .ty n,u=>u=Value.type n
noncomputable abbrev aW:List V->List Value->Prop:=Paired bc
theorem aW.length {xs:List V} (r:aW xs us):xs.length=us.length:=Paired.length r
theorem aW.get:∀{xs:List V} {us:ydw} {i:Nat} {x:V},aW xs us->xs[i]?=some x->∃u,us[i]?=some u/\bc x u
 | _,_,_,_,.nil,e=>by simp at e
 | _,_,0,_,.cons r _,e=>by simp at e;subst e;exact⟨_,rfl,r⟩
 | _,_,i+1,x,.cons _ t,e=>by
   obtain⟨u,h1,h2⟩:=aW.get (i:=i) (x:=x) t (by simpa using e);exact⟨u,by simpa using h1,h2⟩
theorem aW.append:∀{xs ys:List V} {us ws:ydw},aW xs us->aW ys ws->aW (xs++ys) (us++ws)
 | _,_,_,_,.nil,s=>s
 | _,_,_,_,.cons r t,s=> .cons r (aW.append t s)
theorem aW.take:∀{xs:List V} {us:ydw} (n:Nat),aW xs us->aW (xs.take n) (us.take n)
 | _,_,0,_=> .nil
 | _,_,_+1,.nil=> .nil
 | _,_,n+1,.cons r t=> .cons r (aW.take n t)
theorem aW.drop:∀{xs:List V} {us:ydw} (n:Nat),aW xs us->aW (xs.drop n) (us.drop n)
 | _,_,0,r=>r
 | _,_,_+1,.nil=> .nil
 | _,_,n+1,.cons _ t=>aW.drop n t
noncomputable def fG:Option V->Option Value->Prop
 | some v,some u=>bc v u
 | none,none=>True
 | _,_=>False
noncomputable def KV {κ:Type}:List (κ×V)->List (κ×Value)->Prop:=Paired λ(p:κ×V) (q:κ×Value)=>p.1=q.1/\bc p.2 q.2
noncomputable def kV:aS->V
 | .inl i=> .int i
 | .inr x=> .str x
inductive HO where
 | lst (xs:List V)
 | tup (xs:List V)
 | dK (kvs:List (aS×V)) | dT (kvs:List (List aS×V))
 | set (S:Int->Bool) (n:Nat)
 | ins (C dx:Addr) (fs:List (Str×V))
 | own (x:Addr)
 | xd (fs:List (Str×V))
 | met (f x:Addr)
 | rng (lo hi:Int)
 | frz (o:Obj) (u:HO)
 | tbl (ps:Array Value)
 | ext (φ:Heap->Prop)
noncomputable abbrev Hp:=Addr->Option HO
noncomputable def upd (H:Hp) (a:Addr) (o:HO):Hp:=λb=>if b=a then some o else H b
theorem bd {H:Hp} {o:HO}:upd H a o a=some o:=by unfold upd;rw[ycx rfl]
theorem aJ {H:Hp} {a b:Addr} {o:HO} (h:b≠a):upd H a o b=H b:=by unfold upd;rw[ybv h]
theorem fA {H:Hp} {a b:Addr} {o u:HO} (h:H a=some o) (h':H b=some u) (d:o≠u):a≠b:=by
 intro e;subst e;rw[h] at h';exact d (Option.some.inj h')
theorem bg {H:Hp} {a b:Addr} {o:HO} (h:H a=some o) (h':H b=none):a≠b:=by
 intro e;subst e;rw[h] at h';cases h'
section
variable (P:Program) (w:World)
noncomputable def bI (H:Hp) (h:Heap) (a:Addr):HO->Prop
 | .lst xs=>xs.length<=sizeLine/\∃(its:ydw) (n:Nat),aW xs its/\h.get? a=some { cls:= .type "list",data:= .seq its.toArray n }
 | .tup xs=>xs.length<=sizeLine/\∃its:List Value,aW xs its/\IsTup h a its.toArray
 | .dK kvs=>kvs.length<=sizeLine/\(a==sysModules)=false/\∃vs,KV kvs vs/\h.DictOf (aY P w) a vs
 | .dT kvs=>kvs.length<=sizeLine/\(a==sysModules)=false/\∃xs:List (List aS×Addr×Value),
    Paired (λ(p:List aS×V) (q:List aS×Addr×Value)=>p.1=q.1/\H q.2.1=some (.tup (p.1.map kV))/\bc p.2 q.2.2) kvs xs/\
    ∃o es ep,h.get? a=some o/\o.ExactDict/\o.data=.dict es ep/\es.toList=xs.map (entryOfKey (tupleKind (aY P w)))/\(xs.map (·.1)).Nodup
 | .set S n=>h.SetOf (intKind P w) a S n
 | .ins C dx fs=>H dx=some (.own a)/\fs.length<=1000/\dx≠a/\h.get? a=some (instObj C dx)/\
    ∃mA,h.Ns1 dx mA/\(∀f,fG (fs.lookup f) (mA f))/\PySem.Within mA (fs.map (·.1))
 | .own _=>∃o,h.get? a=some o
 | .xd fs=>∃mA,h.Ns1 a mA/\∀f,fG (fs.lookup f) (mA f)
 | .rng lo hi=>∃t u v,h.get? a=some { cls:= .type "range",data:= .fields #[.int lo t,.int hi u,.int 1 v] }
 | .frz o u=>h.get? a=some o/\bI H h a u
 | .tbl ps=>h.get? a=some { cls:= .none,data:= .fields ps }
 | .met f x=>h.get? a=some (PySem.W.methodObj (.ref f) (.ref x))
 | .ext φ=>φ h/\(∃o,h.get? a=some o)/\∀h1 h2:Heap,φ h1->(∀o,h1.get? a=some o->h2.get? a=some o)->φ h2
noncomputable def fu (H:Hp) (h:Heap):Prop:=∀a o,H a=some o->bI P w H h a o
end
section
variable {P:Program} {w:World} {H H':Hp} {h h':Heap} {a:Addr} {o:HO}
theorem bI.lt (x:bI P w H h a o):a<h.objs.size:=by
 cases o with
 | lst xs=>obtain⟨_,_,_,_,e⟩:=x;exact ybx e
 | tup xs=>obtain⟨_,_,_,p⟩:=x;exact p.lt
 | dK kvs=>obtain⟨_,_,_,_,o,_,_,e,_⟩:=x;exact ybx e
 | dT kvs=>obtain⟨_,_,_,_,o,_,_,e,_⟩:=x;exact ybx e
 | set S n=>obtain⟨o,_,_,_,e,_⟩:=x;exact ybx e
 | ins C dx fs=>obtain⟨_,_,_,e,_⟩:=x;exact ybx e
 | own y=>obtain⟨_,e⟩:=x;exact ybx e
 | xd fs=>obtain⟨_,⟨_,_,_,e,_⟩,_⟩:=x;exact ybx e
 | rng lo hi=>obtain⟨_,_,_,e⟩:=x;exact ybx e
 | frz ob u=>obtain⟨e,_⟩:=x;exact ybx e
 | tbl ps=>exact ybx (show h.get? a=some _ from x)
 | met f y=>exact ybx (show h.get? a=some _ from x)
 | ext φ=>obtain⟨_,⟨_,e⟩,_⟩:=x;exact ybx e
theorem Paired.mapP {α β:Type} {F G:α->β->Prop}:∀{l₁:List α} {l₂:List β},Paired F l₁ l₂->(∀a b,F a b->G a b)->Paired G l₁ l₂
 | _,_,.nil,_=> .nil
 | _,_,.cons r t,f=> .cons (f _ _ r) (Paired.mapP t f)
theorem bI.stay (x:bI P w H h a o) (k:∀b u,(b=a∨H b=some (.own a))->h.get? b=some u->h'.get? b=some u)
 (ho:∀b,H b=some (.own a)->H' b=some (.own a)) (ht:∀b xs,H b=some (.tup xs)->H' b=some (.tup xs)):bI P w H' h' a o:=by
 induction o with
 | lst xs=>obtain⟨z,its,n,r,e⟩:=x;exact⟨z,its,n,r,k _ _ (.inl rfl) e⟩
 | tup xs=>obtain⟨z,its,r,ob,e,c⟩:=x;exact⟨z,its,r,ob,k _ _ (.inl rfl) e,c⟩
 | dK kvs=>obtain⟨z,y,vs,r,ob,es,ep,e,c⟩:=x;exact⟨z,y,vs,r,ob,es,ep,k _ _ (.inl rfl) e,c⟩
 | dT kvs=>
   obtain⟨z,y,xs,r,ob,es,ep,e,c⟩:=x;exact⟨z,y,xs,Paired.mapP r λp q z=>⟨z.1,ht _ _ z.2.1,z.2.2⟩,ob,es,ep,k _ _ (.inl rfl) e,c⟩
 | set S n=>obtain⟨ob,es,ep,t,e,c⟩:=x;exact⟨ob,es,ep,t,k _ _ (.inl rfl) e,c⟩
 | ins C dx fs=>
   obtain⟨d,z,ne,e,mA,⟨od,es,ep,e2,c⟩,r⟩:=x;exact⟨ho _ d,z,ne,k _ _ (.inl rfl) e,mA,⟨od,es,ep,k _ _ (.inr d) e2,c⟩,r⟩
 | own y=>obtain⟨ob,e⟩:=x;exact⟨ob,k _ _ (.inl rfl) e⟩
 | xd fs=>obtain⟨mA,⟨od,es,ep,e,c⟩,r⟩:=x;exact⟨mA,⟨od,es,ep,k _ _ (.inl rfl) e,c⟩,r⟩
 | rng lo hi=>obtain⟨t,u,v,e⟩:=x;exact⟨t,u,v,k _ _ (.inl rfl) e⟩
 | frz ob u ih=>obtain⟨e,q⟩:=x;exact⟨k _ _ (.inl rfl) e,ih q⟩
 | tbl ps=>
   have e:h.get? a=some { cls:= .none,data:= .fields ps }:=x;show h'.get? a=some { cls:= .none,data:= .fields ps };exact k a _ (.inl rfl) e
 | met f y=>
   have e:h.get? a=some (PySem.W.methodObj (.ref f) (.ref y)):=x;show h'.get? a=some (PySem.W.methodObj (.ref f) (.ref y));exact k a _ (.inl rfl) e
 | ext φ=>obtain⟨p,⟨o,e⟩,st⟩:=x;exact⟨st _ _ p λo q=>k _ _ (.inl rfl) q,⟨o,k _ _ (.inl rfl) e⟩,st⟩
theorem fu.lt (x:fu P w H h) (e:H a=some o):a<h.objs.size:=(x a o e).lt
theorem fu.fresh (x:fu P w H h) (e:h.objs.size<=a):H a=none:=by
 cases q:H a with
 | none=>rfl
 | some u=>exact absurd (ycv (x.lt q) e) (lt_irrefl _)
theorem fu.kept (x:fu P w H h) (k:∀b u,h.get? b=some u->h'.get? b=some u):fu P w H h':=λa o e=>
 (x a o e).stay (λb u _ q=>k b u q) (λ_ q=>q) λ_ _ q=>q
theorem fu.laid (x:fu P w H h) (k:∀b u,h.get? b=some u->h'.get? b=some u) (hp:h.objs.size<=a) (new:bI P w (upd H a o) h' a o):fu P w (upd H a o) h':=λb u e=>by
 have hn:=x.fresh hp
 by_cases hb:b=a
 ·subst hb;rw[bd] at e;cases e;exact new
 ·rw[aJ hb] at e;exact(x b u e).stay (λc v _ q=>k c v q) (λc q=>by rw[aJ (bg q hn)];exact q) λc xs q=>by rw[aJ (bg q hn)];exact q
end
noncomputable def Rd (H:Hp) (a:Addr) (u:HO):Prop:=H a=some u∨∃o,H a=some (.frz o u)
theorem Rd.ok {H:Hp} {h:Heap} {u:HO} (r:Rd H a u) (x:fu P w H h):bI P w H h a u:=by
 rcases r with r | ⟨o,r⟩
 ·exact x a u r
 ·obtain⟨_,q⟩:=x a _ r;exact q
noncomputable def AJ:Option HO->Prop
 | some (.lst _)=>True
 | some (.dK _)=>True
 | some (.dT _)=>True
 | some (.set _ _)=>True
 | some (.ins _ _ _)=>True
 | some (.ext _)=>True
 | _=>False
section
variable {P:Program} {w:World} {H:Hp} {h h':Heap} {x e:Addr} {o':HO}
theorem fu.write (ok:fu P w H h) (mu:AJ (H x)) (he:e=x∨H e=some (.own x)) (k:∀b u,b≠e->h.get? b=some u->h'.get? b=some u) (heo:∃u,h'.get? e=some u)
 (new:bI P w (upd H x o') h' x o'):fu P w (upd H x o') h':=λb u q=>by
 have nown:∀c y,H c=some (.own y)->c≠x:=λc y r z=>by subst z;rw[r] at mu;exact mu
 have ntup:∀c xs,H c=some (.tup xs)->c≠x:=λc xs r z=>by subst z;rw[r] at mu;exact mu
 by_cases hb:b=x
 ·subst hb;rw[bd] at q;cases q;exact new
 ·rw[aJ hb] at q
  by_cases hbe:b=e
  ·have q':H b=some (.own x):=by
    rcases he with z | z
    ·exact absurd (hbe.trans z) hb
    ·rw[hbe];exact z
   rw[q] at q';cases q';obtain⟨v,hv⟩:=heo;exact⟨v,by rw[hbe];exact hv⟩
  ·refine(ok b u q).stay (λc v hc r=>k c v ?_ r) (λc r=>by rw[aJ (nown c b r)];exact r) λc xs r=>by rw[aJ (ntup c xs r)];exact r
   rcases hc with rfl | hc
   ·exact hbe
   ·rintro rfl;rcases he with z | z
    ·exact nown c b hc z
    ·rw[hc] at z;cases z;exact hb rfl
end
structure Un (fs ex:List Addr) (H H':Hp) (h h':Heap):Prop where
 keep:∀b o,h.get? b=some o->H b=none->b∉fs->b∉ex->h'.get? b=some o
 slot:∀b o,h.get? b=some o->H b=none->b∈fs->b∉ex->∃sl,h'.get? b=some { o with slots:=sl }
 free:∀b o,h.get? b=some o->H b=none->b∉ex->H' b=none
 there:∀b o,h.get? b=some o->b∉ex->∃o',h'.get? b=some o'
 tups:∀b xs,H b=some (.tup xs)->H' b=some (.tup xs)
 frzs:∀b o u,H b=some (.frz o u)->H' b=some (.frz o u)
 tbls:∀b ps,H b=some (.tbl ps)->∃more,H' b=some (.tbl (ps++more))
section
variable {fs fs' ex ex':List Addr} {H H1 H2:Hp} {h h1 h2 h':Heap} {a x e:Addr} {o:HO}
theorem Un.any (u:Un fs ex H H1 h h1) {b:Addr} {ob:Obj} (q:h.get? b=some ob) (n:H b=none) (hx:b∉ex):∃sl,h1.get? b=some { ob with slots:=sl }:=by
 by_cases hb:b∈fs
 ·exact u.slot b ob q n hb hx
 ·exact⟨ob.slots,u.keep b ob q n hb hx⟩
theorem Un.kept (k:∀b u,h.get? b=some u->h'.get? b=some u):Un fs ex H H h h':=
 ⟨λb ob q _ _ _=>k b ob q,λb ob q _ _ _=>⟨ob.slots,k b ob q⟩,λ_ _ _ n _=>n,λb ob q _=>⟨ob,k b ob q⟩,λ_ _ q=>q,λ_ _ _ q=>q,λ_ ps q=>⟨#[],by rw[q];simp⟩⟩
theorem Un.refl:Un fs ex H H h h:=Un.kept λ_ _ q=>q
theorem Un.laid (k:∀b u,h.get? b=some u->h'.get? b=some u) (hp:h.objs.size<=a) (hn:H a=none):Un fs ex H (upd H a o) h h' where
 keep:=λb u q _ _ _=>k b u q
 slot:=λb u q _ _ _=>⟨u.slots,k b u q⟩
 free:=λb u q n _=>by rw[aJ (ne_of_lt (ycv (ybx q) hp))];exact n
 there:=λb u q _=>⟨u,k b u q⟩
 tups:=λb xs q=>by rw[aJ (bg q hn)];exact q
 frzs:=λb u xs q=>by rw[aJ (bg q hn)];exact q
 tbls:=λb ps q=>⟨#[],by rw[aJ (bg q hn),q];simp⟩
theorem Un.write (mu:AJ (H x)) (he:e=x∨H e=some (.own x)) (k:∀b u,b≠e->h.get? b=some u->h'.get? b=some u) (heo:∃u,h'.get? e=some u):Un fs ex H (upd H x o) h h':=by
 have hx:∀b,H b=none->b≠x:=λb n z=>by subst z;rw[n] at mu;exact mu
 have hb:∀b,H b=none->b≠e:=λb n z=>by
  subst z;rcases he with r | r
  ·exact hx b n r
  ·rw[n] at r;cases r
 have hm:∀b u,H b=some u->¬AJ (some u)->b≠x:=λb u q nm z=>by subst z;rw[q] at mu;exact nm mu
 refine⟨λb u q n _ _=>k b u (hb b n) q,λb u q n _ _=>⟨u.slots,k b u (hb b n) q⟩,λb u q n _=>by rw[aJ (hx b n)];exact n,λb u q _=>?_,
  λb xs q=>by rw[aJ (hm b _ q λz=>z)];exact q,λb u xs q=>by rw[aJ (hm b _ q λz=>z)];exact q,λb ps q=>⟨#[],by rw[aJ (hm b _ q λz=>z),q];simp⟩⟩
 by_cases hbe:b=e
 ·subst hbe;exact heo
 ·exact⟨u,k b u hbe q⟩
end
noncomputable def CP (h:Heap) (H:Hp):List Addr:=(List.range h.objs.size).filter λa=>(H a).isSome
noncomputable def kH (h:Heap) (H:Hp):Heap:=hideAll h (CP h H)
theorem qr (h:Heap) (H:Hp):(kH h H).objs.size=h.objs.size:=PySem.W.hideAll_size _ _
theorem rK {h:Heap} {H:Hp} {b:Addr} {o:Obj} (e:h.get? b=some o) (n:H b=none):(kH h H).get? b=some o:=
 hideAll_get _ e λhm=>by
  have q:(H b).isSome=true:=(List.mem_filter.mp hm).2;rw[n] at q;simp at q
theorem u7 {h:Heap} {H:Hp} {b:Addr} {o:Obj} (e:(kH h H).get? b=some o):h.get? b=some o/\H b=none:=by
 have e':h.get? b=some o:=PySem.W.of_hideAll (CP h H) e;refine⟨e',?_⟩;cases q:H b with
 | none=>rfl
 | some x=>
   have hm:b∈CP h H:=List.mem_filter.mpr ⟨List.mem_range.mpr (ybx e'),by simp[q]⟩;have z:(kH h H).get? b=none:=hideAll_none (CP h H) hm;rw[z] at e;cases e
noncomputable def u9 (g h:Heap) (L:Addr):List (Addr×Obj):=(List.range h.objs.size).filterMap λa=>if a=L∨(g.get? a).isSome=true then none else (h.get? a).map λo=>(a,o)
noncomputable def bX (g h:Heap) (L d:Addr):List (Addr×Obj):=(u9 g h L).filter λp=>decide (p.1≠d)
structure Mod (K:yax) (mg:ydv) (base:Heap):Prop where
 kin:K.In base
 glob:base.Ns mainGlobals mg
 blt:∃mb,base.Ns builtinsNs mb/\∀x:Str,x≠"__name__"->mb x=bootBuiltins x
 nolimit:base.NoLimit
structure Cx where
 prog:Program
 w:World
 K:yax
 mg:Str->Option Value
 base:Heap
 A:Around
 N:List Str
 s₀:Shared
 H₀:Hp
 env:Env
 outer:List Env
 stack:List Env
 ex:List Addr
 fn:Str->Bool
 calm:Bool
 pn:List (Addr×Obj)
 xe:Value->Shared->Prop
noncomputable def fw (l:List Env):List Addr:=l.filterMap (·.frame)
noncomputable abbrev Cx.fs (X:Cx):List Addr:=fw X.outer
noncomputable def AG (sc:Scope) (x:Str):Prop:=sc.names.lookup x=some .local∨sc.names.lookup x=some .cell∨sc.names.lookup x=some .free
noncomputable def vc (sc:Scope) (x:Str):Prop:=sc.names.lookup x=some .local∨sc.names.lookup x=some .cell
noncomputable def Dg (env:Env) (h:Heap) (m:ydv) (x:Str) (u:Value):Prop:=
 (env.kindOf x=some .local/\m x=some u)∨((env.kindOf x=some .cell∨env.kindOf x=some .free)/\∃c,env.cells.lookup x=some c/\h.IsCell c (some u))
structure Cx.Ok (X:Cx):Prop where
 mod:Mod X.K X.mg X.base
 kind:X.env.scope.kind=.function
 glob:X.env.globals=mainGlobals
 blt:X.env.builtins=builtinsNs
 above:X.s₀.heap.objs.size<=X.env.locals
 inj:∀x y c,X.env.cells.lookup x=some c->X.env.cells.lookup y=some c->x=y
 has:∀x,(X.env.kindOf x=some .cell∨X.env.kindOf x=some .free)->∃c,X.env.cells.lookup x=some c
 cab:∀x c,X.fn x=true->X.env.cells.lookup x=some c->X.s₀.heap.objs.size<=c
 hd:X.calm=true->X.A.handled=none
 frames:X.A.frames=some X.stack
 stk:X.stack=X.outer∨(X.stack=X.env::X.outer/\X.env.frame=some X.env.locals)
 exf:∀b∈X.ex,b≠X.env.locals/\∀x c,X.env.cells.lookup x=some c->c≠b
 bs:∀b o,X.base.get? b=some o->X.s₀.heap.get? b=some o/\X.H₀ b=none
 bsz:X.base.objs.size<=X.s₀.heap.objs.size
 noex:∀b o,X.base.get? b=some o->b∉X.ex
 exfs:∀b∈X.ex,b∉X.fs
 funs:X.s₀.heap.FunFrames X.base X.outer
 frf:∀b∈X.fs,X.H₀ b=none
structure aI (X:Cx) (π:List (Addr×Obj)) (σ:List (Option V)) (H:Hp) (s:Shared):Prop where
 ok:X.Ok
 os:s.os=X.s₀.os
 bare:AllBare s.gens
 base:Un X.fs X.ex X.H₀ H X.s₀.heap s.heap
 loc:∃m,s.heap.Ns X.env.locals m/\∀(i:Nat) (x:Str) (v:V),X.N[i]?=some x->σ[i]?=some (some v)->AG X.env.scope x->∃u,bc v u/\Dg X.env s.heap m x u
 cell:∀x c,X.env.cells.lookup x=some c->∃v,s.heap.IsCell c v
 free:H X.env.locals=none
 freeC:∀x c,X.env.cells.lookup x=some c->H c=none
 pin:∀p∈X.pn++π,s.heap.get? p.1=some p.2/\H p.1=none/\p.1≠X.env.locals/\p.1∉X.fs/\∀v,p.2.data≠ .cell v
 hok:fu X.prog X.w H s.heap
 len:σ.length=X.N.length
section
variable {X:Cx} {π:List (Addr×Obj)} {σ:List (Option V)} {H H':Hp} {s:Shared} {h':Heap}
theorem Cx.Ok.nofr (ok:X.Ok) {b:Addr} {o:Obj} (e:X.base.get? b=some o):b∉X.fs:=λhb=>by
 have:=(ok.funs.mem hb).1;rw[e] at this;cases this
theorem aI.bs (I:aI X π σ H s):∀b o,X.base.get? b=some o->s.heap.get? b=some o/\H b=none:=λb o e=>
 ⟨I.base.keep b o (I.ok.bs b o e).1 (I.ok.bs b o e).2 (I.ok.nofr e) (I.ok.noex b o e),I.base.free b o (I.ok.bs b o e).1 (I.ok.bs b o e).2 (I.ok.noex b o e)⟩
theorem aI.bk (I:aI X π σ H s):∀b o,X.base.get? b=some o->s.heap.get? b=some o:=λb o e=>(I.bs b o e).1
theorem aI.mod (I:aI X π σ H s):Mod X.K X.mg X.base:=I.ok.mod
theorem aI.kIn (I:aI X π σ H s):X.K.In s.heap:=I.ok.mod.kin.keeps I.bk
theorem aI.lt (I:aI X π σ H s):X.env.locals<s.heap.objs.size:=let ⟨_,hn,_⟩:=I.loc;hn.lt
theorem aI.sz (I:aI X π σ H s):X.s₀.heap.objs.size<=s.heap.objs.size:=ybz I.ok.above (Nat.le_of_lt I.lt)
theorem aI.nofs (I:aI X π σ H s) (h:s.heap.objs.size<=a):a∉X.fs:=λhb=>by
 obtain⟨_,o,ho,_⟩:=I.ok.funs.mem hb;exact absurd (ycv (ybx ho) (ybz I.sz h)) (lt_irrefl _)
theorem aI.cne (I:aI X π σ H s):∀x c,X.env.cells.lookup x=some c->c≠X.env.locals:=λx c e z=>by
 obtain⟨v,o,ho,hd⟩:=I.cell x c e;obtain⟨m,⟨o',es,ep,ho',hd',_⟩,_⟩:=I.loc;rw[z,ho'] at ho;cases ho;rw[hd'] at hd;cases hd
theorem aI.funs (I:aI X π σ H s):s.heap.FunFrames X.base X.outer:=by
 have all:∀(l:List Env),(∀b∈fw l,b∈X.fs)->X.s₀.heap.FunFrames X.base l->s.heap.FunFrames X.base l:=by
  intro l
  induction l with
  | nil=>intro _ _;trivial
  | cons env r ih=>
    intro hs hl;obtain⟨hk,⟨L,o,hf,hn,ho,hd⟩,hr⟩:=hl;have hL:L∈X.fs:=hs L (by unfold fw;rw[filterMap_cons,hf];exact yaz);obtain⟨sl,e⟩:=I.base.slot L o ho (I.ok.frf L hL) hL λz=>I.ok.exfs L z hL;exact⟨hk,⟨L,_,hf,hn,e,hd⟩,ih (λb hb=>hs b (by unfold fw;rw[filterMap_cons,hf];exact yay _ hb)) hr⟩
 exact all X.outer (λ_ hb=>hb) I.ok.funs
theorem aI.stack (I:aI X π σ H s):s.heap.FunFrames X.base X.stack:=by
 rcases I.ok.stk with e | ⟨e,hf⟩
 ·rw[e];exact I.funs
 ·rw[e];obtain⟨m,hn,_⟩:=I.loc;refine .cons (by rw[I.ok.kind];decide) hf hn ?_ I.funs;exact Heap.get?_none_of_le (ybz I.ok.bsz I.ok.above)
theorem aI.stkSub (I:aI X π σ H s):∀b∈fw X.stack,b∈X.env.locals::X.fs:=λb hb=>by
 rcases I.ok.stk with e | ⟨e,hf⟩
 ·rw[e] at hb;exact yay _ hb
 ·rw[e] at hb;unfold fw at hb;rw[filterMap_cons,hf] at hb;exact hb
theorem aI.stkFree (I:aI X π σ H s):∀b∈fw X.stack,H b=none:=λb hb=>by
 rcases mem_cons.mp (I.stkSub b hb) with e | hb
 ·rw[e];exact I.free
 ·obtain⟨_,o,ho,_⟩:=I.ok.funs.mem hb;exact I.base.free b o ho (I.ok.frf b hb) λz=>I.ok.exfs b z hb
theorem aI.step {g':Array GenState} {t':Nat} {d':Drawn} {ch:List Addr} (I:aI X π σ H s)
 (hch:∀b∈ch,(b∈X.ex∨X.s₀.heap.objs.size<=b)/\b≠X.env.locals/\(∀x c,X.env.cells.lookup x=some c->c≠b)/\∀p∈X.pn++π,p.1≠b)
 (keep:∀b o,b≠X.env.locals->b∉X.fs->b∉ch->s.heap.get? b=some o->H b=none->h'.get? b=some o)
 (slot:∀b o,b≠X.env.locals->b∈X.fs->b∉ch->s.heap.get? b=some o->H b=none->∃sl,h'.get? b=some { o with slots:=sl }) (free:∀b o,b∉ch->s.heap.get? b=some o->H b=none->H' b=none)
 (there:∀b o,b∉ch->s.heap.get? b=some o->∃o',h'.get? b=some o')
 (tups:∀b xs,H b=some (.tup xs)->H' b=some (.tup xs)) (frzs:∀b o u,H b=some (.frz o u)->H' b=some (.frz o u)) (tbls:∀b ps,H b=some (.tbl ps)->∃more,H' b=some (.tbl (ps++more)))
 (ns:∀m,s.heap.Ns X.env.locals m->h'.Ns X.env.locals m) (hok:fu X.prog X.w H' h') (hg:AllBare g'):
 aI X π σ H' { s with heap:=h',gens:=g',drawn:=d',toks:=t' }:=by
 have neL:∀b o,X.s₀.heap.get? b=some o->b≠X.env.locals:=λb o e=>ne_of_lt (ycv (ybx e) I.ok.above);have neC:∀b o,X.s₀.heap.get? b=some o->b∉X.ex->b∉ch:=λb o e hx hb=>by
  rcases(hch b hb).1 with z | z
  ·exact hx z
  ·exact absurd (ycv (ybx e) z) (lt_irrefl _)
 have cellK:∀x c,X.env.cells.lookup x=some c->∀v,s.heap.IsCell c v->h'.IsCell c v:=λx c e v ⟨o,ho,hd⟩=>by
  have nch:c∉ch:=λz=>(hch c z).2.2.1 x c e rfl
  by_cases hc:c∈X.fs
  ·obtain⟨sl,q⟩:=slot c o (I.cne x c e) hc nch ho (I.freeC x c e);exact⟨_,q,hd⟩
  ·exact⟨o,keep c o (I.cne x c e) hc nch ho (I.freeC x c e),hd⟩
 refine⟨I.ok,I.os,hg,⟨λb o e n hb hx=>?_,λb o e n hb hx=>?_,λb o e n hx=>?_,λb o e hx=>?_,λb xs e=>tups b xs (I.base.tups b xs e),λb o xs e=>frzs b o xs (I.base.frzs b o xs e),λb ps e=>?_⟩,?_,λx c e=>?_,?_,λx c e=>?_,λp hp=>?_,hok,I.len⟩
 ·exact keep b o (neL b o e) hb (neC b o e hx) (I.base.keep b o e n hb hx) (I.base.free b o e n hx)
 ·obtain⟨sl,e1⟩:=I.base.slot b o e n hb hx;obtain⟨sl',e2⟩:=slot b _ (neL b o e) hb (neC b o e hx) e1 (I.base.free b o e n hx);exact⟨sl',e2⟩
 ·obtain⟨o',e1⟩:=I.base.there b o e hx;exact free b o' (neC b o e hx) e1 (I.base.free b o e n hx)
 ·obtain⟨o',e1⟩:=I.base.there b o e hx;exact there b o' (neC b o e hx) e1
 ·obtain⟨m1,e1⟩:=I.base.tbls b ps e;obtain⟨m2,e2⟩:=tbls b _ e1;exact⟨m1++m2,by rw[e2,Array.append_assoc]⟩
 ·obtain⟨m,hn,hl⟩:=I.loc;refine⟨m,ns m hn,λi x v e1 e2 e3=>?_⟩;obtain⟨u,r,l⟩:=hl i x v e1 e2 e3;refine⟨u,r,?_⟩;rcases l with l | ⟨k,c,e,z⟩
  ·exact .inl l
  ·exact .inr ⟨k,c,e,cellK x c e _ z⟩
 ·obtain⟨v,z⟩:=I.cell x c e;exact⟨v,cellK x c e v z⟩
 ·obtain⟨m,⟨o,_,_,ho,_⟩,_⟩:=I.loc;exact free _ o (λz=>(hch _ z).2.1 rfl) ho I.free
 ·obtain⟨v,o,ho,hd⟩:=I.cell x c e;exact free c o (λz=>(hch c z).2.2.1 x c e rfl) ho (I.freeC x c e)
 ·obtain⟨e,n,ne,nf,d⟩:=I.pin p hp;have nch:p.1∉ch:=λz=>(hch p.1 z).2.2.2 p hp rfl;exact⟨keep p.1 p.2 ne nf nch e n,free p.1 p.2 nch e n,ne,nf,d⟩
theorem aI.un {t':Nat} (I:aI X π σ H s) (u:Un X.fs [] H H' s.heap h') (hok:fu X.prog X.w H' h'):aI X π σ H' { s with heap:=h',toks:=t' }:=by
 obtain⟨m,⟨o,es,ep,ho,r⟩,_⟩:=id I.loc;obtain⟨sl,hL⟩:=u.any ho I.free (by simp);exact I.step (g':=s.gens) (d':=s.drawn) (ch:=[]) (λ_ z=>nomatch z) (λb o _ hb _ e n=>u.keep b o e n hb (by simp)) (λb o _ hb _ e n=>u.slot b o e n hb (by simp)) (λb o _ e n=>u.free b o e n (by simp)) (λb o _ e=>u.there b o e (by simp)) u.tups u.frzs u.tbls (λm' hm=>by
  obtain⟨o',es',ep',ho',r'⟩:=hm;rw[ho] at ho';cases ho';exact⟨_,es',ep',hL,r'⟩) hok I.bare
theorem aI.call {g':Array GenState} {t':Nat} {d':Drawn} {ch:List Addr} (I:aI X π σ H s) (u:Un (fw X.stack) ch H H' s.heap h') (hok:fu X.prog X.w H' h') (hg:AllBare g')
 (hch:∀b∈ch,(b∈X.ex∨X.s₀.heap.objs.size<=b)/\b≠X.env.locals/\(∀x c,X.env.cells.lookup x=some c->c≠b)/\∀p∈X.pn++π,p.1≠b):
 aI X π σ H' { s with heap:=h',gens:=g',drawn:=d',toks:=t' }:=by
 obtain⟨m,⟨o,es,ep,ho,r⟩,_⟩:=id I.loc;obtain⟨sl,hL⟩:=u.any ho I.free λz=>(hch _ z).2.1 rfl;exact I.step (ch:=ch) hch (λb o hL hb hc e n=>u.keep b o e n (λz=>(mem_cons.mp (I.stkSub b z)).elim hL hb) hc) (λb o _ _ hc e n=>u.any e n hc) (λb o hc e n=>u.free b o e n hc) (λb o hc e=>u.there b o e hc) u.tups u.frzs u.tbls (λm' hm=>by
  obtain⟨o',es',ep',ho',r'⟩:=hm;rw[ho] at ho';cases ho';exact⟨_,es',ep',hL,r'⟩) hok hg
theorem aI.turned {t':Nat} {it:Addr} (I:aI X π σ H s) (k:∀b o,b≠it->s.heap.get? b=some o->h'.get? b=some o) (hn:H it=none) (hL:it≠X.env.locals)
 (h1:it∈X.ex∨X.s₀.heap.objs.size<=it) (h2:∀x c,X.env.cells.lookup x=some c->c≠it) (h3:∀p∈X.pn++π,p.1≠it):aI X π σ H { s with heap:=h',toks:=t' }:=by
 have nit:∀b u,H b=some u->b≠it:=λb u e z=>by rw[z,hn] at e;cases e
 refine I.step (g':=s.gens) (d':=s.drawn) (ch:=[it]) (λb hb=>?_) (λb o _ _ hc e _=>k b o (λz=>hc (by simp[z])) e) (λb o _ _ hc e _=>⟨o.slots,k b o (λz=>hc (by simp[z])) e⟩) (λ_ _ _ _ n=>n)
  (λb o hc e=>⟨o,k b o (λz=>hc (by simp[z])) e⟩) (λ_ _ e=>e) (λ_ _ _ e=>e) (λb ps e=>⟨#[],by rw[e];simp⟩) (λm hm=>?_) (λb u e=>?_) I.bare
 ·have e:b=it:=by simpa using hb
  subst e;exact⟨h1,hL,h2,h3⟩
 ·obtain⟨o,es,ep,ho,r⟩:=hm;exact⟨o,es,ep,k _ o (Ne.symm hL) ho,r⟩
 ·refine(I.hok b u e).stay (λc v hc q=>k c v ?_ q) (λ_ q=>q) λ_ _ q=>q;rcases hc with z | z
  ·rw[z];exact nit b u e
  ·exact nit c _ z
theorem aI.tok (I:aI X π σ H s) (t:Nat):aI X π σ H { s with toks:=t }:=I.un (h':=s.heap) (t':=t) Un.refl I.hok
theorem aI.kept {t':Nat} (I:aI X π σ H s) (k:∀b u,s.heap.get? b=some u->h'.get? b=some u):aI X π σ H { s with heap:=h',toks:=t' }:=I.un (Un.kept k) (I.hok.kept k)
theorem aI.laid {o:HO} {t':Nat} (I:aI X π σ H s) (k:∀b u,s.heap.get? b=some u->h'.get? b=some u) (hp:s.heap.objs.size<=a) (new:bI X.prog X.w (upd H a o) h' a o):
 aI X π σ (upd H a o) { s with heap:=h',toks:=t' }:=I.un (Un.laid k hp (I.hok.fresh hp)) (I.hok.laid k hp new)
theorem aI.write {x e:Addr} {o:HO} {t':Nat} (I:aI X π σ H s) (mu:AJ (H x)) (he:e=x∨H e=some (.own x)) (k:∀b u,b≠e->s.heap.get? b=some u->h'.get? b=some u) (heo:∃u,h'.get? e=some u)
 (new:bI X.prog X.w (upd H x o) h' x o):aI X π σ (upd H x o) { s with heap:=h',toks:=t' }:=I.un (Un.write mu he k heo) (I.hok.write mu he k heo new)
theorem aI.pins_of {pins':List (Addr×Obj)} (I:aI X π σ H s) (h:∀p∈pins',s.heap.get? p.1=some p.2/\H p.1=none/\p.1≠X.env.locals/\p.1∉X.fs/\∀v,p.2.data≠ .cell v):aI X pins' σ H s:=
 ⟨I.ok,I.os,I.bare,I.base,I.loc,I.cell,I.free,I.freeC,λp hp=>(mem_append.mp hp).elim (λz=>I.pin p (mem_append_left _ z)) (h p),I.hok,I.len⟩
theorem lT {N:List Str} (hN:N.Nodup) {i j:Nat} (a:N[i]?=some x) (b:N[j]?=some x):i=j:=by
 obtain⟨h1,e1⟩:=List.getElem?_eq_some_iff.mp a;obtain⟨h2,e2⟩:=List.getElem?_eq_some_iff.mp b;exact(List.getElem_inj hN).mp (e1.trans e2.symm)
theorem gH {M:Model} {v:V} {Q:Unit->Shared->Prop} (I:aI X π σ H s) (hN:X.N.Nodup) (hi:X.N[i]?=some x) (hx:vc X.env.scope x) (r:bc v u)
 (h:∀s',aI X π (σ.set i (some v)) H s'->(∃a,Heap.SameBut a s.heap s'.heap/\(a=X.env.locals∨X.env.cells.lookup x=some a))->Q () s') (hf:X.fn x=true∨X.env.scope.names.lookup x=some .local:=by first | exact .inl rfl | exact .inr rfl | assumption):wpAny M A (storeName X.env x u) Q E s:=by
 obtain⟨m,hn,hl⟩:=id I.loc;have hcls:(X.env.scope.kind== .class||(X.env.scope.kind== .module&&X.env.locals !=X.env.globals))=false:=by rw[I.ok.kind];rfl
 have hiσ:i<σ.length:=by rw[I.len];exact(List.getElem?_eq_some_iff.mp hi).1
 have cne:=I.cne;have tracked:∀{a:Addr} {h':Heap},(∃o,s.heap.get? a=some o/\H a=none)->Heap.SameBut a s.heap h'->fu X.prog X.w H h':=λ{a h'} ha hs b ob e=>by
  obtain⟨_,_,hfree⟩:=ha;refine(I.hok b ob e).stay (λc w' hc q=>(hs.2 c ?_).trans q) (λ_ q=>q) λ_ _ q=>q;rintro rfl;rcases hc with rfl | hc
  ·rw[hfree] at e;cases e
  ·rw[hfree] at hc;cases hc
 rcases hx with hk | hk
 ·refine wpAny_storeName_local hk hn (λh' hn' hs=>?_) hcls;obtain⟨oL,_,_,hoL,_⟩:=id hn;refine h _ ⟨I.ok,I.os,I.bare,⟨λb o e n hb hx=>?_,λb o e n hb hx=>?_,I.base.free,λb o e hx=>?_,I.base.tups,I.base.frzs,I.base.tbls⟩,⟨_,hn',λj y v' e1 e2 e3=>?_⟩,λy c e=>?_,I.free,I.freeC,λp hp=>?_,tracked ⟨oL,hoL,I.free⟩ hs,by simpa using I.len⟩ ⟨_,hs,.inl rfl⟩
  ·exact(hs.2 b (ne_of_lt (ycv (ybx e) I.ok.above))).trans (I.base.keep b o e n hb hx)
  ·obtain⟨sl,e1⟩:=I.base.slot b o e n hb hx;exact⟨sl,(hs.2 b (ne_of_lt (ycv (ybx e) I.ok.above))).trans e1⟩
  ·obtain⟨o',e1⟩:=I.base.there b o e hx;exact⟨o',(hs.2 b (ne_of_lt (ycv (ybx e) I.ok.above))).trans e1⟩
  ·by_cases hj:j=i
   ·subst hj;rw[hi] at e1;cases e1;rw[List.getElem?_set_self hiσ] at e2;cases e2;exact⟨u,r,.inl ⟨hk,by simp⟩⟩
   ·rw[List.getElem?_set_ne (Ne.symm hj)] at e2;obtain⟨u',r',q⟩:=hl j y v' e1 e2 e3;refine⟨u',r',?_⟩;rcases q with⟨k,e⟩ | ⟨k,c,e,z⟩
    ·refine .inl ⟨k,?_⟩;have:y≠x:=λe=>hj (lT hN e1 (e▸hi));simp[this,e]
    ·exact .inr ⟨k,c,e,z.sameBut hs (cne y c e)⟩
  ·obtain⟨w',z⟩:=I.cell y c e;exact⟨w',z.sameBut hs (cne y c e)⟩
  ·obtain⟨e,n,ne,nf,d⟩:=I.pin p hp;exact⟨(hs.2 p.1 ne).trans e,n,ne,nf,d⟩
 ·have hfn:X.fn x=true:=by
   rcases hf with z | z
   ·exact z
   ·rw[z] at hk;cases hk
  obtain⟨c,hc⟩:=I.ok.has x (.inl hk);obtain⟨w',z⟩:=I.cell x c hc;refine wpAny_storeName_cell I.ok.kind hk hc z (λh' hc' hs=>?_);obtain⟨oc,hoc,hocd⟩:=id z;refine h { s with heap:=h' } ⟨I.ok,I.os,I.bare,⟨λb o e n hb hx=>?_,λb o e n hb hx=>?_,I.base.free,λb o e hx=>?_,I.base.tups,I.base.frzs,I.base.tbls⟩,⟨m,hn.sameBut hs (Ne.symm (cne x c hc)),λj y v' e1 e2 e3=>?_⟩,λy c' e=>?_,I.free,I.freeC,λp hp=>?_,tracked ⟨oc,hoc,I.freeC x c hc⟩ hs,by simpa using I.len⟩ ⟨c,hs,.inr hc⟩
  ·exact(hs.2 b (ne_of_lt (ycv (ybx e) (I.ok.cab x c hfn hc)))).trans (I.base.keep b o e n hb hx)
  ·obtain⟨sl,e1⟩:=I.base.slot b o e n hb hx;exact⟨sl,(hs.2 b (ne_of_lt (ycv (ybx e) (I.ok.cab x c hfn hc)))).trans e1⟩
  ·obtain⟨o',e1⟩:=I.base.there b o e hx;exact⟨o',(hs.2 b (ne_of_lt (ycv (ybx e) (I.ok.cab x c hfn hc)))).trans e1⟩
  ·by_cases hj:j=i
   ·subst hj;rw[hi] at e1;cases e1;rw[List.getElem?_set_self hiσ] at e2;cases e2;exact⟨u,r,.inr ⟨.inl hk,c,hc,hc'⟩⟩
   ·rw[List.getElem?_set_ne (Ne.symm hj)] at e2;obtain⟨u',r',q⟩:=hl j y v' e1 e2 e3;refine⟨u',r',?_⟩;rcases q with q | ⟨k,c',e,z'⟩
    ·exact .inl q
    ·refine .inr ⟨k,c',e,z'.sameBut hs ?_⟩;rintro rfl;exact hj (lT hN e1 (I.ok.inj _ _ _ e hc▸hi))
  ·by_cases hcc:c'=c
   ·subst hcc;exact⟨_,hc'⟩
   ·obtain⟨w2,z2⟩:=I.cell y c' e;exact⟨w2,z2.sameBut hs hcc⟩
  ·obtain⟨e,n,ne,nf,d⟩:=I.pin p hp;refine⟨(hs.2 p.1 ?_).trans e,n,ne,nf,d⟩;intro q;rw[q,hoc] at e;have q':oc=p.2:=Option.some.inj e;exact d w' (by rw[←q'];exact hocd)
theorem lU {M:Model} {v:V} {Q:Unit->Shared->Prop} (I:aI X π σ H s) (hN:X.N.Nodup) (hi:X.N[i]?=some x) (hx:vc X.env.scope x) (r:bc v u)
 (h:∀s',aI X π (σ.set i (some v)) H s'->Q () s') (hf:X.fn x=true∨X.env.scope.names.lookup x=some .local:=by first | exact .inl rfl | exact .inr rfl | assumption):wpAny M A (storeName X.env x u) Q E s:=
 gH I hN hi hx r (λs' I' _=>h s' I') hf
theorem aI.call' {s':Shared} {ch:List Addr} (I:aI X π σ H s) (ho:s'.os=s.os) (u:Un (fw X.stack) ch H H' s.heap s'.heap) (hok:fu X.prog X.w H' s'.heap) (hg:AllBare s'.gens)
 (hch:∀b∈ch,(b∈X.ex∨X.s₀.heap.objs.size<=b)/\b≠X.env.locals/\(∀x c,X.env.cells.lookup x=some c->c≠b)/\∀p∈X.pn++π,p.1≠b):aI X π σ H' s':=by
 obtain⟨h',g',d',t',o'⟩:=s';have e:o'=s.os:=ho;subst e;exact I.call (g':=g') (t':=t') (d':=d') u hok hg hch
end
noncomputable abbrev XK:=Value->Option Addr->Hp->Prop
noncomputable abbrev St:=List (Option V)
noncomputable abbrev VK:=V->Hp->Prop
noncomputable abbrev TE:=St->Hp->VK->Prop
noncomputable abbrev TT:=St->Hp->(Bool->Hp->Prop)->Prop
noncomputable abbrev TA:=St->Hp->(List V->Hp->Prop)->Prop
structure iC where
 nx:St->Hp->Prop
 rt:VK
 bk:St->Hp->Prop:=λ_ _=>False
 ct:St->Hp->Prop:=λ_ _=>False
noncomputable abbrev TS:=iC->St->Hp->Prop
noncomputable def EP (X:Cx) (π:List (Addr×Obj)) (σ:St) (Q:VK) (u:Value) (s':Shared):Prop:=∃v H',aI X π σ H' s'/\bc v u/\Q v H'
noncomputable def TP (X:Cx) (π:List (Addr×Obj)) (σ:St) (Q:Bool->Hp->Prop) (b:Bool) (s':Shared):Prop:=∃H',aI X π σ H' s'/\Q b H'
noncomputable def AP (X:Cx) (π:List (Addr×Obj)) (σ:St) (Q:List V->Hp->Prop) (us:ydw) (s':Shared):Prop:=∃vs H',aI X π σ H' s'/\aW vs us/\Q vs H'
noncomputable def SP (X:Cx) (π:List (Addr×Obj)) (D:iC) (f:Flow) (s':Shared):Prop:=
 match f with
 | .next=>∃σ' H',aI X π σ' H' s'/\D.nx σ' H'
 | .brk=>∃σ' H',aI X π σ' H' s'/\D.bk σ' H'
 | .cont=>∃σ' H',aI X π σ' H' s'/\D.ct σ' H'
 | .ret u=>∃v σ' H',aI X π σ' H' s'/\bc v u/\D.rt v H'
noncomputable def PE (X:Cx) (e:Expr) (t:TE):Prop:=
 ∀(π:List (Addr×Obj)) (s:Shared) (σ:St) (H:Hp) (Q:VK),aI X π σ H s->t σ H Q->wpAny (model X.prog X.w) X.A (eval e X.env) (EP X π σ Q) X.xe s
noncomputable def PT (X:Cx) (e:Expr) (t:TT):Prop:=
 ∀(π:List (Addr×Obj)) (s:Shared) (σ:St) (H:Hp) (Q:Bool->Hp->Prop),aI X π σ H s->t σ H Q->wpAny (model X.prog X.w) X.A (isTrue e X.env (eval e X.env)) (TP X π σ Q) X.xe s
noncomputable def PW (X:Cx) (e:Expr) (t:TT):Prop:=
 ∀(whole:Sem Value) (π:List (Addr×Obj)) (s:Shared) (σ:St) (H:Hp) (Q:Bool->Hp->Prop),aI X π σ H s->t σ H Q->wpAny (model X.prog X.w) X.A (isTrue e X.env whole) (TP X π σ Q) X.xe s
theorem PW.pt {X:Cx} {t:TT} (h:PW X e t):PT X e t:=h _
noncomputable def PA (X:Cx) (es:List Expr) (t:TA):Prop:=
 ∀(pos:Pos) (π:List (Addr×Obj)) (s:Shared) (σ:St) (H:Hp) (Q:List V->Hp->Prop),aI X π σ H s->t σ H Q->wpAny (model X.prog X.w) X.A (spliced (backTo pos (starEach es X.env))) (AP X π σ Q) X.xe s
noncomputable def PS (X:Cx) (st:Stmt) (t:TS):Prop:=
 ∀(π:List (Addr×Obj)) (s:Shared) (σ:St) (H:Hp) (D:iC),aI X π σ H s->t D σ H->wpAny (model X.prog X.w) X.A (exec st X.env) (SP X π D) X.xe s
noncomputable def lP (X:Cx) (st:List Stmt) (t:TS):Prop:=
 ∀(π:List (Addr×Obj)) (s:Shared) (σ:St) (H:Hp) (D:iC),aI X π σ H s->t D σ H->wpAny (model X.prog X.w) X.A (execs st X.env) (SP X π D) X.xe s
theorem cf {α:Type} {t:Sem α} {Q Q':α->Shared->Prop} {M:Model} (h:wpAny M A t Q E s) (hQ:∀a s,Q a s->Q' a s):wpAny M A t Q' E s:=wpAny_mono h hQ λ_ _ x=>x
section
variable {X:Cx}
noncomputable def AK (i:Nat):TE:=λσ H Q=>∃v,σ[i]?=some (some v)/\Q v H
noncomputable def tC (v:V):TE:=λ_ H Q=>Q v H
theorem nH (hN:X.N[i]?=some x) (hv:AG X.env.scope x) (hd:(x==("__debug__":Str))=false:=by decide) (hcd:(x==("__classdict__":Str))=false:=by decide):PE X (.Name x pos) (AK i):=by
 intro π s σ H Q I h;obtain⟨v,e,h⟩:=h;obtain⟨m,hn,hl⟩:=I.loc;obtain⟨u,r,l⟩:=hl i x v hN e hv;have fin:EP X π σ Q u s:=⟨v,H,I,r,h⟩;rcases l with⟨hk,hm⟩ | ⟨hk,c,hc,hcell⟩
 ·exact wpAny_Name (wpAny_loadName_local I.ok.kind hk hn hm fin) hd
 ·rcases hk with hk | hk
  ·exact wpAny_Name (wpAny_loadName_cell I.ok.kind hk hc hcell fin) hd
  ·exact wpAny_Name (wpAny_loadName_free I.ok.kind hk hc hcell fin hcd) hd
theorem rL {i j pos}:PE X (.Constant (.int i) j pos) (tC (.int i)):=λ_ _ _ H _ I h=>wpAny_Constant_int ⟨.int i,H,I.tok _,⟨_,rfl⟩,h⟩
theorem AL {b j pos}:PE X (.Constant (.bool b) j pos) (tC (.bl b)):=λ_ _ _ H _ I h=>Constant_bool ⟨.bl b,H,I,rfl,h⟩
theorem yt {j pos}:PE X (.Constant .none j pos) (tC .non):=λ_ _ _ H _ I h=>Constant_none ⟨.non,H,I,rfl,h⟩
theorem rM {x j pos}:PE X (.Constant (.str x) j pos) (tC (.str x)):=λ_ _ _ H _ I h=>Calls.Constant_str ⟨.str x,H,I.tok _,⟨_,rfl⟩,h⟩
noncomputable def Gl (X:Cx) (x:Str):Prop:=X.env.kindOf x=some .globalImplicit
theorem iH {σ:St} {H:Hp} (I:aI X π σ H s) (hg:Gl X x) (hm:X.mg x=some u) (h:Q u s)
 (hd:(x==("__debug__":Str))=false:=by decide):wpAny (model X.prog X.w) X.A (eval (.Name x pos) X.env) Q E s:=
 Calls.Name_function_global I.ok.kind hg (Calls.loadGlobal_global (by rw[I.ok.glob];exact I.mod.glob.keeps I.bk) hm h) hd
theorem eU {σ:St} {H:Hp} (I:aI X π σ H s) (hg:Gl X x) (hm:X.mg x=none) (hv:bootBuiltins x=some u) (h:Q u s)
 (hn:x≠"__name__":=by decide) (hd:(x==("__debug__":Str))=false:=by decide):wpAny (model X.prog X.w) X.A (eval (.Name x pos) X.env) Q E s:=by
 obtain⟨mb,h1,h2⟩:=I.mod.blt;exact Calls.Name_function_global I.ok.kind hg (Calls.loadGlobal_builtin (by rw[I.ok.glob];exact I.mod.glob.keeps I.bk) hm (by rw[I.ok.blt];exact h1.keeps I.bk) ((h2 x hn).trans hv) h) hd
theorem vd {v:V} (hg:Gl X x) (hm:X.mg x=none) (hv:bootBuiltins x=some u) (r:bc v u) (hn:x≠"__name__":=by decide) (hd:(x==("__debug__":Str))=false:=by decide):PE X (.Name x pos) (tC v):=
 λ_ _ _ H _ I h=>eU I hg hm hv ⟨v,H,I,r,h⟩ hn hd
variable {a b:Expr} {ta tb:TE} {pos:Pos}
noncomputable def tB (t:TE):TT:=λσ H Q=>t σ H λx H1=>∃c,x=.bl c/\Q c H1
theorem yu {t:TE} (h:PE X e t) (he:∀whole,isTrue e X.env whole=(do let v ←whole;standAt e.pos;holding [v] (truthy v)):=by intro _;rfl):PT X e (tB t):=by
 intro π s σ H Q I hw;refine isTrue_plain (cf (h π s σ H _ I hw) λv s1 z9=>?_) (he _);obtain⟨x,H1,I1,r1,q1⟩:=z9;obtain⟨d,rfl,q⟩:=q1;cases r1;exact wpAny_truthy_bool ⟨H1,I1,q⟩
variable {tA tB':TT} {bX:List Expr}
noncomputable def Dh (t u:TT):TT:=λσ H Q=>t σ H λc H1=>if c=true then u σ H1 Q else Q false H1
noncomputable def Fv (t u:TT):TT:=λσ H Q=>t σ H λc H1=>if c=true then Q true H1 else u σ H1 Q
noncomputable def Di (t:TT):TT:=λσ H Q=>t σ H λc H1=>Q (!c) H1
theorem ve (ha:PT X a tA):PW X (.BoolOp .And [a] pos) tA:=by
 intro wh π s σ H Q I h;refine isTrue_and (cf (ha π s σ H Q I h) λc s1 e=>?_);cases c with
 | true=>exact isTrue_and_nil e
 | false=>exact e
theorem yv (ha:PT X a tA):PW X (.BoolOp .Or [a] pos) tA:=by
 intro wh π s σ H Q I h;refine isTrue_or (cf (ha π s σ H Q I h) λc s1 e=>?_);cases c with
 | false=>exact isTrue_or_nil e
 | true=>exact e
theorem yw (ha:PT X a tA) (hb:PW X (.BoolOp .And (b::bX) pos) tB'):PW X (.BoolOp .And (a::b::bX) pos) (Dh tA tB'):=by
 intro wh π s σ H Q I h;refine isTrue_and (cf (ha π s σ H _ I h) λc s1 z9=>?_);obtain⟨H1,I1,q1⟩:=z9;cases c with
 | true=>exact hb wh π s1 σ H1 Q I1 q1
 | false=>exact⟨H1,I1,q1⟩
theorem AM (ha:PT X a tA) (hb:PW X (.BoolOp .Or (b::bX) pos) tB'):PW X (.BoolOp .Or (a::b::bX) pos) (Fv tA tB'):=by
 intro wh π s σ H Q I h;refine isTrue_or (cf (ha π s σ H _ I h) λc s1 z9=>?_);obtain⟨H1,I1,q1⟩:=z9;cases c with
 | true=>exact⟨H1,I1,q1⟩
 | false=>exact hb wh π s1 σ H1 Q I1 q1
theorem yx (ha:PT X a tA):PT X (.UnaryOp .Not a pos) (Di tA):=by
 intro π s σ H Q I h;exact isTrue_not (ha π s σ H (λc H1=>Q (!c) H1) I h)
noncomputable def AN (ta tb:TE):TE:=λσ H Q=>ta σ H λx H1=>∃c,x=.bl c/\if c=true then tb σ H1 Q else Q (.bl false) H1
noncomputable def AO (ta:TE):TE:=λσ H Q=>ta σ H λx H1=>∃c,x=.bl c/\Q (.bl (!c)) H1
theorem yy {op} {t:TE} (h:PE X a t):PE X (.BoolOp op [a] pos) t:=λπ s σ H Q I hw=>BoolOp_one (h π s σ H Q I hw)
theorem yz (ha:PE X a ta) (hb:PE X (.BoolOp .And (b::bX) pos) tb):PE X (.BoolOp .And (a::b::bX) pos) (AN ta tb):=by
 intro π s σ H Q I h;refine BoolOp_and (cf (ha π s σ H _ I h) λv s1 z9=>?_);obtain⟨x,H1,I1,r1,q1⟩:=z9;obtain⟨c,rfl,q1⟩:=q1;cases r1;refine wpAny_truthy_bool ?_;cases c with
 | true=>exact hb π s1 σ H1 Q I1 q1
 | false=>exact⟨.bl false,H1,I1,rfl,q1⟩
theorem yA (ha:PE X a ta):PE X (.UnaryOp .Not a pos) (AO ta):=by
 intro π s σ H Q I h;refine UnaryOp_ (cf (ha π s σ H _ I h) λv s1 z9=>?_);obtain⟨x,H1,I1,r1,q1⟩:=z9;obtain⟨c,rfl,q1⟩:=q1;cases r1;exact not_of (wpAny_truthy_bool ⟨.bl (!c),H1,I1,rfl,q1⟩)
noncomputable def Fw (t:TT) (ta tb:TE):TE:=λσ H Q=>t σ H λc H1=>if c=true then ta σ H1 Q else tb σ H1 Q
theorem rN {c:Expr} (hc:PT X c tA) (ha:PE X a ta) (hb:PE X b tb):PE X (.IfExp c a b pos) (Fw tA ta tb):=by
 intro π s σ H Q I h;refine wpAny_IfExp (cf (hc π s σ H _ I h) λd s1 z9=>?_);obtain⟨H1,I1,q1⟩:=z9;cases d with
 | true=>exact ha π s1 σ H1 Q I1 q1
 | false=>exact hb π s1 σ H1 Q I1 q1
end
noncomputable def cZ (K:yax) (H:Hp) (a:Addr) (xs:List V):Prop:=
 Rd H a (.lst xs)∨
  ∃(o:Obj) (its:Array Value) (n:Nat),K.lookup a=some o/\o.cls=.type "list"/\o.dict=none/\o.data=.seq its n/\its.size<=sizeLine/\aW xs its.toList
noncomputable def cU (K:yax) (H:Hp) (a:Addr) (xs:List V):Prop:=
 Rd H a (.tup xs)∨
  ∃(o:Obj) (its:Array Value) (n:Nat),K.lookup a=some o/\o.cls=.type "tuple"/\o.data=.seq its n/\its.size<=sizeLine/\aW xs its.toList
noncomputable def Dj:Value->Option V
 | .none=>some .non
 | .bool b=>some (.bl b)
 | .int i _=>some (.int i)
 | .str x _=>some (.str x)
 | .bytes b _=>some (.byt b)
 | .float b _=>some (.flt b)
 | .ref a=>some (.ref a)
 | .type n=>some (.ty n)
 | _=>none
theorem bc.abs {x:V} (r:bc x u):Dj u=some x:=by
 cases x with
 | non=>cases r;rfl
 | bl _=>cases r;rfl
 | int _=>obtain⟨t,rfl⟩:=r;rfl
 | str _=>obtain⟨t,rfl⟩:=r;rfl
 | byt _=>obtain⟨t,rfl⟩:=r;rfl
 | flt _=>obtain⟨t,rfl⟩:=r;rfl
 | ref _=>cases r;rfl
 | ty _=>cases r;rfl
theorem bc.inj {x y:V} (r:bc x u) (q:bc y u):x=y:=Option.some.inj (r.abs.symm.trans q.abs)
theorem aW.inj:∀{xs ys:List V} {us:ydw},aW xs us->aW ys us->xs=ys
 | _,_,_,.nil,.nil=>rfl
 | _,_,_,.cons r t,.cons r' t'=>by rw[r.inj r',aW.inj t t']
section
variable {X:Cx} {π:List (Addr×Obj)} {σ:St} {H:Hp} {s:Shared} {a:Addr} {xs ys:List V}
theorem cZ.of (h:H a=some (.lst xs)):cZ K H a xs:= .inl (.inl h)
theorem cU.of (h:H a=some (.tup xs)):cU K H a xs:= .inl (.inl h)
theorem aI.list (I:aI X π σ H s) (h:cZ X.K H a xs):∃its:List Value,aW xs its/\PlainL s.heap a its.toArray/\xs.length<=sizeLine:=by
 rcases h with h | ⟨o,its,n,hk,hc,hd,hs,hz,r⟩
 ·obtain⟨z,its,n,r,e⟩:=h.ok I.hok;exact⟨its,r,⟨_,n,e,rfl,rfl,rfl⟩,z⟩
 ·refine⟨its.toList,r,⟨o,n,I.kIn a o hk,hc,hd,by simpa using hs⟩,?_⟩;have e:=r.length;simp only[Array.length_toList] at e;lia
theorem aI.tuple (I:aI X π σ H s) (h:cU X.K H a xs):∃its:List Value,aW xs its/\IsTup s.heap a its.toArray/\xs.length<=sizeLine:=by
 rcases h with h | ⟨o,its,n,hk,hc,hs,hz,r⟩
 ·obtain⟨z,its,r,p⟩:=h.ok I.hok;exact⟨its,r,p,z⟩
 ·refine⟨its.toList,r,⟨o,I.kIn a o hk,hc,n,by simpa using hs⟩,?_⟩;have e:=r.length;simp only[Array.length_toList] at e;lia
theorem aI.list_inj (I:aI X π σ H s) (h:cZ X.K H a xs) (h':cZ X.K H a ys):xs=ys:=by
 obtain⟨its,r,⟨o,n,e,_,_,d⟩,_⟩:=I.list h;obtain⟨its',r',⟨o',n',e',_,_,d'⟩,_⟩:=I.list h';rw[e] at e';cases e';rw[d] at d';injection d' with d1 _
 have:its=its':=by simpa using congrArg Array.toList d1
 subst this;exact r.inj r'
theorem aI.tuple_inj (I:aI X π σ H s) (h:cU X.K H a xs) (h':cU X.K H a ys):xs=ys:=by
 obtain⟨its,r,⟨o,e,_,n,d⟩,_⟩:=I.tuple h;obtain⟨its',r',⟨o',e',_,n',d'⟩,_⟩:=I.tuple h';rw[e] at e';cases e';rw[d] at d';injection d' with d1 _
 have:its=its':=by simpa using congrArg Array.toList d1
 subst this;exact r.inj r'
end
noncomputable abbrev Cx.wish (X:Cx) (E:ydz):Cx:={ X with xe:=E }
noncomputable abbrev Cx.nox (X:Cx):Cx:=X.wish λ_ _=>False
theorem Cx.Ok.wish {X:Cx} (ok:X.Ok) (E:ydz):(X.wish E).Ok:=
 ⟨ok.mod,ok.kind,ok.glob,ok.blt,ok.above,ok.inj,ok.has,ok.cab,ok.hd,ok.frames,ok.stk,ok.exf,ok.bs,ok.bsz,ok.noex,ok.exfs,ok.funs,ok.frf⟩
theorem Cx.Ok.unwish {X:Cx} (ok:(X.wish E).Ok):X.Ok:=
 ⟨ok.mod,ok.kind,ok.glob,ok.blt,ok.above,ok.inj,ok.has,ok.cab,ok.hd,ok.frames,ok.stk,ok.exf,ok.bs,ok.bsz,ok.noex,ok.exfs,ok.funs,ok.frf⟩
section
variable {X:Cx} {π:List (Addr×Obj)} {σ:St} {H:Hp} {s:Shared} {E:ydz}
theorem aI.wish (I:aI X π σ H s) (E:ydz):aI (X.wish E) π σ H s:=⟨I.ok.wish E,I.os,I.bare,I.base,I.loc,I.cell,I.free,I.freeC,I.pin,I.hok,I.len⟩
theorem aI.unwish (I:aI (X.wish E) π σ H s):aI X π σ H s:=⟨I.ok.unwish,I.os,I.bare,I.base,I.loc,I.cell,I.free,I.freeC,I.pin,I.hok,I.len⟩
theorem SP.unwish {D:iC} {f:Flow} {s':Shared} (h:SP (X.wish E) π D f s'):SP X π D f s':=by
 cases f with
 | next=>obtain⟨σ',H',I,q⟩:=h;exact⟨σ',H',I.unwish,q⟩
 | brk=>obtain⟨σ',H',I,q⟩:=h;exact⟨σ',H',I.unwish,q⟩
 | cont=>obtain⟨σ',H',I,q⟩:=h;exact⟨σ',H',I.unwish,q⟩
 | ret u=>obtain⟨v,σ',H',I,r,q⟩:=h;exact⟨v,σ',H',I.unwish,r,q⟩
theorem lP.nox {st:List Stmt} {t:TS} (h:lP X.nox st t):lP X st t:=λπ s σ H D I hw=>
 wpAny_mono (h π s σ H D (I.wish _) hw) (λ_ _ q=>q.unwish) λ_ _ z=>False.elim z
end
section
variable {X:Cx} {st:Stmt} {bX:List Stmt} {t u:TS} {e:Expr} {te:TE} {pos:Pos}
noncomputable def AQ:TS:=λD σ H=>D.nx σ H
noncomputable def Dk (t u:TS):TS:=λD σ H=>t { D with nx:=u D } σ H
theorem pss_nil:lP X [] AQ:=λ_ _ σ H _ I h=>wpAny_execs_nil ⟨σ,H,I,h⟩
theorem rO (h1:PS X st t) (h2:lP X bX u):lP X (st::bX) (Dk t u):=by
 intro π s σ H D I h;refine wpAny_execs_cons (cf (h1 π s σ H { D with nx:=u D } I h) λf s1 q=>?_);cases f with
 | next=>
   obtain⟨σ',H',I',q⟩:=q;exact h2 π s1 σ' H' D I' q
 | ret v=>exact q
 | brk=>exact q
 | cont=>exact q
theorem vf (h1:PS X st t):lP X [st] t:=by
 intro π s σ H D I h;refine wpAny_execs_cons (cf (h1 π s σ H D I h) λf s1 q=>?_);cases f with
 | next=>exact wpAny_execs_nil q
 | ret v=>exact q
 | brk=>exact q
 | cont=>exact q
theorem aI.quiet {σ:St} {H:Hp} (I:aI X π σ H s):interactive X.env=false:=by simp[interactive,I.ok.kind]
noncomputable def AR (te:TE):TS:=λD σ H=>te σ H λ_ H1=>D.nx σ H1
theorem vg (he:PE X e te) (hs:swapsWith e none pos.line X.env=pure false:=by rfl):PS X (.Expr e pos) (AR te):=by
 intro π s σ H D I h;exact wpAny_Expr_any (cf (he π s σ H _ I h) λv s1 ⟨x,H1,I1,r1,q1⟩=>⟨σ,H1,I1,q1⟩) I.quiet hs
noncomputable def Dl (te:TE):TS:=λD σ H=>te σ H D.rt
theorem yB (he:PE X e te):PS X (.Return (some e) pos) (Dl te):=by
 intro π s σ H D I h;exact wpAny_Return_some (cf (he π s σ H _ I h) λv s1 ⟨x,H1,I1,r1,q1⟩=>⟨x,σ,H1,I1,r1,q1⟩)
noncomputable def Dm (c:TT) (t u:TS):TS:=λD σ H=>c σ H λb H1=>if b=true then t D σ H1 else u D σ H1
theorem AS {c:Expr} {a b:List Stmt} {tc:TT} (hc:PT X c tc) (ha:lP X a t) (hb:lP X b u):PS X (.If c a b pos) (Dm tc t u):=by
 intro π s σ H D I h;refine wpAny_If (cf (hc π s σ H _ I h) λd s1 z9=>?_);obtain⟨H1,I1,q1⟩:=z9;cases d with
 | true=>exact ha π s1 σ H1 D I1 q1
 | false=>exact hb π s1 σ H1 D I1 q1
end
noncomputable abbrev TG:=V->St->Hp->(St->Hp->Prop)->Prop
noncomputable abbrev vh:=List V->St->Hp->(St->Hp->Prop)->Prop
noncomputable def PG (X:Cx) (target:Expr) (t:TG):Prop:=
 ∀(π:List (Addr×Obj)) (s:Shared) (σ:St) (H:Hp) (v:V) (u:Value) (Q:St->Hp->Prop),aI X π σ H s->bc v u->t v σ H Q->
  wpAny (model X.prog X.w) X.A (assign target X.env u) (λ_ s'=>∃σ' H',aI X π σ' H' s'/\Q σ' H') X.xe s
noncomputable def xH (X:Cx) (ts:List Expr) (t:vh):Prop:=
 ∀(π:List (Addr×Obj)) (s:Shared) (σ:St) (H:Hp) (vs:List V) (us:ydw) (Q:St->Hp->Prop),aI X π σ H s->aW vs us->t vs σ H Q->
  wpAny (model X.prog X.w) X.A (assignInOrder ((assignEach ts X.env).map (·.2)) us) (λ_ s'=>∃σ' H',aI X π σ' H' s'/\Q σ' H') X.xe s
section
variable {X:Cx} {pos:Pos}
noncomputable def xI (i:Nat):TG:=λv σ H Q=>Q (σ.set i (some v)) H
theorem vi (hN:X.N.Nodup) (hi:X.N[i]?=some x) (hx:vc X.env.scope x) (hf:X.fn x=true∨X.env.scope.names.lookup x=some .local:=by first | exact .inl rfl | exact .inr rfl | assumption):PG X (.Name x pos) (xI i):=by
 intro π s σ H v u Q I r h;exact wpAny_assign_Name (lU I hN hi hx r (λs' I'=>⟨_,H,I',h⟩) hf)
noncomputable def Dq:vh:=λvs σ H Q=>vs=[]/\Q σ H
noncomputable def AT (t:TG) (u:vh):vh:=λvs σ H Q=>∃v r,vs=v::r/\t v σ H λσ' H'=>u r σ' H' Q
theorem pgs_nil:xH X [] Dq:=by
 intro π s σ H vs us Q I r h;obtain⟨e,h⟩:=h;subst e;cases r;exact assignInOrder_nil ⟨σ,H,I,h⟩
theorem rP {t:TG} {u:vh} (h1:PG X e t) (h2:xH X es u)
 (hs:(assignEach (e::es) X.env).map (·.2)=assign e X.env::(assignEach es X.env).map (·.2):=by rfl):xH X (e::es) (AT t u):=by
 intro π s σ H vs us Q I r h;obtain⟨v,vr,e1,h⟩:=h;subst e1;cases r with
 | cons r rr=>
   rw[hs];refine assignInOrder_cons (cf (h1 π s σ H _ _ _ I r h) λ_ s1 z9=>?_);obtain⟨σ1,H1,I1,q1⟩:=z9;exact h2 π s1 σ1 H1 _ _ Q I1 rr q1
noncomputable def Dr (K:yax) (n:Nat) (t:vh):TG:=λv σ H Q=>∃a xs,v=.ref a/\cU K H a xs/\xs.length=n/\t xs σ H Q
theorem yC {t:vh} {n:Nat} (hc:X.calm=true) (h:xH X es t)
 (hn:(assignEach es X.env).length=n:=by rfl) (hst:(assignEach es X.env).findIdx? (·.1)=none:=by rfl):PG X (.Tuple es k pos) (Dr X.K n t):=by
 intro π s σ H v u Q I r hw;obtain⟨a,xs,e1,hq,hl,hw⟩:=hw;subst e1;cases r;obtain⟨its,rv,ht,hz⟩:=I.tuple hq;refine assign_Tuple_tuple (I.ok.hd hc) ht (by simp[hn,←hl,rv.length]) hst λh' hx=>?_;have I1:aI X π σ H { s with heap:=h' }:=I.kept (t':=s.toks) λb o e=>hx b o (ne_of_lt (ybx e)) e;exact h π _ σ H xs _ Q I1 (by simpa using rv) hw
noncomputable def Dt (te:TE) (g:TG):TS:=λD σ H=>te σ H λx H1=>g x σ H1 D.nx
theorem yD {te:TE} {pos':Pos} (hN:X.N.Nodup) (hi:X.N[i]?=some x) (hx:vc X.env.scope x) (he:PE X e te) (hs:swapsWith e (some (.Name x pos')) pos.line X.env=pure false:=by rfl) (hf:X.fn x=true∨X.env.scope.names.lookup x=some .local:=by first | exact .inl rfl | exact .inr rfl | assumption):
 PS X (.Assign [.Name x pos'] e pos) (Dt te (xI i)):=by
 intro π s σ H D I h;refine wpAny_Assign_Name (cf (he π s σ H _ I h) λv s1 z9=>?_) hs;obtain⟨y,H1,I1,r1,q1⟩:=z9;exact lU I1 hN hi hx r1 (λs2 I2=>⟨_,H1,I2,q1⟩) hf
end
section
variable {X:Cx} {pos:Pos}
noncomputable def yE (c:TT) (tb:TS):TS:=λD σ H=>∃W:Nat->St->Hp->Prop,(∃m,W m σ H)/\∀m σ H,W m σ H->
 c σ H λb H1=>if b=true then ∃N:St->Hp->Prop,(∀σ' H',N σ' H'->∃m',m'<m/\W m' σ' H')/\tb { D with nx:=N,ct:=N,bk:=D.nx } σ H1 else D.nx σ H1
theorem rQ {c:Expr} {tc:TT} {tb:TS} (hp:PassesOwn (model X.prog X.w) X.A X.env X.xe) (hc:PT X c tc) (hb:lP X body tb):PS X (.While c body [] pos) (yE tc tb):=by
 intro π s σ H D I h;obtain⟨W,⟨m0,w0⟩,turn⟩:=h;refine wpAny_While (codeAny_whileLoop (λn s'=>∃σ' H',aI X π σ' H' s'/\W n σ' H') ?_ m0 ⟨σ,H,I,w0⟩);rintro n s1 ⟨σ1,H1,I1,w1⟩;refine wpAny_passesOwn hp (cf (hc π s1 σ1 H1 _ I1 (turn n σ1 H1 w1)) λb s2 z9=>?_);obtain⟨H2,I2,q2⟩:=z9;cases b with
 | true=>
   obtain⟨N,hN,q2⟩:=q2;rw[ycx rfl];refine wpAny_passesOwn hp (cf (hb π s2 σ1 H2 _ I2 q2) λf s3 q3=>?_);cases f with
   | next=>
     obtain⟨σ3,H3,I3,n3⟩:=q3;obtain⟨m',hm,w3⟩:=hN σ3 H3 n3;exact⟨m',hm,σ3,H3,I3,w3⟩
   | cont=>
     obtain⟨σ3,H3,I3,n3⟩:=q3;obtain⟨m',hm,w3⟩:=hN σ3 H3 n3;exact⟨m',hm,σ3,H3,I3,w3⟩
   | brk=>exact q3
   | ret v=>exact q3
 | false=>
   rw[ybv ycy];exact wpAny_execs_nil ⟨σ1,H2,I2,q2⟩
end
structure It where
 go:Nat->Hp->Prop
 yld:Nat->Hp->V->Hp->Prop
 stop:Nat->Hp->Prop
noncomputable def iD (X:Cx) (π:List (Addr×Obj)) (H:Hp) (b:Addr):Prop:=
 H b=none/\b≠X.env.locals/\b∉X.fs/\(b∈X.ex∨X.s₀.heap.objs.size<=b)/\(∀x c,X.env.cells.lookup x=some c->c≠b)/\∀p∈X.pn++π,p.1≠b
theorem aI.fpOk {X:Cx} {σ:St} {H H':Hp} {b:Addr} (I:aI X π σ H s) (hb:s.heap.objs.size<=b) (hn:H' b=none):iD X π H' b:=by
 refine⟨hn,Nat.ne_of_gt (ycv I.lt hb),I.nofs hb,.inr (ybz I.sz hb),λx c e z=>?_,λp hp z=>?_⟩
 ·obtain⟨v,q⟩:=I.cell x c e;exact absurd (ycv q.lt (by rw[z];exact hb)) (lt_irrefl _)
 ·exact absurd (ycv (ybx (I.pin p hp).1) (by rw[z];exact hb)) (lt_irrefl _)
structure kI (P:Program) (w:World) (K:yax) (tg:Expr) (J:It) (fp:List Addr) (it:Addr) (tn:Nat->Heap->Prop):Prop where
 mem:it∈fp
 obj:∀i h,tn i h->∀b∈fp,∃o,h.get? b=some o/\∀v,o.data≠ .cell v
 keep:∀i h h',tn i h->(∀b∈fp,∀o,h.get? b=some o->h'.get? b=some o)->tn i h'
 item:∀(X:Cx),X.prog=P->X.w=w->X.K=K->X.calm=true->∀(i:Nat) (π:List (Addr×Obj)) (s:Shared) (σ:St) (H:Hp) (E:ydz),aI X π σ H s->(∀b∈fp,iD X π H b)->tn i s.heap->J.go i H->
  wpAny (model P w) X.A (pyNext (.ref it)) (λr s1=>∃u,r=some u/\
   wpAny (model P w) X.A (letOwnedTupleGo tg (.ref it) u) (λ_ s2=>∃x H',aI X π σ H' s2/\bc x u/\J.yld i H x H'/\tn (i+1) s2.heap/\∀b∈fp,H' b=none) E s1) E s
 done:∀(X:Cx),X.prog=P->X.w=w->X.K=K->X.calm=true->∀(i:Nat) (π:List (Addr×Obj)) (s:Shared) (σ:St) (H:Hp) (E:ydz),aI X π σ H s->(∀b∈fp,iD X π H b)->tn i s.heap->J.stop i H->
  wpAny (model P w) X.A (pyNext (.ref it)) (λr s1=>r=none/\aI X π σ H s1) E s
 self:∀(A:Around) (i:Nat) (s:Shared) (Q:ydz) (E:ydz),tn i s.heap->Q (.ref it) s->wpAny (model P w) A (pyIter (.ref it)) Q E s
noncomputable abbrev TI:=St->Hp->(It->Hp->Prop)->Prop
noncomputable def Fd (X:Cx) (π:List (Addr×Obj)) (σ:St) (tg:Expr) (R:It->Hp->Prop) (itv:Value) (s2:Shared):Prop:=
 ∃(it:Addr) (fp:List Addr) (tn:Nat->Heap->Prop) (J:It) (H':Hp),itv=.ref it/\aI X π σ H' s2/\kI X.prog X.w X.K tg J fp it tn/\tn 0 s2.heap/\(∀b∈fp,iD X π H' b)/\R J H'
noncomputable def PI (X:Cx) (tg iter:Expr) (wi:TI):Prop:=
 ∀(π:List (Addr×Obj)) (s:Shared) (σ:St) (H:Hp) (R:It->Hp->Prop),aI X π σ H s->wi σ H R->
  wpAny (model X.prog X.w) X.A (eval iter X.env) (λv s1=>wpAny (model X.prog X.w) X.A (pyIter v) (Fd X π σ tg R) X.xe s1) X.xe s
theorem jR {M:Model} {tg:Expr} {it:Addr} {o:Obj} {n:String} {vs:Array Value} {Q:Unit->Shared->Prop} (ho:s.heap.get? it=some o) (hc:o.cls=.type n) (hd:o.data=.fields vs)
 (hn:["enumerate","zip","dict_itemiterator","dict_reverseitemiterator","odict_iterator","itertools.zip_longest","itertools.pairwise"].contains n=false) (hQ:Q () s):wpAny M A (letOwnedTupleGo tg (.ref it) u) Q E s:=by
 unfold letOwnedTupleGo;cases tg<;> first
  | exact way hQ
  | (cases u<;> first
      | exact way hQ
      | (refine wax (wpAny_load ho ?_)
         rw[hc,hd];show wpAny M A (if (["enumerate","zip","dict_itemiterator","dict_reverseitemiterator","odict_iterator","itertools.zip_longest","itertools.pairwise"].contains n&&vs[0]?==some (rawInt _))=true then _ else _) Q E s;rw[ybv (by intro h;rw[hn,Bool.false_and] at h;cases h)];exact way hQ))
noncomputable def CQ (K:yax) (a:Addr):It:=
 ⟨λi H=>∃xs x,cZ K H a xs/\xs[i]?=some x,λi H x H'=>H'=H/\∀xs,cZ K H a xs->xs[i]?=some x,λi H=>∃xs,cZ K H a xs/\xs.length<=i⟩
noncomputable def Dv (K:yax) (a:Addr):It:=
 ⟨λi H=>∃xs x,cU K H a xs/\xs[i]?=some x,λi H x H'=>H'=H/\∀xs,cU K H a xs->xs[i]?=some x,λi H=>∃xs,cU K H a xs/\xs.length<=i⟩
noncomputable def CS (lo:Int) (n:Nat):It:=⟨λi _=>i<n,λi H x H'=>H'=H/\x=.int (lo+i),λi _=>n<=i⟩
theorem qt {tg:Expr} (a it:Addr):kI P w K tg (CQ K a) [it] it (λi h=>h.IsListIter it a i) where
 mem:=by simp
 obj:=λi h st b hb=>by
  have e:b=it:=by simpa using hb
  subst e;obtain⟨o,e,c,d⟩:=st;exact⟨o,e,λv z=>by rw[d] at z;cases z⟩
 keep:=λi h h' st k=>st.at λo e=>k it (by simp) o e
 item:=by
  intro X hP hw hK hc i π s σ H E I hf st hg;subst hP hw hK;obtain⟨xs,x,hq,hx⟩:=hg;obtain⟨its,rv,p,hz⟩:=I.list hq;obtain⟨u,hu,ru⟩:=rv.get hx;obtain⟨f0,f1,f2,f3,f4,f5⟩:=hf it (by simp);refine wpAny_pyNext_list_item st p.isList (x:=u) (by simpa using hu) λh' st' sb=>?_;have I1:aI X π σ H { s with heap:=h' }:=I.turned (t':=s.toks) (λb o hb e=>(sb.2 b hb).trans e) f0 f1 f3 f4 f5;obtain⟨o,e,c,d⟩:=id st';exact⟨u,rfl,jR (s:={ s with heap:=h' }) e c d (by decide) ⟨x,H,I1,ru,⟨rfl,λys hy=>by rw[I.list_inj hy hq];exact hx⟩,st',λb hb=>(hf b hb).1⟩⟩
 done:=by
  intro X hP hw hK hc i π s σ H E I hf st hg;subst hP hw hK;obtain⟨xs,hq,hx⟩:=hg;obtain⟨its,rv,p,hz⟩:=I.list hq;obtain⟨f0,f1,f2,f3,f4,f5⟩:=hf it (by simp);have hl:=rv.length;exact wpAny_pyNext_list_end (I.ok.hd hc) st p.isList (by simp;lia) λh' eb=>⟨rfl,I.turned (t':=s.toks) (λb o hb e=>eb b o hb e) f0 f1 f3 f4 f5⟩
 self:=λ_ _ _ _ _ st h=>wpAny_pyIter_listiter st h
theorem nI {tg:Expr} (a it:Addr):kI P w K tg (Dv K a) [it] it (λi h=>h.IsTupleIter it a i) where
 mem:=by simp
 obj:=λi h st b hb=>by
  have e:b=it:=by simpa using hb
  subst e;obtain⟨o,e,c,d⟩:=st;exact⟨o,e,λv z=>by rw[d] at z;cases z⟩
 keep:=λi h h' st k=>st.at λo e=>k it (by simp) o e
 item:=by
  intro X hP hw hK hc i π s σ H E I hf st hg;subst hP hw hK;obtain⟨xs,x,hq,hx⟩:=hg;obtain⟨its,rv,p,hz⟩:=I.tuple hq;obtain⟨u,hu,ru⟩:=rv.get hx;obtain⟨f0,f1,f2,f3,f4,f5⟩:=hf it (by simp);refine wpAny_pyNext_tuple_item st (show s.heap.IsTuple a its.toArray from p) (x:=u) (by simpa using hu) λh' st' sb=>?_;have I1:aI X π σ H { s with heap:=h' }:=I.turned (t':=s.toks) (λb o hb e=>(sb.2 b hb).trans e) f0 f1 f3 f4 f5;obtain⟨o,e,c,d⟩:=id st';exact⟨u,rfl,jR (s:={ s with heap:=h' }) e c d (by decide) ⟨x,H,I1,ru,⟨rfl,λys hy=>by rw[I.tuple_inj hy hq];exact hx⟩,st',λb hb=>(hf b hb).1⟩⟩
 done:=by
  intro X hP hw hK hc i π s σ H E I hf st hg;subst hP hw hK;obtain⟨xs,hq,hx⟩:=hg;obtain⟨its,rv,p,hz⟩:=I.tuple hq;obtain⟨f0,f1,f2,f3,f4,f5⟩:=hf it (by simp);have hl:=rv.length;exact wpAny_pyNext_tuple_end (I.ok.hd hc) st (show s.heap.IsTuple a its.toArray from p) (by simp;lia) λh' eb=>⟨rfl,I.turned (t':=s.toks) (λb o hb e=>eb b o hb e) f0 f1 f3 f4 f5⟩
 self:=λ_ _ _ _ _ st h=>wpAny_pyIter_tupleiter st h
theorem nJ {tg:Expr} (it:Addr) (lo:Int) (n:Nat):kI P w K tg (CS lo n) [it] it (λi h=>IsRangeIter h it (lo+(i:Nat)*1) ((n:Int)- (i:Nat)) 1) where
 mem:=by simp
 obj:=λi h st b hb=>by
  have e:b=it:=by simpa using hb
  subst e;exact⟨_,st,λv z=>by
   have z':Data.fields _=Data.cell v:=z;cases z'⟩
 keep:=λi h h' st k=>k it (by simp) _ st
 item:=by
  intro X hP hw hK hc i π s σ H E I hf st hg;subst hP hw hK;obtain⟨f0,f1,f2,f3,f4,f5⟩:=hf it (by simp);have W:=Walks.range (prog:=X.prog) (w:=X.w) (I.ok.hd hc) it lo 1 n;refine W.item i s _ _ hg st λv h' tk hv st' kk=>?_;obtain⟨t,rfl⟩:=hv;have I1:aI X π σ H { s with heap:=h',toks:=tk }:=I.turned (λb o hb e=>kk b o (by simpa using hb) e) f0 f1 f3 f4 f5;refine⟨_,rfl,jR (s:={ s with heap:=h',toks:=tk }) (n:="range_iterator") st' rfl rfl (by decide) ⟨.int (lo+i),H,I1,⟨t,?_⟩,⟨rfl,rfl⟩,st',λb hb=>(hf b hb).1⟩⟩;rw[Int.mul_one]
 done:=by
  intro X hP hw hK hc i π s σ H E I hf st hg;subst hP hw hK;obtain⟨f0,f1,f2,f3,f4,f5⟩:=hf it (by simp);exact wpAny_pyNext_range_end (I.ok.hd hc) st (by have:n<=i:=hg;lia) λh' eb=>⟨rfl,I.turned (t':=s.toks) (λb o hb e=>eb b o hb e) f0 f1 f3 f4 f5⟩
 self:=λ_ _ _ _ _ st h=>wpAny_pyIter_rangeiter st h
section
variable {X:Cx} {tg:Expr}
theorem rR {σ:St} {H:Hp} {R:It->Hp->Prop} {lo hi:Int} {t u v:Tok} {tk:Nat} (I:aI X π σ H s) (h1: -(2^62)<=lo) (h2:lo<2^62) (h3: -(2^62)<=hi) (h4:hi<2^62)
 (q:R (CS lo (hi-lo).toNat) H):wpAny (model X.prog X.w) X.A (pyIter (.ref s.heap.objs.size)) (Fd X π σ tg R) E { s with heap:=s.heap.push { cls:= .type "range",data:= .fields #[.int lo t,.int hi u,.int 1 v] },toks:=tk }:=by
 refine wpAny_pyIter_range (IsRange.new ..) (small_one h1 h2 h3 h4) ?_;have I1:aI X π σ H { s with heap:=s.heap.push { cls:= .type "range",data:= .fields #[.int lo t,.int hi u,.int 1 v] },toks:=tk }:=I.kept λb o e=>yaw _ e;refine⟨(s.heap.push { cls:= .type "range",data:= .fields #[.int lo t,.int hi u,.int 1 v] }).objs.size,[(s.heap.push { cls:= .type "range",data:= .fields #[.int lo t,.int hi u,.int 1 v] }).objs.size],_,_,H,rfl,
  I1.kept (t':=tk) λb o e=>yaw _ e,nJ _ lo (hi-lo).toNat,?_,λb hb=>?_,q⟩
 ·have e1:lo+((0:Nat):Int)*1=lo:=by simp
  have e2:(((hi-lo).toNat:Nat):Int)- ((0:Nat):Int)=Builtin.Range.rangeSize lo hi 1:=by rw[rangeSize_one];split<;> lia
  show IsRangeIter _ _ (lo+((0:Nat):Int)*1) ((((hi-lo).toNat:Nat):Int)- ((0:Nat):Int)) 1;rw[e1,e2];exact yav _ rfl
 ·have e:b=(s.heap.push { cls:= .type "range",data:= .fields #[.int lo t,.int hi u,.int 1 v] }).objs.size:=by simpa using hb
  subst e;exact I1.fpOk (yby _) (I1.hok.fresh (yby _))
noncomputable def AU (ta:TA):TI:=λσ H R=>ta σ H λvs H1=>∃j:Int,vs=[.int j]/\-(2^62)<=j/\j<2^62/\R (CS 0 j.toNat) H1
theorem qw {a:Expr} {ta:TA} {p pos:Pos} (hg:Gl X "range") (hm:X.mg "range"=none) (ha:PA X [a] ta) (hs:starEach [a] X.env=[(false,eval a X.env)]:=by rfl):PI X tg (.Call (.Name "range" p) [a] [] pos) (AU ta):=by
 intro π s σ H R I h;refine Call_ (eU I hg hm boot_range (PyProof.Rows.callWith_type1 (cf (ha pos π s σ H _ I h) λus s1 z9=>?_) hs rfl));obtain⟨vs,H1,I1,r1,q1⟩:=z9;obtain⟨j,e,q1,q2,q⟩:=q1;subst e;cases r1 with
 | cons r rr=>
   cases rr;obtain⟨t,rfl⟩:=r;exact call_range_1 (rR I1 (by lia) (by lia) q1 q2 (by simpa using q))
noncomputable def Dw (wi:TI) (g:TG) (tb:TS):TS:=λD σ H=>wi σ H λJ H1=>∃W:Nat->Nat->St->Hp->Prop,(∃m,W 0 m σ H1)/\∀i m σ H,W i m σ H->
 (J.stop i H/\D.nx σ H)∨(J.go i H/\∃N:St->Hp->Prop,(∀σ' H',N σ' H'->∃m',m'<m/\W (i+1) m' σ' H')/\∀x H',J.yld i H x H'->g x σ H' λσ2 H2=>tb { D with nx:=N,ct:=N,bk:=D.nx } σ2 H2)
noncomputable def iT (fp:List Addr) (h:Heap):List (Addr×Obj):=fp.filterMap λb=>(h.get? b).map λo=>(b,o)
theorem dz {fp:List Addr} {h:Heap} {b:Addr} {o:Obj} (hb:b∈fp) (e:h.get? b=some o):(b,o)∈iT fp h:=List.mem_filterMap.mpr ⟨b,hb,by rw[e];rfl⟩
theorem qy {fp:List Addr} {h:Heap} {p:Addr×Obj} (hp:p∈iT fp h):p.1∈fp/\h.get? p.1=some p.2:=by
 obtain⟨b,hb,e⟩:=List.mem_filterMap.mp hp;cases q:h.get? b with
 | none=>rw[q] at e;cases e
 | some o=>
   rw[q] at e;have e':(b,o)=p:=Option.some.inj e;subst e';exact⟨hb,q⟩
theorem aI.pinned {σ:St} {H:Hp} {fp:List Addr} (I:aI X π σ H s) (hf:∀b∈fp,iD X π H b) (ho:∀b∈fp,∃o,s.heap.get? b=some o/\∀v,o.data≠ .cell v):aI X (π++iT fp s.heap) σ H s:=
 I.pins_of λp hp=>(mem_append.mp hp).elim (λz=>I.pin p (ydy _ z)) λz=>by
  obtain⟨hb,e⟩:=qy z;obtain⟨f0,f1,f2,_⟩:=hf p.1 hb;obtain⟨o,e',d⟩:=ho p.1 hb;rw[e] at e';cases e';exact⟨e,f0,f1,f2,d⟩
theorem aI.unpinned {π pl:List (Addr×Obj)} {σ:St} {H:Hp} (I:aI X (π++pl) σ H s):aI X π σ H s:=I.pins_of λp hp=>I.pin p (ydy _ (mem_append_left _ hp))
theorem yF {iter:Expr} {wi:TI} {g:TG} {tb:TS} (hp:PassesOwn (model X.prog X.w) X.A X.env X.xe) (hc:X.calm=true) (hi:PI X tg iter wi) (hg:PG X tg g) (hb:lP X body tb)
 (hs:∀x,foldedSetIterable iter X.env x=pure x:=by intro _;rfl):PS X (.For tg iter body [] pos) (Dw wi g tb):=by
 intro π s σ H D I h;refine wpAny_For (cf (hi π s σ H _ I h) λv s1 h1=>cf h1 λitv s2 h2=>?_) hs;obtain⟨it,fp,tn,J,H2,e,I2,T,st2,f2,W,⟨m0,w0⟩,turn⟩:=h2;subst e
 -- what stays true of the iterator's objects through the loop
 have stat:∀{H':Hp},(∀b∈fp,H' b=none)->∀b∈fp,iD X π H' b:=λhn b hb=>⟨hn b hb,(f2 b hb).2⟩;refine codeAny_forLoop_any (λn s'=>∃i σ' H',aI X π σ' H' s'/\tn i s'.heap/\(∀b∈fp,H' b=none)/\W i n σ' H') ?_ m0 ⟨0,σ,H2,I2,st2,λb hb=>(f2 b hb).1,w0⟩;rintro n s3 ⟨i,σ3,H3,I3,st3,fr3,w3⟩;rcases turn i n σ3 H3 w3 with⟨stop,qn⟩ | ⟨go,N,hN,step⟩
 ·refine wpAny_passesOwn hp (cf (T.done X rfl rfl rfl hc i π s3 σ3 H3 X.xe I3 (stat fr3) st3 stop) λr s4 z9=>?_);obtain⟨hr,I4⟩:=z9;subst hr;exact wpAny_execs_nil ⟨σ3,H3,I4,qn⟩
 ·refine wpAny_passesOwn hp (cf (T.item X rfl rfl rfl hc i π s3 σ3 H3 X.xe I3 (stat fr3) st3 go) λr s4 z9=>?_);obtain⟨u,hr,h4⟩:=z9;subst hr;refine wpAny_passesOwn hp (cf h4 λ_ s5 z9=>?_);obtain⟨x,H5,I5,r5,y5,st5,fr5⟩:=z9;have I5':=I5.pinned (stat fr5) (T.obj _ _ st5);refine wpAny_passesOwn hp (cf (hg _ s5 σ3 H5 x u _ I5' r5 (step x H5 y5)) λ_ s6 z9=>?_);obtain⟨σ6,H6,I6,q6⟩:=z9;refine wpAny_passesOwn hp (cf (hb _ s6 σ6 H6 _ I6 q6) λf s7 q7=>?_);have again:∀{σ7:St} {H7:Hp},aI X (π++iT fp s5.heap) σ7 H7 s7->N σ7 H7->∃m,m<n/\∃i σ' H',aI X π σ' H' s7/\tn i s7.heap/\(∀b∈fp,H' b=none)/\W i m σ' H':=λ{σ7 H7} I7 n7=>by
   obtain⟨m',hm,w7⟩:=hN σ7 H7 n7;refine⟨m',hm,i+1,σ7,H7,I7.unpinned,T.keep _ _ _ st5 λb hb o e=>(I7.pin (b,o) (ydy _ (ydy _ (dz hb e)))).1,λb hb=>?_,w7⟩;obtain⟨o,e,d⟩:=T.obj _ _ st5 b hb;exact(I7.pin (b,o) (ydy _ (ydy _ (dz hb e)))).2.1
  cases f with
  | next=>obtain⟨σ7,H7,I7,n7⟩:=q7;exact again I7 n7
  | cont=>obtain⟨σ7,H7,I7,n7⟩:=q7;exact again I7 n7
  | brk=>obtain⟨σ7,H7,I7,q7⟩:=q7;exact⟨σ7,H7,I7.unpinned,q7⟩
  | ret v=>obtain⟨x7,σ7,H7,I7,r7,q7⟩:=q7;exact⟨x7,σ7,H7,I7.unpinned,r7,q7⟩
end
noncomputable abbrev R2:=V->V->Hp->VK->Prop
noncomputable def ik (X:Cx) (f:Value->Value->Sem Value) (r:R2):Prop:=
 ∀(π:List (Addr×Obj)) (s:Shared) (σ:St) (H:Hp) (x y:V) (v u:Value) (Q:VK),aI X π σ H s->bc x v->bc y u->r x y H Q->
  wpAny (model X.prog X.w) X.A (f v u) (EP X π σ Q) X.xe s
noncomputable def Dx (X:Cx) (f:Value->Sem Value) (r:V->Hp->VK->Prop):Prop:=
 ∀(π:List (Addr×Obj)) (s:Shared) (σ:St) (H:Hp) (x:V) (v:Value) (Q:VK),aI X π σ H s->bc x v->r x H Q->
  wpAny (model X.prog X.w) X.A (f v) (EP X π σ Q) X.xe s
noncomputable def fQ (X:Cx) (f:Value) (r:List V->Hp->VK->Prop):Prop:=
 ∀(π:List (Addr×Obj)) (s:Shared) (σ:St) (H:Hp) (xs:List V) (us:ydw) (Q:VK),aI X π σ H s->aW xs us->r xs H Q->
  wpAny (model X.prog X.w) X.A (call f us) (EP X π σ Q) X.xe s
noncomputable def AV (r:R2) (ta tb:TE):TE:=λσ H Q=>ta σ H λx H1=>tb σ H1 λy H2=>r x y H2 Q
noncomputable def Fy (r:V->Hp->VK->Prop) (ta:TE):TE:=λσ H Q=>ta σ H λx H1=>r x H1 Q
noncomputable def rI (C:Int->Int->Prop) (g:Int->Int->V):R2:=λx y H Q=>∃i j,x=.int i/\y=.int j/\C i j/\Q (g i j) H
noncomputable def vj (g:Int->Int->V):R2:=λx y H Q=>∃i j,x=.int i/\y=.int j/\Q (g i j) H
noncomputable def rU (g:Int->V):V->Hp->VK->Prop:=λx H Q=>∃i,x=.int i/\Q (g i) H
section
variable {X:Cx} {a b c:Expr} {ta tb tc:TE} {pos:Pos}
theorem yG (ha:PE X a ta) (hb:PE X b tb) {σ:St} {H:Hp} {R:V->V->Hp->Prop} (I:aI X π σ H s)
 (h:ta σ H λx H1=>tb σ H1 λy H2=>R x y H2) {Q:ydz} {f:Value->Value->Sem Value}
 (hf:∀v u s2 x y H2,aI X π σ H2 s2->bc x v->bc y u->R x y H2->wpAny (model X.prog X.w) X.A (f v u) Q X.xe s2):
 wpAny (model X.prog X.w) X.A (eval a X.env) (λv s₁=>wpAny (model X.prog X.w) X.A (eval b X.env) (λu s₂=>wpAny (model X.prog X.w) X.A (f v u) Q X.xe s₂) X.xe s₁) X.xe s:=by
 refine cf (ha π s σ H _ I h) λv s1 z9=>?_;obtain⟨x,H1,I1,r1,q1⟩:=z9;refine cf (hb π s1 σ H1 _ I1 q1) λu s2 z9=>?_;obtain⟨y,H2,I2,r2,q2⟩:=z9;exact hf v u s2 x y H2 I2 r1 r2 q2
theorem AW {op:Operator} {r:R2} (ho:ik X (binaryOp op) r) (ha:PE X a ta) (hb:PE X b tb):PE X (.BinOp a op b pos) (AV r ta tb):=by
 intro π s σ H Q I h;exact wpAny_BinOp (yG ha hb I h λv u s2 x y H2 I2 rx ry q=>ho π s2 σ H2 x y v u Q I2 rx ry q)
theorem AX {op:UnaryOp} {r:V->Hp->VK->Prop} (ho:Dx X (unaryOp op) r) (ha:PE X a ta):PE X (.UnaryOp op a pos) (Fy r ta):=by
 intro π s σ H Q I h;exact UnaryOp_ (cf (ha π s σ H _ I h) λv s1 ⟨x,H1,I1,r1,q1⟩=>ho π s1 σ H1 x v Q I1 r1 q1)
theorem CT {f:Value->Value->Sem Value} {C:Int->Int->Prop} {g:Int->Int->Int}
 (rule:∀(i j:Int) (t u:Tok) (s:Shared) (Q:ydz) (E:ydz),C i j->Q (.int (g i j) s.toks) { s with toks:=s.toks+1 }->wpAny (model X.prog X.w) X.A (f (.int i t) (.int j u)) Q E s):
 ik X f (rI C λi j=> .int (g i j)):=by
 intro π s σ H x y v u Q I rx ry h;obtain⟨i,j,rfl,rfl,hc,q⟩:=h;obtain⟨t,rfl⟩:=rx;obtain⟨t',rfl⟩:=ry;exact rule i j t t' s _ _ hc ⟨.int (g i j),H,I.tok _,⟨_,rfl⟩,q⟩
theorem AY {f:Value->Value->Sem Value} {g:Int->Int->Int}
 (rule:∀(i j:Int) (t u:Tok) (s:Shared) (Q:ydz) (E:ydz),Q (.int (g i j) s.toks) { s with toks:=s.toks+1 }->wpAny (model X.prog X.w) X.A (f (.int i t) (.int j u)) Q E s):
 ik X f (vj λi j=> .int (g i j)):=by
 intro π s σ H x y v u Q I rx ry h;obtain⟨i,j,rfl,rfl,q⟩:=h;obtain⟨t,rfl⟩:=rx;obtain⟨t',rfl⟩:=ry;exact rule i j t t' s _ _ ⟨.int (g i j),H,I.tok _,⟨_,rfl⟩,q⟩
theorem vk {f:Value->Value->Sem Value} {g:Int->Int->Bool}
 (rule:∀(i j:Int) (t u:Tok) (s:Shared) (Q:ydz) (E:ydz),Q (.bool (g i j)) s->wpAny (model X.prog X.w) X.A (f (.int i t) (.int j u)) Q E s):
 ik X f (vj λi j=> .bl (g i j)):=by
 intro π s σ H x y v u Q I rx ry h;obtain⟨i,j,rfl,rfl,q⟩:=h;obtain⟨t,rfl⟩:=rx;obtain⟨t',rfl⟩:=ry;exact rule i j t t' s _ _ ⟨.bl (g i j),H,I,rfl,q⟩
noncomputable def AZ (i j:Int):Prop:=0<j/\j<1073741824
noncomputable def yH (i j:Int):Prop:=0<=j/\j<=1000000/\i.natAbs<2^64
noncomputable def vn (i j:Int):Prop:=(-(2^64)<i/\i<2^64)∨(-(2^64)<j/\j<2^64)
theorem vn.ok {i j:Int} (h:vn i j):IntMulOk i j:=by
 rcases h with⟨h1,h2⟩ | ⟨h1,h2⟩
 ·exact .of_left (intBits_le_64 h1 h2)
 ·exact .of_right (intBits_le_64 h1 h2)
theorem yI:ik X (binaryOp .Add) (vj λi j=> .int (i+j)):=AY λ_ _ _ _ _ _ _ q=>add_int q
theorem yJ:ik X (binaryOp .Sub) (vj λi j=> .int (i-j)):=AY λ_ _ _ _ _ _ _ q=>sub_int q
theorem yK:ik X (binaryOp .Mod) (rI (λ_ j=>0<j) λi j=> .int (i%j)):=CT λi j _ _ _ _ _ hc q=>by
 have h1:(0:Int)<j:=hc;exact mod_int' (by lia) (by rw[Int.fmod_eq_emod_of_nonneg i (by lia)];exact q)
theorem Fz {f:Value->Sem Value} {g:Int->Int}
 (rule:∀(i:Int) (t:Tok) (s:Shared) (Q:ydz) (E:ydz),Q (.int (g i) s.toks) { s with toks:=s.toks+1 }->wpAny (model X.prog X.w) X.A (f (.int i t)) Q E s):
 Dx X f (rU λi=> .int (g i)):=by
 intro π s σ H x v Q I rx h;obtain⟨i,rfl,q⟩:=h;obtain⟨t,rfl⟩:=rx;exact rule i t s _ _ ⟨.int (g i),H,I.tok _,⟨_,rfl⟩,q⟩
theorem yL:Dx X (unaryOp .USub) (rU λi=> .int (-i)):=Fz λ_ _ _ _ _ q=>neg_int q
end
section
variable {X:Cx} {a b c:Expr} {ta tb tc:TE} {pos:Pos}
theorem rS {σ:St} {H:Hp} {Q:VK} {k k':Bool} (I:aI X π σ H s) (q:Q (.bl k) H) (e:k=k'):EP X π σ Q (.bool k') s:=by
 subst e;exact⟨.bl k,H,I,rfl,q⟩
theorem A2:ik X (compareOp .Lt) (vj λi j=> .bl (decide (i<j))):=vk λ_ _ _ _ _ _ _ q=>lt_int q
theorem A3:ik X (compareOp .LtE) (vj λi j=> .bl (decide (i<=j))):=vk λ_ _ _ _ _ _ _ q=>le_int q
theorem A4:ik X (compareOp .Gt) (vj λi j=> .bl (decide (j<i))):=vk λ_ _ _ _ _ _ _ q=>gt_int q
theorem A5:ik X (compareOp .GtE) (vj λi j=> .bl (decide (j<=i))):=vk λ_ _ _ _ _ _ _ q=>ge_int q
theorem yM:ik X (compareOp .Is) (λx y H Q=>y=.non/\Q (.bl (decide (x=.non))) H):=by
 intro π s σ H x y v u Q I rx ry h;obtain⟨rfl,q⟩:=h;cases ry;refine is_none_gen (rS I q ?_);cases x<;> first
  | (cases rx;rfl)
  | (obtain⟨t,rfl⟩:=rx;rfl)
theorem vo:ik X (compareOp .IsNot) (λx y H Q=>y=.non/\Q (.bl (!decide (x=.non))) H):=by
 intro π s σ H x y v u Q I rx ry h;obtain⟨rfl,q⟩:=h;cases ry;refine isnot_none_gen (rS I q ?_);cases x<;> first
  | (cases rx;rfl)
  | (obtain⟨t,rfl⟩:=rx;rfl)
theorem rT (b:Expr) {op:CmpOp} (h:op≠ .In:=by decide) (h2:op≠ .NotIn:=by decide):behindInMarks op b=false:=by
 have e1:(op==CmpOp.In)=false:=by cases op<;> first | rfl | exact absurd rfl h
 have e2:(op==CmpOp.NotIn)=false:=by cases op<;> first | rfl | exact absurd rfl h2
 cases b<;> simp[behindInMarks,e1,e2]
theorem vp {op:CmpOp} {r:R2} (ho:ik X (compareOp op) r) (ha:PE X a ta) (hb:PE X b tb) (hm:behindInMarks op b=false):PE X (.Compare a [op] [b] pos) (AV r ta tb):=by
 intro π s σ H Q I h;exact wpAny_Compare1 (yG ha hb I h λv u s2 x y H2 I2 rx ry q=>ho π s2 σ H2 x y v u Q I2 rx ry q) hm
noncomputable def xJ (t:TE):TT:=λσ H Q=>t σ H λx H'=>∃k,x=.bl k/\Q k H'
theorem vq {op:CmpOp} {r:R2} (ho:ik X (compareOp op) r) (ha:PE X a ta) (hb:PE X b tb) (hm:behindInMarks op b=false):PT X (.Compare a [op] [b] pos) (xJ (AV r ta tb)):=by
 intro π s σ H Q I h;refine wpAny_isTrue_Compare1 (cf (ha π s σ H _ I h) λv s1 ⟨x,H1,I1,r1,q1⟩=>cf (hb π s1 σ H1 _ I1 q1) λu s2 ⟨y,H2,I2,r2,q2⟩=>
  cf (ho π s2 σ H2 x y v u _ I2 r1 r2 q2) λc s3 ⟨z,H3,I3,r3,k,e,q3⟩=>?_) hm
 subst e;cases r3;exact wpAny_truthy_bool ⟨H3,I3,q3⟩
theorem iU:(sizeLine:Nat)<2^63:=by rw[sizeLine_eq];decide
theorem nK:ik X (binaryOp .Add) (λx y H Q=>∃i j,x=.str i/\y=.str j/\i.length+j.length<=sizeLine/\Q (.str (i++j)) H):=by
 intro π s σ H x y v u Q I rx ry h;obtain⟨i,j,rfl,rfl,hz,q⟩:=h;obtain⟨t,rfl⟩:=rx;obtain⟨t',rfl⟩:=ry;exact add_str (λt' tk=>⟨.str (i++j),H,I.tok _,⟨_,rfl⟩,q⟩) hz
theorem eV {x:V} (r:aW [x] us):∃u,us=[u]/\bc x u:=by
 cases r with
 | cons r1 r2=>cases r2;exact⟨_,rfl,r1⟩
theorem o5 {x y:V} (r:aW [x,y] us):∃u w',us=[u,w']/\bc x u/\bc y w':=by
 cases r with
 | cons r1 r2=>
   cases r2 with
   | cons r3 r4=>cases r4;exact⟨_,_,rfl,r1,r3⟩
theorem qz (hc:X.calm=true):fQ X (.builtin "max") (λxs H Q=>∃i j,xs=[.int i,.int j]/\Q (.int (if j > i then j else i)) H):=by
 intro π s σ H xs us Q I r h;obtain⟨i,j,rfl,q⟩:=h;obtain⟨u,w',rfl,⟨t,rfl⟩,⟨t',rfl⟩⟩:=o5 r;refine max_two_ints (I.ok.hd hc) λh' tk k=>⟨_,H,I.kept k,?_,q⟩
 by_cases hj:j > i
 ·rw[ycx hj,ycx hj];exact⟨_,rfl⟩
 ·rw[ybv hj,ybv hj];exact⟨_,rfl⟩
end
structure nM (h:Heap) (x dx C:Addr) (mA:ydv):Prop where
 obj:h.get? x=some (instObj C dx)
 ns:h.Ns1 dx mA
 ne:dx≠x
theorem qA {h:Heap} {dx:Addr} {mA:ydv} (n:h.Ns1 dx mA):∃od,h.get? dx=some od/\∀name,lookIn name od=some (mA name):=by
 obtain⟨o,es,ep,ho,hd,hk,_,hm⟩:=n;refine⟨o,ho,λname=>?_⟩;have e:=hm name;unfold nsFind findBy at e;rw[←Array.find?_toList] at e;unfold lookIn;rw[hd];dsimp only;split
 ·rename_i y q;rw[q] at e;exact congrArg some e
 ·rename_i q;rw[q] at e;have a:es.toList.any (·.refKey)=false:=by
   rw[List.any_eq_false];intro y hy;obtain⟨z,t,hkey⟩:=hk y (Array.mem_toList_iff.mp hy);simp[DictEntry.refKey,hkey]
  have a':¬es.toList.any (·.refKey)=true:=by rw[a];exact ycy
  rw[ybv a'];exact congrArg some e
theorem nM.look {h:Heap} {x dx C:Addr} {mA:ydv} (I:nM h x dx C mA):∃od,PySem.W.InstAt h x (instObj C dx) C (some od)/\∀name,lookIn name od=some (mA name):=
 let ⟨od,ho,hl⟩:=qA I.ns
 ⟨od,⟨I.obj,rfl,rfl,ho⟩,hl⟩
section
variable {prog:Program} {w:World} {A:Around} {E:ydz} {s:Shared} {K:yax} {x dx C f:Addr} {mA:ydv} {name:Str} {v:Value}
theorem vt {expr:Bool} (X:K.In s.heap) (I:nM s.heap x dx C mA) (hg:plainGet K C name=true) (hh:hasDictIn K C=true)
 (ha:findIn K (.ref C) name=some none) (hv:mA name=some v) (hv':PySem.W.handedIn v=true) (h:Q v { s with toks:=s.toks+1 }):
 wpAny (model prog w) A (getAttr (.ref x) name expr) Q E s:=by
 obtain⟨od,J,hl⟩:=I.look;exact PySem.W.get_value X J (PySem.W.plainGet_of hg).1 (PySem.W.findObj_own hh ha rfl (by rw[hl,hv])) hv' h
theorem rV {pl:Sem Bool} {Q:Value×List Value->Shared->Prop} (X:K.In s.heap) (I:nM s.heap x dx C mA) (hg:plainGet K C name=true)
 (hf:findIn K (.ref C) name=some (some (.ref f))) (ht:isFn K (.ref f)=true) (hv:mA name=none) (h:Q (.ref f,[.ref x]) s):
 wpAny (model prog w) A (getMethod (.ref x) name pl) Q E s:=by
 obtain⟨od,J,hl⟩:=I.look;exact PySem.W.method_fn X J (PySem.W.plainGet_of hg).1 (PySem.W.plainGet_of hg).2 hf (beq_iff_eq.mp ht) (by show(lookIn name od).map (·.isSome)=some false;rw[hl,hv];rfl) h
theorem vv {ns:List Str} {Q:Unit->Shared->Prop} (X:K.In s.heap) (I:nM s.heap x dx C mA)
 (hs:findIn K (.ref C) "__setattr__"=some (some (.builtin "object.__setattr__"))) (hp:plainOver K C=true) (ht:PySem.W.takerIn K C name=some none) (hh:hasDictIn K C=true)
 (hw:PySem.Within mA ns) (hsz:ns.length<=sizeLine)
 (h:∀h',nM h' x dx C (λy=>if y=name then some v else mA y)->Heap.SameBut dx s.heap h'->Q () { s with heap:=h',toks:=s.toks+2 }):
 wpAny (model prog w) A (setAttr (.ref x) name v) Q E s:=by
 obtain⟨od,J,hl⟩:=I.look;refine PySem.W.set_plain X J hs (PySem.W.osa_open (s:={ s with toks:=s.toks+1 }) (r:=none) X J hp ht λb=>?_);obtain⟨cd,hc,hd'⟩:=PySem.W.any_some hh;have hx:s.heap.get? x=some ⟨.ref C,some dx,.plain,#[]⟩:=I.obj;refine wax (way (wax (wax (wpAny_loadPart hx (wax (PySem.W.Looks.here (s:={ s with toks:=s.toks+1 }) (PySem.W.looks_clsIn X hc) ?_))))));rw[hd'];refine way (a:=some dx) (wax (way (wax ?_)));refine wpAny_nsSet1 (s:={ s with toks:=s.toks+1 }) I.ns λh' hn2 hs2=>?_;obtain⟨oD,esD,epD,hoD,hdD,hcD⟩:=hn2.count (PySem.Within.cons name v hw);refine wax (wpAny_lookBehind hoD (by rw[hdD];exact pastItsLine_dict (ybz hcD (by rw[length_cons];lia))) ?_);exact way (h _ ⟨(hs2.2 _ (Ne.symm I.ne)).trans I.obj,hn2,I.ne⟩ hs2)
theorem rW {R:Result->Shared->Prop} {vs:ydw} {kw:List (Str×Value)} (X:K.In s.heap) (hm:makesIn K C=true)
 (hi:findIn K (.ref C) "__init__"=some (some (.ref f))) (hf:typeIn K (.ref f)=some (.type "function"))
 (h:codeAny (model prog w) (A.under (.builtin "type.__call__" ⟨.ref C::vs,kw⟩)) (.call (.ref f) ⟨.ref (s.heap.objs.size+1)::vs,kw⟩) (PySem.W.InitBack (s.heap.objs.size+1) R)
   { s with heap:=(s.heap.push emptyDict).push (instObj C s.heap.objs.size) }):
 codeAny (model prog w) A (.call (.ref C) ⟨vs,kw⟩) R s:=by
 obtain⟨hh,g,d,t,os⟩:=s;exact PySem.W.make_core (PySem.W.makes_of X hm) (PySem.W.looks_findIn X hi) (λself=>PySem.W.bind_fn X self hf) (.inl rfl) h
end
noncomputable def dZ (f:Str) (v:V):List (Str×V)->List (Str×V)
 | []=>[(f,v)]
 | (g,x)::r=>if g=f then (g,v)::r else (g,x)::dZ f v r
theorem il (f g:Str) (v:V):∀fs:List (Str×V),(dZ f v fs).lookup g=if g=f then some v else fs.lookup g
 | []=>by
   show List.lookup g [(f,v)]=_
   by_cases h:g=f
   ·have hb:(g==f)=true:=beq_iff_eq.mpr h;simp only[List.lookup,hb,ycx h]
   ·have hb:(g==f)=false:=beq_eq_false_iff_ne.mpr h;simp only[List.lookup,hb,ybv h]
 | (k,x)::r=>by
   have ih:=il f g v r;rw[show dZ f v ((k,x)::r)=(if k=f then (k,v)::r else (k,x)::dZ f v r) from rfl]
   by_cases hk:k=f
   ·rw[ycx hk]
    by_cases h:g=k
    ·have hb:(g==k)=true:=beq_iff_eq.mpr h;simp only[List.lookup,hb,ycx (h.trans hk)]
    ·have hb:(g==k)=false:=beq_eq_false_iff_ne.mpr h;simp only[List.lookup,hb,ybv (λe:g=f=>h (e.trans hk.symm))]
   ·rw[ybv hk]
    by_cases h:g=k
    ·have hb:(g==k)=true:=beq_iff_eq.mpr h;simp only[List.lookup,hb,ybv (λe:g=f=>hk (h.symm.trans e))]
    ·have hb:(g==k)=false:=beq_eq_false_iff_ne.mpr h;simp only[List.lookup,hb];exact ih
theorem gJ (f:Str) (v:V):∀fs:List (Str×V),f∈(dZ f v fs).map (·.1)/\∀g,g∈fs.map (·.1)->g∈(dZ f v fs).map (·.1)
 | []=>⟨by simp[dZ],λg h=>by simp at h⟩
 | (k,x)::r=>by
   obtain⟨i1,i2⟩:=gJ f v r;rw[show dZ f v ((k,x)::r)=(if k=f then (k,v)::r else (k,x)::dZ f v r) from rfl]
   by_cases hk:k=f
   ·rw[ycx hk];subst hk;exact⟨by simp,λg h=>by simpa using h⟩
   ·rw[ybv hk];refine⟨?_,λg h=>?_⟩
    ·rw[map_cons];exact yay _ i1
    ·rw[map_cons] at h ⊢;rcases mem_cons.mp h with e | e
     ·exact mem_cons.mpr (.inl e)
     ·exact yay _ (i2 g e)
theorem im (f:Str) (v:V):∀fs:List (Str×V),(dZ f v fs).length<=fs.length+1
 | []=>by simp[dZ]
 | (k,x)::r=>by
   have ih:=im f v r;rw[show dZ f v ((k,x)::r)=(if k=f then (k,v)::r else (k,x)::dZ f v r) from rfl]
   by_cases hk:k=f
   ·rw[ycx hk,length_cons,length_cons];lia
   ·rw[ybv hk,length_cons,length_cons];lia
theorem fG.some_of {v:V} {o:Option Value} (r:fG (some v) o):∃u,o=some u/\bc v u:=by
 cases o with
 | none=>exact(show False from r).elim
 | some u=>exact⟨u,rfl,r⟩
theorem fG.none_of {o:Option Value} (r:fG none o):o=none:=by
 cases o with
 | none=>rfl
 | some u=>exact(show False from r).elim
theorem qB {v:V} (r:bc v u):PySem.W.handedIn u=true:=by
 cases v with
 | non=>cases (show u=Value.none from r);rfl
 | bl b=>cases (show u=Value.bool b from r);rfl
 | int i=>obtain⟨t,e⟩:=(show ∃t,u=Value.int i t from r);cases e;rfl
 | str x=>obtain⟨t,e⟩:=(show ∃t,u=Value.str x t from r);cases e;rfl
 | byt b=>obtain⟨t,e⟩:=(show ∃t,u=Value.bytes b t from r);cases e;rfl
 | flt b=>obtain⟨t,e⟩:=(show ∃t,u=Value.float b t from r);cases e;rfl
 | ref a=>cases (show u=Value.ref a from r);rfl
 | ty n=>cases (show u=Value.type n from r);rfl
section
variable {P:Program} {w:World} {H H':Hp} {h h':Heap} {a C dx:Addr} {fs fs':List (Str×V)}
theorem iI (hok:fu P w H h) (e:H a=some (.ins C dx fs)):∃mA,nM h a dx C mA/\(∀f,fG (fs.lookup f) (mA f))/\PySem.Within mA (fs.map (·.1))/\fs.length<=1000/\H dx=some (.own a):=by
 obtain⟨d,z,ne,ob,mA,n,r,q⟩:=(show bI P w H h a (.ins C dx fs) from hok a _ e);exact⟨mA,⟨ob,n,ne⟩,r,q,z,d⟩
end
structure dj (K:yax) (C:Addr):Prop where
 pg:plainGet K C Str.empty=true
 hd:hasDictIn K C=true
 po:plainOver K C=true
 sa:findIn K (.ref C) "__setattr__"=some (some (.builtin "object.__setattr__"))
theorem dj.get {C:Addr} (c:dj K C) (f:Str):plainGet K C f=true:=c.pg
noncomputable def aD (K:yax) (C:Addr) (f:Str):Prop:=findIn K (.ref C) f=some none
theorem aD.taker {C:Addr} {f:Str} (n:aD K C f):PySem.W.takerIn K C f=some none:=by
 unfold PySem.W.takerIn;rw[show findIn K (.ref C) f=some none from n]
 rfl
structure GA (K:yax) (C:Addr) (f:Str) (v:V) (u:Value):Prop where
 at_:findIn K (.ref C) f=some (some u)
 rel:bc v u
 get:PySem.W.specialIn K u "__get__"=some none
 cp:PySem.W.copiedNames.contains f=false
structure qC (K:yax) (C:Addr) (m:Str) (f:Addr):Prop where
 at_:findIn K (.ref C) m=some (some (.ref f))
 fn:isFn K (.ref f)=true
 kp:keepIn K (.ref f)=true
section
variable {X:Cx} {π:List (Addr×Obj)} {σ:St} {H:Hp} {s:Shared} {a C dx:Addr} {fs:List (Str×V)} {f:Str} {v:V} {A:Around} {E:ydz}
theorem nN {b:Bool} (I:aI X π σ H s) (e:H a=some (.ins C dx fs)) (c:dj X.K C) (n:aD X.K C f) (l:fs.lookup f=some v)
 (h:∀u s',aI X π σ H s'->bc v u->Q u s'):wpAny (model X.prog X.w) A (getAttr (.ref a) f b) Q E s:=by
 obtain⟨mA,O,r,_,_,_⟩:=iI I.hok e;obtain⟨u,hu,ru⟩:=fG.some_of (v:=v) (o:=mA f) (by rw[←l];exact r f);exact vt I.kIn O (c.get f) c.hd n hu (qB ru) (h u _ (I.tok _) ru)
theorem iV {m:Str} {g:Addr} {pl:Sem Bool} {Q:Value×List Value->Shared->Prop} (I:aI X π σ H s) (e:H a=some (.ins C dx fs)) (c:dj X.K C) (k:qC X.K C m g) (l:fs.lookup m=none)
 (h:Q (.ref g,[.ref a]) s):wpAny (model X.prog X.w) A (getMethod (.ref a) m pl) Q E s:=by
 obtain⟨mA,O,r,_,_,_⟩:=iI I.hok e;have hn:mA m=none:=fG.none_of (by rw[←l];exact r m);exact rV I.kIn O (c.get m) k.at_ k.fn hn h
theorem nP {y:V} {Q:Unit->Shared->Prop} (I:aI X π σ H s) (e:H a=some (.ins C dx fs)) (c:dj X.K C) (n:aD X.K C f) (hl:fs.length<1000) (ry:bc y u)
 (h:∀s',aI X π σ (upd H a (.ins C dx (dZ f y fs))) s'->Q () s'):wpAny (model X.prog X.w) A (setAttr (.ref a) f u) Q E s:=by
 obtain⟨mA,O,r,wi,_,ho⟩:=iI I.hok e;have hz:(fs.map (·.1)).length<=sizeLine:=by rw[length_map,sizeLine_eq];lia
 refine vv I.kIn O c.sa c.po n.taker c.hd wi hz λh' O' sb=>h _ ?_;have hd:∃o,h'.get? dx=some o:=let ⟨o,_,_,e',_⟩:=O'.ns;⟨o,e'⟩;refine I.write (x:=a) (e:=dx) (by rw[e];exact True.intro) (.inr ho) (λb q hb z=>(sb.2 b hb).trans z) hd ?_;refine⟨by rw[aJ O.ne];exact ho,?_,O.ne,O'.obj,_,O'.ns,λg=>?_,λg hg=>?_⟩
 ·have:=im f y fs;lia
 ·show fG ((dZ f y fs).lookup g) (if g=f then some u else mA g);rw[il]
  by_cases q:g=f
  ·rw[ycx q,ycx q];exact ry
  ·rw[ybv q,ybv q];exact r g
 ·by_cases q:g=f
  ·rw[q];exact(gJ f y fs).1
  ·refine(gJ f y fs).2 g (wi g λz=>hg ?_);show(if g=f then some u else mA g)=none;rw[ybv q];exact z
theorem aI.made (I:aI X π σ H s):aI X π σ (upd (upd H s.heap.objs.size (.own (s.heap.objs.size+1))) (s.heap.objs.size+1) (.ins C s.heap.objs.size []))
 { s with heap:=(s.heap.push emptyDict).push (instObj C s.heap.objs.size) }:=by
 have e1:(s.heap.push emptyDict).get? s.heap.objs.size=some emptyDict:=yav s.heap rfl;have e2:((s.heap.push emptyDict).push (instObj C s.heap.objs.size)).get? (s.heap.objs.size+1)=some (instObj C s.heap.objs.size):=by
  have:=yav (s.heap.push emptyDict) (o:=instObj C s.heap.objs.size) rfl
  rwa [Heap.size_push] at this
 have e3:(s.heap.push emptyDict).Ns s.heap.objs.size (λ_=>none):=⟨emptyDict,#[],_,e1,rfl,(λe he=>absurd he (by simp)),λ_=>rfl⟩;have I1:=I.laid (a:=s.heap.objs.size) (o:= .own (s.heap.objs.size+1)) (h':=s.heap.push emptyDict) (t':=s.toks) (λb u q=>yaw _ q) (yby _) ⟨_,e1⟩;refine I1.laid (a:=s.heap.objs.size+1) (o:= .ins C s.heap.objs.size []) (t':=s.toks) (λb u q=>yaw _ q) (Nat.le_of_eq (Heap.size_push _ _)) ?_;have ne:s.heap.objs.size≠s.heap.objs.size+1:=ne_of_lt (Nat.lt_succ_self _);refine⟨by rw[aJ ne,bd],zero_le _,ne,e2,λ_=>none,(Heap.Ns1.of_empty e3).at λo q=>yaw _ q,λ_=>True.intro,λy hy=>absurd rfl hy⟩
theorem vw {env:Env} {f:Str} (hb:attributeBase e f env (eval e env)=eval e env)
 (h:wpAny (model prog w) A (eval e env) (λo s₁=>wpAny (model prog w) A (getAttr o f true) Q E s₁) E s):wpAny (model prog w) A (eval (.Attribute e f pos) env) Q E s:=
 Attribute_any_ h (by rw[arm_eval_Attribute,hb])
end
noncomputable def Dy (K:yax) (ta:TE) (f:Str):TE:=λσ H Q=>ta σ H λx H1=>∃a C dx fs v,x=.ref a/\H1 a=some (.ins C dx fs)/\dj K C/\aD K C f/\fs.lookup f=some v/\Q v H1
noncomputable def Dz (K:yax) (ta tv:TE) (f:Str):TS:=λD σ H=>tv σ H λy H1=>ta σ H1 λx H2=>∃a C dx fs,x=.ref a/\H2 a=some (.ins C dx fs)/\dj K C/\aD K C f/\fs.length<1000/\
 D.nx σ (upd H2 a (.ins C dx (dZ f y fs)))
section
variable {X:Cx} {o e value:Expr} {f:Str} {pos pos' tpos:Pos} {ta tv:TE}
theorem yN (he:PE X e ta) (hb:attributeBase e f X.env (eval e X.env)=eval e X.env):PE X (.Attribute e f pos) (Dy X.K ta f):=by
 intro π s σ H Q I h;refine vw hb (cf (he π s σ H _ I h) λu s1 z9=>?_);obtain⟨x,H1,I1,rx,a,C,dx,fs,v,ex,ea,c,n,l,q⟩:=z9;subst ex;obtain rfl:u=Value.ref a:=rx;exact nN I1 ea c n l λu' s2 I2 ru=>⟨v,H1,I2,ru,q⟩
theorem yO (ha:PE X o ta) (hv:PE X value tv) (hs:swapsWith value (some (.Attribute o f pos')) pos.line X.env=pure false):PS X (.Assign [.Attribute o f pos'] value pos) (Dz X.K ta tv f):=by
 intro π s σ H D I h;refine plainObj_wpAny_Assign_Attribute (cf (hv π s σ H _ I h) λu s1 ⟨y,H1,I1,ry,q⟩=>cf (ha π s1 σ H1 _ I1 q) λov s2 z9=>?_) hs;obtain⟨x,H2,I2,rx,a,C,dx,fs,ex,ea,c,n,l,q2⟩:=z9;subst ex;obtain rfl:ov=Value.ref a:=rx;exact nP I2 ea c n l ry λs3 I3=>⟨σ,_,I3,q2⟩
end
section
variable {X:Cx} {π:List (Addr×Obj)} {σ:St} {H:Hp} {s:Shared} {A:Around} {E:ydz} {Q:ydz} {c:Value} {b:Bool}
inductive gK (K:yax) (H:Hp):V->Value->Prop where
 | non:gK K H .non (.type "NoneType")
 | bl (x:Bool):gK K H (.bl x) (.type "bool")
 | int (i:Int):gK K H (.int i) (.type "int")
 | str (x:Str):gK K H (.str x) (.type "str")
 | flt (x:UInt64):gK K H (.flt x) (.type "float")
 | lst {a:Addr} {xs:List V} (e:H a=some (.lst xs)):gK K H (.ref a) (.type "list")
 | frz {a:Addr} {o:Obj} {xs:List V} (e:H a=some (.frz o (.lst xs))):gK K H (.ref a) (.type "list")
 | tup {a:Addr} {xs:List V} (e:H a=some (.tup xs)):gK K H (.ref a) (.type "tuple")
 | dK {a:Addr} {kvs:List (aS×V)} (e:H a=some (.dK kvs)):gK K H (.ref a) (.type "dict")
 | dT {a:Addr} {kvs:List (List aS×V)} (e:H a=some (.dT kvs)):gK K H (.ref a) (.type "dict")
 | ins {a C dx:Addr} {fs:List (Str×V)} (e:H a=some (.ins C dx fs)) (cl:dj K C) (ha:findIn K (.ref C) "__class__"=some (some (.builtin "object.__class__")))
    (hn:PySem.W.specialIn K (.builtin "object.__class__") "__get__"=some (some (.builtin "getset_descriptor.__get__"))) (htk:PySem.W.takesIn K (.builtin "object.__class__")=some true)
    (hm:mroIn K C (.type "object")=some true):gK K H (.ref a) (.ref C)
theorem qD {x:V} {u t:Value} (I:aI X π σ H s) (rx:bc x u) (ty:gK X.K H x t) (e:PySem.W.kitOne X.K t c=some b) (h:∀tk,Q (.bool b) { s with toks:=tk }):
 wpAny (model X.prog X.w) A (call (.builtin "isinstance") [u,c]) Q E s:=by
 cases ty with
 | non=>cases (show u=Value.none from rx);exact kia_one PySem.W.kitx_none I.kIn True.intro e (λz=>nomatch z) h
 | bl y=>cases (show u=Value.bool y from rx);exact kia_one PySem.W.kitx_bool I.kIn True.intro e (λz=>nomatch z) h
 | int i=>obtain⟨t,q⟩:=(show ∃t,u=Value.int i t from rx);cases q;exact kia_one PySem.W.kitx_int I.kIn True.intro e (λz=>nomatch z) h
 | str y=>obtain⟨t,q⟩:=(show ∃t,u=Value.str y t from rx);cases q;exact kia_one PySem.W.kitx_str I.kIn True.intro e (λz=>nomatch z) h
 | flt y=>obtain⟨t,q⟩:=(show ∃t,u=Value.float y t from rx);cases q;exact kia_one PySem.W.kitx_float I.kIn True.intro e (λz=>nomatch z) h
 | @lst a xs ea=>
   cases (show u=Value.ref a from rx);obtain⟨_,_,n,_,h1⟩:=(show bI X.prog X.w H s.heap a (.lst xs) from I.hok a _ ea);exact kia_one PySem.W.kitx_list I.kIn ⟨_,h1,rfl⟩ e (λz=>nomatch z) h
 | @frz a ob xs ea=>
   cases (show u=Value.ref a from rx);obtain⟨_,_,_,n,_,h1⟩:=(show bI X.prog X.w H s.heap a (.frz ob (.lst xs)) from I.hok a _ ea);exact kia_one PySem.W.kitx_list I.kIn ⟨_,h1,rfl⟩ e (λz=>nomatch z) h
 | @tup a xs ea=>
   cases (show u=Value.ref a from rx);obtain⟨_,_,_,p⟩:=(show bI X.prog X.w H s.heap a (.tup xs) from I.hok a _ ea);obtain⟨o,h1,h2,_⟩:=p;exact kia_one PySem.W.kitx_tuple I.kIn ⟨o,h1,h2⟩ e (λz=>nomatch z) h
 | @dK a kvs ea=>
   cases (show u=Value.ref a from rx);obtain⟨_,_,vs,_,p⟩:=(show bI X.prog X.w H s.heap a (.dK kvs) from I.hok a _ ea);obtain⟨o,es,ep,h1,h2,_⟩:=p;exact kia_one PySem.W.kitx_dict I.kIn ⟨o,h1,h2.1⟩ e (λz=>nomatch z) h
 | @dT a kvs ea=>
   cases (show u=Value.ref a from rx);obtain⟨_,_,xs,_,o,es,ep,h1,h2,_⟩:=(show bI X.prog X.w H s.heap a (.dT kvs) from I.hok a _ ea);exact kia_one PySem.W.kitx_dict I.kIn ⟨o,h1,h2.1⟩ e (λz=>nomatch z) h
 | @ins a C dx fs ea cl ha hn htk hm=>
   cases (show u=Value.ref a from rx);obtain⟨mA,O,_⟩:=iI I.hok ea;obtain⟨od,J,_⟩:=O.look;exact kia_one (PySem.W.kitx_own (cl.get _) cl.hd ha hn htk hm) I.kIn J e (λz=>nomatch z) h
end
structure av (k:Nat) (A:Around):Prop where
 hd:A.handled=none
 dp:A.depth+3*k+5<recursionLimit
 un:A.units+16*k+200<cLine
theorem av.mono {j k:Nat} (r:av k A) (h:j<=k):av j A:=⟨r.hd,by have:=r.dp;lia,by have:=r.un;lia⟩
theorem av.deeper (r:av (k+1) A) (env:Env):av k (A.deeper env):=
 ⟨r.hd,by have:=r.dp;show A.depth+1+3*k+5<_;lia,by have:=r.un;show A.units+3+16*k+200<_;lia⟩
theorem nQ {C:Addr} {kw:List (Str×Value)}:(A.under (.builtin "type.__call__" ⟨.ref C::us,kw⟩)).depth=A.depth+1:=by
 first | rfl | simp[Around.under,Code.weight,Code.isCreation,Code.isGuard,Code.isCaller,Code.frames,Code.isFrame,guardIds]
theorem nR {C:Addr} {kw:List (Str×Value)}:(A.under (.builtin "type.__call__" ⟨.ref C::us,kw⟩)).units=A.units+1:=by
 first | rfl | simp[Around.under,Code.cUnits,Code.frames,Code.isFrame]
theorem av.make (r:av (k+1) A) (C:Addr) (us:ydw) (kw:List (Str×Value)):av k (A.under (.builtin "type.__call__" ⟨.ref C::us,kw⟩)):=
 ⟨r.hd,by have:=r.dp;rw[nQ];lia,by have:=r.un;rw[nR];lia⟩
theorem av.depth (r:av k A):A.depth<recursionLimit:=by have:=r.dp;lia
noncomputable def vx:TA:=λ_ H Q=>Q [] H
noncomputable def rX (ta:TE) (tr:TA):TA:=λσ H Q=>ta σ H λx H1=>tr σ H1 λxs H2=>Q (x::xs) H2
section
variable {X:Cx} {e:Expr} {es:List Expr} {te:TE} {t:TA} {pos:Pos}
theorem pa_nil:PA X [] vx:=λ_ _ _ _ H Q I h=>Calls.spliced_nil ⟨[],H,I,.nil,h⟩
theorem cM (ha:PE X e te) (hr:PA X es t) (hs:starEach (e::es) X.env=(false,eval e X.env)::starEach es X.env:=by rfl):PA X (e::es) (rX te t):=by
 intro pos π s σ H Q I h;rw[hs];show wpAny _ _ (spliced ((false,eval e X.env)::backTo pos (starEach es X.env))) _ _ s;refine Calls.spliced_cons (cf (ha π s σ H _ I h) λu s1 z9=>?_);obtain⟨x,H1,I1,r1,q1⟩:=z9;exact cf (hr pos π s1 σ H1 _ I1 q1) λus s2 ⟨xs,H2,I2,r2,q2⟩=>⟨x::xs,H2,I2,.cons r1 r2,q2⟩
noncomputable def DA (t:TA):TE:=λσ H Q=>t σ H λxs H1=>xs.length<=sizeLine/\∀p,H1 p=none->Q (.ref p) (upd H1 p (.tup xs))
noncomputable def DB (t:TA):TE:=λσ H Q=>t σ H λxs H1=>xs.length<=sizeLine/\∀p,H1 p=none->Q (.ref p) (upd H1 p (.lst xs))
theorem yP {x1} (h:PA X es t):PE X (.Tuple es x1 pos) (DA t):=by
 intro π s σ H Q I hq;refine wpAny_Tuple_spliced (cf (h pos π s σ H _ I hq) λus s1 ⟨xs,H1,I1,r,z,q⟩=>⟨by rw[←r.length];exact z,?_⟩);have hf:H1 s1.heap.objs.size=none:=I1.hok.fresh (yby _);refine⟨.ref s1.heap.objs.size,upd H1 s1.heap.objs.size (.tup xs),I1.laid (t':=s1.toks) (λb u e=>yaw _ e) (yby _) ?_,rfl,q _ hf⟩;exact⟨z,us,r,⟨_,yav _ rfl,rfl,_,rfl⟩⟩
theorem yQ (h:PA X es t):PE X (.List es pos) (DB t):=by
 intro π s σ H Q I hq;refine wpAny_List_spliced (cf (h pos π s σ H _ I hq) λus s1 ⟨xs,H1,I1,r,z,q⟩=>⟨by rw[←r.length];exact z,?_⟩);have hf:H1 s1.heap.objs.size=none:=I1.hok.fresh (yby _);refine⟨.ref s1.heap.objs.size,upd H1 s1.heap.objs.size (.lst xs),I1.laid (t':=s1.toks) (λb u e=>yaw _ e) (yby _) ?_,rfl,q _ hf⟩;exact⟨z,us,0,r,yav _ rfl⟩
end
noncomputable abbrev Sp:=List V->Hp->VK->XK->Prop
noncomputable abbrev nS:=List Env->Hp->Shared->XK->Value->Shared->Prop
structure lV (P:Program) (w:World) (K:yax) (mg:ydv) (base:Heap) (A:Around) (outer:List Env) (s:Shared) (H:Hp):Prop where
 frames:A.frames=some outer
 mod:Mod K mg base
 bs:∀b o,base.get? b=some o->s.heap.get? b=some o/\H b=none
 bsz:base.objs.size<=s.heap.objs.size
 funs:s.heap.FunFrames base outer
 frf:∀b∈fw outer,H b=none
 hok:fu P w H s.heap
 bare:AllBare s.gens
noncomputable def CE (outer:List Env) (P:Program) (w:World) (H:Hp) (s:Shared) (Q:VK) (u:Value) (s':Shared):Prop:=
 ∃v H',s'.os=s.os/\AllBare s'.gens/\Un (fw outer) [] H H' s.heap s'.heap/\fu P w H' s'.heap/\bc v u/\Q v H'
noncomputable def CR (CX:nS) (outer:List Env) (P:Program) (w:World) (H:Hp) (s:Shared) (Q:VK) (E:XK) (r:Result) (s':Shared):Prop:=
 match r with
 | .ok (.ret u)=>CE outer P w H s Q u s'
 | .ok _=>False
 | .error e=>CX outer H s E e s'
structure dJ (P:Program) (w:World) (K:yax) (mg:ydv) (base:Heap) (CX:nS) (k:Nat) (f:Addr) (fd:FuncData) (ps:List Str) (sp:Sp):Prop where
 len:∀vs H Q E,sp vs H Q E->vs.length=ps.length
 run:∀(A:Around) (outer:List Env) (s:Shared) (H:Hp) (args:Args) (us:ydw) (vs:List V) (Q:VK) (E:XK),av k A->lV P w K mg base A outer s H->BindsTo s fd args (ps.zip us)->aW vs us->sp vs H Q E->
  codeAny (model P w) A (.call (.ref f) args) (CR CX outer P w H s Q E) s
theorem dJ.mono {CX:nS} {j k:Nat} {f:Addr} {sp:Sp} (F:dJ P w K mg base CX j f fd ps sp) (h:j<=k):
 dJ P w K mg base CX k f fd ps sp:=⟨F.len,λA outer s H args us vs Q E hr=>F.run A outer s H args us vs Q E (hr.mono h)⟩
theorem dJ.imp {CX:nS} {f:Addr} {sp sp':Sp} (F:dJ P w K mg base CX k f fd ps sp)
 (h:∀vs H Q E,sp' vs H Q E->sp vs H Q E):dJ P w K mg base CX k f fd ps sp':=
 ⟨λvs H Q E q=>F.len vs H Q E (h _ _ _ _ q),λA outer s H args us vs Q E hr he hb hv hs=>F.run A outer s H args us vs Q E hr he hb hv (h _ _ _ _ hs)⟩
theorem lV.make {outer:List Env} {H:Hp} (e:lV P w K mg base A outer s H) (C:Addr) (us:ydw) (kw:List (Str×Value)):
 lV P w K mg base (A.under (.builtin "type.__call__" ⟨.ref C::us,kw⟩)) outer s H:=⟨by first | exact e.frames | (simpa[Around.under,Code.envs,Code.isFrame,pushEnvs] using e.frames),e.mod,e.bs,e.bsz,e.funs,e.frf,e.hok,e.bare⟩
section
variable {X:Cx} {π:List (Addr×Obj)} {σ:St} {H:Hp} {s s':Shared}
theorem aI.env0 (I:aI X π σ H s):lV X.prog X.w X.K X.mg X.base X.A X.stack s H:=
 ⟨I.ok.frames,I.ok.mod,I.bs,ybz I.ok.bsz I.sz,I.stack,I.stkFree,I.hok,I.bare⟩
theorem aI.after {Q:VK} (I:aI X π σ H s) (h:CE X.stack X.prog X.w H s Q u s'):EP X π σ Q u s':=by
 obtain⟨v,H',os,bare,un,hok,r,q⟩:=h;obtain⟨hh,g,d,t,os'⟩:=s';obtain rfl:os'=s.os:=os;exact⟨v,H',I.call (h':=hh) (g':=g) (d':=d) (t':=t) (ch:=[]) un hok bare (λb z=>absurd z (by simp)),r,q⟩
end
noncomputable def rY (sp:Sp) (dvs:List V) (E:XK) (t:TA):TE:=λσ H Q=>t σ H λvs H1=>sp (vs++dvs) H1 Q E
noncomputable def rZ (C:Addr) (m:Str) (sp:Sp) (dvs:List V) (E:XK) (ta:TE) (t:TA):TE:=λσ H Q=>ta σ H λx H1=>∃a dx fs,x=.ref a/\H1 a=some (.ins C dx fs)/\fs.lookup m=none/\
 t σ H1 λvs H2=>sp (x::(vs++dvs)) H2 Q E
noncomputable def xK (C:Addr) (sp:Sp) (dvs:List V) (E:XK) (t:TA):TE:=λσ H Q=>t σ H λvs H1=>∀x dx,H1 x=none->H1 dx=none->dx≠x->
 sp (.ref x::(vs++dvs)) (upd (upd H1 dx (.own x)) x (.ins C dx [])) (λv H2=>v=.non/\Q (.ref x) H2) E
noncomputable def bP (K:yax) (fd:FuncData) (ps:List Str) (ds:ydw):Prop:=
 ∀(s:Shared) (us:ydw),K.In s.heap->(us++ds).length=ps.length->BindsTo s fd ⟨us,[]⟩ (ps.zip (us++ds))
theorem bP.all (h:∀us:List Value,us.length=ps.length->bindArgs fd ⟨us,[]⟩=pure (ps.zip us)):bP K fd ps []:=λs us _ hl=>by
 rw[append_nil] at hl ⊢;exact .of_eq (h us hl)
noncomputable def ei (CX:nS) (X:Cx) (E:XK):Prop:=∀(π:List (Addr×Obj)) (σ:St) (H:Hp) (s:Shared) (e:Value) (s':Shared),aI X π σ H s->CX X.stack H s E e s'->X.xe e s'
section
variable {X:Cx} {CX:nS} {k:Nat} {f C:Addr} {fd:FuncData} {ps:List Str} {sp:Sp} {dvs:List V} {ds:ydw} {E:XK} {x m:Str} {p pos apos:Pos} {e o:Expr} {es:List Expr} {ta:TE} {t:TA}
theorem kJ {σ:St} {H:Hp} {Q:VK} {vs:List V} (F:dJ X.prog X.w X.K X.mg X.base CX k f fd ps sp) (hr:av k X.A) (hb:bP X.K fd ps ds) (hd:aW dvs ds) (hx:ei CX X E)
 (I:aI X π σ H s) (r:aW vs us) (h:sp (vs++dvs) H Q E):wpAny (model X.prog X.w) X.A (call (.ref f) us) (EP X π σ Q) X.xe s:=by
 have r2:aW (vs++dvs) (us++ds):=r.append hd;have hl:(us++ds).length=ps.length:=by rw[←r2.length];exact F.len _ _ _ _ h
 refine wpAny_call (codeAny_mono (F.run X.A X.stack s H ⟨us,[]⟩ (us++ds) (vs++dvs) Q E hr I.env0 (hb s us I.kIn hl) r2 h) λr s' hq=>?_);cases r with
 | error e=>exact hx π σ H s e s' I hq
 | ok fl=>
   cases fl with
   | ret u=>exact I.after hq
   | next=>exact False.elim hq
   | brk=>exact False.elim hq
   | cont=>exact False.elim hq
theorem o6 (F:dJ X.prog X.w X.K X.mg X.base CX k f fd ps sp) (hr:av k X.A) (hg:Gl X x) (hm:X.mg x=some (.ref f)) (hk:keepIn X.K (.ref f)=true) (hb:bP X.K fd ps ds) (hd:aW dvs ds) (hx:ei CX X E)
 (ha:PA X (e::es) t) (hdb:(x==("__debug__":Str))=false:=by decide) (he:starEach (e::es) X.env=(false,eval e X.env)::starEach es X.env:=by rfl) (hpl:(backTo pos (starEach es X.env)).any (·.1)=false:=by rfl):
 PE X (.Call (.Name x p) (e::es) [] pos) (rY sp dvs E t):=by
 intro π s σ H Q I h;refine wpAny_Call_Name_kw (iH I hg hm ?_ hdb);refine PySem.W.callWith_K (h₀:=X.base) I.ok.mod.kin hk (cf (ha pos π s σ H _ I h) λus s1 ⟨vs,H1,I1,r,q⟩=>⟨I1.kIn,?_⟩) he hpl;exact kJ F hr hb hd hx I1 r q
theorem r6 (F:dJ X.prog X.w X.K X.mg X.base CX k f fd ps sp) (hr:av k X.A) (hg:Gl X x) (hm:X.mg x=some (.ref f)) (hk:keepIn X.K (.ref f)=true) (hb:bP X.K fd ps ds) (hd:aW dvs ds) (hx:ei CX X E)
 (hdb:(x==("__debug__":Str))=false:=by decide):PE X (.Call (.Name x p) [] [] pos) (rY sp dvs E vx):=by
 intro π s σ H Q I h;refine wpAny_Call_Name_kw (iH I hg hm ?_ hdb);exact PySem.W.callWith_K0 I.kIn hk (kJ (us:=[]) F hr hb hd hx I .nil h)
theorem o7 {pl:Sem Bool} (he:PE X o ta) (c:dj X.K C) (hm:qC X.K C m f) (F:dJ X.prog X.w X.K X.mg X.base CX k f fd ps sp) (hr:av k X.A) (hb:bP X.K fd ps ds) (hd:aW dvs ds) (hx:ei CX X E) (ha:PA X (e::es) t)
 (hst:starEach (e::es) X.env=(false,eval e X.env)::starEach es X.env:=by rfl) (hpl:(backTo pos (starEach es X.env)).any (·.1)=false:=by rfl)
 (ht:eval (.Call (.Attribute o m apos) (e::es) [] pos) X.env=(do
   let ov ←eval o X.env
   standAt apos.atName
   let (f,first) ←holding [ov] (getMethod ov m pl)
   callWith pos f first (backTo pos (starEach (e::es) X.env)) (backToKw pos (keywordEach [] X.env))):=by rfl):
 PE X (.Call (.Attribute o m apos) (e::es) [] pos) (rZ C m sp dvs E ta t):=by
 intro π s σ H Q I h;refine PySem.W.methodCall_KW (pl:=pl) (cf (he π s σ H _ I h) λu s1 z9=>?_) ht;obtain⟨x,H1,I1,rx,a,dx,fs,ex,ea,l,q⟩:=z9;subst ex;obtain rfl:u=Value.ref a:=rx;refine iV I1 ea c hm l ?_;refine PySem.W.callWith_K (first:=[.ref a]) (h₀:=X.base) I.ok.mod.kin hm.kp (cf (ha pos π s1 σ H1 _ I1 q) λus s2 ⟨vs,H2,I2,r,q2⟩=>⟨I2.kIn,?_⟩) hst hpl;exact kJ (us:= .ref a::us) (vs:= .ref a::vs) F hr hb hd hx I2 (.cons rfl r) q2
theorem r9 {pl:Sem Bool} (he:PE X o ta) (c:dj X.K C) (hm:qC X.K C m f) (F:dJ X.prog X.w X.K X.mg X.base CX k f fd ps sp) (hr:av k X.A) (hb:bP X.K fd ps ds) (hd:aW dvs ds) (hx:ei CX X E)
 (ht:eval (.Call (.Attribute o m apos) [] [] pos) X.env=(do
   let ov ←eval o X.env
   standAt apos.atName
   let (f,first) ←holding [ov] (getMethod ov m pl)
   callWith pos f first (backTo pos (starEach [] X.env)) (backToKw pos (keywordEach [] X.env))):=by rfl):
 PE X (.Call (.Attribute o m apos) [] [] pos) (rZ C m sp dvs E ta vx):=by
 intro π s σ H Q I h;refine PySem.W.methodCall_KW (pl:=pl) (cf (he π s σ H _ I h) λu s1 z9=>?_) ht;obtain⟨x,H1,I1,rx,a,dx,fs,ex,ea,l,q⟩:=z9;subst ex;obtain rfl:u=Value.ref a:=rx;refine iV I1 ea c hm l ?_;exact PySem.W.callWith_K0 (first:=[.ref a]) I1.kIn hm.kp (kJ (us:=[.ref a]) (vs:=[.ref a]) F hr hb hd hx I1 (.cons rfl .nil) q)
structure Mk (K:yax) (C f:Addr):Prop where
 makes:makesIn K C=true
 init:findIn K (.ref C) "__init__"=some (some (.ref f))
 fn:isFn K (.ref f)=true
 kp:keepIn K (.ref C)=true
theorem sd {σ:St} {H:Hp} {Q:VK} {vs:List V} (M:Mk X.K C f) (F:dJ X.prog X.w X.K X.mg X.base CX k f fd ps sp) (hr:av (k+1) X.A) (hb:bP X.K fd ps ds) (hd:aW dvs ds)
 (hx:ei CX X E) (I:aI X π σ H s) (r:aW vs us)
 (h:∀x dx,H x=none->H dx=none->dx≠x->sp (.ref x::(vs++dvs)) (upd (upd H dx (.own x)) x (.ins C dx [])) (λv H2=>v=.non/\Q (.ref x) H2) E):
 wpAny (model X.prog X.w) X.A (call (.ref C) us) (EP X π σ Q) X.xe s:=by
 have hq:=h (s.heap.objs.size+1) s.heap.objs.size (I.hok.fresh (le_succ _)) (I.hok.fresh (yby _)) (ne_of_lt (Nat.lt_succ_self _));have I2:=aI.made (C:=C) I;have r2:aW (V.ref (s.heap.objs.size+1)::(vs++dvs)) (Value.ref (s.heap.objs.size+1)::(us++ds)):= .cons rfl (r.append hd);have hl:(Value.ref (s.heap.objs.size+1)::us++ds).length=ps.length:=by
  have e:=r2.length;rw[F.len _ _ _ _ hq] at e;exact e.symm
 refine wpAny_call (rW (f:=f) I.kIn M.makes M.init (beq_iff_eq.mp M.fn) (codeAny_mono (F.run _ X.stack _ _ ⟨Value.ref (s.heap.objs.size+1)::us,[]⟩ (Value.ref (s.heap.objs.size+1)::(us++ds)) _ _ E (hr.make C us [])
  (I2.env0.make C us []) (hb _ (Value.ref (s.heap.objs.size+1)::us) I2.kIn hl) r2 hq) λr s' hq'=>?_))
 cases r with
 | error e=>exact hx π σ _ _ e s' I2 hq'
 | ok fl=>
   cases fl with
   | ret u=>
     obtain⟨v,H',I3,rv,ev,q3⟩:=I2.after hq';subst ev;exact⟨rv,⟨V.ref (s.heap.objs.size+1),H',I3,rfl,q3⟩⟩
   | next=>exact False.elim hq'
   | brk=>exact False.elim hq'
   | cont=>exact False.elim hq'
theorem vy (M:Mk X.K C f) (F:dJ X.prog X.w X.K X.mg X.base CX k f fd ps sp) (hr:av (k+1) X.A) (hg:Gl X x) (hm:X.mg x=some (.ref C)) (hb:bP X.K fd ps ds) (hd:aW dvs ds) (hx:ei CX X E)
 (ha:PA X (e::es) t) (hdb:(x==("__debug__":Str))=false:=by decide) (he:starEach (e::es) X.env=(false,eval e X.env)::starEach es X.env:=by rfl) (hpl:(backTo pos (starEach es X.env)).any (·.1)=false:=by rfl):
 PE X (.Call (.Name x p) (e::es) [] pos) (xK C sp dvs E t):=by
 intro π s σ H Q I h;refine wpAny_Call_Name_kw (iH I hg hm ?_ hdb);refine PySem.W.callWith_K (h₀:=X.base) I.ok.mod.kin M.kp (cf (ha pos π s σ H _ I h) λus s1 ⟨vs,H1,I1,r,q⟩=>⟨I1.kIn,?_⟩) he hpl;exact sd M F hr hb hd hx I1 r q
end
section
variable {X:Cx} {CX:nS} {k:Nat} {f C:Addr} {fd:FuncData} {ps ks:List Str} {sp:Sp} {E:XK} {x m:Str} {p pos apos kpos:Pos} {e o:Expr} {es:List Expr} {kws:List Keyword} {te ta:TE} {t tk:TA} {nm:Option Str}
structure DC (K:yax) (fd:FuncData) (ps ks:List Str) (g:List Value->List Value->List Value) (gV:List V->List V->List V):Prop where
 to:∀(s:Shared) (us ws:ydw),K.In s.heap->(g us ws).length=ps.length->BindsTo s fd ⟨us,ks.zip ws⟩ (ps.zip (g us ws))
 rel:∀{vs:List V} {us:ydw} {zs:List V} {ws:ydw},aW vs us->aW zs ws->aW (gV vs zs) (g us ws)
variable {g:List Value->List Value->List Value} {gV:List V->List V->List V}
end
structure bW (N P:List Str) (sc:Scope):Prop where
 kind:sc.kind=.function
 co:sc.isCoroutine=false
 gen:sc.isGenerator=false
 nd:N.Nodup
 pre:N.take P.length=P
 par:∀x∈P,sc.names.lookup x=some .local∨sc.names.lookup x=some .cell
 nofree:∀y∈sc.names,y.2≠ .free
theorem jS {kindOf:Str->Option NameKind} {x:Str}:∀{binds:List (Str×Value)} {m:ydv},(∀v,(x,v)∉binds)->bindL kindOf binds m x=m x
 | [],_,_=>rfl
 | (n,v)::r,m,h=>by
   unfold bindL;rw[jS λw hw=>h w (yay _ hw)];split
   ·have:x≠n:=by rintro rfl;exact h v yaz
    simp[this]
   ·rfl
theorem jT {kindOf:Str->Option NameKind} {x:Str}:∀{binds:List (Str×Value)} {m:ydv},(∀v,(x,v)∉binds)->bindC kindOf binds m x=m x
 | [],_,_=>rfl
 | (n,v)::r,m,h=>by
   unfold bindC;rw[jT λw hw=>h w (yay _ hw)];split
   ·rfl
   ·have:x≠n:=by rintro rfl;exact h v yaz
    simp[this]
theorem jU {kindOf:Str->Option NameKind} {x:Str} {v:Value}:∀{P:List Str} {vs:ydw} {i:Nat} {m:ydv},P.Nodup->P[i]?=some x->vs[i]?=some v->kindOf x=some .local->
 bindL kindOf (P.zip vs) m x=some v
 | [],_,_,_,_,h,_,_=>by simp at h
 | _::_,[],_,_,_,_,h,_=>by simp at h
 | p::P,w::vs,0,m,nd,h1,h2,hk=>by
   simp at h1 h2;subst h1;subst h2;show bindL kindOf ((p,w)::P.zip vs) m p=_;unfold bindL;rw[jS λv hv=>(nodup_cons.mp nd).1 (List.of_mem_zip hv).1,ycx hk];simp
 | p::P,w::vs,i+1,m,nd,h1,h2,hk=>by
   show bindL kindOf ((p,w)::P.zip vs) m x=_;unfold bindL;exact jU (i:=i) (nodup_cons.mp nd).2 (by simpa using h1) (by simpa using h2) hk
theorem jV {kindOf:Str->Option NameKind} {x:Str} {v:Value}:∀{P:List Str} {vs:ydw} {i:Nat} {m:ydv},P.Nodup->P[i]?=some x->vs[i]?=some v->kindOf x≠some .local->
 bindC kindOf (P.zip vs) m x=some v
 | [],_,_,_,_,h,_,_=>by simp at h
 | _::_,[],_,_,_,_,h,_=>by simp at h
 | p::P,w::vs,0,m,nd,h1,h2,hk=>by
   simp at h1 h2;subst h1;subst h2;show bindC kindOf ((p,w)::P.zip vs) m p=_;unfold bindC;rw[jT λv hv=>(nodup_cons.mp nd).1 (List.of_mem_zip hv).1,ybv hk];simp
 | p::P,w::vs,i+1,m,nd,h1,h2,hk=>by
   show bindC kindOf ((p,w)::P.zip vs) m x=_;unfold bindC;exact jV (i:=i) (nodup_cons.mp nd).2 (by simpa using h1) (by simpa using h2) hk
noncomputable def start (N:List Str) (vs:List V):St:=vs.map some++List.replicate (N.length-vs.length) none
noncomputable def dC (CX:nS) (P:Program) (w:World) (K:yax) (mg:ydv) (base:Heap) (N:List Str) (qual:Str) (scope:Scope) (f:Addr) (cd:Value) (A:Around) (outer:List Env) (s:Shared) (H:Hp) (E:XK):Cx where
 prog:=P
 w:=w
 K:=K
 mg:=mg
 base:=base
 A:=A.deeper (envOfC qual scope s.heap.objs.size f cd)
 N:=N
 s₀:=s
 H₀:=H
 env:=envOfC qual scope s.heap.objs.size f cd
 outer:=outer
 stack:=envOfC qual scope s.heap.objs.size f cd::outer
 ex:=[]
 calm:=true
 fn:=λ_=>true
 pn:=[]
 xe:=λe s'=>wpAny (model P w) (A.deeper (envOfC qual scope s.heap.objs.size f cd)) (leaving (envOfC qual scope s.heap.objs.size f cd) e) (λ_ s''=>CX outer H s E e s'') (λe' s''=>CX outer H s E e' s'') s'
theorem lW {sc:Scope} {n:Nat} (h:sc.names.lookup x=some .cell):∃c,(cellsFrom n sc.names []).lookup x=some c:=by
 have q:=PySem.W.cellsFrom_some sc.names n [] (.inl h);exact Option.isSome_iff_exists.mp q
theorem qE {CX:nS} {N ps:List Str} {qual:Str} {f:Addr} {cd:Value} {outer:List Env} {s s1:Shared} {H:Hp} {E:XK} {vs:List V}
 (S:bW N ps scope) (hd:A.handled=none) (e0:lV P w K mg base A outer s H) (hl:vs.length=ps.length) (r:aW vs us)
 (x:InCallC s s.heap.objs.size (bindL (envOfC qual scope s.heap.objs.size f cd).kindOf (ps.zip us) λ_=>none) (cellsFrom (s.heap.objs.size+1) scope.names []) (bindC (envOfC qual scope s.heap.objs.size f cd).kindOf (ps.zip us) λ_=>none) s1):
 aI (dC CX P w K mg base N qual scope f cd A outer s H E) [] (start N vs) H s1:=by
 have hpl:ps.length<=N.length:=by have:=congrArg List.length S.pre;rw[length_take] at this;lia
 obtain⟨h1,tk,rfl,hk⟩:=x.done;have noA:∀b:Addr,b∉(dC CX P w K mg base N qual scope f cd A outer s H E).ex:=λb z=>absurd (show b∈([]:List Addr) from z) (by simp);refine⟨⟨e0.mod,S.kind,rfl,rfl,yby _,λy z c h1 h2=>?_,λy hy=>?_,λy c _ h=>?_,λ_=>hd,Around.frames_deeper e0.frames,.inr ⟨rfl,rfl⟩,λb z=>absurd z (noA b),e0.bs,e0.bsz,λb _ _=>noA b,λb z=>absurd z (noA b),e0.funs,e0.frf⟩,
  rfl,e0.bare,Un.kept hk,⟨_,x.toInCall.ns,λi y v h1 h2 h3=>?_⟩,λy c h=>⟨_,x.cell y c h⟩,e0.hok.fresh (yby _),λy c h=>?_,λp hp=>absurd (show p∈([]:List (Addr×Obj)) from hp) (by simp),e0.hok.kept hk,?_⟩
 ·exact name_of_addr x.apart (PySem.mem_of_lookup h1) (PySem.mem_of_lookup h2)
 ·have hy:scope.names.lookup y=some .cell∨scope.names.lookup y=some .free:=hy;rcases hy with hy | hy
  ·exact lW hy
  ·exact absurd rfl (S.nofree _ (PySem.mem_of_lookup hy))
 ·exact Nat.le_of_lt (x.above y c (PySem.mem_of_lookup h))
 ·have hi:i<vs.length:=by
   unfold start at h2
   by_cases hi:i<vs.length
   ·exact hi
   ·rw[List.getElem?_append_right (by simpa using hi)] at h2;rw[List.getElem?_replicate] at h2;split at h2<;> cases h2
  have ha:vs[i]?=some v:=by
   unfold start at h2;rw[List.getElem?_append_left (by simpa using hi),List.getElem?_map] at h2;cases e:vs[i]? with
   | none=>rw[e] at h2;cases h2
   | some a=>rw[e] at h2;cases h2;rfl
  obtain⟨u,hu,rv⟩:=r.get ha;have hp:ps[i]?=some y:=by
   rw[←S.pre,List.getElem?_take_of_lt (by lia)];exact h1
  have ndP:ps.Nodup:=by rw[←S.pre];exact S.nd.sublist (List.take_sublist _ _)
  refine⟨u,rv,?_⟩;rcases S.par y (List.mem_of_getElem? hp) with k | k
  ·exact .inl ⟨k,jU ndP hp hu k⟩
  ·obtain⟨c,e⟩:=lW (n:=s.heap.objs.size+1) k;refine .inr ⟨.inl k,c,e,?_⟩;have q:=x.cell y c e;rw[jV ndP hp hu (by show scope.names.lookup y≠_;rw[k];decide)] at q;exact q
 ·exact e0.hok.fresh (Nat.le_of_lt (x.above y c (PySem.mem_of_lookup h)))
 ·unfold start;show _=N.length;rw[length_append,length_map,List.length_replicate];lia
theorem o8 {CX:nS} {f:Addr} {name qual:Str} {params:Arguments} {dV kV doc pm cdv ct oc:Value} {an od:Option Addr}
 {osl:Array (Option Value)} {N ps:List Str} {sp:Sp} (lk:K.lookup f=some ⟨oc,od,.func (fnOf name qual params body scope dV kV doc pm an cdv ct),osl⟩) (hcd:codeIn K cdv qual=true) (S:bW N ps scope)
 (len:∀vs H Q E,sp vs H Q E->vs.length=ps.length)
 (hbody:∀(A:Around) (outer:List Env) (s:Shared) (H:Hp) (vs:List V) (Q:VK) (E:XK),av k (A.deeper (envOfC qual scope s.heap.objs.size f cdv))->sp vs H Q E->
   ∃t,lP (dC CX P w K mg base N qual scope f cdv A outer s H E) body t/\t { nx:=λ_ H'=>Q .non H',rt:=Q } (start N vs) H):
 dJ P w K mg base CX (k+1) f (fnOf name qual params body scope dV kV doc pm an cdv ct) ps sp:=by
 refine⟨len,λA outer s H args us vs Q E hr e0 hb r hsp=>?_⟩;have hl:=len _ _ _ _ hsp;have KX:K.In s.heap:=e0.mod.kin.keeps λb o e=>(e0.bs b o e).1;have lim:s.heap.NoLimit:=e0.mod.nolimit.keeps λb o e=>(e0.bs b o e).1;have hkind:∀y∈ps.zip us,scope.names.lookup y.1=some .local∨(scope.names.lookup y.1=some .cell/\((cellsFrom (s.heap.objs.size+1) scope.names []).lookup y.1).isSome=true):=λ⟨n,v⟩ hy=>by
  rcases S.par n (List.of_mem_zip hy).1 with q | q
  ·exact .inl q
  ·exact .inr ⟨q,PySem.W.cellsFrom_some _ _ _ (.inl q)⟩
 refine codeAny_call_function hr.depth (KX _ _ lk) rfl S.co S.gen rfl (PySem.W.codeRec_of KX hcd) (hb _ _ _ _ ?_);refine wpAny_newFunctionEnv_cells S.kind hkind λenv he s1 x=>?_;subst he;refine⟨lim.keeps x.toInCall.keep,codeAny_func ?_⟩;obtain⟨t,ht,hq⟩:=hbody A outer s H vs Q E (hr.deeper _) hsp;have I:aI (dC CX P w K mg base N qual scope f cdv A outer s H E) [] (start N vs) H s1:=qE S hr.hd e0 hl r x;refine wpAny_mono (ht [] s1 (start N vs) H _ I hq) (λfl s' hs=>?_) λe s' hs=>hs;have fin:∀{σ':St} {H':Hp} {v:V} {u:Value},aI (dC CX P w K mg base N qual scope f cdv A outer s H E) [] σ' H' s'->bc v u->Q v H'->CE outer P w H s Q u s':=
  λ{σ' H' v u} J rv q=>⟨v,H',J.os,J.bare,J.base,J.hok,rv,q⟩
 cases fl with
 | ret u=>
   obtain⟨v,σ',H',J,rv,q⟩:=hs;exact fin J rv q
 | next=>
   obtain⟨σ',H',J,q⟩:=hs;exact fin (v:=V.non) (u:=Value.none) J rfl q
 | brk=>
   obtain⟨_,_,_,q⟩:=hs;exact False.elim q
 | cont=>
   obtain⟨_,_,_,q⟩:=hs;exact False.elim q
section
variable {X:Cx} {x:Str} {p pos:Pos} {e:Expr} {es:List Expr} {t:TA} {id T:String} {r:List V->Hp->VK->Prop}
noncomputable def DE (r:List V->Hp->VK->Prop) (t:TA):TE:=λσ H Q=>t σ H λvs H1=>r vs H1 Q
theorem lX (hc:fQ X (.builtin id) r) (hg:Gl X x) (hm:X.mg x=none) (hv:bootBuiltins x=some (.builtin id)) (ha:PA X (e::es) t) (hn:x≠"__name__":=by decide) (hdb:(x==("__debug__":Str))=false:=by decide)
 (he:starEach (e::es) X.env=(false,eval e X.env)::starEach es X.env:=by rfl) (hpl:(backTo pos (starEach es X.env)).any (·.1)=false:=by rfl):PE X (.Call (.Name x p) (e::es) [] pos) (DE r t):=by
 intro π s σ H Q I h;refine wpAny_Call_Name_kw (eU I hg hm hv ?_ hn hdb);exact PyProof.Rows.callWith_builtin1 (cf (ha pos π s σ H _ I h) λus s1 ⟨vs,H1,I1,r1,q1⟩=>hc π s1 σ H1 vs us Q I1 r1 q1) he hpl
theorem qF (hc:fQ X (.type T) r) (hg:Gl X x) (hm:X.mg x=none) (hv:bootBuiltins x=some (.type T)) (ha:PA X (e::es) t) (hn:x≠"__name__":=by decide) (hdb:(x==("__debug__":Str))=false:=by decide)
 (he:starEach (e::es) X.env=(false,eval e X.env)::starEach es X.env:=by rfl) (hpl:(backTo pos (starEach es X.env)).any (·.1)=false:=by rfl):PE X (.Call (.Name x p) (e::es) [] pos) (DE r t):=by
 intro π s σ H Q I h;refine wpAny_Call_Name_kw (eU I hg hm hv ?_ hn hdb);exact PyProof.Rows.callWith_type1 (cf (ha pos π s σ H _ I h) λus s1 ⟨vs,H1,I1,r1,q1⟩=>hc π s1 σ H1 vs us Q I1 r1 q1) he hpl
end
end L2
namespace HT
open PySem PyProof.Rows
theorem rcLt_int (A:Around) (s:Shared) (a:Int) (t:Tok) (c:Int) (u:Tok) (prog:Program) (w:World) (E:ydz) (Q:ydz) (h:Q (.bool (decide (a<c))) s):
 wpAny (model prog w) A (richCompare .Lt (.int a t) (.int c u)) Q E s:=
 (PyProof.Rows.lt_int h:wpAny (model prog w) A (compareOp .Lt (.int a t) (.int c u)) Q E s)
section
open PySem.SeqAt
open PySem.AutoSeq1 (wpAny_loadPart')
open PySem.MeetsSeq PySem.MeetsSeq2 PySem.MeetsSeq3
end
section
variable {prog:Program} {w:World} {A:Around} {E:ydz} {s:Shared}
theorem cat_tup {t b:Addr} {vs ws:ydw} (ht:IsTup s.heap t vs.toArray) (hb:IsTup s.heap b ws.toArray) (hv:vs≠[])
 (h1:ws=[]->Q (.ref t) s) (h2:ws≠[]->Q (.ref s.heap.objs.size) { s with heap:=s.heap.push { cls:= .type "tuple",data:= .seq (vs++ws).toArray } })
 (hsz:vs.length+ws.length<=sizeLine):wpAny (model prog w) A (binaryOp .Add (.ref t) (.ref b)) Q E s:=by
 obtain⟨⟨cls,dd,data,sl⟩,ho,hc,n,hd⟩:=id ht;obtain⟨⟨cls2,dd2,data2,sl2⟩,ho2,hc2,n2,hd2⟩:=id hb;simp only at hc hd hc2 hd2;subst hc hd hc2 hd2;have e:vs.toArray++ws.toArray=(vs++ws).toArray:=by simp
 by_cases hw:ws=[]
 ·exact concat_meets ⟨_,ho,rfl⟩ ⟨_,ho2,rfl⟩ noFill_tuple_add seq_tuple_add PySem.F.slot_tuple_add PySem.F.entry_tuple_add (PySem.F.args_tuple_add_2 _ _)
   (tuple_addW1 t b vs.toArray ws.toArray n n2 dd dd2 sl sl2 (by simpa using hv) (by simp[hw])) ⟨ho,ho2,h1 hw⟩
 ·refine concat_meets ⟨_,ho,rfl⟩ ⟨_,ho2,rfl⟩ noFill_tuple_add seq_tuple_add PySem.F.slot_tuple_add PySem.F.entry_tuple_add (PySem.F.args_tuple_add_2 _ _)
   (tuple_addW2 t b vs.toArray ws.toArray n n2 dd dd2 sl sl2 (by simpa using hv) (by simpa using hw) (by rw[size_toArray,size_toArray];exact hsz)) ⟨ho,ho2,?_⟩
  rw[e];exact h2 hw
noncomputable def sIx (n d:Nat):Option Int->Nat
 | none=>d
 | some v=>if v<0 then (v+(n:Int)).toNat else min v.toNat n
theorem sIx_none (n d:Nat):sIx n d none=d:=rfl
theorem sIx_nat (n d k:Nat):sIx n d (some (k:Int))=min k n:=by
 show(if (k:Int)<0 then ((k:Int)+(n:Int)).toNat else min (k:Int).toNat n)=min k n;rw[ybv (by lia),Int.toNat_natCast]
theorem yR (n d:Nat) (hd:d<=n) (o:Option Int):sIx n d o<=n:=by
 cases o with
 | none=>exact hd
 | some v=>
   show(if v<0 then (v+(n:Int)).toNat else min v.toNat n)<=n
   by_cases hv:v<0
   ·rw[ycx hv];lia
   ·rw[ybv hv];exact Nat.min_le_right _ _
theorem o9 (v:Int) (n d:Nat):(if v<0 then max (v+(n:Int)) 0 else min v (n:Int))=((sIx n d (some v):Nat):Int):=by
 show(if v<0 then max (v+(n:Int)) 0 else min v (n:Int))=(((if v<0 then (v+(n:Int)).toNat else min v.toNat n):Nat):Int)
 by_cases hv:v<0
 ·simp only[ycx hv];lia
 ·simp only[ybv hv];lia
theorem nU (lo hi:Option Int) (n:Nat):Builtin.Slice.sliceAdjust lo hi 1 (n:Int)=(((sIx n 0 lo:Nat):Int),((sIx n n hi:Nat):Int)):=by
 have h1:¬((1:Int)<0):=by lia
 unfold Builtin.Slice.sliceAdjust;simp only[h1,if_false];refine Prod.ext ?_ ?_
 ·cases lo with
  | none=>rfl
  | some v=>exact o9 v n 0
 ·cases hi with
  | none=>rfl
  | some v=>exact o9 v n n
theorem nV (i j:Nat):Builtin.Slice.slicePlaces (i:Int) (j:Int) 1=j-i:=by
 unfold Builtin.Slice.slicePlaces;have h1:(1:Int) > 0:=by lia
 simp only[h1,if_true,Int.ediv_one];split<;> lia
theorem iW {v:Value} {o:Option Int} {Q:Option Int->Shared->Prop} (p:IsPart v o) (h:Q o s):wpAny (model prog w) A (Builtin.Slice.slicePartIndex v) Q E s:=by
 cases p with
 | none=>exact slicePart_none h
 | int i t=>exact slicePart_int h
theorem sliceApplied_gen {sl:Addr} {vl vu:Value} {lo hi:Option Int} {n:Nat} {Q:Int×Int×Nat->Shared->Prop} (hs:s.heap.IsSliceOf sl vl vu .none) (pl:IsPart vl lo) (pu:IsPart vu hi)
 (h:Q (((sIx n 0 lo:Nat):Int),1,sIx n n hi-sIx n 0 lo) s):wpAny (model prog w) A (Builtin.Slice.sliceApplied (.ref sl) (pure (n:Int))) Q E s:=by
 obtain⟨os,hos,hcs,hds⟩:=id hs;unfold Builtin.Slice.sliceApplied Builtin.Slice.sliceFields;refine wax (wax (wpAny_field hos hds (x:=vl) rfl (wax (wpAny_field hos hds (x:=vu) rfl (wax (wpAny_field hos hds (x:= .none) rfl (way ?_)))))));refine wax (slicePart_none ?_);show wpAny _ _ (if ((1:Int)==0)=true then _ else _) _ _ s;rw[ybv (by decide)];refine wax (iW pl (wax (iW pu (wax (way ?_)))));show wpAny _ _ (match Builtin.Slice.sliceAdjust lo hi 1 (n:Int) with | (lo,hi)=>pure (lo,(1:Int),Builtin.Slice.slicePlaces lo hi 1)) _ _ s;rw[nU lo hi n];show wpAny _ _ (pure (((sIx n 0 lo:Nat):Int),(1:Int),Builtin.Slice.slicePlaces ((sIx n 0 lo:Nat):Int) ((sIx n n hi:Nat):Int) 1)) _ _ s;rw[nV];exact way h
theorem se (xs:Array Value) (i k:Nat):((List.range k).filterMap λ(m:Nat)=>xs[((i:Int)+(m:Int)*1).toNat]?).toArray=((xs.toList.drop i).take k).toArray:=by
 have e:(λ(m:Nat)=>xs[((i:Int)+(m:Int)*1).toNat]?)=λm=>xs[i+m]?:=by
  funext m
  have:((i:Int)+(m:Int)*1).toNat=i+m:=by lia
  rw[this]
 rw[e];have:=pick_run xs i k;rw[List.filterMap_map] at this;have e2:((λx=>xs[x]?) ∘ λx=>i+x)=λm=>xs[i+m]?:=rfl;rw[e2] at this;rw[this]
theorem getItem_tuple_cut {t sl:Addr} {vl vu:Value} {lo hi:Option Int} (ht:IsTup s.heap t items) (hs:s.heap.IsSliceOf sl vl vu .none) (pl:IsPart vl lo) (pu:IsPart vu hi)
 (hw:¬(sIx items.size 0 lo=0/\sIx items.size items.size hi=items.size))
 (h:Q (.ref s.heap.objs.size) { s with heap:=s.heap.push { cls:= .type "tuple",data:= .seq ((items.toList.drop (sIx items.size 0 lo)).take (sIx items.size items.size hi-sIx items.size 0 lo)).toArray } })
 (hsz:items.size<=sizeLine):wpAny (model prog w) A (getItem (.ref t) (.ref sl)) Q E s:=by
 have htake:sizeOk (.seq ((items.toList.drop (sIx items.size 0 lo)).take (sIx items.size items.size hi-sIx items.size 0 lo)).toArray):=by
  show((items.toList.drop (sIx items.size 0 lo)).take (sIx items.size items.size hi-sIx items.size 0 lo)).toArray.size<=sizeLine;rw[size_toArray,length_take,length_drop,Array.length_toList];lia
 have hj:sIx items.size items.size hi<=items.size:=yR _ _ (yby _) hi;obtain⟨os,hos,hcs,hds⟩:=id hs;have hTs:s.TypeIs (.ref sl) "slice":=⟨os,hos,hcs⟩;unfold getItem
 try with_reducible refine wpAny_holding ?_
 first | refine wax (way ?_) | skip
 refine wax (wpAny_sequenceKey ht.typeIs (by decide) ?_);refine wax (wpAny_callSpecial?_slot (name:=Str.ofString "__getitem__") ht.typeIs PyProof.Rows.slot_tuple_getitem
  (wpAny_call_entry PyProof.Rows.slot_tuple_getitem ht.typeIs entry_tuple_getitem ?_ (args_tuple_getitem _ _)))
 show wpAny _ _ (Builtin.Tuple.tupleItemsOf (.ref t) >>= _) _ _ s;refine wax (tupleItemsOf_ ht ?_);refine wax (wpAny_typeOf hTs ?_);rw[ycx (by decide)];refine wax (sliceApplied_gen hs pl pu ?_);have hno:¬((((sIx items.size 0 lo:Nat):Int)==0&&(1:Int)==1&&(sIx items.size items.size hi-sIx items.size 0 lo)==items.size)=true):=by
  intro q;rw[Bool.and_eq_true,Bool.and_eq_true] at q;have q1:((sIx items.size 0 lo:Nat):Int)=0:=eq_of_beq q.1.1;have q2:sIx items.size items.size hi-sIx items.size 0 lo=items.size:=eq_of_beq q.2;exact hw ⟨by lia,by lia⟩
 show wpAny _ _ (if (((sIx items.size 0 lo:Nat):Int)==0&&(1:Int)==1&&(sIx items.size items.size hi-sIx items.size 0 lo)==items.size)=true then _ else _) _ _ s;rw[ybv hno,se]
 first
  | exact wax (m:=Builtin.Tuple.tupleExact _) (wpAny_newObj_type (way ⟨_,rfl,way h⟩) htake)
  | exact wax (m:=Builtin.Tuple.tupleExact _) (wpAny_newObj_type (wax (way (way ⟨_,rfl,way h⟩))) htake)
  | exact wax (wax (m:=Builtin.Tuple.tupleExact _) (wpAny_newObj_type (way (way ⟨_,rfl,way h⟩)) htake))
  | exact wax (wax (m:=Builtin.Tuple.tupleExact _) (wpAny_newObj_type (way ⟨_,rfl,way h⟩) htake))
end
end HT
namespace L2
open PySem PySem.Spec PyProof.Rows
noncomputable abbrev TO:=St->Hp->(Option Int->Hp->Prop)->Prop
noncomputable def PO (X:Cx) (e:Option Expr) (t:TO):Prop:=
 ∀(π:List (Addr×Obj)) (s:Shared) (σ:St) (H:Hp) (Q:Option Int->Hp->Prop),aI X π σ H s->t σ H Q->
  wpAny (model X.prog X.w) X.A (evalPart e X.env) (λu s'=>∃o H',aI X π σ H' s'/\IsPart u o/\Q o H') X.xe s
noncomputable def vz:TO:=λ_ H Q=>Q none H
noncomputable def A6 (t:TE):TO:=λσ H Q=>t σ H λx H1=>∃i,x=.int i/\Q (some i) H1
theorem intsAre_of {ns:List Int}:∀{us:ydw},aW (ns.map V.int) us->IntsAre us ns:=by
 induction ns with
 | nil=>intro us r;rw[map_nil] at r;cases r;exact .nil
 | cons n ns ih=>
   intro us r;rw[map_cons] at r;cases r with
   | cons r1 r2=>
     obtain⟨t,e⟩:=r1;subst e;exact .cons n t (ih r2)
section
variable {X:Cx} {e:Expr} {te:TE} {lo hi:Option Expr} {tl th:TO} {pos p2:Pos}
theorem po_none:PO X none vz:=by
 intro π s σ H Q I h;rw[evalPart_none];exact way ⟨none,H,I,.none,h⟩
theorem vA (h:PE X e te):PO X (some e) (A6 te):=by
 intro π s σ H Q I hw;rw[evalPart_some];refine cf (h π s σ H _ I hw) λu s1 z9=>?_;obtain⟨x,H1,I1,r1,q1⟩:=z9;obtain⟨i,rfl,q⟩:=q1;obtain⟨t,rfl⟩:=r1;exact⟨some i,H1,I1,.int i t,q⟩
noncomputable def A7 (X:Cx) (r:V->Option Int->Option Int->Hp->VK->Prop):Prop:=
 ∀(π:List (Addr×Obj)) (s:Shared) (σ:St) (H:Hp) (x:V) (v vl vu:Value) (lo hi:Option Int) (sl:Addr) (Q:VK),aI X π σ H s->bc x v->s.heap.IsSliceOf sl vl vu .none->IsPart vl lo->IsPart vu hi->r x lo hi H Q->
  ∃T id,typeLookup (.type T) "__getitem__"=pure (some (.builtin id))/\s.TypeIs v T/\wpAny (model X.prog X.w) X.A (getItem v (.ref sl)) (EP X π σ Q) X.xe s
noncomputable def FA (r:V->Option Int->Option Int->Hp->VK->Prop) (te:TE) (tl th:TO):TE:=λσ H Q=>te σ H λx H1=>tl σ H1 λl H2=>th σ H2 λu H3=>r x l u H3 Q
theorem sh {r:V->Option Int->Option Int->Hp->VK->Prop} (hr:A7 X r) (he:PE X e te) (hl:PO X lo tl) (hu:PO X hi th):PE X (.Subscript e (.Slice lo hi none p2) pos) (FA r te tl th):=by
 intro π s σ H Q I h;refine Subscript_ (cf (he π s σ H _ I h) λv s1 z9=>?_);obtain⟨x,H1,I1,r1,q1⟩:=z9;refine wpAny_Slice (cf (hl π s1 σ H1 _ I1 q1) λvl s2 ⟨l,H2,I2,pl,q2⟩=>cf (hu π s2 σ H2 _ I2 q2) λvu s3 z9=>?_);obtain⟨u,H3,I3,pu,q3⟩:=z9;rw[evalPart_none];refine way ?_;have I4:aI X π σ H3 { s3 with heap:=s3.heap.push { cls:= .type "slice",data:= .fields #[vl,vu,.none] } }:=I3.kept (t':=s3.toks) λb ob q=>yaw _ q;obtain⟨T,id,hT,ht,hg⟩:=hr π { s3 with heap:=s3.heap.push { cls:= .type "slice",data:= .fields #[vl,vu,.none] } } σ H3 x v vl vu l u s3.heap.objs.size Q I4 r1 (Heap.IsSliceOf.new ..) pl pu q3;show wpAny (model X.prog X.w) X.A (subscriptTail e (.Slice lo hi none p2) v (.ref s3.heap.objs.size)) (EP X π σ Q) X.xe { s3 with heap:=s3.heap.push { cls:= .type "slice",data:= .fields #[vl,vu,.none] } };exact tail_any (ops:=[.ref s3.heap.objs.size,v]) ht hT hg (by with_unfolding_all rfl)
noncomputable def lY (xs:List V) (lo hi:Option Int):List V:=(xs.drop (HT.sIx xs.length 0 lo)).take (HT.sIx xs.length xs.length hi-HT.sIx xs.length 0 lo)
theorem io (xs:List V) (lo hi:Option Int):(lY xs lo hi).length<=xs.length:=by
 unfold lY;rw[length_take,length_drop];lia
noncomputable def DF (K:yax):V->Option Int->Option Int->Hp->VK->Prop:=λx lo hi H Q=>∃a xs,x=.ref a/\cU K H a xs/\
 ¬(HT.sIx xs.length 0 lo=0/\HT.sIx xs.length xs.length hi=xs.length)/\∀p,H p=none->Q (.ref p) (upd H p (.tup (lY xs lo hi)))
theorem yS:A7 X (DF X.K):=by
 intro π s σ H x v vl vu lo hi sl Q I rx hs pl pu h;obtain⟨a,xs,rfl,hx,hw,q⟩:=h;cases rx;obtain⟨its,r,ht,hz⟩:=I.tuple hx;have hlen:its.toArray.size=xs.length:=by rw[size_toArray];exact r.length.symm
 refine⟨"tuple",_,PyProof.Rows.slot_tuple_getitem.lookup,ht.typeIs,?_⟩;refine HT.getItem_tuple_cut ht hs pl pu (by rw[hlen];exact hw) ?_ (by rw[hlen];exact hz);rw[hlen];refine⟨.ref s.heap.objs.size,_,I.laid (t':=s.toks) (o:= .tup (lY xs lo hi)) (λb ob q=>yaw _ q) (yby _) ?_,rfl,q _ (I.hok.fresh (yby _))⟩;exact⟨ybz (io xs lo hi) hz,_,(r.drop (HT.sIx xs.length 0 lo)).take (HT.sIx xs.length xs.length hi-HT.sIx xs.length 0 lo),IsTup.new _ _⟩
noncomputable def A8 (K:yax):R2:=λx y H Q=>∃a b xs ys,x=.ref a/\y=.ref b/\cU K H a xs/\cU K H b ys/\xs≠[]/\xs.length+ys.length<=sizeLine/\
 (ys=[]->Q (.ref a) H)/\(ys≠[]->∀p,H p=none->Q (.ref p) (upd H p (.tup (xs++ys))))
theorem aW.nil_iff {xs:List V} (r:aW xs us):us=[]↔xs=[]:=by
 cases r with
 | nil=>simp
 | cons _ _=>simp
theorem vB:ik X (binaryOp .Add) (A8 X.K):=by
 intro π s σ H x y v u Q I rx ry h;obtain⟨a,b,xs,ys,rfl,rfl,ha,hb,hx,hz,q1,q2⟩:=h;cases rx;cases ry;obtain⟨its,r1,p1,_⟩:=I.tuple ha;obtain⟨its2,r2,p2,_⟩:=I.tuple hb;refine HT.cat_tup p1 p2 (λz=>hx (r1.nil_iff.mp z)) (λz=>⟨.ref a,H,I,rfl,q1 (r2.nil_iff.mp z)⟩) (λz=>?_) (by rw[←r1.length,←r2.length];exact hz);refine⟨.ref s.heap.objs.size,_,I.laid (t':=s.toks) (o:= .tup (xs++ys)) (λb ob q=>yaw _ q) (yby _) ?_,rfl,q2 (λw=>z (r2.nil_iff.mpr w)) _ (I.hok.fresh (yby _))⟩;exact⟨by rw[length_append];exact hz,_,r1.append r2,IsTup.new _ _⟩
end
noncomputable def si (n:Nat) (i:Int):Option Nat:=if 0<=i then (if i<n then some i.toNat else none) else if -(n:Int)<=i then some (i+n).toNat else none
noncomputable def dM {α:Type} (xs:List α) (i:Int):Option α:=(si xs.length i).bind λj=>xs[j]?
theorem vC {n:Nat} {i:Int} {j:Nat} (h:si n i=some j):seqIndex? i n=some j/\j<n/\-(n:Int)<=i/\i<n:=by
 unfold si at h
 by_cases h0:0<=i
 ·rw[ycx h0] at h
  by_cases h1:i<n
  ·rw[ycx h1] at h;have e:i.toNat=j:=Option.some.inj h;exact⟨by rw[seqIndex_of h0 h1,e],by lia,by lia,h1⟩
  ·rw[ybv h1] at h;cases h
 ·rw[ybv h0] at h
  by_cases h1: -(n:Int)<=i
  ·rw[ycx h1] at h;have e:(i+n).toNat=j:=Option.some.inj h;exact⟨by rw[seqIndex_neg (by lia) h1,e],by lia,h1,by lia⟩
  ·rw[ybv h1] at h;cases h
theorem kK {α:Type} {xs:List α} {i:Int} {v:α} (h:dM xs i=some v):∃j,seqIndex? i xs.length=some j/\xs[j]?=some v/\j<xs.length/\-(xs.length:Int)<=i/\i<xs.length:=by
 unfold dM at h;cases e:si xs.length i with
 | none=>rw[e] at h;cases h
 | some j=>
   rw[e] at h;obtain⟨h1,h2,h3,h4⟩:=vC e;exact⟨j,h1,h,h2,h3,h4⟩
theorem bQ {α:Type} {xs:List α} {j:Nat} {v:α} (h:xs[j]?=some v):dM xs (j:Int)=some v:=by
 have hj:j<xs.length:=(List.getElem?_eq_some_iff.mp h).1;have e:si xs.length (j:Int)=some j:=by
  unfold si;rw[ycx (by lia),ycx (by lia)];simp
 unfold dM;rw[e];exact h
noncomputable def pf (b:Expr):Prop:=∀o i,subscripted b false o i=operate [o,i] (getItem o i)
noncomputable def A9 (X:Cx) (r:R2):Prop:=
 ∀(value slice:Expr) (π:List (Addr×Obj)) (s:Shared) (σ:St) (H:Hp) (x y:V) (v u:Value) (Q:VK),aI X π σ H s->bc x v->bc y u->r x y H Q->
  subscripted slice false v u=operate [v,u] (getItem v u)->wpAny (model X.prog X.w) X.A (subscriptTail value slice v u) (EP X π σ Q) X.xe s
noncomputable def Ba (X:Cx) (id:String) (r:V->List V->Hp->VK->Prop):Prop:=
 ∀(π:List (Addr×Obj)) (s:Shared) (σ:St) (H:Hp) (x:V) (xs:List V) (v:Value) (us:ydw) (Q:VK),aI X π σ H s->bc x v->aW xs us->r x xs H Q->
  wpAny (model X.prog X.w) X.A (call (.builtin id) (v::us)) (EP X π σ Q) X.xe s
section
variable {X:Cx} {a b:Expr} {ta tb:TE} {pos:Pos}
theorem Bb {r:R2} (hr:A9 X r) (ha:PE X a ta) (hb:PE X b tb) (hs:pf b):PE X (.Subscript a b pos) (AV r ta tb):=by
 intro π s σ H Q I h;exact Subscript_ (yG ha hb I h λv u s2 x y H2 I2 rx ry q=>hr a b π s2 σ H2 x y v u Q I2 rx ry q (hs _ _))
noncomputable def DG (K:yax):R2:=λx y H Q=>∃p xs i v,x=.ref p/\y=.int i/\cZ K H p xs/\dM xs i=some v/\Q v H
noncomputable def DH (K:yax):R2:=λx y H Q=>∃p xs i v,x=.ref p/\y=.int i/\cU K H p xs/\dM xs i=some v/\Q v H
noncomputable def DI:R2:=λx y H Q=>∃z i c,x=.str z/\y=.int i/\z.length<=sizeLine/\dM z.cps.toList i=some c/\Q (.str ⟨#[c]⟩) H
theorem ph:A9 X (DG X.K):=by
 intro value slice π s σ H x y v u Q I rx ry h hs;obtain⟨p,xs,i,z,rfl,rfl,hq,he,q⟩:=h;cases rx;obtain⟨t,rfl⟩:=ry;obtain⟨its,r,pl,hz⟩:=I.list hq;obtain⟨j,h1,h2,h3,h4,h5⟩:=kK he;obtain⟨w,ew,rw'⟩:=r.get h2;have hl:=r.length;have hn:=iU;have fin:EP X π σ Q w s:=⟨z,H,I,rw',q⟩
 by_cases h0:0<=i
 ·have hj:i.toNat=j:=by
   rw[seqIndex_of h0 h5] at h1;exact Option.some.inj h1
  exact item_listR pl.isList h0 (by lia) (by rw[hj];simpa using ew) fin hs
 ·have hj:(i+(its.toArray.size:Int)).toNat=j:=by
   rw[seqIndex_neg (by lia) h4] at h1;rw[size_toArray,←hl];exact Option.some.inj h1
  exact subscriptTail_builtinR (x:=w) pl.isList.typeIs slot_list_getitem.lookup
   (wpAny_getItem_list_neg (Q:=λr s'=>r=w/\EP X π σ Q r s') pl.isList (by lia) (by rw[size_toArray]<;> lia) (by lia) (by rw[hj];simpa using ew) ⟨rfl,fin⟩) hs
theorem yT:A9 X (DH X.K):=by
 intro value slice π s σ H x y v u Q I rx ry h hs;obtain⟨p,xs,i,z,rfl,rfl,hq,he,q⟩:=h;cases rx;obtain⟨t,rfl⟩:=ry;obtain⟨its,r,pl,hz⟩:=I.tuple hq;obtain⟨j,h1,h2,h3,h4,h5⟩:=kK he;obtain⟨w,ew,rw'⟩:=r.get h2;have hl:=r.length;have hn:=iU;have fin:EP X π σ Q w s:=⟨z,H,I,rw',q⟩;exact subscriptTail_builtinR (x:=w) pl.typeIs slot_tuple_getitem.lookup
  (getItem_tuple (j:=j) (Q:=λr s'=>r=w/\EP X π σ Q r s') pl (by lia) (by lia) (by rw[size_toArray,←hl];exact h1) (by simpa using ew) ⟨rfl,fin⟩) hs
theorem yU:A9 X DI:=by
 intro value slice π s σ H x y v u Q I rx ry h hs;obtain⟨z,i,c,rfl,rfl,hz,he,q⟩:=h;obtain⟨t,rfl⟩:=rx;obtain⟨t',rfl⟩:=ry;obtain⟨j,h1,h2,h3,h4,h5⟩:=kK he;have hl:z.cps.toList.length=z.length:=by simp[Str.length]
 rw[hl] at h1 h4 h5;have hn:=iU;exact tail_any (typeIs_str s z t) slot_str_getitem.lookup (getItem_str (c:=c) (by
  have e1:decide (i< -(2^63:Int))=false:=ycz (by lia);have e2:decide (i≥2^63)=false:=ycz (by lia);rw[e1,e2,Bool.or_false]) (by rw[h1];simpa using h2) ⟨.str ⟨#[c]⟩,H,I.tok _,⟨_,rfl⟩,q⟩) hs
theorem kL (lo hi:Option Int) (n:Nat):(sliceBounds lo hi none n).1=((HT.sIx n 0 lo:Nat):Int)/\(sliceBounds lo hi none n).2.1=((HT.sIx n n hi:Nat):Int)/\(sliceBounds lo hi none n).2.2=1:=by
 refine⟨?_,?_,rfl⟩
 ·cases lo with
  | none=>simp[sliceBounds,HT.sIx]
  | some i=>
    simp only[sliceBounds,HT.sIx,Option.getD_none,show(1:Int) > 0 by decide,if_true]
    by_cases h:i<0
    ·simp only[h,if_true]<;> lia
    ·simp only[h,if_false]<;> lia
 ·cases hi with
  | none=>simp[sliceBounds,HT.sIx]
  | some i=>
    simp only[sliceBounds,HT.sIx,Option.getD_none,show(1:Int) > 0 by decide,if_true]
    by_cases h:i<0
    ·simp only[h,if_true]<;> lia
    ·simp only[h,if_false]<;> lia
theorem jH (its:ydw) (lo hi:Option Int):slicePick its.toArray lo hi none=((its.drop (HT.sIx its.length 0 lo)).take (HT.sIx its.length its.length hi-HT.sIx its.length 0 lo)).toArray:=by
 obtain⟨h1,h2,h3⟩:=kL lo hi its.toArray.size;unfold slicePick;rw[h1,h2,h3];simp only[sliceRange_one,pick_run,size_toArray]<;> rfl
noncomputable def DJ (K:yax):V->Option Int->Option Int->Hp->VK->Prop:=λx lo hi H Q=>∃a xs,x=.ref a/\cZ K H a xs/\∀p,H p=none->Q (.ref p) (upd H p (.lst (lY xs lo hi)))
theorem pp:A7 X (DJ X.K):=by
 intro π s σ H x v vl vu lo hi sl Q I rx hs pl pu h;obtain⟨a,xs,rfl,hx,q⟩:=h;cases rx;obtain⟨its,r,ht,hz⟩:=I.list hx;have hlen:=r.length;refine⟨"list",_,slot_list_getitem.lookup,ht.isList.typeIs,?_⟩;refine wpAny_getItem_list_slice ht.isList hs pl pu .none (by simp) ?_ (by rw[size_toArray]<;> lia);rw[jH,←hlen];refine⟨.ref s.heap.objs.size,_,I.laid (t':=s.toks) (o:= .lst (lY xs lo hi)) (λb ob q=>yaw _ q) (yby _) ?_,rfl,q _ (I.hok.fresh (yby _))⟩;exact⟨ybz (io xs lo hi) hz,_,0,(r.drop (HT.sIx xs.length 0 lo)).take (HT.sIx xs.length xs.length hi-HT.sIx xs.length 0 lo),yav _ rfl⟩
theorem et:fQ X (.builtin "len") (λxs H Q=>∃p ys,xs=[.ref p]/\(cZ X.K H p ys∨cU X.K H p ys)/\Q (.int ys.length) H):=by
 intro π s σ H xs us Q I r h;obtain⟨p,ys,rfl,hq,q⟩:=h;obtain⟨u,rfl,rx⟩:=eV r;cases rx;have hn:=iU;rcases hq with hq | hq
 ·obtain⟨its,r',pl,hz⟩:=I.list hq;have hlen:=r'.length;exact Calls.call_len_list pl.isList (by simp only[size_toArray]<;> lia) ⟨.int ys.length,H,I.tok _,⟨s.toks+1,by rw[size_toArray,hlen]⟩,q⟩
 ·obtain⟨its,r',pl,hz⟩:=I.tuple hq;have hlen:=r'.length;exact len_tuple pl (by simp only[size_toArray]<;> lia) ⟨.int ys.length,H,I.tok _,⟨s.toks+1,by rw[size_toArray,hlen]⟩,q⟩
theorem kM:fQ X (.builtin "len") (λxs H Q=>∃z,xs=[.str z]/\z.length<=sizeLine/\Q (.int z.length) H):=by
 intro π s σ H xs us Q I r h;obtain⟨z,rfl,hz,q⟩:=h;obtain⟨u,rfl,t,rfl⟩:=eV r;have hn:=iU;exact len_str (by lia) ⟨.int z.length,H,I.tok _,⟨_,rfl⟩,q⟩
theorem fR:fQ X (.type "list") (λxs H Q=>∃p ys,xs=[.ref p]/\(cZ X.K H p ys∨cU X.K H p ys)/\∀l,H l=none->Q (.ref l) (upd H l (.lst ys))):=by
 intro π s σ H xs us Q I r h;obtain⟨p,ys,rfl,hq,q⟩:=h;obtain⟨u,rfl,rx⟩:=eV r;cases rx;have fin:∀(its:ydw),aW ys its->ys.length<=sizeLine->∀(h':Heap) (c':Nat),(∀b o',s.heap.get? b=some o'->h'.get? b=some o')->
  h'.get? s.heap.objs.size=some { cls:= .type "list",dict:=none,data:= .seq its.toArray c',slots:= #[] }->EP X π σ Q (.ref s.heap.objs.size) { s with heap:=h' }:=λits r' hz h' c' kp e=>
  ⟨.ref s.heap.objs.size,_,I.laid (t':=s.toks) kp (yby _) (show bI X.prog X.w _ h' _ (.lst ys) from ⟨hz,its,c',r',e⟩),rfl,q _ (I.hok.fresh (yby _))⟩
 rcases hq with hq | hq
 ·obtain⟨its,r',pl,hz⟩:=I.list hq;have hlen:=r'.length;obtain⟨o,ho,hc,n,hd⟩:=pl.isList;exact call_list_seq p (.inl rfl) ho hc hd (λh' c' kp e=>fin its r' hz h' c' kp e) (by simp only[size_toArray]<;> lia)
 ·obtain⟨its,r',pl,hz⟩:=I.tuple hq;have hlen:=r'.length;obtain⟨o,ho,hc,n,hd⟩:=pl;exact call_list_seq p (.inr rfl) ho hc hd (λh' c' kp e=>fin its r' hz h' c' kp e) (by simp only[size_toArray]<;> lia)
theorem fB:fQ X (.type "tuple") (λxs H Q=>∃p ys,xs=[.ref p]/\((cZ X.K H p ys/\∀l,H l=none->Q (.ref l) (upd H l (.tup ys)))∨(cU X.K H p ys/\Q (.ref p) H))):=by
 intro π s σ H xs us Q I r h;obtain⟨p,ys,rfl,h⟩:=h;obtain⟨u,rfl,rx⟩:=eV r;cases rx;rcases h with⟨hq,q⟩ | ⟨hq,q⟩
 ·obtain⟨its,r',pl,hz⟩:=I.list hq;have hlen:=r'.length;refine call_tuple_list pl.isList (λh' kp=>?_) (by simp only[size_toArray]<;> lia);have I1:aI X π σ H { s with heap:=h' }:=I.kept (t':=s.toks) kp;have I2:aI X π σ (upd H h'.objs.size (.tup ys)) { s with heap:=h'.push { cls:= .type "tuple",data:= .seq its.toArray } }:=
   I1.laid (t':=s.toks) (λb o e=>yaw _ e) (yby _) (show bI X.prog X.w _ _ _ (.tup ys) from ⟨hz,its,r',IsTup.new _ _⟩)
  exact⟨.ref h'.objs.size,_,I2,rfl,q _ (I1.hok.fresh (yby _))⟩
 ·obtain⟨its,r',pl,hz⟩:=I.tuple hq;exact call_tuple_same pl ⟨.ref p,H,I,rfl,q⟩
noncomputable def CU (K:yax) (T:String) (x:V) (H:Hp):Prop:=match x with
 | .str _=>T="str"
 | .int _=>T="int"
 | .ref p=>(T="list"/\∃xs,cZ K H p xs)∨(T="tuple"/\∃o,K.lookup p=some o/\o.cls=.type "tuple"/\o.dict=none)∨
    (T="dict"/\((∃kvs,H p=some (.dK kvs))∨∃kvs,H p=some (.dT kvs)))∨(T="set"/\∃S n,H p=some (.set S n))
 | _=>False
theorem nW {σ:St} {H:Hp} {T:String} {x:V} {v:Value} (I:aI X π σ H s) (r:bc x v) (ty:CU X.K T x H):
 s.TypeIs v T/\∀a,v=.ref a->∃ob,s.heap.get? a=some ob/\ob.dict=none:=by
 cases x with
 | str z=>
   obtain⟨t,rfl⟩:=r;cases (show T="str" from ty);exact⟨typeIs_str s z t,λ_ e=>nomatch e⟩
 | int i=>
   obtain⟨t,rfl⟩:=r;cases (show T="int" from ty);exact⟨typeIs_int s i t,λ_ e=>nomatch e⟩
 | ref p=>
   cases r;rcases ty with⟨rfl,xs,hq⟩ | ⟨rfl,o,hk,hc,hd⟩ | ⟨rfl,hk⟩ | ⟨rfl,S,n,hk⟩
   ·obtain⟨its,_,pl,_⟩:=I.list hq;refine⟨pl.isList.typeIs,λa e=>?_⟩;cases e;obtain⟨o,n,e,c,hd,_⟩:=pl;exact⟨o,e,hd⟩
   ·refine⟨⟨o,I.kIn p o hk,hc⟩,λa e=>?_⟩;cases e;exact⟨o,I.kIn _ o hk,hd⟩
   ·have z:∃o,s.heap.get? p=some o/\o.ExactDict:=by
     rcases hk with⟨kvs,hk⟩ | ⟨kvs,hk⟩
     ·obtain⟨_,_,_,_,o,_,_,e,ex,_⟩:=I.hok p _ hk;exact⟨o,e,ex⟩
     ·obtain⟨_,_,_,_,o,_,_,e,ex,_⟩:=I.hok p _ hk;exact⟨o,e,ex⟩
    obtain⟨o,e,ex⟩:=z;refine⟨⟨o,e,ex.1⟩,λa e2=>?_⟩;cases e2;exact⟨o,e,ex.2.1⟩
   ·obtain⟨o,_,_,_,e,ex,_⟩:=I.hok p _ hk;refine⟨⟨o,e,ex.1⟩,λa e2=>?_⟩;cases e2;exact⟨o,e,ex.2.1⟩
 | _=>exact False.elim ty
noncomputable def DK (K:yax) (T:String) (r:V->List V->Hp->VK->Prop) (to:TE):TE:=λσ H Q=>to σ H λx H1=>CU K T x H1/\r x [] H1 Q
noncomputable def FB (K:yax) (T:String) (r:V->List V->Hp->VK->Prop) (to:TE) (t:TA):TE:=λσ H Q=>to σ H λx H1=>CU K T x H1/\t σ H1 λxs H2=>r x xs H2 Q
variable {o e:Expr} {es:List Expr} {to:TE} {t:TA} {name:Str} {apos cpos:Pos} {T id:String} {r:V->List V->Hp->VK->Prop}
theorem yV (pa:PlainAttrs T) (slot:Slot T name id) (hty:typeOf (.builtin id)=pure (.type "method_descriptor")) (hm:Ba X id r) (ho:PE X o to)
 (hbase:attributeBase o name X.env (eval o X.env)=eval o X.env:=by rfl) (hline:(apos.endLine==cpos.line)=true:=by rfl):PE X (.Call (.Attribute o name apos) [] [] cpos) (DK X.K T r to):=by
 intro π s σ H Q I h;refine wpAny_Call_method0_late hbase hline (cf (ho π s σ H _ I h) λv s1 z9=>?_);obtain⟨x,H1,I1,r1,ty,q1⟩:=z9;obtain⟨h1,h2⟩:=nW I1 r1 ty;exact⟨T,id,pa,slot,hty,h1,h2,Calls.callWith_builtin rfl (PySem.evalArgs_none (hm π s1 σ H1 x [] v [] Q I1 r1 .nil q1))⟩
theorem xL (pa:PlainAttrs T) (slot:Slot T name id) (hty:typeOf (.builtin id)=pure (.type "method_descriptor")) (hm:Ba X id r) (ho:PE X o to) (ha:PA X (e::es) t)
 (hbase:attributeBase o name X.env (eval o X.env)=eval o X.env:=by rfl)
 (hfew:((backTo cpos (starEach (e::es) X.env)).all (λx=>!x.1)&&(backToKw cpos (keywordEach [] X.env)).all (λx=>x.1.isSome)
   &&decide ((e::es).length+([]:List Keyword).length+(if ([]:List Keyword).isEmpty then 0 else 1)<30))=true:=by rfl)
 (hline:(apos.endLine==cpos.line)=true:=by rfl) (hs:starEach (e::es) X.env=(false,eval e X.env)::starEach es X.env:=by rfl) (hplain:(backTo cpos (starEach es X.env)).any (·.1)=false:=by rfl):
 PE X (.Call (.Attribute o name apos) (e::es) [] cpos) (FB X.K T r to t):=by
 intro π s σ H Q I h;refine wpAny_Call_method_late hbase hfew hline rfl (cf (ho π s σ H _ I h) λv s1 z9=>?_);obtain⟨x,H1,I1,r1,ty,q1⟩:=z9;obtain⟨h1,h2⟩:=nW I1 r1 ty;refine⟨T,id,pa,slot,hty,h1,h2,?_⟩;have hA:=ha cpos π s1 σ H1 _ I1 q1;rw[hs] at hA ⊢;refine Calls.callWith_builtin (by show(false||(backTo cpos (starEach es X.env)).any (·.1))=false;rw[hplain]<;> rfl) (Calls.evalArgs_plain ?_);exact cf hA λus s2 ⟨vs,H2,I2,r2,q2⟩=>hm π s2 σ H2 x vs v us Q I2 r1 r2 q2
end
noncomputable def Fe (X:Cx) (id:String) (r:V->List V->Hp->VK->Prop):Prop:=
 ∀(π:List (Addr×Obj)) (s:Shared) (σ:St) (H:Hp) (x:V) (xs:List V) (v:Value) (us:ydw) (Q:VK),aI X π σ H s->bc x v->aW xs us->r x xs H Q->
  wpAny (model X.prog X.w) X.A (call (.builtin id) (v::us)) (EP X π σ Q) X.xe s
theorem aW.one:∀{x:V} {us:ydw},aW [x] us->∃u,us=[u]/\bc x u
 | _,_,.cons r .nil=>⟨_,rfl,r⟩
theorem aW.zero:∀{us:ydw},aW [] us->us=[]
 | _,.nil=>rfl
theorem aW.dropLast {xs:List V} (h:aW xs us):aW xs.dropLast us.dropLast:=by
 induction h with
 | nil=>exact .nil
 | cons r t ih=>
   cases t with
   | nil=>exact .nil
   | cons q t'=>exact .cons r ih
theorem aW.rep {xs:List V} {us:ydw} (h:aW xs us):∀k:Nat,aW (List.replicate k xs).flatten (List.replicate k us).flatten
 | 0=> .nil
 | k+1=>by
   rw[replicate_succ,replicate_succ,flatten_cons,flatten_cons];exact aW.append h (aW.rep h k)
theorem nX {α:Type} (l:List α):l.eraseIdx (l.length-1)=l.dropLast:=by
 induction l with
 | nil=>rfl
 | cons a r ih=>
   cases r with
   | nil=>rfl
   | cons b r=>
     have e:(a::b::r).length-1=((b::r).length-1)+1:=by
      have h1:(a::b::r).length=r.length+2:=rfl;have h2:(b::r).length=r.length+1:=rfl;assumption
     rw[e,List.eraseIdx_cons_succ,ih]
     all_goals rfl
theorem gL (its:ydw):∀(k:Nat) (acc:ydw),
 List.foldl (λx1 x2=>x1++x2) acc.toArray (List.replicate k its.toArray)=(acc++(List.replicate k its).flatten).toArray
 | 0,acc=>by simp
 | k+1,acc=>by
   have e:acc.toArray++its.toArray=(acc++its).toArray:=by simp
   have e2:(acc++its)++(List.replicate k its).flatten=acc++(List.replicate (k+1) its).flatten:=by
    rw[replicate_succ,flatten_cons,append_assoc]
   rw[←e2,←gL its k (acc++its),←e,replicate_succ,List.foldl_cons]
section
variable {X:Cx} {π:List (Addr×Obj)} {σ:St} {H:Hp} {s:Shared} {l b:Addr} {xs ys zs:List V}
theorem aI.lset {its its':ydw} {n:Nat} {f:Array Value->Array Value} {t':Nat} (I:aI X π σ H s) (hH:H l=some (.lst xs))
 (e:s.heap.get? l=some { cls:= .type "list",data:= .seq its.toArray n }) (hf:f its.toArray=its'.toArray) (hv:aW ys its') (hz:ys.length<=sizeLine):
 aI X π σ (upd H l (.lst ys)) { s with heap:=s.heap.update l (Obj.mapSeq f),toks:=t' }:=by
 have q:=PySem.IsL.update e f;rw[hf] at q;refine I.write (x:=l) (e:=l) (by rw[hH];exact trivial) (.inl rfl) (λb' u hb hu=>(Heap.get?_update_other s.heap (Obj.mapSeq f) (Ne.symm hb)).trans hu) ⟨_,q⟩ ?_;exact⟨hz,its',_,hv,q⟩
theorem aI.lnew {its:ydw} {t':Nat} (I:aI X π σ H s) (hv:aW ys its) (hz:ys.length<=sizeLine):
 aI X π σ (upd H s.heap.objs.size (.lst ys)) { s with heap:=s.heap.push { cls:= .type "list",data:= .seq its.toArray },toks:=t' }:=
 I.laid (λ_ _ q=>yaw _ q) (yby _) ⟨hz,its,0,hv,yav _ rfl⟩
theorem aI.fresh (I:aI X π σ H s):H s.heap.objs.size=none:=I.hok.fresh (yby _)
theorem aI.lstM (I:aI X π σ H s) (hH:H l=some (.lst xs)):xs.length<=sizeLine/\∃(its:ydw) (n:Nat),aW xs its/\xs.length=its.length/\s.heap.get? l=some { cls:= .type "list",data:= .seq its.toArray n }:=by
 obtain⟨z,its,n,r,e⟩:=I.hok l _ hH;exact⟨z,its,n,r,r.length,e⟩
theorem sj {n:Nat} (h:n<=sizeLine):Builtin.List.listTooLong n=false:=by
 unfold Builtin.List.listTooLong;exact ycz (by lia)
end
section
variable {X:Cx}
noncomputable def vD:V->List V->Hp->VK->Prop:=λx vs H Q=>∃l xs y,x=.ref l/\vs=[y]/\H l=some (.lst xs)/\xs.length<sizeLine/\Q .non (upd H l (.lst (xs++[y])))
theorem qG:Fe X "list.append" vD:=by
 intro π s σ H x vs v us Q I rx rv h;obtain⟨l,xs,y,rfl,rfl,hH,hz,q⟩:=h;cases rx;obtain⟨u,rfl,ru⟩:=rv.one;obtain⟨z,its,n,r,hl,e⟩:=I.lstM hH;refine call_meets F.slot_list_append ⟨_,e,rfl⟩ F.entry_list_append (F.args_list_append_2 _ _) (PySem.list_append l its.toArray n u (by rw[size_toArray];lia)) ⟨e,?_⟩;refine⟨.non,_,I.lset (its':=its++[u]) hH e (by simp) (r.append (.cons ru .nil)) ?_,rfl,q⟩;rw[length_append,List.length_singleton];assumption
noncomputable def DL:V->List V->Hp->VK->Prop:=λx vs H Q=>∃l xs y,x=.ref l/\vs=[]/\H l=some (.lst xs)/\xs[xs.length-1]?=some y/\Q y (upd H l (.lst xs.dropLast))
theorem yW:Fe X "list.pop" DL:=by
 intro π s σ H x vs v us Q I rx rv h;obtain⟨l,xs,y,rfl,rfl,hH,hy,q⟩:=h;cases rx;have hus:=rv.zero;subst hus;obtain⟨z,its,n,r,hl,e⟩:=I.lstM hH;obtain⟨u,hu,ru⟩:=r.get hy;have hy':its.toArray[its.toArray.size-1]?=some u:=by
  show its.toArray[its.length-1]?=some u;rw[←Array.getElem?_toList,←hl];exact hu
 refine call_meets F.slot_list_pop ⟨_,e,rfl⟩ F.entry_list_pop (F.args_list_pop_1 _) (MeetsSeq.list_pop_last l its.toArray n u hy' (by rw[size_toArray];lia)) ⟨e,?_⟩;refine⟨y,_,I.lset (its':=its.dropLast) hH e ?_ r.dropLast ?_,ru,q⟩
 ·show its.toArray.eraseIdxIfInBounds (its.toArray.size-1)=its.dropLast.toArray;rw[size_toArray,List.eraseIdxIfInBounds_toArray,nX]
 ·rw[List.length_dropLast];lia
noncomputable def DM:R2:=λx y H Q=>∃l b xs zs,x=.ref l/\y=.ref b/\H l=some (.lst xs)/\H b=some (.lst zs)/\xs.length+zs.length<=sizeLine/\∀p,H p=none->Q (.ref p) (upd H p (.lst (xs++zs)))
theorem yX:ik X (binaryOp .Add) DM:=by
 intro π s σ H x y v u Q I rx ry h;obtain⟨l,b,xs,zs,rfl,rfl,hH,hB,hz,q⟩:=h;cases rx;cases ry;obtain⟨z,its,n,r,hl,e⟩:=I.lstM hH;obtain⟨z2,its2,n2,r2,hl2,e2⟩:=I.lstM hB;refine PySem.P.add_list e e2 ?_ (by rw[size_toArray,size_toArray];lia);have ea:its.toArray++its2.toArray=(its++its2).toArray:=by simp
 rw[ea];exact⟨.ref _,_,I.lnew (t':=s.toks) (r.append r2) (by rw[length_append];assumption),rfl,q _ I.fresh⟩
noncomputable def DN:R2:=λx y H Q=>∃l k xs,x=.ref l/\y=.int k/\H l=some (.lst xs)/\-(2^63)<=k/\k<2^63/\xs.length*k.toNat<=sizeLine/\
 ∀p,H p=none->Q (.ref p) (upd H p (.lst (List.replicate k.toNat xs).flatten))
theorem iJ {α:Type} (xs:List α) (k:Nat):(List.replicate k xs).flatten.length=k*xs.length:=by
 induction k with
 | zero=>simp
 | succ k ih=>rw[replicate_succ,flatten_cons,length_append,ih,Nat.succ_mul,Nat.add_comm]
theorem yY:ik X (binaryOp .Mult) DN:=by
 intro π s σ H x y v u Q I rx ry h;obtain⟨l,k,xs,rfl,rfl,hH,h1,h2,hz,q⟩:=h;cases rx;obtain⟨t,rfl⟩:=ry;obtain⟨z,its,n,r,hl,e⟩:=I.lstM hH;have hlen:its.toArray.size*k.toNat<=sizeLine:=by rw[size_toArray,←hl];exact hz
 have hcap:¬its.toArray.size*k.toNat > (2^63-1)/8:=by
  have:(sizeLine:Nat)<=(2^63-1)/8:=by decide
  lia
 have hfit:¬(!Builtin.List.listFitsIndex k)=true:=by
  rw[fitsIndex_both h1 h2];exact ycy
 have hlong:¬Builtin.List.listTooLong (its.toArray.size*k.toNat)=true:=by
  rw[sj hlen];exact ycy
 have hnew:List.foldl (λx1 x2=>x1++x2) #[] (List.replicate (if its.toArray.isEmpty=true then 0 else k.toNat) its.toArray)=(List.replicate k.toNat its).flatten.toArray:=by
  have f0:∀m:Nat,List.foldl (λx1 x2=>x1++x2) #[] (List.replicate m its.toArray)=(List.replicate m its).flatten.toArray:=λm=>by
   have:=gL its m [];rw[nil_append] at this;exact this
  rw[f0];cases its with
  | nil=>simp
  | cons a r'=>rw[ybv (by simp)]
 refine wpAny_binaryOp_repeat_ref (T:="list") (U:="int") (by decide) ⟨_,e,rfl⟩ (λs'=>typeIs_int s' k t) noFill_list_mul F.fills_int_mul F.slot_int_rmul repeat_list F.slot_int_index.lookup
  (call_meets F.slot_int_rmul (typeIs_int s k t) F.entry_int_rmul (F.args_int_rmul_2 _ _) (int___rmul___int_list k t l its.toArray n)
    ⟨e,rfl,⟨_,e,rfl⟩,call_meets F.slot_list_mul ⟨_,e,rfl⟩ F.entry_list_mul (F.args_list_mul_2 _ _) (AutoListH.list___mul___list_int_3 l its.toArray n k t hfit hcap hlong) ⟨e,?_⟩⟩)
 rw[hnew];exact⟨.ref _,_,I.lnew (t':=s.toks) (r.rep k.toNat) (by rw[iJ,Nat.mul_comm];exact hz),rfl,q _ I.fresh⟩
end
section
variable {prog:Program} {w:World} {A:Around} {E:ydz} {s:Shared}
set_option maxRecDepth 100000 in
end
section
variable {X:Cx}
end
end L2
namespace Att
open PySem PySem.W PySem.Calls PyProof.Rows
theorem iE {P:Params} {h:Heap}:∀(ns:List Int) (vs:ydw),WellAll P h vs (ns.map WData.int)->IntsAre vs ns:=by
 intro ns
 induction ns with
 | nil=>
   intro vs w;rw[map_nil] at w;cases w;exact .nil
 | cons n ns ih=>
   intro vs w;rw[map_cons] at w;cases w with
   | cons a b=>
     cases a;exact .cons _ _ (ih _ b)
theorem script_of {l:OpenLaw} {n:Nat} (hn:l.most=some n) {P:Params} {h:Heap} {args:List WData} {vals:ydw}
 (hpre:l.row.toRowW.claim.pre args=true) (hwl:WellAll P h vals args):
 ∃a vs ns,vals=[Value.ref a]/\args=[WData.list (ns.map WData.int)]/\h.get? a=some { cls:= .type "list",data:= .seq vs.toArray }/\IntsAre vs ns/\ns.length<=n:=by
 have hsh:WShape.hasAll [] args [.list .int]=true:=(pre_splitW hpre).1;have hc:l.pre.holds [] { args:=args }=true:=(pre_splitW hpre).2;obtain⟨d,r,rfl,h1,h2⟩:=hasAllW_cons hsh;obtain rfl:=hasAllW_nil h2;obtain⟨xs,rfl,h3⟩:=hasW_list h1;obtain⟨ns,rfl⟩:=items_int h3;have hlen:ns.length<=n:=by
  unfold OpenLaw.pre at hc;have h4:(WTm.not (.lt (.lit (.int (n:Int))) (.len (.arg 0)))).holds [] { args:=[.list (ns.map .int)] }=true:=by
   have h4:=(holds_andW hc).1;rw[hn] at h4;exact h4
  have h5:=condW_of h4 (w_not (w_lt w_lit (w_len_list (w_arg rfl))));rw[length_map] at h5;refine Nat.le_of_not_lt λq=>?_;have q':(n:Int)<((ns.length:Nat):Int):=by lia
  first
   | (rw[ycw q'] at h5;exact absurd h5 (by decide))
   | (simp at h5;lia)
 cases hwl with
 | cons w1 w2=>
   cases w2;cases w1 with
   | list ho hall=>exact⟨_,_,ns,rfl,rfl,ho,iE ns _ hall,hlen⟩
theorem post_true (l:OpenLaw) (args:List WData):l.row.toRowW.claim.post args (.bool true) args=true:=
 postW_of (r:=l.row.toRowW) (X:=(true==true))
  (show WShape.has [] (.bool true) .bool=true by first | rfl | decide | simp[WShape.has,WShape.arms,WShape.armsAll])
  (show(WTm.eq .res (.lit (.bool true))).value [] { args:=args,res:=some (.bool true),after:=args }=some (.bool (true==true)) from w_eq_bool (w_res rfl) w_lit) rfl
section
variable {prog:Program} {w:World} {A:Around} {E:ydz} {s:Shared} {K:Frag}
end
end Att
namespace L2
open PySem PySem.Spec PyProof.Rows
theorem jW:∀{vs:ydw} {ns:List Int},IntsAre vs ns->aW (ns.map V.int) vs
 | _,_,.nil=> .nil
 | _,_,.cons n t h=> .cons ⟨t,rfl⟩ (jW h)
noncomputable def sk (H:Hp):Prop:=∀b,H b=none∨∃o xs,H b=some (.frz o (.lst xs))
theorem so {mg mb:ydv} {CX:nS} {fa a:Addr} {sp:Sp} {s₁:Shared} {vs:ydw} {ns:List Int}
 (KX:K.In s₁.heap) (hns:s₁.heap.Ns mainGlobals mg) (hb:s₁.heap.Ns builtinsNs mb) (hbb:∀x:Str,x≠"__name__"->mb x=bootBuiltins x) (hlim:s₁.heap.NoLimit) (hg:s₁.gens= #[])
 (ha:s₁.heap.get? a=some { cls:= .type "list",data:= .seq vs.toArray }) (hi:IntsAre vs ns) (hl:ns.length<=sizeLine) (hr:av k callerA)
 (F:∀base:Heap,K.In base->base.Ns mainGlobals mg->dJ P w K mg base CX k fa fd [x] sp) (hbind:∀(s:Shared) (u:Value),BindsTo s fd ⟨[u],[]⟩ [(x,u)])
 (hsp:∀H:Hp,sk H->cZ K H a (ns.map V.int)->sp [.ref a] H (λv _=>v=.bl true) λ_ _ _=>False)
 (hCX:∀H e s',CX [] H s₁ (λ_ _ _=>False) e s'->False):
 codeAny (model P w) callerA (.call (.ref fa) ⟨[.ref a],[]⟩) (λr s'=>r=.ok (.ret (.bool true))/\OldK s₁.heap s'.heap/\s'.os=s₁.os/\AllBare s'.gens) s₁:=by
 have rv:=jW hi;have lenV:=hi.length
 -- from an abstract heap in which nothing but the script may be tracked
 have core:∀H:Hp,sk H->cZ K H a (ns.map V.int)->fu P w H s₁.heap->(∀b,H b≠none->b=a)->(H a≠none->K.lookup a=none)->
  codeAny (model P w) callerA (.call (.ref fa) ⟨[.ref a],[]⟩) (λr s'=>r=.ok (.ret (.bool true))/\OldK s₁.heap s'.heap/\s'.os=s₁.os/\AllBare s'.gens) s₁:=by
  intro H hO hS hok hA hK;have base_of:∀{b:Addr} {o:Obj},s₁.heap.get? b=some o->H b=none->(kH s₁.heap H).get? b=some o:=λe n=>rK e n;have noA:∀{b:Addr} {o:Obj} {es:Array DictEntry} {ep:Nat},s₁.heap.get? b=some o->o.data=.dict es ep->H b=none:=λ{b o es ep} e d=>by
   cases q:H b with
   | none=>rfl
   | some u=>
     have e':b=a:=hA b (by rw[q];simp);subst e';rw[ha] at e;cases e;have d':Data.seq vs.toArray _=Data.dict es ep:=d;cases d'
  have nsK:∀{b:Addr} {m:ydv},s₁.heap.Ns b m->(kH s₁.heap H).Ns b m:=λ{b m} ⟨o,es,ep,e,d,r⟩=>⟨o,es,ep,base_of e (noA e d),d,r⟩;have hKb:K.In (kH s₁.heap H):=λb o e=>base_of (KX b o e) (by
   cases q:H b with
   | none=>rfl
   | some u=>
     have e':b=a:=hA b (by rw[q];simp);subst e';rw[hK (by rw[q];simp)] at e;cases e)
  have hM:Mod K mg (kH s₁.heap H):=⟨hKb,nsK hns,⟨mb,nsK hb,hbb⟩,let ⟨mc,h1,h2⟩:=hlim;⟨mc,nsK h1,h2⟩⟩;have e0:lV P w K mg (kH s₁.heap H) callerA [] s₁ H:=⟨rfl,hM,λb o e=>u7 e,Nat.le_of_eq (qr _ _),trivial,λb hb=>absurd (show b∈([]:List Addr) from hb) (by simp),hok,.of_eq hg⟩;refine codeAny_mono ((F _ hKb (nsK hns)).run callerA [] s₁ H ⟨[.ref a],[]⟩ [.ref a] [.ref a] _ _ hr e0 (hbind s₁ (.ref a)) (.cons rfl .nil) (hsp H hO hS)) λr s' h=>?_;cases r with
  | error e=>exact(hCX H e s' h).elim
  | ok fl=>
    cases fl with
    | next=>exact False.elim h
    | brk=>exact False.elim h
    | cont=>exact False.elim h
    | ret u=>
      obtain⟨v,H',os,bare,un,hok',r',q⟩:=h;have q':v=.bl true:=q;subst q';obtain rfl:u=Value.bool true:=r';refine⟨rfl,OldK.of_keep λb o e=>?_,os,bare⟩;cases q:H b with
      | none=>exact un.keep b o e q (by intro z;exact absurd (show b∈([]:List Addr) from z) (by simp)) (by simp)
      | some u=>
        rcases hO b with z | ⟨ob,xs,z⟩
        ·rw[q] at z;cases z
        ·have z2:=un.frzs b ob _ z;obtain⟨e1,_⟩:=hok b _ z;obtain⟨e2,_⟩:=hok' b _ z2;rw[e] at e1;cases e1;exact e2
 cases hk:K.lookup a with
 | some o=>
   -- the script is one of the module's own objects
   have e:=KX a o hk;rw[ha] at e;cases e;refine core (λ_=>none) (λ_=> .inl rfl) (.inr ⟨_,vs.toArray,_,hk,rfl,rfl,rfl,by rw[size_toArray,lenV];exact hl,by simpa using rv⟩) (λb u z=>by have z':(none:Option HO)=some u:=z;cases z') (λb z=>absurd rfl z) λz=>absurd rfl z
 | none=>
   refine core (λb=>if b=a then some (.frz { cls:= .type "list",data:= .seq vs.toArray } (.lst (ns.map V.int))) else none) (λb=>?_) (.inl (.inr ⟨{ cls:= .type "list",data:= .seq vs.toArray },ycx rfl⟩)) (λb u z=>?_) (λb z=>?_) λ_=>hk
   ·by_cases hb:b=a
    ·exact .inr ⟨_,_,ycx hb⟩
    ·exact .inl (ybv hb)
   ·by_cases hb:b=a
    ·have z':=(ycx hb).symm.trans z;cases z';subst hb;exact⟨ha,by rw[length_map];exact hl,vs,_,rv,ha⟩
    ·have z':=(ybv hb).symm.trans z;cases z'
   ·by_cases hb:b=a
    ·exact hb
    ·exact absurd (ybv hb) z
noncomputable def aw (s:Stmt):Arguments:=match s with
 | .FunctionDef _ a _ _ _ _ _ _ _ _=>a
 | _=>{ posonlyargs:=[],args:=[],vararg:=none,kwonlyargs:=[],kw_defaults:=[],kwarg:=none,defaults:=[] }
noncomputable def au (s:Stmt):List Stmt:=match s with
 | .FunctionDef _ _ b _ _ _ _ _ _ _=>b
 | _=>[]
noncomputable def am (s:Stmt):Scope:=match s with
 | .FunctionDef _ _ _ _ _ _ sc _ _ _=>sc
 | _=>{ kind:= .function,names:=[],isGenerator:=false,isCoroutine:=false }
noncomputable abbrev sr:nS:=λ_ _ _ _ _ _=>False
noncomputable abbrev E0:XK:=λ_ _ _=>False
theorem jX {X:Cx}:ei sr X E0:=λ_ _ _ _ _ _ _ h=>h.elim
structure cz (K:yax) (x qual:Str) (st:Stmt) (f:Addr) (fd:FuncData):Prop where
 ex:∃(oc:Value) (od:Option Addr) (kV doc pm:Value) (an:Option Addr) (cdv ct:Value) (osl:Array (Option Value)),
  fd=fnOf x qual (aw st) (au st) (am st) .none kV doc pm an cdv ct/\K.lookup f=some ⟨oc,od,.func fd,osl⟩/\codeIn K cdv qual=true
 kp:keepIn K (.ref f)=true
section
variable {P:Program} {w:World} {K:yax} {mg:ydv} {base:Heap}
theorem cz.ok {x qual:Str} {f:Addr} {N ps:List Str} {sp:Sp} (F:cz K x qual st f fd) (S:bW N ps (am st)) (len:∀vs H Q E,sp vs H Q E->vs.length=ps.length)
 (hbody:∀(cdv:Value) (A:Around) (outer:List Env) (s:Shared) (H:Hp) (vs:List V) (Q:VK) (E:XK),av k (A.deeper (envOfC qual (am st) s.heap.objs.size f cdv))->sp vs H Q E->
   ∃t,lP (dC sr P w K mg base N qual (am st) f cdv A outer s H E).nox (au st) t/\t { nx:=λ_ H'=>Q .non H',rt:=Q } (start N vs) H):dJ P w K mg base sr (k+1) f fd ps sp:=by
 obtain⟨oc,od,kV,doc,pm,an,cdv,ct,osl,rfl,lk,hcd⟩:=F.ex;refine o8 lk hcd S len λA outer s H vs Q E hr hsp=>?_;obtain⟨t,h,q⟩:=hbody cdv A outer s H vs Q E hr hsp;exact⟨t,h.nox,q⟩
theorem cz.binds {x qual:Str} {f:Addr} (F:cz K x qual st f fd)
 (h:∀(kV doc pm:Value) (an:Option Addr) (cdv ct:Value) (us:ydw),us.length=ps.length->bindArgs (fnOf x qual (aw st) (au st) (am st) .none kV doc pm an cdv ct) ⟨us,[]⟩=pure (ps.zip us)):bP K fd ps []:=by
 obtain⟨oc,od,kV,doc,pm,an,cdv,ct,osl,rfl,lk,hcd⟩:=F.ex;exact .all (h kV doc pm an cdv ct)
theorem aL {x qual:Str} {f:Addr} {oc:Value} {od an:Option Addr} {osl:Array (Option Value)} {kV doc pm cdv ct:Value} (l:K.lookup f=some ⟨oc,od,.func (fnOf x qual (aw st) (au st) (am st) .none kV doc pm an cdv ct),osl⟩)
 (c:codeIn K cdv qual=true) (k:keepIn K (.ref f)=true):cz K x qual st f (fnOf x qual (aw st) (au st) (am st) .none kV doc pm an cdv ct):=⟨⟨oc,od,kV,doc,pm,an,cdv,ct,osl,rfl,l,c⟩,k⟩
end
section
variable {X:Cx}
theorem pv (i:Nat) (hN:X.N[i]?=some x:=by rfl) (hv:AG X.env.scope x:=by first | exact Or.inl rfl | exact Or.inr (Or.inl rfl) | exact Or.inr (Or.inr rfl)) (hd:(x==("__debug__":Str))=false:=by decide)
 (hcd:(x==("__classdict__":Str))=false:=by decide):PE X (.Name x pos) (AK i):=nH hN hv hd hcd
end
section
variable {κ:Type} [DecidableEq κ]
noncomputable def kN (kvs:List (κ×V)) (k:κ):Option V:=(kvs.find? λkv=>decide (kv.1=k)).map (·.2)
noncomputable def gM (kvs:List (κ×V)) (k:κ) (v:V):List (κ×V):=
 if (kvs.any λkv=>decide (kv.1=k))=true then kvs.map (λkv=>if kv.1=k then (kv.1,v) else kv) else kvs++[(k,v)]
theorem lZ {p:κ×V} {r:List (κ×V)} {k:κ} (e:p.1=k):kN (p::r) k=some p.2:=by simp[kN,List.find?_cons,e]
theorem mf {p:κ×V} {r:List (κ×V)} {k:κ} (e:¬p.1=k):kN (p::r) k=kN r k:=by simp[kN,List.find?_cons,e]
theorem mh (kvs:List (κ×V)) (k:κ) (v:V):(gM kvs k v).length<=kvs.length+1:=by
 unfold gM;split
 ·rw[length_map];lia
 ·rw[length_append,length_cons,length_nil];lia
theorem fG.getD {o:Option V} {u:Option Value} {d:V} {d':Value} (r:fG o u) (rd:bc d d'):bc (o.getD d) (u.getD d'):=by
 cases o with
 | none=>cases u with
   | none=>exact rd
   | some _=>exact(show False from r).elim
 | some _=>cases u with
   | none=>exact(show False from r).elim
   | some _=>exact r
theorem KV.val {kvs:List (κ×V)} {vs:List (κ×Value)} (r:KV kvs vs) (k:κ):fG (kN kvs k) (valueAt vs k):=by
 unfold KV at r
 induction r with
 | nil=>exact True.intro
 | @cons p q ps qs h t ih=>
   obtain⟨h1,h2⟩:=h
   by_cases e:p.1=k
   ·have e':q.1=k:=h1.symm.trans e;have b:valueAt (q::qs) k=some q.2:=by simp[valueAt,List.find?_cons,e']
    rw[lZ e,b];exact h2
   ·have e':¬q.1=k:=λz=>e (h1.trans z);have b:valueAt (q::qs) k=valueAt qs k:=by simp[valueAt,List.find?_cons,e']
    rw[mf e,b];exact ih
theorem KV.any {kvs:List (κ×V)} {vs:List (κ×Value)} (r:KV kvs vs) (k:κ):(kvs.any λkv=>decide (kv.1=k))=vs.any λkv=>decide (kv.1=k):=by
 unfold KV at r
 induction r with
 | nil=>rfl
 | cons h t ih=>rw[any_cons,any_cons,ih,h.1]
theorem KV.repl {kvs:List (κ×V)} {vs:List (κ×Value)} (r:KV kvs vs) (k:κ) {y:V} (ry:bc y u):
 KV (kvs.map λkv=>if kv.1=k then (kv.1,y) else kv) (vs.map λkv=>if kv.1=k then (kv.1,u) else kv):=by
 unfold KV at r ⊢
 induction r with
 | nil=>exact .nil
 | @cons p q ps qs h t ih=>
   rw[map_cons,map_cons];refine .cons ?_ ih;obtain⟨h1,h2⟩:=h
   by_cases e:p.1=k
   ·rw[ycx e,ycx (h1.symm.trans e)];exact⟨h1,ry⟩
   ·rw[ybv e,ybv (λz=>e (h1.trans z))];exact⟨h1,h2⟩
theorem KV.put {kvs:List (κ×V)} {vs:List (κ×Value)} (r:KV kvs vs) (k:κ) {y:V} (ry:bc y u):KV (gM kvs k y) (stored vs k u):=by
 unfold gM stored;rw[r.any k]
 by_cases e:(vs.any λkv=>decide (kv.1=k))=true
 ·rw[ycx e,ycx e];exact r.repl k ry
 ·rw[ybv e,ybv e];exact Paired.snoc r ⟨rfl,ry⟩
theorem KV.length {kvs:List (κ×V)} {vs:List (κ×Value)} (r:KV kvs vs):kvs.length=vs.length:=Paired.length r
end
theorem mj {k:aS} (r:bc (kV k) u):(aY P w).is k u=true:=by
 cases k with
 | inl i=>obtain⟨t,e⟩:=(show ∃t,u=Value.int i t from r);subst e;exact dL P w i t
 | inr x=>obtain⟨t,e⟩:=(show ∃t,u=Value.str x t from r);subst e;exact lS P w x t
theorem jY {P:Program} {w:World}:∀{ks:List aS} {us:ydw},aW (ks.map kV) us->ItemsAre (aY P w) ks us
 | [],_,r=>by rw[map_nil] at r;cases r;exact .nil
 | k::ks,_,r=>by
   rw[map_cons] at r;cases r with
   | cons h t=>exact .cons (mj h) (jY t)
noncomputable abbrev KT (H:Hp):List (List aS×V)->List (List aS×Addr×Value)->Prop:=Paired λp q=>p.1=q.1/\H q.2.1=some (.tup (p.1.map kV))/\bc p.2 q.2.2
section
variable {P:Program} {w:World} {H:Hp} {h:Heap} {a:Addr}
theorem xM {u:HO} (ok:fu P w H h) (e:Rd H a u):bI P w H h a u:=e.ok ok
theorem eW {kvs:List (aS×V)} (ok:fu P w H h) (e:Rd H a (.dK kvs)):kvs.length<=sizeLine/\(a==sysModules)=false/\∃vs,KV kvs vs/\h.DictOf (aY P w) a vs:=
 show bI P w H h a (.dK kvs) from xM ok e
theorem ss {kvs:List (aS×V)} (ok:fu P w H h) (e:H a=some (.dK kvs)):kvs.length<=sizeLine/\(a==sysModules)=false/\∃vs,KV kvs vs/\h.DictOf (aY P w) a vs:=eW ok (.inl e)
theorem yZ {ks:List aS} (ok:fu P w H h) (e:H a=some (.tup (ks.map kV))):(tupleKind (aY P w)).is h ks a:=by
 obtain⟨_,its,r,o,h1,h2,n,h3⟩:=(show bI P w H h a (.tup (ks.map kV)) from ok a _ e);exact⟨o,its.toArray,n,h1,h2,h3,by simpa using jY r⟩
theorem Bc {kvs:List (List aS×V)} (ok:fu P w H h) (e:Rd H a (.dT kvs)):kvs.length<=sizeLine/\(a==sysModules)=false/\
 ∃xs,KT H kvs xs/\h.DictOfH (tupleKind (aY P w)) a xs:=by
 obtain⟨z,y,xs,r,o,es,ep,h1,h2,h3,h4,h5⟩:=(show bI P w H h a (.dT kvs) from xM ok e);refine⟨z,y,xs,r,o,es,ep,h1,h2,h3,h4,λx hx=>?_,h5⟩;have all:∀{l:List (List aS×V)} {m:List (List aS×Addr×Value)},KT H l m->∀x∈m,(tupleKind (aY P w)).is h x.1 x.2.1:=by
  intro l m q
  induction q with
  | nil=>intro x hx;exact nomatch hx
  | @cons p q ps qs hq t ih=>
    intro x hx;rcases mem_cons.mp hx with e | hx
    ·subst e;exact yZ ok (by rw[←hq.1];exact hq.2.1)
    ·exact ih x hx
 exact all r x hx
theorem sw {kvs:List (List aS×V)} (ok:fu P w H h) (e:H a=some (.dT kvs)):kvs.length<=sizeLine/\(a==sysModules)=false/\
 ∃xs,KT H kvs xs/\h.DictOfH (tupleKind (aY P w)) a xs:=Bc ok (.inl e)
end
section
variable {X:Cx} {π:List (Addr×Obj)} {σ:St} {H:Hp} {s:Shared} {a:Addr} {y v:V} {u r:Value} {o:Option V} {A:Around} {E:ydz}
theorem aI.bigD (I:aI X π σ H s):sysModules<s.heap.objs.size:=by
 have h:mainGlobals<s.heap.objs.size:=(I.mod.glob.keeps I.bk).lt;exact Nat.lt_trans (by decide) h
theorem pq {h':Heap} {t':Nat} {ob:HO} (I:aI X π σ H s) (mu:AJ (H a)) (hs:Heap.SameBut a s.heap h') (he:∃q,h'.get? a=some q) (new:bI X.prog X.w (upd H a ob) h' a ob):
 aI X π σ (upd H a ob) { s with heap:=h',toks:=t' }:=
 I.write (x:=a) (e:=a) mu (.inl rfl) (λb q hb z=>(hs.2 b hb).trans z) he new
theorem y0 {H':Hp} {h':Heap} {kvs:List (aS×V)} {vs:List (aS×Value)} (z:kvs.length<=sizeLine) (hd:(a==sysModules)=false) (rel:KV kvs vs) (dd:h'.DictOf (aY P w) a vs):
 bI P w H' h' a (.dK kvs):=⟨z,hd,vs,rel,dd⟩
end
section
variable {X:Cx} {π:List (Addr×Obj)} {σ:St} {H:Hp} {s:Shared} {a:Addr} {kvs:List (aS×V)} {k:aS} {u:Value} {A:Around} {E:ydz}
theorem Bf (I:aI X π σ H s) (e:Rd H a (.dK kvs)) (h:∀t s',aI X π σ H s'->Q (.int kvs.length t) s'):wpAny (model X.prog X.w) A (call (.builtin "len") [.ref a]) Q E s:=by
 obtain⟨z,hd,vs,rel,dd⟩:=eW I.hok e;refine call_len_dict hd dd (by rw[←rel.length];rw[sizeLine_eq] at z;lia) ?_;rw[←rel.length];exact h _ _ (I.tok _)
end
section
variable {X:Cx} {o i e value:Expr} {pos pos' tpos:Pos} {td ty tv:TE}
end
theorem qH {H:Hp} (h:Heap) (hb:sysModules<h.objs.size):bI P w H (h.push { cls:= .type "dict",data:= .dict #[] }) h.objs.size (.dK []):=
 ⟨zero_le _,beq_eq_false_iff_ne.mpr (Ne.symm (ne_of_lt hb)),[],.nil,Heap.DictOf.new h⟩
noncomputable def y6:TE:=λ_ H Q=>∀p,H p=none->Q (.ref p) (upd H p (.dK []))
section
variable {X:Cx} {pos:Pos}
theorem pe_dnewK:PE X (.Dict [] [] pos) y6:=λπ s σ H Q I h=>
 wpAny_Dict_empty ⟨.ref s.heap.objs.size,_,I.laid (a:=s.heap.objs.size) (o:= .dK []) (t':=s.toks) (λ_ _ q=>yaw _ q) (yby _) (qH s.heap I.bigD),rfl,h _ (I.hok.fresh (yby _))⟩
end
noncomputable abbrev VV:List (V×V)->List (Value×Value)->Prop:=Paired λp q=>bc p.1 q.1/\bc p.2 q.2
structure M1 (X:Cx) (o:Expr) (m:Str) (apos:Pos) (e:Expr) (cpos:Pos):Prop where
 base:attributeBase o m X.env (eval o X.env)=eval o X.env
 few:((backTo cpos (starEach [e] X.env)).all (λx=>!x.1)&&(backToKw cpos (keywordEach [] X.env)).all (λx=>x.1.isSome)
  &&decide (([e]:List Expr).length+([]:List Keyword).length+(if ([]:List Keyword).isEmpty then 0 else 1)<30))=true
 line:(apos.endLine==cpos.line)=true
 trees:backTo cpos (starEach [e] X.env)=[(false,eval e X.env)]
structure M2 (X:Cx) (o:Expr) (m:Str) (apos:Pos) (e f:Expr) (cpos:Pos):Prop where
 base:attributeBase o m X.env (eval o X.env)=eval o X.env
 few:((backTo cpos (starEach [e,f] X.env)).all (λx=>!x.1)&&(backToKw cpos (keywordEach [] X.env)).all (λx=>x.1.isSome)
  &&decide (([e,f]:List Expr).length+([]:List Keyword).length+(if ([]:List Keyword).isEmpty then 0 else 1)<30))=true
 line:(apos.endLine==cpos.line)=true
 trees:backTo cpos (starEach [e,f] X.env)=[(false,eval e X.env),(false,eval f X.env)]
section
variable {X:Cx} {π:List (Addr×Obj)} {σ:St} {H:Hp} {s:Shared} {a:Addr} {y d:V} {u r:Value} {o:Option V} {A:Around} {E:ydz}
end
section
variable {X:Cx} {o e f:Expr} {apos cpos:Pos} {td ty tx:TE}
end
section
variable {X:Cx} {π:List (Addr×Obj)} {σ:St} {H:Hp} {s:Shared} {a:Addr} {kvs:List (aS×V)} {A:Around} {E:ydz}
end
section
variable {X:Cx} {π:List (Addr×Obj)} {σ:St} {H:Hp} {s:Shared} {a:Addr} {y:V} {u:Value} {A:Around} {E:ydz}
end
inductive W where
 | non | bl (b:Bool) | int (i:Int) | str (x:Str) | ref (a:Addr) | tup (xs:List W) | scr (ns:List Int)
inductive GO where
 | lst (ws:List W)
 | dct
 | exc (C:Addr)
 | dic (kvs:List (aS×W))
 | fdc (o:Obj) (us:List (aS×V)) (kvs:List (aS×W))
 | ins (C:Addr) (fs:List (Str×W))
 | tbl (ps:Array Value)
 | any (P:Hp->Addr->Prop)
noncomputable abbrev Gp:=Addr->Option GO
noncomputable def aK (G:Gp) (a:Addr) (g:GO):Gp:=λb=>if b=a then some g else G b
theorem ah {G:Gp} {g:GO}:aK G a g a=some g:=by unfold aK;rw[ycx rfl]
theorem ap {G:Gp} {a b:Addr} {g:GO} (h:b≠a):aK G a g b=G b:=by unfold aK;rw[ybv h]
noncomputable def xN (K:yax) (H:Hp) (a:Addr) (ns:List Int):Prop:=
 (∃o,H a=some (.frz o (.lst (ns.map V.int))))∨
   ∃(o:Obj) (its:Array Value) (n:Nat),K.lookup a=some o/\o.cls=.type "list"/\o.dict=none/\o.data=.seq its n/\its.size<=sizeLine/\aW (ns.map V.int) its.toList
theorem xN.sq {H:Hp} {ns:List Int} (h:xN K H a ns):cZ K H a (ns.map V.int):=by
 rcases h with⟨o,h⟩ | h
 ·exact .inl (.inr ⟨o,h⟩)
 ·exact .inr h
structure aT (H H1:Hp):Prop where
 tup:∀a xs,H a=some (.tup xs)->H1 a=some (.tup xs)
 frz:∀a o xs,H a=some (.frz o (.lst xs))->H1 a=some (.frz o (.lst xs))
theorem aT.refl (H:Hp):aT H H:=⟨λ_ _ h=>h,λ_ _ _ h=>h⟩
theorem aT.trans {H H1 H2:Hp} (a:aT H H1) (b:aT H1 H2):aT H H2:=
 ⟨λx xs h=>b.tup x xs (a.tup x xs h),λx o u h=>b.frz x o u (a.frz x o u h)⟩
theorem aT.new {H:Hp} {p:Addr} (hp:H p=none) (o:HO):aT H (upd H p o):=
 ⟨λ_ _ h=>by rw[aJ (bg h hp)];exact h,λ_ _ _ h=>by rw[aJ (bg h hp)];exact h⟩
theorem aT.lst {H:Hp} {p:Addr} {xs:List V} (hp:H p=some (.lst xs)) (o:HO):aT H (upd H p o):=
 ⟨λ_ _ h=>by rw[aJ (fA h hp (by intro z;cases z))];exact h,λ_ _ _ h=>by rw[aJ (fA h hp (by intro z;cases z))];exact h⟩
mutual
inductive bN (K:yax) (H:Hp):W->V->Prop where
 | non:bN K H .non .non
 | bl (b:Bool):bN K H (.bl b) (.bl b)
 | int (i:Int):bN K H (.int i) (.int i)
 | str (x:Str):bN K H (.str x) (.str x)
 | ref (a:Addr):bN K H (.ref a) (.ref a)
 | tup {a:Addr} {ws:List W} {xs:List V} (h:H a=some (.tup xs)) (r:aV K H ws xs):bN K H (.tup ws) (.ref a)
 | scr {a:Addr} {ns:List Int} (h:xN K H a ns):bN K H (.scr ns) (.ref a)
inductive aV (K:yax) (H:Hp):List W->List V->Prop where
 | nil:aV K H [] []
 | cons {w:W} {v:V} {ws:List W} {vs:List V} (r:bN K H w v) (rs:aV K H ws vs):aV K H (w::ws) (v::vs)
end
section
variable {K:yax} {H H1:Hp}
theorem xN.mono {ns:List Int} (t:aT H H1) (h:xN K H a ns):xN K H1 a ns:=by
 rcases h with⟨o,h⟩ | h
 ·exact .inl ⟨o,t.frz _ _ _ h⟩
 ·exact .inr h
mutual
theorem bN.mono (t:aT H H1):∀{w:W} {v:V},bN K H w v->bN K H1 w v
 | _,_,.non=> .non
 | _,_,.bl b=> .bl b
 | _,_,.int i=> .int i
 | _,_,.str x=> .str x
 | _,_,.ref a=> .ref a
 | _,_,.tup h r=> .tup (t.tup _ _ h) (aV.mono t r)
 | _,_,.scr h=> .scr (h.mono t)
theorem aV.mono (t:aT H H1):∀{ws:List W} {vs:List V},aV K H ws vs->aV K H1 ws vs
 | _,_,.nil=> .nil
 | _,_,.cons r rs=> .cons (bN.mono t r) (aV.mono t rs)
end
theorem aV.length:∀{ws:List W} {vs:List V},aV K H ws vs->ws.length=vs.length
 | _,_,.nil=>rfl
 | _,_,.cons _ rs=>congrArg (·+1) rs.length
theorem aV.append:∀{ws us:List W} {vs xs:List V},aV K H ws vs->aV K H us xs->aV K H (ws++us) (vs++xs)
 | _,_,_,_,.nil,s=>s
 | _,_,_,_,.cons r rs,s=> .cons r (rs.append s)
theorem aV.take:∀{ws:List W} {vs:List V} (n:Nat),aV K H ws vs->aV K H (ws.take n) (vs.take n)
 | _,_,0,_=> .nil
 | _,_,_+1,.nil=> .nil
 | _,_,n+1,.cons r rs=> .cons r (rs.take n)
theorem aV.drop:∀{ws:List W} {vs:List V} (n:Nat),aV K H ws vs->aV K H (ws.drop n) (vs.drop n)
 | _,_,0,r=>r
 | _,_,_+1,.nil=> .nil
 | _,_,n+1,.cons _ rs=>rs.drop n
theorem aV.get:∀{ws:List W} {vs:List V} {i:Nat} {w:W},aV K H ws vs->ws[i]?=some w->∃v,vs[i]?=some v/\bN K H w v
 | _,_,_,_,.nil,e=>by simp at e
 | _,_,0,_,.cons r _,e=>by simp at e;subst e;exact⟨_,rfl,r⟩
 | _,_,i+1,w,.cons _ rs,e=>by
   obtain⟨v,h1,h2⟩:=aV.get (i:=i) (w:=w) rs (by simpa using e);exact⟨v,by simpa using h1,h2⟩
theorem aV.ints:∀ns:List Int,aV K H (ns.map W.int) (ns.map V.int)
 | []=> .nil
 | n::ns=> .cons (.int n) (aV.ints ns)
end
noncomputable abbrev DO:List Value:=[.type "ValueError",.type "Exception",.type "BaseException",.type "object"]
structure XC (K:yax) (C:Addr) (bm:ydw):Prop where
 obj:∀h:Heap,K.In h->∃N nm qn bs hdct sn sub ab col dd k0 k1 k2 k3 k5 mN,h.get? C=some (excClassObj nm qn C N bs bm hdct sn sub ab col dd k0 k1 k2 k3 k5 "ValueError.__new__")/\h.Ns N mN/\mN "__init__"=none/\OwnTail h DO bm
 mro:∀v,mroIn K C v=some ((Value.ref C::bm).contains v)
structure XQ (K:yax) (C:Addr):Prop where
 ga:findIn K (.ref C) "__getattribute__"=some (some (.builtin "BaseException.__getattribute__"))
 gx:findIn K (.ref C) "__getattr__"=some none
 gc:findIn K (.ref C) "__class__"=some (some (.builtin "object.__class__"))
structure XD (K:yax) (D:Addr):Prop where
 cls:∃cd,clsIn K D=some cd
 ty:typeIn K (.ref D)=some (.type "type")
 ins:instIn K (.ref D) (.type "type")=some true
structure XO (K:yax) (C:Addr):Prop where
 c:∃bm,XC K C bm
 q:XQ K C
 d:XD K C
noncomputable def xO (K:yax) (H:Hp) (a:Addr):GO->Prop
 | .lst ws=>ws.length<=100000/\∃xs,H a=some (.lst xs)/\aV K H ws xs
 | .dct=>H a=some (.dK [])
 | .exc C=>XO K C/\H a=some (.ext λh=>∃o,h.get? a=some o/\o.cls=.ref C)
 | .dic kvs=>kvs.length<=100000/\∃kvs',H a=some (.dK kvs')/\kvs'.map (·.1)=kvs.map (·.1)/\aV K H (kvs.map (·.2)) (kvs'.map (·.2))
 | .fdc o us kvs=>kvs.length<=100000/\H a=some (.frz o (.dK us))/\us.map (·.1)=kvs.map (·.1)/\aV K H (kvs.map (·.2)) (us.map (·.2))
 | .ins C fs=>fs.length<=100/\∃dx fs',H a=some (.ins C dx fs')/\fs'.map (·.1)=fs.map (·.1)/\aV K H (fs.map (·.2)) (fs'.map (·.2))
 | .tbl ps=>H a=some (.tbl ps)
 | .any P=>P H a/\(∃o,H a=some o)/\∀H1 H2:Hp,aT H1 H2->H2 a=H1 a->P H1 a->P H2 a
noncomputable def aO (K:yax) (H:Hp) (G:Gp):Prop:=∀a g,G a=some g->xO K H a g
section
variable {K:yax} {H H1:Hp} {G:Gp} {p a:Addr} {g:GO}
theorem xO.has (h:xO K H a g):∃o,H a=some o:=by
 cases g with
 | lst ws=>obtain⟨_,_,e,_⟩:=h;exact⟨_,e⟩
 | dct=>exact⟨_,h⟩
 | exc C=>exact⟨_,h.2⟩
 | dic kvs=>obtain⟨_,_,e,_⟩:=h;exact⟨_,e⟩
 | fdc o us kvs=>obtain⟨_,e,_⟩:=h;exact⟨_,e⟩
 | ins C fs=>obtain⟨_,_,_,e,_⟩:=h;exact⟨_,e⟩
 | tbl ps=>exact⟨_,h⟩
 | any P=>exact h.2.1
theorem xO.mono (t:aT H H1) (e:H1 a=H a) (h:xO K H a g):xO K H1 a g:=by
 cases g with
 | lst ws=>obtain⟨l,xs,e1,r⟩:=h;exact⟨l,xs,e.trans e1,r.mono t⟩
 | dct=>exact e.trans h
 | exc C=>exact⟨h.1,e.trans h.2⟩
 | dic kvs=>obtain⟨l,xs,e1,n,r⟩:=h;exact⟨l,xs,e.trans e1,n,r.mono t⟩
 | fdc o us kvs=>obtain⟨l,e1,n,r⟩:=h;exact⟨l,e.trans e1,n,r.mono t⟩
 | ins C fs=>obtain⟨l,dx,xs,e1,n,r⟩:=h;exact⟨l,dx,xs,e.trans e1,n,r.mono t⟩
 | tbl ps=>exact e.trans h
 | any P=>exact⟨h.2.2 _ _ t e h.1,(let ⟨o,e1⟩:=h.2.1;⟨o,e.trans e1⟩),h.2.2⟩
theorem aO.fresh (h:aO K H G) (hp:H p=none):G p=none:=by
 cases e:G p with
 | none=>rfl
 | some g=>
   obtain⟨o,e1⟩:=(h p _ e).has;rw[hp] at e1;cases e1
theorem aO.upd (h:aO K H G) (t:aT H (upd H p o)) (hG:G p=none):aO K (L2.upd H p o) G:=λa g e=>by
 have hne:a≠p:=λz=>by rw[z,hG] at e;cases e
 exact(h a g e).mono t (aJ hne)
theorem aO.keep (h:aO K H G) (hp:H p=none) (o:HO):aO K (L2.upd H p o) G:=h.upd (aT.new hp o) (h.fresh hp)
theorem aO.lay (h:aO K H G) {o:HO} (t:aT H (L2.upd H p o)) (n:xO K (L2.upd H p o) p g):aO K (L2.upd H p o) (aK G p g):=λa g' e=>by
 by_cases hb:a=p
 ·subst hb;rw[ah] at e;cases e;exact n
 ·rw[ap hb] at e;exact(h a g' e).mono t (aJ hb)
theorem aO.put (h:aO K H G) {xs:List V} {ws:List W} (t:aT H (L2.upd H p (.lst xs))) (r:aV K H ws xs) (hl:ws.length<=100000):aO K (L2.upd H p (.lst xs)) (aK G p (.lst ws)):=h.lay t ⟨hl,xs,bd,r.mono t⟩
noncomputable def aC (G0 G:Gp):Prop:=∀a g,G0 a=some g->G a=some g
theorem aO.le {G0:Gp} (h:aO K H G) (l:aC G0 G):aO K H G0:=λa g e=>h a g (l a g e)
theorem aC.refl (G:Gp):aC G G:=λ_ _ h=>h
theorem aC.trans {G0 G1 G2:Gp} (a:aC G0 G1) (b:aC G1 G2):aC G0 G2:=λx g h=>b x g (a x g h)
theorem aC.new {g:GO} (hp:G p=none):aC G (aK G p g):=λa u e=>by
 rw[ap (λz=>by rw[z,hp] at e;cases e)];exact e
end
noncomputable abbrev cT:=List (Option W)
noncomputable def bC (K:yax) (H:Hp) (τ:cT) (σ:St):Prop:=τ.length=σ.length/\∀(i:Nat) (w:W),τ[i]?=some (some w)->∃v,σ[i]?=some (some v)/\bN K H w v
section
variable {K:yax} {H H1:Hp} {τ:cT} {σ:St}
theorem bC.mono (t:aT H H1) (h:bC K H τ σ):bC K H1 τ σ:=⟨h.1,λi w e=>let ⟨v,e1,r⟩:=h.2 i w e;⟨v,e1,r.mono t⟩⟩
theorem bC.set (h:bC K H τ σ) {w:W} {v:V} (r:bN K H w v) (i:Nat):bC K H (τ.set i (some w)) (σ.set i (some v)):=by
 refine⟨by simpa using h.1,λj u e=>?_⟩
 by_cases hj:i=j
 ·subst hj
  by_cases hl:i<τ.length
  ·rw[List.getElem?_set_self hl] at e;cases e;exact⟨v,List.getElem?_set_self (by rw[←h.1];exact hl),r⟩
  ·rw[List.getElem?_eq_none (by simpa using hl)] at e;cases e
 ·rw[List.getElem?_set_ne hj] at e;obtain⟨u',e1,r1⟩:=h.2 j u e;exact⟨u',by rw[List.getElem?_set_ne hj];exact e1,r1⟩
theorem bC.start {N:List Str} {ws:List W} {vs:List V} (r:aV K H ws vs):bC K H (ws.map some++List.replicate (N.length-ws.length) none) (L2.start N vs):=by
 unfold L2.start;refine⟨by simp[r.length],λi w e=>?_⟩
 by_cases hi:i<ws.length
 ·rw[List.getElem?_append_left (by simpa using hi),List.getElem?_map] at e;cases e1:ws[i]? with
  | none=>rw[e1] at e;cases e
  | some u=>
    rw[e1] at e;cases e;obtain⟨v,e2,rv⟩:=r.get e1;refine⟨v,?_,rv⟩;rw[List.getElem?_append_left (by simpa[←r.length] using hi),List.getElem?_map,e2]
    rfl
 ·rw[List.getElem?_append_right (by simpa using hi),List.getElem?_replicate] at e;split at e<;> cases e
end
noncomputable abbrev WK:=W->Gp->Prop
noncomputable abbrev WE:=cT->Gp->WK->Prop
noncomputable abbrev WT:=cT->Gp->(Bool->Gp->Prop)->Prop
noncomputable abbrev WA:=cT->Gp->(List W->Gp->Prop)->Prop
structure dm where
 nx:cT->Gp->Prop
 rt:WK
 bk:cT->Gp->Prop:=λ_ _=>False
 ct:cT->Gp->Prop:=λ_ _=>False
noncomputable abbrev WS:=dm->cT->Gp->Prop
noncomputable abbrev WG:=W->cT->Gp->(cT->Gp->Prop)->Prop
noncomputable abbrev xP:=List W->cT->Gp->(cT->Gp->Prop)->Prop
noncomputable def jI (K:yax) (t:WE):TE:=λσ H Q=>∃τ G q,bC K H τ σ/\aO K H G/\t τ G q/\∀v H1 w G1,aT H H1->bN K H1 w v->aO K H1 G1->q w G1->Q v H1
noncomputable def y7 (K:yax) (t:WT):TT:=λσ H Q=>∃τ G q,bC K H τ σ/\aO K H G/\t τ G q/\∀b H1 G1,aT H H1->aO K H1 G1->q b G1->Q b H1
noncomputable def LA (K:yax) (t:WA):TA:=λσ H Q=>∃τ G q,bC K H τ σ/\aO K H G/\t τ G q/\∀vs H1 ws G1,aT H H1->aV K H1 ws vs->aO K H1 G1->q ws G1->Q vs H1
structure mo (K:yax) (H:Hp) (d:dm) (D:iC):Prop where
 nx:∀σ1 H1 τ1 G1,aT H H1->bC K H1 τ1 σ1->aO K H1 G1->d.nx τ1 G1->D.nx σ1 H1
 rt:∀v H1 w G1,aT H H1->bN K H1 w v->aO K H1 G1->d.rt w G1->D.rt v H1
 bk:∀σ1 H1 τ1 G1,aT H H1->bC K H1 τ1 σ1->aO K H1 G1->d.bk τ1 G1->D.bk σ1 H1
 ct:∀σ1 H1 τ1 G1,aT H H1->bC K H1 τ1 σ1->aO K H1 G1->d.ct τ1 G1->D.ct σ1 H1
noncomputable def LS (K:yax) (t:WS):TS:=λD σ H=>∃τ G d,bC K H τ σ/\aO K H G/\t d τ G/\mo K H d D
theorem jI.el {t:WE} {σ:St} {H:Hp} {Q:VK} {P:Prop} (h:jI K t σ H Q) (k:∀(τ:cT) (G:Gp) (q:WK),bC K H τ σ->aO K H G->t τ G q->(∀v H1 w G1,aT H H1->bN K H1 w v->aO K H1 G1->q w G1->Q v H1)->P):P:=by
 obtain⟨τ,G,q,a,b,c,d⟩:=h;exact k τ G q a b c d
theorem y7.el {t:WT} {σ:St} {H:Hp} {Q:Bool->Hp->Prop} {P:Prop} (h:y7 K t σ H Q) (k:∀(τ:cT) (G:Gp) (q:Bool->Gp->Prop),bC K H τ σ->aO K H G->t τ G q->(∀b H1 G1,aT H H1->aO K H1 G1->q b G1->Q b H1)->P):P:=by
 obtain⟨τ,G,q,a,b,c,d⟩:=h;exact k τ G q a b c d
theorem LA.el {t:WA} {σ:St} {H:Hp} {Q:List V->Hp->Prop} {P:Prop} (h:LA K t σ H Q) (k:∀(τ:cT) (G:Gp) (q:List W->Gp->Prop),bC K H τ σ->aO K H G->t τ G q->(∀vs H1 ws G1,aT H H1->aV K H1 ws vs->aO K H1 G1->q ws G1->Q vs H1)->P):P:=by
 obtain⟨τ,G,q,a,b,c,d⟩:=h;exact k τ G q a b c d
theorem LS.el {t:WS} {D:iC} {σ:St} {H:Hp} {P:Prop} (h:LS K t D σ H) (k:∀(τ:cT) (G:Gp) (d:dm),bC K H τ σ->aO K H G->t d τ G->mo K H d D->P):P:=by
 obtain⟨τ,G,q,a,b,c,d⟩:=h;exact k τ G q a b c d
noncomputable def LG (K:yax) (t:WG):TG:=λv σ H Q=>∃w τ G q,bN K H w v/\bC K H τ σ/\aO K H G/\t w τ G q/\∀σ1 H1 τ1 G1,aT H H1->bC K H1 τ1 σ1->aO K H1 G1->q τ1 G1->Q σ1 H1
noncomputable def FC (K:yax) (t:xP):vh:=λvs σ H Q=>∃ws τ G q,aV K H ws vs/\bC K H τ σ/\aO K H G/\t ws τ G q/\∀σ1 H1 τ1 G1,aT H H1->bC K H1 τ1 σ1->aO K H1 G1->q τ1 G1->Q σ1 H1
noncomputable def QE (X:Cx) (e:Expr) (t:WE):Prop:=PE X e (jI X.K t)
noncomputable def QT (X:Cx) (e:Expr) (t:WT):Prop:=PT X e (y7 X.K t)
noncomputable def QW (X:Cx) (e:Expr) (t:WT):Prop:=PW X e (y7 X.K t)
noncomputable def QA (X:Cx) (es:List Expr) (t:WA):Prop:=PA X es (LA X.K t)
noncomputable def QS (X:Cx) (st:Stmt) (t:WS):Prop:=PS X st (LS X.K t)
noncomputable def nG (X:Cx) (st:List Stmt) (t:WS):Prop:=lP X st (LS X.K t)
noncomputable def QG (X:Cx) (e:Expr) (t:WG):Prop:=PG X e (LG X.K t)
noncomputable def Bh (X:Cx) (es:List Expr) (t:xP):Prop:=xH X es (FC X.K t)
section
variable {X:Cx}
theorem PE.imp {t t':TE} (h:PE X e t) (f:∀σ H Q,t' σ H Q->t σ H Q):PE X e t':=λπ s σ H Q I q=>h π s σ H Q I (f _ _ _ q)
theorem PT.imp {t t':TT} (h:PT X e t) (f:∀σ H Q,t' σ H Q->t σ H Q):PT X e t':=λπ s σ H Q I q=>h π s σ H Q I (f _ _ _ q)
theorem PW.imp {t t':TT} (h:PW X e t) (f:∀σ H Q,t' σ H Q->t σ H Q):PW X e t':=λwh π s σ H Q I q=>h wh π s σ H Q I (f _ _ _ q)
theorem PA.imp {e:List Expr} {t t':TA} (h:PA X e t) (f:∀σ H Q,t' σ H Q->t σ H Q):PA X e t':=λpos π s σ H Q I q=>h pos π s σ H Q I (f _ _ _ q)
theorem PS.imp {e:Stmt} {t t':TS} (h:PS X e t) (f:∀D σ H,t' D σ H->t D σ H):PS X e t':=λπ s σ H D I q=>h π s σ H D I (f _ _ _ q)
theorem lP.imp {e:List Stmt} {t t':TS} (h:lP X e t) (f:∀D σ H,t' D σ H->t D σ H):lP X e t':=λπ s σ H D I q=>h π s σ H D I (f _ _ _ q)
theorem PG.imp {t t':TG} (h:PG X e t) (f:∀v σ H Q,t' v σ H Q->t v σ H Q):PG X e t':=λπ s σ H v u Q I r q=>h π s σ H v u Q I r (f _ _ _ _ q)
theorem xH.imp {e:List Expr} {t t':vh} (h:xH X e t) (f:∀v σ H Q,t' v σ H Q->t v σ H Q):xH X e t':=λπ s σ H v u Q I r q=>h π s σ H v u Q I r (f _ _ _ _ q)
noncomputable def cP (i:Nat):WE:=λτ G q=>match τ[i]? with | some (some w)=>q w G | _=>False
noncomputable def wC (w:W):WE:=λ_ G q=>q w G
theorem aa (i:Nat) (hN:X.N[i]?=some x:=by exact rfl) (hv:AG X.env.scope x:=by exact .inl rfl) (hd:(x==("__debug__":Str))=false:=by decide) (hcd:(x==("__classdict__":Str))=false:=by decide):QE X (.Name x pos) (cP i):=by
 refine(nH hN hv hd hcd).imp λσ H Q z0=>z0.el λτ G q hs hg ht hQ=>?_;unfold cP at ht;split at ht
 ·rename_i w e;obtain⟨v,e1,r⟩:=hs.2 i w e;exact⟨v,e1,hQ v H w G (aT.refl H) r hg ht⟩
 ·exact ht.elim
theorem iX {v:V} {w:W} (h:PE X e (tC v)) (r:∀H,bN X.K H w v):QE X e (wC w):=
 h.imp λσ H Q z0=>z0.el λτ G q hs hg ht hQ=>hQ v H w G (aT.refl H) (r H) hg ht
theorem af {i j pos}:QE X (.Constant (.int i) j pos) (wC (.int i)):=iX rL λ_=> .int i
theorem iY {j pos}:QE X (.Constant .none j pos) (wC .non):=iX yt λ_=> .non
theorem bq {x j pos}:QE X (.Constant (.str x) j pos) (wC (.str x)):=iX rM λ_=> .str x
noncomputable abbrev W2:=W->W->Gp->WK->Prop
noncomputable def LR (K:yax) (r:W2):R2:=λx y H Q=>∃wx wy G q,bN K H wx x/\bN K H wy y/\aO K H G/\r wx wy G q/\∀v H1 w G1,aT H H1->bN K H1 w v->aO K H1 G1->q w G1->Q v H1
noncomputable def gG (X:Cx) (f:Value->Value->Sem Value) (r:W2):Prop:=ik X f (LR X.K r)
noncomputable def y8 (X:Cx) (r:W2):Prop:=A9 X (LR X.K r)
noncomputable def fS (r:W2) (ta tb:WE):WE:=λτ G q=>ta τ G λx G1=>tb τ G1 λy G2=>r x y G2 q
theorem jI.op {r:W2} {ta tb:WE} {σ:St} {H:Hp} {Q:VK} (h:jI K (fS r ta tb) σ H Q):AV (LR K r) (jI K ta) (jI K tb) σ H Q:=by
 obtain⟨τ,G,q,hs,hg,ht,hQ⟩:=h;refine⟨τ,G,_,hs,hg,ht,λv H1 w G1 t1 r1 g1 q1=>?_⟩;refine⟨τ,G1,_,hs.mono t1,g1,q1,λv2 H2 w2 G2 t2 r2 g2 q2=>?_⟩;exact⟨w,w2,G2,q,r1.mono t2,r2,g2,q2,λv3 H3 w3 G3 t3 r3 g3 q3=>hQ v3 H3 w3 G3 ((t1.trans t2).trans t3) r3 g3 q3⟩
theorem aB {op:Operator} {r:W2} {a b:Expr} {ta tb:WE} (ho:gG X (binaryOp op) r) (ha:QE X a ta) (hb:QE X b tb):QE X (.BinOp a op b pos) (fS r ta tb):=
 (AW ho ha hb).imp λ_ _ _ h=>h.op
theorem nY {op:CmpOp} {r:W2} {a b:Expr} {ta tb:WE} (ho:gG X (compareOp op) r) (ha:QE X a ta) (hb:QE X b tb) (hm:behindInMarks op b=false:=by exact rT _):QE X (.Compare a [op] [b] pos) (fS r ta tb):=
 (vp ho ha hb hm).imp λ_ _ _ h=>h.op
theorem ax {r:W2} {a b:Expr} {ta tb:WE} (ho:y8 X r) (ha:QE X a ta) (hb:QE X b tb) (hs:pf b:=by exact λ_ _=>rfl):QE X (.Subscript a b pos) (fS r ta tb):=
 (Bb ho ha hb hs).imp λ_ _ _ h=>h.op
noncomputable def fT (t:WE):WT:=λτ G q=>t τ G λx G1=>match x with | .bl b=>q b G1 | _=>False
theorem y7.test {t:WE} {σ:St} {H:Hp} {Q:Bool->Hp->Prop} (h:y7 K (fT t) σ H Q):xJ (jI K t) σ H Q:=by
 obtain⟨τ,G,q,hs,hg,ht,hQ⟩:=h;refine⟨τ,G,_,hs,hg,ht,λv H1 w G1 t1 r1 g1 q1=>?_⟩;split at q1
 ·rename_i b;cases r1;exact⟨b,rfl,hQ b H1 G1 t1 g1 q1⟩
 ·exact q1.elim
theorem aE {op:CmpOp} {r:W2} {a b:Expr} {ta tb:WE} (ho:gG X (compareOp op) r) (ha:QE X a ta) (hb:QE X b tb) (hm:behindInMarks op b=false:=by exact rT _):QT X (.Compare a [op] [b] pos) (fT (fS r ta tb)):=
 (vq ho ha hb hm).imp λσ H Q h=>by
   obtain⟨τ,G,q,hs,hg,ht,hQ⟩:=h.test;exact jI.op ⟨τ,G,q,hs,hg,ht,hQ⟩
theorem nZ {t:WE} (h:QE X e t) (he:∀whole,isTrue e X.env whole=(do let v ←whole;standAt e.pos;holding [v] (truthy v)):=by intro _;rfl):QT X e (fT t):=
 (yu h he).imp λσ H Q h=>h.test
noncomputable def y9 (t u:WT):WT:=λτ G q=>t τ G λc G1=>if c=true then u τ G1 q else q false G1
noncomputable def Ff (t u:WT):WT:=λτ G q=>t τ G λc G1=>if c=true then q true G1 else u τ G1 q
noncomputable def Bi (t:WT):WT:=λτ G q=>t τ G λc G1=>q (!c) G1
theorem cC {a:Expr} {t:WT} (ha:QT X a t):QW X (.BoolOp .And [a] pos) t:=ve ha
theorem sx {a:Expr} {t:WT} (ha:QT X a t):QW X (.BoolOp .Or [a] pos) t:=yv ha
theorem dc {a b:Expr} {bX:List Expr} {t u:WT} (ha:QT X a t) (hb:QW X (.BoolOp .And (b::bX) pos) u):QW X (.BoolOp .And (a::b::bX) pos) (y9 t u):=
 (yw ha hb).imp λσ H Q z0=>z0.el λτ G q hs hg ht hQ=>⟨τ,G,_,hs,hg,ht,λc H1 G1 t1 g1 q1=>by
   cases c with
   | true=>rw[ycx rfl] at q1 ⊢;exact⟨τ,G1,q,hs.mono t1,g1,q1,λb H2 G2 t2 g2 q2=>hQ b H2 G2 (t1.trans t2) g2 q2⟩
   | false=>rw[ybv ycy] at q1 ⊢;exact hQ false H1 G1 t1 g1 q1⟩
theorem xQ {a b:Expr} {bX:List Expr} {t u:WT} (ha:QT X a t) (hb:QW X (.BoolOp .Or (b::bX) pos) u):QW X (.BoolOp .Or (a::b::bX) pos) (Ff t u):=
 (AM ha hb).imp λσ H Q z0=>z0.el λτ G q hs hg ht hQ=>⟨τ,G,_,hs,hg,ht,λc H1 G1 t1 g1 q1=>by
   cases c with
   | true=>rw[ycx rfl] at q1 ⊢;exact hQ true H1 G1 t1 g1 q1
   | false=>rw[ybv ycy] at q1 ⊢;exact⟨τ,G1,q,hs.mono t1,g1,q1,λb H2 G2 t2 g2 q2=>hQ b H2 G2 (t1.trans t2) g2 q2⟩⟩
theorem fU {t:WT} (h:QW X e t):QT X e t:=PW.pt h
theorem zc {a:Expr} {t:WT} (ha:QT X a t):QT X (.UnaryOp .Not a pos) (Bi t):=
 (yx ha).imp λσ H Q z0=>z0.el λτ G q hs hg ht hQ=>⟨τ,G,_,hs,hg,ht,λc H1 G1 t1 g1 q1=>hQ (!c) H1 G1 t1 g1 q1⟩
noncomputable def xR (ta tb:WE):WE:=λτ G q=>ta τ G λx G1=>match x with | .bl c=>if c=true then tb τ G1 q else q (.bl false) G1 | _=>False
noncomputable def xS (ta:WE):WE:=λτ G q=>ta τ G λx G1=>match x with | .bl c=>q (.bl (!c)) G1 | _=>False
theorem sy {a:Expr} {op} {t:WE} (h:QE X a t):QE X (.BoolOp op [a] pos) t:=yy h
theorem n5 {a b:Expr} {bX:List Expr} {ta tb:WE} (ha:QE X a ta) (hb:QE X (.BoolOp .And (b::bX) pos) tb):QE X (.BoolOp .And (a::b::bX) pos) (xR ta tb):=
 (yz ha hb).imp λσ H Q z0=>z0.el λτ G q hs hg ht hQ=>⟨τ,G,_,hs,hg,ht,λv H1 w G1 t1 r1 g1 q1=>by
   split at q1
   ·rename_i c;cases r1;refine⟨c,rfl,?_⟩;cases c with
    | true=>rw[ycx rfl] at q1 ⊢;exact⟨τ,G1,q,hs.mono t1,g1,q1,λv2 H2 w2 G2 t2 r2 g2 q2=>hQ v2 H2 w2 G2 (t1.trans t2) r2 g2 q2⟩
    | false=>rw[ybv ycy] at q1 ⊢;exact hQ _ H1 _ G1 t1 (.bl false) g1 q1
   ·exact q1.elim⟩
theorem zd {a:Expr} {ta:WE} (ha:QE X a ta):QE X (.UnaryOp .Not a pos) (xS ta):=
 (yA ha).imp λσ H Q z0=>z0.el λτ G q hs hg ht hQ=>⟨τ,G,_,hs,hg,ht,λv H1 w G1 t1 r1 g1 q1=>by
   split at q1
   ·rename_i c;cases r1;exact⟨c,rfl,hQ _ H1 _ G1 t1 (.bl _) g1 q1⟩
   ·exact q1.elim⟩
noncomputable def Bj (c:WT) (ta tb:WE):WE:=λτ G q=>c τ G λb G1=>if b=true then ta τ G1 q else tb τ G1 q
theorem iZ {c a b:Expr} {tc:WT} {ta tb:WE} (hc:QT X c tc) (ha:QE X a ta) (hb:QE X b tb):QE X (.IfExp c a b pos) (Bj tc ta tb):=
 (rN hc ha hb).imp λσ H Q z0=>z0.el λτ G q hs hg ht hQ=>⟨τ,G,_,hs,hg,ht,λc H1 G1 t1 g1 q1=>by
   cases c with
   | true=>rw[ycx rfl] at q1 ⊢;exact⟨τ,G1,q,hs.mono t1,g1,q1,λv2 H2 w2 G2 t2 r2 g2 q2=>hQ v2 H2 w2 G2 (t1.trans t2) r2 g2 q2⟩
   | false=>rw[ybv ycy] at q1 ⊢;exact⟨τ,G1,q,hs.mono t1,g1,q1,λv2 H2 w2 G2 t2 r2 g2 q2=>hQ v2 H2 w2 G2 (t1.trans t2) r2 g2 q2⟩⟩
noncomputable def kO:WA:=λ_ G q=>q [] G
noncomputable def pw (ta:WE) (tr:WA):WA:=λτ G q=>ta τ G λx G1=>tr τ G1 λxs G2=>q (x::xs) G2
theorem ag:QA X [] kO:=pa_nil.imp λσ H Q z0=>z0.el λτ G q hs hg ht hQ=>hQ [] H [] G (aT.refl H) .nil hg ht
theorem ac {te:WE} {t:WA} (ha:QE X e te) (hr:QA X es t) (hs:starEach (e::es) X.env=(false,eval e X.env)::starEach es X.env:=by rfl):QA X (e::es) (pw te t):=
 (cM ha hr hs).imp λσ H Q z0=>z0.el λτ G q hs hg ht hQ=>⟨τ,G,_,hs,hg,ht,λv H1 w G1 t1 r1 g1 q1=>
   ⟨τ,G1,_,hs.mono t1,g1,q1,λvs H2 ws G2 t2 r2 g2 q2=>hQ (v::vs) H2 (w::ws) G2 (t1.trans t2) (.cons (r1.mono t2) r2) g2 q2⟩⟩
theorem bR {n:Nat} (h:n<=100000):n<=sizeLine:=by rw[sizeLine_eq];lia
noncomputable def Bk (t:WA):WE:=λτ G q=>t τ G λws G1=>ws.length<=100000/\q (.tup ws) G1
noncomputable def Bl (t:WA):WE:=λτ G q=>t τ G λws G1=>ws.length<=100000/\∀p,G1 p=none->q (.ref p) (aK G1 p (.lst ws))
theorem aP {x1} {t:WA} (h:QA X es t):QE X (.Tuple es x1 pos) (Bk t):=
 (yP h).imp λσ H Q z0=>z0.el λτ G q hs hg ht hQ=>⟨τ,G,_,hs,hg,ht,λvs H1 ws G1 t1 r1 g1 q1=>
   ⟨by rw[←r1.length];exact bR q1.1,λp hp=>hQ _ _ _ G1 (t1.trans (aT.new hp _)) (.tup bd (r1.mono (aT.new hp _))) (g1.keep hp _) q1.2⟩⟩
theorem bA {t:WA} (h:QA X es t):QE X (.List es pos) (Bl t):=
 (yQ h).imp λσ H Q z0=>z0.el λτ G q hs hg ht hQ=>⟨τ,G,_,hs,hg,ht,λvs H1 ws G1 t1 r1 g1 q1=>
   ⟨by rw[←r1.length];exact bR q1.1,λp hp=>hQ _ _ _ _ (t1.trans (aT.new hp _)) (.ref p) (g1.put (aT.new hp _) r1 q1.1) (q1.2 p (g1.fresh hp))⟩⟩
noncomputable def px:WS:=λd τ G=>d.nx τ G
noncomputable def sA (t u:WS):WS:=λd τ G=>t { d with nx:=u d } τ G
theorem mo.mono {H H1:Hp} {d:dm} {D:iC} (l:mo K H d D) (t:aT H H1):mo K H1 d D:=
 ⟨λσ2 H2 τ2 G2 t2=>l.nx σ2 H2 τ2 G2 (t.trans t2),λv H2 w G2 t2=>l.rt v H2 w G2 (t.trans t2),λσ2 H2 τ2 G2 t2=>l.bk σ2 H2 τ2 G2 (t.trans t2),λσ2 H2 τ2 G2 t2=>l.ct σ2 H2 τ2 G2 (t.trans t2)⟩
theorem ak:nG X [] px:=pss_nil.imp λD σ H z0=>z0.el λτ G d hs hg ht l=>l.nx σ H τ G (aT.refl H) hs hg ht
theorem ae {bX:List Stmt} {t u:WS} (h1:QS X st t) (h2:nG X bX u):nG X (st::bX) (sA t u):=
 (rO h1 h2).imp λD σ H z0=>z0.el λτ G d hs hg ht l=>⟨τ,G,_,hs,hg,ht,⟨λσ1 H1 τ1 G1 t1 s1 g1 q1=>⟨τ1,G1,d,s1,g1,q1,l.mono t1⟩,l.rt,l.bk,l.ct⟩⟩
theorem eu {t:WS} (h1:QS X st t):nG X [st] t:=vf h1
noncomputable def xT (te:WE):WS:=λd τ G=>te τ G λ_ G1=>d.nx τ G1
theorem cE {te:WE} (he:QE X e te) (hs:swapsWith e none pos.line X.env=pure false:=by rfl):QS X (.Expr e pos) (xT te):=
 (vg he hs).imp λD σ H z0=>z0.el λτ G d hs hg ht l=>⟨τ,G,_,hs,hg,ht,λv H1 w G1 t1 r1 g1 q1=>l.nx σ H1 τ G1 t1 (hs.mono t1) g1 q1⟩
noncomputable def Bm (te:WE):WS:=λd τ G=>te τ G d.rt
theorem aA {te:WE} (he:QE X e te):QS X (.Return (some e) pos) (Bm te):=
 (yB he).imp λD σ H z0=>z0.el λτ G d hs hg ht l=>⟨τ,G,_,hs,hg,ht,λv H1 w G1 t1 r1 g1 q1=>l.rt v H1 w G1 t1 r1 g1 q1⟩
noncomputable def ze (c:WT) (t u:WS):WS:=λd τ G=>c τ G λb G1=>if b=true then t d τ G1 else u d τ G1
theorem aZ {c:Expr} {a b:List Stmt} {tc:WT} {t u:WS} (hc:QT X c tc) (ha:nG X a t) (hb:nG X b u):QS X (.If c a b pos) (ze tc t u):=
 (AS hc ha hb).imp λD σ H z0=>z0.el λτ G d hs hg ht l=>⟨τ,G,_,hs,hg,ht,λc H1 G1 t1 g1 q1=>by
   cases c with
   | true=>rw[ycx rfl] at q1 ⊢;exact⟨τ,G1,d,hs.mono t1,g1,q1,l.mono t1⟩
   | false=>rw[ybv ycy] at q1 ⊢;exact⟨τ,G1,d,hs.mono t1,g1,q1,l.mono t1⟩⟩
noncomputable def cV (i:Nat):WG:=λw τ G q=>q (τ.set i (some w)) G
theorem ci (i:Nat) (hN:X.N.Nodup) (hi:X.N[i]?=some x) (hx:vc X.env.scope x) (hf:X.fn x=true∨X.env.scope.names.lookup x=some .local:=by first | exact .inl rfl | exact .inr rfl | assumption):QG X (.Name x pos) (cV i):=
 (vi hN hi hx hf).imp λv σ H Q ⟨w,τ,G,q,r,hs,hg,ht,hQ⟩=>hQ _ H _ G (aT.refl H) (hs.set r i) hg ht
noncomputable def qI:xP:=λws τ G q=>match ws with | []=>q τ G | _=>False
noncomputable def i9 (t:WG) (u:xP):xP:=λws τ G q=>match ws with | w::r=>t w τ G λτ1 G1=>u r τ1 G1 q | []=>False
theorem fV:Bh X [] qI:=pgs_nil.imp λvs σ H Q ⟨ws,τ,G,q,r,hs,hg,ht,hQ⟩=>by
 unfold qI at ht;cases r with
 | nil=>exact⟨rfl,hQ σ H τ G (aT.refl H) hs hg ht⟩
 | cons _ _=>exact ht.elim
theorem cB {t:WG} {u:xP} (h1:QG X e t) (h2:Bh X es u)
 (hs:(assignEach (e::es) X.env).map (·.2)=assign e X.env::(assignEach es X.env).map (·.2):=by rfl):Bh X (e::es) (i9 t u):=
 (rP h1 h2 hs).imp λvs σ H Q ⟨ws,τ,G,q,r,hs,hg,ht,hQ⟩=>by
   unfold i9 at ht;cases r with
   | nil=>exact ht.elim
   | cons r rs=>
     exact⟨_,_,rfl,_,τ,G,_,r,hs,hg,ht,λσ1 H1 τ1 G1 t1 s1 g1 q1=>⟨_,τ1,G1,q,rs.mono t1,s1,g1,q1,λσ2 H2 τ2 G2 t2=>hQ σ2 H2 τ2 G2 (t1.trans t2)⟩⟩
noncomputable def qJ (n:Nat) (t:xP):WG:=λw τ G q=>match w with | .tup ws=>ws.length=n/\t ws τ G q | _=>False
theorem ja {t:xP} (hc:X.calm=true) (h:Bh X es t)
 (hn:(assignEach es X.env).length=es.length:=by rfl) (hst:(assignEach es X.env).findIdx? (·.1)=none:=by rfl):QG X (.Tuple es k pos) (qJ es.length t):=
 (yC hc h hn hst).imp λv σ H Q ⟨w,τ,G,q,r,hs,hg,ht,hQ⟩=>by
   unfold qJ at ht;cases r with
   | tup h r=>exact⟨_,_,rfl,cU.of h,by rw[←r.length];exact ht.1,_,τ,G,q,r,hs,hg,ht.2,hQ⟩
   | _=>exact ht.elim
noncomputable def vE (te:WE) (g:WG):WS:=λd τ G=>te τ G λx G1=>g x τ G1 d.nx
theorem aG (i:Nat) {te:WE} {pos' pos:Pos} (hN:X.N.Nodup) (hi:X.N[i]?=some x) (hx:vc X.env.scope x) (he:QE X e te) (hs:swapsWith e (some (.Name x pos')) pos.line X.env=pure false:=by rfl) (hf:X.fn x=true∨X.env.scope.names.lookup x=some .local:=by first | exact .inl rfl | exact .inr rfl | assumption):
 QS X (.Assign [.Name x pos'] e pos) (vE te (cV i)):=
 (yD hN hi hx he hs hf).imp λD σ H z0=>z0.el λτ G d hs hg ht l=>
   ⟨τ,G,_,hs,hg,ht,λv H1 w G1 t1 r1 g1 q1=>l.nx _ H1 _ G1 t1 ((hs.mono t1).set r1 i) g1 q1⟩
noncomputable def sB (c:WT) (tb:WS):WS:=λd τ G=>∃I:Nat->cT->Gp->Prop,(∃m,I m τ G)/\∀m τ G,I m τ G->
 c τ G λb G1=>if b=true then ∃N:cT->Gp->Prop,(∀τ1 G1,N τ1 G1->∃m1,m1<m/\I m1 τ1 G1)/\tb { d with nx:=N,ct:=N,bk:=d.nx } τ G1 else d.nx τ G1
theorem fW {c:Expr} {tc:WT} {tb:WS} (hp:PassesOwn (model X.prog X.w) X.A X.env X.xe) (hc:QT X c tc) (hb:nG X body tb):QS X (.While c body [] pos) (sB tc tb):=
 (rQ hp hc hb).imp λD σ H ⟨τ,G,d,hs,hg,⟨I,⟨m,i0⟩,turn⟩,l⟩=>by
   refine⟨λm σ1 H1=>∃τ1 G1,aT H H1/\bC X.K H1 τ1 σ1/\aO X.K H1 G1/\I m τ1 G1,⟨m,τ,G,aT.refl H,hs,hg,i0⟩,?_⟩;rintro m1 σ1 H1 ⟨τ1,G1,t1,s1,g1,i1⟩;refine⟨τ1,G1,_,s1,g1,turn m1 τ1 G1 i1,λb H2 G2 t2 g2 q2=>?_⟩;cases b with
   | true=>
     rw[ycx rfl] at q2 ⊢;obtain⟨N,hN,q2⟩:=q2;refine⟨λσ3 H3=>∃τ3 G3,aT H H3/\bC X.K H3 τ3 σ3/\aO X.K H3 G3/\N τ3 G3,?_,τ1,G2,_,s1.mono t2,g2,q2,?_⟩
     ·rintro σ3 H3 ⟨τ3,G3,t3,s3,g3,n3⟩;obtain⟨m3,hm,i3⟩:=hN τ3 G3 n3;exact⟨m3,hm,τ3,G3,t3,s3,g3,i3⟩
     ·have tt:=t1.trans t2;exact⟨λσ3 H3 τ3 G3 t3 s3 g3 q3=>⟨τ3,G3,tt.trans t3,s3,g3,q3⟩,λv H3 w G3 t3=>l.rt v H3 w G3 (tt.trans t3),λσ3 H3 τ3 G3 t3=>l.nx σ3 H3 τ3 G3 (tt.trans t3),λσ3 H3 τ3 G3 t3 s3 g3 q3=>⟨τ3,G3,tt.trans t3,s3,g3,q3⟩⟩
   | false=>
     rw[ybv ycy] at q2 ⊢;exact l.nx σ1 H2 τ1 G2 (t1.trans t2) (s1.mono t2) g2 q2
end
section
variable {X:Cx}
noncomputable abbrev WX:=Value->Gp->Prop
noncomputable abbrev bV:=List W->Gp->WK->WX->Prop
noncomputable def vF (K:yax) (sp:bV):Sp:=λvs H Q E=>∃ws G q e,aV K H ws vs/\aO K H G/\sp ws G q e/\(∀v H1 w G1,aT H H1->bN K H1 w v->aO K H1 G1->q w G1->Q v H1)/\
 ∀c d H1 G1,aT H H1->aO K H1 G1->e c G1->E c d H1
noncomputable abbrev cc (P:Program) (w:World) (K:yax) (mg:ydv) (base:Heap) (k:Nat) (f:Addr) (fd:FuncData) (ps:List Str) (sp:bV):Prop:=dJ P w K mg base sr k f fd ps (vF K sp)
noncomputable def fX (sp:bV) (dws:List W) (t:WA):WE:=λτ G q=>t τ G λws G1=>sp (ws++dws) G1 q λ_ _=>False
theorem jI.call {sp:bV} {dws:List W} {dvs:List V} {t:WA} {σ:St} {H:Hp} {Q:VK} {E:XK} (hd:∀H,aV K H dws dvs) (h:jI K (fX sp dws t) σ H Q):rY (vF K sp) dvs E (LA K t) σ H Q:=by
 obtain⟨τ,G,q,hs,hg,ht,hQ⟩:=h;exact⟨τ,G,_,hs,hg,ht,λvs H1 ws G1 t1 r1 g1 q1=>⟨ws++dws,G1,q,_,r1.append (hd H1),g1,q1,λv H2 w G2 t2=>hQ v H2 w G2 (t1.trans t2),λ_ _ _ _ _ _ z=>z.elim⟩⟩
theorem vG {f:Addr} {sp:bV} {p pos:Pos} {t:WA} (F:cc X.prog X.w X.K X.mg X.base k f fd ps sp) (hr:av k X.A) (hg:Gl X x) (hm:X.mg x=some (.ref f))
 (hk:keepIn X.K (.ref f)=true) (hb:bP X.K fd ps []) (ha:QA X (e::es) t) (hdb:(x==("__debug__":Str))=false:=by decide)
 (he:starEach (e::es) X.env=(false,eval e X.env)::starEach es X.env:=by rfl) (hpl:(backTo pos (starEach es X.env)).any (·.1)=false:=by rfl):QE X (.Call (.Name x p) (e::es) [] pos) (fX sp [] t):=
 (o6 F hr hg hm hk hb .nil jX ha hdb he hpl).imp λ_ _ _ h=>h.call λ_=> .nil
theorem sC {f:Addr} {sp:bV} {p pos:Pos} (F:cc X.prog X.w X.K X.mg X.base k f fd ps sp) (hr:av k X.A) (hg:Gl X x) (hm:X.mg x=some (.ref f))
 (hk:keepIn X.K (.ref f)=true) (hb:bP X.K fd ps []) (hdb:(x==("__debug__":Str))=false:=by decide):QE X (.Call (.Name x p) [] [] pos) (fX sp [] kO):=
 (r6 F hr hg hm hk hb .nil jX hdb).imp λ_ _ _ h=>by
   obtain⟨τ,G,q,hs,hg,ht,hQ⟩:=h;exact⟨[],G,q,_,.nil,hg,ht,hQ,λ_ _ _ _ _ _ z=>z.elim⟩
noncomputable def gP (N:List Str) (ws:List W):cT:=ws.map some++List.replicate (N.length-ws.length) none
theorem cc.none {f:Addr} {sp:bV} (h:∀ws G q e,¬sp ws G q e):cc P w K mg base k f fd ps sp:=
 ⟨λ_ _ _ _ ⟨_,_,_,_,_,_,z,_⟩=>absurd z (h _ _ _ _),λ_ _ _ _ _ _ _ _ _ _ _ _ _ ⟨_,_,_,_,_,_,z,_⟩=>absurd z (h _ _ _ _)⟩
theorem cc.imp {f:Addr} {sp sp':bV} (F:cc P w K mg base k f fd ps sp) (h:∀ws G q e,sp' ws G q e->sp ws G q e):cc P w K mg base k f fd ps sp':=
 dJ.imp F λ_ _ _ _ ⟨ws,G,q,e,r,g,z,a,b⟩=>⟨ws,G,q,e,r,g,h _ _ _ _ z,a,b⟩
theorem Bn {x qual:Str} {f:Addr} {N ps:List Str} {sp:bV} (F:cz K x qual st f fd) (S:bW N ps (am st)) (len:∀ws G q e,sp ws G q e->ws.length=ps.length)
 (hbody:∀(cdv:Value) (A:Around) (outer:List Env) (s:Shared) (H:Hp) (E:XK),av k (A.deeper (envOfC qual (am st) s.heap.objs.size f cdv))->
   ∃t,nG (dC sr P w K mg base N qual (am st) f cdv A outer s H E).nox (au st) t/\
    ∀(ws:List W) (G:Gp) (q:WK) (e:WX),sp ws G q e->t { nx:=λ_ G1=>∃G0,aC G0 G1/\q .non G0,rt:=λw G1=>∃G0,aC G0 G1/\q w G0 } (gP N ws) G):cc P w K mg base (k+1) f fd ps sp:=by
 refine F.ok S (λvs H Q E ⟨ws,G,q,e,r,g,z,_⟩=>by rw[←r.length];exact len _ _ _ _ z) (λcdv A outer s H vs Q E hr ⟨ws,G,q,e,r,g,z,hQ,_⟩=>?_);obtain⟨t,ht,hq⟩:=hbody cdv A outer s H E hr;exact⟨_,ht,_,G,_,bC.start r,g,hq ws G q e z,⟨λσ1 H1 τ1 G1 t1 s1 g1 ⟨G0,l,q1⟩=>hQ .non H1 .non G0 t1 .non (g1.le l) q1,λv H1 w G1 t1 r1 g1 ⟨G0,l,q1⟩=>hQ v H1 w G0 t1 r1 (g1.le l) q1,λ_ _ _ _ _ _ _ z=>z.elim,λ_ _ _ _ _ _ _ z=>z.elim⟩⟩
noncomputable def xU (K:yax) (r:List W->Gp->WK->Prop):List V->Hp->VK->Prop:=λvs H Q=>∃ws G q,aV K H ws vs/\aO K H G/\r ws G q/\∀v H1 w G1,aT H H1->bN K H1 w v->aO K H1 G1->q w G1->Q v H1
noncomputable def eR (X:Cx) (f:Value) (r:List W->Gp->WK->Prop):Prop:=fQ X f (xU X.K r)
noncomputable def CV (r:List W->Gp->WK->Prop) (t:WA):WE:=λτ G q=>t τ G λws G1=>r ws G1 q
theorem jI.cb {r:List W->Gp->WK->Prop} {t:WA} {σ:St} {H:Hp} {Q:VK} (h:jI K (CV r t) σ H Q):DE (xU K r) (LA K t) σ H Q:=by
 obtain⟨τ,G,q,hs,hg,ht,hQ⟩:=h;exact⟨τ,G,_,hs,hg,ht,λvs H1 ws G1 t1 r1 g1 q1=>⟨ws,G1,q,r1,g1,q1,λv H2 w G2 t2=>hQ v H2 w G2 (t1.trans t2)⟩⟩
theorem bY {id:String} {r:List W->Gp->WK->Prop} {p pos:Pos} {t:WA} (hc:eR X (.builtin id) r) (hg:Gl X x) (hm:X.mg x=none) (hv:bootBuiltins x=some (.builtin id)) (ha:QA X (e::es) t)
 (hn:x≠"__name__":=by decide) (hdb:(x==("__debug__":Str))=false:=by decide)
 (he:starEach (e::es) X.env=(false,eval e X.env)::starEach es X.env:=by rfl) (hpl:(backTo pos (starEach es X.env)).any (·.1)=false:=by rfl):QE X (.Call (.Name x p) (e::es) [] pos) (CV r t):=
 (lX hc hg hm hv ha hn hdb he hpl).imp λ_ _ _ h=>h.cb
theorem bL {T:String} {r:List W->Gp->WK->Prop} {p pos:Pos} {t:WA} (hc:eR X (.type T) r) (hg:Gl X x) (hm:X.mg x=none) (hv:bootBuiltins x=some (.type T)) (ha:QA X (e::es) t)
 (hn:x≠"__name__":=by decide) (hdb:(x==("__debug__":Str))=false:=by decide)
 (he:starEach (e::es) X.env=(false,eval e X.env)::starEach es X.env:=by rfl) (hpl:(backTo pos (starEach es X.env)).any (·.1)=false:=by rfl):QE X (.Call (.Name x p) (e::es) [] pos) (CV r t):=
 (qF hc hg hm hv ha hn hdb he hpl).imp λ_ _ _ h=>h.cb
theorem aV.one {H:Hp} {w:W} {vs:List V} (r:aV K H [w] vs):∃v,vs=[v]/\bN K H w v:=by
 cases r with
 | cons r rs=>cases rs;exact⟨_,rfl,r⟩
theorem aV.two {H:Hp} {w u:W} {vs:List V} (r:aV K H [w,u] vs):∃v x,vs=[v,x]/\bN K H w v/\bN K H u x:=by
 cases r with
 | cons r rs=>
   obtain⟨x,rfl,r2⟩:=rs.one;exact⟨_,_,rfl,r,r2⟩
noncomputable def Bo:List W->Gp->WK->Prop:=λws G q=>match ws with
 | [.tup xs]=>q (.int xs.length) G
 | [.scr ns]=>q (.int ns.length) G
 | [.ref a]=>∃xs,G a=some (.lst xs)/\q (.int xs.length) G
 | _=>False
theorem xV:eR X (.builtin "len") Bo:=by
 rintro π s σ H xs us Q I r ⟨ws,G,q,rw',g,h,hQ⟩;cases rw' with
 | nil=>exact False.elim h
 | cons r1 rr'=>
   cases rr' with
   | cons _ _=>cases r1<;> exact False.elim h
   | nil=>
     cases r1 with
     | tup hh rr=>exact et π s σ H _ us Q I r ⟨_,_,rfl,.inr (cU.of hh),hQ _ H _ G (aT.refl H) (by rw[rr.length];exact .int _) g h⟩
     | scr hh=>exact et π s σ H _ us Q I r ⟨_,_,rfl,.inl hh.sq,hQ _ H _ G (aT.refl H) (by rw[length_map];exact .int _) g h⟩
     | ref a=>
       obtain⟨ys,e,h⟩:=h;obtain⟨_,zs,e1,rr⟩:=g a _ e;exact et π s σ H _ us Q I r ⟨_,_,rfl,.inl (cZ.of e1),hQ _ H _ G (aT.refl H) (by rw[rr.length];exact .int _) g h⟩
     | _=>exact False.elim h
noncomputable def sE:List W->Gp->WK->Prop:=λws G q=>match ws with
 | [.tup xs]=>q (.tup xs) G
 | [.ref a]=>∃xs,G a=some (.lst xs)/\q (.tup xs) G
 | _=>False
theorem ez:eR X (.type "tuple") sE:=by
 rintro π s σ H xs us Q I r ⟨ws,G,q,rw',g,h,hQ⟩;cases rw' with
 | nil=>exact False.elim h
 | cons r1 rr'=>
   cases rr' with
   | cons _ _=>cases r1<;> exact False.elim h
   | nil=>
     cases r1 with
     | tup hh rr=>exact fB π s σ H _ us Q I r ⟨_,_,rfl,.inr ⟨cU.of hh,hQ _ H _ G (aT.refl H) (.tup hh rr) g h⟩⟩
     | ref a=>
       obtain⟨ys,e,h⟩:=h;obtain⟨_,zs,e1,rr⟩:=g a _ e;exact fB π s σ H _ us Q I r ⟨_,_,rfl,.inl ⟨cZ.of e1,λl hl=>hQ _ _ _ G (aT.new hl _) (.tup bd (rr.mono (aT.new hl _))) (g.keep hl _) h⟩⟩
     | _=>exact False.elim h
noncomputable def pz:List W->Gp->WK->Prop:=λws G q=>match ws with
 | [.tup xs]=>xs.length<=100000/\∀p,G p=none->q (.ref p) (aK G p (.lst xs))
 | [.ref a]=>∃xs,G a=some (.lst xs)/\∀p,G p=none->q (.ref p) (aK G p (.lst xs))
 | _=>False
theorem sF:eR X (.type "list") pz:=by
 rintro π s σ H xs us Q I r ⟨ws,G,q,rw',g,h,hQ⟩;unfold pz at h;split at h
 ·rename_i ys;obtain⟨v,rfl,r1⟩:=rw'.one;cases r1 with
  | tup hh rr=>exact fR π s σ H _ us Q I r ⟨_,_,rfl,.inr (cU.of hh),λl hl=>hQ _ _ _ _ (aT.new hl _) (.ref l) (g.put (aT.new hl _) rr h.1) (h.2 l (g.fresh hl))⟩
 ·rename_i a;obtain⟨ys,e,h⟩:=h;obtain⟨v,rfl,r1⟩:=rw'.one;cases r1;obtain⟨hl,zs,e1,rr⟩:=g a _ e;exact fR π s σ H _ us Q I r ⟨_,_,rfl,.inl (cZ.of e1),λl hl'=>hQ _ _ _ _ (aT.new hl' _) (.ref l) (g.put (aT.new hl' _) rr hl) (h l (g.fresh hl'))⟩
 ·exact h.elim
noncomputable def Bp:W2:=λx y G q=>match x,y with
 | .int i,.int j=>q (.int (i+j)) G
 | .tup xs,.tup ys=>xs.length+ys.length<=100000/\q (.tup (xs++ys)) G
 | .ref a,.ref b=>∃xs ys,G a=some (.lst xs)/\G b=some (.lst ys)/\xs.length+ys.length<=100000/\∀p,G p=none->q (.ref p) (aK G p (.lst (xs++ys)))
 | _,_=>False
theorem DQ {σ:St} {H:Hp} {a b:Addr} {ys:List V} {Q:VK} (I:aI X π σ H s) (ha:H a=some (.tup [])) (hb:H b=some (.tup ys)) (q:Q (.ref b) H):wpAny (model X.prog X.w) X.A (binaryOp .Add (.ref a) (.ref b)) (EP X π σ Q) X.xe s:=by
 obtain⟨its,r1,p1,_⟩:=I.tuple (cU.of ha);obtain⟨its2,r2,p2,_⟩:=I.tuple (cU.of hb);cases r1;obtain⟨⟨cls,dd,data,sl⟩,ho,hc,n,hd⟩:=id p1;obtain⟨⟨cls2,dd2,data2,sl2⟩,ho2,hc2,n2,hd2⟩:=id p2;simp only at hc hd hc2 hd2;subst hc hd hc2 hd2;exact concat_meets ⟨_,ho,rfl⟩ ⟨_,ho2,rfl⟩ noFill_tuple_add seq_tuple_add PySem.F.slot_tuple_add PySem.F.entry_tuple_add (PySem.F.args_tuple_add_2 _ _)
  (tuple_addW0 a b #[] its2.toArray n n2 dd dd2 sl sl2 rfl) ⟨ho,ho2,⟨.ref b,H,I,rfl,q⟩⟩
theorem Bq:gG X (binaryOp .Add) Bp:=by
 rintro π s σ H x y v u Q I rx ry ⟨wx,wy,G,q,r1,r2,g,h,hQ⟩;cases r1 with
 | int i=>
   cases r2 with
   | int j=>exact yI π s σ H _ _ v u Q I rx ry ⟨_,_,rfl,rfl,hQ _ H _ G (aT.refl H) (.int _) g h⟩
   | _=>exact False.elim h
 | @tup a ws xs ha ra=>
   cases r2 with
   | @tup b us ys hb rb=>
     cases xs with
     | nil=>
       cases ra;cases rx;cases ry;exact DQ I ha hb (hQ _ H _ G (aT.refl H) (.tup hb rb) g h.2)
     | cons x0 xr=>
       refine vB π s σ H _ _ v u Q I rx ry ⟨a,b,_,_,rfl,rfl,cU.of ha,cU.of hb,by simp,by rw[←ra.length,←rb.length];exact bR h.1,λe=>?_,λ_ p hp=>?_⟩
       ·subst e;cases rb;have h2:=h.2;rw[append_nil] at h2;exact hQ _ H _ G (aT.refl H) (.tup ha ra) g h2
       ·exact hQ _ _ _ G (aT.new hp _) (.tup bd ((ra.append rb).mono (aT.new hp _))) (g.keep hp _) h.2
   | _=>exact False.elim h
 | ref a=>
   cases r2 with
   | ref b=>
     obtain⟨xs,ys,ea,eb,hl,h⟩:=h;obtain⟨_,xs',ha,ra⟩:=g _ _ ea;obtain⟨_,ys',hb,rb⟩:=g _ _ eb;refine yX π s σ H _ _ v u Q I rx ry ⟨_,_,_,_,rfl,rfl,ha,hb,by rw[←ra.length,←rb.length];exact bR hl,λp hp=>?_⟩;exact hQ _ _ _ _ (aT.new hp _) (.ref p) (g.put (aT.new hp _) (ra.append rb) (by rw[length_append];exact hl)) (h p (g.fresh hp))
   | _=>exact False.elim h
 | _=>exact False.elim h
noncomputable def qK (C:Int->Int->Prop) (f:Int->Int->W):W2:=λx y G q=>match x,y with
 | .int i,.int j=>C i j/\q (f i j) G
 | _,_=>False
theorem n6 {f:Value->Value->Sem Value} {C:Int->Int->Prop} {g:Int->Int->Int} (h:ik X f (rI C λi j=> .int (g i j))):gG X f (qK C λi j=> .int (g i j)):=by
 rintro π s σ H x y v u Q I rx ry ⟨wx,wy,G,q,r1,r2,gg,hh,hQ⟩;unfold qK at hh;split at hh
 ·cases r1;cases r2;exact h π s σ H _ _ v u Q I rx ry ⟨_,_,rfl,rfl,hh.1,hQ _ H _ G (aT.refl H) (.int _) gg hh.2⟩
 ·exact hh.elim
noncomputable def jZ (f:Int->Int->W):W2:=λx y G q=>match x,y with
 | .int i,.int j=>q (f i j) G
 | _,_=>False
theorem sG {f:Value->Value->Sem Value} {g:Int->Int->Bool} (h:ik X f (vj λi j=> .bl (g i j))):gG X f (jZ λi j=> .bl (g i j)):=by
 rintro π s σ H x y v u Q I rx ry ⟨wx,wy,G,q,r1,r2,gg,hh,hQ⟩;unfold jZ at hh;split at hh
 ·cases r1;cases r2;exact h π s σ H _ _ v u Q I rx ry ⟨_,_,rfl,rfl,hQ _ H _ G (aT.refl H) (.bl _) gg hh⟩
 ·exact hh.elim
noncomputable abbrev zg:W2:=qK (λ_ j=>0<j) λi j=> .int (i%j)
theorem bZ:gG X (binaryOp .Mod) zg:=n6 yK
noncomputable abbrev FD:W2:=jZ λi j=> .bl (decide (i<=j))
noncomputable abbrev FE:W2:=jZ λi j=> .bl (decide (j<i))
noncomputable abbrev FF:W2:=jZ λi j=> .bl (decide (j<=i))
theorem zh:gG X (compareOp .LtE) FD:=sG A3
theorem sH:gG X (compareOp .Gt) FE:=sG A4
theorem zk:gG X (compareOp .GtE) FF:=sG A5
noncomputable def vH:W2:=λx y G q=>match x,y with
 | .tup xs,.int i=>∃w,dM xs i=some w/\q w G
 | .scr ns,.int i=>∃n,dM ns i=some n/\q (.int n) G
 | .ref a,.int i=>∃xs w,G a=some (.lst xs)/\dM xs i=some w/\q w G
 | _,_=>False
theorem aV.at {H:Hp} {ws:List W} {vs:List V} {i:Int} {w:W} (r:aV K H ws vs) (e:dM ws i=some w):∃v,dM vs i=some v/\bN K H w v:=by
 unfold dM at e ⊢;rw[r.length] at e;cases h:si vs.length i with
 | none=>rw[h] at e;cases e
 | some j=>
   rw[h] at e;exact r.get e
theorem vI {α β:Type} (f:α->β) (xs:List α) (i:Int):dM (xs.map f) i=(dM xs i).map f:=by
 unfold dM;rw[length_map];cases si xs.length i with
 | none=>rfl
 | some j=>simp
theorem DR:y8 X vH:=by
 rintro value slice π s σ H x y v u Q I rx ry ⟨wx,wy,G,q,r1,r2,g,h,hQ⟩ hsl;cases r2 with
 | int i=>
   cases r1 with
   | tup hh rr=>
     obtain⟨w,e,h⟩:=h;obtain⟨v',e',r'⟩:=rr.at e;exact yT value slice π s σ H _ _ v u Q I rx ry ⟨_,_,_,v',rfl,rfl,cU.of hh,e',hQ _ H _ G (aT.refl H) r' g h⟩ hsl
   | scr hh=>
     obtain⟨n,e,h⟩:=h;exact ph value slice π s σ H _ _ v u Q I rx ry ⟨_,_,_,.int n,rfl,rfl,hh.sq,by rw[vI,e];rfl,hQ _ H _ G (aT.refl H) (.int n) g h⟩ hsl
   | ref a=>
     obtain⟨xs,w,ea,e,h⟩:=h;obtain⟨_,zs,e1,rr⟩:=g _ _ ea;obtain⟨v',e',r'⟩:=rr.at e;exact ph value slice π s σ H _ _ v u Q I rx ry ⟨_,_,_,v',rfl,rfl,cZ.of e1,e',hQ _ H _ G (aT.refl H) r' g h⟩ hsl
   | _=>exact False.elim h
 | _=>cases r1<;> exact False.elim h
end
mutual
noncomputable def W.flat:W->Bool
 | .tup xs=>W.flats xs
 | .ref _=>false
 | .scr _=>false
 | _=>true
noncomputable def W.flats:List W->Bool
 | []=>true
 | x::xs=>W.flat x&&W.flats xs
end
mutual
noncomputable def W.dep:W->Nat
 | .tup xs=>W.deps xs+1
 | _=>0
noncomputable def W.deps:List W->Nat
 | []=>0
 | x::xs=>max (W.dep x) (W.deps xs)
end
mutual
noncomputable def W.eq:W->W->Bool
 | .non,.non=>true
 | .bl a,.bl b=>a==b
 | .bl a,.int j=>(if a then 1 else 0)==j
 | .int i,.bl b=>i==(if b then 1 else 0)
 | .int i,.int j=>i==j
 | .str x,.str y=>x==y
 | .tup xs,.tup ys=>W.eqs xs ys
 | _,_=>false
noncomputable def W.eqs:List W->List W->Bool
 | [],[]=>true
 | x::xs,y::ys=>W.eq x y&&W.eqs xs ys
 | _,_=>false
end
theorem cQ {P:Prop} (h:false=true):P:=Bool.noConfusion h
theorem W.eq_int (i j:Int):(W.int i).eq (W.int j)=(i==j):=rfl
theorem W.eq_tup (xs ys:List W):(W.tup xs).eq (W.tup ys)=W.eqs xs ys:=rfl
mutual
theorem W.eq_refl:∀w:W,w.flat=true->w.eq w=true
 | .non,_=>rfl
 | .bl b,_=>beq_self_eq_true b
 | .int i,_=>beq_self_eq_true i
 | .str x,_=>beq_self_eq_true x
 | .tup xs,h=>W.eqs_refl xs h
 | .ref _,h=>cQ h
 | .scr _,h=>cQ h
theorem W.eqs_refl:∀ws:List W,W.flats ws=true->W.eqs ws ws=true
 | [],_=>rfl
 | x::xs,h=>by
   have h':x.flat=true/\W.flats xs=true:=(Bool.and_eq_true _ _).mp h;exact(Bool.and_eq_true _ _).mpr ⟨W.eq_refl x h'.1,W.eqs_refl xs h'.2⟩
end
mutual
theorem bN.inj {K:yax} {H:Hp}:∀{w u:W} {v:V},w.flat=true->u.flat=true->bN K H w v->bN K H u v->w=u:=by
 intro w u v h1 h2 r1 r2;cases r1 with
 | non=>cases r2;rfl
 | bl _=>cases r2;rfl
 | int _=>cases r2;rfl
 | str _=>cases r2;rfl
 | ref _=>exact cQ h1
 | scr _=>exact cQ h1
 | tup e1 r1=>
   cases r2 with
   | ref _=>exact cQ h2
   | scr _=>exact cQ h2
   | tup e2 r2=>
     rw[e1] at e2;cases e2;rw[aV.inj h1 h2 r1 r2]
theorem aV.inj {K:yax} {H:Hp}:∀{ws us:List W} {vs:List V},W.flats ws=true->W.flats us=true->aV K H ws vs->aV K H us vs->ws=us:=by
 intro ws us vs h1 h2 r1 r2;cases r1 with
 | nil=>cases r2;rfl
 | cons r1 s1=>
   cases r2 with
   | cons r2 s2=>
     simp only[W.flats,Bool.and_eq_true] at h1 h2;rw[bN.inj h1.1 h2.1 r1 r2,aV.inj h1.2 h2.2 s1 s2]
end
theorem W.flats_get:∀{ws:List W} {j:Nat} {w:W},W.flats ws=true->ws[j]?=some w->w.flat=true
 | [],_,_,_,e=>by simp at e
 | x::xs,0,w,h,e=>by
   have h':x.flat=true/\W.flats xs=true:=by simpa[W.flats] using h
   simp at e;subst e;exact h'.1
 | x::xs,j+1,w,h,e=>by
   have h':x.flat=true/\W.flats xs=true:=by simpa[W.flats] using h
   exact W.flats_get h'.2 (by simpa using e)
theorem W.deps_get:∀{ws:List W} {j:Nat} {w:W},ws[j]?=some w->w.dep<=W.deps ws
 | [],_,_,e=>by simp at e
 | x::xs,0,w,e=>by simp at e;subst e;simp[W.deps];lia
 | x::xs,j+1,w,e=>by
   have:=W.deps_get (ws:=xs) (j:=j) (w:=w) (by simpa using e);simp only[W.deps];lia
theorem W.eqs_iff:∀(ws us:List W),W.eqs ws us=true↔ws.length=us.length/\∀(j:Nat) (a b:W),ws[j]?=some a->us[j]?=some b->W.eq a b=true
 | [],[]=>by simp[W.eqs]
 | [],_::_=>by simp[W.eqs]
 | _::_,[]=>by simp[W.eqs]
 | x::xs,y::ys=>by
   rw[W.eqs,Bool.and_eq_true,W.eqs_iff xs ys];constructor
   ·rintro⟨h1,h2,h3⟩;refine⟨by simp[h2],λj a b ea eb=>?_⟩;cases j with
    | zero=>simp at ea eb;subst ea eb;exact h1
    | succ j=>exact h3 j a b (by simpa using ea) (by simpa using eb)
   ·rintro⟨h1,h2⟩;exact⟨h2 0 x y rfl rfl,by simpa using h1,λj a b ea eb=>h2 (j+1) a b (by simpa using ea) (by simpa using eb)⟩
noncomputable def jb (ws us:List W) (j:Nat):Bool:=match ws[j]?,us[j]? with | some a,some b=>W.eq a b | _,_=>true
theorem fg (ws us:List W):((List.range (min ws.length us.length)).all (jb ws us)&&(ws.length==us.length))=W.eqs ws us:=by
 rw[Bool.eq_iff_iff,Bool.and_eq_true,W.eqs_iff,all_eq_true,beq_iff_eq];constructor
 ·rintro⟨h1,h2⟩;refine⟨h2,λj a b ea eb=>?_⟩;have hj:j<ws.length:=(List.getElem?_eq_some_iff.mp ea).1;have:=h1 j (List.mem_range.mpr (by lia));unfold jb at this;rw[ea,eb] at this;exact this
 ·rintro⟨h1,h2⟩;refine⟨λj _=>?_,h1⟩;unfold jb;split
  ·rename_i a b ea eb;exact h2 j a b ea eb
  ·rfl
section
variable {X:Cx} {π:List (Addr×Obj)} {σ:St} {H:Hp} {s:Shared}
theorem aI.tupH {xs:List V} (I:aI X π σ H s) (h:H a=some (.tup xs)):∃its:List Value,aW xs its/\s.heap.IsTuple a its.toArray/\xs.length<=sizeLine:=I.tuple (cU.of h)
theorem gQ (I:aI X π σ H s):∀(n:Nat) (A:Around) {w1 w2:W} {v1 v2:V} {u1 u2:Value},w1.dep<n->w1.flat=true->w2.flat=true->A.units+n<cLine->bN X.K H w1 v1->bN X.K H w2 v2->bc v1 u1->bc v2 u2->
 SeqAt.EqAt A s u1 u2 (w1.eq w2)/\SeqAt.RcAt A s u1 u2 (w1.eq w2)/\SeqAt.RcNeAt A s u1 u2 (!(w1.eq w2)):=by
 intro n
 induction n with
 | zero=>intro A w1 w2 v1 v2 u1 u2 h;lia
 | succ n ih=>
   intro A w1 w2 v1 v2 u1 u2 hd f1 f2 hu r1 r2 q1 q2;have hu0:A.units<cLine:=by lia
   have hui:A.in1.units+n<cLine:=by show A.units+1+n<cLine;lia
   cases r1 with
   | ref a=>exact cQ f1
   | scr a=>exact cQ f1
   | non=>
     cases (show u1=Value.none from q1);cases r2 with
     | ref a=>exact cQ f2
     | scr a=>exact cQ f2
     | non=>cases (show u2=Value.none from q2);exact⟨SeqAt.EqAt.same _,SeqAt.RcAt.none_none,SeqAt.RcNeAt.none_none⟩
     | bl b=>cases (show u2=Value.bool b from q2);exact⟨SeqAt.EqAt.none_bool b,SeqAt.RcAt.none_bool b,SeqAt.RcNeAt.none_bool b⟩
     | int b=>obtain⟨t,rfl⟩:=q2;exact⟨SeqAt.EqAt.none_int b t,SeqAt.RcAt.none_int b t,SeqAt.RcNeAt.none_int b t⟩
     | str b=>obtain⟨t,rfl⟩:=q2;exact⟨SeqAt.EqAt.none_str b t,SeqAt.RcAt.none_str b t,SeqAt.RcNeAt.none_str b t⟩
     | tup h r=>
       cases (show u2=Value.ref _ from q2);obtain⟨its,_,p,_⟩:=aI.tupH I h;exact⟨SeqAt.EqAt.none_tuple p hu0,SeqAt.RcAt.none_tuple p hu0,SeqAt.RcNeAt.none_tuple p hu0⟩
   | bl a=>
     cases (show u1=Value.bool a from q1);cases r2 with
     | ref a=>exact cQ f2
     | scr a=>exact cQ f2
     | non=>cases (show u2=Value.none from q2);exact⟨SeqAt.EqAt.bool_none a,SeqAt.RcAt.bool_none a,SeqAt.RcNeAt.bool_none a⟩
     | bl b=>cases (show u2=Value.bool b from q2);exact⟨SeqAt.EqAt.bool_bool a b,SeqAt.RcAt.bool_bool a b,SeqAt.RcNeAt.bool_bool a b⟩
     | int b=>obtain⟨t,rfl⟩:=q2;exact⟨SeqAt.EqAt.bool_int a b t,SeqAt.RcAt.bool_int a b t,SeqAt.RcNeAt.bool_int a b t⟩
     | str b=>obtain⟨t,rfl⟩:=q2;exact⟨SeqAt.EqAt.bool_str a b t,SeqAt.RcAt.bool_str a b t,SeqAt.RcNeAt.bool_str a b t⟩
     | tup h r=>
       cases (show u2=Value.ref _ from q2);obtain⟨its,_,p,_⟩:=aI.tupH I h;exact⟨SeqAt.EqAt.bool_tuple a p hu0,SeqAt.RcAt.bool_tuple a p hu0,SeqAt.RcNeAt.bool_tuple a p hu0⟩
   | int a=>
     obtain⟨ta,rfl⟩:=q1;cases r2 with
     | ref a=>exact cQ f2
     | scr a=>exact cQ f2
     | non=>cases (show u2=Value.none from q2);exact⟨SeqAt.EqAt.int_none a ta,SeqAt.RcAt.int_none a ta,SeqAt.RcNeAt.int_none a ta⟩
     | bl b=>cases (show u2=Value.bool b from q2);exact⟨SeqAt.EqAt.int_bool a ta b,SeqAt.RcAt.int_bool a ta b,SeqAt.RcNeAt.int_bool a ta b⟩
     | int b=>obtain⟨t,rfl⟩:=q2;exact⟨SeqAt.EqAt.int_int a ta b t,SeqAt.RcAt.int_int a ta b t,SeqAt.RcNeAt.int_int a ta b t⟩
     | str b=>obtain⟨t,rfl⟩:=q2;exact⟨SeqAt.EqAt.int_str a ta b t,SeqAt.RcAt.int_str a ta b t,SeqAt.RcNeAt.int_str a ta b t⟩
     | tup h r=>
       cases (show u2=Value.ref _ from q2);obtain⟨its,_,p,_⟩:=aI.tupH I h;exact⟨SeqAt.EqAt.int_tuple a ta p hu0,SeqAt.RcAt.int_tuple a ta p hu0,SeqAt.RcNeAt.int_tuple a ta p hu0⟩
   | str a=>
     obtain⟨ta,rfl⟩:=q1;cases r2 with
     | ref a=>exact cQ f2
     | scr a=>exact cQ f2
     | non=>cases (show u2=Value.none from q2);exact⟨SeqAt.EqAt.str_none a ta,SeqAt.RcAt.str_none a ta,SeqAt.RcNeAt.str_none a ta⟩
     | bl b=>cases (show u2=Value.bool b from q2);exact⟨SeqAt.EqAt.str_bool a ta b,SeqAt.RcAt.str_bool a ta b,SeqAt.RcNeAt.str_bool a ta b⟩
     | int b=>obtain⟨t,rfl⟩:=q2;exact⟨SeqAt.EqAt.str_int a ta b t,SeqAt.RcAt.str_int a ta b t,SeqAt.RcNeAt.str_int a ta b t⟩
     | str b=>obtain⟨t,rfl⟩:=q2;exact⟨SeqAt.EqAt.str_str a ta b t,SeqAt.RcAt.str_str a ta b t,SeqAt.RcNeAt.str_str a ta b t⟩
     | tup h r=>
       cases (show u2=Value.ref _ from q2);obtain⟨its,_,p,_⟩:=aI.tupH I h;exact⟨SeqAt.EqAt.str_tuple a ta p hu0,SeqAt.RcAt.str_tuple a ta p hu0,SeqAt.RcNeAt.str_tuple a ta p hu0⟩
   | @tup a ws xs h r=>
     cases (show u1=Value.ref _ from q1);obtain⟨its,rv,p,_⟩:=aI.tupH I h;cases r2 with
     | ref a=>exact cQ f2
     | scr a=>exact cQ f2
     | non=>cases (show u2=Value.none from q2);exact⟨SeqAt.EqAt.tuple_none p hu0,SeqAt.RcAt.tuple_none p hu0,SeqAt.RcNeAt.tuple_none p hu0⟩
     | bl b=>cases (show u2=Value.bool b from q2);exact⟨SeqAt.EqAt.tuple_bool b p hu0,SeqAt.RcAt.tuple_bool b p hu0,SeqAt.RcNeAt.tuple_bool b p hu0⟩
     | int b=>obtain⟨t,rfl⟩:=q2;exact⟨SeqAt.EqAt.tuple_int b t p hu0,SeqAt.RcAt.tuple_int b t p hu0,SeqAt.RcNeAt.tuple_int b t p hu0⟩
     | str b=>obtain⟨t,rfl⟩:=q2;exact⟨SeqAt.EqAt.tuple_str b t p hu0,SeqAt.RcAt.tuple_str b t p hu0,SeqAt.RcNeAt.tuple_str b t p hu0⟩
     | @tup b us ys h2 r2=>
       cases (show u2=Value.ref _ from q2);obtain⟨its2,rv2,p2,_⟩:=aI.tupH I h2;have g1:W.flats ws=true:=f1;have g2:W.flats us=true:=f2;have hd':W.deps ws<n:=by simp only[W.dep] at hd;lia
       have e1:its.length=ws.length:=by rw[←rv.length,r.length]
       have e2:its2.length=us.length:=by rw[←rv2.length,r2.length]
       have he:∀j (h1:j<its.toArray.size) (h2:j<its2.toArray.size),SeqAt.EqAt A.in1 s its.toArray[j] its2.toArray[j] (jb ws us j):=λj j1 j2=>by
        rw[size_toArray] at j1 j2;have ea:ws[j]?=some ws[j]:=ybw (by lia);have eb:us[j]?=some us[j]:=ybw (by lia);obtain⟨va,ea1,ra⟩:=r.get ea;obtain⟨vb,eb1,rb⟩:=r2.get eb;obtain⟨ua,ea2,qa⟩:=rv.get ea1;obtain⟨ub,eb2,qb⟩:=rv2.get eb1;have za:its.toArray[j]=ua:=by
         have:=(List.getElem?_eq_some_iff.mp ea2).2;simpa using this
        have zb:its2.toArray[j]=ub:=by
         have:=(List.getElem?_eq_some_iff.mp eb2).2;simpa using this
        rw[za,zb];have:=(ih A.in1 (w1:=ws[j]) (w2:=us[j]) (Nat.lt_of_le_of_lt (W.deps_get ea) hd') (W.flats_get g1 ea) (W.flats_get g2 eb) hui ra rb qa qb).1;unfold jb;rw[ea,eb];exact this
       have er:=fg ws us;have c1:=SeqAt.RcAt.tuples p p2 hu0 he;have c2:=SeqAt.RcNeAt.tuples p p2 hu0 he;rw[size_toArray,size_toArray,e1,e2,er] at c1 c2;have ee:(W.tup ws).eq (W.tup us)=W.eqs ws us:=rfl;rw[ee];refine⟨?_,c1,c2⟩
       by_cases hab:a=b
       ·subst hab;have z:=bN.inj f1 f2 (bN.tup h r) (bN.tup h2 r2);have t:W.eqs ws us=true:=by
         cases z;exact W.eqs_refl ws g1
        rw[t];exact SeqAt.EqAt.same _
       ·exact SeqAt.EqAt.of_refs hab c1
end
section
variable {X:Cx}
noncomputable def vJ:W2:=λx y G q=>x.flat=true/\y.flat=true/\x.dep<=150/\q (.bl (x.eq y)) G
noncomputable def vK:W2:=λx y G q=>x.flat=true/\y.flat=true/\x.dep<=150/\q (.bl (!(x.eq y))) G
theorem zm (hr:av k X.A):gG X (compareOp .Eq) vJ:=by
 rintro π s σ H x y v u Q I rx ry ⟨wx,wy,G,q,r1,r2,g,⟨f1,f2,hd,h⟩,hQ⟩;exact(gQ I 151 X.A (by lia) f1 f2 (by have:=hr.un;lia) r1 r2 rx ry).2.1 X.prog X.w X.xe _ ⟨.bl _,H,I,rfl,hQ _ H _ G (aT.refl H) (.bl _) g h⟩
theorem zn (hr:av k X.A):gG X (compareOp .NotEq) vK:=by
 rintro π s σ H x y v u Q I rx ry ⟨wx,wy,G,q,r1,r2,g,⟨f1,f2,hd,h⟩,hQ⟩;exact(gQ I 151 X.A (by lia) f1 f2 (by have:=hr.un;lia) r1 r2 rx ry).2.2 X.prog X.w X.xe _ ⟨.bl _,H,I,rfl,hQ _ H _ G (aT.refl H) (.bl _) g h⟩
noncomputable def sI:W2:=λx y G q=>match x,y with
 | .int i,.int j=>q (.int (i-j)) G
 | .bl a,.bl b=>q (.int (b2i a-b2i b)) G
 | _,_=>False
theorem mq:gG X (binaryOp .Sub) sI:=by
 rintro π s σ H x y v u Q I rx ry ⟨wx,wy,G,q,r1,r2,g,h,hQ⟩;cases r1 with
 | int i=>
   cases r2 with
   | int j=>exact yJ π s σ H _ _ v u Q I rx ry ⟨_,_,rfl,rfl,hQ _ H _ G (aT.refl H) (.int _) g h⟩
   | _=>exact False.elim h
 | bl a=>
   cases r2 with
   | bl b=>
     cases rx;cases ry;exact sub_bool ⟨.int _,H,I.tok _,⟨_,rfl⟩,hQ _ H _ G (aT.refl H) (.int _) g h⟩
   | _=>exact False.elim h
 | _=>exact False.elim h
noncomputable def j6:W->Bool
 | .non=>true
 | _=>false
noncomputable def zo (neg:Bool):W2:=λx y G q=>y=.non/\q (.bl (neg ^^ j6 x)) G
theorem xW:gG X (compareOp .Is) (zo false):=by
 rintro π s σ H x y v u Q I rx ry ⟨wx,wy,G,q,r1,r2,g,⟨e,h⟩,hQ⟩;subst e;cases r2;refine yM π s σ H _ _ v u Q I rx ry ⟨rfl,?_⟩;have z:decide (x=V.non)=j6 wx:=by cases r1<;> simp[j6]
 rw[z];exact hQ _ H _ G (aT.refl H) (.bl _) g (by simpa using h)
theorem zq:gG X (compareOp .IsNot) (zo true):=by
 rintro π s σ H x y v u Q I rx ry ⟨wx,wy,G,q,r1,r2,g,⟨e,h⟩,hQ⟩;subst e;cases r2;refine vo π s σ H _ _ v u Q I rx ry ⟨rfl,?_⟩;have z:decide (x=V.non)=j6 wx:=by cases r1<;> simp[j6]
 rw[z];exact hQ _ H _ G (aT.refl H) (.bl _) g (by simpa using h)
noncomputable abbrev WO:=cT->Gp->(Option Int->Gp->Prop)->Prop
noncomputable def LO (K:yax) (t:WO):TO:=λσ H Q=>∃τ G q,bC K H τ σ/\aO K H G/\t τ G q/\∀o H1 G1,aT H H1->aO K H1 G1->q o G1->Q o H1
noncomputable def QO (X:Cx) (e:Option Expr) (t:WO):Prop:=PO X e (LO X.K t)
theorem PO.imp {e:Option Expr} {t t':TO} (h:PO X e t) (f:∀σ H Q,t' σ H Q->t σ H Q):PO X e t':=λπ s σ H Q I q=>h π s σ H Q I (f _ _ _ q)
noncomputable def pA:WO:=λ_ G q=>q none G
noncomputable def xX (t:WE):WO:=λτ G q=>t τ G λx G1=>match x with | .int i=>q (some i) G1 | _=>False
theorem bO:QO X none pA:=po_none.imp λσ H Q ⟨τ,G,q,hs,hg,ht,hQ⟩=>hQ none H G (aT.refl H) hg ht
theorem bG {te:WE} (h:QE X e te):QO X (some e) (xX te):=
 (vA h).imp λσ H Q ⟨τ,G,q,hs,hg,ht,hQ⟩=>⟨τ,G,_,hs,hg,ht,λv H1 w G1 t1 r1 g1 q1=>by
   split at q1
   ·cases r1;exact⟨_,rfl,hQ _ H1 G1 t1 g1 q1⟩
   ·exact q1.elim⟩
noncomputable def cN (xs:List W) (lo hi:Option Int):List W:=(xs.drop (HT.sIx xs.length 0 lo)).take (HT.sIx xs.length xs.length hi-HT.sIx xs.length 0 lo)
theorem aV.cut {H:Hp} {ws:List W} {vs:List V} (r:aV K H ws vs) (lo hi:Option Int):aV K H (cN ws lo hi) (lY vs lo hi):=by
 unfold cN lY;rw[r.length];exact(r.drop _).take _
noncomputable abbrev W3:=W->Option Int->Option Int->Gp->WK->Prop
noncomputable def vL:W3:=λx lo hi G q=>match x with
 | .tup xs=>q (.tup (cN xs lo hi)) G
 | .scr ns=>ns.length<=100000/\∀p,G p=none->q (.ref p) (aK G p (.lst (cN (ns.map W.int) lo hi)))
 | .ref a=>∃xs,G a=some (.lst xs)/\∀p,G p=none->q (.ref p) (aK G p (.lst (cN xs lo hi)))
 | _=>False
theorem ip (xs:List W) (lo hi:Option Int):(cN xs lo hi).length<=xs.length:=by
 unfold cN;rw[length_take,length_drop];exact ybz (Nat.min_le_right _ _) (Nat.sub_le _ _)
theorem n8 {xs:List W} {lo hi:Option Int} (h:HT.sIx xs.length 0 lo=0/\HT.sIx xs.length xs.length hi=xs.length):cN xs lo hi=xs:=by
 unfold cN;rw[h.1,h.2,List.drop_zero,Nat.sub_zero,List.take_length]
theorem qL {t sl:Addr} {vl vu:Value} {lo hi:Option Int} (ht:IsTup s.heap t items) (hs:s.heap.IsSliceOf sl vl vu .none) (pl:IsPart vl lo) (pu:IsPart vu hi)
 (hw:HT.sIx items.size 0 lo=0/\HT.sIx items.size items.size hi=items.size) (h:Q (.ref t) s):wpAny (model prog w) A (getItem (.ref t) (.ref sl)) Q E s:=by
 obtain⟨os,hos,hcs,hds⟩:=id hs;have hTs:s.TypeIs (.ref sl) "slice":=⟨os,hos,hcs⟩;unfold getItem
 try with_reducible refine wpAny_holding ?_
 first | refine wax (way ?_) | skip
 refine wax (wpAny_sequenceKey ht.typeIs (by decide) ?_);refine wax (wpAny_callSpecial?_slot (name:=Str.ofString "__getitem__") ht.typeIs PyProof.Rows.slot_tuple_getitem
  (wpAny_call_entry PyProof.Rows.slot_tuple_getitem ht.typeIs entry_tuple_getitem ?_ (args_tuple_getitem _ _)))
 show wpAny _ _ (Builtin.Tuple.tupleItemsOf (.ref t) >>= _) _ _ s;refine wax (tupleItemsOf_ ht ?_);refine wax (wpAny_typeOf hTs ?_);rw[ycx (by decide)];refine wax (HT.sliceApplied_gen hs pl pu ?_);have hyes:(((HT.sIx items.size 0 lo:Nat):Int)==0&&(1:Int)==1&&(HT.sIx items.size items.size hi-HT.sIx items.size 0 lo)==items.size)=true:=by
  rw[hw.1,hw.2];simp
 show wpAny _ _ (if (((HT.sIx items.size 0 lo:Nat):Int)==0&&(1:Int)==1&&(HT.sIx items.size items.size hi-HT.sIx items.size 0 lo)==items.size)=true then _ else _) _ _ s;rw[ycx hyes];refine wax ?_;show wpAny _ _ (typeOf (.ref t) >>= _) _ _ s;refine wax (wpAny_typeOf ht.typeIs (way ?_));rw[ycx (by simp)];exact wax (wpAny_rule (way ⟨_,rfl,way h⟩))
noncomputable def Fg (K:yax) (r:W3):V->Option Int->Option Int->Hp->VK->Prop:=λx lo hi H Q=>∃w G q,bN K H w x/\aO K H G/\r w lo hi G q/\∀v H1 w G1,aT H H1->bN K H1 w v->aO K H1 G1->q w G1->Q v H1
theorem DS:A7 X (Fg X.K vL):=by
 rintro π s σ H x v vl vu lo hi sl Q I rx hs pl pu ⟨w,G,q,r,g,h,hQ⟩;unfold vL at h;split at h
 ·cases r with
  | @tup a ws xs hh rr=>
    by_cases hw:HT.sIx xs.length 0 lo=0/\HT.sIx xs.length xs.length hi=xs.length
    ·cases rx;obtain⟨its,rv,ht,hz⟩:=I.tuple (cU.of hh);have hlen:its.toArray.size=xs.length:=by rw[size_toArray];exact rv.length.symm
     refine⟨"tuple",_,PyProof.Rows.slot_tuple_getitem.lookup,ht.typeIs,?_⟩;refine qL ht hs pl pu (by rw[hlen];exact hw) ⟨.ref a,H,I,rfl,?_⟩;rw[n8 (by rw[rr.length];exact hw)] at h;exact hQ _ H _ G (aT.refl H) (.tup hh rr) g h
    ·exact yS π s σ H _ v vl vu lo hi sl Q I rx hs pl pu ⟨a,xs,rfl,cU.of hh,hw,λp hp=>hQ _ _ _ G (aT.new hp _) (.tup bd ((rr.cut lo hi).mono (aT.new hp _))) (g.keep hp _) h⟩
 ·rename_i ns;cases r with
  | scr hh=>
    refine pp π s σ H _ v vl vu lo hi sl Q I rx hs pl pu ⟨_,_,rfl,hh.sq,λp hp=>hQ _ _ _ _ (aT.new hp _) (.ref p) (g.put (aT.new hp _) ((aV.ints ns).cut lo hi) ?_) (h.2 p (g.fresh hp))⟩;exact ybz (ip _ _ _) (by rw[length_map];exact h.1)
 ·obtain⟨xs,e,h⟩:=h;cases r;obtain⟨hl,zs,e1,rr⟩:=g _ _ e;exact pp π s σ H _ v vl vu lo hi sl Q I rx hs pl pu ⟨_,zs,rfl,cZ.of e1,λp hp=>hQ _ _ _ _ (aT.new hp _) (.ref p) (g.put (aT.new hp _) (rr.cut lo hi) (ybz (ip _ _ _) hl)) (h p (g.fresh hp))⟩
 ·exact h.elim
theorem sJ:bootBuiltins "isinstance"=some (.builtin "isinstance"):=by decide+kernel
noncomputable def sK (G:Gp):W->Option String
 | .non=>some "NoneType"
 | .bl _=>some "bool"
 | .int _=>some "int"
 | .str _=>some "str"
 | .tup _=>some "tuple"
 | .ref a=>match G a with | some (.lst _)=>some "list" | some .dct=>some "dict" | some (.dic _)=>some "dict" | _=>none
 | .scr _=>none
noncomputable def fH:String->String->Bool
 | "int","int"=>true
 | "bool","int"=>true
 | "bool","bool"=>true
 | "tuple","tuple"=>true
 | "list","list"=>true
 | "str","str"=>true
 | _,_=>false
noncomputable def qM (T:String):Prop:=T="int"∨T="bool"∨T="tuple"∨T="list"∨T="str"
theorem zt {t T:String} (ht:t="NoneType"∨t="bool"∨t="int"∨t="str"∨t="tuple"∨t="list"∨t="dict") (hT:qM T):PySem.W.kitOne K (.type t) (.type T)=some (fH t T):=by
 rcases ht with rfl | rfl | rfl | rfl | rfl | rfl | rfl<;> rcases hT with rfl | rfl | rfl | rfl | rfl<;> first | rfl | kernel_rfl | decide+kernel
noncomputable def Br (T:String) (te:WE):WE:=λτ G q=>te τ G λx G1=>match sK G1 x with | some t=>q (.bl (fH t T)) G1 | none=>False
theorem sL {H:Hp} {G:Gp} {w:W} {v:V} {t:String} (g:aO K H G) (r:bN K H w v) (e:sK G w=some t):gK K H v (.type t)/\(t="NoneType"∨t="bool"∨t="int"∨t="str"∨t="tuple"∨t="list"∨t="dict"):=by
 unfold sK at e;cases r with
 | non=>cases e;exact⟨.non,by simp⟩
 | bl b=>cases e;exact⟨.bl b,by simp⟩
 | int i=>cases e;exact⟨.int i,by simp⟩
 | str x=>cases e;exact⟨.str x,by simp⟩
 | tup h _=>cases e;exact⟨.tup h,by simp⟩
 | scr h=>cases e
 | ref a=>
   simp only at e;split at e
   ·rename_i ws e1;cases e;obtain⟨_,xs,e2,_⟩:=g a _ e1;exact⟨.lst e2,by simp⟩
   ·rename_i e1;cases e;exact⟨.dK (g a _ e1),by simp⟩
   ·rename_i kvs e1;cases e;obtain⟨_,kvs',e2,_⟩:=g a _ e1;exact⟨.dK e2,by simp⟩
   ·cases e
theorem Bs {T:String} (hT:qM T) {σ:St} {H:Hp} {v:V} {w:W} {G:Gp} {q:WK} {Q:VK} (I:aI X π σ H s) (ru:bc v u) (r:bN X.K H w v) (g:aO X.K H G)
 (h:match sK G w with | some t=>q (.bl (fH t T)) G | none=>False) (hQ:∀v H1 w G1,aT H H1->bN X.K H1 w v->aO X.K H1 G1->q w G1->Q v H1):
 wpAny (model X.prog X.w) X.A (call (.builtin "isinstance") [u,.type T]) (EP X π σ Q) X.xe s:=by
 split at h
 ·rename_i t e;obtain⟨ty,hk⟩:=sL g r e;exact qD I ru ty (zt hk hT) λtk=>⟨.bl _,H,I.tok tk,rfl,hQ _ H _ G (aT.refl H) (.bl _) g h⟩
 ·exact h.elim
theorem n9 {T:String} {te:WE} {p p2 pos:Pos} (hT:qM T) (hv:bootBuiltins x=some (.type T)) (hm:X.mg x=none) (hgx:Gl X x) (hm1:X.mg "isinstance"=none) (hg1:Gl X "isinstance") (he:QE X e te) (hn:x≠"__name__":=by decide) (hd:(x==("__debug__":Str))=false:=by decide)
 (hs1:starEach [e,.Name x p2] X.env=(false,eval e X.env)::starEach [.Name x p2] X.env:=by rfl) (hs2:starEach [.Name x p2] X.env=(false,eval (.Name x p2) X.env)::starEach [] X.env:=by rfl)
 (hpl:(backTo pos (starEach [.Name x p2] X.env)).any (·.1)=false:=by rfl):QE X (.Call (.Name "isinstance" p) [e,.Name x p2] [] pos) (Br T te):=by
 have hb:PE X (.Name x p2) (tC (.ty T)):=vd hgx hm hv rfl hn hd;have ha:PA X [e,.Name x p2] (rX (jI X.K te) (rX (tC (.ty T)) vx)):=cM he (cM hb pa_nil hs2) hs1;have hc:fQ X (.builtin "isinstance") (λvs H Q=>∃(v:V) (w:W) (G:Gp) (q:WK),vs=[v,.ty T]/\bN X.K H w v/\aO X.K H G/\(match sK G w with | some t=>q (.bl (fH t T)) G | none=>False)/\∀v H1 w G1,aT H H1->bN X.K H1 w v->aO X.K H1 G1->q w G1->Q v H1):=by
  rintro π s σ H xs us Q I r ⟨v,w,G,q,e1,r1,g1,h,hQ⟩;subst e1;obtain⟨u,u2,rfl,ru,ru2⟩:=o5 r;cases (show u2=Value.type T from ru2);exact Bs hT I ru r1 g1 h hQ
 exact(lX hc hg1 hm1 sJ ha (by decide) (by decide) hs1 hpl).imp λσ H Q z0=>z0.el λτ G q hs hg ht hQ=>⟨τ,G,_,hs,hg,ht,λv H1 w G1 t1 r1 g1 q1=>
  ⟨v,w,G1,q,rfl,r1,g1,q1,λv2 H2 w2 G2 t2=>hQ v2 H2 w2 G2 (t1.trans t2)⟩⟩
noncomputable def zv:List W->Gp->WK->Prop:=λws G q=>match ws with
 | [.ref a]=>∃ns:List Int,G a=some (.lst (ns.map W.int))/\q (.int ns.sum) G
 | _=>False
theorem aV.ints_of {K:yax} {H:Hp}:∀{ns:List Int} {vs:List V},aV K H (ns.map W.int) vs->vs=ns.map V.int
 | [],_,r=>by cases r;rfl
 | n::ns,_,r=>by
   cases r with
   | cons r rs=>
     cases r;rw[aV.ints_of rs]
     rfl
theorem Bt (hc:X.calm=true):eR X (.builtin "sum") zv:=by
 rintro π s σ H xs us Q I r ⟨ws,G,q,rw',g,h,hQ⟩;unfold zv at h;split at h
 ·rename_i a;obtain⟨ns,e,h⟩:=h;obtain⟨v,rfl,r1⟩:=rw'.one;cases r1;obtain⟨_,zs,e1,rr⟩:=g a _ e;obtain rfl:=rr.ints_of;obtain⟨u,rfl,ru⟩:=eV r;cases (show u=Value.ref a from ru);obtain⟨its,rv,p,hz⟩:=I.list (cZ.of e1);have hi:IntsAre its ns:=L2.intsAre_of rv;obtain⟨ys,ey⟩:=hi.allInts.items;have hn:(ys.toList.map (·.1))=ns:=by rw[←nums_intItems,←ey,←hi.numsOf]
  have hl:s.heap.IsList a (intItems ys):=by rw[←ey];exact p.isList
  refine sum_intListG (I.ok.hd hc) hl λh' tk t' hk=>⟨.int _,H,I.kept hk,⟨t',rfl⟩,?_⟩;have es:preSum (numAt ys) ys.size=ns.sum:=by rw[preSum_eq,take_of_length_le (by simp),hn]
  rw[es];exact hQ _ H _ G (aT.refl H) (.int _) g h
 ·exact h.elim
noncomputable def Bu (to te:WE):WE:=λτ G q=>to τ G λx G1=>match x with
 | .ref a=>(∃xs,G1 a=some (.lst xs))/\te τ G1 λy G2=>∃ys,G2 a=some (.lst ys)/\ys.length+1<=100000/\q .non (aK G2 a (.lst (ys++[y])))
 | _=>False
theorem eA {o e:Expr} {to te:WE} {apos cpos:Pos} (ho:QE X o to) (he:QE X e te)
 (hbase:attributeBase o "append" X.env (eval o X.env)=eval o X.env:=by rfl)
 (hfew:((backTo cpos (starEach [e] X.env)).all (λx=>!x.1)&&(backToKw cpos (keywordEach [] X.env)).all (λx=>x.1.isSome)
   &&decide (([e]:List Expr).length+([]:List Keyword).length+(if ([]:List Keyword).isEmpty then 0 else 1)<30))=true:=by rfl)
 (hline:(apos.endLine==cpos.line)=true:=by rfl) (hs:starEach [e] X.env=(false,eval e X.env)::starEach [] X.env:=by rfl):
 QE X (.Call (.Attribute o "append" apos) [e] [] cpos) (Bu to te):=
 (xL PySem.F.plainAttrs_list PySem.F.slot_list_append PySem.F.type_list_append qG ho (cM he pa_nil hs) hbase hfew hline hs rfl).imp λσ H Q z0=>z0.el λτ G q hs hg ht hQ=>
   ⟨τ,G,_,hs,hg,ht,λv H1 w G1 t1 r1 g1 q1=>by
     split at q1
     ·rename_i a;cases r1;obtain⟨⟨xs,e1⟩,q1⟩:=q1;obtain⟨_,xs',h1,_⟩:=g1 a _ e1;refine⟨.inl ⟨rfl,xs',cZ.of h1⟩,τ,G1,_,hs.mono t1,g1,q1,λv2 H2 w2 G2 t2 r2 g2 q2=>?_⟩;obtain⟨ys,e2,hl,q2⟩:=q2;obtain⟨_,ys',h2,rr⟩:=g2 a _ e2;refine⟨a,ys',v2,rfl,rfl,h2,?_,?_⟩
      ·rw[←rr.length];exact bR hl
      ·exact hQ _ _ _ _ ((t1.trans t2).trans (aT.lst h2 _)) .non (g2.put (aT.lst h2 _) (rr.append (.cons r2 .nil)) (by rw[length_append];exact hl)) q2
     ·exact q1.elim⟩
end
structure pB (K:yax) (J:It) (ws:List W) (C:Gp->Prop) (H0:Hp):Prop where
 stop:∀i H G,aT H0 H->aO K H G->C G->ws.length<=i->J.stop i H
 go:∀i w H G,aT H0 H->aO K H G->C G->ws[i]?=some w->J.go i H/\∀x H',J.yld i H x H'->aT H H'/\bN K H' w x/\aO K H' G
noncomputable abbrev WI:=cT->Gp->(List W->(Gp->Prop)->Gp->Prop)->Prop
noncomputable def LI (K:yax) (t:WI):TI:=λσ H R=>∃τ G r,bC K H τ σ/\aO K H G/\t τ G r/\∀J H1 ws C G1,aT H H1->aO K H1 G1->pB K J ws C H1->r ws C G1->R J H1
noncomputable def QI (X:Cx) (tg iter:Expr) (t:WI):Prop:=PI X tg iter (LI X.K t)
section
variable {X:Cx} {tg:Expr}
theorem PI.imp {t t':TI} (h:PI X tg e t) (f:∀σ H R,t' σ H R->t σ H R):PI X tg e t':=λπ s σ H R I q=>h π s σ H R I (f _ _ _ q)
theorem vM {ws:List W} {xs:List V} {H:Hp} (h:H a=some (.tup xs)) (r:aV K H ws xs):pB K (Dv K a) ws (λ_=>True) H where
 stop:=λi H1 G t g _ hl=>⟨xs,cU.of (t.tup _ _ h),by rw[←r.length];exact hl⟩
 go:=λi w H1 G t g _ e=>by
  obtain⟨v,e1,rv⟩:=r.get e;refine⟨⟨xs,v,cU.of (t.tup _ _ h),e1⟩,λx H' z9=>?_⟩;obtain⟨eH,hy⟩:=z9;subst eH;have e2:=hy xs (cU.of (t.tup _ _ h));rw[e1] at e2;cases e2;exact⟨aT.refl _,rv.mono t,g⟩
theorem vN {ws:List W} {H:Hp}:pB K (CQ K a) ws (λG=>G a=some (.lst ws)) H where
 stop:=λi H1 G t g e hl=>by
  obtain⟨_,xs,h1,r⟩:=g a _ e;exact⟨xs,cZ.of h1,by rw[←r.length];exact hl⟩
 go:=λi w H1 G t g eG e=>by
  obtain⟨_,xs,h1,r⟩:=g a _ eG;obtain⟨v,e1,rv⟩:=r.get e;refine⟨⟨xs,v,cZ.of h1,e1⟩,λx H' z9=>?_⟩;obtain⟨eH,hy⟩:=z9;subst eH;have e2:=hy xs (cZ.of h1);rw[e1] at e2;cases e2;exact⟨aT.refl _,rv,g⟩
theorem vO {ns:List Int} {H:Hp} (h:xN K H a ns):pB K (CQ K a) (ns.map W.int) (λ_=>True) H where
 stop:=λi H1 G t g _ hl=>⟨_,(h.mono t).sq,by simpa using hl⟩
 go:=λi w H1 G t g _ e=>by
  have r:aV K H1 (ns.map W.int) (ns.map V.int):=aV.ints ns;obtain⟨v,e1,rv⟩:=r.get e;refine⟨⟨_,v,(h.mono t).sq,e1⟩,λx H' z9=>?_⟩;obtain⟨eH,hy⟩:=z9;subst eH;have e2:=hy _ (h.mono t).sq;rw[e1] at e2;cases e2;exact⟨aT.refl _,rv,g⟩
noncomputable def rH (n:Nat):List W:=(List.range n).map λ(i:Nat)=>W.int (i:Int)
theorem vP {n:Nat} {H:Hp}:pB K (CS 0 n) (rH n) (λ_=>True) H where
 stop:=λi H1 G t g _ hl=>by have h:n<=i:=(by simpa[rH] using hl);exact h
 go:=λi w H1 G t g _ e=>by
  unfold rH at e;rw[List.getElem?_map] at e;have hi:i<n:=by
   cases h:(List.range n)[i]? with
   | none=>rw[h] at e;cases e
   | some k=>
     have:=(List.getElem?_eq_some_iff.mp h).1;simpa using this
  rw[List.getElem?_range hi] at e;cases e;refine⟨hi,λx H' z9=>?_⟩;obtain⟨eH,hy⟩:=z9;subst eH;subst hy;exact⟨aT.refl _,by simpa using bN.int _,g⟩
noncomputable def Bv (ta:WA):WI:=λτ G r=>ta τ G λws G1=>match ws with
 | [.int j]=> -(2^62)<=j/\j<2^62/\r (rH j.toNat) (λ_=>True) G1
 | _=>False
theorem mv {a:Expr} {ta:WA} {p pos:Pos} (hg:Gl X "range") (hm:X.mg "range"=none) (ha:QA X [a] ta) (hs:starEach [a] X.env=[(false,eval a X.env)]:=by rfl):QI X tg (.Call (.Name "range" p) [a] [] pos) (Bv ta):=
 (qw hg hm ha hs).imp λσ H R ⟨τ,G,r,hs,hg,ht,hR⟩=>⟨τ,G,_,hs,hg,ht,λvs H1 ws G1 t1 r1 g1 q1=>by
   split at q1
   ·obtain⟨v,rfl,r2⟩:=r1.one;cases r2 with
    | int j=>exact⟨_,rfl,q1.1,q1.2.1,hR _ H1 _ _ G1 t1 g1 vP q1.2.2⟩
   ·exact q1.elim⟩
noncomputable def jc (C:Gp->Prop) (g:WG) (tb:WS) (d:dm):List W->cT->Gp->Prop
 | [],τ,G=>C G/\d.nx τ G
 | w::ws,τ,G=>C G/\g w τ G λτ2 G2=>tb { d with nx:=jc C g tb d ws,ct:=jc C g tb d ws,bk:=d.nx } τ2 G2
noncomputable def Bw (wi:WI) (g:WG) (tb:WS):WS:=λd τ G=>wi τ G λws C G1=>jc C g tb d ws τ G1
theorem dQ {iter:Expr} {wi:WI} {g:WG} {tb:WS} (hp:PassesOwn (model X.prog X.w) X.A X.env X.xe) (hc:X.calm=true) (hi:QI X tg iter wi) (hg:QG X tg g) (hb:nG X body tb)
 (hs:∀x,foldedSetIterable iter X.env x=pure x:=by intro _;rfl):QS X (.For tg iter body [] pos) (Bw wi g tb):=
 (yF hp hc hi hg hb hs).imp λD σ H z0=>z0.el λτ G d hs hg ht l=>⟨τ,G,_,hs,hg,ht,λJ H1 ws C G1 t1 g1 it q1=>by
   refine⟨λi m σ2 H2=>∃τ2 G2,m=ws.length-i/\i<=ws.length/\aT H1 H2/\bC X.K H2 τ2 σ2/\aO X.K H2 G2/\jc C g tb d (ws.drop i) τ2 G2,⟨ws.length,τ,G1,by simp,zero_le _,aT.refl _,hs.mono t1,g1,by simpa using q1⟩,?_⟩;rintro i m σ2 H2 ⟨τ2,G2,rfl,hi,t2,s2,g2,q2⟩
   by_cases hlt:i<ws.length
   ·have ed:ws.drop i=ws[i]::ws.drop (i+1):=List.drop_eq_getElem_cons hlt;rw[ed] at q2;obtain⟨c2,q2⟩:=q2;obtain⟨go,yl⟩:=it.go i ws[i] H2 G2 t2 g2 c2 (ybw hlt);refine .inr ⟨go,λσ3 H3=>∃τ3 G3,aT H1 H3/\bC X.K H3 τ3 σ3/\aO X.K H3 G3/\jc C g tb d (ws.drop (i+1)) τ3 G3,?_,λx H' hy=>?_⟩
    ·rintro σ3 H3 ⟨τ3,G3,t3,s3,g3,q3⟩;exact⟨ws.length- (i+1),by lia,τ3,G3,rfl,hlt,t3,s3,g3,q3⟩
    ·obtain⟨tx,rx,gx⟩:=yl x H' hy;refine⟨ws[i],τ2,G2,_,rx,s2.mono tx,gx,q2,λσ3 H3 τ3 G3 t3 s3 g3 q3=>?_⟩;have tt:=(t2.trans tx).trans t3;have t0:=t1.trans tt;exact⟨τ3,G3,_,s3,g3,q3,⟨λσ4 H4 τ4 G4 t4 s4 g4 q4=>⟨τ4,G4,tt.trans t4,s4,g4,q4⟩,λv H4 w G4 t4=>l.rt v H4 w G4 (t0.trans t4),λσ4 H4 τ4 G4 t4=>l.nx σ4 H4 τ4 G4 (t0.trans t4),λσ4 H4 τ4 G4 t4 s4 g4 q4=>⟨τ4,G4,tt.trans t4,s4,g4,q4⟩⟩⟩
   ·have e:i=ws.length:=by lia
    subst e;rw[List.drop_length] at q2;exact .inl ⟨it.stop _ H2 G2 t2 g2 q2.1 (yby _),l.nx σ2 H2 τ2 G2 (t1.trans t2) s2 g2 q2.2⟩⟩
end
section
variable {prog:Program} {w:World} {A:Around} {E:ydz} {s:Shared}
structure ZA (z p r i j a b:Addr):Prop where
 zp:p≠z
 zr:r≠z
 zi:i≠z
 zj:j≠z
 pr:p≠r
 pi:p≠i
 pj:p≠j
 ri:r≠i
 rj:r≠j
 ij:i≠j
 az:a≠z
 ar:a≠r
 ai:a≠i
 aj:a≠j
 bz:b≠z
 br:b≠r
 bi:b≠i
 bj:b≠j
structure ZT (z p r i j a b:Addr) (n:Nat) (f:Value) (h:Heap):Prop where
 hz:IsZip h z p r f
 hp:IsPair h p (.ref i) (.ref j)
 hr:∃x y,IsPair h r x y
 hi:h.IsTupleIter i a n
 hj:h.IsTupleIter j b n
end
section
variable {prog:Program} {w:World} {A:Around} {R:Result->Shared->Prop} {s:Shared}
noncomputable abbrev nox:Value->Shared->Prop:=λ_ _=>False
noncomputable abbrev xY (ifs:List Expr) (env:Env):Sem Bool:=forIn ifs true λc r=>if r=true then do let ok ←isTrue c env (eval c env);pure (ForInStep.yield ok) else pure (ForInStep.yield r)
theorem qN {elt tg iter:Expr} {ifs:List Expr} {it acc:Value} {env:Env} (I:Nat->Shared->Prop)
 (turn:∀n s,I n s->wpAny (model prog w) A (pyNext it) (λr s1=>match r with
   | none=>R (.ok .next) s1
   | some v=>wpAny (model prog w) A (letOwnedTupleGo tg it v) (λ_ s2=>wpAny (model prog w) A (assign tg env v) (λ_ s3=>wpAny (model prog w) A (xY ifs env) (λok s4=>
      if ok=true then wpAny (model prog w) A (eval elt env) (λx s5=>wpAny (model prog w) A (call (.builtin "list.append") [acc,x]) (λ_ s6=>∃m,m<n/\I m s6) nox s5) nox s4
      else ∃m,m<n/\I m s4) nox s3) nox s2) nox s1) nox s) (n:Nat) (h:I n s):
 codeAny (model prog w) A (.compLoop (.ListComp elt [⟨tg,iter,ifs,0⟩] scope pos) 0 it acc env) R s:=by
 refine codeAny_loop rfl I (λn s hI=>?_) n h;show wpAny _ A ((compTurn (.ListComp elt [⟨tg,iter,ifs,0⟩] scope pos) 0 it acc env).onRaise (λx=>do noteFrame x env;theTreesLotGoes x)) _ _ s;refine wpAny_noted ?_;rw[compTurn_list];refine wax (wpAny_standAt (wax (wpAny_mono (turn n s hI) (λr s1 h1=>?_) λ_ _ z=>z.elim)));cases r with
 | none=>exact way h1
 | some v=>
   refine wax (wpAny_mono h1 (λ_ s2 h2=>wax (wpAny_mono h2 (λ_ s3 h3=>wax (wpAny_mono h3 (λok s4 h4=>?_) λ_ _ z=>z.elim)) λ_ _ z=>z.elim)) λ_ _ z=>z.elim);cases ok with
   | false=>exact way ⟨rfl,h4⟩
   | true=>
     refine wax (wax (wpAny_mono h4 (λx s5 h5=>?_) λ_ _ z=>z.elim));exact wax (wpAny_mono h5 (λ_ s6 h6=>way (way ⟨rfl,h6⟩)) λ_ _ z=>z.elim)
end
noncomputable def fY (env:Env):List (Str×NameKind)->List (Str×Addr)->List (Str×Addr)
 | [],cs=>cs
 | (n,k)::r,cs=>if k== .free then fY env r ((n,(env.cells.lookup n).getD 0)::cs) else fY env r cs
theorem eB {env:Env} (h:∀y∈scope.names,y.2=.free->∃c,env.cells.lookup y.1=some c):closureFor scope env=pure (fY env scope.names []):=by
 unfold closureFor;have key:∀(l:List (Str×NameKind)) (cs:List (Str×Addr)),(∀y∈l,y.2=.free->∃c,env.cells.lookup y.1=some c)->
  (forIn l cs λ(x:Str×NameKind) (r:List (Str×Addr))=>(if (x.2==NameKind.free)=true then (do let y ←cellOf env x.1;pure (ForInStep.yield ((x.1,y)::r))) else pure (ForInStep.yield r):Sem (ForInStep (List (Str×Addr)))))=(pure (fY env l cs):Sem (List (Str×Addr))):=by
  intro l
  induction l with
  | nil=>intro cs _;rfl
  | cons y r ih=>
    intro cs hl;obtain⟨n,k⟩:=y;rw[List.forIn_cons];unfold fY
    by_cases hk:(k==NameKind.free)=true
    ·have hk':k=.free:=by simpa using hk
     obtain⟨c,hc⟩:=hl (n,k) yaz hk';simp only[hk,if_true];have e:cellOf env n=pure c:=by unfold cellOf;rw[hc]
     rw[e,hc];simp only[pure_bind,Option.getD_some];exact ih _ λy hy=>hl y (yay _ hy)
    ·simp only[hk,if_false,Bool.false_eq_true];simp only[pure_bind];exact ih _ λy hy=>hl y (yay _ hy)
 have:=key scope.names [] h;simp only[bind_pure];exact this
theorem dN {env:Env}:∀{l:List (Str×NameKind)} {cs:List (Str×Addr)},(∀y∈l,y.2=.free->∃c,env.cells.lookup y.1=some c)->(∀x c,cs.lookup x=some c->env.cells.lookup x=some c)->∀x c,(fY env l cs).lookup x=some c->env.cells.lookup x=some c
 | [],_,_,hc,x,c,e=>hc x c e
 | (n,k)::r,cs,hl,hc,x,c,e=>by
   unfold fY at e;have hr:∀y∈r,y.2=.free->∃c,env.cells.lookup y.1=some c:=λy hy=>hl y (yay _ hy);split at e
   ·rename_i hk;obtain⟨c0,hc0⟩:=hl (n,k) yaz (by simpa using hk);refine dN hr (λx' c' e'=>?_) x c e;rw[lookup_cons] at e';cases hx:x'==n with
    | true=>
      rw[hx] at e';have:x'=n:=by simpa using hx
      subst this;rw[hc0] at e';simp at e';subst e';exact hc0
    | false=>rw[hx] at e';exact hc x' c' e'
   ·exact dN hr hc x c e
theorem eX {env:Env}:∀{l:List (Str×NameKind)} {cs:List (Str×Addr)} {x:Str},((x,NameKind.free)∈l∨∃c,cs.lookup x=some c)->∃c,(fY env l cs).lookup x=some c
 | [],_,_,h=>by
   rcases h with h | h
   ·simp at h
   ·exact h
 | (n,k)::r,cs,x,h=>by
   unfold fY;have keep:(∃c,cs.lookup x=some c)->∃c,((n,(env.cells.lookup n).getD 0)::cs).lookup x=some c:=λ⟨c,e⟩=>by
    rw[lookup_cons];cases hx:x==n with
    | true=>exact⟨_,rfl⟩
    | false=>exact⟨c,e⟩
   split
   ·rename_i hk;refine eX ?_;rcases h with h | h
    ·rcases mem_cons.mp h with h | h
     ·cases h;exact .inr ⟨(env.cells.lookup n).getD 0,by rw[lookup_cons];simp⟩
     ·exact .inl h
    ·exact .inr (keep h)
   ·rename_i hk;refine eX ?_;rcases h with h | h
    ·rcases mem_cons.mp h with h | h
     ·cases h;exact absurd rfl hk
     ·exact .inl h
    ·exact .inr h
theorem dE {env:Env}:∀{l:List (Str×NameKind)} {x:Str} {k:NameKind},(l.map λ(n,k)=>if (k==NameKind.free&&env.scope.kind== .function&&env.kindOf n==some .cell) then (n,NameKind.cell) else (n,k)).lookup x=some k->(k=.cell∨k=.free)->(∀y∈l,y.2≠ .cell)->(x,NameKind.free)∈l
 | [],_,_,e,_,_=>by simp at e
 | (n,k0)::r,x,k,e,hk,hc=>by
   rw[map_cons,lookup_cons] at e;have hr:∀y∈r,y.2≠ .cell:=λy hy=>hc y (yay _ hy);have hn:(if (k0==NameKind.free&&env.scope.kind== .function&&env.kindOf n==some .cell)=true then (n,NameKind.cell) else (n,k0)).1=n:=by split<;> rfl
   rw[hn] at e;cases hx:x==n with
   | false=>rw[hx] at e;exact yay _ (dE e hk hr)
   | true=>
     rw[hx] at e;have hxn:x=n:=by simpa using hx
     subst hxn;have e':(if (k0==NameKind.free&&env.scope.kind== .function&&env.kindOf x==some .cell)=true then (x,NameKind.cell) else (x,k0)).2=k:=Option.some.inj e
     by_cases hf:k0=.free
     ·subst hf;exact yaz
     ·rw[ybv (by simp[hf])] at e';have e'':k0=k:=e';subst e'';rcases hk with h | h
      ·exact absurd h (hc _ yaz)
      ·exact absurd h hf
theorem fC {env:Env}:∀{l:List (Str×NameKind)} {x:Str},(l.map λ(n,k)=>if (k==NameKind.free&&env.scope.kind== .function&&env.kindOf n==some .cell) then (n,NameKind.cell) else (n,k)).lookup x=some .local->l.lookup x=some .local
 | [],_,e=>by simp at e
 | (n,k0)::r,x,e=>by
   rw[map_cons,lookup_cons] at e;rw[lookup_cons];have hn:(if (k0==NameKind.free&&env.scope.kind== .function&&env.kindOf n==some .cell)=true then (n,NameKind.cell) else (n,k0)).1=n:=by split<;> rfl
   rw[hn] at e;cases hx:x==n with
   | false=>rw[hx] at e;exact fC e
   | true=>
     rw[hx] at e;have e':(if (k0==NameKind.free&&env.scope.kind== .function&&env.kindOf n==some .cell)=true then (n,NameKind.cell) else (n,k0)).2=NameKind.local:=Option.some.inj e;split at e'
     ·cases e'
     ·exact congrArg some e'
noncomputable def fO (X:Cx) (N:List Str) (scope:Scope) (C:Addr) (fp:List Addr) (s₀:Shared) (H₀:Hp):Cx where
 prog:=X.prog
 w:=X.w
 K:=X.K
 mg:=X.mg
 base:=X.base
 A:=X.A
 N:=N
 s₀:=s₀
 H₀:=H₀
 env:=compEnvC scope (fY X.env scope.names []) C X.env
 outer:=X.stack
 stack:=X.stack
 ex:=fp
 fn:=λ_=>false
 calm:=X.calm
 pn:=[]
 xe:=nox
structure eC (X:Cx) (scope:Scope) (N:List Str) (fv:List (Option Nat)):Prop where
 kind:scope.kind=.function
 nocell:∀y∈scope.names,y.2≠ .cell
 names:∀x∈scope.names,x.2=.local->scope.names.lookup x.1=some .local
 free:∀y∈scope.names,y.2=.free->X.env.scope.names.lookup y.1=some .cell
 fvs:∀(i j:Nat) (x:Str),N[i]?=some x->fv[i]?=some (some j)->X.N[j]?=some x/\X.env.scope.names.lookup x=some .cell/\(x,NameKind.free)∈scope.names
 len:fv.length=N.length
 fvl:∀{x:Str},(x,NameKind.free)∈scope.names->scope.names.lookup x≠some .local
noncomputable def pick {α:Type} (fv:List (Option Nat)) (σ:List (Option α)):List (Option α):=fv.map λo=>o.bind λj=>(σ[j]?).join
theorem mw {α:Type} {fv:List (Option Nat)} {σ:List (Option α)} {v:α} (h:(pick fv σ)[i]?=some (some v)):∃j,fv[i]?=some (some j)/\σ[j]?=some (some v):=by
 unfold pick at h;rw[List.getElem?_map] at h;cases e:fv[i]? with
 | none=>rw[e] at h;cases h
 | some o=>
   rw[e] at h;cases o with
   | none=>cases h
   | some j=>
     have h':(σ[j]?).join=some v:=Option.some.inj h;refine⟨j,rfl,?_⟩;cases e2:σ[j]? with
     | none=>rw[e2] at h';cases h'
     | some o=>rw[e2] at h';exact congrArg some h'
theorem sM {H:Hp} {τ:cT} {σ:St} {fv:List (Option Nat)} (h:bC K H τ σ):bC K H (pick fv τ) (pick fv σ):=by
 refine⟨by simp[pick],λi w e=>?_⟩;obtain⟨j,ej,ew⟩:=mw e;obtain⟨v,ev,r⟩:=h.2 j w ew;refine⟨v,?_,r⟩;unfold pick;rw[List.getElem?_map,ej];show some ((σ[j]?).join)=_;rw[ev]
 rfl
section
variable {X:Cx} {π:List (Addr×Obj)} {σ:St} {H H2:Hp} {s s2:Shared} {scope:Scope} {N:List Str} {fv:List (Option Nat)} {fp:List Addr} {C D:Addr}
theorem eC.cells (S:eC X scope N fv) (I:aI X π σ H s):∀y∈scope.names,y.2=.free->∃c,X.env.cells.lookup y.1=some c:=λy hy hk=>I.ok.has y.1 (.inl (S.free y hy hk))
theorem qO {h4:Heap} {t4:Nat} {m:ydv} (I:aI X π σ H2 s2) (S:eC X scope N fv) (hf:∀b∈fp,iD X π H2 b) (hfo:∀b∈fp,b<s2.heap.objs.size) (keep:∀b o,s2.heap.get? b=some o->h4.get? b=some o)
 (hC:s2.heap.objs.size<=C) (ns:h4.Ns C m):aI (fO X N scope C fp s2 H2) [] (pick fv σ) H2 { s2 with heap:=h4,toks:=t4 }:=by
 have look:∀x c,(fY X.env scope.names []).lookup x=some c->X.env.cells.lookup x=some c:=dN (S.cells I) (λx c e=>by simp at e);refine⟨⟨I.ok.mod,S.kind,I.ok.glob,I.ok.blt,hC,λx y c e1 e2=>I.ok.inj x y c (look x c e1) (look y c e2),λx hx=>?_,λx c h=>absurd (show false=true from h) ycy,I.ok.hd,I.ok.frames,.inl rfl,λb hb=>?_,I.bs,ybz I.ok.bsz I.sz,λb o e hb=>?_,λb hb hx=>?_,I.stack,I.stkFree⟩,
  rfl,I.bare,Un.kept keep,⟨m,ns,λi x v e1 e2 e3=>?_⟩,λx c e=>?_,I.hok.fresh hC,λx c e=>I.freeC x c (look x c e),λp hp=>absurd (show p∈([]:List (Addr×Obj)) from hp) (by simp),I.hok.kept keep,?_⟩
 ·rcases hx with hx | hx
  ·exact eX (.inl (dE hx (.inl rfl) S.nocell))
  ·exact eX (.inl (dE hx (.inr rfl) S.nocell))
 ·exact⟨ne_of_lt (ycv (hfo b hb) hC),λx c e=>(hf b hb).2.2.2.2.1 x c (look x c e)⟩
 ·rcases(hf b hb).2.2.2.1 with z | z
  ·exact I.ok.noex b o e z
  ·exact absurd (ycv (ybx e) (ybz I.ok.bsz z)) (lt_irrefl _)
 ·rcases mem_cons.mp (I.stkSub b hx) with z | z
  ·exact(hf b hb).2.1 z
  ·exact(hf b hb).2.2.1 z
 ·obtain⟨j,ej,ev⟩:=mw e2;obtain⟨h1,h2,h3⟩:=S.fvs i j x e1 ej;obtain⟨m0,_,hl⟩:=I.loc;obtain⟨u,r,l⟩:=hl j x v h1 ev (.inr (.inl h2));refine⟨u,r,.inr ?_⟩;rcases l with⟨k,_⟩ | ⟨_,c,ec,o,ho,hd⟩
  ·exact absurd (h2.symm.trans k) (by intro z;cases z)
  ·obtain⟨c',ec'⟩:=eX (env:=X.env) (l:=scope.names) (cs:=[]) (x:=x) (.inl h3);have e':=look x c' ec';rw[ec] at e';cases e';refine⟨?_,c,ec',o,keep _ _ ho,hd⟩;rcases e3 with e3 | e3 | e3
   ·exact absurd (fC e3) λz=>S.fvl h3 z
   ·exact .inl e3
   ·exact .inr e3
 ·obtain⟨v,o,ho,hd⟩:=I.cell x c (look x c e);exact⟨v,o,keep _ _ ho,hd⟩
 ·show(pick fv σ).length=N.length;unfold pick;rw[length_map,S.len]
end
noncomputable def cu (C:Gp->Prop) (g:WG) (tt:WT) (te:WE):List W->cT->Gp->List W->(List W->Gp->Prop)->Prop
 | [],_,G,acc,q=>C G/\q acc G
 | w::ws,τ,G,acc,q=>C G/\g w τ G λτ2 G2=>tt τ2 G2 λb G3=>if b=true then te τ2 G3 λv G4=>acc.length+1<=100000/\cu C g tt te ws τ2 G4 (acc++[v]) q else cu C g tt te ws τ2 G3 acc q
noncomputable def xZ (X:Cx) (ifs:List Expr) (t:WT):Prop:=
 ∀(π:List (Addr×Obj)) (s:Shared) (σ:St) (H:Hp) (Q:Bool->Hp->Prop),aI X π σ H s->y7 X.K t σ H Q->wpAny (model X.prog X.w) X.A (xY ifs X.env) (TP X π σ Q) X.xe s
noncomputable def j7:WT:=λ_ G q=>q true G
theorem dr {X:Cx}:xZ X [] j7:=λπ s σ H Q I ⟨τ,G,q,hs,hg,ht,hQ⟩=>wpAny_tests_nil ⟨H,I,hQ true H G (aT.refl H) hg ht⟩
theorem vQ {X:Cx} {c:Expr} {t:WT} (h:QT X c t):xZ X [c] t:=λπ s σ H Q I hw=>wpAny_tests_one (h π s σ H Q I hw)
theorem aO.track {H:Hp} {G:Gp} {p:Addr} {xs:List V} {ws:List W} (h:aO K H G) (e:H p=some (.lst xs)) (r:aV K H ws xs) (hl:ws.length<=100000):aO K H (aK G p (.lst ws)):=λa g ea=>by
 by_cases hb:a=p
 ·subst hb;rw[ah] at ea;cases ea;exact⟨hl,xs,e,r⟩
 ·rw[ap hb] at ea;exact h a g ea
section
variable {X:Cx} {π:List (Addr×Obj)} {σ:St} {H2:Hp} {s2:Shared} {scope:Scope} {N:List Str} {fv:List (Option Nat)} {fp:List Addr} {tg elt iter:Expr} {ifs:List Expr} {pos:Pos} {J:It} {it:Addr} {tn:Nat->Heap->Prop}
 {g:WG} {tt:WT} {te:WE} {ws:List W} {Cd:Gp->Prop} {τ:cT} {G:Gp} {q:List W->Gp->Prop}
structure vR (X:Cx) (π:List (Addr×Obj)) (σ:St) (H2:Hp) (s2:Shared) (G:Gp) (q:List W->Gp->Prop) (D C:Addr) (s':Shared):Prop where
 ex:∃(Hf:Hp) (Gf:Gp) (rs:List W),(∃m,s'.heap.Ns C m)/\aI X π σ Hf s'/\Hf C=none/\s2.heap.objs.size<=C/\aT H2 Hf/\aO X.K Hf (aK Gf D (.lst rs))/\G D=none/\Gf D=none/\q rs Gf
structure Bx (Y:Cx) (fp:List Addr) (tn:Nat->Heap->Prop) (ws:List W) (H2:Hp) (D:Addr) (R:List W->cT->Gp->List W->Prop) (n:Nat) (s:Shared) (i:Nat) (σ1:St) (H1:Hp) (τ1:cT) (G1:Gp) (acc:List W) (vs:List V) (its:ydw):Prop where
 hn:n=ws.length-i
 hi:i<=ws.length
 inv:aI Y [] σ1 H1 s
 st:tn i s.heap
 fr:∀b∈fp,H1 b=none
 hd:H1 D=none
 pl:s.heap.PlainList D its.toArray
 rv:aW vs its
 ra:aV Y.K H1 acc vs
 tl:aT H2 H1
 rs:bC Y.K H1 τ1 σ1
 rg:aO Y.K H1 G1
 cw:R (ws.drop i) τ1 G1 acc
 hl:acc.length<=100000
theorem eE (I:aI X π σ H2 s2) (S:eC X scope N fv) (hc:X.calm=true) (T:kI X.prog X.w X.K tg J fp it tn) (st:tn 0 s2.heap) (hf:∀b∈fp,iD X π H2 b)
 (hg:∀C,QG (fO X N scope C fp s2 H2) tg g) (htt:∀C,xZ (fO X N scope C fp s2 H2) ifs tt) (hte:∀C,QE (fO X N scope C fp s2 H2) elt te)
 (itn:pB X.K J ws Cd H2) (hs:bC X.K H2 τ σ) (gr:aO X.K H2 G) (hw:cu Cd g tt te ws (pick fv τ) G [] q) {RR:Value->Addr->Result->Shared->Prop} {E:ydz}
 (hRR:∀D C s',vR X π σ H2 s2 G q D C s'->RR (.ref D) C (.ok .next) s'):
 wpAny (model X.prog X.w) X.A (newList []) (λacc s3=>wpAny (model X.prog X.w) X.A (newFunctionEnv scope X.env.globals (fY X.env scope.names []) [] X.env.qual none .none (some X.env)) (λcenv s4=>
  codeAny (model X.prog X.w) X.A (.compStart (.ListComp elt [⟨tg,iter,ifs,0⟩] scope pos) 0 (.ref it) acc { cenv with scope:=relabel scope X.env }) (RR acc cenv.locals) s4) E s3) E s2:=by
 have hfo:∀b∈fp,b<s2.heap.objs.size:=λb hb=>let ⟨o,e,_⟩:=T.obj _ _ st b hb;ybx e;refine wpAny_newObj_type (wpAny_newFunctionEnv S.nocell (by intro y hy;simp at hy) (λh1 hns1 hsb1=>?_) S.kind);dsimp only at hns1 hsb1 ⊢;generalize hP:s2.heap.push { cls:= .type "list",dict:=none,data:= .seq ([]:ydw).toArray }=P at hns1 hsb1 ⊢;generalize hD:s2.heap.objs.size=D at*;have hC:P.objs.size=D+1:=by rw[←hP,Heap.size_push,hD]
 generalize hCC:P.objs.size=C at*;have hDC:D≠C:=by rw[hC];exact ne_of_lt (Nat.lt_succ_self _)
 have hDleC:D<=C:=by rw[hC];exact le_succ _
 have old:∀b o,s2.heap.get? b=some o->h1.get? b=some o:=λb o e=>hsb1.extBut b o (ne_of_lt (ycv (ybx e) (by rw[hD];exact hDleC))) (yaw _ (hP▸yaw _ e));have hacc:h1.PlainList D #[]:=⟨0,hsb1.extBut _ _ hDC (yaw _ (by rw[←hP,←hD];exact yav _ rfl))⟩;have look:∀x c,(fY X.env scope.names []).lookup x=some c->X.env.cells.lookup x=some c:=dN (S.cells I) (λx c e=>by simp at e);have cD:∀x c,(fY X.env scope.names []).lookup x=some c->c≠D:=λx c e z=>by
  obtain⟨v,o,ho,_⟩:=I.cell x c (look x c e);exact absurd (ybx ho) (by rw[z,hD];exact lt_irrefl _)
 have sD:D∉fw X.stack:=λhb=>by
  rcases mem_cons.mp (I.stkSub D hb) with z | z
  ·exact absurd I.lt (by rw[←z,hD];exact lt_irrefl _)
  ·exact I.nofs (by rw[hD];exact yby _) z
 have fD:D∉fp:=λhb=>absurd (hfo D hb) (lt_irrefl _);have fpX:∀{H1:Hp} {ps:List (Addr×Obj)},(∀b∈fp,H1 b=none)->(∀p∈ps,p.1∉fp)->∀b∈fp,iD (fO X N scope C fp s2 H2) ps H1 b:=λ{H1 ps} hn hp b hb=>by
  refine⟨hn b hb,ne_of_lt (ycv (hfo b hb) hDleC),λhx=>?_,.inl hb,λx c e=>(hf b hb).2.2.2.2.1 x c (look x c e),λp hp' z=>hp p hp' (z▸hb)⟩;rcases mem_cons.mp (I.stkSub b hx) with z | z
  ·exact(hf b hb).2.1 z
  ·exact(hf b hb).2.2.1 z
 have J0:aI (fO X N scope C fp s2 H2) [] (pick fv σ) H2 { s2 with heap:=h1,toks:=s2.toks+([]:List (Str×Value)).length }:=qO I S hf (by rw[hD];exact hfo) old (by rw[hD];exact hDleC) hns1;have loop:codeAny (model X.prog X.w) X.A (.compLoop (.ListComp elt [⟨tg,iter,ifs,0⟩] scope pos) 0 (.ref it) (.ref D) (fO X N scope C fp s2 H2).env) (RR (.ref D) C) { s2 with heap:=h1,toks:=s2.toks+([]:List (Str×Value)).length }:=by
  refine qN (λn s=>∃i σ1 H1 τ1 G1 acc vs its,Bx (fO X N scope C fp s2 H2) fp tn ws H2 D (λl τ1 G1 acc=>cu Cd g tt te l τ1 G1 acc q) n s i σ1 H1 τ1 G1 acc vs its) ?_ ws.length
   ⟨0,_,H2,_,G,[],[],[],by simp,zero_le _,J0,T.keep _ _ _ st λb _ o e=>old b o e,λb hb=>(hf b hb).1,I.hok.fresh (by rw[hD];exact yby _),hacc,.nil,.nil,aT.refl _,sM hs,gr,by simpa using hw,by simp⟩
  rintro n s ⟨i,σ1,H1,τ1,G1,acc,vs,its,rfl,hi,J1,st1,fr1,d1,pl1,rv1,ra1,t1,s1,g1,q1,hl1⟩;obtain⟨kk,eD⟩:=pl1;have J1p:aI (fO X N scope C fp s2 H2) [(D,{ cls:= .type "list",data:= .seq its.toArray kk })] σ1 H1 s:=J1.pins_of λp hp=>by
   have e:=mem_singleton.mp hp;subst e;exact⟨eD,d1,hDC,sD,λv z=>by cases z⟩
  have pnf:∀p∈[((D,{ cls:= .type "list",data:= .seq its.toArray kk }):Addr×Obj)],p.1∉fp:=λp hp=>by
   have e:=mem_singleton.mp hp;subst e;exact fD
  by_cases hlt:i<ws.length
  ·have ed:ws.drop i=ws[i]::ws.drop (i+1):=List.drop_eq_getElem_cons hlt;rw[ed] at q1;obtain⟨c1,q1⟩:=q1;obtain⟨go,yl⟩:=itn.go i ws[i] H1 G1 t1 g1 c1 (ybw hlt);refine cf (T.item (fO X N scope C fp s2 H2) rfl rfl rfl hc i _ s σ1 H1 nox J1p (fpX fr1 pnf) st1 go) λr s4 z9=>?_;obtain⟨u,hr,h4⟩:=z9;subst hr;refine cf h4 λ_ s5 z9=>?_;obtain⟨x,H5,I5,r5,y5,st5,fr5⟩:=z9;obtain⟨tx,rx,gx⟩:=yl x H5 y5;have I5':=I5.pinned (fpX fr5 pnf) (T.obj _ _ st5);refine cf (hg C _ s5 σ1 H5 x u (λσ6 H6=>∃τ6 G6,aT H5 H6/\bC X.K H6 τ6 σ6/\aO X.K H6 G6/\tt τ6 G6 λb G3=>if b=true then te τ6 G3 λv G4=>acc.length+1<=100000/\cu Cd g tt te (ws.drop (i+1)) τ6 G4 (acc++[v]) q else cu Cd g tt te (ws.drop (i+1)) τ6 G3 acc q) I5' r5
    ⟨ws[i],τ1,G1,_,rx,s1.mono tx,gx,q1,λσ6 H6 τ6 G6 t6 s6 g6 q6=>⟨τ6,G6,t6,s6,g6,q6⟩⟩) λ_ s6 ⟨σ6,H6,I6,τ6,G6,t6,rs6,g6,q6⟩=>?_
   refine cf (htt C _ s6 σ6 H6 (λb H7=>∃G7,aT H6 H7/\aO X.K H7 G7/\(if b=true then te τ6 G7 λv G4=>acc.length+1<=100000/\cu Cd g tt te (ws.drop (i+1)) τ6 G4 (acc++[v]) q else cu Cd g tt te (ws.drop (i+1)) τ6 G7 acc q)) I6
    ⟨τ6,G6,_,rs6,g6,q6,λb H7 G7 t7 g7 q7=>⟨G7,t7,g7,q7⟩⟩) λok s7 ⟨H7,I7,G7,t7,g7,q7⟩=>?_
   have t17:aT H1 H7:=(tx.trans t6).trans t7
   -- what the π keep up to a later state
   have keepFp:∀{σ8:St} {H8:Hp} {s8:Shared},aI (fO X N scope C fp s2 H2) ([(D,{ cls:= .type "list",data:= .seq its.toArray kk })]++iT fp s5.heap) σ8 H8 s8->tn (i+1) s8.heap/\(∀b∈fp,H8 b=none)/\H8 D=none/\s8.heap.get? D=some { cls:= .type "list",data:= .seq its.toArray kk }/\∀b∈fp,∃o,s8.heap.get? b=some o:=λ{σ8 H8 s8} I8=>by
    refine⟨T.keep _ _ _ st5 λb hb o e=>(I8.pin (b,o) (ydy _ (ydy _ (dz hb e)))).1,λb hb=>?_,(I8.pin (D,_) (ydy _ (mem_append_left _ yaz))).2.1,(I8.pin (D,_) (ydy _ (mem_append_left _ yaz))).1,λb hb=>?_⟩
    ·obtain⟨o,e,_⟩:=T.obj _ _ st5 b hb;exact(I8.pin (b,o) (ydy _ (ydy _ (dz hb e)))).2.1
    ·obtain⟨o,e,_⟩:=T.obj _ _ st5 b hb;exact⟨o,(I8.pin (b,o) (ydy _ (ydy _ (dz hb e)))).1⟩
   cases ok with
   | false=>
     rw[ybv ycy] at q7 ⊢;obtain⟨k1,k2,k3,k4,_⟩:=keepFp I7;exact⟨ws.length- (i+1),by lia,i+1,σ6,H7,τ6,G7,acc,vs,its,rfl,hlt,I7.pins_of λp hp=>absurd hp (by simp),k1,k2,k3,⟨kk,k4⟩,rv1,ra1.mono t17,t1.trans t17,rs6.mono t7,g7,q7,hl1⟩
   | true=>
     rw[ycx rfl] at q7 ⊢;refine cf (hte C _ s7 σ6 H7 (λv H8=>∃w8 G8,aT H7 H8/\bN X.K H8 w8 v/\aO X.K H8 G8/\acc.length+1<=100000/\cu Cd g tt te (ws.drop (i+1)) τ6 G8 (acc++[w8]) q) I7
      ⟨τ6,G7,_,rs6.mono t7,g7,q7,λv H8 w8 G8 t8 r8 g8 q8=>⟨w8,G8,t8,r8,g8,q8⟩⟩) λu8 s8 ⟨v8,H8,I8,rv8,w8,G8,t8,r8,g8,hl8,q8⟩=>?_
     obtain⟨k1,k2,k3,k4,k5⟩:=keepFp I8;have t18:aT H1 H8:=t17.trans t8;refine wpAny_list_append_plain ⟨kk,k4⟩ (λh9 pl9 sb9=>?_) (by rw[size_toArray,←rv1.length,←ra1.length];exact bR hl1);have I9:aI (fO X N scope C fp s2 H2) [] σ6 H8 { s8 with heap:=h9 }:=(I8.pins_of (pins':=[]) λp hp=>absurd hp (by simp)).turned (t':=s8.toks) (λb o hb e=>(sb9.2 b hb).trans e) k3 hDC (.inr (by show s2.heap.objs.size<=D;rw[hD];exact yby _)) (λx c e=>cD x c e) λp hp=>absurd (show p∈([]:List (Addr×Obj)) from hp) (by simp);refine⟨ws.length- (i+1),by lia,i+1,σ6,H8,τ6,G8,acc++[w8],vs++[v8],its++[u8],rfl,hlt,I9,T.keep _ _ _ k1 λb hb o e=>(sb9.2 b (λz=>fD (z▸hb))).trans e,k2,k3,by simpa using pl9,rv1.append (.cons rv8 .nil),(ra1.mono t18).append (.cons r8 .nil),t1.trans t18,(rs6.mono t7).mono t8,g8,q8,by rw[length_append];exact hl8⟩
  ·have e:i=ws.length:=by lia
   subst e;rw[List.drop_length] at q1;refine cf (T.done (fO X N scope C fp s2 H2) rfl rfl rfl hc _ _ s σ1 H1 nox J1p (fpX fr1 pnf) st1 (itn.stop _ H1 G1 t1 g1 q1.1 (yby _))) λr s4 z9=>?_;obtain⟨hr,I4⟩:=z9;subst hr;have eD4:=(I4.pin (D,_) (ydy _ yaz)).1;have zl:vs.length<=sizeLine:=by rw[←ra1.length];exact bR hl1
   have hb2:∀b o,s2.heap.get? b=some o->b≠D:=λb o e=>by
    have:=ybx e;rw[hD] at this;exact ne_of_lt this
   refine hRR D C s4 ⟨upd H1 D (.lst vs),G1,acc,let ⟨m,hn,_⟩:=I4.loc;⟨m,hn⟩,?_,?_,by rw[hD];exact hDleC,t1.trans (aT.new d1 _),?_,gr.fresh (I.hok.fresh (by rw[hD];exact yby _)),g1.fresh d1,q1.2⟩
   ·refine I.call' (ch:=fp) I4.os ⟨λb o e n hb hx=>I4.base.keep b o e n hb hx,λb o e n hb hx=>I4.base.slot b o e n hb hx,λb o e n hx=>?_,λb o e hx=>I4.base.there b o e hx,λb xs e=>?_,λb o u e=>?_,λb ps e=>?_⟩ ?_ I4.bare λb hb=>⟨(hf b hb).2.2.2.1,(hf b hb).2.1,λx c e=>(hf b hb).2.2.2.2.1 x c e,λp hp=>(hf b hb).2.2.2.2.2 p hp⟩
    ·rw[aJ (hb2 b o e)];exact I4.base.free b o e n hx
    ·rw[aJ (bg (I4.base.tups b xs e) d1)];exact I4.base.tups b xs e
    ·rw[aJ (bg (I4.base.frzs b o u e) d1)];exact I4.base.frzs b o u e
    ·obtain⟨more,e'⟩:=I4.base.tbls b ps e;exact⟨more,by rw[aJ (bg e' d1)];exact e'⟩
    ·intro b u e
     by_cases hbD:b=D
     ·subst hbD;rw[bd] at e;cases e;exact⟨zl,its,kk,rv1,eD4⟩
     ·rw[aJ hbD] at e;exact(I4.hok b u e).stay (λc v _ q=>q) (λc q=>by rw[aJ (bg q d1)];exact q) λc xs q=>by rw[aJ (bg q d1)];exact q
   ·rw[aJ (Ne.symm hDC)];exact I4.free
   ·exact(g1.upd (aT.new d1 _) (g1.fresh d1)).track bd (ra1.mono (aT.new d1 _)) hl1
 exact codeAny_compStart_list loop (T.self _ 0 _ _ _ (T.keep _ _ _ st λb _ o e=>old b o e) loop)
noncomputable def sN (wi:WI) (fv:List (Option Nat)) (g:WG) (tt:WT) (te:WE):WE:=λτ G q=>wi τ G λws Cd G1=>cu Cd g tt te ws (pick fv τ) G1 [] λrs G2=>∀p,G1 p=none->q (.ref p) (aK G2 p (.lst rs))
theorem fh {wi:WI} (S:eC X scope N fv) (hc:X.calm=true) (hi:QI X tg iter wi) (hg:∀C fp s2 H2,QG (fO X N scope C fp s2 H2) tg g) (htt:∀C fp s2 H2,xZ (fO X N scope C fp s2 H2) ifs tt) (hte:∀C fp s2 H2,QE (fO X N scope C fp s2 H2) elt te)
 (hs:∀x,foldedSetIterable iter X.env x=pure x:=by intro _;rfl):QE X (.ListComp elt [⟨tg,iter,ifs,0⟩] scope pos) (sN wi fv g tt te):=by
 rintro π s σ H Q I ⟨τ,G,q,hτ,hG,ht,hQ⟩;rw[eval_ListComp];refine wpAny_comprehension_free (use:=none) rfl hs (eB (S.cells I)) S.kind S.names (cf (hi π s σ H (λJ H1=>∃ws Cd G1,aT H H1/\aO X.K H1 G1/\pB X.K J ws Cd H1/\cu Cd g tt te ws (pick fv τ) G1 [] λrs G2=>∀p,G1 p=none->q (.ref p) (aK G2 p (.lst rs))) I
  ⟨τ,G,_,hτ,hG,ht,λJ H1 ws C G1 t1 g1 it r1=>⟨ws,C,G1,t1,g1,it,r1⟩⟩) λv s1 h1=>cf h1 λitv s2 h2=>?_)
 obtain⟨it,fp,tn,J,H2,e,I2,T,st2,f2,ws,Cd,G1,t1,g1,itn,hw⟩:=h2;subst e;refine eE (RR:=λacc C=>compPost (model X.prog X.w) X.A X.xe none (EP X π σ Q) acc C) I2 S hc T st2 f2 (λC=>hg C fp s2 H2) (λC=>htt C fp s2 H2) (λC=>hte C fp s2 H2) itn (hτ.mono t1) g1 hw λD C s' z9=>?_;obtain⟨Hf,Gf,rs,⟨m,hn⟩,I5,hC,hCs,t5,g5,hD,hD2,q5⟩:=z9;refine⟨m,hn,λh' sb=>?_⟩;have hlt:C≠X.env.locals:=λz=>absurd I2.lt (not_lt.mpr (z▸hCs));have I6:aI X π σ Hf { s' with heap:=h' }:=I5.turned (t':=s'.toks) (λb o hb e=>(sb.2 b hb).trans e) hC hlt (.inr (ybz I2.sz hCs)) (λx c e z=>by
  obtain⟨v,o,ho,_⟩:=I2.cell x c e;exact absurd (ybx ho) (not_lt.mpr (z▸hCs))) λp hp z=>absurd (ybx (I2.pin p hp).1) (not_lt.mpr (z▸hCs))
 exact⟨.ref D,Hf,I6,rfl,hQ _ Hf _ _ (t1.trans t5) (.ref D) g5 (q5 D hD)⟩
theorem vS (i:Nat) {y:Str} {py spos:Pos} {wi:WI} (S:eC X scope N fv) (hc:X.calm=true) (hN:X.N.Nodup) (hiN:X.N[i]?=some y) (hy:vc X.env.scope y) (hi:QI X tg iter wi) (hg:∀C fp s2 H2,QG (fO X N scope C fp s2 H2) tg g) (htt:∀C fp s2 H2,xZ (fO X N scope C fp s2 H2) ifs tt) (hte:∀C fp s2 H2,QE (fO X N scope C fp s2 H2) elt te)
 (hsw:swapsWith (.ListComp elt [⟨tg,iter,ifs,0⟩] scope pos) (some (.Name y py)) spos.line X.env=pure true:=by rfl) (hs:∀x,foldedSetIterable iter X.env x=pure x:=by intro _;rfl) (hfn:X.fn y=true∨X.env.scope.names.lookup y=some .local:=by first | exact .inl rfl | exact .inr rfl | assumption):
 QS X (.Assign [.Name y py] (.ListComp elt [⟨tg,iter,ifs,0⟩] scope pos) spos) (vE (sN wi fv g tt te) (cV i)):=by
 rintro π s σ H D0 I ⟨τ,G,d,hτ,hG,ht,l⟩;rw[exec_Assign_Name_used _ _ _ _ hsw];refine wax (wpAny_standAt (wax ?_));show wpAny _ _ (do let _ ←comprehension (.ListComp elt [⟨tg,iter,ifs,0⟩] scope pos) scope X.env _ (newList []) false (eval iter X.env) (some (assign (.Name y py) X.env))) _ _ s;refine wax (wpAny_mono (wpAny_comprehension_free (use:=some (assign (.Name y py) X.env)) (Q:=λ_ s'=>SP X π D0 .next s') rfl hs (eB (S.cells I)) S.kind S.names (cf (hi π s σ H (λJ H1=>∃ws Cd G1,aT H H1/\aO X.K H1 G1/\pB X.K J ws Cd H1/\cu Cd g tt te ws (pick fv τ) G1 [] λrs G2=>∀p,G1 p=none->cV i (.ref p) τ (aK G2 p (.lst rs)) d.nx) I
  ⟨τ,G,_,hτ,hG,ht,λJ H1 ws C G1 t1 g1 it r1=>⟨ws,C,G1,t1,g1,it,r1⟩⟩) λv s1 h1=>cf h1 λitv s2 h2=>?_)) (λ_ s' hq=>way (way hq)) λ_ _ e=>e)
 obtain⟨it,fp,tn,J,H2,e,I2,T,st2,f2,ws,Cd,G1,t1,g1,itn,hw⟩:=h2;subst e;refine eE (RR:=λacc C=>compPost (model X.prog X.w) X.A X.xe (some (assign (.Name y py) X.env)) (λ_ s'=>SP X π D0 .next s') acc C) I2 S hc T st2 f2 (λC=>hg C fp s2 H2) (λC=>htt C fp s2 H2) (λC=>hte C fp s2 H2) itn (hτ.mono t1) g1 hw λD C s' z9=>?_;obtain⟨Hf,Gf,rs,⟨m,hn⟩,I5,hC,hCs,t5,g5,hD,hD2,q5⟩:=z9;have hlt:C≠X.env.locals:=λz=>absurd I2.lt (not_lt.mpr (z▸hCs));have hcell:∀x c,X.env.cells.lookup x=some c->c≠C:=λx c e z=>by
  obtain⟨v,o,ho,_⟩:=I2.cell x c e;exact absurd (ybx ho) (not_lt.mpr (z▸hCs))
 show wpAny _ _ (assign (.Name y py) X.env (.ref D)) _ _ s';refine wpAny_assign_Name (gH I5 hN hiN hy (v:= .ref D) rfl (λs6 I6 z9=>?_) hfn);obtain⟨a,sb6,ha⟩:=z9;have haC:C≠a:=by
  rcases ha with z | z
  ·rw[z];exact hlt
  ·exact Ne.symm (hcell y a z)
 refine⟨m,hn.sameBut sb6 haC,λh' sb=>?_⟩;have I7:aI X π (σ.set i (some (.ref D))) Hf { s6 with heap:=h' }:=I6.turned (t':=s6.toks) (λb o hb e=>(sb.2 b hb).trans e) hC hlt (.inr (ybz I2.sz hCs)) hcell λp hp z=>absurd (ybx (I2.pin p hp).1) (not_lt.mpr (z▸hCs));exact⟨_,Hf,I7,l.nx _ Hf _ _ (t1.trans t5) ((hτ.mono (t1.trans t5)).set (.ref D) i) g5 (q5 D hD)⟩
noncomputable def og (wi:WI) (fv:List (Option Nat)) (g:WG) (tt:WT) (te:WE):WE:=λτ G q=>wi τ G λws Cd G1=>cu Cd g tt te ws (pick fv τ) G1 [] λrs G2=>∀p,G1 p=none->G2 p=none->q (.ref p) (aK G2 p (.lst rs))
theorem sO {wi:WI} (S:eC X scope N fv) (hc:X.calm=true) (hi:QI X tg iter wi) (hg:∀C fp s2 H2,QG (fO X N scope C fp s2 H2) tg g) (htt:∀C fp s2 H2,xZ (fO X N scope C fp s2 H2) ifs tt) (hte:∀C fp s2 H2,QE (fO X N scope C fp s2 H2) elt te)
 (hs:∀x,foldedSetIterable iter X.env x=pure x:=by intro _;rfl):QE X (.ListComp elt [⟨tg,iter,ifs,0⟩] scope pos) (og wi fv g tt te):=by
 rintro π s σ H Q I ⟨τ,G,q,hτ,hG,ht,hQ⟩;rw[eval_ListComp];refine wpAny_comprehension_free (use:=none) rfl hs (eB (S.cells I)) S.kind S.names (cf (hi π s σ H (λJ H1=>∃ws Cd G1,aT H H1/\aO X.K H1 G1/\pB X.K J ws Cd H1/\cu Cd g tt te ws (pick fv τ) G1 [] λrs G2=>∀p,G1 p=none->G2 p=none->q (.ref p) (aK G2 p (.lst rs))) I
  ⟨τ,G,_,hτ,hG,ht,λJ H1 ws C G1 t1 g1 it r1=>⟨ws,C,G1,t1,g1,it,r1⟩⟩) λv s1 h1=>cf h1 λitv s2 h2=>?_)
 obtain⟨it,fp,tn,J,H2,e,I2,T,st2,f2,ws,Cd,G1,t1,g1,itn,hw⟩:=h2;subst e;refine eE (RR:=λacc C=>compPost (model X.prog X.w) X.A X.xe none (EP X π σ Q) acc C) I2 S hc T st2 f2 (λC=>hg C fp s2 H2) (λC=>htt C fp s2 H2) (λC=>hte C fp s2 H2) itn (hτ.mono t1) g1 hw λD C s' z9=>?_;obtain⟨Hf,Gf,rs,⟨m,hn⟩,I5,hC,hCs,t5,g5,hD,hD2,q5⟩:=z9;refine⟨m,hn,λh' sb=>?_⟩;have hlt:C≠X.env.locals:=λz=>absurd I2.lt (not_lt.mpr (z▸hCs));have I6:aI X π σ Hf { s' with heap:=h' }:=I5.turned (t':=s'.toks) (λb o hb e=>(sb.2 b hb).trans e) hC hlt (.inr (ybz I2.sz hCs)) (λx c e z=>by
  obtain⟨v,o,ho,_⟩:=I2.cell x c e;exact absurd (ybx ho) (not_lt.mpr (z▸hCs))) λp hp z=>absurd (ybx (I2.pin p hp).1) (not_lt.mpr (z▸hCs))
 exact⟨.ref D,Hf,I6,rfl,hQ _ Hf _ _ (t1.trans t5) (.ref D) g5 (q5 D hD hD2)⟩
theorem my (i:Nat) {y:Str} {py spos:Pos} {wi:WI} (S:eC X scope N fv) (hc:X.calm=true) (hN:X.N.Nodup) (hiN:X.N[i]?=some y) (hy:vc X.env.scope y) (hi:QI X tg iter wi) (hg:∀C fp s2 H2,QG (fO X N scope C fp s2 H2) tg g) (htt:∀C fp s2 H2,xZ (fO X N scope C fp s2 H2) ifs tt) (hte:∀C fp s2 H2,QE (fO X N scope C fp s2 H2) elt te)
 (hsw:swapsWith (.ListComp elt [⟨tg,iter,ifs,0⟩] scope pos) (some (.Name y py)) spos.line X.env=pure true:=by rfl) (hs:∀x,foldedSetIterable iter X.env x=pure x:=by intro _;rfl) (hfn:X.fn y=true∨X.env.scope.names.lookup y=some .local:=by first | exact .inl rfl | exact .inr rfl | assumption):
 QS X (.Assign [.Name y py] (.ListComp elt [⟨tg,iter,ifs,0⟩] scope pos) spos) (vE (og wi fv g tt te) (cV i)):=by
 rintro π s σ H D0 I ⟨τ,G,d,hτ,hG,ht,l⟩;rw[exec_Assign_Name_used _ _ _ _ hsw];refine wax (wpAny_standAt (wax ?_));show wpAny _ _ (do let _ ←comprehension (.ListComp elt [⟨tg,iter,ifs,0⟩] scope pos) scope X.env _ (newList []) false (eval iter X.env) (some (assign (.Name y py) X.env))) _ _ s;refine wax (wpAny_mono (wpAny_comprehension_free (use:=some (assign (.Name y py) X.env)) (Q:=λ_ s'=>SP X π D0 .next s') rfl hs (eB (S.cells I)) S.kind S.names (cf (hi π s σ H (λJ H1=>∃ws Cd G1,aT H H1/\aO X.K H1 G1/\pB X.K J ws Cd H1/\cu Cd g tt te ws (pick fv τ) G1 [] λrs G2=>∀p,G1 p=none->G2 p=none->cV i (.ref p) τ (aK G2 p (.lst rs)) d.nx) I
  ⟨τ,G,_,hτ,hG,ht,λJ H1 ws C G1 t1 g1 it r1=>⟨ws,C,G1,t1,g1,it,r1⟩⟩) λv s1 h1=>cf h1 λitv s2 h2=>?_)) (λ_ s' hq=>way (way hq)) λ_ _ e=>e)
 obtain⟨it,fp,tn,J,H2,e,I2,T,st2,f2,ws,Cd,G1,t1,g1,itn,hw⟩:=h2;subst e;refine eE (RR:=λacc C=>compPost (model X.prog X.w) X.A X.xe (some (assign (.Name y py) X.env)) (λ_ s'=>SP X π D0 .next s') acc C) I2 S hc T st2 f2 (λC=>hg C fp s2 H2) (λC=>htt C fp s2 H2) (λC=>hte C fp s2 H2) itn (hτ.mono t1) g1 hw λD C s' z9=>?_;obtain⟨Hf,Gf,rs,⟨m,hn⟩,I5,hC,hCs,t5,g5,hD,hD2,q5⟩:=z9;have hlt:C≠X.env.locals:=λz=>absurd I2.lt (not_lt.mpr (z▸hCs));have hcell:∀x c,X.env.cells.lookup x=some c->c≠C:=λx c e z=>by
  obtain⟨v,o,ho,_⟩:=I2.cell x c e;exact absurd (ybx ho) (not_lt.mpr (z▸hCs))
 show wpAny _ _ (assign (.Name y py) X.env (.ref D)) _ _ s';refine wpAny_assign_Name (gH I5 hN hiN hy (v:= .ref D) rfl (λs6 I6 z9=>?_) hfn);obtain⟨a,sb6,ha⟩:=z9;have haC:C≠a:=by
  rcases ha with z | z
  ·rw[z];exact hlt
  ·exact Ne.symm (hcell y a z)
 refine⟨m,hn.sameBut sb6 haC,λh' sb=>?_⟩;have I7:aI X π (σ.set i (some (.ref D))) Hf { s6 with heap:=h' }:=I6.turned (t':=s6.toks) (λb o hb e=>(sb.2 b hb).trans e) hC hlt (.inr (ybz I2.sz hCs)) hcell λp hp z=>absurd (ybx (I2.pin p hp).1) (not_lt.mpr (z▸hCs));exact⟨_,Hf,I7,l.nx _ Hf _ _ (t1.trans t5) ((hτ.mono (t1.trans t5)).set (.ref D) i) g5 (q5 D hD hD2)⟩
end
section
variable {P:Program} {w:World} {K:yax}
end
section
variable {X:Cx}
noncomputable def By (te:WE):WE:=λτ G q=>te τ G λx G1=>match x with | .int i=>q (.int (-i)) G1 | _=>False
theorem eY {a:Expr} {ta:WE} (ha:QE X a ta):QE X (.UnaryOp .USub a pos) (By ta):=
 (AX yL ha).imp λσ H Q z0=>z0.el λτ G q hs hg ht hQ=>⟨τ,G,_,hs,hg,ht,λv H1 w G1 t1 r1 g1 q1=>by
   split at q1
   ·cases r1;exact⟨_,rfl,hQ _ H1 _ G1 t1 (.int _) g1 q1⟩
   ·exact q1.elim⟩
noncomputable def Fx (P:Program) (w:World) (K:yax) (mg:ydv) (base:Heap) (x:Str) (ps:List Str) (k:Nat) (sp:bV):Prop:=
 ∃(f:Addr) (fd:FuncData),cc P w K mg base k f fd ps sp/\mg x=some (.ref f)/\keepIn K (.ref f)=true/\bP K fd ps []
theorem Bz {sp:bV} {p pos:Pos} {t:WA} (F:Fx X.prog X.w X.K X.mg X.base x ps k sp) (hr:av k X.A) (hg:Gl X x) (ha:QA X (e::es) t) (hdb:(x==("__debug__":Str))=false:=by decide)
 (he:starEach (e::es) X.env=(false,eval e X.env)::starEach es X.env:=by rfl) (hpl:(backTo pos (starEach es X.env)).any (·.1)=false:=by rfl):QE X (.Call (.Name x p) (e::es) [] pos) (fX sp [] t):=by
 obtain⟨f,fd,h1,h2,h3,h4⟩:=F;exact vG h1 hr hg h2 h3 h4 ha hdb he hpl
theorem sP {sp:bV} {p pos:Pos} (F:Fx X.prog X.w X.K X.mg X.base x ps k sp) (hr:av k X.A) (hg:Gl X x) (hdb:(x==("__debug__":Str))=false:=by decide):QE X (.Call (.Name x p) [] [] pos) (fX sp [] kO):=by
 obtain⟨f,fd,h1,h2,h3,h4⟩:=F;exact sC h1 hr hg h2 h3 h4 hdb
noncomputable def sQ (scope:Scope):List Str:=scope.names.map (·.1)
noncomputable def oh (N:List Str) (scope:Scope):List (Option Nat):=scope.names.map λy=>if y.2== .free then N.findIdx? (·==y.1) else none
noncomputable def sR (outer scope:Scope):Bool:=
 scope.kind== .function&&scope.names.all (λy=>y.2 !=.cell)&&scope.names.all (λy=>y.2 !=.local||scope.names.lookup y.1==some .local)&&
  scope.names.all (λy=>y.2 !=.free||(outer.names.lookup y.1==some .cell&&scope.names.lookup y.1 !=some .local))
theorem dR (h:sR X.env.scope scope=true):eC X scope (sQ scope) (oh X.N scope):=by
 unfold sR at h;simp only[Bool.and_eq_true,all_eq_true,Bool.or_eq_true,bne_iff_ne,beq_iff_eq,ne_eq] at h;obtain⟨⟨⟨h1,h2⟩,h3⟩,h4⟩:=h;refine⟨h1,h2,λx hx hk=>(h3 x hx).resolve_left λz=>z hk,λy hy hk=>((h4 y hy).resolve_left λz=>z hk).1,λi j x e1 e2=>?_,by simp[sQ,oh],λ{x} hx=>((h4 _ hx).resolve_left λz=>z rfl).2⟩;unfold sQ at e1;unfold oh at e2;rw[List.getElem?_map] at e1 e2;cases e:scope.names[i]? with
 | none=>rw[e] at e1;cases e1
 | some y=>
   rw[e] at e1 e2;have e1':y.1=x:=Option.some.inj e1;have e2':(if (y.2==NameKind.free)=true then X.N.findIdx? (·==y.1) else none)=some j:=Option.some.inj e2;have hm:y∈scope.names:=List.mem_of_getElem? e;split at e2'
   ·rename_i hk;have hk':y.2=.free:=by simpa using hk
    have hy:y=(x,NameKind.free):=by rw[←e1',←hk']
    have:=List.findIdx?_eq_some_iff_getElem.mp e2';obtain⟨hj,hj2,_⟩:=this;refine⟨?_,?_,hy▸hm⟩
    ·rw[ybw hj];have:X.N[j]=y.1:=by simpa using hj2
     rw[this,e1']
    ·have:=((h4 y hm).resolve_left λz=>z hk').1;rw[e1'] at this;exact this
   ·cases e2'
theorem cv (i:Nat) {N:List Str} {C:Addr} {fp:List Addr} {s2:Shared} {H2:Hp} (hN:N.Nodup) (hi:N[i]?=some x) (hx:vc (fO X N scope C fp s2 H2).env.scope x) (hf:(fO X N scope C fp s2 H2).fn x=true∨(fO X N scope C fp s2 H2).env.scope.names.lookup x=some .local:=by first | exact .inl rfl | exact .inr rfl):
 QG (fO X N scope C fp s2 H2) (.Name x pos) (cV i):=ci (X:=fO X N scope C fp s2 H2) i hN hi hx hf
theorem eF:bootBuiltins "tuple"=some (.type "tuple"):=by decide+kernel
theorem kP:bootBuiltins "list"=some (.type "list"):=by decide+kernel
theorem sS:bootBuiltins "max"=some (.builtin "max"):=by decide+kernel
theorem BA:bootBuiltins "sum"=some (.builtin "sum"):=by decide+kernel
theorem aM {R:WS->Prop} {t:WS} (h:nG X body t) (g:R t):∃t,nG X body t/\R t:=⟨t,h,g⟩
end
mutual
noncomputable def W.lt:W->W->Bool
 | .int i,.int j=>decide (i<j)
 | .tup xs,.tup ys=>W.lts xs ys
 | _,_=>false
noncomputable def W.lts:List W->List W->Bool
 | [],[]=>false
 | [],_::_=>true
 | _::_,[]=>false
 | x::xs,y::ys=>if W.eq x y=true then W.lts xs ys else W.lt x y
end
mutual
noncomputable def W.ord:W->W->Bool
 | .int _,.int _=>true
 | .tup xs,.tup ys=>W.ords xs ys
 | _,_=>false
noncomputable def W.ords:List W->List W->Bool
 | x::xs,y::ys=>if W.eq x y=true then W.ords xs ys else W.ord x y
 | _,_=>true
end
noncomputable def kQ (A:Around) (s:Shared) (y x:Value) (b:Bool):Prop:=
 ∀(prog:Program) (w:World) (E:ydz) (Q:ydz),Q (.bool b) s->wpAny (model prog w) A (richCompare .Lt y x) Q E s
inductive fI (A:Around) (s:Shared):List Value->List Value->Bool->Prop where
 | nn:fI A s [] [] false
 | nc {y:Value} {ys:ydw}:fI A s [] (y::ys) true
 | cn {x:Value} {xs:ydw}:fI A s (x::xs) [] false
 | eq {x y:Value} {xs ys:ydw} {r:Bool} (h:SeqAt.EqAt A s x y true) (t:fI A s xs ys r):fI A s (x::xs) (y::ys) r
 | ne {x y:Value} {xs ys:ydw} {r:Bool} (h:SeqAt.EqAt A s x y false) (t:kQ A s x y r):fI A s (x::xs) (y::ys) r
section
open PySem.SeqAt
open PySem.AutoSeq1 (wpAny_loadPart')
open PySem.MeetsSeq PySem.MeetsSeq2 PySem.MeetsSeq3
theorem jd (l b:Addr) (items items2:Array Value) (n n2:Nat) (dd dd2:Option Addr) (sl sl2:Array (Option Value)) (r:Bool):
 Meets (Builtin.«tuple.__lt__» ⟨[.ref l,.ref b],[]⟩)
  (λA R s=>s.heap.get? l=some { cls:= .type "tuple",dict:=dd,data:= .seq items n,slots:=sl }/\s.heap.get? b=some { cls:= .type "tuple",dict:=dd2,data:= .seq items2 n2,slots:=sl2 }/\
    fI A.in1 s items.toList items2.toList r/\R (.ok (.ret (.bool r))) s):=
 .of_wp λprog w A R s h=>by
  obtain⟨hp,g,d,tk,os⟩:=s;obtain⟨hl,hb,hc,h⟩:=h;have f2:=AutoSeq1.sub_tuple_tuple
  wp_walk using wpAny_loadPart' hl,wpAny_loadPart' hb,wpAny_forIn_list _ (λbX b s'=>b.1=none/\s'=⟨hp,g,d,tk,os⟩/\∃(vs ws:ydw),bX=vs.zip ws/\
   fI A.in1 ⟨hp,g,d,tk,os⟩ vs ws r/\vs.length+items2.size=ws.length+items.size) _
  case turn=>
   rintro⟨y,x⟩ bX b s' ⟨hb',rfl,vs,ws,hz,hC,hlen⟩;cases hC with
   | nn=>rw[List.zip_nil_left] at hz;cases hz
   | nc=>rw[List.zip_nil_left] at hz;cases hz
   | cn=>rw[List.zip_nil_right] at hz;cases hz
   | eq he ht=>
     rw[zip_cons_cons] at hz;injection hz with hyx hrest
     injection hyx with hy hx
     subst hy hx;simp only[length_cons] at hlen;refine wax (he prog w _ _ ?_)
     wp_walk
     exact⟨rfl,rfl,_,_,hrest,ht,by lia⟩
   | ne he ht=>
     rw[zip_cons_cons] at hz;injection hz with hyx hrest
     injection hyx with hy hx
     subst hy hx;refine wax (he prog w _ _ ?_);have hri:=ht prog w
     wp_walk using hri
     exact⟨_,rfl,by simpa using h⟩
  case fin=>
   rintro⟨b1,b2⟩ s' ⟨hb',rfl,vs,ws,hz,hC,hlen⟩;simp only at hb';subst hb';have hv:r=decide (items.size<items2.size):=by
    cases hC with
    | nn=>simp only[length_nil] at hlen;exact(ycz (by lia)).symm
    | nc=>simp only[length_nil,length_cons] at hlen;exact(ycw (by lia)).symm
    | cn=>simp only[length_nil,length_cons] at hlen;exact(ycz (by lia)).symm
    | eq he ht=>rw[zip_cons_cons] at hz;cases hz
    | ne he ht=>rw[zip_cons_cons] at hz;cases hz
   rw[hv] at h
   wp_walk
   exact⟨_,rfl,by simpa[Builtin.Tuple.tupleCompareSizes] using h⟩
  case h=>
   exact⟨rfl,rfl,_,_,rfl,hc,by simp;lia⟩
end
theorem kQ.tuples {l b:Addr} {items items2:Array Value} {r:Bool} (hl:s.heap.IsTuple l items) (hb:s.heap.IsTuple b items2) (hu:A.units<cLine)
 (hc:fI A.in1 s items.toList items2.toList r):kQ A s (.ref l) (.ref b) r:=λprog w E Q h=>by
 obtain⟨⟨cls,dd,data,sl⟩,ho,hcl,n,hd⟩:=id hl;obtain⟨⟨cls2,dd2,data2,sl2⟩,ho2,hc2,n2,hd2⟩:=id hb;simp only at hcl hd hc2 hd2;subst hcl hd hc2 hd2;exact richCompare_meets_room (op:= .Lt) ⟨_,ho,rfl⟩ ⟨_,ho2,rfl⟩ PySem.F.slot_tuple_lt PySem.F.entry_tuple_lt (PySem.F.args_tuple_lt_2 _ _) (jd l b items items2 n n2 dd dd2 sl sl2 r)
  ⟨ho,ho2,hc,show Value.bool r≠Value.notImplemented/\Q (.bool r) s from ⟨(λx=>nomatch x),h⟩⟩ hu
section
variable {X:Cx} {π:List (Addr×Obj)} {σ:St} {H:Hp} {s:Shared}
theorem pC (I:aI X π σ H s) (n:Nat) (A:Around)
 (ih:∀{w1 w2:W} {v1 v2:V} {u1 u2:Value},w1.dep<n->w1.flat=true->w2.flat=true->W.ord w1 w2=true->bN X.K H w1 v1->bN X.K H w2 v2->bc v1 u1->bc v2 u2->kQ A s u1 u2 (w1.lt w2)) (hu:A.units+n<cLine):
 ∀{ws us:List W} {xs ys:List V} {its its2:ydw},W.deps ws<n->W.flats ws=true->W.flats us=true->W.ords ws us=true->aV X.K H ws xs->aV X.K H us ys->aW xs its->aW ys its2->fI A s its its2 (W.lts ws us):=by
 intro ws
 induction ws with
 | nil=>
   intro us xs ys its its2 hd f1 f2 ho r1 r2 q1 q2;cases r1;cases q1;cases r2 with
   | nil=>cases q2;simpa[W.lts] using fI.nn
   | cons _ _=>cases q2;simpa[W.lts] using fI.nc
 | cons x xs IH=>
   intro us vs1 vs2 its its2 hd f1 f2 ho r1 r2 q1 q2;cases r1 with
   | cons r1 s1=>
     cases q1 with
     | cons q1 t1=>
       cases r2 with
       | nil=>cases q2;simpa[W.lts] using fI.cn
       | @cons y ys _ _ r2 s2=>
         cases q2 with
         | cons q2 t2=>
           simp only[W.deps] at hd;simp only[W.flats,Bool.and_eq_true] at f1 f2;have e:=(gQ I n A (w1:=x) (w2:=y) (by lia) f1.1 f2.1 hu r1 r2 q1 q2).1;rw[W.ords] at ho;rw[W.lts];cases he:W.eq x y with
           | true=>
             rw[he] at e ho;rw[ycx rfl] at ho ⊢;exact .eq e (IH (by lia) f1.2 f2.2 ho s1 s2 t1 t2)
           | false=>
             rw[he] at e ho;rw[ybv ycy] at ho ⊢;exact .ne e (ih (by lia) f1.1 f2.1 ho r1 r2 q1 q2)
theorem sT (I:aI X π σ H s):∀(n:Nat) (A:Around) {w1 w2:W} {v1 v2:V} {u1 u2:Value},w1.dep<n->w1.flat=true->w2.flat=true->W.ord w1 w2=true->A.units+n<cLine->bN X.K H w1 v1->bN X.K H w2 v2->bc v1 u1->bc v2 u2->
 kQ A s u1 u2 (w1.lt w2):=by
 intro n
 induction n with
 | zero=>intro A w1 w2 v1 v2 u1 u2 h;lia
 | succ n ih=>
   intro A w1 w2 v1 v2 u1 u2 hd f1 f2 ho hu r1 r2 q1 q2;cases r1 with
   | ref a=>simp[W.flat] at f1
   | scr a=>simp[W.flat] at f1
   | non=>simp[W.ord] at ho
   | bl b=>simp[W.ord] at ho
   | str b=>simp[W.ord] at ho
   | int a=>
     cases r2 with
     | int b=>
       obtain⟨t,rfl⟩:=q1;obtain⟨t',rfl⟩:=q2;rw[W.lt];exact λprog w E Q h=>HT.rcLt_int A s a t b t' prog w E Q h
     | _=>simp[W.ord] at ho
   | @tup a ws xs h r=>
     cases r2 with
     | @tup b us ys h2 r2=>
       cases (show u1=Value.ref _ from q1);cases (show u2=Value.ref _ from q2);obtain⟨its,rv,p,_⟩:=aI.tupH I h;obtain⟨its2,rv2,p2,_⟩:=aI.tupH I h2;have g1:W.flats ws=true:=by simpa[W.flat] using f1
       have g2:W.flats us=true:=by simpa[W.flat] using f2
       have ho':W.ords ws us=true:=by simpa[W.ord] using ho
       have hd':W.deps ws<n:=by simp only[W.dep] at hd;lia
       have hui:A.in1.units+n<cLine:=by show A.units+1+n<cLine;lia
       rw[W.lt];exact kQ.tuples p p2 (by lia) (pC I n A.in1 (λh1 h2 h3 h4=>ih A.in1 h1 h2 h3 h4 hui) hui hd' g1 g2 ho' r r2 rv rv2)
     | _=>simp[W.ord] at ho
end
section
variable {X:Cx}
noncomputable def vT:W2:=λx y G q=>match x,y with
 | .int i,.int j=>q (.bl (decide (i<j))) G
 | .tup xs,.tup ys=>W.flats xs=true/\W.flats ys=true/\W.deps xs<=149/\W.ords xs ys=true/\q (.bl (W.lts xs ys)) G
 | _,_=>False
theorem iq (hr:av k X.A):gG X (compareOp .Lt) vT:=by
 rintro π s σ H x y v u Q I rx ry ⟨wx,wy,G,q,r1,r2,g,h,hQ⟩;unfold vT at h;split at h
 ·cases r1;cases r2;exact A2 π s σ H _ _ v u Q I rx ry ⟨_,_,rfl,rfl,hQ _ H _ G (aT.refl H) (.bl _) g h⟩
 ·rename_i xs ys;obtain⟨f1,f2,hd,ho,h⟩:=h;have z:=sT I 151 X.A (w1:= .tup xs) (w2:= .tup ys) (by simp only[W.dep];lia) (by simpa[W.flat] using f1) (by simpa[W.flat] using f2) (by simpa[W.ord] using ho) (by have:=hr.un;lia) r1 r2 rx ry;rw[W.lt] at z;exact z X.prog X.w X.xe _ ⟨.bl _,H,I,rfl,hQ _ H _ G (aT.refl H) (.bl _) g h⟩
 ·exact h.elim
end
section
variable {X:Cx}
end
section
variable {X:Cx} {π:List (Addr×Obj)} {σ:St} {H:Hp} {s:Shared}
theorem DT (I:aI X π σ H s) {n:Nat} {ws us:List W} {xs ys:List V} {its its2:ydw} (hd:W.deps ws<n) (g1:W.flats ws=true) (g2:W.flats us=true) (hu:A.in1.units+n<cLine) (r:aV X.K H ws xs) (r2:aV X.K H us ys) (rv:aW xs its) (rv2:aW ys its2):
 ∀j (h1:j<its.toArray.size) (h2:j<its2.toArray.size),SeqAt.EqAt A.in1 s its.toArray[j] its2.toArray[j] (jb ws us j):=λj j1 j2=>by
 have e1:its.length=ws.length:=by rw[←rv.length,r.length]
 have e2:its2.length=us.length:=by rw[←rv2.length,r2.length]
 rw[size_toArray] at j1 j2;have ea:ws[j]?=some ws[j]:=ybw (by lia);have eb:us[j]?=some us[j]:=ybw (by lia);obtain⟨va,ea1,ra⟩:=r.get ea;obtain⟨vb,eb1,rb⟩:=r2.get eb;obtain⟨ua,ea2,qa⟩:=rv.get ea1;obtain⟨ub,eb2,qb⟩:=rv2.get eb1;have za:its.toArray[j]=ua:=by
  have:=(List.getElem?_eq_some_iff.mp ea2).2;simpa using this
 have zb:its2.toArray[j]=ub:=by
  have:=(List.getElem?_eq_some_iff.mp eb2).2;simpa using this
 rw[za,zb];have:=(gQ I n A.in1 (w1:=ws[j]) (w2:=us[j]) (Nat.lt_of_le_of_lt (W.deps_get ea) hd) (W.flats_get g1 ea) (W.flats_get g2 eb) hu ra rb qa qb).1;unfold jb;rw[ea,eb];exact this
theorem kR {ws us:List W} (h:ws.length≠us.length):W.eqs ws us=false:=by
 cases e:W.eqs ws us with
 | false=>rfl
 | true=>exact absurd ((W.eqs_iff ws us).mp e).1 h
end
section
variable {X:Cx}
noncomputable def BC:W2:=λx y G q=>match x,y with
 | .ref a,.ref b=>∃xs ys,G a=some (.lst xs)/\G b=some (.lst ys)/\W.flats xs=true/\W.flats ys=true/\W.deps xs<=149/\q (.bl (W.eqs xs ys)) G
 | x,y=>vJ x y G q
noncomputable def BD:W2:=λx y G q=>match x,y with
 | .ref a,.ref b=>∃xs ys,G a=some (.lst xs)/\G b=some (.lst ys)/\W.flats xs=true/\W.flats ys=true/\W.deps xs<=149/\q (.bl (!(W.eqs xs ys))) G
 | x,y=>vK x y G q
theorem BE (hr:av k X.A):gG X (compareOp .Eq) BC:=by
 rintro π s σ H x y v u Q I rx ry ⟨wx,wy,G,q,r1,r2,g,h,hQ⟩;unfold BC at h;split at h
 ·obtain⟨ws,us,ea,eb,f1,f2,hd,h⟩:=h;cases r1;cases r2;cases rx;cases ry;obtain⟨_,xs,e1,ra⟩:=g _ _ ea;obtain⟨_,ys,e2,rb⟩:=g _ _ eb;obtain⟨its,rv,p,_⟩:=I.list (cZ.of e1);obtain⟨its2,rv2,p2,_⟩:=I.list (cZ.of e2);have l1:its.length=ws.length:=by rw[←rv.length,ra.length]
  have l2:its2.length=us.length:=by rw[←rv2.length,rb.length]
  have hu:=hr.un;have fin:EP X π σ Q (.bool (W.eqs ws us)) s:=⟨.bl _,H,I,rfl,hQ _ H _ G (aT.refl H) (.bl _) g h⟩
  by_cases hl:ws.length=us.length
  ·have c1:=SeqAt.RcAt.lists p.isList p2.isList (by rw[size_toArray,size_toArray,l1,l2,hl]) (A:=X.A) (by lia) (DT I (n:=150) (by lia) f1 f2 (by show X.A.units+1+150<cLine;lia) ra rb rv rv2);have er:=fg ws us;rw[←hl,Nat.min_self,beq_self_eq_true,Bool.and_true] at er;rw[size_toArray,l1,er] at c1;exact c1 X.prog X.w X.xe _ fin
  ·rw[kR hl] at fin;exact SeqAt.RcAt.lists_lengths p.isList p2.isList (by rw[size_toArray,size_toArray,l1,l2];simpa using hl) (A:=X.A) (by lia) X.prog X.w X.xe _ fin
 ·exact zm hr π s σ H x y v u Q I rx ry ⟨wx,wy,G,q,r1,r2,g,h,hQ⟩
theorem BF (hr:av k X.A):gG X (compareOp .NotEq) BD:=by
 rintro π s σ H x y v u Q I rx ry ⟨wx,wy,G,q,r1,r2,g,h,hQ⟩;unfold BD at h;split at h
 ·obtain⟨ws,us,ea,eb,f1,f2,hd,h⟩:=h;cases r1;cases r2;cases rx;cases ry;obtain⟨_,xs,e1,ra⟩:=g _ _ ea;obtain⟨_,ys,e2,rb⟩:=g _ _ eb;obtain⟨its,rv,p,_⟩:=I.list (cZ.of e1);obtain⟨its2,rv2,p2,_⟩:=I.list (cZ.of e2);have l1:its.length=ws.length:=by rw[←rv.length,ra.length]
  have l2:its2.length=us.length:=by rw[←rv2.length,rb.length]
  have hu:=hr.un;have fin:EP X π σ Q (.bool (!(W.eqs ws us))) s:=⟨.bl _,H,I,rfl,hQ _ H _ G (aT.refl H) (.bl _) g h⟩
  by_cases hl:ws.length=us.length
  ·have c1:=SeqAt.RcNeAt.lists p.isList p2.isList (by rw[size_toArray,size_toArray,l1,l2,hl]) (A:=X.A) (by lia) (DT I (n:=150) (by lia) f1 f2 (by show X.A.units+1+150<cLine;lia) ra rb rv rv2);have er:=fg ws us;rw[←hl,Nat.min_self,beq_self_eq_true,Bool.and_true] at er;rw[size_toArray,l1,er] at c1;exact c1 X.prog X.w X.xe _ fin
  ·rw[kR hl] at fin;exact SeqAt.RcNeAt.lists_lengths p.isList p2.isList (by rw[size_toArray,size_toArray,l1,l2];simpa using hl) (A:=X.A) (by lia) X.prog X.w X.xe _ fin
 ·exact zn hr π s σ H x y v u Q I rx ry ⟨wx,wy,G,q,r1,r2,g,h,hQ⟩
end
structure GB (lo hi c:Int):Prop where
 c0:0<c
 c1:c<1000
 l0: -(2^40)<=lo
 l1:lo<2^40
 h0: -(2^40)<=hi
 h1:hi<2^40
section
variable {X:Cx} {tg:Expr}
end
section
variable {X:Cx}
noncomputable def BG (i j:Int):Prop:=i.natAbs<2^4000/\j.natAbs<2^4000
noncomputable def DU (j:Int):Prop:=0<j/\j.natAbs<2^4000
noncomputable def pD (i j:Int):Prop:=vn i j∨BG i j
theorem pD.ok {i j:Int} (h:pD i j):IntMulOk i j:=by
 rcases h with h | ⟨h1,h2⟩
 ·exact h.ok
 ·have b1:=PyProof.Rows.intBits_le h1;have b2:=PyProof.Rows.intBits_le h2;unfold IntMulOk Builtin.Int.intTooBig;have:¬(((Builtin.Int.intBits i+Builtin.Int.intBits j:Int)) > bitsLine):=by
   have hb:(8000:Int)<=bitsLine:=by decide
   lia
  simp[this]
noncomputable def sU (i j:Int):Prop:=AZ i j∨DU j
theorem sV:ik X (binaryOp .FloorDiv) (rI sU λi j=> .int (i/j)):=CT λi j _ _ _ _ _ hc q=>by
 rcases hc with hc | ⟨h0,h1⟩
 ·have h1:(0:Int)<j:=hc.1;have h2:j<1073741824:=hc.2;exact floordiv_int (by lia) (by rw[Int.fdiv_eq_ediv_of_nonneg i (by lia)];exact q) (.inl (PyProof.noPylong_small (by lia)))
 ·refine floordiv_int (by lia) (by rw[Int.fdiv_eq_ediv_of_nonneg i (by lia)];exact q) (.inl (PyProof.noPylong_of_log2 ?_));have hne:j.natAbs≠0:=by lia
  exact ycv ((Nat.log2_lt hne).mpr h1) (by decide)
noncomputable abbrev BH:W2:=qK sU λi j=> .int (i/j)
theorem bT:gG X (binaryOp .FloorDiv) BH:=n6 sV
end
section
variable {X:Cx}
end
structure fZ (K:yax) (x qual:Str) (st:Stmt) (f:Addr) (fd:FuncData) (T:Addr) (ds:ydw):Prop where
 ex:∃(oc:Value) (od:Option Addr) (kV doc pm:Value) (an:Option Addr) (cdv ct:Value) (osl:Array (Option Value)) (ot:Obj) (nt:Nat),
  fd=fnOf x qual (aw st) (au st) (am st) (.ref T) kV doc pm an cdv ct/\K.lookup f=some ⟨oc,od,.func fd,osl⟩/\codeIn K cdv qual=true/\K.lookup T=some ot/\ot.data=.seq ds.toArray nt
 kp:keepIn K (.ref f)=true
section
variable {P:Program} {w:World} {K:yax} {mg:ydv} {base:Heap} {x qual:Str} {st:Stmt} {f T:Addr} {fd:FuncData} {ds:ydw}
theorem kS {oc:Value} {od an:Option Addr} {osl:Array (Option Value)} {kV doc pm cdv ct:Value} {ot:Obj} {nt:Nat} (l:K.lookup f=some ⟨oc,od,.func (fnOf x qual (aw st) (au st) (am st) (.ref T) kV doc pm an cdv ct),osl⟩)
 (c:codeIn K cdv qual=true) (k:keepIn K (.ref f)=true) (t:K.lookup T=some ot) (h:ot.data=.seq ds.toArray nt):fZ K x qual st f (fnOf x qual (aw st) (au st) (am st) (.ref T) kV doc pm an cdv ct) T ds:=
 ⟨⟨oc,od,kV,doc,pm,an,cdv,ct,osl,ot,nt,rfl,l,c,t,h⟩,k⟩
theorem fZ.binds {es:ydw} (F:fZ K x qual st f fd T ds)
 (h:∀(kV doc pm:Value) (an:Option Addr) (cdv ct:Value) (us:ydw),(us++es).length=ps.length->∃k,bindArgs (fnOf x qual (aw st) (au st) (am st) (.ref T) kV doc pm an cdv ct) ⟨us,[]⟩=seqItems? (.ref T) >>= k/\k (some ds.toArray)=pure (ps.zip (us++es))):bP K fd ps es:=by
 obtain⟨oc,od,kV,doc,pm,an,cdv,ct,osl,ot,nt,rfl,lk,hcd,ht,hd⟩:=F.ex;intro s us KX hl;obtain⟨k,h1,h2⟩:=h kV doc pm an cdv ct us hl;exact BindsTo.of_defaults (T:=T) rfl (KX _ _ ht) hd h1 h2
theorem BI {N ps:List Str} {sp:bV} (F:fZ K x qual st f fd T ds) (S:bW N ps (am st)) (len:∀ws G q e,sp ws G q e->ws.length=ps.length)
 (hbody:∀(cdv:Value) (A:Around) (outer:List Env) (s:Shared) (H:Hp) (E:XK),av k (A.deeper (envOfC qual (am st) s.heap.objs.size f cdv))->
   ∃t,nG (dC sr P w K mg base N qual (am st) f cdv A outer s H E).nox (au st) t/\
    ∀(ws:List W) (G:Gp) (q:WK) (e:WX),sp ws G q e->t { nx:=λ_ G1=>∃G0,aC G0 G1/\q .non G0,rt:=λw G1=>∃G0,aC G0 G1/\q w G0 } (gP N ws) G):cc P w K mg base (k+1) f fd ps sp:=by
 obtain⟨oc,od,kV,doc,pm,an,cdv,ct,osl,ot,nt,rfl,lk,hcd,ht,hd⟩:=F.ex;refine o8 lk hcd S (λvs H Q E ⟨ws,G,q,e,r,g,z,_⟩=>by rw[←r.length];exact len _ _ _ _ z) (λA outer s H vs Q E hr ⟨ws,G,q,e,r,g,z,hQ,_⟩=>?_);obtain⟨t,ht,hq⟩:=hbody cdv A outer s H E hr;have ht':lP (dC sr P w K mg base N qual (am st) f cdv A outer s H E).nox (au st) (LS K t):=ht;exact⟨_,ht'.nox,_,G,_,bC.start r,g,hq ws G q e z,⟨λσ1 H1 τ1 G1 t1 s1 g1 ⟨G0,l,q1⟩=>hQ .non H1 .non G0 t1 .non (g1.le l) q1,λv H1 w G1 t1 r1 g1 ⟨G0,l,q1⟩=>hQ v H1 w G0 t1 r1 (g1.le l) q1,λ_ _ _ _ _ _ _ z=>z.elim,λ_ _ _ _ _ _ _ z=>z.elim⟩⟩
noncomputable def AH (P:Program) (w:World) (K:yax) (mg:ydv) (base:Heap) (x:Str) (ps:List Str) (k:Nat) (sp:bV) (dws:List W):Prop:=
 ∃(f:Addr) (fd:FuncData) (ds:ydw) (dvs:List V),cc P w K mg base k f fd ps sp/\mg x=some (.ref f)/\keepIn K (.ref f)=true/\bP K fd ps ds/\aW dvs ds/\∀H,aV K H dws dvs
noncomputable def zw (K:yax) (mg:ydv) (x:Str) (st:Stmt) (ps:List Str) (dws:List W):Prop:=
 ∃(f:Addr) (fd:FuncData) (T:Addr) (ds:ydw) (dvs:List V),fZ K x x st f fd T ds/\bP K fd ps []/\bP K fd ps ds/\mg x=some (.ref f)/\aW dvs ds/\∀H,aV K H dws dvs
theorem zw.fx {sp:bV} {dws:List W} (D:zw K mg x st ps dws) (h:∀(f:Addr) (fd:FuncData) (T:Addr) (ds:ydw),fZ K x x st f fd T ds->cc P w K mg base k f fd ps sp):Fx P w K mg base x ps k sp:=by
 obtain⟨f,fd,T,ds,dvs,F,b,b',m,_,_⟩:=D;exact⟨f,fd,h f fd T ds F,m,F.kp,b⟩
theorem zw.fxd {sp:bV} {dws:List W} (D:zw K mg x st ps dws) (h:∀(f:Addr) (fd:FuncData) (T:Addr) (ds:ydw),fZ K x x st f fd T ds->cc P w K mg base k f fd ps sp):AH P w K mg base x ps k sp dws:=by
 obtain⟨f,fd,T,ds,dvs,F,b,b',m,v,r⟩:=D;exact⟨f,fd,ds,dvs,h f fd T ds F,m,F.kp,b',v,r⟩
end
section
variable {X:Cx}
theorem aq {sp:bV} {p pos:Pos} {t:WA} (F:Fx X.prog X.w X.K X.mg X.base x ps k sp) (hr:av k X.A) (hg:Gl X x) (ha:QA X (e::es) t) (_hn:(e::es).length=ps.length:=by rfl) (hdb:(x==("__debug__":Str))=false:=by decide)
 (he:starEach (e::es) X.env=(false,eval e X.env)::starEach es X.env:=by rfl) (hpl:(backTo pos (starEach es X.env)).any (·.1)=false:=by rfl):QE X (.Call (.Name x p) (e::es) [] pos) (fX sp [] t):=Bz F hr hg ha hdb he hpl
theorem kT {sp:bV} {dws:List W} {p pos:Pos} {t:WA} (F:AH X.prog X.w X.K X.mg X.base x ps k sp dws) (hr:av k X.A) (hg:Gl X x) (ha:QA X (e::es) t) (_hn:(e::es).length+dws.length=ps.length:=by rfl) (hdb:(x==("__debug__":Str))=false:=by decide)
 (he:starEach (e::es) X.env=(false,eval e X.env)::starEach es X.env:=by rfl) (hpl:(backTo pos (starEach es X.env)).any (·.1)=false:=by rfl):QE X (.Call (.Name x p) (e::es) [] pos) (fX sp dws t):=by
 obtain⟨f,fd,ds,dvs,h1,h2,h3,h4,h5,h6⟩:=F;exact(o6 h1 hr hg h2 h3 h4 h5 jX ha hdb he hpl).imp λ_ _ _ h=>h.call h6
noncomputable def sW:WS:=λ_ _ _=>False
theorem sX:QS X st sW:=λ_ _ _ _ _ _ ⟨_,_,_,_,_,z,_⟩=>z.elim
end
variable {X:Cx}
noncomputable def sY:List W->Gp->WK->Prop:=λws G q=>match ws with
 | [.int i,.int j]=>q (.int (if j > i then j else i)) G
 | [.int i,.int j,.int k]=>q (.int (if j > i then (if k > j then k else j) else if k > i then k else i)) G
 | [.ref a]=>∃ns:List Int,G a=some (.lst (ns.map W.int))/\ns≠[]/\∀m:Int,m∈ns->(∀x,x∈ns->x<=m)->q (.int m) G
 | _=>False
theorem sZ (hc:X.calm=true):eR X (.builtin "max") sY:=by
 rintro π s σ H xs us Q I r ⟨ws,G,q,rw',g,h,hQ⟩;unfold sY at h;split at h
 ·obtain⟨v,u,rfl,r1,r2⟩:=rw'.two;cases r1;cases r2;exact qz hc π s σ H _ us Q I r ⟨_,_,rfl,hQ _ H _ G (aT.refl H) (.int _) g h⟩
 ·rename_i i j k;cases rw' with
  | cons r1 rw'=>
    cases rw' with
    | cons r2 rw'=>
      cases rw' with
      | cons r3 rw'=>
        cases rw';cases r1;cases r2;cases r3;cases r with
        | cons a1 r=>
          cases r with
          | cons a2 r=>
            cases r with
            | cons a3 r=>
              cases r;obtain⟨t1,rfl⟩:=a1;obtain⟨t2,rfl⟩:=a2;obtain⟨t3,rfl⟩:=a3;refine max_three_ints (I.ok.hd hc) λh' tk k'=>⟨.int (if j > i then (if k > j then k else j) else if k > i then k else i),H,I.kept k',?_,hQ _ H _ G (aT.refl H) (.int _) g h⟩
              by_cases h1:j > i
              ·by_cases h2:k > j
               ·rw[ycx h1,ycx h2,ycx h1,ycx h2];exact⟨_,rfl⟩
               ·rw[ycx h1,ybv h2,ycx h1,ybv h2];exact⟨_,rfl⟩
              ·by_cases h2:k > i
               ·rw[ybv h1,ycx h2,ybv h1,ycx h2];exact⟨_,rfl⟩
               ·rw[ybv h1,ybv h2,ybv h1,ybv h2];exact⟨_,rfl⟩
 ·rename_i a;obtain⟨ns,e,hne,h⟩:=h;obtain⟨v,rfl,r1⟩:=rw'.one;cases r1;obtain⟨_,zs,e1,rr⟩:=g a _ e;obtain rfl:=rr.ints_of;obtain⟨u,rfl,ru⟩:=eV r;cases (show u=Value.ref a from ru);obtain⟨its,rv,p,hz⟩:=I.list (cZ.of e1);have hi:IntsAre its ns:=L2.intsAre_of rv;obtain⟨ys,ey⟩:=hi.allInts.items;have hn:(ys.toList.map (·.1))=ns:=by rw[←nums_intItems,←ey,←hi.numsOf]
  have hl:s.heap.IsList a (intItems ys):=by rw[←ey];exact p.isList
  have hsz:ys.size=ns.length:=by rw[←hn];simp
  have hpos:0<ys.size:=by
   rw[hsz];exact List.length_pos_iff.mpr hne
  refine max_intList (I.ok.hd hc) hl hpos λv h' tk hv hk=>?_;have ab:=argBest_gt (numAt ys) (ys.size-1);generalize argBest (λi j=>decide (numAt ys i > numAt ys j)) (ys.size-1)=ix at hv ab;have hix:ix<ys.size:=by lia
  have hna:∀j (hj:j<ys.size),numAt ys j=ns[j]'(by lia):=λj hj=>by
   unfold numAt;rw[Array.getElem?_eq_getElem hj];simp[←hn]
  have hv2:v=Value.int (ys[ix].1) (ys[ix].2):=by
   unfold intItems at hv;rw[Array.getElem?_map,Array.getElem?_eq_getElem hix] at hv;simpa using hv.symm
  have hm:ys[ix].1=ns[ix]'(by lia):=by
   have:=hna ix hix;unfold numAt at this;rw[Array.getElem?_eq_getElem hix] at this;simpa using this
  rw[hm] at hv2;subst hv2;refine⟨.int _,H,I.kept hk,⟨_,rfl⟩,hQ _ H _ G (aT.refl H) (.int _) g (h _ (getElem_mem _) λx hx=>?_)⟩;obtain⟨j,hj,rfl⟩:=List.mem_iff_getElem.mp hx;have:=ab.2 j (by lia);rw[hna j (by lia),hna ix hix] at this;exact this
 ·exact h.elim
end L2
namespace L2
open PySem PySem.Spec PyProof.Rows
theorem XC.of {C:Addr} (q:excIn K C DO "ValueError.__new__"=true):∃bm,XC K C bm:=by
 unfold excIn at q;cases lk:List.lookup C K with
 | none=>rw[lk] at q;exact cQ q
 | some o=>
   rw[lk] at q;obtain⟨cls,d1,data,⟨ls⟩⟩:=o;cases cls with
   | type s=>
     by_cases hs:s="type"
     ·subst hs;cases data with
      | cls cl=>
        obtain⟨nm,bs,mro,ns,qn,hd,sn,sb,ab,co,del⟩:=cl;rcases mro with _ | ⟨v,tl⟩
        ·exact cQ q
        cases v with
        | ref C2=>
          rcases ls with _ | ⟨j0,_ | ⟨j1,_ | ⟨j2,_ | ⟨j3,_ | ⟨(_ | j4),r⟩⟩⟩⟩⟩
          any_goals first | exact cQ q | skip
          cases j4 with
          | builtin id=>
            rcases r with _ | ⟨j5,_ | _⟩
            any_goals first | exact cQ q | skip
            replace q:(C2==C&&id=="ValueError.__new__"&&!del&&W.tailIn K DO tl&&W.nsOkIn K ns&&W.nsIn K ns (Str.ofString "__init__")==some none)=true:=q
            simp only[beq_iff_eq,Bool.not_eq_true',Bool.and_eq_true] at q;obtain⟨⟨⟨⟨⟨e1,e2⟩,e3⟩,e4⟩,e5⟩,e6⟩:=q;subst e1 e2;subst e3;refine⟨tl,λh X=>⟨ns,nm,qn,bs,hd,sn,sb,ab,co,d1,j0,j1,j2,j3,j5,_,X _ _ lk,.of_isNs (PySem.W.isNs_of_in X e5),PySem.W.nsMap_none_of_in X e5 e6,PySem.W.tail_of_in X e4⟩,λv=>?_⟩;unfold mroIn clsIn;rw[lk]
            rfl
          | _=>exact cQ q
        | _=>exact cQ q
      | _=>exact cQ q
     ·delta PySem.W.excIn.match_6 at q
      change (dite (s="type") _ _:Bool)=true at q;rw[dif_neg hs] at q;exact cQ q
   | _=>exact cQ q
section
variable {M:Model} {A:Around} {E:ydz} {K:yax} {C D a:Addr} {bm bmD:ydw} {oe:Obj}
end
theorem fu.none_of {H:Hp} {h:Heap} (x:fu P w H h) (e:h.get? a=none):H a=none:=by
 cases q:H a with
 | none=>rfl
 | some o=>
   have y:=x a o q;cases o with
   | lst xs=>obtain⟨_,_,_,_,z⟩:=y;rw[e] at z;cases z
   | tup xs=>obtain⟨_,_,_,p,z,_⟩:=y;rw[e] at z;cases z
   | dK kvs=>obtain⟨_,_,_,_,o,_,_,z,_⟩:=y;rw[e] at z;cases z
   | dT kvs=>obtain⟨_,_,_,_,o,_,_,z,_⟩:=y;rw[e] at z;cases z
   | set S n=>obtain⟨o,_,_,_,z,_⟩:=y;rw[e] at z;cases z
   | ins C dx fs=>obtain⟨_,_,_,z,_⟩:=y;rw[e] at z;cases z
   | own y2=>obtain⟨_,z⟩:=y;rw[e] at z;cases z
   | xd fs=>obtain⟨_,⟨_,_,_,z,_⟩,_⟩:=y;rw[e] at z;cases z
   | rng lo hi=>obtain⟨_,_,_,z⟩:=y;rw[e] at z;cases z
   | frz ob u=>obtain⟨z,_⟩:=y;rw[e] at z;cases z
   | tbl ps=>have z:h.get? a=some _:=y;rw[e] at z;cases z
   | met f y2=>have z:h.get? a=some _:=y;rw[e] at z;cases z
   | ext φ=>obtain⟨_,⟨_,z⟩,_⟩:=y;rw[e] at z;cases z
theorem je {h B:Heap} {m:List Addr}:∀{l:List Env},h.FunFrames B l->(∀b∈fw l,b∈m)->h.FunFrames (hideAll h m) l
 | [],_,_=>trivial
 | env::r,⟨e0,⟨L,o,e1,_,e3,e4⟩,e5⟩,hm=>
   have hl:fw (env::r)=L::fw r:=by unfold fw;rw[filterMap_cons,e1]
   ⟨e0,⟨L,o,e1,hideAll_none m (hm L (by rw[hl];exact .head _)),e3,e4⟩,je e5 λb hb=>hm b (by rw[hl];exact .tail _ hb)⟩
structure Fl (P:Program) (w:World) (fs:List Addr) (H H':Hp) (h0 h:Heap) (a T:Addr) (c fl:Value):Prop where
 un:Un fs [] H H' h0 h
 hok:fu P w H' h
 na:h0.get? a=none
 nT:h0.get? T=none
 ha:H' a=none
 hT:H' T=none
 tr:∃oe vs oT ts a0,h.get? a=some oe/\(oe.cls=c/\vs[0]?=some a0)/\oe.data=.fields vs/\vs[1]?=some (.ref T)/\T≠a/\h.get? T=some oT/\oT.data=.fields ts/\ts[3]?=some fl
section
variable {P:Program} {w:World} {fs:List Addr} {H H':Hp} {h0 h h':Heap} {a T:Addr} {c fl fl':Value}
theorem Fl.traced (F:Fl P w fs H H' h0 h a T c fl):∃a0,h.TracedAtW (hideAll h (a::T::fs)) a c a0 fl:=by
 obtain⟨oe,vs,oT,ts,a0,e1,e2,e3,e4,e5,e6,e7,e8⟩:=F.tr;exact⟨a0,oe,vs,T,oT,ts,e1,e2,e3,e4,hideAll_none _ (.tail _ (.head _)),e5,e6,e7,e8⟩
theorem Fl.move {a0:Value} (F:Fl P w fs H H' h0 h a T c fl) (hfs:∀b∈fs,H' b=none/\∃o,h.get? b=some o/\∀vs,o.data≠ .fields vs)
 (k1:(hideAll h (a::T::fs)).StaysIn h') (k3:h'.TracedAtW (hideAll h (a::T::fs)) a c a0 fl') (k4:h.UpToSlots h'):∃T',Fl P w fs H H' h0 h' a T' c fl':=by
 have keep:∀b o,b≠a->b≠T->b∉fs->h.get? b=some o->h'.get? b=some o:=λb o n1 n2 n3 e=>k1 b o (hideAll_get _ e (by simp[n1,n2,n3]));have slot:∀b o,b∈fs->h.get? b=some o->∃sl,h'.get? b=some { o with slots:=sl }:=λb o hb e=>by
  obtain⟨_,o2,e2,d2⟩:=hfs b hb;rw[e] at e2;cases e2;exact k4 b o e d2
 obtain⟨oe,vs,T',oT,ts,q1,q2,q3,q4,q5,q6,q7,q8,q9⟩:=k3;have hT':T'=T∨h.get? T'=none:=by
  by_cases z:T'=T
  ·exact .inl z
  ·refine .inr ?_;cases e:h.get? T' with
   | none=>rfl
   | some o=>
     by_cases zf:T'∈fs
     ·obtain⟨_,o2,e2,d2⟩:=hfs T' zf;obtain⟨sl,e3⟩:=k4 T' o2 e2 d2;rw[q7] at e3;cases e3;exact absurd q8 (d2 ts)
     ·rw[hideAll_get _ e (by simp[z,zf,q6])] at q5;cases q5
 have back:∀b,h.get? b=none->h0.get? b=none:=λb e=>by
  cases q:h0.get? b with
  | none=>rfl
  | some o=>
    obtain⟨o',e'⟩:=F.un.there b o q (by simp);rw[e] at e';cases e'
 refine⟨T',⟨⟨λb o q n hb hx=>?_,λb o q n hb hx=>?_,F.un.free,λb o q hx=>?_,F.un.tups,F.un.frzs,F.un.tbls⟩,λb u e=>?_,F.na,?_,F.ha,?_,⟨oe,vs,oT,ts,a0,q1,q2,q3,q4,q6,q7,q8,q9⟩⟩⟩
 ·exact keep b o (λz=>by rw[z,F.na] at q;cases q) (λz=>by rw[z,F.nT] at q;cases q) hb (F.un.keep b o q n hb hx)
 ·obtain⟨sl,e1⟩:=F.un.slot b o q n hb hx;obtain⟨sl2,e2⟩:=slot b _ hb e1;exact⟨sl2,e2⟩
 ·obtain⟨o1,e1⟩:=F.un.there b o q hx
  by_cases hb:b∈fs
  ·obtain⟨sl,e2⟩:=slot b o1 hb e1;exact⟨_,e2⟩
  ·exact⟨o1,keep b o1 (λz=>by rw[z,F.na] at q;cases q) (λz=>by rw[z,F.nT] at q;cases q) hb e1⟩
 ·have nn:∀x v,H' x=some v->x≠a/\x≠T/\x∉fs:=λx v e=>⟨λz=>(by rw[z,F.ha] at e;cases e),λz=>(by rw[z,F.hT] at e;cases e),λz=>(by rw[(hfs x z).1] at e;cases e)⟩;refine(F.hok b u e).stay (λx v hc q=>?_) (λ_ q=>q) λ_ _ q=>q;rcases hc with hc | hc
  ·obtain⟨z1,z2,z3⟩:=nn b u e;rw[hc] at q ⊢;exact keep b v z1 z2 z3 q
  ·obtain⟨z1,z2,z3⟩:=nn x _ hc;exact keep x v z1 z2 z3 q
 ·rcases hT' with z | z
  ·rw[z];exact F.nT
  ·exact back T' z
 ·rcases hT' with z | z
  ·rw[z];exact F.hT
  ·exact F.hok.none_of z
end
noncomputable def oi (P:Program) (w:World):nS:=λouter H s E e s'=>∃a T C H',e=.ref a/\s'.os=s.os/\AllBare s'.gens/\Fl P w (fw outer) H H' s.heap s'.heap a T (.ref C) .none/\E (.ref C) none H'
noncomputable abbrev vU (P:Program) (w:World) (K:yax) (mg:ydv) (base:Heap) (k:Nat) (f:Addr) (fd:FuncData) (ps:List Str) (sp:bV):Prop:=dJ P w K mg base (oi P w) k f fd ps (vF K sp)
section
variable {P:Program} {w:World} {K:yax} {mg:ydv} {base:Heap} {N:List Str} {qual:Str} {scope:Scope} {f:Addr} {cdv:Value} {A:Around} {outer:List Env} {s:Shared} {H:Hp} {E:XK}
theorem zy {σ:St} {H2:Hp} {s2:Shared} {h':Heap} {e C:Addr} {vs:ydw} (I:aI (dC (oi P w) P w K mg base N qual scope f cdv A outer s H E) π σ H2 s2)
 (mx:Heap.MadeExcOf s2.heap h' e (.ref C) vs) (hE:E (.ref C) none H2):(dC (oi P w) P w K mg base N qual scope f cdv A outer s H E).xe (.ref e) { s2 with heap:=h' }:=by
 have ST:=I.stack;have SF:=I.stkFree;refine wpAny_leaves_madeW (base:=hideAll s2.heap (fw (envOfC qual scope s.heap.objs.size f cdv::outer))) (h:=s2.heap) (L:=s.heap.objs.size) I.ok.frames rfl (λb o q=>PySem.W.of_hideAll _ q) (je ST λ_ z=>z) mx λh3 t fly _ _ ups=>?_;obtain⟨k1,_,_,k3⟩:=fly;obtain⟨oe,ws,T,oT,ts,q1,q2,q3,q4,q5,q6,q7,q8,q9⟩:=k3;have keep:∀b o,b∉fw (envOfC qual scope s.heap.objs.size f cdv::outer)->s2.heap.get? b=some o->h3.get? b=some o:=λb o hb q=>k1 b o (hideAll_get _ q hb);have slot:∀b o,b∈fw (envOfC qual scope s.heap.objs.size f cdv::outer)->s2.heap.get? b=some o->(∃sl,h3.get? b=some { o with slots:=sl })/\∀vs,o.data≠ .fields vs:=λb o hb q=>by
  obtain⟨_,o2,e2,d2⟩:=ST.mem hb;rw[q] at e2;cases e2;exact⟨ups b o (mx.keeps b o q) d2,d2⟩
 have nL:∀b o,s.heap.get? b=some o->b∉fw outer->b∉fw (envOfC qual scope s.heap.objs.size f cdv::outer):=λb o q hb z=>by
  rcases mem_cons.mp (show b∈s.heap.objs.size::fw outer from z) with z | z
  ·exact absurd (ybx q) (by rw[z];exact lt_irrefl _)
  ·exact hb z
 have back:∀b,s2.heap.get? b=none->s.heap.get? b=none:=λb q=>by
  cases z:s.heap.get? b with
  | none=>rfl
  | some o=>
    obtain⟨o',e'⟩:=I.base.there b o z (by intro y;cases y);rw[q] at e';cases e'
 have nT:s2.heap.get? T=none:=by
  cases z:s2.heap.get? T with
  | none=>rfl
  | some o=>
    by_cases zf:T∈fw (envOfC qual scope s.heap.objs.size f cdv::outer)
    ·obtain⟨⟨sl,e3⟩,d2⟩:=slot T o zf z;rw[q7] at e3;cases e3;exact absurd q8 (d2 ts)
    ·rw[hideAll_get _ z zf] at q5;cases q5
 refine⟨e,T,C,H2,rfl,I.os,I.bare,⟨⟨λb o q n hb hx=>?_,λb o q n hb hx=>?_,λb o q n hx=>I.base.free b o q n (by intro y;cases y),λb o q hx=>?_,I.base.tups,I.base.frzs,I.base.tbls⟩,λb u q=>?_,back e mx.new,back T nT,I.hok.none_of mx.new,I.hok.none_of nT,
  ⟨oe,ws,oT,ts,_,q1,q2,q3,q4,q6,q7,q8,q9⟩⟩,hE⟩
 ·exact keep b o (nL b o q hb) (I.base.keep b o q n hb (by intro y;cases y))
 ·obtain⟨sl,e1⟩:=I.base.slot b o q n hb (by intro y;cases y);obtain⟨⟨sl2,e2⟩,_⟩:=slot b _ (yay _ hb) e1;exact⟨sl2,e2⟩
 ·obtain⟨o1,e1⟩:=I.base.there b o q (by intro y;cases y)
  by_cases hb:b∈fw (envOfC qual scope s.heap.objs.size f cdv::outer)
  ·obtain⟨⟨sl,e2⟩,_⟩:=slot b o1 hb e1;exact⟨_,e2⟩
  ·exact⟨o1,keep b o1 hb e1⟩
 ·have nn:∀x v,H2 x=some v->x∉fw (envOfC qual scope s.heap.objs.size f cdv::outer):=λx v q z=>by rw[SF x z] at q;cases q
  refine(I.hok b u q).stay (λx v hc q2=>?_) (λ_ q=>q) λ_ _ q=>q;rcases hc with hc | hc
  ·rw[hc] at q2 ⊢;exact keep b v (nn b u q) q2
  ·exact keep x v (nn x _ hc) q2
noncomputable def tf (C:Addr) (e:WX):WS:=λ_ _ G=>e (.ref C) G
theorem tj {x msg:Str} {C:Addr} {e:WX} {np cpos pos p1:Pos} {j} (hm:mg x=some (.ref C)) (hC:XC K C bm) (hE:∀H1 G1,aT H H1->aO K H1 G1->e (.ref C) G1->E (.ref C) none H1)
 (hg:Gl (dC (oi P w) P w K mg base N qual scope f cdv A outer s H E) x) (hd:(x==("__debug__":Str))=false:=by decide):
 QS (dC (oi P w) P w K mg base N qual scope f cdv A outer s H E) (.Raise (some (.Call (.Name x np) [.Constant (.str msg) j p1] [] cpos)) none pos) (tf C e):=by
 rintro π s2 σ H2 D I ⟨τ,G,d,hs,hgG,ht,l⟩;obtain⟨N1,n1,q1,b1,d1,s1,u1,a1,c1,f1,g0,g1,g2,g3,g5,m1,gC,gN,gi,gT⟩:=hC.obj _ I.ok.mod.kin;refine wpAny_Raise_call_subT (C:=C) (nm:=n1) (q:=q1) (N:=N1) (bs:=b1) (bm:=bm) (hdct:=d1) (sn:=s1) (sub:=u1) (ab:=a1) (col:=c1) (dd:=f1) (k0:=g0) (k1:=g1) (k2:=g2) (k3:=g3) (k5:=g5) PySem.F.excBase_ValueError (mN:=m1) (gT.hasType rfl) (I.ok.hd rfl) rfl gi
  (iH I hg hm ⟨rfl,?_⟩ hd)
 have ha:=(cM (X:=dC (oi P w) P w K mg base N qual scope f cdv A outer s H E) (rM (x:=msg) (j:=j) (pos:=p1)) pa_nil) cpos π s2 σ H2 (λvs H'=>vs.length=1/\H'=H2) I ⟨rfl,rfl⟩;refine Calls.evalArgs_plain (wpAny_mono ha (λus s3 h3=>?_) λ_ _ y=>y);obtain⟨vs,H3,I3,rv,hl,rfl⟩:=h3;refine⟨rfl,?_,I3.bk _ _ gC,gN.keeps I3.bk,gT.keeps I3.bk,λh' a mx=>zy I3 mx (hE _ G ⟨I3.base.tups,λb o u q=>I3.base.frzs b o _ q⟩ hgG ht)⟩;show us.length<=sizeLine;rw[←rv.length,hl];decide
end
theorem DV {x qual:Str} {f:Addr} {N ps:List Str} {sp:bV} (F:cz K x qual st f fd) (S:bW N ps (am st)) (len:∀ws G q e,sp ws G q e->ws.length=ps.length)
 (hbody:∀(cdv:Value) (A:Around) (outer:List Env) (s:Shared) (H:Hp) (E:XK) (ws:List W) (G:Gp) (q:WK) (e:WX),av k (A.deeper (envOfC qual (am st) s.heap.objs.size f cdv))->sp ws G q e->(∀c H1 G1,aT H H1->aO K H1 G1->e c G1->E c none H1)->
   ∃t,nG (dC (oi P w) P w K mg base N qual (am st) f cdv A outer s H E) (au st) t/\t { nx:=λ_ G1=>∃G0,aC G0 G1/\q .non G0,rt:=λw G1=>∃G0,aC G0 G1/\q w G0 } (gP N ws) G):vU P w K mg base (k+1) f fd ps sp:=by
 obtain⟨oc,od,kV,doc,pm,an,cdv,ct,osl,rfl,lk,hcd⟩:=F.ex;refine o8 lk hcd S (λvs H Q E ⟨ws,G,q,e,r,g,z,_⟩=>by rw[←r.length];exact len _ _ _ _ z) (λA outer s H vs Q E hr ⟨ws,G,q,e,r,g,z,hQ,hX⟩=>?_);obtain⟨t,ht,hq⟩:=hbody cdv A outer s H E ws G q e hr z λc H1 G1 t1 g1 z1=>hX c none H1 G1 t1 g1 z1;exact⟨_,ht,_,G,_,bC.start r,g,hq,⟨λσ1 H1 τ1 G1 t1 s1 g1 ⟨G0,l,q1⟩=>hQ .non H1 .non G0 t1 .non (g1.le l) q1,λv H1 w G1 t1 r1 g1 ⟨G0,l,q1⟩=>hQ v H1 w G0 t1 r1 (g1.le l) q1,λ_ _ _ _ _ _ _ z=>z.elim,λ_ _ _ _ _ _ _ z=>z.elim⟩⟩
theorem BJ {x qual:Str} {f T:Addr} {ds:ydw} {N ps:List Str} {sp:bV} (F:fZ K x qual st f fd T ds) (S:bW N ps (am st)) (len:∀ws G q e,sp ws G q e->ws.length=ps.length)
 (hbody:∀(cdv:Value) (A:Around) (outer:List Env) (s:Shared) (H:Hp) (E:XK) (ws:List W) (G:Gp) (q:WK) (e:WX),av k (A.deeper (envOfC qual (am st) s.heap.objs.size f cdv))->sp ws G q e->(∀c H1 G1,aT H H1->aO K H1 G1->e c G1->E c none H1)->
   ∃t,nG (dC (oi P w) P w K mg base N qual (am st) f cdv A outer s H E) (au st) t/\t { nx:=λ_ G1=>∃G0,aC G0 G1/\q .non G0,rt:=λw G1=>∃G0,aC G0 G1/\q w G0 } (gP N ws) G):vU P w K mg base (k+1) f fd ps sp:=by
 obtain⟨oc,od,kV,doc,pm,an,cdv,ct,osl,ot,nt,rfl,lk,hcd,ht,hd⟩:=F.ex;refine o8 lk hcd S (λvs H Q E ⟨ws,G,q,e,r,g,z,_⟩=>by rw[←r.length];exact len _ _ _ _ z) (λA outer s H vs Q E hr ⟨ws,G,q,e,r,g,z,hQ,hX⟩=>?_);obtain⟨t,ht,hq⟩:=hbody cdv A outer s H E ws G q e hr z λc H1 G1 t1 g1 z1=>hX c none H1 G1 t1 g1 z1;exact⟨_,ht,_,G,_,bC.start r,g,hq,⟨λσ1 H1 τ1 G1 t1 s1 g1 ⟨G0,l,q1⟩=>hQ .non H1 .non G0 t1 .non (g1.le l) q1,λv H1 w G1 t1 r1 g1 ⟨G0,l,q1⟩=>hQ v H1 w G0 t1 r1 (g1.le l) q1,λ_ _ _ _ _ _ _ z=>z.elim,λ_ _ _ _ _ _ _ z=>z.elim⟩⟩
section
variable {X:Cx} {π:List (Addr×Obj)} {σ:St} {H:Hp} {s:Shared} {a:Addr} {oe:Obj}
end
section
variable {X:Cx} {π:List (Addr×Obj)} {σ:St} {H0 H:Hp} {s0 s:Shared} {a T:Addr} {c fl:Value}
theorem Fl.inv (F:Fl X.prog X.w (fw X.stack) H0 H s0.heap s.heap a T c fl) (I:aI X π σ H0 s0) (os:s.os=s0.os) (bare:AllBare s.gens):aI X π σ H s:=I.call' (ch:=[]) os F.un F.hok bare λb z=>absurd z (by simp)
theorem aI.frmem (I:aI X π σ H s):∀b∈fw X.stack,H b=none/\∃o,s.heap.get? b=some o/\∀vs,o.data≠ .fields vs:=λb hb=>⟨I.stkFree b hb,(I.stack.mem hb).2⟩
variable {C D:Addr} {bm bmD:ydw} {x:Str} {p pos:Pos} {name:Option Str} {body:List Stmt} {bX:List ExceptHandler} {b0:Stmt} {th:WS}
end
section
variable {X:Cx} {a:Addr} {oe:Obj} {C D:Addr} {bm bmD:ydw}
theorem oj {x y:V} (r:aW [x,y] us):∃u v,us=[u,v]/\bc x u/\bc y v:=by
 cases r with
 | cons r1 r=>
   cases r with
   | cons r2 r=>cases r;exact⟨_,_,rfl,r1,r2⟩
end
section
variable {prog:Program} {w:World} {A:Around} {R:Result->Shared->Prop} {I:Addr} {fp wr:List Addr} {n:Nat} {P:Nat->Value->Prop} {St:Nat->Heap->Prop} {kw:List (Str×Value)}
theorem qP (a d:Value):argsOk "max" ⟨[a],[("default",d)]⟩:=by unfold argsOk;kernel_rfl
theorem BK (W:Walks prog w A.in1 I fp wr n P St) (bt:Nat->Nat->Bool) (hcmp:CmpOf prog w A.in1 .Gt P bt) (S:Addr) (hSf:S∉fp):
 ∀(k j:Nat) (s:Shared) (vb:Value) (c:Nat),n- (j+1)=k->j+1<=n->St (j+1) s.heap->P (argBest bt j) vb->s.heap.get? S=some { cls:= .type "list",dict:=none,data:= .seq #[vb,vb] c,slots:= #[] }->
  (∀v h' tk,P (argBest bt (n-1)) v->(∀b o,b∉wr->b≠S->s.heap.get? b=some o->h'.get? b=some o)->R (.ok (.ret v)) { s with heap:=h',toks:=tk })->
  codeAny (model prog w) A (.builtin "max.loop" ⟨[.ref I,.none,.ref S],kw⟩) R s:=by
 have nw:S∉wr:=λz=>hSf (W.sub _ z);have nm:(toString "max"++toString ".loop":String)="max.loop":=by decide
 intro k
 induction k with
 | zero=>
   intro j s vb c hk hj hst hb hS hR;have hin:j+1=n:=by lia
   refine(codeAny_builtin F.entry_max_loop ?_);rw[Around.under_plainId F.plain_max_loop _];show wpAny _ A.in1 (seqItems? (Value.ref S) >>= _) _ _ s;refine wax (wpAny_seqItems hS rfl (?_:wpAny _ A.in1 (tryCatch (pyNext (.ref I)) _ >>= _) _ _ s));refine wax (wpAny_tryCatch (W.done s _ _ (hin▸hst) λh1 tk k1=>(?_:wpAny _ A.in1 (updateSeq S (λ_=> #[]) >>= _) _ _ _)));refine wax (wpAny_updateSeq (k1 S _ nw hS) rfl (wax (wpAny_letGo (way ?_))));exact hR vb _ tk (by rw[←hin];exact hb) λb o n1 n2 e=>(Heap.get?_update_other _ _ (Ne.symm n2)).trans (k1 b o n1 e)
 | succ k ih=>
   intro j s vb c hk hj hst hb hS hR;have hlt:j+1<n:=by lia
   refine(codeAny_builtin F.entry_max_loop ?_);rw[Around.under_plainId F.plain_max_loop _];show wpAny _ A.in1 (seqItems? (Value.ref S) >>= _) _ _ s;refine wax (wpAny_seqItems hS rfl (?_:wpAny _ A.in1 (tryCatch (pyNext (.ref I)) _ >>= _) _ _ s));refine wax (wpAny_tryCatch (W.item (j+1) s _ _ hlt hst λv h1 tk hP hst1 k1=>(?_:wpAny _ A.in1 (tryCatch (holding [v,v] (richCompare .Gt v vb >>= _)) _ >>= _) _ _ _)));have hS1:=k1 S _ nw hS;refine wax (wpAny_tryCatch (wpAny_holding (wax (hcmp (j+1) (argBest bt j) v vb _ _ _ hP hb (wax (wpAny_holding (wpAny_truthy_bool (wax (wpAny_letGo (way ?_))))))))));cases e0:bt (j+1) (argBest bt j) with
   | true=>
     simp only[if_true];refine wax (wpAny_updateSeq hS1 rfl (wax (wpAny_letGo ?_)));rw[nm];refine way ⟨plainId_quiet F.plain_max_loop _,ih (j+1) _ v _ (by lia) hlt (W.frame _ _ _ hst1 λb hf o e=>?_) (by simp only[argBest,e0,if_true];exact hP) (Heap.get?_update_self _ hS1 rfl) λv2 h2 tk2 hP2 k2=>?_⟩
     ·exact(Heap.get?_update_other _ _ (λz:S=b=>hSf (by rw[z];exact hf))).trans e
     ·exact hR v2 h2 tk2 hP2 λb o n1 n2 e=>k2 b o n1 n2 ((Heap.get?_update_other _ _ (Ne.symm n2)).trans (k1 b o n1 e))
   | false=>
     simp only[if_false,Bool.false_eq_true];refine wax (wpAny_letGo ?_);rw[nm];refine way ⟨plainId_quiet F.plain_max_loop _,ih (j+1) _ vb c (by lia) hlt hst1 (by simp only[argBest,e0,if_false,Bool.false_eq_true];exact hb) hS1 λv2 h2 tk2 hP2 k2=>?_⟩;exact hR v2 h2 tk2 hP2 λb o n1 n2 e=>k2 b o n1 n2 (k1 b o n1 e)
end
section
variable {prog:Program} {w:World} {A:Around} {E:ydz} {s:Shared} {l:Addr} {xs:Array (Int×Tok)} {d:Value}
theorem qQ (hh:A.handled=none) (hl:s.heap.IsList l (intItems xs))
 (h0:xs.size=0->∀h' tk,(∀b o,s.heap.get? b=some o->h'.get? b=some o)->Q d { s with heap:=h',toks:=tk })
 (h1:0<xs.size->∀v h' tk,(intItems xs)[argBest (λi j=>decide (numAt xs i > numAt xs j)) (xs.size-1)]?=some v->(∀b o,s.heap.get? b=some o->h'.get? b=some o)->Q v { s with heap:=h',toks:=tk }):
 wpAny (model prog w) A (call (.builtin "max") [.ref l] [("default",d)]) Q E s:=by
 have nm:(toString "max"++toString ".loop":String)="max.loop":=by decide
 have body:wpAny (model prog w) A.in1 (Builtin.«max» ⟨[.ref l],[("default",d)]⟩) (λfin s'=>match fin with
  | .done f=>(match (Except.ok f:Result) with | .ok (.ret v)=>Q v s' | .ok _=>False | .error e=>E e s')
  | .again c'=>c'.quiet=true/\codeAny (model prog w) A c' (λr s'=>match r with | .ok (.ret v)=>Q v s' | .ok _=>False | .error e=>E e s') s') E s:=by
  show wpAny _ A.in1 (Builtin.Builtins.bindParams "max" ["key","default"] 0 ⟨[],[("default",d)]⟩ >>= _) _ _ s;refine wax (wpAny_of_eq (show Builtin.Builtins.bindParams "max" ["key","default"] 0 ⟨[],[("default",d)]⟩=pure [none,some d] from rfl) (wax (way (wax (iter_intList hl λs2 e st hfp hlI=>?_)))));subst e;have Wk:=Walks.list (prog:=prog) (w:=w) (A:=A.in1) hh s.heap.objs.size l hlI (intItems xs);refine wax (wpAny_newObj_type ?_);rw[nm];have hSf:(s.heap.push { cls:= .type "list_iterator",data:= .fields #[.ref l,.int 0 0] }).objs.size∉[s.heap.objs.size,l]:=λz=>lt_irrefl _ (hfp _ z);have nw:(s.heap.push { cls:= .type "list_iterator",data:= .fields #[.ref l,.int 0 0] }).objs.size∉[s.heap.objs.size]:=λz=>hSf (Wk.sub _ z);have st1:=Wk.frame _ _ _ st λb _ o e=>yaw (h:=s.heap.push { cls:= .type "list_iterator",data:= .fields #[.ref l,.int 0 0] }) { cls:= .type "list",data:= .seq #[] } e;have hS:((s.heap.push { cls:= .type "list_iterator",data:= .fields #[.ref l,.int 0 0] }).push { cls:= .type "list",data:= .seq #[] }).get? (s.heap.push { cls:= .type "list_iterator",data:= .fields #[.ref l,.int 0 0] }).objs.size=some { cls:= .type "list",dict:=none,data:= .seq #[] 0,slots:= #[] }:=yav _ rfl;have old:∀b o,s.heap.get? b=some o->b∉[s.heap.objs.size]/\b≠(s.heap.push { cls:= .type "list_iterator",data:= .fields #[.ref l,.int 0 0] }).objs.size/\((s.heap.push { cls:= .type "list_iterator",data:= .fields #[.ref l,.int 0 0] }).push { cls:= .type "list",data:= .seq #[] }).get? b=some o:=λb o e=>by
   have hb:=ybx e;refine⟨λz=>?_,λz=>?_,yaw _ (yaw _ e)⟩
   ·rw[mem_singleton.mp z] at hb;exact lt_irrefl _ hb
   ·rw[z,Heap.size_push] at hb;exact absurd hb (not_lt.mpr (le_succ _))
  refine way ⟨plainId_quiet F.plain_max_loop _,?_⟩;refine(codeAny_builtin F.entry_max_loop ?_);rw[Around.under_plainId F.plain_max_loop _];show wpAny _ A.in1 (seqItems? (Value.ref (s.heap.push { cls:= .type "list_iterator",data:= .fields #[.ref l,.int 0 0] }).objs.size) >>= _) _ _ _;refine wax (wpAny_seqItems hS rfl (?_:wpAny _ A.in1 (tryCatch (pyNext (.ref s.heap.objs.size)) _ >>= _) _ _ _));have hsz:(intItems xs).size=xs.size:=by simp[intItems]
  by_cases hz:xs.size=0
  ·refine wax (wpAny_tryCatch (Wk.done _ _ _ ((hsz.trans hz).symm▸st1) λh' tk k1=>?_));refine wax (wpAny_rule (way ?_));exact h0 hz h' tk λb o e=>k1 b o (old b o e).1 (old b o e).2.2
  ·have hp:0<xs.size:=Nat.pos_of_ne_zero hz;refine wax (wpAny_tryCatch (Wk.item 0 _ _ _ (by rw[hsz];exact hp) st1 λv h' tk hP hst' k1=>(?_:wpAny _ A.in1 (updateSeq (s.heap.push { cls:= .type "list_iterator",data:= .fields #[.ref l,.int 0 0] }).objs.size (λ_=> #[v,v]) >>= _) _ _ _)));have hS1:=k1 _ _ nw hS;refine wax (wpAny_updateSeq hS1 rfl ?_);rw[nm];refine way ⟨plainId_quiet F.plain_max_loop _,BK Wk _ (CmpOf.ints_gt (numAt xs) λ_ _=>intItems_at) _ hSf _ 0 _ v _ rfl (by rw[hsz];exact hp) (Wk.frame _ _ _ hst' λb hf o e=>?_) hP (Heap.get?_update_self _ hS1 rfl) λv2 h2 tk2 hP2 k2=>?_⟩
   ·exact(Heap.get?_update_other _ _ (λz=>hSf (by rw[z];exact hf))).trans e
   ·refine h1 hp v2 h2 tk2 (by rw[←hsz];exact hP2) λb o e=>k2 b o (old b o e).1 (old b o e).2.1 ((Heap.get?_update_other _ _ (Ne.symm (old b o e).2.1)).trans (k1 b o (old b o e).1 (old b o e).2.2))
 have ha:=qP (.ref l) d;refine wpAny_call (codeAny_call_builtin F.plain_max F.entry_max ?_);simp only[F.kind_max,checkBuiltinCall];cases sg:Manifest.signature? "max" with
 | none=>exact way body
 | some sig=>
   simp only[argsOk,sg] at ha;show wpAny _ A.in1 (Bind.checkArgs "max" sig ⟨[.ref l],[("default",d)]⟩) _ _ s;rw[show Bind.checkArgs "max" sig ⟨[.ref l],[("default",d)]⟩=pure () from ha];exact way body
end
section
variable {X:Cx}
noncomputable def x4 (te:WE) (d:Int):WE:=λτ G q=>te τ G λx G1=>match x with
 | .ref a=>∃ns:List Int,G1 a=some (.lst (ns.map W.int))/\(ns=[]->q (.int d) G1)/\∀m:Int,m∈ns->(∀x,x∈ns->x<=m)->q (.int m) G1
 | _=>False
theorem pE {te:WE} {d:Int} {j} {p pos kp cp:Pos} (hc:X.calm=true) (hg:Gl X "max") (hm:X.mg "max"=none) (he:QE X e te)
 (hs1:starEach [e] X.env=(false,eval e X.env)::starEach [] X.env:=by rfl) (hb1:backTo pos (starEach [e] X.env)=(false,eval e X.env)::backTo pos (starEach [] X.env):=by rfl) (hpl:(backTo pos (starEach [e] X.env)).any (·.1)=false:=by rfl):
 QE X (.Call (.Name "max" p) [e] [⟨some "default",.Constant (.int d) j cp,kp⟩] pos) (x4 te d):=by
 rintro π s σ H Q I ⟨τ,G,q,hs,hgG,ht,hQ⟩;refine wpAny_Call_Name_kw (eU I hg hm sS ?_);have go:=(cM he pa_nil hs1) pos π s σ H (λvs H1=>∃v w G1,vs=[v]/\aT H H1/\bN X.K H1 w v/\aO X.K H1 G1/\(match w with
  | .ref a=>∃ns:List Int,G1 a=some (.lst (ns.map W.int))/\(ns=[]->q (.int d) G1)/\∀m:Int,m∈ns->(∀x,x∈ns->x<=m)->q (.int m) G1
  | _=>False)) I ⟨τ,G,_,hs,hgG,ht,λv H1 w G1 t1 r1 g1 q1=>⟨v,w,G1,rfl,t1,r1,g1,q1⟩⟩
 refine callWith_kw (cf go λus s1 ⟨vs,H1,I1,rv,v,w,G1,ev,t1,rw1,g1,hw⟩=>kws_cons ?_) hb1 hpl rfl rfl;subst ev;refine cf (rL (X:=X) (i:=d) (j:=j) (pos:=cp) π s1 σ H1 (λv H2=>v=.int d/\H2=H1) I1 ⟨rfl,rfl⟩) λu2 s2 ⟨v2,H2,I2,rv2,e1,e2⟩=>kws_nil ?_;subst e1 e2;obtain⟨td,rfl⟩:=rv2;show wpAny _ _ (call (.builtin "max") us [("default",.int d td)]) _ _ s2;split at hw
 ·rename_i a;obtain⟨ns,e,h0,h1⟩:=hw;cases rw1;obtain⟨_,zs,e1,rr⟩:=g1 a _ e;obtain rfl:=rr.ints_of;obtain⟨u,rfl,ru⟩:=eV rv;cases (show u=Value.ref a from ru);obtain⟨its,ri,pl,hz⟩:=I2.list (cZ.of e1);have hi:IntsAre its ns:=L2.intsAre_of ri;obtain⟨ys,ey⟩:=hi.allInts.items;have hn:(ys.toList.map (·.1))=ns:=by rw[←nums_intItems,←ey,←hi.numsOf]
  have hl:s2.heap.IsList a (intItems ys):=by rw[←ey];exact pl.isList
  have hsz:ys.size=ns.length:=by rw[←hn];simp
  refine qQ (I2.ok.hd hc) hl (λhz h' tk hk=>⟨.int d,H2,I2.kept hk,⟨_,rfl⟩,hQ _ H2 _ G1 t1 (.int _) g1 (h0 ?_)⟩) λhpos v h' tk hv hk=>?_
  ·exact eq_nil_of_length_eq_zero (hsz.symm.trans hz)
  ·have ab:=argBest_gt (numAt ys) (ys.size-1);generalize argBest (λi j=>decide (numAt ys i > numAt ys j)) (ys.size-1)=ix at hv ab;have hix:ix<ys.size:=by lia
   have hna:∀j (hj:j<ys.size),numAt ys j=ns[j]'(by lia):=λj hj=>by
    unfold numAt;rw[Array.getElem?_eq_getElem hj];simp[←hn]
   have hv2:v=Value.int (ys[ix].1) (ys[ix].2):=by
    unfold intItems at hv;rw[Array.getElem?_map,Array.getElem?_eq_getElem hix] at hv;simpa using hv.symm
   have hm:ys[ix].1=ns[ix]'(by lia):=by
    have:=hna ix hix;unfold numAt at this;rw[Array.getElem?_eq_getElem hix] at this;simpa using this
   rw[hm] at hv2;subst hv2;refine⟨.int _,H2,I2.kept hk,⟨_,rfl⟩,hQ _ H2 _ G1 t1 (.int _) g1 (h1 _ (getElem_mem _) λx hx=>?_)⟩;obtain⟨j,hj,rfl⟩:=List.mem_iff_getElem.mp hx;have:=ab.2 j (by lia);rw[hna j (by lia),hna ix hix] at this;exact this
 ·exact hw.elim
end
section
variable {P:Program} {w:World} {K:yax} {mg:ydv} {base:Heap} {N:List Str} {qual:Str} {scope:Scope} {f:Addr} {cdv:Value} {A:Around} {outer:List Env} {s:Shared} {H:Hp} {E:XK}
theorem vV {E':XK} (hE:∀C H1,aT H H1->E' (.ref C) none H1->E (.ref C) none H1):ei (oi P w) (dC (oi P w) P w K mg base N qual scope f cdv A outer s H E) E':=by
 intro π σ H2 s2 e s3 I hx;obtain⟨a,T,C,H',rfl,os,bare,F,hw⟩:=hx;have I':=F.inv I os bare;obtain⟨a0,tr⟩:=F.traced;show wpAny _ _ (leaving (envOfC qual scope s.heap.objs.size f cdv) (.ref a)) _ _ s3;refine wpAny_leaving_nextW (base:=hideAll s3.heap (a::T::fw (envOfC qual scope s.heap.objs.size f cdv::outer))) (outer:=outer) (L:=s.heap.objs.size) I'.ok.frames (je I'.stack λb z=> .tail _ (.tail _ z)) rfl tr (λb o q=>PySem.W.of_hideAll _ q) (hideAll_none _ (.head _)) λh3 left=>?_;obtain⟨k1,_,k3,k4⟩:=left;obtain⟨T',F'⟩:=F.move I'.frmem k1 k3 k4;have nL:∀b o,s.heap.get? b=some o->b∉fw outer->b∉fw (envOfC qual scope s.heap.objs.size f cdv::outer):=λb o q hb z=>by
  rcases mem_cons.mp (show b∈s.heap.objs.size::fw outer from z) with z | z
  ·exact absurd (ybx q) (by rw[z];exact lt_irrefl _)
  ·exact hb z
 have no:∀b:Addr,b∉(dC (oi P w) P w K mg base N qual scope f cdv A outer s H E).ex:=λb y=>nomatch y;have back:∀b,s2.heap.get? b=none->s.heap.get? b=none:=λb q=>by
  cases z:s.heap.get? b with
  | none=>rfl
  | some o=>
    obtain⟨o',e'⟩:=I.base.there b o z (no b);rw[q] at e';cases e'
 have tl:aT H H':=⟨λb xs q=>F.un.tups b xs (I.base.tups b xs q),λb o u q=>F.un.frzs b o _ (I.base.frzs b o _ q)⟩;refine⟨a,T',C,H',rfl,os.trans I.os,bare,⟨⟨λb o q n hb hx=>?_,λb o q n hb hx=>?_,λb o q n hx=>?_,λb o q hx=>?_,λb xs q=>F.un.tups b xs (I.base.tups b xs q),λb o u q=>F.un.frzs b o u (I.base.frzs b o u q),λb ps q=>?_⟩,F'.hok,back a F'.na,back T' F'.nT,F'.ha,F'.hT,F'.tr⟩,hE C H' tl hw⟩
 ·exact F'.un.keep b o (I.base.keep b o q n hb (no b)) (I.base.free b o q n (no b)) (nL b o q hb) (by simp)
 ·obtain⟨sl,e1⟩:=I.base.slot b o q n hb (no b);obtain⟨sl2,e2⟩:=F'.un.slot b _ e1 (I.base.free b o q n (no b)) (yay _ hb) (by simp);exact⟨sl2,e2⟩
 ·obtain⟨o',e'⟩:=I.base.there b o q (no b);exact F'.un.free b o' e' (I.base.free b o q n (no b)) (by simp)
 ·obtain⟨o',e'⟩:=I.base.there b o q (no b);exact F'.un.there b o' e' (by simp)
 ·obtain⟨m1,e1⟩:=I.base.tbls b ps q;obtain⟨m2,e2⟩:=F.un.tbls b _ e1;exact⟨m1++m2,by rw[e2,Array.append_assoc]⟩
end
section
variable {X:Cx} {π:List (Addr×Obj)} {σ:St} {H:Hp} {s:Shared}
theorem aI.big (I:aI X π σ H s):sysModules<s.heap.objs.size:=by
 have h:mainGlobals<s.heap.objs.size:=(I.mod.glob.keeps I.bk).lt;exact Nat.lt_trans (by decide) h
end
section
variable {prog:Program} {w:World} {A:Around} {E:ydz} {s:Shared} {I l:Addr} {items:Array Value}
end
section
variable {X:Cx}
end
section
variable {X:Cx} {tg:Expr}
noncomputable def DW (i j:Int):Prop:=0<=j/\j<=1000/\i.natAbs<2^4000
noncomputable def tm (i j:Int):Prop:=yH i j∨DW i j
noncomputable abbrev BL:W2:=qK tm λi j=> .int (i^j.toNat)
theorem vW:ik X (binaryOp .Pow) (rI tm λi j=> .int (i^j.toNat)):=CT λi j _ _ _ _ _ hc q=>by
 rcases hc with hc | ⟨h0,h1,h2⟩
 ·exact pow_int_small hc.1 hc.2.1 hc.2.2 q
 ·refine pow_int h0 ?_ q;have b1:=PyProof.Rows.intBits_le h2;have b2:(Builtin.Int.intBits i:Int)*j<=4000*1000:=Int.mul_le_mul (by lia) h1 h0 (by decide);have hb:(4000000:Int)<=bitsLine:=by decide
  first | lia | (simp[Builtin.Int.intTooBig];lia)
theorem jf:gG X (binaryOp .Pow) BL:=n6 vW
end
section
variable {X:Cx} {C:Addr} {th:WS} {x:Str} {p pos:Pos}
end
section
variable {X:Cx}
end
theorem gR:fillsNumberSlot (.type "tuple") "mul"=pure false:=
 PySem.fillsNumberSlot_seq (id:="tuple.__mul__") (r:=some (.builtin "tuple.__rmul__")) F.slot_tuple_mul.lookup (by decide+kernel) F.slot_tuple_rmul.lookup (by decide+kernel)
theorem kU:seqRepeat? (.type "tuple")=pure (some (.builtin "tuple.__mul__")):=by
 unfold seqRepeat?;rw[PySem.seqSlot_of (T:="tuple") (name:="__mul__") (id:="tuple.__mul__") F.slot_tuple_mul.lookup (by decide+kernel),PySem.seqSlot_of (T:="tuple") (name:="__rmul__") (id:="tuple.__rmul__") F.slot_tuple_rmul.lookup (by decide+kernel)]
 rfl
theorem jg (a:Int) (t:Tok) (l:Addr) (items:Array Value) (n:Nat) (dd:Option Addr) (sl:Array (Option Value)):
 Meets (Builtin.«int.__rmul__» ⟨[.int a t,.ref l],[]⟩) (λ_ R s=>s.heap.get? l=some { cls:= .type "tuple",dict:=dd,data:= .seq items n,slots:=sl }/\R (.ok (.ret Value.notImplemented)) s):=
 .of_wp λprog w A R s h=>by obtain⟨hp,g,d,tk,os⟩:=s;obtain⟨hl,h⟩:=h;wp_walk;exact⟨_,rfl,h⟩
theorem ol (l:Addr) (items:Array Value) (n:Nat) (dd:Option Addr) (sl:Array (Option Value)) (u:Tok):
 Meets (Builtin.«tuple.__mul__» ⟨[.ref l,.int 1 u],[]⟩) (λ_ R s=>s.heap.get? l=some { cls:= .type "tuple",dict:=dd,data:= .seq items n,slots:=sl }/\R (.ok (.ret (.ref l))) s):=
 .of_wp λprog w A R s h=>by
  obtain⟨hp,g,d,tk,os⟩:=s;obtain⟨hl,h⟩:=h
  wp_walk
  exact⟨_,rfl,h⟩
theorem oo (l:Addr) (items:Array Value) (n:Nat) (dd:Option Addr) (sl:Array (Option Value)) (x:Int) (u:Tok) (h0:items.isEmpty=false) (h1:(x==1)=false) (h2:0<x) (hf:(decide (x< -(2^63))||decide (x≥2^63))=false) (hm:decide ((items.size:Int)*x > (2^63-1)/8)=false) (ht:Builtin.Tuple.tupleTooMany ((items.size:Int)*x)=false) (hsz:((List.replicate x.toNat items).foldl (·++ ·) #[]).size<=sizeLine):
 Meets (Builtin.«tuple.__mul__» ⟨[.ref l,.int x u],[]⟩) (λ_ R s=>s.heap.get? l=some { cls:= .type "tuple",dict:=dd,data:= .seq items n,slots:=sl }/\R (.ok (.ret (.ref s.heap.objs.size))) { s with heap:=s.heap.push { cls:= .type "tuple",data:= .seq ((List.replicate x.toNat items).foldl (·++ ·) #[]) } }):=
 .of_wp λprog w A R s h=>by
  obtain⟨hp,g,d,tk,os⟩:=s;obtain⟨hl,h⟩:=h;have c1:(items.isEmpty||x==1)=false:=by rw[h0,h1];rfl
  have c2:(decide (x<=0)||items.isEmpty)=false:=by rw[h0,ycz (by lia)];rfl
  wp_walk
  refine wpAny_ite_false (by rw[hf];rfl) ?_
  wp_walk
  refine wpAny_ite_false hm ?_
  wp_walk
  exact⟨_,rfl,h⟩
theorem oq (l:Addr) (items:Array Value) (n:Nat) (dd:Option Addr) (sl:Array (Option Value)) (u:Tok) (h0:items.isEmpty=false):
 Meets (Builtin.«tuple.__mul__» ⟨[.ref l,.int 0 u],[]⟩) (λ_ R s=>s.heap.get? l=some { cls:= .type "tuple",dict:=dd,data:= .seq items n,slots:=sl }/\R (.ok (.ret (.ref s.heap.objs.size))) { s with heap:=s.heap.push { cls:= .type "tuple",data:= .seq #[] } }):=
 .of_wp λprog w A R s h=>by
  obtain⟨hp,g,d,tk,os⟩:=s;obtain⟨hl,h⟩:=h;have c1:(items.isEmpty||(0:Int)==1)=false:=by rw[h0];rfl
  wp_walk
  exact⟨_,rfl,h⟩
section
variable {X:Cx}
noncomputable def BM (K:yax):R2:=λx y H Q=>∃a k xs,x=.ref a/\y=.int k/\cU K H a xs/\xs≠[]/\0<=k/\k<=100000/\xs.length*k.toNat<=sizeLine/\
 (k=1->Q (.ref a) H)/\(k≠1->∀p,H p=none->Q (.ref p) (upd H p (.tup (List.replicate k.toNat xs).flatten)))
theorem vX:ik X (binaryOp .Mult) (BM X.K):=by
 intro π s σ H x y v u Q I rx ry h;obtain⟨a,k,xs,rfl,rfl,ha,hx,h0,h1,hz,q1,q2⟩:=h;cases rx;obtain⟨t,rfl⟩:=ry;obtain⟨its,r1,p1,_⟩:=I.tuple ha;have hl:=r1.length;obtain⟨⟨cls,dd,data,sl⟩,ho,hc,n,hd⟩:=id p1;simp only at hc hd;subst hc hd;have he:its.toArray.isEmpty=false:=by
  cases its with
  | nil=>exact absurd (r1.nil_iff.mp rfl) hx
  | cons _ _=>rfl
 refine wpAny_binaryOp_repeat_ref (T:="tuple") (U:="int") (by decide) ⟨_,ho,rfl⟩ (λs'=>typeIs_int s' k t) gR F.fills_int_mul F.slot_int_rmul kU F.slot_int_index.lookup
  (call_meets F.slot_int_rmul (typeIs_int s k t) F.entry_int_rmul (F.args_int_rmul_2 _ _) (jg k t a its.toArray n dd sl) ⟨ho,rfl,⟨_,ho,rfl⟩,?_⟩)
 by_cases hk1:k=1
 ·subst hk1;exact call_meets F.slot_tuple_mul ⟨_,ho,rfl⟩ F.entry_tuple_mul (F.args_tuple_mul_2 _ _) (ol a its.toArray n dd sl t) ⟨ho,⟨.ref a,H,I,rfl,q1 rfl⟩⟩
 ·by_cases hk0:k=0
  ·subst hk0;refine call_meets F.slot_tuple_mul ⟨_,ho,rfl⟩ F.entry_tuple_mul (F.args_tuple_mul_2 _ _) (oq a its.toArray n dd sl t he) ⟨ho,?_⟩;refine⟨.ref s.heap.objs.size,_,I.laid (t':=s.toks) (o:= .tup []) (λb ob q=>yaw _ q) (yby _) ?_,rfl,q2 (by decide) _ (I.hok.fresh (yby _))⟩;exact⟨zero_le _,[],.nil,IsTup.new _ _⟩
  ·have hsz:(its.toArray.size:Int)*k<=(sizeLine:Int):=by
    rw[size_toArray,←hl,←Int.toNat_of_nonneg h0]
    exact_mod_cast hz
   have hnew:List.foldl (λx1 x2=>x1++x2) #[] (List.replicate k.toNat its.toArray)=(List.replicate k.toNat its).flatten.toArray:=by
    have:=gL its k.toNat [];rw[nil_append] at this;exact this
   refine call_meets F.slot_tuple_mul ⟨_,ho,rfl⟩ F.entry_tuple_mul (F.args_tuple_mul_2 _ _) (oo a its.toArray n dd sl k t he (by simpa using hk1) (by lia) ?_ ?_ ?_ ?_) ⟨ho,?_⟩
   ·rw[ycz (by lia),ycz (by lia)];rfl
   ·refine ycz (Int.not_lt.mpr (ydx hsz ?_));decide
   ·unfold Builtin.Tuple.tupleTooMany;exact ycz (Int.not_lt.mpr hsz)
   ·rw[hnew,size_toArray,iJ,Nat.mul_comm,←hl];exact hz
   ·rw[hnew];refine⟨.ref s.heap.objs.size,_,I.laid (t':=s.toks) (o:= .tup (List.replicate k.toNat xs).flatten) (λb ob q=>yaw _ q) (yby _) ?_,rfl,q2 hk1 _ (I.hok.fresh (yby _))⟩;exact⟨by rw[iJ,Nat.mul_comm];exact hz,_,r1.rep k.toNat,IsTup.new _ _⟩
end
section
variable {X:Cx}
end
noncomputable abbrev FG:=Addr->cT->Gp->Prop
noncomputable def XP (X:Cx) (π:List (Addr×Obj)) (H:Hp) (ex:FG) (e:Value) (s':Shared):Prop:=
 ∃a T C H0 s0 σ H' τ G,e=.ref a/\aI X π σ H0 s0/\Fl X.prog X.w (fw X.stack) H0 H' s0.heap s'.heap a T (.ref C) .none/\s'.os=s0.os/\AllBare s'.gens/\aT H H'/\bC X.K H' τ σ/\aO X.K H' G/\ex C τ G
section
variable {X:Cx} {x:Str} {p pos:Pos}
end
theorem slot_rv_next:Slot "reversed" "__next__" "reversed.__next__":=
 .of (owner:="reversed") (n:="__next__") (by rw[typeLookup_type,builtinLookup_eq_fast];kernel_rfl) (by decide+kernel) (by decide+kernel) (by decide+kernel)
  (by first | exact .inl (by decide+kernel) | exact .inr (by decide+kernel)) (by rw[isSubtype_type];kernel_rfl)
theorem fE:entryFor table "reversed.__next__"=some Builtin.«reversed.__next__»:=entryFor_of_tree (by kernel_rfl)
theorem gf (a:Value):argsOk "reversed.__next__" ⟨[a],[]⟩:=by unfold argsOk;kernel_rfl
theorem gh:Slot "reversed" "__iter__" "reversed.__iter__":=
 .of (owner:="reversed") (n:="__iter__") (by rw[typeLookup_type,builtinLookup_eq_fast];kernel_rfl) (by decide+kernel) (by decide+kernel) (by decide+kernel)
  (by first | exact .inl (by decide+kernel) | exact .inr (by decide+kernel)) (by rw[isSubtype_type];kernel_rfl)
theorem kX (a:Value):argsOk "reversed.__iter__" ⟨[a],[]⟩:=by unfold argsOk;kernel_rfl
theorem jJ:entryFor table "reversed.__iter__"=some Builtin.«dict_keyiterator.__iter__»:=
 entryFor_alias (id':="dict_keyiterator.__iter__") (by kernel_rfl) (by first | rfl | decide+kernel | (unfold String.splitOn;simp+decide [String.splitOnAux])) (by decide+kernel) (by kernel_rfl)
theorem kY:Slot "reversed" "__init__" "object.__init__":=
 .of (owner:="object") (n:="__init__") (by rw[typeLookup_type,builtinLookup_eq_fast];kernel_rfl) (by decide+kernel) (by decide+kernel) (by decide+kernel)
  (by first | exact .inl (by decide+kernel) | exact .inr (by decide+kernel)) (by rw[isSubtype_type];kernel_rfl)
theorem qR:TypeCalled "reversed" "reversed.__new__" "object.__init__":=
 ⟨by decide+kernel,by decide+kernel,⟨_,_,F.mro_reversed⟩,F.made_reversed,by decide+kernel,by rw[isSubtype_type];kernel_rfl,kY⟩
theorem qS:typeLookup (.type "tuple") "__reversed__"=pure none:=by (rw[typeLookup_type,builtinLookup_eq_fast]);kernel_rfl
theorem ou:isSubtype (.type "tuple") (.type "dict")=pure false:=by rw[isSubtype_type];kernel_rfl
noncomputable def pF (a:Addr) (i:Int):Obj:={ cls:= .type "reversed",data:= .fields #[.ref a,rawInt i] }
noncomputable def gS (h:Heap) (it a:Addr) (i:Int):Prop:=∃o,h.get? it=some o/\o.cls=.type "reversed"/\o.data=.fields #[.ref a,rawInt i]
theorem gS.at {h h':Heap} {it a:Addr} {i:Int} (x:gS h it a i) (e:∀o,h.get? it=some o->h'.get? it=some o):gS h' it a i:=let ⟨o,ho,r⟩:=x;⟨o,e _ ho,r⟩
theorem jK {i n:Nat} (h:i<n):seqIndex? (i:Int) n=some i:=by
 unfold seqIndex?;have h0:¬((i:Int)<0):=by lia
 have h1:(0:Int)<=(i:Int):=by lia
 have h2:(i:Int)<(n:Int):=by lia
 simp only[h0,if_false,h1,h2,decide_true,Bool.and_true,if_true,Int.toNat_natCast]
section
variable {prog:Program} {w:World} {A:Around} {E:ydz} {s:Shared}
theorem gS.typeIs {it a:Addr} {i:Int} (x:gS s.heap it a i):s.TypeIs (.ref it) "reversed":=let ⟨o,ho,hc,_⟩:=x;⟨o,ho,hc⟩
theorem fy {l:Addr} (hl:IsTup s.heap l items) (hfit:(items.size:Int)<2^63)
 (h:∀tk,Q (.ref s.heap.objs.size) { s with heap:=s.heap.push (pF l ((items.size:Int)-1)),toks:=tk }):wpAny (model prog w) A (call (.type "reversed") [.ref l]) Q E s:=by
 refine callType_new qR (by decide) (F.typeCall_reversed_1 _) (F.newCall_reversed_1 _) (λobj=>F.args_object_init_2 obj _) F.entry_reversed_new
  (S:=λA R s1=>s1=s/\∀tk,R (.ok (.ret (.ref s.heap.objs.size))) { s with heap:=s.heap.push (pF l ((items.size:Int)-1)),toks:=tk }) ?_ ⟨rfl,λtk=>⟨⟨_,yav _ rfl,rfl⟩,h tk⟩⟩
 refine .of_wp λprog w A R s1 hs=>?_;obtain⟨rfl,hs⟩:=hs;unfold Builtin.«reversed.__new__»;refine wax (wpAny_of_eq (newClass_reversed _) ?_)
 try dsimp only
 refine wax (wpAny_of_eq (a:=()) (by first | rfl | kernel_rfl) ?_);refine wax (wpAny_of_eq (a:=()) (by first | rfl | kernel_rfl) ?_)
 try dsimp only
 refine wax (wpAny_specialOf hl.typeIs qS ?_)
 try dsimp only
 k_delta "hasItemSlot"
 refine wax (wax (wpAny_isInstance hl.typeIs ou ?_));simp only[Bool.false_eq_true,if_false];refine wax (wpAny_specialOf hl.typeIs slot_tuple_getitem.lookup ?_)
 try dsimp only
 rw[ycx (by decide)];refine way ?_;simp only[Bool.not_true,Bool.false_eq_true,if_false];refine wax (len_tuple hl hfit ?_);refine wax (wpAny_of_eq (a:=some (items.size:Int)) rfl ?_)
 try dsimp only
 unfold Builtin.SmallTypes.newRecord;refine wax (wpAny_newObj_type (way ⟨_,rfl,?_⟩));exact hs _
theorem j8 {it l:Addr} {i:Int} (hit:gS s.heap it l i) (h:Q (.ref it) s):wpAny (model prog w) A (pyIter (.ref it)) Q E s:=by
 refine wpAny_pyIter_slot hit.typeIs gh (wpAny_call_entry gh hit.typeIs jJ ?_ (kX _));show wpAny _ _ (ret (.ref it)) _ _ s;exact way ⟨_,rfl,"reversed",_,hit.typeIs,slot_rv_next.lookup,h⟩
theorem vY {it l:Addr} {x:Value} {Q:Option Value->Shared->Prop} (hit:gS s.heap it l (i:Int)) (hl:IsTup s.heap l items) (hi:(i:Int)<2^63) (hx:items[i]?=some x)
 (hQ:∀h' tk,gS h' it l ((i:Int)-1)->Heap.SameBut it s.heap h'->Q (some x) { s with heap:=h',toks:=tk }):wpAny (model prog w) A (pyNext (.ref it)) Q E s:=by
 obtain⟨o,ho,hc,hd⟩:=id hit;unfold pyNext;refine wax (wpAny_attempt (wpAny_callSpecial?_slot (name:=Str.ofString "__next__") hit.typeIs slot_rv_next
  (wpAny_call_entry slot_rv_next hit.typeIs fE ?_ (gf _))))
 unfold Builtin.«reversed.__next__»;refine wax (wpAny_of_eq (a:=(Value.ref it,[])) rfl ?_)
 try dsimp only
 refine wax (wpAny_field ho hd (x:= .ref l) rfl ?_);refine wax (wpAny_field ho hd (x:=rawInt (i:Int)) rfl ?_);show wpAny _ _ (if (i:Int)<0 then _ else _) _ _ s;rw[ybv (by lia)];refine wax (wpAny_specialOf hl.typeIs slot_tuple_getitem.lookup ?_);simp only[Option.isNone_some,Bool.false_eq_true,if_false];refine wax (wpAny_mkInt ?_);have hz:i<items.size:=by
  rcases lt_or_ge i items.size with h | h
  ·exact h
  ·rw[Array.getElem?_eq_none h] at hx;cases hx
 have hl':IsTup ({ s with toks:=s.toks+1 }:Shared).heap l items:=hl;refine wax (wpAny_attempt (getItem_tuple (s:={ s with toks:=s.toks+1 }) hl' (by lia) hi (jK hz) hx ?_))
 try dsimp only
 refine wax (wpAny_field (s:={ s with toks:=s.toks+1 }) ho hd (x:=rawInt (i:Int)) rfl ?_);refine wax (wpAny_setField (s:={ s with toks:=s.toks+1 }) ho hd (by simp) ?_);refine way ⟨x,rfl,way (hQ _ _ ?_ (Heap.SameBut.update ..))⟩;exact⟨_,Heap.get?_update_self _ ho (Obj.isFreed_of_fields (Obj.data_mapFields hd _)),(Obj.cls_mapFields ..).trans hc,by
  rw[Obj.data_mapFields hd];simp⟩
theorem mz {it l:Addr} {Q:Option Value->Shared->Prop} (hh:A.handled=none) (hit:gS s.heap it l (-1))
 (hQ:∀h',Heap.ExtBut it s.heap h'->Q none { s with heap:=h' }):wpAny (model prog w) A (pyNext (.ref it)) Q E s:=by
 obtain⟨o,ho,hc,hd⟩:=id hit;unfold pyNext;refine wax (wpAny_attempt (wpAny_callSpecial?_slot (name:=Str.ofString "__next__") hit.typeIs slot_rv_next
  (wpAny_call_entry slot_rv_next hit.typeIs fE ?_ (gf _))))
 unfold Builtin.«reversed.__next__»;refine wax (wpAny_of_eq (a:=(Value.ref it,[])) rfl ?_)
 try dsimp only
 refine wax (wpAny_field ho hd (x:= .ref l) rfl ?_);refine wax (wpAny_field ho hd (x:=rawInt (-1)) rfl ?_);show wpAny _ _ (if (-1:Int)<0 then _ else _) _ _ s;rw[ycx (by decide)];refine wax (wpAny_rule ?_)
 k_delta "reversedEnd"
 refine wax (wax (wpAny_setField ho hd (by simp) ?_));have ho1:=Heap.get?_update_self (h:=s.heap) (λo:Obj=>o.mapFields λvs=>vs.set! 1 (rawInt (-1))) ho (Obj.isFreed_of_fields (Obj.data_mapFields hd _));refine wpAny_setField ho1 (Obj.data_mapFields hd _) (by simp) ?_;unfold Builtin.SmallTypes.stopIteration;refine wax ?_
 first
 | show wpAny _ _ (newExc (.type "StopIteration") [] >>= _) _ _ _
 | (refine wax ?_;show wpAny _ _ (newExc (.type "StopIteration") [] >>= _) _ _ _)
 refine wax ?_;simp only[newExc,newTuple];refine wax (wpAny_newObj_type ?_ (by size_fits));refine wax (m:=firstArgMember _ _) (wpAny_of_eq (a:=Value.none) (by first | rfl | (simp only[firstArgMember];rfl)) ?_);refine wpAny_newObj_type ?_ (by size_fits);simp only[raiseNew];refine wax (wpAny_handled ?_)
 first | rw[show A.in1.handled=none from hh] | rw[hh]
 refine wax (way (wpAny_throw ?_));refine wax (wpAny_isInstance (T:="StopIteration") (b:=true) ⟨_,yav _ rfl,rfl⟩ isSubtype_stop ?_);refine way (hQ _ ((Heap.ExtBut.push (Heap.ExtBut.push ?_ _) _)));exact λb o hb e=>((Heap.SameBut.update _ _ _).2 b hb).trans (((Heap.SameBut.update _ _ _).2 b hb).trans e)
end
noncomputable def Fh (K:yax) (a:Addr) (n:Nat):It:=
 ⟨λi H=>∃xs x,cU K H a xs/\xs.length=n/\i<n/\xs[n-1-i]?=some x,λi H x H'=>H'=H/\∀xs,cU K H a xs->xs[n-1-i]?=some x,λi H=>∃xs,cU K H a xs/\xs.length=n/\n<=i⟩
theorem vZ {tg:Expr} (a it:Addr) (n:Nat) (hn:(n:Int)<2^63):kI P w K tg (Fh K a n) [it] it (λi h=>i<=n/\gS h it a ((n:Int)-1- (i:Int))) where
 mem:=by simp
 obj:=λi h st b hb=>by
  have e:b=it:=by simpa using hb
  subst e;obtain⟨_,o,e,c,d⟩:=st;exact⟨o,e,λv z=>by rw[d] at z;cases z⟩
 keep:=λi h h' st k=>⟨st.1,st.2.at λo e=>k it (by simp) o e⟩
 item:=by
  intro X hP hw hK hc i π s σ H E I hf st hg;subst hP hw hK;obtain⟨xs,x,hq,hl,hi,hx⟩:=hg;obtain⟨its,rv,p,hz⟩:=I.tuple hq;obtain⟨u,hu,ru⟩:=rv.get hx;obtain⟨f0,f1,f2,f3,f4,f5⟩:=hf it (by simp);have st1:gS s.heap it a ((n-1-i:Nat):Int):=by have:=st.2;rw[show(n:Int)-1- (i:Int)=((n-1-i:Nat):Int) by lia] at this;exact this
  refine vY st1 p (by lia) (x:=u) (by simpa using hu) λh' tk st' sb=>?_;have I1:aI X π σ H { s with heap:=h',toks:=tk }:=I.turned (t':=tk) (λb o hb e=>(sb.2 b hb).trans e) f0 f1 f3 f4 f5;obtain⟨o,e,c,d⟩:=id st';exact⟨u,rfl,jR (s:={ s with heap:=h',toks:=tk }) e c d (by decide) ⟨x,H,I1,ru,⟨rfl,λys hy=>by rw[I.tuple_inj hy hq];exact hx⟩,⟨by assumption,by rw[show(n:Int)-1- ((i+1:Nat):Int)=((n-1-i:Nat):Int)-1 by lia];exact st'⟩,λb hb=>(hf b hb).1⟩⟩
 done:=by
  intro X hP hw hK hc i π s σ H E I hf st hg;subst hP hw hK;obtain⟨xs,hq,hl,hi⟩:=hg;obtain⟨f0,f1,f2,f3,f4,f5⟩:=hf it (by simp);have st1:gS s.heap it a (-1):=by have:=st.2;rw[show(n:Int)-1- (i:Int)= -1 by have:=st.1;lia] at this;exact this
  exact mz (I.ok.hd hc) st1 λh' eb=>⟨rfl,I.turned (t':=s.toks) (λb o hb e=>eb b o hb e) f0 f1 f3 f4 f5⟩
 self:=λ_ _ _ _ _ st h=>j8 st.2 h
theorem zz {ws:List W} {xs:List V} {H:Hp} (h:H a=some (.tup xs)) (r:aV K H ws xs):pB K (Fh K a xs.length) ws.reverse (λ_=>True) H where
 stop:=λi H1 G t g _ hl=>⟨xs,cU.of (t.tup _ _ h),rfl,by rw[←r.length];simpa using hl⟩
 go:=λi w H1 G t g _ e=>by
  have hl:=r.length;have hi:i<ws.length:=by
   rcases lt_or_ge i ws.length with z | z
   ·exact z
   ·rw[List.getElem?_eq_none (by simpa using z)] at e;cases e
  rw[List.getElem?_reverse hi] at e;obtain⟨v,e1,rv⟩:=r.get e;rw[hl] at e1;refine⟨⟨xs,v,cU.of (t.tup _ _ h),rfl,by lia,e1⟩,λx H' z9=>?_⟩;obtain⟨eH,hy⟩:=z9;subst eH;have e2:=hy xs (cU.of (t.tup _ _ h));rw[e1] at e2;cases e2;exact⟨aT.refl _,rv.mono t,g⟩
noncomputable def BN (ta:WA):WI:=λτ G r=>ta τ G λws G1=>match ws with
 | [.tup xs]=>r xs.reverse (λ_=>True) G1
 | _=>False
theorem pG:bootBuiltins "reversed"=some (.type "reversed"):=by decide+kernel
theorem zA {X:Cx} {tg a:Expr} {ta:WA} {p pos:Pos} (hg:Gl X "reversed") (hm:X.mg "reversed"=none) (ha:QA X [a] ta) (hs:starEach [a] X.env=[(false,eval a X.env)]:=by rfl):
 QI X tg (.Call (.Name "reversed" p) [a] [] pos) (BN ta):=by
 rintro π s σ H R I ⟨τ,G,r,hτ,hG,ht,hR⟩;refine Call_ (eU I hg hm pG (PyProof.Rows.callWith_type1 (cf (ha pos π s σ H (λvs H1=>∃ws G1,aT H H1/\aV X.K H1 ws vs/\aO X.K H1 G1/\match ws with | [.tup xs]=>r xs.reverse (λ_=>True) G1 | _=>False) I ⟨τ,G,_,hτ,hG,ht,λvs H1 ws G1 t1 r1 g1 q1=>⟨ws,G1,t1,r1,g1,q1⟩⟩) λus s1 ⟨vs,H1,I1,ru,ws,G1,t1,r1,g1,q1⟩=>?_) (by rw[hs];rfl) (by rfl)));split at q1
 ·rename_i xs;cases r1 with
  | cons ra rn=>
    cases rn;cases ra with
    | @tup pa _ xs' ha' ra=>
      cases ru with
      | cons w1 wn=>
        cases wn;cases (show _=Value.ref pa from w1);obtain⟨its,rv,p1,hz⟩:=I1.tuple (cU.of ha');have hl:=rv.length;have hsz:xs'.length<=9223372036854775807:=by
         have:sizeLine<=9223372036854775807:=by decide
         lia
        refine fy p1 (by simp;lia) λtk=>?_;have st0:gS (s1.heap.push (pF pa ((its.toArray.size:Int)-1))) s1.heap.objs.size pa ((xs'.length:Int)-1- ((0:Nat):Int)):=⟨_,yav _ rfl,rfl,by
         rw[show((xs'.length:Int)-1- ((0:Nat):Int))=(its.toArray.size:Int)-1 by simp;lia];rfl⟩
        refine j8 (s:={ s1 with heap:=s1.heap.push (pF pa ((its.toArray.size:Int)-1)),toks:=tk }) st0 ?_;refine⟨s1.heap.objs.size,[s1.heap.objs.size],_,_,H1,rfl,I1.kept (t':=tk) λb o e=>yaw _ e,vZ pa _ xs'.length (by lia),⟨zero_le _,st0⟩,λb hb=>?_,hR _ H1 _ _ G1 t1 g1 (zz ha' ra) q1⟩;have e:b=s1.heap.objs.size:=by simpa using hb
        subst e;exact I1.fpOk (yby _) (I1.hok.fresh (yby _))
 ·exact q1.elim
section
variable {prog:Program} {w:World} {A:Around} {E:ydz} {s:Shared}
end
mutual
noncomputable def W.ge:W->W->Bool
 | .int i,.int j=>decide (i≥j)
 | .tup xs,.tup ys=>W.ges xs ys
 | _,_=>false
noncomputable def W.ges:List W->List W->Bool
 | [],[]=>true
 | [],_::_=>false
 | _::_,[]=>true
 | x::xs,y::ys=>if W.eq x y=true then W.ges xs ys else W.ge x y
end
noncomputable def DX (A:Around) (s:Shared) (y x:Value) (b:Bool):Prop:=
 ∀(prog:Program) (w:World) (E:ydz) (Q:ydz),Q (.bool b) s->wpAny (model prog w) A (richCompare .GtE y x) Q E s
inductive qT (A:Around) (s:Shared):List Value->List Value->Bool->Prop where
 | nn:qT A s [] [] true
 | nc {y:Value} {ys:ydw}:qT A s [] (y::ys) false
 | cn {x:Value} {xs:ydw}:qT A s (x::xs) [] true
 | eq {x y:Value} {xs ys:ydw} {r:Bool} (h:SeqAt.EqAt A s x y true) (t:qT A s xs ys r):qT A s (x::xs) (y::ys) r
 | ne {x y:Value} {xs ys:ydw} {r:Bool} (h:SeqAt.EqAt A s x y false) (t:DX A s x y r):qT A s (x::xs) (y::ys) r
section
open PySem.SeqAt
open PySem.AutoSeq1 (wpAny_loadPart')
open PySem.MeetsSeq PySem.MeetsSeq2 PySem.MeetsSeq3
end
section
variable {X:Cx} {π:List (Addr×Obj)} {σ:St} {H:Hp} {s:Shared}
end
section
variable {X:Cx}
noncomputable def DY:W2:=λx y G q=>match x,y with
 | .int i,.int j=>q (.bl (decide (i≥j))) G
 | .tup xs,.tup ys=>W.flats xs=true/\W.flats ys=true/\W.deps xs<=149/\W.ords xs ys=true/\q (.bl (W.ges xs ys)) G
 | _,_=>False
end
section
variable {X:Cx}
end
section
variable {prog:Program} {w:World} {A:Around} {E:ydz} {h:Heap} {g:Array GenState} {d:Drawn} {t:Nat} {os:OsState} {a C:Addr} {o:Obj} {K:yax} {bm:ydw}
end
section
variable {prog:Program} {w:World} {A:Around} {E:ydz} {s:Shared} {a C D:Addr} {o:Obj} {K:yax} {bm:ydw}
end
section
variable {X:Cx} {a:Addr} {oe:Obj} {C D:Addr} {bm:ydw}
end
theorem vU.calm {f:Addr} {sp sp':bV} (F:vU P w K mg base k f fd ps sp) (h:∀ws G q e,sp' ws G q e->sp ws G q λ_ _=>False):cc P w K mg base k f fd ps sp':=by
 refine⟨λvs H Q E ⟨ws,G,q,e,r,g,z,hQ,_⟩=>F.len vs H Q (λ_ _ _=>False) ⟨ws,G,q,λ_ _=>False,r,g,h _ _ _ _ z,hQ,λ_ _ _ _ _ _ z=>z.elim⟩,λA outer s H args us vs Q E hr he hb hv z9=>?_⟩;obtain⟨ws,G,q,e,r,g,z,hQ,_⟩:=z9;refine codeAny_mono (F.run A outer s H args us vs Q (λ_ _ _=>False) hr he hb hv ⟨ws,G,q,λ_ _=>False,r,g,h _ _ _ _ z,hQ,λ_ _ _ _ _ _ z=>z.elim⟩) λr s' hq=>?_;cases r with
 | ok fl=>
   cases fl with
   | ret u=>exact hq
   | next=>exact hq
   | brk=>exact hq
   | cont=>exact hq
 | error e=>
   obtain⟨a,T,C,H',_,_,_,_,z⟩:=hq;exact z.elim
section
variable {prog:Program} {w:World} {A:Around} {E:ydz} {s:Shared} {I l:Addr} {items:Array Value}
end
section
variable {X:Cx}
end
section
variable {X:Cx}
end
section
variable {X:Cx} {π:List (Addr×Obj)} {σ:St} {H0 H:Hp} {s0 s:Shared} {a T C D:Addr}
variable {bm bmD:ydw} {x:Str} {p pos:Pos} {name:Option Str} {body:List Stmt} {bX:List ExceptHandler} {b0:Stmt} {th:WS}
end
structure BO (k:Nat) (A:Around):Prop where
 dp:A.depth+3*k+5<recursionLimit
 un:A.units+16*k+200<cLine
structure GC (P:Program) (w:World) (K:yax) (mg:ydv) (base:Heap) (CX:nS) (k:Nat) (f:Addr) (fd:FuncData) (ps:List Str) (sp:Sp):Prop where
 len:∀vs H Q E,sp vs H Q E->vs.length=ps.length
 run:∀(A:Around) (outer:List Env) (s:Shared) (H:Hp) (args:Args) (us:ydw) (vs:List V) (Q:VK) (E:XK),BO k A->lV P w K mg base A outer s H->BindsTo s fd args (ps.zip us)->aW vs us->sp vs H Q E->
  codeAny (model P w) A (.call (.ref f) args) (CR CX outer P w H s Q E) s
section
variable {X:Cx}
end
section
variable {P:Program} {w:World} {K:yax} {mg:ydv} {base:Heap} {k:Nat} {f:Addr} {fd:FuncData} {ps:List Str} {sp sp':bV}
theorem cc.toR (F:cc P w K mg base k f fd ps sp):vU P w K mg base k f fd ps sp:=by
 refine⟨F.len,λA outer s H args us vs Q E hr he hb hv hs=>?_⟩;refine codeAny_mono (F.run A outer s H args us vs Q E hr he hb hv hs) λr s' hq=>?_;cases r with
 | ok fl=>
   cases fl with
   | ret u=>exact hq
   | next=>exact hq
   | brk=>exact hq
   | cont=>exact hq
 | error e=>exact False.elim hq
end
theorem aT.ins {H:Hp} {p C dx:Addr} {fs:List (Str×V)} (hp:H p=some (.ins C dx fs)) (o:HO):aT H (upd H p o):=
 ⟨λ_ _ h=>by rw[aJ (fA h hp (by intro z;cases z))];exact h,λ_ _ _ h=>by rw[aJ (fA h hp (by intro z;cases z))];exact h⟩
noncomputable def mB (f:Str) (v:W):List (Str×W)->List (Str×W)
 | []=>[(f,v)]
 | (g,x)::r=>if g=f then (g,v)::r else (g,x)::mB f v r
section
variable {K:yax} {H:Hp}
theorem ir {f:Str} {w:W}:∀{fs:List (Str×W)} {fs':List (Str×V)},fs'.map (·.1)=fs.map (·.1)->aV K H (fs.map (·.2)) (fs'.map (·.2))->fs.lookup f=some w->∃v,fs'.lookup f=some v/\bN K H w v
 | [],_,_,_,e=>by cases e
 | (g,x)::r,[],n,_,_=>by cases n
 | (g,x)::r,(g',x')::r',n,rs,e=>by
   rw[map_cons,map_cons,List.cons.injEq] at n;obtain⟨n1,n2⟩:=n;have n1:g'=g:=n1;subst n1;cases rs with
   | cons r1 r2=>
     rw[lookup_cons] at e ⊢;cases h:f==g' with
     | true=>rw[h] at e;cases e;exact⟨x',rfl,r1⟩
     | false=>rw[h] at e;exact ir n2 r2 e
theorem fi {f:Str}:∀{fs:List (Str×W)} {fs':List (Str×V)},fs'.map (·.1)=fs.map (·.1)->fs.lookup f=none->fs'.lookup f=none
 | [],[],_,_=>rfl
 | [],_::_,n,_=>by cases n
 | _::_,[],n,_=>by cases n
 | (g,x)::r,(g',x')::r',n,e=>by
   rw[map_cons,map_cons,List.cons.injEq] at n;obtain⟨n1,n2⟩:=n;have n1:g'=g:=n1;subst n1;rw[lookup_cons] at e ⊢;cases h:f==g' with
   | true=>rw[h] at e;cases e
   | false=>rw[h] at e;exact fi n2 e
theorem mC {f:Str} {w:W} {v:V} (rv:bN K H w v):∀{fs:List (Str×W)} {fs':List (Str×V)},fs'.map (·.1)=fs.map (·.1)->aV K H (fs.map (·.2)) (fs'.map (·.2))->(dZ f v fs').map (·.1)=(mB f w fs).map (·.1)/\aV K H ((mB f w fs).map (·.2)) ((dZ f v fs').map (·.2))/\(mB f w fs).length<=fs.length+1
 | [],[],_,_=>⟨rfl,.cons rv .nil,yby _⟩
 | [],_::_,n,_=>by cases n
 | _::_,[],n,_=>by cases n
 | (g,x)::r,(g',x')::r',n,rs=>by
   rw[map_cons,map_cons,List.cons.injEq] at n;obtain⟨n1,n2⟩:=n;have n1:g'=g:=n1;subst n1;cases rs with
   | cons r1 r2=>
     obtain⟨a1,a2,a3⟩:=mC (f:=f) rv n2 r2;unfold dZ mB
     by_cases h:g'=f
     ·rw[ycx h,ycx h];refine⟨?_,.cons rv r2,by simp⟩;rw[map_cons,map_cons,n2]
     ·rw[ybv h,ybv h];refine⟨?_,.cons r1 a2,by simp;assumption⟩;rw[map_cons,map_cons,a1]
end
section
variable {X:Cx}
noncomputable def BP (K:yax) (to:WE) (f:Str):WE:=λτ G q=>to τ G λx G1=>∃a C fs v,x=.ref a/\G1 a=some (.ins C fs)/\(dj K C/\aD K C f)/\fs.lookup f=some v/\q v G1
theorem bh {o:Expr} {to:WE} {f:Str} (ho:QE X o to) (hb:attributeBase o f X.env (eval o X.env)=eval o X.env:=by rfl):QE X (.Attribute o f pos) (BP X.K to f):=
 (yN ho hb).imp λσ H Q z0=>z0.el λτ G q hs hg ht hQ=>⟨τ,G,_,hs,hg,ht,λv H1 w G1 t1 r1 g1 q1=>by
   obtain⟨a,C,fs,v',rfl,hG,hc,hl,q1⟩:=q1;cases r1;obtain⟨_,dx,fs',hH,hn,hr⟩:=g1 a _ hG;obtain⟨v2,hv2,rv2⟩:=ir hn hr hl;exact⟨a,C,dx,fs',v2,rfl,hH,hc.1,hc.2,hv2,hQ v2 H1 v' G1 t1 rv2 g1 q1⟩⟩
noncomputable def x5 (K:yax) (to te:WE) (f:Str):WS:=λd τ G=>te τ G λy G1=>to τ G1 λx G2=>∃a C fs,x=.ref a/\G2 a=some (.ins C fs)/\(dj K C/\aD K C f)/\fs.length<100/\d.nx τ (aK G2 a (.ins C (mB f y fs)))
theorem cq {o e:Expr} {to te:WE} {f:Str} {pos pos':Pos} (ho:QE X o to) (he:QE X e te) (hs:swapsWith e (some (.Attribute o f pos')) pos.line X.env=pure false:=by rfl):QS X (.Assign [.Attribute o f pos'] e pos) (x5 X.K to te f):=
 (yO ho he hs).imp λD σ H z0=>z0.el λτ G d rs rg ht l=>⟨τ,G,_,rs,rg,ht,λy H1 w G1 t1 r1 g1 q1=>⟨τ,G1,_,rs.mono t1,g1,q1,λv H2 w2 G2 t2 r2 g2 q2=>by
   obtain⟨a,C,fs,rfl,hG,hc,hlen,q2⟩:=q2;cases r2;obtain⟨_,dx,fs',hH,hn,hr⟩:=g2 a _ hG;obtain⟨a1,a2,a3⟩:=mC (f:=f) (r1.mono t2) hn hr;have tl:=aT.ins hH (.ins C dx (dZ f y fs'));have hlen':fs'.length=fs.length:=by simpa using congrArg List.length hn
   refine⟨a,C,dx,fs',rfl,hH,hc.1,hc.2,by lia,l.nx σ _ τ _ ((t1.trans t2).trans tl) (((rs.mono t1).mono t2).mono tl) (g2.lay (g:= .ins C (mB f w fs)) tl ⟨by lia,dx,_,bd,a1,a2.mono tl⟩) q2⟩⟩⟩
noncomputable def pH (C:Addr) (sp:bV) (dws:List W) (t:WA):WE:=λτ G q=>t τ G λws G1=>∀p,G1 p=none->sp (.ref p::(ws++dws)) (aK G1 p (.ins C [])) (λv G2=>v=.non/\q (.ref p) G2) λ_ _=>False
theorem jI.make {C:Addr} {sp:bV} {dws:List W} {dvs:List V} {t:WA} {σ:St} {H:Hp} {Q:VK} {E:XK} (hd:∀H,aV K H dws dvs) (h:jI K (pH C sp dws t) σ H Q):xK C (vF K sp) dvs E (LA K t) σ H Q:=by
 obtain⟨τ,G,q,hs,hg,ht,hQ⟩:=h;refine⟨τ,G,_,hs,hg,ht,λvs H1 ws G1 t1 r1 g1 q1 x dx hx hdx hne=>?_⟩;have hdx':upd H1 dx (.own x) x=none:=by rw[aJ (Ne.symm hne)];exact hx
 have tl:=(aT.new hdx (.own x)).trans (aT.new hdx' (.ins C dx []));have g2:aO K (upd (upd H1 dx (.own x)) x (.ins C dx [])) (aK G1 x (.ins C [])):=(g1.keep hdx (.own x)).lay (aT.new hdx' _) ⟨by simp,dx,[],bd,rfl,.nil⟩;exact⟨.ref x::(ws++dws),_,_,_,.cons (.ref x) ((r1.mono tl).append (hd _)),g2,q1 x (g1.fresh hx),λv H2 w G2 t2 r2 g2 q2=>by
  obtain⟨e,q2⟩:=q2;subst e;cases r2;exact⟨rfl,hQ _ H2 _ G2 ((t1.trans tl).trans t2) (.ref x) g2 q2⟩,λ_ _ _ _ _ _ z=>z.elim⟩
theorem v0 {C f:Addr} {sp:bV} {p pos:Pos} {t:WA} (M:Mk X.K C f) (F:cc X.prog X.w X.K X.mg X.base k f fd ps sp) (hr:av (k+1) X.A) (hg:Gl X x) (hm:X.mg x=some (.ref C)) (hb:bP X.K fd ps [])
 (ha:QA X (e::es) t) (hdb:(x==("__debug__":Str))=false:=by decide) (he:starEach (e::es) X.env=(false,eval e X.env)::starEach es X.env:=by rfl) (hpl:(backTo pos (starEach es X.env)).any (·.1)=false:=by rfl):
 QE X (.Call (.Name x p) (e::es) [] pos) (pH C sp [] t):=
 (vy (dvs:=[]) M F hr hg hm hb .nil (jX (X:=X)) ha hdb he hpl).imp λ_ _ _ h=>jI.make (λ_=> .nil) h
noncomputable def j9 (C:Addr) (m:Str) (sp:bV) (dws:List W) (to:WE) (t:WA):WE:=λτ G q=>to τ G λx G1=>∃a fs,x=.ref a/\G1 a=some (.ins C fs)/\fs.lookup m=none/\t τ G1 λws G2=>sp (x::(ws++dws)) G2 q λ_ _=>False
theorem jI.meth {C:Addr} {m:Str} {sp:bV} {dws:List W} {dvs:List V} {to:WE} {t:WA} {σ:St} {H:Hp} {Q:VK} {E:XK} (hd:∀H,aV K H dws dvs) (h:jI K (j9 C m sp dws to t) σ H Q):rZ C m (vF K sp) dvs E (jI K to) (LA K t) σ H Q:=by
 obtain⟨τ,G,q,hs,hg,ht,hQ⟩:=h;refine⟨τ,G,_,hs,hg,ht,λx H1 w G1 t1 r1 g1 q1=>?_⟩;obtain⟨a,fs,rfl,hG,hl,q1⟩:=q1;cases r1;obtain⟨_,dx,fs',hH,hn,_⟩:=g1 a _ hG;refine⟨a,dx,fs',rfl,hH,fi hn hl,τ,G1,_,hs.mono t1,g1,q1,λvs H2 ws G2 t2 r2 g2 q2=>?_⟩;exact⟨.ref a::(ws++dws),G2,q,_,.cons (.ref a) (r2.append (hd _)),g2,q2,λv H3 w3 G3 t3=>hQ v H3 w3 G3 ((t1.trans t2).trans t3),λ_ _ _ _ _ _ z=>z.elim⟩
structure Mt (P:Program) (w:World) (K:yax) (mg:ydv) (base:Heap) (C:Addr) (m:Str) (ps:List Str) (k:Nat) (sp:bV) (dws:List W):Prop where
 ex:∃(f:Addr) (fd:FuncData) (ds:ydw) (dvs:List V),qC K C m f/\cc P w K mg base k f fd ps sp/\bP K fd ps ds/\aW dvs ds/\∀H,aV K H dws dvs
 cl:dj K C
theorem kZ {C:Addr} {m:Str} {sp:bV} {dws:List W} {o e:Expr} {to:WE} {t:WA} {apos pos:Pos} {pl:Sem Bool} (ho:QE X o to) (M:Mt X.prog X.w X.K X.mg X.base C m ps k sp dws) (hr:av k X.A) (ha:QA X (e::es) t)
 (hst:starEach (e::es) X.env=(false,eval e X.env)::starEach es X.env:=by rfl) (hpl:(backTo pos (starEach es X.env)).any (·.1)=false:=by rfl)
 (ht:eval (.Call (.Attribute o m apos) (e::es) [] pos) X.env=(do
   let ov ←eval o X.env
   standAt apos.atName
   let (f,first) ←holding [ov] (getMethod ov m pl)
   callWith pos f first (backTo pos (starEach (e::es) X.env)) (backToKw pos (keywordEach [] X.env))):=by rfl):QE X (.Call (.Attribute o m apos) (e::es) [] pos) (j9 C m sp dws to t):=by
 obtain⟨⟨f,fd,ds,dvs,hm,F,hb,hd,hrep⟩,c⟩:=M;exact(o7 (pl:=pl) ho c hm F hr hb hd (jX (X:=X)) ha hst hpl ht).imp λ_ _ _ h=>jI.meth hrep h
theorem mD {C:Addr} {m:Str} {sp:bV} {dws:List W} {o:Expr} {to:WE} {apos pos:Pos} {pl:Sem Bool} (ho:QE X o to) (M:Mt X.prog X.w X.K X.mg X.base C m ps k sp dws) (hr:av k X.A)
 (ht:eval (.Call (.Attribute o m apos) [] [] pos) X.env=(do
   let ov ←eval o X.env
   standAt apos.atName
   let (f,first) ←holding [ov] (getMethod ov m pl)
   callWith pos f first (backTo pos (starEach [] X.env)) (backToKw pos (keywordEach [] X.env))):=by rfl):QE X (.Call (.Attribute o m apos) [] [] pos) (j9 C m sp dws to kO):=by
 obtain⟨⟨f,fd,ds,dvs,hm,F,hb,hd,hrep⟩,c⟩:=M;refine(r9 (pl:=pl) ho c hm F hr hb hd (jX (X:=X)) ht).imp λσ H Q z0=>z0.el λτ G q hs hg ht hQ=>?_;refine⟨τ,G,_,hs,hg,ht,λx H1 w G1 t1 r1 g1 q1=>?_⟩;obtain⟨a,fs,rfl,hG,hl,q1⟩:=q1;cases r1;obtain⟨_,dx,fs',hH,hn,_⟩:=g1 a _ hG;exact⟨a,dx,fs',rfl,hH,fi hn hl,.ref a::([]++dws),G1,q,_,.cons (.ref a) (hrep _),g1,q1,λv H3 w3 G3 t3=>hQ v H3 w3 G3 (t1.trans t3),λ_ _ _ _ _ _ z=>z.elim⟩
noncomputable def zB (to:WE):WE:=λτ G q=>to τ G λx G1=>match x with
 | .ref a=>∃ys y,G1 a=some (.lst (ys++[y]))/\q y (aK G1 a (.lst ys))
 | _=>False
theorem aV.snoc {K:yax} {H:Hp}:∀{ys:List W} {y:W} {xs:List V},aV K H (ys++[y]) xs->∃v,xs[xs.length-1]?=some v/\bN K H y v/\aV K H ys xs.dropLast
 | [],y,xs,r=>by
   obtain⟨v,rfl,rv⟩:=r.one;exact⟨v,rfl,rv,.nil⟩
 | w::ys,y,_,.cons (v:=v) (vs:=vs) r rs=>by
   obtain⟨u,h1,h2,h3⟩:=aV.snoc rs;have hl:=rs.length;cases vs with
   | nil=>simp at hl
   | cons v2 vs2=>
     refine⟨u,?_,h2,?_⟩
     ·simpa using h1
     ·rw[List.dropLast_cons₂];exact .cons r h3
theorem zC {o:Expr} {to:WE} {apos cpos:Pos} (ho:QE X o to)
 (hbase:attributeBase o "pop" X.env (eval o X.env)=eval o X.env:=by rfl) (hline:(apos.endLine==cpos.line)=true:=by rfl):QE X (.Call (.Attribute o "pop" apos) [] [] cpos) (zB to):=
 (yV PySem.F.plainAttrs_list PySem.F.slot_list_pop PySem.F.type_list_pop yW ho hbase hline).imp λσ H Q z0=>z0.el λτ G q hs hg ht hQ=>
   ⟨τ,G,_,hs,hg,ht,λv H1 w G1 t1 r1 g1 q1=>by
     split at q1
     ·rename_i a;cases r1;obtain⟨ys,y,e1,q1⟩:=q1;obtain⟨hl,xs',h1,rr⟩:=g1 a _ e1;obtain⟨u,hu,ru,rd⟩:=rr.snoc;refine⟨.inl ⟨rfl,xs',cZ.of h1⟩,a,xs',u,rfl,rfl,h1,hu,?_⟩;have tl:=aT.lst h1 (.lst xs'.dropLast);exact hQ _ _ _ _ (t1.trans tl) (ru.mono tl) (g1.put tl rd (by simp at hl;lia)) q1
     ·exact q1.elim⟩
noncomputable def DZ:Stmt->List Stmt
 | .ClassDef _ _ _ b _ _ _ _ _ _ _=>b
 | _=>[]
noncomputable def Md (K:yax) (C:Addr) (m qual:Str) (st:Stmt) (ps:List Str):Prop:=∃(f:Addr) (fd:FuncData),qC K C m f/\cz K m qual st f fd/\bP K fd ps []
noncomputable def u5 (K:yax) (C:Addr) (qual:Str) (st:Stmt) (ps:List Str):Prop:=∃(f:Addr) (fd:FuncData),Mk K C f/\cz K "__init__" qual st f fd/\bP K fd ps []
section
variable {P:Program} {w:World} {K:yax} {mg:ydv} {base:Heap} {C:Addr} {m qual:Str} {st:Stmt} {ps:List Str} {k:Nat} {sp:bV} {dws:List W}
theorem Md.mt (D:Md K C m qual st ps) (c:dj K C) (h:∀(f:Addr) (fd:FuncData),cz K m qual st f fd->cc P w K mg base k f fd ps sp):Mt P w K mg base C m ps k sp []:=by
 obtain⟨f,fd,hm,F,b⟩:=D;exact⟨⟨f,fd,[],[],hm,h f fd F,b,.nil,λ_=> .nil⟩,c⟩
noncomputable def mE (P:Program) (w:World) (K:yax) (mg:ydv) (base:Heap) (x:Str) (C:Addr) (ps:List Str) (k:Nat) (sp:bV):Prop:=∃(f:Addr) (fd:FuncData),Mk K C f/\cc P w K mg base k f fd ps sp/\mg x=some (.ref C)/\bP K fd ps []
theorem u5.new (D:u5 K C qual st ps) (hm:mg x=some (.ref C)) (h:∀(f:Addr) (fd:FuncData),cz K "__init__" qual st f fd->cc P w K mg base k f fd ps sp):mE P w K mg base x C ps k sp:=by
 obtain⟨f,fd,M,F,b⟩:=D;exact⟨f,fd,M,h f fd F,hm,b⟩
end
theorem eI {C:Addr} {sp:bV} {p pos:Pos} {t:WA} (M:mE X.prog X.w X.K X.mg X.base x C ps k sp) (hr:av (k+1) X.A) (hg:Gl X x)
 (ha:QA X (e::es) t) (hdb:(x==("__debug__":Str))=false:=by decide) (he:starEach (e::es) X.env=(false,eval e X.env)::starEach es X.env:=by rfl) (hpl:(backTo pos (starEach es X.env)).any (·.1)=false:=by rfl):
 QE X (.Call (.Name x p) (e::es) [] pos) (pH C sp [] t):=by
 obtain⟨f,fd,M,F,hm,b⟩:=M;exact v0 M F hr hg hm b ha hdb he hpl
theorem cL {α:Type} {p:List α->Prop} (h:p []) (us:List α) (e:us.length=0):p us:=by
 rw[eq_nil_of_length_eq_zero e];exact h
theorem bD {α:Type} {n:Nat} {p:List α->Prop} (h:∀a,∀us:List α,us.length=n->p (a::us)) (us:List α) (e:us.length=n+1):p us:=by
 cases us with
 | nil=>exact absurd e (Nat.succ_ne_zero n).symm
 | cons a us=>exact h a us (Nat.succ.inj e)
end
structure BQ (P:Program) (w:World) (K:yax) (mg:ydv) (base:Heap) (C:Addr) (m:Str) (ps:List Str) (k:Nat) (sp:bV) (dws:List W):Prop where
 ex:∃(f:Addr) (fd:FuncData) (ds:ydw) (dvs:List V),qC K C m f/\vU P w K mg base k f fd ps sp/\bP K fd ps ds/\aW dvs ds/\∀H,aV K H dws dvs
 cl:dj K C
section
variable {X:Cx} {x:Str} {p pos:Pos}
end
section
variable {X:Cx} {p pos:Pos}
noncomputable def x6 (S:Addr->Prop) (t:Addr->WE):WE:=λτ G q=>∃C,S C/\t C τ G q
theorem lc {S:Addr->Prop} {t:Addr->WE} (h:∀C,S C->QE X e (t C)):QE X e (x6 S t):=λπ s σ H Q I ⟨τ,G,q,a,b,⟨C,hC,ht⟩,d⟩=>h C hC π s σ H Q I ⟨τ,G,q,a,b,ht,d⟩
end
noncomputable def Fi (K:yax) (a:Addr) (n:Nat):It:=
 ⟨λi H=>∃xs x,cZ K H a xs/\xs.length=n/\i<n/\xs[n-1-i]?=some x,λi H x H'=>H'=H/\∀xs,cZ K H a xs->xs[n-1-i]?=some x,λi H=>∃xs,cZ K H a xs/\xs.length=n/\n<=i⟩
theorem v5 {tg:Expr} (a it:Addr) (n:Nat):kI P w K tg (Fi K a n) [it] it (λi h=>i<=n/\h.IsRevIter it a ((n:Int)-1- (i:Int))) where
 mem:=by simp
 obj:=λi h st b hb=>by
  have e:b=it:=by simpa using hb
  subst e;obtain⟨_,o,e,c,d⟩:=st;exact⟨o,e,λv z=>by rw[d] at z;cases z⟩
 keep:=λi h h' st k=>⟨st.1,st.2.at λo e=>k it (by simp) o e⟩
 item:=by
  intro X hP hw hK hc i π s σ H E I hf st hg;subst hP hw hK;obtain⟨xs,x,hq,hl,hi,hx⟩:=hg;obtain⟨its,rv,p,hz⟩:=I.list hq;obtain⟨u,hu,ru⟩:=rv.get hx;obtain⟨f0,f1,f2,f3,f4,f5⟩:=hf it (by simp);have st1:s.heap.IsRevIter it a ((n-1-i:Nat):Int):=by have:=st.2;rw[show(n:Int)-1- (i:Int)=((n-1-i:Nat):Int) by lia] at this;exact this
  refine wpAny_pyNext_rev_item st1 p.isList (x:=u) (by simpa using hu) λh' st' sb=>?_;have I1:aI X π σ H { s with heap:=h' }:=I.turned (t':=s.toks) (λb o hb e=>(sb.2 b hb).trans e) f0 f1 f3 f4 f5;obtain⟨o,e,c,d⟩:=id st';exact⟨u,rfl,jR (s:={ s with heap:=h' }) e c d (by decide) ⟨x,H,I1,ru,⟨rfl,λys hy=>by rw[I.list_inj hy hq];exact hx⟩,⟨by assumption,by rw[show(n:Int)-1- ((i+1:Nat):Int)=((n-1-i:Nat):Int)-1 by lia];exact st'⟩,λb hb=>(hf b hb).1⟩⟩
 done:=by
  intro X hP hw hK hc i π s σ H E I hf st hg;subst hP hw hK;obtain⟨xs,hq,hl,hi⟩:=hg;obtain⟨f0,f1,f2,f3,f4,f5⟩:=hf it (by simp);have st1:s.heap.IsRevIter it a (-1):=by have:=st.2;rw[show(n:Int)-1- (i:Int)= -1 by have:=st.1;lia] at this;exact this
  exact wpAny_pyNext_rev_end (I.ok.hd hc) st1 λh' eb=>⟨rfl,I.turned (t':=s.toks) (λb o hb e=>eb b o hb e) f0 f1 f3 f4 f5⟩
 self:=λ_ _ _ _ _ st h=>wpAny_pyIter_revIter st.2 h
theorem zD {ws:List W} {H:Hp} {n:Nat} (hn:ws.length=n):pB K (Fi K a n) ws.reverse (λG=>G a=some (.lst ws)) H where
 stop:=λi H1 G t g eG hl=>by
  obtain⟨_,xs,h1,r⟩:=g a _ eG;exact⟨xs,cZ.of h1,by rw[←r.length];exact hn,by simp at hl;lia⟩
 go:=λi w H1 G t g eG e=>by
  obtain⟨_,xs,h1,r⟩:=g a _ eG;have hl:=r.length;have hi:i<ws.length:=by
   rcases lt_or_ge i ws.length with z | z
   ·exact z
   ·rw[List.getElem?_eq_none (by simpa using z)] at e;cases e
  rw[List.getElem?_reverse hi] at e;obtain⟨v,e1,rv⟩:=r.get e;rw[hn] at e1;refine⟨⟨xs,v,cZ.of h1,by lia,by lia,e1⟩,λx H' z9=>?_⟩;obtain⟨eH,hy⟩:=z9;subst eH;have e2:=hy xs (cZ.of h1);rw[e1] at e2;cases e2;exact⟨aT.refl _,rv,g⟩
noncomputable def x8 (ta:WA):WI:=λτ G r=>ta τ G λws G1=>match ws with
 | [.ref a]=>∃xs,G1 a=some (.lst xs)/\r xs.reverse (λG=>G a=some (.lst xs)) G1
 | _=>False
theorem v6 {X:Cx} {tg a:Expr} {ta:WA} {p pos:Pos} (hg:Gl X "reversed") (hm:X.mg "reversed"=none) (ha:QA X [a] ta) (hs:starEach [a] X.env=[(false,eval a X.env)]:=by rfl):
 QI X tg (.Call (.Name "reversed" p) [a] [] pos) (x8 ta):=by
 rintro π s σ H R I ⟨τ,G,r,hτ,hG,ht,hR⟩;refine Call_ (eU I hg hm pG (PyProof.Rows.callWith_type1 (cf (ha pos π s σ H (λvs H1=>∃ws G1,aT H H1/\aV X.K H1 ws vs/\aO X.K H1 G1/\match ws with | [.ref a]=>∃xs,G1 a=some (.lst xs)/\r xs.reverse (λG=>G a=some (.lst xs)) G1 | _=>False) I ⟨τ,G,_,hτ,hG,ht,λvs H1 ws G1 t1 r1 g1 q1=>⟨ws,G1,t1,r1,g1,q1⟩⟩) λus s1 ⟨vs,H1,I1,ru,ws,G1,t1,r1,g1,q1⟩=>?_) (by rw[hs];rfl) (by rfl)));split at q1
 ·rename_i pa;obtain⟨ws,eG,q1⟩:=q1;cases r1 with
  | cons ra rn=>
    cases rn;cases ra;cases ru with
    | cons w1 wn=>
      cases wn;cases (show _=Value.ref pa from w1);obtain⟨_,xs',h1,rr⟩:=g1 _ _ eG;obtain⟨its,rv,p1,hz⟩:=I1.list (cZ.of h1);have hl:=rv.length;have hr:=rr.length;refine call_reversed_list p1.isList ?_;have st0:(s1.heap.push (revObj pa ((its.toArray.size:Int)-1))).IsRevIter s1.heap.objs.size pa ((ws.length:Int)-1- ((0:Nat):Int)):=⟨_,yav _ rfl,rfl,by
       rw[show((ws.length:Int)-1- ((0:Nat):Int))=(its.toArray.size:Int)-1 by simp;lia];rfl⟩
      refine wpAny_pyIter_revIter (s:={ s1 with heap:=s1.heap.push (revObj pa ((its.toArray.size:Int)-1)) }) st0 ?_;refine⟨s1.heap.objs.size,[s1.heap.objs.size],_,_,H1,rfl,I1.kept (t':=s1.toks) λb o e=>yaw _ e,v5 pa _ ws.length,⟨zero_le _,st0⟩,λb hb=>?_,hR _ H1 _ _ G1 t1 g1 (zD rfl) q1⟩;have e:b=s1.heap.objs.size:=by simpa using hb
      subst e;exact I1.fpOk (yby _) (I1.hok.fresh (yby _))
 ·exact q1.elim
section
variable {X:Cx}
theorem zE (x y:Str):(W.str x).eq (.str y)=decide (x=y):=by
 simp only[W.eq];rw[Bool.eq_iff_iff,beq_iff_eq,decide_eq_true_eq]
theorem tq (x:Str):(W.str x).flat=true:=rfl
theorem v7 (x:Str):(W.str x).dep=0:=rfl
theorem zF (x:Str):decide (x=x)=true:=ycw rfl
abbrev dNq (a b:String):Prop:=decide (Str.ofString a=Str.ofString b)=false
theorem BR:dNq "set" "copy"/\dNq "set" "add"/\dNq "set" "less"/\dNq "set" "times"/\dNq "set" "count"/\dNq "set" "while"/\dNq "copy" "set"/\dNq "copy" "add"/\dNq "copy" "less"/\dNq "copy" "times"/\dNq "copy" "count"/\dNq "copy" "while"/\dNq "add" "set"/\dNq "add" "copy"/\dNq "add" "less"/\dNq "add" "times"/\dNq "add" "count"/\dNq "add" "while"/\dNq "less" "set"/\dNq "less" "copy"/\dNq "less" "add"/\dNq "less" "times"/\dNq "less" "count"/\dNq "less" "while"/\dNq "times" "set"/\dNq "times" "copy"/\dNq "times" "add"/\dNq "times" "less"/\dNq "times" "count"/\dNq "times" "while"/\dNq "count" "set"/\dNq "count" "copy"/\dNq "count" "add"/\dNq "count" "less"/\dNq "count" "times"/\dNq "count" "while"/\dNq "while" "set"/\dNq "while" "copy"/\dNq "while" "add"/\dNq "while" "less"/\dNq "while" "times"/\dNq "while" "count":=by decide+kernel
end
section
variable {P:Program} {w:World} {K:yax} {mg:ydv} {base:Heap} {N:List Str} {qual:Str} {scope:Scope} {f:Addr} {cdv:Value} {A:Around} {outer:List Env} {s:Shared} {H:Hp} {E:XK}
noncomputable def tu (C:Addr) (m:Str) (sp:bV) (dws:List W) (to:WE) (t:WA) (e:WX):WE:=λτ G q=>to τ G λx G1=>∃a fs,x=.ref a/\G1 a=some (.ins C fs)/\fs.lookup m=none/\t τ G1 λws G2=>sp (x::(ws++dws)) G2 q e
theorem tw {C:Addr} {m:Str} {sp:bV} {dws:List W} {o e0:Expr} {to:WE} {t:WA} {apos pos:Pos} {pl:Sem Bool} {e:WX} (ho:QE (dC (oi P w) P w K mg base N qual scope f cdv A outer s H E) o to) (M:BQ P w K mg base C m ps k sp dws) (hr:av k (A.deeper (envOfC qual scope s.heap.objs.size f cdv)))
 (hE:∀c H1 G1,aT H H1->aO K H1 G1->e c G1->E c none H1) (ha:QA (dC (oi P w) P w K mg base N qual scope f cdv A outer s H E) (e0::es) t)
 (hst:starEach (e0::es) (envOfC qual scope s.heap.objs.size f cdv)=(false,eval e0 (envOfC qual scope s.heap.objs.size f cdv))::starEach es (envOfC qual scope s.heap.objs.size f cdv):=by rfl) (hpl:(backTo pos (starEach es (envOfC qual scope s.heap.objs.size f cdv))).any (·.1)=false:=by rfl)
 (ht:eval (.Call (.Attribute o m apos) (e0::es) [] pos) (envOfC qual scope s.heap.objs.size f cdv)=(do
   let ov ←eval o (envOfC qual scope s.heap.objs.size f cdv)
   standAt apos.atName
   let (fn,first) ←holding [ov] (getMethod ov m pl)
   callWith pos fn first (backTo pos (starEach (e0::es) (envOfC qual scope s.heap.objs.size f cdv))) (backToKw pos (keywordEach [] (envOfC qual scope s.heap.objs.size f cdv)))):=by rfl):QE (dC (oi P w) P w K mg base N qual scope f cdv A outer s H E) (.Call (.Attribute o m apos) (e0::es) [] pos) (tu C m sp dws to t e):=by
 obtain⟨⟨f1,fd,ds,dvs,hm,F,hb,hd,hrep⟩,c⟩:=M;refine(o7 (X:=dC (oi P w) P w K mg base N qual scope f cdv A outer s H E) (E:=λc _ H1=>∃G1,aO K H1 G1/\e c G1) (pl:=pl) ho c hm F hr hb hd (vV λC H1 t1 z=>?_) ha hst hpl ht).imp λσ H2 Q h=>?_
 ·obtain⟨G1,g1,z1⟩:=z;exact hE _ H1 G1 t1 g1 z1
 ·obtain⟨τ,G,q,hs,hg,ht,hQ⟩:=h;refine⟨τ,G,_,hs,hg,ht,λx H1 w G1 t1 r1 g1 q1=>?_⟩;obtain⟨a,fs,rfl,hG,hl,q1⟩:=q1;cases r1;obtain⟨_,dx,fs',hH,hn,_⟩:=g1 a _ hG;refine⟨a,dx,fs',rfl,hH,fi hn hl,τ,G1,_,hs.mono t1,g1,q1,λvs H2 ws G2 t2 r2 g2 q2=>?_⟩;exact⟨.ref a::(ws++dws),G2,q,e,.cons (.ref a) (r2.append (hrep _)),g2,q2,λv H3 w3 G3 t3=>hQ v H3 w3 G3 ((t1.trans t2).trans t3),λc d H3 G3 _ g3 z=>⟨G3,g3,z⟩⟩
end
section
variable {X:Cx} {π:List (Addr×Obj)} {σ:St} {H:Hp} {s:Shared} {h':Heap} {ch:List Addr}
theorem aI.pair {x y:V} {ux uy:Value} (I:aI X π σ H s) (hf:∀c,c∈ch->iD X π H c) (keep:∀c o,c∉ch->s.heap.get? c=some o->h'.get? c=some o) (tn:h'.get? s.heap.objs.size=some { cls:= .type "tuple",data:= .seq #[ux,uy] }) (rx:bc x ux) (ry:bc y uy):aI X π σ (upd H s.heap.objs.size (.tup [x,y])) { s with heap:=h' }:=by
 have hnew:H s.heap.objs.size=none:=I.hok.fresh (yby _);have tr:∀c u,H c=some u->c∉ch:=λc u e hc=>by rw[(hf c hc).1] at e;cases e
 refine I.step (g':=s.gens) (d':=s.drawn) (t':=s.toks) (ch:=ch) (λc hc=>?_) (λc o _ _ hc e _=>keep c o hc e) (λc o _ _ hc e _=>⟨o.slots,keep c o hc e⟩) (λc o _ e n=>?_) (λc o hc e=>⟨o,keep c o hc e⟩) (λc xs e=>?_) (λc o u e=>?_) (λc ps e=>⟨#[],?_⟩) (λm hm=>?_) (λc u e=>?_) I.bare
 ·obtain⟨_,f1,_,f3,f4,f5⟩:=hf c hc;exact⟨f3,f1,f4,f5⟩
 ·rw[aJ (ne_of_lt (ybx e))];exact n
 ·rw[aJ (bg e hnew)];exact e
 ·rw[aJ (bg e hnew)];exact e
 ·rw[aJ (bg e hnew),e];simp
 ·obtain⟨o,es,ep,ho,bX⟩:=hm;exact⟨o,es,ep,keep _ o (λhc=>(hf _ hc).2.1 rfl) ho,bX⟩
 ·by_cases hcs:c=s.heap.objs.size
  ·subst hcs;rw[bd] at e;cases e;exact⟨by show 2<=sizeLine;decide,[ux,uy],.cons rx (.cons ry .nil),⟨_,tn,rfl,_,rfl⟩⟩
  ·rw[aJ hcs] at e;refine(I.hok c u e).stay (λc' v hc' q=>keep c' v ?_ q) (λc' q=>by rw[aJ (bg q hnew)];exact q) λc' xs q=>by rw[aJ (bg q hnew)];exact q
   rcases hc' with rfl | hc'
   ·exact tr _ _ e
   ·exact tr _ _ hc'
end
structure ZL (z p r i j a b:Addr) (n:Nat) (f:Value) (h:Heap):Prop where
 hz:IsZip h z p r f
 hp:IsPair h p (.ref i) (.ref j)
 hr:∃x y,IsPair h r x y
 hi:h.IsListIter i a n
 hj:h.IsListIter j b n
section
variable {P:Program} {w:World} {K:yax}
end
section
variable {X:Cx}
end
end L2
namespace Nm
inductive O where
 | z
 | c (e:O) (n:Int) (r:O)
 deriving DecidableEq
namespace O
noncomputable def cmp:O->O->Int
 | z,z=>0
 | z,c _ _ _=> -1
 | c _ _ _,z=>1
 | c e n r,c e' n' r'=>
   if cmp e e'≠0 then cmp e e' else if n<n' then -1 else if n'<n then 1 else cmp r r'
noncomputable def size:O->Nat
 | z=>0
 | c e _ r=>1+size e+size r
noncomputable def dp:O->Nat
 | z=>0
 | c e _ r=>max (dp e+1) (dp r)
noncomputable def len:O->Nat
 | z=>0
 | c _ _ r=>len r+1
noncomputable def app:O->O->O
 | z,b=>b
 | c e n r,b=>c e n (app r b)
noncomputable def filt (p:O->Int->Bool):O->O
 | z=>z
 | c e n r=>if p e n then c e n (filt p r) else filt p r
noncomputable def same (x:O):O->Int
 | z=>0
 | c e n r=>if e=x then n+same x r else same x r
noncomputable def init:O->O
 | z=>z
 | c _ _ z=>z
 | c e n r=>c e n (init r)
noncomputable def last:O->O
 | z=>z
 | c e n z=>c e n z
 | c _ _ r=>last r
theorem cmp_self:∀a:O,cmp a a=0
 | z=>rfl
 | c e n r=>by simp[cmp,cmp_self e,cmp_self r]
theorem cmp_eq:∀a b:O,cmp a b=0->a=b
 | z,z,_=>rfl
 | z,c _ _ _,h=>by simp[cmp] at h
 | c _ _ _,z,h=>by simp[cmp] at h
 | c e n r,c e' n' r',h=>by
   unfold cmp at h
   by_cases he:cmp e e'=0
   ·rw[ybv (by simpa using he)] at h
    by_cases h1:n<n'
    ·rw[ycx h1] at h;lia
    ·rw[ybv h1] at h
     by_cases h2:n'<n
     ·rw[ycx h2] at h;lia
     ·rw[ybv h2] at h;have:=cmp_eq e e' he;have:=cmp_eq r r' h;have:n=n':=by lia
      subst_vars
      rfl
   ·rw[ycx he] at h;exact absurd h he
theorem cmp_range:∀a b:O,cmp a b= -1∨cmp a b=0∨cmp a b=1
 | z,z=>by simp[cmp]
 | z,c _ _ _=>by simp[cmp]
 | c _ _ _,z=>by simp[cmp]
 | c e n r,c e' n' r'=>by
   have h1:=cmp_range e e';have h2:=cmp_range r r';unfold cmp;split
   ·exact h1
   ·split
    ·exact .inl rfl
    ·split
     ·exact .inr (.inr rfl)
     ·exact h2
theorem aX:∀a b:O,cmp b a= -cmp a b
 | z,z=>rfl
 | z,c _ _ _=>rfl
 | c _ _ _,z=>rfl
 | c e n r,c e' n' r'=>by
   have h1:=aX e e';have h2:=aX r r';unfold cmp;rw[h1,h2]
   by_cases he:cmp e e'=0
   ·rcases Int.lt_trichotomy n n' with k | k | k
    ·have k':¬n'<n:=by lia
     simp[he,k,k']
    ·subst k;simp[he]
    ·have k':¬n<n':=by lia
     simp[he,k,k']
   ·have he':¬-cmp e e'=0:=by lia
    simp[he,he']
theorem bM:∀a b d:O,cmp a b<0->cmp b d<0->cmp a d<0
 | z,z,_,h,_=>by simp[cmp] at h
 | z,c _ _ _,z,_,h=>by simp[cmp] at h
 | z,c _ _ _,c _ _ _,_,_=>by simp[cmp]
 | c _ _ _,z,_,h,_=>by simp[cmp] at h
 | c _ _ _,c _ _ _,z,_,h=>by simp[cmp] at h
 | c e n r,c e' n' r',c f m t,h1,h2=>by
   have ih1:=bM e e' f;have ih2:=bM r r' t;have r1:=cmp_range e e';have r2:=cmp_range e' f;unfold cmp at h1 h2 ⊢
   by_cases k1:cmp e e'=0
   ·have e1:=cmp_eq e e' k1;subst e1;rw[ybv (by lia)] at h1
    by_cases k2:cmp e f=0
    ·rw[ybv (by lia)] at h2 ⊢
     by_cases a1:n<n'
     ·by_cases a2:n'<m
      ·rw[ycx (by lia)];lia
      ·rw[ybv a2] at h2
       by_cases a3:m<n'
       ·rw[ycx a3] at h2;lia
       ·rw[ycx (by lia)];lia
     ·rw[ybv a1] at h1
      by_cases a2:n'<n
      ·rw[ycx a2] at h1;lia
      ·rw[ybv a2] at h1
       by_cases a3:n'<m
       ·rw[ycx (by lia)];lia
       ·rw[ybv a3] at h2
        by_cases a4:m<n'
        ·rw[ycx a4] at h2;lia
        ·rw[ybv a4] at h2;rw[ybv (by lia),ybv (by lia)];exact ih2 h1 h2
    ·rw[ycx k2] at h2 ⊢;exact h2
   ·rw[ycx k1] at h1
    by_cases k2:cmp e' f=0
    ·have e2:=cmp_eq e' f k2;subst e2;rw[ycx k1];exact h1
    ·rw[ycx k2] at h2;have:=ih1 h1 h2;rw[ycx (by lia)];exact this
noncomputable def Lt (e:O):O->Prop
 | z=>True
 | c x _ r=>cmp x e<0/\Lt e r
noncomputable def NF:O->Prop
 | z=>True
 | c e n r=>NF e/\1<=n/\Lt e r/\NF r
theorem Lt.app {e:O}:∀{a b:O},Lt e a->Lt e b->Lt e (app a b)
 | z,_,_,h=>h
 | c _ _ _,_,h1,h2=>⟨h1.1,Lt.app h1.2 h2⟩
theorem Lt.filt {e:O} (p:O->Int->Bool):∀{a:O},Lt e a->Lt e (O.filt p a)
 | z,_=>trivial
 | c _ _ _,h=>by
   unfold O.filt;split
   ·exact⟨h.1,Lt.filt p h.2⟩
   ·exact Lt.filt p h.2
theorem same_nonneg (x:O):∀{a:O},NF a->0<=same x a
 | z,_=>by simp[same]
 | c e n r,h=>by
   have h1:=h.2.1;have h2:=same_nonneg x h.2.2.2;unfold same;split<;> lia
theorem NF.join {e:O} {n:Int} {b:O} (he:NF e) (hn:1<=n) (hb:NF b) (hl:Lt e b) (hx:∀x,0<cmp x e->Lt x b):∀{a:O},NF a->NF (O.app (O.filt (λx _=>decide (0<cmp x e)) a) (c e n b))
 | z,_=>⟨he,hn,hl,hb⟩
 | c x k r,h=>by
   unfold O.filt;split
   ·rename_i hp;have hp':0<cmp x e:=by simpa using hp
    have hs:=aX x e;exact⟨h.1,h.2.1,Lt.app (h.2.2.1.filt _) ⟨by lia,hx x hp'⟩,NF.join he hn hb hl hx h.2.2.2⟩
   ·exact NF.join he hn hb hl hx h.2.2.2
end O
namespace O
theorem cG (a:O):¬cmp a a<0:=by rw[cmp_self];lia
theorem fJ (x:O):same x z=0:=rfl
theorem fj (e:O) (n:Int) (r:O):same e (c e n r)=n+same e r:=by simp[same]
theorem same_ne {x e:O} (h:e≠x) (n:Int) (r:O):same x (c e n r)=same x r:=by simp[same,h]
theorem bU {e x:O} (hx:¬cmp x e<0):∀{r:O},Lt e r->same x r=0
 | z,_=>rfl
 | c y n t,h=>by
   have hy:y≠x:=λk=>hx (k▸h.1);rw[same_ne hy];exact bU hx h.2
theorem same_self {e:O} {n:Int} {r:O} (h:Lt e r):same e (c e n r)=n:=by
 rw[fj,bU (cG e) h];lia
theorem bn {x e:O} {n:Int} {r:O} (h:Lt e r) (hx:0<cmp x e):same x (c e n r)=0:=by
 have hne:e≠x:=λk=>by subst k;rw[cmp_self] at hx;lia
 rw[same_ne hne,bU (by lia) h]
theorem jh:∀{a b:O},NF a->NF b->(∀x,same x a=same x b)->a=b
 | z,z,_,_,_=>rfl
 | z,c e n r,_,hb,h=>by
   have:=h e;rw[same_self hb.2.2.1,fJ] at this;have:=hb.2.1;lia
 | c e n r,z,ha,_,h=>by
   have:=h e;rw[same_self ha.2.2.1,fJ] at this;have:=ha.2.1;lia
 | c e n r,c e' n' r',ha,hb,h=>by
   rcases cmp_range e e' with k | k | k
   ·have h1:=h e';rw[same_self hb.2.2.1,bn ha.2.2.1 (by have:=aX e e';lia)] at h1;have:=hb.2.1;lia
   ·have k':=cmp_eq _ _ k;subst k';have h1:=h e;rw[same_self ha.2.2.1,same_self hb.2.2.1] at h1;subst h1;have hr:r=r':=jh ha.2.2.2 hb.2.2.2 λx=>by
     by_cases hx:e=x
     ·subst hx;rw[bU (cG e) ha.2.2.1,bU (cG e) hb.2.2.1]
     ·have:=h x;rw[same_ne hx,same_ne hx] at this;exact this
    rw[hr]
   ·have h1:=h e;rw[same_self ha.2.2.1,bn hb.2.2.1 (by lia)] at h1;have:=ha.2.1;lia
theorem iu {x:O}:∀{a b:O},NF a->NF b->same x a<same x b->(∀y,0<cmp y x->same y a=same y b)->cmp a b<0
 | z,z,_,_,h,_=>by simp[same] at h
 | z,c _ _ _,_,_,_,_=>by simp[cmp]
 | c e n r,z,ha,_,h,_=>by
   have:=same_nonneg x ha;rw[fJ] at h;lia
 | c e n r,c e' n' r',ha,hb,h,hy=>by
   rcases cmp_range e e' with k | k | k
   ·rw[cmp,ycx (by lia)];lia
   ·have k':=cmp_eq _ _ k;subst k';rw[cmp,ybv (by lia)];rcases cmp_range x e with q | q | q
    ·have hne:e≠x:=λz=>by subst z;rw[cmp_self] at q;lia
     have h1:=hy e (by have:=aX x e;lia);rw[same_self ha.2.2.1,same_self hb.2.2.1] at h1;subst h1;rw[ybv (by lia),ybv (by lia)];rw[same_ne hne,same_ne hne] at h;refine iu ha.2.2.2 hb.2.2.2 h λy hyx=>?_
     by_cases hye:e=y
     ·subst hye;rw[bU (cG e) ha.2.2.1,bU (cG e) hb.2.2.1]
     ·have:=hy y hyx;rw[same_ne hye,same_ne hye] at this;exact this
    ·have q':=cmp_eq _ _ q;subst q';rw[same_self ha.2.2.1,same_self hb.2.2.1] at h;rw[ycx h];lia
    ·rw[bn ha.2.2.1 (by lia),bn hb.2.2.1 (by lia)] at h;lia
   ·have hn:=ha.2.1;rcases cmp_range e x with q | q | q
    ·have qx:0<cmp x e:=by have:=aX e x;lia
     have qx':0<cmp x e':=by
      have:=bM e' e x (by have:=aX e e';lia) (by lia);have:=aX e' x;lia
     rw[bn ha.2.2.1 qx,bn hb.2.2.1 qx'] at h;lia
    ·have q':=cmp_eq _ _ q;subst q';rw[same_self ha.2.2.1,bn hb.2.2.1 (by lia)] at h;lia
    ·have h1:=hy e (by lia);rw[same_self ha.2.2.1,bn hb.2.2.1 (by lia)] at h1;lia
theorem iw:∀{a b:O},NF a->NF b->cmp a b<0->∃x,same x a<same x b/\∀y,0<cmp y x->same y a=same y b
 | z,z,_,_,h=>by simp[cmp] at h
 | z,c e n r,_,hb,_=>by
   refine⟨e,?_,λy hy=>?_⟩
   ·rw[same_self hb.2.2.1,fJ];have:=hb.2.1;assumption
   ·rw[bn hb.2.2.1 hy,fJ]
 | c _ _ _,z,_,_,h=>by simp[cmp] at h
 | c e n r,c e' n' r',ha,hb,h=>by
   rcases cmp_range e e' with k | k | k
   ·refine⟨e',?_,λy hy=>?_⟩
    ·rw[same_self hb.2.2.1,bn ha.2.2.1 (by have:=aX e e';lia)];have:=hb.2.1;assumption
    ·have hy2:0<cmp y e:=by
      have:=bM e e' y (by lia) (by have:=aX y e';lia);have:=aX e y;lia
     rw[bn hb.2.2.1 hy,bn ha.2.2.1 hy2]
   ·have k':=cmp_eq _ _ k;subst k';rw[cmp,ybv (by lia)] at h
    by_cases h1:n<n'
    ·refine⟨e,?_,λy hy=>?_⟩
     ·rw[same_self ha.2.2.1,same_self hb.2.2.1];exact h1
     ·rw[bn hb.2.2.1 hy,bn ha.2.2.1 hy]
    ·rw[ybv h1] at h
     by_cases h2:n'<n
     ·rw[ycx h2] at h;lia
     ·rw[ybv h2] at h;have hn:n=n':=by lia
      subst hn;obtain⟨x,hx,hy⟩:=iw ha.2.2.2 hb.2.2.2 h;have hxe:cmp x e<0:=by
       refine Classical.byContradiction λq=>?_;rw[bU q ha.2.2.1,bU q hb.2.2.1] at hx;lia
      have hne:e≠x:=λz=>by subst z;rw[cmp_self] at hxe;lia
      refine⟨x,by rw[same_ne hne,same_ne hne];exact hx,λy hyx=>?_⟩
      by_cases hye:e=y
      ·subst hye;rw[same_self ha.2.2.1,same_self hb.2.2.1]
      ·rw[same_ne hye,same_ne hye];exact hy y hyx
   ·rw[cmp,ycx (by lia)] at h;lia
noncomputable def plusO:O->O->O
 | a,z=>a
 | a,c e n r=>app (filt (λx _=>decide (0<cmp x e)) a) (c e (same e a+n) r)
theorem mG:∀(x a b:O),same x (app a b)=same x a+same x b
 | x,z,b=>by simp[app,same]
 | x,c e n r,b=>by
   have:=mG x r b;show same x (c e n (app r b))=_
   by_cases h:e=x
   ·subst h;rw[fj,fj,this];lia
   ·rw[same_ne h,same_ne h,this]
theorem kc (p:O->Bool):∀(x a:O),same x (filt (λy _=>p y) a)=if p x then same x a else 0
 | x,z=>by simp[filt,same]
 | x,c e n r=>by
   have ih:=kc p x r;unfold filt
   by_cases hp:p e=true
   ·rw[ycx hp]
    by_cases h:e=x
    ·subst h;rw[fj,fj,ih,ycx hp,ycx hp]
    ·rw[same_ne h,same_ne h,ih]
   ·rw[ybv hp,ih]
    by_cases h:e=x
    ·subst h;rw[ybv hp,ybv hp]
    ·rw[same_ne h]
theorem NF.join' {e:O} {n:Int} {b:O} (he:NF e) (hn:1<=n) (hb:NF b) (hl:Lt e b) {a:O} (ha:NF a):NF (O.app (O.filt (λx _=>decide (0<cmp x e)) a) (c e n b)):=by
 refine NF.join he hn hb hl (λx hx=>?_) ha;have:∀{b:O},Lt e b->Lt x b:=by
  intro b
  induction b with
  | z=>exact λ_=>trivial
  | c y m t _ ih=>exact λh=>⟨bM y e x h.1 (by have:=aX x e;lia),ih h.2⟩
 exact this hl
theorem NF.plus {a b:O} (ha:NF a) (hb:NF b):NF (plusO a b):=by
 cases b with
 | z=>exact ha
 | c e n r=>
   have:=same_nonneg e ha;exact NF.join' hb.1 (by have:=hb.2.1;lia) hb.2.2.2 hb.2.2.1 ha
theorem ke {a e:O} {n:Int} {r:O} (hr:Lt e r) (x:O):same x (plusO a (c e n r))=if 0<cmp x e then same x a else if cmp x e<0 then same x (c e n r) else same x a+same x (c e n r):=by
 show same x (app _ _)=_;rw[mG,kc (λy=>decide (0<cmp y e))]
 by_cases h1:0<cmp x e
 ·rw[ycx (by simpa using h1),ycx h1,bn hr h1];lia
 ·rw[ybv (by simpa using h1),ybv h1]
  by_cases h2:cmp x e<0
  ·have hne:e≠x:=λz=>by subst z;rw[cmp_self] at h2;lia
   rw[ycx h2,same_ne hne,same_ne hne];lia
  ·have:cmp x e=0:=by lia
   have h3:=cmp_eq _ _ this;subst h3;rw[ybv h2,same_self hr,same_self hr];lia
end O
namespace O
noncomputable def lQ (b y:O):Prop:=∃w,cmp y w<0/\same w b≠0
theorem BS (y:O):¬lQ z y:=λ⟨_,_,h⟩=>h rfl
theorem x9 {e:O} {n:Int} {r y:O} (hn:1<=n) (hr:Lt e r):lQ (c e n r) y↔cmp y e<0:=by
 constructor
 ·rintro⟨w,hw,hs⟩;have:¬0<cmp w e:=λk=>hs (bn hr k);rcases cmp_range w e with k | k | k
  ·exact bM y w e hw (by lia)
  ·rw[cmp_eq _ _ k] at hw;exact hw
  ·lia
 ·intro h;exact⟨e,h,by rw[same_self hr];lia⟩
theorem bv {a b y:O} (hb:NF b) (h:lQ b y):same y (plusO a b)=same y b:=by
 cases b with
 | z=>exact absurd h (BS y)
 | c e n r=>
   have h':=(x9 hb.2.1 hb.2.2.1).mp h;rw[ke hb.2.2.1,ybv (by lia),ycx h']
theorem ba {a b y:O} (hb:NF b) (h:¬lQ b y):same y (plusO a b)=same y b+same y a:=by
 cases b with
 | z=>show same y a=0+same y a;lia
 | c e n r=>
   have h':¬cmp y e<0:=λk=>h ((x9 hb.2.1 hb.2.2.1).mpr k);rw[ke hb.2.2.1]
   by_cases k:0<cmp y e
   ·rw[ycx k,bn hb.2.2.1 k];lia
   ·rw[ybv k,ybv h'];lia
theorem ji {b d y:O} (hb:NF b) (hd:NF d):lQ (plusO b d) y↔lQ b y∨lQ d y:=by
 constructor
 ·rintro⟨w,hw,hs⟩
  by_cases k:lQ d w
  ·rw[bv hd k] at hs;exact .inr ⟨w,hw,hs⟩
  ·rw[ba hd k] at hs
   by_cases q:same w d=0
   ·exact .inl ⟨w,hw,by lia⟩
   ·exact .inr ⟨w,hw,q⟩
 ·have right:lQ d y->lQ (plusO b d) y:=by
   rintro⟨w,hw,hs⟩;refine⟨w,hw,?_⟩
   by_cases k:lQ d w
   ·rw[bv hd k];exact hs
   ·rw[ba hd k];have:=same_nonneg w hb;have:=same_nonneg w hd;lia
  rintro(⟨w,hw,hs⟩ | h)
  ·by_cases k:lQ d w
   ·obtain⟨v,hv,hs'⟩:=k;exact right ⟨v,bM _ _ _ hw hv,hs'⟩
   ·refine⟨w,hw,?_⟩;rw[ba hd k];have:=same_nonneg w hb;have:=same_nonneg w hd;lia
  ·exact right h
theorem ow {a b d:O} (ha:NF a) (hb:NF b) (hd:NF d):plusO (plusO a b) d=plusO a (plusO b d):=by
 refine jh ((ha.plus hb).plus hd) (ha.plus (hb.plus hd)) λy=>?_
 by_cases k:lQ d y
 ·rw[bv hd k,bv (hb.plus hd) ((ji hb hd).mpr (.inr k)),bv hd k]
 ·rw[ba hd k]
  by_cases q:lQ b y
  ·rw[bv hb q,bv (hb.plus hd) ((ji hb hd).mpr (.inl q)),ba hd k]
  ·rw[ba hb q,ba (hb.plus hd) (λz=>((ji hb hd).mp z).elim q k),ba hd k];lia
theorem kf {b d x y:O} (h:∀y,0<cmp y x->same y b=same y d) (hy:¬cmp y x<0):lQ b y↔lQ d y:=by
 have go:∀w,cmp y w<0->0<cmp w x:=λw hw=>by
  have hs:=aX w x;rcases cmp_range y x with k | k | k
  ·lia
  ·rw[cmp_eq _ _ k] at hw;lia
  ·have h3:=bM x y w (by have:=aX y x;lia) hw;lia
 constructor
 ·rintro⟨w,hw,hs⟩;exact⟨w,hw,by rw[←h w (go w hw)];exact hs⟩
 ·rintro⟨w,hw,hs⟩;exact⟨w,hw,by rw[h w (go w hw)];exact hs⟩
theorem pI {a b d:O} (ha:NF a) (hb:NF b) (hd:NF d) (h:cmp b d<0):cmp (plusO a b) (plusO a d)<0:=by
 obtain⟨x,hx,hy⟩:=iw hb hd h;refine iu (x:=x) (ha.plus hb) (ha.plus hd) ?_ λy hyx=>?_
 ·have q:=kf hy (cG x)
  by_cases k:lQ b x
  ·rw[bv hb k,bv hd (q.mp k)];exact hx
  ·rw[ba hb k,ba hd (λz=>k (q.mpr z))];lia
 ·have q:=kf (y:=y) hy (by lia)
  by_cases k:lQ b y
  ·rw[bv hb k,bv hd (q.mp k)];exact hy y hyx
  ·rw[ba hb k,ba hd (λz=>k (q.mpr z)),hy y hyx]
theorem qU {f:O->O} {b d:O} (h1:cmp b d<0->cmp (f b) (f d)<0) (h2:cmp d b<0->cmp (f d) (f b)<0):cmp (f b) (f d)=cmp b d:=by
 rcases cmp_range b d with k | k | k
 ·have:=h1 (by lia);rcases cmp_range (f b) (f d) with q | q | q<;> lia
 ·rw[cmp_eq _ _ k,cmp_self,cmp_self]
 ·have:=h2 (by have:=aX b d;lia);have:=aX (f d) (f b);rcases cmp_range (f b) (f d) with q | q | q<;> lia
theorem mH {a b d:O} (ha:NF a) (hb:NF b) (hd:NF d):cmp (plusO a b) (plusO a d)=cmp b d:=qU (pI ha hb hd) (pI ha hd hb)
noncomputable def mergeO:O->O->O
 | z,b=>b
 | c e n r,z=>c e n r
 | c e n r,c e' n' r'=>if 0<cmp e e' then c e n (mergeO r (c e' n' r')) else if cmp e e'<0 then c e' n' (mergeO (c e n r) r') else c e (n+n') (mergeO r r')
termination_by a b=>a.len+b.len
decreasing_by all_goals (simp only[len];lia)
theorem merge_z (a:O):mergeO a z=a:=by cases a<;> simp[mergeO]
theorem z_merge (a:O):mergeO z a=a:=by simp[mergeO]
theorem merge_c (e:O) (n:Int) (r e':O) (n':Int) (r':O):mergeO (c e n r) (c e' n' r')=if 0<cmp e e' then c e n (mergeO r (c e' n' r')) else if cmp e e'<0 then c e' n' (mergeO (c e n r) r') else c e (n+n') (mergeO r r'):=by rw[mergeO]
theorem dS (x e:O) (n:Int) (r:O):same x (c e n r)=(if e=x then n else 0)+same x r:=by
 by_cases h:e=x
 ·subst h;rw[fj,ycx rfl]
 ·rw[same_ne h,ybv h];lia
theorem eJ (x:O):∀(k:Nat) (a b:O),a.len+b.len<=k->same x (mergeO a b)=same x a+same x b
 | _,z,b,_=>by rw[z_merge,fJ];lia
 | _,c e n r,z,_=>by rw[merge_z,fJ];lia
 | 0,c e n r,c e' n' r',h=>by simp only[len] at h;lia
 | k+1,c e n r,c e' n' r',h=>by
   simp only[len] at h;rw[merge_c]
   by_cases h1:0<cmp e e'
   ·rw[ycx h1,dS x e,eJ x k r (c e' n' r') (by simp only[len];lia),dS x e n r];lia
   ·rw[ybv h1]
    by_cases h2:cmp e e'<0
    ·rw[ycx h2,dS x e',eJ x k (c e n r) r' (by simp only[len];lia),dS x e' n' r'];lia
    ·have h3:=cmp_eq e e' (by lia);subst h3;rw[ybv h2,dS x e,eJ x k r r' (by lia),dS x e n r,dS x e n' r']
     by_cases h4:e=x
     ·rw[ycx h4,ycx h4,ycx h4];lia
     ·rw[ybv h4,ybv h4,ybv h4];lia
theorem mI (x a b:O):same x (mergeO a b)=same x a+same x b:=eJ x _ a b (yby _)
theorem Lt.mono {e f:O} (h:cmp e f<0):∀{r:O},Lt e r->Lt f r
 | z,_=>trivial
 | c _ _ _,k=>⟨bM _ _ _ k.1 h,Lt.mono h k.2⟩
theorem Lt.merge {g:O}:∀(k:Nat) (a b:O),a.len+b.len<=k->Lt g a->Lt g b->Lt g (mergeO a b)
 | _,z,b,_,_,hb=>by rw[z_merge];exact hb
 | _,c e n r,z,_,ha,_=>by rw[merge_z];exact ha
 | 0,c e n r,c e' n' r',h,_,_=>by simp only[len] at h;lia
 | k+1,c e n r,c e' n' r',h,ha,hb=>by
   simp only[len] at h;rw[merge_c];split
   ·exact⟨ha.1,Lt.merge k r _ (by simp only[len];lia) ha.2 hb⟩
   ·split
    ·exact⟨hb.1,Lt.merge k _ r' (by simp only[len];lia) ha hb.2⟩
    ·exact⟨ha.1,Lt.merge k r r' (by lia) ha.2 hb.2⟩
theorem NF.merge':∀(k:Nat) (a b:O),a.len+b.len<=k->NF a->NF b->NF (mergeO a b)
 | _,z,b,_,_,hb=>by rw[z_merge];exact hb
 | _,c e n r,z,_,ha,_=>by rw[merge_z];exact ha
 | 0,c e n r,c e' n' r',h,_,_=>by simp only[len] at h;lia
 | k+1,c e n r,c e' n' r',h,ha,hb=>by
   simp only[len] at h;rw[merge_c];split
   ·rename_i h1;have hl:cmp e' e<0:=by have:=aX e e';lia
    exact⟨ha.1,ha.2.1,Lt.merge _ _ _ (yby _) ha.2.2.1 ⟨hl,hb.2.2.1.mono hl⟩,NF.merge' k r _ (by simp only[len];lia) ha.2.2.2 hb⟩
   ·split
    ·rename_i h1 h2;exact⟨hb.1,hb.2.1,Lt.merge _ _ _ (yby _) ⟨h2,ha.2.2.1.mono h2⟩ hb.2.2.1,NF.merge' k _ r' (by simp only[len];lia) ha hb.2.2.2⟩
    ·rename_i h1 h2;have h3:=cmp_eq e e' (by lia);subst h3;exact⟨ha.1,by have:=ha.2.1;have:=hb.2.1;lia,Lt.merge _ _ _ (yby _) ha.2.2.1 hb.2.2.1,NF.merge' k r r' (by lia) ha.2.2.2 hb.2.2.2⟩
theorem NF.merge {a b:O} (ha:NF a) (hb:NF b):NF (mergeO a b):=NF.merge' _ a b (yby _) ha hb
end O
namespace O
noncomputable def getP:O->Nat->Option (O×Int)
 | z,_=>none
 | c e n _,0=>some (e,n)
 | c _ _ r,i+1=>getP r i
noncomputable def dropO:Nat->O->O
 | 0,a=>a
 | _+1,z=>z
 | i+1,c _ _ r=>dropO i r
theorem getP_none:∀{a:O} {i:Nat},getP a i=none↔a.len<=i
 | z,i=>by simp[getP,len]
 | c e n r,0=>by simp[getP,len]
 | c e n r,i+1=>by
   have:=getP_none (a:=r) (i:=i);simp only[getP,len,this];lia
theorem getP_some {a:O} (h:i<a.len):∃e n,getP a i=some (e,n):=by
 cases k:getP a i with
 | none=>rw[getP_none] at k;lia
 | some p=>exact⟨p.1,p.2,rfl⟩
theorem dropO_get:∀{a:O} {i:Nat} {e:O} {n:Int},getP a i=some (e,n)->dropO i a=c e n (dropO (i+1) a)
 | z,_,_,_,h=>by simp[getP] at h
 | c e n r,0,_,_,h=>by simp[getP] at h;obtain⟨rfl,rfl⟩:=h;simp[dropO]
 | c e n r,i+1,x,m,h=>by
   have:=dropO_get (a:=r) (i:=i) (e:=x) (n:=m) (by simpa[getP] using h);simpa[dropO] using this
theorem dropO_len:∀{a:O} {i:Nat},a.len<=i->dropO i a=z
 | z,0,_=>rfl
 | z,_+1,_=>rfl
 | c e n r,0,h=>by simp only[len] at h;lia
 | c e n r,i+1,h=>by
   simp only[len] at h;exact dropO_len (a:=r) (i:=i) (by lia)
theorem len_dropO:∀(i:Nat) (a:O),(dropO i a).len=a.len-i
 | 0,a=>rfl
 | _+1,z=>by simp[dropO,len]
 | i+1,c e n r=>by
   have:=len_dropO i r;simp only[dropO,len,this];lia
theorem getP_size:∀{a:O} {i:Nat} {e:O} {n:Int},getP a i=some (e,n)->e.size<a.size/\e.dp<a.dp
 | z,_,_,_,h=>by simp[getP] at h
 | c e n r,0,_,_,h=>by simp[getP] at h;obtain⟨rfl,rfl⟩:=h;simp only[size,dp];lia
 | c e n r,i+1,x,m,h=>by
   have:=getP_size (a:=r) (i:=i) (e:=x) (n:=m) (by simpa[getP] using h);simp only[size,dp];lia
noncomputable def stay (e a:O):Nat:=(filt (λx _=>decide (0<cmp x e)) a).len
theorem du {y e:O} (h:¬0<cmp y e):∀{r:O},Lt y r->filt (λx _=>decide (0<cmp x e)) r=z
 | z,_=>rfl
 | c x n t,k=>by
   have hx:¬0<cmp x e:=λq=>by
    have h1:=aX x e;have h2:=bM e x y (by lia) k.1;have h3:=aX e y;lia
   unfold filt;rw[ybv (by simpa using hx)];exact du h k.2
theorem filt_c (p:O->Int->Bool) (e:O) (n:Int) (r:O):filt p (c e n r)=if p e n then c e n (filt p r) else filt p r:=rfl
theorem eK {e y:O} {n:Int} {r:O} (h:0<cmp y e):stay e (c y n r)=stay e r+1:=by
 unfold stay;rw[filt_c,ycx (by simpa using h)]
 rfl
theorem eL {e y:O} {n:Int} {r:O} (h:¬0<cmp y e) (hr:Lt y r):stay e (c y n r)=0:=by
 unfold stay;rw[filt_c,ybv (by simpa using h),du h hr]
 rfl
theorem stay_le {e:O}:∀{a:O},stay e a<=a.len
 | z=>yby _
 | c y n r=>by
   have:=stay_le (e:=e) (a:=r);unfold stay at this ⊢;unfold filt;split<;> simp only[len]<;> lia
theorem above_iff {e:O}:∀{a:O} {i:Nat} {x:O} {n:Int},NF a->getP a i=some (x,n)->(0<cmp x e↔i<stay e a)
 | z,_,_,_,_,h=>by simp[getP] at h
 | c y m r,0,x,n,ha,h=>by
   simp[getP] at h;obtain⟨rfl,rfl⟩:=h
   by_cases k:0<cmp y e
   ·rw[eK k];exact⟨λ_=>by lia,λ_=>k⟩
   ·rw[eL k ha.2.2.1];exact⟨λq=>absurd q k,λq=>by lia⟩
 | c y m r,i+1,x,n,ha,h=>by
   have h':getP r i=some (x,n):=by simpa[getP] using h
   have ih:=above_iff (e:=e) ha.2.2.2 h'
   by_cases k:0<cmp y e
   ·rw[eK k,ih];lia
   ·rw[eL k ha.2.2.1];constructor
    ·intro q;have z0:stay e r=0:=by unfold stay;rw[du k ha.2.2.1];rfl
     have:=ih.mp q;lia
    ·intro q;lia
theorem same_stay {e:O}:∀{a:O},NF a->same e a=match getP a (stay e a) with | some (x,m)=>if x=e then m else 0 | none=>0
 | z,_=>rfl
 | c y n r,ha=>by
   by_cases k:0<cmp y e
   ·have hne:y≠e:=λq=>by subst q;rw[cmp_self] at k;lia
    rw[eK k,same_ne hne,same_stay ha.2.2.2]
    rfl
   ·rw[eL k ha.2.2.1];show _=if y=e then n else 0
    by_cases q:y=e
    ·subst q;rw[ycx rfl,same_self ha.2.2.1]
    ·rw[ybv q,same_ne q];refine bU (λhl=>?_) ha.2.2.1;have h1:=aX e y;lia
noncomputable def takeO:Nat->O->O
 | 0,_=>z
 | _+1,z=>z
 | i+1,c e n r=>c e n (takeO i r)
theorem take_stay {e:O}:∀{a:O},NF a->takeO (stay e a) a=filt (λx _=>decide (0<cmp x e)) a
 | z,_=>rfl
 | c y n r,ha=>by
   by_cases k:0<cmp y e
   ·rw[eK k,filt_c,ycx (by simpa using k),takeO,take_stay ha.2.2.2]
   ·rw[eL k ha.2.2.1,filt_c,ybv (by simpa using k),du k ha.2.2.1]
    rfl
end O
namespace O
noncomputable def mx:O->Int
 | z=>0
 | c e n r=>max n (max (mx e) (mx r))
theorem mx_c (e:O) (n:Int) (r:O):mx (c e n r)=max n (max (mx e) (mx r)):=rfl
theorem pJ {e:O} {n:Int} {r:O}:n<=mx (c e n r):=Int.le_max_left _ _
theorem tD {e:O} {n:Int} {r:O}:mx e<=mx (c e n r):=ydx (Int.le_max_left _ _) (Int.le_max_right _ _)
theorem mJ {e:O} {n:Int} {r:O}:mx r<=mx (c e n r):=ydx (Int.le_max_right _ _) (Int.le_max_right _ _)
theorem ox {e:O} {n:Int} {r:O} {B:Int} (h1:n<=B) (h2:mx e<=B) (h3:mx r<=B):mx (c e n r)<=B:=Int.max_le.mpr ⟨h1,Int.max_le.mpr ⟨h2,h3⟩⟩
theorem mx_nonneg:∀a:O,0<=mx a
 | z=>Int.le_refl _
 | c _ _ r=>ydx (mx_nonneg r) mJ
theorem tE:∀a b:O,mx (app a b)=max (mx a) (mx b)
 | z,b=>by have:=mx_nonneg b;show mx b=max 0 (mx b);lia
 | c e n r,b=>by
   show mx (c e n (app r b))=_;rw[mx_c,tE r b,mx_c,Int.max_assoc,Int.max_assoc]
theorem pK (p:O->Int->Bool):∀a:O,mx (filt p a)<=mx a
 | z=>Int.le_refl _
 | c e n r=>by
   have:=pK p r;rw[filt_c];split
   ·exact ox pJ tD (ydx this mJ)
   ·exact ydx this mJ
theorem same_le_mx (x:O):∀{a:O},NF a->same x a<=mx a
 | z,_=>Int.le_refl _
 | c e n r,h=>by
   have h1:=same_le_mx x h.2.2.2;rw[mx_c]
   by_cases k:e=x
   ·subst k;rw[same_self h.2.2.1];lia
   ·rw[same_ne k];lia
theorem tF:∀a b:O,dp (app a b)=max (dp a) (dp b)
 | z,b=>by show dp b=max 0 (dp b);lia
 | c e n r,b=>by
   show dp (c e n (app r b))=_;simp only[dp,tF r b];rw[Nat.max_assoc]
theorem dp_filt (p:O->Int->Bool):∀a:O,dp (filt p a)<=dp a
 | z=>yby _
 | c e n r=>by
   have:=dp_filt p r;rw[filt_c];split<;> simp only[dp]<;> lia
theorem dp_plus (a b:O):dp (plusO a b)<=max (dp a) (dp b):=by
 cases b with
 | z=>show dp a<=_;lia
 | c e n r=>
   show dp (app _ _)<=_;rw[tF];have:=dp_filt (λx _=>decide (0<cmp x e)) a;simp only[dp];lia
structure FH (B:Int) (o:O):Prop where
 nf:NF o
 sz:o.size<=24
 mx:O.mx o<=B
end O
namespace O
theorem z_plus:∀a:O,plusO z a=a
 | z=>rfl
 | c e n r=>by
   simp[plusO,filt,app,same]
theorem tG (a:O):plusO a z=a:=rfl
theorem plus_c (a e:O) (n:Int) (r:O):plusO a (c e n r)=app (filt (λx _=>decide (0<cmp x e)) a) (c e (same e a+n) r):=rfl
theorem D1 {a:O} (h:a≠z):cmp z a<0:=by
 cases a with
 | z=>exact absurd rfl h
 | c _ _ _=>simp[cmp]
theorem pL {e f:O} (he:NF e) (hf:NF f) (h:f≠z):cmp e (plusO e f)<0:=by
 have:=mH (b:=z) he trivial hf;rw[tG] at this;have:=D1 h;lia
noncomputable def mulP (e:O) (n:Int) (r:O):O->O
 | z=>z
 | c f d t=>if f=z then c e (n*d) r else c (plusO e f) d (mulP e n r t)
noncomputable def timesO:O->O->O
 | z,_=>z
 | c e n r,b=>mulP e n r b
theorem mulP_c (e:O) (n:Int) (r f:O) (d:Int) (t:O):mulP e n r (c f d t)=if f=z then c e (n*d) r else c (plusO e f) d (mulP e n r t):=rfl
theorem times_z (a:O):timesO a z=z:=by cases a<;> rfl
theorem pM {e:O} {n:Int} {r:O} (he:NF e) (hr:Lt e r) {f:O} (hf:NF f) (h0:f≠z):∀{t:O},NF t->Lt f t->Lt (plusO e f) (mulP e n r t)
 | z,_,_=>trivial
 | c g d u,ht,hl=>by
   rw[mulP_c];split
   ·exact⟨pL he hf h0,hr.mono (pL he hf h0)⟩
   ·exact⟨by rw[mH he ht.1 hf];exact hl.1,pM he hr hf h0 ht.2.2.2 hl.2⟩
theorem oy {a b:Int} (ha:1<=a) (hb:1<=b):1<=a*b:=by
 have:=Int.mul_le_mul ha hb (by lia) (by lia);simpa using this
theorem pN {e:O} {n:Int} {r:O} (h:NF (c e n r)):∀{t:O},NF t->NF (mulP e n r t)
 | z,_=>trivial
 | c g d u,ht=>by
   rw[mulP_c];split
   ·exact⟨h.1,oy h.2.1 ht.2.1,h.2.2.1,h.2.2.2⟩
   ·rename_i hg;exact⟨h.1.plus ht.1,ht.2.1,pM h.1 h.2.2.1 ht.1 hg ht.2.2.2 ht.2.2.1,pN h ht.2.2.2⟩
theorem NF.times {a b:O} (ha:NF a) (hb:NF b):NF (timesO a b):=by
 cases a with
 | z=>exact trivial
 | c e n r=>exact pN ha hb
theorem Lt_z {t:O} (h:Lt z t):t=z:=by
 cases t with
 | z=>rfl
 | c x _ _=>
   have:=h.1;cases x<;> simp[cmp] at this
section
variable {e:O} {n:Int} {r:O}
end
end O
namespace O
section
variable {e:O} {n:Int} {r:O}
end
end O
namespace O
end O
namespace O
noncomputable def hw:O->Nat
 | z=>0
 | c e _ r=>max (len r+1) (max (hw e) (hw r))
theorem hw_c (e:O) (n:Int) (r:O):hw (c e n r)=max (len r+1) (max (hw e) (hw r)):=rfl
theorem len_le_hw:∀a:O,len a<=hw a
 | z=>yby _
 | c e n r=>by rw[hw_c];simp only[len];lia
theorem len_app':∀a b:O,(app a b).len=a.len+b.len
 | z,b=>by simp[app,len]
 | c e n r,b=>by have:=len_app' r b;simp only[app,len];lia
theorem len_filt' (p:O->Int->Bool):∀a:O,(a.filt p).len<=a.len
 | z=>yby _
 | c e n r=>by
   have:=len_filt' p r;rw[filt_c];split<;> simp only[len]<;> lia
theorem tH:∀a b:O,hw (app a b)<=max (len a+len b) (max (hw a) (hw b))
 | z,b=>by show hw b<=_;lia
 | c e n r,b=>by
   have ih:=tH r b;show hw (c e n (app r b))<=_;have l0:len (c e n r)=len r+1:=rfl;have b1:hw e<=hw (c e n r):=ybz (le_max_left _ _) (le_max_right _ _);have b2:hw r<=hw (c e n r):=ybz (le_max_right _ _) (le_max_right _ _);have c1:len (c e n r)+len b<=max (len (c e n r)+len b) (max (hw (c e n r)) (hw b)):=le_max_left _ _;have c2:hw (c e n r)<=max (len (c e n r)+len b) (max (hw (c e n r)) (hw b)):=ybz (le_max_left _ _) (le_max_right _ _);have c3:hw b<=max (len (c e n r)+len b) (max (hw (c e n r)) (hw b)):=ybz (le_max_right _ _) (le_max_right _ _);generalize max (len (c e n r)+len b) (max (hw (c e n r)) (hw b))=R at c1 c2 c3 ⊢;rw[hw_c,len_app'];refine max_le.mpr ⟨by lia,max_le.mpr ⟨ybz b1 c2,ybz ih (max_le.mpr ⟨by lia,max_le.mpr ⟨ybz b2 c2,c3⟩⟩)⟩⟩
theorem hw_filt (p:O->Int->Bool):∀a:O,hw (filt p a)<=hw a
 | z=>yby _
 | c e n r=>by
   have ih:=hw_filt p r;have h:=len_filt' p r;rw[filt_c];split
   ·rw[hw_c,hw_c];lia
   ·rw[hw_c];lia
theorem hw_plus (a b:O):hw (plusO a b)<=hw a+hw b:=by
 cases b with
 | z=>show hw a<=_;lia
 | c e n r=>
   rw[plus_c];have h1:=tH (filt (λx _=>decide (0<cmp x e)) a) (c e (same e a+n) r);have h2:=hw_filt (λx _=>decide (0<cmp x e)) a;have h3:=len_filt' (λx _=>decide (0<cmp x e)) a;have h4:=len_le_hw a;have h5:=len_le_hw (c e n r);have e1:hw (c e (same e a+n) r)=hw (c e n r):=rfl;have e2:len (c e (same e a+n) r)=len (c e n r):=rfl;rw[e1,e2] at h1;exact ybz h1 (max_le.mpr ⟨by lia,max_le.mpr ⟨by lia,by lia⟩⟩)
theorem pO (e:O) (n:Int) (r:O):∀b:O,(mulP e n r b).len<=b.len+r.len
 | z=>by simp[mulP,len]
 | c f d t=>by
   have ih:=pO e n r t;rw[mulP_c];split<;> simp only[len]<;> lia
theorem tI (e:O) (n:Int) (r:O):∀b:O,hw (mulP e n r b)<=hw (c e n r)+hw b
 | z=>by simp[mulP,hw]
 | c f d t=>by
   have ih:=tI e n r t;have h1:=hw_plus e f;have h2:=pO e n r t;have h3:=len_le_hw t;have h4:hw e<=hw (c e n r):=ybz (le_max_left _ _) (le_max_right _ _);have h5:len r+1<=hw (c e n r):=le_max_left _ _;have h6:hw f<=hw (c f d t):=ybz (le_max_left _ _) (le_max_right _ _);have h7:hw t<=hw (c f d t):=ybz (le_max_right _ _) (le_max_right _ _);have h8:len t+1<=hw (c f d t):=le_max_left _ _;rw[mulP_c];split
   ·have e1:hw (c e (n*d) r)=hw (c e n r):=rfl;rw[e1];lia
   ·rw[hw_c (plusO e f)];exact max_le.mpr ⟨by lia,max_le.mpr ⟨by lia,by lia⟩⟩
theorem hw_times (a b:O):hw (timesO a b)<=hw a+hw b:=by
 cases a with
 | z=>show hw z<=_;exact zero_le _
 | c e n r=>exact tI e n r b
theorem pP (e:O) (n:Int) (r:O):∀b:O,(mulP e n r b).dp<=max (dp (c e n r)) (b.dp)
 | z=>by simp[mulP,dp]
 | c f d t=>by
   have ih:=pP e n r t;have h:=dp_plus e f;have h1:dp e+1<=dp (c e n r):=le_max_left _ _;have h2:dp f+1<=dp (c f d t):=le_max_left _ _;have h3:dp t<=dp (c f d t):=le_max_right _ _;rw[mulP_c];split
   ·have e1:dp (c e (n*d) r)=dp (c e n r):=rfl;rw[e1];exact le_max_left _ _
   ·refine max_le.mpr ⟨?_,ybz ih (max_le.mpr ⟨le_max_left _ _,ybz h3 (le_max_right _ _)⟩)⟩;rcases Nat.le_total (dp e) (dp f) with k | k
    ·rw[Nat.max_eq_right k] at h;exact ybz (Nat.succ_le_succ h) (ybz h2 (le_max_right _ _))
    ·rw[Nat.max_eq_left k] at h;exact ybz (Nat.succ_le_succ h) (ybz h1 (le_max_left _ _))
theorem dp_times (a b:O):dp (timesO a b)<=max (dp a) (dp b):=by
 cases a with
 | z=>show dp z<=_;exact zero_le _
 | c e n r=>exact pP e n r b
theorem mx_plus {a b:O} (ha:NF a):mx (plusO a b)<=mx a+mx b:=by
 have h0:=mx_nonneg a;cases b with
 | z=>show mx a<=mx a+0;lia
 | c e n r=>
   rw[plus_c,tE,mx_c,mx_c];have h2:=pK (λx _=>decide (0<cmp x e)) a;have h3:=same_le_mx e ha;have e1:n<=max n (max (mx e) (mx r)):=pJ (e:=e) (r:=r);have e2:max (mx e) (mx r)<=max n (max (mx e) (mx r)):=Int.le_max_right _ _;have e3:0<=max n (max (mx e) (mx r)):=mx_nonneg (c e n r);generalize max n (max (mx e) (mx r))=M at e1 e2 e3 ⊢;refine Int.max_le.mpr ⟨ydx h2 (Int.le_add_of_nonneg_right e3),Int.max_le.mpr ⟨Int.add_le_add h3 e1,ydx e2 (Int.le_add_of_nonneg_left h0)⟩⟩
theorem tJ {e:O} {n:Int} {r:O} (h:NF (c e n r)):∀{b:O},NF b->mx (mulP e n r b)<=(mx (c e n r)+1)*(mx b+1)
 | z,_=>by
   have:=mx_nonneg (c e n r);show(0:Int)<=(mx (c e n r)+1)*(0+1);lia
 | c f d t,hb=>by
   have ih:=tJ h hb.2.2.2;have hp:=mx_plus (a:=e) (b:=f) h.1;have n0:=mx_nonneg (c e n r);have n1:=mx_nonneg f;have n2:=mx_nonneg t;have hd:=hb.2.1;have hn:=h.2.1;obtain⟨A,hA⟩:∃A,A=mx (c e n r):=⟨_,rfl⟩;rw[←hA] at ih n0 ⊢;rw[mx_c] at hA;have k1:(A+1)*(mx t+1)<=(A+1)*(mx (c f d t)+1):=Int.mul_le_mul_of_nonneg_left (Int.add_le_add_right mJ 1) (Int.le_add_one n0);have e1:mx e<=A:=by rw[hA];exact tD
   have e2:mx r<=A:=by rw[hA];exact mJ
   have e3:n<=A:=by rw[hA];exact pJ
   have e4:mx f<=mx (c f d t):=tD;have e5:d<=mx (c f d t):=pJ;have e6:=mx_nonneg (c f d t);clear hA n1 n2 hn;generalize mx (c f d t)=M at k1 e4 e5 e6 ⊢;have k2:A+M<=(A+1)*(M+1):=by
    have:=Int.mul_nonneg n0 e6;rw[Int.mul_add,Int.add_mul];generalize A*M=P at this ⊢;clear ih hp hd k1 e1 e2 e3 e4 e5;lia
   have k5:A<=(A+1)*(M+1):=ydx (Int.le_add_of_nonneg_right e6) k2;rw[mulP_c];split
   ·exact ox (Int.mul_le_mul (ydx e3 (Int.le_add_one (Int.le_refl A))) (ydx e5 (Int.le_add_one (Int.le_refl M))) (Int.le_of_lt hd) (Int.le_add_one n0)) (ydx e1 k5) (ydx e2 k5)
   ·exact ox (ydx (ydx e5 (Int.le_add_of_nonneg_left n0)) k2) (ydx (ydx hp (Int.add_le_add e1 e4)) k2) (ydx ih k1)
end O
namespace O
noncomputable def eZ:O->O
 | z=>z
 | c e n z=>if n=1 then z else c e (n-1) z
 | c e n (c e' n' r')=>c e n (eZ (c e' n' r'))
noncomputable def cH:O->O
 | z=>z
 | c e _ z=>e
 | c _ _ (c e' n' r')=>cH (c e' n' r')
theorem app_z:∀a:O,app a z=a
 | z=>rfl
 | c e n r=>by show c e n (app r z)=_;rw[app_z r]
noncomputable def Fj (a:O):Prop:=a≠z/\same z a=0
inductive zG:O->Int->O->Prop where
 | suc {a:O} {n:Int} (h0:a≠z) (h:cH a=z):zG a n (eZ a)
 | lim {a:O} {n:Int} {o:O} (h0:a≠z) (h:Fj (cH a)) (k:zG (cH a) n o):zG a n (app (eZ a) (c o 1 z))
 | one {a:O} {n:Int} (h0:a≠z) (h:cH a≠z) (h':¬Fj (cH a)):zG a n (app (eZ a) (if n=0 then z else c (eZ (cH a)) n z))
end O
namespace O
theorem app_assoc:∀a b d:O,app (app a b) d=app a (app b d)
 | z,_,_=>rfl
 | c e k r,b,d=>by show c e k (app (app r b) d)=c e k (app r (app b d));rw[app_assoc r b d]
end O
namespace O
structure Rg (a b:O) (n:Int):Prop where
 pos:0<=n
 pass:∀o,zG a n o->cmp b o<0
 least:0<n->∀o,zG a (n-1) o->¬cmp b o<0
end O
namespace O
end O
namespace O
end O
namespace O
noncomputable def wh (m:Int):O:=if m=0 then z else c z m z
theorem NF.wh {m:Int} (h:0<=m):NF (wh m):=by
 unfold O.wh;split
 ·exact trivial
 ·exact⟨trivial,by lia,trivial,trivial⟩
theorem wh_pos {m:Int} (h:0<m):wh m=c z m z:=by unfold wh;rw[ybv (by lia)]
end O
namespace O
noncomputable abbrev one:O:=c z 1 z
noncomputable abbrev lim (b:O):O:=filt (λy _=>decide (¬y=z)) b
theorem times_mx {a b:O} (ha:NF a) (hb:NF b):mx (timesO a b)<=(mx a+1)*(mx b+1):=by
 cases a with
 | z=>
   have:=mx_nonneg b;show(0:Int)<=(0+1)*(mx b+1);lia
 | c e n r=>exact tJ ha hb
end O
namespace O
section
variable {x:O} {n m:Int}
end
end O
namespace O
noncomputable abbrev w1:O:=c one 1 z
end O
namespace O
end O
namespace O
noncomputable def ot:O->Int
 | z=>0
 | c _ n r=>max n (ot r)
end O
namespace O
end O
namespace O
noncomputable def val (b:Nat):O->Nat
 | z=>0
 | c e n r=>n.toNat*b^val b e+val b r
structure Wr (b:Nat) (a:O):Prop where
 nf:NF a
 mx:O.mx a<b
end O
namespace O
noncomputable def tp (b:Nat):O->Nat
 | z=>0
 | c e _ _=>val b e+1
end O
namespace O
open Classical in
noncomputable def rep (b s:Nat):O:=if h:∃o,Wr b o/\val b o=s then choose h else z
noncomputable def tl (b:Nat):Nat->O
 | 0=>z
 | s+1=>c (rep b s) ((b:Int)-1) (tl b s)
noncomputable def dn (b:Nat) (a:O):O:=app (eZ a) (tl b (val b (cH a)))
end O
namespace O
inductive Wy (b:Nat):O->Prop where
 | z:Wy b z
 | c {a:O} (h0:a≠O.z) (nf:NF a) (w:Wr b (eZ a)) (k:Wy b (cH a)):Wy b a
end O
namespace O
end O
namespace O
noncomputable def xb (b:Nat):Nat:=if b*b<=55 then b else 54/b+1
noncomputable def D2 (b:Nat):O:=if b<56 then c (c z 1 z) (xb b:Int) z else c z 55 z
structure Rw (b k:Nat) (a:O):Prop where
 wr:Wr (b+k) a
 aN:Lt (D2 b) a
 tp:O.tp (b+k) a<=200
end O
namespace O
structure Hi (b:Nat) (a p e:O) (n:Int):Prop where
 app:a=O.app p (c e n z)
 wp:Wr b p
 we:Wr b e
 n1:1<=n
 n2:n<b
 last:cH a=e
 div:∃q,val b p=q*b^ (val b e+1)
 lt:p≠z->cmp e (cH p)<0
 dp:p.dp<=a.dp
 de:e.dp<a.dp
 aN:∀x,Lt x a->Lt x p
end O
namespace O
end O
inductive Tr where
 | z
 | c (b r:Tr)
namespace Tr
noncomputable def pts:Tr->Nat
 | z=>1
 | c b r=>pts b+pts r
noncomputable def dp:Tr->Nat
 | z=>0
 | c b r=>max (dp b+1) (dp r)
noncomputable def len:Tr->Nat
 | z=>0
 | c _ r=>len r+1
noncomputable def sm (f:Nat->Nat):Nat->Nat
 | 0=>0
 | n+1=>sm f n+f n
structure FI (n M:Nat) (ch:Nat->List Nat) (ds:Nat->Nat):Prop where
 pos:1<=n
 d0:ds 0=0
 in_:∀v,v<n->∀j,j∈ch v->v<j/\j<n/\ds j=ds v+1
 dp:∀v,v<n->ds v<=M
 sum:∀f:Nat->Nat,sm (λv=>((ch v).map f).sum) n+f 0=sm f n
 len:∀v,v<n->(ch v).length<=n
structure Fk (n M k:Nat) (ch:Nat->List Nat) (ds:Nat->Nat) (t:Nat->Tr):Prop where
 pts:∀v,k<=v->v<n->Tr.pts (t v)=1+((ch v).map λj=>Tr.pts (t j)).sum
 dp:∀v,k<=v->v<n->Tr.dp (t v)+ds v<=M
end Tr
namespace Tr
open O
noncomputable def nO:Tr->O
 | z=> .z
 | c b r=>mergeO (.c (nO b) 1 .z) (nO r)
noncomputable def app:Tr->Tr->Tr
 | z,u=>u
 | c b r,u=>c b (app r u)
noncomputable def tK:Tr->Nat->Option Tr
 | z,_=>none
 | c b _,0=>some b
 | c _ r,i+1=>tK r i
noncomputable def tL:Tr->Nat->Tr->Tr
 | z,_,_=>z
 | c _ r,0,u=>app u r
 | c b r,i+1,u=>c b (tL r i u)
noncomputable def BU (b:Tr):Nat->Tr
 | 0=>z
 | n+1=>c b (BU b n)
noncomputable def v9 (m:Nat):Tr->List Nat->Tr
 | t,[]=>t
 | t,[i]=>tL t i z
 | t,[i,j]=>match tK t i with
   | some b=>tL t i (BU (tL b j z) (1+m))
   | none=>t
 | t,i::j::k::w=>match tK t i with
   | some b=>tL t i (c (v9 m b (j::k::w)) z)
   | none=>t
end Tr
namespace Tr
open O
end Tr
namespace Tr
open O
end Tr
namespace Tr
end Tr
namespace Tr
open O
end Tr
namespace Tr
noncomputable def FJ:Tr->Bool
 | z=>true
 | c _ _=>false
noncomputable def bare:Tr->Nat
 | z=>0
 | c b r=>(if FJ b=true then 1 else bare b)+bare r
end Tr
namespace O
inductive Ru (n:Int):O->O->Prop
 | less {a:O}:a≠ .z->cH a=.z->Ru n a (eZ a)
 | succ {a:O}:a≠ .z->cH a≠ .z->cH (cH a)=.z->Ru n a (O.app (eZ a) (.c (eZ (cH a)) n .z))
 | lim {a o:O}:a≠ .z->cH a≠ .z->cH (cH a)≠ .z->Ru n (cH a) o->Ru n a (O.app (eZ a) (.c o 1 .z))
end O
namespace Tr
open O
noncomputable def wa (t:Tr) (i:Nat) (b:Tr):Prop:=tK t i=some b/\∀j d,tK t j=some d->(j<=i->0<=cmp (nO d) (nO b))/\(i<j->0<cmp (nO d) (nO b))
noncomputable def Fm:Tr->List Nat->Prop
 | t,[]=>t=z
 | t,i::w=>∃b,wa t i b/\Fm b w
end Tr
namespace O
end O
namespace O
structure Bd (d s:Nat) (m:Int) (o:O):Prop where
 nf:o.NF
 dp:o.dp<=d
 sz:o.size<=s
 mx:O.mx o<=m
end O
namespace O
end O
namespace O
end O
namespace O
theorem len_app:∀a b:O,(app a b).len=a.len+b.len
 | z,b=>by simp[app,len]
 | c e n r,b=>by
   have:=len_app r b;show(app r b).len+1=r.len+1+b.len;lia
end O
namespace O
end O
namespace O
noncomputable def e1:O:=c z 1 z
inductive Fn (B k l:Nat):Prop
 | two:B=2->k=16->l<2->Fn B k l
 | three:B=3->k=27->l<3->Fn B k l
end O
namespace O
end O
namespace O
inductive Dn (f:Nat->Int) (a:O):List O->O->Prop where
 | one:Dn f a [a] a
 | step {os:List O} {b o:O} (h:Dn f a os b) (hb:b≠z) (l:zG b (f (os.length-1)) o):Dn f a (os++[o]) o
end O
namespace Tr
instance decZ:(t:Tr)->Decidable (t=z)
 | z=> .isTrue rfl
 | c _ _=> .isFalse (λh=>by cases h)
noncomputable def CW:List Tr->Tr
 | []=>z
 | [t]=>t
 | _::u::l=>CW (u::l)
noncomputable def step (ls:List Tr) (s:Nat):Option (List Tr):=
 if s=40/\CW ls=z/\ls.length<=41 then some (z::ls)
 else if s=41 then
  match ls with
  | t::u::l=>some (u.app (c t z)::l)
  | _=>none
 else none
structure Bg (ls:List Tr):Prop where
 ne:ls≠[]
 lo:CW ls=z∨∃b,ls=[c b z]
 len:ls.length<=42
noncomputable def Fo:List Nat->Bool->Int->Int->Option (Int×Int)
 | [],_,d,m=>some (d,m)
 | s::cs,f,d,m=>
   if ¬(s=40∨s=41)∨(f=false/\d=0) then none
   else
    let d':=d+1-2*(if s=41 then 1 else 0)
    if d'<0 then none else Fo cs false d' (max m d')
noncomputable def rt (l:List Nat):Bool:=match Fo l true 0 0 with
 | none=>false
 | some (d,m)=>decide (l≠[])&&decide (d=0)&&decide (l.length<=1200)&&decide (m<=41)
end Tr
namespace Tr
open O
inductive D3 (f:Nat->Nat) (t:Tr):List Tr->Tr->Prop
 | one:D3 f t [t] t
 | step {ts:List Tr} {u:Tr} {w:List Nat} (h:D3 f t ts u) (hz:u≠z) (hw:w≠[]) (hl:Fm u w) (hp:pts (v9 (f (ts.length-1)) u w)<=60):D3 f t (ts++[v9 (f (ts.length-1)) u w]) (v9 (f (ts.length-1)) u w)
section
variable {f:Nat->Nat} {t u:Tr} {ts:List Tr}
end
end Tr
open O
mutual
inductive Rw (α:Type) where
 | set (b:α) (n:Int)
 | copy (b o:α)
 | add (b o:α)
 | less (b:α)
 | times (b:α) (rs:oz α)
 | count (rs:oz α) (n:Int)
inductive oz (α:Type) where
 | nil
 | cons (r:Rw α) (rs:oz α)
end
noncomputable def om:O:= .c (O.wh 1) 1 .z
section
variable {α:Type}
mutual
noncomputable def Rw.wt:Rw α->O
 | .times _ rs=>O.timesO (O.plusO rs.wt (O.wh 1)) om
 | .count rs n=>O.plusO (O.timesO (O.plusO rs.wt (O.wh 1)) (O.wh n)) (O.wh 1)
 | _=>O.wh 1
noncomputable def oz.wt:oz α->O
 | .nil=> .z
 | .cons r rs=>O.plusO rs.wt r.wt
end
mutual
noncomputable def Rw.hb:Rw α->Nat
 | .times _ rs=>rs.hb+2
 | .count rs _=>rs.hb+3
 | _=>1
noncomputable def oz.hb:oz α->Nat
 | .nil=>0
 | .cons r rs=>rs.hb+r.hb
end
mutual
noncomputable def Rw.mb:Rw α->Nat
 | .times _ rs=>(rs.mb+2)*2
 | .count rs n=>(rs.mb+2)*(n.toNat+1)+1
 | _=>1
noncomputable def oz.mb:oz α->Nat
 | .nil=>0
 | .cons r rs=>rs.mb+r.mb
end
mutual
noncomputable def Rw.lb:Rw α->Nat
 | .count rs _=>rs.lb+2
 | _=>1
noncomputable def oz.lb:oz α->Nat
 | .nil=>0
 | .cons r rs=>rs.lb+r.lb
end
mutual
noncomputable def Rw.nn:Rw α->Prop
 | .times _ rs=>rs.nn
 | .count rs n=>rs.nn/\0<=n
 | _=>True
noncomputable def oz.nn:oz α->Prop
 | .nil=>True
 | .cons r rs=>r.nn/\rs.nn
end
mutual
noncomputable def Rw.dt:Rw α->Nat
 | .times _ rs=>rs.dt+1
 | .count rs _=>rs.dt+1
 | _=>0
noncomputable def oz.dt:oz α->Nat
 | .nil=>0
 | .cons r rs=>max r.dt rs.dt
end
structure Wb (o:O) (h m l:Nat):Prop where
 nf:o.NF
 dp:o.dp<=3
 hw:O.hw o<=h
 mx:O.mx o<=m
 ln:o.len<=l
theorem jj (a b:O):(O.plusO a b).len<=a.len+b.len:=by
 cases b with
 | z=>show a.len<=_;lia
 | c e n r=>
   rw[O.plus_c,O.len_app'];have:=O.len_filt' (λx _=>decide (0<O.cmp x e)) a;show _+(r.len+1)<=a.len+(r.len+1);lia
theorem Wb.wh {n:Int} (h:0<=n):Wb (O.wh n) 1 n.toNat 1:=by
 by_cases h0:n=0
 ·subst h0;exact⟨trivial,zero_le _,zero_le _,Int.le_refl _,zero_le _⟩
 ·rw[O.wh_pos (by lia)];refine⟨⟨trivial,by lia,trivial,trivial⟩,Nat.le_of_ble_eq_true rfl,Nat.le_of_ble_eq_true rfl,?_,Nat.le_of_ble_eq_true rfl⟩;show max n (max 0 0)<=_;lia
theorem pQ:O.NF om:=⟨O.NF.wh (by decide),by decide,trivial,trivial⟩
end
noncomputable def rk (os:List O) (o:O):Nat:=(os.filter λx=>decide (cmp x o<0)).length
theorem kg {α:Type} {p q:α->Bool}:∀{l:List α},(∀x,x∈l->p x=true->q x=true)->(l.filter p).length<=(l.filter q).length
 | [],_=>yby _
 | x::l,h=>by
   have ih:=kg (p:=p) (q:=q) (l:=l) λy hy=>h y (yay _ hy);have hx:=h x yaz;rw[filter_cons,filter_cons]
   by_cases e:p x=true
   ·rw[ycx e,ycx (hx e)];simp only[length_cons];lia
   ·rw[ybv e];split
    ·simp only[length_cons];lia
    ·exact ih
theorem gU {α:Type} {p q:α->Bool}:∀{l:List α} {a:α},a∈l->p a=false->q a=true->(∀x,x∈l->p x=true->q x=true)->(l.filter p).length<(l.filter q).length
 | x::l,a,ha,h1,h2,h=>by
   rw[filter_cons,filter_cons];rcases mem_cons.mp ha with rfl | ha
   ·have ih:=kg (p:=p) (q:=q) (l:=l) λy hy=>h y (yay _ hy);rw[ybv (by rw[h1];exact ycy),ycx h2];simp only[length_cons];lia
   ·have ih:=gU (p:=p) (q:=q) ha h1 h2 λy hy=>h y (yay _ hy);have hx:=h x yaz
    by_cases e:p x=true
    ·rw[ycx e,ycx (hx e)];simp only[length_cons];lia
    ·rw[ybv e];split
     ·simp only[length_cons];lia
     ·exact ih
theorem pR {os:List O} {a b:O} (ha:a∈os) (h:cmp a b<0):rk os a<rk os b:=by
 unfold rk;refine gU ha ?_ (ycw h) λx _ hx=>?_
 ·rw[cmp_self];rfl
 ·exact ycw (bM x a b (of_decide_eq_true hx) h)
theorem zH {os:List O} {a:O} (ha:a∈os):rk os a<os.length:=by
 have h:=gU (p:=λx=>decide (cmp x a<0)) (q:=λ_=>true) ha (by rw[cmp_self];rfl) rfl λ_ _ _=>rfl;have e:(os.filter λ_=>true)=os:=List.filter_eq_self.mpr λ_ _=>rfl;unfold rk;rw[e] at h;exact h
theorem tM {os:List O} {a b:O} (ha:a∈os) (hb:b∈os):rk os a<rk os b↔cmp a b<0:=by
 constructor
 ·intro h;rcases cmp_range a b with e | e | e
  ·lia
  ·rw[cmp_eq a b e] at h;lia
  ·have:cmp b a<0:=by rw[aX];lia
   have:=pR hb this;lia
 ·exact pR ha
theorem zI {os:List O} {a b:O} (ha:a∈os) (hb:b∈os) (h:rk os a=rk os b):a=b:=by
 rcases cmp_range a b with e | e | e
 ·have:=pR ha (show cmp a b<0 by lia);lia
 ·exact cmp_eq a b e
 ·have:=pR hb (show cmp b a<0 by rw[aX];lia);lia
theorem pS {α:Type} [DecidableEq α]:∀{l m:List α},l.Nodup->(∀x,x∈l->x∈m)->m.length=l.length->l.Perm m
 | [],m,_,_,e=>by rw[eq_nil_of_length_eq_zero e]
 | x::l,m,hn,hs,e=>by
   rw[nodup_cons] at hn;have hx:=hs x yaz;have h1:=List.perm_cons_erase hx;refine List.Perm.trans (List.Perm.cons x (pS (m:=m.erase x) hn.2 (λy hy=>?_) ?_)) h1.symm
   ·exact(List.mem_erase_of_ne (λ(z:y=x)=>hn.1 (by rw[←z];exact hy))).mpr (hs y (yay _ hy))
   ·rw[List.length_erase_of_mem hx,e];rfl
noncomputable def cW (l:List O):Prop:=l.Pairwise λa b=>cmp b a<0
theorem wb {os:List O} {n:Nat} (hn:os.length=n) (hd:os.Nodup) {p:List Nat} (hp:(p.map λi=>(os.map (rk os)).getD i 0)=List.range n) (hi:∀i,i∈p->i<n):
 cW ((p.map λi=>os.getD i .z).reverse)/\((p.map λi=>os.getD i .z).reverse).Perm os:=by
 have hm:∀i,i∈p->os.getD i .z∈os:=λi h=>by
  have hi':=hi i h;rw[List.getD_eq_getElem?_getD,ybw (by lia)];exact getElem_mem _
 have he:∀i,i∈p->(os.map (rk os)).getD i 0=rk os (os.getD i .z):=λi h=>by
  have hi':=hi i h;rw[List.getD_eq_getElem?_getD,List.getD_eq_getElem?_getD,List.getElem?_map,ybw (by lia)]
  rfl
 have hr:(p.map λi=>os.getD i .z).map (rk os)=List.range n:=by
  rw[map_map,←hp];exact List.map_congr_left λi h=>(he i h).symm
 have hmem:∀x,x∈(p.map λi=>os.getD i .z)->x∈os:=λx hx=>by
  obtain⟨i,h1,rfl⟩:=mem_map.mp hx;exact hm i h1
 generalize (p.map λi=>os.getD i .z)=asc at hr hmem;have hlen:asc.length=n:=by have:=congrArg List.length hr;simpa using this
 have hpw:asc.Pairwise λa b=>cmp a b<0:=by
  have h1:(asc.map (rk os)).Pairwise (·< ·):=by rw[hr];exact List.pairwise_lt_range
  rw[List.pairwise_map] at h1;exact h1.imp_of_mem λ{a b} ha hb h=>(tM (hmem a ha) (hmem b hb)).mp h
 constructor
 ·unfold cW;rw[List.pairwise_reverse];exact hpw
 ·refine(List.reverse_perm asc).trans (pS ?_ hmem (by lia));exact hpw.imp λ{a b} h z=>by rw[z,cmp_self] at h;lia
mutual
inductive Rq (α:Type) where
 | set (b:α) (n:Int)
 | copy (b o:α)
 | add (b o:α)
 | less (b:α)
 | times (b:α) (rs:aU α)
 | count (rs:aU α) (n:Int)
 | whl (b:α) (hs:List (O×List α)) (rs:aU α)
 | bear (b:α) (hs:List (O×List α)) (rs:aU α) (o:O)
inductive aU (α:Type) where
 | nil
 | cons (r:Rq α) (rs:aU α)
end
section
variable {α:Type}
noncomputable def wc:List (O×List α)->O
 | []=> .z
 | p::_=>O.plusO p.1 (O.wh 1)
noncomputable def hpw (hs:List (O×List α)):O:= .c (wc hs) 1 .z
mutual
noncomputable def Rq.wt:Rq α->O
 | .times _ rs=>O.timesO (O.plusO rs.wt (O.wh 1)) om
 | .count rs n=>O.plusO (O.timesO (O.plusO rs.wt (O.wh 1)) (O.wh n)) (O.wh 1)
 | .whl _ hs rs=>O.plusO (O.timesO (O.plusO rs.wt (O.wh 2)) (hpw hs)) (O.wh 1)
 | .bear _ _ rs o=>O.plusO (O.timesO (O.plusO rs.wt (O.wh 2)) o) (O.wh 1)
 | _=>O.wh 1
noncomputable def aU.wt:aU α->O
 | .nil=> .z
 | .cons r rs=>O.plusO rs.wt r.wt
end
noncomputable def aU.rnd (rs:aU α):O:=O.plusO rs.wt (O.wh 1)
noncomputable def aU.rnw (rs:aU α):O:=O.plusO rs.wt (O.wh 2)
mutual
noncomputable def Rq.hb:Rq α->Nat
 | .times _ rs=>rs.hb+2
 | .count rs _=>rs.hb+3
 | .whl _ hs rs=>rs.hb+hw (hpw hs)+2
 | .bear _ _ rs o=>rs.hb+hw o+2
 | _=>1
noncomputable def aU.hb:aU α->Nat
 | .nil=>0
 | .cons r rs=>rs.hb+r.hb
end
mutual
noncomputable def Rq.mb:Rq α->Nat
 | .times _ rs=>(rs.mb+2)*2
 | .count rs n=>(rs.mb+2)*(n.toNat+1)+1
 | .whl _ hs rs=>(rs.mb+3)*((mx (hpw hs)).toNat+1)+1
 | .bear _ _ rs o=>(rs.mb+3)*((mx o).toNat+1)+1
 | _=>1
noncomputable def aU.mb:aU α->Nat
 | .nil=>0
 | .cons r rs=>rs.mb+r.mb
end
mutual
noncomputable def Rq.lb:Rq α->Nat
 | .count rs _=>rs.lb+2
 | .whl _ hs rs=>match hs with
   | []=>rs.lb+2
   | _::_=>2
 | .bear _ _ rs o=>rs.lb+1+o.len+1
 | _=>1
noncomputable def aU.lb:aU α->Nat
 | .nil=>0
 | .cons r rs=>rs.lb+r.lb
end
noncomputable def qV (d:Nat) (hs:List (O×List α)):Prop:=∀p,p∈hs->p.1.NF/\p.1.dp<=d/\O.hw p.1<=100
mutual
noncomputable def Rq.nn:Rq α->Prop
 | .times _ rs=>rs.nn
 | .count rs n=>rs.nn/\0<=n
 | .whl _ hs rs=>rs.nn/\qV 3 hs
 | .bear _ hs rs o=>rs.nn/\qV 3 hs/\o.NF/\o.dp<=4
 | _=>True
noncomputable def aU.nn:aU α->Prop
 | .nil=>True
 | .cons r rs=>r.nn/\rs.nn
end
mutual
noncomputable def Rq.dt:Rq α->Nat
 | .times _ rs=>rs.dt+1
 | .count rs _=>rs.dt+1
 | .whl _ _ rs=>rs.dt+1
 | .bear _ _ rs _=>rs.dt+1
 | _=>0
noncomputable def aU.dt:aU α->Nat
 | .nil=>0
 | .cons r rs=>max r.dt rs.dt
end
noncomputable def aU.L:aU α->List (Rq α)
 | .nil=>[]
 | .cons r rs=>r::rs.L
noncomputable def aU.of:List (Rq α)->aU α
 | []=> .nil
 | r::rs=> .cons r (aU.of rs)
theorem aU.of_L:∀rs:aU α,aU.of rs.L=rs
 | .nil=>rfl
 | .cons r rs=>by rw[aU.L,aU.of,aU.of_L rs]
theorem aU.L_of:∀rs:List (Rq α),(aU.of rs).L=rs
 | []=>rfl
 | r::rs=>by rw[aU.of,aU.L,aU.L_of rs]
noncomputable def bS:List (Rq α)->O
 | []=> .z
 | r::rs=>O.plusO (bS rs) r.wt
theorem pT:∀rs:List (Rq α),(aU.of rs).wt=bS rs
 | []=>rfl
 | r::rs=>by rw[aU.of,aU.wt,bS,pT rs]
structure Wq (o:O) (h m l:Nat):Prop where
 nf:o.NF
 dp:o.dp<=4
 hw:O.hw o<=h
 mx:O.mx o<=m
 ln:o.len<=l
theorem Wq.plus {a b:O} {h m l h' m' l':Nat} (x:Wq a h m l) (y:Wq b h' m' l'):Wq (O.plusO a b) (h+h') (m+m') (l+l'):=by
 refine⟨x.nf.plus y.nf,?_,?_,?_,?_⟩
 ·exact ybz (O.dp_plus a b) (max_le.mpr ⟨x.dp,y.dp⟩)
 ·have:=O.hw_plus a b;have:=x.hw;have:=y.hw;lia
 ·have:=O.mx_plus (b:=b) x.nf;have:=x.mx;have:=y.mx;lia
 ·have:=jj a b;have:=x.ln;have:=y.ln;lia
theorem Wq.z:Wq .z 0 0 0:=⟨trivial,zero_le _,yby _,Int.le_refl _,yby _⟩
theorem Wq.of {o:O} {h m l:Nat} (x:Wb o h m l):Wq o h m l:=⟨x.nf,Nat.le_succ_of_le x.dp,x.hw,x.mx,x.ln⟩
theorem Wq.wh {n:Int} (h:0<=n):Wq (O.wh n) 1 n.toNat 1:= .of (.wh h)
theorem mK (e:O) (n:Int) (r:O):∀b:O,(O.mulP e n r b).len<=r.len+1+b.len
 | .z=>zero_le _
 | .c f d t=>by
   rw[O.mulP_c];split
   ·show r.len+1<=r.len+1+(t.len+1);lia
   ·have:=mK e n r t;show(O.mulP e n r t).len+1<=r.len+1+(t.len+1);lia
theorem d3 (a b:O):(O.timesO a b).len<=a.len+b.len:=by
 cases a with
 | z=>exact zero_le _
 | c e n r=>exact mK e n r b
theorem Wq.times {a b:O} {h m l:Nat} (x:Wq a h m l) (hb:b.NF) (hd:b.dp<=4) (hk:(O.timesO a b).len<=k):Wq (O.timesO a b) (h+O.hw b) ((m+1)*((O.mx b).toNat+1)) k:=by
 refine⟨x.nf.times hb,?_,?_,?_,hk⟩
 ·exact ybz (O.dp_times a b) (max_le.mpr ⟨x.dp,hd⟩)
 ·have:=O.hw_times a b;have:=x.hw;lia
 ·have h1:=O.times_mx x.nf hb;have h2:=x.mx;have h5:=O.mx_nonneg b;have h3:(O.mx a+1)*(O.mx b+1)<=((m:Int)+1)*(((O.mx b).toNat:Int)+1):=Int.mul_le_mul (by lia) (by lia) (by lia) (by lia);have h4:(((m+1)*((O.mx b).toNat+1):Nat):Int)=((m:Int)+1)*(((O.mx b).toNat:Int)+1):=by simp
  lia
theorem Wq.lia {a:O} {h m l:Nat} (x:Wq a h m l):Wq (O.timesO a om) (h+1) ((m+1)*2) 1:=by
 refine x.times (b:=om) pQ (by decide) ?_;cases a with
 | z=>exact zero_le _
 | c e n r=>
   show(O.mulP e n r (.c (O.wh 1) 1 .z)).len<=1;rw[O.mulP_c,ybv (by decide)];exact yby _
theorem Wq.many {a:O} {h m l:Nat} (x:Wq a h m l) {n:Int} (hn:0<=n):Wq (O.timesO a (O.wh n)) (h+1) ((m+1)*(n.toNat+1)) l:=by
 have y:=Wb.wh hn;have hk:(O.timesO a (O.wh n)).len<=l:=by
  by_cases h0:n=0
  ·subst h0;rw[show O.wh 0=.z from rfl,O.times_z];exact zero_le _
  ·rw[O.wh_pos (by lia)];cases a with
   | z=>exact zero_le _
   | c e k r=>
     show(O.mulP e k r (.c .z n .z)).len<=l;rw[O.mulP_c,ycx rfl];exact x.ln
 have z:=x.times y.nf (Nat.le_succ_of_le y.dp) hk;refine⟨z.nf,z.dp,ybz z.hw (Nat.add_le_add_left y.hw _),ydx z.mx ?_,z.ln⟩;have h5:=y.mx;exact Int.ofNat_le.mpr (Nat.mul_le_mul_left _ (by lia))
theorem tN {hs:List (O×List α)} (h:qV 3 hs):(wc hs).NF/\(wc hs).dp<=3:=by
 cases hs with
 | nil=>exact⟨trivial,zero_le _⟩
 | cons p hs=>
   obtain⟨h1,h2,_⟩:=h p yaz;have y:=Wb.wh (n:=1) (by decide);exact⟨h1.plus y.nf,ybz (O.dp_plus p.1 (O.wh 1)) (max_le.mpr ⟨h2,y.dp⟩)⟩
theorem oA {hs:List (O×List α)} (h:qV 3 hs):(hpw hs).NF/\(hpw hs).dp<=4:=by
 obtain⟨h1,h2⟩:=tN h;refine⟨⟨h1,by decide,trivial,trivial⟩,?_⟩;show max ((wc hs).dp+1) 0<=4;lia
theorem zJ (p:O×List α) (hs:List (O×List α)):wc (p::hs)≠ .z:=by
 show O.plusO p.1 (O.wh 1)≠ .z;rw[O.wh_pos (by decide),O.plus_c];intro h;have:=congrArg O.len h;rw[O.len_app'] at this;simp[O.len] at this
theorem wd (a:O) (hs:List (O×List α)):(O.timesO a (hpw hs)).len<=match hs with
 | []=>a.len
 | _::_=>1:=by
 cases a with
 | z=>exact zero_le _
 | c e n r=>
   cases hs with
   | nil=>
     show(O.mulP e n r (.c .z 1 .z)).len<=_;rw[O.mulP_c,ycx rfl];exact yby _
   | cons p hs=>
     show(O.mulP e n r (.c (wc (p::hs)) 1 .z)).len<=1;rw[O.mulP_c,ybv (zJ p hs)];exact yby _
mutual
theorem Rq.wq:∀r:Rq α,r.nn->Wq r.wt r.hb r.mb r.lb
 | .set _ _,_=>Wq.wh (n:=1) (by decide)
 | .copy _ _,_=>Wq.wh (n:=1) (by decide)
 | .add _ _,_=>Wq.wh (n:=1) (by decide)
 | .less _,_=>Wq.wh (n:=1) (by decide)
 | .times _ rs,h=>by
   have:=((aU.wq rs h).plus (Wq.wh (n:=1) (by decide))).lia;exact this
 | .count rs n,h=>by
   have:=(((aU.wq rs h.1).plus (Wq.wh (n:=1) (by decide))).many h.2).plus (Wq.wh (n:=1) (by decide));exact this
 | .whl _ hs rs,h=>by
   obtain⟨h1,h2⟩:=oA h.2;have x:=(aU.wq rs h.1).plus (Wq.wh (n:=2) (by decide));have y:=(x.times h1 h2 (wd _ hs)).plus (Wq.wh (n:=1) (by decide));refine⟨y.nf,y.dp,?_,y.mx,?_⟩
   ·refine ybz y.hw ?_;show _<=rs.hb+O.hw (hpw hs)+2;lia
   ·have h3:=y.ln;cases hs with
    | nil=>
      have h4:=x.ln;simp only at h3;show _<=rs.lb+2;exact ybz h3 (by lia)
    | cons p hs=>exact h3
 | .bear _ _ rs o,h=>by
   have x:=(aU.wq rs h.1).plus (Wq.wh (n:=2) (by decide));have y:=(x.times h.2.2.1 h.2.2.2 (ybz (d3 _ o) (Nat.add_le_add_right x.ln _))).plus (Wq.wh (n:=1) (by decide));refine⟨y.nf,y.dp,?_,y.mx,y.ln⟩;refine ybz y.hw ?_;show _<=rs.hb+O.hw o+2;lia
theorem aU.wq:∀rs:aU α,rs.nn->Wq rs.wt rs.hb rs.mb rs.lb
 | .nil,_=>Wq.z
 | .cons r rs,h=>(aU.wq rs h.2).plus (Rq.wq r h.1)
end
theorem aU.rb {rs:aU α} (h:rs.nn):Wq rs.rnd (rs.hb+1) (rs.mb+1) (rs.lb+1):=(rs.wq h).plus (Wq.wh (n:=1) (by decide))
theorem aU.rbw {rs:aU α} (h:rs.nn):Wq rs.rnw (rs.hb+1) (rs.mb+2) (rs.lb+1):=(rs.wq h).plus (Wq.wh (n:=2) (by decide))
noncomputable def e9 (o:O) (l:List O):O:=l.foldl (λa x=>if cmp x a=1 then x else a) o
theorem pU:∀(l:List O) (o:O),e9 o l∈o::l/\∀x,x∈o::l->cmp x (e9 o l)<=0
 | [],o=>⟨yaz,λx hx=>by rw[mem_singleton.mp hx];show cmp o o<=0;rw[cmp_self];decide⟩
 | y::l,o=>by
   obtain⟨h1,h2⟩:=pU l (if cmp y o=1 then y else o);have e:e9 o (y::l)=e9 (if cmp y o=1 then y else o) l:=rfl;rw[e];have hm:=h2 _ yaz;refine⟨?_,λx hx=>?_⟩
   ·rcases mem_cons.mp h1 with h | h
    ·rw[h];split
     ·exact yay _ yaz
     ·exact yaz
    ·exact yay _ (yay _ h)
   ·have key:∀a b m:O,cmp a b<=0->cmp b m<=0->cmp a m<=0:=λa b m h3 h4=>by
     rcases cmp_range a b with e1 | e1 | e1
     ·rcases cmp_range b m with e2 | e2 | e2
      ·have:=bM a b m (by lia) (by lia);lia
      ·rw[←cmp_eq b m e2];exact h3
      ·lia
     ·rw[cmp_eq a b e1];exact h4
     ·lia
    rcases mem_cons.mp hx with rfl | hx
    ·refine key _ _ _ ?_ hm;split
     ·rename_i h;rw[aX,h];decide
     ·rw[cmp_self];decide
    ·rcases mem_cons.mp hx with rfl | hx
     ·refine key _ _ _ ?_ hm;split
      ·rw[cmp_self];decide
      ·rename_i h;rcases cmp_range x o with e1 | e1 | e1<;> lia
     ·exact h2 x (yay _ hx)
theorem qW {o k:O} {l ks:List O} (hd:cW (k::ks)) (hm:∀x,x∈k::ks↔x∈o::l):e9 o l=k:=by
 obtain⟨h1,h2⟩:=pU l o;have h3:=h2 k ((hm k).mp yaz);have h4:=(hm _).mpr h1;rcases mem_cons.mp h4 with h | h
 ·exact h
 ·have h5:=(pairwise_cons.mp hd).1 _ h;have h6:=aX (e9 o l) k;lia
noncomputable def insO (o:O):List O->List O
 | []=>[o]
 | x::l=>if cmp o x=0 then x::l else if cmp o x=1 then o::x::l else x::insO o l
theorem mem_insO {x o:O}:∀{l:List O},x∈insO o l↔x=o∨x∈l
 | []=>by simp[insO]
 | y::l=>by
   unfold insO;split
   ·rename_i h;have:=cmp_eq o y h;subst this;simp
   ·split
    ·simp
    ·rw[mem_cons,mem_cons,mem_insO (l:=l)];constructor
     ·rintro(h | h | h)
      ·exact .inr (.inl h)
      ·exact .inl h
      ·exact .inr (.inr h)
     ·rintro(h | h | h)
      ·exact .inr (.inl h)
      ·exact .inl h
      ·exact .inr (.inr h)
theorem cW.insO {o:O}:∀{l:List O},cW l->cW (insO o l)
 | [],_=>List.pairwise_singleton _ _
 | y::l,h=>by
   obtain⟨h1,h2⟩:=pairwise_cons.mp h;unfold Nm.insO;split
   ·exact h
   ·rename_i e0;split
    ·rename_i e1;refine pairwise_cons.mpr ⟨λx hx=>?_,h⟩;have e2:cmp y o<0:=by rw[aX,e1];decide
     rcases mem_cons.mp hx with rfl | hx
     ·exact e2
     ·exact bM x y o (h1 x hx) e2
    ·rename_i e1;refine pairwise_cons.mpr ⟨λx hx=>?_,cW.insO h2⟩;rcases mem_insO.mp hx with rfl | hx
     ·rcases cmp_range x y with e | e | e<;> lia
     ·exact h1 x hx
noncomputable def fb (l:List O):List O:=l.foldr insO []
theorem mem_descO {x:O}:∀{l:List O},x∈fb l↔x∈l
 | []=>Iff.rfl
 | y::l=>by
   show x∈insO y (fb l)↔_;rw[mem_insO,mem_descO (l:=l),mem_cons]
theorem cR:∀l:List O,cW (fb l)
 | []=>List.Pairwise.nil
 | _::l=>(cR l).insO
theorem cW.uniq:∀{l m:List O},cW l->cW m->(∀x,x∈l↔x∈m)->l=m
 | [],[],_,_,_=>rfl
 | [],y::m,_,_,h=>(nomatch (h y).mpr yaz)
 | x::l,[],_,_,h=>(nomatch (h x).mp yaz)
 | x::l,y::m,h1,h2,h=>by
   obtain⟨a1,a2⟩:=pairwise_cons.mp h1;obtain⟨b1,b2⟩:=pairwise_cons.mp h2;have e:x=y:=by
    rcases mem_cons.mp ((h x).mp yaz) with e | e
    ·exact e
    ·rcases mem_cons.mp ((h y).mpr yaz) with e' | e'
     ·exact e'.symm
     ·have p:=b1 x e;have q:=a1 y e';rw[aX] at q;lia
   subst e;have:=cW.uniq (l:=l) (m:=m) a2 b2 λz=>by
    constructor
    ·intro hz;rcases mem_cons.mp ((h z).mp (yay _ hz)) with rfl | e
     ·have:=a1 z hz;rw[cmp_self] at this;lia
     ·exact e
    ·intro hz;rcases mem_cons.mp ((h z).mpr (yay _ hz)) with rfl | e
     ·have:=b1 z hz;rw[cmp_self] at this;lia
     ·exact e
   rw[this]
noncomputable def cj (ms:List (O×α)) (o:O):List α:=(ms.filter λm=>decide (m.1=o)).map (·.2)
theorem fK (ms:List (O×α)) (m:O×α) (o:O):cj (ms++[m]) o=cj ms o++(if m.1=o then [m.2] else []):=by
 unfold cj;rw[List.filter_append,map_append]
 congr 1
 by_cases h:m.1=o
 ·rw[ycx h,List.filter_cons_of_pos (by simpa using h)];rfl
 ·rw[ybv h,List.filter_cons_of_neg (by simpa using h)];rfl
theorem jk {ms:List (O×α)} {o:O} (h:o∉ms.map (·.1)):cj ms o=[]:=by
 unfold cj;rw[List.filter_eq_nil_iff.mpr λm hm=>by simp only[decide_eq_true_eq];exact λe=>h (mem_map.mpr ⟨m,hm,e⟩)]
 rfl
noncomputable def cr (ms:List (O×α)):List (O×List α):=(fb (ms.map (·.1))).map λo=>(o,cj ms o)
theorem zK {ms:List (O×α)} {ks:List O} (h1:cW ks) (h2:∀o,o∈ks↔o∈ms.map (·.1)):(ks.map λo=>(o,cj ms o))=cr ms:=by
 unfold cr;rw[cW.uniq h1 (cR _) λx=>(h2 x).trans mem_descO.symm]
theorem wf (m:O×α) (ms:List (O×α)):wc (cr (m::ms))=O.plusO (e9 m.1 ((m::ms).map (·.1))) (O.wh 1):=by
 have hd:=cR ((m::ms).map (·.1));have hm:∀x,x∈fb ((m::ms).map (·.1))↔x∈m.1::(m::ms).map (·.1):=λx=>by
  rw[mem_descO,map_cons];simp
 unfold cr;cases e:fb ((m::ms).map (·.1)) with
 | nil=>exact absurd ((hm m.1).mpr yaz) (by rw[e];exact λh=>nomatch h)
 | cons k ks=>
   rw[e] at hd hm;rw[qW hd hm]
   rfl
theorem lg {ms:List (O×α)} {p:O×List α} (h:p∈cr ms):p.1∈ms.map (·.1):=by
 obtain⟨o,ho,rfl⟩:=mem_map.mp h;exact mem_descO.mp ho
end
section
variable {α:Type}
noncomputable def dU (g:α->Int):List α->Int
 | []=>0
 | n::ns=>g n+dU g ns
theorem lj {g:α->Int} (h:∀x,0<=g x):∀l:List α,0<=dU g l
 | []=>Int.le_refl _
 | n::ns=>by have:=lj h ns;have:=h n;simp only[dU];lia
theorem pV {g:α->Int} {B:Int} (h:∀x,g x<=B):∀l:List α,dU g l<=l.length*B
 | []=>by simp[dU]
 | n::ns=>by
   have:=pV h ns;have:=h n;simp only[dU,length_cons];rw[Int.natCast_succ,Int.add_mul];lia
noncomputable def bp (g:α->Int):List (O×List α)->O
 | []=> .z
 | p::hs=>if dU g p.2=0 then bp g hs else .c p.1 (dU g p.2) (bp g hs)
theorem fc (g:α->Int):∀hs:List (O×List α),(bp g hs).len<=hs.length
 | []=>yby _
 | p::hs=>by
   have:=fc g hs;unfold bp;split
   ·rw[length_cons];lia
   ·simp only[O.len,length_cons];lia
theorem pW {g:α->Int} {x:O}:∀{hs:List (O×List α)},(∀p,p∈hs->cmp p.1 x<0)->Lt x (bp g hs)
 | [],_=>trivial
 | p::hs,h=>by
   have ih:=pW (g:=g) (x:=x) (hs:=hs) λq hq=>h q (yay _ hq);unfold bp;split
   ·exact ih
   ·exact⟨h p yaz,ih⟩
theorem iK {g:α->Int} (hg:∀x,0<=g x):∀{hs:List (O×List α)},qV 3 hs->cW (hs.map (·.1))->NF (bp g hs)
 | [],_,_=>trivial
 | p::hs,h,hd=>by
   rw[map_cons] at hd;obtain⟨d1,d2⟩:=pairwise_cons.mp hd;have ih:=iK hg (hs:=hs) (λq hq=>h q (yay _ hq)) d2;have hs0:=lj hg p.2;unfold bp;split
   ·exact ih
   ·exact⟨(h p yaz).1,by lia,pW λq hq=>d1 q.1 (mem_map.mpr ⟨q,hq,rfl⟩),ih⟩
theorem kh {g:α->Int} {B:Int} {n:Nat} {M:Int} (hg:∀x,0<=g x/\g x<=B) (hM:0<=M):∀{hs:List (O×List α)},qV 3 hs->(∀p,p∈hs->p.2.length<=n/\mx p.1<=M)->(bp g hs).dp<=4/\hw (bp g hs)<=max hs.length 100/\mx (bp g hs)<=max M (n*B)
 | [],_,_=>by refine⟨zero_le _,zero_le _,?_⟩;simp only[bp,mx];lia
 | p::hs,h,hb=>by
   obtain⟨i1,i2,i3⟩:=kh hg hM (hs:=hs) (λq hq=>h q (yay _ hq)) (λq hq=>hb q (yay _ hq));obtain⟨h1,h2,h3⟩:=h p yaz;obtain⟨b1,b2⟩:=hb p yaz;have hl:=fc g hs;unfold bp;split
   ·exact⟨i1,by rw[length_cons];lia,i3⟩
   ·have hB:0<=B:=by
     cases hp:p.2 with
     | nil=>
       rename_i hne;rw[hp] at hne;exact absurd rfl hne
     | cons x _=>have:=hg x;lia
    have s1:=pV (λx=>(hg x).2) p.2;have s2:(p.2.length:Int)*B<=n*B:=Int.mul_le_mul_of_nonneg_right (by lia) hB;refine⟨by simp only[O.dp];lia,?_,?_⟩
    ·rw[hw_c,length_cons];lia
    ·rw[mx_c];lia
theorem iL (g:α->Int):∀{hs:List (O×List α)},qV 3 hs->(bp g hs).dp<=4
 | [],_=>zero_le _
 | p::hs,h=>by
   have ih:=iL g (hs:=hs) λq hq=>h q (yay _ hq);have h2:=(h p yaz).2.1;unfold bp;split
   ·exact ih
   ·simp only[O.dp];lia
structure CY (hs:List (O×List α)):Prop where
 ln:hs.length<=100
 nm:∀p,p∈hs->p.2.length<=100
 ds:cW (hs.map (·.1))
mutual
noncomputable def Rq.od:Rq α->Prop
 | .times _ rs=>rs.od
 | .count rs _=>rs.od
 | .whl _ hs rs=>CY hs/\rs.od
 | .bear _ hs rs _=>CY hs/\rs.od
 | _=>True
noncomputable def aU.od:aU α->Prop
 | .nil=>True
 | .cons r rs=>r.od/\rs.od
end
end
section
variable {α:Type}
theorem lp:∀{xs:List (Rq α)},(∀r,r∈xs->r.nn)->NF (bS xs)
 | [],_=>trivial
 | r::xs,h=>(lp λx hx=>h x (yay _ hx)).plus (r.wq (h r yaz)).nf
theorem mL:∀{xs ys:List (Rq α)},(∀r,r∈xs->r.nn)->(∀r,r∈ys->r.nn)->bS (xs++ys)=plusO (bS ys) (bS xs)
 | [],ys,_,_=>(tG _).symm
 | r::xs,ys,h,k=>by
   have hx:=λx hx=>h x (yay r hx);show plusO (bS (xs++ys)) r.wt=plusO (bS ys) (plusO (bS xs) r.wt);rw[mL hx k,ow (lp k) (lp hx) (r.wq (h r yaz)).nf]
noncomputable def Fp (g:α->Int):Rq α->List (Rq α)
 | .times b rs=>[.count rs (g b)]
 | .count rs n=>if n=0 then [] else rs.L++[.count rs (n-1)]
 | .whl b hs rs=>if g b=0 then [] else rs.L++[.bear b hs rs (bp g hs)]
 | .bear b hs rs _=>if g b=0 then [] else rs.L++[.bear b hs rs (bp g hs)]
 | _=>[]
end
noncomputable def iy (e:O) (n:Int):O:=if n=0 then .z else .c e n .z
theorem qX (x e:O) (n:Int):same x (iy e n)=if e=x then n else 0:=by
 unfold iy
 by_cases h:n=0
 ·rw[ycx h,h];simp[same]
 ·rw[ybv h,dS];simp[same]
theorem wg {e:O} {n:Int} (h:NF e) (hn:0<=n):NF (iy e n):=by
 unfold iy;split
 ·trivial
 ·exact⟨h,by lia,trivial,trivial⟩
section
variable {α:Type}
theorem mM (g:α->Int):∀a b:List α,dU g (a++b)=dU g a+dU g b
 | [],b=>by simp[dU]
 | x::a,b=>by rw[cons_append,dU,dU,mM g a b];lia
theorem kj {g:α->Int} (f:O->List α) (x:O):∀{L:List O},cW L->same x (bp g (L.map λo=>(o,f o)))=if x∈L then dU g (f x) else 0
 | [],_=>by simp[bp,same]
 | y::L,h=>by
   obtain⟨h1,h2⟩:=pairwise_cons.mp h;have ih:=kj (g:=g) f x h2;have hy:y∉L:=λhm=>by have:=h1 y hm;rw[cmp_self] at this;lia
   rw[map_cons];unfold bp
   by_cases e:y=x
   ·subst e;rw[ybv hy] at ih;rw[ycx yaz];split
    ·rename_i h0;rw[ih];exact h0.symm
    ·rw[dS,ycx rfl,ih];exact Int.add_zero _
   ·have:(x∈y::L)↔x∈L:=by
     rw[mem_cons];exact⟨λh=>h.resolve_left λz=>e z.symm,.inr⟩
    simp only[this];split
    ·exact ih
    ·rw[dS,ybv e,ih];lia
theorem mO (g:α->Int) (ms:List (O×α)) (x:O):same x (bp g (cr ms))=dU g (cj ms x):=by
 unfold cr;rw[kj (λo=>cj ms o) x (cR _)];split
 ·rfl
 ·rename_i h;rw[jk (λz=>h (mem_descO.mpr z))]
  rfl
theorem tO (ms:List (O×α)):cW ((cr ms).map (·.1)):=by
 unfold cr;rw[map_map];show cW (List.map (λo=>o) (fb _));rw[List.map_id'];exact cR _
theorem iM {ms:List (O×α)} (h:∀m,m∈ms->m.1.NF/\m.1.dp<=3/\O.hw m.1<=100):qV 3 (cr ms):=λp hp=>by
 obtain⟨m,hm,e⟩:=mem_map.mp (lg hp);rw[←e];exact h m hm
theorem qY {g:α->Int} (hg:∀x,0<=g x) {ms:List (O×α)} {m:O×α} (h:∀y,y∈ms++[m]->y.1.NF/\y.1.dp<=3/\O.hw y.1<=100):bp g (cr (ms++[m]))=mergeO (bp g (cr ms)) (iy m.1 (g m.2)):=by
 have n1:=iK hg (iM h) (tO (ms++[m]));have n2:=iK hg (iM λy hy=>h y (mem_append_left _ hy)) (tO ms);have n3:=wg (h m (by simp)).1 (hg m.2);refine jh n1 (n2.merge n3) λx=>?_;rw[mI,mO,mO,qX,fK,mM]
 congr 1
 split
 ·simp[dU]
 ·rfl
end
theorem wj {α:Type}:∀{rs:aU α} {k:Nat},rs.dt<=k->∀r,r∈rs.L->r.dt<=k
 | .nil,_,_,r,h=>(nomatch h)
 | .cons r0 rs,k,x,r,h=>by
   have hx:=max_le.mp (show max r0.dt rs.dt<=k from x);rcases mem_cons.mp h with rfl | h
   ·exact hx.1
   ·exact wj hx.2 r h
theorem zL {α:Type} {g:α->Int}:∀{r:Rq α},r.dt<=k->∀x,x∈Fp g r->x.dt<=k
 | .set _ _,_,x,hx=>(nomatch hx)
 | .copy _ _,_,x,hx=>(nomatch hx)
 | .add _ _,_,x,hx=>(nomatch hx)
 | .less _,_,x,hx=>(nomatch hx)
 | .times b rs,h,x,hx=>by rw[mem_singleton.mp hx];exact h
 | .count rs n,h,x,hx=>by
   have hx:x∈(if n=0 then [] else rs.L++[Rq.count rs (n-1)]):=hx;split at hx
   ·cases hx
   ·rcases mem_append.mp hx with hx | hx
    ·exact wj (ybz (le_succ _) h) x hx
    ·rw[mem_singleton.mp hx];exact h
 | .whl b hs rs,h,x,hx=>by
   have hx:x∈(if g b=0 then [] else rs.L++[Rq.bear b hs rs (bp g hs)]):=hx;split at hx
   ·cases hx
   ·rcases mem_append.mp hx with hx | hx
    ·exact wj (ybz (le_succ _) h) x hx
    ·rw[mem_singleton.mp hx];exact h
 | .bear b hs rs o,h,x,hx=>by
   have hx:x∈(if g b=0 then [] else rs.L++[Rq.bear b hs rs (bp g hs)]):=hx;split at hx
   ·cases hx
   ·rcases mem_append.mp hx with hx | hx
    ·exact wj (ybz (le_succ _) h) x hx
    ·rw[mem_singleton.mp hx];exact h
section
variable {α:Type}
end
section
variable {α:Type}
noncomputable def e4:List Int:=[4,3,2,1,0]
end
end Nm
namespace L2
open PySem PySem.Spec PyProof.Rows Nm
noncomputable def ao:O->List W
 | .z=>[]
 | .c e n r=> .tup [.tup (ao e),.int n]::ao r
noncomputable def lR (o:O):W:= .tup (ao o)
noncomputable def fL (e:O) (n:Int):W:= .tup [lR e,.int n]
theorem oC:ao .z=[]:=rfl
theorem bJ (e:O) (n:Int) (r:O):ao (.c e n r)=fL e n::ao r:=rfl
theorem aQ:∀a:O,(ao a).length=a.len
 | .z=>rfl
 | .c e n r=>by rw[bJ,length_cons,aQ r];rfl
theorem tP {e:O} {n:Int} (h:W.flats (ao e)=true):(fL e n).flat=true:=by
 simp[fL,lR,W.flat,W.flats,h]
theorem ca:∀a:O,W.flats (ao a)=true
 | .z=>by simp[ao,W.flats]
 | .c e n r=>by
   rw[bJ];simp[W.flats,tP (ca e),ca r]
theorem tQ (a:O):(lR a).flat=true:=by simp[lR,W.flat,ca a]
theorem d7:∀a:O,W.deps (ao a)<=2*a.dp
 | .z=>by simp[ao,W.deps]
 | .c e n r=>by
   have h1:=d7 e;have h2:=d7 r;rw[bJ];simp only[W.deps,fL,lR,W.dep,O.dp];lia
theorem wk (a:O):(lR a).dep<=2*a.dp+1:=by
 have:=d7 a;simp only[lR,W.dep];lia
theorem iN:∀a b:O,W.eqs (ao a) (ao b)=decide (a=b)
 | .z,.z=>by simp[ao,W.eqs]
 | .z,.c _ _ _=>by simp[ao,W.eqs]
 | .c _ _ _,.z=>by simp[ao,W.eqs]
 | .c e n r,.c e' n' r'=>by
   have h1:=iN e e';have h2:=iN r r';simp only[ao,W.eqs,W.eq_tup,W.eq_int,h1,h2,Bool.and_true];rw[Bool.eq_iff_iff];simp only[Bool.and_eq_true,decide_eq_true_eq,beq_iff_eq,O.c.injEq];constructor
   ·rintro⟨⟨a,b⟩,c⟩;exact⟨a,b,c⟩
   ·rintro⟨a,b,c⟩;exact⟨⟨a,b⟩,c⟩
theorem oE (a b:O):(lR a).eq (lR b)=decide (a=b):=iN a b
theorem zM (e e':O) (n n':Int):(fL e n).eq (fL e' n')=(decide (e=e')&&decide (n=n')):=by
 have:=oE e e';simp only[fL,W.eq_tup,W.eq_int,W.eqs,this,Bool.and_true]
 congr 1
theorem lq (a b:O):(W.tup (ao a)).eq (W.tup (ao b))=decide (a=b):=oE a b
theorem cy (a:O):(W.tup (ao a)).flat=true:=tQ a
theorem dP (a:O):(W.tup (ao a)).dep<=2*a.dp+1:=wk a
theorem mP {a b:O} (h:ao a=ao b):a=b:=by
 have:=iN a b;rw[h,W.eqs_refl _ (ca b)] at this;simpa using this.symm
theorem fe:∀a b:O,ao (a.app b)=ao a++ao b
 | .z,b=>by simp[O.app,ao]
 | .c e n r,b=>by
   show ao (.c e n (r.app b))=_;rw[bJ,bJ,fe r b]
   rfl
theorem D4 {α:Type} (x:α) (xs:List α):dM (x::xs) 0=some x:=by
 simp[dM,si]
theorem D5 {α:Type} (x y:α) (xs:List α):dM (x::y::xs) 1=some y:=by
 have h:(1:Int)<((xs.length:Int)+1+1):=by lia
 simp[dM,si,h]
theorem tR (i:Int):(W.int i).flat=true:=by simp[W.flat]
theorem wm (i:Int):(W.int i).dep=0:=by simp[W.dep]
theorem oF (i j:Int):(W.int i).eq (W.int j)=(i==j):=rfl
theorem tS:(W.tup []).flat=true:=by simp[W.flat,W.flats]
theorem wo:(W.tup []).dep=1:=by simp[W.dep,W.deps]
theorem dG (a:O):(W.tup (ao a)).eq (W.tup [])=decide (a=.z):=oE a .z
theorem D6 (i j:Int):(i==j)=decide (i=j):=by
 by_cases h:i=j<;> simp[h]
theorem aC.done {G:Gp} {q:Gp->Prop} (h:q G):∃G0,aC G0 G/\q G0:=⟨G,aC.refl G,h⟩
theorem cm {C:Gp->Prop} {g:WG} {tb:WS} {d:dm} (Iv:List W->cT->Gp->Prop) (stop:∀τ G,Iv [] τ G->C G/\d.nx τ G)
 (step:∀w ws τ G (k:cT->Gp->Prop),Iv (w::ws) τ G->(∀τ3 G3,Iv ws τ3 G3->k τ3 G3)->C G/\g w τ G λτ2 G2=>tb { d with nx:=k,ct:=k,bk:=d.nx } τ2 G2):∀ws τ G,Iv ws τ G->jc C g tb d ws τ G
 | [],τ,G,h=>stop τ G h
 | w::ws,τ,G,h=>step w ws τ G _ h λτ3 G3 h3=>cm Iv stop step ws τ3 G3 h3
theorem jl:∀(a:O) (i:Nat),(ao a)[i]?=(a.getP i).map λp=>fL p.1 p.2
 | .z,i=>by simp[ao,O.getP]
 | .c e n r,0=>by rw[bJ];rfl
 | .c e n r,i+1=>by
   rw[bJ];simpa[O.getP] using jl r i
theorem eM {a:O} {e:O} {n:Int} (h:a.getP i=some (e,n)):dM (ao a) (i:Int)=some (fL e n):=bQ (by rw[jl,h];rfl)
theorem gW:∀(i:Nat) (a:O),(ao a).drop i=ao (O.dropO i a)
 | 0,a=>rfl
 | i+1,.z=>by simp[ao,O.dropO]
 | i+1,.c e n r=>by
   rw[bJ];simpa[O.dropO] using gW i r
theorem gX:∀(i:Nat) (a:O),(ao a).take i=ao (O.takeO i a)
 | 0,a=>by simp[O.takeO,ao]
 | i+1,.z=>by simp[ao,O.takeO]
 | i+1,.c e n r=>by
   rw[bJ,List.take_succ_cons,gX i r]
   rfl
theorem tT (xs:List W) (k:Nat):cN xs none (some (k:Int))=xs.take k:=by
 unfold cN;rw[HT.sIx_none,HT.sIx_nat,List.drop_zero,Nat.sub_zero];rcases Nat.le_total k xs.length with h | h
 ·rw[Nat.min_eq_left h]
 ·rw[Nat.min_eq_right h,List.take_length,take_of_length_le h]
theorem d9 (xs:List W) (k:Nat):cN xs (some (k:Int)) none=xs.drop k:=by
 unfold cN;rw[HT.sIx_none,HT.sIx_nat];rcases Nat.le_total k xs.length with h | h
 ·rw[Nat.min_eq_left h];exact take_of_length_le (by rw[length_drop];lia)
 ·rw[Nat.min_eq_right h,List.drop_length,List.drop_of_length_le h];simp
theorem wu (xs:List W):cN xs none (some (-1))=xs.take (xs.length-1):=by
 unfold cN;have e:HT.sIx xs.length xs.length (some (-1))=xs.length-1:=by
  show(if (-1:Int)<0 then ((-1:Int)+(xs.length:Int)).toNat else min (-1:Int).toNat xs.length)=_;rw[ycx (by lia)];lia
 rw[HT.sIx_none,e,List.drop_zero,Nat.sub_zero]
theorem kl (xs:List W):cN xs (some (-1)) none=xs.drop (xs.length-1):=by
 unfold cN;have e:HT.sIx xs.length 0 (some (-1))=xs.length-1:=by
  show(if (-1:Int)<0 then ((-1:Int)+(xs.length:Int)).toNat else min (-1:Int).toNat xs.length)=_;rw[ycx (by lia)];lia
 rw[HT.sIx_none,e];exact take_of_length_le (by rw[length_drop];lia)
theorem km:∀a:O,O.takeO (a.len-1) a=O.init a
 | .z=>rfl
 | .c _ _ .z=>rfl
 | .c e n (.c e' n' r')=>by
   have h:=km (.c e' n' r');simp only[O.len,Nat.add_sub_cancel] at h ⊢;rw[O.takeO,h];simp[O.init]
theorem tU (a:O):cN (ao a) none (some (-1))=ao (O.init a):=by rw[wu,aQ,gX,km]
theorem tV:∀{a:O},a≠ .z->∃e n,O.last a=.c e n .z/\a.getP (a.len-1)=some (e,n)
 | .z,h=>absurd rfl h
 | .c e n .z,_=>⟨e,n,rfl,rfl⟩
 | .c e n (.c e' n' r'),_=>by
   obtain⟨x,m,h1,h2⟩:=tV (a:= .c e' n' r') (by simp);refine⟨x,m,?_,?_⟩
   ·rw[←h1];simp[O.last]
   ·simp only[O.len,Nat.add_sub_cancel] at h2 ⊢;rw[←h2];simp[O.getP]
theorem mQ {xs:List W} {w:W} (h:xs[xs.length-1]?=some w):dM xs (-1)=some w:=by
 have hl:xs.length-1<xs.length:=(List.getElem?_eq_some_iff.mp h).1;unfold dM si;rw[ybv (by lia),ycx (by lia)];show xs[((-1:Int)+(xs.length:Int)).toNat]?=some w;rw[←h]
 congr 1
 lia
theorem gj {a:O} {e:O} {n:Int} (h:a.getP (a.len-1)=some (e,n)):dM (ao a) (-1)=some (fL e n):=mQ (by rw[aQ,jl,h];rfl)
theorem gk:∀a b:O,W.ords (ao a) (ao b)=true/\W.lts (ao a) (ao b)=decide (O.cmp a b<0)
 | .z,.z=>by simp[ao,W.ords,W.lts,O.cmp]
 | .z,.c _ _ _=>by simp[ao,W.ords,W.lts,O.cmp]
 | .c _ _ _,.z=>by simp[ao,W.ords,W.lts,O.cmp]
 | .c e n r,.c e' n' r'=>by
   obtain⟨o1,l1⟩:=gk e e';obtain⟨o2,l2⟩:=gk r r';rw[bJ,bJ,W.ords,W.lts,zM]
   by_cases h:(decide (e=e')&&decide (n=n'))=true
   ·rw[ycx h,ycx h];have h':e=e'/\n=n':=by simpa using h
    obtain⟨rfl,rfl⟩:=h';refine⟨o2,?_⟩;rw[l2,O.cmp,ybv (by rw[O.cmp_self];simp),ybv (by lia),ybv (by lia)]
   ·rw[ybv h,ybv h];have ee:(W.tup (ao e)).eq (W.tup (ao e'))=decide (e=e'):=lq e e';unfold fL lR;rw[W.ord,W.lt,W.ords,W.lts,ee]
    by_cases q:e=e'
    ·subst q;rw[ycx (by simp),ycx (by simp),W.ords,W.lts];have hn:¬n=n':=λz=>h (by simp[z]);rw[oF,ybv (by simpa using hn),ybv (by simpa using hn),W.ord,W.lt];refine⟨rfl,?_⟩;rw[O.cmp,ybv (by rw[O.cmp_self];simp)]
     by_cases k:n<n'
     ·rw[ycx k];simp[k]
     ·rw[ybv k,ycx (by lia)];simp[k]
    ·rw[ybv (by simpa using q),ybv (by simpa using q),W.ord,W.lt];refine⟨o1,?_⟩;rw[l1,O.cmp,ycx (λz=>q (O.cmp_eq _ _ z))]
theorem kn (a:O) (h:a.dp<=70):W.deps (ao a)<=149:=by
 have:=d7 a;lia
noncomputable def Df (K:yax) (mg:ydv) (x:Str) (st:Stmt) (ps:List Str):Prop:=∃(f:Addr) (fd:FuncData),cz K x x st f fd/\bP K fd ps []/\mg x=some (.ref f)
theorem Df.fx {sp:bV} (D:Df K mg x st ps) (h:∀(f:Addr) (fd:FuncData),cz K x x st f fd->cc P w K mg base k f fd ps sp):Fx P w K mg base x ps k sp:=by
 obtain⟨f,fd,F,b,m⟩:=D;exact⟨f,fd,h f fd F,m,F.kp,b⟩
theorem zN {H:Hp} {ns:List Int} (hO:sk H) (hS:cZ K H a (ns.map V.int)):xN K H a ns:=by
 rcases hS with(h | h) | h
 ·rcases hO a with z | ⟨o,xs,z⟩
  ·rw[z] at h;cases h
  ·rw[z] at h;cases h
 ·exact .inl h
 ·exact .inr h
theorem jm {i j:Int} (h:0<j):0<=i%j/\i%j<j:=⟨Int.emod_nonneg _ (by lia),Int.emod_lt_of_pos _ h⟩
theorem wv {ns:List Int} {i:Int} (h0:0<=i) (h1:i<ns.length):∃n,dM ns i=some n:=by
 have hl:i.toNat<ns.length:=by lia
 have e:((i.toNat:Nat):Int)=i:=Int.toNat_of_nonneg h0;have q:=bQ (ybw hl);rw[e] at q;exact⟨_,q⟩
theorem zO (j:Int):yH 10 j=(0<=j/\j<=1000000):=by
 unfold yH;have:(10:Int).natAbs<2^64:=by decide
 simp[this]
theorem aF {t u:WS} {d:dm} {τ:cT} {G:Gp} (h:∀U:WS,U=u->t { d with nx:=U d } τ G):sA t u d τ G:=h u rfl
theorem aH {G:Gp} {a b:Addr} {g g':GO} (h:G b=some g') (ha:G a=none):aK G a g b=some g':=by
 rw[ap (λz=>by rw[z,ha] at h;cases h)];exact h
theorem jn (p:O->Int->Bool):∀a:O,(a.filt p).len<=a.len
 | .z=>yby _
 | .c e n r=>by
   have:=jn p r;rw[O.filt_c];split<;> simp only[O.len]<;> lia
theorem ww (G:Gp) (i:Int):sK G (.int i)=some "int":=rfl
theorem zP (G:Gp) (b:Bool):sK G (.bl b)=some "bool":=rfl
theorem wz (G:Gp) (ws:List W):sK G (.tup ws)=some "tuple":=rfl
theorem wA (G:Gp):sK G .non=some "NoneType":=rfl
theorem wB:fH "int" "int"=true:=by decide
theorem wD:fH "int" "bool"=false:=by decide
theorem wE:fH "int" "tuple"=false:=by decide
theorem wF:fH "bool" "int"=true:=by decide
theorem wG:fH "bool" "bool"=true:=by decide
theorem wH:fH "bool" "tuple"=false:=by decide
theorem wI:fH "tuple" "tuple"=true:=by decide
theorem wJ:fH "tuple" "int"=false:=by decide
theorem wK:fH "tuple" "bool"=false:=by decide
theorem pX:fH "list" "list"=true:=by decide
theorem wL:fH "NoneType" "tuple"=false:=by decide
theorem zQ:((0:Nat):Int)=0:=rfl
theorem zR:((1:Nat):Int)=1:=rfl
theorem zS:((2:Nat):Int)=2:=rfl
theorem zT:((3:Nat):Int)=3:=rfl
theorem oG {c:WT} {tb:WS} {d:dm} {τ:cT} {G:Gp} (I:Nat->cT->Gp->Prop) (h0:∃m,I m τ G)
 (h:∀m τ G,I m τ G->∀B:WS,B=tb->c τ G λb G1=>if b=true then ∃N:cT->Gp->Prop,(∀τ1 G1,N τ1 G1->∃m1,m1<m/\I m1 τ1 G1)/\B { d with nx:=N,ct:=N,bk:=d.nx } τ G1 else d.nx τ G1):sB c tb d τ G:=
 ⟨I,h0,λm τ G hI=>h m τ G hI tb rfl⟩
theorem D7 {α:Type} (x y v:α) (xs:List α):dM (x::y::v::xs) 2=some v:=bQ (j:=2) rfl
theorem mR (n i:Nat) (h:i<n):(rH n).drop i=.int (i:Int)::(rH n).drop (i+1):=by
 have hl:i<(rH n).length:=by simp[rH,h]
 rw[List.drop_eq_getElem_cons hl]
 congr 1
 simp[rH]
theorem pY {C:Gp->Prop} {g:WG} {tb:WS} {d:dm} {τ:cT} {G:Gp} (n:Nat) (Iv:Nat->cT->Gp->Prop) (h0:Iv 0 τ G) (stop:∀τ G,Iv n τ G->C G/\d.nx τ G)
 (step:∀(i:Nat) τ G (k:cT->Gp->Prop),i<n->Iv i τ G->(∀τ3 G3,Iv (i+1) τ3 G3->k τ3 G3)->C G/\g (.int (i:Int)) τ G λτ2 G2=>tb { d with nx:=k,ct:=k,bk:=d.nx } τ2 G2):jc C g tb d (rH n) τ G:=by
 refine cm (λws τ G=>∃i,i<=n/\ws=(rH n).drop i/\Iv i τ G) ?_ ?_ _ _ _ ⟨0,zero_le _,rfl,h0⟩
 ·rintro τ G ⟨i,hi,hw,hI⟩;have:i=n:=by
   rcases lt_or_ge i n with k | k
   ·rw[mR n i k] at hw;cases hw
   ·lia
  subst this;exact stop τ G hI
 ·rintro w ws τ G k ⟨i,hi,hw,hI⟩ hk;have hlt:i<n:=by
   rcases lt_or_ge i n with j | j
   ·exact j
   ·rw[List.drop_of_length_le (by simp[rH];assumption)] at hw;cases hw
  rw[mR n i hlt] at hw;cases hw;exact step i τ G k hlt hI λτ3 G3 h3=>hk τ3 G3 ⟨i+1,hlt,rfl,h3⟩
noncomputable def oH (Pd:O->Int->Prop):O->Prop
 | .z=>True
 | .c e n r=>Pd e n/\oH Pd r
theorem oH.imp {Pd Pd':O->Int->Prop} (h:∀e n,Pd e n->Pd' e n):∀{a:O},oH Pd a->oH Pd' a
 | .z,_=>trivial
 | .c _ _ _,k=>⟨h _ _ k.1,oH.imp h k.2⟩
theorem pZ:∀a:O,oH (λe _=>e.dp<a.dp/\O.hw e<=O.hw a) a
 | .z=>trivial
 | .c e n r=>⟨by rw[O.hw_c];simp only[O.dp];lia,(pZ r).imp λx m h=>by rw[O.hw_c];simp only[O.dp];lia⟩
noncomputable def mapP (p:O->Int->Bool) (f:O->Int->W):O->List W
 | .z=>[]
 | .c e n r=>if p e n then f e n::mapP p f r else mapP p f r
theorem jo {C:Gp->Prop} {tt:WT} {te:WE} {i:Nat} {τ0:cT} {G:Gp} {q:List W->Gp->Prop} {Pd:O->Int->Prop} (p:O->Int->Bool) (f:O->Int->W) (hC:C G):∀{a:O} {acc:List W} {τ:cT},oH Pd a->
 (∀e n,Pd e n->∀k:Bool->Gp->Prop,k (p e n) G->tt (τ0.set i (some (fL e n))) G k)->(∀e n,Pd e n->p e n=true->∀k:W->Gp->Prop,k (f e n) G->te (τ0.set i (some (fL e n))) G k)->acc.length+a.len<=100000->(∀x,τ.set i x=τ0.set i x)->
 q (acc++mapP p f a) G->cu C (cV i) tt te (ao a) τ G acc q
 | .z,acc,τ,_,_,_,_,_,hq=>⟨hC,by simpa[mapP] using hq⟩
 | .c e n r,acc,τ,hP,ht,he,hl,hτ,hq=>by
   rw[bJ];refine⟨hC,?_⟩;show tt (τ.set i (some (fL e n))) G _;rw[hτ];refine ht e n hP.1 _ ?_;have hτ':∀x,(τ0.set i (some (fL e n))).set i x=τ0.set i x:=λx=>set_set ..;simp only[O.len] at hl;rw[mapP] at hq;cases hp:p e n with
   | true=>
     rw[ycx rfl];refine he e n hP.1 hp _ ⟨by lia,?_⟩;rw[hp,ycx rfl] at hq;exact jo p f hC hP.2 ht he (by rw[length_append];simp;lia) hτ' (by simpa using hq)
   | false=>
     rw[ybv ycy];rw[hp,ybv ycy] at hq;exact jo p f hC hP.2 ht he (by lia) hτ' hq
noncomputable def ya:Int:=(10^172)^7
theorem p5 {i:Int} (h0:0<=i) (h:i<=ya):i.natAbs<2^4000:=by
 have h2:ya<((2^4000:Nat):Int):=by decide+kernel
 generalize (2:Nat)^4000=B at h2 ⊢;lia
theorem D8 {i j:Int} (h1:0<=i) (h2:i<=ya) (h3:0<=j) (h4:j<=ya):BG i j:=⟨p5 h1 h2,p5 h3 h4⟩
end L2
namespace Nm
namespace O
end O
end Nm
namespace L2
open PySem PySem.Spec PyProof.Rows Nm
section
variable {P:Program} {w:World} {K:yax} {mg:ydv} {base:Heap} {x:Str} {st:Stmt} {ps:List Str} {k:Nat} {sp:bV}
end
open PySem PySem.Spec PyProof.Rows PySem.W
@[irreducible] def oI (i:Int):Prop:=i.natAbs<2^1048576
theorem jp:∀{ns:List Int} {n:Int},n∈ns->WData.weight (.int n)<=WData.weightAll (ns.map WData.int)
 | m::ns,n,h=>by
   rw[map_cons,WData.weightAll];rcases mem_cons.mp h with rfl | h
   ·lia
   ·have:=jp h;lia
theorem wM {n:Int} (h:WData.weight (.int n)<=1048576):oI n:=by
 unfold WData.weight at h;unfold oI;generalize 1048576=a at h ⊢
 by_cases h0:n=0
 ·subst h0;exact Nat.two_pow_pos a
 ·rw[ybv (by simpa using h0)] at h;have:n.natAbs≠0:=by lia
  exact(Nat.log2_lt this).mp (by assumption)
theorem tW {ns:List Int} (h:WData.layableAll [.list (ns.map WData.int)]=true):∀n,n∈ns->oI n:=by
 intro n hn;have h1:WData.layable (.list (ns.map WData.int))=true:=(all_eq_true.mp h) _ yaz;have h2:WData.weight (.list (ns.map WData.int))<=2^20:=by
  have:=(Bool.and_eq_true_iff.mp h1).2;exact of_decide_eq_true this
 have h3:WData.weight (.list (ns.map WData.int))=WData.weightAll (ns.map WData.int):=by rw[WData.weight]
 have:=jp hn;exact wM (by lia)
@[irreducible] def Wide (i:Int):Prop:=i.natAbs<2^1048577
set_option exponentiation.threshold 500 in
noncomputable def BV (i j:Int):Prop:=(Wide i/\j.natAbs<2^4000)∨(i.natAbs<2^4000/\Wide j)
noncomputable def ko (i j:Int):Prop:=pD i j∨BV i j
theorem ko.ok {i j:Int} (h:ko i j):IntMulOk i j:=by
 have key:∀{x y:Int},Wide x->y.natAbs<2^4000->¬(((Builtin.Int.intBits x+Builtin.Int.intBits y:Int)) > bitsLine):=λ{x y} h1 h2=>by
  unfold Wide at h1;have b1:=PyProof.Rows.intBits_le h1;have b2:=PyProof.Rows.intBits_le h2;have hb:(1053000:Int)<=bitsLine:=by decide
  lia
 rcases h with h | ⟨h1,h2⟩ | ⟨h1,h2⟩
 ·exact h.ok
 ·have:=key h1 h2;unfold IntMulOk Builtin.Int.intTooBig;simp[this]
 ·have:=key h2 h1;rw[Int.add_comm] at this;unfold IntMulOk Builtin.Int.intTooBig;simp[this]
section
variable {X:Cx}
theorem wN:ik X (binaryOp .Mult) (rI ko λi j=> .int (i*j)):=CT λ_ _ _ _ _ _ _ hc q=>mul_int q hc.ok
end
noncomputable def gY:bV:=λws _ q _=>∃ns:List Int,ws=[.scr ns]/\ns.length<=63/\(∀n,n∈ns->oI n)/\∀G',q (.bl true) G'
theorem oJ {H:Hp} {ns:List Int} (hO:sk H) (hS:cZ K H a (ns.map V.int)) (hl:ns.length<=63) (hc:∀n,n∈ns->oI n):vF K gY [.ref a] H (λv _=>v=.bl true) λ_ _ _=>False:=
 ⟨[.scr ns],λ_=>none,λw _=>w=.bl true,λ_ _=>False,.cons (.scr (zN hO hS)) .nil,λ_ _ e=>(by cases e),⟨ns,rfl,hl,hc,λ_=>rfl⟩,λv H1 w G1 _ r _ e=>(by subst e;cases r;rfl),λ_ _ _ _ _ _ z=>z⟩
theorem D9 {l:OpenLaw} {n:Nat} {q:Program} {loose:List Str} {XP:(Str->Option Value)->Heap->Prop} {YP:World->Heap->Prop} {d:DefRec}
 (hn:l.most=some n) (hdf:d.params.defaults=[])
 (call:∀(w:World) (s₀ s₁:Shared) (mg mb:ydv) (fa:Addr) (a:Addr) (vs:ydw) (ns:List Int),
   Ground q loose [] XP w s₀ mg mb s₁.heap->YP w s₁.heap->mg d.name=some (.ref fa)->
   s₁.heap.get? a=some { cls:= .type "list",data:= .seq vs.toArray }->IntsAre vs ns->ns.length<=n->(∀n,n∈ns->oI n)->s₁.gens= #[]->
   codeAny (model l.prog w) callerA (.call (.ref fa) ⟨[.ref a],[]⟩) (λr s'=>r=.ok (.ret (.bool true))/\OldK s₁.heap s'.heap/\s'.os=s₁.os/\AllBare s'.gens) s₁):
 WalkO q loose XP YP l.row.toRowW d [] (λf vs=>PySem.call f vs):=by
 intro w s₀ s₁ mg mb G Y fa o pm cd doc dV kV ho hd hcd hD hmg hg args vals as hpre hlay hrd hwl hlo;obtain rfl:dV=.none:=Dflts.none hD hdf;obtain rfl:kV=.none:=Dflts.noKw hD;obtain⟨a,vs,ns,ea,rfl,hobj,hints,hlen⟩:=Att.script_of hn hpre hwl;subst ea;refine enter_call (codeAny_mono (call w s₀ s₁ mg mb fa a vs ns G Y hmg hobj hints hlen (tW hlay) hg) λr s' hq=>?_);obtain⟨rfl,h2,h3,h4⟩:=hq;exact⟨.inl ⟨.bool true,.bool true,[],rfl,λ_=>rfl,.bool true,Att.post_true l _,λ_=>⟨List.Pairwise.nil,λ_ hm=>(nomatch hm)⟩⟩,h2,h3,h4⟩
theorem walk_ofC {l:PySem.W.OpenLaw} {n k:Nat} {q:Program} {loose:List Str} {XP:(Str->Option Value)->Heap->Prop} {YP:World->Heap->Prop} {d:DefRec} {K:Params->yax} {CX:World->nS} {sp:World->Sp}
 (hn:l.most=some n) (hn2:n<=sizeLine) (hdf:d.params.defaults=[]) (hr:av k callerA)
 (hY:∀(w:World) (h:Heap),YP w h->(K w.params).In h)
 (F:∀(w:World) (mg:ydv) (fa:Addr) (h:Heap),(K w.params).In h->h.Ns mainGlobals mg->mg d.name=some (.ref fa)->
   ∃fd:FuncData,(∀(s:Shared) (u:Value),BindsTo s fd ⟨[u],[]⟩ [(x,u)])/\
    ∀base:Heap,(K w.params).In base->base.Ns mainGlobals mg->dJ l.prog w (K w.params) mg base (CX w) k fa fd [x] (sp w))
 (hsp:∀(w:World) (H:Hp) (a:Addr) (ns:List Int),ns.length<=n->(∀n,n∈ns->oI n)->sk H->cZ (K w.params) H a (ns.map V.int)->sp w [.ref a] H (λv _=>v=.bl true) λ_ _ _=>False)
 (hCX:∀(w:World) (H:Hp) (s:Shared) (e:Value) (s':Shared),CX w [] H s (λ_ _ _=>False) e s'->False):
 PySem.W.WalkO q loose XP YP l.row.toRowW d [] (λf vs=>PySem.call f vs):=by
 refine D9 hn hdf λw s₀ s₁ mg mb fa a vs ns G Y hmg hobj hints hlen hc hg=>?_;have KX:=hY w _ Y;obtain⟨fd,hb,hF⟩:=F w mg fa _ KX G.T.g hmg;exact so KX G.T.g G.T.b G.T.builtins G.T.nolimit hg hobj hints (ybz hlen hn2) hr hF hb (λH hO hS=>hsp w H a ns hlen hc hO hS) λH e s'=>hCX w H s₁ e s'
open PySem PySem.Spec PyProof.Rows
theorem aV.rep {K:yax} {H:Hp} {ws:List W} {vs:List V} (r:aV K H ws vs):∀k:Nat,aV K H (List.replicate k ws).flatten (List.replicate k vs).flatten
 | 0=> .nil
 | k+1=>by
   rw[replicate_succ,flatten_cons,replicate_succ,flatten_cons];exact r.append (aV.rep r k)
section
variable {X:Cx}
noncomputable def yb:W2:=λx y G q=>match x,y with
 | .int i,.int j=>ko i j/\q (.int (i*j)) G
 | .ref a,.int k=>∃xs,G a=some (.lst xs)/\0<=k/\k<=100000/\xs.length*k.toNat<=100000/\∀p,G p=none->q (.ref p) (aK G p (.lst (List.replicate k.toNat xs).flatten))
 | .tup xs,.int k=>xs≠[]/\0<=k/\k<=100000/\xs.length*k.toNat<=100000/\q (.tup (List.replicate k.toNat xs).flatten) G
 | _,_=>False
theorem zU:gG X (binaryOp .Mult) yb:=by
 rintro π s σ H x y v u Q I rx ry ⟨wx,wy,G,q,r1,r2,g,h,hQ⟩;cases r2 with
 | int k=>
   cases r1 with
   | int i=>exact wN π s σ H _ _ v u Q I rx ry ⟨_,_,rfl,rfl,h.1,hQ _ H _ G (aT.refl H) (.int _) g h.2⟩
   | ref a=>
     obtain⟨xs,ea,h0,h1,hl,h⟩:=h;obtain⟨_,xs',ha,ra⟩:=g _ _ ea;refine yY π s σ H _ _ v u Q I rx ry ⟨_,_,_,rfl,rfl,ha,ydx (by decide) h0,Int.lt_of_le_of_lt h1 (by decide),by rw[←ra.length];exact bR hl,λp hp=>?_⟩;exact hQ _ _ _ _ (aT.new hp _) (.ref p) (g.put (aT.new hp _) (ra.rep _) (by rw[iJ,Nat.mul_comm];exact hl)) (h p (g.fresh hp))
   | @tup a ws xs ha ra=>
     obtain⟨hne,h0,h1,hl,h⟩:=h;refine vX π s σ H _ _ v u Q I rx ry ⟨a,_,_,rfl,rfl,cU.of ha,λz=>?_,h0,h1,by rw[←ra.length];exact bR hl,λe=>?_,λ_ p hp=>?_⟩
     ·subst z;cases ra;exact hne rfl
     ·subst e;have e1:∀zs:List W,(List.replicate (Int.toNat 1) zs).flatten=zs:=λzs=>by simp
      rw[e1] at h;exact hQ _ H _ G (aT.refl H) (.tup ha ra) g h
     ·exact hQ _ _ _ G (aT.new hp _) (.tup bd ((ra.rep _).mono (aT.new hp _))) (g.keep hp _) h
   | _=>exact False.elim h
 | _=>cases r1<;> exact False.elim h
end
end L2
namespace Nm
namespace O
end O
end Nm
namespace L2
open PySem PySem.Spec PyProof.Rows
section
variable {X:Cx}
noncomputable def kq:W2:=λx y G q=>match x,y with
 | .str a,.str b=>a.length+b.length<=100000/\q (.str (a++b)) G
 | x,y=>Bp x y G q
theorem bf:gG X (binaryOp .Add) kq:=by
 rintro π s σ H x y v u Q I rx ry ⟨wx,wy,G,q,r1,r2,g,h,hQ⟩;unfold kq at h;split at h
 ·cases r1;cases r2;exact nK π s σ H _ _ v u Q I rx ry ⟨_,_,rfl,rfl,bR h.1,hQ _ H _ G (aT.refl H) (.str _) g h.2⟩
 ·exact Bq π s σ H x y v u Q I rx ry ⟨wx,wy,G,q,r1,r2,g,h,hQ⟩
noncomputable def kr:W2:=λx y G q=>match x,y with
 | .str a,.int k=>0<=k/\k<=100000/\a.length*k.toNat<=100000/\∀z:Str,z.length<=a.length*k.toNat->q (.str z) G
 | x,y=>yb x y G q
theorem kt (a:Array Nat):∀(n:Nat) (b:Array Nat),(List.foldl (λx1 x2=>x1++x2) b (List.replicate n a)).size=b.size+a.size*n
 | 0,b=>by simp
 | n+1,b=>by
   rw[replicate_succ,List.foldl_cons,kt a n,Array.size_append,Nat.mul_succ];lia
theorem wO (x:Str) {n:Int} (h:0<=n):(Txt.mul x n).length<=x.length*n.toNat:=by
 unfold Txt.mul;split
 ·exact zero_le _
 ·split
  ·rename_i h1 h2;have:1<=n.toNat:=by lia
   exact Nat.le_mul_of_pos_right _ this
  ·show Array.size _<=x.cps.size*n.toNat;rw[kt];simp
theorem tX:gG X (binaryOp .Mult) kr:=by
 rintro π s σ H x y v u Q I rx ry ⟨wx,wy,G,q,r1,r2,g,h,hQ⟩;unfold kr at h;split at h
 ·rename_i a k;obtain⟨h0,h1,hl,h⟩:=h;cases r1;cases r2;obtain⟨t,rfl⟩:=rx;obtain⟨t',rfl⟩:=ry;refine SB.mul ?_ λt' tk=>⟨.str _,H,I.tok _,⟨_,rfl⟩,hQ _ H _ G (aT.refl H) (.str _) g (h _ (wO a h0))⟩;have hk:(k.toNat:Int)=k:=by lia
  refine⟨?_,λh2 h3=>?_,λh2 h3=>?_⟩
  ·have e1:decide (k< -(2^63:Int))=false:=ycz (by lia);have e2:decide (k≥2^63)=false:=ycz (by lia);rw[e1,e2,Bool.or_false]
  ·have h4:((a.length*k.toNat:Nat):Int)<=((100000:Nat):Int):=Int.ofNat_le.mpr hl;rw[Int.natCast_mul,hk] at h4;have h5:(a.length:Int)<=(2^63-1)/k:=by
    rw[Int.le_ediv_iff_mul_le (by lia)];exact ydx h4 (by decide)
   exact Int.not_lt.mpr h5
  ·exact ycz (not_lt.mpr (bR hl))
 ·exact zU π s σ H x y v u Q I rx ry ⟨wx,wy,G,q,r1,r2,g,h,hQ⟩
noncomputable def mS:W2:=λx y G q=>match x,y with
 | .str z,.int i=>z.length<=100000/\∃c,dM z.cps.toList i=some c/\q (.str ⟨#[c]⟩) G
 | x,y=>vH x y G q
theorem BW:y8 X mS:=by
 rintro value slice π s σ H x y v u Q I rx ry ⟨wx,wy,G,q,r1,r2,g,h,hQ⟩ hsl;unfold mS at h;split at h
 ·obtain⟨hz,c,e,h⟩:=h;cases r1;cases r2;exact yU value slice π s σ H _ _ v u Q I rx ry ⟨_,_,c,rfl,rfl,bR hz,e,hQ _ H _ G (aT.refl H) (.str _) g h⟩ hsl
 ·exact DR value slice π s σ H x y v u Q I rx ry ⟨wx,wy,G,q,r1,r2,g,h,hQ⟩ hsl
noncomputable def wP:W3:=λx lo hi G q=>match x with
 | .str z=>z.length<=100000/\∀y:Str,y.length<=z.length->q (.str y) G
 | x=>vL x lo hi G q
theorem p6 {vl:Value} {lo:Option Int} (p:IsPart vl lo):∃l:Option (Int×Tok),vl=partValue l:=by
 cases p with
 | none=>exact⟨none,rfl⟩
 | int i t=>exact⟨some (i,t),rfl⟩
theorem BX:A7 X (Fg X.K wP):=by
 rintro π s σ H x v vl vu lo hi sl Q I rx hs pl pu ⟨w,G,q,r,g,h,hQ⟩;unfold wP at h;split at h
 ·rename_i z;obtain⟨hz,h⟩:=h;cases r;obtain⟨t,rfl⟩:=rx;refine⟨"str",_,slot_str_getitem.lookup,typeIs_str s z t,?_⟩;obtain⟨l,rfl⟩:=p6 pl;obtain⟨u,rfl⟩:=p6 pu;refine wpAny_getItem_str_slice (l:=l) (u:=u) (st:=none) ?_ rfl ?_
  ·obtain⟨o,e1,e2,e3⟩:=hs;exact⟨o,e1,e2,e3⟩
  ·have hle:=Txt.slice_le z (l.map (·.1)) (u.map (·.1));unfold sliceMade;split
   ·exact⟨.str z,H,I,⟨_,rfl⟩,hQ _ H _ G (aT.refl H) (.str _) g (h _ (yby _))⟩
   ·rename_i hn;unfold Txt.slice at hle;split at hle
    ·rename_i hy;exact absurd hy hn
    ·exact⟨ybz hle (bR hz),.str _,H,I.tok _,⟨_,rfl⟩,hQ _ H _ G (aT.refl H) (.str _) g (h _ hle)⟩
 ·exact DS π s σ H x v vl vu lo hi sl Q I rx hs pl pu ⟨w,G,q,r,g,h,hQ⟩
noncomputable def BY (te:WE) (tl th:WO):WE:=λτ G q=>te τ G λx G1=>tl τ G1 λl G2=>th τ G2 λu G3=>wP x l u G3 q
theorem bo {lo hi:Option Expr} {te:WE} {tl th:WO} {pos p2:Pos} (he:QE X e te) (hl:QO X lo tl) (hu:QO X hi th):QE X (.Subscript e (.Slice lo hi none p2) pos) (BY te tl th):=
 (sh BX he hl hu).imp λσ H Q z0=>z0.el λτ G q hs hg ht hQ=>⟨τ,G,_,hs,hg,ht,λv H1 w G1 t1 r1 g1 q1=>⟨τ,G1,_,hs.mono t1,g1,q1,λl H2 G2 t2 g2 q2=>
   ⟨τ,G2,_,(hs.mono t1).mono t2,g2,q2,λu H3 G3 t3 g3 q3=>⟨w,G3,q,(r1.mono t2).mono t3,g3,q3,λv4 H4 w4 G4 t4=>hQ v4 H4 w4 G4 (((t1.trans t2).trans t3).trans t4)⟩⟩⟩⟩
noncomputable def tY:List W->Gp->WK->Prop:=λws G q=>match ws with
 | [.str z]=>z.length<=100000/\q (.int z.length) G
 | ws=>Bo ws G q
theorem zV:eR X (.builtin "len") tY:=by
 rintro π s σ H xs us Q I r ⟨ws,G,q,rw',g,h,hQ⟩;unfold tY at h;split at h
 ·obtain⟨v,rfl,r1⟩:=rw'.one;cases r1;exact kM π s σ H _ us Q I r ⟨_,rfl,bR h.1,hQ _ H _ G (aT.refl H) (.int _) g h.2⟩
 ·exact xV π s σ H xs us Q I r ⟨ws,G,q,rw',g,h,hQ⟩
noncomputable def Ea (x:Str):It:=⟨λi _=>i<x.cps.toList.length,λi H y H'=>H'=H/\∃c,x.cps.toList[i]?=some c/\y=.str ⟨#[c]⟩,λi _=>x.cps.toList.length<=i⟩
theorem ku (hA:A.handled=none) (it:Addr) (x:Str) (t:Tok):Walks P w A it [it] [it] x.cps.size (SignAt x) (λi h=>h.IsStrIter it (strIterType x) x t i):=by
 unfold strIterType;split
 ·exact Walks.strAscii hA it x t
 ·exact Walks.strWide hA it x t
theorem tZ {tg:Expr} (it:Addr) (x:Str) (t:Tok):kI P w K tg (Ea x) [it] it (λi h=>i<=x.cps.size/\h.IsStrIter it (strIterType x) x t i) where
 mem:=by simp
 obj:=λi h st b hb=>by
  have e:b=it:=by simpa using hb
  subst e;obtain⟨_,o,e1,e2,e3⟩:=st;exact⟨_,e1,λv z=>by rw[e3] at z;cases z⟩
 keep:=λi h h' st k=>by
  obtain⟨hi,o,e1,e2,e3⟩:=st;exact⟨hi,o,k it (by simp) _ e1,e2,e3⟩
 item:=by
  intro X hP hw hK hc i π s σ H E I hf st hg;subst hP hw hK;obtain⟨f0,f1,f2,f3,f4,f5⟩:=hf it (by simp);have hg':i<x.cps.size:=by
   have h:i<x.cps.toList.length:=hg;simpa using h
  refine(ku (I.ok.hd hc) it x t).item i s _ _ hg' st.2 λv h' tk hv st' kk=>?_;obtain⟨c,u,e,rfl⟩:=hv;have I1:aI X π σ H { s with heap:=h',toks:=tk }:=I.turned (λb o hb e=>kk b o (by simpa using hb) e) f0 f1 f3 f4 f5;obtain⟨o,e1,e2,e3⟩:=id st';refine⟨_,rfl,jR (s:={ s with heap:=h',toks:=tk }) (n:=strIterType x) e1 e2 e3 ?_ ⟨.str ⟨#[c]⟩,H,I1,⟨u,rfl⟩,⟨rfl,c,by simpa using e,rfl⟩,⟨hg',st'⟩,λb hb=>(hf b hb).1⟩⟩;unfold strIterType;split<;> decide
 done:=by
  intro X hP hw hK hc i π s σ H E I hf st hg;subst hP hw hK;obtain⟨f0,f1,f2,f3,f4,f5⟩:=hf it (by simp);have hg':x.cps.size<=i:=by
   have h:x.cps.toList.length<=i:=hg;simpa using h
  have hi:i=x.cps.size:=Nat.le_antisymm st.1 hg';subst hi;exact(ku (I.ok.hd hc) it x t).done s _ _ st.2 λh' tk kk=>⟨rfl,I.turned (t':=tk) (λb o hb e=>kk b o (by simpa using hb) e) f0 f1 f3 f4 f5⟩
 self:=λA i s Q E st h=>by
  obtain⟨_,o,e1,e2,e3⟩:=st;unfold strIterType at e2;split at e2
  ·exact wpAny_pyIter_striter_ascii ⟨o,e1,e2,e3⟩ h
  ·exact wpAny_pyIter_striter_wide ⟨o,e1,e2,e3⟩ h
noncomputable def CZ (l:List Nat):List W:=l.map λc=> .str ⟨#[c]⟩
theorem wQ {H:Hp}:pB K (Ea x) (CZ x.cps.toList) (λ_=>True) H where
 stop:=λi H1 G t g _ hl=>by
  have h:x.cps.toList.length<=i:=by simpa[CZ] using hl
  exact h
 go:=λi w H1 G t g _ e=>by
  unfold CZ at e;rw[List.getElem?_map] at e;cases h:x.cps.toList[i]? with
  | none=>rw[h] at e;cases e
  | some c=>
    rw[h] at e;cases e;refine⟨(List.getElem?_eq_some_iff.mp h).1,λy H' ⟨eH,c',hc,hy⟩=>?_⟩;subst eH hy;rw[h] at hc;cases hc;exact⟨aT.refl _,.str _,g⟩
variable {tg:Expr}
theorem wR {l:Expr} {tl:TE} (hl:PE X l tl):PI X tg l (λσ H R=>tl σ H λx H1=>(∃z,x=.str z/\R (Ea z) H1)∨∃a,x=.ref a/\(((∃xs,cZ X.K H1 a xs)/\R (CQ X.K a) H1)∨((∃xs,cU X.K H1 a xs)/\R (Dv X.K a) H1))):=by
 intro π s σ H R I h;refine cf (hl π s σ H _ I h) λv s1 z9=>?_;obtain⟨x,H1,I1,r1,q1⟩:=z9;rcases q1 with⟨z,rfl,q⟩ | ⟨a,e,q1⟩
 ·obtain⟨t,rfl⟩:=r1;refine wpAny_pyIter_strU ?_;refine⟨s1.heap.objs.size,[s1.heap.objs.size],_,_,H1,rfl,I1.kept (t':=s1.toks) λb o e=>yaw _ e,tZ _ z t,⟨zero_le _,_,yav _ rfl,rfl,rfl⟩,λb hb=>?_,q⟩;have e:b=s1.heap.objs.size:=by simpa using hb
  subst e;exact I1.fpOk (yby _) (I1.hok.fresh (yby _))
 ·subst e;cases r1;rcases q1 with⟨⟨xs,hq⟩,q⟩ | ⟨⟨xs,hq⟩,q⟩
  ·obtain⟨its,rv,p,hz⟩:=I1.list hq;refine wpAny_pyIter_list p.isList ?_;refine⟨s1.heap.objs.size,[s1.heap.objs.size],_,_,H1,rfl,I1.kept (t':=s1.toks) λb o e=>yaw _ e,qt a _,⟨_,yav _ rfl,rfl,rfl⟩,λb hb=>?_,q⟩;have e:b=s1.heap.objs.size:=by simpa using hb
   subst e;exact I1.fpOk (yby _) (I1.hok.fresh (yby _))
  ·obtain⟨its,rv,p,hz⟩:=I1.tuple hq;refine wpAny_pyIter_tuple (show s1.heap.IsTuple a its.toArray from p) ?_;refine⟨s1.heap.objs.size,[s1.heap.objs.size],_,_,H1,rfl,I1.kept (t':=s1.toks) λb o e=>yaw _ e,nI a _,⟨_,yav _ rfl,rfl,rfl⟩,λb hb=>?_,q⟩;have e:b=s1.heap.objs.size:=by simpa using hb
   subst e;exact I1.fpOk (yby _) (I1.hok.fresh (yby _))
noncomputable def yc (te:WE):WI:=λτ G r=>te τ G λx G1=>match x with
 | .str z=>r (CZ z.cps.toList) (λ_=>True) G1
 | .tup ws=>r ws (λ_=>True) G1
 | .scr ns=>r (ns.map W.int) (λ_=>True) G1
 | .ref a=>∃ws,G1 a=some (.lst ws)/\r ws (λG=>G a=some (.lst ws)) G1
 | _=>False
theorem ck {l:Expr} {te:WE} (hl:QE X l te):QI X tg l (yc te):=
 (wR hl).imp λσ H R ⟨τ,G,r,hs,hg,ht,hR⟩=>⟨τ,G,_,hs,hg,ht,λv H1 w G1 t1 r1 g1 q1=>by
   split at q1
   ·cases r1;exact .inl ⟨_,rfl,hR _ H1 _ _ G1 t1 g1 wQ q1⟩
   ·cases r1 with
    | tup h rr=>exact .inr ⟨_,rfl,.inr ⟨⟨_,cU.of h⟩,hR _ H1 _ _ G1 t1 g1 (vM h rr) q1⟩⟩
   ·cases r1 with
    | scr h=>exact .inr ⟨_,rfl,.inl ⟨⟨_,h.sq⟩,hR _ H1 _ _ G1 t1 g1 (vO h) q1⟩⟩
   ·obtain⟨ws,e,q1⟩:=q1;cases r1;obtain⟨_,xs,h1,_⟩:=g1 _ _ e;exact .inr ⟨_,rfl,.inl ⟨⟨xs,cZ.of h1⟩,hR _ H1 _ _ G1 t1 g1 vN q1⟩⟩
   ·exact q1.elim⟩
end
open PySem PySem.Spec PyProof.Rows Nm
theorem eN {β:Type} {C:Gp->Prop} {te:WE} {i:Nat} {τ0:cT} {G:Gp} {q:List W->Gp->Prop} (key val:β->W) (hC:C G):∀{ps:List β} {acc:List W} {τ:cT},
 (∀p,p∈ps->∀k:W->Gp->Prop,k (val p) G->te (τ0.set i (some (key p))) G k)->acc.length+ps.length<=100000->(∀x,τ.set i x=τ0.set i x)->q (acc++ps.map val) G->cu C (cV i) j7 te (ps.map key) τ G acc q
 | [],acc,τ,_,_,_,hq=>⟨hC,by simpa using hq⟩
 | p::ps,acc,τ,ht,hl,hτ,hq=>by
   refine⟨hC,?_⟩;show te (τ.set i (some (key p))) G _;rw[hτ];refine ht p yaz _ ?_;rw[length_cons] at hl;refine⟨by lia,eN key val hC (λu hu=>ht u (yay _ hu)) (by rw[length_append];simp only[length_cons,length_nil];lia) (λx=>?_) (by simpa using hq)⟩;rw[set_set]
theorem mT {C:Gp->Prop} {te:WE} {i:Nat} {τ0:cT} {q:List W->Gp->Prop} (Iv:List W->List W->Gp->Prop) (stop:∀acc G,Iv [] acc G->C G/\q acc G)
 (step:∀x ws acc G (k:WK),Iv (x::ws) acc G->(∀v G1,Iv ws (acc++[v]) G1->acc.length+1<=100000->k v G1)->C G/\te (τ0.set i (some x)) G k):∀{ws acc:List W} {τ:cT} {G:Gp},Iv ws acc G->acc.length+ws.length<=100000->(∀x,τ.set i x=τ0.set i x)->cu C (cV i) j7 te ws τ G acc q
 | [],acc,τ,G,hI,_,_=>stop acc G hI
 | x::ws,acc,τ,G,hI,hl,hτ=>by
   rw[length_cons] at hl;obtain⟨h1,h2⟩:=step x ws acc G (λv G4=>acc.length+1<=100000/\cu C (cV i) j7 te ws (τ0.set i (some x)) G4 (acc++[v]) q) hI λv G1 hv hn=>⟨hn,mT Iv stop step hv (by rw[length_append];simp only[length_cons,length_nil];lia) λy=>set_set ..⟩;refine⟨h1,?_⟩;show te (τ.set i (some x)) G _;rw[hτ];exact h2
theorem C0 {c:WT} {t u:WS} {d:dm} {τ:cT} {G:Gp} (h:∀(T V:WS) (D:dm),T=t->V=u->D=d->ze c T V D τ G):ze c t u d τ G:=h t u d rfl rfl rfl
theorem bB {G G':Gp} {p:Addr} (h:aC G G') (hp:G' p=none):G p=none:=by
 cases e:G p with
 | none=>rfl
 | some g=>rw[h _ _ e] at hp;cases hp
theorem gl {c A B:Prop} {d:Decidable c} (h1:c->A) (h2:¬c->B): @ite Prop c d A B:=by
 cases d with
 | isTrue h=>exact h1 h
 | isFalse h=>exact h2 h
theorem zW (xs:List W) (a b:Nat):∃x y:Nat,cN xs (some (a:Int)) (some (b:Int))=(xs.drop x).take y/\y<=b-a:=by
 unfold cN;rw[HT.sIx_nat,HT.sIx_nat];exact⟨_,_,rfl,by lia⟩
noncomputable abbrev u6 (L:List Str):List W:=L.map W.str
theorem lr {L:List Str} {i:Int} (h0:0<=i) (h1:i<L.length):∃x,dM (u6 L) i=some (.str x)/\x∈L:=by
 have hl:i.toNat<L.length:=by lia
 have q:=bQ (xs:=u6 L) (j:=i.toNat) (v:= .str L[i.toNat]) (by unfold u6;rw[List.getElem?_map,ybw hl];rfl);rw[Int.toNat_of_nonneg h0] at q;exact⟨_,q,getElem_mem hl⟩
section
variable {X:Cx} {π:List (Addr×Obj)} {σ:St} {H:Hp} {s:Shared} {a:Addr} {o:Obj} {kvs:List (aS×V)}
theorem aI.swap {u v:HO} (I:aI X π σ H s) (e:H a=some u) (un:Un X.fs X.ex X.H₀ (upd H a v) X.s₀.heap s.heap) (hv:bI X.prog X.w (upd H a v) s.heap a v) (nu:∀xs,u≠ .tup xs) (no:∀x,u≠ .own x):aI X π σ (upd H a v) s:=by
 have ne:∀b,H b=none->b≠a:=λb hb z=>by rw[z,e] at hb;cases hb
 refine⟨I.ok,I.os,I.bare,un,I.loc,I.cell,by rw[aJ (ne _ I.free)];exact I.free,λx c hc=>by rw[aJ (ne _ (I.freeC x c hc))];exact I.freeC x c hc,λp hp=>?_,λb w hb=>?_,I.len⟩
 ·obtain⟨h1,h2,h3⟩:=I.pin p hp;exact⟨h1,by rw[aJ (ne _ h2)];exact h2,h3⟩
 ·by_cases hba:b=a
  ·subst hba;rw[bd] at hb;cases hb;exact hv
  ·rw[aJ hba] at hb;refine(I.hok b w hb).stay (λd v _ q=>q) (λd q=>?_) λd xs q=>?_
   ·rw[aJ (λz=>by rw[z,e] at q;exact no _ (Option.some.inj q))];exact q
   ·rw[aJ (λz=>by rw[z,e] at q;exact nu _ (Option.some.inj q))];exact q
theorem aI.freeze (I:aI X π σ H s) (e:H a=some (.dK kvs)) (ho:s.heap.get? a=some o):aI X π σ (upd H a (.frz o (.dK kvs))) s:=by
 refine I.swap e ?_ ⟨ho,(I.hok a _ e)⟩ (λ_ z=>by cases z) (λ_ z=>by cases z);have U:=I.base;refine⟨U.keep,U.slot,λb ob h1 h2 h3=>?_,U.there,λb xs h1=>?_,λb ob w h1=>?_,λb ps h1=>?_⟩
 ·have h4:=U.free b ob h1 h2 h3;rw[aJ (λz=>by rw[z,e] at h4;cases h4)];exact h4
 ·have h4:=U.tups b xs h1;rw[aJ (λz=>by rw[z,e] at h4;cases h4)];exact h4
 ·have h4:=U.frzs b ob w h1;rw[aJ (λz=>by rw[z,e] at h4;cases h4)];exact h4
 ·obtain⟨m,h4⟩:=U.tbls b ps h1;exact⟨m,by rw[aJ (λz=>by rw[z,e] at h4;cases h4)];exact h4⟩
theorem aI.thaw (I:aI X π σ H s) (e:H a=some (.frz o (.dK kvs))) (h0:∀ob w,X.H₀ a≠some (.frz ob w)):aI X π σ (upd H a (.dK kvs)) s:=by
 refine I.swap e ?_ (I.hok a _ e).2 (λ_ z=>by cases z) (λ_ z=>by cases z);have U:=I.base;refine⟨U.keep,U.slot,λb ob h1 h2 h3=>?_,U.there,λb xs h1=>?_,λb ob w h1=>?_,λb ps h1=>?_⟩
 ·have h4:=U.free b ob h1 h2 h3;rw[aJ (λz=>by rw[z,e] at h4;cases h4)];exact h4
 ·have h4:=U.tups b xs h1;rw[aJ (λz=>by rw[z,e] at h4;cases h4)];exact h4
 ·have h4:=U.frzs b ob w h1;rw[aJ (λz=>by rw[z] at h1;exact h0 _ _ h1)];exact h4
 ·obtain⟨m,h4⟩:=U.tbls b ps h1;exact⟨m,by rw[aJ (λz=>by rw[z,e] at h4;cases h4)];exact h4⟩
theorem aI.nofrz (I:aI X π σ H s) (e:H a=some (.dK kvs)):∀ob w,X.H₀ a≠some (.frz ob w):=λob w h=>by
 have:=I.base.frzs a ob w h;rw[e] at this;cases this
theorem kx {α β:Type} {F:α->β->Prop}:∀{l1:List α} {l2:List β},Paired F l1 l2->∀{i:Nat} {a:α} {b:β},l1[i]?=some a->l2[i]?=some b->F a b
 | _,_,.nil,_,_,_,h,_=>by cases h
 | _,_,.cons r t,0,_,_,h1,h2=>by cases h1;cases h2;exact r
 | _,_,.cons r t,i+1,_,_,h1,h2=>kx t (i:=i) h1 h2
theorem aI.dictAt {es:Array DictEntry} {ep:Nat} (I:aI X π σ H s) (e:H a=some (.frz o (.dK kvs))) (hd:o.data=.dict es ep):∃vs,KV kvs vs/\s.heap.DictAt (aY X.prog X.w) a vs ep/\(a==sysModules)=false:=by
 obtain⟨h1,_,h2,vs,h3,o2,es2,ep2,h4,h5,h6,h7⟩:=I.hok a _ e;rw[h1] at h4;cases h4;rw[hd] at h6;cases h6;exact⟨vs,h3,⟨o,es,h1,h5,hd,h7⟩,h2⟩
theorem p9 {k:aS} {v:Value} (h:iS k v=true):bc (kV k) v:=by
 rcases bK h with⟨i,t,rfl,rfl⟩ | ⟨x,t,rfl,rfl⟩
 ·exact⟨t,rfl⟩
 ·exact⟨t,rfl⟩
variable {tg:Expr}
end
noncomputable def ef (kvs:List (aS×W)) (k:aS):Option W:=(kvs.find? λkv=>decide (kv.1=k)).map (·.2)
noncomputable def dg (kvs:List (aS×W)) (k:aS) (w:W):List (aS×W):=
 if (kvs.any λkv=>decide (kv.1=k))=true then kvs.map (λkv=>if kv.1=k then (kv.1,w) else kv) else kvs++[(k,w)]
inductive DP (K:yax) (H:Hp):List (aS×W)->List (aS×V)->Prop where
 | nil:DP K H [] []
 | cons {k:aS} {w:W} {v:V} {kvs:List (aS×W)} {us:List (aS×V)} (r:bN K H w v) (t:DP K H kvs us):DP K H ((k,w)::kvs) ((k,v)::us)
section
variable {K:yax} {H H1:Hp}
theorem DP.of:∀{kvs:List (aS×W)} {us:List (aS×V)},us.map (·.1)=kvs.map (·.1)->aV K H (kvs.map (·.2)) (us.map (·.2))->DP K H kvs us
 | [],[],_,_=> .nil
 | [],_::_,h,_=>by simp at h
 | _::_,[],h,_=>by simp at h
 | (k,w)::kvs,(k',v)::us,h,r=>by
   simp only[map_cons,List.cons.injEq] at h;obtain⟨rfl,h⟩:=h;cases r with
   | cons r rs=>exact .cons r (DP.of h rs)
theorem DP.keys {kvs:List (aS×W)} {us:List (aS×V)} (d:DP K H kvs us):us.map (·.1)=kvs.map (·.1):=by
 induction d with
 | nil=>rfl
 | cons r t ih=>rw[map_cons,map_cons,ih]
theorem DP.vals {kvs:List (aS×W)} {us:List (aS×V)} (d:DP K H kvs us):aV K H (kvs.map (·.2)) (us.map (·.2)):=by
 induction d with
 | nil=>exact .nil
 | cons r t ih=>exact .cons r ih
theorem DP.len {kvs:List (aS×W)} {us:List (aS×V)} (d:DP K H kvs us):us.length=kvs.length:=by
 have:=congrArg List.length d.keys;simpa using this
theorem DP.mono {kvs:List (aS×W)} {us:List (aS×V)} (t:aT H H1) (d:DP K H kvs us):DP K H1 kvs us:=DP.of d.keys (d.vals.mono t)
theorem DP.val {kvs:List (aS×W)} {us:List (aS×V)} (d:DP K H kvs us) (k:aS):(ef kvs k=none/\kN us k=none)∨∃w v,ef kvs k=some w/\kN us k=some v/\bN K H w v:=by
 induction d with
 | nil=>exact .inl ⟨rfl,rfl⟩
 | @cons k' w v kvs us r t ih=>
   by_cases e:k'=k
   ·exact .inr ⟨w,v,by simp[ef,List.find?_cons,e],lZ e,r⟩
   ·rw[show ef ((k',w)::kvs) k=ef kvs k by simp[ef,List.find?_cons,e],mf (p:=(k',v)) e];exact ih
theorem DP.any {kvs:List (aS×W)} {us:List (aS×V)} (d:DP K H kvs us) (k:aS):(us.any λkv=>decide (kv.1=k))=kvs.any λkv=>decide (kv.1=k):=by
 induction d with
 | nil=>rfl
 | cons r t ih=>rw[any_cons,any_cons,ih]
theorem DP.put {kvs:List (aS×W)} {us:List (aS×V)} (d:DP K H kvs us) (k:aS) {w:W} {v:V} (r:bN K H w v):DP K H (dg kvs k w) (gM us k v):=by
 unfold dg gM;rw[d.any k]
 by_cases e:(kvs.any λkv=>decide (kv.1=k))=true
 ·rw[ycx e,ycx e];clear e
  induction d with
  | nil=>exact .nil
  | @cons k' w' v' kvs us r' t ih=>
    rw[map_cons,map_cons]
    by_cases e:k'=k
    ·rw[ycx e,ycx e];exact .cons r ih
    ·rw[ybv e,ybv e];exact .cons r' ih
 ·rw[ybv e,ybv e];clear e
  induction d with
  | nil=>exact .cons r .nil
  | cons r' t ih=>exact .cons r' ih
end
theorem dH (kvs:List (aS×W)) (k:aS) (w:W):(dg kvs k w).length<=kvs.length+1:=by
 unfold dg;split
 ·rw[length_map];lia
 ·rw[length_append,length_cons,length_nil];lia
noncomputable def GD (G:Gp) (a:Addr) (kvs:List (aS×W)):Prop:=G a=some (.dic kvs)∨∃o us,G a=some (.fdc o us kvs)
section
variable {K:yax} {H:Hp} {G:Gp} {a:Addr} {kvs:List (aS×W)}
theorem GD.rd (h:GD G a kvs) (g:aO K H G):kvs.length<=100000/\∃us,Rd H a (.dK us)/\DP K H kvs us:=by
 rcases h with h | ⟨o,us,h⟩
 ·obtain⟨l,us,e,n,r⟩:=g a _ h;exact⟨l,us,.inl e,DP.of n r⟩
 ·obtain⟨l,e,n,r⟩:=g a _ h;exact⟨l,us,.inr ⟨o,e⟩,DP.of n r⟩
theorem aT.dk {us:List (aS×V)} (hp:H a=some (.dK us)) (o:HO):aT H (upd H a o):=
 ⟨λ_ _ h=>by rw[aJ (fA h hp (by intro z;cases z))];exact h,λ_ _ _ h=>by rw[aJ (fA h hp (by intro z;cases z))];exact h⟩
theorem aT.fz {us:List (aS×V)} {ob:Obj} (hp:H a=some (.frz ob (.dK us))) (o:HO):aT H (upd H a o):=
 ⟨λ_ _ h=>by rw[aJ (fA h hp (by intro z;cases z))];exact h,λ_ _ _ h=>by rw[aJ (fA h hp (by intro z;cases z))];exact h⟩
end
section
variable {X:Cx} {π:List (Addr×Obj)} {σ:St} {H:Hp} {s:Shared} {A:Around} {E:ydz}
noncomputable def cX:W2:=λx y G q=>match x,y with
 | .ref a,.str z=>∃kvs w,GD G a kvs/\ef kvs (.inr z)=some w/\q w G
 | x,y=>mS x y G q
theorem ay:y8 X cX:=by
 rintro value slice π s σ H x y v u Q I rx ry ⟨wx,wy,G,q,r1,r2,g,h,hQ⟩ hsl;unfold cX at h;split at h
 ·rename_i a z;obtain⟨kvs,w,hd,hv,h⟩:=h;cases r1;cases r2;cases rx;obtain⟨_,us,rd,dp⟩:=hd.rd g;obtain⟨hl,hm,vs,rel,dd⟩:=eW I.hok rd;rcases dp.val (.inr z) with⟨e,_⟩ | ⟨w',v',e,e',r⟩
  ·rw[e] at hv;cases hv
  ·rw[e] at hv;cases hv;obtain⟨u',hw,ru⟩:=fG.some_of (v:=v') (o:=valueAt vs (.inr z)) (by rw[←e'];exact rel.val (.inr z));exact tail_any dd.typeIs PySem.F.slot_dict_getitem.lookup (wpAny_getItem_of (mj (P:=X.prog) (w:=X.w) (k:= .inr z) ry) dd.mapOf hw ⟨v',H,I.tok _,ru,hQ _ H _ G (aT.refl H) r g h⟩) hsl
 ·exact BW value slice π s σ H x y v u Q I rx ry ⟨wx,wy,G,q,r1,r2,g,h,hQ⟩ hsl
structure FK (ws:List W) (x:W):Prop where
 fx:x.flat=true
 fs:W.flats ws=true
 hd:W.deps ws<=149
inductive Fq (G:Gp) (a:Addr):W->Bool->Prop where
 | dic {kvs:List (aS×W)} {z:Str} (h:GD G a kvs):Fq G a (.str z) (ef kvs (.inr z)).isSome
 | lst {ws:List W} {x:W} (h:G a=some (.lst ws)) (l:FK ws x):Fq G a x (ws.any λw=>w.eq x)
open Classical in
noncomputable def yd:WE:=λ_ G q=>∀p,G p=none->q (.ref p) (aK G p (.dic []))
theorem wS:QE X (.Dict [] [] pos) yd:=
 pe_dnewK.imp λσ H Q z0=>z0.el λτ G q hs hg ht hQ p hp=>hQ _ _ _ _ (aT.new hp _) (.ref p) (hg.lay (g:= .dic []) (aT.new hp _) ⟨zero_le _,[],bd,rfl,.nil⟩) (ht p (hg.fresh hp))
noncomputable def kW:aS->W
 | .inl i=> .int i
 | .inr x=> .str x
theorem t9 (k:aS):bN K H (kW k) (kV k):=by
 cases k with
 | inl i=>exact .int i
 | inr x=>exact .str x
theorem BZ {k:aS} {v:V} (r:bN K H (kW k) v):v=kV k:=by
 cases k<;> cases r<;> rfl
noncomputable def C9 {α:Type} (mk:α->aS) (d:dm) (τ:cT) (w x y:W) (G:Gp):Prop:=∃a z kvs,x=.ref a/\y=kW (mk z)/\G a=some (.dic kvs)/\kvs.length+1<=100000/\d.nx τ (aK G a (.dic (dg kvs (mk z) w)))
theorem uc {α:Type} (mk:α->aS) {o i value:Expr} {to ti tv:WE} {pos pos':Pos} (hv:QE X value tv) (ho:QE X o to) (hi:QE X i ti) (hs:swapsWith value (some (.Subscript o i pos')) pos.line X.env=pure false:=by rfl):
 QS X (.Assign [.Subscript o i pos'] value pos) (λd τ G=>tv τ G λw G1=>to τ G1 λx G2=>ti τ G2 λy G3=>C9 mk d τ w x y G3):=by
 intro π s σ H D I h;obtain⟨τ,G,d,hst,hg,ht,l⟩:=h;refine wpAny_Assign_Subscript (cf (hv π s σ H (λv H1=>∃w G1,aT H H1/\bN X.K H1 w v/\aO X.K H1 G1/\to τ G1 λx G2=>ti τ G2 λy G3=>C9 mk d τ w x y G3) I ⟨τ,G,_,hst,hg,ht,λv H1 w G1 t1 r1 g1 q1=>⟨w,G1,t1,r1,g1,q1⟩⟩) λr s1 z9=>?_) hs;obtain⟨v,H1,I1,rv,w,G1,t1,r1,g1,q1⟩:=z9;refine cf (ho π s1 σ H1 (λv2 H2=>∃w2 G2,aT H1 H2/\bN X.K H2 w2 v2/\aO X.K H2 G2/\ti τ G2 λy G3=>C9 mk d τ w w2 y G3) I1 ⟨τ,G1,_,hst.mono t1,g1,q1,λv2 H2 w2 G2 t2 r2 g2 q2=>⟨w2,G2,t2,r2,g2,q2⟩⟩) λu s2 z9=>?_;obtain⟨x,H2,I2,rx,w2,G2,t2,r2,g2,q2⟩:=z9;refine cf (hi π s2 σ H2 (λv3 H3=>∃w3 G3,aT H2 H3/\bN X.K H3 w3 v3/\aO X.K H3 G3/\C9 mk d τ w w2 w3 G3) I2 ⟨τ,G2,_,(hst.mono t1).mono t2,g2,q2,λv3 H3 w3 G3 t3 r3 g3 q3=>⟨w3,G3,t3,r3,g3,q3⟩⟩) λiv s3 z9=>?_;obtain⟨y,H3,I3,ry,w3,G3,t3,r3,g3,a,z,kvs,e1,e2,e3,hl,q3⟩:=z9;subst e1 e2;cases r2;obtain rfl:=BZ r3;cases rx;obtain⟨_,us,e4,n4,r4⟩:=g3 a _ e3;have dp:=DP.of n4 r4;obtain⟨zl,hd,vs,rel,dd⟩:=ss I3.hok e4;have hz:vs.length<=sizeLine:=by rw[←rel.length];exact zl
 have hlen:kvs.length+1<=sizeLine:=bR hl;have hl2:(gM us (mk z) v).length<=sizeLine:=by have:=mh us (mk z) v;have:=dp.len;lia
 refine wpAny_setItem_pairs (hsz:=hz) (mj (P:=X.prog) (w:=X.w) (k:=mk z) ry) dd λh' dd' hs=>?_;have he:∃q,h'.get? a=some q:=let ⟨q,_,_,hq,_⟩:=dd';⟨q,hq⟩;have I4:=pq (t':=s3.toks+1) I3 (by rw[e4];exact True.intro) hs he (y0 hl2 hd (rel.put (mk z) rv) dd');have tt:=(t1.trans t2).trans t3;have t4:=aT.dk e4 (.dK (gM us (mk z) v));have dp2:=(dp.put (mk z) (r1.mono (t2.trans t3))).mono t4;exact⟨σ,_,I4,l.nx σ _ τ _ (tt.trans t4) (hst.mono (tt.trans t4)) (g3.lay (g:= .dic _) t4 ⟨ybz (dH _ _ _) hl,_,bd,dp2.keys,dp2.vals⟩) q3⟩
noncomputable def ye (tv to ti:WE):WS:=λd τ G=>tv τ G λw G1=>to τ G1 λx G2=>ti τ G2 λy G3=>∃a z kvs,x=.ref a/\y=.str z/\G3 a=some (.dic kvs)/\kvs.length+1<=100000/\d.nx τ (aK G3 a (.dic (dg kvs (.inr z) w)))
theorem dv {o i value:Expr} {to ti tv:WE} {pos pos':Pos} (hv:QE X value tv) (ho:QE X o to) (hi:QE X i ti) (hs:swapsWith value (some (.Subscript o i pos')) pos.line X.env=pure false:=by rfl):QS X (.Assign [.Subscript o i pos'] value pos) (ye tv to ti):=uc Sum.inr hv ho hi hs
noncomputable def dm.th (a:Addr) (d:dm):dm where
 nx:=λτ G=>∃o us kvs,G a=some (.fdc o us kvs)/\d.nx τ (aK G a (.dic kvs))
 rt:=λw G=>∃o us kvs,G a=some (.fdc o us kvs)/\d.rt w (aK G a (.dic kvs))
 bk:=λτ G=>∃o us kvs,G a=some (.fdc o us kvs)/\d.bk τ (aK G a (.dic kvs))
 ct:=λτ G=>∃o us kvs,G a=some (.fdc o us kvs)/\d.ct τ (aK G a (.dic kvs))
noncomputable def iC.th (a:Addr) (d:iC):iC where
 nx:=λτ G=>∃o us,G a=some (.frz o (.dK us))/\d.nx τ (upd G a (.dK us))
 rt:=λw G=>∃o us,G a=some (.frz o (.dK us))/\d.rt w (upd G a (.dK us))
 bk:=λτ G=>∃o us,G a=some (.frz o (.dK us))/\d.bk τ (upd G a (.dK us))
 ct:=λτ G=>∃o us,G a=some (.frz o (.dK us))/\d.ct τ (upd G a (.dK us))
theorem wT {t:TS} (h:PS X st t):PS X st (λD σ H=>∃a us,H a=some (.dK us)/\t (iC.th a D) σ H):=by
 rintro π s σ H D I ⟨a,us,e,q⟩;have h0:=I.nofrz e;refine cf (h π s σ H _ I q) λf s1 z=>?_;cases f with
 | next=>obtain⟨σ1,H1,I1,o,us,e,q⟩:=z;exact⟨σ1,_,I1.thaw e h0,q⟩
 | cont=>obtain⟨σ1,H1,I1,o,us,e,q⟩:=z;exact⟨σ1,_,I1.thaw e h0,q⟩
 | brk=>obtain⟨σ1,H1,I1,o,us,e,q⟩:=z;exact⟨σ1,_,I1.thaw e h0,q⟩
 | ret u=>obtain⟨v,σ1,H1,I1,rv,o,us,e,q⟩:=z;exact⟨v,σ1,_,I1.thaw e h0,rv,q⟩
theorem aO.thaw {G:Gp} {o:Obj} {us:List (aS×V)} {kvs:List (aS×W)} (g:aO K H G) (e:G a=some (.fdc o us kvs)):
 H a=some (.frz o (.dK us))/\aT H (L2.upd H a (.dK us))/\aO K (L2.upd H a (.dK us)) (aK G a (.dic kvs)):=by
 obtain⟨l,e1,n,r⟩:=g a _ e;have t:=aT.fz e1 (.dK us);exact⟨e1,t,g.lay (g:= .dic _) t ⟨l,us,bd,n,r.mono t⟩⟩
noncomputable def yf (t:WS):WS:=λd τ G=>∃a kvs,G a=some (.dic kvs)/\t (d.th a) τ G
theorem wU {t:WS} (h:QS X st t):QS X st (yf t):=
 (wT h).imp λD σ H z0=>z0.el λτ G d hs hg ⟨a,kvs,ea,ht⟩ l=>by
   obtain⟨_,us,e1,_⟩:=hg a _ ea;refine⟨a,us,e1,τ,G,d.th a,hs,hg,ht,⟨?_,?_,?_,?_⟩⟩
   ·rintro σ1 H1 τ1 G1 t1 s1 g1 ⟨o,us,kvs,e,q⟩;obtain⟨e2,t2,g2⟩:=g1.thaw e;exact⟨o,us,e2,l.nx _ _ _ _ (t1.trans t2) (s1.mono t2) g2 q⟩
   ·rintro v H1 w G1 t1 r1 g1 ⟨o,us,kvs,e,q⟩;obtain⟨e2,t2,g2⟩:=g1.thaw e;exact⟨o,us,e2,l.rt _ _ _ _ (t1.trans t2) (r1.mono t2) g2 q⟩
   ·rintro σ1 H1 τ1 G1 t1 s1 g1 ⟨o,us,kvs,e,q⟩;obtain⟨e2,t2,g2⟩:=g1.thaw e;exact⟨o,us,e2,l.bk _ _ _ _ (t1.trans t2) (s1.mono t2) g2 q⟩
   ·rintro σ1 H1 τ1 G1 t1 s1 g1 ⟨o,us,kvs,e,q⟩;obtain⟨e2,t2,g2⟩:=g1.thaw e;exact⟨o,us,e2,l.ct _ _ _ _ (t1.trans t2) (s1.mono t2) g2 q⟩
theorem aO.freeze {G:Gp} {us:List (aS×V)} {kvs:List (aS×W)} (g:aO K H G) (e:G a=some (.dic kvs)) (e1:H a=some (.dK us)) (o:Obj):
 aT H (L2.upd H a (.frz o (.dK us)))/\aO K (L2.upd H a (.frz o (.dK us))) (aK G a (.fdc o us kvs)):=by
 obtain⟨l,us',e2,n,r⟩:=g a _ e;rw[e1] at e2;cases e2;have t:=aT.dk e1 (.frz o (.dK us));exact⟨t,g.lay (g:= .fdc _ _ _) t ⟨l,bd,n,r.mono t⟩⟩
variable {tg:Expr}
end
noncomputable def Eb (d:Addr) (o:Obj) (kvs:List (aS×V)):It:=
 ⟨λi H=>H d=some (.frz o (.dK kvs))/\i<kvs.length,
  λi H y H'=>∃p kv,H p=none/\kvs[i]?=some kv/\y=.ref p/\H'=upd H p (.tup [kV kv.1,kv.2]),
  λi H=>H d=some (.frz o (.dK kvs))/\kvs.length<=i⟩
theorem oK {elts:List Expr} {o:Obj} {kvs:List (aS×V)} {es:Array DictEntry} {ep:Nat} (it d:Addr) (hne:d≠it) (hd:o.data=.dict es ep):
 kI P w K (.Tuple elts k pos) (Eb d o kvs) [it] it (λi h=>i<=kvs.length/\∃ok ov,IsItemIter h it d i kvs.length ep ok ov) where
 mem:=by simp
 obj:=λi h st b hb=>by
  have e:b=it:=by simpa using hb
  subst e;obtain⟨_,ok,ov,e1⟩:=st;exact⟨_,e1,λv z=>by cases z⟩
 keep:=λi h h' st k=>by
  obtain⟨hi,ok,ov,e1⟩:=st;exact⟨hi,ok,ov,k it (by simp) _ e1⟩
 item:=by
  intro X hP hw hK hc i π s σ H E I hf st hg;subst hP hw hK;obtain⟨f0,f1,f2,f3,f4,f5⟩:=hf it (by simp);obtain⟨hfz,hi⟩:=hg;obtain⟨vs,kv,da,_⟩:=I.dictAt hfz hd;have hl:=kv.length;obtain⟨_,ok,ov,hit⟩:=st;have hi2:i<vs.length:=by lia
  have e0:=ybw hi;have e1:=ybw hi2;obtain⟨pk,pv⟩:=kx kv e0 e1;rw[hl] at hit;refine wpAny_pyNext_items_item (knd:=aY X.prog X.w) (k:=vs[i].1) (v:=vs[i].2) hit da e1 λkey h1 hkey ho ht hsz kk=>⟨_,rfl,?_⟩;refine PySem.wpAny_letOwnedTupleGo_items ho λh2 he2 sb2=>?_;have lt:∀{c:Addr} {o:Obj},s.heap.get? c=some o->c≠s.heap.objs.size:=λe=>ne_of_lt (ybx e);have hnew:H s.heap.objs.size=none:=I.hok.fresh (yby _);have ene:it≠s.heap.objs.size:=lt hit;have keep:∀c o,c≠it->s.heap.get? c=some o->h2.get? c=some o:=λc o c1 q=>sb2.extBut c o c1 (kk c o c1 q);have tn:h2.get? s.heap.objs.size=some { cls:= .type "tuple",data:= .seq #[key,vs[i].2] }:=sb2.extBut _ _ (Ne.symm ene) ht;have rk:bc (kV kvs[i].1) key:=by rw[pk];exact p9 hkey
  refine⟨.ref s.heap.objs.size,upd H s.heap.objs.size (.tup [kV kvs[i].1,kvs[i].2]),I.pair (ch:=[it]) hf (λc o hc e=>keep c o (by simpa using hc) e) tn rk pv,rfl,⟨_,_,hnew,e0,rfl,rfl⟩,⟨by assumption,key,vs[i].2,by rw[hl];exact he2⟩,λc hc=>?_⟩
  ·have hc':c=it:=by simpa using hc
   subst hc';rw[aJ ene];exact f0
 done:=by
  intro X hP hw hK hc i π s σ H E I hf st hg;subst hP hw hK;obtain⟨f0,f1,f2,f3,f4,f5⟩:=hf it (by simp);obtain⟨hfz,hi⟩:=hg;obtain⟨vs,kv,da,_⟩:=I.dictAt hfz hd;have hl:=kv.length;obtain⟨hi2,ok,ov,hit⟩:=st;rw[hl] at hit;exact wpAny_pyNext_items_end (knd:=aY X.prog X.w) (I.ok.hd hc) hit da (List.getElem?_eq_none (by lia)) λh' kk=>⟨rfl,I.turned (t':=s.toks) (λb o hb e=>kk b o (by simpa using hb) e) f0 f1 f3 f4 f5⟩
 self:=λA i s Q E st h=>let ⟨_,_,_,hit⟩:=st;PySem.W.kcp_self hit h
section
variable {X:Cx} {elts:List Expr} {k:Nat} {tp:Pos}
theorem ud {p apos cpos:Pos} (hN:X.N[i]?=some x) (hv:AG X.env.scope x) (hd:(x==("__debug__":Str))=false:=by decide) (hcd:(x==("__classdict__":Str))=false:=by decide)
 (hbase:attributeBase (.Name x p) "items" X.env (eval (.Name x p) X.env)=eval (.Name x p) X.env:=by rfl) (hline:(apos.endLine==cpos.line)=true:=by rfl):
 PI X (.Tuple elts k tp) (.Call (.Attribute (.Name x p) "items" apos) [] [] cpos) (λσ H R=>∃a kvs,σ[i]?=some (some (.ref a))/\H a=some (.dK kvs)/\∀o,R (Eb a o kvs) (upd H a (.frz o (.dK kvs)))):=by
 rintro π s σ H R I ⟨a,kvs,hi,e,h⟩;refine wpAny_Call_method0_late hbase hline (cf (nH (pos:=p) hN hv hd hcd π s σ H (λv H'=>v=.ref a/\H'=H) I ⟨_,hi,rfl,rfl⟩) λu s1 z9=>?_);obtain⟨v,H1,I1,r,hv1,hH⟩:=z9;subst hv1;subst hH;obtain rfl:u=Value.ref a:=r;obtain⟨_,hm,vs,kv,o,es,ep,h1,h2,h3,h4⟩:=ss I1.hok e;have ty:CU X.K "dict" (.ref a) H1:= .inr (.inr (.inl ⟨rfl,.inl ⟨kvs,e⟩⟩));obtain⟨t1,t2⟩:=nW I1 (show bc (V.ref a) (Value.ref a) from rfl) ty;refine⟨"dict",_,PySem.F.plainAttrs_dict,PySem.F.slot_dict_items,PySem.F.type_dict_items,t1,t2,Calls.callWith_builtin rfl (PySem.evalArgs_none ?_)⟩;refine call_meetsIn PySem.F.slot_dict_items t1 PySem.F.entry_dict_items (PySem.F.args_dict_items_1 _) (meets_dict_items (aY X.prog X.w) a hm) ⟨⟨vs,o,es,ep,h1,h2,h3,h4⟩,?_⟩;have I2:aI X π σ H1 { s1 with heap:=s1.heap.push { cls:= .type "dict_items",data:= .fields #[.ref a] } }:=I1.kept (t':=s1.toks) λb o e=>yaw _ e;have h1':(s1.heap.push { cls:= .type "dict_items",data:= .fields #[.ref a] }).get? a=some o:=yaw _ h1;have J:=I2.freeze e h1';refine wpAny_pyIter_items (knd:=aY X.prog X.w) (d:=a) ⟨_,yav _ rfl,rfl,rfl⟩ ⟨o,es,h1',h2,h3,h4⟩ ?_;have hne:a≠(s1.heap.push { cls:= .type "dict_items",data:= .fields #[.ref a] }).objs.size:=ne_of_lt (ybx h1');refine⟨_,[(s1.heap.push { cls:= .type "dict_items",data:= .fields #[.ref a] }).objs.size],_,_,_,rfl,J.kept (t':=s1.toks) λb o e=>yaw _ e,oK (o:=o) (kvs:=kvs) (es:=es) (ep:=ep) _ a hne h3,⟨zero_le _,.none,.none,by rw[kv.length];exact yav _ rfl⟩,λb hb=>?_,h o⟩;have e:b=(s1.heap.push { cls:= .type "dict_items",data:= .fields #[.ref a] }).objs.size:=by simpa using hb
 subst e;exact J.fpOk (yby _) (J.hok.fresh (yby _))
theorem qZ {H:Hp} {o:Obj} {us:List (aS×V)} {kvs:List (aS×W)}:pB K (Eb a o us) (kvs.map λp=> .tup [kW p.1,p.2]) (λG=>G a=some (.fdc o us kvs)) H where
 stop:=λi H1 G t g e hl=>by
  obtain⟨_,e1,n,r⟩:=g a _ e;have:=(DP.of n r).len;rw[length_map] at hl;exact⟨e1,by lia⟩
 go:=λi w H1 G t g eG e=>by
  obtain⟨_,e1,n,r⟩:=g a _ eG;have hl:=(DP.of n r).len;rw[List.getElem?_map] at e;cases hk:kvs[i]? with
  | none=>rw[hk] at e;cases e
  | some p=>
    rw[hk] at e;cases e;have hi:=(List.getElem?_eq_some_iff.mp hk).1;obtain⟨v,h5,rv⟩:=r.get (i:=i) (w:=p.2) (by rw[List.getElem?_map,hk];rfl);refine⟨⟨e1,by lia⟩,λx H' z9=>?_⟩;obtain⟨q,kv,hq,h1,h2,h3⟩:=z9;subst h2 h3;have h4:(us.map (·.1))[i]?=some kv.1:=by rw[List.getElem?_map,h1];rfl
    rw[n,List.getElem?_map,hk] at h4;have h4':p.1=kv.1:=Option.some.inj h4;rw[List.getElem?_map,h1] at h5;cases h5;have tn:=aT.new hq (HO.tup [kV kv.1,kv.2]);refine⟨tn,.tup bd (.cons ?_ (.cons (rv.mono tn) .nil)),g.keep hq _⟩;rw[h4'];exact t9 _
noncomputable def oM (i:Nat):WI:=λτ G r=>match τ[i]? with
 | some (some (.ref a))=>∃kvs,G a=some (.dic kvs)/\∀o us,r (kvs.map λp=> .tup [kW p.1,p.2]) (λG=>G a=some (.fdc o us kvs)) (aK G a (.fdc o us kvs))
 | _=>False
theorem ue (i:Nat) {p apos cpos:Pos} (hN:X.N[i]?=some x) (hv:AG X.env.scope x) (hd:(x==("__debug__":Str))=false:=by decide) (hcd:(x==("__classdict__":Str))=false:=by decide)
 (hbase:attributeBase (.Name x p) "items" X.env (eval (.Name x p) X.env)=eval (.Name x p) X.env:=by rfl) (hline:(apos.endLine==cpos.line)=true:=by rfl):
 QI X (.Tuple elts k tp) (.Call (.Attribute (.Name x p) "items" apos) [] [] cpos) (oM i):=
 (ud hN hv hd hcd hbase hline).imp λσ H R ⟨τ,G,r,hs,hg,ht,hR⟩=>by
   unfold oM at ht;split at ht
   ·rename_i a e;obtain⟨kvs,ea,ht⟩:=ht;obtain⟨v,e1,rv⟩:=hs.2 i _ e;cases rv;obtain⟨_,us,e2,_⟩:=hg a _ ea;refine⟨a,us,e1,e2,λo=>?_⟩;obtain⟨t,g⟩:=hg.freeze ea e2 o;exact hR _ _ _ _ _ t g qZ (ht o us)
   ·exact ht.elim
end
section
variable {X:Cx} {π:List (Addr×Obj)} {σ:St} {H:Hp} {s:Shared}
theorem oN:bootBuiltins "dict"=some (.type "dict"):=by decide+kernel
inductive wV (G:Gp) (a:Addr):Nat->Prop where
 | lst {ws:List W} (h:G a=some (.lst ws)):wV G a ws.length
 | dic {kvs:List (aS×W)} (h:GD G a kvs):wV G a kvs.length
noncomputable def ky:List W->Gp->WK->Prop:=λws G q=>match ws with
 | [.ref a]=>∃n:Nat,wV G a n/\q (.int n) G
 | ws=>tY ws G q
theorem dW:eR X (.builtin "len") ky:=by
 rintro π s σ H xs us Q I r ⟨ws,G,q,rw',g,h,hQ⟩;unfold ky at h;split at h
 ·obtain⟨n,hn,h⟩:=h;cases hn with
  | lst e=>exact xV π s σ H xs us Q I r ⟨_,G,q,rw',g,⟨_,e,h⟩,hQ⟩
  | dic hd=>
    obtain⟨v,rfl,r1⟩:=rw'.one;cases r1;obtain⟨u,rfl,ru⟩:=eV r;cases ru;obtain⟨_,us,rd,dp⟩:=hd.rd g;refine Bf I rd λt s' I'=>⟨.int us.length,H,I',⟨t,rfl⟩,hQ _ H _ G (aT.refl H) ?_ g h⟩;rw[dp.len];exact .int _
 ·exact zV π s σ H xs us Q I r ⟨ws,G,q,rw',g,h,hQ⟩
inductive zX (G:Gp) (a:Addr):List W->Prop where
 | lst {ws:List W} (h:G a=some (.lst ws)):zX G a ws
 | dic {kvs:List (aS×W)} (h:GD G a kvs):zX G a (kvs.map λp=>kW p.1)
noncomputable def oO:List W->Gp->WK->Prop:=λws G q=>match ws with
 | [.ref a]=>∃ws,zX G a ws/\∀p,G p=none->q (.ref p) (aK G p (.lst ws))
 | ws=>pz ws G q
theorem qc {P:Program} {w:World}:∀{us:List (aS×V)} {vs:List (aS×Value)} {its:ydw},KV us vs->its.length=vs.length->(∀(j:Nat) (v:Value),its[j]?=some v->∃(k:aS) (x:Value),vs[j]?=some (k,x)/\(aY P w).is k v=true)->aW (us.map λp=>kV p.1) its
 | [],_,[],.nil,_,_=> .nil
 | [],_,_::_,.nil,h,_=>by simp at h
 | _::_,_,[],.cons _ _,h,_=>by simp at h
 | p::us,_,u::its,.cons r t,h,hv=>by
   obtain⟨k,x,e1,e2⟩:=hv 0 u rfl;cases e1;refine .cons ?_ (qc (P:=P) (w:=w) t (by simpa using h) λj v e=>by simpa using hv (j+1) v (by simpa using e));show bc (kV p.1) u;rw[show p.1=k from r.1];exact p9 e2
theorem lu (hc:X.calm=true):eR X (.type "list") oO:=by
 rintro π s σ H xs us Q I r ⟨ws,G,q,rw',g,h,hQ⟩;unfold oO at h;split at h
 ·rename_i a;obtain⟨ws,hw,h⟩:=h;cases hw with
  | lst e=>exact sF π s σ H xs us Q I r ⟨_,G,q,rw',g,⟨_,e,h⟩,hQ⟩
  | dic hd=>
    obtain⟨v,rfl,r1⟩:=rw'.one;cases r1;obtain⟨u,rfl,ru⟩:=eV r;cases ru;obtain⟨hl,us,rd,dp⟩:=hd.rd g;obtain⟨zl,hm,vs,rel,dd⟩:=eW I.hok rd;obtain⟨ep,hat⟩:=dd.dictAt;refine PySem.W.kdl_call (PySem.W.kdl_dict (knd:=aY X.prog X.w) (kvs:=vs) (ep:=ep) hm) (I.ok.hd hc) hat (by rw[←rel.length];exact zl) λh' tk acc' c' kp e hacc=>?_;have rv:aW (us.map λp=>kV p.1) acc'.toList:=qc (P:=X.prog) (w:=X.w) rel (by rw[Array.length_toList];exact hacc.1) λj v e=>hacc.2 j v (by rw[←Array.getElem?_toList];exact e);have hsz:(us.map λp=>kV p.1).length<=sizeLine:=by rw[length_map];exact zl
    have hp:=I.hok.fresh (yby s.heap.objs.size);have e':h'.get? s.heap.objs.size=some { cls:= .type "list",data:= .seq acc'.toList.toArray c' }:=by simpa using e
    refine⟨.ref s.heap.objs.size,_,I.laid (t':=tk) (λb o q=>kp b o q) (yby _) (show bI X.prog X.w _ h' _ (.lst (us.map λp=>kV p.1)) from ⟨hsz,acc'.toList,c',rv,e'⟩),rfl,?_⟩;have rr:∀{kvs:List (aS×W)} {us:List (aS×V)},DP X.K H kvs us->aV X.K H (kvs.map λp=>kW p.1) (us.map λp=>kV p.1):=by
     intro kvs us d
     induction d with
     | nil=>exact .nil
     | cons r t ih=>exact .cons (t9 _) ih
    exact hQ _ _ _ _ (aT.new hp _) (.ref _) (g.put (aT.new hp _) (rr dp) (by rw[length_map];exact hl)) (h _ (g.fresh hp))
 ·exact sF π s σ H xs us Q I r ⟨ws,G,q,rw',g,h,hQ⟩
noncomputable def Ec:V->List V->Hp->VK->Prop:=λx vs H Q=>∃a kvs k d,x=.ref a/\vs=[kV k,d]/\H a=some (.dK kvs)/\Q ((kN kvs k).getD d) H
theorem zY:Ba X "dict.get" Ec:=by
 rintro π s σ H x vs v us Q I rx rv ⟨a,kvs,k,d,e1,e2,e,q⟩;subst e1 e2;cases rx;obtain⟨u1,u2,rfl,r1,r2⟩:=o5 rv;obtain⟨z,hd,vs,rel,dd⟩:=ss I.hok e;exact call_meetsIn PySem.F.slot_dict_get dd.typeIs PySem.F.entry_dict_get (PySem.F.args_dict_get_3 _ _ _) (meets_dict_get_default (aY X.prog X.w) a (mj r1) hd u2) ⟨_,dd.mapOf,_,H,I.tok _,(rel.val k).getD r2,q⟩
theorem uf {α:Type} (mk:α->aS) {o k e:Expr} {to tk te:WE} {apos cpos:Pos} (ho:QE X o to) (hk:QE X k tk) (he:QE X e te)
 (hbase:attributeBase o "get" X.env (eval o X.env)=eval o X.env:=by rfl)
 (hfew:((backTo cpos (starEach [k,e] X.env)).all (λx=>!x.1)&&(backToKw cpos (keywordEach [] X.env)).all (λx=>x.1.isSome)
   &&decide (([k,e]:List Expr).length+([]:List Keyword).length+(if ([]:List Keyword).isEmpty then 0 else 1)<30))=true:=by rfl)
 (hline:(apos.endLine==cpos.line)=true:=by rfl) (hs:starEach [k,e] X.env=(false,eval k X.env)::starEach [e] X.env:=by rfl) (hs2:starEach [e] X.env=(false,eval e X.env)::starEach [] X.env:=by rfl) (hpl:(backTo cpos (starEach [e] X.env)).any (·.1)=false:=by rfl):
 QE X (.Call (.Attribute o "get" apos) [k,e] [] cpos) (λτ G q=>to τ G λx G1=>match x with
 | .ref a=>(∃kvs,G1 a=some (.dic kvs))/\tk τ G1 λy G2=>te τ G2 λd G3=>∃z kvs,y=kW (mk z)/\G3 a=some (.dic kvs)/\q ((ef kvs (mk z)).getD d) G3
 | _=>False):=
 (xL PySem.F.plainAttrs_dict PySem.F.slot_dict_get PySem.F.type_dict_get zY ho (cM hk (cM he pa_nil hs2) hs) hbase hfew hline hs hpl).imp λσ H Q z0=>z0.el λτ G q hs hg ht hQ=>
   ⟨τ,G,_,hs,hg,ht,λv H1 w G1 t1 r1 g1 q1=>by
     split at q1
     ·rename_i a;cases r1;obtain⟨⟨kvs,e1⟩,q1⟩:=q1;obtain⟨_,us,h1,_⟩:=g1 a _ e1;refine⟨.inr (.inr (.inl ⟨rfl,.inl ⟨us,h1⟩⟩)),τ,G1,_,hs.mono t1,g1,q1,λv2 H2 w2 G2 t2 r2 g2 q2=>?_⟩;refine⟨τ,G2,_,(hs.mono t1).mono t2,g2,q2,λv3 H3 w3 G3 t3 r3 g3 q3=>?_⟩;obtain⟨z,kvs,rfl,e2,q3⟩:=q3;obtain rfl:=BZ r2;obtain⟨_,us,h2,n,rr⟩:=g3 a _ e2;refine⟨a,us,mk z,v3,rfl,rfl,h2,hQ _ _ _ _ ((t1.trans t2).trans t3) ?_ g3 q3⟩;rcases(DP.of n rr).val (mk z) with⟨e,e'⟩ | ⟨w',v',e,e',r⟩
      ·rw[e,e'];exact r3
      ·rw[e,e'];exact r
     ·exact q1.elim⟩
noncomputable def yg (to tk td:WE):WE:=λτ G q=>to τ G λx G1=>match x with
 | .ref a=>(∃kvs,G1 a=some (.dic kvs))/\tk τ G1 λy G2=>td τ G2 λd G3=>∃z kvs,y=.str z/\G3 a=some (.dic kvs)/\q ((ef kvs (.inr z)).getD d) G3
 | _=>False
theorem eO {o k e:Expr} {to tk te:WE} {apos cpos:Pos} (ho:QE X o to) (hk:QE X k tk) (he:QE X e te)
 (hbase:attributeBase o "get" X.env (eval o X.env)=eval o X.env:=by rfl)
 (hfew:((backTo cpos (starEach [k,e] X.env)).all (λx=>!x.1)&&(backToKw cpos (keywordEach [] X.env)).all (λx=>x.1.isSome)
   &&decide (([k,e]:List Expr).length+([]:List Keyword).length+(if ([]:List Keyword).isEmpty then 0 else 1)<30))=true:=by rfl)
 (hline:(apos.endLine==cpos.line)=true:=by rfl) (hs:starEach [k,e] X.env=(false,eval k X.env)::starEach [e] X.env:=by rfl) (hs2:starEach [e] X.env=(false,eval e X.env)::starEach [] X.env:=by rfl) (hpl:(backTo cpos (starEach [e] X.env)).any (·.1)=false:=by rfl):
 QE X (.Call (.Attribute o "get" apos) [k,e] [] cpos) (yg to tk te):=
 uf Sum.inr ho hk he hbase hfew hline hs hs2 hpl
inductive kz (G:Gp):W->W->Prop where
 | int (i:Int):kz G (.int i) (.int i)
 | lst {a b:Addr} {ws us:List W} (ea:G a=some (.lst ws)) (eb:G b=some (.lst us)) (f1:W.flats ws=true) (f2:W.flats us=true) (hd:W.deps ws<=8) (he:W.eqs ws us=true):kz G (.ref a) (.ref b)
inductive B2 (G:Gp) (a b:Addr):Bool->Prop where
 | lst {ws us:List W} (ea:G a=some (.lst ws)) (eb:G b=some (.lst us)) (f1:W.flats ws=true) (f2:W.flats us=true) (hd:W.deps ws<=149):B2 G a b (W.eqs ws us)
 | dic {kvs us:List (aS×W)} (ea:GD G a kvs) (eb:GD G b us) (hl:kvs.length=us.length) (hv:∀p,p∈kvs->∃w',ef us p.1=some w'/\kz G p.2 w'):B2 G a b true
noncomputable def B3:W2:=λx y G q=>match x,y with
 | .ref a,.ref b=>∃r,B2 G a b r/\q (.bl r) G
 | x,y=>vJ x y G q
noncomputable def B4:W2:=λx y G q=>match x,y with
 | .ref a,.ref b=>∃r,B2 G a b r/\q (.bl (!r)) G
 | x,y=>vK x y G q
theorem wW (hu:A.units+20<cLine) {G:Gp} {w1 w2:W} {v1 v2:V} {u1 u2:Value} (I:aI X π σ H s) (g:aO X.K H G) (h:kz G w1 w2) (r1:bN X.K H w1 v1) (r2:bN X.K H w2 v2) (q1:bc v1 u1) (q2:bc v2 u2):SeqAt.EqAt A s u1 u2 true:=by
 cases h with
 | int i=>
   cases r1;cases r2;have:=(gQ I 10 A (w1:= .int i) (w2:= .int i) (by show 0<10;decide) rfl rfl (by lia) (.int i) (.int i) q1 q2).1;rw[oF] at this;simpa using this
 | @lst a b ws us ea eb f1 f2 hd he=>
   cases r1;cases r2;cases q1;cases q2
   by_cases hne:a=b
   ·subst hne;exact SeqAt.EqAt.same _
   obtain⟨_,xs,e1,ra⟩:=g _ _ ea;obtain⟨_,ys,e2,rb⟩:=g _ _ eb;obtain⟨its,rv,p,_⟩:=I.list (cZ.of e1);obtain⟨its2,rv2,p2,_⟩:=I.list (cZ.of e2);have l1:its.length=ws.length:=by rw[←rv.length,ra.length]
   have l2:its2.length=us.length:=by rw[←rv2.length,rb.length]
   have hl:ws.length=us.length:=by
    by_cases hl:ws.length=us.length
    ·exact hl
    ·rw[kR hl] at he;cases he
   have c1:=SeqAt.RcAt.lists p.isList p2.isList (by rw[size_toArray,size_toArray,l1,l2,hl]) (A:=A) (by lia) (DT I (n:=10) (by lia) f1 f2 (by show A.units+1+10<cLine;lia) ra rb rv rv2);have er:=fg ws us;rw[←hl,Nat.min_self,beq_self_eq_true,Bool.and_true] at er;rw[size_toArray,l1,er,he] at c1;exact SeqAt.EqAt.of_refs hne c1
theorem lv (hu:A.units+20<cLine) {G:Gp} (I:aI X π σ H s) (g:aO X.K H G) {kb:List (aS×Value)} {us:List (aS×W)} {ub:List (aS×V)} (db:DP X.K H us ub) (rb:KV ub kb):
 ∀{kvs:List (aS×W)} {ua:List (aS×V)} {ka:List (aS×Value)},DP X.K H kvs ua->KV ua ka->(∀p,p∈kvs->∃w',ef us p.1=some w'/\kz G p.2 w')->PySem.W.KeqHits A s kb ka true:=by
 intro kvs ua ka d
 induction d generalizing ka with
 | nil=>
   intro r _;cases r;exact .nil
 | @cons k w v kvs ua rw' t ih=>
   intro r hv;cases r with
   | @cons _ b _ bs r1 rt=>
     obtain⟨b1,b2⟩:=b;obtain⟨e1,r2⟩:=r1;cases (show k=b1 from e1);obtain⟨w',hw,sv⟩:=hv _ yaz;rcases db.val k with⟨e,_⟩ | ⟨w2,v2,e,e',r3⟩
     ·rw[e] at hw;cases hw
     ·rw[e] at hw;cases hw;obtain⟨y,hy,ry⟩:=fG.some_of (v:=v2) (o:=valueAt kb k) (by rw[←e'];exact rb.val k);exact .hit (e:=true) (b:=true) hy (wW hu I g sv rw' r3 r2 ry) (ih rt λp hp=>hv p (yay _ hp))
theorem B5 (hr:av k X.A):gG X (compareOp .Eq) B3:=by
 rintro π s σ H x y v u Q I rx ry ⟨wx,wy,G,q,r1,r2,g,h,hQ⟩;unfold B3 at h;split at h
 ·obtain⟨r,he,h⟩:=h;cases he with
  | lst ea eb f1 f2 hd=>exact BE hr π s σ H x y v u Q I rx ry ⟨_,_,G,q,r1,r2,g,⟨_,_,ea,eb,f1,f2,hd,h⟩,hQ⟩
  | dic ea eb hl hv=>
    cases r1;cases r2;cases rx;cases ry;have hu:=hr.un;obtain⟨_,ua,ra,da⟩:=ea.rd g;obtain⟨_,ub,rb,db⟩:=eb.rd g;obtain⟨_,ma,ka,qa,dda⟩:=eW I.hok ra;obtain⟨_,mb,kb,qb,ddb⟩:=eW I.hok rb;have hlen:ka.length=kb.length:=by rw[←qa.length,←qb.length,da.len,db.len,hl]
    refine PySem.W.keq_eq ma mb dda ddb (by lia) (λ_=>lv (A:=X.A.in1) (by show X.A.units+1+20<cLine;lia) I g db qb da qa hv) ?_;rw[hlen,beq_self_eq_true,Bool.true_and];exact⟨.bl _,H,I,rfl,hQ _ H _ G (aT.refl H) (.bl _) g h⟩
 ·exact zm hr π s σ H x y v u Q I rx ry ⟨wx,wy,G,q,r1,r2,g,h,hQ⟩
theorem B6 (hr:av k X.A):gG X (compareOp .NotEq) B4:=by
 rintro π s σ H x y v u Q I rx ry ⟨wx,wy,G,q,r1,r2,g,h,hQ⟩;unfold B4 at h;split at h
 ·obtain⟨r,he,h⟩:=h;cases he with
  | lst ea eb f1 f2 hd=>exact BF hr π s σ H x y v u Q I rx ry ⟨_,_,G,q,r1,r2,g,⟨_,_,ea,eb,f1,f2,hd,h⟩,hQ⟩
  | dic ea eb hl hv=>
    cases r1;cases r2;cases rx;cases ry;have hu:=hr.un;obtain⟨_,ua,ra,da⟩:=ea.rd g;obtain⟨_,ub,rb,db⟩:=eb.rd g;obtain⟨_,ma,ka,qa,dda⟩:=eW I.hok ra;obtain⟨_,mb,kb,qb,ddb⟩:=eW I.hok rb;have hlen:ka.length=kb.length:=by rw[←qa.length,←qb.length,da.len,db.len,hl]
    refine PySem.W.keq_ne ma mb dda ddb (by lia) (λ_=>lv (A:=X.A.in1) (by show X.A.units+1+20<cLine;lia) I g db qb da qa hv) ?_;rw[hlen,beq_self_eq_true,Bool.true_and];exact⟨.bl _,H,I,rfl,hQ _ H _ G (aT.refl H) (.bl _) g h⟩
 ·exact zn hr π s σ H x y v u Q I rx ry ⟨wx,wy,G,q,r1,r2,g,h,hQ⟩
structure GF (ws:List W) (x:W) (j:Nat):Prop where
 hit:∃w,ws[j]?=some w/\w.eq x=true
 no:∀m w,m<j->ws[m]?=some w->w.eq x=false
end
section
variable {prog:Program} {w:World} {A:Around} {R:Result->Shared->Prop} {I:Addr} {fp wr:List Addr} {Gn:Array GenState->Array GenState->Prop} {n:Nat} {P:Nat->Value->Prop} {St:Nat->Shared->Prop}
end
section
variable {prog:Program} {w:World} {A:Around} {E:ydz} {s:Shared}
set_option maxHeartbeats 3200000 in
end
section
variable {X:Cx}
end
section
variable {X:Cx} {π:List (Addr×Obj)} {σ:St} {H:Hp} {s:Shared}
theorem mU {xs:Array Value} {sl:Array (Option Value)} {h:Heap} {g:_} {d:_} {t:Nat} {os:_} {Q:Option Value->Shared->Prop}
 (hx:h.get? a=some { cls:= .type "list",dict:=none,data:= .seq xs k,slots:=sl }) (hA:A.handled=none)
 (hq:∀(h':Heap) (tk:Nat),(∀(b:Addr) (o:Obj),h.get? b=some o->h'.get? b=some o)->Q none ⟨h',g,d,tk,os⟩):
 wpAny (model prog w) A (getAttr? (.ref a) "keys") Q E ⟨h,g,d,t,os⟩:=by
 unfold getAttr? getAttrBy?;have hT:∀t,(Shared.mk h g d t os).TypeIs (.ref a) "list":=λt=>⟨_,hx,rfl⟩;have f1:=PySem.sub_AttributeError;have f3:=PySem.F.slot_list_getattribute.lookup;have f4:=PySem.F.slot_list_getattribute.bind (Value.ref a);have f5:=PySem.am_list_getattr_none;refine wax ?_;unfold mkText;refine wax (wpAny_fresh' (way ?_));refine wax (wpAny_attempt ?_);unfold getAttrBy;refine wpAny_holding ?_;refine wax ?_;unfold typeOf;refine wax (wpAny_loadPart' hx (way ?_));refine wax (wpAny_of_eq f3 ?_);refine wpAny_ite_false (by rfl) ?_;unfold getAttrByItsOwn;refine wax ?_;unfold hookBefore;refine wpAny_ite_false (by rfl) (way ?_);refine wax (wpAny_attempt ?_);refine wpAny_holding ?_;unfold callGetattribute;refine wpAny_ite_false (by rfl) ?_;refine wax (wpAny_of_eq f4 ?_);refine call_meets PySem.F.slot_list_getattribute (hT _) PySem.am_entry_list_getattribute (PySem.F.args_list_getattribute_2 _ _) (PySem.meets_getattribute_miss_list a xs k sl "keys" t (by rfl) (by decide)) ⟨hx,?_⟩;refine⟨hA,λh' tk e hx'=>?_⟩;have te:(Shared.mk h' g d tk os).TypeIs (.ref e) "AttributeError":=by
  obtain⟨t1,u1,e1⟩:=hx'.there;exact⟨_,e1,rfl⟩
 show wpAny _ _ (getattributeRaised _ _ _ _ _ _ _) _ _ _;unfold getattributeRaised;refine wax (wpAny_isInstance te f1 ?_);refine wpAny_ite_true (by rfl) ?_;unfold hookBehind hookOrError;refine wax (wpAny_ite_false (by rfl) (wpAny_of_eq f5 ?_));show wpAny _ _ (attributeErrorLeaves _ _ _ _ _) _ _ _;unfold attributeErrorLeaves
 repeat (any_goals (first | assumption | wp_step))
 exact hq h' tk hx'.keeps
set_option maxHeartbeats 4000000 in
theorem iz:entryFor table "dict.update.loop"=some Builtin.«dict.update.loop»:=by rfl
theorem mV {prog:Program} {w:World} {A:Around} (hA:A.handled=none) {d it l:Addr} (hdi:d≠it) (hdl:d≠l) (hil:it≠l) {items:Array Value} {R:Result->Shared->Prop}:
 ∀(ps:List (aS×Value)) (i:Nat) (s:Shared) (kvs:List (aS×Value)) (tok:Tok),i+ps.length=items.size->s.heap.IsListIter it l i->s.heap.IsList l items->s.heap.DictOf (aY prog w) d kvs->
 (∀(j:Nat) (p:aS×Value),ps[j]?=some p->∃t k,items[i+j]?=some (.ref t)/\t≠d/\t≠it/\s.heap.IsTuple t #[k,p.2]/\(aY prog w).is p.1 k=true)->
 kvs.length+ps.length<=sizeLine->
 (∀(h':Heap) (tk:Nat),(∀(b:Addr) (o:Obj),b≠d->b≠it->s.heap.get? b=some o->h'.get? b=some o)->h'.DictOf (aY prog w) d (ps.foldl (λkvs p=>stored kvs p.1 p.2) kvs)->R (.ok (.ret .none)) ⟨h',s.gens,s.drawn,tk,s.os⟩)->
 codeAny (model prog w) A (.builtin "dict.update.loop" ⟨[.ref d,.ref it,.int (i:Int) tok,.none],[]⟩) R s
 | [],i,s,kvs,tok,hn,hi,hl,hd,hp,hz,hR=>by
   refine codeAny_builtin iz ?_;unfold Builtin.«dict.update.loop»;dsimp only;refine wax (wpAny_pyNext_list_end (by exact hA) hi hl (by simp at hn ⊢;lia) λh' eb=>?_);dsimp only;refine wax ?_;unfold Builtin.Dict.addKeywords;refine wax (way (way (way ?_)));refine hR h' s.toks (λb o _ hb e=>eb b o hb e) ?_;obtain⟨o,es,ep,e,c⟩:=hd;exact⟨o,es,ep,eb d o hdi e,c⟩
 | p::ps,i,s,kvs,tok,hn,hi,hl,hd,hp,hz,hR=>by
   refine codeAny_builtin iz ?_;unfold Builtin.«dict.update.loop»;dsimp only;obtain⟨t,k,e1,td,ti,e2,e3⟩:=hp 0 p rfl;refine wax (wpAny_pyNext_list_item hi hl e1 λh' hi' sb=>?_);dsimp only;refine wax (wpAny_holding ?_);refine wax ?_;refine wpAny_tryCatch ?_;obtain⟨o,g1,g2,n,g3⟩:=e2;have g1':h'.get? t=some o:=(sb.2 t ti).trans g1;unfold Builtin.Dict.pairItems;refine wax (wpAny_typeOf (T:="tuple") ⟨o,g1',g2⟩ ?_);refine wpAny_ite_true (by rfl) ?_;refine wax (wpAny_seqItems g1' g3 (way ?_));show wpAny _ _ (holding [k,p.2] (dictSet d k p.2)) _ _ _;have hz':kvs.length+(ps.length+1)<=sizeLine:=hz;refine wpAny_holding (wpAny_dictSet_pairs e3 (hd.sameBut sb hdi) (λh2 hd2 sb2=>way ⟨PySem.Code.quiet_builtin _ (by decide+kernel),?_⟩) (by lia));have k2:∀b,b≠d->b≠it->h2.get? b=s.heap.get? b:=λb h1 h2=>(sb2.2 b h1).trans (sb.2 b h2);have hn':i+(ps.length+1)=items.size:=hn;refine mV (items:=items) hA hdi hdl hil ps (i+1) ⟨h2,s.gens,s.drawn,s.toks+1,s.os⟩ (stored kvs p.1 p.2) 0 (by lia) ?_ ?_ hd2 (λj q hq=>?_) ?_ λh3 tk kp hd3=>?_
   ·obtain⟨o1,e1,c1⟩:=hi';exact⟨o1,(sb2.2 it hdi.symm).trans e1,c1⟩
   ·obtain⟨o1,e1,c1⟩:=hl;exact⟨o1,(k2 l hdl.symm hil.symm).trans e1,c1⟩
   ·obtain⟨t',k',a1,a2,a3,⟨o1,a4,a5⟩,a6⟩:=hp (j+1) q hq;exact⟨t',k',by rw[show i+1+j=i+(j+1) by lia];exact a1,a2,a3,⟨o1,(k2 t' a2 a3).trans a4,a5⟩,a6⟩
   ·have:=PySem.stored_length_le kvs p.1 p.2;show(stored kvs p.1 p.2).length+ps.length<=sizeLine;lia
   ·exact hR h3 tk (λb o h1 h2 e=>kp b o h1 h2 ((k2 b h1 h2).trans e)) hd3
theorem oP (hA:A.handled=none) (hb:sysModules<s.heap.objs.size) {l:Addr} {n:Nat} {sl:Array (Option Value)} {ps:List (aS×Value)}
 (hl:s.heap.get? l=some { cls:= .type "list",dict:=none,data:= .seq items n,slots:=sl }) (hn:ps.length=items.size) (hz:ps.length<=sizeLine)
 (hp:∀(j:Nat) (p:aS×Value),ps[j]?=some p->∃t k,items[j]?=some (.ref t)/\s.heap.IsTuple t #[k,p.2]/\(aY prog w).is p.1 k=true)
 (hQ:∀(h':Heap) (tk:Nat),(∀(b:Addr) (o:Obj),s.heap.get? b=some o->h'.get? b=some o)->h'.DictOf (aY prog w) s.heap.objs.size (ps.foldl (λkvs p=>stored kvs p.1 p.2) [])->Q (.ref s.heap.objs.size) ⟨h',s.gens,s.drawn,tk,s.os⟩):
 wpAny (model prog w) A (call (.type "dict") [.ref l]) Q E s:=by
 refine callType_codes PySem.F.kt_called_dict (PySem.F.kt_typeCall_dict_1 (.ref l)) PySem.F.entry_dict_init (kt_code_dict_new (.ref l) (Q₁:=λobj s₁=>obj=.ref s.heap.objs.size/\s₁={ s with heap:=s.heap.push { cls:= .type "dict",data:= .dict #[] } }) ⟨rfl,rfl⟩) λobj s₁ a=>?_;obtain⟨rfl,rfl⟩:=a;have hnew:=PySem.Heap.DictOf.new (knd:=aY prog w) s.heap;have hpu:∀b o,s.heap.get? b=some o->(s.heap.push { cls:= .type "dict",data:= .dict #[] }).get? b=some o:=λb o e=>yaw _ e;refine⟨PySem.Heap.DictOf.typeIs hnew,PySem.F.args_dict_init_2 _ _,?_⟩;unfold Builtin.«dict.__init__»;refine wax ?_;unfold Builtin.Dict.selfAndRest;refine wax (wpAny_notOrdered_dict (PySem.Heap.DictOf.typeIs hnew) (way ?_));show wpAny _ _ (Builtin.Dict.updateFrom "dict.__init__" s.heap.objs.size (.ref l) [] .none) _ _ _;unfold Builtin.Dict.updateFrom;refine wax (wpAny_typeOf (T:="list") ⟨_,hpu _ _ hl,rfl⟩ ?_);refine wpAny_ite_true (by rfl) ?_;refine wax (mU (hpu _ _ hl) (by exact hA) λh1 tk k1=>?_);refine wpAny_ite_true (by rfl) ?_;refine wax (wpAny_rule ?_);have hl1:=k1 _ _ (hpu _ _ hl);refine wax (wpAny_pyIter_list (items:=items) ⟨_,hl1,rfl,n,rfl⟩ ?_);obtain⟨od,es,ep,ed,hnew'⟩:=hnew;have ed1:=k1 _ _ ed;have d1:=ybx ed1;have l0:=ybx hl;have l1:=ybx hl1;have kk:∀b o,s.heap.get? b=some o->(h1.push { cls:= .type "list_iterator",data:= .fields #[.ref l,.int 0 0] }).get? b=some o:=λb o e=>yaw _ (k1 _ _ (hpu _ _ e));refine way ⟨PySem.Code.quiet_builtin _ (by decide+kernel),mV (A:=A.in1) (items:=items) (l:=l) hA (ne_of_lt d1) (Nat.ne_of_gt l0) (Nat.ne_of_gt l1) ps 0 _ [] 0 (by lia) ⟨_,yav _ rfl,rfl,rfl⟩ ⟨_,kk _ _ hl,rfl,n,rfl⟩ ⟨od,es,ep,yaw _ ed1,hnew'⟩ (λj p hj=>?_) (by simpa using hz) λh' tk' kp hd'=>⟨rfl,hQ h' tk' (λb o e=>kp b o (ne_of_lt (ybx e)) (ne_of_lt (ybx (k1 _ _ (hpu _ _ e)))) (kk b o e)) hd'⟩⟩;obtain⟨t,k,e1,⟨o,e2,e3⟩,e4⟩:=hp j p hj;exact⟨t,k,by rw[Nat.zero_add];exact e1,ne_of_lt (ybx e2),ne_of_lt (ybx (k1 _ _ (hpu _ _ e2))),⟨o,kk _ _ e2,e3⟩,e4⟩
inductive zZ (G:Gp) (a:Addr) (kvs:List (aS×W)):Prop where
 | dic (h:GD G a kvs):zZ G a kvs
 | lst {ps:List (aS×W)} (h:G a=some (.lst (ps.map λp=> .tup [kW p.1,p.2]))) (e:kvs=ps.foldl (λa p=>dg a p.1 p.2) []):zZ G a kvs
noncomputable def Aa:List W->Gp->WK->Prop:=λws G q=>match ws with
 | [.ref a]=>∃kvs,zZ G a kvs/\∀p,G p=none->q (.ref p) (aK G p (.dic kvs))
 | _=>False
theorem mW:∀(ps:List (aS×W)) (kvs:List (aS×W)),(ps.foldl (λa p=>dg a p.1 p.2) kvs).length<=kvs.length+ps.length
 | [],kvs=>yby _
 | p::ps,kvs=>by
   have h1:=mW ps (dg kvs p.1 p.2);have h2:=dH kvs p.1 p.2;simp only[List.foldl_cons,length_cons];lia
theorem qd:∀{qs:List (aS×V)} {ps:List (aS×Value)},KV qs ps->∀{kvs:List (aS×V)} {vs:List (aS×Value)},KV kvs vs->KV (qs.foldl (λa p=>gM a p.1 p.2) kvs) (ps.foldl (λa p=>stored a p.1 p.2) vs)
 | _,_,.nil,_,_,h=>h
 | q::qs,p::ps,.cons r t,_,_,h=>qd (qs:=qs) (ps:=ps) t (by show KV (gM _ q.1 q.2) (stored _ p.1 p.2);rw[show p.1=q.1 from r.1.symm];exact h.put q.1 r.2)
theorem qe {K:yax}:∀{ps:List (aS×W)} {qs:List (aS×V)},DP K H ps qs->∀{kvs:List (aS×W)} {us:List (aS×V)},DP K H kvs us->DP K H (ps.foldl (λa p=>dg a p.1 p.2) kvs) (qs.foldl (λa p=>gM a p.1 p.2) us)
 | _,_,.nil,_,_,h=>h
 | _,_,.cons r t,_,_,h=>qe t (h.put _ r)
theorem wX {k:aS} {v:V} (r:bN K H (kW k) v):v=kV k:=by
 cases k with
 | inl i=>cases r;rfl
 | inr z=>cases r;rfl
theorem mX (I:aI X π σ H s):∀{ps:List (aS×W)} {xs:List V} {its:ydw},aV X.K H (ps.map λp=> .tup [kW p.1,p.2]) xs->aW xs its->
 ∃(qs:List (aS×V)) (vs:List (aS×Value)),DP X.K H ps qs/\KV qs vs/\vs.length=its.length/\∀(j:Nat) (p:aS×Value),vs[j]?=some p->∃t k,its[j]?=some (.ref t)/\s.heap.IsTuple t #[k,p.2]/\(aY X.prog X.w).is p.1 k=true
 | [],_,_,.nil,.nil=>⟨[],[],.nil,.nil,rfl,λj p h=>by cases h⟩
 | (k,w)::ps,_,[],.cons r rs,z=>by cases z
 | (k,w)::ps,_,u::its,.cons r rs,.cons v vs=>by
   obtain⟨qs,ys,h1,h2,h3,h4⟩:=mX I rs vs;cases r with
   | @tup t _ zs hT rr=>
     cases (show u=Value.ref t from v);obtain⟨its2,rv,hp,_⟩:=I.tuple (cU.of hT);cases rr with
     | cons r1 rr=>
       cases rr with
       | cons r2 rr=>
         cases rr;obtain⟨u1,u2,rfl,ru1,ru2⟩:=oj rv;rw[wX r1] at ru1;refine⟨_,(k,u2)::ys,.cons r2 h1,.cons ⟨rfl,ru2⟩ h2,by simp[h3],λj p hj=>?_⟩;cases j with
         | zero=>
           cases hj;exact⟨t,u1,rfl,hp,mj (P:=X.prog) (w:=X.w) ru1⟩
         | succ j=>exact h4 j p hj
theorem ug (hc:X.calm=true):eR X (.type "dict") Aa:=by
 rintro π s σ H xs us Q I r ⟨ws,G,q,rw',g,h,hQ⟩;unfold Aa at h;split at h
 ·rename_i a;obtain⟨kvs,hs,h⟩:=h;obtain⟨v,rfl,r1⟩:=rw'.one;cases r1;obtain⟨u,rfl,ru⟩:=eV r;cases ru;have hp:=I.hok.fresh (yby s.heap.objs.size);cases hs with
  | dic hd=>
    obtain⟨hl,us,rd,dp⟩:=hd.rd g;obtain⟨zl,hm,vs,rel,dd⟩:=eW I.hok rd;refine kt_call_dict hm dd (by rw[←rel.length];exact zl) λh' hd' sb=>?_;refine⟨.ref s.heap.objs.size,_,I.laid (t':=s.toks) (λb o q=>(sb.2 b (ne_of_lt (ybx q))).trans (yaw _ q)) (yby _) (show bI X.prog X.w _ h' _ (.dK us) from ⟨zl,beq_eq_false_iff_ne.mpr (Ne.symm (ne_of_lt I.big)),vs,rel,hd'⟩),rfl,?_⟩;exact hQ _ _ _ _ (aT.new hp _) (.ref _) (g.lay (g:= .dic kvs) (aT.new hp _) ⟨hl,us,bd,dp.keys,(dp.mono (aT.new hp _)).vals⟩) (h _ (g.fresh hp))
  | @lst ps e ek=>
    subst ek;obtain⟨hl,xs,eH,rr⟩:=g a _ e;obtain⟨zl,its,c,rv,eo⟩:=I.hok a _ eH;obtain⟨qs,vs,dp,kv,hn,ht⟩:=mX I rr rv;have hll:ps.length<=100000:=by simpa using hl
    have hqs:=dp.len;have hvs:=kv.length;have fl:=mW ps [];have fd:=qe dp (H:=H) (K:=X.K) .nil;have fk:=qd kv (kvs:=[]) (vs:=[]) .nil;have hz:(qs.foldl (λa p=>gM a p.1 p.2) []).length<=sizeLine:=by
     rw[fd.len];exact bR (by simp only[length_nil] at fl;lia)
    refine oP (I.ok.hd hc) I.big eo (by rw[hn];simp) (bR (by lia)) (λj p hj=>?_) λh' tk kp hd'=>?_
    ·obtain⟨t,k,e1,e2,e3⟩:=ht j p hj;exact⟨t,k,by simpa using e1,e2,e3⟩
    ·refine⟨.ref s.heap.objs.size,_,I.laid (t':=tk) kp (yby _) (show bI X.prog X.w _ h' _ (.dK (qs.foldl (λa p=>gM a p.1 p.2) [])) from ⟨hz,beq_eq_false_iff_ne.mpr (Ne.symm (ne_of_lt I.big)),_,fk,hd'⟩),rfl,?_⟩;exact hQ _ _ _ _ (aT.new hp _) (.ref _) (g.lay (g:= .dic (ps.foldl (λa p=>dg a p.1 p.2) [])) (aT.new hp _) ⟨by simp only[length_nil] at fl;lia,_,bd,fd.keys,(fd.mono (aT.new hp _)).vals⟩) (h _ (g.fresh hp))
 ·exact h.elim
end
section
variable {prog:Program} {w:World} {A:Around} {s:Shared}
noncomputable def jq (prog:Program) (w:World) (A:Around) (s:Shared) (u v:Value):Prop:=∀(E:ydz) (Q:Bool->Shared->Prop),Q true s->wpAny (model prog w) A (eqBool u v) Q E s
theorem jq.of {u v:Value} (h:SeqAt.EqAt A s u v true):jq prog w A s u v:=λE Q q=>h prog w E Q q
theorem jq.refs {l b:Addr} (h:l≠b->∀(E:ydz) (Q:ydz),Q (.bool true) s->wpAny (model prog w) A (richCompare .Eq (.ref l) (.ref b)) Q E s):jq prog w A s (.ref l) (.ref b):=by
 by_cases hne:l=b
 ·subst hne;exact .of (SeqAt.EqAt.same _)
 ·exact λE Q q=>wpAny_holding (wpAny_ite_split (λhab=>absurd (by have:=eq_of_beq hab;injection this) hne) λ_=>wax (h hne E _ (wpAny_truthy_bool q)))
theorem wY {l b:Addr} {x1 x2 y1 y2:Value} (hl:s.heap.IsTuple l #[x1,x2]) (hb:s.heap.IsTuple b #[y1,y2]) (hu:A.units<cLine) (h1:jq prog w A.in1 s x1 y1) (h2:jq prog w A.in1 s x2 y2) (E:ydz) (Q:ydz) (q:Q (.bool true) s):
 wpAny (model prog w) A (richCompare .Eq (.ref l) (.ref b)) Q E s:=by
 obtain⟨o1,e1,c1,n1,d1⟩:=id hl;obtain⟨o2,e2,c2,n2,d2⟩:=id hb;refine wpAny_richCompare_same_room (T:="tuple") ⟨o1,e1,c1⟩ ⟨o2,e2,c2⟩ PySem.F.slot_tuple_eq (wpAny_call_entry PySem.F.slot_tuple_eq ⟨o1,e1,c1⟩ PySem.F.entry_tuple_eq ?_ (PySem.F.args_tuple_eq_2 _ _)) hu;unfold Builtin.«tuple.__eq__»
 k_delta "compare"
 refine wax ?_;unfold slotArgs;refine wpAny_ite_false (by rfl) (wpAny_ite_false (by rfl) (way ?_));dsimp only;refine wax (wpAny_isInstance (T:="tuple") (b:=true) ⟨o2,e2,c2⟩ (by rfl) ?_);refine wpAny_ite_false (by rfl) ?_;refine wax (wpAny_tupleItemsOf e1 d1 ?_);refine wax (wpAny_tupleItemsOf e2 d2 ?_);rw[show(#[x1,x2]:Array Value).toList.zip (#[y1,y2]:Array Value).toList=[(x1,y1),(x2,y2)] from rfl];simp only[List.forIn_cons,List.forIn_nil];refine wax (wax (wax (h1 _ _ ?_)));refine wpAny_ite_false (by rfl) (way ?_);dsimp only;refine wax (wax (h2 _ _ ?_));refine wpAny_ite_false (by rfl) (way ?_);refine way ?_;dsimp only;exact way ⟨.bool true,rfl,(λz=>nomatch z),q⟩
theorem lw {c:Int} {r:Bool} (hc:(c=2/\r=true)∨(c=3/\r=false)) {l b:Addr} {items items2:Array Value} {o1 o2:Obj} {n1 n2:Nat} (e1:s.heap.get? l=some o1) (d1:o1.data=.seq items n1) (e2:s.heap.get? b=some o2) (d2:o2.data=.seq items2 n2) (hz:items.size=items2.size) {R:Result->Shared->Prop}
 (he:∀(j:Nat) (u v:Value),items[j]?=some u->items2[j]?=some v->jq prog w A.in1 s u v) (hR:R (.ok (.ret (.bool r))) s):
 ∀(m i:Nat) (t t':Tok),i+m=items.size->codeAny (model prog w) A (.builtin "list.__eq__.loop" ⟨[.ref l,.ref b,.int (i:Int) t,.int c t'],[]⟩) R s
 | 0,i,t,t',hi=>by
   refine codeAny_builtin PySem.MeetsSeq3.entry_eq_loop ?_;have n1:items[i]?=none:=by simp;lia
   unfold Builtin.«list.__eq__.loop»
   k_delta "cmpOps"
   rcases hc with⟨rfl,rfl⟩ | ⟨rfl,rfl⟩
   ·dsimp only;rw[show(([CmpOp.Lt,CmpOp.LtE,CmpOp.Eq,CmpOp.NotEq,CmpOp.Gt,CmpOp.GtE]:List CmpOp)[Int.toNat 2]?)=some CmpOp.Eq from rfl];refine wax (wpAny_listItems e1 d1 (wax (wpAny_listItems e2 d2 ?_)));rw[Int.toNat_natCast,n1];refine wax (wpAny_listItems e1 d1 (wax (wpAny_listItems e2 d2 ?_)));refine way ?_;show R (Except.ok (Flow.ret (Value.bool (items.size==items2.size)))) s;rw[hz,beq_self_eq_true];exact hR
   ·dsimp only;rw[show(([CmpOp.Lt,CmpOp.LtE,CmpOp.Eq,CmpOp.NotEq,CmpOp.Gt,CmpOp.GtE]:List CmpOp)[Int.toNat 3]?)=some CmpOp.NotEq from rfl];refine wax (wpAny_listItems e1 d1 (wax (wpAny_listItems e2 d2 ?_)));rw[Int.toNat_natCast,n1];refine wax (wpAny_listItems e1 d1 (wax (wpAny_listItems e2 d2 ?_)));refine way ?_;show R (Except.ok (Flow.ret (Value.bool (items.size !=items2.size)))) s;rw[hz,bne_self_eq_false];exact hR
 | m+1,i,t,t',hi=>by
   have ih:=lw hc e1 d1 e2 d2 hz he hR m (i+1) 0 0 (by lia);refine codeAny_builtin PySem.MeetsSeq3.entry_eq_loop ?_;have l1:i<items.size:=by lia
   have n1:items[i]?=some items[i]:=by simp
   have n2:items2[i]?=some (items2[i]'(by lia)):=by simp
   unfold Builtin.«list.__eq__.loop»
   k_delta "cmpOps"
   rcases hc with⟨rfl,rfl⟩ | ⟨rfl,rfl⟩
   ·dsimp only;rw[show(([CmpOp.Lt,CmpOp.LtE,CmpOp.Eq,CmpOp.NotEq,CmpOp.Gt,CmpOp.GtE]:List CmpOp)[Int.toNat 2]?)=some CmpOp.Eq from rfl];refine wax (wpAny_listItems e1 d1 (wax (wpAny_listItems e2 d2 ?_)));rw[Int.toNat_natCast,n1,n2];refine wax (he i _ _ n1 n2 _ _ ?_);refine wpAny_ite_true (by rfl) ?_;exact way ⟨PySem.plainId_quiet PySem.MeetsSeq3.plain_eq_loop _,ih⟩
   ·dsimp only;rw[show(([CmpOp.Lt,CmpOp.LtE,CmpOp.Eq,CmpOp.NotEq,CmpOp.Gt,CmpOp.GtE]:List CmpOp)[Int.toNat 3]?)=some CmpOp.NotEq from rfl];refine wax (wpAny_listItems e1 d1 (wax (wpAny_listItems e2 d2 ?_)));rw[Int.toNat_natCast,n1,n2];refine wax (he i _ _ n1 n2 _ _ ?_);refine wpAny_ite_true (by rfl) ?_;exact way ⟨PySem.plainId_quiet PySem.MeetsSeq3.plain_eq_loop _,ih⟩
theorem wZ {op:CmpOp} {r:Bool} (hop:(op=.Eq/\r=true)∨(op=.NotEq/\r=false)) {l b:Addr} {items items2:Array Value} (hl:s.heap.IsList l items) (hb:s.heap.IsList b items2) (hz:items.size=items2.size) (hu:A.units<cLine)
 (he:∀(j:Nat) (u v:Value),items[j]?=some u->items2[j]?=some v->jq prog w A.in1 s u v) (E:ydz) (Q:ydz) (q:Q (.bool r) s):
 wpAny (model prog w) A (richCompare op (.ref l) (.ref b)) Q E s:=by
 obtain⟨o1,e1,c1,n1,d1⟩:=id hl;obtain⟨o2,e2,c2,n2,d2⟩:=id hb;rcases hop with⟨rfl,rfl⟩ | ⟨rfl,rfl⟩
 ·refine wpAny_richCompare_same_room (T:="list") ⟨o1,e1,c1⟩ ⟨o2,e2,c2⟩ PySem.F.slot_list_eq (call_meetsIn PySem.F.slot_list_eq ⟨o1,e1,c1⟩ PySem.F.entry_list_eq (PySem.F.args_list_eq_2 _ _) (S:=λA' R s'=>A'=A/\s'=s/\R (.ok (.ret (.bool true))) s) ?_ ⟨rfl,rfl,(λz=>nomatch z),q⟩) hu;rintro A' R s' ⟨rfl,rfl,hR⟩;unfold Builtin.«list.__eq__»
  k_delta "listCompare"
  refine wax ?_;unfold slotArgs;refine wpAny_ite_false (by rfl) (wpAny_ite_false (by rfl) (way ?_));dsimp only;refine wax (wpAny_isInstance (T:="list") (b:=true) ⟨o2,e2,c2⟩ PySem.AutoSeq1.sub_list_list ?_);refine wpAny_ite_false (by rfl) ?_;refine wpAny_ite_true (by rfl) ?_;refine wax (wpAny_listItems e1 d1 (wax (wpAny_listItems e2 d2 ?_)));refine wpAny_ite_false (by rw[hz,bne_self_eq_false];rfl) ?_;exact way ⟨PySem.plainId_quiet PySem.MeetsSeq3.plain_eq_loop _,lw (.inl ⟨rfl,rfl⟩) e1 d1 e2 d2 hz he hR items.size 0 0 0 (by lia)⟩
 ·refine wpAny_richCompare_same_room (T:="list") ⟨o1,e1,c1⟩ ⟨o2,e2,c2⟩ PySem.F.slot_list_ne (call_meetsIn PySem.F.slot_list_ne ⟨o1,e1,c1⟩ PySem.F.entry_list_ne (PySem.F.args_list_ne_2 _ _) (S:=λA' R s'=>A'=A/\s'=s/\R (.ok (.ret (.bool false))) s) ?_ ⟨rfl,rfl,(λz=>nomatch z),q⟩) hu;rintro A' R s' ⟨rfl,rfl,hR⟩;unfold Builtin.«list.__ne__»
  k_delta "listCompare"
  refine wax ?_;unfold slotArgs;refine wpAny_ite_false (by rfl) (wpAny_ite_false (by rfl) (way ?_));dsimp only;refine wax (wpAny_isInstance (T:="list") (b:=true) ⟨o2,e2,c2⟩ PySem.AutoSeq1.sub_list_list ?_);refine wpAny_ite_false (by rfl) ?_;refine wpAny_ite_true (by rfl) ?_;refine wax (wpAny_listItems e1 d1 (wax (wpAny_listItems e2 d2 ?_)));refine wpAny_ite_false (by rw[hz,bne_self_eq_false];rfl) ?_;exact way ⟨PySem.plainId_quiet PySem.MeetsSeq3.plain_eq_loop _,lw (.inr ⟨rfl,rfl⟩) e1 d1 e2 d2 hz he hR items.size 0 0 0 (by lia)⟩
end
section
variable {X:Cx} {π:List (Addr×Obj)} {σ:St} {H:Hp} {s:Shared}
inductive gp (G:Gp):Nat->W->W->Prop where
 | flat {n:Nat} {x y:W} (f1:x.flat=true) (f2:y.flat=true) (hd:x.dep<=140) (he:x.eq y=true):gp G n x y
 | same {n:Nat} {a:Addr}:gp G n (.ref a) (.ref a)
 | dic {n:Nat} {a b:Addr} {kvs us:List (aS×W)} (ea:GD G a kvs) (eb:GD G b us) (hl:kvs.length=us.length) (hv:∀p,p∈kvs->∃w',ef us p.1=some w'/\kz G p.2 w'):gp G n (.ref a) (.ref b)
 | pair {n:Nat} {x1 x2 y1 y2:W} (h1:gp G n x1 y1) (h2:gp G n x2 y2):gp G (n+1) (.tup [x1,x2]) (.tup [y1,y2])
theorem q0 {G:Gp} (I:aI X π σ H s) (g:aO X.K H G) {n:Nat} {w1 w2:W} (h:gp G n w1 w2):∀{A:Around} {v1 v2:V} {u1 u2:Value},A.units+n+160<cLine->bN X.K H w1 v1->bN X.K H w2 v2->bc v1 u1->bc v2 u2->jq X.prog X.w A s u1 u2:=by
 induction h with
 | @flat n x y f1 f2 hd he=>
   intro A v1 v2 u1 u2 hu r1 r2 q1 q2;have:=(gQ I 150 A (w1:=x) (w2:=y) (by lia) f1 f2 (by lia) r1 r2 q1 q2).1;rw[he] at this;exact .of this
 | same=>
   intro A v1 v2 u1 u2 hu r1 r2 q1 q2;cases r1;cases r2;cases q1;cases q2;exact .of (SeqAt.EqAt.same _)
 | @dic n a b kvs us ea eb hl hv=>
   intro A v1 v2 u1 u2 hu r1 r2 q1 q2;cases r1;cases r2;cases q1;cases q2;obtain⟨_,ua,ra,da⟩:=ea.rd g;obtain⟨_,ub,rb,db⟩:=eb.rd g;obtain⟨_,ma,ka,qa,dda⟩:=eW I.hok ra;obtain⟨_,mb,kb,qb,ddb⟩:=eW I.hok rb;have hlen:ka.length=kb.length:=by rw[←qa.length,←qb.length,da.len,db.len,hl]
   refine jq.refs λhne E Q q=>?_;refine PySem.W.keq_eq ma mb dda ddb (by lia) (λ_=>lv (A:=A.in1) (by show A.units+1+20<cLine;lia) I g db qb da qa hv) ?_;rw[hlen,beq_self_eq_true,Bool.true_and];exact q
 | @pair n x1 x2 y1 y2 h1 h2 ih1 ih2=>
   intro A v1 v2 u1 u2 hu r1 r2 q1 q2;cases r1 with
   | @tup a _ xs hT rr=>
     cases r2 with
     | @tup b _ ys hT2 rr2=>
       cases (show u1=Value.ref a from q1);cases (show u2=Value.ref b from q2);obtain⟨its,rv,hp,_⟩:=I.tuple (cU.of hT);obtain⟨its2,rv2,hp2,_⟩:=I.tuple (cU.of hT2);cases rr with
       | cons a1 rr=>
         cases rr with
         | cons a2 rr=>
           cases rr;cases rr2 with
           | cons b1 rr2=>
             cases rr2 with
             | cons b2 rr2=>
               cases rr2;obtain⟨p1,p2,rfl,c1,c2⟩:=oj rv;obtain⟨t1,t2,rfl,d1,d2⟩:=oj rv2;exact jq.refs λhne E Q q=>wY hp hp2 (by lia) (ih1 (A:=A.in1) (by show A.units+1+n+160<cLine;lia) a1 b1 c1 d1) (ih2 (A:=A.in1) (by show A.units+1+n+160<cLine;lia) a2 b2 c2 d2) E Q q
inductive Ab (G:Gp) (a b:Addr):Bool->Prop where
 | old {r:Bool} (h:B2 G a b r):Ab G a b r
 | nil {ws:List W} (ea:G a=some (.lst ws)) (eb:G b=some (.lst [])):Ab G a b ws.isEmpty
 | deep {ws us:List W} (ea:G a=some (.lst ws)) (eb:G b=some (.lst us)) (hl:ws.length=us.length) (he:∀(j:Nat) (x y:W),ws[j]?=some x->us[j]?=some y->gp G 9 x y):Ab G a b true
noncomputable def gZ:W2:=λx y G q=>match x,y with
 | .ref a,.ref b=>∃r,Ab G a b r/\q (.bl r) G
 | x,y=>vJ x y G q
noncomputable def mY:W2:=λx y G q=>match x,y with
 | .ref a,.ref b=>∃r,Ab G a b r/\q (.bl (!r)) G
 | x,y=>vK x y G q
theorem iO (hr:av k X.A) {op:CmpOp} {r:Bool} (hop:(op=.Eq/\r=true)∨(op=.NotEq/\r=false)) {G:Gp} (I:aI X π σ H s) (g:aO X.K H G) {a b:Addr} {ws us:List W} (ea:G a=some (.lst ws)) (eb:G b=some (.lst us)) (hl:ws.length=us.length)
 (he:∀(j:Nat) (x y:W),ws[j]?=some x->us[j]?=some y->gp G 9 x y) (E:ydz) (Q:ydz) (q:Q (.bool r) s):wpAny (model X.prog X.w) X.A (richCompare op (.ref a) (.ref b)) Q E s:=by
 have hu:=hr.un;obtain⟨_,xs,e1,ra⟩:=g _ _ ea;obtain⟨_,ys,e2,rb⟩:=g _ _ eb;obtain⟨its,rv,p,_⟩:=I.list (cZ.of e1);obtain⟨its2,rv2,p2,_⟩:=I.list (cZ.of e2);have l1:its.length=ws.length:=by rw[←rv.length,ra.length]
 have l2:its2.length=us.length:=by rw[←rv2.length,rb.length]
 refine wZ hop p.isList p2.isList (by rw[size_toArray,size_toArray,l1,l2,hl]) (by lia) (λj u v hj hv=>?_) E Q q;rw[List.getElem?_toArray] at hj hv;have j1:j<ws.length:=by
  rw[←l1];exact(List.getElem?_eq_some_iff.mp hj).1
 have gw:=ybw j1;have gu:=ybw (show j<us.length by lia);obtain⟨x,hx,rx⟩:=ra.get gw;obtain⟨y,hy,ry⟩:=rb.get gu;obtain⟨u',hu',qu⟩:=rv.get hx;obtain⟨v',hv',qv⟩:=rv2.get hy;rw[hj] at hu';rw[hv] at hv';cases hu';cases hv';exact q0 I g (he j _ _ gw gu) (A:=X.A.in1) (by show X.A.units+1+9+160<cLine;lia) rx ry qu qv
theorem uh (hr:av k X.A) {G:Gp} (I:aI X π σ H s) (g:aO X.K H G) {a b:Addr} {x:W} {ws:List W} (ea:G a=some (.lst (x::ws))) (eb:G b=some (.lst [])) (E:ydz) (Q:ydz):
 (Q (.bool false) s->wpAny (model X.prog X.w) X.A (richCompare .Eq (.ref a) (.ref b)) Q E s)/\(Q (.bool true) s->wpAny (model X.prog X.w) X.A (richCompare .NotEq (.ref a) (.ref b)) Q E s):=by
 have hu:=hr.un;obtain⟨_,xs,e1,ra⟩:=g _ _ ea;obtain⟨_,ys,e2,rb⟩:=g _ _ eb;obtain⟨its,rv,p,_⟩:=I.list (cZ.of e1);obtain⟨its2,rv2,p2,_⟩:=I.list (cZ.of e2);have l1:its.length=(x::ws).length:=by rw[←rv.length,ra.length]
 have l2:its2.length=([]:List W).length:=by rw[←rv2.length,rb.length]
 have ne:(its.toArray.size !=its2.toArray.size)=true:=by rw[size_toArray,size_toArray,l1,l2];simp
 exact⟨λq=>SeqAt.RcAt.lists_lengths p.isList p2.isList (by simpa using ne) (A:=X.A) (by lia) X.prog X.w E Q q,λq=>SeqAt.RcNeAt.lists_lengths p.isList p2.isList (by simpa using ne) (A:=X.A) (by lia) X.prog X.w E Q q⟩
theorem bw (hr:av k X.A):gG X (compareOp .Eq) gZ:=by
 rintro π s σ H x y v u Q I rx ry ⟨wx,wy,G,q,r1,r2,g,h,hQ⟩;unfold gZ at h;split at h
 ·rename_i a b;obtain⟨r,he,h⟩:=h;have fin:EP X π σ Q (.bool r) s:=⟨.bl _,H,I,rfl,hQ _ H _ G (aT.refl H) (.bl _) g h⟩;cases he with
  | old he=>exact B5 hr π s σ H x y v u Q I rx ry ⟨_,_,G,q,r1,r2,g,⟨r,he,h⟩,hQ⟩
  | @nil ws ea eb=>
    cases r1;cases r2;cases rx;cases ry;cases ws with
    | nil=>exact iO hr (.inl ⟨rfl,rfl⟩) I g ea eb rfl (λj x y z=>by cases z) X.xe _ fin
    | cons x ws=>exact(uh hr I g ea eb X.xe _).1 fin
  | deep ea eb hl he=>
    cases r1;cases r2;cases rx;cases ry;exact iO hr (.inl ⟨rfl,rfl⟩) I g ea eb hl he X.xe _ fin
 ·exact zm hr π s σ H x y v u Q I rx ry ⟨wx,wy,G,q,r1,r2,g,h,hQ⟩
theorem iA (hr:av k X.A):gG X (compareOp .NotEq) mY:=by
 rintro π s σ H x y v u Q I rx ry ⟨wx,wy,G,q,r1,r2,g,h,hQ⟩;unfold mY at h;split at h
 ·rename_i a b;obtain⟨r,he,h⟩:=h;have fin:EP X π σ Q (.bool (!r)) s:=⟨.bl _,H,I,rfl,hQ _ H _ G (aT.refl H) (.bl _) g h⟩;cases he with
  | old he=>exact B6 hr π s σ H x y v u Q I rx ry ⟨_,_,G,q,r1,r2,g,⟨r,he,h⟩,hQ⟩
  | @nil ws ea eb=>
    cases r1;cases r2;cases rx;cases ry;cases ws with
    | nil=>exact iO hr (.inr ⟨rfl,rfl⟩) I g ea eb rfl (λj x y z=>by cases z) X.xe _ fin
    | cons x ws=>exact(uh hr I g ea eb X.xe _).2 fin
  | deep ea eb hl he=>
    cases r1;cases r2;cases rx;cases ry;exact iO hr (.inr ⟨rfl,rfl⟩) I g ea eb hl he X.xe _ fin
 ·exact zn hr π s σ H x y v u Q I rx ry ⟨wx,wy,G,q,r1,r2,g,h,hQ⟩
end
section
variable {X:Cx} {pos:Pos}
end
section
variable {X:Cx} {tg:Expr}
end
mutual
inductive eT (h:Heap):Nat->W->Value->Prop where
 | int {d:Nat} (n:Int) (t:Tok):eT h d (.int n) (.int n t)
 | tup {d:Nat} {a:Addr} {o:Obj} {items:Array Value} {n:Nat} {ws:List W} (gO:h.get? a=some o) (hc:o.cls=.type "tuple") (dO:o.data=.seq items n) (hs:cS h d ws items.toList):eT h (d+1) (.tup ws) (.ref a)
inductive cS (h:Heap):Nat->List W->List Value->Prop where
 | nil {d:Nat}:cS h d [] []
 | cons {d:Nat} {w:W} {v:Value} {ws:List W} {vs:ydw} (r:eT h d w v) (rs:cS h d ws vs):cS h d (w::ws) (v::vs)
end
section
variable {h h':Heap}
mutual
theorem eT.inj:∀{d d':Nat} {w w':W} {v:Value},eT h d w v->eT h d' w' v->w=w'
 | _,_,_,_,_,.int n t,.int _ _=>rfl
 | _,_,_,_,_,.tup gO hc dO hs,.tup gO' hc' dO' hs'=>by
   cases gO.symm.trans gO';rw[dO] at dO';injection dO' with e1 _
   subst e1;rw[cS.inj hs hs']
theorem cS.inj:∀{d d':Nat} {ws ws':List W} {vs:ydw},cS h d ws vs->cS h d' ws' vs->ws=ws'
 | _,_,_,_,_,.nil,.nil=>rfl
 | _,_,_,_,_,.cons r rs,.cons r' rs'=>by rw[eT.inj r r',cS.inj rs rs']
end
mutual
theorem eT.keeps (k:∀a o items n,h.get? a=some o->o.data=.seq items n->h'.get? a=some o):∀{d:Nat} {w:W} {v:Value},eT h d w v->eT h' d w v
 | _,_,_,.int n t=> .int n t
 | _,_,_,.tup gO hc dO hs=> .tup (k _ _ _ _ gO dO) hc dO (cS.keeps k hs)
theorem cS.keeps (k:∀a o items n,h.get? a=some o->o.data=.seq items n->h'.get? a=some o):∀{d:Nat} {ws:List W} {vs:ydw},cS h d ws vs->cS h' d ws vs
 | _,_,_,.nil=> .nil
 | _,_,_,.cons r rs=> .cons (eT.keeps k r) (cS.keeps k rs)
end
end
section
variable (P:Program) (w:World)
mutual
noncomputable def jr:W->Int
 | .int n=>(aY P w).hash (.inl n)
 | .tup ws=>reduceHash (Builtin.Tuple.tupleHashOf (dX ws))
 | _=>0
noncomputable def dX:List W->List Int
 | []=>[]
 | x::xs=>jr x::dX xs
end
mutual
noncomputable def oQ:W->Nat
 | .int _=>1
 | .tup ws=>eg ws+1
 | _=>0
noncomputable def eg:List W->Nat
 | []=>0
 | x::xs=>oQ x+eg xs
end
end
theorem w9 (xs ys:List W):eg (xs++ys)=eg xs+eg ys:=by
 induction xs with
 | nil=>simp[eg]
 | cons x xs ih=>show oQ x+eg (xs++ys)=_;rw[ih];simp[eg,Nat.add_assoc]
theorem ui (P:Program) (w:World) (xs ys:List W):dX P w (xs++ys)=dX P w xs++dX P w ys:=by
 induction xs with
 | nil=>rfl
 | cons x xs ih=>show jr P w x::dX P w (xs++ys)=_;rw[ih];rfl
section
variable {prog:Program} {w:World}
theorem dw {o:Obj} (gO:s.heap.get? a=some o) (hc:o.cls=.type "tuple"):s.TypeIs (.ref a) "tuple":=⟨o,gO,hc⟩
theorem uj {d:Nat} {ws:List W} {o:Obj} {n:Nat} {Q:Int->Shared->Prop} (hu:A.units+d+1<cLine) (gO:s.heap.get? a=some o) (hc:o.cls=.type "tuple") (dO:o.data=.seq items n) (hi:cS s.heap d ws items.toList)
 (ih:∀(x:W) (v:Value) (A':Around) (E':ydz) (tk:Nat) (Q':Int->Shared->Prop),x∈ws->eT s.heap d x v->A'.units+d<cLine->Q' (jr prog w x) { s with toks:=tk+oQ x }->wpAny (model prog w) A' (pyHash v) Q' E' { s with toks:=tk })
 (h:Q (jr prog w (.tup ws)) { s with toks:=s.toks+oQ (.tup ws) }):wpAny (model prog w) A (pyHash (.ref a)) Q E s:=by
 have tp:=dw gO hc;unfold pyHash
 first | unfold pyHashByItsType | skip
 first | refine wax (wpAny_cRoomFor_or (.inr (by lia)) ?_) | skip
 refine wax (wpAny_specialOf tp F.slot_tuple_hash.lookup ?_);rw[show(some (Value.builtin "tuple.__hash__")==some Value.none)=false from by rw[beq_builtin_none],ybv ycy];refine wax (wpAny_specialOf tp F.slot_tuple_hash.lookup ?_);show wpAny _ _ (callSpecialIfBoundUnlessNone? (.ref a) "__hash__" _ >>= _) Q E s;refine wax (wpAny_callSpecialIfBoundUnlessNone?_slot tp F.slot_tuple_hash (wpAny_call_entry F.slot_tuple_hash tp F.entry_tuple_hash ?_ (F.args_tuple_hash_1 _)));show wpAny _ _ (Builtin.Tuple.tupleItemsOf (.ref a) >>= _) _ _ s;refine wax (wpAny_tupleItemsOf gO dO ?_);refine wax ?_;rw[←Array.forIn_toList];refine wpAny_forIn_list _
  (λbX (b:Array Int) s'=>∃done left,ws=done++left/\cS s.heap d left bX/\b.toList=dX prog w done/\s'={ s with toks:=s.toks+eg done })
  _ ?_ ?_ _ _ ⟨[],ws,rfl,hi,rfl,rfl⟩
 ·rintro x bX b s' ⟨done,left,rfl,hL,hB,rfl⟩;cases hL with
  | @cons _ k _ ks' _ h1 hL'=>
    refine wax (ih k x _ _ _ _ (by simp) h1 (by first | lia | (show A.units+1+d<cLine;lia)) ?_);have e1:b.toList++[jr prog w k]=dX prog w (done++[k]):=by rw[hB,ui];rfl
    have e2:s.toks+eg done+oQ k=s.toks+eg (done++[k]):=by rw[w9];simp[eg,Nat.add_assoc]
    first
     | exact way ⟨done++[k],ks',by simp,hL',by simpa using e1,by rw[←e2]⟩
     | exact wax (way (way ⟨done++[k],ks',by simp,hL',by simpa using e1,by rw[←e2]⟩))
 ·rintro b s' ⟨done,left,rfl,hL,hB,rfl⟩;cases hL;rw[append_nil] at h;show wpAny _ _ (retInt (Builtin.Tuple.tupleHashOf b.toList)) _ _ _;rw[hB];refine wpAny_ret_mkInt ?_;have h:Q (reduceHash (Builtin.Tuple.tupleHashOf (dX prog w done))) { s with toks:=s.toks+(eg done+1) }:=h;generalize dX prog w done=hs at h ⊢;show wpAny _ _ (if (decide (-(2:Int)^63<=Builtin.Tuple.tupleHashOf hs)&&decide (Builtin.Tuple.tupleHashOf hs<2^63))=true then _ else _) Q E _;unfold reduceHash at h
  by_cases hR:(decide (-(2:Int)^63<=Builtin.Tuple.tupleHashOf hs)&&decide (Builtin.Tuple.tupleHashOf hs<2^63))=true
  ·rw[ycx hR];rw[ycx hR] at h;exact way (by simpa[Nat.add_assoc] using h)
  ·rw[ybv hR];rw[ybv hR] at h;exact wax (wpAny_rule (way (by simpa[Nat.add_assoc] using h)))
theorem eT.hash {s:Shared}:∀(d:Nat) {x:W} {v:Value},eT s.heap d x v->∀{A:Around} {E:ydz} {tk:Nat} {Q:Int->Shared->Prop},A.units+d<cLine->Q (jr prog w x) { s with toks:=tk+oQ x }->wpAny (model prog w) A (pyHash v) Q E { s with toks:=tk }
 | _,_,_,.int n t,A,E,tk,Q,hu,h=>(aY prog w).pyHash (k:= .inl n) (dL prog w n t) h
 | d+1,_,_,.tup (ws:=ws) gO hc dO hs,A,E,tk,Q,hu,h=>
   uj (s:={ s with toks:=tk }) (d:=d) (ws:=ws) (by assumption) gO hc dO hs (λx v A' E' tk' Q' _ hk hu' hq=>eT.hash d hk hu' hq) h
noncomputable def uk (p:Prop):Bool:= @decide p (Classical.propDecidable p)
theorem js {p:Prop} (h:p):uk p=true:= @decide_eq_true p (Classical.propDecidable p) h
theorem iB {p:Prop} (h:¬p):uk p=false:= @decide_eq_false p (Classical.propDecidable p) h
inductive Sh:W->W->Prop where
 | int (n m:Int):Sh (.int n) (.int m)
 | tup {xs ys:List W} (h:∀p,p∈xs.zip ys->Sh p.1 p.2):Sh (.tup xs) (.tup ys)
theorem eq_tup {d:Nat} {x y:List W} {a b:Addr} {oa ob:Obj} {xs ys:Array Value} {na nb:Nat} {R:PySem.Fin->Shared->Prop} (gA:s.heap.get? a=some oa) (hca:oa.cls=.type "tuple") (dA:oa.data=.seq xs na) (hia:cS s.heap d x xs.toList) (gB:s.heap.get? b=some ob) (hcb:ob.cls=.type "tuple") (dB:ob.data=.seq ys nb) (hib:cS s.heap d y ys.toList)
 (hsh:∀p,p∈x.zip y->Sh p.1 p.2)
 (ih:∀(p q:W) (u v:Value) (E':ydz) (Q':Bool->Shared->Prop),eT s.heap d p u->eT s.heap d q v->Sh p q->Q' (uk (p=q)) s->wpAny (model prog w) A (eqBool u v) Q' E' s)
 (h:R (.done (.ret (.bool (uk (x=y))))) s):wpAny (model prog w) A (Builtin.«tuple.__eq__» ⟨[.ref a,.ref b],[]⟩) R E s:=by
 have tpB:=dw gB hcb;show wpAny _ _ (isInstance (.ref b) (.type "tuple") >>= _) _ _ s;refine wax (wpAny_isInstance tpB isSubtype_tuple_tuple ?_);simp only[Bool.not_true,Bool.false_eq_true,if_false];refine wax (wpAny_tupleItemsOf gA dA ?_);refine wax (wpAny_tupleItemsOf gB dB ?_);refine wax ?_;refine wpAny_forIn_list _
  (λbX r s'=>r.1=none/\s'=s/\∃x' y' xs' ys',bX=List.zip xs' ys'/\cS s.heap d x' xs'/\cS s.heap d y' ys'/\((x'=y')↔(x=y))/\(∀p,p∈x'.zip y'->Sh p.1 p.2)/\(xs'.length==ys'.length)=(xs.size==ys.size))
  _ ?_ ?_ _ _ ⟨rfl,rfl,x,y,xs.toList,ys.toList,rfl,hia,hib,Iff.rfl,hsh,by simp⟩
 ·rintro⟨u,v⟩ bX r s' ⟨hR,rfl,x',y',xs',ys',hZ,hx',hy',hdec,hs',hlen⟩;cases hx' with
  | nil=>simp at hZ
  | @cons _ k1 u' x'' xs'' h1 hx''=>
    cases hy' with
    | nil=>simp at hZ
    | @cons _ k2 v' y'' ys'' h2 hy''=>
      simp only[zip_cons_cons,List.cons.injEq,Prod.mk.injEq] at hZ;obtain⟨⟨rfl,rfl⟩,rfl⟩:=hZ;refine wax (ih k1 k2 _ _ _ _ h1 h2 (hs' (k1,k2) yaz) ?_)
      by_cases hk:k1=k2
      ·subst hk;rw[js rfl];simp only[Bool.not_true,Bool.false_eq_true,if_false];refine way ⟨rfl,rfl,x'',y'',xs'',ys'',rfl,hx'',hy'',?_,λp hp=>hs' p (yay _ hp),by simpa using hlen⟩;rw[←hdec];simp
      ·rw[iB hk];simp only[Bool.not_false,if_true];have hf:uk (x=y)=false:=iB λz=>hk (by have:=hdec.mpr z;injection this);rw[hf] at h;exact wax (way (way (way h)))
 ·rintro⟨q1,q2⟩ s' ⟨hR,rfl,x',y',xs',ys',hZ,hx',hy',hdec,hs',hlen⟩;simp only at hR;subst hR;refine way ?_;have hfin:(xs.size==ys.size)=uk (x=y):=by
   rw[←hlen];cases hx' with
   | nil=>
     cases hy' with
     | nil=>rw[js (hdec.mp rfl)];rfl
     | cons _ _=>rw[iB (λz=>by have:=hdec.mpr z;cases this)];rfl
   | cons _ _=>
     cases hy' with
     | nil=>rw[iB (λz=>by have:=hdec.mpr z;cases this)];rfl
     | cons _ _=>simp at hZ
  show R (.done (.ret (.bool (xs.size==ys.size)))) s';rw[hfin];exact h
theorem eT.eqs {s:Shared}:∀(d:Nat) {x y:W} {u v:Value},eT s.heap d x u->eT s.heap d y v->Sh x y->∀{A:Around} {E:ydz} {Q:Bool->Shared->Prop},A.units+2*d<cLine->Q (uk (x=y)) s->wpAny (model prog w) A (PySem.eqBool u v) Q E s
 | _,_,_,_,_,.int n t,.int m t',_,A,E,Q,hu,h=>by
   refine(aY prog w).eqBool (a:= .inl n) (b:= .inl m) (dL prog w n t) (dL prog w m t') ?_;have:decide ((Sum.inl n:aS)=.inl m)=uk (W.int n=.int m):=by
    by_cases e:n=m
    ·subst e;rw[ycw rfl,js rfl]
    ·rw[ycz (λz=>e (Sum.inl.inj z)),iB (λz=>by injection z with z;exact e z)]
   rw[this];exact h
 | _,_,_,_,_,.int n t,.tup _ _ _ _,hs,A,E,Q,hu,h=>(nomatch hs)
 | _,_,_,_,_,.tup _ _ _ _,.int m t',hs,A,E,Q,hu,h=>(nomatch hs)
 | d+1,_,_,_,_,.tup (a:=a) (ws:=ws) gO hc dO hs,.tup (a:=a') (ws:=ws') gO' hc' dO' hs',.tup hsh,A,E,Q,hu,h=>by
   unfold PySem.eqBool
   try with_reducible refine wpAny_holding ?_
   show wpAny _ _ (if (Value.ref a==Value.ref a')=true then _ else _) Q E s
   by_cases hab:(Value.ref a==Value.ref a')=true
   ·rw[ycx hab];have e:a=a':=by have:=eq_of_beq hab;injection this
    subst e;have:=eT.inj (.tup gO hc dO hs) (.tup gO' hc' dO' hs');rw[js this] at h;exact wax (wpAny_rule (way h))
   ·rw[ybv hab];refine wax (wpAny_richCompare_same_room (op:= .Eq) (dw gO hc) (dw gO' hc') F.slot_tuple_eq
     (wpAny_call_entry F.slot_tuple_eq (dw gO hc) F.entry_tuple_eq (eq_tup gO hc dO hs gO' hc' dO' hs' hsh (λp q u v E' Q' hp hq hpq hQ=>eT.eqs d hp hq hpq (by first | lia | (show A.units+1+2*d<cLine;lia) | (show A.units+1+1+2*d<cLine;lia)) hQ) ⟨_,rfl,(λe=>nomatch e),wpAny_truthy_bool ?_⟩) (F.args_tuple_eq_2 _ _)) (by lia))
    have:uk (ws=ws')=uk (W.tup ws=.tup ws'):=by
     by_cases e:ws=ws'
     ·subst e;rw[js rfl,js rfl]
     ·rw[iB e,iB (λz=>by injection z with z;exact e z)]
    rw[this];exact h
theorem eT.quiet {s:Shared}:∀(d:Nat) {x:W} {v:Value},eT s.heap d x v->∀{A:Around} {E:ydz} {Q:Bool->Shared->Prop},Q true s->wpAny (model prog w) A (eqIsQuiet d v) Q E s
 | _,_,_,.int n t,A,E,Q,h=>by
   rw[eqIsQuiet_byValue _ rfl];exact way h
 | d+1,_,_,.tup gO hc dO hs,A,E,Q,h=>by
   have tp:=dw gO hc;unfold eqIsQuiet;refine wax (wpAny_specialOf tp F.slot_tuple_eq.lookup ?_);refine wax (wpAny_isInstance tp isSubtype_tuple_tuple ?_);simp only[Bool.not_true,Bool.false_eq_true,if_false];refine wax (wpAny_seqItems gO dO ?_);refine wax ?_;show wpAny _ _ (forIn _ _ _) _ _ s;rw[←Array.forIn_toList];refine wpAny_forIn_list _ (λbX r s'=>r.1=none/\s'=s/\∃ws,cS s.heap d ws bX) _ ?_ ?_ _ _ ⟨rfl,rfl,_,hs⟩
   ·rintro v bX r s' ⟨hR,rfl,ws,hk⟩;cases hk with
    | cons q1 rs1=>
      refine wax (eT.quiet d q1 ?_);simp only[Bool.not_true,Bool.false_eq_true,if_false];exact way ⟨rfl,rfl,_,rs1⟩
   ·rintro⟨q1,q2⟩ s' ⟨hR,rfl,_⟩;simp only at hR;subst hR;exact way h
theorem Ac:∀a b:O,Sh (.tup (ao a)) (.tup (ao b)):=by
 have main:∀(k:Nat) (a b:O),a.size+b.size<=k->Sh (.tup (ao a)) (.tup (ao b)):=by
  intro k
  induction k with
  | zero=>
    intro a b h;cases a with
    | z=>exact .tup λp hp=>by simp[ao] at hp
    | c e n r=>simp[O.size] at h
  | succ k ih=>
    intro a b h;cases a with
    | z=>exact .tup λp hp=>by simp[ao] at hp
    | c e n r=>
      cases b with
      | z=>exact .tup λp hp=>by simp[ao] at hp
      | c e' n' r'=>
        have h1:e.size+e'.size<=k:=by simp only[O.size] at h;lia
        have h2:r.size+r'.size<=k:=by simp only[O.size] at h;lia
        refine .tup λp hp=>?_;rw[bJ,bJ,zip_cons_cons] at hp;rcases mem_cons.mp hp with rfl | hp
        ·refine .tup λp hp=>?_;simp only[zip_cons_cons,List.zip_nil_left] at hp;rcases mem_cons.mp hp with rfl | hp
         ·exact ih e e' h1
         ·rw[mem_singleton.mp hp];exact .int n n'
        ·cases ih r r' h2 with
         | tup h3=>exact h3 p hp
 exact λa b=>main _ a b (yby _)
theorem qf {a b:O} (h:W.tup (ao a)=.tup (ao b)):a=b:=by injection h with h;exact mP h
noncomputable def jt (prog:Program) (w:World):HeapKind prog w O where
 is:=λh o a=>eT h 8 (.tup (ao o)) (.ref a)
 hash:=λo=>jr prog w (.tup (ao o))
 draws:=λo=>oQ (.tup (ao o))
 room:=λA=>A.units+20<cLine
 inj:=λhx hy=>qf (eT.inj hx hy)
 keeps:=λx gO dO hs=>x.keeps λa o items n gO' dO'=>by
  rename_i d' od es ep;have hne:a≠d':=λz=>by
   subst z;cases gO.symm.trans gO';rw[dO] at dO';cases dO'
  exact(hs.2 a hne).trans gO'
 pyHash:=λhu hk h=>eT.hash 8 hk (by lia) h
 eqBool:=λhu hx hy h=>eT.eqs 8 hx hy (Ac _ _) (by lia) (by
  rename_i x y _ _ _;have:uk (W.tup (ao x)=.tup (ao y))=decide (x=y):=by
   by_cases e:x=y
   ·subst e;rw[js rfl,ycw rfl]
   ·rw[iB (λz=>e (qf z)),ycz e]
  rw[this];exact h)
 quiet:=λhk h=>eT.quiet 8 hk h
end
mutual
theorem eT.le {h:Heap}:∀{d d':Nat} {w:W} {v:Value},d<=d'->eT h d w v->eT h d' w v
 | _,_,_,_,_,.int n t=> .int n t
 | _,d'+1,_,_,l,.tup ho hc hd hs=> .tup ho hc hd (cS.le (Nat.le_of_succ_le_succ l) hs)
 | _,0,_,_,l,.tup ho hc hd hs=>absurd l (Nat.not_succ_le_zero _)
theorem cS.le {h:Heap}:∀{d d':Nat} {ws:List W} {vs:ydw},d<=d'->cS h d ws vs->cS h d' ws vs
 | _,_,_,_,_,.nil=> .nil
 | _,_,_,_,l,.cons r rs=> .cons (eT.le l r) (cS.le l rs)
end
section
variable {X:Cx} {π:List (Addr×Obj)} {σ:St} {H:Hp} {s:Shared}
theorem xc (I:aI X π σ H s):∀(k:Nat) (o:O) (v:V) (u:Value),o.dp<=k->bN X.K H (.tup (ao o)) v->bc v u->eT s.heap (2*k+1) (.tup (ao o)) u:=by
 intro k
 induction k with
 | zero=>
   intro o v u hd r ru;have:o=.z:=by
    cases o with
    | z=>rfl
    | c e n r=>simp only[O.dp] at hd;lia
   subst this;cases r with
   | tup hT rr=>
     obtain⟨its,rv,⟨ob,e,c,n,dd⟩,_⟩:=I.tuple (cU.of hT);cases rr;cases rv;cases (show u=Value.ref _ from ru);exact .tup e c dd .nil
 | succ k ih=>
   have parts:∀(o:O) (xs:List V) (its:ydw),o.dp<=k+1->aV X.K H (ao o) xs->aW xs its->cS s.heap (2*k+2) (ao o) its:=by
    intro o
    induction o with
    | z=>
      intro xs its hd rr rv;cases rr;cases rv;exact .nil
    | c e n r ihe ihr=>
      intro xs its hd rr rv;rw[bJ] at rr ⊢;cases rr with
      | cons r1 rs1=>
        cases rv with
        | cons v1 vs1=>
          have hd1:e.dp<=k:=by simp only[O.dp] at hd;lia
          have hd2:r.dp<=k+1:=by simp only[O.dp] at hd;lia
          refine .cons ?_ (ihr _ _ hd2 rs1 vs1);unfold fL at r1 ⊢;cases r1 with
          | tup hT rr=>
            obtain⟨its,rv,⟨ob,ee,c,m,dd⟩,_⟩:=I.tuple (cU.of hT);cases (show _=Value.ref _ from v1);cases rr with
            | cons q1 qs=>
              cases qs with
              | cons q2 qs=>
                cases qs;cases rv with
                | cons w1 ws=>
                  cases ws with
                  | cons w2 ws=>
                    cases ws;refine .tup ee c dd (.cons (ih e _ _ hd1 q1 w1) (.cons ?_ .nil));cases q2;obtain⟨t,rfl⟩:=w2;exact .int _ _
   intro o v u hd r ru;cases r with
   | tup hT rr=>
     obtain⟨its,rv,⟨ob,e,c,n,dd⟩,_⟩:=I.tuple (cU.of hT);cases (show u=Value.ref _ from ru);exact .tup e c dd (parts o _ _ hd rr rv)
theorem ju (I:aI X π σ H s) {o:O} (hd:o.dp<=3) (r:bN X.K H (.tup (ao o)) (.ref a)):(jt X.prog X.w).is s.heap o a:=eT.le (by decide) (xc I 3 o (.ref a) (.ref a) hd r rfl)
end
inductive fP (K:yax) (H:Hp):List (O×W)->List (O×Addr×Value)->Prop where
 | nil:fP K H [] []
 | cons {k:O} {a:Addr} {w:W} {v:V} {u:Value} {kvs:List (O×W)} {xs:List (O×Addr×Value)} (rk:bN K H (.tup (ao k)) (.ref a)) (rv:bN K H w v) (ru:bc v u) (t:fP K H kvs xs):fP K H ((k,w)::kvs) ((k,a,u)::xs)
theorem fP.mono {K:yax} {H H1:Hp} (t:aT H H1):∀{kvs:List (O×W)} {xs:List (O×Addr×Value)},fP K H kvs xs->fP K H1 kvs xs
 | _,_,.nil=> .nil
 | _,_,.cons rk rv ru r=> .cons (rk.mono t) (rv.mono t) ru (fP.mono t r)
theorem fP.keys {K:yax} {H:Hp}:∀{kvs:List (O×W)} {xs:List (O×Addr×Value)},fP K H kvs xs->xs.map (·.1)=kvs.map (·.1)
 | _,_,.nil=>rfl
 | _,_,.cons _ _ _ r=>by rw[map_cons,map_cons,fP.keys r]
theorem fP.mem {K:yax} {H:Hp}:∀{kvs:List (O×W)} {xs:List (O×Addr×Value)},fP K H kvs xs->∀x,x∈xs->bN K H (.tup (ao x.1)) (.ref x.2.1)
 | _,_,.nil,x,hx=>(nomatch hx)
 | _,_,.cons rk _ _ r,x,hx=>by
   rcases mem_cons.mp hx with rfl | hx
   ·exact rk
   ·exact fP.mem r x hx
noncomputable def jv (P:Program) (w:World) (a:Addr) (xs:List (O×Addr×Value)):Heap->Prop:=λh=>∃o es ep,h.get? a=some o/\o.ExactDict/\o.data=.dict es ep/\es.toList=xs.map (entryOfKey (jt P w))
noncomputable def jL (P:Program) (w:World) (K:yax) (kvs:List (O×W)):Hp->Addr->Prop:=λH a=>kvs.length<=1000/\(a==sysModules)=false/\(kvs.map (·.1)).Nodup/\(∀p,p∈kvs->p.1.dp<=3)/\∃xs,H a=some (.ext (jv P w a xs))/\fP K H kvs xs
noncomputable abbrev qg (P:Program) (w:World) (K:yax) (kvs:List (O×W)):GO:= .any (jL P w K kvs)
theorem jL.ok {kvs:List (O×W)} {H:Hp} (h:jL P w K kvs H a):xO K H a (qg P w K kvs):=by
 refine⟨h,?_,λH1 H2 t e x=>?_⟩
 ·obtain⟨_,_,_,_,xs,e,_⟩:=h;exact⟨_,e⟩
 ·obtain⟨a1,a2,a3,a4,xs,e1,kv⟩:=x;exact⟨a1,a2,a3,a4,xs,e.trans e1,kv.mono t⟩
section
variable {X:Cx} {π:List (Addr×Obj)} {σ:St} {H:Hp} {s:Shared}
theorem jL.dict {kvs:List (O×W)} (I:aI X π σ H s) (h:jL X.prog X.w X.K kvs H a):∃xs,H a=some (.ext (jv X.prog X.w a xs))/\fP X.K H kvs xs/\s.heap.DictOfH (jt X.prog X.w) a xs:=by
 obtain⟨a1,a2,a3,a4,xs,e,kv⟩:=h;obtain⟨⟨o,es,ep,h1,h2,h3,h4⟩,_⟩:=I.hok a _ e;refine⟨xs,e,kv,o,es,ep,h1,h2,h3,h4,λx hx=>?_,by rw[kv.keys];exact a3⟩;refine ju I ?_ (kv.mem x hx);have:x.1∈kvs.map (·.1):=by rw[←kv.keys];exact mem_map.mpr ⟨x,hx,rfl⟩
 obtain⟨p,hp,hpe⟩:=mem_map.mp this;rw[←hpe];exact a4 p hp
theorem qh {H:Hp} {h:Heap} {xs:List (O×Addr×Value)} (d:jv P w a xs h):bI P w H h a (.ext (jv P w a xs)):=by
 refine⟨d,?_,λh1 h2 x k=>?_⟩
 ·obtain⟨o,_,_,e,_⟩:=d;exact⟨o,e⟩
 ·obtain⟨o,es,ep,e,r⟩:=x;exact⟨o,es,ep,k _ e,r⟩
noncomputable def ul (P:Program) (w:World) (K:yax):WE:=λ_ G q=>∀p,G p=none->q (.ref p) (aK G p (qg P w K []))
theorem xf:QE X (.Dict [] [] pos) (ul X.prog X.w X.K):=by
 have pe:PE X (.Dict [] [] pos) (λ_ H Q=>∀p,H p=none->(p==sysModules)=false->Q (.ref p) (upd H p (.ext (jv X.prog X.w p [])))):=λπ s σ H Q I h=>
  wpAny_Dict_empty ⟨.ref s.heap.objs.size,_,I.laid (a:=s.heap.objs.size) (o:= .ext (jv X.prog X.w s.heap.objs.size [])) (t':=s.toks) (λ_ _ q=>yaw _ q) (yby _) (qh ⟨_,#[],0,yav _ rfl,⟨rfl,rfl,rfl⟩,rfl,rfl⟩),rfl,h _ (I.hok.fresh (yby _)) (beq_eq_false_iff_ne.mpr (Ne.symm (ne_of_lt I.bigD)))⟩
 exact pe.imp λσ H Q z0=>z0.el λτ G q hs hg ht hQ p hp hm=>hQ _ _ _ _ (aT.new hp _) (.ref p) (hg.lay (g:=qg X.prog X.w X.K []) (aT.new hp _) (jL.ok ⟨zero_le _,hm,by simp,(λ_ h=>(nomatch h)),[],bd,.nil⟩)) (ht p (hg.fresh hp))
noncomputable def eP (kvs:List (O×W)) (k:O):Option W:=(kvs.find? λp=>decide (p.1=k)).map (·.2)
theorem fP.at {K:yax} {k:O}:∀{kvs:List (O×W)} {xs:List (O×Addr×Value)},fP K H kvs xs->(eP kvs k=none/\atKey xs k=none)∨∃w a v u,eP kvs k=some w/\atKey xs k=some (a,u)/\bN K H w v/\bc v u
 | _,_,.nil=> .inl ⟨rfl,rfl⟩
 | _,_,.cons (k:=k') (a:=a) (w:=w) (v:=v) (u:=u) rk rv ru t=>by
   by_cases e:k'=k
   ·exact .inr ⟨w,a,v,u,by simp[eP,e],by simp[atKey,e],rv,ru⟩
   ·rcases fP.at (k:=k) t with⟨h1,h2⟩ | ⟨w',a',v',u',h1,h2,h3,h4⟩
    ·exact .inl ⟨by simpa[eP,List.find?_cons,e] using h1,by simpa[atKey,List.find?_cons,e] using h2⟩
    ·exact .inr ⟨w',a',v',u',by simpa[eP,List.find?_cons,e] using h1,by simpa[atKey,List.find?_cons,e] using h2,h3,h4⟩
theorem um {kvs:List (O×W)} {k:O} {x:W} (h:eP kvs k=some x):(k,x)∈kvs:=by
 unfold eP at h;obtain⟨p,hp,rfl⟩:=Option.map_eq_some_iff.mp h;have h1:=List.mem_of_find?_eq_some hp;have h2:=List.find?_some hp;have h3:p.1=k:=of_decide_eq_true h2;rw[←h3];exact h1
noncomputable def xg (P:Program) (w:World) (K:yax):W2:=λx y G q=>match x,y with
 | .ref a,.tup ts=>∃kvs o x,ts=ao o/\G a=some (qg P w K kvs)/\eP kvs o=some x/\q x G
 | x,y=>cX x y G q
theorem uo (hr:av k A):A.in1.units+20<cLine:=by
 have:=hr.un;show A.units+1+20<cLine;lia
theorem B7 (hr:av k X.A):y8 X (xg X.prog X.w X.K):=by
 rintro value slice π s σ H x y v u Q I rx ry ⟨wx,wy,G,q,r1,r2,g,h,hQ⟩ hsl;unfold xg at h;split at h
 ·rename_i a ts;obtain⟨kvs,o,x,rfl,hG,hv,h⟩:=h;cases r1;cases rx;have hD:=(g a _ hG).1;obtain⟨xs,_,kv,dd⟩:=hD.dict I;rcases kv.at (k:=o) with⟨e,_⟩ | ⟨x',b',v',u',e,e',r,ru⟩
  ·rw[e] at hv;cases hv
  ·rw[e] at hv;cases hv;have hdp:o.dp<=3:=hD.2.2.2.1 _ (um e);cases r2 with
   | @tup b _ _ hT rr=>
     cases (show u=Value.ref b from ry);exact tail_any dd.typeIs PySem.F.slot_dict_getitem.lookup (wpAny_getItem_heap (knd:=jt X.prog X.w) (uo hr) (ju I hdp (.tup hT rr)) dd e' ⟨v',H,I.tok _,ru,hQ _ H _ G (aT.refl H) r g h⟩) hsl
 ·exact ay value slice π s σ H x _ v u Q I rx ry ⟨wx,wy,G,q,r1,r2,g,h,hQ⟩ hsl
theorem iF {K:Type} [DecidableEq K] {knd:HeapKind prog w K} {d a:Addr} {xs:List (K×Addr×Value)} {k:K} {dflt:Value} (hu:knd.room A) (hkey:knd.is s.heap k a) (hm:s.heap.DictOfH knd d xs)
 (hthere:∀p,atKey xs k=some p->Q p.2 { s with toks:=s.toks+knd.draws k })
 (hnew:atKey xs k=none->∀h',h'.DictOfH knd d (xs++[(k,a,dflt)])->Heap.SameBut d s.heap h'->Q dflt { s with heap:=h',toks:=s.toks+knd.draws k }) (hsz:xs.length<=sizeLine):
 wpAny (model prog w) A (dictSetDefault d (.ref a) dflt) Q E s:=by
 obtain⟨o,es,ep,ho,hc,hd,he,his,hn⟩:=hm;unfold dictSetDefault
 try with_reducible refine wpAny_holding ?_
 refine wax (knd.pyHash hu hkey ?_);refine wax (wpAny_dictFind_heap (s:={ s with toks:=s.toks+knd.draws k }) hu hkey ho hd he his hn ?_ ?_)
 ·intro hno;have hnot:k∉xs.map (·.1):=not_mem_keys_of_get hno;have hat:=atKey_none_of_get hno;refine wax (wpAny_rule (wax (wpAny_updateDictKeys (hz:=by have e:=size_of_entries he;lia) (s:={ s with toks:=s.toks+knd.draws k }) ho hd (way (hnew hat _ ⟨_,_,ep+1,Heap.get?_update_self _ ho (Obj.isFreed_of_dict (Obj.data_mapDictKeys hd _)),
   hc.mapDictKeys _,Obj.data_mapDictKeys hd _,?_,?_,?_⟩ (Heap.SameBut.update ..))))))
  ·simp[he,entryOfKey]
  ·intro x hx;rcases mem_append.mp hx with hx | hx
   ·exact knd.keeps (his x hx) ho hd (Heap.SameBut.update ..)
   ·simp only[mem_singleton] at hx;subst hx;exact knd.keeps hkey ho hd (Heap.SameBut.update ..)
  ·rw[map_append,List.nodup_append];refine⟨hn,by simp,?_⟩;intro x hx y hy;simp only[map_cons,map_nil,mem_singleton] at hy;subst hy;exact λe=>hnot (e▸hx)
 ·intro j p hj;refine wax (wpAny_dictEntries (s:={ s with toks:=s.toks+knd.draws k }) ho hd ?_);rw[entry_at he j,hj];exact wax (wpAny_rule (way (hthere p (atKey_of_get hn hj))))
theorem gs {K:Type} [DecidableEq K] (knd:HeapKind prog w K) (d a:Addr) (hd:(d==sysModules)=false) (dflt:Value):
 MeetsIn prog w (Builtin.«dict.setdefault» ⟨[.ref d,.ref a,dflt],[]⟩) (λA R s=>knd.room A.in1/\∃k xs,knd.is s.heap k a/\s.heap.DictOfH knd d xs/\xs.length<=sizeLine/\
  (∀p,atKey xs k=some p->R (.ok (.ret p.2)) { s with toks:=s.toks+knd.draws k })/\
  (atKey xs k=none->∀h',h'.DictOfH knd d (xs++[(k,a,dflt)])->Heap.SameBut d s.heap h'->R (.ok (.ret dflt)) { s with heap:=h',toks:=s.toks+knd.draws k })):=
 .of_wp λA R s ⟨hu,k,xs,hkey,hm,hz,h1,h2⟩=>by
  unfold Builtin.«dict.setdefault»;refine wax ?_;unfold Builtin.Dict.keyAndDefault;refine wax (wpAny_notOrdered_dict hm.typeIs ?_);show wpAny _ _ (pure (d,Value.ref a,some dflt)) _ _ s;refine way ?_;show wpAny _ _ (if (d==sysModules)=true then _ else (dictSetDefault d (.ref a) dflt >>= _)) _ _ s;rw[ybv (by rw[hd];exact ycy)];exact wax (iF hu hkey hm (λp hp=>way ⟨p.2,rfl,h1 p hp⟩) (λhn h' hm' hs'=>way ⟨dflt,rfl,h2 hn h' hm' hs'⟩) hz)
theorem Ad {o e:Expr} {to:TE} {t:TA} {name:Str} {apos cpos:Pos} {id:String} {r:V->List V->Hp->VK->Prop} {ty:V->Hp->Prop} (hty0:∀(π:List (Addr×Obj)) (σ:St) (H:Hp) (s:Shared) (x:V) (v:Value),aI X π σ H s->bc x v->ty x H->s.TypeIs v "dict"/\∀a,v=.ref a->∃ob,s.heap.get? a=some ob/\ob.dict=none)
 (slot:Slot "dict" name id) (hty:typeOf (.builtin id)=pure (.type "method_descriptor")) (hm:Ba X id r) (ho:PE X o to) (ha:PA X (e::es) t)
 (hbase:attributeBase o name X.env (eval o X.env)=eval o X.env:=by rfl)
 (hfew:((backTo cpos (starEach (e::es) X.env)).all (λx=>!x.1)&&(backToKw cpos (keywordEach [] X.env)).all (λx=>x.1.isSome)
   &&decide ((e::es).length+([]:List Keyword).length+(if ([]:List Keyword).isEmpty then 0 else 1)<30))=true:=by rfl)
 (hline:(apos.endLine==cpos.line)=true:=by rfl) (hs:starEach (e::es) X.env=(false,eval e X.env)::starEach es X.env:=by rfl) (hplain:(backTo cpos (starEach es X.env)).any (·.1)=false:=by rfl):
 PE X (.Call (.Attribute o name apos) (e::es) [] cpos) (λσ H Q=>to σ H λx H1=>ty x H1/\t σ H1 λxs H2=>r x xs H2 Q):=by
 intro π s σ H Q I h;refine wpAny_Call_method_late hbase hfew hline rfl (cf (ho π s σ H _ I h) λv s1 z9=>?_);obtain⟨x,H1,I1,r1,ty1,q1⟩:=z9;obtain⟨h1,h2⟩:=hty0 _ _ _ _ _ _ I1 r1 ty1;refine⟨"dict",id,PySem.F.plainAttrs_dict,slot,hty,h1,h2,?_⟩;have hA:=ha cpos π s1 σ H1 _ I1 q1;rw[hs] at hA ⊢;refine Calls.callWith_builtin (by show(false||(backTo cpos (starEach es X.env)).any (·.1))=false;rw[hplain]<;> rfl) (Calls.evalArgs_plain ?_);exact cf hA λus s2 ⟨vs,H2,I2,r2,q2⟩=>hm π s2 σ H2 x vs v us Q I2 r1 r2 q2
noncomputable def Ed (X:Cx):V->List V->Hp->VK->Prop:=λx vs H Q=>∃a b kvs o d w,x=.ref a/\vs=[.ref b,d]/\jL X.prog X.w X.K kvs H a/\o.dp<=3/\bN X.K H (.tup (ao o)) (.ref b)/\bN X.K H w d/\kvs.length+1<=1000/\
 (∀w' v',eP kvs o=some w'->bN X.K H w' v'->Q v' H)/\(eP kvs o=none->∀xs,jL X.prog X.w X.K (kvs++[(o,w)]) (upd H a (.ext (jv X.prog X.w a xs))) a->aT H (upd H a (.ext (jv X.prog X.w a xs)))->Q d (upd H a (.ext (jv X.prog X.w a xs))))
theorem fP.snoc {K:yax} {k:O} {a:Addr} {x:W} {v:V} {u:Value} (rk:bN K H (.tup (ao k)) (.ref a)) (rv:bN K H x v) (ru:bc v u):∀{kvs:List (O×W)} {xs:List (O×Addr×Value)},fP K H kvs xs->fP K H (kvs++[(k,x)]) (xs++[(k,a,u)])
 | _,_,.nil=> .cons rk rv ru .nil
 | _,_,.cons r1 r2 r3 t=> .cons r1 r2 r3 (fP.snoc rk rv ru t)
theorem fP.length {K:yax}:∀{kvs:List (O×W)} {xs:List (O×Addr×Value)},fP K H kvs xs->xs.length=kvs.length
 | _,_,.nil=>rfl
 | _,_,.cons _ _ _ t=>by rw[length_cons,length_cons,fP.length t]
theorem aT.ex {φ:Heap->Prop} (hp:H a=some (.ext φ)) (o:HO):aT H (upd H a o):=
 ⟨λ_ _ h=>by rw[aJ (fA h hp (by intro z;cases z))];exact h,λ_ _ _ h=>by rw[aJ (fA h hp (by intro z;cases z))];exact h⟩
theorem Ae (hr:av k X.A):Ba X "dict.setdefault" (Ed X):=by
 rintro π s σ H x vs v us Q I rx rv ⟨a,b,kvs,o,d,w,e1,e2,hD,hdp,hk,hw,hl,h1,h2⟩;subst e1 e2;cases rx;obtain⟨u1,u2,rfl,r1,r2⟩:=o5 rv;cases (show u1=Value.ref b from r1);obtain⟨xs,eH,kv,dd⟩:=hD.dict I;have hsz:xs.length<=sizeLine:=by rw[kv.length,sizeLine_eq];lia
 refine call_meetsIn PySem.F.slot_dict_setdefault dd.typeIs PySem.F.entry_dict_setdefault (PySem.F.args_dict_setdefault_3 _ _ _) (gs (jt X.prog X.w) a b hD.2.1 u2) ⟨uo hr,o,xs,ju I hdp hk,dd,hsz,λp hp=>?_,λhn h' hm' hs'=>?_⟩
 ·rcases kv.at (k:=o) with⟨e,e'⟩ | ⟨x',b',v',u',e,e',r,ru⟩
  ·rw[e'] at hp;cases hp
  ·rw[e'] at hp;cases hp;exact⟨v',H,I.tok _,ru,h1 x' v' e r⟩
 ·rcases kv.at (k:=o) with⟨e,e'⟩ | ⟨x',b',v',u',e,e',r,ru⟩
  ·have tl:=aT.ex eH (.ext (jv X.prog X.w a (xs++[(o,b,u2)])));obtain⟨ob,es,ep,m1,m2,m3,m4,_⟩:=id hm';have dh:jv X.prog X.w a (xs++[(o,b,u2)]) h':=⟨ob,es,ep,m1,m2,m3,m4⟩;refine⟨d,_,pq (t':=s.toks+(jt X.prog X.w).draws o) I (by rw[eH];exact True.intro) hs' ⟨ob,m1⟩ (qh dh),r2,h2 e _ ⟨by rw[length_append];exact hl,hD.2.1,?_,λp hp=>?_,_,bd,(fP.snoc hk hw r2 kv).mono tl⟩ tl⟩
   ·rw[map_append,List.nodup_append];refine⟨hD.2.2.1,by simp,λx hx y hy z=>?_⟩;simp only[map_cons,map_nil,mem_singleton] at hy;rw[hy] at z;obtain⟨p,hp,hpe⟩:=mem_map.mp hx;unfold eP at e;rw[Option.map_eq_none_iff,List.find?_eq_none] at e;exact e p hp (ycw (hpe.trans z))
   ·rcases mem_append.mp hp with hp | hp
    ·exact hD.2.2.2.1 p hp
    ·rw[mem_singleton.mp hp];exact hdp
  ·rw[hn] at e';cases e'
noncomputable def B8 (X:Cx):V->Hp->Prop:=λx H=>∃a kvs,x=.ref a/\jL X.prog X.w X.K kvs H a
theorem uq (π:List (Addr×Obj)) (σ:St) (H:Hp) (s:Shared) (x:V) (v:Value) (I:aI X π σ H s) (rx:bc x v) (h:B8 X x H):s.TypeIs v "dict"/\∀a,v=.ref a->∃ob,s.heap.get? a=some ob/\ob.dict=none:=by
 obtain⟨a,kvs,rfl,hD⟩:=h;cases rx;obtain⟨xs,_,_,dd⟩:=hD.dict I;refine⟨dd.typeIs,λb e=>?_⟩;cases e;obtain⟨ob,_,_,m1,m2,_⟩:=dd;exact⟨ob,m1,m2.2.1⟩
noncomputable def Af (P:Program) (w:World) (K:yax) (to tk td:WE):WE:=λτ G q=>to τ G λx G1=>match x with
 | .ref a=>(∃kvs,G1 a=some (qg P w K kvs))/\tk τ G1 λy G2=>td τ G2 λd G3=>∃o kvs,y=.tup (ao o)/\o.dp<=3/\G3 a=some (qg P w K kvs)/\kvs.length+1<=1000/\(∀x,eP kvs o=some x->q x G3)/\(eP kvs o=none->q d (aK G3 a (qg P w K (kvs++[(o,d)]))))
 | _=>False
theorem Ag {o k e:Expr} {to tk te:WE} {apos cpos:Pos} {n:Nat} (hr:av n X.A) (ho:QE X o to) (hk:QE X k tk) (he:QE X e te)
 (hbase:attributeBase o "setdefault" X.env (eval o X.env)=eval o X.env:=by rfl)
 (hfew:((backTo cpos (starEach [k,e] X.env)).all (λx=>!x.1)&&(backToKw cpos (keywordEach [] X.env)).all (λx=>x.1.isSome)
   &&decide (([k,e]:List Expr).length+([]:List Keyword).length+(if ([]:List Keyword).isEmpty then 0 else 1)<30))=true:=by rfl)
 (hline:(apos.endLine==cpos.line)=true:=by rfl) (hs:starEach [k,e] X.env=(false,eval k X.env)::starEach [e] X.env:=by rfl) (hs2:starEach [e] X.env=(false,eval e X.env)::starEach [] X.env:=by rfl) (hpl:(backTo cpos (starEach [e] X.env)).any (·.1)=false:=by rfl):
 QE X (.Call (.Attribute o "setdefault" apos) [k,e] [] cpos) (Af X.prog X.w X.K to tk te):=
 (Ad uq PySem.F.slot_dict_setdefault PySem.F.type_dict_setdefault (Ae hr) ho (cM hk (cM he pa_nil hs2) hs) hbase hfew hline hs hpl).imp λσ H Q z0=>z0.el λτ G q hs hg ht hQ=>
   ⟨τ,G,_,hs,hg,ht,λv H1 w G1 t1 r1 g1 q1=>by
     split at q1
     ·rename_i a;cases r1;obtain⟨⟨kvs,e1⟩,q1⟩:=q1;refine⟨⟨a,kvs,rfl,(g1 a _ e1).1⟩,τ,G1,_,hs.mono t1,g1,q1,λv2 H2 w2 G2 t2 r2 g2 q2=>?_⟩;refine⟨τ,G2,_,(hs.mono t1).mono t2,g2,q2,λv3 H3 w3 G3 t3 r3 g3 q3=>?_⟩;obtain⟨o,kvs,rfl,hdp,e2,hl,h1,h2⟩:=q3;have r2':=r2.mono t3;have tt:=(t1.trans t2).trans t3;cases r2 with
      | @tup b _ _ hT rr=>
        refine⟨a,b,kvs,o,v3,w3,rfl,rfl,(g3 a _ e2).1,hdp,r2',r3,hl,λw' v' hv rv'=>hQ _ _ _ _ tt rv' g3 (h1 w' hv),λhn xs hD tl=>?_⟩;exact hQ _ _ _ _ (tt.trans tl) (r3.mono tl) (g3.lay (g:=qg X.prog X.w X.K (kvs++[(o,w3)])) tl hD.ok) (h2 hn)
     ·exact q1.elim⟩
end
open PySem PySem.Spec PyProof.Rows Nm PySem.W
noncomputable def rc {α:Type} (lt:Nat->Nat->Bool):KasT α->α
 | .ret a=>a
 | .ask i j k=>rc lt (k (lt i j))
noncomputable def Ah {α:Type} (n:Nat):KasT α->Bool
 | .ret _=>true
 | .ask i j k=>decide (i<n)&&decide (j<n)&&Ah n (k true)&&Ah n (k false)
theorem mZ {α:Type} {n:Nat} {lt:Nat->Nat->Bool} {cmp:Nat->Nat->(Bool->Shared->Prop)->Shared->Prop} {s:Shared} (hc:∀i j,i<n->j<n->∀C:Bool->Shared->Prop,C (lt i j) s->cmp i j C s) {Q:α->Shared->Prop}:∀t:KasT α,Ah n t=true->Q (rc lt t) s->t.kasWp cmp Q s
 | .ret a,_,h=>h
 | .ask i j k,ok,h=>by
   simp only[Ah,Bool.and_eq_true,decide_eq_true_eq] at ok;refine hc i j ok.1.1.1 ok.1.1.2 _ ?_;have h:Q (rc lt (k (lt i j))) s:=h;have:Ah n (k (lt i j))=true:=by
    cases lt i j with
    | true=>exact ok.1.2
    | false=>exact ok.2
   exact mZ hc (k (lt i j)) this h
noncomputable def re (σ:List Nat) (i j:Nat):Bool:=decide (σ.getD i 0<σ.getD j 0)
noncomputable def B9 (n:Nat) (σ:List Nat):Bool:=((rc (re σ) (kas_sort n)).toList.map λi=>σ.getD i 0)==List.range n&&(rc (re σ) (kas_sort n)).toList.all λi=>decide (i<n)
noncomputable def xh (n:Nat):Nat->List (List Nat)
 | 0=>[[]]
 | m+1=>(xh n m).flatMap λl=>(List.range n).map λx=>x::l
theorem m9 {n:Nat}:∀{l:List Nat},(∀x,x∈l->x<n)->l∈xh n l.length
 | [],_=>mem_singleton.mpr rfl
 | x::l,h=>List.mem_flatMap.mpr ⟨l,m9 λy hy=>h y (yay _ hy),mem_map.mpr ⟨x,List.mem_range.mpr (h x yaz),rfl⟩⟩
noncomputable def Da:List Nat->Bool
 | []=>true
 | x::l=>!l.contains x&&Da l
theorem ur:∀{l:List Nat},l.Nodup->Da l=true
 | [],_=>rfl
 | x::l,h=>by
   rw[nodup_cons] at h;rw[Da,ur h.2,Bool.and_true];simpa using h.1
noncomputable def rf (n:Nat):Bool:=Ah n (kas_sort n)&&(xh n n).all λσ=>!Da σ||B9 n σ
theorem Ee:rf 2=true:=by decide+kernel
theorem Ef:rf 3=true:=by decide+kernel
theorem Eg:rf 4=true:=by decide+kernel
theorem Eh:rf 5=true:=by decide+kernel
theorem Ai {n:Nat} (h2:2<=n) (h5:n<=5):rf n=true:=by
 have:n=2∨n=3∨n=4∨n=5:=by lia
 rcases this with rfl | rfl | rfl | rfl
 ·exact Ee
 ·exact Ef
 ·exact Eg
 ·exact Eh
section
variable {X:Cx} {π:List (Addr×Obj)} {σ:St} {H:Hp} {s:Shared}
theorem lx (I:aI X π σ H s) {a b:O} {p q:Addr} (da:a.dp<=3) (rp:bN X.K H (.tup (ao a)) (.ref p)) (rq:bN X.K H (.tup (ao b)) (.ref q)):∃its its2:List Value,IsTup s.heap p its.toArray/\IsTup s.heap q its2.toArray/\its.length=a.len/\its2.length=b.len/\∀A:Around,A.units+20<cLine->fI A s its its2 (decide (O.cmp a b<0)):=by
 cases rp with
 | tup hT r=>
   cases rq with
   | tup hT2 r2=>
     obtain⟨its,rv,pt,_⟩:=I.tuple (cU.of hT);obtain⟨its2,rv2,pt2,_⟩:=I.tuple (cU.of hT2);obtain⟨l1,l2⟩:=gk a b;have hd:=d7 a;refine⟨its,its2,pt,pt2,by rw[←rv.length,←r.length,aQ],by rw[←rv2.length,←r2.length,aQ],λA hu=>?_⟩;rw[←l2];exact pC I 10 A (λh1 h2 h3 h4 q1 q2 q3 q4=>sT I 10 A h1 h2 h3 h4 (by lia) q1 q2 q3 q4) (by lia) (by lia) (ca a) (ca b) l1 r r2 rv rv2
theorem Aj (I:aI X π σ H s) {a b:O} {p q:Addr} (da:a.dp<=3) (rp:bN X.K H (.tup (ao a)) (.ref p)) (rq:bN X.K H (.tup (ao b)) (.ref q)) (hu:A.units+25<cLine):kQ A s (.ref p) (.ref q) (decide (O.cmp a b<0)):=by
 obtain⟨its,its2,p1,p2,_,_,hc⟩:=lx I da rp rq;exact kQ.tuples p1 p2 (by lia) (hc A.in1 (by show A.units+1+20<cLine;lia))
theorem ut {x y:Value} {b:Bool} (h:kQ A s x y b) {Q:Bool->Shared->Prop} (q:Q b s):wpAny (model prog w) A (oneLt' false x y) Q E s:=by
 refine kat_one x y ?_;show wpAny (model prog w) A (richCompare .Lt x y) _ E s;exact h prog w E _ q
theorem xi (I:aI X π σ H s) {a b:O} {p q:Addr} (da:a.dp<=3) (rp:bN X.K H (.tup (ao a)) (.ref p)) (rq:bN X.K H (.tup (ao b)) (.ref q)) (hu:A.units+25<cLine) {Q:Bool->Shared->Prop} (h:Q (decide (O.cmp a b<0)) s):wpAny (model X.prog X.w) A (keyLt' general' (.ref p) (.ref q)) Q E s:=ut (Aj I da rp rq hu) h
theorem uu {prog:Program} {w:World} {A:Around} {Q:Bool->Shared->Prop} {r:Bool} {s:Shared} {fin:Bool}:∀{xs ys:ydw} {i:Nat},fI A s xs ys r->(xs.length=ys.length->fin=false)->(xs.length<ys.length->fin=true)->(ys.length<xs.length->fin=false)->Q r s->KatLex prog w A false fin Q (xs.zip ys) i s
 | _,_,i,.nn,h1,_,_,q=>by
   have:=h1 rfl;subst this;exact q
 | _,_,i,.nc,_,h2,_,q=>by
   have:=h2 (by simp);subst this;exact q
 | _,_,i,.cn,_,_,h3,q=>by
   have:=h3 (by simp);subst this;exact q
 | _,_,i,.eq he t,h1,h2,h3,q=>by
   refine kat_cons (he prog w _ _ (kat_yes ?_));exact uu t (λe=>h1 (by simp[e])) (λe=>h2 (by simpa using e)) (λe=>h3 (by simpa using e)) q
 | _,_,i,.ne he t,_,_,_,q=>by
   refine kat_cons (he prog w _ _ (kat_no ?_));rw[Bool.false_and];exact ut t q
theorem xj (I:aI X π σ H s) {a b:O} {p q:Addr} (da:a.dp<=3) (rp:bN X.K H (.tup (ao a)) (.ref p)) (rq:bN X.K H (.tup (ao b)) (.ref q)) (hu:A.units+25<cLine) {Q:Bool->Shared->Prop} (h:Q (decide (O.cmp a b<0)) s):wpAny (model X.prog X.w) A (keyLt' (tuples' false) (.ref p) (.ref q)) Q E s:=by
 obtain⟨its,its2,⟨o1,e1,c1,n1,d1⟩,⟨o2,e2,c2,n2,d2⟩,_,_,hc⟩:=lx I da rp rq;refine kat_lt e1 d1 e2 d2 (uu (hc A (by lia)) (λe=>?_) (λe=>?_) (λe=>?_) h)
 ·exact ycz (by simp only[size_toArray];simp at e;lia)
 ·exact ycw (by simpa using e)
 ·exact ycz (by simp only[size_toArray];simp at e;lia)
theorem xk (I:aI X π σ H s) {a b:O} {p q:Addr} (da:a.dp<=3) (rp:bN X.K H (.tup (ao a)) (.ref p)) (rq:bN X.K H (.tup (ao b)) (.ref q)) (hu:A.units+25<cLine) {Q:Bool->Shared->Prop} (h:Q (decide (O.cmp a b<0)) s):wpAny (model X.prog X.w) A (keyLt' oneType' (.ref p) (.ref q)) Q E s:=by
 obtain⟨its,its2,⟨⟨cl1,dd1,da1,sl1⟩,e1,c1,n1,d1⟩,⟨⟨cl2,dd2,da2,sl2⟩,e2,c2,n2,d2⟩,_,_,hc⟩:=lx I da rp rq;simp only at c1 d1 c2 d2;subst c1 d1 c2 d2;have ty:s.TypeIs (.ref p) "tuple":=⟨_,e1,rfl⟩;rw[keyLt'_oneType,oneLt'_eq];simp only[if_true];refine wax (wpAny_cRoomFor_or (.inr (by lia)) ?_);refine wax (wpAny_callSpecialIfBound?_slot (name:=Str.ofString "__lt__") ty PySem.F.slot_tuple_lt (call_meets PySem.F.slot_tuple_lt ty PySem.F.entry_tuple_lt (PySem.F.args_tuple_lt_2 _ _) (jd p q its.toArray its2.toArray n1 n2 dd1 dd2 sl1 sl2 (decide (O.cmp a b<0))) ⟨e1,e2,by simpa using hc A.in1 (by show A.units+1+20<cLine;lia),?_⟩));exact wpAny_truthy_bool h
end
noncomputable def fF (h:Heap) (d:Addr) (es:Array DictEntry) (ep:Nat):Prop:=∃o,h.get? d=some o/\o.ExactDict/\o.data=.dict es ep
theorem fF.at {h h':Heap} {d:Addr} {es:Array DictEntry} {ep:Nat} (x:fF h d es ep) (k:∀o,h.get? d=some o->h'.get? d=some o):fF h' d es ep:=let ⟨o,e,r⟩:=x;⟨o,k o e,r⟩
theorem fF.ty {d:Addr} {es:Array DictEntry} {ep:Nat} (x:fF s.heap d es ep):s.TypeIs (.ref d) "dict":=let ⟨o,e,c,_⟩:=x;⟨o,e,c.1⟩
section
variable {prog:Program} {w:World} {A:Around} {E:ydz} {s:Shared} {it d:Addr} {i ep:Nat} {es:Array DictEntry}
theorem uv (lo:(d==sysModules)=false) (x:fF s.heap d es ep)
 (q:Q (.ref s.heap.objs.size) { s with heap:=s.heap.push { cls:= .type "dict_keyiterator",data:= .fields #[.ref d,.int 0 0,.int es.size 0,.int ep 0] } }):wpAny (model prog w) A (pyIter (.ref d)) Q E s:=by
 have ty:=x.ty;obtain⟨o,gO,_,dO⟩:=x;refine wpAny_pyIter_slot ty F.slot_dict_iter (wpAny_call_entry F.slot_dict_iter ty F.entry_dict_iter ?tree (F.args_dict_iter_1 _))
 case tree=>
  unfold Builtin.«dict.__iter__» Builtin.Dict.dictSlotNone;refine wax (wax (wpAny_notOrdered_dict ty (way (a:=Value.ref d) ?_)));show wpAny _ _ (Builtin.Dict.showsAll d >>= _) _ _ s;unfold Builtin.Dict.showsAll;rw[lo,ybv ycy];refine wax (way (wax (wpAny_dictEntries gO dO (wax (wpAny_dictEpoch gO dO ?_)))));refine wax (wpAny_newObj_type (way ⟨_,rfl,"dict_keyiterator",_,⟨_,yav _ rfl,rfl⟩,F.slot_dict_keyiterator_next.lookup,?_⟩));simpa[rawInt] using q
theorem uw {Q:Option Value->Shared->Prop} (ki:s.heap.IsKeyIter it d i es.size ep) (x:fF s.heap d es ep) (hi:i<es.size)
 (q:∀h',h'.IsKeyIter it d (i+1) es.size ep->Heap.SameBut it s.heap h'->Q (some es[i].key) { s with heap:=h' }):wpAny (model prog w) A (pyNext (.ref it)) Q E s:=by
 have tk:=ki.typeIs;obtain⟨o,gI,cI,dI⟩:=id ki;obtain⟨od,gO,_,dO⟩:=x;unfold pyNext;refine wax (wpAny_attempt (wpAny_callSpecial?_slot (name:=Str.ofString "__next__") tk F.slot_dict_keyiterator_next (wpAny_call_entry F.slot_dict_keyiterator_next tk F.entry_dict_keyiterator_next ?tree (F.args_dict_keyiterator_next_1 _))))
 case tree=>
  refine wax (way (wax (wax ?_)))
  first | refine wax (wpAny_typeNameOfWhole_keyiter tk (way (wax (wpAny_fieldsOf gI dI ?_)))) | refine wax (wpAny_typeNameOf_keyiter tk (way (wax (wpAny_fieldsOf gI dI ?_))))
  simp only[show Builtin.Dict_items.ownsTuple "dict_keyiterator"=false from by decide,Bool.false_eq_true,if_false];show wpAny _ _ (if (Value.ref d==Value.none)=true then _ else _) _ _ s;rw[show(Value.ref d==Value.none)=false from rfl,ybv ycy];refine wax (way (wax (wpAny_dictEntries gO dO ?_)));rw[ybv (by simp)];refine wax (way (wax (wpAny_dictEpoch gO dO ?_)));rw[ybv (by simp)];refine way ?_;simp only[show ¬((i:Int)<0) from by lia,if_false,Int.toNat_natCast,Array.getElem?_eq_getElem hi];refine wax ?_
  first | refine wax (wpAny_typeNameOfWhole_keyiter tk (way (wax (wpAny_isOneOf_keyiter tk ?_)))) | refine wax (wpAny_typeNameOf_keyiter tk (way (wax (wpAny_isOneOf_keyiter tk ?_))))
  show wpAny _ _ (setField (.ref it) 1 (rawInt ((i:Int)+1)) >>= _) _ _ s;refine wax (wpAny_setField gI dI (by simp) ?_);have ki':(s.heap.update it (Obj.mapFields (·.setIfInBounds 1 (rawInt ((i:Int)+1))))).IsKeyIter it d (i+1) es.size ep:=
   ⟨_,Heap.get?_update_self _ gI (Obj.isFreed_of_fields (Obj.data_mapFields dI _)),(Obj.cls_mapFields ..).trans cI,by rw[Obj.data_mapFields dI];simp[rawInt]⟩
  refine wax (wpAny_holding (wax (wpAny_isOneOf_keyiter (s:={ s with heap:=s.heap.update it (Obj.mapFields (·.setIfInBounds 1 (rawInt ((i:Int)+1)))) }) ki'.typeIs ?_)));exact way (a:=es[i].key) (way ⟨_,rfl,way (q _ ki' (Heap.SameBut.update ..))⟩)
theorem xm {Q:Option Value->Shared->Prop} (hh:A.handled=none) (ki:s.heap.IsKeyIter it d i es.size ep) (x:fF s.heap d es ep) (hi:es.size<=i)
 (q:∀h',Heap.ExtBut it s.heap h'->Q none { s with heap:=h' }):wpAny (model prog w) A (pyNext (.ref it)) Q E s:=by
 have tk:=ki.typeIs;obtain⟨o,gI,cI,dI⟩:=id ki;obtain⟨od,gO,_,dO⟩:=x;unfold pyNext;refine wax (wpAny_attempt (wpAny_callSpecial?_slot (name:=Str.ofString "__next__") tk F.slot_dict_keyiterator_next (wpAny_call_entry F.slot_dict_keyiterator_next tk F.entry_dict_keyiterator_next ?tree (F.args_dict_keyiterator_next_1 _))))
 case tree=>
  refine wax (way (wax (wax ?_)))
  first | refine wax (wpAny_typeNameOfWhole_keyiter tk (way (wax (wpAny_fieldsOf gI dI ?_)))) | refine wax (wpAny_typeNameOf_keyiter tk (way (wax (wpAny_fieldsOf gI dI ?_))))
  simp only[show Builtin.Dict_items.ownsTuple "dict_keyiterator"=false from by decide,Bool.false_eq_true,if_false];show wpAny _ _ (if (Value.ref d==Value.none)=true then _ else _) _ _ s;rw[show(Value.ref d==Value.none)=false from rfl,ybv ycy];refine wax (way (wax (wpAny_dictEntries gO dO ?_)));rw[ybv (by simp)];refine wax (way (wax (wpAny_dictEpoch gO dO ?_)));rw[ybv (by simp)];refine way ?_;simp only[show ¬((i:Int)<0) from by lia,if_false,Int.toNat_natCast,Array.getElem?_eq_none hi];refine wax ?_
  first | refine wax (wpAny_typeNameOfWhole_keyiter tk (way ?_)) | refine wax (wpAny_typeNameOf_keyiter tk (way ?_))
  show wpAny _ _ (setField (.ref it) 0 .none >>= _) _ _ s;refine wax (wpAny_setField gI dI (by simp) ?_);show wpAny _ _ (newExc (.type "StopIteration") [] >>= _) _ _ _;refine wax ?_;simp only[newExc,newTuple];refine wax (wpAny_newObj_type (wax (m:=firstArgMember _ _) (wpAny_of_eq (a:=Value.none) (by first | rfl | (simp only[firstArgMember];rfl)) (wpAny_newObj_type ?_ (by size_fits)))) (by size_fits));simp only[raiseNew];refine wax (wpAny_handled ?_);rw[show A.in1.handled=none from hh];refine wax (way (wpAny_throw ?_));refine wax (wpAny_isInstance (T:="StopIteration") (b:=true) ⟨_,yav _ rfl,rfl⟩ isSubtype_stop ?_);exact way (q _ (((Heap.SameBut.update ..).extBut.push _).push _))
theorem rl (hh:A.handled=none) (I:Addr) (hne:d≠I):Walks prog w A I [I,d] [I] es.size (λi v=>∃e,es[i]?=some e/\v=e.key) (λi h=>h.IsKeyIter I d i es.size ep/\fF h d es ep) where
 sub:=λb hb=>by simp at hb;simp[hb]
 frame:=λ_ _ _ st hk=>⟨st.1.at λo e=>hk I (by simp) o e,st.2.at λo e=>hk d (by simp) o e⟩
 item:=λi s Q E hi st hQ=>uw st.1 st.2 hi λh' ki' sb=>hQ _ h' s.toks ⟨_,Array.getElem?_eq_getElem hi,rfl⟩ ⟨ki',st.2.at λo e=>(sb.2 d hne).trans e⟩ λb o hb e=>(sb.2 b (λz=>hb (by simp[z]))).trans e
 done:=λs Q E st hQ=>xm hh st.1 st.2 (yby _) λh' eb=>hQ h' s.toks λb o hb e=>eb b o (λz=>hb (by simp[z])) e
 self:=λ_ _ _ _ st hQ=>wpAny_pyIter_keyiter st.1 hQ
theorem xn (lo:(d==sysModules)=false):KdlSrc prog w "dict" d d es.size (λi v=>∃e,es[i]?=some e/\v=e.key) (λh=>fF h d es ep) where
 type:=λ_ x=>x.ty
 there:=λ_ x=>let ⟨_,e,_⟩:=x;⟨ybx e,ybx e⟩
 keep:=λ_ _ x hk=>x.at λo e=>hk d (.inl rfl) o e
 notList:=by decide
 notTuple:=by decide
 hint:=λ_ _ _ _ x hq=>kdl_hint_dict x.ty hq
 iter:=λ_ _ hh x=>⟨_,_,(λ_ _ hq=>uv lo x hq),rl hh _ (let ⟨_,e,_⟩:=x;ne_of_lt (ybx e)),⟨⟨_,yav _ rfl,rfl,rfl⟩,x.at λo e=>yaw _ e⟩⟩
end
end L2
set_option maxHeartbeats 1000000
namespace L2
open PySem PySem.Spec PyProof.Rows Nm PySem.W
inductive NV (K:yax) (H:Hp):List O->List Value->Prop where
 | nil:NV K H [] []
 | cons {o:O} {a:Addr} {os:List O} {us:ydw} (r:bN K H (.tup (ao o)) (.ref a)) (hd:o.dp<=3) (t:NV K H os us):NV K H (o::os) (.ref a::us)
theorem NV.length {H:Hp}:∀{os:List O} {us:ydw},NV K H os us->os.length=us.length
 | _,_,.nil=>rfl
 | _,_,.cons _ _ t=>congrArg (·+1) t.length
theorem NV.app {H:Hp}:∀{os ps:List O} {us vs:ydw},NV K H os us->NV K H ps vs->NV K H (os++ps) (us++vs)
 | _,_,_,_,.nil,t=>t
 | _,_,_,_,.cons r hd t,t2=> .cons r hd (t.app t2)
theorem NV.rev {H:Hp}:∀{os:List O} {us:ydw},NV K H os us->NV K H os.reverse us.reverse
 | _,_,.nil=> .nil
 | _,_,.cons r hd t=>by
   rw[List.reverse_cons,List.reverse_cons];exact t.rev.app (.cons r hd .nil)
theorem NV.at {H:Hp}:∀{os:List O} {us:ydw},NV K H os us->∀i,i<os.length->∃a,us.getD i Value.none=.ref a/\bN K H (.tup (ao (os.getD i .z))) (.ref a)/\(os.getD i .z).dp<=3
 | _,_,.nil,i,h=>absurd h (Nat.not_lt_zero _)
 | _,_,.cons r hd t,0,_=>⟨_,rfl,r,hd⟩
 | _,_,.cons r hd t,i+1,h=>t.at i (Nat.lt_of_succ_lt_succ h)
theorem NV.pick {H:Hp} {os:List O} (h:NV K H os us):∀{p:List Nat},(∀i,i∈p->i<os.length)->NV K H (p.map λi=>os.getD i .z) (p.map λi=>us.getD i Value.none)
 | [],_=> .nil
 | i::p,hp=>by
   obtain⟨a,h1,h2,h3⟩:=h.at i (hp i yaz);rw[map_cons,map_cons,h1];exact .cons h2 h3 (h.pick λj hj=>hp j (yay _ hj))
section
variable {X:Cx} {π:List (Addr×Obj)} {σ:St} {H:Hp} {s:Shared}
theorem g9 {M:Model} {o:Obj} {h:Heap} (e:h.get? a=some o) (c:o.cls=.type "tuple"):Looks M h (typeOf (.ref a)) (.type "tuple"):=c▸((Looks.ld e).andThen .now)
theorem kA (I:aI X π σ H s) {M:Model} {A:Around} {E:ydz}:∀{os:List O} {us:ydw},NV X.K H os us->∃fs:List (Option Value),fs.length=us.length/\(∀v,some v∈fs->Looks M s.heap (typeOf v) (.type "tuple"))/\∀{Q:List (Option Value)->Shared->Prop},Q fs s->wpAny M A (us.mapM firstOfTuple') Q E s
 | _,_,.nil=>⟨[],rfl,(λ_ h=>(nomatch h)),λq=>by rw[List.mapM_nil];exact way q⟩
 | _,_,.cons (o:=o) (a:=a) (us:=us) r hd t=>by
   obtain⟨fs,h1,h2,h3⟩:=kA I t;cases r with
   | tup hT rr=>
     obtain⟨its,rv,⟨ob,e,c,n,dd⟩,_⟩:=I.tuple (cU.of hT);refine⟨its[0]?::fs,by simp[h1],λv hv=>?_,λ{Q} q=>?_⟩
     ·rcases mem_cons.mp hv with hv | hv
      ·cases o with
       | z=>
         cases rr;cases rv;cases hv
       | c e1 n1 r1=>
         rw[bJ] at rr;cases rr with
         | cons q1 qs=>
           cases rv with
           | cons w1 ws=>
             cases hv;unfold fL at q1;cases q1 with
             | tup hT2 _=>
               obtain⟨its2,_,⟨ob2,e2,c2,n2,dd2⟩,_⟩:=I.tuple (cU.of hT2);cases (show v=Value.ref _ from w1);exact g9 e2 c2
      ·exact h2 v hv
     ·rw[List.mapM_cons];refine wax ?_;rw[kas_first_eq];refine wax ((g9 e c).here ?_);rw[ybv (by decide)];refine wax (listItems_at e dd (way (wax (h3 (way ?_)))));simpa using q
theorem ng (I:aI X π σ H s) {M:Model}:∀{os:List O} {us:ydw},NV X.K H os us->∀v,v∈us->Looks M s.heap (typeOf v) (.type "tuple")
 | _,_,.nil,v,hv=>(nomatch hv)
 | _,_,.cons r hd t,v,hv=>by
   rcases mem_cons.mp hv with rfl | hv
   ·cases r with
    | tup hT rr=>
      obtain⟨its,rv,⟨ob,e,c,n,dd⟩,_⟩:=I.tuple (cU.of hT);exact g9 e c
   ·exact ng I t v hv
theorem nh {M:Model} {vs:ydw} (hne:vs≠[]) (hT:∀v,v∈vs->Looks M s.heap (typeOf v) (.type "tuple")) {Q:Option Value->Shared->Prop} (q:Q (some (.type "tuple")) s):wpAny M A (oneTypeOnly' vs.toArray) Q E s:=by
 rw[oneTypeOnly'_eq,List.mapM_toArray,map_eq_pure_bind];refine wax (wax (kas_mapM (r:=Value.type "tuple") _ (λv hv Q' hq=>(hT v hv).here hq) (way ?_)));cases vs with
 | nil=>exact absurd rfl hne
 | cons v vs=>
   have e0:(List.map (λ_=>Value.type "tuple") (v::vs)).toArray[0]?=some (Value.type "tuple"):=by simp
   have e1:((List.map (λ_=>Value.type "tuple") (v::vs)).toArray.all λx=>x==Value.type "tuple")=true:=by simp
   rw[e0];simp only[e1,if_true];exact way q
theorem xo (I:aI X π σ H s) {os:List O} (nv:NV X.K H os us) (h1:1<=us.length) {Q:SortKind->Shared->Prop} (q:∀κ,(κ=tuples' false∨κ=general'∨κ=oneType')->Q κ s):wpAny (model X.prog X.w) A (keyKind' us.toArray) Q E s:=by
 obtain⟨fs,l1,l2,l3⟩:=kA (M:=model X.prog X.w) (A:=A) (E:=E) I nv;have hne:us≠[]:=λz=>by rw[z] at h1;exact absurd h1 (by decide)
 rw[kat_kind_eq,List.mapM_toArray,map_eq_pure_bind];refine wax (wax (l3 (way ?_)))
 by_cases hall:(fs.toArray.all λx=>x.isSome)=true
 ·rw[ycx hall];refine wax (wpAny_rule ?_);have hfm:(fs.toArray.filterMap id)=(fs.filterMap id).toArray:=by simp
  rw[hfm];refine wax (nh ?_ (λv hv=>?_) ?_)
  ·intro z;have:fs≠[]:=λz2=>by rw[z2] at l1;exact hne (eq_nil_of_length_eq_zero l1.symm)
   cases fs with
   | nil=>exact this rfl
   | cons f fs=>
     cases f with
     | none=>simp at hall
     | some v=>simp at z
  ·obtain⟨x,hx,hv⟩:=List.mem_filterMap.mp hv;exact l2 v (by rw[←hv];exact hx)
  ·exact way (q _ (.inl rfl))
 ·rw[ybv hall]
  by_cases h0:(fs.toArray[0]?.bind id).isSome=true
  ·rw[ycx h0];exact way (q _ (.inr (.inl rfl)))
  ·rw[ybv h0];refine wax (nh hne (ng I nv) ?_);exact way (q _ (.inr (.inr rfl)))
theorem xq (I:aI X π σ H s) {a b:O} {p q:Addr} (da:a.dp<=3) (rp:bN X.K H (.tup (ao a)) (.ref p)) (rq:bN X.K H (.tup (ao b)) (.ref q)) (hu:A.units+25<cLine) {κ:SortKind} (hκ:κ=tuples' false∨κ=general'∨κ=oneType') {Q:Bool->Shared->Prop} (h:Q (decide (O.cmp a b<0)) s):wpAny (model X.prog X.w) A (keyLt' κ (.ref p) (.ref q)) Q E s:=by
 rcases hκ with rfl | rfl | rfl
 ·exact xj I da rp rq hu h
 ·exact xi I da rp rq hu h
 ·exact xk I da rp rq hu h
theorem rm (vs:ydw):(vs.toArray.zip vs.toArray).reverse=pairsOf vs.reverse:=by
 apply Array.toList_inj.mp;show(vs.toArray.zip vs.toArray).reverse.toList=(vs.reverse.toArray.zip vs.reverse.toArray).toList;rw[Array.toList_reverse,Array.toList_zip,Array.toList_zip];show(List.zip vs vs).reverse=List.zip vs.reverse vs.reverse;unfold List.zip;exact List.reverse_zipWith rfl
theorem uz {os:List O} {n:Nat} (hn:os.length=n) (h2:2<=n) (h5:n<=5) (hd:os.Nodup):Ah n (kas_sort n)=true/\∃p:List Nat,p=(rc (re (os.map (rk os))) (kas_sort n)).toList/\(p.map λi=>(os.map (rk os)).getD i 0)=List.range n/\∀i,i∈p->i<n:=by
 have hc:=Ai h2 h5;unfold rf at hc;rw[Bool.and_eq_true] at hc;refine⟨hc.1,_,rfl,?_⟩;have hm:os.map (rk os)∈xh n n:=by
  have:=m9 (n:=n) (l:=os.map (rk os)) λx hx=>by
   obtain⟨o,ho,rfl⟩:=mem_map.mp hx;rw[←hn];exact zH ho
  rw[length_map,hn] at this;exact this
 have hnd:(os.map (rk os)).Nodup:=by
  rw[List.Nodup,List.pairwise_map];exact hd.imp_of_mem λ{a b} ha hb hne z=>hne (zI ha hb z)
 have h3:=all_eq_true.mp hc.2 _ hm;rw[ur hnd,Bool.not_true,Bool.false_or] at h3;unfold B9 at h3;rw[Bool.and_eq_true] at h3;refine⟨by simpa using h3.1,λi hi=>?_⟩;have:=all_eq_true.mp h3.2 i hi;simpa using this
theorem uA {os:List O} {i j:Nat} (hi:i<os.length) (hj:j<os.length):re (os.map (rk os)) i j=decide (O.cmp (os.getD i .z) (os.getD j .z)<0):=by
 have e:∀k,k<os.length->(os.map (rk os)).getD k 0=rk os (os.getD k .z)/\os.getD k .z∈os:=λk hk=>by
  rw[List.getD_eq_getElem?_getD,List.getD_eq_getElem?_getD,List.getElem?_map,ybw hk];exact⟨rfl,getElem_mem hk⟩
 unfold re;rw[(e i hi).1,(e j hj).1];exact decide_eq_decide.mpr (tM (e i hi).2 (e j hj).2)
theorem rz (I:aI X π σ H s) {vs:ydw} {os:List O} {n:Nat} {R:PySem.Fin->Shared->Prop} (ho:s.heap.get? a=some (seqObj "list" vs.toArray n)) (fa:iD X π H a) (nv:NV X.K H os vs) (hnd:os.Nodup) (h5:vs.length<=5) (hu:A.units+25<cLine)
 (h:∀(out:ydw) (ks:List O) (h':Heap) (e:Nat),(∀b o,b≠a->s.heap.get? b=some o->h'.get? b=some o)->h'.get? a=some (seqObj "list" out.toArray e)->NV X.K H ks out->cW ks->ks.Perm os->R (.done (.ret .none)) { s with heap:=h' }):
 wpAny (model X.prog X.w) A (Builtin.«list.sort» ⟨[.ref a],[(Str.ofString "reverse",.bool true)]⟩) R E s:=by
 have hlen:=nv.length;rw[list_sort_rev];have ha:a<s.heap.objs.size:=ybx ho;refine wax (listItems_at ho rfl ?_);refine wax (listUpdate_at ho rfl ?_ (by rw[size_toArray,sizeLine_eq];lia) (zero_le _));obtain⟨e1,ho1⟩:∃e1,(s.heap.update a (Obj.mapSeq λ_=> #[])).get? a=some (seqObj "list" #[] e1):=⟨_,get?_update_seq ho (λ_=> #[])⟩;refine wax (seqEpoch_at ho1 rfl ?_);refine wax (wpAny_newTuple ?_ (by show vs.length<=_;rw[sizeLine_eq];lia));refine wax (wpAny_newList ?_ (zero_le _));refine wpAny_holding ?_;have sb:Heap.SameBut a s.heap (s.heap.update a (Obj.mapSeq λ_=> #[])):=Heap.SameBut.update ..;have keep6:∀b o,b≠a->s.heap.get? b=some o->(((s.heap.update a (Obj.mapSeq λ_=> #[])).push (seqObj "tuple" vs.toArray 0)).push (seqObj "list" #[] 0)).get? b=some o:=λb o hb e=>yaw _ (yaw _ ((sb.2 b hb).trans e));have ho6:(((s.heap.update a (Obj.mapSeq λ_=> #[])).push (seqObj "tuple" vs.toArray 0)).push (seqObj "list" #[] 0)).get? a=some (seqObj "list" #[] e1):=yaw _ (yaw _ ho1);show wpAny (model X.prog X.w) A _ R E { s with heap:=((s.heap.update a (Obj.mapSeq λ_=> #[])).push (seqObj "tuple" vs.toArray 0)).push (seqObj "list" #[] 0) };generalize ((s.heap.update a (Obj.mapSeq λ_=> #[])).push (seqObj "tuple" vs.toArray 0)).push (seqObj "list" #[] 0)=h6 at keep6 ho6 ⊢;obtain⟨f0,f1,f2,f3,f4,f5⟩:=fa;have I6:aI X π σ H { s with heap:=h6 }:=I.turned (t':=s.toks) keep6 f0 f1 f3 f4 f5;simp only[if_true];refine wax (wpAny_rule ?_)
 -- what is left once the order is known
 have fin:∀(out:ydw) (ks:List O),NV X.K H ks out->cW ks->ks.Perm os->out.length=vs.length->wpAny (model X.prog X.w) A (Builtin.List.listUpdate (.ref a) λ_=>out.toArray) (λ_ s'=>∃h' e,s'={ s with heap:=h' }/\(∀b o,b≠a->s.heap.get? b=some o->h'.get? b=some o)/\h'.get? a=some (seqObj "list" out.toArray e)) E { s with heap:=h6 }:=λout ks _ _ _ hl=>by
  refine listUpdate_at ho6 rfl ?_ (zero_le _) (by rw[size_toArray,sizeLine_eq];lia);have sb2:Heap.SameBut a h6 (h6.update a (Obj.mapSeq λ_=>out.toArray)):=Heap.SameBut.update ..;exact⟨_,_,rfl,λb o hb e=>(sb2.2 b hb).trans (keep6 b o hb e),get?_update_seq ho6 λ_=>out.toArray⟩
 by_cases h2:vs.toArray.size<2
 ·rw[ycx h2,ycx h2];refine wax (way ?_);rw[StateT.run_pure];refine wax (way ?_);dsimp only;refine wax (seqEpoch_at ho6 rfl ?_);have eo:((arrOf (SortSt.mk' general' (vs.toArray.zip vs.toArray).reverse #[] 7 none)).map (·.2)).reverse=vs.toArray:=by
   show(((vs.toArray.zip vs.toArray).reverse).map (·.2)).reverse=vs.toArray;apply Array.toList_inj.mp;simp[List.map_snd_zip]
  rw[eo];have hd1:cW os:=by
   have:os.length<2:=by rw[hlen];simpa using h2
   match os,this with
   | [],_=>exact List.Pairwise.nil
   | [x],_=>exact List.pairwise_singleton _ _
  refine wax (wpAny_mono (fin vs os nv hd1 (List.Perm.refl _) rfl) (λ_ s' z9=>?_) λ_ _ x=>x);obtain⟨h',e,es,k1,k2⟩:=z9;subst es;simp only[bne_self_eq_false,Bool.false_eq_true,if_false];exact way (h vs os h' e k1 k2 nv hd1 (List.Perm.refl _))
 ·rw[ybv h2,ybv h2];have hn2:2<=vs.length:=by simpa using h2
  refine wax (xo I6 nv (by lia) λκ hκ=>?_);have nv':=nv.rev;have hl':os.reverse.length=vs.length:=by rw[length_reverse];exact hlen
  have hnd':os.reverse.Nodup:=by rw[List.Nodup,List.pairwise_reverse];exact hnd.imp λh=>h.symm
  obtain⟨ok,p,hp,hp1,hp2⟩:=uz hl' hn2 h5 hnd';obtain⟨dsc,prm⟩:=wb hl' hnd' hp1 hp2;have nvp:=(nv'.pick (p:=p) λi hi=>by rw[hl'];exact hp2 i hi).rev;have hlp:p.length=vs.length:=by have:=congrArg List.length hp1;simpa using this
  have hask:(kas_sort vs.length).kasWp (kas_cmp X.prog X.w A κ (pairsOf vs.reverse)) (λp' s'=>s'={ s with heap:=h6 }/\p'.toList=p) { s with heap:=h6 }:=by
   refine mZ (n:=vs.length) (lt:=re (os.reverse.map (rk os.reverse))) (λi j hi hj C hC=>?_) _ ok ⟨rfl,hp.symm⟩;rw[←kas_ask_eq];unfold kas_ask;obtain⟨a1,g1,g2,g3⟩:=nv'.at i (by rw[hl'];exact hi);obtain⟨a2,k1,k2,k3⟩:=nv'.at j (by rw[hl'];exact hj);rw[g1,k1];rw[uA (by rw[hl'];exact hi) (by rw[hl'];exact hj)] at hC;exact xq I6 g3 g2 k2 hu hκ hC
  have est:SortSt.mk' κ (vs.toArray.zip vs.toArray).reverse #[] 7 none=kas_st κ (pairsOf vs.reverse) (List.toArray (List.range vs.length)):=by
   have e:=kas_range (pairsOf vs.reverse);rw[pairsOf_size,length_reverse] at e;rw[rm];show SortSt.mk' κ (pairsOf vs.reverse) #[] 7 none=SortSt.mk' κ ((List.toArray (List.range vs.length)).map (kas_item (pairsOf vs.reverse))) #[] 7 none;rw[e]
  have run:=kas_runs (E:=E) (κ:=κ) (it:=pairsOf vs.reverse) (Q:=λ_ st' s'=>s'={ s with heap:=h6 }/\(arrOf st').map (·.2)=(p.map λi=>vs.reverse.getD i Value.none).toArray/\failedOf st'=none) hn2 (by lia) (λp' st' s' a1 a2 a3 a4=>⟨a4.1,by
   apply Array.toList_inj.mp;rw[a2,Array.map_map,Array.toList_map,a4.2];exact List.map_congr_left λi _=>by show(kas_item (pairsOf vs.reverse) i).2=_;rw[kas_item_eq],a3⟩) hask
  rw[←est] at run;refine wax (wpAny_mono run ?_ λ_ _ e=>e);rintro⟨⟨⟩,st'⟩ s' ⟨rfl,har,hf⟩;dsimp only;refine wax (seqEpoch_at ho6 rfl ?_);rw[har,show(p.map λi=>vs.reverse.getD i Value.none).toArray.reverse=((p.map λi=>vs.reverse.getD i Value.none).reverse).toArray by simp];have prm2:=prm.trans (List.reverse_perm os);refine wax (wpAny_mono (fin _ _ nvp dsc prm2 (by rw[length_reverse,length_map,hlp])) (λ_ s' z9=>?_) λ_ _ x=>x);obtain⟨h',e,es,k1,k2⟩:=z9;subst es;rw[hf];simp only[bne_self_eq_false,Bool.false_eq_true,if_false];exact way (h _ _ h' e k1 k2 nvp dsc prm2)
end
section
variable {X:Cx} {π:List (Addr×Obj)} {σ:St} {H:Hp} {s:Shared}
theorem fP.ents {P:Program} {w:World} {K:yax}:∀{kvs:List (O×W)} {xs:List (O×Addr×Value)},fP K H kvs xs->(∀p,p∈kvs->p.1.dp<=3)->NV K H (kvs.map (·.1)) ((xs.map (entryOfKey (jt P w))).map (·.key))
 | _,_,.nil,_=> .nil
 | _,_,.cons rk _ _ t,h=> .cons rk (h _ yaz) (fP.ents t λp hp=>h p (yay _ hp))
theorem oS (hr:av k X.A) (hc:X.calm=true) (I:aI X π σ H s) {d:Addr} {kvs:List (O×W)} (hD:jL X.prog X.w X.K kvs H d) (h5:kvs.length<=5)
 (h:∀(h1:Heap) (ks:List O) (out:ydw) (h':Heap) (tk e:Nat),aI X π σ H { s with heap:=h1,toks:=tk }->(∀b o,h1.get? b=some o->h'.get? b=some o)->h'.get? h1.objs.size=some (seqObj "list" out.toArray e)->NV X.K H ks out->cW ks->ks.Perm (kvs.map (·.1))->Q (.ref h1.objs.size) { s with heap:=h',toks:=tk }):
 wpAny (model X.prog X.w) X.A (call (.builtin "sorted") [.ref d] [(Str.ofString "reverse",.bool true)]) Q E s:=by
 have hun:=hr.un;obtain⟨xs,eH,kv,ob,es,ep,m1,m2,m3,m4,_⟩:=hD.dict I;have hsz:es.size=kvs.length:=by rw[size_of_entries m4,kv.length]
 refine call_function_entry_kw kind_sorted plain_sorted entry_sorted (args_sorted_rev _ _) ?_;unfold Builtin.«sorted»;refine wax (m:=checkCount "sorted" 1 1 _) (way ?_);refine wax (kdu_collect (A:=X.A.in1) (xn (es:=es) (ep:=ep) hD.2.1) (I.ok.hd hc) ⟨ob,m1,m2,m3⟩ (by rw[hsz,sizeLine_eq];lia) λh1 tk acc k1 hacc=>?_);have hal:acc.toList=es.toList.map (·.key):=by
  apply List.ext_getElem?;intro i;rw[List.getElem?_map]
  by_cases hi:i<es.size
  ·have hi2:i<acc.size:=by rw[hacc.1];exact hi
   obtain⟨e,e1,e2⟩:=hacc.2 i acc[i] (Array.getElem?_eq_getElem hi2);rw[Array.getElem?_toList,Array.getElem?_toList,e1,Array.getElem?_eq_getElem hi2,e2]
   rfl
  ·rw[Array.getElem?_toList,Array.getElem?_toList,Array.getElem?_eq_none (by rw[hacc.1];lia),Array.getElem?_eq_none (by lia)]
   rfl
 have nv:NV X.K H (kvs.map (·.1)) acc.toList:=by
  rw[hal,m4];exact fP.ents kv hD.2.2.2.1
 have hlen:acc.toList.length<=5:=by rw[←nv.length,length_map];exact h5
 refine wax (wpAny_newList ?_ (by rw[sizeLine_eq];lia));have I1:aI X π σ H { s with heap:=h1,toks:=tk }:=I.kept k1;have fp:iD X π H h1.objs.size:=I1.fpOk (yby _) (I1.hok.fresh (yby _));have I2:aI X π σ H { s with heap:=h1.push (seqObj "list" acc.toList.toArray 0),toks:=tk }:=I1.kept λb o e=>yaw _ e;refine wax (wpAny_holding (wpAny_call_entry_kw slot_list_sort ⟨_,yav _ rfl,rfl⟩ entry_list_sort (rz I2 (yav _ rfl) fp nv hD.2.2.1 hlen (by show X.A.units+1+1+25<cLine;lia) λout ks h' e k2 g2 nvk ds pm=>⟨_,rfl,?_⟩) (args_list_sort_rev _ _)));exact way ⟨_,rfl,h h1 ks out h' tk e I1 (λb o e=>k2 b o (ne_of_lt (ybx e)) (yaw _ e)) g2 nvk ds pm⟩
theorem NV.vals {K:yax}:∀{os:List O} {us:ydw},NV K H os us->∃vs:List V,aV K H (os.map λo=> .tup (ao o)) vs/\aW vs us
 | _,_,.nil=>⟨[],.nil,.nil⟩
 | _,_,.cons (a:=a) r _ t=>by
   obtain⟨vs,h1,h2⟩:=NV.vals t;exact⟨.ref a::vs,.cons r h1,.cons rfl h2⟩
noncomputable def oU (P:Program) (w:World) (K:yax) (te:WE):WE:=λτ G q=>te τ G λx G1=>match x with
 | .ref a=>∃kvs,G1 a=some (qg P w K kvs)/\kvs.length<=5/\∀(p:Addr) (ks:List O),G1 p=none->cW ks->ks.Perm (kvs.map (·.1))->q (.ref p) (aK G1 p (.lst (ks.map λo=> .tup (ao o))))
 | _=>False
theorem ni:bootBuiltins "sorted"=some (.builtin "sorted"):=by decide+kernel
theorem uB {n:Nat} {te:WE} {j} {p pos kp cp:Pos} (hr:av n X.A) (hc:X.calm=true) (hg:Gl X "sorted") (hm:X.mg "sorted"=none) (he:QE X e te)
 (hs1:starEach [e] X.env=(false,eval e X.env)::starEach [] X.env:=by rfl) (hb1:backTo pos (starEach [e] X.env)=(false,eval e X.env)::backTo pos (starEach [] X.env):=by rfl) (hpl:(backTo pos (starEach [e] X.env)).any (·.1)=false:=by rfl):
 QE X (.Call (.Name "sorted" p) [e] [⟨some "reverse",.Constant (.bool true) j cp,kp⟩] pos) (oU X.prog X.w X.K te):=by
 rintro π s σ H Q I ⟨τ,G,q,hs,hgG,ht,hQ⟩;refine wpAny_Call_Name_kw (eU I hg hm ni ?_);have go:=(cM he pa_nil hs1) pos π s σ H (λvs H1=>∃v w G1,vs=[v]/\aT H H1/\bN X.K H1 w v/\aO X.K H1 G1/\(match w with
  | .ref a=>∃kvs,G1 a=some (qg X.prog X.w X.K kvs)/\kvs.length<=5/\∀(p:Addr) (ks:List O),G1 p=none->cW ks->ks.Perm (kvs.map (·.1))->q (.ref p) (aK G1 p (.lst (ks.map λo=> .tup (ao o))))
  | _=>False)) I ⟨τ,G,_,hs,hgG,ht,λv H1 w G1 t1 r1 g1 q1=>⟨v,w,G1,rfl,t1,r1,g1,q1⟩⟩
 refine callWith_kw (cf go λus s1 ⟨vs,H1,I1,rv,v,w,G1,ev,t1,rw1,g1,hw⟩=>kws_cons ?_) hb1 hpl rfl rfl;subst ev;refine cf (AL (X:=X) (b:=true) (j:=j) (pos:=cp) π s1 σ H1 (λv H2=>v=.bl true/\H2=H1) I1 ⟨rfl,rfl⟩) λu2 s2 ⟨v2,H2,I2,rv2,e1,e2⟩=>kws_nil ?_;subst e1 e2;cases (show u2=Value.bool true from rv2);show wpAny _ _ (call (.builtin "sorted") us [("reverse",.bool true)]) _ _ s2;split at hw
 ·rename_i a;obtain⟨kvs,e,h5,h⟩:=hw;cases rw1;obtain⟨u,rfl,ru⟩:=eV rv;cases (show u=Value.ref a from ru);refine oS hr hc I2 (g1 a _ e).1 h5 λh1 ks out h' tk ee I3 k3 g3 nvk ds pm=>?_;obtain⟨vs,r1,r2⟩:=nvk.vals;have hl:ks.length<=5:=by have:=pm.length_eq;rw[length_map] at this;lia
  have hp:=I3.hok.fresh (yby h1.objs.size);have hvl:vs.length<=sizeLine:=by rw[←r1.length,length_map,sizeLine_eq];lia
  refine⟨.ref h1.objs.size,_,I3.laid (t':=tk) k3 (yby _) (show bI X.prog X.w _ h' _ (.lst vs) from ⟨hvl,out,ee,r2,g3⟩),rfl,?_⟩;exact hQ _ _ _ _ (t1.trans (aT.new hp _)) (.ref _) (g1.put (aT.new hp _) r1 (by rw[length_map];lia)) (h _ ks (g1.fresh hp) ds pm)
 ·exact hw.elim
end
open PySem PySem.Spec PyProof.Rows
section
variable {G:Gp} {q:WK} {a b:Addr} {i j:Int} {xs ys:List W} {z z':PySem.Str} {ns:List Int} {y:W} {c d:Bool}
theorem FL:kq (.int i) (.int j) G q=q (.int (i+j)) G:=rfl
theorem FM:kq (.tup xs) (.tup ys) G q=(xs.length+ys.length<=100000/\q (.tup (xs++ys)) G):=rfl
theorem FN:kq (.ref a) (.ref b) G q=(∃xs ys,G a=some (.lst xs)/\G b=some (.lst ys)/\xs.length+ys.length<=100000/\∀p,G p=none->q (.ref p) (aK G p (.lst (xs++ys)))):=rfl
theorem FO:kq (.str z) (.str z') G q=(z.length+z'.length<=100000/\q (.str (z++z')) G):=rfl
theorem FP:kr (.int i) (.int j) G q=(ko i j/\q (.int (i*j)) G):=rfl
theorem FQ:kr (.ref a) (.int j) G q=(∃xs,G a=some (.lst xs)/\0<=j/\j<=100000/\xs.length*j.toNat<=100000/\∀p,G p=none->q (.ref p) (aK G p (.lst (List.replicate j.toNat xs).flatten))):=rfl
theorem FR:kr (.tup xs) (.int j) G q=(xs≠[]/\0<=j/\j<=100000/\xs.length*j.toNat<=100000/\q (.tup (List.replicate j.toNat xs).flatten) G):=rfl
theorem FS:kr (.str z) (.int j) G q=(0<=j/\j<=100000/\z.length*j.toNat<=100000/\∀z':PySem.Str,z'.length<=z.length*j.toNat->q (.str z') G):=rfl
theorem FT:cX (.ref a) (.str z) G q=(∃kvs w,GD G a kvs/\ef kvs (.inr z)=some w/\q w G):=rfl
theorem FU:cX (.str z) (.int i) G q=(z.length<=100000/\∃c,dM z.cps.toList i=some c/\q (.str ⟨#[c]⟩) G):=rfl
theorem Fs:cX (.tup xs) (.int i) G q=(∃w,dM xs i=some w/\q w G):=rfl
theorem FV:cX (.scr ns) (.int i) G q=(∃n,dM ns i=some n/\q (.int n) G):=rfl
theorem FW:cX (.ref a) (.int i) G q=(∃xs w,G a=some (.lst xs)/\dM xs i=some w/\q w G):=rfl
theorem FX:gZ (.ref a) (.ref b) G q=(∃r,Ab G a b r/\q (.bl r) G):=rfl
theorem FY:gZ (.tup xs) y G q=((W.tup xs).flat=true/\y.flat=true/\(W.tup xs).dep<=150/\q (.bl ((W.tup xs).eq y)) G):=rfl
theorem FZ:gZ (.int i) y G q=((W.int i).flat=true/\y.flat=true/\(W.int i).dep<=150/\q (.bl ((W.int i).eq y)) G):=rfl
theorem Ft:gZ (.str z) y G q=((W.str z).flat=true/\y.flat=true/\(W.str z).dep<=150/\q (.bl ((W.str z).eq y)) G):=rfl
theorem Ga:gZ (.bl c) y G q=((W.bl c).flat=true/\y.flat=true/\(W.bl c).dep<=150/\q (.bl ((W.bl c).eq y)) G):=rfl
theorem Gb:gZ .non y G q=(W.non.flat=true/\y.flat=true/\W.non.dep<=150/\q (.bl (W.non.eq y)) G):=rfl
theorem Gc:mY (.ref a) (.ref b) G q=(∃r,Ab G a b r/\q (.bl (!r)) G):=rfl
theorem Gd:mY (.tup xs) y G q=((W.tup xs).flat=true/\y.flat=true/\(W.tup xs).dep<=150/\q (.bl (!(W.tup xs).eq y)) G):=rfl
theorem Ge:mY (.int i) y G q=((W.int i).flat=true/\y.flat=true/\(W.int i).dep<=150/\q (.bl (!(W.int i).eq y)) G):=rfl
theorem Gg:mY (.str z) y G q=((W.str z).flat=true/\y.flat=true/\(W.str z).dep<=150/\q (.bl (!(W.str z).eq y)) G):=rfl
theorem Gh:mY (.bl c) y G q=((W.bl c).flat=true/\y.flat=true/\(W.bl c).dep<=150/\q (.bl (!(W.bl c).eq y)) G):=rfl
theorem Gi:mY .non y G q=(W.non.flat=true/\y.flat=true/\W.non.dep<=150/\q (.bl (!W.non.eq y)) G):=rfl
theorem Gj:vT (.int i) (.int j) G q=q (.bl (decide (i<j))) G:=rfl
theorem Gk:vT (.tup xs) (.tup ys) G q=(W.flats xs=true/\W.flats ys=true/\W.deps xs<=149/\W.ords xs ys=true/\q (.bl (W.lts xs ys)) G):=rfl
theorem Gm:sI (.int i) (.int j) G q=q (.int (i-j)) G:=rfl
theorem Go:sI (.bl c) (.bl d) G q=q (.int (b2i c-b2i d)) G:=rfl
theorem Gq {C:Int->Int->Prop} {f:Int->Int->W}:qK C f (.int i) (.int j) G q=(C i j/\q (f i j) G):=rfl
theorem Gr {f:Int->Int->W}:jZ f (.int i) (.int j) G q=q (f i j) G:=rfl
theorem Gs:ky [.ref a] G q=(∃n:Nat,wV G a n/\q (.int n) G):=rfl
theorem Gu:ky [.str z] G q=(z.length<=100000/\q (.int z.length) G):=rfl
theorem Gv:ky [.tup xs] G q=q (.int xs.length) G:=rfl
theorem Gw:ky [.scr ns] G q=q (.int ns.length) G:=rfl
theorem Gx:DY (.int i) (.int j) G q=q (.bl (decide (i≥j))) G:=rfl
theorem Gy:gZ (.ref a) (.int i) G q=((W.ref a).flat=true/\(W.int i).flat=true/\(W.ref a).dep<=150/\q (.bl ((W.ref a).eq (.int i))) G):=rfl
end
section
variable {τ:cT} {G:Gp} {d:dm} {i:Nat} {k:Int} {a b:Str} {ws:List W} {t u v:WS} {c:WT}
theorem oV {q:Bool->Gp->Prop} (h1:τ[i]?=some (some (.tup ws))) (h2:dM ws k=some (.str a)) (e:Bool) (h3:decide (a=b)=e) (h:q e G):fT (fS gZ (fS cX (cP i) (wC (.int k))) (wC (.str b))) τ G q:=by
 subst h3;simp only[fT,fS,cP,h1,wC,Fs];refine⟨_,h2,?_⟩;simp only[Ft];refine⟨rfl,rfl,zero_le _,?_⟩;rw[show(W.str a).eq (.str b)=decide (a=b) by
  simp only[W.eq];rw[Bool.eq_iff_iff,beq_iff_eq,decide_eq_true_eq]]
 exact h
theorem uC (h1:τ[i]?=some (some (.tup ws))) (h2:dM ws k=some (.str a)) (h3:decide (a=b)=false) (h:u d τ G):sA (ze (fT (fS gZ (fS cX (cP i) (wC (.int k))) (wC (.str b)))) t px) u d τ G:=
 oV h1 h2 false h3 h
theorem uD (h1:τ[i]?=some (some (.tup ws))) (h2:dM ws k=some (.str a)) (h3:decide (a=b)=true) (h:t d τ G):ze (fT (fS gZ (fS cX (cP i) (wC (.int k))) (wC (.str b)))) t v d τ G:=
 oV h1 h2 true h3 h
theorem uE (h1:τ[i]?=some (some (.tup ws))) (h2:dM ws k=some (.str a)) (h3:decide (a=b)=false) (h:u d τ G):sA (ze (y9 (fT (fS gZ (fS cX (cP i) (wC (.int k))) (wC (.str b)))) c) t px) u d τ G:=
 oV h1 h2 false h3 h
end
theorem dy {x qual:Str} {f:Addr} {N ps:List Str} {sp:bV} (F:cz K x qual st f fd) (S:bW N ps (am st)) (len:∀ws G q e,sp ws G q e->ws.length=ps.length) (hb:∀(cdv:Value) (A:Around) (outer:List Env) (s:Shared) (H:Hp) (E:XK),N.Nodup->av k (A.deeper (envOfC qual (am st) s.heap.objs.size f cdv))->∃t,nG (dC sr P w K mg base N qual (am st) f cdv A outer s H E).nox (au st) t/\∀(ws:List W) (G:Gp) (q:WK) (e:WX),sp ws G q e->t { nx:=λ_ G1=>∃G0,aC G0 G1/\q .non G0,rt:=λw G1=>∃G0,aC G0 G1/\q w G0 } (gP N ws) G):cc P w K mg base (k+1) f fd ps sp:=Bn F S len λ_ _ _ _ _ _ hr=>hb _ _ _ _ _ _ S.nd hr
end L2
open PySem PySem.Spec PyProof.Rows L2 Nm
seal QE QT QW QA QS nG QG Bh QI QO xZ gG y8 eR
seal PySem.compareOp PySem.binaryOp PySem.unaryOp
set_option bootstrap.genMatcherCode true
set_option compiler.extract_closed false
local macro_rules | `(tactic| walk_at "s") => `(tactic| exact ⟨rfl, rfl, rfl, by decide +kernel, rfl, by decide +kernel, by decide +kernel⟩)
local macro_rules | `(tactic| walk_at "l") => `(tactic| (intro ws G q e h; repeat (first | (obtain ⟨h1, _⟩ := h; subst h1; rfl) | obtain ⟨_, h⟩ := h)))
local macro_rules | `(tactic| walk_at "k0") => `(tactic| first | refine uC (i := 0) (k := 0) rfl rfl (by decide +kernel) ?_ | refine uE (i := 0) (k := 0) rfl rfl (by decide +kernel) ?_)
local macro_rules | `(tactic| walk_at "t0") => `(tactic| refine uD (i := 0) (k := 0) rfl rfl (by decide +kernel) ?_)
local macro_rules | `(tactic| walk_at "k2") => `(tactic| first | refine uC (i := 2) (k := 0) rfl rfl (by decide +kernel) ?_ | refine uE (i := 2) (k := 0) rfl rfl (by decide +kernel) ?_)
local macro_rules | `(tactic| walk_at "t2") => `(tactic| refine uD (i := 2) (k := 0) rfl rfl (by decide +kernel) ?_)
local macro_rules | `(tactic| walk_at "R") => `(tactic| simp (config := { failIfUnchanged := false, maxSteps := 2000000 }) only [BR, zF, zE, tq, v7, ul, Af, oU, xg, og, x8, Aa, x6, yd, ye, yf, oM, oO, yg, BY, wP, yc, zB, BP, x5, pH, j9, zB, mB, gP, sA, ze, fT, fS, cP, wC, By, Bm, px, vE, sW, tf, x4, tm, cV, fX, CV, pw, kO, Bk, Bl, Br, y9, Ff, Bi, xR, xS, Bj, xT, xX, pA, Bw, Bv, BN, sN, Bu, j7, qJ, i9, qI, zo, vL, sE, pz, zv, sY, List.map_cons, List.map_nil, List.length_cons, List.length_nil, List.replicate_succ, List.replicate_zero, List.cons_append, List.nil_append, List.append_nil, List.getElem?_cons_zero, List.getElem?_cons_succ, List.set_cons_zero, List.set_cons_succ, Nat.reduceAdd, Nat.reduceSub, Nat.zero_add, Nat.add_zero, Nat.sub_self, Nat.sub_zero, D4, D5, D7, Option.some.injEq, exists_eq_left', tR, wm, oF, tS, wo, D6, decide_eq_true_eq, Bool.not_eq_true', decide_eq_false_iff_not, true_and, Nat.zero_le, zO, ko, pD, sU, vn, AZ, Int.reduceLE, Int.reduceLT, Nat.reducePow, Nat.reduceLT, Nat.reduceLeDiff, Int.reduceToNat, Int.reducePow, Int.reduceNeg, and_true, or_true, true_or, and_self, ww, zP, wz, wA, wB, wD, wE, wF, wG, wH, wI, wJ, wK, pX, wL, Int.toNat_natCast, if_true, if_false, Bool.false_eq_true, Bool.true_eq_false, Bool.not_true, Bool.not_false, eq_self, not_true_eq_false, not_false_eq_true, zQ, zR, zS, zT, FL, FM, FN, FO, FP, FQ, FR, FS, FT, FU, Fs, FV, FW, FX, FY, FZ, Ft, Ga, Gb, Gc, Gd, Ge, Gg, Gh, Gi, Gj, Gk, Gm, Go, Gq, Gr, Gs, Gu, Gv, Gw, Gx, Gy])
local macro_rules | `(tactic| walk_at "s") => `(tactic| exact ⟨rfl, rfl, rfl, by decide +kernel, rfl, by decide +kernel, by decide +kernel⟩)
namespace Lw
open PySem PySem.Spec PyProof.Rows L2 Nm
set_option hygiene false
local macro_rules | `(tactic| walk_at "a") => `(tactic| (subst hU; refine aF fun U hU => ?_; walk_at "R"))
local macro_rules | `(tactic| walk_at "a0") => `(tactic| (refine aF fun U hU => ?_; walk_at "R"))
local macro_rules | `(tactic| walk_at "b") => `(tactic| (subst hU1; refine aF fun U1 hU1 => ?_; walk_at "R"))
set_option hygiene true
noncomputable def aN (i:Nat):Stmt:=PySem.Challenge.pw_hydrahouse_k69_weights_on_the_way.main.body.getD i (.Pass ⟨0,0,0,0⟩)
noncomputable def bb (i j:Nat):Stmt:=(DZ (aN i)).getD j (.Pass ⟨0,0,0,0⟩)
structure Txt (K:yax) (mg:ydv):Prop where
 d_is_whole:zw K mg "is_whole" (aN 5) ["thing","least"] [.int 0]
 d_whole:Df K mg "whole" (aN 6) ["n"]
 d_endless:Df K mg "endless" (aN 7) []
 d_raised:zw K mg "raised" (aN 8) ["exponent","times"] [.int 1]
 d_compare:Df K mg "compare" (aN 9) ["a","b"]
 d_whole_part:Df K mg "whole_part" (aN 10) ["a"]
 d_without_whole:Df K mg "without_whole" (aN 11) ["a"]
 d_plus:Df K mg "plus" (aN 13) ["a","b"]
 d_parts_above:Df K mg "parts_above" (aN 14) ["a","exponent"]
 d_total:Df K mg "total" (aN 15) ["some"]
 d_merged:Df K mg "merged" (aN 16) ["a","b"]
 d_times:Df K mg "times" (aN 18) ["a","b"]
 d_weight_of:Df K mg "weight_of" (aN 20) ["things"]
 d_held:Df K mg "held" (aN 21) ["boxes","box"]
 d_by_exponent:Df K mg "by_exponent" (aN 31) ["marks"]
 d_trace:zw K mg "trace" (aN 33) ["rows","boxes","most"] [.int 50]
 d_put_ahead:Df K mg "put_ahead" (aN 34) ["left","things"]
 d_weight_left:Df K mg "weight_left" (aN 35) ["left"]
 d_told:Df K mg "told" (aN 36) ["left","boxes"]
 d__law_cell_at:Df K mg "_law_cell_at" (aN 38) ["_law_script","_law_k"]
 d__law_amount:Df K mg "_law_amount" (aN 39) ["_law_cell"]
 d__law_exponent:Df K mg "_law_exponent" (aN 40) ["_law_number"]
 d__law_marks:Df K mg "_law_marks" (aN 41) ["_law_cell","_law_box","_law_names"]
 d__law_deep:Df K mg "_law_deep" (aN 42) ["_law_thing"]
 d__law_rows:Df K mg "_law_rows" (aN 43) ["_law_cells","_law_names"]
 d__law_made:Df K mg "_law_made" (aN 44) ["_law_thing"]
 d__law_done:Df K mg "_law_done" (aN 45) ["_law_thing","_law_having"]
 d__law_measured:Df K mg "_law_measured" (aN 46) ["_law_marks_here","_law_having"]
 d__law_step:Df K mg "_law_step" (aN 47) ["_law_things","_law_having"]
 d__law_height:Df K mg "_law_height" (aN 48) ["_law_marks_here"]
 d__law_of_thing:Df K mg "_law_of_thing" (aN 49) ["_law_thing"]
 d__law_weight:Df K mg "_law_weight" (aN 50) ["_law_things"]
 d__law_dues:Df K mg "_law_dues" (aN 51) ["_law_rows_here","_law_boxes","_law_most"]
 k_Set:∃C:Addr,mg "Set"=some (.ref C)/\dj K C/\aD K C "box"/\aD K C "amount"/\u5 K C "Set.__init__" (bb 23 0) ["self","box","amount"]/\Md K C "step" "Set.step" (bb 23 1) ["self","boxes"]/\Md K C "weigh" "Row.weigh" (bb 22 0) ["self"]/\∃D:Addr,mg "Row"=some (.ref D)/\XD K D/\mroIn K C (.ref D)=some true
 k_Copy:∃C:Addr,mg "Copy"=some (.ref C)/\dj K C/\aD K C "box"/\aD K C "other"/\u5 K C "Copy.__init__" (bb 24 0) ["self","box","other"]/\Md K C "step" "Copy.step" (bb 24 1) ["self","boxes"]/\Md K C "weigh" "Row.weigh" (bb 22 0) ["self"]/\∃D:Addr,mg "Row"=some (.ref D)/\XD K D/\mroIn K C (.ref D)=some true
 k_Add:∃C:Addr,mg "Add"=some (.ref C)/\dj K C/\aD K C "box"/\aD K C "other"/\u5 K C "Add.__init__" (bb 25 0) ["self","box","other"]/\Md K C "step" "Add.step" (bb 25 1) ["self","boxes"]/\Md K C "weigh" "Row.weigh" (bb 22 0) ["self"]/\∃D:Addr,mg "Row"=some (.ref D)/\XD K D/\mroIn K C (.ref D)=some true
 k_Less:∃C:Addr,mg "Less"=some (.ref C)/\dj K C/\aD K C "box"/\u5 K C "Less.__init__" (bb 26 0) ["self","box"]/\Md K C "step" "Less.step" (bb 26 1) ["self","boxes"]/\Md K C "weigh" "Row.weigh" (bb 22 0) ["self"]/\∃D:Addr,mg "Row"=some (.ref D)/\XD K D/\mroIn K C (.ref D)=some true
 k_Times:∃C:Addr,mg "Times"=some (.ref C)/\dj K C/\aD K C "box"/\aD K C "rows"/\aD K C "of_round"/\u5 K C "Times.__init__" (bb 27 0) ["self","box","rows"]/\Md K C "weigh" "Times.weigh" (bb 27 1) ["self"]/\Md K C "step" "Times.step" (bb 27 2) ["self","boxes"]/\∃D:Addr,mg "Row"=some (.ref D)/\XD K D/\mroIn K C (.ref D)=some true
 k_Count:∃C:Addr,mg "Count"=some (.ref C)/\dj K C/\aD K C "loop"/\aD K C "rounds"/\u5 K C "Count.__init__" (bb 28 0) ["self","loop","rounds"]/\Md K C "weigh" "Count.weigh" (bb 28 1) ["self"]/\Md K C "step" "Count.step" (bb 28 2) ["self","boxes"]/\∃D:Addr,mg "Row"=some (.ref D)/\XD K D/\mroIn K C (.ref D)=some true
 k_While:∃C:Addr,mg "While"=some (.ref C)/\dj K C/\aD K C "box"/\aD K C "heights"/\aD K C "rows"/\aD K C "of_round"/\u5 K C "While.__init__" (bb 29 0) ["self","box","marks","rows"]/\Md K C "weigh" "While.weigh" (bb 29 1) ["self"]/\Md K C "step" "While.step" (bb 29 2) ["self","boxes"]/\Md K C "measure" "While.measure" (bb 29 3) ["self","boxes"]/\∃D:Addr,mg "Row"=some (.ref D)/\XD K D/\mroIn K C (.ref D)=some true
 k_Bearing:∃C:Addr,mg "Bearing"=some (.ref C)/\dj K C/\aD K C "loop"/\aD K C "borne"/\u5 K C "Bearing.__init__" (bb 30 0) ["self","loop","borne"]/\Md K C "weigh" "Bearing.weigh" (bb 30 1) ["self"]/\Md K C "step" "Bearing.step" (bb 30 2) ["self","boxes"]/\∃D:Addr,mg "Row"=some (.ref D)/\XD K D/\mroIn K C (.ref D)=some true
 x_:∃c0 c1 c2:Addr,(mg "HydraError"=some (.ref c0)/\excIn K c0 [.type "ValueError",.type "Exception",.type "BaseException",.type "object"] "ValueError.__new__"=true)/\(mg "NoFall"=some (.ref c1)/\excIn K c1 [.type "ValueError",.type "Exception",.type "BaseException",.type "object"] "ValueError.__new__"=true)/\(mg "NoNumber"=some (.ref c2)/\excIn K c2 [.type "ValueError",.type "Exception",.type "BaseException",.type "object"] "ValueError.__new__"=true)/\mroIn K c1 (.ref c0)=some true/\mroIn K c1 (.ref c2)=some false/\(XQ K c0/\XD K c0)/\(XQ K c1/\XD K c1)/\(XQ K c2/\XD K c2)
 z_ValueError:mg "ValueError"=none
 z_bool:mg "bool"=none
 z_dict:mg "dict"=none
 z_int:mg "int"=none
 z_isinstance:mg "isinstance"=none
 z_len:mg "len"=none
 z_list:mg "list"=none
 z_max:mg "max"=none
 z_range:mg "range"=none
 z_reversed:mg "reversed"=none
 z_sorted:mg "sorted"=none
 z_sum:mg "sum"=none
 z_tuple:mg "tuple"=none
section
variable {P:Program} {w:World} {K:yax} {mg:ydv} {base:Heap} {f:Addr} {fd:FuncData}
set_option maxHeartbeats 0
noncomputable def rA:bV:=λws G q _=>∃a b:O,ws=[.tup (ao a),.tup (ao b)]/\a.dp<=60/\q (.int (O.cmp a b)) G
noncomputable def Cb:bV:=λws G q _=>∃a x:O,ws=[.tup (ao a),.tup (ao x)]/\a.NF/\a.dp<=60/\a.len<=40000/\q (.int (O.stay x a)) G
noncomputable def hJ:bV:=λws G q _=>∃a b:O,ws=[.tup (ao a),.tup (ao b)]/\a.NF/\a.dp<=60/\b.dp<=60/\a.len<=40000/\b.len<=40000/\q (.tup (ao (O.plusO a b))) G
theorem Ei (F:cz K "compare" "compare" (aN 9) f fd):cc P w K mg base 1 f fd ["a","b"] rA:=by
 refine dy F (N:=["a","b"]) (by walk_at "s") (by walk_at "l") λ_ _ _ _ _ _ nd hr=>?_;apply aM
 ·exact(ae (aZ (aE (bw hr) (aa 0) (aa 1)) (ae (aA af) ak) ak) (ae (aA (iZ (aE (iq hr) (aa 0) (aa 1)) (eY af) af)) ak))
 ·rintro ws G q e ⟨a,b,rfl,hx,hq⟩;walk_at "R";have h1:=gk a b;have hd:=dP a;rw[lq,h1.2];refine⟨cy a,cy b,by lia,?_⟩;rcases O.cmp_range a b with k | k | k
  ·rw[ybv (by simp;intro z;rw[z,O.cmp_self] at k;lia),ycx (by simp;lia)];exact⟨ca a,ca b,kn a (by lia),h1.1,aC.done (by rw[k] at hq;exact hq)⟩
  ·rw[ycx (by simpa using O.cmp_eq _ _ k)];exact aC.done (by rw[k] at hq;exact hq)
  ·rw[ybv (by simp;intro z;rw[z,O.cmp_self] at k;lia),ybv (by simp;lia)];exact⟨ca a,ca b,kn a (by lia),h1.1,aC.done (by rw[k] at hq;exact hq)⟩
theorem Ej (F:cz K "parts_above" "parts_above" (aN 14) f fd) (F1:Fx P w K mg base "compare" ["a","b"] 1 rA) (ml:mg "len"=none):cc P w K mg base 2 f fd ["a","exponent"] Cb:=by
 refine dy F (N:=["a","exponent","low","high","middle"]) (by walk_at "s") (by walk_at "l") λ_ _ _ _ _ _ nd hr=>?_;apply aM
 ·exact(ae (aG 2 nd rfl (.inl rfl) af) (ae (aG 3 nd rfl (.inl rfl) (bY dW rfl ml PySem.boot_len (ac (aa 0) ag))) (ae (fW PySem.PassesOwn.never (aE (iq hr) (aa 2) (aa 3)) (ae (aG 4 nd rfl (.inl rfl) (aB bT (aB bf (aa 2) (aa 3)) af)) (ae (aZ (aE sH (aq F1 (av.mono hr (by lia)) rfl (ac (ax ay (ax ay (aa 0) (aa 4)) af) (ac (aa 1) ag))) af) (ae (aG 2 nd rfl (.inl rfl) (aB bf (aa 4) af)) ak) (ae (aG 3 nd rfl (.inl rfl) (aa 4)) ak)) ak))) (ae (aA (aa 2)) ak))))
 ·rintro ws G q e ⟨a,x,rfl,hn,hx,hl,hq⟩;walk_at "a0";walk_at "a";rw[aQ];subst hU;refine aF λU hU=>?_;refine⟨λm τ G'=>G'=G/\∃(lo hi:Nat) (t4:Option W),τ=[some (.tup (ao a)),some (.tup (ao x)),some (.int (lo:Int)),some (.int (hi:Int)),t4]/\lo<=O.stay x a/\O.stay x a<=hi/\hi<=a.len/\m=hi-lo,⟨a.len,rfl,0,a.len,none,rfl,zero_le _,O.stay_le,yby _,rfl⟩,?_⟩;rintro m τ G' ⟨rfl,lo,hi,t4,rfl,h1,h2,h3,rfl⟩;walk_at "R";split
  ·rename_i hlt;refine⟨λτ1 G1=>G1=G'/\∃(lo' hi':Nat) (t4:Option W),τ1=[some (.tup (ao a)),some (.tup (ao x)),some (.int (lo':Int)),some (.int (hi':Int)),t4]/\lo'<=O.stay x a/\O.stay x a<=hi'/\hi'<=a.len/\hi'-lo'<hi-lo,?_,?_⟩
   ·rintro τ1 G1 ⟨rfl,lo',hi',t4,rfl,k1,k2,k3,k4⟩;exact⟨_,k4,rfl,lo',hi',t4,rfl,k1,k2,k3,rfl⟩
   ·have em:((lo:Int)+hi)/2=(((lo+hi)/2:Nat):Int):=by (clear hx hl h1 h2 h3 hlt;lia)
    obtain⟨y,n,hp⟩:=O.getP_some (a:=a) (i:=(lo+hi)/2) (by lia);rw[em];refine⟨_,eM hp,?_⟩;have hs:=O.getP_size hp;have hab:=O.above_iff (e:=x) hn hp;unfold fL lR;walk_at "R";refine⟨y,x,rfl,by (clear hl h1 h2 h3 hlt em hab;lia),?_⟩;walk_at "R";split
    ·rename_i hc;have:=hab.mp hc;exact⟨(lo+hi)/2+1,hi,_,rfl,by assumption,h2,h3,by (clear hx h1 h2 hs hab hc this;lia)⟩
    ·rename_i hc;have:=λz=>hc (hab.mpr z);exact⟨lo,(lo+hi)/2,_,rfl,h1,by (clear hx hl h1 h2 h3 hlt em hs;lia),by (clear hx hl h1 h2 hs hab hc;lia),by (clear hx h1 h2 hs hab hc;lia)⟩
  ·subst hU;walk_at "R";have:(lo:Int)=O.stay x a:=by lia
   rw[this];exact aC.done hq
theorem Ek (F:cz K "plus" "plus" (aN 13) f fd) (F1:Fx P w K mg base "parts_above" ["a","exponent"] 2 Cb) (ml:mg "len"=none):cc P w K mg base 3 f fd ["a","b"] hJ:=by
 refine dy F (N:=["a","b","exponent","stay","both"]) (by walk_at "s") (by walk_at "l") λ_ _ _ _ _ _ nd hr=>?_;apply aM
 ·exact(ae (aZ (aE (bw hr) (aa 1) (aP ag)) (ae (aA (aa 0)) ak) ak) (ae (aG 2 nd rfl (.inl rfl) (ax ay (ax ay (aa 1) af) af)) (ae (aG 3 nd rfl (.inl rfl) (aq F1 (av.mono hr (by lia)) rfl (ac (aa 0) (ac (aa 2) ag)))) (ae (aZ (fU (dc (aE (iq hr) (aa 3) (bY dW rfl ml PySem.boot_len (ac (aa 0) ag))) (cC (aE (bw hr) (ax ay (ax ay (aa 0) (aa 3)) af) (aa 2))))) (ae (aG 4 nd rfl (.inl rfl) (aP (ac (aa 2) (ac (aB bf (ax ay (ax ay (aa 0) (aa 3)) af) (ax ay (ax ay (aa 1) af) af)) ag)))) (ae (aA (aB bf (aB bf (bo (aa 0) bO (bG (aa 3))) (aP (ac (aa 4) ag))) (bo (aa 1) (bG af) bO))) ak)) ak) (ae (aA (aB bf (bo (aa 0) bO (bG (aa 3))) (aa 1))) ak)))))
 ·rintro ws G q e ⟨a,b,rfl,hn,hx,hy,hl,hl2,hq⟩;have hd:=dP b;walk_at "a0";refine⟨cy b,by lia,?_⟩;rw[dG];cases b with
  | z=>
    rw[ycx (by simp)];exact aC.done hq
  | c e n r=>
    rw[ybv (by simp)];simp only[O.len] at hl2;have hde:e.dp<=60:=by simp only[O.dp] at hy;lia
    subst hU;refine aF λU hU=>?_;rw[bJ];unfold fL lR;walk_at "R";walk_at "a";refine⟨a,e,rfl,hn,hx,hl,?_⟩;subst hU;have hst:=O.stay_le (e:=e) (a:=a);have hsame:=O.same_stay (e:=e) hn;have htake:=O.take_stay (e:=e) hn;have e1:cN (W.tup [W.tup (ao e),W.int n]::ao r) (some 1) none=ao r:=by rw[show(1:Int)=((1:Nat):Int) from rfl,d9];rfl
    have e2:cN (ao a) none (some (O.stay e a:Int))=ao (O.filt (λx _=>decide (0<O.cmp x e)) a):=by rw[tT,gX,htake]
    have l1:=jn (λx _=>decide (0<O.cmp x e)) a;have hq':q (.tup (ao (O.filt (λx _=>decide (0<O.cmp x e)) a)++(fL e (O.same e a+n)::ao r))) G:=by
     rw[O.plus_c,fe,bJ] at hq;exact hq
    refine aF λU hU=>?_;have other:O.same e a=0->U { nx:=λx G1=>∃G0,aC G0 G1/\q W.non G0,rt:=λw G1=>∃G0,aC G0 G1/\q w G0 } [some (W.tup (ao a)),some (W.tup (W.tup [W.tup (ao e),W.int n]::ao r)),some (W.tup (ao e)),some (W.int (O.stay e a)),none] G:=λhz=>by
     subst hU;walk_at "R";rw[e2];refine⟨by rw[aQ,aQ];(clear hx hy hd hde hst hsame htake e2 hz;lia),aC.done ?_⟩;rw[hz,Int.zero_add] at hq';exact hq'
    walk_at "R";rw[aQ];split
    ·rename_i hlt;obtain⟨y,m,hp⟩:=O.getP_some (a:=a) (i:=O.stay e a) (by (clear hx hl hy hl2 hd hde hst hsame htake e2 l1;lia));have hs:=O.getP_size hp;have hdy:=dP y;refine⟨_,eM hp,?_⟩;rw[hp] at hsame;have hsame':O.same e a=if y=e then m else 0:=hsame
     unfold fL lR;walk_at "R";refine⟨cy y,cy e,by (clear hl hy hl2 hd hde hst htake e2 l1 hlt hsame hsame';lia),?_⟩;rw[lq]
     by_cases hye:y=e
     ·rw[ycx (by simpa using hye)];refine⟨_,eM hp,?_⟩;unfold fL lR;walk_at "R";rw[e1,e2];rw[ycx hye] at hsame';refine⟨by rw[aQ];(clear hx hy hl2 hd hde hst htake e2 hlt hsame hs hdy hsame';lia),by rw[length_append,aQ,aQ];simp;(clear hx hy hd hde hst htake e2 hlt hsame hs hdy hsame';lia),aC.done ?_⟩;rw[hsame'] at hq';rw[append_assoc];exact hq'
     ·rw[ybv (by simpa using hye)];rw[ybv hye] at hsame';exact other hsame'
    ·rename_i hlt;rw[O.getP_none.mpr (by (clear hx hl hy hl2 hd hde hsame htake e2 l1;lia))] at hsame;exact other hsame
theorem jw:∀{a:O} {x:O} {n:Int},a.NF->O.last a=.c x n .z->O.same .z a=if x=.z then n else 0
 | .z,_,_,_,h=>by cases h
 | .c e m .z,x,n,ha,h=>by
   have:O.last (.c e m .z)=.c e m .z:=rfl;rw[this] at h;injection h with h1 h2 _
   subst h1 h2
   by_cases k:e=.z
   ·subst k;rw[ycx rfl,O.same_self ha.2.2.1]
   ·rw[ybv k,O.same_ne k];rfl
 | .c e m (.c e' m' r'),x,n,ha,h=>by
   have e0:O.last (.c e m (.c e' m' r'))=O.last (.c e' m' r'):=by simp[O.last]
   rw[e0] at h;have hne:e≠ .z:=λz=>by
    subst z;have:=ha.2.2.1.1;cases e'<;> simp[O.cmp] at this
   rw[O.same_ne hne];exact jw ha.2.2.2 h
theorem nj:∀{a:O},a.NF->O.same .z a=0->O.filt (λy _=>decide (¬y=.z)) a=a
 | .z,_,_=>rfl
 | .c e m r,ha,h=>by
   have hne:e≠ .z:=λz=>by
    subst z;rw[O.same_self ha.2.2.1] at h;have:=ha.2.1;lia
   rw[O.same_ne hne] at h;rw[O.filt_c,ycx (by simpa using hne),nj ha.2.2.2 h]
theorem jx:∀{a:O},a.NF->O.same .z a≠0->O.filt (λy _=>decide (¬y=.z)) a=O.init a
 | .z,_,h=>absurd rfl h
 | .c e m .z,ha,h=>by
   have:e=.z:=Classical.byContradiction λk=>h (by rw[O.same_ne k];rfl);subst this
   rfl
 | .c e m (.c e' m' r'),ha,h=>by
   have hne:e≠ .z:=λz=>by
    subst z;have:=ha.2.2.1.1;cases e'<;> simp[O.cmp] at this
   rw[O.same_ne hne] at h;have e0:O.init (.c e m (.c e' m' r'))=.c e m (O.init (.c e' m' r')):=by simp[O.init]
   rw[O.filt_c,ycx (by simpa using hne),jx ha.2.2.2 h,e0]
noncomputable def Ak:bV:=λws G q _=>∃a:O,ws=[.tup (ao a)]/\a.NF/\a.dp<=60/\q (.int (O.same .z a)) G
noncomputable def Cc:bV:=λws G q _=>∃a:O,ws=[.tup (ao a)]/\a.NF/\a.dp<=60/\q (.tup (ao (O.filt (λy _=>decide (¬y=.z)) a))) G
theorem El (F:cz K "whole_part" "whole_part" (aN 10) f fd):cc P w K mg base 1 f fd ["a"] Ak:=by
 refine dy F (N:=["a"]) (by walk_at "s") (by walk_at "l") λ_ _ _ _ _ _ nd hr=>?_;apply aM
 ·exact(ae (aZ (fU (xQ (aE (bw hr) (aa 0) (aP ag)) (sx (aE (iA hr) (ax ay (ax ay (aa 0) (eY af)) af) (aP ag))))) (ae (aA af) ak) ak) (ae (aA (ax ay (ax ay (aa 0) (eY af)) af)) ak))
 ·rintro ws G q e ⟨a,rfl,ha,hd,hq⟩;have hd2:=dP a;walk_at "R";refine⟨cy a,by lia,?_⟩;rw[dG]
  by_cases hz:a=.z
  ·subst hz;rw[ycx (by simp)];exact aC.done hq
  ·rw[ybv (by simpa using hz)];obtain⟨x,n,h1,h2⟩:=tV hz;have hw:=jw ha h1;have hs:=O.getP_size h2;have hdx:=dP x;refine⟨_,gj h2,?_⟩;unfold fL lR;walk_at "R";refine⟨cy x,by lia,?_⟩;rw[dG]
   by_cases hx:x=.z
   ·rw[ybv (by simpa using hx)];rw[ycx hx] at hw;have h3:=gj h2;unfold fL lR at h3;refine⟨_,h3,?_⟩;walk_at "R";rw[hw] at hq;exact aC.done hq
   ·rw[ycx (by simpa using hx)];rw[ybv hx] at hw;rw[hw] at hq;exact aC.done hq
theorem Em (F:cz K "without_whole" "without_whole" (aN 11) f fd) (F1:Fx P w K mg base "whole_part" ["a"] 1 Ak):cc P w K mg base 2 f fd ["a"] Cc:=by
 refine dy F (N:=["a"]) (by walk_at "s") (by walk_at "l") λ_ _ _ _ _ _ nd hr=>?_;apply aM
 ·exact(ae (aZ (aE (bw hr) (aq F1 (av.mono hr (by lia)) rfl (ac (aa 0) ag)) af) (ae (aA (aa 0)) ak) ak) (ae (aA (bo (aa 0) bO (bG (eY af)))) ak))
 ·rintro ws G q e ⟨a,rfl,ha,hd,hq⟩;walk_at "R";refine⟨a,rfl,ha,hd,?_⟩;walk_at "R";split
  ·rename_i h;rw[nj ha h] at hq;exact aC.done hq
  ·rename_i h;rw[jx ha h] at hq;rw[tU];exact aC.done hq
noncomputable def jM (e:O):O->O
 | .z=> .z
 | .c f d t=> .c (O.plusO e f) d (jM e t)
theorem kB (e:O):∀b:O,mapP (λ_ _=>true) (λx m=>fL (O.plusO e x) m) b=ao (jM e b)
 | .z=>rfl
 | .c f d t=>by rw[mapP,ycx rfl,kB e t];rfl
theorem nk (e:O):∀b:O,(jM e b).len=b.len
 | .z=>rfl
 | .c f d t=>by simp only[jM,O.len,nk e t]
theorem kC {e:O} {n:Int} {r:O}:∀{b:O},b.NF->O.mulP e n r b=O.app (jM e (O.filt (λy _=>decide (¬y=.z)) b)) (if O.same .z b=0 then .z else .c e (n*O.same .z b) r)
 | .z,_=>rfl
 | .c f d t,hb=>by
   rw[O.mulP_c,O.filt_c]
   by_cases k:f=.z
   ·subst k;have hd:=hb.2.1;rw[ycx rfl,ybv (by simp),O.Lt_z hb.2.2.1,O.same_self (r:= .z) trivial,ybv (by lia)]
    rfl
   ·rw[ybv k,ycx (by simpa using k),O.same_ne k,kC hb.2.2.2]
    rfl
noncomputable def oW:bV:=λws G q _=>∃a b:O,ws=[.tup (ao a),.tup (ao b)]/\a.NF/\b.NF/\a.dp<=40/\b.dp<=40/\O.hw a<=1000/\O.hw b<=1000/\O.mx a<=ya/\O.mx b<=ya/\q (.tup (ao (O.timesO a b))) G
theorem Eo (F:cz K "times" "times" (aN 18) f fd) (F1:Fx P w K mg base "whole_part" ["a"] 1 Ak) (F2:Fx P w K mg base "without_whole" ["a"] 2 Cc) (F3:Fx P w K mg base "plus" ["a","b"] 3 hJ) (mt:mg "tuple"=none):cc P w K mg base 4 f fd ["a","b"] oW:=by
 refine dy F (N:=["a","b","exponent","parts","many"]) (by walk_at "s") (by walk_at "l") λ_ _ _ _ _ _ nd hr=>?_;apply aM
 ·exact(ae (aZ (fU (xQ (aE (bw hr) (aa 0) (aP ag)) (sx (aE (bw hr) (aa 1) (aP ag))))) (ae (aA (aP ag)) ak) ak) (ae (aG 2 nd rfl (.inr rfl) (ax ay (ax ay (aa 0) af) af)) (ae (vS 3 (dR (by first | rfl | decide+kernel)) rfl nd rfl (.inl rfl) (ck (aq F2 (av.mono hr (by lia)) rfl (ac (aa 1) ag))) (λ_ _ _ _=>(cv 1 (by first | assumption | decide+kernel | rfl) rfl (.inl rfl))) (λ_ _ _ _=>dr) (λ_ _ _ _=>(aP (ac (aq F3 (av.mono hr (by lia)) rfl (ac (aa 3 rfl (.inr (.inl rfl))) (ac (ax ay (aa 1) af) ag))) (ac (ax ay (aa 1) af) ag))))) (ae (aG 4 nd rfl (.inl rfl) (aq F1 (av.mono hr (by lia)) rfl (ac (aa 1) ag))) (ae (aZ (aE (bw hr) (aa 4) af) (ae (aA (bL ez rfl mt eF (ac (aa 3) ag))) ak) ak) (ae (aA (aB bf (aB bf (bL ez rfl mt eF (ac (aa 3) ag)) (aP (ac (aP (ac (aa 2 rfl (.inr (.inl rfl))) (ac (aB tX (ax ay (ax ay (aa 0) af) af) (aa 4)) ag))) ag))) (bo (aa 0) (bG af) bO))) ak))))))
 ·rintro ws G q e ⟨a,b,rfl,na,nb,da,db,sa,sb,ma,mb,hq⟩;have hda:=dP a;have hdb:=dP b;have la:=O.len_le_hw a;have lb:=O.len_le_hw b;walk_at "a0";refine⟨cy a,by (clear db sa sb ma mb hdb la lb;lia),?_⟩;rw[dG];cases a with
  | z=>
    rw[ycx (by simp)];exact aC.done hq
  | c e n r=>
    rw[ybv (by simp)];refine⟨cy b,by (clear sb mb lb da sa ma hda la;lia),?_⟩;rw[dG]
    by_cases hb0:b=.z
    ·subst hb0;rw[ycx (by simp)];exact aC.done hq
    ·rw[ybv (by simpa using hb0)];subst hU;rw[O.hw_c] at sa;simp only[O.dp,O.len] at da la;have le1:=O.len_le_hw e;have lr1:=O.len_le_hw r;rw[bJ];unfold fL lR;walk_at "a0";walk_at "a";refine⟨b,rfl,nb,by lia,?_⟩;walk_at "R";show cu _ _ _ _ _ [none,none,none,some (W.tup (ao e))] G [] _;have lf:=jn (λy _=>decide (¬y=O.z)) b;have df:=O.dp_filt (λy _=>decide (¬y=O.z)) b;have sf:=O.hw_filt (λy _=>decide (¬y=O.z)) b;refine jo (λ_ _=>true) (λx m=>fL (O.plusO e x) m) trivial (pZ _) (λy m hy k hk=>?_) (λy m hy _ k hk=>?_) (by rw[length_nil];(clear db mb hdb da sa ma hda la le1 lr1 df sf;lia)) (λ_=>rfl) λp1 hp1=>?_
     ·walk_at "R";exact hk
     ·have ly:=O.len_le_hw y;unfold fL lR at hk ⊢;walk_at "R";exact⟨e,y,rfl,na.1,by (clear db sb mb hdb lb sa ma hda la le1 lf df sf hy ly;lia),by (clear sb mb hdb lb da sa ma hda la le1 lr1 lf sf ly;lia),by (clear db sb mb hdb lb da ma hda la lf df sf hy ly;lia),by (clear db mb hdb lb da sa ma hda la le1 lr1 lf df;lia),hk⟩
     rw[nil_append,kB];have hG1:=ah (G:=G) (a:=p1) (g:=GO.lst (ao (jM e (O.filt (λy _=>decide (¬y=O.z)) b))));have le:aC G (aK G p1 (GO.lst (ao (jM e (O.filt (λy _=>decide (¬y=O.z)) b))))):=aC.new hp1;generalize aK G p1 (GO.lst (ao (jM e (O.filt (λy _=>decide (¬y=O.z)) b))))=G1 at hG1 le ⊢;walk_at "a";refine⟨b,rfl,nb,by lia,?_⟩;have hsp:O.timesO (.c e n r) b=_:=kC (e:=e) (n:=n) (r:=r) nb;rw[hsp] at hq;have hn:=na.2.1;have hsm:=O.same_le_mx .z nb;have hs0:=O.same_nonneg .z nb;rw[O.mx_c] at ma;have lm:=nk e (O.filt (λy _=>decide (¬y=O.z)) b);walk_at "a";split
     ·rename_i h0;refine⟨_,hG1,G,le,?_⟩;rw[ycx h0] at hq;have:O.app (jM e (O.filt (λy _=>decide (¬y=O.z)) b)) .z=jM e (O.filt (λy _=>decide (¬y=O.z)) b):=mP (by rw[fe,oC,append_nil]);rw[this] at hq;exact hq
     ·rename_i h0;rw[ybv h0,fe,bJ] at hq;subst hU;have e1:cN (W.tup [W.tup (ao e),W.int n]::ao r) (some 1) none=ao r:=by rw[show(1:Int)=((1:Nat):Int) from rfl,d9];rfl
      walk_at "R";rw[e1];refine⟨_,hG1,.inl (.inr (D8 (by (clear db sb mb hdb lb da sa ma hda la le1 lr1 lf df sf hsp hsm hs0 lm h0;lia)) (by (clear db sb mb hdb lb da sa hda la le1 lr1 lf df sf hsp hn hsm lm;lia)) (by assumption) (by (clear db sb hdb lb da sa ma hda la le1 lr1 lf df sf hsp hn hs0 lm h0;lia)))),by rw[aQ,lm];(clear db mb hdb da sa ma hda la le1 lr1 df sf hsp hn hsm hs0 h0;lia),by rw[length_append,aQ,aQ,length_cons,length_nil,lm];(clear db mb hdb da ma hda la le1 lr1 df sf hsp hn hsm;lia),G,le,?_⟩;rw[append_assoc];exact hq
noncomputable def Ce:bV:=λws G q _=>∃n k:Int,ws=[.int n,.int k]/\q (.bl (decide (k<=n))) G
theorem scWh:bW ["thing","least"] ["thing","least"] (am (aN 5)):=by walk_at "s"
theorem Ep {T:Addr} {ds:ydw} (F:fZ K "is_whole" "is_whole" (aN 5) f fd T ds) (mi:mg "isinstance"=none) (mn:mg "int"=none) (mb:mg "bool"=none):cc P w K mg base 1 f fd ["thing","least"] Ce:=by
 have nd:=scWh.nd;refine BI F scWh (λws G q e h=>by obtain⟨_,_,rfl,_⟩:=h;rfl) (λcdv A outer s H E hr=>?_);apply aM
 ·exact(ae (aA (n5 (n9 (T:="int") (x:="int") (by first | simp[qM] | assumption | decide+kernel) PyProof.Rows.boot_int mn rfl mi rfl (aa 0)) (n5 (zd (n9 (T:="bool") (x:="bool") (by first | simp[qM] | assumption | decide+kernel) PyProof.Rows.boot_bool mb rfl mi rfl (aa 0))) (sy (nY zk (aa 0) (aa 1)))))) ak)
 ·rintro ws G q e ⟨n,k,rfl,hq⟩;walk_at "R";exact aC.done hq
noncomputable def oY:bV:=λws G q _=>∃(x:O) (n:Int),ws=[.tup (ao x),.int n]/\0<=n/\q (.tup (ao (if n=0 then .z else .c x n .z))) G
theorem scRs:bW ["exponent","times"] ["exponent","times"] (am (aN 8)):=by walk_at "s"
theorem Cg {T:Addr} {ds:ydw} (F:fZ K "raised" "raised" (aN 8) f fd T ds) (F1:AH P w K mg base "is_whole" ["thing","least"] 1 Ce [.int 0]):cc P w K mg base 2 f fd ["exponent","times"] oY:=by
 have nd:=scRs.nd;refine BI F scRs (λws G q e h=>by obtain⟨_,_,rfl,_⟩:=h;rfl) (λcdv A outer s H E hr=>?_);apply aM
 ·exact(ae (aZ (zc (nZ (kT F1 (av.mono hr (by lia)) rfl (ac (aa 1) ag)))) (ae sX ak) ak) (ae (aZ (aE (bw hr) (aa 1) af) (ae (aA (aP ag)) ak) ak) (ae (aA (aP (ac (aP (ac (aa 0) (ac (aa 1) ag))) ag))) ak)))
 ·rintro ws G q e ⟨x,n,rfl,hn,hq⟩;walk_at "R";refine⟨n,0,rfl,?_⟩;walk_at "R";rw[ybv (by lia)];split
  ·rename_i h;rw[ycx h] at hq;exact aC.done hq
  ·rename_i h;rw[ybv h,bJ] at hq;exact aC.done hq
noncomputable def ia:bV:=λws G q _=>∃n:Int,ws=[.int n]/\0<=n/\q (.tup (ao (O.wh n))) G
theorem Er (F:cz K "whole" "whole" (aN 6) f fd) (F1:Fx P w K mg base "raised" ["exponent","times"] 2 oY):cc P w K mg base 3 f fd ["n"] ia:=by
 refine dy F (N:=["n"]) (by walk_at "s") (by walk_at "l") λ_ _ _ _ _ _ nd hr=>?_;apply aM
 ·exact(ae (aA (aq F1 (av.mono hr (by lia)) rfl (ac (aP ag) (ac (aa 0) ag)))) ak)
 ·rintro ws G q e ⟨n,rfl,hn,hq⟩;walk_at "R";exact⟨.z,n,rfl,hn,aC.done hq⟩
noncomputable abbrev Row:=Rq Str
structure Cs where
 s:Addr
 c:Addr
 a:Addr
 l:Addr
 t:Addr
 w:Addr
 n:Addr
 b:Addr
noncomputable def Cs.at_ (C:Cs):Nat->Addr
 | 0=>C.s
 | 1=>C.c
 | 2=>C.a
 | 3=>C.l
 | 4=>C.t
 | 5=>C.w
 | 6=>C.n
 | _=>C.b
noncomputable def kd:Row->Nat
 | .set _ _=>0
 | .copy _ _=>1
 | .add _ _=>2
 | .less _=>3
 | .times _ _=>4
 | .whl _ _ _=>5
 | .count _ _=>6
 | .bear _ _ _ _=>7
noncomputable abbrev ff (hs:List (O×List Str)):List W:=hs.map λp=> .tup [.tup (ao p.1),.tup (p.2.map W.str)]
noncomputable abbrev Es (b:Str) (as:List Addr) (rs:aU Str):List (Str×W):=[("box",.str b),("rows",.tup (as.map W.ref)),("of_round",.tup (ao rs.rnd))]
noncomputable abbrev Db (b:Str) (hs:List (O×List Str)) (as:List Addr) (rs:aU Str):List (Str×W):=[("box",.str b),("heights",.tup (ff hs)),("rows",.tup (as.map W.ref)),("of_round",.tup (ao rs.rnw))]
mutual
inductive jy (C:Cs) (G:Gp):Addr->Row->Prop where
 | set {a:Addr} {b:Str} {n:Int} (h:G a=some (.ins C.s [("box",.str b),("amount",.int n)])):jy C G a (.set b n)
 | copy {a:Addr} {b o:Str} (h:G a=some (.ins C.c [("box",.str b),("other",.str o)])):jy C G a (.copy b o)
 | add {a:Addr} {b o:Str} (h:G a=some (.ins C.a [("box",.str b),("other",.str o)])):jy C G a (.add b o)
 | less {a:Addr} {b:Str} (h:G a=some (.ins C.l [("box",.str b)])):jy C G a (.less b)
 | times {a:Addr} {b:Str} {as:List Addr} {rs:aU Str} (h:G a=some (.ins C.t (Es b as rs))) (hs:eh C G as rs):jy C G a (.times b rs)
 | count {a l:Addr} {b:Str} {as:List Addr} {rs:aU Str} {n:Int} (h:G a=some (.ins C.n [("loop",.ref l),("rounds",.int n)])) (hl:G l=some (.ins C.t (Es b as rs))) (hs:eh C G as rs):jy C G a (.count rs n)
 | whl {a:Addr} {b:Str} {ms:List (O×List Str)} {as:List Addr} {rs:aU Str} (h:G a=some (.ins C.w (Db b ms as rs))) (hs:eh C G as rs):jy C G a (.whl b ms rs)
 | bear {a l:Addr} {b:Str} {ms:List (O×List Str)} {as:List Addr} {rs:aU Str} {o:O} (h:G a=some (.ins C.b [("loop",.ref l),("borne",.tup (ao o))])) (hl:G l=some (.ins C.w (Db b ms as rs))) (hs:eh C G as rs):jy C G a (.bear b ms rs o)
inductive eh (C:Cs) (G:Gp):List Addr->aU Str->Prop where
 | nil:eh C G [] .nil
 | cons {a:Addr} {as:List Addr} {r:Row} {rs:aU Str} (h:jy C G a r) (hs:eh C G as rs):eh C G (a::as) (.cons r rs)
end
noncomputable def cJ (G G':Gp):Prop:=∀a C x fs,G a=some (.ins C (x::fs))->G' a=some (.ins C (x::fs))
theorem aC.ins {G G':Gp} (h:aC G G'):cJ G G':=λ_ _ _ _ e=>h _ _ e
theorem cJ.but {G G':Gp} {p:Addr} (h:∀x g,x≠p->G x=some g->G' x=some g) (hp:∀C y fs,G p≠some (.ins C (y::fs))):cJ G G':=λa C y fs e=>h a _ (λz=>hp C y fs (z▸e)) e
mutual
theorem jy.mono {C:Cs} {G G':Gp} (l:cJ G G'):∀{a:Addr} {r:Row},jy C G a r->jy C G' a r
 | _,_,.set h=> .set (l _ _ _ _ h)
 | _,_,.copy h=> .copy (l _ _ _ _ h)
 | _,_,.add h=> .add (l _ _ _ _ h)
 | _,_,.less h=> .less (l _ _ _ _ h)
 | _,_,.times h hs=> .times (l _ _ _ _ h) (eh.mono l hs)
 | _,_,.count h hl hs=> .count (l _ _ _ _ h) (l _ _ _ _ hl) (eh.mono l hs)
 | _,_,.whl h hs=> .whl (l _ _ _ _ h) (eh.mono l hs)
 | _,_,.bear h hl hs=> .bear (l _ _ _ _ h) (l _ _ _ _ hl) (eh.mono l hs)
theorem eh.mono {C:Cs} {G G':Gp} (l:cJ G G'):∀{as:List Addr} {rs:aU Str},eh C G as rs->eh C G' as rs
 | _,_,.nil=> .nil
 | _,_,.cons h hs=> .cons (jy.mono l h) (eh.mono l hs)
end
theorem jy.isIns {C:Cs} {G:Gp} {r:Row} (h:jy C G a r):∃fs,G a=some (.ins (C.at_ (kd r)) fs)/\fs.lookup ("weigh":Str)=none/\fs.lookup ("step":Str)=none:=by
 cases h with
 | set h=>exact⟨_,h,rfl,rfl⟩
 | copy h=>exact⟨_,h,rfl,rfl⟩
 | add h=>exact⟨_,h,rfl,rfl⟩
 | less h=>exact⟨_,h,rfl,rfl⟩
 | times h hs=>exact⟨_,h,rfl,rfl⟩
 | count h hl hs=>exact⟨_,h,rfl,rfl⟩
 | whl h hs=>exact⟨_,h,rfl,rfl⟩
 | bear h hl hs=>exact⟨_,h,rfl,rfl⟩
structure Sz (r:Row):Prop where
 nn:r.nn
 hb:r.hb<=500
 mb:(r.mb:Int)<=10^300
structure jN (rs:aU Str):Prop where
 nn:rs.nn
 hb:rs.hb<=500
 mb:(rs.mb:Int)<=10^300
theorem jN.cons {r:Row} {rs:aU Str} (h:jN (.cons r rs)):Sz r/\jN rs:=by
 have h1:=h.nn;have h2:=h.hb;have h3:=h.mb;have e2:(aU.cons r rs).hb=rs.hb+r.hb:=rfl;have e3:(aU.cons r rs).mb=rs.mb+r.mb:=rfl;rw[e2] at h2;rw[e3] at h3;exact⟨⟨h1.1,by lia,by lia⟩,⟨h1.2,by lia,by lia⟩⟩
mutual
theorem yh:∀r:Row,r.lb<=r.hb
 | .set _ _=>yby _
 | .copy _ _=>yby _
 | .add _ _=>yby _
 | .less _=>yby _
 | .times _ rs=>by show 1<=rs.hb+2;lia
 | .count rs _=>by have:=cF rs;show rs.lb+2<=rs.hb+3;lia
 | .whl _ [] rs=>by have:=cF rs;show rs.lb+2<=rs.hb+_+2;lia
 | .whl _ (_::_) rs=>by show 2<=rs.hb+_+2;lia
 | .bear _ _ rs o=>by have:=cF rs;have:=O.len_le_hw o;show rs.lb+1+o.len+1<=rs.hb+O.hw o+2;lia
theorem cF:∀rs:aU Str,rs.lb<=rs.hb
 | .nil=>yby _
 | .cons r rs=>by have:=yh r;have:=cF rs;show rs.lb+r.lb<=rs.hb+r.hb;lia
end
noncomputable def nl:∀rs:List Row,(rs.reverse.map Rq.wt).foldl O.plusO .z=bS rs
 | []=>rfl
 | r::rs=>by rw[List.reverse_cons,map_append,List.foldl_append,nl rs];rfl
noncomputable def jO (C:Cs) (i:Nat):bV:=λws G q _=>∃(a:Addr) (r:Row),ws=[.ref a]/\jy C G a r/\kd r=i/\Sz r/\q (.tup (ao r.wt)) G
theorem xt {C:Cs} (hi:i<4) (F:cz K "weigh" "Row.weigh" (bb 22 0) f fd) (F1:Fx P w K mg base "whole" ["n"] 3 ia):cc P w K mg base 6 f fd ["self"] (jO C i):=by
 refine dy (k:=5) F (N:=["self"]) (by walk_at "s") (by walk_at "l") λ_ _ _ _ _ _ nd hr=>?_;apply aM
 ·exact(ae (aA (aq F1 (av.mono hr (by lia)) rfl (ac af ag))) ak)
 ·rintro ws G q e ⟨a,r,rfl,ha,hk,hz,hq⟩;walk_at "R";refine⟨1,rfl,by decide,aC.done ?_⟩;cases ha with
  | set h=>exact hq
  | copy h=>exact hq
  | add h=>exact hq
  | less h=>exact hq
  | _=>subst hk;exact absurd hi (show ¬(_:Nat)<4 by simp[kd])
noncomputable def xu:bV:=λws G q _=>ws=[]/\q (.tup (ao om)) G
theorem Et (F:cz K "endless" "endless" (aN 7) f fd) (F1:Fx P w K mg base "whole" ["n"] 3 ia) (F2:AH P w K mg base "raised" ["exponent","times"] 2 oY [.int 1]):cc P w K mg base 4 f fd [] xu:=by
 refine dy F (N:=[]) (by walk_at "s") (by walk_at "l") λ_ _ _ _ _ _ nd hr=>?_;apply aM
 ·exact(ae (aA (kT F2 (av.mono hr (by lia)) rfl (ac (aq F1 (av.mono hr (by lia)) rfl (ac af ag)) ag))) ak)
 ·rintro ws G q e ⟨rfl,hq⟩;walk_at "R";refine⟨1,rfl,by decide,O.wh 1,1,rfl,by decide,aC.done ?_⟩;exact hq
theorem lz {rs:aU Str} (z:jN rs):rs.rnd.NF/\rs.rnd.dp<=4/\O.hw rs.rnd<=501/\O.mx rs.rnd<=10^300+1:=by
 have x:=aU.rb z.nn;have h1:=x.hw;have h2:=x.mx;have h3:=z.hb;have h4:=z.mb;exact⟨x.nf,x.dp,by lia,by lia⟩
theorem lA {rs:aU Str} (z:jN rs):rs.rnw.NF/\rs.rnw.dp<=4/\O.hw rs.rnw<=501/\O.mx rs.rnw<=10^300+2:=by
 have x:=aU.rbw z.nn;have h1:=x.hw;have h2:=x.mx;have h3:=z.hb;have h4:=z.mb;exact⟨x.nf,x.dp,by lia,by lia⟩
noncomputable def Fu (os:List O):Prop:=(∀o,o∈os->o.NF/\o.dp<=4)/\(os.map O.len).sum<=1000
noncomputable def Ch:bV:=λws G q _=>∃(p:Addr) (os:List O),ws=[.ref p]/\G p=some (.lst (os.map λo=> .tup (ao o)))/\Fu os/\q (.tup (ao (os.foldl O.plusO .z))) G
theorem Eu (F:cz K "total" "total" (aN 15) f fd) (F1:Fx P w K mg base "plus" ["a","b"] 3 hJ):cc P w K mg base 4 f fd ["some"] Ch:=by
 refine dy F (N:=["some","found","number"]) (by walk_at "s") (by walk_at "l") λ_ _ _ _ _ _ nd hr=>?_;apply aM
 ·exact(ae (aG 1 nd rfl (.inl rfl) (aP ag)) (ae (dQ PySem.PassesOwn.never rfl (ck (aa 0)) (ci 2 nd rfl (.inl rfl)) (ae (aG 1 nd rfl (.inl rfl) (aq F1 (av.mono hr (by lia)) rfl (ac (aa 1) (ac (aa 2) ag)))) ak)) (ae (aA (aa 1)) ak)))
 ·rintro ws G q e ⟨p,os,rfl,hG,⟨hp1,hp2⟩,hq⟩;walk_at "a0";walk_at "a";refine⟨_,hG,?_⟩;refine cm (λws τ G'=>G'=G/\∃(a:O) (todo:List O) (t:Option W),ws=(todo.map λo=> .tup (ao o))/\τ=[some (.ref p),some (.tup (ao a)),t]/\todo.foldl O.plusO a=os.foldl O.plusO .z/\a.NF/\a.dp<=4/\a.len+(todo.map O.len).sum<=1000/\∀o,o∈todo->o.NF/\o.dp<=4) ?_ ?_ _ _ _ ⟨rfl,.z,os,none,rfl,rfl,rfl,trivial,zero_le _,by show 0+_<=_;lia,hp1⟩
  ·rintro τ G' ⟨rfl,a,todo,t,hw,rfl,hf,_⟩;refine⟨hG,?_⟩;have hb:todo=[]:=by simpa using hw.symm
   subst hb;subst hU;walk_at "R";rw[←hf] at hq;exact aC.done hq
  ·rintro w1 ws τ G' kk ⟨rfl,a,todo,t,hw,rfl,hf,a1,a2,a3,a4⟩ hk;cases todo with
   | nil=>cases hw
   | cons o todo=>
     cases hw;refine⟨hG,?_⟩;obtain⟨o1,o2⟩:=a4 o yaz;rw[map_cons,sum_cons] at a3;walk_at "R";refine⟨a,o,rfl,a1,by lia,by lia,by lia,by lia,?_⟩;have l1:=jj a o;have l2:=O.dp_plus a o;refine hk _ _ ⟨rfl,O.plusO a o,todo,_,rfl,rfl,hf,a1.plus o1,ybz l2 (max_le.mpr ⟨a2,o2⟩),by lia,λx hx=>a4 x (yay _ hx)⟩
noncomputable def Rows (C:Cs) (G:Gp) (ps:List (Addr×Row)):Prop:=∀p,p∈ps->jy C G p.1 p.2
theorem Rows.mono {C:Cs} {G G':Gp} {ps:List (Addr×Row)} (h:Rows C G ps) (l:cJ G G'):Rows C G' ps:=λp hp=>(h p hp).mono l
theorem eh.rows {C:Cs} {G:Gp}:∀{as:List Addr} {rs:aU Str},eh C G as rs->∃ps,as=ps.map (·.1)/\rs.L=ps.map (·.2)/\Rows C G ps
 | _,_,.nil=>⟨[],rfl,rfl,λ_ h=>(nomatch h)⟩
 | _,_,.cons (a:=a) (r:=r) h hs=>by
   obtain⟨ps,h1,h2,h3⟩:=eh.rows hs;refine⟨(a,r)::ps,by rw[h1];rfl,by rw[aU.L,h2];rfl,λp hp=>?_⟩;rcases mem_cons.mp hp with rfl | hp
   ·exact h
   ·exact h3 p hp
theorem Rows.ats {C:Cs} {G:Gp}:∀{ps:List (Addr×Row)},Rows C G ps->eh C G (ps.map (·.1)) (aU.of (ps.map (·.2)))
 | [],_=> .nil
 | p::ps,h=> .cons (h p yaz) (Rows.ats λx hx=>h x (yay _ hx))
theorem jN.mem:∀{rs:aU Str},jN rs->∀r,r∈rs.L->Sz r
 | .nil,_,r,h=>(nomatch h)
 | .cons r0 rs,z,r,h=>by
   obtain⟨z1,z2⟩:=z.cons;rcases mem_cons.mp h with rfl | h
   ·exact z1
   ·exact jN.mem z2 r h
theorem gv:∀rs:aU Str,rs.L.length<=rs.hb
 | .nil=>yby _
 | .cons r rs=>by
   have h1:=gv rs;have h2:1<=r.hb:=by
    cases r with
    | times b rs=>show 1<=rs.hb+2;lia
    | count rs n=>show 1<=rs.hb+3;lia
    | whl b hs rs=>show 1<=rs.hb+_+2;lia
    | bear b hs rs o=>show 1<=rs.hb+_+2;lia
    | _=>exact yby _
   show rs.L.length+1<=rs.hb+r.hb;lia
theorem uF:∀rs:aU Str,rs.nn->((rs.L.map Rq.wt).map O.len).sum<=rs.lb
 | .nil,_=>yby _
 | .cons r rs,h=>by
   have h1:=uF rs h.2;have h2:=(r.wq h.1).ln;show r.wt.len+((rs.L.map Rq.wt).map O.len).sum<=rs.lb+r.lb;lia
theorem jN.pls {rs:aU Str} (z:jN rs):Fu (rs.L.reverse.map Rq.wt):=by
 constructor
 ·intro o ho;obtain⟨r,hr,rfl⟩:=mem_map.mp ho;have:=r.wq (z.mem r (List.mem_reverse.mp hr)).nn;exact⟨this.nf,this.dp⟩
 ·have h1:=uF rs z.nn;have h2:=cF rs;have h3:=z.hb;rw[map_reverse,map_reverse,List.sum_reverse];lia
theorem yi (rs:aU Str):bS rs.L=rs.wt:=by rw[←pT,aU.of_L]
noncomputable def Dc (S:Nat->Prop) (rs:aU Str):Prop:=∀r,r∈rs.L->S (kd r)
noncomputable def Al (C:Cs) (S:Nat->Prop):bV:=λws G q _=>∃(as:List Addr) (rs:aU Str),ws=[.tup (as.map W.ref)]/\eh C G as rs/\jN rs/\Dc S rs/\q (.tup (ao rs.wt)) G
theorem Ev {C:Cs} {S:Nat->Prop} (F:cz K "weight_of" "weight_of" (aN 20) f fd) (F1:Fx P w K mg base "total" ["some"] 4 Ch) (M:∀i,S i->Mt P w K mg base (C.at_ i) "weigh" ["self"] 6 (jO C i) []) (mr:mg "reversed"=none):cc P w K mg base 7 f fd ["things"] (Al C S):=by
 refine dy F (N:=["things"]) (by walk_at "s") (by walk_at "l") λ_ _ _ _ _ _ nd hr=>?_;apply aM
 ·refine' eu (aA (aq F1 (av.mono hr (by lia)) rfl (ac (fh (dR (by first | rfl | decide+kernel)) rfl (zA rfl mr ?it) (λ_ _ _ _=>?tg) (λ_ _ _ _=>?tt) (λ_ _ _ _=>lc (S:=S) (t:=λi=>j9 (C.at_ i) "weigh" (jO C i) [] (cP 1) kO) λi hi=>mD ?me (M i hi) (av.mono hr (by lia)))) ag)))
  case it=>exact(ac (aa 0) ag)
  case tg=>exact(cv 1 (by first | assumption | decide+kernel | rfl) rfl (.inl rfl))
  case tt=>exact dr
  case me=>exact(aa 1)
 ·rintro ws G q e ⟨as,rs,rfl,ha,hz,hkd,hq⟩;obtain⟨ps,rfl,h2,h3⟩:=ha.rows;have hl:=gv rs;have hb:=hz.hb;have hpl:ps.length=rs.L.length:=by rw[h2,length_map]
  walk_at "R";have ep:((ps.map (·.1)).map W.ref).reverse=ps.reverse.map λp=>W.ref p.1:=by rw[map_map,map_reverse];rfl
  rw[ep];refine eN (i:=1) (λp:Addr×Row=>W.ref p.1) (λp=> .tup (ao p.2.wt)) (τ0:=[none,none]) trivial (λp hp k hk=>?_) (by rw[length_reverse];show 0+_<=_;lia) (λ_=>rfl) λp hp=>?_
  ·have hp':=List.mem_reverse.mp hp;have h4:=h3 p hp';have hm:p.2∈rs.L:=by rw[h2];exact mem_map.mpr ⟨p,hp',rfl⟩
   obtain⟨fs,h6,h7,_⟩:=h4.isIns;walk_at "R";exact⟨kd p.2,hkd _ hm,p.1,fs,rfl,h6,h7,p.1,p.2,rfl,h4,rfl,hz.mem _ hm,hk⟩
  ·refine⟨p,rs.L.reverse.map Rq.wt,rfl,?_,hz.pls,?_⟩
   ·rw[ah,nil_append,h2,←map_reverse,map_map,map_map]
    rfl
   ·rw[nl,yi];exact⟨G,aC.new hp,hq⟩
theorem jz:(10:Int)^400<=ya:=by unfold ya;decide+kernel
theorem nq {b:Str} {rs:aU Str} (h:Sz (.times b rs)):jN rs:=by
 have h1:=h.nn;have h2:=h.hb;have h3:=h.mb;have e2:(Rq.times b rs).hb=rs.hb+2:=rfl;have e3:(Rq.times b rs).mb=(rs.mb+2)*2:=rfl;rw[e2] at h2;rw[e3] at h3;exact⟨h1,by lia,by lia⟩
theorem lB {b:Str} {hs:List (O×List Str)} {rs:aU Str} (h:Sz (.whl b hs rs)):jN rs/\qV 3 hs/\O.hw (hpw hs)<=500/\O.mx (hpw hs)<=10^300:=by
 have h1:=h.nn;have h2:=h.hb;have h3:=h.mb;have e2:(Rq.whl b hs rs).hb=rs.hb+O.hw (hpw hs)+2:=rfl;have e3:(Rq.whl b hs rs).mb=(rs.mb+3)*((O.mx (hpw hs)).toNat+1)+1:=rfl;rw[e2] at h2;rw[e3] at h3;have h4:rs.mb+3<=(rs.mb+3)*((O.mx (hpw hs)).toNat+1):=Nat.le_mul_of_pos_right _ (by lia);have h5:(O.mx (hpw hs)).toNat+1<=(rs.mb+3)*((O.mx (hpw hs)).toNat+1):=Nat.le_mul_of_pos_left _ (by lia);exact⟨⟨h1.1,by lia,by lia⟩,h1.2,by lia,by lia⟩
theorem Ew {C:Cs} (F:cz K "weigh" "Times.weigh" (bb 27 1) f fd) (F1:Fx P w K mg base "times" ["a","b"] 4 oW) (F2:Fx P w K mg base "endless" [] 4 xu) (hc:dj K C.t) (h1:aD K C.t "of_round"):cc P w K mg base 6 f fd ["self"] (jO C 4):=by
 refine dy (k:=5) F (N:=["self"]) (by walk_at "s") (by walk_at "l") λ_ _ _ _ _ _ nd hr=>?_;apply aM
 ·exact(ae (aA (aq F1 (av.mono hr (by lia)) rfl (ac (bh (aa 0)) (ac (sP F2 (av.mono hr (by lia)) rfl) ag)))) ak)
 ·rintro ws G q e ⟨a,r,rfl,ha,hk,hz,hq⟩;cases ha with
  | times h hs=>
    rename_i b as rs;have z:=nq hz;obtain⟨r1,r2,r3,r4⟩:=lz z;have c0:=jz;walk_at "R";refine⟨a,C.t,_,_,rfl,h,⟨hc,h1⟩,rfl,rfl,rs.rnd,om,rfl,r1,pQ,by lia,by decide,by lia,by decide,ydx r4 (ydx (by decide+kernel) c0),ydx (by decide:O.mx om<=1) (ydx (by decide+kernel) c0),aC.done ?_⟩;exact hq
  | _=>cases hk
theorem gy {rs:aU Str} {n:Int} (h:Sz (.count rs n)):jN rs/\0<=n/\n<=10^300:=by
 have h1:=h.nn;have h2:=h.hb;have h3:=h.mb;have e2:(Rq.count rs n).hb=rs.hb+3:=rfl;have e3:(Rq.count rs n).mb=(rs.mb+2)*(n.toNat+1)+1:=rfl;rw[e2] at h2;rw[e3] at h3;have h4:rs.mb+2<=(rs.mb+2)*(n.toNat+1):=Nat.le_mul_of_pos_right _ (by lia);have h5:n.toNat+1<=(rs.mb+2)*(n.toNat+1):=Nat.le_mul_of_pos_left _ (by lia);have h6:=h1.2;exact⟨⟨h1.1,by lia,by lia⟩,h6,by lia⟩
theorem iP {b:Str} {hs:List (O×List Str)} {rs:aU Str} {o:O} (h:Sz (.bear b hs rs o)):jN rs/\qV 3 hs/\o.NF/\o.dp<=4/\O.hw o<=500/\O.mx o<=10^300:=by
 have h1:=h.nn;have h2:=h.hb;have h3:=h.mb;have e2:(Rq.bear b hs rs o).hb=rs.hb+O.hw o+2:=rfl;have e3:(Rq.bear b hs rs o).mb=(rs.mb+3)*((O.mx o).toNat+1)+1:=rfl;rw[e2] at h2;rw[e3] at h3;have h4:rs.mb+3<=(rs.mb+3)*((O.mx o).toNat+1):=Nat.le_mul_of_pos_right _ (by lia);have h5:(O.mx o).toNat+1<=(rs.mb+3)*((O.mx o).toNat+1):=Nat.le_mul_of_pos_left _ (by lia);exact⟨⟨h1.1,by lia,by lia⟩,h1.2.1,h1.2.2.1,h1.2.2.2,by lia,by lia⟩
theorem Ey {C:Cs} (F:cz K "weigh" "Count.weigh" (bb 28 1) f fd) (F1:Fx P w K mg base "times" ["a","b"] 4 oW) (F2:Fx P w K mg base "whole" ["n"] 3 ia) (F3:Fx P w K mg base "plus" ["a","b"] 3 hJ) (hc:dj K C.t) (h1:aD K C.t "of_round") (hc2:dj K C.n) (h2:aD K C.n "loop") (h3:aD K C.n "rounds"):cc P w K mg base 6 f fd ["self"] (jO C 6):=by
 refine dy (k:=5) F (N:=["self"]) (by walk_at "s") (by walk_at "l") λ_ _ _ _ _ _ nd hr=>?_;apply aM
 ·exact(ae (aA (aq F3 (av.mono hr (by lia)) rfl (ac (aq F1 (av.mono hr (by lia)) rfl (ac (bh (bh (aa 0))) (ac (aq F2 (av.mono hr (by lia)) rfl (ac (bh (aa 0)) ag)) ag))) (ac (aq F2 (av.mono hr (by lia)) rfl (ac af ag)) ag)))) ak)
 ·rintro ws G q e ⟨a,r,rfl,ha,hk,hz,hq⟩;cases ha with
  | count h hl hs=>
    rename_i l b as rs n;obtain⟨z,n0,n1⟩:=gy hz;obtain⟨r1,r2,r3,r4⟩:=lz z;have c0:=jz;have y:=Wq.wh n0;have x:=(aU.rb z.nn).many n0;have x1:=x.ln;have x2:=cF rs;have x3:=z.hb;have y2:=y.hw;have y3:=y.mx;have y4:=y.dp;have e1:=Wq.wh (n:=1) (by decide);have n2:O.mx (O.wh n)<=10^300:=by (clear hk r2 r3 r4 c0 x1 x2 x3 y2 y4;lia)
    walk_at "R";refine⟨a,C.n,_,_,rfl,h,⟨hc2,h2⟩,rfl,l,C.t,_,_,rfl,hl,⟨hc,h1⟩,rfl,a,C.n,_,_,rfl,h,⟨hc2,h3⟩,rfl,n,rfl,n0,rs.rnd,O.wh n,rfl,r1,y.nf,by lia,by lia,by lia,by lia,ydx r4 (ydx (by decide+kernel) c0),ydx n2 (ydx (by decide+kernel) c0),1,rfl,by decide,O.timesO rs.rnd (O.wh n),O.wh 1,rfl,x.nf,ybz x.dp (by decide),ybz e1.dp (by decide),by (clear hk n0 n1 r2 r3 r4 c0 y2 y3 y4 n2;lia),ybz e1.ln (by decide),aC.done ?_⟩;exact hq
  | _=>cases hk
theorem Ez {C:Cs} (F:cz K "weigh" "Bearing.weigh" (bb 30 1) f fd) (F1:Fx P w K mg base "times" ["a","b"] 4 oW) (F2:Fx P w K mg base "whole" ["n"] 3 ia) (F3:Fx P w K mg base "plus" ["a","b"] 3 hJ) (hc:dj K C.w) (h1:aD K C.w "of_round") (hc2:dj K C.b) (h2:aD K C.b "loop") (h3:aD K C.b "borne"):cc P w K mg base 6 f fd ["self"] (jO C 7):=by
 refine dy (k:=5) F (N:=["self"]) (by walk_at "s") (by walk_at "l") λ_ _ _ _ _ _ nd hr=>?_;apply aM
 ·exact(ae (aA (aq F3 (av.mono hr (by lia)) rfl (ac (aq F1 (av.mono hr (by lia)) rfl (ac (bh (bh (aa 0))) (ac (bh (aa 0)) ag))) (ac (aq F2 (av.mono hr (by lia)) rfl (ac af ag)) ag)))) ak)
 ·rintro ws G q e ⟨a,r,rfl,ha,hk,hz,hq⟩;cases ha with
  | bear h hl hs=>
    rename_i l b ms as rs o;obtain⟨z,m1,o1,o2,o3,o4⟩:=iP hz;obtain⟨r1,r2,r3,r4⟩:=lA z;have c0:=jz;have hb:=hz.hb;have hb2:(Rq.bear b ms rs o).hb=rs.hb+O.hw o+2:=rfl;have lt:=d3 rs.rnw o;have l1:=O.len_le_hw rs.rnw;have l2:=O.len_le_hw o;have nt:=r1.times o1;have dt:=O.dp_times rs.rnw o;have e1:=Wq.wh (n:=1) (by decide);have x0:=(aU.rbw z.nn).ln;have x2:=cF rs;walk_at "R";refine⟨a,C.b,_,_,rfl,h,⟨hc2,h2⟩,rfl,l,C.w,_,_,rfl,hl,⟨hc,h1⟩,rfl,a,C.b,_,_,rfl,h,⟨hc2,h3⟩,rfl,rs.rnw,o,rfl,r1,o1,by lia,by lia,by lia,by lia,ydx r4 (ydx (by decide+kernel) c0),ydx o4 (ydx (by decide+kernel) c0),1,rfl,by decide,O.timesO rs.rnw o,O.wh 1,rfl,nt,by (clear hk o3 o4 r3 r4 c0 hb hb2 lt l1 l2 x0 x2;lia),ybz e1.dp (by decide),by (clear hk o2 o4 r2 r4 c0 hb dt x0 x2;lia),ybz e1.ln (by decide),aC.done ?_⟩;exact hq
  | _=>cases hk
theorem kD:∀l:List Str,W.flats (l.map W.str)=true
 | []=>rfl
 | _::l=>by rw[map_cons,W.flats,kD l];rfl
theorem kE:∀l:List Str,W.deps (l.map W.str)=0
 | []=>rfl
 | _::l=>by rw[map_cons,W.deps,kE l];rfl
theorem kF:∀hs:List (O×List Str),W.flats (ff hs)=true
 | []=>rfl
 | p::hs=>by
   show W.flats (_::ff hs)=true;rw[W.flats,kF hs];simp[W.flat,W.flats,ca,kD]
theorem kG:∀{hs:List (O×List Str)},qV 3 hs->W.deps (ff hs)<=100
 | [],_=>zero_le _
 | p::hs,h=>by
   have h1:=kG (hs:=hs) λx hx=>h x (yay _ hx);have h2:=(h p yaz).2.1;have h3:=d7 p.1;show W.deps (_::ff hs)<=100;simp only[W.deps,W.dep,kE];lia
theorem EA {C:Cs} (F:cz K "weigh" "While.weigh" (bb 29 1) f fd) (F1:Fx P w K mg base "times" ["a","b"] 4 oW) (F2:Fx P w K mg base "whole" ["n"] 3 ia) (F3:Fx P w K mg base "plus" ["a","b"] 3 hJ) (F4:AH P w K mg base "raised" ["exponent","times"] 2 oY [.int 1]) (hc:dj K C.w) (h1:aD K C.w "of_round") (h2:aD K C.w "heights"):cc P w K mg base 6 f fd ["self"] (jO C 5):=by
 refine dy (k:=5) F (N:=["self","height"]) (by walk_at "s") (by walk_at "l") λ_ _ _ _ _ _ nd hr=>?_;apply aM
 ·exact(ae (aG 1 nd rfl (.inl rfl) (iZ (aE (iA hr) (bh (aa 0)) (aP ag)) (aq F3 (av.mono hr (by lia)) rfl (ac (ax ay (ax ay (bh (aa 0)) af) af) (ac (aq F2 (av.mono hr (by lia)) rfl (ac af ag)) ag))) (aP ag))) (ae (aA (aq F3 (av.mono hr (by lia)) rfl (ac (aq F1 (av.mono hr (by lia)) rfl (ac (bh (aa 0)) (ac (kT F4 (av.mono hr (by lia)) rfl (ac (aa 1) ag)) ag))) (ac (aq F2 (av.mono hr (by lia)) rfl (ac af ag)) ag)))) ak))
 ·rintro ws G q e ⟨a,r,rfl,ha,hk,hz,hq⟩;cases ha with
  | whl h hs=>
    rename_i b ms as rs;obtain⟨z,m1,m2,m3⟩:=lB hz;obtain⟨r1,r2,r3,r4⟩:=lA z;obtain⟨g1,g2⟩:=tN m1;obtain⟨p1,p2⟩:=oA m1;have c0:=jz;have e1:=Wb.wh (n:=1) (by decide);have x:=(aU.wq rs z.nn).plus (Wq.wh (n:=2) (by decide));have y:=x.times p1 p2 (ybz (d3 _ _) (Nat.add_le_add_right x.ln _));have y1:=y.ln;have l1:=cF rs;have l2:=z.hb;have l3:(hpw ms).len=1:=rfl;have y2:Nat.le (O.len (O.wh 1)) 1:=e1.ln;have r4':=ydx r4 (ydx (by decide+kernel) c0);have m3':=ydx m3 (ydx (by decide+kernel) c0);have hq':∃G0,aC G0 G/\q (.tup (ao (O.plusO (O.timesO rs.rnw (hpw ms)) (O.wh 1)))) G0:=aC.done hq;have y3:(O.timesO rs.rnw (hpw ms)).len<=40000:=ybz y1 (by (clear hk m2 m3 r2 r3 r4 g2 p2 c0 y1 r4' m3';lia));have fl:(W.tup (ff ms)).flat=true:=by simp only[W.flat];exact kF ms
    have dl:(W.tup (ff ms)).dep<=150:=by have:=kG m1;simp only[W.dep];(clear hk m2 m3 r2 r3 r4 g2 p2 c0 y1 l1 l2 l3 r4' m3' y3;lia)
    walk_at "a0";refine⟨a,C.w,_,_,rfl,h,⟨hc,h2⟩,rfl,?_⟩;walk_at "R";refine⟨fl,dl,?_⟩;cases ms with
    | nil=>
      rw[ybv (by decide)];subst hU;walk_at "R";exact⟨a,C.w,_,_,rfl,h,⟨hc,h1⟩,rfl,wc [],1,rfl,by decide,rs.rnw,hpw [],rfl,r1,p1,by lia,by (clear r2 r3 r4 c0 l1 l2 r4' hk m2 m3 g2 y1 l3 m3' y3 dl;lia),by lia,by lia,r4',m3',1,rfl,by decide,O.timesO rs.rnw (hpw []),O.wh 1,rfl,y.nf,ybz y.dp (by decide),ybz e1.dp (by decide),y3,ybz e1.ln (by decide),hq'⟩
    | cons p ms=>
      rw[ycx (by simp only[ff,map_cons,W.eq,W.eqs])];refine⟨a,C.w,_,_,rfl,h,⟨hc,h2⟩,rfl,?_⟩;walk_at "R";obtain⟨o1,o2,o4⟩:=m1 p yaz;have o3:=O.len_le_hw p.1;refine⟨1,rfl,by decide,p.1,O.wh 1,rfl,o1,ybz o2 (by decide),ybz e1.dp (by decide),by (clear r2 r3 r4 c0 l1 l2 r4' hk m2 m3 g2 p2 y1 l3 m3' y3 dl o2;lia),ybz e1.ln (by decide),?_⟩;subst hU;walk_at "R";exact⟨a,C.w,_,_,rfl,h,⟨hc,h1⟩,rfl,wc (p::ms),1,rfl,by decide,rs.rnw,hpw (p::ms),rfl,r1,p1,by lia,by lia,by lia,by lia,r4',m3',1,rfl,by decide,O.timesO rs.rnw (hpw (p::ms)),O.wh 1,rfl,y.nf,ybz y.dp (by decide),ybz e1.dp (by decide),y3,ybz e1.ln (by decide),hq'⟩
  | _=>cases hk
noncomputable def jP (kvs:List (aS×W)):Prop:=∀p,p∈kvs->∃n:Int,p.2=.int n
noncomputable def Gz:Option W->Int
 | some (.int n)=>n
 | _=>0
noncomputable def aR (kvs:List (aS×W)) (k:Str):Int:=Gz (ef kvs (.inr k))
theorem nr {kvs:List (aS×W)} {k:aS} {w:W} {e:aS×W} (h:e∈dg kvs k w):e∈kvs∨e.2=w:=by
 unfold dg at h;split at h
 ·obtain⟨x,hx,rfl⟩:=mem_map.mp h;split
  ·exact .inr rfl
  ·exact .inl hx
 ·rcases mem_append.mp h with h | h
  ·exact .inl h
  ·rw[mem_singleton.mp h];exact .inr rfl
theorem jP.put {kvs:List (aS×W)} (h:jP kvs) (k:aS) (n:Int):jP (dg kvs k (.int n)):=λp hp=>by
 rcases nr hp with hp | hp
 ·exact h p hp
 ·exact⟨n,hp⟩
theorem jP.get {kvs:List (aS×W)} (h:jP kvs) (k:Str):(ef kvs (.inr k)).getD (.int 0)=.int (aR kvs k):=by
 unfold aR;cases e:ef kvs (.inr k) with
 | none=>rfl
 | some w=>
   unfold ef at e;obtain⟨p,hp,rfl⟩:=Option.map_eq_some_iff.mp e;obtain⟨n,hn⟩:=h p (List.mem_of_find?_eq_some hp);rw[hn]
   rfl
noncomputable def di (B:Int) (kvs:List (aS×W)):Prop:=∀p,p∈kvs->∃n:Int,p.2=.int n/\0<=n/\n<=B
theorem di.int {B:Int} {kvs:List (aS×W)} (h:di B kvs):jP kvs:=λp hp=>let ⟨n,e,_⟩:=h p hp;⟨n,e⟩
theorem di.le {B C:Int} {kvs:List (aS×W)} (h:di B kvs) (l:B<=C):di C kvs:=λp hp=>let ⟨n,e,h1,h2⟩:=h p hp;⟨n,e,h1,ydx h2 l⟩
theorem di.put {B:Int} {kvs:List (aS×W)} (h:di B kvs) (k:aS) {n:Int} (h0:0<=n) (h1:n<=B):di B (dg kvs k (.int n)):=λp hp=>by
 rcases nr hp with hp | hp
 ·exact h p hp
 ·exact⟨n,hp,h0,h1⟩
theorem di.get {B:Int} {kvs:List (aS×W)} (h:di B kvs) (hB:0<=B) (k:Str):0<=aR kvs k/\aR kvs k<=B:=by
 unfold aR;cases e:ef kvs (.inr k) with
 | none=>exact⟨Int.le_refl _,hB⟩
 | some w=>
   unfold ef at e;obtain⟨p,hp,rfl⟩:=Option.map_eq_some_iff.mp e;obtain⟨n,hn,h0,h1⟩:=h p (List.mem_of_find?_eq_some hp);rw[hn];exact⟨h0,h1⟩
noncomputable def ny:bV:=λws G q _=>∃(d:Addr) (kvs:List (aS×W)) (z:Str),ws=[.ref d,.str z]/\G d=some (.dic kvs)/\jP kvs/\q (.int (aR kvs z)) G
theorem EB (F:cz K "held" "held" (aN 21) f fd):cc P w K mg base 1 f fd ["boxes","box"] ny:=by
 refine dy F (N:=["boxes","box"]) (by walk_at "s") (by walk_at "l") λ_ _ _ _ _ _ nd hr=>?_;apply aM
 ·exact(ae (aA (eO (aa 0) (aa 1) af)) ak)
 ·rintro ws G q e ⟨d,kvs,z,rfl,hG,hi,hq⟩;walk_at "R";refine⟨⟨_,hG⟩,_,_,rfl,hG,?_⟩;rw[hi.get z];exact aC.done hq
noncomputable def An (C:Cs):bV:=λws G q _=>∃(a d:Addr) (b:Str) (hs:List (O×List Str)) (as:List Addr) (rs:aU Str) (kvs:List (aS×W)) (B:Int),ws=[.ref a,.ref d]/\G a=some (.ins C.w (Db b hs as rs))/\hs.length<=100/\(∀p,p∈hs->p.2.length<=100)/\G d=some (.dic kvs)/\di B kvs/\0<=B/\q (.tup (ao (bp (aR kvs) hs))) G
theorem nz (g:Str->Int):∀l:List Str,(l.map g).sum=dU g l
 | []=>rfl
 | x::l=>by rw[map_cons,sum_cons,nz g l];rfl
theorem EC {C:Cs} (F:cz K "measure" "While.measure" (bb 29 3) f fd) (F1:Fx P w K mg base "held" ["boxes","box"] 1 ny) (F2:Fx P w K mg base "raised" ["exponent","times"] 2 oY) (ms:mg "sum"=none) (hc:dj K C.w) (h1:aD K C.w "heights"):cc P w K mg base 4 f fd ["self","boxes"] (An C):=by
 refine dy (k:=3) F (N:=["self","boxes","found","exponent","names"]) (by walk_at "s") (by walk_at "l") λ_ _ _ _ _ _ nd hr=>?_;apply aM
 ·exact(ae (aG 2 nd rfl (.inl rfl) (aP ag)) (ae (dQ PySem.PassesOwn.never rfl (ck (bh (aa 0))) (ja rfl (cB (ci 3 nd rfl (.inl rfl)) (cB (ci 4 nd rfl (.inl rfl)) fV))) (ae (aG 2 nd rfl (.inl rfl) (aB bf (aa 2) (aq F2 (av.mono hr (by lia)) rfl (ac (aa 3) (ac (bY (Bt rfl) rfl ms BA (ac (fh (dR (by first | rfl | decide+kernel)) rfl (ck (aa 4)) (λ_ _ _ _=>(cv 1 (by first | assumption | decide+kernel | rfl) rfl (.inl rfl))) (λ_ _ _ _=>dr) (λ_ _ _ _=>(aq F1 (av.mono hr (by lia)) rfl (ac (aa 3 rfl (.inr (.inl rfl))) (ac (aa 1) ag))))) ag)) ag))))) ak)) (ae (aA (aa 2)) ak)))
 ·rintro ws G q e ⟨a,d,b,hs,as,rs,kvs,B,rfl,ha,hl,hn,hd,hB,B0,hq⟩;have nn:∀x,0<=aR kvs x:=λx=>(hB.get B0 x).1;walk_at "a0";walk_at "a";refine⟨a,C.w,_,_,rfl,ha,⟨hc,h1⟩,rfl,?_⟩;walk_at "R";refine cm (λws τ G'=>aC G G'/\∃(us:List (O×List Str)) (o:O) (t3 t4:Option W),ws=ff us/\(∀p,p∈us->p∈hs)/\τ=[some (.ref a),some (.ref d),some (.tup (ao o)),t3,t4]/\O.app o (bp (aR kvs) us)=bp (aR kvs) hs/\o.len+us.length<=100) ?_ ?_ _ _ _ ⟨aC.refl _,hs,.z,none,none,rfl,λ_ h=>h,rfl,rfl,by show 0+_<=_;lia⟩
  ·rintro τ G' ⟨le,us,o,t3,t4,hw,hm,rfl,ho,hlen⟩;refine⟨trivial,?_⟩;have hu:us=[]:=by
    cases us with
    | nil=>rfl
    | cons _ _=>cases hw
   subst hu;subst hU;walk_at "R";rw[show bp (aR kvs) []=.z from rfl,O.app_z] at ho;rw[ho];exact⟨G,le,hq⟩
  ·rintro w1 ws τ G' kk ⟨le,us,o,t3,t4,hw,hm,rfl,ho,hlen⟩ hk;cases us with
   | nil=>cases hw
   | cons p us=>
     cases hw;refine⟨trivial,?_⟩;simp only[qJ,i9,qI,cV,List.set_cons_succ,List.set_cons_zero];refine⟨rfl,?_⟩;have hpl:=hn p (hm p yaz);have hd':=le _ _ hd;walk_at "R";show cu _ _ _ _ _ [none,none,none,some (W.ref d)] G' [] _;refine eN W.str (λx=>W.int (aR kvs x)) trivial (λx hx k hk2=>?_) (by simp only[length_nil];lia) (λ_=>rfl) λp1 hp1=>?_
     ·walk_at "R";exact⟨d,kvs,x,rfl,hd',hB.int,hk2⟩
     refine⟨p.2.map (aR kvs),by rw[ah,nil_append,map_map];rfl,?_⟩;rw[nz];have s0:=lj nn p.2;refine⟨p.1,dU (aR kvs) p.2,rfl,s0,?_⟩;rw[length_cons] at hlen;have hm':∀q,q∈us->q∈hs:=λq hq=>hm q (yay _ hq);have le1:aC G (aK G' p1 (GO.lst ([]++p.2.map λx=>W.int (aR kvs x)))):=le.trans (aC.new hp1)
     by_cases h0:dU (aR kvs) p.2=0
     ·rw[ycx h0];have e0:bp (aR kvs) (p::us)=bp (aR kvs) us:=ycx h0;rw[e0] at ho;refine⟨by rw[aQ];show o.len+0<=_;(clear hl B0 hpl s0 h0;lia),?_⟩;rw[show ao o++ao O.z=ao o from append_nil _];exact hk _ _ ⟨le1,us,o,_,_,rfl,hm',rfl,ho,by (clear hl B0 hpl s0 h0;lia)⟩
     ·rw[ybv h0];have e0:bp (aR kvs) (p::us)=.c p.1 (dU (aR kvs) p.2) (bp (aR kvs) us):=ybv h0;rw[e0] at ho;refine⟨by rw[aQ];show o.len+1<=_;(clear hl B0 hpl s0 h0;lia),?_⟩;rw[←fe];refine hk _ _ ⟨le1,us,_,_,_,rfl,hm',rfl,?_,?_⟩
      ·rw[O.app_assoc];exact ho
      ·rw[O.len_app];show o.len+1+_<=_;(clear hl B0 hpl s0 h0;lia)
noncomputable def cY (kvs:List (aS×W)):Row->List (aS×W)
 | .set b n=>dg kvs (.inr b) (.int n)
 | .copy b o=>dg kvs (.inr b) (.int (aR kvs o))
 | .add b o=>dg kvs (.inr b) (.int (aR kvs b+aR kvs o))
 | .less b=>dg kvs (.inr b) (.int (if aR kvs b-1<0 then 0 else aR kvs b-1))
 | _=>kvs
noncomputable def dq (kvs:List (aS×W)):Row->List Row
 | .times b rs=>[.count rs (aR kvs b)]
 | .count rs n=>if n=0 then [] else rs.L++[.count rs (n-1)]
 | .whl b hs rs=>if aR kvs b=0 then [] else rs.L++[.bear b hs rs (bp (aR kvs) hs)]
 | .bear b hs rs _=>if aR kvs b=0 then [] else rs.L++[.bear b hs rs (bp (aR kvs) hs)]
 | _=>[]
noncomputable def dY (kvs:List (aS×W)):Row->Prop
 | .bear b hs _ o=>0<aR kvs b/\0<=O.cmp (bp (aR kvs) hs) o
 | _=>False
noncomputable abbrev refs (ps:List (Addr×Row)):List W:=ps.map λx=>W.ref x.1
noncomputable def lC (C:Cs) (i:Nat):bV:=λws G q _=>∃(a d:Addr) (r:Row) (kvs:List (aS×W)),ws=[.ref a,.ref d]/\jy C G a r/\kd r=i/\Sz r/\r.od/\G d=some (.dic kvs)/\(∃B:Int,di B kvs/\0<=B)/\kvs.length<=1000/\¬dY kvs r/\
 ∀(p:Addr) (G':Gp) (ps:List (Addr×Row)),(∀x g,x≠d->G x=some g->G' x=some g)->G' d=some (.dic (cY kvs r))->G p=none->G' p=some (.lst (refs ps))->Rows C G' ps->ps.map (·.2)=dq kvs r->q (.ref p) G'
theorem fo {C:Cs} {G:Gp} {q:WK} {d:Addr} {r:Row} {kvs:List (aS×W)} (hd:G d=some (.dic kvs)) (hs:dq kvs r=[]) (hq:∀(p:Addr) (G':Gp) (ps:List (Addr×Row)),(∀x g,x≠d->G x=some g->G' x=some g)->G' d=some (.dic (cY kvs r))->G p=none->G' p=some (.lst (refs ps))->Rows C G' ps->ps.map (·.2)=dq kvs r->q (.ref p) G'):
 ∀p,aK G d (.dic (cY kvs r)) p=none->∃G0,aC G0 (aK (aK G d (.dic (cY kvs r))) p (.lst []))/\q (.ref p) G0:=λp hp=>by
 have pd:p≠d:=λz=>by rw[z,ah] at hp;cases hp
 have hp0:G p=none:=by rw[ap pd] at hp;exact hp
 refine aC.done (hq p _ [] (λx g xd e=>?_) ((ap pd.symm).trans ah) hp0 ah (λ_ h=>(nomatch h)) hs.symm);rw[ap (λz=>by rw[z,hp0] at e;cases e),ap xd];exact e
theorem ED {C:Cs} (F:cz K "step" "Set.step" (bb 23 1) f fd) (hc:dj K C.s) (h1:aD K C.s "box") (h2:aD K C.s "amount"):cc P w K mg base 4 f fd ["self","boxes"] (lC C 0):=by
 refine dy (k:=3) F (N:=["self","boxes"]) (by walk_at "s") (by walk_at "l") λ_ _ _ _ _ _ nd hr=>?_;apply aM
 ·exact(ae (dv (bh (aa 0)) (aa 1) (bh (aa 0))) (ae (aA (bA ag)) ak))
 ·rintro ws G q e ⟨a,d,r,kvs,rfl,ha,hk,hz,hod,hd,⟨B,hB,B0⟩,hl,hnf,hq⟩;have hi:=hB.int;cases ha with
  | set ha=>
    rename_i b n;walk_at "a0";refine⟨a,C.s,_,.int n,rfl,ha,⟨hc,h2⟩,rfl,a,C.s,_,.str b,rfl,ha,⟨hc,h1⟩,rfl,d,b,kvs,rfl,rfl,hd,by lia,?_⟩;subst hU;walk_at "R";exact fo hd rfl hq
  | _=>cases hk
theorem EE {C:Cs} (F:cz K "step" "Copy.step" (bb 24 1) f fd) (F1:Fx P w K mg base "held" ["boxes","box"] 1 ny) (hc:dj K C.c) (h1:aD K C.c "box") (h2:aD K C.c "other"):cc P w K mg base 4 f fd ["self","boxes"] (lC C 1):=by
 refine dy (k:=3) F (N:=["self","boxes"]) (by walk_at "s") (by walk_at "l") λ_ _ _ _ _ _ nd hr=>?_;apply aM
 ·exact(ae (dv (aq F1 (av.mono hr (by lia)) rfl (ac (aa 1) (ac (bh (aa 0)) ag))) (aa 1) (bh (aa 0))) (ae (aA (bA ag)) ak))
 ·rintro ws G q e ⟨a,d,r,kvs,rfl,ha,hk,hz,hod,hd,⟨B,hB,B0⟩,hl,hnf,hq⟩;have hi:=hB.int;cases ha with
  | copy ha=>
    rename_i b o;walk_at "a0";refine⟨a,C.c,_,.str o,rfl,ha,⟨hc,h2⟩,rfl,d,kvs,o,rfl,hd,hi,?_⟩;walk_at "R";refine⟨a,C.c,_,.str b,rfl,ha,⟨hc,h1⟩,rfl,d,b,kvs,rfl,rfl,hd,by lia,?_⟩;subst hU;walk_at "R";exact fo hd rfl hq
  | _=>cases hk
theorem EF {C:Cs} (F:cz K "step" "Add.step" (bb 25 1) f fd) (F1:Fx P w K mg base "held" ["boxes","box"] 1 ny) (hc:dj K C.a) (h1:aD K C.a "box") (h2:aD K C.a "other"):cc P w K mg base 4 f fd ["self","boxes"] (lC C 2):=by
 refine dy (k:=3) F (N:=["self","boxes"]) (by walk_at "s") (by walk_at "l") λ_ _ _ _ _ _ nd hr=>?_;apply aM
 ·exact(ae (dv (aB bf (aq F1 (av.mono hr (by lia)) rfl (ac (aa 1) (ac (bh (aa 0)) ag))) (aq F1 (av.mono hr (by lia)) rfl (ac (aa 1) (ac (bh (aa 0)) ag)))) (aa 1) (bh (aa 0))) (ae (aA (bA ag)) ak))
 ·rintro ws G q e ⟨a,d,r,kvs,rfl,ha,hk,hz,hod,hd,⟨B,hB,B0⟩,hl,hnf,hq⟩;have hi:=hB.int;cases ha with
  | add ha=>
    rename_i b o;walk_at "a0";refine⟨a,C.a,_,.str b,rfl,ha,⟨hc,h1⟩,rfl,d,kvs,b,rfl,hd,hi,a,C.a,_,.str o,rfl,ha,⟨hc,h2⟩,rfl,d,kvs,o,rfl,hd,hi,?_⟩;walk_at "R";refine⟨a,C.a,_,.str b,rfl,ha,⟨hc,h1⟩,rfl,d,b,kvs,rfl,rfl,hd,by lia,?_⟩;subst hU;walk_at "R";exact fo hd rfl hq
  | _=>cases hk
theorem EG {C:Cs} (F:cz K "step" "Less.step" (bb 26 1) f fd) (F1:Fx P w K mg base "held" ["boxes","box"] 1 ny) (mm:mg "max"=none) (hc:dj K C.l) (h1:aD K C.l "box"):cc P w K mg base 4 f fd ["self","boxes"] (lC C 3):=by
 refine dy (k:=3) F (N:=["self","boxes"]) (by walk_at "s") (by walk_at "l") λ_ _ _ _ _ _ nd hr=>?_;apply aM
 ·exact(ae (dv (bY (sZ rfl) rfl mm sS (ac (aB mq (aq F1 (av.mono hr (by lia)) rfl (ac (aa 1) (ac (bh (aa 0)) ag))) af) (ac af ag))) (aa 1) (bh (aa 0))) (ae (aA (bA ag)) ak))
 ·rintro ws G q e ⟨a,d,r,kvs,rfl,ha,hk,hz,hod,hd,⟨B,hB,B0⟩,hl,hnf,hq⟩;have hi:=hB.int;cases ha with
  | less ha=>
    rename_i b;walk_at "a0";refine⟨a,C.l,_,.str b,rfl,ha,⟨hc,h1⟩,rfl,d,kvs,b,rfl,hd,hi,?_⟩;walk_at "R";refine⟨a,C.l,_,.str b,rfl,ha,⟨hc,h1⟩,rfl,d,b,kvs,rfl,rfl,hd,by lia,?_⟩;subst hU;walk_at "R";exact fo hd rfl hq
  | _=>cases hk
noncomputable def Ao (C:Cs):bV:=λws G q _=>∃(a l:Addr) (n:Int),ws=[.ref a,.ref l,.int n]/\G a=some (.ins C.n [])/\∀G':Gp,G' a=some (.ins C.n [("loop",.ref l),("rounds",.int n)])->(∀x,x≠a->G' x=G x)->q .non G'
theorem EH {C:Cs} (F:cz K "__init__" "Count.__init__" (bb 28 0) f fd) (hc:dj K C.n) (h1:aD K C.n "loop") (h2:aD K C.n "rounds"):cc P w K mg base 1 f fd ["self","loop","rounds"] (Ao C):=by
 refine dy F (N:=["self","loop","rounds"]) (by walk_at "s") (by walk_at "l") λ_ _ _ _ _ _ nd hr=>?_;apply aM
 ·exact(ae (cq (aa 0) (aa 1)) (ae (cq (aa 0) (aa 2)) ak))
 ·rintro ws G q e ⟨a,l,n,rfl,hG,hq⟩;walk_at "a0";refine⟨a,C.n,[],rfl,hG,⟨hc,h1⟩,by simp,?_⟩;subst hU;walk_at "R";refine⟨a,C.n,[("loop",.ref l)],rfl,ah,⟨hc,h2⟩,by simp,?_⟩;exact aC.done (hq _ ah λx hx=>(ap hx).trans (ap hx))
theorem EI {C:Cs} (F:cz K "step" "Times.step" (bb 27 2) f fd) (F1:Fx P w K mg base "held" ["boxes","box"] 1 ny) (N1:mE P w K mg base "Count" C.n ["self","loop","rounds"] 1 (Ao C)) (hc:dj K C.t) (h1:aD K C.t "box"):cc P w K mg base 4 f fd ["self","boxes"] (lC C 4):=by
 refine dy (k:=3) F (N:=["self","boxes"]) (by walk_at "s") (by walk_at "l") λ_ _ _ _ _ _ nd hr=>?_;apply aM
 ·exact(ae (aA (bA (ac (eI N1 (av.mono hr (by lia)) rfl (ac (aa 0) (ac (aq F1 (av.mono hr (by lia)) rfl (ac (aa 1) (ac (bh (aa 0)) ag))) ag))) ag))) ak)
 ·rintro ws G q e ⟨a,d,r,kvs,rfl,ha,hk,hz,hod,hd,⟨B,hB,B0⟩,hl,hnf,hq⟩;have hi:=hB.int;cases ha with
  | times ha hs=>
    rename_i b as rs;walk_at "R";refine⟨a,C.t,_,.str b,rfl,ha,⟨hc,h1⟩,rfl,d,kvs,b,rfl,hd,hi,λp hp=>⟨p,a,_,rfl,ah,λG' g1 g2=>⟨rfl,λp2 hp2=>?_⟩⟩⟩;have le:aC G G':=λx g e=>(g2 x (λz=>by rw[z,hp] at e;cases e)).trans (aH e hp);have n2:p2≠p:=λz=>by rw[z,g1] at hp2;cases hp2
    have le2:=le.trans (aC.new (g:=GO.lst [W.ref p]) hp2);refine aC.done (hq p2 _ [(p,.count rs (aR kvs b))] (λx g _ e=>le2 _ _ e) (le2 _ _ hd) (bB le hp2) ah (λx hx=>?_) rfl);rw[mem_singleton.mp hx];exact .count ((ap n2.symm).trans g1) (le2 _ _ ha) (hs.mono (aC.ins le2))
  | _=>cases hk
theorem EJ {C:Cs} (F:cz K "step" "Count.step" (bb 28 2) f fd) (N1:mE P w K mg base "Count" C.n ["self","loop","rounds"] 1 (Ao C)) (hc:dj K C.t) (h1:aD K C.t "rows") (hc2:dj K C.n) (h2:aD K C.n "loop") (h3:aD K C.n "rounds") (ml:mg "list"=none):cc P w K mg base 4 f fd ["self","boxes"] (lC C 6):=by
 refine dy (k:=3) F (N:=["self","boxes"]) (by walk_at "s") (by walk_at "l") λ_ _ _ _ _ _ nd hr=>?_;apply aM
 ·exact(ae (aZ (aE (bw hr) (bh (aa 0)) af) (ae (aA (bA ag)) ak) ak) (ae (aA (aB bf (bL (lu rfl) rfl ml kP (ac (bh (bh (aa 0))) ag)) (bA (ac (eI N1 (av.mono hr (by lia)) rfl (ac (bh (aa 0)) (ac (aB mq (bh (aa 0)) af) ag))) ag)))) ak))
 ·rintro ws G q e ⟨a,d,r,kvs,rfl,ha,hk,hz,hod,hd,⟨B,hB,B0⟩,hl,hnf,hq⟩;have hi:=hB.int;cases ha with
  | count ha hl' hs=>
    rename_i l b as rs n;obtain⟨z,n0,n1⟩:=gy hz;walk_at "a0";refine⟨a,C.n,_,_,rfl,ha,⟨hc2,h3⟩,rfl,?_⟩;walk_at "R"
    by_cases hn0:n=0
    ·rw[ycx hn0];intro p hp;have le:=aC.new (g:=GO.lst []) hp;exact aC.done (hq p _ [] (λx g _ e=>le _ _ e) (le _ _ hd) hp ah (λ_ h=>(nomatch h)) (by show[]=if n=0 then [] else rs.L++[Rq.count rs (n-1)];rw[ycx hn0]))
    ·rw[ybv hn0];subst hU;walk_at "R";refine⟨a,C.n,_,_,rfl,ha,⟨hc2,h2⟩,rfl,l,C.t,_,_,rfl,hl',⟨hc,h1⟩,rfl,?_⟩;walk_at "R";obtain⟨ps,rfl,hL,hR⟩:=hs.rows;have hll:=gv rs;have hzb:=z.hb;have hpl:ps.length=rs.L.length:=by rw[hL,length_map]
     refine⟨by rw[length_map,length_map];(clear B0 hl hk n0 n1 hn0;lia),λp hp=>⟨a,C.n,_,_,rfl,aH ha hp,⟨hc2,h2⟩,rfl,a,C.n,_,_,rfl,aH ha hp,⟨hc2,h3⟩,rfl,?_⟩⟩;walk_at "R";intro p1 hp1;refine⟨p1,l,_,rfl,ah,λG' g1 g2=>⟨rfl,λp2 hp2=>?_⟩⟩;have le1:aC (aK G p (GO.lst (List.map W.ref (List.map (λx=>x.1) ps)))) G':=λx g e=>(g2 x (λz=>by rw[z,hp1] at e;cases e)).trans (aH e hp1);have le2:=le1.trans (aC.new (g:=GO.lst [W.ref p1]) hp2);have g2p:=le2 _ _ ah;refine⟨_,_,g2p,ah,by simp only[length_map,length_cons,length_nil];(clear B0 hl hk n0 n1 hn0;lia),λp3 hp3=>?_⟩;have n21:p2≠p1:=λz=>by rw[z,g1] at hp2;cases hp2
     have g1b:aK G' p2 (GO.lst [W.ref p1]) p1=some (.ins C.n [("loop",.ref l),("rounds",.int (n-1))]):=(ap n21.symm).trans g1;have le3:=(aC.new (g:=GO.lst (List.map W.ref (List.map (λx=>x.1) ps))) hp).trans (le2.trans (aC.new (g:=GO.lst (List.map W.ref (List.map (λx=>x.1) ps)++[W.ref p1])) hp3));have n31:p3≠p1:=λz=>by rw[z,g1b] at hp3;cases hp3
     refine aC.done (hq p3 _ (ps++[(p1,.count rs (n-1))]) (λx g _ e=>le3 _ _ e) (le3 _ _ hd) (bB (aC.new hp) (bB le2 hp3)) ?_ (λx hx=>?_) ?_)
     ·rw[ah,map_map];simp only[refs,map_append,map_cons,map_nil]
      rfl
     ·rcases mem_append.mp hx with hx | hx
      ·exact(hR x hx).mono (aC.ins le3)
      ·rw[mem_singleton.mp hx];exact .count ((ap n31.symm).trans g1b) (le3 _ _ hl') (hs.mono (aC.ins le3))
     ·rw[map_append,←hL];show _=if n=0 then [] else rs.L++[Rq.count rs (n-1)]
      rw[ybv hn0]
      rfl
  | _=>cases hk
noncomputable def Ci (C:Cs):bV:=λws G q _=>∃(a l:Addr) (o:O),ws=[.ref a,.ref l,.tup (ao o)]/\G a=some (.ins C.b [])/\∀G':Gp,G' a=some (.ins C.b [("loop",.ref l),("borne",.tup (ao o))])->(∀x,x≠a->G' x=G x)->q .non G'
theorem EK {C:Cs} (F:cz K "__init__" "Bearing.__init__" (bb 30 0) f fd) (hc:dj K C.b) (h1:aD K C.b "loop") (h2:aD K C.b "borne"):cc P w K mg base 1 f fd ["self","loop","borne"] (Ci C):=by
 refine dy F (N:=["self","loop","borne"]) (by walk_at "s") (by walk_at "l") λ_ _ _ _ _ _ nd hr=>?_;apply aM
 ·exact(ae (cq (aa 0) (aa 1)) (ae (cq (aa 0) (aa 2)) ak))
 ·rintro ws G q e ⟨a,l,o,rfl,hG,hq⟩;walk_at "a0";refine⟨a,C.b,[],rfl,hG,⟨hc,h1⟩,by simp,?_⟩;subst hU;walk_at "R";refine⟨a,C.b,[("loop",.ref l)],rfl,ah,⟨hc,h2⟩,by simp,?_⟩;exact aC.done (hq _ ah λx hx=>(ap hx).trans (ap hx))
noncomputable def Ap (C:Cs):bV:=λws G q _=>∃(a d:Addr) (b:Str) (hs:List (O×List Str)) (rs:aU Str) (kvs:List (aS×W)),ws=[.ref a,.ref d]/\jy C G a (.whl b hs rs)/\jN rs/\CY hs/\G d=some (.dic kvs)/\(∃B:Int,di B kvs/\0<=B)/\kvs.length<=1000/\
 ∀(p:Addr) (G':Gp) (ps:List (Addr×Row)),(∀x g,x≠d->G x=some g->G' x=some g)->G' d=some (.dic kvs)->G p=none->G' p=some (.lst (refs ps))->Rows C G' ps->ps.map (·.2)=dq kvs (.whl b hs rs)->q (.ref p) G'
theorem Cj {C:Cs} (F:cz K "step" "While.step" (bb 29 2) f fd) (F1:Fx P w K mg base "held" ["boxes","box"] 1 ny) (N1:mE P w K mg base "Bearing" C.b ["self","loop","borne"] 1 (Ci C)) (M1:Mt P w K mg base C.w "measure" ["self","boxes"] 4 (An C) []) (hc:dj K C.w) (h1:aD K C.w "box") (h2:aD K C.w "rows") (ml:mg "list"=none):cc P w K mg base 6 f fd ["self","boxes"] (Ap C):=by
 refine dy (k:=5) F (N:=["self","boxes"]) (by walk_at "s") (by walk_at "l") λ_ _ _ _ _ _ nd hr=>?_;apply aM
 ·exact(ae (aZ (aE (bw hr) (aq F1 (av.mono hr (by lia)) rfl (ac (aa 1) (ac (bh (aa 0)) ag))) af) (ae (aA (bA ag)) ak) ak) (ae (aA (aB bf (bL (lu rfl) rfl ml kP (ac (bh (aa 0)) ag)) (bA (ac (eI N1 (av.mono hr (by lia)) rfl (ac (aa 0) (ac (kZ (aa 0) M1 (av.mono hr (by lia)) (ac (aa 1) ag)) ag))) ag)))) ak))
 ·rintro ws G q e ⟨a,d,b,hs,rs,kvs,rfl,ha,z,ho,hd,⟨B,hB,B0⟩,hl,hq⟩;cases ha with
  | whl ha hs'=>
    rename_i as;have hi:=hB.int;walk_at "a0";refine⟨a,C.w,_,_,rfl,ha,⟨hc,h1⟩,rfl,d,kvs,b,rfl,hd,hi,?_⟩;walk_at "R"
    by_cases hn0:aR kvs b=0
    ·rw[ycx hn0];intro p hp;have le:=aC.new (g:=GO.lst []) hp;exact aC.done (hq p _ [] (λx g _ e=>le _ _ e) (le _ _ hd) hp ah (λ_ h=>(nomatch h)) (by show[]=if aR kvs b=0 then [] else _;rw[ycx hn0]))
    ·rw[ybv hn0];subst hU;walk_at "R";refine⟨a,C.w,_,_,rfl,ha,⟨hc,h2⟩,rfl,?_⟩;walk_at "R";obtain⟨ps,rfl,hL,hR⟩:=hs'.rows;have hll:=gv rs;have hzb:=z.hb;have hpl:ps.length=rs.L.length:=by rw[hL,length_map]
     refine⟨by rw[length_map,length_map];lia,λp hp=>?_⟩;refine⟨a,_,rfl,aH ha hp,rfl,?_⟩;refine⟨a,d,b,hs,_,rs,kvs,B,rfl,aH ha hp,ho.ln,ho.nm,aH hd hp,hB,B0,λp1 hp1=>?_⟩;refine⟨p1,a,_,rfl,ah,λG' g1 g2=>⟨rfl,λp2 hp2=>?_⟩⟩;have le1:aC (aK G p (GO.lst (List.map W.ref (List.map (λx=>x.1) ps)))) G':=λx g e=>(g2 x (λz=>by rw[z,hp1] at e;cases e)).trans (aH e hp1);have le2:=le1.trans (aC.new (g:=GO.lst [W.ref p1]) hp2);have g2p:=le2 _ _ ah;refine⟨_,_,g2p,ah,by simp only[length_map,length_cons,length_nil];lia,λp3 hp3=>?_⟩;have n21:p2≠p1:=λz=>by rw[z,g1] at hp2;cases hp2
     have g1b:aK G' p2 (GO.lst [W.ref p1]) p1=some (.ins C.b [("loop",.ref a),("borne",.tup (ao (bp (aR kvs) hs)))]):=(ap n21.symm).trans g1;have le3:=(aC.new (g:=GO.lst (List.map W.ref (List.map (λx=>x.1) ps))) hp).trans (le2.trans (aC.new (g:=GO.lst (List.map W.ref (List.map (λx=>x.1) ps)++[W.ref p1])) hp3));have n31:p3≠p1:=λz=>by rw[z,g1b] at hp3;cases hp3
     refine aC.done (hq p3 _ (ps++[(p1,.bear b hs rs (bp (aR kvs) hs))]) (λx g _ e=>le3 _ _ e) (le3 _ _ hd) (bB (aC.new hp) (bB le2 hp3)) ?_ (λx hx=>?_) ?_)
     ·rw[ah,map_map];simp only[refs,map_append,map_cons,map_nil]
      rfl
     ·rcases mem_append.mp hx with hx | hx
      ·exact(hR x hx).mono (aC.ins le3)
      ·rw[mem_singleton.mp hx];exact .bear ((ap n31.symm).trans g1b) (le3 _ _ ha) (hs'.mono (aC.ins le3))
     ·rw[map_append,←hL];show _=if aR kvs b=0 then [] else rs.L++[Rq.bear b hs rs (bp (aR kvs) hs)]
      rw[ybv hn0]
      rfl
noncomputable def rB (C:Cs) (Cf:Addr) (i:Nat):bV:=λws G q e=>∃(a d:Addr) (r:Row) (kvs:List (aS×W)),ws=[.ref a,.ref d]/\jy C G a r/\kd r=i/\Sz r/\r.od/\G d=some (.dic kvs)/\(∃B:Int,di B kvs/\0<=B)/\kvs.length<=1000/\(dY kvs r->e (.ref Cf) G)/\
 (¬dY kvs r->∀(p:Addr) (G':Gp) (ps:List (Addr×Row)),(∀x g,x≠d->G x=some g->G' x=some g)->G' d=some (.dic (cY kvs r))->G p=none->G' p=some (.lst (refs ps))->Rows C G' ps->ps.map (·.2)=dq kvs r->q (.ref p) G')
theorem xv {C:Cs} {Cf:Addr} (hi:i≠7) {ws:List W} {G:Gp} {q:WK} {e:WX} (h:rB C Cf i ws G q e):lC C i ws G q e:=by
 obtain⟨a,d,r,kvs,h1,h2,h3,h4,h5,h6,h7,h8,h9,h10⟩:=h;have hn:¬dY kvs r:=λz=>by
  cases r with
  | bear _ _ _ _=>exact hi h3.symm
  | _=>exact z
 exact⟨a,d,r,kvs,h1,h2,h3,h4,h5,h6,h7,h8,hn,h10 hn⟩
theorem xw {C:Cs} {ws:List W} {G:Gp} {q:WK} {e:WX} (h:lC C 5 ws G q e):Ap C ws G q e:=by
 obtain⟨a,d,r,kvs,rfl,h2,h3,h4,h5,h6,h7,h8,h9,h10⟩:=h;cases r with
 | whl b hs rs=>exact⟨a,d,b,hs,rs,kvs,rfl,h2,(lB h4).1,h5.1,h6,h7,h8,h10⟩
 | _=>cases h3
theorem scS8:bW ["self","boxes"] ["self","boxes"] (am (bb 30 2)):=by walk_at "s"
theorem EL {C:Cs} {Cf:Addr} (F:cz K "step" "Bearing.step" (bb 30 2) f fd) (hm:mg "NoFall"=some (.ref Cf)) (hC:XC K Cf bm) (F1:Fx P w K mg base "held" ["boxes","box"] 1 ny) (F2:Fx P w K mg base "compare" ["a","b"] 1 rA) (M1:Mt P w K mg base C.w "measure" ["self","boxes"] 4 (An C) []) (M2:Mt P w K mg base C.w "step" ["self","boxes"] 6 (Ap C) []) (hc:dj K C.w) (h1:aD K C.w "box") (hc2:dj K C.b) (h2:aD K C.b "loop") (h3:aD K C.b "borne"):vU P w K mg base 8 f fd ["self","boxes"] (rB C Cf 7):=by
 have nd:=scS8.nd;refine DV (k:=7) F scS8 (λws G q e h=>by obtain⟨_,_,_,_,rfl,_⟩:=h;rfl) (λcdv A outer s H E ws G q e hr hsp hE=>?_);apply aM
 ·refine' ae (aZ ?c (eu (tj hm hC (λH1 G1=>hE (.ref Cf) H1 G1) rfl)) ak) ?s2
  case c=>exact(fU (dc (aE sH (aq F1 (av.mono hr (by lia)) rfl (ac (aa 1) (ac (bh (bh (aa 0))) ag))) af) (cC (aE zk (aq F2 (av.mono hr (by lia)) rfl (ac (kZ (bh (aa 0)) M1 (av.mono hr (by lia)) (ac (aa 1) ag)) (ac (bh (aa 0)) ag))) af))))
  case s2=>exact(ae (aA (kZ (bh (aa 0)) M2 (av.mono hr (by lia)) (ac (aa 1) ag))) ak)
 ·obtain⟨a,d,r,kvs,rfl,ha,hk,hz,hod,hd,⟨B,hB,B0⟩,hl,hx,hq⟩:=hsp;cases ha with
  | bear ha hl' hs'=>
    rename_i l b ms as rs o;obtain⟨z,m1,o1,o2,o3,o4⟩:=iP hz;have hi:=hB.int;refine aF λU hU=>?_;have bX:¬dY kvs (.bear b ms rs o)->U { nx:=λx G1=>∃G0,aC G0 G1/\q W.non G0,rt:=λw G1=>∃G0,aC G0 G1/\q w G0 } [some (.ref a),some (.ref d)] G:=λhn=>by
     subst hU;walk_at "R";refine⟨a,C.b,_,_,rfl,ha,⟨hc2,h2⟩,rfl,l,_,rfl,hl',rfl,l,d,b,ms,rs,kvs,rfl,.whl hl' hs',z,hod.1,hd,⟨B,hB,B0⟩,hl,λp G' ps k1 k2 k3 k4 k5 k6=>?_⟩;exact aC.done (hq hn p G' ps k1 k2 k3 k4 k5 k6)
    walk_at "R";refine⟨a,C.b,_,_,rfl,ha,⟨hc2,h2⟩,rfl,l,C.w,_,_,rfl,hl',⟨hc,h1⟩,rfl,d,kvs,b,rfl,hd,hi,?_⟩;walk_at "R"
    by_cases hb:0<aR kvs b
    ·rw[ycx hb];refine⟨a,C.b,_,_,rfl,ha,⟨hc2,h2⟩,rfl,l,_,rfl,hl',rfl,l,d,b,ms,_,rs,kvs,B,rfl,hl',hod.1.ln,hod.1.nm,hd,hB,B0,?_⟩;refine⟨a,C.b,_,_,rfl,ha,⟨hc2,h3⟩,rfl,bp (aR kvs) ms,o,rfl,?_,?_⟩
     ·have:=iL (aR kvs) m1;lia
     walk_at "R"
     by_cases hcm:0<=O.cmp (bp (aR kvs) ms) o
     ·rw[ycx hcm];exact hx ⟨hb,hcm⟩
     ·rw[ybv hcm];exact bX λh=>hcm h.2
    ·rw[ybv hb];exact bX λh=>hb h.1
  | _=>cases hk
noncomputable abbrev gz (ms:List (O×Str)):List W:=ms.map λm=> .tup [.tup (ao m.1),.str m.2]
noncomputable def Ck:bV:=λws G q _=>∃(l:Addr) (ms:List (O×Str)),ws=[.ref l]/\G l=some (.lst (gz ms))/\ms.length<=5/\(∀m,m∈ms->m.1.dp<=3)/\q (.tup (ff (cr ms))) G
structure Aq (P:Program) (w:World) (K:yax) (G:Gp) (d:Addr) (done:List (O×Str)) (ps:List (O×Addr)) (G':Gp):Prop where
 le:aC G G'
 fd:G d=none
 at_d:G' d=some (qg P w K (ps.map λx=>(x.1,.ref x.2)))
 len:ps.length<=done.length
 mem:∀o,o∈ps.map (·.1)↔o∈done.map (·.1)
 ls:∀x,x∈ps->G' x.2=some (.lst ((cj done x.1).map W.str))
 fr:∀x,x∈ps->G x.2=none
 i1:∀x y,x∈ps->y∈ps->x.1=y.1->x=y
 i2:∀x y,x∈ps->y∈ps->x.2=y.2->x=y
theorem nA {ps:List (O×Addr)} {o:O} {x:W} (h:eP (ps.map λx=>(x.1,.ref x.2)) o=some x):∃k,x=.ref k/\(o,k)∈ps:=by
 unfold eP at h;obtain⟨p,hp,rfl⟩:=Option.map_eq_some_iff.mp h;have h1:=List.mem_of_find?_eq_some hp;have h2:=List.find?_some hp;obtain⟨y,hy,rfl⟩:=mem_map.mp h1;have:y.1=o:=by simpa using h2
 subst this;exact⟨y.2,rfl,hy⟩
theorem nB {ps:List (O×Addr)} {o:O} (h:eP (ps.map λx=>(x.1,W.ref x.2)) o=none):o∉ps.map (·.1):=λho=>by
 obtain⟨y,hy,e⟩:=mem_map.mp ho;unfold eP at h;have h1:=List.find?_eq_none.mp (Option.map_eq_none_iff.mp h) _ (mem_map.mpr ⟨y,hy,rfl⟩);exact h1 (ycw e)
theorem xx {ps:List (O×Addr)} {o:O} (h:o∈ps.map (·.1)):∃k,eP (ps.map λx=>(x.1,W.ref x.2)) o=some (.ref k)/\(o,k)∈ps:=by
 cases e:eP (ps.map λx=>(x.1,W.ref x.2)) o with
 | none=>exact absurd h (nB e)
 | some x=>
   obtain⟨k,rfl,hk⟩:=nA e;exact⟨k,rfl,hk⟩
theorem Aq.old {G G':Gp} {d p k:Addr} {done:List (O×Str)} {ps:List (O×Addr)} {o:O} {b:Str} (g:Aq P w K G d done ps G') (hp:G' p=none) (hk:(o,k)∈ps):
 Aq P w K G d (done++[(o,b)]) ps (aK (aK G' p (.lst [])) k (.lst ((cj done o).map W.str++[.str b]))):=by
 have hkd:k≠d:=λz=>by have:=g.ls _ hk;rw[z,g.at_d] at this;cases this
 have hG0:=g.fr _ hk;refine⟨λa x e=>?_,g.fd,?_,?_,λx=>?_,λx hx=>?_,g.fr,g.i1,g.i2⟩
 ·rw[ap (λz=>by rw[z,hG0] at e;cases e)];exact aH (g.le _ _ e) hp
 ·rw[ap hkd.symm];exact aH g.at_d hp
 ·have:=g.len;rw[length_append];exact Nat.le_succ_of_le this
 ·rw[g.mem,map_append,mem_append];constructor
  ·exact Or.inl
  ·rintro(h | h)
   ·exact h
   ·rw[mem_singleton.mp h];exact(g.mem o).mp (mem_map.mpr ⟨_,hk,rfl⟩)
 ·rw[fK]
  by_cases e:x.2=k
  ·have:=g.i2 x (o,k) hx hk e;subst this;rw[ah,ycx rfl,map_append]
   rfl
  ·rw[ap e,ybv (λz=>e (congrArg Prod.snd (g.i1 x (o,k) hx hk z.symm))),append_nil];exact aH (g.ls x hx) hp
theorem Aq.new {G G':Gp} {d p:Addr} {done:List (O×Str)} {ps:List (O×Addr)} {o:O} {b:Str} (g:Aq P w K G d done ps G') (hp:G' p=none) (hk:o∉ps.map (·.1)):
 Aq P w K G d (done++[(o,b)]) (ps++[(o,p)]) (aK (aK (aK G' p (.lst [])) d (qg P w K (ps.map (λx=>(x.1,W.ref x.2))++[(o,.ref p)]))) p (.lst [.str b])):=by
 have hpd:p≠d:=λz=>by rw[z,g.at_d] at hp;cases hp
 have hp0:=bB g.le hp;have hno:o∉done.map (·.1):=λh=>hk ((g.mem o).mpr h);have old:∀x,x∈ps->x.2≠p/\x.2≠d/\x.1≠o:=λx hx=>by
  refine⟨λz=>?_,λz=>?_,λz=>hk (mem_map.mpr ⟨x,hx,z⟩)⟩
  ·have:=g.ls x hx;rw[z,hp] at this;cases this
  ·have:=g.ls x hx;rw[z,g.at_d] at this;cases this
 refine⟨λa x e=>?_,g.fd,?_,?_,λx=>?_,λx hx=>?_,λx hx=>?_,λx y hx hy e=>?_,λx y hx hy e=>?_⟩
 ·rw[ap (λz=>by rw[z,hp0] at e;cases e),ap (λz=>by rw[z,g.fd] at e;cases e)];exact aH (g.le _ _ e) hp
 ·rw[ap hpd.symm,ah,map_append]
  rfl
 ·have:=g.len;rw[length_append,length_append];exact Nat.succ_le_succ this
 ·rw[map_append,map_append,mem_append,mem_append,g.mem];exact Iff.rfl
 ·rw[fK];rcases mem_append.mp hx with hx | hx
  ·obtain⟨h1,h2,h3⟩:=old x hx;rw[ap h1,ap h2,ybv (λz=>h3 z.symm),append_nil];exact aH (g.ls x hx) hp
  ·rw[mem_singleton.mp hx,ah,ycx rfl,jk hno]
   rfl
 ·rcases mem_append.mp hx with hx | hx
  ·exact g.fr x hx
  ·rw[mem_singleton.mp hx];exact hp0
 ·rcases mem_append.mp hx with hx | hx<;> rcases mem_append.mp hy with hy | hy
  ·exact g.i1 x y hx hy e
  ·rw[mem_singleton.mp hy] at e;exact absurd e (old x hx).2.2
  ·rw[mem_singleton.mp hx] at e;exact absurd e.symm (old y hy).2.2
  ·rw[mem_singleton.mp hx,mem_singleton.mp hy]
 ·rcases mem_append.mp hx with hx | hx<;> rcases mem_append.mp hy with hy | hy
  ·exact g.i2 x y hx hy e
  ·rw[mem_singleton.mp hy] at e;exact absurd e (old x hx).1
  ·rw[mem_singleton.mp hx] at e;exact absurd e.symm (old y hy).1
  ·rw[mem_singleton.mp hx,mem_singleton.mp hy]
theorem EM (F:cz K "by_exponent" "by_exponent" (aN 31) f fd) (mt:mg "tuple"=none) (ms:mg "sorted"=none):cc P w K mg base 6 f fd ["marks"] Ck:=by
 refine dy (k:=5) F (N:=["marks","names","exponent","box"]) (by walk_at "s") (by walk_at "l") λ_ _ _ _ _ _ nd hr=>?_;apply aM
 ·refine' ae (aG 1 (by assumption) rfl (by first | exact Or.inl rfl | exact Or.inr rfl) ?q1) (ae (dQ PassesOwn.never rfl ?it ?tg (eu (cE (eA ?q2 ?b)))) (eu (aA (bL ez rfl mt eF (ac (sO (dR (by first | rfl | decide+kernel)) rfl (ck (show QE _ _ (oU P w K _) from uB hr rfl rfl ms ?sn)) (λ_ _ _ _=>?cg) (λ_ _ _ _=>?ct) (λ_ _ _ _=>aP (ac ?ce (ac (bL ez rfl mt eF (ac (ax (show y8 _ (xg P w K) from B7 hr) ?cn ?cx) ag)) ag)))) ag)))))
  case q1=>exact(show QE _ _ (ul P w K) from xf)
  case it=>exact(ck (aa 0))
  case tg=>exact(ja rfl (cB (ci 2 nd rfl (.inl rfl)) (cB (ci 3 nd rfl (.inl rfl)) fV)))
  case q2=>exact(show QE _ _ (Af P w K _ _ _) from Ag hr (aa 1 rfl (.inr (.inl rfl))) (aa 2) (bA ag))
  case b=>exact(aa 3)
  case sn=>exact(aa 1 rfl (.inr (.inl rfl)))
  case cg=>exact(cv 1 (by first | assumption | decide+kernel | rfl) rfl (.inl rfl))
  case ct=>exact dr
  case ce=>exact(aa 1)
  case cn=>exact(aa 3 rfl (.inr (.inl rfl)))
  case cx=>exact(aa 1)
 ·rintro ws G q e ⟨l,ms,rfl,hG,h5,hdp,hq⟩;walk_at "a0";intro d hd;have hG1:=aH (g:=qg P w K []) hG hd;walk_at "a";refine⟨_,hG1,?_⟩;refine cm (λws τ G'=>∃(done todo:List (O×Str)) (ps:List (O×Addr)) (t1 t2:Option W),ws=gz todo/\τ=[some (.ref l),some (.ref d),t1,t2]/\done++todo=ms/\Aq P w K G d done ps G') ?_ ?_ _ _ _ ⟨[],ms,[],none,none,rfl,rfl,rfl,⟨aC.new hd,hd,ah,yby _,λ_=>Iff.rfl,λ_ h=>(nomatch h),λ_ h=>(nomatch h),λ_ _ h=>(nomatch h),λ_ _ h=>(nomatch h)⟩⟩
  ·rintro τ G' ⟨done,todo,ps,t1,t2,hw,rfl,hms,g⟩;refine⟨g.le _ _ hG,?_⟩;have hb:todo=[]:=by simpa using hw.symm
   subst hb;rw[append_nil] at hms;subst hms;subst hU;walk_at "R";refine⟨_,g.at_d,by rw[length_map];exact ybz g.len h5,λp ks hp hD hP=>?_⟩;walk_at "R";refine⟨_,ah,?_⟩;have hl:ks.length<=5:=by rw[hP.length_eq,length_map,length_map];exact ybz g.len h5
   have hk:∀o,o∈ks↔o∈ps.map (·.1):=λo=>by
    rw[hP.mem_iff,map_map];exact Iff.rfl
   refine eN (i:=1) (λo:O=>W.tup (ao o)) (λo=> .tup [.tup (ao o),.tup ((cj done o).map W.str)]) (τ0:=[none,none,none,some (.ref d)]) ah (λo ho k hkk=>?_) (by show 0+_<=_;lia) (λ_=>rfl) λp2 hp2 _=>?_
   ·obtain⟨a,h1,h2⟩:=xx ((hk o).mp ho);walk_at "R";exact⟨_,o,_,rfl,aH g.at_d hp,h1,_,aH (g.ls _ h2) hp,hkk⟩
   ·refine⟨_,ah,G,g.le.trans ((aC.new hp).trans (aC.new hp2)),?_⟩;have e:([]:List W)++ks.map (λo=> .tup [.tup (ao o),.tup ((cj done o).map W.str)])=ff (cr done):=by
     rw[←zK hD λo=>(hk o).trans (g.mem o),nil_append];simp only[ff,map_map]
     rfl
    rw[e];exact hq
  ·rintro w1 ws τ G' kk ⟨done,todo,ps,t1,t2,hw,rfl,hms,g⟩ hk;cases todo with
   | nil=>cases hw
   | cons m todo=>
     cases hw;refine⟨g.le _ _ hG,?_⟩;walk_at "R";refine⟨⟨_,g.at_d⟩,λp hp=>?_⟩;have hl:done.length<=5:=by have:=congrArg List.length hms;rw[length_append] at this;lia
     have hnl:∀o,(cj done o).length<=5:=λo=>by
      unfold cj;rw[length_map];exact ybz (List.length_filter_le _ _) hl
     have hm:(done++[m])++todo=ms:=by rw[append_assoc];exact hms
     refine⟨m.1,_,rfl,hdp m (by rw[←hms];simp),aH g.at_d hp,?_,λx hx=>?_,λhn=>?_⟩
     ·rw[length_map];have:=g.len;lia
     ·obtain⟨k,rfl,hkm⟩:=nA hx;have h1:=aH (g:=GO.lst []) (g.ls _ hkm) hp;have h2:=hnl m.1;refine⟨⟨_,h1⟩,_,h1,by rw[length_map];show(cj done m.1).length<=_;lia,hk _ _ ⟨done++[m],todo,ps,_,_,rfl,rfl,hm,g.old hp hkm⟩⟩
     ·have hpd:p≠d:=λz=>by rw[z,g.at_d] at hp;cases hp
      have h1:=(ap (g:=qg P w K (ps.map (λx=>(x.1,W.ref x.2))++[(m.1,.ref p)])) hpd).trans (ah (G:=G') (a:=p) (g:=GO.lst []));exact⟨⟨_,h1⟩,_,h1,zero_le _,hk _ _ ⟨done++[m],todo,ps++[(m.1,p)],_,_,rfl,rfl,hm,g.new hp (nB hn)⟩⟩
inductive Pl where
 | set (b:Str) (n:Int)
 | copy (b o:Str)
 | add (b o:Str)
 | less (b:Str)
noncomputable def Pl.row:Pl->Row
 | .set b n=> .set b n
 | .copy b o=> .copy b o
 | .add b o=> .add b o
 | .less b=> .less b
noncomputable def Pl.kd:Pl->Nat
 | .set _ _=>0
 | .copy _ _=>1
 | .add _ _=>2
 | .less _=>3
noncomputable def Pl.args:Pl->List W
 | .set b n=>[.str b,.int n]
 | .copy b o=>[.str b,.str o]
 | .add b o=>[.str b,.str o]
 | .less b=>[.str b]
noncomputable def Pl.fs:Pl->List (Str×W)
 | .set b n=>[("box",.str b),("amount",.int n)]
 | .copy b o=>[("box",.str b),("other",.str o)]
 | .add b o=>[("box",.str b),("other",.str o)]
 | .less b=>[("box",.str b)]
theorem Pl.at {C:Cs} {G:Gp} (r:Pl) (h:G a=some (.ins (C.at_ r.kd) r.fs)):jy C G a r.row:=by
 cases r with
 | set b n=>exact .set h
 | copy b o=>exact .copy h
 | add b o=>exact .add h
 | less b=>exact .less h
noncomputable def iG (C:Cs) (i:Nat):bV:=λws G q _=>∃(a:Addr) (r:Pl),ws=.ref a::r.args/\r.kd=i/\G a=some (.ins (C.at_ i) [])/\∀G':Gp,G' a=some (.ins (C.at_ i) r.fs)->(∀x,x≠a->G' x=G x)->q .non G'
theorem scN1:bW ["self","box","amount"] ["self","box","amount"] (am (bb 23 0)):=by walk_at "s"
theorem EN {C:Cs} (F:cz K "__init__" "Set.__init__" (bb 23 0) f fd) (hc:dj K C.s) (h1:aD K C.s "box") (h2:aD K C.s "amount"):cc P w K mg base 1 f fd ["self","box","amount"] (iG C 0):=by
 have nd:=scN1.nd;refine Bn F scN1 (λws G q e h=>by
  obtain⟨_,r,rfl,hk,_⟩:=h;cases r with
  | set b n=>rfl
  | add b o=>cases hk
  | copy b o=>cases hk
  | less b=>cases hk) (λcdv A outer s H E hr=>?_)
 apply aM
 ·exact(ae (cq (aa 0) (aa 1)) (ae (cq (aa 0) (aa 2)) ak))
 ·rintro ws G q e ⟨a,r,rfl,hk,hG,hq⟩;cases r with
  | set b n=>
    walk_at "a0";refine⟨a,C.s,[],rfl,hG,⟨hc,h1⟩,by simp,?_⟩;subst hU;walk_at "R";refine⟨a,C.s,[("box",.str b)],rfl,ah,⟨hc,h2⟩,by simp,?_⟩;exact aC.done (hq _ ah λx hx=>(ap hx).trans (ap hx))
  | add b o=>cases hk
  | copy b o=>cases hk
  | less b=>cases hk
theorem scN2:bW ["self","box","other"] ["self","box","other"] (am (bb 24 0)):=by walk_at "s"
theorem EO {C:Cs} (F:cz K "__init__" "Copy.__init__" (bb 24 0) f fd) (hc:dj K C.c) (h1:aD K C.c "box") (h2:aD K C.c "other"):cc P w K mg base 1 f fd ["self","box","other"] (iG C 1):=by
 have nd:=scN2.nd;refine Bn F scN2 (λws G q e h=>by
  obtain⟨_,r,rfl,hk,_⟩:=h;cases r with
  | copy b o=>rfl
  | set b n=>cases hk
  | add b o=>cases hk
  | less b=>cases hk) (λcdv A outer s H E hr=>?_)
 apply aM
 ·exact(ae (cq (aa 0) (aa 1)) (ae (cq (aa 0) (aa 2)) ak))
 ·rintro ws G q e ⟨a,r,rfl,hk,hG,hq⟩;cases r with
  | copy b o=>
    walk_at "a0";refine⟨a,C.c,[],rfl,hG,⟨hc,h1⟩,by simp,?_⟩;subst hU;walk_at "R";refine⟨a,C.c,[("box",.str b)],rfl,ah,⟨hc,h2⟩,by simp,?_⟩;exact aC.done (hq _ ah λx hx=>(ap hx).trans (ap hx))
  | set b n=>cases hk
  | add b o=>cases hk
  | less b=>cases hk
theorem scN3:bW ["self","box","other"] ["self","box","other"] (am (bb 25 0)):=by walk_at "s"
theorem EQ {C:Cs} (F:cz K "__init__" "Add.__init__" (bb 25 0) f fd) (hc:dj K C.a) (h1:aD K C.a "box") (h2:aD K C.a "other"):cc P w K mg base 1 f fd ["self","box","other"] (iG C 2):=by
 have nd:=scN3.nd;refine Bn F scN3 (λws G q e h=>by
  obtain⟨_,r,rfl,hk,_⟩:=h;cases r with
  | add b o=>rfl
  | set b n=>cases hk
  | copy b o=>cases hk
  | less b=>cases hk) (λcdv A outer s H E hr=>?_)
 apply aM
 ·exact(ae (cq (aa 0) (aa 1)) (ae (cq (aa 0) (aa 2)) ak))
 ·rintro ws G q e ⟨a,r,rfl,hk,hG,hq⟩;cases r with
  | add b o=>
    walk_at "a0";refine⟨a,C.a,[],rfl,hG,⟨hc,h1⟩,by simp,?_⟩;subst hU;walk_at "R";refine⟨a,C.a,[("box",.str b)],rfl,ah,⟨hc,h2⟩,by simp,?_⟩;exact aC.done (hq _ ah λx hx=>(ap hx).trans (ap hx))
  | set b n=>cases hk
  | copy b o=>cases hk
  | less b=>cases hk
theorem scN4:bW ["self","box"] ["self","box"] (am (bb 26 0)):=by walk_at "s"
theorem ER {C:Cs} (F:cz K "__init__" "Less.__init__" (bb 26 0) f fd) (hc:dj K C.l) (h1:aD K C.l "box"):cc P w K mg base 1 f fd ["self","box"] (iG C 3):=by
 have nd:=scN4.nd;refine Bn F scN4 (λws G q e h=>by
  obtain⟨_,r,rfl,hk,_⟩:=h;cases r with
  | less b=>rfl
  | set b n=>cases hk
  | copy b o=>cases hk
  | add b o=>cases hk) (λcdv A outer s H E hr=>?_)
 apply aM
 ·exact(ae (cq (aa 0) (aa 1)) ak)
 ·rintro ws G q e ⟨a,r,rfl,hk,hG,hq⟩;cases r with
  | less b=>
    walk_at "R";refine⟨a,C.l,[],rfl,hG,⟨hc,h1⟩,by simp,?_⟩;exact aC.done (hq _ ah λx hx=>ap hx)
  | set b n=>cases hk
  | copy b o=>cases hk
  | add b o=>cases hk
noncomputable def Ar (C:Cs) (S:Nat->Prop):bV:=λws G q _=>∃(a:Addr) (b:Str) (pl:Addr) (ps:List (Addr×Row)),ws=[.ref a,.str b,.ref pl]/\G a=some (.ins C.t [])/\G pl=some (.lst (refs ps))/\Rows C G ps/\jN (aU.of (ps.map (·.2)))/\Dc S (aU.of (ps.map (·.2)))/\∀G':Gp,G' a=some (.ins C.t (Es b (ps.map (·.1)) (aU.of (ps.map (·.2)))))->(∀x,x≠a->G' x=G x)->q .non G'
theorem ES {C:Cs} {S:Nat->Prop} (F:cz K "__init__" "Times.__init__" (bb 27 0) f fd) (F1:Fx P w K mg base "weight_of" ["things"] 7 (Al C S)) (F2:Fx P w K mg base "whole" ["n"] 3 ia) (F3:Fx P w K mg base "plus" ["a","b"] 3 hJ) (mt:mg "tuple"=none) (hc:dj K C.t) (h1:aD K C.t "box") (h2:aD K C.t "rows") (h3:aD K C.t "of_round"):cc P w K mg base 8 f fd ["self","box","rows"] (Ar C S):=by
 refine dy F (N:=["self","box","rows"]) (by walk_at "s") (by walk_at "l") λ_ _ _ _ _ _ nd hr=>?_;apply aM
 ·exact(ae (cq (aa 0) (aa 1)) (ae (cq (aa 0) (bL ez rfl mt eF (ac (aa 2) ag))) (ae (cq (aa 0) (aq F3 (av.mono hr (by lia)) rfl (ac (aq F1 (av.mono hr (by lia)) rfl (ac (bh (aa 0)) ag)) (ac (aq F2 (av.mono hr (by lia)) rfl (ac af ag)) ag)))) ak)))
 ·rintro ws G q e ⟨a,b,pl,ps,rfl,hG,hpl,hR,hz,hkd,hq⟩;have la:pl≠a:=λz=>by rw[z,hG] at hpl;cases hpl
  have hll:=gv (aU.of (ps.map (·.2)));rw[aU.L_of,length_map] at hll;have hzb:=hz.hb;walk_at "a0";refine⟨a,C.t,[],rfl,hG,⟨hc,h1⟩,by simp,?_⟩;walk_at "a";refine⟨_,(ap la).trans hpl,a,C.t,[("box",.str b)],rfl,ah,⟨hc,h2⟩,by simp,?_⟩;have em:(ps.map (·.1)).map W.ref=refs ps:=by rw[map_map];rfl
  subst hU;walk_at "R";rw[ybv (by decide)];refine⟨a,C.t,[("box",.str b),("rows",.tup (refs ps))],.tup (refs ps),rfl,ah,⟨hc,h2⟩,rfl,?_⟩;have li:cJ G (aK (aK G a (GO.ins C.t [("box",W.str b)])) a (GO.ins C.t [("box",W.str b),("rows",W.tup (refs ps))])):=cJ.but (p:=a) (λx g xa e=>(ap xa).trans ((ap xa).trans e)) (λC' y fs e=>by rw[hG] at e;cases e);have hw0:=aU.wq _ hz.nn;have e1:=Wb.wh (n:=1) (by decide);have l1:=hw0.ln;have l2:=cF (aU.of (ps.map (·.2)));refine⟨ps.map (·.1),aU.of (ps.map (·.2)),by rw[em],(hR.mono li).ats,hz,hkd,1,rfl,by decide,(aU.of (ps.map (·.2))).wt,O.wh 1,rfl,hw0.nf,ybz hw0.dp (by decide),ybz e1.dp (by decide),by lia,ybz e1.ln (by decide),a,C.t,[("box",.str b),("rows",.tup (refs ps))],rfl,ah,⟨hc,h3⟩,by simp,aC.done (hq _ ?_ λx hx=>(ap hx).trans ((ap hx).trans (ap hx)))⟩;rw[ah,←em]
  rfl
noncomputable def As (C:Cs) (S:Nat->Prop):bV:=λws G q _=>∃(a:Addr) (b:Str) (ml pl:Addr) (ms:List (O×Str)) (ps:List (Addr×Row)),ws=[.ref a,.str b,.ref ml,.ref pl]/\G a=some (.ins C.w [])/\G ml=some (.lst (gz ms))/\ms.length<=5/\(∀m,m∈ms->m.1.dp<=3)/\G pl=some (.lst (refs ps))/\Rows C G ps/\jN (aU.of (ps.map (·.2)))/\Dc S (aU.of (ps.map (·.2)))/\∀G':Gp,G' a=some (.ins C.w (Db b (cr ms) (ps.map (·.1)) (aU.of (ps.map (·.2)))))->(∀x,x≠a->G' x=G x)->q .non G'
theorem ET {C:Cs} {S:Nat->Prop} (F:cz K "__init__" "While.__init__" (bb 29 0) f fd) (F0:Fx P w K mg base "by_exponent" ["marks"] 6 Ck) (F1:Fx P w K mg base "weight_of" ["things"] 7 (Al C S)) (F2:Fx P w K mg base "whole" ["n"] 3 ia) (F3:Fx P w K mg base "plus" ["a","b"] 3 hJ) (mt:mg "tuple"=none) (hc:dj K C.w) (h1:aD K C.w "box") (h0:aD K C.w "heights") (h2:aD K C.w "rows") (h3:aD K C.w "of_round"):cc P w K mg base 8 f fd ["self","box","marks","rows"] (As C S):=by
 refine dy F (N:=["self","box","marks","rows"]) (by walk_at "s") (by walk_at "l") λ_ _ _ _ _ _ nd hr=>?_;apply aM
 ·exact(ae (cq (aa 0) (aa 1)) (ae (cq (aa 0) (aq F0 (av.mono hr (by lia)) rfl (ac (aa 2) ag))) (ae (cq (aa 0) (bL ez rfl mt eF (ac (aa 3) ag))) (ae (cq (aa 0) (aq F3 (av.mono hr (by lia)) rfl (ac (aq F1 (av.mono hr (by lia)) rfl (ac (bh (aa 0)) ag)) (ac (aq F2 (av.mono hr (by lia)) rfl (ac af ag)) ag)))) ak))))
 ·rintro ws G q e ⟨a,b,ml,pl,ms,ps,rfl,hG,hml,hm5,hmd,hpl,hR,hz,hkd,hq⟩;have la:pl≠a:=λz=>by rw[z,hG] at hpl;cases hpl
  have lm:ml≠a:=λz=>by rw[z,hG] at hml;cases hml
  have hll:=gv (aU.of (ps.map (·.2)));rw[aU.L_of,length_map] at hll;have hzb:=hz.hb;walk_at "a0";refine⟨a,C.w,[],rfl,hG,⟨hc,h1⟩,by simp,?_⟩;walk_at "a";refine⟨ml,ms,rfl,(ap lm).trans hml,hm5,hmd,a,C.w,[("box",.str b)],rfl,ah,⟨hc,h0⟩,by simp,?_⟩;walk_at "a";refine⟨_,(ap la).trans ((ap la).trans hpl),a,C.w,[("box",.str b),("heights",.tup (ff (cr ms)))],rfl,ah,⟨hc,h2⟩,by simp,?_⟩;have em:(ps.map (·.1)).map W.ref=refs ps:=by rw[map_map];rfl
  subst hU;walk_at "R"
  repeat rw[ybv (by decide)]
  have li:cJ G (aK (aK (aK G a (GO.ins C.w [("box",W.str b)])) a (GO.ins C.w [("box",W.str b),("heights",W.tup (ff (cr ms)))])) a (GO.ins C.w [("box",W.str b),("heights",W.tup (ff (cr ms))),("rows",W.tup (refs ps))])):=cJ.but (p:=a) (λx g xa e=>(ap xa).trans ((ap xa).trans ((ap xa).trans e))) (λC' y fs e=>by rw[hG] at e;cases e);have hw0:=aU.wq _ hz.nn;have e1:=Wb.wh (n:=2) (by decide);have l1:=hw0.ln;have l2:=cF (aU.of (ps.map (·.2)));refine⟨a,C.w,[("box",.str b),("heights",.tup (ff (cr ms))),("rows",.tup (refs ps))],.tup (refs ps),rfl,ah,⟨hc,h2⟩,rfl,ps.map (·.1),aU.of (ps.map (·.2)),by rw[em],(hR.mono li).ats,hz,hkd,2,rfl,by decide,(aU.of (ps.map (·.2))).wt,O.wh 2,rfl,hw0.nf,ybz hw0.dp (by decide),ybz e1.dp (by decide),by lia,ybz e1.ln (by decide),a,C.w,[("box",.str b),("heights",.tup (ff (cr ms))),("rows",.tup (refs ps))],rfl,ah,⟨hc,h3⟩,by simp,aC.done (hq _ ?_ λx hx=>(ap hx).trans ((ap hx).trans ((ap hx).trans (ap hx))))⟩;rw[ah,←em]
  rfl
noncomputable def Bd (s:Nat) (rs:aU Str):Prop:=rs.hb<=300/\rs.mb<=10^100/\rs.lb<=s
structure Mk (s:Nat) (hs:List (O×List Str)):Prop where
 e:qV 3 hs
 k:CY hs
 l:hs.length<=s
 h:O.hw (hpw hs)<=100
 m:O.mx (hpw hs)<=10^100
 x:∀p,p∈hs->O.mx p.1<=10^100
mutual
noncomputable def gr (cp:Prop) (s:Nat) (B:Int):Row->Prop
 | .set _ n=>0<=n/\n<=B
 | .copy _ _=>cp
 | .times _ rs=>uG cp s B rs/\Bd s rs
 | .count rs n=>(uG cp s B rs/\Bd s rs)/\0<=n/\n<=B
 | .whl _ hs rs=>(uG cp s B rs/\Bd s rs)/\Mk s hs
 | .bear _ hs rs o=>(uG cp s B rs/\Bd s rs)/\Mk s hs/\o.NF/\o.dp<=4/\O.hw o<=100/\O.mx o<=10^100+100*B/\o.len<=s
 | _=>True
noncomputable def uG (cp:Prop) (s:Nat) (B:Int):aU Str->Prop
 | .nil=>True
 | .cons r rs=>gr cp s B r/\uG cp s B rs
end
section
variable {cp:Prop} {s:Nat}
mutual
theorem uH {B B':Int} (h:B<=B'):∀r:Row,gr cp s B r->gr cp s B' r
 | .set _ n,x=>⟨x.1,ydx x.2 h⟩
 | .copy _ _,x=>x
 | .add _ _,_=>trivial
 | .less _,_=>trivial
 | .times _ rs,x=>⟨jA h rs x.1,x.2⟩
 | .count rs n,x=>⟨⟨jA h rs x.1.1,x.1.2⟩,x.2.1,ydx x.2.2 h⟩
 | .whl _ _ rs,x=>⟨⟨jA h rs x.1.1,x.1.2⟩,x.2⟩
 | .bear _ _ rs o,x=>⟨⟨jA h rs x.1.1,x.1.2⟩,x.2.1,x.2.2.1,x.2.2.2.1,x.2.2.2.2.1,by have:=x.2.2.2.2.2.1;lia,x.2.2.2.2.2.2⟩
theorem jA {B B':Int} (h:B<=B'):∀rs:aU Str,uG cp s B rs->uG cp s B' rs
 | .nil,_=>trivial
 | .cons r rs,x=>⟨uH h r x.1,jA h rs x.2⟩
end
mutual
theorem nC {B:Int}:∀r:Row,gr cp s B r->r.nn/\r.od
 | .set _ n,_=>⟨trivial,trivial⟩
 | .copy _ _,_=>⟨trivial,trivial⟩
 | .add _ _,_=>⟨trivial,trivial⟩
 | .less _,_=>⟨trivial,trivial⟩
 | .times _ rs,x=>eQ rs x.1
 | .count rs n,x=>⟨⟨(eQ rs x.1.1).1,x.2.1⟩,(eQ rs x.1.1).2⟩
 | .whl _ hs rs,x=>⟨⟨(eQ rs x.1.1).1,x.2.e⟩,x.2.k,(eQ rs x.1.1).2⟩
 | .bear _ hs rs o,x=>⟨⟨(eQ rs x.1.1).1,x.2.1.e,x.2.2.1,x.2.2.2.1⟩,x.2.1.k,(eQ rs x.1.1).2⟩
theorem eQ {B:Int}:∀rs:aU Str,uG cp s B rs->rs.nn/\rs.od
 | .nil,_=>⟨trivial,trivial⟩
 | .cons r rs,x=>⟨⟨(nC r x.1).1,(eQ rs x.2).1⟩,(nC r x.1).2,(eQ rs x.2).2⟩
end
theorem gE {B:Int}:∀{rs:aU Str},uG cp s B rs->∀r,r∈rs.L->gr cp s B r
 | .nil,_,r,h=>(nomatch h)
 | .cons r0 rs,x,r,h=>by
   rcases mem_cons.mp h with rfl | h
   ·exact x.1
   ·exact gE x.2 r h
theorem lD:((10^100+3)*(101*10^100+1)+1:Int)<=10^300:=by decide+kernel
theorem iQ {a b c d:Nat} (h1:a<=c) (h2:b<=d):((a*b+1:Nat):Int)<=(c:Int)*d+1:=by
 have:=Nat.mul_le_mul h1 h2;rw[←Int.natCast_mul];lia
theorem lE:((1:Nat):Int)<=10^300:=by decide+kernel
theorem uI {B:Int} (hB:B<=10^100) (r:Row) (x:gr cp s B r):Sz r:=by
 have hn:=(nC r x).1;cases r with
 | set _ n=>exact⟨hn,by show 1<=500;decide,lE⟩
 | copy _ _=>exact⟨hn,by show 1<=500;decide,lE⟩
 | add _ _=>exact⟨hn,by show 1<=500;decide,lE⟩
 | less _=>exact⟨hn,by show 1<=500;decide,lE⟩
 | times _ rs=>
   obtain⟨h1,h2,h3⟩:=x.2;refine⟨hn,by show rs.hb+2<=500;lia,?_⟩;have:=iQ (a:=rs.mb+2) (b:=2) (c:=10^100+3) (d:=101*10^100+1) (by lia) (by lia);refine ydx ?_ (ydx this lD);show(((rs.mb+2)*2:Nat):Int)<=_
   (clear hB h1 h2 h3 this;lia)
 | count rs n=>
   obtain⟨h1,h2,h3⟩:=x.1.2;have n1:=x.2.2;have n0:=x.2.1;refine⟨hn,by show rs.hb+3<=500;lia,?_⟩;exact ydx (iQ (a:=rs.mb+2) (b:=n.toNat+1) (c:=10^100+3) (d:=101*10^100+1) (by lia) (by lia)) lD
 | whl _ hs rs=>
   obtain⟨h1,h2,h3⟩:=x.1.2;have m1:=x.2.h;have m2:=x.2.m;refine⟨hn,by show rs.hb+O.hw (hpw hs)+2<=500;lia,?_⟩;exact ydx (iQ (a:=rs.mb+3) (b:=(O.mx (hpw hs)).toNat+1) (c:=10^100+3) (d:=101*10^100+1) (by lia) (by lia)) lD
 | bear _ hs rs o=>
   obtain⟨h1,h2,h3⟩:=x.1.2;obtain⟨_,_,_,m1,m2,_⟩:=x.2;refine⟨hn,by show rs.hb+O.hw o+2<=500;lia,?_⟩;exact ydx (iQ (a:=rs.mb+3) (b:=(O.mx o).toNat+1) (c:=10^100+3) (d:=101*10^100+1) (by lia) (by lia)) lD
noncomputable abbrev Sk (cp:Prop) (i:Nat):Prop:=i<8/\(i=1->cp)
theorem Cn:∀r:Row,kd r<8
 | .set _ _=>by show 0<8;decide
 | .copy _ _=>by show 1<8;decide
 | .add _ _=>by show 2<8;decide
 | .less _=>by show 3<8;decide
 | .times _ _=>by show 4<8;decide
 | .whl _ _ _=>by show 5<8;decide
 | .count _ _=>by show 6<8;decide
 | .bear _ _ _ _=>by show 7<8;decide
theorem uJ {B:Int} {r:Row} (x:gr cp s B r):Sk cp (kd r):=by
 refine⟨Cn r,λh=>?_⟩;cases r with
 | copy _ _=>exact x
 | _=>cases h
theorem jB:∀rs:aU Str,(rs.L.map Rq.lb).sum=rs.lb
 | .nil=>rfl
 | .cons r rs=>by
   show r.lb+(rs.L.map Rq.lb).sum=rs.lb+r.lb;rw[jB rs];lia
theorem uK:∀r:Row,1<=r.lb
 | .set _ _=>yby _
 | .copy _ _=>yby _
 | .add _ _=>yby _
 | .less _=>yby _
 | .times _ _=>yby _
 | .count rs _=>by show 1<=rs.lb+2;lia
 | .whl _ [] rs=>by show 1<=rs.lb+2;lia
 | .whl _ (_::_) rs=>by show 1<=2;lia
 | .bear _ _ rs o=>by show 1<=rs.lb+1+o.len+1;lia
theorem At:∀rs:aU Str,rs.L.length<=rs.lb
 | .nil=>yby _
 | .cons r rs=>by have:=At rs;have:=uK r;show rs.L.length+1<=rs.lb+r.lb;lia
theorem qi {B:Int} {kvs:List (aS×W)} (hB:0<=B) (hk:di B kvs) {b:Str} {hs:List (O×List Str)} {rs:aU Str} (h:(uG cp s B rs/\Bd s rs)/\Mk s hs):gr cp s B (.bear b hs rs (bp (aR kvs) hs)):=by
 have hg:∀x,0<=aR kvs x/\aR kvs x<=B:=λx=>hk.get hB x;obtain⟨m1,m2,m3⟩:=kh (g:=aR kvs) (n:=100) (M:=10^100) hg (by decide) h.2.e (λp hp=>⟨h.2.k.nm p hp,h.2.x p hp⟩);have hl:=fc (aR kvs) hs;have h1:=h.2.l;have h2:=h.2.k.ln;exact⟨h.1,h.2,iK (λx=>(hg x).1) h.2.e h.2.k.ds,m1,by lia,by lia,by lia⟩
theorem xy {B:Int} {kvs:List (aS×W)} (hB:0<=B) (hk:di B kvs) {r:Row} (h:gr cp s B r):∀x,x∈dq kvs r->gr cp s B x:=λx hx=>by
 cases r with
 | times b rs=>
   rw[mem_singleton.mp hx];have:=hk.get hB b;exact⟨h,this.1,this.2⟩
 | count rs n=>
   have hx:x∈(if n=0 then [] else rs.L++[Rq.count rs (n-1)]):=hx
   by_cases h0:n=0
   ·rw[ycx h0] at hx;cases hx
   ·rw[ybv h0] at hx;have n0:=h.2.1;have n1:=h.2.2;rcases mem_append.mp hx with hx | hx
    ·exact gE h.1.1 x hx
    ·rw[mem_singleton.mp hx];exact⟨h.1,by lia,by lia⟩
 | whl b hs rs=>
   have hx:x∈(if aR kvs b=0 then [] else rs.L++[Rq.bear b hs rs (bp (aR kvs) hs)]):=hx
   by_cases h0:aR kvs b=0
   ·rw[ycx h0] at hx;cases hx
   ·rw[ybv h0] at hx;rcases mem_append.mp hx with hx | hx
    ·exact gE h.1.1 x hx
    ·rw[mem_singleton.mp hx];exact qi hB hk h
 | bear b hs rs o=>
   have hx:x∈(if aR kvs b=0 then [] else rs.L++[Rq.bear b hs rs (bp (aR kvs) hs)]):=hx
   by_cases h0:aR kvs b=0
   ·rw[ycx h0] at hx;cases hx
   ·rw[ybv h0] at hx;rcases mem_append.mp hx with hx | hx
    ·exact gE h.1.1 x hx
    ·rw[mem_singleton.mp hx];exact qi hB hk ⟨h.1,h.2.1⟩
 | set b n=>cases hx
 | copy b o=>cases hx
 | add b o=>cases hx
 | less b=>cases hx
theorem qj {kvs:List (aS×W)} {b:Str} {hs:List (O×List Str)} {rs:aU Str} (h1:Bd s rs) (h2:Mk s hs):((if aR kvs b=0 then [] else rs.L++[Rq.bear b hs rs (bp (aR kvs) hs)]).map Rq.lb).sum<=3*s+2/\(if aR kvs b=0 then [] else rs.L++[Rq.bear b hs rs (bp (aR kvs) hs)]).length<=s+1:=by
 by_cases h0:aR kvs b=0
 ·rw[ycx h0];exact⟨zero_le _,zero_le _⟩
 ·rw[ybv h0,map_append,sum_append,jB,length_append];have a1:=h1.2.2;have a2:=h2.l;have a3:=fc (aR kvs) hs;have a4:=At rs;show rs.lb+(rs.lb+1+(bp (aR kvs) hs).len+1+0)<=_/\rs.L.length+1<=_;lia
theorem xz {B:Int} {kvs:List (aS×W)} {r:Row} (h:gr cp s B r):((dq kvs r).map Rq.lb).sum<=3*s+2/\(dq kvs r).length<=s+1:=by
 cases r with
 | times b rs=>
   have:=h.2.2.2;show(rs.lb+2+0:Nat)<=_/\1<=_;lia
 | count rs n=>
   show((if n=0 then [] else rs.L++[Rq.count rs (n-1)]).map Rq.lb).sum<=_/\(if n=0 then [] else rs.L++[Rq.count rs (n-1)]).length<=_
   by_cases h0:n=0
   ·rw[ycx h0];exact⟨zero_le _,zero_le _⟩
   ·rw[ybv h0,map_append,sum_append,jB,length_append];have h1:=h.1.2.2.2;have h2:=At rs;show rs.lb+(rs.lb+2+0)<=_/\rs.L.length+1<=_;lia
 | whl b hs rs=>exact qj h.1.2 h.2
 | bear b hs rs o=>exact qj h.1.2 h.2.1
 | set b n=>exact⟨zero_le _,zero_le _⟩
 | copy b o=>exact⟨zero_le _,zero_le _⟩
 | add b o=>exact⟨zero_le _,zero_le _⟩
 | less b=>exact⟨zero_le _,zero_le _⟩
theorem uL {B:Int} {kvs:List (aS×W)} (hB:0<=B) (hk:di B kvs) {r:Row} (h:gr cp s B r):di (2*B) (cY kvs r):=by
 have hk2:di (2*B) kvs:=hk.le (by lia);cases r with
 | set b n=>exact hk2.put _ h.1 (by have:=h.2;lia)
 | copy b o=>have:=hk.get hB o;exact hk2.put _ this.1 (by lia)
 | add b o=>have:=hk.get hB o;have:=hk.get hB b;exact hk2.put _ (by lia) (by lia)
 | less b=>
   have:=hk.get hB b;refine hk2.put _ ?_ ?_
   ·split<;> lia
   ·split<;> lia
 | times b rs=>exact hk2
 | count rs n=>exact hk2
 | whl b hs rs=>exact hk2
 | bear b hs rs o=>exact hk2
theorem rC (kvs:List (aS×W)) (r:Row):(cY kvs r).length<=kvs.length+1:=by
 cases r with
 | set b n=>exact dH ..
 | copy b n=>exact dH ..
 | add b n=>exact dH ..
 | less b=>exact dH ..
 | times b rs=>exact le_succ _
 | count rs n=>exact le_succ _
 | whl b hs rs=>exact le_succ _
 | bear b hs rs o=>exact le_succ _
end
noncomputable def nD:List Row×List (aS×W)->List Row×List (aS×W)
 | ([],kvs)=>([],kvs)
 | (r::st,kvs)=>(dq kvs r++st,cY kvs r)
noncomputable def bu (s:List Row×List (aS×W)):Nat->List Row×List (aS×W)
 | 0=>s
 | n+1=>nD (bu s n)
noncomputable def lG:List Row×List (aS×W)->Prop
 | ([],_)=>False
 | (r::_,kvs)=>dY kvs r
structure rD (cp:Prop) (m l0:Nat) (B:Int) (i:Nat) (s:List Row×List (aS×W)):Prop where
 g:∀r,r∈s.1->gr cp m (B*2^i) r
 b:di (B*2^i) s.2
 l:(s.1.map Rq.lb).sum<=l0+(3*m+2)*i
 k:s.2.length<=100+i
theorem rD.next {cp:Prop} {m l0:Nat} {B:Int} (hB:0<=B) {s:List Row×List (aS×W)} (h:rD cp m l0 B i s):rD cp m l0 B (i+1) (nD s):=by
 have hp:(0:Int)<=B*2^i:=Int.mul_nonneg hB (Int.le_of_lt (Int.pow_pos (by decide)));have e:B*2^ (i+1)=2*(B*2^i):=by rw[Int.pow_succ];rw[←Int.mul_assoc,Int.mul_comm]
 obtain⟨st,kvs⟩:=s;cases st with
 | nil=>
   refine⟨λr hr=>(nomatch hr),?_,zero_le _,by have h3:kvs.length<=100+i:=h.k;show kvs.length<=_;lia⟩;show di _ kvs;rw[e];exact h.b.le (by lia)
 | cons r st=>
   have hg:=h.g r yaz;have hl:=xz (kvs:=kvs) hg;have h1:=h.l;have h3:=h.k;simp only[map_cons,sum_cons] at h1;refine⟨λx hx=>?_,?_,?_,?_⟩
   ·rcases mem_append.mp hx with hx | hx
    ·exact uH (by rw[e];lia) _ (xy hp h.b hg x hx)
    ·exact uH (by rw[e];lia) _ (h.g x (yay _ hx))
   ·rw[e];exact uL hp h.b hg
   ·show((dq kvs r++st).map Rq.lb).sum<=_;rw[map_append,sum_append,Nat.mul_add];lia
   ·have:=rC kvs r;show(cY kvs r).length<=_;have h3:kvs.length<=100+i:=h3;lia
theorem rD.run {cp:Prop} {m l0:Nat} {B:Int} (hB:0<=B) {s:List Row×List (aS×W)} (h:rD cp m l0 B 0 s):∀n,rD cp m l0 B n (bu s n)
 | 0=>h
 | n+1=>(rD.run hB h n).next hB
theorem lH:∀rs:List Row,(∀r,r∈rs->r.nn)->(bS rs).NF/\(bS rs).dp<=4/\(bS rs).len<=(rs.map Rq.lb).sum
 | [],_=>⟨trivial,zero_le _,yby _⟩
 | r::rs,h=>by
   obtain⟨h1,h2,h3⟩:=lH rs λx hx=>h x (yay _ hx);have x:=r.wq (h r yaz);refine⟨h1.plus x.nf,ybz (O.dp_plus _ _) (max_le.mpr ⟨h2,x.dp⟩),?_⟩;have:=jj (bS rs) r.wt;have:=x.ln;show(O.plusO (bS rs) r.wt).len<=r.lb+(rs.map Rq.lb).sum;lia
theorem lJ:∀rs:List Row,rs.length<=(rs.map Rq.lb).sum
 | []=>yby _
 | r::rs=>by have:=lJ rs;have:=uK r;simp only[map_cons,sum_cons,length_cons];lia
noncomputable abbrev cO (st:List (Addr×Row)):List Row:=st.map (·.2)
noncomputable def cK:List (Addr×Row)->List W
 | []=>[]
 | p::st=>cK st++[.tup [.ref p.1,.tup (ao (bS (cO (p::st))))]]
theorem Au (xs:List W) (x:W):dM (xs++[x]) (-1)=some x:=mQ (by simp)
theorem nE:∀st:List (Addr×Row),(cK st).length=st.length
 | []=>rfl
 | a::as=>by rw[cK,length_append,nE as];rfl
noncomputable def Av:bV:=λws G q _=>∃(l:Addr) (st:List (Addr×Row)),ws=[.ref l]/\G l=some (.lst (cK st))/\q (.tup (ao (bS (cO st)))) G
theorem EU (F:cz K "weight_left" "weight_left" (aN 35) f fd):cc P w K mg base 1 f fd ["left"] Av:=by
 refine dy F (N:=["left"]) (by walk_at "s") (by walk_at "l") λ_ _ _ _ _ _ nd hr=>?_;apply aM
 ·exact(ae (aA (iZ (aE (iA hr) (aa 0) (bA ag)) (ax ay (ax ay (aa 0) (eY af)) af) (aP ag))) ak)
 ·rintro ws G q e ⟨l,as,rfl,hG,hq⟩;walk_at "R";intro p hp;refine⟨_,.nil (aH hG hp) ah,?_⟩;cases as with
  | nil=>
    rw[show(cK []).isEmpty=true from rfl,ybv (by decide)];exact⟨_,aC.new hp,hq⟩
  | cons a as=>
    rw[show(cK (a::as)).isEmpty=false by simp[cK],ycx (by decide)];refine⟨_,_,aH hG hp,Au _ _,?_⟩;walk_at "R";exact⟨_,aC.new hp,hq⟩
structure jQ (cp:Prop) (st:List (Addr×Row)):Prop where
 z:∀p,p∈st->Sz p.2
 kd:∀p,p∈st->Sk cp (kd p.2)
 l:((cO st).map Rq.lb).sum<=20000
 n:st.length<=30000
theorem jQ.right {cp:Prop} {st us:List (Addr×Row)} (h:jQ cp (st++us)):jQ cp us:=by
 have h1:=h.l;have h2:=h.n;simp only[cO,map_append,sum_append,length_append] at h1 h2;exact⟨λp hp=>h.z p (ydy _ hp),λp hp=>h.kd p (ydy _ hp),by show((us.map (·.2)).map Rq.lb).sum<=20000;lia,by lia⟩
theorem jQ.sum {cp:Prop} {st:List (Addr×Row)} (h:jQ cp st):(bS (cO st)).NF/\(bS (cO st)).dp<=4/\(bS (cO st)).len<=20000:=by
 obtain⟨h1,h2,h3⟩:=lH (cO st) λr hr=>by
  obtain⟨p,hp,rfl⟩:=mem_map.mp hr;exact(h.z p hp).nn
 exact⟨h1,h2,ybz h3 h.l⟩
noncomputable def yj (C:Cs) (cp:Prop):bV:=λws G q _=>∃(l t:Addr) (ps st:List (Addr×Row)),ws=[.ref l,.ref t]/\t≠l/\G l=some (.lst (cK st))/\G t=some (.lst (refs ps))/\Rows C G ps/\jQ cp (ps++st)/\∀G':Gp,G' l=some (.lst (cK (ps++st)))->(∀x,x≠l->G' x=G x)->q .non G'
theorem Co {C:Cs} {cp:Prop} (F:cz K "put_ahead" "put_ahead" (aN 34) f fd) (F1:Fx P w K mg base "weight_left" ["left"] 1 Av) (F2:Fx P w K mg base "plus" ["a","b"] 3 hJ) (M:∀i,Sk cp i->Mt P w K mg base (C.at_ i) "weigh" ["self"] 6 (jO C i) []) (mr:mg "reversed"=none):cc P w K mg base 7 f fd ["left","things"] (yj C cp):=by
 refine dy F (N:=["left","things","thing"]) (by walk_at "s") (by walk_at "l") λ_ _ _ _ _ _ nd hr=>?_;apply aM
 ·refine' eu (dQ PassesOwn.never rfl (v6 rfl mr ?it) ?tg (eu (cE (eA ?ob (aP (ac ?va (ac (aq F2 (av.mono hr (by lia)) rfl (ac ?wl (ac (lc (S:=Sk cp) (t:=λi=>j9 (C.at_ i) "weigh" (jO C i) [] (cP 2) kO) λi hi=>mD ?me (M i hi) (av.mono hr (by lia))) ag))) ag)))))))
  case it=>exact(ac (aa 1) ag)
  case tg=>exact(ci 2 nd rfl (.inl rfl))
  case ob=>exact(aa 0)
  case va=>exact(aa 2)
  case wl=>exact(aq F1 (av.mono hr (by lia)) rfl (ac (aa 0) ag))
  case me=>exact(aa 2)
 ·rintro ws G q e ⟨l,t,as,us,rfl,tl,hl,ht,ha,hn,hq⟩;walk_at "R";refine⟨_,ht,cm (λws τ G'=>∃(todo dn:List (Addr×Row)) (t2:Option W),ws=(refs todo).reverse/\as=todo++dn/\G' l=some (.lst (cK (dn++us)))/\(∀x,x≠l->G' x=G x)/\τ=[some (.ref l),some (.ref t),t2]) ?_ ?_ _ _ _ ⟨as,[],none,rfl,(append_nil _).symm,hl,λ_ _=>rfl,rfl⟩⟩
  ·rintro τ G' ⟨todo,dn,t2,hw,rfl,hl',hk,rfl⟩;have h0:todo=[]:=by simpa using hw.symm
   subst h0;refine⟨(hk t tl).trans ht,?_⟩;exact aC.done (hq G' hl' hk)
  ·rintro w1 ws τ G' k ⟨todo,dn,t2,hw,rfl,hl',hk,rfl⟩ hkk;rcases List.eq_nil_or_concat todo with rfl | ⟨todo',a,rfl⟩
   ·cases hw
   rw[List.concat_eq_append] at hw ha hn ht;rw[List.concat_eq_append];rw[refs,map_append,List.reverse_append] at hw;cases hw;refine⟨(hk t tl).trans ht,?_⟩;have hr0:=ha a (by simp);have lI:cJ G G':=cJ.but (p:=l) (λx g xl e=>(hk x xl).trans e) (λC' y fs e=>by rw[hl] at e;cases e);have hr1:=hr0.mono lI;obtain⟨fs,f1,f2,_⟩:=hr1.isIns;have hz:Sz a.2:=hn.z a (by simp);have hst:jQ cp (dn++us):=by
    have:(todo'++[a]++dn)++us=(todo'++[a])++(dn++us):=by simp
    rw[this] at hn;exact hn.right
   obtain⟨s1,s2,s3⟩:=hst.sum;have x:=a.2.wq hz.nn;have x1:=x.ln;have x2:=yh a.2;have x3:=hz.hb;have hnl:=hn.n;simp only[length_append,length_cons,length_nil] at hnl;walk_at "R";refine⟨⟨_,hl'⟩,l,dn++us,rfl,hl',kd a.2,hn.kd a (by simp),a.1,fs,rfl,f1,f2,a.1,a.2,rfl,hr1,rfl,hz,bS (cO (dn++us)),a.2.wt,rfl,s1,by lia,ybz x.dp (by decide),by lia,by lia,_,hl',?_,?_⟩
   ·rw[nE,length_append];lia
   ·refine hkk _ _ ⟨todo',a::dn,_,rfl,by simp,ah,λx hx=>(ap hx).trans (hk x hx),rfl⟩
theorem EV {α:Type} (l:List α) (i j:Nat) (a b x y:α):(((l.set i a).set j b).set i x).set j y=(l.set i x).set j y:=by
 by_cases e:i=j
 ·subst e;rw[set_set,set_set,set_set,set_set]
 ·rw[List.set_comm _ _ (λz=>e z),set_set,List.set_comm _ _ (λz=>e z),set_set]
  first | rfl | rw[List.set_comm _ _ (λz=>e z)]
noncomputable def Cp:W->Bool
 | .int n=>decide (0<n)
 | _=>false
noncomputable def xA (kvs:List (aS×W)):List (aS×W):=(kvs.filter λp=>Cp p.2).foldl (λa p=>dg a p.1 p.2) []
theorem jC {C:Gp->Prop} {tt:WT} {te:WE} {i j:Nat} {τ0:cT} {G:Gp} {q:List W->Gp->Prop} {pr:aS×W->Bool} {f:aS×W->W} (hC:C G):∀{kvs:List (aS×W)} {acc:List W} {τ:cT},
 (∀p,p∈kvs->∀k:Bool->Gp->Prop,k (pr p) G->tt ((τ0.set i (some (kW p.1))).set j (some p.2)) G k)->(∀p,p∈kvs->∀k:W->Gp->Prop,k (f p) G->te ((τ0.set i (some (kW p.1))).set j (some p.2)) G k)->acc.length+kvs.length<=100000->(∀x y,(τ.set i x).set j y=(τ0.set i x).set j y)->
 q (acc++(kvs.filter pr).map f) G->cu C (qJ 2 (i9 (cV i) (i9 (cV j) qI))) tt te (kvs.map λp=> .tup [kW p.1,p.2]) τ G acc q
 | [],acc,τ,_,_,_,_,hq=>⟨hC,by simpa using hq⟩
 | p::kvs,acc,τ,ht,he,hl,hτ,hq=>by
   refine⟨hC,rfl,?_⟩;show tt ((τ.set i (some (kW p.1))).set j (some p.2)) G _;rw[hτ];rw[length_cons] at hl;refine ht p yaz _ ?_;have ih:=λacc' (h:acc'.length+kvs.length<=100000)=>jC (acc:=acc') (τ:=(τ0.set i (some (kW p.1))).set j (some p.2)) (q:=q) hC (λu hu=>ht u (yay _ hu)) (λu hu=>he u (yay _ hu)) h λx y=>by rw[EV]
   cases hp:pr p with
   | true=>
     rw[ycx rfl];refine he p yaz _ ⟨by lia,ih _ (by rw[length_append];simp only[length_cons,length_nil];lia) ?_⟩;simpa[filter_cons,hp] using hq
   | false=>
     rw[ybv (by decide)];refine ih _ (by lia) ?_;simpa[filter_cons,hp] using hq
noncomputable def Cq:bV:=λws G q _=>∃(l d:Addr) (st:List (Addr×Row)) (kvs:List (aS×W)),ws=[.ref l,.ref d]/\G l=some (.lst (cK st))/\G d=some (.dic kvs)/\jP kvs/\kvs.length<=1000/\∀(p:Addr) (G':Gp),aC G G'->G p=none->G' p=some (.dic (xA kvs))->q (.tup [.tup (ao (bS (cO st))),.ref p]) G'
theorem EW (F:cz K "told" "told" (aN 36) f fd) (F1:Fx P w K mg base "weight_left" ["left"] 1 Av) (md:mg "dict"=none):cc P w K mg base 2 f fd ["left","boxes"] Cq:=by
 refine dy F (N:=["left","boxes"]) (by walk_at "s") (by walk_at "l") λ_ _ _ _ _ _ nd hr=>?_;apply aM
 ·refine' eu (wU (aA ?ex))
  case ex=>exact(aP (ac (aq F1 (av.mono hr (by lia)) rfl (ac (aa 0) ag)) (ac (bL (ug rfl) rfl md oN (ac (fh (dR (by first | rfl | decide+kernel)) rfl (ue 1 rfl (.inl rfl)) (λ_ _ _ _=>(ja rfl (cB (cv 1 (by first | assumption | decide+kernel | rfl) rfl (.inl rfl)) (cB (cv 2 (by first | assumption | decide+kernel | rfl) rfl (.inl rfl)) fV)))) (λ_ _ _ _=>(vQ (aE sH (aa 2) af))) (λ_ _ _ _=>(aP (ac (aa 1) (ac (aa 2) ag))))) ag)) ag)))
 ·rintro ws G q e ⟨l,d,as,kvs,rfl,hl,hd,hi,hn,hq⟩;walk_at "R";refine⟨d,kvs,hd,l,as,rfl,hl,kvs,hd,λo us=>jC (pr:=λp=>Cp p.2) (f:=λp=> .tup [kW p.1,p.2]) (τ0:=[none,none,none]) ah (λp hp k hk=>?_) (λp hp k hk=>?_) (by simp only[length_nil];lia) (λ_ _=>rfl) λp1 hp1=>⟨_,.lst ah rfl,λp2 hp2=>?_⟩⟩
  ·obtain⟨n,en⟩:=hi p hp;rw[en] at hk ⊢;walk_at "R";exact hk
  ·walk_at "R";exact hk
  ·have n1:p1≠d:=λz=>by rw[z,ah] at hp1;cases hp1
   have n2:p2≠p1:=λz=>by rw[z,ah] at hp2;cases hp2
   rw[ap n2] at hp2;have n3:p2≠d:=λz=>by rw[z,ah] at hp2;cases hp2
   rw[ap n3] at hp2;rw[ap n1] at hp1;refine⟨o,us,kvs,(ap n3.symm).trans ((ap n1.symm).trans ah),_,aC.refl _,hq p2 _ (λx g e=>?_) hp2 ((ap n3).trans ah)⟩
   by_cases xd:x=d
   ·subst xd;rw[hd] at e;cases e;exact ah
   ·exact(ap xd).trans (aH (aH ((ap xd).trans e) ((ap n1).trans hp1)) ((ap n2).trans ((ap n3).trans hp2)))
noncomputable def rE (s:List Row×List (aS×W)) (k:Nat):List Addr->List W
 | []=>[]
 | p::ps=> .tup [.tup (ao (bS (bu s k).1)),.ref p]::rE s (k+1) ps
theorem oZ (s:List Row×List (aS×W)):∀(k:Nat) (ps:List Addr),(rE s k ps).length=ps.length
 | _,[]=>rfl
 | k,p::ps=>by rw[rE,length_cons,oZ s (k+1) ps];rfl
theorem qk (s:List Row×List (aS×W)):∀(k:Nat) (ps:List Addr) (p:Addr),rE s k (ps++[p])=rE s k ps++[.tup [.tup (ao (bS (bu s (k+ps.length)).1)),.ref p]]
 | k,[],p=>rfl
 | k,x::ps,p=>by
   rw[cons_append,rE,qk s (k+1) ps p,rE,cons_append,length_cons,show k+1+ps.length=k+(ps.length+1) by lia]
theorem rD.stq {cp:Prop} {m l0:Nat} {B:Int} {st:List (Addr×Row)} {kvs:List (aS×W)} (h:rD cp m l0 B i (cO st,kvs)) (hi:l0+(3*m+2)*i<=20000) (hB:B*2^i<=10^100):jQ cp st:=by
 have h1:=ybz h.l hi;have h2:=lJ (cO st);have h1:((cO st).map Rq.lb).sum<=20000:=h1;refine⟨λp hp=>uI hB _ (h.g p.2 (mem_map.mpr ⟨p,hp,rfl⟩)),λp hp=>uJ (h.g p.2 (mem_map.mpr ⟨p,hp,rfl⟩)),h1,?_⟩;rw[length_map] at h2;lia
noncomputable def Cr (C:Cs) (Cf:Addr) (cp:Prop):bV:=λws G q e=>∃(t b:Addr) (ps:List (Addr×Row)) (kvs:List (aS×W)) (m s0 l0:Nat) (B:Int),ws=[.ref t,.ref b,.int (m:Int)]/\G t=some (.lst (refs ps))/\Rows C G ps/\G b=some (.dic kvs)/\rD cp s0 l0 B 0 (cO ps,kvs)/\0<=B/\(∀i,i<=m->B*2^i<=10^100)/\(∀i,i<=m->l0+(3*s0+2)*i<=20000)/\m<=60/\
 (∀(G':Gp) (n:Nat),aC G G'->n<m->lG (bu (cO ps,kvs) n)->(∀k,k<n->¬lG (bu (cO ps,kvs) k))->e (.ref Cf) G')/\
 ∀(G':Gp) (F:Addr) (ds:List Addr) (n:Nat),aC G G'->G F=none->G' F=some (.lst (rE (cO ps,kvs) 0 ds))->ds.length=n+1->n<=m->((bu (cO ps,kvs) n).1=[]∨n=m)->(∀k,k<n->(bu (cO ps,kvs) k).1≠[])->(∀k,k<n->¬lG (bu (cO ps,kvs) k))->(∀k p,ds[k]?=some p->G' p=some (.dic (xA (bu (cO ps,kvs) k).2))/\G p=none)->q (.ref F) G'
structure Ts (C:Cs) (G0 G:Gp) (l d F:Addr) (s:List Row×List (aS×W)) (ds:List Addr) (i:Nat) (st:List (Addr×Row)):Prop where
 le:aC G0 G
 hl:G l=some (.lst (cK st))
 hr:cO st=(bu s i).1
 ro:Rows C G st
 hd:G d=some (.dic (bu s i).2)
 hF:G F=some (.lst (rE s 0 ds))
 ll:ds.length=i+1
 td:∀k p,ds[k]?=some p->G p=some (.dic (xA (bu s k).2))/\G0 p=none
 dn:∀p,p∈ds->p≠d
 lF:l≠F
 f1:G0 l=none
 f2:G0 d=none
 f3:G0 F=none
 ne:∀k,k<i->(bu s k).1≠[]
 nb:∀k,k<i->¬lG (bu s k)
theorem Ts.mono {C:Cs} {G0 G G':Gp} {l d F:Addr} {s:List Row×List (aS×W)} {ds:List Addr} {st:List (Addr×Row)} (h:Ts C G0 G l d F s ds i st) (k:aC G G'):Ts C G0 G' l d F s ds i st:=
 ⟨h.le.trans k,k _ _ h.hl,h.hr,h.ro.mono (aC.ins k),k _ _ h.hd,k _ _ h.hF,h.ll,λn p hp=>⟨k _ _ (h.td n p hp).1,(h.td n p hp).2⟩,h.dn,h.lF,h.f1,h.f2,h.f3,h.ne,h.nb⟩
theorem Ts.next {C:Cs} {G0 G G':Gp} {l d F p:Addr} {s:List Row×List (aS×W)} {ds:List Addr} {st st':List (Addr×Row)} (h:Ts C G0 G l d F s ds i st) (k:∀x g,x≠l->x≠d->x≠F->G x=some g->G' x=some g) (hl:G' l=some (.lst (cK st'))) (hr:cO st'=(bu s (i+1)).1) (ro:Rows C G' st') (hd:G' d=some (.dic (bu s (i+1)).2)) (hF:G' F=some (.lst (rE s 0 (ds++[p]))))
 (hp:G' p=some (.dic (xA (bu s (i+1)).2))) (fp:G p=none) (pd:p≠d) (hn:(bu s i).1≠[]) (hb:¬lG (bu s i)):Ts C G0 G' l d F s (ds++[p]) (i+1) st':=by
 have kd:∀q,q∈ds->∀g,G q=some g->G' q=some g:=λq hq g e=>by
  obtain⟨n,hn⟩:=List.getElem?_of_mem hq;have e1:=(h.td n q hn).1;refine k q g (λz=>?_) (h.dn q hq) (λz=>?_) e
  ·rw[z,h.hl] at e1;cases e1
  ·rw[z,h.hF] at e1;cases e1
 refine⟨λx g e=>k x g (λz=>by rw[z,h.f1] at e;cases e) (λz=>by rw[z,h.f2] at e;cases e) (λz=>by rw[z,h.f3] at e;cases e) (h.le x g e),hl,hr,ro,hd,hF,by rw[length_append,h.ll];rfl,λn q hq=>?_,λq hq=>?_,h.lF,h.f1,h.f2,h.f3,λn hn'=>?_,λn hn'=>?_⟩
 ·by_cases hn:n<ds.length
  ·rw[List.getElem?_append_left hn] at hq;obtain⟨a1,a2⟩:=h.td n q hq;exact⟨kd q (List.mem_of_getElem? hq) _ a1,a2⟩
  ·rw[List.getElem?_append_right (by lia)] at hq;obtain⟨j,hj⟩:∃j,n-ds.length=j:=⟨_,rfl⟩;rw[hj] at hq;cases j with
   | zero=>
     cases hq;have hn2:n=i+1:=by have:=h.ll;lia
     subst hn2;exact⟨hp,bB h.le fp⟩
   | succ j=>cases hq
 ·rcases mem_append.mp hq with hq | hq
  ·exact h.dn q hq
  ·rw[mem_singleton.mp hq];exact pd
 ·rcases lt_or_ge n i with z | z
  ·exact h.ne n z
  ·have:n=i:=by lia
   rw[this];exact hn
 ·rcases lt_or_ge n i with z | z
  ·exact h.nb n z
  ·have:n=i:=by lia
   rw[this];exact hb
theorem scTc:bW ["rows","boxes","most","now","left","found","thing"] ["rows","boxes","most"] (am (aN 33)):=by walk_at "s"
theorem EX {C:Cs} {Cf:Addr} {cp:Prop} {T:Addr} {dfs:ydw} (F:fZ K "trace" "trace" (aN 33) f fd T dfs) (F1:Fx P w K mg base "put_ahead" ["left","things"] 7 (yj C cp)) (F2:Fx P w K mg base "told" ["left","boxes"] 2 Cq) (M:∀i,Sk cp i->BQ P w K mg base (C.at_ i) "step" ["self","boxes"] 8 (rB C Cf i) []) (md:mg "dict"=none) (ml:mg "len"=none):vU P w K mg base 9 f fd ["rows","boxes","most"] (Cr C Cf cp):=by
 have nd:=scTc.nd;refine BJ (k:=8) F scTc (λws G q e h=>by obtain⟨_,_,_,_,_,_,_,_,rfl,_⟩:=h;rfl) (λcdv A outer s H E ws G q e hr hsp hE=>?_);apply aM
 ·refine' ae ?s1 (ae ?s2 (ae ?s3 (ae ?s4 (ae (fW PassesOwn.leaving ?co (ae ?b1 (ae (cE (aq F1 (av.mono hr (by lia)) rfl (ac ?le (ac (lc (S:=Sk cp) (t:=λi=>tu (C.at_ i) "step" (rB C Cf i) [] (cP 6) (pw (cP 3) kO) e) λi hi=>tw ?me (M i hi) (av.mono hr (by lia)) hE ?ma) ag)))) ?b3))) ?s6))))
  case s1=>exact(aG 3 nd rfl (.inl rfl) (bL (ug rfl) rfl md oN (ac (aa 1) ag)))
  case s2=>exact(aG 4 nd rfl (.inl rfl) (bA ag))
  case s3=>exact(cE (aq F1 (av.mono hr (by lia)) rfl (ac (aa 4) (ac (aa 0) ag))))
  case s4=>exact(aG 5 nd rfl (.inl rfl) (bA (ac (aq F2 (av.mono hr (by lia)) rfl (ac (aa 4) (ac (aa 3) ag))) ag)))
  case co=>exact(fU (dc (aE (iA hr) (aa 4) (bA ag)) (cC (aE zh (bY dW rfl ml PySem.boot_len (ac (aa 5) ag)) (aa 2)))))
  case b1=>exact(aG 6 nd rfl (.inl rfl) (ax ay (zC (aa 4)) af))
  case le=>exact(aa 4)
  case me=>exact(aa 6)
  case ma=>exact(ac (aa 3) ag)
  case b3=>exact(ae (cE (eA (aa 5) (aq F2 (av.mono hr (by lia)) rfl (ac (aa 4) (ac (aa 3) ag))))) ak)
  case s6=>exact(ae (aA (aa 5)) ak)
 ·obtain⟨t,b,ps,kvs,m,s0,l0,B,rfl,ht,hX,hb,hO,hB0,hBi,hLi,hm,hx,hq⟩:=hsp;walk_at "a0";refine⟨kvs,.dic (.inl hb),λd hd0=>?_⟩;have le1:=aC.new (g:=GO.dic kvs) hd0;have g1:=ah (G:=G) (a:=d) (g:=GO.dic kvs);generalize aK G d (.dic kvs)=G1 at le1 g1 ⊢;walk_at "a";intro l hl0;have fl:=bB le1 hl0;have le2:=le1.trans (aC.new (g:=GO.lst []) hl0);have g2d:=aH (g:=GO.lst []) g1 hl0;have g2l:=ah (G:=G1) (a:=l) (g:=GO.lst []);generalize aK G1 l (.lst [])=G2 at le2 g2d g2l ⊢;have tl:t≠l:=λz=>by rw[z,fl] at ht;cases ht
  have dl:d≠l:=λz=>by rw[z,g2l] at g2d;cases g2d
  have hst0:jQ cp ps:=hO.stq (hLi 0 (by lia)) (hBi 0 (by lia));walk_at "a";refine⟨l,t,ps,[],rfl,tl,g2l,le2 _ _ ht,hX.mono (aC.ins le2),by rw[append_nil];exact hst0,λG3 hl3 hk3=>?_⟩;have le3:aC G G3:=λx g e=>(hk3 x (λz=>by rw[z,fl] at e;cases e)).trans (le2 x g e);have g3d:=(hk3 d dl).trans g2d;rw[append_nil] at hl3;walk_at "a";have hk0:kvs.length<=100+0:=hO.k;refine⟨l,d,ps,kvs,rfl,hl3,g3d,hO.b.int,by lia,λp0 G4 le4 fp0 hp0=>?_⟩;intro F0 hF0;have S0:Ts C G (aK G4 F0 (.lst [.tup [.tup (ao (bS (cO ps))),.ref p0]])) l d F0 (cO ps,kvs) [p0] 0 ps:=by
   have k5:aC G4 (aK G4 F0 (.lst [.tup [.tup (ao (bS (cO ps))),.ref p0]])):=aC.new hF0;refine⟨(le3.trans le4).trans k5,k5 _ _ (le4 _ _ hl3),rfl,hX.mono (aC.ins ((le3.trans le4).trans k5)),k5 _ _ (le4 _ _ g3d),ah,rfl,λk p hp=>?_,λp hp=>?_,λz=>?_,fl,hd0,bB (le3.trans le4) hF0,λk hk=>absurd hk (Nat.not_lt_zero _),λk hk=>absurd hk (Nat.not_lt_zero _)⟩
   ·cases k with
    | zero=>
      cases hp;exact⟨k5 _ _ hp0,bB le3 fp0⟩
    | succ k=>cases hp
   ·rw[mem_singleton.mp hp];intro z;rw[z,g3d] at fp0;cases fp0
   ·rw[←z,le4 _ _ hl3] at hF0;cases hF0
  generalize aK G4 F0 (.lst [.tup [.tup (ao (bS (cO ps))),.ref p0]])=G5 at S0 ⊢;clear hp0 fp0 hF0 le4 g3d hl3 hk3 le3 g2d g2l le2 dl fl hl0 g1 le1 hd0;subst hU;refine aF λU hU=>?_;refine oG (λj τ G'=>∃(i:Nat) (ds:List Addr) (st:List (Addr×Row)) (t6:Option W),Ts C G G' l d F0 (cO ps,kvs) ds i st/\τ=[some (.ref t),some (.ref b),some (.int (m:Int)),some (.ref d),some (.ref l),some (.ref F0),t6]/\i<=m/\j=m-i) ⟨_,0,[p0],ps,none,S0,rfl,by lia,rfl⟩ ?_;rintro j τ G' ⟨i,ds,st,t6,S,rfl,h50,rfl⟩ B' hB';clear S0;walk_at "R";intro p1 hp1;have S1:=S.mono (aC.new (g:=GO.lst []) hp1);have g1:=ah (G:=G') (a:=p1) (g:=GO.lst []);generalize aK G' p1 (.lst [])=G6 at S1 g1 ⊢;clear hp1 S;have fin:(bu (cO ps,kvs) i).1=[]∨i=m->U { nx:=λx G1=>∃G0,aC G0 G1/\q W.non G0,rt:=λw G1=>∃G0,aC G0 G1/\q w G0 } [some (W.ref t),some (W.ref b),some (W.int (m:Int)),some (W.ref d),some (W.ref l),some (W.ref F0),t6] G6:=λhds=>by
   subst hU;walk_at "R";exact aC.done (hq G6 F0 ds i S1.le S1.f3 S1.hF S1.ll h50 hds S1.ne S1.nb S1.td)
  have hll:=S1.ll;have hOi:=hO.run hB0 i;refine⟨_,.nil S1.hl g1,?_⟩;cases st with
  | nil=>
    rw[show(cK []).isEmpty=true from rfl,ybv (by decide)];exact fin (.inl S1.hr.symm)
  | cons a st=>
    have hrun:bu (cO ps,kvs) i=(a.2::cO st,(bu (cO ps,kvs) i).2):=by rw[Prod.ext_iff];exact⟨S1.hr.symm,rfl⟩
    have hnx:bu (cO ps,kvs) (i+1)=(dq (bu (cO ps,kvs) i).2 a.2++cO st,cY (bu (cO ps,kvs) i).2 a.2):=by
     show nD (bu (cO ps,kvs) i)=_;rw[hrun]
     rfl
    rw[show(cK (a::st)).isEmpty=false by simp[cK],ycx rfl];refine⟨_,.lst S1.hF,?_⟩;rw[oZ]
    by_cases h5:((ds.length:Nat):Int)<=(m:Int)
    ·rw[ycx h5];refine⟨λτ1 G1=>∃(ds':List Addr) (st':List (Addr×Row)) (t6':Option W),Ts C G G1 l d F0 (cO ps,kvs) ds' (i+1) st'/\τ1=[some (.ref t),some (.ref b),some (.int (m:Int)),some (.ref d),some (.ref l),some (.ref F0),t6'],?_,?_⟩
     ·rintro τ1 G1 ⟨ds',st',t6',S',rfl⟩;exact⟨m- (i+1),by lia,i+1,ds',st',t6',S',rfl,by lia,rfl⟩
     ·have him:i<=60:=by lia
      have hOn:=hO.run hB0 (i+1);have rh:jy C G6 a.1 a.2:=S1.ro a yaz;have hgr:=hOi.g a.2 (by rw[hrun];exact yaz);have hz:Sz a.2:=uI (hBi i (by assumption)) _ hgr;have hbad:lG (bu (cO ps,kvs) i)=dY (bu (cO ps,kvs) i).2 a.2:=by rw[hrun];rfl
      obtain⟨fs,f1,_,f3⟩:=rh.isIns;have dl:d≠l:=λz=>by have:=S1.hd;rw[z,S1.hl] at this;cases this
      have dF:d≠F0:=λz=>by have:=S1.hd;rw[z,S1.hF] at this;cases this
      have al:a.1≠l:=λz=>by rw[z,S1.hl] at f1;cases f1
      have hki:=hOi.k;have hkn:=hOn.k;have hid:=hOi.b.int;have hid2:=hOn.b.int;have hp0:(0:Int)<=B*2^i:=Int.mul_nonneg hB0 (Int.le_of_lt (Int.pow_pos (by decide)));generalize hN:(λ(τ1:cT) (G1:Gp)=>∃(ds':List Addr) (st':List (Addr×Row)) (t6':Option W),Ts C G G1 l d F0 (cO ps,kvs) ds' (i+1) st'/\τ1=[some (W.ref t),some (W.ref b),some (W.int (m:Int)),some (W.ref d),some (W.ref l),some (W.ref F0),t6'])=N;subst hB';refine aF λU1 hU1=>?_;walk_at "R";refine⟨_,_,S1.hl,?_⟩;walk_at "R";have g7l:=ah (G:=G6) (a:=l) (g:=GO.lst (cK st));have k7:∀x,x≠l->aK G6 l (.lst (cK st)) x=G6 x:=λx hx=>ap hx;have I7:cJ G6 (aK G6 l (.lst (cK st))):=cJ.but (p:=l) (λx g xl e=>(k7 x xl).trans e) (λC' y fs e=>by rw[S1.hl] at e;cases e);generalize aK G6 l (.lst (cK st))=G7 at g7l k7 I7 ⊢;walk_at "b";refine⟨kd a.2,uJ hgr,a.1,fs,rfl,(k7 _ al).trans f1,f3,a.1,d,a.2,_,rfl,rh.mono I7,rfl,hz,(nC _ hgr).2,(k7 _ dl).trans S1.hd,⟨_,hOi.b,hp0⟩,by (clear hB0 hk0 h50 hkn hp0;lia),λhno=>hx _ i (λx g e=>(k7 x (λz=>by rw[z,S1.f1] at e;cases e)).trans (S1.le x g e)) (by (clear hB0 hm hk0 h50 him hki hkn hp0;lia)) (hbad▸hno) S1.nb,λhno p2 G8 p8 k8 hd8 fp2 hp2 hR8 he8=>?_⟩;have n2l:p2≠l:=λz=>by rw[z,g7l] at fp2;cases fp2
      have I8:cJ G7 G8:=cJ.but (p:=d) k8 (λC' y fs e=>by rw[k7 _ dl,S1.hd] at e;cases e);have hro:Rows C G8 st:=λx hx=>((S1.ro x (yay _ hx)).mono I7).mono I8;have e8:cO (p8++st)=(bu (cO ps,kvs) (i+1)).1:=by rw[hnx];show List.map _ (p8++st)=_;rw[map_append,he8]
      have hst:jQ cp (p8++st):=by
       have:rD cp s0 l0 B (i+1) (cO (p8++st),(bu (cO ps,kvs) (i+1)).2):=by rw[e8];exact hOn
       exact this.stq (hLi (i+1) (by (clear hB0 hm hk0 h50 him hki hkn hp0;lia))) (hBi (i+1) (by (clear hB0 hm hk0 h50 him hki hkn hp0;lia)))
      refine⟨l,p2,p8,st,rfl,n2l,k8 l _ dl.symm g7l,hp2,hR8,hst,λG9 hl9 hk9=>?_⟩;have d8:G8 d=some (.dic (bu (cO ps,kvs) (i+1)).2):=by rw[hnx];exact hd8
      have k9:∀x g,x≠l->x≠d->G6 x=some g->G9 x=some g:=λx g xl xd e=>(hk9 x xl).trans (k8 x g xd ((k7 x xl).trans e));have hd9:G9 d=some (.dic (bu (cO ps,kvs) (i+1)).2):=(hk9 d dl).trans d8;have hro9:Rows C G9 (p8++st):=λx hx=>by
       have I9:cJ G8 G9:=cJ.but (p:=l) (λx g xl e=>(hk9 x xl).trans e) (λC' y fs e=>by rw[k8 l _ dl.symm g7l] at e;cases e);rcases mem_append.mp hx with hx | hx
       ·exact(hR8 x hx).mono I9
       ·exact(hro x hx).mono I9
      clear hk9 k8 hd8 d8 hR8 hro I8 hp2 fp2 n2l k7 g7l I7;have hF9:=k9 F0 _ S1.lF.symm dF.symm S1.hF;subst hU1;walk_at "R";refine⟨⟨_,hF9⟩,l,d,p8++st,_,rfl,hl9,hd9,hid2,by (clear hB0 hk0 h50 hki hp0;lia),λp4 G10 le10 fp4 hp4=>⟨_,le10 _ _ hF9,by rw[oZ];(clear hB0 hm hk0 h50 h5 hki hkn hp0;lia),?_⟩⟩;have efo:=qk (cO ps,kvs) 0 ds p4;rw[show 0+ds.length=i+1 by (clear hB0 hm hk0 h50 h5 him hki hkn hp0;lia),←e8] at efo;rw[←efo];have n4d:p4≠d:=λz=>by rw[z,hd9] at fp4;cases fp4
      have n4l:p4≠l:=λz=>by rw[z,hl9] at fp4;cases fp4
      have n4F:p4≠F0:=λz=>by rw[z,hF9] at fp4;cases fp4
      subst hN;have I11:cJ G9 (aK G10 F0 (GO.lst (rE (cO ps,kvs) 0 (ds++[p4])))):=cJ.but (p:=F0) (λx g xF e=>(ap xF).trans (le10 _ _ e)) (λC' y fs e=>by rw[hF9] at e;cases e);refine⟨ds++[p4],p8++st,_,S1.next (λx g xl xd xF e=>(ap xF).trans (le10 _ _ (k9 x g xl xd e))) ((ap S1.lF).trans (le10 _ _ hl9)) e8 (hro9.mono I11) ((ap dF).trans (le10 _ _ hd9)) ah ((ap n4F).trans hp4) ?_ n4d (by rw[hrun];exact List.cons_ne_nil _ _) (by rw[hbad];exact hno),rfl⟩;cases e:G6 p4 with
      | none=>rfl
      | some g=>rw[k9 p4 g n4l n4d e] at fp4;cases fp4
    ·rw[ybv h5];exact fin (.inr (by lia))
theorem uM {a x:O} {n:Int} {i j k:Nat} {τ:cT} {G:Gp} {q:WK} (hx:a.getP i=some (x,n)) (h1:τ[j]?=some (some (.tup (ao a)))) (h2:τ[k]?=some (some (.int (i:Int)))) (hq:q (.tup (ao x)) G):fS cX (fS cX (cP j) (cP k)) (wC (.int 0)) τ G q:=by
 simp only[fS,cP,h1,h2,cX,mS,vH,wC];refine⟨_,eM hx,?_⟩;exact⟨_,rfl,hq⟩
theorem yk {a x:O} {n:Int} {i j k:Nat} {τ:cT} {G:Gp} {q:WK} (hx:a.getP i=some (x,n)) (h1:τ[j]?=some (some (.tup (ao a)))) (h2:τ[k]?=some (some (.int (i:Int)))) (hq:q (.int n) G):fS cX (fS cX (cP j) (cP k)) (wC (.int 1)) τ G q:=by
 simp only[fS,cP,h1,h2,cX,mS,vH,wC];refine⟨_,eM hx,?_⟩;exact⟨_,rfl,hq⟩
noncomputable def Aw:bV:=λws G q _=>∃a b:O,ws=[.tup (ao a),.tup (ao b)]/\a.dp<=60/\a.len<=1000/\b.len<=1000/\q (.tup (ao (O.mergeO a b))) G
theorem EY (F:cz K "merged" "merged" (aN 16) f fd) (F1:Fx P w K mg base "compare" ["a","b"] 1 rA) (ml:mg "len"=none) (mt:mg "tuple"=none):cc P w K mg base 2 f fd ["a","b"] Aw:=by
 refine dy F (N:=["a","b","parts","i","j","order"]) (by walk_at "s") (by walk_at "l") λ_ _ _ _ _ _ nd hr=>?_;apply aM
 ·exact(ae (aG 2 nd rfl (.inl rfl) (bA ag)) (ae (aG 3 nd rfl (.inl rfl) af) (ae (aG 4 nd rfl (.inl rfl) af) (ae (fW PySem.PassesOwn.never (fU (dc (aE (iq hr) (aa 3) (bY dW rfl ml PySem.boot_len (ac (aa 0) ag))) (cC (aE (iq hr) (aa 4) (bY dW rfl ml PySem.boot_len (ac (aa 1) ag)))))) (ae (aG 5 nd rfl (.inl rfl) (aq F1 (av.mono hr (by lia)) rfl (ac (ax ay (ax ay (aa 0) (aa 3)) af) (ac (ax ay (ax ay (aa 1) (aa 4)) af) ag)))) (ae (aZ (aE sH (aa 5) af) (ae (cE (eA (aa 2) (ax ay (aa 0) (aa 3)))) ak) (ae (aZ (aE (iq hr) (aa 5) af) (ae (cE (eA (aa 2) (ax ay (aa 1) (aa 4)))) ak) (ae (cE (eA (aa 2) (aP (ac (ax ay (ax ay (aa 0) (aa 3)) af) (ac (aB bf (ax ay (ax ay (aa 0) (aa 3)) af) (ax ay (ax ay (aa 1) (aa 4)) af)) ag))))) ak)) ak)) (ae (aZ (aE zk (aa 5) af) (ae (aG 3 nd rfl (.inl rfl) (aB bf (aa 3) af)) ak) ak) (ae (aZ (aE zh (aa 5) af) (ae (aG 4 nd rfl (.inl rfl) (aB bf (aa 4) af)) ak) ak) ak))))) (ae (aA (aB bf (aB bf (bL ez rfl mt eF (ac (aa 2) ag)) (bo (aa 0) (bG (aa 3)) bO)) (bo (aa 1) (bG (aa 4)) bO))) ak)))))
 ·rintro ws G q e ⟨a,b,rfl,hx,hl,hl2,hq⟩;walk_at "a0";intro p hp;walk_at "a";walk_at "a";subst hU;refine aF λU hU=>?_;refine oG (λm τ G'=>∃(i j:Nat) (ws:List W) (t5:Option W),τ=[some (.tup (ao a)),some (.tup (ao b)),some (.ref p),some (.int (i:Int)),some (.int (j:Int)),t5]/\G' p=some (.lst ws)/\aC G G'/\ws++ao (O.mergeO (O.dropO i a) (O.dropO j b))=ao (O.mergeO a b)/\i<=a.len/\j<=b.len/\ws.length<=i+j/\m=a.len-i+(b.len-j))
   ⟨_,0,0,[],none,rfl,ah,aC.new hp,rfl,zero_le _,zero_le _,zero_le _,rfl⟩ ?_
  rintro m τ G' ⟨i,j,ws,t5,rfl,hG,le,hw,hi,hj,hwl,rfl⟩ B hB;walk_at "R";rw[aQ,aQ];have fin:(a.len<=i∨b.len<=j)->U { nx:=λx G1=>∃G0,aC G0 G1/\q W.non G0,rt:=λw G1=>∃G0,aC G0 G1/\q w G0 } [some (.tup (ao a)),some (.tup (ao b)),some (.ref p),some (.int (i:Int)),some (.int (j:Int)),t5] G':=λhend=>by
   subst hU;walk_at "R";rw[d9,d9,gW,gW];have la:=O.len_dropO i a;have lb:=O.len_dropO j b;refine⟨ws,hG,by rw[aQ];lia,by rw[length_append,aQ,aQ];lia,G,le,?_⟩;rcases hend with h | h
   ·rw[O.dropO_len h,O.z_merge] at hw;rw[O.dropO_len h];simp only[oC,append_nil];rw[hw];exact hq
   ·rw[O.dropO_len h,O.merge_z] at hw;rw[O.dropO_len h];simp only[oC,append_nil];rw[hw];exact hq
  split
  ·rename_i h1;split
   ·rename_i h2;refine⟨λτ1 G1=>∃(i' j':Nat) (ws:List W) (t5:Option W),τ1=[some (.tup (ao a)),some (.tup (ao b)),some (.ref p),some (.int (i':Int)),some (.int (j':Int)),t5]/\G1 p=some (.lst ws)/\aC G G1/\ws++ao (O.mergeO (O.dropO i' a) (O.dropO j' b))=ao (O.mergeO a b)/\i'<=a.len/\j'<=b.len/\ws.length<=i'+j'/\a.len-i'+(b.len-j')<a.len-i+(b.len-j),?_,?_⟩
    ·rintro τ1 G1 ⟨i',j',ws',t5',rfl,k1,k2,k3,k4,k5,k6,k7⟩;exact⟨_,k7,i',j',ws',t5',rfl,k1,k2,k3,k4,k5,k6,rfl⟩
    ·obtain⟨y,n,hp1⟩:=O.getP_some (a:=a) (i:=i) (by (clear hx hl hl2 hi hj hwl h2;lia));obtain⟨y',n',hp2⟩:=O.getP_some (a:=b) (i:=j) (by (clear hx hl hl2 hi hj hwl h1;lia));have hs:=O.getP_size hp1;have hA:=eM hp1;have hBt:=eM hp2;have le':∀g,aC G (aK G' p g):=λg a' g' ea=>by
      rw[ap (λz=>by rw[z,hp] at ea;cases ea)];exact le a' g' ea
     rw[O.dropO_get hp1,O.dropO_get hp2,O.merge_c] at hw;subst hB;generalize hA0:fS cX (fS cX (cP 0) (cP 3)) (wC (W.int 0))=A0;generalize hA1:fS cX (fS cX (cP 0) (cP 3)) (wC (W.int 1))=A1;generalize hB0:fS cX (fS cX (cP 1) (cP 4)) (wC (W.int 0))=B0;generalize hB1:fS cX (fS cX (cP 1) (cP 4)) (wC (W.int 1))=B1;have fA0:∀(t5:Option W) (q:WK),q (.tup (ao y)) G'->A0 [some (.tup (ao a)),some (.tup (ao b)),some (.ref p),some (.int (i:Int)),some (.int (j:Int)),t5] G' q:=λt5 q h=>hA0▸uM hp1 rfl rfl h;have fA1:∀(t5:Option W) (q:WK),q (.int n) G'->A1 [some (.tup (ao a)),some (.tup (ao b)),some (.ref p),some (.int (i:Int)),some (.int (j:Int)),t5] G' q:=λt5 q h=>hA1▸yk hp1 rfl rfl h;have fB0:∀(t5:Option W) (q:WK),q (.tup (ao y')) G'->B0 [some (.tup (ao a)),some (.tup (ao b)),some (.ref p),some (.int (i:Int)),some (.int (j:Int)),t5] G' q:=λt5 q h=>hB0▸uM hp2 rfl rfl h;have fB1:∀(t5:Option W) (q:WK),q (.int n') G'->B1 [some (.tup (ao a)),some (.tup (ao b)),some (.ref p),some (.int (i:Int)),some (.int (j:Int)),t5] G' q:=λt5 q h=>hB1▸yk hp2 rfl rfl h;clear hA0 hA1 hB0 hB1;refine aF λU1 hU1=>?_;walk_at "R";refine fA0 _ _ (fB0 _ _ ?_);refine⟨y,y',rfl,by (clear hl hl2 hi hj hwl h1 h2 hw;lia),?_⟩;walk_at "b"
     by_cases c1:0<O.cmp y y'
     ·rw[ycx c1] at hw ⊢;rw[bJ] at hw;refine⟨⟨_,hG⟩,_,hA,ws,hG,by lia,?_⟩;walk_at "b";rw[ycx (by (clear hx hl hl2 hi hj hwl h1 h2 hs;lia))];subst hU1;walk_at "R";rw[ybv (by (clear hx hl hl2 hi hj hwl h1 h2 hs;lia))];exact⟨i+1,j,ws++[fL y n],_,rfl,ah,le' _,by rw[append_assoc,O.dropO_get hp2];exact hw,by (clear hx hl hl2 hi hj hwl h2 hs c1;lia),hj,by simp;(clear hx hl hl2 hi hj h1 h2 hs c1;lia),by (clear hx hl hl2 hi hj hwl hs c1;lia)⟩
     ·rw[ybv c1] at hw ⊢
      by_cases c2:O.cmp y y'<0
      ·rw[ycx c2] at hw ⊢;rw[bJ] at hw;refine⟨⟨_,hG⟩,_,hBt,ws,hG,by (clear hx hi hj hs c1 c2;lia),?_⟩;walk_at "b";rw[ybv (by (clear hx hl hl2 hi hj hwl h1 h2 hs c1;lia))];subst hU1;walk_at "R";rw[ycx (by (clear hx hl hl2 hi hj hwl h1 h2 hs c1;lia))];exact⟨i,j+1,ws++[fL y' n'],_,rfl,ah,le' _,by rw[append_assoc,O.dropO_get hp1];exact hw,hi,by (clear hx hl hl2 hi hj hwl h1 hs c1 c2;lia),by simp;(clear hx hl hl2 hi hj h1 h2 hs c1 c2;lia),by (clear hx hl hl2 hi hj hwl h1 hs c1 c2;lia)⟩
      ·rw[ybv c2] at hw ⊢;rw[bJ] at hw;refine⟨⟨_,hG⟩,fA0 _ _ (fA1 _ _ (fB1 _ _ ?_))⟩;walk_at "R";refine⟨ws,hG,by (clear hx hi hj hs c1 c2;lia),?_⟩;walk_at "b";rw[ycx (by (clear hx hl hl2 hi hj hwl h1 h2 hs;lia))];subst hU1;walk_at "R";rw[ycx (by (clear hx hl hl2 hi hj hwl h1 h2 hs;lia))];exact⟨i+1,j+1,ws++[fL y (n+n')],_,rfl,ah,le' _,by rw[append_assoc];exact hw,by (clear hx hl hl2 hi hj hwl h2 hs c1 c2;lia),by (clear hx hl hl2 hi hj hwl h1 hs c1 c2;lia),by simp;(clear hx hl hl2 hi hj h1 h2 hs c1 c2;lia),by (clear hx hl hl2 hi hj hwl hs c1 c2;lia)⟩
   ·exact fin (.inr (by (clear hx hl hl2 hi hwl h1;lia)))
  ·exact fin (.inl (by (clear hx hl hl2 hj hwl;lia)))
noncomputable def Ct:bV:=λws G q _=>∃(ns:List Int) (k:Int),ws=[.scr ns,.int k]/\0<=k/\∀v:Int,q (.int v) G
theorem EZ (F:cz K "_law_cell_at" "_law_cell_at" (aN 38) f fd) (ml:mg "len"=none):cc P w K mg base 1 f fd ["_law_script","_law_k"] Ct:=by
 refine dy F (N:=["_law_script","_law_k"]) (by walk_at "s") (by walk_at "l") λ_ _ _ _ _ _ nd hr=>?_;apply aM
 ·exact(ae (aZ (aE (iq hr) (aa 1) (bY dW rfl ml PySem.boot_len (ac (aa 0) ag))) (ae (aA (ax ay (aa 0) (aa 1))) ak) ak) (ae (aA af) ak))
 ·rintro ws G q e ⟨ns,k,rfl,hk,hq⟩;walk_at "R";split
  ·obtain⟨n,hn⟩:=wv (ns:=ns) (i:=k) hk (by assumption);exact⟨n,hn,aC.done (hq n)⟩
  ·exact aC.done (hq 0)
noncomputable def Ax:bV:=λws G q _=>∃c:Int,ws=[.int c]/\∀v:Int,0<=v->v<=10^50->q (.int v) G
theorem E1 (F:cz K "_law_amount" "_law_amount" (aN 39) f fd):cc P w K mg base 1 f fd ["_law_cell"] Ax:=by
 refine dy F (N:=["_law_cell"]) (by walk_at "s") (by walk_at "l") λ_ _ _ _ _ _ nd hr=>?_;apply aM
 ·exact(ae (aZ (aE (bw hr) (aB bZ (aa 0) af) af) (ae (aA (aB bZ (aB bT (aa 0) af) (aB jf af af))) ak) ak) (ae (aA (aB bZ (aB bT (aa 0) af) af)) ak))
 ·rintro ws G q e ⟨c,rfl,hq⟩;walk_at "R";refine gl (λh=>?_) (λh=>?_)
  ·exact aC.done (hq _ (Int.emod_nonneg _ (by decide)) (Int.le_of_lt (Int.emod_lt_of_pos _ (by decide))))
  ·have h1:=Int.emod_lt_of_pos (c/5) (b:=5) (by decide);exact aC.done (hq _ (Int.emod_nonneg _ (by decide)) (by lia))
structure ql (o:O):Prop where
 nf:o.NF
 dp:o.dp<=3
 hw:O.hw o<=3
 mx:O.mx o<=10^20
theorem ql.wh {n:Int} (h0:0<=n) (h1:n<=10^20):ql (O.wh n):=by
 have x:=Wb.wh h0;have:=x.mx;exact⟨x.nf,x.dp,ybz x.hw (by decide),by lia⟩
structure Cu (t:O):Prop where
 nf:t.NF
 dp:t.dp<=2
 hw:O.hw t<=1
 mx:O.mx t<=2
 ne:O.cmp .z t<0
theorem Ay (n:Int):∃t:O,dM [W.tup [.tup [.tup [],.int 1]],.tup [.tup [.tup [],.int 2]],.tup [.tup [.tup [.tup [.tup [],.int 1]],.int 1]]] (n/4%3)=some (.tup (ao t))/\Cu t:=by
 have h:n/4%3=0∨n/4%3=1∨n/4%3=2:=by lia
 rcases h with h | h | h<;> rw[h]
 ·exact⟨O.wh 1,rfl,O.NF.wh (by decide),by decide,by decide,by decide,by decide⟩
 ·exact⟨O.wh 2,rfl,O.NF.wh (by decide),by decide,by decide,by decide,by decide⟩
 ·exact⟨om,rfl,pQ,by decide,by decide,by decide,by decide⟩
theorem Cu.one {t:O} (h:Cu t) {n:Int} (h0:1<=n) (h1:n<=10^9):ql (.c t n .z):=by
 have a:=h.dp;have b:=h.hw;have c:=h.mx;refine⟨⟨h.nf,h0,trivial,trivial⟩,?_,?_,?_⟩
 ·show max (t.dp+1) 0<=3;lia
 ·rw[O.hw_c];show max (0+1) (max (O.hw t) 0)<=3;lia
 ·rw[O.mx_c];show max n (max (O.mx t) 0)<=_;lia
theorem Cu.two {t:O} (h:Cu t) {n m:Int} (h0:1<=n) (h1:n<=10^9) (m0:1<=m) (m1:m<=7):ql (.c t n (.c .z m .z)):=by
 have a:=h.dp;have b:=h.hw;have c:=h.mx;refine⟨⟨h.nf,h0,⟨h.ne,trivial⟩,trivial,m0,trivial,trivial⟩,?_,?_,?_⟩
 ·show max (t.dp+1) (max (0+1) 0)<=3;(clear h0 h1 m0 m1 b c;lia)
 ·rw[O.hw_c,O.hw_c];show max (0+1+1) (max (O.hw t) (max (0+1) (max 0 0)))<=3;(clear h0 h1 m0 m1 a c;lia)
 ·rw[O.mx_c,O.mx_c];show max n (max (O.mx t) (max m (max 0 0)))<=_;lia
noncomputable def Cv:bV:=λws G q _=>∃n:Int,ws=[.int n]/\∀o:O,ql o->q (.tup (ao o)) G
theorem E2 (F:cz K "_law_exponent" "_law_exponent" (aN 40) f fd) (F1:Fx P w K mg base "whole" ["n"] 3 ia):cc P w K mg base 5 f fd ["_law_number"] Cv:=by
 refine dy F (N:=["_law_number","_law_one","_law_top","_law_found"]) (by walk_at "s") (by walk_at "l") λ_ _ _ _ _ _ nd hr=>?_;apply aM
 ·exact(ae (aZ (aE (bw hr) (aB bZ (aa 0) af) af) (ae (aA (aq F1 (av.mono hr (by lia)) rfl (ac (aB bZ (aB bT (aa 0) af) af) ag))) ak) ak) (ae (aZ (aE (bw hr) (aB bZ (aa 0) af) af) (ae (aA (aq F1 (av.mono hr (by lia)) rfl (ac (aB bZ (aB bT (aa 0) af) (aB jf af af)) ag))) ak) ak) (ae (aG 1 nd rfl (.inl rfl) (aP (ac (aP (ac (aP ag) (ac af ag))) ag))) (ae (aG 2 nd rfl (.inl rfl) (ax ay (bA (ac (aa 1) (ac (aP (ac (aP (ac (aP ag) (ac af ag))) ag)) (ac (aP (ac (aP (ac (aa 1) (ac af ag))) ag)) ag)))) (aB bZ (aB bT (aa 0) af) af))) (ae (aG 3 nd rfl (.inl rfl) (aP (ac (aP (ac (aa 2) (ac (aB bf af (aB bZ (aB bT (aa 0) af) (aB jf af af))) ag))) ag))) (ae (aZ (aE (bw hr) (aB bZ (aa 0) af) af) (ae (aG 3 nd rfl (.inl rfl) (aB bf (aa 3) (aP (ac (aP (ac (aP ag) (ac (aB bf af (aB bZ (aB bT (aa 0) af) af)) ag))) ag)))) ak) ak) (ae (aA (aa 3)) ak)))))))
 ·rintro ws G q e ⟨n,rfl,hq⟩;have m5:∀a:Int,0<=a%5/\a%5<=10^20:=λa=>by lia
  have m20:∀a:Int,0<=a%10^20/\a%10^20<=10^20:=λa=>by lia
  walk_at "a0"
  by_cases h4:n%4=0
  ·rw[ycx h4];have:=m5 (n/4);exact⟨_,rfl,this.1,aC.done (hq _ (.wh this.1 this.2))⟩
  rw[ybv h4];walk_at "a"
  by_cases h1:n%4=1
  ·rw[ycx h1];have:=m20 (n/4);exact⟨_,rfl,this.1,aC.done (hq _ (.wh this.1 this.2))⟩
  rw[ybv h1];walk_at "a";walk_at "a";intro p hp;obtain⟨t,ht,tok⟩:=Ay n;refine⟨_,_,ah,ht,?_⟩;have le:=aC.new (g:=GO.lst [W.tup [.tup [.tup [],.int 1]],.tup [.tup [.tup [],.int 2]],.tup [.tup [.tup [.tup [.tup [],.int 1]],.int 1]]]) hp;generalize aK G p (GO.lst [W.tup [.tup [.tup [],.int 1]],.tup [.tup [.tup [],.int 2]],.tup [.tup [.tup [.tup [.tup [],.int 1]],.int 1]]])=G1 at le ⊢;walk_at "a";have v1:1<=1+n/12%1000000000/\1+n/12%1000000000<=10^9:=by lia
  generalize 1+n/12%1000000000=v at v1 ⊢;walk_at "a"
  by_cases h2:n%4=2
  ·rw[ycx h2];subst hU;walk_at "R";exact⟨G,le,hq _ (tok.two (m:=1+n/12%7) v1.1 v1.2 (by lia) (by lia))⟩
  ·rw[ybv h2];subst hU;walk_at "R";exact⟨G,le,hq _ (tok.one v1.1 v1.2)⟩
noncomputable def ym (ms:List (O×Str)):Prop:=ms.length<=5/\∀m,m∈ms->ql m.1
theorem Cw:ql (.c (O.wh 3) 1 .z):=⟨⟨O.NF.wh (by decide),by decide,trivial,trivial⟩,by decide,by decide,by decide+kernel⟩
noncomputable def Cy:bV:=λws G q _=>∃(c:Int) (b:Str) (pn:Addr) (names:List Str),ws=[.int c,.str b,.ref pn]/\G pn=some (.lst (u6 names))/\names.length=4/\∀(p:Addr) (G':Gp) (ms:List (O×Str)),aC G G'->G p=none->G' p=some (.lst (gz ms))->ym ms->q (.ref p) G'
theorem E3 (F:cz K "_law_marks" "_law_marks" (aN 41) f fd) (F1:Fx P w K mg base "_law_exponent" ["_law_number"] 5 Cv) (F2:Fx P w K mg base "whole" ["n"] 3 ia) (mr:mg "range"=none):cc P w K mg base 6 f fd ["_law_cell","_law_box","_law_names"] Cy:=by
 refine dy F (N:=["_law_cell","_law_box","_law_names","_law_marks_here","_law_k","_law_number"]) (by walk_at "s") (by walk_at "l") λ_ _ _ _ _ _ nd hr=>?_;apply aM
 ·exact(ae (aG 3 nd rfl (.inl rfl) (bA ag)) (ae (dQ PySem.PassesOwn.never rfl (mv rfl mr (ac (aB bZ (aa 0) af) ag)) (ci 4 nd rfl (.inl rfl)) (ae (aG 5 nd rfl (.inl rfl) (aB bZ (aB tX (aB bT (aa 0) af) af) (ax ay (bA (ac (aB bf (aB jf af af) af) (ac af (ac af (ac af (ac (aB bf (aB jf af af) af) ag)))))) (aa 4)))) (ae (aZ (fU (dc (aE (bw hr) (aa 4) af) (cC (aE (bw hr) (aB bZ (aB bT (aa 0) af) af) af)))) (ae (cE (eA (aa 3) (aP (ac (aP (ac (aP (ac (aq F2 (av.mono hr (by lia)) rfl (ac af ag)) (ac af ag))) ag)) (ac (aa 1) ag))))) ak) (ae (cE (eA (aa 3) (aP (ac (aq F1 (av.mono hr (by lia)) rfl (ac (aa 5) ag)) (ac (ax ay (aa 2) (aB bZ (aB bT (aa 5) af) af)) ag))))) ak)) ak))) (ae (aA (aa 3)) ak)))
 ·rintro ws G q e ⟨c,b,pn,names,rfl,hn,hn4,hq⟩;have hlen:(u6 names).length=names.length:=length_map ..;walk_at "a0";intro p hp;walk_at "a";refine⟨by lia,by lia,?_⟩;have hc3:(c%6).toNat<=5:=by lia
  refine pY _ (λ(i:Nat) (τ:cT) (G':Gp)=>∃(ms:List (O×Str)) (t1 t2:Option W),τ=[some (.int c),some (.str b),some (.ref pn),some (.ref p),t1,t2]/\ms.length=i/\(∀m,m∈ms->ql m.1)/\G' p=some (.lst (gz ms))/\aC G G') ⟨[],none,none,rfl,rfl,λ_ h=>(nomatch h),ah,aC.new hp⟩ ?_ ?_
  ·rintro τ G' ⟨ms,t1,t2,rfl,h1,h2,h3,h4⟩;refine⟨trivial,?_⟩;subst hU;walk_at "R";exact aC.done (hq p G' ms h4 hp h3 ⟨by lia,h2⟩)
  ·rintro i τ G' k hi ⟨ms,t1,t2,rfl,h1,h2,h3,h4⟩ hk;refine⟨trivial,?_⟩;have hi3:i<5:=by lia
   walk_at "a0";intro p1 hp1;have hm:∃m:Int,dM [W.int (1000000000000000000000000000000+57),.int 2147483647,.int 1000000007,.int 998244353,.int (100000000000000000000+39)] (i:Int)=some (.int m)/\0<m:=by
    have h:i=0∨i=1∨i=2∨i=3∨i=4:=by (clear hn4 hlen hc3 hi;lia)
    rcases h with rfl | rfl | rfl | rfl | rfl
    ·exact⟨_,rfl,by decide⟩
    ·exact⟨_,rfl,by decide⟩
    ·exact⟨_,rfl,by decide⟩
    ·exact⟨_,rfl,by decide⟩
    ·exact⟨_,rfl,by decide⟩
   obtain⟨m,hm1,hm2⟩:=hm;refine⟨_,.int m,ah,hm1,?_⟩;have n1:p≠p1:=λz=>by rw[←z,h3] at hp1;cases hp1
   have h3':=(ap (g:=GO.lst [W.int (1000000000000000000000000000000+57),W.int 2147483647,W.int 1000000007,W.int 998244353,W.int (100000000000000000000+39)]) n1).trans h3;have h4':=h4.trans (aC.new (g:=GO.lst [W.int (1000000000000000000000000000000+57),W.int 2147483647,W.int 1000000007,W.int 998244353,W.int (100000000000000000000+39)]) hp1);generalize aK G' p1 (GO.lst [W.int (1000000000000000000000000000000+57),W.int 2147483647,W.int 1000000007,W.int 998244353,W.int (100000000000000000000+39)])=G2 at h3' h4' ⊢;simp only[zg];refine⟨by assumption,?_⟩;subst hU;dsimp only;generalize (c/8*48271)%m=v;have fin:∀(o:O) (x:Str),ql o->k [some (.int c),some (.str b),some (.ref pn),some (.ref p),some (.int (i:Int)),some (.int v)] (aK G2 p (.lst (gz ms++[.tup [.tup (ao o),.str x]]))):=λo x ho=>by
    refine hk _ _ ⟨ms++[(o,x)],_,_,rfl,by rw[length_append,h1];rfl,λm hm=>?_,?_,λa g e=>?_⟩
    ·rcases mem_append.mp hm with hm | hm
     ·exact h2 m hm
     ·rw[mem_singleton.mp hm];exact ho
    ·rw[ah];simp only[gz,map_append,map_cons,map_nil]
    ·rw[ap (λz=>by rw[z,hp] at e;cases e)];exact h4' _ _ e
   have gn:=h4' _ _ hn;have vm:=jm (i:=v/5) (j:=4) (by (clear hn4 hlen hc3 hi h1 hi3 hm2;lia));obtain⟨x,hx,_⟩:=lr (L:=names) (i:=v/5%4) vm.1 (by (clear hlen hc3 hi h1 hi3 hm2;lia));walk_at "R";refine gl (λ_=>gl (λ_=>?_) λ_=>?_) λ_=>?_
   ·exact⟨⟨_,h3'⟩,3,rfl,by decide,_,h3',by rw[length_map];(clear hn4 hlen hc3 hi hi3 hm2 vm;lia),fin _ b Cw⟩
   ·exact⟨⟨_,h3'⟩,v,rfl,λo ho=>⟨_,_,gn,hx,_,h3',by rw[length_map];(clear hn4 hlen hc3 hi hi3 hm2 vm;lia),fin o x ho⟩⟩
   ·exact⟨⟨_,h3'⟩,v,rfl,λo ho=>⟨_,_,gn,hx,_,h3',by rw[length_map];(clear hn4 hlen hc3 hi hm2 vm;lia),fin o x ho⟩⟩
mutual
inductive Th (G:Gp):W->Row->Prop where
 | set {b o:Str} {n:Int}:Th G (.tup [.str "set",.str b,.str o,.int n]) (.set b n)
 | copy {b o:Str} {n:Int}:Th G (.tup [.str "copy",.str b,.str o,.int n]) (.copy b o)
 | add {b o:Str} {n:Int}:Th G (.tup [.str "add",.str b,.str o,.int n]) (.add b o)
 | less {b o:Str} {n:Int}:Th G (.tup [.str "less",.str b,.str o,.int n]) (.less b)
 | times {b:Str} {l:Addr} {ws:List W} {rs:aU Str} (h:G l=some (.lst ws)) (hs:jG G ws rs):Th G (.tup [.str "times",.str b,.ref l]) (.times b rs)
 | whl {b:Str} {l m:Addr} {ms:List (O×Str)} {ws:List W} {rs:aU Str} (h:G l=some (.lst ws)) (hm:G m=some (.lst (gz ms))) (ok:ym ms) (hs:jG G ws rs):Th G (.tup [.str "while",.str b,.ref l,.ref m,.non]) (.whl b (cr ms) rs)
 | bear {b:Str} {l m:Addr} {ms:List (O×Str)} {ws:List W} {rs:aU Str} {o:O} (h:G l=some (.lst ws)) (hm:G m=some (.lst (gz ms))) (ok:ym ms) (hs:jG G ws rs):Th G (.tup [.str "while",.str b,.ref l,.ref m,.tup (ao o)]) (.bear b (cr ms) rs o)
 | count {n:Int} {l:Addr} {ws:List W} {rs:aU Str} (h:G l=some (.lst ws)) (hs:jG G ws rs):Th G (.tup [.str "count",.int n,.ref l]) (.count rs n)
inductive jG (G:Gp):List W->aU Str->Prop where
 | nil:jG G [] .nil
 | cons {w:W} {ws:List W} {r:Row} {rs:aU Str} (h:Th G w r) (hs:jG G ws rs):jG G (w::ws) (.cons r rs)
end
noncomputable def uN (G G':Gp):Prop:=∀a ws,G a=some (.lst ws)->G' a=some (.lst ws)
theorem aC.ls {G G':Gp} (h:aC G G'):uN G G':=λ_ _ e=>h _ _ e
mutual
theorem Th.mono {G G':Gp} (l:uN G G'):∀{w:W} {r:Row},Th G w r->Th G' w r
 | _,_,.set=> .set
 | _,_,.copy=> .copy
 | _,_,.add=> .add
 | _,_,.less=> .less
 | _,_,.times h hs=> .times (l _ _ h) (jG.mono l hs)
 | _,_,.whl h hm ok hs=> .whl (l _ _ h) (l _ _ hm) ok (jG.mono l hs)
 | _,_,.bear h hm ok hs=> .bear (l _ _ h) (l _ _ hm) ok (jG.mono l hs)
 | _,_,.count h hs=> .count (l _ _ h) (jG.mono l hs)
theorem jG.mono {G G':Gp} (l:uN G G'):∀{ws:List W} {rs:aU Str},jG G ws rs->jG G' ws rs
 | _,_,.nil=> .nil
 | _,_,.cons h hs=> .cons (Th.mono l h) (jG.mono l hs)
end
noncomputable abbrev cA (ps:List (W×Row)):List W:=ps.map (·.1)
noncomputable abbrev bE (ps:List (W×Row)):List Row:=ps.map (·.2)
noncomputable def bH (G:Gp) (ps:List (W×Row)):Prop:=∀p,p∈ps->Th G p.1 p.2
theorem bH.mono {G G':Gp} {ps:List (W×Row)} (h:bH G ps) (l:uN G G'):bH G' ps:=λp hp=>(h p hp).mono l
theorem jG.psq {G:Gp}:∀{ws:List W} {rs:aU Str},jG G ws rs->∃ps,ws=cA ps/\rs.L=bE ps/\bH G ps
 | _,_,.nil=>⟨[],rfl,rfl,λ_ h=>(nomatch h)⟩
 | _,_,.cons (w:=a) (r:=r) h hs=>by
   obtain⟨ps,h1,h2,h3⟩:=jG.psq hs;refine⟨(a,r)::ps,by rw[h1];rfl,by rw[aU.L,h2];rfl,λp hp=>?_⟩;rcases mem_cons.mp hp with rfl | hp
   ·exact h
   ·exact h3 p hp
theorem bH.ths {G:Gp}:∀{ps:List (W×Row)},bH G ps->jG G (cA ps) (aU.of (bE ps))
 | [],_=> .nil
 | p::ps,h=> .cons (h p yaz) (bH.ths λx hx=>h x (yay _ hx))
mutual
noncomputable def rJ (B:Int):Row->Prop
 | .set _ n=>0<=n/\n<=B
 | .times _ rs=>ib B rs/\rs.L.length<=4
 | .whl _ hs rs=>ib B rs/\rs.L.length<=4/\∃ms,ym ms/\hs=cr ms
 | .count _ _=>False
 | .bear _ _ _ _=>False
 | _=>True
noncomputable def ib (B:Int):aU Str->Prop
 | .nil=>True
 | .cons r rs=>rJ B r/\ib B rs
end
mutual
noncomputable def tz:Row->Nat
 | .times _ rs=>fM rs+1
 | .whl _ _ rs=>fM rs+1
 | _=>1
noncomputable def fM:aU Str->Nat
 | .nil=>0
 | .cons r rs=>fM rs+tz r
end
theorem jD {B:Int}:∀{rs:aU Str},ib B rs->∀r,r∈rs.L->rJ B r
 | .nil,_,r,h=>(nomatch h)
 | .cons r0 rs,x,r,h=>by
   rcases mem_cons.mp h with rfl | h
   ·exact x.1
   ·exact jD x.2 r h
theorem lK {B:Int}:∀{rs:List Row},(∀r,r∈rs->rJ B r)->ib B (aU.of rs)
 | [],_=>trivial
 | r::rs,h=>⟨h r yaz,lK λx hx=>h x (yay _ hx)⟩
theorem ic:∀{rs:aU Str} {k:Nat},rs.dt<=k->∀r,r∈rs.L->r.dt<=k
 | .nil,_,_,r,h=>(nomatch h)
 | .cons r0 rs,k,x,r,h=>by
   have hx:=max_le.mp (show max r0.dt rs.dt<=k from x);rcases mem_cons.mp h with rfl | h
   ·exact hx.1
   ·exact ic hx.2 r h
theorem sw:∀{rs:List Row} {k:Nat},(∀r,r∈rs->r.dt<=k)->(aU.of rs).dt<=k
 | [],_,_=>zero_le _
 | r::rs,k,h=>max_le.mpr ⟨h r yaz,sw λx hx=>h x (yay _ hx)⟩
theorem uO:∀{rs:aU Str} (r:Row),r∈rs.L->tz r<=fM rs
 | .nil,r,h=>(nomatch h)
 | .cons r0 rs,r,h=>by
   rcases mem_cons.mp h with rfl | h
   ·exact Nat.le_add_left _ _
   ·exact ybz (uO r h) (Nat.le_add_right _ _)
theorem qm:∀rs:List Row,fM (aU.of rs)=(rs.map tz).sum
 | []=>rfl
 | r::rs=>by
   show fM (aU.of rs)+tz r=tz r+(rs.map tz).sum;rw[qm rs];lia
theorem o0 {ms:List (O×Str)} (h:ym ms):qV 3 (cr ms)/\O.hw (hpw (cr ms))<=5/\O.mx (hpw (cr ms))<=10^31:=by
 have hx:∀p,p∈cr ms->ql p.1:=λp hp=>by
  obtain⟨m,hm,e⟩:=mem_map.mp (lg hp);rw[←e];exact h.2 m hm
 refine⟨λp hp=>?_,?_⟩
 ·have y:=hx p hp;have:=y.hw;exact⟨y.nf,y.dp,by lia⟩
 ·generalize cr ms=hs at hx;cases hs with
  | nil=>exact⟨by decide,by decide⟩
  | cons p hs=>
    have y:=hx p yaz;have e1:=Wb.wh (n:=1) (by decide);have a1:=O.hw_plus p.1 (O.wh 1);have a2:=O.mx_plus (b:=O.wh 1) y.nf;have a3:=y.hw;have a4:=y.mx;have a5:=e1.hw;have a6:=e1.mx;have a7:((Int.toNat 1:Nat):Int)=1:=rfl;constructor
    ·show O.hw (.c (O.plusO p.1 (O.wh 1)) 1 .z)<=5;rw[O.hw_c];show max (0+1) (max (O.hw (O.plusO p.1 (O.wh 1))) 0)<=5;lia
    ·show O.mx (.c (O.plusO p.1 (O.wh 1)) 1 .z)<=10^31;rw[O.mx_c];show max 1 (max (O.mx (O.plusO p.1 (O.wh 1))) 0)<=10^31;lia
noncomputable def BB:Nat:=10^32
theorem Az (k:Nat):1<=BB^k:=Nat.one_le_pow _ _ (by unfold BB;omega)
theorem uP {t m X d:Nat} (h:m<=4*t*BB^d) (hX:X+2<=BB):(m+3)*(X+1)+1<=4*(t+1)*BB^ (d+1):=by
 have h1:(m+3)*(X+1)<=(4*t*BB^d+3)*(X+1):=Nat.mul_le_mul_right _ (by omega);have h2:(4*t*BB^d+3)*(X+1)=4*t*BB^d*(X+1)+3*(X+1):=Nat.add_mul ..;have h3:4*t*BB^d*(X+1)<=4*t*BB^d*BB:=Nat.mul_le_mul_left _ (by omega);have h4:4*(t+1)*BB^ (d+1)=4*t*BB^d*BB+4*(BB^d*BB):=by
  rw[Nat.pow_succ,Nat.mul_add,Nat.add_mul,Nat.mul_one]
  congr 1
  exact(Nat.mul_assoc ..).symm
 have h5:1*BB<=BB^d*BB:=Nat.mul_le_mul_right _ (Az d);omega
mutual
theorem Cz {B:Int}:∀r:Row,rJ B r->r.nn/\r.hb<=7*tz r/\r.mb<=4*tz r*BB^r.dt/\r.lb<=3*tz r
 | .set _ _,_=>⟨trivial,by show 1<=7*1;decide,by show 1<=4*1*BB^0;decide,by show 1<=3*1;decide⟩
 | .copy _ _,_=>⟨trivial,by show 1<=7*1;decide,by show 1<=4*1*BB^0;decide,by show 1<=3*1;decide⟩
 | .add _ _,_=>⟨trivial,by show 1<=7*1;decide,by show 1<=4*1*BB^0;decide,by show 1<=3*1;decide⟩
 | .less _,_=>⟨trivial,by show 1<=7*1;decide,by show 1<=4*1*BB^0;decide,by show 1<=3*1;decide⟩
 | .times _ rs,h=>by
   obtain⟨h1,h2,h3,h5⟩:=jE rs h.1;refine⟨h1,by show rs.hb+2<=7*(fM rs+1);omega,?_,by show 1<=3*(fM rs+1);omega⟩;have h4:=uP (X:=1) h3 (by unfold BB;omega);show(rs.mb+2)*2<=4*(fM rs+1)*BB^ (rs.dt+1);omega
 | .whl _ hs rs,h=>by
   obtain⟨h1,h2,h3,h5⟩:=jE rs h.1;obtain⟨_,_,ms,hm,rfl⟩:=h;obtain⟨m1,m2,m3⟩:=o0 hm;refine⟨⟨h1,m1⟩,by show rs.hb+O.hw (hpw (cr ms))+2<=7*(fM rs+1);omega,?_,?_⟩
   ·exact uP (X:=(O.mx (hpw (cr ms))).toNat) h3 (by unfold BB;omega)
   ·generalize cr ms=hs;cases hs with
    | nil=>show rs.lb+2<=3*(fM rs+1);omega
    | cons p hs=>show 2<=3*(fM rs+1);omega
theorem jE {B:Int}:∀rs:aU Str,ib B rs->rs.nn/\rs.hb<=7*fM rs/\rs.mb<=4*fM rs*BB^rs.dt/\rs.lb<=3*fM rs
 | .nil,_=>⟨trivial,zero_le _,zero_le _,zero_le _⟩
 | .cons r rs,h=>by
   obtain⟨a1,a2,a3,a4⟩:=Cz r h.1;obtain⟨b1,b2,b3,b4⟩:=jE rs h.2;refine⟨⟨a1,b1⟩,by show rs.hb+r.hb<=7*(fM rs+tz r);omega,?_,by show rs.lb+r.lb<=3*(fM rs+tz r);omega⟩;show rs.mb+r.mb<=4*(fM rs+tz r)*BB^ (max r.dt rs.dt);have p1:BB^r.dt<=BB^ (max r.dt rs.dt):=Nat.pow_le_pow_right (by unfold BB;(clear a2 a3 a4 b2 b3 b4;omega)) (le_max_left _ _);have p2:BB^rs.dt<=BB^ (max r.dt rs.dt):=Nat.pow_le_pow_right (by unfold BB;(clear a2 a3 a4 b2 b3 b4 p1;omega)) (le_max_right _ _);have q1:=Nat.mul_le_mul_left (4*tz r) p1;have q2:=Nat.mul_le_mul_left (4*fM rs) p2;rw[Nat.mul_add,Nat.add_mul]
   (clear a2 a4 b2 b4 p1 p2;omega)
end
theorem lL {B:Int} {rs:aU Str} (h:ib B rs) (h1:fM rs<=24) (h2:rs.dt<=3):Bd 72 rs/\jN rs:=by
 obtain⟨a1,a2,a3,a4⟩:=jE rs h;have p:=Nat.pow_le_pow_right (n:=BB) (by unfold BB;omega) h2;have q:=Nat.mul_le_mul (show 4*fM rs<=96 by omega) p;have e:96*BB^3<=10^100:=by unfold BB;decide+kernel
 have e2:(10:Nat)^100<=10^300:=by decide+kernel
 have hm:=ybz a3 (ybz q e);exact⟨⟨by (clear h2 a3 a4 p q e e2 hm;omega),hm,by (clear h2 a2 a3 p q e e2 hm;omega)⟩,⟨a1,by (clear h2 a3 a4 p q e e2 hm;omega),Int.ofNat_le.mpr (ybz hm e2)⟩⟩
theorem nF (o:O):∀l:List O,(insO o l).length<=l.length+1
 | []=>yby _
 | x::l=>by
   have:=nF o l;unfold insO;split
   ·simp only[length_cons];lia
   ·split
    ·simp only[length_cons];lia
    ·simp only[length_cons];lia
theorem ie:∀l:List O,(fb l).length<=l.length
 | []=>yby _
 | x::l=>by
   have:=ie l;have h:=nF x (fb l);show(insO x (fb l)).length<=l.length+1;lia
theorem rF (ms:List (O×Str)) (o:O):(cj ms o).length<=ms.length:=by
 unfold cj;rw[length_map];exact List.length_filter_le _ _
theorem AA {ms:List (O×Str)} (h:ym ms):Mk 72 (cr ms):=by
 obtain⟨m1,m2,m3⟩:=o0 h;have hl:(cr ms).length<=ms.length:=by
  unfold cr;have:=ie (ms.map (·.1));rw[length_map] at this ⊢;exact this
 have h5:=h.1;refine⟨m1,⟨by lia,λp hp=>?_,?_⟩,by lia,by lia,ydx m3 (by decide+kernel),λp hp=>?_⟩
 ·obtain⟨o,_,rfl⟩:=mem_map.mp hp;have:=rF ms o;show(cj ms o).length<=100;lia
 ·unfold cr;rw[map_map];show cW (List.map (λo=>o) (fb _));rw[List.map_id'];exact cR _
 ·obtain⟨m,hm,e⟩:=mem_map.mp (lg hp);rw[←e];exact ydx (h.2 m hm).mx (by decide+kernel)
mutual
theorem uQ {B:Int}:∀r:Row,rJ B r->tz r<=24->r.dt<=3->gr True 72 B r
 | .set _ _,h,_,_=>h
 | .copy _ _,_,_,_=>trivial
 | .add _ _,_,_,_=>trivial
 | .less _,_,_,_=>trivial
 | .times _ rs,h,h1,h2=>by
   have h1:fM rs+1<=24:=h1;have h2:rs.dt+1<=3:=h2;exact⟨iR rs h.1 (by lia) (by lia),(lL h.1 (by lia) (by lia)).1⟩
 | .whl _ hs rs,h,h1,h2=>by
   have h1:fM rs+1<=24:=h1;have h2:rs.dt+1<=3:=h2;refine⟨⟨iR rs h.1 (by lia) (by lia),(lL h.1 (by lia) (by lia)).1⟩,?_⟩;obtain⟨_,_,ms,hm,rfl⟩:=h;exact AA hm
theorem iR {B:Int}:∀rs:aU Str,ib B rs->fM rs<=24->rs.dt<=3->uG True 72 B rs
 | .nil,_,_,_=>trivial
 | .cons r rs,h,h1,h2=>by
   have h1:fM rs+tz r<=24:=h1;have h2:=max_le.mp (show max r.dt rs.dt<=3 from h2);exact⟨uQ r h.1 (by lia) h2.1,iR rs h.2 (by lia) h2.2⟩
end
noncomputable def xB (d:Nat):bV:=λws G q _=>∃(x:W) (r:Row) (B:Int),ws=[x]/\Th G x r/\rJ B r/\r.dt<d/\q (.int (r.dt:Nat)) G
theorem uR {rs:List Row} {q:Int->Prop} (hq:q ((aU.of rs).dt:Nat)):((rs.map λr=>((r.dt:Nat):Int))=[]->q 0)/\∀m:Int,m∈(rs.map λr=>((r.dt:Nat):Int))->(∀x,x∈(rs.map λr=>((r.dt:Nat):Int))->x<=m)->q m:=by
 constructor
 ·intro h;have:rs=[]:=by simpa using h
  subst this;exact hq
 ·intro m hm hx;obtain⟨r,hr,rfl⟩:=mem_map.mp hm;have h1:(aU.of rs).dt<=r.dt:=sw λx hx'=>Int.ofNat_le.mp (hx _ (mem_map.mpr ⟨x,hx',rfl⟩));have h2:r.dt<=(aU.of rs).dt:=ic (yby _) r (by rw[aU.L_of];exact hr);rw[show(r.dt:Nat)=(aU.of rs).dt from Nat.le_antisymm h2 h1];exact hq
theorem Th.bodyq {G:Gp} {B:Int} {x:W} {r:Row} (h:Th G x r) (hs:rJ B r):(∃(k b o:Str) (n:Int),x=.tup [.str k,.str b,.str o,.int n]/\(k="set"∨k="copy"∨k="add"∨k="less")/\r.dt=0)∨∃(k b:Str) (l:Addr) (y:List W) (ps:List (W×Row)),x=.tup (.str k:: .str b:: .ref l::y)/\(k="times"∨k="while")/\G l=some (.lst (cA ps))/\bH G ps/\ib B (aU.of (bE ps))/\ps.length<=4/\r.dt=(aU.of (bE ps)).dt+1:=by
 cases h with
 | set=>exact .inl ⟨_,_,_,_,rfl,.inl rfl,rfl⟩
 | copy=>exact .inl ⟨_,_,_,_,rfl,.inr (.inl rfl),rfl⟩
 | add=>exact .inl ⟨_,_,_,_,rfl,.inr (.inr (.inl rfl)),rfl⟩
 | less=>exact .inl ⟨_,_,_,_,rfl,.inr (.inr (.inr rfl)),rfl⟩
 | bear h hm ok hs'=>exact hs.elim
 | count h hs'=>exact hs.elim
 | times h hs'=>
   obtain⟨ps,rfl,hL,hT⟩:=hs'.psq;rename_i b l rs;have e:aU.of (bE ps)=rs:=by rw[←hL,aU.of_L]
   have h1:=hs.2;rw[hL,length_map] at h1;exact .inr ⟨_,_,_,_,ps,rfl,.inl rfl,h,hT,by rw[e];exact hs.1,h1,by rw[e];rfl⟩
 | whl h hm ok hs'=>
   obtain⟨ps,rfl,hL,hT⟩:=hs'.psq;rename_i b l m ms rs;have e:aU.of (bE ps)=rs:=by rw[←hL,aU.of_L]
   have h1:=hs.2.1;rw[hL,length_map] at h1;exact .inr ⟨_,_,_,_,ps,rfl,.inr rfl,h,hT,by rw[e];exact hs.1,h1,by rw[e];rfl⟩
theorem E4 {d k:Nat} (F:cz K "_law_deep" "_law_deep" (aN 42) f fd) (F0:Fx P w K mg base "_law_deep" ["_law_thing"] k (xB d)) (mm:mg "max"=none):cc P w K mg base (k+1) f fd ["_law_thing"] (xB (d+1)):=by
 refine dy F (N:=["_law_thing"]) (by walk_at "s") (by walk_at "l") λ_ _ _ _ _ _ nd hr=>?_;apply aM
 ·exact(ae (aZ (fU (dc (aE (iA hr) (ax ay (aa 0) af) bq) (cC (aE (iA hr) (ax ay (aa 0) af) bq)))) (ae (aA af) ak) ak) (ae (aA (aB bf af (pE rfl rfl mm (fh (dR (by first | rfl | decide+kernel)) rfl (ck (ax ay (aa 0) af)) (λ_ _ _ _=>(cv 1 (by first | assumption | decide+kernel | rfl) rfl (.inl rfl))) (λ_ _ _ _=>dr) (λ_ _ _ _=>(aq F0 (av.mono hr (by lia)) rfl (ac (aa 1) ag))))))) ak))
 ·rintro ws G q e ⟨x,r,B,rfl,hx,hs,hd,hq⟩;rcases hx.bodyq hs with⟨k,b,o,n,rfl,hk,hdt⟩ | ⟨k,b,l,y,ps,rfl,hk,h,hT,hst,hl4,hdt⟩
  ·rw[hdt] at hq;rcases hk with rfl | rfl | rfl | rfl
   ·walk_at "a0";exact aC.done hq
   ·walk_at "a0";exact aC.done hq
   ·walk_at "a0";exact aC.done hq
   ·walk_at "a0";exact aC.done hq
  ·have hd':(aU.of (bE ps)).dt<d:=by lia
   refine aF λU hU=>?_;have key:U { nx:=λx G1=>∃G0,aC G0 G1/\q W.non G0,rt:=λw G1=>∃G0,aC G0 G1/\q w G0 } [some (.tup (.str k:: .str b:: .ref l::y))] G:=by
    subst hU;walk_at "R";refine⟨_,h,eN (i:=1) (λp:W×Row=>p.1) (λp=> .int ((p.2.dt:Nat):Int)) (τ0:=[none,none,none]) h (λp hp k hk=>?_) (by show 0+_<=_;lia) (λ_=>rfl) λp hp=>?_⟩
    ·walk_at "R";have hm:p.2∈bE ps:=mem_map.mpr ⟨p,hp,rfl⟩;exact⟨p.1,p.2,B,rfl,hT p hp,jD hst _ (by rw[aU.L_of];exact hm),Nat.lt_of_le_of_lt (ic (yby _) _ (by rw[aU.L_of];exact hm)) hd',hk⟩
    ·refine⟨(bE ps).map λr=>((r.dt:Nat):Int),?_,?_⟩
     ·rw[ah,nil_append];simp only[map_map]
      rfl
     ·refine uR (rs:=bE ps) (q:=λm=>∃G0,aC G0 (aK G p (GO.lst ([]++List.map (λp=>W.int ((p.2.dt:Nat):Int)) ps)))/\q (W.int (1+m)) G0) ⟨G,aC.new hp,?_⟩;rw[hdt] at hq;rw[show(1:Int)+(((aU.of (bE ps)).dt:Nat):Int)=(((aU.of (bE ps)).dt+1:Nat):Int) by lia];exact hq
   rcases hk with rfl | rfl
   ·walk_at "R";exact key
   ·walk_at "R";exact key
theorem CA (T:Txt K mg):∀d:Nat,Fx P w K mg base "_law_deep" ["_law_thing"] d (xB d)
 | 0=>T.d__law_deep.fx λf fd F=>cc.none λws G q e ⟨t,_,_,_,_,_,h,_⟩=>by lia
 | d+1=>T.d__law_deep.fx λf fd F=>E4 F (CA T d) T.z_max
theorem qo (c:Int) (b o:Str) {n:Int} (h0:0<=n) (h1:n<=10^50):∃(k:Str) (r:Row),dM [W.str "set",.str "copy",.str "add",.str "less"] (c%4)=some (.str k)/\(∀G',Th G' (.tup [.str k,.str b,.str o,.int n]) r)/\rJ (10^50) r/\r.dt=0/\tz r=1:=by
 have h:c%4=0∨c%4=1∨c%4=2∨c%4=3:=by lia
 rcases h with h | h | h | h<;> rw[h]
 ·exact⟨_,.set b n,rfl,λ_=> .set,⟨h0,h1⟩,rfl,rfl⟩
 ·exact⟨_,.copy b o,rfl,λ_=> .copy,trivial,rfl,rfl⟩
 ·exact⟨_,.add b o,rfl,λ_=> .add,trivial,rfl,rfl⟩
 ·exact⟨_,.less b,rfl,λ_=> .less,trivial,rfl,rfl⟩
theorem uS (c:Int):∃k:Str,dM [W.str "set",.str "copy",.str "add",.str "less"] (c%4)=some (.str k):=by
 obtain⟨k,_,h,_⟩:=qo c "" "" (n:=0) (by decide) (by decide+kernel);exact⟨k,h⟩
noncomputable def eS (ps:List (W×Row)):Nat:=((bE ps).map tz).sum
noncomputable def CB (ps:List (W×Row)):Prop:=∀x,x∈ps->rJ (10^50) x.2/\x.2.dt<=3
theorem uT (ps:List (W×Row)) (m:Nat):eS (ps.take m)+eS (ps.drop m)=eS ps:=by
 unfold eS bE;rw[←sum_append,←map_append,←map_append,List.take_append_drop]
theorem gF (ps:List (W×Row)):fM (aU.of (bE ps))=eS ps:=qm _
noncomputable def CC:bV:=λws G q _=>∃(pc pn:Addr) (ns:List Int) (names:List Str),ws=[.ref pc,.ref pn]/\G pc=some (.lst (ns.map W.int))/\G pn=some (.lst (u6 names))/\names.length=4/\ns.length<=12/\
 ∀(p:Addr) (ps:List (W×Row)) (G':Gp),aC G G'->G p=none->G' p=some (.lst (cA ps))->bH G' ps->CB ps->ps.length<=12->eS ps<=24->q (.ref p) G'
theorem E5 (F:cz K "_law_rows" "_law_rows" (aN 43) f fd) (F1:Fx P w K mg base "_law_deep" ["_law_thing"] 5 (xB 5)) (F2:Fx P w K mg base "_law_marks" ["_law_cell","_law_box","_law_names"] 6 Cy) (F3:Fx P w K mg base "_law_amount" ["_law_cell"] 1 Ax) (mm:mg "max"=none):cc P w K mg base 7 f fd ["_law_cells","_law_names"] CC:=by
 refine dy F (N:=["_law_cells","_law_names","_law_rows_here","_law_cell","_law_box","_law_many","_law_body","_law_inside","_law_kind"]) (by walk_at "s") (by walk_at "l") λ_ _ _ _ _ _ nd hr=>?_;apply aM
 ·exact(ae (aG 2 nd rfl (.inl rfl) (bA ag)) (ae (dQ PySem.PassesOwn.never rfl (ck (aa 0)) (ci 3 nd rfl (.inl rfl)) (ae (aG 4 nd rfl (.inl rfl) (ax ay (aa 1) (aB bZ (aB bT (aa 3) af) af))) (ae (aG 5 nd rfl (.inl rfl) (aB bZ (aB bT (aa 3) af) af)) (ae (aG 6 nd rfl (.inl rfl) (bo (aa 2) bO (bG (aa 5)))) (ae (aG 7 nd rfl (.inl rfl) (nY (iq hr) (pE rfl rfl mm (fh (dR (by first | rfl | decide+kernel)) rfl (ck (aa 6)) (λ_ _ _ _=>(cv 1 (by first | assumption | decide+kernel | rfl) rfl (.inl rfl))) (λ_ _ _ _=>dr) (λ_ _ _ _=>(aq F1 (av.mono hr (by lia)) rfl (ac (aa 1) ag))))) af)) (ae (aZ (fU (dc (aE (bw hr) (aB bZ (aa 3) af) af) (cC (nZ (aa 7))))) (ae (aG 2 nd rfl (.inl rfl) (aB bf (bA (ac (aP (ac bq (ac (aa 4) (ac (aa 6) ag)))) ag)) (bo (aa 2) (bG (aa 5)) bO))) ak) (ae (aZ (fU (dc (aE (bw hr) (aB bZ (aa 3) af) af) (cC (nZ (aa 7))))) (ae (aZ (aE (bw hr) (aB bZ (aB bT (aa 3) af) af) af) (ae (aG 6 nd rfl (.inl rfl) (aB bf (bA (ac (aP (ac bq (ac (aa 4) (ac (aa 4) (ac af ag))))) ag)) (aa 6))) ak) ak) (ae (aG 2 nd rfl (.inl rfl) (aB bf (bA (ac (aP (ac bq (ac (aa 4) (ac (aa 6) (ac (aq F2 (av.mono hr (by lia)) rfl (ac (aB bT (aa 3) af) (ac (aa 4) (ac (aa 1) ag)))) (ac iY ag)))))) ag)) (bo (aa 2) (bG (aa 5)) bO))) ak)) (ae (aG 8 nd rfl (.inl rfl) (ax ay (bA (ac bq (ac bq (ac bq (ac bq ag))))) (aB bZ (aB bT (aa 3) af) af))) (ae (aG 2 nd rfl (.inl rfl) (aB bf (bA (ac (aP (ac (aa 8) (ac (aa 4) (ac (ax ay (aa 1) (aB bZ (aB bT (aa 3) af) af)) (ac (aq F3 (av.mono hr (by lia)) rfl (ac (aB bT (aa 3) af) ag)) ag))))) ag)) (aa 2))) ak))) ak)) ak)))))) (ae (aA (aa 2)) ak)))
 ·rintro ws G q e ⟨pc,pn,ns,names,rfl,hc,hn,hn4,hl,hq⟩;have hlen:(u6 names).length=names.length:=length_map ..;walk_at "a0";intro p hp;have le1:=aC.new (g:=GO.lst []) hp;have g1:=ah (G:=G) (a:=p) (g:=GO.lst []);generalize aK G p (.lst [])=G1 at le1 g1 ⊢;walk_at "a";refine⟨_,le1 _ _ hc,cm (λws τ G'=>∃(todo:List Int) (ps:List (W×Row)) (p:Addr) (t3 t4 t5 t6 t7 t8:Option W),ws=todo.map W.int/\ps.length+todo.length<=12/\eS ps+2*todo.length<=24/\τ=[some (.ref pc),some (.ref pn),some (.ref p),t3,t4,t5,t6,t7,t8]/\aC G G'/\G p=none/\G' p=some (.lst (cA ps))/\bH G' ps/\CB ps) ?_ ?_ _ _ _ ⟨ns,[],p,none,none,none,none,none,none,rfl,by simpa using hl,by show 0+_<=_;lia,rfl,le1,hp,g1,(λ_ h=>(nomatch h)),(λ_ h=>(nomatch h))⟩⟩
  ·rintro τ G' ⟨todo,ps,p,t3,t4,t5,t6,t7,t8,hw,hn,hz,rfl,le,fp,g,hT,hS⟩;refine⟨le _ _ hc,?_⟩;subst hU;walk_at "R";exact aC.done (hq p ps G' le fp g hT hS (by lia) (by lia))
  ·rintro w1 ws τ G' k ⟨todo,ps,p,t3,t4,t5,t6,t7,t8,hw,hnl,hz,rfl,le,fp,g,hT,hS⟩ hk;cases todo with
   | nil=>cases hw
   | cons c todo=>
     cases hw;refine⟨le _ _ hc,?_⟩;rw[length_cons] at hnl hz;have gn:=le _ _ hn;refine aF λU1 hU1=>?_;walk_at "R";have bm:=jm (i:=c/16) (j:=4) (by (clear hn4 hl hlen hnl hz;lia));obtain⟨bx,hbx,_⟩:=lr (L:=names) (i:=c/16%4) bm.1 (by lia);refine⟨_,_,gn,hbx,?_⟩;walk_at "b";obtain⟨mn,hmn,mn3⟩:∃mn:Nat,c/4%4=(mn:Int)/\mn<=3:=by
      have:=jm (i:=c/4) (j:=4) (by (clear hn4 hl hlen hnl hz bm;lia));exact⟨(c/4%4).toNat,by (clear hn4 hl hlen hnl hz bm;lia),by (clear hn4 hl hlen hnl hz bm;lia)⟩
     rw[hmn];walk_at "b";refine⟨_,g,λpb hpb=>?_⟩;rw[tT,←List.map_take];have le2:=aC.new (g:=GO.lst (cA (ps.take mn))) hpb;have g2:=ah (G:=G') (a:=pb) (g:=GO.lst (cA (ps.take mn)));have fpb:=bB le hpb;have hT2:=hT.mono (aC.ls le2);have le3:=le.trans le2;have g2p:=le2 _ _ g;generalize aK G' pb (GO.lst (cA (ps.take mn)))=G2 at le2 g2 hT2 le3 g2p ⊢;clear le2;subst hU1;refine aF λU1 hU1=>?_;have fin:∀(b:Bool) (G8:Gp),aC G2 G8->(b=true->(aU.of (bE (ps.take mn))).dt<3)->U1 { nx:=k,rt:=λw G1=>∃G0,aC G0 G1/\q w G0,bk:=U { nx:=λx G1=>∃G0,aC G0 G1/\q W.non G0,rt:=λw G1=>∃G0,aC G0 G1/\q w G0 },ct:=k } [some (.ref pc),some (.ref pn),some (.ref p),some (.int c),some (.str bx),some (.int (mn:Int)),some (.ref pb),some (.bl b),t8] G8:=λb G8 le8 hb=>by
      have le9:=le3.trans le8;have g8:=le8 _ _ g2;have g8p:=le8 _ _ g2p;have hT8:=hT2.mono (aC.ls le8);have gn8:=le9 _ _ hn;clear le3 le8 g2 g2p hT2 hq hp hU;subst hU1;refine aF λU2 hU2=>?_;refine C0 λTT VV DD hTT hVV hDD=>?_;have hs3:(ps.take mn).length<=3:=by rw[length_take];(clear hn4 hl hlen hz bm mn3;lia)
      have hcut:=uT ps mn;have hst:ib (10^50) (aU.of (bE (ps.take mn))):=lK λr hr=>by
       obtain⟨z,hz,rfl⟩:=mem_map.mp hr;exact(hS z (mem_of_mem_take hz)).1
      have hT3:∀G',aC G8 G'->jG G' (cA (ps.take mn)) (aU.of (bE (ps.take mn))):=λG' l=>bH.ths λz hz=>(hT8 z (mem_of_mem_take hz)).mono (aC.ls l);have uP:∀(x:W) (r:Row) (qs:List (W×Row)) (p':Addr) (G':Gp) (t6 t7 t8:Option W),aC G8 G'->G p'=none->G' p'=some (.lst (x::cA qs))->Th G' x r->rJ (10^50) r->r.dt<=3->(∀y,y∈qs->y∈ps)->qs.length<=ps.length->tz r+eS qs<=eS ps+2->k [some (.ref pc),some (.ref pn),some (.ref p'),some (.int c),some (.str bx),some (.int (mn:Int)),t6,t7,t8] G':=λx r qs p' G' t6 t7 t8 l f e h1 h2 h3 h4 h5 h6=>by
       refine hk _ _ ⟨todo,(x,r)::qs,p',_,_,_,_,_,_,rfl,by rw[length_cons];(clear hn4 hl hlen hz bm hmn mn3 hs3 hcut h3 h6;lia),?_,rfl,le9.trans l,f,e,λy hy=>?_,λy hy=>?_⟩
       ·show tz r+eS qs+_<=24
        (clear hn4 hl hlen hnl bm hmn mn3 hs3 h3 h5;lia)
       ·rcases mem_cons.mp hy with rfl | hy
        ·exact h1
        ·exact(hT8 y (h4 y hy)).mono (aC.ls l)
       ·rcases mem_cons.mp hy with rfl | hy
        ·exact⟨h2,h3⟩
        ·exact hS y (h4 y hy)
      have hcat:∀(x:W) (r:Row) (G1:Gp) (t6 t7 t8:Option W),aC G8 G1->(∀G',aC G1 G'->Th G' x r)->rJ (10^50) r->r.dt<=3->tz r<=eS (ps.take mn)+2->∀p1,G1 p1=none->∃xs,aK G1 p1 (.lst [x]) p=some (.lst xs)/\∀p2,aK G1 p1 (.lst [x]) p2=none->∃xs1 ys,aK (aK G1 p1 (.lst [x])) p2 (.lst (cN xs (some (mn:Int)) none)) p1=some (.lst xs1)/\aK (aK G1 p1 (.lst [x])) p2 (.lst (cN xs (some (mn:Int)) none)) p2=some (.lst ys)/\xs1.length+ys.length<=100000/\∀p3,aK (aK G1 p1 (.lst [x])) p2 (.lst (cN xs (some (mn:Int)) none)) p3=none->k [some (.ref pc),some (.ref pn),some (.ref p3),some (.int c),some (.str bx),some (.int (mn:Int)),t6,t7,t8] (aK (aK (aK G1 p1 (.lst [x])) p2 (.lst (cN xs (some (mn:Int)) none))) p3 (.lst (xs1++ys))):=λx r G1 t6 t7 t8 l h1 h2 h3 h4 p1 hp1=>by
       have l1:=aC.new (g:=GO.lst [x]) hp1;refine⟨_,l1 _ _ (l _ _ g8p),λp2 hp2=>?_⟩;rw[d9,←map_drop];have l2:=l1.trans (aC.new (g:=GO.lst (cA (ps.drop mn))) hp2);refine⟨_,_,aH ah hp2,ah,by simp only[length_map,length_cons,length_nil,length_drop];(clear hn4 hl hlen hz bm mn3 hs3 hcut h3 h4;lia),λp3 hp3=>?_⟩;have l3:=l2.trans (aC.new (g:=GO.lst ([x]++cA (ps.drop mn))) hp3);exact uP x r (ps.drop mn) p3 _ t6 t7 t8 (l.trans l3) (bB (le9.trans (l.trans l2)) hp3) ah (h1 _ l3) h2 h3 (λy hy=>List.mem_of_mem_drop hy) (by rw[length_drop];(clear hn4 hl hlen hnl hz bm mn3 hs3 hcut h3 h4;lia)) (by (clear hn4 hl hlen hnl hz bm hmn mn3 hs3 h3;lia))
      have hV:VV DD [some (.ref pc),some (.ref pn),some (.ref p),some (.int c),some (.str bx),some (.int (mn:Int)),some (.ref pb),some (.bl b),t8] G8:=by
       subst hVV;refine C0 λTT2 VV2 DD2 hTT2 hVV2 hDD2=>?_;have hP:VV2 DD2 [some (.ref pc),some (.ref pn),some (.ref p),some (.int c),some (.str bx),some (.int (mn:Int)),some (.ref pb),some (.bl b),t8] G8:=by
        subst hVV2 hDD2 hDD hU2;refine aF λU3 hU3=>?_;walk_at "R";intro p1 hp1;obtain⟨kk,hkk⟩:=uS (c/4);refine⟨_,_,ah,hkk,?_⟩;have l0:=aC.new (g:=GO.lst [W.str "set",.str "copy",.str "add",.str "less"]) hp1;generalize aK G8 p1 (GO.lst [W.str "set",.str "copy",.str "add",.str "less"])=G9 at l0 ⊢;subst hU3;walk_at "R";have om:=jm (i:=c/48) (j:=4) (by (clear hn4 hl hlen hnl hz bm hmn mn3 hs3 hcut;lia));obtain⟨o,ho,_⟩:=lr (L:=names) (i:=c/48%4) om.1 (by (clear hl hlen hnl hz bm hmn mn3 hs3 hcut;lia));refine⟨_,_,l0 _ _ gn8,ho,_,rfl,λv h0 h1=>λp2 hp2=>?_⟩;obtain⟨k',r,e1,e2,e3,e4,e5⟩:=qo (c/4) bx o h0 h1;rw[hkk] at e1;cases e1;have l1:=l0.trans (aC.new (g:=GO.lst [W.tup [W.str kk,.str bx,.str o,.int v]]) hp2);refine⟨_,_,ah,l1 _ _ g8p,by simp only[length_map,length_cons,length_nil];(clear hn4 hl hlen hz bm hmn mn3 hs3 hcut om h0 h1 e4 e5;lia),λp3 hp3=>?_⟩;have l2:=l1.trans (aC.new (g:=GO.lst ([W.tup [W.str kk,.str bx,.str o,.int v]]++cA ps)) hp3);exact uP _ r ps p3 _ _ _ _ l2 (bB (le9.trans l1) hp3) ah (e2 _) e3 (by rw[e4];decide) (λy hy=>hy) (yby _) (by (clear hn4 hl hlen hnl hz bm hmn mn3 hs3 hcut om h0 h1 e4;lia))
       have hW:(aU.of (bE (ps.take mn))).dt<3->TT2 DD2 [some (.ref pc),some (.ref pn),some (.ref p),some (.int c),some (.str bx),some (.int (mn:Int)),some (.ref pb),some (.bl b),t8] G8:=λhdt=>by
        subst hTT2 hDD2 hDD hU2;refine aF λU3 hU3=>?_;have go:∀(pb':Addr) (G9:Gp) (qs:List (W×Row)),aC G8 G9->G9 pb'=some (.lst (cA qs))->bH G9 qs->ib (10^50) (aU.of (bE qs))->qs.length<=4->(aU.of (bE qs)).dt<3->eS qs<=eS (ps.take mn)+1->U3 { nx:=k,rt:=λw G1=>∃G0,aC G0 G1/\q w G0,bk:=U { nx:=λx G1=>∃G0,aC G0 G1/\q W.non G0,rt:=λw G1=>∃G0,aC G0 G1/\q w G0 },ct:=k } [some (.ref pc),some (.ref pn),some (.ref p),some (.int c),some (.str bx),some (.int (mn:Int)),some (.ref pb'),some (.bl b),t8] G9:=λpb' G9 qs l0 gq hTq hSq hl4 hdq hzq=>by
         subst hU3;walk_at "R";refine⟨_,bx,pn,names,rfl,l0 _ _ gn8,hn4,λpm G1 ms l1 fm gm hm=>?_⟩;refine hcat _ (.whl bx (cr ms) (aU.of (bE qs))) G1 _ _ _ (l0.trans l1) (λG' l=> .whl (l _ _ (l1 _ _ gq)) (l _ _ gm) hm (bH.ths λz hz=>(hTq z hz).mono (aC.ls (l1.trans l)))) ⟨hSq,by rw[aU.L_of,length_map];exact hl4,ms,hm,rfl⟩ (by show(aU.of (bE qs)).dt+1<=3;assumption) (by show fM _+1<=_;rw[gF];(clear hn4 hl hlen hnl hz bm hmn mn3 hs3 hcut hdt hl4 hdq;lia))
        walk_at "R";refine gl (λ_=>λp1 hp1=>?_) λ_=>go pb G8 (ps.take mn) (aC.refl _) g8 (λz hz=>hT8 z (mem_of_mem_take hz)) hst (by lia) hdt (by (clear hn4 hl hlen hnl hz bm hmn mn3 hs3 hcut hdt;lia));have l1:=aC.new (g:=GO.lst [W.tup [W.str "less",.str bx,.str bx,.int 0]]) hp1;refine⟨_,_,ah,l1 _ _ g8,by simp only[length_map,length_cons,length_nil];(clear hn4 hl hlen hnl hz bm hmn mn3 hcut hdt;lia),λp2 hp2=>?_⟩;have l2:=l1.trans (aC.new (g:=GO.lst ([W.tup [W.str "less",.str bx,.str bx,.int 0]]++cA (ps.take mn))) hp2);refine go p2 _ ((W.tup [.str "less",.str bx,.str bx,.int 0],.less bx)::ps.take mn) l2 ah (λz hz=>?_) ⟨trivial,hst⟩ (by rw[length_cons];(clear hn4 hl hlen hnl hz bm hmn mn3 hcut hdt;lia)) ?_ ?_
        ·rcases mem_cons.mp hz with rfl | hz
         ·exact .less
         ·exact(hT8 z (mem_of_mem_take hz)).mono (aC.ls l2)
        ·show max 0 (aU.of (bE (ps.take mn))).dt<3;assumption
        ·show 1+eS (ps.take mn)<=_
         (clear hn4 hl hlen hnl hz bm hmn mn3 hs3 hcut hdt;lia)
       walk_at "R";exact gl (λh1=>gl (λh2=>hW (hb h2)) λ_=>hP) λ_=>hP
      have hM:(aU.of (bE (ps.take mn))).dt<3->TT DD [some (.ref pc),some (.ref pn),some (.ref p),some (.int c),some (.str bx),some (.int (mn:Int)),some (.ref pb),some (.bl b),t8] G8:=λhdt=>by
       subst hTT hDD hU2;walk_at "R";exact hcat _ (.times bx (aU.of (bE (ps.take mn)))) G8 _ _ _ (aC.refl _) (λG' l=> .times (l _ _ g8) (hT3 _ l)) ⟨hst,by rw[aU.L_of,length_map];lia⟩ (by show(aU.of (bE (ps.take mn))).dt+1<=3;assumption) (by show fM _+1<=_;rw[gF];(clear hn4 hl hlen hnl hz bm hmn mn3 hs3 hcut hdt;lia))
      walk_at "R";exact gl (λh1=>gl (λh2=>hM (hb h2)) λ_=>hV) λ_=>hV
     walk_at "R";refine⟨_,g2,eN (i:=1) (λp:W×Row=>p.1) (λp=> .int ((p.2.dt:Nat):Int)) (τ0:=[none,none,none]) g2 (λp hp k hk=>?_) (by show 0+_<=_;rw[length_take];(clear hn4 hl hlen hz bm mn3;lia)) (λ_=>rfl) λp7 hp7=>?_⟩
     ·walk_at "R";have hm:=mem_of_mem_take hp;have:=hS p hm;exact⟨p.1,p.2,_,rfl,hT2 p hm,this.1,by (clear hn4 hl hlen hnl hz bm hmn mn3;lia),hk⟩
     ·refine⟨(bE (ps.take mn)).map λr=>((r.dt:Nat):Int),?_,?_⟩
      ·rw[ah,nil_append];simp only[map_map]
       rfl
      ·have le8:=aC.new (g:=GO.lst ([]++List.map (λp:W×Row=>W.int ((p.2.dt:Nat):Int)) (List.take mn ps))) hp7;generalize aK G2 p7 (GO.lst ([]++List.map (λp:W×Row=>W.int ((p.2.dt:Nat):Int)) (List.take mn ps)))=G8 at le8 ⊢;have key:=uR (rs:=bE (ps.take mn)) (q:=λm=>U1 { nx:=k,rt:=λw G1=>∃G0,aC G0 G1/\q w G0,bk:=U { nx:=λx G1=>∃G0,aC G0 G1/\q W.non G0,rt:=λw G1=>∃G0,aC G0 G1/\q w G0 },ct:=k } [some (.ref pc),some (.ref pn),some (.ref p),some (.int c),some (.str bx),some (.int (mn:Int)),some (.ref pb),some (.bl (decide (m<3))),t8] G8) (fin _ G8 le8 λh=>by have:=of_decide_eq_true h;(clear hn4 hl hlen hnl hz bm hmn mn3 h;lia));exact⟨λh=>key.1 h,key.2⟩
noncomputable def uU (C:Cs) (d:Nat):bV:=λws G q _=>∃(x:W) (r:Row),ws=[x]/\Th G x r/\rJ (10^50) r/\tz r<=24/\r.dt<=3/\r.dt<d/\∀(a:Addr) (G':Gp),aC G G'->G a=none->jy C G' a r->q (.ref a) G'
theorem yn {ps:List (W×Row)} {x:W×Row} (h:x∈ps):tz x.2<=eS ps:=by
 have:=uO (rs:=aU.of (bE ps)) x.2 (by rw[aU.L_of];exact mem_map.mpr ⟨x,h,rfl⟩);rw[gF] at this;exact this
theorem ig {C:Cs} {d:Nat} {G:Gp} {ps:List (W×Row)} {l:Addr} {Q:List W->Gp->Prop} {τ:cT} {n:Nat} (h:G l=some (.lst (cA ps))) (hT:bH G ps) (hS:CB ps) (ht:eS ps<=24) (hdd:∀y,y∈ps->y.2.dt<d) (hl:ps.length<=100) (hτ:∀x,τ.set 1 x=(none::none::List.replicate n none).set 1 x) (hQ:∀xs G',aC G G'->Rows C G' xs->cO xs=bE ps->Q (refs xs) G'):cu (λG=>G l=some (.lst (cA ps))) (cV 1) j7 (fX (uU C d) [] (pw (cP 1) kO)) (cA ps) τ G [] Q:=by
 refine mT (i:=1) (τ0:=none::none::List.replicate n none) (λws acc G'=>∃(todo:List (W×Row)) (xs:List (Addr×Row)),ws=cA todo/\acc=refs xs/\bE ps=cO xs++bE todo/\(∀y,y∈todo->y∈ps)/\aC G G'/\Rows C G' xs) ?_ ?_ ⟨ps,[],rfl,rfl,rfl,λ_ h=>h,aC.refl _,(λ_ h=>(nomatch h))⟩ (by show 0+_<=_;rw[length_map];lia) hτ
 ·rintro acc G5 ⟨todo,xs,hw,rfl,hts,hin,le5,hX⟩;have h0:todo=[]:=by simpa using hw.symm
  subst h0;have hts:bE ps=cO xs:=by rw[hts];exact append_nil _
  exact⟨le5 _ _ h,hQ xs G5 le5 hX hts.symm⟩
 ·rintro x ws acc G' k' ⟨todo,xs,hw,rfl,hts,hin,le,hX⟩ hkk;cases todo with
  | nil=>cases hw
  | cons u todo=>
    cases hw;refine⟨le _ _ h,?_⟩;have hxl:xs.length<=100:=by have:=congrArg List.length hts;simp only[length_map,length_append] at this;lia
    have hu:=hin u yaz;have su:=hS u hu;have zu:=yn hu;walk_at "R";refine⟨u.1,u.2,rfl,(hT u hu).mono (aC.ls le),su.1,by lia,su.2,hdd u hu,λa G'' le2 fa ha=>hkk _ _ ⟨todo,xs++[(a,u.2)],rfl,by simp[refs],by rw[hts];simp,λy hy=>hin y (yay _ hy),le.trans le2,λx hx=>?_⟩ (by simp only[length_map];lia)⟩;rcases mem_append.mp hx with hx | hx
    ·exact(hX x hx).mono (aC.ins le2)
    ·rw[mem_singleton.mp hx];exact ha
theorem uV {G:Gp} {ws:List W} {rs:aU Str} {d:Nat} (hs:jG G ws rs) (h1:ib (10^50) rs) (h2:fM rs<=24) (h3:rs.dt<=3) (h4:rs.dt<d):∃ps,ws=cA ps/\bH G ps/\CB ps/\eS ps<=24/\(∀y,y∈ps->y.2.dt<d)/\jN rs/\rs.L=bE ps/\Dc (Sk True) rs:=by
 obtain⟨ps,e,hL,hT⟩:=hs.psq;have er:aU.of (bE ps)=rs:=by rw[←hL,aU.of_L]
 have hm:∀y,y∈ps->y.2∈rs.L:=λy hy=>by rw[hL];exact mem_map.mpr ⟨y,hy,rfl⟩
 exact⟨ps,e,hT,λy hy=>⟨jD h1 _ (hm y hy),ic h3 _ (hm y hy)⟩,by rw[←gF,er];exact h2,λy hy=>Nat.lt_of_le_of_lt (ic (yby _) _ (hm y hy)) h4,(lL h1 h2 h3).2,hL,λr hr=>uJ (gE (iR rs h1 h2 h3) r hr)⟩
theorem E6 {C:Cs} {d k:Nat} (F:cz K "_law_made" "_law_made" (aN 44) f fd) (F0:Fx P w K mg base "_law_made" ["_law_thing"] k (uU C d)) (N1:mE P w K mg base "Set" C.s ["self","box","amount"] 1 (iG C 0)) (N2:mE P w K mg base "Copy" C.c ["self","box","other"] 1 (iG C 1)) (N3:mE P w K mg base "Add" C.a ["self","box","other"] 1 (iG C 2)) (N4:mE P w K mg base "Less" C.l ["self","box"] 1 (iG C 3)) (N5:mE P w K mg base "Times" C.t ["self","box","rows"] 8 (Ar C (Sk True))) (N6:mE P w K mg base "While" C.w ["self","box","marks","rows"] 8 (As C (Sk True))) (hk9:9<=k):cc P w K mg base (k+1) f fd ["_law_thing"] (uU C (d+1)):=by
 refine dy F (N:=["_law_thing","_law_inner"]) (by walk_at "s") (by walk_at "l") λ_ _ _ _ _ _ nd hr=>?_;apply aM
 ·refine' ae ?s1 (ae ?s2 (ae ?s3 (ae ?s4 (ae ?s5 (ae ?s6 ?s7)))))
  case s1=>exact(aZ (aE (bw hr) (ax ay (aa 0) af) bq) (ae (aA (eI N1 (av.mono hr (by lia)) rfl (ac (ax ay (aa 0) af) (ac (ax ay (aa 0) af) ag)))) ak) ak)
  case s2=>exact(aZ (aE (bw hr) (ax ay (aa 0) af) bq) (ae (aA (eI N2 (av.mono hr (by lia)) rfl (ac (ax ay (aa 0) af) (ac (ax ay (aa 0) af) ag)))) ak) ak)
  case s3=>exact(aZ (aE (bw hr) (ax ay (aa 0) af) bq) (ae (aA (eI N3 (av.mono hr (by lia)) rfl (ac (ax ay (aa 0) af) (ac (ax ay (aa 0) af) ag)))) ak) ak)
  case s4=>exact(aZ (aE (bw hr) (ax ay (aa 0) af) bq) (ae (aA (eI N4 (av.mono hr (by lia)) rfl (ac (ax ay (aa 0) af) ag))) ak) ak)
  case s5=>
   refine' my 1 (dR (by first | rfl | decide+kernel)) rfl (by assumption) rfl (by first | exact Or.inl rfl | exact Or.inr rfl) ?it (λ_ _ _ _=>?tg) (λ_ _ _ _=>?tt) (λ_ _ _ _=>?te)
   case it=>exact(ck (ax ay (aa 0) af))
   case tg=>exact(cv 1 (by first | assumption | decide+kernel | rfl) rfl (.inl rfl))
   case tt=>exact dr
   case te=>exact(aq F0 (av.mono hr (by lia)) rfl (ac (aa 1) ag))
  case s6=>exact(aZ (aE (bw hr) (ax ay (aa 0) af) bq) (ae (aA (eI N5 (av.mono hr hk9) rfl (ac (ax ay (aa 0) af) (ac (aa 1) ag)))) ak) ak)
  case s7=>exact(ae (aA (eI N6 (av.mono hr hk9) rfl (ac (ax ay (aa 0) af) (ac (ax ay (aa 0) af) (ac (aa 1) ag))))) ak)
 ·rintro ws G q e ⟨x,r,rfl,hx,hs,hz,h3,hd,hq⟩;have fin:∀(r':Pl) (p:Addr) (G':Gp),r'.row=r->G p=none->G' p=some (.ins (C.at_ r'.kd) r'.fs)->(∀x,x≠p->G' x=aK G p (.ins (C.at_ r'.kd) []) x)->q (.ref p) G':=λr' p G' hk hp h1 h2=>by
   subst hk;refine hq p G' (λx g e=>?_) hp (r'.at h1);have xp:x≠p:=λz=>by rw[z,hp] at e;cases e
   rw[h2 x xp,ap xp];exact e
  cases hx with
  | set=>
    rename_i b o n;walk_at "a0";exact⟨_,rfl,λp hp=>⟨p,.set b n,rfl,rfl,ah,λG' h1 h2=>⟨rfl,aC.done (fin (.set b n) p G' rfl hp h1 h2)⟩⟩⟩
  | copy=>
    rename_i b o n;walk_at "k0";refine aF λU hU=>?_
    try walk_at "t0"
    walk_at "R";exact λp hp=>⟨p,.copy b o,rfl,rfl,ah,λG' h1 h2=>⟨rfl,aC.done (fin (.copy b o) p G' rfl hp h1 h2)⟩⟩
  | add=>
    rename_i b o n;walk_at "k0";walk_at "k0";refine aF λU hU=>?_
    try walk_at "t0"
    walk_at "R";exact λp hp=>⟨p,.add b o,rfl,rfl,ah,λG' h1 h2=>⟨rfl,aC.done (fin (.add b o) p G' rfl hp h1 h2)⟩⟩
  | less=>
    rename_i b o n;walk_at "k0";walk_at "k0";walk_at "k0";refine aF λU hU=>?_
    try walk_at "t0"
    walk_at "R";exact λp hp=>⟨p,.less b,rfl,rfl,ah,λG' h1 h2=>⟨rfl,aC.done (fin (.less b) p G' rfl hp h1 h2)⟩⟩
  | times h hs'=>
    rename_i b l ws rs;have z5:fM rs+1<=24:=hz;have d5:rs.dt+1<=3:=h3;have d6:rs.dt+1<d+1:=hd;obtain⟨ps,rfl,hT,hS,ht,hdd,z,hL,hkd⟩:=uV (d:=d) hs' hs.1 (by (clear hk9 hz h3 hd d5 d6;lia)) (by (clear hk9 hz h3 hd z5 d6;lia)) (by (clear hk9 hz h3 hd z5 d5;lia));have hl3:=hs.2;rw[hL,length_map] at hl3;have er:aU.of (bE ps)=rs:=by rw[←hL,aU.of_L]
    walk_at "k0";walk_at "k0";walk_at "k0";walk_at "k0";refine aF λU hU=>?_
    try walk_at "t0"
    walk_at "R";refine⟨_,h,ig (n:=1) h hT hS ht hdd (by lia) (λ_=>rfl) λxs G5 le5 hX hts pm _ hpm=>?_⟩;have gm6:=ah (G:=G5) (a:=pm) (g:=GO.lst (refs xs));have le6:=le5.trans (aC.new (g:=GO.lst (refs xs)) hpm);have hX6:Rows C (aK G5 pm (GO.lst (refs xs))) xs:=hX.mono (aC.ins (aC.new hpm));generalize aK G5 pm (GO.lst (refs xs))=G6 at gm6 le6 hX6 ⊢;have ers:aU.of (xs.map (·.2))=rs:=by rw[show xs.map (·.2)=bE ps from hts];exact er
    walk_at "a";intro pt hpt;refine⟨pt,_,pm,xs,rfl,ah,aH gm6 hpt,hX6.mono (aC.ins (aC.new hpt)),by rw[ers];exact z,by rw[ers];exact hkd,λG7 g7 k7=>⟨rfl,?_⟩⟩;have le7:aC G6 G7:=λx g e=>(k7 x (λz=>by rw[z,hpt] at e;cases e)).trans (aH e hpt);have hA:=(hX6.mono (aC.ins le7)).ats;rw[ers] at g7 hA;exact aC.done (hq pt G7 (le6.trans le7) (bB le6 hpt) (.times g7 hA))
  | bear h hm ok hs'=>exact hs.elim
  | count h hs'=>exact hs.elim
  | whl h hm ok hs'=>
    rename_i b l m ms ws rs;have z5:fM rs+1<=24:=hz;have d5:rs.dt+1<=3:=h3;have d6:rs.dt+1<d+1:=hd;obtain⟨ps,rfl,hT,hS,ht,hdd,z,hL,hkd⟩:=uV (d:=d) hs' hs.1 (by (clear hk9 hz h3 hd d5 d6;lia)) (by (clear hk9 hz h3 hd z5 d6;lia)) (by (clear hk9 hz h3 hd z5 d5;lia));have hl3:=hs.2.1;rw[hL,length_map] at hl3;have er:aU.of (bE ps)=rs:=by rw[←hL,aU.of_L]
    walk_at "k0";walk_at "k0";walk_at "k0";walk_at "k0";refine aF λU hU=>?_
    try walk_at "t0"
    walk_at "R";refine⟨_,h,ig (n:=1) h hT hS ht hdd (by lia) (λ_=>rfl) λxs G5 le5 hX hts pm _ hpm=>?_⟩;have gm6:=ah (G:=G5) (a:=pm) (g:=GO.lst (refs xs));have le6:=le5.trans (aC.new (g:=GO.lst (refs xs)) hpm);have hX6:Rows C (aK G5 pm (GO.lst (refs xs))) xs:=hX.mono (aC.ins (aC.new hpm));generalize aK G5 pm (GO.lst (refs xs))=G6 at gm6 le6 hX6 ⊢;have ers:aU.of (xs.map (·.2))=rs:=by rw[show xs.map (·.2)=bE ps from hts];exact er
    subst hU;walk_at "k0";walk_at "R";refine⟨_,rfl,λpt hpt=>?_⟩;refine⟨pt,_,m,pm,ms,xs,rfl,ah,aH (le6 _ _ hm) hpt,ok.1,λx hx=>(ok.2 x hx).dp,aH gm6 hpt,hX6.mono (aC.ins (aC.new hpt)),by rw[ers];exact z,by rw[ers];exact hkd,λG7 g7 k7=>⟨rfl,?_⟩⟩;have le7:aC G6 G7:=λx g e=>(k7 x (λz=>by rw[z,hpt] at e;cases e)).trans (aH e hpt);have hA:=(hX6.mono (aC.ins le7)).ats;rw[ers] at g7 hA;exact aC.done (hq pt G7 (le6.trans le7) (bB le6 hpt) (.whl g7 hA))
theorem CD {C:Cs} (T:Txt K mg) (N1:mE P w K mg base "Set" C.s ["self","box","amount"] 1 (iG C 0)) (N2:mE P w K mg base "Copy" C.c ["self","box","other"] 1 (iG C 1)) (N3:mE P w K mg base "Add" C.a ["self","box","other"] 1 (iG C 2)) (N4:mE P w K mg base "Less" C.l ["self","box"] 1 (iG C 3)) (N5:mE P w K mg base "Times" C.t ["self","box","rows"] 8 (Ar C (Sk True))) (N6:mE P w K mg base "While" C.w ["self","box","marks","rows"] 8 (As C (Sk True))):∀d:Nat,Fx P w K mg base "_law_made" ["_law_thing"] (d+9) (uU C d)
 | 0=>T.d__law_made.fx λf fd F=>cc.none λws G q e ⟨t,_,_,_,_,_,_,h,_⟩=>by lia
 | d+1=>T.d__law_made.fx λf fd F=>E6 F (CD T N1 N2 N3 N4 N5 N6 d) N1 N2 N3 N4 N5 N6 (by lia)
noncomputable def CF:bV:=λws G q _=>∃(x:W) (r:Row) (d:Addr) (kvs:List (aS×W)),ws=[x,.ref d]/\Th G x r/\kd r<4/\G d=some (.dic kvs)/\jP kvs/\kvs.length<=1000/\q .non (aK G d (.dic (cY kvs r)))
theorem E7 (F:cz K "_law_done" "_law_done" (aN 45) f fd) (mm:mg "max"=none):cc P w K mg base 1 f fd ["_law_thing","_law_having"] CF:=by
 refine dy F (N:=["_law_thing","_law_having","_law_here"]) (by walk_at "s") (by walk_at "l") λ_ _ _ _ _ _ nd hr=>?_;apply aM
 ·exact(ae (aG 2 nd rfl (.inl rfl) (eO (aa 1) (ax ay (aa 0) af) af)) (ae (aZ (aE (bw hr) (ax ay (aa 0) af) bq) (ae (dv (ax ay (aa 0) af) (aa 1) (ax ay (aa 0) af)) ak) ak) (ae (aZ (aE (bw hr) (ax ay (aa 0) af) bq) (ae (dv (eO (aa 1) (ax ay (aa 0) af) af) (aa 1) (ax ay (aa 0) af)) ak) ak) (ae (aZ (aE (bw hr) (ax ay (aa 0) af) bq) (ae (dv (aB bf (aa 2) (eO (aa 1) (ax ay (aa 0) af) af)) (aa 1) (ax ay (aa 0) af)) ak) ak) (ae (aZ (aE (bw hr) (ax ay (aa 0) af) bq) (ae (dv (bY (sZ rfl) rfl mm sS (ac (aB mq (aa 2) af) (ac af ag))) (aa 1) (ax ay (aa 0) af)) ak) ak) ak)))))
 ·rintro ws G q e ⟨x,r,d,kvs,rfl,hx,hk,hd,hi,hl,hq⟩;cases hx with
  | set=>
    rename_i b o n;walk_at "a0";refine⟨⟨_,hd⟩,b,kvs,rfl,hd,?_⟩;rw[hi.get b];subst hU;refine aF λU hU=>?_;walk_at "t0";walk_at "R";refine⟨.int n,rfl,d,b,kvs,rfl,rfl,hd,by lia,?_⟩;subst hU;walk_at "k0";walk_at "k0";walk_at "R";exact aC.done hq
  | copy=>
    rename_i b o n;walk_at "a0";refine⟨⟨_,hd⟩,b,kvs,rfl,hd,?_⟩;rw[hi.get b];subst hU;walk_at "k0";refine aF λU hU=>?_;walk_at "t0";walk_at "R";refine⟨⟨_,hd⟩,o,kvs,rfl,hd,?_⟩;rw[hi.get o];refine⟨d,b,kvs,rfl,rfl,hd,by lia,?_⟩;subst hU;walk_at "k0";walk_at "R";exact aC.done hq
  | add=>
    rename_i b o n;walk_at "a0";refine⟨⟨_,hd⟩,b,kvs,rfl,hd,?_⟩;rw[hi.get b];subst hU;walk_at "k0";walk_at "k0";refine aF λU hU=>?_;walk_at "t0";walk_at "R";refine⟨⟨_,hd⟩,o,kvs,rfl,hd,?_⟩;rw[hi.get o];walk_at "R";refine⟨d,b,kvs,rfl,rfl,hd,by lia,?_⟩;subst hU;walk_at "R";exact aC.done hq
  | less=>
    rename_i b o n;walk_at "a0";refine⟨⟨_,hd⟩,b,kvs,rfl,hd,?_⟩;rw[hi.get b];subst hU;walk_at "k0";walk_at "k0";walk_at "k0";walk_at "R";refine⟨d,b,kvs,rfl,rfl,hd,by lia,?_⟩;exact aC.done hq
  | times h hs=>exact absurd hk (by simp[kd])
  | count h hs=>exact absurd hk (by simp[kd])
  | whl h hm ok hs=>exact absurd hk (by simp[kd])
  | bear h hm ok hs=>exact absurd hk (by simp[kd])
theorem uW {ms:List (O×Str)} (h:∀m,m∈ms->ql m.1):∀m,m∈ms->m.1.NF/\m.1.dp<=3/\O.hw m.1<=100:=λm hm=>by
 have x:=h m hm;have:=x.hw;exact⟨x.nf,x.dp,by lia⟩
noncomputable def CG:bV:=λws G q _=>∃(m d:Addr) (ms:List (O×Str)) (kvs:List (aS×W)) (B:Int),ws=[.ref m,.ref d]/\G m=some (.lst (gz ms))/\ym ms/\G d=some (.dic kvs)/\di B kvs/\0<=B/\q (.tup (ao (bp (aR kvs) (cr ms)))) G
theorem E8 (F:cz K "_law_measured" "_law_measured" (aN 46) f fd) (F1:Fx P w K mg base "merged" ["a","b"] 2 Aw) (F2:Fx P w K mg base "raised" ["exponent","times"] 2 oY):cc P w K mg base 3 f fd ["_law_marks_here","_law_having"] CG:=by
 refine dy F (N:=["_law_marks_here","_law_having","_law_found","_law_exponent_here","_law_box"]) (by walk_at "s") (by walk_at "l") λ_ _ _ _ _ _ nd hr=>?_;apply aM
 ·exact(ae (aG 2 nd rfl (.inl rfl) (aP ag)) (ae (dQ PySem.PassesOwn.never rfl (ck (aa 0)) (ja rfl (cB (ci 3 nd rfl (.inl rfl)) (cB (ci 4 nd rfl (.inl rfl)) fV))) (ae (aG 2 nd rfl (.inl rfl) (aq F1 (av.mono hr (by lia)) rfl (ac (aa 2) (ac (aq F2 (av.mono hr (by lia)) rfl (ac (aa 3) (ac (eO (aa 1) (aa 4) af) ag))) ag)))) ak)) (ae (aA (aa 2)) ak)))
 ·rintro ws G q e ⟨m,d,ms,kvs,B,rfl,hG,hm,hd,hB,B0,hq⟩;have hg:∀x,0<=aR kvs x:=λx=>(hB.get B0 x).1;have hi:=hB.int;have h5:=hm.1;walk_at "a0";walk_at "a";refine⟨_,hG,cm (λws τ G'=>G'=G/\∃(done todo:List (O×Str)) (t2 t3:Option W),ws=gz todo/\τ=[some (.ref m),some (.ref d),some (.tup (ao (bp (aR kvs) (cr done)))),t2,t3]/\done++todo=ms) ?_ ?_ _ _ _ ⟨rfl,[],ms,none,none,rfl,rfl,rfl⟩⟩
  ·rintro τ G' ⟨rfl,done,todo,t2,t3,hw,rfl,hp⟩;refine⟨hG,?_⟩;have hb:todo=[]:=by simpa using hw.symm
   subst hb;rw[append_nil] at hp;subst hp;subst hU;walk_at "R";exact aC.done hq
  ·rintro w1 ws τ G' kk ⟨rfl,done,todo,t2,t3,hw,rfl,hp⟩ hk;cases todo with
   | nil=>cases hw
   | cons x todo=>
     cases hw;refine⟨hG,?_⟩;have hin:∀y,y∈done++[x]->ql y.1:=λy hy=>hm.2 y (by
      rw[←hp];rcases mem_append.mp hy with hy | hy
      ·exact mem_append_left _ hy
      ·rw[mem_singleton.mp hy];simp)
     have e:=qY hg (uW hin);have ed:=iM (uW λy hy=>hin y (mem_append_left _ hy));have d1:=iL (aR kvs) ed;have l1:=fc (aR kvs) (cr done);have l2:(cr done).length<=done.length:=by
      unfold cr;have:=ie (done.map (·.1));rw[length_map] at this ⊢;exact this
     have l3:done.length<=ms.length:=by rw[←hp,length_append];lia
     simp only[qJ,i9,qI,cV,List.set_cons_succ,List.set_cons_zero];refine⟨rfl,?_⟩;walk_at "R";refine⟨⟨_,hd⟩,x.2,kvs,rfl,hd,?_⟩;rw[hi.get x.2];refine⟨x.1,aR kvs x.2,rfl,hg _,?_⟩;show Aw [W.tup (ao (bp (aR kvs) (cr done))),W.tup (ao (iy x.1 (aR kvs x.2)))] G' _ _;refine⟨bp (aR kvs) (cr done),iy x.1 (aR kvs x.2),rfl,by lia,by lia,?_,hk _ _ ⟨rfl,done++[x],todo,_,_,rfl,by rw[e],by rw[append_assoc];exact hp⟩⟩;unfold iy;split
     ·exact zero_le _
     ·show 0+1<=1000;decide
noncomputable def CH:bV:=λws G q _=>∃(t d:Addr) (p0:W×Row) (ps:List (W×Row)) (kvs:List (aS×W)) (G0:Gp),ws=[.ref t,.ref d]/\G t=some (.lst (cA (p0::ps)))/\uN G0 G/\bH G0 (p0::ps)/\Sz p0.2/\ps.length<=30000/\G d=some (.dic kvs)/\(∃B:Int,di B kvs/\0<=B)/\kvs.length<=1000/\(dY kvs p0.2->q .non G)/\
 (¬dY kvs p0.2->∀(p:Addr) (G':Gp) (ps':List (W×Row)),(∀x g,x≠d->G x=some g->G' x=some g)->G' d=some (.dic (cY kvs p0.2))->G p=none->G' p=some (.lst (cA ps'))->bH G0 ps'->bE ps'=dq kvs p0.2++bE ps->q (.ref p) G')
theorem AB (x:W) (xs:List W):dM (x::xs) 0=some x:=bQ (j:=0) rfl
theorem jF (p0:W×Row) (ps:List (W×Row)):cN (cA (p0::ps)) (some 1) none=cA ps:=d9 (cA (p0::ps)) 1
theorem fq {G0 G:Gp} {q:WK} {t d:Addr} {p0:W×Row} {ps:List (W×Row)} {kvs:List (aS×W)} (ht:G t=some (.lst (cA (p0::ps)))) (hT:bH G0 (p0::ps)) (hd:G d=some (.dic kvs)) (hs:dq kvs p0.2=[])
 (hq:∀(p:Addr) (G':Gp) (ps':List (W×Row)),(∀x g,x≠d->G x=some g->G' x=some g)->G' d=some (.dic (cY kvs p0.2))->G p=none->G' p=some (.lst (cA ps'))->bH G0 ps'->bE ps'=dq kvs p0.2++bE ps->q (.ref p) G') (p:Addr) (hp:aK G d (.dic (cY kvs p0.2)) p=none):q (.ref p) (aK (aK G d (.dic (cY kvs p0.2))) p (.lst (cA ps))):=by
 have pd:p≠d:=λz=>by rw[z,ah] at hp;cases hp
 have hp0:G p=none:=by rw[ap pd] at hp;exact hp
 have keep:∀x g,x≠d->G x=some g->aK (aK G d (.dic (cY kvs p0.2))) p (.lst (cA ps)) x=some g:=λx g xd e=>by
  rw[ap (λz=>by rw[z,hp0] at e;cases e),ap xd];exact e
 refine hq p _ ps keep ((ap pd.symm).trans ah) hp0 ah (λx hx=>hT x (yay _ hx)) (by rw[hs];rfl)
theorem E9 (F:cz K "_law_step" "_law_step" (aN 47) f fd) (F1:Fx P w K mg base "_law_done" ["_law_thing","_law_having"] 1 CF) (F2:Fx P w K mg base "_law_measured" ["_law_marks_here","_law_having"] 3 CG) (F3:Fx P w K mg base "compare" ["a","b"] 1 rA):cc P w K mg base 4 f fd ["_law_things","_law_having"] CH:=by
 refine dy F (N:=["_law_things","_law_having","_law_first","_law_now"]) (by walk_at "s") (by walk_at "l") λ_ _ _ _ _ _ nd hr=>?_;apply aM
 ·exact(ae (aG 2 nd rfl (.inl rfl) (ax ay (aa 0) af)) (ae (aZ (aE (bw hr) (ax ay (aa 2) af) bq) (ae (aA (aB bf (bA (ac (aP (ac bq (ac (eO (aa 1) (ax ay (aa 2) af) af) (ac (ax ay (aa 2) af) ag)))) ag)) (bo (aa 0) (bG af) bO))) ak) ak) (ae (aZ (fU (dc (aE (bw hr) (ax ay (aa 2) af) bq) (cC (aE (bw hr) (ax ay (aa 2) af) af)))) (ae (aA (bo (aa 0) (bG af) bO)) ak) ak) (ae (aZ (aE (bw hr) (ax ay (aa 2) af) bq) (ae (aA (aB bf (aB bf (ax ay (aa 2) af) (bA (ac (aP (ac bq (ac (aB mq (ax ay (aa 2) af) af) (ac (ax ay (aa 2) af) ag)))) ag))) (bo (aa 0) (bG af) bO))) ak) ak) (ae (aZ (aE (bw hr) (ax ay (aa 2) af) bq) (ae (aZ (aE (bw hr) (eO (aa 1) (ax ay (aa 2) af) af) af) (ae (aA (bo (aa 0) (bG af) bO)) ak) ak) (ae (aG 3 nd rfl (.inl rfl) (aq F2 (av.mono hr (by lia)) rfl (ac (ax ay (aa 2) af) (ac (aa 1) ag)))) (ae (aZ (fU (dc (aE zq (ax ay (aa 2) af) iY) (cC (aE (iA hr) (aq F3 (av.mono hr (by lia)) rfl (ac (aa 3) (ac (ax ay (aa 2) af) ag))) (eY af))))) (ae (aA iY) ak) ak) (ae (aA (aB bf (aB bf (ax ay (aa 2) af) (bA (ac (aP (ac bq (ac (ax ay (aa 2) af) (ac (ax ay (aa 2) af) (ac (ax ay (aa 2) af) (ac (aa 3) ag)))))) ag))) (bo (aa 0) (bG af) bO))) ak)))) ak) (ae (cE (aq F1 (av.mono hr (by lia)) rfl (ac (aa 2) (ac (aa 1) ag)))) (ae (aA (bo (aa 0) (bG af) bO)) ak)))))))
 ·rintro ws G q e ⟨t,d,p0,ps,kvs,G0,rfl,ht,ll,hT,hz,hn,hd,⟨B,hB,B0⟩,hl,hx,hq⟩;have hi:=hB.int;have h0:=hT p0 yaz;have td:t≠d:=λz=>by rw[z,hd] at ht;cases ht
  obtain⟨x,r⟩:=p0;walk_at "a0";refine⟨_,_,ht,AB _ _,?_⟩;dsimp only at h0 hz hx hq ⊢;cases h0 with
  | set=>
    subst hU;walk_at "k2";walk_at "k2";walk_at "k2";walk_at "k2";walk_at "R";refine⟨_,.set _ _,d,kvs,rfl,.set,by simp[kd],hd,hi,hl,_,(ap td).trans ht,λp hp=>?_⟩;rw[jF];exact aC.done (fq ht hT hd rfl (hq id) p hp)
  | copy=>
    subst hU;walk_at "k2";walk_at "k2";walk_at "k2";walk_at "k2";walk_at "R";refine⟨_,.copy _ _,d,kvs,rfl,.copy,by simp[kd],hd,hi,hl,_,(ap td).trans ht,λp hp=>?_⟩;rw[jF];exact aC.done (fq ht hT hd rfl (hq id) p hp)
  | add=>
    subst hU;walk_at "k2";walk_at "k2";walk_at "k2";walk_at "k2";walk_at "R";refine⟨_,.add _ _,d,kvs,rfl,.add,by simp[kd],hd,hi,hl,_,(ap td).trans ht,λp hp=>?_⟩;rw[jF];exact aC.done (fq ht hT hd rfl (hq id) p hp)
  | less=>
    subst hU;walk_at "k2";walk_at "k2";walk_at "k2";walk_at "k2";walk_at "R";refine⟨_,.less _,d,kvs,rfl,.less,by simp[kd],hd,hi,hl,_,(ap td).trans ht,λp hp=>?_⟩;rw[jF];exact aC.done (fq ht hT hd rfl (hq id) p hp)
  | times h hs=>
    rename_i b l ws rs;walk_at "a";refine⟨⟨_,hd⟩,b,kvs,rfl,hd,?_⟩;rw[hi.get b];intro p hp;have le1:=aC.new (g:=GO.lst [W.tup [.str "count",.int (aR kvs b),.ref l]]) hp;refine⟨_,le1 _ _ ht,λp1 hp1=>?_⟩;rw[jF];have le2:=le1.trans (aC.new (g:=GO.lst (cA ps)) hp1);refine⟨_,_,aH ah hp1,ah,by simp only[length_map,length_cons,length_nil];lia,λp2 hp2=>?_⟩;have le3:=le2.trans (aC.new (g:=GO.lst ([W.tup [.str "count",.int (aR kvs b),.ref l]]++cA ps)) hp2);refine aC.done (hq id p2 _ ((W.tup [.str "count",.int (aR kvs b),.ref l],.count rs (aR kvs b))::ps) (λx g _ e=>le3 _ _ e) (le3 _ _ hd) (bB le2 hp2) ah (λy hy=>?_) rfl);rcases mem_cons.mp hy with rfl | hy
    ·exact .count h hs
    ·exact hT y (yay _ hy)
  | count h hs=>
    rename_i n l ws rs;obtain⟨qs,rfl,hL,hQ⟩:=hs.psq;have hll:=gv rs;have hzb:=(gy hz).1.hb;have hql:qs.length=rs.L.length:=by rw[hL,length_map]
    subst hU;walk_at "k2";refine aF λU hU=>?_
    try walk_at "t2"
    walk_at "R";refine gl (λhn0=>?_) (λhn0=>?_)
    ·refine⟨_,ht,λp hp=>?_⟩;rw[jF];have le1:=aC.new (g:=GO.lst (cA ps)) hp;refine aC.done (hq id p _ ps (λx g _ e=>le1 _ _ e) (le1 _ _ hd) hp ah (λy hy=>hT y (yay _ hy)) ?_);show _=(if n=0 then [] else rs.L++[Rq.count rs (n-1)])++_;rw[ycx hn0]
     rfl
    ·walk_at "a";intro p hp;have le1:=aC.new (g:=GO.lst [W.tup [.str "count",.int (n-1),.ref l]]) hp;refine⟨_,_,le1 _ _ (ll _ _ h),ah,by simp only[length_map,length_cons,length_nil];lia,λp1 hp1=>?_⟩;have le2:=le1.trans (aC.new (g:=GO.lst (cA qs++[W.tup [.str "count",.int (n-1),.ref l]])) hp1);refine⟨_,le2 _ _ ht,λp2 hp2=>?_⟩;rw[jF];have le3:=le2.trans (aC.new (g:=GO.lst (cA ps)) hp2);refine⟨_,_,aH ah hp2,ah,by simp only[length_map,length_append,length_cons,length_nil];lia,λp3 hp3=>?_⟩;have le4:=le3.trans (aC.new (g:=GO.lst ((cA qs++[W.tup [.str "count",.int (n-1),.ref l]])++cA ps)) hp3);refine aC.done (hq id p3 _ (qs++(W.tup [.str "count",.int (n-1),.ref l],.count rs (n-1))::ps) (λx g _ e=>le4 _ _ e) (le4 _ _ hd) (bB le3 hp3) ?_ (λy hy=>?_) ?_)
     ·rw[ah];simp[cA]
     ·rcases mem_append.mp hy with hy | hy
      ·exact hQ y hy
      ·rcases mem_cons.mp hy with rfl | hy
       ·exact .count h hs
       ·exact hT y (yay _ hy)
     ·show _=(if n=0 then [] else rs.L++[Rq.count rs (n-1)])++_;rw[ybv hn0,hL];simp[bE]
  | whl h hm ok hs=>
    rename_i b l m ms ws rs;obtain⟨qs,rfl,hL,hQ⟩:=hs.psq;subst hU;walk_at "k2";walk_at "k2";walk_at "k2";refine aF λU1 hU1=>?_;refine C0 λTT VV DD hTT hVV hDD=>?_;walk_at "R";subst hTT hDD;refine aF λU2 hU2=>?_;walk_at "R";refine⟨⟨_,hd⟩,b,kvs,rfl,hd,?_⟩;rw[hi.get b];walk_at "R";have hg:=hB.get B0 b;have hll:=gv rs;have hzb:=(lB hz).1.hb;have hql:qs.length=rs.L.length:=by rw[hL,length_map]
    by_cases hn0:aR kvs b=0
    ·rw[ycx hn0];refine⟨_,ht,λp hp=>?_⟩;rw[jF];have le1:=aC.new (g:=GO.lst (cA ps)) hp;refine aC.done (hq id p _ ps (λx g _ e=>le1 _ _ e) (le1 _ _ hd) hp ah (λy hy=>hT y (yay _ hy)) ?_);show _=(if aR kvs b=0 then [] else rs.L++[Rq.bear b (cr ms) rs (bp (aR kvs) (cr ms))])++_;rw[ycx hn0]
     rfl
    ·rw[ybv hn0];subst hU2;refine aF λU2 hU2=>?_;walk_at "R";refine⟨_,bQ (j:=3) rfl,m,d,ms,kvs,B,rfl,ll _ _ hm,ok,hd,hB,B0,?_⟩;subst hU2;refine aF λU2 hU2=>?_;walk_at "R";refine⟨_,bQ (j:=4) rfl,?_⟩;rw[ybv (by decide)];subst hU2;walk_at "R";refine⟨_,bQ (j:=3) rfl,?_⟩;intro p hp;have le1:=aC.new (g:=GO.lst [W.tup [.str "while",.str b,.ref l,.ref m,.tup (ao (bp (aR kvs) (cr ms)))]]) hp;refine⟨_,_,le1 _ _ (ll _ _ h),ah,by simp only[length_map,length_cons,length_nil];lia,λp1 hp1=>?_⟩;have le2:=le1.trans (aC.new (g:=GO.lst (cA qs++[W.tup [.str "while",.str b,.ref l,.ref m,.tup (ao (bp (aR kvs) (cr ms)))]])) hp1);refine⟨_,le2 _ _ ht,λp2 hp2=>?_⟩;rw[jF];have le3:=le2.trans (aC.new (g:=GO.lst (cA ps)) hp2);refine⟨_,_,aH ah hp2,ah,by simp only[length_map,length_append,length_cons,length_nil];lia,λp3 hp3=>?_⟩;have le4:=le3.trans (aC.new (g:=GO.lst ((cA qs++[W.tup [.str "while",.str b,.ref l,.ref m,.tup (ao (bp (aR kvs) (cr ms)))]])++cA ps)) hp3);refine aC.done (hq id p3 _ (qs++(W.tup [.str "while",.str b,.ref l,.ref m,.tup (ao (bp (aR kvs) (cr ms)))],.bear b (cr ms) rs (bp (aR kvs) (cr ms)))::ps) (λx g _ e=>le4 _ _ e) (le4 _ _ hd) (bB le3 hp3) ?_ (λy hy=>?_) ?_)
     ·rw[ah];simp[cA]
     ·rcases mem_append.mp hy with hy | hy
      ·exact hQ y hy
      ·rcases mem_cons.mp hy with rfl | hy
       ·exact .bear h hm ok hs
       ·exact hT y (yay _ hy)
     ·show _=(if aR kvs b=0 then [] else rs.L++[Rq.bear b (cr ms) rs (bp (aR kvs) (cr ms))])++_;rw[ybv hn0,hL];simp[bE]
  | bear h hm ok hs=>
    rename_i b l m ms ws rs o;obtain⟨qs,rfl,hL,hQ⟩:=hs.psq;subst hU;walk_at "k2";walk_at "k2";walk_at "k2";refine aF λU1 hU1=>?_;refine C0 λTT VV DD hTT hVV hDD=>?_;walk_at "R";subst hTT hDD;refine aF λU2 hU2=>?_;walk_at "R";refine⟨⟨_,hd⟩,b,kvs,rfl,hd,?_⟩;rw[hi.get b];walk_at "R";have hg:=hB.get B0 b;have hll:=gv rs;have hzb:=(iP hz).1.hb;have hql:qs.length=rs.L.length:=by rw[hL,length_map]
    by_cases hn0:aR kvs b=0
    ·rw[ycx hn0];refine⟨_,ht,λp hp=>?_⟩;rw[jF];have le1:=aC.new (g:=GO.lst (cA ps)) hp;refine aC.done (hq (λz=>absurd z.1 (by (clear hn B0 hl hg hll hzb hql;lia))) p _ ps (λx g _ e=>le1 _ _ e) (le1 _ _ hd) hp ah (λy hy=>hT y (yay _ hy)) ?_);show _=(if aR kvs b=0 then [] else rs.L++[Rq.bear b (cr ms) rs (bp (aR kvs) (cr ms))])++_;rw[ycx hn0]
     rfl
    ·rw[ybv hn0];subst hU2;refine aF λU2 hU2=>?_;walk_at "R";refine⟨_,bQ (j:=3) rfl,m,d,ms,kvs,B,rfl,ll _ _ hm,ok,hd,hB,B0,?_⟩;subst hU2;refine aF λU2 hU2=>?_;walk_at "R";refine⟨_,bQ (j:=4) rfl,?_⟩;rw[ycx (by rfl)];have dpm:=iL (aR kvs) (iM (uW ok.2));refine⟨_,bQ (j:=4) rfl,bp (aR kvs) (cr ms),o,rfl,by lia,?_⟩;walk_at "R";refine gl (λhc=>aC.done (hx ⟨by (clear hn B0 hl hll hzb hql dpm;lia),by rcases O.cmp_range (bp (aR kvs) (cr ms)) o with e | e | e<;> (clear hn B0 hl hg hll hzb hql hn0 dpm;lia)⟩)) λhc=>?_;have hc:O.cmp (bp (aR kvs) (cr ms)) o= -1:=by (clear hn B0 hl hg hll hzb hql hn0 dpm;lia)
     subst hU2;walk_at "R";refine⟨_,bQ (j:=3) rfl,?_⟩;intro p hp;have le1:=aC.new (g:=GO.lst [W.tup [.str "while",.str b,.ref l,.ref m,.tup (ao (bp (aR kvs) (cr ms)))]]) hp;refine⟨_,_,le1 _ _ (ll _ _ h),ah,by simp only[length_map,length_cons,length_nil];(clear hn B0 hl hg hn0 dpm hc;lia),λp1 hp1=>?_⟩;have le2:=le1.trans (aC.new (g:=GO.lst (cA qs++[W.tup [.str "while",.str b,.ref l,.ref m,.tup (ao (bp (aR kvs) (cr ms)))]])) hp1);refine⟨_,le2 _ _ ht,λp2 hp2=>?_⟩;rw[jF];have le3:=le2.trans (aC.new (g:=GO.lst (cA ps)) hp2);refine⟨_,_,aH ah hp2,ah,by simp only[length_map,length_append,length_cons,length_nil];(clear B0 hl hg hn0 dpm hc;lia),λp3 hp3=>?_⟩;have le4:=le3.trans (aC.new (g:=GO.lst ((cA qs++[W.tup [.str "while",.str b,.ref l,.ref m,.tup (ao (bp (aR kvs) (cr ms)))]])++cA ps)) hp3);refine aC.done (hq (λz=>by have:=z.2;(clear hn B0 hl hg hll hzb hql hn0 dpm hc;lia)) p3 _ (qs++(W.tup [.str "while",.str b,.ref l,.ref m,.tup (ao (bp (aR kvs) (cr ms)))],.bear b (cr ms) rs (bp (aR kvs) (cr ms)))::ps) (λx g _ e=>le4 _ _ e) (le4 _ _ hd) (bB le3 hp3) ?_ (λy hy=>?_) ?_)
     ·rw[ah];simp[cA]
     ·rcases mem_append.mp hy with hy | hy
      ·exact hQ y hy
      ·rcases mem_cons.mp hy with rfl | hy
       ·exact .bear h hm ok hs
       ·exact hT y (yay _ hy)
     ·show _=(if aR kvs b=0 then [] else rs.L++[Rq.bear b (cr ms) rs (bp (aR kvs) (cr ms))])++_;rw[ybv hn0,hL];simp[bE]
noncomputable def AC:bV:=λws G q _=>∃(m:Addr) (ms:List (O×Str)),ws=[.ref m]/\G m=some (.lst (gz ms))/\ym ms/\q (.tup (ao (hpw (cr ms)))) G
theorem Fa (F:cz K "_law_height" "_law_height" (aN 48) f fd) (F1:Fx P w K mg base "whole" ["n"] 3 ia) (F2:Fx P w K mg base "compare" ["a","b"] 1 rA) (F3:Fx P w K mg base "plus" ["a","b"] 3 hJ) (F4:AH P w K mg base "raised" ["exponent","times"] 2 oY [.int 1]) (ml:mg "len"=none):cc P w K mg base 4 f fd ["_law_marks_here"] AC:=by
 refine dy F (N:=["_law_marks_here","_law_above","_law_exponent_here","_law_box"]) (by walk_at "s") (by walk_at "l") λ_ _ _ _ _ _ nd hr=>?_;apply aM
 ·exact(ae (aZ (aE (bw hr) (bY dW rfl ml PySem.boot_len (ac (aa 0) ag)) af) (ae (aA (aq F1 (av.mono hr (by lia)) rfl (ac af ag))) ak) ak) (ae (aG 1 nd rfl (.inl rfl) (ax ay (ax ay (aa 0) af) af)) (ae (dQ PySem.PassesOwn.never rfl (ck (aa 0)) (ja rfl (cB (ci 2 nd rfl (.inl rfl)) (cB (ci 3 nd rfl (.inl rfl)) fV))) (ae (aZ (aE (bw hr) (aq F2 (av.mono hr (by lia)) rfl (ac (aa 2) (ac (aa 1) ag))) af) (ae (aG 1 nd rfl (.inl rfl) (aa 2)) ak) ak) ak)) (ae (aA (kT F4 (av.mono hr (by lia)) rfl (ac (aq F3 (av.mono hr (by lia)) rfl (ac (aa 1) (ac (aq F1 (av.mono hr (by lia)) rfl (ac af ag)) ag))) ag))) ak))))
 ·rintro ws G q e ⟨m,ms,rfl,hG,hm,hq⟩;have h3:=hm.1;walk_at "a0";refine⟨_,.lst hG,?_⟩;cases ms with
  | nil=>
    rw[ycx (show((gz []).length:Int)=0 from rfl)];exact⟨1,rfl,by decide,aC.done hq⟩
  | cons m0 ms=>
    rw[ybv (by rw[length_map,length_cons];lia)];have x0:=hm.2 m0 yaz;walk_at "a";refine⟨_,.tup [.tup (ao m0.1),.str m0.2],hG,bQ (j:=0) rfl,?_⟩;walk_at "R";walk_at "a";refine⟨_,hG,cm (λws τ G'=>G'=G/\∃(a:O) (todo:List (O×Str)) (t2 t3:Option W),ws=gz todo/\τ=[some (.ref m),some (.tup (ao a)),t2,t3]/\e9 a (todo.map (·.1))=e9 m0.1 ((m0::ms).map (·.1))/\ql a/\∀x,x∈todo->ql x.1) ?_ ?_ _ _ _ ⟨rfl,m0.1,m0::ms,none,none,rfl,rfl,rfl,x0,hm.2⟩⟩
    ·rintro τ G' ⟨rfl,a,todo,t2,t3,hw,rfl,ha,xa,_⟩;refine⟨hG,?_⟩;have hb:todo=[]:=by simpa using hw.symm
     subst hb;have e1:=Wb.wh (n:=1) (by decide);have ll:=O.len_le_hw a;have lh:=xa.hw;subst hU;walk_at "R";refine⟨1,rfl,by decide,a,O.wh 1,rfl,xa.nf,ybz xa.dp (by decide),ybz e1.dp (by decide),by lia,ybz e1.ln (by decide),O.plusO a (O.wh 1),1,rfl,by decide,aC.done ?_⟩;have e2:hpw (cr (m0::ms))=.c (O.plusO a (O.wh 1)) 1 .z:=by
      unfold hpw;rw[wf,←ha]
      rfl
     rw[e2] at hq;exact hq
    ·rintro w1 ws τ G' kk ⟨rfl,a,todo,t2,t3,hw,rfl,ha,xa,hx⟩ hk;cases todo with
     | nil=>cases hw
     | cons m1 todo=>
       cases hw;refine⟨hG,?_⟩;have x1:=hx m1 yaz;walk_at "R";refine⟨m1.1,a,rfl,ybz x1.dp (by decide),?_⟩;walk_at "R";have st:e9 (if O.cmp m1.1 a=1 then m1.1 else a) (todo.map (·.1))=e9 m0.1 ((m0::ms).map (·.1)):=ha
       by_cases hc:O.cmp m1.1 a=1
       ·rw[ycx hc] at st ⊢;exact hk _ _ ⟨rfl,m1.1,todo,_,_,rfl,rfl,st,x1,λx h=>hx x (yay _ h)⟩
       ·rw[ybv hc] at st ⊢;exact hk _ _ ⟨rfl,a,todo,_,_,rfl,rfl,st,xa,λx h=>hx x (yay _ h)⟩
noncomputable def CI (d:Nat):bV:=λws G q _=>∃(x:W) (r:Row),ws=[x]/\Th G x r/\Sz r/\r.dt<d/\q (.tup (ao r.wt)) G
noncomputable def uX (d:Nat):bV:=λws G q _=>∃(l:Addr) (ps:List (W×Row)),ws=[.ref l]/\G l=some (.lst (cA ps))/\bH G ps/\(∀x,x∈ps->Sz x.2)/\((bE ps).map Rq.lb).sum<=20000/\(∀x,x∈ps->x.2.dt<d)/\q (.tup (ao (bS (bE ps)))) G
theorem rG {r:Row} (hr:r.nn) {rs:List Row} (h:∀r,r∈rs->r.nn):bS (rs++[r])=O.plusO r.wt (bS rs):=by
 rw[mL h (λx hx=>by rw[mem_singleton.mp hx];exact hr)];show O.plusO (O.plusO .z r.wt) _=_;rw[O.z_plus]
theorem lM {G:Gp} {ws:List W} {rs:aU Str} {d:Nat} (hs:jG G ws rs) (z:jN rs) (hd:rs.dt<d):∃ps,ws=cA ps/\bH G ps/\(∀x,x∈ps->Sz x.2)/\((bE ps).map Rq.lb).sum<=20000/\(∀x,x∈ps->x.2.dt<d)/\bS (bE ps)=rs.wt:=by
 obtain⟨ps,e,hL,hT⟩:=hs.psq;have hm:∀y,y∈ps->y.2∈rs.L:=λy hy=>by rw[hL];exact mem_map.mpr ⟨y,hy,rfl⟩
 have h1:=jB rs;have h2:=cF rs;have h3:=z.hb;rw[hL] at h1;exact⟨ps,e,hT,λy hy=>z.mem _ (hm y hy),by lia,λy hy=>Nat.lt_of_le_of_lt (ic (yby _) _ (hm y hy)) hd,by rw[←hL,yi]⟩
theorem CJ {d k:Nat} (hk3:3<=k) (F:cz K "_law_weight" "_law_weight" (aN 50) f fd) (F0:Fx P w K mg base "_law_of_thing" ["_law_thing"] k (CI d)) (F3:Fx P w K mg base "plus" ["a","b"] 3 hJ):cc P w K mg base (k+1) f fd ["_law_things"] (uX d):=by
 refine dy F (N:=["_law_things","_law_found","_law_thing"]) (by walk_at "s") (by walk_at "l") λ_ _ _ _ _ _ nd hr=>?_;apply aM
 ·exact(ae (aG 1 nd rfl (.inl rfl) (aP ag)) (ae (dQ PySem.PassesOwn.never rfl (ck (aa 0)) (ci 2 nd rfl (.inl rfl)) (ae (aG 1 nd rfl (.inl rfl) (aq F3 (av.mono hr hk3) rfl (ac (aq F0 (av.mono hr (by lia)) rfl (ac (aa 2) ag)) (ac (aa 1) ag)))) ak)) (ae (aA (aa 1)) ak)))
 ·rintro ws G q e ⟨l,ps,rfl,hG,hT,hS,ht,hd,hq⟩;walk_at "a0";walk_at "a";refine⟨_,hG,cm (λws τ G'=>G'=G/\∃(done todo:List (W×Row)) (t:Option W),ws=cA todo/\τ=[some (.ref l),some (.tup (ao (bS (bE done)))),t]/\done++todo=ps) ?_ ?_ _ _ _ ⟨rfl,[],ps,none,rfl,rfl,rfl⟩⟩
  ·rintro τ G' ⟨rfl,done,todo,t,hw,rfl,hp⟩;refine⟨hG,?_⟩;have hb:todo=[]:=by simpa using hw.symm
   subst hb;rw[append_nil] at hp;subst hp;subst hU;walk_at "R";exact aC.done hq
  ·rintro w1 ws τ G' kk ⟨rfl,done,todo,t,hw,rfl,hp⟩ hk;cases todo with
   | nil=>cases hw
   | cons x todo=>
     cases hw;refine⟨hG,?_⟩;have hx:x∈ps:=by rw[←hp];simp
     have hdn:∀y,y∈done->y∈ps:=λy hy=>by rw[←hp];exact mem_append_left _ hy
     have hts:((bE ps).map Rq.lb).sum=((bE done).map Rq.lb).sum+(x.2.lb+((bE todo).map Rq.lb).sum):=by
      rw[←hp];simp only[bE,map_append,sum_append,map_cons,sum_cons]
     have zx:=hS x hx;have wx:=x.2.wq zx.nn;have l1:=wx.ln;have nnd:∀r,r∈bE done->r.nn:=λr hr=>by
      obtain⟨y,hy,rfl⟩:=mem_map.mp hr;exact(hS y (hdn y hy)).nn
     obtain⟨s1,s2,s3⟩:=lH (bE done) nnd;walk_at "R";refine⟨x.1,x.2,rfl,hT x hx,zx,hd x hx,x.2.wt,bS (bE done),rfl,wx.nf,ybz wx.dp (by decide),by lia,by lia,by lia,?_⟩;refine hk _ _ ⟨rfl,done++[x],todo,some x.1,rfl,?_,by rw[append_assoc];exact hp⟩;rw[←rG zx.nn nnd];simp only[bE,map_append,map_cons,map_nil]
theorem CK {d k:Nat} (hk3:4<=k) (F:cz K "_law_of_thing" "_law_of_thing" (aN 49) f fd) (F0:Fx P w K mg base "_law_weight" ["_law_things"] k (uX d)) (F1:Fx P w K mg base "whole" ["n"] 3 ia) (F2:Fx P w K mg base "endless" [] 4 xu) (F3:Fx P w K mg base "plus" ["a","b"] 3 hJ) (F4:Fx P w K mg base "times" ["a","b"] 4 oW) (F5:Fx P w K mg base "_law_height" ["_law_marks_here"] 4 AC):cc P w K mg base (k+1) f fd ["_law_thing"] (CI (d+1)):=by
 refine dy F (N:=["_law_thing"]) (by walk_at "s") (by walk_at "l") λ_ _ _ _ _ _ nd hr=>?_;apply aM
 ·exact(ae (aZ (aE (bw hr) (ax ay (aa 0) af) bq) (ae (aA (aq F4 (av.mono hr hk3) rfl (ac (aq F3 (av.mono hr (by lia)) rfl (ac (aq F0 (av.mono hr (by lia)) rfl (ac (ax ay (aa 0) af) ag)) (ac (aq F1 (av.mono hr (by lia)) rfl (ac af ag)) ag))) (ac (sP F2 (av.mono hr hk3) rfl) ag)))) ak) ak) (ae (aZ (aE (bw hr) (ax ay (aa 0) af) bq) (ae (aA (aq F3 (av.mono hr (by lia)) rfl (ac (aq F4 (av.mono hr hk3) rfl (ac (aq F3 (av.mono hr (by lia)) rfl (ac (aq F0 (av.mono hr (by lia)) rfl (ac (ax ay (aa 0) af) ag)) (ac (aq F1 (av.mono hr (by lia)) rfl (ac af ag)) ag))) (ac (aq F1 (av.mono hr (by lia)) rfl (ac (ax ay (aa 0) af) ag)) ag))) (ac (aq F1 (av.mono hr (by lia)) rfl (ac af ag)) ag)))) ak) ak) (ae (aZ (fU (dc (aE (bw hr) (ax ay (aa 0) af) bq) (cC (aE xW (ax ay (aa 0) af) iY)))) (ae (aA (aq F3 (av.mono hr (by lia)) rfl (ac (aq F4 (av.mono hr hk3) rfl (ac (aq F3 (av.mono hr (by lia)) rfl (ac (aq F0 (av.mono hr (by lia)) rfl (ac (ax ay (aa 0) af) ag)) (ac (aq F1 (av.mono hr (by lia)) rfl (ac af ag)) ag))) (ac (aq F5 (av.mono hr hk3) rfl (ac (ax ay (aa 0) af) ag)) ag))) (ac (aq F1 (av.mono hr (by lia)) rfl (ac af ag)) ag)))) ak) ak) (ae (aZ (aE (bw hr) (ax ay (aa 0) af) bq) (ae (aA (aq F3 (av.mono hr (by lia)) rfl (ac (aq F4 (av.mono hr hk3) rfl (ac (aq F3 (av.mono hr (by lia)) rfl (ac (aq F0 (av.mono hr (by lia)) rfl (ac (ax ay (aa 0) af) ag)) (ac (aq F1 (av.mono hr (by lia)) rfl (ac af ag)) ag))) (ac (ax ay (aa 0) af) ag))) (ac (aq F1 (av.mono hr (by lia)) rfl (ac af ag)) ag)))) ak) ak) (ae (aA (aq F1 (av.mono hr (by lia)) rfl (ac af ag))) ak)))))
 ·rintro ws G q e ⟨x,r,rfl,hx,hz,hd,hq⟩;have e1:=Wb.wh (n:=1) (by decide);have e2:=Wb.wh (n:=2) (by decide);have c0:=jz;cases hx with
  | set=>
    walk_at "k0";walk_at "k0";walk_at "k0";walk_at "k0";walk_at "R";exact⟨1,rfl,by decide,aC.done hq⟩
  | copy=>
    walk_at "k0";walk_at "k0";walk_at "k0";walk_at "k0";walk_at "R";exact⟨1,rfl,by decide,aC.done hq⟩
  | add=>
    walk_at "k0";walk_at "k0";walk_at "k0";walk_at "k0";walk_at "R";exact⟨1,rfl,by decide,aC.done hq⟩
  | less=>
    walk_at "k0";walk_at "k0";walk_at "k0";walk_at "k0";walk_at "R";exact⟨1,rfl,by decide,aC.done hq⟩
  | times h hs'=>
    rename_i b l ws rs;have d6:rs.dt+1<d+1:=hd;have z:=nq hz;obtain⟨ps,rfl,hT,hS,ht,hdd,es⟩:=lM (d:=d) hs' z (by lia);obtain⟨r1,r2,r3,r4⟩:=lz z;have w0:=aU.wq rs z.nn;have l1:=w0.ln;have l2:=cF rs;have l3:=z.hb;walk_at "a0";refine⟨l,ps,rfl,h,hT,hS,ht,hdd,?_⟩;rw[es];exact⟨1,rfl,by decide,rs.wt,O.wh 1,rfl,w0.nf,ybz w0.dp (by decide),ybz e1.dp (by decide),by (clear hk3 c0 hd d6 ht r2 r3 r4;lia),ybz e1.ln (by decide),rfl,rs.rnd,om,rfl,r1,pQ,by lia,by decide,by lia,by decide,ydx r4 (ydx (by decide+kernel) c0),ydx (by decide:O.mx om<=1) (ydx (by decide+kernel) c0),aC.done hq⟩
  | count h hs'=>
    rename_i n l ws rs;have d6:rs.dt+1<d+1:=hd;obtain⟨z,n0,n1⟩:=gy hz;obtain⟨ps,rfl,hT,hS,ht,hdd,es⟩:=lM (d:=d) hs' z (by lia);obtain⟨r1,r2,r3,r4⟩:=lz z;have w0:=aU.wq rs z.nn;have l1:=w0.ln;have l2:=cF rs;have l3:=z.hb;have y:=Wq.wh n0;have x:=(aU.rb z.nn).many n0;have x1:=x.ln;have y2:=y.hw;have y3:=y.mx;have y4:=y.dp;have n2:O.mx (O.wh n)<=10^300:=by (clear hk3 c0 hd d6 ht r2 r3 r4 l1 l2 l3 x1 y2 y4;lia)
    walk_at "k0";refine aF λU hU=>?_
    try walk_at "t0"
    walk_at "R";refine⟨l,ps,rfl,h,hT,hS,ht,hdd,?_⟩;rw[es];exact⟨1,rfl,by decide,rs.wt,O.wh 1,rfl,w0.nf,ybz w0.dp (by decide),ybz e1.dp (by decide),by (clear hk3 c0 hd d6 n0 n1 ht r2 r3 r4 x1 y2 y3 y4 n2;lia),ybz e1.ln (by decide),n,rfl,n0,rs.rnd,O.wh n,rfl,r1,y.nf,by lia,by lia,by lia,by lia,ydx r4 (ydx (by decide+kernel) c0),ydx n2 (ydx (by decide+kernel) c0),1,rfl,by decide,O.timesO rs.rnd (O.wh n),O.wh 1,rfl,x.nf,ybz x.dp (by decide),ybz e1.dp (by decide),by (clear hk3 c0 hd d6 n0 n1 ht r2 r3 r4 l1 y2 y3 y4 n2;lia),ybz e1.ln (by decide),aC.done hq⟩
  | whl h hm ok hs'=>
    rename_i b l m ms ws rs;have d6:rs.dt+1<d+1:=hd;obtain⟨z,_,_,_⟩:=lB hz;obtain⟨ps,rfl,hT,hS,ht,hdd,es⟩:=lM (d:=d) hs' z (by lia);obtain⟨r1,r2,r3,r4⟩:=lA z;obtain⟨m1,m2,m3⟩:=o0 ok;obtain⟨p1,p2⟩:=oA m1;have w0:=aU.wq rs z.nn;have l1:=w0.ln;have l2:=cF rs;have l3:=z.hb;have x:=w0.plus (Wq.wh (n:=2) (by decide));have y:=x.times p1 p2 (ybz (d3 _ _) (Nat.add_le_add_right x.ln _));have y1:=y.ln;have y2:(hpw (cr ms)).len=1:=rfl;have y3:(O.timesO rs.rnw (hpw (cr ms))).len<=40000:=ybz y1 (by (clear hk3 c0 hd d6 ht r2 r3 r4 m2 m3 p2 l1 y1;lia));walk_at "k0";walk_at "k0";refine aF λU hU=>?_
    try walk_at "t0"
    walk_at "R";refine⟨_,bQ (j:=4) rfl,?_⟩;rw[ycx (by rfl)];refine⟨l,ps,rfl,h,hT,hS,ht,hdd,?_⟩;rw[es];exact⟨2,rfl,by decide,rs.wt,O.wh 2,rfl,w0.nf,ybz w0.dp (by decide),ybz e2.dp (by decide),by (clear hk3 c0 hd d6 ht r2 r3 r4 m2 m3 p2 y1 y2 y3;lia),ybz e2.ln (by decide),_,bQ (j:=3) rfl,m,ms,rfl,hm,ok,rs.rnw,hpw (cr ms),rfl,r1,p1,by lia,by lia,by lia,by lia,ydx r4 (ydx (by decide+kernel) c0),ydx m3 (ydx (by decide+kernel) c0),1,rfl,by decide,O.timesO rs.rnw (hpw (cr ms)),O.wh 1,rfl,y.nf,ybz y.dp (by decide),ybz e1.dp (by decide),y3,ybz e1.ln (by decide),aC.done hq⟩
  | bear h hm ok hs'=>
    rename_i b l m ms ws rs o;have d6:rs.dt+1<d+1:=hd;obtain⟨z,_,o1,o2,o3,o4⟩:=iP hz;obtain⟨ps,rfl,hT,hS,ht,hdd,es⟩:=lM (d:=d) hs' z (by (clear hk3 c0 hd o2 o3 o4;lia));obtain⟨r1,r2,r3,r4⟩:=lA z;have w0:=aU.wq rs z.nn;have l1:=w0.ln;have l2:=cF rs;have l3:=z.hb;have lt:=d3 rs.rnw o;have l4:=O.len_le_hw rs.rnw;have l5:=O.len_le_hw o;have nt:=r1.times o1;have dt:=O.dp_times rs.rnw o;walk_at "k0";walk_at "k0";refine aF λU hU=>?_
    try walk_at "t0"
    walk_at "R";refine⟨_,bQ (j:=4) rfl,?_⟩;rw[ybv (by simp[j6])];walk_at "a";refine⟨l,ps,rfl,h,hT,hS,ht,hdd,?_⟩;rw[es];exact⟨2,rfl,by decide,rs.wt,O.wh 2,rfl,w0.nf,ybz w0.dp (by decide),ybz e2.dp (by decide),by (clear hk3 c0 hd d6 o2 o3 o4 ht r2 r3 r4 lt l4 l5 dt;lia),ybz e2.ln (by decide),_,bQ (j:=4) rfl,rs.rnw,o,rfl,r1,o1,by lia,by lia,by lia,by lia,ydx r4 (ydx (by decide+kernel) c0),ydx o4 (ydx (by decide+kernel) c0),1,rfl,by decide,O.timesO rs.rnw o,O.wh 1,rfl,nt,by (clear hk3 c0 hd d6 o3 o4 ht r3 r4 l1 l2 l3 lt l4 l5;lia),ybz e1.dp (by decide),by (clear hk3 c0 hd d6 o2 o4 ht r2 r4 l1 l2 l3 dt;lia),ybz e1.ln (by decide),aC.done hq⟩
theorem CL (T:Txt K mg) (F1:Fx P w K mg base "whole" ["n"] 3 ia) (F2:Fx P w K mg base "endless" [] 4 xu) (F3:Fx P w K mg base "plus" ["a","b"] 3 hJ) (F4:Fx P w K mg base "times" ["a","b"] 4 oW) (F5:Fx P w K mg base "_law_height" ["_law_marks_here"] 4 AC):∀d:Nat,Fx P w K mg base "_law_weight" ["_law_things"] (2*d+6) (uX d)
 | 0=>T.d__law_weight.fx λf fd F=>CJ (k:=5) (by decide) F (T.d__law_of_thing.fx λf fd F=>cc.none λws G q e ⟨t,_,_,_,_,h,_⟩=>by lia) F3
 | d+1=>T.d__law_weight.fx λf fd F=>CJ (k:=2*d+7) (by lia) F (T.d__law_of_thing.fx λf fd F=>CK (k:=2*d+6) (by lia) F (CL T F1 F2 F3 F4 F5 d) F1 F2 F3 F4 F5) F3
noncomputable def xC (s:List Row×List (aS×W)) (k:Nat):List W:=(List.range k).map λj=> .tup (ao (bS (bu s j).1))
theorem xD (s:List Row×List (aS×W)) (k:Nat):xC s (k+1)=xC s k++[.tup (ao (bS (bu s k).1))]:=by
 unfold xC;rw[List.range_succ,map_append]
 rfl
theorem lN (s:List Row×List (aS×W)) (k:Nat):(xC s k).length=k:=by unfold xC;rw[length_map,List.length_range]
theorem uY {s:List Row×List (aS×W)} (h:∀r,r∈s.1->r.dt<=3):∀n,∀r,r∈(bu s n).1->r.dt<=3
 | 0=>h
 | n+1=>by
   have ih:=uY h n;show ∀r,r∈(nD (bu s n)).1->r.dt<=3;generalize bu s n=x at ih;obtain⟨st,kv⟩:=x;cases st with
   | nil=>exact λr hr=>(nomatch hr)
   | cons r st=>
     intro y hy;rcases mem_append.mp hy with hy | hy
     ·refine zL (g:=aR kv) (ih r yaz) y ?_;have e:Fp (aR kv) r=dq kv r:=by cases r<;> rfl
      rw[e];exact hy
     ·exact ih y (yay _ hy)
noncomputable def CM:bV:=λws G q _=>∃(p b:Addr) (ps:List (W×Row)) (kvs:List (aS×W)) (m s0 l0:Nat) (B:Int),ws=[.ref p,.ref b,.int (m:Int)]/\G p=some (.lst (cA ps))/\bH G ps/\G b=some (.dic kvs)/\rD True s0 l0 B 0 (bE ps,kvs)/\0<=B/\(∀i,i<=m->B*2^i<=10^100)/\(∀i,i<=m->l0+(3*s0+2)*i<=20000)/\m<=60/\(∀r,r∈bE ps->r.dt<=3)/\
 ∀(G':Gp) (D:Addr) (n:Nat),aC G G'->G D=none->G' D=some (.lst (xC (bE ps,kvs) (n+1)))->n<=m->(∀k,k<n->(bu (bE ps,kvs) k).1≠[]/\¬lG (bu (bE ps,kvs) k))->q (.ref D) G'
structure Ds (G0 G:Gp) (t d D:Addr) (s:List Row×List (aS×W)) (i:Nat) (qs:List (W×Row)):Prop where
 le:aC G0 G
 gt:G t=some (.lst (cA qs))
 hr:bE qs=(bu s i).1
 ro:bH G0 qs
 gd:G d=some (.dic (bu s i).2)
 gD:G D=some (.lst (xC s (i+1)))
 fd:G0 d=none
 fD:G0 D=none
 ne:∀k,k<i->(bu s k).1≠[]/\¬lG (bu s k)
theorem Fb (F:cz K "_law_dues" "_law_dues" (aN 51) f fd) (F1:Fx P w K mg base "_law_weight" ["_law_things"] 14 (uX 4)) (F2:Fx P w K mg base "_law_step" ["_law_things","_law_having"] 4 CH) (md:mg "dict"=none) (mli:mg "list"=none) (ml:mg "len"=none):cc P w K mg base 15 f fd ["_law_rows_here","_law_boxes","_law_most"] CM:=by
 refine dy F (N:=["_law_rows_here","_law_boxes","_law_most","_law_having","_law_things","_law_dues_here"]) (by walk_at "s") (by walk_at "l") λ_ _ _ _ _ _ nd hr=>?_;apply aM
 ·exact(ae (aG 3 nd rfl (.inl rfl) (bL (ug rfl) rfl md oN (ac (aa 1) ag))) (ae (aG 4 nd rfl (.inl rfl) (bL (lu rfl) rfl mli kP (ac (aa 0) ag))) (ae (aG 5 nd rfl (.inl rfl) (bA (ac (aq F1 (av.mono hr (by lia)) rfl (ac (aa 4) ag)) ag))) (ae (fW PySem.PassesOwn.never (fU (dc (aE sH (bY dW rfl ml PySem.boot_len (ac (aa 4) ag)) af) (cC (aE zh (bY dW rfl ml PySem.boot_len (ac (aa 5) ag)) (aa 2))))) (ae (aG 4 nd rfl (.inl rfl) (aq F2 (av.mono hr (by lia)) rfl (ac (aa 4) (ac (aa 3) ag)))) (ae (aZ (aE xW (aa 4) iY) (ae (aA (aa 5)) ak) ak) (ae (cE (eA (aa 5) (aq F1 (av.mono hr (by lia)) rfl (ac (aa 4) ag)))) ak)))) (ae (aA (aa 5)) ak)))))
 ·rintro ws G q e ⟨p,b,ps,kvs,m,s0,l0,B,rfl,hp,hT,hb,hO,hB0,hBi,hLi,hm,hdt,hq⟩;have szs:∀i,i<=m->∀r,r∈(bu (bE ps,kvs) i).1->Sz r:=λi hi r hr=>uI (hBi i hi) r ((hO.run hB0 i).g r hr);have lbs:∀i,i<=m->((bu (bE ps,kvs) i).1.map Rq.lb).sum<=20000:=λi hi=>ybz (hO.run hB0 i).l (hLi i hi);have wts:∀(i:Nat) (G1:Gp) (t:Addr) (qs:List (W×Row)) (Q:WK),i<=m->G1 t=some (.lst (cA qs))->bE qs=(bu (bE ps,kvs) i).1->bH G1 qs->Q (.tup (ao (bS (bu (bE ps,kvs) i).1))) G1->uX 4 [.ref t] G1 Q λ_ _=>False:=λi G1 t qs Q hi ht hr hQ h=>by
   refine⟨t,qs,rfl,ht,hQ,λx hx=>szs i hi x.2 (by rw[←hr];exact mem_map.mpr ⟨x,hx,rfl⟩),by rw[hr];exact lbs i hi,λx hx=>by have:=uY hdt i x.2 (by show x.2∈(bu (bE ps,kvs) i).1;rw[←hr];exact mem_map.mpr ⟨x,hx,rfl⟩);lia,by rw[hr];exact h⟩
  have hpl:ps.length<=20000:=by
   have:=lJ (bE ps);have h2:((bE ps).map Rq.lb).sum<=20000:=lbs 0 (by lia);rw[length_map] at this;lia
  walk_at "a0";refine⟨kvs,.dic (.inl hb),λd hd0=>?_⟩;have le1:=aC.new (g:=GO.dic kvs) hd0;have g1:=ah (G:=G) (a:=d) (g:=GO.dic kvs);generalize aK G d (.dic kvs)=G1 at le1 g1 ⊢;walk_at "a";refine⟨_,.lst (le1 _ _ hp),λt0 ht0=>?_⟩;have le2:=le1.trans (aC.new (g:=GO.lst (cA ps)) ht0);have g2d:=aH (g:=GO.lst (cA ps)) g1 ht0;have g2t:=ah (G:=G1) (a:=t0) (g:=GO.lst (cA ps));generalize aK G1 t0 (.lst (cA ps))=G2 at le2 g2d g2t ⊢;walk_at "a";refine wts 0 G2 t0 ps _ (by lia) g2t rfl (hT.mono (aC.ls le2)) ?_;intro D hD;have S0:Ds G (aK G2 D (.lst [.tup (ao (bS (bu (bE ps,kvs) 0).1))])) t0 d D (bE ps,kvs) 0 ps:=
   ⟨le2.trans (aC.new hD),aH g2t hD,rfl,hT,aH g2d hD,ah,hd0,bB le2 hD,λk hk=>absurd hk (Nat.not_lt_zero _)⟩
  generalize aK G2 D (.lst [.tup (ao (bS (bu (bE ps,kvs) 0).1))])=G3 at S0 ⊢;clear le2 g2d g2t hD le1 g1 hd0 ht0;subst hU;refine aF λU hU=>?_;refine oG (λj τ G'=>∃(i:Nat) (qs:List (W×Row)) (t:Addr),Ds G G' t d D (bE ps,kvs) i qs/\τ=[some (.ref p),some (.ref b),some (.int (m:Int)),some (.ref d),some (.ref t),some (.ref D)]/\i<=m/\j=m-i) ⟨_,0,ps,t0,S0,rfl,by lia,rfl⟩ ?_;rintro j τ G' ⟨i,qs,t,S,rfl,him,rfl⟩ B' hB';clear S0;walk_at "R";have fin:U { nx:=λx G1=>∃G0,aC G0 G1/\q W.non G0,rt:=λw G1=>∃G0,aC G0 G1/\q w G0 } [some (W.ref p),some (W.ref b),some (W.int (m:Int)),some (W.ref d),some (W.ref t),some (W.ref D)] G':=by
   subst hU;walk_at "R";exact aC.done (hq G' D i S.le S.fD S.gD him S.ne)
  refine⟨_,.lst S.gt,gl (λh0=>?_) λ_=>fin⟩;refine⟨_,.lst S.gD,?_⟩;rw[lN];refine gl (λh1=>?_) λ_=>fin;have hi1:i+1<=m:=by (clear hB0 hm hpl him h0;lia)
  cases qs with
  | nil=>exact absurd h0 (by decide)
  | cons p0 qs=>
    have hrun:bu (bE ps,kvs) i=(p0.2::bE qs,(bu (bE ps,kvs) i).2):=by rw[Prod.ext_iff];exact⟨S.hr.symm,rfl⟩
    have hnx:bu (bE ps,kvs) (i+1)=(dq (bu (bE ps,kvs) i).2 p0.2++bE qs,cY (bu (bE ps,kvs) i).2 p0.2):=by
     show nD (bu (bE ps,kvs) i)=_;rw[hrun]
     rfl
    have hbad:lG (bu (bE ps,kvs) i)=dY (bu (bE ps,kvs) i).2 p0.2:=by rw[hrun];rfl
    refine⟨λτ1 G1=>∃(qs':List (W×Row)) (t':Addr),Ds G G1 t' d D (bE ps,kvs) (i+1) qs'/\τ1=[some (.ref p),some (.ref b),some (.int (m:Int)),some (.ref d),some (.ref t'),some (.ref D)],?_,?_⟩
    ·rintro τ1 G1 ⟨qs',t',S',rfl⟩;exact⟨m- (i+1),by (clear hB0 hm hpl him hi1 h0;lia),i+1,qs',t',S',rfl,hi1,rfl⟩
    ·have hOi:=hO.run hB0 i;have hp0:(0:Int)<=B*2^i:=Int.mul_nonneg hB0 (Int.le_of_lt (Int.pow_pos (by decide)));have hki:=hOi.k;have hql:qs.length<=20000:=by
      have h1:=lJ (bu (bE ps,kvs) i).1;have h2:=lbs i (by assumption);rw[hrun] at h1 h2;dsimp only at h1 h2;simp only[length_cons,length_map] at h1
      (clear hB0 hm hpl him hi1 h0 hp0 hki;lia)
     have dD:D≠d:=λz=>by have:=S.gD;rw[z,S.gd] at this;cases this
     subst hB';refine aF λU1 hU1=>?_;walk_at "R";refine⟨t,d,p0,qs,_,G,rfl,S.gt,aC.ls S.le,S.ro,szs i (by assumption) _ (by rw[hrun];exact yaz),by lia,S.gd,⟨_,hOi.b,hp0⟩,by (clear hB0 hpl him hi1 h0 hp0 hql;lia),λhno=>?_,λhno t' G4 qs' k4 d4 ft' g4 hT4 e4=>?_⟩
     ·walk_at "b";exact aC.done (hq G' D i S.le S.fD S.gD him S.ne)
     have gD4:=k4 D _ dD S.gD;have le4:aC G G4:=λx g e=>k4 x g (λz=>by rw[z,S.fd] at e;cases e) (S.le x g e);have e4':bE qs'=(bu (bE ps,kvs) (i+1)).1:=by rw[hnx];exact e4
     have d4':G4 d=some (.dic (bu (bE ps,kvs) (i+1)).2):=by rw[hnx];exact d4
     walk_at "b";subst hU1;walk_at "R";refine⟨⟨_,gD4⟩,wts (i+1) G4 t' qs' _ hi1 g4 e4' (hT4.mono (aC.ls le4)) ⟨_,gD4,by rw[lN];(clear hB0 hpl him hi1 h0 hp0 hki hql;lia),?_⟩⟩;have td:t'≠D:=λz=>by rw[z,S.gD] at ft';cases ft'
     refine⟨qs',t',⟨λx g e=>?_,(ap td).trans g4,e4',hT4,(ap dD.symm).trans d4',?_,S.fd,S.fD,λk hk=>?_⟩,rfl⟩
     ·rw[ap (λz=>by rw[z,S.fD] at e;cases e)];exact le4 x g e
     ·rw[ah,xD _ (i+1)]
     ·rcases lt_or_ge k i with z | z
      ·exact S.ne k z
      ·have:k=i:=by (clear hB0 hm hpl him h1 hi1 h0 hp0 hki hql;lia)
       rw[this];exact⟨by rw[hrun];exact List.cons_ne_nil _ _,by rw[hbad];exact hno⟩
noncomputable def AI (kvs:List (aS×W)):Prop:=(kvs.map (·.1)).Nodup
noncomputable def Dd (kvs:List (aS×W)):Prop:=∀p,p∈kvs->∃z:Str,p.1=.inr z
theorem AI.put {kvs:List (aS×W)} (h:AI kvs) (k:aS) (w:W):AI (dg kvs k w):=by
 unfold AI dg at*;split
 ·rw[map_map];have:kvs.map ((λx:aS×W=>x.1) ∘ λkv=>if kv.1=k then (kv.1,w) else kv)=kvs.map (·.1):=List.map_congr_left λx _=>by
   show(if x.1=k then (x.1,w) else x).1=x.1;split<;> rfl
  rw[this];exact h
 ·rename_i e;rw[map_append,List.nodup_append];refine⟨h,by simp,λa ha b hb z=>e ?_⟩;obtain⟨x,hx,rfl⟩:=mem_map.mp ha;rw[mem_singleton.mp hb] at z;exact List.any_eq_true.mpr ⟨x,hx,ycw z⟩
theorem Dd.put {kvs:List (aS×W)} (h:Dd kvs) (k:Str) (w:W):Dd (dg kvs (.inr k) w):=by
 unfold dg;split
 ·intro p hp;obtain⟨x,hx,rfl⟩:=mem_map.mp hp;obtain⟨z,hz⟩:=h x hx;refine⟨z,?_⟩;split<;> exact hz
 ·intro p hp;rcases mem_append.mp hp with hp | hp
  ·exact h p hp
  ·rw[mem_singleton.mp hp];exact⟨k,rfl⟩
structure AD (kvs:List (aS×W)):Prop where
 i:jP kvs
 n:AI kvs
 s:Dd kvs
theorem AD.nil:AD []:=⟨λ_ h=>(nomatch h),by simp[AI],λ_ h=>(nomatch h)⟩
theorem AD.put {kvs:List (aS×W)} (h:AD kvs) (k:Str) (n:Int):AD (dg kvs (.inr k) (.int n)):=⟨h.i.put _ _,h.n.put _ _,h.s.put _ _⟩
noncomputable def AE (s:List Row×List (aS×W)) (k:Nat):List Addr->List (O×Addr)
 | []=>[]
 | p::ps=>(bS (bu s k).1,p)::AE s (k+1) ps
theorem uZ (s:List Row×List (aS×W)):∀(k:Nat) (ds:List Addr),rE s k ds=(AE s k ds).map λp=> .tup [.tup (ao p.1),.ref p.2]
 | _,[]=>rfl
 | k,p::ds=>by rw[rE,AE,map_cons,uZ s (k+1) ds]
theorem u0 (s:List Row×List (aS×W)):∀(k:Nat) (ds:List Addr),((AE s k ds).map λp=>W.tup (ao p.1))=(List.range' k ds.length).map λj=> .tup (ao (bS (bu s j).1))
 | _,[]=>rfl
 | k,p::ds=>by rw[AE,map_cons,u0 s (k+1) ds,length_cons,List.range'_succ,map_cons]
theorem lO (s:List Row×List (aS×W)):∀(k:Nat) (ds:List Addr),(AE s k ds).length=ds.length
 | _,[]=>rfl
 | k,p::ds=>by rw[AE,length_cons,lO s (k+1) ds,length_cons]
noncomputable def again (b:Bool) {α:Type} (l:List α):List α:=if b=true then l++l.drop (l.length-1) else l
theorem ii {α β:Type} (f:α->β) (b:Bool) (l:List α):(again b l).map f=again b (l.map f):=by
 unfold again;split
 ·rw[map_append,map_drop,length_map]
 ·rfl
theorem ft {α:Type} {b:Bool} {l:List α} {x:α} (h:x∈again b l):x∈l:=by
 unfold again at h;split at h
 ·rcases mem_append.mp h with h | h
  ·exact h
  ·exact List.mem_of_mem_drop h
 ·exact h
theorem CN {ps:List (W×Row)} {kvs:List (aS×W)} (h1:CB ps) (h2:eS ps<=24) (h3:di (10^50) kvs) (h4:kvs.length<=4) (b:Bool):rD True 72 144 (10^50) 0 (bE (again b ps),kvs):=by
 have hs:ib (10^50) (aU.of (bE ps)):=lK λr hr=>by
  obtain⟨z,hz,rfl⟩:=mem_map.mp hr;exact(h1 z hz).1
 refine⟨λr hr=>?_,?_,?_,by show kvs.length<=_;lia⟩
 ·obtain⟨z,hz,rfl⟩:=mem_map.mp hr;have hz:=ft hz;have:=yn hz;rw[Int.pow_zero,Int.mul_one];exact uQ _ (h1 z hz).1 (by lia) (h1 z hz).2
 ·rw[Int.pow_zero,Int.mul_one];exact h3
 ·have a:=jB (aU.of (bE ps));rw[aU.L_of] at a;have c:=(jE _ hs).2.2.2;rw[gF] at c;show((bE (again b ps)).map Rq.lb).sum<=_;have e:(bE (again b ps))=again b (bE ps):=ii _ b ps;rw[e];unfold again;split
  ·have d:(((bE ps).drop ((bE ps).length-1)).map Rq.lb).sum<=((bE ps).map Rq.lb).sum:=by
    have:=congrArg (λl=>(List.map Rq.lb l).sum) (List.take_append_drop ((bE ps).length-1) (bE ps));simp only[map_append,sum_append] at this;lia
   rw[map_append,sum_append];lia
  ·lia
theorem u3 (i:Nat) (h:i<=61):(10:Int)^50*2^i<=10^100:=by
 have h1:(2:Int)^i<=2^61:=by exact_mod_cast Nat.pow_le_pow_right (n:=2) (by decide) h
 exact ydx (Int.mul_le_mul_of_nonneg_left h1 (by decide)) (by decide+kernel)
noncomputable def four:List Str:=["a","b","c","d"]
theorem xE (c:Int):∃n:Nat,dM [W.int 10,.int 17,.int 17,.int 17] (c%4)=some (.int (n:Int))/\5<=n/\n<=17:=by
 have h:c%4=0∨c%4=1∨c%4=2∨c%4=3:=by lia
 rcases h with h | h | h | h<;> rw[h]
 ·exact⟨10,rfl,by decide,by decide⟩
 ·exact⟨17,rfl,by decide,by decide⟩
 ·exact⟨17,rfl,by decide,by decide⟩
 ·exact⟨17,rfl,by decide,by decide⟩
theorem xG (c:Int):∃n:Int,dM [W.int 60,.int 15,.int 15,.int 15] (c%4)=some (.int n)/\0<n/\n<=60:=by
 have h:c%4=0∨c%4=1∨c%4=2∨c%4=3:=by lia
 rcases h with h | h | h | h<;> rw[h]
 ·exact⟨60,rfl,by decide,by decide⟩
 ·exact⟨15,rfl,by decide,by decide⟩
 ·exact⟨15,rfl,by decide,by decide⟩
 ·exact⟨15,rfl,by decide,by decide⟩
noncomputable def CO (C:Cs) (Cf:Addr) (cp:Prop):bV:=λws G q _=>Cr C Cf cp ws G q λ_ _=>False
theorem Fc {C:Cs} {Cf:Addr} (F:cz K "law" "law" (aN 52) f fd) (F1:Fx P w K mg base "_law_cell_at" ["_law_script","_law_k"] 1 Ct) (F3:Fx P w K mg base "_law_amount" ["_law_cell"] 1 Ax) (F4:Fx P w K mg base "_law_rows" ["_law_cells","_law_names"] 7 CC) (F5:Fx P w K mg base "_law_made" ["_law_thing"] 13 (uU C 4))
 (F6:Fx P w K mg base "trace" ["rows","boxes","most"] 9 (CO C Cf True)) (F7:Fx P w K mg base "_law_dues" ["_law_rows_here","_law_boxes","_law_most"] 15 CM) (mr:mg "range"=none) (ml:mg "len"=none) (mi:mg "isinstance"=none) (mli:mg "list"=none):cc P w K mg base 100 f fd ["_law_script"] gY:=by
 refine dy (k:=99) F (N:=["_law_script","_law_names","_law_boxes","_law_k","_law_cell","_law_first","_law_rows_here","_law_made_here","_law_dues_here","_law_found"]) (by walk_at "s") (by walk_at "l") λ_ _ _ _ _ _ nd hr=>?_;apply aM
 ·refine' ae ?s1 (ae ?s2 (ae ?s3 (ae ?s4 (ae ?s5 (ae ?s6 (ae ?s7 (ae ?s8 (ae ?s9 ?s10))))))))
  case s1=>exact(aG 1 nd rfl (.inl rfl) (bA (ac bq (ac bq (ac bq (ac bq ag))))))
  case s2=>exact(aG 2 nd rfl (.inl rfl) wS)
  case s3=>exact(dQ PySem.PassesOwn.never rfl (mv rfl mr (ac af ag)) (ci 3 nd rfl (.inl rfl)) (ae (aG 4 nd rfl (.inl rfl) (aq F1 (av.mono hr (by lia)) rfl (ac (aa 0) (ac (aB bf af (aa 3)) ag)))) (ae (aZ (aE (iA hr) (aB bZ (aa 4) af) af) (ae (dv (aq F3 (av.mono hr (by lia)) rfl (ac (aB bT (aa 4) af) ag)) (aa 2) (ax ay (aa 1) (aa 3))) ak) ak) ak)))
  case s4=>exact(aG 5 nd rfl (.inl rfl) (aq F1 (av.mono hr (by lia)) rfl (ac (aa 0) (ac af ag))))
  case s5=>exact(aG 6 nd rfl (.inl rfl) (aq F4 (av.mono hr (by lia)) rfl (ac (bo (aa 0) (bG af) (bG (ax ay (bA (ac af (ac af (ac af (ac af ag))))) (aB bZ (aa 5) af)))) (ac (aa 1) ag))))
  case s6=>
   refine' my 7 (dR (by first | rfl | decide+kernel)) rfl (by assumption) rfl (by first | exact Or.inl rfl | exact Or.inr rfl) ?it (λ_ _ _ _=>?tg) (λ_ _ _ _=>?tt) (λ_ _ _ _=>?te)
   case it=>exact(ck (aa 6))
   case tg=>exact(cv 1 (by first | assumption | decide+kernel | rfl) rfl (.inl rfl))
   case tt=>exact dr
   case te=>exact(aq F5 (av.mono hr (by lia)) rfl (ac (aa 1) ag))
  case s7=>exact(aZ (aE (bw hr) (aB bZ (aB bT (aa 5) af) af) af) (ae (aG 6 nd rfl (.inl rfl) (aB bf (aa 6) (bo (aa 6) (bG (eY af)) bO))) (ae (aG 7 nd rfl (.inl rfl) (aB bf (aa 7) (bo (aa 7) (bG (eY af)) bO))) ak)) ak)
  case s8=>exact(aG 8 nd rfl (.inl rfl) (aq F7 (av.mono hr (by lia)) rfl (ac (aa 6) (ac (aa 2) (ac (aB bZ (aB bT (aa 5) af) (ax ay (bA (ac af (ac af (ac af (ac af ag))))) (aB bZ (aa 5) af))) ag)))))
  case s9=>exact(aG 9 nd rfl (.inl rfl) (aq F6 (av.mono hr (by lia)) rfl (ac (aa 7) (ac (aa 2) (ac (aB mq (bY dW rfl ml PySem.boot_len (ac (aa 8) ag)) af) ag)))))
  case s10=>exact(ae (aA (n5 (n9 (T:="list") (x:="list") (by first | simp[qM] | assumption | decide+kernel) kP mli rfl mi rfl (aa 9)) (sy (nY (bw hr) (fh (dR (by first | rfl | decide+kernel)) rfl (ck (aa 9)) (λ_ _ _ _=>(cv 1 (by first | assumption | decide+kernel | rfl) rfl (.inl rfl))) (λ_ _ _ _=>dr) (λ_ _ _ _=>(ax ay (aa 1) af))) (aa 8))))) ak)
 ·rintro ws G q e ⟨ns,rfl,hns,_,hq⟩;walk_at "a0";intro pn hpn;have g1n:aK G pn (.lst [W.str "a",.str "b",.str "c",.str "d"]) pn=some (.lst (u6 four)):=ah;generalize aK G pn (.lst [W.str "a",.str "b",.str "c",.str "d"])=G1 at g1n ⊢;have hnl:four.length=4:=rfl;generalize four=names at g1n hnl ⊢;have hlen:(u6 names).length=names.length:=length_map ..;clear hpn;walk_at "a";intro pb hpb;have g2n:=aH (g:=GO.dic []) g1n hpb;have g2b:=ah (G:=G1) (a:=pb) (g:=GO.dic []);generalize aK G1 pb (.dic [])=G2 at g2n g2b ⊢;have nb:pn≠pb:=λz=>by rw[z,g2b] at g2n;cases g2n
  clear g1n hpb;walk_at "a";refine pY 4 (λi τ G'=>∃t3 t4 kvs,τ=[some (.scr ns),some (.ref pn),some (.ref pb),t3,t4,none,none,none,none,none]/\AD kvs/\di (10^50) kvs/\kvs.length<=i/\G' pb=some (.dic kvs)/\G' pn=some (.lst (u6 names))) ⟨none,none,[],rfl,AD.nil,(λ_ h=>(nomatch h)),yby _,g2b,g2n⟩ ?_ ?_;rotate_left 1
  ·rintro i τ G' kk hi ⟨t3,t4,kvs,rfl,ok,bx,hkl,gb,gn⟩ hk;refine⟨trivial,?_⟩;obtain⟨x,hx,_⟩:=lr (L:=names) (i:=(i:Int)) (by (clear hns hnl hlen hkl;lia)) (by lia);have pl:=λw=>dH kvs (.inr x) w;refine aF λU1 hU1=>?_;walk_at "R";refine⟨ns,_,rfl,by (clear hns hnl hlen hkl;lia),λc1=>?_⟩;dsimp only;subst hU1;walk_at "R";refine gl (λh5=>?_) (λh5=>?_)
   ·refine⟨_,rfl,λv h0 h1=>?_⟩;walk_at "R";refine⟨_,_,gn,hx,pb,x,kvs,rfl,rfl,gb,by (clear hns hnl hlen h5 h0 h1;lia),?_⟩;exact hk _ _ ⟨_,_,_,rfl,ok.put _ _,bx.put _ (by assumption) (by assumption),ybz (pl _) (by (clear hns hnl hlen hi h5 h0 h1;lia)),ah,(ap nb).trans gn⟩
   ·exact hk _ _ ⟨_,_,_,rfl,ok,bx,by (clear hns hnl hlen hi h5;lia),gb,gn⟩
  rintro τ G3 ⟨t3,t4,kvs,rfl,ok,bx,hkl,gb,gn⟩;refine⟨trivial,?_⟩;have hk4:kvs.length<=4:=by assumption
  clear hkl g2n g2b;subst hU;dsimp only;walk_at "a0";refine⟨ns,0,rfl,by decide,λc2=>?_⟩;walk_at "a";intro ps4 hps4;obtain⟨sp,hsp,sp5,sp17⟩:=xE c2;refine⟨_,_,ah,hsp,?_⟩;have gb3:=aH (g:=GO.lst [W.int 10,.int 17,.int 17,.int 17]) gb hps4;have gn3:=aH (g:=GO.lst [W.int 10,.int 17,.int 17,.int 17]) gn hps4;generalize aK G3 ps4 (GO.lst [W.int 10,.int 17,.int 17,.int 17])=G3' at gb3 gn3 ⊢;walk_at "R";refine⟨by lia,λpc hpc=>?_⟩;obtain⟨a1,a2,ea,ha⟩:=zW (ns.map W.int) 5 sp;have ec:cN (ns.map W.int) (some 5) (some (sp:Int))=(((ns.drop a1).take a2)).map W.int:=by
   rw[List.map_take,map_drop];exact ea
  rw[ec];have h12:((ns.drop a1).take a2).length<=12:=by rw[length_take];(clear hns hnl hlen hk4;lia)
  refine⟨pc,pn,(ns.drop a1).take a2,names,rfl,ah,aH gn3 hpc,hnl,h12,λpr ps G4 le4 fpr gpr hT4 hS hpl htz=>?_⟩;have gb4:=le4 _ _ (aH (g:=GO.lst (((ns.drop a1).take a2).map W.int)) gb3 hpc);clear le4 fpr hpc ec ha ea h12 gn nb gb G3 hlen gb3 gn3 hsp sp5 sp17 hps4;walk_at "a";refine⟨_,gpr,ig (n:=1) gpr hT4 hS htz (λy hy=>by have:=(hS y hy).2;(clear hns hnl hk4 hpl htz;lia)) (by lia) (λ_=>rfl) λxs G5 le5 hX hts pm _ hpm=>?_⟩;have gm6:=ah (G:=G5) (a:=pm) (g:=GO.lst (refs xs));have le6:=le5.trans (aC.new (g:=GO.lst (refs xs)) hpm);have gb6:=le6 _ _ gb4;have gr6:=le6 _ _ gpr;have hX6:Rows C (aK G5 pm (GO.lst (refs xs))) xs:=hX.mono (aC.ins (aC.new hpm));have hT6:=hT4.mono (aC.ls le6);generalize aK G5 pm (GO.lst (refs xs))=G6 at gm6 gb6 gr6 hX6 hT6 ⊢;clear hpm hX le5 gb4 le6 gpr hT4;have hxl:xs.length=ps.length:=by have:=congrArg List.length hts;simpa using this
  subst hU;refine aF λU hU=>?_;have go:∀(b:Bool) (pr' pm':Addr) (G7:Gp),G7 pr'=some (.lst (cA (again b ps)))->G7 pm'=some (.lst (refs (again b xs)))->G7 pb=some (.dic kvs)->bH G7 (again b ps)->Rows C G7 (again b xs)->U { nx:=λx G1=>∃G0,aC G0 G1/\q W.non G0,rt:=λw G1=>∃G0,aC G0 G1/\q w G0 } [some (.scr ns),some (.ref pn),some (.ref pb),t3,t4,some (.int c2),some (.ref pr'),some (.ref pm'),none,none] G7:=λb pr' pm' G7 g7r g7m g7b hT7 hX7=>by
   have okm:=CN hS htz bx hk4 b;have ets:cO (again b xs)=bE (again b ps):=by
    show List.map _ _=List.map _ _;rw[ii,ii];exact congrArg (again b) hts
   have hdt:∀r,r∈bE (again b ps)->r.dt<=3:=λr hr=>by
    obtain⟨z,hz,rfl⟩:=mem_map.mp hr;exact(hS z (ft hz)).2
   generalize again b ps=qs at g7r hT7 okm ets hdt;generalize again b xs=ys at g7m hX7 ets;walk_at "a";intro p4 hp4;obtain⟨m4,hm4,m40,m41⟩:=xG c2;refine⟨_,_,ah,hm4,?_⟩;have le8:=aC.new (g:=GO.lst [W.int 60,.int 15,.int 15,.int 15]) hp4;generalize aK G7 p4 (GO.lst [W.int 60,.int 15,.int 15,.int 15])=G8 at le8 ⊢;simp only[zg];refine⟨by assumption,?_⟩;have mm:=jm (i:=c2/4) (j:=m4) (by assumption);obtain⟨m,hm⟩:=Int.eq_ofNat_of_zero_le mm.1;have hm60:m<=60:=by (clear hns hnl hk4 hpl htz hxl;lia)
   dsimp only;rw[hm];have hLi:∀i,i<=m->144+(3*72+2)*i<=20000:=λi hi=>by (clear hns hnl hk4 hpl htz hxl;lia)
   refine⟨pr',pb,qs,kvs,m,72,144,10^50,rfl,le8 _ _ g7r,hT7.mono (aC.ls le8),le8 _ _ g7b,okm,by decide,λi hi=>u3 i (by (clear hns hnl hk4 hpl htz hxl;lia)),hLi,hm60,hdt,λG9 D n le9 fD gD hn hne=>?_⟩;have le9:=le8.trans le9;rw[←ets] at gD hne okm;walk_at "a";refine⟨_,.lst gD,?_⟩;rw[lN,show(((n+1:Nat):Int))-1=((n:Nat):Int) by (clear hns hnl hk4 hpl htz hxl m40 m41 mm hm hm60 hn;lia)];refine⟨pm',pb,ys,kvs,n,72,144,10^50,rfl,le9 _ _ g7m,hX7.mono (aC.ins le9),le9 _ _ g7b,okm,by decide,λi hi=>u3 i (by (clear hns hnl hk4 hpl htz hxl;lia)),λi hi=>hLi i (by (clear hns hnl hk4 hpl htz hxl m40 m41 mm hm hm60;lia)),by (clear hns hnl hk4 hpl htz hxl;lia),λG' k _ hk hb _=>(hne k hk).2 hb,λG10 F1 ds k le10 fF1 hF1 hl1 hk he1 hne1 hnb1 hd1=>?_⟩;have hkn:k=n:=by
    rcases he1 with he1 | he1
    ·rcases lt_or_ge k n with z | z
     ·exact absurd he1 (hne k z).1
     ·(clear hns hnl hk4 hpl htz hxl m40 m41 mm hm hm60 hn hl1;lia)
    ·exact he1
   subst hkn;have gD10:=le10 _ _ gD;rw[uZ] at hF1;subst hU;walk_at "R";rw[show sK G10 (.ref F1)=some "list" by simp only[sK,hF1]];simp only[pX,if_true];refine⟨_,hF1,eN (i:=1) (λp:O×Addr=>W.tup [.tup (ao p.1),.ref p.2]) (λp=> .tup (ao p.1)) (τ0:=[none,none]) hF1 (λp hp k hk=>?_) (by rw[lO,hl1];show 0+_<=_;(clear hns hnl hk4 hpl htz hxl hl1 hk he1;lia)) (λ_=>rfl) λp hp=>?_⟩
   ·walk_at "R";exact hk
   ·refine⟨true,.deep ah (aH gD10 hp) ?_ λj x y hx hy=>?_,aC.done (hq _)⟩
    ·rw[nil_append,length_map,lO,hl1,lN]
    ·rw[nil_append,u0,hl1] at hx;have e:xC (cO ys,kvs) (k+1)=(List.range' 0 (k+1)).map λj=> .tup (ao (bS (bu (cO ys,kvs) j).1)):=by unfold xC;rw[List.range_eq_range']
     rw[e,hx] at hy;cases hy;obtain⟨j',hj',rfl⟩:=mem_map.mp (List.mem_of_getElem? hx);have hjk:j'<=k:=by have:=List.mem_range'_1.mp hj';(clear hns hnl hk4 hpl htz hxl m40 m41 mm hm hm60 hl1 hn hk he1 hx;lia)
     have t1:=dP (bS (bu (cO ys,kvs) j').1);have t2:=(lH (bu (cO ys,kvs) j').1 λr hr=>(nC r ((okm.run (by decide) j').g r hr)).1).2.1;exact .flat (cy _) (cy _) (by (clear hns hnl hk4 hpl htz hxl m40 m41 mm hm hm60 hl1 hn hk he1 hx hjk;lia)) (by rw[lq,ycw rfl])
  walk_at "R";refine gl (λ_=>?_) λ_=>go false pr pm G6 gr6 gm6 gb6 hT6 hX6;refine⟨_,gr6,λp1 hp1=>?_⟩;rw[kl,length_map,←map_drop];have l1:=aC.new (g:=GO.lst (cA (ps.drop (ps.length-1)))) hp1;refine⟨_,_,l1 _ _ gr6,ah,by simp only[length_map,length_drop];lia,λp2 hp2=>?_⟩;have l2:=l1.trans (aC.new (g:=GO.lst (cA ps++cA (ps.drop (ps.length-1)))) hp2);have g2:=ah (G:=aK G6 p1 (GO.lst (cA (ps.drop (ps.length-1))))) (a:=p2) (g:=GO.lst (cA ps++cA (ps.drop (ps.length-1))));generalize aK (aK G6 p1 (GO.lst (cA (ps.drop (ps.length-1))))) p2 (GO.lst (cA ps++cA (ps.drop (ps.length-1))))=G7 at l2 g2 ⊢;refine⟨_,l2 _ _ gm6,λp3 hp3=>?_⟩;rw[kl,length_map,←map_drop];have l3:=aC.new (g:=GO.lst (refs (xs.drop (xs.length-1)))) hp3;refine⟨_,_,l3 _ _ (l2 _ _ gm6),ah,by simp only[length_map,length_drop];lia,λp4 hp4=>?_⟩;have l4:=l3.trans (aC.new (g:=GO.lst (refs xs++refs (xs.drop (xs.length-1)))) hp4);have l5:=l2.trans l4;refine go true p2 p4 _ ?_ ?_ (l5 _ _ gb6) (λz hz=>(hT6 z (ft hz)).mono (aC.ls l5)) (λz hz=>(hX6 z (ft hz)).mono (aC.ins l5))
  ·refine(l4 _ _ g2).trans ?_;simp only[again,if_true,cA,map_append]
  ·rw[ah];simp only[again,if_true,refs,map_append]
theorem u4 {C:Addr} {m qual:Str} {sp:bV} (D:Md K C m qual st ps) (c:dj K C) (h:∀(f:Addr) (fd:FuncData),cz K m qual st f fd->vU P w K mg base k f fd ps sp):BQ P w K mg base C m ps k sp []:=by
 obtain⟨f,fd,hm,F,b⟩:=D;exact⟨⟨f,fd,[],[],hm,h f fd F,b,.nil,λ_=> .nil⟩,c⟩
theorem fN {C:Cs} {Cf:Addr} {i j:Nat} {qual:Str} (hi:i≠7) (hj:j<=8) (D:Md K (C.at_ i) "step" qual st ["self","boxes"]) (c:dj K (C.at_ i)) (h:∀(f:Addr) (fd:FuncData),cz K "step" qual st f fd->cc P w K mg base j f fd ["self","boxes"] (lC C i)):BQ P w K mg base (C.at_ i) "step" ["self","boxes"] 8 (rB C Cf i) []:=
 u4 D c λf fd F=>((((h f fd F).imp (λ_ _ _ _ z=>xv (Cf:=Cf) hi z)).toR).mono hj)
theorem AF (T:Txt K mg) (F:cz K "law" "law" (aN 52) f fd):cc P w K mg base 100 f fd ["_law_script"] gY:=by
 obtain⟨x0,x1,x2,⟨m0,e0⟩,⟨mF,e1⟩,_⟩:=T.x_;obtain⟨bF,xF⟩:=XC.of e1;obtain⟨C1,m1,c1,a11,a12,i1,t1,w1,_⟩:=T.k_Set;obtain⟨C2,m2,c2,a21,a22,i2,t2,w2,_⟩:=T.k_Copy;obtain⟨C3,m3,c3,a31,a32,i3,t3,w3,_⟩:=T.k_Add;obtain⟨C4,m4,c4,a41,i4,t4,w4,_⟩:=T.k_Less;obtain⟨C5,m5,c5,a51,a52,a53,i5,w5,t5,_⟩:=T.k_Times;obtain⟨C7,m7,c7,a71,a72,i7,w7,t7,_⟩:=T.k_Count;obtain⟨C6,m6,c6,a61,a62,a63,a64,i6,w6,t6,me6,_⟩:=T.k_While;obtain⟨C8,m8,c8,a81,a82,i8,w8,t8,_⟩:=T.k_Bearing;generalize hC:(⟨C1,C2,C3,C4,C5,C6,C7,C8⟩:Cs)=C;have e1:C.s=C1:=by rw[←hC]
 have e2:C.c=C2:=by rw[←hC]
 have e3:C.a=C3:=by rw[←hC]
 have e4:C.l=C4:=by rw[←hC]
 have e5:C.t=C5:=by rw[←hC]
 have e6:C.w=C6:=by rw[←hC]
 have e7:C.n=C7:=by rw[←hC]
 have e8:C.b=C8:=by rw[←hC]
 clear hC;subst e1 e2 e3 e4 e5 e6 e7 e8;have Wd:=T.d_is_whole.fxd (P:=P) (w:=w) (base:=base) λf fd T' ds F=>Ep F T.z_isinstance T.z_int T.z_bool;have Rs:=T.d_raised.fx λf fd T' ds F=>Cg F Wd;have Rd:=T.d_raised.fxd λf fd T' ds F=>Cg F Wd;have Wl:=T.d_whole.fx λf fd F=>Er F Rs;have En:=T.d_endless.fx λf fd F=>Et F Wl Rd;have Cm:=T.d_compare.fx (P:=P) (w:=w) (base:=base) λf fd F=>Ei F;have Pa:=T.d_parts_above.fx λf fd F=>Ej F Cm T.z_len;have Ps:=T.d_plus.fx λf fd F=>Ek F Pa T.z_len;have Wp:=T.d_whole_part.fx (P:=P) (w:=w) (base:=base) λf fd F=>El F;have Ww:=T.d_without_whole.fx λf fd F=>Em F Wp;have Ti:=T.d_times.fx λf fd F=>Eo F Wp Ww Ps T.z_tuple;have Tt:=T.d_total.fx λf fd F=>Eu F Ps;have M1:∀i,Sk True i->Mt P w K mg base (C.at_ i) "weigh" ["self"] 6 (jO C i) []:=λi hi=>by
  match i,hi with
  | 0,_=>exact w1.mt c1 λf fd F=>xt (by decide) F Wl
  | 1,_=>exact w2.mt c2 λf fd F=>xt (by decide) F Wl
  | 2,_=>exact w3.mt c3 λf fd F=>xt (by decide) F Wl
  | 3,_=>exact w4.mt c4 λf fd F=>xt (by decide) F Wl
  | 4,_=>exact w5.mt c5 λf fd F=>Ew F Ti En c5 a53
  | 5,_=>exact w6.mt c6 λf fd F=>EA F Ti Wl Ps Rd c6 a64 a62
  | 6,_=>exact w7.mt c7 λf fd F=>Ey F Ti Wl Ps c5 a53 c7 a71 a72
  | 7,_=>exact w8.mt c8 λf fd F=>Ez F Ti Wl Ps c6 a64 c8 a81 a82
  | n+8,h=>exact absurd h.1 (by lia)
 have We:=T.d_weight_of.fx λf fd F=>Ev F Tt M1 T.z_reversed;have Be:=T.d_by_exponent.fx (P:=P) (w:=w) (base:=base) λf fd F=>EM F T.z_tuple T.z_sorted;have N1:=i1.new (P:=P) (w:=w) (base:=base) m1 λf fd F=>EN F c1 a11 a12;have N2:=i2.new (P:=P) (w:=w) (base:=base) m2 λf fd F=>EO F c2 a21 a22;have N3:=i3.new (P:=P) (w:=w) (base:=base) m3 λf fd F=>EQ F c3 a31 a32;have N4:=i4.new (P:=P) (w:=w) (base:=base) m4 λf fd F=>ER F c4 a41;have N5:=i5.new m5 λf fd F=>ES F We Wl Ps T.z_tuple c5 a51 a52 a53;have N6:=i6.new m6 λf fd F=>ET F Be We Wl Ps T.z_tuple c6 a61 a62 a63 a64;have N7:=i7.new (P:=P) (w:=w) (base:=base) m7 λf fd F=>EH F c7 a71 a72;have N8:=i8.new (P:=P) (w:=w) (base:=base) m8 λf fd F=>EK F c8 a81 a82;have He:=T.d_held.fx (P:=P) (w:=w) (base:=base) λf fd F=>EB F;have Ms:=me6.mt (P:=P) (w:=w) (base:=base) c6 λf fd F=>EC F He Rs T.z_sum c6 a62;have Sw:=t6.mt (P:=P) (w:=w) (base:=base) c6 λf fd F=>Cj F He N8 Ms c6 a61 a63 T.z_list;have M2:∀i,Sk True i->BQ P w K mg base (C.at_ i) "step" ["self","boxes"] 8 (rB C x1 i) []:=λi hi=>by
  match i,hi with
  | 0,_=>exact fN (by decide) (by decide) t1 c1 λf fd F=>ED F c1 a11 a12
  | 1,_=>exact fN (by decide) (by decide) t2 c2 λf fd F=>EE F He c2 a21 a22
  | 2,_=>exact fN (by decide) (by decide) t3 c3 λf fd F=>EF F He c3 a31 a32
  | 3,_=>exact fN (by decide) (by decide) t4 c4 λf fd F=>EG F He T.z_max c4 a41
  | 4,_=>exact fN (by decide) (by decide) t5 c5 λf fd F=>EI F He N7 c5 a51
  | 5,_=>exact fN (by decide) (by decide) t6 c6 λf fd F=>(Cj F He N8 Ms c6 a61 a63 T.z_list).imp λ_ _ _ _ z=>xw z
  | 6,_=>exact fN (by decide) (by decide) t7 c7 λf fd F=>EJ F N7 c5 a52 c7 a71 a72 T.z_list
  | 7,_=>exact u4 t8 c8 λf fd F=>EL F mF xF He Cm Ms Sw c6 a61 c8 a81 a82
  | n+8,h=>exact absurd h.1 (by lia)
 have Wf:=T.d_weight_left.fx (P:=P) (w:=w) (base:=base) λf fd F=>EU F;have Pt:=T.d_put_ahead.fx λf fd F=>Co F Wf Ps M1 T.z_reversed;have To:=T.d_told.fx λf fd F=>EW F Wf T.z_dict;have Tq:=T.d_trace.fx λf fd T' ds F=>(EX F Pt To M2 T.z_dict T.z_len).calm (sp':=CO C x1 True) λ_ _ _ _ h=>h;have Mg:=T.d_merged.fx λf fd F=>EY F Cm T.z_len T.z_tuple;have Ca:=T.d__law_cell_at.fx (P:=P) (w:=w) (base:=base) λf fd F=>EZ F T.z_len;have Am:=T.d__law_amount.fx (P:=P) (w:=w) (base:=base) λf fd F=>E1 F;have Ex:=T.d__law_exponent.fx λf fd F=>E2 F Wl;have Mk:=T.d__law_marks.fx λf fd F=>E3 F Ex Wl T.z_range;have Dp:=CA (P:=P) (w:=w) (base:=base) T 5;have Ro:=T.d__law_rows.fx λf fd F=>E5 F Dp Mk Am T.z_max;have Ma:=CD T N1 N2 N3 N4 N5 N6 4;have Do:=T.d__law_done.fx (P:=P) (w:=w) (base:=base) λf fd F=>E7 F T.z_max;have Md:=T.d__law_measured.fx λf fd F=>E8 F Mg Rs;have Sp:=T.d__law_step.fx λf fd F=>E9 F Do Md Cm;have Ht:=T.d__law_height.fx λf fd F=>Fa F Wl Cm Ps Rd T.z_len;have Lt:=CL T Wl En Ps Ti Ht 4;have Du:=T.d__law_dues.fx λf fd F=>Fb F Lt Sp T.z_dict T.z_list T.z_len;exact Fc F Ca Am Ro Ma Tq Du T.z_range T.z_len T.z_isinstance T.z_list
end
noncomputable abbrev oL (x y:Str) (t:Stmt) (d a b c:Value) (n:Option Addr) (e g:Value) (o:Value) (p:Option Addr) (r:Array (Option Value)):Option Obj:=some ⟨o,p,.func (fnOf x y (aw t) (au t) (am t) d a b c n e g),r⟩
noncomputable abbrev oR (a:Addr):Option (Option Value):=some (some (.ref a))
noncomputable abbrev oB (a:String):Option (Option Value):=some (some (.builtin a))
set_option maxHeartbeats 0 in
theorem all_mk {l:PySem.W.OpenLaw} {h:Heap} {fa f1 f2 f3 f4 f5 f6 f7 f8 f9 gN gO gT gV g0 g1 dK g2 g3 g4 g5 g6 g7 g8 ha hb hc hd he hf hg hh hi hj hz:Addr} (X:K.In h) (G:h.Ns mainGlobals mg) (K6:mg "law"=some (.ref fa))
 {K7 K8 K9 La Lb Lc Ld Le Lf Lg Lh Li Lj Lk Ll Lm Ln Lo x2 x3 x7 yl ys y1 y2 y3 y4 y5 za zb zf zi zj zl zp zr zs zu zx z0 Am A0 A1 Be BT B0 B1 Ca Cd Cf Cl Cm CX C1 C2 C3 C4 C5 C6 C7 C8 Do Dp Du DD D0 En hA:Option Addr} {Lp Lq Lr Ls Lu Lv Lx Ly Lz Ex Fr F0 Gf Gn Gt GG GH GI GJ GK GL GM GN GP GQ GR GS GU GV GW GX GY GZ G0:Array (Option Value)} {LB LC LD LF xd LH LJ LK LL LM xe LN LP LQ LU LV xl LW LX LY LZ L0 xp L1 L2 L3 L4 L5 xr L6 L7 L8 L9 Ma xs Mb Mc Me Mf Mg xF Mh Mi Mj Ml Mm x0 Mn Mo Mp Mq Mr x1 Ms G1 G2 G3 G4 hB G5 G6 G7 G8 G9 hC Ha Hb Hc Hd He hD Hf Hg Hh Hj Hk hE Hl Hm Hn Ho Hq hF Hr Hs Ht Hu Hv hG Hw Hx Hy Hz HA hH HB HC HD HE HF hI HG HH HI HJ HK hK HL HM HN HP HQ hL HR HS HU HV HW hM HX HY HZ H0 H1 hN H2 H3 H4 H5 H6 hO H7 H8 H9 Ia Ib hP Ic Ie If Ig Ih hQ Ii Ij Ik Il Im hR Io Ip Iq Ir Is hS Iu Iv Iw Ix Iy hT Iz IA IB IC ID hU IE IF IG IH II hV IJ IK IL IM IN hW IP IQ IR IS IT hX IU IV IW IX IY hY IZ I0 I1 I2 I3 hZ I4 I5 h0 h1 h2 e3 h3:Value} {T1:Addr} {Mu:Value} {Mv:Option Addr} {Mw:Nat} {Mx:Array (Option Value)} {dF:Tok} {T4:Addr} {My:Value} {Mz:Option Addr} {MA:Nat} {MB:Array (Option Value)} {dI:Tok} {hk:Addr} {I6:Value} {I7:Option Addr} {I8:Nat} {I9:Array (Option Value)} {cD:Tok} {ai:Addr} {bm:Addr} {sn h4:Option Addr} {h5:Array (Option Value)} {h6 h7 h8 h9 dO id:Value} {br:Addr} {sp ih:Option Addr} {ij:Array (Option Value)} {is it iv ix dT i0:Value} {as:Addr} {hm e5:Option Addr} {e6:Array (Option Value)} {e7 e8 fk fl cI fm:Value} {dk:Addr} {Ja:ClassData} {aj:Addr} {bs:Addr} {sq i1:Option Addr} {i2:Array (Option Value)} {i3 i4 i5 i6 dV i7:Value} {bt:Addr} {su i8:Option Addr} {j0:Array (Option Value)} {j1 j2 j3 j4 d0 j5:Value} {az:Addr} {hn fn:Option Addr} {fp:Array (Option Value)} {fr fs fv fx c0 fz:Value} {dl:Addr} {Jb:ClassData} {al:Addr} {bx:Addr} {sv ka:Option Addr} {kb:Array (Option Value)} {ki kk kp ks d1 kv:Value} {bz:Addr} {sz kw:Option Addr} {k0:Array (Option Value)} {la lb ld lf d2 lh:Value} {a0:Addr} {ho fD:Option Addr} {f0:Array (Option Value)} {ga gb gc gd da ge:Value} {ds:Addr} {Jc:ClassData} {be:Addr} {bF:Addr} {sD li:Option Addr} {lk:Array (Option Value)} {ll lm ln lo d4 ls:Value} {b0:Addr} {s0 lt:Option Addr} {ly:Array (Option Value)} {lF lI l0 ma d5 mb:Value} {bi:Addr} {hp gg:Option Addr} {gi:Array (Option Value)} {gm gn go gq db gt:Value} {dt:Addr} {Jd:ClassData} {ad:Addr} {cb:Addr} {s1 mc:Option Addr} {md:Array (Option Value)} {me mi mk ml d6 mm:Value} {cd:Addr} {s2 mn:Option Addr} {mp:Array (Option Value)} {mr ms mt mu d8 mA:Value} {ce:Addr} {s3 mF:Option Addr} {mN:Array (Option Value)} {m0 m1 m2 m3 ea m4:Value} {dx:Addr} {Je:ClassData} {an:Addr} {cg:Addr} {s4 m5:Option Addr} {m6:Array (Option Value)} {m7 m8 na nb eb nc:Value} {ch:Addr} {s5 nd:Option Addr} {ne:Array (Option Value)} {nf nm nn no ec np:Value} {cl:Addr} {s6 ns:Option Addr} {nt:Array (Option Value)} {nu nv nw nx ed nL:Value} {dA:Addr} {Jf:ClassData} {ab:Addr} {cn:Addr} {s7 nT:Option Addr} {n0:Array (Option Value)} {n1 n2 n3 n4 ee n7:Value} {co:Addr} {s8 oa:Option Addr} {ob:Array (Option Value)} {oc od oe of ej ok:Value} {cp:Addr} {s9 on:Option Addr} {op:Array (Option Value)} {or os ov oD ek oI:Value} {cs:Addr} {ta oT:Option Addr} {oX:Array (Option Value)} {o1 o2 o3 o4 el pa:Value} {dB:Addr} {Jg:ClassData} {ar:Addr} {ct:Addr} {tb pb:Option Addr} {pc:Array (Option Value)} {pd pe pg pi em pj:Value} {cw:Addr} {tc pk:Option Addr} {pl:Array (Option Value)} {pm pn po pr en pt:Value} {cx:Addr} {td pu:Option Addr} {py:Array (Option Value)} {p0 p1 p2 p3 eo p4:Value} {dD:Addr} {Jh:ClassData} {bk:Addr} {Ji:ClassData} {bj:Addr} {Jj:ClassData} {bl:Addr} {Jk:ClassData}
 (a1:nsIn K mainGlobals "is_whole"=oR f1) (l1:K.lookup f1=oL "is_whole" "is_whole" (aN 5) (.ref T1) LC LD LF K8 xd LH LB K7 Lp) (c1:codeIn K xd "is_whole"=true) (k1:keepIn K (.ref f1)=true)
 (a2:nsIn K mainGlobals "whole"=oR f2) (l2:K.lookup f2=oL "whole" "whole" (aN 6) .none LK LL LM La xe LN LJ K9 Lq) (c2:codeIn K xe "whole"=true) (k2:keepIn K (.ref f2)=true)
 (a3:nsIn K mainGlobals "endless"=oR f3) (l3:K.lookup f3=oL "endless" "endless" (aN 7) .none LQ LU LV Lc xl LW LP Lb Lr) (c3:codeIn K xl "endless"=true) (k3:keepIn K (.ref f3)=true)
 (a4:nsIn K mainGlobals "raised"=oR f4) (l4:K.lookup f4=oL "raised" "raised" (aN 8) (.ref T4) LY LZ L0 Le xp L1 LX Ld Ls) (c4:codeIn K xp "raised"=true) (k4:keepIn K (.ref f4)=true)
 (a5:nsIn K mainGlobals "compare"=oR f5) (l5:K.lookup f5=oL "compare" "compare" (aN 9) .none L3 L4 L5 Lg xr L6 L2 Lf Lu) (c5:codeIn K xr "compare"=true) (k5:keepIn K (.ref f5)=true)
 (a6:nsIn K mainGlobals "whole_part"=oR f6) (l6:K.lookup f6=oL "whole_part" "whole_part" (aN 10) .none L8 L9 Ma Li xs Mb L7 Lh Lv) (c6:codeIn K xs "whole_part"=true) (k6:keepIn K (.ref f6)=true)
 (a7:nsIn K mainGlobals "without_whole"=oR f7) (l7:K.lookup f7=oL "without_whole" "without_whole" (aN 11) .none Me Mf Mg Lk xF Mh Mc Lj Lx) (c7:codeIn K xF "without_whole"=true) (k7:keepIn K (.ref f7)=true)
 (a8:nsIn K mainGlobals "plus"=oR f8) (l8:K.lookup f8=oL "plus" "plus" (aN 13) .none Mj Ml Mm Lm x0 Mn Mi Ll Ly) (c8:codeIn K x0 "plus"=true) (k8:keepIn K (.ref f8)=true)
 (a9:nsIn K mainGlobals "parts_above"=oR f9) (l9:K.lookup f9=oL "parts_above" "parts_above" (aN 14) .none Mp Mq Mr Lo x1 Ms Mo Ln Lz) (c9:codeIn K x1 "parts_above"=true) (k9:keepIn K (.ref f9)=true)
 (MC:nsIn K mainGlobals "total"=oR gN) (MD:K.lookup gN=oL "total" "total" (aN 15) .none G2 G3 G4 x3 hB G5 G1 x2 Ex) (ME:codeIn K hB "total"=true) (MF:keepIn K (.ref gN)=true)
 (MG:nsIn K mainGlobals "merged"=oR gO) (MH:K.lookup gO=oL "merged" "merged" (aN 16) .none G7 G8 G9 yl hC Ha G6 x7 Fr) (MI:codeIn K hC "merged"=true) (MJ:keepIn K (.ref gO)=true)
 (MK:nsIn K mainGlobals "times"=oR gT) (ML:K.lookup gT=oL "times" "times" (aN 18) .none Hc Hd He y1 hD Hf Hb ys F0) (MM:codeIn K hD "times"=true) (MN:keepIn K (.ref gT)=true)
 (MO:nsIn K mainGlobals "weight_of"=oR gV) (MP:K.lookup gV=oL "weight_of" "weight_of" (aN 20) .none Hh Hj Hk y3 hE Hl Hg y2 Gf) (MQ:codeIn K hE "weight_of"=true) (MR:keepIn K (.ref gV)=true)
 (MS:nsIn K mainGlobals "held"=oR g0) (MT:K.lookup g0=oL "held" "held" (aN 21) .none Hn Ho Hq y5 hF Hr Hm y4 Gn) (MU:codeIn K hF "held"=true) (MV:keepIn K (.ref g0)=true)
 (MW:nsIn K mainGlobals "by_exponent"=oR g1) (MX:K.lookup g1=oL "by_exponent" "by_exponent" (aN 31) .none Ht Hu Hv zb hG Hw Hs za Gt) (MY:codeIn K hG "by_exponent"=true) (MZ:keepIn K (.ref g1)=true)
 (M0:nsIn K mainGlobals "trace"=oR dK) (M3:K.lookup dK=oL "trace" "trace" (aN 33) (.ref hk) Hy Hz HA zi hH HB Hx zf GG) (M4:codeIn K hH "trace"=true) (M5:keepIn K (.ref dK)=true)
 (M6:nsIn K mainGlobals "put_ahead"=oR g2) (M7:K.lookup g2=oL "put_ahead" "put_ahead" (aN 34) .none HD HE HF zl hI HG HC zj GH) (M8:codeIn K hI "put_ahead"=true) (M9:keepIn K (.ref g2)=true)
 (Na:nsIn K mainGlobals "weight_left"=oR g3) (Nb:K.lookup g3=oL "weight_left" "weight_left" (aN 35) .none HI HJ HK zr hK HL HH zp GI) (Nc:codeIn K hK "weight_left"=true) (Nd:keepIn K (.ref g3)=true)
 (Nf:nsIn K mainGlobals "told"=oR g4) (Ng:K.lookup g4=oL "told" "told" (aN 36) .none HN HP HQ zu hL HR HM zs GJ) (Nh:codeIn K hL "told"=true) (Ni:keepIn K (.ref g4)=true)
 (Nj:nsIn K mainGlobals "_law_cell_at"=oR g5) (Nk:K.lookup g5=oL "_law_cell_at" "_law_cell_at" (aN 38) .none HU HV HW z0 hM HX HS zx GK) (Nl:codeIn K hM "_law_cell_at"=true) (Nn:keepIn K (.ref g5)=true)
 (No:nsIn K mainGlobals "_law_amount"=oR g6) (Np:K.lookup g6=oL "_law_amount" "_law_amount" (aN 39) .none HZ H0 H1 A0 hN H2 HY Am GL) (Nq:codeIn K hN "_law_amount"=true) (Nr:keepIn K (.ref g6)=true)
 (Nt:nsIn K mainGlobals "_law_exponent"=oR g7) (Nu:K.lookup g7=oL "_law_exponent" "_law_exponent" (aN 40) .none H4 H5 H6 Be hO H7 H3 A1 GM) (Nv:codeIn K hO "_law_exponent"=true) (Nw:keepIn K (.ref g7)=true)
 (Nx:nsIn K mainGlobals "_law_marks"=oR g8) (Ny:K.lookup g8=oL "_law_marks" "_law_marks" (aN 41) .none H9 Ia Ib B0 hP Ic H8 BT GN) (Nz:codeIn K hP "_law_marks"=true) (NA:keepIn K (.ref g8)=true)
 (NB:nsIn K mainGlobals "_law_deep"=oR ha) (NC:K.lookup ha=oL "_law_deep" "_law_deep" (aN 42) .none If Ig Ih Ca hQ Ii Ie B1 GP) (ND:codeIn K hQ "_law_deep"=true) (NE:keepIn K (.ref ha)=true)
 (NG:nsIn K mainGlobals "_law_rows"=oR hb) (NH:K.lookup hb=oL "_law_rows" "_law_rows" (aN 43) .none Ik Il Im Cf hR Io Ij Cd GQ) (NI:codeIn K hR "_law_rows"=true) (NJ:keepIn K (.ref hb)=true)
 (NK:nsIn K mainGlobals "_law_made"=oR hc) (NL:K.lookup hc=oL "_law_made" "_law_made" (aN 44) .none Iq Ir Is Cm hS Iu Ip Cl GR) (NM:codeIn K hS "_law_made"=true) (NN:keepIn K (.ref hc)=true)
 (NO:nsIn K mainGlobals "_law_done"=oR hd) (NP:K.lookup hd=oL "_law_done" "_law_done" (aN 45) .none Iw Ix Iy C1 hT Iz Iv CX GS) (NQ:codeIn K hT "_law_done"=true) (NR:keepIn K (.ref hd)=true)
 (NS:nsIn K mainGlobals "_law_measured"=oR he) (NT:K.lookup he=oL "_law_measured" "_law_measured" (aN 46) .none IB IC ID C3 hU IE IA C2 GU) (NU:codeIn K hU "_law_measured"=true) (NW:keepIn K (.ref he)=true)
 (NX:nsIn K mainGlobals "_law_step"=oR hf) (NY:K.lookup hf=oL "_law_step" "_law_step" (aN 47) .none IG IH II C5 hV IJ IF C4 GV) (NZ:codeIn K hV "_law_step"=true) (N0:keepIn K (.ref hf)=true)
 (N1:nsIn K mainGlobals "_law_height"=oR hg) (N2:K.lookup hg=oL "_law_height" "_law_height" (aN 48) .none IL IM IN C7 hW IP IK C6 GW) (N3:codeIn K hW "_law_height"=true) (N4:keepIn K (.ref hg)=true)
 (N5:nsIn K mainGlobals "_law_of_thing"=oR hh) (N6:K.lookup hh=oL "_law_of_thing" "_law_of_thing" (aN 49) .none IR IS IT Do hX IU IQ C8 GX) (N7:codeIn K hX "_law_of_thing"=true) (N8:keepIn K (.ref hh)=true)
 (N9:nsIn K mainGlobals "_law_weight"=oR hi) (Oa:K.lookup hi=oL "_law_weight" "_law_weight" (aN 50) .none IW IX IY Du hY IZ IV Dp GY) (Ob:codeIn K hY "_law_weight"=true) (Oc:keepIn K (.ref hi)=true)
 (Od:nsIn K mainGlobals "_law_dues"=oR hj) (Oe:K.lookup hj=oL "_law_dues" "_law_dues" (aN 51) .none I1 I2 I3 D0 hZ I4 I0 DD GZ) (Of:codeIn K hZ "_law_dues"=true) (Og:keepIn K (.ref hj)=true)
 (Oh:nsIn K mainGlobals "law"=oR hz) (Oi:K.lookup hz=oL "law" "law" (aN 52) .none h0 h1 h2 hA e3 h3 I5 En G0) (Oj:codeIn K e3 "law"=true) (Ok:keepIn K (.ref hz)=true)
 (t1:K.lookup T1=some ⟨Mu,Mv,.seq #[.int 0 dF] Mw,Mx⟩)
 (t4:K.lookup T4=some ⟨My,Mz,.seq #[.int 1 dI] MA,MB⟩)
 (Ol:K.lookup hk=some ⟨I6,I7,.seq #[.int 50 cD] I8,I9⟩)
 (Om:nsIn K mainGlobals "HydraError"=oR bk) (On:excIn K bk [.type "ValueError",.type "Exception",.type "BaseException",.type "object"] "ValueError.__new__"=true)
 (Oo:nsIn K mainGlobals "NoFall"=oR bj) (Op:excIn K bj [.type "ValueError",.type "Exception",.type "BaseException",.type "object"] "ValueError.__new__"=true)
 (Oq:nsIn K mainGlobals "NoNumber"=oR bl) (Os:excIn K bl [.type "ValueError",.type "Exception",.type "BaseException",.type "object"] "ValueError.__new__"=true)
 (te:mroIn K bj (.ref bk)=some true)
 (tg:mroIn K bj (.ref bl)=some false)
 (Jl:findIn K (.ref bk) "__getattribute__"=oB "BaseException.__getattribute__") (Jm:findIn K (.ref bk) "__getattr__"=some none) (Jn:findIn K (.ref bk) "__class__"=oB "object.__class__") (Jo:clsIn K bk=some Ji) (Jp:typeIn K (.ref bk)=some (.type "type")) (Jq:instIn K (.ref bk) (.type "type")=some true)
 (Jr:findIn K (.ref bj) "__getattribute__"=oB "BaseException.__getattribute__") (Js:findIn K (.ref bj) "__getattr__"=some none) (Jt:findIn K (.ref bj) "__class__"=oB "object.__class__") (Ju:clsIn K bj=some Jj) (Jv:typeIn K (.ref bj)=some (.type "type")) (Jw:instIn K (.ref bj) (.type "type")=some true)
 (Jx:findIn K (.ref bl) "__getattribute__"=oB "BaseException.__getattribute__") (Jy:findIn K (.ref bl) "__getattr__"=some none) (Jz:findIn K (.ref bl) "__class__"=oB "object.__class__") (JA:clsIn K bl=some Jk) (JB:typeIn K (.ref bl)=some (.type "type")) (JC:instIn K (.ref bl) (.type "type")=some true)
 (Ot:nsIn K mainGlobals "Set"=oR ai) (JD:plainGet K ai Str.empty=true) (JE:hasDictIn K ai=true) (JF:plainOver K ai=true) (JG:findIn K (.ref ai) "__setattr__"=oB "object.__setattr__") (JH:makesIn K ai=true) (JI:keepIn K (.ref ai)=true) (th:findIn K (.ref ai) "box"=some none) (ti:findIn K (.ref ai) "amount"=some none) (tk:findIn K (.ref ai) "__init__"=oR bm) (p7:isFn K (.ref bm)=true) (tn:K.lookup bm=oL "__init__" "Set.__init__" (bb 23 0) .none h7 h8 h9 h4 dO id h6 sn h5) (p8:codeIn K dO "Set.__init__"=true) (qa:keepIn K (.ref bm)=true) (to:findIn K (.ref ai) "step"=oR br) (qb:isFn K (.ref br)=true) (tr:K.lookup br=oL "step" "Set.step" (bb 23 1) .none it iv ix ih dT i0 is sp ij) (qn:codeIn K dT "Set.step"=true) (ep:keepIn K (.ref br)=true) (hq:findIn K (.ref ai) "weigh"=oR as) (gu:isFn K (.ref as)=true) (hr:K.lookup as=oL "weigh" "Row.weigh" (bb 22 0) .none e8 fk fl e5 cI fm e7 hm e6) (gw:codeIn K cI "Row.weigh"=true) (dd:keepIn K (.ref as)=true) (JJ:nsIn K mainGlobals "Row"=oR dk) (JK:clsIn K dk=some Ja) (JL:typeIn K (.ref dk)=some (.type "type")) (JM:instIn K (.ref dk) (.type "type")=some true) (JN:mroIn K ai (.ref dk)=some true)
 (Ou:nsIn K mainGlobals "Copy"=oR aj) (JO:plainGet K aj Str.empty=true) (JP:hasDictIn K aj=true) (JQ:plainOver K aj=true) (JR:findIn K (.ref aj) "__setattr__"=oB "object.__setattr__") (JS:makesIn K aj=true) (JT:keepIn K (.ref aj)=true) (ts:findIn K (.ref aj) "box"=some none) (tt:findIn K (.ref aj) "other"=some none) (tv:findIn K (.ref aj) "__init__"=oR bs) (qs:isFn K (.ref bs)=true) (tx:K.lookup bs=oL "__init__" "Copy.__init__" (bb 24 0) .none i4 i5 i6 i1 dV i7 i3 sq i2) (qu:codeIn K dV "Copy.__init__"=true) (qv:keepIn K (.ref bs)=true) (ty:findIn K (.ref aj) "step"=oR bt) (qx:isFn K (.ref bt)=true) (tA:K.lookup bt=oL "step" "Copy.step" (bb 24 1) .none j2 j3 j4 i8 d0 j5 j1 su j0) (q1:codeIn K d0 "Copy.step"=true) (eq:keepIn K (.ref bt)=true) (hs:findIn K (.ref aj) "weigh"=oR az) (gx:isFn K (.ref az)=true) (ht:K.lookup az=oL "weigh" "Row.weigh" (bb 22 0) .none fs fv fx fn c0 fz fr hn fp) (gA:codeIn K c0 "Row.weigh"=true) (de:keepIn K (.ref az)=true) (JU:nsIn K mainGlobals "Row"=oR dl) (JV:clsIn K dl=some Jb) (JW:typeIn K (.ref dl)=some (.type "type")) (JX:instIn K (.ref dl) (.type "type")=some true) (JY:mroIn K aj (.ref dl)=some true)
 (Ov:nsIn K mainGlobals "Add"=oR al) (JZ:plainGet K al Str.empty=true) (J0:hasDictIn K al=true) (J1:plainOver K al=true) (J2:findIn K (.ref al) "__setattr__"=oB "object.__setattr__") (J3:makesIn K al=true) (J4:keepIn K (.ref al)=true) (t0:findIn K (.ref al) "box"=some none) (t2:findIn K (.ref al) "other"=some none) (t3:findIn K (.ref al) "__init__"=oR bx) (q2:isFn K (.ref bx)=true) (t5:K.lookup bx=oL "__init__" "Add.__init__" (bb 25 0) .none kk kp ks ka d1 kv ki sv kb) (q3:codeIn K d1 "Add.__init__"=true) (q4:keepIn K (.ref bx)=true) (t6:findIn K (.ref al) "step"=oR bz) (q5:isFn K (.ref bz)=true) (t7:K.lookup bz=oL "step" "Add.step" (bb 25 1) .none lb ld lf kw d2 lh la sz k0) (q6:codeIn K d2 "Add.step"=true) (er:keepIn K (.ref bz)=true) (hu:findIn K (.ref al) "weigh"=oR a0) (gB:isFn K (.ref a0)=true) (hv:K.lookup a0=oL "weigh" "Row.weigh" (bb 22 0) .none gb gc gd fD da ge ga ho f0) (gC:codeIn K da "Row.weigh"=true) (df:keepIn K (.ref a0)=true) (J5:nsIn K mainGlobals "Row"=oR ds) (J6:clsIn K ds=some Jc) (J7:typeIn K (.ref ds)=some (.type "type")) (J8:instIn K (.ref ds) (.type "type")=some true) (J9:mroIn K al (.ref ds)=some true)
 (Ow:nsIn K mainGlobals "Less"=oR be) (Ka:plainGet K be Str.empty=true) (Kb:hasDictIn K be=true) (Kc:plainOver K be=true) (Kd:findIn K (.ref be) "__setattr__"=oB "object.__setattr__") (Ke:makesIn K be=true) (Kf:keepIn K (.ref be)=true) (t8:findIn K (.ref be) "box"=some none) (ua:findIn K (.ref be) "__init__"=oR bF) (q7:isFn K (.ref bF)=true) (ub:K.lookup bF=oL "__init__" "Less.__init__" (bb 26 0) .none lm ln lo li d4 ls ll sD lk) (q8:codeIn K d4 "Less.__init__"=true) (q9:keepIn K (.ref bF)=true) (un:findIn K (.ref be) "step"=oR b0) (ra:isFn K (.ref b0)=true) (up:K.lookup b0=oL "step" "Less.step" (bb 26 1) .none lI l0 ma lt d5 mb lF s0 ly) (rb:codeIn K d5 "Less.step"=true) (es:keepIn K (.ref b0)=true) (hx:findIn K (.ref be) "weigh"=oR bi) (gD:isFn K (.ref bi)=true) (hy:K.lookup bi=oL "weigh" "Row.weigh" (bb 22 0) .none gn go gq gg db gt gm hp gi) (gI:codeIn K db "Row.weigh"=true) (dh:keepIn K (.ref bi)=true) (Kg:nsIn K mainGlobals "Row"=oR dt) (Kh:clsIn K dt=some Jd) (Ki:typeIn K (.ref dt)=some (.type "type")) (Kj:instIn K (.ref dt) (.type "type")=some true) (Kk:mroIn K be (.ref dt)=some true)
 (Ox:nsIn K mainGlobals "Times"=oR ad) (Kl:plainGet K ad Str.empty=true) (Km:hasDictIn K ad=true) (Kn:plainOver K ad=true) (Ko:findIn K (.ref ad) "__setattr__"=oB "object.__setattr__") (Kp:makesIn K ad=true) (Kq:keepIn K (.ref ad)=true) (ux:findIn K (.ref ad) "box"=some none) (uy:findIn K (.ref ad) "rows"=some none) (u1:findIn K (.ref ad) "of_round"=some none) (u2:findIn K (.ref ad) "__init__"=oR cb) (rd:isFn K (.ref cb)=true) (u8:K.lookup cb=oL "__init__" "Times.__init__" (bb 27 0) .none mi mk ml mc d6 mm me s1 md) (rg:codeIn K d6 "Times.__init__"=true) (rh:keepIn K (.ref cb)=true) (va:findIn K (.ref ad) "weigh"=oR cd) (ri:isFn K (.ref cd)=true) (vb:K.lookup cd=oL "weigh" "Times.weigh" (bb 27 1) .none ms mt mu mn d8 mA mr s2 mp) (rj:codeIn K d8 "Times.weigh"=true) (ev:keepIn K (.ref cd)=true) (vl:findIn K (.ref ad) "step"=oR ce) (rn:isFn K (.ref ce)=true) (vm:K.lookup ce=oL "step" "Times.step" (bb 27 2) .none m1 m2 m3 mF ea m4 m0 s3 mN) (ro:codeIn K ea "Times.step"=true) (ew:keepIn K (.ref ce)=true) (Kr:nsIn K mainGlobals "Row"=oR dx) (Ks:clsIn K dx=some Je) (Kt:typeIn K (.ref dx)=some (.type "type")) (Ku:instIn K (.ref dx) (.type "type")=some true) (Kv:mroIn K ad (.ref dx)=some true)
 (Oy:nsIn K mainGlobals "Count"=oR an) (Kw:plainGet K an Str.empty=true) (Kx:hasDictIn K an=true) (Ky:plainOver K an=true) (Kz:findIn K (.ref an) "__setattr__"=oB "object.__setattr__") (KA:makesIn K an=true) (KB:keepIn K (.ref an)=true) (vr:findIn K (.ref an) "loop"=some none) (vs:findIn K (.ref an) "rounds"=some none) (vu:findIn K (.ref an) "__init__"=oR cg) (rp:isFn K (.ref cg)=true) (v1:K.lookup cg=oL "__init__" "Count.__init__" (bb 28 0) .none m8 na nb m5 eb nc m7 s4 m6) (rq:codeIn K eb "Count.__init__"=true) (rr:keepIn K (.ref cg)=true) (v2:findIn K (.ref an) "weigh"=oR ch) (rs:isFn K (.ref ch)=true) (v3:K.lookup ch=oL "weigh" "Count.weigh" (bb 28 1) .none nm nn no nd ec np nf s5 ne) (ru:codeIn K ec "Count.weigh"=true) (ex:keepIn K (.ref ch)=true) (v4:findIn K (.ref an) "step"=oR cl) (rv:isFn K (.ref cl)=true) (v8:K.lookup cl=oL "step" "Count.step" (bb 28 2) .none nv nw nx ns ed nL nu s6 nt) (rw:codeIn K ed "Count.step"=true) (ey:keepIn K (.ref cl)=true) (KC:nsIn K mainGlobals "Row"=oR dA) (KD:clsIn K dA=some Jf) (KE:typeIn K (.ref dA)=some (.type "type")) (KF:instIn K (.ref dA) (.type "type")=some true) (KG:mroIn K an (.ref dA)=some true)
 (Oz:nsIn K mainGlobals "While"=oR ab) (KH:plainGet K ab Str.empty=true) (KI:hasDictIn K ab=true) (KJ:plainOver K ab=true) (KK:findIn K (.ref ab) "__setattr__"=oB "object.__setattr__") (KL:makesIn K ab=true) (KM:keepIn K (.ref ab)=true) (we:findIn K (.ref ab) "box"=some none) (wi:findIn K (.ref ab) "heights"=some none) (wl:findIn K (.ref ab) "rows"=some none) (wn:findIn K (.ref ab) "of_round"=some none) (wp:findIn K (.ref ab) "__init__"=oR cn) (rx:isFn K (.ref cn)=true) (wq:K.lookup cn=oL "__init__" "While.__init__" (bb 29 0) .none n2 n3 n4 nT ee n7 n1 s7 n0) (ry:codeIn K ee "While.__init__"=true) (r0:keepIn K (.ref cn)=true) (wr:findIn K (.ref ab) "weigh"=oR co) (r1:isFn K (.ref co)=true) (ws:K.lookup co=oL "weigh" "While.weigh" (bb 29 1) .none od oe of oa ej ok oc s8 ob) (r2:codeIn K ej "While.weigh"=true) (eD:keepIn K (.ref co)=true) (wt:findIn K (.ref ab) "step"=oR cp) (r3:isFn K (.ref cp)=true) (wx:K.lookup cp=oL "step" "While.step" (bb 29 2) .none os ov oD on ek oI or s9 op) (r4:codeIn K ek "While.step"=true) (eG:keepIn K (.ref cp)=true) (wy:findIn K (.ref ab) "measure"=oR cs) (r5:isFn K (.ref cs)=true) (w0:K.lookup cs=oL "measure" "While.measure" (bb 29 3) .none o2 o3 o4 oT el pa o1 ta oX) (r7:codeIn K el "While.measure"=true) (eH:keepIn K (.ref cs)=true) (KN:nsIn K mainGlobals "Row"=oR dB) (KO:clsIn K dB=some Jg) (KP:typeIn K (.ref dB)=some (.type "type")) (KQ:instIn K (.ref dB) (.type "type")=some true) (KR:mroIn K ab (.ref dB)=some true)
 (OA:nsIn K mainGlobals "Bearing"=oR ar) (KS:plainGet K ar Str.empty=true) (KU:hasDictIn K ar=true) (KW:plainOver K ar=true) (KY:findIn K (.ref ar) "__setattr__"=oB "object.__setattr__") (KZ:makesIn K ar=true) (K0:keepIn K (.ref ar)=true) (w2:findIn K (.ref ar) "loop"=some none) (w3:findIn K (.ref ar) "borne"=some none) (w4:findIn K (.ref ar) "__init__"=oR ct) (r8:isFn K (.ref ct)=true) (w5:K.lookup ct=oL "__init__" "Bearing.__init__" (bb 30 0) .none pe pg pi pb em pj pd tb pc) (sa:codeIn K em "Bearing.__init__"=true) (sb:keepIn K (.ref ct)=true) (w6:findIn K (.ref ar) "weigh"=oR cw) (sc:isFn K (.ref cw)=true) (w7:K.lookup cw=oL "weigh" "Bearing.weigh" (bb 30 1) .none pn po pr pk en pt pm tc pl) (sf:codeIn K en "Bearing.weigh"=true) (e0:keepIn K (.ref cw)=true) (w8:findIn K (.ref ar) "step"=oR cx) (sg:isFn K (.ref cx)=true) (xa:K.lookup cx=oL "step" "Bearing.step" (bb 30 2) .none p1 p2 p3 pu eo p4 p0 td py) (sl:codeIn K eo "Bearing.step"=true) (e2:keepIn K (.ref cx)=true) (K1:nsIn K mainGlobals "Row"=oR dD) (K2:clsIn K dD=some Jh) (K3:typeIn K (.ref dD)=some (.type "type")) (K4:instIn K (.ref dD) (.type "type")=some true) (K5:mroIn K ar (.ref dD)=some true)
 (z1:nsIn K mainGlobals "ValueError"=some none) (z2:nsIn K mainGlobals "bool"=some none) (z3:nsIn K mainGlobals "dict"=some none) (z4:nsIn K mainGlobals "int"=some none) (z5:nsIn K mainGlobals "isinstance"=some none) (z6:nsIn K mainGlobals "len"=some none) (z7:nsIn K mainGlobals "list"=some none) (z8:nsIn K mainGlobals "max"=some none) (z9:nsIn K mainGlobals "range"=some none) (OB:nsIn K mainGlobals "reversed"=some none) (OC:nsIn K mainGlobals "sorted"=some none) (OD:nsIn K mainGlobals "sum"=some none) (OE:nsIn K mainGlobals "tuple"=some none):
 ∃fd:FuncData,(∀(s:Shared) (v:Value),BindsTo s fd ⟨[v],[]⟩ [("_law_script",v)])/\∀base:Heap,K.In base->base.Ns mainGlobals mg->dJ l.prog w K mg base sr 100 fa fd ["_law_script"] (vF K gY):=by
 have e:=K6.symm.trans (mg_of X G Oh);cases e;have F1:fZ K "is_whole" "is_whole" (aN 5) f1 _ T1 [.int 0 dF]:=kS l1 c1 k1 t1 rfl;have b1:bP K _ ["thing","least"] []:=F1.binds λ_ _ _ _ _ _ us hl=>(λ(q:us.length=2)=>by clear hl;revert us;refine bD (λ_=>bD (λ_=>cL ?_));exact⟨_,rfl,rfl⟩) (by simpa using hl);have e1:bP K _ ["thing","least"] [.int 0 dF]:=F1.binds λ_ _ _ _ _ _ us hl=>(λ(q:us.length=1)=>by clear hl;revert us;refine bD (λ_=>cL ?_);exact⟨_,rfl,rfl⟩) (by simpa using hl);have F2:=aL (st:=aN 6) l2 c2 k2;have b2:=F2.binds (ps:=["n"]) λ_ _ _ _ _ _=>bD (λ_=>cL rfl);have F3:=aL (st:=aN 7) l3 c3 k3;have b3:=F3.binds (ps:=[]) λ_ _ _ _ _ _=>cL rfl;have F4:fZ K "raised" "raised" (aN 8) f4 _ T4 [.int 1 dI]:=kS l4 c4 k4 t4 rfl;have b4:bP K _ ["exponent","times"] []:=F4.binds λ_ _ _ _ _ _ us hl=>(λ(q:us.length=2)=>by clear hl;revert us;refine bD (λ_=>bD (λ_=>cL ?_));exact⟨_,rfl,rfl⟩) (by simpa using hl);have e4:bP K _ ["exponent","times"] [.int 1 dI]:=F4.binds λ_ _ _ _ _ _ us hl=>(λ(q:us.length=1)=>by clear hl;revert us;refine bD (λ_=>cL ?_);exact⟨_,rfl,rfl⟩) (by simpa using hl);have F5:=aL (st:=aN 9) l5 c5 k5;have b5:=F5.binds (ps:=["a","b"]) λ_ _ _ _ _ _=>bD (λ_=>bD (λ_=>cL rfl));have F6:=aL (st:=aN 10) l6 c6 k6;have b6:=F6.binds (ps:=["a"]) λ_ _ _ _ _ _=>bD (λ_=>cL rfl);have F7:=aL (st:=aN 11) l7 c7 k7;have b7:=F7.binds (ps:=["a"]) λ_ _ _ _ _ _=>bD (λ_=>cL rfl);have F8:=aL (st:=aN 13) l8 c8 k8;have b8:=F8.binds (ps:=["a","b"]) λ_ _ _ _ _ _=>bD (λ_=>bD (λ_=>cL rfl));have F9:=aL (st:=aN 14) l9 c9 k9;have b9:=F9.binds (ps:=["a","exponent"]) λ_ _ _ _ _ _=>bD (λ_=>bD (λ_=>cL rfl));have F10:=aL (st:=aN 15) MD ME MF;have b10:=F10.binds (ps:=["some"]) λ_ _ _ _ _ _=>bD (λ_=>cL rfl);have F11:=aL (st:=aN 16) MH MI MJ;have b11:=F11.binds (ps:=["a","b"]) λ_ _ _ _ _ _=>bD (λ_=>bD (λ_=>cL rfl));have F12:=aL (st:=aN 18) ML MM MN;have b12:=F12.binds (ps:=["a","b"]) λ_ _ _ _ _ _=>bD (λ_=>bD (λ_=>cL rfl));have F13:=aL (st:=aN 20) MP MQ MR;have b13:=F13.binds (ps:=["things"]) λ_ _ _ _ _ _=>bD (λ_=>cL rfl);have F14:=aL (st:=aN 21) MT MU MV;have b14:=F14.binds (ps:=["boxes","box"]) λ_ _ _ _ _ _=>bD (λ_=>bD (λ_=>cL rfl));have F15:=aL (st:=aN 31) MX MY MZ;have b15:=F15.binds (ps:=["marks"]) λ_ _ _ _ _ _=>bD (λ_=>cL rfl);have F16:fZ K "trace" "trace" (aN 33) dK _ hk [.int 50 cD]:=kS M3 M4 M5 Ol rfl;have b16:bP K _ ["rows","boxes","most"] []:=F16.binds λ_ _ _ _ _ _ us hl=>(λ(q:us.length=3)=>by clear hl;revert us;refine bD (λ_=>bD (λ_=>bD (λ_=>cL ?_)));exact⟨_,rfl,rfl⟩) (by simpa using hl);have e16:bP K _ ["rows","boxes","most"] [.int 50 cD]:=F16.binds λ_ _ _ _ _ _ us hl=>(λ(q:us.length=2)=>by clear hl;revert us;refine bD (λ_=>bD (λ_=>cL ?_));exact⟨_,rfl,rfl⟩) (by simpa using hl);have F17:=aL (st:=aN 34) M7 M8 M9;have b17:=F17.binds (ps:=["left","things"]) λ_ _ _ _ _ _=>bD (λ_=>bD (λ_=>cL rfl));have F18:=aL (st:=aN 35) Nb Nc Nd;have b18:=F18.binds (ps:=["left"]) λ_ _ _ _ _ _=>bD (λ_=>cL rfl);have F19:=aL (st:=aN 36) Ng Nh Ni;have b19:=F19.binds (ps:=["left","boxes"]) λ_ _ _ _ _ _=>bD (λ_=>bD (λ_=>cL rfl));have F20:=aL (st:=aN 38) Nk Nl Nn;have b20:=F20.binds (ps:=["_law_script","_law_k"]) λ_ _ _ _ _ _=>bD (λ_=>bD (λ_=>cL rfl));have F21:=aL (st:=aN 39) Np Nq Nr;have b21:=F21.binds (ps:=["_law_cell"]) λ_ _ _ _ _ _=>bD (λ_=>cL rfl);have F22:=aL (st:=aN 40) Nu Nv Nw;have b22:=F22.binds (ps:=["_law_number"]) λ_ _ _ _ _ _=>bD (λ_=>cL rfl);have F23:=aL (st:=aN 41) Ny Nz NA;have b23:=F23.binds (ps:=["_law_cell","_law_box","_law_names"]) λ_ _ _ _ _ _=>bD (λ_=>bD (λ_=>bD (λ_=>cL rfl)));have F24:=aL (st:=aN 42) NC ND NE;have b24:=F24.binds (ps:=["_law_thing"]) λ_ _ _ _ _ _=>bD (λ_=>cL rfl);have F25:=aL (st:=aN 43) NH NI NJ;have b25:=F25.binds (ps:=["_law_cells","_law_names"]) λ_ _ _ _ _ _=>bD (λ_=>bD (λ_=>cL rfl));have F26:=aL (st:=aN 44) NL NM NN;have b26:=F26.binds (ps:=["_law_thing"]) λ_ _ _ _ _ _=>bD (λ_=>cL rfl);have F27:=aL (st:=aN 45) NP NQ NR;have b27:=F27.binds (ps:=["_law_thing","_law_having"]) λ_ _ _ _ _ _=>bD (λ_=>bD (λ_=>cL rfl));have F28:=aL (st:=aN 46) NT NU NW;have b28:=F28.binds (ps:=["_law_marks_here","_law_having"]) λ_ _ _ _ _ _=>bD (λ_=>bD (λ_=>cL rfl));have F29:=aL (st:=aN 47) NY NZ N0;have b29:=F29.binds (ps:=["_law_things","_law_having"]) λ_ _ _ _ _ _=>bD (λ_=>bD (λ_=>cL rfl));have F30:=aL (st:=aN 48) N2 N3 N4;have b30:=F30.binds (ps:=["_law_marks_here"]) λ_ _ _ _ _ _=>bD (λ_=>cL rfl);have F31:=aL (st:=aN 49) N6 N7 N8;have b31:=F31.binds (ps:=["_law_thing"]) λ_ _ _ _ _ _=>bD (λ_=>cL rfl);have F32:=aL (st:=aN 50) Oa Ob Oc;have b32:=F32.binds (ps:=["_law_things"]) λ_ _ _ _ _ _=>bD (λ_=>cL rfl);have F33:=aL (st:=aN 51) Oe Of Og;have b33:=F33.binds (ps:=["_law_rows_here","_law_boxes","_law_most"]) λ_ _ _ _ _ _=>bD (λ_=>bD (λ_=>bD (λ_=>cL rfl)));have F34:=aL (st:=aN 52) Oi Oj Ok;have FM0_0:=aL (st:=bb 23 0) tn p8 qa;have bM0_0:=FM0_0.binds (ps:=["self","box","amount"]) λ_ _ _ _ _ _=>bD (λ_=>bD (λ_=>bD (λ_=>cL rfl)));have FM0_1:=aL (st:=bb 23 1) tr qn ep;have bM0_1:=FM0_1.binds (ps:=["self","boxes"]) λ_ _ _ _ _ _=>bD (λ_=>bD (λ_=>cL rfl));have FM0_100:=aL (st:=bb 22 0) hr gw dd;have bM0_100:=FM0_100.binds (ps:=["self"]) λ_ _ _ _ _ _=>bD (λ_=>cL rfl);have FM1_0:=aL (st:=bb 24 0) tx qu qv;have bM1_0:=FM1_0.binds (ps:=["self","box","other"]) λ_ _ _ _ _ _=>bD (λ_=>bD (λ_=>bD (λ_=>cL rfl)));have FM1_1:=aL (st:=bb 24 1) tA q1 eq;have bM1_1:=FM1_1.binds (ps:=["self","boxes"]) λ_ _ _ _ _ _=>bD (λ_=>bD (λ_=>cL rfl));have FM1_100:=aL (st:=bb 22 0) ht gA de;have bM1_100:=FM1_100.binds (ps:=["self"]) λ_ _ _ _ _ _=>bD (λ_=>cL rfl);have FM2_0:=aL (st:=bb 25 0) t5 q3 q4;have bM2_0:=FM2_0.binds (ps:=["self","box","other"]) λ_ _ _ _ _ _=>bD (λ_=>bD (λ_=>bD (λ_=>cL rfl)));have FM2_1:=aL (st:=bb 25 1) t7 q6 er;have bM2_1:=FM2_1.binds (ps:=["self","boxes"]) λ_ _ _ _ _ _=>bD (λ_=>bD (λ_=>cL rfl));have FM2_100:=aL (st:=bb 22 0) hv gC df;have bM2_100:=FM2_100.binds (ps:=["self"]) λ_ _ _ _ _ _=>bD (λ_=>cL rfl);have FM3_0:=aL (st:=bb 26 0) ub q8 q9;have bM3_0:=FM3_0.binds (ps:=["self","box"]) λ_ _ _ _ _ _=>bD (λ_=>bD (λ_=>cL rfl));have FM3_1:=aL (st:=bb 26 1) up rb es;have bM3_1:=FM3_1.binds (ps:=["self","boxes"]) λ_ _ _ _ _ _=>bD (λ_=>bD (λ_=>cL rfl));have FM3_100:=aL (st:=bb 22 0) hy gI dh;have bM3_100:=FM3_100.binds (ps:=["self"]) λ_ _ _ _ _ _=>bD (λ_=>cL rfl);have FM4_0:=aL (st:=bb 27 0) u8 rg rh;have bM4_0:=FM4_0.binds (ps:=["self","box","rows"]) λ_ _ _ _ _ _=>bD (λ_=>bD (λ_=>bD (λ_=>cL rfl)));have FM4_1:=aL (st:=bb 27 1) vb rj ev;have bM4_1:=FM4_1.binds (ps:=["self"]) λ_ _ _ _ _ _=>bD (λ_=>cL rfl);have FM4_2:=aL (st:=bb 27 2) vm ro ew;have bM4_2:=FM4_2.binds (ps:=["self","boxes"]) λ_ _ _ _ _ _=>bD (λ_=>bD (λ_=>cL rfl));have FM5_0:=aL (st:=bb 28 0) v1 rq rr;have bM5_0:=FM5_0.binds (ps:=["self","loop","rounds"]) λ_ _ _ _ _ _=>bD (λ_=>bD (λ_=>bD (λ_=>cL rfl)));have FM5_1:=aL (st:=bb 28 1) v3 ru ex;have bM5_1:=FM5_1.binds (ps:=["self"]) λ_ _ _ _ _ _=>bD (λ_=>cL rfl);have FM5_2:=aL (st:=bb 28 2) v8 rw ey;have bM5_2:=FM5_2.binds (ps:=["self","boxes"]) λ_ _ _ _ _ _=>bD (λ_=>bD (λ_=>cL rfl));have FM6_0:=aL (st:=bb 29 0) wq ry r0;have bM6_0:=FM6_0.binds (ps:=["self","box","marks","rows"]) λ_ _ _ _ _ _=>bD (λ_=>bD (λ_=>bD (λ_=>bD (λ_=>cL rfl))));have FM6_1:=aL (st:=bb 29 1) ws r2 eD;have bM6_1:=FM6_1.binds (ps:=["self"]) λ_ _ _ _ _ _=>bD (λ_=>cL rfl);have FM6_2:=aL (st:=bb 29 2) wx r4 eG;have bM6_2:=FM6_2.binds (ps:=["self","boxes"]) λ_ _ _ _ _ _=>bD (λ_=>bD (λ_=>cL rfl));have FM6_3:=aL (st:=bb 29 3) w0 r7 eH;have bM6_3:=FM6_3.binds (ps:=["self","boxes"]) λ_ _ _ _ _ _=>bD (λ_=>bD (λ_=>cL rfl));have FM7_0:=aL (st:=bb 30 0) w5 sa sb;have bM7_0:=FM7_0.binds (ps:=["self","loop","borne"]) λ_ _ _ _ _ _=>bD (λ_=>bD (λ_=>bD (λ_=>cL rfl)));have FM7_1:=aL (st:=bb 30 1) w7 sf e0;have bM7_1:=FM7_1.binds (ps:=["self"]) λ_ _ _ _ _ _=>bD (λ_=>cL rfl);have FM7_2:=aL (st:=bb 30 2) xa sl e2;have bM7_2:=FM7_2.binds (ps:=["self","boxes"]) λ_ _ _ _ _ _=>bD (λ_=>bD (λ_=>cL rfl));have T:Txt K mg:=⟨⟨f1,_,T1,_,[.int 0],F1,b1,e1,mg_of X G a1,(.cons ⟨_,rfl⟩ .nil),λ_=>(.cons (.int _) .nil)⟩,⟨f2,_,F2,b2,mg_of X G a2⟩,⟨f3,_,F3,b3,mg_of X G a3⟩,⟨f4,_,T4,_,[.int 1],F4,b4,e4,mg_of X G a4,(.cons ⟨_,rfl⟩ .nil),λ_=>(.cons (.int _) .nil)⟩,⟨f5,_,F5,b5,mg_of X G a5⟩,⟨f6,_,F6,b6,mg_of X G a6⟩,⟨f7,_,F7,b7,mg_of X G a7⟩,⟨f8,_,F8,b8,mg_of X G a8⟩,⟨f9,_,F9,b9,mg_of X G a9⟩,⟨gN,_,F10,b10,mg_of X G MC⟩,⟨gO,_,F11,b11,mg_of X G MG⟩,⟨gT,_,F12,b12,mg_of X G MK⟩,⟨gV,_,F13,b13,mg_of X G MO⟩,⟨g0,_,F14,b14,mg_of X G MS⟩,⟨g1,_,F15,b15,mg_of X G MW⟩,⟨dK,_,hk,_,[.int 50],F16,b16,e16,mg_of X G M0,(.cons ⟨_,rfl⟩ .nil),λ_=>(.cons (.int _) .nil)⟩,⟨g2,_,F17,b17,mg_of X G M6⟩,⟨g3,_,F18,b18,mg_of X G Na⟩,⟨g4,_,F19,b19,mg_of X G Nf⟩,⟨g5,_,F20,b20,mg_of X G Nj⟩,⟨g6,_,F21,b21,mg_of X G No⟩,⟨g7,_,F22,b22,mg_of X G Nt⟩,⟨g8,_,F23,b23,mg_of X G Nx⟩,⟨ha,_,F24,b24,mg_of X G NB⟩,⟨hb,_,F25,b25,mg_of X G NG⟩,⟨hc,_,F26,b26,mg_of X G NK⟩,⟨hd,_,F27,b27,mg_of X G NO⟩,⟨he,_,F28,b28,mg_of X G NS⟩,⟨hf,_,F29,b29,mg_of X G NX⟩,⟨hg,_,F30,b30,mg_of X G N1⟩,⟨hh,_,F31,b31,mg_of X G N5⟩,⟨hi,_,F32,b32,mg_of X G N9⟩,⟨hj,_,F33,b33,mg_of X G Od⟩,⟨ai,mg_of X G Ot,⟨JD,JE,JF,JG⟩,th,ti,⟨bm,_,⟨JH,tk,p7,JI⟩,FM0_0,bM0_0⟩,⟨br,_,⟨to,qb,ep⟩,FM0_1,bM0_1⟩,⟨as,_,⟨hq,gu,dd⟩,FM0_100,bM0_100⟩,⟨dk,mg_of X G JJ,⟨⟨_,JK⟩,JL,JM⟩,JN⟩⟩,⟨aj,mg_of X G Ou,⟨JO,JP,JQ,JR⟩,ts,tt,⟨bs,_,⟨JS,tv,qs,JT⟩,FM1_0,bM1_0⟩,⟨bt,_,⟨ty,qx,eq⟩,FM1_1,bM1_1⟩,⟨az,_,⟨hs,gx,de⟩,FM1_100,bM1_100⟩,⟨dl,mg_of X G JU,⟨⟨_,JV⟩,JW,JX⟩,JY⟩⟩,⟨al,mg_of X G Ov,⟨JZ,J0,J1,J2⟩,t0,t2,⟨bx,_,⟨J3,t3,q2,J4⟩,FM2_0,bM2_0⟩,⟨bz,_,⟨t6,q5,er⟩,FM2_1,bM2_1⟩,⟨a0,_,⟨hu,gB,df⟩,FM2_100,bM2_100⟩,⟨ds,mg_of X G J5,⟨⟨_,J6⟩,J7,J8⟩,J9⟩⟩,⟨be,mg_of X G Ow,⟨Ka,Kb,Kc,Kd⟩,t8,⟨bF,_,⟨Ke,ua,q7,Kf⟩,FM3_0,bM3_0⟩,⟨b0,_,⟨un,ra,es⟩,FM3_1,bM3_1⟩,⟨bi,_,⟨hx,gD,dh⟩,FM3_100,bM3_100⟩,⟨dt,mg_of X G Kg,⟨⟨_,Kh⟩,Ki,Kj⟩,Kk⟩⟩,⟨ad,mg_of X G Ox,⟨Kl,Km,Kn,Ko⟩,ux,uy,u1,⟨cb,_,⟨Kp,u2,rd,Kq⟩,FM4_0,bM4_0⟩,⟨cd,_,⟨va,ri,ev⟩,FM4_1,bM4_1⟩,⟨ce,_,⟨vl,rn,ew⟩,FM4_2,bM4_2⟩,⟨dx,mg_of X G Kr,⟨⟨_,Ks⟩,Kt,Ku⟩,Kv⟩⟩,⟨an,mg_of X G Oy,⟨Kw,Kx,Ky,Kz⟩,vr,vs,⟨cg,_,⟨KA,vu,rp,KB⟩,FM5_0,bM5_0⟩,⟨ch,_,⟨v2,rs,ex⟩,FM5_1,bM5_1⟩,⟨cl,_,⟨v4,rv,ey⟩,FM5_2,bM5_2⟩,⟨dA,mg_of X G KC,⟨⟨_,KD⟩,KE,KF⟩,KG⟩⟩,⟨ab,mg_of X G Oz,⟨KH,KI,KJ,KK⟩,we,wi,wl,wn,⟨cn,_,⟨KL,wp,rx,KM⟩,FM6_0,bM6_0⟩,⟨co,_,⟨wr,r1,eD⟩,FM6_1,bM6_1⟩,⟨cp,_,⟨wt,r3,eG⟩,FM6_2,bM6_2⟩,⟨cs,_,⟨wy,r5,eH⟩,FM6_3,bM6_3⟩,⟨dB,mg_of X G KN,⟨⟨_,KO⟩,KP,KQ⟩,KR⟩⟩,⟨ar,mg_of X G OA,⟨KS,KU,KW,KY⟩,w2,w3,⟨ct,_,⟨KZ,w4,r8,K0⟩,FM7_0,bM7_0⟩,⟨cw,_,⟨w6,sc,e0⟩,FM7_1,bM7_1⟩,⟨cx,_,⟨w8,sg,e2⟩,FM7_2,bM7_2⟩,⟨dD,mg_of X G K1,⟨⟨_,K2⟩,K3,K4⟩,K5⟩⟩,⟨bk,bj,bl,⟨mg_of X G Om,On⟩,⟨mg_of X G Oo,Op⟩,⟨mg_of X G Oq,Os⟩,te,tg,⟨⟨Jl,Jm,Jn⟩,⟨⟨_,Jo⟩,Jp,Jq⟩⟩,⟨⟨Jr,Js,Jt⟩,⟨⟨_,Ju⟩,Jv,Jw⟩⟩,⟨⟨Jx,Jy,Jz⟩,⟨⟨_,JA⟩,JB,JC⟩⟩⟩,mg_none_of X G z1,mg_none_of X G z2,mg_none_of X G z3,mg_none_of X G z4,mg_none_of X G z5,mg_none_of X G z6,mg_none_of X G z7,mg_none_of X G z8,mg_none_of X G z9,mg_none_of X G OB,mg_none_of X G OC,mg_none_of X G OD,mg_none_of X G OE⟩;exact⟨fnOf "law" "law" (aw (aN 52)) (au (aN 52)) (am (aN 52)) .none h0 h1 h2 hA e3 h3,λs v=> .of_eq rfl,λbase _ _=>AF T F34⟩
theorem walk {l:PySem.W.OpenLaw} {q:Program} {loose:List Str} {XP:(Str->Option Value)->Heap->Prop} {YP:World->Heap->Prop} {d:DefRec} {K:Params->yax} (hn:l.most=some 63) (hdf:d.params.defaults=[])
 (hY:∀(w:World) (h:Heap),YP w h->(K w.params).In h)
 (F:∀(w:World) (mg:ydv) (fa:Addr) (h:Heap),(K w.params).In h->h.Ns mainGlobals mg->mg d.name=some (.ref fa)->
   ∃fd:FuncData,(∀(s:Shared) (u:Value),BindsTo s fd ⟨[u],[]⟩ [("_law_script",u)])/\∀base:Heap,(K w.params).In base->base.Ns mainGlobals mg->dJ l.prog w (K w.params) mg base sr 100 fa fd ["_law_script"] (vF (K w.params) gY)):
 PySem.W.WalkO q loose XP YP l.row.toRowW d [] (λf vs=>PySem.call f vs):=
 L2.walk_ofC (n:=63) (k:=100) (x:="_law_script") (CX:=λ_=>sr) (sp:=λw=>vF (K w.params) gY) hn (by decide) hdf ⟨rfl,by decide,by decide⟩ hY F (λ_ _ _ _ hl hc hO hS=>oJ hO hS hl hc) λ_ _ _ _ _ z=>z
end Lw
namespace PySem.W.Fast
theorem te4589417003303641545:0=0:=rfl
theorem te932671815485002137:0=0:=rfl
theorem te6161067743718216350:0=0:=rfl
theorem te17179358700250325029:0=0:=rfl
theorem te3715235719524293895:0=0:=rfl
theorem te8726940990045694341:0=0:=rfl
theorem te3595321132829849580:0=0:=rfl
theorem te15969676577507125062:0=0:=rfl
theorem te8778583236840000916:0=0:=rfl
theorem te6737386458580202512:0=0:=rfl
theorem te15557464179678226633:0=0:=rfl
theorem te15695088447053827949:0=0:=rfl
theorem te8473394126025061765:0=0:=rfl
theorem te6922956243381096123:0=0:=rfl
theorem te252411570047985999:0=0:=rfl
theorem te6534990383637860566:0=0:=rfl
theorem te12344847179044214531:0=0:=rfl
theorem te3907564878074554302:0=0:=rfl
theorem te8430393428667371893:0=0:=rfl
theorem te14944750770882724238:0=0:=rfl
theorem te11803194083603209145:0=0:=rfl
theorem te18265952909514350850:0=0:=rfl
theorem te15178869659942665555:0=0:=rfl
theorem te14745121477961242167:0=0:=rfl
theorem te14282065643194417014:0=0:=rfl
theorem te6430216205141412825:0=0:=rfl
theorem te11746010810754191216:0=0:=rfl
theorem te11480865592357543096:0=0:=rfl
theorem te7925107091674632808:0=0:=rfl
theorem te18065275912185728137:0=0:=rfl
theorem te6866500847320191012:0=0:=rfl
theorem te6336500547754835391:0=0:=rfl
theorem te11180702295709135987:0=0:=rfl
theorem te16168982424837546106:0=0:=rfl
theorem te18102306419714916724:0=0:=rfl
theorem te9227377391859944682:0=0:=rfl
theorem te7385987277416150416:0=0:=rfl
theorem te15665430144674197805:0=0:=rfl
theorem te11883363274101192282:0=0:=rfl
theorem te11067365769288986515:0=0:=rfl
theorem te15304033172180028369:0=0:=rfl
theorem te11682797663562117968:0=0:=rfl
theorem te5273728695330548642:0=0:=rfl
theorem te18386224538404512252:0=0:=rfl
theorem te7827519422280765459:0=0:=rfl
theorem te12115579079342945420:0=0:=rfl
theorem te10119542656088100950:0=0:=rfl
theorem te15706395629007132985:0=0:=rfl
theorem te1868440172097051252:0=0:=rfl
theorem te4593690118155692871:0=0:=rfl
theorem te5438943487299657217:0=0:=rfl
theorem te16714646367632685515:0=0:=rfl
theorem te12749158424205381067:0=0:=rfl
theorem te17953107068153782655:0=0:=rfl
theorem te8880478324886725017:0=0:=rfl
theorem te13160624178013683329:0=0:=rfl
theorem te15850993220243920788:0=0:=rfl
theorem te4084427294918565329:0=0:=rfl
theorem te5167769647519727885:0=0:=rfl
theorem te5504953072714694908:0=0:=rfl
theorem te15001128990341940906:0=0:=rfl
theorem te16490086481950628265:0=0:=rfl
theorem te4659936801163866054:0=0:=rfl
theorem te12475201166322811839:0=0:=rfl
theorem te12308584918252893290:0=0:=rfl
theorem te14094035211575737706:0=0:=rfl
theorem te13204191649836144066:0=0:=rfl
theorem te7316694811555121703:0=0:=rfl
theorem te2610460881319822736:0=0:=rfl
theorem te4893133741993530033:0=0:=rfl
theorem te16883511978481712122:0=0:=rfl
theorem te1412527826879572629:0=0:=rfl
theorem te13407754748324516954:0=0:=rfl
theorem te1967914126024760586:0=0:=rfl
theorem te14178820957935135777:0=0:=rfl
theorem te2695909555913073664:0=0:=rfl
theorem te12821703875997472878:0=0:=rfl
theorem te14303822695537321339:0=0:=rfl
theorem te16698560387248541554:0=0:=rfl
theorem te6574602464502944887:0=0:=rfl
theorem te3830098664437050333:0=0:=rfl
theorem te8874761714820191285:0=0:=rfl
theorem te13780710107327877254:0=0:=rfl
theorem te16805488550551228455:0=0:=rfl
theorem te7407342509384077786:0=0:=rfl
theorem te12802328949564449124:0=0:=rfl
theorem te10411327847847936004:0=0:=rfl
theorem te11026251250241096335:0=0:=rfl
theorem te4764174142515054409:0=0:=rfl
theorem te4630117105060450212:0=0:=rfl
theorem te16969197116608748732:0=0:=rfl
theorem te7903436127499336419:0=0:=rfl
theorem te18095767776002256580:0=0:=rfl
theorem te380544036633219830:0=0:=rfl
theorem te12220637545477342904:0=0:=rfl
theorem te2495800590658596834:0=0:=rfl
theorem te3403760440783086500:0=0:=rfl
theorem te6668967963063587672:0=0:=rfl
theorem te773950065438498746:0=0:=rfl
theorem te5259641207919634383:0=0:=rfl
theorem te14958637336180502870:0=0:=rfl
theorem te5929762895334204847:0=0:=rfl
theorem te3760865342886998168:0=0:=rfl
theorem te12278435977036154137:0=0:=rfl
theorem te10393698650258648407:0=0:=rfl
theorem te4710163820227317299:0=0:=rfl
theorem te2929715250840824460:0=0:=rfl
theorem te8852456472084463017:0=0:=rfl
theorem te16709041476764253833:0=0:=rfl
theorem te13870139752390431475:0=0:=rfl
theorem te1877192923790194629:0=0:=rfl
theorem te7492182595352652693:0=0:=rfl
theorem te12075818234457492341:0=0:=rfl
theorem te9560055815866033742:0=0:=rfl
theorem te8497321123438916142:0=0:=rfl
theorem te11139735786093290205:0=0:=rfl
theorem te2619131461937456870:0=0:=rfl
theorem te5472993487853860494:0=0:=rfl
theorem te345413320196158672:0=0:=rfl
theorem te9881570703881819172:0=0:=rfl
theorem te3616980971613946004:0=0:=rfl
theorem te5403128457752493775:0=0:=rfl
theorem te11932104642185967418:0=0:=rfl
theorem te5215693071741594500:0=0:=rfl
theorem te3054240131932031932:0=0:=rfl
theorem te17171542714849638525:0=0:=rfl
theorem te15815725211474709039:0=0:=rfl
theorem te11004450876328523119:0=0:=rfl
theorem te10320943807597787034:0=0:=rfl
theorem te13367490462753452507:0=0:=rfl
theorem te5491643694946613795:0=0:=rfl
theorem te6833101375377464283:0=0:=rfl
theorem te3321716155216404861:0=0:=rfl
theorem te1433716948107837133:0=0:=rfl
theorem te18188989175793096064:0=0:=rfl
theorem te12338167063387030298:0=0:=rfl
theorem te16658032814995080961:0=0:=rfl
theorem te18061437205305462873:0=0:=rfl
theorem te1294706965406106764:0=0:=rfl
theorem te1007205259999069314:0=0:=rfl
theorem te6782274356026386790:0=0:=rfl
theorem te9693566282245073627:0=0:=rfl
theorem te281150895590562343:0=0:=rfl
theorem te5064941392975228961:0=0:=rfl
theorem te11729769742366828005:0=0:=rfl
theorem te3801729014941205572:0=0:=rfl
theorem te8323349696446053483:0=0:=rfl
theorem te6571347811692824788:0=0:=rfl
theorem te5523803754957931375:0=0:=rfl
theorem te11858671438429356904:0=0:=rfl
theorem te947548837346050694:0=0:=rfl
theorem te7129296126957372394:0=0:=rfl
theorem te4543948234094551955:0=0:=rfl
theorem te11286825097832459099:0=0:=rfl
theorem te7004027538124191117:0=0:=rfl
theorem te9155406961523683025:0=0:=rfl
theorem te2643547463103867544:0=0:=rfl
theorem te16780251367790211100:0=0:=rfl
theorem te11340319458959738632:0=0:=rfl
theorem te14727235978606293867:0=0:=rfl
theorem te7007544062025720041:0=0:=rfl
theorem te12441064031703952725:0=0:=rfl
theorem te2735486376746933237:0=0:=rfl
theorem te9145132550670887781:0=0:=rfl
theorem te9469834312727848713:0=0:=rfl
theorem te6361144093766658391:0=0:=rfl
theorem te15738004382766857277:0=0:=rfl
theorem te11765577081703644076:0=0:=rfl
theorem te18017113340320680831:0=0:=rfl
theorem te15560689448470843300:0=0:=rfl
theorem te15995289085910985627:0=0:=rfl
theorem te15655417265713431930:0=0:=rfl
theorem te5878423164382849867:0=0:=rfl
theorem te4553273153596272690:0=0:=rfl
theorem te8084718798026387859:0=0:=rfl
theorem te11432319529268377301:0=0:=rfl
theorem te13304361412197466817:0=0:=rfl
theorem te10648418020362856911:0=0:=rfl
theorem te15534128658083880837:0=0:=rfl
theorem te11355218759819476644:0=0:=rfl
theorem te5335190967505284661:0=0:=rfl
theorem te2732835083466016284:0=0:=rfl
theorem te8117445117166648902:0=0:=rfl
theorem te14382594405341276381:0=0:=rfl
theorem te5914175539989961465:0=0:=rfl
theorem te15379900644050233871:0=0:=rfl
theorem te138794080385484703:0=0:=rfl
theorem te6397063221817551695:0=0:=rfl
theorem te2905816643268861869:0=0:=rfl
theorem te10497973479860418917:0=0:=rfl
theorem te160827630866253687:0=0:=rfl
theorem te2688304985731055375:0=0:=rfl
theorem te3852244834448990914:0=0:=rfl
theorem te9367371489931160473:0=0:=rfl
theorem te7064523611722374933:0=0:=rfl
theorem te10923995476167729792:0=0:=rfl
theorem te6793502642328151338:0=0:=rfl
theorem te6029109441378389483:0=0:=rfl
theorem te14299722144744811550:0=0:=rfl
theorem te5889790220823044823:0=0:=rfl
theorem te12966470708479525355:0=0:=rfl
theorem te15522194608167588489:0=0:=rfl
theorem te14676619911133528192:0=0:=rfl
theorem te3069616372019394545:0=0:=rfl
theorem te17369166430998758135:0=0:=rfl
theorem te9575874789556123598:0=0:=rfl
theorem te9517244975716603513:0=0:=rfl
theorem te15973209807573363602:0=0:=rfl
theorem te5156220004443921849:0=0:=rfl
theorem te10074833824922682681:0=0:=rfl
theorem te5194448591752282310:0=0:=rfl
theorem te15395820888671020188:0=0:=rfl
theorem te15898466741902273734:0=0:=rfl
theorem te753224998179938194:0=0:=rfl
theorem te1584896188671113098:0=0:=rfl
theorem te13180932202797892928:0=0:=rfl
theorem te7399586468463036682:0=0:=rfl
theorem te18321964214847029503:0=0:=rfl
theorem te9681073794777640382:0=0:=rfl
theorem te10144167586826754658:0=0:=rfl
theorem te10828915063092793165:0=0:=rfl
theorem te13645628260304294489:0=0:=rfl
theorem te6670586487532666274:0=0:=rfl
theorem te6174364597443349980:0=0:=rfl
theorem te6483123378524640570:0=0:=rfl
theorem te10919026796853376453:0=0:=rfl
theorem te10217411923903039524:0=0:=rfl
theorem te59341271363596908:0=0:=rfl
theorem te17198323283537259329:0=0:=rfl
theorem te4834907448225419801:0=0:=rfl
theorem te15640882276891300653:0=0:=rfl
theorem te2597405169409182117:0=0:=rfl
theorem te2069233702359435880:0=0:=rfl
theorem te7772586975452667179:0=0:=rfl
theorem te8922093313101846808:0=0:=rfl
theorem te16644122616162174514:0=0:=rfl
theorem te6166118339660780723:0=0:=rfl
theorem te13132925227428111775:0=0:=rfl
theorem te3356391364263752871:0=0:=rfl
theorem te1345449286300901420:0=0:=rfl
theorem te16834916101084304565:0=0:=rfl
theorem te10557286919845018400:0=0:=rfl
theorem te13585939288587107539:0=0:=rfl
theorem te4703422226121301586:0=0:=rfl
theorem te10301738054934941810:0=0:=rfl
theorem te14674698999797145345:0=0:=rfl
theorem te955509106957454985:0=0:=rfl
theorem te12953797742650701791:0=0:=rfl
theorem te4142798704674309084:0=0:=rfl
theorem te4298710678000255964:0=0:=rfl
theorem te16019527405820683367:0=0:=rfl
theorem te13417711527883238734:0=0:=rfl
theorem te2941984808705144326:0=0:=rfl
theorem te5871812572063967965:0=0:=rfl
theorem te9095230714673056745:0=0:=rfl
theorem te12235208645941519335:0=0:=rfl
theorem te10221527835081846102:0=0:=rfl
theorem te617080462577066152:0=0:=rfl
theorem te4609617578868857904:0=0:=rfl
theorem te2834529766929523155:0=0:=rfl
theorem te4610478255178756443:0=0:=rfl
theorem te8778183983278451452:0=0:=rfl
theorem te3832653185508822580:0=0:=rfl
theorem te15252040672554228945:0=0:=rfl
theorem te6078639859915690869:0=0:=rfl
theorem te3287094791748386925:0=0:=rfl
theorem te9559243847186334380:0=0:=rfl
theorem te18002030808826947600:0=0:=rfl
theorem te12629112902933502916:0=0:=rfl
theorem te15802351739967701160:0=0:=rfl
theorem te13838264750156748905:0=0:=rfl
theorem te1017761001174585210:0=0:=rfl
theorem te15066763055473262456:0=0:=rfl
theorem te4724618044127471484:0=0:=rfl
theorem te16850183650853876123:0=0:=rfl
theorem te12052114183746415347:0=0:=rfl
theorem te17578337707899986947:0=0:=rfl
theorem te16929743644220389453:0=0:=rfl
theorem te12595599551295800508:0=0:=rfl
theorem te1509671958800696925:0=0:=rfl
theorem te326424120870376723:0=0:=rfl
theorem te5250041978083309878:0=0:=rfl
theorem te14640029436292089578:0=0:=rfl
theorem te15354005853196317413:0=0:=rfl
theorem te7805074430900367876:0=0:=rfl
theorem te11551014923543576599:0=0:=rfl
theorem te6930888986187945938:0=0:=rfl
theorem te11140894455805553668:0=0:=rfl
theorem te17714354533222682489:0=0:=rfl
theorem te5734761530543409867:0=0:=rfl
theorem te11197292843093023241:0=0:=rfl
theorem te8412202924216103353:0=0:=rfl
theorem te12796689976898087998:0=0:=rfl
theorem te5132152115721023915:0=0:=rfl
theorem te6859381213959466931:0=0:=rfl
theorem te3516320800802708436:0=0:=rfl
theorem te4720274144746242655:0=0:=rfl
theorem te6616089172029230235:0=0:=rfl
theorem te361525122948571029:0=0:=rfl
theorem te451198205291856864:0=0:=rfl
theorem te1850196327853295457:0=0:=rfl
theorem te228734046196846325:0=0:=rfl
theorem te3206503374182878667:0=0:=rfl
theorem te7713991431724861403:0=0:=rfl
theorem te5768623797054721582:0=0:=rfl
theorem te17140251589099935280:0=0:=rfl
theorem te9263590929621559188:0=0:=rfl
theorem te6987243763552009119:0=0:=rfl
theorem te4899926420419015937:0=0:=rfl
theorem te17138722519006094554:0=0:=rfl
theorem te10717481406059794527:0=0:=rfl
theorem te2832872558152601891:0=0:=rfl
theorem te14267417634197036627:0=0:=rfl
theorem te10602705680841911097:0=0:=rfl
theorem te6510118081430412406:0=0:=rfl
theorem te7818882684948590405:0=0:=rfl
theorem te2084174320459105415:0=0:=rfl
theorem te15388211307293650910:0=0:=rfl
theorem te3213765094723707642:0=0:=rfl
theorem te5330051318776757417:0=0:=rfl
theorem te8893787977356658748:0=0:=rfl
theorem te4007195341037427056:0=0:=rfl
theorem te8981724470355805796:0=0:=rfl
theorem te2447123449610449231:0=0:=rfl
theorem te4383757781182263696:0=0:=rfl
theorem te416242455749997765:0=0:=rfl
theorem te12986562617113260190:0=0:=rfl
theorem te13075154250551710203:0=0:=rfl
theorem te16450697471053568985:0=0:=rfl
theorem te8135314741382405735:0=0:=rfl
theorem te17481534797573892037:0=0:=rfl
theorem te10034231011082335083:0=0:=rfl
theorem te1478341208818215923:0=0:=rfl
theorem te16920155647899508630:0=0:=rfl
theorem te13626204755119602713:0=0:=rfl
theorem te5128200802727319199:0=0:=rfl
theorem te9740216534683431174:0=0:=rfl
theorem te16255763113126702706:0=0:=rfl
theorem te12827734656258128967:0=0:=rfl
theorem te2294377406083454284:0=0:=rfl
theorem te17685480412514777580:0=0:=rfl
theorem te788622099025982404:0=0:=rfl
theorem te6918434291824252774:0=0:=rfl
theorem te5411979346457875695:0=0:=rfl
theorem te9140030917590253304:0=0:=rfl
theorem te12174762357924076636:0=0:=rfl
theorem te6617946244859366597:0=0:=rfl
theorem te9087910511975628270:0=0:=rfl
theorem te16834523524406188927:0=0:=rfl
theorem te13407176215865532882:0=0:=rfl
theorem te891142220072433173:0=0:=rfl
theorem te17394149030155223749:0=0:=rfl
theorem te8297980073018765972:0=0:=rfl
theorem te11793030070009014018:0=0:=rfl
theorem te14478117085168744946:0=0:=rfl
theorem te271761570469132624:0=0:=rfl
theorem te3804869903677572799:0=0:=rfl
theorem te17639095365297809262:0=0:=rfl
theorem te7305905925068554452:0=0:=rfl
theorem te14318272554849585901:0=0:=rfl
theorem te2275518698272230283:0=0:=rfl
theorem te9041226598104062316:0=0:=rfl
theorem te16289135863663213827:0=0:=rfl
theorem te2962310320628891264:0=0:=rfl
theorem te5990847778332652474:0=0:=rfl
theorem te9471824760883208624:0=0:=rfl
theorem te432857533182989162:0=0:=rfl
theorem te16132486210526095761:0=0:=rfl
theorem te251657747428844294:0=0:=rfl
theorem te14680631052104109424:0=0:=rfl
theorem te2207016417196843076:0=0:=rfl
theorem te5078846597546170381:0=0:=rfl
theorem te15987630966344223837:0=0:=rfl
theorem te5368790658649932156:0=0:=rfl
theorem te15278698468499871274:0=0:=rfl
theorem te7364619524492081068:0=0:=rfl
theorem te3881916551365138150:0=0:=rfl
theorem te14444165760708023553:0=0:=rfl
theorem te10863706591388377062:0=0:=rfl
theorem te3237451994831157145:0=0:=rfl
theorem te1222708388630768138:0=0:=rfl
theorem te18204658797213002618:0=0:=rfl
theorem te16808243072098688076:0=0:=rfl
theorem te8863908832015151309:0=0:=rfl
theorem te11237390032703812110:0=0:=rfl
theorem te15590176677252210745:0=0:=rfl
theorem te8553540706704804525:0=0:=rfl
theorem te4039959407804659064:0=0:=rfl
theorem te8626108331943225947:0=0:=rfl
theorem te562933396958126838:0=0:=rfl
theorem te2288632073979285854:0=0:=rfl
theorem te17031261164872513332:0=0:=rfl
theorem te3932548202473816868:0=0:=rfl
theorem te9940464220742720866:0=0:=rfl
theorem te12581230191556821116:0=0:=rfl
theorem te12289485073172873903:0=0:=rfl
theorem te8859814139058622948:0=0:=rfl
theorem te5947861716207987660:0=0:=rfl
theorem te12617643338113338278:0=0:=rfl
theorem te4047133544497111749:0=0:=rfl
theorem te1902963133762510040:0=0:=rfl
theorem te2372568071099101163:0=0:=rfl
theorem te1743796551034292781:0=0:=rfl
theorem te6488705807503751379:0=0:=rfl
theorem te13556260703155739720:0=0:=rfl
theorem te17255059764879734171:0=0:=rfl
theorem te7385789509725254358:0=0:=rfl
theorem te7039205417199364245:0=0:=rfl
theorem te14122564044564680276:0=0:=rfl
theorem te1872741325366884506:0=0:=rfl
theorem te331953581423909767:0=0:=rfl
theorem te4131067203597842120:0=0:=rfl
theorem te5898144200846345163:0=0:=rfl
theorem te852090258831668197:0=0:=rfl
theorem te1263953559079760177:0=0:=rfl
theorem te17352346146536116906:0=0:=rfl
theorem te11754735699476720929:0=0:=rfl
theorem te15975232277034836331:0=0:=rfl
theorem te16746876622157997105:0=0:=rfl
theorem te15714926842893507291:0=0:=rfl
theorem te13485116921214390674:0=0:=rfl
theorem te13882350855285044808:0=0:=rfl
theorem te16865414270458603648:0=0:=rfl
theorem te16985273620684725866:0=0:=rfl
theorem te386251914682331886:0=0:=rfl
theorem te12884225219075085746:0=0:=rfl
theorem te2124436006698918641:0=0:=rfl
theorem te6694555818673757533:0=0:=rfl
theorem te317939174921630525:0=0:=rfl
theorem te10203696980653254942:0=0:=rfl
theorem te8808894766607204138:0=0:=rfl
theorem te2007493429495524136:0=0:=rfl
theorem te12723031808531217941:0=0:=rfl
theorem te6295662518212838736:0=0:=rfl
theorem te3418661376844980995:0=0:=rfl
theorem te1174123946341661174:0=0:=rfl
theorem te5511002855303426227:0=0:=rfl
theorem te8848133963365395036:0=0:=rfl
theorem te2930316361588686058:0=0:=rfl
theorem te10142033304428844937:0=0:=rfl
theorem te5500656768371982943:0=0:=rfl
theorem te11408027756434716571:0=0:=rfl
theorem te14174189998868820452:0=0:=rfl
theorem te14261676021482916335:0=0:=rfl
theorem te13437465888381512312:0=0:=rfl
theorem te16988801733125238839:0=0:=rfl
theorem te9510947074091550180:0=0:=rfl
theorem te15578614494204785682:0=0:=rfl
theorem te4140430715433291357:0=0:=rfl
theorem te11428702825671800076:0=0:=rfl
theorem te11065655973561818397:0=0:=rfl
theorem te11879500733715908528:0=0:=rfl
theorem te3971159376048687416:0=0:=rfl
theorem te17523941592451091001:0=0:=rfl
theorem te17704118757017958507:0=0:=rfl
theorem te5885333390810634244:0=0:=rfl
theorem te1751063358964717570:0=0:=rfl
theorem te2745462139717028161:0=0:=rfl
theorem te5363024897586046647:0=0:=rfl
theorem te17822698358385309790:0=0:=rfl
theorem te9890062066509462671:0=0:=rfl
theorem te11645151802032204703:0=0:=rfl
theorem te17532447022859105706:0=0:=rfl
theorem te13358704779878174980:0=0:=rfl
theorem te1915199156115417226:0=0:=rfl
theorem te13537451194039234455:0=0:=rfl
theorem te7390002688943665537:0=0:=rfl
theorem te13182299238293704773:0=0:=rfl
theorem te15104429809581370924:0=0:=rfl
theorem te7575886382763827322:0=0:=rfl
theorem te11438680517364172121:0=0:=rfl
theorem te14605071928172140287:0=0:=rfl
theorem te12248479867672432930:0=0:=rfl
theorem te13266542753971506540:0=0:=rfl
theorem te3790116965622217857:0=0:=rfl
theorem te8713064916797817327:0=0:=rfl
theorem te1811424151218017450:0=0:=rfl
theorem te10616257930933432900:0=0:=rfl
theorem te11953114729279345809:0=0:=rfl
theorem te8874099509402246605:0=0:=rfl
noncomputable def tw1572365209619861112:Unit:=()
noncomputable def tw10496372502176931444:Unit:=()
noncomputable def tw10031977414674023030:Unit:=()
noncomputable def tw1612966912314920903:Unit:=()
noncomputable def tw12625646685587840361:Unit:=()
noncomputable def tw5016570612900573627:Unit:=()
noncomputable def tw13086232407186886071:Unit:=()
noncomputable def tw6473799431228526917:Unit:=()
noncomputable def tw13830321922397566562:Unit:=()
noncomputable def tw5109317812017466315:Unit:=()
noncomputable def tw1270382827624587331:Unit:=()
noncomputable def tw16746480614430083686:Unit:=()
noncomputable def tw9482765380616709801:Unit:=()
noncomputable def tw10100186952608569770:Unit:=()
noncomputable def tw11584166310143356908:Unit:=()
noncomputable def tw5227005652371687181:Unit:=()
noncomputable def tw8667055246663794702:Unit:=()
noncomputable def tw15128384213998873262:Unit:=()
noncomputable def tw6147184630990386960:Unit:=()
noncomputable def tw390851202670725201:Unit:=()
noncomputable def tw17263445841151834449:Unit:=()
noncomputable def tw12419668397382642257:Unit:=()
noncomputable def tw7769763022695168755:Unit:=()
noncomputable def tw4628382376146334772:Unit:=()
noncomputable def tw7970957493104941558:Unit:=()
noncomputable def tw17063945669250242073:Unit:=()
noncomputable def tw9474170782359845817:Unit:=()
noncomputable def tw4322683678203692346:Unit:=()
noncomputable def tw206978782975212092:Unit:=()
end PySem.W.Fast
open PySem PySem.W PyProof.Rows
set_option maxRecDepth 100000 in
set_option maxHeartbeats 0 in
theorem PySem.Challenge.cw_hydrahouse_k69_weights_on_the_way_holds : PySem.Challenge.rw_hydrahouse_k69_weights_on_the_way.Holds := by
 w_on;o_law;k_head;(case hw=>w_witness2)
 k_fill
 refine Lw.walk (l:=PySem.Challenge.rw_hydrahouse_k69_weights_on_the_way) rfl rfl (λw h Y=>PySem.W.kIn_of Y) ?F
 case F=>
  intro w mg fa h KX G hmg;refine' Lw.all_mk KX G hmg ?a1 ?l1 ?c1 ?k1 ?a2 ?l2 ?c2 ?k2 ?a3 ?l3 ?c3 ?k3 ?a4 ?l4 ?c4 ?k4 ?a5 ?l5 ?c5 ?k5 ?a6 ?l6 ?c6 ?k6 ?a7 ?l7 ?c7 ?k7 ?a8 ?l8 ?c8 ?k8 ?a9 ?l9 ?c9 ?k9 ?MC ?MD ?ME ?MF ?MG ?MH ?MI ?MJ ?MK ?ML ?MM ?MN ?MO ?MP ?MQ ?MR ?MS ?MT ?MU ?MV ?MW ?MX ?MY ?MZ ?M0 ?M3 ?M4 ?M5 ?M6 ?M7 ?M8 ?M9 ?Na ?Nb ?Nc ?Nd ?Nf ?Ng ?Nh ?Ni ?Nj ?Nk ?Nl ?Nn ?No ?Np ?Nq ?Nr ?Nt ?Nu ?Nv ?Nw ?Nx ?Ny ?Nz ?NA ?NB ?NC ?ND ?NE ?NG ?NH ?NI ?NJ ?NK ?NL ?NM ?NN ?NO ?NP ?NQ ?NR ?NS ?NT ?NU ?NW ?NX ?NY ?NZ ?N0 ?N1 ?N2 ?N3 ?N4 ?N5 ?N6 ?N7 ?N8 ?N9 ?Oa ?Ob ?Oc ?Od ?Oe ?Of ?Og ?Oh ?Oi ?Oj ?Ok ?t1 ?t4 ?Ol ?Om ?On ?Oo ?Op ?Oq ?Os ?te ?tg ?Jl ?Jm ?Jn ?Jo ?Jp ?Jq ?Jr ?Js ?Jt ?Ju ?Jv ?Jw ?Jx ?Jy ?Jz ?JA ?JB ?JC ?Ot ?JD ?JE ?JF ?JG ?JH ?JI ?th ?ti ?tk ?p7 ?tn ?p8 ?qa ?to ?qb ?tr ?qn ?ep ?hq ?gu ?hr ?gw ?dd ?JJ ?JK ?JL ?JM ?JN ?Ou ?JO ?JP ?JQ ?JR ?JS ?JT ?ts ?tt ?tv ?qs ?tx ?qu ?qv ?ty ?qx ?tA ?q1 ?eq ?hs ?gx ?ht ?gA ?de ?JU ?JV ?JW ?JX ?JY ?Ov ?JZ ?J0 ?J1 ?J2 ?J3 ?J4 ?t0 ?t2 ?t3 ?q2 ?t5 ?q3 ?q4 ?t6 ?q5 ?t7 ?q6 ?er ?hu ?gB ?hv ?gC ?df ?J5 ?J6 ?J7 ?J8 ?J9 ?Ow ?Ka ?Kb ?Kc ?Kd ?Ke ?Kf ?t8 ?ua ?q7 ?ub ?q8 ?q9 ?un ?ra ?up ?rb ?es ?hx ?gD ?hy ?gI ?dh ?Kg ?Kh ?Ki ?Kj ?Kk ?Ox ?Kl ?Km ?Kn ?Ko ?Kp ?Kq ?ux ?uy ?u1 ?u2 ?rd ?u8 ?rg ?rh ?va ?ri ?vb ?rj ?ev ?vl ?rn ?vm ?ro ?ew ?Kr ?Ks ?Kt ?Ku ?Kv ?Oy ?Kw ?Kx ?Ky ?Kz ?KA ?KB ?vr ?vs ?vu ?rp ?v1 ?rq ?rr ?v2 ?rs ?v3 ?ru ?ex ?v4 ?rv ?v8 ?rw ?ey ?KC ?KD ?KE ?KF ?KG ?Oz ?KH ?KI ?KJ ?KK ?KL ?KM ?we ?wi ?wl ?wn ?wp ?rx ?wq ?ry ?r0 ?wr ?r1 ?ws ?r2 ?eD ?wt ?r3 ?wx ?r4 ?eG ?wy ?r5 ?w0 ?r7 ?eH ?KN ?KO ?KP ?KQ ?KR ?OA ?KS ?KU ?KW ?KY ?KZ ?K0 ?w2 ?w3 ?w4 ?r8 ?w5 ?sa ?sb ?w6 ?sc ?w7 ?sf ?e0 ?w8 ?sg ?xa ?sl ?e2 ?K1 ?K2 ?K3 ?K4 ?K5 ?z1 ?z2 ?z3 ?z4 ?z5 ?z6 ?z7 ?z8 ?z9 ?OB ?OC ?OD ?OE
  case a1|l1|c1|k1|a2|l2|c2|k2|a3|l3|c3|k3|a4|l4|c4|k4|a5|l5|c5|k5|a6|l6|c6|k6|a7|l7|c7|k7|a8|l8|c8|k8|a9|l9|c9|k9|MC|MD|ME|MF|MG|MH|MI|MJ|MK|ML|MM|MN|MO|MP|MQ|MR|MS|MT|MU|MV|MW|MX|MY|MZ|M0|M3|M4|M5|M6|M7|M8|M9|Na|Nb|Nc|Nd|Nf|Ng|Nh|Ni|Nj|Nk|Nl|Nn|No|Np|Nq|Nr|Nt|Nu|Nv|Nw|Nx|Ny|Nz|NA|NB|NC|ND|NE|NG|NH|NI|NJ|NK|NL|NM|NN|NO|NP|NQ|NR|NS|NT|NU|NW|NX|NY|NZ|N0|N1|N2|N3|N4|N5|N6|N7|N8|N9|Oa|Ob|Oc|Od|Oe|Of|Og|Oh|Oi|Oj|Ok|t1|t4|Ol|Om=>k_is
  (case On=>k_exc)
  case Oo=>k_is
  (case Op=>k_exc)
  case Oq=>k_is
  (case Os=>k_exc)
  case te|tg|Jl|Jm|Jn|Jo|Jp|Jq|Jr|Js|Jt|Ju|Jv|Jw|Jx|Jy|Jz|JA|JB|JC|Ot|JD|JE|JF|JG|JH|JI|th|ti|tk|p7|tn|p8|qa|to|qb|tr|qn|ep|hq|gu|hr|gw|dd|JJ|JK|JL|JM|JN|Ou|JO|JP|JQ|JR|JS|JT|ts|tt|tv|qs|tx|qu|qv|ty|qx|tA|q1|eq|hs|gx|ht|gA|de|JU|JV|JW|JX|JY|Ov|JZ|J0|J1|J2|J3|J4|t0|t2|t3|q2|t5|q3|q4|t6|q5|t7|q6|er|hu|gB|hv|gC|df|J5|J6|J7|J8|J9|Ow|Ka|Kb|Kc|Kd|Ke|Kf|t8|ua|q7|ub|q8|q9|un|ra|up|rb|es|hx|gD|hy|gI|dh|Kg|Kh|Ki|Kj|Kk|Ox|Kl|Km|Kn|Ko|Kp|Kq|ux|uy|u1|u2|rd|u8|rg|rh|va|ri|vb|rj|ev|vl|rn|vm|ro|ew|Kr|Ks|Kt|Ku|Kv|Oy|Kw|Kx|Ky|Kz|KA|KB|vr|vs|vu|rp|v1|rq|rr|v2|rs|v3|ru|ex|v4|rv|v8|rw|ey|KC|KD|KE|KF|KG|Oz|KH|KI|KJ|KK|KL|KM|we|wi|wl|wn|wp|rx|wq|ry|r0|wr|r1|ws|r2|eD|wt|r3|wx|r4|eG|wy|r5|w0|r7|eH|KN|KO|KP|KQ|KR|OA|KS|KU|KW|KY|KZ|K0|w2|w3|w4|r8|w5|sa|sb|w6|sc|w7|sf|e0|w8|sg|xa|sl|e2|K1|K2|K3|K4|K5|z1|z2|z3|z4|z5|z6|z7|z8|z9|OB|OC|OD|OE=>k_is
