import PyProof.Rows.All
import Wide.All
import OpenK.AllK
import Wide.FinOn
import KE.KEqDict
import KE.KPairComp
import KE.KDictList
import KE.KRevSl
import PyProof.Rows.SetFrom
import KE.KRevIter
import KE.KDictOf
import KE.KSortAsk
import KE.KSortTup
import PyProof.Rows.SortRev
import KE.KDictSum
import PySem.Challenge.RW_hydrahouse_k63_whiles
set_option bootstrap.genMatcherCode false
set_option compiler.extract_closed false
set_option genSizeOf false
-- CHANGE: your row's module here, as the last of these rows
set_option Elab.async false
set_option linter.all false
set_option maxRecDepth 100000
open PySem.W (callWith_K clsIn codeIn emptyDict excIn findIn fnOf hasDictIn hideAll hideAll_get hideAll_none instIn instObj isFn keepIn kia_one lookIn makesIn mg_none_of mg_of mroIn nsIn of_hideAll plainGet plainOver typeIn)
abbrev yav:=PySem.W.Frag
abbrev ybx:=@List.mem_cons_of_mem
abbrev yby:=@List.mem_cons_self
abbrev ybz:=@PySem.Heap.get?_push_of_some
abbrev ybw:=@PySem.Heap.get?_push_size
abbrev ybv:=@PySem.Heap.lt_size
abbrev ycx:=@Nat.le_refl
abbrev ycy:=@Nat.le_trans
abbrev ycz:=@List.getElem?_eq_getElem
abbrev ycw:=@if_neg
abbrev ycv:=@if_pos
abbrev ydx:=@Bool.false_ne_true
abbrev ydy:=@decide_eq_false
abbrev ydz:=@decide_eq_true
abbrev ydw:=@Nat.lt_of_lt_of_le
abbrev ydv:=@Int.le_trans
abbrev yex:=@List.mem_append_right
abbrev yey:=PySem.Value->PySem.Shared->Prop
abbrev yez:=List PySem.Value
abbrev yew:=PySem.Str->Option PySem.Value
variable {K:yav} {E:PySem.Value->PySem.Shared->Prop} {s:PySem.Shared} {A:PySem.Around} {w:PySem.World} {P:PySem.Program} {prog:PySem.Program} {π:List (PySem.Addr×PySem.Obj)} {mg:PySem.Str->Option PySem.Value} {pos:PySem.Pos} {us:List PySem.Value} {Q:PySem.Value->PySem.Shared->Prop} {x:PySem.Str} {e:PySem.Expr} {a:PySem.Addr} {k:Nat} {fd:PySem.FuncData} {base:PySem.Heap} {es:List PySem.Expr} {ps:List PySem.Str} {u:PySem.Value} {i:Nat} {st:PySem.Stmt} {bm:List PySem.Value} {scope:PySem.Scope} {body:List PySem.Stmt} {items:Array PySem.Value}
open List (all_eq_true any_cons append_assoc append_nil cons_append drop_eq_getElem_cons filterMap_cons filter_cons filter_cons_of_neg filter_cons_of_pos flatten_cons foldl_cons getElem_mem length_append length_cons length_drop length_map length_nil length_reverse length_take lookup_cons map_append map_cons map_map map_nil map_reverse mem_append mem_append_left mem_append_right mem_cons mem_cons_of_mem mem_cons_self mem_filter mem_map mem_nil_iff mem_of_mem_take mem_singleton nil_append nodup_cons pairwise_cons pairwise_map replicate_succ set_cons_succ set_cons_zero set_set size_toArray sum_append sum_cons zip_cons_cons)
abbrev wax:=@PySem.wpAny_bind
abbrev way:=@PySem.wpAny_pure
open Nat (le_max_left le_max_right le_refl le_succ le_trans lt_irrefl lt_of_lt_of_le lt_or_ge max_le ne_of_lt not_lt zero_le)
namespace L2
open PySem PySem.Spec PyProof.Rows
abbrev aK:=Sum Int Str
noncomputable def iJ:aK->Value->Bool
 | .inl k,v=>Value.isInt k v
 | .inr x,v=>Value.isStrOf x v
noncomputable def Ex (w:World):aK->Int
 | .inl k=>hashInt k
 | .inr x=>hashStr w x
theorem bD:∀{k:aK} {v:Value},iJ k v=true->(∃i t,k=Sum.inl i/\v=Value.int i t)∨(∃x t,k=Sum.inr x/\v=Value.str x t)
 | .inl i,v,h=>by
   obtain⟨t,e⟩:=Value.isInt_shape (k:=i) (v:=v) h;exact .inl ⟨i,t,rfl,e⟩
 | .inr x,v,h=>by
   obtain⟨t,e⟩:=Value.isStrOf_shape (x:=x) (v:=v) h;exact .inr ⟨x,t,rfl,e⟩
theorem rF (i:Int) (t:Tok):iJ (.inl i) (.int i t)=true:=by simp[iJ,Value.isInt]
theorem rG (x:Str) (t:Tok):iJ (.inr x) (.str x t)=true:=by simp[iJ,Value.isStrOf]
theorem zJ (a b:Int):decide ((Sum.inl a:aK)=Sum.inl b)=(a==b):=by
 by_cases e:a=b
 ·subst e;simp
 ·have h:¬(Sum.inl a:aK)=Sum.inl b:=λq=>e (Sum.inl.inj q);rw[ydy h];exact(beq_eq_false_iff_ne.mpr e).symm
theorem zK (a b:Str):decide ((Sum.inr a:aK)=Sum.inr b)=decide (a=b):=by
 by_cases e:a=b
 ·subst e;simp
 ·have h:¬(Sum.inr a:aK)=Sum.inr b:=λq=>e (Sum.inr.inj q);rw[ydy h,ydy e]
theorem zL (a:Int) (b:Str):decide ((Sum.inl a:aK)=Sum.inr b)=false:=ydy (λq=>nomatch q)
theorem zM (a:Str) (b:Int):decide ((Sum.inr a:aK)=Sum.inl b)=false:=ydy (λq=>nomatch q)
noncomputable def aV (prog:Program) (w:World):PySem.KeyKind prog w aK where
 is:=iJ
 hash:=Ex w
 inj:=λv a b ha hb=>by
  rcases bD ha with⟨i,t,rfl,rfl⟩ | ⟨x,t,rfl,rfl⟩
  ·rcases bD hb with⟨j,u,rfl,e⟩ | ⟨y,u,rfl,e⟩
   ·injection e with e1 _;rw[e1]
   ·exact nomatch e
  ·rcases bD hb with⟨j,u,rfl,e⟩ | ⟨y,u,rfl,e⟩
   ·exact nomatch e
   ·injection e with e1 _;rw[e1]
 byValue:=λk v h=>by
  rcases bD h with⟨i,t,rfl,rfl⟩ | ⟨x,t,rfl,rfl⟩<;> rfl
 pyHash:=λhv h=>by
  rcases bD hv with⟨i,t,rfl,rfl⟩ | ⟨x,t,rfl,rfl⟩
  ·exact wpAny_pyHash_int h
  ·exact wpAny_pyHash_str h
 eqBool:=λhu hv h=>by
  rcases bD hu with⟨i,t,rfl,rfl⟩ | ⟨x,t,rfl,rfl⟩
  ·rcases bD hv with⟨j,u,rfl,rfl⟩ | ⟨y,u,rfl,rfl⟩
   ·rw[zJ] at h;exact wpAny_eqBool_int h
   ·rw[zL] at h;exact SeqAt.EqAt.int_str i t y u _ _ _ _ h
  ·rcases bD hv with⟨j,u,rfl,rfl⟩ | ⟨y,u,rfl,rfl⟩
   ·rw[zM] at h;exact SeqAt.EqAt.str_int x t j u _ _ _ _ h
   ·rw[zK] at h;exact wpAny_eqBool_str h
 «strs»:=λk x t v h=>by
  rcases bD h with⟨i,u,rfl,e⟩ | ⟨y,u,rfl,e⟩
  ·exact nomatch e
  ·injection e with e1 _
   subst e1;cases v<;> rfl
theorem dS (prog:Program) (w:World) (i:Int) (t:Tok):(aV prog w).is (.inl i) (.int i t)=true:=rF i t
theorem mM (prog:Program) (w:World) (x:Str) (t:Tok):(aV prog w).is (.inr x) (.str x t)=true:=rG x t
inductive V where
 | non | bl (b:Bool) | int (i:Int) | str (x:Str) | byt (b:Array UInt8) | flt (b:UInt64) | ref (a:Addr) | ty (n:String)
 deriving DecidableEq
def bd:V->Value->Prop
 | .non,u=>u=Value.none
 | .bl b,u=>u=Value.bool b
 | .int i,u=>∃t,u=Value.int i t
 | .str x,u=>∃t,u=Value.str x t
 | .byt b,u=>∃t,u=Value.bytes b t
 | .flt b,u=>∃t,u=Value.float b t
 | .ref a,u=>u=Value.ref a
 | .ty n,u=>u=Value.type n
abbrev aU:List V->List Value->Prop:=Paired bd
theorem aU.length {xs:List V} (r:aU xs us):xs.length=us.length:=Paired.length r
theorem aU.get:∀{xs:List V} {us:yez} {i:Nat} {x:V},aU xs us->xs[i]?=some x->∃u,us[i]?=some u/\bd x u
 | _,_,_,_,.nil,e=>by simp at e
 | _,_,0,_,.cons r _,e=>by simp at e;subst e;exact⟨_,rfl,r⟩
 | _,_,i+1,x,.cons _ t,e=>by
   obtain⟨u,h1,h2⟩:=aU.get (i:=i) (x:=x) t (by simpa using e);exact⟨u,by simpa using h1,h2⟩
theorem aU.append:∀{xs ys:List V} {us ws:yez},aU xs us->aU ys ws->aU (xs++ys) (us++ws)
 | _,_,_,_,.nil,s=>s
 | _,_,_,_,.cons r t,s=> .cons r (aU.append t s)
theorem aU.take:∀{xs:List V} {us:yez} (n:Nat),aU xs us->aU (xs.take n) (us.take n)
 | _,_,0,_=> .nil
 | _,_,_+1,.nil=> .nil
 | _,_,n+1,.cons r t=> .cons r (aU.take n t)
theorem aU.drop:∀{xs:List V} {us:yez} (n:Nat),aU xs us->aU (xs.drop n) (us.drop n)
 | _,_,0,r=>r
 | _,_,_+1,.nil=> .nil
 | _,_,n+1,.cons _ t=>aU.drop n t
def fE:Option V->Option Value->Prop
 | some v,some u=>bd v u
 | none,none=>True
 | _,_=>False
def KV {κ:Type}:List (κ×V)->List (κ×Value)->Prop:=Paired λ(p:κ×V) (q:κ×Value)=>p.1=q.1/\bd p.2 q.2
noncomputable def kV:aK->V
 | .inl i=> .int i
 | .inr x=> .str x
inductive HO where
 | lst (xs:List V)
 | tup (xs:List V)
 | dK (kvs:List (aK×V)) | dT (kvs:List (List aK×V))
 | set (S:Int->Bool) (n:Nat)
 | ins (C dx:Addr) (fs:List (Str×V))
 | own (x:Addr)
 | xd (fs:List (Str×V))
 | met (f x:Addr)
 | rng (lo hi:Int)
 | frz (o:Obj) (u:HO)
 | tbl (ps:Array Value)
 | ext (φ:Heap->Prop)
abbrev Hp:=Addr->Option HO
noncomputable def upd (H:Hp) (a:Addr) (o:HO):Hp:=λb=>if b=a then some o else H b
theorem aZ {H:Hp} {o:HO}:upd H a o a=some o:=by unfold upd;rw[ycv rfl]
theorem aH {H:Hp} {a b:Addr} {o:HO} (h:b≠a):upd H a o b=H b:=by unfold upd;rw[ycw h]
theorem fJ {H:Hp} {a b:Addr} {o u:HO} (h:H a=some o) (h':H b=some u) (d:o≠u):a≠b:=by
 intro e;subst e;rw[h] at h';exact d (Option.some.inj h')
theorem bg {H:Hp} {a b:Addr} {o:HO} (h:H a=some o) (h':H b=none):a≠b:=by
 intro e;subst e;rw[h] at h';cases h'
section
variable (P:Program) (w:World)
def bG (H:Hp) (h:Heap) (a:Addr):HO->Prop
 | .lst xs=>xs.length<=sizeLine/\∃(its:yez) (n:Nat),aU xs its/\h.get? a=some { cls:= .type "list",data:= .seq its.toArray n }
 | .tup xs=>xs.length<=sizeLine/\∃its:List Value,aU xs its/\IsTup h a its.toArray
 | .dK kvs=>kvs.length<=sizeLine/\(a==sysModules)=false/\∃vs,KV kvs vs/\h.DictOf (aV P w) a vs
 | .dT kvs=>kvs.length<=sizeLine/\(a==sysModules)=false/\∃xs:List (List aK×Addr×Value),
    Paired (λ(p:List aK×V) (q:List aK×Addr×Value)=>p.1=q.1/\H q.2.1=some (.tup (p.1.map kV))/\bd p.2 q.2.2) kvs xs/\
    ∃o es ep,h.get? a=some o/\o.ExactDict/\o.data=.dict es ep/\es.toList=xs.map (entryOfKey (tupleKind (aV P w)))/\(xs.map (·.1)).Nodup
 | .set S n=>h.SetOf (intKind P w) a S n
 | .ins C dx fs=>H dx=some (.own a)/\fs.length<=1000/\dx≠a/\h.get? a=some (instObj C dx)/\
    ∃mA,h.Ns1 dx mA/\(∀f,fE (fs.lookup f) (mA f))/\PySem.Within mA (fs.map (·.1))
 | .own _=>∃o,h.get? a=some o
 | .xd fs=>∃mA,h.Ns1 a mA/\∀f,fE (fs.lookup f) (mA f)
 | .rng lo hi=>∃t u v,h.get? a=some { cls:= .type "range",data:= .fields #[.int lo t,.int hi u,.int 1 v] }
 | .frz o u=>h.get? a=some o/\bG H h a u
 | .tbl ps=>h.get? a=some { cls:= .none,data:= .fields ps }
 | .met f x=>h.get? a=some (PySem.W.methodObj (.ref f) (.ref x))
 | .ext φ=>φ h/\(∃o,h.get? a=some o)/\∀h1 h2:Heap,φ h1->(∀o,h1.get? a=some o->h2.get? a=some o)->φ h2
def fG (H:Hp) (h:Heap):Prop:=∀a o,H a=some o->bG P w H h a o
end
section
variable {P:Program} {w:World} {H H':Hp} {h h':Heap} {a:Addr} {o:HO}
theorem bG.lt (x:bG P w H h a o):a<h.objs.size:=by
 cases o with
 | lst xs=>obtain⟨_,_,_,_,e⟩:=x;exact ybv e
 | tup xs=>obtain⟨_,_,_,p⟩:=x;exact p.lt
 | dK kvs=>obtain⟨_,_,_,_,o,_,_,e,_⟩:=x;exact ybv e
 | dT kvs=>obtain⟨_,_,_,_,o,_,_,e,_⟩:=x;exact ybv e
 | set S n=>obtain⟨o,_,_,_,e,_⟩:=x;exact ybv e
 | ins C dx fs=>obtain⟨_,_,_,e,_⟩:=x;exact ybv e
 | own y=>obtain⟨_,e⟩:=x;exact ybv e
 | xd fs=>obtain⟨_,⟨_,_,_,e,_⟩,_⟩:=x;exact ybv e
 | rng lo hi=>obtain⟨_,_,_,e⟩:=x;exact ybv e
 | frz ob u=>obtain⟨e,_⟩:=x;exact ybv e
 | tbl ps=>exact ybv (show h.get? a=some _ from x)
 | met f y=>exact ybv (show h.get? a=some _ from x)
 | ext φ=>obtain⟨_,⟨_,e⟩,_⟩:=x;exact ybv e
theorem Paired.mapP {α β:Type} {F G:α->β->Prop}:∀{l₁:List α} {l₂:List β},Paired F l₁ l₂->(∀a b,F a b->G a b)->Paired G l₁ l₂
 | _,_,.nil,_=> .nil
 | _,_,.cons r t,f=> .cons (f _ _ r) (Paired.mapP t f)
theorem bG.stay (x:bG P w H h a o) (k:∀b u,(b=a∨H b=some (.own a))->h.get? b=some u->h'.get? b=some u)
 (ho:∀b,H b=some (.own a)->H' b=some (.own a)) (ht:∀b xs,H b=some (.tup xs)->H' b=some (.tup xs)):bG P w H' h' a o:=by
 induction o with
 | lst xs=>obtain⟨z,its,n,r,e⟩:=x;exact⟨z,its,n,r,k _ _ (.inl rfl) e⟩
 | tup xs=>obtain⟨z,its,r,ob,e,c⟩:=x;exact⟨z,its,r,ob,k _ _ (.inl rfl) e,c⟩
 | dK kvs=>obtain⟨z,y,vs,r,ob,es,ep,e,c⟩:=x;exact⟨z,y,vs,r,ob,es,ep,k _ _ (.inl rfl) e,c⟩
 | dT kvs=>
   obtain⟨z,y,xs,r,ob,es,ep,e,c⟩:=x;exact⟨z,y,xs,Paired.mapP r λp q z=>⟨z.1,ht _ _ z.2.1,z.2.2⟩,ob,es,ep,k _ _ (.inl rfl) e,c⟩
 | set S n=>obtain⟨ob,es,ep,t,e,c⟩:=x;exact⟨ob,es,ep,t,k _ _ (.inl rfl) e,c⟩
 | ins C dx fs=>
   obtain⟨d,z,ne,e,mA,⟨od,es,ep,e2,c⟩,r⟩:=x;exact⟨ho _ d,z,ne,k _ _ (.inl rfl) e,mA,⟨od,es,ep,k _ _ (.inr d) e2,c⟩,r⟩
 | own y=>obtain⟨ob,e⟩:=x;exact⟨ob,k _ _ (.inl rfl) e⟩
 | xd fs=>obtain⟨mA,⟨od,es,ep,e,c⟩,r⟩:=x;exact⟨mA,⟨od,es,ep,k _ _ (.inl rfl) e,c⟩,r⟩
 | rng lo hi=>obtain⟨t,u,v,e⟩:=x;exact⟨t,u,v,k _ _ (.inl rfl) e⟩
 | frz ob u ih=>obtain⟨e,q⟩:=x;exact⟨k _ _ (.inl rfl) e,ih q⟩
 | tbl ps=>
   have e:h.get? a=some { cls:= .none,data:= .fields ps }:=x;show h'.get? a=some { cls:= .none,data:= .fields ps };exact k a _ (.inl rfl) e
 | met f y=>
   have e:h.get? a=some (PySem.W.methodObj (.ref f) (.ref y)):=x;show h'.get? a=some (PySem.W.methodObj (.ref f) (.ref y));exact k a _ (.inl rfl) e
 | ext φ=>obtain⟨p,⟨o,e⟩,st⟩:=x;exact⟨st _ _ p λo q=>k _ _ (.inl rfl) q,⟨o,k _ _ (.inl rfl) e⟩,st⟩
theorem fG.lt (x:fG P w H h) (e:H a=some o):a<h.objs.size:=(x a o e).lt
theorem fG.fresh (x:fG P w H h) (e:h.objs.size<=a):H a=none:=by
 cases q:H a with
 | none=>rfl
 | some u=>exact absurd (ydw (x.lt q) e) (lt_irrefl _)
theorem fG.kept (x:fG P w H h) (k:∀b u,h.get? b=some u->h'.get? b=some u):fG P w H h':=λa o e=>
 (x a o e).stay (λb u _ q=>k b u q) (λ_ q=>q) λ_ _ q=>q
theorem fG.laid (x:fG P w H h) (k:∀b u,h.get? b=some u->h'.get? b=some u) (hp:h.objs.size<=a) (new:bG P w (upd H a o) h' a o):fG P w (upd H a o) h':=λb u e=>by
 have hn:=x.fresh hp
 by_cases hb:b=a
 ·subst hb;rw[aZ] at e;cases e;exact new
 ·rw[aH hb] at e;exact(x b u e).stay (λc v _ q=>k c v q) (λc q=>by rw[aH (bg q hn)];exact q) λc xs q=>by rw[aH (bg q hn)];exact q
end
def Rd (H:Hp) (a:Addr) (u:HO):Prop:=H a=some u∨∃o,H a=some (.frz o u)
theorem Rd.ok {H:Hp} {h:Heap} {u:HO} (r:Rd H a u) (x:fG P w H h):bG P w H h a u:=by
 rcases r with r | ⟨o,r⟩
 ·exact x a u r
 ·obtain⟨_,q⟩:=x a _ r;exact q
def BS:Option HO->Prop
 | some (.lst _)=>True
 | some (.dK _)=>True
 | some (.dT _)=>True
 | some (.set _ _)=>True
 | some (.ins _ _ _)=>True
 | some (.ext _)=>True
 | _=>False
section
variable {P:Program} {w:World} {H:Hp} {h h':Heap} {x e:Addr} {o':HO}
theorem fG.write (ok:fG P w H h) (mu:BS (H x)) (he:e=x∨H e=some (.own x)) (k:∀b u,b≠e->h.get? b=some u->h'.get? b=some u) (heo:∃u,h'.get? e=some u)
 (new:bG P w (upd H x o') h' x o'):fG P w (upd H x o') h':=λb u q=>by
 have nown:∀c y,H c=some (.own y)->c≠x:=λc y r z=>by subst z;rw[r] at mu;exact mu
 have ntup:∀c xs,H c=some (.tup xs)->c≠x:=λc xs r z=>by subst z;rw[r] at mu;exact mu
 by_cases hb:b=x
 ·subst hb;rw[aZ] at q;cases q;exact new
 ·rw[aH hb] at q
  by_cases hbe:b=e
  ·have q':H b=some (.own x):=by
    rcases he with z | z
    ·exact absurd (hbe.trans z) hb
    ·rw[hbe];exact z
   rw[q] at q';cases q';obtain⟨v,hv⟩:=heo;exact⟨v,by rw[hbe];exact hv⟩
  ·refine(ok b u q).stay (λc v hc r=>k c v ?_ r) (λc r=>by rw[aH (nown c b r)];exact r) λc xs r=>by rw[aH (ntup c xs r)];exact r
   rcases hc with rfl | hc
   ·exact hbe
   ·rintro rfl;rcases he with z | z
    ·exact nown c b hc z
    ·rw[hc] at z;cases z;exact hb rfl
end
structure Un (fs ex:List Addr) (H H':Hp) (h h':Heap):Prop where
 keep:∀b o,h.get? b=some o->H b=none->b∉fs->b∉ex->h'.get? b=some o
 slot:∀b o,h.get? b=some o->H b=none->b∈fs->b∉ex->∃sl,h'.get? b=some { o with slots:=sl }
 free:∀b o,h.get? b=some o->H b=none->b∉ex->H' b=none
 there:∀b o,h.get? b=some o->b∉ex->∃o',h'.get? b=some o'
 tups:∀b xs,H b=some (.tup xs)->H' b=some (.tup xs)
 frzs:∀b o u,H b=some (.frz o u)->H' b=some (.frz o u)
 tbls:∀b ps,H b=some (.tbl ps)->∃more,H' b=some (.tbl (ps++more))
section
variable {fs fs' ex ex':List Addr} {H H1 H2:Hp} {h h1 h2 h':Heap} {a x e:Addr} {o:HO}
theorem Un.any (u:Un fs ex H H1 h h1) {b:Addr} {ob:Obj} (q:h.get? b=some ob) (n:H b=none) (hx:b∉ex):∃sl,h1.get? b=some { ob with slots:=sl }:=by
 by_cases hb:b∈fs
 ·exact u.slot b ob q n hb hx
 ·exact⟨ob.slots,u.keep b ob q n hb hx⟩
theorem Un.kept (k:∀b u,h.get? b=some u->h'.get? b=some u):Un fs ex H H h h':=
 ⟨λb ob q _ _ _=>k b ob q,λb ob q _ _ _=>⟨ob.slots,k b ob q⟩,λ_ _ _ n _=>n,λb ob q _=>⟨ob,k b ob q⟩,λ_ _ q=>q,λ_ _ _ q=>q,λ_ ps q=>⟨#[],by rw[q];simp⟩⟩
theorem Un.refl:Un fs ex H H h h:=Un.kept λ_ _ q=>q
theorem Un.laid (k:∀b u,h.get? b=some u->h'.get? b=some u) (hp:h.objs.size<=a) (hn:H a=none):Un fs ex H (upd H a o) h h' where
 keep:=λb u q _ _ _=>k b u q
 slot:=λb u q _ _ _=>⟨u.slots,k b u q⟩
 free:=λb u q n _=>by rw[aH (ne_of_lt (ydw (ybv q) hp))];exact n
 there:=λb u q _=>⟨u,k b u q⟩
 tups:=λb xs q=>by rw[aH (bg q hn)];exact q
 frzs:=λb u xs q=>by rw[aH (bg q hn)];exact q
 tbls:=λb ps q=>⟨#[],by rw[aH (bg q hn),q];simp⟩
theorem Un.write (mu:BS (H x)) (he:e=x∨H e=some (.own x)) (k:∀b u,b≠e->h.get? b=some u->h'.get? b=some u) (heo:∃u,h'.get? e=some u):Un fs ex H (upd H x o) h h':=by
 have hx:∀b,H b=none->b≠x:=λb n z=>by subst z;rw[n] at mu;exact mu
 have hb:∀b,H b=none->b≠e:=λb n z=>by
  subst z;rcases he with r | r
  ·exact hx b n r
  ·rw[n] at r;cases r
 have hm:∀b u,H b=some u->¬BS (some u)->b≠x:=λb u q nm z=>by subst z;rw[q] at mu;exact nm mu
 refine⟨λb u q n _ _=>k b u (hb b n) q,λb u q n _ _=>⟨u.slots,k b u (hb b n) q⟩,λb u q n _=>by rw[aH (hx b n)];exact n,λb u q _=>?_,
  λb xs q=>by rw[aH (hm b _ q λz=>z)];exact q,λb u xs q=>by rw[aH (hm b _ q λz=>z)];exact q,λb ps q=>⟨#[],by rw[aH (hm b _ q λz=>z),q];simp⟩⟩
 by_cases hbe:b=e
 ·subst hbe;exact heo
 ·exact⟨u,k b u hbe q⟩
end
noncomputable def Ei (h:Heap) (H:Hp):List Addr:=(List.range h.objs.size).filter λa=>(H a).isSome
noncomputable def lB (h:Heap) (H:Hp):Heap:=hideAll h (Ei h H)
theorem rH (h:Heap) (H:Hp):(lB h H).objs.size=h.objs.size:=PySem.W.hideAll_size _ _
theorem sK {h:Heap} {H:Hp} {b:Addr} {o:Obj} (e:h.get? b=some o) (n:H b=none):(lB h H).get? b=some o:=
 hideAll_get _ e λhm=>by
  have q:(H b).isSome=true:=(mem_filter.mp hm).2;rw[n] at q;simp at q
theorem wu {h:Heap} {H:Hp} {b:Addr} {o:Obj} (e:(lB h H).get? b=some o):h.get? b=some o/\H b=none:=by
 have e':h.get? b=some o:=of_hideAll (Ei h H) e;refine⟨e',?_⟩;cases q:H b with
 | none=>rfl
 | some x=>
   have hm:b∈Ei h H:=mem_filter.mpr ⟨List.mem_range.mpr (ybv e'),by simp[q]⟩;have z:(lB h H).get? b=none:=hideAll_none (Ei h H) hm;rw[z] at e;cases e
noncomputable def wv (g h:Heap) (L:Addr):List (Addr×Obj):=(List.range h.objs.size).filterMap λa=>if a=L∨(g.get? a).isSome=true then none else (h.get? a).map λo=>(a,o)
noncomputable def bI (g h:Heap) (L d:Addr):List (Addr×Obj):=(wv g h L).filter λp=>decide (p.1≠d)
structure Mod (K:yav) (mg:yew) (base:Heap):Prop where
 kin:K.In base
 glob:base.Ns mainGlobals mg
 blt:∃mb,base.Ns builtinsNs mb/\∀x:Str,x≠"__name__"->mb x=bootBuiltins x
 nolimit:base.NoLimit
structure Cx where
 prog:Program
 w:World
 K:yav
 mg:Str->Option Value
 base:Heap
 A:Around
 N:List Str
 s₀:Shared
 H₀:Hp
 env:Env
 outer:List Env
 stack:List Env
 ex:List Addr
 fn:Str->Bool
 calm:Bool
 pn:List (Addr×Obj)
 xe:Value->Shared->Prop
noncomputable def eC (l:List Env):List Addr:=l.filterMap (·.frame)
noncomputable abbrev Cx.fs (X:Cx):List Addr:=eC X.outer
def BQ (sc:Scope) (x:Str):Prop:=sc.names.lookup x=some .local∨sc.names.lookup x=some .cell∨sc.names.lookup x=some .free
def wj (sc:Scope) (x:Str):Prop:=sc.names.lookup x=some .local∨sc.names.lookup x=some .cell
def Ey (env:Env) (h:Heap) (m:yew) (x:Str) (u:Value):Prop:=
 (env.kindOf x=some .local/\m x=some u)∨((env.kindOf x=some .cell∨env.kindOf x=some .free)/\∃c,env.cells.lookup x=some c/\h.IsCell c (some u))
structure Cx.Ok (X:Cx):Prop where
 mod:Mod X.K X.mg X.base
 kind:X.env.scope.kind=.function
 glob:X.env.globals=mainGlobals
 blt:X.env.builtins=builtinsNs
 above:X.s₀.heap.objs.size<=X.env.locals
 inj:∀x y c,X.env.cells.lookup x=some c->X.env.cells.lookup y=some c->x=y
 has:∀x,(X.env.kindOf x=some .cell∨X.env.kindOf x=some .free)->∃c,X.env.cells.lookup x=some c
 cab:∀x c,X.fn x=true->X.env.cells.lookup x=some c->X.s₀.heap.objs.size<=c
 hd:X.calm=true->X.A.handled=none
 frames:X.A.frames=some X.stack
 stk:X.stack=X.outer∨(X.stack=X.env::X.outer/\X.env.frame=some X.env.locals)
 exf:∀b∈X.ex,b≠X.env.locals/\∀x c,X.env.cells.lookup x=some c->c≠b
 bs:∀b o,X.base.get? b=some o->X.s₀.heap.get? b=some o/\X.H₀ b=none
 bsz:X.base.objs.size<=X.s₀.heap.objs.size
 noex:∀b o,X.base.get? b=some o->b∉X.ex
 exfs:∀b∈X.ex,b∉X.fs
 funs:X.s₀.heap.FunFrames X.base X.outer
 frf:∀b∈X.fs,X.H₀ b=none
structure aF (X:Cx) (π:List (Addr×Obj)) (σ:List (Option V)) (H:Hp) (s:Shared):Prop where
 ok:X.Ok
 os:s.os=X.s₀.os
 bare:AllBare s.gens
 base:Un X.fs X.ex X.H₀ H X.s₀.heap s.heap
 loc:∃m,s.heap.Ns X.env.locals m/\∀(i:Nat) (x:Str) (v:V),X.N[i]?=some x->σ[i]?=some (some v)->BQ X.env.scope x->∃u,bd v u/\Ey X.env s.heap m x u
 cell:∀x c,X.env.cells.lookup x=some c->∃v,s.heap.IsCell c v
 free:H X.env.locals=none
 freeC:∀x c,X.env.cells.lookup x=some c->H c=none
 pin:∀p∈X.pn++π,s.heap.get? p.1=some p.2/\H p.1=none/\p.1≠X.env.locals/\p.1∉X.fs/\∀v,p.2.data≠ .cell v
 hok:fG X.prog X.w H s.heap
 len:σ.length=X.N.length
section
variable {X:Cx} {π:List (Addr×Obj)} {σ:List (Option V)} {H H':Hp} {s:Shared} {h':Heap}
theorem Cx.Ok.nofr (ok:X.Ok) {b:Addr} {o:Obj} (e:X.base.get? b=some o):b∉X.fs:=λhb=>by
 have:=(ok.funs.mem hb).1;rw[e] at this;cases this
theorem aF.bs (I:aF X π σ H s):∀b o,X.base.get? b=some o->s.heap.get? b=some o/\H b=none:=λb o e=>
 ⟨I.base.keep b o (I.ok.bs b o e).1 (I.ok.bs b o e).2 (I.ok.nofr e) (I.ok.noex b o e),I.base.free b o (I.ok.bs b o e).1 (I.ok.bs b o e).2 (I.ok.noex b o e)⟩
theorem aF.bk (I:aF X π σ H s):∀b o,X.base.get? b=some o->s.heap.get? b=some o:=λb o e=>(I.bs b o e).1
theorem aF.mod (I:aF X π σ H s):Mod X.K X.mg X.base:=I.ok.mod
theorem aF.kIn (I:aF X π σ H s):X.K.In s.heap:=I.ok.mod.kin.keeps I.bk
theorem aF.lt (I:aF X π σ H s):X.env.locals<s.heap.objs.size:=let ⟨_,hn,_⟩:=I.loc;hn.lt
theorem aF.sz (I:aF X π σ H s):X.s₀.heap.objs.size<=s.heap.objs.size:=ycy I.ok.above (Nat.le_of_lt I.lt)
theorem aF.nofs (I:aF X π σ H s) (h:s.heap.objs.size<=a):a∉X.fs:=λhb=>by
 obtain⟨_,o,ho,_⟩:=I.ok.funs.mem hb;exact absurd (ydw (ybv ho) (ycy I.sz h)) (lt_irrefl _)
theorem aF.cne (I:aF X π σ H s):∀x c,X.env.cells.lookup x=some c->c≠X.env.locals:=λx c e z=>by
 obtain⟨v,o,ho,hd⟩:=I.cell x c e;obtain⟨m,⟨o',es,ep,ho',hd',_⟩,_⟩:=I.loc;rw[z,ho'] at ho;cases ho;rw[hd'] at hd;cases hd
theorem aF.funs (I:aF X π σ H s):s.heap.FunFrames X.base X.outer:=by
 have all:∀(l:List Env),(∀b∈eC l,b∈X.fs)->X.s₀.heap.FunFrames X.base l->s.heap.FunFrames X.base l:=by
  intro l
  induction l with
  | nil=>intro _ _;trivial
  | cons env r ih=>
    intro hs hl;obtain⟨hk,⟨L,o,hf,hn,ho,hd⟩,hr⟩:=hl;have hL:L∈X.fs:=hs L (by unfold eC;rw[filterMap_cons,hf];exact yby);obtain⟨sl,e⟩:=I.base.slot L o ho (I.ok.frf L hL) hL λz=>I.ok.exfs L z hL;exact⟨hk,⟨L,_,hf,hn,e,hd⟩,ih (λb hb=>hs b (by unfold eC;rw[filterMap_cons,hf];exact ybx _ hb)) hr⟩
 exact all X.outer (λ_ hb=>hb) I.ok.funs
theorem aF.stack (I:aF X π σ H s):s.heap.FunFrames X.base X.stack:=by
 rcases I.ok.stk with e | ⟨e,hf⟩
 ·rw[e];exact I.funs
 ·rw[e];obtain⟨m,hn,_⟩:=I.loc;refine .cons (by rw[I.ok.kind];decide) hf hn ?_ I.funs;exact Heap.get?_none_of_le (ycy I.ok.bsz I.ok.above)
theorem aF.stkSub (I:aF X π σ H s):∀b∈eC X.stack,b∈X.env.locals::X.fs:=λb hb=>by
 rcases I.ok.stk with e | ⟨e,hf⟩
 ·rw[e] at hb;exact ybx _ hb
 ·rw[e] at hb;unfold eC at hb;rw[filterMap_cons,hf] at hb;exact hb
theorem aF.stkFree (I:aF X π σ H s):∀b∈eC X.stack,H b=none:=λb hb=>by
 rcases mem_cons.mp (I.stkSub b hb) with e | hb
 ·rw[e];exact I.free
 ·obtain⟨_,o,ho,_⟩:=I.ok.funs.mem hb;exact I.base.free b o ho (I.ok.frf b hb) λz=>I.ok.exfs b z hb
theorem aF.step {g':Array GenState} {t':Nat} {d':Drawn} {ch:List Addr} (I:aF X π σ H s)
 (hch:∀b∈ch,(b∈X.ex∨X.s₀.heap.objs.size<=b)/\b≠X.env.locals/\(∀x c,X.env.cells.lookup x=some c->c≠b)/\∀p∈X.pn++π,p.1≠b)
 (keep:∀b o,b≠X.env.locals->b∉X.fs->b∉ch->s.heap.get? b=some o->H b=none->h'.get? b=some o)
 (slot:∀b o,b≠X.env.locals->b∈X.fs->b∉ch->s.heap.get? b=some o->H b=none->∃sl,h'.get? b=some { o with slots:=sl }) (free:∀b o,b∉ch->s.heap.get? b=some o->H b=none->H' b=none)
 (there:∀b o,b∉ch->s.heap.get? b=some o->∃o',h'.get? b=some o')
 (tups:∀b xs,H b=some (.tup xs)->H' b=some (.tup xs)) (frzs:∀b o u,H b=some (.frz o u)->H' b=some (.frz o u)) (tbls:∀b ps,H b=some (.tbl ps)->∃more,H' b=some (.tbl (ps++more)))
 (ns:∀m,s.heap.Ns X.env.locals m->h'.Ns X.env.locals m) (hok:fG X.prog X.w H' h') (hg:AllBare g'):
 aF X π σ H' { s with heap:=h',gens:=g',drawn:=d',toks:=t' }:=by
 have neL:∀b o,X.s₀.heap.get? b=some o->b≠X.env.locals:=λb o e=>ne_of_lt (ydw (ybv e) I.ok.above);have neC:∀b o,X.s₀.heap.get? b=some o->b∉X.ex->b∉ch:=λb o e hx hb=>by
  rcases(hch b hb).1 with z | z
  ·exact hx z
  ·exact absurd (ydw (ybv e) z) (lt_irrefl _)
 have cellK:∀x c,X.env.cells.lookup x=some c->∀v,s.heap.IsCell c v->h'.IsCell c v:=λx c e v ⟨o,ho,hd⟩=>by
  have nch:c∉ch:=λz=>(hch c z).2.2.1 x c e rfl
  by_cases hc:c∈X.fs
  ·obtain⟨sl,q⟩:=slot c o (I.cne x c e) hc nch ho (I.freeC x c e);exact⟨_,q,hd⟩
  ·exact⟨o,keep c o (I.cne x c e) hc nch ho (I.freeC x c e),hd⟩
 refine⟨I.ok,I.os,hg,⟨λb o e n hb hx=>?_,λb o e n hb hx=>?_,λb o e n hx=>?_,λb o e hx=>?_,λb xs e=>tups b xs (I.base.tups b xs e),λb o xs e=>frzs b o xs (I.base.frzs b o xs e),λb ps e=>?_⟩,?_,λx c e=>?_,?_,λx c e=>?_,λp hp=>?_,hok,I.len⟩
 ·exact keep b o (neL b o e) hb (neC b o e hx) (I.base.keep b o e n hb hx) (I.base.free b o e n hx)
 ·obtain⟨sl,e1⟩:=I.base.slot b o e n hb hx;obtain⟨sl',e2⟩:=slot b _ (neL b o e) hb (neC b o e hx) e1 (I.base.free b o e n hx);exact⟨sl',e2⟩
 ·obtain⟨o',e1⟩:=I.base.there b o e hx;exact free b o' (neC b o e hx) e1 (I.base.free b o e n hx)
 ·obtain⟨o',e1⟩:=I.base.there b o e hx;exact there b o' (neC b o e hx) e1
 ·obtain⟨m1,e1⟩:=I.base.tbls b ps e;obtain⟨m2,e2⟩:=tbls b _ e1;exact⟨m1++m2,by rw[e2,Array.append_assoc]⟩
 ·obtain⟨m,hn,hl⟩:=I.loc;refine⟨m,ns m hn,λi x v e1 e2 e3=>?_⟩;obtain⟨u,r,l⟩:=hl i x v e1 e2 e3;refine⟨u,r,?_⟩;rcases l with l | ⟨k,c,e,z⟩
  ·exact .inl l
  ·exact .inr ⟨k,c,e,cellK x c e _ z⟩
 ·obtain⟨v,z⟩:=I.cell x c e;exact⟨v,cellK x c e v z⟩
 ·obtain⟨m,⟨o,_,_,ho,_⟩,_⟩:=I.loc;exact free _ o (λz=>(hch _ z).2.1 rfl) ho I.free
 ·obtain⟨v,o,ho,hd⟩:=I.cell x c e;exact free c o (λz=>(hch c z).2.2.1 x c e rfl) ho (I.freeC x c e)
 ·obtain⟨e,n,ne,nf,d⟩:=I.pin p hp;have nch:p.1∉ch:=λz=>(hch p.1 z).2.2.2 p hp rfl;exact⟨keep p.1 p.2 ne nf nch e n,free p.1 p.2 nch e n,ne,nf,d⟩
theorem aF.un {t':Nat} (I:aF X π σ H s) (u:Un X.fs [] H H' s.heap h') (hok:fG X.prog X.w H' h'):aF X π σ H' { s with heap:=h',toks:=t' }:=by
 obtain⟨m,⟨o,es,ep,ho,r⟩,_⟩:=id I.loc;obtain⟨sl,hL⟩:=u.any ho I.free (by simp);exact I.step (g':=s.gens) (d':=s.drawn) (ch:=[]) (λ_ z=>nomatch z) (λb o _ hb _ e n=>u.keep b o e n hb (by simp)) (λb o _ hb _ e n=>u.slot b o e n hb (by simp)) (λb o _ e n=>u.free b o e n (by simp)) (λb o _ e=>u.there b o e (by simp)) u.tups u.frzs u.tbls (λm' hm=>by
  obtain⟨o',es',ep',ho',r'⟩:=hm;rw[ho] at ho';cases ho';exact⟨_,es',ep',hL,r'⟩) hok I.bare
theorem aF.call {g':Array GenState} {t':Nat} {d':Drawn} {ch:List Addr} (I:aF X π σ H s) (u:Un (eC X.stack) ch H H' s.heap h') (hok:fG X.prog X.w H' h') (hg:AllBare g')
 (hch:∀b∈ch,(b∈X.ex∨X.s₀.heap.objs.size<=b)/\b≠X.env.locals/\(∀x c,X.env.cells.lookup x=some c->c≠b)/\∀p∈X.pn++π,p.1≠b):
 aF X π σ H' { s with heap:=h',gens:=g',drawn:=d',toks:=t' }:=by
 obtain⟨m,⟨o,es,ep,ho,r⟩,_⟩:=id I.loc;obtain⟨sl,hL⟩:=u.any ho I.free λz=>(hch _ z).2.1 rfl;exact I.step (ch:=ch) hch (λb o hL hb hc e n=>u.keep b o e n (λz=>(mem_cons.mp (I.stkSub b z)).elim hL hb) hc) (λb o _ _ hc e n=>u.any e n hc) (λb o hc e n=>u.free b o e n hc) (λb o hc e=>u.there b o e hc) u.tups u.frzs u.tbls (λm' hm=>by
  obtain⟨o',es',ep',ho',r'⟩:=hm;rw[ho] at ho';cases ho';exact⟨_,es',ep',hL,r'⟩) hok hg
theorem aF.turned {t':Nat} {it:Addr} (I:aF X π σ H s) (k:∀b o,b≠it->s.heap.get? b=some o->h'.get? b=some o) (hn:H it=none) (hL:it≠X.env.locals)
 (h1:it∈X.ex∨X.s₀.heap.objs.size<=it) (h2:∀x c,X.env.cells.lookup x=some c->c≠it) (h3:∀p∈X.pn++π,p.1≠it):aF X π σ H { s with heap:=h',toks:=t' }:=by
 have nit:∀b u,H b=some u->b≠it:=λb u e z=>by rw[z,hn] at e;cases e
 refine I.step (g':=s.gens) (d':=s.drawn) (ch:=[it]) (λb hb=>?_) (λb o _ _ hc e _=>k b o (λz=>hc (by simp[z])) e) (λb o _ _ hc e _=>⟨o.slots,k b o (λz=>hc (by simp[z])) e⟩) (λ_ _ _ _ n=>n)
  (λb o hc e=>⟨o,k b o (λz=>hc (by simp[z])) e⟩) (λ_ _ e=>e) (λ_ _ _ e=>e) (λb ps e=>⟨#[],by rw[e];simp⟩) (λm hm=>?_) (λb u e=>?_) I.bare
 ·have e:b=it:=by simpa using hb
  subst e;exact⟨h1,hL,h2,h3⟩
 ·obtain⟨o,es,ep,ho,r⟩:=hm;exact⟨o,es,ep,k _ o (Ne.symm hL) ho,r⟩
 ·refine(I.hok b u e).stay (λc v hc q=>k c v ?_ q) (λ_ q=>q) λ_ _ q=>q;rcases hc with z | z
  ·rw[z];exact nit b u e
  ·exact nit c _ z
theorem aF.tok (I:aF X π σ H s) (t:Nat):aF X π σ H { s with toks:=t }:=I.un (h':=s.heap) (t':=t) Un.refl I.hok
theorem aF.kept {t':Nat} (I:aF X π σ H s) (k:∀b u,s.heap.get? b=some u->h'.get? b=some u):aF X π σ H { s with heap:=h',toks:=t' }:=I.un (Un.kept k) (I.hok.kept k)
theorem aF.laid {o:HO} {t':Nat} (I:aF X π σ H s) (k:∀b u,s.heap.get? b=some u->h'.get? b=some u) (hp:s.heap.objs.size<=a) (new:bG X.prog X.w (upd H a o) h' a o):
 aF X π σ (upd H a o) { s with heap:=h',toks:=t' }:=I.un (Un.laid k hp (I.hok.fresh hp)) (I.hok.laid k hp new)
theorem aF.write {x e:Addr} {o:HO} {t':Nat} (I:aF X π σ H s) (mu:BS (H x)) (he:e=x∨H e=some (.own x)) (k:∀b u,b≠e->s.heap.get? b=some u->h'.get? b=some u) (heo:∃u,h'.get? e=some u)
 (new:bG X.prog X.w (upd H x o) h' x o):aF X π σ (upd H x o) { s with heap:=h',toks:=t' }:=I.un (Un.write mu he k heo) (I.hok.write mu he k heo new)
theorem aF.pins_of {pins':List (Addr×Obj)} (I:aF X π σ H s) (h:∀p∈pins',s.heap.get? p.1=some p.2/\H p.1=none/\p.1≠X.env.locals/\p.1∉X.fs/\∀v,p.2.data≠ .cell v):aF X pins' σ H s:=
 ⟨I.ok,I.os,I.bare,I.base,I.loc,I.cell,I.free,I.freeC,λp hp=>(mem_append.mp hp).elim (λz=>I.pin p (mem_append_left _ z)) (h p),I.hok,I.len⟩
theorem mO {N:List Str} (hN:N.Nodup) {i j:Nat} (a:N[i]?=some x) (b:N[j]?=some x):i=j:=by
 obtain⟨h1,e1⟩:=List.getElem?_eq_some_iff.mp a;obtain⟨h2,e2⟩:=List.getElem?_eq_some_iff.mp b;exact(List.getElem_inj hN).mp (e1.trans e2.symm)
theorem g9 {M:Model} {v:V} {Q:Unit->Shared->Prop} (I:aF X π σ H s) (hN:X.N.Nodup) (hi:X.N[i]?=some x) (hx:wj X.env.scope x) (r:bd v u)
 (h:∀s',aF X π (σ.set i (some v)) H s'->(∃a,Heap.SameBut a s.heap s'.heap/\(a=X.env.locals∨X.env.cells.lookup x=some a))->Q () s') (hf:X.fn x=true∨X.env.scope.names.lookup x=some .local:=by first | exact .inl rfl | exact .inr rfl | assumption):wpAny M A (storeName X.env x u) Q E s:=by
 obtain⟨m,hn,hl⟩:=id I.loc;have hcls:(X.env.scope.kind== .class||(X.env.scope.kind== .module&&X.env.locals !=X.env.globals))=false:=by rw[I.ok.kind];rfl
 have hiσ:i<σ.length:=by rw[I.len];exact(List.getElem?_eq_some_iff.mp hi).1
 have cne:=I.cne;have tracked:∀{a:Addr} {h':Heap},(∃o,s.heap.get? a=some o/\H a=none)->Heap.SameBut a s.heap h'->fG X.prog X.w H h':=λ{a h'} ha hs b ob e=>by
  obtain⟨_,_,hfree⟩:=ha;refine(I.hok b ob e).stay (λc w' hc q=>(hs.2 c ?_).trans q) (λ_ q=>q) λ_ _ q=>q;rintro rfl;rcases hc with rfl | hc
  ·rw[hfree] at e;cases e
  ·rw[hfree] at hc;cases hc
 rcases hx with hk | hk
 ·refine wpAny_storeName_local hk hn (λh' hn' hs=>?_) hcls;obtain⟨oL,_,_,hoL,_⟩:=id hn;refine h _ ⟨I.ok,I.os,I.bare,⟨λb o e n hb hx=>?_,λb o e n hb hx=>?_,I.base.free,λb o e hx=>?_,I.base.tups,I.base.frzs,I.base.tbls⟩,⟨_,hn',λj y v' e1 e2 e3=>?_⟩,λy c e=>?_,I.free,I.freeC,λp hp=>?_,tracked ⟨oL,hoL,I.free⟩ hs,by simpa using I.len⟩ ⟨_,hs,.inl rfl⟩
  ·exact(hs.2 b (ne_of_lt (ydw (ybv e) I.ok.above))).trans (I.base.keep b o e n hb hx)
  ·obtain⟨sl,e1⟩:=I.base.slot b o e n hb hx;exact⟨sl,(hs.2 b (ne_of_lt (ydw (ybv e) I.ok.above))).trans e1⟩
  ·obtain⟨o',e1⟩:=I.base.there b o e hx;exact⟨o',(hs.2 b (ne_of_lt (ydw (ybv e) I.ok.above))).trans e1⟩
  ·by_cases hj:j=i
   ·subst hj;rw[hi] at e1;cases e1;rw[List.getElem?_set_self hiσ] at e2;cases e2;exact⟨u,r,.inl ⟨hk,by simp⟩⟩
   ·rw[List.getElem?_set_ne (Ne.symm hj)] at e2;obtain⟨u',r',q⟩:=hl j y v' e1 e2 e3;refine⟨u',r',?_⟩;rcases q with⟨k,e⟩ | ⟨k,c,e,z⟩
    ·refine .inl ⟨k,?_⟩;have:y≠x:=λe=>hj (mO hN e1 (e▸hi));simp[this,e]
    ·exact .inr ⟨k,c,e,z.sameBut hs (cne y c e)⟩
  ·obtain⟨w',z⟩:=I.cell y c e;exact⟨w',z.sameBut hs (cne y c e)⟩
  ·obtain⟨e,n,ne,nf,d⟩:=I.pin p hp;exact⟨(hs.2 p.1 ne).trans e,n,ne,nf,d⟩
 ·have hfn:X.fn x=true:=by
   rcases hf with z | z
   ·exact z
   ·rw[z] at hk;cases hk
  obtain⟨c,hc⟩:=I.ok.has x (.inl hk);obtain⟨w',z⟩:=I.cell x c hc;refine wpAny_storeName_cell I.ok.kind hk hc z (λh' hc' hs=>?_);obtain⟨oc,hoc,hocd⟩:=id z;refine h { s with heap:=h' } ⟨I.ok,I.os,I.bare,⟨λb o e n hb hx=>?_,λb o e n hb hx=>?_,I.base.free,λb o e hx=>?_,I.base.tups,I.base.frzs,I.base.tbls⟩,⟨m,hn.sameBut hs (Ne.symm (cne x c hc)),λj y v' e1 e2 e3=>?_⟩,λy c' e=>?_,I.free,I.freeC,λp hp=>?_,tracked ⟨oc,hoc,I.freeC x c hc⟩ hs,by simpa using I.len⟩ ⟨c,hs,.inr hc⟩
  ·exact(hs.2 b (ne_of_lt (ydw (ybv e) (I.ok.cab x c hfn hc)))).trans (I.base.keep b o e n hb hx)
  ·obtain⟨sl,e1⟩:=I.base.slot b o e n hb hx;exact⟨sl,(hs.2 b (ne_of_lt (ydw (ybv e) (I.ok.cab x c hfn hc)))).trans e1⟩
  ·obtain⟨o',e1⟩:=I.base.there b o e hx;exact⟨o',(hs.2 b (ne_of_lt (ydw (ybv e) (I.ok.cab x c hfn hc)))).trans e1⟩
  ·by_cases hj:j=i
   ·subst hj;rw[hi] at e1;cases e1;rw[List.getElem?_set_self hiσ] at e2;cases e2;exact⟨u,r,.inr ⟨.inl hk,c,hc,hc'⟩⟩
   ·rw[List.getElem?_set_ne (Ne.symm hj)] at e2;obtain⟨u',r',q⟩:=hl j y v' e1 e2 e3;refine⟨u',r',?_⟩;rcases q with q | ⟨k,c',e,z'⟩
    ·exact .inl q
    ·refine .inr ⟨k,c',e,z'.sameBut hs ?_⟩;rintro rfl;exact hj (mO hN e1 (I.ok.inj _ _ _ e hc▸hi))
  ·by_cases hcc:c'=c
   ·subst hcc;exact⟨_,hc'⟩
   ·obtain⟨w2,z2⟩:=I.cell y c' e;exact⟨w2,z2.sameBut hs hcc⟩
  ·obtain⟨e,n,ne,nf,d⟩:=I.pin p hp;refine⟨(hs.2 p.1 ?_).trans e,n,ne,nf,d⟩;intro q;rw[q,hoc] at e;have q':oc=p.2:=Option.some.inj e;exact d w' (by rw[←q'];exact hocd)
theorem jk {M:Model} {v:V} {Q:Unit->Shared->Prop} (I:aF X π σ H s) (hN:X.N.Nodup) (hi:X.N[i]?=some x) (hx:wj X.env.scope x) (r:bd v u)
 (h:∀s',aF X π (σ.set i (some v)) H s'->Q () s') (hf:X.fn x=true∨X.env.scope.names.lookup x=some .local:=by first | exact .inl rfl | exact .inr rfl | assumption):wpAny M A (storeName X.env x u) Q E s:=
 g9 I hN hi hx r (λs' I' _=>h s' I') hf
theorem aF.call' {s':Shared} {ch:List Addr} (I:aF X π σ H s) (ho:s'.os=s.os) (u:Un (eC X.stack) ch H H' s.heap s'.heap) (hok:fG X.prog X.w H' s'.heap) (hg:AllBare s'.gens)
 (hch:∀b∈ch,(b∈X.ex∨X.s₀.heap.objs.size<=b)/\b≠X.env.locals/\(∀x c,X.env.cells.lookup x=some c->c≠b)/\∀p∈X.pn++π,p.1≠b):aF X π σ H' s':=by
 obtain⟨h',g',d',t',o'⟩:=s';have e:o'=s.os:=ho;subst e;exact I.call (g':=g') (t':=t') (d':=d') u hok hg hch
end
abbrev XK:=Value->Option Addr->Hp->Prop
abbrev St:=List (Option V)
abbrev VK:=V->Hp->Prop
abbrev TE:=St->Hp->VK->Prop
abbrev TT:=St->Hp->(Bool->Hp->Prop)->Prop
abbrev TA:=St->Hp->(List V->Hp->Prop)->Prop
structure fH where
 nx:St->Hp->Prop
 rt:VK
 bk:St->Hp->Prop:=λ_ _=>False
 ct:St->Hp->Prop:=λ_ _=>False
abbrev TS:=fH->St->Hp->Prop
def EP (X:Cx) (π:List (Addr×Obj)) (σ:St) (Q:VK) (u:Value) (s':Shared):Prop:=∃v H',aF X π σ H' s'/\bd v u/\Q v H'
def TP (X:Cx) (π:List (Addr×Obj)) (σ:St) (Q:Bool->Hp->Prop) (b:Bool) (s':Shared):Prop:=∃H',aF X π σ H' s'/\Q b H'
def AP (X:Cx) (π:List (Addr×Obj)) (σ:St) (Q:List V->Hp->Prop) (us:yez) (s':Shared):Prop:=∃vs H',aF X π σ H' s'/\aU vs us/\Q vs H'
def SP (X:Cx) (π:List (Addr×Obj)) (D:fH) (f:Flow) (s':Shared):Prop:=
 match f with
 | .next=>∃σ' H',aF X π σ' H' s'/\D.nx σ' H'
 | .brk=>∃σ' H',aF X π σ' H' s'/\D.bk σ' H'
 | .cont=>∃σ' H',aF X π σ' H' s'/\D.ct σ' H'
 | .ret u=>∃v σ' H',aF X π σ' H' s'/\bd v u/\D.rt v H'
def PE (X:Cx) (e:Expr) (t:TE):Prop:=
 ∀(π:List (Addr×Obj)) (s:Shared) (σ:St) (H:Hp) (Q:VK),aF X π σ H s->t σ H Q->wpAny (model X.prog X.w) X.A (eval e X.env) (EP X π σ Q) X.xe s
def PT (X:Cx) (e:Expr) (t:TT):Prop:=
 ∀(π:List (Addr×Obj)) (s:Shared) (σ:St) (H:Hp) (Q:Bool->Hp->Prop),aF X π σ H s->t σ H Q->wpAny (model X.prog X.w) X.A (isTrue e X.env (eval e X.env)) (TP X π σ Q) X.xe s
def PW (X:Cx) (e:Expr) (t:TT):Prop:=
 ∀(whole:Sem Value) (π:List (Addr×Obj)) (s:Shared) (σ:St) (H:Hp) (Q:Bool->Hp->Prop),aF X π σ H s->t σ H Q->wpAny (model X.prog X.w) X.A (isTrue e X.env whole) (TP X π σ Q) X.xe s
theorem PW.pt {X:Cx} {t:TT} (h:PW X e t):PT X e t:=h _
def PA (X:Cx) (es:List Expr) (t:TA):Prop:=
 ∀(pos:Pos) (π:List (Addr×Obj)) (s:Shared) (σ:St) (H:Hp) (Q:List V->Hp->Prop),aF X π σ H s->t σ H Q->wpAny (model X.prog X.w) X.A (spliced (backTo pos (starEach es X.env))) (AP X π σ Q) X.xe s
def PS (X:Cx) (st:Stmt) (t:TS):Prop:=
 ∀(π:List (Addr×Obj)) (s:Shared) (σ:St) (H:Hp) (D:fH),aF X π σ H s->t D σ H->wpAny (model X.prog X.w) X.A (exec st X.env) (SP X π D) X.xe s
def mK (X:Cx) (st:List Stmt) (t:TS):Prop:=
 ∀(π:List (Addr×Obj)) (s:Shared) (σ:St) (H:Hp) (D:fH),aF X π σ H s->t D σ H->wpAny (model X.prog X.w) X.A (execs st X.env) (SP X π D) X.xe s
theorem bU {α:Type} {t:Sem α} {Q Q':α->Shared->Prop} {M:Model} (h:wpAny M A t Q E s) (hQ:∀a s,Q a s->Q' a s):wpAny M A t Q' E s:=wpAny_mono h hQ λ_ _ x=>x
section
variable {X:Cx}
def BU (i:Nat):TE:=λσ H Q=>∃v,σ[i]?=some (some v)/\Q v H
def tC (v:V):TE:=λ_ H Q=>Q v H
theorem oJ (hN:X.N[i]?=some x) (hv:BQ X.env.scope x) (hd:(x==("__debug__":Str))=false:=by decide) (hcd:(x==("__classdict__":Str))=false:=by decide):PE X (.Name x pos) (BU i):=by
 intro π s σ H Q I h;obtain⟨v,e,h⟩:=h;obtain⟨m,hn,hl⟩:=I.loc;obtain⟨u,r,l⟩:=hl i x v hN e hv;have fin:EP X π σ Q u s:=⟨v,H,I,r,h⟩;rcases l with⟨hk,hm⟩ | ⟨hk,c,hc,hcell⟩
 ·exact wpAny_Name (wpAny_loadName_local I.ok.kind hk hn hm fin) hd
 ·rcases hk with hk | hk
  ·exact wpAny_Name (wpAny_loadName_cell I.ok.kind hk hc hcell fin) hd
  ·exact wpAny_Name (wpAny_loadName_free I.ok.kind hk hc hcell fin hcd) hd
theorem zN {i j pos}:PE X (.Constant (.int i) j pos) (tC (.int i)):=λ_ _ _ H _ I h=>wpAny_Constant_int ⟨.int i,H,I.tok _,⟨_,rfl⟩,h⟩
theorem sL {b j pos}:PE X (.Constant (.bool b) j pos) (tC (.bl b)):=λ_ _ _ H _ I h=>Constant_bool ⟨.bl b,H,I,rfl,h⟩
theorem zO {j pos}:PE X (.Constant .none j pos) (tC .non):=λ_ _ _ H _ I h=>Constant_none ⟨.non,H,I,rfl,h⟩
theorem sM {x j pos}:PE X (.Constant (.str x) j pos) (tC (.str x)):=λ_ _ _ H _ I h=>Calls.Constant_str ⟨.str x,H,I.tok _,⟨_,rfl⟩,h⟩
def Gl (X:Cx) (x:Str):Prop:=X.env.kindOf x=some .globalImplicit
theorem fq {σ:St} {H:Hp} (I:aF X π σ H s) (hg:Gl X x) (hm:X.mg x=some u) (h:Q u s)
 (hd:(x==("__debug__":Str))=false:=by decide):wpAny (model X.prog X.w) X.A (eval (.Name x pos) X.env) Q E s:=
 Calls.Name_function_global I.ok.kind hg (Calls.loadGlobal_global (by rw[I.ok.glob];exact I.mod.glob.keeps I.bk) hm h) hd
theorem eE {σ:St} {H:Hp} (I:aF X π σ H s) (hg:Gl X x) (hm:X.mg x=none) (hv:bootBuiltins x=some u) (h:Q u s)
 (hn:x≠"__name__":=by decide) (hd:(x==("__debug__":Str))=false:=by decide):wpAny (model X.prog X.w) X.A (eval (.Name x pos) X.env) Q E s:=by
 obtain⟨mb,h1,h2⟩:=I.mod.blt;exact Calls.Name_function_global I.ok.kind hg (Calls.loadGlobal_builtin (by rw[I.ok.glob];exact I.mod.glob.keeps I.bk) hm (by rw[I.ok.blt];exact h1.keeps I.bk) ((h2 x hn).trans hv) h) hd
theorem pZ {v:V} (hg:Gl X x) (hm:X.mg x=none) (hv:bootBuiltins x=some u) (r:bd v u) (hn:x≠"__name__":=by decide) (hd:(x==("__debug__":Str))=false:=by decide):PE X (.Name x pos) (tC v):=
 λ_ _ _ H _ I h=>eE I hg hm hv ⟨v,H,I,r,h⟩ hn hd
variable {a b:Expr} {ta tb:TE} {pos:Pos}
def tB (t:TE):TT:=λσ H Q=>t σ H λx H1=>∃c,x=.bl c/\Q c H1
theorem zP {t:TE} (h:PE X e t) (he:∀whole,isTrue e X.env whole=(do let v ←whole;standAt e.pos;holding [v] (truthy v)):=by intro _;rfl):PT X e (tB t):=by
 intro π s σ H Q I hw;refine isTrue_plain (bU (h π s σ H _ I hw) λv s1 z9=>?_) (he _);obtain⟨x,H1,I1,r1,q1⟩:=z9;obtain⟨d,rfl,q⟩:=q1;cases r1;exact wpAny_truthy_bool ⟨H1,I1,q⟩
variable {tA tB':TT} {bI:List Expr}
def Ez (t u:TT):TT:=λσ H Q=>t σ H λc H1=>if c=true then u σ H1 Q else Q false H1
def Ha (t u:TT):TT:=λσ H Q=>t σ H λc H1=>if c=true then Q true H1 else u σ H1 Q
def EA (t:TT):TT:=λσ H Q=>t σ H λc H1=>Q (!c) H1
theorem ww (ha:PT X a tA):PW X (.BoolOp .And [a] pos) tA:=by
 intro wh π s σ H Q I h;refine isTrue_and (bU (ha π s σ H Q I h) λc s1 e=>?_);cases c with
 | true=>exact isTrue_and_nil e
 | false=>exact e
theorem zQ (ha:PT X a tA):PW X (.BoolOp .Or [a] pos) tA:=by
 intro wh π s σ H Q I h;refine isTrue_or (bU (ha π s σ H Q I h) λc s1 e=>?_);cases c with
 | false=>exact isTrue_or_nil e
 | true=>exact e
theorem zR (ha:PT X a tA) (hb:PW X (.BoolOp .And (b::bI) pos) tB'):PW X (.BoolOp .And (a::b::bI) pos) (Ez tA tB'):=by
 intro wh π s σ H Q I h;refine isTrue_and (bU (ha π s σ H _ I h) λc s1 z9=>?_);obtain⟨H1,I1,q1⟩:=z9;cases c with
 | true=>exact hb wh π s1 σ H1 Q I1 q1
 | false=>exact⟨H1,I1,q1⟩
theorem BV (ha:PT X a tA) (hb:PW X (.BoolOp .Or (b::bI) pos) tB'):PW X (.BoolOp .Or (a::b::bI) pos) (Ha tA tB'):=by
 intro wh π s σ H Q I h;refine isTrue_or (bU (ha π s σ H _ I h) λc s1 z9=>?_);obtain⟨H1,I1,q1⟩:=z9;cases c with
 | true=>exact⟨H1,I1,q1⟩
 | false=>exact hb wh π s1 σ H1 Q I1 q1
theorem zS (ha:PT X a tA):PT X (.UnaryOp .Not a pos) (EA tA):=by
 intro π s σ H Q I h;exact isTrue_not (ha π s σ H (λc H1=>Q (!c) H1) I h)
def BW (ta tb:TE):TE:=λσ H Q=>ta σ H λx H1=>∃c,x=.bl c/\if c=true then tb σ H1 Q else Q (.bl false) H1
def EB (ta tb:TE):TE:=λσ H Q=>ta σ H λx H1=>∃c,x=.bl c/\if c=true then Q (.bl true) H1 else tb σ H1 Q
def BX (ta:TE):TE:=λσ H Q=>ta σ H λx H1=>∃c,x=.bl c/\Q (.bl (!c)) H1
theorem zT {op} {t:TE} (h:PE X a t):PE X (.BoolOp op [a] pos) t:=λπ s σ H Q I hw=>BoolOp_one (h π s σ H Q I hw)
theorem zU (ha:PE X a ta) (hb:PE X (.BoolOp .And (b::bI) pos) tb):PE X (.BoolOp .And (a::b::bI) pos) (BW ta tb):=by
 intro π s σ H Q I h;refine BoolOp_and (bU (ha π s σ H _ I h) λv s1 z9=>?_);obtain⟨x,H1,I1,r1,q1⟩:=z9;obtain⟨c,rfl,q1⟩:=q1;cases r1;refine wpAny_truthy_bool ?_;cases c with
 | true=>exact hb π s1 σ H1 Q I1 q1
 | false=>exact⟨.bl false,H1,I1,rfl,q1⟩
theorem BY (ha:PE X a ta) (hb:PE X (.BoolOp .Or (b::bI) pos) tb):PE X (.BoolOp .Or (a::b::bI) pos) (EB ta tb):=by
 intro π s σ H Q I h;refine BoolOp_or (bU (ha π s σ H _ I h) λv s1 z9=>?_);obtain⟨x,H1,I1,r1,q1⟩:=z9;obtain⟨c,rfl,q1⟩:=q1;cases r1;refine wpAny_truthy_bool ?_;cases c with
 | false=>exact hb π s1 σ H1 Q I1 q1
 | true=>exact⟨.bl true,H1,I1,rfl,q1⟩
theorem zV (ha:PE X a ta):PE X (.UnaryOp .Not a pos) (BX ta):=by
 intro π s σ H Q I h;refine UnaryOp_ (bU (ha π s σ H _ I h) λv s1 z9=>?_);obtain⟨x,H1,I1,r1,q1⟩:=z9;obtain⟨c,rfl,q1⟩:=q1;cases r1;exact not_of (wpAny_truthy_bool ⟨.bl (!c),H1,I1,rfl,q1⟩)
def Hb (t:TT) (ta tb:TE):TE:=λσ H Q=>t σ H λc H1=>if c=true then ta σ H1 Q else tb σ H1 Q
theorem sN {c:Expr} (hc:PT X c tA) (ha:PE X a ta) (hb:PE X b tb):PE X (.IfExp c a b pos) (Hb tA ta tb):=by
 intro π s σ H Q I h;refine wpAny_IfExp (bU (hc π s σ H _ I h) λd s1 z9=>?_);obtain⟨H1,I1,q1⟩:=z9;cases d with
 | true=>exact ha π s1 σ H1 Q I1 q1
 | false=>exact hb π s1 σ H1 Q I1 q1
end
def cC (K:yav) (H:Hp) (a:Addr) (xs:List V):Prop:=
 Rd H a (.lst xs)∨
  ∃(o:Obj) (its:Array Value) (n:Nat),K.lookup a=some o/\o.cls=.type "list"/\o.dict=none/\o.data=.seq its n/\its.size<=sizeLine/\aU xs its.toList
def cY (K:yav) (H:Hp) (a:Addr) (xs:List V):Prop:=
 Rd H a (.tup xs)∨
  ∃(o:Obj) (its:Array Value) (n:Nat),K.lookup a=some o/\o.cls=.type "tuple"/\o.data=.seq its n/\its.size<=sizeLine/\aU xs its.toList
noncomputable def EC:Value->Option V
 | .none=>some .non
 | .bool b=>some (.bl b)
 | .int i _=>some (.int i)
 | .str x _=>some (.str x)
 | .bytes b _=>some (.byt b)
 | .float b _=>some (.flt b)
 | .ref a=>some (.ref a)
 | .type n=>some (.ty n)
 | _=>none
theorem bd.abs {x:V} (r:bd x u):EC u=some x:=by
 cases x with
 | non=>cases r;rfl
 | bl _=>cases r;rfl
 | int _=>obtain⟨t,rfl⟩:=r;rfl
 | str _=>obtain⟨t,rfl⟩:=r;rfl
 | byt _=>obtain⟨t,rfl⟩:=r;rfl
 | flt _=>obtain⟨t,rfl⟩:=r;rfl
 | ref _=>cases r;rfl
 | ty _=>cases r;rfl
theorem bd.inj {x y:V} (r:bd x u) (q:bd y u):x=y:=Option.some.inj (r.abs.symm.trans q.abs)
theorem aU.inj:∀{xs ys:List V} {us:yez},aU xs us->aU ys us->xs=ys
 | _,_,_,.nil,.nil=>rfl
 | _,_,_,.cons r t,.cons r' t'=>by rw[r.inj r',aU.inj t t']
section
variable {X:Cx} {π:List (Addr×Obj)} {σ:St} {H:Hp} {s:Shared} {a:Addr} {xs ys:List V}
theorem cC.of (h:H a=some (.lst xs)):cC K H a xs:= .inl (.inl h)
theorem cY.of (h:H a=some (.tup xs)):cY K H a xs:= .inl (.inl h)
theorem aF.list (I:aF X π σ H s) (h:cC X.K H a xs):∃its:List Value,aU xs its/\PlainL s.heap a its.toArray/\xs.length<=sizeLine:=by
 rcases h with h | ⟨o,its,n,hk,hc,hd,hs,hz,r⟩
 ·obtain⟨z,its,n,r,e⟩:=h.ok I.hok;exact⟨its,r,⟨_,n,e,rfl,rfl,rfl⟩,z⟩
 ·refine⟨its.toList,r,⟨o,n,I.kIn a o hk,hc,hd,by simpa using hs⟩,?_⟩;have e:=r.length;simp only[Array.length_toList] at e;lia
theorem aF.tuple (I:aF X π σ H s) (h:cY X.K H a xs):∃its:List Value,aU xs its/\IsTup s.heap a its.toArray/\xs.length<=sizeLine:=by
 rcases h with h | ⟨o,its,n,hk,hc,hs,hz,r⟩
 ·obtain⟨z,its,r,p⟩:=h.ok I.hok;exact⟨its,r,p,z⟩
 ·refine⟨its.toList,r,⟨o,I.kIn a o hk,hc,n,by simpa using hs⟩,?_⟩;have e:=r.length;simp only[Array.length_toList] at e;lia
theorem aF.list_inj (I:aF X π σ H s) (h:cC X.K H a xs) (h':cC X.K H a ys):xs=ys:=by
 obtain⟨its,r,⟨o,n,e,_,_,d⟩,_⟩:=I.list h;obtain⟨its',r',⟨o',n',e',_,_,d'⟩,_⟩:=I.list h';rw[e] at e';cases e';rw[d] at d';injection d' with d1 _
 have:its=its':=by simpa using congrArg Array.toList d1
 subst this;exact r.inj r'
theorem aF.tuple_inj (I:aF X π σ H s) (h:cY X.K H a xs) (h':cY X.K H a ys):xs=ys:=by
 obtain⟨its,r,⟨o,e,_,n,d⟩,_⟩:=I.tuple h;obtain⟨its',r',⟨o',e',_,n',d'⟩,_⟩:=I.tuple h';rw[e] at e';cases e';rw[d] at d';injection d' with d1 _
 have:its=its':=by simpa using congrArg Array.toList d1
 subst this;exact r.inj r'
end
noncomputable abbrev Cx.wish (X:Cx) (E:yey):Cx:={ X with xe:=E }
noncomputable abbrev Cx.nox (X:Cx):Cx:=X.wish λ_ _=>False
theorem Cx.Ok.wish {X:Cx} (ok:X.Ok) (E:yey):(X.wish E).Ok:=
 ⟨ok.mod,ok.kind,ok.glob,ok.blt,ok.above,ok.inj,ok.has,ok.cab,ok.hd,ok.frames,ok.stk,ok.exf,ok.bs,ok.bsz,ok.noex,ok.exfs,ok.funs,ok.frf⟩
theorem Cx.Ok.unwish {X:Cx} (ok:(X.wish E).Ok):X.Ok:=
 ⟨ok.mod,ok.kind,ok.glob,ok.blt,ok.above,ok.inj,ok.has,ok.cab,ok.hd,ok.frames,ok.stk,ok.exf,ok.bs,ok.bsz,ok.noex,ok.exfs,ok.funs,ok.frf⟩
section
variable {X:Cx} {π:List (Addr×Obj)} {σ:St} {H:Hp} {s:Shared} {E:yey}
theorem aF.wish (I:aF X π σ H s) (E:yey):aF (X.wish E) π σ H s:=⟨I.ok.wish E,I.os,I.bare,I.base,I.loc,I.cell,I.free,I.freeC,I.pin,I.hok,I.len⟩
theorem aF.unwish (I:aF (X.wish E) π σ H s):aF X π σ H s:=⟨I.ok.unwish,I.os,I.bare,I.base,I.loc,I.cell,I.free,I.freeC,I.pin,I.hok,I.len⟩
theorem SP.unwish {D:fH} {f:Flow} {s':Shared} (h:SP (X.wish E) π D f s'):SP X π D f s':=by
 cases f with
 | next=>obtain⟨σ',H',I,q⟩:=h;exact⟨σ',H',I.unwish,q⟩
 | brk=>obtain⟨σ',H',I,q⟩:=h;exact⟨σ',H',I.unwish,q⟩
 | cont=>obtain⟨σ',H',I,q⟩:=h;exact⟨σ',H',I.unwish,q⟩
 | ret u=>obtain⟨v,σ',H',I,r,q⟩:=h;exact⟨v,σ',H',I.unwish,r,q⟩
theorem mK.nox {st:List Stmt} {t:TS} (h:mK X.nox st t):mK X st t:=λπ s σ H D I hw=>
 wpAny_mono (h π s σ H D (I.wish _) hw) (λ_ _ q=>q.unwish) λ_ _ z=>False.elim z
end
section
variable {X:Cx} {st:Stmt} {bI:List Stmt} {t u:TS} {e:Expr} {te:TE} {pos:Pos}
def BZ:TS:=λD σ H=>D.nx σ H
def ED (t u:TS):TS:=λD σ H=>t { D with nx:=u D } σ H
theorem pss_nil:mK X [] BZ:=λ_ _ σ H _ I h=>wpAny_execs_nil ⟨σ,H,I,h⟩
theorem sO (h1:PS X st t) (h2:mK X bI u):mK X (st::bI) (ED t u):=by
 intro π s σ H D I h;refine wpAny_execs_cons (bU (h1 π s σ H { D with nx:=u D } I h) λf s1 q=>?_);cases f with
 | next=>
   obtain⟨σ',H',I',q⟩:=q;exact h2 π s1 σ' H' D I' q
 | ret v=>exact q
 | brk=>exact q
 | cont=>exact q
theorem wz (h1:PS X st t):mK X [st] t:=by
 intro π s σ H D I h;refine wpAny_execs_cons (bU (h1 π s σ H D I h) λf s1 q=>?_);cases f with
 | next=>exact wpAny_execs_nil q
 | ret v=>exact q
 | brk=>exact q
 | cont=>exact q
theorem aF.quiet {σ:St} {H:Hp} (I:aF X π σ H s):interactive X.env=false:=by simp[interactive,I.ok.kind]
def B2 (te:TE):TS:=λD σ H=>te σ H λ_ H1=>D.nx σ H1
theorem wA (he:PE X e te) (hs:swapsWith e none pos.line X.env=pure false:=by rfl):PS X (.Expr e pos) (B2 te):=by
 intro π s σ H D I h;exact wpAny_Expr_any (bU (he π s σ H _ I h) λv s1 ⟨x,H1,I1,r1,q1⟩=>⟨σ,H1,I1,q1⟩) I.quiet hs
def EE (te:TE):TS:=λD σ H=>te σ H D.rt
theorem zW (he:PE X e te):PS X (.Return (some e) pos) (EE te):=by
 intro π s σ H D I h;exact wpAny_Return_some (bU (he π s σ H _ I h) λv s1 ⟨x,H1,I1,r1,q1⟩=>⟨x,σ,H1,I1,r1,q1⟩)
def EF (c:TT) (t u:TS):TS:=λD σ H=>c σ H λb H1=>if b=true then t D σ H1 else u D σ H1
theorem B3 {c:Expr} {a b:List Stmt} {tc:TT} (hc:PT X c tc) (ha:mK X a t) (hb:mK X b u):PS X (.If c a b pos) (EF tc t u):=by
 intro π s σ H D I h;refine wpAny_If (bU (hc π s σ H _ I h) λd s1 z9=>?_);obtain⟨H1,I1,q1⟩:=z9;cases d with
 | true=>exact ha π s1 σ H1 D I1 q1
 | false=>exact hb π s1 σ H1 D I1 q1
end
abbrev TG:=V->St->Hp->(St->Hp->Prop)->Prop
abbrev wB:=List V->St->Hp->(St->Hp->Prop)->Prop
def PG (X:Cx) (target:Expr) (t:TG):Prop:=
 ∀(π:List (Addr×Obj)) (s:Shared) (σ:St) (H:Hp) (v:V) (u:Value) (Q:St->Hp->Prop),aF X π σ H s->bd v u->t v σ H Q->
  wpAny (model X.prog X.w) X.A (assign target X.env u) (λ_ s'=>∃σ' H',aF X π σ' H' s'/\Q σ' H') X.xe s
def yL (X:Cx) (ts:List Expr) (t:wB):Prop:=
 ∀(π:List (Addr×Obj)) (s:Shared) (σ:St) (H:Hp) (vs:List V) (us:yez) (Q:St->Hp->Prop),aF X π σ H s->aU vs us->t vs σ H Q->
  wpAny (model X.prog X.w) X.A (assignInOrder ((assignEach ts X.env).map (·.2)) us) (λ_ s'=>∃σ' H',aF X π σ' H' s'/\Q σ' H') X.xe s
section
variable {X:Cx} {pos:Pos}
def yM (i:Nat):TG:=λv σ H Q=>Q (σ.set i (some v)) H
theorem wD (hN:X.N.Nodup) (hi:X.N[i]?=some x) (hx:wj X.env.scope x) (hf:X.fn x=true∨X.env.scope.names.lookup x=some .local:=by first | exact .inl rfl | exact .inr rfl | assumption):PG X (.Name x pos) (yM i):=by
 intro π s σ H v u Q I r h;exact wpAny_assign_Name (jk I hN hi hx r (λs' I'=>⟨_,H,I',h⟩) hf)
def EG:wB:=λvs σ H Q=>vs=[]/\Q σ H
def B4 (t:TG) (u:wB):wB:=λvs σ H Q=>∃v r,vs=v::r/\t v σ H λσ' H'=>u r σ' H' Q
theorem pgs_nil:yL X [] EG:=by
 intro π s σ H vs us Q I r h;obtain⟨e,h⟩:=h;subst e;cases r;exact assignInOrder_nil ⟨σ,H,I,h⟩
theorem sP {t:TG} {u:wB} (h1:PG X e t) (h2:yL X es u)
 (hs:(assignEach (e::es) X.env).map (·.2)=assign e X.env::(assignEach es X.env).map (·.2):=by rfl):yL X (e::es) (B4 t u):=by
 intro π s σ H vs us Q I r h;obtain⟨v,vr,e1,h⟩:=h;subst e1;cases r with
 | cons r rr=>
   rw[hs];refine assignInOrder_cons (bU (h1 π s σ H _ _ _ I r h) λ_ s1 z9=>?_);obtain⟨σ1,H1,I1,q1⟩:=z9;exact h2 π s1 σ1 H1 _ _ Q I1 rr q1
def EH (K:yav) (n:Nat) (t:wB):TG:=λv σ H Q=>∃a xs,v=.ref a/\cY K H a xs/\xs.length=n/\t xs σ H Q
theorem zX {t:wB} {n:Nat} (hc:X.calm=true) (h:yL X es t)
 (hn:(assignEach es X.env).length=n:=by rfl) (hst:(assignEach es X.env).findIdx? (·.1)=none:=by rfl):PG X (.Tuple es k pos) (EH X.K n t):=by
 intro π s σ H v u Q I r hw;obtain⟨a,xs,e1,hq,hl,hw⟩:=hw;subst e1;cases r;obtain⟨its,rv,ht,hz⟩:=I.tuple hq;refine assign_Tuple_tuple (I.ok.hd hc) ht (by simp[hn,←hl,rv.length]) hst λh' hx=>?_;have I1:aF X π σ H { s with heap:=h' }:=I.kept (t':=s.toks) λb o e=>hx b o (ne_of_lt (ybv e)) e;exact h π _ σ H xs _ Q I1 (by simpa using rv) hw
def EI (te:TE) (g:TG):TS:=λD σ H=>te σ H λx H1=>g x σ H1 D.nx
theorem zY {te:TE} {pos':Pos} (hN:X.N.Nodup) (hi:X.N[i]?=some x) (hx:wj X.env.scope x) (he:PE X e te) (hs:swapsWith e (some (.Name x pos')) pos.line X.env=pure false:=by rfl) (hf:X.fn x=true∨X.env.scope.names.lookup x=some .local:=by first | exact .inl rfl | exact .inr rfl | assumption):
 PS X (.Assign [.Name x pos'] e pos) (EI te (yM i)):=by
 intro π s σ H D I h;refine wpAny_Assign_Name (bU (he π s σ H _ I h) λv s1 z9=>?_) hs;obtain⟨y,H1,I1,r1,q1⟩:=z9;exact jk I1 hN hi hx r1 (λs2 I2=>⟨_,H1,I2,q1⟩) hf
end
section
variable {X:Cx} {pos:Pos}
def zZ (c:TT) (tb:TS):TS:=λD σ H=>∃W:Nat->St->Hp->Prop,(∃m,W m σ H)/\∀m σ H,W m σ H->
 c σ H λb H1=>if b=true then ∃N:St->Hp->Prop,(∀σ' H',N σ' H'->∃m',m'<m/\W m' σ' H')/\tb { D with nx:=N,ct:=N,bk:=D.nx } σ H1 else D.nx σ H1
theorem sQ {c:Expr} {tc:TT} {tb:TS} (hp:PassesOwn (model X.prog X.w) X.A X.env X.xe) (hc:PT X c tc) (hb:mK X body tb):PS X (.While c body [] pos) (zZ tc tb):=by
 intro π s σ H D I h;obtain⟨W,⟨m0,w0⟩,turn⟩:=h;refine wpAny_While (codeAny_whileLoop (λn s'=>∃σ' H',aF X π σ' H' s'/\W n σ' H') ?_ m0 ⟨σ,H,I,w0⟩);rintro n s1 ⟨σ1,H1,I1,w1⟩;refine wpAny_passesOwn hp (bU (hc π s1 σ1 H1 _ I1 (turn n σ1 H1 w1)) λb s2 z9=>?_);obtain⟨H2,I2,q2⟩:=z9;cases b with
 | true=>
   obtain⟨N,hN,q2⟩:=q2;rw[ycv rfl];refine wpAny_passesOwn hp (bU (hb π s2 σ1 H2 _ I2 q2) λf s3 q3=>?_);cases f with
   | next=>
     obtain⟨σ3,H3,I3,n3⟩:=q3;obtain⟨m',hm,w3⟩:=hN σ3 H3 n3;exact⟨m',hm,σ3,H3,I3,w3⟩
   | cont=>
     obtain⟨σ3,H3,I3,n3⟩:=q3;obtain⟨m',hm,w3⟩:=hN σ3 H3 n3;exact⟨m',hm,σ3,H3,I3,w3⟩
   | brk=>exact q3
   | ret v=>exact q3
 | false=>
   rw[ycw ydx];exact wpAny_execs_nil ⟨σ1,H2,I2,q2⟩
end
structure It where
 go:Nat->Hp->Prop
 yld:Nat->Hp->V->Hp->Prop
 stop:Nat->Hp->Prop
def hJ (X:Cx) (π:List (Addr×Obj)) (H:Hp) (b:Addr):Prop:=
 H b=none/\b≠X.env.locals/\b∉X.fs/\(b∈X.ex∨X.s₀.heap.objs.size<=b)/\(∀x c,X.env.cells.lookup x=some c->c≠b)/\∀p∈X.pn++π,p.1≠b
theorem aF.fpOk {X:Cx} {σ:St} {H H':Hp} {b:Addr} (I:aF X π σ H s) (hb:s.heap.objs.size<=b) (hn:H' b=none):hJ X π H' b:=by
 refine⟨hn,Nat.ne_of_gt (ydw I.lt hb),I.nofs hb,.inr (ycy I.sz hb),λx c e z=>?_,λp hp z=>?_⟩
 ·obtain⟨v,q⟩:=I.cell x c e;exact absurd (ydw q.lt (by rw[z];exact hb)) (lt_irrefl _)
 ·exact absurd (ydw (ybv (I.pin p hp).1) (by rw[z];exact hb)) (lt_irrefl _)
structure jl (P:Program) (w:World) (K:yav) (tg:Expr) (J:It) (fp:List Addr) (it:Addr) (tn:Nat->Heap->Prop):Prop where
 mem:it∈fp
 obj:∀i h,tn i h->∀b∈fp,∃o,h.get? b=some o/\∀v,o.data≠ .cell v
 keep:∀i h h',tn i h->(∀b∈fp,∀o,h.get? b=some o->h'.get? b=some o)->tn i h'
 item:∀(X:Cx),X.prog=P->X.w=w->X.K=K->X.calm=true->∀(i:Nat) (π:List (Addr×Obj)) (s:Shared) (σ:St) (H:Hp) (E:yey),aF X π σ H s->(∀b∈fp,hJ X π H b)->tn i s.heap->J.go i H->
  wpAny (model P w) X.A (pyNext (.ref it)) (λr s1=>∃u,r=some u/\
   wpAny (model P w) X.A (letOwnedTupleGo tg (.ref it) u) (λ_ s2=>∃x H',aF X π σ H' s2/\bd x u/\J.yld i H x H'/\tn (i+1) s2.heap/\∀b∈fp,H' b=none) E s1) E s
 done:∀(X:Cx),X.prog=P->X.w=w->X.K=K->X.calm=true->∀(i:Nat) (π:List (Addr×Obj)) (s:Shared) (σ:St) (H:Hp) (E:yey),aF X π σ H s->(∀b∈fp,hJ X π H b)->tn i s.heap->J.stop i H->
  wpAny (model P w) X.A (pyNext (.ref it)) (λr s1=>r=none/\aF X π σ H s1) E s
 self:∀(A:Around) (i:Nat) (s:Shared) (Q:yey) (E:yey),tn i s.heap->Q (.ref it) s->wpAny (model P w) A (pyIter (.ref it)) Q E s
abbrev TI:=St->Hp->(It->Hp->Prop)->Prop
def GJ (X:Cx) (π:List (Addr×Obj)) (σ:St) (tg:Expr) (R:It->Hp->Prop) (itv:Value) (s2:Shared):Prop:=
 ∃(it:Addr) (fp:List Addr) (tn:Nat->Heap->Prop) (J:It) (H':Hp),itv=.ref it/\aF X π σ H' s2/\jl X.prog X.w X.K tg J fp it tn/\tn 0 s2.heap/\(∀b∈fp,hJ X π H' b)/\R J H'
def PI (X:Cx) (tg iter:Expr) (wi:TI):Prop:=
 ∀(π:List (Addr×Obj)) (s:Shared) (σ:St) (H:Hp) (R:It->Hp->Prop),aF X π σ H s->wi σ H R->
  wpAny (model X.prog X.w) X.A (eval iter X.env) (λv s1=>wpAny (model X.prog X.w) X.A (pyIter v) (GJ X π σ tg R) X.xe s1) X.xe s
theorem jm {M:Model} {tg:Expr} {it:Addr} {o:Obj} {n:String} {vs:Array Value} {Q:Unit->Shared->Prop} (ho:s.heap.get? it=some o) (hc:o.cls=.type n) (hd:o.data=.fields vs)
 (hn:["enumerate","zip","dict_itemiterator","dict_reverseitemiterator","odict_iterator","itertools.zip_longest","itertools.pairwise"].contains n=false) (hQ:Q () s):wpAny M A (letOwnedTupleGo tg (.ref it) u) Q E s:=by
 unfold letOwnedTupleGo;cases tg<;> first
  | exact way hQ
  | (cases u<;> first
      | exact way hQ
      | (refine wax (wpAny_load ho ?_)
         rw[hc,hd];show wpAny M A (if (["enumerate","zip","dict_itemiterator","dict_reverseitemiterator","odict_iterator","itertools.zip_longest","itertools.pairwise"].contains n&&vs[0]?==some (rawInt _))=true then _ else _) Q E s;rw[ycw (by intro h;rw[hn,Bool.false_and] at h;cases h)];exact way hQ))
noncomputable def Ej (K:yav) (a:Addr):It:=
 ⟨λi H=>∃xs x,cC K H a xs/\xs[i]?=some x,λi H x H'=>H'=H/\∀xs,cC K H a xs->xs[i]?=some x,λi H=>∃xs,cC K H a xs/\xs.length<=i⟩
noncomputable def EJ (K:yav) (a:Addr):It:=
 ⟨λi H=>∃xs x,cY K H a xs/\xs[i]?=some x,λi H x H'=>H'=H/\∀xs,cY K H a xs->xs[i]?=some x,λi H=>∃xs,cY K H a xs/\xs.length<=i⟩
noncomputable def Ek (lo:Int) (n:Nat):It:=⟨λi _=>i<n,λi H x H'=>H'=H/\x=.int (lo+i),λi _=>n<=i⟩
theorem rJ {tg:Expr} (a it:Addr):jl P w K tg (Ej K a) [it] it (λi h=>h.IsListIter it a i) where
 mem:=by simp
 obj:=λi h st b hb=>by
  have e:b=it:=by simpa using hb
  subst e;obtain⟨o,e,c,d⟩:=st;exact⟨o,e,λv z=>by rw[d] at z;cases z⟩
 keep:=λi h h' st k=>st.at λo e=>k it (by simp) o e
 item:=by
  intro X hP hw hK hc i π s σ H E I hf st hg;subst hP hw hK;obtain⟨xs,x,hq,hx⟩:=hg;obtain⟨its,rv,p,hz⟩:=I.list hq;obtain⟨u,hu,ru⟩:=rv.get hx;obtain⟨f0,f1,f2,f3,f4,f5⟩:=hf it (by simp);refine wpAny_pyNext_list_item st p.isList (x:=u) (by simpa using hu) λh' st' sb=>?_;have I1:aF X π σ H { s with heap:=h' }:=I.turned (t':=s.toks) (λb o hb e=>(sb.2 b hb).trans e) f0 f1 f3 f4 f5;obtain⟨o,e,c,d⟩:=id st';exact⟨u,rfl,jm (s:={ s with heap:=h' }) e c d (by decide) ⟨x,H,I1,ru,⟨rfl,λys hy=>by rw[I.list_inj hy hq];exact hx⟩,st',λb hb=>(hf b hb).1⟩⟩
 done:=by
  intro X hP hw hK hc i π s σ H E I hf st hg;subst hP hw hK;obtain⟨xs,hq,hx⟩:=hg;obtain⟨its,rv,p,hz⟩:=I.list hq;obtain⟨f0,f1,f2,f3,f4,f5⟩:=hf it (by simp);have hl:=rv.length;exact wpAny_pyNext_list_end (I.ok.hd hc) st p.isList (by simp;lia) λh' eb=>⟨rfl,I.turned (t':=s.toks) (λb o hb e=>eb b o hb e) f0 f1 f3 f4 f5⟩
 self:=λ_ _ _ _ _ st h=>wpAny_pyIter_listiter st h
theorem oK {tg:Expr} (a it:Addr):jl P w K tg (EJ K a) [it] it (λi h=>h.IsTupleIter it a i) where
 mem:=by simp
 obj:=λi h st b hb=>by
  have e:b=it:=by simpa using hb
  subst e;obtain⟨o,e,c,d⟩:=st;exact⟨o,e,λv z=>by rw[d] at z;cases z⟩
 keep:=λi h h' st k=>st.at λo e=>k it (by simp) o e
 item:=by
  intro X hP hw hK hc i π s σ H E I hf st hg;subst hP hw hK;obtain⟨xs,x,hq,hx⟩:=hg;obtain⟨its,rv,p,hz⟩:=I.tuple hq;obtain⟨u,hu,ru⟩:=rv.get hx;obtain⟨f0,f1,f2,f3,f4,f5⟩:=hf it (by simp);refine wpAny_pyNext_tuple_item st (show s.heap.IsTuple a its.toArray from p) (x:=u) (by simpa using hu) λh' st' sb=>?_;have I1:aF X π σ H { s with heap:=h' }:=I.turned (t':=s.toks) (λb o hb e=>(sb.2 b hb).trans e) f0 f1 f3 f4 f5;obtain⟨o,e,c,d⟩:=id st';exact⟨u,rfl,jm (s:={ s with heap:=h' }) e c d (by decide) ⟨x,H,I1,ru,⟨rfl,λys hy=>by rw[I.tuple_inj hy hq];exact hx⟩,st',λb hb=>(hf b hb).1⟩⟩
 done:=by
  intro X hP hw hK hc i π s σ H E I hf st hg;subst hP hw hK;obtain⟨xs,hq,hx⟩:=hg;obtain⟨its,rv,p,hz⟩:=I.tuple hq;obtain⟨f0,f1,f2,f3,f4,f5⟩:=hf it (by simp);have hl:=rv.length;exact wpAny_pyNext_tuple_end (I.ok.hd hc) st (show s.heap.IsTuple a its.toArray from p) (by simp;lia) λh' eb=>⟨rfl,I.turned (t':=s.toks) (λb o hb e=>eb b o hb e) f0 f1 f3 f4 f5⟩
 self:=λ_ _ _ _ _ st h=>wpAny_pyIter_tupleiter st h
theorem oM {tg:Expr} (it:Addr) (lo:Int) (n:Nat):jl P w K tg (Ek lo n) [it] it (λi h=>IsRangeIter h it (lo+(i:Nat)*1) ((n:Int)- (i:Nat)) 1) where
 mem:=by simp
 obj:=λi h st b hb=>by
  have e:b=it:=by simpa using hb
  subst e;exact⟨_,st,λv z=>by
   have z':Data.fields _=Data.cell v:=z;cases z'⟩
 keep:=λi h h' st k=>k it (by simp) _ st
 item:=by
  intro X hP hw hK hc i π s σ H E I hf st hg;subst hP hw hK;obtain⟨f0,f1,f2,f3,f4,f5⟩:=hf it (by simp);have W:=Walks.range (prog:=X.prog) (w:=X.w) (I.ok.hd hc) it lo 1 n;refine W.item i s _ _ hg st λv h' tk hv st' kk=>?_;obtain⟨t,rfl⟩:=hv;have I1:aF X π σ H { s with heap:=h',toks:=tk }:=I.turned (λb o hb e=>kk b o (by simpa using hb) e) f0 f1 f3 f4 f5;refine⟨_,rfl,jm (s:={ s with heap:=h',toks:=tk }) (n:="range_iterator") st' rfl rfl (by decide) ⟨.int (lo+i),H,I1,⟨t,?_⟩,⟨rfl,rfl⟩,st',λb hb=>(hf b hb).1⟩⟩;rw[Int.mul_one]
 done:=by
  intro X hP hw hK hc i π s σ H E I hf st hg;subst hP hw hK;obtain⟨f0,f1,f2,f3,f4,f5⟩:=hf it (by simp);exact wpAny_pyNext_range_end (I.ok.hd hc) st (by have:n<=i:=hg;lia) λh' eb=>⟨rfl,I.turned (t':=s.toks) (λb o hb e=>eb b o hb e) f0 f1 f3 f4 f5⟩
 self:=λ_ _ _ _ _ st h=>wpAny_pyIter_rangeiter st h
section
variable {X:Cx} {tg:Expr}
theorem sR {σ:St} {H:Hp} {R:It->Hp->Prop} {lo hi:Int} {t u v:Tok} {tk:Nat} (I:aF X π σ H s) (h1: -(2^62)<=lo) (h2:lo<2^62) (h3: -(2^62)<=hi) (h4:hi<2^62)
 (q:R (Ek lo (hi-lo).toNat) H):wpAny (model X.prog X.w) X.A (pyIter (.ref s.heap.objs.size)) (GJ X π σ tg R) E { s with heap:=s.heap.push { cls:= .type "range",data:= .fields #[.int lo t,.int hi u,.int 1 v] },toks:=tk }:=by
 refine wpAny_pyIter_range (IsRange.new ..) (small_one h1 h2 h3 h4) ?_;have I1:aF X π σ H { s with heap:=s.heap.push { cls:= .type "range",data:= .fields #[.int lo t,.int hi u,.int 1 v] },toks:=tk }:=I.kept λb o e=>ybz _ e;refine⟨(s.heap.push { cls:= .type "range",data:= .fields #[.int lo t,.int hi u,.int 1 v] }).objs.size,[(s.heap.push { cls:= .type "range",data:= .fields #[.int lo t,.int hi u,.int 1 v] }).objs.size],_,_,H,rfl,
  I1.kept (t':=tk) λb o e=>ybz _ e,oM _ lo (hi-lo).toNat,?_,λb hb=>?_,q⟩
 ·have e1:lo+((0:Nat):Int)*1=lo:=by simp
  have e2:(((hi-lo).toNat:Nat):Int)- ((0:Nat):Int)=Builtin.Range.rangeSize lo hi 1:=by rw[rangeSize_one];split<;> lia
  show IsRangeIter _ _ (lo+((0:Nat):Int)*1) ((((hi-lo).toNat:Nat):Int)- ((0:Nat):Int)) 1;rw[e1,e2];exact ybw _ rfl
 ·have e:b=(s.heap.push { cls:= .type "range",data:= .fields #[.int lo t,.int hi u,.int 1 v] }).objs.size:=by simpa using hb
  subst e;exact I1.fpOk (ycx _) (I1.hok.fresh (ycx _))
def B5 (ta:TA):TI:=λσ H R=>ta σ H λvs H1=>∃j:Int,vs=[.int j]/\-(2^62)<=j/\j<2^62/\R (Ek 0 j.toNat) H1
theorem rK {a:Expr} {ta:TA} {p pos:Pos} (hg:Gl X "range") (hm:X.mg "range"=none) (ha:PA X [a] ta) (hs:starEach [a] X.env=[(false,eval a X.env)]:=by rfl):PI X tg (.Call (.Name "range" p) [a] [] pos) (B5 ta):=by
 intro π s σ H R I h;refine Call_ (eE I hg hm boot_range (PyProof.Rows.callWith_type1 (bU (ha pos π s σ H _ I h) λus s1 z9=>?_) hs rfl));obtain⟨vs,H1,I1,r1,q1⟩:=z9;obtain⟨j,e,q1,q2,q⟩:=q1;subst e;cases r1 with
 | cons r rr=>
   cases rr;obtain⟨t,rfl⟩:=r;exact call_range_1 (sR I1 (by lia) (by lia) q1 q2 (by simpa using q))
def EK (wi:TI) (g:TG) (tb:TS):TS:=λD σ H=>wi σ H λJ H1=>∃W:Nat->Nat->St->Hp->Prop,(∃m,W 0 m σ H1)/\∀i m σ H,W i m σ H->
 (J.stop i H/\D.nx σ H)∨(J.go i H/\∃N:St->Hp->Prop,(∀σ' H',N σ' H'->∃m',m'<m/\W (i+1) m' σ' H')/\∀x H',J.yld i H x H'->g x σ H' λσ2 H2=>tb { D with nx:=N,ct:=N,bk:=D.nx } σ2 H2)
noncomputable def jn (fp:List Addr) (h:Heap):List (Addr×Obj):=fp.filterMap λb=>(h.get? b).map λo=>(b,o)
theorem dJ {fp:List Addr} {h:Heap} {b:Addr} {o:Obj} (hb:b∈fp) (e:h.get? b=some o):(b,o)∈jn fp h:=List.mem_filterMap.mpr ⟨b,hb,by rw[e];rfl⟩
theorem rL {fp:List Addr} {h:Heap} {p:Addr×Obj} (hp:p∈jn fp h):p.1∈fp/\h.get? p.1=some p.2:=by
 obtain⟨b,hb,e⟩:=List.mem_filterMap.mp hp;cases q:h.get? b with
 | none=>rw[q] at e;cases e
 | some o=>
   rw[q] at e;have e':(b,o)=p:=Option.some.inj e;subst e';exact⟨hb,q⟩
theorem aF.pinned {σ:St} {H:Hp} {fp:List Addr} (I:aF X π σ H s) (hf:∀b∈fp,hJ X π H b) (ho:∀b∈fp,∃o,s.heap.get? b=some o/\∀v,o.data≠ .cell v):aF X (π++jn fp s.heap) σ H s:=
 I.pins_of λp hp=>(mem_append.mp hp).elim (λz=>I.pin p (yex _ z)) λz=>by
  obtain⟨hb,e⟩:=rL z;obtain⟨f0,f1,f2,_⟩:=hf p.1 hb;obtain⟨o,e',d⟩:=ho p.1 hb;rw[e] at e';cases e';exact⟨e,f0,f1,f2,d⟩
theorem aF.unpinned {π pl:List (Addr×Obj)} {σ:St} {H:Hp} (I:aF X (π++pl) σ H s):aF X π σ H s:=I.pins_of λp hp=>I.pin p (yex _ (mem_append_left _ hp))
theorem Aa {iter:Expr} {wi:TI} {g:TG} {tb:TS} (hp:PassesOwn (model X.prog X.w) X.A X.env X.xe) (hc:X.calm=true) (hi:PI X tg iter wi) (hg:PG X tg g) (hb:mK X body tb)
 (hs:∀x,foldedSetIterable iter X.env x=pure x:=by intro _;rfl):PS X (.For tg iter body [] pos) (EK wi g tb):=by
 intro π s σ H D I h;refine wpAny_For (bU (hi π s σ H _ I h) λv s1 h1=>bU h1 λitv s2 h2=>?_) hs;obtain⟨it,fp,tn,J,H2,e,I2,T,st2,f2,W,⟨m0,w0⟩,turn⟩:=h2;subst e
 -- what stays true of the iterator's objects through the loop
 have stat:∀{H':Hp},(∀b∈fp,H' b=none)->∀b∈fp,hJ X π H' b:=λhn b hb=>⟨hn b hb,(f2 b hb).2⟩;refine codeAny_forLoop_any (λn s'=>∃i σ' H',aF X π σ' H' s'/\tn i s'.heap/\(∀b∈fp,H' b=none)/\W i n σ' H') ?_ m0 ⟨0,σ,H2,I2,st2,λb hb=>(f2 b hb).1,w0⟩;rintro n s3 ⟨i,σ3,H3,I3,st3,fr3,w3⟩;rcases turn i n σ3 H3 w3 with⟨stop,qn⟩ | ⟨go,N,hN,step⟩
 ·refine wpAny_passesOwn hp (bU (T.done X rfl rfl rfl hc i π s3 σ3 H3 X.xe I3 (stat fr3) st3 stop) λr s4 z9=>?_);obtain⟨hr,I4⟩:=z9;subst hr;exact wpAny_execs_nil ⟨σ3,H3,I4,qn⟩
 ·refine wpAny_passesOwn hp (bU (T.item X rfl rfl rfl hc i π s3 σ3 H3 X.xe I3 (stat fr3) st3 go) λr s4 z9=>?_);obtain⟨u,hr,h4⟩:=z9;subst hr;refine wpAny_passesOwn hp (bU h4 λ_ s5 z9=>?_);obtain⟨x,H5,I5,r5,y5,st5,fr5⟩:=z9;have I5':=I5.pinned (stat fr5) (T.obj _ _ st5);refine wpAny_passesOwn hp (bU (hg _ s5 σ3 H5 x u _ I5' r5 (step x H5 y5)) λ_ s6 z9=>?_);obtain⟨σ6,H6,I6,q6⟩:=z9;refine wpAny_passesOwn hp (bU (hb _ s6 σ6 H6 _ I6 q6) λf s7 q7=>?_);have again:∀{σ7:St} {H7:Hp},aF X (π++jn fp s5.heap) σ7 H7 s7->N σ7 H7->∃m,m<n/\∃i σ' H',aF X π σ' H' s7/\tn i s7.heap/\(∀b∈fp,H' b=none)/\W i m σ' H':=λ{σ7 H7} I7 n7=>by
   obtain⟨m',hm,w7⟩:=hN σ7 H7 n7;refine⟨m',hm,i+1,σ7,H7,I7.unpinned,T.keep _ _ _ st5 λb hb o e=>(I7.pin (b,o) (yex _ (yex _ (dJ hb e)))).1,λb hb=>?_,w7⟩;obtain⟨o,e,d⟩:=T.obj _ _ st5 b hb;exact(I7.pin (b,o) (yex _ (yex _ (dJ hb e)))).2.1
  cases f with
  | next=>obtain⟨σ7,H7,I7,n7⟩:=q7;exact again I7 n7
  | cont=>obtain⟨σ7,H7,I7,n7⟩:=q7;exact again I7 n7
  | brk=>obtain⟨σ7,H7,I7,q7⟩:=q7;exact⟨σ7,H7,I7.unpinned,q7⟩
  | ret v=>obtain⟨x7,σ7,H7,I7,r7,q7⟩:=q7;exact⟨x7,σ7,H7,I7.unpinned,r7,q7⟩
end
abbrev R2:=V->V->Hp->VK->Prop
def iK (X:Cx) (f:Value->Value->Sem Value) (r:R2):Prop:=
 ∀(π:List (Addr×Obj)) (s:Shared) (σ:St) (H:Hp) (x y:V) (v u:Value) (Q:VK),aF X π σ H s->bd x v->bd y u->r x y H Q->
  wpAny (model X.prog X.w) X.A (f v u) (EP X π σ Q) X.xe s
def EL (X:Cx) (f:Value->Sem Value) (r:V->Hp->VK->Prop):Prop:=
 ∀(π:List (Addr×Obj)) (s:Shared) (σ:St) (H:Hp) (x:V) (v:Value) (Q:VK),aF X π σ H s->bd x v->r x H Q->
  wpAny (model X.prog X.w) X.A (f v) (EP X π σ Q) X.xe s
def eZ (X:Cx) (f:Value) (r:List V->Hp->VK->Prop):Prop:=
 ∀(π:List (Addr×Obj)) (s:Shared) (σ:St) (H:Hp) (xs:List V) (us:yez) (Q:VK),aF X π σ H s->aU xs us->r xs H Q->
  wpAny (model X.prog X.w) X.A (call f us) (EP X π σ Q) X.xe s
def B6 (r:R2) (ta tb:TE):TE:=λσ H Q=>ta σ H λx H1=>tb σ H1 λy H2=>r x y H2 Q
def Hc (r:V->Hp->VK->Prop) (ta:TE):TE:=λσ H Q=>ta σ H λx H1=>r x H1 Q
def rI (C:Int->Int->Prop) (g:Int->Int->V):R2:=λx y H Q=>∃i j,x=.int i/\y=.int j/\C i j/\Q (g i j) H
def wE (g:Int->Int->V):R2:=λx y H Q=>∃i j,x=.int i/\y=.int j/\Q (g i j) H
def rU (g:Int->V):V->Hp->VK->Prop:=λx H Q=>∃i,x=.int i/\Q (g i) H
section
variable {X:Cx} {a b c:Expr} {ta tb tc:TE} {pos:Pos}
theorem Ab (ha:PE X a ta) (hb:PE X b tb) {σ:St} {H:Hp} {R:V->V->Hp->Prop} (I:aF X π σ H s)
 (h:ta σ H λx H1=>tb σ H1 λy H2=>R x y H2) {Q:yey} {f:Value->Value->Sem Value}
 (hf:∀v u s2 x y H2,aF X π σ H2 s2->bd x v->bd y u->R x y H2->wpAny (model X.prog X.w) X.A (f v u) Q X.xe s2):
 wpAny (model X.prog X.w) X.A (eval a X.env) (λv s₁=>wpAny (model X.prog X.w) X.A (eval b X.env) (λu s₂=>wpAny (model X.prog X.w) X.A (f v u) Q X.xe s₂) X.xe s₁) X.xe s:=by
 refine bU (ha π s σ H _ I h) λv s1 z9=>?_;obtain⟨x,H1,I1,r1,q1⟩:=z9;refine bU (hb π s1 σ H1 _ I1 q1) λu s2 z9=>?_;obtain⟨y,H2,I2,r2,q2⟩:=z9;exact hf v u s2 x y H2 I2 r1 r2 q2
theorem B7 {op:Operator} {r:R2} (ho:iK X (binaryOp op) r) (ha:PE X a ta) (hb:PE X b tb):PE X (.BinOp a op b pos) (B6 r ta tb):=by
 intro π s σ H Q I h;exact wpAny_BinOp (Ab ha hb I h λv u s2 x y H2 I2 rx ry q=>ho π s2 σ H2 x y v u Q I2 rx ry q)
theorem B8 {op:UnaryOp} {r:V->Hp->VK->Prop} (ho:EL X (unaryOp op) r) (ha:PE X a ta):PE X (.UnaryOp op a pos) (Hc r ta):=by
 intro π s σ H Q I h;exact UnaryOp_ (bU (ha π s σ H _ I h) λv s1 ⟨x,H1,I1,r1,q1⟩=>ho π s1 σ H1 x v Q I1 r1 q1)
theorem El {f:Value->Value->Sem Value} {C:Int->Int->Prop} {g:Int->Int->Int}
 (rule:∀(i j:Int) (t u:Tok) (s:Shared) (Q:yey) (E:yey),C i j->Q (.int (g i j) s.toks) { s with toks:=s.toks+1 }->wpAny (model X.prog X.w) X.A (f (.int i t) (.int j u)) Q E s):
 iK X f (rI C λi j=> .int (g i j)):=by
 intro π s σ H x y v u Q I rx ry h;obtain⟨i,j,rfl,rfl,hc,q⟩:=h;obtain⟨t,rfl⟩:=rx;obtain⟨t',rfl⟩:=ry;exact rule i j t t' s _ _ hc ⟨.int (g i j),H,I.tok _,⟨_,rfl⟩,q⟩
theorem B9 {f:Value->Value->Sem Value} {g:Int->Int->Int}
 (rule:∀(i j:Int) (t u:Tok) (s:Shared) (Q:yey) (E:yey),Q (.int (g i j) s.toks) { s with toks:=s.toks+1 }->wpAny (model X.prog X.w) X.A (f (.int i t) (.int j u)) Q E s):
 iK X f (wE λi j=> .int (g i j)):=by
 intro π s σ H x y v u Q I rx ry h;obtain⟨i,j,rfl,rfl,q⟩:=h;obtain⟨t,rfl⟩:=rx;obtain⟨t',rfl⟩:=ry;exact rule i j t t' s _ _ ⟨.int (g i j),H,I.tok _,⟨_,rfl⟩,q⟩
theorem wF {f:Value->Value->Sem Value} {g:Int->Int->Bool}
 (rule:∀(i j:Int) (t u:Tok) (s:Shared) (Q:yey) (E:yey),Q (.bool (g i j)) s->wpAny (model X.prog X.w) X.A (f (.int i t) (.int j u)) Q E s):
 iK X f (wE λi j=> .bl (g i j)):=by
 intro π s σ H x y v u Q I rx ry h;obtain⟨i,j,rfl,rfl,q⟩:=h;obtain⟨t,rfl⟩:=rx;obtain⟨t',rfl⟩:=ry;exact rule i j t t' s _ _ ⟨.bl (g i j),H,I,rfl,q⟩
def Cb (i j:Int):Prop:=0<j/\j<1073741824
def Ac (i j:Int):Prop:=0<=j/\j<=1000000/\i.natAbs<2^64
def wG (i j:Int):Prop:=(-(2^64)<i/\i<2^64)∨(-(2^64)<j/\j<2^64)
theorem wG.ok {i j:Int} (h:wG i j):IntMulOk i j:=by
 rcases h with⟨h1,h2⟩ | ⟨h1,h2⟩
 ·exact .of_left (intBits_le_64 h1 h2)
 ·exact .of_right (intBits_le_64 h1 h2)
theorem Ae:iK X (binaryOp .Add) (wE λi j=> .int (i+j)):=B9 λ_ _ _ _ _ _ _ q=>add_int q
theorem Af:iK X (binaryOp .Sub) (wE λi j=> .int (i-j)):=B9 λ_ _ _ _ _ _ _ q=>sub_int q
theorem Ag:iK X (binaryOp .Mod) (rI (λ_ j=>0<j) λi j=> .int (i%j)):=El λi j _ _ _ _ _ hc q=>by
 have h1:(0:Int)<j:=hc;exact mod_int' (by lia) (by rw[Int.fmod_eq_emod_of_nonneg i (by lia)];exact q)
theorem Hd {f:Value->Sem Value} {g:Int->Int}
 (rule:∀(i:Int) (t:Tok) (s:Shared) (Q:yey) (E:yey),Q (.int (g i) s.toks) { s with toks:=s.toks+1 }->wpAny (model X.prog X.w) X.A (f (.int i t)) Q E s):
 EL X f (rU λi=> .int (g i)):=by
 intro π s σ H x v Q I rx h;obtain⟨i,rfl,q⟩:=h;obtain⟨t,rfl⟩:=rx;exact rule i t s _ _ ⟨.int (g i),H,I.tok _,⟨_,rfl⟩,q⟩
theorem Ah:EL X (unaryOp .USub) (rU λi=> .int (-i)):=Hd λ_ _ _ _ _ q=>neg_int q
end
section
variable {X:Cx} {a b c:Expr} {ta tb tc:TE} {pos:Pos}
theorem sS {σ:St} {H:Hp} {Q:VK} {k k':Bool} (I:aF X π σ H s) (q:Q (.bl k) H) (e:k=k'):EP X π σ Q (.bool k') s:=by
 subst e;exact⟨.bl k,H,I,rfl,q⟩
theorem Cc:iK X (compareOp .Lt) (wE λi j=> .bl (decide (i<j))):=wF λ_ _ _ _ _ _ _ q=>lt_int q
theorem Ce:iK X (compareOp .LtE) (wE λi j=> .bl (decide (i<=j))):=wF λ_ _ _ _ _ _ _ q=>le_int q
theorem Cg:iK X (compareOp .Gt) (wE λi j=> .bl (decide (j<i))):=wF λ_ _ _ _ _ _ _ q=>gt_int q
theorem Ch:iK X (compareOp .GtE) (wE λi j=> .bl (decide (j<=i))):=wF λ_ _ _ _ _ _ _ q=>ge_int q
theorem Ai:iK X (compareOp .Is) (λx y H Q=>y=.non/\Q (.bl (decide (x=.non))) H):=by
 intro π s σ H x y v u Q I rx ry h;obtain⟨rfl,q⟩:=h;cases ry;refine is_none_gen (sS I q ?_);cases x<;> first
  | (cases rx;rfl)
  | (obtain⟨t,rfl⟩:=rx;rfl)
theorem wH:iK X (compareOp .IsNot) (λx y H Q=>y=.non/\Q (.bl (!decide (x=.non))) H):=by
 intro π s σ H x y v u Q I rx ry h;obtain⟨rfl,q⟩:=h;cases ry;refine isnot_none_gen (sS I q ?_);cases x<;> first
  | (cases rx;rfl)
  | (obtain⟨t,rfl⟩:=rx;rfl)
theorem sT (b:Expr) {op:CmpOp} (h:op≠ .In:=by decide) (h2:op≠ .NotIn:=by decide):behindInMarks op b=false:=by
 have e1:(op==CmpOp.In)=false:=by cases op<;> first | rfl | exact absurd rfl h
 have e2:(op==CmpOp.NotIn)=false:=by cases op<;> first | rfl | exact absurd rfl h2
 cases b<;> simp[behindInMarks,e1,e2]
theorem wI {op:CmpOp} {r:R2} (ho:iK X (compareOp op) r) (ha:PE X a ta) (hb:PE X b tb) (hm:behindInMarks op b=false):PE X (.Compare a [op] [b] pos) (B6 r ta tb):=by
 intro π s σ H Q I h;exact wpAny_Compare1 (Ab ha hb I h λv u s2 x y H2 I2 rx ry q=>ho π s2 σ H2 x y v u Q I2 rx ry q) hm
def yN (t:TE):TT:=λσ H Q=>t σ H λx H'=>∃k,x=.bl k/\Q k H'
theorem wJ {op:CmpOp} {r:R2} (ho:iK X (compareOp op) r) (ha:PE X a ta) (hb:PE X b tb) (hm:behindInMarks op b=false):PT X (.Compare a [op] [b] pos) (yN (B6 r ta tb)):=by
 intro π s σ H Q I h;refine wpAny_isTrue_Compare1 (bU (ha π s σ H _ I h) λv s1 ⟨x,H1,I1,r1,q1⟩=>bU (hb π s1 σ H1 _ I1 q1) λu s2 ⟨y,H2,I2,r2,q2⟩=>
  bU (ho π s2 σ H2 x y v u _ I2 r1 r2 q2) λc s3 ⟨z,H3,I3,r3,k,e,q3⟩=>?_) hm
 subst e;cases r3;exact wpAny_truthy_bool ⟨H3,I3,q3⟩
theorem jo:(sizeLine:Nat)<2^63:=by rw[sizeLine_eq];decide
theorem oN:iK X (binaryOp .Add) (λx y H Q=>∃i j,x=.str i/\y=.str j/\i.length+j.length<=sizeLine/\Q (.str (i++j)) H):=by
 intro π s σ H x y v u Q I rx ry h;obtain⟨i,j,rfl,rfl,hz,q⟩:=h;obtain⟨t,rfl⟩:=rx;obtain⟨t',rfl⟩:=ry;exact add_str (λt' tk=>⟨.str (i++j),H,I.tok _,⟨_,rfl⟩,q⟩) hz
theorem e9 {x:V} (r:aU [x] us):∃u,us=[u]/\bd x u:=by
 cases r with
 | cons r1 r2=>cases r2;exact⟨_,rfl,r1⟩
theorem jp {x y:V} (r:aU [x,y] us):∃u w',us=[u,w']/\bd x u/\bd y w':=by
 cases r with
 | cons r1 r2=>
   cases r2 with
   | cons r3 r4=>cases r4;exact⟨_,_,rfl,r1,r3⟩
theorem rM (hc:X.calm=true):eZ X (.builtin "max") (λxs H Q=>∃i j,xs=[.int i,.int j]/\Q (.int (if j > i then j else i)) H):=by
 intro π s σ H xs us Q I r h;obtain⟨i,j,rfl,q⟩:=h;obtain⟨u,w',rfl,⟨t,rfl⟩,⟨t',rfl⟩⟩:=jp r;refine max_two_ints (I.ok.hd hc) λh' tk k=>⟨_,H,I.kept k,?_,q⟩
 by_cases hj:j > i
 ·rw[ycv hj,ycv hj];exact⟨_,rfl⟩
 ·rw[ycw hj,ycw hj];exact⟨_,rfl⟩
theorem rN (hc:X.calm=true):eZ X (.builtin "min") (λxs H Q=>∃i j,xs=[.int i,.int j]/\Q (.int (if j<i then j else i)) H):=by
 intro π s σ H xs us Q I r h;obtain⟨i,j,rfl,q⟩:=h;obtain⟨u,w',rfl,⟨t,rfl⟩,⟨t',rfl⟩⟩:=jp r;refine min_two_ints (I.ok.hd hc) λh' tk k=>⟨_,H,I.kept k,?_,q⟩
 by_cases hj:j<i
 ·rw[ycv hj,ycv hj];exact⟨_,rfl⟩
 ·rw[ycw hj,ycw hj];exact⟨_,rfl⟩
end
structure oO (h:Heap) (x dx C:Addr) (mA:yew):Prop where
 obj:h.get? x=some (instObj C dx)
 ns:h.Ns1 dx mA
 ne:dx≠x
theorem rO {h:Heap} {dx:Addr} {mA:yew} (n:h.Ns1 dx mA):∃od,h.get? dx=some od/\∀name,lookIn name od=some (mA name):=by
 obtain⟨o,es,ep,ho,hd,hk,_,hm⟩:=n;refine⟨o,ho,λname=>?_⟩;have e:=hm name;unfold nsFind findBy at e;rw[←Array.find?_toList] at e;unfold lookIn;rw[hd];dsimp only;split
 ·rename_i y q;rw[q] at e;exact congrArg some e
 ·rename_i q;rw[q] at e;have a:es.toList.any (·.refKey)=false:=by
   rw[List.any_eq_false];intro y hy;obtain⟨z,t,hkey⟩:=hk y (Array.mem_toList_iff.mp hy);simp[DictEntry.refKey,hkey]
  have a':¬es.toList.any (·.refKey)=true:=by rw[a];exact ydx
  rw[ycw a'];exact congrArg some e
theorem oO.look {h:Heap} {x dx C:Addr} {mA:yew} (I:oO h x dx C mA):∃od,PySem.W.InstAt h x (instObj C dx) C (some od)/\∀name,lookIn name od=some (mA name):=
 let ⟨od,ho,hl⟩:=rO I.ns
 ⟨od,⟨I.obj,rfl,rfl,ho⟩,hl⟩
section
variable {prog:Program} {w:World} {A:Around} {E:yey} {s:Shared} {K:yav} {x dx C f:Addr} {mA:yew} {name:Str} {v:Value}
theorem wK {expr:Bool} (X:K.In s.heap) (I:oO s.heap x dx C mA) (hg:plainGet K C name=true) (hh:hasDictIn K C=true)
 (ha:findIn K (.ref C) name=some none) (hv:mA name=some v) (hv':PySem.W.handedIn v=true) (h:Q v { s with toks:=s.toks+1 }):
 wpAny (model prog w) A (getAttr (.ref x) name expr) Q E s:=by
 obtain⟨od,J,hl⟩:=I.look;exact PySem.W.get_value X J (PySem.W.plainGet_of hg).1 (PySem.W.findObj_own hh ha rfl (by rw[hl,hv])) hv' h
theorem sU {pl:Sem Bool} {Q:Value×List Value->Shared->Prop} (X:K.In s.heap) (I:oO s.heap x dx C mA) (hg:plainGet K C name=true)
 (hf:findIn K (.ref C) name=some (some (.ref f))) (ht:isFn K (.ref f)=true) (hv:mA name=none) (h:Q (.ref f,[.ref x]) s):
 wpAny (model prog w) A (getMethod (.ref x) name pl) Q E s:=by
 obtain⟨od,J,hl⟩:=I.look;exact PySem.W.method_fn X J (PySem.W.plainGet_of hg).1 (PySem.W.plainGet_of hg).2 hf (beq_iff_eq.mp ht) (by show(lookIn name od).map (·.isSome)=some false;rw[hl,hv];rfl) h
theorem wL {ns:List Str} {Q:Unit->Shared->Prop} (X:K.In s.heap) (I:oO s.heap x dx C mA)
 (hs:findIn K (.ref C) "__setattr__"=some (some (.builtin "object.__setattr__"))) (hp:plainOver K C=true) (ht:PySem.W.takerIn K C name=some none) (hh:hasDictIn K C=true)
 (hw:PySem.Within mA ns) (hsz:ns.length<=sizeLine)
 (h:∀h',oO h' x dx C (λy=>if y=name then some v else mA y)->Heap.SameBut dx s.heap h'->Q () { s with heap:=h',toks:=s.toks+2 }):
 wpAny (model prog w) A (setAttr (.ref x) name v) Q E s:=by
 obtain⟨od,J,hl⟩:=I.look;refine PySem.W.set_plain X J hs (PySem.W.osa_open (s:={ s with toks:=s.toks+1 }) (r:=none) X J hp ht λb=>?_);obtain⟨cd,hc,hd'⟩:=PySem.W.any_some hh;have hx:s.heap.get? x=some ⟨.ref C,some dx,.plain,#[]⟩:=I.obj;refine wax (way (wax (wax (wpAny_loadPart hx (wax (PySem.W.Looks.here (s:={ s with toks:=s.toks+1 }) (PySem.W.looks_clsIn X hc) ?_))))));rw[hd'];refine way (a:=some dx) (wax (way (wax ?_)));refine wpAny_nsSet1 (s:={ s with toks:=s.toks+1 }) I.ns λh' hn2 hs2=>?_;obtain⟨oD,esD,epD,hoD,hdD,hcD⟩:=hn2.count (PySem.Within.cons name v hw);refine wax (wpAny_lookBehind hoD (by rw[hdD];exact pastItsLine_dict (ycy hcD (by rw[length_cons];lia))) ?_);exact way (h _ ⟨(hs2.2 _ (Ne.symm I.ne)).trans I.obj,hn2,I.ne⟩ hs2)
theorem sV {R:Result->Shared->Prop} {vs:yez} {kw:List (Str×Value)} (X:K.In s.heap) (hm:makesIn K C=true)
 (hi:findIn K (.ref C) "__init__"=some (some (.ref f))) (hf:typeIn K (.ref f)=some (.type "function"))
 (h:codeAny (model prog w) (A.under (.builtin "type.__call__" ⟨.ref C::vs,kw⟩)) (.call (.ref f) ⟨.ref (s.heap.objs.size+1)::vs,kw⟩) (PySem.W.InitBack (s.heap.objs.size+1) R)
   { s with heap:=(s.heap.push emptyDict).push (instObj C s.heap.objs.size) }):
 codeAny (model prog w) A (.call (.ref C) ⟨vs,kw⟩) R s:=by
 obtain⟨hh,g,d,t,os⟩:=s;exact PySem.W.make_core (PySem.W.makes_of X hm) (PySem.W.looks_findIn X hi) (λself=>PySem.W.bind_fn X self hf) (.inl rfl) h
end
noncomputable def d9 (f:Str) (v:V):List (Str×V)->List (Str×V)
 | []=>[(f,v)]
 | (g,x)::r=>if g=f then (g,v)::r else (g,x)::d9 f v r
theorem iL (f g:Str) (v:V):∀fs:List (Str×V),(d9 f v fs).lookup g=if g=f then some v else fs.lookup g
 | []=>by
   show List.lookup g [(f,v)]=_
   by_cases h:g=f
   ·have hb:(g==f)=true:=beq_iff_eq.mpr h;simp only[List.lookup,hb,ycv h]
   ·have hb:(g==f)=false:=beq_eq_false_iff_ne.mpr h;simp only[List.lookup,hb,ycw h]
 | (k,x)::r=>by
   have ih:=iL f g v r;rw[show d9 f v ((k,x)::r)=(if k=f then (k,v)::r else (k,x)::d9 f v r) from rfl]
   by_cases hk:k=f
   ·rw[ycv hk]
    by_cases h:g=k
    ·have hb:(g==k)=true:=beq_iff_eq.mpr h;simp only[List.lookup,hb,ycv (h.trans hk)]
    ·have hb:(g==k)=false:=beq_eq_false_iff_ne.mpr h;simp only[List.lookup,hb,ycw (λe:g=f=>h (e.trans hk.symm))]
   ·rw[ycw hk]
    by_cases h:g=k
    ·have hb:(g==k)=true:=beq_iff_eq.mpr h;simp only[List.lookup,hb,ycw (λe:g=f=>hk (h.symm.trans e))]
    ·have hb:(g==k)=false:=beq_eq_false_iff_ne.mpr h;simp only[List.lookup,hb];exact ih
theorem ia (f:Str) (v:V):∀fs:List (Str×V),f∈(d9 f v fs).map (·.1)/\∀g,g∈fs.map (·.1)->g∈(d9 f v fs).map (·.1)
 | []=>⟨by simp[d9],λg h=>by simp at h⟩
 | (k,x)::r=>by
   obtain⟨i1,i2⟩:=ia f v r;rw[show d9 f v ((k,x)::r)=(if k=f then (k,v)::r else (k,x)::d9 f v r) from rfl]
   by_cases hk:k=f
   ·rw[ycv hk];subst hk;exact⟨by simp,λg h=>by simpa using h⟩
   ·rw[ycw hk];refine⟨?_,λg h=>?_⟩
    ·rw[map_cons];exact ybx _ i1
    ·rw[map_cons] at h ⊢;rcases mem_cons.mp h with e | e
     ·exact mem_cons.mpr (.inl e)
     ·exact ybx _ (i2 g e)
theorem iM (f:Str) (v:V):∀fs:List (Str×V),(d9 f v fs).length<=fs.length+1
 | []=>by simp[d9]
 | (k,x)::r=>by
   have ih:=iM f v r;rw[show d9 f v ((k,x)::r)=(if k=f then (k,v)::r else (k,x)::d9 f v r) from rfl]
   by_cases hk:k=f
   ·rw[ycv hk,length_cons,length_cons];lia
   ·rw[ycw hk,length_cons,length_cons];lia
theorem fE.some_of {v:V} {o:Option Value} (r:fE (some v) o):∃u,o=some u/\bd v u:=by
 cases o with
 | none=>exact(show False from r).elim
 | some u=>exact⟨u,rfl,r⟩
theorem fE.none_of {o:Option Value} (r:fE none o):o=none:=by
 cases o with
 | none=>rfl
 | some u=>exact(show False from r).elim
theorem rP {v:V} (r:bd v u):PySem.W.handedIn u=true:=by
 cases v with
 | non=>cases (show u=Value.none from r);rfl
 | bl b=>cases (show u=Value.bool b from r);rfl
 | int i=>obtain⟨t,e⟩:=(show ∃t,u=Value.int i t from r);cases e;rfl
 | str x=>obtain⟨t,e⟩:=(show ∃t,u=Value.str x t from r);cases e;rfl
 | byt b=>obtain⟨t,e⟩:=(show ∃t,u=Value.bytes b t from r);cases e;rfl
 | flt b=>obtain⟨t,e⟩:=(show ∃t,u=Value.float b t from r);cases e;rfl
 | ref a=>cases (show u=Value.ref a from r);rfl
 | ty n=>cases (show u=Value.type n from r);rfl
section
variable {P:Program} {w:World} {H H':Hp} {h h':Heap} {a C dx:Addr} {fs fs':List (Str×V)}
theorem jc (hok:fG P w H h) (e:H a=some (.ins C dx fs)):∃mA,oO h a dx C mA/\(∀f,fE (fs.lookup f) (mA f))/\PySem.Within mA (fs.map (·.1))/\fs.length<=1000/\H dx=some (.own a):=by
 obtain⟨d,z,ne,ob,mA,n,r,q⟩:=(show bG P w H h a (.ins C dx fs) from hok a _ e);exact⟨mA,⟨ob,n,ne⟩,r,q,z,d⟩
end
structure dr (K:yav) (C:Addr):Prop where
 pg:plainGet K C Str.empty=true
 hd:hasDictIn K C=true
 po:plainOver K C=true
 sa:findIn K (.ref C) "__setattr__"=some (some (.builtin "object.__setattr__"))
theorem dr.get {C:Addr} (c:dr K C) (f:Str):plainGet K C f=true:=c.pg
def aD (K:yav) (C:Addr) (f:Str):Prop:=findIn K (.ref C) f=some none
theorem aD.taker {C:Addr} {f:Str} (n:aD K C f):PySem.W.takerIn K C f=some none:=by
 unfold PySem.W.takerIn;rw[show findIn K (.ref C) f=some none from n]
 rfl
structure HX (K:yav) (C:Addr) (f:Str) (v:V) (u:Value):Prop where
 at_:findIn K (.ref C) f=some (some u)
 rel:bd v u
 get:PySem.W.specialIn K u "__get__"=some none
 cp:PySem.W.copiedNames.contains f=false
structure rQ (K:yav) (C:Addr) (m:Str) (f:Addr):Prop where
 at_:findIn K (.ref C) m=some (some (.ref f))
 fn:isFn K (.ref f)=true
 kp:keepIn K (.ref f)=true
section
variable {X:Cx} {π:List (Addr×Obj)} {σ:St} {H:Hp} {s:Shared} {a C dx:Addr} {fs:List (Str×V)} {f:Str} {v:V} {A:Around} {E:yey}
theorem oP {b:Bool} (I:aF X π σ H s) (e:H a=some (.ins C dx fs)) (c:dr X.K C) (n:aD X.K C f) (l:fs.lookup f=some v)
 (h:∀u s',aF X π σ H s'->bd v u->Q u s'):wpAny (model X.prog X.w) A (getAttr (.ref a) f b) Q E s:=by
 obtain⟨mA,O,r,_,_,_⟩:=jc I.hok e;obtain⟨u,hu,ru⟩:=fE.some_of (v:=v) (o:=mA f) (by rw[←l];exact r f);exact wK I.kIn O (c.get f) c.hd n hu (rP ru) (h u _ (I.tok _) ru)
theorem jq {m:Str} {g:Addr} {pl:Sem Bool} {Q:Value×List Value->Shared->Prop} (I:aF X π σ H s) (e:H a=some (.ins C dx fs)) (c:dr X.K C) (k:rQ X.K C m g) (l:fs.lookup m=none)
 (h:Q (.ref g,[.ref a]) s):wpAny (model X.prog X.w) A (getMethod (.ref a) m pl) Q E s:=by
 obtain⟨mA,O,r,_,_,_⟩:=jc I.hok e;have hn:mA m=none:=fE.none_of (by rw[←l];exact r m);exact sU I.kIn O (c.get m) k.at_ k.fn hn h
theorem oQ {y:V} {Q:Unit->Shared->Prop} (I:aF X π σ H s) (e:H a=some (.ins C dx fs)) (c:dr X.K C) (n:aD X.K C f) (hl:fs.length<1000) (ry:bd y u)
 (h:∀s',aF X π σ (upd H a (.ins C dx (d9 f y fs))) s'->Q () s'):wpAny (model X.prog X.w) A (setAttr (.ref a) f u) Q E s:=by
 obtain⟨mA,O,r,wi,_,ho⟩:=jc I.hok e;have hz:(fs.map (·.1)).length<=sizeLine:=by rw[length_map,sizeLine_eq];lia
 refine wL I.kIn O c.sa c.po n.taker c.hd wi hz λh' O' sb=>h _ ?_;have hd:∃o,h'.get? dx=some o:=let ⟨o,_,_,e',_⟩:=O'.ns;⟨o,e'⟩;refine I.write (x:=a) (e:=dx) (by rw[e];exact True.intro) (.inr ho) (λb q hb z=>(sb.2 b hb).trans z) hd ?_;refine⟨by rw[aH O.ne];exact ho,?_,O.ne,O'.obj,_,O'.ns,λg=>?_,λg hg=>?_⟩
 ·have:=iM f y fs;lia
 ·show fE ((d9 f y fs).lookup g) (if g=f then some u else mA g);rw[iL]
  by_cases q:g=f
  ·rw[ycv q,ycv q];exact ry
  ·rw[ycw q,ycw q];exact r g
 ·by_cases q:g=f
  ·rw[q];exact(ia f y fs).1
  ·refine(ia f y fs).2 g (wi g λz=>hg ?_);show(if g=f then some u else mA g)=none;rw[ycw q];exact z
theorem aF.made (I:aF X π σ H s):aF X π σ (upd (upd H s.heap.objs.size (.own (s.heap.objs.size+1))) (s.heap.objs.size+1) (.ins C s.heap.objs.size []))
 { s with heap:=(s.heap.push emptyDict).push (instObj C s.heap.objs.size) }:=by
 have e1:(s.heap.push emptyDict).get? s.heap.objs.size=some emptyDict:=ybw s.heap rfl;have e2:((s.heap.push emptyDict).push (instObj C s.heap.objs.size)).get? (s.heap.objs.size+1)=some (instObj C s.heap.objs.size):=by
  have:=ybw (s.heap.push emptyDict) (o:=instObj C s.heap.objs.size) rfl
  rwa [Heap.size_push] at this
 have e3:(s.heap.push emptyDict).Ns s.heap.objs.size (λ_=>none):=⟨emptyDict,#[],_,e1,rfl,(λe he=>absurd he (by simp)),λ_=>rfl⟩;have I1:=I.laid (a:=s.heap.objs.size) (o:= .own (s.heap.objs.size+1)) (h':=s.heap.push emptyDict) (t':=s.toks) (λb u q=>ybz _ q) (ycx _) ⟨_,e1⟩;refine I1.laid (a:=s.heap.objs.size+1) (o:= .ins C s.heap.objs.size []) (t':=s.toks) (λb u q=>ybz _ q) (Nat.le_of_eq (Heap.size_push _ _)) ?_;have ne:s.heap.objs.size≠s.heap.objs.size+1:=ne_of_lt (Nat.lt_succ_self _);refine⟨by rw[aH ne,aZ],zero_le _,ne,e2,λ_=>none,(Heap.Ns1.of_empty e3).at λo q=>ybz _ q,λ_=>True.intro,λy hy=>absurd rfl hy⟩
theorem wM {env:Env} {f:Str} (hb:attributeBase e f env (eval e env)=eval e env)
 (h:wpAny (model prog w) A (eval e env) (λo s₁=>wpAny (model prog w) A (getAttr o f true) Q E s₁) E s):wpAny (model prog w) A (eval (.Attribute e f pos) env) Q E s:=
 Attribute_any_ h (by rw[arm_eval_Attribute,hb])
end
def EM (K:yav) (ta:TE) (f:Str):TE:=λσ H Q=>ta σ H λx H1=>∃a C dx fs v,x=.ref a/\H1 a=some (.ins C dx fs)/\dr K C/\aD K C f/\fs.lookup f=some v/\Q v H1
def EN (K:yav) (ta tv:TE) (f:Str):TS:=λD σ H=>tv σ H λy H1=>ta σ H1 λx H2=>∃a C dx fs,x=.ref a/\H2 a=some (.ins C dx fs)/\dr K C/\aD K C f/\fs.length<1000/\
 D.nx σ (upd H2 a (.ins C dx (d9 f y fs)))
section
variable {X:Cx} {o e value:Expr} {f:Str} {pos pos' tpos:Pos} {ta tv:TE}
theorem Aj (he:PE X e ta) (hb:attributeBase e f X.env (eval e X.env)=eval e X.env):PE X (.Attribute e f pos) (EM X.K ta f):=by
 intro π s σ H Q I h;refine wM hb (bU (he π s σ H _ I h) λu s1 z9=>?_);obtain⟨x,H1,I1,rx,a,C,dx,fs,v,ex,ea,c,n,l,q⟩:=z9;subst ex;obtain rfl:u=Value.ref a:=rx;exact oP I1 ea c n l λu' s2 I2 ru=>⟨v,H1,I2,ru,q⟩
theorem Ak (ha:PE X o ta) (hv:PE X value tv) (hs:swapsWith value (some (.Attribute o f pos')) pos.line X.env=pure false):PS X (.Assign [.Attribute o f pos'] value pos) (EN X.K ta tv f):=by
 intro π s σ H D I h;refine plainObj_wpAny_Assign_Attribute (bU (hv π s σ H _ I h) λu s1 ⟨y,H1,I1,ry,q⟩=>bU (ha π s1 σ H1 _ I1 q) λov s2 z9=>?_) hs;obtain⟨x,H2,I2,rx,a,C,dx,fs,ex,ea,c,n,l,q2⟩:=z9;subst ex;obtain rfl:ov=Value.ref a:=rx;exact oQ I2 ea c n l ry λs3 I3=>⟨σ,_,I3,q2⟩
end
section
variable {X:Cx} {π:List (Addr×Obj)} {σ:St} {H:Hp} {s:Shared} {A:Around} {E:yey} {Q:yey} {c:Value} {b:Bool}
inductive ib (K:yav) (H:Hp):V->Value->Prop where
 | non:ib K H .non (.type "NoneType")
 | bl (x:Bool):ib K H (.bl x) (.type "bool")
 | int (i:Int):ib K H (.int i) (.type "int")
 | str (x:Str):ib K H (.str x) (.type "str")
 | flt (x:UInt64):ib K H (.flt x) (.type "float")
 | lst {a:Addr} {xs:List V} (e:H a=some (.lst xs)):ib K H (.ref a) (.type "list")
 | frz {a:Addr} {o:Obj} {xs:List V} (e:H a=some (.frz o (.lst xs))):ib K H (.ref a) (.type "list")
 | tup {a:Addr} {xs:List V} (e:H a=some (.tup xs)):ib K H (.ref a) (.type "tuple")
 | dK {a:Addr} {kvs:List (aK×V)} (e:H a=some (.dK kvs)):ib K H (.ref a) (.type "dict")
 | dT {a:Addr} {kvs:List (List aK×V)} (e:H a=some (.dT kvs)):ib K H (.ref a) (.type "dict")
 | ins {a C dx:Addr} {fs:List (Str×V)} (e:H a=some (.ins C dx fs)) (cl:dr K C) (ha:findIn K (.ref C) "__class__"=some (some (.builtin "object.__class__")))
    (hn:PySem.W.specialIn K (.builtin "object.__class__") "__get__"=some (some (.builtin "getset_descriptor.__get__"))) (htk:PySem.W.takesIn K (.builtin "object.__class__")=some true)
    (hm:mroIn K C (.type "object")=some true):ib K H (.ref a) (.ref C)
theorem kB {x:V} {u t:Value} (I:aF X π σ H s) (rx:bd x u) (ty:ib X.K H x t) (e:PySem.W.kitOne X.K t c=some b) (h:∀tk,Q (.bool b) { s with toks:=tk }):
 wpAny (model X.prog X.w) A (call (.builtin "isinstance") [u,c]) Q E s:=by
 cases ty with
 | non=>cases (show u=Value.none from rx);exact kia_one PySem.W.kitx_none I.kIn True.intro e (λz=>nomatch z) h
 | bl y=>cases (show u=Value.bool y from rx);exact kia_one PySem.W.kitx_bool I.kIn True.intro e (λz=>nomatch z) h
 | int i=>obtain⟨t,q⟩:=(show ∃t,u=Value.int i t from rx);cases q;exact kia_one PySem.W.kitx_int I.kIn True.intro e (λz=>nomatch z) h
 | str y=>obtain⟨t,q⟩:=(show ∃t,u=Value.str y t from rx);cases q;exact kia_one PySem.W.kitx_str I.kIn True.intro e (λz=>nomatch z) h
 | flt y=>obtain⟨t,q⟩:=(show ∃t,u=Value.float y t from rx);cases q;exact kia_one PySem.W.kitx_float I.kIn True.intro e (λz=>nomatch z) h
 | @lst a xs ea=>
   cases (show u=Value.ref a from rx);obtain⟨_,_,n,_,h1⟩:=(show bG X.prog X.w H s.heap a (.lst xs) from I.hok a _ ea);exact kia_one PySem.W.kitx_list I.kIn ⟨_,h1,rfl⟩ e (λz=>nomatch z) h
 | @frz a ob xs ea=>
   cases (show u=Value.ref a from rx);obtain⟨_,_,_,n,_,h1⟩:=(show bG X.prog X.w H s.heap a (.frz ob (.lst xs)) from I.hok a _ ea);exact kia_one PySem.W.kitx_list I.kIn ⟨_,h1,rfl⟩ e (λz=>nomatch z) h
 | @tup a xs ea=>
   cases (show u=Value.ref a from rx);obtain⟨_,_,_,p⟩:=(show bG X.prog X.w H s.heap a (.tup xs) from I.hok a _ ea);obtain⟨o,h1,h2,_⟩:=p;exact kia_one PySem.W.kitx_tuple I.kIn ⟨o,h1,h2⟩ e (λz=>nomatch z) h
 | @dK a kvs ea=>
   cases (show u=Value.ref a from rx);obtain⟨_,_,vs,_,p⟩:=(show bG X.prog X.w H s.heap a (.dK kvs) from I.hok a _ ea);obtain⟨o,es,ep,h1,h2,_⟩:=p;exact kia_one PySem.W.kitx_dict I.kIn ⟨o,h1,h2.1⟩ e (λz=>nomatch z) h
 | @dT a kvs ea=>
   cases (show u=Value.ref a from rx);obtain⟨_,_,xs,_,o,es,ep,h1,h2,_⟩:=(show bG X.prog X.w H s.heap a (.dT kvs) from I.hok a _ ea);exact kia_one PySem.W.kitx_dict I.kIn ⟨o,h1,h2.1⟩ e (λz=>nomatch z) h
 | @ins a C dx fs ea cl ha hn htk hm=>
   cases (show u=Value.ref a from rx);obtain⟨mA,O,_⟩:=jc I.hok ea;obtain⟨od,J,_⟩:=O.look;exact kia_one (PySem.W.kitx_own (cl.get _) cl.hd ha hn htk hm) I.kIn J e (λz=>nomatch z) h
end
structure aB (k:Nat) (A:Around):Prop where
 hd:A.handled=none
 dp:A.depth+3*k+5<recursionLimit
 un:A.units+16*k+200<cLine
theorem aB.mono {j k:Nat} (r:aB k A) (h:j<=k):aB j A:=⟨r.hd,by have:=r.dp;lia,by have:=r.un;lia⟩
theorem aB.deeper (r:aB (k+1) A) (env:Env):aB k (A.deeper env):=
 ⟨r.hd,by have:=r.dp;show A.depth+1+3*k+5<_;lia,by have:=r.un;show A.units+3+16*k+200<_;lia⟩
theorem oS {C:Addr} {kw:List (Str×Value)}:(A.under (.builtin "type.__call__" ⟨.ref C::us,kw⟩)).depth=A.depth+1:=by
 first | rfl | simp[Around.under,Code.weight,Code.isCreation,Code.isGuard,Code.isCaller,Code.frames,Code.isFrame,guardIds]
theorem oU {C:Addr} {kw:List (Str×Value)}:(A.under (.builtin "type.__call__" ⟨.ref C::us,kw⟩)).units=A.units+1:=by
 first | rfl | simp[Around.under,Code.cUnits,Code.frames,Code.isFrame]
theorem aB.make (r:aB (k+1) A) (C:Addr) (us:yez) (kw:List (Str×Value)):aB k (A.under (.builtin "type.__call__" ⟨.ref C::us,kw⟩)):=
 ⟨r.hd,by have:=r.dp;rw[oS];lia,by have:=r.un;rw[oU];lia⟩
theorem aB.depth (r:aB k A):A.depth<recursionLimit:=by have:=r.dp;lia
def sW:TA:=λ_ H Q=>Q [] H
def mP (ta:TE) (tr:TA):TA:=λσ H Q=>ta σ H λx H1=>tr σ H1 λxs H2=>Q (x::xs) H2
section
variable {X:Cx} {e:Expr} {es:List Expr} {te:TE} {t:TA} {pos:Pos}
theorem pa_nil:PA X [] sW:=λ_ _ _ _ H Q I h=>Calls.spliced_nil ⟨[],H,I,.nil,h⟩
theorem cA (ha:PE X e te) (hr:PA X es t) (hs:starEach (e::es) X.env=(false,eval e X.env)::starEach es X.env:=by rfl):PA X (e::es) (mP te t):=by
 intro pos π s σ H Q I h;rw[hs];show wpAny _ _ (spliced ((false,eval e X.env)::backTo pos (starEach es X.env))) _ _ s;refine Calls.spliced_cons (bU (ha π s σ H _ I h) λu s1 z9=>?_);obtain⟨x,H1,I1,r1,q1⟩:=z9;exact bU (hr pos π s1 σ H1 _ I1 q1) λus s2 ⟨xs,H2,I2,r2,q2⟩=>⟨x::xs,H2,I2,.cons r1 r2,q2⟩
def EO (t:TA):TE:=λσ H Q=>t σ H λxs H1=>xs.length<=sizeLine/\∀p,H1 p=none->Q (.ref p) (upd H1 p (.tup xs))
def EQ (t:TA):TE:=λσ H Q=>t σ H λxs H1=>xs.length<=sizeLine/\∀p,H1 p=none->Q (.ref p) (upd H1 p (.lst xs))
theorem Al {x1} (h:PA X es t):PE X (.Tuple es x1 pos) (EO t):=by
 intro π s σ H Q I hq;refine wpAny_Tuple_spliced (bU (h pos π s σ H _ I hq) λus s1 ⟨xs,H1,I1,r,z,q⟩=>⟨by rw[←r.length];exact z,?_⟩);have hf:H1 s1.heap.objs.size=none:=I1.hok.fresh (ycx _);refine⟨.ref s1.heap.objs.size,upd H1 s1.heap.objs.size (.tup xs),I1.laid (t':=s1.toks) (λb u e=>ybz _ e) (ycx _) ?_,rfl,q _ hf⟩;exact⟨z,us,r,⟨_,ybw _ rfl,rfl,_,rfl⟩⟩
theorem An (h:PA X es t):PE X (.List es pos) (EQ t):=by
 intro π s σ H Q I hq;refine wpAny_List_spliced (bU (h pos π s σ H _ I hq) λus s1 ⟨xs,H1,I1,r,z,q⟩=>⟨by rw[←r.length];exact z,?_⟩);have hf:H1 s1.heap.objs.size=none:=I1.hok.fresh (ycx _);refine⟨.ref s1.heap.objs.size,upd H1 s1.heap.objs.size (.lst xs),I1.laid (t':=s1.toks) (λb u e=>ybz _ e) (ycx _) ?_,rfl,q _ hf⟩;exact⟨z,us,0,r,ybw _ rfl⟩
end
abbrev Sp:=List V->Hp->VK->XK->Prop
abbrev oV:=List Env->Hp->Shared->XK->Value->Shared->Prop
structure mQ (P:Program) (w:World) (K:yav) (mg:yew) (base:Heap) (A:Around) (outer:List Env) (s:Shared) (H:Hp):Prop where
 frames:A.frames=some outer
 mod:Mod K mg base
 bs:∀b o,base.get? b=some o->s.heap.get? b=some o/\H b=none
 bsz:base.objs.size<=s.heap.objs.size
 funs:s.heap.FunFrames base outer
 frf:∀b∈eC outer,H b=none
 hok:fG P w H s.heap
 bare:AllBare s.gens
def CE (outer:List Env) (P:Program) (w:World) (H:Hp) (s:Shared) (Q:VK) (u:Value) (s':Shared):Prop:=
 ∃v H',s'.os=s.os/\AllBare s'.gens/\Un (eC outer) [] H H' s.heap s'.heap/\fG P w H' s'.heap/\bd v u/\Q v H'
def CR (CX:oV) (outer:List Env) (P:Program) (w:World) (H:Hp) (s:Shared) (Q:VK) (E:XK) (r:Result) (s':Shared):Prop:=
 match r with
 | .ok (.ret u)=>CE outer P w H s Q u s'
 | .ok _=>False
 | .error e=>CX outer H s E e s'
structure dR (P:Program) (w:World) (K:yav) (mg:yew) (base:Heap) (CX:oV) (k:Nat) (f:Addr) (fd:FuncData) (ps:List Str) (sp:Sp):Prop where
 len:∀vs H Q E,sp vs H Q E->vs.length=ps.length
 run:∀(A:Around) (outer:List Env) (s:Shared) (H:Hp) (args:Args) (us:yez) (vs:List V) (Q:VK) (E:XK),aB k A->mQ P w K mg base A outer s H->BindsTo s fd args (ps.zip us)->aU vs us->sp vs H Q E->
  codeAny (model P w) A (.call (.ref f) args) (CR CX outer P w H s Q E) s
theorem dR.mono {CX:oV} {j k:Nat} {f:Addr} {sp:Sp} (F:dR P w K mg base CX j f fd ps sp) (h:j<=k):
 dR P w K mg base CX k f fd ps sp:=⟨F.len,λA outer s H args us vs Q E hr=>F.run A outer s H args us vs Q E (hr.mono h)⟩
theorem dR.imp {CX:oV} {f:Addr} {sp sp':Sp} (F:dR P w K mg base CX k f fd ps sp)
 (h:∀vs H Q E,sp' vs H Q E->sp vs H Q E):dR P w K mg base CX k f fd ps sp':=
 ⟨λvs H Q E q=>F.len vs H Q E (h _ _ _ _ q),λA outer s H args us vs Q E hr he hb hv hs=>F.run A outer s H args us vs Q E hr he hb hv (h _ _ _ _ hs)⟩
theorem mQ.make {outer:List Env} {H:Hp} (e:mQ P w K mg base A outer s H) (C:Addr) (us:yez) (kw:List (Str×Value)):
 mQ P w K mg base (A.under (.builtin "type.__call__" ⟨.ref C::us,kw⟩)) outer s H:=⟨by first | exact e.frames | (simpa[Around.under,Code.envs,Code.isFrame,pushEnvs] using e.frames),e.mod,e.bs,e.bsz,e.funs,e.frf,e.hok,e.bare⟩
section
variable {X:Cx} {π:List (Addr×Obj)} {σ:St} {H:Hp} {s s':Shared}
theorem aF.env0 (I:aF X π σ H s):mQ X.prog X.w X.K X.mg X.base X.A X.stack s H:=
 ⟨I.ok.frames,I.ok.mod,I.bs,ycy I.ok.bsz I.sz,I.stack,I.stkFree,I.hok,I.bare⟩
theorem aF.after {Q:VK} (I:aF X π σ H s) (h:CE X.stack X.prog X.w H s Q u s'):EP X π σ Q u s':=by
 obtain⟨v,H',os,bare,un,hok,r,q⟩:=h;obtain⟨hh,g,d,t,os'⟩:=s';obtain rfl:os'=s.os:=os;exact⟨v,H',I.call (h':=hh) (g':=g) (d':=d) (t':=t) (ch:=[]) un hok bare (λb z=>absurd z (by simp)),r,q⟩
end
def sX (sp:Sp) (dvs:List V) (E:XK) (t:TA):TE:=λσ H Q=>t σ H λvs H1=>sp (vs++dvs) H1 Q E
def sY (C:Addr) (m:Str) (sp:Sp) (dvs:List V) (E:XK) (ta:TE) (t:TA):TE:=λσ H Q=>ta σ H λx H1=>∃a dx fs,x=.ref a/\H1 a=some (.ins C dx fs)/\fs.lookup m=none/\
 t σ H1 λvs H2=>sp (x::(vs++dvs)) H2 Q E
def yO (C:Addr) (sp:Sp) (dvs:List V) (E:XK) (t:TA):TE:=λσ H Q=>t σ H λvs H1=>∀x dx,H1 x=none->H1 dx=none->dx≠x->
 sp (.ref x::(vs++dvs)) (upd (upd H1 dx (.own x)) x (.ins C dx [])) (λv H2=>v=.non/\Q (.ref x) H2) E
def bM (K:yav) (fd:FuncData) (ps:List Str) (ds:yez):Prop:=
 ∀(s:Shared) (us:yez),K.In s.heap->(us++ds).length=ps.length->BindsTo s fd ⟨us,[]⟩ (ps.zip (us++ds))
theorem bM.all (h:∀us:List Value,us.length=ps.length->bindArgs fd ⟨us,[]⟩=pure (ps.zip us)):bM K fd ps []:=λs us _ hl=>by
 rw[append_nil] at hl ⊢;exact .of_eq (h us hl)
def eF (CX:oV) (X:Cx) (E:XK):Prop:=∀(π:List (Addr×Obj)) (σ:St) (H:Hp) (s:Shared) (e:Value) (s':Shared),aF X π σ H s->CX X.stack H s E e s'->X.xe e s'
section
variable {X:Cx} {CX:oV} {k:Nat} {f C:Addr} {fd:FuncData} {ps:List Str} {sp:Sp} {dvs:List V} {ds:yez} {E:XK} {x m:Str} {p pos apos:Pos} {e o:Expr} {es:List Expr} {ta:TE} {t:TA}
theorem lC {σ:St} {H:Hp} {Q:VK} {vs:List V} (F:dR X.prog X.w X.K X.mg X.base CX k f fd ps sp) (hr:aB k X.A) (hb:bM X.K fd ps ds) (hd:aU dvs ds) (hx:eF CX X E)
 (I:aF X π σ H s) (r:aU vs us) (h:sp (vs++dvs) H Q E):wpAny (model X.prog X.w) X.A (call (.ref f) us) (EP X π σ Q) X.xe s:=by
 have r2:aU (vs++dvs) (us++ds):=r.append hd;have hl:(us++ds).length=ps.length:=by rw[←r2.length];exact F.len _ _ _ _ h
 refine wpAny_call (codeAny_mono (F.run X.A X.stack s H ⟨us,[]⟩ (us++ds) (vs++dvs) Q E hr I.env0 (hb s us I.kIn hl) r2 h) λr s' hq=>?_);cases r with
 | error e=>exact hx π σ H s e s' I hq
 | ok fl=>
   cases fl with
   | ret u=>exact I.after hq
   | next=>exact False.elim hq
   | brk=>exact False.elim hq
   | cont=>exact False.elim hq
theorem p5 (F:dR X.prog X.w X.K X.mg X.base CX k f fd ps sp) (hr:aB k X.A) (hg:Gl X x) (hm:X.mg x=some (.ref f)) (hk:keepIn X.K (.ref f)=true) (hb:bM X.K fd ps ds) (hd:aU dvs ds) (hx:eF CX X E)
 (ha:PA X (e::es) t) (hdb:(x==("__debug__":Str))=false:=by decide) (he:starEach (e::es) X.env=(false,eval e X.env)::starEach es X.env:=by rfl) (hpl:(backTo pos (starEach es X.env)).any (·.1)=false:=by rfl):
 PE X (.Call (.Name x p) (e::es) [] pos) (sX sp dvs E t):=by
 intro π s σ H Q I h;refine wpAny_Call_Name_kw (fq I hg hm ?_ hdb);refine callWith_K (h₀:=X.base) I.ok.mod.kin hk (bU (ha pos π s σ H _ I h) λus s1 ⟨vs,H1,I1,r,q⟩=>⟨I1.kIn,?_⟩) he hpl;exact lC F hr hb hd hx I1 r q
theorem sZ (F:dR X.prog X.w X.K X.mg X.base CX k f fd ps sp) (hr:aB k X.A) (hg:Gl X x) (hm:X.mg x=some (.ref f)) (hk:keepIn X.K (.ref f)=true) (hb:bM X.K fd ps ds) (hd:aU dvs ds) (hx:eF CX X E)
 (hdb:(x==("__debug__":Str))=false:=by decide):PE X (.Call (.Name x p) [] [] pos) (sX sp dvs E sW):=by
 intro π s σ H Q I h;refine wpAny_Call_Name_kw (fq I hg hm ?_ hdb);exact PySem.W.callWith_K0 I.kIn hk (lC (us:=[]) F hr hb hd hx I .nil h)
theorem p6 {pl:Sem Bool} (he:PE X o ta) (c:dr X.K C) (hm:rQ X.K C m f) (F:dR X.prog X.w X.K X.mg X.base CX k f fd ps sp) (hr:aB k X.A) (hb:bM X.K fd ps ds) (hd:aU dvs ds) (hx:eF CX X E) (ha:PA X (e::es) t)
 (hst:starEach (e::es) X.env=(false,eval e X.env)::starEach es X.env:=by rfl) (hpl:(backTo pos (starEach es X.env)).any (·.1)=false:=by rfl)
 (ht:eval (.Call (.Attribute o m apos) (e::es) [] pos) X.env=(do
   let ov ←eval o X.env
   standAt apos.atName
   let (f,first) ←holding [ov] (getMethod ov m pl)
   callWith pos f first (backTo pos (starEach (e::es) X.env)) (backToKw pos (keywordEach [] X.env))):=by rfl):
 PE X (.Call (.Attribute o m apos) (e::es) [] pos) (sY C m sp dvs E ta t):=by
 intro π s σ H Q I h;refine PySem.W.methodCall_KW (pl:=pl) (bU (he π s σ H _ I h) λu s1 z9=>?_) ht;obtain⟨x,H1,I1,rx,a,dx,fs,ex,ea,l,q⟩:=z9;subst ex;obtain rfl:u=Value.ref a:=rx;refine jq I1 ea c hm l ?_;refine callWith_K (first:=[.ref a]) (h₀:=X.base) I.ok.mod.kin hm.kp (bU (ha pos π s1 σ H1 _ I1 q) λus s2 ⟨vs,H2,I2,r,q2⟩=>⟨I2.kIn,?_⟩) hst hpl;exact lC (us:= .ref a::us) (vs:= .ref a::vs) F hr hb hd hx I2 (.cons rfl r) q2
theorem tf {pl:Sem Bool} (he:PE X o ta) (c:dr X.K C) (hm:rQ X.K C m f) (F:dR X.prog X.w X.K X.mg X.base CX k f fd ps sp) (hr:aB k X.A) (hb:bM X.K fd ps ds) (hd:aU dvs ds) (hx:eF CX X E)
 (ht:eval (.Call (.Attribute o m apos) [] [] pos) X.env=(do
   let ov ←eval o X.env
   standAt apos.atName
   let (f,first) ←holding [ov] (getMethod ov m pl)
   callWith pos f first (backTo pos (starEach [] X.env)) (backToKw pos (keywordEach [] X.env))):=by rfl):
 PE X (.Call (.Attribute o m apos) [] [] pos) (sY C m sp dvs E ta sW):=by
 intro π s σ H Q I h;refine PySem.W.methodCall_KW (pl:=pl) (bU (he π s σ H _ I h) λu s1 z9=>?_) ht;obtain⟨x,H1,I1,rx,a,dx,fs,ex,ea,l,q⟩:=z9;subst ex;obtain rfl:u=Value.ref a:=rx;refine jq I1 ea c hm l ?_;exact PySem.W.callWith_K0 (first:=[.ref a]) I1.kIn hm.kp (lC (us:=[.ref a]) (vs:=[.ref a]) F hr hb hd hx I1 (.cons rfl .nil) q)
structure Mk (K:yav) (C f:Addr):Prop where
 makes:makesIn K C=true
 init:findIn K (.ref C) "__init__"=some (some (.ref f))
 fn:isFn K (.ref f)=true
 kp:keepIn K (.ref C)=true
theorem tj {σ:St} {H:Hp} {Q:VK} {vs:List V} (M:Mk X.K C f) (F:dR X.prog X.w X.K X.mg X.base CX k f fd ps sp) (hr:aB (k+1) X.A) (hb:bM X.K fd ps ds) (hd:aU dvs ds)
 (hx:eF CX X E) (I:aF X π σ H s) (r:aU vs us)
 (h:∀x dx,H x=none->H dx=none->dx≠x->sp (.ref x::(vs++dvs)) (upd (upd H dx (.own x)) x (.ins C dx [])) (λv H2=>v=.non/\Q (.ref x) H2) E):
 wpAny (model X.prog X.w) X.A (call (.ref C) us) (EP X π σ Q) X.xe s:=by
 have hq:=h (s.heap.objs.size+1) s.heap.objs.size (I.hok.fresh (le_succ _)) (I.hok.fresh (ycx _)) (ne_of_lt (Nat.lt_succ_self _));have I2:=aF.made (C:=C) I;have r2:aU (V.ref (s.heap.objs.size+1)::(vs++dvs)) (Value.ref (s.heap.objs.size+1)::(us++ds)):= .cons rfl (r.append hd);have hl:(Value.ref (s.heap.objs.size+1)::us++ds).length=ps.length:=by
  have e:=r2.length;rw[F.len _ _ _ _ hq] at e;exact e.symm
 refine wpAny_call (sV (f:=f) I.kIn M.makes M.init (beq_iff_eq.mp M.fn) (codeAny_mono (F.run _ X.stack _ _ ⟨Value.ref (s.heap.objs.size+1)::us,[]⟩ (Value.ref (s.heap.objs.size+1)::(us++ds)) _ _ E (hr.make C us [])
  (I2.env0.make C us []) (hb _ (Value.ref (s.heap.objs.size+1)::us) I2.kIn hl) r2 hq) λr s' hq'=>?_))
 cases r with
 | error e=>exact hx π σ _ _ e s' I2 hq'
 | ok fl=>
   cases fl with
   | ret u=>
     obtain⟨v,H',I3,rv,ev,q3⟩:=I2.after hq';subst ev;exact⟨rv,⟨V.ref (s.heap.objs.size+1),H',I3,rfl,q3⟩⟩
   | next=>exact False.elim hq'
   | brk=>exact False.elim hq'
   | cont=>exact False.elim hq'
theorem wN (M:Mk X.K C f) (F:dR X.prog X.w X.K X.mg X.base CX k f fd ps sp) (hr:aB (k+1) X.A) (hg:Gl X x) (hm:X.mg x=some (.ref C)) (hb:bM X.K fd ps ds) (hd:aU dvs ds) (hx:eF CX X E)
 (ha:PA X (e::es) t) (hdb:(x==("__debug__":Str))=false:=by decide) (he:starEach (e::es) X.env=(false,eval e X.env)::starEach es X.env:=by rfl) (hpl:(backTo pos (starEach es X.env)).any (·.1)=false:=by rfl):
 PE X (.Call (.Name x p) (e::es) [] pos) (yO C sp dvs E t):=by
 intro π s σ H Q I h;refine wpAny_Call_Name_kw (fq I hg hm ?_ hdb);refine callWith_K (h₀:=X.base) I.ok.mod.kin M.kp (bU (ha pos π s σ H _ I h) λus s1 ⟨vs,H1,I1,r,q⟩=>⟨I1.kIn,?_⟩) he hpl;exact tj M F hr hb hd hx I1 r q
end
section
variable {X:Cx} {CX:oV} {k:Nat} {f C:Addr} {fd:FuncData} {ps ks:List Str} {sp:Sp} {E:XK} {x m:Str} {p pos apos kpos:Pos} {e o:Expr} {es:List Expr} {kws:List Keyword} {te ta:TE} {t tk:TA} {nm:Option Str}
structure ER (K:yav) (fd:FuncData) (ps ks:List Str) (g:List Value->List Value->List Value) (gV:List V->List V->List V):Prop where
 to:∀(s:Shared) (us ws:yez),K.In s.heap->(g us ws).length=ps.length->BindsTo s fd ⟨us,ks.zip ws⟩ (ps.zip (g us ws))
 rel:∀{vs:List V} {us:yez} {zs:List V} {ws:yez},aU vs us->aU zs ws->aU (gV vs zs) (g us ws)
variable {g:List Value->List Value->List Value} {gV:List V->List V->List V}
end
structure bV (N P:List Str) (sc:Scope):Prop where
 kind:sc.kind=.function
 co:sc.isCoroutine=false
 gen:sc.isGenerator=false
 nd:N.Nodup
 pre:N.take P.length=P
 par:∀x∈P,sc.names.lookup x=some .local∨sc.names.lookup x=some .cell
 nofree:∀y∈sc.names,y.2≠ .free
theorem kC {kindOf:Str->Option NameKind} {x:Str}:∀{binds:List (Str×Value)} {m:yew},(∀v,(x,v)∉binds)->bindL kindOf binds m x=m x
 | [],_,_=>rfl
 | (n,v)::r,m,h=>by
   unfold bindL;rw[kC λw hw=>h w (ybx _ hw)];split
   ·have:x≠n:=by rintro rfl;exact h v yby
    simp[this]
   ·rfl
theorem kD {kindOf:Str->Option NameKind} {x:Str}:∀{binds:List (Str×Value)} {m:yew},(∀v,(x,v)∉binds)->bindC kindOf binds m x=m x
 | [],_,_=>rfl
 | (n,v)::r,m,h=>by
   unfold bindC;rw[kD λw hw=>h w (ybx _ hw)];split
   ·rfl
   ·have:x≠n:=by rintro rfl;exact h v yby
    simp[this]
theorem kE {kindOf:Str->Option NameKind} {x:Str} {v:Value}:∀{P:List Str} {vs:yez} {i:Nat} {m:yew},P.Nodup->P[i]?=some x->vs[i]?=some v->kindOf x=some .local->
 bindL kindOf (P.zip vs) m x=some v
 | [],_,_,_,_,h,_,_=>by simp at h
 | _::_,[],_,_,_,_,h,_=>by simp at h
 | p::P,w::vs,0,m,nd,h1,h2,hk=>by
   simp at h1 h2;subst h1;subst h2;show bindL kindOf ((p,w)::P.zip vs) m p=_;unfold bindL;rw[kC λv hv=>(nodup_cons.mp nd).1 (List.of_mem_zip hv).1,ycv hk];simp
 | p::P,w::vs,i+1,m,nd,h1,h2,hk=>by
   show bindL kindOf ((p,w)::P.zip vs) m x=_;unfold bindL;exact kE (i:=i) (nodup_cons.mp nd).2 (by simpa using h1) (by simpa using h2) hk
theorem kF {kindOf:Str->Option NameKind} {x:Str} {v:Value}:∀{P:List Str} {vs:yez} {i:Nat} {m:yew},P.Nodup->P[i]?=some x->vs[i]?=some v->kindOf x≠some .local->
 bindC kindOf (P.zip vs) m x=some v
 | [],_,_,_,_,h,_,_=>by simp at h
 | _::_,[],_,_,_,_,h,_=>by simp at h
 | p::P,w::vs,0,m,nd,h1,h2,hk=>by
   simp at h1 h2;subst h1;subst h2;show bindC kindOf ((p,w)::P.zip vs) m p=_;unfold bindC;rw[kD λv hv=>(nodup_cons.mp nd).1 (List.of_mem_zip hv).1,ycw hk];simp
 | p::P,w::vs,i+1,m,nd,h1,h2,hk=>by
   show bindC kindOf ((p,w)::P.zip vs) m x=_;unfold bindC;exact kF (i:=i) (nodup_cons.mp nd).2 (by simpa using h1) (by simpa using h2) hk
noncomputable def start (N:List Str) (vs:List V):St:=vs.map some++List.replicate (N.length-vs.length) none
noncomputable def dL (CX:oV) (P:Program) (w:World) (K:yav) (mg:yew) (base:Heap) (N:List Str) (qual:Str) (scope:Scope) (f:Addr) (cd:Value) (A:Around) (outer:List Env) (s:Shared) (H:Hp) (E:XK):Cx where
 prog:=P
 w:=w
 K:=K
 mg:=mg
 base:=base
 A:=A.deeper (envOfC qual scope s.heap.objs.size f cd)
 N:=N
 s₀:=s
 H₀:=H
 env:=envOfC qual scope s.heap.objs.size f cd
 outer:=outer
 stack:=envOfC qual scope s.heap.objs.size f cd::outer
 ex:=[]
 calm:=true
 fn:=λ_=>true
 pn:=[]
 xe:=λe s'=>wpAny (model P w) (A.deeper (envOfC qual scope s.heap.objs.size f cd)) (leaving (envOfC qual scope s.heap.objs.size f cd) e) (λ_ s''=>CX outer H s E e s'') (λe' s''=>CX outer H s E e' s'') s'
theorem mR {sc:Scope} {n:Nat} (h:sc.names.lookup x=some .cell):∃c,(cellsFrom n sc.names []).lookup x=some c:=by
 have q:=PySem.W.cellsFrom_some sc.names n [] (.inl h);exact Option.isSome_iff_exists.mp q
theorem rR {CX:oV} {N ps:List Str} {qual:Str} {f:Addr} {cd:Value} {outer:List Env} {s s1:Shared} {H:Hp} {E:XK} {vs:List V}
 (S:bV N ps scope) (hd:A.handled=none) (e0:mQ P w K mg base A outer s H) (hl:vs.length=ps.length) (r:aU vs us)
 (x:InCallC s s.heap.objs.size (bindL (envOfC qual scope s.heap.objs.size f cd).kindOf (ps.zip us) λ_=>none) (cellsFrom (s.heap.objs.size+1) scope.names []) (bindC (envOfC qual scope s.heap.objs.size f cd).kindOf (ps.zip us) λ_=>none) s1):
 aF (dL CX P w K mg base N qual scope f cd A outer s H E) [] (start N vs) H s1:=by
 have hpl:ps.length<=N.length:=by have:=congrArg List.length S.pre;rw[length_take] at this;lia
 obtain⟨h1,tk,rfl,hk⟩:=x.done;have noA:∀b:Addr,b∉(dL CX P w K mg base N qual scope f cd A outer s H E).ex:=λb z=>absurd (show b∈([]:List Addr) from z) (by simp);refine⟨⟨e0.mod,S.kind,rfl,rfl,ycx _,λy z c h1 h2=>?_,λy hy=>?_,λy c _ h=>?_,λ_=>hd,Around.frames_deeper e0.frames,.inr ⟨rfl,rfl⟩,λb z=>absurd z (noA b),e0.bs,e0.bsz,λb _ _=>noA b,λb z=>absurd z (noA b),e0.funs,e0.frf⟩,
  rfl,e0.bare,Un.kept hk,⟨_,x.toInCall.ns,λi y v h1 h2 h3=>?_⟩,λy c h=>⟨_,x.cell y c h⟩,e0.hok.fresh (ycx _),λy c h=>?_,λp hp=>absurd (show p∈([]:List (Addr×Obj)) from hp) (by simp),e0.hok.kept hk,?_⟩
 ·exact name_of_addr x.apart (PySem.mem_of_lookup h1) (PySem.mem_of_lookup h2)
 ·have hy:scope.names.lookup y=some .cell∨scope.names.lookup y=some .free:=hy;rcases hy with hy | hy
  ·exact mR hy
  ·exact absurd rfl (S.nofree _ (PySem.mem_of_lookup hy))
 ·exact Nat.le_of_lt (x.above y c (PySem.mem_of_lookup h))
 ·have hi:i<vs.length:=by
   unfold start at h2
   by_cases hi:i<vs.length
   ·exact hi
   ·rw[List.getElem?_append_right (by simpa using hi)] at h2;rw[List.getElem?_replicate] at h2;split at h2<;> cases h2
  have ha:vs[i]?=some v:=by
   unfold start at h2;rw[List.getElem?_append_left (by simpa using hi),List.getElem?_map] at h2;cases e:vs[i]? with
   | none=>rw[e] at h2;cases h2
   | some a=>rw[e] at h2;cases h2;rfl
  obtain⟨u,hu,rv⟩:=r.get ha;have hp:ps[i]?=some y:=by
   rw[←S.pre,List.getElem?_take_of_lt (by lia)];exact h1
  have ndP:ps.Nodup:=by rw[←S.pre];exact S.nd.sublist (List.take_sublist _ _)
  refine⟨u,rv,?_⟩;rcases S.par y (List.mem_of_getElem? hp) with k | k
  ·exact .inl ⟨k,kE ndP hp hu k⟩
  ·obtain⟨c,e⟩:=mR (n:=s.heap.objs.size+1) k;refine .inr ⟨.inl k,c,e,?_⟩;have q:=x.cell y c e;rw[kF ndP hp hu (by show scope.names.lookup y≠_;rw[k];decide)] at q;exact q
 ·exact e0.hok.fresh (Nat.le_of_lt (x.above y c (PySem.mem_of_lookup h)))
 ·unfold start;show _=N.length;rw[length_append,length_map,List.length_replicate];lia
theorem p9 {CX:oV} {f:Addr} {name qual:Str} {params:Arguments} {dV kV doc pm cdv ct oc:Value} {an od:Option Addr}
 {osl:Array (Option Value)} {N ps:List Str} {sp:Sp} (lk:K.lookup f=some ⟨oc,od,.func (fnOf name qual params body scope dV kV doc pm an cdv ct),osl⟩) (hcd:codeIn K cdv qual=true) (S:bV N ps scope)
 (len:∀vs H Q E,sp vs H Q E->vs.length=ps.length)
 (hbody:∀(A:Around) (outer:List Env) (s:Shared) (H:Hp) (vs:List V) (Q:VK) (E:XK),aB k (A.deeper (envOfC qual scope s.heap.objs.size f cdv))->sp vs H Q E->
   ∃t,mK (dL CX P w K mg base N qual scope f cdv A outer s H E) body t/\t { nx:=λ_ H'=>Q .non H',rt:=Q } (start N vs) H):
 dR P w K mg base CX (k+1) f (fnOf name qual params body scope dV kV doc pm an cdv ct) ps sp:=by
 refine⟨len,λA outer s H args us vs Q E hr e0 hb r hsp=>?_⟩;have hl:=len _ _ _ _ hsp;have KX:K.In s.heap:=e0.mod.kin.keeps λb o e=>(e0.bs b o e).1;have lim:s.heap.NoLimit:=e0.mod.nolimit.keeps λb o e=>(e0.bs b o e).1;have hkind:∀y∈ps.zip us,scope.names.lookup y.1=some .local∨(scope.names.lookup y.1=some .cell/\((cellsFrom (s.heap.objs.size+1) scope.names []).lookup y.1).isSome=true):=λ⟨n,v⟩ hy=>by
  rcases S.par n (List.of_mem_zip hy).1 with q | q
  ·exact .inl q
  ·exact .inr ⟨q,PySem.W.cellsFrom_some _ _ _ (.inl q)⟩
 refine codeAny_call_function hr.depth (KX _ _ lk) rfl S.co S.gen rfl (PySem.W.codeRec_of KX hcd) (hb _ _ _ _ ?_);refine wpAny_newFunctionEnv_cells S.kind hkind λenv he s1 x=>?_;subst he;refine⟨lim.keeps x.toInCall.keep,codeAny_func ?_⟩;obtain⟨t,ht,hq⟩:=hbody A outer s H vs Q E (hr.deeper _) hsp;have I:aF (dL CX P w K mg base N qual scope f cdv A outer s H E) [] (start N vs) H s1:=rR S hr.hd e0 hl r x;refine wpAny_mono (ht [] s1 (start N vs) H _ I hq) (λfl s' hs=>?_) λe s' hs=>hs;have fin:∀{σ':St} {H':Hp} {v:V} {u:Value},aF (dL CX P w K mg base N qual scope f cdv A outer s H E) [] σ' H' s'->bd v u->Q v H'->CE outer P w H s Q u s':=
  λ{σ' H' v u} J rv q=>⟨v,H',J.os,J.bare,J.base,J.hok,rv,q⟩
 cases fl with
 | ret u=>
   obtain⟨v,σ',H',J,rv,q⟩:=hs;exact fin J rv q
 | next=>
   obtain⟨σ',H',J,q⟩:=hs;exact fin (v:=V.non) (u:=Value.none) J rfl q
 | brk=>
   obtain⟨_,_,_,q⟩:=hs;exact False.elim q
 | cont=>
   obtain⟨_,_,_,q⟩:=hs;exact False.elim q
section
variable {X:Cx} {x:Str} {p pos:Pos} {e:Expr} {es:List Expr} {t:TA} {id T:String} {r:List V->Hp->VK->Prop}
def ES (r:List V->Hp->VK->Prop) (t:TA):TE:=λσ H Q=>t σ H λvs H1=>r vs H1 Q
theorem jr (hc:eZ X (.builtin id) r) (hg:Gl X x) (hm:X.mg x=none) (hv:bootBuiltins x=some (.builtin id)) (ha:PA X (e::es) t) (hn:x≠"__name__":=by decide) (hdb:(x==("__debug__":Str))=false:=by decide)
 (he:starEach (e::es) X.env=(false,eval e X.env)::starEach es X.env:=by rfl) (hpl:(backTo pos (starEach es X.env)).any (·.1)=false:=by rfl):PE X (.Call (.Name x p) (e::es) [] pos) (ES r t):=by
 intro π s σ H Q I h;refine wpAny_Call_Name_kw (eE I hg hm hv ?_ hn hdb);exact PyProof.Rows.callWith_builtin1 (bU (ha pos π s σ H _ I h) λus s1 ⟨vs,H1,I1,r1,q1⟩=>hc π s1 σ H1 vs us Q I1 r1 q1) he hpl
theorem rS (hc:eZ X (.type T) r) (hg:Gl X x) (hm:X.mg x=none) (hv:bootBuiltins x=some (.type T)) (ha:PA X (e::es) t) (hn:x≠"__name__":=by decide) (hdb:(x==("__debug__":Str))=false:=by decide)
 (he:starEach (e::es) X.env=(false,eval e X.env)::starEach es X.env:=by rfl) (hpl:(backTo pos (starEach es X.env)).any (·.1)=false:=by rfl):PE X (.Call (.Name x p) (e::es) [] pos) (ES r t):=by
 intro π s σ H Q I h;refine wpAny_Call_Name_kw (eE I hg hm hv ?_ hn hdb);exact PyProof.Rows.callWith_type1 (bU (ha pos π s σ H _ I h) λus s1 ⟨vs,H1,I1,r1,q1⟩=>hc π s1 σ H1 vs us Q I1 r1 q1) he hpl
end
end L2
namespace HT
open PySem PyProof.Rows
theorem rcLt_int (A:Around) (s:Shared) (a:Int) (t:Tok) (c:Int) (u:Tok) (prog:Program) (w:World) (E:yey) (Q:yey) (h:Q (.bool (decide (a<c))) s):
 wpAny (model prog w) A (richCompare .Lt (.int a t) (.int c u)) Q E s:=
 (PyProof.Rows.lt_int h:wpAny (model prog w) A (compareOp .Lt (.int a t) (.int c u)) Q E s)
section
open PySem.SeqAt
open PySem.AutoSeq1 (wpAny_loadPart')
open PySem.MeetsSeq PySem.MeetsSeq2 PySem.MeetsSeq3
end
section
variable {prog:Program} {w:World} {A:Around} {E:yey} {s:Shared}
theorem cat_tup {t b:Addr} {vs ws:yez} (ht:IsTup s.heap t vs.toArray) (hb:IsTup s.heap b ws.toArray) (hv:vs≠[])
 (h1:ws=[]->Q (.ref t) s) (h2:ws≠[]->Q (.ref s.heap.objs.size) { s with heap:=s.heap.push { cls:= .type "tuple",data:= .seq (vs++ws).toArray } })
 (hsz:vs.length+ws.length<=sizeLine):wpAny (model prog w) A (binaryOp .Add (.ref t) (.ref b)) Q E s:=by
 obtain⟨⟨cls,dd,data,sl⟩,ho,hc,n,hd⟩:=id ht;obtain⟨⟨cls2,dd2,data2,sl2⟩,ho2,hc2,n2,hd2⟩:=id hb;simp only at hc hd hc2 hd2;subst hc hd hc2 hd2;have e:vs.toArray++ws.toArray=(vs++ws).toArray:=by simp
 by_cases hw:ws=[]
 ·exact concat_meets ⟨_,ho,rfl⟩ ⟨_,ho2,rfl⟩ noFill_tuple_add seq_tuple_add PySem.F.slot_tuple_add PySem.F.entry_tuple_add (PySem.F.args_tuple_add_2 _ _)
   (tuple_addW1 t b vs.toArray ws.toArray n n2 dd dd2 sl sl2 (by simpa using hv) (by simp[hw])) ⟨ho,ho2,h1 hw⟩
 ·refine concat_meets ⟨_,ho,rfl⟩ ⟨_,ho2,rfl⟩ noFill_tuple_add seq_tuple_add PySem.F.slot_tuple_add PySem.F.entry_tuple_add (PySem.F.args_tuple_add_2 _ _)
   (tuple_addW2 t b vs.toArray ws.toArray n n2 dd dd2 sl sl2 (by simpa using hv) (by simpa using hw) (by rw[size_toArray,size_toArray];exact hsz)) ⟨ho,ho2,?_⟩
  rw[e];exact h2 hw
noncomputable def sIx (n d:Nat):Option Int->Nat
 | none=>d
 | some v=>if v<0 then (v+(n:Int)).toNat else min v.toNat n
theorem sIx_none (n d:Nat):sIx n d none=d:=rfl
theorem sIx_nat (n d k:Nat):sIx n d (some (k:Int))=min k n:=by
 show(if (k:Int)<0 then ((k:Int)+(n:Int)).toNat else min (k:Int).toNat n)=min k n;rw[ycw (by lia),Int.toNat_natCast]
theorem Ao (n d:Nat) (hd:d<=n) (o:Option Int):sIx n d o<=n:=by
 cases o with
 | none=>exact hd
 | some v=>
   show(if v<0 then (v+(n:Int)).toNat else min v.toNat n)<=n
   by_cases hv:v<0
   ·rw[ycv hv];lia
   ·rw[ycw hv];exact Nat.min_le_right _ _
theorem qc (v:Int) (n d:Nat):(if v<0 then max (v+(n:Int)) 0 else min v (n:Int))=((sIx n d (some v):Nat):Int):=by
 show(if v<0 then max (v+(n:Int)) 0 else min v (n:Int))=(((if v<0 then (v+(n:Int)).toNat else min v.toNat n):Nat):Int)
 by_cases hv:v<0
 ·simp only[ycv hv];lia
 ·simp only[ycw hv];lia
theorem oW (lo hi:Option Int) (n:Nat):Builtin.Slice.sliceAdjust lo hi 1 (n:Int)=(((sIx n 0 lo:Nat):Int),((sIx n n hi:Nat):Int)):=by
 have h1:¬((1:Int)<0):=by lia
 unfold Builtin.Slice.sliceAdjust;simp only[h1,if_false];refine Prod.ext ?_ ?_
 ·cases lo with
  | none=>rfl
  | some v=>exact qc v n 0
 ·cases hi with
  | none=>rfl
  | some v=>exact qc v n n
theorem oY (i j:Nat):Builtin.Slice.slicePlaces (i:Int) (j:Int) 1=j-i:=by
 unfold Builtin.Slice.slicePlaces;have h1:(1:Int) > 0:=by lia
 simp only[h1,if_true,Int.ediv_one];split<;> lia
theorem js {v:Value} {o:Option Int} {Q:Option Int->Shared->Prop} (p:IsPart v o) (h:Q o s):wpAny (model prog w) A (Builtin.Slice.slicePartIndex v) Q E s:=by
 cases p with
 | none=>exact slicePart_none h
 | int i t=>exact slicePart_int h
theorem sliceApplied_gen {sl:Addr} {vl vu:Value} {lo hi:Option Int} {n:Nat} {Q:Int×Int×Nat->Shared->Prop} (hs:s.heap.IsSliceOf sl vl vu .none) (pl:IsPart vl lo) (pu:IsPart vu hi)
 (h:Q (((sIx n 0 lo:Nat):Int),1,sIx n n hi-sIx n 0 lo) s):wpAny (model prog w) A (Builtin.Slice.sliceApplied (.ref sl) (pure (n:Int))) Q E s:=by
 obtain⟨os,hos,hcs,hds⟩:=id hs;unfold Builtin.Slice.sliceApplied Builtin.Slice.sliceFields;refine wax (wax (wpAny_field hos hds (x:=vl) rfl (wax (wpAny_field hos hds (x:=vu) rfl (wax (wpAny_field hos hds (x:= .none) rfl (way ?_)))))));refine wax (slicePart_none ?_);show wpAny _ _ (if ((1:Int)==0)=true then _ else _) _ _ s;rw[ycw (by decide)];refine wax (js pl (wax (js pu (wax (way ?_)))));show wpAny _ _ (match Builtin.Slice.sliceAdjust lo hi 1 (n:Int) with | (lo,hi)=>pure (lo,(1:Int),Builtin.Slice.slicePlaces lo hi 1)) _ _ s;rw[oW lo hi n];show wpAny _ _ (pure (((sIx n 0 lo:Nat):Int),(1:Int),Builtin.Slice.slicePlaces ((sIx n 0 lo:Nat):Int) ((sIx n n hi:Nat):Int) 1)) _ _ s;rw[oY];exact way h
theorem tm (xs:Array Value) (i k:Nat):((List.range k).filterMap λ(m:Nat)=>xs[((i:Int)+(m:Int)*1).toNat]?).toArray=((xs.toList.drop i).take k).toArray:=by
 have e:(λ(m:Nat)=>xs[((i:Int)+(m:Int)*1).toNat]?)=λm=>xs[i+m]?:=by
  funext m
  have:((i:Int)+(m:Int)*1).toNat=i+m:=by lia
  rw[this]
 rw[e];have:=pick_run xs i k;rw[List.filterMap_map] at this;have e2:((λx=>xs[x]?) ∘ λx=>i+x)=λm=>xs[i+m]?:=rfl;rw[e2] at this;rw[this]
theorem getItem_tuple_cut {t sl:Addr} {vl vu:Value} {lo hi:Option Int} (ht:IsTup s.heap t items) (hs:s.heap.IsSliceOf sl vl vu .none) (pl:IsPart vl lo) (pu:IsPart vu hi)
 (hw:¬(sIx items.size 0 lo=0/\sIx items.size items.size hi=items.size))
 (h:Q (.ref s.heap.objs.size) { s with heap:=s.heap.push { cls:= .type "tuple",data:= .seq ((items.toList.drop (sIx items.size 0 lo)).take (sIx items.size items.size hi-sIx items.size 0 lo)).toArray } })
 (hsz:items.size<=sizeLine):wpAny (model prog w) A (getItem (.ref t) (.ref sl)) Q E s:=by
 have htake:sizeOk (.seq ((items.toList.drop (sIx items.size 0 lo)).take (sIx items.size items.size hi-sIx items.size 0 lo)).toArray):=by
  show((items.toList.drop (sIx items.size 0 lo)).take (sIx items.size items.size hi-sIx items.size 0 lo)).toArray.size<=sizeLine;rw[size_toArray,length_take,length_drop,Array.length_toList];exact ycy (Nat.min_le_right _ _) (ycy (Nat.sub_le _ _) hsz)
 have hj:sIx items.size items.size hi<=items.size:=Ao _ _ (ycx _) hi;obtain⟨os,hos,hcs,hds⟩:=id hs;have hTs:s.TypeIs (.ref sl) "slice":=⟨os,hos,hcs⟩;unfold getItem
 try with_reducible refine wpAny_holding ?_
 first | refine wax (way ?_) | skip
 refine wax (wpAny_sequenceKey ht.typeIs (by decide) ?_);refine wax (wpAny_callSpecial?_slot (name:=Str.ofString "__getitem__") ht.typeIs PyProof.Rows.slot_tuple_getitem
  (wpAny_call_entry PyProof.Rows.slot_tuple_getitem ht.typeIs entry_tuple_getitem ?_ (args_tuple_getitem _ _)))
 show wpAny _ _ (Builtin.Tuple.tupleItemsOf (.ref t) >>= _) _ _ s;refine wax (tupleItemsOf_ ht ?_);refine wax (wpAny_typeOf hTs ?_);rw[ycv (by decide)];refine wax (sliceApplied_gen hs pl pu ?_);have hno:¬((((sIx items.size 0 lo:Nat):Int)==0&&(1:Int)==1&&(sIx items.size items.size hi-sIx items.size 0 lo)==items.size)=true):=by
  intro q;rw[Bool.and_eq_true,Bool.and_eq_true] at q;have q1:((sIx items.size 0 lo:Nat):Int)=0:=eq_of_beq q.1.1;have q2:sIx items.size items.size hi-sIx items.size 0 lo=items.size:=eq_of_beq q.2;exact hw ⟨by lia,by lia⟩
 show wpAny _ _ (if (((sIx items.size 0 lo:Nat):Int)==0&&(1:Int)==1&&(sIx items.size items.size hi-sIx items.size 0 lo)==items.size)=true then _ else _) _ _ s;rw[ycw hno,tm]
 first
  | exact wax (m:=Builtin.Tuple.tupleExact _) (wpAny_newObj_type (way ⟨_,rfl,way h⟩) htake)
  | exact wax (m:=Builtin.Tuple.tupleExact _) (wpAny_newObj_type (wax (way (way ⟨_,rfl,way h⟩))) htake)
  | exact wax (wax (m:=Builtin.Tuple.tupleExact _) (wpAny_newObj_type (way (way ⟨_,rfl,way h⟩)) htake))
  | exact wax (wax (m:=Builtin.Tuple.tupleExact _) (wpAny_newObj_type (way ⟨_,rfl,way h⟩) htake))
end
end HT
namespace L2
open PySem PySem.Spec PyProof.Rows
abbrev TO:=St->Hp->(Option Int->Hp->Prop)->Prop
def PO (X:Cx) (e:Option Expr) (t:TO):Prop:=
 ∀(π:List (Addr×Obj)) (s:Shared) (σ:St) (H:Hp) (Q:Option Int->Hp->Prop),aF X π σ H s->t σ H Q->
  wpAny (model X.prog X.w) X.A (evalPart e X.env) (λu s'=>∃o H',aF X π σ H' s'/\IsPart u o/\Q o H') X.xe s
def wO:TO:=λ_ H Q=>Q none H
def Ci (t:TE):TO:=λσ H Q=>t σ H λx H1=>∃i,x=.int i/\Q (some i) H1
theorem intsAre_of {ns:List Int}:∀{us:yez},aU (ns.map V.int) us->IntsAre us ns:=by
 induction ns with
 | nil=>intro us r;rw[map_nil] at r;cases r;exact .nil
 | cons n ns ih=>
   intro us r;rw[map_cons] at r;cases r with
   | cons r1 r2=>
     obtain⟨t,e⟩:=r1;subst e;exact .cons n t (ih r2)
section
variable {X:Cx} {e:Expr} {te:TE} {lo hi:Option Expr} {tl th:TO} {pos p2:Pos}
theorem po_none:PO X none wO:=by
 intro π s σ H Q I h;rw[evalPart_none];exact way ⟨none,H,I,.none,h⟩
theorem wP (h:PE X e te):PO X (some e) (Ci te):=by
 intro π s σ H Q I hw;rw[evalPart_some];refine bU (h π s σ H _ I hw) λu s1 z9=>?_;obtain⟨x,H1,I1,r1,q1⟩:=z9;obtain⟨i,rfl,q⟩:=q1;obtain⟨t,rfl⟩:=r1;exact⟨some i,H1,I1,.int i t,q⟩
def Cj (X:Cx) (r:V->Option Int->Option Int->Hp->VK->Prop):Prop:=
 ∀(π:List (Addr×Obj)) (s:Shared) (σ:St) (H:Hp) (x:V) (v vl vu:Value) (lo hi:Option Int) (sl:Addr) (Q:VK),aF X π σ H s->bd x v->s.heap.IsSliceOf sl vl vu .none->IsPart vl lo->IsPart vu hi->r x lo hi H Q->
  ∃T id,typeLookup (.type T) "__getitem__"=pure (some (.builtin id))/\s.TypeIs v T/\wpAny (model X.prog X.w) X.A (getItem v (.ref sl)) (EP X π σ Q) X.xe s
def Hg (r:V->Option Int->Option Int->Hp->VK->Prop) (te:TE) (tl th:TO):TE:=λσ H Q=>te σ H λx H1=>tl σ H1 λl H2=>th σ H2 λu H3=>r x l u H3 Q
theorem tq {r:V->Option Int->Option Int->Hp->VK->Prop} (hr:Cj X r) (he:PE X e te) (hl:PO X lo tl) (hu:PO X hi th):PE X (.Subscript e (.Slice lo hi none p2) pos) (Hg r te tl th):=by
 intro π s σ H Q I h;refine Subscript_ (bU (he π s σ H _ I h) λv s1 z9=>?_);obtain⟨x,H1,I1,r1,q1⟩:=z9;refine wpAny_Slice (bU (hl π s1 σ H1 _ I1 q1) λvl s2 ⟨l,H2,I2,pl,q2⟩=>bU (hu π s2 σ H2 _ I2 q2) λvu s3 z9=>?_);obtain⟨u,H3,I3,pu,q3⟩:=z9;rw[evalPart_none];refine way ?_;have I4:aF X π σ H3 { s3 with heap:=s3.heap.push { cls:= .type "slice",data:= .fields #[vl,vu,.none] } }:=I3.kept (t':=s3.toks) λb ob q=>ybz _ q;obtain⟨T,id,hT,ht,hg⟩:=hr π { s3 with heap:=s3.heap.push { cls:= .type "slice",data:= .fields #[vl,vu,.none] } } σ H3 x v vl vu l u s3.heap.objs.size Q I4 r1 (Heap.IsSliceOf.new ..) pl pu q3;show wpAny (model X.prog X.w) X.A (subscriptTail e (.Slice lo hi none p2) v (.ref s3.heap.objs.size)) (EP X π σ Q) X.xe { s3 with heap:=s3.heap.push { cls:= .type "slice",data:= .fields #[vl,vu,.none] } };exact tail_any (ops:=[.ref s3.heap.objs.size,v]) ht hT hg (by with_unfolding_all rfl)
noncomputable def mS (xs:List V) (lo hi:Option Int):List V:=(xs.drop (HT.sIx xs.length 0 lo)).take (HT.sIx xs.length xs.length hi-HT.sIx xs.length 0 lo)
theorem iN (xs:List V) (lo hi:Option Int):(mS xs lo hi).length<=xs.length:=by
 unfold mS;rw[length_take,length_drop];lia
def ET (K:yav):V->Option Int->Option Int->Hp->VK->Prop:=λx lo hi H Q=>∃a xs,x=.ref a/\cY K H a xs/\
 ¬(HT.sIx xs.length 0 lo=0/\HT.sIx xs.length xs.length hi=xs.length)/\∀p,H p=none->Q (.ref p) (upd H p (.tup (mS xs lo hi)))
theorem Ap:Cj X (ET X.K):=by
 intro π s σ H x v vl vu lo hi sl Q I rx hs pl pu h;obtain⟨a,xs,rfl,hx,hw,q⟩:=h;cases rx;obtain⟨its,r,ht,hz⟩:=I.tuple hx;have hlen:its.toArray.size=xs.length:=by rw[size_toArray];exact r.length.symm
 refine⟨"tuple",_,PyProof.Rows.slot_tuple_getitem.lookup,ht.typeIs,?_⟩;refine HT.getItem_tuple_cut ht hs pl pu (by rw[hlen];exact hw) ?_ (by rw[hlen];exact hz);rw[hlen];refine⟨.ref s.heap.objs.size,_,I.laid (t':=s.toks) (o:= .tup (mS xs lo hi)) (λb ob q=>ybz _ q) (ycx _) ?_,rfl,q _ (I.hok.fresh (ycx _))⟩;exact⟨ycy (iN xs lo hi) hz,_,(r.drop (HT.sIx xs.length 0 lo)).take (HT.sIx xs.length xs.length hi-HT.sIx xs.length 0 lo),IsTup.new _ _⟩
def Ck (K:yav):R2:=λx y H Q=>∃a b xs ys,x=.ref a/\y=.ref b/\cY K H a xs/\cY K H b ys/\xs≠[]/\xs.length+ys.length<=sizeLine/\
 (ys=[]->Q (.ref a) H)/\(ys≠[]->∀p,H p=none->Q (.ref p) (upd H p (.tup (xs++ys))))
theorem aU.nil_iff {xs:List V} (r:aU xs us):us=[]↔xs=[]:=by
 cases r with
 | nil=>simp
 | cons _ _=>simp
theorem wQ:iK X (binaryOp .Add) (Ck X.K):=by
 intro π s σ H x y v u Q I rx ry h;obtain⟨a,b,xs,ys,rfl,rfl,ha,hb,hx,hz,q1,q2⟩:=h;cases rx;cases ry;obtain⟨its,r1,p1,_⟩:=I.tuple ha;obtain⟨its2,r2,p2,_⟩:=I.tuple hb;refine HT.cat_tup p1 p2 (λz=>hx (r1.nil_iff.mp z)) (λz=>⟨.ref a,H,I,rfl,q1 (r2.nil_iff.mp z)⟩) (λz=>?_) (by rw[←r1.length,←r2.length];exact hz);refine⟨.ref s.heap.objs.size,_,I.laid (t':=s.toks) (o:= .tup (xs++ys)) (λb ob q=>ybz _ q) (ycx _) ?_,rfl,q2 (λw=>z (r2.nil_iff.mpr w)) _ (I.hok.fresh (ycx _))⟩;exact⟨by rw[length_append];exact hz,_,r1.append r2,IsTup.new _ _⟩
end
noncomputable def tu (n:Nat) (i:Int):Option Nat:=if 0<=i then (if i<n then some i.toNat else none) else if -(n:Int)<=i then some (i+n).toNat else none
noncomputable def ef {α:Type} (xs:List α) (i:Int):Option α:=(tu xs.length i).bind λj=>xs[j]?
theorem wR {n:Nat} {i:Int} {j:Nat} (h:tu n i=some j):seqIndex? i n=some j/\j<n/\-(n:Int)<=i/\i<n:=by
 unfold tu at h
 by_cases h0:0<=i
 ·rw[ycv h0] at h
  by_cases h1:i<n
  ·rw[ycv h1] at h;have e:i.toNat=j:=Option.some.inj h;exact⟨by rw[seqIndex_of h0 h1,e],by lia,by lia,h1⟩
  ·rw[ycw h1] at h;cases h
 ·rw[ycw h0] at h
  by_cases h1: -(n:Int)<=i
  ·rw[ycv h1] at h;have e:(i+n).toNat=j:=Option.some.inj h;exact⟨by rw[seqIndex_neg (by lia) h1,e],by lia,h1,by lia⟩
  ·rw[ycw h1] at h;cases h
theorem lD {α:Type} {xs:List α} {i:Int} {v:α} (h:ef xs i=some v):∃j,seqIndex? i xs.length=some j/\xs[j]?=some v/\j<xs.length/\-(xs.length:Int)<=i/\i<xs.length:=by
 unfold ef at h;cases e:tu xs.length i with
 | none=>rw[e] at h;cases h
 | some j=>
   rw[e] at h;obtain⟨h1,h2,h3,h4⟩:=wR e;exact⟨j,h1,h,h2,h3,h4⟩
theorem bC {α:Type} {xs:List α} {j:Nat} {v:α} (h:xs[j]?=some v):ef xs (j:Int)=some v:=by
 have hj:j<xs.length:=(List.getElem?_eq_some_iff.mp h).1;have e:tu xs.length (j:Int)=some j:=by
  unfold tu;rw[ycv (by lia),ycv (by lia)];simp
 unfold ef;rw[e];exact h
def qd (b:Expr):Prop:=∀o i,subscripted b false o i=operate [o,i] (getItem o i)
def Cn (X:Cx) (r:R2):Prop:=
 ∀(value slice:Expr) (π:List (Addr×Obj)) (s:Shared) (σ:St) (H:Hp) (x y:V) (v u:Value) (Q:VK),aF X π σ H s->bd x v->bd y u->r x y H Q->
  subscripted slice false v u=operate [v,u] (getItem v u)->wpAny (model X.prog X.w) X.A (subscriptTail value slice v u) (EP X π σ Q) X.xe s
def Co (X:Cx) (id:String) (r:V->List V->Hp->VK->Prop):Prop:=
 ∀(π:List (Addr×Obj)) (s:Shared) (σ:St) (H:Hp) (x:V) (xs:List V) (v:Value) (us:yez) (Q:VK),aF X π σ H s->bd x v->aU xs us->r x xs H Q->
  wpAny (model X.prog X.w) X.A (call (.builtin id) (v::us)) (EP X π σ Q) X.xe s
section
variable {X:Cx} {a b:Expr} {ta tb:TE} {pos:Pos}
theorem Cp {r:R2} (hr:Cn X r) (ha:PE X a ta) (hb:PE X b tb) (hs:qd b):PE X (.Subscript a b pos) (B6 r ta tb):=by
 intro π s σ H Q I h;exact Subscript_ (Ab ha hb I h λv u s2 x y H2 I2 rx ry q=>hr a b π s2 σ H2 x y v u Q I2 rx ry q (hs _ _))
def EU (K:yav):R2:=λx y H Q=>∃p xs i v,x=.ref p/\y=.int i/\cC K H p xs/\ef xs i=some v/\Q v H
def EV (K:yav):R2:=λx y H Q=>∃p xs i v,x=.ref p/\y=.int i/\cY K H p xs/\ef xs i=some v/\Q v H
def EW:R2:=λx y H Q=>∃z i c,x=.str z/\y=.int i/\z.length<=sizeLine/\ef z.cps.toList i=some c/\Q (.str ⟨#[c]⟩) H
theorem qe:Cn X (EU X.K):=by
 intro value slice π s σ H x y v u Q I rx ry h hs;obtain⟨p,xs,i,z,rfl,rfl,hq,he,q⟩:=h;cases rx;obtain⟨t,rfl⟩:=ry;obtain⟨its,r,pl,hz⟩:=I.list hq;obtain⟨j,h1,h2,h3,h4,h5⟩:=lD he;obtain⟨w,ew,rw'⟩:=r.get h2;have hl:=r.length;have hn:=jo;have fin:EP X π σ Q w s:=⟨z,H,I,rw',q⟩
 by_cases h0:0<=i
 ·have hj:i.toNat=j:=by
   rw[seqIndex_of h0 h5] at h1;exact Option.some.inj h1
  exact item_listR pl.isList h0 (by lia) (by rw[hj];simpa using ew) fin hs
 ·have hj:(i+(its.toArray.size:Int)).toNat=j:=by
   rw[seqIndex_neg (by lia) h4] at h1;rw[size_toArray,←hl];exact Option.some.inj h1
  exact subscriptTail_builtinR (x:=w) pl.isList.typeIs slot_list_getitem.lookup
   (wpAny_getItem_list_neg (Q:=λr s'=>r=w/\EP X π σ Q r s') pl.isList (by lia) (by rw[size_toArray]<;> lia) (by lia) (by rw[hj];simpa using ew) ⟨rfl,fin⟩) hs
theorem Aq:Cn X (EV X.K):=by
 intro value slice π s σ H x y v u Q I rx ry h hs;obtain⟨p,xs,i,z,rfl,rfl,hq,he,q⟩:=h;cases rx;obtain⟨t,rfl⟩:=ry;obtain⟨its,r,pl,hz⟩:=I.tuple hq;obtain⟨j,h1,h2,h3,h4,h5⟩:=lD he;obtain⟨w,ew,rw'⟩:=r.get h2;have hl:=r.length;have hn:=jo;have fin:EP X π σ Q w s:=⟨z,H,I,rw',q⟩;exact subscriptTail_builtinR (x:=w) pl.typeIs slot_tuple_getitem.lookup
  (getItem_tuple (j:=j) (Q:=λr s'=>r=w/\EP X π σ Q r s') pl (by lia) (by lia) (by rw[size_toArray,←hl];exact h1) (by simpa using ew) ⟨rfl,fin⟩) hs
theorem Ar:Cn X EW:=by
 intro value slice π s σ H x y v u Q I rx ry h hs;obtain⟨z,i,c,rfl,rfl,hz,he,q⟩:=h;obtain⟨t,rfl⟩:=rx;obtain⟨t',rfl⟩:=ry;obtain⟨j,h1,h2,h3,h4,h5⟩:=lD he;have hl:z.cps.toList.length=z.length:=by simp[Str.length]
 rw[hl] at h1 h4 h5;have hn:=jo;exact tail_any (typeIs_str s z t) slot_str_getitem.lookup (getItem_str (c:=c) (by
  have e1:decide (i< -(2^63:Int))=false:=ydy (by lia);have e2:decide (i≥2^63)=false:=ydy (by lia);rw[e1,e2,Bool.or_false]) (by rw[h1];simpa using h2) ⟨.str ⟨#[c]⟩,H,I.tok _,⟨_,rfl⟩,q⟩) hs
theorem lE (lo hi:Option Int) (n:Nat):(sliceBounds lo hi none n).1=((HT.sIx n 0 lo:Nat):Int)/\(sliceBounds lo hi none n).2.1=((HT.sIx n n hi:Nat):Int)/\(sliceBounds lo hi none n).2.2=1:=by
 refine⟨?_,?_,rfl⟩
 ·cases lo with
  | none=>simp[sliceBounds,HT.sIx]
  | some i=>
    simp only[sliceBounds,HT.sIx,Option.getD_none,show(1:Int) > 0 by decide,if_true]
    by_cases h:i<0
    ·simp only[h,if_true]<;> lia
    ·simp only[h,if_false]<;> lia
 ·cases hi with
  | none=>simp[sliceBounds,HT.sIx]
  | some i=>
    simp only[sliceBounds,HT.sIx,Option.getD_none,show(1:Int) > 0 by decide,if_true]
    by_cases h:i<0
    ·simp only[h,if_true]<;> lia
    ·simp only[h,if_false]<;> lia
theorem kl (its:yez) (lo hi:Option Int):slicePick its.toArray lo hi none=((its.drop (HT.sIx its.length 0 lo)).take (HT.sIx its.length its.length hi-HT.sIx its.length 0 lo)).toArray:=by
 obtain⟨h1,h2,h3⟩:=lE lo hi its.toArray.size;unfold slicePick;rw[h1,h2,h3];simp only[sliceRange_one,pick_run,size_toArray]<;> rfl
def EX (K:yav):V->Option Int->Option Int->Hp->VK->Prop:=λx lo hi H Q=>∃a xs,x=.ref a/\cC K H a xs/\∀p,H p=none->Q (.ref p) (upd H p (.lst (mS xs lo hi)))
theorem qf:Cj X (EX X.K):=by
 intro π s σ H x v vl vu lo hi sl Q I rx hs pl pu h;obtain⟨a,xs,rfl,hx,q⟩:=h;cases rx;obtain⟨its,r,ht,hz⟩:=I.list hx;have hlen:=r.length;refine⟨"list",_,slot_list_getitem.lookup,ht.isList.typeIs,?_⟩;refine wpAny_getItem_list_slice ht.isList hs pl pu .none (by simp) ?_ (by rw[size_toArray]<;> lia);rw[kl,←hlen];refine⟨.ref s.heap.objs.size,_,I.laid (t':=s.toks) (o:= .lst (mS xs lo hi)) (λb ob q=>ybz _ q) (ycx _) ?_,rfl,q _ (I.hok.fresh (ycx _))⟩;exact⟨ycy (iN xs lo hi) hz,_,0,(r.drop (HT.sIx xs.length 0 lo)).take (HT.sIx xs.length xs.length hi-HT.sIx xs.length 0 lo),ybw _ rfl⟩
theorem eI:eZ X (.builtin "len") (λxs H Q=>∃p ys,xs=[.ref p]/\(cC X.K H p ys∨cY X.K H p ys)/\Q (.int ys.length) H):=by
 intro π s σ H xs us Q I r h;obtain⟨p,ys,rfl,hq,q⟩:=h;obtain⟨u,rfl,rx⟩:=e9 r;cases rx;have hn:=jo;rcases hq with hq | hq
 ·obtain⟨its,r',pl,hz⟩:=I.list hq;have hlen:=r'.length;exact Calls.call_len_list pl.isList (by simp only[size_toArray]<;> lia) ⟨.int ys.length,H,I.tok _,⟨s.toks+1,by rw[size_toArray,hlen]⟩,q⟩
 ·obtain⟨its,r',pl,hz⟩:=I.tuple hq;have hlen:=r'.length;exact len_tuple pl (by simp only[size_toArray]<;> lia) ⟨.int ys.length,H,I.tok _,⟨s.toks+1,by rw[size_toArray,hlen]⟩,q⟩
theorem lG:eZ X (.builtin "len") (λxs H Q=>∃z,xs=[.str z]/\z.length<=sizeLine/\Q (.int z.length) H):=by
 intro π s σ H xs us Q I r h;obtain⟨z,rfl,hz,q⟩:=h;obtain⟨u,rfl,t,rfl⟩:=e9 r;have hn:=jo;exact len_str (by lia) ⟨.int z.length,H,I.tok _,⟨_,rfl⟩,q⟩
theorem gj:eZ X (.type "list") (λxs H Q=>∃p ys,xs=[.ref p]/\(cC X.K H p ys∨cY X.K H p ys)/\∀l,H l=none->Q (.ref l) (upd H l (.lst ys))):=by
 intro π s σ H xs us Q I r h;obtain⟨p,ys,rfl,hq,q⟩:=h;obtain⟨u,rfl,rx⟩:=e9 r;cases rx;have fin:∀(its:yez),aU ys its->ys.length<=sizeLine->∀(h':Heap) (c':Nat),(∀b o',s.heap.get? b=some o'->h'.get? b=some o')->
  h'.get? s.heap.objs.size=some { cls:= .type "list",dict:=none,data:= .seq its.toArray c',slots:= #[] }->EP X π σ Q (.ref s.heap.objs.size) { s with heap:=h' }:=λits r' hz h' c' kp e=>
  ⟨.ref s.heap.objs.size,_,I.laid (t':=s.toks) kp (ycx _) (show bG X.prog X.w _ h' _ (.lst ys) from ⟨hz,its,c',r',e⟩),rfl,q _ (I.hok.fresh (ycx _))⟩
 rcases hq with hq | hq
 ·obtain⟨its,r',pl,hz⟩:=I.list hq;have hlen:=r'.length;obtain⟨o,ho,hc,n,hd⟩:=pl.isList;exact call_list_seq p (.inl rfl) ho hc hd (λh' c' kp e=>fin its r' hz h' c' kp e) (by simp only[size_toArray]<;> lia)
 ·obtain⟨its,r',pl,hz⟩:=I.tuple hq;have hlen:=r'.length;obtain⟨o,ho,hc,n,hd⟩:=pl;exact call_list_seq p (.inr rfl) ho hc hd (λh' c' kp e=>fin its r' hz h' c' kp e) (by simp only[size_toArray]<;> lia)
theorem fK:eZ X (.type "tuple") (λxs H Q=>∃p ys,xs=[.ref p]/\((cC X.K H p ys/\∀l,H l=none->Q (.ref l) (upd H l (.tup ys)))∨(cY X.K H p ys/\Q (.ref p) H))):=by
 intro π s σ H xs us Q I r h;obtain⟨p,ys,rfl,h⟩:=h;obtain⟨u,rfl,rx⟩:=e9 r;cases rx;rcases h with⟨hq,q⟩ | ⟨hq,q⟩
 ·obtain⟨its,r',pl,hz⟩:=I.list hq;have hlen:=r'.length;refine call_tuple_list pl.isList (λh' kp=>?_) (by simp only[size_toArray]<;> lia);have I1:aF X π σ H { s with heap:=h' }:=I.kept (t':=s.toks) kp;have I2:aF X π σ (upd H h'.objs.size (.tup ys)) { s with heap:=h'.push { cls:= .type "tuple",data:= .seq its.toArray } }:=
   I1.laid (t':=s.toks) (λb o e=>ybz _ e) (ycx _) (show bG X.prog X.w _ _ _ (.tup ys) from ⟨hz,its,r',IsTup.new _ _⟩)
  exact⟨.ref h'.objs.size,_,I2,rfl,q _ (I1.hok.fresh (ycx _))⟩
 ·obtain⟨its,r',pl,hz⟩:=I.tuple hq;exact call_tuple_same pl ⟨.ref p,H,I,rfl,q⟩
def Cq (K:yav) (T:String) (x:V) (H:Hp):Prop:=match x with
 | .str _=>T="str"
 | .int _=>T="int"
 | .ref p=>(T="list"/\∃xs,cC K H p xs)∨(T="tuple"/\∃o,K.lookup p=some o/\o.cls=.type "tuple"/\o.dict=none)∨
    (T="dict"/\((∃kvs,H p=some (.dK kvs))∨∃kvs,H p=some (.dT kvs)))∨(T="set"/\∃S n,H p=some (.set S n))
 | _=>False
theorem lH {σ:St} {H:Hp} {T:String} {x:V} {v:Value} (I:aF X π σ H s) (r:bd x v) (ty:Cq X.K T x H):
 s.TypeIs v T/\∀a,v=.ref a->∃ob,s.heap.get? a=some ob/\ob.dict=none:=by
 cases x with
 | str z=>
   obtain⟨t,rfl⟩:=r;cases (show T="str" from ty);exact⟨typeIs_str s z t,λ_ e=>nomatch e⟩
 | int i=>
   obtain⟨t,rfl⟩:=r;cases (show T="int" from ty);exact⟨typeIs_int s i t,λ_ e=>nomatch e⟩
 | ref p=>
   cases r;rcases ty with⟨rfl,xs,hq⟩ | ⟨rfl,o,hk,hc,hd⟩ | ⟨rfl,hk⟩ | ⟨rfl,S,n,hk⟩
   ·obtain⟨its,_,pl,_⟩:=I.list hq;refine⟨pl.isList.typeIs,λa e=>?_⟩;cases e;obtain⟨o,n,e,c,hd,_⟩:=pl;exact⟨o,e,hd⟩
   ·refine⟨⟨o,I.kIn p o hk,hc⟩,λa e=>?_⟩;cases e;exact⟨o,I.kIn _ o hk,hd⟩
   ·have z:∃o,s.heap.get? p=some o/\o.ExactDict:=by
     rcases hk with⟨kvs,hk⟩ | ⟨kvs,hk⟩
     ·obtain⟨_,_,_,_,o,_,_,e,ex,_⟩:=I.hok p _ hk;exact⟨o,e,ex⟩
     ·obtain⟨_,_,_,_,o,_,_,e,ex,_⟩:=I.hok p _ hk;exact⟨o,e,ex⟩
    obtain⟨o,e,ex⟩:=z;refine⟨⟨o,e,ex.1⟩,λa e2=>?_⟩;cases e2;exact⟨o,e,ex.2.1⟩
   ·obtain⟨o,_,_,_,e,ex,_⟩:=I.hok p _ hk;refine⟨⟨o,e,ex.1⟩,λa e2=>?_⟩;cases e2;exact⟨o,e,ex.2.1⟩
 | _=>exact False.elim ty
def EY (K:yav) (T:String) (r:V->List V->Hp->VK->Prop) (to:TE):TE:=λσ H Q=>to σ H λx H1=>Cq K T x H1/\r x [] H1 Q
def Hh (K:yav) (T:String) (r:V->List V->Hp->VK->Prop) (to:TE) (t:TA):TE:=λσ H Q=>to σ H λx H1=>Cq K T x H1/\t σ H1 λxs H2=>r x xs H2 Q
variable {o e:Expr} {es:List Expr} {to:TE} {t:TA} {name:Str} {apos cpos:Pos} {T id:String} {r:V->List V->Hp->VK->Prop}
theorem tw (pa:PlainAttrs T) (slot:Slot T name id) (hty:typeOf (.builtin id)=pure (.type "method_descriptor")) (hm:Co X id r) (ho:PE X o to)
 (hbase:attributeBase o name X.env (eval o X.env)=eval o X.env:=by rfl) (hline:(apos.endLine==cpos.line)=true:=by rfl):PE X (.Call (.Attribute o name apos) [] [] cpos) (EY X.K T r to):=by
 intro π s σ H Q I h;refine wpAny_Call_method0_late hbase hline (bU (ho π s σ H _ I h) λv s1 z9=>?_);obtain⟨x,H1,I1,r1,ty,q1⟩:=z9;obtain⟨h1,h2⟩:=lH I1 r1 ty;exact⟨T,id,pa,slot,hty,h1,h2,Calls.callWith_builtin rfl (PySem.evalArgs_none (hm π s1 σ H1 x [] v [] Q I1 r1 .nil q1))⟩
theorem yP (pa:PlainAttrs T) (slot:Slot T name id) (hty:typeOf (.builtin id)=pure (.type "method_descriptor")) (hm:Co X id r) (ho:PE X o to) (ha:PA X (e::es) t)
 (hbase:attributeBase o name X.env (eval o X.env)=eval o X.env:=by rfl)
 (hfew:((backTo cpos (starEach (e::es) X.env)).all (λx=>!x.1)&&(backToKw cpos (keywordEach [] X.env)).all (λx=>x.1.isSome)
   &&decide ((e::es).length+([]:List Keyword).length+(if ([]:List Keyword).isEmpty then 0 else 1)<30))=true:=by rfl)
 (hline:(apos.endLine==cpos.line)=true:=by rfl) (hs:starEach (e::es) X.env=(false,eval e X.env)::starEach es X.env:=by rfl) (hplain:(backTo cpos (starEach es X.env)).any (·.1)=false:=by rfl):
 PE X (.Call (.Attribute o name apos) (e::es) [] cpos) (Hh X.K T r to t):=by
 intro π s σ H Q I h;refine wpAny_Call_method_late hbase hfew hline rfl (bU (ho π s σ H _ I h) λv s1 z9=>?_);obtain⟨x,H1,I1,r1,ty,q1⟩:=z9;obtain⟨h1,h2⟩:=lH I1 r1 ty;refine⟨T,id,pa,slot,hty,h1,h2,?_⟩;have hA:=ha cpos π s1 σ H1 _ I1 q1;rw[hs] at hA ⊢;refine Calls.callWith_builtin (by show(false||(backTo cpos (starEach es X.env)).any (·.1))=false;rw[hplain]<;> rfl) (Calls.evalArgs_plain ?_);exact bU hA λus s2 ⟨vs,H2,I2,r2,q2⟩=>hm π s2 σ H2 x vs v us Q I2 r1 r2 q2
end
def EZ (X:Cx) (id:String) (r:V->List V->Hp->VK->Prop):Prop:=
 ∀(π:List (Addr×Obj)) (s:Shared) (σ:St) (H:Hp) (x:V) (xs:List V) (v:Value) (us:yez) (Q:VK),aF X π σ H s->bd x v->aU xs us->r x xs H Q->
  wpAny (model X.prog X.w) X.A (call (.builtin id) (v::us)) (EP X π σ Q) X.xe s
theorem aU.one:∀{x:V} {us:yez},aU [x] us->∃u,us=[u]/\bd x u
 | _,_,.cons r .nil=>⟨_,rfl,r⟩
theorem aU.zero:∀{us:yez},aU [] us->us=[]
 | _,.nil=>rfl
theorem aU.dropLast {xs:List V} (h:aU xs us):aU xs.dropLast us.dropLast:=by
 induction h with
 | nil=>exact .nil
 | cons r t ih=>
   cases t with
   | nil=>exact .nil
   | cons q t'=>exact .cons r ih
theorem aU.rep {xs:List V} {us:yez} (h:aU xs us):∀k:Nat,aU (List.replicate k xs).flatten (List.replicate k us).flatten
 | 0=> .nil
 | k+1=>by
   rw[replicate_succ,replicate_succ,flatten_cons,flatten_cons];exact aU.append h (aU.rep h k)
theorem oZ {α:Type} (l:List α):l.eraseIdx (l.length-1)=l.dropLast:=by
 induction l with
 | nil=>rfl
 | cons a r ih=>
   cases r with
   | nil=>rfl
   | cons b r=>
     have e:(a::b::r).length-1=((b::r).length-1)+1:=by
      have h1:(a::b::r).length=r.length+2:=rfl;have h2:(b::r).length=r.length+1:=rfl;assumption
     rw[e,List.eraseIdx_cons_succ,ih]
     all_goals rfl
theorem ic (its:yez):∀(k:Nat) (acc:yez),
 List.foldl (λx1 x2=>x1++x2) acc.toArray (List.replicate k its.toArray)=(acc++(List.replicate k its).flatten).toArray
 | 0,acc=>by simp
 | k+1,acc=>by
   have e:acc.toArray++its.toArray=(acc++its).toArray:=by simp
   have e2:(acc++its)++(List.replicate k its).flatten=acc++(List.replicate (k+1) its).flatten:=by
    rw[replicate_succ,flatten_cons,append_assoc]
   rw[←e2,←ic its k (acc++its),←e,replicate_succ,foldl_cons]
section
variable {X:Cx} {π:List (Addr×Obj)} {σ:St} {H:Hp} {s:Shared} {l b:Addr} {xs ys zs:List V}
theorem aF.lset {its its':yez} {n:Nat} {f:Array Value->Array Value} {t':Nat} (I:aF X π σ H s) (hH:H l=some (.lst xs))
 (e:s.heap.get? l=some { cls:= .type "list",data:= .seq its.toArray n }) (hf:f its.toArray=its'.toArray) (hv:aU ys its') (hz:ys.length<=sizeLine):
 aF X π σ (upd H l (.lst ys)) { s with heap:=s.heap.update l (Obj.mapSeq f),toks:=t' }:=by
 have q:=PySem.IsL.update e f;rw[hf] at q;refine I.write (x:=l) (e:=l) (by rw[hH];exact trivial) (.inl rfl) (λb' u hb hu=>(Heap.get?_update_other s.heap (Obj.mapSeq f) (Ne.symm hb)).trans hu) ⟨_,q⟩ ?_;exact⟨hz,its',_,hv,q⟩
theorem aF.lnew {its:yez} {t':Nat} (I:aF X π σ H s) (hv:aU ys its) (hz:ys.length<=sizeLine):
 aF X π σ (upd H s.heap.objs.size (.lst ys)) { s with heap:=s.heap.push { cls:= .type "list",data:= .seq its.toArray },toks:=t' }:=
 I.laid (λ_ _ q=>ybz _ q) (ycx _) ⟨hz,its,0,hv,ybw _ rfl⟩
theorem aF.fresh (I:aF X π σ H s):H s.heap.objs.size=none:=I.hok.fresh (ycx _)
theorem aF.lstM (I:aF X π σ H s) (hH:H l=some (.lst xs)):xs.length<=sizeLine/\∃(its:yez) (n:Nat),aU xs its/\xs.length=its.length/\s.heap.get? l=some { cls:= .type "list",data:= .seq its.toArray n }:=by
 obtain⟨z,its,n,r,e⟩:=I.hok l _ hH;exact⟨z,its,n,r,r.length,e⟩
theorem tD {n:Nat} (h:n<=sizeLine):Builtin.List.listTooLong n=false:=by
 unfold Builtin.List.listTooLong;exact ydy (by lia)
end
section
variable {X:Cx}
def wS:V->List V->Hp->VK->Prop:=λx vs H Q=>∃l xs y,x=.ref l/\vs=[y]/\H l=some (.lst xs)/\xs.length<sizeLine/\Q .non (upd H l (.lst (xs++[y])))
theorem rT:EZ X "list.append" wS:=by
 intro π s σ H x vs v us Q I rx rv h;obtain⟨l,xs,y,rfl,rfl,hH,hz,q⟩:=h;cases rx;obtain⟨u,rfl,ru⟩:=rv.one;obtain⟨z,its,n,r,hl,e⟩:=I.lstM hH;refine call_meets F.slot_list_append ⟨_,e,rfl⟩ F.entry_list_append (F.args_list_append_2 _ _) (PySem.list_append l its.toArray n u (by rw[size_toArray];lia)) ⟨e,?_⟩;refine⟨.non,_,I.lset (its':=its++[u]) hH e (by simp) (r.append (.cons ru .nil)) ?_,rfl,q⟩;rw[length_append,List.length_singleton];assumption
def E1:V->List V->Hp->VK->Prop:=λx vs H Q=>∃l xs y,x=.ref l/\vs=[]/\H l=some (.lst xs)/\xs[xs.length-1]?=some y/\Q y (upd H l (.lst xs.dropLast))
theorem As:EZ X "list.pop" E1:=by
 intro π s σ H x vs v us Q I rx rv h;obtain⟨l,xs,y,rfl,rfl,hH,hy,q⟩:=h;cases rx;have hus:=rv.zero;subst hus;obtain⟨z,its,n,r,hl,e⟩:=I.lstM hH;obtain⟨u,hu,ru⟩:=r.get hy;have hy':its.toArray[its.toArray.size-1]?=some u:=by
  show its.toArray[its.length-1]?=some u;rw[←Array.getElem?_toList,←hl];exact hu
 refine call_meets F.slot_list_pop ⟨_,e,rfl⟩ F.entry_list_pop (F.args_list_pop_1 _) (MeetsSeq.list_pop_last l its.toArray n u hy' (by rw[size_toArray];lia)) ⟨e,?_⟩;refine⟨y,_,I.lset (its':=its.dropLast) hH e ?_ r.dropLast ?_,ru,q⟩
 ·show its.toArray.eraseIdxIfInBounds (its.toArray.size-1)=its.dropLast.toArray;rw[size_toArray,List.eraseIdxIfInBounds_toArray,oZ]
 ·rw[List.length_dropLast];lia
def At:V->List V->Hp->VK->Prop:=λx vs H Q=>∃l xs,x=.ref l/\vs=[]/\H l=some (.lst xs)/\Q .non (upd H l (.lst []))
theorem tE:EZ X "list.clear" At:=by
 intro π s σ H x vs v us Q I rx rv h;obtain⟨l,xs,rfl,rfl,hH,q⟩:=h;cases rx;have hus:=rv.zero;subst hus;obtain⟨z,its,n,r,hl,e⟩:=I.lstM hH;refine call_meets F.slot_list_clear ⟨_,e,rfl⟩ F.entry_list_clear (F.args_list_clear_1 _) (AutoSeq1.list_clear_list_0 l its.toArray n (by rw[size_toArray];lia)) ⟨e,?_⟩;exact⟨.non,_,I.lset (its':=[]) (ys:=[]) hH e rfl .nil (zero_le _),rfl,q⟩
def E2:R2:=λx y H Q=>∃l b xs zs,x=.ref l/\y=.ref b/\H l=some (.lst xs)/\H b=some (.lst zs)/\xs.length+zs.length<=sizeLine/\∀p,H p=none->Q (.ref p) (upd H p (.lst (xs++zs)))
theorem Au:iK X (binaryOp .Add) E2:=by
 intro π s σ H x y v u Q I rx ry h;obtain⟨l,b,xs,zs,rfl,rfl,hH,hB,hz,q⟩:=h;cases rx;cases ry;obtain⟨z,its,n,r,hl,e⟩:=I.lstM hH;obtain⟨z2,its2,n2,r2,hl2,e2⟩:=I.lstM hB;refine PySem.P.add_list e e2 ?_ (by rw[size_toArray,size_toArray];lia);have ea:its.toArray++its2.toArray=(its++its2).toArray:=by simp
 rw[ea];exact⟨.ref _,_,I.lnew (t':=s.toks) (r.append r2) (by rw[length_append];assumption),rfl,q _ I.fresh⟩
def E3:R2:=λx y H Q=>∃l k xs,x=.ref l/\y=.int k/\H l=some (.lst xs)/\-(2^63)<=k/\k<2^63/\xs.length*k.toNat<=sizeLine/\
 ∀p,H p=none->Q (.ref p) (upd H p (.lst (List.replicate k.toNat xs).flatten))
theorem jd {α:Type} (xs:List α) (k:Nat):(List.replicate k xs).flatten.length=k*xs.length:=by
 induction k with
 | zero=>simp
 | succ k ih=>rw[replicate_succ,flatten_cons,length_append,ih,Nat.succ_mul,Nat.add_comm]
theorem Av:iK X (binaryOp .Mult) E3:=by
 intro π s σ H x y v u Q I rx ry h;obtain⟨l,k,xs,rfl,rfl,hH,h1,h2,hz,q⟩:=h;cases rx;obtain⟨t,rfl⟩:=ry;obtain⟨z,its,n,r,hl,e⟩:=I.lstM hH;have hlen:its.toArray.size*k.toNat<=sizeLine:=by rw[size_toArray,←hl];exact hz
 have hcap:¬its.toArray.size*k.toNat > (2^63-1)/8:=by
  have:(sizeLine:Nat)<=(2^63-1)/8:=by decide
  lia
 have hfit:¬(!Builtin.List.listFitsIndex k)=true:=by
  rw[fitsIndex_both h1 h2];exact ydx
 have hlong:¬Builtin.List.listTooLong (its.toArray.size*k.toNat)=true:=by
  rw[tD hlen];exact ydx
 have hnew:List.foldl (λx1 x2=>x1++x2) #[] (List.replicate (if its.toArray.isEmpty=true then 0 else k.toNat) its.toArray)=(List.replicate k.toNat its).flatten.toArray:=by
  have f0:∀m:Nat,List.foldl (λx1 x2=>x1++x2) #[] (List.replicate m its.toArray)=(List.replicate m its).flatten.toArray:=λm=>by
   have:=ic its m [];rw[nil_append] at this;exact this
  rw[f0];cases its with
  | nil=>simp
  | cons a r'=>rw[ycw (by simp)]
 refine wpAny_binaryOp_repeat_ref (T:="list") (U:="int") (by decide) ⟨_,e,rfl⟩ (λs'=>typeIs_int s' k t) noFill_list_mul F.fills_int_mul F.slot_int_rmul repeat_list F.slot_int_index.lookup
  (call_meets F.slot_int_rmul (typeIs_int s k t) F.entry_int_rmul (F.args_int_rmul_2 _ _) (int___rmul___int_list k t l its.toArray n)
    ⟨e,rfl,⟨_,e,rfl⟩,call_meets F.slot_list_mul ⟨_,e,rfl⟩ F.entry_list_mul (F.args_list_mul_2 _ _) (AutoListH.list___mul___list_int_3 l its.toArray n k t hfit hcap hlong) ⟨e,?_⟩⟩)
 rw[hnew];exact⟨.ref _,_,I.lnew (t':=s.toks) (r.rep k.toNat) (by rw[jd,Nat.mul_comm];exact hz),rfl,q _ I.fresh⟩
end
section
variable {prog:Program} {w:World} {A:Around} {E:yey} {s:Shared}
set_option maxRecDepth 100000 in
end
section
variable {X:Cx}
end
end L2
namespace Att
open PySem PySem.W PySem.Calls PyProof.Rows
theorem iZ {P:Params} {h:Heap}:∀(ns:List Int) (vs:yez),WellAll P h vs (ns.map WData.int)->IntsAre vs ns:=by
 intro ns
 induction ns with
 | nil=>
   intro vs w;rw[map_nil] at w;cases w;exact .nil
 | cons n ns ih=>
   intro vs w;rw[map_cons] at w;cases w with
   | cons a b=>
     cases a;exact .cons _ _ (ih _ b)
theorem script_of {l:OpenLaw} {n:Nat} (hn:l.most=some n) {P:Params} {h:Heap} {args:List WData} {vals:yez}
 (hpre:l.row.toRowW.claim.pre args=true) (hwl:WellAll P h vals args):
 ∃a vs ns,vals=[Value.ref a]/\args=[WData.list (ns.map WData.int)]/\h.get? a=some { cls:= .type "list",data:= .seq vs.toArray }/\IntsAre vs ns/\ns.length<=n:=by
 have hsh:WShape.hasAll [] args [.list .int]=true:=(pre_splitW hpre).1;have hc:l.pre.holds [] { args:=args }=true:=(pre_splitW hpre).2;obtain⟨d,r,rfl,h1,h2⟩:=hasAllW_cons hsh;obtain rfl:=hasAllW_nil h2;obtain⟨xs,rfl,h3⟩:=hasW_list h1;obtain⟨ns,rfl⟩:=items_int h3;have hlen:ns.length<=n:=by
  unfold OpenLaw.pre at hc;have h4:(WTm.not (.lt (.lit (.int (n:Int))) (.len (.arg 0)))).holds [] { args:=[.list (ns.map .int)] }=true:=by
   have h4:=(holds_andW hc).1;rw[hn] at h4;exact h4
  have h5:=condW_of h4 (w_not (w_lt w_lit (w_len_list (w_arg rfl))));rw[length_map] at h5;refine Nat.le_of_not_lt λq=>?_;have q':(n:Int)<((ns.length:Nat):Int):=by lia
  first
   | (rw[ydz q'] at h5;exact absurd h5 (by decide))
   | (simp at h5;lia)
 cases hwl with
 | cons w1 w2=>
   cases w2;cases w1 with
   | list ho hall=>exact⟨_,_,ns,rfl,rfl,ho,iZ ns _ hall,hlen⟩
theorem post_true (l:OpenLaw) (args:List WData):l.row.toRowW.claim.post args (.bool true) args=true:=
 postW_of (r:=l.row.toRowW) (X:=(true==true))
  (show WShape.has [] (.bool true) .bool=true by first | rfl | decide | simp[WShape.has,WShape.arms,WShape.armsAll])
  (show(WTm.eq .res (.lit (.bool true))).value [] { args:=args,res:=some (.bool true),after:=args }=some (.bool (true==true)) from w_eq_bool (w_res rfl) w_lit) rfl
section
variable {prog:Program} {w:World} {A:Around} {E:yey} {s:Shared} {K:Frag}
end
end Att
namespace L2
open PySem PySem.Spec PyProof.Rows
theorem kG:∀{vs:yez} {ns:List Int},IntsAre vs ns->aU (ns.map V.int) vs
 | _,_,.nil=> .nil
 | _,_,.cons n t h=> .cons ⟨t,rfl⟩ (kG h)
def tF (H:Hp):Prop:=∀b,H b=none∨∃o xs,H b=some (.frz o (.lst xs))
theorem tG {mg mb:yew} {CX:oV} {fa a:Addr} {sp:Sp} {s₁:Shared} {vs:yez} {ns:List Int}
 (KX:K.In s₁.heap) (hns:s₁.heap.Ns mainGlobals mg) (hb:s₁.heap.Ns builtinsNs mb) (hbb:∀x:Str,x≠"__name__"->mb x=bootBuiltins x) (hlim:s₁.heap.NoLimit) (hg:s₁.gens= #[])
 (ha:s₁.heap.get? a=some { cls:= .type "list",data:= .seq vs.toArray }) (hi:IntsAre vs ns) (hl:ns.length<=sizeLine) (hr:aB k callerA)
 (F:∀base:Heap,K.In base->base.Ns mainGlobals mg->dR P w K mg base CX k fa fd [x] sp) (hbind:∀(s:Shared) (u:Value),BindsTo s fd ⟨[u],[]⟩ [(x,u)])
 (hsp:∀H:Hp,tF H->cC K H a (ns.map V.int)->sp [.ref a] H (λv _=>v=.bl true) λ_ _ _=>False)
 (hCX:∀H e s',CX [] H s₁ (λ_ _ _=>False) e s'->False):
 codeAny (model P w) callerA (.call (.ref fa) ⟨[.ref a],[]⟩) (λr s'=>r=.ok (.ret (.bool true))/\OldK s₁.heap s'.heap/\s'.os=s₁.os/\AllBare s'.gens) s₁:=by
 have rv:=kG hi;have lenV:=hi.length
 -- from an abstract heap in which nothing but the script may be tracked
 have core:∀H:Hp,tF H->cC K H a (ns.map V.int)->fG P w H s₁.heap->(∀b,H b≠none->b=a)->(H a≠none->K.lookup a=none)->
  codeAny (model P w) callerA (.call (.ref fa) ⟨[.ref a],[]⟩) (λr s'=>r=.ok (.ret (.bool true))/\OldK s₁.heap s'.heap/\s'.os=s₁.os/\AllBare s'.gens) s₁:=by
  intro H hO hS hok hA hK;have base_of:∀{b:Addr} {o:Obj},s₁.heap.get? b=some o->H b=none->(lB s₁.heap H).get? b=some o:=λe n=>sK e n;have noA:∀{b:Addr} {o:Obj} {es:Array DictEntry} {ep:Nat},s₁.heap.get? b=some o->o.data=.dict es ep->H b=none:=λ{b o es ep} e d=>by
   cases q:H b with
   | none=>rfl
   | some u=>
     have e':b=a:=hA b (by rw[q];simp);subst e';rw[ha] at e;cases e;have d':Data.seq vs.toArray _=Data.dict es ep:=d;cases d'
  have nsK:∀{b:Addr} {m:yew},s₁.heap.Ns b m->(lB s₁.heap H).Ns b m:=λ{b m} ⟨o,es,ep,e,d,r⟩=>⟨o,es,ep,base_of e (noA e d),d,r⟩;have hKb:K.In (lB s₁.heap H):=λb o e=>base_of (KX b o e) (by
   cases q:H b with
   | none=>rfl
   | some u=>
     have e':b=a:=hA b (by rw[q];simp);subst e';rw[hK (by rw[q];simp)] at e;cases e)
  have hM:Mod K mg (lB s₁.heap H):=⟨hKb,nsK hns,⟨mb,nsK hb,hbb⟩,let ⟨mc,h1,h2⟩:=hlim;⟨mc,nsK h1,h2⟩⟩;have e0:mQ P w K mg (lB s₁.heap H) callerA [] s₁ H:=⟨rfl,hM,λb o e=>wu e,Nat.le_of_eq (rH _ _),trivial,λb hb=>absurd (show b∈([]:List Addr) from hb) (by simp),hok,.of_eq hg⟩;refine codeAny_mono ((F _ hKb (nsK hns)).run callerA [] s₁ H ⟨[.ref a],[]⟩ [.ref a] [.ref a] _ _ hr e0 (hbind s₁ (.ref a)) (.cons rfl .nil) (hsp H hO hS)) λr s' h=>?_;cases r with
  | error e=>exact(hCX H e s' h).elim
  | ok fl=>
    cases fl with
    | next=>exact False.elim h
    | brk=>exact False.elim h
    | cont=>exact False.elim h
    | ret u=>
      obtain⟨v,H',os,bare,un,hok',r',q⟩:=h;have q':v=.bl true:=q;subst q';obtain rfl:u=Value.bool true:=r';refine⟨rfl,OldK.of_keep λb o e=>?_,os,bare⟩;cases q:H b with
      | none=>exact un.keep b o e q (by intro z;exact absurd (show b∈([]:List Addr) from z) (by simp)) (by simp)
      | some u=>
        rcases hO b with z | ⟨ob,xs,z⟩
        ·rw[q] at z;cases z
        ·have z2:=un.frzs b ob _ z;obtain⟨e1,_⟩:=hok b _ z;obtain⟨e2,_⟩:=hok' b _ z2;rw[e] at e1;cases e1;exact e2
 cases hk:K.lookup a with
 | some o=>
   -- the script is one of the module's own objects
   have e:=KX a o hk;rw[ha] at e;cases e;refine core (λ_=>none) (λ_=> .inl rfl) (.inr ⟨_,vs.toArray,_,hk,rfl,rfl,rfl,by rw[size_toArray,lenV];exact hl,by simpa using rv⟩) (λb u z=>by have z':(none:Option HO)=some u:=z;cases z') (λb z=>absurd rfl z) λz=>absurd rfl z
 | none=>
   refine core (λb=>if b=a then some (.frz { cls:= .type "list",data:= .seq vs.toArray } (.lst (ns.map V.int))) else none) (λb=>?_) (.inl (.inr ⟨{ cls:= .type "list",data:= .seq vs.toArray },ycv rfl⟩)) (λb u z=>?_) (λb z=>?_) λ_=>hk
   ·by_cases hb:b=a
    ·exact .inr ⟨_,_,ycv hb⟩
    ·exact .inl (ycw hb)
   ·by_cases hb:b=a
    ·have z':=(ycv hb).symm.trans z;cases z';subst hb;exact⟨ha,by rw[length_map];exact hl,vs,_,rv,ha⟩
    ·have z':=(ycw hb).symm.trans z;cases z'
   ·by_cases hb:b=a
    ·exact hb
    ·exact absurd (ycw hb) z
noncomputable def aq (s:Stmt):Arguments:=match s with
 | .FunctionDef _ a _ _ _ _ _ _ _ _=>a
 | _=>{ posonlyargs:=[],args:=[],vararg:=none,kwonlyargs:=[],kw_defaults:=[],kwarg:=none,defaults:=[] }
noncomputable def ap (s:Stmt):List Stmt:=match s with
 | .FunctionDef _ _ b _ _ _ _ _ _ _=>b
 | _=>[]
noncomputable def am (s:Stmt):Scope:=match s with
 | .FunctionDef _ _ _ _ _ _ sc _ _ _=>sc
 | _=>{ kind:= .function,names:=[],isGenerator:=false,isCoroutine:=false }
abbrev tH:oV:=λ_ _ _ _ _ _=>False
abbrev E0:XK:=λ_ _ _=>False
theorem kH {X:Cx}:eF tH X E0:=λ_ _ _ _ _ _ _ h=>h.elim
structure cz (K:yav) (x qual:Str) (st:Stmt) (f:Addr) (fd:FuncData):Prop where
 ex:∃(oc:Value) (od:Option Addr) (kV doc pm:Value) (an:Option Addr) (cdv ct:Value) (osl:Array (Option Value)),
  fd=fnOf x qual (aq st) (ap st) (am st) .none kV doc pm an cdv ct/\K.lookup f=some ⟨oc,od,.func fd,osl⟩/\codeIn K cdv qual=true
 kp:keepIn K (.ref f)=true
section
variable {P:Program} {w:World} {K:yav} {mg:yew} {base:Heap}
theorem cz.ok {x qual:Str} {f:Addr} {N ps:List Str} {sp:Sp} (F:cz K x qual st f fd) (S:bV N ps (am st)) (len:∀vs H Q E,sp vs H Q E->vs.length=ps.length)
 (hbody:∀(cdv:Value) (A:Around) (outer:List Env) (s:Shared) (H:Hp) (vs:List V) (Q:VK) (E:XK),aB k (A.deeper (envOfC qual (am st) s.heap.objs.size f cdv))->sp vs H Q E->
   ∃t,mK (dL tH P w K mg base N qual (am st) f cdv A outer s H E).nox (ap st) t/\t { nx:=λ_ H'=>Q .non H',rt:=Q } (start N vs) H):dR P w K mg base tH (k+1) f fd ps sp:=by
 obtain⟨oc,od,kV,doc,pm,an,cdv,ct,osl,rfl,lk,hcd⟩:=F.ex;refine p9 lk hcd S len λA outer s H vs Q E hr hsp=>?_;obtain⟨t,h,q⟩:=hbody cdv A outer s H vs Q E hr hsp;exact⟨t,h.nox,q⟩
theorem cz.binds {x qual:Str} {f:Addr} (F:cz K x qual st f fd)
 (h:∀(kV doc pm:Value) (an:Option Addr) (cdv ct:Value) (us:yez),us.length=ps.length->bindArgs (fnOf x qual (aq st) (ap st) (am st) .none kV doc pm an cdv ct) ⟨us,[]⟩=pure (ps.zip us)):bM K fd ps []:=by
 obtain⟨oc,od,kV,doc,pm,an,cdv,ct,osl,rfl,lk,hcd⟩:=F.ex;exact .all (h kV doc pm an cdv ct)
theorem aL {x qual:Str} {f:Addr} {oc:Value} {od an:Option Addr} {osl:Array (Option Value)} {kV doc pm cdv ct:Value} (l:K.lookup f=some ⟨oc,od,.func (fnOf x qual (aq st) (ap st) (am st) .none kV doc pm an cdv ct),osl⟩)
 (c:codeIn K cdv qual=true) (k:keepIn K (.ref f)=true):cz K x qual st f (fnOf x qual (aq st) (ap st) (am st) .none kV doc pm an cdv ct):=⟨⟨oc,od,kV,doc,pm,an,cdv,ct,osl,rfl,l,c⟩,k⟩
end
section
variable {X:Cx}
theorem pv (i:Nat) (hN:X.N[i]?=some x:=by rfl) (hv:BQ X.env.scope x:=by first | exact Or.inl rfl | exact Or.inr (Or.inl rfl) | exact Or.inr (Or.inr rfl)) (hd:(x==("__debug__":Str))=false:=by decide)
 (hcd:(x==("__classdict__":Str))=false:=by decide):PE X (.Name x pos) (BU i):=oJ hN hv hd hcd
end
section
variable {κ:Type} [DecidableEq κ]
noncomputable def lJ (kvs:List (κ×V)) (k:κ):Option V:=(kvs.find? λkv=>decide (kv.1=k)).map (·.2)
noncomputable def ie (kvs:List (κ×V)) (k:κ) (v:V):List (κ×V):=
 if (kvs.any λkv=>decide (kv.1=k))=true then kvs.map (λkv=>if kv.1=k then (kv.1,v) else kv) else kvs++[(k,v)]
theorem mT {p:κ×V} {r:List (κ×V)} {k:κ} (e:p.1=k):lJ (p::r) k=some p.2:=by simp[lJ,List.find?_cons,e]
theorem mU {p:κ×V} {r:List (κ×V)} {k:κ} (e:¬p.1=k):lJ (p::r) k=lJ r k:=by simp[lJ,List.find?_cons,e]
theorem mV (kvs:List (κ×V)) (k:κ) (v:V):(ie kvs k v).length<=kvs.length+1:=by
 unfold ie;split
 ·rw[length_map];lia
 ·rw[length_append,length_cons,length_nil];lia
theorem fE.getD {o:Option V} {u:Option Value} {d:V} {d':Value} (r:fE o u) (rd:bd d d'):bd (o.getD d) (u.getD d'):=by
 cases o with
 | none=>cases u with
   | none=>exact rd
   | some _=>exact(show False from r).elim
 | some _=>cases u with
   | none=>exact(show False from r).elim
   | some _=>exact r
theorem KV.val {kvs:List (κ×V)} {vs:List (κ×Value)} (r:KV kvs vs) (k:κ):fE (lJ kvs k) (valueAt vs k):=by
 unfold KV at r
 induction r with
 | nil=>exact True.intro
 | @cons p q ps qs h t ih=>
   obtain⟨h1,h2⟩:=h
   by_cases e:p.1=k
   ·have e':q.1=k:=h1.symm.trans e;have b:valueAt (q::qs) k=some q.2:=by simp[valueAt,List.find?_cons,e']
    rw[mT e,b];exact h2
   ·have e':¬q.1=k:=λz=>e (h1.trans z);have b:valueAt (q::qs) k=valueAt qs k:=by simp[valueAt,List.find?_cons,e']
    rw[mU e,b];exact ih
theorem KV.any {kvs:List (κ×V)} {vs:List (κ×Value)} (r:KV kvs vs) (k:κ):(kvs.any λkv=>decide (kv.1=k))=vs.any λkv=>decide (kv.1=k):=by
 unfold KV at r
 induction r with
 | nil=>rfl
 | cons h t ih=>rw[any_cons,any_cons,ih,h.1]
theorem KV.repl {kvs:List (κ×V)} {vs:List (κ×Value)} (r:KV kvs vs) (k:κ) {y:V} (ry:bd y u):
 KV (kvs.map λkv=>if kv.1=k then (kv.1,y) else kv) (vs.map λkv=>if kv.1=k then (kv.1,u) else kv):=by
 unfold KV at r ⊢
 induction r with
 | nil=>exact .nil
 | @cons p q ps qs h t ih=>
   rw[map_cons,map_cons];refine .cons ?_ ih;obtain⟨h1,h2⟩:=h
   by_cases e:p.1=k
   ·rw[ycv e,ycv (h1.symm.trans e)];exact⟨h1,ry⟩
   ·rw[ycw e,ycw (λz=>e (h1.trans z))];exact⟨h1,h2⟩
theorem KV.put {kvs:List (κ×V)} {vs:List (κ×Value)} (r:KV kvs vs) (k:κ) {y:V} (ry:bd y u):KV (ie kvs k y) (stored vs k u):=by
 unfold ie stored;rw[r.any k]
 by_cases e:(vs.any λkv=>decide (kv.1=k))=true
 ·rw[ycv e,ycv e];exact r.repl k ry
 ·rw[ycw e,ycw e];exact Paired.snoc r ⟨rfl,ry⟩
theorem KV.keys {kvs:List (κ×V)} {vs:List (κ×Value)} (r:KV kvs vs):kvs.map (·.1)=vs.map (·.1):=by
 unfold KV at r
 induction r with
 | nil=>rfl
 | cons h t ih=>rw[map_cons,map_cons,ih,h.1]
theorem KV.length {kvs:List (κ×V)} {vs:List (κ×Value)} (r:KV kvs vs):kvs.length=vs.length:=Paired.length r
end
theorem kJ {k:aK} (r:bd (kV k) u):(aV P w).is k u=true:=by
 cases k with
 | inl i=>obtain⟨t,e⟩:=(show ∃t,u=Value.int i t from r);subst e;exact dS P w i t
 | inr x=>obtain⟨t,e⟩:=(show ∃t,u=Value.str x t from r);subst e;exact mM P w x t
section
variable {P:Program} {w:World} {H:Hp} {h:Heap} {a:Addr}
theorem yQ {u:HO} (ok:fG P w H h) (e:Rd H a u):bG P w H h a u:=e.ok ok
theorem fb {kvs:List (aK×V)} (ok:fG P w H h) (e:Rd H a (.dK kvs)):kvs.length<=sizeLine/\(a==sysModules)=false/\∃vs,KV kvs vs/\h.DictOf (aV P w) a vs:=
 show bG P w H h a (.dK kvs) from yQ ok e
theorem kL {kvs:List (aK×V)} (ok:fG P w H h) (e:H a=some (.dK kvs)):kvs.length<=sizeLine/\(a==sysModules)=false/\∃vs,KV kvs vs/\h.DictOf (aV P w) a vs:=fb ok (.inl e)
end
section
variable {X:Cx} {π:List (Addr×Obj)} {σ:St} {H:Hp} {s:Shared} {a:Addr} {y v:V} {u r:Value} {o:Option V} {A:Around} {E:yey}
theorem aF.bigD (I:aF X π σ H s):sysModules<s.heap.objs.size:=by
 have h:mainGlobals<s.heap.objs.size:=(I.mod.glob.keeps I.bk).lt;exact Nat.lt_trans (by decide) h
theorem qg {h':Heap} {t':Nat} {ob:HO} (I:aF X π σ H s) (mu:BS (H a)) (hs:Heap.SameBut a s.heap h') (he:∃q,h'.get? a=some q) (new:bG X.prog X.w (upd H a ob) h' a ob):
 aF X π σ (upd H a ob) { s with heap:=h',toks:=t' }:=
 I.write (x:=a) (e:=a) mu (.inl rfl) (λb q hb z=>(hs.2 b hb).trans z) he new
theorem Ax {H':Hp} {h':Heap} {kvs:List (aK×V)} {vs:List (aK×Value)} (z:kvs.length<=sizeLine) (hd:(a==sysModules)=false) (rel:KV kvs vs) (dd:h'.DictOf (aV P w) a vs):
 bG P w H' h' a (.dK kvs):=⟨z,hd,vs,rel,dd⟩
end
section
variable {X:Cx} {π:List (Addr×Obj)} {σ:St} {H:Hp} {s:Shared} {a:Addr} {kvs:List (aK×V)} {k:aK} {u:Value} {A:Around} {E:yey}
theorem Ct (I:aF X π σ H s) (e:Rd H a (.dK kvs)) (h:∀t s',aF X π σ H s'->Q (.int kvs.length t) s'):wpAny (model X.prog X.w) A (call (.builtin "len") [.ref a]) Q E s:=by
 obtain⟨z,hd,vs,rel,dd⟩:=fb I.hok e;refine call_len_dict hd dd (by rw[←rel.length];rw[sizeLine_eq] at z;lia) ?_;rw[←rel.length];exact h _ _ (I.tok _)
end
section
variable {X:Cx} {o i e value:Expr} {pos pos' tpos:Pos} {td ty tv:TE}
end
theorem rV {H:Hp} (h:Heap) (hb:sysModules<h.objs.size):bG P w H (h.push { cls:= .type "dict",data:= .dict #[] }) h.objs.size (.dK []):=
 ⟨zero_le _,beq_eq_false_iff_ne.mpr (Ne.symm (ne_of_lt hb)),[],.nil,Heap.DictOf.new h⟩
def Ay:TE:=λ_ H Q=>∀p,H p=none->Q (.ref p) (upd H p (.dK []))
section
variable {X:Cx} {pos:Pos}
theorem pe_dnewK:PE X (.Dict [] [] pos) Ay:=λπ s σ H Q I h=>
 wpAny_Dict_empty ⟨.ref s.heap.objs.size,_,I.laid (a:=s.heap.objs.size) (o:= .dK []) (t':=s.toks) (λ_ _ q=>ybz _ q) (ycx _) (rV s.heap I.bigD),rfl,h _ (I.hok.fresh (ycx _))⟩
end
abbrev VV:List (V×V)->List (Value×Value)->Prop:=Paired λp q=>bd p.1 q.1/\bd p.2 q.2
structure M1 (X:Cx) (o:Expr) (m:Str) (apos:Pos) (e:Expr) (cpos:Pos):Prop where
 base:attributeBase o m X.env (eval o X.env)=eval o X.env
 few:((backTo cpos (starEach [e] X.env)).all (λx=>!x.1)&&(backToKw cpos (keywordEach [] X.env)).all (λx=>x.1.isSome)
  &&decide (([e]:List Expr).length+([]:List Keyword).length+(if ([]:List Keyword).isEmpty then 0 else 1)<30))=true
 line:(apos.endLine==cpos.line)=true
 trees:backTo cpos (starEach [e] X.env)=[(false,eval e X.env)]
structure M2 (X:Cx) (o:Expr) (m:Str) (apos:Pos) (e f:Expr) (cpos:Pos):Prop where
 base:attributeBase o m X.env (eval o X.env)=eval o X.env
 few:((backTo cpos (starEach [e,f] X.env)).all (λx=>!x.1)&&(backToKw cpos (keywordEach [] X.env)).all (λx=>x.1.isSome)
  &&decide (([e,f]:List Expr).length+([]:List Keyword).length+(if ([]:List Keyword).isEmpty then 0 else 1)<30))=true
 line:(apos.endLine==cpos.line)=true
 trees:backTo cpos (starEach [e,f] X.env)=[(false,eval e X.env),(false,eval f X.env)]
section
variable {X:Cx} {π:List (Addr×Obj)} {σ:St} {H:Hp} {s:Shared} {a:Addr} {y d:V} {u r:Value} {o:Option V} {A:Around} {E:yey}
end
section
variable {X:Cx} {o e f:Expr} {apos cpos:Pos} {td ty tx:TE}
end
section
variable {X:Cx} {π:List (Addr×Obj)} {σ:St} {H:Hp} {s:Shared} {a:Addr} {kvs:List (aK×V)} {A:Around} {E:yey}
end
section
variable {X:Cx} {π:List (Addr×Obj)} {σ:St} {H:Hp} {s:Shared} {a:Addr} {y:V} {u:Value} {A:Around} {E:yey}
end
inductive W where
 | non | bl (b:Bool) | int (i:Int) | str (x:Str) | ref (a:Addr) | tup (xs:List W) | scr (ns:List Int)
inductive GO where
 | lst (ws:List W)
 | dct
 | exc (C:Addr)
 | dic (kvs:List (aK×W))
 | fdc (o:Obj) (us:List (aK×V)) (kvs:List (aK×W))
 | ins (C:Addr) (fs:List (Str×W))
 | tbl (ps:Array Value)
 | any (P:Hp->Addr->Prop)
abbrev Gp:=Addr->Option GO
noncomputable def aw (G:Gp) (a:Addr) (g:GO):Gp:=λb=>if b=a then some g else G b
theorem af {G:Gp} {g:GO}:aw G a g a=some g:=by unfold aw;rw[ycv rfl]
theorem ao {G:Gp} {a b:Addr} {g:GO} (h:b≠a):aw G a g b=G b:=by unfold aw;rw[ycw h]
def yR (K:yav) (H:Hp) (a:Addr) (ns:List Int):Prop:=
 (∃o,H a=some (.frz o (.lst (ns.map V.int))))∨
   ∃(o:Obj) (its:Array Value) (n:Nat),K.lookup a=some o/\o.cls=.type "list"/\o.dict=none/\o.data=.seq its n/\its.size<=sizeLine/\aU (ns.map V.int) its.toList
theorem yR.sq {H:Hp} {ns:List Int} (h:yR K H a ns):cC K H a (ns.map V.int):=by
 rcases h with⟨o,h⟩ | h
 ·exact .inl (.inr ⟨o,h⟩)
 ·exact .inr h
structure aR (H H1:Hp):Prop where
 tup:∀a xs,H a=some (.tup xs)->H1 a=some (.tup xs)
 frz:∀a o xs,H a=some (.frz o (.lst xs))->H1 a=some (.frz o (.lst xs))
theorem aR.refl (H:Hp):aR H H:=⟨λ_ _ h=>h,λ_ _ _ h=>h⟩
theorem aR.trans {H H1 H2:Hp} (a:aR H H1) (b:aR H1 H2):aR H H2:=
 ⟨λx xs h=>b.tup x xs (a.tup x xs h),λx o u h=>b.frz x o u (a.frz x o u h)⟩
theorem aR.new {H:Hp} {p:Addr} (hp:H p=none) (o:HO):aR H (upd H p o):=
 ⟨λ_ _ h=>by rw[aH (bg h hp)];exact h,λ_ _ _ h=>by rw[aH (bg h hp)];exact h⟩
theorem aR.lst {H:Hp} {p:Addr} {xs:List V} (hp:H p=some (.lst xs)) (o:HO):aR H (upd H p o):=
 ⟨λ_ _ h=>by rw[aH (fJ h hp (by intro z;cases z))];exact h,λ_ _ _ h=>by rw[aH (fJ h hp (by intro z;cases z))];exact h⟩
mutual
inductive bK (K:yav) (H:Hp):W->V->Prop where
 | non:bK K H .non .non
 | bl (b:Bool):bK K H (.bl b) (.bl b)
 | int (i:Int):bK K H (.int i) (.int i)
 | str (x:Str):bK K H (.str x) (.str x)
 | ref (a:Addr):bK K H (.ref a) (.ref a)
 | tup {a:Addr} {ws:List W} {xs:List V} (h:H a=some (.tup xs)) (r:aS K H ws xs):bK K H (.tup ws) (.ref a)
 | scr {a:Addr} {ns:List Int} (h:yR K H a ns):bK K H (.scr ns) (.ref a)
inductive aS (K:yav) (H:Hp):List W->List V->Prop where
 | nil:aS K H [] []
 | cons {w:W} {v:V} {ws:List W} {vs:List V} (r:bK K H w v) (rs:aS K H ws vs):aS K H (w::ws) (v::vs)
end
section
variable {K:yav} {H H1:Hp}
theorem yR.mono {ns:List Int} (t:aR H H1) (h:yR K H a ns):yR K H1 a ns:=by
 rcases h with⟨o,h⟩ | h
 ·exact .inl ⟨o,t.frz _ _ _ h⟩
 ·exact .inr h
mutual
theorem bK.mono (t:aR H H1):∀{w:W} {v:V},bK K H w v->bK K H1 w v
 | _,_,.non=> .non
 | _,_,.bl b=> .bl b
 | _,_,.int i=> .int i
 | _,_,.str x=> .str x
 | _,_,.ref a=> .ref a
 | _,_,.tup h r=> .tup (t.tup _ _ h) (aS.mono t r)
 | _,_,.scr h=> .scr (h.mono t)
theorem aS.mono (t:aR H H1):∀{ws:List W} {vs:List V},aS K H ws vs->aS K H1 ws vs
 | _,_,.nil=> .nil
 | _,_,.cons r rs=> .cons (bK.mono t r) (aS.mono t rs)
end
theorem aS.length:∀{ws:List W} {vs:List V},aS K H ws vs->ws.length=vs.length
 | _,_,.nil=>rfl
 | _,_,.cons _ rs=>congrArg (·+1) rs.length
theorem aS.append:∀{ws us:List W} {vs xs:List V},aS K H ws vs->aS K H us xs->aS K H (ws++us) (vs++xs)
 | _,_,_,_,.nil,s=>s
 | _,_,_,_,.cons r rs,s=> .cons r (rs.append s)
theorem aS.take:∀{ws:List W} {vs:List V} (n:Nat),aS K H ws vs->aS K H (ws.take n) (vs.take n)
 | _,_,0,_=> .nil
 | _,_,_+1,.nil=> .nil
 | _,_,n+1,.cons r rs=> .cons r (rs.take n)
theorem aS.drop:∀{ws:List W} {vs:List V} (n:Nat),aS K H ws vs->aS K H (ws.drop n) (vs.drop n)
 | _,_,0,r=>r
 | _,_,_+1,.nil=> .nil
 | _,_,n+1,.cons _ rs=>rs.drop n
theorem aS.get:∀{ws:List W} {vs:List V} {i:Nat} {w:W},aS K H ws vs->ws[i]?=some w->∃v,vs[i]?=some v/\bK K H w v
 | _,_,_,_,.nil,e=>by simp at e
 | _,_,0,_,.cons r _,e=>by simp at e;subst e;exact⟨_,rfl,r⟩
 | _,_,i+1,w,.cons _ rs,e=>by
   obtain⟨v,h1,h2⟩:=aS.get (i:=i) (w:=w) rs (by simpa using e);exact⟨v,by simpa using h1,h2⟩
theorem aS.ints:∀ns:List Int,aS K H (ns.map W.int) (ns.map V.int)
 | []=> .nil
 | n::ns=> .cons (.int n) (aS.ints ns)
end
noncomputable abbrev bmV:List Value:=[.type "ValueError",.type "Exception",.type "BaseException",.type "object"]
structure XC (K:yav) (C:Addr) (bm:yez):Prop where
 obj:∀h:Heap,K.In h->∃N nm qn bs hdct sn sub ab col dd k0 k1 k2 k3 k5 mN,h.get? C=some (excClassObj nm qn C N bs bm hdct sn sub ab col dd k0 k1 k2 k3 k5 "ValueError.__new__")/\h.Ns N mN/\mN "__init__"=none/\OwnTail h bmV bm
 mro:∀v,mroIn K C v=some ((Value.ref C::bm).contains v)
structure XQ (K:yav) (C:Addr):Prop where
 ga:findIn K (.ref C) "__getattribute__"=some (some (.builtin "BaseException.__getattribute__"))
 gx:findIn K (.ref C) "__getattr__"=some none
 gc:findIn K (.ref C) "__class__"=some (some (.builtin "object.__class__"))
structure XD (K:yav) (D:Addr):Prop where
 cls:∃cd,clsIn K D=some cd
 ty:typeIn K (.ref D)=some (.type "type")
 ins:instIn K (.ref D) (.type "type")=some true
structure XO (K:yav) (C:Addr):Prop where
 c:∃bm,XC K C bm
 q:XQ K C
 d:XD K C
def yS (K:yav) (H:Hp) (a:Addr):GO->Prop
 | .lst ws=>ws.length<=100000/\∃xs,H a=some (.lst xs)/\aS K H ws xs
 | .dct=>H a=some (.dK [])
 | .exc C=>XO K C/\H a=some (.ext λh=>∃o,h.get? a=some o/\o.cls=.ref C)
 | .dic kvs=>kvs.length<=100000/\∃kvs',H a=some (.dK kvs')/\kvs'.map (·.1)=kvs.map (·.1)/\aS K H (kvs.map (·.2)) (kvs'.map (·.2))
 | .fdc o us kvs=>kvs.length<=100000/\H a=some (.frz o (.dK us))/\us.map (·.1)=kvs.map (·.1)/\aS K H (kvs.map (·.2)) (us.map (·.2))
 | .ins C fs=>fs.length<=100/\∃dx fs',H a=some (.ins C dx fs')/\fs'.map (·.1)=fs.map (·.1)/\aS K H (fs.map (·.2)) (fs'.map (·.2))
 | .tbl ps=>H a=some (.tbl ps)
 | .any P=>P H a/\(∃o,H a=some o)/\∀H1 H2:Hp,aR H1 H2->H2 a=H1 a->P H1 a->P H2 a
def aP (K:yav) (H:Hp) (G:Gp):Prop:=∀a g,G a=some g->yS K H a g
section
variable {K:yav} {H H1:Hp} {G:Gp} {p a:Addr} {g:GO}
theorem yS.has (h:yS K H a g):∃o,H a=some o:=by
 cases g with
 | lst ws=>obtain⟨_,_,e,_⟩:=h;exact⟨_,e⟩
 | dct=>exact⟨_,h⟩
 | exc C=>exact⟨_,h.2⟩
 | dic kvs=>obtain⟨_,_,e,_⟩:=h;exact⟨_,e⟩
 | fdc o us kvs=>obtain⟨_,e,_⟩:=h;exact⟨_,e⟩
 | ins C fs=>obtain⟨_,_,_,e,_⟩:=h;exact⟨_,e⟩
 | tbl ps=>exact⟨_,h⟩
 | any P=>exact h.2.1
theorem yS.mono (t:aR H H1) (e:H1 a=H a) (h:yS K H a g):yS K H1 a g:=by
 cases g with
 | lst ws=>obtain⟨l,xs,e1,r⟩:=h;exact⟨l,xs,e.trans e1,r.mono t⟩
 | dct=>exact e.trans h
 | exc C=>exact⟨h.1,e.trans h.2⟩
 | dic kvs=>obtain⟨l,xs,e1,n,r⟩:=h;exact⟨l,xs,e.trans e1,n,r.mono t⟩
 | fdc o us kvs=>obtain⟨l,e1,n,r⟩:=h;exact⟨l,e.trans e1,n,r.mono t⟩
 | ins C fs=>obtain⟨l,dx,xs,e1,n,r⟩:=h;exact⟨l,dx,xs,e.trans e1,n,r.mono t⟩
 | tbl ps=>exact e.trans h
 | any P=>exact⟨h.2.2 _ _ t e h.1,(let ⟨o,e1⟩:=h.2.1;⟨o,e.trans e1⟩),h.2.2⟩
theorem aP.fresh (h:aP K H G) (hp:H p=none):G p=none:=by
 cases e:G p with
 | none=>rfl
 | some g=>
   obtain⟨o,e1⟩:=(h p _ e).has;rw[hp] at e1;cases e1
theorem aP.upd (h:aP K H G) (t:aR H (upd H p o)) (hG:G p=none):aP K (L2.upd H p o) G:=λa g e=>by
 have hne:a≠p:=λz=>by rw[z,hG] at e;cases e
 exact(h a g e).mono t (aH hne)
theorem aP.keep (h:aP K H G) (hp:H p=none) (o:HO):aP K (L2.upd H p o) G:=h.upd (aR.new hp o) (h.fresh hp)
theorem aP.lay (h:aP K H G) {o:HO} (t:aR H (L2.upd H p o)) (n:yS K (L2.upd H p o) p g):aP K (L2.upd H p o) (aw G p g):=λa g' e=>by
 by_cases hb:a=p
 ·subst hb;rw[af] at e;cases e;exact n
 ·rw[ao hb] at e;exact(h a g' e).mono t (aH hb)
theorem aP.put (h:aP K H G) {xs:List V} {ws:List W} (t:aR H (L2.upd H p (.lst xs))) (r:aS K H ws xs) (hl:ws.length<=100000):aP K (L2.upd H p (.lst xs)) (aw G p (.lst ws)):=h.lay t ⟨hl,xs,aZ,r.mono t⟩
def aE (G0 G:Gp):Prop:=∀a g,G0 a=some g->G a=some g
theorem aP.le {G0:Gp} (h:aP K H G) (l:aE G0 G):aP K H G0:=λa g e=>h a g (l a g e)
theorem aE.refl (G:Gp):aE G G:=λ_ _ h=>h
theorem aE.trans {G0 G1 G2:Gp} (a:aE G0 G1) (b:aE G1 G2):aE G0 G2:=λx g h=>b x g (a x g h)
theorem aE.new {g:GO} (hp:G p=none):aE G (aw G p g):=λa u e=>by
 rw[ao (λz=>by rw[z,hp] at e;cases e)];exact e
end
abbrev cV:=List (Option W)
def bu (K:yav) (H:Hp) (τ:cV) (σ:St):Prop:=τ.length=σ.length/\∀(i:Nat) (w:W),τ[i]?=some (some w)->∃v,σ[i]?=some (some v)/\bK K H w v
section
variable {K:yav} {H H1:Hp} {τ:cV} {σ:St}
theorem bu.mono (t:aR H H1) (h:bu K H τ σ):bu K H1 τ σ:=⟨h.1,λi w e=>let ⟨v,e1,r⟩:=h.2 i w e;⟨v,e1,r.mono t⟩⟩
theorem bu.set (h:bu K H τ σ) {w:W} {v:V} (r:bK K H w v) (i:Nat):bu K H (τ.set i (some w)) (σ.set i (some v)):=by
 refine⟨by simpa using h.1,λj u e=>?_⟩
 by_cases hj:i=j
 ·subst hj
  by_cases hl:i<τ.length
  ·rw[List.getElem?_set_self hl] at e;cases e;exact⟨v,List.getElem?_set_self (by rw[←h.1];exact hl),r⟩
  ·rw[List.getElem?_eq_none (by simpa using hl)] at e;cases e
 ·rw[List.getElem?_set_ne hj] at e;obtain⟨u',e1,r1⟩:=h.2 j u e;exact⟨u',by rw[List.getElem?_set_ne hj];exact e1,r1⟩
theorem bu.start {N:List Str} {ws:List W} {vs:List V} (r:aS K H ws vs):bu K H (ws.map some++List.replicate (N.length-ws.length) none) (L2.start N vs):=by
 unfold L2.start;refine⟨by simp[r.length],λi w e=>?_⟩
 by_cases hi:i<ws.length
 ·rw[List.getElem?_append_left (by simpa using hi),List.getElem?_map] at e;cases e1:ws[i]? with
  | none=>rw[e1] at e;cases e
  | some u=>
    rw[e1] at e;cases e;obtain⟨v,e2,rv⟩:=r.get e1;refine⟨v,?_,rv⟩;rw[List.getElem?_append_left (by simpa[←r.length] using hi),List.getElem?_map,e2]
    rfl
 ·rw[List.getElem?_append_right (by simpa using hi),List.getElem?_replicate] at e;split at e<;> cases e
end
abbrev WK:=W->Gp->Prop
abbrev WE:=cV->Gp->WK->Prop
abbrev WT:=cV->Gp->(Bool->Gp->Prop)->Prop
abbrev WA:=cV->Gp->(List W->Gp->Prop)->Prop
structure du where
 nx:cV->Gp->Prop
 rt:WK
 bk:cV->Gp->Prop:=λ_ _=>False
 ct:cV->Gp->Prop:=λ_ _=>False
abbrev WS:=du->cV->Gp->Prop
abbrev WG:=W->cV->Gp->(cV->Gp->Prop)->Prop
abbrev yT:=List W->cV->Gp->(cV->Gp->Prop)->Prop
def kg (K:yav) (t:WE):TE:=λσ H Q=>∃τ G q,bu K H τ σ/\aP K H G/\t τ G q/\∀v H1 w G1,aR H H1->bK K H1 w v->aP K H1 G1->q w G1->Q v H1
def Az (K:yav) (t:WT):TT:=λσ H Q=>∃τ G q,bu K H τ σ/\aP K H G/\t τ G q/\∀b H1 G1,aR H H1->aP K H1 G1->q b G1->Q b H1
def LA (K:yav) (t:WA):TA:=λσ H Q=>∃τ G q,bu K H τ σ/\aP K H G/\t τ G q/\∀vs H1 ws G1,aR H H1->aS K H1 ws vs->aP K H1 G1->q ws G1->Q vs H1
structure mW (K:yav) (H:Hp) (d:du) (D:fH):Prop where
 nx:∀σ1 H1 τ1 G1,aR H H1->bu K H1 τ1 σ1->aP K H1 G1->d.nx τ1 G1->D.nx σ1 H1
 rt:∀v H1 w G1,aR H H1->bK K H1 w v->aP K H1 G1->d.rt w G1->D.rt v H1
 bk:∀σ1 H1 τ1 G1,aR H H1->bu K H1 τ1 σ1->aP K H1 G1->d.bk τ1 G1->D.bk σ1 H1
 ct:∀σ1 H1 τ1 G1,aR H H1->bu K H1 τ1 σ1->aP K H1 G1->d.ct τ1 G1->D.ct σ1 H1
def LS (K:yav) (t:WS):TS:=λD σ H=>∃τ G d,bu K H τ σ/\aP K H G/\t d τ G/\mW K H d D
theorem kg.el {t:WE} {σ:St} {H:Hp} {Q:VK} {P:Prop} (h:kg K t σ H Q) (k:∀(τ:cV) (G:Gp) (q:WK),bu K H τ σ->aP K H G->t τ G q->(∀v H1 w G1,aR H H1->bK K H1 w v->aP K H1 G1->q w G1->Q v H1)->P):P:=by
 obtain⟨τ,G,q,a,b,c,d⟩:=h;exact k τ G q a b c d
theorem Az.el {t:WT} {σ:St} {H:Hp} {Q:Bool->Hp->Prop} {P:Prop} (h:Az K t σ H Q) (k:∀(τ:cV) (G:Gp) (q:Bool->Gp->Prop),bu K H τ σ->aP K H G->t τ G q->(∀b H1 G1,aR H H1->aP K H1 G1->q b G1->Q b H1)->P):P:=by
 obtain⟨τ,G,q,a,b,c,d⟩:=h;exact k τ G q a b c d
theorem LA.el {t:WA} {σ:St} {H:Hp} {Q:List V->Hp->Prop} {P:Prop} (h:LA K t σ H Q) (k:∀(τ:cV) (G:Gp) (q:List W->Gp->Prop),bu K H τ σ->aP K H G->t τ G q->(∀vs H1 ws G1,aR H H1->aS K H1 ws vs->aP K H1 G1->q ws G1->Q vs H1)->P):P:=by
 obtain⟨τ,G,q,a,b,c,d⟩:=h;exact k τ G q a b c d
theorem LS.el {t:WS} {D:fH} {σ:St} {H:Hp} {P:Prop} (h:LS K t D σ H) (k:∀(τ:cV) (G:Gp) (d:du),bu K H τ σ->aP K H G->t d τ G->mW K H d D->P):P:=by
 obtain⟨τ,G,q,a,b,c,d⟩:=h;exact k τ G q a b c d
def LG (K:yav) (t:WG):TG:=λv σ H Q=>∃w τ G q,bK K H w v/\bu K H τ σ/\aP K H G/\t w τ G q/\∀σ1 H1 τ1 G1,aR H H1->bu K H1 τ1 σ1->aP K H1 G1->q τ1 G1->Q σ1 H1
def Hj (K:yav) (t:yT):wB:=λvs σ H Q=>∃ws τ G q,aS K H ws vs/\bu K H τ σ/\aP K H G/\t ws τ G q/\∀σ1 H1 τ1 G1,aR H H1->bu K H1 τ1 σ1->aP K H1 G1->q τ1 G1->Q σ1 H1
def QE (X:Cx) (e:Expr) (t:WE):Prop:=PE X e (kg X.K t)
def QT (X:Cx) (e:Expr) (t:WT):Prop:=PT X e (Az X.K t)
def QW (X:Cx) (e:Expr) (t:WT):Prop:=PW X e (Az X.K t)
def QA (X:Cx) (es:List Expr) (t:WA):Prop:=PA X es (LA X.K t)
def QS (X:Cx) (st:Stmt) (t:WS):Prop:=PS X st (LS X.K t)
def mX (X:Cx) (st:List Stmt) (t:WS):Prop:=mK X st (LS X.K t)
def QG (X:Cx) (e:Expr) (t:WG):Prop:=PG X e (LG X.K t)
def Cu (X:Cx) (es:List Expr) (t:yT):Prop:=yL X es (Hj X.K t)
section
variable {X:Cx}
theorem PE.imp {t t':TE} (h:PE X e t) (f:∀σ H Q,t' σ H Q->t σ H Q):PE X e t':=λπ s σ H Q I q=>h π s σ H Q I (f _ _ _ q)
theorem PT.imp {t t':TT} (h:PT X e t) (f:∀σ H Q,t' σ H Q->t σ H Q):PT X e t':=λπ s σ H Q I q=>h π s σ H Q I (f _ _ _ q)
theorem PW.imp {t t':TT} (h:PW X e t) (f:∀σ H Q,t' σ H Q->t σ H Q):PW X e t':=λwh π s σ H Q I q=>h wh π s σ H Q I (f _ _ _ q)
theorem PA.imp {e:List Expr} {t t':TA} (h:PA X e t) (f:∀σ H Q,t' σ H Q->t σ H Q):PA X e t':=λpos π s σ H Q I q=>h pos π s σ H Q I (f _ _ _ q)
theorem PS.imp {e:Stmt} {t t':TS} (h:PS X e t) (f:∀D σ H,t' D σ H->t D σ H):PS X e t':=λπ s σ H D I q=>h π s σ H D I (f _ _ _ q)
theorem mK.imp {e:List Stmt} {t t':TS} (h:mK X e t) (f:∀D σ H,t' D σ H->t D σ H):mK X e t':=λπ s σ H D I q=>h π s σ H D I (f _ _ _ q)
theorem PG.imp {t t':TG} (h:PG X e t) (f:∀v σ H Q,t' v σ H Q->t v σ H Q):PG X e t':=λπ s σ H v u Q I r q=>h π s σ H v u Q I r (f _ _ _ _ q)
theorem yL.imp {e:List Expr} {t t':wB} (h:yL X e t) (f:∀v σ H Q,t' v σ H Q->t v σ H Q):yL X e t':=λπ s σ H v u Q I r q=>h π s σ H v u Q I r (f _ _ _ _ q)
def gl (i:Nat):WE:=λτ G q=>match τ[i]? with | some (some w)=>q w G | _=>False
def wC (w:W):WE:=λ_ G q=>q w G
theorem aa (i:Nat) (hN:X.N[i]?=some x:=by exact rfl) (hv:BQ X.env.scope x:=by exact .inl rfl) (hd:(x==("__debug__":Str))=false:=by decide) (hcd:(x==("__classdict__":Str))=false:=by decide):QE X (.Name x pos) (gl i):=by
 refine(oJ hN hv hd hcd).imp λσ H Q z0=>z0.el λτ G q hs hg ht hQ=>?_;unfold gl at ht;split at ht
 ·rename_i w e;obtain⟨v,e1,r⟩:=hs.2 i w e;exact⟨v,e1,hQ v H w G (aR.refl H) r hg ht⟩
 ·exact ht.elim
theorem gs {v:V} {w:W} (h:PE X e (tC v)) (r:∀H,bK X.K H w v):QE X e (wC w):=
 h.imp λσ H Q z0=>z0.el λτ G q hs hg ht hQ=>hQ v H w G (aR.refl H) (r H) hg ht
theorem ag {i j pos}:QE X (.Constant (.int i) j pos) (wC (.int i)):=gs zN λ_=> .int i
theorem iO {b j pos}:QE X (.Constant (.bool b) j pos) (wC (.bl b)):=gs sL λ_=> .bl b
theorem fO {j pos}:QE X (.Constant .none j pos) (wC .non):=gs zO λ_=> .non
theorem bq {x j pos}:QE X (.Constant (.str x) j pos) (wC (.str x)):=gs sM λ_=> .str x
abbrev W2:=W->W->Gp->WK->Prop
def LR (K:yav) (r:W2):R2:=λx y H Q=>∃wx wy G q,bK K H wx x/\bK K H wy y/\aP K H G/\r wx wy G q/\∀v H1 w G1,aR H H1->bK K H1 w v->aP K H1 G1->q w G1->Q v H1
def gY (X:Cx) (f:Value->Value->Sem Value) (r:W2):Prop:=iK X f (LR X.K r)
def wk (X:Cx) (r:W2):Prop:=Cn X (LR X.K r)
def o0 (r:W2) (ta tb:WE):WE:=λτ G q=>ta τ G λx G1=>tb τ G1 λy G2=>r x y G2 q
theorem kg.op {r:W2} {ta tb:WE} {σ:St} {H:Hp} {Q:VK} (h:kg K (o0 r ta tb) σ H Q):B6 (LR K r) (kg K ta) (kg K tb) σ H Q:=by
 obtain⟨τ,G,q,hs,hg,ht,hQ⟩:=h;refine⟨τ,G,_,hs,hg,ht,λv H1 w G1 t1 r1 g1 q1=>?_⟩;refine⟨τ,G1,_,hs.mono t1,g1,q1,λv2 H2 w2 G2 t2 r2 g2 q2=>?_⟩;exact⟨w,w2,G2,q,r1.mono t2,r2,g2,q2,λv3 H3 w3 G3 t3 r3 g3 q3=>hQ v3 H3 w3 G3 ((t1.trans t2).trans t3) r3 g3 q3⟩
theorem aO {op:Operator} {r:W2} {a b:Expr} {ta tb:WE} (ho:gY X (binaryOp op) r) (ha:QE X a ta) (hb:QE X b tb):QE X (.BinOp a op b pos) (o0 r ta tb):=
 (B7 ho ha hb).imp λ_ _ _ h=>h.op
theorem fc {op:CmpOp} {r:W2} {a b:Expr} {ta tb:WE} (ho:gY X (compareOp op) r) (ha:QE X a ta) (hb:QE X b tb) (hm:behindInMarks op b=false:=by exact sT _):QE X (.Compare a [op] [b] pos) (o0 r ta tb):=
 (wI ho ha hb hm).imp λ_ _ _ h=>h.op
theorem av {r:W2} {a b:Expr} {ta tb:WE} (ho:wk X r) (ha:QE X a ta) (hb:QE X b tb) (hs:qd b:=by exact λ_ _=>rfl):QE X (.Subscript a b pos) (o0 r ta tb):=
 (Cp ho ha hb hs).imp λ_ _ _ h=>h.op
def gv (t:WE):WT:=λτ G q=>t τ G λx G1=>match x with | .bl b=>q b G1 | _=>False
theorem Az.test {t:WE} {σ:St} {H:Hp} {Q:Bool->Hp->Prop} (h:Az K (gv t) σ H Q):yN (kg K t) σ H Q:=by
 obtain⟨τ,G,q,hs,hg,ht,hQ⟩:=h;refine⟨τ,G,_,hs,hg,ht,λv H1 w G1 t1 r1 g1 q1=>?_⟩;split at q1
 ·rename_i b;cases r1;exact⟨b,rfl,hQ b H1 G1 t1 g1 q1⟩
 ·exact q1.elim
theorem aI {op:CmpOp} {r:W2} {a b:Expr} {ta tb:WE} (ho:gY X (compareOp op) r) (ha:QE X a ta) (hb:QE X b tb) (hm:behindInMarks op b=false:=by exact sT _):QT X (.Compare a [op] [b] pos) (gv (o0 r ta tb)):=
 (wJ ho ha hb hm).imp λσ H Q h=>by
   obtain⟨τ,G,q,hs,hg,ht,hQ⟩:=h.test;exact kg.op ⟨τ,G,q,hs,hg,ht,hQ⟩
theorem eJ {t:WE} (h:QE X e t) (he:∀whole,isTrue e X.env whole=(do let v ←whole;standAt e.pos;holding [v] (truthy v)):=by intro _;rfl):QT X e (gv t):=
 (zP h he).imp λσ H Q h=>h.test
def AA (t u:WT):WT:=λτ G q=>t τ G λc G1=>if c=true then u τ G1 q else q false G1
def GK (t u:WT):WT:=λτ G q=>t τ G λc G1=>if c=true then q true G1 else u τ G1 q
def Cv (t:WT):WT:=λτ G q=>t τ G λc G1=>q (!c) G1
theorem cW {a:Expr} {t:WT} (ha:QT X a t):QW X (.BoolOp .And [a] pos) t:=ww ha
theorem jt {a:Expr} {t:WT} (ha:QT X a t):QW X (.BoolOp .Or [a] pos) t:=zQ ha
theorem dX {a b:Expr} {bI:List Expr} {t u:WT} (ha:QT X a t) (hb:QW X (.BoolOp .And (b::bI) pos) u):QW X (.BoolOp .And (a::b::bI) pos) (AA t u):=
 (zR ha hb).imp λσ H Q z0=>z0.el λτ G q hs hg ht hQ=>⟨τ,G,_,hs,hg,ht,λc H1 G1 t1 g1 q1=>by
   cases c with
   | true=>rw[ycv rfl] at q1 ⊢;exact⟨τ,G1,q,hs.mono t1,g1,q1,λb H2 G2 t2 g2 q2=>hQ b H2 G2 (t1.trans t2) g2 q2⟩
   | false=>rw[ycw ydx] at q1 ⊢;exact hQ false H1 G1 t1 g1 q1⟩
theorem ju {a b:Expr} {bI:List Expr} {t u:WT} (ha:QT X a t) (hb:QW X (.BoolOp .Or (b::bI) pos) u):QW X (.BoolOp .Or (a::b::bI) pos) (GK t u):=
 (BV ha hb).imp λσ H Q z0=>z0.el λτ G q hs hg ht hQ=>⟨τ,G,_,hs,hg,ht,λc H1 G1 t1 g1 q1=>by
   cases c with
   | true=>rw[ycv rfl] at q1 ⊢;exact hQ true H1 G1 t1 g1 q1
   | false=>rw[ycw ydx] at q1 ⊢;exact⟨τ,G1,q,hs.mono t1,g1,q1,λb H2 G2 t2 g2 q2=>hQ b H2 G2 (t1.trans t2) g2 q2⟩⟩
theorem fP {t:WT} (h:QW X e t):QT X e t:=PW.pt h
theorem ig {a:Expr} {t:WT} (ha:QT X a t):QT X (.UnaryOp .Not a pos) (Cv t):=
 (zS ha).imp λσ H Q z0=>z0.el λτ G q hs hg ht hQ=>⟨τ,G,_,hs,hg,ht,λc H1 G1 t1 g1 q1=>hQ (!c) H1 G1 t1 g1 q1⟩
def yU (ta tb:WE):WE:=λτ G q=>ta τ G λx G1=>match x with | .bl c=>if c=true then tb τ G1 q else q (.bl false) G1 | _=>False
def Cw (ta tb:WE):WE:=λτ G q=>ta τ G λx G1=>match x with | .bl c=>if c=true then q (.bl true) G1 else tb τ G1 q | _=>False
def yV (ta:WE):WE:=λτ G q=>ta τ G λx G1=>match x with | .bl c=>q (.bl (!c)) G1 | _=>False
theorem ii {a:Expr} {op} {t:WE} (h:QE X a t):QE X (.BoolOp op [a] pos) t:=zT h
theorem ik {a b:Expr} {bI:List Expr} {ta tb:WE} (ha:QE X a ta) (hb:QE X (.BoolOp .And (b::bI) pos) tb):QE X (.BoolOp .And (a::b::bI) pos) (yU ta tb):=
 (zU ha hb).imp λσ H Q z0=>z0.el λτ G q hs hg ht hQ=>⟨τ,G,_,hs,hg,ht,λv H1 w G1 t1 r1 g1 q1=>by
   split at q1
   ·rename_i c;cases r1;refine⟨c,rfl,?_⟩;cases c with
    | true=>rw[ycv rfl] at q1 ⊢;exact⟨τ,G1,q,hs.mono t1,g1,q1,λv2 H2 w2 G2 t2 r2 g2 q2=>hQ v2 H2 w2 G2 (t1.trans t2) r2 g2 q2⟩
    | false=>rw[ycw ydx] at q1 ⊢;exact hQ _ H1 _ G1 t1 (.bl false) g1 q1
   ·exact q1.elim⟩
theorem Cy {a b:Expr} {bI:List Expr} {ta tb:WE} (ha:QE X a ta) (hb:QE X (.BoolOp .Or (b::bI) pos) tb):QE X (.BoolOp .Or (a::b::bI) pos) (Cw ta tb):=
 (BY ha hb).imp λσ H Q z0=>z0.el λτ G q hs hg ht hQ=>⟨τ,G,_,hs,hg,ht,λv H1 w G1 t1 r1 g1 q1=>by
   split at q1
   ·rename_i c;cases r1;refine⟨c,rfl,?_⟩;cases c with
    | true=>rw[ycv rfl] at q1 ⊢;exact hQ _ H1 _ G1 t1 (.bl true) g1 q1
    | false=>rw[ycw ydx] at q1 ⊢;exact⟨τ,G1,q,hs.mono t1,g1,q1,λv2 H2 w2 G2 t2 r2 g2 q2=>hQ v2 H2 w2 G2 (t1.trans t2) r2 g2 q2⟩
   ·exact q1.elim⟩
theorem tJ {a:Expr} {ta:WE} (ha:QE X a ta):QE X (.UnaryOp .Not a pos) (yV ta):=
 (zV ha).imp λσ H Q z0=>z0.el λτ G q hs hg ht hQ=>⟨τ,G,_,hs,hg,ht,λv H1 w G1 t1 r1 g1 q1=>by
   split at q1
   ·rename_i c;cases r1;exact⟨c,rfl,hQ _ H1 _ G1 t1 (.bl _) g1 q1⟩
   ·exact q1.elim⟩
def Cz (c:WT) (ta tb:WE):WE:=λτ G q=>c τ G λb G1=>if b=true then ta τ G1 q else tb τ G1 q
theorem jv {c a b:Expr} {tc:WT} {ta tb:WE} (hc:QT X c tc) (ha:QE X a ta) (hb:QE X b tb):QE X (.IfExp c a b pos) (Cz tc ta tb):=
 (sN hc ha hb).imp λσ H Q z0=>z0.el λτ G q hs hg ht hQ=>⟨τ,G,_,hs,hg,ht,λc H1 G1 t1 g1 q1=>by
   cases c with
   | true=>rw[ycv rfl] at q1 ⊢;exact⟨τ,G1,q,hs.mono t1,g1,q1,λv2 H2 w2 G2 t2 r2 g2 q2=>hQ v2 H2 w2 G2 (t1.trans t2) r2 g2 q2⟩
   | false=>rw[ycw ydx] at q1 ⊢;exact⟨τ,G1,q,hs.mono t1,g1,q1,λv2 H2 w2 G2 t2 r2 g2 q2=>hQ v2 H2 w2 G2 (t1.trans t2) r2 g2 q2⟩⟩
def lK:WA:=λ_ G q=>q [] G
def qh (ta:WE) (tr:WA):WA:=λτ G q=>ta τ G λx G1=>tr τ G1 λxs G2=>q (x::xs) G2
theorem ah:QA X [] lK:=pa_nil.imp λσ H Q z0=>z0.el λτ G q hs hg ht hQ=>hQ [] H [] G (aR.refl H) .nil hg ht
theorem ac {te:WE} {t:WA} (ha:QE X e te) (hr:QA X es t) (hs:starEach (e::es) X.env=(false,eval e X.env)::starEach es X.env:=by rfl):QA X (e::es) (qh te t):=
 (cA ha hr hs).imp λσ H Q z0=>z0.el λτ G q hs hg ht hQ=>⟨τ,G,_,hs,hg,ht,λv H1 w G1 t1 r1 g1 q1=>
   ⟨τ,G1,_,hs.mono t1,g1,q1,λvs H2 ws G2 t2 r2 g2 q2=>hQ (v::vs) H2 (w::ws) G2 (t1.trans t2) (.cons (r1.mono t2) r2) g2 q2⟩⟩
theorem bP {n:Nat} (h:n<=100000):n<=sizeLine:=by rw[sizeLine_eq];lia
def CA (t:WA):WE:=λτ G q=>t τ G λws G1=>ws.length<=100000/\q (.tup ws) G1
def CB (t:WA):WE:=λτ G q=>t τ G λws G1=>ws.length<=100000/\∀p,G1 p=none->q (.ref p) (aw G1 p (.lst ws))
theorem bh {x1} {t:WA} (h:QA X es t):QE X (.Tuple es x1 pos) (CA t):=
 (Al h).imp λσ H Q z0=>z0.el λτ G q hs hg ht hQ=>⟨τ,G,_,hs,hg,ht,λvs H1 ws G1 t1 r1 g1 q1=>
   ⟨by rw[←r1.length];exact bP q1.1,λp hp=>hQ _ _ _ G1 (t1.trans (aR.new hp _)) (.tup aZ (r1.mono (aR.new hp _))) (g1.keep hp _) q1.2⟩⟩
theorem bw {t:WA} (h:QA X es t):QE X (.List es pos) (CB t):=
 (An h).imp λσ H Q z0=>z0.el λτ G q hs hg ht hQ=>⟨τ,G,_,hs,hg,ht,λvs H1 ws G1 t1 r1 g1 q1=>
   ⟨by rw[←r1.length];exact bP q1.1,λp hp=>hQ _ _ _ _ (t1.trans (aR.new hp _)) (.ref p) (g1.put (aR.new hp _) r1 q1.1) (q1.2 p (g1.fresh hp))⟩⟩
def qi:WS:=λd τ G=>d.nx τ G
def tK (t u:WS):WS:=λd τ G=>t { d with nx:=u d } τ G
theorem mW.mono {H H1:Hp} {d:du} {D:fH} (l:mW K H d D) (t:aR H H1):mW K H1 d D:=
 ⟨λσ2 H2 τ2 G2 t2=>l.nx σ2 H2 τ2 G2 (t.trans t2),λv H2 w G2 t2=>l.rt v H2 w G2 (t.trans t2),λσ2 H2 τ2 G2 t2=>l.bk σ2 H2 τ2 G2 (t.trans t2),λσ2 H2 τ2 G2 t2=>l.ct σ2 H2 τ2 G2 (t.trans t2)⟩
theorem ak:mX X [] qi:=pss_nil.imp λD σ H z0=>z0.el λτ G d hs hg ht l=>l.nx σ H τ G (aR.refl H) hs hg ht
theorem ae {bI:List Stmt} {t u:WS} (h1:QS X st t) (h2:mX X bI u):mX X (st::bI) (tK t u):=
 (sO h1 h2).imp λD σ H z0=>z0.el λτ G d hs hg ht l=>⟨τ,G,_,hs,hg,ht,⟨λσ1 H1 τ1 G1 t1 s1 g1 q1=>⟨τ1,G1,d,s1,g1,q1,l.mono t1⟩,l.rt,l.bk,l.ct⟩⟩
theorem cM {t:WS} (h1:QS X st t):mX X [st] t:=wz h1
def yW (te:WE):WS:=λd τ G=>te τ G λ_ G1=>d.nx τ G1
theorem cN {te:WE} (he:QE X e te) (hs:swapsWith e none pos.line X.env=pure false:=by rfl):QS X (.Expr e pos) (yW te):=
 (wA he hs).imp λD σ H z0=>z0.el λτ G d hs hg ht l=>⟨τ,G,_,hs,hg,ht,λv H1 w G1 t1 r1 g1 q1=>l.nx σ H1 τ G1 t1 (hs.mono t1) g1 q1⟩
def CC (te:WE):WS:=λd τ G=>te τ G d.rt
theorem aA {te:WE} (he:QE X e te):QS X (.Return (some e) pos) (CC te):=
 (zW he).imp λD σ H z0=>z0.el λτ G d hs hg ht l=>⟨τ,G,_,hs,hg,ht,λv H1 w G1 t1 r1 g1 q1=>l.rt v H1 w G1 t1 r1 g1 q1⟩
def AB (c:WT) (t u:WS):WS:=λd τ G=>c τ G λb G1=>if b=true then t d τ G1 else u d τ G1
theorem bo {c:Expr} {a b:List Stmt} {tc:WT} {t u:WS} (hc:QT X c tc) (ha:mX X a t) (hb:mX X b u):QS X (.If c a b pos) (AB tc t u):=
 (B3 hc ha hb).imp λD σ H z0=>z0.el λτ G d hs hg ht l=>⟨τ,G,_,hs,hg,ht,λc H1 G1 t1 g1 q1=>by
   cases c with
   | true=>rw[ycv rfl] at q1 ⊢;exact⟨τ,G1,d,hs.mono t1,g1,q1,l.mono t1⟩
   | false=>rw[ycw ydx] at q1 ⊢;exact⟨τ,G1,d,hs.mono t1,g1,q1,l.mono t1⟩⟩
def cG (i:Nat):WG:=λw τ G q=>q (τ.set i (some w)) G
theorem bO (i:Nat) (hN:X.N.Nodup) (hi:X.N[i]?=some x) (hx:wj X.env.scope x) (hf:X.fn x=true∨X.env.scope.names.lookup x=some .local:=by first | exact .inl rfl | exact .inr rfl | assumption):QG X (.Name x pos) (cG i):=
 (wD hN hi hx hf).imp λv σ H Q ⟨w,τ,G,q,r,hs,hg,ht,hQ⟩=>hQ _ H _ G (aR.refl H) (hs.set r i) hg ht
def mY:yT:=λws τ G q=>match ws with | []=>q τ G | _=>False
def gz (t:WG) (u:yT):yT:=λws τ G q=>match ws with | w::r=>t w τ G λτ1 G1=>u r τ1 G1 q | []=>False
theorem eK:Cu X [] mY:=pgs_nil.imp λvs σ H Q ⟨ws,τ,G,q,r,hs,hg,ht,hQ⟩=>by
 unfold mY at ht;cases r with
 | nil=>exact⟨rfl,hQ σ H τ G (aR.refl H) hs hg ht⟩
 | cons _ _=>exact ht.elim
theorem bQ {t:WG} {u:yT} (h1:QG X e t) (h2:Cu X es u)
 (hs:(assignEach (e::es) X.env).map (·.2)=assign e X.env::(assignEach es X.env).map (·.2):=by rfl):Cu X (e::es) (gz t u):=
 (sP h1 h2 hs).imp λvs σ H Q ⟨ws,τ,G,q,r,hs,hg,ht,hQ⟩=>by
   unfold gz at ht;cases r with
   | nil=>exact ht.elim
   | cons r rs=>
     exact⟨_,_,rfl,_,τ,G,_,r,hs,hg,ht,λσ1 H1 τ1 G1 t1 s1 g1 q1=>⟨_,τ1,G1,q,rs.mono t1,s1,g1,q1,λσ2 H2 τ2 G2 t2=>hQ σ2 H2 τ2 G2 (t1.trans t2)⟩⟩
def mZ (n:Nat) (t:yT):WG:=λw τ G q=>match w with | .tup ws=>ws.length=n/\t ws τ G q | _=>False
theorem fQ {t:yT} (hc:X.calm=true) (h:Cu X es t)
 (hn:(assignEach es X.env).length=es.length:=by rfl) (hst:(assignEach es X.env).findIdx? (·.1)=none:=by rfl):QG X (.Tuple es k pos) (mZ es.length t):=
 (zX hc h hn hst).imp λv σ H Q ⟨w,τ,G,q,r,hs,hg,ht,hQ⟩=>by
   unfold mZ at ht;cases r with
   | tup h r=>exact⟨_,_,rfl,cY.of h,by rw[←r.length];exact ht.1,_,τ,G,q,r,hs,hg,ht.2,hQ⟩
   | _=>exact ht.elim
def wT (te:WE) (g:WG):WS:=λd τ G=>te τ G λx G1=>g x τ G1 d.nx
theorem aM (i:Nat) {te:WE} {pos' pos:Pos} (hN:X.N.Nodup) (hi:X.N[i]?=some x) (hx:wj X.env.scope x) (he:QE X e te) (hs:swapsWith e (some (.Name x pos')) pos.line X.env=pure false:=by rfl) (hf:X.fn x=true∨X.env.scope.names.lookup x=some .local:=by first | exact .inl rfl | exact .inr rfl | assumption):
 QS X (.Assign [.Name x pos'] e pos) (wT te (cG i)):=
 (zY hN hi hx he hs hf).imp λD σ H z0=>z0.el λτ G d hs hg ht l=>
   ⟨τ,G,_,hs,hg,ht,λv H1 w G1 t1 r1 g1 q1=>l.nx _ H1 _ G1 t1 ((hs.mono t1).set r1 i) g1 q1⟩
def tL (c:WT) (tb:WS):WS:=λd τ G=>∃I:Nat->cV->Gp->Prop,(∃m,I m τ G)/\∀m τ G,I m τ G->
 c τ G λb G1=>if b=true then ∃N:cV->Gp->Prop,(∀τ1 G1,N τ1 G1->∃m1,m1<m/\I m1 τ1 G1)/\tb { d with nx:=N,ct:=N,bk:=d.nx } τ G1 else d.nx τ G1
theorem jw {c:Expr} {tc:WT} {tb:WS} (hp:PassesOwn (model X.prog X.w) X.A X.env X.xe) (hc:QT X c tc) (hb:mX X body tb):QS X (.While c body [] pos) (tL tc tb):=
 (sQ hp hc hb).imp λD σ H ⟨τ,G,d,hs,hg,⟨I,⟨m,i0⟩,turn⟩,l⟩=>by
   refine⟨λm σ1 H1=>∃τ1 G1,aR H H1/\bu X.K H1 τ1 σ1/\aP X.K H1 G1/\I m τ1 G1,⟨m,τ,G,aR.refl H,hs,hg,i0⟩,?_⟩;rintro m1 σ1 H1 ⟨τ1,G1,t1,s1,g1,i1⟩;refine⟨τ1,G1,_,s1,g1,turn m1 τ1 G1 i1,λb H2 G2 t2 g2 q2=>?_⟩;cases b with
   | true=>
     rw[ycv rfl] at q2 ⊢;obtain⟨N,hN,q2⟩:=q2;refine⟨λσ3 H3=>∃τ3 G3,aR H H3/\bu X.K H3 τ3 σ3/\aP X.K H3 G3/\N τ3 G3,?_,τ1,G2,_,s1.mono t2,g2,q2,?_⟩
     ·rintro σ3 H3 ⟨τ3,G3,t3,s3,g3,n3⟩;obtain⟨m3,hm,i3⟩:=hN τ3 G3 n3;exact⟨m3,hm,τ3,G3,t3,s3,g3,i3⟩
     ·have tt:=t1.trans t2;exact⟨λσ3 H3 τ3 G3 t3 s3 g3 q3=>⟨τ3,G3,tt.trans t3,s3,g3,q3⟩,λv H3 w G3 t3=>l.rt v H3 w G3 (tt.trans t3),λσ3 H3 τ3 G3 t3=>l.nx σ3 H3 τ3 G3 (tt.trans t3),λσ3 H3 τ3 G3 t3 s3 g3 q3=>⟨τ3,G3,tt.trans t3,s3,g3,q3⟩⟩
   | false=>
     rw[ycw ydx] at q2 ⊢;exact l.nx σ1 H2 τ1 G2 (t1.trans t2) (s1.mono t2) g2 q2
end
section
variable {X:Cx}
abbrev WX:=Value->Gp->Prop
abbrev bS:=List W->Gp->WK->WX->Prop
def wm (K:yav) (sp:bS):Sp:=λvs H Q E=>∃ws G q e,aS K H ws vs/\aP K H G/\sp ws G q e/\(∀v H1 w G1,aR H H1->bK K H1 w v->aP K H1 G1->q w G1->Q v H1)/\
 ∀c d H1 G1,aR H H1->aP K H1 G1->e c G1->E c d H1
abbrev cf (P:Program) (w:World) (K:yav) (mg:yew) (base:Heap) (k:Nat) (f:Addr) (fd:FuncData) (ps:List Str) (sp:bS):Prop:=dR P w K mg base tH k f fd ps (wm K sp)
def gE (sp:bS) (dws:List W) (t:WA):WE:=λτ G q=>t τ G λws G1=>sp (ws++dws) G1 q λ_ _=>False
theorem kg.call {sp:bS} {dws:List W} {dvs:List V} {t:WA} {σ:St} {H:Hp} {Q:VK} {E:XK} (hd:∀H,aS K H dws dvs) (h:kg K (gE sp dws t) σ H Q):sX (wm K sp) dvs E (LA K t) σ H Q:=by
 obtain⟨τ,G,q,hs,hg,ht,hQ⟩:=h;exact⟨τ,G,_,hs,hg,ht,λvs H1 ws G1 t1 r1 g1 q1=>⟨ws++dws,G1,q,_,r1.append (hd H1),g1,q1,λv H2 w G2 t2=>hQ v H2 w G2 (t1.trans t2),λ_ _ _ _ _ _ z=>z.elim⟩⟩
theorem wU {f:Addr} {sp:bS} {p pos:Pos} {t:WA} (F:cf X.prog X.w X.K X.mg X.base k f fd ps sp) (hr:aB k X.A) (hg:Gl X x) (hm:X.mg x=some (.ref f))
 (hk:keepIn X.K (.ref f)=true) (hb:bM X.K fd ps []) (ha:QA X (e::es) t) (hdb:(x==("__debug__":Str))=false:=by decide)
 (he:starEach (e::es) X.env=(false,eval e X.env)::starEach es X.env:=by rfl) (hpl:(backTo pos (starEach es X.env)).any (·.1)=false:=by rfl):QE X (.Call (.Name x p) (e::es) [] pos) (gE sp [] t):=
 (p5 F hr hg hm hk hb .nil kH ha hdb he hpl).imp λ_ _ _ h=>h.call λ_=> .nil
theorem tM {f:Addr} {sp:bS} {p pos:Pos} (F:cf X.prog X.w X.K X.mg X.base k f fd ps sp) (hr:aB k X.A) (hg:Gl X x) (hm:X.mg x=some (.ref f))
 (hk:keepIn X.K (.ref f)=true) (hb:bM X.K fd ps []) (hdb:(x==("__debug__":Str))=false:=by decide):QE X (.Call (.Name x p) [] [] pos) (gE sp [] lK):=
 (sZ F hr hg hm hk hb .nil kH hdb).imp λ_ _ _ h=>by
   obtain⟨τ,G,q,hs,hg,ht,hQ⟩:=h;exact⟨[],G,q,_,.nil,hg,ht,hQ,λ_ _ _ _ _ _ z=>z.elim⟩
noncomputable def il (N:List Str) (ws:List W):cV:=ws.map some++List.replicate (N.length-ws.length) none
theorem cf.none {f:Addr} {sp:bS} (h:∀ws G q e,¬sp ws G q e):cf P w K mg base k f fd ps sp:=
 ⟨λ_ _ _ _ ⟨_,_,_,_,_,_,z,_⟩=>absurd z (h _ _ _ _),λ_ _ _ _ _ _ _ _ _ _ _ _ _ ⟨_,_,_,_,_,_,z,_⟩=>absurd z (h _ _ _ _)⟩
theorem cf.imp {f:Addr} {sp sp':bS} (F:cf P w K mg base k f fd ps sp) (h:∀ws G q e,sp' ws G q e->sp ws G q e):cf P w K mg base k f fd ps sp':=
 dR.imp F λ_ _ _ _ ⟨ws,G,q,e,r,g,z,a,b⟩=>⟨ws,G,q,e,r,g,h _ _ _ _ z,a,b⟩
theorem CD {x qual:Str} {f:Addr} {N ps:List Str} {sp:bS} (F:cz K x qual st f fd) (S:bV N ps (am st)) (len:∀ws G q e,sp ws G q e->ws.length=ps.length)
 (hbody:∀(cdv:Value) (A:Around) (outer:List Env) (s:Shared) (H:Hp) (E:XK),aB k (A.deeper (envOfC qual (am st) s.heap.objs.size f cdv))->
   ∃t,mX (dL tH P w K mg base N qual (am st) f cdv A outer s H E).nox (ap st) t/\
    ∀(ws:List W) (G:Gp) (q:WK) (e:WX),sp ws G q e->t { nx:=λ_ G1=>∃G0,aE G0 G1/\q .non G0,rt:=λw G1=>∃G0,aE G0 G1/\q w G0 } (il N ws) G):cf P w K mg base (k+1) f fd ps sp:=by
 refine F.ok S (λvs H Q E ⟨ws,G,q,e,r,g,z,_⟩=>by rw[←r.length];exact len _ _ _ _ z) (λcdv A outer s H vs Q E hr ⟨ws,G,q,e,r,g,z,hQ,_⟩=>?_);obtain⟨t,ht,hq⟩:=hbody cdv A outer s H E hr;exact⟨_,ht,_,G,_,bu.start r,g,hq ws G q e z,⟨λσ1 H1 τ1 G1 t1 s1 g1 ⟨G0,l,q1⟩=>hQ .non H1 .non G0 t1 .non (g1.le l) q1,λv H1 w G1 t1 r1 g1 ⟨G0,l,q1⟩=>hQ v H1 w G0 t1 r1 (g1.le l) q1,λ_ _ _ _ _ _ _ z=>z.elim,λ_ _ _ _ _ _ _ z=>z.elim⟩⟩
def yX (K:yav) (r:List W->Gp->WK->Prop):List V->Hp->VK->Prop:=λvs H Q=>∃ws G q,aS K H ws vs/\aP K H G/\r ws G q/\∀v H1 w G1,aR H H1->bK K H1 w v->aP K H1 G1->q w G1->Q v H1
def eg (X:Cx) (f:Value) (r:List W->Gp->WK->Prop):Prop:=eZ X f (yX X.K r)
def Em (r:List W->Gp->WK->Prop) (t:WA):WE:=λτ G q=>t τ G λws G1=>r ws G1 q
theorem kg.cb {r:List W->Gp->WK->Prop} {t:WA} {σ:St} {H:Hp} {Q:VK} (h:kg K (Em r t) σ H Q):ES (yX K r) (LA K t) σ H Q:=by
 obtain⟨τ,G,q,hs,hg,ht,hQ⟩:=h;exact⟨τ,G,_,hs,hg,ht,λvs H1 ws G1 t1 r1 g1 q1=>⟨ws,G1,q,r1,g1,q1,λv H2 w G2 t2=>hQ v H2 w G2 (t1.trans t2)⟩⟩
theorem bb {id:String} {r:List W->Gp->WK->Prop} {p pos:Pos} {t:WA} (hc:eg X (.builtin id) r) (hg:Gl X x) (hm:X.mg x=none) (hv:bootBuiltins x=some (.builtin id)) (ha:QA X (e::es) t)
 (hn:x≠"__name__":=by decide) (hdb:(x==("__debug__":Str))=false:=by decide)
 (he:starEach (e::es) X.env=(false,eval e X.env)::starEach es X.env:=by rfl) (hpl:(backTo pos (starEach es X.env)).any (·.1)=false:=by rfl):QE X (.Call (.Name x p) (e::es) [] pos) (Em r t):=
 (jr hc hg hm hv ha hn hdb he hpl).imp λ_ _ _ h=>h.cb
theorem bL {T:String} {r:List W->Gp->WK->Prop} {p pos:Pos} {t:WA} (hc:eg X (.type T) r) (hg:Gl X x) (hm:X.mg x=none) (hv:bootBuiltins x=some (.type T)) (ha:QA X (e::es) t)
 (hn:x≠"__name__":=by decide) (hdb:(x==("__debug__":Str))=false:=by decide)
 (he:starEach (e::es) X.env=(false,eval e X.env)::starEach es X.env:=by rfl) (hpl:(backTo pos (starEach es X.env)).any (·.1)=false:=by rfl):QE X (.Call (.Name x p) (e::es) [] pos) (Em r t):=
 (rS hc hg hm hv ha hn hdb he hpl).imp λ_ _ _ h=>h.cb
theorem aS.one {H:Hp} {w:W} {vs:List V} (r:aS K H [w] vs):∃v,vs=[v]/\bK K H w v:=by
 cases r with
 | cons r rs=>cases rs;exact⟨_,rfl,r⟩
theorem aS.two {H:Hp} {w u:W} {vs:List V} (r:aS K H [w,u] vs):∃v x,vs=[v,x]/\bK K H w v/\bK K H u x:=by
 cases r with
 | cons r rs=>
   obtain⟨x,rfl,r2⟩:=rs.one;exact⟨_,_,rfl,r,r2⟩
def CF:List W->Gp->WK->Prop:=λws G q=>match ws with
 | [.tup xs]=>q (.int xs.length) G
 | [.scr ns]=>q (.int ns.length) G
 | [.ref a]=>∃xs,G a=some (.lst xs)/\q (.int xs.length) G
 | _=>False
theorem yY:eg X (.builtin "len") CF:=by
 rintro π s σ H xs us Q I r ⟨ws,G,q,rw',g,h,hQ⟩;cases rw' with
 | nil=>exact False.elim h
 | cons r1 rr'=>
   cases rr' with
   | cons _ _=>cases r1<;> exact False.elim h
   | nil=>
     cases r1 with
     | tup hh rr=>exact eI π s σ H _ us Q I r ⟨_,_,rfl,.inr (cY.of hh),hQ _ H _ G (aR.refl H) (by rw[rr.length];exact .int _) g h⟩
     | scr hh=>exact eI π s σ H _ us Q I r ⟨_,_,rfl,.inl hh.sq,hQ _ H _ G (aR.refl H) (by rw[length_map];exact .int _) g h⟩
     | ref a=>
       obtain⟨ys,e,h⟩:=h;obtain⟨_,zs,e1,rr⟩:=g a _ e;exact eI π s σ H _ us Q I r ⟨_,_,rfl,.inl (cC.of e1),hQ _ H _ G (aR.refl H) (by rw[rr.length];exact .int _) g h⟩
     | _=>exact False.elim h
def tN:List W->Gp->WK->Prop:=λws G q=>match ws with
 | [.tup xs]=>q (.tup xs) G
 | [.ref a]=>∃xs,G a=some (.lst xs)/\q (.tup xs) G
 | _=>False
theorem ft:eg X (.type "tuple") tN:=by
 rintro π s σ H xs us Q I r ⟨ws,G,q,rw',g,h,hQ⟩;cases rw' with
 | nil=>exact False.elim h
 | cons r1 rr'=>
   cases rr' with
   | cons _ _=>cases r1<;> exact False.elim h
   | nil=>
     cases r1 with
     | tup hh rr=>exact fK π s σ H _ us Q I r ⟨_,_,rfl,.inr ⟨cY.of hh,hQ _ H _ G (aR.refl H) (.tup hh rr) g h⟩⟩
     | ref a=>
       obtain⟨ys,e,h⟩:=h;obtain⟨_,zs,e1,rr⟩:=g a _ e;exact fK π s σ H _ us Q I r ⟨_,_,rfl,.inl ⟨cC.of e1,λl hl=>hQ _ _ _ G (aR.new hl _) (.tup aZ (rr.mono (aR.new hl _))) (g.keep hl _) h⟩⟩
     | _=>exact False.elim h
def qj:List W->Gp->WK->Prop:=λws G q=>match ws with
 | [.tup xs]=>xs.length<=100000/\∀p,G p=none->q (.ref p) (aw G p (.lst xs))
 | [.ref a]=>∃xs,G a=some (.lst xs)/\∀p,G p=none->q (.ref p) (aw G p (.lst xs))
 | _=>False
theorem tO:eg X (.type "list") qj:=by
 rintro π s σ H xs us Q I r ⟨ws,G,q,rw',g,h,hQ⟩;unfold qj at h;split at h
 ·rename_i ys;obtain⟨v,rfl,r1⟩:=rw'.one;cases r1 with
  | tup hh rr=>exact gj π s σ H _ us Q I r ⟨_,_,rfl,.inr (cY.of hh),λl hl=>hQ _ _ _ _ (aR.new hl _) (.ref l) (g.put (aR.new hl _) rr h.1) (h.2 l (g.fresh hl))⟩
 ·rename_i a;obtain⟨ys,e,h⟩:=h;obtain⟨v,rfl,r1⟩:=rw'.one;cases r1;obtain⟨hl,zs,e1,rr⟩:=g a _ e;exact gj π s σ H _ us Q I r ⟨_,_,rfl,.inl (cC.of e1),λl hl'=>hQ _ _ _ _ (aR.new hl' _) (.ref l) (g.put (aR.new hl' _) rr hl) (h l (g.fresh hl'))⟩
 ·exact h.elim
def CG:W2:=λx y G q=>match x,y with
 | .int i,.int j=>q (.int (i+j)) G
 | .tup xs,.tup ys=>xs.length+ys.length<=100000/\q (.tup (xs++ys)) G
 | .ref a,.ref b=>∃xs ys,G a=some (.lst xs)/\G b=some (.lst ys)/\xs.length+ys.length<=100000/\∀p,G p=none->q (.ref p) (aw G p (.lst (xs++ys)))
 | _,_=>False
theorem E4 {σ:St} {H:Hp} {a b:Addr} {ys:List V} {Q:VK} (I:aF X π σ H s) (ha:H a=some (.tup [])) (hb:H b=some (.tup ys)) (q:Q (.ref b) H):wpAny (model X.prog X.w) X.A (binaryOp .Add (.ref a) (.ref b)) (EP X π σ Q) X.xe s:=by
 obtain⟨its,r1,p1,_⟩:=I.tuple (cY.of ha);obtain⟨its2,r2,p2,_⟩:=I.tuple (cY.of hb);cases r1;obtain⟨⟨cls,dd,data,sl⟩,ho,hc,n,hd⟩:=id p1;obtain⟨⟨cls2,dd2,data2,sl2⟩,ho2,hc2,n2,hd2⟩:=id p2;simp only at hc hd hc2 hd2;subst hc hd hc2 hd2;exact concat_meets ⟨_,ho,rfl⟩ ⟨_,ho2,rfl⟩ noFill_tuple_add seq_tuple_add PySem.F.slot_tuple_add PySem.F.entry_tuple_add (PySem.F.args_tuple_add_2 _ _)
  (tuple_addW0 a b #[] its2.toArray n n2 dd dd2 sl sl2 rfl) ⟨ho,ho2,⟨.ref b,H,I,rfl,q⟩⟩
theorem CH:gY X (binaryOp .Add) CG:=by
 rintro π s σ H x y v u Q I rx ry ⟨wx,wy,G,q,r1,r2,g,h,hQ⟩;cases r1 with
 | int i=>
   cases r2 with
   | int j=>exact Ae π s σ H _ _ v u Q I rx ry ⟨_,_,rfl,rfl,hQ _ H _ G (aR.refl H) (.int _) g h⟩
   | _=>exact False.elim h
 | @tup a ws xs ha ra=>
   cases r2 with
   | @tup b us ys hb rb=>
     cases xs with
     | nil=>
       cases ra;cases rx;cases ry;exact E4 I ha hb (hQ _ H _ G (aR.refl H) (.tup hb rb) g h.2)
     | cons x0 xr=>
       refine wQ π s σ H _ _ v u Q I rx ry ⟨a,b,_,_,rfl,rfl,cY.of ha,cY.of hb,by simp,by rw[←ra.length,←rb.length];exact bP h.1,λe=>?_,λ_ p hp=>?_⟩
       ·subst e;cases rb;have h2:=h.2;rw[append_nil] at h2;exact hQ _ H _ G (aR.refl H) (.tup ha ra) g h2
       ·exact hQ _ _ _ G (aR.new hp _) (.tup aZ ((ra.append rb).mono (aR.new hp _))) (g.keep hp _) h.2
   | _=>exact False.elim h
 | ref a=>
   cases r2 with
   | ref b=>
     obtain⟨xs,ys,ea,eb,hl,h⟩:=h;obtain⟨_,xs',ha,ra⟩:=g _ _ ea;obtain⟨_,ys',hb,rb⟩:=g _ _ eb;refine Au π s σ H _ _ v u Q I rx ry ⟨_,_,_,_,rfl,rfl,ha,hb,by rw[←ra.length,←rb.length];exact bP hl,λp hp=>?_⟩;exact hQ _ _ _ _ (aR.new hp _) (.ref p) (g.put (aR.new hp _) (ra.append rb) (by rw[length_append];exact hl)) (h p (g.fresh hp))
   | _=>exact False.elim h
 | _=>exact False.elim h
def rW (C:Int->Int->Prop) (f:Int->Int->W):W2:=λx y G q=>match x,y with
 | .int i,.int j=>C i j/\q (f i j) G
 | _,_=>False
theorem o5 {f:Value->Value->Sem Value} {C:Int->Int->Prop} {g:Int->Int->Int} (h:iK X f (rI C λi j=> .int (g i j))):gY X f (rW C λi j=> .int (g i j)):=by
 rintro π s σ H x y v u Q I rx ry ⟨wx,wy,G,q,r1,r2,gg,hh,hQ⟩;unfold rW at hh;split at hh
 ·cases r1;cases r2;exact h π s σ H _ _ v u Q I rx ry ⟨_,_,rfl,rfl,hh.1,hQ _ H _ G (aR.refl H) (.int _) gg hh.2⟩
 ·exact hh.elim
def kM (f:Int->Int->W):W2:=λx y G q=>match x,y with
 | .int i,.int j=>q (f i j) G
 | _,_=>False
theorem tP {f:Value->Value->Sem Value} {g:Int->Int->Bool} (h:iK X f (wE λi j=> .bl (g i j))):gY X f (kM λi j=> .bl (g i j)):=by
 rintro π s σ H x y v u Q I rx ry ⟨wx,wy,G,q,r1,r2,gg,hh,hQ⟩;unfold kM at hh;split at hh
 ·cases r1;cases r2;exact h π s σ H _ _ v u Q I rx ry ⟨_,_,rfl,rfl,hQ _ H _ G (aR.refl H) (.bl _) gg hh⟩
 ·exact hh.elim
abbrev CI:W2:=rW (λ_ j=>0<j) λi j=> .int (i%j)
theorem cE:gY X (binaryOp .Mod) CI:=o5 Ag
abbrev Hk:W2:=kM λi j=> .bl (decide (i<=j))
abbrev Hl:W2:=kM λi j=> .bl (decide (j<i))
abbrev Hm:W2:=kM λi j=> .bl (decide (j<=i))
theorem CJ:gY X (compareOp .LtE) Hk:=tP Ce
theorem m9:gY X (compareOp .Gt) Hl:=tP Cg
theorem CK:gY X (compareOp .GtE) Hm:=tP Ch
def CL:W2:=λx y G q=>match x,y with
 | .tup xs,.int i=>∃w,ef xs i=some w/\q w G
 | .scr ns,.int i=>∃n,ef ns i=some n/\q (.int n) G
 | .ref a,.int i=>∃xs w,G a=some (.lst xs)/\ef xs i=some w/\q w G
 | _,_=>False
theorem aS.at {H:Hp} {ws:List W} {vs:List V} {i:Int} {w:W} (r:aS K H ws vs) (e:ef ws i=some w):∃v,ef vs i=some v/\bK K H w v:=by
 unfold ef at e ⊢;rw[r.length] at e;cases h:tu vs.length i with
 | none=>rw[h] at e;cases e
 | some j=>
   rw[h] at e;exact r.get e
theorem wV {α β:Type} (f:α->β) (xs:List α) (i:Int):ef (xs.map f) i=(ef xs i).map f:=by
 unfold ef;rw[length_map];cases tu xs.length i with
 | none=>rfl
 | some j=>simp
theorem E5:wk X CL:=by
 rintro value slice π s σ H x y v u Q I rx ry ⟨wx,wy,G,q,r1,r2,g,h,hQ⟩ hsl;cases r2 with
 | int i=>
   cases r1 with
   | tup hh rr=>
     obtain⟨w,e,h⟩:=h;obtain⟨v',e',r'⟩:=rr.at e;exact Aq value slice π s σ H _ _ v u Q I rx ry ⟨_,_,_,v',rfl,rfl,cY.of hh,e',hQ _ H _ G (aR.refl H) r' g h⟩ hsl
   | scr hh=>
     obtain⟨n,e,h⟩:=h;exact qe value slice π s σ H _ _ v u Q I rx ry ⟨_,_,_,.int n,rfl,rfl,hh.sq,by rw[wV,e];rfl,hQ _ H _ G (aR.refl H) (.int n) g h⟩ hsl
   | ref a=>
     obtain⟨xs,w,ea,e,h⟩:=h;obtain⟨_,zs,e1,rr⟩:=g _ _ ea;obtain⟨v',e',r'⟩:=rr.at e;exact qe value slice π s σ H _ _ v u Q I rx ry ⟨_,_,_,v',rfl,rfl,cC.of e1,e',hQ _ H _ G (aR.refl H) r' g h⟩ hsl
   | _=>exact False.elim h
 | _=>cases r1<;> exact False.elim h
end
mutual
noncomputable def W.flat:W->Bool
 | .tup xs=>W.flats xs
 | .ref _=>false
 | .scr _=>false
 | _=>true
noncomputable def W.flats:List W->Bool
 | []=>true
 | x::xs=>W.flat x&&W.flats xs
end
mutual
noncomputable def W.dep:W->Nat
 | .tup xs=>W.deps xs+1
 | _=>0
noncomputable def W.deps:List W->Nat
 | []=>0
 | x::xs=>max (W.dep x) (W.deps xs)
end
mutual
noncomputable def W.eq:W->W->Bool
 | .non,.non=>true
 | .bl a,.bl b=>a==b
 | .bl a,.int j=>(if a then 1 else 0)==j
 | .int i,.bl b=>i==(if b then 1 else 0)
 | .int i,.int j=>i==j
 | .str x,.str y=>x==y
 | .tup xs,.tup ys=>W.eqs xs ys
 | _,_=>false
noncomputable def W.eqs:List W->List W->Bool
 | [],[]=>true
 | x::xs,y::ys=>W.eq x y&&W.eqs xs ys
 | _,_=>false
end
theorem cT {P:Prop} (h:false=true):P:=Bool.noConfusion h
theorem W.eq_int (i j:Int):(W.int i).eq (W.int j)=(i==j):=rfl
theorem W.eq_tup (xs ys:List W):(W.tup xs).eq (W.tup ys)=W.eqs xs ys:=rfl
mutual
theorem W.eq_refl:∀w:W,w.flat=true->w.eq w=true
 | .non,_=>rfl
 | .bl b,_=>beq_self_eq_true b
 | .int i,_=>beq_self_eq_true i
 | .str x,_=>beq_self_eq_true x
 | .tup xs,h=>W.eqs_refl xs h
 | .ref _,h=>cT h
 | .scr _,h=>cT h
theorem W.eqs_refl:∀ws:List W,W.flats ws=true->W.eqs ws ws=true
 | [],_=>rfl
 | x::xs,h=>by
   have h':x.flat=true/\W.flats xs=true:=(Bool.and_eq_true _ _).mp h;exact(Bool.and_eq_true _ _).mpr ⟨W.eq_refl x h'.1,W.eqs_refl xs h'.2⟩
end
mutual
theorem bK.inj {K:yav} {H:Hp}:∀{w u:W} {v:V},w.flat=true->u.flat=true->bK K H w v->bK K H u v->w=u:=by
 intro w u v h1 h2 r1 r2;cases r1 with
 | non=>cases r2;rfl
 | bl _=>cases r2;rfl
 | int _=>cases r2;rfl
 | str _=>cases r2;rfl
 | ref _=>exact cT h1
 | scr _=>exact cT h1
 | tup e1 r1=>
   cases r2 with
   | ref _=>exact cT h2
   | scr _=>exact cT h2
   | tup e2 r2=>
     rw[e1] at e2;cases e2;rw[aS.inj h1 h2 r1 r2]
theorem aS.inj {K:yav} {H:Hp}:∀{ws us:List W} {vs:List V},W.flats ws=true->W.flats us=true->aS K H ws vs->aS K H us vs->ws=us:=by
 intro ws us vs h1 h2 r1 r2;cases r1 with
 | nil=>cases r2;rfl
 | cons r1 s1=>
   cases r2 with
   | cons r2 s2=>
     simp only[W.flats,Bool.and_eq_true] at h1 h2;rw[bK.inj h1.1 h2.1 r1 r2,aS.inj h1.2 h2.2 s1 s2]
end
theorem W.flats_get:∀{ws:List W} {j:Nat} {w:W},W.flats ws=true->ws[j]?=some w->w.flat=true
 | [],_,_,_,e=>by simp at e
 | x::xs,0,w,h,e=>by
   have h':x.flat=true/\W.flats xs=true:=by simpa[W.flats] using h
   simp at e;subst e;exact h'.1
 | x::xs,j+1,w,h,e=>by
   have h':x.flat=true/\W.flats xs=true:=by simpa[W.flats] using h
   exact W.flats_get h'.2 (by simpa using e)
theorem W.deps_get:∀{ws:List W} {j:Nat} {w:W},ws[j]?=some w->w.dep<=W.deps ws
 | [],_,_,e=>by simp at e
 | x::xs,0,w,e=>by simp at e;subst e;simp[W.deps];lia
 | x::xs,j+1,w,e=>by
   have:=W.deps_get (ws:=xs) (j:=j) (w:=w) (by simpa using e);simp only[W.deps];lia
theorem W.eqs_iff:∀(ws us:List W),W.eqs ws us=true↔ws.length=us.length/\∀(j:Nat) (a b:W),ws[j]?=some a->us[j]?=some b->W.eq a b=true
 | [],[]=>by simp[W.eqs]
 | [],_::_=>by simp[W.eqs]
 | _::_,[]=>by simp[W.eqs]
 | x::xs,y::ys=>by
   rw[W.eqs,Bool.and_eq_true,W.eqs_iff xs ys];constructor
   ·rintro⟨h1,h2,h3⟩;refine⟨by simp[h2],λj a b ea eb=>?_⟩;cases j with
    | zero=>simp at ea eb;subst ea eb;exact h1
    | succ j=>exact h3 j a b (by simpa using ea) (by simpa using eb)
   ·rintro⟨h1,h2⟩;exact⟨h2 0 x y rfl rfl,by simpa using h1,λj a b ea eb=>h2 (j+1) a b (by simpa using ea) (by simpa using eb)⟩
noncomputable def jx (ws us:List W) (j:Nat):Bool:=match ws[j]?,us[j]? with | some a,some b=>W.eq a b | _,_=>true
theorem fu (ws us:List W):((List.range (min ws.length us.length)).all (jx ws us)&&(ws.length==us.length))=W.eqs ws us:=by
 rw[Bool.eq_iff_iff,Bool.and_eq_true,W.eqs_iff,all_eq_true,beq_iff_eq];constructor
 ·rintro⟨h1,h2⟩;refine⟨h2,λj a b ea eb=>?_⟩;have hj:j<ws.length:=(List.getElem?_eq_some_iff.mp ea).1;have:=h1 j (List.mem_range.mpr (by lia));unfold jx at this;rw[ea,eb] at this;exact this
 ·rintro⟨h1,h2⟩;refine⟨λj _=>?_,h1⟩;unfold jx;split
  ·rename_i a b ea eb;exact h2 j a b ea eb
  ·rfl
section
variable {X:Cx} {π:List (Addr×Obj)} {σ:St} {H:Hp} {s:Shared}
theorem aF.tupH {xs:List V} (I:aF X π σ H s) (h:H a=some (.tup xs)):∃its:List Value,aU xs its/\s.heap.IsTuple a its.toArray/\xs.length<=sizeLine:=I.tuple (cY.of h)
theorem im (I:aF X π σ H s):∀(n:Nat) (A:Around) {w1 w2:W} {v1 v2:V} {u1 u2:Value},w1.dep<n->w1.flat=true->w2.flat=true->A.units+n<cLine->bK X.K H w1 v1->bK X.K H w2 v2->bd v1 u1->bd v2 u2->
 SeqAt.EqAt A s u1 u2 (w1.eq w2)/\SeqAt.RcAt A s u1 u2 (w1.eq w2)/\SeqAt.RcNeAt A s u1 u2 (!(w1.eq w2)):=by
 intro n
 induction n with
 | zero=>intro A w1 w2 v1 v2 u1 u2 h;lia
 | succ n ih=>
   intro A w1 w2 v1 v2 u1 u2 hd f1 f2 hu r1 r2 q1 q2;have hu0:A.units<cLine:=by lia
   have hui:A.in1.units+n<cLine:=by show A.units+1+n<cLine;lia
   cases r1 with
   | ref a=>exact cT f1
   | scr a=>exact cT f1
   | non=>
     cases (show u1=Value.none from q1);cases r2 with
     | ref a=>exact cT f2
     | scr a=>exact cT f2
     | non=>cases (show u2=Value.none from q2);exact⟨SeqAt.EqAt.same _,SeqAt.RcAt.none_none,SeqAt.RcNeAt.none_none⟩
     | bl b=>cases (show u2=Value.bool b from q2);exact⟨SeqAt.EqAt.none_bool b,SeqAt.RcAt.none_bool b,SeqAt.RcNeAt.none_bool b⟩
     | int b=>obtain⟨t,rfl⟩:=q2;exact⟨SeqAt.EqAt.none_int b t,SeqAt.RcAt.none_int b t,SeqAt.RcNeAt.none_int b t⟩
     | str b=>obtain⟨t,rfl⟩:=q2;exact⟨SeqAt.EqAt.none_str b t,SeqAt.RcAt.none_str b t,SeqAt.RcNeAt.none_str b t⟩
     | tup h r=>
       cases (show u2=Value.ref _ from q2);obtain⟨its,_,p,_⟩:=aF.tupH I h;exact⟨SeqAt.EqAt.none_tuple p hu0,SeqAt.RcAt.none_tuple p hu0,SeqAt.RcNeAt.none_tuple p hu0⟩
   | bl a=>
     cases (show u1=Value.bool a from q1);cases r2 with
     | ref a=>exact cT f2
     | scr a=>exact cT f2
     | non=>cases (show u2=Value.none from q2);exact⟨SeqAt.EqAt.bool_none a,SeqAt.RcAt.bool_none a,SeqAt.RcNeAt.bool_none a⟩
     | bl b=>cases (show u2=Value.bool b from q2);exact⟨SeqAt.EqAt.bool_bool a b,SeqAt.RcAt.bool_bool a b,SeqAt.RcNeAt.bool_bool a b⟩
     | int b=>obtain⟨t,rfl⟩:=q2;exact⟨SeqAt.EqAt.bool_int a b t,SeqAt.RcAt.bool_int a b t,SeqAt.RcNeAt.bool_int a b t⟩
     | str b=>obtain⟨t,rfl⟩:=q2;exact⟨SeqAt.EqAt.bool_str a b t,SeqAt.RcAt.bool_str a b t,SeqAt.RcNeAt.bool_str a b t⟩
     | tup h r=>
       cases (show u2=Value.ref _ from q2);obtain⟨its,_,p,_⟩:=aF.tupH I h;exact⟨SeqAt.EqAt.bool_tuple a p hu0,SeqAt.RcAt.bool_tuple a p hu0,SeqAt.RcNeAt.bool_tuple a p hu0⟩
   | int a=>
     obtain⟨ta,rfl⟩:=q1;cases r2 with
     | ref a=>exact cT f2
     | scr a=>exact cT f2
     | non=>cases (show u2=Value.none from q2);exact⟨SeqAt.EqAt.int_none a ta,SeqAt.RcAt.int_none a ta,SeqAt.RcNeAt.int_none a ta⟩
     | bl b=>cases (show u2=Value.bool b from q2);exact⟨SeqAt.EqAt.int_bool a ta b,SeqAt.RcAt.int_bool a ta b,SeqAt.RcNeAt.int_bool a ta b⟩
     | int b=>obtain⟨t,rfl⟩:=q2;exact⟨SeqAt.EqAt.int_int a ta b t,SeqAt.RcAt.int_int a ta b t,SeqAt.RcNeAt.int_int a ta b t⟩
     | str b=>obtain⟨t,rfl⟩:=q2;exact⟨SeqAt.EqAt.int_str a ta b t,SeqAt.RcAt.int_str a ta b t,SeqAt.RcNeAt.int_str a ta b t⟩
     | tup h r=>
       cases (show u2=Value.ref _ from q2);obtain⟨its,_,p,_⟩:=aF.tupH I h;exact⟨SeqAt.EqAt.int_tuple a ta p hu0,SeqAt.RcAt.int_tuple a ta p hu0,SeqAt.RcNeAt.int_tuple a ta p hu0⟩
   | str a=>
     obtain⟨ta,rfl⟩:=q1;cases r2 with
     | ref a=>exact cT f2
     | scr a=>exact cT f2
     | non=>cases (show u2=Value.none from q2);exact⟨SeqAt.EqAt.str_none a ta,SeqAt.RcAt.str_none a ta,SeqAt.RcNeAt.str_none a ta⟩
     | bl b=>cases (show u2=Value.bool b from q2);exact⟨SeqAt.EqAt.str_bool a ta b,SeqAt.RcAt.str_bool a ta b,SeqAt.RcNeAt.str_bool a ta b⟩
     | int b=>obtain⟨t,rfl⟩:=q2;exact⟨SeqAt.EqAt.str_int a ta b t,SeqAt.RcAt.str_int a ta b t,SeqAt.RcNeAt.str_int a ta b t⟩
     | str b=>obtain⟨t,rfl⟩:=q2;exact⟨SeqAt.EqAt.str_str a ta b t,SeqAt.RcAt.str_str a ta b t,SeqAt.RcNeAt.str_str a ta b t⟩
     | tup h r=>
       cases (show u2=Value.ref _ from q2);obtain⟨its,_,p,_⟩:=aF.tupH I h;exact⟨SeqAt.EqAt.str_tuple a ta p hu0,SeqAt.RcAt.str_tuple a ta p hu0,SeqAt.RcNeAt.str_tuple a ta p hu0⟩
   | @tup a ws xs h r=>
     cases (show u1=Value.ref _ from q1);obtain⟨its,rv,p,_⟩:=aF.tupH I h;cases r2 with
     | ref a=>exact cT f2
     | scr a=>exact cT f2
     | non=>cases (show u2=Value.none from q2);exact⟨SeqAt.EqAt.tuple_none p hu0,SeqAt.RcAt.tuple_none p hu0,SeqAt.RcNeAt.tuple_none p hu0⟩
     | bl b=>cases (show u2=Value.bool b from q2);exact⟨SeqAt.EqAt.tuple_bool b p hu0,SeqAt.RcAt.tuple_bool b p hu0,SeqAt.RcNeAt.tuple_bool b p hu0⟩
     | int b=>obtain⟨t,rfl⟩:=q2;exact⟨SeqAt.EqAt.tuple_int b t p hu0,SeqAt.RcAt.tuple_int b t p hu0,SeqAt.RcNeAt.tuple_int b t p hu0⟩
     | str b=>obtain⟨t,rfl⟩:=q2;exact⟨SeqAt.EqAt.tuple_str b t p hu0,SeqAt.RcAt.tuple_str b t p hu0,SeqAt.RcNeAt.tuple_str b t p hu0⟩
     | @tup b us ys h2 r2=>
       cases (show u2=Value.ref _ from q2);obtain⟨its2,rv2,p2,_⟩:=aF.tupH I h2;have g1:W.flats ws=true:=f1;have g2:W.flats us=true:=f2;have hd':W.deps ws<n:=by simp only[W.dep] at hd;lia
       have e1:its.length=ws.length:=by rw[←rv.length,r.length]
       have e2:its2.length=us.length:=by rw[←rv2.length,r2.length]
       have he:∀j (h1:j<its.toArray.size) (h2:j<its2.toArray.size),SeqAt.EqAt A.in1 s its.toArray[j] its2.toArray[j] (jx ws us j):=λj j1 j2=>by
        rw[size_toArray] at j1 j2;have ea:ws[j]?=some ws[j]:=ycz (by lia);have eb:us[j]?=some us[j]:=ycz (by lia);obtain⟨va,ea1,ra⟩:=r.get ea;obtain⟨vb,eb1,rb⟩:=r2.get eb;obtain⟨ua,ea2,qa⟩:=rv.get ea1;obtain⟨ub,eb2,qb⟩:=rv2.get eb1;have za:its.toArray[j]=ua:=by
         have:=(List.getElem?_eq_some_iff.mp ea2).2;simpa using this
        have zb:its2.toArray[j]=ub:=by
         have:=(List.getElem?_eq_some_iff.mp eb2).2;simpa using this
        rw[za,zb];have:=(ih A.in1 (w1:=ws[j]) (w2:=us[j]) (Nat.lt_of_le_of_lt (W.deps_get ea) hd') (W.flats_get g1 ea) (W.flats_get g2 eb) hui ra rb qa qb).1;unfold jx;rw[ea,eb];exact this
       have er:=fu ws us;have c1:=SeqAt.RcAt.tuples p p2 hu0 he;have c2:=SeqAt.RcNeAt.tuples p p2 hu0 he;rw[size_toArray,size_toArray,e1,e2,er] at c1 c2;have ee:(W.tup ws).eq (W.tup us)=W.eqs ws us:=rfl;rw[ee];refine⟨?_,c1,c2⟩
       by_cases hab:a=b
       ·subst hab;have z:=bK.inj f1 f2 (bK.tup h r) (bK.tup h2 r2);have t:W.eqs ws us=true:=by
         cases z;exact W.eqs_refl ws g1
        rw[t];exact SeqAt.EqAt.same _
       ·exact SeqAt.EqAt.of_refs hab c1
end
section
variable {X:Cx}
def wW:W2:=λx y G q=>x.flat=true/\y.flat=true/\x.dep<=150/\q (.bl (x.eq y)) G
def wX:W2:=λx y G q=>x.flat=true/\y.flat=true/\x.dep<=150/\q (.bl (!(x.eq y))) G
theorem AC (hr:aB k X.A):gY X (compareOp .Eq) wW:=by
 rintro π s σ H x y v u Q I rx ry ⟨wx,wy,G,q,r1,r2,g,⟨f1,f2,hd,h⟩,hQ⟩;exact(im I 151 X.A (by lia) f1 f2 (by have:=hr.un;lia) r1 r2 rx ry).2.1 X.prog X.w X.xe _ ⟨.bl _,H,I,rfl,hQ _ H _ G (aR.refl H) (.bl _) g h⟩
theorem AD (hr:aB k X.A):gY X (compareOp .NotEq) wX:=by
 rintro π s σ H x y v u Q I rx ry ⟨wx,wy,G,q,r1,r2,g,⟨f1,f2,hd,h⟩,hQ⟩;exact(im I 151 X.A (by lia) f1 f2 (by have:=hr.un;lia) r1 r2 rx ry).2.2 X.prog X.w X.xe _ ⟨.bl _,H,I,rfl,hQ _ H _ G (aR.refl H) (.bl _) g h⟩
def yZ:W2:=λx y G q=>match x,y with
 | .int i,.int j=>q (.int (i-j)) G
 | .bl a,.bl b=>q (.int (b2i a-b2i b)) G
 | _,_=>False
theorem qk:gY X (binaryOp .Sub) yZ:=by
 rintro π s σ H x y v u Q I rx ry ⟨wx,wy,G,q,r1,r2,g,h,hQ⟩;cases r1 with
 | int i=>
   cases r2 with
   | int j=>exact Af π s σ H _ _ v u Q I rx ry ⟨_,_,rfl,rfl,hQ _ H _ G (aR.refl H) (.int _) g h⟩
   | _=>exact False.elim h
 | bl a=>
   cases r2 with
   | bl b=>
     cases rx;cases ry;exact sub_bool ⟨.int _,H,I.tok _,⟨_,rfl⟩,hQ _ H _ G (aR.refl H) (.int _) g h⟩
   | _=>exact False.elim h
 | _=>exact False.elim h
noncomputable def ng:W->Bool
 | .non=>true
 | _=>false
def AE (neg:Bool):W2:=λx y G q=>y=.non/\q (.bl (neg ^^ ng x)) G
theorem y6:gY X (compareOp .Is) (AE false):=by
 rintro π s σ H x y v u Q I rx ry ⟨wx,wy,G,q,r1,r2,g,⟨e,h⟩,hQ⟩;subst e;cases r2;refine Ai π s σ H _ _ v u Q I rx ry ⟨rfl,?_⟩;have z:decide (x=V.non)=ng wx:=by cases r1<;> simp[ng]
 rw[z];exact hQ _ H _ G (aR.refl H) (.bl _) g (by simpa using h)
theorem AF:gY X (compareOp .IsNot) (AE true):=by
 rintro π s σ H x y v u Q I rx ry ⟨wx,wy,G,q,r1,r2,g,⟨e,h⟩,hQ⟩;subst e;cases r2;refine wH π s σ H _ _ v u Q I rx ry ⟨rfl,?_⟩;have z:decide (x=V.non)=ng wx:=by cases r1<;> simp[ng]
 rw[z];exact hQ _ H _ G (aR.refl H) (.bl _) g (by simpa using h)
abbrev WO:=cV->Gp->(Option Int->Gp->Prop)->Prop
def LO (K:yav) (t:WO):TO:=λσ H Q=>∃τ G q,bu K H τ σ/\aP K H G/\t τ G q/\∀o H1 G1,aR H H1->aP K H1 G1->q o G1->Q o H1
def QO (X:Cx) (e:Option Expr) (t:WO):Prop:=PO X e (LO X.K t)
theorem PO.imp {e:Option Expr} {t t':TO} (h:PO X e t) (f:∀σ H Q,t' σ H Q->t σ H Q):PO X e t':=λπ s σ H Q I q=>h π s σ H Q I (f _ _ _ q)
def ql:WO:=λ_ G q=>q none G
def y7 (t:WE):WO:=λτ G q=>t τ G λx G1=>match x with | .int i=>q (some i) G1 | _=>False
theorem ci:QO X none ql:=po_none.imp λσ H Q ⟨τ,G,q,hs,hg,ht,hQ⟩=>hQ none H G (aR.refl H) hg ht
theorem bR {te:WE} (h:QE X e te):QO X (some e) (y7 te):=
 (wP h).imp λσ H Q ⟨τ,G,q,hs,hg,ht,hQ⟩=>⟨τ,G,_,hs,hg,ht,λv H1 w G1 t1 r1 g1 q1=>by
   split at q1
   ·cases r1;exact⟨_,rfl,hQ _ H1 G1 t1 g1 q1⟩
   ·exact q1.elim⟩
noncomputable def cF (xs:List W) (lo hi:Option Int):List W:=(xs.drop (HT.sIx xs.length 0 lo)).take (HT.sIx xs.length xs.length hi-HT.sIx xs.length 0 lo)
theorem aS.cut {H:Hp} {ws:List W} {vs:List V} (r:aS K H ws vs) (lo hi:Option Int):aS K H (cF ws lo hi) (mS vs lo hi):=by
 unfold cF mS;rw[r.length];exact(r.drop _).take _
abbrev W3:=W->Option Int->Option Int->Gp->WK->Prop
def wY:W3:=λx lo hi G q=>match x with
 | .tup xs=>q (.tup (cF xs lo hi)) G
 | .scr ns=>ns.length<=100000/\∀p,G p=none->q (.ref p) (aw G p (.lst (cF (ns.map W.int) lo hi)))
 | .ref a=>∃xs,G a=some (.lst xs)/\∀p,G p=none->q (.ref p) (aw G p (.lst (cF xs lo hi)))
 | _=>False
theorem iP (xs:List W) (lo hi:Option Int):(cF xs lo hi).length<=xs.length:=by
 unfold cF;rw[length_take,length_drop];exact ycy (Nat.min_le_right _ _) (Nat.sub_le _ _)
theorem o6 {xs:List W} {lo hi:Option Int} (h:HT.sIx xs.length 0 lo=0/\HT.sIx xs.length xs.length hi=xs.length):cF xs lo hi=xs:=by
 unfold cF;rw[h.1,h.2,List.drop_zero,Nat.sub_zero,List.take_length]
theorem rX {t sl:Addr} {vl vu:Value} {lo hi:Option Int} (ht:IsTup s.heap t items) (hs:s.heap.IsSliceOf sl vl vu .none) (pl:IsPart vl lo) (pu:IsPart vu hi)
 (hw:HT.sIx items.size 0 lo=0/\HT.sIx items.size items.size hi=items.size) (h:Q (.ref t) s):wpAny (model prog w) A (getItem (.ref t) (.ref sl)) Q E s:=by
 obtain⟨os,hos,hcs,hds⟩:=id hs;have hTs:s.TypeIs (.ref sl) "slice":=⟨os,hos,hcs⟩;unfold getItem
 try with_reducible refine wpAny_holding ?_
 first | refine wax (way ?_) | skip
 refine wax (wpAny_sequenceKey ht.typeIs (by decide) ?_);refine wax (wpAny_callSpecial?_slot (name:=Str.ofString "__getitem__") ht.typeIs PyProof.Rows.slot_tuple_getitem
  (wpAny_call_entry PyProof.Rows.slot_tuple_getitem ht.typeIs entry_tuple_getitem ?_ (args_tuple_getitem _ _)))
 show wpAny _ _ (Builtin.Tuple.tupleItemsOf (.ref t) >>= _) _ _ s;refine wax (tupleItemsOf_ ht ?_);refine wax (wpAny_typeOf hTs ?_);rw[ycv (by decide)];refine wax (HT.sliceApplied_gen hs pl pu ?_);have hyes:(((HT.sIx items.size 0 lo:Nat):Int)==0&&(1:Int)==1&&(HT.sIx items.size items.size hi-HT.sIx items.size 0 lo)==items.size)=true:=by
  rw[hw.1,hw.2];simp
 show wpAny _ _ (if (((HT.sIx items.size 0 lo:Nat):Int)==0&&(1:Int)==1&&(HT.sIx items.size items.size hi-HT.sIx items.size 0 lo)==items.size)=true then _ else _) _ _ s;rw[ycv hyes];refine wax ?_;show wpAny _ _ (typeOf (.ref t) >>= _) _ _ s;refine wax (wpAny_typeOf ht.typeIs (way ?_));rw[ycv (by simp)];exact wax (wpAny_rule (way ⟨_,rfl,way h⟩))
def GL (K:yav) (r:W3):V->Option Int->Option Int->Hp->VK->Prop:=λx lo hi H Q=>∃w G q,bK K H w x/\aP K H G/\r w lo hi G q/\∀v H1 w G1,aR H H1->bK K H1 w v->aP K H1 G1->q w G1->Q v H1
theorem E6:Cj X (GL X.K wY):=by
 rintro π s σ H x v vl vu lo hi sl Q I rx hs pl pu ⟨w,G,q,r,g,h,hQ⟩;unfold wY at h;split at h
 ·cases r with
  | @tup a ws xs hh rr=>
    by_cases hw:HT.sIx xs.length 0 lo=0/\HT.sIx xs.length xs.length hi=xs.length
    ·cases rx;obtain⟨its,rv,ht,hz⟩:=I.tuple (cY.of hh);have hlen:its.toArray.size=xs.length:=by rw[size_toArray];exact rv.length.symm
     refine⟨"tuple",_,PyProof.Rows.slot_tuple_getitem.lookup,ht.typeIs,?_⟩;refine rX ht hs pl pu (by rw[hlen];exact hw) ⟨.ref a,H,I,rfl,?_⟩;rw[o6 (by rw[rr.length];exact hw)] at h;exact hQ _ H _ G (aR.refl H) (.tup hh rr) g h
    ·exact Ap π s σ H _ v vl vu lo hi sl Q I rx hs pl pu ⟨a,xs,rfl,cY.of hh,hw,λp hp=>hQ _ _ _ G (aR.new hp _) (.tup aZ ((rr.cut lo hi).mono (aR.new hp _))) (g.keep hp _) h⟩
 ·rename_i ns;cases r with
  | scr hh=>
    refine qf π s σ H _ v vl vu lo hi sl Q I rx hs pl pu ⟨_,_,rfl,hh.sq,λp hp=>hQ _ _ _ _ (aR.new hp _) (.ref p) (g.put (aR.new hp _) ((aS.ints ns).cut lo hi) ?_) (h.2 p (g.fresh hp))⟩;exact ycy (iP _ _ _) (by rw[length_map];exact h.1)
 ·obtain⟨xs,e,h⟩:=h;cases r;obtain⟨hl,zs,e1,rr⟩:=g _ _ e;exact qf π s σ H _ v vl vu lo hi sl Q I rx hs pl pu ⟨_,zs,rfl,cC.of e1,λp hp=>hQ _ _ _ _ (aR.new hp _) (.ref p) (g.put (aR.new hp _) (rr.cut lo hi) (ycy (iP _ _ _) hl)) (h p (g.fresh hp))⟩
 ·exact h.elim
theorem nh:bootBuiltins "isinstance"=some (.builtin "isinstance"):=by decide+kernel
noncomputable def o7 (G:Gp):W->Option String
 | .non=>some "NoneType"
 | .bl _=>some "bool"
 | .int _=>some "int"
 | .str _=>some "str"
 | .tup _=>some "tuple"
 | .ref a=>match G a with | some (.lst _)=>some "list" | some .dct=>some "dict" | some (.dic _)=>some "dict" | _=>none
 | .scr _=>none
noncomputable def fR:String->String->Bool
 | "int","int"=>true
 | "bool","int"=>true
 | "bool","bool"=>true
 | "tuple","tuple"=>true
 | "list","list"=>true
 | "str","str"=>true
 | _,_=>false
def lL (T:String):Prop:=T="int"∨T="bool"∨T="tuple"∨T="list"∨T="str"
theorem AG {t T:String} (ht:t="NoneType"∨t="bool"∨t="int"∨t="str"∨t="tuple"∨t="list"∨t="dict") (hT:lL T):PySem.W.kitOne K (.type t) (.type T)=some (fR t T):=by
 rcases ht with rfl | rfl | rfl | rfl | rfl | rfl | rfl<;> rcases hT with rfl | rfl | rfl | rfl | rfl<;> first | rfl | kernel_rfl | decide+kernel
def CM (T:String) (te:WE):WE:=λτ G q=>te τ G λx G1=>match o7 G1 x with | some t=>q (.bl (fR t T)) G1 | none=>False
theorem nl {H:Hp} {G:Gp} {w:W} {v:V} {t:String} (g:aP K H G) (r:bK K H w v) (e:o7 G w=some t):ib K H v (.type t)/\(t="NoneType"∨t="bool"∨t="int"∨t="str"∨t="tuple"∨t="list"∨t="dict"):=by
 unfold o7 at e;cases r with
 | non=>cases e;exact⟨.non,by simp⟩
 | bl b=>cases e;exact⟨.bl b,by simp⟩
 | int i=>cases e;exact⟨.int i,by simp⟩
 | str x=>cases e;exact⟨.str x,by simp⟩
 | tup h _=>cases e;exact⟨.tup h,by simp⟩
 | scr h=>cases e
 | ref a=>
   simp only at e;split at e
   ·rename_i ws e1;cases e;obtain⟨_,xs,e2,_⟩:=g a _ e1;exact⟨.lst e2,by simp⟩
   ·rename_i e1;cases e;exact⟨.dK (g a _ e1),by simp⟩
   ·rename_i kvs e1;cases e;obtain⟨_,kvs',e2,_⟩:=g a _ e1;exact⟨.dK e2,by simp⟩
   ·cases e
theorem CN {T:String} (hT:lL T) {σ:St} {H:Hp} {v:V} {w:W} {G:Gp} {q:WK} {Q:VK} (I:aF X π σ H s) (ru:bd v u) (r:bK X.K H w v) (g:aP X.K H G)
 (h:match o7 G w with | some t=>q (.bl (fR t T)) G | none=>False) (hQ:∀v H1 w G1,aR H H1->bK X.K H1 w v->aP X.K H1 G1->q w G1->Q v H1):
 wpAny (model X.prog X.w) X.A (call (.builtin "isinstance") [u,.type T]) (EP X π σ Q) X.xe s:=by
 split at h
 ·rename_i t e;obtain⟨ty,hk⟩:=nl g r e;exact kB I ru ty (AG hk hT) λtk=>⟨.bl _,H,I.tok tk,rfl,hQ _ H _ G (aR.refl H) (.bl _) g h⟩
 ·exact h.elim
theorem io {T:String} {te:WE} {p p2 pos:Pos} (hT:lL T) (hv:bootBuiltins x=some (.type T)) (hm:X.mg x=none) (hgx:Gl X x) (hm1:X.mg "isinstance"=none) (hg1:Gl X "isinstance") (he:QE X e te) (hn:x≠"__name__":=by decide) (hd:(x==("__debug__":Str))=false:=by decide)
 (hs1:starEach [e,.Name x p2] X.env=(false,eval e X.env)::starEach [.Name x p2] X.env:=by rfl) (hs2:starEach [.Name x p2] X.env=(false,eval (.Name x p2) X.env)::starEach [] X.env:=by rfl)
 (hpl:(backTo pos (starEach [.Name x p2] X.env)).any (·.1)=false:=by rfl):QE X (.Call (.Name "isinstance" p) [e,.Name x p2] [] pos) (CM T te):=by
 have hb:PE X (.Name x p2) (tC (.ty T)):=pZ hgx hm hv rfl hn hd;have ha:PA X [e,.Name x p2] (mP (kg X.K te) (mP (tC (.ty T)) sW)):=cA he (cA hb pa_nil hs2) hs1;have hc:eZ X (.builtin "isinstance") (λvs H Q=>∃(v:V) (w:W) (G:Gp) (q:WK),vs=[v,.ty T]/\bK X.K H w v/\aP X.K H G/\(match o7 G w with | some t=>q (.bl (fR t T)) G | none=>False)/\∀v H1 w G1,aR H H1->bK X.K H1 w v->aP X.K H1 G1->q w G1->Q v H1):=by
  rintro π s σ H xs us Q I r ⟨v,w,G,q,e1,r1,g1,h,hQ⟩;subst e1;obtain⟨u,u2,rfl,ru,ru2⟩:=jp r;cases (show u2=Value.type T from ru2);exact CN hT I ru r1 g1 h hQ
 exact(jr hc hg1 hm1 nh ha (by decide) (by decide) hs1 hpl).imp λσ H Q z0=>z0.el λτ G q hs hg ht hQ=>⟨τ,G,_,hs,hg,ht,λv H1 w G1 t1 r1 g1 q1=>
  ⟨v,w,G1,q,rfl,r1,g1,q1,λv2 H2 w2 G2 t2=>hQ v2 H2 w2 G2 (t1.trans t2)⟩⟩
def AH:List W->Gp->WK->Prop:=λws G q=>match ws with
 | [.ref a]=>∃ns:List Int,G a=some (.lst (ns.map W.int))/\q (.int ns.sum) G
 | _=>False
theorem aS.ints_of {K:yav} {H:Hp}:∀{ns:List Int} {vs:List V},aS K H (ns.map W.int) vs->vs=ns.map V.int
 | [],_,r=>by cases r;rfl
 | n::ns,_,r=>by
   cases r with
   | cons r rs=>
     cases r;rw[aS.ints_of rs]
     rfl
theorem CO (hc:X.calm=true):eg X (.builtin "sum") AH:=by
 rintro π s σ H xs us Q I r ⟨ws,G,q,rw',g,h,hQ⟩;unfold AH at h;split at h
 ·rename_i a;obtain⟨ns,e,h⟩:=h;obtain⟨v,rfl,r1⟩:=rw'.one;cases r1;obtain⟨_,zs,e1,rr⟩:=g a _ e;obtain rfl:=rr.ints_of;obtain⟨u,rfl,ru⟩:=e9 r;cases (show u=Value.ref a from ru);obtain⟨its,rv,p,hz⟩:=I.list (cC.of e1);have hi:IntsAre its ns:=L2.intsAre_of rv;obtain⟨ys,ey⟩:=hi.allInts.items;have hn:(ys.toList.map (·.1))=ns:=by rw[←nums_intItems,←ey,←hi.numsOf]
  have hl:s.heap.IsList a (intItems ys):=by rw[←ey];exact p.isList
  refine sum_intListG (I.ok.hd hc) hl λh' tk t' hk=>⟨.int _,H,I.kept hk,⟨t',rfl⟩,?_⟩;have es:preSum (numAt ys) ys.size=ns.sum:=by rw[preSum_eq,List.take_of_length_le (by simp),hn]
  rw[es];exact hQ _ H _ G (aR.refl H) (.int _) g h
 ·exact h.elim
def CP (to te:WE):WE:=λτ G q=>to τ G λx G1=>match x with
 | .ref a=>(∃xs,G1 a=some (.lst xs))/\te τ G1 λy G2=>∃ys,G2 a=some (.lst ys)/\ys.length+1<=100000/\q .non (aw G2 a (.lst (ys++[y])))
 | _=>False
theorem ip {o e:Expr} {to te:WE} {apos cpos:Pos} (ho:QE X o to) (he:QE X e te)
 (hbase:attributeBase o "append" X.env (eval o X.env)=eval o X.env:=by rfl)
 (hfew:((backTo cpos (starEach [e] X.env)).all (λx=>!x.1)&&(backToKw cpos (keywordEach [] X.env)).all (λx=>x.1.isSome)
   &&decide (([e]:List Expr).length+([]:List Keyword).length+(if ([]:List Keyword).isEmpty then 0 else 1)<30))=true:=by rfl)
 (hline:(apos.endLine==cpos.line)=true:=by rfl) (hs:starEach [e] X.env=(false,eval e X.env)::starEach [] X.env:=by rfl):
 QE X (.Call (.Attribute o "append" apos) [e] [] cpos) (CP to te):=
 (yP PySem.F.plainAttrs_list PySem.F.slot_list_append PySem.F.type_list_append rT ho (cA he pa_nil hs) hbase hfew hline hs rfl).imp λσ H Q z0=>z0.el λτ G q hs hg ht hQ=>
   ⟨τ,G,_,hs,hg,ht,λv H1 w G1 t1 r1 g1 q1=>by
     split at q1
     ·rename_i a;cases r1;obtain⟨⟨xs,e1⟩,q1⟩:=q1;obtain⟨_,xs',h1,_⟩:=g1 a _ e1;refine⟨.inl ⟨rfl,xs',cC.of h1⟩,τ,G1,_,hs.mono t1,g1,q1,λv2 H2 w2 G2 t2 r2 g2 q2=>?_⟩;obtain⟨ys,e2,hl,q2⟩:=q2;obtain⟨_,ys',h2,rr⟩:=g2 a _ e2;refine⟨a,ys',v2,rfl,rfl,h2,?_,?_⟩
      ·rw[←rr.length];exact bP hl
      ·exact hQ _ _ _ _ ((t1.trans t2).trans (aR.lst h2 _)) .non (g2.put (aR.lst h2 _) (rr.append (.cons r2 .nil)) (by rw[length_append];exact hl)) q2
     ·exact q1.elim⟩
end
structure oH (K:yav) (J:It) (ws:List W) (C:Gp->Prop) (H0:Hp):Prop where
 stop:∀i H G,aR H0 H->aP K H G->C G->ws.length<=i->J.stop i H
 go:∀i w H G,aR H0 H->aP K H G->C G->ws[i]?=some w->J.go i H/\∀x H',J.yld i H x H'->aR H H'/\bK K H' w x/\aP K H' G
abbrev WI:=cV->Gp->(List W->(Gp->Prop)->Gp->Prop)->Prop
def LI (K:yav) (t:WI):TI:=λσ H R=>∃τ G r,bu K H τ σ/\aP K H G/\t τ G r/\∀J H1 ws C G1,aR H H1->aP K H1 G1->oH K J ws C H1->r ws C G1->R J H1
def QI (X:Cx) (tg iter:Expr) (t:WI):Prop:=PI X tg iter (LI X.K t)
section
variable {X:Cx} {tg:Expr}
theorem PI.imp {t t':TI} (h:PI X tg e t) (f:∀σ H R,t' σ H R->t σ H R):PI X tg e t':=λπ s σ H R I q=>h π s σ H R I (f _ _ _ q)
theorem wZ {ws:List W} {xs:List V} {H:Hp} (h:H a=some (.tup xs)) (r:aS K H ws xs):oH K (EJ K a) ws (λ_=>True) H where
 stop:=λi H1 G t g _ hl=>⟨xs,cY.of (t.tup _ _ h),by rw[←r.length];exact hl⟩
 go:=λi w H1 G t g _ e=>by
  obtain⟨v,e1,rv⟩:=r.get e;refine⟨⟨xs,v,cY.of (t.tup _ _ h),e1⟩,λx H' z9=>?_⟩;obtain⟨eH,hy⟩:=z9;subst eH;have e2:=hy xs (cY.of (t.tup _ _ h));rw[e1] at e2;cases e2;exact⟨aR.refl _,rv.mono t,g⟩
theorem w9 {ws:List W} {H:Hp}:oH K (Ej K a) ws (λG=>G a=some (.lst ws)) H where
 stop:=λi H1 G t g e hl=>by
  obtain⟨_,xs,h1,r⟩:=g a _ e;exact⟨xs,cC.of h1,by rw[←r.length];exact hl⟩
 go:=λi w H1 G t g eG e=>by
  obtain⟨_,xs,h1,r⟩:=g a _ eG;obtain⟨v,e1,rv⟩:=r.get e;refine⟨⟨xs,v,cC.of h1,e1⟩,λx H' z9=>?_⟩;obtain⟨eH,hy⟩:=z9;subst eH;have e2:=hy xs (cC.of h1);rw[e1] at e2;cases e2;exact⟨aR.refl _,rv,g⟩
theorem xc {ns:List Int} {H:Hp} (h:yR K H a ns):oH K (Ej K a) (ns.map W.int) (λ_=>True) H where
 stop:=λi H1 G t g _ hl=>⟨_,(h.mono t).sq,by simpa using hl⟩
 go:=λi w H1 G t g _ e=>by
  have r:aS K H1 (ns.map W.int) (ns.map V.int):=aS.ints ns;obtain⟨v,e1,rv⟩:=r.get e;refine⟨⟨_,v,(h.mono t).sq,e1⟩,λx H' z9=>?_⟩;obtain⟨eH,hy⟩:=z9;subst eH;have e2:=hy _ (h.mono t).sq;rw[e1] at e2;cases e2;exact⟨aR.refl _,rv,g⟩
noncomputable def sH (n:Nat):List W:=(List.range n).map λ(i:Nat)=>W.int (i:Int)
theorem xf {n:Nat} {H:Hp}:oH K (Ek 0 n) (sH n) (λ_=>True) H where
 stop:=λi H1 G t g _ hl=>by have h:n<=i:=(by simpa[sH] using hl);exact h
 go:=λi w H1 G t g _ e=>by
  unfold sH at e;rw[List.getElem?_map] at e;have hi:i<n:=by
   cases h:(List.range n)[i]? with
   | none=>rw[h] at e;cases e
   | some k=>
     have:=(List.getElem?_eq_some_iff.mp h).1;simpa using this
  rw[List.getElem?_range hi] at e;cases e;refine⟨hi,λx H' z9=>?_⟩;obtain⟨eH,hy⟩:=z9;subst eH;subst hy;exact⟨aR.refl _,by simpa using bK.int _,g⟩
def CQ (ta:WA):WI:=λτ G r=>ta τ G λws G1=>match ws with
 | [.int j]=> -(2^62)<=j/\j<2^62/\r (sH j.toNat) (λ_=>True) G1
 | _=>False
theorem jy {a:Expr} {ta:WA} {p pos:Pos} (hg:Gl X "range") (hm:X.mg "range"=none) (ha:QA X [a] ta) (hs:starEach [a] X.env=[(false,eval a X.env)]:=by rfl):QI X tg (.Call (.Name "range" p) [a] [] pos) (CQ ta):=
 (rK hg hm ha hs).imp λσ H R ⟨τ,G,r,hs,hg,ht,hR⟩=>⟨τ,G,_,hs,hg,ht,λvs H1 ws G1 t1 r1 g1 q1=>by
   split at q1
   ·obtain⟨v,rfl,r2⟩:=r1.one;cases r2 with
    | int j=>exact⟨_,rfl,q1.1,q1.2.1,hR _ H1 _ _ G1 t1 g1 xf q1.2.2⟩
   ·exact q1.elim⟩
def jz (C:Gp->Prop) (g:WG) (tb:WS) (d:du):List W->cV->Gp->Prop
 | [],τ,G=>C G/\d.nx τ G
 | w::ws,τ,G=>C G/\g w τ G λτ2 G2=>tb { d with nx:=jz C g tb d ws,ct:=jz C g tb d ws,bk:=d.nx } τ2 G2
def CS (wi:WI) (g:WG) (tb:WS):WS:=λd τ G=>wi τ G λws C G1=>jz C g tb d ws τ G1
theorem dg {iter:Expr} {wi:WI} {g:WG} {tb:WS} (hp:PassesOwn (model X.prog X.w) X.A X.env X.xe) (hc:X.calm=true) (hi:QI X tg iter wi) (hg:QG X tg g) (hb:mX X body tb)
 (hs:∀x,foldedSetIterable iter X.env x=pure x:=by intro _;rfl):QS X (.For tg iter body [] pos) (CS wi g tb):=
 (Aa hp hc hi hg hb hs).imp λD σ H z0=>z0.el λτ G d hs hg ht l=>⟨τ,G,_,hs,hg,ht,λJ H1 ws C G1 t1 g1 it q1=>by
   refine⟨λi m σ2 H2=>∃τ2 G2,m=ws.length-i/\i<=ws.length/\aR H1 H2/\bu X.K H2 τ2 σ2/\aP X.K H2 G2/\jz C g tb d (ws.drop i) τ2 G2,⟨ws.length,τ,G1,by simp,zero_le _,aR.refl _,hs.mono t1,g1,by simpa using q1⟩,?_⟩;rintro i m σ2 H2 ⟨τ2,G2,rfl,hi,t2,s2,g2,q2⟩
   by_cases hlt:i<ws.length
   ·have ed:ws.drop i=ws[i]::ws.drop (i+1):=drop_eq_getElem_cons hlt;rw[ed] at q2;obtain⟨c2,q2⟩:=q2;obtain⟨go,yl⟩:=it.go i ws[i] H2 G2 t2 g2 c2 (ycz hlt);refine .inr ⟨go,λσ3 H3=>∃τ3 G3,aR H1 H3/\bu X.K H3 τ3 σ3/\aP X.K H3 G3/\jz C g tb d (ws.drop (i+1)) τ3 G3,?_,λx H' hy=>?_⟩
    ·rintro σ3 H3 ⟨τ3,G3,t3,s3,g3,q3⟩;exact⟨ws.length- (i+1),by lia,τ3,G3,rfl,hlt,t3,s3,g3,q3⟩
    ·obtain⟨tx,rx,gx⟩:=yl x H' hy;refine⟨ws[i],τ2,G2,_,rx,s2.mono tx,gx,q2,λσ3 H3 τ3 G3 t3 s3 g3 q3=>?_⟩;have tt:=(t2.trans tx).trans t3;have t0:=t1.trans tt;exact⟨τ3,G3,_,s3,g3,q3,⟨λσ4 H4 τ4 G4 t4 s4 g4 q4=>⟨τ4,G4,tt.trans t4,s4,g4,q4⟩,λv H4 w G4 t4=>l.rt v H4 w G4 (t0.trans t4),λσ4 H4 τ4 G4 t4=>l.nx σ4 H4 τ4 G4 (t0.trans t4),λσ4 H4 τ4 G4 t4 s4 g4 q4=>⟨τ4,G4,tt.trans t4,s4,g4,q4⟩⟩⟩
   ·have e:i=ws.length:=by lia
    subst e;rw[List.drop_length] at q2;exact .inl ⟨it.stop _ H2 G2 t2 g2 q2.1 (ycx _),l.nx σ2 H2 τ2 G2 (t1.trans t2) s2 g2 q2.2⟩⟩
end
section
variable {prog:Program} {w:World} {A:Around} {E:yey} {s:Shared}
structure ZA (z p r i j a b:Addr):Prop where
 zp:p≠z
 zr:r≠z
 zi:i≠z
 zj:j≠z
 pr:p≠r
 pi:p≠i
 pj:p≠j
 ri:r≠i
 rj:r≠j
 ij:i≠j
 az:a≠z
 ar:a≠r
 ai:a≠i
 aj:a≠j
 bz:b≠z
 br:b≠r
 bi:b≠i
 bj:b≠j
structure ZT (z p r i j a b:Addr) (n:Nat) (f:Value) (h:Heap):Prop where
 hz:IsZip h z p r f
 hp:IsPair h p (.ref i) (.ref j)
 hr:∃x y,IsPair h r x y
 hi:h.IsTupleIter i a n
 hj:h.IsTupleIter j b n
end
section
variable {prog:Program} {w:World} {A:Around} {R:Result->Shared->Prop} {s:Shared}
abbrev nox:Value->Shared->Prop:=λ_ _=>False
noncomputable abbrev y8 (ifs:List Expr) (env:Env):Sem Bool:=forIn ifs true λc r=>if r=true then do let ok ←isTrue c env (eval c env);pure (ForInStep.yield ok) else pure (ForInStep.yield r)
theorem rY {elt tg iter:Expr} {ifs:List Expr} {it acc:Value} {env:Env} (I:Nat->Shared->Prop)
 (turn:∀n s,I n s->wpAny (model prog w) A (pyNext it) (λr s1=>match r with
   | none=>R (.ok .next) s1
   | some v=>wpAny (model prog w) A (letOwnedTupleGo tg it v) (λ_ s2=>wpAny (model prog w) A (assign tg env v) (λ_ s3=>wpAny (model prog w) A (y8 ifs env) (λok s4=>
      if ok=true then wpAny (model prog w) A (eval elt env) (λx s5=>wpAny (model prog w) A (call (.builtin "list.append") [acc,x]) (λ_ s6=>∃m,m<n/\I m s6) nox s5) nox s4
      else ∃m,m<n/\I m s4) nox s3) nox s2) nox s1) nox s) (n:Nat) (h:I n s):
 codeAny (model prog w) A (.compLoop (.ListComp elt [⟨tg,iter,ifs,0⟩] scope pos) 0 it acc env) R s:=by
 refine codeAny_loop rfl I (λn s hI=>?_) n h;show wpAny _ A ((compTurn (.ListComp elt [⟨tg,iter,ifs,0⟩] scope pos) 0 it acc env).onRaise (λx=>do noteFrame x env;theTreesLotGoes x)) _ _ s;refine wpAny_noted ?_;rw[compTurn_list];refine wax (wpAny_standAt (wax (wpAny_mono (turn n s hI) (λr s1 h1=>?_) λ_ _ z=>z.elim)));cases r with
 | none=>exact way h1
 | some v=>
   refine wax (wpAny_mono h1 (λ_ s2 h2=>wax (wpAny_mono h2 (λ_ s3 h3=>wax (wpAny_mono h3 (λok s4 h4=>?_) λ_ _ z=>z.elim)) λ_ _ z=>z.elim)) λ_ _ z=>z.elim);cases ok with
   | false=>exact way ⟨rfl,h4⟩
   | true=>
     refine wax (wax (wpAny_mono h4 (λx s5 h5=>?_) λ_ _ z=>z.elim));exact wax (wpAny_mono h5 (λ_ s6 h6=>way (way ⟨rfl,h6⟩)) λ_ _ z=>z.elim)
end
noncomputable def gF (env:Env):List (Str×NameKind)->List (Str×Addr)->List (Str×Addr)
 | [],cs=>cs
 | (n,k)::r,cs=>if k== .free then gF env r ((n,(env.cells.lookup n).getD 0)::cs) else gF env r cs
theorem eL {env:Env} (h:∀y∈scope.names,y.2=.free->∃c,env.cells.lookup y.1=some c):closureFor scope env=pure (gF env scope.names []):=by
 unfold closureFor;have key:∀(l:List (Str×NameKind)) (cs:List (Str×Addr)),(∀y∈l,y.2=.free->∃c,env.cells.lookup y.1=some c)->
  (forIn l cs λ(x:Str×NameKind) (r:List (Str×Addr))=>(if (x.2==NameKind.free)=true then (do let y ←cellOf env x.1;pure (ForInStep.yield ((x.1,y)::r))) else pure (ForInStep.yield r):Sem (ForInStep (List (Str×Addr)))))=(pure (gF env l cs):Sem (List (Str×Addr))):=by
  intro l
  induction l with
  | nil=>intro cs _;rfl
  | cons y r ih=>
    intro cs hl;obtain⟨n,k⟩:=y;rw[List.forIn_cons];unfold gF
    by_cases hk:(k==NameKind.free)=true
    ·have hk':k=.free:=by simpa using hk
     obtain⟨c,hc⟩:=hl (n,k) yby hk';simp only[hk,if_true];have e:cellOf env n=pure c:=by unfold cellOf;rw[hc]
     rw[e,hc];simp only[pure_bind,Option.getD_some];exact ih _ λy hy=>hl y (ybx _ hy)
    ·simp only[hk,if_false,Bool.false_eq_true];simp only[pure_bind];exact ih _ λy hy=>hl y (ybx _ hy)
 have:=key scope.names [] h;simp only[bind_pure];exact this
theorem dU {env:Env}:∀{l:List (Str×NameKind)} {cs:List (Str×Addr)},(∀y∈l,y.2=.free->∃c,env.cells.lookup y.1=some c)->(∀x c,cs.lookup x=some c->env.cells.lookup x=some c)->∀x c,(gF env l cs).lookup x=some c->env.cells.lookup x=some c
 | [],_,_,hc,x,c,e=>hc x c e
 | (n,k)::r,cs,hl,hc,x,c,e=>by
   unfold gF at e;have hr:∀y∈r,y.2=.free->∃c,env.cells.lookup y.1=some c:=λy hy=>hl y (ybx _ hy);split at e
   ·rename_i hk;obtain⟨c0,hc0⟩:=hl (n,k) yby (by simpa using hk);refine dU hr (λx' c' e'=>?_) x c e;rw[lookup_cons] at e';cases hx:x'==n with
    | true=>
      rw[hx] at e';have:x'=n:=by simpa using hx
      subst this;rw[hc0] at e';simp at e';subst e';exact hc0
    | false=>rw[hx] at e';exact hc x' c' e'
   ·exact dU hr hc x c e
theorem fe {env:Env}:∀{l:List (Str×NameKind)} {cs:List (Str×Addr)} {x:Str},((x,NameKind.free)∈l∨∃c,cs.lookup x=some c)->∃c,(gF env l cs).lookup x=some c
 | [],_,_,h=>by
   rcases h with h | h
   ·simp at h
   ·exact h
 | (n,k)::r,cs,x,h=>by
   unfold gF;have keep:(∃c,cs.lookup x=some c)->∃c,((n,(env.cells.lookup n).getD 0)::cs).lookup x=some c:=λ⟨c,e⟩=>by
    rw[lookup_cons];cases hx:x==n with
    | true=>exact⟨_,rfl⟩
    | false=>exact⟨c,e⟩
   split
   ·rename_i hk;refine fe ?_;rcases h with h | h
    ·rcases mem_cons.mp h with h | h
     ·cases h;exact .inr ⟨(env.cells.lookup n).getD 0,by rw[lookup_cons];simp⟩
     ·exact .inl h
    ·exact .inr (keep h)
   ·rename_i hk;refine fe ?_;rcases h with h | h
    ·rcases mem_cons.mp h with h | h
     ·cases h;exact absurd rfl hk
     ·exact .inl h
    ·exact .inr h
theorem dM {env:Env}:∀{l:List (Str×NameKind)} {x:Str} {k:NameKind},(l.map λ(n,k)=>if (k==NameKind.free&&env.scope.kind== .function&&env.kindOf n==some .cell) then (n,NameKind.cell) else (n,k)).lookup x=some k->(k=.cell∨k=.free)->(∀y∈l,y.2≠ .cell)->(x,NameKind.free)∈l
 | [],_,_,e,_,_=>by simp at e
 | (n,k0)::r,x,k,e,hk,hc=>by
   rw[map_cons,lookup_cons] at e;have hr:∀y∈r,y.2≠ .cell:=λy hy=>hc y (ybx _ hy);have hn:(if (k0==NameKind.free&&env.scope.kind== .function&&env.kindOf n==some .cell)=true then (n,NameKind.cell) else (n,k0)).1=n:=by split<;> rfl
   rw[hn] at e;cases hx:x==n with
   | false=>rw[hx] at e;exact ybx _ (dM e hk hr)
   | true=>
     rw[hx] at e;have hxn:x=n:=by simpa using hx
     subst hxn;have e':(if (k0==NameKind.free&&env.scope.kind== .function&&env.kindOf x==some .cell)=true then (x,NameKind.cell) else (x,k0)).2=k:=Option.some.inj e
     by_cases hf:k0=.free
     ·subst hf;exact yby
     ·rw[ycw (by simp[hf])] at e';have e'':k0=k:=e';subst e'';rcases hk with h | h
      ·exact absurd h (hc _ yby)
      ·exact absurd h hf
theorem fL {env:Env}:∀{l:List (Str×NameKind)} {x:Str},(l.map λ(n,k)=>if (k==NameKind.free&&env.scope.kind== .function&&env.kindOf n==some .cell) then (n,NameKind.cell) else (n,k)).lookup x=some .local->l.lookup x=some .local
 | [],_,e=>by simp at e
 | (n,k0)::r,x,e=>by
   rw[map_cons,lookup_cons] at e;rw[lookup_cons];have hn:(if (k0==NameKind.free&&env.scope.kind== .function&&env.kindOf n==some .cell)=true then (n,NameKind.cell) else (n,k0)).1=n:=by split<;> rfl
   rw[hn] at e;cases hx:x==n with
   | false=>rw[hx] at e;exact fL e
   | true=>
     rw[hx] at e;have e':(if (k0==NameKind.free&&env.scope.kind== .function&&env.kindOf n==some .cell)=true then (n,NameKind.cell) else (n,k0)).2=NameKind.local:=Option.some.inj e;split at e'
     ·cases e'
     ·exact congrArg some e'
noncomputable def gf (X:Cx) (N:List Str) (scope:Scope) (C:Addr) (fp:List Addr) (s₀:Shared) (H₀:Hp):Cx where
 prog:=X.prog
 w:=X.w
 K:=X.K
 mg:=X.mg
 base:=X.base
 A:=X.A
 N:=N
 s₀:=s₀
 H₀:=H₀
 env:=compEnvC scope (gF X.env scope.names []) C X.env
 outer:=X.stack
 stack:=X.stack
 ex:=fp
 fn:=λ_=>false
 calm:=X.calm
 pn:=[]
 xe:=nox
structure eM (X:Cx) (scope:Scope) (N:List Str) (fv:List (Option Nat)):Prop where
 kind:scope.kind=.function
 nocell:∀y∈scope.names,y.2≠ .cell
 names:∀x∈scope.names,x.2=.local->scope.names.lookup x.1=some .local
 free:∀y∈scope.names,y.2=.free->X.env.scope.names.lookup y.1=some .cell
 fvs:∀(i j:Nat) (x:Str),N[i]?=some x->fv[i]?=some (some j)->X.N[j]?=some x/\X.env.scope.names.lookup x=some .cell/\(x,NameKind.free)∈scope.names
 len:fv.length=N.length
 fvl:∀{x:Str},(x,NameKind.free)∈scope.names->scope.names.lookup x≠some .local
noncomputable def pick {α:Type} (fv:List (Option Nat)) (σ:List (Option α)):List (Option α):=fv.map λo=>o.bind λj=>(σ[j]?).join
theorem nq {α:Type} {fv:List (Option Nat)} {σ:List (Option α)} {v:α} (h:(pick fv σ)[i]?=some (some v)):∃j,fv[i]?=some (some j)/\σ[j]?=some (some v):=by
 unfold pick at h;rw[List.getElem?_map] at h;cases e:fv[i]? with
 | none=>rw[e] at h;cases h
 | some o=>
   rw[e] at h;cases o with
   | none=>cases h
   | some j=>
     have h':(σ[j]?).join=some v:=Option.some.inj h;refine⟨j,rfl,?_⟩;cases e2:σ[j]? with
     | none=>rw[e2] at h';cases h'
     | some o=>rw[e2] at h';exact congrArg some h'
theorem tQ {H:Hp} {τ:cV} {σ:St} {fv:List (Option Nat)} (h:bu K H τ σ):bu K H (pick fv τ) (pick fv σ):=by
 refine⟨by simp[pick],λi w e=>?_⟩;obtain⟨j,ej,ew⟩:=nq e;obtain⟨v,ev,r⟩:=h.2 j w ew;refine⟨v,?_,r⟩;unfold pick;rw[List.getElem?_map,ej];show some ((σ[j]?).join)=_;rw[ev]
 rfl
section
variable {X:Cx} {π:List (Addr×Obj)} {σ:St} {H H2:Hp} {s s2:Shared} {scope:Scope} {N:List Str} {fv:List (Option Nat)} {fp:List Addr} {C D:Addr}
theorem eM.cells (S:eM X scope N fv) (I:aF X π σ H s):∀y∈scope.names,y.2=.free->∃c,X.env.cells.lookup y.1=some c:=λy hy hk=>I.ok.has y.1 (.inl (S.free y hy hk))
theorem rZ {h4:Heap} {t4:Nat} {m:yew} (I:aF X π σ H2 s2) (S:eM X scope N fv) (hf:∀b∈fp,hJ X π H2 b) (hfo:∀b∈fp,b<s2.heap.objs.size) (keep:∀b o,s2.heap.get? b=some o->h4.get? b=some o)
 (hC:s2.heap.objs.size<=C) (ns:h4.Ns C m):aF (gf X N scope C fp s2 H2) [] (pick fv σ) H2 { s2 with heap:=h4,toks:=t4 }:=by
 have look:∀x c,(gF X.env scope.names []).lookup x=some c->X.env.cells.lookup x=some c:=dU (S.cells I) (λx c e=>by simp at e);refine⟨⟨I.ok.mod,S.kind,I.ok.glob,I.ok.blt,hC,λx y c e1 e2=>I.ok.inj x y c (look x c e1) (look y c e2),λx hx=>?_,λx c h=>absurd (show false=true from h) ydx,I.ok.hd,I.ok.frames,.inl rfl,λb hb=>?_,I.bs,ycy I.ok.bsz I.sz,λb o e hb=>?_,λb hb hx=>?_,I.stack,I.stkFree⟩,
  rfl,I.bare,Un.kept keep,⟨m,ns,λi x v e1 e2 e3=>?_⟩,λx c e=>?_,I.hok.fresh hC,λx c e=>I.freeC x c (look x c e),λp hp=>absurd (show p∈([]:List (Addr×Obj)) from hp) (by simp),I.hok.kept keep,?_⟩
 ·rcases hx with hx | hx
  ·exact fe (.inl (dM hx (.inl rfl) S.nocell))
  ·exact fe (.inl (dM hx (.inr rfl) S.nocell))
 ·exact⟨ne_of_lt (ydw (hfo b hb) hC),λx c e=>(hf b hb).2.2.2.2.1 x c (look x c e)⟩
 ·rcases(hf b hb).2.2.2.1 with z | z
  ·exact I.ok.noex b o e z
  ·exact absurd (ydw (ybv e) (ycy I.ok.bsz z)) (lt_irrefl _)
 ·rcases mem_cons.mp (I.stkSub b hx) with z | z
  ·exact(hf b hb).2.1 z
  ·exact(hf b hb).2.2.1 z
 ·obtain⟨j,ej,ev⟩:=nq e2;obtain⟨h1,h2,h3⟩:=S.fvs i j x e1 ej;obtain⟨m0,_,hl⟩:=I.loc;obtain⟨u,r,l⟩:=hl j x v h1 ev (.inr (.inl h2));refine⟨u,r,.inr ?_⟩;rcases l with⟨k,_⟩ | ⟨_,c,ec,o,ho,hd⟩
  ·exact absurd (h2.symm.trans k) (by intro z;cases z)
  ·obtain⟨c',ec'⟩:=fe (env:=X.env) (l:=scope.names) (cs:=[]) (x:=x) (.inl h3);have e':=look x c' ec';rw[ec] at e';cases e';refine⟨?_,c,ec',o,keep _ _ ho,hd⟩;rcases e3 with e3 | e3 | e3
   ·exact absurd (fL e3) λz=>S.fvl h3 z
   ·exact .inl e3
   ·exact .inr e3
 ·obtain⟨v,o,ho,hd⟩:=I.cell x c (look x c e);exact⟨v,o,keep _ _ ho,hd⟩
 ·show(pick fv σ).length=N.length;unfold pick;rw[length_map,S.len]
end
def cq (C:Gp->Prop) (g:WG) (tt:WT) (te:WE):List W->cV->Gp->List W->(List W->Gp->Prop)->Prop
 | [],_,G,acc,q=>C G/\q acc G
 | w::ws,τ,G,acc,q=>C G/\g w τ G λτ2 G2=>tt τ2 G2 λb G3=>if b=true then te τ2 G3 λv G4=>acc.length+1<=100000/\cq C g tt te ws τ2 G4 (acc++[v]) q else cq C g tt te ws τ2 G3 acc q
def y9 (X:Cx) (ifs:List Expr) (t:WT):Prop:=
 ∀(π:List (Addr×Obj)) (s:Shared) (σ:St) (H:Hp) (Q:Bool->Hp->Prop),aF X π σ H s->Az X.K t σ H Q->wpAny (model X.prog X.w) X.A (y8 ifs X.env) (TP X π σ Q) X.xe s
def kN:WT:=λ_ G q=>q true G
theorem dv {X:Cx}:y9 X [] kN:=λπ s σ H Q I ⟨τ,G,q,hs,hg,ht,hQ⟩=>wpAny_tests_nil ⟨H,I,hQ true H G (aR.refl H) hg ht⟩
theorem qm {X:Cx} {c:Expr} {t:WT} (h:QT X c t):y9 X [c] t:=λπ s σ H Q I hw=>wpAny_tests_one (h π s σ H Q I hw)
theorem aP.track {H:Hp} {G:Gp} {p:Addr} {xs:List V} {ws:List W} (h:aP K H G) (e:H p=some (.lst xs)) (r:aS K H ws xs) (hl:ws.length<=100000):aP K H (aw G p (.lst ws)):=λa g ea=>by
 by_cases hb:a=p
 ·subst hb;rw[af] at ea;cases ea;exact⟨hl,xs,e,r⟩
 ·rw[ao hb] at ea;exact h a g ea
section
variable {X:Cx} {π:List (Addr×Obj)} {σ:St} {H2:Hp} {s2:Shared} {scope:Scope} {N:List Str} {fv:List (Option Nat)} {fp:List Addr} {tg elt iter:Expr} {ifs:List Expr} {pos:Pos} {J:It} {it:Addr} {tn:Nat->Heap->Prop}
 {g:WG} {tt:WT} {te:WE} {ws:List W} {Cd:Gp->Prop} {τ:cV} {G:Gp} {q:List W->Gp->Prop}
structure xg (X:Cx) (π:List (Addr×Obj)) (σ:St) (H2:Hp) (s2:Shared) (G:Gp) (q:List W->Gp->Prop) (D C:Addr) (s':Shared):Prop where
 ex:∃(Hf:Hp) (Gf:Gp) (rs:List W),(∃m,s'.heap.Ns C m)/\aF X π σ Hf s'/\Hf C=none/\s2.heap.objs.size<=C/\aR H2 Hf/\aP X.K Hf (aw Gf D (.lst rs))/\G D=none/\Gf D=none/\q rs Gf
structure CT (Y:Cx) (fp:List Addr) (tn:Nat->Heap->Prop) (ws:List W) (H2:Hp) (D:Addr) (R:List W->cV->Gp->List W->Prop) (n:Nat) (s:Shared) (i:Nat) (σ1:St) (H1:Hp) (τ1:cV) (G1:Gp) (acc:List W) (vs:List V) (its:yez):Prop where
 hn:n=ws.length-i
 hi:i<=ws.length
 inv:aF Y [] σ1 H1 s
 st:tn i s.heap
 fr:∀b∈fp,H1 b=none
 hd:H1 D=none
 pl:s.heap.PlainList D its.toArray
 rv:aU vs its
 ra:aS Y.K H1 acc vs
 tl:aR H2 H1
 rs:bu Y.K H1 τ1 σ1
 rg:aP Y.K H1 G1
 cw:R (ws.drop i) τ1 G1 acc
 hl:acc.length<=100000
theorem eN (I:aF X π σ H2 s2) (S:eM X scope N fv) (hc:X.calm=true) (T:jl X.prog X.w X.K tg J fp it tn) (st:tn 0 s2.heap) (hf:∀b∈fp,hJ X π H2 b)
 (hg:∀C,QG (gf X N scope C fp s2 H2) tg g) (htt:∀C,y9 (gf X N scope C fp s2 H2) ifs tt) (hte:∀C,QE (gf X N scope C fp s2 H2) elt te)
 (itn:oH X.K J ws Cd H2) (hs:bu X.K H2 τ σ) (gr:aP X.K H2 G) (hw:cq Cd g tt te ws (pick fv τ) G [] q) {RR:Value->Addr->Result->Shared->Prop} {E:yey}
 (hRR:∀D C s',xg X π σ H2 s2 G q D C s'->RR (.ref D) C (.ok .next) s'):
 wpAny (model X.prog X.w) X.A (newList []) (λacc s3=>wpAny (model X.prog X.w) X.A (newFunctionEnv scope X.env.globals (gF X.env scope.names []) [] X.env.qual none .none (some X.env)) (λcenv s4=>
  codeAny (model X.prog X.w) X.A (.compStart (.ListComp elt [⟨tg,iter,ifs,0⟩] scope pos) 0 (.ref it) acc { cenv with scope:=relabel scope X.env }) (RR acc cenv.locals) s4) E s3) E s2:=by
 have hfo:∀b∈fp,b<s2.heap.objs.size:=λb hb=>let ⟨o,e,_⟩:=T.obj _ _ st b hb;ybv e;refine wpAny_newObj_type (wpAny_newFunctionEnv S.nocell (by intro y hy;simp at hy) (λh1 hns1 hsb1=>?_) S.kind);dsimp only at hns1 hsb1 ⊢;generalize hP:s2.heap.push { cls:= .type "list",dict:=none,data:= .seq ([]:yez).toArray }=P at hns1 hsb1 ⊢;generalize hD:s2.heap.objs.size=D at*;have hC:P.objs.size=D+1:=by rw[←hP,Heap.size_push,hD]
 generalize hCC:P.objs.size=C at*;have hDC:D≠C:=by rw[hC];exact ne_of_lt (Nat.lt_succ_self _)
 have hDleC:D<=C:=by rw[hC];exact le_succ _
 have old:∀b o,s2.heap.get? b=some o->h1.get? b=some o:=λb o e=>hsb1.extBut b o (ne_of_lt (ydw (ybv e) (by rw[hD];exact hDleC))) (ybz _ (hP▸ybz _ e));have hacc:h1.PlainList D #[]:=⟨0,hsb1.extBut _ _ hDC (ybz _ (by rw[←hP,←hD];exact ybw _ rfl))⟩;have look:∀x c,(gF X.env scope.names []).lookup x=some c->X.env.cells.lookup x=some c:=dU (S.cells I) (λx c e=>by simp at e);have cD:∀x c,(gF X.env scope.names []).lookup x=some c->c≠D:=λx c e z=>by
  obtain⟨v,o,ho,_⟩:=I.cell x c (look x c e);exact absurd (ybv ho) (by rw[z,hD];exact lt_irrefl _)
 have sD:D∉eC X.stack:=λhb=>by
  rcases mem_cons.mp (I.stkSub D hb) with z | z
  ·exact absurd I.lt (by rw[←z,hD];exact lt_irrefl _)
  ·exact I.nofs (by rw[hD];exact ycx _) z
 have fD:D∉fp:=λhb=>absurd (hfo D hb) (lt_irrefl _);have fpX:∀{H1:Hp} {ps:List (Addr×Obj)},(∀b∈fp,H1 b=none)->(∀p∈ps,p.1∉fp)->∀b∈fp,hJ (gf X N scope C fp s2 H2) ps H1 b:=λ{H1 ps} hn hp b hb=>by
  refine⟨hn b hb,ne_of_lt (ydw (hfo b hb) hDleC),λhx=>?_,.inl hb,λx c e=>(hf b hb).2.2.2.2.1 x c (look x c e),λp hp' z=>hp p hp' (z▸hb)⟩;rcases mem_cons.mp (I.stkSub b hx) with z | z
  ·exact(hf b hb).2.1 z
  ·exact(hf b hb).2.2.1 z
 have J0:aF (gf X N scope C fp s2 H2) [] (pick fv σ) H2 { s2 with heap:=h1,toks:=s2.toks+([]:List (Str×Value)).length }:=rZ I S hf (by rw[hD];exact hfo) old (by rw[hD];exact hDleC) hns1;have loop:codeAny (model X.prog X.w) X.A (.compLoop (.ListComp elt [⟨tg,iter,ifs,0⟩] scope pos) 0 (.ref it) (.ref D) (gf X N scope C fp s2 H2).env) (RR (.ref D) C) { s2 with heap:=h1,toks:=s2.toks+([]:List (Str×Value)).length }:=by
  refine rY (λn s=>∃i σ1 H1 τ1 G1 acc vs its,CT (gf X N scope C fp s2 H2) fp tn ws H2 D (λl τ1 G1 acc=>cq Cd g tt te l τ1 G1 acc q) n s i σ1 H1 τ1 G1 acc vs its) ?_ ws.length
   ⟨0,_,H2,_,G,[],[],[],by simp,zero_le _,J0,T.keep _ _ _ st λb _ o e=>old b o e,λb hb=>(hf b hb).1,I.hok.fresh (by rw[hD];exact ycx _),hacc,.nil,.nil,aR.refl _,tQ hs,gr,by simpa using hw,by simp⟩
  rintro n s ⟨i,σ1,H1,τ1,G1,acc,vs,its,rfl,hi,J1,st1,fr1,d1,pl1,rv1,ra1,t1,s1,g1,q1,hl1⟩;obtain⟨kk,eD⟩:=pl1;have J1p:aF (gf X N scope C fp s2 H2) [(D,{ cls:= .type "list",data:= .seq its.toArray kk })] σ1 H1 s:=J1.pins_of λp hp=>by
   have e:=mem_singleton.mp hp;subst e;exact⟨eD,d1,hDC,sD,λv z=>by cases z⟩
  have pnf:∀p∈[((D,{ cls:= .type "list",data:= .seq its.toArray kk }):Addr×Obj)],p.1∉fp:=λp hp=>by
   have e:=mem_singleton.mp hp;subst e;exact fD
  by_cases hlt:i<ws.length
  ·have ed:ws.drop i=ws[i]::ws.drop (i+1):=drop_eq_getElem_cons hlt;rw[ed] at q1;obtain⟨c1,q1⟩:=q1;obtain⟨go,yl⟩:=itn.go i ws[i] H1 G1 t1 g1 c1 (ycz hlt);refine bU (T.item (gf X N scope C fp s2 H2) rfl rfl rfl hc i _ s σ1 H1 nox J1p (fpX fr1 pnf) st1 go) λr s4 z9=>?_;obtain⟨u,hr,h4⟩:=z9;subst hr;refine bU h4 λ_ s5 z9=>?_;obtain⟨x,H5,I5,r5,y5,st5,fr5⟩:=z9;obtain⟨tx,rx,gx⟩:=yl x H5 y5;have I5':=I5.pinned (fpX fr5 pnf) (T.obj _ _ st5);refine bU (hg C _ s5 σ1 H5 x u (λσ6 H6=>∃τ6 G6,aR H5 H6/\bu X.K H6 τ6 σ6/\aP X.K H6 G6/\tt τ6 G6 λb G3=>if b=true then te τ6 G3 λv G4=>acc.length+1<=100000/\cq Cd g tt te (ws.drop (i+1)) τ6 G4 (acc++[v]) q else cq Cd g tt te (ws.drop (i+1)) τ6 G3 acc q) I5' r5
    ⟨ws[i],τ1,G1,_,rx,s1.mono tx,gx,q1,λσ6 H6 τ6 G6 t6 s6 g6 q6=>⟨τ6,G6,t6,s6,g6,q6⟩⟩) λ_ s6 ⟨σ6,H6,I6,τ6,G6,t6,rs6,g6,q6⟩=>?_
   refine bU (htt C _ s6 σ6 H6 (λb H7=>∃G7,aR H6 H7/\aP X.K H7 G7/\(if b=true then te τ6 G7 λv G4=>acc.length+1<=100000/\cq Cd g tt te (ws.drop (i+1)) τ6 G4 (acc++[v]) q else cq Cd g tt te (ws.drop (i+1)) τ6 G7 acc q)) I6
    ⟨τ6,G6,_,rs6,g6,q6,λb H7 G7 t7 g7 q7=>⟨G7,t7,g7,q7⟩⟩) λok s7 ⟨H7,I7,G7,t7,g7,q7⟩=>?_
   have t17:aR H1 H7:=(tx.trans t6).trans t7
   -- what the π keep up to a later state
   have keepFp:∀{σ8:St} {H8:Hp} {s8:Shared},aF (gf X N scope C fp s2 H2) ([(D,{ cls:= .type "list",data:= .seq its.toArray kk })]++jn fp s5.heap) σ8 H8 s8->tn (i+1) s8.heap/\(∀b∈fp,H8 b=none)/\H8 D=none/\s8.heap.get? D=some { cls:= .type "list",data:= .seq its.toArray kk }/\∀b∈fp,∃o,s8.heap.get? b=some o:=λ{σ8 H8 s8} I8=>by
    refine⟨T.keep _ _ _ st5 λb hb o e=>(I8.pin (b,o) (yex _ (yex _ (dJ hb e)))).1,λb hb=>?_,(I8.pin (D,_) (yex _ (mem_append_left _ yby))).2.1,(I8.pin (D,_) (yex _ (mem_append_left _ yby))).1,λb hb=>?_⟩
    ·obtain⟨o,e,_⟩:=T.obj _ _ st5 b hb;exact(I8.pin (b,o) (yex _ (yex _ (dJ hb e)))).2.1
    ·obtain⟨o,e,_⟩:=T.obj _ _ st5 b hb;exact⟨o,(I8.pin (b,o) (yex _ (yex _ (dJ hb e)))).1⟩
   cases ok with
   | false=>
     rw[ycw ydx] at q7 ⊢;obtain⟨k1,k2,k3,k4,_⟩:=keepFp I7;exact⟨ws.length- (i+1),by lia,i+1,σ6,H7,τ6,G7,acc,vs,its,rfl,hlt,I7.pins_of λp hp=>absurd hp (by simp),k1,k2,k3,⟨kk,k4⟩,rv1,ra1.mono t17,t1.trans t17,rs6.mono t7,g7,q7,hl1⟩
   | true=>
     rw[ycv rfl] at q7 ⊢;refine bU (hte C _ s7 σ6 H7 (λv H8=>∃w8 G8,aR H7 H8/\bK X.K H8 w8 v/\aP X.K H8 G8/\acc.length+1<=100000/\cq Cd g tt te (ws.drop (i+1)) τ6 G8 (acc++[w8]) q) I7
      ⟨τ6,G7,_,rs6.mono t7,g7,q7,λv H8 w8 G8 t8 r8 g8 q8=>⟨w8,G8,t8,r8,g8,q8⟩⟩) λu8 s8 ⟨v8,H8,I8,rv8,w8,G8,t8,r8,g8,hl8,q8⟩=>?_
     obtain⟨k1,k2,k3,k4,k5⟩:=keepFp I8;have t18:aR H1 H8:=t17.trans t8;refine wpAny_list_append_plain ⟨kk,k4⟩ (λh9 pl9 sb9=>?_) (by rw[size_toArray,←rv1.length,←ra1.length];exact bP hl1);have I9:aF (gf X N scope C fp s2 H2) [] σ6 H8 { s8 with heap:=h9 }:=(I8.pins_of (pins':=[]) λp hp=>absurd hp (by simp)).turned (t':=s8.toks) (λb o hb e=>(sb9.2 b hb).trans e) k3 hDC (.inr (by show s2.heap.objs.size<=D;rw[hD];exact ycx _)) (λx c e=>cD x c e) λp hp=>absurd (show p∈([]:List (Addr×Obj)) from hp) (by simp);refine⟨ws.length- (i+1),by lia,i+1,σ6,H8,τ6,G8,acc++[w8],vs++[v8],its++[u8],rfl,hlt,I9,T.keep _ _ _ k1 λb hb o e=>(sb9.2 b (λz=>fD (z▸hb))).trans e,k2,k3,by simpa using pl9,rv1.append (.cons rv8 .nil),(ra1.mono t18).append (.cons r8 .nil),t1.trans t18,(rs6.mono t7).mono t8,g8,q8,by rw[length_append];exact hl8⟩
  ·have e:i=ws.length:=by lia
   subst e;rw[List.drop_length] at q1;refine bU (T.done (gf X N scope C fp s2 H2) rfl rfl rfl hc _ _ s σ1 H1 nox J1p (fpX fr1 pnf) st1 (itn.stop _ H1 G1 t1 g1 q1.1 (ycx _))) λr s4 z9=>?_;obtain⟨hr,I4⟩:=z9;subst hr;have eD4:=(I4.pin (D,_) (yex _ yby)).1;have zl:vs.length<=sizeLine:=by rw[←ra1.length];exact bP hl1
   have hb2:∀b o,s2.heap.get? b=some o->b≠D:=λb o e=>by
    have:=ybv e;rw[hD] at this;exact ne_of_lt this
   refine hRR D C s4 ⟨upd H1 D (.lst vs),G1,acc,let ⟨m,hn,_⟩:=I4.loc;⟨m,hn⟩,?_,?_,by rw[hD];exact hDleC,t1.trans (aR.new d1 _),?_,gr.fresh (I.hok.fresh (by rw[hD];exact ycx _)),g1.fresh d1,q1.2⟩
   ·refine I.call' (ch:=fp) I4.os ⟨λb o e n hb hx=>I4.base.keep b o e n hb hx,λb o e n hb hx=>I4.base.slot b o e n hb hx,λb o e n hx=>?_,λb o e hx=>I4.base.there b o e hx,λb xs e=>?_,λb o u e=>?_,λb ps e=>?_⟩ ?_ I4.bare λb hb=>⟨(hf b hb).2.2.2.1,(hf b hb).2.1,λx c e=>(hf b hb).2.2.2.2.1 x c e,λp hp=>(hf b hb).2.2.2.2.2 p hp⟩
    ·rw[aH (hb2 b o e)];exact I4.base.free b o e n hx
    ·rw[aH (bg (I4.base.tups b xs e) d1)];exact I4.base.tups b xs e
    ·rw[aH (bg (I4.base.frzs b o u e) d1)];exact I4.base.frzs b o u e
    ·obtain⟨more,e'⟩:=I4.base.tbls b ps e;exact⟨more,by rw[aH (bg e' d1)];exact e'⟩
    ·intro b u e
     by_cases hbD:b=D
     ·subst hbD;rw[aZ] at e;cases e;exact⟨zl,its,kk,rv1,eD4⟩
     ·rw[aH hbD] at e;exact(I4.hok b u e).stay (λc v _ q=>q) (λc q=>by rw[aH (bg q d1)];exact q) λc xs q=>by rw[aH (bg q d1)];exact q
   ·rw[aH (Ne.symm hDC)];exact I4.free
   ·exact(g1.upd (aR.new d1 _) (g1.fresh d1)).track aZ (ra1.mono (aR.new d1 _)) hl1
 exact codeAny_compStart_list loop (T.self _ 0 _ _ _ (T.keep _ _ _ st λb _ o e=>old b o e) loop)
def tR (wi:WI) (fv:List (Option Nat)) (g:WG) (tt:WT) (te:WE):WE:=λτ G q=>wi τ G λws Cd G1=>cq Cd g tt te ws (pick fv τ) G1 [] λrs G2=>∀p,G1 p=none->q (.ref p) (aw G2 p (.lst rs))
theorem gG {wi:WI} (S:eM X scope N fv) (hc:X.calm=true) (hi:QI X tg iter wi) (hg:∀C fp s2 H2,QG (gf X N scope C fp s2 H2) tg g) (htt:∀C fp s2 H2,y9 (gf X N scope C fp s2 H2) ifs tt) (hte:∀C fp s2 H2,QE (gf X N scope C fp s2 H2) elt te)
 (hs:∀x,foldedSetIterable iter X.env x=pure x:=by intro _;rfl):QE X (.ListComp elt [⟨tg,iter,ifs,0⟩] scope pos) (tR wi fv g tt te):=by
 rintro π s σ H Q I ⟨τ,G,q,hτ,hG,ht,hQ⟩;rw[eval_ListComp];refine wpAny_comprehension_free (use:=none) rfl hs (eL (S.cells I)) S.kind S.names (bU (hi π s σ H (λJ H1=>∃ws Cd G1,aR H H1/\aP X.K H1 G1/\oH X.K J ws Cd H1/\cq Cd g tt te ws (pick fv τ) G1 [] λrs G2=>∀p,G1 p=none->q (.ref p) (aw G2 p (.lst rs))) I
  ⟨τ,G,_,hτ,hG,ht,λJ H1 ws C G1 t1 g1 it r1=>⟨ws,C,G1,t1,g1,it,r1⟩⟩) λv s1 h1=>bU h1 λitv s2 h2=>?_)
 obtain⟨it,fp,tn,J,H2,e,I2,T,st2,f2,ws,Cd,G1,t1,g1,itn,hw⟩:=h2;subst e;refine eN (RR:=λacc C=>compPost (model X.prog X.w) X.A X.xe none (EP X π σ Q) acc C) I2 S hc T st2 f2 (λC=>hg C fp s2 H2) (λC=>htt C fp s2 H2) (λC=>hte C fp s2 H2) itn (hτ.mono t1) g1 hw λD C s' z9=>?_;obtain⟨Hf,Gf,rs,⟨m,hn⟩,I5,hC,hCs,t5,g5,hD,hD2,q5⟩:=z9;refine⟨m,hn,λh' sb=>?_⟩;have hlt:C≠X.env.locals:=λz=>absurd I2.lt (not_lt.mpr (z▸hCs));have I6:aF X π σ Hf { s' with heap:=h' }:=I5.turned (t':=s'.toks) (λb o hb e=>(sb.2 b hb).trans e) hC hlt (.inr (ycy I2.sz hCs)) (λx c e z=>by
  obtain⟨v,o,ho,_⟩:=I2.cell x c e;exact absurd (ybv ho) (not_lt.mpr (z▸hCs))) λp hp z=>absurd (ybv (I2.pin p hp).1) (not_lt.mpr (z▸hCs))
 exact⟨.ref D,Hf,I6,rfl,hQ _ Hf _ _ (t1.trans t5) (.ref D) g5 (q5 D hD)⟩
theorem qo (i:Nat) {y:Str} {py spos:Pos} {wi:WI} (S:eM X scope N fv) (hc:X.calm=true) (hN:X.N.Nodup) (hiN:X.N[i]?=some y) (hy:wj X.env.scope y) (hi:QI X tg iter wi) (hg:∀C fp s2 H2,QG (gf X N scope C fp s2 H2) tg g) (htt:∀C fp s2 H2,y9 (gf X N scope C fp s2 H2) ifs tt) (hte:∀C fp s2 H2,QE (gf X N scope C fp s2 H2) elt te)
 (hsw:swapsWith (.ListComp elt [⟨tg,iter,ifs,0⟩] scope pos) (some (.Name y py)) spos.line X.env=pure true:=by rfl) (hs:∀x,foldedSetIterable iter X.env x=pure x:=by intro _;rfl) (hfn:X.fn y=true∨X.env.scope.names.lookup y=some .local:=by first | exact .inl rfl | exact .inr rfl | assumption):
 QS X (.Assign [.Name y py] (.ListComp elt [⟨tg,iter,ifs,0⟩] scope pos) spos) (wT (tR wi fv g tt te) (cG i)):=by
 rintro π s σ H D0 I ⟨τ,G,d,hτ,hG,ht,l⟩;rw[exec_Assign_Name_used _ _ _ _ hsw];refine wax (wpAny_standAt (wax ?_));show wpAny _ _ (do let _ ←comprehension (.ListComp elt [⟨tg,iter,ifs,0⟩] scope pos) scope X.env _ (newList []) false (eval iter X.env) (some (assign (.Name y py) X.env))) _ _ s;refine wax (wpAny_mono (wpAny_comprehension_free (use:=some (assign (.Name y py) X.env)) (Q:=λ_ s'=>SP X π D0 .next s') rfl hs (eL (S.cells I)) S.kind S.names (bU (hi π s σ H (λJ H1=>∃ws Cd G1,aR H H1/\aP X.K H1 G1/\oH X.K J ws Cd H1/\cq Cd g tt te ws (pick fv τ) G1 [] λrs G2=>∀p,G1 p=none->cG i (.ref p) τ (aw G2 p (.lst rs)) d.nx) I
  ⟨τ,G,_,hτ,hG,ht,λJ H1 ws C G1 t1 g1 it r1=>⟨ws,C,G1,t1,g1,it,r1⟩⟩) λv s1 h1=>bU h1 λitv s2 h2=>?_)) (λ_ s' hq=>way (way hq)) λ_ _ e=>e)
 obtain⟨it,fp,tn,J,H2,e,I2,T,st2,f2,ws,Cd,G1,t1,g1,itn,hw⟩:=h2;subst e;refine eN (RR:=λacc C=>compPost (model X.prog X.w) X.A X.xe (some (assign (.Name y py) X.env)) (λ_ s'=>SP X π D0 .next s') acc C) I2 S hc T st2 f2 (λC=>hg C fp s2 H2) (λC=>htt C fp s2 H2) (λC=>hte C fp s2 H2) itn (hτ.mono t1) g1 hw λD C s' z9=>?_;obtain⟨Hf,Gf,rs,⟨m,hn⟩,I5,hC,hCs,t5,g5,hD,hD2,q5⟩:=z9;have hlt:C≠X.env.locals:=λz=>absurd I2.lt (not_lt.mpr (z▸hCs));have hcell:∀x c,X.env.cells.lookup x=some c->c≠C:=λx c e z=>by
  obtain⟨v,o,ho,_⟩:=I2.cell x c e;exact absurd (ybv ho) (not_lt.mpr (z▸hCs))
 show wpAny _ _ (assign (.Name y py) X.env (.ref D)) _ _ s';refine wpAny_assign_Name (g9 I5 hN hiN hy (v:= .ref D) rfl (λs6 I6 z9=>?_) hfn);obtain⟨a,sb6,ha⟩:=z9;have haC:C≠a:=by
  rcases ha with z | z
  ·rw[z];exact hlt
  ·exact Ne.symm (hcell y a z)
 refine⟨m,hn.sameBut sb6 haC,λh' sb=>?_⟩;have I7:aF X π (σ.set i (some (.ref D))) Hf { s6 with heap:=h' }:=I6.turned (t':=s6.toks) (λb o hb e=>(sb.2 b hb).trans e) hC hlt (.inr (ycy I2.sz hCs)) hcell λp hp z=>absurd (ybv (I2.pin p hp).1) (not_lt.mpr (z▸hCs));exact⟨_,Hf,I7,l.nx _ Hf _ _ (t1.trans t5) ((hτ.mono (t1.trans t5)).set (.ref D) i) g5 (q5 D hD)⟩
def o8 (wi:WI) (fv:List (Option Nat)) (g:WG) (tt:WT) (te:WE):WE:=λτ G q=>wi τ G λws Cd G1=>cq Cd g tt te ws (pick fv τ) G1 [] λrs G2=>∀p,G1 p=none->G2 p=none->q (.ref p) (aw G2 p (.lst rs))
theorem nr {wi:WI} (S:eM X scope N fv) (hc:X.calm=true) (hi:QI X tg iter wi) (hg:∀C fp s2 H2,QG (gf X N scope C fp s2 H2) tg g) (htt:∀C fp s2 H2,y9 (gf X N scope C fp s2 H2) ifs tt) (hte:∀C fp s2 H2,QE (gf X N scope C fp s2 H2) elt te)
 (hs:∀x,foldedSetIterable iter X.env x=pure x:=by intro _;rfl):QE X (.ListComp elt [⟨tg,iter,ifs,0⟩] scope pos) (o8 wi fv g tt te):=by
 rintro π s σ H Q I ⟨τ,G,q,hτ,hG,ht,hQ⟩;rw[eval_ListComp];refine wpAny_comprehension_free (use:=none) rfl hs (eL (S.cells I)) S.kind S.names (bU (hi π s σ H (λJ H1=>∃ws Cd G1,aR H H1/\aP X.K H1 G1/\oH X.K J ws Cd H1/\cq Cd g tt te ws (pick fv τ) G1 [] λrs G2=>∀p,G1 p=none->G2 p=none->q (.ref p) (aw G2 p (.lst rs))) I
  ⟨τ,G,_,hτ,hG,ht,λJ H1 ws C G1 t1 g1 it r1=>⟨ws,C,G1,t1,g1,it,r1⟩⟩) λv s1 h1=>bU h1 λitv s2 h2=>?_)
 obtain⟨it,fp,tn,J,H2,e,I2,T,st2,f2,ws,Cd,G1,t1,g1,itn,hw⟩:=h2;subst e;refine eN (RR:=λacc C=>compPost (model X.prog X.w) X.A X.xe none (EP X π σ Q) acc C) I2 S hc T st2 f2 (λC=>hg C fp s2 H2) (λC=>htt C fp s2 H2) (λC=>hte C fp s2 H2) itn (hτ.mono t1) g1 hw λD C s' z9=>?_;obtain⟨Hf,Gf,rs,⟨m,hn⟩,I5,hC,hCs,t5,g5,hD,hD2,q5⟩:=z9;refine⟨m,hn,λh' sb=>?_⟩;have hlt:C≠X.env.locals:=λz=>absurd I2.lt (not_lt.mpr (z▸hCs));have I6:aF X π σ Hf { s' with heap:=h' }:=I5.turned (t':=s'.toks) (λb o hb e=>(sb.2 b hb).trans e) hC hlt (.inr (ycy I2.sz hCs)) (λx c e z=>by
  obtain⟨v,o,ho,_⟩:=I2.cell x c e;exact absurd (ybv ho) (not_lt.mpr (z▸hCs))) λp hp z=>absurd (ybv (I2.pin p hp).1) (not_lt.mpr (z▸hCs))
 exact⟨.ref D,Hf,I6,rfl,hQ _ Hf _ _ (t1.trans t5) (.ref D) g5 (q5 D hD hD2)⟩
theorem nw (i:Nat) {y:Str} {py spos:Pos} {wi:WI} (S:eM X scope N fv) (hc:X.calm=true) (hN:X.N.Nodup) (hiN:X.N[i]?=some y) (hy:wj X.env.scope y) (hi:QI X tg iter wi) (hg:∀C fp s2 H2,QG (gf X N scope C fp s2 H2) tg g) (htt:∀C fp s2 H2,y9 (gf X N scope C fp s2 H2) ifs tt) (hte:∀C fp s2 H2,QE (gf X N scope C fp s2 H2) elt te)
 (hsw:swapsWith (.ListComp elt [⟨tg,iter,ifs,0⟩] scope pos) (some (.Name y py)) spos.line X.env=pure true:=by rfl) (hs:∀x,foldedSetIterable iter X.env x=pure x:=by intro _;rfl) (hfn:X.fn y=true∨X.env.scope.names.lookup y=some .local:=by first | exact .inl rfl | exact .inr rfl | assumption):
 QS X (.Assign [.Name y py] (.ListComp elt [⟨tg,iter,ifs,0⟩] scope pos) spos) (wT (o8 wi fv g tt te) (cG i)):=by
 rintro π s σ H D0 I ⟨τ,G,d,hτ,hG,ht,l⟩;rw[exec_Assign_Name_used _ _ _ _ hsw];refine wax (wpAny_standAt (wax ?_));show wpAny _ _ (do let _ ←comprehension (.ListComp elt [⟨tg,iter,ifs,0⟩] scope pos) scope X.env _ (newList []) false (eval iter X.env) (some (assign (.Name y py) X.env))) _ _ s;refine wax (wpAny_mono (wpAny_comprehension_free (use:=some (assign (.Name y py) X.env)) (Q:=λ_ s'=>SP X π D0 .next s') rfl hs (eL (S.cells I)) S.kind S.names (bU (hi π s σ H (λJ H1=>∃ws Cd G1,aR H H1/\aP X.K H1 G1/\oH X.K J ws Cd H1/\cq Cd g tt te ws (pick fv τ) G1 [] λrs G2=>∀p,G1 p=none->G2 p=none->cG i (.ref p) τ (aw G2 p (.lst rs)) d.nx) I
  ⟨τ,G,_,hτ,hG,ht,λJ H1 ws C G1 t1 g1 it r1=>⟨ws,C,G1,t1,g1,it,r1⟩⟩) λv s1 h1=>bU h1 λitv s2 h2=>?_)) (λ_ s' hq=>way (way hq)) λ_ _ e=>e)
 obtain⟨it,fp,tn,J,H2,e,I2,T,st2,f2,ws,Cd,G1,t1,g1,itn,hw⟩:=h2;subst e;refine eN (RR:=λacc C=>compPost (model X.prog X.w) X.A X.xe (some (assign (.Name y py) X.env)) (λ_ s'=>SP X π D0 .next s') acc C) I2 S hc T st2 f2 (λC=>hg C fp s2 H2) (λC=>htt C fp s2 H2) (λC=>hte C fp s2 H2) itn (hτ.mono t1) g1 hw λD C s' z9=>?_;obtain⟨Hf,Gf,rs,⟨m,hn⟩,I5,hC,hCs,t5,g5,hD,hD2,q5⟩:=z9;have hlt:C≠X.env.locals:=λz=>absurd I2.lt (not_lt.mpr (z▸hCs));have hcell:∀x c,X.env.cells.lookup x=some c->c≠C:=λx c e z=>by
  obtain⟨v,o,ho,_⟩:=I2.cell x c e;exact absurd (ybv ho) (not_lt.mpr (z▸hCs))
 show wpAny _ _ (assign (.Name y py) X.env (.ref D)) _ _ s';refine wpAny_assign_Name (g9 I5 hN hiN hy (v:= .ref D) rfl (λs6 I6 z9=>?_) hfn);obtain⟨a,sb6,ha⟩:=z9;have haC:C≠a:=by
  rcases ha with z | z
  ·rw[z];exact hlt
  ·exact Ne.symm (hcell y a z)
 refine⟨m,hn.sameBut sb6 haC,λh' sb=>?_⟩;have I7:aF X π (σ.set i (some (.ref D))) Hf { s6 with heap:=h' }:=I6.turned (t':=s6.toks) (λb o hb e=>(sb.2 b hb).trans e) hC hlt (.inr (ycy I2.sz hCs)) hcell λp hp z=>absurd (ybv (I2.pin p hp).1) (not_lt.mpr (z▸hCs));exact⟨_,Hf,I7,l.nx _ Hf _ _ (t1.trans t5) ((hτ.mono (t1.trans t5)).set (.ref D) i) g5 (q5 D hD hD2)⟩
end
section
variable {P:Program} {w:World} {K:yav}
end
noncomputable def gH:List W->List W->List W
 | x::xs,y::ys=> .tup [x,y]::gH xs ys
 | _,_=>[]
theorem ny:∀{xs ys:List W} {i:Nat} {w:W},(gH xs ys)[i]?=some w->∃x y,xs[i]?=some x/\ys[i]?=some y/\w=.tup [x,y]
 | [],_,_,_,e=>by simp[gH] at e
 | _::_,[],_,_,e=>by simp[gH] at e
 | x::xs,y::ys,0,w,e=>by simp[gH] at e;exact⟨x,y,rfl,rfl,e.symm⟩
 | x::xs,y::ys,i+1,w,e=>by
   obtain⟨a,b,h1,h2,h3⟩:=ny (xs:=xs) (ys:=ys) (i:=i) (w:=w) (by simpa[gH] using e);exact⟨a,b,by simpa using h1,by simpa using h2,h3⟩
theorem iQ:∀(xs ys:List W),(gH xs ys).length=min xs.length ys.length
 | [],_=>by simp[gH]
 | _::_,[]=>by simp[gH]
 | _::xs,_::ys=>by simp only[gH,length_cons,iQ xs ys];exact(Nat.succ_min_succ _ _).symm
section
variable {X:Cx}
theorem tS:bootBuiltins "zip"=some (.type "zip"):=by decide+kernel
def CU (te:WE):WE:=λτ G q=>te τ G λx G1=>match x with | .int i=>q (.int (-i)) G1 | _=>False
theorem jA {a:Expr} {ta:WE} (ha:QE X a ta):QE X (.UnaryOp .USub a pos) (CU ta):=
 (B8 Ah ha).imp λσ H Q z0=>z0.el λτ G q hs hg ht hQ=>⟨τ,G,_,hs,hg,ht,λv H1 w G1 t1 r1 g1 q1=>by
   split at q1
   ·cases r1;exact⟨_,rfl,hQ _ H1 _ G1 t1 (.int _) g1 q1⟩
   ·exact q1.elim⟩
def Fx (P:Program) (w:World) (K:yav) (mg:yew) (base:Heap) (x:Str) (ps:List Str) (k:Nat) (sp:bS):Prop:=
 ∃(f:Addr) (fd:FuncData),cf P w K mg base k f fd ps sp/\mg x=some (.ref f)/\keepIn K (.ref f)=true/\bM K fd ps []
theorem CV {sp:bS} {p pos:Pos} {t:WA} (F:Fx X.prog X.w X.K X.mg X.base x ps k sp) (hr:aB k X.A) (hg:Gl X x) (ha:QA X (e::es) t) (hdb:(x==("__debug__":Str))=false:=by decide)
 (he:starEach (e::es) X.env=(false,eval e X.env)::starEach es X.env:=by rfl) (hpl:(backTo pos (starEach es X.env)).any (·.1)=false:=by rfl):QE X (.Call (.Name x p) (e::es) [] pos) (gE sp [] t):=by
 obtain⟨f,fd,h1,h2,h3,h4⟩:=F;exact wU h1 hr hg h2 h3 h4 ha hdb he hpl
theorem AI {sp:bS} {p pos:Pos} (F:Fx X.prog X.w X.K X.mg X.base x ps k sp) (hr:aB k X.A) (hg:Gl X x) (hdb:(x==("__debug__":Str))=false:=by decide):QE X (.Call (.Name x p) [] [] pos) (gE sp [] lK):=by
 obtain⟨f,fd,h1,h2,h3,h4⟩:=F;exact tM h1 hr hg h2 h3 h4 hdb
noncomputable def tT (scope:Scope):List Str:=scope.names.map (·.1)
noncomputable def o9 (N:List Str) (scope:Scope):List (Option Nat):=scope.names.map λy=>if y.2== .free then N.findIdx? (·==y.1) else none
noncomputable def tU (outer scope:Scope):Bool:=
 scope.kind== .function&&scope.names.all (λy=>y.2 !=.cell)&&scope.names.all (λy=>y.2 !=.local||scope.names.lookup y.1==some .local)&&
  scope.names.all (λy=>y.2 !=.free||(outer.names.lookup y.1==some .cell&&scope.names.lookup y.1 !=some .local))
theorem dN (h:tU X.env.scope scope=true):eM X scope (tT scope) (o9 X.N scope):=by
 unfold tU at h;simp only[Bool.and_eq_true,all_eq_true,Bool.or_eq_true,bne_iff_ne,beq_iff_eq,ne_eq] at h;obtain⟨⟨⟨h1,h2⟩,h3⟩,h4⟩:=h;refine⟨h1,h2,λx hx hk=>(h3 x hx).resolve_left λz=>z hk,λy hy hk=>((h4 y hy).resolve_left λz=>z hk).1,λi j x e1 e2=>?_,by simp[tT,o9],λ{x} hx=>((h4 _ hx).resolve_left λz=>z rfl).2⟩;unfold tT at e1;unfold o9 at e2;rw[List.getElem?_map] at e1 e2;cases e:scope.names[i]? with
 | none=>rw[e] at e1;cases e1
 | some y=>
   rw[e] at e1 e2;have e1':y.1=x:=Option.some.inj e1;have e2':(if (y.2==NameKind.free)=true then X.N.findIdx? (·==y.1) else none)=some j:=Option.some.inj e2;have hm:y∈scope.names:=List.mem_of_getElem? e;split at e2'
   ·rename_i hk;have hk':y.2=.free:=by simpa using hk
    have hy:y=(x,NameKind.free):=by rw[←e1',←hk']
    have:=List.findIdx?_eq_some_iff_getElem.mp e2';obtain⟨hj,hj2,_⟩:=this;refine⟨?_,?_,hy▸hm⟩
    ·rw[ycz hj];have:X.N[j]=y.1:=by simpa using hj2
     rw[this,e1']
    ·have:=((h4 y hm).resolve_left λz=>z hk').1;rw[e1'] at this;exact this
   ·cases e2'
theorem bX (i:Nat) {N:List Str} {C:Addr} {fp:List Addr} {s2:Shared} {H2:Hp} (hN:N.Nodup) (hi:N[i]?=some x) (hx:wj (gf X N scope C fp s2 H2).env.scope x) (hf:(gf X N scope C fp s2 H2).fn x=true∨(gf X N scope C fp s2 H2).env.scope.names.lookup x=some .local:=by first | exact .inl rfl | exact .inr rfl):
 QG (gf X N scope C fp s2 H2) (.Name x pos) (cG i):=bO (X:=gf X N scope C fp s2 H2) i hN hi hx hf
theorem eO:bootBuiltins "tuple"=some (.type "tuple"):=by decide+kernel
theorem lM:bootBuiltins "list"=some (.type "list"):=by decide+kernel
theorem qp:bootBuiltins "max"=some (.builtin "max"):=by decide+kernel
theorem CW:bootBuiltins "sum"=some (.builtin "sum"):=by decide+kernel
theorem aN {R:WS->Prop} {t:WS} (h:mX X body t) (g:R t):∃t,mX X body t/\R t:=⟨t,h,g⟩
end
mutual
noncomputable def W.lt:W->W->Bool
 | .int i,.int j=>decide (i<j)
 | .tup xs,.tup ys=>W.lts xs ys
 | _,_=>false
noncomputable def W.lts:List W->List W->Bool
 | [],[]=>false
 | [],_::_=>true
 | _::_,[]=>false
 | x::xs,y::ys=>if W.eq x y=true then W.lts xs ys else W.lt x y
end
mutual
noncomputable def W.ord:W->W->Bool
 | .int _,.int _=>true
 | .tup xs,.tup ys=>W.ords xs ys
 | _,_=>false
noncomputable def W.ords:List W->List W->Bool
 | x::xs,y::ys=>if W.eq x y=true then W.ords xs ys else W.ord x y
 | _,_=>true
end
def lN (A:Around) (s:Shared) (y x:Value) (b:Bool):Prop:=
 ∀(prog:Program) (w:World) (E:yey) (Q:yey),Q (.bool b) s->wpAny (model prog w) A (richCompare .Lt y x) Q E s
inductive fS (A:Around) (s:Shared):List Value->List Value->Bool->Prop where
 | nn:fS A s [] [] false
 | nc {y:Value} {ys:yez}:fS A s [] (y::ys) true
 | cn {x:Value} {xs:yez}:fS A s (x::xs) [] false
 | eq {x y:Value} {xs ys:yez} {r:Bool} (h:SeqAt.EqAt A s x y true) (t:fS A s xs ys r):fS A s (x::xs) (y::ys) r
 | ne {x y:Value} {xs ys:yez} {r:Bool} (h:SeqAt.EqAt A s x y false) (t:lN A s x y r):fS A s (x::xs) (y::ys) r
section
open PySem.SeqAt
open PySem.AutoSeq1 (wpAny_loadPart')
open PySem.MeetsSeq PySem.MeetsSeq2 PySem.MeetsSeq3
theorem jB (l b:Addr) (items items2:Array Value) (n n2:Nat) (dd dd2:Option Addr) (sl sl2:Array (Option Value)) (r:Bool):
 Meets (Builtin.«tuple.__lt__» ⟨[.ref l,.ref b],[]⟩)
  (λA R s=>s.heap.get? l=some { cls:= .type "tuple",dict:=dd,data:= .seq items n,slots:=sl }/\s.heap.get? b=some { cls:= .type "tuple",dict:=dd2,data:= .seq items2 n2,slots:=sl2 }/\
    fS A.in1 s items.toList items2.toList r/\R (.ok (.ret (.bool r))) s):=
 .of_wp λprog w A R s h=>by
  obtain⟨hp,g,d,tk,os⟩:=s;obtain⟨hl,hb,hc,h⟩:=h;have f2:=AutoSeq1.sub_tuple_tuple
  wp_walk using wpAny_loadPart' hl,wpAny_loadPart' hb,wpAny_forIn_list _ (λbI b s'=>b.1=none/\s'=⟨hp,g,d,tk,os⟩/\∃(vs ws:yez),bI=vs.zip ws/\
   fS A.in1 ⟨hp,g,d,tk,os⟩ vs ws r/\vs.length+items2.size=ws.length+items.size) _
  case turn=>
   rintro⟨y,x⟩ bI b s' ⟨hb',rfl,vs,ws,hz,hC,hlen⟩;cases hC with
   | nn=>rw[List.zip_nil_left] at hz;cases hz
   | nc=>rw[List.zip_nil_left] at hz;cases hz
   | cn=>rw[List.zip_nil_right] at hz;cases hz
   | eq he ht=>
     rw[zip_cons_cons] at hz;injection hz with hyx hrest
     injection hyx with hy hx
     subst hy hx;simp only[length_cons] at hlen;refine wax (he prog w _ _ ?_)
     wp_walk
     exact⟨rfl,rfl,_,_,hrest,ht,by lia⟩
   | ne he ht=>
     rw[zip_cons_cons] at hz;injection hz with hyx hrest
     injection hyx with hy hx
     subst hy hx;refine wax (he prog w _ _ ?_);have hri:=ht prog w
     wp_walk using hri
     exact⟨_,rfl,by simpa using h⟩
  case fin=>
   rintro⟨b1,b2⟩ s' ⟨hb',rfl,vs,ws,hz,hC,hlen⟩;simp only at hb';subst hb';have hv:r=decide (items.size<items2.size):=by
    cases hC with
    | nn=>simp only[length_nil] at hlen;exact(ydy (by lia)).symm
    | nc=>simp only[length_nil,length_cons] at hlen;exact(ydz (by lia)).symm
    | cn=>simp only[length_nil,length_cons] at hlen;exact(ydy (by lia)).symm
    | eq he ht=>rw[zip_cons_cons] at hz;cases hz
    | ne he ht=>rw[zip_cons_cons] at hz;cases hz
   rw[hv] at h
   wp_walk
   exact⟨_,rfl,by simpa[Builtin.Tuple.tupleCompareSizes] using h⟩
  case h=>
   exact⟨rfl,rfl,_,_,rfl,hc,by simp;lia⟩
end
theorem lN.tuples {l b:Addr} {items items2:Array Value} {r:Bool} (hl:s.heap.IsTuple l items) (hb:s.heap.IsTuple b items2) (hu:A.units<cLine)
 (hc:fS A.in1 s items.toList items2.toList r):lN A s (.ref l) (.ref b) r:=λprog w E Q h=>by
 obtain⟨⟨cls,dd,data,sl⟩,ho,hcl,n,hd⟩:=id hl;obtain⟨⟨cls2,dd2,data2,sl2⟩,ho2,hc2,n2,hd2⟩:=id hb;simp only at hcl hd hc2 hd2;subst hcl hd hc2 hd2;exact richCompare_meets_room (op:= .Lt) ⟨_,ho,rfl⟩ ⟨_,ho2,rfl⟩ PySem.F.slot_tuple_lt PySem.F.entry_tuple_lt (PySem.F.args_tuple_lt_2 _ _) (jB l b items items2 n n2 dd dd2 sl sl2 r)
  ⟨ho,ho2,hc,show Value.bool r≠Value.notImplemented/\Q (.bool r) s from ⟨(λx=>nomatch x),h⟩⟩ hu
section
variable {X:Cx} {π:List (Addr×Obj)} {σ:St} {H:Hp} {s:Shared}
theorem qq (I:aF X π σ H s) (n:Nat) (A:Around)
 (ih:∀{w1 w2:W} {v1 v2:V} {u1 u2:Value},w1.dep<n->w1.flat=true->w2.flat=true->W.ord w1 w2=true->bK X.K H w1 v1->bK X.K H w2 v2->bd v1 u1->bd v2 u2->lN A s u1 u2 (w1.lt w2)) (hu:A.units+n<cLine):
 ∀{ws us:List W} {xs ys:List V} {its its2:yez},W.deps ws<n->W.flats ws=true->W.flats us=true->W.ords ws us=true->aS X.K H ws xs->aS X.K H us ys->aU xs its->aU ys its2->fS A s its its2 (W.lts ws us):=by
 intro ws
 induction ws with
 | nil=>
   intro us xs ys its its2 hd f1 f2 ho r1 r2 q1 q2;cases r1;cases q1;cases r2 with
   | nil=>cases q2;simpa[W.lts] using fS.nn
   | cons _ _=>cases q2;simpa[W.lts] using fS.nc
 | cons x xs IH=>
   intro us vs1 vs2 its its2 hd f1 f2 ho r1 r2 q1 q2;cases r1 with
   | cons r1 s1=>
     cases q1 with
     | cons q1 t1=>
       cases r2 with
       | nil=>cases q2;simpa[W.lts] using fS.cn
       | @cons y ys _ _ r2 s2=>
         cases q2 with
         | cons q2 t2=>
           simp only[W.deps] at hd;simp only[W.flats,Bool.and_eq_true] at f1 f2;have e:=(im I n A (w1:=x) (w2:=y) (by lia) f1.1 f2.1 hu r1 r2 q1 q2).1;rw[W.ords] at ho;rw[W.lts];cases he:W.eq x y with
           | true=>
             rw[he] at e ho;rw[ycv rfl] at ho ⊢;exact .eq e (IH (by lia) f1.2 f2.2 ho s1 s2 t1 t2)
           | false=>
             rw[he] at e ho;rw[ycw ydx] at ho ⊢;exact .ne e (ih (by lia) f1.1 f2.1 ho r1 r2 q1 q2)
theorem tV (I:aF X π σ H s):∀(n:Nat) (A:Around) {w1 w2:W} {v1 v2:V} {u1 u2:Value},w1.dep<n->w1.flat=true->w2.flat=true->W.ord w1 w2=true->A.units+n<cLine->bK X.K H w1 v1->bK X.K H w2 v2->bd v1 u1->bd v2 u2->
 lN A s u1 u2 (w1.lt w2):=by
 intro n
 induction n with
 | zero=>intro A w1 w2 v1 v2 u1 u2 h;lia
 | succ n ih=>
   intro A w1 w2 v1 v2 u1 u2 hd f1 f2 ho hu r1 r2 q1 q2;cases r1 with
   | ref a=>simp[W.flat] at f1
   | scr a=>simp[W.flat] at f1
   | non=>simp[W.ord] at ho
   | bl b=>simp[W.ord] at ho
   | str b=>simp[W.ord] at ho
   | int a=>
     cases r2 with
     | int b=>
       obtain⟨t,rfl⟩:=q1;obtain⟨t',rfl⟩:=q2;rw[W.lt];exact λprog w E Q h=>HT.rcLt_int A s a t b t' prog w E Q h
     | _=>simp[W.ord] at ho
   | @tup a ws xs h r=>
     cases r2 with
     | @tup b us ys h2 r2=>
       cases (show u1=Value.ref _ from q1);cases (show u2=Value.ref _ from q2);obtain⟨its,rv,p,_⟩:=aF.tupH I h;obtain⟨its2,rv2,p2,_⟩:=aF.tupH I h2;have g1:W.flats ws=true:=by simpa[W.flat] using f1
       have g2:W.flats us=true:=by simpa[W.flat] using f2
       have ho':W.ords ws us=true:=by simpa[W.ord] using ho
       have hd':W.deps ws<n:=by simp only[W.dep] at hd;lia
       have hui:A.in1.units+n<cLine:=by show A.units+1+n<cLine;lia
       rw[W.lt];exact lN.tuples p p2 (by lia) (qq I n A.in1 (λh1 h2 h3 h4=>ih A.in1 h1 h2 h3 h4 hui) hui hd' g1 g2 ho' r r2 rv rv2)
     | _=>simp[W.ord] at ho
end
section
variable {X:Cx}
def xh:W2:=λx y G q=>match x,y with
 | .int i,.int j=>q (.bl (decide (i<j))) G
 | .tup xs,.tup ys=>W.flats xs=true/\W.flats ys=true/\W.deps xs<=149/\W.ords xs ys=true/\q (.bl (W.lts xs ys)) G
 | _,_=>False
theorem iR (hr:aB k X.A):gY X (compareOp .Lt) xh:=by
 rintro π s σ H x y v u Q I rx ry ⟨wx,wy,G,q,r1,r2,g,h,hQ⟩;unfold xh at h;split at h
 ·cases r1;cases r2;exact Cc π s σ H _ _ v u Q I rx ry ⟨_,_,rfl,rfl,hQ _ H _ G (aR.refl H) (.bl _) g h⟩
 ·rename_i xs ys;obtain⟨f1,f2,hd,ho,h⟩:=h;have z:=tV I 151 X.A (w1:= .tup xs) (w2:= .tup ys) (by simp only[W.dep];lia) (by simpa[W.flat] using f1) (by simpa[W.flat] using f2) (by simpa[W.ord] using ho) (by have:=hr.un;lia) r1 r2 rx ry;rw[W.lt] at z;exact z X.prog X.w X.xe _ ⟨.bl _,H,I,rfl,hQ _ H _ G (aR.refl H) (.bl _) g h⟩
 ·exact h.elim
end
section
variable {X:Cx}
end
section
variable {X:Cx} {π:List (Addr×Obj)} {σ:St} {H:Hp} {s:Shared}
theorem E7 (I:aF X π σ H s) {n:Nat} {ws us:List W} {xs ys:List V} {its its2:yez} (hd:W.deps ws<n) (g1:W.flats ws=true) (g2:W.flats us=true) (hu:A.in1.units+n<cLine) (r:aS X.K H ws xs) (r2:aS X.K H us ys) (rv:aU xs its) (rv2:aU ys its2):
 ∀j (h1:j<its.toArray.size) (h2:j<its2.toArray.size),SeqAt.EqAt A.in1 s its.toArray[j] its2.toArray[j] (jx ws us j):=λj j1 j2=>by
 have e1:its.length=ws.length:=by rw[←rv.length,r.length]
 have e2:its2.length=us.length:=by rw[←rv2.length,r2.length]
 rw[size_toArray] at j1 j2;have ea:ws[j]?=some ws[j]:=ycz (by lia);have eb:us[j]?=some us[j]:=ycz (by lia);obtain⟨va,ea1,ra⟩:=r.get ea;obtain⟨vb,eb1,rb⟩:=r2.get eb;obtain⟨ua,ea2,qa⟩:=rv.get ea1;obtain⟨ub,eb2,qb⟩:=rv2.get eb1;have za:its.toArray[j]=ua:=by
  have:=(List.getElem?_eq_some_iff.mp ea2).2;simpa using this
 have zb:its2.toArray[j]=ub:=by
  have:=(List.getElem?_eq_some_iff.mp eb2).2;simpa using this
 rw[za,zb];have:=(im I n A.in1 (w1:=ws[j]) (w2:=us[j]) (Nat.lt_of_le_of_lt (W.deps_get ea) hd) (W.flats_get g1 ea) (W.flats_get g2 eb) hu ra rb qa qb).1;unfold jx;rw[ea,eb];exact this
theorem lO {ws us:List W} (h:ws.length≠us.length):W.eqs ws us=false:=by
 cases e:W.eqs ws us with
 | false=>rfl
 | true=>exact absurd ((W.eqs_iff ws us).mp e).1 h
end
section
variable {X:Cx}
def CY:W2:=λx y G q=>match x,y with
 | .ref a,.ref b=>∃xs ys,G a=some (.lst xs)/\G b=some (.lst ys)/\W.flats xs=true/\W.flats ys=true/\W.deps xs<=149/\q (.bl (W.eqs xs ys)) G
 | x,y=>wW x y G q
def CZ:W2:=λx y G q=>match x,y with
 | .ref a,.ref b=>∃xs ys,G a=some (.lst xs)/\G b=some (.lst ys)/\W.flats xs=true/\W.flats ys=true/\W.deps xs<=149/\q (.bl (!(W.eqs xs ys))) G
 | x,y=>wX x y G q
theorem C0 (hr:aB k X.A):gY X (compareOp .Eq) CY:=by
 rintro π s σ H x y v u Q I rx ry ⟨wx,wy,G,q,r1,r2,g,h,hQ⟩;unfold CY at h;split at h
 ·obtain⟨ws,us,ea,eb,f1,f2,hd,h⟩:=h;cases r1;cases r2;cases rx;cases ry;obtain⟨_,xs,e1,ra⟩:=g _ _ ea;obtain⟨_,ys,e2,rb⟩:=g _ _ eb;obtain⟨its,rv,p,_⟩:=I.list (cC.of e1);obtain⟨its2,rv2,p2,_⟩:=I.list (cC.of e2);have l1:its.length=ws.length:=by rw[←rv.length,ra.length]
  have l2:its2.length=us.length:=by rw[←rv2.length,rb.length]
  have hu:=hr.un;have fin:EP X π σ Q (.bool (W.eqs ws us)) s:=⟨.bl _,H,I,rfl,hQ _ H _ G (aR.refl H) (.bl _) g h⟩
  by_cases hl:ws.length=us.length
  ·have c1:=SeqAt.RcAt.lists p.isList p2.isList (by rw[size_toArray,size_toArray,l1,l2,hl]) (A:=X.A) (by lia) (E7 I (n:=150) (by lia) f1 f2 (by show X.A.units+1+150<cLine;lia) ra rb rv rv2);have er:=fu ws us;rw[←hl,Nat.min_self,beq_self_eq_true,Bool.and_true] at er;rw[size_toArray,l1,er] at c1;exact c1 X.prog X.w X.xe _ fin
  ·rw[lO hl] at fin;exact SeqAt.RcAt.lists_lengths p.isList p2.isList (by rw[size_toArray,size_toArray,l1,l2];simpa using hl) (A:=X.A) (by lia) X.prog X.w X.xe _ fin
 ·exact AC hr π s σ H x y v u Q I rx ry ⟨wx,wy,G,q,r1,r2,g,h,hQ⟩
theorem C9 (hr:aB k X.A):gY X (compareOp .NotEq) CZ:=by
 rintro π s σ H x y v u Q I rx ry ⟨wx,wy,G,q,r1,r2,g,h,hQ⟩;unfold CZ at h;split at h
 ·obtain⟨ws,us,ea,eb,f1,f2,hd,h⟩:=h;cases r1;cases r2;cases rx;cases ry;obtain⟨_,xs,e1,ra⟩:=g _ _ ea;obtain⟨_,ys,e2,rb⟩:=g _ _ eb;obtain⟨its,rv,p,_⟩:=I.list (cC.of e1);obtain⟨its2,rv2,p2,_⟩:=I.list (cC.of e2);have l1:its.length=ws.length:=by rw[←rv.length,ra.length]
  have l2:its2.length=us.length:=by rw[←rv2.length,rb.length]
  have hu:=hr.un;have fin:EP X π σ Q (.bool (!(W.eqs ws us))) s:=⟨.bl _,H,I,rfl,hQ _ H _ G (aR.refl H) (.bl _) g h⟩
  by_cases hl:ws.length=us.length
  ·have c1:=SeqAt.RcNeAt.lists p.isList p2.isList (by rw[size_toArray,size_toArray,l1,l2,hl]) (A:=X.A) (by lia) (E7 I (n:=150) (by lia) f1 f2 (by show X.A.units+1+150<cLine;lia) ra rb rv rv2);have er:=fu ws us;rw[←hl,Nat.min_self,beq_self_eq_true,Bool.and_true] at er;rw[size_toArray,l1,er] at c1;exact c1 X.prog X.w X.xe _ fin
  ·rw[lO hl] at fin;exact SeqAt.RcNeAt.lists_lengths p.isList p2.isList (by rw[size_toArray,size_toArray,l1,l2];simpa using hl) (A:=X.A) (by lia) X.prog X.w X.xe _ fin
 ·exact AD hr π s σ H x y v u Q I rx ry ⟨wx,wy,G,q,r1,r2,g,h,hQ⟩
end
structure HY (lo hi c:Int):Prop where
 c0:0<c
 c1:c<1000
 l0: -(2^40)<=lo
 l1:lo<2^40
 h0: -(2^40)<=hi
 h1:hi<2^40
section
variable {X:Cx} {tg:Expr}
end
section
variable {X:Cx}
def AJ:List W->Gp->WK->Prop:=λws G q=>match ws with
 | [.int i,.int j]=>q (.int (if j<i then j else i)) G
 | _=>False
theorem Da (hc:X.calm=true):eg X (.builtin "min") AJ:=by
 rintro π s σ H xs us Q I r ⟨ws,G,q,rw',g,h,hQ⟩;unfold AJ at h;split at h
 ·obtain⟨v,u,rfl,r1,r2⟩:=rw'.two;cases r1;cases r2;exact rN hc π s σ H _ us Q I r ⟨_,_,rfl,hQ _ H _ G (aR.refl H) (.int _) g h⟩
 ·exact h.elim
theorem Db:bootBuiltins "min"=some (.builtin "min"):=by decide+kernel
def Dc (i j:Int):Prop:=i.natAbs<2^4000/\j.natAbs<2^4000
def E8 (j:Int):Prop:=0<j/\j.natAbs<2^4000
def qr (i j:Int):Prop:=wG i j∨Dc i j
theorem qr.ok {i j:Int} (h:qr i j):IntMulOk i j:=by
 rcases h with h | ⟨h1,h2⟩
 ·exact h.ok
 ·have b1:=PyProof.Rows.intBits_le h1;have b2:=PyProof.Rows.intBits_le h2;unfold IntMulOk Builtin.Int.intTooBig;have:¬(((Builtin.Int.intBits i+Builtin.Int.intBits j:Int)) > bitsLine):=by
   have hb:(8000:Int)<=bitsLine:=by decide
   lia
  simp[this]
def tW (i j:Int):Prop:=Cb i j∨E8 j
theorem tX:iK X (binaryOp .FloorDiv) (rI tW λi j=> .int (i/j)):=El λi j _ _ _ _ _ hc q=>by
 rcases hc with hc | ⟨h0,h1⟩
 ·have h1:(0:Int)<j:=hc.1;have h2:j<1073741824:=hc.2;exact floordiv_int (by lia) (by rw[Int.fdiv_eq_ediv_of_nonneg i (by lia)];exact q) (.inl (PyProof.noPylong_small (by lia)))
 ·refine floordiv_int (by lia) (by rw[Int.fdiv_eq_ediv_of_nonneg i (by lia)];exact q) (.inl (PyProof.noPylong_of_log2 ?_));have hne:j.natAbs≠0:=by lia
  exact ydw ((Nat.log2_lt hne).mpr h1) (by decide)
abbrev Dd:W2:=rW tW λi j=> .int (i/j)
theorem ck:gY X (binaryOp .FloorDiv) Dd:=o5 tX
end
section
variable {X:Cx}
end
structure fT (K:yav) (x qual:Str) (st:Stmt) (f:Addr) (fd:FuncData) (T:Addr) (ds:yez):Prop where
 ex:∃(oc:Value) (od:Option Addr) (kV doc pm:Value) (an:Option Addr) (cdv ct:Value) (osl:Array (Option Value)) (ot:Obj) (nt:Nat),
  fd=fnOf x qual (aq st) (ap st) (am st) (.ref T) kV doc pm an cdv ct/\K.lookup f=some ⟨oc,od,.func fd,osl⟩/\codeIn K cdv qual=true/\K.lookup T=some ot/\ot.data=.seq ds.toArray nt
 kp:keepIn K (.ref f)=true
section
variable {P:Program} {w:World} {K:yav} {mg:yew} {base:Heap} {x qual:Str} {st:Stmt} {f T:Addr} {fd:FuncData} {ds:yez}
theorem lP {oc:Value} {od an:Option Addr} {osl:Array (Option Value)} {kV doc pm cdv ct:Value} {ot:Obj} {nt:Nat} (l:K.lookup f=some ⟨oc,od,.func (fnOf x qual (aq st) (ap st) (am st) (.ref T) kV doc pm an cdv ct),osl⟩)
 (c:codeIn K cdv qual=true) (k:keepIn K (.ref f)=true) (t:K.lookup T=some ot) (h:ot.data=.seq ds.toArray nt):fT K x qual st f (fnOf x qual (aq st) (ap st) (am st) (.ref T) kV doc pm an cdv ct) T ds:=
 ⟨⟨oc,od,kV,doc,pm,an,cdv,ct,osl,ot,nt,rfl,l,c,t,h⟩,k⟩
theorem fT.binds {es:yez} (F:fT K x qual st f fd T ds)
 (h:∀(kV doc pm:Value) (an:Option Addr) (cdv ct:Value) (us:yez),(us++es).length=ps.length->∃k,bindArgs (fnOf x qual (aq st) (ap st) (am st) (.ref T) kV doc pm an cdv ct) ⟨us,[]⟩=seqItems? (.ref T) >>= k/\k (some ds.toArray)=pure (ps.zip (us++es))):bM K fd ps es:=by
 obtain⟨oc,od,kV,doc,pm,an,cdv,ct,osl,ot,nt,rfl,lk,hcd,ht,hd⟩:=F.ex;intro s us KX hl;obtain⟨k,h1,h2⟩:=h kV doc pm an cdv ct us hl;exact BindsTo.of_defaults (T:=T) rfl (KX _ _ ht) hd h1 h2
theorem De {N ps:List Str} {sp:bS} (F:fT K x qual st f fd T ds) (S:bV N ps (am st)) (len:∀ws G q e,sp ws G q e->ws.length=ps.length)
 (hbody:∀(cdv:Value) (A:Around) (outer:List Env) (s:Shared) (H:Hp) (E:XK),aB k (A.deeper (envOfC qual (am st) s.heap.objs.size f cdv))->
   ∃t,mX (dL tH P w K mg base N qual (am st) f cdv A outer s H E).nox (ap st) t/\
    ∀(ws:List W) (G:Gp) (q:WK) (e:WX),sp ws G q e->t { nx:=λ_ G1=>∃G0,aE G0 G1/\q .non G0,rt:=λw G1=>∃G0,aE G0 G1/\q w G0 } (il N ws) G):cf P w K mg base (k+1) f fd ps sp:=by
 obtain⟨oc,od,kV,doc,pm,an,cdv,ct,osl,ot,nt,rfl,lk,hcd,ht,hd⟩:=F.ex;refine p9 lk hcd S (λvs H Q E ⟨ws,G,q,e,r,g,z,_⟩=>by rw[←r.length];exact len _ _ _ _ z) (λA outer s H vs Q E hr ⟨ws,G,q,e,r,g,z,hQ,_⟩=>?_);obtain⟨t,ht,hq⟩:=hbody cdv A outer s H E hr;have ht':mK (dL tH P w K mg base N qual (am st) f cdv A outer s H E).nox (ap st) (LS K t):=ht;exact⟨_,ht'.nox,_,G,_,bu.start r,g,hq ws G q e z,⟨λσ1 H1 τ1 G1 t1 s1 g1 ⟨G0,l,q1⟩=>hQ .non H1 .non G0 t1 .non (g1.le l) q1,λv H1 w G1 t1 r1 g1 ⟨G0,l,q1⟩=>hQ v H1 w G0 t1 r1 (g1.le l) q1,λ_ _ _ _ _ _ _ z=>z.elim,λ_ _ _ _ _ _ _ z=>z.elim⟩⟩
def Dg (P:Program) (w:World) (K:yav) (mg:yew) (base:Heap) (x:Str) (ps:List Str) (k:Nat) (sp:bS) (dws:List W):Prop:=
 ∃(f:Addr) (fd:FuncData) (ds:yez) (dvs:List V),cf P w K mg base k f fd ps sp/\mg x=some (.ref f)/\keepIn K (.ref f)=true/\bM K fd ps ds/\aU dvs ds/\∀H,aS K H dws dvs
def xi (K:yav) (mg:yew) (x:Str) (st:Stmt) (ps:List Str) (dws:List W):Prop:=
 ∃(f:Addr) (fd:FuncData) (T:Addr) (ds:yez) (dvs:List V),fT K x x st f fd T ds/\bM K fd ps []/\bM K fd ps ds/\mg x=some (.ref f)/\aU dvs ds/\∀H,aS K H dws dvs
theorem xi.fx {sp:bS} {dws:List W} (D:xi K mg x st ps dws) (h:∀(f:Addr) (fd:FuncData) (T:Addr) (ds:yez),fT K x x st f fd T ds->cf P w K mg base k f fd ps sp):Fx P w K mg base x ps k sp:=by
 obtain⟨f,fd,T,ds,dvs,F,b,b',m,_,_⟩:=D;exact⟨f,fd,h f fd T ds F,m,F.kp,b⟩
theorem xi.fxd {sp:bS} {dws:List W} (D:xi K mg x st ps dws) (h:∀(f:Addr) (fd:FuncData) (T:Addr) (ds:yez),fT K x x st f fd T ds->cf P w K mg base k f fd ps sp):Dg P w K mg base x ps k sp dws:=by
 obtain⟨f,fd,T,ds,dvs,F,b,b',m,v,r⟩:=D;exact⟨f,fd,ds,dvs,h f fd T ds F,m,F.kp,b',v,r⟩
end
section
variable {X:Cx}
theorem aC {sp:bS} {p pos:Pos} {t:WA} (F:Fx X.prog X.w X.K X.mg X.base x ps k sp) (hr:aB k X.A) (hg:Gl X x) (ha:QA X (e::es) t) (_hn:(e::es).length=ps.length:=by rfl) (hdb:(x==("__debug__":Str))=false:=by decide)
 (he:starEach (e::es) X.env=(false,eval e X.env)::starEach es X.env:=by rfl) (hpl:(backTo pos (starEach es X.env)).any (·.1)=false:=by rfl):QE X (.Call (.Name x p) (e::es) [] pos) (gE sp [] t):=CV F hr hg ha hdb he hpl
theorem pf {sp:bS} {dws:List W} {p pos:Pos} {t:WA} (F:Dg X.prog X.w X.K X.mg X.base x ps k sp dws) (hr:aB k X.A) (hg:Gl X x) (ha:QA X (e::es) t) (_hn:(e::es).length+dws.length=ps.length:=by rfl) (hdb:(x==("__debug__":Str))=false:=by decide)
 (he:starEach (e::es) X.env=(false,eval e X.env)::starEach es X.env:=by rfl) (hpl:(backTo pos (starEach es X.env)).any (·.1)=false:=by rfl):QE X (.Call (.Name x p) (e::es) [] pos) (gE sp dws t):=by
 obtain⟨f,fd,ds,dvs,h1,h2,h3,h4,h5,h6⟩:=F;exact(p5 h1 hr hg h2 h3 h4 h5 kH ha hdb he hpl).imp λ_ _ _ h=>h.call h6
def tY:WS:=λ_ _ _=>False
theorem tZ:QS X st tY:=λ_ _ _ _ _ _ ⟨_,_,_,_,_,z,_⟩=>z.elim
end
variable {X:Cx}
def uc:List W->Gp->WK->Prop:=λws G q=>match ws with
 | [.int i,.int j]=>q (.int (if j > i then j else i)) G
 | [.int i,.int j,.int k]=>q (.int (if j > i then (if k > j then k else j) else if k > i then k else i)) G
 | [.ref a]=>∃ns:List Int,G a=some (.lst (ns.map W.int))/\ns≠[]/\∀m:Int,m∈ns->(∀x,x∈ns->x<=m)->q (.int m) G
 | _=>False
theorem lQ (hc:X.calm=true):eg X (.builtin "max") uc:=by
 rintro π s σ H xs us Q I r ⟨ws,G,q,rw',g,h,hQ⟩;unfold uc at h;split at h
 ·obtain⟨v,u,rfl,r1,r2⟩:=rw'.two;cases r1;cases r2;exact rM hc π s σ H _ us Q I r ⟨_,_,rfl,hQ _ H _ G (aR.refl H) (.int _) g h⟩
 ·rename_i i j k;cases rw' with
  | cons r1 rw'=>
    cases rw' with
    | cons r2 rw'=>
      cases rw' with
      | cons r3 rw'=>
        cases rw';cases r1;cases r2;cases r3;cases r with
        | cons a1 r=>
          cases r with
          | cons a2 r=>
            cases r with
            | cons a3 r=>
              cases r;obtain⟨t1,rfl⟩:=a1;obtain⟨t2,rfl⟩:=a2;obtain⟨t3,rfl⟩:=a3;refine max_three_ints (I.ok.hd hc) λh' tk k'=>⟨.int (if j > i then (if k > j then k else j) else if k > i then k else i),H,I.kept k',?_,hQ _ H _ G (aR.refl H) (.int _) g h⟩
              by_cases h1:j > i
              ·by_cases h2:k > j
               ·rw[ycv h1,ycv h2,ycv h1,ycv h2];exact⟨_,rfl⟩
               ·rw[ycv h1,ycw h2,ycv h1,ycw h2];exact⟨_,rfl⟩
              ·by_cases h2:k > i
               ·rw[ycw h1,ycv h2,ycw h1,ycv h2];exact⟨_,rfl⟩
               ·rw[ycw h1,ycw h2,ycw h1,ycw h2];exact⟨_,rfl⟩
 ·rename_i a;obtain⟨ns,e,hne,h⟩:=h;obtain⟨v,rfl,r1⟩:=rw'.one;cases r1;obtain⟨_,zs,e1,rr⟩:=g a _ e;obtain rfl:=rr.ints_of;obtain⟨u,rfl,ru⟩:=e9 r;cases (show u=Value.ref a from ru);obtain⟨its,rv,p,hz⟩:=I.list (cC.of e1);have hi:IntsAre its ns:=L2.intsAre_of rv;obtain⟨ys,ey⟩:=hi.allInts.items;have hn:(ys.toList.map (·.1))=ns:=by rw[←nums_intItems,←ey,←hi.numsOf]
  have hl:s.heap.IsList a (intItems ys):=by rw[←ey];exact p.isList
  have hsz:ys.size=ns.length:=by rw[←hn];simp
  have hpos:0<ys.size:=by
   rw[hsz];exact List.length_pos_iff.mpr hne
  refine max_intList (I.ok.hd hc) hl hpos λv h' tk hv hk=>?_;have ab:=argBest_gt (numAt ys) (ys.size-1);generalize argBest (λi j=>decide (numAt ys i > numAt ys j)) (ys.size-1)=ix at hv ab;have hix:ix<ys.size:=by lia
  have hna:∀j (hj:j<ys.size),numAt ys j=ns[j]'(by lia):=λj hj=>by
   unfold numAt;rw[Array.getElem?_eq_getElem hj];simp[←hn]
  have hv2:v=Value.int (ys[ix].1) (ys[ix].2):=by
   unfold intItems at hv;rw[Array.getElem?_map,Array.getElem?_eq_getElem hix] at hv;simpa using hv.symm
  have hm:ys[ix].1=ns[ix]'(by lia):=by
   have:=hna ix hix;unfold numAt at this;rw[Array.getElem?_eq_getElem hix] at this;simpa using this
  rw[hm] at hv2;subst hv2;refine⟨.int _,H,I.kept hk,⟨_,rfl⟩,hQ _ H _ G (aR.refl H) (.int _) g (h _ (getElem_mem _) λx hx=>?_)⟩;obtain⟨j,hj,rfl⟩:=List.mem_iff_getElem.mp hx;have:=ab.2 j (by lia);rw[hna j (by lia),hna ix hix] at this;exact this
 ·exact h.elim
end L2
namespace L2
open PySem PySem.Spec PyProof.Rows
theorem XC.of {C:Addr} (q:excIn K C bmV "ValueError.__new__"=true):∃bm,XC K C bm:=by
 unfold excIn at q;cases lk:List.lookup C K with
 | none=>rw[lk] at q;exact cT q
 | some o=>
   rw[lk] at q;obtain⟨cls,d1,data,⟨ls⟩⟩:=o;cases cls with
   | type s=>
     by_cases hs:s="type"
     ·subst hs;cases data with
      | cls cl=>
        obtain⟨nm,bs,mro,ns,qn,hd,sn,sb,ab,co,del⟩:=cl;rcases mro with _ | ⟨v,tl⟩
        ·exact cT q
        cases v with
        | ref C2=>
          rcases ls with _ | ⟨j0,_ | ⟨j1,_ | ⟨j2,_ | ⟨j3,_ | ⟨(_ | j4),r⟩⟩⟩⟩⟩
          any_goals first | exact cT q | skip
          cases j4 with
          | builtin id=>
            rcases r with _ | ⟨j5,_ | _⟩
            any_goals first | exact cT q | skip
            replace q:(C2==C&&id=="ValueError.__new__"&&!del&&W.tailIn K bmV tl&&W.nsOkIn K ns&&W.nsIn K ns (Str.ofString "__init__")==some none)=true:=q
            simp only[beq_iff_eq,Bool.not_eq_true',Bool.and_eq_true] at q;obtain⟨⟨⟨⟨⟨e1,e2⟩,e3⟩,e4⟩,e5⟩,e6⟩:=q;subst e1 e2;subst e3;refine⟨tl,λh X=>⟨ns,nm,qn,bs,hd,sn,sb,ab,co,d1,j0,j1,j2,j3,j5,_,X _ _ lk,.of_isNs (PySem.W.isNs_of_in X e5),PySem.W.nsMap_none_of_in X e5 e6,PySem.W.tail_of_in X e4⟩,λv=>?_⟩;unfold mroIn clsIn;rw[lk]
            rfl
          | _=>exact cT q
        | _=>exact cT q
      | _=>exact cT q
     ·delta PySem.W.excIn.match_6 at q
      change (dite (s="type") _ _:Bool)=true at q;rw[dif_neg hs] at q;exact cT q
   | _=>exact cT q
theorem XC.has {C:Addr} (x:XC K C bm) {h:Heap} (X:K.In h) {t:String} {b:Bool} (hb:bmV.contains (.type t)=b):(Value.ref C::bm).contains (.type t)=b:=by
 obtain⟨_,_,_,_,_,_,_,_,_,_,_,_,_,_,_,_,_,_,_,T⟩:=x.obj h X;rw[List.contains_cons,T.hasType hb]
 rfl
section
variable {M:Model} {A:Around} {E:yey} {K:yav} {C D a:Addr} {bm bmD:yez} {oe:Obj}
theorem r6 {Q:Bool->Shared->Prop} {b:Bool} (X:K.In s.heap) (hC:XC K C bm) (hD:XC K D bmD) (he:s.heap.get? a=some oe) (hcls:oe.cls=.ref C) (hs:mroIn K C (.ref D)=some b) (hq:Q b s):
 wpAny M A (excMatches (.ref a) (.ref D)) Q E s:=by
 obtain⟨h,g,d,t,os⟩:=s;have hb:=hD.has X (t:="BaseException") (b:=true) rfl;have hcd:(Value.ref C::bm).contains (.ref D)=b:=by
  have:=(hC.mro (.ref D)).symm.trans hs;exact Option.some.inj this
 obtain⟨N1,n1,q1,b1,d1,s1,u1,a1,c1,f1,g0,g1,g2,g3,g5,m1,gC,_,_,_⟩:=hC.obj h X;obtain⟨N2,n2,q2,b2,d2,s2,u2,a2,c2,f2,l0,l1,l2,l3,l5,m2,gD,_,_,_⟩:=hD.obj h X;have nt:=tc_notTuple;unfold excMatches
 repeat (first | (with_reducible refine wpAny_loadPart_at he ?_;rw[hcls]) | with_reducible refine wpAny_loadPart_at gD ?_ | (with_reducible refine wpAny_isSubtype_exc gD ?_;rw[hb]) | (with_reducible refine wpAny_isSubtype_exc gC ?_;rw[hcd]) | wp_step)
 cases b with
 | true=>wp_walk;exact hq
 | false=>wp_walk;exact hq
end
theorem fG.none_of {H:Hp} {h:Heap} (x:fG P w H h) (e:h.get? a=none):H a=none:=by
 cases q:H a with
 | none=>rfl
 | some o=>
   have y:=x a o q;cases o with
   | lst xs=>obtain⟨_,_,_,_,z⟩:=y;rw[e] at z;cases z
   | tup xs=>obtain⟨_,_,_,p,z,_⟩:=y;rw[e] at z;cases z
   | dK kvs=>obtain⟨_,_,_,_,o,_,_,z,_⟩:=y;rw[e] at z;cases z
   | dT kvs=>obtain⟨_,_,_,_,o,_,_,z,_⟩:=y;rw[e] at z;cases z
   | set S n=>obtain⟨o,_,_,_,z,_⟩:=y;rw[e] at z;cases z
   | ins C dx fs=>obtain⟨_,_,_,z,_⟩:=y;rw[e] at z;cases z
   | own y2=>obtain⟨_,z⟩:=y;rw[e] at z;cases z
   | xd fs=>obtain⟨_,⟨_,_,_,z,_⟩,_⟩:=y;rw[e] at z;cases z
   | rng lo hi=>obtain⟨_,_,_,z⟩:=y;rw[e] at z;cases z
   | frz ob u=>obtain⟨z,_⟩:=y;rw[e] at z;cases z
   | tbl ps=>have z:h.get? a=some _:=y;rw[e] at z;cases z
   | met f y2=>have z:h.get? a=some _:=y;rw[e] at z;cases z
   | ext φ=>obtain⟨_,⟨_,z⟩,_⟩:=y;rw[e] at z;cases z
theorem ff {h B:Heap} {m:List Addr}:∀{l:List Env},h.FunFrames B l->(∀b∈eC l,b∈m)->h.FunFrames (hideAll h m) l
 | [],_,_=>trivial
 | env::r,⟨e0,⟨L,o,e1,_,e3,e4⟩,e5⟩,hm=>
   have hl:eC (env::r)=L::eC r:=by unfold eC;rw[filterMap_cons,e1]
   ⟨e0,⟨L,o,e1,hideAll_none m (hm L (by rw[hl];exact .head _)),e3,e4⟩,ff e5 λb hb=>hm b (by rw[hl];exact .tail _ hb)⟩
structure Fl (P:Program) (w:World) (fs:List Addr) (H H':Hp) (h0 h:Heap) (a T:Addr) (c fl:Value):Prop where
 un:Un fs [] H H' h0 h
 hok:fG P w H' h
 na:h0.get? a=none
 nT:h0.get? T=none
 ha:H' a=none
 hT:H' T=none
 tr:∃oe vs oT ts a0,h.get? a=some oe/\(oe.cls=c/\vs[0]?=some a0)/\oe.data=.fields vs/\vs[1]?=some (.ref T)/\T≠a/\h.get? T=some oT/\oT.data=.fields ts/\ts[3]?=some fl
section
variable {P:Program} {w:World} {fs:List Addr} {H H':Hp} {h0 h h':Heap} {a T:Addr} {c fl fl':Value}
theorem Fl.traced (F:Fl P w fs H H' h0 h a T c fl):∃a0,h.TracedAtW (hideAll h (a::T::fs)) a c a0 fl:=by
 obtain⟨oe,vs,oT,ts,a0,e1,e2,e3,e4,e5,e6,e7,e8⟩:=F.tr;exact⟨a0,oe,vs,T,oT,ts,e1,e2,e3,e4,hideAll_none _ (.tail _ (.head _)),e5,e6,e7,e8⟩
theorem Fl.move {a0:Value} (F:Fl P w fs H H' h0 h a T c fl) (hfs:∀b∈fs,H' b=none/\∃o,h.get? b=some o/\∀vs,o.data≠ .fields vs)
 (k1:(hideAll h (a::T::fs)).StaysIn h') (k3:h'.TracedAtW (hideAll h (a::T::fs)) a c a0 fl') (k4:h.UpToSlots h'):∃T',Fl P w fs H H' h0 h' a T' c fl':=by
 have keep:∀b o,b≠a->b≠T->b∉fs->h.get? b=some o->h'.get? b=some o:=λb o n1 n2 n3 e=>k1 b o (hideAll_get _ e (by simp[n1,n2,n3]));have slot:∀b o,b∈fs->h.get? b=some o->∃sl,h'.get? b=some { o with slots:=sl }:=λb o hb e=>by
  obtain⟨_,o2,e2,d2⟩:=hfs b hb;rw[e] at e2;cases e2;exact k4 b o e d2
 obtain⟨oe,vs,T',oT,ts,q1,q2,q3,q4,q5,q6,q7,q8,q9⟩:=k3;have hT':T'=T∨h.get? T'=none:=by
  by_cases z:T'=T
  ·exact .inl z
  ·refine .inr ?_;cases e:h.get? T' with
   | none=>rfl
   | some o=>
     by_cases zf:T'∈fs
     ·obtain⟨_,o2,e2,d2⟩:=hfs T' zf;obtain⟨sl,e3⟩:=k4 T' o2 e2 d2;rw[q7] at e3;cases e3;exact absurd q8 (d2 ts)
     ·rw[hideAll_get _ e (by simp[z,zf,q6])] at q5;cases q5
 have back:∀b,h.get? b=none->h0.get? b=none:=λb e=>by
  cases q:h0.get? b with
  | none=>rfl
  | some o=>
    obtain⟨o',e'⟩:=F.un.there b o q (by simp);rw[e] at e';cases e'
 refine⟨T',⟨⟨λb o q n hb hx=>?_,λb o q n hb hx=>?_,F.un.free,λb o q hx=>?_,F.un.tups,F.un.frzs,F.un.tbls⟩,λb u e=>?_,F.na,?_,F.ha,?_,⟨oe,vs,oT,ts,a0,q1,q2,q3,q4,q6,q7,q8,q9⟩⟩⟩
 ·exact keep b o (λz=>by rw[z,F.na] at q;cases q) (λz=>by rw[z,F.nT] at q;cases q) hb (F.un.keep b o q n hb hx)
 ·obtain⟨sl,e1⟩:=F.un.slot b o q n hb hx;obtain⟨sl2,e2⟩:=slot b _ hb e1;exact⟨sl2,e2⟩
 ·obtain⟨o1,e1⟩:=F.un.there b o q hx
  by_cases hb:b∈fs
  ·obtain⟨sl,e2⟩:=slot b o1 hb e1;exact⟨_,e2⟩
  ·exact⟨o1,keep b o1 (λz=>by rw[z,F.na] at q;cases q) (λz=>by rw[z,F.nT] at q;cases q) hb e1⟩
 ·have nn:∀x v,H' x=some v->x≠a/\x≠T/\x∉fs:=λx v e=>⟨λz=>(by rw[z,F.ha] at e;cases e),λz=>(by rw[z,F.hT] at e;cases e),λz=>(by rw[(hfs x z).1] at e;cases e)⟩;refine(F.hok b u e).stay (λx v hc q=>?_) (λ_ q=>q) λ_ _ q=>q;rcases hc with hc | hc
  ·obtain⟨z1,z2,z3⟩:=nn b u e;rw[hc] at q ⊢;exact keep b v z1 z2 z3 q
  ·obtain⟨z1,z2,z3⟩:=nn x _ hc;exact keep x v z1 z2 z3 q
 ·rcases hT' with z | z
  ·rw[z];exact F.nT
  ·exact back T' z
 ·rcases hT' with z | z
  ·rw[z];exact F.hT
  ·exact F.hok.none_of z
end
def ph (P:Program) (w:World):oV:=λouter H s E e s'=>∃a T C H',e=.ref a/\s'.os=s.os/\AllBare s'.gens/\Fl P w (eC outer) H H' s.heap s'.heap a T (.ref C) .none/\E (.ref C) none H'
abbrev xj (P:Program) (w:World) (K:yav) (mg:yew) (base:Heap) (k:Nat) (f:Addr) (fd:FuncData) (ps:List Str) (sp:bS):Prop:=dR P w K mg base (ph P w) k f fd ps (wm K sp)
section
variable {P:Program} {w:World} {K:yav} {mg:yew} {base:Heap} {N:List Str} {qual:Str} {scope:Scope} {f:Addr} {cdv:Value} {A:Around} {outer:List Env} {s:Shared} {H:Hp} {E:XK}
theorem AK {σ:St} {H2:Hp} {s2:Shared} {h':Heap} {e C:Addr} {vs:yez} (I:aF (dL (ph P w) P w K mg base N qual scope f cdv A outer s H E) π σ H2 s2)
 (mx:Heap.MadeExcOf s2.heap h' e (.ref C) vs) (hE:E (.ref C) none H2):(dL (ph P w) P w K mg base N qual scope f cdv A outer s H E).xe (.ref e) { s2 with heap:=h' }:=by
 have ST:=I.stack;have SF:=I.stkFree;refine wpAny_leaves_madeW (base:=hideAll s2.heap (eC (envOfC qual scope s.heap.objs.size f cdv::outer))) (h:=s2.heap) (L:=s.heap.objs.size) I.ok.frames rfl (λb o q=>of_hideAll _ q) (ff ST λ_ z=>z) mx λh3 t fly _ _ ups=>?_;obtain⟨k1,_,_,k3⟩:=fly;obtain⟨oe,ws,T,oT,ts,q1,q2,q3,q4,q5,q6,q7,q8,q9⟩:=k3;have keep:∀b o,b∉eC (envOfC qual scope s.heap.objs.size f cdv::outer)->s2.heap.get? b=some o->h3.get? b=some o:=λb o hb q=>k1 b o (hideAll_get _ q hb);have slot:∀b o,b∈eC (envOfC qual scope s.heap.objs.size f cdv::outer)->s2.heap.get? b=some o->(∃sl,h3.get? b=some { o with slots:=sl })/\∀vs,o.data≠ .fields vs:=λb o hb q=>by
  obtain⟨_,o2,e2,d2⟩:=ST.mem hb;rw[q] at e2;cases e2;exact⟨ups b o (mx.keeps b o q) d2,d2⟩
 have nL:∀b o,s.heap.get? b=some o->b∉eC outer->b∉eC (envOfC qual scope s.heap.objs.size f cdv::outer):=λb o q hb z=>by
  rcases mem_cons.mp (show b∈s.heap.objs.size::eC outer from z) with z | z
  ·exact absurd (ybv q) (by rw[z];exact lt_irrefl _)
  ·exact hb z
 have back:∀b,s2.heap.get? b=none->s.heap.get? b=none:=λb q=>by
  cases z:s.heap.get? b with
  | none=>rfl
  | some o=>
    obtain⟨o',e'⟩:=I.base.there b o z (by intro y;cases y);rw[q] at e';cases e'
 have nT:s2.heap.get? T=none:=by
  cases z:s2.heap.get? T with
  | none=>rfl
  | some o=>
    by_cases zf:T∈eC (envOfC qual scope s.heap.objs.size f cdv::outer)
    ·obtain⟨⟨sl,e3⟩,d2⟩:=slot T o zf z;rw[q7] at e3;cases e3;exact absurd q8 (d2 ts)
    ·rw[hideAll_get _ z zf] at q5;cases q5
 refine⟨e,T,C,H2,rfl,I.os,I.bare,⟨⟨λb o q n hb hx=>?_,λb o q n hb hx=>?_,λb o q n hx=>I.base.free b o q n (by intro y;cases y),λb o q hx=>?_,I.base.tups,I.base.frzs,I.base.tbls⟩,λb u q=>?_,back e mx.new,back T nT,I.hok.none_of mx.new,I.hok.none_of nT,
  ⟨oe,ws,oT,ts,_,q1,q2,q3,q4,q6,q7,q8,q9⟩⟩,hE⟩
 ·exact keep b o (nL b o q hb) (I.base.keep b o q n hb (by intro y;cases y))
 ·obtain⟨sl,e1⟩:=I.base.slot b o q n hb (by intro y;cases y);obtain⟨⟨sl2,e2⟩,_⟩:=slot b _ (ybx _ hb) e1;exact⟨sl2,e2⟩
 ·obtain⟨o1,e1⟩:=I.base.there b o q (by intro y;cases y)
  by_cases hb:b∈eC (envOfC qual scope s.heap.objs.size f cdv::outer)
  ·obtain⟨⟨sl,e2⟩,_⟩:=slot b o1 hb e1;exact⟨_,e2⟩
  ·exact⟨o1,keep b o1 hb e1⟩
 ·have nn:∀x v,H2 x=some v->x∉eC (envOfC qual scope s.heap.objs.size f cdv::outer):=λx v q z=>by rw[SF x z] at q;cases q
  refine(I.hok b u q).stay (λx v hc q2=>?_) (λ_ q=>q) λ_ _ q=>q;rcases hc with hc | hc
  ·rw[hc] at q2 ⊢;exact keep b v (nn b u q) q2
  ·exact keep x v (nn x _ hc) q2
def ud (C:Addr) (e:WX):WS:=λ_ _ G=>e (.ref C) G
theorem ue {x msg:Str} {C:Addr} {e:WX} {np cpos pos p1:Pos} {j} (hm:mg x=some (.ref C)) (hC:XC K C bm) (hE:∀H1 G1,aR H H1->aP K H1 G1->e (.ref C) G1->E (.ref C) none H1)
 (hg:Gl (dL (ph P w) P w K mg base N qual scope f cdv A outer s H E) x) (hd:(x==("__debug__":Str))=false:=by decide):
 QS (dL (ph P w) P w K mg base N qual scope f cdv A outer s H E) (.Raise (some (.Call (.Name x np) [.Constant (.str msg) j p1] [] cpos)) none pos) (ud C e):=by
 rintro π s2 σ H2 D I ⟨τ,G,d,hs,hgG,ht,l⟩;obtain⟨N1,n1,q1,b1,d1,s1,u1,a1,c1,f1,g0,g1,g2,g3,g5,m1,gC,gN,gi,gT⟩:=hC.obj _ I.ok.mod.kin;refine wpAny_Raise_call_subT (C:=C) (nm:=n1) (q:=q1) (N:=N1) (bs:=b1) (bm:=bm) (hdct:=d1) (sn:=s1) (sub:=u1) (ab:=a1) (col:=c1) (dd:=f1) (k0:=g0) (k1:=g1) (k2:=g2) (k3:=g3) (k5:=g5) PySem.F.excBase_ValueError (mN:=m1) (gT.hasType rfl) (I.ok.hd rfl) rfl gi
  (fq I hg hm ⟨rfl,?_⟩ hd)
 have ha:=(cA (X:=dL (ph P w) P w K mg base N qual scope f cdv A outer s H E) (sM (x:=msg) (j:=j) (pos:=p1)) pa_nil) cpos π s2 σ H2 (λvs H'=>vs.length=1/\H'=H2) I ⟨rfl,rfl⟩;refine Calls.evalArgs_plain (wpAny_mono ha (λus s3 h3=>?_) λ_ _ y=>y);obtain⟨vs,H3,I3,rv,hl,rfl⟩:=h3;refine⟨rfl,?_,I3.bk _ _ gC,gN.keeps I3.bk,gT.keeps I3.bk,λh' a mx=>AK I3 mx (hE _ G ⟨I3.base.tups,λb o u q=>I3.base.frzs b o _ q⟩ hgG ht)⟩;show us.length<=sizeLine;rw[←rv.length,hl];decide
end
theorem E9 {x qual:Str} {f:Addr} {N ps:List Str} {sp:bS} (F:cz K x qual st f fd) (S:bV N ps (am st)) (len:∀ws G q e,sp ws G q e->ws.length=ps.length)
 (hbody:∀(cdv:Value) (A:Around) (outer:List Env) (s:Shared) (H:Hp) (E:XK) (ws:List W) (G:Gp) (q:WK) (e:WX),aB k (A.deeper (envOfC qual (am st) s.heap.objs.size f cdv))->sp ws G q e->(∀c H1 G1,aR H H1->aP K H1 G1->e c G1->E c none H1)->
   ∃t,mX (dL (ph P w) P w K mg base N qual (am st) f cdv A outer s H E) (ap st) t/\t { nx:=λ_ G1=>∃G0,aE G0 G1/\q .non G0,rt:=λw G1=>∃G0,aE G0 G1/\q w G0 } (il N ws) G):xj P w K mg base (k+1) f fd ps sp:=by
 obtain⟨oc,od,kV,doc,pm,an,cdv,ct,osl,rfl,lk,hcd⟩:=F.ex;refine p9 lk hcd S (λvs H Q E ⟨ws,G,q,e,r,g,z,_⟩=>by rw[←r.length];exact len _ _ _ _ z) (λA outer s H vs Q E hr ⟨ws,G,q,e,r,g,z,hQ,hX⟩=>?_);obtain⟨t,ht,hq⟩:=hbody cdv A outer s H E ws G q e hr z λc H1 G1 t1 g1 z1=>hX c none H1 G1 t1 g1 z1;exact⟨_,ht,_,G,_,bu.start r,g,hq,⟨λσ1 H1 τ1 G1 t1 s1 g1 ⟨G0,l,q1⟩=>hQ .non H1 .non G0 t1 .non (g1.le l) q1,λv H1 w G1 t1 r1 g1 ⟨G0,l,q1⟩=>hQ v H1 w G0 t1 r1 (g1.le l) q1,λ_ _ _ _ _ _ _ z=>z.elim,λ_ _ _ _ _ _ _ z=>z.elim⟩⟩
theorem Dh {x qual:Str} {f T:Addr} {ds:yez} {N ps:List Str} {sp:bS} (F:fT K x qual st f fd T ds) (S:bV N ps (am st)) (len:∀ws G q e,sp ws G q e->ws.length=ps.length)
 (hbody:∀(cdv:Value) (A:Around) (outer:List Env) (s:Shared) (H:Hp) (E:XK) (ws:List W) (G:Gp) (q:WK) (e:WX),aB k (A.deeper (envOfC qual (am st) s.heap.objs.size f cdv))->sp ws G q e->(∀c H1 G1,aR H H1->aP K H1 G1->e c G1->E c none H1)->
   ∃t,mX (dL (ph P w) P w K mg base N qual (am st) f cdv A outer s H E) (ap st) t/\t { nx:=λ_ G1=>∃G0,aE G0 G1/\q .non G0,rt:=λw G1=>∃G0,aE G0 G1/\q w G0 } (il N ws) G):xj P w K mg base (k+1) f fd ps sp:=by
 obtain⟨oc,od,kV,doc,pm,an,cdv,ct,osl,ot,nt,rfl,lk,hcd,ht,hd⟩:=F.ex;refine p9 lk hcd S (λvs H Q E ⟨ws,G,q,e,r,g,z,_⟩=>by rw[←r.length];exact len _ _ _ _ z) (λA outer s H vs Q E hr ⟨ws,G,q,e,r,g,z,hQ,hX⟩=>?_);obtain⟨t,ht,hq⟩:=hbody cdv A outer s H E ws G q e hr z λc H1 G1 t1 g1 z1=>hX c none H1 G1 t1 g1 z1;exact⟨_,ht,_,G,_,bu.start r,g,hq,⟨λσ1 H1 τ1 G1 t1 s1 g1 ⟨G0,l,q1⟩=>hQ .non H1 .non G0 t1 .non (g1.le l) q1,λv H1 w G1 t1 r1 g1 ⟨G0,l,q1⟩=>hQ v H1 w G0 t1 r1 (g1.le l) q1,λ_ _ _ _ _ _ _ z=>z.elim,λ_ _ _ _ _ _ _ z=>z.elim⟩⟩
def Rx (P:Program) (w:World) (K:yav) (mg:yew) (base:Heap) (x:Str) (ps:List Str) (k:Nat) (sp:bS) (dws:List W):Prop:=
 ∃(f:Addr) (fd:FuncData) (ds:yez) (dvs:List V),xj P w K mg base k f fd ps sp/\mg x=some (.ref f)/\keepIn K (.ref f)=true/\bM K fd ps ds/\aU dvs ds/\∀H,aS K H dws dvs
noncomputable abbrev Cx.xmk (X:Cx) (a:Addr) (oe:Obj):Cx:={ X with A:=X.A.mark (some (.ref a)),calm:=false,xe:=λ_ _=>False,pn:=(a,oe)::X.pn }
section
variable {X:Cx} {π:List (Addr×Obj)} {σ:St} {H:Hp} {s:Shared} {a:Addr} {oe:Obj}
theorem aF.xmk (I:aF X π σ H s) (e:s.heap.get? a=some oe) (n:H a=none) (hl:a≠X.env.locals) (hf:a∉X.fs) (hd:∀v,oe.data≠ .cell v):aF (X.xmk a oe) π σ H s:=
 ⟨⟨I.ok.mod,I.ok.kind,I.ok.glob,I.ok.blt,I.ok.above,I.ok.inj,I.ok.has,I.ok.cab,λz=>(ydx z).elim,I.ok.frames,I.ok.stk,I.ok.exf,I.ok.bs,I.ok.bsz,I.ok.noex,I.ok.exfs,I.ok.funs,I.ok.frf⟩,I.os,I.bare,I.base,I.loc,I.cell,I.free,I.freeC,
   λp hp=>by
    rcases mem_cons.mp (show p∈(a,oe)::(X.pn++π) from hp) with z | z
    ·rw[z];exact⟨e,n,hl,hf,hd⟩
    ·exact I.pin p z,I.hok,I.len⟩
theorem aF.unx (I:aF (X.xmk a oe) π σ H s) (hh:X.calm=true->X.A.handled=none):aF X π σ H s:=
 ⟨⟨I.ok.mod,I.ok.kind,I.ok.glob,I.ok.blt,I.ok.above,I.ok.inj,I.ok.has,I.ok.cab,hh,I.ok.frames,I.ok.stk,I.ok.exf,I.ok.bs,I.ok.bsz,I.ok.noex,I.ok.exfs,I.ok.funs,I.ok.frf⟩,I.os,I.bare,I.base,I.loc,I.cell,I.free,I.freeC,
   λp hp=>I.pin p (ybx _ hp),I.hok,I.len⟩
theorem SP.unx {D:fH} {f:Flow} {s':Shared} (h:SP (X.xmk a oe) π D f s') (hh:X.calm=true->X.A.handled=none):SP X π D f s':=by
 cases f with
 | next=>obtain⟨σ',H',I,q⟩:=h;exact⟨σ',H',I.unx hh,q⟩
 | brk=>obtain⟨σ',H',I,q⟩:=h;exact⟨σ',H',I.unx hh,q⟩
 | cont=>obtain⟨σ',H',I,q⟩:=h;exact⟨σ',H',I.unx hh,q⟩
 | ret u=>obtain⟨v,σ',H',I,r,q⟩:=h;exact⟨v,σ',H',I.unx hh,r,q⟩
end
def QH (X:Cx) (C:Addr) (hs:List ExceptHandler) (th:WS):Prop:=
 ∀(π:List (Addr×Obj)) (s0:Shared) (σ:St) (H0:Hp) (s:Shared) (H:Hp) (a T:Addr) (D:fH),aF X π σ H0 s0->Fl X.prog X.w (eC X.stack) H0 H s0.heap s.heap a T (.ref C) .none->s.os=s0.os->AllBare s.gens->LS X.K th D σ H->
  wpAny (model X.prog X.w) X.A (handleBy (.ref a) X.env hs) (SP X π D) X.xe s
section
variable {X:Cx} {π:List (Addr×Obj)} {σ:St} {H0 H:Hp} {s0 s:Shared} {a T:Addr} {c fl:Value}
theorem Fl.inv (F:Fl X.prog X.w (eC X.stack) H0 H s0.heap s.heap a T c fl) (I:aF X π σ H0 s0) (os:s.os=s0.os) (bare:AllBare s.gens):aF X π σ H s:=I.call' (ch:=[]) os F.un F.hok bare λb z=>absurd z (by simp)
theorem aF.frmem (I:aF X π σ H s):∀b∈eC X.stack,H b=none/\∃o,s.heap.get? b=some o/\∀vs,o.data≠ .fields vs:=λb hb=>⟨I.stkFree b hb,(I.stack.mem hb).2⟩
theorem Fl.there (F:Fl X.prog X.w (eC X.stack) H0 H s0.heap s.heap a T c fl) (I:aF X π σ H0 s0):∃oe,s.heap.get? a=some oe/\oe.cls=c/\H a=none/\a≠X.env.locals/\a∉X.fs/\∀v,oe.data≠ .cell v:=by
 obtain⟨oe,vs,oT,ts,a0,e1,e2,e3,_⟩:=F.tr;refine⟨oe,e1,e2.1,F.ha,λz=>?_,λz=>?_,λv z=>by rw[e3] at z;cases z⟩
 ·obtain⟨m,⟨o,_,_,ho,_⟩,_⟩:=I.loc;rw[←z,F.na] at ho;cases ho
 ·obtain⟨_,o,ho,_⟩:=I.funs.mem z;rw[F.na] at ho;cases ho
theorem Fl.lands {M:Model} {Q:Unit->Shared->Prop} (F:Fl X.prog X.w (eC X.stack) H0 H s0.heap s.heap a T c fl) (I:aF X π σ H0 s0) (os:s.os=s0.os) (bare:AllBare s.gens)
 (h:∀h' T',Fl X.prog X.w (eC X.stack) H0 H s0.heap h' a T' c .none->Q () { s with heap:=h' }):wpAny M A (setFlight (.ref a) none) Q E s:=by
 have I1:=F.inv I os bare;obtain⟨a0,tr⟩:=F.traced;refine wpAny_setFlight_noneW (base:=hideAll s.heap (a::T::eC X.stack)) (λb o q=>of_hideAll _ q) (ff I1.stack λb z=> .tail _ (.tail _ z)) tr λh' k1 _ k3 k4=>?_;obtain⟨T',F'⟩:=F.move I1.frmem k1 k3 λb o e n=>⟨o.slots,k4 b o e n⟩;exact h h' T' F'
variable {C D:Addr} {bm bmD:yez} {x:Str} {p pos:Pos} {name:Option Str} {body:List Stmt} {bI:List ExceptHandler} {b0:Stmt} {th:WS}
theorem xk (hm:X.mg x=some (.ref D)) (hg:Gl X x) (hC:XC X.K C bm) (hD:XC X.K D bmD) (hs:mroIn X.K C (.ref D)=some true) (hb:∀a oe,oe.cls=.ref C->mX (X.xmk a oe) (b0::body) th) (hd:(x==("__debug__":Str))=false:=by decide):
 QH X C (.ExceptHandler (some (.Name x p)) none (b0::body) pos::bI) th:=by
 intro π s0 σ H0 s H a T D' I0 F os bare hLS;have I:=F.inv I0 os bare;obtain⟨oe,e1,e2,e3,e4,e5,e6⟩:=F.there I0;refine wpAny_handleBy_cons (codeAny_handlers_test (fq (X:=X.xmk a oe) (I.xmk e1 e3 e4 e5 e6) hg hm ?_ hd)) (by intro q;cases q);refine r6 I.kIn hC hD e1 e2 hs ?_;refine codeAny_handlers_suite (F.lands I0 os bare λh' T' F'=>?_);have I':=Fl.inv (s:={ s with heap:=h' }) F' I0 os bare;obtain⟨oe',q1,q2,q3,q4,q5,q6⟩:=Fl.there (s:={ s with heap:=h' }) F' I0;exact wpAny_mono (hb a oe' q2 π _ σ H D' (I'.xmk q1 q3 q4 q5 q6) hLS) (λf s2 z=>z.unx I0.ok.hd) λ_ _ z=>z.elim
end
section
variable {X:Cx} {a:Addr} {oe:Obj} {C D:Addr} {bm bmD:yez}
theorem pp {x y:V} (r:aU [x,y] us):∃u v,us=[u,v]/\bd x u/\bd y v:=by
 cases r with
 | cons r1 r=>
   cases r with
   | cons r2 r=>cases r;exact⟨_,_,rfl,r1,r2⟩
end
theorem XC.self {C:Addr} (x:XC K C bm):mroIn K C (.ref C)=some true:=by rw[x.mro];simp
section
variable {prog:Program} {w:World} {A:Around} {R:Result->Shared->Prop} {I:Addr} {fp wr:List Addr} {n:Nat} {P:Nat->Value->Prop} {St:Nat->Heap->Prop} {kw:List (Str×Value)}
end
section
variable {prog:Program} {w:World} {A:Around} {E:yey} {s:Shared} {l:Addr} {xs:Array (Int×Tok)} {d:Value}
end
section
variable {X:Cx}
end
section
variable {P:Program} {w:World} {K:yav} {mg:yew} {base:Heap} {N:List Str} {qual:Str} {scope:Scope} {f:Addr} {cdv:Value} {A:Around} {outer:List Env} {s:Shared} {H:Hp} {E:XK}
theorem xm {E':XK} (hE:∀C H1,aR H H1->E' (.ref C) none H1->E (.ref C) none H1):eF (ph P w) (dL (ph P w) P w K mg base N qual scope f cdv A outer s H E) E':=by
 intro π σ H2 s2 e s3 I hx;obtain⟨a,T,C,H',rfl,os,bare,F,hw⟩:=hx;have I':=F.inv I os bare;obtain⟨a0,tr⟩:=F.traced;show wpAny _ _ (leaving (envOfC qual scope s.heap.objs.size f cdv) (.ref a)) _ _ s3;refine wpAny_leaving_nextW (base:=hideAll s3.heap (a::T::eC (envOfC qual scope s.heap.objs.size f cdv::outer))) (outer:=outer) (L:=s.heap.objs.size) I'.ok.frames (ff I'.stack λb z=> .tail _ (.tail _ z)) rfl tr (λb o q=>of_hideAll _ q) (hideAll_none _ (.head _)) λh3 left=>?_;obtain⟨k1,_,k3,k4⟩:=left;obtain⟨T',F'⟩:=F.move I'.frmem k1 k3 k4;have nL:∀b o,s.heap.get? b=some o->b∉eC outer->b∉eC (envOfC qual scope s.heap.objs.size f cdv::outer):=λb o q hb z=>by
  rcases mem_cons.mp (show b∈s.heap.objs.size::eC outer from z) with z | z
  ·exact absurd (ybv q) (by rw[z];exact lt_irrefl _)
  ·exact hb z
 have no:∀b:Addr,b∉(dL (ph P w) P w K mg base N qual scope f cdv A outer s H E).ex:=λb y=>nomatch y;have back:∀b,s2.heap.get? b=none->s.heap.get? b=none:=λb q=>by
  cases z:s.heap.get? b with
  | none=>rfl
  | some o=>
    obtain⟨o',e'⟩:=I.base.there b o z (no b);rw[q] at e';cases e'
 have tl:aR H H':=⟨λb xs q=>F.un.tups b xs (I.base.tups b xs q),λb o u q=>F.un.frzs b o _ (I.base.frzs b o _ q)⟩;refine⟨a,T',C,H',rfl,os.trans I.os,bare,⟨⟨λb o q n hb hx=>?_,λb o q n hb hx=>?_,λb o q n hx=>?_,λb o q hx=>?_,λb xs q=>F.un.tups b xs (I.base.tups b xs q),λb o u q=>F.un.frzs b o u (I.base.frzs b o u q),λb ps q=>?_⟩,F'.hok,back a F'.na,back T' F'.nT,F'.ha,F'.hT,F'.tr⟩,hE C H' tl hw⟩
 ·exact F'.un.keep b o (I.base.keep b o q n hb (no b)) (I.base.free b o q n (no b)) (nL b o q hb) (by simp)
 ·obtain⟨sl,e1⟩:=I.base.slot b o q n hb (no b);obtain⟨sl2,e2⟩:=F'.un.slot b _ e1 (I.base.free b o q n (no b)) (ybx _ hb) (by simp);exact⟨sl2,e2⟩
 ·obtain⟨o',e'⟩:=I.base.there b o q (no b);exact F'.un.free b o' e' (I.base.free b o q n (no b)) (by simp)
 ·obtain⟨o',e'⟩:=I.base.there b o q (no b);exact F'.un.there b o' e' (by simp)
 ·obtain⟨m1,e1⟩:=I.base.tbls b ps q;obtain⟨m2,e2⟩:=F.un.tbls b _ e1;exact⟨m1++m2,by rw[e2,Array.append_assoc]⟩
end
section
variable {X:Cx} {π:List (Addr×Obj)} {σ:St} {H:Hp} {s:Shared}
theorem aF.big (I:aF X π σ H s):sysModules<s.heap.objs.size:=by
 have h:mainGlobals<s.heap.objs.size:=(I.mod.glob.keeps I.bk).lt;exact Nat.lt_trans (by decide) h
end
section
variable {prog:Program} {w:World} {A:Around} {E:yey} {s:Shared} {I l:Addr} {items:Array Value}
end
section
variable {X:Cx}
end
section
variable {X:Cx} {tg:Expr}
def Fa (i j:Int):Prop:=0<=j/\j<=1000/\i.natAbs<2^4000
def uf (i j:Int):Prop:=Ac i j∨Fa i j
abbrev Di:W2:=rW uf λi j=> .int (i^j.toNat)
theorem xn:iK X (binaryOp .Pow) (rI uf λi j=> .int (i^j.toNat)):=El λi j _ _ _ _ _ hc q=>by
 rcases hc with hc | ⟨h0,h1,h2⟩
 ·exact pow_int_small hc.1 hc.2.1 hc.2.2 q
 ·refine pow_int h0 ?_ q;have b1:=PyProof.Rows.intBits_le h2;have b2:(Builtin.Int.intBits i:Int)*j<=4000*1000:=Int.mul_le_mul (by lia) h1 h0 (by decide);have hb:(4000000:Int)<=bitsLine:=by decide
  first | lia | (simp[Builtin.Int.intTooBig];lia)
theorem ug:gY X (binaryOp .Pow) Di:=o5 xn
end
section
variable {X:Cx} {C:Addr} {th:WS} {x:Str} {p pos:Pos}
end
section
variable {X:Cx}
end
theorem iq:fillsNumberSlot (.type "tuple") "mul"=pure false:=
 PySem.fillsNumberSlot_seq (id:="tuple.__mul__") (r:=some (.builtin "tuple.__rmul__")) F.slot_tuple_mul.lookup (by decide+kernel) F.slot_tuple_rmul.lookup (by decide+kernel)
theorem lR:seqRepeat? (.type "tuple")=pure (some (.builtin "tuple.__mul__")):=by
 unfold seqRepeat?;rw[PySem.seqSlot_of (T:="tuple") (name:="__mul__") (id:="tuple.__mul__") F.slot_tuple_mul.lookup (by decide+kernel),PySem.seqSlot_of (T:="tuple") (name:="__rmul__") (id:="tuple.__rmul__") F.slot_tuple_rmul.lookup (by decide+kernel)]
 rfl
theorem jC (a:Int) (t:Tok) (l:Addr) (items:Array Value) (n:Nat) (dd:Option Addr) (sl:Array (Option Value)):
 Meets (Builtin.«int.__rmul__» ⟨[.int a t,.ref l],[]⟩) (λ_ R s=>s.heap.get? l=some { cls:= .type "tuple",dict:=dd,data:= .seq items n,slots:=sl }/\R (.ok (.ret Value.notImplemented)) s):=
 .of_wp λprog w A R s h=>by obtain⟨hp,g,d,tk,os⟩:=s;obtain⟨hl,h⟩:=h;wp_walk;exact⟨_,rfl,h⟩
theorem pq (l:Addr) (items:Array Value) (n:Nat) (dd:Option Addr) (sl:Array (Option Value)) (u:Tok):
 Meets (Builtin.«tuple.__mul__» ⟨[.ref l,.int 1 u],[]⟩) (λ_ R s=>s.heap.get? l=some { cls:= .type "tuple",dict:=dd,data:= .seq items n,slots:=sl }/\R (.ok (.ret (.ref l))) s):=
 .of_wp λprog w A R s h=>by
  obtain⟨hp,g,d,tk,os⟩:=s;obtain⟨hl,h⟩:=h
  wp_walk
  exact⟨_,rfl,h⟩
theorem pw (l:Addr) (items:Array Value) (n:Nat) (dd:Option Addr) (sl:Array (Option Value)) (x:Int) (u:Tok) (h0:items.isEmpty=false) (h1:(x==1)=false) (h2:0<x) (hf:(decide (x< -(2^63))||decide (x≥2^63))=false) (hm:decide ((items.size:Int)*x > (2^63-1)/8)=false) (ht:Builtin.Tuple.tupleTooMany ((items.size:Int)*x)=false) (hsz:((List.replicate x.toNat items).foldl (·++ ·) #[]).size<=sizeLine):
 Meets (Builtin.«tuple.__mul__» ⟨[.ref l,.int x u],[]⟩) (λ_ R s=>s.heap.get? l=some { cls:= .type "tuple",dict:=dd,data:= .seq items n,slots:=sl }/\R (.ok (.ret (.ref s.heap.objs.size))) { s with heap:=s.heap.push { cls:= .type "tuple",data:= .seq ((List.replicate x.toNat items).foldl (·++ ·) #[]) } }):=
 .of_wp λprog w A R s h=>by
  obtain⟨hp,g,d,tk,os⟩:=s;obtain⟨hl,h⟩:=h;have c1:(items.isEmpty||x==1)=false:=by rw[h0,h1];rfl
  have c2:(decide (x<=0)||items.isEmpty)=false:=by rw[h0,ydy (by lia)];rfl
  wp_walk
  refine wpAny_ite_false (by rw[hf];rfl) ?_
  wp_walk
  refine wpAny_ite_false hm ?_
  wp_walk
  exact⟨_,rfl,h⟩
theorem px (l:Addr) (items:Array Value) (n:Nat) (dd:Option Addr) (sl:Array (Option Value)) (u:Tok) (h0:items.isEmpty=false):
 Meets (Builtin.«tuple.__mul__» ⟨[.ref l,.int 0 u],[]⟩) (λ_ R s=>s.heap.get? l=some { cls:= .type "tuple",dict:=dd,data:= .seq items n,slots:=sl }/\R (.ok (.ret (.ref s.heap.objs.size))) { s with heap:=s.heap.push { cls:= .type "tuple",data:= .seq #[] } }):=
 .of_wp λprog w A R s h=>by
  obtain⟨hp,g,d,tk,os⟩:=s;obtain⟨hl,h⟩:=h;have c1:(items.isEmpty||(0:Int)==1)=false:=by rw[h0];rfl
  wp_walk
  exact⟨_,rfl,h⟩
section
variable {X:Cx}
def Dj (K:yav):R2:=λx y H Q=>∃a k xs,x=.ref a/\y=.int k/\cY K H a xs/\xs≠[]/\0<=k/\k<=100000/\xs.length*k.toNat<=sizeLine/\
 (k=1->Q (.ref a) H)/\(k≠1->∀p,H p=none->Q (.ref p) (upd H p (.tup (List.replicate k.toNat xs).flatten)))
theorem xo:iK X (binaryOp .Mult) (Dj X.K):=by
 intro π s σ H x y v u Q I rx ry h;obtain⟨a,k,xs,rfl,rfl,ha,hx,h0,h1,hz,q1,q2⟩:=h;cases rx;obtain⟨t,rfl⟩:=ry;obtain⟨its,r1,p1,_⟩:=I.tuple ha;have hl:=r1.length;obtain⟨⟨cls,dd,data,sl⟩,ho,hc,n,hd⟩:=id p1;simp only at hc hd;subst hc hd;have he:its.toArray.isEmpty=false:=by
  cases its with
  | nil=>exact absurd (r1.nil_iff.mp rfl) hx
  | cons _ _=>rfl
 refine wpAny_binaryOp_repeat_ref (T:="tuple") (U:="int") (by decide) ⟨_,ho,rfl⟩ (λs'=>typeIs_int s' k t) iq F.fills_int_mul F.slot_int_rmul lR F.slot_int_index.lookup
  (call_meets F.slot_int_rmul (typeIs_int s k t) F.entry_int_rmul (F.args_int_rmul_2 _ _) (jC k t a its.toArray n dd sl) ⟨ho,rfl,⟨_,ho,rfl⟩,?_⟩)
 by_cases hk1:k=1
 ·subst hk1;exact call_meets F.slot_tuple_mul ⟨_,ho,rfl⟩ F.entry_tuple_mul (F.args_tuple_mul_2 _ _) (pq a its.toArray n dd sl t) ⟨ho,⟨.ref a,H,I,rfl,q1 rfl⟩⟩
 ·by_cases hk0:k=0
  ·subst hk0;refine call_meets F.slot_tuple_mul ⟨_,ho,rfl⟩ F.entry_tuple_mul (F.args_tuple_mul_2 _ _) (px a its.toArray n dd sl t he) ⟨ho,?_⟩;refine⟨.ref s.heap.objs.size,_,I.laid (t':=s.toks) (o:= .tup []) (λb ob q=>ybz _ q) (ycx _) ?_,rfl,q2 (by decide) _ (I.hok.fresh (ycx _))⟩;exact⟨zero_le _,[],.nil,IsTup.new _ _⟩
  ·have hsz:(its.toArray.size:Int)*k<=(sizeLine:Int):=by
    rw[size_toArray,←hl,←Int.toNat_of_nonneg h0]
    exact_mod_cast hz
   have hnew:List.foldl (λx1 x2=>x1++x2) #[] (List.replicate k.toNat its.toArray)=(List.replicate k.toNat its).flatten.toArray:=by
    have:=ic its k.toNat [];rw[nil_append] at this;exact this
   refine call_meets F.slot_tuple_mul ⟨_,ho,rfl⟩ F.entry_tuple_mul (F.args_tuple_mul_2 _ _) (pw a its.toArray n dd sl k t he (by simpa using hk1) (by lia) ?_ ?_ ?_ ?_) ⟨ho,?_⟩
   ·rw[ydy (by lia),ydy (by lia)];rfl
   ·refine ydy (Int.not_lt.mpr (ydv hsz ?_));decide
   ·unfold Builtin.Tuple.tupleTooMany;exact ydy (Int.not_lt.mpr hsz)
   ·rw[hnew,size_toArray,jd,Nat.mul_comm,←hl];exact hz
   ·rw[hnew];refine⟨.ref s.heap.objs.size,_,I.laid (t':=s.toks) (o:= .tup (List.replicate k.toNat xs).flatten) (λb ob q=>ybz _ q) (ycx _) ?_,rfl,q2 hk1 _ (I.hok.fresh (ycx _))⟩;exact⟨by rw[jd,Nat.mul_comm];exact hz,_,r1.rep k.toNat,IsTup.new _ _⟩
end
section
variable {X:Cx}
end
abbrev xq:=Addr->cV->Gp->Prop
def XP (X:Cx) (π:List (Addr×Obj)) (H:Hp) (ex:xq) (e:Value) (s':Shared):Prop:=
 ∃a T C H0 s0 σ H' τ G,e=.ref a/\aF X π σ H0 s0/\Fl X.prog X.w (eC X.stack) H0 H' s0.heap s'.heap a T (.ref C) .none/\s'.os=s0.os/\AllBare s'.gens/\aR H H'/\bu X.K H' τ σ/\aP X.K H' G/\ex C τ G
def QY (X:Cx) (st:Stmt) (t:xq->WS):Prop:=
 ∀(ex:xq) (π:List (Addr×Obj)) (s:Shared) (σ:St) (H:Hp) (D:fH),aF X π σ H s->LS X.K (t ex) D σ H->wpAny (model X.prog X.w) X.A (exec st X.env) (SP X π D) (XP X π H ex) s
def GM (X:Cx) (st:List Stmt) (t:xq->WS):Prop:=
 ∀(ex:xq) (π:List (Addr×Obj)) (s:Shared) (σ:St) (H:Hp) (D:fH),aF X π σ H s->LS X.K (t ex) D σ H->wpAny (model X.prog X.w) X.A (execs st X.env) (SP X π D) (XP X π H ex) s
section
variable {X:Cx} {x:Str} {p pos:Pos}
theorem xt {t:xq->WS} (h:QY X st t):GM X [st] t:=by
 intro ex π s σ H D I hl;refine wpAny_execs_cons (bU (h ex π s σ H D I hl) λf s1 q=>?_);cases f with
 | next=>exact wpAny_execs_nil q
 | ret v=>exact q
 | brk=>exact q
 | cont=>exact q
def uh (i:Nat) (sp:bS) (dws:List W) (t:WA):xq->WS:=λex d τ G=>t τ G λws G1=>sp (ws++dws) G1 (λv G2=>d.nx (τ.set i (some v)) G2) λc G2=>∀C,c=.ref C->ex C τ G2
theorem AL (i:Nat) {y:Str} {sp:bS} {dws:List W} {t:WA} {cpos epos ypos:Pos} (hnx:∀e s,¬X.xe e s)
 (hN:X.N.Nodup) (hi:X.N[i]?=some y) (hy:wj X.env.scope y)
 (F:Rx X.prog X.w X.K X.mg X.base x ps k sp dws) (hr:aB k X.A) (hg:Gl X x) (ha:QA X (e::es) t) (hdb:(x==("__debug__":Str))=false:=by decide)
 (he:starEach (e::es) X.env=(false,eval e X.env)::starEach es X.env:=by rfl) (hpl:(backTo cpos (starEach es X.env)).any (·.1)=false:=by rfl) (hsw:swapsWith (.Call (.Name x p) (e::es) [] cpos) (some (.Name y ypos)) epos.line X.env=pure false:=by rfl)
 (hf:X.fn y=true∨X.env.scope.names.lookup y=some .local:=by first | exact .inl rfl | exact .inr rfl | assumption):
 QY X (.Assign [.Name y ypos] (.Call (.Name x p) (e::es) [] cpos) epos) (uh i sp dws t):=by
 rintro ex π s σ H D I ⟨τ,G,d,rs,rg,ht,l⟩;obtain⟨f,fd,ds,dvs,F,hm,hk,hb,hd,hrep⟩:=F;refine wpAny_Assign_Name (wpAny_Call_Name_kw (fq I hg hm ?_ hdb)) hsw;have go:=ha cpos π s σ H (λvs H1=>wm X.K sp (vs++dvs) H1 (λv H2=>D.nx (σ.set i (some v)) H2) λc _ H2=>∀C,c=.ref C->aR H H2/\∃G2,bu X.K H2 τ σ/\aP X.K H2 G2/\ex C τ G2) I ⟨τ,G,_,rs,rg,ht,λvs H1 ws G1 t1 r1 g1 q1=>
  ⟨ws++dws,G1,_,_,r1.append (hrep H1),g1,q1,λv H2 w G2 t2 r2 g2 q2=>l.nx _ H2 _ G2 (t1.trans t2) ((rs.mono (t1.trans t2)).set r2 i) g2 q2,
    λc dd H2 G2 t2 g2 q2 C ec=>⟨t1.trans t2,G2,rs.mono (t1.trans t2),g2,q2 C ec⟩⟩⟩
 refine callWith_K (h₀:=X.base) I.ok.mod.kin hk (wpAny_mono go (λus s1 h1=>?_) λe s1 z=>(hnx e s1 z).elim) he hpl;obtain⟨vs,H1,I1,r,q⟩:=h1;refine⟨I1.kIn,?_⟩;have r2:aU (vs++dvs) (us++ds):=r.append hd;have hl:(us++ds).length=ps.length:=by rw[←r2.length];exact F.len _ _ _ _ q
 refine wpAny_call (codeAny_mono (F.run X.A X.stack s1 H1 ⟨us,[]⟩ (us++ds) (vs++dvs) _ _ hr I1.env0 (hb s1 us I1.kIn hl) r2 q) λr s' hq=>?_);cases r with
 | ok fl=>
   cases fl with
   | ret u=>
     obtain⟨v,H',I',rv,q'⟩:=I1.after hq;exact jk I' hN hi hy rv (λs2 I2=>⟨_,H',I2,q'⟩) hf
   | next=>exact False.elim hq
   | brk=>exact False.elim hq
   | cont=>exact False.elim hq
 | error e=>
   obtain⟨a,T,C',H',rfl,os,bare,F1,hx⟩:=hq;obtain⟨tl,G2,rs2,rg2,hx⟩:=hx C' rfl;exact⟨a,T,C',H1,s1,σ,H',τ,G2,rfl,I1,F1,os,bare,tl,rs2,rg2,hx⟩
def zc (t:xq->WS) (cs:List (Addr×WS)):WS:=λd τ G=>t (λC τ1 G1=>∃th,(C,th)∈cs/\th d τ1 G1) d τ G
theorem xu {h0:ExceptHandler} {hs:List ExceptHandler} {t:xq->WS} {cs:List (Addr×WS)} (hst:X.stack=X.env::X.outer) (hfr:X.env.frame=some X.env.locals) (hb:GM X body t) (hh:∀c,c∈cs->QH X c.1 (h0::hs) c.2):
 QS X (.Try body (h0::hs) [] [] pos) (zc t cs):=by
 rintro π s σ H D I ⟨τ,G,d,rs,rg,ht,l⟩;refine wpAny_Try_except (wpAny_mono (hb _ π s σ H D I ⟨τ,G,d,rs,rg,ht,l⟩) (λf s1 q=>?_) λe s' hx=>?_)
 ·cases f with
  | next=>exact wpAny_execs_nil q
  | ret v=>exact q
  | brk=>exact q
  | cont=>exact q
 ·obtain⟨a,T,C,H1,s1,σ1,H',τ1,G1,rfl,I1,F1,os,bare,tl,rs1,rg1,th,hc,hx⟩:=hx;have I':=F1.inv I1 os bare;obtain⟨a0,tr⟩:=F1.traced;refine wpAny_noteFrame_onW (base:=hideAll s'.heap (a::T::eC X.stack)) (outer:=X.outer) (by rw[←hst];exact I'.ok.frames) (by rw[←hst];exact ff I'.stack λb z=> .tail _ (.tail _ z)) hfr tr (λb o q=>of_hideAll _ q) (hideAll_none _ (.head _)) λh2 N2=>?_;obtain⟨k1,_,k3,k4⟩:=N2;obtain⟨T2,F2⟩:=F1.move I'.frmem k1 k3 k4;refine Fl.lands (s:={ s' with heap:=h2 }) F2 I1 os bare λh3 T3 F3=>?_;exact hh _ hc π s1 σ1 H1 { s' with heap:=h3 } H' a T3 D I1 F3 os bare ⟨τ1,G1,d,rs1,rg1,hx,l.mono tl⟩
theorem xv {hs:List ExceptHandler}:∀c:Addr×WS,c∈([]:List (Addr×WS))->QH X c.1 hs c.2:=λ_ h=>nomatch h
theorem ui {hs:List ExceptHandler} {C:Addr} {th:WS} {cs:List (Addr×WS)} (h1:QH X C hs th) (h2:∀c:Addr×WS,c∈cs->QH X c.1 hs c.2):∀c:Addr×WS,c∈(C,th)::cs->QH X c.1 hs c.2:=λc h=>by
 rcases mem_cons.mp h with z | z
 ·rw[z];exact h1
 ·exact h2 c z
end
theorem slot_rv_next:Slot "reversed" "__next__" "reversed.__next__":=
 .of (owner:="reversed") (n:="__next__") (by rw[typeLookup_type,builtinLookup_eq_fast];kernel_rfl) (by decide+kernel) (by decide+kernel) (by decide+kernel)
  (by first | exact .inl (by decide+kernel) | exact .inr (by decide+kernel)) (by rw[isSubtype_type];kernel_rfl)
theorem fM:entryFor table "reversed.__next__"=some Builtin.«reversed.__next__»:=entryFor_of_tree (by kernel_rfl)
theorem gJ (a:Value):argsOk "reversed.__next__" ⟨[a],[]⟩:=by unfold argsOk;kernel_rfl
theorem gK:Slot "reversed" "__iter__" "reversed.__iter__":=
 .of (owner:="reversed") (n:="__iter__") (by rw[typeLookup_type,builtinLookup_eq_fast];kernel_rfl) (by decide+kernel) (by decide+kernel) (by decide+kernel)
  (by first | exact .inl (by decide+kernel) | exact .inr (by decide+kernel)) (by rw[isSubtype_type];kernel_rfl)
theorem lS (a:Value):argsOk "reversed.__iter__" ⟨[a],[]⟩:=by unfold argsOk;kernel_rfl
theorem km:entryFor table "reversed.__iter__"=some Builtin.«dict_keyiterator.__iter__»:=
 entryFor_alias (id':="dict_keyiterator.__iter__") (by kernel_rfl) (by first | rfl | decide+kernel | (unfold String.splitOn;simp+decide [String.splitOnAux])) (by decide+kernel) (by kernel_rfl)
theorem lT:Slot "reversed" "__init__" "object.__init__":=
 .of (owner:="object") (n:="__init__") (by rw[typeLookup_type,builtinLookup_eq_fast];kernel_rfl) (by decide+kernel) (by decide+kernel) (by decide+kernel)
  (by first | exact .inl (by decide+kernel) | exact .inr (by decide+kernel)) (by rw[isSubtype_type];kernel_rfl)
theorem r9:TypeCalled "reversed" "reversed.__new__" "object.__init__":=
 ⟨by decide+kernel,by decide+kernel,⟨_,_,F.mro_reversed⟩,F.made_reversed,by decide+kernel,by rw[isSubtype_type];kernel_rfl,lT⟩
theorem sd:typeLookup (.type "tuple") "__reversed__"=pure none:=by (rw[typeLookup_type,builtinLookup_eq_fast]);kernel_rfl
theorem pz:isSubtype (.type "tuple") (.type "dict")=pure false:=by rw[isSubtype_type];kernel_rfl
noncomputable def qt (a:Addr) (i:Int):Obj:={ cls:= .type "reversed",data:= .fields #[.ref a,rawInt i] }
def ir (h:Heap) (it a:Addr) (i:Int):Prop:=∃o,h.get? it=some o/\o.cls=.type "reversed"/\o.data=.fields #[.ref a,rawInt i]
theorem ir.at {h h':Heap} {it a:Addr} {i:Int} (x:ir h it a i) (e:∀o,h.get? it=some o->h'.get? it=some o):ir h' it a i:=let ⟨o,ho,r⟩:=x;⟨o,e _ ho,r⟩
theorem kn {i n:Nat} (h:i<n):seqIndex? (i:Int) n=some i:=by
 unfold seqIndex?;have h0:¬((i:Int)<0):=by lia
 have h1:(0:Int)<=(i:Int):=by lia
 have h2:(i:Int)<(n:Int):=by lia
 simp only[h0,if_false,h1,h2,decide_true,Bool.and_true,if_true,Int.toNat_natCast]
section
variable {prog:Program} {w:World} {A:Around} {E:yey} {s:Shared}
theorem ir.typeIs {it a:Addr} {i:Int} (x:ir s.heap it a i):s.TypeIs (.ref it) "reversed":=let ⟨o,ho,hc,_⟩:=x;⟨o,ho,hc⟩
theorem fI {l:Addr} (hl:IsTup s.heap l items) (hfit:(items.size:Int)<2^63)
 (h:∀tk,Q (.ref s.heap.objs.size) { s with heap:=s.heap.push (qt l ((items.size:Int)-1)),toks:=tk }):wpAny (model prog w) A (call (.type "reversed") [.ref l]) Q E s:=by
 refine callType_new r9 (by decide) (F.typeCall_reversed_1 _) (F.newCall_reversed_1 _) (λobj=>F.args_object_init_2 obj _) F.entry_reversed_new
  (S:=λA R s1=>s1=s/\∀tk,R (.ok (.ret (.ref s.heap.objs.size))) { s with heap:=s.heap.push (qt l ((items.size:Int)-1)),toks:=tk }) ?_ ⟨rfl,λtk=>⟨⟨_,ybw _ rfl,rfl⟩,h tk⟩⟩
 refine .of_wp λprog w A R s1 hs=>?_;obtain⟨rfl,hs⟩:=hs;unfold Builtin.«reversed.__new__»;refine wax (wpAny_of_eq (newClass_reversed _) ?_)
 try dsimp only
 refine wax (wpAny_of_eq (a:=()) (by first | rfl | kernel_rfl) ?_);refine wax (wpAny_of_eq (a:=()) (by first | rfl | kernel_rfl) ?_)
 try dsimp only
 refine wax (wpAny_specialOf hl.typeIs sd ?_)
 try dsimp only
 k_delta "hasItemSlot"
 refine wax (wax (wpAny_isInstance hl.typeIs pz ?_));simp only[Bool.false_eq_true,if_false];refine wax (wpAny_specialOf hl.typeIs slot_tuple_getitem.lookup ?_)
 try dsimp only
 rw[ycv (by decide)];refine way ?_;simp only[Bool.not_true,Bool.false_eq_true,if_false];refine wax (len_tuple hl hfit ?_);refine wax (wpAny_of_eq (a:=some (items.size:Int)) rfl ?_)
 try dsimp only
 unfold Builtin.SmallTypes.newRecord;refine wax (wpAny_newObj_type (way ⟨_,rfl,?_⟩));exact hs _
theorem kO {it l:Addr} {i:Int} (hit:ir s.heap it l i) (h:Q (.ref it) s):wpAny (model prog w) A (pyIter (.ref it)) Q E s:=by
 refine wpAny_pyIter_slot hit.typeIs gK (wpAny_call_entry gK hit.typeIs km ?_ (lS _));show wpAny _ _ (ret (.ref it)) _ _ s;exact way ⟨_,rfl,"reversed",_,hit.typeIs,slot_rv_next.lookup,h⟩
theorem xw {it l:Addr} {x:Value} {Q:Option Value->Shared->Prop} (hit:ir s.heap it l (i:Int)) (hl:IsTup s.heap l items) (hi:(i:Int)<2^63) (hx:items[i]?=some x)
 (hQ:∀h' tk,ir h' it l ((i:Int)-1)->Heap.SameBut it s.heap h'->Q (some x) { s with heap:=h',toks:=tk }):wpAny (model prog w) A (pyNext (.ref it)) Q E s:=by
 obtain⟨o,ho,hc,hd⟩:=id hit;unfold pyNext;refine wax (wpAny_attempt (wpAny_callSpecial?_slot (name:=Str.ofString "__next__") hit.typeIs slot_rv_next
  (wpAny_call_entry slot_rv_next hit.typeIs fM ?_ (gJ _))))
 unfold Builtin.«reversed.__next__»;refine wax (wpAny_of_eq (a:=(Value.ref it,[])) rfl ?_)
 try dsimp only
 refine wax (wpAny_field ho hd (x:= .ref l) rfl ?_);refine wax (wpAny_field ho hd (x:=rawInt (i:Int)) rfl ?_);show wpAny _ _ (if (i:Int)<0 then _ else _) _ _ s;rw[ycw (by lia)];refine wax (wpAny_specialOf hl.typeIs slot_tuple_getitem.lookup ?_);simp only[Option.isNone_some,Bool.false_eq_true,if_false];refine wax (wpAny_mkInt ?_);have hz:i<items.size:=by
  rcases lt_or_ge i items.size with h | h
  ·exact h
  ·rw[Array.getElem?_eq_none h] at hx;cases hx
 have hl':IsTup ({ s with toks:=s.toks+1 }:Shared).heap l items:=hl;refine wax (wpAny_attempt (getItem_tuple (s:={ s with toks:=s.toks+1 }) hl' (by lia) hi (kn hz) hx ?_))
 try dsimp only
 refine wax (wpAny_field (s:={ s with toks:=s.toks+1 }) ho hd (x:=rawInt (i:Int)) rfl ?_);refine wax (wpAny_setField (s:={ s with toks:=s.toks+1 }) ho hd (by simp) ?_);refine way ⟨x,rfl,way (hQ _ _ ?_ (Heap.SameBut.update ..))⟩;exact⟨_,Heap.get?_update_self _ ho (Obj.isFreed_of_fields (Obj.data_mapFields hd _)),(Obj.cls_mapFields ..).trans hc,by
  rw[Obj.data_mapFields hd];simp⟩
theorem nz {it l:Addr} {Q:Option Value->Shared->Prop} (hh:A.handled=none) (hit:ir s.heap it l (-1))
 (hQ:∀h',Heap.ExtBut it s.heap h'->Q none { s with heap:=h' }):wpAny (model prog w) A (pyNext (.ref it)) Q E s:=by
 obtain⟨o,ho,hc,hd⟩:=id hit;unfold pyNext;refine wax (wpAny_attempt (wpAny_callSpecial?_slot (name:=Str.ofString "__next__") hit.typeIs slot_rv_next
  (wpAny_call_entry slot_rv_next hit.typeIs fM ?_ (gJ _))))
 unfold Builtin.«reversed.__next__»;refine wax (wpAny_of_eq (a:=(Value.ref it,[])) rfl ?_)
 try dsimp only
 refine wax (wpAny_field ho hd (x:= .ref l) rfl ?_);refine wax (wpAny_field ho hd (x:=rawInt (-1)) rfl ?_);show wpAny _ _ (if (-1:Int)<0 then _ else _) _ _ s;rw[ycv (by decide)];refine wax (wpAny_rule ?_)
 k_delta "reversedEnd"
 refine wax (wax (wpAny_setField ho hd (by simp) ?_));have ho1:=Heap.get?_update_self (h:=s.heap) (λo:Obj=>o.mapFields λvs=>vs.set! 1 (rawInt (-1))) ho (Obj.isFreed_of_fields (Obj.data_mapFields hd _));refine wpAny_setField ho1 (Obj.data_mapFields hd _) (by simp) ?_;unfold Builtin.SmallTypes.stopIteration;refine wax ?_
 first
 | show wpAny _ _ (newExc (.type "StopIteration") [] >>= _) _ _ _
 | (refine wax ?_;show wpAny _ _ (newExc (.type "StopIteration") [] >>= _) _ _ _)
 refine wax ?_;simp only[newExc,newTuple];refine wax (wpAny_newObj_type ?_ (by size_fits));refine wax (m:=firstArgMember _ _) (wpAny_of_eq (a:=Value.none) (by first | rfl | (simp only[firstArgMember];rfl)) ?_);refine wpAny_newObj_type ?_ (by size_fits);simp only[raiseNew];refine wax (wpAny_handled ?_)
 first | rw[show A.in1.handled=none from hh] | rw[hh]
 refine wax (way (wpAny_throw ?_));refine wax (wpAny_isInstance (T:="StopIteration") (b:=true) ⟨_,ybw _ rfl,rfl⟩ isSubtype_stop ?_);refine way (hQ _ ((Heap.ExtBut.push (Heap.ExtBut.push ?_ _) _)));exact λb o hb e=>((Heap.SameBut.update _ _ _).2 b hb).trans (((Heap.SameBut.update _ _ _).2 b hb).trans e)
end
noncomputable def GN (K:yav) (a:Addr) (n:Nat):It:=
 ⟨λi H=>∃xs x,cY K H a xs/\xs.length=n/\i<n/\xs[n-1-i]?=some x,λi H x H'=>H'=H/\∀xs,cY K H a xs->xs[n-1-i]?=some x,λi H=>∃xs,cY K H a xs/\xs.length=n/\n<=i⟩
theorem xx {tg:Expr} (a it:Addr) (n:Nat) (hn:(n:Int)<2^63):jl P w K tg (GN K a n) [it] it (λi h=>i<=n/\ir h it a ((n:Int)-1- (i:Int))) where
 mem:=by simp
 obj:=λi h st b hb=>by
  have e:b=it:=by simpa using hb
  subst e;obtain⟨_,o,e,c,d⟩:=st;exact⟨o,e,λv z=>by rw[d] at z;cases z⟩
 keep:=λi h h' st k=>⟨st.1,st.2.at λo e=>k it (by simp) o e⟩
 item:=by
  intro X hP hw hK hc i π s σ H E I hf st hg;subst hP hw hK;obtain⟨xs,x,hq,hl,hi,hx⟩:=hg;obtain⟨its,rv,p,hz⟩:=I.tuple hq;obtain⟨u,hu,ru⟩:=rv.get hx;obtain⟨f0,f1,f2,f3,f4,f5⟩:=hf it (by simp);have st1:ir s.heap it a ((n-1-i:Nat):Int):=by have:=st.2;rw[show(n:Int)-1- (i:Int)=((n-1-i:Nat):Int) by lia] at this;exact this
  refine xw st1 p (by lia) (x:=u) (by simpa using hu) λh' tk st' sb=>?_;have I1:aF X π σ H { s with heap:=h',toks:=tk }:=I.turned (t':=tk) (λb o hb e=>(sb.2 b hb).trans e) f0 f1 f3 f4 f5;obtain⟨o,e,c,d⟩:=id st';exact⟨u,rfl,jm (s:={ s with heap:=h',toks:=tk }) e c d (by decide) ⟨x,H,I1,ru,⟨rfl,λys hy=>by rw[I.tuple_inj hy hq];exact hx⟩,⟨by assumption,by rw[show(n:Int)-1- ((i+1:Nat):Int)=((n-1-i:Nat):Int)-1 by lia];exact st'⟩,λb hb=>(hf b hb).1⟩⟩
 done:=by
  intro X hP hw hK hc i π s σ H E I hf st hg;subst hP hw hK;obtain⟨xs,hq,hl,hi⟩:=hg;obtain⟨f0,f1,f2,f3,f4,f5⟩:=hf it (by simp);have st1:ir s.heap it a (-1):=by have:=st.2;rw[show(n:Int)-1- (i:Int)= -1 by have:=st.1;lia] at this;exact this
  exact nz (I.ok.hd hc) st1 λh' eb=>⟨rfl,I.turned (t':=s.toks) (λb o hb e=>eb b o hb e) f0 f1 f3 f4 f5⟩
 self:=λ_ _ _ _ _ st h=>kO st.2 h
theorem AM {ws:List W} {xs:List V} {H:Hp} (h:H a=some (.tup xs)) (r:aS K H ws xs):oH K (GN K a xs.length) ws.reverse (λ_=>True) H where
 stop:=λi H1 G t g _ hl=>⟨xs,cY.of (t.tup _ _ h),rfl,by rw[←r.length];simpa using hl⟩
 go:=λi w H1 G t g _ e=>by
  have hl:=r.length;have hi:i<ws.length:=by
   rcases lt_or_ge i ws.length with z | z
   ·exact z
   ·rw[List.getElem?_eq_none (by simpa using z)] at e;cases e
  rw[List.getElem?_reverse hi] at e;obtain⟨v,e1,rv⟩:=r.get e;rw[hl] at e1;refine⟨⟨xs,v,cY.of (t.tup _ _ h),rfl,by lia,e1⟩,λx H' z9=>?_⟩;obtain⟨eH,hy⟩:=z9;subst eH;have e2:=hy xs (cY.of (t.tup _ _ h));rw[e1] at e2;cases e2;exact⟨aR.refl _,rv.mono t,g⟩
def Dk (ta:WA):WI:=λτ G r=>ta τ G λws G1=>match ws with
 | [.tup xs]=>r xs.reverse (λ_=>True) G1
 | _=>False
theorem qw:bootBuiltins "reversed"=some (.type "reversed"):=by decide+kernel
theorem AN {X:Cx} {tg a:Expr} {ta:WA} {p pos:Pos} (hg:Gl X "reversed") (hm:X.mg "reversed"=none) (ha:QA X [a] ta) (hs:starEach [a] X.env=[(false,eval a X.env)]:=by rfl):
 QI X tg (.Call (.Name "reversed" p) [a] [] pos) (Dk ta):=by
 rintro π s σ H R I ⟨τ,G,r,hτ,hG,ht,hR⟩;refine Call_ (eE I hg hm qw (PyProof.Rows.callWith_type1 (bU (ha pos π s σ H (λvs H1=>∃ws G1,aR H H1/\aS X.K H1 ws vs/\aP X.K H1 G1/\match ws with | [.tup xs]=>r xs.reverse (λ_=>True) G1 | _=>False) I ⟨τ,G,_,hτ,hG,ht,λvs H1 ws G1 t1 r1 g1 q1=>⟨ws,G1,t1,r1,g1,q1⟩⟩) λus s1 ⟨vs,H1,I1,ru,ws,G1,t1,r1,g1,q1⟩=>?_) (by rw[hs];rfl) (by rfl)));split at q1
 ·rename_i xs;cases r1 with
  | cons ra rn=>
    cases rn;cases ra with
    | @tup pa _ xs' ha' ra=>
      cases ru with
      | cons w1 wn=>
        cases wn;cases (show _=Value.ref pa from w1);obtain⟨its,rv,p1,hz⟩:=I1.tuple (cY.of ha');have hl:=rv.length;have hsz:xs'.length<=9223372036854775807:=by
         have:sizeLine<=9223372036854775807:=by decide
         lia
        refine fI p1 (by simp;lia) λtk=>?_;have st0:ir (s1.heap.push (qt pa ((its.toArray.size:Int)-1))) s1.heap.objs.size pa ((xs'.length:Int)-1- ((0:Nat):Int)):=⟨_,ybw _ rfl,rfl,by
         rw[show((xs'.length:Int)-1- ((0:Nat):Int))=(its.toArray.size:Int)-1 by simp;lia];rfl⟩
        refine kO (s:={ s1 with heap:=s1.heap.push (qt pa ((its.toArray.size:Int)-1)),toks:=tk }) st0 ?_;refine⟨s1.heap.objs.size,[s1.heap.objs.size],_,_,H1,rfl,I1.kept (t':=tk) λb o e=>ybz _ e,xx pa _ xs'.length (by lia),⟨zero_le _,st0⟩,λb hb=>?_,hR _ H1 _ _ G1 t1 g1 (AM ha' ra) q1⟩;have e:b=s1.heap.objs.size:=by simpa using hb
        subst e;exact I1.fpOk (ycx _) (I1.hok.fresh (ycx _))
 ·exact q1.elim
section
variable {prog:Program} {w:World} {A:Around} {E:yey} {s:Shared}
end
mutual
noncomputable def W.ge:W->W->Bool
 | .int i,.int j=>decide (i≥j)
 | .tup xs,.tup ys=>W.ges xs ys
 | _,_=>false
noncomputable def W.ges:List W->List W->Bool
 | [],[]=>true
 | [],_::_=>false
 | _::_,[]=>true
 | x::xs,y::ys=>if W.eq x y=true then W.ges xs ys else W.ge x y
end
def Fb (A:Around) (s:Shared) (y x:Value) (b:Bool):Prop:=
 ∀(prog:Program) (w:World) (E:yey) (Q:yey),Q (.bool b) s->wpAny (model prog w) A (richCompare .GtE y x) Q E s
inductive se (A:Around) (s:Shared):List Value->List Value->Bool->Prop where
 | nn:se A s [] [] true
 | nc {y:Value} {ys:yez}:se A s [] (y::ys) false
 | cn {x:Value} {xs:yez}:se A s (x::xs) [] true
 | eq {x y:Value} {xs ys:yez} {r:Bool} (h:SeqAt.EqAt A s x y true) (t:se A s xs ys r):se A s (x::xs) (y::ys) r
 | ne {x y:Value} {xs ys:yez} {r:Bool} (h:SeqAt.EqAt A s x y false) (t:Fb A s x y r):se A s (x::xs) (y::ys) r
section
open PySem.SeqAt
open PySem.AutoSeq1 (wpAny_loadPart')
open PySem.MeetsSeq PySem.MeetsSeq2 PySem.MeetsSeq3
end
section
variable {X:Cx} {π:List (Addr×Obj)} {σ:St} {H:Hp} {s:Shared}
end
section
variable {X:Cx}
def Fc:W2:=λx y G q=>match x,y with
 | .int i,.int j=>q (.bl (decide (i≥j))) G
 | .tup xs,.tup ys=>W.flats xs=true/\W.flats ys=true/\W.deps xs<=149/\W.ords xs ys=true/\q (.bl (W.ges xs ys)) G
 | _,_=>False
end
section
variable {X:Cx}
end
section
variable {prog:Program} {w:World} {A:Around} {E:yey} {h:Heap} {g:Array GenState} {d:Drawn} {t:Nat} {os:OsState} {a C:Addr} {o:Obj} {K:yav} {bm:yez}
end
section
variable {prog:Program} {w:World} {A:Around} {E:yey} {s:Shared} {a C D:Addr} {o:Obj} {K:yav} {bm:yez}
end
section
variable {X:Cx} {a:Addr} {oe:Obj} {C D:Addr} {bm:yez}
end
section
variable {prog:Program} {w:World} {A:Around} {E:yey} {s:Shared} {I l:Addr} {items:Array Value}
end
section
variable {X:Cx}
end
section
variable {X:Cx}
end
section
variable {X:Cx} {π:List (Addr×Obj)} {σ:St} {H0 H:Hp} {s0 s:Shared} {a T C D:Addr}
variable {bm bmD:yez} {x:Str} {p pos:Pos} {name:Option Str} {body:List Stmt} {bI:List ExceptHandler} {b0:Stmt} {th:WS}
end
structure Dl (k:Nat) (A:Around):Prop where
 dp:A.depth+3*k+5<recursionLimit
 un:A.units+16*k+200<cLine
structure HZ (P:Program) (w:World) (K:yav) (mg:yew) (base:Heap) (CX:oV) (k:Nat) (f:Addr) (fd:FuncData) (ps:List Str) (sp:Sp):Prop where
 len:∀vs H Q E,sp vs H Q E->vs.length=ps.length
 run:∀(A:Around) (outer:List Env) (s:Shared) (H:Hp) (args:Args) (us:yez) (vs:List V) (Q:VK) (E:XK),Dl k A->mQ P w K mg base A outer s H->BindsTo s fd args (ps.zip us)->aU vs us->sp vs H Q E->
  codeAny (model P w) A (.call (.ref f) args) (CR CX outer P w H s Q E) s
section
variable {X:Cx}
end
section
variable {P:Program} {w:World} {K:yav} {mg:yew} {base:Heap} {k:Nat} {f:Addr} {fd:FuncData} {ps:List Str} {sp sp':bS}
theorem cf.toR (F:cf P w K mg base k f fd ps sp):xj P w K mg base k f fd ps sp:=by
 refine⟨F.len,λA outer s H args us vs Q E hr he hb hv hs=>?_⟩;refine codeAny_mono (F.run A outer s H args us vs Q E hr he hb hv hs) λr s' hq=>?_;cases r with
 | ok fl=>
   cases fl with
   | ret u=>exact hq
   | next=>exact hq
   | brk=>exact hq
   | cont=>exact hq
 | error e=>exact False.elim hq
end
theorem aR.ins {H:Hp} {p C dx:Addr} {fs:List (Str×V)} (hp:H p=some (.ins C dx fs)) (o:HO):aR H (upd H p o):=
 ⟨λ_ _ h=>by rw[aH (fJ h hp (by intro z;cases z))];exact h,λ_ _ _ h=>by rw[aH (fJ h hp (by intro z;cases z))];exact h⟩
noncomputable def nA (f:Str) (v:W):List (Str×W)->List (Str×W)
 | []=>[(f,v)]
 | (g,x)::r=>if g=f then (g,v)::r else (g,x)::nA f v r
section
variable {K:yav} {H:Hp}
theorem iS {f:Str} {w:W}:∀{fs:List (Str×W)} {fs':List (Str×V)},fs'.map (·.1)=fs.map (·.1)->aS K H (fs.map (·.2)) (fs'.map (·.2))->fs.lookup f=some w->∃v,fs'.lookup f=some v/\bK K H w v
 | [],_,_,_,e=>by cases e
 | (g,x)::r,[],n,_,_=>by cases n
 | (g,x)::r,(g',x')::r',n,rs,e=>by
   rw[map_cons,map_cons,List.cons.injEq] at n;obtain⟨n1,n2⟩:=n;have n1:g'=g:=n1;subst n1;cases rs with
   | cons r1 r2=>
     rw[lookup_cons] at e ⊢;cases h:f==g' with
     | true=>rw[h] at e;cases e;exact⟨x',rfl,r1⟩
     | false=>rw[h] at e;exact iS n2 r2 e
theorem fw {f:Str}:∀{fs:List (Str×W)} {fs':List (Str×V)},fs'.map (·.1)=fs.map (·.1)->fs.lookup f=none->fs'.lookup f=none
 | [],[],_,_=>rfl
 | [],_::_,n,_=>by cases n
 | _::_,[],n,_=>by cases n
 | (g,x)::r,(g',x')::r',n,e=>by
   rw[map_cons,map_cons,List.cons.injEq] at n;obtain⟨n1,n2⟩:=n;have n1:g'=g:=n1;subst n1;rw[lookup_cons] at e ⊢;cases h:f==g' with
   | true=>rw[h] at e;cases e
   | false=>rw[h] at e;exact fw n2 e
theorem nB {f:Str} {w:W} {v:V} (rv:bK K H w v):∀{fs:List (Str×W)} {fs':List (Str×V)},fs'.map (·.1)=fs.map (·.1)->aS K H (fs.map (·.2)) (fs'.map (·.2))->(d9 f v fs').map (·.1)=(nA f w fs).map (·.1)/\aS K H ((nA f w fs).map (·.2)) ((d9 f v fs').map (·.2))/\(nA f w fs).length<=fs.length+1
 | [],[],_,_=>⟨rfl,.cons rv .nil,ycx _⟩
 | [],_::_,n,_=>by cases n
 | _::_,[],n,_=>by cases n
 | (g,x)::r,(g',x')::r',n,rs=>by
   rw[map_cons,map_cons,List.cons.injEq] at n;obtain⟨n1,n2⟩:=n;have n1:g'=g:=n1;subst n1;cases rs with
   | cons r1 r2=>
     obtain⟨a1,a2,a3⟩:=nB (f:=f) rv n2 r2;unfold d9 nA
     by_cases h:g'=f
     ·rw[ycv h,ycv h];refine⟨?_,.cons rv r2,by simp⟩;rw[map_cons,map_cons,n2]
     ·rw[ycw h,ycw h];refine⟨?_,.cons r1 a2,by simp;assumption⟩;rw[map_cons,map_cons,a1]
end
section
variable {X:Cx}
def Dm (K:yav) (to:WE) (f:Str):WE:=λτ G q=>to τ G λx G1=>∃a C fs v,x=.ref a/\G1 a=some (.ins C fs)/\(dr K C/\aD K C f)/\fs.lookup f=some v/\q v G1
theorem bn {o:Expr} {to:WE} {f:Str} (ho:QE X o to) (hb:attributeBase o f X.env (eval o X.env)=eval o X.env:=by rfl):QE X (.Attribute o f pos) (Dm X.K to f):=
 (Aj ho hb).imp λσ H Q z0=>z0.el λτ G q hs hg ht hQ=>⟨τ,G,_,hs,hg,ht,λv H1 w G1 t1 r1 g1 q1=>by
   obtain⟨a,C,fs,v',rfl,hG,hc,hl,q1⟩:=q1;cases r1;obtain⟨_,dx,fs',hH,hn,hr⟩:=g1 a _ hG;obtain⟨v2,hv2,rv2⟩:=iS hn hr hl;exact⟨a,C,dx,fs',v2,rfl,hH,hc.1,hc.2,hv2,hQ v2 H1 v' G1 t1 rv2 g1 q1⟩⟩
def zd (K:yav) (to te:WE) (f:Str):WS:=λd τ G=>te τ G λy G1=>to τ G1 λx G2=>∃a C fs,x=.ref a/\G2 a=some (.ins C fs)/\(dr K C/\aD K C f)/\fs.length<100/\d.nx τ (aw G2 a (.ins C (nA f y fs)))
theorem cm {o e:Expr} {to te:WE} {f:Str} {pos pos':Pos} (ho:QE X o to) (he:QE X e te) (hs:swapsWith e (some (.Attribute o f pos')) pos.line X.env=pure false:=by rfl):QS X (.Assign [.Attribute o f pos'] e pos) (zd X.K to te f):=
 (Ak ho he hs).imp λD σ H z0=>z0.el λτ G d rs rg ht l=>⟨τ,G,_,rs,rg,ht,λy H1 w G1 t1 r1 g1 q1=>⟨τ,G1,_,rs.mono t1,g1,q1,λv H2 w2 G2 t2 r2 g2 q2=>by
   obtain⟨a,C,fs,rfl,hG,hc,hlen,q2⟩:=q2;cases r2;obtain⟨_,dx,fs',hH,hn,hr⟩:=g2 a _ hG;obtain⟨a1,a2,a3⟩:=nB (f:=f) (r1.mono t2) hn hr;have tl:=aR.ins hH (.ins C dx (d9 f y fs'));have hlen':fs'.length=fs.length:=by simpa using congrArg List.length hn
   refine⟨a,C,dx,fs',rfl,hH,hc.1,hc.2,by lia,l.nx σ _ τ _ ((t1.trans t2).trans tl) (((rs.mono t1).mono t2).mono tl) (g2.lay (g:= .ins C (nA f w fs)) tl ⟨by lia,dx,_,aZ,a1,a2.mono tl⟩) q2⟩⟩⟩
def qy (C:Addr) (sp:bS) (dws:List W) (t:WA):WE:=λτ G q=>t τ G λws G1=>∀p,G1 p=none->sp (.ref p::(ws++dws)) (aw G1 p (.ins C [])) (λv G2=>v=.non/\q (.ref p) G2) λ_ _=>False
theorem kg.make {C:Addr} {sp:bS} {dws:List W} {dvs:List V} {t:WA} {σ:St} {H:Hp} {Q:VK} {E:XK} (hd:∀H,aS K H dws dvs) (h:kg K (qy C sp dws t) σ H Q):yO C (wm K sp) dvs E (LA K t) σ H Q:=by
 obtain⟨τ,G,q,hs,hg,ht,hQ⟩:=h;refine⟨τ,G,_,hs,hg,ht,λvs H1 ws G1 t1 r1 g1 q1 x dx hx hdx hne=>?_⟩;have hdx':upd H1 dx (.own x) x=none:=by rw[aH (Ne.symm hne)];exact hx
 have tl:=(aR.new hdx (.own x)).trans (aR.new hdx' (.ins C dx []));have g2:aP K (upd (upd H1 dx (.own x)) x (.ins C dx [])) (aw G1 x (.ins C [])):=(g1.keep hdx (.own x)).lay (aR.new hdx' _) ⟨by simp,dx,[],aZ,rfl,.nil⟩;exact⟨.ref x::(ws++dws),_,_,_,.cons (.ref x) ((r1.mono tl).append (hd _)),g2,q1 x (g1.fresh hx),λv H2 w G2 t2 r2 g2 q2=>by
  obtain⟨e,q2⟩:=q2;subst e;cases r2;exact⟨rfl,hQ _ H2 _ G2 ((t1.trans tl).trans t2) (.ref x) g2 q2⟩,λ_ _ _ _ _ _ z=>z.elim⟩
theorem xy {C f:Addr} {sp:bS} {p pos:Pos} {t:WA} (M:Mk X.K C f) (F:cf X.prog X.w X.K X.mg X.base k f fd ps sp) (hr:aB (k+1) X.A) (hg:Gl X x) (hm:X.mg x=some (.ref C)) (hb:bM X.K fd ps [])
 (ha:QA X (e::es) t) (hdb:(x==("__debug__":Str))=false:=by decide) (he:starEach (e::es) X.env=(false,eval e X.env)::starEach es X.env:=by rfl) (hpl:(backTo pos (starEach es X.env)).any (·.1)=false:=by rfl):
 QE X (.Call (.Name x p) (e::es) [] pos) (qy C sp [] t):=
 (wN (dvs:=[]) M F hr hg hm hb .nil (kH (X:=X)) ha hdb he hpl).imp λ_ _ _ h=>kg.make (λ_=> .nil) h
def kP (C:Addr) (m:Str) (sp:bS) (dws:List W) (to:WE) (t:WA):WE:=λτ G q=>to τ G λx G1=>∃a fs,x=.ref a/\G1 a=some (.ins C fs)/\fs.lookup m=none/\t τ G1 λws G2=>sp (x::(ws++dws)) G2 q λ_ _=>False
theorem kg.meth {C:Addr} {m:Str} {sp:bS} {dws:List W} {dvs:List V} {to:WE} {t:WA} {σ:St} {H:Hp} {Q:VK} {E:XK} (hd:∀H,aS K H dws dvs) (h:kg K (kP C m sp dws to t) σ H Q):sY C m (wm K sp) dvs E (kg K to) (LA K t) σ H Q:=by
 obtain⟨τ,G,q,hs,hg,ht,hQ⟩:=h;refine⟨τ,G,_,hs,hg,ht,λx H1 w G1 t1 r1 g1 q1=>?_⟩;obtain⟨a,fs,rfl,hG,hl,q1⟩:=q1;cases r1;obtain⟨_,dx,fs',hH,hn,_⟩:=g1 a _ hG;refine⟨a,dx,fs',rfl,hH,fw hn hl,τ,G1,_,hs.mono t1,g1,q1,λvs H2 ws G2 t2 r2 g2 q2=>?_⟩;exact⟨.ref a::(ws++dws),G2,q,_,.cons (.ref a) (r2.append (hd _)),g2,q2,λv H3 w3 G3 t3=>hQ v H3 w3 G3 ((t1.trans t2).trans t3),λ_ _ _ _ _ _ z=>z.elim⟩
structure Mt (P:Program) (w:World) (K:yav) (mg:yew) (base:Heap) (C:Addr) (m:Str) (ps:List Str) (k:Nat) (sp:bS) (dws:List W):Prop where
 ex:∃(f:Addr) (fd:FuncData) (ds:yez) (dvs:List V),rQ K C m f/\cf P w K mg base k f fd ps sp/\bM K fd ps ds/\aU dvs ds/\∀H,aS K H dws dvs
 cl:dr K C
theorem lU {C:Addr} {m:Str} {sp:bS} {dws:List W} {o e:Expr} {to:WE} {t:WA} {apos pos:Pos} {pl:Sem Bool} (ho:QE X o to) (M:Mt X.prog X.w X.K X.mg X.base C m ps k sp dws) (hr:aB k X.A) (ha:QA X (e::es) t)
 (hst:starEach (e::es) X.env=(false,eval e X.env)::starEach es X.env:=by rfl) (hpl:(backTo pos (starEach es X.env)).any (·.1)=false:=by rfl)
 (ht:eval (.Call (.Attribute o m apos) (e::es) [] pos) X.env=(do
   let ov ←eval o X.env
   standAt apos.atName
   let (f,first) ←holding [ov] (getMethod ov m pl)
   callWith pos f first (backTo pos (starEach (e::es) X.env)) (backToKw pos (keywordEach [] X.env))):=by rfl):QE X (.Call (.Attribute o m apos) (e::es) [] pos) (kP C m sp dws to t):=by
 obtain⟨⟨f,fd,ds,dvs,hm,F,hb,hd,hrep⟩,c⟩:=M;exact(p6 (pl:=pl) ho c hm F hr hb hd (kH (X:=X)) ha hst hpl ht).imp λ_ _ _ h=>kg.meth hrep h
theorem nC {C:Addr} {m:Str} {sp:bS} {dws:List W} {o:Expr} {to:WE} {apos pos:Pos} {pl:Sem Bool} (ho:QE X o to) (M:Mt X.prog X.w X.K X.mg X.base C m ps k sp dws) (hr:aB k X.A)
 (ht:eval (.Call (.Attribute o m apos) [] [] pos) X.env=(do
   let ov ←eval o X.env
   standAt apos.atName
   let (f,first) ←holding [ov] (getMethod ov m pl)
   callWith pos f first (backTo pos (starEach [] X.env)) (backToKw pos (keywordEach [] X.env))):=by rfl):QE X (.Call (.Attribute o m apos) [] [] pos) (kP C m sp dws to lK):=by
 obtain⟨⟨f,fd,ds,dvs,hm,F,hb,hd,hrep⟩,c⟩:=M;refine(tf (pl:=pl) ho c hm F hr hb hd (kH (X:=X)) ht).imp λσ H Q z0=>z0.el λτ G q hs hg ht hQ=>?_;refine⟨τ,G,_,hs,hg,ht,λx H1 w G1 t1 r1 g1 q1=>?_⟩;obtain⟨a,fs,rfl,hG,hl,q1⟩:=q1;cases r1;obtain⟨_,dx,fs',hH,hn,_⟩:=g1 a _ hG;exact⟨a,dx,fs',rfl,hH,fw hn hl,.ref a::([]++dws),G1,q,_,.cons (.ref a) (hrep _),g1,q1,λv H3 w3 G3 t3=>hQ v H3 w3 G3 (t1.trans t3),λ_ _ _ _ _ _ z=>z.elim⟩
def AO (to:WE):WE:=λτ G q=>to τ G λx G1=>match x with
 | .ref a=>∃ys y,G1 a=some (.lst (ys++[y]))/\q y (aw G1 a (.lst ys))
 | _=>False
theorem aS.snoc {K:yav} {H:Hp}:∀{ys:List W} {y:W} {xs:List V},aS K H (ys++[y]) xs->∃v,xs[xs.length-1]?=some v/\bK K H y v/\aS K H ys xs.dropLast
 | [],y,xs,r=>by
   obtain⟨v,rfl,rv⟩:=r.one;exact⟨v,rfl,rv,.nil⟩
 | w::ys,y,_,.cons (v:=v) (vs:=vs) r rs=>by
   obtain⟨u,h1,h2,h3⟩:=aS.snoc rs;have hl:=rs.length;cases vs with
   | nil=>simp at hl
   | cons v2 vs2=>
     refine⟨u,?_,h2,?_⟩
     ·simpa using h1
     ·rw[List.dropLast_cons₂];exact .cons r h3
theorem AQ {o:Expr} {to:WE} {apos cpos:Pos} (ho:QE X o to)
 (hbase:attributeBase o "pop" X.env (eval o X.env)=eval o X.env:=by rfl) (hline:(apos.endLine==cpos.line)=true:=by rfl):QE X (.Call (.Attribute o "pop" apos) [] [] cpos) (AO to):=
 (tw PySem.F.plainAttrs_list PySem.F.slot_list_pop PySem.F.type_list_pop As ho hbase hline).imp λσ H Q z0=>z0.el λτ G q hs hg ht hQ=>
   ⟨τ,G,_,hs,hg,ht,λv H1 w G1 t1 r1 g1 q1=>by
     split at q1
     ·rename_i a;cases r1;obtain⟨ys,y,e1,q1⟩:=q1;obtain⟨hl,xs',h1,rr⟩:=g1 a _ e1;obtain⟨u,hu,ru,rd⟩:=rr.snoc;refine⟨.inl ⟨rfl,xs',cC.of h1⟩,a,xs',u,rfl,rfl,h1,hu,?_⟩;have tl:=aR.lst h1 (.lst xs'.dropLast);exact hQ _ _ _ _ (t1.trans tl) (ru.mono tl) (g1.put tl rd (by simp at hl;lia)) q1
     ·exact q1.elim⟩
noncomputable def Fd:Stmt->List Stmt
 | .ClassDef _ _ _ b _ _ _ _ _ _ _=>b
 | _=>[]
def Md (K:yav) (C:Addr) (m qual:Str) (st:Stmt) (ps:List Str):Prop:=∃(f:Addr) (fd:FuncData),rQ K C m f/\cz K m qual st f fd/\bM K fd ps []
def wo (K:yav) (C:Addr) (qual:Str) (st:Stmt) (ps:List Str):Prop:=∃(f:Addr) (fd:FuncData),Mk K C f/\cz K "__init__" qual st f fd/\bM K fd ps []
section
variable {P:Program} {w:World} {K:yav} {mg:yew} {base:Heap} {C:Addr} {m qual:Str} {st:Stmt} {ps:List Str} {k:Nat} {sp:bS} {dws:List W}
theorem Md.mt (D:Md K C m qual st ps) (c:dr K C) (h:∀(f:Addr) (fd:FuncData),cz K m qual st f fd->cf P w K mg base k f fd ps sp):Mt P w K mg base C m ps k sp []:=by
 obtain⟨f,fd,hm,F,b⟩:=D;exact⟨⟨f,fd,[],[],hm,h f fd F,b,.nil,λ_=> .nil⟩,c⟩
def nE (P:Program) (w:World) (K:yav) (mg:yew) (base:Heap) (x:Str) (C:Addr) (ps:List Str) (k:Nat) (sp:bS):Prop:=∃(f:Addr) (fd:FuncData),Mk K C f/\cf P w K mg base k f fd ps sp/\mg x=some (.ref C)/\bM K fd ps []
theorem wo.new (D:wo K C qual st ps) (hm:mg x=some (.ref C)) (h:∀(f:Addr) (fd:FuncData),cz K "__init__" qual st f fd->cf P w K mg base k f fd ps sp):nE P w K mg base x C ps k sp:=by
 obtain⟨f,fd,M,F,b⟩:=D;exact⟨f,fd,M,h f fd F,hm,b⟩
end
theorem eP {C:Addr} {sp:bS} {p pos:Pos} {t:WA} (M:nE X.prog X.w X.K X.mg X.base x C ps k sp) (hr:aB (k+1) X.A) (hg:Gl X x)
 (ha:QA X (e::es) t) (hdb:(x==("__debug__":Str))=false:=by decide) (he:starEach (e::es) X.env=(false,eval e X.env)::starEach es X.env:=by rfl) (hpl:(backTo pos (starEach es X.env)).any (·.1)=false:=by rfl):
 QE X (.Call (.Name x p) (e::es) [] pos) (qy C sp [] t):=by
 obtain⟨f,fd,M,F,hm,b⟩:=M;exact xy M F hr hg hm b ha hdb he hpl
theorem cL {α:Type} {p:List α->Prop} (h:p []) (us:List α) (e:us.length=0):p us:=by
 rw[List.eq_nil_of_length_eq_zero e];exact h
theorem bA {α:Type} {n:Nat} {p:List α->Prop} (h:∀a,∀us:List α,us.length=n->p (a::us)) (us:List α) (e:us.length=n+1):p us:=by
 cases us with
 | nil=>exact absurd e (Nat.succ_ne_zero n).symm
 | cons a us=>exact h a us (Nat.succ.inj e)
end
structure Dq (P:Program) (w:World) (K:yav) (mg:yew) (base:Heap) (C:Addr) (m:Str) (ps:List Str) (k:Nat) (sp:bS) (dws:List W):Prop where
 ex:∃(f:Addr) (fd:FuncData) (ds:yez) (dvs:List V),rQ K C m f/\xj P w K mg base k f fd ps sp/\bM K fd ps ds/\aU dvs ds/\∀H,aS K H dws dvs
 cl:dr K C
section
variable {X:Cx} {x:Str} {p pos:Pos}
end
section
variable {X:Cx} {p pos:Pos}
def zk (S:Addr->Prop) (t:Addr->WE):WE:=λτ G q=>∃C,S C/\t C τ G q
theorem lV {S:Addr->Prop} {t:Addr->WE} (h:∀C,S C->QE X e (t C)):QE X e (zk S t):=λπ s σ H Q I ⟨τ,G,q,a,b,⟨C,hC,ht⟩,d⟩=>h C hC π s σ H Q I ⟨τ,G,q,a,b,ht,d⟩
end
noncomputable def GP (K:yav) (a:Addr) (n:Nat):It:=
 ⟨λi H=>∃xs x,cC K H a xs/\xs.length=n/\i<n/\xs[n-1-i]?=some x,λi H x H'=>H'=H/\∀xs,cC K H a xs->xs[n-1-i]?=some x,λi H=>∃xs,cC K H a xs/\xs.length=n/\n<=i⟩
theorem xz {tg:Expr} (a it:Addr) (n:Nat):jl P w K tg (GP K a n) [it] it (λi h=>i<=n/\h.IsRevIter it a ((n:Int)-1- (i:Int))) where
 mem:=by simp
 obj:=λi h st b hb=>by
  have e:b=it:=by simpa using hb
  subst e;obtain⟨_,o,e,c,d⟩:=st;exact⟨o,e,λv z=>by rw[d] at z;cases z⟩
 keep:=λi h h' st k=>⟨st.1,st.2.at λo e=>k it (by simp) o e⟩
 item:=by
  intro X hP hw hK hc i π s σ H E I hf st hg;subst hP hw hK;obtain⟨xs,x,hq,hl,hi,hx⟩:=hg;obtain⟨its,rv,p,hz⟩:=I.list hq;obtain⟨u,hu,ru⟩:=rv.get hx;obtain⟨f0,f1,f2,f3,f4,f5⟩:=hf it (by simp);have st1:s.heap.IsRevIter it a ((n-1-i:Nat):Int):=by have:=st.2;rw[show(n:Int)-1- (i:Int)=((n-1-i:Nat):Int) by lia] at this;exact this
  refine wpAny_pyNext_rev_item st1 p.isList (x:=u) (by simpa using hu) λh' st' sb=>?_;have I1:aF X π σ H { s with heap:=h' }:=I.turned (t':=s.toks) (λb o hb e=>(sb.2 b hb).trans e) f0 f1 f3 f4 f5;obtain⟨o,e,c,d⟩:=id st';exact⟨u,rfl,jm (s:={ s with heap:=h' }) e c d (by decide) ⟨x,H,I1,ru,⟨rfl,λys hy=>by rw[I.list_inj hy hq];exact hx⟩,⟨by assumption,by rw[show(n:Int)-1- ((i+1:Nat):Int)=((n-1-i:Nat):Int)-1 by lia];exact st'⟩,λb hb=>(hf b hb).1⟩⟩
 done:=by
  intro X hP hw hK hc i π s σ H E I hf st hg;subst hP hw hK;obtain⟨xs,hq,hl,hi⟩:=hg;obtain⟨f0,f1,f2,f3,f4,f5⟩:=hf it (by simp);have st1:s.heap.IsRevIter it a (-1):=by have:=st.2;rw[show(n:Int)-1- (i:Int)= -1 by have:=st.1;lia] at this;exact this
  exact wpAny_pyNext_rev_end (I.ok.hd hc) st1 λh' eb=>⟨rfl,I.turned (t':=s.toks) (λb o hb e=>eb b o hb e) f0 f1 f3 f4 f5⟩
 self:=λ_ _ _ _ _ st h=>wpAny_pyIter_revIter st.2 h
theorem AR {ws:List W} {H:Hp} {n:Nat} (hn:ws.length=n):oH K (GP K a n) ws.reverse (λG=>G a=some (.lst ws)) H where
 stop:=λi H1 G t g eG hl=>by
  obtain⟨_,xs,h1,r⟩:=g a _ eG;exact⟨xs,cC.of h1,by rw[←r.length];exact hn,by simp at hl;lia⟩
 go:=λi w H1 G t g eG e=>by
  obtain⟨_,xs,h1,r⟩:=g a _ eG;have hl:=r.length;have hi:i<ws.length:=by
   rcases lt_or_ge i ws.length with z | z
   ·exact z
   ·rw[List.getElem?_eq_none (by simpa using z)] at e;cases e
  rw[List.getElem?_reverse hi] at e;obtain⟨v,e1,rv⟩:=r.get e;rw[hn] at e1;refine⟨⟨xs,v,cC.of h1,by lia,by lia,e1⟩,λx H' z9=>?_⟩;obtain⟨eH,hy⟩:=z9;subst eH;have e2:=hy xs (cC.of h1);rw[e1] at e2;cases e2;exact⟨aR.refl _,rv,g⟩
def zm (ta:WA):WI:=λτ G r=>ta τ G λws G1=>match ws with
 | [.ref a]=>∃xs,G1 a=some (.lst xs)/\r xs.reverse (λG=>G a=some (.lst xs)) G1
 | _=>False
theorem xA {X:Cx} {tg a:Expr} {ta:WA} {p pos:Pos} (hg:Gl X "reversed") (hm:X.mg "reversed"=none) (ha:QA X [a] ta) (hs:starEach [a] X.env=[(false,eval a X.env)]:=by rfl):
 QI X tg (.Call (.Name "reversed" p) [a] [] pos) (zm ta):=by
 rintro π s σ H R I ⟨τ,G,r,hτ,hG,ht,hR⟩;refine Call_ (eE I hg hm qw (PyProof.Rows.callWith_type1 (bU (ha pos π s σ H (λvs H1=>∃ws G1,aR H H1/\aS X.K H1 ws vs/\aP X.K H1 G1/\match ws with | [.ref a]=>∃xs,G1 a=some (.lst xs)/\r xs.reverse (λG=>G a=some (.lst xs)) G1 | _=>False) I ⟨τ,G,_,hτ,hG,ht,λvs H1 ws G1 t1 r1 g1 q1=>⟨ws,G1,t1,r1,g1,q1⟩⟩) λus s1 ⟨vs,H1,I1,ru,ws,G1,t1,r1,g1,q1⟩=>?_) (by rw[hs];rfl) (by rfl)));split at q1
 ·rename_i pa;obtain⟨ws,eG,q1⟩:=q1;cases r1 with
  | cons ra rn=>
    cases rn;cases ra;cases ru with
    | cons w1 wn=>
      cases wn;cases (show _=Value.ref pa from w1);obtain⟨_,xs',h1,rr⟩:=g1 _ _ eG;obtain⟨its,rv,p1,hz⟩:=I1.list (cC.of h1);have hl:=rv.length;have hr:=rr.length;refine call_reversed_list p1.isList ?_;have st0:(s1.heap.push (revObj pa ((its.toArray.size:Int)-1))).IsRevIter s1.heap.objs.size pa ((ws.length:Int)-1- ((0:Nat):Int)):=⟨_,ybw _ rfl,rfl,by
       rw[show((ws.length:Int)-1- ((0:Nat):Int))=(its.toArray.size:Int)-1 by simp;lia];rfl⟩
      refine wpAny_pyIter_revIter (s:={ s1 with heap:=s1.heap.push (revObj pa ((its.toArray.size:Int)-1)) }) st0 ?_;refine⟨s1.heap.objs.size,[s1.heap.objs.size],_,_,H1,rfl,I1.kept (t':=s1.toks) λb o e=>ybz _ e,xz pa _ ws.length,⟨zero_le _,st0⟩,λb hb=>?_,hR _ H1 _ _ G1 t1 g1 (AR rfl) q1⟩;have e:b=s1.heap.objs.size:=by simpa using hb
      subst e;exact I1.fpOk (ycx _) (I1.hok.fresh (ycx _))
 ·exact q1.elim
section
variable {X:Cx}
def zn (to:WE):WE:=λτ G q=>to τ G λx G1=>match x with
 | .ref a=>∃ys,G1 a=some (.lst ys)/\q .non (aw G1 a (.lst []))
 | _=>False
theorem qz {o:Expr} {to:WE} {apos cpos:Pos} (ho:QE X o to)
 (hbase:attributeBase o "clear" X.env (eval o X.env)=eval o X.env:=by rfl) (hline:(apos.endLine==cpos.line)=true:=by rfl):QE X (.Call (.Attribute o "clear" apos) [] [] cpos) (zn to):=
 (tw PySem.F.plainAttrs_list PySem.F.slot_list_clear PySem.F.type_list_clear tE ho hbase hline).imp λσ H Q z0=>z0.el λτ G q hs hg ht hQ=>
   ⟨τ,G,_,hs,hg,ht,λv H1 w G1 t1 r1 g1 q1=>by
     split at q1
     ·rename_i a;cases r1;obtain⟨ys,e1,q1⟩:=q1;obtain⟨hl,xs',h1,rr⟩:=g1 a _ e1;refine⟨.inl ⟨rfl,xs',cC.of h1⟩,a,xs',rfl,rfl,h1,?_⟩;have tl:=aR.lst h1 (.lst []);exact hQ _ _ _ _ (t1.trans tl) .non (g1.put tl .nil (by simp)) q1
     ·exact q1.elim⟩
theorem AS (x y:Str):(W.str x).eq (.str y)=decide (x=y):=by
 simp only[W.eq];rw[Bool.eq_iff_iff,beq_iff_eq,decide_eq_true_eq]
theorem uj (x:Str):(W.str x).flat=true:=rfl
theorem xB (x:Str):(W.str x).dep=0:=rfl
theorem AT (x:Str):decide (x=x)=true:=ydz rfl
abbrev dNq (a b:String):Prop:=decide (Str.ofString a=Str.ofString b)=false
theorem Dr:dNq "set" "copy"/\dNq "set" "add"/\dNq "set" "less"/\dNq "set" "times"/\dNq "set" "count"/\dNq "set" "while"/\dNq "copy" "set"/\dNq "copy" "add"/\dNq "copy" "less"/\dNq "copy" "times"/\dNq "copy" "count"/\dNq "copy" "while"/\dNq "add" "set"/\dNq "add" "copy"/\dNq "add" "less"/\dNq "add" "times"/\dNq "add" "count"/\dNq "add" "while"/\dNq "less" "set"/\dNq "less" "copy"/\dNq "less" "add"/\dNq "less" "times"/\dNq "less" "count"/\dNq "less" "while"/\dNq "times" "set"/\dNq "times" "copy"/\dNq "times" "add"/\dNq "times" "less"/\dNq "times" "count"/\dNq "times" "while"/\dNq "count" "set"/\dNq "count" "copy"/\dNq "count" "add"/\dNq "count" "less"/\dNq "count" "times"/\dNq "count" "while"/\dNq "while" "set"/\dNq "while" "copy"/\dNq "while" "add"/\dNq "while" "less"/\dNq "while" "times"/\dNq "while" "count":=by decide+kernel
end
section
variable {P:Program} {w:World} {K:yav} {mg:yew} {base:Heap} {N:List Str} {qual:Str} {scope:Scope} {f:Addr} {cdv:Value} {A:Around} {outer:List Env} {s:Shared} {H:Hp} {E:XK}
def uk (C:Addr) (m:Str) (sp:bS) (dws:List W) (to:WE) (t:WA) (e:WX):WE:=λτ G q=>to τ G λx G1=>∃a fs,x=.ref a/\G1 a=some (.ins C fs)/\fs.lookup m=none/\t τ G1 λws G2=>sp (x::(ws++dws)) G2 q e
theorem ul {C:Addr} {m:Str} {sp:bS} {dws:List W} {o e0:Expr} {to:WE} {t:WA} {apos pos:Pos} {pl:Sem Bool} {e:WX} (ho:QE (dL (ph P w) P w K mg base N qual scope f cdv A outer s H E) o to) (M:Dq P w K mg base C m ps k sp dws) (hr:aB k (A.deeper (envOfC qual scope s.heap.objs.size f cdv)))
 (hE:∀c H1 G1,aR H H1->aP K H1 G1->e c G1->E c none H1) (ha:QA (dL (ph P w) P w K mg base N qual scope f cdv A outer s H E) (e0::es) t)
 (hst:starEach (e0::es) (envOfC qual scope s.heap.objs.size f cdv)=(false,eval e0 (envOfC qual scope s.heap.objs.size f cdv))::starEach es (envOfC qual scope s.heap.objs.size f cdv):=by rfl) (hpl:(backTo pos (starEach es (envOfC qual scope s.heap.objs.size f cdv))).any (·.1)=false:=by rfl)
 (ht:eval (.Call (.Attribute o m apos) (e0::es) [] pos) (envOfC qual scope s.heap.objs.size f cdv)=(do
   let ov ←eval o (envOfC qual scope s.heap.objs.size f cdv)
   standAt apos.atName
   let (fn,first) ←holding [ov] (getMethod ov m pl)
   callWith pos fn first (backTo pos (starEach (e0::es) (envOfC qual scope s.heap.objs.size f cdv))) (backToKw pos (keywordEach [] (envOfC qual scope s.heap.objs.size f cdv)))):=by rfl):QE (dL (ph P w) P w K mg base N qual scope f cdv A outer s H E) (.Call (.Attribute o m apos) (e0::es) [] pos) (uk C m sp dws to t e):=by
 obtain⟨⟨f1,fd,ds,dvs,hm,F,hb,hd,hrep⟩,c⟩:=M;refine(p6 (X:=dL (ph P w) P w K mg base N qual scope f cdv A outer s H E) (E:=λc _ H1=>∃G1,aP K H1 G1/\e c G1) (pl:=pl) ho c hm F hr hb hd (xm λC H1 t1 z=>?_) ha hst hpl ht).imp λσ H2 Q h=>?_
 ·obtain⟨G1,g1,z1⟩:=z;exact hE _ H1 G1 t1 g1 z1
 ·obtain⟨τ,G,q,hs,hg,ht,hQ⟩:=h;refine⟨τ,G,_,hs,hg,ht,λx H1 w G1 t1 r1 g1 q1=>?_⟩;obtain⟨a,fs,rfl,hG,hl,q1⟩:=q1;cases r1;obtain⟨_,dx,fs',hH,hn,_⟩:=g1 a _ hG;refine⟨a,dx,fs',rfl,hH,fw hn hl,τ,G1,_,hs.mono t1,g1,q1,λvs H2 ws G2 t2 r2 g2 q2=>?_⟩;exact⟨.ref a::(ws++dws),G2,q,e,.cons (.ref a) (r2.append (hrep _)),g2,q2,λv H3 w3 G3 t3=>hQ v H3 w3 G3 ((t1.trans t2).trans t3),λc d H3 G3 _ g3 z=>⟨G3,g3,z⟩⟩
end
section
variable {X:Cx} {π:List (Addr×Obj)} {σ:St} {H:Hp} {s:Shared} {h':Heap} {ch:List Addr}
theorem aF.turns (I:aF X π σ H s) (hf:∀c,c∈ch->hJ X π H c) (kk:∀c o,c∉ch->s.heap.get? c=some o->h'.get? c=some o):aF X π σ H { s with heap:=h' }:=by
 have tr:∀c u,H c=some u->c∉ch:=λc u e hc=>by rw[(hf c hc).1] at e;cases e
 refine I.step (g':=s.gens) (d':=s.drawn) (t':=s.toks) (ch:=ch) (λc hc=>?_) (λc o _ _ hc e _=>kk c o hc e) (λc o _ _ hc e _=>⟨o.slots,kk c o hc e⟩) (λ_ _ _ _ n=>n) (λc o hc e=>⟨o,kk c o hc e⟩) (λ_ _ e=>e) (λ_ _ _ e=>e) (λc ps e=>⟨#[],by rw[e];simp⟩) (λm hm=>?_) (λc u e=>?_) I.bare
 ·obtain⟨_,f1,_,f3,f4,f5⟩:=hf c hc;exact⟨f3,f1,f4,f5⟩
 ·obtain⟨o,es,ep,ho,bI⟩:=hm;exact⟨o,es,ep,kk _ o (λhc=>(hf _ hc).2.1 rfl) ho,bI⟩
 ·refine(I.hok c u e).stay (λc' v hc' q=>kk c' v ?_ q) (λ_ q=>q) λ_ _ q=>q;rcases hc' with rfl | hc'
  ·exact tr _ _ e
  ·exact tr _ _ hc'
theorem aF.pair {x y:V} {ux uy:Value} (I:aF X π σ H s) (hf:∀c,c∈ch->hJ X π H c) (keep:∀c o,c∉ch->s.heap.get? c=some o->h'.get? c=some o) (tn:h'.get? s.heap.objs.size=some { cls:= .type "tuple",data:= .seq #[ux,uy] }) (rx:bd x ux) (ry:bd y uy):aF X π σ (upd H s.heap.objs.size (.tup [x,y])) { s with heap:=h' }:=by
 have hnew:H s.heap.objs.size=none:=I.hok.fresh (ycx _);have tr:∀c u,H c=some u->c∉ch:=λc u e hc=>by rw[(hf c hc).1] at e;cases e
 refine I.step (g':=s.gens) (d':=s.drawn) (t':=s.toks) (ch:=ch) (λc hc=>?_) (λc o _ _ hc e _=>keep c o hc e) (λc o _ _ hc e _=>⟨o.slots,keep c o hc e⟩) (λc o _ e n=>?_) (λc o hc e=>⟨o,keep c o hc e⟩) (λc xs e=>?_) (λc o u e=>?_) (λc ps e=>⟨#[],?_⟩) (λm hm=>?_) (λc u e=>?_) I.bare
 ·obtain⟨_,f1,_,f3,f4,f5⟩:=hf c hc;exact⟨f3,f1,f4,f5⟩
 ·rw[aH (ne_of_lt (ybv e))];exact n
 ·rw[aH (bg e hnew)];exact e
 ·rw[aH (bg e hnew)];exact e
 ·rw[aH (bg e hnew),e];simp
 ·obtain⟨o,es,ep,ho,bI⟩:=hm;exact⟨o,es,ep,keep _ o (λhc=>(hf _ hc).2.1 rfl) ho,bI⟩
 ·by_cases hcs:c=s.heap.objs.size
  ·subst hcs;rw[aZ] at e;cases e;exact⟨by show 2<=sizeLine;decide,[ux,uy],.cons rx (.cons ry .nil),⟨_,tn,rfl,_,rfl⟩⟩
  ·rw[aH hcs] at e;refine(I.hok c u e).stay (λc' v hc' q=>keep c' v ?_ q) (λc' q=>by rw[aH (bg q hnew)];exact q) λc' xs q=>by rw[aH (bg q hnew)];exact q
   rcases hc' with rfl | hc'
   ·exact tr _ _ e
   ·exact tr _ _ hc'
end
noncomputable def Ds (K:yav) (a b:Addr):It:=
 ⟨λi H=>∃xs ys x y,cC K H a xs/\cC K H b ys/\xs[i]?=some x/\ys[i]?=some y,
  λi H v H'=>∃p x y,H p=none/\(∀xs,cC K H a xs->xs[i]?=some x)/\(∀ys,cC K H b ys->ys[i]?=some y)/\v=.ref p/\H'=upd H p (.tup [x,y]),
  λi H=>∃xs ys,cC K H a xs/\cC K H b ys/\(xs.length<=i∨ys.length<=i)⟩
structure ZL (z p r i j a b:Addr) (n:Nat) (f:Value) (h:Heap):Prop where
 hz:IsZip h z p r f
 hp:IsPair h p (.ref i) (.ref j)
 hr:∃x y,IsPair h r x y
 hi:h.IsListIter i a n
 hj:h.IsListIter j b n
theorem ZL.obj {z p r i j a b:Addr} {n:Nat} {f:Value} {h:Heap} (T:ZL z p r i j a b n f h) {c:Addr} (hc:c∈[z,p,r,i,j]):∃o,h.get? c=some o/\∀v,o.data≠ .cell v:=by
 obtain⟨hz,hp,⟨x,y,hr⟩,⟨oi,hi,_,di⟩,⟨oj,hj,_,dj⟩⟩:=T;simp only[mem_cons,mem_nil_iff,or_false] at hc;rcases hc with rfl | rfl | rfl | rfl | rfl
 ·exact⟨_,hz,λv q=>by cases q⟩
 ·exact⟨_,hp,λv q=>by cases q⟩
 ·exact⟨_,hr,λv q=>by cases q⟩
 ·exact⟨_,hi,λv q=>by rw[di] at q;cases q⟩
 ·exact⟨_,hj,λv q=>by rw[dj] at q;cases q⟩
theorem zo {z p r i j c:Addr} (hc:c∈[z,r,i,j]):c∈[z,p,r,i,j]:=by
 simp only[mem_cons,mem_nil_iff,or_false] at hc ⊢;rcases hc with h | h | h | h<;> simp[h]
theorem um {z r i j c:Addr} (hc:c∉[z,r,i,j]):c≠z/\c≠r/\c≠i/\c≠j:=by
 simp only[mem_cons,mem_nil_iff,or_false,not_or] at hc;exact hc
section
variable {P:Program} {w:World} {K:yav}
theorem sg {elts:List Expr} {z p r i j a b:Addr} (D:ZipApart z p r i j a b):jl P w K (.Tuple elts k pos) (Ds K a b) [z,p,r,i,j] z (λn h=>ZL z p r i j a b n .none h) where
 mem:=by simp
 obj:=λn h T c hc=>T.obj hc
 keep:=λn h h' T kk=>by
  obtain⟨hz,hp,⟨x,y,hr⟩,hi,hj⟩:=T;exact⟨kk z (by simp) _ hz,kk p (by simp) _ hp,⟨x,y,kk r (by simp) _ hr⟩,hi.at λo e=>kk i (by simp) o e,hj.at λo e=>kk j (by simp) o e⟩
 item:=by
  intro X hP hw hK hc n π s σ H E I hf T hg;subst hP hw hK;obtain⟨xs,ys,x,y,qa,qb,ex,ey⟩:=hg;obtain⟨its,rv,pa,hza⟩:=I.list qa;obtain⟨its2,rv2,pb,hzb⟩:=I.list qb;obtain⟨ux,eux,rx⟩:=rv.get ex;obtain⟨uy,euy,ry⟩:=rv2.get ey;obtain⟨x0,y0,hr0⟩:=T.hr;refine wpAny_pyNext_zip_item D T.hz T.hp hr0 T.hi T.hj pa.isList pb.isList (x:=ux) (y:=uy) (by simpa using eux) (by simpa using euy) λh1 z1 r1 i1 j1 t1 _ k1=>⟨_,rfl,?_⟩;refine wpAny_letOwnedTupleGo_zip z1 λh2 hz2 sb2=>?_;have lt:∀{c:Addr} {o:Obj},s.heap.get? c=some o->c≠s.heap.objs.size:=λe=>ne_of_lt (ybv e);have hnew:H s.heap.objs.size=none:=I.hok.fresh (ycx _);have zne:z≠s.heap.objs.size:=lt T.hz;have keep:∀c o,c≠z->c≠r->c≠i->c≠j->s.heap.get? c=some o->h2.get? c=some o:=λc o c1 c2 c3 c4 e=>sb2.extBut c o c1 (k1 c o c1 c2 c3 c4 e);have tn:h2.get? s.heap.objs.size=some { cls:= .type "tuple",data:= .seq #[ux,uy] }:=sb2.extBut _ _ (Ne.symm zne) t1;refine⟨.ref s.heap.objs.size,upd H s.heap.objs.size (.tup [x,y]),I.pair (ch:=[z,r,i,j]) (λc hc=>hf c (zo hc)) (λc o hc e=>?_) tn rx ry,rfl,⟨_,x,y,hnew,λzs hz=>by rw[I.list_inj hz qa];exact ex,λzs hz=>by rw[I.list_inj hz qb];exact ey,rfl,rfl⟩,⟨hz2,?_,?_,?_,?_⟩,λc hc=>?_⟩
  ·obtain⟨c1,c2,c3,c4⟩:=um hc;exact keep c o c1 c2 c3 c4 e
  ·exact sb2.extBut _ _ D.TIz (k1 _ _ D.TIz D.TITO D.TIi1 D.TIi2 T.hp)
  ·exact⟨_,_,sb2.extBut _ _ D.TOz r1⟩
  ·exact i1.extBut sb2.extBut D.i1z
  ·exact j1.extBut sb2.extBut D.i2z
  ·obtain⟨o,e,_⟩:=T.obj hc;rw[aH (lt e)];exact(hf c hc).1
 done:=by
  intro X hP hw hK hc n π s σ H E I hf T hg;subst hP hw hK;obtain⟨xs,ys,qa,qb,hl⟩:=hg;obtain⟨its,rv,pa,hza⟩:=I.list qa;obtain⟨its2,rv2,pb,hzb⟩:=I.list qb;have la:=rv.length;have lb:=rv2.length;have hx:its.toArray[n]?=none∨its2.toArray[n]?=none:=by
   rcases hl with h | h
   ·exact .inl (by simp;lia)
   ·exact .inr (by simp;lia)
  obtain⟨x0,y0,hr0⟩:=T.hr;refine wpAny_pyNext_zip_end (I.ok.hd hc) D T.hz T.hp hr0 T.hi T.hj pa.isList pb.isList hx λh' k1=>⟨rfl,?_⟩;exact I.turns (ch:=[z,r,i,j]) (λc hc=>hf c (zo hc)) λc o hc e=>by
   obtain⟨c1,c2,c3,c4⟩:=um hc;exact k1 c o c1 c2 c3 c4 e
 self:=λ_ _ _ _ _ T h=>wpAny_pyIter_zip T.hz h
end
section
variable {X:Cx}
theorem uo {a b:Addr} {ws us:List W} {H:Hp}:oH K (Ds K a b) (gH ws us) (λG=>G a=some (.lst ws)/\G b=some (.lst us)) H where
 stop:=λi H1 G t g e hl=>by
  obtain⟨_,xs,h1,ra⟩:=g a _ e.1;obtain⟨_,ys,h2,rb⟩:=g b _ e.2;refine⟨xs,ys,cC.of h1,cC.of h2,?_⟩;rw[iQ] at hl;rw[←ra.length,←rb.length];lia
 go:=λi w H1 G t g eG e=>by
  obtain⟨_,xs,h1,ra⟩:=g a _ eG.1;obtain⟨_,ys,h2,rb⟩:=g b _ eG.2;obtain⟨x,y,ex,ey,rfl⟩:=ny e;obtain⟨vx,e1,r1⟩:=ra.get ex;obtain⟨vy,e2,r2⟩:=rb.get ey;refine⟨⟨xs,ys,vx,vy,cC.of h1,cC.of h2,e1,e2⟩,λv H' z9=>?_⟩;obtain⟨p,x',y',hp,q1,q2,ev,eH⟩:=z9;have z1:=q1 _ (cC.of h1);have z2:=q2 _ (cC.of h2);rw[e1] at z1;cases z1;rw[e2] at z2;cases z2;subst ev eH;have tn:=aR.new hp (HO.tup [vx,vy]);exact⟨tn,.tup aZ (.cons (r1.mono tn) (.cons (r2.mono tn) .nil)),g.keep hp _⟩
theorem AU {n a b:Nat} (ha:a<n) (hb:b<n):ZipApart (n+4) (n+2) (n+3) n (n+1) a b:=by
 constructor<;> (show(_:Nat)≠(_:Nat);lia)
def zq (ta:WA):WI:=λτ G r=>ta τ G λws G1=>match ws with
 | [.ref a,.ref b]=>∃l m,G1 a=some (.lst l)/\G1 b=some (.lst m)/\r (gH l m) (λG=>G a=some (.lst l)/\G b=some (.lst m)) G1
 | _=>False
theorem AV {ws:List W} {f:Addr->Addr->Prop} (h:match ws with | [.ref a,.ref b]=>f a b | _=>False):∃a b,ws=[.ref a,.ref b]/\f a b:=by
 rcases ws with _ | ⟨a,_ | ⟨b,r⟩⟩
 ·exact h.elim
 ·cases a<;> exact h.elim
 ·cases a with
  | ref i=>
    cases b with
    | ref j=>cases r with
      | nil=>exact⟨i,j,rfl,h⟩
      | cons _ _=>exact h.elim
    | _=>exact h.elim
  | _=>exact h.elim
theorem xC {elts:List Expr} {tp:Pos} {a b:Expr} {ta:WA} {p pos:Pos} (hg:Gl X "zip") (hm:X.mg "zip"=none) (ha:QA X [a,b] ta) (hs:starEach [a,b] X.env=[(false,eval a X.env),(false,eval b X.env)]:=by rfl) (hs2:starEach [b] X.env=[(false,eval b X.env)]:=by rfl):
 QI X (.Tuple elts k tp) (.Call (.Name "zip" p) [a,b] [] pos) (zq ta):=by
 rintro π s σ H R I ⟨τ,G,r,hτ,hG,ht,hR⟩;refine Call_ (eE I hg hm tS (PyProof.Rows.callWith_type1 (bU (ha pos π s σ H (λvs H1=>∃ws G1,aR H H1/\aS X.K H1 ws vs/\aP X.K H1 G1/\match ws with | [.ref a,.ref b]=>∃l m,G1 a=some (.lst l)/\G1 b=some (.lst m)/\r (gH l m) (λG=>G a=some (.lst l)/\G b=some (.lst m)) G1 | _=>False) I ⟨τ,G,_,hτ,hG,ht,λvs H1 ws G1 t1 r1 g1 q1=>⟨ws,G1,t1,r1,g1,q1⟩⟩) λus s1 ⟨vs,H1,I1,ru,ws,G1,t1,r1,g1,q1⟩=>?_) (by rw[hs,hs2]) (by rw[hs2];rfl)));obtain⟨pa,pb,rfl,l,m,hl,hm',q1⟩:=AV q1;obtain⟨v1,v2,rfl,ra,rb⟩:=r1.two;cases ra;cases rb;obtain⟨_,xs,ha',ra⟩:=g1 _ _ hl;obtain⟨_,ys,hb',rb⟩:=g1 _ _ hm';obtain⟨u1,u2,rfl,w1,w2⟩:=jp ru;cases (show u1=Value.ref pa from w1);cases (show u2=Value.ref pb from w2);obtain⟨its,_,p1,_⟩:=I1.list (cC.of ha');obtain⟨its2,_,p2,_⟩:=I1.list (cC.of hb');have lta:pa<s1.heap.objs.size:=by obtain⟨o,ho,_⟩:=p1.isList;exact ybv ho
 have ltb:pb<s1.heap.objs.size:=by obtain⟨o,ho,_⟩:=p2.isList;exact ybv ho
 refine call_zip_2 p1.isList p2.isList λh' a1 a2 a3 a4 a5 _ kk=>?_;refine wpAny_pyIter_zip a1 ?_;have I2:aF X π σ H1 { s1 with heap:=h' }:=I1.kept (t':=s1.toks) kk;refine⟨_,[s1.heap.objs.size+4,s1.heap.objs.size+2,s1.heap.objs.size+3,s1.heap.objs.size,s1.heap.objs.size+1],_,_,H1,rfl,I2,sg (AU lta ltb),⟨a1,a2,⟨_,_,a3⟩,a4,a5⟩,λc hc=>?_,hR _ H1 _ _ G1 t1 g1 uo q1⟩;have hle:s1.heap.objs.size<=c:=by
  simp only[mem_cons,mem_nil_iff,or_false] at hc;rcases hc with rfl | rfl | rfl | rfl | rfl
  ·exact Nat.le_add_right _ _
  ·exact Nat.le_add_right _ _
  ·exact Nat.le_add_right _ _
  ·exact ycx _
  ·exact Nat.le_add_right _ _
 exact I1.fpOk hle (I1.hok.fresh hle)
end
end L2
namespace Nm
inductive O where
 | z
 | c (e:O) (n:Int) (r:O)
 deriving DecidableEq
namespace O
noncomputable def cmp:O->O->Int
 | z,z=>0
 | z,c _ _ _=> -1
 | c _ _ _,z=>1
 | c e n r,c e' n' r'=>
   if cmp e e'≠0 then cmp e e' else if n<n' then -1 else if n'<n then 1 else cmp r r'
noncomputable def size:O->Nat
 | z=>0
 | c e _ r=>1+size e+size r
noncomputable def dp:O->Nat
 | z=>0
 | c e _ r=>max (dp e+1) (dp r)
noncomputable def len:O->Nat
 | z=>0
 | c _ _ r=>len r+1
noncomputable def app:O->O->O
 | z,b=>b
 | c e n r,b=>c e n (app r b)
noncomputable def filt (p:O->Int->Bool):O->O
 | z=>z
 | c e n r=>if p e n then c e n (filt p r) else filt p r
noncomputable def same (x:O):O->Int
 | z=>0
 | c e n r=>if e=x then n+same x r else same x r
noncomputable def init:O->O
 | z=>z
 | c _ _ z=>z
 | c e n r=>c e n (init r)
noncomputable def last:O->O
 | z=>z
 | c e n z=>c e n z
 | c _ _ r=>last r
theorem cmp_self:∀a:O,cmp a a=0
 | z=>rfl
 | c e n r=>by simp[cmp,cmp_self e,cmp_self r]
theorem cmp_eq:∀a b:O,cmp a b=0->a=b
 | z,z,_=>rfl
 | z,c _ _ _,h=>by simp[cmp] at h
 | c _ _ _,z,h=>by simp[cmp] at h
 | c e n r,c e' n' r',h=>by
   unfold cmp at h
   by_cases he:cmp e e'=0
   ·rw[ycw (by simpa using he)] at h
    by_cases h1:n<n'
    ·rw[ycv h1] at h;lia
    ·rw[ycw h1] at h
     by_cases h2:n'<n
     ·rw[ycv h2] at h;lia
     ·rw[ycw h2] at h;have:=cmp_eq e e' he;have:=cmp_eq r r' h;have:n=n':=by lia
      subst_vars
      rfl
   ·rw[ycv he] at h;exact absurd h he
theorem cmp_range:∀a b:O,cmp a b= -1∨cmp a b=0∨cmp a b=1
 | z,z=>by simp[cmp]
 | z,c _ _ _=>by simp[cmp]
 | c _ _ _,z=>by simp[cmp]
 | c e n r,c e' n' r'=>by
   have h1:=cmp_range e e';have h2:=cmp_range r r';unfold cmp;split
   ·exact h1
   ·split
    ·exact .inl rfl
    ·split
     ·exact .inr (.inr rfl)
     ·exact h2
theorem bp:∀a b:O,cmp b a= -cmp a b
 | z,z=>rfl
 | z,c _ _ _=>rfl
 | c _ _ _,z=>rfl
 | c e n r,c e' n' r'=>by
   have h1:=bp e e';have h2:=bp r r';unfold cmp;rw[h1,h2]
   by_cases he:cmp e e'=0
   ·rcases Int.lt_trichotomy n n' with k | k | k
    ·have k':¬n'<n:=by lia
     simp[he,k,k']
    ·subst k;simp[he]
    ·have k':¬n<n':=by lia
     simp[he,k,k']
   ·have he':¬-cmp e e'=0:=by lia
    simp[he,he']
theorem bY:∀a b d:O,cmp a b<0->cmp b d<0->cmp a d<0
 | z,z,_,h,_=>by simp[cmp] at h
 | z,c _ _ _,z,_,h=>by simp[cmp] at h
 | z,c _ _ _,c _ _ _,_,_=>by simp[cmp]
 | c _ _ _,z,_,h,_=>by simp[cmp] at h
 | c _ _ _,c _ _ _,z,_,h=>by simp[cmp] at h
 | c e n r,c e' n' r',c f m t,h1,h2=>by
   have ih1:=bY e e' f;have ih2:=bY r r' t;have r1:=cmp_range e e';have r2:=cmp_range e' f;unfold cmp at h1 h2 ⊢
   by_cases k1:cmp e e'=0
   ·have e1:=cmp_eq e e' k1;subst e1;rw[ycw (by lia)] at h1
    by_cases k2:cmp e f=0
    ·rw[ycw (by lia)] at h2 ⊢
     by_cases a1:n<n'
     ·by_cases a2:n'<m
      ·rw[ycv (by lia)];lia
      ·rw[ycw a2] at h2
       by_cases a3:m<n'
       ·rw[ycv a3] at h2;lia
       ·rw[ycv (by lia)];lia
     ·rw[ycw a1] at h1
      by_cases a2:n'<n
      ·rw[ycv a2] at h1;lia
      ·rw[ycw a2] at h1
       by_cases a3:n'<m
       ·rw[ycv (by lia)];lia
       ·rw[ycw a3] at h2
        by_cases a4:m<n'
        ·rw[ycv a4] at h2;lia
        ·rw[ycw a4] at h2;rw[ycw (by lia),ycw (by lia)];exact ih2 h1 h2
    ·rw[ycv k2] at h2 ⊢;exact h2
   ·rw[ycv k1] at h1
    by_cases k2:cmp e' f=0
    ·have e2:=cmp_eq e' f k2;subst e2;rw[ycv k1];exact h1
    ·rw[ycv k2] at h2;have:=ih1 h1 h2;rw[ycv (by lia)];exact this
def Lt (e:O):O->Prop
 | z=>True
 | c x _ r=>cmp x e<0/\Lt e r
def NF:O->Prop
 | z=>True
 | c e n r=>NF e/\1<=n/\Lt e r/\NF r
theorem Lt.app {e:O}:∀{a b:O},Lt e a->Lt e b->Lt e (app a b)
 | z,_,_,h=>h
 | c _ _ _,_,h1,h2=>⟨h1.1,Lt.app h1.2 h2⟩
theorem Lt.filt {e:O} (p:O->Int->Bool):∀{a:O},Lt e a->Lt e (O.filt p a)
 | z,_=>trivial
 | c _ _ _,h=>by
   unfold O.filt;split
   ·exact⟨h.1,Lt.filt p h.2⟩
   ·exact Lt.filt p h.2
theorem same_nonneg (x:O):∀{a:O},NF a->0<=same x a
 | z,_=>by simp[same]
 | c e n r,h=>by
   have h1:=h.2.1;have h2:=same_nonneg x h.2.2.2;unfold same;split<;> lia
theorem NF.join {e:O} {n:Int} {b:O} (he:NF e) (hn:1<=n) (hb:NF b) (hl:Lt e b) (hx:∀x,0<cmp x e->Lt x b):∀{a:O},NF a->NF (O.app (O.filt (λx _=>decide (0<cmp x e)) a) (c e n b))
 | z,_=>⟨he,hn,hl,hb⟩
 | c x k r,h=>by
   unfold O.filt;split
   ·rename_i hp;have hp':0<cmp x e:=by simpa using hp
    have hs:=bp x e;exact⟨h.1,h.2.1,Lt.app (h.2.2.1.filt _) ⟨by lia,hx x hp'⟩,NF.join he hn hb hl hx h.2.2.2⟩
   ·exact NF.join he hn hb hl hx h.2.2.2
end O
namespace O
theorem dW (a:O):¬cmp a a<0:=by rw[cmp_self];lia
theorem pA (x:O):same x z=0:=rfl
theorem gL (e:O) (n:Int) (r:O):same e (c e n r)=n+same e r:=by simp[same]
theorem same_ne {x e:O} (h:e≠x) (n:Int) (r:O):same x (c e n r)=same x r:=by simp[same,h]
theorem cu {e x:O} (hx:¬cmp x e<0):∀{r:O},Lt e r->same x r=0
 | z,_=>rfl
 | c y n t,h=>by
   have hy:y≠x:=λk=>hx (k▸h.1);rw[same_ne hy];exact cu hx h.2
theorem same_self {e:O} {n:Int} {r:O} (h:Lt e r):same e (c e n r)=n:=by
 rw[gL,cu (dW e) h];lia
theorem bt {x e:O} {n:Int} {r:O} (h:Lt e r) (hx:0<cmp x e):same x (c e n r)=0:=by
 have hne:e≠x:=λk=>by subst k;rw[cmp_self] at hx;lia
 rw[same_ne hne,cu (by lia) h]
theorem iT {x:O}:∀{a b:O},NF a->NF b->same x a<same x b->(∀y,0<cmp y x->same y a=same y b)->cmp a b<0
 | z,z,_,_,h,_=>by simp[same] at h
 | z,c _ _ _,_,_,_,_=>by simp[cmp]
 | c e n r,z,ha,_,h,_=>by
   have:=same_nonneg x ha;rw[pA] at h;lia
 | c e n r,c e' n' r',ha,hb,h,hy=>by
   rcases cmp_range e e' with k | k | k
   ·rw[cmp,ycv (by lia)];lia
   ·have k':=cmp_eq _ _ k;subst k';rw[cmp,ycw (by lia)];rcases cmp_range x e with q | q | q
    ·have hne:e≠x:=λz=>by subst z;rw[cmp_self] at q;lia
     have h1:=hy e (by have:=bp x e;lia);rw[same_self ha.2.2.1,same_self hb.2.2.1] at h1;subst h1;rw[ycw (by lia),ycw (by lia)];rw[same_ne hne,same_ne hne] at h;refine iT ha.2.2.2 hb.2.2.2 h λy hyx=>?_
     by_cases hye:e=y
     ·subst hye;rw[cu (dW e) ha.2.2.1,cu (dW e) hb.2.2.1]
     ·have:=hy y hyx;rw[same_ne hye,same_ne hye] at this;exact this
    ·have q':=cmp_eq _ _ q;subst q';rw[same_self ha.2.2.1,same_self hb.2.2.1] at h;rw[ycv h];lia
    ·rw[bt ha.2.2.1 (by lia),bt hb.2.2.1 (by lia)] at h;lia
   ·have hn:=ha.2.1;rcases cmp_range e x with q | q | q
    ·have qx:0<cmp x e:=by have:=bp e x;lia
     have qx':0<cmp x e':=by
      have:=bY e' e x (by have:=bp e e';lia) (by lia);have:=bp e' x;lia
     rw[bt ha.2.2.1 qx,bt hb.2.2.1 qx'] at h;lia
    ·have q':=cmp_eq _ _ q;subst q';rw[same_self ha.2.2.1,bt hb.2.2.1 (by lia)] at h;lia
    ·have h1:=hy e (by lia);rw[same_self ha.2.2.1,bt hb.2.2.1 (by lia)] at h1;lia
theorem iU:∀{a b:O},NF a->NF b->cmp a b<0->∃x,same x a<same x b/\∀y,0<cmp y x->same y a=same y b
 | z,z,_,_,h=>by simp[cmp] at h
 | z,c e n r,_,hb,_=>by
   refine⟨e,?_,λy hy=>?_⟩
   ·rw[same_self hb.2.2.1,pA];have:=hb.2.1;assumption
   ·rw[bt hb.2.2.1 hy,pA]
 | c _ _ _,z,_,_,h=>by simp[cmp] at h
 | c e n r,c e' n' r',ha,hb,h=>by
   rcases cmp_range e e' with k | k | k
   ·refine⟨e',?_,λy hy=>?_⟩
    ·rw[same_self hb.2.2.1,bt ha.2.2.1 (by have:=bp e e';lia)];have:=hb.2.1;assumption
    ·have hy2:0<cmp y e:=by
      have:=bY e e' y (by lia) (by have:=bp y e';lia);have:=bp e y;lia
     rw[bt hb.2.2.1 hy,bt ha.2.2.1 hy2]
   ·have k':=cmp_eq _ _ k;subst k';rw[cmp,ycw (by lia)] at h
    by_cases h1:n<n'
    ·refine⟨e,?_,λy hy=>?_⟩
     ·rw[same_self ha.2.2.1,same_self hb.2.2.1];exact h1
     ·rw[bt hb.2.2.1 hy,bt ha.2.2.1 hy]
    ·rw[ycw h1] at h
     by_cases h2:n'<n
     ·rw[ycv h2] at h;lia
     ·rw[ycw h2] at h;have hn:n=n':=by lia
      subst hn;obtain⟨x,hx,hy⟩:=iU ha.2.2.2 hb.2.2.2 h;have hxe:cmp x e<0:=by
       refine Classical.byContradiction λq=>?_;rw[cu q ha.2.2.1,cu q hb.2.2.1] at hx;lia
      have hne:e≠x:=λz=>by subst z;rw[cmp_self] at hxe;lia
      refine⟨x,by rw[same_ne hne,same_ne hne];exact hx,λy hyx=>?_⟩
      by_cases hye:e=y
      ·subst hye;rw[same_self ha.2.2.1,same_self hb.2.2.1]
      ·rw[same_ne hye,same_ne hye];exact hy y hyx
   ·rw[cmp,ycv (by lia)] at h;lia
noncomputable def plusO:O->O->O
 | a,z=>a
 | a,c e n r=>app (filt (λx _=>decide (0<cmp x e)) a) (c e (same e a+n) r)
theorem nF:∀(x a b:O),same x (app a b)=same x a+same x b
 | x,z,b=>by simp[app,same]
 | x,c e n r,b=>by
   have:=nF x r b;show same x (c e n (app r b))=_
   by_cases h:e=x
   ·subst h;rw[gL,gL,this];lia
   ·rw[same_ne h,same_ne h,this]
theorem kQ (p:O->Bool):∀(x a:O),same x (filt (λy _=>p y) a)=if p x then same x a else 0
 | x,z=>by simp[filt,same]
 | x,c e n r=>by
   have ih:=kQ p x r;unfold filt
   by_cases hp:p e=true
   ·rw[ycv hp]
    by_cases h:e=x
    ·subst h;rw[gL,gL,ih,ycv hp,ycv hp]
    ·rw[same_ne h,same_ne h,ih]
   ·rw[ycw hp,ih]
    by_cases h:e=x
    ·subst h;rw[ycw hp,ycw hp]
    ·rw[same_ne h]
theorem NF.join' {e:O} {n:Int} {b:O} (he:NF e) (hn:1<=n) (hb:NF b) (hl:Lt e b) {a:O} (ha:NF a):NF (O.app (O.filt (λx _=>decide (0<cmp x e)) a) (c e n b)):=by
 refine NF.join he hn hb hl (λx hx=>?_) ha;have:∀{b:O},Lt e b->Lt x b:=by
  intro b
  induction b with
  | z=>exact λ_=>trivial
  | c y m t _ ih=>exact λh=>⟨bY y e x h.1 (by have:=bp x e;lia),ih h.2⟩
 exact this hl
theorem NF.plus {a b:O} (ha:NF a) (hb:NF b):NF (plusO a b):=by
 cases b with
 | z=>exact ha
 | c e n r=>
   have:=same_nonneg e ha;exact NF.join' hb.1 (by have:=hb.2.1;lia) hb.2.2.2 hb.2.2.1 ha
theorem kR {a e:O} {n:Int} {r:O} (hr:Lt e r) (x:O):same x (plusO a (c e n r))=if 0<cmp x e then same x a else if cmp x e<0 then same x (c e n r) else same x a+same x (c e n r):=by
 show same x (app _ _)=_;rw[nF,kQ (λy=>decide (0<cmp y e))]
 by_cases h1:0<cmp x e
 ·rw[ycv (by simpa using h1),ycv h1,bt hr h1];lia
 ·rw[ycw (by simpa using h1),ycw h1]
  by_cases h2:cmp x e<0
  ·have hne:e≠x:=λz=>by subst z;rw[cmp_self] at h2;lia
   rw[ycv h2,same_ne hne,same_ne hne];lia
  ·have:cmp x e=0:=by lia
   have h3:=cmp_eq _ _ this;subst h3;rw[ycw h2,same_self hr,same_self hr];lia
end O
namespace O
def zt (b y:O):Prop:=∃w,cmp y w<0/\same w b≠0
theorem Dt (y:O):¬zt z y:=λ⟨_,_,h⟩=>h rfl
theorem zv {e:O} {n:Int} {r y:O} (hn:1<=n) (hr:Lt e r):zt (c e n r) y↔cmp y e<0:=by
 constructor
 ·rintro⟨w,hw,hs⟩;have:¬0<cmp w e:=λk=>hs (bt hr k);rcases cmp_range w e with k | k | k
  ·exact bY y w e hw (by lia)
  ·rw[cmp_eq _ _ k] at hw;exact hw
  ·lia
 ·intro h;exact⟨e,h,by rw[same_self hr];lia⟩
theorem cX {a b y:O} (hb:NF b) (h:zt b y):same y (plusO a b)=same y b:=by
 cases b with
 | z=>exact absurd h (Dt y)
 | c e n r=>
   have h':=(zv hb.2.1 hb.2.2.1).mp h;rw[kR hb.2.2.1,ycw (by lia),ycv h']
theorem cO {a b y:O} (hb:NF b) (h:¬zt b y):same y (plusO a b)=same y b+same y a:=by
 cases b with
 | z=>show same y a=0+same y a;lia
 | c e n r=>
   have h':¬cmp y e<0:=λk=>h ((zv hb.2.1 hb.2.2.1).mpr k);rw[kR hb.2.2.1]
   by_cases k:0<cmp y e
   ·rw[ycv k,bt hb.2.2.1 k];lia
   ·rw[ycw k,ycw h'];lia
theorem kS {b d x y:O} (h:∀y,0<cmp y x->same y b=same y d) (hy:¬cmp y x<0):zt b y↔zt d y:=by
 have go:∀w,cmp y w<0->0<cmp w x:=λw hw=>by
  have hs:=bp w x;rcases cmp_range y x with k | k | k
  ·lia
  ·rw[cmp_eq _ _ k] at hw;lia
  ·have h3:=bY x y w (by have:=bp y x;lia) hw;lia
 constructor
 ·rintro⟨w,hw,hs⟩;exact⟨w,hw,by rw[←h w (go w hw)];exact hs⟩
 ·rintro⟨w,hw,hs⟩;exact⟨w,hw,by rw[h w (go w hw)];exact hs⟩
theorem qA {a b d:O} (ha:NF a) (hb:NF b) (hd:NF d) (h:cmp b d<0):cmp (plusO a b) (plusO a d)<0:=by
 obtain⟨x,hx,hy⟩:=iU hb hd h;refine iT (x:=x) (ha.plus hb) (ha.plus hd) ?_ λy hyx=>?_
 ·have q:=kS hy (dW x)
  by_cases k:zt b x
  ·rw[cX hb k,cX hd (q.mp k)];exact hx
  ·rw[cO hb k,cO hd (λz=>k (q.mpr z))];lia
 ·have q:=kS (y:=y) hy (by lia)
  by_cases k:zt b y
  ·rw[cX hb k,cX hd (q.mp k)];exact hy y hyx
  ·rw[cO hb k,cO hd (λz=>k (q.mpr z)),hy y hyx]
theorem sh {f:O->O} {b d:O} (h1:cmp b d<0->cmp (f b) (f d)<0) (h2:cmp d b<0->cmp (f d) (f b)<0):cmp (f b) (f d)=cmp b d:=by
 rcases cmp_range b d with k | k | k
 ·have:=h1 (by lia);rcases cmp_range (f b) (f d) with q | q | q<;> lia
 ·rw[cmp_eq _ _ k,cmp_self,cmp_self]
 ·have:=h2 (by have:=bp b d;lia);have:=bp (f d) (f b);rcases cmp_range (f b) (f d) with q | q | q<;> lia
theorem nG {a b d:O} (ha:NF a) (hb:NF b) (hd:NF d):cmp (plusO a b) (plusO a d)=cmp b d:=sh (qA ha hb hd) (qA ha hd hb)
noncomputable def lW:O->O->O
 | z,b=>b
 | c e n r,z=>c e n r
 | c e n r,c e' n' r'=>if 0<cmp e e' then c e n (lW r (c e' n' r')) else if cmp e e'<0 then c e' n' (lW (c e n r) r') else c e (n+n') (lW r r')
termination_by a b=>a.len+b.len
decreasing_by all_goals (simp only[len];lia)
theorem Lt.mono {e f:O} (h:cmp e f<0):∀{r:O},Lt e r->Lt f r
 | z,_=>trivial
 | c _ _ _,k=>⟨bY _ _ _ k.1 h,Lt.mono h k.2⟩
end O
namespace O
noncomputable def getP:O->Nat->Option (O×Int)
 | z,_=>none
 | c e n _,0=>some (e,n)
 | c _ _ r,i+1=>getP r i
theorem getP_none:∀{a:O} {i:Nat},getP a i=none↔a.len<=i
 | z,i=>by simp[getP,len]
 | c e n r,0=>by simp[getP,len]
 | c e n r,i+1=>by
   have:=getP_none (a:=r) (i:=i);simp only[getP,len,this];lia
theorem getP_some {a:O} (h:i<a.len):∃e n,getP a i=some (e,n):=by
 cases k:getP a i with
 | none=>rw[getP_none] at k;lia
 | some p=>exact⟨p.1,p.2,rfl⟩
theorem getP_size:∀{a:O} {i:Nat} {e:O} {n:Int},getP a i=some (e,n)->e.size<a.size/\e.dp<a.dp
 | z,_,_,_,h=>by simp[getP] at h
 | c e n r,0,_,_,h=>by simp[getP] at h;obtain⟨rfl,rfl⟩:=h;simp only[size,dp];lia
 | c e n r,i+1,x,m,h=>by
   have:=getP_size (a:=r) (i:=i) (e:=x) (n:=m) (by simpa[getP] using h);simp only[size,dp];lia
noncomputable def stay (e a:O):Nat:=(filt (λx _=>decide (0<cmp x e)) a).len
theorem dw {y e:O} (h:¬0<cmp y e):∀{r:O},Lt y r->filt (λx _=>decide (0<cmp x e)) r=z
 | z,_=>rfl
 | c x n t,k=>by
   have hx:¬0<cmp x e:=λq=>by
    have h1:=bp x e;have h2:=bY e x y (by lia) k.1;have h3:=bp e y;lia
   unfold filt;rw[ycw (by simpa using hx)];exact dw h k.2
theorem filt_c (p:O->Int->Bool) (e:O) (n:Int) (r:O):filt p (c e n r)=if p e n then c e n (filt p r) else filt p r:=rfl
theorem eQ {e y:O} {n:Int} {r:O} (h:0<cmp y e):stay e (c y n r)=stay e r+1:=by
 unfold stay;rw[filt_c,ycv (by simpa using h)]
 rfl
theorem eR {e y:O} {n:Int} {r:O} (h:¬0<cmp y e) (hr:Lt y r):stay e (c y n r)=0:=by
 unfold stay;rw[filt_c,ycw (by simpa using h),dw h hr]
 rfl
theorem stay_le {e:O}:∀{a:O},stay e a<=a.len
 | z=>ycx _
 | c y n r=>by
   have:=stay_le (e:=e) (a:=r);unfold stay at this ⊢;unfold filt;split<;> simp only[len]<;> lia
theorem above_iff {e:O}:∀{a:O} {i:Nat} {x:O} {n:Int},NF a->getP a i=some (x,n)->(0<cmp x e↔i<stay e a)
 | z,_,_,_,_,h=>by simp[getP] at h
 | c y m r,0,x,n,ha,h=>by
   simp[getP] at h;obtain⟨rfl,rfl⟩:=h
   by_cases k:0<cmp y e
   ·rw[eQ k];exact⟨λ_=>by lia,λ_=>k⟩
   ·rw[eR k ha.2.2.1];exact⟨λq=>absurd q k,λq=>by lia⟩
 | c y m r,i+1,x,n,ha,h=>by
   have h':getP r i=some (x,n):=by simpa[getP] using h
   have ih:=above_iff (e:=e) ha.2.2.2 h'
   by_cases k:0<cmp y e
   ·rw[eQ k,ih];lia
   ·rw[eR k ha.2.2.1];constructor
    ·intro q;have z0:stay e r=0:=by unfold stay;rw[dw k ha.2.2.1];rfl
     have:=ih.mp q;lia
    ·intro q;lia
theorem same_stay {e:O}:∀{a:O},NF a->same e a=match getP a (stay e a) with | some (x,m)=>if x=e then m else 0 | none=>0
 | z,_=>rfl
 | c y n r,ha=>by
   by_cases k:0<cmp y e
   ·have hne:y≠e:=λq=>by subst q;rw[cmp_self] at k;lia
    rw[eQ k,same_ne hne,same_stay ha.2.2.2]
    rfl
   ·rw[eR k ha.2.2.1];show _=if y=e then n else 0
    by_cases q:y=e
    ·subst q;rw[ycv rfl,same_self ha.2.2.1]
    ·rw[ycw q,same_ne q];refine cu (λhl=>?_) ha.2.2.1;have h1:=bp e y;lia
noncomputable def takeO:Nat->O->O
 | 0,_=>z
 | _+1,z=>z
 | i+1,c e n r=>c e n (takeO i r)
theorem take_stay {e:O}:∀{a:O},NF a->takeO (stay e a) a=filt (λx _=>decide (0<cmp x e)) a
 | z,_=>rfl
 | c y n r,ha=>by
   by_cases k:0<cmp y e
   ·rw[eQ k,filt_c,ycv (by simpa using k),takeO,take_stay ha.2.2.2]
   ·rw[eR k ha.2.2.1,filt_c,ycw (by simpa using k),dw k ha.2.2.1]
    rfl
end O
namespace O
noncomputable def mx:O->Int
 | z=>0
 | c e n r=>max n (max (mx e) (mx r))
theorem mx_c (e:O) (n:Int) (r:O):mx (c e n r)=max n (max (mx e) (mx r)):=rfl
theorem qB {e:O} {n:Int} {r:O}:n<=mx (c e n r):=Int.le_max_left _ _
theorem uq {e:O} {n:Int} {r:O}:mx e<=mx (c e n r):=ydv (Int.le_max_left _ _) (Int.le_max_right _ _)
theorem nH {e:O} {n:Int} {r:O}:mx r<=mx (c e n r):=ydv (Int.le_max_right _ _) (Int.le_max_right _ _)
theorem pB {e:O} {n:Int} {r:O} {B:Int} (h1:n<=B) (h2:mx e<=B) (h3:mx r<=B):mx (c e n r)<=B:=Int.max_le.mpr ⟨h1,Int.max_le.mpr ⟨h2,h3⟩⟩
theorem mx_nonneg:∀a:O,0<=mx a
 | z=>Int.le_refl _
 | c _ _ r=>ydv (mx_nonneg r) nH
theorem ur:∀a b:O,mx (app a b)=max (mx a) (mx b)
 | z,b=>by have:=mx_nonneg b;show mx b=max 0 (mx b);lia
 | c e n r,b=>by
   show mx (c e n (app r b))=_;rw[mx_c,ur r b,mx_c,Int.max_assoc,Int.max_assoc]
theorem qC (p:O->Int->Bool):∀a:O,mx (filt p a)<=mx a
 | z=>Int.le_refl _
 | c e n r=>by
   have:=qC p r;rw[filt_c];split
   ·exact pB qB uq (ydv this nH)
   ·exact ydv this nH
theorem same_le_mx (x:O):∀{a:O},NF a->same x a<=mx a
 | z,_=>Int.le_refl _
 | c e n r,h=>by
   have h1:=same_le_mx x h.2.2.2;rw[mx_c]
   by_cases k:e=x
   ·subst k;rw[same_self h.2.2.1];lia
   ·rw[same_ne k];lia
theorem ut:∀a b:O,dp (app a b)=max (dp a) (dp b)
 | z,b=>by show dp b=max 0 (dp b);lia
 | c e n r,b=>by
   show dp (c e n (app r b))=_;simp only[dp,ut r b];rw[Nat.max_assoc]
theorem dp_filt (p:O->Int->Bool):∀a:O,dp (filt p a)<=dp a
 | z=>ycx _
 | c e n r=>by
   have:=dp_filt p r;rw[filt_c];split<;> simp only[dp]<;> lia
theorem dp_plus (a b:O):dp (plusO a b)<=max (dp a) (dp b):=by
 cases b with
 | z=>show dp a<=_;lia
 | c e n r=>
   show dp (app _ _)<=_;rw[ut];have:=dp_filt (λx _=>decide (0<cmp x e)) a;simp only[dp];lia
structure Hn (B:Int) (o:O):Prop where
 nf:NF o
 sz:o.size<=24
 mx:O.mx o<=B
end O
namespace O
theorem AW (a:O):plusO a z=a:=rfl
theorem plus_c (a e:O) (n:Int) (r:O):plusO a (c e n r)=app (filt (λx _=>decide (0<cmp x e)) a) (c e (same e a+n) r):=rfl
theorem Fe {a:O} (h:a≠z):cmp z a<0:=by
 cases a with
 | z=>exact absurd rfl h
 | c _ _ _=>simp[cmp]
theorem qD {e f:O} (he:NF e) (hf:NF f) (h:f≠z):cmp e (plusO e f)<0:=by
 have:=nG (b:=z) he trivial hf;rw[AW] at this;have:=Fe h;lia
noncomputable def mulP (e:O) (n:Int) (r:O):O->O
 | z=>z
 | c f d t=>if f=z then c e (n*d) r else c (plusO e f) d (mulP e n r t)
noncomputable def timesO:O->O->O
 | z,_=>z
 | c e n r,b=>mulP e n r b
theorem mulP_c (e:O) (n:Int) (r f:O) (d:Int) (t:O):mulP e n r (c f d t)=if f=z then c e (n*d) r else c (plusO e f) d (mulP e n r t):=rfl
theorem times_z (a:O):timesO a z=z:=by cases a<;> rfl
theorem qE {e:O} {n:Int} {r:O} (he:NF e) (hr:Lt e r) {f:O} (hf:NF f) (h0:f≠z):∀{t:O},NF t->Lt f t->Lt (plusO e f) (mulP e n r t)
 | z,_,_=>trivial
 | c g d u,ht,hl=>by
   rw[mulP_c];split
   ·exact⟨qD he hf h0,hr.mono (qD he hf h0)⟩
   ·exact⟨by rw[nG he ht.1 hf];exact hl.1,qE he hr hf h0 ht.2.2.2 hl.2⟩
theorem pC {a b:Int} (ha:1<=a) (hb:1<=b):1<=a*b:=by
 have:=Int.mul_le_mul ha hb (by lia) (by lia);simpa using this
theorem qF {e:O} {n:Int} {r:O} (h:NF (c e n r)):∀{t:O},NF t->NF (mulP e n r t)
 | z,_=>trivial
 | c g d u,ht=>by
   rw[mulP_c];split
   ·exact⟨h.1,pC h.2.1 ht.2.1,h.2.2.1,h.2.2.2⟩
   ·rename_i hg;exact⟨h.1.plus ht.1,ht.2.1,qE h.1 h.2.2.1 ht.1 hg ht.2.2.2 ht.2.2.1,qF h ht.2.2.2⟩
theorem NF.times {a b:O} (ha:NF a) (hb:NF b):NF (timesO a b):=by
 cases a with
 | z=>exact trivial
 | c e n r=>exact qF ha hb
theorem Lt_z {t:O} (h:Lt z t):t=z:=by
 cases t with
 | z=>rfl
 | c x _ _=>
   have:=h.1;cases x<;> simp[cmp] at this
section
variable {e:O} {n:Int} {r:O}
end
end O
namespace O
section
variable {e:O} {n:Int} {r:O}
end
end O
namespace O
end O
namespace O
noncomputable def hw:O->Nat
 | z=>0
 | c e _ r=>max (len r+1) (max (hw e) (hw r))
theorem hw_c (e:O) (n:Int) (r:O):hw (c e n r)=max (len r+1) (max (hw e) (hw r)):=rfl
theorem len_le_hw:∀a:O,len a<=hw a
 | z=>ycx _
 | c e n r=>by rw[hw_c];simp only[len];lia
theorem len_app':∀a b:O,(app a b).len=a.len+b.len
 | z,b=>by simp[app,len]
 | c e n r,b=>by have:=len_app' r b;simp only[app,len];lia
theorem len_filt' (p:O->Int->Bool):∀a:O,(a.filt p).len<=a.len
 | z=>ycx _
 | c e n r=>by
   have:=len_filt' p r;rw[filt_c];split<;> simp only[len]<;> lia
theorem uu:∀a b:O,hw (app a b)<=max (len a+len b) (max (hw a) (hw b))
 | z,b=>by show hw b<=_;lia
 | c e n r,b=>by
   have ih:=uu r b;show hw (c e n (app r b))<=_;have l0:len (c e n r)=len r+1:=rfl;have b1:hw e<=hw (c e n r):=ycy (le_max_left _ _) (le_max_right _ _);have b2:hw r<=hw (c e n r):=ycy (le_max_right _ _) (le_max_right _ _);have c1:len (c e n r)+len b<=max (len (c e n r)+len b) (max (hw (c e n r)) (hw b)):=le_max_left _ _;have c2:hw (c e n r)<=max (len (c e n r)+len b) (max (hw (c e n r)) (hw b)):=ycy (le_max_left _ _) (le_max_right _ _);have c3:hw b<=max (len (c e n r)+len b) (max (hw (c e n r)) (hw b)):=ycy (le_max_right _ _) (le_max_right _ _);generalize max (len (c e n r)+len b) (max (hw (c e n r)) (hw b))=R at c1 c2 c3 ⊢;rw[hw_c,len_app'];refine max_le.mpr ⟨by lia,max_le.mpr ⟨ycy b1 c2,ycy ih (max_le.mpr ⟨by lia,max_le.mpr ⟨ycy b2 c2,c3⟩⟩)⟩⟩
theorem hw_filt (p:O->Int->Bool):∀a:O,hw (filt p a)<=hw a
 | z=>ycx _
 | c e n r=>by
   have ih:=hw_filt p r;have h:=len_filt' p r;rw[filt_c];split
   ·rw[hw_c,hw_c];exact max_le.mpr ⟨ycy (Nat.succ_le_succ h) (le_max_left _ _),ycy (max_le.mpr ⟨le_max_left _ _,ycy ih (le_max_right _ _)⟩) (le_max_right _ _)⟩
   ·exact ycy ih (ycy (le_max_right _ _) (le_max_right _ _))
theorem hw_plus (a b:O):hw (plusO a b)<=hw a+hw b:=by
 cases b with
 | z=>show hw a<=_;lia
 | c e n r=>
   rw[plus_c];have h1:=uu (filt (λx _=>decide (0<cmp x e)) a) (c e (same e a+n) r);have h2:=hw_filt (λx _=>decide (0<cmp x e)) a;have h3:=len_filt' (λx _=>decide (0<cmp x e)) a;have h4:=len_le_hw a;have h5:=len_le_hw (c e n r);have e1:hw (c e (same e a+n) r)=hw (c e n r):=rfl;have e2:len (c e (same e a+n) r)=len (c e n r):=rfl;rw[e1,e2] at h1;exact ycy h1 (max_le.mpr ⟨by lia,max_le.mpr ⟨by lia,by lia⟩⟩)
theorem qG (e:O) (n:Int) (r:O):∀b:O,(mulP e n r b).len<=b.len+r.len
 | z=>by simp[mulP,len]
 | c f d t=>by
   have ih:=qG e n r t;rw[mulP_c];split<;> simp only[len]<;> lia
theorem uv (e:O) (n:Int) (r:O):∀b:O,hw (mulP e n r b)<=hw (c e n r)+hw b
 | z=>by simp[mulP,hw]
 | c f d t=>by
   have ih:=uv e n r t;have h1:=hw_plus e f;have h2:=qG e n r t;have h3:=len_le_hw t;have h4:hw e<=hw (c e n r):=ycy (le_max_left _ _) (le_max_right _ _);have h5:len r+1<=hw (c e n r):=le_max_left _ _;have h6:hw f<=hw (c f d t):=ycy (le_max_left _ _) (le_max_right _ _);have h7:hw t<=hw (c f d t):=ycy (le_max_right _ _) (le_max_right _ _);have h8:len t+1<=hw (c f d t):=le_max_left _ _;rw[mulP_c];split
   ·have e1:hw (c e (n*d) r)=hw (c e n r):=rfl;rw[e1];lia
   ·rw[hw_c (plusO e f)];exact max_le.mpr ⟨by lia,max_le.mpr ⟨by lia,by lia⟩⟩
theorem hw_times (a b:O):hw (timesO a b)<=hw a+hw b:=by
 cases a with
 | z=>show hw z<=_;exact zero_le _
 | c e n r=>exact uv e n r b
theorem qH (e:O) (n:Int) (r:O):∀b:O,(mulP e n r b).dp<=max (dp (c e n r)) (b.dp)
 | z=>by simp[mulP,dp]
 | c f d t=>by
   have ih:=qH e n r t;have h:=dp_plus e f;have h1:dp e+1<=dp (c e n r):=le_max_left _ _;have h2:dp f+1<=dp (c f d t):=le_max_left _ _;have h3:dp t<=dp (c f d t):=le_max_right _ _;rw[mulP_c];split
   ·have e1:dp (c e (n*d) r)=dp (c e n r):=rfl;rw[e1];exact le_max_left _ _
   ·refine max_le.mpr ⟨?_,ycy ih (max_le.mpr ⟨le_max_left _ _,ycy h3 (le_max_right _ _)⟩)⟩;rcases Nat.le_total (dp e) (dp f) with k | k
    ·rw[Nat.max_eq_right k] at h;exact ycy (Nat.succ_le_succ h) (ycy h2 (le_max_right _ _))
    ·rw[Nat.max_eq_left k] at h;exact ycy (Nat.succ_le_succ h) (ycy h1 (le_max_left _ _))
theorem dp_times (a b:O):dp (timesO a b)<=max (dp a) (dp b):=by
 cases a with
 | z=>show dp z<=_;exact zero_le _
 | c e n r=>exact qH e n r b
theorem mx_plus {a b:O} (ha:NF a):mx (plusO a b)<=mx a+mx b:=by
 have h0:=mx_nonneg a;cases b with
 | z=>show mx a<=mx a+0;lia
 | c e n r=>
   rw[plus_c,ur,mx_c,mx_c];have h2:=qC (λx _=>decide (0<cmp x e)) a;have h3:=same_le_mx e ha;have e1:n<=max n (max (mx e) (mx r)):=qB (e:=e) (r:=r);have e2:max (mx e) (mx r)<=max n (max (mx e) (mx r)):=Int.le_max_right _ _;have e3:0<=max n (max (mx e) (mx r)):=mx_nonneg (c e n r);generalize max n (max (mx e) (mx r))=M at e1 e2 e3 ⊢;refine Int.max_le.mpr ⟨ydv h2 (Int.le_add_of_nonneg_right e3),Int.max_le.mpr ⟨Int.add_le_add h3 e1,ydv e2 (Int.le_add_of_nonneg_left h0)⟩⟩
theorem uw {e:O} {n:Int} {r:O} (h:NF (c e n r)):∀{b:O},NF b->mx (mulP e n r b)<=(mx (c e n r)+1)*(mx b+1)
 | z,_=>by
   have:=mx_nonneg (c e n r);show(0:Int)<=(mx (c e n r)+1)*(0+1);lia
 | c f d t,hb=>by
   have ih:=uw h hb.2.2.2;have hp:=mx_plus (a:=e) (b:=f) h.1;have n0:=mx_nonneg (c e n r);have n1:=mx_nonneg f;have n2:=mx_nonneg t;have hd:=hb.2.1;have hn:=h.2.1;obtain⟨A,hA⟩:∃A,A=mx (c e n r):=⟨_,rfl⟩;rw[←hA] at ih n0 ⊢;rw[mx_c] at hA;have k1:(A+1)*(mx t+1)<=(A+1)*(mx (c f d t)+1):=Int.mul_le_mul_of_nonneg_left (Int.add_le_add_right nH 1) (Int.le_add_one n0);have e1:mx e<=A:=by rw[hA];exact uq
   have e2:mx r<=A:=by rw[hA];exact nH
   have e3:n<=A:=by rw[hA];exact qB
   have e4:mx f<=mx (c f d t):=uq;have e5:d<=mx (c f d t):=qB;have e6:=mx_nonneg (c f d t);clear hA n1 n2 hn;generalize mx (c f d t)=M at k1 e4 e5 e6 ⊢;have k2:A+M<=(A+1)*(M+1):=by
    have:=Int.mul_nonneg n0 e6;rw[Int.mul_add,Int.add_mul];generalize A*M=P at this ⊢;clear ih hp hd k1 e1 e2 e3 e4 e5;lia
   have k5:A<=(A+1)*(M+1):=ydv (Int.le_add_of_nonneg_right e6) k2;rw[mulP_c];split
   ·exact pB (Int.mul_le_mul (ydv e3 (Int.le_add_one (Int.le_refl A))) (ydv e5 (Int.le_add_one (Int.le_refl M))) (Int.le_of_lt hd) (Int.le_add_one n0)) (ydv e1 k5) (ydv e2 k5)
   ·exact pB (ydv (ydv e5 (Int.le_add_of_nonneg_left n0)) k2) (ydv (ydv hp (Int.add_le_add e1 e4)) k2) (ydv ih k1)
end O
namespace O
noncomputable def fg:O->O
 | z=>z
 | c e n z=>if n=1 then z else c e (n-1) z
 | c e n (c e' n' r')=>c e n (fg (c e' n' r'))
noncomputable def cH:O->O
 | z=>z
 | c e _ z=>e
 | c _ _ (c e' n' r')=>cH (c e' n' r')
theorem app_z:∀a:O,app a z=a
 | z=>rfl
 | c e n r=>by show c e n (app r z)=_;rw[app_z r]
def GQ (a:O):Prop:=a≠z/\same z a=0
inductive AX:O->Int->O->Prop where
 | suc {a:O} {n:Int} (h0:a≠z) (h:cH a=z):AX a n (fg a)
 | lim {a:O} {n:Int} {o:O} (h0:a≠z) (h:GQ (cH a)) (k:AX (cH a) n o):AX a n (app (fg a) (c o 1 z))
 | one {a:O} {n:Int} (h0:a≠z) (h:cH a≠z) (h':¬GQ (cH a)):AX a n (app (fg a) (if n=0 then z else c (fg (cH a)) n z))
end O
namespace O
theorem app_assoc:∀a b d:O,app (app a b) d=app a (app b d)
 | z,_,_=>rfl
 | c e k r,b,d=>by show c e k (app (app r b) d)=c e k (app r (app b d));rw[app_assoc r b d]
end O
namespace O
structure Rg (a b:O) (n:Int):Prop where
 pos:0<=n
 pass:∀o,AX a n o->cmp b o<0
 least:0<n->∀o,AX a (n-1) o->¬cmp b o<0
end O
namespace O
end O
namespace O
end O
namespace O
noncomputable def wh (m:Int):O:=if m=0 then z else c z m z
theorem NF.wh {m:Int} (h:0<=m):NF (wh m):=by
 unfold O.wh;split
 ·exact trivial
 ·exact⟨trivial,by lia,trivial,trivial⟩
theorem AY:wh 0=z:=rfl
theorem wh_pos {m:Int} (h:0<m):wh m=c z m z:=by unfold wh;rw[ycw (by lia)]
theorem jD (e:O) (n:Int) (r:O) (n':Int) (r':O):cmp (c e n r) (c e n' r')=if n<n' then -1 else if n'<n then 1 else cmp r r':=by
 rw[cmp,ycw (by rw[cmp_self];simp)]
end O
namespace O
noncomputable abbrev one:O:=c z 1 z
noncomputable abbrev lim (b:O):O:=filt (λy _=>decide (¬y=z)) b
theorem times_mx {a b:O} (ha:NF a) (hb:NF b):mx (timesO a b)<=(mx a+1)*(mx b+1):=by
 cases a with
 | z=>
   have:=mx_nonneg b;show(0:Int)<=(0+1)*(mx b+1);lia
 | c e n r=>exact uw ha hb
end O
namespace O
section
variable {x:O} {n m:Int}
end
end O
namespace O
noncomputable abbrev w1:O:=c one 1 z
end O
namespace O
end O
namespace O
noncomputable def ot:O->Int
 | z=>0
 | c _ n r=>max n (ot r)
end O
namespace O
end O
namespace O
noncomputable def val (b:Nat):O->Nat
 | z=>0
 | c e n r=>n.toNat*b^val b e+val b r
structure Wr (b:Nat) (a:O):Prop where
 nf:NF a
 mx:O.mx a<b
end O
namespace O
noncomputable def tp (b:Nat):O->Nat
 | z=>0
 | c e _ _=>val b e+1
end O
namespace O
open Classical in
noncomputable def rep (b s:Nat):O:=if h:∃o,Wr b o/\val b o=s then choose h else z
noncomputable def tl (b:Nat):Nat->O
 | 0=>z
 | s+1=>c (rep b s) ((b:Int)-1) (tl b s)
noncomputable def dn (b:Nat) (a:O):O:=app (fg a) (tl b (val b (cH a)))
end O
namespace O
inductive Wy (b:Nat):O->Prop where
 | z:Wy b z
 | c {a:O} (h0:a≠O.z) (nf:NF a) (w:Wr b (fg a)) (k:Wy b (cH a)):Wy b a
end O
namespace O
end O
namespace O
noncomputable def xb (b:Nat):Nat:=if b*b<=55 then b else 54/b+1
noncomputable def Ff (b:Nat):O:=if b<56 then c (c z 1 z) (xb b:Int) z else c z 55 z
structure Rw (b k:Nat) (a:O):Prop where
 wr:Wr (b+k) a
 aQ:Lt (Ff b) a
 tp:O.tp (b+k) a<=200
end O
namespace O
structure Hi (b:Nat) (a p e:O) (n:Int):Prop where
 app:a=O.app p (c e n z)
 wp:Wr b p
 we:Wr b e
 n1:1<=n
 n2:n<b
 last:cH a=e
 div:∃q,val b p=q*b^ (val b e+1)
 lt:p≠z->cmp e (cH p)<0
 dp:p.dp<=a.dp
 de:e.dp<a.dp
 aQ:∀x,Lt x a->Lt x p
end O
namespace O
end O
inductive Tr where
 | z
 | c (b r:Tr)
namespace Tr
noncomputable def pts:Tr->Nat
 | z=>1
 | c b r=>pts b+pts r
noncomputable def dp:Tr->Nat
 | z=>0
 | c b r=>max (dp b+1) (dp r)
noncomputable def len:Tr->Nat
 | z=>0
 | c _ r=>len r+1
noncomputable def sm (f:Nat->Nat):Nat->Nat
 | 0=>0
 | n+1=>sm f n+f n
structure Ho (n M:Nat) (ch:Nat->List Nat) (ds:Nat->Nat):Prop where
 pos:1<=n
 d0:ds 0=0
 in_:∀v,v<n->∀j,j∈ch v->v<j/\j<n/\ds j=ds v+1
 dp:∀v,v<n->ds v<=M
 sum:∀f:Nat->Nat,sm (λv=>((ch v).map f).sum) n+f 0=sm f n
 len:∀v,v<n->(ch v).length<=n
structure GR (n M k:Nat) (ch:Nat->List Nat) (ds:Nat->Nat) (t:Nat->Tr):Prop where
 pts:∀v,k<=v->v<n->Tr.pts (t v)=1+((ch v).map λj=>Tr.pts (t j)).sum
 dp:∀v,k<=v->v<n->Tr.dp (t v)+ds v<=M
end Tr
namespace Tr
open O
noncomputable def nO:Tr->O
 | z=> .z
 | c b r=>lW (.c (nO b) 1 .z) (nO r)
noncomputable def app:Tr->Tr->Tr
 | z,u=>u
 | c b r,u=>c b (app r u)
noncomputable def uz:Tr->Nat->Option Tr
 | z,_=>none
 | c b _,0=>some b
 | c _ r,i+1=>uz r i
noncomputable def uA:Tr->Nat->Tr->Tr
 | z,_,_=>z
 | c _ r,0,u=>app u r
 | c b r,i+1,u=>c b (uA r i u)
noncomputable def Du (b:Tr):Nat->Tr
 | 0=>z
 | n+1=>c b (Du b n)
noncomputable def xE (m:Nat):Tr->List Nat->Tr
 | t,[]=>t
 | t,[i]=>uA t i z
 | t,[i,j]=>match uz t i with
   | some b=>uA t i (Du (uA b j z) (1+m))
   | none=>t
 | t,i::j::k::w=>match uz t i with
   | some b=>uA t i (c (xE m b (j::k::w)) z)
   | none=>t
end Tr
namespace Tr
open O
end Tr
namespace Tr
open O
end Tr
namespace Tr
end Tr
namespace Tr
open O
end Tr
namespace Tr
noncomputable def Hq:Tr->Bool
 | z=>true
 | c _ _=>false
noncomputable def bare:Tr->Nat
 | z=>0
 | c b r=>(if Hq b=true then 1 else bare b)+bare r
end Tr
namespace O
inductive Ru (n:Int):O->O->Prop
 | less {a:O}:a≠ .z->cH a=.z->Ru n a (fg a)
 | succ {a:O}:a≠ .z->cH a≠ .z->cH (cH a)=.z->Ru n a (O.app (fg a) (.c (fg (cH a)) n .z))
 | lim {a o:O}:a≠ .z->cH a≠ .z->cH (cH a)≠ .z->Ru n (cH a) o->Ru n a (O.app (fg a) (.c o 1 .z))
end O
namespace Tr
open O
def xG (t:Tr) (i:Nat) (b:Tr):Prop:=uz t i=some b/\∀j d,uz t j=some d->(j<=i->0<=cmp (nO d) (nO b))/\(i<j->0<cmp (nO d) (nO b))
def GS:Tr->List Nat->Prop
 | t,[]=>t=z
 | t,i::w=>∃b,xG t i b/\GS b w
end Tr
namespace O
end O
namespace O
structure Bd (d s:Nat) (m:Int) (o:O):Prop where
 nf:o.NF
 dp:o.dp<=d
 sz:o.size<=s
 mx:O.mx o<=m
end O
namespace O
end O
namespace O
end O
namespace O
theorem len_app:∀a b:O,(app a b).len=a.len+b.len
 | z,b=>by simp[app,len]
 | c e n r,b=>by
   have:=len_app r b;show(app r b).len+1=r.len+1+b.len;lia
end O
namespace O
end O
namespace O
noncomputable def e1:O:=c z 1 z
inductive GU (B k l:Nat):Prop
 | two:B=2->k=16->l<2->GU B k l
 | three:B=3->k=27->l<3->GU B k l
end O
namespace O
end O
namespace O
inductive Dn (f:Nat->Int) (a:O):List O->O->Prop where
 | one:Dn f a [a] a
 | step {os:List O} {b o:O} (h:Dn f a os b) (hb:b≠z) (l:AX b (f (os.length-1)) o):Dn f a (os++[o]) o
end O
namespace Tr
instance decZ:(t:Tr)->Decidable (t=z)
 | z=> .isTrue rfl
 | c _ _=> .isFalse (λh=>by cases h)
noncomputable def Eo:List Tr->Tr
 | []=>z
 | [t]=>t
 | _::u::l=>Eo (u::l)
noncomputable def step (ls:List Tr) (s:Nat):Option (List Tr):=
 if s=40/\Eo ls=z/\ls.length<=41 then some (z::ls)
 else if s=41 then
  match ls with
  | t::u::l=>some (u.app (c t z)::l)
  | _=>none
 else none
structure Bg (ls:List Tr):Prop where
 ne:ls≠[]
 lo:Eo ls=z∨∃b,ls=[c b z]
 len:ls.length<=42
noncomputable def GV:List Nat->Bool->Int->Int->Option (Int×Int)
 | [],_,d,m=>some (d,m)
 | s::cs,f,d,m=>
   if ¬(s=40∨s=41)∨(f=false/\d=0) then none
   else
    let d':=d+1-2*(if s=41 then 1 else 0)
    if d'<0 then none else GV cs false d' (max m d')
noncomputable def rt (l:List Nat):Bool:=match GV l true 0 0 with
 | none=>false
 | some (d,m)=>decide (l≠[])&&decide (d=0)&&decide (l.length<=1200)&&decide (m<=41)
end Tr
namespace Tr
open O
inductive Fg (f:Nat->Nat) (t:Tr):List Tr->Tr->Prop
 | one:Fg f t [t] t
 | step {ts:List Tr} {u:Tr} {w:List Nat} (h:Fg f t ts u) (hz:u≠z) (hw:w≠[]) (hl:GS u w) (hp:pts (xE (f (ts.length-1)) u w)<=60):Fg f t (ts++[xE (f (ts.length-1)) u w]) (xE (f (ts.length-1)) u w)
section
variable {f:Nat->Nat} {t u:Tr} {ts:List Tr}
end
end Tr
open O
mutual
inductive Rw (α:Type) where
 | set (b:α) (n:Int)
 | copy (b o:α)
 | add (b o:α)
 | less (b:α)
 | times (b:α) (rs:pD α)
 | count (rs:pD α) (n:Int)
inductive pD (α:Type) where
 | nil
 | cons (r:Rw α) (rs:pD α)
end
noncomputable def om:O:= .c (O.wh 1) 1 .z
section
variable {α:Type}
mutual
noncomputable def Rw.wt:Rw α->O
 | .times _ rs=>O.timesO (O.plusO rs.wt (O.wh 1)) om
 | .count rs n=>O.plusO (O.timesO (O.plusO rs.wt (O.wh 1)) (O.wh n)) (O.wh 1)
 | _=>O.wh 1
noncomputable def pD.wt:pD α->O
 | .nil=> .z
 | .cons r rs=>O.plusO rs.wt r.wt
end
mutual
noncomputable def Rw.hb:Rw α->Nat
 | .times _ rs=>rs.hb+2
 | .count rs _=>rs.hb+3
 | _=>1
noncomputable def pD.hb:pD α->Nat
 | .nil=>0
 | .cons r rs=>rs.hb+r.hb
end
mutual
noncomputable def Rw.mb:Rw α->Nat
 | .times _ rs=>(rs.mb+2)*2
 | .count rs n=>(rs.mb+2)*(n.toNat+1)+1
 | _=>1
noncomputable def pD.mb:pD α->Nat
 | .nil=>0
 | .cons r rs=>rs.mb+r.mb
end
mutual
noncomputable def Rw.lb:Rw α->Nat
 | .count rs _=>rs.lb+2
 | _=>1
noncomputable def pD.lb:pD α->Nat
 | .nil=>0
 | .cons r rs=>rs.lb+r.lb
end
mutual
def Rw.nn:Rw α->Prop
 | .times _ rs=>rs.nn
 | .count rs n=>rs.nn/\0<=n
 | _=>True
def pD.nn:pD α->Prop
 | .nil=>True
 | .cons r rs=>r.nn/\rs.nn
end
mutual
noncomputable def Rw.dt:Rw α->Nat
 | .times _ rs=>rs.dt+1
 | .count rs _=>rs.dt+1
 | _=>0
noncomputable def pD.dt:pD α->Nat
 | .nil=>0
 | .cons r rs=>max r.dt rs.dt
end
structure Wb (o:O) (h m l:Nat):Prop where
 nf:o.NF
 dp:o.dp<=3
 hw:O.hw o<=h
 mx:O.mx o<=m
 ln:o.len<=l
theorem jE (a b:O):(O.plusO a b).len<=a.len+b.len:=by
 cases b with
 | z=>show a.len<=_;lia
 | c e n r=>
   rw[O.plus_c,O.len_app'];have:=O.len_filt' (λx _=>decide (0<O.cmp x e)) a;show _+(r.len+1)<=a.len+(r.len+1);lia
theorem Wb.wh {n:Int} (h:0<=n):Wb (O.wh n) 1 n.toNat 1:=by
 by_cases h0:n=0
 ·subst h0;exact⟨trivial,zero_le _,zero_le _,Int.le_refl _,zero_le _⟩
 ·rw[O.wh_pos (by lia)];refine⟨⟨trivial,by lia,trivial,trivial⟩,Nat.le_of_ble_eq_true rfl,Nat.le_of_ble_eq_true rfl,?_,Nat.le_of_ble_eq_true rfl⟩;show max n (max 0 0)<=_;lia
theorem zw:O.NF om:=⟨O.NF.wh (by decide),by decide,trivial,trivial⟩
end
noncomputable def rk (os:List O) (o:O):Nat:=(os.filter λx=>decide (cmp x o<0)).length
theorem kT {α:Type} {p q:α->Bool}:∀{l:List α},(∀x,x∈l->p x=true->q x=true)->(l.filter p).length<=(l.filter q).length
 | [],_=>ycx _
 | x::l,h=>by
   have ih:=kT (p:=p) (q:=q) (l:=l) λy hy=>h y (ybx _ hy);have hx:=h x yby;rw[filter_cons,filter_cons]
   by_cases e:p x=true
   ·rw[ycv e,ycv (hx e)];simp only[length_cons];lia
   ·rw[ycw e];split
    ·simp only[length_cons];lia
    ·exact ih
theorem iu {α:Type} {p q:α->Bool}:∀{l:List α} {a:α},a∈l->p a=false->q a=true->(∀x,x∈l->p x=true->q x=true)->(l.filter p).length<(l.filter q).length
 | x::l,a,ha,h1,h2,h=>by
   rw[filter_cons,filter_cons];rcases mem_cons.mp ha with rfl | ha
   ·have ih:=kT (p:=p) (q:=q) (l:=l) λy hy=>h y (ybx _ hy);rw[ycw (by rw[h1];exact ydx),ycv h2];simp only[length_cons];lia
   ·have ih:=iu (p:=p) (q:=q) ha h1 h2 λy hy=>h y (ybx _ hy);have hx:=h x yby
    by_cases e:p x=true
    ·rw[ycv e,ycv (hx e)];simp only[length_cons];lia
    ·rw[ycw e];split
     ·simp only[length_cons];lia
     ·exact ih
theorem qI {os:List O} {a b:O} (ha:a∈os) (h:cmp a b<0):rk os a<rk os b:=by
 unfold rk;refine iu ha ?_ (ydz h) λx _ hx=>?_
 ·rw[cmp_self];rfl
 ·exact ydz (bY x a b (of_decide_eq_true hx) h)
theorem AZ {os:List O} {a:O} (ha:a∈os):rk os a<os.length:=by
 have h:=iu (p:=λx=>decide (cmp x a<0)) (q:=λ_=>true) ha (by rw[cmp_self];rfl) rfl λ_ _ _=>rfl;have e:(os.filter λ_=>true)=os:=List.filter_eq_self.mpr λ_ _=>rfl;unfold rk;rw[e] at h;exact h
theorem uB {os:List O} {a b:O} (ha:a∈os) (hb:b∈os):rk os a<rk os b↔cmp a b<0:=by
 constructor
 ·intro h;rcases cmp_range a b with e | e | e
  ·lia
  ·rw[cmp_eq a b e] at h;lia
  ·have:cmp b a<0:=by rw[bp];lia
   have:=qI hb this;lia
 ·exact qI ha
theorem A0 {os:List O} {a b:O} (ha:a∈os) (hb:b∈os) (h:rk os a=rk os b):a=b:=by
 rcases cmp_range a b with e | e | e
 ·have:=qI ha (show cmp a b<0 by lia);lia
 ·exact cmp_eq a b e
 ·have:=qI hb (show cmp b a<0 by rw[bp];lia);lia
theorem qJ {α:Type} [DecidableEq α]:∀{l m:List α},l.Nodup->(∀x,x∈l->x∈m)->m.length=l.length->l.Perm m
 | [],m,_,_,e=>by rw[List.eq_nil_of_length_eq_zero e]
 | x::l,m,hn,hs,e=>by
   rw[nodup_cons] at hn;have hx:=hs x yby;have h1:=List.perm_cons_erase hx;refine List.Perm.trans (List.Perm.cons x (qJ (m:=m.erase x) hn.2 (λy hy=>?_) ?_)) h1.symm
   ·exact(List.mem_erase_of_ne (λ(z:y=x)=>hn.1 (by rw[←z];exact hy))).mpr (hs y (ybx _ hy))
   ·rw[List.length_erase_of_mem hx,e];rfl
def dC (l:List O):Prop:=l.Pairwise λa b=>cmp b a<0
theorem xH {os:List O} {n:Nat} (hn:os.length=n) (hd:os.Nodup) {p:List Nat} (hp:(p.map λi=>(os.map (rk os)).getD i 0)=List.range n) (hi:∀i,i∈p->i<n):
 dC ((p.map λi=>os.getD i .z).reverse)/\((p.map λi=>os.getD i .z).reverse).Perm os:=by
 have hm:∀i,i∈p->os.getD i .z∈os:=λi h=>by
  have hi':=hi i h;rw[List.getD_eq_getElem?_getD,ycz (by lia)];exact getElem_mem _
 have he:∀i,i∈p->(os.map (rk os)).getD i 0=rk os (os.getD i .z):=λi h=>by
  have hi':=hi i h;rw[List.getD_eq_getElem?_getD,List.getD_eq_getElem?_getD,List.getElem?_map,ycz (by lia)]
  rfl
 have hr:(p.map λi=>os.getD i .z).map (rk os)=List.range n:=by
  rw[map_map,←hp];exact List.map_congr_left λi h=>(he i h).symm
 have hmem:∀x,x∈(p.map λi=>os.getD i .z)->x∈os:=λx hx=>by
  obtain⟨i,h1,rfl⟩:=mem_map.mp hx;exact hm i h1
 generalize (p.map λi=>os.getD i .z)=asc at hr hmem;have hlen:asc.length=n:=by have:=congrArg List.length hr;simpa using this
 have hpw:asc.Pairwise λa b=>cmp a b<0:=by
  have h1:(asc.map (rk os)).Pairwise (·< ·):=by rw[hr];exact List.pairwise_lt_range
  rw[pairwise_map] at h1;exact h1.imp_of_mem λ{a b} ha hb h=>(uB (hmem a ha) (hmem b hb)).mp h
 constructor
 ·unfold dC;rw[List.pairwise_reverse];exact hpw
 ·refine(List.reverse_perm asc).trans (qJ ?_ hmem (by lia));exact hpw.imp λ{a b} h z=>by rw[z,cmp_self] at h;lia
mutual
inductive Rq (α:Type) where
 | set (b:α) (n:Int)
 | copy (b o:α)
 | add (b o:α)
 | less (b:α)
 | times (b:α) (rs:aT α)
 | count (rs:aT α) (n:Int)
 | whl (b:α) (hs:List (O×List α)) (rs:aT α)
 | bear (b:α) (hs:List (O×List α)) (rs:aT α) (o:O)
inductive aT (α:Type) where
 | nil
 | cons (r:Rq α) (rs:aT α)
end
section
variable {α:Type}
noncomputable def zx:List (O×List α)->O
 | []=> .z
 | p::_=>O.plusO p.1 (O.wh 1)
noncomputable def hpw (hs:List (O×List α)):O:= .c (zx hs) 1 .z
mutual
noncomputable def Rq.wt:Rq α->O
 | .times _ rs=>O.timesO (O.plusO rs.wt (O.wh 1)) om
 | .count rs n=>O.plusO (O.timesO (O.plusO rs.wt (O.wh 1)) (O.wh n)) (O.wh 1)
 | .whl _ hs rs=>O.plusO (O.timesO (O.plusO rs.wt (O.wh 2)) (hpw hs)) (O.wh 1)
 | .bear _ _ rs o=>O.plusO (O.timesO (O.plusO rs.wt (O.wh 2)) o) (O.wh 1)
 | _=>O.wh 1
noncomputable def aT.wt:aT α->O
 | .nil=> .z
 | .cons r rs=>O.plusO rs.wt r.wt
end
noncomputable def aT.rnd (rs:aT α):O:=O.plusO rs.wt (O.wh 1)
noncomputable def aT.rnw (rs:aT α):O:=O.plusO rs.wt (O.wh 2)
mutual
noncomputable def Rq.hb:Rq α->Nat
 | .times _ rs=>rs.hb+2
 | .count rs _=>rs.hb+3
 | .whl _ hs rs=>rs.hb+hw (hpw hs)+2
 | .bear _ _ rs o=>rs.hb+hw o+2
 | _=>1
noncomputable def aT.hb:aT α->Nat
 | .nil=>0
 | .cons r rs=>rs.hb+r.hb
end
mutual
noncomputable def Rq.mb:Rq α->Nat
 | .times _ rs=>(rs.mb+2)*2
 | .count rs n=>(rs.mb+2)*(n.toNat+1)+1
 | .whl _ hs rs=>(rs.mb+3)*((mx (hpw hs)).toNat+1)+1
 | .bear _ _ rs o=>(rs.mb+3)*((mx o).toNat+1)+1
 | _=>1
noncomputable def aT.mb:aT α->Nat
 | .nil=>0
 | .cons r rs=>rs.mb+r.mb
end
mutual
noncomputable def Rq.lb:Rq α->Nat
 | .count rs _=>rs.lb+2
 | .whl _ hs rs=>match hs with
   | []=>rs.lb+2
   | _::_=>2
 | .bear _ _ rs o=>rs.lb+1+o.len+1
 | _=>1
noncomputable def aT.lb:aT α->Nat
 | .nil=>0
 | .cons r rs=>rs.lb+r.lb
end
def sI (d:Nat) (hs:List (O×List α)):Prop:=∀p,p∈hs->p.1.NF/\p.1.dp<=d/\O.hw p.1<=100
mutual
def Rq.nn:Rq α->Prop
 | .times _ rs=>rs.nn
 | .count rs n=>rs.nn/\0<=n
 | .whl _ hs rs=>rs.nn/\sI 3 hs
 | .bear _ hs rs o=>rs.nn/\sI 3 hs/\o.NF/\o.dp<=4
 | _=>True
def aT.nn:aT α->Prop
 | .nil=>True
 | .cons r rs=>r.nn/\rs.nn
end
mutual
noncomputable def Rq.dt:Rq α->Nat
 | .times _ rs=>rs.dt+1
 | .count rs _=>rs.dt+1
 | .whl _ _ rs=>rs.dt+1
 | .bear _ _ rs _=>rs.dt+1
 | _=>0
noncomputable def aT.dt:aT α->Nat
 | .nil=>0
 | .cons r rs=>max r.dt rs.dt
end
noncomputable def aT.L:aT α->List (Rq α)
 | .nil=>[]
 | .cons r rs=>r::rs.L
noncomputable def aT.of:List (Rq α)->aT α
 | []=> .nil
 | r::rs=> .cons r (aT.of rs)
theorem aT.of_L:∀rs:aT α,aT.of rs.L=rs
 | .nil=>rfl
 | .cons r rs=>by rw[aT.L,aT.of,aT.of_L rs]
theorem aT.L_of:∀rs:List (Rq α),(aT.of rs).L=rs
 | []=>rfl
 | r::rs=>by rw[aT.of,aT.L,aT.L_of rs]
noncomputable def dP:List (Rq α)->O
 | []=> .z
 | r::rs=>O.plusO (dP rs) r.wt
theorem qK:∀rs:List (Rq α),(aT.of rs).wt=dP rs
 | []=>rfl
 | r::rs=>by rw[aT.of,aT.wt,dP,qK rs]
structure Wq (o:O) (h m l:Nat):Prop where
 nf:o.NF
 dp:o.dp<=4
 hw:O.hw o<=h
 mx:O.mx o<=m
 ln:o.len<=l
theorem Wq.plus {a b:O} {h m l h' m' l':Nat} (x:Wq a h m l) (y:Wq b h' m' l'):Wq (O.plusO a b) (h+h') (m+m') (l+l'):=by
 refine⟨x.nf.plus y.nf,?_,?_,?_,?_⟩
 ·exact ycy (O.dp_plus a b) (max_le.mpr ⟨x.dp,y.dp⟩)
 ·have:=O.hw_plus a b;have:=x.hw;have:=y.hw;lia
 ·have:=O.mx_plus (b:=b) x.nf;have:=x.mx;have:=y.mx;lia
 ·have:=jE a b;have:=x.ln;have:=y.ln;lia
theorem Wq.z:Wq .z 0 0 0:=⟨trivial,zero_le _,ycx _,Int.le_refl _,ycx _⟩
theorem Wq.of {o:O} {h m l:Nat} (x:Wb o h m l):Wq o h m l:=⟨x.nf,Nat.le_succ_of_le x.dp,x.hw,x.mx,x.ln⟩
theorem Wq.wh {n:Int} (h:0<=n):Wq (O.wh n) 1 n.toNat 1:= .of (.wh h)
theorem nI (e:O) (n:Int) (r:O):∀b:O,(O.mulP e n r b).len<=r.len+1+b.len
 | .z=>zero_le _
 | .c f d t=>by
   rw[O.mulP_c];split
   ·show r.len+1<=r.len+1+(t.len+1);lia
   ·have:=nI e n r t;show(O.mulP e n r t).len+1<=r.len+1+(t.len+1);lia
theorem iw (a b:O):(O.timesO a b).len<=a.len+b.len:=by
 cases a with
 | z=>exact zero_le _
 | c e n r=>exact nI e n r b
theorem Wq.times {a b:O} {h m l:Nat} (x:Wq a h m l) (hb:b.NF) (hd:b.dp<=4) (hk:(O.timesO a b).len<=k):Wq (O.timesO a b) (h+O.hw b) ((m+1)*((O.mx b).toNat+1)) k:=by
 refine⟨x.nf.times hb,?_,?_,?_,hk⟩
 ·exact ycy (O.dp_times a b) (max_le.mpr ⟨x.dp,hd⟩)
 ·have:=O.hw_times a b;have:=x.hw;lia
 ·have h1:=O.times_mx x.nf hb;have h2:=x.mx;have h5:=O.mx_nonneg b;have h3:(O.mx a+1)*(O.mx b+1)<=((m:Int)+1)*(((O.mx b).toNat:Int)+1):=Int.mul_le_mul (by lia) (by lia) (by lia) (by lia);have h4:(((m+1)*((O.mx b).toNat+1):Nat):Int)=((m:Int)+1)*(((O.mx b).toNat:Int)+1):=by simp
  lia
theorem Wq.lia {a:O} {h m l:Nat} (x:Wq a h m l):Wq (O.timesO a om) (h+1) ((m+1)*2) 1:=by
 refine x.times (b:=om) zw (by decide) ?_;cases a with
 | z=>exact zero_le _
 | c e n r=>
   show(O.mulP e n r (.c (O.wh 1) 1 .z)).len<=1;rw[O.mulP_c,ycw (by decide)];exact ycx _
theorem Wq.many {a:O} {h m l:Nat} (x:Wq a h m l) {n:Int} (hn:0<=n):Wq (O.timesO a (O.wh n)) (h+1) ((m+1)*(n.toNat+1)) l:=by
 have y:=Wb.wh hn;have hk:(O.timesO a (O.wh n)).len<=l:=by
  by_cases h0:n=0
  ·subst h0;rw[show O.wh 0=.z from rfl,O.times_z];exact zero_le _
  ·rw[O.wh_pos (by lia)];cases a with
   | z=>exact zero_le _
   | c e k r=>
     show(O.mulP e k r (.c .z n .z)).len<=l;rw[O.mulP_c,ycv rfl];exact x.ln
 have z:=x.times y.nf (Nat.le_succ_of_le y.dp) hk;refine⟨z.nf,z.dp,ycy z.hw (Nat.add_le_add_left y.hw _),ydv z.mx ?_,z.ln⟩;have h5:=y.mx;exact Int.ofNat_le.mpr (Nat.mul_le_mul_left _ (by lia))
theorem uC {hs:List (O×List α)} (h:sI 3 hs):(zx hs).NF/\(zx hs).dp<=3:=by
 cases hs with
 | nil=>exact⟨trivial,zero_le _⟩
 | cons p hs=>
   obtain⟨h1,h2,_⟩:=h p yby;have y:=Wb.wh (n:=1) (by decide);exact⟨h1.plus y.nf,ycy (O.dp_plus p.1 (O.wh 1)) (max_le.mpr ⟨h2,y.dp⟩)⟩
theorem uD {hs:List (O×List α)} (h:sI 3 hs):(hpw hs).NF/\(hpw hs).dp<=4:=by
 obtain⟨h1,h2⟩:=uC h;refine⟨⟨h1,by decide,trivial,trivial⟩,?_⟩;show max ((zx hs).dp+1) 0<=4;lia
theorem A1 (p:O×List α) (hs:List (O×List α)):zx (p::hs)≠ .z:=by
 show O.plusO p.1 (O.wh 1)≠ .z;rw[O.wh_pos (by decide),O.plus_c];intro h;have:=congrArg O.len h;rw[O.len_app'] at this;simp[O.len] at this
theorem xI (a:O) (hs:List (O×List α)):(O.timesO a (hpw hs)).len<=match hs with
 | []=>a.len
 | _::_=>1:=by
 cases a with
 | z=>exact zero_le _
 | c e n r=>
   cases hs with
   | nil=>
     show(O.mulP e n r (.c .z 1 .z)).len<=_;rw[O.mulP_c,ycv rfl];exact ycx _
   | cons p hs=>
     show(O.mulP e n r (.c (zx (p::hs)) 1 .z)).len<=1;rw[O.mulP_c,ycw (A1 p hs)];exact ycx _
mutual
theorem Rq.wq:∀r:Rq α,r.nn->Wq r.wt r.hb r.mb r.lb
 | .set _ _,_=>Wq.wh (n:=1) (by decide)
 | .copy _ _,_=>Wq.wh (n:=1) (by decide)
 | .add _ _,_=>Wq.wh (n:=1) (by decide)
 | .less _,_=>Wq.wh (n:=1) (by decide)
 | .times _ rs,h=>by
   have:=((aT.wq rs h).plus (Wq.wh (n:=1) (by decide))).lia;exact this
 | .count rs n,h=>by
   have:=(((aT.wq rs h.1).plus (Wq.wh (n:=1) (by decide))).many h.2).plus (Wq.wh (n:=1) (by decide));exact this
 | .whl _ hs rs,h=>by
   obtain⟨h1,h2⟩:=uD h.2;have x:=(aT.wq rs h.1).plus (Wq.wh (n:=2) (by decide));have y:=(x.times h1 h2 (xI _ hs)).plus (Wq.wh (n:=1) (by decide));refine⟨y.nf,y.dp,?_,y.mx,?_⟩
   ·refine ycy y.hw ?_;show _<=rs.hb+O.hw (hpw hs)+2;lia
   ·have h3:=y.ln;cases hs with
    | nil=>
      have h4:=x.ln;simp only at h3;show _<=rs.lb+2;exact ycy h3 (by lia)
    | cons p hs=>exact h3
 | .bear _ _ rs o,h=>by
   have x:=(aT.wq rs h.1).plus (Wq.wh (n:=2) (by decide));have y:=(x.times h.2.2.1 h.2.2.2 (ycy (iw _ o) (Nat.add_le_add_right x.ln _))).plus (Wq.wh (n:=1) (by decide));refine⟨y.nf,y.dp,?_,y.mx,y.ln⟩;refine ycy y.hw ?_;show _<=rs.hb+O.hw o+2;lia
theorem aT.wq:∀rs:aT α,rs.nn->Wq rs.wt rs.hb rs.mb rs.lb
 | .nil,_=>Wq.z
 | .cons r rs,h=>(aT.wq rs h.2).plus (Rq.wq r h.1)
end
theorem aT.rb {rs:aT α} (h:rs.nn):Wq rs.rnd (rs.hb+1) (rs.mb+1) (rs.lb+1):=(rs.wq h).plus (Wq.wh (n:=1) (by decide))
theorem aT.rbw {rs:aT α} (h:rs.nn):Wq rs.rnw (rs.hb+1) (rs.mb+2) (rs.lb+1):=(rs.wq h).plus (Wq.wh (n:=2) (by decide))
noncomputable def insO (o:O):List O->List O
 | []=>[o]
 | x::l=>if cmp o x=0 then x::l else if cmp o x=1 then o::x::l else x::insO o l
theorem mem_insO {x o:O}:∀{l:List O},x∈insO o l↔x=o∨x∈l
 | []=>by simp[insO]
 | y::l=>by
   unfold insO;split
   ·rename_i h;have:=cmp_eq o y h;subst this;simp
   ·split
    ·simp
    ·rw[mem_cons,mem_cons,mem_insO (l:=l)];constructor
     ·rintro(h | h | h)
      ·exact .inr (.inl h)
      ·exact .inl h
      ·exact .inr (.inr h)
     ·rintro(h | h | h)
      ·exact .inr (.inl h)
      ·exact .inl h
      ·exact .inr (.inr h)
theorem dC.insO {o:O}:∀{l:List O},dC l->dC (insO o l)
 | [],_=>List.pairwise_singleton _ _
 | y::l,h=>by
   obtain⟨h1,h2⟩:=pairwise_cons.mp h;unfold Nm.insO;split
   ·exact h
   ·rename_i e0;split
    ·rename_i e1;refine pairwise_cons.mpr ⟨λx hx=>?_,h⟩;have e2:cmp y o<0:=by rw[bp,e1];decide
     rcases mem_cons.mp hx with rfl | hx
     ·exact e2
     ·exact bY x y o (h1 x hx) e2
    ·rename_i e1;refine pairwise_cons.mpr ⟨λx hx=>?_,dC.insO h2⟩;rcases mem_insO.mp hx with rfl | hx
     ·rcases cmp_range x y with e | e | e<;> lia
     ·exact h1 x hx
noncomputable def iV (l:List O):List O:=l.foldr insO []
theorem mem_descO {x:O}:∀{l:List O},x∈iV l↔x∈l
 | []=>Iff.rfl
 | y::l=>by
   show x∈insO y (iV l)↔_;rw[mem_insO,mem_descO (l:=l),mem_cons]
theorem fU:∀l:List O,dC (iV l)
 | []=>List.Pairwise.nil
 | _::l=>(fU l).insO
theorem dC.uniq:∀{l m:List O},dC l->dC m->(∀x,x∈l↔x∈m)->l=m
 | [],[],_,_,_=>rfl
 | [],y::m,_,_,h=>(nomatch (h y).mpr yby)
 | x::l,[],_,_,h=>(nomatch (h x).mp yby)
 | x::l,y::m,h1,h2,h=>by
   obtain⟨a1,a2⟩:=pairwise_cons.mp h1;obtain⟨b1,b2⟩:=pairwise_cons.mp h2;have e:x=y:=by
    rcases mem_cons.mp ((h x).mp yby) with e | e
    ·exact e
    ·rcases mem_cons.mp ((h y).mpr yby) with e' | e'
     ·exact e'.symm
     ·have p:=b1 x e;have q:=a1 y e';rw[bp] at q;lia
   subst e;have:=dC.uniq (l:=l) (m:=m) a2 b2 λz=>by
    constructor
    ·intro hz;rcases mem_cons.mp ((h z).mp (ybx _ hz)) with rfl | e
     ·have:=a1 z hz;rw[cmp_self] at this;lia
     ·exact e
    ·intro hz;rcases mem_cons.mp ((h z).mpr (ybx _ hz)) with rfl | e
     ·have:=b1 z hz;rw[cmp_self] at this;lia
     ·exact e
   rw[this]
noncomputable def bE (ms:List (O×α)) (o:O):List α:=(ms.filter λm=>decide (m.1=o)).map (·.2)
theorem fV (ms:List (O×α)) (m:O×α) (o:O):bE (ms++[m]) o=bE ms o++(if m.1=o then [m.2] else []):=by
 unfold bE;rw[List.filter_append,map_append]
 congr 1
 by_cases h:m.1=o
 ·rw[ycv h,filter_cons_of_pos (by simpa using h)];rfl
 ·rw[ycw h,filter_cons_of_neg (by simpa using h)];rfl
theorem jF {ms:List (O×α)} {o:O} (h:o∉ms.map (·.1)):bE ms o=[]:=by
 unfold bE;rw[List.filter_eq_nil_iff.mpr λm hm=>by simp only[decide_eq_true_eq];exact λe=>h (mem_map.mpr ⟨m,hm,e⟩)]
 rfl
noncomputable def d7 (ms:List (O×α)):List (O×List α):=(iV (ms.map (·.1))).map λo=>(o,bE ms o)
theorem uE {ms:List (O×α)} {ks:List O} (h1:dC ks) (h2:∀o,o∈ks↔o∈ms.map (·.1)):(ks.map λo=>(o,bE ms o))=d7 ms:=by
 unfold d7;rw[dC.uniq h1 (fU _) λx=>(h2 x).trans mem_descO.symm]
theorem xJ {ms:List (O×α)} {p:O×List α} (h:p∈d7 ms):p.1∈ms.map (·.1):=by
 obtain⟨o,ho,rfl⟩:=mem_map.mp h;exact mem_descO.mp ho
end
section
variable {α:Type}
noncomputable def cP (g:α->Int):List α->Int
 | []=>0
 | n::ns=>g n+cP g ns
theorem je {g:α->Int} (h:∀x,0<=g x):∀l:List α,0<=cP g l
 | []=>Int.le_refl _
 | n::ns=>by have:=je h ns;have:=h n;simp only[cP];lia
theorem qL {g:α->Int} {B:Int} (h:∀x,g x<=B):∀l:List α,cP g l<=l.length*B
 | []=>by simp[cP]
 | n::ns=>by
   have:=qL h ns;have:=h n;simp only[cP,length_cons];rw[Int.natCast_succ,Int.add_mul];lia
noncomputable def bN (g:α->Int):List (O×List α)->O
 | []=> .z
 | p::hs=>if cP g p.2=0 then bN g hs else .c p.1 (cP g p.2) (bN g hs)
theorem fh (g:α->Int):∀hs:List (O×List α),(bN g hs).len<=hs.length
 | []=>ycx _
 | p::hs=>by
   have:=fh g hs;unfold bN;split
   ·rw[length_cons];lia
   ·simp only[O.len,length_cons];lia
theorem qM {g:α->Int} {x:O}:∀{hs:List (O×List α)},(∀p,p∈hs->cmp p.1 x<0)->Lt x (bN g hs)
 | [],_=>trivial
 | p::hs,h=>by
   have ih:=qM (g:=g) (x:=x) (hs:=hs) λq hq=>h q (ybx _ hq);unfold bN;split
   ·exact ih
   ·exact⟨h p yby,ih⟩
theorem qN {g:α->Int} (hg:∀x,0<=g x):∀{hs:List (O×List α)},sI 3 hs->dC (hs.map (·.1))->NF (bN g hs)
 | [],_,_=>trivial
 | p::hs,h,hd=>by
   rw[map_cons] at hd;obtain⟨d1,d2⟩:=pairwise_cons.mp hd;have ih:=qN hg (hs:=hs) (λq hq=>h q (ybx _ hq)) d2;have hs0:=je hg p.2;unfold bN;split
   ·exact ih
   ·exact⟨(h p yby).1,by lia,qM λq hq=>d1 q.1 (mem_map.mpr ⟨q,hq,rfl⟩),ih⟩
theorem kU {g:α->Int} {B:Int} {n:Nat} {M:Int} (hg:∀x,0<=g x/\g x<=B) (hM:0<=M):∀{hs:List (O×List α)},sI 3 hs->(∀p,p∈hs->p.2.length<=n/\mx p.1<=M)->(bN g hs).dp<=4/\hw (bN g hs)<=max hs.length 100/\mx (bN g hs)<=max M (n*B)
 | [],_,_=>by refine⟨zero_le _,zero_le _,?_⟩;simp only[bN,mx];lia
 | p::hs,h,hb=>by
   obtain⟨i1,i2,i3⟩:=kU hg hM (hs:=hs) (λq hq=>h q (ybx _ hq)) (λq hq=>hb q (ybx _ hq));obtain⟨h1,h2,h3⟩:=h p yby;obtain⟨b1,b2⟩:=hb p yby;have hl:=fh g hs;unfold bN;split
   ·exact⟨i1,by rw[length_cons];lia,i3⟩
   ·have hB:0<=B:=by
     cases hp:p.2 with
     | nil=>
       rename_i hne;rw[hp] at hne;exact absurd rfl hne
     | cons x _=>have:=hg x;lia
    have s1:=qL (λx=>(hg x).2) p.2;have s2:(p.2.length:Int)*B<=n*B:=Int.mul_le_mul_of_nonneg_right (by lia) hB;refine⟨by simp only[O.dp];lia,?_,?_⟩
    ·rw[hw_c,length_cons];exact max_le.mpr ⟨ycy (Nat.succ_le_succ hl) (le_max_left _ _),max_le.mpr ⟨ycy h3 (le_max_right _ _),ycy i2 (max_le.mpr ⟨ycy (le_succ _) (le_max_left _ _),le_max_right _ _⟩)⟩⟩
    ·rw[mx_c];exact Int.max_le.mpr ⟨ydv (ydv s1 s2) (Int.le_max_right _ _),Int.max_le.mpr ⟨ydv b2 (Int.le_max_left _ _),i3⟩⟩
theorem qO (g:α->Int):∀{hs:List (O×List α)},sI 3 hs->(bN g hs).dp<=4
 | [],_=>zero_le _
 | p::hs,h=>by
   have ih:=qO g (hs:=hs) λq hq=>h q (ybx _ hq);have h2:=(h p yby).2.1;unfold bN;split
   ·exact ih
   ·simp only[O.dp];lia
structure Ep (hs:List (O×List α)):Prop where
 ln:hs.length<=100
 nm:∀p,p∈hs->p.2.length<=100
 ds:dC (hs.map (·.1))
mutual
def Rq.od:Rq α->Prop
 | .times _ rs=>rs.od
 | .count rs _=>rs.od
 | .whl _ hs rs=>Ep hs/\rs.od
 | .bear _ hs rs _=>Ep hs/\rs.od
 | _=>True
def aT.od:aT α->Prop
 | .nil=>True
 | .cons r rs=>r.od/\rs.od
end
end
section
variable {α:Type}
theorem nJ (g:α->Int):∀a b:List α,cP g (a++b)=cP g a+cP g b
 | [],b=>by simp[cP]
 | x::a,b=>by rw[cons_append,cP,cP,nJ g a b];lia
theorem A2 (ms:List (O×α)):dC ((d7 ms).map (·.1)):=by
 unfold d7;rw[map_map];show dC (List.map (λo=>o) (iV _));rw[List.map_id'];exact fU _
end
noncomputable def ko:List (Int×Int)->O
 | []=> .z
 | p::l=> .c (wh p.1) p.2 (ko l)
theorem pE {a b:Int} (ha:0<=a) (hb:0<=b):cmp (wh a) (wh b)=if a<b then -1 else if b<a then 1 else 0:=by
 by_cases a0:a=0
 ·subst a0;rw[AY]
  by_cases b0:b=0
  ·subst b0;simp[AY,cmp]
  ·rw[wh_pos (by lia),ycv (by lia)];rfl
 ·rw[wh_pos (by lia)]
  by_cases b0:b=0
  ·subst b0;rw[AY,ycw (by lia),ycv (by lia)];rfl
  ·rw[wh_pos (by lia),jD]
   rfl
theorem uF {a b:Int} (ha:0<=a) (hb:0<=b) (h:wh a=wh b):a=b:=by
 have e:=pE ha hb;rw[h,cmp_self] at e
 by_cases h1:a<b
 ·rw[ycv h1] at e;lia
 ·rw[ycw h1] at e
  by_cases h2:b<a
  ·rw[ycv h2] at e;lia
  ·lia
noncomputable def oI:List (Int×Int)->List (Int×Int)->Bool
 | [],[]=>false
 | [],_::_=>true
 | _::_,[]=>false
 | p::l,q::m=>if p=q then oI l m else decide (p.1<q.1∨p.1=q.1/\p.2<q.2)
theorem qP:∀{l m:List (Int×Int)},(∀p,p∈l->0<=p.1)->(∀p,p∈m->0<=p.1)->(oI l m=true↔cmp (ko l) (ko m)<0)
 | [],[],_,_=>by simp[oI,ko,cmp]
 | [],_::_,_,_=>by simp[oI,ko,cmp]
 | _::_,[],_,_=>by simp[oI,ko,cmp]
 | p::l,q::m,h,k=>by
   have ih:=qP (l:=l) (m:=m) (λx hx=>h x (ybx _ hx)) (λx hx=>k x (ybx _ hx));have hp:=h p yby;have hq:=k q yby;unfold oI
   by_cases e:p=q
   ·subst e;rw[ycv rfl,ih];show _↔cmp (.c (wh p.1) p.2 (ko l)) (.c (wh p.1) p.2 (ko m))<0;rw[jD,ycw (by lia),ycw (by lia)]
   ·rw[ycw e,decide_eq_true_eq];show _↔cmp (.c (wh p.1) p.2 (ko l)) (.c (wh q.1) q.2 (ko m))<0
    by_cases e1:p.1=q.1
    ·have e2:p.2≠q.2:=λz=>e (Prod.ext e1 z);rw[e1,jD];constructor
     ·rintro(z | z)
      ·lia
      ·rw[ycv z.2];decide
     ·intro z
      by_cases z1:p.2<q.2
      ·exact .inr ⟨rfl,z1⟩
      ·rw[ycw z1,ycv (by lia)] at z;lia
    ·have c1:=pE hp hq;have hne:cmp (wh p.1) (wh q.1)≠0:=by
      rw[c1]
      by_cases z:p.1<q.1
      ·rw[ycv z];decide
      ·rw[ycw z,ycv (by lia)];decide
     have c2:cmp (.c (wh p.1) p.2 (ko l)) (.c (wh q.1) q.2 (ko m))=cmp (wh p.1) (wh q.1):=by
      simp only[cmp];rw[ycv hne]
     rw[c2,c1];constructor
     ·rintro(z | z)
      ·rw[ycv z];decide
      ·exact absurd z.1 e1
     ·intro z
      by_cases z1:p.1<q.1
      ·exact .inl z1
      ·rw[ycw z1,ycv (by lia)] at z;lia
section
variable {α:Type}
noncomputable def dm (ms:List (Int×α)):List (O×α):=ms.map λm=>(wh m.1,m.2)
theorem uG (g:α->Int) (f:O->List α):∀ks:List Int,bN g (ks.map λe=>(wh e,f (wh e)))=ko ((ks.map λe=>(e,cP g (f (wh e)))).filter λp=>decide (p.2≠0))
 | []=>rfl
 | e::ks=>by
   have ih:=uG g f ks;rw[map_cons,map_cons];unfold bN
   by_cases h:cP g (f (wh e))=0
   ·rw[ycv h,filter_cons_of_neg (by simpa using h)];exact ih
   ·rw[ycw h,filter_cons_of_pos (by simpa using h)];show O.c _ _ _=O.c _ _ _;rw[ih]
theorem xK {g:α->Int} {ms:List (Int×α)} {ks:List Int} (h0:∀m,m∈ms->0<=m.1) (h1:ks.Pairwise λa b=>b<a) (h2:∀e,e∈ks↔e∈ms.map (·.1)):bN g (d7 (dm ms))=ko ((ks.map λe=>(e,cP g (bE (dm ms) (wh e)))).filter λp=>decide (p.2≠0)):=by
 have hk:∀e,e∈ks->0<=e:=λe he=>by
  obtain⟨m,hm,rfl⟩:=mem_map.mp ((h2 e).mp he);exact h0 m hm
 have hd:dC (ks.map wh):=by
  refine pairwise_map.mpr (h1.imp_of_mem λ{a b} ha hb hab=>?_);rw[pE (hk b hb) (hk a ha),ycv hab];decide
 have e:d7 (dm ms)=(ks.map wh).map λo=>(o,bE (dm ms) o):=by
  refine(uE hd λo=>?_).symm;constructor
  ·intro ho;obtain⟨a,ha,rfl⟩:=mem_map.mp ho;obtain⟨m,hm,rfl⟩:=mem_map.mp ((h2 a).mp ha);exact mem_map.mpr ⟨(wh m.1,m.2),mem_map.mpr ⟨m,hm,rfl⟩,rfl⟩
  ·intro ho;obtain⟨x,hx,rfl⟩:=mem_map.mp ho;obtain⟨m,hm,rfl⟩:=mem_map.mp hx;exact mem_map.mpr ⟨m.1,(h2 m.1).mpr (mem_map.mpr ⟨m,hm,rfl⟩),rfl⟩
 rw[e,map_map];exact uG g (λo=>bE (dm ms) o) ks
end
section
variable {α:Type}
noncomputable def e4:List Int:=[4,3,2,1,0]
end
end Nm
namespace L2
open PySem PySem.Spec PyProof.Rows Nm
noncomputable def au:O->List W
 | .z=>[]
 | .c e n r=> .tup [.tup (au e),.int n]::au r
noncomputable def mL (o:O):W:= .tup (au o)
noncomputable def gZ (e:O) (n:Int):W:= .tup [mL e,.int n]
theorem A3:au .z=[]:=rfl
theorem bZ (e:O) (n:Int) (r:O):au (.c e n r)=gZ e n::au r:=rfl
theorem aY:∀a:O,(au a).length=a.len
 | .z=>rfl
 | .c e n r=>by rw[bZ,length_cons,aY r];rfl
theorem uH {e:O} {n:Int} (h:W.flats (au e)=true):(gZ e n).flat=true:=by
 simp[gZ,mL,W.flat,W.flats,h]
theorem ca:∀a:O,W.flats (au a)=true
 | .z=>by simp[au,W.flats]
 | .c e n r=>by
   rw[bZ];simp[W.flats,uH (ca e),ca r]
theorem uI (a:O):(mL a).flat=true:=by simp[mL,W.flat,ca a]
theorem eh:∀a:O,W.deps (au a)<=2*a.dp
 | .z=>by simp[au,W.deps]
 | .c e n r=>by
   have h1:=eh e;have h2:=eh r;rw[bZ];simp only[W.deps,gZ,mL,W.dep,O.dp];lia
theorem xL (a:O):(mL a).dep<=2*a.dp+1:=by
 have:=eh a;simp only[mL,W.dep];lia
theorem jf:∀a b:O,W.eqs (au a) (au b)=decide (a=b)
 | .z,.z=>by simp[au,W.eqs]
 | .z,.c _ _ _=>by simp[au,W.eqs]
 | .c _ _ _,.z=>by simp[au,W.eqs]
 | .c e n r,.c e' n' r'=>by
   have h1:=jf e e';have h2:=jf r r';simp only[au,W.eqs,W.eq_tup,W.eq_int,h1,h2,Bool.and_true];rw[Bool.eq_iff_iff];simp only[Bool.and_eq_true,decide_eq_true_eq,beq_iff_eq,O.c.injEq];constructor
   ·rintro⟨⟨a,b⟩,c⟩;exact⟨a,b,c⟩
   ·rintro⟨a,b,c⟩;exact⟨⟨a,b⟩,c⟩
theorem pF (a b:O):(mL a).eq (mL b)=decide (a=b):=jf a b
theorem A4 (e e':O) (n n':Int):(gZ e n).eq (gZ e' n')=(decide (e=e')&&decide (n=n')):=by
 have:=pF e e';simp only[gZ,W.eq_tup,W.eq_int,W.eqs,this,Bool.and_true]
 congr 1
theorem pG (a b:O):(W.tup (au a)).eq (W.tup (au b))=decide (a=b):=pF a b
theorem cQ (a:O):(W.tup (au a)).flat=true:=uI a
theorem eS (a:O):(W.tup (au a)).dep<=2*a.dp+1:=xL a
theorem fW {C:Gp->Prop} {tt:WT} {te:WE} {i:Nat} {p:W->Bool} {f:W->W} {τ0:cV} {G:Gp} {q:List W->Gp->Prop} (hC:C G):∀{ws acc:List W} {τ:cV},
 (∀w∈ws,∀k:Bool->Gp->Prop,k (p w) G->tt (τ0.set i (some w)) G k)->(∀w∈ws,p w=true->∀k:W->Gp->Prop,k (f w) G->te (τ0.set i (some w)) G k)->acc.length+ws.length<=100000->(∀x,τ.set i x=τ0.set i x)->
 q (acc++(ws.filter p).map f) G->cq C (cG i) tt te ws τ G acc q
 | [],acc,τ,_,_,_,_,hq=>⟨hC,by simpa using hq⟩
 | w::ws,acc,τ,ht,he,hl,hτ,hq=>by
   refine⟨hC,?_⟩;show tt (τ.set i (some w)) G _;rw[hτ];refine ht w yby _ ?_;have hτ':∀x,(τ0.set i (some w)).set i x=τ0.set i x:=λx=>set_set ..;cases hp:p w with
   | true=>
     rw[ycv rfl];refine he w yby hp _ ⟨by simp at hl;lia,?_⟩;refine fW hC (λu hu=>ht u (ybx _ hu)) (λu hu=>he u (ybx _ hu)) (by simp at hl ⊢;lia) hτ' ?_;rw[filter_cons,hp] at hq;simpa using hq
   | false=>
     rw[ycw ydx];refine fW hC (λu hu=>ht u (ybx _ hu)) (λu hu=>he u (ybx _ hu)) (by simp at hl ⊢;lia) hτ' ?_;rw[filter_cons,hp] at hq;simpa using hq
theorem nK {a b:O} (h:au a=au b):a=b:=by
 have:=jf a b;rw[h,W.eqs_refl _ (ca b)] at this;simpa using this.symm
theorem fi:∀a b:O,au (a.app b)=au a++au b
 | .z,b=>by simp[O.app,au]
 | .c e n r,b=>by
   show au (.c e n (r.app b))=_;rw[bZ,bZ,fi r b]
   rfl
theorem Fh {α:Type} (x:α) (xs:List α):ef (x::xs) 0=some x:=by
 simp[ef,tu]
theorem Fi {α:Type} (x y:α) (xs:List α):ef (x::y::xs) 1=some y:=by
 have h:(1:Int)<((xs.length:Int)+1+1):=by lia
 simp[ef,tu,h]
theorem uJ (i:Int):(W.int i).flat=true:=by simp[W.flat]
theorem xM (i:Int):(W.int i).dep=0:=by simp[W.dep]
theorem pH (i j:Int):(W.int i).eq (W.int j)=(i==j):=rfl
theorem uK:(W.tup []).flat=true:=by simp[W.flat,W.flats]
theorem xN:(W.tup []).dep=1:=by simp[W.dep,W.deps]
theorem dQ (a:O):(W.tup (au a)).eq (W.tup [])=decide (a=.z):=pF a .z
theorem Fj (i j:Int):(i==j)=decide (i=j):=by
 by_cases h:i=j<;> simp[h]
theorem aE.done {G:Gp} {q:Gp->Prop} (h:q G):∃G0,aE G0 G/\q G0:=⟨G,aE.refl G,h⟩
theorem cc {C:Gp->Prop} {g:WG} {tb:WS} {d:du} (Iv:List W->cV->Gp->Prop) (stop:∀τ G,Iv [] τ G->C G/\d.nx τ G)
 (step:∀w ws τ G (k:cV->Gp->Prop),Iv (w::ws) τ G->(∀τ3 G3,Iv ws τ3 G3->k τ3 G3)->C G/\g w τ G λτ2 G2=>tb { d with nx:=k,ct:=k,bk:=d.nx } τ2 G2):∀ws τ G,Iv ws τ G->jz C g tb d ws τ G
 | [],τ,G,h=>stop τ G h
 | w::ws,τ,G,h=>step w ws τ G _ h λτ3 G3 h3=>cc Iv stop step ws τ3 G3 h3
theorem jG:∀(a:O) (i:Nat),(au a)[i]?=(a.getP i).map λp=>gZ p.1 p.2
 | .z,i=>by simp[au,O.getP]
 | .c e n r,0=>by rw[bZ];rfl
 | .c e n r,i+1=>by
   rw[bZ];simpa[O.getP] using jG r i
theorem lX {a:O} {e:O} {n:Int} (h:a.getP i=some (e,n)):ef (au a) (i:Int)=some (gZ e n):=bC (by rw[jG,h];rfl)
theorem iA:∀(i:Nat) (a:O),(au a).take i=au (O.takeO i a)
 | 0,a=>by simp[O.takeO,au]
 | i+1,.z=>by simp[au,O.takeO]
 | i+1,.c e n r=>by
   rw[bZ,List.take_succ_cons,iA i r]
   rfl
theorem pI (xs:List W) (k:Nat):cF xs none (some (k:Int))=xs.take k:=by
 unfold cF;rw[HT.sIx_none,HT.sIx_nat,List.drop_zero,Nat.sub_zero];rcases Nat.le_total k xs.length with h | h
 ·rw[Nat.min_eq_left h]
 ·rw[Nat.min_eq_right h,List.take_length,List.take_of_length_le h]
theorem gM (xs:List W) (k:Nat):cF xs (some (k:Int)) none=xs.drop k:=by
 unfold cF;rw[HT.sIx_none,HT.sIx_nat];rcases Nat.le_total k xs.length with h | h
 ·rw[Nat.min_eq_left h];exact List.take_of_length_le (by rw[length_drop];lia)
 ·rw[Nat.min_eq_right h,List.drop_length,List.drop_of_length_le h];simp
theorem xO (xs:List W):cF xs none (some (-1))=xs.take (xs.length-1):=by
 unfold cF;have e:HT.sIx xs.length xs.length (some (-1))=xs.length-1:=by
  show(if (-1:Int)<0 then ((-1:Int)+(xs.length:Int)).toNat else min (-1:Int).toNat xs.length)=_;rw[ycv (by lia)];lia
 rw[HT.sIx_none,e,List.drop_zero,Nat.sub_zero]
theorem kX:∀a:O,O.takeO (a.len-1) a=O.init a
 | .z=>rfl
 | .c _ _ .z=>rfl
 | .c e n (.c e' n' r')=>by
   have h:=kX (.c e' n' r');simp only[O.len,Nat.add_sub_cancel] at h ⊢;rw[O.takeO,h];simp[O.init]
theorem uL (a:O):cF (au a) none (some (-1))=au (O.init a):=by rw[xO,aY,iA,kX]
theorem uM:∀{a:O},a≠ .z->∃e n,O.last a=.c e n .z/\a.getP (a.len-1)=some (e,n)
 | .z,h=>absurd rfl h
 | .c e n .z,_=>⟨e,n,rfl,rfl⟩
 | .c e n (.c e' n' r'),_=>by
   obtain⟨x,m,h1,h2⟩:=uM (a:= .c e' n' r') (by simp);refine⟨x,m,?_,?_⟩
   ·rw[←h1];simp[O.last]
   ·simp only[O.len,Nat.add_sub_cancel] at h2 ⊢;rw[←h2];simp[O.getP]
theorem nM {xs:List W} {w:W} (h:xs[xs.length-1]?=some w):ef xs (-1)=some w:=by
 have hl:xs.length-1<xs.length:=(List.getElem?_eq_some_iff.mp h).1;unfold ef tu;rw[ycw (by lia),ycv (by lia)];show xs[((-1:Int)+(xs.length:Int)).toNat]?=some w;rw[←h]
 congr 1
 lia
theorem gP {a:O} {e:O} {n:Int} (h:a.getP (a.len-1)=some (e,n)):ef (au a) (-1)=some (gZ e n):=nM (by rw[aY,jG,h];rfl)
theorem gQ:∀a b:O,W.ords (au a) (au b)=true/\W.lts (au a) (au b)=decide (O.cmp a b<0)
 | .z,.z=>by simp[au,W.ords,W.lts,O.cmp]
 | .z,.c _ _ _=>by simp[au,W.ords,W.lts,O.cmp]
 | .c _ _ _,.z=>by simp[au,W.ords,W.lts,O.cmp]
 | .c e n r,.c e' n' r'=>by
   obtain⟨o1,l1⟩:=gQ e e';obtain⟨o2,l2⟩:=gQ r r';rw[bZ,bZ,W.ords,W.lts,A4]
   by_cases h:(decide (e=e')&&decide (n=n'))=true
   ·rw[ycv h,ycv h];have h':e=e'/\n=n':=by simpa using h
    obtain⟨rfl,rfl⟩:=h';refine⟨o2,?_⟩;rw[l2,O.cmp,ycw (by rw[O.cmp_self];simp),ycw (by lia),ycw (by lia)]
   ·rw[ycw h,ycw h];have ee:(W.tup (au e)).eq (W.tup (au e'))=decide (e=e'):=pG e e';unfold gZ mL;rw[W.ord,W.lt,W.ords,W.lts,ee]
    by_cases q:e=e'
    ·subst q;rw[ycv (by simp),ycv (by simp),W.ords,W.lts];have hn:¬n=n':=λz=>h (by simp[z]);rw[pH,ycw (by simpa using hn),ycw (by simpa using hn),W.ord,W.lt];refine⟨rfl,?_⟩;rw[O.cmp,ycw (by rw[O.cmp_self];simp)]
     by_cases k:n<n'
     ·rw[ycv k];simp[k]
     ·rw[ycw k,ycv (by lia)];simp[k]
    ·rw[ycw (by simpa using q),ycw (by simpa using q),W.ord,W.lt];refine⟨o1,?_⟩;rw[l1,O.cmp,ycv (λz=>q (O.cmp_eq _ _ z))]
theorem kY (a:O) (h:a.dp<=70):W.deps (au a)<=149:=by
 have:=eh a;lia
def Df (K:yav) (mg:yew) (x:Str) (st:Stmt) (ps:List Str):Prop:=∃(f:Addr) (fd:FuncData),cz K x x st f fd/\bM K fd ps []/\mg x=some (.ref f)
theorem Df.fx {sp:bS} (D:Df K mg x st ps) (h:∀(f:Addr) (fd:FuncData),cz K x x st f fd->cf P w K mg base k f fd ps sp):Fx P w K mg base x ps k sp:=by
 obtain⟨f,fd,F,b,m⟩:=D;exact⟨f,fd,h f fd F,m,F.kp,b⟩
theorem A5 {H:Hp} {ns:List Int} (hO:tF H) (hS:cC K H a (ns.map V.int)):yR K H a ns:=by
 rcases hS with(h | h) | h
 ·rcases hO a with z | ⟨o,xs,z⟩
  ·rw[z] at h;cases h
  ·rw[z] at h;cases h
 ·exact .inl h
 ·exact .inr h
theorem iB {i j:Int} (h:0<j):0<=i%j/\i%j<j:=⟨Int.emod_nonneg _ (by lia),Int.emod_lt_of_pos _ h⟩
theorem xP {ns:List Int} {i:Int} (h0:0<=i) (h1:i<ns.length):∃n,ef ns i=some n:=by
 have hl:i.toNat<ns.length:=by lia
 have e:((i.toNat:Nat):Int)=i:=Int.toNat_of_nonneg h0;have q:=bC (ycz hl);rw[e] at q;exact⟨_,q⟩
theorem A6 (j:Int):Ac 10 j=(0<=j/\j<=1000000):=by
 unfold Ac;have:(10:Int).natAbs<2^64:=by decide
 simp[this]
theorem aJ {t u:WS} {d:du} {τ:cV} {G:Gp} (h:∀U:WS,U=u->t { d with nx:=U d } τ G):tK t u d τ G:=h u rfl
theorem aG {G:Gp} {a b:Addr} {g g':GO} (h:G b=some g') (ha:G a=none):aw G a g b=some g':=by
 rw[ao (λz=>by rw[z,ha] at h;cases h)];exact h
theorem jH (p:O->Int->Bool):∀a:O,(a.filt p).len<=a.len
 | .z=>ycx _
 | .c e n r=>by
   have:=jH p r;rw[O.filt_c];split<;> simp only[O.len]<;> lia
theorem xQ (G:Gp) (i:Int):o7 G (.int i)=some "int":=rfl
theorem A7 (G:Gp) (b:Bool):o7 G (.bl b)=some "bool":=rfl
theorem xR (G:Gp) (ws:List W):o7 G (.tup ws)=some "tuple":=rfl
theorem xS (G:Gp):o7 G .non=some "NoneType":=rfl
theorem xT:fR "int" "int"=true:=by decide
theorem xU:fR "int" "bool"=false:=by decide
theorem xV:fR "int" "tuple"=false:=by decide
theorem xW:fR "bool" "int"=true:=by decide
theorem xX:fR "bool" "bool"=true:=by decide
theorem xY:fR "bool" "tuple"=false:=by decide
theorem xZ:fR "tuple" "tuple"=true:=by decide
theorem x4:fR "tuple" "int"=false:=by decide
theorem x5:fR "tuple" "bool"=false:=by decide
theorem x6:fR "list" "list"=true:=by decide
theorem x8:fR "NoneType" "tuple"=false:=by decide
theorem A8:((0:Nat):Int)=0:=rfl
theorem A9:((1:Nat):Int)=1:=rfl
theorem Ba:((2:Nat):Int)=2:=rfl
theorem Bb:((3:Nat):Int)=3:=rfl
theorem uN {c:WT} {tb:WS} {d:du} {τ:cV} {G:Gp} (I:Nat->cV->Gp->Prop) (h0:∃m,I m τ G)
 (h:∀m τ G,I m τ G->∀B:WS,B=tb->c τ G λb G1=>if b=true then ∃N:cV->Gp->Prop,(∀τ1 G1,N τ1 G1->∃m1,m1<m/\I m1 τ1 G1)/\B { d with nx:=N,ct:=N,bk:=d.nx } τ G1 else d.nx τ G1):tL c tb d τ G:=
 ⟨I,h0,λm τ G hI=>h m τ G hI tb rfl⟩
theorem Fk {α:Type} (x y v:α) (xs:List α):ef (x::y::v::xs) 2=some v:=bC (j:=2) rfl
theorem nN (n i:Nat) (h:i<n):(sH n).drop i=.int (i:Int)::(sH n).drop (i+1):=by
 have hl:i<(sH n).length:=by simp[sH,h]
 rw[drop_eq_getElem_cons hl]
 congr 1
 simp[sH]
theorem lY {C:Gp->Prop} {g:WG} {tb:WS} {d:du} {τ:cV} {G:Gp} (n:Nat) (Iv:Nat->cV->Gp->Prop) (h0:Iv 0 τ G) (stop:∀τ G,Iv n τ G->C G/\d.nx τ G)
 (step:∀(i:Nat) τ G (k:cV->Gp->Prop),i<n->Iv i τ G->(∀τ3 G3,Iv (i+1) τ3 G3->k τ3 G3)->C G/\g (.int (i:Int)) τ G λτ2 G2=>tb { d with nx:=k,ct:=k,bk:=d.nx } τ2 G2):jz C g tb d (sH n) τ G:=by
 refine cc (λws τ G=>∃i,i<=n/\ws=(sH n).drop i/\Iv i τ G) ?_ ?_ _ _ _ ⟨0,zero_le _,rfl,h0⟩
 ·rintro τ G ⟨i,hi,hw,hI⟩;have:i=n:=by
   rcases lt_or_ge i n with k | k
   ·rw[nN n i k] at hw;cases hw
   ·lia
  subst this;exact stop τ G hI
 ·rintro w ws τ G k ⟨i,hi,hw,hI⟩ hk;have hlt:i<n:=by
   rcases lt_or_ge i n with j | j
   ·exact j
   ·rw[List.drop_of_length_le (by simp[sH];assumption)] at hw;cases hw
  rw[nN n i hlt] at hw;cases hw;exact step i τ G k hlt hI λτ3 G3 h3=>hk τ3 G3 ⟨i+1,hlt,rfl,h3⟩
def pJ (Pd:O->Int->Prop):O->Prop
 | .z=>True
 | .c e n r=>Pd e n/\pJ Pd r
theorem pJ.imp {Pd Pd':O->Int->Prop} (h:∀e n,Pd e n->Pd' e n):∀{a:O},pJ Pd a->pJ Pd' a
 | .z,_=>trivial
 | .c _ _ _,k=>⟨h _ _ k.1,pJ.imp h k.2⟩
theorem qQ:∀a:O,pJ (λe _=>e.dp<a.dp/\O.hw e<=O.hw a) a
 | .z=>trivial
 | .c e n r=>⟨by rw[O.hw_c];simp only[O.dp];lia,(qQ r).imp λx m h=>by rw[O.hw_c];simp only[O.dp];lia⟩
noncomputable def mapP (p:O->Int->Bool) (f:O->Int->W):O->List W
 | .z=>[]
 | .c e n r=>if p e n then f e n::mapP p f r else mapP p f r
theorem jI {C:Gp->Prop} {tt:WT} {te:WE} {i:Nat} {τ0:cV} {G:Gp} {q:List W->Gp->Prop} {Pd:O->Int->Prop} (p:O->Int->Bool) (f:O->Int->W) (hC:C G):∀{a:O} {acc:List W} {τ:cV},pJ Pd a->
 (∀e n,Pd e n->∀k:Bool->Gp->Prop,k (p e n) G->tt (τ0.set i (some (gZ e n))) G k)->(∀e n,Pd e n->p e n=true->∀k:W->Gp->Prop,k (f e n) G->te (τ0.set i (some (gZ e n))) G k)->acc.length+a.len<=100000->(∀x,τ.set i x=τ0.set i x)->
 q (acc++mapP p f a) G->cq C (cG i) tt te (au a) τ G acc q
 | .z,acc,τ,_,_,_,_,_,hq=>⟨hC,by simpa[mapP] using hq⟩
 | .c e n r,acc,τ,hP,ht,he,hl,hτ,hq=>by
   rw[bZ];refine⟨hC,?_⟩;show tt (τ.set i (some (gZ e n))) G _;rw[hτ];refine ht e n hP.1 _ ?_;have hτ':∀x,(τ0.set i (some (gZ e n))).set i x=τ0.set i x:=λx=>set_set ..;simp only[O.len] at hl;rw[mapP] at hq;cases hp:p e n with
   | true=>
     rw[ycv rfl];refine he e n hP.1 hp _ ⟨by lia,?_⟩;rw[hp,ycv rfl] at hq;exact jI p f hC hP.2 ht he (by rw[length_append];simp;lia) hτ' (by simpa using hq)
   | false=>
     rw[ycw ydx];rw[hp,ycw ydx] at hq;exact jI p f hC hP.2 ht he (by lia) hτ' hq
noncomputable def zy:Int:=(10^172)^7
theorem qR {i:Int} (h0:0<=i) (h:i<=zy):i.natAbs<2^4000:=by
 have h2:zy<((2^4000:Nat):Int):=by decide+kernel
 generalize (2:Nat)^4000=B at h2 ⊢;lia
theorem Fm {i j:Int} (h1:0<=i) (h2:i<=zy) (h3:0<=j) (h4:j<=zy):Dc i j:=⟨qR h1 h2,qR h3 h4⟩
end L2
namespace Nm
namespace O
end O
end Nm
namespace L2
open PySem PySem.Spec PyProof.Rows Nm
section
variable {P:Program} {w:World} {K:yav} {mg:yew} {base:Heap} {x:Str} {st:Stmt} {ps:List Str} {k:Nat} {sp:bS}
theorem xi.rx {dws:List W} (D:xi K mg x st ps dws) (h:∀(f:Addr) (fd:FuncData) (T:Addr) (ds:yez),fT K x x st f fd T ds->xj P w K mg base k f fd ps sp):Rx P w K mg base x ps k sp []:=by
 obtain⟨f,fd,T,ds,dvs,F,b,b',m,_,_⟩:=D;exact⟨f,fd,[],[],h f fd T ds F,m,F.kp,b,.nil,λ_=> .nil⟩
end
open PySem PySem.Spec PyProof.Rows PySem.W
@[irreducible] def pK (i:Int):Prop:=i.natAbs<2^1048576
theorem jJ:∀{ns:List Int} {n:Int},n∈ns->WData.weight (.int n)<=WData.weightAll (ns.map WData.int)
 | m::ns,n,h=>by
   rw[map_cons,WData.weightAll];rcases mem_cons.mp h with rfl | h
   ·lia
   ·have:=jJ h;lia
theorem x9 {n:Int} (h:WData.weight (.int n)<=1048576):pK n:=by
 unfold WData.weight at h;unfold pK;generalize 1048576=a at h ⊢
 by_cases h0:n=0
 ·subst h0;exact Nat.two_pow_pos a
 ·rw[ycw (by simpa using h0)] at h;have:n.natAbs≠0:=by lia
  exact(Nat.log2_lt this).mp (by assumption)
theorem uO {ns:List Int} (h:WData.layableAll [.list (ns.map WData.int)]=true):∀n,n∈ns->pK n:=by
 intro n hn;have h1:WData.layable (.list (ns.map WData.int))=true:=(all_eq_true.mp h) _ yby;have h2:WData.weight (.list (ns.map WData.int))<=2^20:=by
  have:=(Bool.and_eq_true_iff.mp h1).2;exact of_decide_eq_true this
 have h3:WData.weight (.list (ns.map WData.int))=WData.weightAll (ns.map WData.int):=by rw[WData.weight]
 have:=jJ hn;exact x9 (by lia)
@[irreducible] def Wide (i:Int):Prop:=i.natAbs<2^1048577
set_option exponentiation.threshold 500 in
def Dv (i j:Int):Prop:=(Wide i/\j.natAbs<2^4000)∨(i.natAbs<2^4000/\Wide j)
def kZ (i j:Int):Prop:=qr i j∨Dv i j
theorem kZ.ok {i j:Int} (h:kZ i j):IntMulOk i j:=by
 have key:∀{x y:Int},Wide x->y.natAbs<2^4000->¬(((Builtin.Int.intBits x+Builtin.Int.intBits y:Int)) > bitsLine):=λ{x y} h1 h2=>by
  unfold Wide at h1;have b1:=PyProof.Rows.intBits_le h1;have b2:=PyProof.Rows.intBits_le h2;have hb:(1053000:Int)<=bitsLine:=by decide
  lia
 rcases h with h | ⟨h1,h2⟩ | ⟨h1,h2⟩
 ·exact h.ok
 ·have:=key h1 h2;unfold IntMulOk Builtin.Int.intTooBig;simp[this]
 ·have:=key h2 h1;rw[Int.add_comm] at this;unfold IntMulOk Builtin.Int.intTooBig;simp[this]
section
variable {X:Cx}
theorem ya:iK X (binaryOp .Mult) (rI kZ λi j=> .int (i*j)):=El λ_ _ _ _ _ _ _ hc q=>mul_int q hc.ok
end
def iC:bS:=λws _ q _=>∃ns:List Int,ws=[.scr ns]/\ns.length<=63/\(∀n,n∈ns->pK n)/\∀G',q (.bl true) G'
theorem pL {H:Hp} {ns:List Int} (hO:tF H) (hS:cC K H a (ns.map V.int)) (hl:ns.length<=63) (hc:∀n,n∈ns->pK n):wm K iC [.ref a] H (λv _=>v=.bl true) λ_ _ _=>False:=
 ⟨[.scr ns],λ_=>none,λw _=>w=.bl true,λ_ _=>False,.cons (.scr (A5 hO hS)) .nil,λ_ _ e=>(by cases e),⟨ns,rfl,hl,hc,λ_=>rfl⟩,λv H1 w G1 _ r _ e=>(by subst e;cases r;rfl),λ_ _ _ _ _ _ z=>z⟩
theorem Fn {l:OpenLaw} {n:Nat} {q:Program} {loose:List Str} {XP:(Str->Option Value)->Heap->Prop} {YP:World->Heap->Prop} {d:DefRec}
 (hn:l.most=some n) (hdf:d.params.defaults=[])
 (call:∀(w:World) (s₀ s₁:Shared) (mg mb:yew) (fa:Addr) (a:Addr) (vs:yez) (ns:List Int),
   Ground q loose [] XP w s₀ mg mb s₁.heap->YP w s₁.heap->mg d.name=some (.ref fa)->
   s₁.heap.get? a=some { cls:= .type "list",data:= .seq vs.toArray }->IntsAre vs ns->ns.length<=n->(∀n,n∈ns->pK n)->s₁.gens= #[]->
   codeAny (model l.prog w) callerA (.call (.ref fa) ⟨[.ref a],[]⟩) (λr s'=>r=.ok (.ret (.bool true))/\OldK s₁.heap s'.heap/\s'.os=s₁.os/\AllBare s'.gens) s₁):
 WalkO q loose XP YP l.row.toRowW d [] (λf vs=>PySem.call f vs):=by
 intro w s₀ s₁ mg mb G Y fa o pm cd doc dV kV ho hd hcd hD hmg hg args vals as hpre hlay hrd hwl hlo;obtain rfl:dV=.none:=Dflts.none hD hdf;obtain rfl:kV=.none:=Dflts.noKw hD;obtain⟨a,vs,ns,ea,rfl,hobj,hints,hlen⟩:=Att.script_of hn hpre hwl;subst ea;refine enter_call (codeAny_mono (call w s₀ s₁ mg mb fa a vs ns G Y hmg hobj hints hlen (uO hlay) hg) λr s' hq=>?_);obtain⟨rfl,h2,h3,h4⟩:=hq;exact⟨.inl ⟨.bool true,.bool true,[],rfl,λ_=>rfl,.bool true,Att.post_true l _,λ_=>⟨List.Pairwise.nil,λ_ hm=>(nomatch hm)⟩⟩,h2,h3,h4⟩
theorem walk_ofC {l:PySem.W.OpenLaw} {n k:Nat} {q:Program} {loose:List Str} {XP:(Str->Option Value)->Heap->Prop} {YP:World->Heap->Prop} {d:DefRec} {K:Params->yav} {CX:World->oV} {sp:World->Sp}
 (hn:l.most=some n) (hn2:n<=sizeLine) (hdf:d.params.defaults=[]) (hr:aB k callerA)
 (hY:∀(w:World) (h:Heap),YP w h->(K w.params).In h)
 (F:∀(w:World) (mg:yew) (fa:Addr) (h:Heap),(K w.params).In h->h.Ns mainGlobals mg->mg d.name=some (.ref fa)->
   ∃fd:FuncData,(∀(s:Shared) (u:Value),BindsTo s fd ⟨[u],[]⟩ [(x,u)])/\
    ∀base:Heap,(K w.params).In base->base.Ns mainGlobals mg->dR l.prog w (K w.params) mg base (CX w) k fa fd [x] (sp w))
 (hsp:∀(w:World) (H:Hp) (a:Addr) (ns:List Int),ns.length<=n->(∀n,n∈ns->pK n)->tF H->cC (K w.params) H a (ns.map V.int)->sp w [.ref a] H (λv _=>v=.bl true) λ_ _ _=>False)
 (hCX:∀(w:World) (H:Hp) (s:Shared) (e:Value) (s':Shared),CX w [] H s (λ_ _ _=>False) e s'->False):
 PySem.W.WalkO q loose XP YP l.row.toRowW d [] (λf vs=>PySem.call f vs):=by
 refine Fn hn hdf λw s₀ s₁ mg mb fa a vs ns G Y hmg hobj hints hlen hc hg=>?_;have KX:=hY w _ Y;obtain⟨fd,hb,hF⟩:=F w mg fa _ KX G.T.g hmg;exact tG KX G.T.g G.T.b G.T.builtins G.T.nolimit hg hobj hints (ycy hlen hn2) hr hF hb (λH hO hS=>hsp w H a ns hlen hc hO hS) λH e s'=>hCX w H s₁ e s'
open PySem PySem.Spec PyProof.Rows
theorem aS.rep {K:yav} {H:Hp} {ws:List W} {vs:List V} (r:aS K H ws vs):∀k:Nat,aS K H (List.replicate k ws).flatten (List.replicate k vs).flatten
 | 0=> .nil
 | k+1=>by
   rw[replicate_succ,flatten_cons,replicate_succ,flatten_cons];exact r.append (aS.rep r k)
section
variable {X:Cx}
def zz:W2:=λx y G q=>match x,y with
 | .int i,.int j=>kZ i j/\q (.int (i*j)) G
 | .ref a,.int k=>∃xs,G a=some (.lst xs)/\0<=k/\k<=100000/\xs.length*k.toNat<=100000/\∀p,G p=none->q (.ref p) (aw G p (.lst (List.replicate k.toNat xs).flatten))
 | .tup xs,.int k=>xs≠[]/\0<=k/\k<=100000/\xs.length*k.toNat<=100000/\q (.tup (List.replicate k.toNat xs).flatten) G
 | _,_=>False
theorem Bc:gY X (binaryOp .Mult) zz:=by
 rintro π s σ H x y v u Q I rx ry ⟨wx,wy,G,q,r1,r2,g,h,hQ⟩;cases r2 with
 | int k=>
   cases r1 with
   | int i=>exact ya π s σ H _ _ v u Q I rx ry ⟨_,_,rfl,rfl,h.1,hQ _ H _ G (aR.refl H) (.int _) g h.2⟩
   | ref a=>
     obtain⟨xs,ea,h0,h1,hl,h⟩:=h;obtain⟨_,xs',ha,ra⟩:=g _ _ ea;refine Av π s σ H _ _ v u Q I rx ry ⟨_,_,_,rfl,rfl,ha,ydv (by decide) h0,Int.lt_of_le_of_lt h1 (by decide),by rw[←ra.length];exact bP hl,λp hp=>?_⟩;exact hQ _ _ _ _ (aR.new hp _) (.ref p) (g.put (aR.new hp _) (ra.rep _) (by rw[jd,Nat.mul_comm];exact hl)) (h p (g.fresh hp))
   | @tup a ws xs ha ra=>
     obtain⟨hne,h0,h1,hl,h⟩:=h;refine xo π s σ H _ _ v u Q I rx ry ⟨a,_,_,rfl,rfl,cY.of ha,λz=>?_,h0,h1,by rw[←ra.length];exact bP hl,λe=>?_,λ_ p hp=>?_⟩
     ·subst z;cases ra;exact hne rfl
     ·subst e;have e1:∀zs:List W,(List.replicate (Int.toNat 1) zs).flatten=zs:=λzs=>by simp
      rw[e1] at h;exact hQ _ H _ G (aR.refl H) (.tup ha ra) g h
     ·exact hQ _ _ _ G (aR.new hp _) (.tup aZ ((ra.rep _).mono (aR.new hp _))) (g.keep hp _) h
   | _=>exact False.elim h
 | _=>cases r1<;> exact False.elim h
end
end L2
namespace Nm
namespace O
end O
end Nm
namespace L2
open PySem PySem.Spec PyProof.Rows
section
variable {X:Cx}
def nP:W2:=λx y G q=>match x,y with
 | .str a,.str b=>a.length+b.length<=100000/\q (.str (a++b)) G
 | x,y=>CG x y G q
theorem bB:gY X (binaryOp .Add) nP:=by
 rintro π s σ H x y v u Q I rx ry ⟨wx,wy,G,q,r1,r2,g,h,hQ⟩;unfold nP at h;split at h
 ·cases r1;cases r2;exact oN π s σ H _ _ v u Q I rx ry ⟨_,_,rfl,rfl,bP h.1,hQ _ H _ G (aR.refl H) (.str _) g h.2⟩
 ·exact CH π s σ H x y v u Q I rx ry ⟨wx,wy,G,q,r1,r2,g,h,hQ⟩
def uP:W2:=λx y G q=>match x,y with
 | .str a,.int k=>0<=k/\k<=100000/\a.length*k.toNat<=100000/\∀z:Str,z.length<=a.length*k.toNat->q (.str z) G
 | x,y=>zz x y G q
theorem lc (a:Array Nat):∀(n:Nat) (b:Array Nat),(List.foldl (λx1 x2=>x1++x2) b (List.replicate n a)).size=b.size+a.size*n
 | 0,b=>by simp
 | n+1,b=>by
   rw[replicate_succ,foldl_cons,lc a n,Array.size_append,Nat.mul_succ];lia
theorem yb (x:Str) {n:Int} (h:0<=n):(Txt.mul x n).length<=x.length*n.toNat:=by
 unfold Txt.mul;split
 ·exact zero_le _
 ·split
  ·rename_i h1 h2;have:1<=n.toNat:=by lia
   exact Nat.le_mul_of_pos_right _ this
  ·show Array.size _<=x.cps.size*n.toNat;rw[lc];simp
theorem uQ:gY X (binaryOp .Mult) uP:=by
 rintro π s σ H x y v u Q I rx ry ⟨wx,wy,G,q,r1,r2,g,h,hQ⟩;unfold uP at h;split at h
 ·rename_i a k;obtain⟨h0,h1,hl,h⟩:=h;cases r1;cases r2;obtain⟨t,rfl⟩:=rx;obtain⟨t',rfl⟩:=ry;refine SB.mul ?_ λt' tk=>⟨.str _,H,I.tok _,⟨_,rfl⟩,hQ _ H _ G (aR.refl H) (.str _) g (h _ (yb a h0))⟩;have hk:(k.toNat:Int)=k:=by lia
  refine⟨?_,λh2 h3=>?_,λh2 h3=>?_⟩
  ·have e1:decide (k< -(2^63:Int))=false:=ydy (by lia);have e2:decide (k≥2^63)=false:=ydy (by lia);rw[e1,e2,Bool.or_false]
  ·have h4:((a.length*k.toNat:Nat):Int)<=((100000:Nat):Int):=Int.ofNat_le.mpr hl;rw[Int.natCast_mul,hk] at h4;have h5:(a.length:Int)<=(2^63-1)/k:=by
    rw[Int.le_ediv_iff_mul_le (by lia)];exact ydv h4 (by decide)
   exact Int.not_lt.mpr h5
  ·exact ydy (not_lt.mpr (bP hl))
 ·exact Bc π s σ H x y v u Q I rx ry ⟨wx,wy,G,q,r1,r2,g,h,hQ⟩
def uR:W2:=λx y G q=>match x,y with
 | .str z,.int i=>z.length<=100000/\∃c,ef z.cps.toList i=some c/\q (.str ⟨#[c]⟩) G
 | x,y=>CL x y G q
theorem Dw:wk X uR:=by
 rintro value slice π s σ H x y v u Q I rx ry ⟨wx,wy,G,q,r1,r2,g,h,hQ⟩ hsl;unfold uR at h;split at h
 ·obtain⟨hz,c,e,h⟩:=h;cases r1;cases r2;exact Ar value slice π s σ H _ _ v u Q I rx ry ⟨_,_,c,rfl,rfl,bP hz,e,hQ _ H _ G (aR.refl H) (.str _) g h⟩ hsl
 ·exact E5 value slice π s σ H x y v u Q I rx ry ⟨wx,wy,G,q,r1,r2,g,h,hQ⟩ hsl
def yc:W3:=λx lo hi G q=>match x with
 | .str z=>z.length<=100000/\∀y:Str,y.length<=z.length->q (.str y) G
 | x=>wY x lo hi G q
theorem qS {vl:Value} {lo:Option Int} (p:IsPart vl lo):∃l:Option (Int×Tok),vl=partValue l:=by
 cases p with
 | none=>exact⟨none,rfl⟩
 | int i t=>exact⟨some (i,t),rfl⟩
theorem Dx:Cj X (GL X.K yc):=by
 rintro π s σ H x v vl vu lo hi sl Q I rx hs pl pu ⟨w,G,q,r,g,h,hQ⟩;unfold yc at h;split at h
 ·rename_i z;obtain⟨hz,h⟩:=h;cases r;obtain⟨t,rfl⟩:=rx;refine⟨"str",_,slot_str_getitem.lookup,typeIs_str s z t,?_⟩;obtain⟨l,rfl⟩:=qS pl;obtain⟨u,rfl⟩:=qS pu;refine wpAny_getItem_str_slice (l:=l) (u:=u) (st:=none) ?_ rfl ?_
  ·obtain⟨o,e1,e2,e3⟩:=hs;exact⟨o,e1,e2,e3⟩
  ·have hle:=Txt.slice_le z (l.map (·.1)) (u.map (·.1));unfold sliceMade;split
   ·exact⟨.str z,H,I,⟨_,rfl⟩,hQ _ H _ G (aR.refl H) (.str _) g (h _ (ycx _))⟩
   ·rename_i hn;unfold Txt.slice at hle;split at hle
    ·rename_i hy;exact absurd hy hn
    ·exact⟨ycy hle (bP hz),.str _,H,I.tok _,⟨_,rfl⟩,hQ _ H _ G (aR.refl H) (.str _) g (h _ hle)⟩
 ·exact E6 π s σ H x v vl vu lo hi sl Q I rx hs pl pu ⟨w,G,q,r,g,h,hQ⟩
def Dy (te:WE) (tl th:WO):WE:=λτ G q=>te τ G λx G1=>tl τ G1 λl G2=>th τ G2 λu G3=>yc x l u G3 q
theorem bv {lo hi:Option Expr} {te:WE} {tl th:WO} {pos p2:Pos} (he:QE X e te) (hl:QO X lo tl) (hu:QO X hi th):QE X (.Subscript e (.Slice lo hi none p2) pos) (Dy te tl th):=
 (tq Dx he hl hu).imp λσ H Q z0=>z0.el λτ G q hs hg ht hQ=>⟨τ,G,_,hs,hg,ht,λv H1 w G1 t1 r1 g1 q1=>⟨τ,G1,_,hs.mono t1,g1,q1,λl H2 G2 t2 g2 q2=>
   ⟨τ,G2,_,(hs.mono t1).mono t2,g2,q2,λu H3 G3 t3 g3 q3=>⟨w,G3,q,(r1.mono t2).mono t3,g3,q3,λv4 H4 w4 G4 t4=>hQ v4 H4 w4 G4 (((t1.trans t2).trans t3).trans t4)⟩⟩⟩⟩
def uS:List W->Gp->WK->Prop:=λws G q=>match ws with
 | [.str z]=>z.length<=100000/\q (.int z.length) G
 | ws=>CF ws G q
theorem Bf:eg X (.builtin "len") uS:=by
 rintro π s σ H xs us Q I r ⟨ws,G,q,rw',g,h,hQ⟩;unfold uS at h;split at h
 ·obtain⟨v,rfl,r1⟩:=rw'.one;cases r1;exact lG π s σ H _ us Q I r ⟨_,rfl,bP h.1,hQ _ H _ G (aR.refl H) (.int _) g h.2⟩
 ·exact yY π s σ H xs us Q I r ⟨ws,G,q,rw',g,h,hQ⟩
noncomputable def Fo (x:Str):It:=⟨λi _=>i<x.cps.toList.length,λi H y H'=>H'=H/\∃c,x.cps.toList[i]?=some c/\y=.str ⟨#[c]⟩,λi _=>x.cps.toList.length<=i⟩
theorem lg (hA:A.handled=none) (it:Addr) (x:Str) (t:Tok):Walks P w A it [it] [it] x.cps.size (SignAt x) (λi h=>h.IsStrIter it (strIterType x) x t i):=by
 unfold strIterType;split
 ·exact Walks.strAscii hA it x t
 ·exact Walks.strWide hA it x t
theorem uT {tg:Expr} (it:Addr) (x:Str) (t:Tok):jl P w K tg (Fo x) [it] it (λi h=>i<=x.cps.size/\h.IsStrIter it (strIterType x) x t i) where
 mem:=by simp
 obj:=λi h st b hb=>by
  have e:b=it:=by simpa using hb
  subst e;obtain⟨_,o,e1,e2,e3⟩:=st;exact⟨_,e1,λv z=>by rw[e3] at z;cases z⟩
 keep:=λi h h' st k=>by
  obtain⟨hi,o,e1,e2,e3⟩:=st;exact⟨hi,o,k it (by simp) _ e1,e2,e3⟩
 item:=by
  intro X hP hw hK hc i π s σ H E I hf st hg;subst hP hw hK;obtain⟨f0,f1,f2,f3,f4,f5⟩:=hf it (by simp);have hg':i<x.cps.size:=by
   have h:i<x.cps.toList.length:=hg;simpa using h
  refine(lg (I.ok.hd hc) it x t).item i s _ _ hg' st.2 λv h' tk hv st' kk=>?_;obtain⟨c,u,e,rfl⟩:=hv;have I1:aF X π σ H { s with heap:=h',toks:=tk }:=I.turned (λb o hb e=>kk b o (by simpa using hb) e) f0 f1 f3 f4 f5;obtain⟨o,e1,e2,e3⟩:=id st';refine⟨_,rfl,jm (s:={ s with heap:=h',toks:=tk }) (n:=strIterType x) e1 e2 e3 ?_ ⟨.str ⟨#[c]⟩,H,I1,⟨u,rfl⟩,⟨rfl,c,by simpa using e,rfl⟩,⟨hg',st'⟩,λb hb=>(hf b hb).1⟩⟩;unfold strIterType;split<;> decide
 done:=by
  intro X hP hw hK hc i π s σ H E I hf st hg;subst hP hw hK;obtain⟨f0,f1,f2,f3,f4,f5⟩:=hf it (by simp);have hg':x.cps.size<=i:=by
   have h:x.cps.toList.length<=i:=hg;simpa using h
  have hi:i=x.cps.size:=Nat.le_antisymm st.1 hg';subst hi;exact(lg (I.ok.hd hc) it x t).done s _ _ st.2 λh' tk kk=>⟨rfl,I.turned (t':=tk) (λb o hb e=>kk b o (by simpa using hb) e) f0 f1 f3 f4 f5⟩
 self:=λA i s Q E st h=>by
  obtain⟨_,o,e1,e2,e3⟩:=st;unfold strIterType at e2;split at e2
  ·exact wpAny_pyIter_striter_ascii ⟨o,e1,e2,e3⟩ h
  ·exact wpAny_pyIter_striter_wide ⟨o,e1,e2,e3⟩ h
noncomputable def Er (l:List Nat):List W:=l.map λc=> .str ⟨#[c]⟩
theorem yd {H:Hp}:oH K (Fo x) (Er x.cps.toList) (λ_=>True) H where
 stop:=λi H1 G t g _ hl=>by
  have h:x.cps.toList.length<=i:=by simpa[Er] using hl
  exact h
 go:=λi w H1 G t g _ e=>by
  unfold Er at e;rw[List.getElem?_map] at e;cases h:x.cps.toList[i]? with
  | none=>rw[h] at e;cases e
  | some c=>
    rw[h] at e;cases e;refine⟨(List.getElem?_eq_some_iff.mp h).1,λy H' ⟨eH,c',hc,hy⟩=>?_⟩;subst eH hy;rw[h] at hc;cases hc;exact⟨aR.refl _,.str _,g⟩
variable {tg:Expr}
theorem ye {l:Expr} {tl:TE} (hl:PE X l tl):PI X tg l (λσ H R=>tl σ H λx H1=>(∃z,x=.str z/\R (Fo z) H1)∨∃a,x=.ref a/\(((∃xs,cC X.K H1 a xs)/\R (Ej X.K a) H1)∨((∃xs,cY X.K H1 a xs)/\R (EJ X.K a) H1))):=by
 intro π s σ H R I h;refine bU (hl π s σ H _ I h) λv s1 z9=>?_;obtain⟨x,H1,I1,r1,q1⟩:=z9;rcases q1 with⟨z,rfl,q⟩ | ⟨a,e,q1⟩
 ·obtain⟨t,rfl⟩:=r1;refine wpAny_pyIter_strU ?_;refine⟨s1.heap.objs.size,[s1.heap.objs.size],_,_,H1,rfl,I1.kept (t':=s1.toks) λb o e=>ybz _ e,uT _ z t,⟨zero_le _,_,ybw _ rfl,rfl,rfl⟩,λb hb=>?_,q⟩;have e:b=s1.heap.objs.size:=by simpa using hb
  subst e;exact I1.fpOk (ycx _) (I1.hok.fresh (ycx _))
 ·subst e;cases r1;rcases q1 with⟨⟨xs,hq⟩,q⟩ | ⟨⟨xs,hq⟩,q⟩
  ·obtain⟨its,rv,p,hz⟩:=I1.list hq;refine wpAny_pyIter_list p.isList ?_;refine⟨s1.heap.objs.size,[s1.heap.objs.size],_,_,H1,rfl,I1.kept (t':=s1.toks) λb o e=>ybz _ e,rJ a _,⟨_,ybw _ rfl,rfl,rfl⟩,λb hb=>?_,q⟩;have e:b=s1.heap.objs.size:=by simpa using hb
   subst e;exact I1.fpOk (ycx _) (I1.hok.fresh (ycx _))
  ·obtain⟨its,rv,p,hz⟩:=I1.tuple hq;refine wpAny_pyIter_tuple (show s1.heap.IsTuple a its.toArray from p) ?_;refine⟨s1.heap.objs.size,[s1.heap.objs.size],_,_,H1,rfl,I1.kept (t':=s1.toks) λb o e=>ybz _ e,oK a _,⟨_,ybw _ rfl,rfl,rfl⟩,λb hb=>?_,q⟩;have e:b=s1.heap.objs.size:=by simpa using hb
   subst e;exact I1.fpOk (ycx _) (I1.hok.fresh (ycx _))
def zA (te:WE):WI:=λτ G r=>te τ G λx G1=>match x with
 | .str z=>r (Er z.cps.toList) (λ_=>True) G1
 | .tup ws=>r ws (λ_=>True) G1
 | .scr ns=>r (ns.map W.int) (λ_=>True) G1
 | .ref a=>∃ws,G1 a=some (.lst ws)/\r ws (λG=>G a=some (.lst ws)) G1
 | _=>False
theorem cr {l:Expr} {te:WE} (hl:QE X l te):QI X tg l (zA te):=
 (ye hl).imp λσ H R ⟨τ,G,r,hs,hg,ht,hR⟩=>⟨τ,G,_,hs,hg,ht,λv H1 w G1 t1 r1 g1 q1=>by
   split at q1
   ·cases r1;exact .inl ⟨_,rfl,hR _ H1 _ _ G1 t1 g1 yd q1⟩
   ·cases r1 with
    | tup h rr=>exact .inr ⟨_,rfl,.inr ⟨⟨_,cY.of h⟩,hR _ H1 _ _ G1 t1 g1 (wZ h rr) q1⟩⟩
   ·cases r1 with
    | scr h=>exact .inr ⟨_,rfl,.inl ⟨⟨_,h.sq⟩,hR _ H1 _ _ G1 t1 g1 (xc h) q1⟩⟩
   ·obtain⟨ws,e,q1⟩:=q1;cases r1;obtain⟨_,xs,h1,_⟩:=g1 _ _ e;exact .inr ⟨_,rfl,.inl ⟨⟨xs,cC.of h1⟩,hR _ H1 _ _ G1 t1 g1 w9 q1⟩⟩
   ·exact q1.elim⟩
end
open PySem PySem.Spec PyProof.Rows Nm
theorem fA {β:Type} {C:Gp->Prop} {te:WE} {i:Nat} {τ0:cV} {G:Gp} {q:List W->Gp->Prop} (key val:β->W) (hC:C G):∀{ps:List β} {acc:List W} {τ:cV},
 (∀p,p∈ps->∀k:W->Gp->Prop,k (val p) G->te (τ0.set i (some (key p))) G k)->acc.length+ps.length<=100000->(∀x,τ.set i x=τ0.set i x)->q (acc++ps.map val) G->cq C (cG i) kN te (ps.map key) τ G acc q
 | [],acc,τ,_,_,_,hq=>⟨hC,by simpa using hq⟩
 | p::ps,acc,τ,ht,hl,hτ,hq=>by
   refine⟨hC,?_⟩;show te (τ.set i (some (key p))) G _;rw[hτ];refine ht p yby _ ?_;rw[length_cons] at hl;refine⟨by lia,fA key val hC (λu hu=>ht u (ybx _ hu)) (by rw[length_append];simp only[length_cons,length_nil];lia) (λx=>?_) (by simpa using hq)⟩;rw[set_set]
theorem nQ {C:Gp->Prop} {te:WE} {i:Nat} {τ0:cV} {q:List W->Gp->Prop} (Iv:List W->List W->Gp->Prop) (stop:∀acc G,Iv [] acc G->C G/\q acc G)
 (step:∀x ws acc G (k:WK),Iv (x::ws) acc G->(∀v G1,Iv ws (acc++[v]) G1->acc.length+1<=100000->k v G1)->C G/\te (τ0.set i (some x)) G k):∀{ws acc:List W} {τ:cV} {G:Gp},Iv ws acc G->acc.length+ws.length<=100000->(∀x,τ.set i x=τ0.set i x)->cq C (cG i) kN te ws τ G acc q
 | [],acc,τ,G,hI,_,_=>stop acc G hI
 | x::ws,acc,τ,G,hI,hl,hτ=>by
   rw[length_cons] at hl;obtain⟨h1,h2⟩:=step x ws acc G (λv G4=>acc.length+1<=100000/\cq C (cG i) kN te ws (τ0.set i (some x)) G4 (acc++[v]) q) hI λv G1 hv hn=>⟨hn,nQ Iv stop step hv (by rw[length_append];simp only[length_cons,length_nil];lia) λy=>set_set ..⟩;refine⟨h1,?_⟩;show te (τ.set i (some x)) G _;rw[hτ];exact h2
theorem Es {c:WT} {t u:WS} {d:du} {τ:cV} {G:Gp} (h:∀(T V:WS) (D:du),T=t->V=u->D=d->AB c T V D τ G):AB c t u d τ G:=h t u d rfl rfl rfl
theorem bc {G G':Gp} {p:Addr} (h:aE G G') (hp:G' p=none):G p=none:=by
 cases e:G p with
 | none=>rfl
 | some g=>rw[h _ _ e] at hp;cases hp
theorem eT {c A B:Prop} {d:Decidable c} (h1:c->A) (h2:¬c->B): @ite Prop c d A B:=by
 cases d with
 | isTrue h=>exact h1 h
 | isFalse h=>exact h2 h
theorem Bh (xs:List W) (a b:Nat):∃x y:Nat,cF xs (some (a:Int)) (some (b:Int))=(xs.drop x).take y/\y<=b-a:=by
 unfold cF;rw[HT.sIx_nat,HT.sIx_nat];exact⟨_,_,rfl,by lia⟩
noncomputable abbrev kh (L:List Str):List W:=L.map W.str
theorem jK {L:List Str} {i:Int} (h0:0<=i) (h1:i<L.length):∃x,ef (kh L) i=some (.str x)/\x∈L:=by
 have hl:i.toNat<L.length:=by lia
 have q:=bC (xs:=kh L) (j:=i.toNat) (v:= .str L[i.toNat]) (by unfold kh;rw[List.getElem?_map,ycz hl];rfl);rw[Int.toNat_of_nonneg h0] at q;exact⟨_,q,getElem_mem hl⟩
section
variable {X:Cx} {π:List (Addr×Obj)} {σ:St} {H:Hp} {s:Shared} {a:Addr} {o:Obj} {kvs:List (aK×V)}
theorem aF.swap {u v:HO} (I:aF X π σ H s) (e:H a=some u) (un:Un X.fs X.ex X.H₀ (upd H a v) X.s₀.heap s.heap) (hv:bG X.prog X.w (upd H a v) s.heap a v) (nu:∀xs,u≠ .tup xs) (no:∀x,u≠ .own x):aF X π σ (upd H a v) s:=by
 have ne:∀b,H b=none->b≠a:=λb hb z=>by rw[z,e] at hb;cases hb
 refine⟨I.ok,I.os,I.bare,un,I.loc,I.cell,by rw[aH (ne _ I.free)];exact I.free,λx c hc=>by rw[aH (ne _ (I.freeC x c hc))];exact I.freeC x c hc,λp hp=>?_,λb w hb=>?_,I.len⟩
 ·obtain⟨h1,h2,h3⟩:=I.pin p hp;exact⟨h1,by rw[aH (ne _ h2)];exact h2,h3⟩
 ·by_cases hba:b=a
  ·subst hba;rw[aZ] at hb;cases hb;exact hv
  ·rw[aH hba] at hb;refine(I.hok b w hb).stay (λd v _ q=>q) (λd q=>?_) λd xs q=>?_
   ·rw[aH (λz=>by rw[z,e] at q;exact no _ (Option.some.inj q))];exact q
   ·rw[aH (λz=>by rw[z,e] at q;exact nu _ (Option.some.inj q))];exact q
theorem aF.freeze (I:aF X π σ H s) (e:H a=some (.dK kvs)) (ho:s.heap.get? a=some o):aF X π σ (upd H a (.frz o (.dK kvs))) s:=by
 refine I.swap e ?_ ⟨ho,(I.hok a _ e)⟩ (λ_ z=>by cases z) (λ_ z=>by cases z);have U:=I.base;refine⟨U.keep,U.slot,λb ob h1 h2 h3=>?_,U.there,λb xs h1=>?_,λb ob w h1=>?_,λb ps h1=>?_⟩
 ·have h4:=U.free b ob h1 h2 h3;rw[aH (λz=>by rw[z,e] at h4;cases h4)];exact h4
 ·have h4:=U.tups b xs h1;rw[aH (λz=>by rw[z,e] at h4;cases h4)];exact h4
 ·have h4:=U.frzs b ob w h1;rw[aH (λz=>by rw[z,e] at h4;cases h4)];exact h4
 ·obtain⟨m,h4⟩:=U.tbls b ps h1;exact⟨m,by rw[aH (λz=>by rw[z,e] at h4;cases h4)];exact h4⟩
theorem aF.thaw (I:aF X π σ H s) (e:H a=some (.frz o (.dK kvs))) (h0:∀ob w,X.H₀ a≠some (.frz ob w)):aF X π σ (upd H a (.dK kvs)) s:=by
 refine I.swap e ?_ (I.hok a _ e).2 (λ_ z=>by cases z) (λ_ z=>by cases z);have U:=I.base;refine⟨U.keep,U.slot,λb ob h1 h2 h3=>?_,U.there,λb xs h1=>?_,λb ob w h1=>?_,λb ps h1=>?_⟩
 ·have h4:=U.free b ob h1 h2 h3;rw[aH (λz=>by rw[z,e] at h4;cases h4)];exact h4
 ·have h4:=U.tups b xs h1;rw[aH (λz=>by rw[z,e] at h4;cases h4)];exact h4
 ·have h4:=U.frzs b ob w h1;rw[aH (λz=>by rw[z] at h1;exact h0 _ _ h1)];exact h4
 ·obtain⟨m,h4⟩:=U.tbls b ps h1;exact⟨m,by rw[aH (λz=>by rw[z,e] at h4;cases h4)];exact h4⟩
theorem aF.nofrz (I:aF X π σ H s) (e:H a=some (.dK kvs)):∀ob w,X.H₀ a≠some (.frz ob w):=λob w h=>by
 have:=I.base.frzs a ob w h;rw[e] at this;cases this
theorem iD {α β:Type} {F:α->β->Prop}:∀{l1:List α} {l2:List β},Paired F l1 l2->∀{i:Nat} {a:α} {b:β},l1[i]?=some a->l2[i]?=some b->F a b
 | _,_,.nil,_,_,_,h,_=>by cases h
 | _,_,.cons r t,0,_,_,h1,h2=>by cases h1;cases h2;exact r
 | _,_,.cons r t,i+1,_,_,h1,h2=>iD t (i:=i) h1 h2
noncomputable def Bi (d:Addr) (o:Obj) (kvs:List (aK×V)):It:=⟨λi H=>H d=some (.frz o (.dK kvs))/\i<kvs.length,λi H y H'=>H'=H/\∃kv,kvs[i]?=some kv/\y=kv.2,λi H=>H d=some (.frz o (.dK kvs))/\kvs.length<=i⟩
theorem aF.dictAt {es:Array DictEntry} {ep:Nat} (I:aF X π σ H s) (e:H a=some (.frz o (.dK kvs))) (hd:o.data=.dict es ep):∃vs,KV kvs vs/\s.heap.DictAt (aV X.prog X.w) a vs ep/\(a==sysModules)=false:=by
 obtain⟨h1,_,h2,vs,h3,o2,es2,ep2,h4,h5,h6,h7⟩:=I.hok a _ e;rw[h1] at h4;cases h4;rw[hd] at h6;cases h6;exact⟨vs,h3,⟨o,es,h1,h5,hd,h7⟩,h2⟩
theorem qT {k:aK} {v:Value} (h:iJ k v=true):bd (kV k) v:=by
 rcases bD h with⟨i,t,rfl,rfl⟩ | ⟨x,t,rfl,rfl⟩
 ·exact⟨t,rfl⟩
 ·exact⟨t,rfl⟩
theorem si {tg:Expr} {es:Array DictEntry} {ep:Nat} (it d:Addr) (hne:d≠it) (hd:o.data=.dict es ep):jl P w K tg (Bi d o kvs) [it] it (λi h=>i<=kvs.length/\h.IsValIter it d i kvs.length ep) where
 mem:=by simp
 obj:=λi h st b hb=>by
  have e:b=it:=by simpa using hb
  subst e;obtain⟨_,o,e1,e2,e3⟩:=st;exact⟨_,e1,λv z=>by rw[e3] at z;cases z⟩
 keep:=λi h h' st k=>by
  obtain⟨hi,o,e1,e2,e3⟩:=st;exact⟨hi,o,k it (by simp) _ e1,e2,e3⟩
 item:=by
  intro X hP hw hK hc i π s σ H E I hf st hg;subst hP hw hK;obtain⟨f0,f1,f2,f3,f4,f5⟩:=hf it (by simp);obtain⟨hfz,hi⟩:=hg;obtain⟨vs,kv,da,_⟩:=I.dictAt hfz hd;have hl:=kv.length;refine(Walks.dictValues (knd:=aV X.prog X.w) (I.ok.hd hc) it d hne vs ep).item i s _ _ (by lia) ⟨by rw[←hl];exact st.2,da⟩ λv h' tk hv st' kk=>?_;obtain⟨k,e1⟩:=hv;have I1:aF X π σ H { s with heap:=h',toks:=tk }:=I.turned (λb o hb e=>kk b o (by simpa using hb) e) f0 f1 f3 f4 f5;obtain⟨⟨o',g1,g2,g3⟩,_⟩:=id st';have hk:∃kv0,kvs[i]?=some kv0/\bd kv0.2 v:=by
   have h3:=ycz hi;exact⟨_,h3,(iD kv h3 e1).2⟩
  obtain⟨kv0,h3,h4⟩:=hk;refine⟨_,rfl,jm (s:={ s with heap:=h',toks:=tk }) (n:="dict_valueiterator") g1 g2 g3 (by decide) ⟨kv0.2,H,I1,h4,⟨rfl,kv0,h3,rfl⟩,⟨by assumption,by rw[hl];exact st'.1⟩,λb hb=>(hf b hb).1⟩⟩
 done:=by
  intro X hP hw hK hc i π s σ H E I hf st hg;subst hP hw hK;obtain⟨f0,f1,f2,f3,f4,f5⟩:=hf it (by simp);obtain⟨hfz,hi⟩:=hg;obtain⟨vs,kv,da,_⟩:=I.dictAt hfz hd;have hl:=kv.length;have hi2:i=kvs.length:=Nat.le_antisymm st.1 hi;subst hi2;exact(Walks.dictValues (knd:=aV X.prog X.w) (I.ok.hd hc) it d hne vs ep).done s _ _ (by rw[←hl];exact⟨st.2,da⟩) λh' tk kk=>⟨rfl,I.turned (t':=tk) (λb o hb e=>kk b o (by simpa using hb) e) f0 f1 f3 f4 f5⟩
 self:=λA i s Q E st h=>wpAny_pyIter_valiter st.2 h
variable {tg:Expr}
end
noncomputable def bT (kvs:List (aK×W)) (k:aK):Option W:=(kvs.find? λkv=>decide (kv.1=k)).map (·.2)
noncomputable def cB (kvs:List (aK×W)) (k:aK) (w:W):List (aK×W):=
 if (kvs.any λkv=>decide (kv.1=k))=true then kvs.map (λkv=>if kv.1=k then (kv.1,w) else kv) else kvs++[(k,w)]
inductive DP (K:yav) (H:Hp):List (aK×W)->List (aK×V)->Prop where
 | nil:DP K H [] []
 | cons {k:aK} {w:W} {v:V} {kvs:List (aK×W)} {us:List (aK×V)} (r:bK K H w v) (t:DP K H kvs us):DP K H ((k,w)::kvs) ((k,v)::us)
section
variable {K:yav} {H H1:Hp}
theorem DP.of:∀{kvs:List (aK×W)} {us:List (aK×V)},us.map (·.1)=kvs.map (·.1)->aS K H (kvs.map (·.2)) (us.map (·.2))->DP K H kvs us
 | [],[],_,_=> .nil
 | [],_::_,h,_=>by simp at h
 | _::_,[],h,_=>by simp at h
 | (k,w)::kvs,(k',v)::us,h,r=>by
   simp only[map_cons,List.cons.injEq] at h;obtain⟨rfl,h⟩:=h;cases r with
   | cons r rs=>exact .cons r (DP.of h rs)
theorem DP.keys {kvs:List (aK×W)} {us:List (aK×V)} (d:DP K H kvs us):us.map (·.1)=kvs.map (·.1):=by
 induction d with
 | nil=>rfl
 | cons r t ih=>rw[map_cons,map_cons,ih]
theorem DP.vals {kvs:List (aK×W)} {us:List (aK×V)} (d:DP K H kvs us):aS K H (kvs.map (·.2)) (us.map (·.2)):=by
 induction d with
 | nil=>exact .nil
 | cons r t ih=>exact .cons r ih
theorem DP.len {kvs:List (aK×W)} {us:List (aK×V)} (d:DP K H kvs us):us.length=kvs.length:=by
 have:=congrArg List.length d.keys;simpa using this
theorem DP.mono {kvs:List (aK×W)} {us:List (aK×V)} (t:aR H H1) (d:DP K H kvs us):DP K H1 kvs us:=DP.of d.keys (d.vals.mono t)
theorem DP.val {kvs:List (aK×W)} {us:List (aK×V)} (d:DP K H kvs us) (k:aK):(bT kvs k=none/\lJ us k=none)∨∃w v,bT kvs k=some w/\lJ us k=some v/\bK K H w v:=by
 induction d with
 | nil=>exact .inl ⟨rfl,rfl⟩
 | @cons k' w v kvs us r t ih=>
   by_cases e:k'=k
   ·exact .inr ⟨w,v,by simp[bT,List.find?_cons,e],mT e,r⟩
   ·rw[show bT ((k',w)::kvs) k=bT kvs k by simp[bT,List.find?_cons,e],mU (p:=(k',v)) e];exact ih
theorem DP.any {kvs:List (aK×W)} {us:List (aK×V)} (d:DP K H kvs us) (k:aK):(us.any λkv=>decide (kv.1=k))=kvs.any λkv=>decide (kv.1=k):=by
 induction d with
 | nil=>rfl
 | cons r t ih=>rw[any_cons,any_cons,ih]
theorem DP.put {kvs:List (aK×W)} {us:List (aK×V)} (d:DP K H kvs us) (k:aK) {w:W} {v:V} (r:bK K H w v):DP K H (cB kvs k w) (ie us k v):=by
 unfold cB ie;rw[d.any k]
 by_cases e:(kvs.any λkv=>decide (kv.1=k))=true
 ·rw[ycv e,ycv e];clear e
  induction d with
  | nil=>exact .nil
  | @cons k' w' v' kvs us r' t ih=>
    rw[map_cons,map_cons]
    by_cases e:k'=k
    ·rw[ycv e,ycv e];exact .cons r ih
    ·rw[ycw e,ycw e];exact .cons r' ih
 ·rw[ycw e,ycw e];clear e
  induction d with
  | nil=>exact .cons r .nil
  | cons r' t ih=>exact .cons r' ih
end
theorem cZ (kvs:List (aK×W)) (k:aK) (w:W):(cB kvs k w).length<=kvs.length+1:=by
 unfold cB;split
 ·rw[length_map];lia
 ·rw[length_append,length_cons,length_nil];lia
def GD (G:Gp) (a:Addr) (kvs:List (aK×W)):Prop:=G a=some (.dic kvs)∨∃o us,G a=some (.fdc o us kvs)
section
variable {K:yav} {H:Hp} {G:Gp} {a:Addr} {kvs:List (aK×W)}
theorem GD.rd (h:GD G a kvs) (g:aP K H G):kvs.length<=100000/\∃us,Rd H a (.dK us)/\DP K H kvs us:=by
 rcases h with h | ⟨o,us,h⟩
 ·obtain⟨l,us,e,n,r⟩:=g a _ h;exact⟨l,us,.inl e,DP.of n r⟩
 ·obtain⟨l,e,n,r⟩:=g a _ h;exact⟨l,us,.inr ⟨o,e⟩,DP.of n r⟩
theorem aR.dk {us:List (aK×V)} (hp:H a=some (.dK us)) (o:HO):aR H (upd H a o):=
 ⟨λ_ _ h=>by rw[aH (fJ h hp (by intro z;cases z))];exact h,λ_ _ _ h=>by rw[aH (fJ h hp (by intro z;cases z))];exact h⟩
theorem aR.fz {us:List (aK×V)} {ob:Obj} (hp:H a=some (.frz ob (.dK us))) (o:HO):aR H (upd H a o):=
 ⟨λ_ _ h=>by rw[aH (fJ h hp (by intro z;cases z))];exact h,λ_ _ _ h=>by rw[aH (fJ h hp (by intro z;cases z))];exact h⟩
end
section
variable {X:Cx} {π:List (Addr×Obj)} {σ:St} {H:Hp} {s:Shared} {A:Around} {E:yey}
def jL:W2:=λx y G q=>match x,y with
 | .ref a,.str z=>∃kvs w,GD G a kvs/\bT kvs (.inr z)=some w/\q w G
 | x,y=>uR x y G q
theorem ay:wk X jL:=by
 rintro value slice π s σ H x y v u Q I rx ry ⟨wx,wy,G,q,r1,r2,g,h,hQ⟩ hsl;unfold jL at h;split at h
 ·rename_i a z;obtain⟨kvs,w,hd,hv,h⟩:=h;cases r1;cases r2;cases rx;obtain⟨_,us,rd,dp⟩:=hd.rd g;obtain⟨hl,hm,vs,rel,dd⟩:=fb I.hok rd;rcases dp.val (.inr z) with⟨e,_⟩ | ⟨w',v',e,e',r⟩
  ·rw[e] at hv;cases hv
  ·rw[e] at hv;cases hv;obtain⟨u',hw,ru⟩:=fE.some_of (v:=v') (o:=valueAt vs (.inr z)) (by rw[←e'];exact rel.val (.inr z));exact tail_any dd.typeIs PySem.F.slot_dict_getitem.lookup (wpAny_getItem_of (kJ (P:=X.prog) (w:=X.w) (k:= .inr z) ry) dd.mapOf hw ⟨v',H,I.tok _,ru,hQ _ H _ G (aR.refl H) r g h⟩) hsl
 ·exact Dw value slice π s σ H x y v u Q I rx ry ⟨wx,wy,G,q,r1,r2,g,h,hQ⟩ hsl
structure Hr (ws:List W) (x:W):Prop where
 fx:x.flat=true
 fs:W.flats ws=true
 hd:W.deps ws<=149
inductive GW (G:Gp) (a:Addr):W->Bool->Prop where
 | dic {kvs:List (aK×W)} {z:Str} (h:GD G a kvs):GW G a (.str z) (bT kvs (.inr z)).isSome
 | lst {ws:List W} {x:W} (h:G a=some (.lst ws)) (l:Hr ws x):GW G a x (ws.any λw=>w.eq x)
open Classical in
def zB:WE:=λ_ G q=>∀p,G p=none->q (.ref p) (aw G p (.dic []))
theorem lZ:QE X (.Dict [] [] pos) zB:=
 pe_dnewK.imp λσ H Q z0=>z0.el λτ G q hs hg ht hQ p hp=>hQ _ _ _ _ (aR.new hp _) (.ref p) (hg.lay (g:= .dic []) (aR.new hp _) ⟨zero_le _,[],aZ,rfl,.nil⟩) (ht p (hg.fresh hp))
noncomputable def kW:aK->W
 | .inl i=> .int i
 | .inr x=> .str x
theorem uU (k:aK):bK K H (kW k) (kV k):=by
 cases k with
 | inl i=>exact .int i
 | inr x=>exact .str x
theorem Dz {k:aK} {v:V} (r:bK K H (kW k) v):v=kV k:=by
 cases k<;> cases r<;> rfl
def Et {α:Type} (mk:α->aK) (d:du) (τ:cV) (w x y:W) (G:Gp):Prop:=∃a z kvs,x=.ref a/\y=kW (mk z)/\G a=some (.dic kvs)/\kvs.length+1<=100000/\d.nx τ (aw G a (.dic (cB kvs (mk z) w)))
theorem nR {α:Type} (mk:α->aK) {o i value:Expr} {to ti tv:WE} {pos pos':Pos} (hv:QE X value tv) (ho:QE X o to) (hi:QE X i ti) (hs:swapsWith value (some (.Subscript o i pos')) pos.line X.env=pure false:=by rfl):
 QS X (.Assign [.Subscript o i pos'] value pos) (λd τ G=>tv τ G λw G1=>to τ G1 λx G2=>ti τ G2 λy G3=>Et mk d τ w x y G3):=by
 intro π s σ H D I h;obtain⟨τ,G,d,hst,hg,ht,l⟩:=h;refine wpAny_Assign_Subscript (bU (hv π s σ H (λv H1=>∃w G1,aR H H1/\bK X.K H1 w v/\aP X.K H1 G1/\to τ G1 λx G2=>ti τ G2 λy G3=>Et mk d τ w x y G3) I ⟨τ,G,_,hst,hg,ht,λv H1 w G1 t1 r1 g1 q1=>⟨w,G1,t1,r1,g1,q1⟩⟩) λr s1 z9=>?_) hs;obtain⟨v,H1,I1,rv,w,G1,t1,r1,g1,q1⟩:=z9;refine bU (ho π s1 σ H1 (λv2 H2=>∃w2 G2,aR H1 H2/\bK X.K H2 w2 v2/\aP X.K H2 G2/\ti τ G2 λy G3=>Et mk d τ w w2 y G3) I1 ⟨τ,G1,_,hst.mono t1,g1,q1,λv2 H2 w2 G2 t2 r2 g2 q2=>⟨w2,G2,t2,r2,g2,q2⟩⟩) λu s2 z9=>?_;obtain⟨x,H2,I2,rx,w2,G2,t2,r2,g2,q2⟩:=z9;refine bU (hi π s2 σ H2 (λv3 H3=>∃w3 G3,aR H2 H3/\bK X.K H3 w3 v3/\aP X.K H3 G3/\Et mk d τ w w2 w3 G3) I2 ⟨τ,G2,_,(hst.mono t1).mono t2,g2,q2,λv3 H3 w3 G3 t3 r3 g3 q3=>⟨w3,G3,t3,r3,g3,q3⟩⟩) λiv s3 z9=>?_;obtain⟨y,H3,I3,ry,w3,G3,t3,r3,g3,a,z,kvs,e1,e2,e3,hl,q3⟩:=z9;subst e1 e2;cases r2;obtain rfl:=Dz r3;cases rx;obtain⟨_,us,e4,n4,r4⟩:=g3 a _ e3;have dp:=DP.of n4 r4;obtain⟨zl,hd,vs,rel,dd⟩:=kL I3.hok e4;have hz:vs.length<=sizeLine:=by rw[←rel.length];exact zl
 have hlen:kvs.length+1<=sizeLine:=bP hl;have hl2:(ie us (mk z) v).length<=sizeLine:=by have:=mV us (mk z) v;have:=dp.len;lia
 refine wpAny_setItem_pairs (hsz:=hz) (kJ (P:=X.prog) (w:=X.w) (k:=mk z) ry) dd λh' dd' hs=>?_;have he:∃q,h'.get? a=some q:=let ⟨q,_,_,hq,_⟩:=dd';⟨q,hq⟩;have I4:=qg (t':=s3.toks+1) I3 (by rw[e4];exact True.intro) hs he (Ax hl2 hd (rel.put (mk z) rv) dd');have tt:=(t1.trans t2).trans t3;have t4:=aR.dk e4 (.dK (ie us (mk z) v));have dp2:=(dp.put (mk z) (r1.mono (t2.trans t3))).mono t4;exact⟨σ,_,I4,l.nx σ _ τ _ (tt.trans t4) (hst.mono (tt.trans t4)) (g3.lay (g:= .dic _) t4 ⟨ycy (cZ _ _ _) hl,_,aZ,dp2.keys,dp2.vals⟩) q3⟩
def zC (tv to ti:WE):WS:=λd τ G=>tv τ G λw G1=>to τ G1 λx G2=>ti τ G2 λy G3=>∃a z kvs,x=.ref a/\y=.str z/\G3 a=some (.dic kvs)/\kvs.length+1<=100000/\d.nx τ (aw G3 a (.dic (cB kvs (.inr z) w)))
theorem cR {o i value:Expr} {to ti tv:WE} {pos pos':Pos} (hv:QE X value tv) (ho:QE X o to) (hi:QE X i ti) (hs:swapsWith value (some (.Subscript o i pos')) pos.line X.env=pure false:=by rfl):QS X (.Assign [.Subscript o i pos'] value pos) (zC tv to ti):=nR Sum.inr hv ho hi hs
noncomputable def du.th (a:Addr) (d:du):du where
 nx:=λτ G=>∃o us kvs,G a=some (.fdc o us kvs)/\d.nx τ (aw G a (.dic kvs))
 rt:=λw G=>∃o us kvs,G a=some (.fdc o us kvs)/\d.rt w (aw G a (.dic kvs))
 bk:=λτ G=>∃o us kvs,G a=some (.fdc o us kvs)/\d.bk τ (aw G a (.dic kvs))
 ct:=λτ G=>∃o us kvs,G a=some (.fdc o us kvs)/\d.ct τ (aw G a (.dic kvs))
noncomputable def fH.th (a:Addr) (d:fH):fH where
 nx:=λτ G=>∃o us,G a=some (.frz o (.dK us))/\d.nx τ (upd G a (.dK us))
 rt:=λw G=>∃o us,G a=some (.frz o (.dK us))/\d.rt w (upd G a (.dK us))
 bk:=λτ G=>∃o us,G a=some (.frz o (.dK us))/\d.bk τ (upd G a (.dK us))
 ct:=λτ G=>∃o us,G a=some (.frz o (.dK us))/\d.ct τ (upd G a (.dK us))
theorem yf {t:TS} (h:PS X st t):PS X st (λD σ H=>∃a us,H a=some (.dK us)/\t (fH.th a D) σ H):=by
 rintro π s σ H D I ⟨a,us,e,q⟩;have h0:=I.nofrz e;refine bU (h π s σ H _ I q) λf s1 z=>?_;cases f with
 | next=>obtain⟨σ1,H1,I1,o,us,e,q⟩:=z;exact⟨σ1,_,I1.thaw e h0,q⟩
 | cont=>obtain⟨σ1,H1,I1,o,us,e,q⟩:=z;exact⟨σ1,_,I1.thaw e h0,q⟩
 | brk=>obtain⟨σ1,H1,I1,o,us,e,q⟩:=z;exact⟨σ1,_,I1.thaw e h0,q⟩
 | ret u=>obtain⟨v,σ1,H1,I1,rv,o,us,e,q⟩:=z;exact⟨v,σ1,_,I1.thaw e h0,rv,q⟩
theorem aP.thaw {G:Gp} {o:Obj} {us:List (aK×V)} {kvs:List (aK×W)} (g:aP K H G) (e:G a=some (.fdc o us kvs)):
 H a=some (.frz o (.dK us))/\aR H (L2.upd H a (.dK us))/\aP K (L2.upd H a (.dK us)) (aw G a (.dic kvs)):=by
 obtain⟨l,e1,n,r⟩:=g a _ e;have t:=aR.fz e1 (.dK us);exact⟨e1,t,g.lay (g:= .dic _) t ⟨l,us,aZ,n,r.mono t⟩⟩
def zD (t:WS):WS:=λd τ G=>∃a kvs,G a=some (.dic kvs)/\t (d.th a) τ G
theorem mf {t:WS} (h:QS X st t):QS X st (zD t):=
 (yf h).imp λD σ H z0=>z0.el λτ G d hs hg ⟨a,kvs,ea,ht⟩ l=>by
   obtain⟨_,us,e1,_⟩:=hg a _ ea;refine⟨a,us,e1,τ,G,d.th a,hs,hg,ht,⟨?_,?_,?_,?_⟩⟩
   ·rintro σ1 H1 τ1 G1 t1 s1 g1 ⟨o,us,kvs,e,q⟩;obtain⟨e2,t2,g2⟩:=g1.thaw e;exact⟨o,us,e2,l.nx _ _ _ _ (t1.trans t2) (s1.mono t2) g2 q⟩
   ·rintro v H1 w G1 t1 r1 g1 ⟨o,us,kvs,e,q⟩;obtain⟨e2,t2,g2⟩:=g1.thaw e;exact⟨o,us,e2,l.rt _ _ _ _ (t1.trans t2) (r1.mono t2) g2 q⟩
   ·rintro σ1 H1 τ1 G1 t1 s1 g1 ⟨o,us,kvs,e,q⟩;obtain⟨e2,t2,g2⟩:=g1.thaw e;exact⟨o,us,e2,l.bk _ _ _ _ (t1.trans t2) (s1.mono t2) g2 q⟩
   ·rintro σ1 H1 τ1 G1 t1 s1 g1 ⟨o,us,kvs,e,q⟩;obtain⟨e2,t2,g2⟩:=g1.thaw e;exact⟨o,us,e2,l.ct _ _ _ _ (t1.trans t2) (s1.mono t2) g2 q⟩
theorem aP.freeze {G:Gp} {us:List (aK×V)} {kvs:List (aK×W)} (g:aP K H G) (e:G a=some (.dic kvs)) (e1:H a=some (.dK us)) (o:Obj):
 aR H (L2.upd H a (.frz o (.dK us)))/\aP K (L2.upd H a (.frz o (.dK us))) (aw G a (.fdc o us kvs)):=by
 obtain⟨l,us',e2,n,r⟩:=g a _ e;rw[e1] at e2;cases e2;have t:=aR.dk e1 (.frz o (.dK us));exact⟨t,g.lay (g:= .fdc _ _ _) t ⟨l,aZ,n,r.mono t⟩⟩
theorem uV {o:Obj} {us:List (aK×V)} {kvs:List (aK×W)}:oH K (Bi a o us) (kvs.map (·.2)) (λG=>G a=some (.fdc o us kvs)) H where
 stop:=λi H1 G t g e hl=>by
  obtain⟨_,e1,n,r⟩:=g a _ e;have:=(DP.of n r).len;rw[length_map] at hl;exact⟨e1,by lia⟩
 go:=λi w H1 G t g eG e=>by
  obtain⟨_,e1,n,r⟩:=g a _ eG;have hl:=(DP.of n r).len;obtain⟨v,h3,rv⟩:=r.get e;have hi:=(List.getElem?_eq_some_iff.mp e).1;rw[length_map] at hi;refine⟨⟨e1,by lia⟩,λx H' z9=>?_⟩;obtain⟨eH,kv,h1,h2⟩:=z9;subst eH h2;rw[List.getElem?_map,h1] at h3;cases h3;exact⟨aR.refl _,rv,g⟩
variable {tg:Expr}
end
noncomputable def Fp (d:Addr) (o:Obj) (kvs:List (aK×V)):It:=
 ⟨λi H=>H d=some (.frz o (.dK kvs))/\i<kvs.length,
  λi H y H'=>∃p kv,H p=none/\kvs[i]?=some kv/\y=.ref p/\H'=upd H p (.tup [kV kv.1,kv.2]),
  λi H=>H d=some (.frz o (.dK kvs))/\kvs.length<=i⟩
theorem pM {elts:List Expr} {o:Obj} {kvs:List (aK×V)} {es:Array DictEntry} {ep:Nat} (it d:Addr) (hne:d≠it) (hd:o.data=.dict es ep):
 jl P w K (.Tuple elts k pos) (Fp d o kvs) [it] it (λi h=>i<=kvs.length/\∃ok ov,IsItemIter h it d i kvs.length ep ok ov) where
 mem:=by simp
 obj:=λi h st b hb=>by
  have e:b=it:=by simpa using hb
  subst e;obtain⟨_,ok,ov,e1⟩:=st;exact⟨_,e1,λv z=>by cases z⟩
 keep:=λi h h' st k=>by
  obtain⟨hi,ok,ov,e1⟩:=st;exact⟨hi,ok,ov,k it (by simp) _ e1⟩
 item:=by
  intro X hP hw hK hc i π s σ H E I hf st hg;subst hP hw hK;obtain⟨f0,f1,f2,f3,f4,f5⟩:=hf it (by simp);obtain⟨hfz,hi⟩:=hg;obtain⟨vs,kv,da,_⟩:=I.dictAt hfz hd;have hl:=kv.length;obtain⟨_,ok,ov,hit⟩:=st;have hi2:i<vs.length:=by lia
  have e0:=ycz hi;have e1:=ycz hi2;obtain⟨pk,pv⟩:=iD kv e0 e1;rw[hl] at hit;refine wpAny_pyNext_items_item (knd:=aV X.prog X.w) (k:=vs[i].1) (v:=vs[i].2) hit da e1 λkey h1 hkey ho ht hsz kk=>⟨_,rfl,?_⟩;refine PySem.wpAny_letOwnedTupleGo_items ho λh2 he2 sb2=>?_;have lt:∀{c:Addr} {o:Obj},s.heap.get? c=some o->c≠s.heap.objs.size:=λe=>ne_of_lt (ybv e);have hnew:H s.heap.objs.size=none:=I.hok.fresh (ycx _);have ene:it≠s.heap.objs.size:=lt hit;have keep:∀c o,c≠it->s.heap.get? c=some o->h2.get? c=some o:=λc o c1 q=>sb2.extBut c o c1 (kk c o c1 q);have tn:h2.get? s.heap.objs.size=some { cls:= .type "tuple",data:= .seq #[key,vs[i].2] }:=sb2.extBut _ _ (Ne.symm ene) ht;have rk:bd (kV kvs[i].1) key:=by rw[pk];exact qT hkey
  refine⟨.ref s.heap.objs.size,upd H s.heap.objs.size (.tup [kV kvs[i].1,kvs[i].2]),I.pair (ch:=[it]) hf (λc o hc e=>keep c o (by simpa using hc) e) tn rk pv,rfl,⟨_,_,hnew,e0,rfl,rfl⟩,⟨by assumption,key,vs[i].2,by rw[hl];exact he2⟩,λc hc=>?_⟩
  ·have hc':c=it:=by simpa using hc
   subst hc';rw[aH ene];exact f0
 done:=by
  intro X hP hw hK hc i π s σ H E I hf st hg;subst hP hw hK;obtain⟨f0,f1,f2,f3,f4,f5⟩:=hf it (by simp);obtain⟨hfz,hi⟩:=hg;obtain⟨vs,kv,da,_⟩:=I.dictAt hfz hd;have hl:=kv.length;obtain⟨hi2,ok,ov,hit⟩:=st;rw[hl] at hit;exact wpAny_pyNext_items_end (knd:=aV X.prog X.w) (I.ok.hd hc) hit da (List.getElem?_eq_none (by lia)) λh' kk=>⟨rfl,I.turned (t':=s.toks) (λb o hb e=>kk b o (by simpa using hb) e) f0 f1 f3 f4 f5⟩
 self:=λA i s Q E st h=>let ⟨_,_,_,hit⟩:=st;PySem.W.kcp_self hit h
section
variable {X:Cx} {elts:List Expr} {k:Nat} {tp:Pos}
theorem uW {p apos cpos:Pos} (hN:X.N[i]?=some x) (hv:BQ X.env.scope x) (hd:(x==("__debug__":Str))=false:=by decide) (hcd:(x==("__classdict__":Str))=false:=by decide)
 (hbase:attributeBase (.Name x p) "items" X.env (eval (.Name x p) X.env)=eval (.Name x p) X.env:=by rfl) (hline:(apos.endLine==cpos.line)=true:=by rfl):
 PI X (.Tuple elts k tp) (.Call (.Attribute (.Name x p) "items" apos) [] [] cpos) (λσ H R=>∃a kvs,σ[i]?=some (some (.ref a))/\H a=some (.dK kvs)/\∀o,R (Fp a o kvs) (upd H a (.frz o (.dK kvs)))):=by
 rintro π s σ H R I ⟨a,kvs,hi,e,h⟩;refine wpAny_Call_method0_late hbase hline (bU (oJ (pos:=p) hN hv hd hcd π s σ H (λv H'=>v=.ref a/\H'=H) I ⟨_,hi,rfl,rfl⟩) λu s1 z9=>?_);obtain⟨v,H1,I1,r,hv1,hH⟩:=z9;subst hv1;subst hH;obtain rfl:u=Value.ref a:=r;obtain⟨_,hm,vs,kv,o,es,ep,h1,h2,h3,h4⟩:=kL I1.hok e;have ty:Cq X.K "dict" (.ref a) H1:= .inr (.inr (.inl ⟨rfl,.inl ⟨kvs,e⟩⟩));obtain⟨t1,t2⟩:=lH I1 (show bd (V.ref a) (Value.ref a) from rfl) ty;refine⟨"dict",_,PySem.F.plainAttrs_dict,PySem.F.slot_dict_items,PySem.F.type_dict_items,t1,t2,Calls.callWith_builtin rfl (PySem.evalArgs_none ?_)⟩;refine call_meetsIn PySem.F.slot_dict_items t1 PySem.F.entry_dict_items (PySem.F.args_dict_items_1 _) (meets_dict_items (aV X.prog X.w) a hm) ⟨⟨vs,o,es,ep,h1,h2,h3,h4⟩,?_⟩;have I2:aF X π σ H1 { s1 with heap:=s1.heap.push { cls:= .type "dict_items",data:= .fields #[.ref a] } }:=I1.kept (t':=s1.toks) λb o e=>ybz _ e;have h1':(s1.heap.push { cls:= .type "dict_items",data:= .fields #[.ref a] }).get? a=some o:=ybz _ h1;have J:=I2.freeze e h1';refine wpAny_pyIter_items (knd:=aV X.prog X.w) (d:=a) ⟨_,ybw _ rfl,rfl,rfl⟩ ⟨o,es,h1',h2,h3,h4⟩ ?_;have hne:a≠(s1.heap.push { cls:= .type "dict_items",data:= .fields #[.ref a] }).objs.size:=ne_of_lt (ybv h1');refine⟨_,[(s1.heap.push { cls:= .type "dict_items",data:= .fields #[.ref a] }).objs.size],_,_,_,rfl,J.kept (t':=s1.toks) λb o e=>ybz _ e,pM (o:=o) (kvs:=kvs) (es:=es) (ep:=ep) _ a hne h3,⟨zero_le _,.none,.none,by rw[kv.length];exact ybw _ rfl⟩,λb hb=>?_,h o⟩;have e:b=(s1.heap.push { cls:= .type "dict_items",data:= .fields #[.ref a] }).objs.size:=by simpa using hb
 subst e;exact J.fpOk (ycx _) (J.hok.fresh (ycx _))
theorem sj {H:Hp} {o:Obj} {us:List (aK×V)} {kvs:List (aK×W)}:oH K (Fp a o us) (kvs.map λp=> .tup [kW p.1,p.2]) (λG=>G a=some (.fdc o us kvs)) H where
 stop:=λi H1 G t g e hl=>by
  obtain⟨_,e1,n,r⟩:=g a _ e;have:=(DP.of n r).len;rw[length_map] at hl;exact⟨e1,by lia⟩
 go:=λi w H1 G t g eG e=>by
  obtain⟨_,e1,n,r⟩:=g a _ eG;have hl:=(DP.of n r).len;rw[List.getElem?_map] at e;cases hk:kvs[i]? with
  | none=>rw[hk] at e;cases e
  | some p=>
    rw[hk] at e;cases e;have hi:=(List.getElem?_eq_some_iff.mp hk).1;obtain⟨v,h5,rv⟩:=r.get (i:=i) (w:=p.2) (by rw[List.getElem?_map,hk];rfl);refine⟨⟨e1,by lia⟩,λx H' z9=>?_⟩;obtain⟨q,kv,hq,h1,h2,h3⟩:=z9;subst h2 h3;have h4:(us.map (·.1))[i]?=some kv.1:=by rw[List.getElem?_map,h1];rfl
    rw[n,List.getElem?_map,hk] at h4;have h4':p.1=kv.1:=Option.some.inj h4;rw[List.getElem?_map,h1] at h5;cases h5;have tn:=aR.new hq (HO.tup [kV kv.1,kv.2]);refine⟨tn,.tup aZ (.cons ?_ (.cons (rv.mono tn) .nil)),g.keep hq _⟩;rw[h4'];exact uU _
def pN (i:Nat):WI:=λτ G r=>match τ[i]? with
 | some (some (.ref a))=>∃kvs,G a=some (.dic kvs)/\∀o us,r (kvs.map λp=> .tup [kW p.1,p.2]) (λG=>G a=some (.fdc o us kvs)) (aw G a (.fdc o us kvs))
 | _=>False
theorem nS (i:Nat) {p apos cpos:Pos} (hN:X.N[i]?=some x) (hv:BQ X.env.scope x) (hd:(x==("__debug__":Str))=false:=by decide) (hcd:(x==("__classdict__":Str))=false:=by decide)
 (hbase:attributeBase (.Name x p) "items" X.env (eval (.Name x p) X.env)=eval (.Name x p) X.env:=by rfl) (hline:(apos.endLine==cpos.line)=true:=by rfl):
 QI X (.Tuple elts k tp) (.Call (.Attribute (.Name x p) "items" apos) [] [] cpos) (pN i):=
 (uW hN hv hd hcd hbase hline).imp λσ H R ⟨τ,G,r,hs,hg,ht,hR⟩=>by
   unfold pN at ht;split at ht
   ·rename_i a e;obtain⟨kvs,ea,ht⟩:=ht;obtain⟨v,e1,rv⟩:=hs.2 i _ e;cases rv;obtain⟨_,us,e2,_⟩:=hg a _ ea;refine⟨a,us,e1,e2,λo=>?_⟩;obtain⟨t,g⟩:=hg.freeze ea e2 o;exact hR _ _ _ _ _ t g sj (ht o us)
   ·exact ht.elim
end
section
variable {X:Cx} {π:List (Addr×Obj)} {σ:St} {H:Hp} {s:Shared}
noncomputable def Fq (t:String):Bool:=t=="dict"
theorem uX {t:String} (ht:t="NoneType"∨t="bool"∨t="int"∨t="str"∨t="tuple"∨t="list"∨t="dict"):PySem.W.kitOne K (.type t) (.type "dict")=some (Fq t):=by
 rcases ht with rfl | rfl | rfl | rfl | rfl | rfl | rfl<;> first | rfl | kernel_rfl | decide+kernel
def DA (te:WE):WE:=λτ G q=>te τ G λx G1=>match o7 G1 x with | some t=>q (.bl (Fq t)) G1 | none=>False
theorem jM:bootBuiltins "dict"=some (.type "dict"):=by decide+kernel
theorem yg {te:WE} {p p2 pos:Pos} (hm:X.mg "dict"=none) (hgx:Gl X "dict") (hm1:X.mg "isinstance"=none) (hg1:Gl X "isinstance") (he:QE X e te)
 (hs1:starEach [e,.Name "dict" p2] X.env=(false,eval e X.env)::starEach [.Name "dict" p2] X.env:=by rfl) (hs2:starEach [.Name "dict" p2] X.env=(false,eval (.Name "dict" p2) X.env)::starEach [] X.env:=by rfl)
 (hpl:(backTo pos (starEach [.Name "dict" p2] X.env)).any (·.1)=false:=by rfl):QE X (.Call (.Name "isinstance" p) [e,.Name "dict" p2] [] pos) (DA te):=by
 have hb:PE X (.Name "dict" p2) (tC (.ty "dict")):=pZ hgx hm jM rfl (by decide) (by decide);have ha:PA X [e,.Name "dict" p2] (mP (kg X.K te) (mP (tC (.ty "dict")) sW)):=cA he (cA hb pa_nil hs2) hs1;have hc:eZ X (.builtin "isinstance") (λvs H Q=>∃(v:V) (w:W) (G:Gp) (q:WK),vs=[v,.ty "dict"]/\bK X.K H w v/\aP X.K H G/\(match o7 G w with | some t=>q (.bl (Fq t)) G | none=>False)/\∀v H1 w G1,aR H H1->bK X.K H1 w v->aP X.K H1 G1->q w G1->Q v H1):=by
  rintro π s σ H xs us Q I r ⟨v,w,G,q,e1,r1,g1,h,hQ⟩;subst e1;obtain⟨u,u2,rfl,ru,ru2⟩:=jp r;cases (show u2=Value.type "dict" from ru2);split at h
  ·rename_i t e;obtain⟨ty,hk⟩:=nl g1 r1 e;exact kB I ru ty (uX hk) λtk=>⟨.bl _,H,I.tok tk,rfl,hQ _ H _ G (aR.refl H) (.bl _) g1 h⟩
  ·exact h.elim
 exact(jr hc hg1 hm1 nh ha (by decide) (by decide) hs1 hpl).imp λσ H Q z0=>z0.el λτ G q hs hg ht hQ=>⟨τ,G,_,hs,hg,ht,λv H1 w G1 t1 r1 g1 q1=>
  ⟨v,w,G1,q,rfl,r1,g1,q1,λv2 H2 w2 G2 t2=>hQ v2 H2 w2 G2 (t1.trans t2)⟩⟩
inductive yh (G:Gp) (a:Addr):Nat->Prop where
 | lst {ws:List W} (h:G a=some (.lst ws)):yh G a ws.length
 | dic {kvs:List (aK×W)} (h:GD G a kvs):yh G a kvs.length
def nU:List W->Gp->WK->Prop:=λws G q=>match ws with
 | [.ref a]=>∃n:Nat,yh G a n/\q (.int n) G
 | ws=>uS ws G q
theorem cj:eg X (.builtin "len") nU:=by
 rintro π s σ H xs us Q I r ⟨ws,G,q,rw',g,h,hQ⟩;unfold nU at h;split at h
 ·obtain⟨n,hn,h⟩:=h;cases hn with
  | lst e=>exact yY π s σ H xs us Q I r ⟨_,G,q,rw',g,⟨_,e,h⟩,hQ⟩
  | dic hd=>
    obtain⟨v,rfl,r1⟩:=rw'.one;cases r1;obtain⟨u,rfl,ru⟩:=e9 r;cases ru;obtain⟨_,us,rd,dp⟩:=hd.rd g;refine Ct I rd λt s' I'=>⟨.int us.length,H,I',⟨t,rfl⟩,hQ _ H _ G (aR.refl H) ?_ g h⟩;rw[dp.len];exact .int _
 ·exact Bf π s σ H xs us Q I r ⟨ws,G,q,rw',g,h,hQ⟩
inductive Bj (G:Gp) (a:Addr):List W->Prop where
 | lst {ws:List W} (h:G a=some (.lst ws)):Bj G a ws
 | dic {kvs:List (aK×W)} (h:GD G a kvs):Bj G a (kvs.map λp=>kW p.1)
def pO:List W->Gp->WK->Prop:=λws G q=>match ws with
 | [.ref a]=>∃ws,Bj G a ws/\∀p,G p=none->q (.ref p) (aw G p (.lst ws))
 | ws=>qj ws G q
theorem qU {P:Program} {w:World}:∀{us:List (aK×V)} {vs:List (aK×Value)} {its:yez},KV us vs->its.length=vs.length->(∀(j:Nat) (v:Value),its[j]?=some v->∃(k:aK) (x:Value),vs[j]?=some (k,x)/\(aV P w).is k v=true)->aU (us.map λp=>kV p.1) its
 | [],_,[],.nil,_,_=> .nil
 | [],_,_::_,.nil,h,_=>by simp at h
 | _::_,_,[],.cons _ _,h,_=>by simp at h
 | p::us,_,u::its,.cons r t,h,hv=>by
   obtain⟨k,x,e1,e2⟩:=hv 0 u rfl;cases e1;refine .cons ?_ (qU (P:=P) (w:=w) t (by simpa using h) λj v e=>by simpa using hv (j+1) v (by simpa using e));show bd (kV p.1) u;rw[show p.1=k from r.1];exact qT e2
theorem mh (hc:X.calm=true):eg X (.type "list") pO:=by
 rintro π s σ H xs us Q I r ⟨ws,G,q,rw',g,h,hQ⟩;unfold pO at h;split at h
 ·rename_i a;obtain⟨ws,hw,h⟩:=h;cases hw with
  | lst e=>exact tO π s σ H xs us Q I r ⟨_,G,q,rw',g,⟨_,e,h⟩,hQ⟩
  | dic hd=>
    obtain⟨v,rfl,r1⟩:=rw'.one;cases r1;obtain⟨u,rfl,ru⟩:=e9 r;cases ru;obtain⟨hl,us,rd,dp⟩:=hd.rd g;obtain⟨zl,hm,vs,rel,dd⟩:=fb I.hok rd;obtain⟨ep,hat⟩:=dd.dictAt;refine PySem.W.kdl_call (PySem.W.kdl_dict (knd:=aV X.prog X.w) (kvs:=vs) (ep:=ep) hm) (I.ok.hd hc) hat (by rw[←rel.length];exact zl) λh' tk acc' c' kp e hacc=>?_;have rv:aU (us.map λp=>kV p.1) acc'.toList:=qU (P:=X.prog) (w:=X.w) rel (by rw[Array.length_toList];exact hacc.1) λj v e=>hacc.2 j v (by rw[←Array.getElem?_toList];exact e);have hsz:(us.map λp=>kV p.1).length<=sizeLine:=by rw[length_map];exact zl
    have hp:=I.hok.fresh (ycx s.heap.objs.size);have e':h'.get? s.heap.objs.size=some { cls:= .type "list",data:= .seq acc'.toList.toArray c' }:=by simpa using e
    refine⟨.ref s.heap.objs.size,_,I.laid (t':=tk) (λb o q=>kp b o q) (ycx _) (show bG X.prog X.w _ h' _ (.lst (us.map λp=>kV p.1)) from ⟨hsz,acc'.toList,c',rv,e'⟩),rfl,?_⟩;have rr:∀{kvs:List (aK×W)} {us:List (aK×V)},DP X.K H kvs us->aS X.K H (kvs.map λp=>kW p.1) (us.map λp=>kV p.1):=by
     intro kvs us d
     induction d with
     | nil=>exact .nil
     | cons r t ih=>exact .cons (uU _) ih
    exact hQ _ _ _ _ (aR.new hp _) (.ref _) (g.put (aR.new hp _) (rr dp) (by rw[length_map];exact hl)) (h _ (g.fresh hp))
 ·exact tO π s σ H xs us Q I r ⟨ws,G,q,rw',g,h,hQ⟩
def Fs:V->List V->Hp->VK->Prop:=λx vs H Q=>∃a kvs k d,x=.ref a/\vs=[kV k,d]/\H a=some (.dK kvs)/\Q ((lJ kvs k).getD d) H
theorem Bk:Co X "dict.get" Fs:=by
 rintro π s σ H x vs v us Q I rx rv ⟨a,kvs,k,d,e1,e2,e,q⟩;subst e1 e2;cases rx;obtain⟨u1,u2,rfl,r1,r2⟩:=jp rv;obtain⟨z,hd,vs,rel,dd⟩:=kL I.hok e;exact call_meetsIn PySem.F.slot_dict_get dd.typeIs PySem.F.entry_dict_get (PySem.F.args_dict_get_3 _ _ _) (meets_dict_get_default (aV X.prog X.w) a (kJ r1) hd u2) ⟨_,dd.mapOf,_,H,I.tok _,(rel.val k).getD r2,q⟩
theorem nV {α:Type} (mk:α->aK) {o k e:Expr} {to tk te:WE} {apos cpos:Pos} (ho:QE X o to) (hk:QE X k tk) (he:QE X e te)
 (hbase:attributeBase o "get" X.env (eval o X.env)=eval o X.env:=by rfl)
 (hfew:((backTo cpos (starEach [k,e] X.env)).all (λx=>!x.1)&&(backToKw cpos (keywordEach [] X.env)).all (λx=>x.1.isSome)
   &&decide (([k,e]:List Expr).length+([]:List Keyword).length+(if ([]:List Keyword).isEmpty then 0 else 1)<30))=true:=by rfl)
 (hline:(apos.endLine==cpos.line)=true:=by rfl) (hs:starEach [k,e] X.env=(false,eval k X.env)::starEach [e] X.env:=by rfl) (hs2:starEach [e] X.env=(false,eval e X.env)::starEach [] X.env:=by rfl) (hpl:(backTo cpos (starEach [e] X.env)).any (·.1)=false:=by rfl):
 QE X (.Call (.Attribute o "get" apos) [k,e] [] cpos) (λτ G q=>to τ G λx G1=>match x with
 | .ref a=>(∃kvs,G1 a=some (.dic kvs))/\tk τ G1 λy G2=>te τ G2 λd G3=>∃z kvs,y=kW (mk z)/\G3 a=some (.dic kvs)/\q ((bT kvs (mk z)).getD d) G3
 | _=>False):=
 (yP PySem.F.plainAttrs_dict PySem.F.slot_dict_get PySem.F.type_dict_get Bk ho (cA hk (cA he pa_nil hs2) hs) hbase hfew hline hs hpl).imp λσ H Q z0=>z0.el λτ G q hs hg ht hQ=>
   ⟨τ,G,_,hs,hg,ht,λv H1 w G1 t1 r1 g1 q1=>by
     split at q1
     ·rename_i a;cases r1;obtain⟨⟨kvs,e1⟩,q1⟩:=q1;obtain⟨_,us,h1,_⟩:=g1 a _ e1;refine⟨.inr (.inr (.inl ⟨rfl,.inl ⟨us,h1⟩⟩)),τ,G1,_,hs.mono t1,g1,q1,λv2 H2 w2 G2 t2 r2 g2 q2=>?_⟩;refine⟨τ,G2,_,(hs.mono t1).mono t2,g2,q2,λv3 H3 w3 G3 t3 r3 g3 q3=>?_⟩;obtain⟨z,kvs,rfl,e2,q3⟩:=q3;obtain rfl:=Dz r2;obtain⟨_,us,h2,n,rr⟩:=g3 a _ e2;refine⟨a,us,mk z,v3,rfl,rfl,h2,hQ _ _ _ _ ((t1.trans t2).trans t3) ?_ g3 q3⟩;rcases(DP.of n rr).val (mk z) with⟨e,e'⟩ | ⟨w',v',e,e',r⟩
      ·rw[e,e'];exact r3
      ·rw[e,e'];exact r
     ·exact q1.elim⟩
def zE (to tk td:WE):WE:=λτ G q=>to τ G λx G1=>match x with
 | .ref a=>(∃kvs,G1 a=some (.dic kvs))/\tk τ G1 λy G2=>td τ G2 λd G3=>∃z kvs,y=.str z/\G3 a=some (.dic kvs)/\q ((bT kvs (.inr z)).getD d) G3
 | _=>False
theorem eU {o k e:Expr} {to tk te:WE} {apos cpos:Pos} (ho:QE X o to) (hk:QE X k tk) (he:QE X e te)
 (hbase:attributeBase o "get" X.env (eval o X.env)=eval o X.env:=by rfl)
 (hfew:((backTo cpos (starEach [k,e] X.env)).all (λx=>!x.1)&&(backToKw cpos (keywordEach [] X.env)).all (λx=>x.1.isSome)
   &&decide (([k,e]:List Expr).length+([]:List Keyword).length+(if ([]:List Keyword).isEmpty then 0 else 1)<30))=true:=by rfl)
 (hline:(apos.endLine==cpos.line)=true:=by rfl) (hs:starEach [k,e] X.env=(false,eval k X.env)::starEach [e] X.env:=by rfl) (hs2:starEach [e] X.env=(false,eval e X.env)::starEach [] X.env:=by rfl) (hpl:(backTo cpos (starEach [e] X.env)).any (·.1)=false:=by rfl):
 QE X (.Call (.Attribute o "get" apos) [k,e] [] cpos) (zE to tk te):=
 nV Sum.inr ho hk he hbase hfew hline hs hs2 hpl
inductive jN (G:Gp):W->W->Prop where
 | int (i:Int):jN G (.int i) (.int i)
 | lst {a b:Addr} {ws us:List W} (ea:G a=some (.lst ws)) (eb:G b=some (.lst us)) (f1:W.flats ws=true) (f2:W.flats us=true) (hd:W.deps ws<=8) (he:W.eqs ws us=true):jN G (.ref a) (.ref b)
inductive DB (G:Gp) (a b:Addr):Bool->Prop where
 | lst {ws us:List W} (ea:G a=some (.lst ws)) (eb:G b=some (.lst us)) (f1:W.flats ws=true) (f2:W.flats us=true) (hd:W.deps ws<=149):DB G a b (W.eqs ws us)
 | dic {kvs us:List (aK×W)} (ea:GD G a kvs) (eb:GD G b us) (hl:kvs.length=us.length) (hv:∀p,p∈kvs->∃w',bT us p.1=some w'/\jN G p.2 w'):DB G a b true
def DC:W2:=λx y G q=>match x,y with
 | .ref a,.ref b=>∃r,DB G a b r/\q (.bl r) G
 | x,y=>wW x y G q
def DE:W2:=λx y G q=>match x,y with
 | .ref a,.ref b=>∃r,DB G a b r/\q (.bl (!r)) G
 | x,y=>wX x y G q
theorem yi (hu:A.units+20<cLine) {G:Gp} {w1 w2:W} {v1 v2:V} {u1 u2:Value} (I:aF X π σ H s) (g:aP X.K H G) (h:jN G w1 w2) (r1:bK X.K H w1 v1) (r2:bK X.K H w2 v2) (q1:bd v1 u1) (q2:bd v2 u2):SeqAt.EqAt A s u1 u2 true:=by
 cases h with
 | int i=>
   cases r1;cases r2;have:=(im I 10 A (w1:= .int i) (w2:= .int i) (by show 0<10;decide) rfl rfl (by lia) (.int i) (.int i) q1 q2).1;rw[pH] at this;simpa using this
 | @lst a b ws us ea eb f1 f2 hd he=>
   cases r1;cases r2;cases q1;cases q2
   by_cases hne:a=b
   ·subst hne;exact SeqAt.EqAt.same _
   obtain⟨_,xs,e1,ra⟩:=g _ _ ea;obtain⟨_,ys,e2,rb⟩:=g _ _ eb;obtain⟨its,rv,p,_⟩:=I.list (cC.of e1);obtain⟨its2,rv2,p2,_⟩:=I.list (cC.of e2);have l1:its.length=ws.length:=by rw[←rv.length,ra.length]
   have l2:its2.length=us.length:=by rw[←rv2.length,rb.length]
   have hl:ws.length=us.length:=by
    by_cases hl:ws.length=us.length
    ·exact hl
    ·rw[lO hl] at he;cases he
   have c1:=SeqAt.RcAt.lists p.isList p2.isList (by rw[size_toArray,size_toArray,l1,l2,hl]) (A:=A) (by lia) (E7 I (n:=10) (by lia) f1 f2 (by show A.units+1+10<cLine;lia) ra rb rv rv2);have er:=fu ws us;rw[←hl,Nat.min_self,beq_self_eq_true,Bool.and_true] at er;rw[size_toArray,l1,er,he] at c1;exact SeqAt.EqAt.of_refs hne c1
theorem mj (hu:A.units+20<cLine) {G:Gp} (I:aF X π σ H s) (g:aP X.K H G) {kb:List (aK×Value)} {us:List (aK×W)} {ub:List (aK×V)} (db:DP X.K H us ub) (rb:KV ub kb):
 ∀{kvs:List (aK×W)} {ua:List (aK×V)} {ka:List (aK×Value)},DP X.K H kvs ua->KV ua ka->(∀p,p∈kvs->∃w',bT us p.1=some w'/\jN G p.2 w')->PySem.W.KeqHits A s kb ka true:=by
 intro kvs ua ka d
 induction d generalizing ka with
 | nil=>
   intro r _;cases r;exact .nil
 | @cons k w v kvs ua rw' t ih=>
   intro r hv;cases r with
   | @cons _ b _ bs r1 rt=>
     obtain⟨b1,b2⟩:=b;obtain⟨e1,r2⟩:=r1;cases (show k=b1 from e1);obtain⟨w',hw,sv⟩:=hv _ yby;rcases db.val k with⟨e,_⟩ | ⟨w2,v2,e,e',r3⟩
     ·rw[e] at hw;cases hw
     ·rw[e] at hw;cases hw;obtain⟨y,hy,ry⟩:=fE.some_of (v:=v2) (o:=valueAt kb k) (by rw[←e'];exact rb.val k);exact .hit (e:=true) (b:=true) hy (yi hu I g sv rw' r3 r2 ry) (ih rt λp hp=>hv p (ybx _ hp))
theorem DF (hr:aB k X.A):gY X (compareOp .Eq) DC:=by
 rintro π s σ H x y v u Q I rx ry ⟨wx,wy,G,q,r1,r2,g,h,hQ⟩;unfold DC at h;split at h
 ·obtain⟨r,he,h⟩:=h;cases he with
  | lst ea eb f1 f2 hd=>exact C0 hr π s σ H x y v u Q I rx ry ⟨_,_,G,q,r1,r2,g,⟨_,_,ea,eb,f1,f2,hd,h⟩,hQ⟩
  | dic ea eb hl hv=>
    cases r1;cases r2;cases rx;cases ry;have hu:=hr.un;obtain⟨_,ua,ra,da⟩:=ea.rd g;obtain⟨_,ub,rb,db⟩:=eb.rd g;obtain⟨_,ma,ka,qa,dda⟩:=fb I.hok ra;obtain⟨_,mb,kb,qb,ddb⟩:=fb I.hok rb;have hlen:ka.length=kb.length:=by rw[←qa.length,←qb.length,da.len,db.len,hl]
    refine PySem.W.keq_eq ma mb dda ddb (by lia) (λ_=>mj (A:=X.A.in1) (by show X.A.units+1+20<cLine;lia) I g db qb da qa hv) ?_;rw[hlen,beq_self_eq_true,Bool.true_and];exact⟨.bl _,H,I,rfl,hQ _ H _ G (aR.refl H) (.bl _) g h⟩
 ·exact AC hr π s σ H x y v u Q I rx ry ⟨wx,wy,G,q,r1,r2,g,h,hQ⟩
theorem DG (hr:aB k X.A):gY X (compareOp .NotEq) DE:=by
 rintro π s σ H x y v u Q I rx ry ⟨wx,wy,G,q,r1,r2,g,h,hQ⟩;unfold DE at h;split at h
 ·obtain⟨r,he,h⟩:=h;cases he with
  | lst ea eb f1 f2 hd=>exact C9 hr π s σ H x y v u Q I rx ry ⟨_,_,G,q,r1,r2,g,⟨_,_,ea,eb,f1,f2,hd,h⟩,hQ⟩
  | dic ea eb hl hv=>
    cases r1;cases r2;cases rx;cases ry;have hu:=hr.un;obtain⟨_,ua,ra,da⟩:=ea.rd g;obtain⟨_,ub,rb,db⟩:=eb.rd g;obtain⟨_,ma,ka,qa,dda⟩:=fb I.hok ra;obtain⟨_,mb,kb,qb,ddb⟩:=fb I.hok rb;have hlen:ka.length=kb.length:=by rw[←qa.length,←qb.length,da.len,db.len,hl]
    refine PySem.W.keq_ne ma mb dda ddb (by lia) (λ_=>mj (A:=X.A.in1) (by show X.A.units+1+20<cLine;lia) I g db qb da qa hv) ?_;rw[hlen,beq_self_eq_true,Bool.true_and];exact⟨.bl _,H,I,rfl,hQ _ H _ G (aR.refl H) (.bl _) g h⟩
 ·exact AD hr π s σ H x y v u Q I rx ry ⟨wx,wy,G,q,r1,r2,g,h,hQ⟩
structure H9 (ws:List W) (x:W) (j:Nat):Prop where
 hit:∃w,ws[j]?=some w/\w.eq x=true
 no:∀m w,m<j->ws[m]?=some w->w.eq x=false
end
section
variable {prog:Program} {w:World} {A:Around} {R:Result->Shared->Prop} {I:Addr} {fp wr:List Addr} {Gn:Array GenState->Array GenState->Prop} {n:Nat} {P:Nat->Value->Prop} {St:Nat->Shared->Prop}
end
section
variable {prog:Program} {w:World} {A:Around} {E:yey} {s:Shared}
set_option maxHeartbeats 3200000 in
end
section
variable {X:Cx}
end
section
variable {X:Cx} {π:List (Addr×Obj)} {σ:St} {H:Hp} {s:Shared}
theorem nW {xs:Array Value} {sl:Array (Option Value)} {h:Heap} {g:_} {d:_} {t:Nat} {os:_} {Q:Option Value->Shared->Prop}
 (hx:h.get? a=some { cls:= .type "list",dict:=none,data:= .seq xs k,slots:=sl }) (hA:A.handled=none)
 (hq:∀(h':Heap) (tk:Nat),(∀(b:Addr) (o:Obj),h.get? b=some o->h'.get? b=some o)->Q none ⟨h',g,d,tk,os⟩):
 wpAny (model prog w) A (getAttr? (.ref a) "keys") Q E ⟨h,g,d,t,os⟩:=by
 unfold getAttr? getAttrBy?;have hT:∀t,(Shared.mk h g d t os).TypeIs (.ref a) "list":=λt=>⟨_,hx,rfl⟩;have f1:=PySem.sub_AttributeError;have f3:=PySem.F.slot_list_getattribute.lookup;have f4:=PySem.F.slot_list_getattribute.bind (Value.ref a);have f5:=PySem.am_list_getattr_none;refine wax ?_;unfold mkText;refine wax (wpAny_fresh' (way ?_));refine wax (wpAny_attempt ?_);unfold getAttrBy;refine wpAny_holding ?_;refine wax ?_;unfold typeOf;refine wax (wpAny_loadPart' hx (way ?_));refine wax (wpAny_of_eq f3 ?_);refine wpAny_ite_false (by rfl) ?_;unfold getAttrByItsOwn;refine wax ?_;unfold hookBefore;refine wpAny_ite_false (by rfl) (way ?_);refine wax (wpAny_attempt ?_);refine wpAny_holding ?_;unfold callGetattribute;refine wpAny_ite_false (by rfl) ?_;refine wax (wpAny_of_eq f4 ?_);refine call_meets PySem.F.slot_list_getattribute (hT _) PySem.am_entry_list_getattribute (PySem.F.args_list_getattribute_2 _ _) (PySem.meets_getattribute_miss_list a xs k sl "keys" t (by rfl) (by decide)) ⟨hx,?_⟩;refine⟨hA,λh' tk e hx'=>?_⟩;have te:(Shared.mk h' g d tk os).TypeIs (.ref e) "AttributeError":=by
  obtain⟨t1,u1,e1⟩:=hx'.there;exact⟨_,e1,rfl⟩
 show wpAny _ _ (getattributeRaised _ _ _ _ _ _ _) _ _ _;unfold getattributeRaised;refine wax (wpAny_isInstance te f1 ?_);refine wpAny_ite_true (by rfl) ?_;unfold hookBehind hookOrError;refine wax (wpAny_ite_false (by rfl) (wpAny_of_eq f5 ?_));show wpAny _ _ (attributeErrorLeaves _ _ _ _ _) _ _ _;unfold attributeErrorLeaves
 repeat (any_goals (first | assumption | wp_step))
 exact hq h' tk hx'.keeps
set_option maxHeartbeats 4000000 in
theorem iW:entryFor table "dict.update.loop"=some Builtin.«dict.update.loop»:=by rfl
theorem nX {prog:Program} {w:World} {A:Around} (hA:A.handled=none) {d it l:Addr} (hdi:d≠it) (hdl:d≠l) (hil:it≠l) {items:Array Value} {R:Result->Shared->Prop}:
 ∀(ps:List (aK×Value)) (i:Nat) (s:Shared) (kvs:List (aK×Value)) (tok:Tok),i+ps.length=items.size->s.heap.IsListIter it l i->s.heap.IsList l items->s.heap.DictOf (aV prog w) d kvs->
 (∀(j:Nat) (p:aK×Value),ps[j]?=some p->∃t k,items[i+j]?=some (.ref t)/\t≠d/\t≠it/\s.heap.IsTuple t #[k,p.2]/\(aV prog w).is p.1 k=true)->
 kvs.length+ps.length<=sizeLine->
 (∀(h':Heap) (tk:Nat),(∀(b:Addr) (o:Obj),b≠d->b≠it->s.heap.get? b=some o->h'.get? b=some o)->h'.DictOf (aV prog w) d (ps.foldl (λkvs p=>stored kvs p.1 p.2) kvs)->R (.ok (.ret .none)) ⟨h',s.gens,s.drawn,tk,s.os⟩)->
 codeAny (model prog w) A (.builtin "dict.update.loop" ⟨[.ref d,.ref it,.int (i:Int) tok,.none],[]⟩) R s
 | [],i,s,kvs,tok,hn,hi,hl,hd,hp,hz,hR=>by
   refine codeAny_builtin iW ?_;unfold Builtin.«dict.update.loop»;dsimp only;refine wax (wpAny_pyNext_list_end (by exact hA) hi hl (by simp at hn ⊢;lia) λh' eb=>?_);dsimp only;refine wax ?_;unfold Builtin.Dict.addKeywords;refine wax (way (way (way ?_)));refine hR h' s.toks (λb o _ hb e=>eb b o hb e) ?_;obtain⟨o,es,ep,e,c⟩:=hd;exact⟨o,es,ep,eb d o hdi e,c⟩
 | p::ps,i,s,kvs,tok,hn,hi,hl,hd,hp,hz,hR=>by
   refine codeAny_builtin iW ?_;unfold Builtin.«dict.update.loop»;dsimp only;obtain⟨t,k,e1,td,ti,e2,e3⟩:=hp 0 p rfl;refine wax (wpAny_pyNext_list_item hi hl e1 λh' hi' sb=>?_);dsimp only;refine wax (wpAny_holding ?_);refine wax ?_;refine wpAny_tryCatch ?_;obtain⟨o,g1,g2,n,g3⟩:=e2;have g1':h'.get? t=some o:=(sb.2 t ti).trans g1;unfold Builtin.Dict.pairItems;refine wax (wpAny_typeOf (T:="tuple") ⟨o,g1',g2⟩ ?_);refine wpAny_ite_true (by rfl) ?_;refine wax (wpAny_seqItems g1' g3 (way ?_));show wpAny _ _ (holding [k,p.2] (dictSet d k p.2)) _ _ _;have hz':kvs.length+(ps.length+1)<=sizeLine:=hz;refine wpAny_holding (wpAny_dictSet_pairs e3 (hd.sameBut sb hdi) (λh2 hd2 sb2=>way ⟨PySem.Code.quiet_builtin _ (by decide+kernel),?_⟩) (by lia));have k2:∀b,b≠d->b≠it->h2.get? b=s.heap.get? b:=λb h1 h2=>(sb2.2 b h1).trans (sb.2 b h2);have hn':i+(ps.length+1)=items.size:=hn;refine nX (items:=items) hA hdi hdl hil ps (i+1) ⟨h2,s.gens,s.drawn,s.toks+1,s.os⟩ (stored kvs p.1 p.2) 0 (by lia) ?_ ?_ hd2 (λj q hq=>?_) ?_ λh3 tk kp hd3=>?_
   ·obtain⟨o1,e1,c1⟩:=hi';exact⟨o1,(sb2.2 it hdi.symm).trans e1,c1⟩
   ·obtain⟨o1,e1,c1⟩:=hl;exact⟨o1,(k2 l hdl.symm hil.symm).trans e1,c1⟩
   ·obtain⟨t',k',a1,a2,a3,⟨o1,a4,a5⟩,a6⟩:=hp (j+1) q hq;exact⟨t',k',by rw[show i+1+j=i+(j+1) by lia];exact a1,a2,a3,⟨o1,(k2 t' a2 a3).trans a4,a5⟩,a6⟩
   ·have:=PySem.stored_length_le kvs p.1 p.2;show(stored kvs p.1 p.2).length+ps.length<=sizeLine;lia
   ·exact hR h3 tk (λb o h1 h2 e=>kp b o h1 h2 ((k2 b h1 h2).trans e)) hd3
theorem pP (hA:A.handled=none) (hb:sysModules<s.heap.objs.size) {l:Addr} {n:Nat} {sl:Array (Option Value)} {ps:List (aK×Value)}
 (hl:s.heap.get? l=some { cls:= .type "list",dict:=none,data:= .seq items n,slots:=sl }) (hn:ps.length=items.size) (hz:ps.length<=sizeLine)
 (hp:∀(j:Nat) (p:aK×Value),ps[j]?=some p->∃t k,items[j]?=some (.ref t)/\s.heap.IsTuple t #[k,p.2]/\(aV prog w).is p.1 k=true)
 (hQ:∀(h':Heap) (tk:Nat),(∀(b:Addr) (o:Obj),s.heap.get? b=some o->h'.get? b=some o)->h'.DictOf (aV prog w) s.heap.objs.size (ps.foldl (λkvs p=>stored kvs p.1 p.2) [])->Q (.ref s.heap.objs.size) ⟨h',s.gens,s.drawn,tk,s.os⟩):
 wpAny (model prog w) A (call (.type "dict") [.ref l]) Q E s:=by
 refine callType_codes PySem.F.kt_called_dict (PySem.F.kt_typeCall_dict_1 (.ref l)) PySem.F.entry_dict_init (kt_code_dict_new (.ref l) (Q₁:=λobj s₁=>obj=.ref s.heap.objs.size/\s₁={ s with heap:=s.heap.push { cls:= .type "dict",data:= .dict #[] } }) ⟨rfl,rfl⟩) λobj s₁ a=>?_;obtain⟨rfl,rfl⟩:=a;have hnew:=PySem.Heap.DictOf.new (knd:=aV prog w) s.heap;have hpu:∀b o,s.heap.get? b=some o->(s.heap.push { cls:= .type "dict",data:= .dict #[] }).get? b=some o:=λb o e=>ybz _ e;refine⟨PySem.Heap.DictOf.typeIs hnew,PySem.F.args_dict_init_2 _ _,?_⟩;unfold Builtin.«dict.__init__»;refine wax ?_;unfold Builtin.Dict.selfAndRest;refine wax (wpAny_notOrdered_dict (PySem.Heap.DictOf.typeIs hnew) (way ?_));show wpAny _ _ (Builtin.Dict.updateFrom "dict.__init__" s.heap.objs.size (.ref l) [] .none) _ _ _;unfold Builtin.Dict.updateFrom;refine wax (wpAny_typeOf (T:="list") ⟨_,hpu _ _ hl,rfl⟩ ?_);refine wpAny_ite_true (by rfl) ?_;refine wax (nW (hpu _ _ hl) (by exact hA) λh1 tk k1=>?_);refine wpAny_ite_true (by rfl) ?_;refine wax (wpAny_rule ?_);have hl1:=k1 _ _ (hpu _ _ hl);refine wax (wpAny_pyIter_list (items:=items) ⟨_,hl1,rfl,n,rfl⟩ ?_);obtain⟨od,es,ep,ed,hnew'⟩:=hnew;have ed1:=k1 _ _ ed;have d1:=ybv ed1;have l0:=ybv hl;have l1:=ybv hl1;have kk:∀b o,s.heap.get? b=some o->(h1.push { cls:= .type "list_iterator",data:= .fields #[.ref l,.int 0 0] }).get? b=some o:=λb o e=>ybz _ (k1 _ _ (hpu _ _ e));refine way ⟨PySem.Code.quiet_builtin _ (by decide+kernel),nX (A:=A.in1) (items:=items) (l:=l) hA (ne_of_lt d1) (Nat.ne_of_gt l0) (Nat.ne_of_gt l1) ps 0 _ [] 0 (by lia) ⟨_,ybw _ rfl,rfl,rfl⟩ ⟨_,kk _ _ hl,rfl,n,rfl⟩ ⟨od,es,ep,ybz _ ed1,hnew'⟩ (λj p hj=>?_) (by simpa using hz) λh' tk' kp hd'=>⟨rfl,hQ h' tk' (λb o e=>kp b o (ne_of_lt (ybv e)) (ne_of_lt (ybv (k1 _ _ (hpu _ _ e)))) (kk b o e)) hd'⟩⟩;obtain⟨t,k,e1,⟨o,e2,e3⟩,e4⟩:=hp j p hj;exact⟨t,k,by rw[Nat.zero_add];exact e1,ne_of_lt (ybv e2),ne_of_lt (ybv (k1 _ _ (hpu _ _ e2))),⟨o,kk _ _ e2,e3⟩,e4⟩
inductive Bm (G:Gp) (a:Addr) (kvs:List (aK×W)):Prop where
 | dic (h:GD G a kvs):Bm G a kvs
 | lst {ps:List (aK×W)} (h:G a=some (.lst (ps.map λp=> .tup [kW p.1,p.2]))) (e:kvs=ps.foldl (λa p=>cB a p.1 p.2) []):Bm G a kvs
def Bn:List W->Gp->WK->Prop:=λws G q=>match ws with
 | [.ref a]=>∃kvs,Bm G a kvs/\∀p,G p=none->q (.ref p) (aw G p (.dic kvs))
 | _=>False
theorem jO:∀(ps:List (aK×W)) (kvs:List (aK×W)),(ps.foldl (λa p=>cB a p.1 p.2) kvs).length<=kvs.length+ps.length
 | [],kvs=>ycx _
 | p::ps,kvs=>by
   have h1:=jO ps (cB kvs p.1 p.2);have h2:=cZ kvs p.1 p.2;simp only[foldl_cons,length_cons];lia
theorem qV:∀{qs:List (aK×V)} {ps:List (aK×Value)},KV qs ps->∀{kvs:List (aK×V)} {vs:List (aK×Value)},KV kvs vs->KV (qs.foldl (λa p=>ie a p.1 p.2) kvs) (ps.foldl (λa p=>stored a p.1 p.2) vs)
 | _,_,.nil,_,_,h=>h
 | q::qs,p::ps,.cons r t,_,_,h=>qV (qs:=qs) (ps:=ps) t (by show KV (ie _ q.1 q.2) (stored _ p.1 p.2);rw[show p.1=q.1 from r.1.symm];exact h.put q.1 r.2)
theorem qW {K:yav}:∀{ps:List (aK×W)} {qs:List (aK×V)},DP K H ps qs->∀{kvs:List (aK×W)} {us:List (aK×V)},DP K H kvs us->DP K H (ps.foldl (λa p=>cB a p.1 p.2) kvs) (qs.foldl (λa p=>ie a p.1 p.2) us)
 | _,_,.nil,_,_,h=>h
 | _,_,.cons r t,_,_,h=>qW t (h.put _ r)
theorem yj {k:aK} {v:V} (r:bK K H (kW k) v):v=kV k:=by
 cases k with
 | inl i=>cases r;rfl
 | inr z=>cases r;rfl
theorem nY (I:aF X π σ H s):∀{ps:List (aK×W)} {xs:List V} {its:yez},aS X.K H (ps.map λp=> .tup [kW p.1,p.2]) xs->aU xs its->
 ∃(qs:List (aK×V)) (vs:List (aK×Value)),DP X.K H ps qs/\KV qs vs/\vs.length=its.length/\∀(j:Nat) (p:aK×Value),vs[j]?=some p->∃t k,its[j]?=some (.ref t)/\s.heap.IsTuple t #[k,p.2]/\(aV X.prog X.w).is p.1 k=true
 | [],_,_,.nil,.nil=>⟨[],[],.nil,.nil,rfl,λj p h=>by cases h⟩
 | (k,w)::ps,_,[],.cons r rs,z=>by cases z
 | (k,w)::ps,_,u::its,.cons r rs,.cons v vs=>by
   obtain⟨qs,ys,h1,h2,h3,h4⟩:=nY I rs vs;cases r with
   | @tup t _ zs hT rr=>
     cases (show u=Value.ref t from v);obtain⟨its2,rv,hp,_⟩:=I.tuple (cY.of hT);cases rr with
     | cons r1 rr=>
       cases rr with
       | cons r2 rr=>
         cases rr;obtain⟨u1,u2,rfl,ru1,ru2⟩:=pp rv;rw[yj r1] at ru1;refine⟨_,(k,u2)::ys,.cons r2 h1,.cons ⟨rfl,ru2⟩ h2,by simp[h3],λj p hj=>?_⟩;cases j with
         | zero=>
           cases hj;exact⟨t,u1,rfl,hp,kJ (P:=X.prog) (w:=X.w) ru1⟩
         | succ j=>exact h4 j p hj
theorem qX (hc:X.calm=true):eg X (.type "dict") Bn:=by
 rintro π s σ H xs us Q I r ⟨ws,G,q,rw',g,h,hQ⟩;unfold Bn at h;split at h
 ·rename_i a;obtain⟨kvs,hs,h⟩:=h;obtain⟨v,rfl,r1⟩:=rw'.one;cases r1;obtain⟨u,rfl,ru⟩:=e9 r;cases ru;have hp:=I.hok.fresh (ycx s.heap.objs.size);cases hs with
  | dic hd=>
    obtain⟨hl,us,rd,dp⟩:=hd.rd g;obtain⟨zl,hm,vs,rel,dd⟩:=fb I.hok rd;refine kt_call_dict hm dd (by rw[←rel.length];exact zl) λh' hd' sb=>?_;refine⟨.ref s.heap.objs.size,_,I.laid (t':=s.toks) (λb o q=>(sb.2 b (ne_of_lt (ybv q))).trans (ybz _ q)) (ycx _) (show bG X.prog X.w _ h' _ (.dK us) from ⟨zl,beq_eq_false_iff_ne.mpr (Ne.symm (ne_of_lt I.big)),vs,rel,hd'⟩),rfl,?_⟩;exact hQ _ _ _ _ (aR.new hp _) (.ref _) (g.lay (g:= .dic kvs) (aR.new hp _) ⟨hl,us,aZ,dp.keys,(dp.mono (aR.new hp _)).vals⟩) (h _ (g.fresh hp))
  | @lst ps e ek=>
    subst ek;obtain⟨hl,xs,eH,rr⟩:=g a _ e;obtain⟨zl,its,c,rv,eo⟩:=I.hok a _ eH;obtain⟨qs,vs,dp,kv,hn,ht⟩:=nY I rr rv;have hll:ps.length<=100000:=by simpa using hl
    have hqs:=dp.len;have hvs:=kv.length;have fl:=jO ps [];have fd:=qW dp (H:=H) (K:=X.K) .nil;have fk:=qV kv (kvs:=[]) (vs:=[]) .nil;have hz:(qs.foldl (λa p=>ie a p.1 p.2) []).length<=sizeLine:=by
     rw[fd.len];exact bP (by simp only[length_nil] at fl;lia)
    refine pP (I.ok.hd hc) I.big eo (by rw[hn];simp) (bP (by lia)) (λj p hj=>?_) λh' tk kp hd'=>?_
    ·obtain⟨t,k,e1,e2,e3⟩:=ht j p hj;exact⟨t,k,by simpa using e1,e2,e3⟩
    ·refine⟨.ref s.heap.objs.size,_,I.laid (t':=tk) kp (ycx _) (show bG X.prog X.w _ h' _ (.dK (qs.foldl (λa p=>ie a p.1 p.2) [])) from ⟨hz,beq_eq_false_iff_ne.mpr (Ne.symm (ne_of_lt I.big)),_,fk,hd'⟩),rfl,?_⟩;exact hQ _ _ _ _ (aR.new hp _) (.ref _) (g.lay (g:= .dic (ps.foldl (λa p=>cB a p.1 p.2) [])) (aR.new hp _) ⟨by simp only[length_nil] at fl;lia,_,aZ,fd.keys,(fd.mono (aR.new hp _)).vals⟩) (h _ (g.fresh hp))
 ·exact h.elim
end
section
variable {prog:Program} {w:World} {A:Around} {s:Shared}
def jP (prog:Program) (w:World) (A:Around) (s:Shared) (u v:Value):Prop:=∀(E:yey) (Q:Bool->Shared->Prop),Q true s->wpAny (model prog w) A (eqBool u v) Q E s
theorem jP.of {u v:Value} (h:SeqAt.EqAt A s u v true):jP prog w A s u v:=λE Q q=>h prog w E Q q
theorem jP.refs {l b:Addr} (h:l≠b->∀(E:yey) (Q:yey),Q (.bool true) s->wpAny (model prog w) A (richCompare .Eq (.ref l) (.ref b)) Q E s):jP prog w A s (.ref l) (.ref b):=by
 by_cases hne:l=b
 ·subst hne;exact .of (SeqAt.EqAt.same _)
 ·exact λE Q q=>wpAny_holding (wpAny_ite_split (λhab=>absurd (by have:=eq_of_beq hab;injection this) hne) λ_=>wax (h hne E _ (wpAny_truthy_bool q)))
theorem yk {l b:Addr} {x1 x2 y1 y2:Value} (hl:s.heap.IsTuple l #[x1,x2]) (hb:s.heap.IsTuple b #[y1,y2]) (hu:A.units<cLine) (h1:jP prog w A.in1 s x1 y1) (h2:jP prog w A.in1 s x2 y2) (E:yey) (Q:yey) (q:Q (.bool true) s):
 wpAny (model prog w) A (richCompare .Eq (.ref l) (.ref b)) Q E s:=by
 obtain⟨o1,e1,c1,n1,d1⟩:=id hl;obtain⟨o2,e2,c2,n2,d2⟩:=id hb;refine wpAny_richCompare_same_room (T:="tuple") ⟨o1,e1,c1⟩ ⟨o2,e2,c2⟩ PySem.F.slot_tuple_eq (wpAny_call_entry PySem.F.slot_tuple_eq ⟨o1,e1,c1⟩ PySem.F.entry_tuple_eq ?_ (PySem.F.args_tuple_eq_2 _ _)) hu;unfold Builtin.«tuple.__eq__»
 k_delta "compare"
 refine wax ?_;unfold slotArgs;refine wpAny_ite_false (by rfl) (wpAny_ite_false (by rfl) (way ?_));dsimp only;refine wax (wpAny_isInstance (T:="tuple") (b:=true) ⟨o2,e2,c2⟩ (by rfl) ?_);refine wpAny_ite_false (by rfl) ?_;refine wax (wpAny_tupleItemsOf e1 d1 ?_);refine wax (wpAny_tupleItemsOf e2 d2 ?_);rw[show(#[x1,x2]:Array Value).toList.zip (#[y1,y2]:Array Value).toList=[(x1,y1),(x2,y2)] from rfl];simp only[List.forIn_cons,List.forIn_nil];refine wax (wax (wax (h1 _ _ ?_)));refine wpAny_ite_false (by rfl) (way ?_);dsimp only;refine wax (wax (h2 _ _ ?_));refine wpAny_ite_false (by rfl) (way ?_);refine way ?_;dsimp only;exact way ⟨.bool true,rfl,(λz=>nomatch z),q⟩
theorem mo {c:Int} {r:Bool} (hc:(c=2/\r=true)∨(c=3/\r=false)) {l b:Addr} {items items2:Array Value} {o1 o2:Obj} {n1 n2:Nat} (e1:s.heap.get? l=some o1) (d1:o1.data=.seq items n1) (e2:s.heap.get? b=some o2) (d2:o2.data=.seq items2 n2) (hz:items.size=items2.size) {R:Result->Shared->Prop}
 (he:∀(j:Nat) (u v:Value),items[j]?=some u->items2[j]?=some v->jP prog w A.in1 s u v) (hR:R (.ok (.ret (.bool r))) s):
 ∀(m i:Nat) (t t':Tok),i+m=items.size->codeAny (model prog w) A (.builtin "list.__eq__.loop" ⟨[.ref l,.ref b,.int (i:Int) t,.int c t'],[]⟩) R s
 | 0,i,t,t',hi=>by
   refine codeAny_builtin PySem.MeetsSeq3.entry_eq_loop ?_;have n1:items[i]?=none:=by simp;lia
   unfold Builtin.«list.__eq__.loop»
   k_delta "cmpOps"
   rcases hc with⟨rfl,rfl⟩ | ⟨rfl,rfl⟩
   ·dsimp only;rw[show(([CmpOp.Lt,CmpOp.LtE,CmpOp.Eq,CmpOp.NotEq,CmpOp.Gt,CmpOp.GtE]:List CmpOp)[Int.toNat 2]?)=some CmpOp.Eq from rfl];refine wax (wpAny_listItems e1 d1 (wax (wpAny_listItems e2 d2 ?_)));rw[Int.toNat_natCast,n1];refine wax (wpAny_listItems e1 d1 (wax (wpAny_listItems e2 d2 ?_)));refine way ?_;show R (Except.ok (Flow.ret (Value.bool (items.size==items2.size)))) s;rw[hz,beq_self_eq_true];exact hR
   ·dsimp only;rw[show(([CmpOp.Lt,CmpOp.LtE,CmpOp.Eq,CmpOp.NotEq,CmpOp.Gt,CmpOp.GtE]:List CmpOp)[Int.toNat 3]?)=some CmpOp.NotEq from rfl];refine wax (wpAny_listItems e1 d1 (wax (wpAny_listItems e2 d2 ?_)));rw[Int.toNat_natCast,n1];refine wax (wpAny_listItems e1 d1 (wax (wpAny_listItems e2 d2 ?_)));refine way ?_;show R (Except.ok (Flow.ret (Value.bool (items.size !=items2.size)))) s;rw[hz,bne_self_eq_false];exact hR
 | m+1,i,t,t',hi=>by
   have ih:=mo hc e1 d1 e2 d2 hz he hR m (i+1) 0 0 (by lia);refine codeAny_builtin PySem.MeetsSeq3.entry_eq_loop ?_;have l1:i<items.size:=by lia
   have n1:items[i]?=some items[i]:=by simp
   have n2:items2[i]?=some (items2[i]'(by lia)):=by simp
   unfold Builtin.«list.__eq__.loop»
   k_delta "cmpOps"
   rcases hc with⟨rfl,rfl⟩ | ⟨rfl,rfl⟩
   ·dsimp only;rw[show(([CmpOp.Lt,CmpOp.LtE,CmpOp.Eq,CmpOp.NotEq,CmpOp.Gt,CmpOp.GtE]:List CmpOp)[Int.toNat 2]?)=some CmpOp.Eq from rfl];refine wax (wpAny_listItems e1 d1 (wax (wpAny_listItems e2 d2 ?_)));rw[Int.toNat_natCast,n1,n2];refine wax (he i _ _ n1 n2 _ _ ?_);refine wpAny_ite_true (by rfl) ?_;exact way ⟨PySem.plainId_quiet PySem.MeetsSeq3.plain_eq_loop _,ih⟩
   ·dsimp only;rw[show(([CmpOp.Lt,CmpOp.LtE,CmpOp.Eq,CmpOp.NotEq,CmpOp.Gt,CmpOp.GtE]:List CmpOp)[Int.toNat 3]?)=some CmpOp.NotEq from rfl];refine wax (wpAny_listItems e1 d1 (wax (wpAny_listItems e2 d2 ?_)));rw[Int.toNat_natCast,n1,n2];refine wax (he i _ _ n1 n2 _ _ ?_);refine wpAny_ite_true (by rfl) ?_;exact way ⟨PySem.plainId_quiet PySem.MeetsSeq3.plain_eq_loop _,ih⟩
theorem ym {op:CmpOp} {r:Bool} (hop:(op=.Eq/\r=true)∨(op=.NotEq/\r=false)) {l b:Addr} {items items2:Array Value} (hl:s.heap.IsList l items) (hb:s.heap.IsList b items2) (hz:items.size=items2.size) (hu:A.units<cLine)
 (he:∀(j:Nat) (u v:Value),items[j]?=some u->items2[j]?=some v->jP prog w A.in1 s u v) (E:yey) (Q:yey) (q:Q (.bool r) s):
 wpAny (model prog w) A (richCompare op (.ref l) (.ref b)) Q E s:=by
 obtain⟨o1,e1,c1,n1,d1⟩:=id hl;obtain⟨o2,e2,c2,n2,d2⟩:=id hb;rcases hop with⟨rfl,rfl⟩ | ⟨rfl,rfl⟩
 ·refine wpAny_richCompare_same_room (T:="list") ⟨o1,e1,c1⟩ ⟨o2,e2,c2⟩ PySem.F.slot_list_eq (call_meetsIn PySem.F.slot_list_eq ⟨o1,e1,c1⟩ PySem.F.entry_list_eq (PySem.F.args_list_eq_2 _ _) (S:=λA' R s'=>A'=A/\s'=s/\R (.ok (.ret (.bool true))) s) ?_ ⟨rfl,rfl,(λz=>nomatch z),q⟩) hu;rintro A' R s' ⟨rfl,rfl,hR⟩;unfold Builtin.«list.__eq__»
  k_delta "listCompare"
  refine wax ?_;unfold slotArgs;refine wpAny_ite_false (by rfl) (wpAny_ite_false (by rfl) (way ?_));dsimp only;refine wax (wpAny_isInstance (T:="list") (b:=true) ⟨o2,e2,c2⟩ PySem.AutoSeq1.sub_list_list ?_);refine wpAny_ite_false (by rfl) ?_;refine wpAny_ite_true (by rfl) ?_;refine wax (wpAny_listItems e1 d1 (wax (wpAny_listItems e2 d2 ?_)));refine wpAny_ite_false (by rw[hz,bne_self_eq_false];rfl) ?_;exact way ⟨PySem.plainId_quiet PySem.MeetsSeq3.plain_eq_loop _,mo (.inl ⟨rfl,rfl⟩) e1 d1 e2 d2 hz he hR items.size 0 0 0 (by lia)⟩
 ·refine wpAny_richCompare_same_room (T:="list") ⟨o1,e1,c1⟩ ⟨o2,e2,c2⟩ PySem.F.slot_list_ne (call_meetsIn PySem.F.slot_list_ne ⟨o1,e1,c1⟩ PySem.F.entry_list_ne (PySem.F.args_list_ne_2 _ _) (S:=λA' R s'=>A'=A/\s'=s/\R (.ok (.ret (.bool false))) s) ?_ ⟨rfl,rfl,(λz=>nomatch z),q⟩) hu;rintro A' R s' ⟨rfl,rfl,hR⟩;unfold Builtin.«list.__ne__»
  k_delta "listCompare"
  refine wax ?_;unfold slotArgs;refine wpAny_ite_false (by rfl) (wpAny_ite_false (by rfl) (way ?_));dsimp only;refine wax (wpAny_isInstance (T:="list") (b:=true) ⟨o2,e2,c2⟩ PySem.AutoSeq1.sub_list_list ?_);refine wpAny_ite_false (by rfl) ?_;refine wpAny_ite_true (by rfl) ?_;refine wax (wpAny_listItems e1 d1 (wax (wpAny_listItems e2 d2 ?_)));refine wpAny_ite_false (by rw[hz,bne_self_eq_false];rfl) ?_;exact way ⟨PySem.plainId_quiet PySem.MeetsSeq3.plain_eq_loop _,mo (.inr ⟨rfl,rfl⟩) e1 d1 e2 d2 hz he hR items.size 0 0 0 (by lia)⟩
end
section
variable {X:Cx} {π:List (Addr×Obj)} {σ:St} {H:Hp} {s:Shared}
inductive gR (G:Gp):Nat->W->W->Prop where
 | flat {n:Nat} {x y:W} (f1:x.flat=true) (f2:y.flat=true) (hd:x.dep<=140) (he:x.eq y=true):gR G n x y
 | same {n:Nat} {a:Addr}:gR G n (.ref a) (.ref a)
 | dic {n:Nat} {a b:Addr} {kvs us:List (aK×W)} (ea:GD G a kvs) (eb:GD G b us) (hl:kvs.length=us.length) (hv:∀p,p∈kvs->∃w',bT us p.1=some w'/\jN G p.2 w'):gR G n (.ref a) (.ref b)
 | pair {n:Nat} {x1 x2 y1 y2:W} (h1:gR G n x1 y1) (h2:gR G n x2 y2):gR G (n+1) (.tup [x1,x2]) (.tup [y1,y2])
theorem sk {G:Gp} (I:aF X π σ H s) (g:aP X.K H G) {n:Nat} {w1 w2:W} (h:gR G n w1 w2):∀{A:Around} {v1 v2:V} {u1 u2:Value},A.units+n+160<cLine->bK X.K H w1 v1->bK X.K H w2 v2->bd v1 u1->bd v2 u2->jP X.prog X.w A s u1 u2:=by
 induction h with
 | @flat n x y f1 f2 hd he=>
   intro A v1 v2 u1 u2 hu r1 r2 q1 q2;have:=(im I 150 A (w1:=x) (w2:=y) (by lia) f1 f2 (by lia) r1 r2 q1 q2).1;rw[he] at this;exact .of this
 | same=>
   intro A v1 v2 u1 u2 hu r1 r2 q1 q2;cases r1;cases r2;cases q1;cases q2;exact .of (SeqAt.EqAt.same _)
 | @dic n a b kvs us ea eb hl hv=>
   intro A v1 v2 u1 u2 hu r1 r2 q1 q2;cases r1;cases r2;cases q1;cases q2;obtain⟨_,ua,ra,da⟩:=ea.rd g;obtain⟨_,ub,rb,db⟩:=eb.rd g;obtain⟨_,ma,ka,qa,dda⟩:=fb I.hok ra;obtain⟨_,mb,kb,qb,ddb⟩:=fb I.hok rb;have hlen:ka.length=kb.length:=by rw[←qa.length,←qb.length,da.len,db.len,hl]
   refine jP.refs λhne E Q q=>?_;refine PySem.W.keq_eq ma mb dda ddb (by lia) (λ_=>mj (A:=A.in1) (by show A.units+1+20<cLine;lia) I g db qb da qa hv) ?_;rw[hlen,beq_self_eq_true,Bool.true_and];exact q
 | @pair n x1 x2 y1 y2 h1 h2 ih1 ih2=>
   intro A v1 v2 u1 u2 hu r1 r2 q1 q2;cases r1 with
   | @tup a _ xs hT rr=>
     cases r2 with
     | @tup b _ ys hT2 rr2=>
       cases (show u1=Value.ref a from q1);cases (show u2=Value.ref b from q2);obtain⟨its,rv,hp,_⟩:=I.tuple (cY.of hT);obtain⟨its2,rv2,hp2,_⟩:=I.tuple (cY.of hT2);cases rr with
       | cons a1 rr=>
         cases rr with
         | cons a2 rr=>
           cases rr;cases rr2 with
           | cons b1 rr2=>
             cases rr2 with
             | cons b2 rr2=>
               cases rr2;obtain⟨p1,p2,rfl,c1,c2⟩:=pp rv;obtain⟨t1,t2,rfl,d1,d2⟩:=pp rv2;exact jP.refs λhne E Q q=>yk hp hp2 (by lia) (ih1 (A:=A.in1) (by show A.units+1+n+160<cLine;lia) a1 b1 c1 d1) (ih2 (A:=A.in1) (by show A.units+1+n+160<cLine;lia) a2 b2 c2 d2) E Q q
inductive Bo (G:Gp) (a b:Addr):Bool->Prop where
 | old {r:Bool} (h:DB G a b r):Bo G a b r
 | nil {ws:List W} (ea:G a=some (.lst ws)) (eb:G b=some (.lst [])):Bo G a b ws.isEmpty
 | deep {ws us:List W} (ea:G a=some (.lst ws)) (eb:G b=some (.lst us)) (hl:ws.length=us.length) (he:∀(j:Nat) (x y:W),ws[j]?=some x->us[j]?=some y->gR G 9 x y):Bo G a b true
def iE:W2:=λx y G q=>match x,y with
 | .ref a,.ref b=>∃r,Bo G a b r/\q (.bl r) G
 | x,y=>wW x y G q
def nZ:W2:=λx y G q=>match x,y with
 | .ref a,.ref b=>∃r,Bo G a b r/\q (.bl (!r)) G
 | x,y=>wX x y G q
theorem jg (hr:aB k X.A) {op:CmpOp} {r:Bool} (hop:(op=.Eq/\r=true)∨(op=.NotEq/\r=false)) {G:Gp} (I:aF X π σ H s) (g:aP X.K H G) {a b:Addr} {ws us:List W} (ea:G a=some (.lst ws)) (eb:G b=some (.lst us)) (hl:ws.length=us.length)
 (he:∀(j:Nat) (x y:W),ws[j]?=some x->us[j]?=some y->gR G 9 x y) (E:yey) (Q:yey) (q:Q (.bool r) s):wpAny (model X.prog X.w) X.A (richCompare op (.ref a) (.ref b)) Q E s:=by
 have hu:=hr.un;obtain⟨_,xs,e1,ra⟩:=g _ _ ea;obtain⟨_,ys,e2,rb⟩:=g _ _ eb;obtain⟨its,rv,p,_⟩:=I.list (cC.of e1);obtain⟨its2,rv2,p2,_⟩:=I.list (cC.of e2);have l1:its.length=ws.length:=by rw[←rv.length,ra.length]
 have l2:its2.length=us.length:=by rw[←rv2.length,rb.length]
 refine ym hop p.isList p2.isList (by rw[size_toArray,size_toArray,l1,l2,hl]) (by lia) (λj u v hj hv=>?_) E Q q;rw[List.getElem?_toArray] at hj hv;have j1:j<ws.length:=by
  rw[←l1];exact(List.getElem?_eq_some_iff.mp hj).1
 have gw:=ycz j1;have gu:=ycz (show j<us.length by lia);obtain⟨x,hx,rx⟩:=ra.get gw;obtain⟨y,hy,ry⟩:=rb.get gu;obtain⟨u',hu',qu⟩:=rv.get hx;obtain⟨v',hv',qv⟩:=rv2.get hy;rw[hj] at hu';rw[hv] at hv';cases hu';cases hv';exact sk I g (he j _ _ gw gu) (A:=X.A.in1) (by show X.A.units+1+9+160<cLine;lia) rx ry qu qv
theorem uY (hr:aB k X.A) {G:Gp} (I:aF X π σ H s) (g:aP X.K H G) {a b:Addr} {x:W} {ws:List W} (ea:G a=some (.lst (x::ws))) (eb:G b=some (.lst [])) (E:yey) (Q:yey):
 (Q (.bool false) s->wpAny (model X.prog X.w) X.A (richCompare .Eq (.ref a) (.ref b)) Q E s)/\(Q (.bool true) s->wpAny (model X.prog X.w) X.A (richCompare .NotEq (.ref a) (.ref b)) Q E s):=by
 have hu:=hr.un;obtain⟨_,xs,e1,ra⟩:=g _ _ ea;obtain⟨_,ys,e2,rb⟩:=g _ _ eb;obtain⟨its,rv,p,_⟩:=I.list (cC.of e1);obtain⟨its2,rv2,p2,_⟩:=I.list (cC.of e2);have l1:its.length=(x::ws).length:=by rw[←rv.length,ra.length]
 have l2:its2.length=([]:List W).length:=by rw[←rv2.length,rb.length]
 have ne:(its.toArray.size !=its2.toArray.size)=true:=by rw[size_toArray,size_toArray,l1,l2];simp
 exact⟨λq=>SeqAt.RcAt.lists_lengths p.isList p2.isList (by simpa using ne) (A:=X.A) (by lia) X.prog X.w E Q q,λq=>SeqAt.RcNeAt.lists_lengths p.isList p2.isList (by simpa using ne) (A:=X.A) (by lia) X.prog X.w E Q q⟩
theorem bH (hr:aB k X.A):gY X (compareOp .Eq) iE:=by
 rintro π s σ H x y v u Q I rx ry ⟨wx,wy,G,q,r1,r2,g,h,hQ⟩;unfold iE at h;split at h
 ·rename_i a b;obtain⟨r,he,h⟩:=h;have fin:EP X π σ Q (.bool r) s:=⟨.bl _,H,I,rfl,hQ _ H _ G (aR.refl H) (.bl _) g h⟩;cases he with
  | old he=>exact DF hr π s σ H x y v u Q I rx ry ⟨_,_,G,q,r1,r2,g,⟨r,he,h⟩,hQ⟩
  | @nil ws ea eb=>
    cases r1;cases r2;cases rx;cases ry;cases ws with
    | nil=>exact jg hr (.inl ⟨rfl,rfl⟩) I g ea eb rfl (λj x y z=>by cases z) X.xe _ fin
    | cons x ws=>exact(uY hr I g ea eb X.xe _).1 fin
  | deep ea eb hl he=>
    cases r1;cases r2;cases rx;cases ry;exact jg hr (.inl ⟨rfl,rfl⟩) I g ea eb hl he X.xe _ fin
 ·exact AC hr π s σ H x y v u Q I rx ry ⟨wx,wy,G,q,r1,r2,g,h,hQ⟩
theorem et (hr:aB k X.A):gY X (compareOp .NotEq) nZ:=by
 rintro π s σ H x y v u Q I rx ry ⟨wx,wy,G,q,r1,r2,g,h,hQ⟩;unfold nZ at h;split at h
 ·rename_i a b;obtain⟨r,he,h⟩:=h;have fin:EP X π σ Q (.bool (!r)) s:=⟨.bl _,H,I,rfl,hQ _ H _ G (aR.refl H) (.bl _) g h⟩;cases he with
  | old he=>exact DG hr π s σ H x y v u Q I rx ry ⟨_,_,G,q,r1,r2,g,⟨r,he,h⟩,hQ⟩
  | @nil ws ea eb=>
    cases r1;cases r2;cases rx;cases ry;cases ws with
    | nil=>exact jg hr (.inr ⟨rfl,rfl⟩) I g ea eb rfl (λj x y z=>by cases z) X.xe _ fin
    | cons x ws=>exact(uY hr I g ea eb X.xe _).2 fin
  | deep ea eb hl he=>
    cases r1;cases r2;cases rx;cases ry;exact jg hr (.inr ⟨rfl,rfl⟩) I g ea eb hl he X.xe _ fin
 ·exact AD hr π s σ H x y v u Q I rx ry ⟨wx,wy,G,q,r1,r2,g,h,hQ⟩
end
section
variable {X:Cx} {pos:Pos}
end
section
variable {X:Cx} {tg:Expr}
theorem uZ {te:TE} {apos cpos:Pos} (he:PE X e te)
 (hbase:attributeBase e "values" X.env (eval e X.env)=eval e X.env:=by rfl) (hline:(apos.endLine==cpos.line)=true:=by rfl):
 PI X tg (.Call (.Attribute e "values" apos) [] [] cpos) (λσ H R=>te σ H λv H1=>∃a kvs,v=.ref a/\H1 a=some (.dK kvs)/\∀o,R (Bi a o kvs) (upd H1 a (.frz o (.dK kvs)))):=by
 intro π s σ H R I h;refine wpAny_Call_method0_late hbase hline (bU (he π s σ H _ I h) λu s1 z9=>?_);obtain⟨v,H1,I1,r,a,kvs,hv1,e,h⟩:=z9;subst hv1;obtain rfl:u=Value.ref a:=r;obtain⟨_,hm,vs,kv,o,es,ep,h1,h2,h3,h4⟩:=kL I1.hok e;have ty:Cq X.K "dict" (.ref a) H1:= .inr (.inr (.inl ⟨rfl,.inl ⟨kvs,e⟩⟩));obtain⟨t1,t2⟩:=lH I1 (show bd (V.ref a) (Value.ref a) from rfl) ty;refine⟨"dict",_,PySem.F.plainAttrs_dict,PySem.F.slot_dict_values,PySem.F.type_dict_values,t1,t2,Calls.callWith_builtin rfl (PySem.evalArgs_none ?_)⟩;refine call_meetsIn PySem.F.slot_dict_values t1 PySem.F.entry_dict_values (PySem.F.args_dict_values_1 _) (meets_dict_values (aV X.prog X.w) a hm) ⟨⟨vs,o,es,ep,h1,h2,h3,h4⟩,?_⟩;have I2:aF X π σ H1 { s1 with heap:=s1.heap.push { cls:= .type "dict_values",data:= .fields #[.ref a] } }:=I1.kept (t':=s1.toks) λb o e=>ybz _ e;have h1':(s1.heap.push { cls:= .type "dict_values",data:= .fields #[.ref a] }).get? a=some o:=ybz _ h1;have J:=I2.freeze e h1';refine wpAny_pyIter_values (knd:=aV X.prog X.w) (d:=a) ⟨_,ybw _ rfl,rfl,rfl⟩ ⟨o,es,h1',h2,h3,h4⟩ ?_;have hne:a≠(s1.heap.push { cls:= .type "dict_values",data:= .fields #[.ref a] }).objs.size:=ne_of_lt (ybv h1');refine⟨_,[(s1.heap.push { cls:= .type "dict_values",data:= .fields #[.ref a] }).objs.size],_,_,_,rfl,J.kept (t':=s1.toks) λb o e=>ybz _ e,si (o:=o) (kvs:=kvs) (es:=es) (ep:=ep) _ a hne h3,⟨zero_le _,by rw[kv.length];exact⟨_,ybw _ rfl,rfl,rfl⟩⟩,λb hb=>?_,h o⟩;have e:b=(s1.heap.push { cls:= .type "dict_values",data:= .fields #[.ref a] }).objs.size:=by simpa using hb
 subst e;exact J.fpOk (ycx _) (J.hok.fresh (ycx _))
def u0 (te:WE):WI:=λτ G r=>te τ G λx G1=>∃a kvs,x=.ref a/\G1 a=some (.dic kvs)/\∀o us,r (kvs.map (·.2)) (λG=>G a=some (.fdc o us kvs)) (aw G1 a (.fdc o us kvs))
theorem u3 {te:WE} {apos cpos:Pos} (he:QE X e te)
 (hbase:attributeBase e "values" X.env (eval e X.env)=eval e X.env:=by rfl) (hline:(apos.endLine==cpos.line)=true:=by rfl):
 QI X tg (.Call (.Attribute e "values" apos) [] [] cpos) (u0 te):=
 (uZ he hbase hline).imp λσ H R ⟨τ,G,r,hs,hg,ht,hR⟩=>⟨τ,G,_,hs,hg,ht,λv H1 w G1 t1 r1 g1 q1=>by
   obtain⟨a,kvs,rfl,ea,q1⟩:=q1;cases r1;obtain⟨_,us,e2,_⟩:=g1 a _ ea;refine⟨a,us,rfl,e2,λo=>?_⟩;obtain⟨t,g⟩:=g1.freeze ea e2 o;exact hR _ _ _ _ _ (t1.trans t) g uV (q1 o us)⟩
end
mutual
inductive eY (h:Heap):Nat->W->Value->Prop where
 | int {d:Nat} (n:Int) (t:Tok):eY h d (.int n) (.int n t)
 | tup {d:Nat} {a:Addr} {o:Obj} {items:Array Value} {n:Nat} {ws:List W} (gO:h.get? a=some o) (hc:o.cls=.type "tuple") (dO:o.data=.seq items n) (hs:cU h d ws items.toList):eY h (d+1) (.tup ws) (.ref a)
inductive cU (h:Heap):Nat->List W->List Value->Prop where
 | nil {d:Nat}:cU h d [] []
 | cons {d:Nat} {w:W} {v:Value} {ws:List W} {vs:yez} (r:eY h d w v) (rs:cU h d ws vs):cU h d (w::ws) (v::vs)
end
section
variable {h h':Heap}
mutual
theorem eY.inj:∀{d d':Nat} {w w':W} {v:Value},eY h d w v->eY h d' w' v->w=w'
 | _,_,_,_,_,.int n t,.int _ _=>rfl
 | _,_,_,_,_,.tup gO hc dO hs,.tup gO' hc' dO' hs'=>by
   cases gO.symm.trans gO';rw[dO] at dO';injection dO' with e1 _
   subst e1;rw[cU.inj hs hs']
theorem cU.inj:∀{d d':Nat} {ws ws':List W} {vs:yez},cU h d ws vs->cU h d' ws' vs->ws=ws'
 | _,_,_,_,_,.nil,.nil=>rfl
 | _,_,_,_,_,.cons r rs,.cons r' rs'=>by rw[eY.inj r r',cU.inj rs rs']
end
mutual
theorem eY.keeps (k:∀a o items n,h.get? a=some o->o.data=.seq items n->h'.get? a=some o):∀{d:Nat} {w:W} {v:Value},eY h d w v->eY h' d w v
 | _,_,_,.int n t=> .int n t
 | _,_,_,.tup gO hc dO hs=> .tup (k _ _ _ _ gO dO) hc dO (cU.keeps k hs)
theorem cU.keeps (k:∀a o items n,h.get? a=some o->o.data=.seq items n->h'.get? a=some o):∀{d:Nat} {ws:List W} {vs:yez},cU h d ws vs->cU h' d ws vs
 | _,_,_,.nil=> .nil
 | _,_,_,.cons r rs=> .cons (eY.keeps k r) (cU.keeps k rs)
end
end
section
variable (P:Program) (w:World)
mutual
noncomputable def jQ:W->Int
 | .int n=>(aV P w).hash (.inl n)
 | .tup ws=>reduceHash (Builtin.Tuple.tupleHashOf (dY ws))
 | _=>0
noncomputable def dY:List W->List Int
 | []=>[]
 | x::xs=>jQ x::dY xs
end
mutual
noncomputable def pQ:W->Nat
 | .int _=>1
 | .tup ws=>eu ws+1
 | _=>0
noncomputable def eu:List W->Nat
 | []=>0
 | x::xs=>pQ x+eu xs
end
end
theorem yn (xs ys:List W):eu (xs++ys)=eu xs+eu ys:=by
 induction xs with
 | nil=>simp[eu]
 | cons x xs ih=>show pQ x+eu (xs++ys)=_;rw[ih];simp[eu,Nat.add_assoc]
theorem u4 (P:Program) (w:World) (xs ys:List W):dY P w (xs++ys)=dY P w xs++dY P w ys:=by
 induction xs with
 | nil=>rfl
 | cons x xs ih=>show jQ P w x::dY P w (xs++ys)=_;rw[ih];rfl
section
variable {prog:Program} {w:World}
theorem dE {o:Obj} (gO:s.heap.get? a=some o) (hc:o.cls=.type "tuple"):s.TypeIs (.ref a) "tuple":=⟨o,gO,hc⟩
theorem u5 {d:Nat} {ws:List W} {o:Obj} {n:Nat} {Q:Int->Shared->Prop} (hu:A.units+d+1<cLine) (gO:s.heap.get? a=some o) (hc:o.cls=.type "tuple") (dO:o.data=.seq items n) (hi:cU s.heap d ws items.toList)
 (ih:∀(x:W) (v:Value) (A':Around) (E':yey) (tk:Nat) (Q':Int->Shared->Prop),x∈ws->eY s.heap d x v->A'.units+d<cLine->Q' (jQ prog w x) { s with toks:=tk+pQ x }->wpAny (model prog w) A' (pyHash v) Q' E' { s with toks:=tk })
 (h:Q (jQ prog w (.tup ws)) { s with toks:=s.toks+pQ (.tup ws) }):wpAny (model prog w) A (pyHash (.ref a)) Q E s:=by
 have tp:=dE gO hc;unfold pyHash
 first | unfold pyHashByItsType | skip
 first | refine wax (wpAny_cRoomFor_or (.inr (by lia)) ?_) | skip
 refine wax (wpAny_specialOf tp F.slot_tuple_hash.lookup ?_);rw[show(some (Value.builtin "tuple.__hash__")==some Value.none)=false from by rw[beq_builtin_none],ycw ydx];refine wax (wpAny_specialOf tp F.slot_tuple_hash.lookup ?_);show wpAny _ _ (callSpecialIfBoundUnlessNone? (.ref a) "__hash__" _ >>= _) Q E s;refine wax (wpAny_callSpecialIfBoundUnlessNone?_slot tp F.slot_tuple_hash (wpAny_call_entry F.slot_tuple_hash tp F.entry_tuple_hash ?_ (F.args_tuple_hash_1 _)));show wpAny _ _ (Builtin.Tuple.tupleItemsOf (.ref a) >>= _) _ _ s;refine wax (wpAny_tupleItemsOf gO dO ?_);refine wax ?_;rw[←Array.forIn_toList];refine wpAny_forIn_list _
  (λbI (b:Array Int) s'=>∃done left,ws=done++left/\cU s.heap d left bI/\b.toList=dY prog w done/\s'={ s with toks:=s.toks+eu done })
  _ ?_ ?_ _ _ ⟨[],ws,rfl,hi,rfl,rfl⟩
 ·rintro x bI b s' ⟨done,left,rfl,hL,hB,rfl⟩;cases hL with
  | @cons _ k _ ks' _ h1 hL'=>
    refine wax (ih k x _ _ _ _ (by simp) h1 (by first | lia | (show A.units+1+d<cLine;lia)) ?_);have e1:b.toList++[jQ prog w k]=dY prog w (done++[k]):=by rw[hB,u4];rfl
    have e2:s.toks+eu done+pQ k=s.toks+eu (done++[k]):=by rw[yn];simp[eu,Nat.add_assoc]
    first
     | exact way ⟨done++[k],ks',by simp,hL',by simpa using e1,by rw[←e2]⟩
     | exact wax (way (way ⟨done++[k],ks',by simp,hL',by simpa using e1,by rw[←e2]⟩))
 ·rintro b s' ⟨done,left,rfl,hL,hB,rfl⟩;cases hL;rw[append_nil] at h;show wpAny _ _ (retInt (Builtin.Tuple.tupleHashOf b.toList)) _ _ _;rw[hB];refine wpAny_ret_mkInt ?_;have h:Q (reduceHash (Builtin.Tuple.tupleHashOf (dY prog w done))) { s with toks:=s.toks+(eu done+1) }:=h;generalize dY prog w done=hs at h ⊢;show wpAny _ _ (if (decide (-(2:Int)^63<=Builtin.Tuple.tupleHashOf hs)&&decide (Builtin.Tuple.tupleHashOf hs<2^63))=true then _ else _) Q E _;unfold reduceHash at h
  by_cases hR:(decide (-(2:Int)^63<=Builtin.Tuple.tupleHashOf hs)&&decide (Builtin.Tuple.tupleHashOf hs<2^63))=true
  ·rw[ycv hR];rw[ycv hR] at h;exact way (by simpa[Nat.add_assoc] using h)
  ·rw[ycw hR];rw[ycw hR] at h;exact wax (wpAny_rule (way (by simpa[Nat.add_assoc] using h)))
theorem eY.hash {s:Shared}:∀(d:Nat) {x:W} {v:Value},eY s.heap d x v->∀{A:Around} {E:yey} {tk:Nat} {Q:Int->Shared->Prop},A.units+d<cLine->Q (jQ prog w x) { s with toks:=tk+pQ x }->wpAny (model prog w) A (pyHash v) Q E { s with toks:=tk }
 | _,_,_,.int n t,A,E,tk,Q,hu,h=>(aV prog w).pyHash (k:= .inl n) (dS prog w n t) h
 | d+1,_,_,.tup (ws:=ws) gO hc dO hs,A,E,tk,Q,hu,h=>
   u5 (s:={ s with toks:=tk }) (d:=d) (ws:=ws) (by assumption) gO hc dO hs (λx v A' E' tk' Q' _ hk hu' hq=>eY.hash d hk hu' hq) h
noncomputable def u6 (p:Prop):Bool:= @decide p (Classical.propDecidable p)
theorem jR {p:Prop} (h:p):u6 p=true:= @decide_eq_true p (Classical.propDecidable p) h
theorem iX {p:Prop} (h:¬p):u6 p=false:= @decide_eq_false p (Classical.propDecidable p) h
inductive Sh:W->W->Prop where
 | int (n m:Int):Sh (.int n) (.int m)
 | tup {xs ys:List W} (h:∀p,p∈xs.zip ys->Sh p.1 p.2):Sh (.tup xs) (.tup ys)
theorem eq_tup {d:Nat} {x y:List W} {a b:Addr} {oa ob:Obj} {xs ys:Array Value} {na nb:Nat} {R:PySem.Fin->Shared->Prop} (gA:s.heap.get? a=some oa) (hca:oa.cls=.type "tuple") (dA:oa.data=.seq xs na) (hia:cU s.heap d x xs.toList) (gB:s.heap.get? b=some ob) (hcb:ob.cls=.type "tuple") (dB:ob.data=.seq ys nb) (hib:cU s.heap d y ys.toList)
 (hsh:∀p,p∈x.zip y->Sh p.1 p.2)
 (ih:∀(p q:W) (u v:Value) (E':yey) (Q':Bool->Shared->Prop),eY s.heap d p u->eY s.heap d q v->Sh p q->Q' (u6 (p=q)) s->wpAny (model prog w) A (eqBool u v) Q' E' s)
 (h:R (.done (.ret (.bool (u6 (x=y))))) s):wpAny (model prog w) A (Builtin.«tuple.__eq__» ⟨[.ref a,.ref b],[]⟩) R E s:=by
 have tpB:=dE gB hcb;show wpAny _ _ (isInstance (.ref b) (.type "tuple") >>= _) _ _ s;refine wax (wpAny_isInstance tpB isSubtype_tuple_tuple ?_);simp only[Bool.not_true,Bool.false_eq_true,if_false];refine wax (wpAny_tupleItemsOf gA dA ?_);refine wax (wpAny_tupleItemsOf gB dB ?_);refine wax ?_;refine wpAny_forIn_list _
  (λbI r s'=>r.1=none/\s'=s/\∃x' y' xs' ys',bI=List.zip xs' ys'/\cU s.heap d x' xs'/\cU s.heap d y' ys'/\((x'=y')↔(x=y))/\(∀p,p∈x'.zip y'->Sh p.1 p.2)/\(xs'.length==ys'.length)=(xs.size==ys.size))
  _ ?_ ?_ _ _ ⟨rfl,rfl,x,y,xs.toList,ys.toList,rfl,hia,hib,Iff.rfl,hsh,by simp⟩
 ·rintro⟨u,v⟩ bI r s' ⟨hR,rfl,x',y',xs',ys',hZ,hx',hy',hdec,hs',hlen⟩;cases hx' with
  | nil=>simp at hZ
  | @cons _ k1 u' x'' xs'' h1 hx''=>
    cases hy' with
    | nil=>simp at hZ
    | @cons _ k2 v' y'' ys'' h2 hy''=>
      simp only[zip_cons_cons,List.cons.injEq,Prod.mk.injEq] at hZ;obtain⟨⟨rfl,rfl⟩,rfl⟩:=hZ;refine wax (ih k1 k2 _ _ _ _ h1 h2 (hs' (k1,k2) yby) ?_)
      by_cases hk:k1=k2
      ·subst hk;rw[jR rfl];simp only[Bool.not_true,Bool.false_eq_true,if_false];refine way ⟨rfl,rfl,x'',y'',xs'',ys'',rfl,hx'',hy'',?_,λp hp=>hs' p (ybx _ hp),by simpa using hlen⟩;rw[←hdec];simp
      ·rw[iX hk];simp only[Bool.not_false,if_true];have hf:u6 (x=y)=false:=iX λz=>hk (by have:=hdec.mpr z;injection this);rw[hf] at h;exact wax (way (way (way h)))
 ·rintro⟨q1,q2⟩ s' ⟨hR,rfl,x',y',xs',ys',hZ,hx',hy',hdec,hs',hlen⟩;simp only at hR;subst hR;refine way ?_;have hfin:(xs.size==ys.size)=u6 (x=y):=by
   rw[←hlen];cases hx' with
   | nil=>
     cases hy' with
     | nil=>rw[jR (hdec.mp rfl)];rfl
     | cons _ _=>rw[iX (λz=>by have:=hdec.mpr z;cases this)];rfl
   | cons _ _=>
     cases hy' with
     | nil=>rw[iX (λz=>by have:=hdec.mpr z;cases this)];rfl
     | cons _ _=>simp at hZ
  show R (.done (.ret (.bool (xs.size==ys.size)))) s';rw[hfin];exact h
theorem eY.eqs {s:Shared}:∀(d:Nat) {x y:W} {u v:Value},eY s.heap d x u->eY s.heap d y v->Sh x y->∀{A:Around} {E:yey} {Q:Bool->Shared->Prop},A.units+2*d<cLine->Q (u6 (x=y)) s->wpAny (model prog w) A (PySem.eqBool u v) Q E s
 | _,_,_,_,_,.int n t,.int m t',_,A,E,Q,hu,h=>by
   refine(aV prog w).eqBool (a:= .inl n) (b:= .inl m) (dS prog w n t) (dS prog w m t') ?_;have:decide ((Sum.inl n:aK)=.inl m)=u6 (W.int n=.int m):=by
    by_cases e:n=m
    ·subst e;rw[ydz rfl,jR rfl]
    ·rw[ydy (λz=>e (Sum.inl.inj z)),iX (λz=>by injection z with z;exact e z)]
   rw[this];exact h
 | _,_,_,_,_,.int n t,.tup _ _ _ _,hs,A,E,Q,hu,h=>(nomatch hs)
 | _,_,_,_,_,.tup _ _ _ _,.int m t',hs,A,E,Q,hu,h=>(nomatch hs)
 | d+1,_,_,_,_,.tup (a:=a) (ws:=ws) gO hc dO hs,.tup (a:=a') (ws:=ws') gO' hc' dO' hs',.tup hsh,A,E,Q,hu,h=>by
   unfold PySem.eqBool
   try with_reducible refine wpAny_holding ?_
   show wpAny _ _ (if (Value.ref a==Value.ref a')=true then _ else _) Q E s
   by_cases hab:(Value.ref a==Value.ref a')=true
   ·rw[ycv hab];have e:a=a':=by have:=eq_of_beq hab;injection this
    subst e;have:=eY.inj (.tup gO hc dO hs) (.tup gO' hc' dO' hs');rw[jR this] at h;exact wax (wpAny_rule (way h))
   ·rw[ycw hab];refine wax (wpAny_richCompare_same_room (op:= .Eq) (dE gO hc) (dE gO' hc') F.slot_tuple_eq
     (wpAny_call_entry F.slot_tuple_eq (dE gO hc) F.entry_tuple_eq (eq_tup gO hc dO hs gO' hc' dO' hs' hsh (λp q u v E' Q' hp hq hpq hQ=>eY.eqs d hp hq hpq (by first | lia | (show A.units+1+2*d<cLine;lia) | (show A.units+1+1+2*d<cLine;lia)) hQ) ⟨_,rfl,(λe=>nomatch e),wpAny_truthy_bool ?_⟩) (F.args_tuple_eq_2 _ _)) (by lia))
    have:u6 (ws=ws')=u6 (W.tup ws=.tup ws'):=by
     by_cases e:ws=ws'
     ·subst e;rw[jR rfl,jR rfl]
     ·rw[iX e,iX (λz=>by injection z with z;exact e z)]
    rw[this];exact h
theorem eY.quiet {s:Shared}:∀(d:Nat) {x:W} {v:Value},eY s.heap d x v->∀{A:Around} {E:yey} {Q:Bool->Shared->Prop},Q true s->wpAny (model prog w) A (eqIsQuiet d v) Q E s
 | _,_,_,.int n t,A,E,Q,h=>by
   rw[eqIsQuiet_byValue _ rfl];exact way h
 | d+1,_,_,.tup gO hc dO hs,A,E,Q,h=>by
   have tp:=dE gO hc;unfold eqIsQuiet;refine wax (wpAny_specialOf tp F.slot_tuple_eq.lookup ?_);refine wax (wpAny_isInstance tp isSubtype_tuple_tuple ?_);simp only[Bool.not_true,Bool.false_eq_true,if_false];refine wax (wpAny_seqItems gO dO ?_);refine wax ?_;show wpAny _ _ (forIn _ _ _) _ _ s;rw[←Array.forIn_toList];refine wpAny_forIn_list _ (λbI r s'=>r.1=none/\s'=s/\∃ws,cU s.heap d ws bI) _ ?_ ?_ _ _ ⟨rfl,rfl,_,hs⟩
   ·rintro v bI r s' ⟨hR,rfl,ws,hk⟩;cases hk with
    | cons q1 rs1=>
      refine wax (eY.quiet d q1 ?_);simp only[Bool.not_true,Bool.false_eq_true,if_false];exact way ⟨rfl,rfl,_,rs1⟩
   ·rintro⟨q1,q2⟩ s' ⟨hR,rfl,_⟩;simp only at hR;subst hR;exact way h
theorem Bp:∀a b:O,Sh (.tup (au a)) (.tup (au b)):=by
 have main:∀(k:Nat) (a b:O),a.size+b.size<=k->Sh (.tup (au a)) (.tup (au b)):=by
  intro k
  induction k with
  | zero=>
    intro a b h;cases a with
    | z=>exact .tup λp hp=>by simp[au] at hp
    | c e n r=>simp[O.size] at h
  | succ k ih=>
    intro a b h;cases a with
    | z=>exact .tup λp hp=>by simp[au] at hp
    | c e n r=>
      cases b with
      | z=>exact .tup λp hp=>by simp[au] at hp
      | c e' n' r'=>
        have h1:e.size+e'.size<=k:=by simp only[O.size] at h;lia
        have h2:r.size+r'.size<=k:=by simp only[O.size] at h;lia
        refine .tup λp hp=>?_;rw[bZ,bZ,zip_cons_cons] at hp;rcases mem_cons.mp hp with rfl | hp
        ·refine .tup λp hp=>?_;simp only[zip_cons_cons,List.zip_nil_left] at hp;rcases mem_cons.mp hp with rfl | hp
         ·exact ih e e' h1
         ·rw[mem_singleton.mp hp];exact .int n n'
        ·cases ih r r' h2 with
         | tup h3=>exact h3 p hp
 exact λa b=>main _ a b (ycx _)
theorem qY {a b:O} (h:W.tup (au a)=.tup (au b)):a=b:=by injection h with h;exact nK h
noncomputable def jS (prog:Program) (w:World):HeapKind prog w O where
 is:=λh o a=>eY h 8 (.tup (au o)) (.ref a)
 hash:=λo=>jQ prog w (.tup (au o))
 draws:=λo=>pQ (.tup (au o))
 room:=λA=>A.units+20<cLine
 inj:=λhx hy=>qY (eY.inj hx hy)
 keeps:=λx gO dO hs=>x.keeps λa o items n gO' dO'=>by
  rename_i d' od es ep;have hne:a≠d':=λz=>by
   subst z;cases gO.symm.trans gO';rw[dO] at dO';cases dO'
  exact(hs.2 a hne).trans gO'
 pyHash:=λhu hk h=>eY.hash 8 hk (by lia) h
 eqBool:=λhu hx hy h=>eY.eqs 8 hx hy (Bp _ _) (by lia) (by
  rename_i x y _ _ _;have:u6 (W.tup (au x)=.tup (au y))=decide (x=y):=by
   by_cases e:x=y
   ·subst e;rw[jR rfl,ydz rfl]
   ·rw[iX (λz=>e (qY z)),ydy e]
  rw[this];exact h)
 quiet:=λhk h=>eY.quiet 8 hk h
end
mutual
theorem eY.le {h:Heap}:∀{d d':Nat} {w:W} {v:Value},d<=d'->eY h d w v->eY h d' w v
 | _,_,_,_,_,.int n t=> .int n t
 | _,d'+1,_,_,l,.tup ho hc hd hs=> .tup ho hc hd (cU.le (Nat.le_of_succ_le_succ l) hs)
 | _,0,_,_,l,.tup ho hc hd hs=>absurd l (Nat.not_succ_le_zero _)
theorem cU.le {h:Heap}:∀{d d':Nat} {ws:List W} {vs:yez},d<=d'->cU h d ws vs->cU h d' ws vs
 | _,_,_,_,_,.nil=> .nil
 | _,_,_,_,l,.cons r rs=> .cons (eY.le l r) (cU.le l rs)
end
section
variable {X:Cx} {π:List (Addr×Obj)} {σ:St} {H:Hp} {s:Shared}
theorem yo (I:aF X π σ H s):∀(k:Nat) (o:O) (v:V) (u:Value),o.dp<=k->bK X.K H (.tup (au o)) v->bd v u->eY s.heap (2*k+1) (.tup (au o)) u:=by
 intro k
 induction k with
 | zero=>
   intro o v u hd r ru;have:o=.z:=by
    cases o with
    | z=>rfl
    | c e n r=>simp only[O.dp] at hd;lia
   subst this;cases r with
   | tup hT rr=>
     obtain⟨its,rv,⟨ob,e,c,n,dd⟩,_⟩:=I.tuple (cY.of hT);cases rr;cases rv;cases (show u=Value.ref _ from ru);exact .tup e c dd .nil
 | succ k ih=>
   have parts:∀(o:O) (xs:List V) (its:yez),o.dp<=k+1->aS X.K H (au o) xs->aU xs its->cU s.heap (2*k+2) (au o) its:=by
    intro o
    induction o with
    | z=>
      intro xs its hd rr rv;cases rr;cases rv;exact .nil
    | c e n r ihe ihr=>
      intro xs its hd rr rv;rw[bZ] at rr ⊢;cases rr with
      | cons r1 rs1=>
        cases rv with
        | cons v1 vs1=>
          have hd1:e.dp<=k:=by simp only[O.dp] at hd;lia
          have hd2:r.dp<=k+1:=by simp only[O.dp] at hd;lia
          refine .cons ?_ (ihr _ _ hd2 rs1 vs1);unfold gZ at r1 ⊢;cases r1 with
          | tup hT rr=>
            obtain⟨its,rv,⟨ob,ee,c,m,dd⟩,_⟩:=I.tuple (cY.of hT);cases (show _=Value.ref _ from v1);cases rr with
            | cons q1 qs=>
              cases qs with
              | cons q2 qs=>
                cases qs;cases rv with
                | cons w1 ws=>
                  cases ws with
                  | cons w2 ws=>
                    cases ws;refine .tup ee c dd (.cons (ih e _ _ hd1 q1 w1) (.cons ?_ .nil));cases q2;obtain⟨t,rfl⟩:=w2;exact .int _ _
   intro o v u hd r ru;cases r with
   | tup hT rr=>
     obtain⟨its,rv,⟨ob,e,c,n,dd⟩,_⟩:=I.tuple (cY.of hT);cases (show u=Value.ref _ from ru);exact .tup e c dd (parts o _ _ hd rr rv)
theorem jT (I:aF X π σ H s) {o:O} (hd:o.dp<=3) (r:bK X.K H (.tup (au o)) (.ref a)):(jS X.prog X.w).is s.heap o a:=eY.le (by decide) (yo I 3 o (.ref a) (.ref a) hd r rfl)
end
inductive gh (K:yav) (H:Hp):List (O×W)->List (O×Addr×Value)->Prop where
 | nil:gh K H [] []
 | cons {k:O} {a:Addr} {w:W} {v:V} {u:Value} {kvs:List (O×W)} {xs:List (O×Addr×Value)} (rk:bK K H (.tup (au k)) (.ref a)) (rv:bK K H w v) (ru:bd v u) (t:gh K H kvs xs):gh K H ((k,w)::kvs) ((k,a,u)::xs)
theorem gh.mono {K:yav} {H H1:Hp} (t:aR H H1):∀{kvs:List (O×W)} {xs:List (O×Addr×Value)},gh K H kvs xs->gh K H1 kvs xs
 | _,_,.nil=> .nil
 | _,_,.cons rk rv ru r=> .cons (rk.mono t) (rv.mono t) ru (gh.mono t r)
theorem gh.keys {K:yav} {H:Hp}:∀{kvs:List (O×W)} {xs:List (O×Addr×Value)},gh K H kvs xs->xs.map (·.1)=kvs.map (·.1)
 | _,_,.nil=>rfl
 | _,_,.cons _ _ _ r=>by rw[map_cons,map_cons,gh.keys r]
theorem gh.mem {K:yav} {H:Hp}:∀{kvs:List (O×W)} {xs:List (O×Addr×Value)},gh K H kvs xs->∀x,x∈xs->bK K H (.tup (au x.1)) (.ref x.2.1)
 | _,_,.nil,x,hx=>(nomatch hx)
 | _,_,.cons rk _ _ r,x,hx=>by
   rcases mem_cons.mp hx with rfl | hx
   ·exact rk
   ·exact gh.mem r x hx
def jU (P:Program) (w:World) (a:Addr) (xs:List (O×Addr×Value)):Heap->Prop:=λh=>∃o es ep,h.get? a=some o/\o.ExactDict/\o.data=.dict es ep/\es.toList=xs.map (entryOfKey (jS P w))
def kq (P:Program) (w:World) (K:yav) (kvs:List (O×W)):Hp->Addr->Prop:=λH a=>kvs.length<=1000/\(a==sysModules)=false/\(kvs.map (·.1)).Nodup/\(∀p,p∈kvs->p.1.dp<=3)/\∃xs,H a=some (.ext (jU P w a xs))/\gh K H kvs xs
noncomputable abbrev qZ (P:Program) (w:World) (K:yav) (kvs:List (O×W)):GO:= .any (kq P w K kvs)
theorem kq.ok {kvs:List (O×W)} {H:Hp} (h:kq P w K kvs H a):yS K H a (qZ P w K kvs):=by
 refine⟨h,?_,λH1 H2 t e x=>?_⟩
 ·obtain⟨_,_,_,_,xs,e,_⟩:=h;exact⟨_,e⟩
 ·obtain⟨a1,a2,a3,a4,xs,e1,kv⟩:=x;exact⟨a1,a2,a3,a4,xs,e.trans e1,kv.mono t⟩
section
variable {X:Cx} {π:List (Addr×Obj)} {σ:St} {H:Hp} {s:Shared}
theorem kq.dict {kvs:List (O×W)} (I:aF X π σ H s) (h:kq X.prog X.w X.K kvs H a):∃xs,H a=some (.ext (jU X.prog X.w a xs))/\gh X.K H kvs xs/\s.heap.DictOfH (jS X.prog X.w) a xs:=by
 obtain⟨a1,a2,a3,a4,xs,e,kv⟩:=h;obtain⟨⟨o,es,ep,h1,h2,h3,h4⟩,_⟩:=I.hok a _ e;refine⟨xs,e,kv,o,es,ep,h1,h2,h3,h4,λx hx=>?_,by rw[kv.keys];exact a3⟩;refine jT I ?_ (kv.mem x hx);have:x.1∈kvs.map (·.1):=by rw[←kv.keys];exact mem_map.mpr ⟨x,hx,rfl⟩
 obtain⟨p,hp,hpe⟩:=mem_map.mp this;rw[←hpe];exact a4 p hp
theorem q0 {H:Hp} {h:Heap} {xs:List (O×Addr×Value)} (d:jU P w a xs h):bG P w H h a (.ext (jU P w a xs)):=by
 refine⟨d,?_,λh1 h2 x k=>?_⟩
 ·obtain⟨o,_,_,e,_⟩:=d;exact⟨o,e⟩
 ·obtain⟨o,es,ep,e,r⟩:=x;exact⟨o,es,ep,k _ e,r⟩
def u7 (P:Program) (w:World) (K:yav):WE:=λ_ G q=>∀p,G p=none->q (.ref p) (aw G p (qZ P w K []))
theorem yp:QE X (.Dict [] [] pos) (u7 X.prog X.w X.K):=by
 have pe:PE X (.Dict [] [] pos) (λ_ H Q=>∀p,H p=none->(p==sysModules)=false->Q (.ref p) (upd H p (.ext (jU X.prog X.w p [])))):=λπ s σ H Q I h=>
  wpAny_Dict_empty ⟨.ref s.heap.objs.size,_,I.laid (a:=s.heap.objs.size) (o:= .ext (jU X.prog X.w s.heap.objs.size [])) (t':=s.toks) (λ_ _ q=>ybz _ q) (ycx _) (q0 ⟨_,#[],0,ybw _ rfl,⟨rfl,rfl,rfl⟩,rfl,rfl⟩),rfl,h _ (I.hok.fresh (ycx _)) (beq_eq_false_iff_ne.mpr (Ne.symm (ne_of_lt I.bigD)))⟩
 exact pe.imp λσ H Q z0=>z0.el λτ G q hs hg ht hQ p hp hm=>hQ _ _ _ _ (aR.new hp _) (.ref p) (hg.lay (g:=qZ X.prog X.w X.K []) (aR.new hp _) (kq.ok ⟨zero_le _,hm,by simp,(λ_ h=>(nomatch h)),[],aZ,.nil⟩)) (ht p (hg.fresh hp))
noncomputable def eV (kvs:List (O×W)) (k:O):Option W:=(kvs.find? λp=>decide (p.1=k)).map (·.2)
theorem gh.at {K:yav} {k:O}:∀{kvs:List (O×W)} {xs:List (O×Addr×Value)},gh K H kvs xs->(eV kvs k=none/\atKey xs k=none)∨∃w a v u,eV kvs k=some w/\atKey xs k=some (a,u)/\bK K H w v/\bd v u
 | _,_,.nil=> .inl ⟨rfl,rfl⟩
 | _,_,.cons (k:=k') (a:=a) (w:=w) (v:=v) (u:=u) rk rv ru t=>by
   by_cases e:k'=k
   ·exact .inr ⟨w,a,v,u,by simp[eV,e],by simp[atKey,e],rv,ru⟩
   ·rcases gh.at (k:=k) t with⟨h1,h2⟩ | ⟨w',a',v',u',h1,h2,h3,h4⟩
    ·exact .inl ⟨by simpa[eV,List.find?_cons,e] using h1,by simpa[atKey,List.find?_cons,e] using h2⟩
    ·exact .inr ⟨w',a',v',u',by simpa[eV,List.find?_cons,e] using h1,by simpa[atKey,List.find?_cons,e] using h2,h3,h4⟩
theorem u9 {kvs:List (O×W)} {k:O} {x:W} (h:eV kvs k=some x):(k,x)∈kvs:=by
 unfold eV at h;obtain⟨p,hp,rfl⟩:=Option.map_eq_some_iff.mp h;have h1:=List.mem_of_find?_eq_some hp;have h2:=List.find?_some hp;have h3:p.1=k:=of_decide_eq_true h2;rw[←h3];exact h1
def yq (P:Program) (w:World) (K:yav):W2:=λx y G q=>match x,y with
 | .ref a,.tup ts=>∃kvs o x,ts=au o/\G a=some (qZ P w K kvs)/\eV kvs o=some x/\q x G
 | x,y=>jL x y G q
theorem vc (hr:aB k A):A.in1.units+20<cLine:=by
 have:=hr.un;show A.units+1+20<cLine;lia
theorem DH (hr:aB k X.A):wk X (yq X.prog X.w X.K):=by
 rintro value slice π s σ H x y v u Q I rx ry ⟨wx,wy,G,q,r1,r2,g,h,hQ⟩ hsl;unfold yq at h;split at h
 ·rename_i a ts;obtain⟨kvs,o,x,rfl,hG,hv,h⟩:=h;cases r1;cases rx;have hD:=(g a _ hG).1;obtain⟨xs,_,kv,dd⟩:=hD.dict I;rcases kv.at (k:=o) with⟨e,_⟩ | ⟨x',b',v',u',e,e',r,ru⟩
  ·rw[e] at hv;cases hv
  ·rw[e] at hv;cases hv;have hdp:o.dp<=3:=hD.2.2.2.1 _ (u9 e);cases r2 with
   | @tup b _ _ hT rr=>
     cases (show u=Value.ref b from ry);exact tail_any dd.typeIs PySem.F.slot_dict_getitem.lookup (wpAny_getItem_heap (knd:=jS X.prog X.w) (vc hr) (jT I hdp (.tup hT rr)) dd e' ⟨v',H,I.tok _,ru,hQ _ H _ G (aR.refl H) r g h⟩) hsl
 ·exact ay value slice π s σ H x _ v u Q I rx ry ⟨wx,wy,G,q,r1,r2,g,h,hQ⟩ hsl
theorem i9 {K:Type} [DecidableEq K] {knd:HeapKind prog w K} {d a:Addr} {xs:List (K×Addr×Value)} {k:K} {dflt:Value} (hu:knd.room A) (hkey:knd.is s.heap k a) (hm:s.heap.DictOfH knd d xs)
 (hthere:∀p,atKey xs k=some p->Q p.2 { s with toks:=s.toks+knd.draws k })
 (hnew:atKey xs k=none->∀h',h'.DictOfH knd d (xs++[(k,a,dflt)])->Heap.SameBut d s.heap h'->Q dflt { s with heap:=h',toks:=s.toks+knd.draws k }) (hsz:xs.length<=sizeLine):
 wpAny (model prog w) A (dictSetDefault d (.ref a) dflt) Q E s:=by
 obtain⟨o,es,ep,ho,hc,hd,he,his,hn⟩:=hm;unfold dictSetDefault
 try with_reducible refine wpAny_holding ?_
 refine wax (knd.pyHash hu hkey ?_);refine wax (wpAny_dictFind_heap (s:={ s with toks:=s.toks+knd.draws k }) hu hkey ho hd he his hn ?_ ?_)
 ·intro hno;have hnot:k∉xs.map (·.1):=not_mem_keys_of_get hno;have hat:=atKey_none_of_get hno;refine wax (wpAny_rule (wax (wpAny_updateDictKeys (hz:=by have e:=size_of_entries he;lia) (s:={ s with toks:=s.toks+knd.draws k }) ho hd (way (hnew hat _ ⟨_,_,ep+1,Heap.get?_update_self _ ho (Obj.isFreed_of_dict (Obj.data_mapDictKeys hd _)),
   hc.mapDictKeys _,Obj.data_mapDictKeys hd _,?_,?_,?_⟩ (Heap.SameBut.update ..))))))
  ·simp[he,entryOfKey]
  ·intro x hx;rcases mem_append.mp hx with hx | hx
   ·exact knd.keeps (his x hx) ho hd (Heap.SameBut.update ..)
   ·simp only[mem_singleton] at hx;subst hx;exact knd.keeps hkey ho hd (Heap.SameBut.update ..)
  ·rw[map_append,List.nodup_append];refine⟨hn,by simp,?_⟩;intro x hx y hy;simp only[map_cons,map_nil,mem_singleton] at hy;subst hy;exact λe=>hnot (e▸hx)
 ·intro j p hj;refine wax (wpAny_dictEntries (s:={ s with toks:=s.toks+knd.draws k }) ho hd ?_);rw[entry_at he j,hj];exact wax (wpAny_rule (way (hthere p (atKey_of_get hn hj))))
theorem gS {K:Type} [DecidableEq K] (knd:HeapKind prog w K) (d a:Addr) (hd:(d==sysModules)=false) (dflt:Value):
 MeetsIn prog w (Builtin.«dict.setdefault» ⟨[.ref d,.ref a,dflt],[]⟩) (λA R s=>knd.room A.in1/\∃k xs,knd.is s.heap k a/\s.heap.DictOfH knd d xs/\xs.length<=sizeLine/\
  (∀p,atKey xs k=some p->R (.ok (.ret p.2)) { s with toks:=s.toks+knd.draws k })/\
  (atKey xs k=none->∀h',h'.DictOfH knd d (xs++[(k,a,dflt)])->Heap.SameBut d s.heap h'->R (.ok (.ret dflt)) { s with heap:=h',toks:=s.toks+knd.draws k })):=
 .of_wp λA R s ⟨hu,k,xs,hkey,hm,hz,h1,h2⟩=>by
  unfold Builtin.«dict.setdefault»;refine wax ?_;unfold Builtin.Dict.keyAndDefault;refine wax (wpAny_notOrdered_dict hm.typeIs ?_);show wpAny _ _ (pure (d,Value.ref a,some dflt)) _ _ s;refine way ?_;show wpAny _ _ (if (d==sysModules)=true then _ else (dictSetDefault d (.ref a) dflt >>= _)) _ _ s;rw[ycw (by rw[hd];exact ydx)];exact wax (i9 hu hkey hm (λp hp=>way ⟨p.2,rfl,h1 p hp⟩) (λhn h' hm' hs'=>way ⟨dflt,rfl,h2 hn h' hm' hs'⟩) hz)
theorem Bq {o e:Expr} {to:TE} {t:TA} {name:Str} {apos cpos:Pos} {id:String} {r:V->List V->Hp->VK->Prop} {ty:V->Hp->Prop} (hty0:∀(π:List (Addr×Obj)) (σ:St) (H:Hp) (s:Shared) (x:V) (v:Value),aF X π σ H s->bd x v->ty x H->s.TypeIs v "dict"/\∀a,v=.ref a->∃ob,s.heap.get? a=some ob/\ob.dict=none)
 (slot:Slot "dict" name id) (hty:typeOf (.builtin id)=pure (.type "method_descriptor")) (hm:Co X id r) (ho:PE X o to) (ha:PA X (e::es) t)
 (hbase:attributeBase o name X.env (eval o X.env)=eval o X.env:=by rfl)
 (hfew:((backTo cpos (starEach (e::es) X.env)).all (λx=>!x.1)&&(backToKw cpos (keywordEach [] X.env)).all (λx=>x.1.isSome)
   &&decide ((e::es).length+([]:List Keyword).length+(if ([]:List Keyword).isEmpty then 0 else 1)<30))=true:=by rfl)
 (hline:(apos.endLine==cpos.line)=true:=by rfl) (hs:starEach (e::es) X.env=(false,eval e X.env)::starEach es X.env:=by rfl) (hplain:(backTo cpos (starEach es X.env)).any (·.1)=false:=by rfl):
 PE X (.Call (.Attribute o name apos) (e::es) [] cpos) (λσ H Q=>to σ H λx H1=>ty x H1/\t σ H1 λxs H2=>r x xs H2 Q):=by
 intro π s σ H Q I h;refine wpAny_Call_method_late hbase hfew hline rfl (bU (ho π s σ H _ I h) λv s1 z9=>?_);obtain⟨x,H1,I1,r1,ty1,q1⟩:=z9;obtain⟨h1,h2⟩:=hty0 _ _ _ _ _ _ I1 r1 ty1;refine⟨"dict",id,PySem.F.plainAttrs_dict,slot,hty,h1,h2,?_⟩;have hA:=ha cpos π s1 σ H1 _ I1 q1;rw[hs] at hA ⊢;refine Calls.callWith_builtin (by show(false||(backTo cpos (starEach es X.env)).any (·.1))=false;rw[hplain]<;> rfl) (Calls.evalArgs_plain ?_);exact bU hA λus s2 ⟨vs,H2,I2,r2,q2⟩=>hm π s2 σ H2 x vs v us Q I2 r1 r2 q2
def Ft (X:Cx):V->List V->Hp->VK->Prop:=λx vs H Q=>∃a b kvs o d w,x=.ref a/\vs=[.ref b,d]/\kq X.prog X.w X.K kvs H a/\o.dp<=3/\bK X.K H (.tup (au o)) (.ref b)/\bK X.K H w d/\kvs.length+1<=1000/\
 (∀w' v',eV kvs o=some w'->bK X.K H w' v'->Q v' H)/\(eV kvs o=none->∀xs,kq X.prog X.w X.K (kvs++[(o,w)]) (upd H a (.ext (jU X.prog X.w a xs))) a->aR H (upd H a (.ext (jU X.prog X.w a xs)))->Q d (upd H a (.ext (jU X.prog X.w a xs))))
theorem gh.snoc {K:yav} {k:O} {a:Addr} {x:W} {v:V} {u:Value} (rk:bK K H (.tup (au k)) (.ref a)) (rv:bK K H x v) (ru:bd v u):∀{kvs:List (O×W)} {xs:List (O×Addr×Value)},gh K H kvs xs->gh K H (kvs++[(k,x)]) (xs++[(k,a,u)])
 | _,_,.nil=> .cons rk rv ru .nil
 | _,_,.cons r1 r2 r3 t=> .cons r1 r2 r3 (gh.snoc rk rv ru t)
theorem gh.length {K:yav}:∀{kvs:List (O×W)} {xs:List (O×Addr×Value)},gh K H kvs xs->xs.length=kvs.length
 | _,_,.nil=>rfl
 | _,_,.cons _ _ _ t=>by rw[length_cons,length_cons,gh.length t]
theorem aR.ex {φ:Heap->Prop} (hp:H a=some (.ext φ)) (o:HO):aR H (upd H a o):=
 ⟨λ_ _ h=>by rw[aH (fJ h hp (by intro z;cases z))];exact h,λ_ _ _ h=>by rw[aH (fJ h hp (by intro z;cases z))];exact h⟩
theorem Br (hr:aB k X.A):Co X "dict.setdefault" (Ft X):=by
 rintro π s σ H x vs v us Q I rx rv ⟨a,b,kvs,o,d,w,e1,e2,hD,hdp,hk,hw,hl,h1,h2⟩;subst e1 e2;cases rx;obtain⟨u1,u2,rfl,r1,r2⟩:=jp rv;cases (show u1=Value.ref b from r1);obtain⟨xs,eH,kv,dd⟩:=hD.dict I;have hsz:xs.length<=sizeLine:=by rw[kv.length,sizeLine_eq];lia
 refine call_meetsIn PySem.F.slot_dict_setdefault dd.typeIs PySem.F.entry_dict_setdefault (PySem.F.args_dict_setdefault_3 _ _ _) (gS (jS X.prog X.w) a b hD.2.1 u2) ⟨vc hr,o,xs,jT I hdp hk,dd,hsz,λp hp=>?_,λhn h' hm' hs'=>?_⟩
 ·rcases kv.at (k:=o) with⟨e,e'⟩ | ⟨x',b',v',u',e,e',r,ru⟩
  ·rw[e'] at hp;cases hp
  ·rw[e'] at hp;cases hp;exact⟨v',H,I.tok _,ru,h1 x' v' e r⟩
 ·rcases kv.at (k:=o) with⟨e,e'⟩ | ⟨x',b',v',u',e,e',r,ru⟩
  ·have tl:=aR.ex eH (.ext (jU X.prog X.w a (xs++[(o,b,u2)])));obtain⟨ob,es,ep,m1,m2,m3,m4,_⟩:=id hm';have dh:jU X.prog X.w a (xs++[(o,b,u2)]) h':=⟨ob,es,ep,m1,m2,m3,m4⟩;refine⟨d,_,qg (t':=s.toks+(jS X.prog X.w).draws o) I (by rw[eH];exact True.intro) hs' ⟨ob,m1⟩ (q0 dh),r2,h2 e _ ⟨by rw[length_append];exact hl,hD.2.1,?_,λp hp=>?_,_,aZ,(gh.snoc hk hw r2 kv).mono tl⟩ tl⟩
   ·rw[map_append,List.nodup_append];refine⟨hD.2.2.1,by simp,λx hx y hy z=>?_⟩;simp only[map_cons,map_nil,mem_singleton] at hy;rw[hy] at z;obtain⟨p,hp,hpe⟩:=mem_map.mp hx;unfold eV at e;rw[Option.map_eq_none_iff,List.find?_eq_none] at e;exact e p hp (ydz (hpe.trans z))
   ·rcases mem_append.mp hp with hp | hp
    ·exact hD.2.2.2.1 p hp
    ·rw[mem_singleton.mp hp];exact hdp
  ·rw[hn] at e';cases e'
def DI (X:Cx):V->Hp->Prop:=λx H=>∃a kvs,x=.ref a/\kq X.prog X.w X.K kvs H a
theorem vd (π:List (Addr×Obj)) (σ:St) (H:Hp) (s:Shared) (x:V) (v:Value) (I:aF X π σ H s) (rx:bd x v) (h:DI X x H):s.TypeIs v "dict"/\∀a,v=.ref a->∃ob,s.heap.get? a=some ob/\ob.dict=none:=by
 obtain⟨a,kvs,rfl,hD⟩:=h;cases rx;obtain⟨xs,_,_,dd⟩:=hD.dict I;refine⟨dd.typeIs,λb e=>?_⟩;cases e;obtain⟨ob,_,_,m1,m2,_⟩:=dd;exact⟨ob,m1,m2.2.1⟩
def Bs (P:Program) (w:World) (K:yav) (to tk td:WE):WE:=λτ G q=>to τ G λx G1=>match x with
 | .ref a=>(∃kvs,G1 a=some (qZ P w K kvs))/\tk τ G1 λy G2=>td τ G2 λd G3=>∃o kvs,y=.tup (au o)/\o.dp<=3/\G3 a=some (qZ P w K kvs)/\kvs.length+1<=1000/\(∀x,eV kvs o=some x->q x G3)/\(eV kvs o=none->q d (aw G3 a (qZ P w K (kvs++[(o,d)]))))
 | _=>False
theorem Bt {o k e:Expr} {to tk te:WE} {apos cpos:Pos} {n:Nat} (hr:aB n X.A) (ho:QE X o to) (hk:QE X k tk) (he:QE X e te)
 (hbase:attributeBase o "setdefault" X.env (eval o X.env)=eval o X.env:=by rfl)
 (hfew:((backTo cpos (starEach [k,e] X.env)).all (λx=>!x.1)&&(backToKw cpos (keywordEach [] X.env)).all (λx=>x.1.isSome)
   &&decide (([k,e]:List Expr).length+([]:List Keyword).length+(if ([]:List Keyword).isEmpty then 0 else 1)<30))=true:=by rfl)
 (hline:(apos.endLine==cpos.line)=true:=by rfl) (hs:starEach [k,e] X.env=(false,eval k X.env)::starEach [e] X.env:=by rfl) (hs2:starEach [e] X.env=(false,eval e X.env)::starEach [] X.env:=by rfl) (hpl:(backTo cpos (starEach [e] X.env)).any (·.1)=false:=by rfl):
 QE X (.Call (.Attribute o "setdefault" apos) [k,e] [] cpos) (Bs X.prog X.w X.K to tk te):=
 (Bq vd PySem.F.slot_dict_setdefault PySem.F.type_dict_setdefault (Br hr) ho (cA hk (cA he pa_nil hs2) hs) hbase hfew hline hs hpl).imp λσ H Q z0=>z0.el λτ G q hs hg ht hQ=>
   ⟨τ,G,_,hs,hg,ht,λv H1 w G1 t1 r1 g1 q1=>by
     split at q1
     ·rename_i a;cases r1;obtain⟨⟨kvs,e1⟩,q1⟩:=q1;refine⟨⟨a,kvs,rfl,(g1 a _ e1).1⟩,τ,G1,_,hs.mono t1,g1,q1,λv2 H2 w2 G2 t2 r2 g2 q2=>?_⟩;refine⟨τ,G2,_,(hs.mono t1).mono t2,g2,q2,λv3 H3 w3 G3 t3 r3 g3 q3=>?_⟩;obtain⟨o,kvs,rfl,hdp,e2,hl,h1,h2⟩:=q3;have r2':=r2.mono t3;have tt:=(t1.trans t2).trans t3;cases r2 with
      | @tup b _ _ hT rr=>
        refine⟨a,b,kvs,o,v3,w3,rfl,rfl,(g3 a _ e2).1,hdp,r2',r3,hl,λw' v' hv rv'=>hQ _ _ _ _ tt rv' g3 (h1 w' hv),λhn xs hD tl=>?_⟩;exact hQ _ _ _ _ (tt.trans tl) (r3.mono tl) (g3.lay (g:=qZ X.prog X.w X.K (kvs++[(o,w3)])) tl hD.ok) (h2 hn)
     ·exact q1.elim⟩
end
open PySem PySem.Spec PyProof.Rows Nm PySem.W
noncomputable def so {α:Type} (lt:Nat->Nat->Bool):KasT α->α
 | .ret a=>a
 | .ask i j k=>so lt (k (lt i j))
noncomputable def Bu {α:Type} (n:Nat):KasT α->Bool
 | .ret _=>true
 | .ask i j k=>decide (i<n)&&decide (j<n)&&Bu n (k true)&&Bu n (k false)
theorem n5 {α:Type} {n:Nat} {lt:Nat->Nat->Bool} {cmp:Nat->Nat->(Bool->Shared->Prop)->Shared->Prop} {s:Shared} (hc:∀i j,i<n->j<n->∀C:Bool->Shared->Prop,C (lt i j) s->cmp i j C s) {Q:α->Shared->Prop}:∀t:KasT α,Bu n t=true->Q (so lt t) s->t.kasWp cmp Q s
 | .ret a,_,h=>h
 | .ask i j k,ok,h=>by
   simp only[Bu,Bool.and_eq_true,decide_eq_true_eq] at ok;refine hc i j ok.1.1.1 ok.1.1.2 _ ?_;have h:Q (so lt (k (lt i j))) s:=h;have:Bu n (k (lt i j))=true:=by
    cases lt i j with
    | true=>exact ok.1.2
    | false=>exact ok.2
   exact n5 hc (k (lt i j)) this h
noncomputable def sr (σ:List Nat) (i j:Nat):Bool:=decide (σ.getD i 0<σ.getD j 0)
noncomputable def DJ (n:Nat) (σ:List Nat):Bool:=((so (sr σ) (kas_sort n)).toList.map λi=>σ.getD i 0)==List.range n&&(so (sr σ) (kas_sort n)).toList.all λi=>decide (i<n)
noncomputable def yr (n:Nat):Nat->List (List Nat)
 | 0=>[[]]
 | m+1=>(yr n m).flatMap λl=>(List.range n).map λx=>x::l
theorem n6 {n:Nat}:∀{l:List Nat},(∀x,x∈l->x<n)->l∈yr n l.length
 | [],_=>mem_singleton.mpr rfl
 | x::l,h=>List.mem_flatMap.mpr ⟨l,n6 λy hy=>h y (ybx _ hy),mem_map.mpr ⟨x,List.mem_range.mpr (h x yby),rfl⟩⟩
noncomputable def Eu:List Nat->Bool
 | []=>true
 | x::l=>!l.contains x&&Eu l
theorem ve:∀{l:List Nat},l.Nodup->Eu l=true
 | [],_=>rfl
 | x::l,h=>by
   rw[nodup_cons] at h;rw[Eu,ve h.2,Bool.and_true];simpa using h.1
noncomputable def ss (n:Nat):Bool:=Bu n (kas_sort n)&&(yr n n).all λσ=>!Eu σ||DJ n σ
theorem Fu:ss 2=true:=by decide+kernel
theorem Fv:ss 3=true:=by decide+kernel
theorem Fw:ss 4=true:=by decide+kernel
theorem Fy:ss 5=true:=by decide+kernel
theorem Bv {n:Nat} (h2:2<=n) (h5:n<=5):ss n=true:=by
 have:n=2∨n=3∨n=4∨n=5:=by lia
 rcases this with rfl | rfl | rfl | rfl
 ·exact Fu
 ·exact Fv
 ·exact Fw
 ·exact Fy
section
variable {X:Cx} {π:List (Addr×Obj)} {σ:St} {H:Hp} {s:Shared}
theorem mq (I:aF X π σ H s) {a b:O} {p q:Addr} (da:a.dp<=3) (rp:bK X.K H (.tup (au a)) (.ref p)) (rq:bK X.K H (.tup (au b)) (.ref q)):∃its its2:List Value,IsTup s.heap p its.toArray/\IsTup s.heap q its2.toArray/\its.length=a.len/\its2.length=b.len/\∀A:Around,A.units+20<cLine->fS A s its its2 (decide (O.cmp a b<0)):=by
 cases rp with
 | tup hT r=>
   cases rq with
   | tup hT2 r2=>
     obtain⟨its,rv,pt,_⟩:=I.tuple (cY.of hT);obtain⟨its2,rv2,pt2,_⟩:=I.tuple (cY.of hT2);obtain⟨l1,l2⟩:=gQ a b;have hd:=eh a;refine⟨its,its2,pt,pt2,by rw[←rv.length,←r.length,aY],by rw[←rv2.length,←r2.length,aY],λA hu=>?_⟩;rw[←l2];exact qq I 10 A (λh1 h2 h3 h4 q1 q2 q3 q4=>tV I 10 A h1 h2 h3 h4 (by lia) q1 q2 q3 q4) (by lia) (by lia) (ca a) (ca b) l1 r r2 rv rv2
theorem Bw (I:aF X π σ H s) {a b:O} {p q:Addr} (da:a.dp<=3) (rp:bK X.K H (.tup (au a)) (.ref p)) (rq:bK X.K H (.tup (au b)) (.ref q)) (hu:A.units+25<cLine):lN A s (.ref p) (.ref q) (decide (O.cmp a b<0)):=by
 obtain⟨its,its2,p1,p2,_,_,hc⟩:=mq I da rp rq;exact lN.tuples p1 p2 (by lia) (hc A.in1 (by show A.units+1+20<cLine;lia))
theorem vg {x y:Value} {b:Bool} (h:lN A s x y b) {Q:Bool->Shared->Prop} (q:Q b s):wpAny (model prog w) A (oneLt' false x y) Q E s:=by
 refine kat_one x y ?_;show wpAny (model prog w) A (richCompare .Lt x y) _ E s;exact h prog w E _ q
theorem yt (I:aF X π σ H s) {a b:O} {p q:Addr} (da:a.dp<=3) (rp:bK X.K H (.tup (au a)) (.ref p)) (rq:bK X.K H (.tup (au b)) (.ref q)) (hu:A.units+25<cLine) {Q:Bool->Shared->Prop} (h:Q (decide (O.cmp a b<0)) s):wpAny (model X.prog X.w) A (keyLt' general' (.ref p) (.ref q)) Q E s:=vg (Bw I da rp rq hu) h
theorem vh {prog:Program} {w:World} {A:Around} {Q:Bool->Shared->Prop} {r:Bool} {s:Shared} {fin:Bool}:∀{xs ys:yez} {i:Nat},fS A s xs ys r->(xs.length=ys.length->fin=false)->(xs.length<ys.length->fin=true)->(ys.length<xs.length->fin=false)->Q r s->KatLex prog w A false fin Q (xs.zip ys) i s
 | _,_,i,.nn,h1,_,_,q=>by
   have:=h1 rfl;subst this;exact q
 | _,_,i,.nc,_,h2,_,q=>by
   have:=h2 (by simp);subst this;exact q
 | _,_,i,.cn,_,_,h3,q=>by
   have:=h3 (by simp);subst this;exact q
 | _,_,i,.eq he t,h1,h2,h3,q=>by
   refine kat_cons (he prog w _ _ (kat_yes ?_));exact vh t (λe=>h1 (by simp[e])) (λe=>h2 (by simpa using e)) (λe=>h3 (by simpa using e)) q
 | _,_,i,.ne he t,_,_,_,q=>by
   refine kat_cons (he prog w _ _ (kat_no ?_));rw[Bool.false_and];exact vg t q
theorem yu (I:aF X π σ H s) {a b:O} {p q:Addr} (da:a.dp<=3) (rp:bK X.K H (.tup (au a)) (.ref p)) (rq:bK X.K H (.tup (au b)) (.ref q)) (hu:A.units+25<cLine) {Q:Bool->Shared->Prop} (h:Q (decide (O.cmp a b<0)) s):wpAny (model X.prog X.w) A (keyLt' (tuples' false) (.ref p) (.ref q)) Q E s:=by
 obtain⟨its,its2,⟨o1,e1,c1,n1,d1⟩,⟨o2,e2,c2,n2,d2⟩,_,_,hc⟩:=mq I da rp rq;refine kat_lt e1 d1 e2 d2 (vh (hc A (by lia)) (λe=>?_) (λe=>?_) (λe=>?_) h)
 ·exact ydy (by simp only[size_toArray];simp at e;lia)
 ·exact ydz (by simpa using e)
 ·exact ydy (by simp only[size_toArray];simp at e;lia)
theorem yv (I:aF X π σ H s) {a b:O} {p q:Addr} (da:a.dp<=3) (rp:bK X.K H (.tup (au a)) (.ref p)) (rq:bK X.K H (.tup (au b)) (.ref q)) (hu:A.units+25<cLine) {Q:Bool->Shared->Prop} (h:Q (decide (O.cmp a b<0)) s):wpAny (model X.prog X.w) A (keyLt' oneType' (.ref p) (.ref q)) Q E s:=by
 obtain⟨its,its2,⟨⟨cl1,dd1,da1,sl1⟩,e1,c1,n1,d1⟩,⟨⟨cl2,dd2,da2,sl2⟩,e2,c2,n2,d2⟩,_,_,hc⟩:=mq I da rp rq;simp only at c1 d1 c2 d2;subst c1 d1 c2 d2;have ty:s.TypeIs (.ref p) "tuple":=⟨_,e1,rfl⟩;rw[keyLt'_oneType,oneLt'_eq];simp only[if_true];refine wax (wpAny_cRoomFor_or (.inr (by lia)) ?_);refine wax (wpAny_callSpecialIfBound?_slot (name:=Str.ofString "__lt__") ty PySem.F.slot_tuple_lt (call_meets PySem.F.slot_tuple_lt ty PySem.F.entry_tuple_lt (PySem.F.args_tuple_lt_2 _ _) (jB p q its.toArray its2.toArray n1 n2 dd1 dd2 sl1 sl2 (decide (O.cmp a b<0))) ⟨e1,e2,by simpa using hc A.in1 (by show A.units+1+20<cLine;lia),?_⟩));exact wpAny_truthy_bool h
end
def fN (h:Heap) (d:Addr) (es:Array DictEntry) (ep:Nat):Prop:=∃o,h.get? d=some o/\o.ExactDict/\o.data=.dict es ep
theorem fN.at {h h':Heap} {d:Addr} {es:Array DictEntry} {ep:Nat} (x:fN h d es ep) (k:∀o,h.get? d=some o->h'.get? d=some o):fN h' d es ep:=let ⟨o,e,r⟩:=x;⟨o,k o e,r⟩
theorem fN.ty {d:Addr} {es:Array DictEntry} {ep:Nat} (x:fN s.heap d es ep):s.TypeIs (.ref d) "dict":=let ⟨o,e,c,_⟩:=x;⟨o,e,c.1⟩
section
variable {prog:Program} {w:World} {A:Around} {E:yey} {s:Shared} {it d:Addr} {i ep:Nat} {es:Array DictEntry}
theorem vi (lo:(d==sysModules)=false) (x:fN s.heap d es ep)
 (q:Q (.ref s.heap.objs.size) { s with heap:=s.heap.push { cls:= .type "dict_keyiterator",data:= .fields #[.ref d,.int 0 0,.int es.size 0,.int ep 0] } }):wpAny (model prog w) A (pyIter (.ref d)) Q E s:=by
 have ty:=x.ty;obtain⟨o,gO,_,dO⟩:=x;refine wpAny_pyIter_slot ty F.slot_dict_iter (wpAny_call_entry F.slot_dict_iter ty F.entry_dict_iter ?tree (F.args_dict_iter_1 _))
 case tree=>
  unfold Builtin.«dict.__iter__» Builtin.Dict.dictSlotNone;refine wax (wax (wpAny_notOrdered_dict ty (way (a:=Value.ref d) ?_)));show wpAny _ _ (Builtin.Dict.showsAll d >>= _) _ _ s;unfold Builtin.Dict.showsAll;rw[lo,ycw ydx];refine wax (way (wax (wpAny_dictEntries gO dO (wax (wpAny_dictEpoch gO dO ?_)))));refine wax (wpAny_newObj_type (way ⟨_,rfl,"dict_keyiterator",_,⟨_,ybw _ rfl,rfl⟩,F.slot_dict_keyiterator_next.lookup,?_⟩));simpa[rawInt] using q
theorem vj {Q:Option Value->Shared->Prop} (ki:s.heap.IsKeyIter it d i es.size ep) (x:fN s.heap d es ep) (hi:i<es.size)
 (q:∀h',h'.IsKeyIter it d (i+1) es.size ep->Heap.SameBut it s.heap h'->Q (some es[i].key) { s with heap:=h' }):wpAny (model prog w) A (pyNext (.ref it)) Q E s:=by
 have tk:=ki.typeIs;obtain⟨o,gI,cI,dI⟩:=id ki;obtain⟨od,gO,_,dO⟩:=x;unfold pyNext;refine wax (wpAny_attempt (wpAny_callSpecial?_slot (name:=Str.ofString "__next__") tk F.slot_dict_keyiterator_next (wpAny_call_entry F.slot_dict_keyiterator_next tk F.entry_dict_keyiterator_next ?tree (F.args_dict_keyiterator_next_1 _))))
 case tree=>
  refine wax (way (wax (wax ?_)))
  first | refine wax (wpAny_typeNameOfWhole_keyiter tk (way (wax (wpAny_fieldsOf gI dI ?_)))) | refine wax (wpAny_typeNameOf_keyiter tk (way (wax (wpAny_fieldsOf gI dI ?_))))
  simp only[show Builtin.Dict_items.ownsTuple "dict_keyiterator"=false from by decide,Bool.false_eq_true,if_false];show wpAny _ _ (if (Value.ref d==Value.none)=true then _ else _) _ _ s;rw[show(Value.ref d==Value.none)=false from rfl,ycw ydx];refine wax (way (wax (wpAny_dictEntries gO dO ?_)));rw[ycw (by simp)];refine wax (way (wax (wpAny_dictEpoch gO dO ?_)));rw[ycw (by simp)];refine way ?_;simp only[show ¬((i:Int)<0) from by lia,if_false,Int.toNat_natCast,Array.getElem?_eq_getElem hi];refine wax ?_
  first | refine wax (wpAny_typeNameOfWhole_keyiter tk (way (wax (wpAny_isOneOf_keyiter tk ?_)))) | refine wax (wpAny_typeNameOf_keyiter tk (way (wax (wpAny_isOneOf_keyiter tk ?_))))
  show wpAny _ _ (setField (.ref it) 1 (rawInt ((i:Int)+1)) >>= _) _ _ s;refine wax (wpAny_setField gI dI (by simp) ?_);have ki':(s.heap.update it (Obj.mapFields (·.setIfInBounds 1 (rawInt ((i:Int)+1))))).IsKeyIter it d (i+1) es.size ep:=
   ⟨_,Heap.get?_update_self _ gI (Obj.isFreed_of_fields (Obj.data_mapFields dI _)),(Obj.cls_mapFields ..).trans cI,by rw[Obj.data_mapFields dI];simp[rawInt]⟩
  refine wax (wpAny_holding (wax (wpAny_isOneOf_keyiter (s:={ s with heap:=s.heap.update it (Obj.mapFields (·.setIfInBounds 1 (rawInt ((i:Int)+1)))) }) ki'.typeIs ?_)));exact way (a:=es[i].key) (way ⟨_,rfl,way (q _ ki' (Heap.SameBut.update ..))⟩)
theorem yw {Q:Option Value->Shared->Prop} (hh:A.handled=none) (ki:s.heap.IsKeyIter it d i es.size ep) (x:fN s.heap d es ep) (hi:es.size<=i)
 (q:∀h',Heap.ExtBut it s.heap h'->Q none { s with heap:=h' }):wpAny (model prog w) A (pyNext (.ref it)) Q E s:=by
 have tk:=ki.typeIs;obtain⟨o,gI,cI,dI⟩:=id ki;obtain⟨od,gO,_,dO⟩:=x;unfold pyNext;refine wax (wpAny_attempt (wpAny_callSpecial?_slot (name:=Str.ofString "__next__") tk F.slot_dict_keyiterator_next (wpAny_call_entry F.slot_dict_keyiterator_next tk F.entry_dict_keyiterator_next ?tree (F.args_dict_keyiterator_next_1 _))))
 case tree=>
  refine wax (way (wax (wax ?_)))
  first | refine wax (wpAny_typeNameOfWhole_keyiter tk (way (wax (wpAny_fieldsOf gI dI ?_)))) | refine wax (wpAny_typeNameOf_keyiter tk (way (wax (wpAny_fieldsOf gI dI ?_))))
  simp only[show Builtin.Dict_items.ownsTuple "dict_keyiterator"=false from by decide,Bool.false_eq_true,if_false];show wpAny _ _ (if (Value.ref d==Value.none)=true then _ else _) _ _ s;rw[show(Value.ref d==Value.none)=false from rfl,ycw ydx];refine wax (way (wax (wpAny_dictEntries gO dO ?_)));rw[ycw (by simp)];refine wax (way (wax (wpAny_dictEpoch gO dO ?_)));rw[ycw (by simp)];refine way ?_;simp only[show ¬((i:Int)<0) from by lia,if_false,Int.toNat_natCast,Array.getElem?_eq_none hi];refine wax ?_
  first | refine wax (wpAny_typeNameOfWhole_keyiter tk (way ?_)) | refine wax (wpAny_typeNameOf_keyiter tk (way ?_))
  show wpAny _ _ (setField (.ref it) 0 .none >>= _) _ _ s;refine wax (wpAny_setField gI dI (by simp) ?_);show wpAny _ _ (newExc (.type "StopIteration") [] >>= _) _ _ _;refine wax ?_;simp only[newExc,newTuple];refine wax (wpAny_newObj_type (wax (m:=firstArgMember _ _) (wpAny_of_eq (a:=Value.none) (by first | rfl | (simp only[firstArgMember];rfl)) (wpAny_newObj_type ?_ (by size_fits)))) (by size_fits));simp only[raiseNew];refine wax (wpAny_handled ?_);rw[show A.in1.handled=none from hh];refine wax (way (wpAny_throw ?_));refine wax (wpAny_isInstance (T:="StopIteration") (b:=true) ⟨_,ybw _ rfl,rfl⟩ isSubtype_stop ?_);exact way (q _ (((Heap.SameBut.update ..).extBut.push _).push _))
theorem sw (hh:A.handled=none) (I:Addr) (hne:d≠I):Walks prog w A I [I,d] [I] es.size (λi v=>∃e,es[i]?=some e/\v=e.key) (λi h=>h.IsKeyIter I d i es.size ep/\fN h d es ep) where
 sub:=λb hb=>by simp at hb;simp[hb]
 frame:=λ_ _ _ st hk=>⟨st.1.at λo e=>hk I (by simp) o e,st.2.at λo e=>hk d (by simp) o e⟩
 item:=λi s Q E hi st hQ=>vj st.1 st.2 hi λh' ki' sb=>hQ _ h' s.toks ⟨_,Array.getElem?_eq_getElem hi,rfl⟩ ⟨ki',st.2.at λo e=>(sb.2 d hne).trans e⟩ λb o hb e=>(sb.2 b (λz=>hb (by simp[z]))).trans e
 done:=λs Q E st hQ=>yw hh st.1 st.2 (ycx _) λh' eb=>hQ h' s.toks λb o hb e=>eb b o (λz=>hb (by simp[z])) e
 self:=λ_ _ _ _ st hQ=>wpAny_pyIter_keyiter st.1 hQ
theorem rc (lo:(d==sysModules)=false):KdlSrc prog w "dict" d d es.size (λi v=>∃e,es[i]?=some e/\v=e.key) (λh=>fN h d es ep) where
 type:=λ_ x=>x.ty
 there:=λ_ x=>let ⟨_,e,_⟩:=x;⟨ybv e,ybv e⟩
 keep:=λ_ _ x hk=>x.at λo e=>hk d (.inl rfl) o e
 notList:=by decide
 notTuple:=by decide
 hint:=λ_ _ _ _ x hq=>kdl_hint_dict x.ty hq
 iter:=λ_ _ hh x=>⟨_,_,(λ_ _ hq=>vi lo x hq),sw hh _ (let ⟨_,e,_⟩:=x;ne_of_lt (ybv e)),⟨⟨_,ybw _ rfl,rfl,rfl⟩,x.at λo e=>ybz _ e⟩⟩
end
end L2
set_option maxHeartbeats 1000000
namespace L2
open PySem PySem.Spec PyProof.Rows Nm PySem.W
inductive NV (K:yav) (H:Hp):List O->List Value->Prop where
 | nil:NV K H [] []
 | cons {o:O} {a:Addr} {os:List O} {us:yez} (r:bK K H (.tup (au o)) (.ref a)) (hd:o.dp<=3) (t:NV K H os us):NV K H (o::os) (.ref a::us)
theorem NV.length {H:Hp}:∀{os:List O} {us:yez},NV K H os us->os.length=us.length
 | _,_,.nil=>rfl
 | _,_,.cons _ _ t=>congrArg (·+1) t.length
theorem NV.app {H:Hp}:∀{os ps:List O} {us vs:yez},NV K H os us->NV K H ps vs->NV K H (os++ps) (us++vs)
 | _,_,_,_,.nil,t=>t
 | _,_,_,_,.cons r hd t,t2=> .cons r hd (t.app t2)
theorem NV.rev {H:Hp}:∀{os:List O} {us:yez},NV K H os us->NV K H os.reverse us.reverse
 | _,_,.nil=> .nil
 | _,_,.cons r hd t=>by
   rw[List.reverse_cons,List.reverse_cons];exact t.rev.app (.cons r hd .nil)
theorem NV.at {H:Hp}:∀{os:List O} {us:yez},NV K H os us->∀i,i<os.length->∃a,us.getD i Value.none=.ref a/\bK K H (.tup (au (os.getD i .z))) (.ref a)/\(os.getD i .z).dp<=3
 | _,_,.nil,i,h=>absurd h (Nat.not_lt_zero _)
 | _,_,.cons r hd t,0,_=>⟨_,rfl,r,hd⟩
 | _,_,.cons r hd t,i+1,h=>t.at i (Nat.lt_of_succ_lt_succ h)
theorem NV.pick {H:Hp} {os:List O} (h:NV K H os us):∀{p:List Nat},(∀i,i∈p->i<os.length)->NV K H (p.map λi=>os.getD i .z) (p.map λi=>us.getD i Value.none)
 | [],_=> .nil
 | i::p,hp=>by
   obtain⟨a,h1,h2,h3⟩:=h.at i (hp i yby);rw[map_cons,map_cons,h1];exact .cons h2 h3 (h.pick λj hj=>hp j (ybx _ hj))
section
variable {X:Cx} {π:List (Addr×Obj)} {σ:St} {H:Hp} {s:Shared}
theorem iF {M:Model} {o:Obj} {h:Heap} (e:h.get? a=some o) (c:o.cls=.type "tuple"):Looks M h (typeOf (.ref a)) (.type "tuple"):=c▸((Looks.ld e).andThen .now)
theorem lh (I:aF X π σ H s) {M:Model} {A:Around} {E:yey}:∀{os:List O} {us:yez},NV X.K H os us->∃fs:List (Option Value),fs.length=us.length/\(∀v,some v∈fs->Looks M s.heap (typeOf v) (.type "tuple"))/\∀{Q:List (Option Value)->Shared->Prop},Q fs s->wpAny M A (us.mapM firstOfTuple') Q E s
 | _,_,.nil=>⟨[],rfl,(λ_ h=>(nomatch h)),λq=>by rw[List.mapM_nil];exact way q⟩
 | _,_,.cons (o:=o) (a:=a) (us:=us) r hd t=>by
   obtain⟨fs,h1,h2,h3⟩:=lh I t;cases r with
   | tup hT rr=>
     obtain⟨its,rv,⟨ob,e,c,n,dd⟩,_⟩:=I.tuple (cY.of hT);refine⟨its[0]?::fs,by simp[h1],λv hv=>?_,λ{Q} q=>?_⟩
     ·rcases mem_cons.mp hv with hv | hv
      ·cases o with
       | z=>
         cases rr;cases rv;cases hv
       | c e1 n1 r1=>
         rw[bZ] at rr;cases rr with
         | cons q1 qs=>
           cases rv with
           | cons w1 ws=>
             cases hv;unfold gZ at q1;cases q1 with
             | tup hT2 _=>
               obtain⟨its2,_,⟨ob2,e2,c2,n2,dd2⟩,_⟩:=I.tuple (cY.of hT2);cases (show v=Value.ref _ from w1);exact iF e2 c2
      ·exact h2 v hv
     ·rw[List.mapM_cons];refine wax ?_;rw[kas_first_eq];refine wax ((iF e c).here ?_);rw[ycw (by decide)];refine wax (listItems_at e dd (way (wax (h3 (way ?_)))));simpa using q
theorem og (I:aF X π σ H s) {M:Model}:∀{os:List O} {us:yez},NV X.K H os us->∀v,v∈us->Looks M s.heap (typeOf v) (.type "tuple")
 | _,_,.nil,v,hv=>(nomatch hv)
 | _,_,.cons r hd t,v,hv=>by
   rcases mem_cons.mp hv with rfl | hv
   ·cases r with
    | tup hT rr=>
      obtain⟨its,rv,⟨ob,e,c,n,dd⟩,_⟩:=I.tuple (cY.of hT);exact iF e c
   ·exact og I t v hv
theorem oh {M:Model} {vs:yez} (hne:vs≠[]) (hT:∀v,v∈vs->Looks M s.heap (typeOf v) (.type "tuple")) {Q:Option Value->Shared->Prop} (q:Q (some (.type "tuple")) s):wpAny M A (oneTypeOnly' vs.toArray) Q E s:=by
 rw[oneTypeOnly'_eq,List.mapM_toArray,map_eq_pure_bind];refine wax (wax (kas_mapM (r:=Value.type "tuple") _ (λv hv Q' hq=>(hT v hv).here hq) (way ?_)));cases vs with
 | nil=>exact absurd rfl hne
 | cons v vs=>
   have e0:(List.map (λ_=>Value.type "tuple") (v::vs)).toArray[0]?=some (Value.type "tuple"):=by simp
   have e1:((List.map (λ_=>Value.type "tuple") (v::vs)).toArray.all λx=>x==Value.type "tuple")=true:=by simp
   rw[e0];simp only[e1,if_true];exact way q
theorem yx (I:aF X π σ H s) {os:List O} (nv:NV X.K H os us) (h1:1<=us.length) {Q:SortKind->Shared->Prop} (q:∀κ,(κ=tuples' false∨κ=general'∨κ=oneType')->Q κ s):wpAny (model X.prog X.w) A (keyKind' us.toArray) Q E s:=by
 obtain⟨fs,l1,l2,l3⟩:=lh (M:=model X.prog X.w) (A:=A) (E:=E) I nv;have hne:us≠[]:=λz=>by rw[z] at h1;exact absurd h1 (by decide)
 rw[kat_kind_eq,List.mapM_toArray,map_eq_pure_bind];refine wax (wax (l3 (way ?_)))
 by_cases hall:(fs.toArray.all λx=>x.isSome)=true
 ·rw[ycv hall];refine wax (wpAny_rule ?_);have hfm:(fs.toArray.filterMap id)=(fs.filterMap id).toArray:=by simp
  rw[hfm];refine wax (oh ?_ (λv hv=>?_) ?_)
  ·intro z;have:fs≠[]:=λz2=>by rw[z2] at l1;exact hne (List.eq_nil_of_length_eq_zero l1.symm)
   cases fs with
   | nil=>exact this rfl
   | cons f fs=>
     cases f with
     | none=>simp at hall
     | some v=>simp at z
  ·obtain⟨x,hx,hv⟩:=List.mem_filterMap.mp hv;exact l2 v (by rw[←hv];exact hx)
  ·exact way (q _ (.inl rfl))
 ·rw[ycw hall]
  by_cases h0:(fs.toArray[0]?.bind id).isSome=true
  ·rw[ycv h0];exact way (q _ (.inr (.inl rfl)))
  ·rw[ycw h0];refine wax (oh hne (og I nv) ?_);exact way (q _ (.inr (.inr rfl)))
theorem yy (I:aF X π σ H s) {a b:O} {p q:Addr} (da:a.dp<=3) (rp:bK X.K H (.tup (au a)) (.ref p)) (rq:bK X.K H (.tup (au b)) (.ref q)) (hu:A.units+25<cLine) {κ:SortKind} (hκ:κ=tuples' false∨κ=general'∨κ=oneType') {Q:Bool->Shared->Prop} (h:Q (decide (O.cmp a b<0)) s):wpAny (model X.prog X.w) A (keyLt' κ (.ref p) (.ref q)) Q E s:=by
 rcases hκ with rfl | rfl | rfl
 ·exact yu I da rp rq hu h
 ·exact yt I da rp rq hu h
 ·exact yv I da rp rq hu h
theorem sx (vs:yez):(vs.toArray.zip vs.toArray).reverse=pairsOf vs.reverse:=by
 apply Array.toList_inj.mp;show(vs.toArray.zip vs.toArray).reverse.toList=(vs.reverse.toArray.zip vs.reverse.toArray).toList;rw[Array.toList_reverse,Array.toList_zip,Array.toList_zip];show(List.zip vs vs).reverse=List.zip vs.reverse vs.reverse;unfold List.zip;exact List.reverse_zipWith rfl
theorem vk {os:List O} {n:Nat} (hn:os.length=n) (h2:2<=n) (h5:n<=5) (hd:os.Nodup):Bu n (kas_sort n)=true/\∃p:List Nat,p=(so (sr (os.map (rk os))) (kas_sort n)).toList/\(p.map λi=>(os.map (rk os)).getD i 0)=List.range n/\∀i,i∈p->i<n:=by
 have hc:=Bv h2 h5;unfold ss at hc;rw[Bool.and_eq_true] at hc;refine⟨hc.1,_,rfl,?_⟩;have hm:os.map (rk os)∈yr n n:=by
  have:=n6 (n:=n) (l:=os.map (rk os)) λx hx=>by
   obtain⟨o,ho,rfl⟩:=mem_map.mp hx;rw[←hn];exact AZ ho
  rw[length_map,hn] at this;exact this
 have hnd:(os.map (rk os)).Nodup:=by
  rw[List.Nodup,pairwise_map];exact hd.imp_of_mem λ{a b} ha hb hne z=>hne (A0 ha hb z)
 have h3:=all_eq_true.mp hc.2 _ hm;rw[ve hnd,Bool.not_true,Bool.false_or] at h3;unfold DJ at h3;rw[Bool.and_eq_true] at h3;refine⟨by simpa using h3.1,λi hi=>?_⟩;have:=all_eq_true.mp h3.2 i hi;simpa using this
theorem vo {os:List O} {i j:Nat} (hi:i<os.length) (hj:j<os.length):sr (os.map (rk os)) i j=decide (O.cmp (os.getD i .z) (os.getD j .z)<0):=by
 have e:∀k,k<os.length->(os.map (rk os)).getD k 0=rk os (os.getD k .z)/\os.getD k .z∈os:=λk hk=>by
  rw[List.getD_eq_getElem?_getD,List.getD_eq_getElem?_getD,List.getElem?_map,ycz hk];exact⟨rfl,getElem_mem hk⟩
 unfold sr;rw[(e i hi).1,(e j hj).1];exact decide_eq_decide.mpr (uB (e i hi).2 (e j hj).2)
theorem sy (I:aF X π σ H s) {vs:yez} {os:List O} {n:Nat} {R:PySem.Fin->Shared->Prop} (ho:s.heap.get? a=some (seqObj "list" vs.toArray n)) (fa:hJ X π H a) (nv:NV X.K H os vs) (hnd:os.Nodup) (h5:vs.length<=5) (hu:A.units+25<cLine)
 (h:∀(out:yez) (ks:List O) (h':Heap) (e:Nat),(∀b o,b≠a->s.heap.get? b=some o->h'.get? b=some o)->h'.get? a=some (seqObj "list" out.toArray e)->NV X.K H ks out->dC ks->ks.Perm os->R (.done (.ret .none)) { s with heap:=h' }):
 wpAny (model X.prog X.w) A (Builtin.«list.sort» ⟨[.ref a],[(Str.ofString "reverse",.bool true)]⟩) R E s:=by
 have hlen:=nv.length;rw[list_sort_rev];have ha:a<s.heap.objs.size:=ybv ho;refine wax (listItems_at ho rfl ?_);refine wax (listUpdate_at ho rfl ?_ (by rw[size_toArray,sizeLine_eq];lia) (zero_le _));obtain⟨e1,ho1⟩:∃e1,(s.heap.update a (Obj.mapSeq λ_=> #[])).get? a=some (seqObj "list" #[] e1):=⟨_,get?_update_seq ho (λ_=> #[])⟩;refine wax (seqEpoch_at ho1 rfl ?_);refine wax (wpAny_newTuple ?_ (by show vs.length<=_;rw[sizeLine_eq];lia));refine wax (wpAny_newList ?_ (zero_le _));refine wpAny_holding ?_;have sb:Heap.SameBut a s.heap (s.heap.update a (Obj.mapSeq λ_=> #[])):=Heap.SameBut.update ..;have keep6:∀b o,b≠a->s.heap.get? b=some o->(((s.heap.update a (Obj.mapSeq λ_=> #[])).push (seqObj "tuple" vs.toArray 0)).push (seqObj "list" #[] 0)).get? b=some o:=λb o hb e=>ybz _ (ybz _ ((sb.2 b hb).trans e));have ho6:(((s.heap.update a (Obj.mapSeq λ_=> #[])).push (seqObj "tuple" vs.toArray 0)).push (seqObj "list" #[] 0)).get? a=some (seqObj "list" #[] e1):=ybz _ (ybz _ ho1);show wpAny (model X.prog X.w) A _ R E { s with heap:=((s.heap.update a (Obj.mapSeq λ_=> #[])).push (seqObj "tuple" vs.toArray 0)).push (seqObj "list" #[] 0) };generalize ((s.heap.update a (Obj.mapSeq λ_=> #[])).push (seqObj "tuple" vs.toArray 0)).push (seqObj "list" #[] 0)=h6 at keep6 ho6 ⊢;obtain⟨f0,f1,f2,f3,f4,f5⟩:=fa;have I6:aF X π σ H { s with heap:=h6 }:=I.turned (t':=s.toks) keep6 f0 f1 f3 f4 f5;simp only[if_true];refine wax (wpAny_rule ?_)
 -- what is left once the order is known
 have fin:∀(out:yez) (ks:List O),NV X.K H ks out->dC ks->ks.Perm os->out.length=vs.length->wpAny (model X.prog X.w) A (Builtin.List.listUpdate (.ref a) λ_=>out.toArray) (λ_ s'=>∃h' e,s'={ s with heap:=h' }/\(∀b o,b≠a->s.heap.get? b=some o->h'.get? b=some o)/\h'.get? a=some (seqObj "list" out.toArray e)) E { s with heap:=h6 }:=λout ks _ _ _ hl=>by
  refine listUpdate_at ho6 rfl ?_ (zero_le _) (by rw[size_toArray,sizeLine_eq];lia);have sb2:Heap.SameBut a h6 (h6.update a (Obj.mapSeq λ_=>out.toArray)):=Heap.SameBut.update ..;exact⟨_,_,rfl,λb o hb e=>(sb2.2 b hb).trans (keep6 b o hb e),get?_update_seq ho6 λ_=>out.toArray⟩
 by_cases h2:vs.toArray.size<2
 ·rw[ycv h2,ycv h2];refine wax (way ?_);rw[StateT.run_pure];refine wax (way ?_);dsimp only;refine wax (seqEpoch_at ho6 rfl ?_);have eo:((arrOf (SortSt.mk' general' (vs.toArray.zip vs.toArray).reverse #[] 7 none)).map (·.2)).reverse=vs.toArray:=by
   show(((vs.toArray.zip vs.toArray).reverse).map (·.2)).reverse=vs.toArray;apply Array.toList_inj.mp;simp[List.map_snd_zip]
  rw[eo];have hd1:dC os:=by
   have:os.length<2:=by rw[hlen];simpa using h2
   match os,this with
   | [],_=>exact List.Pairwise.nil
   | [x],_=>exact List.pairwise_singleton _ _
  refine wax (wpAny_mono (fin vs os nv hd1 (List.Perm.refl _) rfl) (λ_ s' z9=>?_) λ_ _ x=>x);obtain⟨h',e,es,k1,k2⟩:=z9;subst es;simp only[bne_self_eq_false,Bool.false_eq_true,if_false];exact way (h vs os h' e k1 k2 nv hd1 (List.Perm.refl _))
 ·rw[ycw h2,ycw h2];have hn2:2<=vs.length:=by simpa using h2
  refine wax (yx I6 nv (by lia) λκ hκ=>?_);have nv':=nv.rev;have hl':os.reverse.length=vs.length:=by rw[length_reverse];exact hlen
  have hnd':os.reverse.Nodup:=by rw[List.Nodup,List.pairwise_reverse];exact hnd.imp λh=>h.symm
  obtain⟨ok,p,hp,hp1,hp2⟩:=vk hl' hn2 h5 hnd';obtain⟨dsc,prm⟩:=xH hl' hnd' hp1 hp2;have nvp:=(nv'.pick (p:=p) λi hi=>by rw[hl'];exact hp2 i hi).rev;have hlp:p.length=vs.length:=by have:=congrArg List.length hp1;simpa using this
  have hask:(kas_sort vs.length).kasWp (kas_cmp X.prog X.w A κ (pairsOf vs.reverse)) (λp' s'=>s'={ s with heap:=h6 }/\p'.toList=p) { s with heap:=h6 }:=by
   refine n5 (n:=vs.length) (lt:=sr (os.reverse.map (rk os.reverse))) (λi j hi hj C hC=>?_) _ ok ⟨rfl,hp.symm⟩;rw[←kas_ask_eq];unfold kas_ask;obtain⟨a1,g1,g2,g3⟩:=nv'.at i (by rw[hl'];exact hi);obtain⟨a2,k1,k2,k3⟩:=nv'.at j (by rw[hl'];exact hj);rw[g1,k1];rw[vo (by rw[hl'];exact hi) (by rw[hl'];exact hj)] at hC;exact yy I6 g3 g2 k2 hu hκ hC
  have est:SortSt.mk' κ (vs.toArray.zip vs.toArray).reverse #[] 7 none=kas_st κ (pairsOf vs.reverse) (List.toArray (List.range vs.length)):=by
   have e:=kas_range (pairsOf vs.reverse);rw[pairsOf_size,length_reverse] at e;rw[sx];show SortSt.mk' κ (pairsOf vs.reverse) #[] 7 none=SortSt.mk' κ ((List.toArray (List.range vs.length)).map (kas_item (pairsOf vs.reverse))) #[] 7 none;rw[e]
  have run:=kas_runs (E:=E) (κ:=κ) (it:=pairsOf vs.reverse) (Q:=λ_ st' s'=>s'={ s with heap:=h6 }/\(arrOf st').map (·.2)=(p.map λi=>vs.reverse.getD i Value.none).toArray/\failedOf st'=none) hn2 (by lia) (λp' st' s' a1 a2 a3 a4=>⟨a4.1,by
   apply Array.toList_inj.mp;rw[a2,Array.map_map,Array.toList_map,a4.2];exact List.map_congr_left λi _=>by show(kas_item (pairsOf vs.reverse) i).2=_;rw[kas_item_eq],a3⟩) hask
  rw[←est] at run;refine wax (wpAny_mono run ?_ λ_ _ e=>e);rintro⟨⟨⟩,st'⟩ s' ⟨rfl,har,hf⟩;dsimp only;refine wax (seqEpoch_at ho6 rfl ?_);rw[har,show(p.map λi=>vs.reverse.getD i Value.none).toArray.reverse=((p.map λi=>vs.reverse.getD i Value.none).reverse).toArray by simp];have prm2:=prm.trans (List.reverse_perm os);refine wax (wpAny_mono (fin _ _ nvp dsc prm2 (by rw[length_reverse,length_map,hlp])) (λ_ s' z9=>?_) λ_ _ x=>x);obtain⟨h',e,es,k1,k2⟩:=z9;subst es;rw[hf];simp only[bne_self_eq_false,Bool.false_eq_true,if_false];exact way (h _ _ h' e k1 k2 nvp dsc prm2)
end
section
variable {X:Cx} {π:List (Addr×Obj)} {σ:St} {H:Hp} {s:Shared}
theorem gh.ents {P:Program} {w:World} {K:yav}:∀{kvs:List (O×W)} {xs:List (O×Addr×Value)},gh K H kvs xs->(∀p,p∈kvs->p.1.dp<=3)->NV K H (kvs.map (·.1)) ((xs.map (entryOfKey (jS P w))).map (·.key))
 | _,_,.nil,_=> .nil
 | _,_,.cons rk _ _ t,h=> .cons rk (h _ yby) (gh.ents t λp hp=>h p (ybx _ hp))
theorem pR (hr:aB k X.A) (hc:X.calm=true) (I:aF X π σ H s) {d:Addr} {kvs:List (O×W)} (hD:kq X.prog X.w X.K kvs H d) (h5:kvs.length<=5)
 (h:∀(h1:Heap) (ks:List O) (out:yez) (h':Heap) (tk e:Nat),aF X π σ H { s with heap:=h1,toks:=tk }->(∀b o,h1.get? b=some o->h'.get? b=some o)->h'.get? h1.objs.size=some (seqObj "list" out.toArray e)->NV X.K H ks out->dC ks->ks.Perm (kvs.map (·.1))->Q (.ref h1.objs.size) { s with heap:=h',toks:=tk }):
 wpAny (model X.prog X.w) X.A (call (.builtin "sorted") [.ref d] [(Str.ofString "reverse",.bool true)]) Q E s:=by
 have hun:=hr.un;obtain⟨xs,eH,kv,ob,es,ep,m1,m2,m3,m4,_⟩:=hD.dict I;have hsz:es.size=kvs.length:=by rw[size_of_entries m4,kv.length]
 refine call_function_entry_kw kind_sorted plain_sorted entry_sorted (args_sorted_rev _ _) ?_;unfold Builtin.«sorted»;refine wax (m:=checkCount "sorted" 1 1 _) (way ?_);refine wax (kdu_collect (A:=X.A.in1) (rc (es:=es) (ep:=ep) hD.2.1) (I.ok.hd hc) ⟨ob,m1,m2,m3⟩ (by rw[hsz,sizeLine_eq];lia) λh1 tk acc k1 hacc=>?_);have hal:acc.toList=es.toList.map (·.key):=by
  apply List.ext_getElem?;intro i;rw[List.getElem?_map]
  by_cases hi:i<es.size
  ·have hi2:i<acc.size:=by rw[hacc.1];exact hi
   obtain⟨e,e1,e2⟩:=hacc.2 i acc[i] (Array.getElem?_eq_getElem hi2);rw[Array.getElem?_toList,Array.getElem?_toList,e1,Array.getElem?_eq_getElem hi2,e2]
   rfl
  ·rw[Array.getElem?_toList,Array.getElem?_toList,Array.getElem?_eq_none (by rw[hacc.1];lia),Array.getElem?_eq_none (by lia)]
   rfl
 have nv:NV X.K H (kvs.map (·.1)) acc.toList:=by
  rw[hal,m4];exact gh.ents kv hD.2.2.2.1
 have hlen:acc.toList.length<=5:=by rw[←nv.length,length_map];exact h5
 refine wax (wpAny_newList ?_ (by rw[sizeLine_eq];lia));have I1:aF X π σ H { s with heap:=h1,toks:=tk }:=I.kept k1;have fp:hJ X π H h1.objs.size:=I1.fpOk (ycx _) (I1.hok.fresh (ycx _));have I2:aF X π σ H { s with heap:=h1.push (seqObj "list" acc.toList.toArray 0),toks:=tk }:=I1.kept λb o e=>ybz _ e;refine wax (wpAny_holding (wpAny_call_entry_kw slot_list_sort ⟨_,ybw _ rfl,rfl⟩ entry_list_sort (sy I2 (ybw _ rfl) fp nv hD.2.2.1 hlen (by show X.A.units+1+1+25<cLine;lia) λout ks h' e k2 g2 nvk ds pm=>⟨_,rfl,?_⟩) (args_list_sort_rev _ _)));exact way ⟨_,rfl,h h1 ks out h' tk e I1 (λb o e=>k2 b o (ne_of_lt (ybv e)) (ybz _ e)) g2 nvk ds pm⟩
theorem NV.vals {K:yav}:∀{os:List O} {us:yez},NV K H os us->∃vs:List V,aS K H (os.map λo=> .tup (au o)) vs/\aU vs us
 | _,_,.nil=>⟨[],.nil,.nil⟩
 | _,_,.cons (a:=a) r _ t=>by
   obtain⟨vs,h1,h2⟩:=NV.vals t;exact⟨.ref a::vs,.cons r h1,.cons rfl h2⟩
def pS (P:Program) (w:World) (K:yav) (te:WE):WE:=λτ G q=>te τ G λx G1=>match x with
 | .ref a=>∃kvs,G1 a=some (qZ P w K kvs)/\kvs.length<=5/\∀(p:Addr) (ks:List O),G1 p=none->dC ks->ks.Perm (kvs.map (·.1))->q (.ref p) (aw G1 p (.lst (ks.map λo=> .tup (au o))))
 | _=>False
theorem iY:bootBuiltins "sorted"=some (.builtin "sorted"):=by decide+kernel
theorem vp {n:Nat} {te:WE} {j} {p pos kp cp:Pos} (hr:aB n X.A) (hc:X.calm=true) (hg:Gl X "sorted") (hm:X.mg "sorted"=none) (he:QE X e te)
 (hs1:starEach [e] X.env=(false,eval e X.env)::starEach [] X.env:=by rfl) (hb1:backTo pos (starEach [e] X.env)=(false,eval e X.env)::backTo pos (starEach [] X.env):=by rfl) (hpl:(backTo pos (starEach [e] X.env)).any (·.1)=false:=by rfl):
 QE X (.Call (.Name "sorted" p) [e] [⟨some "reverse",.Constant (.bool true) j cp,kp⟩] pos) (pS X.prog X.w X.K te):=by
 rintro π s σ H Q I ⟨τ,G,q,hs,hgG,ht,hQ⟩;refine wpAny_Call_Name_kw (eE I hg hm iY ?_);have go:=(cA he pa_nil hs1) pos π s σ H (λvs H1=>∃v w G1,vs=[v]/\aR H H1/\bK X.K H1 w v/\aP X.K H1 G1/\(match w with
  | .ref a=>∃kvs,G1 a=some (qZ X.prog X.w X.K kvs)/\kvs.length<=5/\∀(p:Addr) (ks:List O),G1 p=none->dC ks->ks.Perm (kvs.map (·.1))->q (.ref p) (aw G1 p (.lst (ks.map λo=> .tup (au o))))
  | _=>False)) I ⟨τ,G,_,hs,hgG,ht,λv H1 w G1 t1 r1 g1 q1=>⟨v,w,G1,rfl,t1,r1,g1,q1⟩⟩
 refine callWith_kw (bU go λus s1 ⟨vs,H1,I1,rv,v,w,G1,ev,t1,rw1,g1,hw⟩=>kws_cons ?_) hb1 hpl rfl rfl;subst ev;refine bU (sL (X:=X) (b:=true) (j:=j) (pos:=cp) π s1 σ H1 (λv H2=>v=.bl true/\H2=H1) I1 ⟨rfl,rfl⟩) λu2 s2 ⟨v2,H2,I2,rv2,e1,e2⟩=>kws_nil ?_;subst e1 e2;cases (show u2=Value.bool true from rv2);show wpAny _ _ (call (.builtin "sorted") us [("reverse",.bool true)]) _ _ s2;split at hw
 ·rename_i a;obtain⟨kvs,e,h5,h⟩:=hw;cases rw1;obtain⟨u,rfl,ru⟩:=e9 rv;cases (show u=Value.ref a from ru);refine pR hr hc I2 (g1 a _ e).1 h5 λh1 ks out h' tk ee I3 k3 g3 nvk ds pm=>?_;obtain⟨vs,r1,r2⟩:=nvk.vals;have hl:ks.length<=5:=by have:=pm.length_eq;rw[length_map] at this;lia
  have hp:=I3.hok.fresh (ycx h1.objs.size);have hvl:vs.length<=sizeLine:=by rw[←r1.length,length_map,sizeLine_eq];lia
  refine⟨.ref h1.objs.size,_,I3.laid (t':=tk) k3 (ycx _) (show bG X.prog X.w _ h' _ (.lst vs) from ⟨hvl,out,ee,r2,g3⟩),rfl,?_⟩;exact hQ _ _ _ _ (t1.trans (aR.new hp _)) (.ref _) (g1.put (aR.new hp _) r1 (by rw[length_map];lia)) (h _ ks (g1.fresh hp) ds pm)
 ·exact hw.elim
end
section
variable {n:Nat} {σ:Nat->Nat}
structure Gd (n:Nat) (σ:Nat->Nat) (p:Array Nat):Prop where
 sz:p.size=n
 lt:∀k,k<n->p.getD k 0<n
 inj:∀j k,j<n->k<n->σ (p.getD j 0)=σ (p.getD k 0)->j=k
 pm:p.Perm (List.range n).toArray
noncomputable def vv (σ:Nat->Nat) (p:Array Nat) (k:Nat):Nat:=σ (p.getD k 0)
end
section
variable {X:Cx} {π:List (Addr×Obj)} {σ:St} {H:Hp} {s:Shared}
end
section
variable {X:Cx} {π:List (Addr×Obj)} {σ:St} {H:Hp} {s:Shared}
def pT (tv to ti:WE):WS:=λd τ G=>tv τ G λw G1=>to τ G1 λx G2=>ti τ G2 λy G3=>∃a z kvs,x=.ref a/\y=.int z/\G3 a=some (.dic kvs)/\kvs.length+1<=100000/\d.nx τ (aw G3 a (.dic (cB kvs (.inl z) w)))
theorem vq {o i value:Expr} {to ti tv:WE} {pos pos':Pos} (hv:QE X value tv) (ho:QE X o to) (hi:QE X i ti) (hs:swapsWith value (some (.Subscript o i pos')) pos.line X.env=pure false:=by rfl):QS X (.Assign [.Subscript o i pos'] value pos) (pT tv to ti):=nR Sum.inl hv ho hi hs
def vt (to tk td:WE):WE:=λτ G q=>to τ G λx G1=>match x with
 | .ref a=>(∃kvs,G1 a=some (.dic kvs))/\tk τ G1 λy G2=>td τ G2 λd G3=>∃z kvs,y=.int z/\G3 a=some (.dic kvs)/\q ((bT kvs (.inl z)).getD d) G3
 | _=>False
theorem vw {o k e:Expr} {to tk te:WE} {apos cpos:Pos} (ho:QE X o to) (hk:QE X k tk) (he:QE X e te)
 (hbase:attributeBase o "get" X.env (eval o X.env)=eval o X.env:=by rfl)
 (hfew:((backTo cpos (starEach [k,e] X.env)).all (λx=>!x.1)&&(backToKw cpos (keywordEach [] X.env)).all (λx=>x.1.isSome)
   &&decide (([k,e]:List Expr).length+([]:List Keyword).length+(if ([]:List Keyword).isEmpty then 0 else 1)<30))=true:=by rfl)
 (hline:(apos.endLine==cpos.line)=true:=by rfl) (hs:starEach [k,e] X.env=(false,eval k X.env)::starEach [e] X.env:=by rfl) (hs2:starEach [e] X.env=(false,eval e X.env)::starEach [] X.env:=by rfl) (hpl:(backTo cpos (starEach [e] X.env)).any (·.1)=false:=by rfl):
 QE X (.Call (.Attribute o "get" apos) [k,e] [] cpos) (vt to tk te):=
 nV Sum.inl ho hk he hbase hfew hline hs hs2 hpl
def sA:W2:=λx y G q=>match x,y with
 | .ref a,.int z=>∃kvs w,G a=some (.dic kvs)/\bT kvs (.inl z)=some w/\q w G
 | _,_=>False
theorem zF:wk X sA:=by
 rintro value slice π s σ H x y v u Q I rx ry ⟨wx,wy,G,q,r1,r2,g,h,hQ⟩ hsl;unfold sA at h;split at h
 ·rename_i a z;obtain⟨kvs,w,hd,hv,h⟩:=h;cases r1;cases r2;cases rx;obtain⟨_,us,h2,n,rr⟩:=g a _ hd;have dp:=DP.of n rr;obtain⟨hl,hm,vs,rel,dd⟩:=kL I.hok h2;rcases dp.val (.inl z) with⟨e,_⟩ | ⟨w',v',e,e',r⟩
  ·rw[e] at hv;cases hv
  ·rw[e] at hv;cases hv;obtain⟨u',hw,ru⟩:=fE.some_of (v:=v') (o:=valueAt vs (.inl z)) (by rw[←e'];exact rel.val (.inl z));exact tail_any dd.typeIs PySem.F.slot_dict_getitem.lookup (wpAny_getItem_of (kJ (P:=X.prog) (w:=X.w) (k:= .inl z) ry) dd.mapOf hw ⟨v',H,I.tok _,ru,hQ _ H _ G (aR.refl H) r g h⟩) hsl
 ·exact h.elim
noncomputable def fj:aK->Int
 | .inl n=>n
 | .inr _=>0
theorem jV {P:Program} {w:World}:∀{es:List DictEntry} {vs:List (aK×Value)},Pairs (aV P w) es vs->(∀p,p∈vs->∃n,p.1=.inl n)->IntsAre (es.map (·.key)) (vs.map λp=>fj p.1)
 | _,_,.nil,_=> .nil
 | _,_,.cons (e:=e) (kv:=kv) h1 h2 t,hk=>by
   obtain⟨n,hn⟩:=hk kv yby;have h1:iJ kv.1 e.key=true:=h1;rcases bD h1 with⟨i,tk,e1,e2⟩ | ⟨x,tk,e1,e2⟩
   ·rw[map_cons,map_cons,e2,e1];exact .cons i tk (jV t λp hp=>hk p (ybx _ hp))
   ·rw[hn] at e1;cases e1
theorem pU (hc:X.calm=true) (I:aF X π σ H s) {d:Addr} {us:List (aK×V)} (hD:H d=some (.dK us)) (hk:∀p,p∈us->∃n,p.1=.inl n) (h5:us.length<=60)
 (h:∀(h1:Heap) (ns:List Int) (out:yez) (h':Heap) (tk e:Nat),aF X π σ H { s with heap:=h1,toks:=tk }->(∀b o,h1.get? b=some o->h'.get? b=some o)->h'.get? h1.objs.size=some (seqObj "list" out.toArray e)->IntsAre out ns->ns.Pairwise (·≥ ·)->ns.Perm (us.map λp=>fj p.1)->Q (.ref h1.objs.size) { s with heap:=h',toks:=tk }):
 wpAny (model X.prog X.w) X.A (call (.builtin "sorted") [.ref d] [(Str.ofString "reverse",.bool true)]) Q E s:=by
 obtain⟨hz,hsm,vs,rel,ob,es,ep,m1,m2,m3,m4,m5,m6⟩:=kL I.hok hD;have hkeys:vs.map (·.1)=us.map (·.1):=rel.keys.symm;have hsz:es.size=us.length:=by
  have h1:=m5.length;have h2:=congrArg List.length hkeys;simp only[length_map] at h2;rw[←h2,←h1,Array.length_toList]
 refine call_function_entry_kw kind_sorted plain_sorted entry_sorted (args_sorted_rev _ _) ?_;unfold Builtin.«sorted»;refine wax (m:=checkCount "sorted" 1 1 _) (way ?_);refine wax (kdu_collect (A:=X.A.in1) (rc (es:=es) (ep:=ep) hsm) (I.ok.hd hc) ⟨ob,m1,m2,m3⟩ (by rw[hsz,sizeLine_eq];assumption) λh1 tk acc k1 hacc=>?_);have hal:acc.toList=es.toList.map (·.key):=by
  apply List.ext_getElem?;intro i;rw[List.getElem?_map]
  by_cases hi:i<es.size
  ·have hi2:i<acc.size:=by rw[hacc.1];exact hi
   obtain⟨e,e1,e2⟩:=hacc.2 i acc[i] (Array.getElem?_eq_getElem hi2);rw[Array.getElem?_toList,Array.getElem?_toList,e1,Array.getElem?_eq_getElem hi2,e2]
   rfl
  ·rw[Array.getElem?_toList,Array.getElem?_toList,Array.getElem?_eq_none (by rw[hacc.1];lia),Array.getElem?_eq_none (by lia)]
   rfl
 have hkv:∀p,p∈vs->∃n,p.1=.inl n:=λp hp=>by
  have:p.1∈us.map (·.1):=by rw[←hkeys];exact mem_map.mpr ⟨p,hp,rfl⟩
  obtain⟨q,hq,e⟩:=mem_map.mp this;rw[←e];exact hk q hq
 have hints:IntsAre acc.toList (us.map λp=>fj p.1):=by
  have:=jV m5 hkv;rw[←hal] at this;have e:(vs.map λp=>fj p.1)=us.map λp=>fj p.1:=by
   have:(vs.map (·.1)).map fj=(us.map (·.1)).map fj:=by rw[hkeys]
   rw[map_map,map_map] at this;exact this
  rw[e] at this;exact this
 have hlen:acc.toList.length<64:=by rw[hal,length_map,Array.length_toList,hsz];lia
 refine wax (wpAny_newList ?_ (by rw[sizeLine_eq];lia));have I1:aF X π σ H { s with heap:=h1,toks:=tk }:=I.kept k1;refine wax (wpAny_holding (wpAny_call_entry_kw slot_list_sort ⟨_,ybw _ rfl,rfl⟩ entry_list_sort (list_sort_tree_rev (s:={ s with heap:=h1.push (seqObj "list" acc.toList.toArray 0),toks:=tk }) (ybw _ rfl) hints hlen λout ns a1 a2 a3=>⟨_,rfl,?_⟩) (args_list_sort_rev _ _)));have a3:ns.Pairwise (·≥ ·):=a3;have ho:=ybw (h:=h1) (o:=seqObj "list" acc.toList.toArray 0) rfl;have s1:=Heap.SameBut.update (h1.push (seqObj "list" acc.toList.toArray 0)) h1.objs.size (Obj.mapSeq λ_=>(#[]:Array Value));obtain⟨e1,ho1⟩:∃e1,((h1.push (seqObj "list" acc.toList.toArray 0)).update h1.objs.size (Obj.mapSeq λ_=>(#[]:Array Value))).get? h1.objs.size=some (seqObj "list" #[] e1):=⟨_,get?_update_seq ho λ_=> #[]⟩;have ho2:=ybz (seqObj "list" #[] 0) (ybz (seqObj "tuple" acc.toList.toArray 0) ho1);have s2:=Heap.SameBut.update ((((h1.push (seqObj "list" acc.toList.toArray 0)).update h1.objs.size (Obj.mapSeq λ_=>(#[]:Array Value))).push (seqObj "tuple" acc.toList.toArray 0)).push (seqObj "list" #[] 0)) h1.objs.size (Obj.mapSeq λ_=>out);obtain⟨e3,ho3⟩:∃e3,(((((h1.push (seqObj "list" acc.toList.toArray 0)).update h1.objs.size (Obj.mapSeq λ_=>(#[]:Array Value))).push (seqObj "tuple" acc.toList.toArray 0)).push (seqObj "list" #[] 0)).update h1.objs.size (Obj.mapSeq λ_=>out)).get? h1.objs.size=some (seqObj "list" out e3):=⟨_,get?_update_seq ho2 λ_=>out⟩;refine way ⟨_,rfl,h h1 ns out.toList _ tk e3 I1 (λb o e=>?_) ?_ a1 a3 a2⟩
 ·have hb:b≠h1.objs.size:=ne_of_lt (ybv e);exact(s2.2 b hb).trans (ybz _ (ybz _ ((s1.2 b hb).trans (ybz _ e))))
 ·rw[Array.toArray_toList];exact ho3
theorem lj {K:yav}:∀{us:yez} {ns:List Int},IntsAre us ns->∃vs:List V,aS K H (ns.map W.int) vs/\aU vs us
 | _,_,.nil=>⟨[],.nil,.nil⟩
 | _,_,.cons n t h=>by
   obtain⟨vs,h1,h2⟩:=lj h;exact⟨.int n::vs,.cons (.int n) h1,.cons ⟨t,rfl⟩ h2⟩
def pV (te:WE):WE:=λτ G q=>te τ G λx G1=>match x with
 | .ref a=>∃kvs,G1 a=some (.dic kvs)/\kvs.length<=60/\(∀p,p∈kvs->∃n,p.1=.inl n)/\∀(p:Addr) (ns:List Int),G1 p=none->ns.Pairwise (·≥ ·)->ns.Perm (kvs.map λp=>fj p.1)->q (.ref p) (aw G1 p (.lst (ns.map W.int)))
 | _=>False
theorem vz {te:WE} {j} {p pos kp cp:Pos} (hc:X.calm=true) (hg:Gl X "sorted") (hm:X.mg "sorted"=none) (he:QE X e te)
 (hs1:starEach [e] X.env=(false,eval e X.env)::starEach [] X.env:=by rfl) (hb1:backTo pos (starEach [e] X.env)=(false,eval e X.env)::backTo pos (starEach [] X.env):=by rfl) (hpl:(backTo pos (starEach [e] X.env)).any (·.1)=false:=by rfl):
 QE X (.Call (.Name "sorted" p) [e] [⟨some "reverse",.Constant (.bool true) j cp,kp⟩] pos) (pV te):=by
 rintro π s σ H Q I ⟨τ,G,q,hs,hgG,ht,hQ⟩;refine wpAny_Call_Name_kw (eE I hg hm iY ?_);have go:=(cA he pa_nil hs1) pos π s σ H (λvs H1=>∃v w G1,vs=[v]/\aR H H1/\bK X.K H1 w v/\aP X.K H1 G1/\(match w with
  | .ref a=>∃kvs,G1 a=some (.dic kvs)/\kvs.length<=60/\(∀p,p∈kvs->∃n,p.1=.inl n)/\∀(p:Addr) (ns:List Int),G1 p=none->ns.Pairwise (·≥ ·)->ns.Perm (kvs.map λp=>fj p.1)->q (.ref p) (aw G1 p (.lst (ns.map W.int)))
  | _=>False)) I ⟨τ,G,_,hs,hgG,ht,λv H1 w G1 t1 r1 g1 q1=>⟨v,w,G1,rfl,t1,r1,g1,q1⟩⟩
 refine callWith_kw (bU go λus s1 ⟨vs,H1,I1,rv,v,w,G1,ev,t1,rw1,g1,hw⟩=>kws_cons ?_) hb1 hpl rfl rfl;subst ev;refine bU (sL (X:=X) (b:=true) (j:=j) (pos:=cp) π s1 σ H1 (λv H2=>v=.bl true/\H2=H1) I1 ⟨rfl,rfl⟩) λu2 s2 ⟨v2,H2,I2,rv2,e1,e2⟩=>kws_nil ?_;subst e1 e2;cases (show u2=Value.bool true from rv2);show wpAny _ _ (call (.builtin "sorted") us [("reverse",.bool true)]) _ _ s2;split at hw
 ·rename_i a;obtain⟨kvs,e,h5,hk,h⟩:=hw;cases rw1;obtain⟨u,rfl,ru⟩:=e9 rv;cases (show u=Value.ref a from ru);obtain⟨_,us,h2,n,rr⟩:=g1 a _ e;have hul:us.length=kvs.length:=by have:=congrArg List.length n;simpa using this
  have hk':∀p,p∈us->∃n,p.1=.inl n:=λp hp=>by
   have:p.1∈kvs.map (·.1):=by rw[←n];exact mem_map.mpr ⟨p,hp,rfl⟩
   obtain⟨q,hq,e⟩:=mem_map.mp this;rw[←e];exact hk q hq
  have ek:(us.map λp=>fj p.1)=kvs.map λp=>fj p.1:=by
   have:(us.map (·.1)).map fj=(kvs.map (·.1)).map fj:=by rw[n]
   rw[map_map,map_map] at this;exact this
  refine pU hc I2 h2 hk' (by lia) λh1 ns out h' tk ee I3 k3 g3 hints ds pm=>?_;obtain⟨vs,r1,r2⟩:=lj (K:=X.K) (H:=H2) hints;have hl:ns.length<=60:=by have:=pm.length_eq;rw[length_map] at this;lia
  have hp:=I3.hok.fresh (ycx h1.objs.size);have hvl:vs.length<=sizeLine:=by rw[←r1.length,length_map,sizeLine_eq];lia
  refine⟨.ref h1.objs.size,_,I3.laid (t':=tk) k3 (ycx _) (show bG X.prog X.w _ h' _ (.lst vs) from ⟨hvl,out,ee,r2,g3⟩),rfl,?_⟩;rw[ek] at pm;exact hQ _ _ _ _ (t1.trans (aR.new hp _)) (.ref _) (g1.put (aR.new hp _) r1 (by rw[length_map];lia)) (h _ ns (g1.fresh hp) ds pm)
 ·exact hw.elim
end
open PySem PySem.Spec PyProof.Rows
section
variable {G:Gp} {q:WK} {a b:Addr} {i j:Int} {xs ys:List W} {z z':PySem.Str} {ns:List Int} {y:W} {c d:Bool}
theorem Hs:nP (.int i) (.int j) G q=q (.int (i+j)) G:=rfl
theorem Ht:nP (.tup xs) (.tup ys) G q=(xs.length+ys.length<=100000/\q (.tup (xs++ys)) G):=rfl
theorem Hu:nP (.ref a) (.ref b) G q=(∃xs ys,G a=some (.lst xs)/\G b=some (.lst ys)/\xs.length+ys.length<=100000/\∀p,G p=none->q (.ref p) (aw G p (.lst (xs++ys)))):=rfl
theorem Hv:uP (.int i) (.int j) G q=(kZ i j/\q (.int (i*j)) G):=rfl
theorem Hw:jL (.ref a) (.str z) G q=(∃kvs w,GD G a kvs/\bT kvs (.inr z)=some w/\q w G):=rfl
theorem GX:jL (.tup xs) (.int i) G q=(∃w,ef xs i=some w/\q w G):=rfl
theorem Hx:jL (.scr ns) (.int i) G q=(∃n,ef ns i=some n/\q (.int n) G):=rfl
theorem Hy:jL (.ref a) (.int i) G q=(∃xs w,G a=some (.lst xs)/\ef xs i=some w/\q w G):=rfl
theorem Hz:iE (.ref a) (.ref b) G q=(∃r,Bo G a b r/\q (.bl r) G):=rfl
theorem HA:iE (.tup xs) y G q=((W.tup xs).flat=true/\y.flat=true/\(W.tup xs).dep<=150/\q (.bl ((W.tup xs).eq y)) G):=rfl
theorem HB:iE (.int i) y G q=((W.int i).flat=true/\y.flat=true/\(W.int i).dep<=150/\q (.bl ((W.int i).eq y)) G):=rfl
theorem GY:iE (.str z) y G q=((W.str z).flat=true/\y.flat=true/\(W.str z).dep<=150/\q (.bl ((W.str z).eq y)) G):=rfl
theorem HC:iE (.bl c) y G q=((W.bl c).flat=true/\y.flat=true/\(W.bl c).dep<=150/\q (.bl ((W.bl c).eq y)) G):=rfl
theorem HD:iE .non y G q=(W.non.flat=true/\y.flat=true/\W.non.dep<=150/\q (.bl (W.non.eq y)) G):=rfl
theorem HE:nZ (.ref a) (.ref b) G q=(∃r,Bo G a b r/\q (.bl (!r)) G):=rfl
theorem HF:nZ (.tup xs) y G q=((W.tup xs).flat=true/\y.flat=true/\(W.tup xs).dep<=150/\q (.bl (!(W.tup xs).eq y)) G):=rfl
theorem HG:nZ (.int i) y G q=((W.int i).flat=true/\y.flat=true/\(W.int i).dep<=150/\q (.bl (!(W.int i).eq y)) G):=rfl
theorem HH:nZ (.str z) y G q=((W.str z).flat=true/\y.flat=true/\(W.str z).dep<=150/\q (.bl (!(W.str z).eq y)) G):=rfl
theorem HI:nZ (.bl c) y G q=((W.bl c).flat=true/\y.flat=true/\(W.bl c).dep<=150/\q (.bl (!(W.bl c).eq y)) G):=rfl
theorem HJ:nZ .non y G q=(W.non.flat=true/\y.flat=true/\W.non.dep<=150/\q (.bl (!W.non.eq y)) G):=rfl
theorem HK:xh (.int i) (.int j) G q=q (.bl (decide (i<j))) G:=rfl
theorem HL:xh (.tup xs) (.tup ys) G q=(W.flats xs=true/\W.flats ys=true/\W.deps xs<=149/\W.ords xs ys=true/\q (.bl (W.lts xs ys)) G):=rfl
theorem HM:yZ (.int i) (.int j) G q=q (.int (i-j)) G:=rfl
theorem HN {C:Int->Int->Prop} {f:Int->Int->W}:rW C f (.int i) (.int j) G q=(C i j/\q (f i j) G):=rfl
theorem HP {f:Int->Int->W}:kM f (.int i) (.int j) G q=q (f i j) G:=rfl
theorem HQ:nU [.ref a] G q=(∃n:Nat,yh G a n/\q (.int n) G):=rfl
theorem HR:nU [.tup xs] G q=q (.int xs.length) G:=rfl
theorem HS:nU [.scr ns] G q=q (.int ns.length) G:=rfl
theorem HU:Fc (.int i) (.int j) G q=q (.bl (decide (i≥j))) G:=rfl
theorem HV:iE (.ref a) (.int i) G q=((W.ref a).flat=true/\(W.int i).flat=true/\(W.ref a).dep<=150/\q (.bl ((W.ref a).eq (.int i))) G):=rfl
end
section
variable {τ:cV} {G:Gp} {d:du} {i:Nat} {k:Int} {a b:Str} {ws:List W} {t u v:WS} {c:WT}
theorem pW {q:Bool->Gp->Prop} (h1:τ[i]?=some (some (.tup ws))) (h2:ef ws k=some (.str a)) (e:Bool) (h3:decide (a=b)=e) (h:q e G):gv (o0 iE (o0 jL (gl i) (wC (.int k))) (wC (.str b))) τ G q:=by
 subst h3;simp only[gv,o0,gl,h1,wC,GX];refine⟨_,h2,?_⟩;simp only[GY];refine⟨rfl,rfl,zero_le _,?_⟩;rw[show(W.str a).eq (.str b)=decide (a=b) by
  simp only[W.eq];rw[Bool.eq_iff_iff,beq_iff_eq,decide_eq_true_eq]]
 exact h
theorem vA (h1:τ[i]?=some (some (.tup ws))) (h2:ef ws k=some (.str a)) (h3:decide (a=b)=false) (h:u d τ G):tK (AB (gv (o0 iE (o0 jL (gl i) (wC (.int k))) (wC (.str b)))) t qi) u d τ G:=
 pW h1 h2 false h3 h
theorem vB (h1:τ[i]?=some (some (.tup ws))) (h2:ef ws k=some (.str a)) (h3:decide (a=b)=true) (h:t d τ G):AB (gv (o0 iE (o0 jL (gl i) (wC (.int k))) (wC (.str b)))) t v d τ G:=
 pW h1 h2 true h3 h
theorem vC (h1:τ[i]?=some (some (.tup ws))) (h2:ef ws k=some (.str a)) (h3:decide (a=b)=false) (h:u d τ G):tK (AB (AA (gv (o0 iE (o0 jL (gl i) (wC (.int k))) (wC (.str b)))) c) t qi) u d τ G:=
 pW h1 h2 false h3 h
end
theorem dG {x qual:Str} {f:Addr} {N ps:List Str} {sp:bS} (F:cz K x qual st f fd) (S:bV N ps (am st)) (len:∀ws G q e,sp ws G q e->ws.length=ps.length) (hb:∀(cdv:Value) (A:Around) (outer:List Env) (s:Shared) (H:Hp) (E:XK),N.Nodup->aB k (A.deeper (envOfC qual (am st) s.heap.objs.size f cdv))->∃t,mX (dL tH P w K mg base N qual (am st) f cdv A outer s H E).nox (ap st) t/\∀(ws:List W) (G:Gp) (q:WK) (e:WX),sp ws G q e->t { nx:=λ_ G1=>∃G0,aE G0 G1/\q .non G0,rt:=λw G1=>∃G0,aE G0 G1/\q w G0 } (il N ws) G):cf P w K mg base (k+1) f fd ps sp:=CD F S len λ_ _ _ _ _ _ hr=>hb _ _ _ _ _ _ S.nd hr
end L2
open PySem PySem.Spec PyProof.Rows L2 Nm
seal QE QT QW QA QS mX QG Cu QI QO y9 gY wk eg
seal PySem.compareOp PySem.binaryOp PySem.unaryOp
set_option bootstrap.genMatcherCode true
set_option compiler.extract_closed false
local macro_rules | `(tactic| walk_at "s") => `(tactic| exact ⟨rfl, rfl, rfl, by decide +kernel, rfl, by decide +kernel, by decide +kernel⟩)
local macro_rules | `(tactic| walk_at "l") => `(tactic| (intro ws G q e h; repeat (first | (obtain ⟨h1, _⟩ := h; subst h1; rfl) | obtain ⟨_, h⟩ := h)))
local macro_rules | `(tactic| walk_at "k0") => `(tactic| first | refine vA (i := 0) (k := 0) rfl rfl (by decide +kernel) ?_ | refine vC (i := 0) (k := 0) rfl rfl (by decide +kernel) ?_)
local macro_rules | `(tactic| walk_at "t0") => `(tactic| refine vB (i := 0) (k := 0) rfl rfl (by decide +kernel) ?_)
local macro_rules | `(tactic| walk_at "k2") => `(tactic| first | refine vA (i := 2) (k := 0) rfl rfl (by decide +kernel) ?_ | refine vC (i := 2) (k := 0) rfl rfl (by decide +kernel) ?_)
local macro_rules | `(tactic| walk_at "t2") => `(tactic| refine vB (i := 2) (k := 0) rfl rfl (by decide +kernel) ?_)
local macro_rules | `(tactic| walk_at "R") => `(tactic| simp (config := { failIfUnchanged := false, maxSteps := 2000000 }) only [Dr, AT, AS, uj, xB, zn, u7, Bs, pS, yq, o8, zm, Bn, zk, zB, zC, zD, pN, DA, pO, zE, Dy, yc, zA, AO, Dm, zd, qy, kP, AO, nA, il, tK, AB, gv, o0, gl, wC, CU, CC, qi, wT, tY, ud, zc, uh, uf, cG, gE, Em, qh, lK, CA, CB, CM, AA, GK, Cv, yU, Cw, yV, Cz, yW, y7, ql, CS, CQ, Dk, tR, CP, kN, mZ, gz, mY, AE, wY, tN, qj, AH, uc, AJ, List.map_cons, List.map_nil, List.length_cons, List.length_nil, List.replicate_succ, List.replicate_zero, List.cons_append, List.nil_append, List.append_nil, List.getElem?_cons_zero, List.getElem?_cons_succ, List.set_cons_zero, List.set_cons_succ, Nat.reduceAdd, Nat.reduceSub, Nat.zero_add, Nat.add_zero, Nat.sub_self, Nat.sub_zero, Fh, Fi, Fk, Option.some.injEq, exists_eq_left', uJ, xM, pH, uK, xN, Fj, decide_eq_true_eq, Bool.not_eq_true', decide_eq_false_iff_not, true_and, Nat.zero_le, A6, kZ, qr, tW, wG, Cb, Int.reduceLE, Int.reduceLT, Nat.reducePow, Nat.reduceLT, Nat.reduceLeDiff, Int.reduceToNat, Int.reducePow, Int.reduceNeg, and_true, or_true, true_or, and_self, xQ, A7, xR, xS, xT, xU, xV, xW, xX, xY, xZ, x4, x5, x6, x8, Int.toNat_natCast, if_true, if_false, Bool.false_eq_true, Bool.true_eq_false, Bool.not_true, Bool.not_false, eq_self, not_true_eq_false, not_false_eq_true, A8, A9, Ba, Bb, Hs, Ht, Hu, Hv, Hw, GX, Hx, Hy, Hz, HA, HB, GY, HC, HD, HE, HF, HG, HH, HI, HJ, HK, HL, HM, HN, HP, HQ, HR, HS, HU, HV])
set_option hygiene false
local macro_rules | `(tactic| walk_at "m0") => `(tactic| (refine dG (k:=3) F (N:=["self","boxes"]) (by walk_at "s") (by walk_at "l") λ_ _ _ _ _ _ nd hr=>?_;apply aN))
local macro_rules | `(tactic| walk_at "m1") => `(tactic| (walk_at "R";refine⟨_,h,iH (n:=1) h hT hS ht hdd (by lia) (λ_=>rfl) λxs G5 le5 hX hts pm _ hpm=>?_⟩;have gm6:=af (G:=G5) (a:=pm) (g:=GO.lst (refs xs));have le6:=le5.trans (aE.new (g:=GO.lst (refs xs)) hpm);have hX6:Rows C (aw G5 pm (GO.lst (refs xs))) xs:=hX.mono (aE.ins (aE.new hpm));have fpm:=bc le5 hpm;generalize aw G5 pm (GO.lst (refs xs))=G6 at gm6 le6 hX6 ⊢;have ers:aT.of (xs.map (·.2))=rs:=by rw[show xs.map (·.2)=bW ps from hts];exact er))
local macro_rules | `(tactic| walk_at "m2") => `(tactic| (refine dG (k:=5) F (N:=["self"]) (by walk_at "s") (by walk_at "l") λ_ _ _ _ _ _ nd hr=>?_;apply aN))
set_option hygiene true
local macro_rules | `(tactic| walk_at "s") => `(tactic| exact ⟨rfl, rfl, rfl, by decide +kernel, rfl, by decide +kernel, by decide +kernel⟩)
namespace Lw
open PySem PySem.Spec PyProof.Rows L2 Nm
set_option hygiene false
local macro_rules | `(tactic| walk_at "a") => `(tactic| (subst hU; refine aJ fun U hU => ?_; walk_at "R"))
local macro_rules | `(tactic| walk_at "a0") => `(tactic| (refine aJ fun U hU => ?_; walk_at "R"))
local macro_rules | `(tactic| walk_at "b") => `(tactic| (subst hU1; refine aJ fun U1 hU1 => ?_; walk_at "R"))
set_option hygiene true
noncomputable def aQ (i:Nat):Stmt:=PySem.Challenge.pw_hydrahouse_k63_whiles.main.body.getD i (.Pass ⟨0,0,0,0⟩)
noncomputable def bf (i j:Nat):Stmt:=(Fd (aQ i)).getD j (.Pass ⟨0,0,0,0⟩)
structure Txt (K:yav) (mg:yew):Prop where
 d_is_whole:xi K mg "is_whole" (aQ 5) ["thing","least"] [.int 0]
 d_whole:Df K mg "whole" (aQ 6) ["n"]
 d_endless:Df K mg "endless" (aQ 7) []
 d_raised:xi K mg "raised" (aQ 8) ["exponent","times"] [.int 1]
 d_compare:Df K mg "compare" (aQ 9) ["a","b"]
 d_whole_part:Df K mg "whole_part" (aQ 10) ["a"]
 d_without_whole:Df K mg "without_whole" (aQ 11) ["a"]
 d_plus:Df K mg "plus" (aQ 13) ["a","b"]
 d_parts_above:Df K mg "parts_above" (aQ 14) ["a","exponent"]
 d_total:Df K mg "total" (aQ 15) ["some"]
 d_times:Df K mg "times" (aQ 17) ["a","b"]
 d_weight_of:Df K mg "weight_of" (aQ 19) ["things"]
 d_held:Df K mg "held" (aQ 20) ["boxes","box"]
 d_by_exponent:Df K mg "by_exponent" (aQ 30) ["marks"]
 d_trace:xi K mg "trace" (aQ 32) ["rows","boxes","most"] [.int 50]
 d_put_ahead:Df K mg "put_ahead" (aQ 33) ["left","things"]
 d_weight_left:Df K mg "weight_left" (aQ 34) ["left"]
 d_told:Df K mg "told" (aQ 35) ["left","boxes"]
 d__law_cell_at:Df K mg "_law_cell_at" (aQ 37) ["_law_script","_law_k"]
 d__law_whole:Df K mg "_law_whole" (aQ 38) ["_law_found"]
 d__law_amount:Df K mg "_law_amount" (aQ 39) ["_law_cell"]
 d__law_deep:Df K mg "_law_deep" (aQ 40) ["_law_thing"]
 d__law_plain:Df K mg "_law_plain" (aQ 41) ["_law_cell","_law_names"]
 d__law_marks:Df K mg "_law_marks" (aQ 42) ["_law_cell","_law_box","_law_names"]
 d__law_rows:Df K mg "_law_rows" (aQ 43) ["_law_cells","_law_names"]
 d__law_made:Df K mg "_law_made" (aQ 44) ["_law_thing"]
 d__law_done:Df K mg "_law_done" (aQ 45) ["_law_thing","_law_having"]
 d__law_measured:Df K mg "_law_measured" (aQ 46) ["_law_marks_here","_law_having"]
 d__law_below:Df K mg "_law_below" (aQ 47) ["_law_one","_law_other"]
 d__law_step:Df K mg "_law_step" (aQ 48) ["_law_things","_law_having"]
 d__law_shown:Df K mg "_law_shown" (aQ 49) ["_law_having"]
 d__law_run:Df K mg "_law_run" (aQ 50) ["_law_rows_here","_law_boxes","_law_most"]
 d__law_as_due:Df K mg "_law_as_due" (aQ 51) ["_law_made_here","_law_boxes","_law_most","_law_due"]
 k_Set:∃C:Addr,mg "Set"=some (.ref C)/\dr K C/\aD K C "box"/\aD K C "amount"/\wo K C "Set.__init__" (bf 22 0) ["self","box","amount"]/\Md K C "step" "Set.step" (bf 22 1) ["self","boxes"]/\Md K C "weigh" "Row.weigh" (bf 21 0) ["self"]/\∃D:Addr,mg "Row"=some (.ref D)/\XD K D/\mroIn K C (.ref D)=some true
 k_Copy:∃C:Addr,mg "Copy"=some (.ref C)/\dr K C/\aD K C "box"/\aD K C "other"/\wo K C "Copy.__init__" (bf 23 0) ["self","box","other"]/\Md K C "step" "Copy.step" (bf 23 1) ["self","boxes"]/\Md K C "weigh" "Row.weigh" (bf 21 0) ["self"]/\∃D:Addr,mg "Row"=some (.ref D)/\XD K D/\mroIn K C (.ref D)=some true
 k_Add:∃C:Addr,mg "Add"=some (.ref C)/\dr K C/\aD K C "box"/\aD K C "other"/\wo K C "Add.__init__" (bf 24 0) ["self","box","other"]/\Md K C "step" "Add.step" (bf 24 1) ["self","boxes"]/\Md K C "weigh" "Row.weigh" (bf 21 0) ["self"]/\∃D:Addr,mg "Row"=some (.ref D)/\XD K D/\mroIn K C (.ref D)=some true
 k_Less:∃C:Addr,mg "Less"=some (.ref C)/\dr K C/\aD K C "box"/\wo K C "Less.__init__" (bf 25 0) ["self","box"]/\Md K C "step" "Less.step" (bf 25 1) ["self","boxes"]/\Md K C "weigh" "Row.weigh" (bf 21 0) ["self"]/\∃D:Addr,mg "Row"=some (.ref D)/\XD K D/\mroIn K C (.ref D)=some true
 k_Times:∃C:Addr,mg "Times"=some (.ref C)/\dr K C/\aD K C "box"/\aD K C "rows"/\aD K C "of_round"/\wo K C "Times.__init__" (bf 26 0) ["self","box","rows"]/\Md K C "weigh" "Times.weigh" (bf 26 1) ["self"]/\Md K C "step" "Times.step" (bf 26 2) ["self","boxes"]/\∃D:Addr,mg "Row"=some (.ref D)/\XD K D/\mroIn K C (.ref D)=some true
 k_Count:∃C:Addr,mg "Count"=some (.ref C)/\dr K C/\aD K C "loop"/\aD K C "rounds"/\wo K C "Count.__init__" (bf 27 0) ["self","loop","rounds"]/\Md K C "weigh" "Count.weigh" (bf 27 1) ["self"]/\Md K C "step" "Count.step" (bf 27 2) ["self","boxes"]/\∃D:Addr,mg "Row"=some (.ref D)/\XD K D/\mroIn K C (.ref D)=some true
 k_While:∃C:Addr,mg "While"=some (.ref C)/\dr K C/\aD K C "box"/\aD K C "heights"/\aD K C "rows"/\aD K C "of_round"/\wo K C "While.__init__" (bf 28 0) ["self","box","marks","rows"]/\Md K C "weigh" "While.weigh" (bf 28 1) ["self"]/\Md K C "step" "While.step" (bf 28 2) ["self","boxes"]/\Md K C "measure" "While.measure" (bf 28 3) ["self","boxes"]/\∃D:Addr,mg "Row"=some (.ref D)/\XD K D/\mroIn K C (.ref D)=some true
 k_Bearing:∃C:Addr,mg "Bearing"=some (.ref C)/\dr K C/\aD K C "loop"/\aD K C "borne"/\wo K C "Bearing.__init__" (bf 29 0) ["self","loop","borne"]/\Md K C "weigh" "Bearing.weigh" (bf 29 1) ["self"]/\Md K C "step" "Bearing.step" (bf 29 2) ["self","boxes"]/\∃D:Addr,mg "Row"=some (.ref D)/\XD K D/\mroIn K C (.ref D)=some true
 x_:∃c0 c1 c2:Addr,(mg "HydraError"=some (.ref c0)/\excIn K c0 [.type "ValueError",.type "Exception",.type "BaseException",.type "object"] "ValueError.__new__"=true)/\(mg "NoFall"=some (.ref c1)/\excIn K c1 [.type "ValueError",.type "Exception",.type "BaseException",.type "object"] "ValueError.__new__"=true)/\(mg "NoNumber"=some (.ref c2)/\excIn K c2 [.type "ValueError",.type "Exception",.type "BaseException",.type "object"] "ValueError.__new__"=true)/\mroIn K c1 (.ref c0)=some true/\mroIn K c1 (.ref c2)=some false/\(XQ K c0/\XD K c0)/\(XQ K c1/\XD K c1)/\(XQ K c2/\XD K c2)
 z_ValueError:mg "ValueError"=none
 z_bool:mg "bool"=none
 z_dict:mg "dict"=none
 z_int:mg "int"=none
 z_isinstance:mg "isinstance"=none
 z_len:mg "len"=none
 z_list:mg "list"=none
 z_max:mg "max"=none
 z_min:mg "min"=none
 z_range:mg "range"=none
 z_reversed:mg "reversed"=none
 z_sorted:mg "sorted"=none
 z_sum:mg "sum"=none
 z_tuple:mg "tuple"=none
 z_zip:mg "zip"=none
section
variable {P:Program} {w:World} {K:yav} {mg:yew} {base:Heap} {f:Addr} {fd:FuncData}
set_option maxHeartbeats 0
def Bx:bS:=λws G q _=>∃a b:O,ws=[.tup (au a),.tup (au b)]/\a.dp<=60/\q (.int (O.cmp a b)) G
def DK:bS:=λws G q _=>∃a x:O,ws=[.tup (au a),.tup (au x)]/\a.NF/\a.dp<=60/\a.len<=40000/\q (.int (O.stay x a)) G
def mv:bS:=λws G q _=>∃a b:O,ws=[.tup (au a),.tup (au b)]/\a.NF/\a.dp<=60/\b.dp<=60/\a.len<=40000/\b.len<=40000/\q (.tup (au (O.plusO a b))) G
theorem Fz (F:cz K "compare" "compare" (aQ 9) f fd):cf P w K mg base 1 f fd ["a","b"] Bx:=by
 refine dG F (N:=["a","b"]) (by walk_at "s") (by walk_at "l") λ_ _ _ _ _ _ nd hr=>?_;apply aN
 ·exact(ae (bo (aI (bH hr) (aa 0) (aa 1)) (ae (aA ag) ak) ak) (ae (aA (jv (aI (iR hr) (aa 0) (aa 1)) (jA ag) ag)) ak))
 ·rintro ws G q e ⟨a,b,rfl,hx,hq⟩;walk_at "R";have h1:=gQ a b;have hd:=eS a;rw[pG,h1.2];refine⟨cQ a,cQ b,by lia,?_⟩;rcases O.cmp_range a b with k | k | k
  ·rw[ycw (by simp;intro z;rw[z,O.cmp_self] at k;lia),ycv (by simp;lia)];exact⟨ca a,ca b,kY a (by lia),h1.1,aE.done (by rw[k] at hq;exact hq)⟩
  ·rw[ycv (by simpa using O.cmp_eq _ _ k)];exact aE.done (by rw[k] at hq;exact hq)
  ·rw[ycw (by simp;intro z;rw[z,O.cmp_self] at k;lia),ycw (by simp;lia)];exact⟨ca a,ca b,kY a (by lia),h1.1,aE.done (by rw[k] at hq;exact hq)⟩
theorem FA (F:cz K "parts_above" "parts_above" (aQ 14) f fd) (F1:Fx P w K mg base "compare" ["a","b"] 1 Bx) (ml:mg "len"=none):cf P w K mg base 2 f fd ["a","exponent"] DK:=by
 refine dG F (N:=["a","exponent","low","high","middle"]) (by walk_at "s") (by walk_at "l") λ_ _ _ _ _ _ nd hr=>?_;apply aN
 ·exact(ae (aM 2 nd rfl (.inl rfl) ag) (ae (aM 3 nd rfl (.inl rfl) (bb cj rfl ml PySem.boot_len (ac (aa 0) ah))) (ae (jw PySem.PassesOwn.never (aI (iR hr) (aa 2) (aa 3)) (ae (aM 4 nd rfl (.inl rfl) (aO ck (aO bB (aa 2) (aa 3)) ag)) (ae (bo (aI m9 (aC F1 (aB.mono hr (by lia)) rfl (ac (av ay (av ay (aa 0) (aa 4)) ag) (ac (aa 1) ah))) ag) (ae (aM 2 nd rfl (.inl rfl) (aO bB (aa 4) ag)) ak) (ae (aM 3 nd rfl (.inl rfl) (aa 4)) ak)) ak))) (ae (aA (aa 2)) ak))))
 ·rintro ws G q e ⟨a,x,rfl,hn,hx,hl,hq⟩;walk_at "a0";walk_at "a";rw[aY];subst hU;refine aJ λU hU=>?_;refine⟨λm τ G'=>G'=G/\∃(lo hi:Nat) (t4:Option W),τ=[some (.tup (au a)),some (.tup (au x)),some (.int (lo:Int)),some (.int (hi:Int)),t4]/\lo<=O.stay x a/\O.stay x a<=hi/\hi<=a.len/\m=hi-lo,⟨a.len,rfl,0,a.len,none,rfl,zero_le _,O.stay_le,ycx _,rfl⟩,?_⟩;rintro m τ G' ⟨rfl,lo,hi,t4,rfl,h1,h2,h3,rfl⟩;walk_at "R";split
  ·rename_i hlt;refine⟨λτ1 G1=>G1=G'/\∃(lo' hi':Nat) (t4:Option W),τ1=[some (.tup (au a)),some (.tup (au x)),some (.int (lo':Int)),some (.int (hi':Int)),t4]/\lo'<=O.stay x a/\O.stay x a<=hi'/\hi'<=a.len/\hi'-lo'<hi-lo,?_,?_⟩
   ·rintro τ1 G1 ⟨rfl,lo',hi',t4,rfl,k1,k2,k3,k4⟩;exact⟨_,k4,rfl,lo',hi',t4,rfl,k1,k2,k3,rfl⟩
   ·have em:((lo:Int)+hi)/2=(((lo+hi)/2:Nat):Int):=by lia
    obtain⟨y,n,hp⟩:=O.getP_some (a:=a) (i:=(lo+hi)/2) (by lia);rw[em];refine⟨_,lX hp,?_⟩;have hs:=O.getP_size hp;have hab:=O.above_iff (e:=x) hn hp;unfold gZ mL;walk_at "R";refine⟨y,x,rfl,by lia,?_⟩;walk_at "R";split
    ·rename_i hc;have:=hab.mp hc;exact⟨(lo+hi)/2+1,hi,_,rfl,by assumption,h2,h3,by lia⟩
    ·rename_i hc;have:=λz=>hc (hab.mpr z);exact⟨lo,(lo+hi)/2,_,rfl,h1,by lia,by lia,by lia⟩
  ·subst hU;walk_at "R";have:(lo:Int)=O.stay x a:=by lia
   rw[this];exact aE.done hq
theorem FB (F:cz K "plus" "plus" (aQ 13) f fd) (F1:Fx P w K mg base "parts_above" ["a","exponent"] 2 DK) (ml:mg "len"=none):cf P w K mg base 3 f fd ["a","b"] mv:=by
 refine dG F (N:=["a","b","exponent","stay","both"]) (by walk_at "s") (by walk_at "l") λ_ _ _ _ _ _ nd hr=>?_;apply aN
 ·exact(ae (bo (aI (bH hr) (aa 1) (bh ah)) (ae (aA (aa 0)) ak) ak) (ae (aM 2 nd rfl (.inl rfl) (av ay (av ay (aa 1) ag) ag)) (ae (aM 3 nd rfl (.inl rfl) (aC F1 (aB.mono hr (by lia)) rfl (ac (aa 0) (ac (aa 2) ah)))) (ae (bo (fP (dX (aI (iR hr) (aa 3) (bb cj rfl ml PySem.boot_len (ac (aa 0) ah))) (cW (aI (bH hr) (av ay (av ay (aa 0) (aa 3)) ag) (aa 2))))) (ae (aM 4 nd rfl (.inl rfl) (bh (ac (aa 2) (ac (aO bB (av ay (av ay (aa 0) (aa 3)) ag) (av ay (av ay (aa 1) ag) ag)) ah)))) (ae (aA (aO bB (aO bB (bv (aa 0) ci (bR (aa 3))) (bh (ac (aa 4) ah))) (bv (aa 1) (bR ag) ci))) ak)) ak) (ae (aA (aO bB (bv (aa 0) ci (bR (aa 3))) (aa 1))) ak)))))
 ·rintro ws G q e ⟨a,b,rfl,hn,hx,hy,hl,hl2,hq⟩;have hd:=eS b;walk_at "a0";refine⟨cQ b,by lia,?_⟩;rw[dQ];cases b with
  | z=>
    rw[ycv (by simp)];exact aE.done hq
  | c e n r=>
    rw[ycw (by simp)];simp only[O.len] at hl2;have hde:e.dp<=60:=by simp only[O.dp] at hy;lia
    subst hU;refine aJ λU hU=>?_;rw[bZ];unfold gZ mL;walk_at "R";walk_at "a";refine⟨a,e,rfl,hn,hx,hl,?_⟩;subst hU;have hst:=O.stay_le (e:=e) (a:=a);have hsame:=O.same_stay (e:=e) hn;have htake:=O.take_stay (e:=e) hn;have e1:cF (W.tup [W.tup (au e),W.int n]::au r) (some 1) none=au r:=by rw[show(1:Int)=((1:Nat):Int) from rfl,gM];rfl
    have e2:cF (au a) none (some (O.stay e a:Int))=au (O.filt (λx _=>decide (0<O.cmp x e)) a):=by rw[pI,iA,htake]
    have l1:=jH (λx _=>decide (0<O.cmp x e)) a;have hq':q (.tup (au (O.filt (λx _=>decide (0<O.cmp x e)) a)++(gZ e (O.same e a+n)::au r))) G:=by
     rw[O.plus_c,fi,bZ] at hq;exact hq
    refine aJ λU hU=>?_;have other:O.same e a=0->U { nx:=λx G1=>∃G0,aE G0 G1/\q W.non G0,rt:=λw G1=>∃G0,aE G0 G1/\q w G0 } [some (W.tup (au a)),some (W.tup (W.tup [W.tup (au e),W.int n]::au r)),some (W.tup (au e)),some (W.int (O.stay e a)),none] G:=λhz=>by
     subst hU;walk_at "R";rw[e2];refine⟨by rw[aY,aY];lia,aE.done ?_⟩;rw[hz,Int.zero_add] at hq';exact hq'
    walk_at "R";rw[aY];split
    ·rename_i hlt;obtain⟨y,m,hp⟩:=O.getP_some (a:=a) (i:=O.stay e a) (by lia);have hs:=O.getP_size hp;have hdy:=eS y;refine⟨_,lX hp,?_⟩;rw[hp] at hsame;have hsame':O.same e a=if y=e then m else 0:=hsame
     unfold gZ mL;walk_at "R";refine⟨cQ y,cQ e,by lia,?_⟩;rw[pG]
     by_cases hye:y=e
     ·rw[ycv (by simpa using hye)];refine⟨_,lX hp,?_⟩;unfold gZ mL;walk_at "R";rw[e1,e2];rw[ycv hye] at hsame';refine⟨by rw[aY];lia,by rw[length_append,aY,aY];simp;lia,aE.done ?_⟩;rw[hsame'] at hq';rw[append_assoc];exact hq'
     ·rw[ycw (by simpa using hye)];rw[ycw hye] at hsame';exact other hsame'
    ·rename_i hlt;rw[O.getP_none.mpr (by lia)] at hsame;exact other hsame
theorem jW:∀{a:O} {x:O} {n:Int},a.NF->O.last a=.c x n .z->O.same .z a=if x=.z then n else 0
 | .z,_,_,_,h=>by cases h
 | .c e m .z,x,n,ha,h=>by
   have:O.last (.c e m .z)=.c e m .z:=rfl;rw[this] at h;injection h with h1 h2 _
   subst h1 h2
   by_cases k:e=.z
   ·subst k;rw[ycv rfl,O.same_self ha.2.2.1]
   ·rw[ycw k,O.same_ne k];rfl
 | .c e m (.c e' m' r'),x,n,ha,h=>by
   have e0:O.last (.c e m (.c e' m' r'))=O.last (.c e' m' r'):=by simp[O.last]
   rw[e0] at h;have hne:e≠ .z:=λz=>by
    subst z;have:=ha.2.2.1.1;cases e'<;> simp[O.cmp] at this
   rw[O.same_ne hne];exact jW ha.2.2.2 h
theorem ol:∀{a:O},a.NF->O.same .z a=0->O.filt (λy _=>decide (¬y=.z)) a=a
 | .z,_,_=>rfl
 | .c e m r,ha,h=>by
   have hne:e≠ .z:=λz=>by
    subst z;rw[O.same_self ha.2.2.1] at h;have:=ha.2.1;lia
   rw[O.same_ne hne] at h;rw[O.filt_c,ycv (by simpa using hne),ol ha.2.2.2 h]
theorem jX:∀{a:O},a.NF->O.same .z a≠0->O.filt (λy _=>decide (¬y=.z)) a=O.init a
 | .z,_,h=>absurd rfl h
 | .c e m .z,ha,h=>by
   have:e=.z:=Classical.byContradiction λk=>h (by rw[O.same_ne k];rfl);subst this
   rfl
 | .c e m (.c e' m' r'),ha,h=>by
   have hne:e≠ .z:=λz=>by
    subst z;have:=ha.2.2.1.1;cases e'<;> simp[O.cmp] at this
   rw[O.same_ne hne] at h;have e0:O.init (.c e m (.c e' m' r'))=.c e m (O.init (.c e' m' r')):=by simp[O.init]
   rw[O.filt_c,ycv (by simpa using hne),jX ha.2.2.2 h,e0]
def By:bS:=λws G q _=>∃a:O,ws=[.tup (au a)]/\a.NF/\a.dp<=60/\q (.int (O.same .z a)) G
def DL:bS:=λws G q _=>∃a:O,ws=[.tup (au a)]/\a.NF/\a.dp<=60/\q (.tup (au (O.filt (λy _=>decide (¬y=.z)) a))) G
theorem FC (F:cz K "whole_part" "whole_part" (aQ 10) f fd):cf P w K mg base 1 f fd ["a"] By:=by
 refine dG F (N:=["a"]) (by walk_at "s") (by walk_at "l") λ_ _ _ _ _ _ nd hr=>?_;apply aN
 ·exact(ae (bo (fP (ju (aI (bH hr) (aa 0) (bh ah)) (jt (aI (et hr) (av ay (av ay (aa 0) (jA ag)) ag) (bh ah))))) (ae (aA ag) ak) ak) (ae (aA (av ay (av ay (aa 0) (jA ag)) ag)) ak))
 ·rintro ws G q e ⟨a,rfl,ha,hd,hq⟩;have hd2:=eS a;walk_at "R";refine⟨cQ a,by lia,?_⟩;rw[dQ]
  by_cases hz:a=.z
  ·subst hz;rw[ycv (by simp)];exact aE.done hq
  ·rw[ycw (by simpa using hz)];obtain⟨x,n,h1,h2⟩:=uM hz;have hw:=jW ha h1;have hs:=O.getP_size h2;have hdx:=eS x;refine⟨_,gP h2,?_⟩;unfold gZ mL;walk_at "R";refine⟨cQ x,by lia,?_⟩;rw[dQ]
   by_cases hx:x=.z
   ·rw[ycw (by simpa using hx)];rw[ycv hx] at hw;have h3:=gP h2;unfold gZ mL at h3;refine⟨_,h3,?_⟩;walk_at "R";rw[hw] at hq;exact aE.done hq
   ·rw[ycv (by simpa using hx)];rw[ycw hx] at hw;rw[hw] at hq;exact aE.done hq
theorem FD (F:cz K "without_whole" "without_whole" (aQ 11) f fd) (F1:Fx P w K mg base "whole_part" ["a"] 1 By):cf P w K mg base 2 f fd ["a"] DL:=by
 refine dG F (N:=["a"]) (by walk_at "s") (by walk_at "l") λ_ _ _ _ _ _ nd hr=>?_;apply aN
 ·exact(ae (bo (aI (bH hr) (aC F1 (aB.mono hr (by lia)) rfl (ac (aa 0) ah)) ag) (ae (aA (aa 0)) ak) ak) (ae (aA (bv (aa 0) ci (bR (jA ag)))) ak))
 ·rintro ws G q e ⟨a,rfl,ha,hd,hq⟩;walk_at "R";refine⟨a,rfl,ha,hd,?_⟩;walk_at "R";split
  ·rename_i h;rw[ol ha h] at hq;exact aE.done hq
  ·rename_i h;rw[jX ha h] at hq;rw[uL];exact aE.done hq
noncomputable def kr (e:O):O->O
 | .z=> .z
 | .c f d t=> .c (O.plusO e f) d (kr e t)
theorem lp (e:O):∀b:O,mapP (λ_ _=>true) (λx m=>gZ (O.plusO e x) m) b=au (kr e b)
 | .z=>rfl
 | .c f d t=>by rw[mapP,ycv rfl,lp e t];rfl
theorem oo (e:O):∀b:O,(kr e b).len=b.len
 | .z=>rfl
 | .c f d t=>by simp only[kr,O.len,oo e t]
theorem lq {e:O} {n:Int} {r:O}:∀{b:O},b.NF->O.mulP e n r b=O.app (kr e (O.filt (λy _=>decide (¬y=.z)) b)) (if O.same .z b=0 then .z else .c e (n*O.same .z b) r)
 | .z,_=>rfl
 | .c f d t,hb=>by
   rw[O.mulP_c,O.filt_c]
   by_cases k:f=.z
   ·subst k;have hd:=hb.2.1;rw[ycv rfl,ycw (by simp),O.Lt_z hb.2.2.1,O.same_self (r:= .z) trivial,ycw (by lia)]
    rfl
   ·rw[ycw k,ycv (by simpa using k),O.same_ne k,lq hb.2.2.2]
    rfl
def vD:bS:=λws G q _=>∃a b:O,ws=[.tup (au a),.tup (au b)]/\a.NF/\b.NF/\a.dp<=40/\b.dp<=40/\O.hw a<=1000/\O.hw b<=1000/\O.mx a<=zy/\O.mx b<=zy/\q (.tup (au (O.timesO a b))) G
theorem FE (F:cz K "times" "times" (aQ 17) f fd) (F1:Fx P w K mg base "whole_part" ["a"] 1 By) (F2:Fx P w K mg base "without_whole" ["a"] 2 DL) (F3:Fx P w K mg base "plus" ["a","b"] 3 mv) (mt:mg "tuple"=none):cf P w K mg base 4 f fd ["a","b"] vD:=by
 refine dG F (N:=["a","b","exponent","parts","many"]) (by walk_at "s") (by walk_at "l") λ_ _ _ _ _ _ nd hr=>?_;apply aN
 ·exact(ae (bo (fP (ju (aI (bH hr) (aa 0) (bh ah)) (jt (aI (bH hr) (aa 1) (bh ah))))) (ae (aA (bh ah)) ak) ak) (ae (aM 2 nd rfl (.inr rfl) (av ay (av ay (aa 0) ag) ag)) (ae (qo 3 (dN (by first | rfl | decide+kernel)) rfl nd rfl (.inl rfl) (cr (aC F2 (aB.mono hr (by lia)) rfl (ac (aa 1) ah))) (λ_ _ _ _=>(bX 1 (by first | assumption | decide+kernel | rfl) rfl (.inl rfl))) (λ_ _ _ _=>dv) (λ_ _ _ _=>(bh (ac (aC F3 (aB.mono hr (by lia)) rfl (ac (aa 3 rfl (.inr (.inl rfl))) (ac (av ay (aa 1) ag) ah))) (ac (av ay (aa 1) ag) ah))))) (ae (aM 4 nd rfl (.inl rfl) (aC F1 (aB.mono hr (by lia)) rfl (ac (aa 1) ah))) (ae (bo (aI (bH hr) (aa 4) ag) (ae (aA (bL ft rfl mt eO (ac (aa 3) ah))) ak) ak) (ae (aA (aO bB (aO bB (bL ft rfl mt eO (ac (aa 3) ah)) (bh (ac (bh (ac (aa 2 rfl (.inr (.inl rfl))) (ac (aO uQ (av ay (av ay (aa 0) ag) ag) (aa 4)) ah))) ah))) (bv (aa 0) (bR ag) ci))) ak))))))
 ·rintro ws G q e ⟨a,b,rfl,na,nb,da,db,sa,sb,ma,mb,hq⟩;have hda:=eS a;have hdb:=eS b;have la:=O.len_le_hw a;have lb:=O.len_le_hw b;walk_at "a0";refine⟨cQ a,by lia,?_⟩;rw[dQ];cases a with
  | z=>
    rw[ycv (by simp)];exact aE.done hq
  | c e n r=>
    rw[ycw (by simp)];refine⟨cQ b,by lia,?_⟩;rw[dQ]
    by_cases hb0:b=.z
    ·subst hb0;rw[ycv (by simp)];exact aE.done hq
    ·rw[ycw (by simpa using hb0)];subst hU;rw[O.hw_c] at sa;simp only[O.dp,O.len] at da la;have le1:=O.len_le_hw e;have lr1:=O.len_le_hw r;rw[bZ];unfold gZ mL;walk_at "a0";walk_at "a";refine⟨b,rfl,nb,by lia,?_⟩;walk_at "R";show cq _ _ _ _ _ [none,none,none,some (W.tup (au e))] G [] _;have lf:=jH (λy _=>decide (¬y=O.z)) b;have df:=O.dp_filt (λy _=>decide (¬y=O.z)) b;have sf:=O.hw_filt (λy _=>decide (¬y=O.z)) b;refine jI (λ_ _=>true) (λx m=>gZ (O.plusO e x) m) trivial (qQ _) (λy m hy k hk=>?_) (λy m hy _ k hk=>?_) (by rw[length_nil];lia) (λ_=>rfl) λp1 hp1=>?_
     ·walk_at "R";exact hk
     ·have ly:=O.len_le_hw y;unfold gZ mL at hk ⊢;walk_at "R";exact⟨e,y,rfl,na.1,by lia,by lia,by lia,by lia,hk⟩
     rw[nil_append,lp];have hG1:=af (G:=G) (a:=p1) (g:=GO.lst (au (kr e (O.filt (λy _=>decide (¬y=O.z)) b))));have le:aE G (aw G p1 (GO.lst (au (kr e (O.filt (λy _=>decide (¬y=O.z)) b))))):=aE.new hp1;generalize aw G p1 (GO.lst (au (kr e (O.filt (λy _=>decide (¬y=O.z)) b))))=G1 at hG1 le ⊢;walk_at "a";refine⟨b,rfl,nb,by lia,?_⟩;have hsp:O.timesO (.c e n r) b=_:=lq (e:=e) (n:=n) (r:=r) nb;rw[hsp] at hq;have hn:=na.2.1;have hsm:=O.same_le_mx .z nb;have hs0:=O.same_nonneg .z nb;rw[O.mx_c] at ma;have lm:=oo e (O.filt (λy _=>decide (¬y=O.z)) b);walk_at "a";split
     ·rename_i h0;refine⟨_,hG1,G,le,?_⟩;rw[ycv h0] at hq;have:O.app (kr e (O.filt (λy _=>decide (¬y=O.z)) b)) .z=kr e (O.filt (λy _=>decide (¬y=O.z)) b):=nK (by rw[fi,A3,append_nil]);rw[this] at hq;exact hq
     ·rename_i h0;rw[ycw h0,fi,bZ] at hq;subst hU;have e1:cF (W.tup [W.tup (au e),W.int n]::au r) (some 1) none=au r:=by rw[show(1:Int)=((1:Nat):Int) from rfl,gM];rfl
      walk_at "R";rw[e1];refine⟨_,hG1,.inl (.inr (Fm (by lia) (by lia) (by assumption) (by lia))),by rw[aY,lm];lia,by rw[length_append,aY,aY,length_cons,length_nil,lm];lia,G,le,?_⟩;rw[append_assoc];exact hq
def DM:bS:=λws G q _=>∃n k:Int,ws=[.int n,.int k]/\q (.bl (decide (k<=n))) G
theorem scWh:bV ["thing","least"] ["thing","least"] (am (aQ 5)):=by walk_at "s"
theorem FF {T:Addr} {ds:yez} (F:fT K "is_whole" "is_whole" (aQ 5) f fd T ds) (mi:mg "isinstance"=none) (mn:mg "int"=none) (mb:mg "bool"=none):cf P w K mg base 1 f fd ["thing","least"] DM:=by
 have nd:=scWh.nd;refine De F scWh (λws G q e h=>by obtain⟨_,_,rfl,_⟩:=h;rfl) (λcdv A outer s H E hr=>?_);apply aN
 ·exact(ae (aA (ik (io (T:="int") (x:="int") (by first | simp[lL] | assumption | decide+kernel) PyProof.Rows.boot_int mn rfl mi rfl (aa 0)) (ik (tJ (io (T:="bool") (x:="bool") (by first | simp[lL] | assumption | decide+kernel) PyProof.Rows.boot_bool mb rfl mi rfl (aa 0))) (ii (fc CK (aa 0) (aa 1)))))) ak)
 ·rintro ws G q e ⟨n,k,rfl,hq⟩;walk_at "R";exact aE.done hq
def vE:bS:=λws G q _=>∃(x:O) (n:Int),ws=[.tup (au x),.int n]/\0<=n/\q (.tup (au (if n=0 then .z else .c x n .z))) G
theorem scRs:bV ["exponent","times"] ["exponent","times"] (am (aQ 8)):=by walk_at "s"
theorem DN {T:Addr} {ds:yez} (F:fT K "raised" "raised" (aQ 8) f fd T ds) (F1:Dg P w K mg base "is_whole" ["thing","least"] 1 DM [.int 0]):cf P w K mg base 2 f fd ["exponent","times"] vE:=by
 have nd:=scRs.nd;refine De F scRs (λws G q e h=>by obtain⟨_,_,rfl,_⟩:=h;rfl) (λcdv A outer s H E hr=>?_);apply aN
 ·exact(ae (bo (ig (eJ (pf F1 (aB.mono hr (by lia)) rfl (ac (aa 1) ah)))) (ae tZ ak) ak) (ae (bo (aI (bH hr) (aa 1) ag) (ae (aA (bh ah)) ak) ak) (ae (aA (bh (ac (bh (ac (aa 0) (ac (aa 1) ah))) ah))) ak)))
 ·rintro ws G q e ⟨x,n,rfl,hn,hq⟩;walk_at "R";refine⟨n,0,rfl,?_⟩;walk_at "R";rw[ycw (by lia)];split
  ·rename_i h;rw[ycv h] at hq;exact aE.done hq
  ·rename_i h;rw[ycw h,bZ] at hq;exact aE.done hq
def kt:bS:=λws G q _=>∃n:Int,ws=[.int n]/\0<=n/\q (.tup (au (O.wh n))) G
theorem FG (F:cz K "whole" "whole" (aQ 6) f fd) (F1:Fx P w K mg base "raised" ["exponent","times"] 2 vE):cf P w K mg base 3 f fd ["n"] kt:=by
 refine dG F (N:=["n"]) (by walk_at "s") (by walk_at "l") λ_ _ _ _ _ _ nd hr=>?_;apply aN
 ·exact(ae (aA (aC F1 (aB.mono hr (by lia)) rfl (ac (bh ah) (ac (aa 0) ah)))) ak)
 ·rintro ws G q e ⟨n,rfl,hn,hq⟩;walk_at "R";exact⟨.z,n,rfl,hn,aE.done hq⟩
abbrev Row:=Rq Str
structure Cs where
 s:Addr
 c:Addr
 a:Addr
 l:Addr
 t:Addr
 w:Addr
 n:Addr
 b:Addr
noncomputable def Cs.at_ (C:Cs):Nat->Addr
 | 0=>C.s
 | 1=>C.c
 | 2=>C.a
 | 3=>C.l
 | 4=>C.t
 | 5=>C.w
 | 6=>C.n
 | _=>C.b
noncomputable def kd:Row->Nat
 | .set _ _=>0
 | .copy _ _=>1
 | .add _ _=>2
 | .less _=>3
 | .times _ _=>4
 | .whl _ _ _=>5
 | .count _ _=>6
 | .bear _ _ _ _=>7
noncomputable abbrev fo (hs:List (O×List Str)):List W:=hs.map λp=> .tup [.tup (au p.1),.tup (p.2.map W.str)]
noncomputable abbrev FH (b:Str) (as:List Addr) (rs:aT Str):List (Str×W):=[("box",.str b),("rows",.tup (as.map W.ref)),("of_round",.tup (au rs.rnd))]
noncomputable abbrev Ev (b:Str) (hs:List (O×List Str)) (as:List Addr) (rs:aT Str):List (Str×W):=[("box",.str b),("heights",.tup (fo hs)),("rows",.tup (as.map W.ref)),("of_round",.tup (au rs.rnw))]
mutual
inductive jY (C:Cs) (G:Gp):Addr->Row->Prop where
 | set {a:Addr} {b:Str} {n:Int} (h:G a=some (.ins C.s [("box",.str b),("amount",.int n)])):jY C G a (.set b n)
 | copy {a:Addr} {b o:Str} (h:G a=some (.ins C.c [("box",.str b),("other",.str o)])):jY C G a (.copy b o)
 | add {a:Addr} {b o:Str} (h:G a=some (.ins C.a [("box",.str b),("other",.str o)])):jY C G a (.add b o)
 | less {a:Addr} {b:Str} (h:G a=some (.ins C.l [("box",.str b)])):jY C G a (.less b)
 | times {a:Addr} {b:Str} {as:List Addr} {rs:aT Str} (h:G a=some (.ins C.t (FH b as rs))) (hs:eA C G as rs):jY C G a (.times b rs)
 | count {a l:Addr} {b:Str} {as:List Addr} {rs:aT Str} {n:Int} (h:G a=some (.ins C.n [("loop",.ref l),("rounds",.int n)])) (hl:G l=some (.ins C.t (FH b as rs))) (hs:eA C G as rs):jY C G a (.count rs n)
 | whl {a:Addr} {b:Str} {ms:List (O×List Str)} {as:List Addr} {rs:aT Str} (h:G a=some (.ins C.w (Ev b ms as rs))) (hs:eA C G as rs):jY C G a (.whl b ms rs)
 | bear {a l:Addr} {b:Str} {ms:List (O×List Str)} {as:List Addr} {rs:aT Str} {o:O} (h:G a=some (.ins C.b [("loop",.ref l),("borne",.tup (au o))])) (hl:G l=some (.ins C.w (Ev b ms as rs))) (hs:eA C G as rs):jY C G a (.bear b ms rs o)
inductive eA (C:Cs) (G:Gp):List Addr->aT Str->Prop where
 | nil:eA C G [] .nil
 | cons {a:Addr} {as:List Addr} {r:Row} {rs:aT Str} (h:jY C G a r) (hs:eA C G as rs):eA C G (a::as) (.cons r rs)
end
def cv (G G':Gp):Prop:=∀a C x fs,G a=some (.ins C (x::fs))->G' a=some (.ins C (x::fs))
theorem aE.ins {G G':Gp} (h:aE G G'):cv G G':=λ_ _ _ _ e=>h _ _ e
theorem cv.but {G G':Gp} {p:Addr} (h:∀x g,x≠p->G x=some g->G' x=some g) (hp:∀C y fs,G p≠some (.ins C (y::fs))):cv G G':=λa C y fs e=>h a _ (λz=>hp C y fs (z▸e)) e
mutual
theorem jY.mono {C:Cs} {G G':Gp} (l:cv G G'):∀{a:Addr} {r:Row},jY C G a r->jY C G' a r
 | _,_,.set h=> .set (l _ _ _ _ h)
 | _,_,.copy h=> .copy (l _ _ _ _ h)
 | _,_,.add h=> .add (l _ _ _ _ h)
 | _,_,.less h=> .less (l _ _ _ _ h)
 | _,_,.times h hs=> .times (l _ _ _ _ h) (eA.mono l hs)
 | _,_,.count h hl hs=> .count (l _ _ _ _ h) (l _ _ _ _ hl) (eA.mono l hs)
 | _,_,.whl h hs=> .whl (l _ _ _ _ h) (eA.mono l hs)
 | _,_,.bear h hl hs=> .bear (l _ _ _ _ h) (l _ _ _ _ hl) (eA.mono l hs)
theorem eA.mono {C:Cs} {G G':Gp} (l:cv G G'):∀{as:List Addr} {rs:aT Str},eA C G as rs->eA C G' as rs
 | _,_,.nil=> .nil
 | _,_,.cons h hs=> .cons (jY.mono l h) (eA.mono l hs)
end
theorem jY.isIns {C:Cs} {G:Gp} {r:Row} (h:jY C G a r):∃fs,G a=some (.ins (C.at_ (kd r)) fs)/\fs.lookup ("weigh":Str)=none/\fs.lookup ("step":Str)=none:=by
 cases h with
 | set h=>exact⟨_,h,rfl,rfl⟩
 | copy h=>exact⟨_,h,rfl,rfl⟩
 | add h=>exact⟨_,h,rfl,rfl⟩
 | less h=>exact⟨_,h,rfl,rfl⟩
 | times h hs=>exact⟨_,h,rfl,rfl⟩
 | count h hl hs=>exact⟨_,h,rfl,rfl⟩
 | whl h hs=>exact⟨_,h,rfl,rfl⟩
 | bear h hl hs=>exact⟨_,h,rfl,rfl⟩
structure Sz (r:Row):Prop where
 nn:r.nn
 hb:r.hb<=500
 mb:(r.mb:Int)<=10^300
structure lr (rs:aT Str):Prop where
 nn:rs.nn
 hb:rs.hb<=500
 mb:(rs.mb:Int)<=10^300
theorem lr.cons {r:Row} {rs:aT Str} (h:lr (.cons r rs)):Sz r/\lr rs:=by
 have h1:=h.nn;have h2:=h.hb;have h3:=h.mb;have e2:(aT.cons r rs).hb=rs.hb+r.hb:=rfl;have e3:(aT.cons r rs).mb=rs.mb+r.mb:=rfl;rw[e2] at h2;rw[e3] at h3;exact⟨⟨h1.1,by lia,by lia⟩,⟨h1.2,by lia,by lia⟩⟩
mutual
theorem zG:∀r:Row,r.lb<=r.hb
 | .set _ _=>ycx _
 | .copy _ _=>ycx _
 | .add _ _=>ycx _
 | .less _=>ycx _
 | .times _ rs=>by show 1<=rs.hb+2;lia
 | .count rs _=>by have:=dZ rs;show rs.lb+2<=rs.hb+3;lia
 | .whl _ [] rs=>by have:=dZ rs;show rs.lb+2<=rs.hb+_+2;lia
 | .whl _ (_::_) rs=>by show 2<=rs.hb+_+2;lia
 | .bear _ _ rs o=>by have:=dZ rs;have:=O.len_le_hw o;show rs.lb+1+o.len+1<=rs.hb+O.hw o+2;lia
theorem dZ:∀rs:aT Str,rs.lb<=rs.hb
 | .nil=>ycx _
 | .cons r rs=>by have:=zG r;have:=dZ rs;show rs.lb+r.lb<=rs.hb+r.hb;lia
end
noncomputable def oq:∀rs:List Row,(rs.reverse.map Rq.wt).foldl O.plusO .z=dP rs
 | []=>rfl
 | r::rs=>by rw[List.reverse_cons,map_append,List.foldl_append,oq rs];rfl
def ku (C:Cs) (i:Nat):bS:=λws G q _=>∃(a:Addr) (r:Row),ws=[.ref a]/\jY C G a r/\kd r=i/\Sz r/\q (.tup (au r.wt)) G
theorem yz {C:Cs} (hi:i<4) (F:cz K "weigh" "Row.weigh" (bf 21 0) f fd) (F1:Fx P w K mg base "whole" ["n"] 3 kt):cf P w K mg base 6 f fd ["self"] (ku C i):=by
 walk_at "m2"
 ·exact(ae (aA (aC F1 (aB.mono hr (by lia)) rfl (ac ag ah))) ak)
 ·rintro ws G q e ⟨a,r,rfl,ha,hk,hz,hq⟩;walk_at "R";refine⟨1,rfl,by decide,aE.done ?_⟩;cases ha with
  | set h=>exact hq
  | copy h=>exact hq
  | add h=>exact hq
  | less h=>exact hq
  | _=>subst hk;exact absurd hi (show ¬(_:Nat)<4 by simp[kd])
def DO:bS:=λws G q _=>ws=[]/\q (.tup (au om)) G
theorem FI (F:cz K "endless" "endless" (aQ 7) f fd) (F1:Fx P w K mg base "whole" ["n"] 3 kt) (F2:Dg P w K mg base "raised" ["exponent","times"] 2 vE [.int 1]):cf P w K mg base 4 f fd [] DO:=by
 refine dG F (N:=[]) (by walk_at "s") (by walk_at "l") λ_ _ _ _ _ _ nd hr=>?_;apply aN
 ·exact(ae (aA (pf F2 (aB.mono hr (by lia)) rfl (ac (aC F1 (aB.mono hr (by lia)) rfl (ac ag ah)) ah))) ak)
 ·rintro ws G q e ⟨rfl,hq⟩;walk_at "R";refine⟨1,rfl,by decide,O.wh 1,1,rfl,by decide,aE.done ?_⟩;exact hq
theorem vF {rs:aT Str} (z:lr rs):rs.rnd.NF/\rs.rnd.dp<=4/\O.hw rs.rnd<=501/\O.mx rs.rnd<=10^300+1:=by
 have x:=aT.rb z.nn;have h1:=x.hw;have h2:=x.mx;have h3:=z.hb;have h4:=z.mb;exact⟨x.nf,x.dp,by lia,by lia⟩
theorem vG {rs:aT Str} (z:lr rs):rs.rnw.NF/\rs.rnw.dp<=4/\O.hw rs.rnw<=501/\O.mx rs.rnw<=10^300+2:=by
 have x:=aT.rbw z.nn;have h1:=x.hw;have h2:=x.mx;have h3:=z.hb;have h4:=z.mb;exact⟨x.nf,x.dp,by lia,by lia⟩
def GZ (os:List O):Prop:=(∀o,o∈os->o.NF/\o.dp<=4)/\(os.map O.len).sum<=1000
def DQ:bS:=λws G q _=>∃(p:Addr) (os:List O),ws=[.ref p]/\G p=some (.lst (os.map λo=> .tup (au o)))/\GZ os/\q (.tup (au (os.foldl O.plusO .z))) G
theorem FJ (F:cz K "total" "total" (aQ 15) f fd) (F1:Fx P w K mg base "plus" ["a","b"] 3 mv):cf P w K mg base 4 f fd ["some"] DQ:=by
 refine dG F (N:=["some","found","number"]) (by walk_at "s") (by walk_at "l") λ_ _ _ _ _ _ nd hr=>?_;apply aN
 ·exact(ae (aM 1 nd rfl (.inl rfl) (bh ah)) (ae (dg PySem.PassesOwn.never rfl (cr (aa 0)) (bO 2 nd rfl (.inl rfl)) (ae (aM 1 nd rfl (.inl rfl) (aC F1 (aB.mono hr (by lia)) rfl (ac (aa 1) (ac (aa 2) ah)))) ak)) (ae (aA (aa 1)) ak)))
 ·rintro ws G q e ⟨p,os,rfl,hG,⟨hp1,hp2⟩,hq⟩;walk_at "a0";walk_at "a";refine⟨_,hG,?_⟩;refine cc (λws τ G'=>G'=G/\∃(a:O) (todo:List O) (t:Option W),ws=(todo.map λo=> .tup (au o))/\τ=[some (.ref p),some (.tup (au a)),t]/\todo.foldl O.plusO a=os.foldl O.plusO .z/\a.NF/\a.dp<=4/\a.len+(todo.map O.len).sum<=1000/\∀o,o∈todo->o.NF/\o.dp<=4) ?_ ?_ _ _ _ ⟨rfl,.z,os,none,rfl,rfl,rfl,trivial,zero_le _,by show 0+_<=_;lia,hp1⟩
  ·rintro τ G' ⟨rfl,a,todo,t,hw,rfl,hf,_⟩;refine⟨hG,?_⟩;have hb:todo=[]:=by simpa using hw.symm
   subst hb;subst hU;walk_at "R";rw[←hf] at hq;exact aE.done hq
  ·rintro w1 ws τ G' kk ⟨rfl,a,todo,t,hw,rfl,hf,a1,a2,a3,a4⟩ hk;cases todo with
   | nil=>cases hw
   | cons o todo=>
     cases hw;refine⟨hG,?_⟩;obtain⟨o1,o2⟩:=a4 o yby;rw[map_cons,sum_cons] at a3;walk_at "R";refine⟨a,o,rfl,a1,by lia,by lia,by lia,by lia,?_⟩;have l1:=jE a o;have l2:=O.dp_plus a o;refine hk _ _ ⟨rfl,O.plusO a o,todo,_,rfl,rfl,hf,a1.plus o1,ycy l2 (max_le.mpr ⟨a2,o2⟩),by lia,λx hx=>a4 x (ybx _ hx)⟩
def Rows (C:Cs) (G:Gp) (ps:List (Addr×Row)):Prop:=∀p,p∈ps->jY C G p.1 p.2
theorem Rows.mono {C:Cs} {G G':Gp} {ps:List (Addr×Row)} (h:Rows C G ps) (l:cv G G'):Rows C G' ps:=λp hp=>(h p hp).mono l
theorem eA.rows {C:Cs} {G:Gp}:∀{as:List Addr} {rs:aT Str},eA C G as rs->∃ps,as=ps.map (·.1)/\rs.L=ps.map (·.2)/\Rows C G ps
 | _,_,.nil=>⟨[],rfl,rfl,λ_ h=>(nomatch h)⟩
 | _,_,.cons (a:=a) (r:=r) h hs=>by
   obtain⟨ps,h1,h2,h3⟩:=eA.rows hs;refine⟨(a,r)::ps,by rw[h1];rfl,by rw[aT.L,h2];rfl,λp hp=>?_⟩;rcases mem_cons.mp hp with rfl | hp
   ·exact h
   ·exact h3 p hp
theorem Rows.ats {C:Cs} {G:Gp}:∀{ps:List (Addr×Row)},Rows C G ps->eA C G (ps.map (·.1)) (aT.of (ps.map (·.2)))
 | [],_=> .nil
 | p::ps,h=> .cons (h p yby) (Rows.ats λx hx=>h x (ybx _ hx))
theorem lr.mem:∀{rs:aT Str},lr rs->∀r,r∈rs.L->Sz r
 | .nil,_,r,h=>(nomatch h)
 | .cons r0 rs,z,r,h=>by
   obtain⟨z1,z2⟩:=z.cons;rcases mem_cons.mp h with rfl | h
   ·exact z1
   ·exact lr.mem z2 r h
theorem gU:∀rs:aT Str,rs.L.length<=rs.hb
 | .nil=>ycx _
 | .cons r rs=>by
   have h1:=gU rs;have h2:1<=r.hb:=by
    cases r with
    | times b rs=>show 1<=rs.hb+2;lia
    | count rs n=>show 1<=rs.hb+3;lia
    | whl b hs rs=>show 1<=rs.hb+_+2;lia
    | bear b hs rs o=>show 1<=rs.hb+_+2;lia
    | _=>exact ycx _
   show rs.L.length+1<=rs.hb+r.hb;lia
theorem vH:∀rs:aT Str,rs.nn->((rs.L.map Rq.wt).map O.len).sum<=rs.lb
 | .nil,_=>ycx _
 | .cons r rs,h=>by
   have h1:=vH rs h.2;have h2:=(r.wq h.1).ln;show r.wt.len+((rs.L.map Rq.wt).map O.len).sum<=rs.lb+r.lb;lia
theorem lr.pls {rs:aT Str} (z:lr rs):GZ (rs.L.reverse.map Rq.wt):=by
 constructor
 ·intro o ho;obtain⟨r,hr,rfl⟩:=mem_map.mp ho;have:=r.wq (z.mem r (List.mem_reverse.mp hr)).nn;exact⟨this.nf,this.dp⟩
 ·have h1:=vH rs z.nn;have h2:=dZ rs;have h3:=z.hb;rw[map_reverse,map_reverse,List.sum_reverse];lia
theorem DR (rs:aT Str):dP rs.L=rs.wt:=by rw[←qK,aT.of_L]
def Ew (S:Nat->Prop) (rs:aT Str):Prop:=∀r,r∈rs.L->S (kd r)
def Bz (C:Cs) (S:Nat->Prop):bS:=λws G q _=>∃(as:List Addr) (rs:aT Str),ws=[.tup (as.map W.ref)]/\eA C G as rs/\lr rs/\Ew S rs/\q (.tup (au rs.wt)) G
theorem FK {C:Cs} {S:Nat->Prop} (F:cz K "weight_of" "weight_of" (aQ 19) f fd) (F1:Fx P w K mg base "total" ["some"] 4 DQ) (M:∀i,S i->Mt P w K mg base (C.at_ i) "weigh" ["self"] 6 (ku C i) []) (mr:mg "reversed"=none):cf P w K mg base 7 f fd ["things"] (Bz C S):=by
 refine dG F (N:=["things"]) (by walk_at "s") (by walk_at "l") λ_ _ _ _ _ _ nd hr=>?_;apply aN
 ·refine' cM (aA (aC F1 (aB.mono hr (by lia)) rfl (ac (gG (dN (by first | rfl | decide+kernel)) rfl (AN rfl mr ?it) (λ_ _ _ _=>?tg) (λ_ _ _ _=>?tt) (λ_ _ _ _=>lV (S:=S) (t:=λi=>kP (C.at_ i) "weigh" (ku C i) [] (gl 1) lK) λi hi=>nC ?me (M i hi) (aB.mono hr (by lia)))) ah)))
  case it=>exact(ac (aa 0) ah)
  case tg=>exact(bX 1 (by first | assumption | decide+kernel | rfl) rfl (.inl rfl))
  case tt=>exact dv
  case me=>exact(aa 1)
 ·rintro ws G q e ⟨as,rs,rfl,ha,hz,hkd,hq⟩;obtain⟨ps,rfl,h2,h3⟩:=ha.rows;have hl:=gU rs;have hb:=hz.hb;have hpl:ps.length=rs.L.length:=by rw[h2,length_map]
  walk_at "R";have ep:((ps.map (·.1)).map W.ref).reverse=ps.reverse.map λp=>W.ref p.1:=by rw[map_map,map_reverse];rfl
  rw[ep];refine fA (i:=1) (λp:Addr×Row=>W.ref p.1) (λp=> .tup (au p.2.wt)) (τ0:=[none,none]) trivial (λp hp k hk=>?_) (by rw[length_reverse];show 0+_<=_;lia) (λ_=>rfl) λp hp=>?_
  ·have hp':=List.mem_reverse.mp hp;have h4:=h3 p hp';have hm:p.2∈rs.L:=by rw[h2];exact mem_map.mpr ⟨p,hp',rfl⟩
   obtain⟨fs,h6,h7,_⟩:=h4.isIns;walk_at "R";exact⟨kd p.2,hkd _ hm,p.1,fs,rfl,h6,h7,p.1,p.2,rfl,h4,rfl,hz.mem _ hm,hk⟩
  ·refine⟨p,rs.L.reverse.map Rq.wt,rfl,?_,hz.pls,?_⟩
   ·rw[af,nil_append,h2,←map_reverse,map_map,map_map]
    rfl
   ·rw[oq,DR];exact⟨G,aE.new hp,hq⟩
theorem mw:(10:Int)^400<=zy:=by unfold zy;decide+kernel
theorem vJ {b:Str} {rs:aT Str} (h:Sz (.times b rs)):lr rs:=by
 have h1:=h.nn;have h2:=h.hb;have h3:=h.mb;have e2:(Rq.times b rs).hb=rs.hb+2:=rfl;have e3:(Rq.times b rs).mb=(rs.mb+2)*2:=rfl;rw[e2] at h2;rw[e3] at h3;exact⟨h1,by lia,by lia⟩
theorem pX {b:Str} {hs:List (O×List Str)} {rs:aT Str} (h:Sz (.whl b hs rs)):lr rs/\sI 3 hs/\O.hw (hpw hs)<=500/\O.mx (hpw hs)<=10^300:=by
 have h1:=h.nn;have h2:=h.hb;have h3:=h.mb;have e2:(Rq.whl b hs rs).hb=rs.hb+O.hw (hpw hs)+2:=rfl;have e3:(Rq.whl b hs rs).mb=(rs.mb+3)*((O.mx (hpw hs)).toNat+1)+1:=rfl;rw[e2] at h2;rw[e3] at h3;have h4:rs.mb+3<=(rs.mb+3)*((O.mx (hpw hs)).toNat+1):=Nat.le_mul_of_pos_right _ (by lia);have h5:(O.mx (hpw hs)).toNat+1<=(rs.mb+3)*((O.mx (hpw hs)).toNat+1):=Nat.le_mul_of_pos_left _ (by lia);exact⟨⟨h1.1,by lia,by lia⟩,h1.2,by lia,by lia⟩
theorem FL {C:Cs} (F:cz K "weigh" "Times.weigh" (bf 26 1) f fd) (F1:Fx P w K mg base "times" ["a","b"] 4 vD) (F2:Fx P w K mg base "endless" [] 4 DO) (hc:dr K C.t) (h1:aD K C.t "of_round"):cf P w K mg base 6 f fd ["self"] (ku C 4):=by
 walk_at "m2"
 ·exact(ae (aA (aC F1 (aB.mono hr (by lia)) rfl (ac (bn (aa 0)) (ac (AI F2 (aB.mono hr (by lia)) rfl) ah)))) ak)
 ·rintro ws G q e ⟨a,r,rfl,ha,hk,hz,hq⟩;cases ha with
  | times h hs=>
    rename_i b as rs;have z:=vJ hz;obtain⟨r1,r2,r3,r4⟩:=vF z;have c0:=mw;walk_at "R";refine⟨a,C.t,_,_,rfl,h,⟨hc,h1⟩,rfl,rfl,rs.rnd,om,rfl,r1,zw,by lia,by decide,by lia,by decide,ydv r4 (ydv (by decide+kernel) c0),ydv (by decide:O.mx om<=1) (ydv (by decide+kernel) c0),aE.done ?_⟩;exact hq
  | _=>cases hk
theorem jZ {rs:aT Str} {n:Int} (h:Sz (.count rs n)):lr rs/\0<=n/\n<=10^300:=by
 have h1:=h.nn;have h2:=h.hb;have h3:=h.mb;have e2:(Rq.count rs n).hb=rs.hb+3:=rfl;have e3:(Rq.count rs n).mb=(rs.mb+2)*(n.toNat+1)+1:=rfl;rw[e2] at h2;rw[e3] at h3;have h4:rs.mb+2<=(rs.mb+2)*(n.toNat+1):=Nat.le_mul_of_pos_right _ (by lia);have h5:n.toNat+1<=(rs.mb+2)*(n.toNat+1):=Nat.le_mul_of_pos_left _ (by lia);have h6:=h1.2;exact⟨⟨h1.1,by lia,by lia⟩,h6,by lia⟩
theorem jh {b:Str} {hs:List (O×List Str)} {rs:aT Str} {o:O} (h:Sz (.bear b hs rs o)):lr rs/\sI 3 hs/\o.NF/\o.dp<=4/\O.hw o<=500/\O.mx o<=10^300:=by
 have h1:=h.nn;have h2:=h.hb;have h3:=h.mb;have e2:(Rq.bear b hs rs o).hb=rs.hb+O.hw o+2:=rfl;have e3:(Rq.bear b hs rs o).mb=(rs.mb+3)*((O.mx o).toNat+1)+1:=rfl;rw[e2] at h2;rw[e3] at h3;have h4:rs.mb+3<=(rs.mb+3)*((O.mx o).toNat+1):=Nat.le_mul_of_pos_right _ (by lia);have h5:(O.mx o).toNat+1<=(rs.mb+3)*((O.mx o).toNat+1):=Nat.le_mul_of_pos_left _ (by lia);exact⟨⟨h1.1,by lia,by lia⟩,h1.2.1,h1.2.2.1,h1.2.2.2,by lia,by lia⟩
theorem FM {C:Cs} (F:cz K "weigh" "Count.weigh" (bf 27 1) f fd) (F1:Fx P w K mg base "times" ["a","b"] 4 vD) (F2:Fx P w K mg base "whole" ["n"] 3 kt) (F3:Fx P w K mg base "plus" ["a","b"] 3 mv) (hc:dr K C.t) (h1:aD K C.t "of_round") (hc2:dr K C.n) (h2:aD K C.n "loop") (h3:aD K C.n "rounds"):cf P w K mg base 6 f fd ["self"] (ku C 6):=by
 walk_at "m2"
 ·exact(ae (aA (aC F3 (aB.mono hr (by lia)) rfl (ac (aC F1 (aB.mono hr (by lia)) rfl (ac (bn (bn (aa 0))) (ac (aC F2 (aB.mono hr (by lia)) rfl (ac (bn (aa 0)) ah)) ah))) (ac (aC F2 (aB.mono hr (by lia)) rfl (ac ag ah)) ah)))) ak)
 ·rintro ws G q e ⟨a,r,rfl,ha,hk,hz,hq⟩;cases ha with
  | count h hl hs=>
    rename_i l b as rs n;obtain⟨z,n0,n1⟩:=jZ hz;obtain⟨r1,r2,r3,r4⟩:=vF z;have c0:=mw;have y:=Wq.wh n0;have x:=(aT.rb z.nn).many n0;have x1:=x.ln;have x2:=dZ rs;have x3:=z.hb;have y2:=y.hw;have y3:=y.mx;have y4:=y.dp;have e1:=Wq.wh (n:=1) (by decide);have n2:O.mx (O.wh n)<=10^300:=by lia
    walk_at "R";refine⟨a,C.n,_,_,rfl,h,⟨hc2,h2⟩,rfl,l,C.t,_,_,rfl,hl,⟨hc,h1⟩,rfl,a,C.n,_,_,rfl,h,⟨hc2,h3⟩,rfl,n,rfl,n0,rs.rnd,O.wh n,rfl,r1,y.nf,by lia,by lia,by lia,by lia,ydv r4 (ydv (by decide+kernel) c0),ydv n2 (ydv (by decide+kernel) c0),1,rfl,by decide,O.timesO rs.rnd (O.wh n),O.wh 1,rfl,x.nf,ycy x.dp (by decide),ycy e1.dp (by decide),by lia,ycy e1.ln (by decide),aE.done ?_⟩;exact hq
  | _=>cases hk
theorem FN {C:Cs} (F:cz K "weigh" "Bearing.weigh" (bf 29 1) f fd) (F1:Fx P w K mg base "times" ["a","b"] 4 vD) (F2:Fx P w K mg base "whole" ["n"] 3 kt) (F3:Fx P w K mg base "plus" ["a","b"] 3 mv) (hc:dr K C.w) (h1:aD K C.w "of_round") (hc2:dr K C.b) (h2:aD K C.b "loop") (h3:aD K C.b "borne"):cf P w K mg base 6 f fd ["self"] (ku C 7):=by
 walk_at "m2"
 ·exact(ae (aA (aC F3 (aB.mono hr (by lia)) rfl (ac (aC F1 (aB.mono hr (by lia)) rfl (ac (bn (bn (aa 0))) (ac (bn (aa 0)) ah))) (ac (aC F2 (aB.mono hr (by lia)) rfl (ac ag ah)) ah)))) ak)
 ·rintro ws G q e ⟨a,r,rfl,ha,hk,hz,hq⟩;cases ha with
  | bear h hl hs=>
    rename_i l b ms as rs o;obtain⟨z,m1,o1,o2,o3,o4⟩:=jh hz;obtain⟨r1,r2,r3,r4⟩:=vG z;have c0:=mw;have hb:=hz.hb;have hb2:(Rq.bear b ms rs o).hb=rs.hb+O.hw o+2:=rfl;have lt:=iw rs.rnw o;have l1:=O.len_le_hw rs.rnw;have l2:=O.len_le_hw o;have nt:=r1.times o1;have dt:=O.dp_times rs.rnw o;have e1:=Wq.wh (n:=1) (by decide);have x0:=(aT.rbw z.nn).ln;have x2:=dZ rs;walk_at "R";refine⟨a,C.b,_,_,rfl,h,⟨hc2,h2⟩,rfl,l,C.w,_,_,rfl,hl,⟨hc,h1⟩,rfl,a,C.b,_,_,rfl,h,⟨hc2,h3⟩,rfl,rs.rnw,o,rfl,r1,o1,by lia,by lia,by lia,by lia,ydv r4 (ydv (by decide+kernel) c0),ydv o4 (ydv (by decide+kernel) c0),1,rfl,by decide,O.timesO rs.rnw o,O.wh 1,rfl,nt,by lia,ycy e1.dp (by decide),by lia,ycy e1.ln (by decide),aE.done ?_⟩;exact hq
  | _=>cases hk
theorem lu:∀l:List Str,W.flats (l.map W.str)=true
 | []=>rfl
 | _::l=>by rw[map_cons,W.flats,lu l];rfl
theorem lv:∀l:List Str,W.deps (l.map W.str)=0
 | []=>rfl
 | _::l=>by rw[map_cons,W.deps,lv l];rfl
theorem lw:∀hs:List (O×List Str),W.flats (fo hs)=true
 | []=>rfl
 | p::hs=>by
   show W.flats (_::fo hs)=true;rw[W.flats,lw hs];simp[W.flat,W.flats,ca,lu]
theorem lx:∀{hs:List (O×List Str)},sI 3 hs->W.deps (fo hs)<=100
 | [],_=>zero_le _
 | p::hs,h=>by
   have h1:=lx (hs:=hs) λx hx=>h x (ybx _ hx);have h2:=(h p yby).2.1;have h3:=eh p.1;show W.deps (_::fo hs)<=100;simp only[W.deps,W.dep,lv];lia
theorem FO {C:Cs} (F:cz K "weigh" "While.weigh" (bf 28 1) f fd) (F1:Fx P w K mg base "times" ["a","b"] 4 vD) (F2:Fx P w K mg base "whole" ["n"] 3 kt) (F3:Fx P w K mg base "plus" ["a","b"] 3 mv) (F4:Dg P w K mg base "raised" ["exponent","times"] 2 vE [.int 1]) (hc:dr K C.w) (h1:aD K C.w "of_round") (h2:aD K C.w "heights"):cf P w K mg base 6 f fd ["self"] (ku C 5):=by
 refine dG (k:=5) F (N:=["self","height"]) (by walk_at "s") (by walk_at "l") λ_ _ _ _ _ _ nd hr=>?_;apply aN
 ·exact(ae (aM 1 nd rfl (.inl rfl) (jv (aI (et hr) (bn (aa 0)) (bh ah)) (aC F3 (aB.mono hr (by lia)) rfl (ac (av ay (av ay (bn (aa 0)) ag) ag) (ac (aC F2 (aB.mono hr (by lia)) rfl (ac ag ah)) ah))) (bh ah))) (ae (aA (aC F3 (aB.mono hr (by lia)) rfl (ac (aC F1 (aB.mono hr (by lia)) rfl (ac (bn (aa 0)) (ac (pf F4 (aB.mono hr (by lia)) rfl (ac (aa 1) ah)) ah))) (ac (aC F2 (aB.mono hr (by lia)) rfl (ac ag ah)) ah)))) ak))
 ·rintro ws G q e ⟨a,r,rfl,ha,hk,hz,hq⟩;cases ha with
  | whl h hs=>
    rename_i b ms as rs;obtain⟨z,m1,m2,m3⟩:=pX hz;obtain⟨r1,r2,r3,r4⟩:=vG z;obtain⟨g1,g2⟩:=uC m1;obtain⟨p1,p2⟩:=uD m1;have c0:=mw;have e1:=Wb.wh (n:=1) (by decide);have x:=(aT.wq rs z.nn).plus (Wq.wh (n:=2) (by decide));have y:=x.times p1 p2 (ycy (iw _ _) (Nat.add_le_add_right x.ln _));have y1:=y.ln;have l1:=dZ rs;have l2:=z.hb;have l3:(hpw ms).len=1:=rfl;have y2:Nat.le (O.len (O.wh 1)) 1:=e1.ln;have r4':=ydv r4 (ydv (by decide+kernel) c0);have m3':=ydv m3 (ydv (by decide+kernel) c0);have hq':∃G0,aE G0 G/\q (.tup (au (O.plusO (O.timesO rs.rnw (hpw ms)) (O.wh 1)))) G0:=aE.done hq;have y3:(O.timesO rs.rnw (hpw ms)).len<=40000:=ycy y1 (by lia);have fl:(W.tup (fo ms)).flat=true:=by simp only[W.flat];exact lw ms
    have dl:(W.tup (fo ms)).dep<=150:=by have:=lx m1;simp only[W.dep];lia
    walk_at "a0";refine⟨a,C.w,_,_,rfl,h,⟨hc,h2⟩,rfl,?_⟩;walk_at "R";refine⟨fl,dl,?_⟩;cases ms with
    | nil=>
      rw[ycw (by decide)];subst hU;walk_at "R";exact⟨a,C.w,_,_,rfl,h,⟨hc,h1⟩,rfl,zx [],1,rfl,by decide,rs.rnw,hpw [],rfl,r1,p1,by lia,by lia,by lia,by lia,r4',m3',1,rfl,by decide,O.timesO rs.rnw (hpw []),O.wh 1,rfl,y.nf,ycy y.dp (by decide),ycy e1.dp (by decide),y3,ycy e1.ln (by decide),hq'⟩
    | cons p ms=>
      rw[ycv (by simp only[fo,map_cons,W.eq,W.eqs])];refine⟨a,C.w,_,_,rfl,h,⟨hc,h2⟩,rfl,?_⟩;walk_at "R";obtain⟨o1,o2,o4⟩:=m1 p yby;have o3:=O.len_le_hw p.1;refine⟨1,rfl,by decide,p.1,O.wh 1,rfl,o1,ycy o2 (by decide),ycy e1.dp (by decide),by lia,ycy e1.ln (by decide),?_⟩;subst hU;walk_at "R";exact⟨a,C.w,_,_,rfl,h,⟨hc,h1⟩,rfl,zx (p::ms),1,rfl,by decide,rs.rnw,hpw (p::ms),rfl,r1,p1,by lia,by lia,by lia,by lia,r4',m3',1,rfl,by decide,O.timesO rs.rnw (hpw (p::ms)),O.wh 1,rfl,y.nf,ycy y.dp (by decide),ycy e1.dp (by decide),y3,ycy e1.ln (by decide),hq'⟩
  | _=>cases hk
def j6 (kvs:List (aK×W)):Prop:=∀p,p∈kvs->∃n:Int,p.2=.int n
noncomputable def HW:Option W->Int
 | some (.int n)=>n
 | _=>0
noncomputable def aX (kvs:List (aK×W)) (k:Str):Int:=HW (bT kvs (.inr k))
theorem ou {kvs:List (aK×W)} {k:aK} {w:W} {e:aK×W} (h:e∈cB kvs k w):e∈kvs∨e.2=w:=by
 unfold cB at h;split at h
 ·obtain⟨x,hx,rfl⟩:=mem_map.mp h;split
  ·exact .inr rfl
  ·exact .inl hx
 ·rcases mem_append.mp h with h | h
  ·exact .inl h
  ·rw[mem_singleton.mp h];exact .inr rfl
theorem j6.put {kvs:List (aK×W)} (h:j6 kvs) (k:aK) (n:Int):j6 (cB kvs k (.int n)):=λp hp=>by
 rcases ou hp with hp | hp
 ·exact h p hp
 ·exact⟨n,hp⟩
theorem j6.get {kvs:List (aK×W)} (h:j6 kvs) (k:Str):(bT kvs (.inr k)).getD (.int 0)=.int (aX kvs k):=by
 unfold aX;cases e:bT kvs (.inr k) with
 | none=>rfl
 | some w=>
   unfold bT at e;obtain⟨p,hp,rfl⟩:=Option.map_eq_some_iff.mp e;obtain⟨n,hn⟩:=h p (List.mem_of_find?_eq_some hp);rw[hn]
   rfl
def dq (B:Int) (kvs:List (aK×W)):Prop:=∀p,p∈kvs->∃n:Int,p.2=.int n/\0<=n/\n<=B
theorem dq.int {B:Int} {kvs:List (aK×W)} (h:dq B kvs):j6 kvs:=λp hp=>let ⟨n,e,_⟩:=h p hp;⟨n,e⟩
theorem dq.le {B C:Int} {kvs:List (aK×W)} (h:dq B kvs) (l:B<=C):dq C kvs:=λp hp=>let ⟨n,e,h1,h2⟩:=h p hp;⟨n,e,h1,ydv h2 l⟩
theorem dq.put {B:Int} {kvs:List (aK×W)} (h:dq B kvs) (k:aK) {n:Int} (h0:0<=n) (h1:n<=B):dq B (cB kvs k (.int n)):=λp hp=>by
 rcases ou hp with hp | hp
 ·exact h p hp
 ·exact⟨n,hp,h0,h1⟩
theorem dq.get {B:Int} {kvs:List (aK×W)} (h:dq B kvs) (hB:0<=B) (k:Str):0<=aX kvs k/\aX kvs k<=B:=by
 unfold aX;cases e:bT kvs (.inr k) with
 | none=>exact⟨Int.le_refl _,hB⟩
 | some w=>
   unfold bT at e;obtain⟨p,hp,rfl⟩:=Option.map_eq_some_iff.mp e;obtain⟨n,hn,h0,h1⟩:=h p (List.mem_of_find?_eq_some hp);rw[hn];exact⟨h0,h1⟩
def ow:bS:=λws G q _=>∃(d:Addr) (kvs:List (aK×W)) (z:Str),ws=[.ref d,.str z]/\G d=some (.dic kvs)/\j6 kvs/\q (.int (aX kvs z)) G
theorem FP (F:cz K "held" "held" (aQ 20) f fd):cf P w K mg base 1 f fd ["boxes","box"] ow:=by
 refine dG F (N:=["boxes","box"]) (by walk_at "s") (by walk_at "l") λ_ _ _ _ _ _ nd hr=>?_;apply aN
 ·exact(ae (aA (eU (aa 0) (aa 1) ag)) ak)
 ·rintro ws G q e ⟨d,kvs,z,rfl,hG,hi,hq⟩;walk_at "R";refine⟨⟨_,hG⟩,_,_,rfl,hG,?_⟩;rw[hi.get z];exact aE.done hq
def BA (C:Cs):bS:=λws G q _=>∃(a d:Addr) (b:Str) (hs:List (O×List Str)) (as:List Addr) (rs:aT Str) (kvs:List (aK×W)) (B:Int),ws=[.ref a,.ref d]/\G a=some (.ins C.w (Ev b hs as rs))/\hs.length<=100/\(∀p,p∈hs->p.2.length<=100)/\G d=some (.dic kvs)/\dq B kvs/\0<=B/\q (.tup (au (bN (aX kvs) hs))) G
theorem ox (g:Str->Int):∀l:List Str,(l.map g).sum=cP g l
 | []=>rfl
 | x::l=>by rw[map_cons,sum_cons,ox g l];rfl
theorem FQ {C:Cs} (F:cz K "measure" "While.measure" (bf 28 3) f fd) (F1:Fx P w K mg base "held" ["boxes","box"] 1 ow) (F2:Fx P w K mg base "raised" ["exponent","times"] 2 vE) (ms:mg "sum"=none) (hc:dr K C.w) (h1:aD K C.w "heights"):cf P w K mg base 4 f fd ["self","boxes"] (BA C):=by
 refine dG (k:=3) F (N:=["self","boxes","found","exponent","names"]) (by walk_at "s") (by walk_at "l") λ_ _ _ _ _ _ nd hr=>?_;apply aN
 ·exact(ae (aM 2 nd rfl (.inl rfl) (bh ah)) (ae (dg PySem.PassesOwn.never rfl (cr (bn (aa 0))) (fQ rfl (bQ (bO 3 nd rfl (.inl rfl)) (bQ (bO 4 nd rfl (.inl rfl)) eK))) (ae (aM 2 nd rfl (.inl rfl) (aO bB (aa 2) (aC F2 (aB.mono hr (by lia)) rfl (ac (aa 3) (ac (bb (CO rfl) rfl ms CW (ac (gG (dN (by first | rfl | decide+kernel)) rfl (cr (aa 4)) (λ_ _ _ _=>(bX 1 (by first | assumption | decide+kernel | rfl) rfl (.inl rfl))) (λ_ _ _ _=>dv) (λ_ _ _ _=>(aC F1 (aB.mono hr (by lia)) rfl (ac (aa 3 rfl (.inr (.inl rfl))) (ac (aa 1) ah))))) ah)) ah))))) ak)) (ae (aA (aa 2)) ak)))
 ·rintro ws G q e ⟨a,d,b,hs,as,rs,kvs,B,rfl,ha,hl,hn,hd,hB,B0,hq⟩;have nn:∀x,0<=aX kvs x:=λx=>(hB.get B0 x).1;walk_at "a0";walk_at "a";refine⟨a,C.w,_,_,rfl,ha,⟨hc,h1⟩,rfl,?_⟩;walk_at "R";refine cc (λws τ G'=>aE G G'/\∃(us:List (O×List Str)) (o:O) (t3 t4:Option W),ws=fo us/\(∀p,p∈us->p∈hs)/\τ=[some (.ref a),some (.ref d),some (.tup (au o)),t3,t4]/\O.app o (bN (aX kvs) us)=bN (aX kvs) hs/\o.len+us.length<=100) ?_ ?_ _ _ _ ⟨aE.refl _,hs,.z,none,none,rfl,λ_ h=>h,rfl,rfl,by show 0+_<=_;lia⟩
  ·rintro τ G' ⟨le,us,o,t3,t4,hw,hm,rfl,ho,hlen⟩;refine⟨trivial,?_⟩;have hu:us=[]:=by
    cases us with
    | nil=>rfl
    | cons _ _=>cases hw
   subst hu;subst hU;walk_at "R";rw[show bN (aX kvs) []=.z from rfl,O.app_z] at ho;rw[ho];exact⟨G,le,hq⟩
  ·rintro w1 ws τ G' kk ⟨le,us,o,t3,t4,hw,hm,rfl,ho,hlen⟩ hk;cases us with
   | nil=>cases hw
   | cons p us=>
     cases hw;refine⟨trivial,?_⟩;simp only[mZ,gz,mY,cG,set_cons_succ,set_cons_zero];refine⟨rfl,?_⟩;have hpl:=hn p (hm p yby);have hd':=le _ _ hd;walk_at "R";show cq _ _ _ _ _ [none,none,none,some (W.ref d)] G' [] _;refine fA W.str (λx=>W.int (aX kvs x)) trivial (λx hx k hk2=>?_) (by simp only[length_nil];lia) (λ_=>rfl) λp1 hp1=>?_
     ·walk_at "R";exact⟨d,kvs,x,rfl,hd',hB.int,hk2⟩
     refine⟨p.2.map (aX kvs),by rw[af,nil_append,map_map];rfl,?_⟩;rw[ox];have s0:=je nn p.2;refine⟨p.1,cP (aX kvs) p.2,rfl,s0,?_⟩;rw[length_cons] at hlen;have hm':∀q,q∈us->q∈hs:=λq hq=>hm q (ybx _ hq);have le1:aE G (aw G' p1 (GO.lst ([]++p.2.map λx=>W.int (aX kvs x)))):=le.trans (aE.new hp1)
     by_cases h0:cP (aX kvs) p.2=0
     ·rw[ycv h0];have e0:bN (aX kvs) (p::us)=bN (aX kvs) us:=ycv h0;rw[e0] at ho;refine⟨by rw[aY];show o.len+0<=_;lia,?_⟩;rw[show au o++au O.z=au o from append_nil _];exact hk _ _ ⟨le1,us,o,_,_,rfl,hm',rfl,ho,by lia⟩
     ·rw[ycw h0];have e0:bN (aX kvs) (p::us)=.c p.1 (cP (aX kvs) p.2) (bN (aX kvs) us):=ycw h0;rw[e0] at ho;refine⟨by rw[aY];show o.len+1<=_;lia,?_⟩;rw[←fi];refine hk _ _ ⟨le1,us,_,_,_,rfl,hm',rfl,?_,?_⟩
      ·rw[O.app_assoc];exact ho
      ·rw[O.len_app];show o.len+1+_<=_;lia
noncomputable def cJ (kvs:List (aK×W)):Row->List (aK×W)
 | .set b n=>cB kvs (.inr b) (.int n)
 | .copy b o=>cB kvs (.inr b) (.int (aX kvs o))
 | .add b o=>cB kvs (.inr b) (.int (aX kvs b+aX kvs o))
 | .less b=>cB kvs (.inr b) (.int (if aX kvs b-1<0 then 0 else aX kvs b-1))
 | _=>kvs
noncomputable def dc (kvs:List (aK×W)):Row->List Row
 | .times b rs=>[.count rs (aX kvs b)]
 | .count rs n=>if n=0 then [] else rs.L++[.count rs (n-1)]
 | .whl b hs rs=>if aX kvs b=0 then [] else rs.L++[.bear b hs rs (bN (aX kvs) hs)]
 | .bear b hs rs _=>if aX kvs b=0 then [] else rs.L++[.bear b hs rs (bN (aX kvs) hs)]
 | _=>[]
def d3 (kvs:List (aK×W)):Row->Prop
 | .bear b hs _ o=>0<aX kvs b/\0<=O.cmp (bN (aX kvs) hs) o
 | _=>False
noncomputable abbrev refs (ps:List (Addr×Row)):List W:=ps.map λx=>W.ref x.1
def my (C:Cs) (i:Nat):bS:=λws G q _=>∃(a d:Addr) (r:Row) (kvs:List (aK×W)),ws=[.ref a,.ref d]/\jY C G a r/\kd r=i/\Sz r/\r.od/\G d=some (.dic kvs)/\(∃B:Int,dq B kvs/\0<=B)/\kvs.length<=1000/\¬d3 kvs r/\
 ∀(p:Addr) (G':Gp) (ps:List (Addr×Row)),(∀x g,x≠d->G x=some g->G' x=some g)->G' d=some (.dic (cJ kvs r))->G p=none->G' p=some (.lst (refs ps))->Rows C G' ps->ps.map (·.2)=dc kvs r->q (.ref p) G'
theorem fB {C:Cs} {G:Gp} {q:WK} {d:Addr} {r:Row} {kvs:List (aK×W)} (hd:G d=some (.dic kvs)) (hs:dc kvs r=[]) (hq:∀(p:Addr) (G':Gp) (ps:List (Addr×Row)),(∀x g,x≠d->G x=some g->G' x=some g)->G' d=some (.dic (cJ kvs r))->G p=none->G' p=some (.lst (refs ps))->Rows C G' ps->ps.map (·.2)=dc kvs r->q (.ref p) G'):
 ∀p,aw G d (.dic (cJ kvs r)) p=none->∃G0,aE G0 (aw (aw G d (.dic (cJ kvs r))) p (.lst []))/\q (.ref p) G0:=λp hp=>by
 have pd:p≠d:=λz=>by rw[z,af] at hp;cases hp
 have hp0:G p=none:=by rw[ao pd] at hp;exact hp
 refine aE.done (hq p _ [] (λx g xd e=>?_) ((ao pd.symm).trans af) hp0 af (λ_ h=>(nomatch h)) hs.symm);rw[ao (λz=>by rw[z,hp0] at e;cases e),ao xd];exact e
theorem FR {C:Cs} (F:cz K "step" "Set.step" (bf 22 1) f fd) (hc:dr K C.s) (h1:aD K C.s "box") (h2:aD K C.s "amount"):cf P w K mg base 4 f fd ["self","boxes"] (my C 0):=by
 walk_at "m0"
 ·exact(ae (cR (bn (aa 0)) (aa 1) (bn (aa 0))) (ae (aA (bw ah)) ak))
 ·rintro ws G q e ⟨a,d,r,kvs,rfl,ha,hk,hz,hod,hd,⟨B,hB,B0⟩,hl,hnf,hq⟩;have hi:=hB.int;cases ha with
  | set ha=>
    rename_i b n;walk_at "a0";refine⟨a,C.s,_,.int n,rfl,ha,⟨hc,h2⟩,rfl,a,C.s,_,.str b,rfl,ha,⟨hc,h1⟩,rfl,d,b,kvs,rfl,rfl,hd,by lia,?_⟩;subst hU;walk_at "R";exact fB hd rfl hq
  | _=>cases hk
theorem FS {C:Cs} (F:cz K "step" "Copy.step" (bf 23 1) f fd) (F1:Fx P w K mg base "held" ["boxes","box"] 1 ow) (hc:dr K C.c) (h1:aD K C.c "box") (h2:aD K C.c "other"):cf P w K mg base 4 f fd ["self","boxes"] (my C 1):=by
 walk_at "m0"
 ·exact(ae (cR (aC F1 (aB.mono hr (by lia)) rfl (ac (aa 1) (ac (bn (aa 0)) ah))) (aa 1) (bn (aa 0))) (ae (aA (bw ah)) ak))
 ·rintro ws G q e ⟨a,d,r,kvs,rfl,ha,hk,hz,hod,hd,⟨B,hB,B0⟩,hl,hnf,hq⟩;have hi:=hB.int;cases ha with
  | copy ha=>
    rename_i b o;walk_at "a0";refine⟨a,C.c,_,.str o,rfl,ha,⟨hc,h2⟩,rfl,d,kvs,o,rfl,hd,hi,?_⟩;walk_at "R";refine⟨a,C.c,_,.str b,rfl,ha,⟨hc,h1⟩,rfl,d,b,kvs,rfl,rfl,hd,by lia,?_⟩;subst hU;walk_at "R";exact fB hd rfl hq
  | _=>cases hk
theorem FT {C:Cs} (F:cz K "step" "Add.step" (bf 24 1) f fd) (F1:Fx P w K mg base "held" ["boxes","box"] 1 ow) (hc:dr K C.a) (h1:aD K C.a "box") (h2:aD K C.a "other"):cf P w K mg base 4 f fd ["self","boxes"] (my C 2):=by
 walk_at "m0"
 ·exact(ae (cR (aO bB (aC F1 (aB.mono hr (by lia)) rfl (ac (aa 1) (ac (bn (aa 0)) ah))) (aC F1 (aB.mono hr (by lia)) rfl (ac (aa 1) (ac (bn (aa 0)) ah)))) (aa 1) (bn (aa 0))) (ae (aA (bw ah)) ak))
 ·rintro ws G q e ⟨a,d,r,kvs,rfl,ha,hk,hz,hod,hd,⟨B,hB,B0⟩,hl,hnf,hq⟩;have hi:=hB.int;cases ha with
  | add ha=>
    rename_i b o;walk_at "a0";refine⟨a,C.a,_,.str b,rfl,ha,⟨hc,h1⟩,rfl,d,kvs,b,rfl,hd,hi,a,C.a,_,.str o,rfl,ha,⟨hc,h2⟩,rfl,d,kvs,o,rfl,hd,hi,?_⟩;walk_at "R";refine⟨a,C.a,_,.str b,rfl,ha,⟨hc,h1⟩,rfl,d,b,kvs,rfl,rfl,hd,by lia,?_⟩;subst hU;walk_at "R";exact fB hd rfl hq
  | _=>cases hk
theorem FU {C:Cs} (F:cz K "step" "Less.step" (bf 25 1) f fd) (F1:Fx P w K mg base "held" ["boxes","box"] 1 ow) (mm:mg "max"=none) (hc:dr K C.l) (h1:aD K C.l "box"):cf P w K mg base 4 f fd ["self","boxes"] (my C 3):=by
 walk_at "m0"
 ·exact(ae (cR (bb (lQ rfl) rfl mm qp (ac (aO qk (aC F1 (aB.mono hr (by lia)) rfl (ac (aa 1) (ac (bn (aa 0)) ah))) ag) (ac ag ah))) (aa 1) (bn (aa 0))) (ae (aA (bw ah)) ak))
 ·rintro ws G q e ⟨a,d,r,kvs,rfl,ha,hk,hz,hod,hd,⟨B,hB,B0⟩,hl,hnf,hq⟩;have hi:=hB.int;cases ha with
  | less ha=>
    rename_i b;walk_at "a0";refine⟨a,C.l,_,.str b,rfl,ha,⟨hc,h1⟩,rfl,d,kvs,b,rfl,hd,hi,?_⟩;walk_at "R";refine⟨a,C.l,_,.str b,rfl,ha,⟨hc,h1⟩,rfl,d,b,kvs,rfl,rfl,hd,by lia,?_⟩;subst hU;walk_at "R";exact fB hd rfl hq
  | _=>cases hk
def BC (C:Cs):bS:=λws G q _=>∃(a l:Addr) (n:Int),ws=[.ref a,.ref l,.int n]/\G a=some (.ins C.n [])/\∀G':Gp,G' a=some (.ins C.n [("loop",.ref l),("rounds",.int n)])->(∀x,x≠a->G' x=G x)->q .non G'
theorem FV {C:Cs} (F:cz K "__init__" "Count.__init__" (bf 27 0) f fd) (hc:dr K C.n) (h1:aD K C.n "loop") (h2:aD K C.n "rounds"):cf P w K mg base 1 f fd ["self","loop","rounds"] (BC C):=by
 refine dG F (N:=["self","loop","rounds"]) (by walk_at "s") (by walk_at "l") λ_ _ _ _ _ _ nd hr=>?_;apply aN
 ·exact(ae (cm (aa 0) (aa 1)) (ae (cm (aa 0) (aa 2)) ak))
 ·rintro ws G q e ⟨a,l,n,rfl,hG,hq⟩;walk_at "a0";refine⟨a,C.n,[],rfl,hG,⟨hc,h1⟩,by simp,?_⟩;subst hU;walk_at "R";refine⟨a,C.n,[("loop",.ref l)],rfl,af,⟨hc,h2⟩,by simp,?_⟩;exact aE.done (hq _ af λx hx=>(ao hx).trans (ao hx))
theorem FW {C:Cs} (F:cz K "step" "Times.step" (bf 26 2) f fd) (F1:Fx P w K mg base "held" ["boxes","box"] 1 ow) (N1:nE P w K mg base "Count" C.n ["self","loop","rounds"] 1 (BC C)) (hc:dr K C.t) (h1:aD K C.t "box"):cf P w K mg base 4 f fd ["self","boxes"] (my C 4):=by
 walk_at "m0"
 ·exact(ae (aA (bw (ac (eP N1 (aB.mono hr (by lia)) rfl (ac (aa 0) (ac (aC F1 (aB.mono hr (by lia)) rfl (ac (aa 1) (ac (bn (aa 0)) ah))) ah))) ah))) ak)
 ·rintro ws G q e ⟨a,d,r,kvs,rfl,ha,hk,hz,hod,hd,⟨B,hB,B0⟩,hl,hnf,hq⟩;have hi:=hB.int;cases ha with
  | times ha hs=>
    rename_i b as rs;walk_at "R";refine⟨a,C.t,_,.str b,rfl,ha,⟨hc,h1⟩,rfl,d,kvs,b,rfl,hd,hi,λp hp=>⟨p,a,_,rfl,af,λG' g1 g2=>⟨rfl,λp2 hp2=>?_⟩⟩⟩;have le:aE G G':=λx g e=>(g2 x (λz=>by rw[z,hp] at e;cases e)).trans (aG e hp);have n2:p2≠p:=λz=>by rw[z,g1] at hp2;cases hp2
    have le2:=le.trans (aE.new (g:=GO.lst [W.ref p]) hp2);refine aE.done (hq p2 _ [(p,.count rs (aX kvs b))] (λx g _ e=>le2 _ _ e) (le2 _ _ hd) (bc le hp2) af (λx hx=>?_) rfl);rw[mem_singleton.mp hx];exact .count ((ao n2.symm).trans g1) (le2 _ _ ha) (hs.mono (aE.ins le2))
  | _=>cases hk
theorem FX {C:Cs} (F:cz K "step" "Count.step" (bf 27 2) f fd) (N1:nE P w K mg base "Count" C.n ["self","loop","rounds"] 1 (BC C)) (hc:dr K C.t) (h1:aD K C.t "rows") (hc2:dr K C.n) (h2:aD K C.n "loop") (h3:aD K C.n "rounds") (ml:mg "list"=none):cf P w K mg base 4 f fd ["self","boxes"] (my C 6):=by
 walk_at "m0"
 ·exact(ae (bo (aI (bH hr) (bn (aa 0)) ag) (ae (aA (bw ah)) ak) ak) (ae (aA (aO bB (bL (mh rfl) rfl ml lM (ac (bn (bn (aa 0))) ah)) (bw (ac (eP N1 (aB.mono hr (by lia)) rfl (ac (bn (aa 0)) (ac (aO qk (bn (aa 0)) ag) ah))) ah)))) ak))
 ·rintro ws G q e ⟨a,d,r,kvs,rfl,ha,hk,hz,hod,hd,⟨B,hB,B0⟩,hl,hnf,hq⟩;have hi:=hB.int;cases ha with
  | count ha hl' hs=>
    rename_i l b as rs n;obtain⟨z,n0,n1⟩:=jZ hz;walk_at "a0";refine⟨a,C.n,_,_,rfl,ha,⟨hc2,h3⟩,rfl,?_⟩;walk_at "R"
    by_cases hn0:n=0
    ·rw[ycv hn0];intro p hp;have le:=aE.new (g:=GO.lst []) hp;exact aE.done (hq p _ [] (λx g _ e=>le _ _ e) (le _ _ hd) hp af (λ_ h=>(nomatch h)) (by show[]=if n=0 then [] else rs.L++[Rq.count rs (n-1)];rw[ycv hn0]))
    ·rw[ycw hn0];subst hU;walk_at "R";refine⟨a,C.n,_,_,rfl,ha,⟨hc2,h2⟩,rfl,l,C.t,_,_,rfl,hl',⟨hc,h1⟩,rfl,?_⟩;walk_at "R";obtain⟨ps,rfl,hL,hR⟩:=hs.rows;have hll:=gU rs;have hzb:=z.hb;have hpl:ps.length=rs.L.length:=by rw[hL,length_map]
     refine⟨by rw[length_map,length_map];lia,λp hp=>⟨a,C.n,_,_,rfl,aG ha hp,⟨hc2,h2⟩,rfl,a,C.n,_,_,rfl,aG ha hp,⟨hc2,h3⟩,rfl,?_⟩⟩;walk_at "R";intro p1 hp1;refine⟨p1,l,_,rfl,af,λG' g1 g2=>⟨rfl,λp2 hp2=>?_⟩⟩;have le1:aE (aw G p (GO.lst (List.map W.ref (List.map (λx=>x.1) ps)))) G':=λx g e=>(g2 x (λz=>by rw[z,hp1] at e;cases e)).trans (aG e hp1);have le2:=le1.trans (aE.new (g:=GO.lst [W.ref p1]) hp2);have g2p:=le2 _ _ af;refine⟨_,_,g2p,af,by simp only[length_map,length_cons,length_nil];lia,λp3 hp3=>?_⟩;have n21:p2≠p1:=λz=>by rw[z,g1] at hp2;cases hp2
     have g1b:aw G' p2 (GO.lst [W.ref p1]) p1=some (.ins C.n [("loop",.ref l),("rounds",.int (n-1))]):=(ao n21.symm).trans g1;have le3:=(aE.new (g:=GO.lst (List.map W.ref (List.map (λx=>x.1) ps))) hp).trans (le2.trans (aE.new (g:=GO.lst (List.map W.ref (List.map (λx=>x.1) ps)++[W.ref p1])) hp3));have n31:p3≠p1:=λz=>by rw[z,g1b] at hp3;cases hp3
     refine aE.done (hq p3 _ (ps++[(p1,.count rs (n-1))]) (λx g _ e=>le3 _ _ e) (le3 _ _ hd) (bc (aE.new hp) (bc le2 hp3)) ?_ (λx hx=>?_) ?_)
     ·rw[af,map_map];simp only[refs,map_append,map_cons,map_nil]
      rfl
     ·rcases mem_append.mp hx with hx | hx
      ·exact(hR x hx).mono (aE.ins le3)
      ·rw[mem_singleton.mp hx];exact .count ((ao n31.symm).trans g1b) (le3 _ _ hl') (hs.mono (aE.ins le3))
     ·rw[map_append,←hL];show _=if n=0 then [] else rs.L++[Rq.count rs (n-1)]
      rw[ycw hn0]
      rfl
  | _=>cases hk
def DS (C:Cs):bS:=λws G q _=>∃(a l:Addr) (o:O),ws=[.ref a,.ref l,.tup (au o)]/\G a=some (.ins C.b [])/\∀G':Gp,G' a=some (.ins C.b [("loop",.ref l),("borne",.tup (au o))])->(∀x,x≠a->G' x=G x)->q .non G'
theorem FY {C:Cs} (F:cz K "__init__" "Bearing.__init__" (bf 29 0) f fd) (hc:dr K C.b) (h1:aD K C.b "loop") (h2:aD K C.b "borne"):cf P w K mg base 1 f fd ["self","loop","borne"] (DS C):=by
 refine dG F (N:=["self","loop","borne"]) (by walk_at "s") (by walk_at "l") λ_ _ _ _ _ _ nd hr=>?_;apply aN
 ·exact(ae (cm (aa 0) (aa 1)) (ae (cm (aa 0) (aa 2)) ak))
 ·rintro ws G q e ⟨a,l,o,rfl,hG,hq⟩;walk_at "a0";refine⟨a,C.b,[],rfl,hG,⟨hc,h1⟩,by simp,?_⟩;subst hU;walk_at "R";refine⟨a,C.b,[("loop",.ref l)],rfl,af,⟨hc,h2⟩,by simp,?_⟩;exact aE.done (hq _ af λx hx=>(ao hx).trans (ao hx))
def BD (C:Cs):bS:=λws G q _=>∃(a d:Addr) (b:Str) (hs:List (O×List Str)) (rs:aT Str) (kvs:List (aK×W)),ws=[.ref a,.ref d]/\jY C G a (.whl b hs rs)/\lr rs/\Ep hs/\G d=some (.dic kvs)/\(∃B:Int,dq B kvs/\0<=B)/\kvs.length<=1000/\
 ∀(p:Addr) (G':Gp) (ps:List (Addr×Row)),(∀x g,x≠d->G x=some g->G' x=some g)->G' d=some (.dic kvs)->G p=none->G' p=some (.lst (refs ps))->Rows C G' ps->ps.map (·.2)=dc kvs (.whl b hs rs)->q (.ref p) G'
theorem DT {C:Cs} (F:cz K "step" "While.step" (bf 28 2) f fd) (F1:Fx P w K mg base "held" ["boxes","box"] 1 ow) (N1:nE P w K mg base "Bearing" C.b ["self","loop","borne"] 1 (DS C)) (M1:Mt P w K mg base C.w "measure" ["self","boxes"] 4 (BA C) []) (hc:dr K C.w) (h1:aD K C.w "box") (h2:aD K C.w "rows") (ml:mg "list"=none):cf P w K mg base 6 f fd ["self","boxes"] (BD C):=by
 refine dG (k:=5) F (N:=["self","boxes"]) (by walk_at "s") (by walk_at "l") λ_ _ _ _ _ _ nd hr=>?_;apply aN
 ·exact(ae (bo (aI (bH hr) (aC F1 (aB.mono hr (by lia)) rfl (ac (aa 1) (ac (bn (aa 0)) ah))) ag) (ae (aA (bw ah)) ak) ak) (ae (aA (aO bB (bL (mh rfl) rfl ml lM (ac (bn (aa 0)) ah)) (bw (ac (eP N1 (aB.mono hr (by lia)) rfl (ac (aa 0) (ac (lU (aa 0) M1 (aB.mono hr (by lia)) (ac (aa 1) ah)) ah))) ah)))) ak))
 ·rintro ws G q e ⟨a,d,b,hs,rs,kvs,rfl,ha,z,ho,hd,⟨B,hB,B0⟩,hl,hq⟩;cases ha with
  | whl ha hs'=>
    rename_i as;have hi:=hB.int;walk_at "a0";refine⟨a,C.w,_,_,rfl,ha,⟨hc,h1⟩,rfl,d,kvs,b,rfl,hd,hi,?_⟩;walk_at "R"
    by_cases hn0:aX kvs b=0
    ·rw[ycv hn0];intro p hp;have le:=aE.new (g:=GO.lst []) hp;exact aE.done (hq p _ [] (λx g _ e=>le _ _ e) (le _ _ hd) hp af (λ_ h=>(nomatch h)) (by show[]=if aX kvs b=0 then [] else _;rw[ycv hn0]))
    ·rw[ycw hn0];subst hU;walk_at "R";refine⟨a,C.w,_,_,rfl,ha,⟨hc,h2⟩,rfl,?_⟩;walk_at "R";obtain⟨ps,rfl,hL,hR⟩:=hs'.rows;have hll:=gU rs;have hzb:=z.hb;have hpl:ps.length=rs.L.length:=by rw[hL,length_map]
     refine⟨by rw[length_map,length_map];lia,λp hp=>?_⟩;refine⟨a,_,rfl,aG ha hp,rfl,?_⟩;refine⟨a,d,b,hs,_,rs,kvs,B,rfl,aG ha hp,ho.ln,ho.nm,aG hd hp,hB,B0,λp1 hp1=>?_⟩;refine⟨p1,a,_,rfl,af,λG' g1 g2=>⟨rfl,λp2 hp2=>?_⟩⟩;have le1:aE (aw G p (GO.lst (List.map W.ref (List.map (λx=>x.1) ps)))) G':=λx g e=>(g2 x (λz=>by rw[z,hp1] at e;cases e)).trans (aG e hp1);have le2:=le1.trans (aE.new (g:=GO.lst [W.ref p1]) hp2);have g2p:=le2 _ _ af;refine⟨_,_,g2p,af,by simp only[length_map,length_cons,length_nil];lia,λp3 hp3=>?_⟩;have n21:p2≠p1:=λz=>by rw[z,g1] at hp2;cases hp2
     have g1b:aw G' p2 (GO.lst [W.ref p1]) p1=some (.ins C.b [("loop",.ref a),("borne",.tup (au (bN (aX kvs) hs)))]):=(ao n21.symm).trans g1;have le3:=(aE.new (g:=GO.lst (List.map W.ref (List.map (λx=>x.1) ps))) hp).trans (le2.trans (aE.new (g:=GO.lst (List.map W.ref (List.map (λx=>x.1) ps)++[W.ref p1])) hp3));have n31:p3≠p1:=λz=>by rw[z,g1b] at hp3;cases hp3
     refine aE.done (hq p3 _ (ps++[(p1,.bear b hs rs (bN (aX kvs) hs))]) (λx g _ e=>le3 _ _ e) (le3 _ _ hd) (bc (aE.new hp) (bc le2 hp3)) ?_ (λx hx=>?_) ?_)
     ·rw[af,map_map];simp only[refs,map_append,map_cons,map_nil]
      rfl
     ·rcases mem_append.mp hx with hx | hx
      ·exact(hR x hx).mono (aE.ins le3)
      ·rw[mem_singleton.mp hx];exact .bear ((ao n31.symm).trans g1b) (le3 _ _ ha) (hs'.mono (aE.ins le3))
     ·rw[map_append,←hL];show _=if aX kvs b=0 then [] else rs.L++[Rq.bear b hs rs (bN (aX kvs) hs)]
      rw[ycw hn0]
      rfl
def sB (C:Cs) (Cf:Addr) (i:Nat):bS:=λws G q e=>∃(a d:Addr) (r:Row) (kvs:List (aK×W)),ws=[.ref a,.ref d]/\jY C G a r/\kd r=i/\Sz r/\r.od/\G d=some (.dic kvs)/\(∃B:Int,dq B kvs/\0<=B)/\kvs.length<=1000/\(d3 kvs r->e (.ref Cf) G)/\
 (¬d3 kvs r->∀(p:Addr) (G':Gp) (ps:List (Addr×Row)),(∀x g,x≠d->G x=some g->G' x=some g)->G' d=some (.dic (cJ kvs r))->G p=none->G' p=some (.lst (refs ps))->Rows C G' ps->ps.map (·.2)=dc kvs r->q (.ref p) G')
theorem yA {C:Cs} {Cf:Addr} (hi:i≠7) {ws:List W} {G:Gp} {q:WK} {e:WX} (h:sB C Cf i ws G q e):my C i ws G q e:=by
 obtain⟨a,d,r,kvs,h1,h2,h3,h4,h5,h6,h7,h8,h9,h10⟩:=h;have hn:¬d3 kvs r:=λz=>by
  cases r with
  | bear _ _ _ _=>exact hi h3.symm
  | _=>exact z
 exact⟨a,d,r,kvs,h1,h2,h3,h4,h5,h6,h7,h8,hn,h10 hn⟩
theorem yB {C:Cs} {ws:List W} {G:Gp} {q:WK} {e:WX} (h:my C 5 ws G q e):BD C ws G q e:=by
 obtain⟨a,d,r,kvs,rfl,h2,h3,h4,h5,h6,h7,h8,h9,h10⟩:=h;cases r with
 | whl b hs rs=>exact⟨a,d,b,hs,rs,kvs,rfl,h2,(pX h4).1,h5.1,h6,h7,h8,h10⟩
 | _=>cases h3
theorem scS8:bV ["self","boxes"] ["self","boxes"] (am (bf 29 2)):=by walk_at "s"
theorem FZ {C:Cs} {Cf:Addr} (F:cz K "step" "Bearing.step" (bf 29 2) f fd) (hm:mg "NoFall"=some (.ref Cf)) (hC:XC K Cf bm) (F1:Fx P w K mg base "held" ["boxes","box"] 1 ow) (F2:Fx P w K mg base "compare" ["a","b"] 1 Bx) (M1:Mt P w K mg base C.w "measure" ["self","boxes"] 4 (BA C) []) (M2:Mt P w K mg base C.w "step" ["self","boxes"] 6 (BD C) []) (hc:dr K C.w) (h1:aD K C.w "box") (hc2:dr K C.b) (h2:aD K C.b "loop") (h3:aD K C.b "borne"):xj P w K mg base 8 f fd ["self","boxes"] (sB C Cf 7):=by
 have nd:=scS8.nd;refine E9 (k:=7) F scS8 (λws G q e h=>by obtain⟨_,_,_,_,rfl,_⟩:=h;rfl) (λcdv A outer s H E ws G q e hr hsp hE=>?_);apply aN
 ·refine' ae (bo ?c (cM (ue hm hC (λH1 G1=>hE (.ref Cf) H1 G1) rfl)) ak) ?s2
  case c=>exact(fP (dX (aI m9 (aC F1 (aB.mono hr (by lia)) rfl (ac (aa 1) (ac (bn (bn (aa 0))) ah))) ag) (cW (aI CK (aC F2 (aB.mono hr (by lia)) rfl (ac (lU (bn (aa 0)) M1 (aB.mono hr (by lia)) (ac (aa 1) ah)) (ac (bn (aa 0)) ah))) ag))))
  case s2=>exact(ae (aA (lU (bn (aa 0)) M2 (aB.mono hr (by lia)) (ac (aa 1) ah))) ak)
 ·obtain⟨a,d,r,kvs,rfl,ha,hk,hz,hod,hd,⟨B,hB,B0⟩,hl,hx,hq⟩:=hsp;cases ha with
  | bear ha hl' hs'=>
    rename_i l b ms as rs o;obtain⟨z,m1,o1,o2,o3,o4⟩:=jh hz;have hi:=hB.int;refine aJ λU hU=>?_;have bI:¬d3 kvs (.bear b ms rs o)->U { nx:=λx G1=>∃G0,aE G0 G1/\q W.non G0,rt:=λw G1=>∃G0,aE G0 G1/\q w G0 } [some (.ref a),some (.ref d)] G:=λhn=>by
     subst hU;walk_at "R";refine⟨a,C.b,_,_,rfl,ha,⟨hc2,h2⟩,rfl,l,_,rfl,hl',rfl,l,d,b,ms,rs,kvs,rfl,.whl hl' hs',z,hod.1,hd,⟨B,hB,B0⟩,hl,λp G' ps k1 k2 k3 k4 k5 k6=>?_⟩;exact aE.done (hq hn p G' ps k1 k2 k3 k4 k5 k6)
    walk_at "R";refine⟨a,C.b,_,_,rfl,ha,⟨hc2,h2⟩,rfl,l,C.w,_,_,rfl,hl',⟨hc,h1⟩,rfl,d,kvs,b,rfl,hd,hi,?_⟩;walk_at "R"
    by_cases hb:0<aX kvs b
    ·rw[ycv hb];refine⟨a,C.b,_,_,rfl,ha,⟨hc2,h2⟩,rfl,l,_,rfl,hl',rfl,l,d,b,ms,_,rs,kvs,B,rfl,hl',hod.1.ln,hod.1.nm,hd,hB,B0,?_⟩;refine⟨a,C.b,_,_,rfl,ha,⟨hc2,h3⟩,rfl,bN (aX kvs) ms,o,rfl,?_,?_⟩
     ·have:=qO (aX kvs) m1;lia
     walk_at "R"
     by_cases hcm:0<=O.cmp (bN (aX kvs) ms) o
     ·rw[ycv hcm];exact hx ⟨hb,hcm⟩
     ·rw[ycw hcm];exact bI λh=>hcm h.2
    ·rw[ycw hb];exact bI λh=>hb h.1
  | _=>cases hk
noncomputable abbrev oy (ms:List (O×Str)):List W:=ms.map λm=> .tup [.tup (au m.1),.str m.2]
def DU:bS:=λws G q _=>∃(l:Addr) (ms:List (O×Str)),ws=[.ref l]/\G l=some (.lst (oy ms))/\ms.length<=5/\(∀m,m∈ms->m.1.dp<=3)/\q (.tup (fo (d7 ms))) G
structure BE (P:Program) (w:World) (K:yav) (G:Gp) (d:Addr) (done:List (O×Str)) (ps:List (O×Addr)) (G':Gp):Prop where
 le:aE G G'
 fd:G d=none
 at_d:G' d=some (qZ P w K (ps.map λx=>(x.1,.ref x.2)))
 len:ps.length<=done.length
 mem:∀o,o∈ps.map (·.1)↔o∈done.map (·.1)
 ls:∀x,x∈ps->G' x.2=some (.lst ((bE done x.1).map W.str))
 fr:∀x,x∈ps->G x.2=none
 i1:∀x y,x∈ps->y∈ps->x.1=y.1->x=y
 i2:∀x y,x∈ps->y∈ps->x.2=y.2->x=y
theorem oz {ps:List (O×Addr)} {o:O} {x:W} (h:eV (ps.map λx=>(x.1,.ref x.2)) o=some x):∃k,x=.ref k/\(o,k)∈ps:=by
 unfold eV at h;obtain⟨p,hp,rfl⟩:=Option.map_eq_some_iff.mp h;have h1:=List.mem_of_find?_eq_some hp;have h2:=List.find?_some hp;obtain⟨y,hy,rfl⟩:=mem_map.mp h1;have:y.1=o:=by simpa using h2
 subst this;exact⟨y.2,rfl,hy⟩
theorem oA {ps:List (O×Addr)} {o:O} (h:eV (ps.map λx=>(x.1,W.ref x.2)) o=none):o∉ps.map (·.1):=λho=>by
 obtain⟨y,hy,e⟩:=mem_map.mp ho;unfold eV at h;have h1:=List.find?_eq_none.mp (Option.map_eq_none_iff.mp h) _ (mem_map.mpr ⟨y,hy,rfl⟩);exact h1 (ydz e)
theorem yC {ps:List (O×Addr)} {o:O} (h:o∈ps.map (·.1)):∃k,eV (ps.map λx=>(x.1,W.ref x.2)) o=some (.ref k)/\(o,k)∈ps:=by
 cases e:eV (ps.map λx=>(x.1,W.ref x.2)) o with
 | none=>exact absurd h (oA e)
 | some x=>
   obtain⟨k,rfl,hk⟩:=oz e;exact⟨k,rfl,hk⟩
theorem BE.old {G G':Gp} {d p k:Addr} {done:List (O×Str)} {ps:List (O×Addr)} {o:O} {b:Str} (g:BE P w K G d done ps G') (hp:G' p=none) (hk:(o,k)∈ps):
 BE P w K G d (done++[(o,b)]) ps (aw (aw G' p (.lst [])) k (.lst ((bE done o).map W.str++[.str b]))):=by
 have hkd:k≠d:=λz=>by have:=g.ls _ hk;rw[z,g.at_d] at this;cases this
 have hG0:=g.fr _ hk;refine⟨λa x e=>?_,g.fd,?_,?_,λx=>?_,λx hx=>?_,g.fr,g.i1,g.i2⟩
 ·rw[ao (λz=>by rw[z,hG0] at e;cases e)];exact aG (g.le _ _ e) hp
 ·rw[ao hkd.symm];exact aG g.at_d hp
 ·have:=g.len;rw[length_append];exact Nat.le_succ_of_le this
 ·rw[g.mem,map_append,mem_append];constructor
  ·exact Or.inl
  ·rintro(h | h)
   ·exact h
   ·rw[mem_singleton.mp h];exact(g.mem o).mp (mem_map.mpr ⟨_,hk,rfl⟩)
 ·rw[fV]
  by_cases e:x.2=k
  ·have:=g.i2 x (o,k) hx hk e;subst this;rw[af,ycv rfl,map_append]
   rfl
  ·rw[ao e,ycw (λz=>e (congrArg Prod.snd (g.i1 x (o,k) hx hk z.symm))),append_nil];exact aG (g.ls x hx) hp
theorem BE.new {G G':Gp} {d p:Addr} {done:List (O×Str)} {ps:List (O×Addr)} {o:O} {b:Str} (g:BE P w K G d done ps G') (hp:G' p=none) (hk:o∉ps.map (·.1)):
 BE P w K G d (done++[(o,b)]) (ps++[(o,p)]) (aw (aw (aw G' p (.lst [])) d (qZ P w K (ps.map (λx=>(x.1,W.ref x.2))++[(o,.ref p)]))) p (.lst [.str b])):=by
 have hpd:p≠d:=λz=>by rw[z,g.at_d] at hp;cases hp
 have hp0:=bc g.le hp;have hno:o∉done.map (·.1):=λh=>hk ((g.mem o).mpr h);have old:∀x,x∈ps->x.2≠p/\x.2≠d/\x.1≠o:=λx hx=>by
  refine⟨λz=>?_,λz=>?_,λz=>hk (mem_map.mpr ⟨x,hx,z⟩)⟩
  ·have:=g.ls x hx;rw[z,hp] at this;cases this
  ·have:=g.ls x hx;rw[z,g.at_d] at this;cases this
 refine⟨λa x e=>?_,g.fd,?_,?_,λx=>?_,λx hx=>?_,λx hx=>?_,λx y hx hy e=>?_,λx y hx hy e=>?_⟩
 ·rw[ao (λz=>by rw[z,hp0] at e;cases e),ao (λz=>by rw[z,g.fd] at e;cases e)];exact aG (g.le _ _ e) hp
 ·rw[ao hpd.symm,af,map_append]
  rfl
 ·have:=g.len;rw[length_append,length_append];exact Nat.succ_le_succ this
 ·rw[map_append,map_append,mem_append,mem_append,g.mem];exact Iff.rfl
 ·rw[fV];rcases mem_append.mp hx with hx | hx
  ·obtain⟨h1,h2,h3⟩:=old x hx;rw[ao h1,ao h2,ycw (λz=>h3 z.symm),append_nil];exact aG (g.ls x hx) hp
  ·rw[mem_singleton.mp hx,af,ycv rfl,jF hno]
   rfl
 ·rcases mem_append.mp hx with hx | hx
  ·exact g.fr x hx
  ·rw[mem_singleton.mp hx];exact hp0
 ·rcases mem_append.mp hx with hx | hx<;> rcases mem_append.mp hy with hy | hy
  ·exact g.i1 x y hx hy e
  ·rw[mem_singleton.mp hy] at e;exact absurd e (old x hx).2.2
  ·rw[mem_singleton.mp hx] at e;exact absurd e.symm (old y hy).2.2
  ·rw[mem_singleton.mp hx,mem_singleton.mp hy]
 ·rcases mem_append.mp hx with hx | hx<;> rcases mem_append.mp hy with hy | hy
  ·exact g.i2 x y hx hy e
  ·rw[mem_singleton.mp hy] at e;exact absurd e (old x hx).1
  ·rw[mem_singleton.mp hx] at e;exact absurd e.symm (old y hy).1
  ·rw[mem_singleton.mp hx,mem_singleton.mp hy]
theorem Ga (F:cz K "by_exponent" "by_exponent" (aQ 30) f fd) (mt:mg "tuple"=none) (ms:mg "sorted"=none):cf P w K mg base 6 f fd ["marks"] DU:=by
 refine dG (k:=5) F (N:=["marks","names","exponent","box"]) (by walk_at "s") (by walk_at "l") λ_ _ _ _ _ _ nd hr=>?_;apply aN
 ·refine' ae (aM 1 (by assumption) rfl (by first | exact Or.inl rfl | exact Or.inr rfl) ?q1) (ae (dg PassesOwn.never rfl ?it ?tg (cM (cN (ip ?q2 ?b)))) (cM (aA (bL ft rfl mt eO (ac (nr (dN (by first | rfl | decide+kernel)) rfl (cr (show QE _ _ (pS P w K _) from vp hr rfl rfl ms ?sn)) (λ_ _ _ _=>?cg) (λ_ _ _ _=>?ct) (λ_ _ _ _=>bh (ac ?ce (ac (bL ft rfl mt eO (ac (av (show wk _ (yq P w K) from DH hr) ?cn ?cx) ah)) ah)))) ah)))))
  case q1=>exact(show QE _ _ (u7 P w K) from yp)
  case it=>exact(cr (aa 0))
  case tg=>exact(fQ rfl (bQ (bO 2 nd rfl (.inl rfl)) (bQ (bO 3 nd rfl (.inl rfl)) eK)))
  case q2=>exact(show QE _ _ (Bs P w K _ _ _) from Bt hr (aa 1 rfl (.inr (.inl rfl))) (aa 2) (bw ah))
  case b=>exact(aa 3)
  case sn=>exact(aa 1 rfl (.inr (.inl rfl)))
  case cg=>exact(bX 1 (by first | assumption | decide+kernel | rfl) rfl (.inl rfl))
  case ct=>exact dv
  case ce=>exact(aa 1)
  case cn=>exact(aa 3 rfl (.inr (.inl rfl)))
  case cx=>exact(aa 1)
 ·rintro ws G q e ⟨l,ms,rfl,hG,h5,hdp,hq⟩;walk_at "a0";intro d hd;have hG1:=aG (g:=qZ P w K []) hG hd;walk_at "a";refine⟨_,hG1,?_⟩;refine cc (λws τ G'=>∃(done todo:List (O×Str)) (ps:List (O×Addr)) (t1 t2:Option W),ws=oy todo/\τ=[some (.ref l),some (.ref d),t1,t2]/\done++todo=ms/\BE P w K G d done ps G') ?_ ?_ _ _ _ ⟨[],ms,[],none,none,rfl,rfl,rfl,⟨aE.new hd,hd,af,ycx _,λ_=>Iff.rfl,λ_ h=>(nomatch h),λ_ h=>(nomatch h),λ_ _ h=>(nomatch h),λ_ _ h=>(nomatch h)⟩⟩
  ·rintro τ G' ⟨done,todo,ps,t1,t2,hw,rfl,hms,g⟩;refine⟨g.le _ _ hG,?_⟩;have hb:todo=[]:=by simpa using hw.symm
   subst hb;rw[append_nil] at hms;subst hms;subst hU;walk_at "R";refine⟨_,g.at_d,by rw[length_map];exact ycy g.len h5,λp ks hp hD hP=>?_⟩;walk_at "R";refine⟨_,af,?_⟩;have hl:ks.length<=5:=by rw[hP.length_eq,length_map,length_map];exact ycy g.len h5
   have hk:∀o,o∈ks↔o∈ps.map (·.1):=λo=>by
    rw[hP.mem_iff,map_map];exact Iff.rfl
   refine fA (i:=1) (λo:O=>W.tup (au o)) (λo=> .tup [.tup (au o),.tup ((bE done o).map W.str)]) (τ0:=[none,none,none,some (.ref d)]) af (λo ho k hkk=>?_) (by show 0+_<=_;lia) (λ_=>rfl) λp2 hp2 _=>?_
   ·obtain⟨a,h1,h2⟩:=yC ((hk o).mp ho);walk_at "R";exact⟨_,o,_,rfl,aG g.at_d hp,h1,_,aG (g.ls _ h2) hp,hkk⟩
   ·refine⟨_,af,G,g.le.trans ((aE.new hp).trans (aE.new hp2)),?_⟩;have e:([]:List W)++ks.map (λo=> .tup [.tup (au o),.tup ((bE done o).map W.str)])=fo (d7 done):=by
     rw[←uE hD λo=>(hk o).trans (g.mem o),nil_append];simp only[fo,map_map]
     rfl
    rw[e];exact hq
  ·rintro w1 ws τ G' kk ⟨done,todo,ps,t1,t2,hw,rfl,hms,g⟩ hk;cases todo with
   | nil=>cases hw
   | cons m todo=>
     cases hw;refine⟨g.le _ _ hG,?_⟩;walk_at "R";refine⟨⟨_,g.at_d⟩,λp hp=>?_⟩;have hl:done.length<=5:=by have:=congrArg List.length hms;rw[length_append] at this;lia
     have hnl:∀o,(bE done o).length<=5:=λo=>by
      unfold bE;rw[length_map];exact ycy (List.length_filter_le _ _) hl
     have hm:(done++[m])++todo=ms:=by rw[append_assoc];exact hms
     refine⟨m.1,_,rfl,hdp m (by rw[←hms];simp),aG g.at_d hp,?_,λx hx=>?_,λhn=>?_⟩
     ·rw[length_map];have:=g.len;lia
     ·obtain⟨k,rfl,hkm⟩:=oz hx;have h1:=aG (g:=GO.lst []) (g.ls _ hkm) hp;have h2:=hnl m.1;refine⟨⟨_,h1⟩,_,h1,by rw[length_map];show(bE done m.1).length<=_;lia,hk _ _ ⟨done++[m],todo,ps,_,_,rfl,rfl,hm,g.old hp hkm⟩⟩
     ·have hpd:p≠d:=λz=>by rw[z,g.at_d] at hp;cases hp
      have h1:=(ao (g:=qZ P w K (ps.map (λx=>(x.1,W.ref x.2))++[(m.1,.ref p)])) hpd).trans (af (G:=G') (a:=p) (g:=GO.lst []));exact⟨⟨_,h1⟩,_,h1,zero_le _,hk _ _ ⟨done++[m],todo,ps++[(m.1,p)],_,_,rfl,rfl,hm,g.new hp (oA hn)⟩⟩
inductive Pl where
 | set (b:Str) (n:Int)
 | copy (b o:Str)
 | add (b o:Str)
 | less (b:Str)
noncomputable def Pl.row:Pl->Row
 | .set b n=> .set b n
 | .copy b o=> .copy b o
 | .add b o=> .add b o
 | .less b=> .less b
noncomputable def Pl.kd:Pl->Nat
 | .set _ _=>0
 | .copy _ _=>1
 | .add _ _=>2
 | .less _=>3
noncomputable def Pl.args:Pl->List W
 | .set b n=>[.str b,.int n]
 | .copy b o=>[.str b,.str o]
 | .add b o=>[.str b,.str o]
 | .less b=>[.str b]
noncomputable def Pl.fs:Pl->List (Str×W)
 | .set b n=>[("box",.str b),("amount",.int n)]
 | .copy b o=>[("box",.str b),("other",.str o)]
 | .add b o=>[("box",.str b),("other",.str o)]
 | .less b=>[("box",.str b)]
theorem Pl.at {C:Cs} {G:Gp} (r:Pl) (h:G a=some (.ins (C.at_ r.kd) r.fs)):jY C G a r.row:=by
 cases r with
 | set b n=>exact .set h
 | copy b o=>exact .copy h
 | add b o=>exact .add h
 | less b=>exact .less h
def ja (C:Cs) (i:Nat):bS:=λws G q _=>∃(a:Addr) (r:Pl),ws=.ref a::r.args/\r.kd=i/\G a=some (.ins (C.at_ i) [])/\∀G':Gp,G' a=some (.ins (C.at_ i) r.fs)->(∀x,x≠a->G' x=G x)->q .non G'
theorem scN1:bV ["self","box","amount"] ["self","box","amount"] (am (bf 22 0)):=by walk_at "s"
theorem Gb {C:Cs} (F:cz K "__init__" "Set.__init__" (bf 22 0) f fd) (hc:dr K C.s) (h1:aD K C.s "box") (h2:aD K C.s "amount"):cf P w K mg base 1 f fd ["self","box","amount"] (ja C 0):=by
 have nd:=scN1.nd;refine CD F scN1 (λws G q e h=>by
  obtain⟨_,r,rfl,hk,_⟩:=h;cases r with
  | set b n=>rfl
  | add b o=>cases hk
  | copy b o=>cases hk
  | less b=>cases hk) (λcdv A outer s H E hr=>?_)
 apply aN
 ·exact(ae (cm (aa 0) (aa 1)) (ae (cm (aa 0) (aa 2)) ak))
 ·rintro ws G q e ⟨a,r,rfl,hk,hG,hq⟩;cases r with
  | set b n=>
    walk_at "a0";refine⟨a,C.s,[],rfl,hG,⟨hc,h1⟩,by simp,?_⟩;subst hU;walk_at "R";refine⟨a,C.s,[("box",.str b)],rfl,af,⟨hc,h2⟩,by simp,?_⟩;exact aE.done (hq _ af λx hx=>(ao hx).trans (ao hx))
  | add b o=>cases hk
  | copy b o=>cases hk
  | less b=>cases hk
theorem scN2:bV ["self","box","other"] ["self","box","other"] (am (bf 23 0)):=by walk_at "s"
theorem Gc {C:Cs} (F:cz K "__init__" "Copy.__init__" (bf 23 0) f fd) (hc:dr K C.c) (h1:aD K C.c "box") (h2:aD K C.c "other"):cf P w K mg base 1 f fd ["self","box","other"] (ja C 1):=by
 have nd:=scN2.nd;refine CD F scN2 (λws G q e h=>by
  obtain⟨_,r,rfl,hk,_⟩:=h;cases r with
  | copy b o=>rfl
  | set b n=>cases hk
  | add b o=>cases hk
  | less b=>cases hk) (λcdv A outer s H E hr=>?_)
 apply aN
 ·exact(ae (cm (aa 0) (aa 1)) (ae (cm (aa 0) (aa 2)) ak))
 ·rintro ws G q e ⟨a,r,rfl,hk,hG,hq⟩;cases r with
  | copy b o=>
    walk_at "a0";refine⟨a,C.c,[],rfl,hG,⟨hc,h1⟩,by simp,?_⟩;subst hU;walk_at "R";refine⟨a,C.c,[("box",.str b)],rfl,af,⟨hc,h2⟩,by simp,?_⟩;exact aE.done (hq _ af λx hx=>(ao hx).trans (ao hx))
  | set b n=>cases hk
  | add b o=>cases hk
  | less b=>cases hk
theorem scN3:bV ["self","box","other"] ["self","box","other"] (am (bf 24 0)):=by walk_at "s"
theorem Ge {C:Cs} (F:cz K "__init__" "Add.__init__" (bf 24 0) f fd) (hc:dr K C.a) (h1:aD K C.a "box") (h2:aD K C.a "other"):cf P w K mg base 1 f fd ["self","box","other"] (ja C 2):=by
 have nd:=scN3.nd;refine CD F scN3 (λws G q e h=>by
  obtain⟨_,r,rfl,hk,_⟩:=h;cases r with
  | add b o=>rfl
  | set b n=>cases hk
  | copy b o=>cases hk
  | less b=>cases hk) (λcdv A outer s H E hr=>?_)
 apply aN
 ·exact(ae (cm (aa 0) (aa 1)) (ae (cm (aa 0) (aa 2)) ak))
 ·rintro ws G q e ⟨a,r,rfl,hk,hG,hq⟩;cases r with
  | add b o=>
    walk_at "a0";refine⟨a,C.a,[],rfl,hG,⟨hc,h1⟩,by simp,?_⟩;subst hU;walk_at "R";refine⟨a,C.a,[("box",.str b)],rfl,af,⟨hc,h2⟩,by simp,?_⟩;exact aE.done (hq _ af λx hx=>(ao hx).trans (ao hx))
  | set b n=>cases hk
  | copy b o=>cases hk
  | less b=>cases hk
theorem scN4:bV ["self","box"] ["self","box"] (am (bf 25 0)):=by walk_at "s"
theorem Gg {C:Cs} (F:cz K "__init__" "Less.__init__" (bf 25 0) f fd) (hc:dr K C.l) (h1:aD K C.l "box"):cf P w K mg base 1 f fd ["self","box"] (ja C 3):=by
 have nd:=scN4.nd;refine CD F scN4 (λws G q e h=>by
  obtain⟨_,r,rfl,hk,_⟩:=h;cases r with
  | less b=>rfl
  | set b n=>cases hk
  | copy b o=>cases hk
  | add b o=>cases hk) (λcdv A outer s H E hr=>?_)
 apply aN
 ·exact(ae (cm (aa 0) (aa 1)) ak)
 ·rintro ws G q e ⟨a,r,rfl,hk,hG,hq⟩;cases r with
  | less b=>
    walk_at "R";refine⟨a,C.l,[],rfl,hG,⟨hc,h1⟩,by simp,?_⟩;exact aE.done (hq _ af λx hx=>ao hx)
  | set b n=>cases hk
  | copy b o=>cases hk
  | add b o=>cases hk
def BF (C:Cs) (S:Nat->Prop):bS:=λws G q _=>∃(a:Addr) (b:Str) (pl:Addr) (ps:List (Addr×Row)),ws=[.ref a,.str b,.ref pl]/\G a=some (.ins C.t [])/\G pl=some (.lst (refs ps))/\Rows C G ps/\lr (aT.of (ps.map (·.2)))/\Ew S (aT.of (ps.map (·.2)))/\∀G':Gp,G' a=some (.ins C.t (FH b (ps.map (·.1)) (aT.of (ps.map (·.2)))))->(∀x,x≠a->G' x=G x)->q .non G'
theorem Gh {C:Cs} {S:Nat->Prop} (F:cz K "__init__" "Times.__init__" (bf 26 0) f fd) (F1:Fx P w K mg base "weight_of" ["things"] 7 (Bz C S)) (F2:Fx P w K mg base "whole" ["n"] 3 kt) (F3:Fx P w K mg base "plus" ["a","b"] 3 mv) (mt:mg "tuple"=none) (hc:dr K C.t) (h1:aD K C.t "box") (h2:aD K C.t "rows") (h3:aD K C.t "of_round"):cf P w K mg base 8 f fd ["self","box","rows"] (BF C S):=by
 refine dG F (N:=["self","box","rows"]) (by walk_at "s") (by walk_at "l") λ_ _ _ _ _ _ nd hr=>?_;apply aN
 ·exact(ae (cm (aa 0) (aa 1)) (ae (cm (aa 0) (bL ft rfl mt eO (ac (aa 2) ah))) (ae (cm (aa 0) (aC F3 (aB.mono hr (by lia)) rfl (ac (aC F1 (aB.mono hr (by lia)) rfl (ac (bn (aa 0)) ah)) (ac (aC F2 (aB.mono hr (by lia)) rfl (ac ag ah)) ah)))) ak)))
 ·rintro ws G q e ⟨a,b,pl,ps,rfl,hG,hpl,hR,hz,hkd,hq⟩;have la:pl≠a:=λz=>by rw[z,hG] at hpl;cases hpl
  have hll:=gU (aT.of (ps.map (·.2)));rw[aT.L_of,length_map] at hll;have hzb:=hz.hb;walk_at "a0";refine⟨a,C.t,[],rfl,hG,⟨hc,h1⟩,by simp,?_⟩;walk_at "a";refine⟨_,(ao la).trans hpl,a,C.t,[("box",.str b)],rfl,af,⟨hc,h2⟩,by simp,?_⟩;have em:(ps.map (·.1)).map W.ref=refs ps:=by rw[map_map];rfl
  subst hU;walk_at "R";rw[ycw (by decide)];refine⟨a,C.t,[("box",.str b),("rows",.tup (refs ps))],.tup (refs ps),rfl,af,⟨hc,h2⟩,rfl,?_⟩;have li:cv G (aw (aw G a (GO.ins C.t [("box",W.str b)])) a (GO.ins C.t [("box",W.str b),("rows",W.tup (refs ps))])):=cv.but (p:=a) (λx g xa e=>(ao xa).trans ((ao xa).trans e)) (λC' y fs e=>by rw[hG] at e;cases e);have hw0:=aT.wq _ hz.nn;have e1:=Wb.wh (n:=1) (by decide);have l1:=hw0.ln;have l2:=dZ (aT.of (ps.map (·.2)));refine⟨ps.map (·.1),aT.of (ps.map (·.2)),by rw[em],(hR.mono li).ats,hz,hkd,1,rfl,by decide,(aT.of (ps.map (·.2))).wt,O.wh 1,rfl,hw0.nf,ycy hw0.dp (by decide),ycy e1.dp (by decide),by lia,ycy e1.ln (by decide),a,C.t,[("box",.str b),("rows",.tup (refs ps))],rfl,af,⟨hc,h3⟩,by simp,aE.done (hq _ ?_ λx hx=>(ao hx).trans ((ao hx).trans (ao hx)))⟩;rw[af,←em]
  rfl
def BG (C:Cs) (S:Nat->Prop):bS:=λws G q _=>∃(a:Addr) (b:Str) (ml pl:Addr) (ms:List (O×Str)) (ps:List (Addr×Row)),ws=[.ref a,.str b,.ref ml,.ref pl]/\G a=some (.ins C.w [])/\G ml=some (.lst (oy ms))/\ms.length<=5/\(∀m,m∈ms->m.1.dp<=3)/\G pl=some (.lst (refs ps))/\Rows C G ps/\lr (aT.of (ps.map (·.2)))/\Ew S (aT.of (ps.map (·.2)))/\∀G':Gp,G' a=some (.ins C.w (Ev b (d7 ms) (ps.map (·.1)) (aT.of (ps.map (·.2)))))->(∀x,x≠a->G' x=G x)->q .non G'
theorem Gi {C:Cs} {S:Nat->Prop} (F:cz K "__init__" "While.__init__" (bf 28 0) f fd) (F0:Fx P w K mg base "by_exponent" ["marks"] 6 DU) (F1:Fx P w K mg base "weight_of" ["things"] 7 (Bz C S)) (F2:Fx P w K mg base "whole" ["n"] 3 kt) (F3:Fx P w K mg base "plus" ["a","b"] 3 mv) (mt:mg "tuple"=none) (hc:dr K C.w) (h1:aD K C.w "box") (h0:aD K C.w "heights") (h2:aD K C.w "rows") (h3:aD K C.w "of_round"):cf P w K mg base 8 f fd ["self","box","marks","rows"] (BG C S):=by
 refine dG F (N:=["self","box","marks","rows"]) (by walk_at "s") (by walk_at "l") λ_ _ _ _ _ _ nd hr=>?_;apply aN
 ·exact(ae (cm (aa 0) (aa 1)) (ae (cm (aa 0) (aC F0 (aB.mono hr (by lia)) rfl (ac (aa 2) ah))) (ae (cm (aa 0) (bL ft rfl mt eO (ac (aa 3) ah))) (ae (cm (aa 0) (aC F3 (aB.mono hr (by lia)) rfl (ac (aC F1 (aB.mono hr (by lia)) rfl (ac (bn (aa 0)) ah)) (ac (aC F2 (aB.mono hr (by lia)) rfl (ac ag ah)) ah)))) ak))))
 ·rintro ws G q e ⟨a,b,ml,pl,ms,ps,rfl,hG,hml,hm5,hmd,hpl,hR,hz,hkd,hq⟩;have la:pl≠a:=λz=>by rw[z,hG] at hpl;cases hpl
  have lm:ml≠a:=λz=>by rw[z,hG] at hml;cases hml
  have hll:=gU (aT.of (ps.map (·.2)));rw[aT.L_of,length_map] at hll;have hzb:=hz.hb;walk_at "a0";refine⟨a,C.w,[],rfl,hG,⟨hc,h1⟩,by simp,?_⟩;walk_at "a";refine⟨ml,ms,rfl,(ao lm).trans hml,hm5,hmd,a,C.w,[("box",.str b)],rfl,af,⟨hc,h0⟩,by simp,?_⟩;walk_at "a";refine⟨_,(ao la).trans ((ao la).trans hpl),a,C.w,[("box",.str b),("heights",.tup (fo (d7 ms)))],rfl,af,⟨hc,h2⟩,by simp,?_⟩;have em:(ps.map (·.1)).map W.ref=refs ps:=by rw[map_map];rfl
  subst hU;walk_at "R"
  repeat rw[ycw (by decide)]
  have li:cv G (aw (aw (aw G a (GO.ins C.w [("box",W.str b)])) a (GO.ins C.w [("box",W.str b),("heights",W.tup (fo (d7 ms)))])) a (GO.ins C.w [("box",W.str b),("heights",W.tup (fo (d7 ms))),("rows",W.tup (refs ps))])):=cv.but (p:=a) (λx g xa e=>(ao xa).trans ((ao xa).trans ((ao xa).trans e))) (λC' y fs e=>by rw[hG] at e;cases e);have hw0:=aT.wq _ hz.nn;have e1:=Wb.wh (n:=2) (by decide);have l1:=hw0.ln;have l2:=dZ (aT.of (ps.map (·.2)));refine⟨a,C.w,[("box",.str b),("heights",.tup (fo (d7 ms))),("rows",.tup (refs ps))],.tup (refs ps),rfl,af,⟨hc,h2⟩,rfl,ps.map (·.1),aT.of (ps.map (·.2)),by rw[em],(hR.mono li).ats,hz,hkd,2,rfl,by decide,(aT.of (ps.map (·.2))).wt,O.wh 2,rfl,hw0.nf,ycy hw0.dp (by decide),ycy e1.dp (by decide),by lia,ycy e1.ln (by decide),a,C.w,[("box",.str b),("heights",.tup (fo (d7 ms))),("rows",.tup (refs ps))],rfl,af,⟨hc,h3⟩,by simp,aE.done (hq _ ?_ λx hx=>(ao hx).trans ((ao hx).trans ((ao hx).trans (ao hx))))⟩;rw[af,←em]
  rfl
def Bd (s:Nat) (rs:aT Str):Prop:=rs.hb<=300/\rs.mb<=10^100/\rs.lb<=s
structure Mk (s:Nat) (hs:List (O×List Str)):Prop where
 e:sI 3 hs
 k:Ep hs
 l:hs.length<=s
 h:O.hw (hpw hs)<=100
 m:O.mx (hpw hs)<=10^100
 x:∀p,p∈hs->O.mx p.1<=10^100
mutual
def gr (cp:Prop) (s:Nat) (B:Int):Row->Prop
 | .set _ n=>0<=n/\n<=B
 | .copy _ _=>cp
 | .times _ rs=>vK cp s B rs/\Bd s rs
 | .count rs n=>(vK cp s B rs/\Bd s rs)/\0<=n/\n<=B
 | .whl _ hs rs=>(vK cp s B rs/\Bd s rs)/\Mk s hs
 | .bear _ hs rs o=>(vK cp s B rs/\Bd s rs)/\Mk s hs/\o.NF/\o.dp<=4/\O.hw o<=100/\O.mx o<=10^100+100*B/\o.len<=s
 | _=>True
def vK (cp:Prop) (s:Nat) (B:Int):aT Str->Prop
 | .nil=>True
 | .cons r rs=>gr cp s B r/\vK cp s B rs
end
section
variable {cp:Prop} {s:Nat}
mutual
theorem re {B B':Int} (h:B<=B'):∀r:Row,gr cp s B r->gr cp s B' r
 | .set _ n,x=>⟨x.1,ydv x.2 h⟩
 | .copy _ _,x=>x
 | .add _ _,_=>trivial
 | .less _,_=>trivial
 | .times _ rs,x=>⟨j7 h rs x.1,x.2⟩
 | .count rs n,x=>⟨⟨j7 h rs x.1.1,x.1.2⟩,x.2.1,ydv x.2.2 h⟩
 | .whl _ _ rs,x=>⟨⟨j7 h rs x.1.1,x.1.2⟩,x.2⟩
 | .bear _ _ rs o,x=>⟨⟨j7 h rs x.1.1,x.1.2⟩,x.2.1,x.2.2.1,x.2.2.2.1,x.2.2.2.2.1,by have:=x.2.2.2.2.2.1;lia,x.2.2.2.2.2.2⟩
theorem j7 {B B':Int} (h:B<=B'):∀rs:aT Str,vK cp s B rs->vK cp s B' rs
 | .nil,_=>trivial
 | .cons r rs,x=>⟨re h r x.1,j7 h rs x.2⟩
end
mutual
theorem rf {B:Int}:∀r:Row,gr cp s B r->r.nn/\r.od
 | .set _ n,_=>⟨trivial,trivial⟩
 | .copy _ _,_=>⟨trivial,trivial⟩
 | .add _ _,_=>⟨trivial,trivial⟩
 | .less _,_=>⟨trivial,trivial⟩
 | .times _ rs,x=>eW rs x.1
 | .count rs n,x=>⟨⟨(eW rs x.1.1).1,x.2.1⟩,(eW rs x.1.1).2⟩
 | .whl _ hs rs,x=>⟨⟨(eW rs x.1.1).1,x.2.e⟩,x.2.k,(eW rs x.1.1).2⟩
 | .bear _ hs rs o,x=>⟨⟨(eW rs x.1.1).1,x.2.1.e,x.2.2.1,x.2.2.2.1⟩,x.2.1.k,(eW rs x.1.1).2⟩
theorem eW {B:Int}:∀rs:aT Str,vK cp s B rs->rs.nn/\rs.od
 | .nil,_=>⟨trivial,trivial⟩
 | .cons r rs,x=>⟨⟨(rf r x.1).1,(eW rs x.2).1⟩,(rf r x.1).2,(eW rs x.2).2⟩
end
theorem gW {B:Int}:∀{rs:aT Str},vK cp s B rs->∀r,r∈rs.L->gr cp s B r
 | .nil,_,r,h=>(nomatch h)
 | .cons r0 rs,x,r,h=>by
   rcases mem_cons.mp h with rfl | h
   ·exact x.1
   ·exact gW x.2 r h
theorem mB:((10^100+3)*(101*10^100+1)+1:Int)<=10^300:=by decide+kernel
theorem ji {a b c d:Nat} (h1:a<=c) (h2:b<=d):((a*b+1:Nat):Int)<=(c:Int)*d+1:=by
 have:=Nat.mul_le_mul h1 h2;rw[←Int.natCast_mul];lia
theorem mC:((1:Nat):Int)<=10^300:=by decide+kernel
theorem vL {B:Int} (hB:B<=10^100) (r:Row) (x:gr cp s B r):Sz r:=by
 have hn:=(rf r x).1;cases r with
 | set _ n=>exact⟨hn,by show 1<=500;decide,mC⟩
 | copy _ _=>exact⟨hn,by show 1<=500;decide,mC⟩
 | add _ _=>exact⟨hn,by show 1<=500;decide,mC⟩
 | less _=>exact⟨hn,by show 1<=500;decide,mC⟩
 | times _ rs=>
   obtain⟨h1,h2,h3⟩:=x.2;refine⟨hn,by show rs.hb+2<=500;lia,?_⟩;have:=ji (a:=rs.mb+2) (b:=2) (c:=10^100+3) (d:=101*10^100+1) (by lia) (by lia);refine ydv ?_ (ydv this mB);show(((rs.mb+2)*2:Nat):Int)<=_;lia
 | count rs n=>
   obtain⟨h1,h2,h3⟩:=x.1.2;have n1:=x.2.2;have n0:=x.2.1;refine⟨hn,by show rs.hb+3<=500;lia,?_⟩;exact ydv (ji (a:=rs.mb+2) (b:=n.toNat+1) (c:=10^100+3) (d:=101*10^100+1) (by lia) (by lia)) mB
 | whl _ hs rs=>
   obtain⟨h1,h2,h3⟩:=x.1.2;have m1:=x.2.h;have m2:=x.2.m;refine⟨hn,by show rs.hb+O.hw (hpw hs)+2<=500;lia,?_⟩;exact ydv (ji (a:=rs.mb+3) (b:=(O.mx (hpw hs)).toNat+1) (c:=10^100+3) (d:=101*10^100+1) (by lia) (by lia)) mB
 | bear _ hs rs o=>
   obtain⟨h1,h2,h3⟩:=x.1.2;obtain⟨_,_,_,m1,m2,_⟩:=x.2;refine⟨hn,by show rs.hb+O.hw o+2<=500;lia,?_⟩;exact ydv (ji (a:=rs.mb+3) (b:=(O.mx o).toNat+1) (c:=10^100+3) (d:=101*10^100+1) (by lia) (by lia)) mB
abbrev Sk (cp:Prop) (i:Nat):Prop:=i<8/\(i=1->cp)
theorem DV:∀r:Row,kd r<8
 | .set _ _=>by show 0<8;decide
 | .copy _ _=>by show 1<8;decide
 | .add _ _=>by show 2<8;decide
 | .less _=>by show 3<8;decide
 | .times _ _=>by show 4<8;decide
 | .whl _ _ _=>by show 5<8;decide
 | .count _ _=>by show 6<8;decide
 | .bear _ _ _ _=>by show 7<8;decide
theorem vM {B:Int} {r:Row} (x:gr cp s B r):Sk cp (kd r):=by
 refine⟨DV r,λh=>?_⟩;cases r with
 | copy _ _=>exact x
 | _=>cases h
theorem mD:∀rs:aT Str,(rs.L.map Rq.lb).sum=rs.lb
 | .nil=>rfl
 | .cons r rs=>by
   show r.lb+(rs.L.map Rq.lb).sum=rs.lb+r.lb;rw[mD rs];lia
theorem vN:∀r:Row,1<=r.lb
 | .set _ _=>ycx _
 | .copy _ _=>ycx _
 | .add _ _=>ycx _
 | .less _=>ycx _
 | .times _ _=>ycx _
 | .count rs _=>by show 1<=rs.lb+2;lia
 | .whl _ [] rs=>by show 1<=rs.lb+2;lia
 | .whl _ (_::_) rs=>by show 1<=2;lia
 | .bear _ _ rs o=>by show 1<=rs.lb+1+o.len+1;lia
theorem BH:∀rs:aT Str,rs.L.length<=rs.lb
 | .nil=>ycx _
 | .cons r rs=>by have:=BH rs;have:=vN r;show rs.L.length+1<=rs.lb+r.lb;lia
theorem rl {B:Int} {kvs:List (aK×W)} (hB:0<=B) (hk:dq B kvs) {b:Str} {hs:List (O×List Str)} {rs:aT Str} (h:(vK cp s B rs/\Bd s rs)/\Mk s hs):gr cp s B (.bear b hs rs (bN (aX kvs) hs)):=by
 have hg:∀x,0<=aX kvs x/\aX kvs x<=B:=λx=>hk.get hB x;obtain⟨m1,m2,m3⟩:=kU (g:=aX kvs) (n:=100) (M:=10^100) hg (by decide) h.2.e (λp hp=>⟨h.2.k.nm p hp,h.2.x p hp⟩);have hl:=fh (aX kvs) hs;have h1:=h.2.l;have h2:=h.2.k.ln;exact⟨h.1,h.2,qN (λx=>(hg x).1) h.2.e h.2.k.ds,m1,by lia,by lia,by lia⟩
theorem yD {B:Int} {kvs:List (aK×W)} (hB:0<=B) (hk:dq B kvs) {r:Row} (h:gr cp s B r):∀x,x∈dc kvs r->gr cp s B x:=λx hx=>by
 cases r with
 | times b rs=>
   rw[mem_singleton.mp hx];have:=hk.get hB b;exact⟨h,this.1,this.2⟩
 | count rs n=>
   have hx:x∈(if n=0 then [] else rs.L++[Rq.count rs (n-1)]):=hx
   by_cases h0:n=0
   ·rw[ycv h0] at hx;cases hx
   ·rw[ycw h0] at hx;have n0:=h.2.1;have n1:=h.2.2;rcases mem_append.mp hx with hx | hx
    ·exact gW h.1.1 x hx
    ·rw[mem_singleton.mp hx];exact⟨h.1,by lia,by lia⟩
 | whl b hs rs=>
   have hx:x∈(if aX kvs b=0 then [] else rs.L++[Rq.bear b hs rs (bN (aX kvs) hs)]):=hx
   by_cases h0:aX kvs b=0
   ·rw[ycv h0] at hx;cases hx
   ·rw[ycw h0] at hx;rcases mem_append.mp hx with hx | hx
    ·exact gW h.1.1 x hx
    ·rw[mem_singleton.mp hx];exact rl hB hk h
 | bear b hs rs o=>
   have hx:x∈(if aX kvs b=0 then [] else rs.L++[Rq.bear b hs rs (bN (aX kvs) hs)]):=hx
   by_cases h0:aX kvs b=0
   ·rw[ycv h0] at hx;cases hx
   ·rw[ycw h0] at hx;rcases mem_append.mp hx with hx | hx
    ·exact gW h.1.1 x hx
    ·rw[mem_singleton.mp hx];exact rl hB hk ⟨h.1,h.2.1⟩
 | set b n=>cases hx
 | copy b o=>cases hx
 | add b o=>cases hx
 | less b=>cases hx
theorem rm {kvs:List (aK×W)} {b:Str} {hs:List (O×List Str)} {rs:aT Str} (h1:Bd s rs) (h2:Mk s hs):((if aX kvs b=0 then [] else rs.L++[Rq.bear b hs rs (bN (aX kvs) hs)]).map Rq.lb).sum<=3*s+2/\(if aX kvs b=0 then [] else rs.L++[Rq.bear b hs rs (bN (aX kvs) hs)]).length<=s+1:=by
 by_cases h0:aX kvs b=0
 ·rw[ycv h0];exact⟨zero_le _,zero_le _⟩
 ·rw[ycw h0,map_append,sum_append,mD,length_append];have a1:=h1.2.2;have a2:=h2.l;have a3:=fh (aX kvs) hs;have a4:=BH rs;show rs.lb+(rs.lb+1+(bN (aX kvs) hs).len+1+0)<=_/\rs.L.length+1<=_;lia
theorem yE {B:Int} {kvs:List (aK×W)} {r:Row} (h:gr cp s B r):((dc kvs r).map Rq.lb).sum<=3*s+2/\(dc kvs r).length<=s+1:=by
 cases r with
 | times b rs=>
   have:=h.2.2.2;show(rs.lb+2+0:Nat)<=_/\1<=_;lia
 | count rs n=>
   show((if n=0 then [] else rs.L++[Rq.count rs (n-1)]).map Rq.lb).sum<=_/\(if n=0 then [] else rs.L++[Rq.count rs (n-1)]).length<=_
   by_cases h0:n=0
   ·rw[ycv h0];exact⟨zero_le _,zero_le _⟩
   ·rw[ycw h0,map_append,sum_append,mD,length_append];have h1:=h.1.2.2.2;have h2:=BH rs;show rs.lb+(rs.lb+2+0)<=_/\rs.L.length+1<=_;lia
 | whl b hs rs=>exact rm h.1.2 h.2
 | bear b hs rs o=>exact rm h.1.2 h.2.1
 | set b n=>exact⟨zero_le _,zero_le _⟩
 | copy b o=>exact⟨zero_le _,zero_le _⟩
 | add b o=>exact⟨zero_le _,zero_le _⟩
 | less b=>exact⟨zero_le _,zero_le _⟩
theorem vO {B:Int} {kvs:List (aK×W)} (hB:0<=B) (hk:dq B kvs) {r:Row} (h:gr cp s B r):dq (2*B) (cJ kvs r):=by
 have hk2:dq (2*B) kvs:=hk.le (by lia);cases r with
 | set b n=>exact hk2.put _ h.1 (by have:=h.2;lia)
 | copy b o=>have:=hk.get hB o;exact hk2.put _ this.1 (by lia)
 | add b o=>have:=hk.get hB o;have:=hk.get hB b;exact hk2.put _ (by lia) (by lia)
 | less b=>
   have:=hk.get hB b;refine hk2.put _ ?_ ?_
   ·split<;> lia
   ·split<;> lia
 | times b rs=>exact hk2
 | count rs n=>exact hk2
 | whl b hs rs=>exact hk2
 | bear b hs rs o=>exact hk2
theorem sC (kvs:List (aK×W)) (r:Row):(cJ kvs r).length<=kvs.length+1:=by
 cases r with
 | set b n=>exact cZ ..
 | copy b n=>exact cZ ..
 | add b n=>exact cZ ..
 | less b=>exact cZ ..
 | times b rs=>exact le_succ _
 | count rs n=>exact le_succ _
 | whl b hs rs=>exact le_succ _
 | bear b hs rs o=>exact le_succ _
end
noncomputable def lz:List Row×List (aK×W)->List Row×List (aK×W)
 | ([],kvs)=>([],kvs)
 | (r::st,kvs)=>(dc kvs r++st,cJ kvs r)
noncomputable def aW (s:List Row×List (aK×W)):Nat->List Row×List (aK×W)
 | 0=>s
 | n+1=>lz (aW s n)
def eB:List Row×List (aK×W)->Prop
 | ([],_)=>False
 | (r::_,kvs)=>d3 kvs r
structure rz (cp:Prop) (m l0:Nat) (B:Int) (i:Nat) (s:List Row×List (aK×W)):Prop where
 g:∀r,r∈s.1->gr cp m (B*2^i) r
 b:dq (B*2^i) s.2
 l:(s.1.map Rq.lb).sum<=l0+(3*m+2)*i
 k:s.2.length<=100+i
theorem rz.next {cp:Prop} {m l0:Nat} {B:Int} (hB:0<=B) {s:List Row×List (aK×W)} (h:rz cp m l0 B i s):rz cp m l0 B (i+1) (lz s):=by
 have hp:(0:Int)<=B*2^i:=Int.mul_nonneg hB (Int.le_of_lt (Int.pow_pos (by decide)));have e:B*2^ (i+1)=2*(B*2^i):=by rw[Int.pow_succ];rw[←Int.mul_assoc,Int.mul_comm]
 obtain⟨st,kvs⟩:=s;cases st with
 | nil=>
   refine⟨λr hr=>(nomatch hr),?_,zero_le _,by have h3:kvs.length<=100+i:=h.k;show kvs.length<=_;lia⟩;show dq _ kvs;rw[e];exact h.b.le (by lia)
 | cons r st=>
   have hg:=h.g r yby;have hl:=yE (kvs:=kvs) hg;have h1:=h.l;have h3:=h.k;simp only[map_cons,sum_cons] at h1;refine⟨λx hx=>?_,?_,?_,?_⟩
   ·rcases mem_append.mp hx with hx | hx
    ·exact re (by rw[e];lia) _ (yD hp h.b hg x hx)
    ·exact re (by rw[e];lia) _ (h.g x (ybx _ hx))
   ·rw[e];exact vO hp h.b hg
   ·show((dc kvs r++st).map Rq.lb).sum<=_;rw[map_append,sum_append,Nat.mul_add];lia
   ·have:=sC kvs r;show(cJ kvs r).length<=_;have h3:kvs.length<=100+i:=h3;lia
theorem rz.run {cp:Prop} {m l0:Nat} {B:Int} (hB:0<=B) {s:List Row×List (aK×W)} (h:rz cp m l0 B 0 s):∀n,rz cp m l0 B n (aW s n)
 | 0=>h
 | n+1=>(rz.run hB h n).next hB
theorem vP:∀rs:List Row,(∀r,r∈rs->r.nn)->(dP rs).NF/\(dP rs).dp<=4/\(dP rs).len<=(rs.map Rq.lb).sum
 | [],_=>⟨trivial,zero_le _,ycx _⟩
 | r::rs,h=>by
   obtain⟨h1,h2,h3⟩:=vP rs λx hx=>h x (ybx _ hx);have x:=r.wq (h r yby);refine⟨h1.plus x.nf,ycy (O.dp_plus _ _) (max_le.mpr ⟨h2,x.dp⟩),?_⟩;have:=jE (dP rs) r.wt;have:=x.ln;show(O.plusO (dP rs) r.wt).len<=r.lb+(rs.map Rq.lb).sum;lia
theorem mE:∀rs:List Row,rs.length<=(rs.map Rq.lb).sum
 | []=>ycx _
 | r::rs=>by have:=mE rs;have:=vN r;simp only[map_cons,sum_cons,length_cons];lia
noncomputable abbrev cy (st:List (Addr×Row)):List Row:=st.map (·.2)
noncomputable def cK:List (Addr×Row)->List W
 | []=>[]
 | p::st=>cK st++[.tup [.ref p.1,.tup (au (dP (cy (p::st))))]]
theorem BI (xs:List W) (x:W):ef (xs++[x]) (-1)=some x:=nM (by simp)
theorem oC:∀st:List (Addr×Row),(cK st).length=st.length
 | []=>rfl
 | a::as=>by rw[cK,length_append,oC as];rfl
def BJ:bS:=λws G q _=>∃(l:Addr) (st:List (Addr×Row)),ws=[.ref l]/\G l=some (.lst (cK st))/\q (.tup (au (dP (cy st)))) G
theorem Gj (F:cz K "weight_left" "weight_left" (aQ 34) f fd):cf P w K mg base 1 f fd ["left"] BJ:=by
 refine dG F (N:=["left"]) (by walk_at "s") (by walk_at "l") λ_ _ _ _ _ _ nd hr=>?_;apply aN
 ·exact(ae (aA (jv (aI (et hr) (aa 0) (bw ah)) (av ay (av ay (aa 0) (jA ag)) ag) (bh ah))) ak)
 ·rintro ws G q e ⟨l,as,rfl,hG,hq⟩;walk_at "R";intro p hp;refine⟨_,.nil (aG hG hp) af,?_⟩;cases as with
  | nil=>
    rw[show(cK []).isEmpty=true from rfl,ycw (by decide)];exact⟨_,aE.new hp,hq⟩
  | cons a as=>
    rw[show(cK (a::as)).isEmpty=false by simp[cK],ycv (by decide)];refine⟨_,_,aG hG hp,BI _ _,?_⟩;walk_at "R";exact⟨_,aE.new hp,hq⟩
structure kx (cp:Prop) (st:List (Addr×Row)):Prop where
 z:∀p,p∈st->Sz p.2
 kd:∀p,p∈st->Sk cp (kd p.2)
 l:((cy st).map Rq.lb).sum<=20000
 n:st.length<=30000
theorem kx.right {cp:Prop} {st us:List (Addr×Row)} (h:kx cp (st++us)):kx cp us:=by
 have h1:=h.l;have h2:=h.n;simp only[cy,map_append,sum_append,length_append] at h1 h2;exact⟨λp hp=>h.z p (yex _ hp),λp hp=>h.kd p (yex _ hp),by show((us.map (·.2)).map Rq.lb).sum<=20000;lia,by lia⟩
theorem kx.sum {cp:Prop} {st:List (Addr×Row)} (h:kx cp st):(dP (cy st)).NF/\(dP (cy st)).dp<=4/\(dP (cy st)).len<=20000:=by
 obtain⟨h1,h2,h3⟩:=vP (cy st) λr hr=>by
  obtain⟨p,hp,rfl⟩:=mem_map.mp hr;exact(h.z p hp).nn
 exact⟨h1,h2,ycy h3 h.l⟩
def zH (C:Cs) (cp:Prop):bS:=λws G q _=>∃(l t:Addr) (ps st:List (Addr×Row)),ws=[.ref l,.ref t]/\t≠l/\G l=some (.lst (cK st))/\G t=some (.lst (refs ps))/\Rows C G ps/\kx cp (ps++st)/\∀G':Gp,G' l=some (.lst (cK (ps++st)))->(∀x,x≠l->G' x=G x)->q .non G'
theorem DW {C:Cs} {cp:Prop} (F:cz K "put_ahead" "put_ahead" (aQ 33) f fd) (F1:Fx P w K mg base "weight_left" ["left"] 1 BJ) (F2:Fx P w K mg base "plus" ["a","b"] 3 mv) (M:∀i,Sk cp i->Mt P w K mg base (C.at_ i) "weigh" ["self"] 6 (ku C i) []) (mr:mg "reversed"=none):cf P w K mg base 7 f fd ["left","things"] (zH C cp):=by
 refine dG F (N:=["left","things","thing"]) (by walk_at "s") (by walk_at "l") λ_ _ _ _ _ _ nd hr=>?_;apply aN
 ·refine' cM (dg PassesOwn.never rfl (xA rfl mr ?it) ?tg (cM (cN (ip ?ob (bh (ac ?va (ac (aC F2 (aB.mono hr (by lia)) rfl (ac ?wl (ac (lV (S:=Sk cp) (t:=λi=>kP (C.at_ i) "weigh" (ku C i) [] (gl 2) lK) λi hi=>nC ?me (M i hi) (aB.mono hr (by lia))) ah))) ah)))))))
  case it=>exact(ac (aa 1) ah)
  case tg=>exact(bO 2 nd rfl (.inl rfl))
  case ob=>exact(aa 0)
  case va=>exact(aa 2)
  case wl=>exact(aC F1 (aB.mono hr (by lia)) rfl (ac (aa 0) ah))
  case me=>exact(aa 2)
 ·rintro ws G q e ⟨l,t,as,us,rfl,tl,hl,ht,ha,hn,hq⟩;walk_at "R";refine⟨_,ht,cc (λws τ G'=>∃(todo dn:List (Addr×Row)) (t2:Option W),ws=(refs todo).reverse/\as=todo++dn/\G' l=some (.lst (cK (dn++us)))/\(∀x,x≠l->G' x=G x)/\τ=[some (.ref l),some (.ref t),t2]) ?_ ?_ _ _ _ ⟨as,[],none,rfl,(append_nil _).symm,hl,λ_ _=>rfl,rfl⟩⟩
  ·rintro τ G' ⟨todo,dn,t2,hw,rfl,hl',hk,rfl⟩;have h0:todo=[]:=by simpa using hw.symm
   subst h0;refine⟨(hk t tl).trans ht,?_⟩;exact aE.done (hq G' hl' hk)
  ·rintro w1 ws τ G' k ⟨todo,dn,t2,hw,rfl,hl',hk,rfl⟩ hkk;rcases List.eq_nil_or_concat todo with rfl | ⟨todo',a,rfl⟩
   ·cases hw
   rw[List.concat_eq_append] at hw ha hn ht;rw[List.concat_eq_append];rw[refs,map_append,List.reverse_append] at hw;cases hw;refine⟨(hk t tl).trans ht,?_⟩;have hr0:=ha a (by simp);have lI:cv G G':=cv.but (p:=l) (λx g xl e=>(hk x xl).trans e) (λC' y fs e=>by rw[hl] at e;cases e);have hr1:=hr0.mono lI;obtain⟨fs,f1,f2,_⟩:=hr1.isIns;have hz:Sz a.2:=hn.z a (by simp);have hst:kx cp (dn++us):=by
    have:(todo'++[a]++dn)++us=(todo'++[a])++(dn++us):=by simp
    rw[this] at hn;exact hn.right
   obtain⟨s1,s2,s3⟩:=hst.sum;have x:=a.2.wq hz.nn;have x1:=x.ln;have x2:=zG a.2;have x3:=hz.hb;have hnl:=hn.n;simp only[length_append,length_cons,length_nil] at hnl;walk_at "R";refine⟨⟨_,hl'⟩,l,dn++us,rfl,hl',kd a.2,hn.kd a (by simp),a.1,fs,rfl,f1,f2,a.1,a.2,rfl,hr1,rfl,hz,dP (cy (dn++us)),a.2.wt,rfl,s1,by lia,ycy x.dp (by decide),by lia,by lia,_,hl',?_,?_⟩
   ·rw[oC,length_append];lia
   ·refine hkk _ _ ⟨todo',a::dn,_,rfl,by simp,af,λx hx=>(ao hx).trans (hk x hx),rfl⟩
theorem Gk {α:Type} (l:List α) (i j:Nat) (a b x y:α):(((l.set i a).set j b).set i x).set j y=(l.set i x).set j y:=by
 by_cases e:i=j
 ·subst e;rw[set_set,set_set,set_set,set_set]
 ·rw[List.set_comm _ _ (λz=>e z),set_set,List.set_comm _ _ (λz=>e z),set_set]
  first | rfl | rw[List.set_comm _ _ (λz=>e z)]
noncomputable def vQ:W->Bool
 | .int n=>decide (0<n)
 | _=>false
noncomputable def d4 (kvs:List (aK×W)):List (aK×W):=(kvs.filter λp=>vQ p.2).foldl (λa p=>cB a p.1 p.2) []
theorem fX {C:Gp->Prop} {tt:WT} {te:WE} {i j:Nat} {τ0:cV} {G:Gp} {q:List W->Gp->Prop} {pr:aK×W->Bool} {f:aK×W->W} (hC:C G):∀{kvs:List (aK×W)} {acc:List W} {τ:cV},
 (∀p,p∈kvs->∀k:Bool->Gp->Prop,k (pr p) G->tt ((τ0.set i (some (kW p.1))).set j (some p.2)) G k)->(∀p,p∈kvs->∀k:W->Gp->Prop,k (f p) G->te ((τ0.set i (some (kW p.1))).set j (some p.2)) G k)->acc.length+kvs.length<=100000->(∀x y,(τ.set i x).set j y=(τ0.set i x).set j y)->
 q (acc++(kvs.filter pr).map f) G->cq C (mZ 2 (gz (cG i) (gz (cG j) mY))) tt te (kvs.map λp=> .tup [kW p.1,p.2]) τ G acc q
 | [],acc,τ,_,_,_,_,hq=>⟨hC,by simpa using hq⟩
 | p::kvs,acc,τ,ht,he,hl,hτ,hq=>by
   refine⟨hC,rfl,?_⟩;show tt ((τ.set i (some (kW p.1))).set j (some p.2)) G _;rw[hτ];rw[length_cons] at hl;refine ht p yby _ ?_;have ih:=λacc' (h:acc'.length+kvs.length<=100000)=>fX (acc:=acc') (τ:=(τ0.set i (some (kW p.1))).set j (some p.2)) (q:=q) hC (λu hu=>ht u (ybx _ hu)) (λu hu=>he u (ybx _ hu)) h λx y=>by rw[Gk]
   cases hp:pr p with
   | true=>
     rw[ycv rfl];refine he p yby _ ⟨by lia,ih _ (by rw[length_append];simp only[length_cons,length_nil];lia) ?_⟩;simpa[filter_cons,hp] using hq
   | false=>
     rw[ycw (by decide)];refine ih _ (by lia) ?_;simpa[filter_cons,hp] using hq
def DX:bS:=λws G q _=>∃(l d:Addr) (st:List (Addr×Row)) (kvs:List (aK×W)),ws=[.ref l,.ref d]/\G l=some (.lst (cK st))/\G d=some (.dic kvs)/\j6 kvs/\kvs.length<=1000/\∀(p:Addr) (G':Gp),aE G G'->G p=none->G' p=some (.dic (d4 kvs))->q (.tup [.tup (au (dP (cy st))),.ref p]) G'
theorem Gm (F:cz K "told" "told" (aQ 35) f fd) (F1:Fx P w K mg base "weight_left" ["left"] 1 BJ) (md:mg "dict"=none):cf P w K mg base 2 f fd ["left","boxes"] DX:=by
 refine dG F (N:=["left","boxes"]) (by walk_at "s") (by walk_at "l") λ_ _ _ _ _ _ nd hr=>?_;apply aN
 ·refine' cM (mf (aA ?ex))
  case ex=>exact(bh (ac (aC F1 (aB.mono hr (by lia)) rfl (ac (aa 0) ah)) (ac (bL (qX rfl) rfl md jM (ac (gG (dN (by first | rfl | decide+kernel)) rfl (nS 1 rfl (.inl rfl)) (λ_ _ _ _=>(fQ rfl (bQ (bX 1 (by first | assumption | decide+kernel | rfl) rfl (.inl rfl)) (bQ (bX 2 (by first | assumption | decide+kernel | rfl) rfl (.inl rfl)) eK)))) (λ_ _ _ _=>(qm (aI m9 (aa 2) ag))) (λ_ _ _ _=>(bh (ac (aa 1) (ac (aa 2) ah))))) ah)) ah)))
 ·rintro ws G q e ⟨l,d,as,kvs,rfl,hl,hd,hi,hn,hq⟩;walk_at "R";refine⟨d,kvs,hd,l,as,rfl,hl,kvs,hd,λo us=>fX (pr:=λp=>vQ p.2) (f:=λp=> .tup [kW p.1,p.2]) (τ0:=[none,none,none]) af (λp hp k hk=>?_) (λp hp k hk=>?_) (by simp only[length_nil];lia) (λ_ _=>rfl) λp1 hp1=>⟨_,.lst af rfl,λp2 hp2=>?_⟩⟩
  ·obtain⟨n,en⟩:=hi p hp;rw[en] at hk ⊢;walk_at "R";exact hk
  ·walk_at "R";exact hk
  ·have n1:p1≠d:=λz=>by rw[z,af] at hp1;cases hp1
   have n2:p2≠p1:=λz=>by rw[z,af] at hp2;cases hp2
   rw[ao n2] at hp2;have n3:p2≠d:=λz=>by rw[z,af] at hp2;cases hp2
   rw[ao n3] at hp2;rw[ao n1] at hp1;refine⟨o,us,kvs,(ao n3.symm).trans ((ao n1.symm).trans af),_,aE.refl _,hq p2 _ (λx g e=>?_) hp2 ((ao n3).trans af)⟩
   by_cases xd:x=d
   ·subst xd;rw[hd] at e;cases e;exact af
   ·exact(ao xd).trans (aG (aG ((ao xd).trans e) ((ao n1).trans hp1)) ((ao n2).trans ((ao n3).trans hp2)))
noncomputable def sJ (s:List Row×List (aK×W)) (k:Nat):List Addr->List W
 | []=>[]
 | p::ps=> .tup [.tup (au (dP (aW s k).1)),.ref p]::sJ s (k+1) ps
theorem mG (s:List Row×List (aK×W)):∀(k:Nat) (ps:List Addr),(sJ s k ps).length=ps.length
 | _,[]=>rfl
 | k,p::ps=>by rw[sJ,length_cons,mG s (k+1) ps];rfl
theorem rA (s:List Row×List (aK×W)):∀(k:Nat) (ps:List Addr) (p:Addr),sJ s k (ps++[p])=sJ s k ps++[.tup [.tup (au (dP (aW s (k+ps.length)).1)),.ref p]]
 | k,[],p=>rfl
 | k,x::ps,p=>by
   rw[cons_append,sJ,rA s (k+1) ps p,sJ,cons_append,length_cons,show k+1+ps.length=k+(ps.length+1) by lia]
theorem rz.stq {cp:Prop} {m l0:Nat} {B:Int} {st:List (Addr×Row)} {kvs:List (aK×W)} (h:rz cp m l0 B i (cy st,kvs)) (hi:l0+(3*m+2)*i<=20000) (hB:B*2^i<=10^100):kx cp st:=by
 have h1:=ycy h.l hi;have h2:=mE (cy st);have h1:((cy st).map Rq.lb).sum<=20000:=h1;refine⟨λp hp=>vL hB _ (h.g p.2 (mem_map.mpr ⟨p,hp,rfl⟩)),λp hp=>vM (h.g p.2 (mem_map.mpr ⟨p,hp,rfl⟩)),h1,?_⟩;rw[length_map] at h2;lia
def DY (C:Cs) (Cf:Addr) (cp:Prop):bS:=λws G q e=>∃(t b:Addr) (ps:List (Addr×Row)) (kvs:List (aK×W)) (m s0 l0:Nat) (B:Int),ws=[.ref t,.ref b,.int (m:Int)]/\G t=some (.lst (refs ps))/\Rows C G ps/\G b=some (.dic kvs)/\rz cp s0 l0 B 0 (cy ps,kvs)/\0<=B/\(∀i,i<=m->B*2^i<=10^100)/\(∀i,i<=m->l0+(3*s0+2)*i<=20000)/\m<=60/\
 (∀(G':Gp) (n:Nat),aE G G'->n<m->eB (aW (cy ps,kvs) n)->(∀k,k<n->¬eB (aW (cy ps,kvs) k))->e (.ref Cf) G')/\
 ∀(G':Gp) (F:Addr) (ds:List Addr) (n:Nat),aE G G'->G F=none->G' F=some (.lst (sJ (cy ps,kvs) 0 ds))->ds.length=n+1->n<=m->((aW (cy ps,kvs) n).1=[]∨n=m)->(∀k,k<n->(aW (cy ps,kvs) k).1≠[])->(∀k,k<n->¬eB (aW (cy ps,kvs) k))->(∀k p,ds[k]?=some p->G' p=some (.dic (d4 (aW (cy ps,kvs) k).2))/\G p=none)->q (.ref F) G'
structure Ts (C:Cs) (G0 G:Gp) (l d F:Addr) (s:List Row×List (aK×W)) (ds:List Addr) (i:Nat) (st:List (Addr×Row)):Prop where
 le:aE G0 G
 hl:G l=some (.lst (cK st))
 hr:cy st=(aW s i).1
 ro:Rows C G st
 hd:G d=some (.dic (aW s i).2)
 hF:G F=some (.lst (sJ s 0 ds))
 ll:ds.length=i+1
 td:∀k p,ds[k]?=some p->G p=some (.dic (d4 (aW s k).2))/\G0 p=none
 dn:∀p,p∈ds->p≠d
 lF:l≠F
 f1:G0 l=none
 f2:G0 d=none
 f3:G0 F=none
 ne:∀k,k<i->(aW s k).1≠[]
 nb:∀k,k<i->¬eB (aW s k)
theorem Ts.mono {C:Cs} {G0 G G':Gp} {l d F:Addr} {s:List Row×List (aK×W)} {ds:List Addr} {st:List (Addr×Row)} (h:Ts C G0 G l d F s ds i st) (k:aE G G'):Ts C G0 G' l d F s ds i st:=
 ⟨h.le.trans k,k _ _ h.hl,h.hr,h.ro.mono (aE.ins k),k _ _ h.hd,k _ _ h.hF,h.ll,λn p hp=>⟨k _ _ (h.td n p hp).1,(h.td n p hp).2⟩,h.dn,h.lF,h.f1,h.f2,h.f3,h.ne,h.nb⟩
theorem Ts.next {C:Cs} {G0 G G':Gp} {l d F p:Addr} {s:List Row×List (aK×W)} {ds:List Addr} {st st':List (Addr×Row)} (h:Ts C G0 G l d F s ds i st) (k:∀x g,x≠l->x≠d->x≠F->G x=some g->G' x=some g) (hl:G' l=some (.lst (cK st'))) (hr:cy st'=(aW s (i+1)).1) (ro:Rows C G' st') (hd:G' d=some (.dic (aW s (i+1)).2)) (hF:G' F=some (.lst (sJ s 0 (ds++[p]))))
 (hp:G' p=some (.dic (d4 (aW s (i+1)).2))) (fp:G p=none) (pd:p≠d) (hn:(aW s i).1≠[]) (hb:¬eB (aW s i)):Ts C G0 G' l d F s (ds++[p]) (i+1) st':=by
 have kd:∀q,q∈ds->∀g,G q=some g->G' q=some g:=λq hq g e=>by
  obtain⟨n,hn⟩:=List.getElem?_of_mem hq;have e1:=(h.td n q hn).1;refine k q g (λz=>?_) (h.dn q hq) (λz=>?_) e
  ·rw[z,h.hl] at e1;cases e1
  ·rw[z,h.hF] at e1;cases e1
 refine⟨λx g e=>k x g (λz=>by rw[z,h.f1] at e;cases e) (λz=>by rw[z,h.f2] at e;cases e) (λz=>by rw[z,h.f3] at e;cases e) (h.le x g e),hl,hr,ro,hd,hF,by rw[length_append,h.ll];rfl,λn q hq=>?_,λq hq=>?_,h.lF,h.f1,h.f2,h.f3,λn hn'=>?_,λn hn'=>?_⟩
 ·by_cases hn:n<ds.length
  ·rw[List.getElem?_append_left hn] at hq;obtain⟨a1,a2⟩:=h.td n q hq;exact⟨kd q (List.mem_of_getElem? hq) _ a1,a2⟩
  ·rw[List.getElem?_append_right (by lia)] at hq;obtain⟨j,hj⟩:∃j,n-ds.length=j:=⟨_,rfl⟩;rw[hj] at hq;cases j with
   | zero=>
     cases hq;have hn2:n=i+1:=by have:=h.ll;lia
     subst hn2;exact⟨hp,bc h.le fp⟩
   | succ j=>cases hq
 ·rcases mem_append.mp hq with hq | hq
  ·exact h.dn q hq
  ·rw[mem_singleton.mp hq];exact pd
 ·rcases lt_or_ge n i with z | z
  ·exact h.ne n z
  ·have:n=i:=by lia
   rw[this];exact hn
 ·rcases lt_or_ge n i with z | z
  ·exact h.nb n z
  ·have:n=i:=by lia
   rw[this];exact hb
theorem scTc:bV ["rows","boxes","most","now","left","found","thing"] ["rows","boxes","most"] (am (aQ 32)):=by walk_at "s"
theorem Go {C:Cs} {Cf:Addr} {cp:Prop} {T:Addr} {dfs:yez} (F:fT K "trace" "trace" (aQ 32) f fd T dfs) (F1:Fx P w K mg base "put_ahead" ["left","things"] 7 (zH C cp)) (F2:Fx P w K mg base "told" ["left","boxes"] 2 DX) (M:∀i,Sk cp i->Dq P w K mg base (C.at_ i) "step" ["self","boxes"] 8 (sB C Cf i) []) (md:mg "dict"=none) (ml:mg "len"=none):xj P w K mg base 9 f fd ["rows","boxes","most"] (DY C Cf cp):=by
 have nd:=scTc.nd;refine Dh (k:=8) F scTc (λws G q e h=>by obtain⟨_,_,_,_,_,_,_,_,rfl,_⟩:=h;rfl) (λcdv A outer s H E ws G q e hr hsp hE=>?_);apply aN
 ·refine' ae ?s1 (ae ?s2 (ae ?s3 (ae ?s4 (ae (jw PassesOwn.leaving ?co (ae ?b1 (ae (cN (aC F1 (aB.mono hr (by lia)) rfl (ac ?le (ac (lV (S:=Sk cp) (t:=λi=>uk (C.at_ i) "step" (sB C Cf i) [] (gl 6) (qh (gl 3) lK) e) λi hi=>ul ?me (M i hi) (aB.mono hr (by lia)) hE ?ma) ah)))) ?b3))) ?s6))))
  case s1=>exact(aM 3 nd rfl (.inl rfl) (bL (qX rfl) rfl md jM (ac (aa 1) ah)))
  case s2=>exact(aM 4 nd rfl (.inl rfl) (bw ah))
  case s3=>exact(cN (aC F1 (aB.mono hr (by lia)) rfl (ac (aa 4) (ac (aa 0) ah))))
  case s4=>exact(aM 5 nd rfl (.inl rfl) (bw (ac (aC F2 (aB.mono hr (by lia)) rfl (ac (aa 4) (ac (aa 3) ah))) ah)))
  case co=>exact(fP (dX (aI (et hr) (aa 4) (bw ah)) (cW (aI CJ (bb cj rfl ml PySem.boot_len (ac (aa 5) ah)) (aa 2)))))
  case b1=>exact(aM 6 nd rfl (.inl rfl) (av ay (AQ (aa 4)) ag))
  case le=>exact(aa 4)
  case me=>exact(aa 6)
  case ma=>exact(ac (aa 3) ah)
  case b3=>exact(ae (cN (ip (aa 5) (aC F2 (aB.mono hr (by lia)) rfl (ac (aa 4) (ac (aa 3) ah))))) ak)
  case s6=>exact(ae (aA (aa 5)) ak)
 ·obtain⟨t,b,ps,kvs,m,s0,l0,B,rfl,ht,hX,hb,hO,hB0,hBi,hLi,hm,hx,hq⟩:=hsp;walk_at "a0";refine⟨kvs,.dic (.inl hb),λd hd0=>?_⟩;have le1:=aE.new (g:=GO.dic kvs) hd0;have g1:=af (G:=G) (a:=d) (g:=GO.dic kvs);generalize aw G d (.dic kvs)=G1 at le1 g1 ⊢;walk_at "a";intro l hl0;have fl:=bc le1 hl0;have le2:=le1.trans (aE.new (g:=GO.lst []) hl0);have g2d:=aG (g:=GO.lst []) g1 hl0;have g2l:=af (G:=G1) (a:=l) (g:=GO.lst []);generalize aw G1 l (.lst [])=G2 at le2 g2d g2l ⊢;have tl:t≠l:=λz=>by rw[z,fl] at ht;cases ht
  have dl:d≠l:=λz=>by rw[z,g2l] at g2d;cases g2d
  have hst0:kx cp ps:=hO.stq (hLi 0 (by lia)) (hBi 0 (by lia));walk_at "a";refine⟨l,t,ps,[],rfl,tl,g2l,le2 _ _ ht,hX.mono (aE.ins le2),by rw[append_nil];exact hst0,λG3 hl3 hk3=>?_⟩;have le3:aE G G3:=λx g e=>(hk3 x (λz=>by rw[z,fl] at e;cases e)).trans (le2 x g e);have g3d:=(hk3 d dl).trans g2d;rw[append_nil] at hl3;walk_at "a";have hk0:kvs.length<=100+0:=hO.k;refine⟨l,d,ps,kvs,rfl,hl3,g3d,hO.b.int,by lia,λp0 G4 le4 fp0 hp0=>?_⟩;intro F0 hF0;have S0:Ts C G (aw G4 F0 (.lst [.tup [.tup (au (dP (cy ps))),.ref p0]])) l d F0 (cy ps,kvs) [p0] 0 ps:=by
   have k5:aE G4 (aw G4 F0 (.lst [.tup [.tup (au (dP (cy ps))),.ref p0]])):=aE.new hF0;refine⟨(le3.trans le4).trans k5,k5 _ _ (le4 _ _ hl3),rfl,hX.mono (aE.ins ((le3.trans le4).trans k5)),k5 _ _ (le4 _ _ g3d),af,rfl,λk p hp=>?_,λp hp=>?_,λz=>?_,fl,hd0,bc (le3.trans le4) hF0,λk hk=>absurd hk (Nat.not_lt_zero _),λk hk=>absurd hk (Nat.not_lt_zero _)⟩
   ·cases k with
    | zero=>
      cases hp;exact⟨k5 _ _ hp0,bc le3 fp0⟩
    | succ k=>cases hp
   ·rw[mem_singleton.mp hp];intro z;rw[z,g3d] at fp0;cases fp0
   ·rw[←z,le4 _ _ hl3] at hF0;cases hF0
  generalize aw G4 F0 (.lst [.tup [.tup (au (dP (cy ps))),.ref p0]])=G5 at S0 ⊢;clear hp0 fp0 hF0 le4 g3d hl3 hk3 le3 g2d g2l le2 dl fl hl0 g1 le1 hd0;subst hU;refine aJ λU hU=>?_;refine uN (λj τ G'=>∃(i:Nat) (ds:List Addr) (st:List (Addr×Row)) (t6:Option W),Ts C G G' l d F0 (cy ps,kvs) ds i st/\τ=[some (.ref t),some (.ref b),some (.int (m:Int)),some (.ref d),some (.ref l),some (.ref F0),t6]/\i<=m/\j=m-i) ⟨_,0,[p0],ps,none,S0,rfl,by lia,rfl⟩ ?_;rintro j τ G' ⟨i,ds,st,t6,S,rfl,h50,rfl⟩ B' hB';clear S0;walk_at "R";intro p1 hp1;have S1:=S.mono (aE.new (g:=GO.lst []) hp1);have g1:=af (G:=G') (a:=p1) (g:=GO.lst []);generalize aw G' p1 (.lst [])=G6 at S1 g1 ⊢;clear hp1 S;have fin:(aW (cy ps,kvs) i).1=[]∨i=m->U { nx:=λx G1=>∃G0,aE G0 G1/\q W.non G0,rt:=λw G1=>∃G0,aE G0 G1/\q w G0 } [some (W.ref t),some (W.ref b),some (W.int (m:Int)),some (W.ref d),some (W.ref l),some (W.ref F0),t6] G6:=λhds=>by
   subst hU;walk_at "R";exact aE.done (hq G6 F0 ds i S1.le S1.f3 S1.hF S1.ll h50 hds S1.ne S1.nb S1.td)
  have hll:=S1.ll;have hOi:=hO.run hB0 i;refine⟨_,.nil S1.hl g1,?_⟩;cases st with
  | nil=>
    rw[show(cK []).isEmpty=true from rfl,ycw (by decide)];exact fin (.inl S1.hr.symm)
  | cons a st=>
    have hrun:aW (cy ps,kvs) i=(a.2::cy st,(aW (cy ps,kvs) i).2):=by rw[Prod.ext_iff];exact⟨S1.hr.symm,rfl⟩
    have hnx:aW (cy ps,kvs) (i+1)=(dc (aW (cy ps,kvs) i).2 a.2++cy st,cJ (aW (cy ps,kvs) i).2 a.2):=by
     show lz (aW (cy ps,kvs) i)=_;rw[hrun]
     rfl
    rw[show(cK (a::st)).isEmpty=false by simp[cK],ycv rfl];refine⟨_,.lst S1.hF,?_⟩;rw[mG]
    by_cases h5:((ds.length:Nat):Int)<=(m:Int)
    ·rw[ycv h5];refine⟨λτ1 G1=>∃(ds':List Addr) (st':List (Addr×Row)) (t6':Option W),Ts C G G1 l d F0 (cy ps,kvs) ds' (i+1) st'/\τ1=[some (.ref t),some (.ref b),some (.int (m:Int)),some (.ref d),some (.ref l),some (.ref F0),t6'],?_,?_⟩
     ·rintro τ1 G1 ⟨ds',st',t6',S',rfl⟩;exact⟨m- (i+1),by lia,i+1,ds',st',t6',S',rfl,by lia,rfl⟩
     ·have him:i<=60:=by lia
      have hOn:=hO.run hB0 (i+1);have rh:jY C G6 a.1 a.2:=S1.ro a yby;have hgr:=hOi.g a.2 (by rw[hrun];exact yby);have hz:Sz a.2:=vL (hBi i (by assumption)) _ hgr;have hbad:eB (aW (cy ps,kvs) i)=d3 (aW (cy ps,kvs) i).2 a.2:=by rw[hrun];rfl
      obtain⟨fs,f1,_,f3⟩:=rh.isIns;have dl:d≠l:=λz=>by have:=S1.hd;rw[z,S1.hl] at this;cases this
      have dF:d≠F0:=λz=>by have:=S1.hd;rw[z,S1.hF] at this;cases this
      have al:a.1≠l:=λz=>by rw[z,S1.hl] at f1;cases f1
      have hki:=hOi.k;have hkn:=hOn.k;have hid:=hOi.b.int;have hid2:=hOn.b.int;have hp0:(0:Int)<=B*2^i:=Int.mul_nonneg hB0 (Int.le_of_lt (Int.pow_pos (by decide)));generalize hN:(λ(τ1:cV) (G1:Gp)=>∃(ds':List Addr) (st':List (Addr×Row)) (t6':Option W),Ts C G G1 l d F0 (cy ps,kvs) ds' (i+1) st'/\τ1=[some (W.ref t),some (W.ref b),some (W.int (m:Int)),some (W.ref d),some (W.ref l),some (W.ref F0),t6'])=N;subst hB';refine aJ λU1 hU1=>?_;walk_at "R";refine⟨_,_,S1.hl,?_⟩;walk_at "R";have g7l:=af (G:=G6) (a:=l) (g:=GO.lst (cK st));have k7:∀x,x≠l->aw G6 l (.lst (cK st)) x=G6 x:=λx hx=>ao hx;have I7:cv G6 (aw G6 l (.lst (cK st))):=cv.but (p:=l) (λx g xl e=>(k7 x xl).trans e) (λC' y fs e=>by rw[S1.hl] at e;cases e);generalize aw G6 l (.lst (cK st))=G7 at g7l k7 I7 ⊢;walk_at "b";refine⟨kd a.2,vM hgr,a.1,fs,rfl,(k7 _ al).trans f1,f3,a.1,d,a.2,_,rfl,rh.mono I7,rfl,hz,(rf _ hgr).2,(k7 _ dl).trans S1.hd,⟨_,hOi.b,hp0⟩,by lia,λhno=>hx _ i (λx g e=>(k7 x (λz=>by rw[z,S1.f1] at e;cases e)).trans (S1.le x g e)) (by lia) (hbad▸hno) S1.nb,λhno p2 G8 p8 k8 hd8 fp2 hp2 hR8 he8=>?_⟩;have n2l:p2≠l:=λz=>by rw[z,g7l] at fp2;cases fp2
      have I8:cv G7 G8:=cv.but (p:=d) k8 (λC' y fs e=>by rw[k7 _ dl,S1.hd] at e;cases e);have hro:Rows C G8 st:=λx hx=>((S1.ro x (ybx _ hx)).mono I7).mono I8;have e8:cy (p8++st)=(aW (cy ps,kvs) (i+1)).1:=by rw[hnx];show List.map _ (p8++st)=_;rw[map_append,he8]
      have hst:kx cp (p8++st):=by
       have:rz cp s0 l0 B (i+1) (cy (p8++st),(aW (cy ps,kvs) (i+1)).2):=by rw[e8];exact hOn
       exact this.stq (hLi (i+1) (by lia)) (hBi (i+1) (by lia))
      refine⟨l,p2,p8,st,rfl,n2l,k8 l _ dl.symm g7l,hp2,hR8,hst,λG9 hl9 hk9=>?_⟩;have d8:G8 d=some (.dic (aW (cy ps,kvs) (i+1)).2):=by rw[hnx];exact hd8
      have k9:∀x g,x≠l->x≠d->G6 x=some g->G9 x=some g:=λx g xl xd e=>(hk9 x xl).trans (k8 x g xd ((k7 x xl).trans e));have hd9:G9 d=some (.dic (aW (cy ps,kvs) (i+1)).2):=(hk9 d dl).trans d8;have hro9:Rows C G9 (p8++st):=λx hx=>by
       have I9:cv G8 G9:=cv.but (p:=l) (λx g xl e=>(hk9 x xl).trans e) (λC' y fs e=>by rw[k8 l _ dl.symm g7l] at e;cases e);rcases mem_append.mp hx with hx | hx
       ·exact(hR8 x hx).mono I9
       ·exact(hro x hx).mono I9
      clear hk9 k8 hd8 d8 hR8 hro I8 hp2 fp2 n2l k7 g7l I7;have hF9:=k9 F0 _ S1.lF.symm dF.symm S1.hF;subst hU1;walk_at "R";refine⟨⟨_,hF9⟩,l,d,p8++st,_,rfl,hl9,hd9,hid2,by lia,λp4 G10 le10 fp4 hp4=>⟨_,le10 _ _ hF9,by rw[mG];lia,?_⟩⟩;have efo:=rA (cy ps,kvs) 0 ds p4;rw[show 0+ds.length=i+1 by lia,←e8] at efo;rw[←efo];have n4d:p4≠d:=λz=>by rw[z,hd9] at fp4;cases fp4
      have n4l:p4≠l:=λz=>by rw[z,hl9] at fp4;cases fp4
      have n4F:p4≠F0:=λz=>by rw[z,hF9] at fp4;cases fp4
      subst hN;have I11:cv G9 (aw G10 F0 (GO.lst (sJ (cy ps,kvs) 0 (ds++[p4])))):=cv.but (p:=F0) (λx g xF e=>(ao xF).trans (le10 _ _ e)) (λC' y fs e=>by rw[hF9] at e;cases e);refine⟨ds++[p4],p8++st,_,S1.next (λx g xl xd xF e=>(ao xF).trans (le10 _ _ (k9 x g xl xd e))) ((ao S1.lF).trans (le10 _ _ hl9)) e8 (hro9.mono I11) ((ao dF).trans (le10 _ _ hd9)) af ((ao n4F).trans hp4) ?_ n4d (by rw[hrun];exact List.cons_ne_nil _ _) (by rw[hbad];exact hno),rfl⟩;cases e:G6 p4 with
      | none=>rfl
      | some g=>rw[k9 p4 g n4l n4d e] at fp4;cases fp4
    ·rw[ycw h5];exact fin (.inr (by lia))
def DZ:bS:=λws G q _=>∃(ns:List Int) (k:Int),ws=[.scr ns,.int k]/\0<=k/\∀v:Int,q (.int v) G
theorem Gq (F:cz K "_law_cell_at" "_law_cell_at" (aQ 37) f fd) (ml:mg "len"=none):cf P w K mg base 1 f fd ["_law_script","_law_k"] DZ:=by
 refine dG F (N:=["_law_script","_law_k"]) (by walk_at "s") (by walk_at "l") λ_ _ _ _ _ _ nd hr=>?_;apply aN
 ·exact(ae (bo (aI (iR hr) (aa 1) (bb cj rfl ml PySem.boot_len (ac (aa 0) ah))) (ae (aA (av ay (aa 0) (aa 1))) ak) ak) (ae (aA ag) ak))
 ·rintro ws G q e ⟨ns,k,rfl,hk,hq⟩;walk_at "R";split
  ·obtain⟨n,hn⟩:=xP (ns:=ns) (i:=k) hk (by assumption);exact⟨n,hn,aE.done (hq n)⟩
  ·exact aE.done (hq 0)
def BK:bS:=λws G q _=>∃c:Int,ws=[.int c]/\∀v:Int,0<=v->v<=10^50->q (.int v) G
theorem Gr (F:cz K "_law_amount" "_law_amount" (aQ 39) f fd):cf P w K mg base 1 f fd ["_law_cell"] BK:=by
 refine dG F (N:=["_law_cell"]) (by walk_at "s") (by walk_at "l") λ_ _ _ _ _ _ nd hr=>?_;apply aN
 ·exact(ae (bo (aI (bH hr) (aO cE (aa 0) ag) ag) (ae (aA (aO cE (aO ck (aa 0) ag) (aO ug ag ag))) ak) ak) (ae (aA (aO cE (aO ck (aa 0) ag) ag)) ak))
 ·rintro ws G q e ⟨c,rfl,hq⟩;walk_at "R";refine eT (λh=>?_) (λh=>?_)
  ·exact aE.done (hq _ (Int.emod_nonneg _ (by decide)) (Int.le_of_lt (Int.emod_lt_of_pos _ (by decide))))
  ·have h1:=Int.emod_lt_of_pos (c/5) (b:=5) (by decide);exact aE.done (hq _ (Int.emod_nonneg _ (by decide)) (by lia))
def D1:bS:=λws G q _=>∃n:Int,ws=[.int n]/\q (.bl true) G
theorem Gs (F:cz K "_law_whole" "_law_whole" (aQ 38) f fd) (mi:mg "isinstance"=none) (m1:mg "int"=none) (m2:mg "bool"=none):cf P w K mg base 1 f fd ["_law_found"] D1:=by
 refine dG F (N:=["_law_found"]) (by walk_at "s") (by walk_at "l") λ_ _ _ _ _ _ nd hr=>?_;apply aN
 ·exact(ae (aA (ik (io (T:="int") (x:="int") (by first | simp[lL] | assumption | decide+kernel) PyProof.Rows.boot_int m1 rfl mi rfl (aa 0)) (ii (tJ (io (T:="bool") (x:="bool") (by first | simp[lL] | assumption | decide+kernel) PyProof.Rows.boot_bool m2 rfl mi rfl (aa 0)))))) ak)
 ·rintro ws G q e ⟨n,rfl,hq⟩;walk_at "R";exact aE.done hq
noncomputable abbrev ky (ms:List (Int×Str)):List W:=ms.map λm=> .tup [.int m.1,.str m.2]
def yF (ms:List (Int×Str)):Prop:=ms.length<=3/\∀m,m∈ms->0<=m.1/\m.1<=10^9
def D2:bS:=λws G q _=>∃(c:Int) (b:Str) (pn:Addr) (names:List Str),ws=[.int c,.str b,.ref pn]/\G pn=some (.lst (kh names))/\1<=names.length/\∀(p:Addr) (G':Gp) (ms:List (Int×Str)),aE G G'->G p=none->G' p=some (.lst (ky ms))->yF ms->q (.ref p) G'
theorem Gu (F:cz K "_law_marks" "_law_marks" (aQ 42) f fd) (mr:mg "range"=none) (ml:mg "len"=none):cf P w K mg base 1 f fd ["_law_cell","_law_box","_law_names"] D2:=by
 refine dG F (N:=["_law_cell","_law_box","_law_names","_law_marks_here","_law_k","_law_number","_law_exponent"]) (by walk_at "s") (by walk_at "l") λ_ _ _ _ _ _ nd hr=>?_;apply aN
 ·exact(ae (aM 3 nd rfl (.inl rfl) (bw ah)) (ae (dg PySem.PassesOwn.never rfl (jy rfl mr (ac (aO cE (aa 0) ag) ah)) (bO 4 nd rfl (.inl rfl)) (ae (aM 5 nd rfl (.inl rfl) (aO cE (aO uQ (aO ck (aa 0) ag) ag) (av ay (bw (ac ag (ac ag (ac ag ah)))) (aa 4)))) (ae (aM 6 nd rfl (.inl rfl) (aO cE (aO ck (aa 5) ag) ag)) (ae (bo (aI (bH hr) (aO cE (aa 5) ag) ag) (ae (aM 6 nd rfl (.inl rfl) (aO cE (aO ck (aa 5) ag) (aO ug ag ag))) ak) ak) (ae (bo (fP (dX (aI (bH hr) (aa 4) ag) (cW (aI (bH hr) (aO cE (aO ck (aa 0) ag) ag) ag)))) (ae (cN (ip (aa 3) (bh (ac ag (ac (aa 1) ah))))) ak) (ae (cN (ip (aa 3) (bh (ac (aa 6) (ac (av ay (aa 2) (aO cE (aa 5) (bb cj rfl ml PySem.boot_len (ac (aa 2) ah)))) ah))))) ak)) ak))))) (ae (aA (aa 3)) ak)))
 ·rintro ws G q e ⟨c,b,pn,names,rfl,hn,hn1,hq⟩;have hlen:(kh names).length=names.length:=length_map ..;walk_at "a0";intro p hp;walk_at "a";refine⟨by lia,by lia,?_⟩;have hc3:(c%4).toNat<=3:=by lia
  refine lY _ (λ(i:Nat) (τ:cV) (G':Gp)=>∃(ms:List (Int×Str)) (t1 t2 t3:Option W),τ=[some (.int c),some (.str b),some (.ref pn),some (.ref p),t1,t2,t3]/\ms.length=i/\(∀m,m∈ms->0<=m.1/\m.1<=10^9)/\G' p=some (.lst (ky ms))/\aE G G') ⟨[],none,none,none,rfl,rfl,λ_ h=>(nomatch h),af,aE.new hp⟩ ?_ ?_
  ·rintro τ G' ⟨ms,t1,t2,t3,rfl,h1,h2,h3,h4⟩;refine⟨trivial,?_⟩;subst hU;walk_at "R";exact aE.done (hq p G' ms h4 hp h3 ⟨by lia,h2⟩)
  ·rintro i τ G' k hi ⟨ms,t1,t2,t3,rfl,h1,h2,h3,h4⟩ hk;refine⟨trivial,?_⟩;have hi3:i<3:=by lia
   walk_at "a0";intro p1 hp1;have hm:∃m:Int,ef [W.int 2147483647,.int 1000000007,.int 998244353] (i:Int)=some (.int m)/\0<m:=by
    have h:i=0∨i=1∨i=2:=by lia
    rcases h with rfl | rfl | rfl
    ·exact⟨_,rfl,by decide⟩
    ·exact⟨_,rfl,by decide⟩
    ·exact⟨_,rfl,by decide⟩
   obtain⟨m,hm1,hm2⟩:=hm;refine⟨_,.int m,af,hm1,?_⟩;have n1:p≠p1:=λz=>by rw[←z,h3] at hp1;cases hp1
   have h3':=(ao (g:=GO.lst [W.int 2147483647,W.int 1000000007,W.int 998244353]) n1).trans h3;have h4':=h4.trans (aE.new (g:=GO.lst [W.int 2147483647,W.int 1000000007,W.int 998244353]) hp1);generalize aw G' p1 (GO.lst [W.int 2147483647,W.int 1000000007,W.int 998244353])=G2 at h3' h4' ⊢;simp only[CI];refine⟨by assumption,?_⟩;subst hU;dsimp only;generalize (c/8*48271)%m=v;have fin:∀(e:Int) (x:Str) (t3:Option W),0<=e/\e<=10^9->k [some (.int c),some (.str b),some (.ref pn),some (.ref p),some (.int (i:Int)),some (.int v),t3] (aw G2 p (.lst (ky ms++[.tup [.int e,.str x]]))):=λe x t3 he=>by
    refine hk _ _ ⟨ms++[(e,x)],_,_,_,rfl,by rw[length_append,h1];rfl,λm hm=>?_,?_,λa g e=>?_⟩
    ·rcases mem_append.mp hm with hm | hm
     ·exact h2 m hm
     ·rw[mem_singleton.mp hm];exact he
    ·rw[af];simp only[ky,map_append,map_cons,map_nil]
    ·rw[ao (λz=>by rw[z,hp] at e;cases e)];exact h4' _ _ e
   have gn:=h4' _ _ hn;have vm:=iB (i:=v) (j:=((kh names).length:Int)) (by lia);obtain⟨x,hx,_⟩:=jK (L:=names) (i:=v% ((kh names).length:Int)) vm.1 (by lia);refine aJ λU1 hU1=>?_;walk_at "R";subst hU1;refine aJ λU1 hU1=>?_;have go:∀e:Int,0<=e/\e<=10^9->U1 { nx:=k,rt:=λw G1=>∃G0,aE G0 G1/\q w G0,bk:=U { nx:=λx G1=>∃G0,aE G0 G1/\q W.non G0,rt:=λw G1=>∃G0,aE G0 G1/\q w G0 },ct:=k } [some (.int c),some (.str b),some (.ref pn),some (.ref p),some (.int (i:Int)),some (.int v),some (.int e)] G2:=λe he=>by
    subst hU1;walk_at "R";refine eT (λ_=>eT (λ_=>?_) λ_=>?_) λ_=>?_
    ·exact⟨⟨_,h3'⟩,_,h3',by rw[length_map];lia,fin 9 b _ (by decide)⟩
    ·exact⟨⟨_,h3'⟩,_,.lst gn,by lia,_,_,gn,hx,_,h3',by rw[length_map];lia,fin e x _ he⟩
    ·exact⟨⟨_,h3'⟩,_,.lst gn,by lia,_,_,gn,hx,_,h3',by rw[length_map];lia,fin e x _ he⟩
   walk_at "R";exact eT (λ_=>go _ (by lia)) λ_=>go _ (by lia)
noncomputable abbrev kz (yl:List (Int×Int)):List W:=yl.map λp=> .tup [.int p.1,.int p.2]
mutual
inductive Th (G:Gp):W->Row->Prop where
 | set {b o:Str} {n:Int}:Th G (.tup [.str "set",.str b,.str o,.int n]) (.set b n)
 | copy {b o:Str} {n:Int}:Th G (.tup [.str "copy",.str b,.str o,.int n]) (.copy b o)
 | add {b o:Str} {n:Int}:Th G (.tup [.str "add",.str b,.str o,.int n]) (.add b o)
 | less {b o:Str} {n:Int}:Th G (.tup [.str "less",.str b,.str o,.int n]) (.less b)
 | times {b:Str} {l:Addr} {ws:List W} {rs:aT Str} (h:G l=some (.lst ws)) (hs:kj G ws rs):Th G (.tup [.str "times",.str b,.ref l]) (.times b rs)
 | whl {b:Str} {l m:Addr} {ms:List (Int×Str)} {ws:List W} {rs:aT Str} (h:G l=some (.lst ws)) (hm:G m=some (.lst (ky ms))) (ok:yF ms) (hs:kj G ws rs):Th G (.tup [.str "while",.str b,.ref l,.ref m,.non]) (.whl b (d7 (dm ms)) rs)
 | bear {b:Str} {l m y:Addr} {ms:List (Int×Str)} {yl:List (Int×Int)} {ws:List W} {rs:aT Str} (h:G l=some (.lst ws)) (hm:G m=some (.lst (ky ms))) (ok:yF ms) (hy:G y=some (.lst (kz yl))) (py:∀p,p∈yl->0<=p.1) (hs:kj G ws rs):Th G (.tup [.str "while",.str b,.ref l,.ref m,.ref y]) (.bear b (d7 (dm ms)) rs (ko yl))
 | count {n:Int} {l:Addr} {ws:List W} {rs:aT Str} (h:G l=some (.lst ws)) (hs:kj G ws rs):Th G (.tup [.str "count",.int n,.ref l]) (.count rs n)
inductive kj (G:Gp):List W->aT Str->Prop where
 | nil:kj G [] .nil
 | cons {w:W} {ws:List W} {r:Row} {rs:aT Str} (h:Th G w r) (hs:kj G ws rs):kj G (w::ws) (.cons r rs)
end
def jb (G G':Gp):Prop:=∀a ws,G a=some (.lst ws)->G' a=some (.lst ws)
theorem aE.ls {G G':Gp} (h:aE G G'):jb G G':=λ_ _ e=>h _ _ e
mutual
theorem Th.mono {G G':Gp} (l:jb G G'):∀{w:W} {r:Row},Th G w r->Th G' w r
 | _,_,.set=> .set
 | _,_,.copy=> .copy
 | _,_,.add=> .add
 | _,_,.less=> .less
 | _,_,.times h hs=> .times (l _ _ h) (kj.mono l hs)
 | _,_,.whl h hm ok hs=> .whl (l _ _ h) (l _ _ hm) ok (kj.mono l hs)
 | _,_,.bear h hm ok hy py hs=> .bear (l _ _ h) (l _ _ hm) ok (l _ _ hy) py (kj.mono l hs)
 | _,_,.count h hs=> .count (l _ _ h) (kj.mono l hs)
theorem kj.mono {G G':Gp} (l:jb G G'):∀{ws:List W} {rs:aT Str},kj G ws rs->kj G' ws rs
 | _,_,.nil=> .nil
 | _,_,.cons h hs=> .cons (Th.mono l h) (kj.mono l hs)
end
noncomputable abbrev cS (ps:List (W×Row)):List W:=ps.map (·.1)
noncomputable abbrev bW (ps:List (W×Row)):List Row:=ps.map (·.2)
def bJ (G:Gp) (ps:List (W×Row)):Prop:=∀p,p∈ps->Th G p.1 p.2
theorem bJ.mono {G G':Gp} {ps:List (W×Row)} (h:bJ G ps) (l:jb G G'):bJ G' ps:=λp hp=>(h p hp).mono l
theorem kj.psq {G:Gp}:∀{ws:List W} {rs:aT Str},kj G ws rs->∃ps,ws=cS ps/\rs.L=bW ps/\bJ G ps
 | _,_,.nil=>⟨[],rfl,rfl,λ_ h=>(nomatch h)⟩
 | _,_,.cons (w:=a) (r:=r) h hs=>by
   obtain⟨ps,h1,h2,h3⟩:=kj.psq hs;refine⟨(a,r)::ps,by rw[h1];rfl,by rw[aT.L,h2];rfl,λp hp=>?_⟩;rcases mem_cons.mp hp with rfl | hp
   ·exact h
   ·exact h3 p hp
theorem bJ.ths {G:Gp}:∀{ps:List (W×Row)},bJ G ps->kj G (cS ps) (aT.of (bW ps))
 | [],_=> .nil
 | p::ps,h=> .cons (h p yby) (bJ.ths λx hx=>h x (ybx _ hx))
mutual
def sE (B:Int):Row->Prop
 | .set _ n=>0<=n/\n<=B
 | .times _ rs=>iG B rs/\rs.L.length<=4/\rs.L≠[]
 | .whl _ hs rs=>iG B rs/\rs.L.length<=4/\rs.L≠[]/\∃ms,yF ms/\hs=d7 (dm ms)
 | .count _ _=>False
 | .bear _ _ _ _=>False
 | _=>True
def iG (B:Int):aT Str->Prop
 | .nil=>True
 | .cons r rs=>sE B r/\iG B rs
end
mutual
noncomputable def tz:Row->Nat
 | .times _ rs=>fY rs+1
 | .whl _ _ rs=>fY rs+1
 | _=>1
noncomputable def fY:aT Str->Nat
 | .nil=>0
 | .cons r rs=>fY rs+tz r
end
theorem j8 {B:Int}:∀{rs:aT Str},iG B rs->∀r,r∈rs.L->sE B r
 | .nil,_,r,h=>(nomatch h)
 | .cons r0 rs,x,r,h=>by
   rcases mem_cons.mp h with rfl | h
   ·exact x.1
   ·exact j8 x.2 r h
theorem mH {B:Int}:∀{rs:List Row},(∀r,r∈rs->sE B r)->iG B (aT.of rs)
 | [],_=>trivial
 | r::rs,h=>⟨h r yby,mH λx hx=>h x (ybx _ hx)⟩
theorem j9:∀{rs:aT Str} {k:Nat},rs.dt<=k->∀r,r∈rs.L->r.dt<=k
 | .nil,_,_,r,h=>(nomatch h)
 | .cons r0 rs,k,x,r,h=>by
   have hx:=max_le.mp (show max r0.dt rs.dt<=k from x);rcases mem_cons.mp h with rfl | h
   ·exact hx.1
   ·exact j9 hx.2 r h
theorem tI:∀{rs:List Row} {k:Nat},(∀r,r∈rs->r.dt<=k)->(aT.of rs).dt<=k
 | [],_,_=>zero_le _
 | r::rs,k,h=>max_le.mpr ⟨h r yby,tI λx hx=>h x (ybx _ hx)⟩
theorem vR:∀{rs:aT Str} (r:Row),r∈rs.L->tz r<=fY rs
 | .nil,r,h=>(nomatch h)
 | .cons r0 rs,r,h=>by
   rcases mem_cons.mp h with rfl | h
   ·exact Nat.le_add_left _ _
   ·exact ycy (vR r h) (Nat.le_add_right _ _)
theorem rB:∀rs:List Row,fY (aT.of rs)=(rs.map tz).sum
 | []=>rfl
 | r::rs=>by
   show fY (aT.of rs)+tz r=tz r+(rs.map tz).sum;rw[rB rs];lia
theorem vS {ms:List (Int×Str)} (h:yF ms):∀p,p∈d7 (dm ms)->∃e:Int,p.1=O.wh e/\0<=e/\e<=10^9:=λp hp=>by
 obtain⟨x,hx,e⟩:=mem_map.mp (xJ hp);obtain⟨m,hm,rfl⟩:=mem_map.mp hx;exact⟨m.1,e.symm,(h.2 m hm).1,(h.2 m hm).2⟩
theorem vT {ms:List (Int×Str)} (h:yF ms):sI 3 (d7 (dm ms))/\O.hw (hpw (d7 (dm ms)))<=2/\O.mx (hpw (d7 (dm ms)))<=10^31:=by
 have hx:=vS h;refine⟨λp hp=>?_,?_⟩
 ·obtain⟨e,he,e0,e1⟩:=hx p hp;have y:=Wb.wh e0;have:=y.hw;rw[he];exact⟨y.nf,y.dp,by lia⟩
 ·generalize d7 (dm ms)=hs at hx;cases hs with
  | nil=>exact⟨by decide,by decide⟩
  | cons p hs=>
    obtain⟨e,he,e0,e1'⟩:=hx p yby;have y:=Wb.wh e0;have e1:=Wb.wh (n:=1) (by decide);have a1:=O.hw_plus (O.wh e) (O.wh 1);have a2:=O.mx_plus (b:=O.wh 1) y.nf;have a3:=y.hw;have a4:=y.mx;have a5:=e1.hw;have a6:=e1.mx;have a7:((Int.toNat 1:Nat):Int)=1:=rfl;constructor
    ·show O.hw (.c (O.plusO p.1 (O.wh 1)) 1 .z)<=2;rw[he,O.hw_c];show max (0+1) (max (O.hw (O.plusO (O.wh e) (O.wh 1))) 0)<=2;lia
    ·show O.mx (.c (O.plusO p.1 (O.wh 1)) 1 .z)<=10^31;rw[he,O.mx_c];show max 1 (max (O.mx (O.plusO (O.wh e) (O.wh 1))) 0)<=10^31;lia
noncomputable def BB:Nat:=10^32
theorem BL (k:Nat):1<=BB^k:=Nat.one_le_pow _ _ (by unfold BB;omega)
theorem vU {t m X d:Nat} (h:m<=4*t*BB^d) (hX:X+2<=BB):(m+3)*(X+1)+1<=4*(t+1)*BB^ (d+1):=by
 have h1:(m+3)*(X+1)<=(4*t*BB^d+3)*(X+1):=Nat.mul_le_mul_right _ (by omega);have h2:(4*t*BB^d+3)*(X+1)=4*t*BB^d*(X+1)+3*(X+1):=Nat.add_mul ..;have h3:4*t*BB^d*(X+1)<=4*t*BB^d*BB:=Nat.mul_le_mul_left _ (by omega);have h4:4*(t+1)*BB^ (d+1)=4*t*BB^d*BB+4*(BB^d*BB):=by
  rw[Nat.pow_succ,Nat.mul_add,Nat.add_mul,Nat.mul_one]
  congr 1
  exact(Nat.mul_assoc ..).symm
 have h5:1*BB<=BB^d*BB:=Nat.mul_le_mul_right _ (BL d);omega
mutual
theorem D3 {B:Int}:∀r:Row,sE B r->r.nn/\r.hb<=4*tz r/\r.mb<=4*tz r*BB^r.dt/\r.lb<=3*tz r
 | .set _ _,_=>⟨trivial,by show 1<=4*1;decide,by show 1<=4*1*BB^0;decide,by show 1<=3*1;decide⟩
 | .copy _ _,_=>⟨trivial,by show 1<=4*1;decide,by show 1<=4*1*BB^0;decide,by show 1<=3*1;decide⟩
 | .add _ _,_=>⟨trivial,by show 1<=4*1;decide,by show 1<=4*1*BB^0;decide,by show 1<=3*1;decide⟩
 | .less _,_=>⟨trivial,by show 1<=4*1;decide,by show 1<=4*1*BB^0;decide,by show 1<=3*1;decide⟩
 | .times _ rs,h=>by
   obtain⟨h1,h2,h3,h5⟩:=kc rs h.1;refine⟨h1,by show rs.hb+2<=4*(fY rs+1);omega,?_,by show 1<=3*(fY rs+1);omega⟩;have h4:=vU (X:=1) h3 (by unfold BB;omega);show(rs.mb+2)*2<=4*(fY rs+1)*BB^ (rs.dt+1);omega
 | .whl _ hs rs,h=>by
   obtain⟨h1,h2,h3,h5⟩:=kc rs h.1;obtain⟨_,_,_,ms,hm,rfl⟩:=h;obtain⟨m1,m2,m3⟩:=vT hm;refine⟨⟨h1,m1⟩,by show rs.hb+O.hw (hpw (d7 (dm ms)))+2<=4*(fY rs+1);omega,?_,?_⟩
   ·exact vU (X:=(O.mx (hpw (d7 (dm ms)))).toNat) h3 (by unfold BB;omega)
   ·generalize d7 (dm ms)=hs;cases hs with
    | nil=>show rs.lb+2<=3*(fY rs+1);omega
    | cons p hs=>show 2<=3*(fY rs+1);omega
theorem kc {B:Int}:∀rs:aT Str,iG B rs->rs.nn/\rs.hb<=4*fY rs/\rs.mb<=4*fY rs*BB^rs.dt/\rs.lb<=3*fY rs
 | .nil,_=>⟨trivial,zero_le _,zero_le _,zero_le _⟩
 | .cons r rs,h=>by
   obtain⟨a1,a2,a3,a4⟩:=D3 r h.1;obtain⟨b1,b2,b3,b4⟩:=kc rs h.2;refine⟨⟨a1,b1⟩,by show rs.hb+r.hb<=4*(fY rs+tz r);omega,?_,by show rs.lb+r.lb<=3*(fY rs+tz r);omega⟩;show rs.mb+r.mb<=4*(fY rs+tz r)*BB^ (max r.dt rs.dt);have p1:BB^r.dt<=BB^ (max r.dt rs.dt):=Nat.pow_le_pow_right (by unfold BB;omega) (le_max_left _ _);have p2:BB^rs.dt<=BB^ (max r.dt rs.dt):=Nat.pow_le_pow_right (by unfold BB;omega) (le_max_right _ _);have q1:=Nat.mul_le_mul_left (4*tz r) p1;have q2:=Nat.mul_le_mul_left (4*fY rs) p2;rw[Nat.mul_add,Nat.add_mul];omega
end
theorem mI {B:Int} {rs:aT Str} (h:iG B rs) (h1:fY rs<=60) (h2:rs.dt<=3):Bd 180 rs/\lr rs:=by
 obtain⟨a1,a2,a3,a4⟩:=kc rs h;have p:=Nat.pow_le_pow_right (n:=BB) (by unfold BB;omega) h2;have q:=Nat.mul_le_mul (show 4*fY rs<=240 by omega) p;have e:240*BB^3<=10^100:=by unfold BB;decide+kernel
 have e2:(10:Nat)^100<=10^300:=by decide+kernel
 have hm:=ycy a3 (ycy q e);exact⟨⟨by omega,hm,by omega⟩,⟨a1,by omega,Int.ofNat_le.mpr (ycy hm e2)⟩⟩
theorem oE (o:O):∀l:List O,(insO o l).length<=l.length+1
 | []=>ycx _
 | x::l=>by
   have:=oE o l;unfold insO;split
   ·simp only[length_cons];lia
   ·split
    ·simp only[length_cons];lia
    ·simp only[length_cons];lia
theorem lA:∀l:List O,(iV l).length<=l.length
 | []=>ycx _
 | x::l=>by
   have:=lA l;have h:=oE x (iV l);show(insO x (iV l)).length<=l.length+1;lia
theorem sF (ms:List (O×Str)) (o:O):(bE ms o).length<=ms.length:=by
 unfold bE;rw[length_map];exact List.length_filter_le _ _
theorem vV {ms:List (Int×Str)} (h:yF ms):Mk 180 (d7 (dm ms)):=by
 obtain⟨m1,m2,m3⟩:=vT h;have ht:(dm ms).length=ms.length:=length_map ..;have hl:(d7 (dm ms)).length<=ms.length:=by
  unfold d7;have:=lA ((dm ms).map (·.1));rw[length_map] at this ⊢;lia
 have h5:=h.1;refine⟨m1,⟨by lia,λp hp=>?_,A2 _⟩,by lia,by lia,ydv m3 (by decide+kernel),λp hp=>?_⟩
 ·obtain⟨o,_,rfl⟩:=mem_map.mp hp;have:=sF (dm ms) o;show(bE (dm ms) o).length<=100;lia
 ·obtain⟨e,he,e0,e1⟩:=vS h p hp;have:=(Wb.wh e0).mx;rw[he];exact ydv (show O.mx (O.wh e)<=10^9 by lia) (by decide+kernel)
mutual
theorem vW {B:Int}:∀r:Row,sE B r->tz r<=60->r.dt<=3->gr True 180 B r
 | .set _ _,h,_,_=>h
 | .copy _ _,_,_,_=>trivial
 | .add _ _,_,_,_=>trivial
 | .less _,_,_,_=>trivial
 | .times _ rs,h,h1,h2=>by
   have h1:fY rs+1<=60:=h1;have h2:rs.dt+1<=3:=h2;exact⟨jj rs h.1 (by lia) (by lia),(mI h.1 (by lia) (by lia)).1⟩
 | .whl _ hs rs,h,h1,h2=>by
   have h1:fY rs+1<=60:=h1;have h2:rs.dt+1<=3:=h2;refine⟨⟨jj rs h.1 (by lia) (by lia),(mI h.1 (by lia) (by lia)).1⟩,?_⟩;obtain⟨_,_,_,ms,hm,rfl⟩:=h;exact vV hm
theorem jj {B:Int}:∀rs:aT Str,iG B rs->fY rs<=60->rs.dt<=3->vK True 180 B rs
 | .nil,_,_,_=>trivial
 | .cons r rs,h,h1,h2=>by
   have h1:fY rs+tz r<=60:=h1;have h2:=max_le.mp (show max r.dt rs.dt<=3 from h2);exact⟨vW r h.1 (by lia) h2.1,jj rs h.2 (by lia) h2.2⟩
end
def yG (d:Nat):bS:=λws G q _=>∃(x:W) (r:Row) (B:Int),ws=[x]/\Th G x r/\sE B r/\r.dt<d/\q (.int (r.dt:Nat)) G
theorem vX {rs:List Row} {q:Int->Prop} (hq:q ((aT.of rs).dt:Nat)):∀m:Int,m∈(rs.map λr=>((r.dt:Nat):Int))->(∀x,x∈(rs.map λr=>((r.dt:Nat):Int))->x<=m)->q m:=by
 intro m hm hx;obtain⟨r,hr,rfl⟩:=mem_map.mp hm;have h1:(aT.of rs).dt<=r.dt:=tI λx hx'=>Int.ofNat_le.mp (hx _ (mem_map.mpr ⟨x,hx',rfl⟩));have h2:r.dt<=(aT.of rs).dt:=j9 (ycx _) r (by rw[aT.L_of];exact hr);rw[show(r.dt:Nat)=(aT.of rs).dt from Nat.le_antisymm h2 h1];exact hq
theorem Th.bodyq {G:Gp} {B:Int} {x:W} {r:Row} (h:Th G x r) (hs:sE B r):(∃(k b o:Str) (n:Int),x=.tup [.str k,.str b,.str o,.int n]/\(k="set"∨k="copy"∨k="add"∨k="less")/\r.dt=0)∨∃(k b:Str) (l:Addr) (y:List W) (ps:List (W×Row)),x=.tup (.str k:: .str b:: .ref l::y)/\(k="times"∨k="while")/\G l=some (.lst (cS ps))/\bJ G ps/\iG B (aT.of (bW ps))/\ps.length<=4/\ps≠[]/\r.dt=(aT.of (bW ps)).dt+1:=by
 cases h with
 | set=>exact .inl ⟨_,_,_,_,rfl,.inl rfl,rfl⟩
 | copy=>exact .inl ⟨_,_,_,_,rfl,.inr (.inl rfl),rfl⟩
 | add=>exact .inl ⟨_,_,_,_,rfl,.inr (.inr (.inl rfl)),rfl⟩
 | less=>exact .inl ⟨_,_,_,_,rfl,.inr (.inr (.inr rfl)),rfl⟩
 | bear h hm ok hy py hs'=>exact hs.elim
 | count h hs'=>exact hs.elim
 | times h hs'=>
   obtain⟨ps,rfl,hL,hT⟩:=hs'.psq;rename_i b l rs;have e:aT.of (bW ps)=rs:=by rw[←hL,aT.of_L]
   have h1:=hs.2.1;have h2:=hs.2.2;rw[hL] at h1 h2;rw[length_map] at h1;exact .inr ⟨_,_,_,_,ps,rfl,.inl rfl,h,hT,by rw[e];exact hs.1,h1,λz=>h2 (by rw[z];rfl),by rw[e];rfl⟩
 | whl h hm ok hs'=>
   obtain⟨ps,rfl,hL,hT⟩:=hs'.psq;rename_i b l m ms rs;have e:aT.of (bW ps)=rs:=by rw[←hL,aT.of_L]
   have h1:=hs.2.1;have h2:=hs.2.2.1;rw[hL] at h1 h2;rw[length_map] at h1;exact .inr ⟨_,_,_,_,ps,rfl,.inr rfl,h,hT,by rw[e];exact hs.1,h1,λz=>h2 (by rw[z];rfl),by rw[e];rfl⟩
theorem Gv {d k:Nat} (F:cz K "_law_deep" "_law_deep" (aQ 40) f fd) (F0:Fx P w K mg base "_law_deep" ["_law_thing"] k (yG d)) (mm:mg "max"=none):cf P w K mg base (k+1) f fd ["_law_thing"] (yG (d+1)):=by
 refine dG F (N:=["_law_thing"]) (by walk_at "s") (by walk_at "l") λ_ _ _ _ _ _ nd hr=>?_;apply aN
 ·exact(ae (bo (fP (dX (aI (et hr) (av ay (aa 0) ag) bq) (cW (aI (et hr) (av ay (aa 0) ag) bq)))) (ae (aA ag) ak) ak) (ae (aA (aO bB ag (bb (lQ rfl) rfl mm qp (ac (gG (dN (by first | rfl | decide+kernel)) rfl (cr (av ay (aa 0) ag)) (λ_ _ _ _=>(bX 1 (by first | assumption | decide+kernel | rfl) rfl (.inl rfl))) (λ_ _ _ _=>dv) (λ_ _ _ _=>(aC F0 (aB.mono hr (by lia)) rfl (ac (aa 1) ah)))) ah)))) ak))
 ·rintro ws G q e ⟨x,r,B,rfl,hx,hs,hd,hq⟩;rcases hx.bodyq hs with⟨k,b,o,n,rfl,hk,hdt⟩ | ⟨k,b,l,y,ps,rfl,hk,h,hT,hst,hl4,hne,hdt⟩
  ·rw[hdt] at hq;rcases hk with rfl | rfl | rfl | rfl
   ·walk_at "a0";exact aE.done hq
   ·walk_at "a0";exact aE.done hq
   ·walk_at "a0";exact aE.done hq
   ·walk_at "a0";exact aE.done hq
  ·have hd':(aT.of (bW ps)).dt<d:=by lia
   refine aJ λU hU=>?_;have key:U { nx:=λx G1=>∃G0,aE G0 G1/\q W.non G0,rt:=λw G1=>∃G0,aE G0 G1/\q w G0 } [some (.tup (.str k:: .str b:: .ref l::y))] G:=by
    subst hU;walk_at "R";refine⟨_,h,fA (i:=1) (λp:W×Row=>p.1) (λp=> .int ((p.2.dt:Nat):Int)) (τ0:=[none,none,none]) h (λp hp k hk=>?_) (by show 0+_<=_;lia) (λ_=>rfl) λp hp=>?_⟩
    ·walk_at "R";have hm:p.2∈bW ps:=mem_map.mpr ⟨p,hp,rfl⟩;exact⟨p.1,p.2,B,rfl,hT p hp,j8 hst _ (by rw[aT.L_of];exact hm),Nat.lt_of_le_of_lt (j9 (ycx _) _ (by rw[aT.L_of];exact hm)) hd',hk⟩
    ·refine⟨(bW ps).map λr=>((r.dt:Nat):Int),?_,λz=>hne (by simpa using z),?_⟩
     ·rw[af,nil_append];simp only[map_map]
      rfl
     ·refine vX (rs:=bW ps) (q:=λm=>∃G0,aE G0 (aw G p (GO.lst ([]++List.map (λp=>W.int ((p.2.dt:Nat):Int)) ps)))/\q (W.int (1+m)) G0) ⟨G,aE.new hp,?_⟩;rw[hdt] at hq;rw[show(1:Int)+(((aT.of (bW ps)).dt:Nat):Int)=(((aT.of (bW ps)).dt+1:Nat):Int) by lia];exact hq
   rcases hk with rfl | rfl
   ·walk_at "R";exact key
   ·walk_at "R";exact key
theorem D4 (T:Txt K mg):∀d:Nat,Fx P w K mg base "_law_deep" ["_law_thing"] d (yG d)
 | 0=>T.d__law_deep.fx λf fd F=>cf.none λws G q e ⟨t,_,_,_,_,_,h,_⟩=>by lia
 | d+1=>T.d__law_deep.fx λf fd F=>Gv F (D4 T d) T.z_max
theorem rC (c:Int) (b o:Str) {n:Int} (h0:0<=n) (h1:n<=10^50):∃(k:Str) (r:Row),ef [W.str "set",.str "copy",.str "add",.str "less"] (c%4)=some (.str k)/\(∀G',Th G' (.tup [.str k,.str b,.str o,.int n]) r)/\sE (10^50) r/\r.dt=0/\tz r=1:=by
 have h:c%4=0∨c%4=1∨c%4=2∨c%4=3:=by lia
 rcases h with h | h | h | h<;> rw[h]
 ·exact⟨_,.set b n,rfl,λ_=> .set,⟨h0,h1⟩,rfl,rfl⟩
 ·exact⟨_,.copy b o,rfl,λ_=> .copy,trivial,rfl,rfl⟩
 ·exact⟨_,.add b o,rfl,λ_=> .add,trivial,rfl,rfl⟩
 ·exact⟨_,.less b,rfl,λ_=> .less,trivial,rfl,rfl⟩
theorem vY (c:Int):∃k:Str,ef [W.str "set",.str "copy",.str "add",.str "less"] (c%4)=some (.str k):=by
 obtain⟨k,_,h,_⟩:=rC c "" "" (n:=0) (by decide) (by decide+kernel);exact⟨k,h⟩
def D5:bS:=λws G q _=>∃(c:Int) (pn:Addr) (names:List Str),ws=[.int c,.ref pn]/\G pn=some (.lst (kh names))/\1<=names.length/\∀(x:W) (r:Row),(∀G',Th G' x r)->sE (10^50) r->r.dt=0->tz r=1->q x G
theorem Gw (F:cz K "_law_plain" "_law_plain" (aQ 41) f fd) (F1:Fx P w K mg base "_law_amount" ["_law_cell"] 1 BK) (ml:mg "len"=none):cf P w K mg base 2 f fd ["_law_cell","_law_names"] D5:=by
 refine dG F (N:=["_law_cell","_law_names","_law_kind","_law_many"]) (by walk_at "s") (by walk_at "l") λ_ _ _ _ _ _ nd hr=>?_;apply aN
 ·exact(ae (aM 2 nd rfl (.inl rfl) (av ay (bw (ac bq (ac bq (ac bq (ac bq ah))))) (aO cE (aa 0) ag))) (ae (aM 3 nd rfl (.inl rfl) (bb cj rfl ml PySem.boot_len (ac (aa 1) ah))) (ae (aA (bh (ac (aa 2) (ac (av ay (aa 1) (aO cE (aO ck (aa 0) ag) (aa 3))) (ac (av ay (aa 1) (aO cE (aO ck (aa 0) ag) (aa 3))) (ac (aC F1 (aB.mono hr (by lia)) rfl (ac (aO ck (aa 0) ag) ah)) ah)))))) ak)))
 ·rintro ws G q e ⟨c,pn,names,rfl,hn,hn1,hq⟩;have hlen:(kh names).length=names.length:=length_map ..;walk_at "a0";intro p hp;obtain⟨k,hk⟩:=vY c;refine⟨_,_,af,hk,?_⟩;have le:=aE.new (g:=GO.lst [W.str "set",.str "copy",.str "add",.str "less"]) hp;generalize aw G p (GO.lst [W.str "set",.str "copy",.str "add",.str "less"])=G1 at le ⊢;walk_at "a";refine⟨_,.lst (le _ _ hn),?_⟩;subst hU;walk_at "R";have m1:=iB (i:=c/4) (j:=((kh names).length:Int)) (by lia);have m2:=iB (i:=c/32) (j:=((kh names).length:Int)) (by lia);obtain⟨b,hb,_⟩:=jK (L:=names) (i:=c/4% ((kh names).length:Int)) m1.1 (by lia);obtain⟨o,ho,_⟩:=jK (L:=names) (i:=c/32% ((kh names).length:Int)) m2.1 (by lia);refine⟨by lia,_,_,le _ _ hn,hb,by lia,_,_,le _ _ hn,ho,c/256,rfl,λv h0 h1=>?_⟩;obtain⟨k',r,e1,e2,e3,e4,e5⟩:=rC c b o h0 h1;rw[hk] at e1;cases e1;exact⟨G,le,hq _ r e2 e3 e4 e5⟩
noncomputable def eX (ps:List (W×Row)):Nat:=((bW ps).map tz).sum
def D6 (ps:List (W×Row)):Prop:=∀x,x∈ps->sE (10^50) x.2/\x.2.dt<=3
theorem vZ (ps:List (W×Row)) (m:Nat):eX (ps.take m)+eX (ps.drop m)=eX ps:=by
 unfold eX bW;rw[←sum_append,←map_append,←map_append,List.take_append_drop]
theorem gX (ps:List (W×Row)):fY (aT.of (bW ps))=eX ps:=rB _
def D7:bS:=λws G q _=>∃(pc pn:Addr) (ns:List Int) (names:List Str),ws=[.ref pc,.ref pn]/\G pc=some (.lst (ns.map W.int))/\G pn=some (.lst (kh names))/\1<=names.length/\ns.length<=30/\
 ∀(p:Addr) (ps:List (W×Row)) (G':Gp),aE G G'->G p=none->G' p=some (.lst (cS ps))->bJ G' ps->D6 ps->ps.length<=30->eX ps<=60->q (.ref p) G'
theorem Gx (F:cz K "_law_rows" "_law_rows" (aQ 43) f fd) (F1:Fx P w K mg base "_law_deep" ["_law_thing"] 5 (yG 5)) (F2:Fx P w K mg base "_law_marks" ["_law_cell","_law_box","_law_names"] 1 D2) (F3:Fx P w K mg base "_law_plain" ["_law_cell","_law_names"] 2 D5) (ml:mg "len"=none) (mm:mg "max"=none):cf P w K mg base 7 f fd ["_law_cells","_law_names"] D7:=by
 refine dG F (N:=["_law_cells","_law_names","_law_rows_here","_law_cell","_law_box","_law_many","_law_body","_law_inside"]) (by walk_at "s") (by walk_at "l") λ_ _ _ _ _ _ nd hr=>?_;apply aN
 ·exact(ae (aM 2 nd rfl (.inl rfl) (bw ah)) (ae (dg PySem.PassesOwn.never rfl (cr (aa 0)) (bO 3 nd rfl (.inl rfl)) (ae (aM 4 nd rfl (.inl rfl) (av ay (aa 1) (aO cE (aO ck (aa 3) ag) (bb cj rfl ml PySem.boot_len (ac (aa 1) ah))))) (ae (aM 5 nd rfl (.inl rfl) (aO bB ag (aO cE (aO ck (aa 3) ag) ag))) (ae (aM 6 nd rfl (.inl rfl) (bv (aa 2) ci (bR (aa 5)))) (ae (aM 7 nd rfl (.inl rfl) (ik (fc m9 (bb cj rfl ml PySem.boot_len (ac (aa 6) ah)) ag) (ii (fc (iR hr) (bb (lQ rfl) rfl mm qp (ac (gG (dN (by first | rfl | decide+kernel)) rfl (cr (aa 6)) (λ_ _ _ _=>(bX 1 (by first | assumption | decide+kernel | rfl) rfl (.inl rfl))) (λ_ _ _ _=>dv) (λ_ _ _ _=>(aC F1 (aB.mono hr (by lia)) rfl (ac (aa 1) ah)))) ah)) ag)))) (ae (bo (fP (dX (aI (bH hr) (aO cE (aa 3) ag) ag) (cW (eJ (aa 7))))) (ae (aM 2 nd rfl (.inl rfl) (aO bB (bw (ac (bh (ac bq (ac (aa 4) (ac (aa 6) ah)))) ah)) (bv (aa 2) (bR (aa 5)) ci))) ak) (ae (bo (fP (dX (aI (bH hr) (aO cE (aa 3) ag) ag) (cW (eJ (aa 7))))) (ae (bo (aI (bH hr) (aO cE (aO ck (aa 3) ag) ag) ag) (ae (aM 6 nd rfl (.inl rfl) (aO bB (bw (ac (bh (ac bq (ac (aa 4) (ac (aa 4) (ac ag ah))))) ah)) (aa 6))) ak) ak) (ae (aM 2 nd rfl (.inl rfl) (aO bB (bw (ac (bh (ac bq (ac (aa 4) (ac (aa 6) (ac (aC F2 (aB.mono hr (by lia)) rfl (ac (aO ck (aa 3) ag) (ac (aa 4) (ac (aa 1) ah)))) (ac fO ah)))))) ah)) (bv (aa 2) (bR (aa 5)) ci))) ak)) (ae (aM 2 nd rfl (.inl rfl) (aO bB (bw (ac (aC F3 (aB.mono hr (by lia)) rfl (ac (aO ck (aa 3) ag) (ac (aa 1) ah))) ah)) (aa 2))) ak)) ak)) ak)))))) (ae (aA (aa 2)) ak)))
 ·rintro ws G q e ⟨pc,pn,ns,names,rfl,hc,hn,hn4,hl,hq⟩;have hlen:(kh names).length=names.length:=length_map ..;walk_at "a0";intro p hp;have le1:=aE.new (g:=GO.lst []) hp;have g1:=af (G:=G) (a:=p) (g:=GO.lst []);generalize aw G p (.lst [])=G1 at le1 g1 ⊢;walk_at "a";refine⟨_,le1 _ _ hc,cc (λws τ G'=>∃(todo:List Int) (ps:List (W×Row)) (p:Addr) (t3 t4 t5 t6 t7:Option W),ws=todo.map W.int/\ps.length+todo.length<=30/\eX ps+2*todo.length<=60/\τ=[some (.ref pc),some (.ref pn),some (.ref p),t3,t4,t5,t6,t7]/\aE G G'/\G p=none/\G' p=some (.lst (cS ps))/\bJ G' ps/\D6 ps) ?_ ?_ _ _ _ ⟨ns,[],p,none,none,none,none,none,rfl,by simpa using hl,by show 0+_<=_;lia,rfl,le1,hp,g1,(λ_ h=>(nomatch h)),(λ_ h=>(nomatch h))⟩⟩
  ·rintro τ G' ⟨todo,ps,p,t3,t4,t5,t6,t7,hw,hn,hz,rfl,le,fp,g,hT,hS⟩;refine⟨le _ _ hc,?_⟩;subst hU;walk_at "R";exact aE.done (hq p ps G' le fp g hT hS (by lia) (by lia))
  ·rintro w1 ws τ G' k ⟨todo,ps,p,t3,t4,t5,t6,t7,hw,hnl,hz,rfl,le,fp,g,hT,hS⟩ hk;cases todo with
   | nil=>cases hw
   | cons c todo=>
     cases hw;refine⟨le _ _ hc,?_⟩;rw[length_cons] at hnl hz;have gn:=le _ _ hn;refine aJ λU1 hU1=>?_;walk_at "R";have bm:=iB (i:=c/12) (j:=((kh names).length:Int)) (by lia);obtain⟨bx,hbx,_⟩:=jK (L:=names) (i:=c/12% ((kh names).length:Int)) bm.1 (by lia);refine⟨_,.lst gn,by lia,_,_,gn,hbx,?_⟩;walk_at "b";obtain⟨mn,hmn,mn1,mn3⟩:∃mn:Nat,1+c/4%3=(mn:Int)/\1<=mn/\mn<=3:=by
      have:=iB (i:=c/4) (j:=3) (by lia);exact⟨(1+c/4%3).toNat,by lia,by lia,by lia⟩
     rw[hmn];walk_at "b";refine⟨_,g,λpb hpb=>?_⟩;rw[pI,←List.map_take];have le2:=aE.new (g:=GO.lst (cS (ps.take mn))) hpb;have g2:=af (G:=G') (a:=pb) (g:=GO.lst (cS (ps.take mn)));have fpb:=bc le hpb;have hT2:=hT.mono (aE.ls le2);have le3:=le.trans le2;have g2p:=le2 _ _ g;generalize aw G' pb (GO.lst (cS (ps.take mn)))=G2 at le2 g2 hT2 le3 g2p ⊢;clear le2;subst hU1;refine aJ λU1 hU1=>?_;have fin:∀(b:Bool) (G8:Gp),aE G2 G8->(b=true->(aT.of (bW (ps.take mn))).dt<3/\ps.take mn≠[])->U1 { nx:=k,rt:=λw G1=>∃G0,aE G0 G1/\q w G0,bk:=U { nx:=λx G1=>∃G0,aE G0 G1/\q W.non G0,rt:=λw G1=>∃G0,aE G0 G1/\q w G0 },ct:=k } [some (.ref pc),some (.ref pn),some (.ref p),some (.int c),some (.str bx),some (.int (mn:Int)),some (.ref pb),some (.bl b)] G8:=λb G8 le8 hb=>by
      have le9:=le3.trans le8;have g8:=le8 _ _ g2;have g8p:=le8 _ _ g2p;have hT8:=hT2.mono (aE.ls le8);have gn8:=le9 _ _ hn;clear le3 le8 g2 g2p hT2 hq hp hU;subst hU1;refine aJ λU2 hU2=>?_;refine Es λTT VV DD hTT hVV hDD=>?_;have hs3:(ps.take mn).length<=3:=by rw[length_take];lia
      have hcut:=vZ ps mn;have hst:iG (10^50) (aT.of (bW (ps.take mn))):=mH λr hr=>by
       obtain⟨z,hz,rfl⟩:=mem_map.mp hr;exact(hS z (mem_of_mem_take hz)).1
      have hT3:∀G',aE G8 G'->kj G' (cS (ps.take mn)) (aT.of (bW (ps.take mn))):=λG' l=>bJ.ths λz hz=>(hT8 z (mem_of_mem_take hz)).mono (aE.ls l);have vU:∀(x:W) (r:Row) (qs:List (W×Row)) (p':Addr) (G':Gp) (t6 t7:Option W),aE G8 G'->G p'=none->G' p'=some (.lst (x::cS qs))->Th G' x r->sE (10^50) r->r.dt<=3->(∀y,y∈qs->y∈ps)->qs.length<=ps.length->tz r+eX qs<=eX ps+2->k [some (.ref pc),some (.ref pn),some (.ref p'),some (.int c),some (.str bx),some (.int (mn:Int)),t6,t7] G':=λx r qs p' G' t6 t7 l f e h1 h2 h3 h4 h5 h6=>by
       refine hk _ _ ⟨todo,(x,r)::qs,p',_,_,_,_,_,rfl,by rw[length_cons];lia,?_,rfl,le9.trans l,f,e,λy hy=>?_,λy hy=>?_⟩
       ·show tz r+eX qs+_<=60;lia
       ·rcases mem_cons.mp hy with rfl | hy
        ·exact h1
        ·exact(hT8 y (h4 y hy)).mono (aE.ls l)
       ·rcases mem_cons.mp hy with rfl | hy
        ·exact⟨h2,h3⟩
        ·exact hS y (h4 y hy)
      have hcat:∀(x:W) (r:Row) (G1:Gp) (t6 t7:Option W),aE G8 G1->(∀G',aE G1 G'->Th G' x r)->sE (10^50) r->r.dt<=3->tz r<=eX (ps.take mn)+2->∀p1,G1 p1=none->∃xs,aw G1 p1 (.lst [x]) p=some (.lst xs)/\∀p2,aw G1 p1 (.lst [x]) p2=none->∃xs1 ys,aw (aw G1 p1 (.lst [x])) p2 (.lst (cF xs (some (mn:Int)) none)) p1=some (.lst xs1)/\aw (aw G1 p1 (.lst [x])) p2 (.lst (cF xs (some (mn:Int)) none)) p2=some (.lst ys)/\xs1.length+ys.length<=100000/\∀p3,aw (aw G1 p1 (.lst [x])) p2 (.lst (cF xs (some (mn:Int)) none)) p3=none->k [some (.ref pc),some (.ref pn),some (.ref p3),some (.int c),some (.str bx),some (.int (mn:Int)),t6,t7] (aw (aw (aw G1 p1 (.lst [x])) p2 (.lst (cF xs (some (mn:Int)) none))) p3 (.lst (xs1++ys))):=λx r G1 t6 t7 l h1 h2 h3 h4 p1 hp1=>by
       have l1:=aE.new (g:=GO.lst [x]) hp1;refine⟨_,l1 _ _ (l _ _ g8p),λp2 hp2=>?_⟩;rw[gM,←List.map_drop];have l2:=l1.trans (aE.new (g:=GO.lst (cS (ps.drop mn))) hp2);refine⟨_,_,aG af hp2,af,by simp only[length_map,length_cons,length_nil,length_drop];lia,λp3 hp3=>?_⟩;have l3:=l2.trans (aE.new (g:=GO.lst ([x]++cS (ps.drop mn))) hp3);exact vU x r (ps.drop mn) p3 _ t6 t7 (l.trans l3) (bc (le9.trans (l.trans l2)) hp3) af (h1 _ l3) h2 h3 (λy hy=>List.mem_of_mem_drop hy) (by rw[length_drop];lia) (by lia)
      have hV:VV DD [some (.ref pc),some (.ref pn),some (.ref p),some (.int c),some (.str bx),some (.int (mn:Int)),some (.ref pb),some (.bl b)] G8:=by
       subst hVV;refine Es λTT2 VV2 DD2 hTT2 hVV2 hDD2=>?_;have hP:VV2 DD2 [some (.ref pc),some (.ref pn),some (.ref p),some (.int c),some (.str bx),some (.int (mn:Int)),some (.ref pb),some (.bl b)] G8:=by
        subst hVV2 hDD2 hDD hU2;walk_at "R";refine⟨_,pn,names,rfl,gn8,hn4,λx r hx hs hd ht=>λp2 hp2=>?_⟩;have l1:=aE.new (g:=GO.lst [x]) hp2;refine⟨_,_,af,l1 _ _ g8p,by simp only[length_map,length_cons,length_nil];lia,λp3 hp3=>?_⟩;have l2:=l1.trans (aE.new (g:=GO.lst ([x]++cS ps)) hp3);exact vU _ r ps p3 _ _ _ l2 (bc (le9.trans l1) hp3) af (hx _) hs (by rw[hd];decide) (λy hy=>hy) (ycx _) (by lia)
       have hW:(aT.of (bW (ps.take mn))).dt<3->ps.take mn≠[]->TT2 DD2 [some (.ref pc),some (.ref pn),some (.ref p),some (.int c),some (.str bx),some (.int (mn:Int)),some (.ref pb),some (.bl b)] G8:=λhdt hne=>by
        subst hTT2 hDD2 hDD hU2;refine aJ λU3 hU3=>?_;have go:∀(pb':Addr) (G9:Gp) (qs:List (W×Row)),aE G8 G9->G9 pb'=some (.lst (cS qs))->bJ G9 qs->iG (10^50) (aT.of (bW qs))->qs.length<=4->qs≠[]->(aT.of (bW qs)).dt<3->eX qs<=eX (ps.take mn)+1->U3 { nx:=k,rt:=λw G1=>∃G0,aE G0 G1/\q w G0,bk:=U { nx:=λx G1=>∃G0,aE G0 G1/\q W.non G0,rt:=λw G1=>∃G0,aE G0 G1/\q w G0 },ct:=k } [some (.ref pc),some (.ref pn),some (.ref p),some (.int c),some (.str bx),some (.int (mn:Int)),some (.ref pb'),some (.bl b)] G9:=λpb' G9 qs l0 gq hTq hSq hl4 hne hdq hzq=>by
         subst hU3;walk_at "R";refine⟨_,bx,pn,names,rfl,l0 _ _ gn8,hn4,λpm G1 ms l1 fm gm hm=>?_⟩;refine hcat _ (.whl bx (d7 (dm ms)) (aT.of (bW qs))) G1 _ _ (l0.trans l1) (λG' l=> .whl (l _ _ (l1 _ _ gq)) (l _ _ gm) hm (bJ.ths λz hz=>(hTq z hz).mono (aE.ls (l1.trans l)))) ⟨hSq,by rw[aT.L_of,length_map];exact hl4,by rw[aT.L_of];exact λz=>hne (by simpa using z),ms,hm,rfl⟩ (by show(aT.of (bW qs)).dt+1<=3;assumption) (by show fY _+1<=_;rw[gX];lia)
        walk_at "R";refine eT (λ_=>λp1 hp1=>?_) λ_=>go pb G8 (ps.take mn) (aE.refl _) g8 (λz hz=>hT8 z (mem_of_mem_take hz)) hst (by lia) hne hdt (by lia);have l1:=aE.new (g:=GO.lst [W.tup [W.str "less",.str bx,.str bx,.int 0]]) hp1;refine⟨_,_,af,l1 _ _ g8,by simp only[length_map,length_cons,length_nil];lia,λp2 hp2=>?_⟩;have l2:=l1.trans (aE.new (g:=GO.lst ([W.tup [W.str "less",.str bx,.str bx,.int 0]]++cS (ps.take mn))) hp2);refine go p2 _ ((W.tup [.str "less",.str bx,.str bx,.int 0],.less bx)::ps.take mn) l2 af (λz hz=>?_) ⟨trivial,hst⟩ (by rw[length_cons];lia) (λz=>nomatch z) ?_ ?_
        ·rcases mem_cons.mp hz with rfl | hz
         ·exact .less
         ·exact(hT8 z (mem_of_mem_take hz)).mono (aE.ls l2)
        ·show max 0 (aT.of (bW (ps.take mn))).dt<3;assumption
        ·show 1+eX (ps.take mn)<=_;lia
       walk_at "R";exact eT (λh1=>eT (λh2=>hW (hb h2).1 (hb h2).2) λ_=>hP) λ_=>hP
      have hM:(aT.of (bW (ps.take mn))).dt<3->ps.take mn≠[]->TT DD [some (.ref pc),some (.ref pn),some (.ref p),some (.int c),some (.str bx),some (.int (mn:Int)),some (.ref pb),some (.bl b)] G8:=λhdt hne=>by
       subst hTT hDD hU2;walk_at "R";exact hcat _ (.times bx (aT.of (bW (ps.take mn)))) G8 _ _ (aE.refl _) (λG' l=> .times (l _ _ g8) (hT3 _ l)) ⟨hst,by rw[aT.L_of,length_map];lia,by rw[aT.L_of];exact λz=>hne (by simpa using z)⟩ (by show(aT.of (bW (ps.take mn))).dt+1<=3;assumption) (by show fY _+1<=_;rw[gX];lia)
      walk_at "R";exact eT (λh1=>eT (λh2=>hM (hb h2).1 (hb h2).2) λ_=>hV) λ_=>hV
     walk_at "R";refine⟨_,.lst g2,?_⟩;refine eT (λh0=>?_) λ_=>fin false G2 (aE.refl _) (λz=>nomatch z);have hne:ps.take mn≠[]:=λz=>by rw[z] at h0;exact absurd h0 (by decide)
     refine⟨_,g2,fA (i:=1) (λp:W×Row=>p.1) (λp=> .int ((p.2.dt:Nat):Int)) (τ0:=[none,none,none]) g2 (λp hp k hk=>?_) (by show 0+_<=_;rw[length_take];lia) (λ_=>rfl) λp7 hp7=>?_⟩
     ·walk_at "R";have hm:=mem_of_mem_take hp;have:=hS p hm;exact⟨p.1,p.2,_,rfl,hT2 p hm,this.1,by lia,hk⟩
     ·refine⟨(bW (ps.take mn)).map λr=>((r.dt:Nat):Int),?_,λz=>hne (by simpa using z),?_⟩
      ·rw[af,nil_append];simp only[map_map]
       rfl
      ·have le8:=aE.new (g:=GO.lst ([]++List.map (λp:W×Row=>W.int ((p.2.dt:Nat):Int)) (List.take mn ps))) hp7;generalize aw G2 p7 (GO.lst ([]++List.map (λp:W×Row=>W.int ((p.2.dt:Nat):Int)) (List.take mn ps)))=G8 at le8 ⊢;exact vX (rs:=bW (ps.take mn)) (q:=λm=>U1 { nx:=k,rt:=λw G1=>∃G0,aE G0 G1/\q w G0,bk:=U { nx:=λx G1=>∃G0,aE G0 G1/\q W.non G0,rt:=λw G1=>∃G0,aE G0 G1/\q w G0 },ct:=k } [some (.ref pc),some (.ref pn),some (.ref p),some (.int c),some (.str bx),some (.int (mn:Int)),some (.ref pb),some (.bl (decide (m<3)))] G8) (fin _ G8 le8 λh=>⟨by have:=of_decide_eq_true h;lia,hne⟩)
def v0 (C:Cs) (d:Nat):bS:=λws G q _=>∃(x:W) (r:Row),ws=[x]/\Th G x r/\sE (10^50) r/\tz r<=60/\r.dt<=3/\r.dt<d/\∀(a:Addr) (G':Gp),aE G G'->G a=none->jY C G' a r->q (.ref a) G'
theorem zI {ps:List (W×Row)} {x:W×Row} (h:x∈ps):tz x.2<=eX ps:=by
 have:=vR (rs:=aT.of (bW ps)) x.2 (by rw[aT.L_of];exact mem_map.mpr ⟨x,h,rfl⟩);rw[gX] at this;exact this
theorem iH {C:Cs} {d:Nat} {G:Gp} {ps:List (W×Row)} {l:Addr} {Q:List W->Gp->Prop} {τ:cV} {n:Nat} (h:G l=some (.lst (cS ps))) (hT:bJ G ps) (hS:D6 ps) (ht:eX ps<=60) (hdd:∀y,y∈ps->y.2.dt<d) (hl:ps.length<=100) (hτ:∀x,τ.set 1 x=(none::none::List.replicate n none).set 1 x) (hQ:∀xs G',aE G G'->Rows C G' xs->cy xs=bW ps->Q (refs xs) G'):cq (λG=>G l=some (.lst (cS ps))) (cG 1) kN (gE (v0 C d) [] (qh (gl 1) lK)) (cS ps) τ G [] Q:=by
 refine nQ (i:=1) (τ0:=none::none::List.replicate n none) (λws acc G'=>∃(todo:List (W×Row)) (xs:List (Addr×Row)),ws=cS todo/\acc=refs xs/\bW ps=cy xs++bW todo/\(∀y,y∈todo->y∈ps)/\aE G G'/\Rows C G' xs) ?_ ?_ ⟨ps,[],rfl,rfl,rfl,λ_ h=>h,aE.refl _,(λ_ h=>(nomatch h))⟩ (by show 0+_<=_;rw[length_map];lia) hτ
 ·rintro acc G5 ⟨todo,xs,hw,rfl,hts,hin,le5,hX⟩;have h0:todo=[]:=by simpa using hw.symm
  subst h0;have hts:bW ps=cy xs:=by rw[hts];exact append_nil _
  exact⟨le5 _ _ h,hQ xs G5 le5 hX hts.symm⟩
 ·rintro x ws acc G' k' ⟨todo,xs,hw,rfl,hts,hin,le,hX⟩ hkk;cases todo with
  | nil=>cases hw
  | cons u todo=>
    cases hw;refine⟨le _ _ h,?_⟩;have hxl:xs.length<=100:=by have:=congrArg List.length hts;simp only[length_map,length_append] at this;lia
    have hu:=hin u yby;have su:=hS u hu;have zu:=zI hu;walk_at "R";refine⟨u.1,u.2,rfl,(hT u hu).mono (aE.ls le),su.1,by lia,su.2,hdd u hu,λa G'' le2 fa ha=>hkk _ _ ⟨todo,xs++[(a,u.2)],rfl,by simp[refs],by rw[hts];simp,λy hy=>hin y (ybx _ hy),le.trans le2,λx hx=>?_⟩ (by simp only[length_map];lia)⟩;rcases mem_append.mp hx with hx | hx
    ·exact(hX x hx).mono (aE.ins le2)
    ·rw[mem_singleton.mp hx];exact ha
theorem v5 {G:Gp} {ws:List W} {rs:aT Str} {d:Nat} (hs:kj G ws rs) (h1:iG (10^50) rs) (h2:fY rs<=60) (h3:rs.dt<=3) (h4:rs.dt<d):∃ps,ws=cS ps/\bJ G ps/\D6 ps/\eX ps<=60/\(∀y,y∈ps->y.2.dt<d)/\lr rs/\rs.L=bW ps/\Ew (Sk True) rs:=by
 obtain⟨ps,e,hL,hT⟩:=hs.psq;have er:aT.of (bW ps)=rs:=by rw[←hL,aT.of_L]
 have hm:∀y,y∈ps->y.2∈rs.L:=λy hy=>by rw[hL];exact mem_map.mpr ⟨y,hy,rfl⟩
 exact⟨ps,e,hT,λy hy=>⟨j8 h1 _ (hm y hy),j9 h3 _ (hm y hy)⟩,by rw[←gX,er];exact h2,λy hy=>Nat.lt_of_le_of_lt (j9 (ycx _) _ (hm y hy)) h4,(mI h1 h2 h3).2,hL,λr hr=>vM (gW (jj rs h1 h2 h3) r hr)⟩
noncomputable def kI:aK->Int
 | .inl n=>n
 | .inr _=>0
theorem pY (ms:List (Int×Str)):[]++(((ms.map λm=>((Sum.inl m.1:aK),W.str m.2)).filter λ_=>true).map λp=>W.tup [.tup (au (O.wh (kI p.1))),p.2])=oy (dm ms):=by
 rw[List.filter_eq_self.mpr (λ_ _=>rfl),nil_append,map_map,oy,dm,map_map]
 rfl
theorem Gy {C:Cs} {d k:Nat} (F:cz K "_law_made" "_law_made" (aQ 44) f fd) (F0:Fx P w K mg base "_law_made" ["_law_thing"] k (v0 C d)) (F1:Fx P w K mg base "whole" ["n"] 3 kt) (N1:nE P w K mg base "Set" C.s ["self","box","amount"] 1 (ja C 0)) (N2:nE P w K mg base "Copy" C.c ["self","box","other"] 1 (ja C 1)) (N3:nE P w K mg base "Add" C.a ["self","box","other"] 1 (ja C 2)) (N4:nE P w K mg base "Less" C.l ["self","box"] 1 (ja C 3)) (N5:nE P w K mg base "Times" C.t ["self","box","rows"] 8 (BF C (Sk True))) (N6:nE P w K mg base "While" C.w ["self","box","marks","rows"] 8 (BG C (Sk True))) (hk9:9<=k):cf P w K mg base (k+1) f fd ["_law_thing"] (v0 C (d+1)):=by
 refine dG F (N:=["_law_thing","_law_inner","_law_made_here","_law_marks_here"]) (by walk_at "s") (by walk_at "l") λ_ _ _ _ _ _ nd hr=>?_;apply aN
 ·refine' ae ?s1 (ae ?s2 (ae ?s3 (ae ?s4 (ae ?s5 (ae (bo ?co (cM ?tb) (ae ?mb (ae ?wb (cM (cN (qz ?om)))))) (ae (cN (qz ?ob)) ?s8))))))
  case s1=>exact(bo (aI (bH hr) (av ay (aa 0) ag) bq) (ae (aA (eP N1 (aB.mono hr (by lia)) rfl (ac (av ay (aa 0) ag) (ac (av ay (aa 0) ag) ah)))) ak) ak)
  case s2=>exact(bo (aI (bH hr) (av ay (aa 0) ag) bq) (ae (aA (eP N2 (aB.mono hr (by lia)) rfl (ac (av ay (aa 0) ag) (ac (av ay (aa 0) ag) ah)))) ak) ak)
  case s3=>exact(bo (aI (bH hr) (av ay (aa 0) ag) bq) (ae (aA (eP N3 (aB.mono hr (by lia)) rfl (ac (av ay (aa 0) ag) (ac (av ay (aa 0) ag) ah)))) ak) ak)
  case s4=>exact(bo (aI (bH hr) (av ay (aa 0) ag) bq) (ae (aA (eP N4 (aB.mono hr (by lia)) rfl (ac (av ay (aa 0) ag) ah))) ak) ak)
  case s5=>
   refine' nw 1 (dN (by first | rfl | decide+kernel)) rfl (by assumption) rfl (by first | exact Or.inl rfl | exact Or.inr rfl) ?it (λ_ _ _ _=>?tg) (λ_ _ _ _=>?tt) (λ_ _ _ _=>?te)
   case it=>exact(cr (av ay (aa 0) ag))
   case tg=>exact(bX 1 (by first | assumption | decide+kernel | rfl) rfl (.inl rfl))
   case tt=>exact dv
   case te=>exact(aC F0 (aB.mono hr (by lia)) rfl (ac (aa 1) ah))
  case co=>exact(aI (bH hr) (av ay (aa 0) ag) bq)
  case tb=>exact(aM 2 nd rfl (.inl rfl) (eP N5 (aB.mono hr hk9) rfl (ac (av ay (aa 0) ag) (ac (aa 1) ah))))
  case mb=>exact(qo 3 (dN (by first | rfl | decide+kernel)) rfl nd rfl (.inl rfl) (cr (av ay (aa 0) ag)) (λ_ _ _ _=>(fQ rfl (bQ (bX 1 (by first | assumption | decide+kernel | rfl) rfl (.inl rfl)) (bQ (bX 2 (by first | assumption | decide+kernel | rfl) rfl (.inl rfl)) eK)))) (λ_ _ _ _=>dv) (λ_ _ _ _=>(bh (ac (aC F1 (aB.mono hr (by lia)) rfl (ac (aa 1) ah)) (ac (aa 2) ah)))))
  case wb=>exact(aM 2 nd rfl (.inl rfl) (eP N6 (aB.mono hr hk9) rfl (ac (av ay (aa 0) ag) (ac (aa 3) (ac (aa 1) ah)))))
  case om=>exact(aa 3)
  case ob=>exact(aa 1)
  case s8=>exact(ae (aA (aa 2)) ak)
 ·rintro ws G q e ⟨x,r,rfl,hx,hs,hz,h3,hd,hq⟩;have fin:∀(r':Pl) (p:Addr) (G':Gp),r'.row=r->G p=none->G' p=some (.ins (C.at_ r'.kd) r'.fs)->(∀x,x≠p->G' x=aw G p (.ins (C.at_ r'.kd) []) x)->q (.ref p) G':=λr' p G' hk hp h1 h2=>by
   subst hk;refine hq p G' (λx g e=>?_) hp (r'.at h1);have xp:x≠p:=λz=>by rw[z,hp] at e;cases e
   rw[h2 x xp,ao xp];exact e
  cases hx with
  | set=>
    rename_i b o n;walk_at "a0";exact⟨_,rfl,λp hp=>⟨p,.set b n,rfl,rfl,af,λG' h1 h2=>⟨rfl,aE.done (fin (.set b n) p G' rfl hp h1 h2)⟩⟩⟩
  | copy=>
    rename_i b o n;walk_at "k0";refine aJ λU hU=>?_
    try walk_at "t0"
    walk_at "R";exact λp hp=>⟨p,.copy b o,rfl,rfl,af,λG' h1 h2=>⟨rfl,aE.done (fin (.copy b o) p G' rfl hp h1 h2)⟩⟩
  | add=>
    rename_i b o n;walk_at "k0";walk_at "k0";refine aJ λU hU=>?_
    try walk_at "t0"
    walk_at "R";exact λp hp=>⟨p,.add b o,rfl,rfl,af,λG' h1 h2=>⟨rfl,aE.done (fin (.add b o) p G' rfl hp h1 h2)⟩⟩
  | less=>
    rename_i b o n;walk_at "k0";walk_at "k0";walk_at "k0";refine aJ λU hU=>?_
    try walk_at "t0"
    walk_at "R";exact λp hp=>⟨p,.less b,rfl,rfl,af,λG' h1 h2=>⟨rfl,aE.done (fin (.less b) p G' rfl hp h1 h2)⟩⟩
  | bear h hm ok hy py hs'=>exact hs.elim
  | count h hs'=>exact hs.elim
  | times h hs'=>
    rename_i b l ws rs;have z5:fY rs+1<=60:=hz;have d5:rs.dt+1<=3:=h3;have d6:rs.dt+1<d+1:=hd;obtain⟨ps,rfl,hT,hS,ht,hdd,z,hL,hkd⟩:=v5 (d:=d) hs' hs.1 (by lia) (by lia) (by lia);have hl3:=hs.2.1;rw[hL,length_map] at hl3;have er:aT.of (bW ps)=rs:=by rw[←hL,aT.of_L]
    walk_at "k0";walk_at "k0";walk_at "k0";walk_at "k0";refine aJ λU hU=>?_
    try walk_at "t0"
    walk_at "m1"
    walk_at "a";intro pt hpt;refine⟨pt,_,pm,xs,rfl,af,aG gm6 hpt,hX6.mono (aE.ins (aE.new hpt)),by rw[ers];exact z,by rw[ers];exact hkd,λG7 g7 k7=>⟨rfl,?_⟩⟩;have le7:aE G6 G7:=λx g e=>(k7 x (λz=>by rw[z,hpt] at e;cases e)).trans (aG e hpt);have g7m:=le7 _ _ gm6;have nm:pt≠pm:=λz=>by rw[z,gm6] at hpt;cases hpt
    have hA:=(hX6.mono (aE.ins le7)).ats;rw[ers] at g7 hA;walk_at "a";refine⟨_,g7m,?_⟩;have le8:aE G (aw G7 pm (GO.lst [])):=λx g e=>(ao (λz=>by rw[z,fpm] at e;cases e)).trans (le7 _ _ (le6 _ _ e));have I8:cv G7 (aw G7 pm (GO.lst [])):=cv.but (p:=pm) (λx g xp e=>(ao xp).trans e) (λC' y fs e=>by rw[g7m] at e;cases e);subst hU;walk_at "R";exact aE.done (hq pt _ le8 (bc le6 hpt) (.times ((ao nm).trans g7) (hA.mono I8)))
  | whl h hm ok hs'=>
    rename_i b l m ms ws rs;have z5:fY rs+1<=60:=hz;have d5:rs.dt+1<=3:=h3;have d6:rs.dt+1<d+1:=hd;obtain⟨ps,rfl,hT,hS,ht,hdd,z,hL,hkd⟩:=v5 (d:=d) hs' hs.1 (by lia) (by lia) (by lia);have hl3:=hs.2.1;rw[hL,length_map] at hl3;have er:aT.of (bW ps)=rs:=by rw[←hL,aT.of_L]
    walk_at "k0";walk_at "k0";walk_at "k0";walk_at "k0";refine aJ λU hU=>?_
    try walk_at "t0"
    walk_at "m1"
    walk_at "a";refine⟨_,bC (j:=3) rfl,?_⟩;dsimp only;have hm6:=le6 _ _ hm;refine⟨_,hm6,?_⟩;have ez:ky ms=(ms.map λm=>((Sum.inl m.1:aK),W.str m.2)).map λp=> .tup [kW p.1,p.2]:=by rw[map_map];rfl
    rw[ez] at hm6 ⊢;have h5:=ok.1;refine fX (pr:=λ_=>true) (f:=λp=> .tup [.tup (au (O.wh (kI p.1))),p.2]) (τ0:=[none,none,none,none]) hm6 (λp hp k hk=>hk) (λp hp k hk=>?_) (by simp only[length_nil,length_map];lia) (λ_ _=>rfl) ?_
    ·obtain⟨x,hx,rfl⟩:=mem_map.mp hp;walk_at "R";exact⟨x.1,rfl,(ok.2 x hx).1,hk⟩
    rw[pY];intro pk hpk pt hpt;have gk7:=af (G:=G6) (a:=pk) (g:=GO.lst (oy (dm ms)));have l7:=aE.new (g:=GO.lst (oy (dm ms))) hpk;have fpk:=bc le6 hpk;have le7:=le6.trans l7;have gm7:=l7 _ _ gm6;have hX7:=hX6.mono (aE.ins l7);generalize aw G6 pk (GO.lst (oy (dm ms)))=G7 at gk7 l7 le7 gm7 hX7 hpt ⊢;refine⟨pt,b,pk,pm,dm ms,xs,rfl,af,aG gk7 hpt,by rw[dm,length_map];lia,λx hx=>?_,aG gm7 hpt,hX7.mono (aE.ins (aE.new hpt)),by rw[ers];exact z,by rw[ers];exact hkd,λG8 g8 k8=>⟨rfl,?_⟩⟩
    ·obtain⟨y,hy,rfl⟩:=mem_map.mp hx;exact(Wb.wh (ok.2 y hy).1).dp
    have le8:aE G7 G8:=λx g e=>(k8 x (λz=>by rw[z,hpt] at e;cases e)).trans (aG e hpt);have g8k:=le8 _ _ gk7;have g8m:=le8 _ _ gm7;have nk:pt≠pk:=λz=>by rw[z,gk7] at hpt;cases hpt
    have nm:pt≠pm:=λz=>by rw[z,gm7] at hpt;cases hpt
    have mk:pm≠pk:=λz=>by rw[←z,gm6] at hpk;cases hpk
    have hA:=(hX7.mono (aE.ins le8)).ats;rw[ers] at g8 hA;refine⟨_,g8k,?_⟩;walk_at "a";refine⟨_,(ao mk).trans g8m,?_⟩;have le9:aE G (aw (aw G8 pk (GO.lst [])) pm (GO.lst [])):=λx g e=>(ao (λz=>by rw[z,fpm] at e;cases e)).trans ((ao (λz=>by rw[z,fpk] at e;cases e)).trans (le8 _ _ (le7 _ _ e)));have I9:cv G8 (aw (aw G8 pk (GO.lst [])) pm (GO.lst [])):=λa C' y fs e=>by
     have n1:a≠pm:=λz=>by rw[z,g8m] at e;cases e
     have n2:a≠pk:=λz=>by rw[z,g8k] at e;cases e
     rw[ao n1,ao n2];exact e
    subst hU;walk_at "R";exact aE.done (hq pt _ le9 (bc le7 hpt) (.whl ((ao nm).trans ((ao nk).trans g8)) (hA.mono I9)))
theorem D8 {C:Cs} (T:Txt K mg) (F1:Fx P w K mg base "whole" ["n"] 3 kt) (N1:nE P w K mg base "Set" C.s ["self","box","amount"] 1 (ja C 0)) (N2:nE P w K mg base "Copy" C.c ["self","box","other"] 1 (ja C 1)) (N3:nE P w K mg base "Add" C.a ["self","box","other"] 1 (ja C 2)) (N4:nE P w K mg base "Less" C.l ["self","box"] 1 (ja C 3)) (N5:nE P w K mg base "Times" C.t ["self","box","rows"] 8 (BF C (Sk True))) (N6:nE P w K mg base "While" C.w ["self","box","marks","rows"] 8 (BG C (Sk True))):∀d:Nat,Fx P w K mg base "_law_made" ["_law_thing"] (d+9) (v0 C d)
 | 0=>T.d__law_made.fx λf fd F=>cf.none λws G q e ⟨t,_,_,_,_,_,_,h,_⟩=>by lia
 | d+1=>T.d__law_made.fx λf fd F=>Gy F (D8 T F1 N1 N2 N3 N4 N5 N6 d) F1 N1 N2 N3 N4 N5 N6 (by lia)
def D9:bS:=λws G q _=>∃(x:W) (r:Row) (d:Addr) (kvs:List (aK×W)),ws=[x,.ref d]/\Th G x r/\kd r<4/\G d=some (.dic kvs)/\j6 kvs/\kvs.length<=1000/\q .non (aw G d (.dic (cJ kvs r)))
theorem Gz (F:cz K "_law_done" "_law_done" (aQ 45) f fd) (mm:mg "max"=none):cf P w K mg base 1 f fd ["_law_thing","_law_having"] D9:=by
 refine dG F (N:=["_law_thing","_law_having","_law_here"]) (by walk_at "s") (by walk_at "l") λ_ _ _ _ _ _ nd hr=>?_;apply aN
 ·exact(ae (aM 2 nd rfl (.inl rfl) (eU (aa 1) (av ay (aa 0) ag) ag)) (ae (bo (aI (bH hr) (av ay (aa 0) ag) bq) (ae (cR (av ay (aa 0) ag) (aa 1) (av ay (aa 0) ag)) ak) ak) (ae (bo (aI (bH hr) (av ay (aa 0) ag) bq) (ae (cR (eU (aa 1) (av ay (aa 0) ag) ag) (aa 1) (av ay (aa 0) ag)) ak) ak) (ae (bo (aI (bH hr) (av ay (aa 0) ag) bq) (ae (cR (aO bB (aa 2) (eU (aa 1) (av ay (aa 0) ag) ag)) (aa 1) (av ay (aa 0) ag)) ak) ak) (ae (bo (aI (bH hr) (av ay (aa 0) ag) bq) (ae (cR (bb (lQ rfl) rfl mm qp (ac (aO qk (aa 2) ag) (ac ag ah))) (aa 1) (av ay (aa 0) ag)) ak) ak) ak)))))
 ·rintro ws G q e ⟨x,r,d,kvs,rfl,hx,hk,hd,hi,hl,hq⟩;cases hx with
  | set=>
    rename_i b o n;walk_at "a0";refine⟨⟨_,hd⟩,b,kvs,rfl,hd,?_⟩;rw[hi.get b];subst hU;refine aJ λU hU=>?_;walk_at "t0";walk_at "R";refine⟨.int n,rfl,d,b,kvs,rfl,rfl,hd,by lia,?_⟩;subst hU;walk_at "k0";walk_at "k0";walk_at "R";exact aE.done hq
  | copy=>
    rename_i b o n;walk_at "a0";refine⟨⟨_,hd⟩,b,kvs,rfl,hd,?_⟩;rw[hi.get b];subst hU;walk_at "k0";refine aJ λU hU=>?_;walk_at "t0";walk_at "R";refine⟨⟨_,hd⟩,o,kvs,rfl,hd,?_⟩;rw[hi.get o];refine⟨d,b,kvs,rfl,rfl,hd,by lia,?_⟩;subst hU;walk_at "k0";walk_at "R";exact aE.done hq
  | add=>
    rename_i b o n;walk_at "a0";refine⟨⟨_,hd⟩,b,kvs,rfl,hd,?_⟩;rw[hi.get b];subst hU;walk_at "k0";walk_at "k0";refine aJ λU hU=>?_;walk_at "t0";walk_at "R";refine⟨⟨_,hd⟩,o,kvs,rfl,hd,?_⟩;rw[hi.get o];walk_at "R";refine⟨d,b,kvs,rfl,rfl,hd,by lia,?_⟩;subst hU;walk_at "R";exact aE.done hq
  | less=>
    rename_i b o n;walk_at "a0";refine⟨⟨_,hd⟩,b,kvs,rfl,hd,?_⟩;rw[hi.get b];subst hU;walk_at "k0";walk_at "k0";walk_at "k0";walk_at "R";refine⟨d,b,kvs,rfl,rfl,hd,by lia,?_⟩;exact aE.done hq
  | times h hs=>exact absurd hk (by simp[kd])
  | count h hs=>exact absurd hk (by simp[kd])
  | whl h hm ok hs=>exact absurd hk (by simp[kd])
  | bear h hm ok hy py hs=>exact absurd hk (by simp[kd])
theorem v6 (x:aK):bT [] x=none:=rfl
theorem dH (p:aK×W) (kvs:List (aK×W)) (x:aK):bT (p::kvs) x=if p.1=x then some p.2 else bT kvs x:=by
 unfold bT;rw[List.find?_cons]
 by_cases e:p.1=x
 ·simp[e]
 ·simp[e]
theorem ke {k x:aK} {w:W} (hx:x≠k):∀kvs:List (aK×W),bT (kvs.map λkv=>if kv.1=k then (kv.1,w) else kv) x=bT kvs x
 | []=>rfl
 | p::kvs=>by
   rw[map_cons,dH,dH,ke hx kvs]
   by_cases e:p.1=k
   ·rw[ycv e];have:p.1≠x:=λz=>hx (z.symm.trans e);show(if p.1=x then _ else _)=_;rw[ycw this,ycw this]
   ·rw[ycw e]
theorem kf {k:aK} {w:W}:∀kvs:List (aK×W),(kvs.any λkv=>decide (kv.1=k))=true->bT (kvs.map λkv=>if kv.1=k then (kv.1,w) else kv) k=some w
 | [],h=>by cases h
 | p::kvs,h=>by
   rw[map_cons,dH]
   by_cases e:p.1=k
   ·rw[ycv e];show(if p.1=k then some w else _)=_;rw[ycv e]
   ·rw[ycw e,ycw e];rw[any_cons,ydy e,Bool.false_or] at h;exact kf kvs h
theorem oF (k x:aK) (w:W):∀kvs:List (aK×W),(kvs.any λkv=>decide (kv.1=k))=false->bT (kvs++[(k,w)]) x=if x=k then some w else bT kvs x
 | [],_=>by
   rw[nil_append,dH,v6]
   by_cases e:k=x
   ·rw[ycv e,ycv e.symm]
   ·rw[ycw e,ycw (λz=>e z.symm)]
 | p::kvs,h=>by
   rw[any_cons,Bool.or_eq_false_iff] at h;rw[cons_append,dH,dH,oF k x w kvs h.2];have h1:p.1≠k:=of_decide_eq_false h.1
   by_cases e:p.1=x
   ·rw[ycv e,ycv e,ycw (λz=>h1 (e.trans z))]
   ·rw[ycw e,ycw e]
theorem yH (kvs:List (aK×W)) (k x:aK) (w:W):bT (cB kvs k w) x=if x=k then some w else bT kvs x:=by
 unfold cB;split
 ·rename_i h
  by_cases e:x=k
  ·rw[ycv e,e];exact kf kvs h
  ·rw[ycw e];exact ke e kvs
 ·rename_i h;exact oF k x w kvs (Bool.eq_false_iff.mpr h)
def v7 (kvs:List (aK×W)):Prop:=(kvs.map (·.1)).Nodup
def Ea (kvs:List (aK×W)):Prop:=∀p,p∈kvs->∃z:Str,p.1=.inr z
theorem v7.put {kvs:List (aK×W)} (h:v7 kvs) (k:aK) (w:W):v7 (cB kvs k w):=by
 unfold v7 cB at*;split
 ·rw[map_map];have:kvs.map ((λx:aK×W=>x.1) ∘ λkv=>if kv.1=k then (kv.1,w) else kv)=kvs.map (·.1):=List.map_congr_left λx _=>by
   show(if x.1=k then (x.1,w) else x).1=x.1;split<;> rfl
  rw[this];exact h
 ·rename_i e;rw[map_append,List.nodup_append];refine⟨h,by simp,λa ha b hb z=>e ?_⟩;obtain⟨x,hx,rfl⟩:=mem_map.mp ha;rw[mem_singleton.mp hb] at z;exact List.any_eq_true.mpr ⟨x,hx,ydz z⟩
theorem Ea.put {kvs:List (aK×W)} (h:Ea kvs) (k:Str) (w:W):Ea (cB kvs (.inr k) w):=by
 unfold cB;split
 ·intro p hp;obtain⟨x,hx,rfl⟩:=mem_map.mp hp;obtain⟨z,hz⟩:=h x hx;refine⟨z,?_⟩;split<;> exact hz
 ·intro p hp;rcases mem_append.mp hp with hp | hp
  ·exact h p hp
  ·rw[mem_singleton.mp hp];exact⟨k,rfl⟩
theorem v7.val {kvs:List (aK×W)} (h:v7 kvs) {p:aK×W} (hp:p∈kvs):bT kvs p.1=some p.2:=by
 unfold v7 at h
 induction kvs with
 | nil=>cases hp
 | cons x kvs ih=>
   rw[map_cons,nodup_cons] at h;unfold bT;rw[List.find?_cons];rcases mem_cons.mp hp with rfl | hp
   ·rw[ydz rfl];rfl
   ·rw[ydy (λz=>h.1 (by rw[z];exact mem_map.mpr ⟨p,hp,rfl⟩))];exact ih h.2 hp
theorem sG {kvs:List (aK×W)} {k:aK} {w:W} {e:aK×W} (h:e∈cB kvs k w):e∈kvs∨e.1=k:=by
 unfold cB at h;split at h
 ·obtain⟨x,hx,rfl⟩:=mem_map.mp h;split
  ·rename_i z;exact .inr z
  ·exact .inl hx
 ·rcases mem_append.mp h with h | h
  ·exact .inl h
  ·rw[mem_singleton.mp h];exact .inr rfl
structure BR (g:Str->Int) (done:List (Int×Str)) (kv:List (aK×W)):Prop where
 v:∀e:Int,bT kv (.inl e)=if e∈done.map (·.1) then some (.int (cP g (bE (dm done) (O.wh e)))) else none
 k:∀p,p∈kv->∃n:Int,p.1=.inl n
 l:kv.length<=done.length
 n:v7 kv
theorem BR.put {g:Str->Int} {done:List (Int×Str)} {kv:List (aK×W)} (h:BR g done kv) (h0:∀m,m∈done->0<=m.1) {m:Int×Str} (hm:0<=m.1):BR g (done++[m]) (cB kv (.inl m.1) (.int ((match bT kv (.inl m.1) with | some (.int n)=>n | _=>0)+g m.2))):=by
 have es:dm (done++[m])=dm done++[(O.wh m.1,m.2)]:=by unfold dm;rw[map_append];rfl
 refine⟨λe=>?_,λp hp=>?_,?_,h.n.put _ _⟩
 ·rw[yH,es,fV,nJ]
  by_cases e1:e=m.1
  ·subst e1;rw[ycv rfl,ycv (by simp),ycv rfl,h.v]
   by_cases e2:m.1∈done.map (·.1)
   ·rw[ycv e2];simp[cP]
   ·rw[ycw e2];have:bE (dm done) (O.wh m.1)=[]:=jF λz=>e2 (by
     obtain⟨x,hx,ex⟩:=mem_map.mp z;obtain⟨y,hy,rfl⟩:=mem_map.mp hx;rw[←uF (h0 y hy) hm ex];exact mem_map.mpr ⟨y,hy,rfl⟩)
    rw[this];simp[cP]
  ·rw[ycw (λz=>e1 (Sum.inl.inj z)),h.v]
   by_cases e2:e∈done.map (·.1)
   ·have he:0<=e:=by
     obtain⟨y,hy,rfl⟩:=mem_map.mp e2;exact h0 y hy
    rw[ycv e2,ycv (by simp only[map_append,mem_append];exact .inl e2),ycw (λz=>e1 (uF hm he z).symm)];simp[cP]
   ·rw[ycw e2,ycw (by simp only[map_append,mem_append,map_cons,map_nil,mem_singleton];exact λz=>z.elim e2 e1)]
 ·rcases sG hp with hp | hp
  ·exact h.k p hp
  ·exact⟨_,hp⟩
 ·have:=cZ kv (.inl m.1) (W.int ((match bT kv (.inl m.1) with | some (.int n)=>n | _=>0)+g m.2));have:=h.l;rw[length_append];show _<=done.length+1;lia
def Eb:bS:=λws G q _=>∃(m d:Addr) (ms:List (Int×Str)) (kvs:List (aK×W)) (B:Int),ws=[.ref m,.ref d]/\G m=some (.lst (ky ms))/\yF ms/\G d=some (.dic kvs)/\dq B kvs/\0<=B/\
 ∀(y:Addr) (G':Gp) (yl:List (Int×Int)),aE G G'->G y=none->G' y=some (.lst (kz yl))->ko yl=bN (aX kvs) (d7 (dm ms))->(∀p,p∈yl->0<=p.1)->q (.ref y) G'
noncomputable def vI:W->Int
 | .int n=>n
 | _=>0
theorem v9 {vf:Int->Int} (h:∀e,0<=vf e):∀ns:List Int,((ns.map W.int).filter λw=>decide (0<vf (vI w))).map (λw=>W.tup [w,.int (vf (vI w))])=kz ((ns.map λe=>(e,vf e)).filter λp=>decide (p.2≠0))
 | []=>rfl
 | e::ns=>by
   have ih:=v9 h ns;have he:=h e;rw[map_cons,map_cons]
   by_cases h0:vf e=0
   ·rw[filter_cons_of_neg (by show ¬decide (0<vf e)=true;rw[decide_eq_true_eq];lia),filter_cons_of_neg (by simpa using h0)];exact ih
   ·rw[filter_cons_of_pos (by show decide (0<vf e)=true;rw[decide_eq_true_eq];lia),filter_cons_of_pos (by simpa using h0),map_cons,ih]
    rfl
theorem BR.keys {g:Str->Int} {done:List (Int×Str)} {kv:List (aK×W)} (h:BR g done kv) {ns:List Int} (hs:ns.Pairwise (·≥ ·)) (hP:ns.Perm (kv.map λp=>fj p.1)):(ns.Pairwise λa b=>b<a)/\∀e,e∈ns↔e∈done.map (·.1):=by
 have hk:∀p,p∈kv->p.1=.inl (fj p.1):=λp hp=>by
  obtain⟨n,hn⟩:=h.k p hp;rw[hn]
  rfl
 have hd:(kv.map λp=>fj p.1).Nodup:=by
  refine pairwise_map.mpr ((pairwise_map.mp h.n).imp_of_mem λ{a b} ha hb hab e=>hab ?_);rw[hk a ha,hk b hb,e]
 have hn:ns.Nodup:=hP.nodup_iff.mpr hd;refine⟨(hs.and hn).imp λ{a b} hab=>by have:=hab.1;have:=hab.2;lia,λe=>?_⟩;rw[hP.mem_iff];constructor
 ·intro he;obtain⟨p,hp,rfl⟩:=mem_map.mp he;have v1:=h.n.val hp;rw[hk p hp,h.v] at v1
  by_cases z:fj p.1∈done.map (·.1)
  ·exact z
  ·rw[ycw z] at v1;cases v1
 ·intro he;have v1:=h.v e;rw[ycv he] at v1;unfold bT at v1;obtain⟨p,hp,_⟩:=Option.map_eq_some_iff.mp v1;have h1:=List.mem_of_find?_eq_some hp;have h2:=List.find?_some hp;have h3:p.1=.inl e:=by simpa using h2
  exact mem_map.mpr ⟨p,h1,by rw[h3];rfl⟩
theorem GA (F:cz K "_law_measured" "_law_measured" (aQ 46) f fd) (ms:mg "sorted"=none):cf P w K mg base 1 f fd ["_law_marks_here","_law_having"] Eb:=by
 refine dG F (N:=["_law_marks_here","_law_having","_law_together","_law_exponent","_law_box"]) (by walk_at "s") (by walk_at "l") λ_ _ _ _ _ _ nd hr=>?_;apply aN
 ·refine' ae ?s1 (ae (dg PassesOwn.never rfl ?it ?tg (cM (show QS _ _ (pT _ _ _) from vq (aO bB (show QE _ _ (vt _ _ _) from vw ?g1 ?g2 ?g3) ?g4) ?d1 ?d2))) (cM (aA (nr (dN (by first | rfl | decide+kernel)) rfl (cr (show QE _ _ (pV _) from vz rfl rfl ms ?sn)) (λ_ _ _ _=>?cg) (λ_ _ _ _=>qm (aI m9 (av (show wk _ sA from zF) ?x1 ?x2) ?x3)) (λ_ _ _ _=>bh (ac ?ce (ac (av (show wk _ sA from zF) ?y1 ?y2) ah)))))))
  case s1=>exact(aM 2 nd rfl (.inr rfl) lZ)
  case it=>exact(cr (aa 0))
  case tg=>exact(fQ rfl (bQ (bO 3 nd rfl (.inl rfl)) (bQ (bO 4 nd rfl (.inl rfl)) eK)))
  case g1=>exact(aa 2 rfl (.inr (.inl rfl)))
  case g2=>exact(aa 3)
  case g3=>exact ag
  case g4=>exact(eU (aa 1) (aa 4) ag)
  case d1=>exact(aa 2 rfl (.inr (.inl rfl)))
  case d2=>exact(aa 3)
  case sn=>exact(aa 2 rfl (.inr (.inl rfl)))
  case cg=>exact(bX 1 (by first | assumption | decide+kernel | rfl) rfl (.inl rfl))
  case x1=>exact(aa 2 rfl (.inr (.inl rfl)))
  case x2=>exact(aa 1)
  case x3=>exact ag
  case ce=>exact(aa 1)
  case y1=>exact(aa 2 rfl (.inr (.inl rfl)))
  case y2=>exact(aa 1)
 ·rintro ws G q e ⟨m,d,ml,kvs,B,rfl,hG,hm,hd,hB,B0,hq⟩;have hg:∀x,0<=aX kvs x:=λx=>(hB.get B0 x).1;have hi:=hB.int;have h5:=hm.1;walk_at "a0";intro t ht;have le1:=aE.new (g:=GO.dic []) ht;have g1:=af (G:=G) (a:=t) (g:=GO.dic []);have nd1:t≠d:=λz=>by rw[z,hd] at ht;cases ht
  have nm1:t≠m:=λz=>by rw[z,hG] at ht;cases ht
  walk_at "a";refine⟨_,le1 _ _ hG,cc (λws τ G'=>∃(done todo:List (Int×Str)) (kv:List (aK×W)) (t2 t3:Option W),ws=ky todo/\τ=[some (.ref m),some (.ref d),some (.ref t),t2,t3]/\done++todo=ml/\BR (aX kvs) done kv/\G' t=some (.dic kv)/\∀x,x≠t->G' x=G x) ?_ ?_ _ _ _ ⟨[],ml,[],none,none,rfl,rfl,rfl,⟨λ_=>rfl,(λ_ h=>(nomatch h)),ycx _,by simp[v7]⟩,g1,λx hx=>ao hx⟩⟩
  ·rintro τ G' ⟨done,todo,kv,t2,t3,hw,rfl,hp,tg,gt,gk⟩;refine⟨(gk m nm1.symm).trans hG,?_⟩;have hb:todo=[]:=by simpa using hw.symm
   subst hb;rw[append_nil] at hp;subst hp;have leG:aE G G':=λx g e=>(gk x (λz=>by rw[z,ht] at e;cases e)).trans e;subst hU;walk_at "R";simp only[pV,gl,List.getElem?_cons_zero,List.getElem?_cons_succ];have hkl:=tg.l;refine⟨kv,gt,by lia,tg.k,λp ns hp hs hP=>⟨_,af,?_⟩⟩;obtain⟨k1,k2⟩:=tg.keys hs hP;have gt2:=aG (g:=GO.lst (ns.map W.int)) gt hp;have vn:∀e,0<=cP (aX kvs) (bE (dm done) (O.wh e)):=λe=>je hg _;have vv:∀e,e∈ns->bT kv (.inl e)=some (.int (cP (aX kvs) (bE (dm done) (O.wh e)))):=λe he=>by rw[tg.v,ycv ((k2 e).mp he)]
   have hnl:ns.length<=3:=by rw[hP.length_eq,length_map];lia
   refine fW (i:=1) (p:=λw=>decide (0<cP (aX kvs) (bE (dm done) (O.wh (vI w))))) (f:=λw=> .tup [w,.int (cP (aX kvs) (bE (dm done) (O.wh (vI w))))]) (τ0:=[none,none,some (.ref t)]) af (λx hx k hk=>?_) (λx hx _ k hk=>?_) (by simp only[length_nil,length_map];lia) (λ_=>rfl) λy hy1 hy2=>?_
   ·obtain⟨e,he,rfl⟩:=mem_map.mp hx;walk_at "R";simp only[sA];refine⟨kv,_,gt2,vv e he,?_⟩;walk_at "R";exact hk
   ·obtain⟨e,he,rfl⟩:=mem_map.mp hx;walk_at "R";simp only[sA];exact⟨kv,_,gt2,vv e he,hk⟩
   ·have le2:=leG.trans (aE.new (g:=GO.lst (ns.map W.int)) hp);refine aE.done (hq y _ _ (le2.trans (aE.new hy2)) (bc le2 hy2) ?_ (xK (g:=aX kvs) (λm hm'=>(hm.2 m hm').1) k1 k2).symm ?_)
    ·rw[af,nil_append,v9 vn]
    ·intro p hp;obtain⟨e,he,rfl⟩:=mem_map.mp (mem_filter.mp hp).1;obtain⟨m',hm',rfl⟩:=mem_map.mp ((k2 e).mp he);exact(hm.2 m' hm').1
  ·rintro w1 ws τ G' kk ⟨done,todo,kv,t2,t3,hw,rfl,hp,tg,gt,gk⟩ hk;cases todo with
   | nil=>cases hw
   | cons x todo=>
     cases hw;refine⟨(gk m nm1.symm).trans hG,?_⟩;simp only[mZ,gz,mY,cG,set_cons_succ,set_cons_zero];refine⟨rfl,?_⟩;walk_at "R";simp only[pT];walk_at "R";have gd:=(gk d nd1.symm).trans hd;have ev:(bT kv (.inl x.1)).getD (.int 0)=.int (match bT kv (.inl x.1) with | some (.int n)=>n | _=>0):=by
      rw[tg.v];split<;> rfl
     have hdl:done.length<=3:=by have:=congrArg List.length hp;rw[length_append] at this;lia
     have hkl:=tg.l;refine⟨⟨_,gt⟩,x.1,kv,rfl,gt,⟨_,gd⟩,x.2,kvs,rfl,gd,?_⟩;rw[hi.get x.2,ev];walk_at "R";have hin:∀y,y∈done++[x]->0<=y.1:=λy hy=>(hm.2 y (by
      rw[←hp];rcases mem_append.mp hy with hy | hy
      ·exact mem_append_left _ hy
      ·rw[mem_singleton.mp hy];simp)).1
     exact⟨t,x.1,kv,rfl,rfl,gt,by lia,hk _ _ ⟨done++[x],todo,_,_,_,rfl,rfl,by rw[append_assoc];exact hp,tg.put (λy hy=>hin y (mem_append_left _ hy)) (hin x (by simp)),af,λy hy=>(ao hy).trans (gk y hy)⟩⟩
theorem Ec (a b c d:Int):(W.tup [.int a,.int b]).eq (.tup [.int c,.int d])=decide ((a,b)=(c,d)):=by
 rw[Bool.eq_iff_iff];simp[W.eq,W.eqs,Prod.mk.injEq]
def Ed:bS:=λws G q _=>∃(a b:Addr) (yl zl:List (Int×Int)),ws=[.ref a,.ref b]/\G a=some (.lst (kz yl))/\G b=some (.lst (kz zl))/\yl.length<=1000/\zl.length<=1000/\q (.bl (oI yl zl)) G
theorem yI:∀{l m:List (Int×Int)},l=[]∨m=[]->oI l m=decide (l.length<m.length)
 | [],[],_=>rfl
 | [],_::_,_=>rfl
 | _::_,[],_=>rfl
 | _::_,_::_,h=>by rcases h with h | h<;> cases h
theorem wa (p q:Int×Int) (l m:List (Int×Int)):oI (p::l) (q::m)=if p=q then oI l m else decide (p.1<q.1∨p.1=q.1/\p.2<q.2):=rfl
theorem GB (F:cz K "_law_below" "_law_below" (aQ 47) f fd) (ml:mg "len"=none) (mr:mg "range"=none) (mm:mg "min"=none):cf P w K mg base 1 f fd ["_law_one","_law_other"] Ed:=by
 refine dG F (N:=["_law_one","_law_other","_law_k"]) (by walk_at "s") (by walk_at "l") λ_ _ _ _ _ _ nd hr=>?_;apply aN
 ·exact(ae (dg PySem.PassesOwn.never rfl (jy rfl mr (ac (bb (Da rfl) rfl mm Db (ac (bb cj rfl ml PySem.boot_len (ac (aa 0) ah)) (ac (bb cj rfl ml PySem.boot_len (ac (aa 1) ah)) ah))) ah)) (bO 2 nd rfl (.inl rfl)) (ae (bo (aI (et hr) (av ay (aa 0) (aa 2)) (av ay (aa 1) (aa 2))) (ae (aA (Cy (fc (iR hr) (av ay (av ay (aa 0) (aa 2)) ag) (av ay (av ay (aa 1) (aa 2)) ag)) (ii (ik (fc (bH hr) (av ay (av ay (aa 0) (aa 2)) ag) (av ay (av ay (aa 1) (aa 2)) ag)) (ii (fc (iR hr) (av ay (av ay (aa 0) (aa 2)) ag) (av ay (av ay (aa 1) (aa 2)) ag))))))) ak) ak) ak)) (ae (aA (fc (iR hr) (bb cj rfl ml PySem.boot_len (ac (aa 0) ah)) (bb cj rfl ml PySem.boot_len (ac (aa 1) ah)))) ak))
 ·rintro ws G q e ⟨a,b,yl,zl,rfl,ha,hb,la,lb,hq⟩;walk_at "a0";refine⟨_,.lst ha,_,.lst hb,?_⟩;rw[length_map,length_map];refine⟨by split<;> lia,by split<;> lia,?_⟩;have em:(if (zl.length:Int)<(yl.length:Int) then (zl.length:Int) else (yl.length:Int)).toNat=min yl.length zl.length:=by split<;> lia
  rw[em];refine lY (min yl.length zl.length) (λi τ G'=>G'=G/\∃t2,τ=[some (.ref a),some (.ref b),t2]/\oI yl zl=oI (yl.drop i) (zl.drop i)) ⟨rfl,none,rfl,rfl⟩ ?_ ?_
  ·rintro τ G' ⟨rfl,t2,rfl,hc⟩;refine⟨trivial,?_⟩;subst hU;walk_at "R";refine⟨_,.lst ha,_,.lst hb,?_⟩;rw[length_map,length_map];have hz:yl.drop (min yl.length zl.length)=[]∨zl.drop (min yl.length zl.length)=[]:=by
    rcases Nat.le_total yl.length zl.length with h | h
    ·exact .inl (List.drop_eq_nil_of_le (by lia))
    ·exact .inr (List.drop_eq_nil_of_le (by lia))
   rw[yI hz,length_drop,length_drop] at hc;have e2:decide ((yl.length:Int)<(zl.length:Int))=oI yl zl:=by
    rw[hc];rcases lt_or_ge yl.length zl.length with h | h
    ·rw[ydz (by lia),ydz (by lia)]
    ·rw[ydy (by lia),ydy (by lia)]
   rw[e2];exact aE.done hq
  ·rintro i τ G' kk hi ⟨rfl,t2,rfl,hc⟩ hk;have hy:yl[i]?=some yl[i]:=ycz (by lia);have hz:zl[i]?=some zl[i]:=ycz (by lia);have dy:yl.drop i=yl[i]::yl.drop (i+1):=drop_eq_getElem_cons (by lia);have dz:zl.drop i=zl[i]::zl.drop (i+1):=drop_eq_getElem_cons (by lia);have iy:(kz yl)[i]?=some (.tup [.int yl[i].1,.int yl[i].2]):=by rw[List.getElem?_map,hy];rfl
   have iz:(kz zl)[i]?=some (.tup [.int zl[i].1,.int zl[i].2]):=by rw[List.getElem?_map,hz];rfl
   rw[dy,dz,wa] at hc;refine⟨trivial,?_⟩;walk_at "R";refine⟨_,_,ha,bC iy,?_⟩;walk_at "R";refine⟨_,_,hb,bC iz,?_⟩;walk_at "R";refine⟨rfl,rfl,by simp[W.dep,W.deps],?_⟩;rw[Ec]
   by_cases hp:yl[i]=zl[i]
   ·rw[ydz (show(yl[i].1,yl[i].2)=(zl[i].1,zl[i].2) from hp),ycw (by decide)];rw[ycv hp] at hc;exact hk _ _ ⟨rfl,_,rfl,hc⟩
   ·rw[ydy (show ¬(yl[i].1,yl[i].2)=(zl[i].1,zl[i].2) from hp),ycv rfl];rw[ycw hp] at hc;refine⟨_,_,ha,bC iy,?_⟩;walk_at "R";refine⟨_,_,hb,bC iz,?_⟩;walk_at "R";refine eT (λh1=>?_) λh1=>?_
    ·rw[ydz (.inl h1)] at hc;rw[hc] at hq;exact aE.done hq
    ·refine⟨_,_,ha,bC iy,?_⟩;walk_at "R";refine⟨_,_,hb,bC iz,?_⟩;walk_at "R";refine eT (λh2=>?_) λh2=>?_
     ·refine⟨_,_,ha,bC iy,?_⟩;walk_at "R";refine⟨_,_,hb,bC iz,?_⟩;walk_at "R";have e3:oI yl zl=decide (yl[i].2<zl[i].2):=by
       rw[hc]
       by_cases h3:yl[i].2<zl[i].2
       ·rw[ydz h3,ydz (.inr ⟨h2,h3⟩)]
       ·rw[ydy h3,ydy (λz=>z.elim h1 λz=>h3 z.2)]
      rw[e3] at hq;exact aE.done hq
     ·rw[ydy (λz=>z.elim h1 λz=>h2 z.1)] at hc;rw[hc] at hq;exact aE.done hq
theorem mJ:∀l:List (Int×Int),(ko l).len=l.length
 | []=>rfl
 | p::l=>by show(ko l).len+1=l.length+1;rw[mJ l]
def Ee:bS:=λws G q _=>∃(t d:Addr) (p0:W×Row) (ps:List (W×Row)) (kvs:List (aK×W)) (G0:Gp),ws=[.ref t,.ref d]/\G t=some (.lst (cS (p0::ps)))/\jb G0 G/\bJ G0 (p0::ps)/\Sz p0.2/\ps.length<=30000/\G d=some (.dic kvs)/\(∃B:Int,dq B kvs/\0<=B)/\kvs.length<=1000/\(d3 kvs p0.2->q .non G)/\
 (¬d3 kvs p0.2->∀(p:Addr) (G':Gp) (ps':List (W×Row)) (G0':Gp),(∀x g,x≠d->G x=some g->G' x=some g)->G' d=some (.dic (cJ kvs p0.2))->G p=none->G' p=some (.lst (cS ps'))->jb G0' G'->(∀x ws,G0' x=some (.lst ws)->G0 x=some (.lst ws)∨G x=none)->bJ G0' ps'->bW ps'=dc kvs p0.2++bW ps->q (.ref p) G')
theorem BM (x:W) (xs:List W):ef (x::xs) 0=some x:=bC (j:=0) rfl
theorem kA (p0:W×Row) (ps:List (W×Row)):cF (cS (p0::ps)) (some 1) none=cS ps:=gM (cS (p0::ps)) 1
theorem fC {G0 G:Gp} {q:WK} {t d:Addr} {p0:W×Row} {ps:List (W×Row)} {kvs:List (aK×W)} (ht:G t=some (.lst (cS (p0::ps)))) (ll:jb G0 G) (hT:bJ G0 (p0::ps)) (hd:G d=some (.dic kvs)) (hs:dc kvs p0.2=[])
 (hq:∀(p:Addr) (G':Gp) (ps':List (W×Row)) (G0':Gp),(∀x g,x≠d->G x=some g->G' x=some g)->G' d=some (.dic (cJ kvs p0.2))->G p=none->G' p=some (.lst (cS ps'))->jb G0' G'->(∀x ws,G0' x=some (.lst ws)->G0 x=some (.lst ws)∨G x=none)->bJ G0' ps'->bW ps'=dc kvs p0.2++bW ps->q (.ref p) G') (p:Addr) (hp:aw G d (.dic (cJ kvs p0.2)) p=none):q (.ref p) (aw (aw G d (.dic (cJ kvs p0.2))) p (.lst (cS ps))):=by
 have pd:p≠d:=λz=>by rw[z,af] at hp;cases hp
 have hp0:G p=none:=by rw[ao pd] at hp;exact hp
 have keep:∀x g,x≠d->G x=some g->aw (aw G d (.dic (cJ kvs p0.2))) p (.lst (cS ps)) x=some g:=λx g xd e=>by
  rw[ao (λz=>by rw[z,hp0] at e;cases e),ao xd];exact e
 refine hq p _ ps G0 keep ((ao pd.symm).trans af) hp0 af (λa ws e=>keep a _ (λz=>by rw[z] at e;have:=ll _ _ e;rw[hd] at this;cases this) (ll _ _ e)) (λ_ _ e=> .inl e) (λx hx=>hT x (ybx _ hx)) (by rw[hs];rfl)
theorem rD {G0 G:Gp} {q:WK} {t d:Addr} {p0:W×Row} {ps:List (W×Row)} {kvs:List (aK×W)} {b:Str} {l m:Addr} {ms:List (Int×Str)} {qs:List (W×Row)} {rs:aT Str} (ht:G t=some (.lst (cS (p0::ps)))) (ll:jb G0 G) (hT:bJ G0 (p0::ps)) (hd:G d=some (.dic kvs)) (hn:ps.length<=30000) (h:G0 l=some (.lst (cS qs))) (hm:G0 m=some (.lst (ky ms))) (ok:yF ms) (hs:kj G0 (cS qs) rs) (hL:rs.L=bW qs) (hQ:bJ G0 qs) (hql:qs.length<=30000) (hk:cJ kvs p0.2=kvs) (hst:dc kvs p0.2=rs.L++[Rq.bear b (d7 (dm ms)) rs (bN (aX kvs) (d7 (dm ms)))])
 (hq:∀(p:Addr) (G':Gp) (ps':List (W×Row)) (G0':Gp),(∀x g,x≠d->G x=some g->G' x=some g)->G' d=some (.dic (cJ kvs p0.2))->G p=none->G' p=some (.lst (cS ps'))->jb G0' G'->(∀x ws,G0' x=some (.lst ws)->G0 x=some (.lst ws)∨G x=none)->bJ G0' ps'->bW ps'=dc kvs p0.2++bW ps->q (.ref p) G')
 (y1:Addr) (G1:Gp) (yl1:List (Int×Int)) (k1:aE G G1) (fy:G y1=none) (gy:G1 y1=some (.lst (kz yl1))) (em:ko yl1=bN (aX kvs) (d7 (dm ms))) (py:∀p,p∈yl1->0<=p.1) (p:Addr) (hp:G1 p=none):∃xs ys,aw G1 p (.lst [W.tup [.str "while",.str b,.ref l,.ref m,.ref y1]]) l=some (.lst xs)/\aw G1 p (.lst [W.tup [.str "while",.str b,.ref l,.ref m,.ref y1]]) p=some (.lst ys)/\xs.length+ys.length<=100000/\∀p1,aw G1 p (.lst [W.tup [.str "while",.str b,.ref l,.ref m,.ref y1]]) p1=none->∃xs1,aw (aw G1 p (.lst [W.tup [.str "while",.str b,.ref l,.ref m,.ref y1]])) p1 (.lst (xs++ys)) t=some (.lst xs1)/\∀p2,aw (aw G1 p (.lst [W.tup [.str "while",.str b,.ref l,.ref m,.ref y1]])) p1 (.lst (xs++ys)) p2=none->∃xs2 ys2,aw (aw (aw G1 p (.lst [W.tup [.str "while",.str b,.ref l,.ref m,.ref y1]])) p1 (.lst (xs++ys))) p2 (.lst (cF xs1 (some 1) none)) p1=some (.lst xs2)/\aw (aw (aw G1 p (.lst [W.tup [.str "while",.str b,.ref l,.ref m,.ref y1]])) p1 (.lst (xs++ys))) p2 (.lst (cF xs1 (some 1) none)) p2=some (.lst ys2)/\xs2.length+ys2.length<=100000/\∀p3,aw (aw (aw G1 p (.lst [W.tup [.str "while",.str b,.ref l,.ref m,.ref y1]])) p1 (.lst (xs++ys))) p2 (.lst (cF xs1 (some 1) none)) p3=none->∃GE,aE GE (aw (aw (aw (aw G1 p (.lst [W.tup [.str "while",.str b,.ref l,.ref m,.ref y1]])) p1 (.lst (xs++ys))) p2 (.lst (cF xs1 (some 1) none))) p3 (.lst (xs2++ys2)))/\q (.ref p3) GE:=by
 have le1:=k1.trans (aE.new (g:=GO.lst [W.tup [.str "while",.str b,.ref l,.ref m,.ref y1]]) hp);have gy1:=aG (g:=GO.lst [W.tup [.str "while",.str b,.ref l,.ref m,.ref y1]]) gy hp;refine⟨_,_,le1 _ _ (ll _ _ h),af,by simp only[length_map,length_cons,length_nil];lia,λp1 hp1=>?_⟩;have le2:=le1.trans (aE.new (g:=GO.lst (cS qs++[W.tup [.str "while",.str b,.ref l,.ref m,.ref y1]])) hp1);have gy2:=aG (g:=GO.lst (cS qs++[W.tup [.str "while",.str b,.ref l,.ref m,.ref y1]])) gy1 hp1;refine⟨_,le2 _ _ ht,λp2 hp2=>?_⟩;rw[kA];have le3:=le2.trans (aE.new (g:=GO.lst (cS ps)) hp2);have gy3:=aG (g:=GO.lst (cS ps)) gy2 hp2;refine⟨_,_,aG af hp2,af,by simp only[length_map,length_append,length_cons,length_nil];lia,λp3 hp3=>?_⟩;have le4:=le3.trans (aE.new (g:=GO.lst ((cS qs++[W.tup [.str "while",.str b,.ref l,.ref m,.ref y1]])++cS ps)) hp3);have gy4:=aG (g:=GO.lst ((cS qs++[W.tup [.str "while",.str b,.ref l,.ref m,.ref y1]])++cS ps)) gy3 hp3;have g0y:∀ws,G0 y1≠some (.lst ws):=λws e=>by rw[ll _ _ e] at fy;cases fy
 have lo:jb G0 (aw G0 y1 (.lst (kz yl1))):=λa ws e=>by
  rw[ao (λz:a=y1=>g0y ws (by rw[←z];exact e))];exact e
 refine aE.done (hq p3 _ (qs++(W.tup [.str "while",.str b,.ref l,.ref m,.ref y1],.bear b (d7 (dm ms)) rs (bN (aX kvs) (d7 (dm ms))))::ps) (aw G0 y1 (.lst (kz yl1))) (λx g _ e=>le4 _ _ e) (by rw[hk];exact le4 _ _ hd) (bc le3 hp3) ?_ (λa ws e=>?_) (λa ws e=>?_) (λy hy=>?_) ?_)
 ·rw[af];simp[cS]
 ·by_cases z:a=y1
  ·subst z;rw[af] at e;cases e;exact gy4
  ·rw[ao z] at e;exact le4 _ _ (ll _ _ e)
 ·by_cases z:a=y1
  ·exact .inr (z▸fy)
  ·rw[ao z] at e;exact .inl e
 ·rcases mem_append.mp hy with hy | hy
  ·exact(hQ y hy).mono lo
  ·rcases mem_cons.mp hy with rfl | hy
   ·rw[←em];exact .bear (lo _ _ h) (lo _ _ hm) ok af py (hs.mono lo)
   ·exact(hT y (ybx _ hy)).mono lo
 ·rw[hst,hL];simp[bW]
theorem GC (F:cz K "_law_step" "_law_step" (aQ 48) f fd) (F1:Fx P w K mg base "_law_done" ["_law_thing","_law_having"] 1 D9) (F2:Fx P w K mg base "_law_measured" ["_law_marks_here","_law_having"] 1 Eb) (F3:Fx P w K mg base "_law_below" ["_law_one","_law_other"] 1 Ed):cf P w K mg base 2 f fd ["_law_things","_law_having"] Ee:=by
 refine dG F (N:=["_law_things","_law_having","_law_first","_law_now"]) (by walk_at "s") (by walk_at "l") λ_ _ _ _ _ _ nd hr=>?_;apply aN
 ·exact(ae (aM 2 nd rfl (.inl rfl) (av ay (aa 0) ag)) (ae (bo (aI (bH hr) (av ay (aa 2) ag) bq) (ae (aA (aO bB (bw (ac (bh (ac bq (ac (eU (aa 1) (av ay (aa 2) ag) ag) (ac (av ay (aa 2) ag) ah)))) ah)) (bv (aa 0) (bR ag) ci))) ak) ak) (ae (bo (fP (dX (aI (bH hr) (av ay (aa 2) ag) bq) (cW (aI (bH hr) (av ay (aa 2) ag) ag)))) (ae (aA (bv (aa 0) (bR ag) ci)) ak) ak) (ae (bo (aI (bH hr) (av ay (aa 2) ag) bq) (ae (aA (aO bB (aO bB (av ay (aa 2) ag) (bw (ac (bh (ac bq (ac (aO qk (av ay (aa 2) ag) ag) (ac (av ay (aa 2) ag) ah)))) ah))) (bv (aa 0) (bR ag) ci))) ak) ak) (ae (bo (aI (bH hr) (av ay (aa 2) ag) bq) (ae (bo (aI (bH hr) (eU (aa 1) (av ay (aa 2) ag) ag) ag) (ae (aA (bv (aa 0) (bR ag) ci)) ak) ak) (ae (aM 3 nd rfl (.inl rfl) (aC F2 (aB.mono hr (by lia)) rfl (ac (av ay (aa 2) ag) (ac (aa 1) ah)))) (ae (bo (fP (dX (aI AF (av ay (aa 2) ag) fO) (cW (ig (eJ (aC F3 (aB.mono hr (by lia)) rfl (ac (aa 3) (ac (av ay (aa 2) ag) ah)))))))) (ae (aA fO) ak) ak) (ae (aA (aO bB (aO bB (av ay (aa 2) ag) (bw (ac (bh (ac bq (ac (av ay (aa 2) ag) (ac (av ay (aa 2) ag) (ac (av ay (aa 2) ag) (ac (aa 3) ah)))))) ah))) (bv (aa 0) (bR ag) ci))) ak)))) ak) (ae (cN (aC F1 (aB.mono hr (by lia)) rfl (ac (aa 2) (ac (aa 1) ah)))) (ae (aA (bv (aa 0) (bR ag) ci)) ak)))))))
 ·rintro ws G q e ⟨t,d,p0,ps,kvs,G0,rfl,ht,ll,hT,hz,hn,hd,⟨B,hB,B0⟩,hl,hx,hq⟩;have hi:=hB.int;have h0:=hT p0 yby;have td:t≠d:=λz=>by rw[z,hd] at ht;cases ht
  obtain⟨x,r⟩:=p0;walk_at "a0";refine⟨_,_,ht,BM _ _,?_⟩;dsimp only at h0 hz hx hq ⊢;cases h0 with
  | set=>
    subst hU;walk_at "k2";walk_at "k2";walk_at "k2";walk_at "k2";walk_at "R";refine⟨_,.set _ _,d,kvs,rfl,.set,by simp[kd],hd,hi,hl,_,(ao td).trans ht,λp hp=>?_⟩;rw[kA];exact aE.done (fC ht ll hT hd rfl (hq id) p hp)
  | copy=>
    subst hU;walk_at "k2";walk_at "k2";walk_at "k2";walk_at "k2";walk_at "R";refine⟨_,.copy _ _,d,kvs,rfl,.copy,by simp[kd],hd,hi,hl,_,(ao td).trans ht,λp hp=>?_⟩;rw[kA];exact aE.done (fC ht ll hT hd rfl (hq id) p hp)
  | add=>
    subst hU;walk_at "k2";walk_at "k2";walk_at "k2";walk_at "k2";walk_at "R";refine⟨_,.add _ _,d,kvs,rfl,.add,by simp[kd],hd,hi,hl,_,(ao td).trans ht,λp hp=>?_⟩;rw[kA];exact aE.done (fC ht ll hT hd rfl (hq id) p hp)
  | less=>
    subst hU;walk_at "k2";walk_at "k2";walk_at "k2";walk_at "k2";walk_at "R";refine⟨_,.less _,d,kvs,rfl,.less,by simp[kd],hd,hi,hl,_,(ao td).trans ht,λp hp=>?_⟩;rw[kA];exact aE.done (fC ht ll hT hd rfl (hq id) p hp)
  | times h hs=>
    rename_i b l ws rs;walk_at "a";refine⟨⟨_,hd⟩,b,kvs,rfl,hd,?_⟩;rw[hi.get b];intro p hp;have le1:=aE.new (g:=GO.lst [W.tup [.str "count",.int (aX kvs b),.ref l]]) hp;refine⟨_,le1 _ _ ht,λp1 hp1=>?_⟩;rw[kA];have le2:=le1.trans (aE.new (g:=GO.lst (cS ps)) hp1);refine⟨_,_,aG af hp1,af,by simp only[length_map,length_cons,length_nil];lia,λp2 hp2=>?_⟩;have le3:=le2.trans (aE.new (g:=GO.lst ([W.tup [.str "count",.int (aX kvs b),.ref l]]++cS ps)) hp2);refine aE.done (hq id p2 _ ((W.tup [.str "count",.int (aX kvs b),.ref l],.count rs (aX kvs b))::ps) G0 (λx g _ e=>le3 _ _ e) (le3 _ _ hd) (bc le2 hp2) af (λa ws e=>le3 _ _ (ll _ _ e)) (λ_ _ e=> .inl e) (λy hy=>?_) rfl);rcases mem_cons.mp hy with rfl | hy
    ·exact .count h hs
    ·exact hT y (ybx _ hy)
  | count h hs=>
    rename_i n l ws rs;obtain⟨qs,rfl,hL,hQ⟩:=hs.psq;have hll:=gU rs;have hzb:=(jZ hz).1.hb;have hql:qs.length=rs.L.length:=by rw[hL,length_map]
    subst hU;walk_at "k2";refine aJ λU hU=>?_
    try walk_at "t2"
    walk_at "R";refine eT (λhn0=>?_) (λhn0=>?_)
    ·refine⟨_,ht,λp hp=>?_⟩;rw[kA];have le1:=aE.new (g:=GO.lst (cS ps)) hp;refine aE.done (hq id p _ ps G0 (λx g _ e=>le1 _ _ e) (le1 _ _ hd) hp af (λa ws e=>le1 _ _ (ll _ _ e)) (λ_ _ e=> .inl e) (λy hy=>hT y (ybx _ hy)) ?_);show _=(if n=0 then [] else rs.L++[Rq.count rs (n-1)])++_;rw[ycv hn0]
     rfl
    ·walk_at "a";intro p hp;have le1:=aE.new (g:=GO.lst [W.tup [.str "count",.int (n-1),.ref l]]) hp;refine⟨_,_,le1 _ _ (ll _ _ h),af,by simp only[length_map,length_cons,length_nil];lia,λp1 hp1=>?_⟩;have le2:=le1.trans (aE.new (g:=GO.lst (cS qs++[W.tup [.str "count",.int (n-1),.ref l]])) hp1);refine⟨_,le2 _ _ ht,λp2 hp2=>?_⟩;rw[kA];have le3:=le2.trans (aE.new (g:=GO.lst (cS ps)) hp2);refine⟨_,_,aG af hp2,af,by simp only[length_map,length_append,length_cons,length_nil];lia,λp3 hp3=>?_⟩;have le4:=le3.trans (aE.new (g:=GO.lst ((cS qs++[W.tup [.str "count",.int (n-1),.ref l]])++cS ps)) hp3);refine aE.done (hq id p3 _ (qs++(W.tup [.str "count",.int (n-1),.ref l],.count rs (n-1))::ps) G0 (λx g _ e=>le4 _ _ e) (le4 _ _ hd) (bc le3 hp3) ?_ (λa ws e=>le4 _ _ (ll _ _ e)) (λ_ _ e=> .inl e) (λy hy=>?_) ?_)
     ·rw[af];simp[cS]
     ·rcases mem_append.mp hy with hy | hy
      ·exact hQ y hy
      ·rcases mem_cons.mp hy with rfl | hy
       ·exact .count h hs
       ·exact hT y (ybx _ hy)
     ·show _=(if n=0 then [] else rs.L++[Rq.count rs (n-1)])++_;rw[ycw hn0,hL];simp[bW]
  | whl h hm ok hs=>
    rename_i b l m ms ws rs;obtain⟨qs,rfl,hL,hQ⟩:=hs.psq;subst hU;walk_at "k2";walk_at "k2";walk_at "k2";refine aJ λU1 hU1=>?_;refine Es λTT VV DD hTT hVV hDD=>?_;walk_at "R";subst hTT hDD;refine aJ λU2 hU2=>?_;walk_at "R";refine⟨⟨_,hd⟩,b,kvs,rfl,hd,?_⟩;rw[hi.get b];walk_at "R";have hg:=hB.get B0 b;have hll:=gU rs;have hzb:=(pX hz).1.hb;have hql:qs.length=rs.L.length:=by rw[hL,length_map]
    by_cases hn0:aX kvs b=0
    ·rw[ycv hn0];refine⟨_,ht,λp hp=>?_⟩;rw[kA];have le1:=aE.new (g:=GO.lst (cS ps)) hp;refine aE.done (hq id p _ ps G0 (λx g _ e=>le1 _ _ e) (le1 _ _ hd) hp af (λa ws e=>le1 _ _ (ll _ _ e)) (λ_ _ e=> .inl e) (λy hy=>hT y (ybx _ hy)) ?_);show _=(if aX kvs b=0 then [] else rs.L++[Rq.bear b (d7 (dm ms)) rs (bN (aX kvs) (d7 (dm ms)))])++_;rw[ycv hn0]
     rfl
    ·rw[ycw hn0];subst hU2;refine aJ λU2 hU2=>?_;walk_at "R";refine⟨_,bC (j:=3) rfl,m,d,ms,kvs,B,rfl,ll _ _ hm,ok,hd,hB,B0,λy1 G1 yl1 k1 fy gy em py=>?_⟩;subst hU2;refine aJ λU2 hU2=>?_;walk_at "R";refine⟨_,bC (j:=4) rfl,?_⟩;rw[ycw (by decide)];subst hU2;walk_at "R";exact⟨_,bC (j:=3) rfl,rD ht ll hT hd hn h hm ok hs hL hQ (by lia) rfl (by show(if aX kvs b=0 then _ else _)=_;rw[ycw hn0]) (hq id) y1 G1 yl1 k1 fy gy em py⟩
  | bear h hm ok hy0 py0 hs=>
    rename_i b l m y0 ms yl0 ws rs;obtain⟨qs,rfl,hL,hQ⟩:=hs.psq;subst hU;walk_at "k2";walk_at "k2";walk_at "k2";refine aJ λU1 hU1=>?_;refine Es λTT VV DD hTT hVV hDD=>?_;walk_at "R";subst hTT hDD;refine aJ λU2 hU2=>?_;walk_at "R";refine⟨⟨_,hd⟩,b,kvs,rfl,hd,?_⟩;rw[hi.get b];walk_at "R";have hg:=hB.get B0 b;have hll:=gU rs;have hzb:=(jh hz).1.hb;have hql:qs.length=rs.L.length:=by rw[hL,length_map]
    by_cases hn0:aX kvs b=0
    ·rw[ycv hn0];refine⟨_,ht,λp hp=>?_⟩;rw[kA];have le1:=aE.new (g:=GO.lst (cS ps)) hp;refine aE.done (hq (λz=>absurd z.1 (by lia)) p _ ps G0 (λx g _ e=>le1 _ _ e) (le1 _ _ hd) hp af (λa ws e=>le1 _ _ (ll _ _ e)) (λ_ _ e=> .inl e) (λy hy=>hT y (ybx _ hy)) ?_);show _=(if aX kvs b=0 then [] else rs.L++[Rq.bear b (d7 (dm ms)) rs (bN (aX kvs) (d7 (dm ms)))])++_;rw[ycv hn0]
     rfl
    ·rw[ycw hn0];subst hU2;refine aJ λU2 hU2=>?_;walk_at "R";refine⟨_,bC (j:=3) rfl,m,d,ms,kvs,B,rfl,ll _ _ hm,ok,hd,hB,B0,λy1 G1 yl1 k1 fy gy em py=>?_⟩;subst hU2;refine aJ λU2 hU2=>?_;walk_at "R";refine⟨_,bC (j:=4) rfl,?_⟩;rw[ycv (by rfl)];have o3:=(jh hz).2.2.2.2.1;have l0:=O.len_le_hw (ko yl0);rw[mJ] at l0;have l1:yl1.length<=1000:=by
      have a1:=fh (aX kvs) (d7 (dm ms));rw[←em,mJ] at a1;have a2:=(vV ok).l;lia
     refine⟨_,bC (j:=4) rfl,y1,y0,yl1,yl0,rfl,gy,k1 _ _ (ll _ _ hy0),l1,by lia,?_⟩;walk_at "R";have hlt:=qP py py0;rw[em] at hlt;refine eT (λh1=>⟨G,k1,hx ⟨by lia,?_⟩⟩) λh1=>?_
     ·by_cases z:O.cmp (bN (aX kvs) (d7 (dm ms))) (ko yl0)<0
      ·rw[hlt.mpr z] at h1;cases h1
      ·lia
     ·subst hU2;walk_at "R";refine⟨_,bC (j:=3) rfl,rD ht ll hT hd hn h hm ok hs hL hQ (by lia) rfl (by show(if aX kvs b=0 then _ else _)=_;rw[ycw hn0]) (hq λz=>?_) y1 G1 yl1 k1 fy gy em py⟩;have h2:oI yl1 yl0=true:=by
       cases e:oI yl1 yl0 with
       | true=>rfl
       | false=>exact absurd e h1
      have:=hlt.mp h2;have z2:=z.2;lia
structure iI (kvs:List (aK×W)):Prop where
 i:j6 kvs
 n:v7 kvs
 s:Ea kvs
theorem iI.nil:iI []:=⟨λ_ h=>(nomatch h),by simp[v7],λ_ h=>(nomatch h)⟩
theorem iI.put {kvs:List (aK×W)} (h:iI kvs) (k:Str) (n:Int):iI (cB kvs (.inr k) (.int n)):=⟨h.i.put _ _,h.n.put _ _,h.s.put _ _⟩
theorem iI.step {kvs:List (aK×W)} (h:iI kvs) (r:Row):iI (cJ kvs r):=by
 cases r with
 | set b n=>exact h.put _ _
 | copy b n=>exact h.put _ _
 | add b n=>exact h.put _ _
 | less b=>exact h.put _ _
 | times b rs=>exact h
 | count rs n=>exact h
 | whl b hs rs=>exact h
 | bear b hs rs o=>exact h
theorem iI.run {rs:List Row} {kvs:List (aK×W)} (h:iI kvs):∀n,iI (aW (rs,kvs) n).2
 | 0=>h
 | n+1=>by
   have ih:=iI.run (rs:=rs) h n;show iI (lz (aW (rs,kvs) n)).2;generalize aW (rs,kvs) n=s at ih ⊢;obtain⟨st,k⟩:=s;cases st with
   | nil=>exact ih
   | cons r st=>exact iI.step ih r
theorem wc (kvs:List (aK×W)) (p:aK×W):d4 (kvs++[p])=if vQ p.2=true then cB (d4 kvs) p.1 p.2 else d4 kvs:=by
 unfold d4;rw[List.filter_append,List.foldl_append,filter_cons];split<;> rfl
theorem iI.posq:∀(kvs:List (aK×W)),iI kvs->iI (d4 kvs):=λkvs h=>by
 have:∀(us acc:List (aK×W)),j6 us->Ea us->iI acc->iI (us.foldl (λa p=>cB a p.1 p.2) acc):=λus=>by
  induction us with
  | nil=>exact λacc _ _ h=>h
  | cons p us ih=>
    intro acc hi hs ha;obtain⟨n,hn⟩:=hi p yby;obtain⟨z,hz⟩:=hs p yby;rw[foldl_cons,hn,hz];exact ih _ (λq hq=>hi q (ybx _ hq)) (λq hq=>hs q (ybx _ hq)) (ha.put _ _)
 exact this _ [] (λp hp=>h.i p (mem_filter.mp hp).1) (λp hp=>h.s p (mem_filter.mp hp).1) iI.nil
theorem yJ (kvs:List (aK×W)):(d4 kvs).length<=kvs.length:=by
 have h:=jO (kvs.filter λp=>vQ p.2) [];have h2:=List.length_filter_le (λp:aK×W=>vQ p.2) kvs;unfold d4;simp only[length_nil] at h;lia
theorem iI.same {kvs:List (aK×W)} (h:iI kvs) (G:Gp):∀p,p∈kvs->∃w',bT kvs p.1=some w'/\jN G p.2 w':=λp hp=>by
 obtain⟨n,hn⟩:=h.i p hp;refine⟨p.2,h.n.val hp,?_⟩;rw[hn];exact .int n
def Ef:bS:=λws G q _=>∃(d:Addr) (kvs:List (aK×W)),ws=[.ref d]/\G d=some (.dic kvs)/\iI kvs/\kvs.length<=1000/\∀(p:Addr) (G':Gp),aE G G'->G p=none->G' p=some (.dic (d4 kvs))->q (.ref p) G'
theorem GF (F:cz K "_law_shown" "_law_shown" (aQ 49) f fd):cf P w K mg base 1 f fd ["_law_having"] Ef:=by
 refine dG F (N:=["_law_having","_law_seen","_law_name","_law_amount_here"]) (by walk_at "s") (by walk_at "l") λ_ _ _ _ _ _ nd hr=>?_;apply aN
 ·exact(ae (aM 1 nd rfl (.inl rfl) lZ) (ae (mf (dg PySem.PassesOwn.never rfl (nS 0 rfl (.inl rfl)) (fQ rfl (bQ (bO 2 nd rfl (.inl rfl)) (bQ (bO 3 nd rfl (.inl rfl)) eK))) (ae (bo (aI m9 (aa 3) ag) (ae (cR (aa 3) (aa 1) (aa 2)) ak) ak) ak))) (ae (aA (aa 1)) ak)))
 ·rintro ws G q e ⟨d,kvs,rfl,hd,ok,hl,hq⟩;walk_at "a0";intro p hp;have le1:=aE.new (g:=GO.dic []) hp;have g1:=af (G:=G) (a:=p) (g:=GO.dic []);generalize aw G p (.dic [])=G1 at le1 g1 ⊢;have pd:p≠d:=λz=>by rw[z,hd] at hp;cases hp
  walk_at "a";refine⟨d,kvs,le1 _ _ hd,kvs,le1 _ _ hd,λo us=>?_⟩;refine cc (λws τ G'=>∃(todo dn:List (aK×W)) (t3 t4:Option W),ws=(todo.map λp=> .tup [kW p.1,p.2])/\kvs=dn++todo/\τ=[some (.ref d),some (.ref p),t3,t4]/\G' p=some (.dic (d4 dn))/\∀x,x≠p->G' x=aw G1 d (.fdc o us kvs) x) ?_ ?_ _ _ _ ⟨kvs,[],none,none,rfl,rfl,rfl,(ao pd).trans g1,λ_ _=>rfl⟩
  ·rintro τ G' ⟨todo,dn,t3,t4,hw,hk,rfl,gp,gk⟩;have h0:todo=[]:=by simpa using hw.symm
   subst h0;rw[append_nil] at hk;subst hk;have gd:=(gk d pd.symm).trans af;refine⟨gd,o,us,_,gd,?_⟩;have le2:aE G (aw G' d (.dic kvs)):=λx g e=>by
    by_cases xd:x=d
    ·rw[xd,hd] at e;cases e;rw[xd];exact af
    ·rw[ao xd,gk x (λz=>by rw[z,hp] at e;cases e),ao xd];exact le1 _ _ e
   have gp2:aw G' d (.dic kvs) p=some (.dic (d4 kvs)):=(ao pd).trans gp;generalize aw G' d (.dic kvs)=G2 at le2 gp2 ⊢;subst hU;dsimp only;walk_at "R";exact aE.done (hq p G2 le2 hp gp2)
  ·rintro w1 ws τ G' k ⟨todo,dn,t3,t4,hw,hkv,rfl,gp,gk⟩ hk;cases todo with
   | nil=>cases hw
   | cons x todo=>
     cases hw;have hx:x∈kvs:=by rw[hkv];simp
     obtain⟨n,hn⟩:=ok.i x hx;obtain⟨z,hz⟩:=ok.s x hx;refine⟨(gk d pd.symm).trans af,?_⟩;simp only[mZ,gz,mY,cG,set_cons_succ,set_cons_zero];refine⟨rfl,?_⟩;rw[hn,hz];have hps:=wc dn x;rw[hn,hz] at hps;have pl:=yJ dn;have dl:dn.length<=1000:=by have:=congrArg List.length hkv;rw[length_append] at this;lia
     walk_at "R"
     by_cases h0:(0:Int)<n
     ·rw[ycv h0];rw[ycv (by show decide (0<n)=true;exact ydz h0)] at hps;refine⟨p,z,_,rfl,rfl,gp,by lia,?_⟩;refine hk _ _ ⟨todo,dn++[x],_,_,rfl,by rw[hkv];simp,rfl,?_,λy hy=>(ao hy).trans (gk y hy)⟩;rw[af,hps]
     ·rw[ycw h0];rw[ycw (by show ¬decide (0<n)=true;rw[decide_eq_true_eq];exact h0)] at hps;refine hk _ _ ⟨todo,dn++[x],_,_,rfl,by rw[hkv];simp,rfl,?_,gk⟩;rw[hps];exact gp
def Eg:bS:=λws G q _=>∃(p b:Addr) (ps:List (W×Row)) (kvs:List (aK×W)) (m s0 l0:Nat) (B:Int),ws=[.ref p,.ref b,.int (m:Int)]/\G p=some (.lst (cS ps))/\bJ G ps/\G b=some (.dic kvs)/\iI kvs/\rz True s0 l0 B 0 (bW ps,kvs)/\0<=B/\(∀i,i<=m->B*2^i<=10^100)/\(∀i,i<=m->l0+(3*s0+2)*i<=20000)/\m<=60/\
 (∀(G':Gp) (n:Nat),aE G G'->n<m->eB (aW (bW ps,kvs) n)->(∀k,k<n->¬eB (aW (bW ps,kvs) k))->q .non G')/\
 ∀(G':Gp) (D:Addr) (ds:List Addr) (n:Nat),aE G G'->G D=none->G' D=some (.lst (ds.map W.ref))->ds.length=n+1->n<=m->((aW (bW ps,kvs) n).1=[]∨n=m)->(∀k,k<n->(aW (bW ps,kvs) k).1≠[]/\¬eB (aW (bW ps,kvs) k))->(∀k p,ds[k]?=some p->G' p=some (.dic (d4 (aW (bW ps,kvs) k).2))/\G p=none)->q (.ref D) G'
structure Rs (G0 G:Gp) (GT:Gp) (t d D:Addr) (s:List Row×List (aK×W)) (ds:List Addr) (i:Nat) (qs:List (W×Row)):Prop where
 le:aE G0 G
 gt:G t=some (.lst (cS qs))
 hr:bW qs=(aW s i).1
 ll:jb GT G
 nD:∀ws,GT D≠some (.lst ws)
 ro:bJ GT qs
 gd:G d=some (.dic (aW s i).2)
 gD:G D=some (.lst (ds.map W.ref))
 dl:ds.length=i+1
 td:∀k p,ds[k]?=some p->G p=some (.dic (d4 (aW s k).2))/\G0 p=none
 dd:∀p,p∈ds->p≠d
 fd:G0 d=none
 fD:G0 D=none
 ne:∀k,k<i->(aW s k).1≠[]/\¬eB (aW s k)
theorem GG (F:cz K "_law_run" "_law_run" (aQ 50) f fd) (F1:Fx P w K mg base "_law_shown" ["_law_having"] 1 Ef) (F2:Fx P w K mg base "_law_step" ["_law_things","_law_having"] 2 Ee) (md:mg "dict"=none) (mli:mg "list"=none) (ml:mg "len"=none):cf P w K mg base 3 f fd ["_law_rows_here","_law_boxes","_law_most"] Eg:=by
 refine dG F (N:=["_law_rows_here","_law_boxes","_law_most","_law_having","_law_things","_law_told"]) (by walk_at "s") (by walk_at "l") λ_ _ _ _ _ _ nd hr=>?_;apply aN
 ·exact(ae (aM 3 nd rfl (.inl rfl) (bL (qX rfl) rfl md jM (ac (aa 1) ah))) (ae (aM 4 nd rfl (.inl rfl) (bL (mh rfl) rfl mli lM (ac (aa 0) ah))) (ae (aM 5 nd rfl (.inl rfl) (bw (ac (aC F1 (aB.mono hr (by lia)) rfl (ac (aa 3) ah)) ah))) (ae (jw PySem.PassesOwn.never (fP (dX (aI m9 (bb cj rfl ml PySem.boot_len (ac (aa 4) ah)) ag) (cW (aI CJ (bb cj rfl ml PySem.boot_len (ac (aa 5) ah)) (aa 2))))) (ae (aM 4 nd rfl (.inl rfl) (aC F2 (aB.mono hr (by lia)) rfl (ac (aa 4) (ac (aa 3) ah)))) (ae (bo (aI y6 (aa 4) fO) (ae (aA fO) ak) ak) (ae (cN (ip (aa 5) (aC F1 (aB.mono hr (by lia)) rfl (ac (aa 3) ah)))) ak)))) (ae (aA (aa 5)) ak)))))
 ·rintro ws G q e ⟨p,b,ps,kvs,m,s0,l0,B,rfl,hp,hT,hb,ok,hO,hB0,hBi,hLi,hm,hx,hq⟩;have szs:∀i,i<=m->∀r,r∈(aW (bW ps,kvs) i).1->Sz r:=λi hi r hr=>vL (hBi i hi) r ((hO.run hB0 i).g r hr);have lbs:∀i,i<=m->((aW (bW ps,kvs) i).1.map Rq.lb).sum<=20000:=λi hi=>ycy (hO.run hB0 i).l (hLi i hi);have hpl:ps.length<=20000:=by
   have:=mE (bW ps);have h2:((bW ps).map Rq.lb).sum<=20000:=lbs 0 (by lia);rw[length_map] at this;lia
  walk_at "a0";refine⟨kvs,.dic (.inl hb),λd hd0=>?_⟩;have le1:=aE.new (g:=GO.dic kvs) hd0;have g1:=af (G:=G) (a:=d) (g:=GO.dic kvs);generalize aw G d (.dic kvs)=G1 at le1 g1 ⊢;walk_at "a";refine⟨_,.lst (le1 _ _ hp),λt0 ht0=>?_⟩;have le2:=le1.trans (aE.new (g:=GO.lst (cS ps)) ht0);have g2d:=aG (g:=GO.lst (cS ps)) g1 ht0;have g2t:=af (G:=G1) (a:=t0) (g:=GO.lst (cS ps));generalize aw G1 t0 (.lst (cS ps))=G2 at le2 g2d g2t ⊢;have hk0:kvs.length<=100+0:=hO.k;walk_at "a";refine⟨d,kvs,rfl,g2d,ok,by lia,λp0 G3 le3 fp0 gp0=>?_⟩;intro D hD;have l4:=aE.new (g:=GO.lst [W.ref p0]) hD;have S0:Rs G (aw G3 D (.lst [.ref p0])) G t0 d D (bW ps,kvs) [p0] 0 ps:=by
   have fDG:=bc (le2.trans le3) hD;refine⟨(le2.trans le3).trans l4,l4 _ _ (le3 _ _ g2t),rfl,aE.ls ((le2.trans le3).trans l4),(λws e=>by rw[fDG] at e;cases e),hT,l4 _ _ (le3 _ _ g2d),af,rfl,λk q hq'=>?_,λq hq'=>?_,hd0,fDG,λk hk=>absurd hk (Nat.not_lt_zero _)⟩
   ·cases k with
    | zero=>
      cases hq';exact⟨l4 _ _ gp0,bc le2 fp0⟩
    | succ k=>cases hq'
   ·rw[mem_singleton.mp hq'];intro z;rw[z,g2d] at fp0;cases fp0
  generalize aw G3 D (.lst [.ref p0])=G4 at S0 ⊢;clear l4 hD gp0 fp0 le3 le2 g2d g2t le1 g1 hd0 ht0;subst hU;refine aJ λU hU=>?_;refine uN (λj τ G'=>∃(i:Nat) (qs:List (W×Row)) (t:Addr) (GT:Gp) (ds:List Addr),Rs G G' GT t d D (bW ps,kvs) ds i qs/\τ=[some (.ref p),some (.ref b),some (.int (m:Int)),some (.ref d),some (.ref t),some (.ref D)]/\i<=m/\j=m-i) ⟨_,0,ps,t0,G,[p0],S0,rfl,by lia,rfl⟩ ?_;rintro j τ G' ⟨i,qs,t,GT,ds,S,rfl,him,rfl⟩ B' hB';clear S0;walk_at "R";have fin:((aW (bW ps,kvs) i).1=[]∨i=m)->U { nx:=λx G1=>∃G0,aE G0 G1/\q W.non G0,rt:=λw G1=>∃G0,aE G0 G1/\q w G0 } [some (W.ref p),some (W.ref b),some (W.int (m:Int)),some (W.ref d),some (W.ref t),some (W.ref D)] G':=λhe=>by
   subst hU;walk_at "R";exact aE.done (hq G' D ds i S.le S.fD S.gD S.dl him he S.ne S.td)
  have hdl:=S.dl;refine⟨_,.lst S.gt,eT (λh0=>?_) λh0=>fin (.inl (by
   have:qs=[]:=by
    cases qs with
    | nil=>rfl
    | cons x qs=>exact absurd (show(0:Int)<(((cS (x::qs)).length:Nat):Int) by simp only[map_cons,length_cons];lia) h0
   rw[←S.hr,this]
   rfl))⟩
  refine⟨_,.lst S.gD,?_⟩;rw[length_map,hdl];refine eT (λh1=>?_) λh1=>fin (.inr (by lia));have hi1:i+1<=m:=by lia
  cases qs with
  | nil=>exact absurd h0 (by decide)
  | cons p0 qs=>
    have hrun:aW (bW ps,kvs) i=(p0.2::bW qs,(aW (bW ps,kvs) i).2):=by rw[Prod.ext_iff];exact⟨S.hr.symm,rfl⟩
    have hnx:aW (bW ps,kvs) (i+1)=(dc (aW (bW ps,kvs) i).2 p0.2++bW qs,cJ (aW (bW ps,kvs) i).2 p0.2):=by
     show lz (aW (bW ps,kvs) i)=_;rw[hrun]
     rfl
    have hbad:eB (aW (bW ps,kvs) i)=d3 (aW (bW ps,kvs) i).2 p0.2:=by rw[hrun];rfl
    refine⟨λτ1 G1=>∃(qs':List (W×Row)) (t':Addr) (GT':Gp) (ds':List Addr),Rs G G1 GT' t' d D (bW ps,kvs) ds' (i+1) qs'/\τ1=[some (.ref p),some (.ref b),some (.int (m:Int)),some (.ref d),some (.ref t'),some (.ref D)],?_,?_⟩
    ·rintro τ1 G1 ⟨qs',t',GT',ds',S',rfl⟩;exact⟨m- (i+1),by lia,i+1,qs',t',GT',ds',S',rfl,hi1,rfl⟩
    ·have hOi:=hO.run hB0 i;have hOn:=hO.run hB0 (i+1);have hp0:(0:Int)<=B*2^i:=Int.mul_nonneg hB0 (Int.le_of_lt (Int.pow_pos (by decide)));have hki:=hOi.k;have hkn:=hOn.k;have hql:qs.length<=20000:=by
      have h1:=mE (aW (bW ps,kvs) i).1;have h2:=lbs i (by assumption);rw[hrun] at h1 h2;dsimp only at h1 h2;simp only[length_cons,length_map] at h1;lia
     have dD:D≠d:=λz=>by have:=S.gD;rw[z,S.gd] at this;cases this
     subst hB';refine aJ λU1 hU1=>?_;walk_at "R";refine⟨t,d,p0,qs,_,GT,rfl,S.gt,S.ll,S.ro,szs i (by assumption) _ (by rw[hrun];exact yby),by lia,S.gd,⟨_,hOi.b,hp0⟩,by lia,λhno=>?_,λhno t' G5 qs' GT' k5 d5 ft' g5 ll5 nT hT5 e5=>?_⟩
     ·walk_at "b";exact aE.done (hx G' i S.le (by assumption) (by rw[hbad];exact hno) λk hk=>(S.ne k hk).2)
     have gD5:=k5 D _ dD S.gD;have le5:aE G G5:=λx g e=>k5 x g (λz=>by rw[z,S.fd] at e;cases e) (S.le x g e);have e5':bW qs'=(aW (bW ps,kvs) (i+1)).1:=by rw[hnx];exact e5
     have d5':G5 d=some (.dic (aW (bW ps,kvs) (i+1)).2):=by rw[hnx];exact d5
     have okn:=ok.run (rs:=bW ps) (i+1);walk_at "b";subst hU1;walk_at "R";refine⟨⟨_,gD5⟩,d,_,rfl,d5',okn,by lia,λp4 G6 le6 fp4 gp4=>⟨_,le6 _ _ gD5,by rw[length_map];lia,?_⟩⟩;have td:t'≠D:=λz=>by rw[z,S.gD] at ft';cases ft'
     have n4D:p4≠D:=λz=>by rw[z,gD5] at fp4;cases fp4
     have n4d:p4≠d:=λz=>by rw[z,d5'] at fp4;cases fp4
     refine⟨qs',t',GT',ds++[p4],⟨λx g e=>?_,(ao td).trans (le6 _ _ g5),e5',λa ws e=>?_,λws e=>?_,hT5,(ao dD.symm).trans (le6 _ _ d5'),?_,by rw[length_append,hdl];rfl,λk x hk=>?_,λx hx'=>?_,S.fd,S.fD,λk hk=>?_⟩,rfl⟩
     ·rw[ao (λz=>by rw[z,S.fD] at e;cases e)];exact le6 _ _ (le5 x g e)
     ·have n:a≠D:=λz=>by
       rw[z] at e;rcases nT _ _ e with e2 | e2
       ·exact S.nD _ e2
       ·rw[S.gD] at e2;cases e2
      rw[ao n];exact le6 _ _ (ll5 _ _ e)
     ·rcases nT _ _ e with e2 | e2
      ·exact S.nD _ e2
      ·rw[S.gD] at e2;cases e2
     ·rw[af,map_append]
      rfl
     ·by_cases hn:k<ds.length
      ·rw[List.getElem?_append_left hn] at hk;obtain⟨a1,a2⟩:=S.td k x hk;have xd:=S.dd x (List.mem_of_getElem? hk);have xD:x≠D:=λz=>by rw[z,S.gD] at a1;cases a1
       exact⟨(ao xD).trans (le6 _ _ (k5 x _ xd a1)),a2⟩
      ·rw[List.getElem?_append_right (by lia)] at hk;obtain⟨j',hj'⟩:∃j',k-ds.length=j':=⟨_,rfl⟩;rw[hj'] at hk;cases j' with
       | zero=>
         cases hk;have hk2:k=i+1:=by lia
         subst hk2;exact⟨(ao n4D).trans gp4,bc le5 fp4⟩
       | succ j'=>cases hk
     ·rcases mem_append.mp hx' with hx' | hx'
      ·exact S.dd x hx'
      ·rw[mem_singleton.mp hx'];exact n4d
     ·rcases lt_or_ge k i with z | z
      ·exact S.ne k z
      ·have:k=i:=by lia
       rw[this];exact⟨by rw[hrun];exact List.cons_ne_nil _ _,by rw[hbad];exact hno⟩
def BN (C:Cs) (Cf:Addr):bS:=λws G q _=>∃(t b:Addr) (due:W) (ps:List (Addr×Row)) (kvs:List (aK×W)) (m s0 l0:Nat) (B:Int),ws=[.ref t,.ref b,.int (m:Int),due]/\G t=some (.lst (refs ps))/\Rows C G ps/\G b=some (.dic kvs)/\iI kvs/\rz True s0 l0 B 0 (cy ps,kvs)/\0<=B/\(∀i,i<=m->B*2^i<=10^100)/\(∀i,i<=m->l0+(3*s0+2)*i<=20000)/\m<=60/\
 ((due=.non/\∃n,n<m/\eB (aW (cy ps,kvs) n)/\∀k,k<n->¬eB (aW (cy ps,kvs) k))∨∃(D:Addr) (ds:List Addr) (n:Nat),due=.ref D/\G D=some (.lst (ds.map W.ref))/\ds.length=n+1/\n<=m/\((aW (cy ps,kvs) n).1=[]∨n=m)/\(∀k,k<n->(aW (cy ps,kvs) k).1≠[]/\¬eB (aW (cy ps,kvs) k))/\∀k p,ds[k]?=some p->G p=some (.dic (d4 (aW (cy ps,kvs) k).2)))/\q (.bl true) G
theorem oG {s:List Row×List (aK×W)} {n:Nat} (h:(aW s n).1=[]):∀k,(aW s (n+k)).1=[]
 | 0=>h
 | k+1=>by
   have ih:=oG h k;show(lz (aW s (n+k))).1=[];generalize aW s (n+k)=s' at ih ⊢;obtain⟨st,kv⟩:=s';cases (show st=[] from ih)
   rfl
theorem BO {s:List Row×List (aK×W)} (h:eB s):s.1≠[]:=by
 obtain⟨st,kv⟩:=s;cases st with
 | nil=>exact h.elim
 | cons r st=>exact List.cons_ne_nil _ _
theorem rE {s:List Row×List (aK×W)} {n m j:Nat} (hn:n<m) (hb:eB (aW s n)) (hj:j<=m) (he:(aW s j).1=[]∨j=m) (hne:∀k,k<j->¬eB (aW s k)):False:=by
 by_cases h:n<j
 ·exact hne n h hb
 ·rcases he with he | he
  ·have:=oG he (n-j);rw[show j+(n-j)=n by lia] at this;exact BO hb this
  ·lia
theorem wd {s:List Row×List (aK×W)} {m i j:Nat} (hi:i<=m) (hj:j<=m) (ei:(aW s i).1=[]∨i=m) (ej:(aW s j).1=[]∨j=m) (ni:∀k,k<i->(aW s k).1≠[]) (nj:∀k,k<j->(aW s k).1≠[]):i=j:=by
 rcases Nat.lt_trichotomy i j with h | h | h
 ·exact absurd (ei.resolve_right (by lia)) (nj i h)
 ·exact h
 ·exact absurd (ej.resolve_right (by lia)) (ni j h)
theorem GH {C:Cs} {Cf:Addr} {bF:yez} (F:cz K "_law_as_due" "_law_as_due" (aQ 51) f fd) (R1:Rx P w K mg base "trace" ["rows","boxes","most"] 9 (DY C Cf True) []) (F1:Fx P w K mg base "_law_whole" ["_law_found"] 1 D1) (mF:mg "NoFall"=some (.ref Cf)) (xF:XC K Cf bF) (md:mg "dict"=none) (mi:mg "isinstance"=none) (mli:mg "list"=none) (mt:mg "tuple"=none) (ml:mg "len"=none) (mz:mg "zip"=none):cf P w K mg base 10 f fd ["_law_made_here","_law_boxes","_law_most","_law_due"] (BN C Cf):=by
 refine dG (k:=9) F (N:=["_law_made_here","_law_boxes","_law_most","_law_due","_law_handed","_law_found","_law_refused","_law_told","_law_having","_law_amount_here"]) (by walk_at "s") (by walk_at "l") λ_ _ _ _ _ _ nd hr=>?_;apply aN
 ·refine' ae ?s1 (ae ?s2 (ae ?s3 (ae ?s4 (ae ?s5 (ae ?s6 (ae ?s7 (ae ?s8 ?s9)))))))
  case s1=>exact(aM 4 nd rfl (.inl rfl) (bL (qX rfl) rfl md jM (ac (aa 1) ah)))
  case s2=>exact(aM 5 nd rfl (.inl rfl) fO)
  case s3=>exact(aM 6 nd rfl (.inl rfl) iO)
  case s4=>
   refine' xu rfl rfl (xt (AL 5 (λ_ _ z=>z) nd rfl (Or.inl rfl) R1 (aB.mono hr (by lia)) rfl ?a)) (ui (xk mF rfl xF xF xF.self λa oe hoe=>?b) xv)
   case a=>exact(ac (aa 0) (ac (aa 4) (ac (aa 2) ah)))
   case b=>exact(ae (aM 6 nd rfl (.inl rfl) iO) ak)
  case s5=>exact(bo (fP (ju (aI (et hr) (aa 4) (aa 1)) (jt (aI (et hr) (aa 6) (fc y6 (aa 3) fO))))) (ae (aA iO) ak) ak)
  case s6=>exact(bo (eJ (aa 6)) (ae (aA iO) ak) ak)
  case s7=>exact(bo (fP (ju (ig (eJ (io (T:="list") (x:="list") (by first | simp[lL] | assumption | decide+kernel) lM mli rfl mi rfl (aa 5)))) (jt (aI (et hr) (bb cj rfl ml PySem.boot_len (ac (aa 5) ah)) (bb cj rfl ml PySem.boot_len (ac (aa 3) ah)))))) (ae (aA iO) ak) ak)
  case s8=>
   refine' dg PassesOwn.never rfl (xC rfl mz ?za) ?zg (ae ?z1 (ae (mf (dg PassesOwn.never rfl (u3 ?ze) ?zh ?zb)) ak))
   case za=>exact(ac (aa 5) (ac (aa 3) ah))
   case zg=>exact(fQ rfl (bQ (bO 7 nd rfl (.inl rfl)) (bQ (bO 8 nd rfl (.inl rfl)) eK)))
   case z1=>exact(bo (fP (ju (ig (eJ (io (T:="tuple") (x:="tuple") (by first | simp[lL] | assumption | decide+kernel) eO mt rfl mi rfl (aa 7)))) (ju (aI (et hr) (bb cj rfl ml PySem.boot_len (ac (aa 7) ah)) ag) (ju (ig (eJ (yg md rfl mi rfl (av ay (aa 7) ag)))) (jt (aI (et hr) (av ay (aa 7) ag) (aa 8))))))) (ae (aA iO) ak) ak)
   case ze=>exact(av ay (aa 7) ag)
   case zh=>exact(bO 9 nd rfl (.inl rfl))
   case zb=>exact(ae (bo (ig (eJ (aC F1 (aB.mono hr (by lia)) rfl (ac (aa 9) ah)))) (ae (aA iO) ak) ak) ak)
  case s9=>exact(ae (aA iO) ak)
 ·rintro ws G q e ⟨t,b,due,ps,kvs,m,s0,l0,B,rfl,ht,hX,hb,ok,hO,hB0,hBi,hLi,hm,hdue,hq⟩;walk_at "a0";refine⟨kvs,.dic (.inl hb),λd hd0=>?_⟩;have le1:=aE.new (g:=GO.dic kvs) hd0;have g1:=af (G:=G) (a:=d) (g:=GO.dic kvs);generalize aw G d (.dic kvs)=G1 at le1 g1 ⊢;walk_at "a";walk_at "a";walk_at "a";refine⟨t,d,ps,kvs,m,s0,l0,B,rfl,le1 _ _ ht,hX.mono (aE.ins le1),g1,hO,hB0,hBi,hLi,hm,λG' n le hn hbad hbefore D hD=>?_,λG2 F0 fs n le fF hF hl hn he hne hnb hd=>?_⟩
  ·cases hD;refine⟨_,.head _,?_⟩;walk_at "R";walk_at "a";refine⟨true,.old (.dic (.inl (le _ _ g1)) (.inl (le _ _ (le1 _ _ hb))) rfl (ok.same _)),?_⟩;rcases hdue with⟨rfl,_⟩ | ⟨D,ds,n',rfl,hD,hdl,hn',he',hne',hds⟩
   ·walk_at "R";refine⟨rfl,rfl,by decide,?_⟩;rw[ycw (by decide)];subst hU;walk_at "R";exact⟨_,le1.trans le,hq⟩
   ·exact(rE hn hbad hn' he' λk hk=>(hne' k hk).2).elim
  ·walk_at "a";refine⟨true,.old (.dic (.inl (le _ _ g1)) (.inl (le _ _ (le1 _ _ hb))) rfl (ok.same _)),?_⟩;rcases hdue with⟨rfl,n',hn',hb',hnb'⟩ | ⟨D,ds,n',rfl,hD,hdl,hn',he',hne',hds⟩
   ·exact(rE hn' hb' hn he hnb).elim
   have hnn:n'=n:=wd hn' hn he' he (λk hk=>(hne' k hk).1) hne;subst hnn;have hD2:=le _ _ (le1 _ _ hD);walk_at "R";refine⟨rfl,rfl,by decide,?_⟩;refine eT (λz=>absurd (show(W.bl false).eq (W.bl false)=false from z) (by decide)) λ_=>?_;walk_at "a";walk_at "a";rw[show o7 G2 (.ref F0)=some "list" by simp only[o7,hF]];walk_at "R";refine⟨_,.lst hF,_,.lst hD2,?_⟩;rw[mG,length_map,hl,hdl];walk_at "R";walk_at "a";simp only[zq];walk_at "R";refine⟨_,_,hF,hD2,cc (λws τ G'=>∃(k:Nat) (fs' ds':List Addr) (t7 t8 t9:Option W),ws=gH (sJ (cy ps,kvs) k fs') (ds'.map W.ref)/\fs'.length=ds'.length/\(∀j p,fs'[j]?=some p->G2 p=some (.dic (d4 (aW (cy ps,kvs) (k+j)).2)))/\(∀j p,ds'[j]?=some p->G2 p=some (.dic (d4 (aW (cy ps,kvs) (k+j)).2)))/\τ=[some (.ref t),some (.ref b),some (.int (m:Int)),some (.ref D),some (.ref d),some (.ref F0),some (.bl false),t7,t8,t9]/\aE G2 G') ?_ ?_ _ _ _ ⟨0,fs,ds,none,none,none,rfl,by lia,λj p hp=>by rw[Nat.zero_add];exact(hd j p hp).1,λj p hp=>by rw[Nat.zero_add];exact le _ _ (le1 _ _ (hds j p hp)),rfl,aE.refl _⟩⟩
   ·rintro τ G' ⟨k,fs',ds',t7,t8,t9,_,_,_,_,rfl,le'⟩;refine⟨⟨le' _ _ hF,le' _ _ hD2⟩,?_⟩;subst hU;dsimp only;walk_at "R";exact⟨_,(le1.trans le).trans le',hq⟩
   ·rintro w1 ws τ G' kk ⟨k,fs',ds',t7,t8,t9,hw,hlen,hf,hg,rfl,le'⟩ hk;cases fs' with
    | nil=>cases hw
    | cons x fs'=>
      cases ds' with
      | nil=>cases hlen
      | cons y ds'=>
        cases hw;have hx:=le' _ _ (hf 0 x rfl);have hy:=le' _ _ (hg 0 y rfl);have okk:=(ok.run (rs:=cy ps) (k+0)).posq;refine⟨⟨le' _ _ hF,le' _ _ hD2⟩,?_⟩;simp only[mZ,gz,mY,cG,set_cons_succ,set_cons_zero];refine⟨rfl,?_⟩;refine aJ λU1 hU1=>?_;walk_at "R";rw[show o7 G' (.ref x)=some "dict" by simp only[o7,hx]];walk_at "R";rw[ycw (by decide)];refine⟨true,.old (.dic (.inl hx) (.inl hy) rfl (okk.same _)),?_⟩;rw[ycw (by decide)];subst hU1;walk_at "R";refine⟨x,_,hx,?_⟩;simp only[u0];walk_at "R";refine⟨x,_,rfl,hx,λo us=>?_⟩;refine cc (λws τ G9=>∃(t9:Option W),(∀x,x∈ws->∃n:Int,x=.int n)/\τ=[some (.ref t),some (.ref b),some (.int (m:Int)),some (.ref D),some (.ref d),some (.ref F0),some (.bl false),some (W.tup [W.tup (au (dP (aW (cy ps,kvs) k).1)),W.ref x]),some (W.ref y),t9]/\G9=aw G' x (.fdc o us (d4 (aW (cy ps,kvs) (k+0)).2))) ?_ ?_ _ _ _ ⟨t9,λz hz=>?_,rfl,rfl⟩
        ·rintro τ G9 ⟨t9,_,rfl,rfl⟩;refine⟨af,o,us,_,af,?_⟩;refine hk _ _ ⟨k+1,fs',ds',_,_,_,rfl,by simpa using hlen,λj p hp=>?_,λj p hp=>?_,rfl,λa g e=>?_⟩
         ·rw[show k+1+j=k+(j+1) by lia];exact hf (j+1) p hp
         ·rw[show k+1+j=k+(j+1) by lia];exact hg (j+1) p hp
         ·by_cases ax:a=x
          ·have e:=le' _ _ e;rw[ax,hx] at e;cases e;rw[ax];exact af
          ·rw[ao ax,ao ax];exact le' _ _ e
        ·rintro w1 ws τ G9 k9 ⟨t9,hn,rfl,rfl⟩ hk9;obtain⟨n9,rfl⟩:=hn _ yby;refine⟨af,?_⟩;walk_at "R";refine⟨n9,rfl,?_⟩;walk_at "R";exact hk9 _ _ ⟨_,λx hx=>hn x (ybx _ hx),rfl,rfl⟩
        ·obtain⟨x',hx',rfl⟩:=mem_map.mp hz;exact okk.i _ hx'
noncomputable def B1:Int:=10^50+1
theorem wf (i:Nat) (h:i<=61):B1*2^i<=10^100:=by
 have h1:(2:Int)^i<=2^61:=by exact_mod_cast Nat.pow_le_pow_right (n:=2) (by decide) h
 exact ydv (Int.mul_le_mul_of_nonneg_left h1 (by decide)) (by decide+kernel)
theorem Eh {ps:List (W×Row)} {kvs:List (aK×W)} (h1:D6 ps) (h2:eX ps<=60) (h3:dq B1 kvs) (h4:kvs.length<=8):rz True 180 180 B1 0 (bW ps,kvs):=by
 have hs:iG (10^50) (aT.of (bW ps)):=mH λr hr=>by
  obtain⟨z,hz,rfl⟩:=mem_map.mp hr;exact(h1 z hz).1
 refine⟨λr hr=>?_,?_,?_,by show kvs.length<=_;lia⟩
 ·obtain⟨z,hz,rfl⟩:=mem_map.mp hr;have:=zI hz;rw[Int.pow_zero,Int.mul_one];exact re (by decide) _ (vW _ (h1 z hz).1 (by lia) (h1 z hz).2)
 ·rw[Int.pow_zero,Int.mul_one];exact h3
 ·have a:=mD (aT.of (bW ps));rw[aT.L_of] at a;have b:=(kc _ hs).2.2.2;rw[gX] at b;show((bW ps).map Rq.lb).sum<=_;lia
theorem yK (c:Int):∃n:Nat,ef [W.int 4,.int 4,.int 4,.int 8] (c%4)=some (.int (n:Int))/\4<=n/\n<=8:=by
 have h:c%4=0∨c%4=1∨c%4=2∨c%4=3:=by lia
 rcases h with h | h | h | h<;> rw[h]
 ·exact⟨4,rfl,by decide,by decide⟩
 ·exact⟨4,rfl,by decide,by decide⟩
 ·exact⟨4,rfl,by decide,by decide⟩
 ·exact⟨8,rfl,by decide,by decide⟩
noncomputable def eight:List Str:=["a","b","c","d","ab","e","ba","f"]
theorem GI {C:Cs} {Cf:Addr} (F:cz K "law" "law" (aQ 52) f fd) (F1:Fx P w K mg base "_law_cell_at" ["_law_script","_law_k"] 1 DZ) (F3:Fx P w K mg base "_law_amount" ["_law_cell"] 1 BK) (F4:Fx P w K mg base "_law_rows" ["_law_cells","_law_names"] 7 D7) (F5:Fx P w K mg base "_law_made" ["_law_thing"] 13 (v0 C 4))
 (F6:Fx P w K mg base "_law_run" ["_law_rows_here","_law_boxes","_law_most"] 3 Eg) (F7:Fx P w K mg base "_law_as_due" ["_law_made_here","_law_boxes","_law_most","_law_due"] 10 (BN C Cf)) (mr:mg "range"=none) (ml:mg "len"=none):cf P w K mg base 100 f fd ["_law_script"] iC:=by
 refine dG (k:=99) F (N:=["_law_script","_law_names","_law_boxes","_law_k","_law_cell","_law_most","_law_rows_here","_law_made_here","_law_due"]) (by walk_at "s") (by walk_at "l") λ_ _ _ _ _ _ nd hr=>?_;apply aN
 ·refine' ae ?s1 (ae ?s2 (ae ?s3 (ae ?s4 (ae ?s5 (ae ?s6 ?s7)))))
  case s1=>exact(aM 1 nd rfl (.inl rfl) (bv (bw (ac bq (ac bq (ac bq (ac bq (ac bq (ac bq (ac bq (ac bq ah))))))))) ci (bR (av ay (bw (ac ag (ac ag (ac ag (ac ag ah))))) (aO cE (aO ck (aC F1 (aB.mono hr (by lia)) rfl (ac (aa 0) (ac ag ah))) ag) ag)))))
  case s2=>exact(aM 2 nd rfl (.inl rfl) lZ)
  case s3=>exact(dg PySem.PassesOwn.never rfl (jy rfl mr (ac (bb cj rfl ml PySem.boot_len (ac (aa 1) ah)) ah)) (bO 3 nd rfl (.inl rfl)) (ae (aM 4 nd rfl (.inl rfl) (aC F1 (aB.mono hr (by lia)) rfl (ac (aa 0) (ac (aO bB ag (aa 3)) ah)))) (ae (bo (aI m9 (bb cj rfl ml PySem.boot_len (ac (aa 1) ah)) ag) (ae (cR (aO bB ag (aC F3 (aB.mono hr (by lia)) rfl (ac (aO ck (aa 4) ag) ah))) (aa 2) (av ay (aa 1) (aa 3))) ak) (ae (bo (aI (et hr) (aO cE (aa 4) ag) ag) (ae (cR (aC F3 (aB.mono hr (by lia)) rfl (ac (aO ck (aa 4) ag) ah)) (aa 2) (av ay (aa 1) (aa 3))) ak) ak) ak)) ak)))
  case s4=>exact(aM 5 nd rfl (.inl rfl) (aO cE (aC F1 (aB.mono hr (by lia)) rfl (ac (aa 0) (ac ag ah))) ag))
  case s5=>exact(aM 6 nd rfl (.inl rfl) (aC F4 (aB.mono hr (by lia)) rfl (ac (bv (aa 0) (bR ag) (bR ag)) (ac (aa 1) ah))))
  case s6=>
   refine' nw 7 (dN (by first | rfl | decide+kernel)) rfl (by assumption) rfl (by first | exact Or.inl rfl | exact Or.inr rfl) ?it (λ_ _ _ _=>?tg) (λ_ _ _ _=>?tt) (λ_ _ _ _=>?te)
   case it=>exact(cr (aa 6))
   case tg=>exact(bX 1 (by first | assumption | decide+kernel | rfl) rfl (.inl rfl))
   case tt=>exact dv
   case te=>exact(aC F5 (aB.mono hr (by lia)) rfl (ac (aa 1) ah))
  case s7=>exact(ae (aM 8 nd rfl (.inl rfl) (aC F6 (aB.mono hr (by lia)) rfl (ac (aa 6) (ac (aa 2) (ac (aa 5) ah))))) (ae (aA (ik (aC F7 (aB.mono hr (by lia)) rfl (ac (aa 7) (ac (aa 2) (ac (aa 5) (ac (aa 8) ah))))) (ii (aC F7 (aB.mono hr (by lia)) rfl (ac (aa 7) (ac (aa 2) (ac (aa 5) (ac (aa 8) ah)))))))) ak))
 ·rintro ws G q e ⟨ns,rfl,hns,_,hq⟩;walk_at "a0";intro pe hpe p4 hp4;refine⟨ns,0,rfl,by decide,λc0=>?_⟩;walk_at "R";obtain⟨n,hn,n4,n8⟩:=yK (c0/30);refine⟨_,_,af,hn,?_⟩;walk_at "R";refine⟨_,aG af hp4,λpn hpn=>?_⟩;have ec:cF [W.str "a",.str "b",.str "c",.str "d",.str "ab",.str "e",.str "ba",.str "f"] none (some (n:Int))=kh (eight.take n):=by
   rw[pI];show(eight.map W.str).take n=_;rw[←List.map_take]
  rw[ec];have g1n:=af (G:=aw (aw G pe (GO.lst [W.str "a",.str "b",.str "c",.str "d",.str "ab",.str "e",.str "ba",.str "f"])) p4 (GO.lst [W.int 4,W.int 4,W.int 4,W.int 8])) (a:=pn) (g:=GO.lst (kh (eight.take n)));generalize aw (aw (aw G pe (GO.lst [W.str "a",.str "b",.str "c",.str "d",.str "ab",.str "e",.str "ba",.str "f"])) p4 (GO.lst [W.int 4,W.int 4,W.int 4,W.int 8])) pn (GO.lst (kh (eight.take n)))=G1 at g1n ⊢;have hnl:(eight.take n).length=n:=by rw[length_take];show min n 8=n;lia
  generalize eight.take n=names at g1n hnl ⊢;have hlen:(kh names).length=names.length:=length_map ..;clear ec hpn hn hp4 hpe;walk_at "a";intro pb hpb;have g2n:=aG (g:=GO.dic []) g1n hpb;have g2b:=af (G:=G1) (a:=pb) (g:=GO.dic []);generalize aw G1 pb (.dic [])=G2 at g2n g2b ⊢;have nb:pn≠pb:=λz=>by rw[z,g2b] at g2n;cases g2n
  clear g1n hpb;walk_at "a";refine⟨_,.lst g2n,?_⟩;rw[hlen];refine⟨by lia,by lia,?_⟩;refine lY names.length (λi τ G'=>∃t3 t4 kvs,τ=[some (.scr ns),some (.ref pn),some (.ref pb),t3,t4,none,none,none,none]/\iI kvs/\dq B1 kvs/\kvs.length<=i/\G' pb=some (.dic kvs)/\G' pn=some (.lst (kh names))) ⟨none,none,[],rfl,iI.nil,(λ_ h=>(nomatch h)),ycx _,g2b,g2n⟩ ?_ ?_;rotate_left 1
  ·rintro i τ G' kk hi ⟨t3,t4,kvs,rfl,ok,bx,hkl,gb,gn⟩ hk;refine⟨trivial,?_⟩;obtain⟨x,hx,_⟩:=jK (L:=names) (i:=(i:Int)) (by lia) (by lia);have pl:=λw=>cZ kvs (.inr x) w;refine aJ λU1 hU1=>?_;walk_at "R";refine⟨ns,_,rfl,by lia,λc1=>?_⟩;dsimp only;subst hU1;walk_at "R";refine⟨_,.lst gn,?_⟩;refine eT (λh4=>?_) (λh4=>?_)
   ·refine⟨_,rfl,λv h0 h1=>?_⟩;walk_at "R";refine⟨_,_,gn,hx,pb,x,kvs,rfl,rfl,gb,by lia,?_⟩;exact hk _ _ ⟨_,_,_,rfl,ok.put _ _,bx.put _ (by lia) (by unfold B1;lia),ycy (pl _) (by lia),af,(ao nb).trans gn⟩
   ·refine eT (λh5=>?_) (λh5=>?_)
    all_goals first
     | exact hk _ _ ⟨_,_,_,rfl,ok,bx,by lia,gb,gn⟩
     | (refine⟨_,rfl,λv h0 h1=>?_⟩
        walk_at "R";refine⟨_,_,gn,hx,pb,x,kvs,rfl,rfl,gb,by lia,?_⟩;exact hk _ _ ⟨_,_,_,rfl,ok.put _ _,bx.put _ (by assumption) (by unfold B1;lia),ycy (pl _) (by lia),af,(ao nb).trans gn⟩)
  rintro τ G3 ⟨t3,t4,kvs,rfl,ok,bx,hkl,gb,gn⟩;refine⟨trivial,?_⟩;have hk8:kvs.length<=8:=by lia
  clear hkl g2n g2b;subst hU;dsimp only;walk_at "a0";refine⟨ns,0,rfl,by decide,λc2=>?_⟩;walk_at "R";obtain⟨m,hm,m29⟩:∃m:Nat,c2%30=(m:Int)/\m<=29:=by
   have:=iB (i:=c2) (j:=30) (by lia);exact⟨(c2%30).toNat,by lia,by lia⟩
  rw[hm];walk_at "a";refine⟨by lia,λpc hpc=>?_⟩;obtain⟨a1,a2,ea,ha⟩:=Bh (ns.map W.int) 5 35;have ec:cF (ns.map W.int) (some 5) (some 35)=(((ns.drop a1).take a2)).map W.int:=by
   rw[List.map_take,List.map_drop];exact ea
  rw[ec];have h30:((ns.drop a1).take a2).length<=30:=by rw[length_take];lia
  refine⟨pc,pn,(ns.drop a1).take a2,names,rfl,af,aG gn hpc,by lia,h30,λpr ps G4 le4 fpr gpr hT4 hS hpl htz=>?_⟩;have gb4:=le4 _ _ (aG (g:=GO.lst (((ns.drop a1).take a2).map W.int)) gb hpc);clear le4 fpr hpc ec ha ea h30 gn nb gb G3 hlen;walk_at "a";refine⟨_,gpr,iH (n:=1) gpr hT4 hS htz (λy hy=>by have:=(hS y hy).2;lia) (by lia) (λ_=>rfl) λxs G5 le5 hX hts pm _ hpm=>?_⟩;have gm6:=af (G:=G5) (a:=pm) (g:=GO.lst (refs xs));have le6:=le5.trans (aE.new (g:=GO.lst (refs xs)) hpm);have gb6:=le6 _ _ gb4;have gr6:=le6 _ _ gpr;have hX6:Rows C (aw G5 pm (GO.lst (refs xs))) xs:=hX.mono (aE.ins (aE.new hpm));have hT6:=hT4.mono (aE.ls le6);generalize aw G5 pm (GO.lst (refs xs))=G6 at gm6 gb6 gr6 hX6 hT6 ⊢;clear hpm hX le5 gb4 le6 gpr hT4;have okm:=Eh hS htz bx hk8;have hLi:∀i,i<=m->180+(3*180+2)*i<=20000:=λi hi=>by lia
  have fin:∀(due:W) (G7:Gp),aE G6 G7->((due=.non/\∃n,n<m/\eB (aW (cy xs,kvs) n)/\∀k,k<n->¬eB (aW (cy xs,kvs) k))∨∃(D:Addr) (ds:List Addr) (n:Nat),due=.ref D/\G7 D=some (.lst (ds.map W.ref))/\ds.length=n+1/\n<=m/\((aW (cy xs,kvs) n).1=[]∨n=m)/\(∀k,k<n->(aW (cy xs,kvs) k).1≠[]/\¬eB (aW (cy xs,kvs) k))/\∀k p,ds[k]?=some p->G7 p=some (.dic (d4 (aW (cy xs,kvs) k).2)))->∀q',q' (.bl true) G7->BN C Cf [.ref pm,.ref pb,.int (m:Int),due] G7 q' (λ_ _=>False):=λdue G7 le7 hd q' hq'=>by
   rw[←hts] at okm;exact⟨pm,pb,due,xs,kvs,m,180,180,B1,rfl,le7 _ _ gm6,hX6.mono (aE.ins le7),le7 _ _ gb6,ok,okm,by decide,λi hi=>wf i (by lia),hLi,by lia,hd,hq'⟩
  walk_at "a";refine⟨pr,pb,ps,kvs,m,180,180,B1,rfl,gr6,hT6,gb6,ok,okm,by decide,λi hi=>wf i (by lia),hLi,by lia,λG7 n le7 hn hb hnb=>?_,λG7 D ds n le7 fD gD hl hn he hne hds=>?_⟩
  ·rw[←hts] at hb hnb;subst hU;walk_at "R";refine fin _ _ le7 (.inl ⟨rfl,n,hn,hb,hnb⟩) _ ?_;walk_at "R";refine fin _ _ le7 (.inl ⟨rfl,n,hn,hb,hnb⟩) _ ?_;exact aE.done (hq _)
  ·rw[←hts] at he hne hds;subst hU;walk_at "R";refine fin _ _ le7 (.inr ⟨D,ds,n,rfl,gD,hl,hn,he,hne,λk p hp=>(hds k p hp).1⟩) _ ?_;walk_at "R";refine fin _ _ le7 (.inr ⟨D,ds,n,rfl,gD,hl,hn,he,hne,λk p hp=>(hds k p hp).1⟩) _ ?_;exact aE.done (hq _)
theorem wg {C:Addr} {m qual:Str} {sp:bS} (D:Md K C m qual st ps) (c:dr K C) (h:∀(f:Addr) (fd:FuncData),cz K m qual st f fd->xj P w K mg base k f fd ps sp):Dq P w K mg base C m ps k sp []:=by
 obtain⟨f,fd,hm,F,b⟩:=D;exact⟨⟨f,fd,[],[],hm,h f fd F,b,.nil,λ_=> .nil⟩,c⟩
theorem fZ {C:Cs} {Cf:Addr} {i j:Nat} {qual:Str} (hi:i≠7) (hj:j<=8) (D:Md K (C.at_ i) "step" qual st ["self","boxes"]) (c:dr K (C.at_ i)) (h:∀(f:Addr) (fd:FuncData),cz K "step" qual st f fd->cf P w K mg base j f fd ["self","boxes"] (my C i)):Dq P w K mg base (C.at_ i) "step" ["self","boxes"] 8 (sB C Cf i) []:=
 wg D c λf fd F=>((((h f fd F).imp (λ_ _ _ _ z=>yA (Cf:=Cf) hi z)).toR).mono hj)
theorem BP (T:Txt K mg) (F:cz K "law" "law" (aQ 52) f fd):cf P w K mg base 100 f fd ["_law_script"] iC:=by
 obtain⟨x0,x1,x2,⟨m0,e0⟩,⟨mF,e1⟩,_⟩:=T.x_;obtain⟨bF,xF⟩:=XC.of e1;obtain⟨C1,m1,c1,a11,a12,i1,t1,w1,_⟩:=T.k_Set;obtain⟨C2,m2,c2,a21,a22,i2,t2,w2,_⟩:=T.k_Copy;obtain⟨C3,m3,c3,a31,a32,i3,t3,w3,_⟩:=T.k_Add;obtain⟨C4,m4,c4,a41,i4,t4,w4,_⟩:=T.k_Less;obtain⟨C5,m5,c5,a51,a52,a53,i5,w5,t5,_⟩:=T.k_Times;obtain⟨C7,m7,c7,a71,a72,i7,w7,t7,_⟩:=T.k_Count;obtain⟨C6,m6,c6,a61,a62,a63,a64,i6,w6,t6,me6,_⟩:=T.k_While;obtain⟨C8,m8,c8,a81,a82,i8,w8,t8,_⟩:=T.k_Bearing;generalize hC:(⟨C1,C2,C3,C4,C5,C6,C7,C8⟩:Cs)=C;have e1:C.s=C1:=by rw[←hC]
 have e2:C.c=C2:=by rw[←hC]
 have e3:C.a=C3:=by rw[←hC]
 have e4:C.l=C4:=by rw[←hC]
 have e5:C.t=C5:=by rw[←hC]
 have e6:C.w=C6:=by rw[←hC]
 have e7:C.n=C7:=by rw[←hC]
 have e8:C.b=C8:=by rw[←hC]
 clear hC;subst e1 e2 e3 e4 e5 e6 e7 e8;have Wd:=T.d_is_whole.fxd (P:=P) (w:=w) (base:=base) λf fd T' ds F=>FF F T.z_isinstance T.z_int T.z_bool;have Rs:=T.d_raised.fx λf fd T' ds F=>DN F Wd;have Rd:=T.d_raised.fxd λf fd T' ds F=>DN F Wd;have Wl:=T.d_whole.fx λf fd F=>FG F Rs;have En:=T.d_endless.fx λf fd F=>FI F Wl Rd;have Cm:=T.d_compare.fx (P:=P) (w:=w) (base:=base) λf fd F=>Fz F;have Pa:=T.d_parts_above.fx λf fd F=>FA F Cm T.z_len;have Ps:=T.d_plus.fx λf fd F=>FB F Pa T.z_len;have Wp:=T.d_whole_part.fx (P:=P) (w:=w) (base:=base) λf fd F=>FC F;have Ww:=T.d_without_whole.fx λf fd F=>FD F Wp;have Ti:=T.d_times.fx λf fd F=>FE F Wp Ww Ps T.z_tuple;have Tt:=T.d_total.fx λf fd F=>FJ F Ps;have M1:∀i,Sk True i->Mt P w K mg base (C.at_ i) "weigh" ["self"] 6 (ku C i) []:=λi hi=>by
  match i,hi with
  | 0,_=>exact w1.mt c1 λf fd F=>yz (by decide) F Wl
  | 1,_=>exact w2.mt c2 λf fd F=>yz (by decide) F Wl
  | 2,_=>exact w3.mt c3 λf fd F=>yz (by decide) F Wl
  | 3,_=>exact w4.mt c4 λf fd F=>yz (by decide) F Wl
  | 4,_=>exact w5.mt c5 λf fd F=>FL F Ti En c5 a53
  | 5,_=>exact w6.mt c6 λf fd F=>FO F Ti Wl Ps Rd c6 a64 a62
  | 6,_=>exact w7.mt c7 λf fd F=>FM F Ti Wl Ps c5 a53 c7 a71 a72
  | 7,_=>exact w8.mt c8 λf fd F=>FN F Ti Wl Ps c6 a64 c8 a81 a82
  | n+8,h=>exact absurd h.1 (by lia)
 have We:=T.d_weight_of.fx λf fd F=>FK F Tt M1 T.z_reversed;have Be:=T.d_by_exponent.fx (P:=P) (w:=w) (base:=base) λf fd F=>Ga F T.z_tuple T.z_sorted;have N1:=i1.new (P:=P) (w:=w) (base:=base) m1 λf fd F=>Gb F c1 a11 a12;have N2:=i2.new (P:=P) (w:=w) (base:=base) m2 λf fd F=>Gc F c2 a21 a22;have N3:=i3.new (P:=P) (w:=w) (base:=base) m3 λf fd F=>Ge F c3 a31 a32;have N4:=i4.new (P:=P) (w:=w) (base:=base) m4 λf fd F=>Gg F c4 a41;have N5:=i5.new m5 λf fd F=>Gh F We Wl Ps T.z_tuple c5 a51 a52 a53;have N6:=i6.new m6 λf fd F=>Gi F Be We Wl Ps T.z_tuple c6 a61 a62 a63 a64;have N7:=i7.new (P:=P) (w:=w) (base:=base) m7 λf fd F=>FV F c7 a71 a72;have N8:=i8.new (P:=P) (w:=w) (base:=base) m8 λf fd F=>FY F c8 a81 a82;have He:=T.d_held.fx (P:=P) (w:=w) (base:=base) λf fd F=>FP F;have Ms:=me6.mt (P:=P) (w:=w) (base:=base) c6 λf fd F=>FQ F He Rs T.z_sum c6 a62;have Sw:=t6.mt (P:=P) (w:=w) (base:=base) c6 λf fd F=>DT F He N8 Ms c6 a61 a63 T.z_list;have M2:∀i,Sk True i->Dq P w K mg base (C.at_ i) "step" ["self","boxes"] 8 (sB C x1 i) []:=λi hi=>by
  match i,hi with
  | 0,_=>exact fZ (by decide) (by decide) t1 c1 λf fd F=>FR F c1 a11 a12
  | 1,_=>exact fZ (by decide) (by decide) t2 c2 λf fd F=>FS F He c2 a21 a22
  | 2,_=>exact fZ (by decide) (by decide) t3 c3 λf fd F=>FT F He c3 a31 a32
  | 3,_=>exact fZ (by decide) (by decide) t4 c4 λf fd F=>FU F He T.z_max c4 a41
  | 4,_=>exact fZ (by decide) (by decide) t5 c5 λf fd F=>FW F He N7 c5 a51
  | 5,_=>exact fZ (by decide) (by decide) t6 c6 λf fd F=>(DT F He N8 Ms c6 a61 a63 T.z_list).imp λ_ _ _ _ z=>yB z
  | 6,_=>exact fZ (by decide) (by decide) t7 c7 λf fd F=>FX F N7 c5 a52 c7 a71 a72 T.z_list
  | 7,_=>exact wg t8 c8 λf fd F=>FZ F mF xF He Cm Ms Sw c6 a61 c8 a81 a82
  | n+8,h=>exact absurd h.1 (by lia)
 have Wf:=T.d_weight_left.fx (P:=P) (w:=w) (base:=base) λf fd F=>Gj F;have Pt:=T.d_put_ahead.fx λf fd F=>DW F Wf Ps M1 T.z_reversed;have To:=T.d_told.fx λf fd F=>Gm F Wf T.z_dict;have Tr:=T.d_trace.rx λf fd T' ds F=>Go F Pt To M2 T.z_dict T.z_len;have Ca:=T.d__law_cell_at.fx (P:=P) (w:=w) (base:=base) λf fd F=>Gq F T.z_len;have Am:=T.d__law_amount.fx (P:=P) (w:=w) (base:=base) λf fd F=>Gr F;have Wi:=T.d__law_whole.fx (P:=P) (w:=w) (base:=base) λf fd F=>Gs F T.z_isinstance T.z_int T.z_bool;have Mk:=T.d__law_marks.fx (P:=P) (w:=w) (base:=base) λf fd F=>Gu F T.z_range T.z_len;have Dp:=D4 (P:=P) (w:=w) (base:=base) T 5;have Pl:=T.d__law_plain.fx λf fd F=>Gw F Am T.z_len;have Ro:=T.d__law_rows.fx λf fd F=>Gx F Dp Mk Pl T.z_len T.z_max;have Ma:=D8 T Wl N1 N2 N3 N4 N5 N6 4;have Do:=T.d__law_done.fx (P:=P) (w:=w) (base:=base) λf fd F=>Gz F T.z_max;have Md:=T.d__law_measured.fx (P:=P) (w:=w) (base:=base) λf fd F=>GA F T.z_sorted;have Bl:=T.d__law_below.fx (P:=P) (w:=w) (base:=base) λf fd F=>GB F T.z_len T.z_range T.z_min;have Sp:=T.d__law_step.fx λf fd F=>GC F Do Md Bl;have Sh:=T.d__law_shown.fx (P:=P) (w:=w) (base:=base) λf fd F=>GF F;have Rn:=T.d__law_run.fx λf fd F=>GG F Sh Sp T.z_dict T.z_list T.z_len;have Ad:=T.d__law_as_due.fx λf fd F=>GH F Tr Wi mF xF T.z_dict T.z_isinstance T.z_list T.z_tuple T.z_len T.z_zip;exact GI F Ca Am Ro Ma Rn Ad T.z_range T.z_len
end
noncomputable abbrev oL (x y:Str) (t:Stmt) (d a b c:Value) (n:Option Addr) (e g:Value) (o:Value) (p:Option Addr) (r:Array (Option Value)):Option Obj:=some ⟨o,p,.func (fnOf x y (aq t) (ap t) (am t) d a b c n e g),r⟩
noncomputable abbrev oR (a:Addr):Option (Option Value):=some (some (.ref a))
noncomputable abbrev oB (a:String):Option (Option Value):=some (some (.builtin a))
set_option maxHeartbeats 0 in
theorem all_mk {l:PySem.W.OpenLaw} {h:Heap} {fa f1 f2 f3 f4 f5 f6 f7 f8 f9 gq gt gu gw gx dA gy gA gB gC gD gI gN gO gT gV g0 g1 g2 g3 g4 g5 g6 g7 hn:Addr} (X:K.In h) (G:h.Ns mainGlobals mg) (LQ:mg "law"=some (.ref fa))
 {LU LV LW LX LY LZ L0 L1 L2 L3 L4 L5 L6 L7 L8 L9 Ma Mb wp wq wr ws wt wx wy w0 w2 w3 w4 w5 w6 w7 w8 xa xd xe xl xp xr xs xD xF x0 x1 x2 x3 x7 yl ys y0 y1 y2 y3 y4 y5 za zb ze zf zg zh zi zj zl zp zr zs ho:Option Addr} {Mc Me Mf Mg Mh Mi Mj Ml Mm zu z0 Ad Am Be Bl BT B0 Ca Cd Cf Cl Cm CX C1 C2 C3 C4 C5 C6 C7 C8 Do Dp DD:Array (Option Value)} {Mn Mo Mp Mq v2 Mr Ms Mu Mv Mw v3 Mx My Mz MA MB v4 MC MD ME MF MG v8 MH MI MJ MK ML wb MM MN MO MP MQ we MR MS MT MU MV wi MW MX MY MZ M0 wl M3 M4 M5 M6 M7 wn M8 D0 En Fr F0 hp Gf Gn Gt G0 G1 hq G2 G3 G4 G5 G6 hr G7 G8 G9 He Hf hs H0 H1 H2 H3 H4 ht H5 H6 H7 H8 Ia hu Ib Ic Ie If Ig hv Ih Ii Ij Ik Il hx Im Io Ip Iq Ir hy Is Iu Iv Iw Ix hz Iy Iz IA IB IC hA ID IE IF IG IH hB II IJ IK IL IM hC IN IP IQ IR IS hD IT IU IV IW IX hE IY IZ I0 I1 I2 hF I3 I4 I5 I6 I7 hG I8 I9 Ja Jb Jc hH Jd Je Jf Jg Jh hI Ji Jj Jk Jl Jm hK Jn Jo Jp Jq Jr hL Js Jt Ju Jv Jw hM Jx Jy Jz JA JB hN JC JD JE JF JG hO JH JI hP hQ hR ez hS:Value} {T1:Addr} {M9:Value} {Na:Option Addr} {Nb:Nat} {Nc:Array (Option Value)} {dy:Tok} {T4:Addr} {Nd:Value} {Nf:Option Addr} {Ng:Nat} {Nh:Array (Option Value)} {dz:Tok} {g8:Addr} {JJ:Value} {JK:Option Addr} {JL:Nat} {JM:Array (Option Value)} {cx:Tok} {ai:Addr} {bk:Addr} {rs hT:Option Addr} {hU:Array (Option Value)} {hV hW hX hY dB hZ:Value} {bl:Addr} {ru h0:Option Addr} {h1:Array (Option Value)} {h2 h3 h4 h5 dD h6:Value} {as:Addr} {ha eD:Option Addr} {eG:Array (Option Value)} {eH e0 e2 e3 cD e5:Value} {dh:Addr} {JN:ClassData} {aj:Addr} {bm:Addr} {rv h7:Option Addr} {h8:Array (Option Value)} {h9 id ih ij dF is:Value} {br:Addr} {rw it:Option Addr} {iv:Array (Option Value)} {ix iy iz i0 dI i1:Value} {ax:Addr} {hb e6:Option Addr} {e7:Array (Option Value)} {e8 fk fl fm cI fn:Value} {di:Addr} {JO:ClassData} {al:Addr} {bs:Addr} {rx i2:Option Addr} {i3:Array (Option Value)} {i4 i5 i6 i7 dK i8:Value} {bx:Addr} {ry j0:Option Addr} {j1:Array (Option Value)} {j2 j3 j4 j5 dO ka:Value} {az:Addr} {hc fp:Option Addr} {fr:Array (Option Value)} {fs fv fx fy c0 fz:Value} {dj:Addr} {JP:ClassData} {a0:Addr} {bz:Addr} {r0 kb:Option Addr} {ki:Array (Option Value)} {kk kp ks kv dT kw:Value} {bF:Addr} {r1 k0:Option Addr} {la:Array (Option Value)} {lb ld lf li dV lk:Value} {ba:Addr} {hd fD:Option Addr} {fF:Array (Option Value)} {f0 ga gb gc da gd:Value} {dk:Addr} {JQ:ClassData} {ad:Addr} {b0:Addr} {r2 ll:Option Addr} {lm:Array (Option Value)} {ln lo ls lt d0 ly:Value} {cb:Addr} {r3 lF:Option Addr} {lI:Array (Option Value)} {l0 ma mb mc d1 md:Value} {cd:Addr} {r4 me:Option Addr} {mi:Array (Option Value)} {mk ml mm mn d2 mp:Value} {dl:Addr} {JR:ClassData} {an:Addr} {ce:Addr} {r5 mr:Option Addr} {ms:Array (Option Value)} {mt mu mz mA d5 mF:Value} {cg:Addr} {r7 mN:Option Addr} {m0:Array (Option Value)} {m1 m2 m3 m4 d6 m5:Value} {ch:Addr} {r8 m6:Option Addr} {m7:Array (Option Value)} {m8 na nb nc d8 nd:Value} {ds:Addr} {JS:ClassData} {ab:Addr} {cl:Addr} {sa ne:Option Addr} {nf:Array (Option Value)} {ni nj nk nm ea nn:Value} {cn:Addr} {sb no:Option Addr} {np:Array (Option Value)} {ns nt nu nv eb nx:Value} {co:Addr} {sc nD:Option Addr} {nL:Array (Option Value)} {nT n0 n1 n2 ec n3:Value} {cp:Addr} {sf n4:Option Addr} {n7:Array (Option Value)} {n8 n9 oa ob ed oc:Value} {dt:Addr} {JT:ClassData} {ar:Addr} {cs:Addr} {sl od:Option Addr} {oe:Array (Option Value)} {of oi oj ok ee on:Value} {ct:Addr} {sn op:Option Addr} {or:Array (Option Value)} {os ov oD oT ei oX:Value} {cw:Addr} {sp o1:Option Addr} {o2:Array (Option Value)} {o3 o4 pa pb ej pc:Value} {dx:Addr} {JU:ClassData} {bi:Addr} {JV:ClassData} {be:Addr} {JW:ClassData} {bj:Addr} {JX:ClassData}
 (a1:nsIn K mainGlobals "is_whole"=oR f1) (l1:K.lookup f1=oL "is_whole" "is_whole" (aQ 5) (.ref T1) Mo Mp Mq LV v2 Mr Mn LU Mc) (c1:codeIn K v2 "is_whole"=true) (k1:keepIn K (.ref f1)=true)
 (a2:nsIn K mainGlobals "whole"=oR f2) (l2:K.lookup f2=oL "whole" "whole" (aQ 6) .none Mu Mv Mw LX v3 Mx Ms LW Me) (c2:codeIn K v3 "whole"=true) (k2:keepIn K (.ref f2)=true)
 (a3:nsIn K mainGlobals "endless"=oR f3) (l3:K.lookup f3=oL "endless" "endless" (aQ 7) .none Mz MA MB LZ v4 MC My LY Mf) (c3:codeIn K v4 "endless"=true) (k3:keepIn K (.ref f3)=true)
 (a4:nsIn K mainGlobals "raised"=oR f4) (l4:K.lookup f4=oL "raised" "raised" (aQ 8) (.ref T4) ME MF MG L1 v8 MH MD L0 Mg) (c4:codeIn K v8 "raised"=true) (k4:keepIn K (.ref f4)=true)
 (a5:nsIn K mainGlobals "compare"=oR f5) (l5:K.lookup f5=oL "compare" "compare" (aQ 9) .none MJ MK ML L3 wb MM MI L2 Mh) (c5:codeIn K wb "compare"=true) (k5:keepIn K (.ref f5)=true)
 (a6:nsIn K mainGlobals "whole_part"=oR f6) (l6:K.lookup f6=oL "whole_part" "whole_part" (aQ 10) .none MO MP MQ L5 we MR MN L4 Mi) (c6:codeIn K we "whole_part"=true) (k6:keepIn K (.ref f6)=true)
 (a7:nsIn K mainGlobals "without_whole"=oR f7) (l7:K.lookup f7=oL "without_whole" "without_whole" (aQ 11) .none MT MU MV L7 wi MW MS L6 Mj) (c7:codeIn K wi "without_whole"=true) (k7:keepIn K (.ref f7)=true)
 (a8:nsIn K mainGlobals "plus"=oR f8) (l8:K.lookup f8=oL "plus" "plus" (aQ 13) .none MY MZ M0 L9 wl M3 MX L8 Ml) (c8:codeIn K wl "plus"=true) (k8:keepIn K (.ref f8)=true)
 (a9:nsIn K mainGlobals "parts_above"=oR f9) (l9:K.lookup f9=oL "parts_above" "parts_above" (aQ 14) .none M5 M6 M7 Mb wn M8 M4 Ma Mm) (c9:codeIn K wn "parts_above"=true) (k9:keepIn K (.ref f9)=true)
 (Ni:nsIn K mainGlobals "total"=oR gq) (Nj:K.lookup gq=oL "total" "total" (aQ 15) .none En Fr F0 wq hp Gf D0 wp zu) (Nk:codeIn K hp "total"=true) (Nl:keepIn K (.ref gq)=true)
 (Nn:nsIn K mainGlobals "times"=oR gt) (No:K.lookup gt=oL "times" "times" (aQ 17) .none Gt G0 G1 ws hq G2 Gn wr z0) (Np:codeIn K hq "times"=true) (Nq:keepIn K (.ref gt)=true)
 (Nr:nsIn K mainGlobals "weight_of"=oR gu) (Nt:K.lookup gu=oL "weight_of" "weight_of" (aQ 19) .none G4 G5 G6 wx hr G7 G3 wt Ad) (Nu:codeIn K hr "weight_of"=true) (Nv:keepIn K (.ref gu)=true)
 (Nw:nsIn K mainGlobals "held"=oR gw) (Nx:K.lookup gw=oL "held" "held" (aQ 20) .none G9 He Hf w0 hs H0 G8 wy Am) (Ny:codeIn K hs "held"=true) (Nz:keepIn K (.ref gw)=true)
 (NA:nsIn K mainGlobals "by_exponent"=oR gx) (NB:K.lookup gx=oL "by_exponent" "by_exponent" (aQ 30) .none H2 H3 H4 w3 ht H5 H1 w2 Be) (NC:codeIn K ht "by_exponent"=true) (ND:keepIn K (.ref gx)=true)
 (NE:nsIn K mainGlobals "trace"=oR dA) (NG:K.lookup dA=oL "trace" "trace" (aQ 32) (.ref g8) H7 H8 Ia w5 hu Ib H6 w4 Bl) (NH:codeIn K hu "trace"=true) (NI:keepIn K (.ref dA)=true)
 (NJ:nsIn K mainGlobals "put_ahead"=oR gy) (NK:K.lookup gy=oL "put_ahead" "put_ahead" (aQ 33) .none Ie If Ig w7 hv Ih Ic w6 BT) (NL:codeIn K hv "put_ahead"=true) (NM:keepIn K (.ref gy)=true)
 (NN:nsIn K mainGlobals "weight_left"=oR gA) (NO:K.lookup gA=oL "weight_left" "weight_left" (aQ 34) .none Ij Ik Il xa hx Im Ii w8 B0) (NP:codeIn K hx "weight_left"=true) (NQ:keepIn K (.ref gA)=true)
 (NR:nsIn K mainGlobals "told"=oR gB) (NS:K.lookup gB=oL "told" "told" (aQ 35) .none Ip Iq Ir xe hy Is Io xd Ca) (NT:codeIn K hy "told"=true) (NU:keepIn K (.ref gB)=true)
 (NW:nsIn K mainGlobals "_law_cell_at"=oR gC) (NX:K.lookup gC=oL "_law_cell_at" "_law_cell_at" (aQ 37) .none Iv Iw Ix xp hz Iy Iu xl Cd) (NY:codeIn K hz "_law_cell_at"=true) (NZ:keepIn K (.ref gC)=true)
 (N0:nsIn K mainGlobals "_law_whole"=oR gD) (N1:K.lookup gD=oL "_law_whole" "_law_whole" (aQ 38) .none IA IB IC xs hA ID Iz xr Cf) (N2:codeIn K hA "_law_whole"=true) (N3:keepIn K (.ref gD)=true)
 (N4:nsIn K mainGlobals "_law_amount"=oR gI) (N5:K.lookup gI=oL "_law_amount" "_law_amount" (aQ 39) .none IF IG IH xF hB II IE xD Cl) (N6:codeIn K hB "_law_amount"=true) (N7:keepIn K (.ref gI)=true)
 (N8:nsIn K mainGlobals "_law_deep"=oR gN) (N9:K.lookup gN=oL "_law_deep" "_law_deep" (aQ 40) .none IK IL IM x1 hC IN IJ x0 Cm) (Oa:codeIn K hC "_law_deep"=true) (Ob:keepIn K (.ref gN)=true)
 (Oc:nsIn K mainGlobals "_law_plain"=oR gO) (Od:K.lookup gO=oL "_law_plain" "_law_plain" (aQ 41) .none IQ IR IS x3 hD IT IP x2 CX) (Oe:codeIn K hD "_law_plain"=true) (Of:keepIn K (.ref gO)=true)
 (Og:nsIn K mainGlobals "_law_marks"=oR gT) (Oh:K.lookup gT=oL "_law_marks" "_law_marks" (aQ 42) .none IV IW IX yl hE IY IU x7 C1) (Oi:codeIn K hE "_law_marks"=true) (Oj:keepIn K (.ref gT)=true)
 (Ok:nsIn K mainGlobals "_law_rows"=oR gV) (Ol:K.lookup gV=oL "_law_rows" "_law_rows" (aQ 43) .none I0 I1 I2 y0 hF I3 IZ ys C2) (Om:codeIn K hF "_law_rows"=true) (On:keepIn K (.ref gV)=true)
 (Oo:nsIn K mainGlobals "_law_made"=oR g0) (Op:K.lookup g0=oL "_law_made" "_law_made" (aQ 44) .none I5 I6 I7 y2 hG I8 I4 y1 C3) (Oq:codeIn K hG "_law_made"=true) (Os:keepIn K (.ref g0)=true)
 (Ot:nsIn K mainGlobals "_law_done"=oR g1) (Ou:K.lookup g1=oL "_law_done" "_law_done" (aQ 45) .none Ja Jb Jc y4 hH Jd I9 y3 C4) (Ov:codeIn K hH "_law_done"=true) (Ow:keepIn K (.ref g1)=true)
 (Ox:nsIn K mainGlobals "_law_measured"=oR g2) (Oy:K.lookup g2=oL "_law_measured" "_law_measured" (aQ 46) .none Jf Jg Jh za hI Ji Je y5 C5) (Oz:codeIn K hI "_law_measured"=true) (OA:keepIn K (.ref g2)=true)
 (OB:nsIn K mainGlobals "_law_below"=oR g3) (OC:K.lookup g3=oL "_law_below" "_law_below" (aQ 47) .none Jk Jl Jm ze hK Jn Jj zb C6) (OD:codeIn K hK "_law_below"=true) (OE:keepIn K (.ref g3)=true)
 (OF:nsIn K mainGlobals "_law_step"=oR g4) (OG:K.lookup g4=oL "_law_step" "_law_step" (aQ 48) .none Jp Jq Jr zg hL Js Jo zf C7) (OH:codeIn K hL "_law_step"=true) (OI:keepIn K (.ref g4)=true)
 (OJ:nsIn K mainGlobals "_law_shown"=oR g5) (OK:K.lookup g5=oL "_law_shown" "_law_shown" (aQ 49) .none Ju Jv Jw zi hM Jx Jt zh C8) (OL:codeIn K hM "_law_shown"=true) (OM:keepIn K (.ref g5)=true)
 (ON:nsIn K mainGlobals "_law_run"=oR g6) (OO:K.lookup g6=oL "_law_run" "_law_run" (aQ 50) .none Jz JA JB zl hN JC Jy zj Do) (OP:codeIn K hN "_law_run"=true) (OQ:keepIn K (.ref g6)=true)
 (OR:nsIn K mainGlobals "_law_as_due"=oR g7) (OS:K.lookup g7=oL "_law_as_due" "_law_as_due" (aQ 51) .none JE JF JG zr hO JH JD zp Dp) (OT:codeIn K hO "_law_as_due"=true) (OU:keepIn K (.ref g7)=true)
 (OV:nsIn K mainGlobals "law"=oR hn) (OW:K.lookup hn=oL "law" "law" (aQ 52) .none hP hQ hR ho ez hS JI zs DD) (OX:codeIn K ez "law"=true) (OY:keepIn K (.ref hn)=true)
 (t1:K.lookup T1=some ⟨M9,Na,.seq #[.int 0 dy] Nb,Nc⟩)
 (t4:K.lookup T4=some ⟨Nd,Nf,.seq #[.int 1 dz] Ng,Nh⟩)
 (OZ:K.lookup g8=some ⟨JJ,JK,.seq #[.int 50 cx] JL,JM⟩)
 (O0:nsIn K mainGlobals "HydraError"=oR bi) (O1:excIn K bi [.type "ValueError",.type "Exception",.type "BaseException",.type "object"] "ValueError.__new__"=true)
 (O2:nsIn K mainGlobals "NoFall"=oR be) (O3:excIn K be [.type "ValueError",.type "Exception",.type "BaseException",.type "object"] "ValueError.__new__"=true)
 (O4:nsIn K mainGlobals "NoNumber"=oR bj) (O5:excIn K bj [.type "ValueError",.type "Exception",.type "BaseException",.type "object"] "ValueError.__new__"=true)
 (sq:mroIn K be (.ref bi)=some true)
 (su:mroIn K be (.ref bj)=some false)
 (JY:findIn K (.ref bi) "__getattribute__"=oB "BaseException.__getattribute__") (JZ:findIn K (.ref bi) "__getattr__"=some none) (J0:findIn K (.ref bi) "__class__"=oB "object.__class__") (J1:clsIn K bi=some JV) (J2:typeIn K (.ref bi)=some (.type "type")) (J3:instIn K (.ref bi) (.type "type")=some true)
 (J4:findIn K (.ref be) "__getattribute__"=oB "BaseException.__getattribute__") (J5:findIn K (.ref be) "__getattr__"=some none) (J6:findIn K (.ref be) "__class__"=oB "object.__class__") (J7:clsIn K be=some JW) (J8:typeIn K (.ref be)=some (.type "type")) (J9:instIn K (.ref be) (.type "type")=some true)
 (Ka:findIn K (.ref bj) "__getattribute__"=oB "BaseException.__getattribute__") (Kb:findIn K (.ref bj) "__getattr__"=some none) (Kc:findIn K (.ref bj) "__class__"=oB "object.__class__") (Kd:clsIn K bj=some JX) (Ke:typeIn K (.ref bj)=some (.type "type")) (Kf:instIn K (.ref bj) (.type "type")=some true)
 (O6:nsIn K mainGlobals "Set"=oR ai) (Kg:plainGet K ai Str.empty=true) (Kh:hasDictIn K ai=true) (Ki:plainOver K ai=true) (Kj:findIn K (.ref ai) "__setattr__"=oB "object.__setattr__") (Kk:makesIn K ai=true) (Kl:keepIn K (.ref ai)=true) (sv:findIn K (.ref ai) "box"=some none) (sz:findIn K (.ref ai) "amount"=some none) (sD:findIn K (.ref ai) "__init__"=oR bk) (pd:isFn K (.ref bk)=true) (s0:K.lookup bk=oL "__init__" "Set.__init__" (bf 22 0) .none hW hX hY hT dB hZ hV rs hU) (pe:codeIn K dB "Set.__init__"=true) (pg:keepIn K (.ref bk)=true) (s1:findIn K (.ref ai) "step"=oR bl) (pi:isFn K (.ref bl)=true) (s2:K.lookup bl=oL "step" "Set.step" (bf 22 1) .none h3 h4 h5 h0 dD h6 h2 ru h1) (pj:codeIn K dD "Set.step"=true) (ek:keepIn K (.ref bl)=true) (he:findIn K (.ref ai) "weigh"=oR as) (ge:isFn K (.ref as)=true) (hf:K.lookup as=oL "weigh" "Row.weigh" (bf 21 0) .none e0 e2 e3 eD cD e5 eH ha eG) (gg:codeIn K cD "Row.weigh"=true) (db:keepIn K (.ref as)=true) (Km:nsIn K mainGlobals "Row"=oR dh) (Kn:clsIn K dh=some JN) (Ko:typeIn K (.ref dh)=some (.type "type")) (Kp:instIn K (.ref dh) (.type "type")=some true) (Kq:mroIn K ai (.ref dh)=some true)
 (O7:nsIn K mainGlobals "Copy"=oR aj) (Kr:plainGet K aj Str.empty=true) (Ks:hasDictIn K aj=true) (Kt:plainOver K aj=true) (Ku:findIn K (.ref aj) "__setattr__"=oB "object.__setattr__") (Kv:makesIn K aj=true) (Kw:keepIn K (.ref aj)=true) (s3:findIn K (.ref aj) "box"=some none) (s4:findIn K (.ref aj) "other"=some none) (s5:findIn K (.ref aj) "__init__"=oR bm) (pk:isFn K (.ref bm)=true) (s6:K.lookup bm=oL "__init__" "Copy.__init__" (bf 23 0) .none id ih ij h7 dF is h9 rv h8) (pl:codeIn K dF "Copy.__init__"=true) (pm:keepIn K (.ref bm)=true) (s7:findIn K (.ref aj) "step"=oR br) (pn:isFn K (.ref br)=true) (s8:K.lookup br=oL "step" "Copy.step" (bf 23 1) .none iy iz i0 it dI i1 ix rw iv) (po:codeIn K dI "Copy.step"=true) (el:keepIn K (.ref br)=true) (hg:findIn K (.ref aj) "weigh"=oR ax) (gi:isFn K (.ref ax)=true) (hh:K.lookup ax=oL "weigh" "Row.weigh" (bf 21 0) .none fk fl fm e6 cI fn e8 hb e7) (gk:codeIn K cI "Row.weigh"=true) (dd:keepIn K (.ref ax)=true) (Kx:nsIn K mainGlobals "Row"=oR di) (Ky:clsIn K di=some JO) (Kz:typeIn K (.ref di)=some (.type "type")) (KA:instIn K (.ref di) (.type "type")=some true) (KB:mroIn K aj (.ref di)=some true)
 (O8:nsIn K mainGlobals "Add"=oR al) (KC:plainGet K al Str.empty=true) (KD:hasDictIn K al=true) (KE:plainOver K al=true) (KF:findIn K (.ref al) "__setattr__"=oB "object.__setattr__") (KG:makesIn K al=true) (KH:keepIn K (.ref al)=true) (s9:findIn K (.ref al) "box"=some none) (ta:findIn K (.ref al) "other"=some none) (tb:findIn K (.ref al) "__init__"=oR bs) (pr:isFn K (.ref bs)=true) (tc:K.lookup bs=oL "__init__" "Add.__init__" (bf 24 0) .none i5 i6 i7 i2 dK i8 i4 rx i3) (pt:codeIn K dK "Add.__init__"=true) (pu:keepIn K (.ref bs)=true) (td:findIn K (.ref al) "step"=oR bx) (py:isFn K (.ref bx)=true) (te:K.lookup bx=oL "step" "Add.step" (bf 24 1) .none j3 j4 j5 j0 dO ka j2 ry j1) (pK:codeIn K dO "Add.step"=true) (em:keepIn K (.ref bx)=true) (hi:findIn K (.ref al) "weigh"=oR az) (gm:isFn K (.ref az)=true) (hj:K.lookup az=oL "weigh" "Row.weigh" (bf 21 0) .none fv fx fy fp c0 fz fs hc fr) (gn:codeIn K c0 "Row.weigh"=true) (de:keepIn K (.ref az)=true) (KI:nsIn K mainGlobals "Row"=oR dj) (KJ:clsIn K dj=some JP) (KK:typeIn K (.ref dj)=some (.type "type")) (KL:instIn K (.ref dj) (.type "type")=some true) (KM:mroIn K al (.ref dj)=some true)
 (O9:nsIn K mainGlobals "Less"=oR a0) (KN:plainGet K a0 Str.empty=true) (KO:hasDictIn K a0=true) (KP:plainOver K a0=true) (KQ:findIn K (.ref a0) "__setattr__"=oB "object.__setattr__") (KR:makesIn K a0=true) (KS:keepIn K (.ref a0)=true) (tg:findIn K (.ref a0) "box"=some none) (th:findIn K (.ref a0) "__init__"=oR bz) (p0:isFn K (.ref bz)=true) (ti:K.lookup bz=oL "__init__" "Less.__init__" (bf 25 0) .none kp ks kv kb dT kw kk r0 ki) (p1:codeIn K dT "Less.__init__"=true) (p2:keepIn K (.ref bz)=true) (tk:findIn K (.ref a0) "step"=oR bF) (p3:isFn K (.ref bF)=true) (tn:K.lookup bF=oL "step" "Less.step" (bf 25 1) .none ld lf li k0 dV lk lb r1 la) (p4:codeIn K dV "Less.step"=true) (en:keepIn K (.ref bF)=true) (hk:findIn K (.ref a0) "weigh"=oR ba) (go:isFn K (.ref ba)=true) (hm:K.lookup ba=oL "weigh" "Row.weigh" (bf 21 0) .none ga gb gc fD da gd f0 hd fF) (gp:codeIn K da "Row.weigh"=true) (df:keepIn K (.ref ba)=true) (KU:nsIn K mainGlobals "Row"=oR dk) (KW:clsIn K dk=some JQ) (KY:typeIn K (.ref dk)=some (.type "type")) (KZ:instIn K (.ref dk) (.type "type")=some true) (K0:mroIn K a0 (.ref dk)=some true)
 (Pa:nsIn K mainGlobals "Times"=oR ad) (K1:plainGet K ad Str.empty=true) (K2:hasDictIn K ad=true) (K3:plainOver K ad=true) (K4:findIn K (.ref ad) "__setattr__"=oB "object.__setattr__") (K5:makesIn K ad=true) (K6:keepIn K (.ref ad)=true) (to:findIn K (.ref ad) "box"=some none) (tr:findIn K (.ref ad) "rows"=some none) (ts:findIn K (.ref ad) "of_round"=some none) (tt:findIn K (.ref ad) "__init__"=oR b0) (p7:isFn K (.ref b0)=true) (tv:K.lookup b0=oL "__init__" "Times.__init__" (bf 26 0) .none lo ls lt ll d0 ly ln r2 lm) (p8:codeIn K d0 "Times.__init__"=true) (qa:keepIn K (.ref b0)=true) (tx:findIn K (.ref ad) "weigh"=oR cb) (qb:isFn K (.ref cb)=true) (ty:K.lookup cb=oL "weigh" "Times.weigh" (bf 26 1) .none ma mb mc lF d1 md l0 r3 lI) (qn:codeIn K d1 "Times.weigh"=true) (eo:keepIn K (.ref cb)=true) (tA:findIn K (.ref ad) "step"=oR cd) (qs:isFn K (.ref cd)=true) (t0:K.lookup cd=oL "step" "Times.step" (bf 26 2) .none ml mm mn me d2 mp mk r4 mi) (qu:codeIn K d2 "Times.step"=true) (ep:keepIn K (.ref cd)=true) (K7:nsIn K mainGlobals "Row"=oR dl) (K8:clsIn K dl=some JR) (K9:typeIn K (.ref dl)=some (.type "type")) (La:instIn K (.ref dl) (.type "type")=some true) (Lb:mroIn K ad (.ref dl)=some true)
 (Pb:nsIn K mainGlobals "Count"=oR an) (Lc:plainGet K an Str.empty=true) (Ld:hasDictIn K an=true) (Le:plainOver K an=true) (Lf:findIn K (.ref an) "__setattr__"=oB "object.__setattr__") (Lg:makesIn K an=true) (Lh:keepIn K (.ref an)=true) (t2:findIn K (.ref an) "loop"=some none) (t3:findIn K (.ref an) "rounds"=some none) (t5:findIn K (.ref an) "__init__"=oR ce) (qv:isFn K (.ref ce)=true) (t6:K.lookup ce=oL "__init__" "Count.__init__" (bf 27 0) .none mu mz mA mr d5 mF mt r5 ms) (qx:codeIn K d5 "Count.__init__"=true) (q1:keepIn K (.ref ce)=true) (t7:findIn K (.ref an) "weigh"=oR cg) (q2:isFn K (.ref cg)=true) (t8:K.lookup cg=oL "weigh" "Count.weigh" (bf 27 1) .none m2 m3 m4 mN d6 m5 m1 r7 m0) (q3:codeIn K d6 "Count.weigh"=true) (eq:keepIn K (.ref cg)=true) (t9:findIn K (.ref an) "step"=oR ch) (q4:isFn K (.ref ch)=true) (ua:K.lookup ch=oL "step" "Count.step" (bf 27 2) .none na nb nc m6 d8 nd m8 r8 m7) (q5:codeIn K d8 "Count.step"=true) (er:keepIn K (.ref ch)=true) (Li:nsIn K mainGlobals "Row"=oR ds) (Lj:clsIn K ds=some JS) (Lk:typeIn K (.ref ds)=some (.type "type")) (Ll:instIn K (.ref ds) (.type "type")=some true) (Lm:mroIn K an (.ref ds)=some true)
 (Pc:nsIn K mainGlobals "While"=oR ab) (Ln:plainGet K ab Str.empty=true) (Lo:hasDictIn K ab=true) (Lp:plainOver K ab=true) (Lq:findIn K (.ref ab) "__setattr__"=oB "object.__setattr__") (Lr:makesIn K ab=true) (Ls:keepIn K (.ref ab)=true) (ub:findIn K (.ref ab) "box"=some none) (un:findIn K (.ref ab) "heights"=some none) (up:findIn K (.ref ab) "rows"=some none) (ux:findIn K (.ref ab) "of_round"=some none) (uy:findIn K (.ref ab) "__init__"=oR cl) (q6:isFn K (.ref cl)=true) (u1:K.lookup cl=oL "__init__" "While.__init__" (bf 28 0) .none nj nk nm ne ea nn ni sa nf) (q7:codeIn K ea "While.__init__"=true) (q8:keepIn K (.ref cl)=true) (u2:findIn K (.ref ab) "weigh"=oR cn) (q9:isFn K (.ref cn)=true) (u8:K.lookup cn=oL "weigh" "While.weigh" (bf 28 1) .none nt nu nv no eb nx ns sb np) (ra:codeIn K eb "While.weigh"=true) (es:keepIn K (.ref cn)=true) (va:findIn K (.ref ab) "step"=oR co) (rb:isFn K (.ref co)=true) (vb:K.lookup co=oL "step" "While.step" (bf 28 2) .none n0 n1 n2 nD ec n3 nT sc nL) (rd:codeIn K ec "While.step"=true) (ev:keepIn K (.ref co)=true) (vf:findIn K (.ref ab) "measure"=oR cp) (rg:isFn K (.ref cp)=true) (vl:K.lookup cp=oL "measure" "While.measure" (bf 28 3) .none n9 oa ob n4 ed oc n8 sf n7) (rh:codeIn K ed "While.measure"=true) (ew:keepIn K (.ref cp)=true) (Lu:nsIn K mainGlobals "Row"=oR dt) (Lv:clsIn K dt=some JT) (Lx:typeIn K (.ref dt)=some (.type "type")) (Ly:instIn K (.ref dt) (.type "type")=some true) (Lz:mroIn K ab (.ref dt)=some true)
 (Pd:nsIn K mainGlobals "Bearing"=oR ar) (LB:plainGet K ar Str.empty=true) (LC:hasDictIn K ar=true) (LD:plainOver K ar=true) (LF:findIn K (.ref ar) "__setattr__"=oB "object.__setattr__") (LH:makesIn K ar=true) (LJ:keepIn K (.ref ar)=true) (vm:findIn K (.ref ar) "loop"=some none) (vn:findIn K (.ref ar) "borne"=some none) (vr:findIn K (.ref ar) "__init__"=oR cs) (ri:isFn K (.ref cs)=true) (vs:K.lookup cs=oL "__init__" "Bearing.__init__" (bf 29 0) .none oi oj ok od ee on of sl oe) (rj:codeIn K ee "Bearing.__init__"=true) (rn:keepIn K (.ref cs)=true) (vu:findIn K (.ref ar) "weigh"=oR ct) (ro:isFn K (.ref ct)=true) (vx:K.lookup ct=oL "weigh" "Bearing.weigh" (bf 29 1) .none ov oD oT op ei oX os sn or) (rp:codeIn K ei "Bearing.weigh"=true) (ex:keepIn K (.ref ct)=true) (vy:findIn K (.ref ar) "step"=oR cw) (rq:isFn K (.ref cw)=true) (v1:K.lookup cw=oL "step" "Bearing.step" (bf 29 2) .none o4 pa pb o1 ej pc o3 sp o2) (rr:codeIn K ej "Bearing.step"=true) (ey:keepIn K (.ref cw)=true) (LK:nsIn K mainGlobals "Row"=oR dx) (LL:clsIn K dx=some JU) (LM:typeIn K (.ref dx)=some (.type "type")) (LN:instIn K (.ref dx) (.type "type")=some true) (LP:mroIn K ar (.ref dx)=some true)
 (z1:nsIn K mainGlobals "ValueError"=some none) (z2:nsIn K mainGlobals "bool"=some none) (z3:nsIn K mainGlobals "dict"=some none) (z4:nsIn K mainGlobals "int"=some none) (z5:nsIn K mainGlobals "isinstance"=some none) (z6:nsIn K mainGlobals "len"=some none) (z7:nsIn K mainGlobals "list"=some none) (z8:nsIn K mainGlobals "max"=some none) (z9:nsIn K mainGlobals "min"=some none) (Pe:nsIn K mainGlobals "range"=some none) (Pf:nsIn K mainGlobals "reversed"=some none) (Pg:nsIn K mainGlobals "sorted"=some none) (Ph:nsIn K mainGlobals "sum"=some none) (Pj:nsIn K mainGlobals "tuple"=some none) (Pk:nsIn K mainGlobals "zip"=some none):
 ∃fd:FuncData,(∀(s:Shared) (v:Value),BindsTo s fd ⟨[v],[]⟩ [("_law_script",v)])/\∀base:Heap,K.In base->base.Ns mainGlobals mg->dR l.prog w K mg base tH 100 fa fd ["_law_script"] (wm K iC):=by
 have e:=LQ.symm.trans (mg_of X G OV);cases e;have F1:fT K "is_whole" "is_whole" (aQ 5) f1 _ T1 [.int 0 dy]:=lP l1 c1 k1 t1 rfl;have b1:bM K _ ["thing","least"] []:=F1.binds λ_ _ _ _ _ _ us hl=>(λ(q:us.length=2)=>by clear hl;revert us;refine bA (λ_=>bA (λ_=>cL ?_));exact⟨_,rfl,rfl⟩) (by simpa using hl);have e1:bM K _ ["thing","least"] [.int 0 dy]:=F1.binds λ_ _ _ _ _ _ us hl=>(λ(q:us.length=1)=>by clear hl;revert us;refine bA (λ_=>cL ?_);exact⟨_,rfl,rfl⟩) (by simpa using hl);have F2:=aL (st:=aQ 6) l2 c2 k2;have b2:=F2.binds (ps:=["n"]) λ_ _ _ _ _ _=>bA (λ_=>cL rfl);have F3:=aL (st:=aQ 7) l3 c3 k3;have b3:=F3.binds (ps:=[]) λ_ _ _ _ _ _=>cL rfl;have F4:fT K "raised" "raised" (aQ 8) f4 _ T4 [.int 1 dz]:=lP l4 c4 k4 t4 rfl;have b4:bM K _ ["exponent","times"] []:=F4.binds λ_ _ _ _ _ _ us hl=>(λ(q:us.length=2)=>by clear hl;revert us;refine bA (λ_=>bA (λ_=>cL ?_));exact⟨_,rfl,rfl⟩) (by simpa using hl);have e4:bM K _ ["exponent","times"] [.int 1 dz]:=F4.binds λ_ _ _ _ _ _ us hl=>(λ(q:us.length=1)=>by clear hl;revert us;refine bA (λ_=>cL ?_);exact⟨_,rfl,rfl⟩) (by simpa using hl);have F5:=aL (st:=aQ 9) l5 c5 k5;have b5:=F5.binds (ps:=["a","b"]) λ_ _ _ _ _ _=>bA (λ_=>bA (λ_=>cL rfl));have F6:=aL (st:=aQ 10) l6 c6 k6;have b6:=F6.binds (ps:=["a"]) λ_ _ _ _ _ _=>bA (λ_=>cL rfl);have F7:=aL (st:=aQ 11) l7 c7 k7;have b7:=F7.binds (ps:=["a"]) λ_ _ _ _ _ _=>bA (λ_=>cL rfl);have F8:=aL (st:=aQ 13) l8 c8 k8;have b8:=F8.binds (ps:=["a","b"]) λ_ _ _ _ _ _=>bA (λ_=>bA (λ_=>cL rfl));have F9:=aL (st:=aQ 14) l9 c9 k9;have b9:=F9.binds (ps:=["a","exponent"]) λ_ _ _ _ _ _=>bA (λ_=>bA (λ_=>cL rfl));have F10:=aL (st:=aQ 15) Nj Nk Nl;have b10:=F10.binds (ps:=["some"]) λ_ _ _ _ _ _=>bA (λ_=>cL rfl);have F11:=aL (st:=aQ 17) No Np Nq;have b11:=F11.binds (ps:=["a","b"]) λ_ _ _ _ _ _=>bA (λ_=>bA (λ_=>cL rfl));have F12:=aL (st:=aQ 19) Nt Nu Nv;have b12:=F12.binds (ps:=["things"]) λ_ _ _ _ _ _=>bA (λ_=>cL rfl);have F13:=aL (st:=aQ 20) Nx Ny Nz;have b13:=F13.binds (ps:=["boxes","box"]) λ_ _ _ _ _ _=>bA (λ_=>bA (λ_=>cL rfl));have F14:=aL (st:=aQ 30) NB NC ND;have b14:=F14.binds (ps:=["marks"]) λ_ _ _ _ _ _=>bA (λ_=>cL rfl);have F15:fT K "trace" "trace" (aQ 32) dA _ g8 [.int 50 cx]:=lP NG NH NI OZ rfl;have b15:bM K _ ["rows","boxes","most"] []:=F15.binds λ_ _ _ _ _ _ us hl=>(λ(q:us.length=3)=>by clear hl;revert us;refine bA (λ_=>bA (λ_=>bA (λ_=>cL ?_)));exact⟨_,rfl,rfl⟩) (by simpa using hl);have e15:bM K _ ["rows","boxes","most"] [.int 50 cx]:=F15.binds λ_ _ _ _ _ _ us hl=>(λ(q:us.length=2)=>by clear hl;revert us;refine bA (λ_=>bA (λ_=>cL ?_));exact⟨_,rfl,rfl⟩) (by simpa using hl);have F16:=aL (st:=aQ 33) NK NL NM;have b16:=F16.binds (ps:=["left","things"]) λ_ _ _ _ _ _=>bA (λ_=>bA (λ_=>cL rfl));have F17:=aL (st:=aQ 34) NO NP NQ;have b17:=F17.binds (ps:=["left"]) λ_ _ _ _ _ _=>bA (λ_=>cL rfl);have F18:=aL (st:=aQ 35) NS NT NU;have b18:=F18.binds (ps:=["left","boxes"]) λ_ _ _ _ _ _=>bA (λ_=>bA (λ_=>cL rfl));have F19:=aL (st:=aQ 37) NX NY NZ;have b19:=F19.binds (ps:=["_law_script","_law_k"]) λ_ _ _ _ _ _=>bA (λ_=>bA (λ_=>cL rfl));have F20:=aL (st:=aQ 38) N1 N2 N3;have b20:=F20.binds (ps:=["_law_found"]) λ_ _ _ _ _ _=>bA (λ_=>cL rfl);have F21:=aL (st:=aQ 39) N5 N6 N7;have b21:=F21.binds (ps:=["_law_cell"]) λ_ _ _ _ _ _=>bA (λ_=>cL rfl);have F22:=aL (st:=aQ 40) N9 Oa Ob;have b22:=F22.binds (ps:=["_law_thing"]) λ_ _ _ _ _ _=>bA (λ_=>cL rfl);have F23:=aL (st:=aQ 41) Od Oe Of;have b23:=F23.binds (ps:=["_law_cell","_law_names"]) λ_ _ _ _ _ _=>bA (λ_=>bA (λ_=>cL rfl));have F24:=aL (st:=aQ 42) Oh Oi Oj;have b24:=F24.binds (ps:=["_law_cell","_law_box","_law_names"]) λ_ _ _ _ _ _=>bA (λ_=>bA (λ_=>bA (λ_=>cL rfl)));have F25:=aL (st:=aQ 43) Ol Om On;have b25:=F25.binds (ps:=["_law_cells","_law_names"]) λ_ _ _ _ _ _=>bA (λ_=>bA (λ_=>cL rfl));have F26:=aL (st:=aQ 44) Op Oq Os;have b26:=F26.binds (ps:=["_law_thing"]) λ_ _ _ _ _ _=>bA (λ_=>cL rfl);have F27:=aL (st:=aQ 45) Ou Ov Ow;have b27:=F27.binds (ps:=["_law_thing","_law_having"]) λ_ _ _ _ _ _=>bA (λ_=>bA (λ_=>cL rfl));have F28:=aL (st:=aQ 46) Oy Oz OA;have b28:=F28.binds (ps:=["_law_marks_here","_law_having"]) λ_ _ _ _ _ _=>bA (λ_=>bA (λ_=>cL rfl));have F29:=aL (st:=aQ 47) OC OD OE;have b29:=F29.binds (ps:=["_law_one","_law_other"]) λ_ _ _ _ _ _=>bA (λ_=>bA (λ_=>cL rfl));have F30:=aL (st:=aQ 48) OG OH OI;have b30:=F30.binds (ps:=["_law_things","_law_having"]) λ_ _ _ _ _ _=>bA (λ_=>bA (λ_=>cL rfl));have F31:=aL (st:=aQ 49) OK OL OM;have b31:=F31.binds (ps:=["_law_having"]) λ_ _ _ _ _ _=>bA (λ_=>cL rfl);have F32:=aL (st:=aQ 50) OO OP OQ;have b32:=F32.binds (ps:=["_law_rows_here","_law_boxes","_law_most"]) λ_ _ _ _ _ _=>bA (λ_=>bA (λ_=>bA (λ_=>cL rfl)));have F33:=aL (st:=aQ 51) OS OT OU;have b33:=F33.binds (ps:=["_law_made_here","_law_boxes","_law_most","_law_due"]) λ_ _ _ _ _ _=>bA (λ_=>bA (λ_=>bA (λ_=>bA (λ_=>cL rfl))));have F34:=aL (st:=aQ 52) OW OX OY;have FM0_0:=aL (st:=bf 22 0) s0 pe pg;have bM0_0:=FM0_0.binds (ps:=["self","box","amount"]) λ_ _ _ _ _ _=>bA (λ_=>bA (λ_=>bA (λ_=>cL rfl)));have FM0_1:=aL (st:=bf 22 1) s2 pj ek;have bM0_1:=FM0_1.binds (ps:=["self","boxes"]) λ_ _ _ _ _ _=>bA (λ_=>bA (λ_=>cL rfl));have FM0_100:=aL (st:=bf 21 0) hf gg db;have bM0_100:=FM0_100.binds (ps:=["self"]) λ_ _ _ _ _ _=>bA (λ_=>cL rfl);have FM1_0:=aL (st:=bf 23 0) s6 pl pm;have bM1_0:=FM1_0.binds (ps:=["self","box","other"]) λ_ _ _ _ _ _=>bA (λ_=>bA (λ_=>bA (λ_=>cL rfl)));have FM1_1:=aL (st:=bf 23 1) s8 po el;have bM1_1:=FM1_1.binds (ps:=["self","boxes"]) λ_ _ _ _ _ _=>bA (λ_=>bA (λ_=>cL rfl));have FM1_100:=aL (st:=bf 21 0) hh gk dd;have bM1_100:=FM1_100.binds (ps:=["self"]) λ_ _ _ _ _ _=>bA (λ_=>cL rfl);have FM2_0:=aL (st:=bf 24 0) tc pt pu;have bM2_0:=FM2_0.binds (ps:=["self","box","other"]) λ_ _ _ _ _ _=>bA (λ_=>bA (λ_=>bA (λ_=>cL rfl)));have FM2_1:=aL (st:=bf 24 1) te pK em;have bM2_1:=FM2_1.binds (ps:=["self","boxes"]) λ_ _ _ _ _ _=>bA (λ_=>bA (λ_=>cL rfl));have FM2_100:=aL (st:=bf 21 0) hj gn de;have bM2_100:=FM2_100.binds (ps:=["self"]) λ_ _ _ _ _ _=>bA (λ_=>cL rfl);have FM3_0:=aL (st:=bf 25 0) ti p1 p2;have bM3_0:=FM3_0.binds (ps:=["self","box"]) λ_ _ _ _ _ _=>bA (λ_=>bA (λ_=>cL rfl));have FM3_1:=aL (st:=bf 25 1) tn p4 en;have bM3_1:=FM3_1.binds (ps:=["self","boxes"]) λ_ _ _ _ _ _=>bA (λ_=>bA (λ_=>cL rfl));have FM3_100:=aL (st:=bf 21 0) hm gp df;have bM3_100:=FM3_100.binds (ps:=["self"]) λ_ _ _ _ _ _=>bA (λ_=>cL rfl);have FM4_0:=aL (st:=bf 26 0) tv p8 qa;have bM4_0:=FM4_0.binds (ps:=["self","box","rows"]) λ_ _ _ _ _ _=>bA (λ_=>bA (λ_=>bA (λ_=>cL rfl)));have FM4_1:=aL (st:=bf 26 1) ty qn eo;have bM4_1:=FM4_1.binds (ps:=["self"]) λ_ _ _ _ _ _=>bA (λ_=>cL rfl);have FM4_2:=aL (st:=bf 26 2) t0 qu ep;have bM4_2:=FM4_2.binds (ps:=["self","boxes"]) λ_ _ _ _ _ _=>bA (λ_=>bA (λ_=>cL rfl));have FM5_0:=aL (st:=bf 27 0) t6 qx q1;have bM5_0:=FM5_0.binds (ps:=["self","loop","rounds"]) λ_ _ _ _ _ _=>bA (λ_=>bA (λ_=>bA (λ_=>cL rfl)));have FM5_1:=aL (st:=bf 27 1) t8 q3 eq;have bM5_1:=FM5_1.binds (ps:=["self"]) λ_ _ _ _ _ _=>bA (λ_=>cL rfl);have FM5_2:=aL (st:=bf 27 2) ua q5 er;have bM5_2:=FM5_2.binds (ps:=["self","boxes"]) λ_ _ _ _ _ _=>bA (λ_=>bA (λ_=>cL rfl));have FM6_0:=aL (st:=bf 28 0) u1 q7 q8;have bM6_0:=FM6_0.binds (ps:=["self","box","marks","rows"]) λ_ _ _ _ _ _=>bA (λ_=>bA (λ_=>bA (λ_=>bA (λ_=>cL rfl))));have FM6_1:=aL (st:=bf 28 1) u8 ra es;have bM6_1:=FM6_1.binds (ps:=["self"]) λ_ _ _ _ _ _=>bA (λ_=>cL rfl);have FM6_2:=aL (st:=bf 28 2) vb rd ev;have bM6_2:=FM6_2.binds (ps:=["self","boxes"]) λ_ _ _ _ _ _=>bA (λ_=>bA (λ_=>cL rfl));have FM6_3:=aL (st:=bf 28 3) vl rh ew;have bM6_3:=FM6_3.binds (ps:=["self","boxes"]) λ_ _ _ _ _ _=>bA (λ_=>bA (λ_=>cL rfl));have FM7_0:=aL (st:=bf 29 0) vs rj rn;have bM7_0:=FM7_0.binds (ps:=["self","loop","borne"]) λ_ _ _ _ _ _=>bA (λ_=>bA (λ_=>bA (λ_=>cL rfl)));have FM7_1:=aL (st:=bf 29 1) vx rp ex;have bM7_1:=FM7_1.binds (ps:=["self"]) λ_ _ _ _ _ _=>bA (λ_=>cL rfl);have FM7_2:=aL (st:=bf 29 2) v1 rr ey;have bM7_2:=FM7_2.binds (ps:=["self","boxes"]) λ_ _ _ _ _ _=>bA (λ_=>bA (λ_=>cL rfl));have T:Txt K mg:=⟨⟨f1,_,T1,_,[.int 0],F1,b1,e1,mg_of X G a1,(.cons ⟨_,rfl⟩ .nil),λ_=>(.cons (.int _) .nil)⟩,⟨f2,_,F2,b2,mg_of X G a2⟩,⟨f3,_,F3,b3,mg_of X G a3⟩,⟨f4,_,T4,_,[.int 1],F4,b4,e4,mg_of X G a4,(.cons ⟨_,rfl⟩ .nil),λ_=>(.cons (.int _) .nil)⟩,⟨f5,_,F5,b5,mg_of X G a5⟩,⟨f6,_,F6,b6,mg_of X G a6⟩,⟨f7,_,F7,b7,mg_of X G a7⟩,⟨f8,_,F8,b8,mg_of X G a8⟩,⟨f9,_,F9,b9,mg_of X G a9⟩,⟨gq,_,F10,b10,mg_of X G Ni⟩,⟨gt,_,F11,b11,mg_of X G Nn⟩,⟨gu,_,F12,b12,mg_of X G Nr⟩,⟨gw,_,F13,b13,mg_of X G Nw⟩,⟨gx,_,F14,b14,mg_of X G NA⟩,⟨dA,_,g8,_,[.int 50],F15,b15,e15,mg_of X G NE,(.cons ⟨_,rfl⟩ .nil),λ_=>(.cons (.int _) .nil)⟩,⟨gy,_,F16,b16,mg_of X G NJ⟩,⟨gA,_,F17,b17,mg_of X G NN⟩,⟨gB,_,F18,b18,mg_of X G NR⟩,⟨gC,_,F19,b19,mg_of X G NW⟩,⟨gD,_,F20,b20,mg_of X G N0⟩,⟨gI,_,F21,b21,mg_of X G N4⟩,⟨gN,_,F22,b22,mg_of X G N8⟩,⟨gO,_,F23,b23,mg_of X G Oc⟩,⟨gT,_,F24,b24,mg_of X G Og⟩,⟨gV,_,F25,b25,mg_of X G Ok⟩,⟨g0,_,F26,b26,mg_of X G Oo⟩,⟨g1,_,F27,b27,mg_of X G Ot⟩,⟨g2,_,F28,b28,mg_of X G Ox⟩,⟨g3,_,F29,b29,mg_of X G OB⟩,⟨g4,_,F30,b30,mg_of X G OF⟩,⟨g5,_,F31,b31,mg_of X G OJ⟩,⟨g6,_,F32,b32,mg_of X G ON⟩,⟨g7,_,F33,b33,mg_of X G OR⟩,⟨ai,mg_of X G O6,⟨Kg,Kh,Ki,Kj⟩,sv,sz,⟨bk,_,⟨Kk,sD,pd,Kl⟩,FM0_0,bM0_0⟩,⟨bl,_,⟨s1,pi,ek⟩,FM0_1,bM0_1⟩,⟨as,_,⟨he,ge,db⟩,FM0_100,bM0_100⟩,⟨dh,mg_of X G Km,⟨⟨_,Kn⟩,Ko,Kp⟩,Kq⟩⟩,⟨aj,mg_of X G O7,⟨Kr,Ks,Kt,Ku⟩,s3,s4,⟨bm,_,⟨Kv,s5,pk,Kw⟩,FM1_0,bM1_0⟩,⟨br,_,⟨s7,pn,el⟩,FM1_1,bM1_1⟩,⟨ax,_,⟨hg,gi,dd⟩,FM1_100,bM1_100⟩,⟨di,mg_of X G Kx,⟨⟨_,Ky⟩,Kz,KA⟩,KB⟩⟩,⟨al,mg_of X G O8,⟨KC,KD,KE,KF⟩,s9,ta,⟨bs,_,⟨KG,tb,pr,KH⟩,FM2_0,bM2_0⟩,⟨bx,_,⟨td,py,em⟩,FM2_1,bM2_1⟩,⟨az,_,⟨hi,gm,de⟩,FM2_100,bM2_100⟩,⟨dj,mg_of X G KI,⟨⟨_,KJ⟩,KK,KL⟩,KM⟩⟩,⟨a0,mg_of X G O9,⟨KN,KO,KP,KQ⟩,tg,⟨bz,_,⟨KR,th,p0,KS⟩,FM3_0,bM3_0⟩,⟨bF,_,⟨tk,p3,en⟩,FM3_1,bM3_1⟩,⟨ba,_,⟨hk,go,df⟩,FM3_100,bM3_100⟩,⟨dk,mg_of X G KU,⟨⟨_,KW⟩,KY,KZ⟩,K0⟩⟩,⟨ad,mg_of X G Pa,⟨K1,K2,K3,K4⟩,to,tr,ts,⟨b0,_,⟨K5,tt,p7,K6⟩,FM4_0,bM4_0⟩,⟨cb,_,⟨tx,qb,eo⟩,FM4_1,bM4_1⟩,⟨cd,_,⟨tA,qs,ep⟩,FM4_2,bM4_2⟩,⟨dl,mg_of X G K7,⟨⟨_,K8⟩,K9,La⟩,Lb⟩⟩,⟨an,mg_of X G Pb,⟨Lc,Ld,Le,Lf⟩,t2,t3,⟨ce,_,⟨Lg,t5,qv,Lh⟩,FM5_0,bM5_0⟩,⟨cg,_,⟨t7,q2,eq⟩,FM5_1,bM5_1⟩,⟨ch,_,⟨t9,q4,er⟩,FM5_2,bM5_2⟩,⟨ds,mg_of X G Li,⟨⟨_,Lj⟩,Lk,Ll⟩,Lm⟩⟩,⟨ab,mg_of X G Pc,⟨Ln,Lo,Lp,Lq⟩,ub,un,up,ux,⟨cl,_,⟨Lr,uy,q6,Ls⟩,FM6_0,bM6_0⟩,⟨cn,_,⟨u2,q9,es⟩,FM6_1,bM6_1⟩,⟨co,_,⟨va,rb,ev⟩,FM6_2,bM6_2⟩,⟨cp,_,⟨vf,rg,ew⟩,FM6_3,bM6_3⟩,⟨dt,mg_of X G Lu,⟨⟨_,Lv⟩,Lx,Ly⟩,Lz⟩⟩,⟨ar,mg_of X G Pd,⟨LB,LC,LD,LF⟩,vm,vn,⟨cs,_,⟨LH,vr,ri,LJ⟩,FM7_0,bM7_0⟩,⟨ct,_,⟨vu,ro,ex⟩,FM7_1,bM7_1⟩,⟨cw,_,⟨vy,rq,ey⟩,FM7_2,bM7_2⟩,⟨dx,mg_of X G LK,⟨⟨_,LL⟩,LM,LN⟩,LP⟩⟩,⟨bi,be,bj,⟨mg_of X G O0,O1⟩,⟨mg_of X G O2,O3⟩,⟨mg_of X G O4,O5⟩,sq,su,⟨⟨JY,JZ,J0⟩,⟨⟨_,J1⟩,J2,J3⟩⟩,⟨⟨J4,J5,J6⟩,⟨⟨_,J7⟩,J8,J9⟩⟩,⟨⟨Ka,Kb,Kc⟩,⟨⟨_,Kd⟩,Ke,Kf⟩⟩⟩,mg_none_of X G z1,mg_none_of X G z2,mg_none_of X G z3,mg_none_of X G z4,mg_none_of X G z5,mg_none_of X G z6,mg_none_of X G z7,mg_none_of X G z8,mg_none_of X G z9,mg_none_of X G Pe,mg_none_of X G Pf,mg_none_of X G Pg,mg_none_of X G Ph,mg_none_of X G Pj,mg_none_of X G Pk⟩;exact⟨fnOf "law" "law" (aq (aQ 52)) (ap (aQ 52)) (am (aQ 52)) .none hP hQ hR ho ez hS,λs v=> .of_eq rfl,λbase _ _=>BP T F34⟩
theorem walk {l:PySem.W.OpenLaw} {q:Program} {loose:List Str} {XP:(Str->Option Value)->Heap->Prop} {YP:World->Heap->Prop} {d:DefRec} {K:Params->yav} (hn:l.most=some 63) (hdf:d.params.defaults=[])
 (hY:∀(w:World) (h:Heap),YP w h->(K w.params).In h)
 (F:∀(w:World) (mg:yew) (fa:Addr) (h:Heap),(K w.params).In h->h.Ns mainGlobals mg->mg d.name=some (.ref fa)->
   ∃fd:FuncData,(∀(s:Shared) (u:Value),BindsTo s fd ⟨[u],[]⟩ [("_law_script",u)])/\∀base:Heap,(K w.params).In base->base.Ns mainGlobals mg->dR l.prog w (K w.params) mg base tH 100 fa fd ["_law_script"] (wm (K w.params) iC)):
 PySem.W.WalkO q loose XP YP l.row.toRowW d [] (λf vs=>PySem.call f vs):=
 L2.walk_ofC (n:=63) (k:=100) (x:="_law_script") (CX:=λ_=>tH) (sp:=λw=>wm (K w.params) iC) hn (by decide) hdf ⟨rfl,by decide,by decide⟩ hY F (λ_ _ _ _ hl hc hO hS=>pL hO hS hl hc) λ_ _ _ _ _ z=>z
end Lw
namespace PySem.W.Fast
local macro_rules | `(command| include $xs*) => do return Lean.mkNullNode (← xs.mapM fun x => `(command| theorem $x :0=0:=rfl))
include te14601306687830919511 te9240205452478725309 te13425734253275100848 te705302325978956921 te14014950589530865647 te8472461668804345543 te8139399922828870397 te4352373299695254853 te15272801366214055258 te8487392756427903210 te5607773939110007419 te177291512884318537 te9099202207630952199 te3104855492772632596 te10322036355934834248 te18275600605947695966 te14652167861694220783 te1521853109344079293 te256187818614918754 te3225787055228244369 te17255131565395235478 te5488034147394829414 te3287232091297391955 te8578684214094083276 te5888049570849372174 te9105303766316935048 te17295550919918245373 te13208073543197985844 te5524416871580595596 te16088794757040455473 te443096369980752545 te1291616120949754205 te12836127110824987251 te12192885236058506136 te1977608830562534789 te2815457404758912633 te2774656777097150584 te6244469422304343906 te604987462725221909 te9116727542585433963 te7083643917736006916 te7013378613277429789 te11732622733111873831 te2187293162029910276 te1898205396352177627 te11849819956643572757 te1391595231322964318 te9439145875277554834 te16446110636890032009 te11493640688937172643 te9267529525133063937 te2755867724191507779 te6561230755279162045 te13089454385699201552 te4094580802731085870 te16739834447406317818 te5235906271213711846 te16781456957082370155 te7401174146989653891 te9568364226787644933 te1314225051951501598 te3397856340009945264 te10501694990676967507 te17945786041583791686 te7851225159932084341 te17579554792082656039 te5167113568976944901 te16508012873575744869 te10903931196113510133 te3441055826167824287 te6674730737536667785 te196308106595895770 te9671223238177245315 te17124801762309076849 te11134373448090702478 te863474106192527936 te13852918119374279269 te5993620104913093118 te5964025461563729736 te1738077529662339744 te4712002808269968190 te10413913490369149245 te1196893811101797992 te5216755454545755356 te17895251041198215376 te13360685164395479502 te16641522454414399981 te7341273144103309973 te14428947916050587756 te10586132702236920563 te10074659654656464607 te17397522743225098203 te5404193855548299008 te10894186909420482404 te2164821542551773340 te11818266408740948334 te18249062668337411549 te3943316985416729854 te3279573708209210846 te672128756546593970 te1421380949547555104 te13623108476587331960 te17145079001719945048 te10630994215007341311 te8304431681403428266 te9909833389946041055 te16445601971161267883 te11473181916574218468 te18345587945850682677 te1175392272813816714 te9508980389842182975 te15648460830330493998 te9057221798574437272 te1635810828394165411 te5609966711388275518 te12218421479034371367 te10216313421946200882 te4781865123821185745 te8296964787326670116 te5583107648095574273 te3200131295500781371 te17202988113272912217 te12924283757543731452 te15603699479713392354 te5391889611084865311 te6408871315416876249 te438691985625750256 te15271718116350506837 te11507758981465812221 te2331752841256449406 te15434925967770093015 te13408892543645369322 te15122966374951177976 te2454450762733825266 te14733434230049195945 te6760452710504929567 te17888476507948424083 te11146201333868676571 te6726788885857459951 te9377129492328942316 te2668825566383482431 te1176467391930128742 te9458083798712703987 te14723724159799423558 te13797216316134833802 te10869107622243162254 te10345032061067078355 te11389081476703755772 te16250046519646398019 te9512919179962729837 te15412342333254088161 te2323449753723691607 te14270510507828954006 te8131850140422647941 te5924860228681346610 te16543733942855940141 te13774246240067471435 te10837416886973265079 te17636875568080092713 te9589064628473353468 te3787550316038807598 te7578626026835576593 te11254927055239040778 te4145564438048960181 te10401012341505565972 te2034982524120310908 te13100003098816880195 te4414421759430302635 te4309249138831568558 te852732962484077938 te16885888590950397595 te13877687364391690122 te7676606083356386285 te7201377484588940700 te3895005304492913537 te6902360602169924100 te650530520310405244 te1454798829415959983 te734508673036135322 te9874967077116163108 te13291339213343067560 te6513526141712289952 te958145104886854561 te17860891480703622352 te10454511346477257182 te10026110056389751678 te5327573036338613530 te12268507582516756211 te8146337703987181790 te9076502824180944014 te9150236429970871684 te10115707754645557344 te8628965376964665126 te2979242929705481092 te6653266026649216352 te2001871833205021416 te1186791439087984146 te12344950282964963594 te14588997123484458764 te7456496790488468270 te9425217206804378361 te17150103964962838686 te8392822219427710936 te8918866755450425826 te17948678987167253870 te3972055463330823793 te8594153784221927196 te9183449507154677039 te13537307432496184176 te18136984329884392117 te4926067721911894801 te3595428400336433503 te15333183851060709236 te15890290595605404708 te12936248026283747049 te11692942067129596145 te2047223482193295744 te2603225508560543163 te2029599355078268282 te12177555669661501132 te181538566230997745 te14699252806888161418 te16078862993146491671 te11440681135143536545 te8554491347963653912 te11136996778905308880 te5596482164058656827 te9985402024371489300 te3349214103799495681 te13209252519650690430 te17207706476661217781 te17112579578546394604 te13336781945484116849 te15916626797405444159 te82273318699705065 te1062490453450019425 te14901461714278891847 te8053696300916887779 te11412883722162569039 te3737823538850767428 te14818126959175187862 te12767786263392244000 te9762577803542882116 te711340212941672806 te8553103779066463883 te8132902388332939977 te15741497841397654502 te15206144622340800706 te7730005173135859051 te5645338221913497339 te1274395531859134606 te221145824347596576 te15812774168393262522 te15145816783648901417 te14380598104330206667 te7427345456110627160 te16375457352064171683 te15685707732368986338 te11294713792631146123 te3079800032743338252 te4954812507248989348 te12863024640066097011 te4545022487567551533 te12552925203190847047 te1236915160270351635 te8453375170798464211 te5531827434689568976 te12678417493822943646 te9443788991257863053 te14316702141938784251 te260124329688783705 te15198806053198916325 te6630355318736891145 te2206055503397106021 te5389141280455577835 te13695575391008756698 te9655552241628361605 te3197616088834613162 te9267547699266776963 te3403277054444251852 te9921070931641246224 te1142580805625213715 te2743003777318071002 te253143429699487375 te7189748373873771435 te12528807129492848182 te7176712983548020962 te11015653596098368862 te10715684217670234368 te2905370773148157683 te14918798991204401877 te16641923719685231244 te3630978163380229341 te4571195457681052339 te9478433098037477134 te4850470493825614814 te13518357041365446896 te6907623362660931020 te12189798288469879400 te17984322025368293054 te3047182852967510370 te663669404422417949 te900141851870226306
noncomputable def tw15453965340027220866:Unit:=()
noncomputable def tw15308751979961590435:Unit:=()
noncomputable def tw8109462068583892236:Unit:=()
noncomputable def tw4038915354535551694:Unit:=()
noncomputable def tw1593302168919593902:Unit:=()
noncomputable def tw9488173374462701487:Unit:=()
noncomputable def tw7192208766779567950:Unit:=()
noncomputable def tw12141255822321108317:Unit:=()
noncomputable def tw11995944447974956327:Unit:=()
noncomputable def tw3983099701750367137:Unit:=()
noncomputable def tw15662754883245161732:Unit:=()
noncomputable def tw741227790184956774:Unit:=()
noncomputable def tw17961941036451491944:Unit:=()
noncomputable def tw5467295073637830568:Unit:=()
noncomputable def tw15274125624399572745:Unit:=()
noncomputable def tw12477613798804614349:Unit:=()
noncomputable def tw6354882077036753518:Unit:=()
noncomputable def tw16541343675963834258:Unit:=()
noncomputable def tw14792031574936583219:Unit:=()
noncomputable def tw16489670504511878868:Unit:=()
noncomputable def tw11011382673428142326:Unit:=()
noncomputable def tw10902936775178499606:Unit:=()
noncomputable def tw8011217790205360726:Unit:=()
noncomputable def tw9164034962068743896:Unit:=()
noncomputable def tw16656981040180287577:Unit:=()
noncomputable def tw1967408861893586169:Unit:=()
noncomputable def tw10814714659912589753:Unit:=()
noncomputable def tw12856056607593001822:Unit:=()
noncomputable def tw18194316377270240095:Unit:=()
end PySem.W.Fast
open PySem PySem.W PyProof.Rows
set_option maxRecDepth 100000 in
set_option maxHeartbeats 0 in
theorem PySem.Challenge.cw_hydrahouse_k63_whiles_holds : PySem.Challenge.rw_hydrahouse_k63_whiles.Holds := by
 w_on;o_law;k_head;(case hw=>w_witness2)
 k_fill
 refine Lw.walk (l:=PySem.Challenge.rw_hydrahouse_k63_whiles) rfl rfl (λw h Y=>PySem.W.kIn_of Y) ?F
 case F=>
  intro w mg fa h KX G hmg;refine' Lw.all_mk KX G hmg ?a1 ?l1 ?c1 ?k1 ?a2 ?l2 ?c2 ?k2 ?a3 ?l3 ?c3 ?k3 ?a4 ?l4 ?c4 ?k4 ?a5 ?l5 ?c5 ?k5 ?a6 ?l6 ?c6 ?k6 ?a7 ?l7 ?c7 ?k7 ?a8 ?l8 ?c8 ?k8 ?a9 ?l9 ?c9 ?k9 ?Ni ?Nj ?Nk ?Nl ?Nn ?No ?Np ?Nq ?Nr ?Nt ?Nu ?Nv ?Nw ?Nx ?Ny ?Nz ?NA ?NB ?NC ?ND ?NE ?NG ?NH ?NI ?NJ ?NK ?NL ?NM ?NN ?NO ?NP ?NQ ?NR ?NS ?NT ?NU ?NW ?NX ?NY ?NZ ?N0 ?N1 ?N2 ?N3 ?N4 ?N5 ?N6 ?N7 ?N8 ?N9 ?Oa ?Ob ?Oc ?Od ?Oe ?Of ?Og ?Oh ?Oi ?Oj ?Ok ?Ol ?Om ?On ?Oo ?Op ?Oq ?Os ?Ot ?Ou ?Ov ?Ow ?Ox ?Oy ?Oz ?OA ?OB ?OC ?OD ?OE ?OF ?OG ?OH ?OI ?OJ ?OK ?OL ?OM ?ON ?OO ?OP ?OQ ?OR ?OS ?OT ?OU ?OV ?OW ?OX ?OY ?t1 ?t4 ?OZ ?O0 ?O1 ?O2 ?O3 ?O4 ?O5 ?sq ?su ?JY ?JZ ?J0 ?J1 ?J2 ?J3 ?J4 ?J5 ?J6 ?J7 ?J8 ?J9 ?Ka ?Kb ?Kc ?Kd ?Ke ?Kf ?O6 ?Kg ?Kh ?Ki ?Kj ?Kk ?Kl ?sv ?sz ?sD ?pd ?s0 ?pe ?pg ?s1 ?pi ?s2 ?pj ?ek ?he ?ge ?hf ?gg ?db ?Km ?Kn ?Ko ?Kp ?Kq ?O7 ?Kr ?Ks ?Kt ?Ku ?Kv ?Kw ?s3 ?s4 ?s5 ?pk ?s6 ?pl ?pm ?s7 ?pn ?s8 ?po ?el ?hg ?gi ?hh ?gk ?dd ?Kx ?Ky ?Kz ?KA ?KB ?O8 ?KC ?KD ?KE ?KF ?KG ?KH ?s9 ?ta ?tb ?pr ?tc ?pt ?pu ?td ?py ?te ?pK ?em ?hi ?gm ?hj ?gn ?de ?KI ?KJ ?KK ?KL ?KM ?O9 ?KN ?KO ?KP ?KQ ?KR ?KS ?tg ?th ?p0 ?ti ?p1 ?p2 ?tk ?p3 ?tn ?p4 ?en ?hk ?go ?hm ?gp ?df ?KU ?KW ?KY ?KZ ?K0 ?Pa ?K1 ?K2 ?K3 ?K4 ?K5 ?K6 ?to ?tr ?ts ?tt ?p7 ?tv ?p8 ?qa ?tx ?qb ?ty ?qn ?eo ?tA ?qs ?t0 ?qu ?ep ?K7 ?K8 ?K9 ?La ?Lb ?Pb ?Lc ?Ld ?Le ?Lf ?Lg ?Lh ?t2 ?t3 ?t5 ?qv ?t6 ?qx ?q1 ?t7 ?q2 ?t8 ?q3 ?eq ?t9 ?q4 ?ua ?q5 ?er ?Li ?Lj ?Lk ?Ll ?Lm ?Pc ?Ln ?Lo ?Lp ?Lq ?Lr ?Ls ?ub ?un ?up ?ux ?uy ?q6 ?u1 ?q7 ?q8 ?u2 ?q9 ?u8 ?ra ?es ?va ?rb ?vb ?rd ?ev ?vf ?rg ?vl ?rh ?ew ?Lu ?Lv ?Lx ?Ly ?Lz ?Pd ?LB ?LC ?LD ?LF ?LH ?LJ ?vm ?vn ?vr ?ri ?vs ?rj ?rn ?vu ?ro ?vx ?rp ?ex ?vy ?rq ?v1 ?rr ?ey ?LK ?LL ?LM ?LN ?LP ?z1 ?z2 ?z3 ?z4 ?z5 ?z6 ?z7 ?z8 ?z9 ?Pe ?Pf ?Pg ?Ph ?Pj ?Pk
  case a1|l1|c1|k1|a2|l2|c2|k2|a3|l3|c3|k3|a4|l4|c4|k4|a5|l5|c5|k5|a6|l6|c6|k6|a7|l7|c7|k7|a8|l8|c8|k8|a9|l9|c9|k9|Ni|Nj|Nk|Nl|Nn|No|Np|Nq|Nr|Nt|Nu|Nv|Nw|Nx|Ny|Nz|NA|NB|NC|ND|NE|NG|NH|NI|NJ|NK|NL|NM|NN|NO|NP|NQ|NR|NS|NT|NU|NW|NX|NY|NZ|N0|N1|N2|N3|N4|N5|N6|N7|N8|N9|Oa|Ob|Oc|Od|Oe|Of|Og|Oh|Oi|Oj|Ok|Ol|Om|On|Oo|Op|Oq|Os|Ot|Ou|Ov|Ow|Ox|Oy|Oz|OA|OB|OC|OD|OE|OF|OG|OH|OI|OJ|OK|OL|OM|ON|OO|OP|OQ|OR|OS|OT|OU|OV|OW|OX|OY|t1|t4|OZ|O0=>k_is
  (case O1=>k_exc)
  case O2=>k_is
  (case O3=>k_exc)
  case O4=>k_is
  (case O5=>k_exc)
  case sq|su|JY|JZ|J0|J1|J2|J3|J4|J5|J6|J7|J8|J9|Ka|Kb|Kc|Kd|Ke|Kf|O6|Kg|Kh|Ki|Kj|Kk|Kl|sv|sz|sD|pd|s0|pe|pg|s1|pi|s2|pj|ek|he|ge|hf|gg|db|Km|Kn|Ko|Kp|Kq|O7|Kr|Ks|Kt|Ku|Kv|Kw|s3|s4|s5|pk|s6|pl|pm|s7|pn|s8|po|el|hg|gi|hh|gk|dd|Kx|Ky|Kz|KA|KB|O8|KC|KD|KE|KF|KG|KH|s9|ta|tb|pr|tc|pt|pu|td|py|te|pK|em|hi|gm|hj|gn|de|KI|KJ|KK|KL|KM|O9|KN|KO|KP|KQ|KR|KS|tg|th|p0|ti|p1|p2|tk|p3|tn|p4|en|hk|go|hm|gp|df|KU|KW|KY|KZ|K0|Pa|K1|K2|K3|K4|K5|K6|to|tr|ts|tt|p7|tv|p8|qa|tx|qb|ty|qn|eo|tA|qs|t0|qu|ep|K7|K8|K9|La|Lb|Pb|Lc|Ld|Le|Lf|Lg|Lh|t2|t3|t5|qv|t6|qx|q1|t7|q2|t8|q3|eq|t9|q4|ua|q5|er|Li|Lj|Lk|Ll|Lm|Pc|Ln|Lo|Lp|Lq|Lr|Ls|ub|un|up|ux|uy|q6|u1|q7|q8|u2|q9|u8|ra|es|va|rb|vb|rd|ev|vf|rg|vl|rh|ew|Lu|Lv|Lx|Ly|Lz|Pd|LB|LC|LD|LF|LH|LJ|vm|vn|vr|ri|vs|rj|rn|vu|ro|vx|rp|ex|vy|rq|v1|rr|ey|LK|LL|LM|LN|LP|z1|z2|z3|z4|z5|z6|z7|z8|z9|Pe|Pf|Pg|Ph|Pj|Pk=>k_is
